import PyProof.Rows.All
import Wide.All
import OpenK.AllK
import Wide.FinOn
import Lean
import PyProof.EqAt
import PyProof.EqKinds
import PyProof.TupleCall
import PyProof.NeKinds
import PyProof.TupleKey
import PyProof.DictFindH
import PyProof.NsDelKeeps
import PyProof.ExcBaseAll.ValueError
import KE.KIsAll
import PyProof.ExcArgsOwn
import PyProof.ExcAttrAll.ValueError
import KE.KDictList
import PyProof.Rows.SortWalk
import KE.KSortTup
import KE.KEqDict
import KE.KLam
import KE.KRevIter
import PyProof.InstStoreFacts
import PyProof.ExcClass3
import PyProof.StrLawsTight
import PyProof.FitsReplace
import PyProof.Rows.SumAny
import KE.KFind
import PyProof.MeetsStr
import PyProof.StrLawsJoin
import PyProof.JoinWalk
import KE.KIntText
import KE.IntTextLaws
import PyProof.Rows.StrNews2
import PyProof.Rows.StrLawsPart
import PyProof.Rows.StrFirst
import PyProof.StrLawsChain
import PyProof.Rows.StrItems
import PyProof.Rows.Range3
import PyProof.InstEq
import PyProof.SetKind
import PyProof.Rows.SetFrom
import PySem.Challenge.RW_twigmap_k92_read
open PySem renaming wpAny_bind→aa,wpAny_pure→ad,wpAny_mono→ae,wpAny_holding→af,wpAny_Call_Name_kw→ag,wpAny_rule→ah,Value→ai,Addr→aj,Shared→am,Program→ao,FuncData→ap,mainGlobals→aq,sizeLine→ar,starEach→aw,World→ax,Around→ay,bootBuiltins→az,compareOp→aA,model→aB,wpAny→aC,Heap→aD,backTo→aE,eval→aF,Obj→aG
universe u
local macro_rules(kind:=Lean.Parser.Command.declaration)|d=>if d.getPos?.isSome then return d.rewriteBottomUp (·.setInfo .none) else Lean.Macro.throwUnsupported
noncomputable section
set_option compiler.extract_closed false
def aH{p:Prop}[Decidable p](h:¬p):decide p=false:=decide_eq_false h
def aI{p:Prop}[Decidable p](h:p):decide p=true:=decide_eq_true h
def aJ{c:Prop}{h:Decidable c}(n:¬c){α:Sort u}{t e:α}:(ite c t e)=e:=if_neg n
def aK{c:Prop}{h:Decidable c}(n:c){α:Sort u}{t e:α}:(ite c t e)=t:=if_pos n
set_option Elab.async false
set_option linter.all false
set_option maxRecDepth 100000
set_option maxHeartbeats 8000000
open List renaming length_map->zY,getElem?_eq_getElem->zV,getD_eq_getElem?_getD->zQ,length_append->zT,length_cons->zU,mem_cons_self->zO,mem_cons_of_mem->zJ,getElem?_eq_some_iff->yY,mem_singleton->zN,mem_of_getElem?->zG,size_toArray->zM,take_of_length_le->yS,getElem?_map->zC,all_eq_true->zE,take_add_one->yW,mem_cons->zI,map_append->yZ,mem_append->yU,mem_range->yX,map_cons->zB,mem_append_right->yC,range->zF,mem_map->yR,getElem?_append_right->wZ,flatMap_cons->yI,mem_append_left->xV,length_take->yK,getElem?_append_left->xA,getElem_mem->yD,append_assoc->xW,length_nil->yA,length_pos_iff->xJ,drop_eq_getElem_cons->wA,pairwise_append->wY,length_drop->xR,eq_nil_of_length_eq_zero->vI,take_append_drop->wF,take_length->xK,filter_cons->xL,length_range->xE,range_succ->xN,nodup_cons->xO,not_mem_nil->xF,lookup_cons->xG,length_singleton->vP,replicate->xI,map_map->xU,cons_lt_cons_iff->vJ,pairwise_cons->vQ,getElem?_take_of_lt->uO,filter_append->vR,count_pos_iff->vS,nodup_nil->wW,mem_filter->wJ,flatMap_append->vK,append_nil->wK,take_zero->wO,extract_eq_take_drop->tU,drop_zero->wP,drop_drop->wQ,count_cons_self->uQ,toArray->wX,length->xC,mem_flatMap->vG,cons_append->vH,getElem?_drop->uM,dropLast_concat_getLast->sQ,reverse_perm->uU,nodup_append->uV,mem_of_mem_take->tX,take_succ_cons->tZ,map_eq_nil_iff->uA,map_congr_left->uB,mem_filterMap->uC,find?_cons->uW,all_cons->vN,length_take_of_le->sZ,lookup->vY,mem_iff_getElem?->tE,mem_of_mem_drop->tG,any_cons->uZ,not_lt_nil->uJ,Perm->wR,flatMap->vC,pairwise_iff_getElem->qX,pairwise_map->tH,sum_cons->tV,getLast_eq_getElem->qN,mem_reverse->sT,flatMap_map->sU,drop_length->sV,length_pos_of_mem->qQ,drop_eq_nil_of_le->qR,pairwise_reverse->rG,map_nil->uK,length_filter_le->rH,getElem?_eq_none->rJ,eq_nil_or_concat->rK,count_cons_of_ne->rL,concat_eq_append->rM,all_map->uL,replicate_succ'->rO,toList_toArray->rQ,reverse_append->rR,filterMap_cons->rS,eraseIdx_eq_take_drop_succ->qA,count_append->sC,nil_lt_cons->sH,getElem_inj->sI,countP_cons->sJ,any_eq_true->sK,of_mem_zip->sL,foldl_cons->sM,drop_left->rD,map_take->rF,map_drop->zEA,Pairwise->zEB,getElem_cons_drop->zEE,getElem?_set_self->zEF,drop_of_length_le->zEG,append_eq_nil_iff->zEH,perm_append_comm->zEK,pairwise_flatMap->zEL,filterMap_append->zEM,countP_mono_left->zEN,Sublist->zEO
open PySem.W renaming Frag->zZ,findIn->yT,nsIn->zA,mg_none_of->yH,kitOne->yG,keepIn->xZ,mg_of->yE,fnOf->yF,kia_one->xH,emptyDict->wH,codeIn->wN,instObj->vT,plainGet->vM,hasDictIn->uS,isFn->vV,plainOver->uD,kas_item->uF,makesIn->uG,lookIn->tK,KdlSrc->tM,plainGet_of->rN,callWith_K->rP,specialIn->rV,methodObj->rW,takesIn->sE,takerIn->sF,OpenLaw->sG,mroIn->sN,cellsFrom_some->pT,methodCall_KW->pX,callWith_K0->zEC
open Nat renaming le_of_ble_eq_true->zR,le_refl->zX,lt_of_lt_of_le->yQ,le_trans->zK,zero_le->zH,le_of_lt->yV,ne_of_lt->yN,exists_eq_add_of_le->wD,add_sub_cancel_left->wE,toDigits->yJ,le_add_right->xM,le_of_not_lt->wU,lt_irrefl->xP,min_eq_left->wV,min_eq_right->wI,lt_or_ge->xQ,not_lt_zero->wM,lt_of_le_of_lt->uN,mul_le_mul_right->tY,lt_trans->vW,zero_add->vO,succ_le_succ->uH,lt_succ_self->uI,add_assoc->vB,lt_of_add_lt_add_left->rA,le_of_add_le_add_left->rC,lt_succ_of_le->sS,toDigits_of_lt_base->qP,add_le_add_left->rX,eq_zero_or_pos->rZ,succ_mul->tP,le_of_eq->tQ,toDigits_append_toDigits->qH,strongRecOn->sO,le_succ->tJ,length_toDigits_pos->zED
open Bool renaming false_ne_true->zS,and_eq_true->zP,false_eq_true->wT,eq_iff_iff->wL,eq_false_iff->uE,false_and->uY,true_and->vA,not_eq_true'->tI,not_true->tN
open PySem.Str renaming ofString->zW,length->vE
open PySem.Heap renaming get?_push_of_some->zD,get?_push_size->yP,lt_size->zL,SameBut->xX,get?_update_self->tF,size_push->rE,get?_update_other->zEI
open Array renaming getElem?_toList->yO,length_toList->yM,getElem?_eq_getElem->vZ,toList_append->wG,toList_inj->vF,toList_push->uT,toList_extract->tW,perm_iff_toList_perm->qU,forIn_toList->rY,toList_eraseIdxIfInBounds->pZ,toList_setIfInBounds->qI,toList->zEJ,toList_reverse->zEP,toArray_toList->zEQ
open PySem.F renaming plainAttrs_list->yB,type_list_append->wB,slot_list_append->wC,plainAttrs_str->uP,slot_str_join->tS,slot_dict_keyiterator_next->qS,slot_tuple_hash->sW,slot_str_split->sX,type_str_join->sY,args_str_split_2->qV,plainAttrs_dict->qY,entry_str_split->qZ,slot_dict_get->qO,slot_str_partition->qB,type_list_insert->qC,type_list_extend->qD,slot_list_insert->qE,slot_list_extend->qF,slot_dict_values->qG,type_list_count->qJ,slot_list_count->qK,plain_list_iadd->qL,args_dict_get_3->qM,slot_dict_iter->pU,entry_dict_get->pV,slot_dict_pop->pY
open Option renaming map_eq_some_iff->xY,some->yL,map_some->vU,isSome_iff_exists->qW,none->tO
open Int renaming eq_ofNat_of_zero_le->xB,toNat_natCast->vL,zero_add->wS,le_refl->xD,emod_lt_of_pos->uR,le_of_lt->vX,emod_nonneg->uX,le_trans->vD,fdiv_eq_ediv_of_nonneg->pW
open PyProof.Rows renaming wpS_bind->kA,wpS_pure->kB,arrOf->kC,SortSt->kD,pendingOf->kE,wpS_forRange->kF,wpS_mono->kH,Keyed->kI,setArr->kJ
local macro_rules|`(tactic|exists $e,*)=>`(tactic|refine ⟨$e,*, ?_⟩)
def Z{α:Sort u}{a:α}:a=a:=rfl
local macro_rules|`(∅)=>`(by lia)
local macro_rules|`(tactic|let $d:letDecl)=>let n:=d.raw[0];let l(s:Lean.Syntax)k:Lean.Syntax:=.node .none `Lean.Parser.Tactic.rcasesPatLo #[.node .none `Lean.Parser.Tactic.rcasesPatMed #[Lean.mkNullNode #[.node .none k s.getArgs]],Lean.mkNullNode];if n.getKind== ``Lean.Parser.Term.letPatDecl then let m:Lean.TSyntax `Lean.Parser.Tactic.rcasesPatMed:=⟨(n[0].rewriteBottomUp λs=>match s.getKind with|`ident=>l (Lean.mkNullNode #[s]) `Lean.Parser.Tactic.rcasesPat.one|`Lean.Parser.Term.hole=>l s `Lean.Parser.Tactic.rcasesPat.ignore|`Lean.Parser.Term.anonymousCtor=>l s `Lean.Parser.Tactic.rcasesPat.tuple|_=>s)[0]⟩;`(tactic|obtain $m:rcasesPatMed:=$(⟨n[4]⟩)) else `(tactic|have $d:letDecl)
abbrev ja:=PySem.Value->PySem.Shared->Prop
abbrev jd:=PySem.Str->Option PySem.Value
abbrev jf:=Option PySem.Value
abbrev jg:=List PySem.Value
abbrev zEa:List PySem.Str:=["self","number"]
abbrev zEb:List PySem.Str:=["_law_shelf","_law_twigs","_law_number","_law_at","_law_places"]
abbrev zEc:List PySem.Str:=["shelf","root"]
abbrev zEd:List PySem.Str:=["_law_well_here","_law_many"]
abbrev zEe:List PySem.Str:=["_law_found","_law_due"]
abbrev zEf:List PySem.Str:=["text","at"]
abbrev zEg:List PySem.Str:=["_law_shelf","_law_tables","_law_twigs","_law_stops","_law_places"]
abbrev zEh:List PySem.Str:=["_law_well_here","_law_room"]
abbrev zEi:List PySem.Str:=["_law_well_here"]
abbrev zEj:List PySem.Str:=["self","numbers"]
abbrev zEk:List PySem.Str:=["numbers","text","at"]
abbrev zEl:List PySem.Str:=["_law_spot"]
abbrev zEm:List PySem.Str:=["_law_shelf","_law_twigs","_law_stops","_law_places"]
abbrev zEn:List PySem.Str:=["text","at","room"]
abbrev zEo:List PySem.Str:=["self"]
abbrev zEp:List PySem.Str:=["_law_well_here","_law_twigs","_law_high"]
abbrev zEq:List PySem.Str:=["shelf","numbers","words","at"]
abbrev zEr:List PySem.Str:=["_law_well_here","_law_bound"]
abbrev zEs:List PySem.Str:=["rows"]
abbrev zEt:List PySem.Str:=["self","shelf","root"]
abbrev zEu:List PySem.Str:=["_law_well_here","_law_twigs"]
abbrev zEv:List PySem.Str:=["self","things","label"]
abbrev zEw:List PySem.Str:=["_law_numbers","_law_twigs"]
abbrev zEx:List PySem.Str:=["sign"]
abbrev zEy:List PySem.Str:=["thing","room"]
abbrev zEz:List PySem.Str:=["self","things","tag"]
abbrev zE0:List PySem.Str:=["self","stem","branches"]
abbrev zE1:List PySem.Str:=["shelf","numbers","many"]
abbrev zE2:List PySem.Str:=["label","following"]
abbrev zE3:List PySem.Str:=["shelf","text","at"]
abbrev zE4:List PySem.Str:=["shelf","branches","at"]
abbrev zE5:List PySem.Str:=["_law_script","_law_k"]
abbrev zE6:List PySem.Str:=["thing"]
abbrev zE7:List PySem.Str:=["one","other"]
abbrev zE8:List PySem.Str:=["self","rows"]
abbrev zE9:List PySem.Str:=["self","number","twig"]
abbrev zFa:List PySem.Str:=["things","at"]
abbrev zFb:List PySem.Str:=["found"]
abbrev zFc:List PySem.Str:=["_law_end"]
abbrev zFd:List PySem.Str:=["number"]
abbrev zFe:List PySem.Str:=["key"]
abbrev zFf:List PySem.Str:=["_law_twig"]
abbrev zFg:List PySem.Str:=["row","at"]
abbrev zFh:List PySem.Str:=["_law_script"]
abbrev jK:=List Nat
abbrev jL:=Array PyProof.Rows.Keyed
abbrev jO:=List (aj×aG)
abbrev jP:=List PySem.Str
abbrev jQ:=Option Nat
abbrev jR:=List aj
abbrev jS:=List PyProof.Rows.Keyed
abbrev jU:=List PySem.Expr
abbrev jV:=Array ai
abbrev jX:=List Int
abbrev jY:=Option aj
abbrev jZ:=Option Int
abbrev kg:=List PySem.Env
abbrev kj:=List (PySem.Str×aj)
abbrev ko:=Array (Nat×Nat×Nat)
abbrev ku:=List (PySem.Str×ai)
abbrev kz:=Option Bool
namespace L2
open PySem PySem.Spec PyProof.Rows
abbrev Zi:=Sum Int Str
abbrev jW:=List Zi
def PN:Zi->ai->Bool
 | .inl k,v=>Value.isInt k v
 | .inr x,v=>Value.isStrOf x v
def EQ(w:ax):Zi->Int
 | .inl k=>hashInt k
 | .inr x=>hashStr w x
def QH:∀{k:Zi}{v:ai},PN k v=true->(∃ i t,k=Sum.inl i/\v=Value.int i t)\/(∃ x t,k=Sum.inr x/\v=Value.str x t)
 | .inl i,v,h=>by
  let⟨t,e⟩:=Value.isInt_shape (k:=i) (v:=v) h;exact .inl ⟨i,t,Z,e⟩
 | .inr x,v,h=>by
  let⟨t,e⟩:=Value.isStrOf_shape (x:=x) (v:=v) h;exact .inr ⟨x,t,Z,e⟩
def BE(i:Int)(t:Tok):PN (.inl i) (.int i t)=true:=by simp[PN,Value.isInt]
def ZJ2(x:Str)(t:Tok):PN (.inr x) (.str x t)=true:=by simp[PN,Value.isStrOf]
def ZPO(a b:Int):decide ((Sum.inl a:Zi)=Sum.inl b)=(a==b):=by
 by_cases e:a=b
 ·subst e;simp
 ·let h:¬ (Sum.inl a:Zi)=Sum.inl b:=λq=>e (Sum.inl.inj q);rw[aH h];exact(beq_eq_false_iff_ne.mpr e).symm
def ZPY(a b:Str):decide ((Sum.inr a:Zi)=Sum.inr b)=decide (a=b):=by
 by_cases e:a=b
 ·subst e;simp
 ·let h:¬ (Sum.inr a:Zi)=Sum.inr b:=λq=>e (Sum.inr.inj q);rw[aH h,aH e]
def A2(a:Int)(b:Str):decide ((Sum.inl a:Zi)=Sum.inr b)=false:=aH (λq=>nomatch q)
def ZPs(a:Str)(b:Int):decide ((Sum.inr a:Zi)=Sum.inl b)=false:=aH (λq=>nomatch q)
def WU(prog:ao)(w:ax):PySem.KeyKind prog w Zi where
 is:=PN
 hash:=EQ w
 inj:=λv a b ha hb=>by
  rcases QH ha with ⟨i,t,rfl,rfl⟩ | ⟨x,t,rfl,rfl⟩
  ·rcases QH hb with ⟨j,u,rfl,e⟩ | ⟨y,u,rfl,e⟩
   ·injection e with e1 _;rw[e1]
   ·exact nomatch e
  ·rcases QH hb with ⟨j,u,rfl,e⟩ | ⟨y,u,rfl,e⟩
   ·exact nomatch e
   ·injection e with e1 _;rw[e1]
 byValue:=λk v h=>by
  rcases QH h with ⟨i,t,rfl,rfl⟩ | ⟨x,t,rfl,rfl⟩ <;> rfl
 pyHash:=λhv h=>by
  rcases QH hv with ⟨i,t,rfl,rfl⟩ | ⟨x,t,rfl,rfl⟩
  ·exact wpAny_pyHash_int h
  ·exact wpAny_pyHash_str h
 eqBool:=λhu hv h=>by
  rcases QH hu with ⟨i,t,rfl,rfl⟩ | ⟨x,t,rfl,rfl⟩
  ·rcases QH hv with ⟨j,u,rfl,rfl⟩ | ⟨y,u,rfl,rfl⟩
   ·rw[ZPO] at h;exact wpAny_eqBool_int h
   ·rw[A2] at h;exact SeqAt.EqAt.int_str i t y u _ _ _ _ h
  ·rcases QH hv with ⟨j,u,rfl,rfl⟩ | ⟨y,u,rfl,rfl⟩
   ·rw[ZPs] at h;exact SeqAt.EqAt.str_int x t j u _ _ _ _ h
   ·rw[ZPY] at h;exact wpAny_eqBool_str h
 «strs» :=λk x t v h=>by
  rcases QH h with ⟨i,u,rfl,e⟩ | ⟨y,u,rfl,e⟩
  ·exact nomatch e
  ·injection e with e1 _;subst e1;cases v <;> rfl
def Bc(prog:ao)(w:ax)(i:Int)(t:Tok):(WU prog w).is (.inl i) (.int i t)=true:=BE i t
def ZGg(prog:ao)(w:ax)(x:Str)(t:Tok):(WU prog w).is (.inr x) (.str x t)=true:=ZJ2 x t
inductive V where
 | non | bl (b:Bool) | int (i:Int) | str (x:Str) | byt (b:Array UInt8) | flt (b:UInt64) | ref (a:aj) | ty (n:String)
 deriving DecidableEq
abbrev jh:=List V
abbrev ji:=Option V
def ZT:V->ai->Prop
 | .non,u=>u=Value.none
 | .bl b,u=>u=Value.bool b
 | .int i,u=>∃ t,u=Value.int i t
 | .str x,u=>∃ t,u=Value.str x t
 | .byt b,u=>∃ t,u=Value.bytes b t
 | .flt b,u=>∃ t,u=Value.float b t
 | .ref a,u=>u=Value.ref a
 | .ty n,u=>u=Value.type n
abbrev ZR:jh->jg->Prop:=Paired ZT
def ZR.length{xs:jh}{us:jg}(r:ZR xs us):xs.length=us.length:=Paired.length r
def ZR.get:∀{xs:jh}{us:jg}{i:Nat}{x:V},ZR xs us->xs[i]? = some x->∃ u,us[i]? = some u/\ZT x u
 | _,_,_,_,.nil,e=>by simp at e
 | _,_,0,_,.cons r _,e=>by simp at e;subst e;exact⟨_,Z,r⟩
 | _,_,i+1,x,.cons _ t,e=>by
  let⟨u,h1,h2⟩:=ZR.get (i:=i) (x:=x) t (by simpa using e)
  exact⟨u,by simpa using h1,h2⟩
def ZR.set{x:V}{u:ai}(r:ZT x u):∀{xs:jh}{us:jg}(i:Nat),ZR xs us->ZR (xs.set i x) (us.set i u)
 | _,_,_,.nil=>.nil
 | _,_,0,.cons _ t=>.cons r t
 | _,_,i+1,.cons q t=>.cons q (ZR.set r i t)
def ZR.append:∀{xs ys:jh}{us ws:jg},ZR xs us->ZR ys ws->ZR (xs++ys) (us++ws)
 | _,_,_,_,.nil,s=>s
 | _,_,_,_,.cons r t,s=>.cons r (ZR.append t s)
def ZR.take:∀{xs:jh}{us:jg}(n:Nat),ZR xs us->ZR (xs.take n) (us.take n)
 | _,_,0,_=>.nil
 | _,_,_+1,.nil=>.nil
 | _,_,n+1,.cons r t=>.cons r (ZR.take n t)
def ZR.drop:∀{xs:jh}{us:jg}(n:Nat),ZR xs us->ZR (xs.drop n) (us.drop n)
 | _,_,0,r=>r
 | _,_,_+1,.nil=>.nil
 | _,_,n+1,.cons _ t=>ZR.drop n t
def Yc:ji->jf->Prop
 | some v,some u=>ZT v u
 | none,none=>True
 | _,_=>False
def KV{κ:Type}:List (κ×V)->List (κ×ai)->Prop:=Paired fun(p:κ×V)(q:κ×ai)=>p.1=q.1/\ZT p.2 q.2
def kV:Zi->V
 | .inl i=>.int i
 | .inr x=>.str x
inductive HO where
 | lst (xs:jh)
 | tup (xs:jh)
 | dK (kvs:List (Zi×V)) | dT (kvs:List (jW×V))
 | set (S:Int->Bool) (n:Nat)
 | ins (C dx:aj) (fs:List (Str×V))
 | own (x:aj)
 | xd (fs:List (Str×V))
 | met (f x:aj)
 | rng (lo hi:Int)
 | frz (o:aG) (u:HO)
 | tbl (ps:jV)
 | ext (φ:aD->Prop)
abbrev Hp:=aj->Option HO
def upd(H:Hp)(a:aj)(o:HO):Hp:=λb=>if b=a then some o else H b
def ZZ{H:Hp}{a:aj}{o:HO}:upd H a o a=some o:=by unfold upd;rw[aK rfl]
def ZY{H:Hp}{a b:aj}{o:HO}(h:b≠a):upd H a o b=H b:=by unfold upd;rw[aJ h]
def O7{H:Hp}{a:aj}{o u:HO}:upd (upd H a o) a u=upd H a u:=by
 funext b;unfold upd;split <;> rfl
def Zg{H:Hp}{a b:aj}{o u:HO}(h:H a=some o)(h':H b=some u)(d:o≠u):a≠b:=by
 intro e;subst e;rw[h] at h';exact d (yL.inj h')
def Ze{H:Hp}{a b:aj}{o:HO}(h:H a=some o)(h':H b=none):a≠b:=by
 intro e;subst e;rw[h] at h';cases h'
section
variable(P:ao)(w:ax)
def Zj(H:Hp)(h:aD)(a:aj):HO->Prop
 | .lst xs=>xs.length<=ar/\∃(jk:jg)(n:Nat),ZR xs jk/\h.get? a=some { cls:=.type "list",data:=.seq jk.toArray n }
 | .tup xs=>xs.length<=ar/\∃ jk:jg,ZR xs jk/\IsTup h a jk.toArray
 | .dK kvs=>kvs.length<=ar/\(a==sysModules)=false/\∃ vs,KV kvs vs/\h.DictOf (WU P w) a vs
 | .dT kvs=>kvs.length<=ar/\(a==sysModules)=false/\∃ xs:List (jW×aj×ai),
   Paired (fun(p:jW×V)(q:jW×aj×ai)=>p.1=q.1/\H q.2.1=some (.tup (p.1.map kV))/\ZT p.2 q.2.2) kvs xs /\
   ∃ o es ep,h.get? a=some o/\o.ExactDict/\o.data=.dict es ep/\es.toList=xs.map (entryOfKey (tupleKind (WU P w)))/\(xs.map (·.1)).Nodup
 | .set S n=>h.SetOf (intKind P w) a S n
 | .ins C dx fs=>H dx=some (.own a)/\fs.length<=1000/\dx≠a/\h.get? a=some (vT C dx) /\
   ∃ mA,h.Ns1 dx mA/\(∀ f,Yc (fs.lookup f) (mA f))/\PySem.Within mA (fs.map (·.1))
 | .own _=>∃ o,h.get? a=some o
 | .xd fs=>∃ mA,h.Ns1 a mA/\∀ f,Yc (fs.lookup f) (mA f)
 | .rng lo hi=>∃ t u v,h.get? a=some { cls:=.type "range",data:=.fields #[.int lo t,.int hi u,.int 1 v] }
 | .frz o u=>h.get? a=some o/\Zj H h a u
 | .tbl ps=>h.get? a=some { cls:=.none,data:=.fields ps }
 | .met f x=>h.get? a=some (rW (.ref f) (.ref x))
 | .ext φ=>φ h/\(∃ o,h.get? a=some o)/\∀ h1 h2:aD,φ h1->(∀ o,h1.get? a=some o->h2.get? a=some o)->φ h2
def XL(H:Hp)(h:aD):Prop:=∀ a o,H a=some o->Zj P w H h a o
end
section
variable{P:ao}{w:ax}{H H':Hp}{h h':aD}{a:aj}{o:HO}
def Zj.lt(x:Zj P w H h a o):a<h.objs.size:=by
 cases o with
 | lst xs=>let⟨_,_,_,_,e⟩:=x;exact zL e
 | tup xs=>let⟨_,_,_,p⟩:=x;exact p.lt
 | dK kvs=>let⟨_,_,_,_,o,_,_,e,_⟩:=x;exact zL e
 | dT kvs=>let⟨_,_,_,_,o,_,_,e,_⟩:=x;exact zL e
 | set S n=>let⟨o,_,_,_,e,_⟩:=x;exact zL e
 | ins C dx fs=>let⟨_,_,_,e,_⟩:=x;exact zL e
 | own y=>let⟨_,e⟩:=x;exact zL e
 | xd fs=>let⟨_,⟨_,_,_,e,_⟩,_⟩:=x;exact zL e
 | rng lo hi=>let⟨_,_,_,e⟩:=x;exact zL e
 | frz ob u=>let⟨e,_⟩:=x;exact zL e
 | tbl ps=>exact zL (show h.get? a=some _ from x)
 | met f y=>exact zL (show h.get? a=some _ from x)
 | ext φ=>let⟨_,⟨_,e⟩,_⟩:=x;exact zL e
def Paired.mapP{α β:Type}{F G:α->β->Prop}:∀{l₁:List α}{l₂:List β},Paired F l₁ l₂->(∀ a b,F a b->G a b)->Paired G l₁ l₂
 | _,_,.nil,_=>.nil
 | _,_,.cons r t,f=>.cons (f _ _ r) (Paired.mapP t f)
def Paired.imp'{α β:Type}{F G:α->β->Prop}(f:∀ a b,F a b->G a b){l₁:List α}{l₂:List β}(r:Paired F l₁ l₂):Paired G l₁ l₂:=Paired.mapP r f
def Zj.stay(x:Zj P w H h a o)(k:∀ b u,(b=a\/H b=some (.own a))->h.get? b=some u->h'.get? b=some u)(ho:∀ b,H b=some (.own a)->H' b=some (.own a))(ht:∀ b xs,H b=some (.tup xs)->H' b=some (.tup xs)):Zj P w H' h' a o:=by
 induction o with
 | lst xs=>let⟨z,jk,n,r,e⟩:=x;exact⟨z,jk,n,r,k _ _ (.inl rfl) e⟩
 | tup xs=>let⟨z,jk,r,ob,e,c⟩:=x;exact⟨z,jk,r,ob,k _ _ (.inl rfl) e,c⟩
 | dK kvs=>let⟨z,y,vs,r,ob,es,ep,e,c⟩:=x;exact⟨z,y,vs,r,ob,es,ep,k _ _ (.inl rfl) e,c⟩
 | dT kvs=>
  let⟨z,y,xs,r,ob,es,ep,e,c⟩:=x;exact⟨z,y,xs,Paired.mapP r λp q z=>⟨z.1,ht _ _ z.2.1,z.2.2⟩,ob,es,ep,k _ _ (.inl rfl) e,c⟩
 | set S n=>let⟨ob,es,ep,t,e,c⟩:=x;exact⟨ob,es,ep,t,k _ _ (.inl rfl) e,c⟩
 | ins C dx fs=>
  let⟨d,z,ne,e,mA,⟨od,es,ep,e2,c⟩,r⟩:=x;exact⟨ho _ d,z,ne,k _ _ (.inl rfl) e,mA,⟨od,es,ep,k _ _ (.inr d) e2,c⟩,r⟩
 | own y=>let⟨ob,e⟩:=x;exact⟨ob,k _ _ (.inl rfl) e⟩
 | xd fs=>let⟨mA,⟨od,es,ep,e,c⟩,r⟩:=x;exact⟨mA,⟨od,es,ep,k _ _ (.inl rfl) e,c⟩,r⟩
 | rng lo hi=>let⟨t,u,v,e⟩:=x;exact⟨t,u,v,k _ _ (.inl rfl) e⟩
 | frz ob u ih=>let⟨e,q⟩:=x;exact⟨k _ _ (.inl rfl) e,ih q⟩
 | tbl ps=>
  let e:h.get? a=some { cls:=.none,data:=.fields ps }:=x;show h'.get? a=some { cls:=.none,data:=.fields ps };exact k a _ (.inl rfl) e
 | met f y=>
  let e:h.get? a=some (rW (.ref f) (.ref y)):=x;show h'.get? a=some (rW (.ref f) (.ref y));exact k a _ (.inl rfl) e
 | ext φ=>let⟨p,⟨o,e⟩,st⟩:=x;exact⟨st _ _ p λo q=>k _ _ (.inl rfl) q,⟨o,k _ _ (.inl rfl) e⟩,st⟩
def XL.lt(x:XL P w H h)(e:H a=some o):a<h.objs.size:=(x a o e).lt
def XL.fresh(x:XL P w H h)(e:h.objs.size<=a):H a=none:=by
 cases q:H a with
 | none=>rfl
 | some u=>exact absurd (yQ (x.lt q) e) (xP _)
def XL.kept(x:XL P w H h)(k:∀ b u,h.get? b=some u->h'.get? b=some u):XL P w H h':=λa o e=>
 (x a o e).stay (λb u _ q=>k b u q) (λ_ q=>q) λ_ _ q=>q
def XL.laid(x:XL P w H h)(k:∀ b u,h.get? b=some u->h'.get? b=some u)(hp:h.objs.size<=a)(new:Zj P w (upd H a o) h' a o):XL P w (upd H a o) h':=λb u e=>by
 let hn:=x.fresh hp;by_cases hb:b=a
 ·subst hb;rw[ZZ] at e;cases e;exact new
 ·rw[ZY hb] at e;exact(x b u e).stay (λc v _ q=>k c v q) (λc q=>by rw[ZY (Ze q hn)];exact q) λc xs q=>by rw[ZY (Ze q hn)];exact q
end
def Rd(H:Hp)(a:aj)(u:HO):Prop:=H a=some u\/∃ o,H a=some (.frz o u)
def Rd.of{H:Hp}{a:aj}{u:HO}(h:H a=some u):Rd H a u:=.inl h
def Rd.ok{P:ao}{w:ax}{H:Hp}{h:aD}{a:aj}{u:HO}(r:Rd H a u)(x:XL P w H h):Zj P w H h a u:=by
 rcases r with r | ⟨o,r⟩
 ·exact x a u r
 ·let⟨_,q⟩:=x a _ r;exact q
def Ot:Option HO->Prop
 | some (.lst _)=>True
 | some (.dK _)=>True
 | some (.dT _)=>True
 | some (.set _ _)=>True
 | some (.ins _ _ _)=>True
 | some (.ext _)=>True
 | _=>False
section
variable{P:ao}{w:ax}{H:Hp}{h h':aD}{x e:aj}{o':HO}
def XL.write(ok:XL P w H h)(mu:Ot (H x))(he:e=x\/H e=some (.own x))(k:∀ b u,b≠e->h.get? b=some u->h'.get? b=some u)(heo:∃ u,h'.get? e=some u)(new:Zj P w (upd H x o') h' x o'):XL P w (upd H x o') h':=λb u q=>by
 let nown:∀ c y,H c=some (.own y)->c≠x:=λc y r z=>by subst z;rw[r] at mu;exact mu
 let ntup:∀ c xs,H c=some (.tup xs)->c≠x:=λc xs r z=>by subst z;rw[r] at mu;exact mu
 by_cases hb:b=x
 ·subst hb;rw[ZZ] at q;cases q;exact new
 ·rw[ZY hb] at q;by_cases hbe:b=e
  ·let q':H b=some (.own x):=by
    rcases he with z | z
    ·exact absurd (hbe.trans z) hb
    ·rw[hbe];exact z
   rw[q] at q';cases q';let⟨v,hv⟩:=heo;exact⟨v,by rw[hbe];exact hv⟩
  ·refine(ok b u q).stay (λc v hc r=>k c v ?_ r) (λc r=>by rw[ZY (nown c b r)];exact r) λc xs r=>by rw[ZY (ntup c xs r)];exact r
   rcases hc with rfl | hc
   ·exact hbe
   ·rintro rfl;rcases he with z | z
    ·exact nown c b hc z
    ·rw[hc] at z;cases z;exact hb Z
end
structure Un(fs ex:jR)(H H':Hp)(h h':aD):Prop where
 keep:∀ b o,h.get? b=some o->H b=none->b∉fs->b∉ex->h'.get? b=some o
 slot:∀ b o,h.get? b=some o->H b=none->b∈fs->b∉ex->∃ sl,h'.get? b=some { o with slots:=sl }
 free:∀ b o,h.get? b=some o->H b=none->b∉ex->H' b=none
 there:∀ b o,h.get? b=some o->b∉ex->∃ o',h'.get? b=some o'
 tups:∀ b xs,H b=some (.tup xs)->H' b=some (.tup xs)
 frzs:∀ b o u,H b=some (.frz o u)->H' b=some (.frz o u)
 tbls:∀ b ps,H b=some (.tbl ps)->∃ more,H' b=some (.tbl (ps++more))
section
variable{fs fs' ex ex':jR}{H H1 H2:Hp}{h h1 h2 h':aD}{a x e:aj}{o:HO}
def Un.any(u:Un fs ex H H1 h h1){b:aj}{ob:aG}(q:h.get? b=some ob)(n:H b=none)(hx:b∉ex):∃ sl,h1.get? b=some { ob with slots:=sl }:=by
 by_cases hb:b∈fs
 ·exact u.slot b ob q n hb hx
 ·exact⟨ob.slots,u.keep b ob q n hb hx⟩
def Un.kept(k:∀ b u,h.get? b=some u->h'.get? b=some u):Un fs ex H H h h':=
 ⟨λb ob q _ _ _=>k b ob q,λb ob q _ _ _=>⟨ob.slots,k b ob q⟩,λ_ _ _ n _=>n,λb ob q _=>⟨ob,k b ob q⟩,λ_ _ q=>q,λ_ _ _ q=>q,λ_ ps q=>⟨#[],by rw[q];simp⟩⟩
def Un.refl:Un fs ex H H h h:=Un.kept λ_ _ q=>q
def Un.laid(k:∀ b u,h.get? b=some u->h'.get? b=some u)(hp:h.objs.size<=a)(hn:H a=none):Un fs ex H (upd H a o) h h' where
 keep:=λb u q _ _ _=>k b u q
 slot:=λb u q _ _ _=>⟨u.slots,k b u q⟩
 free:=λb u q n _=>by rw[ZY (yN (yQ (zL q) hp))];exact n
 there:=λb u q _=>⟨u,k b u q⟩
 tups:=λb xs q=>by rw[ZY (Ze q hn)];exact q
 frzs:=λb u xs q=>by rw[ZY (Ze q hn)];exact q
 tbls:=λb ps q=>⟨#[],by rw[ZY (Ze q hn),q];simp⟩
def Un.write(mu:Ot (H x))(he:e=x\/H e=some (.own x))(k:∀ b u,b≠e->h.get? b=some u->h'.get? b=some u)(heo:∃ u,h'.get? e=some u):Un fs ex H (upd H x o) h h':=by
 let hx:∀ b,H b=none->b≠x:=λb n z=>by subst z;rw[n] at mu;exact mu
 let hb:∀ b,H b=none->b≠e:=λb n z=>by
  subst z;rcases he with r | r
  ·exact hx b n r
  ·rw[n] at r;cases r
 let hm:∀ b u,H b=some u->¬ Ot (some u)->b≠x:=λb u q nm z=>by subst z;rw[q] at mu;exact nm mu
 refine⟨λb u q n _ _=>k b u (hb b n) q,λb u q n _ _=>⟨u.slots,k b u (hb b n) q⟩,λb u q n _=>by rw[ZY (hx b n)];exact n,λb u q _=>?_,
  λb xs q=>by rw[ZY (hm b _ q λz=>z)];exact q,λb u xs q=>by rw[ZY (hm b _ q λz=>z)];exact q,λb ps q=>⟨#[],by rw[ZY (hm b _ q λz=>z),q];simp⟩⟩
 by_cases hbe:b=e
 ·subst hbe;exact heo
 ·exact⟨u,k b u hbe q⟩
end
def Lj(h:aD)(H:Hp):List Addr:=(zF h.objs.size).filter λa=>(H a).isSome
def Q3(h:aD)(H:Hp):Heap:=PySem.W.hideAll h (Lj h H)
def ZJw(h:aD)(H:Hp):(Q3 h H).objs.size=h.objs.size:=PySem.W.hideAll_size _ _
def ZLD{h:aD}{H:Hp}{b:aj}{o:aG}(e:h.get? b=some o)(n:H b=none):(Q3 h H).get? b=some o:=
 PySem.W.hideAll_get _ e λhm=>by
  let q:(H b).isSome=true:=(wJ.mp hm).2;rw[n] at q;simp at q
def ZNS{h:aD}{H:Hp}{b:aj}{o:aG}(e:(Q3 h H).get? b=some o):h.get? b=some o/\H b=none:=by
 let e':h.get? b=some o:=PySem.W.of_hideAll (Lj h H) e;exists e'
 cases q:H b with
 | none=>rfl
 | some x=>
  let hm:b∈Lj h H:=wJ.mpr ⟨yX.mpr (zL e'),by simp[q]⟩
  let z:(Q3 h H).get? b=none:=PySem.W.hideAll_none (Lj h H) hm;rw[z] at e;cases e
def Cb(g h:aD)(L:aj):jO:=(zF h.objs.size).filterMap λa=>if a=L\/(g.get? a).isSome=true then none else (h.get? a).map λo=>(a,o)
def rest(g h:aD)(L d:aj):jO:=(Cb g h L).filter λp=>decide (p.1≠d)
structure Mod(K:zZ)(mg:jd)(kT:aD):Prop where
 kin:K.In kT
 glob:kT.Ns aq mg
 blt:∃ mb,kT.Ns builtinsNs mb/\∀ x:Str,x ≠ "__name__"->mb x=az x
 nolimit:kT.NoLimit
structure Cx where
 prog:ao
 w:ax
 K:zZ
 mg:jd
 base:aD
 A:ay
 N:jP
 s₀:am
 H₀:Hp
 env:Env
 outer:kg
 stack:kg
 ex:jR
 fn:Str->Bool
 calm:Bool
 pn:jO
 xe:ja
def Vr(l:kg):List Addr:=l.filterMap (·.frame)
abbrev Cx.fs(X:Cx):List Addr:=Vr X.outer
def Mq(sc:Scope)(x:Str):Prop:=sc.names.lookup x=some .local\/sc.names.lookup x=some .cell\/sc.names.lookup x=some .free
def No(sc:Scope)(x:Str):Prop:=sc.names.lookup x=some .local\/sc.names.lookup x=some .cell
def ZRX(env:Env)(h:aD)(m:jd)(x:Str)(u:ai):Prop:=
 (env.kindOf x=some .local/\m x=some u)\/((env.kindOf x=some .cell\/env.kindOf x=some .free)/\∃ c,env.cells.lookup x=some c/\h.IsCell c (some u))
structure Cx.Ok(X:Cx):Prop where
 mod:Mod X.K X.mg X.base
 kind:X.env.scope.kind=.function
 glob:X.env.globals=aq
 blt:X.env.builtins=builtinsNs
 above:X.s₀.heap.objs.size<=X.env.locals
 inj:∀ x y c,X.env.cells.lookup x=some c->X.env.cells.lookup y=some c->x=y
 has:∀ x,(X.env.kindOf x=some .cell\/X.env.kindOf x=some .free)->∃ c,X.env.cells.lookup x=some c
 cab:∀ x c,X.fn x=true->X.env.cells.lookup x=some c->X.s₀.heap.objs.size<=c
 hd:X.calm=true->X.A.handled=none
 frames:X.A.frames=some X.stack
 stk:X.stack=X.outer\/(X.stack=X.env::X.outer/\X.env.frame=some X.env.locals)
 exf:∀ b∈X.ex,b≠X.env.locals/\∀ x c,X.env.cells.lookup x=some c->c≠b
 bs:∀ b o,X.base.get? b=some o->X.s₀.heap.get? b=some o/\X.H₀ b=none
 bsz:X.base.objs.size<=X.s₀.heap.objs.size
 noex:∀ b o,X.base.get? b=some o->b∉X.ex
 exfs:∀ b∈X.ex,b∉X.fs
 funs:X.s₀.heap.FunFrames X.base X.outer
 frf:∀ b∈X.fs,X.H₀ b=none
structure ZJ(X:Cx)(kR:jO)(σ:List (ji))(H:Hp)(s:am):Prop where
 ok:X.Ok
 os:s.os=X.s₀.os
 bare:AllBare s.gens
 base:Un X.fs X.ex X.H₀ H X.s₀.heap s.heap
 loc:∃ m,s.heap.Ns X.env.locals m/\∀(i:Nat)(x:Str)(v:V),X.N[i]? = some x->σ[i]? = some (some v)->Mq X.env.scope x->∃ u,ZT v u/\ZRX X.env s.heap m x u
 cell:∀ x c,X.env.cells.lookup x=some c->∃ v,s.heap.IsCell c v
 free:H X.env.locals=none
 freeC:∀ x c,X.env.cells.lookup x=some c->H c=none
 pin:∀ p∈X.pn++kR,s.heap.get? p.1=some p.2/\H p.1=none/\p.1≠X.env.locals/\p.1∉X.fs/\∀ v,p.2.data≠.cell v
 hok:XL X.prog X.w H s.heap
 len:σ.length=X.N.length
section
variable{X:Cx}{kR:jO}{σ:List (ji)}{H H':Hp}{s:am}{h':aD}
def Cx.Ok.nofr(ok:X.Ok){b:aj}{o:aG}(e:X.base.get? b=some o):b∉X.fs:=λhb=>by
 have:=(ok.funs.mem hb).1;rw[e] at this;cases this
def ZJ.bs(I:ZJ X kR σ H s):∀ b o,X.base.get? b=some o->s.heap.get? b=some o/\H b=none:=λb o e=>
 ⟨I.base.keep b o (I.ok.bs b o e).1 (I.ok.bs b o e).2 (I.ok.nofr e) (I.ok.noex b o e),I.base.free b o (I.ok.bs b o e).1 (I.ok.bs b o e).2 (I.ok.noex b o e)⟩
def ZJ.bk(I:ZJ X kR σ H s):∀ b o,X.base.get? b=some o->s.heap.get? b=some o:=λb o e=>(I.bs b o e).1
def ZJ.mod(I:ZJ X kR σ H s):Mod X.K X.mg X.base:=I.ok.mod
def ZJ.kIn(I:ZJ X kR σ H s):X.K.In s.heap:=I.ok.mod.kin.keeps I.bk
def ZJ.lt(I:ZJ X kR σ H s):X.env.locals<s.heap.objs.size:=let ⟨_,hn,_⟩:=I.loc;hn.lt
def ZJ.sz(I:ZJ X kR σ H s):X.s₀.heap.objs.size<=s.heap.objs.size:=zK I.ok.above (yV I.lt)
def ZJ.nofs(I:ZJ X kR σ H s){a:aj}(h:s.heap.objs.size<=a):a∉X.fs:=λhb=>by
 let⟨_,o,ho,_⟩:=I.ok.funs.mem hb;exact absurd (yQ (zL ho) (zK I.sz h)) (xP _)
def ZJ.cne(I:ZJ X kR σ H s):∀ x c,X.env.cells.lookup x=some c->c≠X.env.locals:=λx c e z=>by
 let⟨v,o,ho,hd⟩:=I.cell x c e;let⟨m,⟨o',es,ep,ho',hd',_⟩,_⟩:=I.loc;rw[z,ho'] at ho;cases ho;rw[hd'] at hd;cases hd
def ZJ.funs(I:ZJ X kR σ H s):s.heap.FunFrames X.base X.outer:=by
 let all:∀(l:kg),(∀ b∈Vr l,b∈X.fs)->X.s₀.heap.FunFrames X.base l->s.heap.FunFrames X.base l:=by
  intro l
  induction l with
  | nil=>intro _ _;trivial
  | cons env r ih=>
   intro hs hl;let⟨hk,⟨L,o,hf,hn,ho,hd⟩,hr⟩:=hl;let hL:L∈X.fs:=hs L (by unfold Vr;rw[rS,hf];exact zO)
   let⟨sl,e⟩:=I.base.slot L o ho (I.ok.frf L hL) hL λz=>I.ok.exfs L z hL;exact⟨hk,⟨L,_,hf,hn,e,hd⟩,ih (λb hb=>hs b (by unfold Vr;rw[rS,hf];exact zJ _ hb)) hr⟩
 exact all X.outer (λ_ hb=>hb) I.ok.funs
def ZJ.stack(I:ZJ X kR σ H s):s.heap.FunFrames X.base X.stack:=by
 rcases I.ok.stk with e | ⟨e,hf⟩
 ·rw[e];exact I.funs
 ·rw[e];let⟨m,hn,_⟩:=I.loc;refine .cons (by rw[I.ok.kind];decide) hf hn ?_ I.funs
  exact Heap.get?_none_of_le (zK I.ok.bsz I.ok.above)
def ZJ.stkSub(I:ZJ X kR σ H s):∀ b∈Vr X.stack,b∈X.env.locals::X.fs:=λb hb=>by
 rcases I.ok.stk with e | ⟨e,hf⟩
 ·rw[e] at hb;exact zJ _ hb
 ·rw[e] at hb;unfold Vr at hb;rw[rS,hf] at hb;exact hb
def ZJ.stkFree(I:ZJ X kR σ H s):∀ b∈Vr X.stack,H b=none:=λb hb=>by
 rcases zI.mp (I.stkSub b hb) with e | hb
 ·rw[e];exact I.free
 ·let⟨_,o,ho,_⟩:=I.ok.funs.mem hb;exact I.base.free b o ho (I.ok.frf b hb) λz=>I.ok.exfs b z hb
def ZJ.step{g':Array GenState}{t':Nat}{d':Drawn}{ch:jR}(I:ZJ X kR σ H s)(hch:∀ b∈ch,(b∈X.ex\/X.s₀.heap.objs.size<=b)/\b≠X.env.locals/\(∀ x c,X.env.cells.lookup x=some c->c≠b)/\∀ p∈X.pn++kR,p.1≠b)(keep:∀ b o,b≠X.env.locals->b∉X.fs->b∉ch->s.heap.get? b=some o->H b=none->h'.get? b=some o)(slot:∀ b o,b≠X.env.locals->b∈X.fs->b∉ch->s.heap.get? b=some o->H b=none->∃ sl,h'.get? b=some { o with slots:=sl })(free:∀ b o,b∉ch->s.heap.get? b=some o->H b=none->H' b=none)(there:∀ b o,b∉ch->s.heap.get? b=some o->∃ o',h'.get? b=some o')(tups:∀ b xs,H b=some (.tup xs)->H' b=some (.tup xs))(frzs:∀ b o u,H b=some (.frz o u)->H' b=some (.frz o u))(tbls:∀ b ps,H b=some (.tbl ps)->∃ more,H' b=some (.tbl (ps++more)))(ns:∀ m,s.heap.Ns X.env.locals m->h'.Ns X.env.locals m)(hok:XL X.prog X.w H' h')(hg:AllBare g'):
  ZJ X kR σ H' { s with heap:=h',gens:=g',drawn:=d',toks:=t' }:=by
 let neL:∀ b o,X.s₀.heap.get? b=some o->b≠X.env.locals:=λb o e=>yN (yQ (zL e) I.ok.above);let neC:∀ b o,X.s₀.heap.get? b=some o->b∉X.ex->b∉ch:=λb o e hx hb=>by
  rcases(hch b hb).1 with z | z
  ·exact hx z
  ·exact absurd (yQ (zL e) z) (xP _)
 let cellK:∀ x c,X.env.cells.lookup x=some c->∀ v,s.heap.IsCell c v->h'.IsCell c v:=λx c e v ⟨o,ho,hd⟩=>by
  let nch:c∉ch:=λz=>(hch c z).2.2.1 x c e Z;by_cases hc:c∈X.fs
  ·let⟨sl,q⟩:=slot c o (I.cne x c e) hc nch ho (I.freeC x c e);exact⟨_,q,hd⟩
  ·exact⟨o,keep c o (I.cne x c e) hc nch ho (I.freeC x c e),hd⟩
 refine⟨I.ok,I.os,hg,⟨λb o e n hb hx=>?_,λb o e n hb hx=>?_,λb o e n hx=>?_,λb o e hx=>?_,λb xs e=>tups b xs (I.base.tups b xs e),λb o xs e=>frzs b o xs (I.base.frzs b o xs e),λb ps e=>?_⟩,?_,λx c e=>?_,?_,λx c e=>?_,λp hp=>?_,hok,I.len⟩
 ·exact keep b o (neL b o e) hb (neC b o e hx) (I.base.keep b o e n hb hx) (I.base.free b o e n hx)
 ·let⟨sl,e1⟩:=I.base.slot b o e n hb hx;let⟨sl',e2⟩:=slot b _ (neL b o e) hb (neC b o e hx) e1 (I.base.free b o e n hx);exact⟨sl',e2⟩
 ·let⟨o',e1⟩:=I.base.there b o e hx;exact free b o' (neC b o e hx) e1 (I.base.free b o e n hx)
 ·let⟨o',e1⟩:=I.base.there b o e hx;exact there b o' (neC b o e hx) e1
 ·let⟨m1,e1⟩:=I.base.tbls b ps e;let⟨m2,e2⟩:=tbls b _ e1;exact⟨m1++m2,by rw[e2,Array.append_assoc]⟩
 ·let⟨m,hn,hl⟩:=I.loc;refine⟨m,ns m hn,λi x v e1 e2 e3=>?_⟩;let⟨u,r,l⟩:=hl i x v e1 e2 e3;exists u,r;rcases l with l | ⟨k,c,e,z⟩
  ·exact .inl l
  ·exact .inr ⟨k,c,e,cellK x c e _ z⟩
 ·let⟨v,z⟩:=I.cell x c e;exact⟨v,cellK x c e v z⟩
 ·let⟨m,⟨o,_,_,ho,_⟩,_⟩:=I.loc;exact free _ o (λz=>(hch _ z).2.1 Z) ho I.free
 ·let⟨v,o,ho,hd⟩:=I.cell x c e;exact free c o (λz=>(hch c z).2.2.1 x c e Z) ho (I.freeC x c e)
 ·let⟨e,n,ne,nf,d⟩:=I.pin p hp;let nch:p.1∉ch:=λz=>(hch p.1 z).2.2.2 p hp Z;exact⟨keep p.1 p.2 ne nf nch e n,free p.1 p.2 nch e n,ne,nf,d⟩
def ZJ.un{t':Nat}(I:ZJ X kR σ H s)(u:Un X.fs [] H H' s.heap h')(hok:XL X.prog X.w H' h'):ZJ X kR σ H' { s with heap:=h',toks:=t' }:=by
 let⟨m,⟨o,es,ep,ho,r⟩,_⟩:=id I.loc;let⟨sl,hL⟩:=u.any ho I.free (by simp)
 exact I.step (g':=s.gens) (d':=s.drawn) (ch:=[]) (λ_ z=>nomatch z) (λb o _ hb _ e n=>u.keep b o e n hb (by simp)) (λb o _ hb _ e n=>u.slot b o e n hb (by simp)) (λb o _ e n=>u.free b o e n (by simp)) (λb o _ e=>u.there b o e (by simp)) u.tups u.frzs u.tbls (λm' hm=>by
  let⟨o',es',ep',ho',r'⟩:=hm;rw[ho] at ho';cases ho';exact⟨_,es',ep',hL,r'⟩) hok I.bare
def ZJ.call{g':Array GenState}{t':Nat}{d':Drawn}{ch:jR}(I:ZJ X kR σ H s)(u:Un (Vr X.stack) ch H H' s.heap h')(hok:XL X.prog X.w H' h')(hg:AllBare g')(hch:∀ b∈ch,(b∈X.ex\/X.s₀.heap.objs.size<=b)/\b≠X.env.locals/\(∀ x c,X.env.cells.lookup x=some c->c≠b)/\∀ p∈X.pn++kR,p.1≠b):
  ZJ X kR σ H' { s with heap:=h',gens:=g',drawn:=d',toks:=t' }:=by
 let⟨m,⟨o,es,ep,ho,r⟩,_⟩:=id I.loc;let⟨sl,hL⟩:=u.any ho I.free λz=>(hch _ z).2.1 Z;exact I.step (ch:=ch) hch (λb o hL hb hc e n=>u.keep b o e n (λz=>(zI.mp (I.stkSub b z)).elim hL hb) hc) (λb o _ _ hc e n=>u.any e n hc) (λb o hc e n=>u.free b o e n hc) (λb o hc e=>u.there b o e hc) u.tups u.frzs u.tbls (λm' hm=>by
  let⟨o',es',ep',ho',r'⟩:=hm;rw[ho] at ho';cases ho';exact⟨_,es',ep',hL,r'⟩) hok hg
def ZJ.turned{t':Nat}{it:aj}(I:ZJ X kR σ H s)(k:∀ b o,b≠it->s.heap.get? b=some o->h'.get? b=some o)(hn:H it=none)(hL:it≠X.env.locals)(h1:it∈X.ex\/X.s₀.heap.objs.size<=it)(h2:∀ x c,X.env.cells.lookup x=some c->c≠it)(h3:∀ p∈X.pn++kR,p.1≠it):ZJ X kR σ H { s with heap:=h',toks:=t' }:=by
 let nit:∀ b u,H b=some u->b≠it:=λb u e z=>by rw[z,hn] at e;cases e
 refine I.step (g':=s.gens) (d':=s.drawn) (ch:=[it]) (λb hb=>?_) (λb o _ _ hc e _=>k b o (λz=>hc (by simp[z])) e) (λb o _ _ hc e _=>⟨o.slots,k b o (λz=>hc (by simp[z])) e⟩) (λ_ _ _ _ n=>n)
  (λb o hc e=>⟨o,k b o (λz=>hc (by simp[z])) e⟩) (λ_ _ e=>e) (λ_ _ _ e=>e) (λb ps e=>⟨#[],by rw[e];simp⟩) (λm hm=>?_) (λb u e=>?_) I.bare
 ·let e:b=it:=by simpa using hb
  subst e;exact⟨h1,hL,h2,h3⟩
 ·let⟨o,es,ep,ho,r⟩:=hm;exact⟨o,es,ep,k _ o (Ne.symm hL) ho,r⟩
 ·refine(I.hok b u e).stay (λc v hc q=>k c v ?_ q) (λ_ q=>q) λ_ _ q=>q;rcases hc with z | z
  ·rw[z];exact nit b u e
  ·exact nit c _ z
def ZJ.tok(I:ZJ X kR σ H s)(t:Nat):ZJ X kR σ H { s with toks:=t }:=I.un (h':=s.heap) (t':=t) Un.refl I.hok
def ZJ.kept{t':Nat}(I:ZJ X kR σ H s)(k:∀ b u,s.heap.get? b=some u->h'.get? b=some u):ZJ X kR σ H { s with heap:=h',toks:=t' }:=I.un (Un.kept k) (I.hok.kept k)
def ZJ.laid{a:aj}{o:HO}{t':Nat}(I:ZJ X kR σ H s)(k:∀ b u,s.heap.get? b=some u->h'.get? b=some u)(hp:s.heap.objs.size<=a)(new:Zj X.prog X.w (upd H a o) h' a o):
  ZJ X kR σ (upd H a o) { s with heap:=h',toks:=t' }:=I.un (Un.laid k hp (I.hok.fresh hp)) (I.hok.laid k hp new)
def ZJ.write{x e:aj}{o:HO}{t':Nat}(I:ZJ X kR σ H s)(mu:Ot (H x))(he:e=x\/H e=some (.own x))(k:∀ b u,b≠e->s.heap.get? b=some u->h'.get? b=some u)(heo:∃ u,h'.get? e=some u)(new:Zj X.prog X.w (upd H x o) h' x o):ZJ X kR σ (upd H x o) { s with heap:=h',toks:=t' }:=I.un (Un.write mu he k heo) (I.hok.write mu he k heo new)
def ZJ.pins_of{pins':jO}(I:ZJ X kR σ H s)(h:∀ p∈pins',s.heap.get? p.1=some p.2/\H p.1=none/\p.1≠X.env.locals/\p.1∉X.fs/\∀ v,p.2.data≠.cell v):ZJ X pins' σ H s:=
 ⟨I.ok,I.os,I.bare,I.base,I.loc,I.cell,I.free,I.freeC,λp hp=>(yU.mp hp).elim (λz=>I.pin p (xV _ z)) (h p),I.hok,I.len⟩
def F1{N:jP}(hN:N.Nodup){i j:Nat}{x:Str}(a:N[i]? = some x)(b:N[j]? = some x):i=j:=by
 let⟨h1,e1⟩:=yY.mp a;let⟨h2,e2⟩:=yY.mp b;exact(sI hN).mp (e1.trans e2.symm)
def EK{M:Model}{A:ay}{E:ja}{i:Nat}{x:Str}{v:V}{u:ai}{Q:Unit->am->Prop}(I:ZJ X kR σ H s)(hN:X.N.Nodup)(hi:X.N[i]? = some x)(hx:No X.env.scope x)(r:ZT v u)(h:∀ s',ZJ X kR (σ.set i (some v)) H s'->(∃ a,xX a s.heap s'.heap/\(a=X.env.locals\/X.env.cells.lookup x=some a))->Q () s')(hf:X.fn x=true\/X.env.scope.names.lookup x=some .local:=by first | exact .inl rfl | exact .inr rfl | assumption):aC M A (storeName X.env x u) Q E s:=by
 let⟨m,hn,hl⟩:=id I.loc;let hcls:(X.env.scope.kind==.class || (X.env.scope.kind==.module&&X.env.locals != X.env.globals))=false:=by rw[I.ok.kind];rfl
 let hiσ:i<σ.length:=by rw[I.len];exact(yY.mp hi).1
 let cne:=I.cne;let tracked:∀{a:aj}{h':aD},(∃ o,s.heap.get? a=some o/\H a=none)->xX a s.heap h'->XL X.prog X.w H h':=fun{a h'} ha hs b ob e=>by
  let⟨_,_,hfree⟩:=ha;refine(I.hok b ob e).stay (λc w' hc q=>(hs.2 c ?_).trans q) (λ_ q=>q) λ_ _ q=>q;rintro rfl;rcases hc with rfl | hc
  ·rw[hfree] at e;cases e
  ·rw[hfree] at hc;cases hc
 rcases hx with hk | hk
 ·refine wpAny_storeName_local hk hn (λh' hn' hs=>?_) hcls;let⟨oL,_,_,hoL,_⟩:=id hn;refine h _ ⟨I.ok,I.os,I.bare,⟨λb o e n hb hx=>?_,λb o e n hb hx=>?_,I.base.free,λb o e hx=>?_,I.base.tups,I.base.frzs,I.base.tbls⟩,⟨_,hn',λj y v' e1 e2 e3=>?_⟩,λy c e=>?_,I.free,I.freeC,λp hp=>?_,tracked ⟨oL,hoL,I.free⟩ hs,by simpa using I.len⟩ ⟨_,hs,.inl Z⟩
  ·exact(hs.2 b (yN (yQ (zL e) I.ok.above))).trans (I.base.keep b o e n hb hx)
  ·let⟨sl,e1⟩:=I.base.slot b o e n hb hx;exact⟨sl,(hs.2 b (yN (yQ (zL e) I.ok.above))).trans e1⟩
  ·let⟨o',e1⟩:=I.base.there b o e hx;exact⟨o',(hs.2 b (yN (yQ (zL e) I.ok.above))).trans e1⟩
  ·by_cases hj:j=i
   ·subst hj;rw[hi] at e1;cases e1;rw[zEF hiσ] at e2;cases e2;exact⟨u,r,.inl ⟨hk,by simp⟩⟩
   ·rw[List.getElem?_set_ne (Ne.symm hj)] at e2;let⟨u',r',q⟩:=hl j y v' e1 e2 e3;exists u',r';rcases q with ⟨k,e⟩ | ⟨k,c,e,z⟩
    ·refine .inl ⟨k,?_⟩;have:y≠x:=λe=>hj (F1 hN e1 (e ▸ hi));simp[this,e]
    ·exact .inr ⟨k,c,e,z.sameBut hs (cne y c e)⟩
  ·let⟨w',z⟩:=I.cell y c e;exact⟨w',z.sameBut hs (cne y c e)⟩
  ·let⟨e,n,ne,nf,d⟩:=I.pin p hp;exact⟨(hs.2 p.1 ne).trans e,n,ne,nf,d⟩
 ·let hfn:X.fn x=true:=by
   rcases hf with z | z
   ·exact z
   ·rw[z] at hk;cases hk
  let⟨c,hc⟩:=I.ok.has x (.inl hk);let⟨w',z⟩:=I.cell x c hc;refine wpAny_storeName_cell I.ok.kind hk hc z (λh' hc' hs=>?_);let⟨oc,hoc,hocd⟩:=id z;refine h { s with heap:=h' } ⟨I.ok,I.os,I.bare,⟨λb o e n hb hx=>?_,λb o e n hb hx=>?_,I.base.free,λb o e hx=>?_,I.base.tups,I.base.frzs,I.base.tbls⟩,⟨m,hn.sameBut hs (Ne.symm (cne x c hc)),λj y v' e1 e2 e3=>?_⟩,λy c' e=>?_,I.free,I.freeC,λp hp=>?_,tracked ⟨oc,hoc,I.freeC x c hc⟩ hs,by simpa using I.len⟩ ⟨c,hs,.inr hc⟩
  ·exact(hs.2 b (yN (yQ (zL e) (I.ok.cab x c hfn hc)))).trans (I.base.keep b o e n hb hx)
  ·let⟨sl,e1⟩:=I.base.slot b o e n hb hx;exact⟨sl,(hs.2 b (yN (yQ (zL e) (I.ok.cab x c hfn hc)))).trans e1⟩
  ·let⟨o',e1⟩:=I.base.there b o e hx;exact⟨o',(hs.2 b (yN (yQ (zL e) (I.ok.cab x c hfn hc)))).trans e1⟩
  ·by_cases hj:j=i
   ·subst hj;rw[hi] at e1;cases e1;rw[zEF hiσ] at e2;cases e2;exact⟨u,r,.inr ⟨.inl hk,c,hc,hc'⟩⟩
   ·rw[List.getElem?_set_ne (Ne.symm hj)] at e2;let⟨u',r',q⟩:=hl j y v' e1 e2 e3;exists u',r';rcases q with q | ⟨k,c',e,z'⟩
    ·exact .inl q
    ·refine .inr ⟨k,c',e,z'.sameBut hs ?_⟩;rintro rfl;exact hj (F1 hN e1 (I.ok.inj _ _ _ e hc ▸ hi))
  ·by_cases hcc:c'=c
   ·subst hcc;exact⟨_,hc'⟩
   ·let⟨w2,z2⟩:=I.cell y c' e;exact⟨w2,z2.sameBut hs hcc⟩
  ·let⟨e,n,ne,nf,d⟩:=I.pin p hp;refine⟨(hs.2 p.1 ?_).trans e,n,ne,nf,d⟩;intro q;rw[q,hoc] at e;let q':oc=p.2:=yL.inj e;exact d w' (by rw[<-q'];exact hocd)
def J0{M:Model}{A:ay}{E:ja}{i:Nat}{x:Str}{v:V}{u:ai}{Q:Unit->am->Prop}(I:ZJ X kR σ H s)(hN:X.N.Nodup)(hi:X.N[i]? = some x)(hx:No X.env.scope x)(r:ZT v u)(h:∀ s',ZJ X kR (σ.set i (some v)) H s'->Q () s')(hf:X.fn x=true\/X.env.scope.names.lookup x=some .local:=by first | exact .inl rfl | exact .inr rfl | assumption):aC M A (storeName X.env x u) Q E s:=
 EK I hN hi hx r (λs' I' _=>h s' I') hf
def ZJ.call'{s':am}{ch:jR}(I:ZJ X kR σ H s)(ho:s'.os=s.os)(u:Un (Vr X.stack) ch H H' s.heap s'.heap)(hok:XL X.prog X.w H' s'.heap)(hg:AllBare s'.gens)(hch:∀ b∈ch,(b∈X.ex\/X.s₀.heap.objs.size<=b)/\b≠X.env.locals/\(∀ x c,X.env.cells.lookup x=some c->c≠b)/\∀ p∈X.pn++kR,p.1≠b):ZJ X kR σ H' s':=by
 let⟨h',g',d',t',o'⟩:=s';let e:o'=s.os:=ho;subst e;exact I.call (g':=g') (t':=t') (d':=d') u hok hg hch
end
abbrev XK:=ai->jY->Hp->Prop
abbrev St:=List (ji)
abbrev VK:=V->Hp->Prop
abbrev TE:=St->Hp->VK->Prop
abbrev TT:=St->Hp->(Bool->Hp->Prop)->Prop
abbrev TA:=St->Hp->(jh->Hp->Prop)->Prop
structure XA where
 nx:St->Hp->Prop
 rt:VK
 bk:St->Hp->Prop:=λ_ _=>False
 ct:St->Hp->Prop:=λ_ _=>False
abbrev TS:=XA->St->Hp->Prop
def EP(X:Cx)(kR:jO)(σ:St)(Q:VK)(u:ai)(s':am):Prop:=∃ v H',ZJ X kR σ H' s'/\ZT v u/\Q v H'
def TP(X:Cx)(kR:jO)(σ:St)(Q:Bool->Hp->Prop)(b:Bool)(s':am):Prop:=∃ H',ZJ X kR σ H' s'/\Q b H'
def AP(X:Cx)(kR:jO)(σ:St)(Q:jh->Hp->Prop)(us:jg)(s':am):Prop:=∃ vs H',ZJ X kR σ H' s'/\ZR vs us/\Q vs H'
def SP(X:Cx)(kR:jO)(D:XA)(f:Flow)(s':am):Prop:=
 match f with
 | .next=>∃ σ' H',ZJ X kR σ' H' s'/\D.nx σ' H'
 | .brk=>∃ σ' H',ZJ X kR σ' H' s'/\D.bk σ' H'
 | .cont=>∃ σ' H',ZJ X kR σ' H' s'/\D.ct σ' H'
 | .ret u=>∃ v σ' H',ZJ X kR σ' H' s'/\ZT v u/\D.rt v H'
def PE(X:Cx)(e:Expr)(t:TE):Prop:=
 ∀(kR:jO)(s:am)(σ:St)(H:Hp)(Q:VK),ZJ X kR σ H s->t σ H Q->aC (aB X.prog X.w) X.A (aF e X.env) (EP X kR σ Q) X.xe s
def PT(X:Cx)(e:Expr)(t:TT):Prop:=
 ∀(kR:jO)(s:am)(σ:St)(H:Hp)(Q:Bool->Hp->Prop),ZJ X kR σ H s->t σ H Q->aC (aB X.prog X.w) X.A (isTrue e X.env (aF e X.env)) (TP X kR σ Q) X.xe s
def PW(X:Cx)(e:Expr)(t:TT):Prop:=
 ∀(whole:Sem ai)(kR:jO)(s:am)(σ:St)(H:Hp)(Q:Bool->Hp->Prop),ZJ X kR σ H s->t σ H Q->aC (aB X.prog X.w) X.A (isTrue e X.env whole) (TP X kR σ Q) X.xe s
def PW.pt{X:Cx}{e:Expr}{t:TT}(h:PW X e t):PT X e t:=h _
def PA(X:Cx)(es:jU)(t:TA):Prop:=
 ∀(pos:Pos)(kR:jO)(s:am)(σ:St)(H:Hp)(Q:jh->Hp->Prop),ZJ X kR σ H s->t σ H Q->aC (aB X.prog X.w) X.A (spliced (aE pos (aw es X.env))) (AP X kR σ Q) X.xe s
def PS(X:Cx)(st:Stmt)(t:TS):Prop:=
 ∀(kR:jO)(s:am)(σ:St)(H:Hp)(D:XA),ZJ X kR σ H s->t D σ H->aC (aB X.prog X.w) X.A (exec st X.env) (SP X kR D) X.xe s
def VV(X:Cx)(st:List Stmt)(t:TS):Prop:=
 ∀(kR:jO)(s:am)(σ:St)(H:Hp)(D:XA),ZJ X kR σ H s->t D σ H->aC (aB X.prog X.w) X.A (execs st X.env) (SP X kR D) X.xe s
def Zb{α:Type}{t:Sem α}{Q Q':α->am->Prop}{M:Model}{A:ay}{E:ja}{s:am}(h:aC M A t Q E s)(hQ:∀ a s,Q a s->Q' a s):aC M A t Q' E s:=ae h hQ λ_ _ x=>x
variable{X:Cx}
section
inductive Ub(i:Nat)(σ:L2.St)(H:Hp)(Q:VK):Prop
 |mk(v:_)(_:σ[i]? = some (some v))(_:Q v H)
def tC(v:V):TE:=λ_ H Q=>Q v H
def ZPQ{i:Nat}{x:Str}{pos:Pos}(hN:X.N[i]? = some x)(hv:Mq X.env.scope x)(hd:(x==("__debug__" : Str))=false:=by decide)(jA:(x==("__classdict__" : Str))=false:=by decide):PE X (.Name x pos) (Ub i):=by
 intro kR s σ H Q I h;let⟨v,e,h⟩:=h;let⟨m,hn,hl⟩:=I.loc;let⟨u,r,l⟩:=hl i x v hN e hv;let fin:EP X kR σ Q u s:=⟨v,H,I,r,h⟩;rcases l with ⟨hk,hm⟩ | ⟨hk,c,hc,jq⟩
 ·exact wpAny_Name (wpAny_loadName_local I.ok.kind hk hn hm fin) hd
 ·rcases hk with hk | hk
  ·exact wpAny_Name (wpAny_loadName_cell I.ok.kind hk hc jq fin) hd
  ·exact wpAny_Name (wpAny_loadName_free I.ok.kind hk hc jq fin jA) hd
def ZL{i j pos}:PE X (.Constant (.int i) j pos) (tC (.int i)):=λ_ _ _ H _ I h=>wpAny_Constant_int ⟨.int i,H,I.tok _,⟨_,Z⟩,h⟩
def Pi{b j pos}:PE X (.Constant (.bool b) j pos) (tC (.bl b)):=λ_ _ _ H _ I h=>Constant_bool ⟨.bl b,H,I,Z,h⟩
def Mt{j pos}:PE X (.Constant .none j pos) (tC .non):=λ_ _ _ H _ I h=>Constant_none ⟨.non,H,I,Z,h⟩
def YB{x j pos}:PE X (.Constant (.str x) j pos) (tC (.str x)):=λ_ _ _ H _ I h=>Calls.Constant_str ⟨.str x,H,I.tok _,⟨_,Z⟩,h⟩
def Gl(X:Cx)(x:Str):Prop:=X.env.kindOf x=some .globalImplicit
def MY{E:ja}{kR:jO}{s:am}{σ:St}{H:Hp}{x:Str}{u:ai}{pos:Pos}{Q:ja}(I:ZJ X kR σ H s)(hg:Gl X x)(hm:X.mg x=some u)(h:Q u s)(hd:(x==("__debug__" : Str))=false:=by decide):aC (aB X.prog X.w) X.A (aF (.Name x pos) X.env) Q E s:=
 Calls.Name_function_global I.ok.kind hg (Calls.loadGlobal_global (by rw[I.ok.glob];exact I.mod.glob.keeps I.bk) hm h) hd
def Pe{E:ja}{kR:jO}{s:am}{σ:St}{H:Hp}{x:Str}{u:ai}{pos:Pos}{Q:ja}(I:ZJ X kR σ H s)(hg:Gl X x)(hm:X.mg x=none)(hv:az x=some u)(h:Q u s)(hn:x ≠ "__name__" :=by decide)(hd:(x==("__debug__" : Str))=false:=by decide):aC (aB X.prog X.w) X.A (aF (.Name x pos) X.env) Q E s:=by
 let⟨mb,h1,h2⟩:=I.mod.blt;exact Calls.Name_function_global I.ok.kind hg (Calls.loadGlobal_builtin (by rw[I.ok.glob];exact I.mod.glob.keeps I.bk) hm (by rw[I.ok.blt];exact h1.keeps I.bk) ((h2 x hn).trans hv) h) hd
def WE{x:Str}{v:V}{u:ai}{pos:Pos}(hg:Gl X x)(hm:X.mg x=some u)(r:ZT v u)(hd:(x==("__debug__" : Str))=false:=by decide):PE X (.Name x pos) (tC v):=
 λ_ _ _ H _ I h=>MY I hg hm ⟨v,H,I,r,h⟩ hd
def Wt{x:Str}{v:V}{u:ai}{pos:Pos}(hg:Gl X x)(hm:X.mg x=none)(hv:az x=some u)(r:ZT v u)(hn:x ≠ "__name__" :=by decide)(hd:(x==("__debug__" : Str))=false:=by decide):PE X (.Name x pos) (tC v):=
 λ_ _ _ H _ I h=>Pe I hg hm hv ⟨v,H,I,r,h⟩ hn hd
variable{a b:Expr}{ta tb:TE}{pos:Pos}
def PC(X:Cx)(op:CmpOp)(a b:Expr)(t:TE):Prop:=
 ∀(kR:jO)(s:am)(σ:St)(H:Hp)(Q:VK),ZJ X kR σ H s->t σ H Q ->
  aC (aB X.prog X.w) X.A (aF a X.env) (λv s₁=>aC (aB X.prog X.w) X.A (aF b X.env) (λu s₂=>aC (aB X.prog X.w) X.A (aA op v u) (EP X kR σ Q) X.xe s₂) X.xe s₁) X.xe s
def DQ(b:Expr){op:CmpOp}(h:op≠.In)(h2:op≠.NotIn):behindInMarks op b=false:=by
 let e1:(op==CmpOp.In)=false:=by cases op <;> first | rfl | exact absurd rfl h
 let e2:(op==CmpOp.NotIn)=false:=by cases op <;> first | rfl | exact absurd rfl h2
 cases b <;> simp[behindInMarks,e1,e2]
def ZRb(ta:TE):TE:=λσ H Q=>ta σ H λx H1=>Q (.bl (decide (x=.non))) H1
def AW(ta:TE):TE:=λσ H Q=>ta σ H λx H1=>Q (.bl (!decide (x=.non))) H1
def ZT.none_iff{x:V}{v:ai}(r:ZT x v):(v==Value.none)=decide (x=.non):=by
 cases x with
 | non=>cases r;rfl
 | bl _=>cases r;rfl
 | int _=>let⟨t,rfl⟩:=r;rfl
 | str _=>let⟨t,rfl⟩:=r;rfl
 | byt _=>let⟨t,rfl⟩:=r;rfl
 | flt _=>let⟨t,rfl⟩:=r;rfl
 | ref _=>cases r;rfl
 | ty _=>cases r;rfl
def Os{j pos'}(ha:PE X a ta):PC X .Is a (.Constant .none j pos') (ZRb ta):=by
 intro kR s σ H Q I h;refine Zb (ha kR s σ H _ I h) λv s1 ⟨x,H1,I1,r1,q1⟩=>?_;exact Constant_none (is_none_gen ⟨.bl _,H1,I1,by rw[r1.none_iff];rfl,q1⟩)
def Mv{j pos'}(ha:PE X a ta):PC X .IsNot a (.Constant .none j pos') (AW ta):=by
 intro kR s σ H Q I h;refine Zb (ha kR s σ H _ I h) λv s1 ⟨x,H1,I1,r1,q1⟩=>?_;exact Constant_none (isnot_none_gen ⟨.bl _,H1,I1,by rw[r1.none_iff];rfl,q1⟩)
def tB(t:TE):TT:=λσ H Q=>t σ H λx H1=>∃ c,x=.bl c/\Q c H1
def Hr{op:CmpOp}{t:TE}(h:PC X op a b t)(h1:behindInMarks op b=false:=by first | exact DQ _ (by decide) (by decide) | rfl):PE X (.Compare a [op] [b] pos) t:=λkR s σ H Q I hw=>wpAny_Compare1 (h kR s σ H Q I hw) h1
def Uz{op:CmpOp}{t:TE}(h:PC X op a b t)(h1:behindInMarks op b=false:=by first | exact DQ _ (by decide) (by decide) | rfl):PT X (.Compare a [op] [b] pos) (tB t):=by
 intro kR s σ H Q I hw;refine wpAny_isTrue_Compare1 (Zb (h kR s σ H _ I hw) λv s1 h1=>Zb h1 λu s2 h2=>Zb h2 λc s3 ⟨x,H1,I1,r1,q1⟩=>?_) h1;let⟨d,rfl,q⟩:=q1;cases r1;exact wpAny_truthy_bool ⟨H1,I1,q⟩
def XD{e:Expr}{t:TE}(h:PE X e t)(he:∀ whole,isTrue e X.env whole=(do let v<-whole;standAt e.pos;holding [v] (truthy v)):=by intro _;rfl):PT X e (tB t):=by
 intro kR s σ H Q I hw;refine isTrue_plain (Zb (h kR s σ H _ I hw) λv s1 ⟨x,H1,I1,r1,q1⟩=>?_) (he _);let⟨d,rfl,q⟩:=q1;cases r1;exact wpAny_truthy_bool ⟨H1,I1,q⟩
variable{tA tB':TT}{rest:jU}
def ZRW(t u:TT):TT:=λσ H Q=>t σ H λc H1=>if c=true then u σ H1 Q else Q false H1
def tOr(t u:TT):TT:=λσ H Q=>t σ H λc H1=>if c=true then Q true H1 else u σ H1 Q
def ZRY(t:TT):TT:=λσ H Q=>t σ H λc H1=>Q (!c) H1
def NV(ha:PT X a tA):PW X (.BoolOp .And [a] pos) tA:=by
 intro wh kR s σ H Q I h;refine isTrue_and (Zb (ha kR s σ H Q I h) λc s1 e=>?_)
 cases c with
 | true=>exact isTrue_and_nil e
 | false=>exact e
def UN(ha:PT X a tA):PW X (.BoolOp .Or [a] pos) tA:=by
 intro wh kR s σ H Q I h;refine isTrue_or (Zb (ha kR s σ H Q I h) λc s1 e=>?_)
 cases c with
 | false=>exact isTrue_or_nil e
 | true=>exact e
def Nk(ha:PT X a tA)(hb:PW X (.BoolOp .And (b::rest) pos) tB'):PW X (.BoolOp .And (a::b::rest) pos) (ZRW tA tB'):=by
 intro wh kR s σ H Q I h;refine isTrue_and (Zb (ha kR s σ H _ I h) λc s1 ⟨H1,I1,q1⟩=>?_)
 cases c with
 | true=>exact hb wh kR s1 σ H1 Q I1 q1
 | false=>exact⟨H1,I1,q1⟩
def Vo(ha:PT X a tA)(hb:PW X (.BoolOp .Or (b::rest) pos) tB'):PW X (.BoolOp .Or (a::b::rest) pos) (tOr tA tB'):=by
 intro wh kR s σ H Q I h;refine isTrue_or (Zb (ha kR s σ H _ I h) λc s1 ⟨H1,I1,q1⟩=>?_)
 cases c with
 | true=>exact⟨H1,I1,q1⟩
 | false=>exact hb wh kR s1 σ H1 Q I1 q1
def VW(ha:PT X a tA):PT X (.UnaryOp .Not a pos) (ZRY tA):=by
 intro kR s σ H Q I h;exact isTrue_not (ha kR s σ H (λc H1=>Q (!c) H1) I h)
inductive P9(tb:TE)(σ:L2.St)(Q:VK)(x:V)(H1:Hp):Prop
 |mk(c:_)(_:x=.bl c)(_:if c=true then tb σ H1 Q else Q (.bl false) H1)
def ZQ8(ta tb:TE):TE:=λσ H Q=>ta σ H λx H1=>P9 tb σ Q x H1
inductive OI(Q:VK)(x:V)(H1:Hp):Prop
 |mk(c:_)(_:x=.bl c)(_:Q (.bl (!c)) H1)
def Cw(ta:TE):TE:=λσ H Q=>ta σ H λx H1=>OI Q x H1
def U4{op}{t:TE}(h:PE X a t):PE X (.BoolOp op [a] pos) t:=λkR s σ H Q I hw=>BoolOp_one (h kR s σ H Q I hw)
def QX(ha:PE X a ta)(hb:PE X (.BoolOp .And (b::rest) pos) tb):PE X (.BoolOp .And (a::b::rest) pos) (ZQ8 ta tb):=by
 intro kR s σ H Q I h;refine BoolOp_and (Zb (ha kR s σ H _ I h) λv s1 ⟨x,H1,I1,r1,q1⟩=>?_);let⟨c,rfl,q1⟩:=q1;cases r1;refine wpAny_truthy_bool ?_
 cases c with
 | true=>exact hb kR s1 σ H1 Q I1 q1
 | false=>exact⟨.bl false,H1,I1,Z,q1⟩
def ZO9(ha:PE X a ta):PE X (.UnaryOp .Not a pos) (Cw ta):=by
 intro kR s σ H Q I h;refine UnaryOp_ (Zb (ha kR s σ H _ I h) λv s1 ⟨x,H1,I1,r1,q1⟩=>?_);let⟨c,rfl,q1⟩:=q1;cases r1;exact not_of (wpAny_truthy_bool ⟨.bl (!c),H1,I1,Z,q1⟩)
end
def ZI(K:zZ)(H:Hp)(a:aj)(xs:jh):Prop:=
 Rd H a (.lst xs) \/
  ∃(o:aG)(jk:jV)(n:Nat),K.lookup a=some o/\o.cls=.type "list" /\ o.dict=none/\o.data=.seq jk n/\jk.size<=ar/\ZR xs jk.toList
def Zd(K:zZ)(H:Hp)(a:aj)(xs:jh):Prop:=
 Rd H a (.tup xs) \/
  ∃(o:aG)(jk:jV)(n:Nat),K.lookup a=some o/\o.cls=.type "tuple" /\ o.data=.seq jk n/\jk.size<=ar/\ZR xs jk.toList
def ZRQ:ai->ji
 | .none=>some .non
 | .bool b=>some (.bl b)
 | .int i _=>some (.int i)
 | .str x _=>some (.str x)
 | .bytes b _=>some (.byt b)
 | .float b _=>some (.flt b)
 | .ref a=>some (.ref a)
 | .type n=>some (.ty n)
 | _=>none
def ZT.abs{x:V}{u:ai}(r:ZT x u):ZRQ u=some x:=by
 cases x with
 | non=>cases r;rfl
 | bl _=>cases r;rfl
 | int _=>let⟨t,rfl⟩:=r;rfl
 | str _=>let⟨t,rfl⟩:=r;rfl
 | byt _=>let⟨t,rfl⟩:=r;rfl
 | flt _=>let⟨t,rfl⟩:=r;rfl
 | ref _=>cases r;rfl
 | ty _=>cases r;rfl
def ZT.inj{x y:V}{u:ai}(r:ZT x u)(q:ZT y u):x=y:=yL.inj (r.abs.symm.trans q.abs)
def ZR.inj:∀{xs ys:jh}{us:jg},ZR xs us->ZR ys us->xs=ys
 | _,_,_,.nil,.nil=>rfl
 | _,_,_,.cons r t,.cons r' t'=>by rw[r.inj r',ZR.inj t t']
section
variable{kR:jO}{σ:St}{H:Hp}{s:am}{a:aj}{xs ys:jh}
def ZI.of{K:zZ}(h:H a=some (.lst xs)):ZI K H a xs:=.inl (.inl h)
def Zd.of{K:zZ}(h:H a=some (.tup xs)):Zd K H a xs:=.inl (.inl h)
def ZJ.list(I:ZJ X kR σ H s)(h:ZI X.K H a xs):∃ jk:jg,ZR xs jk/\PlainL s.heap a jk.toArray/\xs.length<=sizeLine:=by
 rcases h with h | ⟨o,jk,n,hk,hc,hd,hs,hz,r⟩
 ·let⟨z,jk,n,r,e⟩:=h.ok I.hok;exact⟨jk,r,⟨_,n,e,Z,Z,Z⟩,z⟩
 ·exists jk.toList,r,⟨o,n,I.kIn a o hk,hc,hd,by simpa using hs⟩
  let e:=r.length;simp only[yM] at e;lia
def ZJ.tuple(I:ZJ X kR σ H s)(h:Zd X.K H a xs):∃ jk:jg,ZR xs jk/\IsTup s.heap a jk.toArray/\xs.length<=sizeLine:=by
 rcases h with h | ⟨o,jk,n,hk,hc,hs,hz,r⟩
 ·let⟨z,jk,r,p⟩:=h.ok I.hok;exact⟨jk,r,p,z⟩
 ·exists jk.toList,r,⟨o,I.kIn a o hk,hc,n,by simpa using hs⟩
  let e:=r.length;simp only[yM] at e;lia
def ZJ.list_inj(I:ZJ X kR σ H s)(h:ZI X.K H a xs)(h':ZI X.K H a ys):xs=ys:=by
 let⟨jk,r,⟨o,n,e,_,_,d⟩,_⟩:=I.list h;let⟨its',r',⟨o',n',e',_,_,d'⟩,_⟩:=I.list h';rw[e] at e';cases e';rw[d] at d';injection d' with d1 _;have:jk=its':=by simpa using congrArg zEJ d1
 subst this;exact r.inj r'
def ZJ.tuple_inj(I:ZJ X kR σ H s)(h:Zd X.K H a xs)(h':Zd X.K H a ys):xs=ys:=by
 let⟨jk,r,⟨o,e,_,n,d⟩,_⟩:=I.tuple h;let⟨its',r',⟨o',e',_,n',d'⟩,_⟩:=I.tuple h';rw[e] at e';cases e';rw[d] at d';injection d' with d1 _;have:jk=its':=by simpa using congrArg zEJ d1
 subst this;exact r.inj r'
end
abbrev Cx.wish(X:Cx)(E:ja):Cx:={ X with xe:=E }
abbrev Cx.nox(X:Cx):Cx:=X.wish λ_ _=>False
def Cx.Ok.wish{X:Cx}(ok:X.Ok)(E:ja):(X.wish E).Ok:=
 ⟨ok.mod,ok.kind,ok.glob,ok.blt,ok.above,ok.inj,ok.has,ok.cab,ok.hd,ok.frames,ok.stk,ok.exf,ok.bs,ok.bsz,ok.noex,ok.exfs,ok.funs,ok.frf⟩
def Cx.Ok.unwish{X:Cx}{E:ja}(ok:(X.wish E).Ok):X.Ok:=
 ⟨ok.mod,ok.kind,ok.glob,ok.blt,ok.above,ok.inj,ok.has,ok.cab,ok.hd,ok.frames,ok.stk,ok.exf,ok.bs,ok.bsz,ok.noex,ok.exfs,ok.funs,ok.frf⟩
section
variable{kR:jO}{σ:St}{H:Hp}{s:am}{E:ja}
def ZJ.wish(I:ZJ X kR σ H s)(E:ja):ZJ (X.wish E) kR σ H s:=⟨I.ok.wish E,I.os,I.bare,I.base,I.loc,I.cell,I.free,I.freeC,I.pin,I.hok,I.len⟩
def ZJ.unwish(I:ZJ (X.wish E) kR σ H s):ZJ X kR σ H s:=⟨I.ok.unwish,I.os,I.bare,I.base,I.loc,I.cell,I.free,I.freeC,I.pin,I.hok,I.len⟩
def SP.unwish{D:XA}{f:Flow}{s':am}(h:SP (X.wish E) kR D f s'):SP X kR D f s':=by
 cases f with
 | next=>let⟨σ',H',I,q⟩:=h;exact⟨σ',H',I.unwish,q⟩
 | brk=>let⟨σ',H',I,q⟩:=h;exact⟨σ',H',I.unwish,q⟩
 | cont=>let⟨σ',H',I,q⟩:=h;exact⟨σ',H',I.unwish,q⟩
 | ret u=>let⟨v,σ',H',I,r,q⟩:=h;exact⟨v,σ',H',I.unwish,r,q⟩
def VV.nox{st:List Stmt}{t:TS}(h:VV X.nox st t):VV X st t:=λkR s σ H D I hw=>
 ae (h kR s σ H D (I.wish _) hw) (λ_ _ q=>q.unwish) λ_ _ z=>False.elim z
end
section
variable{st:Stmt}{rest:List Stmt}{t u:TS}{e:Expr}{te:TE}{pos:Pos}
def ZQQ:TS:=λD σ H=>D.nx σ H
def ZRR(t u:TS):TS:=λD σ H=>t { D with nx:=u D } σ H
def Zw:VV X [] ZQQ:=λ_ _ σ H _ I h=>wpAny_execs_nil ⟨σ,H,I,h⟩
def ZO(h1:PS X st t)(h2:VV X rest u):VV X (st::rest) (ZRR t u):=by
 intro kR s σ H D I h;refine wpAny_execs_cons (Zb (h1 kR s σ H { D with nx:=u D } I h) λf s1 q=>?_)
 cases f with
 | next=>
  let⟨σ',H',I',q⟩:=q;exact h2 kR s1 σ' H' D I' q
 | ret v=>exact q
 | brk=>exact q
 | cont=>exact q
def ZP(h1:PS X st t):VV X [st] t:=by
 intro kR s σ H D I h;refine wpAny_execs_cons (Zb (h1 kR s σ H D I h) λf s1 q=>?_)
 cases f with
 | next=>exact wpAny_execs_nil q
 | ret v=>exact q
 | brk=>exact q
 | cont=>exact q
def ZJ.quiet{kR:jO}{σ:St}{H:Hp}{s:am}(I:ZJ X kR σ H s):interactive X.env=false:=by simp[interactive,I.ok.kind]
def ZQr(te:TE):TS:=λD σ H=>te σ H λ_ H1=>D.nx σ H1
def Xd(he:PE X e te)(hs:swapsWith e none pos.line X.env=pure false:=by rfl):PS X (.Expr e pos) (ZQr te):=by
 intro kR s σ H D I h;exact wpAny_Expr_any (Zb (he kR s σ H _ I h) λv s1 ⟨x,H1,I1,r1,q1⟩=>⟨σ,H1,I1,q1⟩) I.quiet hs
def ZRV(te:TE):TS:=λD σ H=>te σ H D.rt
def Zk(he:PE X e te):PS X (.Return (some e) pos) (ZRV te):=by
 intro kR s σ H D I h;exact wpAny_Return_some (Zb (he kR s σ H _ I h) λv s1 ⟨x,H1,I1,r1,q1⟩=>⟨x,σ,H1,I1,r1,q1⟩)
def AL:TS:=λD _ H=>D.rt .non H
def ZNX:PS X (.Return none pos) AL:=λ_ _ σ H _ I h=>wpAny_Return_none ⟨.non,σ,H,I,Z,h⟩
def Cr(c:TT)(t u:TS):TS:=λD σ H=>c σ H λb H1=>if b=true then t D σ H1 else u D σ H1
def Zt{c:Expr}{a b:List Stmt}{tc:TT}(hc:PT X c tc)(ha:VV X a t)(hb:VV X b u):PS X (.If c a b pos) (Cr tc t u):=by
 intro kR s σ H D I h;refine wpAny_If (Zb (hc kR s σ H _ I h) λd s1 ⟨H1,I1,q1⟩=>?_)
 cases d with
 | true=>exact ha kR s1 σ H1 D I1 q1
 | false=>exact hb kR s1 σ H1 D I1 q1
def GW:TS:=λ_ _ _=>False
def WM:PS X st GW:=λ_ _ _ _ _ _ h=>h.elim
def O3{sts:List Stmt}:VV X sts GW:=λ_ _ _ _ _ _ h=>h.elim
end
abbrev TG:=V->St->Hp->(St->Hp->Prop)->Prop
abbrev Oo:=jh->St->Hp->(St->Hp->Prop)->Prop
def PG(X:Cx)(target:Expr)(t:TG):Prop:=
 ∀(kR:jO)(s:am)(σ:St)(H:Hp)(v:V)(u:ai)(Q:St->Hp->Prop),ZJ X kR σ H s->ZT v u->t v σ H Q ->
  aC (aB X.prog X.w) X.A (assign target X.env u) (λ_ s'=>∃ σ' H',ZJ X kR σ' H' s'/\Q σ' H') X.xe s
def Lp(X:Cx)(ts:jU)(t:Oo):Prop:=
 ∀(kR:jO)(s:am)(σ:St)(H:Hp)(vs:jh)(us:jg)(Q:St->Hp->Prop),ZJ X kR σ H s->ZR vs us->t vs σ H Q ->
  aC (aB X.prog X.w) X.A (assignInOrder ((assignEach ts X.env).map (·.2)) us) (λ_ s'=>∃ σ' H',ZJ X kR σ' H' s'/\Q σ' H') X.xe s
abbrev JW:=V->V->V->Hp->(Hp->Prop)->Prop
def GN(X:Cx)(t:JW):Prop:=
 ∀(kR:jO)(s:am)(σ:St)(H:Hp)(o i v:V)(ov iv u:ai)(Q:Hp->Prop),ZJ X kR σ H s->ZT o ov->ZT i iv->ZT v u->t o i v H Q ->
  aC (aB X.prog X.w) X.A (setItem ov iv u) (λ_ s'=>∃ H',ZJ X kR σ H' s'/\Q H') X.xe s
abbrev LH:=V->V->Hp->VK->Prop
def CI(X:Cx)(op:Operator)(t:LH):Prop:=
 ∀(kR:jO)(s:am)(σ:St)(H:Hp)(x y:V)(v u:ai)(Q:VK),ZJ X kR σ H s->ZT x v->ZT y u->t x y H Q ->
  aC (aB X.prog X.w) X.A (inplaceOp op v u) (EP X kR σ Q) X.xe s
section
variable{pos:Pos}
def NB(i:Nat):TG:=λv σ H Q=>Q (σ.set i (some v)) H
def XB{i:Nat}{x:Str}(hN:X.N.Nodup)(hi:X.N[i]? = some x)(hx:No X.env.scope x)(hf:X.fn x=true\/X.env.scope.names.lookup x=some .local:=by first | exact .inl rfl | exact .inr rfl | assumption):PG X (.Name x pos) (NB i):=by
 intro kR s σ H v u Q I r h;exact wpAny_assign_Name (J0 I hN hi hx r (λs' I'=>⟨_,H,I',h⟩) hf)
def ZRo:Oo:=λvs σ H Q=>vs=[]/\Q σ H
inductive Nn(t:TG)(u:Oo)(vs:jh)(σ:L2.St)(H:Hp)(Q:L2.St->Hp->Prop):Prop
 |mk(v r:_)(_:vs=v::r)(_:t v σ H λσ' H'=>u r σ' H' Q)
def Ip:Lp X [] ZRo:=by
 intro kR s σ H vs us Q I r h;let⟨e,h⟩:=h;subst e;cases r;exact assignInOrder_nil ⟨σ,H,I,h⟩
def Ol{e:Expr}{es:jU}{t:TG}{u:Oo}(h1:PG X e t)(h2:Lp X es u)(hs:(assignEach (e::es) X.env).map (·.2)=assign e X.env::(assignEach es X.env).map (·.2):=by rfl):Lp X (e::es) (Nn t u):=by
 intro kR s σ H vs us Q I r h;let⟨v,vr,e1,h⟩:=h;subst e1
 cases r with
 | cons r rr=>
  rw[hs];refine assignInOrder_cons (Zb (h1 kR s σ H _ _ _ I r h) λ_ s1 ⟨σ1,H1,I1,q1⟩=>?_);exact h2 kR s1 σ1 H1 _ _ Q I1 rr q1
inductive JC(K:zZ)(n:Nat)(t:Oo)(v:V)(σ:L2.St)(H:Hp)(Q:L2.St->Hp->Prop):Prop
 |mk(a xs:_)(_:v=.ref a)(_:Zd K H a xs)(_:xs.length=n)(_:t xs σ H Q)
def IZ{es:jU}{k:Nat}{t:Oo}{n:Nat}(hc:X.calm=true)(h:Lp X es t)(hn:(assignEach es X.env).length=n:=by rfl)(hst:(assignEach es X.env).findIdx? (·.1)=none:=by rfl):PG X (.Tuple es k pos) (JC X.K n t):=by
 intro kR s σ H v u Q I r hw;let⟨a,xs,e1,hq,hl,hw⟩:=hw;subst e1;cases r;let⟨jk,rv,ht,hz⟩:=I.tuple hq;refine assign_Tuple_tuple (I.ok.hd hc) ht (by simp[hn,<-hl,rv.length]) hst λh' hx=>?_
 let I1:ZJ X kR σ H { s with heap:=h' }:=I.kept (t':=s.toks) λb o e=>hx b o (yN (zL e)) e;exact h kR _ σ H xs _ Q I1 (by simpa using rv) hw
def AA(to ti:TE)(t:JW):TG:=λv σ H Q=>to σ H λo H1=>ti σ H1 λi H2=>t o i v H2 λH3=>Q σ H3
def Kd{o i:Expr}{to ti:TE}{t:JW}(ho:PE X o to)(hi:PE X i ti)(hs:GN X t)(ha:∀ v,assign (.Subscript o i pos) X.env v=(do
   let ov<-holding [v] (aF o X.env)
   let iv<-holding [v,ov] (aF i X.env)
   standAt pos
   holding [v,ov,iv] (setItem ov iv v)
   release [v,ov,iv] []):=by intro _;rfl):PG X (.Subscript o i pos) (AA to ti t):=by
 intro kR s σ H v u Q I r h;rw[ha];refine aa (af (Zb (ho kR s σ H _ I h) λov s1 ⟨x,H1,I1,r1,q1⟩=>?_));refine aa (af (Zb (hi kR s1 σ H1 _ I1 q1) λiv s2 ⟨y,H2,I2,r2,q2⟩=>?_));refine aa (wpAny_standAt (aa (af (Zb (hs kR s2 σ H2 x y v ov iv u _ I2 r1 r2 r q2) λ_ s3 ⟨H3,I3,q3⟩=>?_))));exact wpAny_release ⟨σ,H3,I3,q3⟩
def Dc(te:TE)(g:TG):TS:=λD σ H=>te σ H λx H1=>g x σ H1 D.nx
def MF{tg e:Expr}{te:TE}{g:TG}(he:PE X e te)(hg:PG X tg g)(hs:swapsWithSole [tg] e pos.line X.env=pure false:=by rfl)(hw:swappedStores [tg] e X.env=pure none:=by rfl)(h1:(assignEach [tg] X.env).map (·.2)=[assign tg X.env]:=by rfl):PS X (.Assign [tg] e pos) (Dc te g):=by
 intro kR s σ H D I h;refine wpAny_Assign_stores (Zb (he kR s σ H _ I h) λv s1 ⟨x,H1,I1,r1,q1⟩=>?_) hs hw;rw[h1];exact Zb (hg kR s1 σ H1 x v _ I1 r1 q1) λ_ s2 q=>q
def Zr{i:Nat}{x:Str}{e:Expr}{te:TE}{pos':Pos}(hN:X.N.Nodup)(hi:X.N[i]? = some x)(hx:No X.env.scope x)(he:PE X e te)(hs:swapsWith e (some (.Name x pos')) pos.line X.env=pure false:=by rfl)(hf:X.fn x=true\/X.env.scope.names.lookup x=some .local:=by first | exact .inl rfl | exact .inr rfl | assumption):
  PS X (.Assign [.Name x pos'] e pos) (Dc te (NB i)):=by
 intro kR s σ H D I h;refine wpAny_Assign_Name (Zb (he kR s σ H _ I h) λv s1 ⟨y,H1,I1,r1,q1⟩=>?_) hs;exact J0 I1 hN hi hx r1 (λs2 I2=>⟨_,H1,I2,q1⟩) hf
inductive JU(i:Nat)(te:TE)(ti:LH)(D:XA)(σ:L2.St)(H:Hp):Prop
 |mk(x:_)(_:σ[i]? = some (some x))(_:te σ H λy H1=>ti x y H1 λz H2=>D.nx (σ.set i (some z)) H2)
def Eu{i:Nat}{x:Str}{e:Expr}{te:TE}{op:Operator}{ti:LH}{pos':Pos}(hN:X.N.Nodup)(hi:X.N[i]? = some x)(hx:No X.env.scope x)(he:PE X e te)(ho:CI X op ti)(hf:X.fn x=true\/X.env.scope.names.lookup x=some .local:=by first | exact .inl rfl | exact .inr rfl | assumption):
  PS X (.AugAssign (.Name x pos') op e pos) (JU i te ti):=by
 intro kR s σ H D I h;let⟨v,e1,h⟩:=h;let⟨m,hn,hl⟩:=I.loc;let vis:Mq X.env.scope x:=by rcases hx with k | k;exact .inl k;exact .inr (.inl k)
 let⟨u,r,l⟩:=hl i x v hi e1 vis;refine wpAny_AugAssign_Name ?_;let go:aC (aB X.prog X.w) X.A (aF e X.env) (λw s₂=>aC (aB X.prog X.w) X.A (inplaceOp op u w) (λr s₃=>aC (aB X.prog X.w) X.A (storeName X.env x r) (λ_=>SP X kR D .next) X.xe s₃) X.xe s₂) X.xe s:=by
  refine Zb (he kR s σ H _ I h) λw s1 ⟨y,H1,I1,r1,q1⟩=>?_;refine Zb (ho kR s1 σ H1 v y u w _ I1 r r1 q1) λz s2 ⟨zv,H2,I2,r2,q2⟩=>?_;exact J0 I2 hN hi hx r2 (λs3 I3=>⟨_,H2,I3,q2⟩) hf
 rcases l with ⟨hk,hm⟩ | ⟨hk,c,hc,jq⟩
 ·exact wpAny_loadName_local I.ok.kind hk hn hm go
 ·rcases hk with hk | hk
  ·exact wpAny_loadName_cell I.ok.kind hk hc jq go
  ·rcases hx with k | k
   ·have:X.env.scope.names.lookup x=some .free:=hk;rw[k] at this;cases this
   ·have:X.env.scope.names.lookup x=some .free:=hk;rw[k] at this;cases this
def A5(f:Int->Int->Int):LH:=λx y H Q=>∃ i j,x=.int i/\y=.int j/\Q (.int (f i j)) H
def Di:CI X .Add (A5 λi j=>i+j):=by
 intro kR s σ H x y v u Q I r1 r2 h;let⟨i,j,e1,e2,q⟩:=h;subst e1;subst e2;let⟨t,rfl⟩:=r1;let⟨t',rfl⟩:=r2;exact iadd_int ⟨.int _,H,I.tok _,⟨_,Z⟩,q⟩
inductive P8(c:TT)(tb:TS)(D:XA)(σ:L2.St)(H:Hp):Prop
 |mk(W:Nat->St->Hp->Prop)(_:∃ m,W m σ H)(_:∀ m σ H,W m σ H->c σ H λb H1=>if b=true then ∃ N:St->Hp->Prop,(∀ σ' H',N σ' H'->∃ m',m'<m/\W m' σ' H')/\tb { D with nx:=N,ct:=N,bk:=D.nx } σ H1 else D.nx σ H1)
def NQ{c:Expr}{body:List Stmt}{tc:TT}{tb:TS}(hp:PassesOwn (aB X.prog X.w) X.A X.env X.xe)(hc:PT X c tc)(hb:VV X body tb):PS X (.While c body [] pos) (P8 tc tb):=by
 intro kR s σ H D I h;let⟨W,⟨m0,w0⟩,turn⟩:=h;refine wpAny_While (codeAny_whileLoop (λn s'=>∃ σ' H',ZJ X kR σ' H' s'/\W n σ' H') ?_ m0 ⟨σ,H,I,w0⟩);rintro n s1 ⟨σ1,H1,I1,w1⟩;refine wpAny_passesOwn hp (Zb (hc kR s1 σ1 H1 _ I1 (turn n σ1 H1 w1)) λb s2 ⟨H2,I2,q2⟩=>?_)
 cases b with
 | true=>
  let⟨N,hN,q2⟩:=q2;rw[aK rfl];refine wpAny_passesOwn hp (Zb (hb kR s2 σ1 H2 _ I2 q2) λf s3 q3=>?_)
  cases f with
  | next=>
   let⟨σ3,H3,I3,n3⟩:=q3;let⟨m',hm,w3⟩:=hN σ3 H3 n3;exact⟨m',hm,σ3,H3,I3,w3⟩
  | cont=>
   let⟨σ3,H3,I3,n3⟩:=q3;let⟨m',hm,w3⟩:=hN σ3 H3 n3;exact⟨m',hm,σ3,H3,I3,w3⟩
  | brk=>exact q3
  | ret v=>exact q3
 | false=>
  rw[aJ zS];exact wpAny_execs_nil ⟨σ1,H2,I2,q2⟩
end
structure It where
 go:Nat->Hp->Prop
 yld:Nat->Hp->V->Hp->Prop
 stop:Nat->Hp->Prop
def VO(X:Cx)(kR:jO)(H:Hp)(b:aj):Prop:=
 H b=none/\b≠X.env.locals/\b∉X.fs/\(b∈X.ex\/X.s₀.heap.objs.size<=b)/\(∀ x c,X.env.cells.lookup x=some c->c≠b)/\∀ p∈X.pn++kR,p.1≠b
def ZJ.fpOk{X:Cx}{kR:jO}{σ:St}{H H':Hp}{s:am}{b:aj}(I:ZJ X kR σ H s)(hb:s.heap.objs.size<=b)(hn:H' b=none):VO X kR H' b:=by
 refine⟨hn,Nat.ne_of_gt (yQ I.lt hb),I.nofs hb,.inr (zK I.sz hb),λx c e z=>?_,λp hp z=>?_⟩
 ·let⟨v,q⟩:=I.cell x c e;exact absurd (yQ q.lt (by rw[z];exact hb)) (xP _)
 ·exact absurd (yQ (zL (I.pin p hp).1) (by rw[z];exact hb)) (xP _)
structure VJ(P:ao)(w:ax)(K:zZ)(tg:Expr)(J:It)(fp:jR)(it:aj)(tn:Nat->aD->Prop):Prop where
 mem:it∈fp
 obj:∀ i h,tn i h->∀ b∈fp,∃ o,h.get? b=some o/\∀ v,o.data≠.cell v
 keep:∀ i h h',tn i h->(∀ b∈fp,∀ o,h.get? b=some o->h'.get? b=some o)->tn i h'
 item:∀(X:Cx),X.prog=P->X.w=w->X.K=K->X.calm=true->∀(i:Nat)(kR:jO)(s:am)(σ:St)(H:Hp)(E:ja),ZJ X kR σ H s->(∀ b∈fp,VO X kR H b)->tn i s.heap->J.go i H ->
  aC (aB P w) X.A (pyNext (.ref it)) (λr s1=>∃ u,r=some u /\
   aC (aB P w) X.A (letOwnedTupleGo tg (.ref it) u) (λ_ s2=>∃ x H',ZJ X kR σ H' s2/\ZT x u/\J.yld i H x H'/\tn (i+1) s2.heap/\∀ b∈fp,H' b=none) E s1) E s
 done:∀(X:Cx),X.prog=P->X.w=w->X.K=K->X.calm=true->∀(i:Nat)(kR:jO)(s:am)(σ:St)(H:Hp)(E:ja),ZJ X kR σ H s->(∀ b∈fp,VO X kR H b)->tn i s.heap->J.stop i H ->
  aC (aB P w) X.A (pyNext (.ref it)) (λr s1=>r=none/\ZJ X kR σ H s1) E s
 self:∀(A:ay)(i:Nat)(s:am)(Q:ja)(E:ja),tn i s.heap->Q (.ref it) s->aC (aB P w) A (pyIter (.ref it)) Q E s
abbrev TI:=St->Hp->(It->Hp->Prop)->Prop
def F0(X:Cx)(kR:jO)(σ:St)(tg:Expr)(R:It->Hp->Prop)(itv:ai)(s2:am):Prop:=
 ∃(it:aj)(fp:jR)(tn:Nat->aD->Prop)(J:It)(H':Hp),itv=.ref it/\ZJ X kR σ H' s2/\VJ X.prog X.w X.K tg J fp it tn/\tn 0 s2.heap/\(∀ b∈fp,VO X kR H' b)/\R J H'
def PI(X:Cx)(tg iter:Expr)(wi:TI):Prop:=
 ∀(kR:jO)(s:am)(σ:St)(H:Hp)(R:It->Hp->Prop),ZJ X kR σ H s->wi σ H R ->
  aC (aB X.prog X.w) X.A (aF iter X.env) (λv s1=>aC (aB X.prog X.w) X.A (pyIter v) (F0 X kR σ tg R) X.xe s1) X.xe s
def Nr{M:Model}{A:ay}{E:ja}{s:am}{tg:Expr}{it:aj}{u:ai}{o:aG}{n:String}{vs:jV}{Q:Unit->am->Prop}(ho:s.heap.get? it=some o)(hc:o.cls=.type n)(hd:o.data=.fields vs)(hn:["enumerate","zip","dict_itemiterator","dict_reverseitemiterator","odict_iterator","itertools.zip_longest","itertools.pairwise"].contains n=false)(hQ:Q () s):aC M A (letOwnedTupleGo tg (.ref it) u) Q E s:=by
 unfold letOwnedTupleGo;cases tg <;> first
  | exact ad hQ
  | (cases u <;> first
    | exact ad hQ
    | (refine aa (wpAny_load ho ?_);rw[hc,hd];show aC M A (if (["enumerate","zip","dict_itemiterator","dict_reverseitemiterator","odict_iterator","itertools.zip_longest","itertools.pairwise"].contains n&&vs[0]? == some (rawInt _))=true then _ else _) Q E s;rw[aJ (by intro h;rw[hn,uY] at h;cases h)];exact ad hQ))
def N7(K:zZ)(a:aj):It:=
 ⟨λi H=>∃ xs x,ZI K H a xs/\xs[i]? = some x,λi H x H'=>H'=H/\∀ xs,ZI K H a xs->xs[i]? = some x,λi H=>∃ xs,ZI K H a xs/\xs.length<=i⟩
def Hg(K:zZ)(a:aj):It:=
 ⟨λi H=>∃ xs x,Zd K H a xs/\xs[i]? = some x,λi H x H'=>H'=H/\∀ xs,Zd K H a xs->xs[i]? = some x,λi H=>∃ xs,Zd K H a xs/\xs.length<=i⟩
def OQ(lo:Int)(n:Nat):It:=⟨λi _=>i<n,λi H x H'=>H'=H/\x=.int (lo+i),λi _=>n<=i⟩
def ZJV{P:ao}{w:ax}{K:zZ}{tg:Expr}(a it:aj):VJ P w K tg (N7 K a) [it] it (λi h=>h.IsListIter it a i) where
 mem:=by simp
 obj:=λi h st b hb=>by
  let e:b=it:=by simpa using hb
  subst e;let⟨o,e,c,d⟩:=st;exact⟨o,e,λv z=>by rw[d] at z;cases z⟩
 keep:=λi h h' st k=>st.at λo e=>k it (by simp) o e
 item:=by
  intro X hP hw hK hc i kR s σ H E I hf st hg;subst hP hw hK;let⟨xs,x,hq,hx⟩:=hg;let⟨jk,rv,p,hz⟩:=I.list hq;let⟨u,hu,ru⟩:=rv.get hx;let⟨f0,f1,f2,f3,f4,f5⟩:=hf it (by simp)
  refine wpAny_pyNext_list_item st p.isList (x:=u) (by simpa using hu) λh' st' sb=>?_
  let I1:ZJ X kR σ H { s with heap:=h' }:=I.turned (t':=s.toks) (λb o hb e=>(sb.2 b hb).trans e) f0 f1 f3 f4 f5;let⟨o,e,c,d⟩:=id st';exact⟨u,Z,Nr (s:={ s with heap:=h' }) e c d (by decide) ⟨x,H,I1,ru,⟨Z,λys hy=>by rw[I.list_inj hy hq];exact hx⟩,st',λb hb=>(hf b hb).1⟩⟩
 done:=by
  intro X hP hw hK hc i kR s σ H E I hf st hg;subst hP hw hK;let⟨xs,hq,hx⟩:=hg;let⟨jk,rv,p,hz⟩:=I.list hq;let⟨f0,f1,f2,f3,f4,f5⟩:=hf it (by simp)
  let hl:=rv.length;exact wpAny_pyNext_list_end (I.ok.hd hc) st p.isList (by simp;lia) λh' eb=>⟨Z,I.turned (t':=s.toks) (λb o hb e=>eb b o hb e) f0 f1 f3 f4 f5⟩
 self:=λ_ _ _ _ _ st h=>wpAny_pyIter_listiter st h
def ZIc{P:ao}{w:ax}{K:zZ}{tg:Expr}(a it:aj):VJ P w K tg (Hg K a) [it] it (λi h=>h.IsTupleIter it a i) where
 mem:=by simp
 obj:=λi h st b hb=>by
  let e:b=it:=by simpa using hb
  subst e;let⟨o,e,c,d⟩:=st;exact⟨o,e,λv z=>by rw[d] at z;cases z⟩
 keep:=λi h h' st k=>st.at λo e=>k it (by simp) o e
 item:=by
  intro X hP hw hK hc i kR s σ H E I hf st hg;subst hP hw hK;let⟨xs,x,hq,hx⟩:=hg;let⟨jk,rv,p,hz⟩:=I.tuple hq;let⟨u,hu,ru⟩:=rv.get hx;let⟨f0,f1,f2,f3,f4,f5⟩:=hf it (by simp)
  refine wpAny_pyNext_tuple_item st (show s.heap.IsTuple a jk.toArray from p) (x:=u) (by simpa using hu) λh' st' sb=>?_
  let I1:ZJ X kR σ H { s with heap:=h' }:=I.turned (t':=s.toks) (λb o hb e=>(sb.2 b hb).trans e) f0 f1 f3 f4 f5;let⟨o,e,c,d⟩:=id st';exact⟨u,Z,Nr (s:={ s with heap:=h' }) e c d (by decide) ⟨x,H,I1,ru,⟨Z,λys hy=>by rw[I.tuple_inj hy hq];exact hx⟩,st',λb hb=>(hf b hb).1⟩⟩
 done:=by
  intro X hP hw hK hc i kR s σ H E I hf st hg;subst hP hw hK;let⟨xs,hq,hx⟩:=hg;let⟨jk,rv,p,hz⟩:=I.tuple hq;let⟨f0,f1,f2,f3,f4,f5⟩:=hf it (by simp)
  let hl:=rv.length;exact wpAny_pyNext_tuple_end (I.ok.hd hc) st (show s.heap.IsTuple a jk.toArray from p) (by simp;lia) λh' eb=>⟨Z,I.turned (t':=s.toks) (λb o hb e=>eb b o hb e) f0 f1 f3 f4 f5⟩
 self:=λ_ _ _ _ _ st h=>wpAny_pyIter_tupleiter st h
def Bz{P:ao}{w:ax}{K:zZ}{tg:Expr}(it:aj)(lo:Int)(n:Nat):VJ P w K tg (OQ lo n) [it] it (λi h=>IsRangeIter h it (lo+(i:Nat) * 1) ((n:Int)-(i:Nat)) 1) where
 mem:=by simp
 obj:=λi h st b hb=>by
  let e:b=it:=by simpa using hb
  subst e;exact⟨_,st,λv z=>by
   let z':Data.fields _=Data.cell v:=z;cases z'⟩
 keep:=λi h h' st k=>k it (by simp) _ st
 item:=by
  intro X hP hw hK hc i kR s σ H E I hf st hg;subst hP hw hK;let⟨f0,f1,f2,f3,f4,f5⟩:=hf it (by simp)
  let W:=Walks.range (prog:=X.prog) (w:=X.w) (I.ok.hd hc) it lo 1 n;refine W.item i s _ _ hg st λv h' tk hv st' kk=>?_;let⟨t,rfl⟩:=hv;let I1:ZJ X kR σ H { s with heap:=h',toks:=tk }:=I.turned (λb o hb e=>kk b o (by simpa using hb) e) f0 f1 f3 f4 f5
  refine⟨_,Z,Nr (s:={ s with heap:=h',toks:=tk }) (n:= "range_iterator") st' Z Z (by decide) ⟨.int (lo+i),H,I1,⟨t,?_⟩,⟨Z,Z⟩,st',λb hb=>(hf b hb).1⟩⟩
  rw[Int.mul_one]
 done:=by
  intro X hP hw hK hc i kR s σ H E I hf st hg;subst hP hw hK;let⟨f0,f1,f2,f3,f4,f5⟩:=hf it (by simp)
  exact wpAny_pyNext_range_end (I.ok.hd hc) st (by have:n<=i:=hg;lia) λh' eb=>⟨Z,I.turned (t':=s.toks) (λb o hb e=>eb b o hb e) f0 f1 f3 f4 f5⟩
 self:=λ_ _ _ _ _ st h=>wpAny_pyIter_rangeiter st h
section
variable{tg:Expr}
inductive Pt(K:zZ)(R:It->Hp->Prop)(x:V)(H1:Hp):Prop
 |mk(a:_)(_:x=.ref a)(_:∃ xs,ZI K H1 a xs)(_:R (N7 K a) H1)
def ZQt(K:zZ)(tl:TE):TI:=λσ H R=>tl σ H λx H1=>Pt K R x H1
inductive NX(K:zZ)(R:It->Hp->Prop)(x:V)(H1:Hp):Prop
 |mk(a:_)(_:x=.ref a)(_:∃ xs,Zd K H1 a xs)(_:R (Hg K a) H1)
def ZRq(K:zZ)(tl:TE):TI:=λσ H R=>tl σ H λx H1=>NX K R x H1
def Xu{l:Expr}{tl:TE}(hl:PE X l tl):PI X tg l (ZQt X.K tl):=by
 intro kR s σ H R I h;refine Zb (hl kR s σ H _ I h) λv s1 ⟨x,H1,I1,r1,q1⟩=>?_;let⟨a,e,⟨xs,hq⟩,q⟩:=q1;subst e;cases r1;let⟨jk,rv,p,hz⟩:=I1.list hq;refine wpAny_pyIter_list p.isList ?_;refine⟨s1.heap.objs.size,[s1.heap.objs.size],_,_,H1,Z,I1.kept (t':=s1.toks) λb o e=>zD _ e,ZJV a _,⟨_,yP _ Z,Z,Z⟩,λb hb=>?_,q⟩;let e:b=s1.heap.objs.size:=by simpa using hb
 subst e;exact I1.fpOk (zX _) (I1.hok.fresh (zX _))
def LO{l:Expr}{tl:TE}(hl:PE X l tl):PI X tg l (ZRq X.K tl):=by
 intro kR s σ H R I h;refine Zb (hl kR s σ H _ I h) λv s1 ⟨x,H1,I1,r1,q1⟩=>?_;let⟨a,e,⟨xs,hq⟩,q⟩:=q1;subst e;cases r1;let⟨jk,rv,p,hz⟩:=I1.tuple hq;refine wpAny_pyIter_tuple (show s1.heap.IsTuple a jk.toArray from p) ?_;refine⟨s1.heap.objs.size,[s1.heap.objs.size],_,_,H1,Z,I1.kept (t':=s1.toks) λb o e=>zD _ e,ZIc a _,⟨_,yP _ Z,Z,Z⟩,λb hb=>?_,q⟩;let e:b=s1.heap.objs.size:=by simpa using hb
 subst e;exact I1.fpOk (zX _) (I1.hok.fresh (zX _))
def Fg{kR:jO}{σ:St}{H:Hp}{s:am}{R:It->Hp->Prop}{E:ja}{lo hi:Int}{t u v:Tok}{tk:Nat}(I:ZJ X kR σ H s)(h1 : -(2 ^ 62)<=lo)(h2:lo<2 ^ 62)(h3 : -(2 ^ 62)<=hi)(h4:hi<2 ^ 62)(q:R (OQ lo (hi-lo).toNat) H):aC (aB X.prog X.w) X.A (pyIter (.ref s.heap.objs.size)) (F0 X kR σ tg R) E { s with heap:=s.heap.push { cls:=.type "range",data:=.fields #[.int lo t,.int hi u,.int 1 v] },toks:=tk }:=by
 refine wpAny_pyIter_range (IsRange.new ..) (small_one h1 h2 h3 h4) ?_;let I1:ZJ X kR σ H { s with heap:=s.heap.push { cls:=.type "range",data:=.fields #[.int lo t,.int hi u,.int 1 v] },toks:=tk }:=I.kept λb o e=>zD _ e;refine⟨(s.heap.push { cls:=.type "range",data:=.fields #[.int lo t,.int hi u,.int 1 v] }).objs.size,[(s.heap.push { cls:=.type "range",data:=.fields #[.int lo t,.int hi u,.int 1 v] }).objs.size],_,_,H,Z,
  I1.kept (t':=tk) λb o e=>zD _ e,Bz _ lo (hi-lo).toNat,?_,λb hb=>?_,q⟩
 ·let e1:lo+((0:Nat):Int) * 1=lo:=by simp
  let e2:(((hi-lo).toNat:Nat):Int)-((0:Nat):Int)=Builtin.Range.rangeSize lo hi 1:=by rw[rangeSize_one];split <;> lia
  show IsRangeIter _ _ (lo+((0:Nat):Int) * 1) ((((hi-lo).toNat:Nat):Int)-((0:Nat):Int)) 1;rw[e1,e2];exact yP _ Z
 ·let e:b=(s.heap.push { cls:=.type "range",data:=.fields #[.int lo t,.int hi u,.int 1 v] }).objs.size:=by simpa using hb
  subst e;exact I1.fpOk (zX _) (I1.hok.fresh (zX _))
inductive Oc(R:It->Hp->Prop)(vs:jh)(H1:Hp):Prop
 |mk(j:Int)(_:vs=[.int j])(_ : -(2 ^ 62)<=j)(_:j<2 ^ 62)(_:R (OQ 0 j.toNat) H1)
def ZQj(ta:TA):TI:=λσ H R=>ta σ H λvs H1=>Oc R vs H1
inductive Px(R:It->Hp->Prop)(vs:jh)(H1:Hp):Prop
 |mk(i j:Int)(_:vs=[.int i,.int j])(_ : -(2 ^ 62)<=i/\i<2 ^ 62 /\ -(2 ^ 62)<=j/\j<2 ^ 62)(_:R (OQ i (j-i).toNat) H1)
def BX(ta:TA):TI:=λσ H R=>ta σ H λvs H1=>Px R vs H1
def UW{a:Expr}{ta:TA}{p pos:Pos}(hg:Gl X "range")(hm:X.mg "range" = none)(ha:PA X [a] ta)(hs:aw [a] X.env=[(false,aF a X.env)]:=by rfl):PI X tg (.Call (.Name "range" p) [a] [] pos) (ZQj ta):=by
 intro kR s σ H R I h;refine Call_ (Pe I hg hm boot_range (PyProof.Rows.callWith_type1 (Zb (ha pos kR s σ H _ I h) λus s1 ⟨vs,H1,I1,r1,q1⟩=>?_) hs rfl));let⟨j,e,q1,q2,q⟩:=q1;subst e
 cases r1 with
 | cons r rr=>
  cases rr;let⟨t,rfl⟩:=r;exact call_range_1 (Fg I1 (by lia) (by lia) q1 q2 (by simpa using q))
def Gk{a b:Expr}{ta:TA}{p pos:Pos}(hg:Gl X "range")(hm:X.mg "range" = none)(ha:PA X [a,b] ta)(hs:aw [a,b] X.env=[(false,aF a X.env),(false,aF b X.env)]:=by rfl)(hs2:aw [b] X.env=[(false,aF b X.env)]:=by rfl):
  PI X tg (.Call (.Name "range" p) [a,b] [] pos) (BX ta):=by
 intro kR s σ H R I h;refine Call_ (Pe I hg hm boot_range (PyProof.Rows.callWith_type1 (Zb (ha pos kR s σ H _ I h) λus s1 ⟨vs,H1,I1,r1,q1⟩=>?_) (by rw[hs,hs2]) (by rw[hs2];rfl)))
 let⟨i,j,e,⟨q1,q2,q3,q4⟩,q⟩:=q1;subst e
 cases r1 with
 | cons r rr=>
  cases rr with
  | cons r' rr=>
   cases rr;let⟨t,rfl⟩:=r;let⟨t',rfl⟩:=r';exact call_range_2 (Fg I1 q1 q2 q3 q4 q)
def ZRf(wi:TI)(g:TG)(tb:TS):TS:=λD σ H=>wi σ H λJ H1=>∃ W:Nat->Nat->St->Hp->Prop,(∃ m,W 0 m σ H1)/\∀ i m σ H,W i m σ H ->
 (J.stop i H/\D.nx σ H)\/(J.go i H/\∃ N:St->Hp->Prop,(∀ σ' H',N σ' H'->∃ m',m'<m/\W (i+1) m' σ' H')/\∀ x H',J.yld i H x H'->g x σ H' λσ2 H2=>tb { D with nx:=N,ct:=N,bk:=D.nx } σ2 H2)
def Ng(fp:jR)(h:aD):jO:=fp.filterMap λb=>(h.get? b).map λo=>(b,o)
def LQ{fp:jR}{h:aD}{b:aj}{o:aG}(hb:b∈fp)(e:h.get? b=some o):(b,o)∈Ng fp h:=uC.mpr ⟨b,hb,by rw[e];rfl⟩
def ZJR{fp:jR}{h:aD}{p:aj×aG}(hp:p∈Ng fp h):p.1∈fp/\h.get? p.1=some p.2:=by
 let⟨b,hb,e⟩:=uC.mp hp
 cases q:h.get? b with
 | none=>rw[q] at e;cases e
 | some o=>
  rw[q] at e;let e':(b,o)=p:=yL.inj e;subst e';exact⟨hb,q⟩
def ZJ.pinned{kR:jO}{σ:St}{H:Hp}{s:am}{fp:jR}(I:ZJ X kR σ H s)(hf:∀ b∈fp,VO X kR H b)(ho:∀ b∈fp,∃ o,s.heap.get? b=some o/\∀ v,o.data≠.cell v):ZJ X (kR++Ng fp s.heap) σ H s:=
 I.pins_of λp hp=>(yU.mp hp).elim (λz=>I.pin p (yC _ z)) λz=>by
  let⟨hb,e⟩:=ZJR z;let⟨f0,f1,f2,_⟩:=hf p.1 hb;let⟨o,e',d⟩:=ho p.1 hb;rw[e] at e';cases e';exact⟨e,f0,f1,f2,d⟩
def ZJ.unpinned{kR pl:jO}{σ:St}{H:Hp}{s:am}(I:ZJ X (kR++pl) σ H s):ZJ X kR σ H s:=I.pins_of λp hp=>I.pin p (yC _ (xV _ hp))
def Xi{iter:Expr}{body:List Stmt}{wi:TI}{g:TG}{tb:TS}{pos:Pos}(hp:PassesOwn (aB X.prog X.w) X.A X.env X.xe)(hc:X.calm=true)(hi:PI X tg iter wi)(hg:PG X tg g)(hb:VV X body tb)(hs:∀ x,foldedSetIterable iter X.env x=pure x:=by intro _;rfl):PS X (.For tg iter body [] pos) (ZRf wi g tb):=by
 intro kR s σ H D I h;refine wpAny_For (Zb (hi kR s σ H _ I h) λv s1 h1=>Zb h1 λitv s2 h2=>?_) hs;let⟨it,fp,tn,J,H2,e,I2,T,st2,f2,W,⟨m0,w0⟩,turn⟩:=h2;subst e;let stat:∀{H':Hp},(∀ b∈fp,H' b=none)->∀ b∈fp,VO X kR H' b:=λhn b hb=>⟨hn b hb,(f2 b hb).2⟩;refine codeAny_forLoop_any (λn s'=>∃ i σ' H',ZJ X kR σ' H' s'/\tn i s'.heap/\(∀ b∈fp,H' b=none)/\W i n σ' H') ?_ m0 ⟨0,σ,H2,I2,st2,λb hb=>(f2 b hb).1,w0⟩;rintro n s3 ⟨i,σ3,H3,I3,st3,fr3,w3⟩;rcases turn i n σ3 H3 w3 with ⟨stop,qn⟩ | ⟨go,N,hN,step⟩
 ·refine wpAny_passesOwn hp (Zb (T.done X rfl rfl rfl hc i kR s3 σ3 H3 X.xe I3 (stat fr3) st3 stop) λr s4 ⟨hr,I4⟩=>?_);subst hr;exact wpAny_execs_nil ⟨σ3,H3,I4,qn⟩
 ·refine wpAny_passesOwn hp (Zb (T.item X rfl rfl rfl hc i kR s3 σ3 H3 X.xe I3 (stat fr3) st3 go) λr s4 ⟨u,hr,h4⟩=>?_);subst hr;refine wpAny_passesOwn hp (Zb h4 λ_ s5 ⟨x,H5,I5,r5,y5,st5,fr5⟩=>?_);let I5':=I5.pinned (stat fr5) (T.obj _ _ st5);refine wpAny_passesOwn hp (Zb (hg _ s5 σ3 H5 x u _ I5' r5 (step x H5 y5)) λ_ s6 ⟨σ6,H6,I6,q6⟩=>?_);refine wpAny_passesOwn hp (Zb (hb _ s6 σ6 H6 _ I6 q6) λf s7 q7=>?_);let again:∀{σ7:St}{H7:Hp},ZJ X (kR++Ng fp s5.heap) σ7 H7 s7->N σ7 H7->∃ m,m<n/\∃ i σ' H',ZJ X kR σ' H' s7/\tn i s7.heap/\(∀ b∈fp,H' b=none)/\W i m σ' H':=fun{σ7 H7} I7 n7=>by
   let⟨m',hm,w7⟩:=hN σ7 H7 n7;refine⟨m',hm,i+1,σ7,H7,I7.unpinned,T.keep _ _ _ st5 λb hb o e=>(I7.pin (b,o) (yC _ (yC _ (LQ hb e)))).1,λb hb=>?_,w7⟩;let⟨o,e,d⟩:=T.obj _ _ st5 b hb;exact(I7.pin (b,o) (yC _ (yC _ (LQ hb e)))).2.1
  cases f with
  | next=>let⟨σ7,H7,I7,n7⟩:=q7;exact again I7 n7
  | cont=>let⟨σ7,H7,I7,n7⟩:=q7;exact again I7 n7
  | brk=>let⟨σ7,H7,I7,q7⟩:=q7;exact⟨σ7,H7,I7.unpinned,q7⟩
  | ret v=>let⟨x7,σ7,H7,I7,r7,q7⟩:=q7;exact⟨x7,σ7,H7,I7.unpinned,r7,q7⟩
end
def Vt{K:zZ}{a:aj}{xs:jh}{g:TG}{tb:TS}{D:XA}{σ:St}{H:Hp}(Pv:Nat->St->Hp->Prop)(h0:Pv 0 σ H)(hl:∀ i σ H,i<=xs.length->Pv i σ H->ZI K H a xs)(hs:∀ i x σ H,xs[i]? = some x->Pv i σ H->g x σ H λσ2 H2=>tb { D with nx:=Pv (i+1),ct:=Pv (i+1),bk:=D.nx } σ2 H2)(hd:∀ σ H,Pv xs.length σ H->D.nx σ H):
  ∃ W:Nat->Nat->St->Hp->Prop,(∃ m,W 0 m σ H)/\∀ i m σ H,W i m σ H ->
   ((N7 K a).stop i H/\D.nx σ H)\/((N7 K a).go i H/\∃ N:St->Hp->Prop,(∀ σ' H',N σ' H'->∃ m',m'<m/\W (i+1) m' σ' H')/\∀ x H',(N7 K a).yld i H x H'->g x σ H' λσ2 H2=>tb { D with nx:=N,ct:=N,bk:=D.nx } σ2 H2):=by
 exists λi m σ H=>m=xs.length-i/\i<=xs.length/\Pv i σ H,⟨xs.length,by simp,zH _,h0⟩
 rintro i m σ H ⟨rfl,hi,p⟩;let q:=hl i σ H hi p;by_cases hlt:i<xs.length
 ·refine .inr ⟨⟨xs,xs[i],q,by simp[hlt]⟩,Pv (i+1),λσ' H' p'=>⟨xs.length-(i+1),by lia,Z,hlt,p'⟩,λx H' y=>?_⟩
  let⟨e,y⟩:=y;subst e;exact hs i x σ _ (y xs q) p
 ·let e:i=xs.length:=by lia
  subst e;exact .inl ⟨⟨xs,q,zX _⟩,hd σ H p⟩
def Ql{lo:Int}{n:Nat}{g:TG}{tb:TS}{D:XA}{σ:St}{H:Hp}(Pv:Nat->St->Hp->Prop)(h0:Pv 0 σ H)(hs:∀ i σ H,i<n->Pv i σ H->g (.int (lo+i)) σ H λσ2 H2=>tb { D with nx:=Pv (i+1),ct:=Pv (i+1),bk:=D.nx } σ2 H2)(hd:∀ σ H,Pv n σ H->D.nx σ H):
  ∃ W:Nat->Nat->St->Hp->Prop,(∃ m,W 0 m σ H)/\∀ i m σ H,W i m σ H ->
   ((OQ lo n).stop i H/\D.nx σ H)\/((OQ lo n).go i H/\∃ N:St->Hp->Prop,(∀ σ' H',N σ' H'->∃ m',m'<m/\W (i+1) m' σ' H')/\∀ x H',(OQ lo n).yld i H x H'->g x σ H' λσ2 H2=>tb { D with nx:=N,ct:=N,bk:=D.nx } σ2 H2):=by
 exists λi m σ H=>m=n-i/\i<=n/\Pv i σ H,⟨n,by simp,zH _,h0⟩
 rintro i m σ H ⟨rfl,hi,p⟩;by_cases hlt:i<n
 ·refine .inr ⟨hlt,Pv (i+1),λσ' H' p'=>⟨n-(i+1),by lia,Z,hlt,p'⟩,λx H' y=>?_⟩
  let⟨e,y⟩:=y;subst e y;exact hs i σ _ hlt p
 ·let e:i=n:=by lia
  subst e;exact .inl ⟨zX _,hd σ H p⟩
abbrev R2:=V->V->Hp->VK->Prop
def Y7(X:Cx)(f:ai->ai->Sem ai)(r:R2):Prop:=
 ∀(kR:jO)(s:am)(σ:St)(H:Hp)(x y:V)(v u:ai)(Q:VK),ZJ X kR σ H s->ZT x v->ZT y u->r x y H Q ->
  aC (aB X.prog X.w) X.A (f v u) (EP X kR σ Q) X.xe s
def Kw(X:Cx)(f:ai->Sem ai)(r:V->Hp->VK->Prop):Prop:=
 ∀(kR:jO)(s:am)(σ:St)(H:Hp)(x:V)(v:ai)(Q:VK),ZJ X kR σ H s->ZT x v->r x H Q ->
  aC (aB X.prog X.w) X.A (f v) (EP X kR σ Q) X.xe s
def Wg(X:Cx)(f:ai)(r:jh->Hp->VK->Prop):Prop:=
 ∀(kR:jO)(s:am)(σ:St)(H:Hp)(xs:jh)(us:jg)(Q:VK),ZJ X kR σ H s->ZR xs us->r xs H Q ->
  aC (aB X.prog X.w) X.A (call f us) (EP X kR σ Q) X.xe s
def ZRi(X:Cx)(r:V->Hp->(Bool->Hp->Prop)->Prop):Prop:=
 ∀(kR:jO)(s:am)(σ:St)(H:Hp)(x:V)(v:ai)(Q:Bool->Hp->Prop),ZJ X kR σ H s->ZT x v->r x H Q ->
  aC (aB X.prog X.w) X.A (truthy v) (TP X kR σ Q) X.xe s
def M3(r:R2)(ta tb:TE):TE:=λσ H Q=>ta σ H λx H1=>tb σ H1 λy H2=>r x y H2 Q
def tUn(r:V->Hp->VK->Prop)(ta:TE):TE:=λσ H Q=>ta σ H λx H1=>r x H1 Q
inductive rI(C:Int->Int->Prop)(g:Int->Int->V)(x y:V)(H:Hp)(Q:VK):Prop
 |mk(i j:_)(_:x=.int i)(_:y=.int j)(_:C i j)(_:Q (g i j) H)
inductive PV(g:Int->Int->V)(x y:V)(H:Hp)(Q:VK):Prop
 |mk(i j:_)(_:x=.int i)(_:y=.int j)(_:Q (g i j) H)
inductive rU(g:Int->V)(x:V)(H:Hp)(Q:VK):Prop
 |mk(i:_)(_:x=.int i)(_:Q (g i) H)
section
variable{a b c:Expr}{ta tb tc:TE}{pos:Pos}
def Jt(ha:PE X a ta)(hb:PE X b tb){kR:jO}{s:am}{σ:St}{H:Hp}{R:V->V->Hp->Prop}(I:ZJ X kR σ H s)(h:ta σ H λx H1=>tb σ H1 λy H2=>R x y H2){Q:ja}{f:ai->ai->Sem ai}(hf:∀ v u s2 x y H2,ZJ X kR σ H2 s2->ZT x v->ZT y u->R x y H2->aC (aB X.prog X.w) X.A (f v u) Q X.xe s2):
  aC (aB X.prog X.w) X.A (aF a X.env) (λv s₁=>aC (aB X.prog X.w) X.A (aF b X.env) (λu s₂=>aC (aB X.prog X.w) X.A (f v u) Q X.xe s₂) X.xe s₁) X.xe s:=by
 refine Zb (ha kR s σ H _ I h) λv s1 ⟨x,H1,I1,r1,q1⟩=>?_;refine Zb (hb kR s1 σ H1 _ I1 q1) λu s2 ⟨y,H2,I2,r2,q2⟩=>?_;exact hf v u s2 x y H2 I2 r1 r2 q2
def Zs{op:Operator}{r:R2}(ho:Y7 X (binaryOp op) r)(ha:PE X a ta)(hb:PE X b tb):PE X (.BinOp a op b pos) (M3 r ta tb):=by
 intro kR s σ H Q I h;exact wpAny_BinOp (Jt ha hb I h λv u s2 x y H2 I2 rx ry q=>ho kR s2 σ H2 x y v u Q I2 rx ry q)
def LG{op:UnaryOp}{r:V->Hp->VK->Prop}(ho:Kw X (unaryOp op) r)(ha:PE X a ta):PE X (.UnaryOp op a pos) (tUn r ta):=by
 intro kR s σ H Q I h;exact UnaryOp_ (Zb (ha kR s σ H _ I h) λv s1 ⟨x,H1,I1,r1,q1⟩=>ho kR s1 σ H1 x v Q I1 r1 q1)
def Ny{f:ai->ai->Sem ai}{C:Int->Int->Prop}{g:Int->Int->Int}(rule:∀ (i j:Int) (t u:Tok) (s:am) (Q:ja) (E:ja),C i j->Q (.int (g i j) s.toks) { s with toks:=s.toks+1 }->aC (aB X.prog X.w) X.A (f (.int i t) (.int j u)) Q E s):
  Y7 X f (rI C λi j=>.int (g i j)):=by
 intro kR s σ H x y v u Q I rx ry h;let⟨i,j,rfl,rfl,hc,q⟩:=h;let⟨t,rfl⟩:=rx;let⟨t',rfl⟩:=ry;exact rule i j t t' s _ _ hc ⟨.int (g i j),H,I.tok _,⟨_,Z⟩,q⟩
def He{f:ai->ai->Sem ai}{g:Int->Int->Int}(rule:∀ (i j:Int) (t u:Tok) (s:am) (Q:ja) (E:ja),Q (.int (g i j) s.toks) { s with toks:=s.toks+1 }->aC (aB X.prog X.w) X.A (f (.int i t) (.int j u)) Q E s):
  Y7 X f (PV λi j=>.int (g i j)):=by
 intro kR s σ H x y v u Q I rx ry h;let⟨i,j,rfl,rfl,q⟩:=h;let⟨t,rfl⟩:=rx;let⟨t',rfl⟩:=ry;exact rule i j t t' s _ _ ⟨.int (g i j),H,I.tok _,⟨_,Z⟩,q⟩
def Ll{f:ai->ai->Sem ai}{g:Int->Int->Bool}(rule:∀ (i j:Int) (t u:Tok) (s:am) (Q:ja) (E:ja),Q (.bool (g i j)) s->aC (aB X.prog X.w) X.A (f (.int i t) (.int j u)) Q E s):
  Y7 X f (PV λi j=>.bl (g i j)):=by
 intro kR s σ H x y v u Q I rx ry h;let⟨i,j,rfl,rfl,q⟩:=h;let⟨t,rfl⟩:=rx;let⟨t',rfl⟩:=ry;exact rule i j t t' s _ _ ⟨.bl (g i j),H,I,Z,q⟩
def ZRh(i j:Int):Prop:=0<j/\j<1073741824
def ZRl(i j:Int):Prop:=0<=j/\j<=1000000/\i.natAbs<2 ^ 64
def Qx(i j:Int):Prop:=(-(2 ^ 64)<i/\i<2 ^ 64)\/(-(2 ^ 64)<j/\j<2 ^ 64)
def Qx.ok{i j:Int}(h:Qx i j):IntMulOk i j:=by
 rcases h with ⟨h1,h2⟩ | ⟨h1,h2⟩
 ·exact .of_left (intBits_le_64 h1 h2)
 ·exact .of_right (intBits_le_64 h1 h2)
def Y2:Y7 X (binaryOp .Add) (PV λi j=>.int (i+j)):=He λ_ _ _ _ _ _ _ q=>add_int q
def Qk:Y7 X (binaryOp .Sub) (PV λi j=>.int (i-j)):=He λ_ _ _ _ _ _ _ q=>sub_int q
def OE:Y7 X (binaryOp .Mult) (rI Qx λi j=>.int (i * j)):=Ny λ_ _ _ _ _ _ _ hc q=>mul_int q hc.ok
def Kr:Y7 X (binaryOp .FloorDiv) (rI ZRh λi j=>.int (i / j)):=Ny λi j _ _ _ _ _ hc q=>by
 let h1:(0:Int)<j:=hc.1;let h2:j<1073741824:=hc.2;exact floordiv_int (by lia) (by rw[pW i (by lia)];exact q) (.inl (PyProof.noPylong_small (by lia)))
def Qy:Y7 X (binaryOp .Mod) (rI (λ_ j=>0<j) λi j=>.int (i % j)):=Ny λi j _ _ _ _ _ hc q=>by
 exact mod_int' (by lia) (by rw[Int.fmod_eq_emod_of_nonneg i (by lia)];exact q)
def Mg:Y7 X (binaryOp .Pow) (rI ZRl λi j=>.int (i ^ j.toNat)):=Ny λ_ _ _ _ _ _ _ hc q=>pow_int_small hc.1 hc.2.1 hc.2.2 q
def unI{f:ai->Sem ai}{g:Int->Int}(rule:∀ (i:Int) (t:Tok) (s:am) (Q:ja) (E:ja),Q (.int (g i) s.toks) { s with toks:=s.toks+1 }->aC (aB X.prog X.w) X.A (f (.int i t)) Q E s):
  Kw X f (rU λi=>.int (g i)):=by
 intro kR s σ H x v Q I rx h;let⟨i,rfl,q⟩:=h;let⟨t,rfl⟩:=rx;exact rule i t s _ _ ⟨.int (g i),H,I.tok _,⟨_,Z⟩,q⟩
def KC:Kw X (unaryOp .USub) (rU λi=>.int (-i)):=unI λ_ _ _ _ _ q=>neg_int q
end
def Db:V->V->Bool
 | .non,.non=>true | .non,.int _=>true | .int _,.non=>true | .non,.bl _=>true | .bl _,.non=>true | .non,.str _=>true | .str _,.non=>true
 | .int _,.int _=>true | .bl _,.bl _=>true | .str _,.str _=>true | .byt _,.byt _=>true
 | .int _,.str _=>true | .str _,.int _=>true | .bl _,.str _=>true | .str _,.bl _=>true
 | _,_=>false
def rEq:R2:=λx y H Q=>Db x y=true/\Q (.bl (decide (x=y))) H
def rNe:R2:=λx y H Q=>Db x y=true/\Q (.bl (!decide (x=y))) H
def GU{i j:Int}:decide (V.int i=V.int j)=(i==j):=by
 rw[wL];simp
def E8{i j:Bool}:decide (V.bl i=V.bl j)=(i==j):=by
 rw[wL];simp
def F5{i j:Str}:decide (V.str i=V.str j)=(i==j):=by
 rw[wL];simp
def EI{i j:Array UInt8}:decide (V.byt i=V.byt j)=(i.toList==j.toList):=by
 rw[wL];cases i;cases j;simp
section
variable{a b c:Expr}{ta tb tc:TE}{pos:Pos}
def Yp{kR:jO}{σ:St}{H:Hp}{s:am}{Q:VK}{k k':Bool}(I:ZJ X kR σ H s)(q:Q (.bl k) H)(e:k=k'):EP X kR σ Q (.bool k') s:=by
 subst e;exact⟨.bl k,H,I,Z,q⟩
def XE:Y7 X (aA .Eq) rEq:=by
 intro kR s σ H x y v u Q I rx ry h;let⟨hs,q⟩:=h
 cases x with
 | non=>
  cases rx
  cases y with
  | non=>cases ry;exact PySem.EqNone.eq_none_none (Yp I q (by simp))
  | bl j=>cases ry;exact PySem.EqNone.eq_none_bool (Yp I q (by simp))
  | int j=>let⟨t',rfl⟩:=ry;exact PySem.EqNone.eq_none_int (Yp I q (by simp))
  | str j=>let⟨t',rfl⟩:=ry;exact PySem.EqNone.eq_none_str (Yp I q (by simp))
  | _=>exact absurd (show false=true from hs) zS
 | bl i=>
  cases rx
  cases y with
  | non=>cases ry;exact PySem.EqNone.eq_bool_none (Yp I q (by simp))
  | bl j=>cases ry;exact eq_bool (Yp I q E8)
  | str j=>let⟨t',rfl⟩:=ry;exact PySem.EqMixed.eq_bool_str (Yp I q (by simp))
  | _=>exact absurd (show false=true from hs) zS
 | int i=>
  let⟨t,rfl⟩:=rx
  cases y with
  | non=>cases ry;exact PySem.EqNone.eq_int_none (Yp I q (by simp))
  | int j=>let⟨t',rfl⟩:=ry;exact eq_int (Yp I q GU)
  | str j=>let⟨t',rfl⟩:=ry;exact PySem.EqMixed.eq_int_str (Yp I q (by simp))
  | _=>exact absurd (show false=true from hs) zS
 | str i=>
  let⟨t,rfl⟩:=rx
  cases y with
  | non=>cases ry;exact PySem.EqNone.eq_str_none (Yp I q (by simp))
  | bl j=>cases ry;exact PySem.EqMixed.eq_str_bool (Yp I q (by simp))
  | int j=>let⟨t',rfl⟩:=ry;exact PySem.EqMixed.eq_str_int (Yp I q (by simp))
  | str j=>let⟨t',rfl⟩:=ry;exact eq_str (Yp I q F5)
  | _=>exact absurd (show false=true from hs) zS
 | byt i=>
  let⟨t,rfl⟩:=rx
  cases y with
  | byt j=>let⟨t',rfl⟩:=ry;exact PySem.W.eq_bytes (Yp I q EI)
  | _=>exact absurd (show false=true from hs) zS
 | _=>cases y <;> exact absurd (show false=true from hs) zS
def Vs:Y7 X (aA .NotEq) rNe:=by
 intro kR s σ H x y v u Q I rx ry h;let⟨hs,q⟩:=h
 cases x with
 | non=>
  cases rx
  cases y with
  | non=>cases ry;exact PySem.EqNone.ne_none_none (Yp I q (by simp))
  | bl j=>cases ry;exact PySem.EqNone.ne_none_bool (Yp I q (by simp))
  | int j=>let⟨t',rfl⟩:=ry;exact PySem.EqNone.ne_none_int (Yp I q (by simp))
  | str j=>let⟨t',rfl⟩:=ry;exact PySem.EqNone.ne_none_str (Yp I q (by simp))
  | _=>exact absurd (show false=true from hs) zS
 | bl i=>
  cases rx
  cases y with
  | non=>cases ry;exact PySem.EqNone.ne_bool_none (Yp I q (by simp))
  | bl j=>cases ry;exact ne_bool (Yp I q (congrArg not E8))
  | str j=>let⟨t',rfl⟩:=ry;exact PySem.EqMixed.ne_bool_str (Yp I q (by simp))
  | _=>exact absurd (show false=true from hs) zS
 | int i=>
  let⟨t,rfl⟩:=rx
  cases y with
  | non=>cases ry;exact PySem.EqNone.ne_int_none (Yp I q (by simp))
  | int j=>let⟨t',rfl⟩:=ry;exact ne_int (Yp I q (congrArg not GU))
  | str j=>let⟨t',rfl⟩:=ry;exact PySem.EqMixed.ne_int_str (Yp I q (by simp))
  | _=>exact absurd (show false=true from hs) zS
 | str i=>
  let⟨t,rfl⟩:=rx
  cases y with
  | non=>cases ry;exact PySem.EqNone.ne_str_none (Yp I q (by simp))
  | bl j=>cases ry;exact PySem.EqMixed.ne_str_bool (Yp I q (by simp))
  | int j=>let⟨t',rfl⟩:=ry;exact PySem.EqMixed.ne_str_int (Yp I q (by simp))
  | str j=>let⟨t',rfl⟩:=ry;exact ne_str (Yp I q (congrArg not F5))
  | _=>exact absurd (show false=true from hs) zS
 | byt i=>
  let⟨t,rfl⟩:=rx
  cases y with
  | byt j=>let⟨t',rfl⟩:=ry;exact PySem.W.ne_bytes (Yp I q (congrArg not EI))
  | _=>exact absurd (show false=true from hs) zS
 | _=>cases y <;> exact absurd (show false=true from hs) zS
def Pr:Y7 X (aA .Lt) (PV λi j=>.bl (decide (i<j))):=Ll λ_ _ _ _ _ _ _ q=>lt_int q
def Og:Y7 X (aA .LtE) (PV λi j=>.bl (decide (i<=j))):=Ll λ_ _ _ _ _ _ _ q=>le_int q
def PB:Y7 X (aA .Gt) (PV λi j=>.bl (decide (j<i))):=Ll λ_ _ _ _ _ _ _ q=>gt_int q
def ZQX:Y7 X (aA .GtE) (PV λi j=>.bl (decide (j<=i))):=Ll λ_ _ _ _ _ _ _ q=>ge_int q
def Zu(b:Expr){op:CmpOp}(h:op≠.In:=by decide)(h2:op≠.NotIn:=by decide):behindInMarks op b=false:=by
 let e1:(op==CmpOp.In)=false:=by cases op <;> first | rfl | exact absurd rfl h
 let e2:(op==CmpOp.NotIn)=false:=by cases op <;> first | rfl | exact absurd rfl h2
 cases b <;> simp[behindInMarks,e1,e2]
def VY{op:CmpOp}{r:R2}(ho:Y7 X (aA op) r)(ha:PE X a ta)(hb:PE X b tb)(hm:behindInMarks op b=false):PE X (.Compare a [op] [b] pos) (M3 r ta tb):=by
 intro kR s σ H Q I h;exact wpAny_Compare1 (Jt ha hb I h λv u s2 x y H2 I2 rx ry q=>ho kR s2 σ H2 x y v u Q I2 rx ry q) hm
inductive OG(Q:Bool->Hp->Prop)(x:V)(H':Hp):Prop
 |mk(k:_)(_:x=.bl k)(_:Q k H')
def GP(t:TE):TT:=λσ H Q=>t σ H λx H'=>OG Q x H'
def Z3{op:CmpOp}{r:R2}(ho:Y7 X (aA op) r)(ha:PE X a ta)(hb:PE X b tb)(hm:behindInMarks op b=false):PT X (.Compare a [op] [b] pos) (GP (M3 r ta tb)):=by
 intro kR s σ H Q I h;refine wpAny_isTrue_Compare1 (Zb (ha kR s σ H _ I h) λv s1 ⟨x,H1,I1,r1,q1⟩=>Zb (hb kR s1 σ H1 _ I1 q1) λu s2 ⟨y,H2,I2,r2,q2⟩=>
  Zb (ho kR s2 σ H2 x y v u _ I2 r1 r2 q2) λc s3 ⟨z,H3,I3,r3,k,e,q3⟩=>?_) hm
 subst e;cases r3;exact wpAny_truthy_bool ⟨H3,I3,q3⟩
inductive Q5(r':R2)(tc:TE)(σ:L2.St)(Q:VK)(y z:V)(H3:Hp):Prop
 |mk(k:_)(_:z=.bl k)(_:if k=true then tc σ H3 λw' H4=>r' y w' H4 Q else Q (.bl false) H3)
def Fl(r r':R2)(ta tb tc:TE):TE:=λσ H Q=>ta σ H λx H1=>tb σ H1 λy H2=>r x y H2 λz H3=>Q5 r' tc σ Q y z H3
def JS{op op':CmpOp}{r r':R2}(ho:Y7 X (aA op) r)(ho':Y7 X (aA op') r')(ha:PE X a ta)(hb:PE X b tb)(hc:PE X c tc)(hm:lastMarks [op,op'] [b,c]=false:=by with_unfolding_all rfl):PE X (.Compare a [op,op'] [b,c] pos) (Fl r r' ta tb tc):=by
 intro kR s σ H Q I h;refine Compare_chain (Zb (ha kR s σ H _ I h) λv s1 ⟨x,H1,I1,r1,q1⟩=>chain_link (Zb (hb kR s1 σ H1 _ I1 q1) λu s2 ⟨y,H2,I2,r2,q2⟩=>
  Zb (ho kR s2 σ H2 x y v u _ I2 r1 r2 q2) λd s3 ⟨z,H3,I3,r3,k,e,q3⟩=>?_)) hm
 subst e;cases r3;refine wpAny_truthy_bool ?_
 cases k with
 | false=>exact ite_ff ⟨.bl false,H3,I3,Z,q3⟩
 | true=>exact ite_tt (chain_last (Zb (hc kR s3 σ H3 _ I3 q3) λw' s4 ⟨z',H4,I4,r4,q4⟩=>ho' kR s4 σ H4 y z' u w' Q I4 r2 r4 q4))
def En{op op':CmpOp}{r r':R2}(ho:Y7 X (aA op) r)(ho':Y7 X (aA op') r')(ha:PE X a ta)(hb:PE X b tb)(hc:PE X c tc)(hm:lastMarks [op,op'] [b,c]=false:=by with_unfolding_all rfl):PT X (.Compare a [op,op'] [b,c] pos) (GP (Fl r r' ta tb tc)):=by
 intro kR s σ H Q I h;refine isTrue_chain (Zb (ha kR s σ H _ I h) λv s1 ⟨x,H1,I1,r1,q1⟩=>test_link (Zb (hb kR s1 σ H1 _ I1 q1) λu s2 ⟨y,H2,I2,r2,q2⟩=>
  Zb (ho kR s2 σ H2 x y v u _ I2 r1 r2 q2) λd s3 ⟨z,H3,I3,r3,k,e,q3⟩=>?_)) hm
 subst e;cases r3;refine wpAny_truthy_bool ?_
 cases k with
 | false=>
  let⟨k',e',q'⟩:=q3;cases e';exact ite_ff ⟨H3,I3,q'⟩
 | true=>
  refine ite_tt (test_last (Zb (hc kR s3 σ H3 _ I3 q3) λw' s4 ⟨z',H4,I4,r4,q4⟩=>Zb (ho' kR s4 σ H4 y z' u w' _ I4 r2 r4 q4) λd' s5 ⟨z2,H5,I5,r5,k2,e2,q5⟩=>?_));subst e2;cases r5;exact wpAny_truthy_bool ⟨H5,I5,q5⟩
def Dj(K:zZ)(x:V)(H:Hp)(k:Bool):Prop:=
 match x with
 | .non=>k=false
 | .bl b=>k=b
 | .int i=>k=(i != 0)
 | .str y=>y.length<=ar/\k=((y.length:Int) != 0)
 | .byt y=>y.size<=ar/\k=((y.size:Int) != 0)
 | .ref p=>(∃ xs,ZI K H p xs/\k = !xs.isEmpty)\/(∃ xs,Zd K H p xs/\k = !xs.isEmpty)\/∃ kvs,H p=some (.dK kvs)/\k = !kvs.isEmpty
 | _=>False
def Cv{κ:Type}{kvs:List (κ×V)}{vs:List (κ×ai)}(r:KV kvs vs):(!vs.isEmpty) = !kvs.isEmpty:=by
 cases r <;> rfl
def Hx{xs:jh}{jk:jg}(r:ZR xs jk):(!jk.toArray.isEmpty) = !xs.isEmpty:=by
 cases r <;> simp
def OP:(ar:Nat)<2 ^ 63:=by rw[sizeLine_eq];decide
def ZPl:ZRi X (λx H Q=>∃ k,Dj X.K x H k/\Q k H):=by
 intro kR s σ H x v Q I rx h;let⟨k,e,q⟩:=h;let hs:ar=16777216:=sizeLine_eq
 cases x with
 | non=>
  cases rx;let e':k=false:=e;subst e';exact truthy_none ⟨H,I,q⟩
 | bl b=>
  cases rx;let e':k=b:=e;subst e';exact wpAny_truthy_bool ⟨H,I,q⟩
 | int i=>
  let⟨t,rfl⟩:=rx;let e':k=(i != 0):=e;subst e';exact PySem.P.truthy_int ⟨H,I,q⟩
 | str y=>
  let⟨t,rfl⟩:=rx;obtain⟨hy,e'⟩:y.length<=ar/\k=((y.length:Int) != 0):=e;subst e';exact PySem.P.truthy_str (by lia) ⟨H,I.tok _,q⟩
 | byt y=>
  let⟨t,rfl⟩:=rx;obtain⟨hy,e'⟩:y.size<=ar/\k=((y.size:Int) != 0):=e;subst e';exact PySem.W.truthy_bytes (by lia) ⟨H,I.tok _,q⟩
 | ref p=>
  cases rx;let e':(∃ xs,ZI X.K H p xs/\k = !xs.isEmpty)\/(∃ xs,Zd X.K H p xs/\k = !xs.isEmpty)\/∃ kvs,H p=some (.dK kvs)/\k = !kvs.isEmpty:=e;rcases e' with ⟨xs,hx,e'⟩ | ⟨xs,hx,e'⟩ | ⟨kvs,hx,e'⟩
  ·subst e';let⟨jk,r,pl,hz⟩:=I.list hx;let hlen:=r.length;exact wpAny_truthy_list pl.isList (by simp only[zM];lia) ⟨H,I.tok _,by rw[Hx r];exact q⟩
  ·subst e';let⟨jk,r,pl,hz⟩:=I.tuple hx;let hlen:=r.length;exact truthy_tuple pl (by simp only[zM];lia) ⟨H,I.tok _,by rw[Hx r];exact q⟩
  ·subst e';obtain⟨hz,hS,vs,r,m⟩:kvs.length<=ar/\(p==sysModules)=false/\∃ vs,KV kvs vs/\s.heap.DictOf (WU X.prog X.w) p vs:=I.hok p _ hx;let hlen:kvs.length=vs.length:=Paired.length r;exact wpAny_truthy_dict hS m (by lia) ⟨H,I.tok _,by rw[Cv r];exact q⟩
 | _=>exact(show False from e).elim
inductive Vn(x y:V)(H:Hp)(Q:VK):Prop
 |mk(i j:_)(_:x=.str i)(_:y=.str j)(_:i.length+j.length<=ar)(_:Q (.str (i++j)) H)
def PR:Y7 X (binaryOp .Add) (Vn):=by
 intro kR s σ H x y v u Q I rx ry h;let⟨i,j,rfl,rfl,hz,q⟩:=h;let⟨t,rfl⟩:=rx;let⟨t',rfl⟩:=ry;exact add_str (λt' tk=>⟨.str (i++j),H,I.tok _,⟨_,Z⟩,q⟩) hz
def Wk{x:V}{us:jg}(r:ZR [x] us):∃ u,us=[u]/\ZT x u:=by
 cases r with
 | cons r1 r2=>cases r2;exact⟨_,Z,r1⟩
def LE{x y:V}{us:jg}(r:ZR [x,y] us):∃ u w',us=[u,w']/\ZT x u/\ZT y w':=by
 cases r with
 | cons r1 r2=>
  cases r2 with
  | cons r3 r4=>cases r4;exact⟨_,_,Z,r1,r3⟩
inductive Ue(xs:jh)(H:Hp)(Q:VK):Prop
 |mk(i:_)(_:xs=[.int i])(_:Q (.int (if i<0 then -i else i)) H)
def JR:Wg X (.builtin "abs") (Ue):=by
 intro kR s σ H xs us Q I r h;let⟨i,rfl,q⟩:=h;let⟨u,rfl,t,rfl⟩:=Wk r;exact call_abs_int λu tk=>⟨.int (if i<0 then -i else i),H,I.tok _,⟨_,Z⟩,q⟩
inductive V1(xs:jh)(H:Hp)(Q:VK):Prop
 |mk(i j:_)(_:xs=[.int i,.int j])(_:Q (.int (if j > i then j else i)) H)
def Jy(hc:X.calm=true):Wg X (.builtin "max") (V1):=by
 intro kR s σ H xs us Q I r h;let⟨i,j,rfl,q⟩:=h;let⟨u,w',rfl,⟨t,rfl⟩,⟨t',rfl⟩⟩:=LE r;refine max_two_ints (I.ok.hd hc) λh' tk k=>⟨_,H,I.kept k,?_,q⟩;by_cases hj:j > i
 ·rw[aK hj,aK hj];exact⟨_,Z⟩
 ·rw[aJ hj,aJ hj];exact⟨_,Z⟩
inductive V7(xs:jh)(H:Hp)(Q:VK):Prop
 |mk(i j:_)(_:xs=[.int i,.int j])(_:Q (.int (if j<i then j else i)) H)
def ZJy(hc:X.calm=true):Wg X (.builtin "min") (V7):=by
 intro kR s σ H xs us Q I r h;let⟨i,j,rfl,q⟩:=h;let⟨u,w',rfl,⟨t,rfl⟩,⟨t',rfl⟩⟩:=LE r;refine min_two_ints (I.ok.hd hc) λh' tk k=>⟨_,H,I.kept k,?_,q⟩;by_cases hj:j<i
 ·rw[aK hj,aK hj];exact⟨_,Z⟩
 ·rw[aJ hj,aJ hj];exact⟨_,Z⟩
def DZ:Wg X (.type "int") (λxs H Q=>(∃ i,xs=[.int i]/\Q (.int i) H)\/∃ k,xs=[.bl k]/\Q (.int (if k then 1 else 0)) H):=by
 intro kR s σ H xs us Q I r h;rcases h with ⟨i,rfl,q⟩ | ⟨k,rfl,q⟩
 ·let⟨u,rfl,t,rfl⟩:=Wk r;exact call_int_int ⟨.int i,H,I,⟨_,Z⟩,q⟩
 ·let⟨u,rfl,r1⟩:=Wk r;cases r1;exact call_int_bool ⟨.int (if k then 1 else 0),H,I.tok _,⟨_,Z⟩,q⟩
inductive Wd(xs:jh)(H:Hp)(Q:VK):Prop
 |mk(i:_)(_:xs=[.int i])(_:i.natAbs.log2<1920)(_:Q (.str (toString i)) H)
def Lk:Wg X (.type "str") (Wd):=by
 intro kR s σ H xs us Q I r h;let⟨i,rfl,hz,q⟩:=h;let⟨u,rfl,t,rfl⟩:=Wk r;exact PySem.P.str_of_int hz ⟨.str _,H,I.tok _,⟨_,Z⟩,q⟩
end
structure Vu(h:aD)(x dx C:aj)(mA:jd):Prop where
 obj:h.get? x=some (vT C dx)
 ns:h.Ns1 dx mA
 ne:dx≠x
def Cn{h:aD}{dx:aj}{mA:jd}(n:h.Ns1 dx mA):∃ od,h.get? dx=some od/\∀ name,tK name od=some (mA name):=by
 let⟨o,es,ep,ho,hd,hk,_,hm⟩:=n;refine⟨o,ho,λname=>?_⟩;let e:=hm name;unfold nsFind findBy at e;rw[<-Array.find?_toList] at e;unfold tK;rw[hd];dsimp only;split
 ·rename_i y q
  rw[q] at e;exact congrArg some e
 ·rename_i q
  rw[q] at e;let a:es.toList.any (·.refKey)=false:=by
   rw[List.any_eq_false];intro y hy;let⟨z,t,hkey⟩:=hk y (Array.mem_toList_iff.mp hy);simp[DictEntry.refKey,hkey]
  let a':¬ es.toList.any (·.refKey)=true:=by rw[a];exact zS
  rw[aJ a'];exact congrArg some e
def Vu.look{h:aD}{x dx C:aj}{mA:jd}(I:Vu h x dx C mA):∃ od,PySem.W.InstAt h x (vT C dx) C (some od)/\∀ name,tK name od=some (mA name):=
 let ⟨od,ho,hl⟩:=Cn I.ns
 ⟨od,⟨I.obj,rfl,rfl,ho⟩,hl⟩
section
variable{prog:ao}{w:ax}{A:ay}{E:ja}{s:am}{K:zZ}{x dx C f:aj}{mA:jd}{name:Str}{v:ai}
def ZNh{expr:Bool}{Q:ja}(X:K.In s.heap)(I:Vu s.heap x dx C mA)(hg:vM K C name=true)(hh:uS K C=true)(ha:yT K (.ref C) name=some none)(hv:mA name=some v)(hv':PySem.W.handedIn v=true)(h:Q v { s with toks:=s.toks+1 }):
  aC (aB prog w) A (getAttr (.ref x) name expr) Q E s:=by
 let⟨od,J,hl⟩:=I.look;exact PySem.W.get_value X J (rN hg).1 (PySem.W.findObj_own hh ha Z (by rw[hl,hv])) hv' h
def ZLB{pl:Sem Bool}{Q:ai×jg->am->Prop}(X:K.In s.heap)(I:Vu s.heap x dx C mA)(hg:vM K C name=true)(hf:yT K (.ref C) name=some (some (.ref f)))(ht:vV K (.ref f)=true)(hv:mA name=none)(h:Q (.ref f,[.ref x]) s):
  aC (aB prog w) A (getMethod (.ref x) name pl) Q E s:=by
 let⟨od,J,hl⟩:=I.look;exact PySem.W.method_fn X J (rN hg).1 (rN hg).2 hf (beq_iff_eq.mp ht) (by show (tK name od).map (·.isSome)=some false;rw[hl,hv];rfl) h
def Cc{ns:jP}{Q:Unit->am->Prop}(X:K.In s.heap)(I:Vu s.heap x dx C mA)(hs:yT K (.ref C) "__setattr__" = some (some (.builtin "object.__setattr__")))(hp:uD K C=true)(ht:sF K C name=some none)(hh:uS K C=true)(hw:PySem.Within mA ns)(hsz:ns.length<=ar)(h:∀ h',Vu h' x dx C (λy=>if y=name then some v else mA y)->xX dx s.heap h'->Q () { s with heap:=h',toks:=s.toks+2 }):
  aC (aB prog w) A (setAttr (.ref x) name v) Q E s:=by
 let⟨od,J,hl⟩:=I.look;refine PySem.W.set_plain X J hs (PySem.W.osa_open (s:={ s with toks:=s.toks+1 }) (r:=none) X J hp ht λb=>?_);let⟨cd,hc,hd'⟩:=PySem.W.any_some hh;let hx:s.heap.get? x=some ⟨.ref C,some dx,.plain,#[]⟩:=I.obj;refine aa (ad (aa (aa (wpAny_loadPart hx (aa (PySem.W.Looks.here (s:={ s with toks:=s.toks+1 }) (PySem.W.looks_clsIn X hc) ?_))))));rw[hd'];refine ad (a:=some dx) (aa (ad (aa ?_)));refine wpAny_nsSet1 (s:={ s with toks:=s.toks+1 }) I.ns λh' hn2 hs2=>?_;let⟨oD,esD,epD,hoD,hdD,hcD⟩:=hn2.count (PySem.Within.cons name v hw);refine aa (wpAny_lookBehind hoD (by rw[hdD];exact pastItsLine_dict (zK hcD (by rw[zU];lia))) ?_)
 exact ad (h _ ⟨(hs2.2 _ (Ne.symm I.ne)).trans I.obj,hn2,I.ne⟩ hs2)
def ZLg{R:Result->am->Prop}{vs:jg}{kw:ku}(X:K.In s.heap)(hm:uG K C=true)(hi:yT K (.ref C) "__init__" = some (some (.ref f)))(hf:PySem.W.typeIn K (.ref f)=some (.type "function"))(h:codeAny (aB prog w) (A.under (.builtin "type.__call__" ⟨.ref C::vs,kw⟩)) (.call (.ref f) ⟨.ref (s.heap.objs.size+1)::vs,kw⟩) (PySem.W.InitBack (s.heap.objs.size+1) R)
   { s with heap:=(s.heap.push wH).push (vT C s.heap.objs.size) }):
  codeAny (aB prog w) A (.call (.ref C) ⟨vs,kw⟩) R s:=by
 let⟨hh,g,d,t,os⟩:=s;exact PySem.W.make_core (PySem.W.makes_of X hm) (PySem.W.looks_findIn X hi) (λself=>PySem.W.bind_fn X self hf) (.inl rfl) h
end
def Yx(f:Str)(v:V):List (Str×V)->List (Str×V)
 | []=>[(f,v)]
 | (g,x)::r=>if g=f then (g,v)::r else (g,x)::Yx f v r
def E3(f g:Str)(v:V):∀ fs:List (Str×V),(Yx f v fs).lookup g=if g=f then some v else fs.lookup g
 | []=>by
  show vY g [(f,v)]=_;by_cases h:g=f
  ·let hb:(g==f)=true:=beq_iff_eq.mpr h;simp only[vY,hb,aK h]
  ·let hb:(g==f)=false:=beq_eq_false_iff_ne.mpr h;simp only[vY,hb,aJ h]
 | (k,x)::r=>by
  let ih:=E3 f g v r;rw[show Yx f v ((k,x)::r)=(if k=f then (k,v)::r else (k,x)::Yx f v r) from rfl]
  by_cases hk:k=f
  ·rw[aK hk];by_cases h:g=k
   ·let hb:(g==k)=true:=beq_iff_eq.mpr h;simp only[vY,hb,aK (h.trans hk)]
   ·let hb:(g==k)=false:=beq_eq_false_iff_ne.mpr h;simp only[vY,hb,aJ (λe:g=f=>h (e.trans hk.symm))]
  ·rw[aJ hk];by_cases h:g=k
   ·let hb:(g==k)=true:=beq_iff_eq.mpr h;simp only[vY,hb,aJ (λe:g=f=>hk (h.symm.trans e))]
   ·let hb:(g==k)=false:=beq_eq_false_iff_ne.mpr h;simp only[vY,hb];exact ih
def Kh(f:Str)(v:V):∀ fs:List (Str×V),f∈(Yx f v fs).map (·.1)/\∀ g,g∈fs.map (·.1)->g∈(Yx f v fs).map (·.1)
 | []=>⟨by simp[Yx],λg h=>by simp at h⟩
 | (k,x)::r=>by
  let⟨i1,i2⟩:=Kh f v r;rw[show Yx f v ((k,x)::r)=(if k=f then (k,v)::r else (k,x)::Yx f v r) from rfl]
  by_cases hk:k=f
  ·rw[aK hk];subst hk;exact⟨by simp,λg h=>by simpa using h⟩
  ·rw[aJ hk];refine⟨?_,λg h=>?_⟩
   ·rw[zB];exact zJ _ i1
   ·rw[zB] at h⊢;rcases zI.mp h with e | e
    ·exact zI.mpr (.inl e)
    ·exact zJ _ (i2 g e)
def FU(f:Str)(v:V):∀ fs:List (Str×V),(Yx f v fs).length<=fs.length+1
 | []=>by simp[Yx]
 | (k,x)::r=>by
  let ih:=FU f v r;rw[show Yx f v ((k,x)::r)=(if k=f then (k,v)::r else (k,x)::Yx f v r) from rfl]
  by_cases hk:k=f
  ·rw[aK hk,zU,zU];lia
  ·rw[aJ hk,zU,zU];lia
def Yc.some_of{v:V}{o:jf}(r:Yc (some v) o):∃ u,o=some u/\ZT v u:=by
 cases o with
 | none=>exact(show False from r).elim
 | some u=>exact⟨u,Z,r⟩
def Yc.none_of{o:jf}(r:Yc none o):o=none:=by
 cases o with
 | none=>rfl
 | some u=>exact(show False from r).elim
def ZJ7{v:V}{u:ai}(r:ZT v u):PySem.W.handedIn u=true:=by
 cases v with
 | non=>cases(show u=Value.none from r);rfl
 | bl b=>cases(show u=Value.bool b from r);rfl
 | int i=>let⟨t,e⟩:=(show ∃ t,u=Value.int i t from r);cases e;rfl
 | str x=>let⟨t,e⟩:=(show ∃ t,u=Value.str x t from r);cases e;rfl
 | byt b=>let⟨t,e⟩:=(show ∃ t,u=Value.bytes b t from r);cases e;rfl
 | flt b=>let⟨t,e⟩:=(show ∃ t,u=Value.float b t from r);cases e;rfl
 | ref a=>cases(show u=Value.ref a from r);rfl
 | ty n=>cases(show u=Value.type n from r);rfl
section
variable{P:ao}{w:ax}{H H':Hp}{h h':aD}{a C dx:aj}{fs fs':List (Str×V)}
def Mw(hok:XL P w H h)(e:H a=some (.ins C dx fs)):∃ mA,Vu h a dx C mA/\(∀ f,Yc (fs.lookup f) (mA f))/\PySem.Within mA (fs.map (·.1))/\fs.length<=1000/\H dx=some (.own a):=by
 let⟨d,z,ne,ob,mA,n,r,q⟩:=(show Zj P w H h a (.ins C dx fs) from hok a _ e);exact⟨mA,⟨ob,n,ne⟩,r,q,z,d⟩
end
structure Va(K:zZ)(C:aj):Prop where
 pg:vM K C Str.empty=true
 hd:uS K C=true
 po:uD K C=true
 sa:yT K (.ref C) "__setattr__" = some (some (.builtin "object.__setattr__"))
def Va.get{K:zZ}{C:aj}(c:Va K C)(f:Str):vM K C f=true:=c.pg
def Z2(K:zZ)(C:aj)(f:Str):Prop:=yT K (.ref C) f=some none
def Z2.taker{K:zZ}{C:aj}{f:Str}(n:Z2 K C f):sF K C f=some none:=by
 unfold sF;rw[show yT K (.ref C) f=some none from n];rfl
structure QS(K:zZ)(C:aj)(m:Str)(f:aj):Prop where
 at_:yT K (.ref C) m=some (some (.ref f))
 fn:vV K (.ref f)=true
 kp:xZ K (.ref f)=true
section
variable{kR:jO}{σ:St}{H:Hp}{s:am}{a C dx:aj}{fs:List (Str×V)}{f:Str}{v:V}{A:ay}{E:ja}
def Es{b:Bool}{Q:ja}(I:ZJ X kR σ H s)(e:H a=some (.ins C dx fs))(c:Va X.K C)(n:Z2 X.K C f)(l:fs.lookup f=some v)(h:∀ u s',ZJ X kR σ H s'->ZT v u->Q u s'):aC (aB X.prog X.w) A (getAttr (.ref a) f b) Q E s:=by
 let⟨mA,O,r,_,_,_⟩:=Mw I.hok e;let⟨u,hu,ru⟩:=Yc.some_of (v:=v) (o:=mA f) (by rw[<-l];exact r f)
 exact ZNh I.kIn O (c.get f) c.hd n hu (ZJ7 ru) (h u _ (I.tok _) ru)
def Fu{m:Str}{g:aj}{pl:Sem Bool}{Q:ai×jg->am->Prop}(I:ZJ X kR σ H s)(e:H a=some (.ins C dx fs))(c:Va X.K C)(k:QS X.K C m g)(l:fs.lookup m=none)(h:Q (.ref g,[.ref a]) s):aC (aB X.prog X.w) A (getMethod (.ref a) m pl) Q E s:=by
 let⟨mA,O,r,_,_,_⟩:=Mw I.hok e;let hn:mA m=none:=Yc.none_of (by rw[<-l];exact r m)
 exact ZLB I.kIn O (c.get m) k.at_ k.fn hn h
def Gf{y:V}{u:ai}{Q:Unit->am->Prop}(I:ZJ X kR σ H s)(e:H a=some (.ins C dx fs))(c:Va X.K C)(n:Z2 X.K C f)(hl:fs.length<1000)(ry:ZT y u)(h:∀ s',ZJ X kR σ (upd H a (.ins C dx (Yx f y fs))) s'->Q () s'):aC (aB X.prog X.w) A (setAttr (.ref a) f u) Q E s:=by
 let⟨mA,O,r,wi,_,ho⟩:=Mw I.hok e;let hz:(fs.map (·.1)).length<=sizeLine:=by rw[zY,sizeLine_eq];lia
 refine Cc I.kIn O c.sa c.po n.taker c.hd wi hz λh' O' sb=>h _ ?_;let hd:∃ o,h'.get? dx=some o:=let ⟨o,_,_,e',_⟩:=O'.ns;⟨o,e'⟩;refine I.write (x:=a) (e:=dx) (by rw[e];exact True.intro) (.inr ho) (λb q hb z=>(sb.2 b hb).trans z) hd ?_
 refine⟨by rw[ZY O.ne];exact ho,?_,O.ne,O'.obj,_,O'.ns,λg=>?_,λg hg=>?_⟩
 ·have:=FU f y fs;lia
 ·show Yc ((Yx f y fs).lookup g) (if g=f then some u else mA g)
  rw[E3];by_cases q:g=f
  ·rw[aK q,aK q];exact ry
  ·rw[aJ q,aJ q];exact r g
 ·by_cases q:g=f
  ·rw[q];exact(Kh f y fs).1
  ·refine(Kh f y fs).2 g (wi g λz=>hg ?_);show (if g=f then some u else mA g)=none
   rw[aJ q];exact z
def ZJ.made(I:ZJ X kR σ H s):ZJ X kR σ (upd (upd H s.heap.objs.size (.own (s.heap.objs.size+1))) (s.heap.objs.size+1) (.ins C s.heap.objs.size []))
  { s with heap:=(s.heap.push wH).push (vT C s.heap.objs.size) }:=by
 let e1:(s.heap.push wH).get? s.heap.objs.size=some wH:=yP s.heap Z;let e2:((s.heap.push wH).push (vT C s.heap.objs.size)).get? (s.heap.objs.size+1)=some (vT C s.heap.objs.size):=by
  have:=yP (s.heap.push wH) (o:=vT C s.heap.objs.size) Z
  rwa [rE] at this
 let e3:(s.heap.push wH).Ns s.heap.objs.size (λ_=>none):=⟨wH,#[],_,e1,Z,(λe he=>absurd he (by simp)),λ_=>rfl⟩
 let I1:=I.laid (a:=s.heap.objs.size) (o:=.own (s.heap.objs.size+1)) (h':=s.heap.push wH) (t':=s.toks) (λb u q=>zD _ q) (zX _) ⟨_,e1⟩;refine I1.laid (a:=s.heap.objs.size+1) (o:=.ins C s.heap.objs.size []) (t':=s.toks) (λb u q=>zD _ q) (tQ (rE _ _)) ?_;let ne:s.heap.objs.size≠s.heap.objs.size+1:=yN (uI _);refine⟨by rw[ZY ne,ZZ],zH _,ne,e2,λ_=>none,(Heap.Ns1.of_empty e3).at λo q=>zD _ q,λ_=>True.intro,λy hy=>absurd Z hy⟩
def Bh{prog:ao}{w:ax}{env:Env}{e:Expr}{f:Str}{pos:Pos}{s:am}{Q:ja}(hb:attributeBase e f env (aF e env)=aF e env)(h:aC (aB prog w) A (aF e env) (λo s₁=>aC (aB prog w) A (getAttr o f true) Q E s₁) E s):aC (aB prog w) A (aF (.Attribute e f pos) env) Q E s:=
 Attribute_any_ h (by rw[arm_eval_Attribute,hb])
end
inductive NK(K:zZ)(f:Str)(Q:VK)(x:V)(H1:Hp):Prop
 |mk(a C dx fs v:_)(_:x=.ref a)(_:H1 a=some (.ins C dx fs))(_:Va K C)(_:Z2 K C f)(_:fs.lookup f=some v)(_:Q v H1)
def ZRc(K:zZ)(ta:TE)(f:Str):TE:=λσ H Q=>ta σ H λx H1=>NK K f Q x H1
inductive Nd(K:zZ)(f:Str)(D:XA)(σ:L2.St)(y x:V)(H2:Hp):Prop
 |mk(a C dx fs:_)(_:x=.ref a)(_:H2 a=some (.ins C dx fs))(_:Va K C)(_:Z2 K C f)(_:fs.length<1000)(_:D.nx σ (upd H2 a (.ins C dx (Yx f y fs))))
def Bb(K:zZ)(ta tv:TE)(f:Str):TS:=λD σ H=>tv σ H λy H1=>ta σ H1 λx H2=>Nd K f D σ y x H2
def IQ(X:Cx)(op:Operator)(rd:V->V->Hp->VK->Prop):Prop:=
 ∀(kR:jO)(s:am)(σ:St)(H:Hp)(x y:V)(u v:ai)(Q:VK),ZJ X kR σ H s->ZT x u->ZT y v->rd x y H Q->aC (aB X.prog X.w) X.A (inplaceOp op u v) (EP X kR σ Q) X.xe s
inductive QN(K:zZ)(tv:TE)(rd:V->V->Hp->VK->Prop)(f:Str)(D:XA)(σ:L2.St)(x:V)(H1:Hp):Prop
 |mk(a C dx fs v:_)(_:x=.ref a)(_:H1 a=some (.ins C dx fs))(_:Va K C)(_:Z2 K C f)(_:fs.lookup f=some v)(_:tv σ H1 λy H2=>rd v y H2 λz H3=>∃ dx' fs',H3 a=some (.ins C dx' fs')/\fs'.length<1000/\D.nx σ (upd H3 a (.ins C dx' (Yx f z fs'))))
def C9(K:zZ)(ta tv:TE)(rd:V->V->Hp->VK->Prop)(f:Str):TS:=λD σ H=>ta σ H λx H1=>QN K tv rd f D σ x H1
section
variable{o e value:Expr}{f:Str}{pos pos' tpos:Pos}{ta tv:TE}
def X5(he:PE X e ta)(hb:attributeBase e f X.env (aF e X.env)=aF e X.env):PE X (.Attribute e f pos) (ZRc X.K ta f):=by
 intro kR s σ H Q I h;refine Bh hb (Zb (he kR s σ H _ I h) λu s1 ⟨x,H1,I1,rx,a,C,dx,fs,v,ex,ea,c,n,l,q⟩=>?_);subst ex;obtain rfl:u=Value.ref a:=rx;exact Es I1 ea c n l λu' s2 I2 ru=>⟨v,H1,I2,ru,q⟩
def U3(ha:PE X o ta)(hv:PE X value tv)(hs:swapsWith value (some (.Attribute o f pos')) pos.line X.env=pure false):PS X (.Assign [.Attribute o f pos'] value pos) (Bb X.K ta tv f):=by
 intro kR s σ H D I h;refine plainObj_wpAny_Assign_Attribute (Zb (hv kR s σ H _ I h) λu s1 ⟨y,H1,I1,ry,q⟩=>Zb (ha kR s1 σ H1 _ I1 q) λov s2 ⟨x,H2,I2,rx,a,C,dx,fs,ex,ea,c,n,l,q2⟩=>?_) hs;subst ex;obtain rfl:ov=Value.ref a:=rx;exact Gf I2 ea c n l ry λs3 I3=>⟨σ,_,I3,q2⟩
def HK{op:Operator}{rd:V->V->Hp->VK->Prop}(ha:PE X o ta)(hv:PE X value tv)(hop:IQ X op rd):PS X (.AugAssign (.Attribute o f tpos) op value pos) (C9 X.K ta tv rd f):=by
 intro kR s σ H D I h;refine wpAny_AugAssign_AttributeAny (Zb (ha kR s σ H _ I h) λov s1 ⟨x,H1,I1,rx,a,C,dx,fs,v,ex,ea,c,n,l,q⟩=>?_);subst ex;obtain rfl:ov=Value.ref a:=rx;refine Es I1 ea c n l λu s2 I2 ru=>Zb (hv kR s2 σ H1 _ I2 q) λw3 s3 ⟨y,H2,I3,ry,q3⟩=>Zb (hop kR s3 σ H2 v y u w3 _ I3 ru ry q3) λw4 s4 ⟨z,H3,I4,rz,dx',fs',ea',l',q4⟩=>?_;exact Gf I4 ea' c n l' rz λs5 I5=>⟨σ,_,I5,q4⟩
inductive JY(x y:V)(H:Hp)(Q:VK):Prop
 |mk(i j:_)(_:x=.int i)(_:y=.int j)(_:Q (.int (i+j)) H)
inductive HD(x y:V)(H:Hp)(Q:VK):Prop
 |mk(i j:_)(_:x=.int i)(_:y=.int j)(_:Q (.int (i-j)) H)
def Bd:IQ X .Add JY:=by
 rintro kR s σ H x y u v Q I rx ry ⟨i,j,rfl,rfl,q⟩;let⟨t,rfl⟩:=(show ∃ t,u=Value.int i t from rx);let⟨t',rfl⟩:=(show ∃ t',v=Value.int j t' from ry);exact PyProof.Rows.iadd_int ⟨.int (i+j),H,I.tok _,⟨_,Z⟩,q⟩
def Dt:IQ X .Sub HD:=by
 rintro kR s σ H x y u v Q I rx ry ⟨i,j,rfl,rfl,q⟩;let⟨t,rfl⟩:=(show ∃ t,u=Value.int i t from rx);let⟨t',rfl⟩:=(show ∃ t',v=Value.int j t' from ry);exact PyProof.Rows.isub_int ⟨.int (i-j),H,I.tok _,⟨_,Z⟩,q⟩
end
section
variable{kR:jO}{σ:St}{H:Hp}{s:am}{A:ay}{E Q:ja}{c:ai}{b:Bool}
inductive XF(K:zZ)(H:Hp):V->ai->Prop where
 | non:XF K H .non (.type "NoneType")
 | bl (x:Bool):XF K H (.bl x) (.type "bool")
 | int (i:Int):XF K H (.int i) (.type "int")
 | str (x:Str):XF K H (.str x) (.type "str")
 | flt (x:UInt64):XF K H (.flt x) (.type "float")
 | lst {a:aj} {xs:jh} (e:H a=some (.lst xs)):XF K H (.ref a) (.type "list")
 | frz {a:aj} {o:aG} {xs:jh} (e:H a=some (.frz o (.lst xs))):XF K H (.ref a) (.type "list")
 | tup {a:aj} {xs:jh} (e:H a=some (.tup xs)):XF K H (.ref a) (.type "tuple")
 | dK {a:aj} {kvs:List (Zi×V)} (e:H a=some (.dK kvs)):XF K H (.ref a) (.type "dict")
 | dT {a:aj} {kvs:List (jW×V)} (e:H a=some (.dT kvs)):XF K H (.ref a) (.type "dict")
 | ins {a C dx:aj} {fs:List (Str×V)} (e:H a=some (.ins C dx fs)) (cl:Va K C) (ha:yT K (.ref C) "__class__" = some (some (.builtin "object.__class__")))
   (hn:rV K (.builtin "object.__class__") "__get__" = some (some (.builtin "getset_descriptor.__get__"))) (htk:sE K (.builtin "object.__class__")=some true)
   (hm:sN K C (.type "object")=some true):XF K H (.ref a) (.ref C)
def Ev{x:V}{u t:ai}(I:ZJ X kR σ H s)(rx:ZT x u)(ty:XF X.K H x t)(e:yG X.K t c=some b)(h:∀ tk,Q (.bool b) { s with toks:=tk }):
  aC (aB X.prog X.w) A (call (.builtin "isinstance") [u,c]) Q E s:=by
 cases ty with
 | non=>cases(show u=Value.none from rx);exact xH PySem.W.kitx_none I.kIn True.intro e (λz=>nomatch z) h
 | bl y=>cases(show u=Value.bool y from rx);exact xH PySem.W.kitx_bool I.kIn True.intro e (λz=>nomatch z) h
 | int i=>let⟨t,q⟩:=(show ∃ t,u=Value.int i t from rx);cases q;exact xH PySem.W.kitx_int I.kIn True.intro e (λz=>nomatch z) h
 | str y=>let⟨t,q⟩:=(show ∃ t,u=Value.str y t from rx);cases q;exact xH PySem.W.kitx_str I.kIn True.intro e (λz=>nomatch z) h
 | flt y=>let⟨t,q⟩:=(show ∃ t,u=Value.float y t from rx);cases q;exact xH PySem.W.kitx_float I.kIn True.intro e (λz=>nomatch z) h
 | @lst a xs ea=>
  cases(show u=Value.ref a from rx);let⟨_,_,n,_,h1⟩:=(show Zj X.prog X.w H s.heap a (.lst xs) from I.hok a _ ea);exact xH PySem.W.kitx_list I.kIn ⟨_,h1,Z⟩ e (λz=>nomatch z) h
 | @frz a ob xs ea=>
  cases(show u=Value.ref a from rx);let⟨_,_,_,n,_,h1⟩:=(show Zj X.prog X.w H s.heap a (.frz ob (.lst xs)) from I.hok a _ ea);exact xH PySem.W.kitx_list I.kIn ⟨_,h1,Z⟩ e (λz=>nomatch z) h
 | @tup a xs ea=>
  cases(show u=Value.ref a from rx);let⟨_,_,_,p⟩:=(show Zj X.prog X.w H s.heap a (.tup xs) from I.hok a _ ea);let⟨o,h1,h2,_⟩:=p;exact xH PySem.W.kitx_tuple I.kIn ⟨o,h1,h2⟩ e (λz=>nomatch z) h
 | @dK a kvs ea=>
  cases(show u=Value.ref a from rx);let⟨_,_,vs,_,p⟩:=(show Zj X.prog X.w H s.heap a (.dK kvs) from I.hok a _ ea);let⟨o,es,ep,h1,h2,_⟩:=p;exact xH PySem.W.kitx_dict I.kIn ⟨o,h1,h2.1⟩ e (λz=>nomatch z) h
 | @dT a kvs ea=>
  cases(show u=Value.ref a from rx);let⟨_,_,xs,_,o,es,ep,h1,h2,_⟩:=(show Zj X.prog X.w H s.heap a (.dT kvs) from I.hok a _ ea);exact xH PySem.W.kitx_dict I.kIn ⟨o,h1,h2.1⟩ e (λz=>nomatch z) h
 | @ins a C dx fs ea cl ha hn htk hm=>
  cases(show u=Value.ref a from rx);let⟨mA,O,_⟩:=Mw I.hok ea;let⟨od,J,_⟩:=O.look;exact xH (PySem.W.kitx_own (cl.get _) cl.hd ha hn htk hm) I.kIn J e (λz=>nomatch z) h
end
structure Zf(k:Nat)(A:ay):Prop where
 hd:A.handled=none
 dp:A.depth+3 * k+5<recursionLimit
 un:A.units+16 * k+200<cLine
def Zf.mono{j k:Nat}{A:ay}(r:Zf k A)(h:j<=k):Zf j A:=⟨r.hd,by have:=r.dp;lia,by have:=r.un;lia⟩
def Zf.deeper{k:Nat}{A:ay}(r:Zf (k+1) A)(env:Env):Zf k (A.deeper env):=
 ⟨r.hd,by have:=r.dp;show A.depth+1+3 * k+5<_;lia,by have:=r.un;show A.units+3+16 * k+200<_;lia⟩
def Zf.in1{k:Nat}{A:ay}(r:Zf (k+1) A):Zf k A.in1:=
 ⟨r.hd,by have:=r.dp;show A.depth+3 * k+5<_;lia,by have:=r.un;show A.units+1+16 * k+200<_;lia⟩
def ZIM{A:ay}{C:aj}{us:jg}{kw:ku}:(A.under (.builtin "type.__call__" ⟨.ref C::us,kw⟩)).depth=A.depth+1:=by
 first | rfl | simp[Around.under,Code.weight,Code.isCreation,Code.isGuard,Code.isCaller,Code.frames,Code.isFrame,guardIds]
def ZIA{A:ay}{C:aj}{us:jg}{kw:ku}:(A.under (.builtin "type.__call__" ⟨.ref C::us,kw⟩)).units=A.units+1:=by
 first | rfl | simp[Around.under,Code.cUnits,Code.frames,Code.isFrame]
def Zf.make{k:Nat}{A:ay}(r:Zf (k+1) A)(C:aj)(us:jg)(kw:ku):Zf k (A.under (.builtin "type.__call__" ⟨.ref C::us,kw⟩)):=
 ⟨r.hd,by have:=r.dp;rw[ZIM];lia,by have:=r.un;rw[ZIA];lia⟩
def Zf.depth{k:Nat}{A:ay}(r:Zf k A):A.depth<recursionLimit:=by have:=r.dp;lia
def Zf.units{k:Nat}{A:ay}(r:Zf k A):A.units+64<cLine:=by have:=r.un;lia
def Zf.units0{k:Nat}{A:ay}(r:Zf k A):A.units<cLine:=by have:=r.un;lia
def Uu:TA:=λ_ H Q=>Q [] H
def Wu(ta:TE)(tr:TA):TA:=λσ H Q=>ta σ H λx H1=>tr σ H1 λxs H2=>Q (x::xs) H2
section
variable{e:Expr}{es:jU}{te:TE}{t:TA}{pos:Pos}
def ZD:PA X [] Uu:=λ_ _ _ _ H Q I h=>Calls.spliced_nil ⟨[],H,I,.nil,h⟩
def ZN(ha:PE X e te)(hr:PA X es t)(hs:aw (e::es) X.env=(false,aF e X.env)::aw es X.env:=by rfl):PA X (e::es) (Wu te t):=by
 intro pos kR s σ H Q I h;rw[hs];show aC _ _ (spliced ((false,aF e X.env)::aE pos (aw es X.env))) _ _ s;refine Calls.spliced_cons (Zb (ha kR s σ H _ I h) λu s1 ⟨x,H1,I1,r1,q1⟩=>?_);exact Zb (hr pos kR s1 σ H1 _ I1 q1) λus s2 ⟨xs,H2,I2,r2,q2⟩=>⟨x::xs,H2,I2,.cons r1 r2,q2⟩
def Em(t:TA):TE:=λσ H Q=>t σ H λxs H1=>xs.length<=ar/\∀ p,H1 p=none->Q (.ref p) (upd H1 p (.tup xs))
def ZRd(t:TA):TE:=λσ H Q=>t σ H λxs H1=>xs.length<=ar/\∀ p,H1 p=none->Q (.ref p) (upd H1 p (.lst xs))
def XR{x1}(h:PA X es t):PE X (.Tuple es x1 pos) (Em t):=by
 intro kR s σ H Q I hq;refine wpAny_Tuple_spliced (Zb (h pos kR s σ H _ I hq) λus s1 ⟨xs,H1,I1,r,z,q⟩=>⟨by rw[<-r.length];exact z,?_⟩)
 let hf:H1 s1.heap.objs.size=none:=I1.hok.fresh (zX _);refine⟨.ref s1.heap.objs.size,upd H1 s1.heap.objs.size (.tup xs),I1.laid (t':=s1.toks) (λb u e=>zD _ e) (zX _) ?_,Z,q _ hf⟩;exact⟨z,us,r,⟨_,yP _ Z,Z,_,Z⟩⟩
def Yo(h:PA X es t):PE X (.List es pos) (ZRd t):=by
 intro kR s σ H Q I hq;refine wpAny_List_spliced (Zb (h pos kR s σ H _ I hq) λus s1 ⟨xs,H1,I1,r,z,q⟩=>⟨by rw[<-r.length];exact z,?_⟩)
 let hf:H1 s1.heap.objs.size=none:=I1.hok.fresh (zX _);refine⟨.ref s1.heap.objs.size,upd H1 s1.heap.objs.size (.lst xs),I1.laid (t':=s1.toks) (λb u e=>zD _ e) (zX _) ?_,Z,q _ hf⟩;exact⟨z,us,0,r,yP _ Z⟩
end
abbrev Sp:=jh->Hp->VK->XK->Prop
abbrev Vg:=kg->Hp->am->XK->ja
structure Vj(P:ao)(w:ax)(K:zZ)(mg:jd)(kT:aD)(A:ay)(outer:kg)(s:am)(H:Hp):Prop where
 frames:A.frames=some outer
 mod:Mod K mg kT
 bs:∀ b o,kT.get? b=some o->s.heap.get? b=some o/\H b=none
 bsz:kT.objs.size<=s.heap.objs.size
 funs:s.heap.FunFrames kT outer
 frf:∀ b∈Vr outer,H b=none
 hok:XL P w H s.heap
 bare:AllBare s.gens
def CE(outer:kg)(P:ao)(w:ax)(H:Hp)(s:am)(Q:VK)(u:ai)(s':am):Prop:=
 ∃ v H',s'.os=s.os/\AllBare s'.gens/\Un (Vr outer) [] H H' s.heap s'.heap/\XL P w H' s'.heap/\ZT v u/\Q v H'
def CR(CX:Vg)(outer:kg)(P:ao)(w:ax)(H:Hp)(s:am)(Q:VK)(E:XK)(r:Result)(s':am):Prop:=
 match r with
 | .ok (.ret u)=>CE outer P w H s Q u s'
 | .ok _=>False
 | .error e=>CX outer H s E e s'
structure ZK(P:ao)(w:ax)(K:zZ)(mg:jd)(kT:aD)(CX:Vg)(k:Nat)(f:aj)(fd:ap)(ps:jP)(sp:Sp):Prop where
 len:∀ vs H Q E,sp vs H Q E->vs.length=ps.length
 run:∀(A:ay)(outer:kg)(s:am)(H:Hp)(args:Args)(us:jg)(vs:jh)(Q:VK)(E:XK),Zf k A->Vj P w K mg kT A outer s H->BindsTo s fd args (ps.zip us)->ZR vs us->sp vs H Q E ->
  codeAny (aB P w) A (.call (.ref f) args) (CR CX outer P w H s Q E) s
def ZK.mono{P:ao}{w:ax}{K:zZ}{mg:jd}{kT:aD}{CX:Vg}{j k:Nat}{f:aj}{fd:ap}{ps:jP}{sp:Sp}(F:ZK P w K mg kT CX j f fd ps sp)(h:j<=k):
  ZK P w K mg kT CX k f fd ps sp:=⟨F.len,λA outer s H args us vs Q E hr=>F.run A outer s H args us vs Q E (hr.mono h)⟩
def ZK.imp{P:ao}{w:ax}{K:zZ}{mg:jd}{kT:aD}{CX:Vg}{k:Nat}{f:aj}{fd:ap}{ps:jP}{sp sp':Sp}(F:ZK P w K mg kT CX k f fd ps sp)(h:∀ vs H Q E,sp' vs H Q E->sp vs H Q E):ZK P w K mg kT CX k f fd ps sp':=
 ⟨λvs H Q E q=>F.len vs H Q E (h _ _ _ _ q),λA outer s H args us vs Q E hr he hb hv hs=>F.run A outer s H args us vs Q E hr he hb hv (h _ _ _ _ hs)⟩
def Vj.make{P:ao}{w:ax}{K:zZ}{mg:jd}{kT:aD}{A:ay}{outer:kg}{s:am}{H:Hp}(e:Vj P w K mg kT A outer s H)(C:aj)(us:jg)(kw:ku):
  Vj P w K mg kT (A.under (.builtin "type.__call__" ⟨.ref C::us,kw⟩)) outer s H:=⟨by first | exact e.frames | (simpa [Around.under,Code.envs,Code.isFrame,pushEnvs] using e.frames),e.mod,e.bs,e.bsz,e.funs,e.frf,e.hok,e.bare⟩
section
variable{kR:jO}{σ:St}{H:Hp}{s s':am}
def ZJ.env0(I:ZJ X kR σ H s):Vj X.prog X.w X.K X.mg X.base X.A X.stack s H:=
 ⟨I.ok.frames,I.ok.mod,I.bs,zK I.ok.bsz I.sz,I.stack,I.stkFree,I.hok,I.bare⟩
def ZJ.after{Q:VK}{u:ai}(I:ZJ X kR σ H s)(h:CE X.stack X.prog X.w H s Q u s'):EP X kR σ Q u s':=by
 let⟨v,H',os,bare,un,hok,r,q⟩:=h;let⟨hh,g,d,t,os'⟩:=s';obtain rfl:os'=s.os:=os;exact⟨v,H',I.call (h':=hh) (g':=g) (d':=d) (t':=t) (ch:=[]) un hok bare (λb z=>absurd z (by simp)),r,q⟩
end
def Fx(sp:Sp)(js:jh)(E:XK)(t:TA):TE:=λσ H Q=>t σ H λvs H1=>sp (vs++js) H1 Q E
inductive P7(C:aj)(m:Str)(sp:Sp)(js:jh)(E:XK)(t:TA)(σ:L2.St)(Q:VK)(x:V)(H1:Hp):Prop
 |mk(a dx fs:_)(_:x=.ref a)(_:H1 a=some (.ins C dx fs))(_:fs.lookup m=none)(_:t σ H1 λvs H2=>sp (x::(vs++js)) H2 Q E)
def ML(C:aj)(m:Str)(sp:Sp)(js:jh)(E:XK)(ta:TE)(t:TA):TE:=λσ H Q=>ta σ H λx H1=>P7 C m sp js E t σ Q x H1
def Nc(C:aj)(sp:Sp)(js:jh)(E:XK)(t:TA):TE:=λσ H Q=>t σ H λvs H1=>∀ x dx,H1 x=none->H1 dx=none->dx≠x ->
 sp (.ref x::(vs++js)) (upd (upd H1 dx (.own x)) x (.ins C dx [])) (λv H2=>v=.non/\Q (.ref x) H2) E
def Zz(K:zZ)(fd:ap)(ps:jP)(ds:jg):Prop:=
 ∀(s:am)(us:jg),K.In s.heap->(us++ds).length=ps.length->BindsTo s fd ⟨us,[]⟩ (ps.zip (us++ds))
def Zz.all{K:zZ}{fd:ap}{ps:jP}(h:∀ us:jg,us.length=ps.length->bindArgs fd ⟨us,[]⟩=pure (ps.zip us)):Zz K fd ps []:=λs us _ hl=>by
 rw[wK] at hl⊢;exact .of_eq (h us hl)
def Qg(CX:Vg)(X:Cx)(E:XK):Prop:=∀(kR:jO)(σ:St)(H:Hp)(s:am)(e:ai)(s':am),ZJ X kR σ H s->CX X.stack H s E e s'->X.xe e s'
section
variable{CX:Vg}{k:Nat}{f C:aj}{fd:ap}{ps:jP}{sp:Sp}{js:jh}{ds:jg}{E:XK}{x m:Str}{p pos jm:Pos}{e o:Expr}{es:jU}{ta:TE}{t:TA}
def Kt{kR:jO}{σ:St}{H:Hp}{s:am}{Q:VK}{us:jg}{vs:jh}(F:ZK X.prog X.w X.K X.mg X.base CX k f fd ps sp)(hr:Zf k X.A)(hb:Zz X.K fd ps ds)(hd:ZR js ds)(hx:Qg CX X E)(I:ZJ X kR σ H s)(r:ZR vs us)(h:sp (vs++js) H Q E):aC (aB X.prog X.w) X.A (call (.ref f) us) (EP X kR σ Q) X.xe s:=by
 let r2:ZR (vs++js) (us++ds):=r.append hd;let hl:(us++ds).length=ps.length:=by rw[<-r2.length];exact F.len _ _ _ _ h
 refine wpAny_call (codeAny_mono (F.run X.A X.stack s H ⟨us,[]⟩ (us++ds) (vs++js) Q E hr I.env0 (hb s us I.kIn hl) r2 h) λr s' hq=>?_)
 cases r with
 | error e=>exact hx kR σ H s e s' I hq
 | ok fl=>
  cases fl with
  | ret u=>exact I.after hq
  | next=>exact False.elim hq
  | brk=>exact False.elim hq
  | cont=>exact False.elim hq
def ZNU(F:ZK X.prog X.w X.K X.mg X.base CX k f fd ps sp)(hr:Zf k X.A)(hg:Gl X x)(hm:X.mg x=some (.ref f))(hk:xZ X.K (.ref f)=true)(hb:Zz X.K fd ps ds)(hd:ZR js ds)(hx:Qg CX X E)(ha:PA X (e::es) t)(jy:(x==("__debug__" : Str))=false:=by decide)(he:aw (e::es) X.env=(false,aF e X.env)::aw es X.env:=by rfl)(jp:(aE pos (aw es X.env)).any (·.1)=false:=by rfl):
  PE X (.Call (.Name x p) (e::es) [] pos) (Fx sp js E t):=by
 intro kR s σ H Q I h;refine ag (MY I hg hm ?_ jy);refine rP (h₀:=X.base) I.ok.mod.kin hk (Zb (ha pos kR s σ H _ I h) λus s1 ⟨vs,H1,I1,r,q⟩=>⟨I1.kIn,?_⟩) he jp;exact Kt F hr hb hd hx I1 r q
def ZNt{pl:Sem Bool}(he:PE X o ta)(c:Va X.K C)(hm:QS X.K C m f)(F:ZK X.prog X.w X.K X.mg X.base CX k f fd ps sp)(hr:Zf k X.A)(hb:Zz X.K fd ps ds)(hd:ZR js ds)(hx:Qg CX X E)(ha:PA X (e::es) t)(hst:aw (e::es) X.env=(false,aF e X.env)::aw es X.env:=by rfl)(jp:(aE pos (aw es X.env)).any (·.1)=false:=by rfl)(ht:aF (.Call (.Attribute o m jm) (e::es) [] pos) X.env=(do
   let ov<-aF o X.env
   standAt jm.atName
   let (f,first)<-holding [ov] (getMethod ov m pl)
   callWith pos f first (aE pos (aw (e::es) X.env)) (backToKw pos (keywordEach [] X.env))):=by rfl):
  PE X (.Call (.Attribute o m jm) (e::es) [] pos) (ML C m sp js E ta t):=by
 intro kR s σ H Q I h;refine pX (pl:=pl) (Zb (he kR s σ H _ I h) λu s1 ⟨x,H1,I1,rx,a,dx,fs,ex,ea,l,q⟩=>?_) ht;subst ex;obtain rfl:u=Value.ref a:=rx;refine Fu I1 ea c hm l ?_;refine rP (first:=[.ref a]) (h₀:=X.base) I.ok.mod.kin hm.kp (Zb (ha pos kR s1 σ H1 _ I1 q) λus s2 ⟨vs,H2,I2,r,q2⟩=>⟨I2.kIn,?_⟩) hst jp
 exact Kt (us:=.ref a::us) (vs:=.ref a::vs) F hr hb hd hx I2 (.cons rfl r) q2
def ZLo{pl:Sem Bool}(he:PE X o ta)(c:Va X.K C)(hm:QS X.K C m f)(F:ZK X.prog X.w X.K X.mg X.base CX k f fd ps sp)(hr:Zf k X.A)(hb:Zz X.K fd ps ds)(hd:ZR js ds)(hx:Qg CX X E)(ht:aF (.Call (.Attribute o m jm) [] [] pos) X.env=(do
   let ov<-aF o X.env
   standAt jm.atName
   let (f,first)<-holding [ov] (getMethod ov m pl)
   callWith pos f first (aE pos (aw [] X.env)) (backToKw pos (keywordEach [] X.env))):=by rfl):
  PE X (.Call (.Attribute o m jm) [] [] pos) (ML C m sp js E ta Uu):=by
 intro kR s σ H Q I h;refine pX (pl:=pl) (Zb (he kR s σ H _ I h) λu s1 ⟨x,H1,I1,rx,a,dx,fs,ex,ea,l,q⟩=>?_) ht;subst ex;obtain rfl:u=Value.ref a:=rx;refine Fu I1 ea c hm l ?_;exact zEC (first:=[.ref a]) I1.kIn hm.kp (Kt (us:=[.ref a]) (vs:=[.ref a]) F hr hb hd hx I1 (.cons rfl .nil) q)
structure Mk(K:zZ)(C f:aj):Prop where
 makes:uG K C=true
 init:yT K (.ref C) "__init__" = some (some (.ref f))
 fn:vV K (.ref f)=true
 kp:xZ K (.ref C)=true
def Hi{kR:jO}{σ:St}{H:Hp}{s:am}{Q:VK}{us:jg}{vs:jh}(M:Mk X.K C f)(F:ZK X.prog X.w X.K X.mg X.base CX k f fd ps sp)(hr:Zf (k+1) X.A)(hb:Zz X.K fd ps ds)(hd:ZR js ds)(hx:Qg CX X E)(I:ZJ X kR σ H s)(r:ZR vs us)(h:∀ x dx,H x=none->H dx=none->dx≠x->sp (.ref x::(vs++js)) (upd (upd H dx (.own x)) x (.ins C dx [])) (λv H2=>v=.non/\Q (.ref x) H2) E):
  aC (aB X.prog X.w) X.A (call (.ref C) us) (EP X kR σ Q) X.xe s:=by
 let hq:=h (s.heap.objs.size+1) s.heap.objs.size (I.hok.fresh (tJ _)) (I.hok.fresh (zX _)) (yN (uI _));let I2:=ZJ.made (C:=C) I;let r2:ZR (V.ref (s.heap.objs.size+1)::(vs++js)) (Value.ref (s.heap.objs.size+1)::(us++ds)):=.cons Z (r.append hd);let hl:(Value.ref (s.heap.objs.size+1)::us++ds).length=ps.length:=by
  let e:=r2.length;rw[F.len _ _ _ _ hq] at e;exact e.symm
 refine wpAny_call (ZLg (f:=f) I.kIn M.makes M.init (beq_iff_eq.mp M.fn) (codeAny_mono (F.run _ X.stack _ _ ⟨Value.ref (s.heap.objs.size+1)::us,[]⟩ (Value.ref (s.heap.objs.size+1)::(us++ds)) _ _ E (hr.make C us [])
  (I2.env0.make C us []) (hb _ (Value.ref (s.heap.objs.size+1)::us) I2.kIn hl) r2 hq) λr s' hq'=>?_))
 cases r with
 | error e=>exact hx kR σ _ _ e s' I2 hq'
 | ok fl=>
  cases fl with
  | ret u=>
   let⟨v,H',I3,rv,ev,q3⟩:=I2.after hq';subst ev;exact⟨rv,⟨V.ref (s.heap.objs.size+1),H',I3,Z,q3⟩⟩
  | next=>exact False.elim hq'
  | brk=>exact False.elim hq'
  | cont=>exact False.elim hq'
def Fj(M:Mk X.K C f)(F:ZK X.prog X.w X.K X.mg X.base CX k f fd ps sp)(hr:Zf (k+1) X.A)(hg:Gl X x)(hm:X.mg x=some (.ref C))(hb:Zz X.K fd ps ds)(hd:ZR js ds)(hx:Qg CX X E)(ha:PA X (e::es) t)(jy:(x==("__debug__" : Str))=false:=by decide)(he:aw (e::es) X.env=(false,aF e X.env)::aw es X.env:=by rfl)(jp:(aE pos (aw es X.env)).any (·.1)=false:=by rfl):
  PE X (.Call (.Name x p) (e::es) [] pos) (Nc C sp js E t):=by
 intro kR s σ H Q I h;refine ag (MY I hg hm ?_ jy);refine rP (h₀:=X.base) I.ok.mod.kin M.kp (Zb (ha pos kR s σ H _ I h) λus s1 ⟨vs,H1,I1,r,q⟩=>⟨I1.kIn,?_⟩) he jp;exact Hi M F hr hb hd hx I1 r q
def Av(M:Mk X.K C f)(F:ZK X.prog X.w X.K X.mg X.base CX k f fd ps sp)(hr:Zf (k+1) X.A)(hg:Gl X x)(hm:X.mg x=some (.ref C))(hb:Zz X.K fd ps ds)(hd:ZR js ds)(hx:Qg CX X E)(jy:(x==("__debug__" : Str))=false:=by decide):PE X (.Call (.Name x p) [] [] pos) (Nc C sp js E Uu):=by
 intro kR s σ H Q I h;refine ag (MY I hg hm ?_ jy);exact zEC I.kIn M.kp (Hi (us:=[]) M F hr hb hd hx I .nil h)
end
def PK(X:Cx)(kws:List Keyword)(t:TA):Prop:=
 ∀(pos:Pos)(kR:jO)(s:am)(σ:St)(H:Hp)(Q:jh->Hp->Prop),ZJ X kR σ H s->t σ H Q->aC (aB X.prog X.w) X.A (evalAll ((backToKw pos (keywordEach kws X.env)).map (·.2))) (AP X kR σ Q) X.xe s
section
variable{CX:Vg}{k:Nat}{f C:aj}{fd:ap}{ps ks:jP}{sp:Sp}{E:XK}{x m:Str}{p pos jm kpos:Pos}{e o:Expr}{es:jU}{kws:List Keyword}{te ta:TE}{t tk:TA}{nm:Option Str}
def ZPp:PK X [] Uu:=λ_ _ _ _ H Q I h=>wpAny_evalAll_nil ⟨[],H,I,.nil,h⟩
def ZOQ(ha:PE X e te)(hr:PK X kws t):PK X (⟨nm,e,kpos⟩::kws) (Wu te t):=by
 intro pos kR s σ H Q I h;show aC _ _ (evalAll ((do let v<-aF e X.env;standAt pos;pure v)::(backToKw pos (keywordEach kws X.env)).map (·.2))) _ _ s
 refine wpAny_evalAll_cons (aa (Zb (ha kR s σ H _ I h) λu s1 ⟨x,H1,I1,r1,q1⟩=>aa (wpAny_standAt (ad ?_))));exact Zb (hr pos kR s1 σ H1 _ I1 q1) λus s2 ⟨xs,H2,I2,r2,q2⟩=>⟨x::xs,H2,I2,.cons r1 r2,q2⟩
variable{g:jg->jg->jg}{gV:jh->jh->jh}
end
structure ZB(N P:jP)(sc:Scope):Prop where
 kind:sc.kind=.function
 co:sc.isCoroutine=false
 gen:sc.isGenerator=false
 nd:N.Nodup
 pre:N.take P.length=P
 par:∀ x∈P,sc.names.lookup x=some .local\/sc.names.lookup x=some .cell
 nofree:∀ y∈sc.names,y.2≠.free
def D6{kindOf:Str->Option NameKind}{x:Str}:∀{binds:ku}{m:jd},(∀ v,(x,v)∉binds)->bindL kindOf binds m x=m x
 | [],_,_=>rfl
 | (n,v)::r,m,h=>by
  unfold bindL;rw[D6 λw hw=>h w (zJ _ hw)];split
  ·have:x≠n:=by rintro rfl;exact h v zO
   simp[this]
  ·rfl
def Eo{kindOf:Str->Option NameKind}{x:Str}:∀{binds:ku}{m:jd},(∀ v,(x,v)∉binds)->bindC kindOf binds m x=m x
 | [],_,_=>rfl
 | (n,v)::r,m,h=>by
  unfold bindC;rw[Eo λw hw=>h w (zJ _ hw)];split
  ·rfl
  ·have:x≠n:=by rintro rfl;exact h v zO
   simp[this]
def ER{kindOf:Str->Option NameKind}{x:Str}{v:ai}:∀{P:jP}{vs:jg}{i:Nat}{m:jd},P.Nodup->P[i]? = some x->vs[i]? = some v->kindOf x=some .local ->
  bindL kindOf (P.zip vs) m x=some v
 | [],_,_,_,_,h,_,_=>by simp at h
 | _::_,[],_,_,_,_,h,_=>by simp at h
 | p::P,w::vs,0,m,nd,h1,h2,hk=>by
  simp at h1 h2;subst h1;subst h2;show bindL kindOf ((p,w)::P.zip vs) m p=_;unfold bindL;rw[D6 λv hv=>(xO.mp nd).1 (sL hv).1,aK hk];simp
 | p::P,w::vs,i+1,m,nd,h1,h2,hk=>by
  show bindL kindOf ((p,w)::P.zip vs) m x=_;unfold bindL;exact ER (i:=i) (xO.mp nd).2 (by simpa using h1) (by simpa using h2) hk
def F3{kindOf:Str->Option NameKind}{x:Str}{v:ai}:∀{P:jP}{vs:jg}{i:Nat}{m:jd},P.Nodup->P[i]? = some x->vs[i]? = some v->kindOf x≠some .local ->
  bindC kindOf (P.zip vs) m x=some v
 | [],_,_,_,_,h,_,_=>by simp at h
 | _::_,[],_,_,_,_,h,_=>by simp at h
 | p::P,w::vs,0,m,nd,h1,h2,hk=>by
  simp at h1 h2;subst h1;subst h2;show bindC kindOf ((p,w)::P.zip vs) m p=_;unfold bindC;rw[Eo λv hv=>(xO.mp nd).1 (sL hv).1,aJ hk];simp
 | p::P,w::vs,i+1,m,nd,h1,h2,hk=>by
  show bindC kindOf ((p,w)::P.zip vs) m x=_;unfold bindC;exact F3 (i:=i) (xO.mp nd).2 (by simpa using h1) (by simpa using h2) hk
def Qq(N:jP)(vs:jh):St:=vs.map some++xI (N.length-vs.length) none
def Pm(CX:Vg)(P:ao)(w:ax)(K:zZ)(mg:jd)(kT:aD)(N:jP)(qual:Str)(scope:Scope)(f:aj)(cd:ai)(A:ay)(outer:kg)(s:am)(H:Hp)(E:XK):Cx where
 prog:=P
 w:=w
 K:=K
 mg:=mg
 base:=kT
 A:=A.deeper (envOfC qual scope s.heap.objs.size f cd)
 N:=N
 s₀:=s
 H₀:=H
 env:=envOfC qual scope s.heap.objs.size f cd
 outer:=outer
 stack:=envOfC qual scope s.heap.objs.size f cd::outer
 ex:=[]
 calm:=true
 fn:=λ_=>true
 pn:=[]
 xe:=λe s'=>aC (aB P w) (A.deeper (envOfC qual scope s.heap.objs.size f cd)) (leaving (envOfC qual scope s.heap.objs.size f cd) e) (λ_ s''=>CX outer H s E e s'') (λe' s''=>CX outer H s E e' s'') s'
def Dw{sc:Scope}{n:Nat}{x:Str}(h:sc.names.lookup x=some .cell):∃ c,(cellsFrom n sc.names []).lookup x=some c:=by
 let q:=pT sc.names n [] (.inl h);exact qW.mp q
def Bp{CX:Vg}{P:ao}{w:ax}{K:zZ}{mg:jd}{kT:aD}{N ps:jP}{qual:Str}{scope:Scope}{f:aj}{cd:ai}{A:ay}{outer:kg}{s s1:am}{H:Hp}{E:XK}{us:jg}{vs:jh}(S:ZB N ps scope)(hd:A.handled=none)(e0:Vj P w K mg kT A outer s H)(hl:vs.length=ps.length)(r:ZR vs us)(x:InCallC s s.heap.objs.size (bindL (envOfC qual scope s.heap.objs.size f cd).kindOf (ps.zip us) λ_=>none) (cellsFrom (s.heap.objs.size+1) scope.names []) (bindC (envOfC qual scope s.heap.objs.size f cd).kindOf (ps.zip us) λ_=>none) s1):
  ZJ (Pm CX P w K mg kT N qual scope f cd A outer s H E) [] (Qq N vs) H s1:=by
 let jp:ps.length<=N.length:=by have:=congrArg xC S.pre;rw[yK] at this;lia
 let⟨h1,tk,rfl,hk⟩:=x.done;let noA:∀ b:aj,b∉(Pm CX P w K mg kT N qual scope f cd A outer s H E).ex:=λb z=>absurd (show b∈([]:jR) from z) (by simp)
 refine⟨⟨e0.mod,S.kind,Z,Z,zX _,λy z c h1 h2=>?_,λy hy=>?_,λy c _ h=>?_,λ_=>hd,Around.frames_deeper e0.frames,.inr ⟨Z,Z⟩,λb z=>absurd z (noA b),e0.bs,e0.bsz,λb _ _=>noA b,λb z=>absurd z (noA b),e0.funs,e0.frf⟩,
  Z,e0.bare,Un.kept hk,⟨_,x.toInCall.ns,λi y v h1 h2 h3=>?_⟩,λy c h=>⟨_,x.cell y c h⟩,e0.hok.fresh (zX _),λy c h=>?_,λp hp=>absurd (show p∈([]:jO) from hp) (by simp),e0.hok.kept hk,?_⟩
 ·exact name_of_addr x.apart (PySem.mem_of_lookup h1) (PySem.mem_of_lookup h2)
 ·let hy:scope.names.lookup y=some .cell\/scope.names.lookup y=some .free:=hy;rcases hy with hy | hy
  ·exact Dw hy
  ·exact absurd Z (S.nofree _ (PySem.mem_of_lookup hy))
 ·exact yV (x.above y c (PySem.mem_of_lookup h))
 ·let hi:i<vs.length:=by
   unfold Qq at h2;by_cases hi:i<vs.length
   ·exact hi
   ·rw[wZ (by simpa using hi)] at h2
    rw[List.getElem?_replicate] at h2;split at h2 <;> cases h2
  let ha:vs[i]? = some v:=by
   unfold Qq at h2;rw[xA (by simpa using hi),zC] at h2
   cases e:vs[i]? with
   | none=>rw[e] at h2;cases h2
   | some a=>rw[e] at h2;cases h2;rfl
  let⟨u,hu,rv⟩:=r.get ha;let hp:ps[i]? = some y:=by
   rw[<-S.pre,uO (by lia)];exact h1
  let ndP:ps.Nodup:=by rw[<-S.pre];exact S.nd.sublist (List.take_sublist _ _)
  exists u,rv;rcases S.par y (zG hp) with k | k
  ·exact .inl ⟨k,ER ndP hp hu k⟩
  ·let⟨c,e⟩:=Dw (n:=s.heap.objs.size+1) k;refine .inr ⟨.inl k,c,e,?_⟩;let q:=x.cell y c e;rw[F3 ndP hp hu (by show scope.names.lookup y≠_;rw[k];decide)] at q
   exact q
 ·exact e0.hok.fresh (yV (x.above y c (PySem.mem_of_lookup h)))
 ·unfold Qq;show _=N.length;rw[zT,zY,List.length_replicate];lia
def F8{CX:Vg}{P:ao}{w:ax}{K:zZ}{mg:jd}{kT:aD}{k:Nat}{f:aj}{name qual:Str}{params:Arguments}{body:List Stmt}{scope:Scope}{dV kV doc pm cdv ct oc:ai}{an od:jY}{jD:Array (jf)}{N ps:jP}{sp:Sp}(lk:K.lookup f=some ⟨oc,od,.func (yF name qual params body scope dV kV doc pm an cdv ct),jD⟩)(jA:wN K cdv qual=true)(S:ZB N ps scope)(len:∀ vs H Q E,sp vs H Q E->vs.length=ps.length)(jr:∀ (A:ay) (outer:kg) (s:am) (H:Hp) (vs:jh) (Q:VK) (E:XK),Zf k (A.deeper (envOfC qual scope s.heap.objs.size f cdv))->sp vs H Q E ->
   ∃ t,VV (Pm CX P w K mg kT N qual scope f cdv A outer s H E) body t/\t { nx:=λ_ H'=>Q .non H',rt:=Q } (Qq N vs) H):
  ZK P w K mg kT CX (k+1) f (yF name qual params body scope dV kV doc pm an cdv ct) ps sp:=by
 refine⟨len,λA outer s H args us vs Q E hr e0 hb r jC=>?_⟩;let hl:=len _ _ _ _ jC;let KX:K.In s.heap:=e0.mod.kin.keeps λb o e=>(e0.bs b o e).1;let lim:s.heap.NoLimit:=e0.mod.nolimit.keeps λb o e=>(e0.bs b o e).1;let jw:∀ y∈ps.zip us,scope.names.lookup y.1=some .local\/(scope.names.lookup y.1=some .cell/\((cellsFrom (s.heap.objs.size+1) scope.names []).lookup y.1).isSome=true):=λ⟨n,v⟩ hy=>by
  rcases S.par n (sL hy).1 with q | q
  ·exact .inl q
  ·exact .inr ⟨q,pT _ _ _ (.inl q)⟩
 refine codeAny_call_function hr.depth (KX _ _ lk) Z S.co S.gen Z (PySem.W.codeRec_of KX jA) (hb _ _ _ _ ?_);refine wpAny_newFunctionEnv_cells S.kind jw λenv he s1 x=>?_;subst he;refine⟨lim.keeps x.toInCall.keep,codeAny_func ?_⟩;let⟨t,ht,hq⟩:=jr A outer s H vs Q E (hr.deeper _) jC;let I:ZJ (Pm CX P w K mg kT N qual scope f cdv A outer s H E) [] (Qq N vs) H s1:=Bp S hr.hd e0 hl r x;refine ae (ht [] s1 (Qq N vs) H _ I hq) (λfl s' hs=>?_) λe s' hs=>hs;let fin:∀{σ':St}{H':Hp}{v:V}{u:ai},ZJ (Pm CX P w K mg kT N qual scope f cdv A outer s H E) [] σ' H' s'->ZT v u->Q v H'->CE outer P w H s Q u s':=
  fun{σ' H' v u} J rv q=>⟨v,H',J.os,J.bare,J.base,J.hok,rv,q⟩
 cases fl with
 | ret u=>
  let⟨v,σ',H',J,rv,q⟩:=hs;exact fin J rv q
 | next=>
  let⟨σ',H',J,q⟩:=hs;exact fin (v:=V.non) (u:=Value.none) J Z q
 | brk=>
  let⟨_,_,_,q⟩:=hs;exact False.elim q
 | cont=>
  let⟨_,_,_,q⟩:=hs;exact False.elim q
section
variable{x:Str}{p pos:Pos}{e:Expr}{es:jU}{t:TA}{id T:String}{r:jh->Hp->VK->Prop}
def Ig(r:jh->Hp->VK->Prop)(t:TA):TE:=λσ H Q=>t σ H λvs H1=>r vs H1 Q
def Zv(hc:Wg X (.builtin id) r)(hg:Gl X x)(hm:X.mg x=none)(hv:az x=some (.builtin id))(ha:PA X (e::es) t)(hn:x ≠ "__name__" :=by decide)(jy:(x==("__debug__" : Str))=false:=by decide)(he:aw (e::es) X.env=(false,aF e X.env)::aw es X.env:=by rfl)(jp:(aE pos (aw es X.env)).any (·.1)=false:=by rfl):PE X (.Call (.Name x p) (e::es) [] pos) (Ig r t):=by
 intro kR s σ H Q I h;refine ag (Pe I hg hm hv ?_ hn jy);exact PyProof.Rows.callWith_builtin1 (Zb (ha pos kR s σ H _ I h) λus s1 ⟨vs,H1,I1,r1,q1⟩=>hc kR s1 σ H1 vs us Q I1 r1 q1) he jp
def Ws(hc:Wg X (.type T) r)(hg:Gl X x)(hm:X.mg x=none)(hv:az x=some (.type T))(ha:PA X (e::es) t)(hn:x ≠ "__name__" :=by decide)(jy:(x==("__debug__" : Str))=false:=by decide)(he:aw (e::es) X.env=(false,aF e X.env)::aw es X.env:=by rfl)(jp:(aE pos (aw es X.env)).any (·.1)=false:=by rfl):PE X (.Call (.Name x p) (e::es) [] pos) (Ig r t):=by
 intro kR s σ H Q I h;refine ag (Pe I hg hm hv ?_ hn jy);exact PyProof.Rows.callWith_type1 (Zb (ha pos kR s σ H _ I h) λus s1 ⟨vs,H1,I1,r1,q1⟩=>hc kR s1 σ H1 vs us Q I1 r1 q1) he jp
end
end L2
variable{X:L2.Cx}{prog P:ao}{w:ax}{A:ay}{E:ja}{s:am}{K:zZ}{mg:jd}{f:aj}{fd:ap}{kT:aD}
namespace HT
open PySem PyProof.Rows
def rcLt_int(A:ay)(s:am)(a:Int)(t:Tok)(c:Int)(u:Tok)(prog:ao)(w:ax)(E Q:ja)(h:Q (.bool (decide (a<c))) s):
  aC (aB prog w) A (richCompare .Lt (.int a t) (.int c u)) Q E s:=
 (PyProof.Rows.lt_int h:aC (aB prog w) A (aA .Lt (.int a t) (.int c u)) Q E s)
section
open PySem.SeqAt
open PySem.AutoSeq1 (wpAny_loadPart')
open PySem.MeetsSeq PySem.MeetsSeq2 PySem.MeetsSeq3
end
def sIx(n d:Nat):jZ->Nat
 | none=>d
 | some v=>if v<0 then (v+(n:Int)).toNat else min v.toNat n
def sIx_nat(n d k:Nat):sIx n d (some (k:Int))=min k n:=by
 show (if (k:Int)<0 then ((k:Int)+(n:Int)).toNat else min (k:Int).toNat n)=min k n
 rw[aJ (by lia),vL]
end HT
namespace L2
open PySem PySem.Spec PyProof.Rows
abbrev TO:=St->Hp->(jZ->Hp->Prop)->Prop
def PO(X:Cx)(e:Option Expr)(t:TO):Prop:=
 ∀(kR:jO)(s:am)(σ:St)(H:Hp)(Q:jZ->Hp->Prop),ZJ X kR σ H s->t σ H Q ->
  aC (aB X.prog X.w) X.A (evalPart e X.env) (λu s'=>∃ o H',ZJ X kR σ H' s'/\IsPart u o/\Q o H') X.xe s
inductive OO(Q:jZ->Hp->Prop)(x:V)(H1:Hp):Prop
 |mk(i:_)(_:x=.int i)(_:Q (some i) H1)
def KS(t:TE):TO:=λσ H Q=>t σ H λx H1=>OO Q x H1
def ZIU{ns:jX}:∀{us:jg},ZR (ns.map V.int) us->IntsAre us ns:=by
 induction ns with
 | nil=>intro us r;rw[uK] at r;cases r;exact .nil
 | cons n ns ih=>
  intro us r;rw[zB] at r
  cases r with
  | cons r1 r2=>
   let⟨t,e⟩:=r1;subst e;exact .cons n t (ih r2)
section
variable{e:Expr}{te:TE}{lo hi:Option Expr}{tl th:TO}{pos p2:Pos}
def O4(h:PE X e te):PO X (some e) (KS te):=by
 intro kR s σ H Q I hw;rw[evalPart_some];refine Zb (h kR s σ H _ I hw) λu s1 ⟨x,H1,I1,r1,q1⟩=>?_;let⟨i,rfl,q⟩:=q1;let⟨t,rfl⟩:=r1;exact⟨some i,H1,I1,.int i t,q⟩
def HC(X:Cx)(r:V->jZ->jZ->Hp->VK->Prop):Prop:=
 ∀(kR:jO)(s:am)(σ:St)(H:Hp)(x:V)(v vl vu:ai)(lo hi:jZ)(sl:aj)(Q:VK),ZJ X kR σ H s->ZT x v->s.heap.IsSliceOf sl vl vu .none->IsPart vl lo->IsPart vu hi->r x lo hi H Q ->
  ∃ T id,typeLookup (.type T) "__getitem__" = pure (some (.builtin id))/\s.TypeIs v T/\aC (aB X.prog X.w) X.A (getItem v (.ref sl)) (EP X kR σ Q) X.xe s
def Dz(r:V->jZ->jZ->Hp->VK->Prop)(te:TE)(tl th:TO):TE:=λσ H Q=>te σ H λx H1=>tl σ H1 λl H2=>th σ H2 λu H3=>r x l u H3 Q
def IU{r:V->jZ->jZ->Hp->VK->Prop}(hr:HC X r)(he:PE X e te)(hl:PO X lo tl)(hu:PO X hi th):PE X (.Subscript e (.Slice lo hi none p2) pos) (Dz r te tl th):=by
 intro kR s σ H Q I h;refine Subscript_ (Zb (he kR s σ H _ I h) λv s1 ⟨x,H1,I1,r1,q1⟩=>?_);refine wpAny_Slice (Zb (hl kR s1 σ H1 _ I1 q1) λvl s2 ⟨l,H2,I2,pl,q2⟩=>Zb (hu kR s2 σ H2 _ I2 q2) λvu s3 ⟨u,H3,I3,pu,q3⟩=>?_);rw[evalPart_none];refine ad ?_;let I4:ZJ X kR σ H3 { s3 with heap:=s3.heap.push { cls:=.type "slice",data:=.fields #[vl,vu,.none] } }:=I3.kept (t':=s3.toks) λb ob q=>zD _ q;let⟨T,id,hT,ht,hg⟩:=hr kR { s3 with heap:=s3.heap.push { cls:=.type "slice",data:=.fields #[vl,vu,.none] } } σ H3 x v vl vu l u s3.heap.objs.size Q I4 r1 (Heap.IsSliceOf.new ..) pl pu q3;show aC (aB X.prog X.w) X.A (subscriptTail e (.Slice lo hi none p2) v (.ref s3.heap.objs.size)) (EP X kR σ Q) X.xe { s3 with heap:=s3.heap.push { cls:=.type "slice",data:=.fields #[vl,vu,.none] } };exact tail_any (ops:=[.ref s3.heap.objs.size,v]) ht hT hg (by with_unfolding_all rfl)
def Pj(xs:jh)(lo hi:jZ):jh:=(xs.drop (HT.sIx xs.length 0 lo)).take (HT.sIx xs.length xs.length hi-HT.sIx xs.length 0 lo)
def ZGa(xs:jh)(lo hi:jZ):(Pj xs lo hi).length<=xs.length:=by
 unfold Pj;rw[yK,xR];lia
end
def QR(n:Nat)(i:Int):jQ:=if 0<=i then (if i<n then some i.toNat else none) else if -(n:Int)<=i then some (i+n).toNat else none
def VD{α:Type}(xs:List α)(i:Int):Option α:=(QR xs.length i).bind λj=>xs[j]?
def Fa{n:Nat}{i:Int}{j:Nat}(h:QR n i=some j):seqIndex? i n=some j/\j<n /\ -(n:Int)<=i/\i<n:=by
 unfold QR at h;by_cases h0:0<=i
 ·rw[aK h0] at h;by_cases h1:i<n
  ·rw[aK h1] at h;let e:i.toNat=j:=yL.inj h;exact⟨by rw[seqIndex_of h0 h1,e],by lia,by lia,h1⟩
  ·rw[aJ h1] at h;cases h
 ·rw[aJ h0] at h;by_cases h1 : -(n:Int)<=i
  ·rw[aK h1] at h;let e:(i+n).toNat=j:=yL.inj h;exact⟨by rw[seqIndex_neg (by lia) h1,e],by lia,h1,by lia⟩
  ·rw[aJ h1] at h;cases h
def IK{α:Type}{xs:List α}{i:Int}{v:α}(h:VD xs i=some v):∃ j,seqIndex? i xs.length=some j/\xs[j]? = some v/\j<xs.length /\ -(xs.length:Int)<=i/\i<xs.length:=by
 unfold VD at h
 cases e:QR xs.length i with
 | none=>rw[e] at h;cases h
 | some j=>
  rw[e] at h;let⟨h1,h2,h3,h4⟩:=Fa e;exact⟨j,h1,h,h2,h3,h4⟩
def Yj{α:Type}{xs:List α}{j:Nat}{v:α}(h:xs[j]? = some v):VD xs (j:Int)=some v:=by
 let hj:j<xs.length:=(yY.mp h).1;let e:QR xs.length (j:Int)=some j:=by
  unfold QR;rw[aK (by lia),aK (by lia)];simp
 unfold VD;rw[e];exact h
def G7{α:Type}(xs:List α)(v:α):VD (xs++[v]) (-1)=some v:=by
 let hl:(xs++[v]).length=xs.length+1:=by simp
 let e:QR (xs++[v]).length (-1)=some xs.length:=by
  unfold QR;rw[hl,aJ (by decide),aK (by lia)]
  congr 1
  lia
 unfold VD;rw[e];show (xs++[v])[xs.length]? = some v;simp
def BA(b:Expr):Prop:=∀ o i,subscripted b false o i=operate [o,i] (getItem o i)
def Q8(X:Cx)(r:R2):Prop:=
 ∀(value slice:Expr)(kR:jO)(s:am)(σ:St)(H:Hp)(x y:V)(v u:ai)(Q:VK),ZJ X kR σ H s->ZT x v->ZT y u->r x y H Q ->
  subscripted slice false v u=operate [v,u] (getItem v u)->aC (aB X.prog X.w) X.A (subscriptTail value slice v u) (EP X kR σ Q) X.xe s
def KH(X:Cx)(id:String)(r:V->jh->Hp->VK->Prop):Prop:=
 ∀(kR:jO)(s:am)(σ:St)(H:Hp)(x:V)(xs:jh)(v:ai)(us:jg)(Q:VK),ZJ X kR σ H s->ZT x v->ZR xs us->r x xs H Q ->
  aC (aB X.prog X.w) X.A (call (.builtin id) (v::us)) (EP X kR σ Q) X.xe s
section
variable{a b:Expr}{ta tb:TE}{pos:Pos}
def Q8.or{r r':R2}(h:Q8 X r)(h':Q8 X r'):Q8 X (λx y H Q=>r x y H Q\/r' x y H Q):=by
 intro value slice kR s σ H x y v u Q I rx ry q hs;rcases q with q | q
 ·exact h value slice kR s σ H x y v u Q I rx ry q hs
 ·exact h' value slice kR s σ H x y v u Q I rx ry q hs
def Za{r:R2}(hr:Q8 X r)(ha:PE X a ta)(hb:PE X b tb)(hs:BA b):PE X (.Subscript a b pos) (M3 r ta tb):=by
 intro kR s σ H Q I h;exact Subscript_ (Jt ha hb I h λv u s2 x y H2 I2 rx ry q=>hr a b kR s2 σ H2 x y v u Q I2 rx ry q (hs _ _))
inductive N5(K:zZ)(x y:V)(H:Hp)(Q:VK):Prop
 |mk(p xs i v:_)(_:x=.ref p)(_:y=.int i)(_:ZI K H p xs)(_:VD xs i=some v)(_:Q v H)
inductive Zp(K:zZ)(x y:V)(H:Hp)(Q:VK):Prop
 |mk(p xs i v:_)(_:x=.ref p)(_:y=.int i)(_:Zd K H p xs)(_:VD xs i=some v)(_:Q v H)
inductive NW(x y:V)(H:Hp)(Q:VK):Prop
 |mk(z i c:_)(_:x=.str z)(_:y=.int i)(_:z.length<=ar)(_:VD z.cps.toList i=some c)(_:Q (.str ⟨#[c]⟩) H)
def Zy:Q8 X (N5 X.K):=by
 intro value slice kR s σ H x y v u Q I rx ry h hs;let⟨p,xs,i,z,rfl,rfl,hq,he,q⟩:=h;cases rx;let⟨t,rfl⟩:=ry;let⟨jk,r,pl,hz⟩:=I.list hq;let⟨j,h1,h2,h3,h4,h5⟩:=IK he;let⟨w,ew,rw'⟩:=r.get h2;let hl:=r.length;let hn:=OP;let fin:EP X kR σ Q w s:=⟨z,H,I,rw',q⟩;by_cases h0:0<=i
 ·let hj:i.toNat=j:=by
   rw[seqIndex_of h0 h5] at h1;exact yL.inj h1
  exact item_listR pl.isList h0 (by lia) (by rw[hj];simpa using ew) fin hs
 ·let hj:(i+(jk.toArray.size:Int)).toNat=j:=by
   rw[seqIndex_neg (by lia) h4] at h1
   rw[zM,<-hl];exact yL.inj h1
  exact subscriptTail_builtinR (x:=w) pl.isList.typeIs slot_list_getitem.lookup
   (wpAny_getItem_list_neg (Q:=λr s'=>r=w/\EP X kR σ Q r s') pl.isList (by lia) (by rw[zM] <;> lia) (by lia) (by rw[hj];simpa using ew) ⟨rfl,fin⟩) hs
def ZM:Q8 X (Zp X.K):=by
 intro value slice kR s σ H x y v u Q I rx ry h hs;let⟨p,xs,i,z,rfl,rfl,hq,he,q⟩:=h;cases rx;let⟨t,rfl⟩:=ry;let⟨jk,r,pl,hz⟩:=I.tuple hq;let⟨j,h1,h2,h3,h4,h5⟩:=IK he;let⟨w,ew,rw'⟩:=r.get h2;let hl:=r.length;let hn:=OP;let fin:EP X kR σ Q w s:=⟨z,H,I,rw',q⟩;exact subscriptTail_builtinR (x:=w) pl.typeIs slot_tuple_getitem.lookup
  (getItem_tuple (j:=j) (Q:=λr s'=>r=w/\EP X kR σ Q r s') pl (by lia) (by lia) (by rw[zM,<-hl];exact h1) (by simpa using ew) ⟨rfl,fin⟩) hs
def NO:Q8 X NW:=by
 intro value slice kR s σ H x y v u Q I rx ry h hs;let⟨z,i,c,rfl,rfl,hz,he,q⟩:=h;let⟨t,rfl⟩:=rx;let⟨t',rfl⟩:=ry;let⟨j,h1,h2,h3,h4,h5⟩:=IK he;let hl:z.cps.toList.length=z.length:=by simp[vE]
 rw[hl] at h1 h4 h5;let hn:=OP;exact tail_any (typeIs_str s z t) slot_str_getitem.lookup (getItem_str (c:=c) (by
  let e1:decide (i < -(2 ^ 63:Int))=false:=aH (by lia)
  let e2:decide (i ≥ 2 ^ 63)=false:=aH (by lia)
  rw[e1,e2,Bool.or_false]) (by rw[h1];simpa using h2) ⟨.str ⟨#[c]⟩,H,I.tok _,⟨_,Z⟩,q⟩) hs
def YE(K:zZ):R2:=λx y H Q=>N5 K x y H Q\/Zp K x y H Q\/NW x y H Q
def YH:Q8 X (YE X.K):=Zy.or (ZM.or NO)
def ZIE(jk:jg)(n j:Nat)(u:ai):Obj.mapSeq (·.setIfInBounds j u) { cls:=.type "list",data:=.seq jk.toArray n }={ cls:=.type "list",data:=.seq (jk.set j u).toArray n }:=by
 simp[Obj.mapSeq]
def ZJ.lst{kR:jO}{σ:St}{H:Hp}{s:am}{p:aj}{xs:jh}(I:ZJ X kR σ H s)(h:H p=some (.lst xs)):
  ∃(jk:jg)(n:Nat),ZR xs jk/\s.heap.get? p=some { cls:=.type "list",data:=.seq jk.toArray n }/\xs.length<=sizeLine:=by
 let⟨z,jk,n,r,e⟩:=I.hok p _ h;exact⟨jk,n,r,e,z⟩
def ZJ.lstUpd{kR:jO}{σ:St}{H:Hp}{s:am}{p:aj}{xs ys:jh}{jk its':jg}{n n':Nat}{f:aG->aG}(I:ZJ X kR σ H s)(h:H p=some (.lst xs))(ho:s.heap.get? p=some { cls:=.type "list",data:=.seq jk.toArray n })(hf:f { cls:=.type "list",data:=.seq jk.toArray n }={ cls:=.type "list",data:=.seq its'.toArray n' })(r:ZR ys its')(hz:ys.length<=ar)(t:Nat):
  ZJ X kR σ (upd H p (.lst ys)) { s with heap:=s.heap.update p f,toks:=t }:=by
 let e:(s.heap.update p f).get? p=some { cls:=.type "list",data:=.seq its'.toArray n' }:=by
  rw[tF f ho (by rw[hf] <;> rfl),hf]
 refine I.write (x:=p) (e:=p) (by rw[h];trivial) (.inl rfl) (λb u hb q=>(zEI _ _ (Ne.symm hb)).trans q) ⟨_,e⟩ ?_
 exact⟨hz,its',n',r,e⟩
inductive O8(o i v:V)(H:Hp)(Q:Hp->Prop):Prop
 |mk(p xs k j:_)(_:o=.ref p)(_:i=.int k)(_:H p=some (.lst xs))(_:QR xs.length k=some j)(_:Q (upd H p (.lst (xs.set j v))))
def Iw:GN X O8:=by
 intro kR s σ H o i v ov iv u Q I ro ri rv h;let⟨p,xs,k,j,rfl,rfl,hp,hj,q⟩:=h;cases ro;let⟨t,rfl⟩:=ri;let⟨jk,n,r,ho,hz⟩:=I.lst hp;let⟨h1,h2,h3,h4⟩:=Fa hj;let hl:=r.length;let hn:=OP;let I':ZJ X kR σ (upd H p (.lst (xs.set j v))) { s with heap:=s.heap.update p (Obj.mapSeq (·.setIfInBounds j u)) }:=
  I.lstUpd hp ho (ZIE jk n j u) (r.set rv j) (by rw[List.length_set];exact hz) s.toks
 by_cases h0:0<=k
 ·let hk:k.toNat=j:=by
   rw[seqIndex_of h0 h4] at h1;exact yL.inj h1
  exact PySem.W.ki_setAt ho h0 (by lia) (by rw[zM,<-hl];exact h4) (by rw[hk];exact⟨_,I',q⟩)
 ·let hk:(k+(jk.toArray.size:Int)).toNat=j:=by
   rw[seqIndex_neg (by lia) h3] at h1
   rw[zM,<-hl];exact yL.inj h1
  exact PySem.W.ki_setBack ho (by lia) (by rw[zM,<-hl];exact h3) (by lia) (by rw[hk];exact⟨_,I',q⟩)
def Ba(lo hi:jZ)(n:Nat):(sliceBounds lo hi none n).1=((HT.sIx n 0 lo:Nat):Int)/\(sliceBounds lo hi none n).2.1=((HT.sIx n n hi:Nat):Int)/\(sliceBounds lo hi none n).2.2=1:=by
 refine⟨?_,?_,Z⟩
 ·cases lo with
  | none=>simp[sliceBounds,HT.sIx]
  | some i=>
   simp only[sliceBounds,HT.sIx,Option.getD_none,show (1:Int) > 0 by decide,if_true]
   by_cases h:i<0
   ·simp only[h,if_true] <;> lia
   ·simp only[h,if_false] <;> lia
 ·cases hi with
  | none=>simp[sliceBounds,HT.sIx]
  | some i=>
   simp only[sliceBounds,HT.sIx,Option.getD_none,show (1:Int) > 0 by decide,if_true]
   by_cases h:i<0
   ·simp only[h,if_true] <;> lia
   ·simp only[h,if_false] <;> lia
def ZEm(jk:jg)(lo hi:jZ):slicePick jk.toArray lo hi none=((jk.drop (HT.sIx jk.length 0 lo)).take (HT.sIx jk.length jk.length hi-HT.sIx jk.length 0 lo)).toArray:=by
 let⟨h1,h2,h3⟩:=Ba lo hi jk.toArray.size;unfold slicePick;rw[h1,h2,h3];simp only[sliceRange_one,pick_run,zM] <;> rfl
inductive MC(K:zZ)(x:V)(lo hi:jZ)(H:Hp)(Q:VK):Prop
 |mk(a xs:_)(_:x=.ref a)(_:ZI K H a xs)(_:∀ p,H p=none->Q (.ref p) (upd H p (.lst (Pj xs lo hi))))
def Co:HC X (MC X.K):=by
 intro kR s σ H x v vl vu lo hi sl Q I rx hs pl pu h;let⟨a,xs,rfl,hx,q⟩:=h;cases rx;let⟨jk,r,ht,hz⟩:=I.list hx;let hlen:=r.length;exists "list",_,slot_list_getitem.lookup,ht.isList.typeIs;refine wpAny_getItem_list_slice ht.isList hs pl pu .none (by simp) ?_ (by rw[zM] <;> lia)
 rw[ZEm,<-hlen];refine⟨.ref s.heap.objs.size,_,I.laid (t':=s.toks) (o:=.lst (Pj xs lo hi)) (λb ob q=>zD _ q) (zX _) ?_,Z,q _ (I.hok.fresh (zX _))⟩;exact⟨zK (ZGa xs lo hi) hz,_,0,(r.drop (HT.sIx xs.length 0 lo)).take (HT.sIx xs.length xs.length hi-HT.sIx xs.length 0 lo),yP _ Z⟩
def UI:V->Bool
 | .non=>true
 | .bl _=>true
 | .int _=>true
 | .str _=>true
 | _=>false
def Vp:V->V->Bool
 | .non,.non=>true
 | .bl a,.bl b=>a==b
 | .bl a,.int b=>(if a then 1 else 0)==b
 | .int a,.bl b=>a==(if b then 1 else 0)
 | .int a,.int b=>a==b
 | .str a,.str b=>a==b
 | _,_=>false
def Gq{A:ay}{s:am}{y x:V}{u v:ai}(ry:ZT y u)(rx:ZT x v)(fy:UI y=true)(fx:UI x=true):SeqAt.EqAt A s u v (Vp y x):=by
 cases y with
 | non=>
  cases ry
  cases x with
  | non=>cases rx;exact SeqAt.EqAt.same _
  | bl b=>cases rx;exact SeqAt.EqAt.none_bool b
  | int b=>let⟨t,rfl⟩:=rx;exact SeqAt.EqAt.none_int b t
  | str b=>let⟨t,rfl⟩:=rx;exact SeqAt.EqAt.none_str b t
  | _=>exact absurd (show false=true from fx) zS
 | bl a=>
  cases ry
  cases x with
  | non=>cases rx;exact SeqAt.EqAt.bool_none a
  | bl b=>cases rx;exact SeqAt.EqAt.bool_bool a b
  | int b=>let⟨t,rfl⟩:=rx;exact SeqAt.EqAt.bool_int a b t
  | str b=>let⟨t,rfl⟩:=rx;exact SeqAt.EqAt.bool_str a b t
  | _=>exact absurd (show false=true from fx) zS
 | int a=>
  let⟨t',rfl⟩:=ry
  cases x with
  | non=>cases rx;exact SeqAt.EqAt.int_none a t'
  | bl b=>cases rx;exact SeqAt.EqAt.int_bool a t' b
  | int b=>let⟨t,rfl⟩:=rx;exact SeqAt.EqAt.int_int a t' b t
  | str b=>let⟨t,rfl⟩:=rx;exact SeqAt.EqAt.int_str a t' b t
  | _=>exact absurd (show false=true from fx) zS
 | str a=>
  let⟨t',rfl⟩:=ry
  cases x with
  | non=>cases rx;exact SeqAt.EqAt.str_none a t'
  | bl b=>cases rx;exact SeqAt.EqAt.str_bool a t' b
  | int b=>let⟨t,rfl⟩:=rx;exact SeqAt.EqAt.str_int a t' b t
  | str b=>let⟨t,rfl⟩:=rx;exact SeqAt.EqAt.str_str a t' b t
  | _=>exact absurd (show false=true from fx) zS
 | _=>exact absurd (show false=true from fy) zS
def Vd(x:V)(u:ai):Bool:=match u with
 | .none=>Vp .non x
 | .bool b=>Vp (.bl b) x
 | .int i _=>Vp (.int i) x
 | .str z _=>Vp (.str z) x
 | _=>false
def My{x y:V}{u:ai}(r:ZT y u)(f:UI y=true):Vd x u=Vp y x:=by
 cases y with
 | non=>cases r;rfl
 | bl b=>cases r;rfl
 | int i=>let⟨t,rfl⟩:=r;rfl
 | str z=>let⟨t,rfl⟩:=r;rfl
 | _=>exact absurd (show false=true from f) zS
def NR{x:V}:∀{xs:jh}{us:jg},ZR xs us->xs.all UI=true->us.any (Vd x)=xs.any λy=>Vp y x
 | _,_,.nil,_=>rfl
 | y::xs,u::us,.cons r t,f=>by
  rw[vN,zP] at f;rw[uZ,uZ,My r f.1,NR t f.2]
def Nb{A:ay}{s:am}{x:V}{v:ai}(rx:ZT x v)(fx:UI x=true):∀{xs:jh}{us:jg},ZR xs us->xs.all UI=true->∀ u∈us,SeqAt.EqAt A s u v (Vd x u)
 | _,_,.nil,_=>λu hu=>by cases hu
 | y::xs,u::us,.cons r t,f=>λu' hu=>by
  rw[vN,zP] at f;rcases zI.mp hu with rfl | hu
  ·rw[My r f.1];exact Gq r rx f.1 fx
  ·exact Nb rx fx t f.2 u' hu
def Pf(x:V)(xs:jh):Bool:=xs.any λy=>Vp y x
inductive Kn(K:zZ)(neg:Bool)(x y:V)(H:Hp)(Q:VK):Prop
 |mk(p xs:_)(_:y=.ref p)(_:ZI K H p xs\/Zd K H p xs)(_:UI x=true)(_:xs.all UI=true)(_:Q (.bl (if neg then !Pf x xs else Pf x xs)) H)
def ZKP:Y7 X (aA .In) (Kn X.K false):=by
 intro kR s σ H x y v u Q I rx ry h;let⟨p,xs,rfl,hq,fx,fs,q⟩:=h;cases ry;rcases hq with hq | hq
 ·let⟨jk,r,pl,hz⟩:=I.list hq;refine SeqAt.in_listAt (Vd x) pl.isList (λw hw=>Nb rx fx r fs w (by simpa using hw)) ⟨.bl _,H,I,Z,?_⟩
  rw[show jk.toArray.any (Vd x)=jk.any (Vd x) by simp,NR r fs]
  exact q
 ·let⟨jk,r,pl,hz⟩:=I.tuple hq;refine SeqAt.in_tupleAt (Vd x) pl (λw hw=>Nb rx fx r fs w (by simpa using hw)) ⟨.bl _,H,I,Z,?_⟩
  rw[show jk.toArray.any (Vd x)=jk.any (Vd x) by simp,NR r fs]
  exact q
def Ds:Y7 X (aA .NotIn) (Kn X.K true):=by
 intro kR s σ H x y v u Q I rx ry h;let⟨p,xs,rfl,hq,fx,fs,q⟩:=h;cases ry;rcases hq with hq | hq
 ·let⟨jk,r,pl,hz⟩:=I.list hq;refine SeqAt.notIn_listAt (Vd x) pl.isList (λw hw=>Nb rx fx r fs w (by simpa using hw)) ⟨.bl _,H,I,Z,?_⟩
  rw[show jk.toArray.any (Vd x)=jk.any (Vd x) by simp,NR r fs]
  exact q
 ·let⟨jk,r,pl,hz⟩:=I.tuple hq;refine SeqAt.notIn_tupleAt (Vd x) pl (λw hw=>Nb rx fx r fs w (by simpa using hw)) ⟨.bl _,H,I,Z,?_⟩
  rw[show jk.toArray.any (Vd x)=jk.any (Vd x) by simp,NR r fs]
  exact q
inductive Wl(K':zZ)(xs:jh)(H:Hp)(Q:VK):Prop
 |mk(p ys:_)(_:xs=[.ref p])(_:ZI K' H p ys\/Zd K' H p ys)(_:Q (.int ys.length) H)
def Yk:Wg X (.builtin "len") (Wl X.K):=by
 intro kR s σ H xs us Q I r h;let⟨p,ys,rfl,hq,q⟩:=h;let⟨u,rfl,rx⟩:=Wk r;cases rx;let hn:=OP;rcases hq with hq | hq
 ·let⟨jk,r',pl,hz⟩:=I.list hq;let hlen:=r'.length;exact Calls.call_len_list pl.isList (by simp only[zM] <;> lia) ⟨.int ys.length,H,I.tok _,⟨s.toks+1,by rw[zM,hlen]⟩,q⟩
 ·let⟨jk,r',pl,hz⟩:=I.tuple hq;let hlen:=r'.length;exact len_tuple pl (by simp only[zM] <;> lia) ⟨.int ys.length,H,I.tok _,⟨s.toks+1,by rw[zM,hlen]⟩,q⟩
inductive WY(xs:jh)(H:Hp)(Q:VK):Prop
 |mk(z:_)(_:xs=[.str z])(_:z.length<=ar)(_:Q (.int z.length) H)
def Hl:Wg X (.builtin "len") (WY):=by
 intro kR s σ H xs us Q I r h;let⟨z,rfl,hz,q⟩:=h;let⟨u,rfl,t,rfl⟩:=Wk r;let hn:=OP;exact len_str (by lia) ⟨.int z.length,H,I.tok _,⟨_,Z⟩,q⟩
inductive WZ(K':zZ)(xs:jh)(H:Hp)(Q:VK):Prop
 |mk(p ys:_)(_:xs=[.ref p])(_:ZI K' H p ys\/Zd K' H p ys)(_:∀ l,H l=none->Q (.ref l) (upd H l (.lst ys)))
def O5:Wg X (.type "list") (WZ X.K):=by
 intro kR s σ H xs us Q I r h;let⟨p,ys,rfl,hq,q⟩:=h;let⟨u,rfl,rx⟩:=Wk r;cases rx;let fin:∀(jk:jg),ZR ys jk->ys.length<=ar->∀(h':aD)(c':Nat),(∀ b o',s.heap.get? b=some o'->h'.get? b=some o') ->
   h'.get? s.heap.objs.size=some { cls:=.type "list",dict:=none,data:=.seq jk.toArray c',slots:=#[] }->EP X kR σ Q (.ref s.heap.objs.size) { s with heap:=h' }:=λjk r' hz h' c' kp e=>
  ⟨.ref s.heap.objs.size,_,I.laid (t':=s.toks) kp (zX _) (show Zj X.prog X.w _ h' _ (.lst ys) from ⟨hz,jk,c',r',e⟩),rfl,q _ (I.hok.fresh (zX _))⟩
 rcases hq with hq | hq
 ·let⟨jk,r',pl,hz⟩:=I.list hq;let hlen:=r'.length;let⟨o,ho,hc,n,hd⟩:=pl.isList;exact call_list_seq p (.inl rfl) ho hc hd (λh' c' kp e=>fin jk r' hz h' c' kp e) (by simp only[zM] <;> lia)
 ·let⟨jk,r',pl,hz⟩:=I.tuple hq;let hlen:=r'.length;let⟨o,ho,hc,n,hd⟩:=pl;exact call_list_seq p (.inr rfl) ho hc hd (λh' c' kp e=>fin jk r' hz h' c' kp e) (by simp only[zM] <;> lia)
inductive WB(K':zZ)(xs:jh)(H:Hp)(Q:VK):Prop
 |mk(p ys:_)(_:xs=[.ref p])(_:(ZI K' H p ys/\∀ l,H l=none->Q (.ref l) (upd H l (.tup ys)))\/(Zd K' H p ys/\Q (.ref p) H))
def Ou:Wg X (.type "tuple") (WB X.K):=by
 intro kR s σ H xs us Q I r h;let⟨p,ys,rfl,h⟩:=h;let⟨u,rfl,rx⟩:=Wk r;cases rx;rcases h with ⟨hq,q⟩ | ⟨hq,q⟩
 ·let⟨jk,r',pl,hz⟩:=I.list hq;let hlen:=r'.length;refine call_tuple_list pl.isList (λh' kp=>?_) (by simp only[zM] <;> lia)
  let I1:ZJ X kR σ H { s with heap:=h' }:=I.kept (t':=s.toks) kp;let I2:ZJ X kR σ (upd H h'.objs.size (.tup ys)) { s with heap:=h'.push { cls:=.type "tuple",data:=.seq jk.toArray } }:=
   I1.laid (t':=s.toks) (λb o e=>zD _ e) (zX _) (show Zj X.prog X.w _ _ _ (.tup ys) from ⟨hz,jk,r',IsTup.new _ _⟩)
  exact⟨.ref h'.objs.size,_,I2,Z,q _ (I1.hok.fresh (zX _))⟩
 ·let⟨jk,r',pl,hz⟩:=I.tuple hq;exact call_tuple_same pl ⟨.ref p,H,I,Z,q⟩
def Gj(K:zZ)(T:String)(x:V)(H:Hp):Prop:=match x with
 | .str _=>T = "str"
 | .int _=>T = "int"
 | .ref p=>(T = "list" /\ ∃ xs,ZI K H p xs)\/(T = "tuple" /\ ∃ o,K.lookup p=some o/\o.cls=.type "tuple" /\ o.dict=none) \/
   (T = "dict" /\ ((∃ kvs,H p=some (.dK kvs))\/∃ kvs,H p=some (.dT kvs)))\/(T = "set" /\ ∃ S n,H p=some (.set S n))
 | _=>False
def Bu{kR:jO}{σ:St}{H:Hp}{s:am}{T:String}{x:V}{v:ai}(I:ZJ X kR σ H s)(r:ZT x v)(ty:Gj X.K T x H):
  s.TypeIs v T/\∀ a,v=.ref a->∃ ob,s.heap.get? a=some ob/\ob.dict=none:=by
 cases x with
 | str z=>
  let⟨t,rfl⟩:=r;cases(show T = "str" from ty);exact⟨typeIs_str s z t,λ_ e=>nomatch e⟩
 | int i=>
  let⟨t,rfl⟩:=r;cases(show T = "int" from ty);exact⟨typeIs_int s i t,λ_ e=>nomatch e⟩
 | ref p=>
  cases r;rcases ty with ⟨rfl,xs,hq⟩ | ⟨rfl,o,hk,hc,hd⟩ | ⟨rfl,hk⟩ | ⟨rfl,S,n,hk⟩
  ·let⟨jk,_,pl,_⟩:=I.list hq;refine⟨pl.isList.typeIs,λa e=>?_⟩;cases e;let⟨o,n,e,c,hd,_⟩:=pl;exact⟨o,e,hd⟩
  ·refine⟨⟨o,I.kIn p o hk,hc⟩,λa e=>?_⟩;cases e;exact⟨o,I.kIn _ o hk,hd⟩
  ·let z:∃ o,s.heap.get? p=some o/\o.ExactDict:=by
    rcases hk with ⟨kvs,hk⟩ | ⟨kvs,hk⟩
    ·let⟨_,_,_,_,o,_,_,e,ex,_⟩:=I.hok p _ hk;exact⟨o,e,ex⟩
    ·let⟨_,_,_,_,o,_,_,e,ex,_⟩:=I.hok p _ hk;exact⟨o,e,ex⟩
   let⟨o,e,ex⟩:=z;refine⟨⟨o,e,ex.1⟩,λa e2=>?_⟩;cases e2;exact⟨o,e,ex.2.1⟩
  ·let⟨o,_,_,_,e,ex,_⟩:=I.hok p _ hk;refine⟨⟨o,e,ex.1⟩,λa e2=>?_⟩;cases e2;exact⟨o,e,ex.2.1⟩
 | _=>exact False.elim ty
def BJ(K:zZ)(T:String)(r:V->jh->Hp->VK->Prop)(to:TE)(t:TA):TE:=λσ H Q=>to σ H λx H1=>Gj K T x H1/\t σ H1 λxs H2=>r x xs H2 Q
variable{o e:Expr}{es:jU}{to:TE}{t:TA}{name:Str}{jm jo:Pos}{T id:String}{r:V->jh->Hp->VK->Prop}
def WW(pa:PlainAttrs T)(slot:Slot T name id)(hty:typeOf (.builtin id)=pure (.type "method_descriptor"))(hm:KH X id r)(ho:PE X o to)(ha:PA X (e::es) t)(jG:attributeBase o name X.env (aF o X.env)=aF o X.env:=by rfl)(hfew:((aE jo (aw (e::es) X.env)).all (λx=>!x.1)&&(backToKw jo (keywordEach [] X.env)).all (λx=>x.1.isSome)
   && decide ((e::es).length+([]:List Keyword).length+(if ([]:List Keyword).isEmpty then 0 else 1)<30))=true:=by rfl)(jH:(jm.endLine==jo.line)=true:=by rfl)(hs:aw (e::es) X.env=(false,aF e X.env)::aw es X.env:=by rfl)(jz:(aE jo (aw es X.env)).any (·.1)=false:=by rfl):
  PE X (.Call (.Attribute o name jm) (e::es) [] jo) (BJ X.K T r to t):=by
 intro kR s σ H Q I h;refine wpAny_Call_method_late jG hfew jH Z (Zb (ho kR s σ H _ I h) λv s1 ⟨x,H1,I1,r1,ty,q1⟩=>?_);let⟨h1,h2⟩:=Bu I1 r1 ty;exists T,id,pa,slot,hty,h1,h2;let hA:=ha jo kR s1 σ H1 _ I1 q1;rw[hs] at hA⊢;refine Calls.callWith_builtin (by show (false || (aE jo (aw es X.env)).any (·.1))=false;rw[jz] <;> rfl) (Calls.evalArgs_plain ?_)
 exact Zb hA λus s2 ⟨vs,H2,I2,r2,q2⟩=>hm kR s2 σ H2 x vs v us Q I2 r1 r2 q2
end
def Nz(X:Cx)(id:String)(r:V->jh->Hp->VK->Prop):Prop:=
 ∀(kR:jO)(s:am)(σ:St)(H:Hp)(x:V)(xs:jh)(v:ai)(us:jg)(Q:VK),ZJ X kR σ H s->ZT x v->ZR xs us->r x xs H Q ->
  aC (aB X.prog X.w) X.A (call (.builtin id) (v::us)) (EP X kR σ Q) X.xe s
def ZR.one:∀{x:V}{us:jg},ZR [x] us->∃ u,us=[u]/\ZT x u
 | _,_,.cons r .nil=>⟨_,Z,r⟩
def ZR.two:∀{x y:V}{us:jg},ZR [x,y] us->∃ u v,us=[u,v]/\ZT x u/\ZT y v
 | _,_,_,.cons r (.cons q .nil)=>⟨_,_,Z,r,q⟩
section
variable{kR:jO}{σ:St}{H:Hp}{l b:aj}{xs ys zs:jh}
def ZJ.lset{jk its':jg}{n:Nat}{f:jV->jV}{t':Nat}(I:ZJ X kR σ H s)(hH:H l=some (.lst xs))(e:s.heap.get? l=some { cls:=.type "list",data:=.seq jk.toArray n })(hf:f jk.toArray=its'.toArray)(hv:ZR ys its')(hz:ys.length<=ar):
  ZJ X kR σ (upd H l (.lst ys)) { s with heap:=s.heap.update l (Obj.mapSeq f),toks:=t' }:=by
 let q:=PySem.IsL.update e f;rw[hf] at q;refine I.write (x:=l) (e:=l) (by rw[hH];exact trivial) (.inl rfl) (λb' u hb hu=>(zEI s.heap (Obj.mapSeq f) (Ne.symm hb)).trans hu) ⟨_,q⟩ ?_
 exact⟨hz,its',_,hv,q⟩
def ZJ.lnew{jk:jg}{t':Nat}(I:ZJ X kR σ H s)(hv:ZR ys jk)(hz:ys.length<=ar):
  ZJ X kR σ (upd H s.heap.objs.size (.lst ys)) { s with heap:=s.heap.push { cls:=.type "list",data:=.seq jk.toArray },toks:=t' }:=
 I.laid (λ_ _ q=>zD _ q) (zX _) ⟨hz,jk,0,hv,yP _ rfl⟩
def ZJ.fresh(I:ZJ X kR σ H s):H s.heap.objs.size=none:=I.hok.fresh (zX _)
def ZJ.lstM(I:ZJ X kR σ H s)(hH:H l=some (.lst xs)):xs.length<=ar/\∃(jk:jg)(n:Nat),ZR xs jk/\xs.length=jk.length/\s.heap.get? l=some { cls:=.type "list",data:=.seq jk.toArray n }:=by
 let⟨z,jk,n,r,e⟩:=I.hok l _ hH;exact⟨z,jk,n,r,r.length,e⟩
def C0{n:Nat}(h:n<=ar):Builtin.List.listTooLong n=false:=by
 unfold Builtin.List.listTooLong;exact aH (by lia)
end
inductive PH(x:V)(vs:jh)(H:Hp)(Q:VK):Prop
 |mk(l xs y:_)(_:x=.ref l)(_:vs=[y])(_:H l=some (.lst xs))(_:xs.length<ar)(_:Q .non (upd H l (.lst (xs++[y]))))
def Qh:Nz X "list.append" PH:=by
 intro kR s σ H x vs v us Q I rx rv h;let⟨l,xs,y,rfl,rfl,hH,hz,q⟩:=h;cases rx;let⟨u,rfl,ru⟩:=rv.one;let⟨z,jk,n,r,hl,e⟩:=I.lstM hH;refine call_meets F.slot_list_append ⟨_,e,Z⟩ F.entry_list_append (F.args_list_append_2 _ _) (PySem.list_append l jk.toArray n u (by rw[zM];lia)) ⟨e,?_⟩
 refine⟨.non,_,I.lset (its':=jk++[u]) hH e (by simp) (r.append (.cons ru .nil)) ?_,Z,q⟩
 rw[zT,vP];lia
inductive Q0(x:V)(vs:jh)(H:Hp)(Q:VK):Prop
 |mk(l b xs zs:_)(_:x=.ref l)(_:vs=[.ref b])(_:H l=some (.lst xs))(_:H b=some (.lst zs))(_:xs.length+zs.length<=ar)(_:Q .non (upd H l (.lst (xs++zs))))
def Dk:Nz X "list.extend" Q0:=by
 intro kR s σ H x vs v us Q I rx rv h;let⟨l,b,xs,zs,rfl,rfl,hH,hB,hz,q⟩:=h;cases rx;let⟨u,rfl,ru⟩:=rv.one;cases ru;let⟨z,jk,n,r,hl,e⟩:=I.lstM hH;let⟨z2,its2,n2,r2,hl2,e2⟩:=I.lstM hB;let hsz:jk.toArray.size+its2.toArray.size<=sizeLine:=by rw[zM,zM];lia
 let hlong:¬ (!jk.toArray.isEmpty&&Builtin.List.listTooLong (jk.toArray.size+its2.toArray.size))=true:=by
  rw[C0 hsz,Bool.and_false];exact zS
 refine call_meets F.slot_list_extend ⟨_,e,Z⟩ F.entry_list_extend (F.args_list_extend_2 _ _)
  (AutoSeq1.list_extend_list_list_0 l jk.toArray n b its2.toArray n2 hlong (by rw[zM];lia) (by lia)) ⟨e,e2,?_⟩
 refine⟨.non,_,I.lset (its':=jk++its2) hH e (by simp) (r.append r2) ?_,Z,q⟩
 rw[zT];lia
inductive JJ(x y:V)(H:Hp)(Q:VK):Prop
 |mk(l b xs zs:_)(_:x=.ref l)(_:y=.ref b)(_:H l=some (.lst xs))(_:H b=some (.lst zs))(_:xs.length+zs.length<=ar)(_:∀ p,H p=none->Q (.ref p) (upd H p (.lst (xs++zs))))
def O9:Y7 X (binaryOp .Add) JJ:=by
 intro kR s σ H x y v u Q I rx ry h;let⟨l,b,xs,zs,rfl,rfl,hH,hB,hz,q⟩:=h;cases rx;cases ry;let⟨z,jk,n,r,hl,e⟩:=I.lstM hH;let⟨z2,its2,n2,r2,hl2,e2⟩:=I.lstM hB;refine PySem.P.add_list e e2 ?_ (by rw[zM,zM];lia)
 let ea:jk.toArray++its2.toArray=(jk++its2).toArray:=by simp
 rw[ea];exact⟨.ref _,_,I.lnew (t':=s.toks) (r.append r2) (by rw[zT];lia),Z,q _ I.fresh⟩
end L2
namespace Att
open PySem PySem.W PySem.Calls PyProof.Rows
def BB{P:Params}{h:aD}:∀(ns:jX)(vs:jg),WellAll P h vs (ns.map WData.int)->IntsAre vs ns:=by
 intro ns
 induction ns with
 | nil=>
  intro vs w;rw[uK] at w;cases w;exact .nil
 | cons n ns ih=>
  intro vs w;rw[zB] at w
  cases w with
  | cons a b=>
   cases a;exact .cons _ _ (ih _ b)
def AU{l:OpenLaw}{n:Nat}(hn:l.most=some n){P:Params}{h:aD}{args:List WData}{vals:jg}(hpre:l.row.toRowW.claim.pre args=true)(hwl:WellAll P h vals args):
  ∃ a vs ns,vals=[Value.ref a]/\args=[WData.list (ns.map WData.int)]/\h.get? a=some { cls:=.type "list",data:=.seq vs.toArray }/\IntsAre vs ns/\ns.length<=n:=by
 let hsh:WShape.hasAll [] args [.list .int]=true:=(pre_splitW hpre).1;let hc:l.pre.holds [] { args:=args }=true:=(pre_splitW hpre).2;let⟨d,r,rfl,h1,h2⟩:=hasAllW_cons hsh;obtain rfl:=hasAllW_nil h2;let⟨xs,rfl,h3⟩:=hasW_list h1;let⟨ns,rfl⟩:=items_int h3;let hlen:ns.length<=n:=by
  unfold OpenLaw.pre at hc;let h4:(WTm.not (.lt (.lit (.int (n:Int))) (.len (.arg 0)))).holds [] { args:=[.list (ns.map .int)] }=true:=by
   let h4:=(holds_andW hc).1;rw[hn] at h4;exact h4
  let h5:=condW_of h4 (w_not (w_lt w_lit (w_len_list (w_arg rfl))));rw[zY] at h5;refine wU λq=>?_;let q':(n:Int)<((ns.length:Nat):Int):=by lia
  first
   | (rw[aI q'] at h5;exact absurd h5 (by decide))
   | (simp at h5;lia)
 cases hwl with
 | cons w1 w2=>
  cases w2
  cases w1 with
  | list ho hall=>exact⟨_,_,ns,Z,Z,ho,BB ns _ hall,hlen⟩
def ZJv(l:OpenLaw)(args:List WData):l.row.toRowW.claim.post args (.bool true) args=true:=
 postW_of (r:=l.row.toRowW) (X:=(true==true))
  (show WShape.has [] (.bool true) .bool=true by first | rfl | decide | simp[WShape.has,WShape.arms,WShape.armsAll])
  (show (WTm.eq .res (.lit (.bool true))).value [] { args:=args,res:=some (.bool true),after:=args }=some (.bool (true==true)) from w_eq_bool (w_res rfl) w_lit) rfl
def attach_call{l:OpenLaw}{n:Nat}{q:ao}{loose:jP}{XP:(jd)->aD->Prop}{YP:ax->aD->Prop}{d:DefRec}(hn:l.most=some n)(hdf:d.params.defaults=[])(call:∀ (w:ax) (s₀ s₁:am) (mg mb:jd) (fa:aj) (o:aG) (pm cd doc:ai) (a:aj) (vs:jg) (ns:jX),
   Ground q loose [] XP w s₀ mg mb s₁.heap->YP w s₁.heap ->
   s₁.heap.get? fa=some o->o.data=.func (docDef d.name d.params d.body d.scope pm cd doc)->s₁.heap.CodeRec cd d.name->mg d.name=some (.ref fa) ->
   s₁.heap.get? a=some { cls:=.type "list",data:=.seq vs.toArray }->IntsAre vs ns->ns.length<=n->s₁.gens=#[] ->
   codeAny (aB l.prog w) callerA (.call (.ref fa) ⟨[.ref a],[]⟩) (λr s'=>r=.ok (.ret (.bool true))/\OldK s₁.heap s'.heap/\s'.os=s₁.os/\AllBare s'.gens) s₁):
  WalkO q loose XP YP l.row.toRowW d [] (λf vs=>PySem.call f vs):=by
 intro w s₀ s₁ mg mb G Y fa o pm cd doc dV kV ho hd jA hD hmg hg args vals as hpre hlay hrd hwl hlo;obtain rfl:dV=.none:=Dflts.none hD hdf;obtain rfl:kV=.none:=Dflts.noKw hD;let⟨a,vs,ns,rfl,rfl,hobj,hints,hlen⟩:=AU hn hpre hwl;refine enter_call (codeAny_mono (call w s₀ s₁ mg mb fa o pm cd doc a vs ns G Y ho (fd_plain hd) jA hmg hobj hints hlen hg) λr s' hq=>?_);let⟨rfl,h2,h3,h4⟩:=hq;exact⟨.inl ⟨.bool true,.bool true,[],Z,λ_=>rfl,.bool true,ZJv l _,λ_=>⟨zEB.nil,λ_ hm=>(nomatch hm)⟩⟩,h2,h3,h4⟩
section
variable{K:Frag}
def ZRH(h:aD)(L d:aj):jO:=(zF h.objs.size).filterMap λa=>if a=L\/a=d then none else (h.get? a).map λo=>(a,o)
end
end Att
namespace L2
open PySem PySem.Spec PyProof.Rows
def HH:∀{vs:jg}{ns:jX},IntsAre vs ns->ZR (ns.map V.int) vs
 | _,_,.nil=>.nil
 | _,_,.cons n t h=>.cons ⟨t,Z⟩ (HH h)
def Ia(H:Hp):Prop:=∀ b,H b=none\/∃ o xs,H b=some (.frz o (.lst xs))
def ZMC{P:ao}{w:ax}{K:zZ}{mg mb:jd}{CX:Vg}{k:Nat}{fa a:aj}{fd:ap}{x:Str}{sp:Sp}{s₁:am}{vs:jg}{ns:jX}(KX:K.In s₁.heap)(hns:s₁.heap.Ns aq mg)(hb:s₁.heap.Ns builtinsNs mb)(hbb:∀ x:Str,x ≠ "__name__"->mb x=az x)(hlim:s₁.heap.NoLimit)(hg:s₁.gens=#[])(ha:s₁.heap.get? a=some { cls:=.type "list",data:=.seq vs.toArray })(hi:IntsAre vs ns)(hl:ns.length<=ar)(hr:Zf k callerA)(F:∀ kT:aD,K.In kT->kT.Ns aq mg->ZK P w K mg kT CX k fa fd [x] sp)(hbind:∀ (s:am) (u:ai),BindsTo s fd ⟨[u],[]⟩ [(x,u)])(jC:∀ H:Hp,Ia H->ZI K H a (ns.map V.int)->sp [.ref a] H (λv _=>v=.bl true) λ_ _ _=>False)(hCX:∀ H e s',CX [] H s₁ (λ_ _ _=>False) e s'->False):
  codeAny (aB P w) callerA (.call (.ref fa) ⟨[.ref a],[]⟩) (λr s'=>r=.ok (.ret (.bool true))/\OldK s₁.heap s'.heap/\s'.os=s₁.os/\AllBare s'.gens) s₁:=by
 let rv:=HH hi;let lenV:=hi.length;let core:∀ H:Hp,Ia H->ZI K H a (ns.map V.int)->XL P w H s₁.heap->(∀ b,H b≠none->b=a)->(H a≠none->K.lookup a=none) ->
   codeAny (aB P w) callerA (.call (.ref fa) ⟨[.ref a],[]⟩) (λr s'=>r=.ok (.ret (.bool true))/\OldK s₁.heap s'.heap/\s'.os=s₁.os/\AllBare s'.gens) s₁:=by
  intro H hO hS hok hA hK;let base_of:∀{b:aj}{o:aG},s₁.heap.get? b=some o->H b=none->(Q3 s₁.heap H).get? b=some o:=λe n=>ZLD e n;let noA:∀{b:aj}{o:aG}{es:Array DictEntry}{ep:Nat},s₁.heap.get? b=some o->o.data=.dict es ep->H b=none:=fun{b o es ep} e d=>by
   cases q:H b with
   | none=>rfl
   | some u=>
    let e':b=a:=hA b (by rw[q];simp)
    subst e';rw[ha] at e;cases e;let d':Data.seq vs.toArray _=Data.dict es ep:=d;cases d'
  let nsK:∀{b:aj}{m:jd},s₁.heap.Ns b m->(Q3 s₁.heap H).Ns b m:=fun{b m} ⟨o,es,ep,e,d,r⟩=>⟨o,es,ep,base_of e (noA e d),d,r⟩;let hKb:K.In (Q3 s₁.heap H):=λb o e=>base_of (KX b o e) (by
   cases q:H b with
   | none=>rfl
   | some u=>
    let e':b=a:=hA b (by rw[q];simp)
    subst e';rw[hK (by rw[q];simp)] at e;cases e)
  let hM:Mod K mg (Q3 s₁.heap H):=⟨hKb,nsK hns,⟨mb,nsK hb,hbb⟩,let ⟨mc,h1,h2⟩:=hlim;⟨mc,nsK h1,h2⟩⟩;let e0:Vj P w K mg (Q3 s₁.heap H) callerA [] s₁ H:=⟨Z,hM,λb o e=>ZNS e,tQ (ZJw _ _),trivial,λb hb=>absurd (show b∈([]:jR) from hb) (by simp),hok,.of_eq hg⟩
  refine codeAny_mono ((F _ hKb (nsK hns)).run callerA [] s₁ H ⟨[.ref a],[]⟩ [.ref a] [.ref a] _ _ hr e0 (hbind s₁ (.ref a)) (.cons rfl .nil) (jC H hO hS)) λr s' h=>?_
  cases r with
  | error e=>exact(hCX H e s' h).elim
  | ok fl=>
   cases fl with
   | next=>exact False.elim h
   | brk=>exact False.elim h
   | cont=>exact False.elim h
   | ret u=>
    let⟨v,H',os,bare,un,hok',r',q⟩:=h;let q':v=.bl true:=q;subst q';obtain rfl:u=Value.bool true:=r';refine⟨Z,OldK.of_keep λb o e=>?_,os,bare⟩
    cases q:H b with
    | none=>exact un.keep b o e q (by intro z;exact absurd (show b∈([]:jR) from z) (by simp)) (by simp)
    | some u=>
     rcases hO b with z | ⟨ob,xs,z⟩
     ·rw[q] at z;cases z
     ·let z2:=un.frzs b ob _ z;let⟨e1,_⟩:=hok b _ z;let⟨e2,_⟩:=hok' b _ z2;rw[e] at e1;cases e1;exact e2
 cases hk:K.lookup a with
 | some o=>
  let e:=KX a o hk;rw[ha] at e;cases e;refine core (λ_=>none) (λ_=>.inl Z) (.inr ⟨_,vs.toArray,_,hk,rfl,rfl,rfl,by rw[zM,lenV];exact hl,by simpa using rv⟩) (λb u z=>by let z':(none:Option HO)=some u:=z;cases z') (λb z=>absurd Z z) λz=>absurd Z z
 | none=>
  refine core (λb=>if b=a then some (.frz { cls:=.type "list",data:=.seq vs.toArray } (.lst (ns.map V.int))) else none) (λb=>?_) (.inl (.inr ⟨{ cls:=.type "list",data:=.seq vs.toArray },aK rfl⟩)) (λb u z=>?_) (λb z=>?_) λ_=>hk
  ·by_cases hb:b=a
   ·exact .inr ⟨_,_,aK hb⟩
   ·exact .inl (aJ hb)
  ·by_cases hb:b=a
   ·let z':=(aK hb).symm.trans z;cases z';subst hb;exact⟨ha,by rw[zY];exact hl,vs,_,rv,ha⟩
   ·let z':=(aJ hb).symm.trans z;cases z'
  ·by_cases hb:b=a
   ·exact hb
   ·exact absurd (aJ hb) z
abbrev KOf{K:zZ}{h:aD}(_:K.In h):zZ:=K
def LB{l:sG}{n k:Nat}{q:ao}{loose:jP}{XP:(jd)->aD->Prop}{YP:ax->aD->Prop}{d:DefRec}{K:Params->zZ}{CX:ax->Vg}{sp:ax->Sp}{x:Str}(hn:l.most=some n)(hn2:n<=ar)(hdf:d.params.defaults=[])(hr:Zf k callerA)(hY:∀ (w:ax) (h:aD),YP w h->(K w.params).In h)(F:∀ (w:ax) (mg:jd) (fa:aj) (h:aD),(K w.params).In h->h.Ns aq mg->mg d.name=some (.ref fa) ->
   ∃ fd:ap,(∀ (s:am) (u:ai),BindsTo s fd ⟨[u],[]⟩ [(x,u)]) /\
    ∀ kT:aD,(K w.params).In kT->kT.Ns aq mg->ZK l.prog w (K w.params) mg kT (CX w) k fa fd [x] (sp w))(jC:∀ (w:ax) (H:Hp) (a:aj) (ns:jX),ns.length<=n->Ia H->ZI (K w.params) H a (ns.map V.int)->sp w [.ref a] H (λv _=>v=.bl true) λ_ _ _=>False)(hCX:∀ (w:ax) (H:Hp) (s:am) (e:ai) (s':am),CX w [] H s (λ_ _ _=>False) e s'->False):
  PySem.W.WalkO q loose XP YP l.row.toRowW d [] (λf vs=>PySem.call f vs):=by
 refine Att.attach_call hn hdf λw s₀ s₁ mg mb fa o pm cd doc a vs ns G Y ho hd jA hmg hobj hints hlen hg=>?_;let KX:=hY w _ Y;let⟨fd,hb,hF⟩:=F w mg fa _ KX G.T.g hmg;exact ZMC KX G.T.g G.T.b G.T.builtins G.T.nolimit hg hobj hints (zK hlen hn2) hr hF hb (λH hO hS=>jC w H a ns hlen hO hS) λH e s'=>hCX w H s₁ e s'
def Wc(s:Stmt)(j:Nat):Stmt:=match s with
 | .ClassDef _ _ _ body _ _ _ _ _ _ _=>body.getD j (.Pass ⟨0,0,0,0⟩)
 | _=>.Pass ⟨0,0,0,0⟩
def UH(s:Stmt):Arguments:=match s with
 | .FunctionDef _ a _ _ _ _ _ _ _ _=>a
 | _=>{ posonlyargs:=[],args:=[],vararg:=none,kwonlyargs:=[],kw_defaults:=[],kwarg:=none,defaults:=[] }
def Vl(s:Stmt):List Stmt:=match s with
 | .FunctionDef _ _ b _ _ _ _ _ _ _=>b
 | _=>[]
def Zl(s:Stmt):Scope:=match s with
 | .FunctionDef _ _ _ _ _ _ sc _ _ _=>sc
 | _=>{ kind:=.function,names:=[],isGenerator:=false,isCoroutine:=false }
abbrev ZV:Vg:=λ_ _ _ _ _ _=>False
abbrev E0:XK:=λ_ _ _=>False
def Yd{X:Cx}:Qg ZV X E0:=λ_ _ _ _ _ _ _ h=>h.elim
structure Zo(K:zZ)(x qual:Str)(st:Stmt)(f:aj)(fd:ap):Prop where
 ex:∃(oc:ai)(od:jY)(kV doc pm:ai)(an:jY)(cdv ct:ai)(jD:Array (jf)),
  fd=yF x qual (UH st) (Vl st) (Zl st) .none kV doc pm an cdv ct/\K.lookup f=some ⟨oc,od,.func fd,jD⟩/\wN K cdv qual=true
 kp:xZ K (.ref f)=true
def Zo.ok{x qual:Str}{st:Stmt}{f:aj}{fd:ap}{N ps:jP}{k:Nat}{sp:Sp}(F:Zo K x qual st f fd)(S:ZB N ps (Zl st))(len:∀ vs H Q E,sp vs H Q E->vs.length=ps.length)(jr:∀ (cdv:ai) (A:ay) (outer:kg) (s:am) (H:Hp) (vs:jh) (Q:VK) (E:XK),Zf k (A.deeper (envOfC qual (Zl st) s.heap.objs.size f cdv))->sp vs H Q E ->
   ∃ t,VV (Pm ZV P w K mg kT N qual (Zl st) f cdv A outer s H E).nox (Vl st) t/\t { nx:=λ_ H'=>Q .non H',rt:=Q } (Qq N vs) H):ZK P w K mg kT ZV (k+1) f fd ps sp:=by
 let⟨oc,od,kV,doc,pm,an,cdv,ct,jD,rfl,lk,jA⟩:=F.ex;refine F8 lk jA S len λA outer s H vs Q E hr jC=>?_;let⟨t,h,q⟩:=jr cdv A outer s H vs Q E hr jC;exact⟨t,h.nox,q⟩
def Zo.binds{x qual:Str}{st:Stmt}{f:aj}{fd:ap}{ps:jP}(F:Zo K x qual st f fd)(h:∀ (kV doc pm:ai) (an:jY) (cdv ct:ai) (us:jg),us.length=ps.length->bindArgs (yF x qual (UH st) (Vl st) (Zl st) .none kV doc pm an cdv ct) ⟨us,[]⟩=pure (ps.zip us)):Zz K fd ps []:=by
 let⟨oc,od,kV,doc,pm,an,cdv,ct,jD,rfl,lk,jA⟩:=F.ex;exact .all (h kV doc pm an cdv ct)
def OY{x qual:Str}{st:Stmt}{f:aj}{oc:ai}{od an:jY}{jD:Array (jf)}{kV doc pm cdv ct:ai}(l:K.lookup f=some ⟨oc,od,.func (yF x qual (UH st) (Vl st) (Zl st) .none kV doc pm an cdv ct),jD⟩)(c:wN K cdv qual=true)(k:xZ K (.ref f)=true):Zo K x qual st f (yF x qual (UH st) (Vl st) (Zl st) .none kV doc pm an cdv ct):=⟨⟨oc,od,kV,doc,pm,an,cdv,ct,jD,Z,l,c⟩,k⟩
def D7{A:ay}{k:Nat}(hr:Zf k A):A.units+1<cLine:=uN (rX (by decide:1<=64) _) hr.units
def YF{n:Nat}(h:n<=1000):n<sizeLine:=uN h (by decide)
def pv(i:Nat){x:Str}{pos:Pos}(hN:X.N[i]? = some x:=by rfl)(hv:Mq X.env.scope x:=by first | exact Or.inl rfl | exact Or.inr (Or.inl rfl) | exact Or.inr (Or.inr rfl))(hd:(x==("__debug__" : Str))=false:=by decide)(jA:(x==("__classdict__" : Str))=false:=by decide):PE X (.Name x pos) (Ub i):=ZPQ hN hv hd jA
def Zn{A B:Prop}(h:B):if false=true then A else B:=by
 rw[aJ zS];exact h
def Z7{A B:Prop}(h:A):if true=true then A else B:=by
 rw[aK rfl];exact h
def YX{c A B:Prop}[Decidable c](h1:c->A)(h2:¬ c->B):if c then A else B:=by
 by_cases h:c
 ·rw[aK h];exact h1 h
 ·rw[aJ h];exact h2 h
def ZQg{c A B:Prop}[Decidable c](hc:c)(h:B):if (!decide c)=true then A else B:=by
 rw[aI hc];exact Zn h
def ZC(H H':Hp):Prop:=∀ b o,H b=some o->H' b=some o
def ZC.refl(H:Hp):ZC H H:=λ_ _ h=>h
def ZC.trans{H H1 H2:Hp}(a:ZC H H1)(b:ZC H1 H2):ZC H H2:=λc o h=>b c o (a c o h)
def ZC.free{H H':Hp}(e:ZC H H'){l:aj}(h:H' l=tO):H l=tO:=by
 cases q:H l with
 | none=>rfl
 | some o=>
  rw[e l o q] at h;cases h
def ZC.seq{K:zZ}{H H':Hp}{a:aj}{xs:jh}(e:ZC H H')(h:ZI K H a xs):ZI K H' a xs:=by
 rcases h with (h | ⟨o,h⟩) | h
 ·exact .inl (.inl (e _ _ h))
 ·exact .inl (.inr ⟨o,e _ _ h⟩)
 ·exact .inr h
section
variable{R:Result->am->Prop}
def ZGz{elt target iter:Expr}{ifs:jU}{scope:Scope}{pos:Pos}{it acc:ai}{env:Env}(I:Nat->am->Prop)(turn:∀ n s,I n s->aC (aB prog w) A (pyNext it) (λr s₁=>match r with
   | none=>R (.ok .next) s₁
   | some v=>aC (aB prog w) A (letOwnedTupleGo target it v) (λ_ s₀=>aC (aB prog w) A (assign target env v) (λ_ s₂=>
     aC (aB prog w) A (forIn ifs true λc r=>if r=true then do let ok<-isTrue c env (aF c env);pure (ForInStep.yield ok) else pure (ForInStep.yield r)) (λok s₃=>
      if ok=true then aC (aB prog w) A (aF elt env) (λx s₄=>
       aC (aB prog w) A (call (.builtin "list.append") [acc,x]) (λ_ s₅=>∃ m,m<n/\I m s₅) (notedBy (aB prog w) A env λe s'=>R (.error e) s') s₄) (notedBy (aB prog w) A env λe s'=>R (.error e) s') s₃
      else ∃ m,m<n/\I m s₃) (notedBy (aB prog w) A env λe s'=>R (.error e) s') s₂) (notedBy (aB prog w) A env λe s'=>R (.error e) s') s₀) (notedBy (aB prog w) A env λe s'=>R (.error e) s') s₁) (notedBy (aB prog w) A env λe s'=>R (.error e) s') s)(n:Nat)(h:I n s):
  codeAny (aB prog w) A (.compLoop (.ListComp elt [⟨target,iter,ifs,0⟩] scope pos) 0 it acc env) R s:=by
 refine codeAny_loop Z I (λn s hI=>?_) n h;show aC _ A ((compTurn (.ListComp elt [⟨target,iter,ifs,0⟩] scope pos) 0 it acc env).onRaise (λx=>do noteFrame x env;theTreesLotGoes x)) _ _ s
 refine wpAny_noted ?_;rw[compTurn_list];refine aa (wpAny_standAt (aa (ae (turn n s hI) (λr s₁ h₁=>?_) λ_ _ h'=>h')))
 cases r with
 | none=>exact ad h₁
 | some v=>
  refine aa (ae h₁ (λ_ s₀ h₀=>?_) λ_ _ h'=>h');refine aa (ae h₀ (λ_ s₂ h₂=>aa (ae h₂ (λok s₃ h₃=>?_) λ_ _ h'=>h')) λ_ _ h'=>h')
  cases ok with
  | false=>exact ad ⟨Z,h₃⟩
  | true=>
   exact aa (aa (ae h₃ (λx s₄ h₄=>aa (ae h₄ (λ_ s₅ h₅=>ad (ad ⟨Z,h₅⟩)) λ_ _ h'=>h')) λ_ _ h'=>h'))
end
def WT(env:Env)(l:List (Str×NameKind)):kj->kj:=λcs=>l.foldl (λcs p=>if p.2==.free then (p.1,(env.cells.lookup p.1).getD 0)::cs else cs) cs
def Nf(env:Env)(l:List (Str×NameKind)):Prop:=∀ p∈l,p.2=.free->∃ c,env.cells.lookup p.1=some c
def DY{env:Env}{scope:Scope}(h:Nf env scope.names):closureFor scope env=pure (WT env scope.names []):=by
 let all:∀(l:List (Str×NameKind))(cs:kj),Nf env l->(forIn l cs λx r=>if (x.2==.free)=true then do let a<-cellOf env x.1;pure (ForInStep.yield ((x.1,a)::r)) else pure (ForInStep.yield r):Sem (kj))=pure (WT env l cs):=by
  intro l
  induction l with
  | nil=>intro cs _;rfl
  | cons p r ih=>
   intro cs hf;let e:WT env (p::r) cs=WT env r (if p.2==.free then (p.1,(env.cells.lookup p.1).getD 0)::cs else cs):=rfl
   rw[List.forIn_cons,e]
   cases hk:(p.2==NameKind.free) with
   | true=>
    let⟨c,hc⟩:=hf p zO (eq_of_beq hk);let jq:cellOf env p.1=pure c:=by unfold cellOf;rw[hc]
    simp only[if_true,jq,pure_bind];rw[ih _ λq hq=>hf q (zJ _ hq),hc];rfl
   | false=>
    simp only[wT,if_false,pure_bind];exact ih _ λq hq=>hf q (zJ _ hq)
 have:=all scope.names [] h;simpa [closureFor] using this
def CD{env:Env}:∀{l:List (Str×NameKind)}{cs:kj}{x:Str}{c:aj},Nf env l->(WT env l cs).lookup x=some c->cs.lookup x=some c\/env.cells.lookup x=some c
 | [],_,_,_,_,h=>.inl h
 | p::r,cs,x,c,hf,h=>by
  let h':(WT env r (if p.2==.free then (p.1,(env.cells.lookup p.1).getD 0)::cs else cs)).lookup x=some c:=h
  rcases CD (λq hq=>hf q (zJ _ hq)) h' with q | q
  ·cases hk:(p.2==NameKind.free) with
   | true=>
    rw[hk,aK rfl,xG] at q
    cases e:x==p.1 with
    | true=>
     rw[e] at q;let⟨d,hd⟩:=hf p zO (eq_of_beq hk);refine .inr ?_;rw[eq_of_beq e,hd];rw[hd] at q;exact q
    | false=>
     rw[e] at q;exact .inl q
   | false=>
    rw[hk,aJ zS] at q;exact .inl q
  ·exact .inr q
def HY{env:Env}{x:Str}:∀{l:List (Str×NameKind)}{cs:kj},(cs.lookup x).isSome=true->((WT env l cs).lookup x).isSome=true
 | [],_,h=>h
 | p::r,cs,h=>by
  show ((WT env r (if p.2==.free then (p.1,(env.cells.lookup p.1).getD 0)::cs else cs)).lookup x).isSome=true
  refine HY ?_
  cases hk:(p.2==NameKind.free) with
  | true=>
   rw[aK rfl,xG]
   cases e:x==p.1 with
   | true=>rfl
   | false=>exact h
  | false=>rw[aJ zS];exact h
def Ho{env:Env}{x:Str}:∀{l:List (Str×NameKind)}{cs:kj},(x,NameKind.free)∈l->((WT env l cs).lookup x).isSome=true
 | [],_,h=>by cases h
 | p::r,cs,h=>by
  show ((WT env r (if p.2==.free then (p.1,(env.cells.lookup p.1).getD 0)::cs else cs)).lookup x).isSome=true
  rcases zI.mp h with e | h
  ·subst e;refine HY ?_;show (vY x ((x,(env.cells.lookup x).getD 0)::cs)).isSome=true;rw[xG,beq_self_eq_true];rfl
  ·exact Ho h
def Yu(env:Env)(cl:kj):Prop:=∀ x c,cl.lookup x=some c->env.cells.lookup x=some c
def Yu.get{env:Env}{cl:kj}{x:Str}{c:aj}(h:Yu env cl)(e:cl.lookup x=some c):env.cells.lookup x=some c:=h x c e
def Fq{env:Env}{l:List (Str×NameKind)}(h:Nf env l):Yu env (WT env l []):=λx c e=>by
 rcases CD h e with q | q
 ·cases q
 ·exact q
def Dl{env:Env}:∀{names:List (Str×NameKind)}{x:Str},names.lookup x=some .free ->
  (names.map fun(n,k)=>if (k==NameKind.free&&env.scope.kind==.function&&env.kindOf n==some .cell) then (n,NameKind.cell) else (n,k)).lookup x=some .cell \/
  (names.map fun(n,k)=>if (k==NameKind.free&&env.scope.kind==.function&&env.kindOf n==some .cell) then (n,NameKind.cell) else (n,k)).lookup x=some .free
 | [],_,h=>by simp at h
 | (n,k)::r,x,h=>by
  rw[xG] at h;simp only[zB]
  cases hx:x==n with
  | true=>
   rw[hx] at h;cases h;split
   ·exact .inl (by rw[xG,hx])
   ·exact .inr (by rw[xG,hx])
  | false=>
   rw[hx] at h;let ih:=Dl (env:=env) h;split
   ·rw[xG,hx];exact ih
   ·rw[xG,hx];exact ih
def Hu{env:Env}:∀{names:List (Str×NameKind)}{x:Str},(∀ y∈names,y.2≠.cell) ->
  ((names.map fun(n,k)=>if (k==NameKind.free&&env.scope.kind==.function&&env.kindOf n==some .cell) then (n,NameKind.cell) else (n,k)).lookup x=some .cell \/
  (names.map fun(n,k)=>if (k==NameKind.free&&env.scope.kind==.function&&env.kindOf n==some .cell) then (n,NameKind.cell) else (n,k)).lookup x=some .free)->(x,NameKind.free)∈names
 | [],_,_,h=>by simp at h
 | (n,k)::r,x,hc,h=>by
  let hr:∀ y∈r,y.2≠.cell:=λy hy=>hc y (zJ _ hy);simp only[zB] at h
  cases hx:x==n with
  | true=>
   let en:=eq_of_beq hx;subst en;by_cases hk:k=.free
   ·subst hk;exact zO
   ·let hb:(k==NameKind.free)=false:=by simpa using hk
    simp only[hb,uY,wT,if_false,xG,beq_self_eq_true] at h;rcases h with h | h
    ·exact absurd (yL.inj h) (hc _ zO)
    ·exact absurd (yL.inj h) hk
  | false=>
   refine zJ _ (Hu (env:=env) hr ?_);split at h
   ·simpa only [xG,hx] using h
   ·simpa only [xG,hx] using h
def YG(X:Cx)(scope:Scope):jK->jP->Prop
 | [],[]=>True
 | i::is,y::ys=>X.N[i]? = some y/\(X.env.kindOf y=some .cell\/X.env.kindOf y=some .free)/\scope.names.lookup y=some .free/\YG X scope is ys
 | _,_=>False
def YG.len{X:Cx}{scope:Scope}:∀{is:jK}{ys:jP},YG X scope is ys->is.length=ys.length
 | [],[],_=>rfl
 | _::_,_::_,h=>congrArg (· + 1) h.2.2.2.len
def YG.get{X:Cx}{scope:Scope}:∀{is:jK}{ys:jP}{j:Nat}{y:Str},YG X scope is ys->ys[j]? = some y ->
  ∃ i,is[j]? = some i/\X.N[i]? = some y/\(X.env.kindOf y=some .cell\/X.env.kindOf y=some .free)/\scope.names.lookup y=some .free
 | [],[],_,_,_,h=>by simp at h
 | i::_,z::_,0,y,f,h=>by
  simp at h;subst h;exact⟨i,Z,f.1,f.2.1,f.2.2.1⟩
 | _::is,_::ys,j+1,y,f,h=>by
  let⟨i,e,r⟩:=YG.get (j:=j) f.2.2.2 (by simpa using h)
  exact⟨i,by simpa using e,r⟩
def WX(X:Cx)(N:jP)(scope:Scope)(cl:kj)(C:aj)(s:am)(H:Hp)(fp:jR)(E:ja):Cx where
 prog:=X.prog
 w:=X.w
 K:=X.K
 mg:=X.mg
 base:=X.base
 A:=X.A
 N:=N
 s₀:=s
 H₀:=H
 env:=compEnvC scope cl C X.env
 outer:=X.stack
 stack:=X.stack
 ex:=fp
 fn:=λ_=>false
 calm:=X.calm
 pn:=[]
 xe:=E
def N3(σ:St)(ix:jK)(x:V):St:=some x::ix.map λi=>(σ[i]?).join
def P6(X:Cx)(ifs:jU)(tt:TT):Prop:=
 ∀(kR:jO)(s:am)(σ:St)(H:Hp)(Q:Bool->Hp->Prop),ZJ X kR σ H s->tt σ H Q ->
  aC (aB X.prog X.w) X.A (forIn ifs true λc r=>if r=true then do let ok<-isTrue c X.env (aF c X.env);pure (ForInStep.yield ok) else pure (ForInStep.yield r)) (TP X kR σ Q) X.xe s
def JA:TT:=λ_ H Q=>Q true H
def Wj{X:Cx}:P6 X [] JA:=λ_ _ _ H _ I h=>wpAny_tests_nil ⟨H,I,h⟩
def JX{X:Cx}{c:Expr}{t:TT}(h:PT X c t):P6 X [c] t:=λkR s σ H Q I hw=>wpAny_tests_one (h kR s σ H Q I hw)
def Vy(J:It)(σ:St)(ix:jK)(tt:TT)(te:TE)(H1:Hp)(Q:VK):Prop:=
 ∀ D,H1 D=none->∃ W:Nat->Nat->Hp->Prop,(∃ m,W 0 m (upd H1 D (.lst [])))/\∀ i m H,W i m H ->
  (J.stop i H/\Q (.ref D) H)\/(J.go i H/\∀ x H',J.yld i H x H'->tt (N3 σ ix x) H' λc H2=>
   if c=true then te (N3 σ ix x) H2 λy H3=>∃ ys m',H3 D=some (.lst ys)/\ys.length<ar/\m'<m/\W (i+1) m' (upd H3 D (.lst (ys++[y])))
   else ∃ m',m'<m/\W (i+1) m' H2)
def FO(wi:TI)(ix:jK)(tt:TT)(te:TE):TE:=λσ H Q=>wi σ H λJ H1=>Vy J σ ix tt te H1 Q
section
variable{kR:jO}{σ:St}{H:Hp}
def Ay{ix:jK}{j:Nat}{v:V}(h:(ix.map λi=>(σ[i]?).join)[j]? = some (some v)):∃ i,ix[j]? = some i/\σ[i]? = some (some v):=by
 rw[zC] at h
 cases e:ix[j]? with
 | none=>rw[e] at h;cases h
 | some i=>
  rw[e] at h;let h':(σ[i]?).join=some v:=yL.inj h;exists i,Z
  cases q:σ[i]? with
  | none=>rw[q] at h';cases h'
  | some o=>
   rw[q] at h'
   cases o with
   | none=>cases h'
   | some z=>cases h';rfl
def Nu(env:Env)(l:List (Str×NameKind)):Bool:=l.all λp=>!(p.2==.free) || env.kindOf p.1==some .cell || env.kindOf p.1==some .free
def E9{X:Cx}{l:List (Str×NameKind)}(ok:X.Ok)(h:Nu X.env l=true):Nf X.env l:=λp hp hk=>by
 let q:=zE.mp h p hp;rw[hk] at q;let q':(X.env.kindOf p.1==some .cell || X.env.kindOf p.1==some .free)=true:=by simpa using q
 rcases Bool.or_eq_true_iff.mp q' with q | q
 ·exact ok.has p.1 (.inl (eq_of_beq q))
 ·exact ok.has p.1 (.inr (eq_of_beq q))
def Om(scope:Scope)(x:Str):Bool:=scope.kind==.function&&scope.names.lookup x==some .local&&scope.names.all (λp=>!(p.2==.cell))&&scope.names.all (λp=>!(p.2==.local) || scope.names.lookup p.1==some .local)
structure Q9(scope:Scope)(x:Str):Prop where
 kind:scope.kind=.function
 own:scope.names.lookup x=some .local
 cell:∀ y∈scope.names,y.2≠.cell
 names:∀ y∈scope.names,y.2=.local->scope.names.lookup y.1=some .local
def MS{scope:Scope}{x:Str}(h:Om scope x=true):Q9 scope x:=by
 unfold Om at h;rw[zP,zP,zP] at h;let⟨⟨⟨h1,h2⟩,h3⟩,h4⟩:=h;refine⟨eq_of_beq h1,eq_of_beq h2,λy hy z=>?_,λy hy z=>?_⟩
 ·have:=zE.mp h3 y hy;rw[z] at this;cases this
 ·have:=zE.mp h4 y hy;rw[z] at this;let q:(scope.names.lookup y.1==some NameKind.local)=true:=by simpa using this
  exact eq_of_beq q
def Ej{scope:Scope}{env:Env}(jq:∀ y∈scope.names,y.2≠.cell)(y:Str)(h:(relabel scope env).names.lookup y=some .cell\/(relabel scope env).names.lookup y=some .free):∃ c,(WT env scope.names []).lookup y=some c:=
 qW.mp (Ho (Hu jq h))
def CJ(i:Nat)(t:TE):TS:=λD σ H=>t σ H λv H1=>D.nx (σ.set i (some v)) H1
end
def LV(xs:jP)(σ:St)(ix:jK):St:=xs.map (λ_=>(none:ji))++ix.map λi=>(σ[i]?).join
def Ja(J:It)(k:Nat)(g:TG)(σ:St)(ix:jK)(tt:TT)(te:TE)(H1:Hp)(Q:VK):Prop:=
 ∀ D,H1 D=none->∃ W:Nat->Nat->Hp->Prop,(∃ m,W 0 m (upd H1 D (.lst [])))/\∀ i m H,W i m H ->
  (J.stop i H/\Q (.ref D) H)\/(J.go i H/\∀ x H',J.yld i H x H'->∀ os:St,os.length=k->g x (os++ix.map λi=>(σ[i]?).join) H' λσ6 H6=>(∃ os':St,os'.length=k/\σ6=os'++ix.map λi=>(σ[i]?).join)/\tt σ6 H6 λc H2=>
   if c=true then te σ6 H2 λy H3=>∃ ys m',H3 D=some (.lst ys)/\ys.length<ar/\m'<m/\W (i+1) m' (upd H3 D (.lst (ys++[y])))
   else ∃ m',m'<m/\W (i+1) m' H2)
def GV(k:Nat)(g:TG)(wi:TI)(ix:jK)(tt:TT)(te:TE):TE:=λσ H Q=>wi σ H λJ H1=>Ja J k g σ ix tt te H1 Q
section
variable{kR:jO}{σ:St}{H:Hp}
def ZJd{xs ys:jP}{ix:jK}{scope:Scope}{cl:kj}{fp:jR}{E:ja}{h₁:aD}{D C n tk:Nat}{m:jd}(I:ZJ X kR σ H s)(hf:∀ b∈fp,VO X kR H b/\b<s.heap.objs.size)(sub:Yu X.env cl)(jw:scope.kind=.function)(hhas:∀ y,((relabel scope X.env).names.lookup y=some .cell\/(relabel scope X.env).names.lookup y=some .free)->∃ c,cl.lookup y=some c)(fo:YG X scope ix ys)(hD:s.heap.objs.size<=D)(hC:s.heap.objs.size<=C)(hDC:D≠C)(hns:h₁.Ns C m)(k:∀ b o,s.heap.get? b=some o->h₁.get? b=some o)(hd:h₁.get? D=some { cls:=.type "list",data:=.seq ([]:jg).toArray n }):
  ZJ (WX X (xs++ys) scope cl C s H fp E) [] (LV xs σ ix) (upd H D (.lst [])) { s with heap:=h₁,toks:=tk }:=by
 let lt_of_cell:∀ y c,cl.lookup y=some c->c<s.heap.objs.size:=λy c e=>by
  let⟨v,q⟩:=I.cell y c (sub.get e);exact q.lt
 refine⟨⟨I.ok.mod,jw,I.ok.glob,I.ok.blt,hC,λy z c h1 h2=>I.ok.inj y z c (sub.get h1) (sub.get h2),hhas,λy c h _=>absurd h (by simp[WX]),I.ok.hd,I.ok.frames,.inl Z,λb hb=>⟨?_,λy c e=>?_⟩,I.bs,zK I.ok.bsz I.sz,λb o e hb=>?_,λb hb z=>?_,I.stack,I.stkFree⟩,
  Z,I.bare,Un.laid k hD (I.hok.fresh hD),⟨m,hns,λj y v e1 e2 e3=>?_⟩,λy c e=>?_,?_,λy c e=>?_,λp hp=>absurd (show p∈([]:jO) from hp) (by simp),I.hok.laid k hD ?_,?_⟩
 ·exact yN (yQ (hf b hb).2 hC)
 ·exact(hf b hb).1.2.2.2.2.1 y c (sub.get e)
 ·let⟨_,_,_,z,_⟩:=(hf b hb).1;rcases z with z | z
  ·exact I.ok.noex b o e z
  ·exact absurd (yQ (zL (I.ok.bs b o e).1) z) (xP _)
 ·let⟨_,z1,z2,_⟩:=(hf b hb).1;rcases zI.mp (I.stkSub b z) with q | q
  ·exact z1 q
  ·exact z2 q
 ·by_cases hj:j<xs.length
  ·exfalso
   let e3:(xs.map (λ_=>(none:ji))++ix.map λi=>(σ[i]?).join)[j]? = some (some v):=e2;rw[xA (by rw[zY];exact hj),zC,zV hj] at e3
   cases e3
  ·let e0:(xs++ys)[j]? = some y:=e1;let e1':ys[j-xs.length]? = some y:=by rw[wZ (wU hj)] at e0;exact e0
   let e3:(xs.map (λ_=>(none:ji))++ix.map λi=>(σ[i]?).join)[j]? = some (some v):=e2;let e2':(ix.map λi=>(σ[i]?).join)[j-xs.length]? = some (some v):=by
    rw[wZ (by rw[zY];exact wU hj),zY] at e3
    exact e3
   let⟨i,q1,q2⟩:=Ay e2';let⟨i',p1,p2,p3,p4'⟩:=fo.get e1';rw[q1] at p1;cases p1;let p4:(relabel scope X.env).names.lookup y=some .cell\/(relabel scope X.env).names.lookup y=some .free:=Dl p4';let⟨c,p5⟩:=hhas y p4;let⟨m0,hn0,hl⟩:=I.loc;let⟨u,r,l⟩:=hl i y v p2 q2 (.inr p3);refine⟨u,r,.inr ⟨p4,c,p5,?_⟩⟩;rcases l with ⟨l1,_⟩ | ⟨_,c',l2,l3⟩
   ·rcases p3 with p3 | p3
    ·rw[l1] at p3;cases p3
    ·rw[l1] at p3;cases p3
   ·rw[sub.get p5] at l2;cases l2;let⟨o,ho,hd'⟩:=l3;exact⟨o,k _ _ ho,hd'⟩
 ·let⟨v,o,ho,hd'⟩:=I.cell y c (sub.get e);exact⟨v,o,k _ _ ho,hd'⟩
 ·show upd H D (.lst []) C=none;rw[ZY (Ne.symm hDC)];exact I.hok.fresh hC
 ·show upd H D (.lst []) c=none;rw[ZY (yN (yQ (lt_of_cell y c e) hD))];exact I.freeC y c (sub.get e)
 ·exact⟨zH _,[],n,.nil,hd⟩
 ·show (LV xs σ ix).length=(xs++ys).length;unfold LV;rw[zT,zY,zY,fo.len,zT]
def FE(k:Nat)(ix:jK)(σ σ':St):Prop:=∃ os:St,os.length=k/\σ'=os++ix.map λi=>(σ[i]?).join
inductive Jq(Y:Cx)(k:Nat)(ix:jK)(σ:St)(tn:Nat->aD->Prop)(fp:jR)(W:Nat->Nat->Hp->Prop)(n:Nat)(s':am):Prop
 |mk(i:Nat)(σ':St)(H':Hp):ZJ Y [] σ' H' s'->FE k ix σ σ'->tn i s'.heap->(∀ b∈fp,H' b=none)->W i n H'->Jq Y k ix σ tn fp W n s'
def D4{elt iter tg:Expr}{xs:jP}{g:TG}{ifs:jU}{scope:Scope}{cl:kj}{pos:Pos}{ix:jK}{ys:jP}{tt:TT}{te:TE}{it:aj}{fp:jR}{tn:Nat->aD->Prop}{J:It}{Q:VK}{E:ja}{RR:ai->aj->Result->am->Prop}(hc:X.calm=true)(hg:∀ C s H fp E,PG (WX X (xs++ys) scope cl C s H fp E) tg g)(ht:∀ C s H fp E,P6 (WX X (xs++ys) scope cl C s H fp E) ifs tt)(he:∀ C s H fp E,PE (WX X (xs++ys) scope cl C s H fp E) elt te)(sub:Yu X.env cl)(jw:scope.kind=.function)(jq:∀ y∈scope.names,y.2≠.cell)(hhas:∀ y,((relabel scope X.env).names.lookup y=some .cell\/(relabel scope X.env).names.lookup y=some .free)->∃ c,cl.lookup y=some c)(fo:YG X scope ix ys)(I:ZJ X kR σ H s)(T:VJ X.prog X.w X.K tg J fp it tn)(st:tn 0 s.heap)(hf:∀ b∈fp,VO X kR H b)(q:Ja J xs.length g σ ix tt te H Q)(hRR:∀ D C s' H' m,s.heap.objs.size<=C->ZJ X kR σ H' s'->VO X kR H' C->s'.heap.Ns C m->Q (.ref D) H'->RR (.ref D) C (.ok .next) s'):
  aC (aB X.prog X.w) X.A (newList []) (λacc s₃=>aC (aB X.prog X.w) X.A (newFunctionEnv scope X.env.globals cl [] X.env.qual none .none (some X.env)) (λcenv s₄=>
   codeAny (aB X.prog X.w) X.A (.compStart (.ListComp elt [⟨tg,iter,ifs,0⟩] scope pos) 0 (.ref it) acc { cenv with scope:=relabel scope X.env }) (RR acc cenv.locals) s₄) E s₃) E s:=by
 refine wpAny_newObj_type (wpAny_newFunctionEnv jq (by intro y hy;simp at hy) (λh₁ hns₁ hsb₁=>?_) jw)
 dsimp only at hns₁ hsb₁⊢;generalize hH2:s.heap.push { cls:=.type "list",dict:=none,data:=.seq ([]:jg).toArray }=H2 at hns₁ hsb₁⊢;let hC:H2.objs.size=s.heap.objs.size+1:=by rw[<-hH2,rE]
 let hDC:s.heap.objs.size≠H2.objs.size:=by rw[hC];exact yN (uI _)
 let hCle:s.heap.objs.size<=H2.objs.size:=by rw[hC];exact tJ _
 let below:∀ b,b<s.heap.objs.size->b≠H2.objs.size/\b≠s.heap.objs.size:=λb hb=>⟨by rw[hC];exact yN (Nat.lt_succ_of_lt hb),yN hb⟩
 let old:∀ b o,s.heap.get? b=some o->h₁.get? b=some o:=λb o e=>hsb₁.extBut b o (below b (zL e)).1 (zD _ (hH2 ▸ zD _ e));let hacc:∃ n,h₁.get? s.heap.objs.size=some { cls:=.type "list",data:=.seq ([]:jg).toArray n }:=⟨_,hsb₁.extBut _ _ hDC (zD _ (hH2 ▸ yP _ rfl))⟩;let⟨nD,hacc⟩:=hacc;let hf':∀ b∈fp,VO X kR H b/\b<s.heap.objs.size:=λb hb=>⟨hf b hb,by let⟨o,e,_⟩:=T.obj 0 _ st b hb;exact zL e⟩
 let hDn:H s.heap.objs.size=none:=I.hok.fresh (zX _);let⟨W,⟨m0,w0⟩,turn⟩:=q _ hDn;generalize hE:notedBy (aB X.prog X.w) X.A (compEnvC scope cl H2.objs.size X.env) (λe s'=>RR (.ref s.heap.objs.size) H2.objs.size (.error e) s')=EE;let I0:ZJ (WX X (xs++ys) scope cl H2.objs.size s H fp EE) [] (LV xs σ ix) (upd H s.heap.objs.size (.lst [])) { s with heap:=h₁,toks:=s.toks+([]:ku).length }:=
  ZJd I hf' sub jw hhas fo (zX _) hCle hDC hns₁ old hacc
 let st1:tn 0 h₁:=T.keep _ _ _ st λb _ o e=>old b o e;let fr1:∀ b∈fp,upd H s.heap.objs.size (.lst []) b=none:=λb hb=>by rw[ZY (below b (hf' b hb).2).2];exact(hf b hb).1
 let stat:∀{H':Hp},(∀ b∈fp,H' b=none)->∀ b∈fp,VO (WX X (xs++ys) scope cl H2.objs.size s H fp EE) [] H' b:=λhn b hb=>
  ⟨hn b hb,(I0.ok.exf b hb).1,I0.ok.exfs b hb,.inl hb,(I0.ok.exf b hb).2,λp hp=>absurd (show p∈([]:jO) from hp) (by simp)⟩
 let loop:∀ s₃:am,s₃={ s with heap:=h₁,toks:=s.toks+([]:ku).length } ->
   codeAny (aB X.prog X.w) X.A (.compLoop (.ListComp elt [⟨tg,iter,ifs,0⟩] scope pos) 0 (.ref it) (.ref s.heap.objs.size) (compEnvC scope cl H2.objs.size X.env)) (RR (.ref s.heap.objs.size) H2.objs.size) s₃:=by
  rintro s₃ rfl;refine ZGz (Jq (WX X (xs++ys) scope cl H2.objs.size s H fp EE) xs.length ix σ tn fp W) ?_ m0 ⟨0,_,_,I0,⟨_,zY _,Z⟩,st1,fr1,w0⟩;rintro n s3 ⟨i,σ3,H3,I3,⟨o3,ho3,hσ3⟩,st3,fr3,w3⟩;rw[hE];rcases turn i n H3 w3 with ⟨stop,qn⟩ | ⟨go,step⟩
  ·refine Zb (T.done (WX X (xs++ys) scope cl H2.objs.size s H fp EE) Z Z Z hc i [] s3 σ3 H3 EE I3 (stat fr3) st3 stop) λr s4 ⟨hr,I4⟩=>?_;subst hr;let⟨m4,hn4,_⟩:=I4.loc;let Ix:ZJ X kR σ H3 s4:=I.call' (s':=s4) (ch:=fp) I4.os I4.base I4.hok I4.bare λb hb=>by
    let⟨_,z1,_,z3,z4,z5⟩:=hf b hb;exact⟨z3,z1,z4,z5⟩
   exact hRR _ _ s4 H3 m4 hCle Ix (I.fpOk hCle I4.free) hn4 qn
  ·refine Zb (T.item (WX X (xs++ys) scope cl H2.objs.size s H fp EE) Z Z Z hc i [] s3 σ3 H3 EE I3 (stat fr3) st3 go) λr s4 ⟨u,hr,h4⟩=>?_;subst hr;refine Zb h4 λ_ s5 ⟨xv,H5,I5,r5,y5,st5,fr5⟩=>?_;let I5':=I5.pinned (stat fr5) (T.obj _ _ st5);let again:∀{σ7:St}{H7:Hp}{s7:am}{m':Nat},ZJ (WX X (xs++ys) scope cl H2.objs.size s H fp EE) ([]++Ng fp s5.heap) σ7 H7 s7->FE xs.length ix σ σ7->m'<n->W (i+1) m' H7 ->
     ∃ m,m<n/\Jq (WX X (xs++ys) scope cl H2.objs.size s H fp EE) xs.length ix σ tn fp W m s7:=fun{σ7 H7 s7 m'} I7 e7 hm w7=>by
    refine⟨m',hm,.mk (i+1) σ7 H7 I7.unpinned e7 (T.keep _ _ _ st5 λb hb o e=>(I7.pin (b,o) (yC _ (yC _ (LQ hb e)))).1) (λb hb=>?_) w7⟩;let⟨o,e,d⟩:=T.obj _ _ st5 b hb;exact(I7.pin (b,o) (yC _ (yC _ (LQ hb e)))).2.1
   let stp:=step xv _ y5 o3 ho3;rw[<-hσ3] at stp;refine Zb (hg _ _ _ _ _ _ s5 σ3 H5 xv u _ I5' r5 stp) λ_ s6 ⟨σ6,H6,I6,e6,q6⟩=>?_;refine Zb (ht _ _ _ _ _ _ s6 _ _ _ I6 q6) λok s7 ⟨H7,I7,q7⟩=>?_
   cases ok with
   | false=>
    rw[aJ zS] at q7⊢;let⟨m',hm,w7⟩:=q7;exact again I7 e6 hm w7
   | true=>
    rw[aK rfl] at q7⊢;refine Zb (he _ _ _ _ _ _ s7 _ _ _ I7 q7) λy s8 ⟨yv,H8,I8,r8,ys8,m',e8,z8,hm,w8⟩=>?_;refine Zb (Qh _ s8 _ H8 (.ref s.heap.objs.size) [yv] (.ref s.heap.objs.size) [y] (λ_ H9=>W (i+1) m' H9) I8 Z (.cons r8 .nil) ⟨_,ys8,yv,Z,Z,e8,z8,w8⟩) λ_ s9 ⟨_,H9,I9,_,w9⟩=>?_;exact again I9 e6 hm w9
 exact codeAny_compStart_list (loop _ Z) (T.self _ 0 _ _ _ st1 (loop _ rfl))
def ZKp{elt iter tg:Expr}(xs:jP)(x:Str){g:TG}{ifs:jU}{scope:Scope}{pos:Pos}{wi:TI}{tt:TT}{te:TE}(ix:jK)(ys:jP)(hc:X.calm=true)(hg:∀ C s H fp E,PG (WX X (xs++ys) scope (WT X.env scope.names []) C s H fp E) tg g)(hi:PI X tg iter wi)(ht:∀ C s H fp E,P6 (WX X (xs++ys) scope (WT X.env scope.names []) C s H fp E) ifs tt)(he:∀ C s H fp E,PE (WX X (xs++ys) scope (WT X.env scope.names []) C s H fp E) elt te)(fo:YG X scope ix ys)(hk:Nu X.env scope.names=true:=by rfl)(hb:Om scope x=true:=by rfl)(hs:∀ x,foldedSetIterable iter X.env x=pure x:=by intro _;rfl):
  PE X (.ListComp elt [⟨tg,iter,ifs,0⟩] scope pos) (GV xs.length g wi ix tt te):=by
 intro kR s σ H Q I h;let B:=MS hb;let F:=E9 I.ok hk;rw[eval_ListComp];refine wpAny_comprehension_free (use:=none) Z hs (DY F) B.kind B.names (Zb (hi kR s σ H _ I h) λv s1 h1=>Zb h1 λitv s2 h2=>?_);let⟨it,fp,tn,J,H2,e,I2,T,st2,f2,q2⟩:=h2;subst e;refine D4 (RR:=λacc C=>compPost (aB X.prog X.w) X.A X.xe none (EP X kR σ Q) acc C) hc hg ht he (Fq F) B.kind B.cell (Ej B.cell) fo I2 T st2 f2 q2 ?_;intro D C s' H' m hC Ix fC hn q;refine⟨m,hn,λh' sb=>⟨.ref D,H',?_,Z,q⟩⟩;let⟨f0,f1,_,f3,f4,f5⟩:=fC;exact Ix.turned (t':=s'.toks) (λb o hb e=>(sb.2 b hb).trans e) f0 f1 f3 f4 f5
def ZGf{elt iter tg:Expr}(xs:jP)(x:Str){g:TG}{y:Str}{py:Pos}{ifs:jU}{scope:Scope}{pos jJ:Pos}{wi:TI}{tt:TT}{te:TE}{i:Nat}(ix:jK)(ys:jP)(hN:X.N.Nodup)(hiN:X.N[i]? = some y)(hy:X.env.scope.names.lookup y=some .local)(hc:X.calm=true)(hg:∀ C s H fp E,PG (WX X (xs++ys) scope (WT X.env scope.names []) C s H fp E) tg g)(hi:PI X tg iter wi)(ht:∀ C s H fp E,P6 (WX X (xs++ys) scope (WT X.env scope.names []) C s H fp E) ifs tt)(he:∀ C s H fp E,PE (WX X (xs++ys) scope (WT X.env scope.names []) C s H fp E) elt te)(fo:YG X scope ix ys)(hsw:swapsWith (.ListComp elt [⟨tg,iter,ifs,0⟩] scope pos) (some (.Name y py)) jJ.line X.env=pure true:=by rfl)(hk:Nu X.env scope.names=true:=by rfl)(hb:Om scope x=true:=by rfl)(hs:∀ x,foldedSetIterable iter X.env x=pure x:=by intro _;rfl):
  PS X (.Assign [.Name y py] (.ListComp elt [⟨tg,iter,ifs,0⟩] scope pos) jJ) (CJ i (GV xs.length g wi ix tt te)):=by
 intro kR s σ H D I h;let B:=MS hb;let F:=E9 I.ok hk;rw[exec_Assign_Name_used _ _ _ _ hsw];refine aa (wpAny_standAt (aa ?_));show aC _ X.A (do let _<-comprehension (.ListComp elt [⟨tg,iter,ifs,0⟩] scope pos) scope X.env _ (newList []) false (aF iter X.env) (some (assign (.Name y py) X.env))) _ _ s
 refine aa (ae (wpAny_comprehension_free (use:=some (assign (.Name y py) X.env)) (Q:=λ_ s'=>SP X kR D .next s') rfl hs (DY F) B.kind B.names
  (Zb (hi kR s σ H _ I h) λv s1 h1=>Zb h1 λitv s2 h2=>?_)) (λ_ s' hq=>ad (ad hq)) λ_ _ e=>e)
 let⟨it,fp,tn,J,H2,e,I2,T,st2,f2,q2⟩:=h2;subst e;refine D4 (RR:=λacc C=>compPost (aB X.prog X.w) X.A X.xe (some (assign (.Name y py) X.env)) (λ_ s'=>SP X kR D .next s') acc C) hc hg ht he (Fq F) B.kind B.cell (Ej B.cell) fo I2 T st2 f2 q2 ?_;intro Dd C s' H' m hC Ix fC hn q;let⟨f0,f1,_,f3,f4,f5⟩:=fC;show aC _ X.A (assign (.Name y py) X.env (.ref Dd)) _ _ _;refine wpAny_assign_Name (EK Ix hN hiN (.inl hy) (v:=.ref Dd) Z (λs3 I3 ⟨a,sb,ha⟩=>?_) (.inr hy));let ne:C≠a:=by
  rcases ha with ha | ha
  ·rw[ha];exact f1
  ·exact λz=>f4 y a ha z.symm
 refine⟨m,hn.sameBut sb ne,λh' sb'=>⟨_,H',?_,q⟩⟩;exact I3.turned (t':=s3.toks) (λb o hb e=>(sb'.2 b hb).trans e) f0 f1 f3 f4 f5
def Vy.toT{J:It}{ix:jK}{tt:TT}{te:TE}{Q:VK}(h:Vy J σ ix tt te H Q):Ja J 1 (NB 0) σ ix tt te H Q:=λD hD=>by
 let⟨W,h0,hs⟩:=h D hD;refine⟨W,h0,λi m H hw=>(hs i m H hw).imp id λq=>⟨q.1,λx H' y os ho=>?_⟩⟩;let⟨_,rfl⟩:=List.length_eq_one_iff.mp ho;exact⟨⟨[some x],Z,Z⟩,q.2 x H' y⟩
inductive Nx(wi:TI)(σ:L2.St)(H:Hp)(K:It->Hp->Prop):Prop
 |mk(K0:It->Hp->Prop)(_:wi σ H K0)(_:∀ J H1,K0 J H1->K J H1)
def PI.more{tg iter:Expr}{wi:TI}(h:PI X tg iter wi):PI X tg iter (Nx wi):=λkR s σ H R I ⟨K0,hw,f⟩=>
 ae (h kR s σ H K0 I hw) (λ_ _ z=>ae z (by rintro _ _ ⟨it,fp,tn,J,H',a,b,c,d,e,r⟩;exact⟨it,fp,tn,J,H',a,b,c,d,e,f _ _ r⟩) λ_ _ z=>z) λ_ _ z=>z
def Wx{elt iter:Expr}{x:Str}{px:Pos}{ifs:jU}{scope:Scope}{pos:Pos}{wi:TI}{tt:TT}{te:TE}(ix:jK)(ys:jP)(hc:X.calm=true)(hi:PI X (.Name x px) iter wi)(ht:∀ C s H fp E,P6 (WX X (x::ys) scope (WT X.env scope.names []) C s H fp E) ifs tt)(he:∀ C s H fp E,PE (WX X (x::ys) scope (WT X.env scope.names []) C s H fp E) elt te)(fo:YG X scope ix ys)(hk:Nu X.env scope.names=true:=by rfl)(hb:Om scope x=true:=by rfl)(hnd:(x::ys).Nodup:=by decide +kernel)(hs:∀ x,foldedSetIterable iter X.env x=pure x:=by intro _;rfl):
  PE X (.ListComp elt [⟨.Name x px,iter,ifs,0⟩] scope pos) (FO wi ix tt te):=by
 intro kR s σ H Q I h;let hl:(relabel scope X.env).names.lookup x=some .local:=lookup_relabel_local (MS hb).own;exact ZKp [x] x (g:=NB 0) ix ys hc (λ_ _ _ _ _=>XB (i:=0) hnd Z (Or.inl hl) (Or.inr hl)) (PI.more hi) ht he fo hk hb hs kR s σ H Q I ⟨_,h,λ_ _ z=>Vy.toT z⟩
def M7{elt iter:Expr}{x y:Str}{px py:Pos}{ifs:jU}{scope:Scope}{pos jJ:Pos}{wi:TI}{tt:TT}{te:TE}{i:Nat}(ix:jK)(ys:jP)(hN:X.N.Nodup)(hiN:X.N[i]? = some y)(hy:X.env.scope.names.lookup y=some .local)(hc:X.calm=true)(hi:PI X (.Name x px) iter wi)(ht:∀ C s H fp E,P6 (WX X (x::ys) scope (WT X.env scope.names []) C s H fp E) ifs tt)(he:∀ C s H fp E,PE (WX X (x::ys) scope (WT X.env scope.names []) C s H fp E) elt te)(fo:YG X scope ix ys)(hsw:swapsWith (.ListComp elt [⟨.Name x px,iter,ifs,0⟩] scope pos) (some (.Name y py)) jJ.line X.env=pure true:=by rfl)(hk:Nu X.env scope.names=true:=by rfl)(hb:Om scope x=true:=by rfl)(hnd:(x::ys).Nodup:=by decide +kernel)(hs:∀ x,foldedSetIterable iter X.env x=pure x:=by intro _;rfl):
  PS X (.Assign [.Name y py] (.ListComp elt [⟨.Name x px,iter,ifs,0⟩] scope pos) jJ) (CJ i (FO wi ix tt te)):=by
 intro kR s σ H D I h;let hl:(relabel scope X.env).names.lookup x=some .local:=lookup_relabel_local (MS hb).own;exact ZGf [x] x (g:=NB 0) ix ys hN hiN hy hc (λ_ _ _ _ _=>XB (i:=0) hnd Z (Or.inl hl) (Or.inr hl)) (PI.more hi) ht he fo hsw hk hb hs kR s σ H D I ⟨_,h,λ_ _ z=>Vy.toT z⟩
end
inductive Jf(K:zZ)(xs:jh)(H:Hp)(Q:VK):Prop
 |mk(x n t b:_)(_:xs=[x,.ty n])(_:XF K H x t)(_:yG K t (.type n)=some b)(_:Q (.bl b) H)
def W0:Wg X (.builtin "isinstance") (Jf X.K):=by
 intro kR s σ H xs us Q I r h;let⟨x,n,t,b,rfl,ty,e,q⟩:=h;let⟨u,w',rfl,rx,rn⟩:=LE r;cases(show w'=Value.type n from rn);exact Ev I rx ty e λtk=>⟨.bl b,H,I.tok tk,Z,q⟩
def Hj{K:zZ}:yG K (.type "int") (.type "bool")=some false:=by kernel_rfl
def ZPh{K:zZ}:yG K (.type "str") (.type "bool")=some false:=by kernel_rfl
def ZPG{K:zZ}:yG K (.type "tuple") (.type "bool")=some false:=by kernel_rfl
def KN{K:zZ}:yG K (.type "int") (.type "int")=some true:=by kernel_rfl
def JK{K:zZ}:yG K (.type "str") (.type "int")=some false:=by kernel_rfl
def IC{K:zZ}:yG K (.type "tuple") (.type "int")=some false:=by kernel_rfl
def kit_is'{K:zZ}:yG K (.type "int") (.type "str")=some false:=by kernel_rfl
def OH{K:zZ}:yG K (.type "str") (.type "str")=some true:=by kernel_rfl
def MN{K:zZ}:yG K (.type "tuple") (.type "str")=some false:=by kernel_rfl
def Ek{K:zZ}:yG K (.type "int") (.type "tuple")=some false:=by kernel_rfl
def ZP0{K:zZ}:yG K (.type "str") (.type "tuple")=some false:=by kernel_rfl
def N0{K:zZ}:yG K (.type "tuple") (.type "tuple")=some true:=by kernel_rfl
def WS:az "isinstance" = some (.builtin "isinstance"):=by decide +kernel
def Ln:az "all" = some (.builtin "all"):=by decide +kernel
def Jr:az "max" = some (.builtin "max"):=by decide +kernel
def C4:az "min" = some (.builtin "min"):=by decide +kernel
def J8:az "abs" = some (.builtin "abs"):=by decide +kernel
def YU:az "len" = some (.builtin "len"):=by decide +kernel
def Hf:az "bool" = some (.type "bool"):=by decide +kernel
def Od:az "int" = some (.type "int"):=by decide +kernel
def QO:az "str" = some (.type "str"):=by decide +kernel
def QK:az "tuple" = some (.type "tuple"):=by decide +kernel
def Ph:az "list" = some (.type "list"):=by decide +kernel
inductive Vz(x y:V)(H:Hp)(Q:VK):Prop
 |mk(i j:_)(_:x=.str i)(_:y=.str j)(_:Q (.bl (!decide (j.cps.toList<i.cps.toList))) H)
def Op:Y7 X (aA .LtE) (Vz):=by
 intro kR s σ H x y v u Q I rx ry h;let⟨i,j,rfl,rfl,q⟩:=h;let⟨t,rfl⟩:=rx;let⟨t',rfl⟩:=ry;exact PySem.P.le_str (Yp I q (by simp))
inductive V0(K':zZ)(x y:V)(H:Hp)(Q:VK):Prop
 |mk(p b xs:_)(_:x=.ref p)(_:y=.ref b)(_:ZI K' H p xs)(_:ZI K' H b [])(_:Q (.bl xs.isEmpty) H)
def Kb(hu:X.A.units<cLine):Y7 X (aA .Eq) (V0 X.K):=by
 intro kR s σ H x y v u Q I rx ry h;let⟨p,b,xs,rfl,rfl,h1,h2,q⟩:=h;cases rx;cases ry;let⟨jk,r1,p1,z1⟩:=I.list h1;let⟨its2,r2,p2,z2⟩:=I.list h2;let l1:=r1.length;let l2:=r2.length;let e2:its2=[]:=vI (by rw[<-l2];rfl)
 subst e2
 cases xs with
 | nil=>
  let e1:jk=[]:=vI (by rw[<-l1];rfl)
  subst e1;exact PySem.SeqAt.eq_listAt (e:=λ_=>true) p1.isList p2.isList Z hu (λj h1 _=>absurd h1 (by simp)) (Yp I q (by simp))
 | cons x r=>exact PySem.SeqAt.eq_list_lengthsAt p1.isList p2.isList (by simp;intro e;subst e;simp at l1) hu (Yp I q Z)
def ZQw(i j:Int):Prop:=0<j/\j.natAbs.log2<9000
def Ao:Y7 X (binaryOp .FloorDiv) (rI ZQw λi j=>.int (i / j)):=Ny λi j _ _ _ _ _ hc q=>by
 let h1:(0:Int)<j:=hc.1;exact floordiv_int (by lia) (by rw[pW i (by lia)];exact q) (.inl (PyProof.noPylong_of_log2 hc.2))
inductive Qz(x:V)(vs:jh)(H:Hp)(Q:VK):Prop
 |mk(l:aj)(xs:jh)(i:Nat)(y:V)(_:x=.ref l)(_:vs=[.int (i:Int),y])(_:H l=some (.lst xs))(_:i<=xs.length)(_:xs.length<ar)(_:Q .non (upd H l (.lst (xs.take i++y::xs.drop i))))
def ZFu{l:aj}{jk:jg}{n:Nat}{x:Int}{t:Tok}{u:ai}{A:ay}{prog:ao}{w:ax}{E:ja}{s:am}{Q:ja}(e:s.heap.get? l=some { cls:=.type "list",data:=.seq jk.toArray n })(hx:Builtin.List.listFitsIndex x=true)(hz:jk.length<=ar)(x0:0<=x)(x1:x.toNat<=jk.length)(h:∀ g:jV->jV,g jk.toArray=(jk.take x.toNat++u::jk.drop x.toNat).toArray->Q .none { s with heap:=s.heap.update l (Obj.mapSeq g) }):aC (aB prog w) A (call (.builtin "list.insert") [.ref l,.int x t,u]) Q E s:=by
 refine call_meets F.slot_list_insert ⟨_,e,Z⟩ F.entry_list_insert (F.args_list_insert_3 _ _ _) (PySem.AutoSeq1.list_insert_list_int_val_1 l jk.toArray n x t u (by rw[hx];exact zS) (by rw[zM];exact hz)) ⟨e,h _ ?_⟩
 let n1:¬ (x<0):=by lia
 let n2:min x.toNat jk.length=x.toNat:=by lia
 simp only[zM,n1,if_false,n2];apply vF.mp;simp;exact yS (by rw[xR];exact zX _)
def FD:Nz X "list.insert" Qz:=by
 intro kR s σ H x vs v us Q I rx rv h;let⟨l,xs,i,y,rfl,rfl,hH,hi,hz,q⟩:=h;cases rx;let⟨u1,u2,rfl,⟨t,rfl⟩,r2⟩:=rv.two;let⟨z,jk,n,r,hl,e⟩:=I.lstM hH;let h63:=OP;let ei:(i:Int).toNat=i:=vL i;let fits:Builtin.List.listFitsIndex (i:Int)=true:=by
  unfold Builtin.List.listFitsIndex;let a1:(-(2 ^ 63:Int)<=(i:Int)):=by lia
  let a2:((i:Int)<2 ^ 63):=by lia
  exact Bool.and_eq_true_iff.mpr ⟨aI a1,aI a2⟩
 refine ZFu e fits (by rw[<-hl];exact z) (by lia) (by rw[ei,<-hl];exact hi) λg hg=>?_
 rw[ei] at hg;refine⟨.non,_,I.lset (its':=jk.take i++u2::jk.drop i) hH e hg ((r.take i).append (.cons r2 (r.drop i))) ?_,Z,q⟩;rw[zT,zU,yK,xR];lia
inductive Q6(K':zZ)(xs:jh)(H:Hp)(Q:VK):Prop
 |mk(p:aj)(bs:List Bool)(_:xs=[.ref p])(_:ZI K' H p (bs.map V.bl))(_:Q (.bl (bs.all id)) H)
def Mh(hc:X.calm=true):Wg X (.builtin "all") (Q6 X.K):=by
 intro kR s σ H xs us Q I r h;let⟨p,bs,rfl,hq,q⟩:=h;let⟨u,rfl,rx⟩:=Wk r;cases rx;let⟨jk,rv,pl,hz⟩:=I.list hq;let hl:=rv.length;let hlt:p<s.heap.objs.size:=by let⟨_,e,_⟩:=pl.isList;exact zL e
 let jx:p≠s.heap.objs.size:=yN hlt;let hh:=I.ok.hd hc;let tr:∀(i:Nat)(v:ai),jk.toArray[i]? = some v->v=.bool (bs.getD i true):=λi v hv=>by
  let hv':jk[i]? = some v:=by simpa using hv
  let hi:i<jk.length:=(yY.mp hv').1;let hb:i<bs.length:=by rw[zY] at hl;lia
  let⟨u,e1,e2⟩:=rv.get (i:=i) (x:=.bl bs[i]) (by rw[zC,zV hb];rfl)
  rw[hv'] at e1;cases e1;rw[show v=Value.bool bs[i] from e2,zQ,zV hb];rfl
 refine call_all_walk (wpAny_pyIter_list pl.isList ?_);refine⟨_,_,_,_,_,_,(λi=>bs.getD i true),Z,Walks.list (A:=X.A.in1) hh s.heap.objs.size p jx jk.toArray,⟨⟨_,yP _ Z,Z,Z⟩,pl.isList.push _⟩,λi v s' Q' E' hP hQ=>?_,λh' tk hk=>?_⟩
 ·rw[tr i v hP];exact wpAny_truthy_bool hQ
 ·let e:(zF jk.toArray.size).all (λi=>bs.getD i true)=bs.all id:=by
   rw[zM,<-hl,zY];let e2:bs.all id=((zF bs.length).map λi=>bs.getD i true).all id:=by rw[range_getD]
   rw[e2,uL];rfl
  rw[e];refine⟨.bl (bs.all id),H,I.kept (t':=tk) λb o eb=>hk b o ?_ (zD _ eb),Z,q⟩;intro hm;exact absurd (zL eb) (by rw[zN.mp hm];exact xP _)
section
variable{R:Result->am->Prop}
end
def NU(x:Str):It:=⟨λi _=>i<x.cps.size,λi H v H'=>H'=H/\∃ c,x.cps[i]? = some c/\v=.str ⟨#[c]⟩,λi _=>i=x.cps.size⟩
def E7{P:ao}{w:ax}{K:zZ}{tg:Expr}(ty:String)(hty:["enumerate","zip","dict_itemiterator","dict_reverseitemiterator","odict_iterator","itertools.zip_longest","itertools.pairwise"].contains ty=false)(x:Str)(t:Tok)(it:aj)(W:∀ A:ay,A.handled=none->Walks P w A it [it] [it] x.cps.size (SignAt x) (λi h=>h.IsStrIter it ty x t i))(self:∀ (A:ay) (i:Nat) (s:am) (Q:ja) (E:ja),s.heap.IsStrIter it ty x t i->Q (.ref it) s->aC (aB P w) A (pyIter (.ref it)) Q E s):
  VJ P w K tg (NU x) [it] it (λi h=>h.IsStrIter it ty x t i) where
 mem:=by simp
 obj:=λi h st b hb=>by
  let e:b=it:=by simpa using hb
  subst e;let⟨o,e,c,d⟩:=st;exact⟨o,e,λv z=>by rw[d] at z;cases z⟩
 keep:=λi h h' ⟨o,e,r⟩ k=>⟨o,k it (by simp) o e,r⟩
 item:=by
  intro X hP hw hK hc i kR s σ H E I hf st hg;subst hP hw hK;let⟨f0,f1,f2,f3,f4,f5⟩:=hf it (by simp)
  refine(W X.A (I.ok.hd hc)).item i s _ _ hg st λv h' tk hv st' kk=>?_;let⟨c,u,hx,rfl⟩:=hv;let I1:ZJ X kR σ H { s with heap:=h',toks:=tk }:=I.turned (λb o hb e=>kk b o (by simpa using hb) e) f0 f1 f3 f4 f5
  let⟨o,e,cl,d⟩:=id st';exact⟨_,Z,Nr (s:={ s with heap:=h',toks:=tk }) e cl d hty ⟨.str ⟨#[c]⟩,H,I1,⟨u,Z⟩,⟨Z,c,hx,Z⟩,st',λb hb=>(hf b hb).1⟩⟩
 done:=by
  intro X hP hw hK hc i kR s σ H E I hf st hg;subst hP hw hK;let⟨f0,f1,f2,f3,f4,f5⟩:=hf it (by simp)
  let hi:i=x.cps.size:=hg;subst hi;exact(W X.A (I.ok.hd hc)).done s _ _ st λh' tk kk=>⟨Z,I.turned (λb o hb e=>kk b o (by simpa using hb) e) f0 f1 f3 f4 f5⟩
 self:=self
section
variable{tg:Expr}
inductive NP(R:It->Hp->Prop)(v:V)(H1:Hp):Prop
 |mk(x:_)(_:v=.str x)(_:R (NU x) H1)
def ZRT(tl:TE):TI:=λσ H R=>tl σ H λv H1=>NP R v H1
def Ef{l:Expr}{tl:TE}(hl:PE X l tl):PI X tg l (ZRT tl):=by
 intro kR s σ H R I h;refine Zb (hl kR s σ H _ I h) λv s1 ⟨z,H1,I1,r1,x,e,q⟩=>?_;subst e;let⟨t,rfl⟩:=r1;let fp:∀ b∈[s1.heap.objs.size],VO X kR H1 b:=λb hb=>by
  rw[zN.mp hb];exact I1.fpOk (zX _) (I1.hok.fresh (zX _))
 cases ha:x.cps.all (· < 128)
 ·exact wpAny_pyIter_wide ha ⟨s1.heap.objs.size,[s1.heap.objs.size],_,_,H1,Z,I1.kept (t':=s1.toks) λb o e=>zD _ e,
   E7 "str_iterator" (by decide) x t _ (λA hA=>Walks.strWide hA _ x t) (λA i s Q E st h=>wpAny_pyIter_striter_wide st h),⟨_,yP _ Z,Z,Z⟩,fp,q⟩
 ·exact wpAny_pyIter_ascii ha ⟨s1.heap.objs.size,[s1.heap.objs.size],_,_,H1,Z,I1.kept (t':=s1.toks) λb o e=>zD _ e,
   E7 "str_ascii_iterator" (by decide) x t _ (λA hA=>Walks.strAscii hA _ x t) (λA i s Q E st h=>wpAny_pyIter_striter_ascii st h),⟨_,yP _ Z,Z,Z⟩,fp,q⟩
end
section
variable{σ:St}{H:Hp}{ix:jK}{te:TE}{Q:VK}
def Wa{J:It}{n:Nat}(item:Nat->V->Prop)(Pv:aj->Nat->jh->Hp->Prop)(hn:n<ar)(hgo:∀ D i ys H,i<n->Pv D i ys H->J.go i H)(hy:∀ D i ys H x H',i<n->Pv D i ys H->J.yld i H x H'->H'=H/\item i x)(jI:∀ D ys H,Pv D n ys H->J.stop n H)(h0:∀ D,H D=none->Pv D 0 [] (upd H D (.lst [])))(step:∀ D i ys H x,H D=some (.lst ys)->ys.length<=i->i<n->item i x->Pv D i ys H->∀ R:VK,(∀ y H3,H3 D=some (.lst ys)->Pv D (i+1) (ys++[y]) (upd H3 D (.lst (ys++[y])))->R y H3)->te (N3 σ ix x) H R)(fin:∀ D ys H,H D=some (.lst ys)->Pv D n ys H->Q (.ref D) H):Vy J σ ix JA te H Q:=by
 intro D hD;exists λi m H=>m=n-i/\i<=n/\∃ ys,H D=some (.lst ys)/\ys.length<=i/\Pv D i ys H,⟨n,rfl,zH _,[],ZZ,zX _,h0 D hD⟩;rintro i m H ⟨rfl,hi,ys,e,hl,p⟩;by_cases hlt:i<n
 ·refine .inr ⟨hgo D i ys H hlt p,λx H' y=>?_⟩;let⟨rfl,it⟩:=hy D i ys H x H' hlt p y;unfold JA;dsimp only;rw[aK rfl];refine step D i ys _ x e hl hlt it p _ λy H3 e3 p3=>?_;exact⟨ys,n-(i+1),e3,by lia,by lia,Z,hlt,ys++[y],ZZ,by rw[zT,vP];lia,p3⟩
 ·let e':i=n:=by lia
  subst e';exact .inl ⟨jI D ys H p,fin D ys H e p⟩
end
end L2
namespace _T
open PySem
inductive KT where
 | int (i:Int)
 | str (x:Str)
 | tup (l:List KT)
abbrev jM:=List KT
mutual
def KT.depth:KT->Nat
 | .int _=>0
 | .str _=>0
 | .tup l=>1+kN l
def kN:jM->Nat
 | []=>0
 | t::r=>max t.depth (kN r)
end
mutual
def KT.size:KT->Nat
 | .int _=>1
 | .str _=>1
 | .tup l=>1+sizeL l
def sizeL:jM->Nat
 | []=>0
 | t::r=>t.size+sizeL r
end
def UB(c:Nat):Bool:=decide (32<=c)&&decide (c<=126)
def Qj(x:Str):Bool:=decide (x.length<=40)&&x.cps.toList.all UB
mutual
def KT.fits:KT->Nat->Bool
 | .int i,_=>decide (i.natAbs<10 ^ 60)
 | .str x,_=>Qj x
 | .tup l,r=>decide (0<r)&&(decide (l.length<=4)&&fitsL l (r-1))
def fitsL:jM->Nat->Bool
 | [],_=>true
 | t::l,r=>t.fits r&&fitsL l r
end
def Q1(r:Nat):∀ l:jM,fitsL l r=l.all λt=>t.fits r
 | []=>by simp[fitsL]
 | t::l=>by rw[fitsL,vN,Q1 r l]
mutual
def Uj:∀(t:KT)(r:Nat),t.fits r=true->t.depth<=r
 | .int _,r,_=>by rw[KT.depth];exact zH _
 | .str _,r,_=>by rw[KT.depth];exact zH _
 | .tup l,r,h=>by
  rw[KT.fits,zP,zP] at h;let⟨h1,_,h3⟩:=h;let h1':0<r:=of_decide_eq_true h1;have:=fitsL_depth l (r-1) h3;rw[KT.depth];lia
def fitsL_depth:∀(l:jM)(r:Nat),fitsL l r=true->kN l<=r
 | [],r,_=>by rw[kN];exact zH _
 | t::l,r,h=>by
  rw[fitsL,zP] at h;let a:=Uj t r h.1;let b:=fitsL_depth l r h.2;rw[kN];lia
end
def KT.things:KT->jM
 | .tup l=>l
 | _=>[]
def below(l:jM):jM:=l.flatMap KT.things
end _T
namespace _T
open PySem PySem.Spec L2
structure ZA(P:ao)(w:ax)(K:zZ)(mg:jd)(kT:aD)(k:Nat)(x:Str)(ps:jP)(sp:Sp):Prop where
 ex:∃ f fd,ZK P w K mg kT ZV k f fd ps sp/\Zz K fd ps []/\xZ K (.ref f)=true/\mg x=some (.ref f)
def Zc{X:Cx}{k:Nat}{x:Str}{ps:jP}{sp:Sp}{e:Expr}{es:jU}{t:TA}{p pos:Pos}(D:ZA X.prog X.w X.K X.mg X.base k x ps sp)(hr:Zf k X.A)(ha:PA X (e::es) t)(hg:Gl X x:=by rfl)(jy:(x==("__debug__" : Str))=false:=by decide)(he:aw (e::es) X.env=(false,aF e X.env)::aw es X.env:=by rfl)(jp:(aE pos (aw es X.env)).any (·.1)=false:=by rfl):
  PE X (.Call (.Name x p) (e::es) [] pos) (Fx sp [] E0 t):=by
 let⟨f,fd,F,b,kp,m⟩:=D.ex;exact ZNU F hr hg m kp b .nil Yd ha jy he jp
mutual
def ZE(H:Hp):KT->V->Prop
 | .int i,v=>v=.int i
 | .str x,v=>v=.str x
 | .tup l,v=>∃ a vs,v=.ref a/\H a=some (.tup vs)/\kK H l vs
def kK(H:Hp):jM->jh->Prop
 | [],vs=>vs=[]
 | t::l,vs=>∃ v r,vs=v::r/\ZE H t v/\kK H l r
end
def YD(H H':Hp):Prop:=∀ b xs,H b=some (.tup xs)->H' b=some (.tup xs)
mutual
def ZE.mono{H H':Hp}(m:YD H H'):∀(t:KT)(v:V),ZE H t v->ZE H' t v
 | .int _,_,h=>by rw[ZE] at h⊢;exact h
 | .str _,_,h=>by rw[ZE] at h⊢;exact h
 | .tup l,_,h=>by
  rw[ZE] at h⊢;let⟨a,vs,e,h1,h2⟩:=h;exact⟨a,vs,e,m a vs h1,kK.mono m l vs h2⟩
def kK.mono{H H':Hp}(m:YD H H'):∀(l:jM)(vs:jh),kK H l vs->kK H' l vs
 | [],_,h=>by rw[kK] at h⊢;exact h
 | t::l,_,h=>by
  rw[kK] at h⊢;let⟨v,r,e,h1,h2⟩:=h;exact⟨v,r,e,ZE.mono m t v h1,kK.mono m l r h2⟩
end
def kK.nil{H:Hp}:kK H [] []:=by rw[kK]
def kK.cons{H:Hp}{t:KT}{l:jM}{v:V}{r:jh}(h:ZE H t v)(hr:kK H l r):kK H (t::l) (v::r):=by
 rw[kK];exact⟨v,r,Z,h,hr⟩
def ZE.tup{H:Hp}{a:aj}{vs:jh}{l:jM}(e:H a=some (.tup vs))(h:kK H l vs):ZE H (.tup l) (.ref a):=by
 rw[ZE];exact⟨a,vs,Z,e,h⟩
def ZE.int{H:Hp}(i:Int):ZE H (.int i) (.int i):=by rw[ZE]
def ZE.str{H:Hp}(x:Str):ZE H (.str x) (.str x):=by rw[ZE]
def kK.append{H:Hp}:∀{l m:jM}{vs ws:jh},kK H l vs->kK H m ws->kK H (l++m) (vs++ws)
 | [],m,vs,ws,h,g=>by rw[kK] at h;subst h;exact g
 | t::l,m,vs,ws,h,g=>by
  rw[kK] at h;let⟨v,r,rfl,h1,h2⟩:=h;exact .cons h1 (h2.append g)
def kK.length{H:Hp}:∀{l:jM}{vs:jh},kK H l vs->l.length=vs.length
 | [],vs,h=>by rw[kK] at h;subst h;rfl
 | t::l,vs,h=>by
  rw[kK] at h;let⟨v,r,rfl,_,h2⟩:=h;rw[zU,zU,h2.length]
def kK.get{H:Hp}:∀{l:jM}{vs:jh}{i:Nat}{v:V},kK H l vs->vs[i]? = some v->∃ t,l[i]? = some t/\ZE H t v
 | [],vs,i,v,h,e=>by rw[kK] at h;subst h;simp at e
 | t::l,vs,0,v,h,e=>by
  rw[kK] at h;let⟨v',r,rfl,h1,_⟩:=h;simp at e;subst e;exact⟨t,Z,h1⟩
 | t::l,vs,i+1,v,h,e=>by
  rw[kK] at h;let⟨v',r,rfl,_,h2⟩:=h;let⟨t',e1,e2⟩:=h2.get (i:=i) (by simpa using e)
  exact⟨t',by simpa using e1,e2⟩
def KT.ty:KT->ai
 | .int _=>.type "int"
 | .str _=>.type "str"
 | .tup _=>.type "tuple"
def ZE.ty{H:Hp}{K:zZ}{t:KT}{v:V}(h:ZE H t v):XF K H v t.ty:=by
 cases t with
 | int i=>rw[ZE] at h;subst h;exact .int i
 | str x=>rw[ZE] at h;subst h;exact .str x
 | tup l=>rw[ZE] at h;let⟨a,vs,rfl,e,_⟩:=h;exact .tup e
def ZG(p:aj)(H H':Hp):Prop:=∀ b o,H b=some o->b≠p->H' b=some o
def ZG.refl(p:aj)(H:Hp):ZG p H H:=λ_ _ h _=>h
def ZG.trans{p:aj}{H H1 H2:Hp}(a:ZG p H H1)(b:ZG p H1 H2):ZG p H H2:=λc o h n=>b c o (a c o h n) n
def ZG.upd{p:aj}{H H':Hp}{o:HO}(a:ZG p H H'):ZG p H (L2.upd H' p o):=λc u h n=>by rw[ZY n];exact a c u h n
def ZG.of{p:aj}{H H':Hp}(a:ZC H H'):ZG p H H':=λc o h _=>a c o h
def ZG.tups{p:aj}{H H':Hp}{xs:jh}(a:ZG p H H')(h:H p=some (.lst xs)):YD H H':=λb ys e=>a b _ e (Zg e h (by intro z;cases z))
def ZC.tups{H H':Hp}(a:ZC H H'):YD H H':=λb ys e=>a b _ e
def Zq{H:Hp}{p:aj}(h:H p=none)(o:HO):ZC H (L2.upd H p o):=λb u q=>by rw[ZY (Ze q h)];exact q
structure ZS(H:Hp)(p:aj):Prop where
 ex:∃ a b c d:Int,H p=some (.lst [.int a,.int b,.int c,.int d])/\0<=a/\a<2147483647/\0<=c/\0<=d
def ZS.stay{H H':Hp}{p q:aj}(w:ZS H p)(s:ZG q H H')(n:p≠q):ZS H' p:=by
 let⟨a,b,c,d,e,r⟩:=w.ex;exact⟨a,b,c,d,s p _ e n,r⟩
def ZS.same{H H':Hp}{p:aj}(w:ZS H p)(s:ZC H H'):ZS H' p:=by
 let⟨a,b,c,d,e,r⟩:=w.ex;exact⟨a,b,c,d,s p _ e,r⟩
def ZS.some{H:Hp}{p:aj}(w:ZS H p):∃ xs,H p=yL (.lst xs):=by
 let⟨a,b,c,d,e,r⟩:=w.ex;exact⟨_,e⟩
def ZG.tupsW{p:aj}{H H':Hp}(a:ZG p H H')(w:ZS H p):YD H H':=by
 let⟨xs,e⟩:=w.some;exact a.tups e
def small(m:Int):Prop:=0<m/\m.natAbs.log2<9000
inductive V8(K:zZ)(vs:jh)(H:Hp)(Q:VK)(_:XK):Prop
 |mk(a:aj)(ns:jX)(k:Int)(_:vs=[.ref a,.int k])(_:ZI K H a (ns.map V.int))(_:ns.length<=63)(_:0<=k)(_:k<=1000)(_:∀(p:aj)(H':Hp),H p=none->ZC H H'->ZS H' p->Q (.ref p) H')
inductive Z6(vs:jh)(H:Hp)(Q:VK)(_:XK):Prop
 |mk(p:aj)(m:Int)(_:vs=[.ref p,.int m])(_:ZS H p)(_:small m)(_:∀(r:Int)(H':Hp),0<=r->r<m->ZS H' p->ZG p H H'->Q (.int r) H')
inductive WG(vs:jh)(H:Hp)(Q:VK)(_:XK):Prop
 |mk(p:aj)(_:vs=[.ref p])(_:ZS H p)(_:∀(x:Str)(H':Hp),Qj x=true->ZS H' p->ZG p H H'->Q (.str x) H')
inductive Xp(n:Nat)(vs:jh)(H:Hp)(Q:VK)(_:XK):Prop
 |mk(p:aj)(r:Nat)(_:vs=[.ref p,.int (r:Int)])(_:ZS H p)(_:r<n)(_:∀(v:V)(t:KT)(H':Hp),ZE H' t v->t.fits r=true->ZS H' p->ZG p H H'->Q v H')
inductive Xh(n:Nat)(vs:jh)(H:Hp)(Q:VK)(_:XK):Prop
 |mk(v:V)(t:KT)(r q:Nat)(_:vs=[v,.int (r:Int)])(_:ZE H t v)(_:t.fits q=true)(_:r<n)(_:∀ H',ZC H H'->Q (.bl (t.fits r)) H')
inductive UV(vs:jh)(H:Hp)(Q:VK)(_:XK):Prop
 |mk(i:Int)(_:vs=[.int i])(_:Q (.bl (decide (i.natAbs<10 ^ 60))) H)
inductive VN(vs:jh)(H:Hp)(Q:VK)(_:XK):Prop
 |mk(c:Nat)(_:vs=[.str ⟨#[c]⟩])(_:Q (.bl (UB c)) H)
inductive VM(vs:jh)(H:Hp)(Q:VK)(_:XK):Prop
 |mk(v:V)(t:KT)(q:Nat)(_:vs=[v])(_:ZE H t v)(_:t.fits q=true)(_:∀ H',ZC H H'->Q (.bl (t.fits 3)) H')
inductive UD(K:zZ)(vs:jh)(H:Hp)(Q:VK)(_:XK):Prop
 |mk(a:aj)(ns:jX)(_:vs=[.ref a])(_:ZI K H a (ns.map V.int))(_:ns.length<=63)(_:∀ H',Q (.bl true) H')
def nn{n:Nat}(h:n<=1000):n<=sizeLine:=yV (YF h)
def N6{x y:V}{i:Int}(h0:0<=i)(h1:i<2):∃ v,VD [x,y] i=some v/\(v=x\/v=y):=by
 rcases(show i=0\/i=1 by lia) with e | e
 ·subst e;exact⟨x,Z,.inl Z⟩
 ·subst e;exact⟨y,Z,.inr Z⟩
def KP{α:Type}{xs:List α}{i:Int}(h0:0<=i)(h1:i<(xs.length:Int)):∃ v,VD xs i=some v/\v∈xs:=by
 let hk:i.toNat<xs.length:=by lia
 let e:i=((i.toNat:Nat):Int):=by lia
 rw[e];exact⟨xs[i.toNat],Yj (zV hk),yD hk⟩
def Wf{m:Int}(h0:0<m)(h1:m.natAbs<2 ^ 250):small m:=by
 exists h0;have:m.natAbs.log2<250:=(Nat.log2_lt (by lia)).mpr h1
 lia
def LF{i j:Int}(h:V.int i=V.int j):i=j:=by injection h
def Df(c:Nat):((!decide ([c]<[32])) && !decide ([126]<[c]))=UB c:=by
 unfold UB;let a:([c]<[32]) ↔ c<32:=by simp[vJ]
 let b:([126]<[c]) ↔ 126<c:=by simp[vJ]
 rw[wL];simp only[zP,tI,decide_eq_false_iff_not,decide_eq_true_eq,a,b];lia
def ZOm(i:Int):decide ((if i<0 then -i else i)<10 ^ (60:Int).toNat)=decide (i.natAbs<10 ^ 60):=by
 let e:((10:Int) ^ (60:Int).toNat)=((10 ^ 60:Nat):Int):=by decide +kernel
 rw[e];generalize (10 ^ 60:Nat)=N;apply decide_eq_decide.mpr;split <;> lia
end _T
namespace _T
open PySem
mutual
def KT.eqb:KT->KT->Bool
 | .int i,.int j=>i==j
 | .str x,.str y=>x==y
 | .tup l,.tup m=>kM l m
 | _,_=>false
def kM:jM->jM->Bool
 | [],[]=>true
 | a::l,b::m=>a.eqb b&&kM l m
 | _,_=>false
end
mutual
def KT.plt:KT->KT->Bool
 | .int i,.int j=>decide (i<j)
 | .str x,.str y=>decide (x.cps.toList<y.cps.toList)
 | .tup l,.tup m=>pltL l m
 | _,_=>false
def pltL:jM->jM->Bool
 | [],[]=>false
 | [],_::_=>true
 | _::_,[]=>false
 | a::l,b::m=>if a.eqb b=true then pltL l m else a.plt b
end
mutual
def KT.cmp:KT->KT->Bool
 | .int _,.int _=>true
 | .str _,.str _=>true
 | .tup l,.tup m=>cmpL l m
 | _,_=>false
def cmpL:jM->jM->Bool
 | [],_=>true
 | _::_,[]=>true
 | a::l,b::m=>if a.eqb b=true then cmpL l m else a.cmp b
end
def KT.kind:KT->Nat
 | .int _=>0
 | .str _=>1
 | .tup _=>2
mutual
def KT.lt:KT->KT->Bool
 | .int i,.int j=>decide (i<j)
 | .int _,.str _=>true
 | .int _,.tup _=>true
 | .str _,.int _=>false
 | .str x,.str y=>decide (x.cps.toList<y.cps.toList)
 | .str _,.tup _=>true
 | .tup _,.int _=>false
 | .tup _,.str _=>false
 | .tup l,.tup m=>ltL l m
def ltL:jM->jM->Bool
 | [],[]=>false
 | [],_::_=>true
 | _::_,[]=>false
 | a::l,b::m=>if a.eqb b=true then ltL l m else a.lt b
end
mutual
def KT.st:KT->KT
 | .int i=>.tup [.int 0,.int i]
 | .str x=>.tup [.int 1,.str x]
 | .tup l=>.tup [.int 2,.tup (stL l)]
def stL:jM->jM
 | []=>[]
 | t::l=>t.st::stL l
end
def Ff:∀ l:jM,stL l=l.map KT.st
 | []=>by rw[stL];rfl
 | t::l=>by rw[stL,Ff l];rfl
mutual
def Pg:∀(a b:KT),a.eqb b=true->a=b
 | .int i,.int j,h=>by rw[KT.eqb] at h;rw[eq_of_beq h]
 | .str x,.str y,h=>by rw[KT.eqb] at h;rw[eq_of_beq h]
 | .tup l,.tup m,h=>by rw[KT.eqb] at h;rw[eqbL_eq l m h]
 | .int _,.str _,h=>by simp[KT.eqb] at h
 | .int _,.tup _,h=>by simp[KT.eqb] at h
 | .str _,.int _,h=>by simp[KT.eqb] at h
 | .str _,.tup _,h=>by simp[KT.eqb] at h
 | .tup _,.int _,h=>by simp[KT.eqb] at h
 | .tup _,.str _,h=>by simp[KT.eqb] at h
def eqbL_eq:∀(l m:jM),kM l m=true->l=m
 | [],[],_=>rfl
 | a::l,b::m,h=>by
  rw[kM,zP] at h;rw[Pg a b h.1,eqbL_eq l m h.2]
 | [],_::_,h=>by simp[kM] at h
 | _::_,[],h=>by simp[kM] at h
end
mutual
def PF:∀ a:KT,a.eqb a=true
 | .int i=>by rw[KT.eqb];exact beq_self_eq_true i
 | .str x=>by rw[KT.eqb];exact beq_self_eq_true x
 | .tup l=>by rw[KT.eqb];exact eqbL_self l
def eqbL_self:∀ l:jM,kM l l=true
 | []=>by rw[kM]
 | a::l=>by rw[kM,PF a,eqbL_self l];rfl
end
def Yi{a b:KT}:a.eqb b=true ↔ a=b:=⟨Pg a b,λe=>by rw[e];exact PF b⟩
mutual
def Gd:∀ a b:KT,a.st.eqb b.st=a.eqb b
 | .int i,.int j=>by simp[KT.st,KT.eqb,kM]
 | .str x,.str y=>by simp[KT.st,KT.eqb,kM]
 | .tup l,.tup m=>by simp[KT.st,KT.eqb,kM,eqbL_st l m]
 | .int _,.str _=>by simp[KT.st,KT.eqb,kM]
 | .int _,.tup _=>by simp[KT.st,KT.eqb,kM]
 | .str _,.int _=>by simp[KT.st,KT.eqb,kM]
 | .str _,.tup _=>by simp[KT.st,KT.eqb,kM]
 | .tup _,.int _=>by simp[KT.st,KT.eqb,kM]
 | .tup _,.str _=>by simp[KT.st,KT.eqb,kM]
def eqbL_st:∀ l m:jM,kM (stL l) (stL m)=kM l m
 | [],[]=>by simp[stL,kM]
 | a::l,b::m=>by simp[stL,kM,Gd a b,eqbL_st l m]
 | [],_::_=>by simp[stL,kM]
 | _::_,[]=>by simp[stL,kM]
end
def Ex:∀ l:jM,ltL l l=false
 | []=>by rw[ltL]
 | a::l=>by rw[ltL,PF a,aK rfl,Ex l]
def G0{l m:jM}(h:kM l m=true):ltL l m=false:=by
 rw[eqbL_eq l m h];exact Ex m
mutual
def Hw:∀ a b:KT,a.st.cmp b.st=true
 | .int i,.int j=>by simp[KT.st,KT.eqb,KT.cmp,cmpL]
 | .str x,.str y=>by simp[KT.st,KT.eqb,KT.cmp,cmpL]
 | .tup l,.tup m=>by simp[KT.st,KT.eqb,KT.cmp,cmpL,cmpL_st l m]
 | .int _,.str _=>by simp[KT.st,KT.eqb,KT.cmp,cmpL]
 | .int _,.tup _=>by simp[KT.st,KT.eqb,KT.cmp,cmpL]
 | .str _,.int _=>by simp[KT.st,KT.eqb,KT.cmp,cmpL]
 | .str _,.tup _=>by simp[KT.st,KT.eqb,KT.cmp,cmpL]
 | .tup _,.int _=>by simp[KT.st,KT.eqb,KT.cmp,cmpL]
 | .tup _,.str _=>by simp[KT.st,KT.eqb,KT.cmp,cmpL]
def cmpL_st:∀ l m:jM,cmpL (stL l) (stL m)=true
 | [],_=>by simp[stL,cmpL]
 | _::_,[]=>by simp[stL,cmpL]
 | a::l,b::m=>by
  rw[stL,stL,cmpL,cmpL_st l m,Hw a b];split <;> rfl
end
mutual
def GZ:∀ a b:KT,a.st.plt b.st=a.lt b
 | .int i,.int j=>by
  simp only[KT.st,KT.eqb,KT.plt,pltL,KT.lt,beq_self_eq_true,if_true];by_cases h:i=j
  ·subst h;simp
  ·simp[h]
 | .str x,.str y=>by
  simp only[KT.st,KT.eqb,KT.plt,pltL,KT.lt,beq_self_eq_true,if_true];by_cases h:x=y
  ·subst h;simp
  ·simp[h]
 | .tup l,.tup m=>by
  simp only[KT.st,KT.eqb,KT.plt,pltL,KT.lt,beq_self_eq_true,if_true,eqbL_st,pltL_st l m]
  cases h:kM l m with
  | true=>rw[aK rfl,G0 h]
  | false=>rw[aJ zS]
 | .int _,.str _=>by simp[KT.st,KT.eqb,KT.plt,pltL,KT.lt]
 | .int _,.tup _=>by simp[KT.st,KT.eqb,KT.plt,pltL,KT.lt]
 | .str _,.int _=>by simp[KT.st,KT.eqb,KT.plt,pltL,KT.lt]
 | .str _,.tup _=>by simp[KT.st,KT.eqb,KT.plt,pltL,KT.lt]
 | .tup _,.int _=>by simp[KT.st,KT.eqb,KT.plt,pltL,KT.lt]
 | .tup _,.str _=>by simp[KT.st,KT.eqb,KT.plt,pltL,KT.lt]
def pltL_st:∀ l m:jM,pltL (stL l) (stL m)=ltL l m
 | [],[]=>by simp[stL,pltL,ltL]
 | [],_::_=>by simp[stL,pltL,ltL]
 | _::_,[]=>by simp[stL,pltL,ltL]
 | a::l,b::m=>by rw[stL,stL,pltL,ltL,Gd a b,pltL_st l m,GZ a b]
end
mutual
def EA:∀ t:KT,t.st.depth<=2 * t.depth+1
 | .int i=>by simp[KT.st,KT.depth,kN]
 | .str x=>by simp[KT.st,KT.depth,kN]
 | .tup l=>by
  have:=depthL_st l;simp only[KT.st,KT.depth,kN];lia
def depthL_st:∀ l:jM,kN (stL l)<=2 * kN l+1
 | []=>by simp[stL,kN]
 | t::l=>by
  let a:=EA t;let b:=depthL_st l;rw[stL,kN,kN];lia
end
def HW{x:Str}(h:Qj x=true):x.cps.size<=40/\x.cps.toList.all UB=true:=by
 unfold Qj at h;rw[zP] at h;exact⟨of_decide_eq_true h.1,h.2⟩
def Ei:∀(l m:jK),l<m->¬ m<l
 | [],[],h,_=>absurd h (uJ _)
 | [],_::_,_,h=>absurd h (uJ _)
 | _::_,[],h,_=>absurd h (uJ _)
 | a::l,b::m,h,h'=>by
  rw[vJ] at h h';rcases h with h | ⟨rfl,h⟩
  ·rcases h' with h' | ⟨rfl,h'⟩
   ·lia
   ·lia
  ·rcases h' with h' | ⟨_,h'⟩
   ·lia
   ·exact Ei l m h h'
def GA:∀(l m:jK),¬ l<m->¬ m<l->l=m
 | [],[],_,_=>rfl
 | [],_::_,h,_=>absurd (sH _ _) h
 | _::_,[],_,h=>absurd (sH _ _) h
 | a::l,b::m,h,h'=>by
  rw[vJ] at h h';let e:a=b:=by
   rcases Nat.lt_trichotomy a b with c | c | c
   ·exact absurd (.inl c) h
   ·exact c
   ·exact absurd (.inl c) h'
  subst e;rw[GA l m (λz=>h (.inr ⟨rfl,z⟩)) λz=>h' (.inr ⟨rfl,z⟩)]
def FX:∀(l m k:jK),l<m->m<k->l<k
 | _,_,[],_,h=>absurd h (uJ _)
 | [],_,_::_,_,_=>sH _ _
 | _::_,[],_,h,_=>absurd h (uJ _)
 | a::l,b::m,c::k,h,h'=>by
  rw[vJ] at h h'⊢;rcases h with h | ⟨rfl,h⟩
  ·rcases h' with h' | ⟨rfl,h'⟩
   ·exact .inl (vW h h')
   ·exact .inl h
  ·rcases h' with h' | ⟨rfl,h'⟩
   ·exact .inl h'
   ·exact .inr ⟨Z,FX l m k h h'⟩
def eqb_comm'(a b:KT):a.eqb b=b.eqb a:=by
 rw[wL,Yi,Yi];exact eq_comm
mutual
def FS:∀(a b:KT),a.lt b=true->b.lt a=false
 | .int i,.int j,h=>by rw[KT.lt] at h⊢;have:=of_decide_eq_true h;exact aH (by lia)
 | .int _,.str _,_=>by rw[KT.lt]
 | .int _,.tup _,_=>by rw[KT.lt]
 | .str _,.int _,h=>by rw[KT.lt] at h;cases h
 | .str x,.str y,h=>by rw[KT.lt] at h⊢;exact aH (Ei _ _ (of_decide_eq_true h))
 | .str _,.tup _,_=>by rw[KT.lt]
 | .tup _,.int _,h=>by rw[KT.lt] at h;cases h
 | .tup _,.str _,h=>by rw[KT.lt] at h;cases h
 | .tup l,.tup m,h=>by rw[KT.lt] at h⊢;exact ltL_asym l m h
def ltL_asym:∀(l m:jM),ltL l m=true->ltL m l=false
 | [],[],h=>by rw[ltL] at h;cases h
 | [],_::_,_=>by rw[ltL]
 | _::_,[],h=>by rw[ltL] at h;cases h
 | a::l,b::m,h=>by
  rw[ltL] at h⊢;rw[eqb_comm' b a]
  cases e:a.eqb b with
  | true=>rw[e,aK rfl] at h;rw[aK rfl];exact ltL_asym l m h
  | false=>rw[e,aJ zS] at h;rw[aJ zS];exact FS a b h
end
mutual
def Iu:∀(a b:KT),a.lt b=false->b.lt a=false->a=b
 | .int i,.int j,h,h'=>by rw[KT.lt] at h h';have:=of_decide_eq_false h;have:=of_decide_eq_false h';rw[show i=j by lia]
 | .int _,.str _,h,_=>by rw[KT.lt] at h;cases h
 | .int _,.tup _,h,_=>by rw[KT.lt] at h;cases h
 | .str _,.int _,_,h=>by rw[KT.lt] at h;cases h
 | .str x,.str y,h,h'=>by
  rw[KT.lt] at h h';let e:=GA _ _ (of_decide_eq_false h) (of_decide_eq_false h');let⟨⟨x⟩⟩:=x;let⟨⟨y⟩⟩:=y;dsimp only at e;rw[e]
 | .str _,.tup _,h,_=>by rw[KT.lt] at h;cases h
 | .tup _,.int _,_,h=>by rw[KT.lt] at h;cases h
 | .tup _,.str _,_,h=>by rw[KT.lt] at h;cases h
 | .tup l,.tup m,h,h'=>by rw[KT.lt] at h h';rw[ltL_total l m h h']
def ltL_total:∀(l m:jM),ltL l m=false->ltL m l=false->l=m
 | [],[],_,_=>rfl
 | [],_::_,h,_=>by rw[ltL] at h;cases h
 | _::_,[],_,h=>by rw[ltL] at h;cases h
 | a::l,b::m,h,h'=>by
  rw[ltL] at h h';rw[eqb_comm' b a] at h'
  cases e:a.eqb b with
  | true=>rw[e,aK rfl] at h h';rw[Yi.mp e,ltL_total l m h h']
  | false=>
   rw[e,aJ zS] at h h';have:=Iu a b h h';rw[this,PF] at e;cases e
end
def On(a:KT):a.lt a=false:=by
 cases h:a.lt a with
 | false=>rfl
 | true=>have:=FS a a h;rw[h] at this;cases this
mutual
def lt_trans':∀(a b c:KT),a.lt b=true->b.lt c=true->a.lt c=true
 | .int i,.int j,.int k,h,h'=>by rw[KT.lt] at h h'⊢;have:=of_decide_eq_true h;have:=of_decide_eq_true h';exact aI (by lia)
 | .int _,_,.str _,_,_=>by rw[KT.lt]
 | .int _,_,.tup _,_,_=>by rw[KT.lt]
 | .str _,_,.tup _,_,_=>by rw[KT.lt]
 | .int _,.str _,.int _,_,h=>by rw[KT.lt] at h;cases h
 | .int _,.tup _,.int _,_,h=>by rw[KT.lt] at h;cases h
 | .str _,.int _,_,h,_=>by rw[KT.lt] at h;cases h
 | .str x,.str y,.str z,h,h'=>by rw[KT.lt] at h h'⊢;exact aI (FX _ _ _ (of_decide_eq_true h) (of_decide_eq_true h'))
 | .str _,.str _,.int _,_,h=>by rw[KT.lt] at h;cases h
 | .str _,.tup _,.str _,_,h=>by rw[KT.lt] at h;cases h
 | .str _,.tup _,.int _,_,h=>by rw[KT.lt] at h;cases h
 | .tup _,.int _,_,h,_=>by rw[KT.lt] at h;cases h
 | .tup _,.str _,_,h,_=>by rw[KT.lt] at h;cases h
 | .tup l,.tup m,.tup k,h,h'=>by rw[KT.lt] at h h'⊢;exact ltL_trans l m k h h'
 | .tup _,.tup _,.int _,_,h=>by rw[KT.lt] at h;cases h
 | .tup _,.tup _,.str _,_,h=>by rw[KT.lt] at h;cases h
def ltL_trans:∀(l m k:jM),ltL l m=true->ltL m k=true->ltL l k=true
 | _,[],[],_,h=>by rw[ltL] at h;cases h
 | _,_::_,[],_,h=>by rw[ltL] at h;cases h
 | [],_,_::_,_,_=>by rw[ltL]
 | _::_,[],_::_,h,_=>by rw[ltL] at h;cases h
 | a::l,b::m,c::k,h,h'=>by
  rw[ltL] at h h'⊢
  cases e:a.eqb b with
  | true=>
   rw[e,aK rfl] at h;let ab:=Yi.mp e;subst ab
   cases e2:a.eqb c with
   | true=>rw[e2,aK rfl] at h';rw[aK rfl];exact ltL_trans l m k h h'
   | false=>rw[e2,aJ zS] at h';rw[aJ zS];exact h'
  | false=>
   rw[e,aJ zS] at h
   cases e2:b.eqb c with
   | true=>
    let bc:=Yi.mp e2;subst bc;rw[e,aJ zS];exact h
   | false=>
    rw[e2,aJ zS] at h';let ac:=lt_trans' a b c h h'
    cases e3:a.eqb c with
    | true=>
     have:=Yi.mp e3;subst this;rw[On] at ac;cases ac
    | false=>rw[aJ zS];exact ac
end
def le_trans'{a b c:KT}(h1:b.lt a=false)(h2:c.lt b=false):c.lt a=false:=by
 cases h:c.lt a with
 | false=>rfl
 | true=>
  cases h3:a.lt b with
  | true=>rw[lt_trans' c a b h h3] at h2;cases h2
  | false=>rw[Iu a b h3 h1,h2] at h;cases h
end _T
namespace _T
open PySem PySem.Spec L2 PyProof.Rows
mutual
def ZQ(h:aD):KT->ai->Prop
 | .int i,v=>∃ t,v=.int i t
 | .str x,v=>∃ t,v=.str x t
 | .tup l,v=>∃(a:aj)(jk:jg),v=.ref a/\IsTup h a jk.toArray/\kL h l jk
def kL(h:aD):jM->jg->Prop
 | [],vs=>vs=[]
 | t::l,vs=>∃ v r,vs=v::r/\ZQ h t v/\kL h l r
end
section
variable{kR:jO}{σ:L2.St}{H:Hp}
mutual
def Uw(I:ZJ X kR σ H s):∀(t:KT)(x:V)(v:ai),ZE H t x->ZT x v->ZQ s.heap t v
 | .int i,x,v,h,r=>by
  rw[ZE] at h;subst h;rw[ZQ];exact r
 | .str y,x,v,h,r=>by
  rw[ZE] at h;subst h;rw[ZQ];exact r
 | .tup l,x,v,h,r=>by
  rw[ZE] at h;let⟨a,vs,rfl,e,hk⟩:=h;let⟨jk,rv,pl,_⟩:=I.tuple (Zd.of e);rw[ZQ];exact⟨a,jk,r,pl,kvals_of I l vs jk hk rv⟩
def kvals_of(I:ZJ X kR σ H s):∀(l:jM)(vs:jh)(us:jg),kK H l vs->ZR vs us->kL s.heap l us
 | [],vs,us,h,r=>by
  rw[kK] at h;subst h;rw[kL];cases r;rfl
 | t::l,vs,us,h,r=>by
  rw[kK] at h;let⟨v,q,rfl,h1,h2⟩:=h
  cases r with
  | cons r1 r2=>
   rw[kL];exact⟨_,_,Z,Uw I t v _ h1 r1,kvals_of I l q _ h2 r2⟩
end
end
def ZI8{h:aD}{a:aj}{jk its':jg}(x:IsTup h a jk.toArray)(y:IsTup h a its'.toArray):jk=its':=by
 let⟨o,e,_,n,d⟩:=x;let⟨o',e',_,n',d'⟩:=y;rw[e] at e';cases e';rw[d] at d';injection d' with d1 _;simpa using congrArg zEJ d1
mutual
def ZQ.inj{h:aD}:∀(a b:KT)(v:ai),ZQ h a v->ZQ h b v->a.eqb b=true
 | .int i,b,v,x,y=>by
  rw[ZQ] at x;let⟨t,rfl⟩:=x
  cases b with
  | int j=>rw[ZQ] at y;let⟨u,e⟩:=y;injection e with e _;rw[KT.eqb,e];exact beq_self_eq_true j
  | str z=>rw[ZQ] at y;let⟨u,e⟩:=y;cases e
  | tup m=>rw[ZQ] at y;let⟨_,_,e,_⟩:=y;cases e
 | .str w,b,v,x,y=>by
  rw[ZQ] at x;let⟨t,rfl⟩:=x
  cases b with
  | int j=>rw[ZQ] at y;let⟨u,e⟩:=y;cases e
  | str z=>rw[ZQ] at y;let⟨u,e⟩:=y;injection e with e _;rw[KT.eqb,e];exact beq_self_eq_true z
  | tup m=>rw[ZQ] at y;let⟨_,_,e,_⟩:=y;cases e
 | .tup l,b,v,x,y=>by
  rw[ZQ] at x;let⟨p,jk,rfl,px,kx⟩:=x
  cases b with
  | int j=>rw[ZQ] at y;let⟨u,e⟩:=y;cases e
  | str z=>rw[ZQ] at y;let⟨u,e⟩:=y;cases e
  | tup m=>
   rw[ZQ] at y;let⟨q,its',e,py,ky⟩:=y;cases e;cases ZI8 px py;rw[KT.eqb];exact kL.inj l m jk kx ky
def kL.inj{h:aD}:∀(l m:jM)(us:jg),kL h l us->kL h m us->kM l m=true
 | [],m,us,x,y=>by
  rw[kL] at x;subst x
  cases m with
  | nil=>rw[kM]
  | cons b m=>rw[kL] at y;let⟨_,_,e,_⟩:=y;cases e
 | a::l,m,us,x,y=>by
  rw[kL] at x;let⟨v,r,rfl,x1,x2⟩:=x
  cases m with
  | nil=>rw[kL] at y;cases y
  | cons b m=>
   rw[kL] at y;let⟨v',r',e,y1,y2⟩:=y;injection e with e1 e2;subst e1 e2;rw[kM,ZQ.inj a b v x1 y1,kL.inj l m r x2 y2];rfl
end
def kL.length{h:aD}:∀{l:jM}{us:jg},kL h l us->l.length=us.length
 | [],us,x=>by rw[kL] at x;subst x;rfl
 | a::l,us,x=>by
  rw[kL] at x;let⟨v,r,rfl,_,x2⟩:=x;rw[zU,zU,x2.length]
def kL.get{h:aD}:∀{l:jM}{us:jg}{j:Nat}{u:ai},kL h l us->us[j]? = some u->∃ t,l[j]? = some t/\ZQ h t u
 | [],us,j,u,x,e=>by rw[kL] at x;subst x;simp at e
 | a::l,us,0,u,x,e=>by
  rw[kL] at x;let⟨v,r,rfl,x1,_⟩:=x;simp at e;subst e;exact⟨a,Z,x1⟩
 | a::l,us,j+1,u,x,e=>by
  rw[kL] at x;let⟨v,r,rfl,_,x2⟩:=x;let⟨t,e1,e2⟩:=x2.get (j:=j) (by simpa using e)
  exact⟨t,by simpa using e1,e2⟩
def OW:∀{l:jM}{t:KT},t∈l->t.depth<=kN l
 | [],_,h=>by cases h
 | u::l,t,h=>by
  rw[kN];rcases zI.mp h with e | h
  ·subst e;lia
  ·have:=OW h;lia
def Mm:∀(l m:jM),((zF (min l.length m.length)).all (λj=>(l.getD j (.int 0)).eqb (m.getD j (.int 0)))&&l.length==m.length)=kM l m
 | [],[]=>by simp[kM]
 | [],_::_=>by simp[kM]
 | _::_,[]=>by simp[kM]
 | a::l,b::m=>by
  let ih:=Mm l m;let e:min (a::l).length (b::m).length=min l.length m.length+1:=by simp only[zU];lia
  rw[e,List.range_succ_eq_map,vN,uL,kM,<-ih,Bool.and_assoc];simp[Function.comp_def]
def Nm{s:am}:∀(n:Nat)(a b:KT)(A:ay)(v u:ai),a.depth<=n->ZQ s.heap a v->ZQ s.heap b u->A.units+a.depth<cLine->SeqAt.EqAt A s v u (a.eqb b)
 | n,.int i,b,A,v,u,_,x,y,hu=>by
  rw[ZQ] at x;let⟨t,rfl⟩:=x;let hu':A.units<cLine:=by lia
  cases b with
  | int j=>rw[ZQ] at y;let⟨t',rfl⟩:=y;rw[KT.eqb];exact SeqAt.EqAt.int_int i t j t'
  | str z=>rw[ZQ] at y;let⟨t',rfl⟩:=y;rw[show (KT.int i).eqb (.str z)=false by simp[KT.eqb]];exact SeqAt.EqAt.int_str i t z t'
  | tup m=>rw[ZQ] at y;let⟨p,jk,rfl,py,_⟩:=y;rw[show (KT.int i).eqb (.tup m)=false by simp[KT.eqb]];exact SeqAt.EqAt.int_tuple i t py hu'
 | n,.str w,b,A,v,u,_,x,y,hu=>by
  rw[ZQ] at x;let⟨t,rfl⟩:=x;let hu':A.units<cLine:=by lia
  cases b with
  | int j=>rw[ZQ] at y;let⟨t',rfl⟩:=y;rw[show (KT.str w).eqb (.int j)=false by simp[KT.eqb]];exact SeqAt.EqAt.str_int w t j t'
  | str z=>rw[ZQ] at y;let⟨t',rfl⟩:=y;rw[KT.eqb];exact SeqAt.EqAt.str_str w t z t'
  | tup m=>rw[ZQ] at y;let⟨p,jk,rfl,py,_⟩:=y;rw[show (KT.str w).eqb (.tup m)=false by simp[KT.eqb]];exact SeqAt.EqAt.str_tuple w t py hu'
 | 0,.tup l,b,A,v,u,hn,x,y,hu=>by
  rw[KT.depth] at hn;lia
 | n+1,.tup l,b,A,v,u,hn,x,y,hu=>by
  let x':=x;rw[ZQ] at x;let⟨p,jk,rfl,px,kx⟩:=x;rw[KT.depth] at hn hu;let hu':A.units<cLine:=by lia
  cases b with
  | int j=>rw[ZQ] at y;let⟨t',rfl⟩:=y;rw[show (KT.tup l).eqb (.int j)=false by simp[KT.eqb]];exact SeqAt.EqAt.tuple_int j t' px hu'
  | str z=>rw[ZQ] at y;let⟨t',rfl⟩:=y;rw[show (KT.tup l).eqb (.str z)=false by simp[KT.eqb]];exact SeqAt.EqAt.tuple_str z t' px hu'
  | tup m=>
   let y':=y;rw[ZQ] at y;let⟨q,its',rfl,py,ky⟩:=y;by_cases hpq:p=q
   ·subst hpq;rw[ZQ.inj _ _ _ x' y'];exact SeqAt.EqAt.same _
   ·let lx:=kx.length;let ly:=ky.length;let rc:=SeqAt.RcAt.tuples (A:=A) (s:=s) (e:=λj=>(l.getD j (.int 0)).eqb (m.getD j (.int 0))) px py hu' (λj h1 h2=>by
     let h1':j<jk.length:=by simpa using h1
     let h2':j<its'.length:=by simpa using h2
     let⟨t1,e1,k1⟩:=kx.get (j:=j) (u:=jk[j]) (by simp[h1'])
     let⟨t2,e2,k2⟩:=ky.get (j:=j) (u:=its'[j]) (by simp[h2'])
     let d1:=OW (zG e1);let g1:l.getD j (.int 0)=t1:=by rw[zQ,e1];rfl
     let g2:m.getD j (.int 0)=t2:=by rw[zQ,e2];rfl
     have:=Nm n t1 t2 A.in1 jk[j] its'[j] (by lia) k1 k2 (by show A.units+1+t1.depth<cLine;lia)
     show SeqAt.EqAt A.in1 s _ _ ((l.getD j (.int 0)).eqb (m.getD j (.int 0)));rw[g1,g2];simpa using this)
    let er:((zF (min jk.toArray.size its'.toArray.size)).all (λj=>(l.getD j (.int 0)).eqb (m.getD j (.int 0)))&&jk.toArray.size==its'.toArray.size)=(KT.tup l).eqb (.tup m):=by
     rw[zM,zM,<-lx,<-ly,KT.eqb];exact Mm l m
    rw[er] at rc;exact .of_refs hpq rc
def U6(o:Bool)(a b:KT):Bool:=bif o then !b.plt a else a.plt b
def Qm(o:Bool)(l m:jM):Bool:=bif o then !pltL m l else pltL l m
def ZLr{o:Bool}{a c:KT}{l m:jM}:Qm o (a::l) (c::m)=if a.eqb c=true then Qm o l m else U6 o a c:=by
 unfold Qm U6;rw[pltL,pltL,eqb_comm' c a];cases o <;> cases a.eqb c <;> rfl
def BI{o:Bool}{l m:jM}{i j:Nat}(h:l=[]\/m=[])(e:l.length+j=m.length+i):Qm o l m=bif o then decide (i<=j) else decide (i<j):=by
 rcases h with rfl | rfl
 ·cases m <;> cases o <;> simp[Qm,pltL] at e⊢ <;> lia
 ·cases l <;> cases o <;> simp[Qm,pltL] at e⊢ <;> lia
def Lz(o:Bool)(A:ay)(s:am)(v u:ai)(b:Bool):Prop:=
 ∀(prog:ao)(w:ax)(E:ja)(Q:ja),Q (.bool b) s->aC (aB prog w) A (richCompare (bif o then .LtE else .Lt) v u) Q E s
section
open PySem.SeqAt
open PySem.AutoSeq1 (wpAny_loadPart')
open PySem.MeetsSeq PySem.MeetsSeq2 PySem.MeetsSeq3
inductive F7(hp:aD)(ts:jM)(n m:Nat)(G:jM->jM->Prop)(rest:List (ai×ai)):Prop
 |mk(vs ws:jg)(ts' us':jM):rest=vs.zip ws->kL hp ts' vs->kL hp us' ws->(∀ x∈ts',x∈ts)->cmpL ts' us'=true->ts'.length+m=us'.length+n->G ts' us'->F7 hp ts n m G rest
def ZD5(o:Bool)(l b:aj)(items ju:jV)(n n2:Nat)(dd dd2:jY)(sl sl2:Array (jf))(ts us:jM):
  Meets ((bif o then Builtin.«tuple.__le__» else Builtin.«tuple.__lt__») ⟨[.ref l,.ref b],[]⟩)
   (λA R s=>s.heap.get? l=some { cls:=.type "tuple",dict:=dd,data:=.seq items n,slots:=sl }/\s.heap.get? b=some { cls:=.type "tuple",dict:=dd2,data:=.seq ju n2,slots:=sl2 } /\
    kL s.heap ts items.toList/\kL s.heap us ju.toList/\cmpL ts us=true /\
    (∀ x y v u,x∈ts->ZQ s.heap x v->ZQ s.heap y u->EqAt A.in1 s v u (x.eqb y))/\(∀ x y v u,x∈ts->ZQ s.heap x v->ZQ s.heap y u->x.cmp y=true->Lz o A.in1 s v u (U6 o x y)) /\
    R (.ok (.ret (.bool (Qm o ts us)))) s):=by
 let c1:=@ZLr o;let c2:=@BI o;generalize Qm o=F at c1 c2⊢;cases o
 all_goals
  dsimp only[cond_true,cond_false];refine .of_wp λprog w A R s h=>?_;let⟨hp,g,d,tk,os⟩:=s;let⟨hl,hb,hi,hj,hc,hE,hL,h⟩:=h;let f2:=AutoSeq1.sub_tuple_tuple;let z1:items.size=ts.length:=by rw[hi.length];simp
  let z2:ju.size=us.length:=by rw[hj.length];simp
  wp_walk using wpAny_loadPart' hl,wpAny_loadPart' hb,wpAny_forIn_list _ (λrest b s'=>b.1=none/\s'=⟨hp,g,d,tk,os⟩/\F7 hp ts items.size ju.size (λa b=>R (.ok (.ret (.bool (F a b)))) ⟨hp,g,d,tk,os⟩) rest) _
  case turn=>
   rintro⟨y,x⟩ rest b s' ⟨hb',rfl,vs,ws,ts',us',hz,hvi,hwi,hin,hcm,hlen,hR⟩
   cases ts' with
   | nil=>rw[kL] at hvi;subst hvi;rw[List.zip_nil_left] at hz;cases hz
   | cons a ts'=>
    cases us' with
    | nil=>rw[kL] at hwi;subst hwi;rw[List.zip_nil_right] at hz;cases hz
    | cons c us'=>
     rw[kL] at hvi hwi;let⟨v,vr,rfl,ka,hvi'⟩:=hvi;let⟨u,ur,rfl,kc,hwi'⟩:=hwi;rw[List.zip_cons_cons] at hz;injection hz with hyx hrest;injection hyx with hy hx;subst hy hx;rw[c1] at hR;rw[cmpL] at hcm;simp only[zU] at hlen;let he:=hE a c y x (hin a zO) ka kc;refine aa (he prog w _ _ ?_)
     cases hq:a.eqb c with
     | true=>
      rw[hq,aK rfl] at hR hcm
      wp_walk
      exact⟨Z,Z,_,_,_,_,hrest,hvi',hwi',λz hz=>hin z (zJ _ hz),hcm,by lia,hR⟩
     | false=>
      rw[hq,aJ zS] at hR hcm;let hri:=hL a c y x (hin a zO) ka kc hcm prog w;dsimp only[cond_true,cond_false] at hri
      wp_walk using hri
      exact⟨_,Z,by simpa using hR⟩
  case fin=>
   rintro⟨b1,b2⟩ s' ⟨hb',rfl,vs,ws,ts',us',hz,hvi,hwi,hin,hcm,hlen,hR⟩;simp only at hb';subst hb';rw[c2 (by
    cases ts' with
    | nil=>exact .inl Z
    | cons a ts'=>
     cases us' with
     | nil=>exact .inr Z
     | cons c us'=>
      rw[kL] at hvi hwi;let⟨v,vr,rfl,_,_⟩:=hvi;let⟨u,ur,rfl,_,_⟩:=hwi;rw[List.zip_cons_cons] at hz;cases hz) hlen] at hR
   wp_walk
   exact⟨_,Z,by simpa [Builtin.Tuple.tupleCompareSizes] using hR⟩
  case h=>
   exact⟨Z,Z,items.toList,ju.toList,ts,us,Z,hi,hj,λ_ hx=>hx,hc,by lia,h⟩
end
def II(o:Bool){s:am}:∀(n:Nat)(a b:KT)(A:ay)(v u:ai),a.depth<=n->ZQ s.heap a v->ZQ s.heap b u->a.cmp b=true->A.units+a.depth<cLine->Lz o A s v u (U6 o a b)
 | n,.int i,b,A,v,u,_,x,y,hc,hu=>by
  rw[ZQ] at x;let⟨t,rfl⟩:=x
  cases b with
  | int j=>
   rw[ZQ] at y;let⟨t',rfl⟩:=y;unfold U6;rw[KT.plt,KT.plt];intro prog w E Q h;cases o
   ·exact HT.rcLt_int A s i t j t' prog w E Q h
   ·exact(le_int (by rw[show decide (i<=j) = !decide (j<i) by by_cases z:j<i <;> simp[z] <;> lia];exact h):aC (aB prog w) A (aA .LtE (.int i t) (.int j t')) Q E s)
  | str z=>simp[KT.cmp] at hc
  | tup m=>simp[KT.cmp] at hc
 | n,.str w,b,A,v,u,_,x,y,hc,hu=>by
  rw[ZQ] at x;let⟨t,rfl⟩:=x
  cases b with
  | int j=>simp[KT.cmp] at hc
  | str z=>
   rw[ZQ] at y;let⟨t',rfl⟩:=y;unfold U6;rw[KT.plt,KT.plt];intro prog w' E Q h;cases o
   ·exact(lt_str h:aC (aB prog w') A (aA .Lt (.str w t) (.str z t')) Q E s)
   ·exact(PySem.P.le_str h:aC (aB prog w') A (aA .LtE (.str w t) (.str z t')) Q E s)
  | tup m=>simp[KT.cmp] at hc
 | 0,.tup l,b,A,v,u,hn,x,y,hc,hu=>by
  rw[KT.depth] at hn;lia
 | n+1,.tup l,b,A,v,u,hn,x,y,hc,hu=>by
  rw[ZQ] at x;let⟨p,jk,rfl,px,kx⟩:=x;rw[KT.depth] at hn hu;let hu':A.units<cLine:=by lia
  cases b with
  | int j=>simp[KT.cmp] at hc
  | str z=>simp[KT.cmp] at hc
  | tup m=>
   rw[ZQ] at y;let⟨q,its',rfl,py,ky⟩:=y;rw[KT.cmp] at hc;let e:U6 o (.tup l) (.tup m)=Qm o l m:=by
    unfold U6 Qm;rw[KT.plt,KT.plt]
   rw[e];intro prog w E Q h;let⟨⟨cls,dd,data,sl⟩,ho,hcl,nn1,hd⟩:=id px;let⟨⟨cls2,dd2,data2,sl2⟩,ho2,hcl2,nn2,hd2⟩:=id py;simp only at hcl hd hcl2 hd2;subst hcl hd hcl2 hd2;let hE:∀ x y v u,x∈l->ZQ s.heap x v->ZQ s.heap y u->SeqAt.EqAt A.in1 s v u (x.eqb y):=λx y v u hx k1 k2=>by
    let d1:=OW hx;exact Nm x.depth x y A.in1 v u (zX _) k1 k2 (by show A.units+1+x.depth<cLine;lia)
   let hL:∀ x y v u,x∈l->ZQ s.heap x v->ZQ s.heap y u->x.cmp y=true->Lz o A.in1 s v u (U6 o x y):=λx y v u hx k1 k2 k3=>by
    let d1:=OW hx;exact II o n x y A.in1 v u (by lia) k1 k2 k3 (by show A.units+1+x.depth<cLine;lia)
   let T:=ZD5 o p q jk.toArray its'.toArray nn1 nn2 dd dd2 sl sl2 l m;cases o
   ·exact richCompare_meets_room (op:=.Lt) ⟨_,ho,Z⟩ ⟨_,ho2,Z⟩ PySem.F.slot_tuple_lt PySem.F.entry_tuple_lt (PySem.F.args_tuple_lt_2 _ _) T ⟨ho,ho2,kx,ky,hc,hE,hL,(λx=>nomatch x),h⟩ hu'
   ·exact richCompare_meets_room (op:=.LtE) ⟨_,ho,Z⟩ ⟨_,ho2,Z⟩ PySem.F.slot_tuple_le PySem.F.entry_tuple_le (PySem.F.args_tuple_le_2 _ _) T ⟨ho,ho2,kx,ky,hc,hE,hL,(λx=>nomatch x),h⟩ hu'
def FI{s:am}(n:Nat)(a b:KT)(A:ay)(v u:ai):a.depth<=n->ZQ s.heap a v->ZQ s.heap b u->a.cmp b=true->A.units+a.depth<cLine->Lz false A s v u (a.plt b):=II false n a b A v u
def Zf.key{k:Nat}{A:ay}(r:Zf k A){n:Nat}(h:n<=200):A.units+n<cLine:=by have:=r.un;lia
inductive HU(x y:V)(H:Hp)(Q:VK):Prop
 |mk(a b:_)(_:ZE H a x)(_:ZE H b y)(_:a.cmp b=true)(_:a.depth<=200)(_:Q (.bl (a.plt b)) H)
def Hy{k:Nat}(hr:Zf k X.A):Y7 X (aA .Lt) HU:=by
 intro kR s σ H x y v u Q I rx ry h;let⟨a,b,ha,hb,hc,hd,q⟩:=h;exact FI a.depth a b X.A v u (zX _) (Uw I a x v ha rx) (Uw I b y u hb ry) hc (Zf.key hr hd) X.prog X.w X.xe _ ⟨.bl _,H,I,Z,q⟩
inductive NC(x:V)(lo hi:jZ)(H:Hp)(Q:VK):Prop
 |mk(z:_)(_:x=.str z)(_:z.length<=ar)(_:Q (.str (Txt.slice z lo hi)) H)
def GF:HC X NC:=by
 intro kR s σ H x v vl vu lo hi sl Q I rx hs pl pu h;let⟨z,rfl,hz,q⟩:=h;let⟨t,rfl⟩:=rx;exists "str",_,PySem.F.slot_str_getitem.lookup,typeIs_str _ _ _;let post:∀(l u:Option (Int×Tok)),l.map (·.1)=lo->u.map (·.1)=hi->(sliceMade z t l u none).post (EP X kR σ Q) s:=λl u e1 e2=>by
  subst e1 e2;exact post_val_or_str ⟨zK (Txt.slice_le z _ _) hz,λt' k=>⟨.str _,H,I.tok k,⟨t',Z⟩,q⟩⟩
 cases pl with
 | none=>
  cases pu with
  | none=>exact wpAny_getItem_str_slice (l:=none) (u:=none) (st:=none) hs Z (post none none Z Z)
  | int j uj=>exact wpAny_getItem_str_slice (l:=none) (u:=some (j,uj)) (st:=none) hs Z (post none (some (j,uj)) Z Z)
 | int i ui=>
  cases pu with
  | none=>exact wpAny_getItem_str_slice (l:=some (i,ui)) (u:=none) (st:=none) hs Z (post (some (i,ui)) none Z Z)
  | int j uj=>exact wpAny_getItem_str_slice (l:=some (i,ui)) (u:=some (j,uj)) (st:=none) hs Z (post (some (i,ui)) (some (j,uj)) Z Z)
mutual
def WI(w:ax):KT->Int
 | .int i=>hashInt i
 | .str x=>EQ w (.inr x)
 | .tup l=>reduceHash (Builtin.Tuple.tupleHashOf (hashL w l))
def hashL(w:ax):jM->jX
 | []=>[]
 | t::l=>WI w t::hashL w l
end
def Fp(w:ax):∀(l m:jM),hashL w (l++m)=hashL w l++hashL w m
 | [],m=>by rw[hashL];rfl
 | t::l,m=>by rw[vH,hashL,hashL,Fp w l m];rfl
def EO:∀(n:Nat)(t:KT){A:ay}{E:ja}{s:am}{v:ai}{Q:Int->am->Prop},t.depth<=n->ZQ s.heap t v->A.units+t.depth<cLine->(∀ tk,s.toks<=tk->Q (WI w t) { s with toks:=tk })->aC (aB prog w) A (pyHash v) Q E s
 | n,.int i,A,E,s,v,Q,_,x,hu,q=>by
  rw[ZQ] at x;let⟨t,rfl⟩:=x;rw[WI] at q;exact wpAny_pyHash_int (q _ (tJ _))
 | n,.str i,A,E,s,v,Q,_,x,hu,q=>by
  rw[ZQ] at x;let⟨t,rfl⟩:=x;rw[WI] at q;exact wpAny_pyHash_str (q _ (tJ _))
 | 0,.tup l,A,E,s,v,Q,hn,x,hu,q=>by rw[KT.depth] at hn;lia
 | n+1,.tup l,A,E,s,v,Q,hn,x,hu,q=>by
  rw[KT.depth] at hn hu;rw[ZQ] at x;let⟨a,jk,rfl,pt,ks⟩:=x;let hT:=pt.typeIs;let⟨o,ho,hc,nn,hd⟩:=pt;unfold pyHash
  first | unfold pyHashByItsType | skip
  first | refine aa (wpAny_cRoomFor_or (.inr (by lia)) ?_) | skip
  refine aa (wpAny_specialOf hT sW.lookup ?_);show aC _ _ (if (some (Value.builtin "tuple.__hash__")==some Value.none)=true then _ else _) Q E s
  rw[aJ (by rw[beq_builtin_none];exact zS)]
  refine aa (wpAny_specialOf hT sW.lookup ?_);show aC _ _ (callSpecialIfBoundUnlessNone? (.ref a) "__hash__" _ >>= _) Q E s;refine aa (wpAny_callSpecialIfBoundUnlessNone?_slot hT sW (wpAny_call_entry sW hT PySem.F.entry_tuple_hash ?_ (PySem.F.args_tuple_hash_1 _)));show aC _ _ (Builtin.Tuple.tupleItemsOf (.ref a) >>= _) _ _ s;refine aa (wpAny_tupleItemsOf ho hd (aa ?_));rw[<-rY];refine wpAny_forIn_list _ (λrest (b:Array Int) s'=>∃ dn lf tk,l=dn++lf/\kL s.heap lf rest/\b.toList=hashL w dn/\s'={ s with toks:=tk }/\s.toks<=tk) _ ?_ ?_ _ _ ⟨[],l,s.toks,Z,ks,by rw[hashL],Z,zX _⟩
  ·rintro x rest b s' ⟨dn,lf,tk,e0,hl,hb,rfl,htk⟩
   cases lf with
   | nil=>rw[kL] at hl;cases hl
   | cons t lf=>
    rw[kL] at hl;let⟨v',r',e,k1,k2⟩:=hl;injection e with e1 e2;subst e1 e2;let hd':t.depth<=kN l:=by rw[e0];exact OW (by simp)
    refine aa (EO n t (s:={ s with toks:=tk }) (by lia) k1 (by show A.units+1+_<_;lia) λtk2 h2=>?_)
    let fin:∃ dn' lf' tk',l=dn'++lf'/\kL s.heap lf' rest/\(b.push (WI w t)).toList=hashL w dn'/\({ s with toks:=tk2 }:am)={ s with toks:=tk' }/\s.toks<=tk':=
     ⟨dn++[t],lf,tk2,by rw[e0];simp,k2,by rw[uT,hb,Fp,hashL,hashL],rfl,zK htk h2⟩
    first | exact ad fin | exact aa (ad (ad fin))
  ·rintro b s' ⟨dn,lf,tk,e0,hl,hb,rfl,htk⟩
   cases lf with
   | cons t lf=>rw[kL] at hl;let⟨_,_,e,_⟩:=hl;cases e
   | nil=>
    rw[wK] at e0;subst e0;show aC _ _ (retInt (Builtin.Tuple.tupleHashOf b.toList)) _ _ _;rw[hb];refine wpAny_ret_mkInt ?_;show aC _ _ (if (decide (-(2:Int) ^ 63<=Builtin.Tuple.tupleHashOf (hashL w l))&&decide (Builtin.Tuple.tupleHashOf (hashL w l)<2 ^ 63))=true then _ else _) Q E _
    let q':=q (tk+1) (by lia)
    rw[WI] at q';unfold reduceHash at q';split
    ·rename_i hr
     rw[aK hr] at q';exact ad q'
    ·rename_i hr
     rw[aJ hr] at q';exact aa (ah (ad q'))
def HV:∀(n:Nat)(t:KT){A:ay}{E:ja}{s:am}{v:ai}{Q:Bool->am->Prop},t.depth<=n->ZQ s.heap t v->Q true s->aC (aB prog w) A (eqIsQuiet n v) Q E s
 | n,.int i,A,E,s,v,Q,_,x,q=>by
  rw[ZQ] at x;let⟨t,rfl⟩:=x;rw[eqIsQuiet_byValue n rfl];exact ad q
 | n,.str i,A,E,s,v,Q,_,x,q=>by
  rw[ZQ] at x;let⟨t,rfl⟩:=x;rw[eqIsQuiet_byValue n rfl];exact ad q
 | 0,.tup l,A,E,s,v,Q,hn,x,q=>by rw[KT.depth] at hn;lia
 | n+1,.tup l,A,E,s,v,Q,hn,x,q=>by
  rw[KT.depth] at hn;rw[ZQ] at x;let⟨a,jk,rfl,pt,ks⟩:=x;let hT:=pt.typeIs;let⟨o,ho,hc,nn,hd⟩:=pt;unfold eqIsQuiet;refine aa (wpAny_specialOf hT PySem.F.slot_tuple_eq.lookup ?_);show aC _ _ (isInstance (.ref a) (.type "tuple") >>= _) _ _ s;refine aa (wpAny_isInstance hT isSubtype_tuple_tuple ?_);simp only[tN,wT,if_false];refine aa (wpAny_seqItems ho hd (aa ?_));show aC _ _ (forIn jk.toArray _ _) _ _ s;rw[<-rY];refine wpAny_forIn_list _ (λrest r s'=>r.1=none/\s'=s/\∃ lf,kL s.heap lf rest/\kN lf<=n) _ ?_ ?_ _ _ ⟨Z,Z,l,ks,by lia⟩
  ·rintro x rest r s' ⟨hr,rfl,lf,hl,hdp⟩
   cases lf with
   | nil=>rw[kL] at hl;cases hl
   | cons t lf=>
    rw[kL] at hl;let⟨v',r',e,k1,k2⟩:=hl;injection e with e1 e2;subst e1 e2;rw[kN] at hdp;refine aa (HV n t (by lia) k1 ?_)
    simp only[tN,wT,if_false];exact ad ⟨Z,Z,lf,k2,by lia⟩
  ·rintro⟨r1,r2⟩ s' ⟨hr,rfl,_⟩;dsimp only at hr;subst hr;exact ad q
structure Ox(w:ax)(h:aD)(ks:jM)(es:Array DictEntry):Prop where
 len:es.size=ks.length
 ent:∀(i:Nat)(e:DictEntry),es[i]? = some e->∃ t,ks[i]? = some t/\e.hash=WI w t/\ZQ h t e.key/\t.depth<=3
 nd:ks.Nodup
def Ox.uniq{h:aD}{ks:jM}{es:Array DictEntry}(x:Ox w h ks es){i j:Nat}{t:KT}(hi:ks[i]? = some t)(hj:ks[j]? = some t):i=j:=by
 let⟨a,ea⟩:=yY.mp hi;exact(List.getElem?_inj a x.nd).mp (hi.trans hj.symm)
def Ox.get{h:aD}{ks:jM}{es:Array DictEntry}(x:Ox w h ks es){j:Nat}{t:KT}(hj:ks[j]? = some t):∃ e,es[j]? = some e/\e.hash=WI w t/\ZQ h t e.key/\t.depth<=3:=by
 let⟨a,_⟩:=yY.mp hj;let lt:j<es.size:=by have:=x.len;lia
 let e:es[j]? = some es[j]:=vZ lt;let⟨t',e1,e2,e3,e4⟩:=x.ent j _ e;rw[hj] at e1;cases e1;exact⟨_,e,e2,e3,e4⟩
def Ib{v:ai}{stored:jg}{Q:Bool->am->Prop}(hv:∃ t,ZQ s.heap t v/\t.depth<=8)(hs:∀ u∈stored,∃ t,ZQ s.heap t u/\t.depth<=8)(h:Q false s):aC (aB prog w) A (tableMayTell v stored) Q E s:=by
 unfold tableMayTell;refine wpAny_ite_split (λ_=>ad h) (λ_=>?_);let⟨t,kv,dt⟩:=hv;refine aa (HV 8 t dt kv ?_);simp only[tN,wT,if_false];refine aa ?_;refine wpAny_forIn_list _ (λrest r s'=>s'=s/\r=(none,())/\∀ u∈rest,u∈stored) _ ?_ ?_ _ _ ⟨Z,Z,λ_ z=>z⟩
 ·rintro u rest r s' ⟨rfl,rfl,hr⟩;let⟨t2,U6,dt2⟩:=hs u (hr u (zO ..));refine aa (HV 8 t2 dt2 U6 ?_);simp only[tN,wT,if_false];exact ad ⟨Z,Z,λu hu=>hr u (zJ _ hu)⟩
 ·rintro r s' ⟨rfl,rfl,_⟩;exact ad h
def ZNI{d:aj}{o:aG}{es:Array DictEntry}{ep:Nat}{ks:jM}{t:KT}{v:ai}{Q:jQ->am->Prop}(hv:ZQ s.heap t v)(dt:t.depth<=3)(hu:A.units+3<cLine)(ho:s.heap.get? d=some o)(hd:o.data=.dict es ep)(x:Ox w s.heap ks es)(hno:t∉ks->Q none s)(jB:∀ j,ks[j]? = some t->Q (some j) s):aC (aB prog w) A (dictFind d v (WI w t)) Q E s:=by
 let inPl:∀ j,ks[j]? = some t->j∈placesWithHash es.size (λi=>es[i]?.map (·.hash)) (WI w t):=λj hj=>by
  let⟨e,e1,e2,_⟩:=x.get hj;let⟨lt,_⟩:=Array.getElem?_eq_some_iff.mp e1;unfold placesWithHash;rw[wJ,yX];exact⟨lt,by show (Option.map _ es[j]? == _)=true;rw[e1,vU,e2];simp⟩
 let ofPl:∀ i,i∈placesWithHash es.size (λi=>es[i]?.map (·.hash)) (WI w t)->∃ e u,es[i]? = some e/\e.hash=WI w t/\ks[i]? = some u/\ZQ s.heap u e.key/\u.depth<=3:=λi hi=>by
  unfold placesWithHash at hi;rw[wJ,yX] at hi;let e1:es[i]? = some es[i]:=vZ hi.1;let⟨u,e2,_,e4,e5⟩:=x.ent i _ e1;have:(Option.map (·.hash) es[i]? == some (WI w t))=true:=hi.2;rw[e1,vU] at this;exact⟨_,u,e1,by simpa using this,e2,e4,e5⟩
 let pnd:(placesWithHash es.size (λi=>es[i]?.map (·.hash)) (WI w t)).Nodup:=by
  unfold placesWithHash;exact List.nodup_range.filter _
 let eq_at:∀(u:KT)(e:DictEntry),ZQ s.heap u e.key->u.depth<=3->SeqAt.EqAt A s e.key v (u.eqb t):=λu e k1 d1=>Nm u.depth u t A e.key v (zX _) k1 hv (by lia)
 let stored:∀ u∈(placesWithHash es.size (λi=>es[i]?.map (·.hash)) (WI w t)).filterMap (λi=>es[i]?.map (·.key)),∃ t,ZQ s.heap t u/\t.depth<=8:=λu hu=>by
  let⟨i,hi,e⟩:=uC.mp hu;let⟨en,z,e1,_,_,e4,e5⟩:=ofPl i hi;rw[e1,vU] at e;cases e;exact⟨z,e4,by lia⟩
 unfold dictFind
 try with_reducible refine af ?_
 refine aa (wpAny_dictEntries ho hd ?_);generalize hP:placesWithHash es.size (λi=>es[i]?.map (·.hash)) (WI w t)=pl at inPl ofPl pnd stored;let plain:aC (aB prog w) A (dictWalkPlain d v (WI w t) es pl) Q E s:=by
  unfold dictWalkPlain;refine aa ?_;refine wpAny_forIn_list _ (λrest b s'=>s'=s/\b=(none,())/\(∀ i∈rest,i∈pl)/\∀ i∈pl,i∈rest\/ks[i]? ≠ some t) _ ?_ ?_ _ _ ⟨Z,Z,λ_ z=>z,λ_ z=>.inl z⟩
  ·rintro i rest b s' ⟨rfl,rfl,h1,h2⟩;let⟨e,u,e1,e2,e3,e4,e5⟩:=ofPl i (h1 i (zO ..));rw[e1];dsimp only;rw[e2,aK (by simp)]
   refine aa (wpAny_dictEpoch ho hd (aa (eq_at u e e4 e5 prog w _ _ (aa (wpAny_dictEpoch ho hd ?_)))));rw[aJ (by simp)]
   cases hq:u.eqb t with
   | true=>
    have:u=t:=Pg u t hq;subst this;rw[aK rfl];exact aa (ah (ad (ad (jB i e3))))
   | false=>
    rw[aJ zS];refine aa (ah (ad ⟨rfl,rfl,λj hj=>h1 j (zJ _ hj),λj hj=>?_⟩));rcases h2 j hj with z | z
    ·rcases zI.mp z with z | z
     ·subst z;refine .inr λz=>?_;rw[e3] at z;cases z;rw[PF] at hq;cases hq
     ·exact .inl z
    ·exact .inr z
  ·rintro b s' ⟨rfl,rfl,_,h2⟩;refine ad (hno λz=>?_);let⟨j,hj⟩:=tE.mp z;rcases h2 j (inPl j hj) with q | q
   ·cases q
   ·exact q hj
 let hitLoop:∀(f:Nat->Option (jQ)×jQ->Sem (ForInStep (Option (jQ)×jQ)))(g:Option (jQ)×jQ->Sem (jQ)),(∀ r,g (some r,none)=pure r)->(∀ h,g (none,h)=pure h) ->
   (∀ i u e (R:ForInStep (Option (jQ)×jQ)->am->Prop),es[i]? = some e->e.hash=WI w t->ZQ s.heap u e.key->u.depth<=3->u=t->R (.done (some (some i),none)) s->R (.yield (none,some i)) s->aC (aB prog w) A (f i (none,none)) R E s) ->
   (∀ i u e hit (R:ForInStep (Option (jQ)×jQ)->am->Prop),es[i]? = some e->e.hash=WI w t->ZQ s.heap u e.key->u.depth<=3->u≠t->R (.yield (none,hit)) s->aC (aB prog w) A (f i (none,hit)) R E s) ->
   aC (aB prog w) A (forIn pl (none,none) f >>= g) Q E s:=λf g g1 g2 f1 f2=>by
  refine aa ?_;refine wpAny_forIn_list _ (λrest b s'=>s'=s/\rest.Nodup/\(∀ i∈rest,i∈pl)/\((b=(none,none)/\∀ i∈pl,i∈rest\/ks[i]? ≠ some t)\/∃ j,b=(none,some j)/\ks[j]? = some t/\j∉rest)) _ ?_ ?_ _ _ ⟨Z,pnd,λ_ z=>z,.inl ⟨Z,λ_ z=>.inl z⟩⟩
  ·rintro i rest b s' ⟨rfl,nd,h1,h2⟩;let⟨e,u,e1,e2,e3,e4,e5⟩:=ofPl i (h1 i (zO ..));let nd':=xO.mp nd;let h1':∀ j∈rest,j∈pl:=λj hj=>h1 j (zJ _ hj);by_cases hq:u=t
   ·let e3':=e3;rw[hq] at e3';rcases h2 with ⟨rfl,h2⟩ | ⟨j,rfl,hj,hn⟩
    ·refine f1 i u e _ e1 e2 e4 e5 hq ?_ ?_
     ·show aC _ _ (g (some (some i),none)) _ _ _;rw[g1];exact ad (jB i e3')
     ·exact⟨Z,nd'.2,h1',.inr ⟨i,Z,e3',nd'.1⟩⟩
    ·have:i=j:=x.uniq e3' hj;exact absurd (this ▸ zO ..) hn
   ·rcases h2 with ⟨rfl,h2⟩ | ⟨j,rfl,hj,hn⟩
    ·refine f2 i u e none _ e1 e2 e4 e5 hq ⟨Z,nd'.2,h1',.inl ⟨Z,λj hj=>?_⟩⟩;rcases h2 j hj with z | z
     ·rcases zI.mp z with z | z
      ·subst z;exact .inr λz=>hq (by rw[e3] at z;exact yL.inj z)
      ·exact .inl z
     ·exact .inr z
    ·exact f2 i u e (some j) _ e1 e2 e4 e5 hq ⟨Z,nd'.2,h1',.inr ⟨j,Z,hj,λz=>hn (zJ _ z)⟩⟩
  ·rintro b s' ⟨rfl,_,_,h2⟩;rcases h2 with ⟨rfl,h2⟩ | ⟨j,rfl,hj,hn⟩
   ·rw[g2];refine ad (hno λz=>?_);let⟨j,hj⟩:=tE.mp z;rcases h2 j (inPl j hj) with q | q
    ·cases q
    ·exact q hj
   ·rw[g2];exact ad (jB j hj)
 let vs:(∃ a,v=.ref a)\/(∃ i tk,v=.int i tk)\/∃ y tk,v=.str y tk/\t=.str y:=by
  cases t with
  | int i=>rw[ZQ] at hv;let⟨tk,e⟩:=hv;exact .inr (.inl ⟨i,tk,e⟩)
  | str y=>rw[ZQ] at hv;let⟨tk,e⟩:=hv;exact .inr (.inr ⟨y,tk,e,rfl⟩)
  | tup l=>rw[ZQ] at hv;let⟨a,_,e,_⟩:=hv;exact .inl ⟨a,e⟩
 rcases vs with ⟨a,rfl⟩ | ⟨i,tk,rfl⟩ | ⟨y,tk,rfl,ht⟩
 case' inl=>
  dsimp only;rw[aJ (by simp[carriedByValue])]
  let hany:¬ (es.any λe=>e.key==Value.ref a&&e.hash != WI w t)=true:=by
   rw[<-Array.any_toList,sK];rintro⟨e,hin,hc⟩;let⟨j,hj⟩:=tE.mp hin;rw[yO] at hj;let⟨u,_,e2,e3,_⟩:=x.ent j e hj;rw[zP] at hc;rw[eq_of_beq hc.1] at e3;have:u=t:=Pg _ _ (ZQ.inj _ _ _ e3 hv);rw[e2,this] at hc;simp at hc
  rw[aJ hany];refine wpAny_ite_split (λ_=>aa (ad ?_)) (λ_=>aa (Ib ⟨t,hv,by lia⟩ stored ?_))
 case' inr.inl=>
  dsimp only;refine wpAny_ite_split (λ_=>plain) (λ_=>?_);refine wpAny_ite_split (λ_=>aa (ad ?_)) (λ_=>aa (Ib ⟨t,hv,by lia⟩ stored ?_))
 case' inr.inr=>
  let byStr:aC (aB prog w) A (foundByValue d (.str y tk) es y) Q E s:=by
   unfold foundByValue
   cases hf:es.findIdx? (λe=>e.key.isStr y) with
   | none=>
    refine ad (hno λz=>?_);let⟨j,hj⟩:=tE.mp z;let⟨e,e1,e2,e3,_⟩:=x.get hj;have:=Array.findIdx?_eq_none_iff.mp hf e (Array.mem_of_getElem? e1);rw[ht,ZQ] at e3;let⟨tk',ek⟩:=e3;rw[ek] at this;simp[Value.isStr] at this
   | some i=>
    let⟨hlt,hi,_⟩:=Array.findIdx?_eq_some_iff_getElem.mp hf;let e1:es[i]? = some es[i]:=vZ hlt;let⟨u,e2,e3,e4,e5⟩:=x.ent i _ e1;let hut:u=t:=by
     let hs:∃ tk',es[i].key=.str y tk':=by
      cases q:es[i].key with
      | str z tz=>rw[q] at hi;simp[Value.isStr] at hi;exact⟨tz,by rw[hi]⟩
      | _=>rw[q] at hi;simp[Value.isStr] at hi
     let⟨tk',ek⟩:=hs;let hk:ZQ s.heap (.str y) es[i].key:=by rw[ZQ];exact⟨tk',ek⟩
     rw[ht];exact Pg _ _ (ZQ.inj _ _ _ e4 hk)
    dsimp only;rw[e1];dsimp only;refine aa (wpAny_dictEpoch ho hd (aa (eq_at u _ e4 e5 prog w _ _ (aa (wpAny_dictEpoch ho hd ?_)))));rw[aJ (by simp),hut,PF,aK rfl]
    exact aa (ah (ad (jB i (by rw[e2,hut]))))
  dsimp only;refine wpAny_ite_split (λ_=>byStr) (λ_=>?_);refine wpAny_ite_split (λ_=>plain) (λ_=>?_);refine wpAny_ite_split (λ_=>aa (ad ?_)) (λ_=>aa (Ib ⟨t,hv,by lia⟩ stored ?_))
 all_goals
  rw[aJ (by simp)]
  refine hitLoop _ _ (λr=>rfl) (λh=>rfl) (λi u e R e1 e2 e4 e5 hq r1 r2=>?_) (λi u e hit R e1 e2 e4 e5 hq r1=>?_)
  ·rw[e1];dsimp only;rw[e2,aK (by simp)]
   refine aa (wpAny_dictEpoch ho hd (aa (eq_at u e e4 e5 prog w _ _ (aa (wpAny_dictEpoch ho hd ?_)))));rw[aJ (by simp),hq,PF,aK rfl]
   simp only[Option.isSome_none,wT,if_false];refine aa (ah (wpAny_ite_split (λ_=>ad r1) (λ_=>ad r2)))
  ·rw[e1];dsimp only;rw[e2,aK (by simp)]
   refine aa (wpAny_dictEpoch ho hd (aa (eq_at u e e4 e5 prog w _ _ (aa (wpAny_dictEpoch ho hd ?_)))));let hf:u.eqb t=false:=by
    cases q:u.eqb t with
    | false=>rfl
    | true=>exact absurd (Pg _ _ q) hq
   rw[aJ (by simp),hf,aJ zS]
   refine aa (ah ?_);rw[aJ (by simp)]
   exact ad r1
end _T
namespace L2
open PySem PySem.Spec PyProof.Rows
section
variable{kR:jO}{σ:St}{H H':Hp}{s':am}{E:XK}
end
end L2
namespace L2
open PySem PySem.Spec PySem.W PyProof.Rows
section
variable{K:Frag}{x C:aj}
end
end L2
namespace L2
open PySem PySem.Spec PyProof.Rows
def Cx.held(X:Cx)(ea:aj)(E:ja):Cx:={ X with A:=X.A.mark (some (.ref ea)),calm:=false,xe:=E }
section
variable{kR:jO}{σ:St}{H H':Hp}{s':am}{ea:aj}
end
section
variable{x C CB:aj}
end
end L2
namespace _T
open PySem
inductive TG where
 | int (i:Int)
 | str (x:Str)
 | tup (l:List TG)
 | odd (n:String)
mutual
def TG.fits:TG->Nat->Bool
 | .int i,_=>decide (i.natAbs<10 ^ 60)
 | .str x,_=>Qj x
 | .tup l,r=>decide (0<r)&&(decide (l.length<=4)&&gfitsL l (r-1))
 | .odd _,_=>false
def gfitsL:List TG->Nat->Bool
 | [],_=>true
 | t::l,r=>t.fits r&&gfitsL l r
end
end _T
namespace L2
open PySem PySem.Spec PyProof.Rows
def ZJ.big{kR:jO}{σ:St}{H:Hp}{s:am}(I:ZJ X kR σ H s):sysModules<s.heap.objs.size:=by
 let h:aq<s.heap.objs.size:=(I.mod.glob.keeps I.bk).lt;exact vW (by decide) h
def ZLC{P:ao}{w:ax}{H:Hp}(h:aD)(hb:sysModules<h.objs.size):Zj P w H (h.push { cls:=.type "dict",data:=.dict #[] }) h.objs.size (.dK []):=
 ⟨zH _,beq_eq_false_iff_ne.mpr (Ne.symm (yN hb)),[],.nil,Heap.DictOf.new h⟩
def ZPZ:TE:=λ_ H Q=>∀ p,H p=none->Q (.ref p) (upd H p (.dK []))
def Mf{pos:Pos}:PE X (.Dict [] [] pos) ZPZ:=λkR s σ H Q I h=>
 wpAny_Dict_empty ⟨.ref s.heap.objs.size,_,I.laid (a:=s.heap.objs.size) (o:=.dK []) (t':=s.toks) (λ_ _ q=>zD _ q) (zX _) (ZLC s.heap I.big),rfl,h _ (I.hok.fresh (zX _))⟩
section
variable{κ:Type}[DecidableEq κ]
def YM(kvs:List (κ×V))(k:κ):ji:=(kvs.find? λkv=>decide (kv.1=k)).map (·.2)
def Xo(kvs:List (κ×V))(k:κ)(v:V):List (κ×V):=
 if (kvs.any λkv=>decide (kv.1=k))=true then kvs.map (λkv=>if kv.1=k then (kv.1,v) else kv) else kvs++[(k,v)]
def WV(kvs:List (κ×V))(k:κ):List (κ×V):=kvs.filter λkv=>decide (kv.1≠k)
def UO{p:κ×V}{r:List (κ×V)}{k:κ}(e:p.1=k):YM (p::r) k=some p.2:=by simp[YM,uW,e]
def Vv{p:κ×V}{r:List (κ×V)}{k:κ}(e:¬ p.1=k):YM (p::r) k=YM r k:=by simp[YM,uW,e]
def OA(k:κ):∀ kvs:List (κ×V),(kvs.any λkv=>decide (kv.1=k))=(YM kvs k).isSome
 | []=>rfl
 | p::r=>by
  rw[uZ];by_cases e:p.1=k
  ·simp only[UO e,aI e,Bool.true_or,Option.isSome_some]
  ·rw[Vv e,aH e,Bool.false_or];exact OA k r
def GK(k j:κ)(y:V):∀ kvs:List (κ×V),YM (kvs.map λkv=>if kv.1=k then (kv.1,y) else kv) j=(YM kvs j).map λx=>if j=k then y else x
 | []=>rfl
 | p::r=>by
  let ih:=GK k j y r;rw[zB];by_cases h:p.1=k
  ·rw[aK h];by_cases e:p.1=j
   ·rw[UO (p:=(p.1,y)) e,UO e,vU,aK (e.symm.trans h)]
   ·rw[Vv (p:=(p.1,y)) e,Vv e,ih]
  ·rw[aJ h];by_cases e:p.1=j
   ·rw[UO (p:=p) e,UO e,vU,aJ (λz=>h (e.trans z))]
   ·rw[Vv (p:=p) e,Vv e,ih]
def Ik(k j:κ)(y:V):∀ kvs:List (κ×V),YM kvs k=none->YM (kvs++[(k,y)]) j=if j=k then some y else YM kvs j
 | [],_=>by
  by_cases e:k=j
  ·rw[aK e.symm];exact UO (p:=(k,y)) e
  ·rw[aJ (λz=>e z.symm)];exact Vv (p:=(k,y)) e
 | p::r,hn=>by
  rw[vH];let hk:¬ p.1=k:=λz=>by rw[UO z] at hn;cases hn
  rw[Vv hk] at hn;let ih:=Ik k j y r hn;by_cases e:p.1=j
  ·rw[UO e,UO e,aJ (λz=>hk (e.trans z))]
  ·rw[Vv e,Vv e,ih]
def GT(kvs:List (κ×V))(k j:κ)(y:V):YM (Xo kvs k y) j=if j=k then some y else YM kvs j:=by
 unfold Xo;by_cases a:(kvs.any λkv=>decide (kv.1=k))=true
 ·rw[aK a,GK];rw[OA] at a;by_cases e:j=k
  ·let⟨x,hx⟩:=qW.mp a;rw[aK e,e,hx,vU,aK rfl]
  ·rw[aJ e]
   cases YM kvs j with
   | none=>rfl
   | some x=>rw[vU,aJ e]
 ·rw[aJ a];refine Ik k j y kvs ?_;rw[OA] at a
  cases q:YM kvs k with
  | none=>rfl
  | some x=>rw[q] at a;exact(a Z).elim
def Iz(kvs:List (κ×V))(k:κ)(v:V):(Xo kvs k v).length<=kvs.length+1:=by
 unfold Xo;split
 ·rw[zY];lia
 ·rw[zT,zU,yA];lia
def Jw{kvs:List (κ×V)}{k:κ}(v:V)(h:YM kvs k=none):Xo kvs k v=kvs++[(k,v)]:=by
 unfold Xo;rw[OA,h];exact aJ (by decide)
def Yc.isSome_eq{o:ji}{u:jf}(r:Yc o u):o.isSome=u.isSome:=by
 cases o with
 | none=>cases u with
  | none=>rfl
  | some _=>exact(show False from r).elim
 | some _=>cases u with
  | none=>exact(show False from r).elim
  | some _=>rfl
def Yc.getD{o:ji}{u:jf}{d:V}{d':ai}(r:Yc o u)(rd:ZT d d'):ZT (o.getD d) (u.getD d'):=by
 cases o with
 | none=>cases u with
  | none=>exact rd
  | some _=>exact(show False from r).elim
 | some _=>cases u with
  | none=>exact(show False from r).elim
  | some _=>exact r
def KV.val{kvs:List (κ×V)}{vs:List (κ×ai)}(r:KV kvs vs)(k:κ):Yc (YM kvs k) (valueAt vs k):=by
 unfold KV at r
 induction r with
 | nil=>exact True.intro
 | @cons p q ps qs h t ih=>
  let⟨h1,h2⟩:=h;by_cases e:p.1=k
  ·let e':q.1=k:=h1.symm.trans e;let b:valueAt (q::qs) k=some q.2:=by simp[valueAt,uW,e']
   rw[UO e,b];exact h2
  ·let e':¬ q.1=k:=λz=>e (h1.trans z);let b:valueAt (q::qs) k=valueAt qs k:=by simp[valueAt,uW,e']
   rw[Vv e,b];exact ih
def KV.any{kvs:List (κ×V)}{vs:List (κ×ai)}(r:KV kvs vs)(k:κ):(kvs.any λkv=>decide (kv.1=k))=vs.any λkv=>decide (kv.1=k):=by
 unfold KV at r
 induction r with
 | nil=>rfl
 | cons h t ih=>rw[uZ,uZ,ih,h.1]
def KV.repl{kvs:List (κ×V)}{vs:List (κ×ai)}(r:KV kvs vs)(k:κ){y:V}{u:ai}(ry:ZT y u):
  KV (kvs.map λkv=>if kv.1=k then (kv.1,y) else kv) (vs.map λkv=>if kv.1=k then (kv.1,u) else kv):=by
 unfold KV at r⊢
 induction r with
 | nil=>exact .nil
 | @cons p q ps qs h t ih=>
  rw[zB,zB];refine .cons ?_ ih;let⟨h1,h2⟩:=h;by_cases e:p.1=k
  ·rw[aK e,aK (h1.symm.trans e)];exact⟨h1,ry⟩
  ·rw[aJ e,aJ (λz=>e (h1.trans z))];exact⟨h1,h2⟩
def KV.put{kvs:List (κ×V)}{vs:List (κ×ai)}(r:KV kvs vs)(k:κ){y:V}{u:ai}(ry:ZT y u):KV (Xo kvs k y) (stored vs k u):=by
 unfold Xo stored;rw[r.any k];by_cases e:(vs.any λkv=>decide (kv.1=k))=true
 ·rw[aK e,aK e];exact r.repl k ry
 ·rw[aJ e,aJ e];exact Paired.snoc r ⟨Z,ry⟩
def KV.drop{kvs:List (κ×V)}{vs:List (κ×ai)}(r:KV kvs vs)(k:κ):KV (WV kvs k) (without vs k):=by
 unfold KV at r⊢;unfold WV without
 induction r with
 | nil=>exact .nil
 | @cons p q ps qs h t ih=>
  let⟨h1,h2⟩:=h;rw[xL,xL];by_cases e:p.1=k
  ·let a:¬ decide (p.1≠k)=true:=by simp[e]
   let b:¬ decide (q.1≠k)=true:=by simp[h1.symm.trans e]
   rw[aJ a,aJ b];exact ih
  ·let e':¬ q.1=k:=λz=>e (h1.trans z);let a:decide (p.1≠k)=true:=by simp[e]
   let b:decide (q.1≠k)=true:=by simp[e']
   rw[aK a,aK b];exact .cons ⟨h1,h2⟩ ih
def KV.keys{kvs:List (κ×V)}{vs:List (κ×ai)}(r:KV kvs vs):kvs.map (·.1)=vs.map (·.1):=by
 unfold KV at r
 induction r with
 | nil=>rfl
 | cons h t ih=>rw[zB,zB,ih,h.1]
def KV.length{kvs:List (κ×V)}{vs:List (κ×ai)}(r:KV kvs vs):kvs.length=vs.length:=Paired.length r
def ZLc(kvs:List (κ×V))(k:κ):(WV kvs k).length<=kvs.length:=rH _ _
end
def Ov{P:ao}{w:ax}{k:Zi}{u:ai}(r:ZT (kV k) u):(WU P w).is k u=true:=by
 cases k with
 | inl i=>let⟨t,e⟩:=(show ∃ t,u=Value.int i t from r);subst e;exact Bc P w i t
 | inr x=>let⟨t,e⟩:=(show ∃ t,u=Value.str x t from r);subst e;exact ZGg P w x t
def FK{P:ao}{w:ax}:∀{ks:jW}{us:jg},ZR (ks.map kV) us->ItemsAre (WU P w) ks us
 | [],_,r=>by rw[uK] at r;cases r;exact .nil
 | k::ks,_,r=>by
  rw[zB] at r
  cases r with
  | cons h t=>exact .cons (Ov h) (FK t)
abbrev KT(H:Hp):List (jW×V)->List (jW×aj×ai)->Prop:=Paired λp q=>p.1=q.1/\H q.2.1=some (.tup (p.1.map kV))/\ZT p.2 q.2.2
def KT.val{H:Hp}{kvs:List (jW×V)}{xs:List (jW×aj×ai)}(r:KT H kvs xs)(k:jW):Yc (YM kvs k) ((atKey xs k).map (·.2)):=by
 induction r with
 | nil=>exact True.intro
 | @cons p q ps qs h t ih=>
  let⟨h1,_,h2⟩:=h;by_cases e:p.1=k
  ·let e':q.1=k:=h1.symm.trans e;let b:atKey (q::qs) k=some q.2:=by simp[atKey,uW,e']
   rw[UO e,b];exact h2
  ·let e':¬ q.1=k:=λz=>e (h1.trans z);let b:atKey (q::qs) k=atKey qs k:=by simp[atKey,uW,e']
   rw[Vv e,b];exact ih
def KT.repl{H:Hp}{kvs:List (jW×V)}{xs:List (jW×aj×ai)}(r:KT H kvs xs)(k:jW){y:V}{u:ai}(ry:ZT y u):
  KT H (kvs.map λkv=>if kv.1=k then (kv.1,y) else kv) (xs.map (putAt k u)):=by
 induction r with
 | nil=>exact .nil
 | @cons p q ps qs h t ih=>
  rw[zB,zB];refine .cons ?_ ih;let⟨h1,h2,h3⟩:=h;unfold putAt;by_cases e:p.1=k
  ·rw[aK e,aK (h1.symm.trans e)];exact⟨h1,h2,ry⟩
  ·rw[aJ e,aJ (λz=>e (h1.trans z))];exact⟨h1,h2,h3⟩
def KT.put{H:Hp}{kvs:List (jW×V)}{xs:List (jW×aj×ai)}(r:KT H kvs xs)(k:jW){b:aj}{y:V}{u:ai}(hb:H b=some (.tup (k.map kV)))(ry:ZT y u):
  KT H (Xo kvs k y) (storedH xs k b u):=by
 let e:(kvs.any λkv=>decide (kv.1=k))=(atKey xs k).isSome:=by
  rw[OA,(r.val k).isSome_eq,Option.isSome_map]
 unfold Xo storedH;rw[e];by_cases q:(atKey xs k).isSome=true
 ·rw[aK q,aK q];exact r.repl k ry
 ·rw[aJ q,aJ q];exact Paired.snoc r ⟨Z,hb,ry⟩
def KT.keeps{H H':Hp}{kvs:List (jW×V)}{xs:List (jW×aj×ai)}(r:KT H kvs xs)(ht:∀ b ys,H b=some (.tup ys)->H' b=some (.tup ys)):KT H' kvs xs:=
 Paired.mapP r λ_ _ z=>⟨z.1,ht _ _ z.2.1,z.2.2⟩
section
variable{H:Hp}{h:aD}{a:aj}
def Hv{u:HO}(ok:XL P w H h)(e:Rd H a u):Zj P w H h a u:=e.ok ok
def PZ{kvs:List (Zi×V)}(ok:XL P w H h)(e:Rd H a (.dK kvs)):kvs.length<=ar/\(a==sysModules)=false/\∃ vs,KV kvs vs/\h.DictOf (WU P w) a vs:=
 show Zj P w H h a (.dK kvs) from Hv ok e
def ND{kvs:List (Zi×V)}(ok:XL P w H h)(e:H a=some (.dK kvs)):kvs.length<=ar/\(a==sysModules)=false/\∃ vs,KV kvs vs/\h.DictOf (WU P w) a vs:=PZ ok (.inl e)
def NJ{ks:jW}(ok:XL P w H h)(e:H a=some (.tup (ks.map kV))):(tupleKind (WU P w)).is h ks a:=by
 let⟨_,jk,r,o,h1,h2,n,h3⟩:=(show Zj P w H h a (.tup (ks.map kV)) from ok a _ e);exact⟨o,jk.toArray,n,h1,h2,h3,by simpa using FK r⟩
def Oa{kvs:List (jW×V)}(ok:XL P w H h)(e:Rd H a (.dT kvs)):kvs.length<=ar/\(a==sysModules)=false /\
  ∃ xs,KT H kvs xs/\h.DictOfH (tupleKind (WU P w)) a xs:=by
 let⟨z,y,xs,r,o,es,ep,h1,h2,h3,h4,h5⟩:=(show Zj P w H h a (.dT kvs) from Hv ok e);refine⟨z,y,xs,r,o,es,ep,h1,h2,h3,h4,λx hx=>?_,h5⟩;let all:∀{l:List (jW×V)}{m:List (jW×aj×ai)},KT H l m->∀ x∈m,(tupleKind (WU P w)).is h x.1 x.2.1:=by
  intro l m q
  induction q with
  | nil=>intro x hx;exact nomatch hx
  | @cons p q ps qs hq t ih=>
   intro x hx;rcases zI.mp hx with e | hx
   ·subst e;exact NJ ok (by rw[<-hq.1];exact hq.2.1)
   ·exact ih x hx
 exact all r x hx
def B4{kvs:List (jW×V)}(ok:XL P w H h)(e:H a=some (.dT kvs)):kvs.length<=ar/\(a==sysModules)=false /\
  ∃ xs,KT H kvs xs/\h.DictOfH (tupleKind (WU P w)) a xs:=Oa ok (.inl e)
end
def XO(H:Hp)(a:aj)(y:V)(r:ji):Prop:=
 (∃ kvs k,Rd H a (.dK kvs)/\y=kV k/\r=YM kvs k)\/∃ kvs k b,Rd H a (.dT kvs)/\y=.ref b/\H b=some (.tup (k.map kV))/\r=YM kvs k
def QE(H:Hp)(a:aj)(y v:V)(H':Hp):Prop:=
 (∃ kvs k,H a=some (.dK kvs)/\y=kV k/\kvs.length<ar/\H'=upd H a (.dK (Xo kvs k v))) \/
 ∃ kvs k b,H a=some (.dT kvs)/\y=.ref b/\H b=some (.tup (k.map kV))/\kvs.length<ar/\H'=upd H a (.dT (Xo kvs k v))
def XO.k{H:Hp}{a:aj}{kvs:List (Zi×V)}{k:Zi}(e:H a=some (.dK kvs)):XO H a (kV k) (YM kvs k):=.inl ⟨kvs,k,.inl e,Z,Z⟩
def QE.k{H:Hp}{a:aj}{kvs:List (Zi×V)}{k:Zi}{v:V}(e:H a=some (.dK kvs))(hl:kvs.length<ar):QE H a (kV k) v (upd H a (.dK (Xo kvs k v))):=.inl ⟨kvs,k,e,Z,hl,Z⟩
section
variable{kR:jO}{σ:St}{H:Hp}{a:aj}{y v:V}{u r:ai}{o:ji}
def ZJr{Q:ja}(hu:A.units+1<cLine)(I:ZJ X kR σ H s)(g:XO H a y (some v))(ry:ZT y u)(h:∀ w' s',ZJ X kR σ H s'->ZT v w'->Q w' s'):
  aC (aB X.prog X.w) A (getItem (.ref a) u) Q E s:=by
 rcases g with ⟨kvs,k,e,ey,l⟩ | ⟨kvs,k,b,e,ey,eb,l⟩
 ·subst ey;let⟨z,hd,vs,rel,dd⟩:=PZ I.hok e;let⟨w',hw,rw'⟩:=Yc.some_of (v:=v) (o:=valueAt vs k) (by rw[l];exact rel.val k)
  exact wpAny_getItem_of (Ov ry) dd.mapOf hw (h w' _ (I.tok _) rw')
 ·subst ey;cases(show u=Value.ref b from ry);let⟨z,hd,xs,rel,dd⟩:=Oa I.hok e;let⟨w',hw,rw'⟩:=Yc.some_of (v:=v) (o:=(atKey xs k).map (·.2)) (by rw[l];exact rel.val k)
  let⟨p,hp,hp2⟩:=xY.mp hw;refine wpAny_getItem_heap (tupleKind_room_in1 hu) (NJ I.hok eb) dd hp ?_;rw[hp2];exact h w' _ (I.tok _) rw'
def ZN8{Q:ja}(hu:A.units+1<cLine)(I:ZJ X kR σ H s)(g:XO H a y o)(ry:ZT y u)(h:∀ s',ZJ X kR σ H s'->Q (.bool (!o.isSome)) s'):
  aC (aB X.prog X.w) A (aA .NotIn u (.ref a)) Q E s:=by
 rcases g with ⟨kvs,k,e,ey,l⟩ | ⟨kvs,k,b,e,ey,eb,l⟩
 ·subst ey;let⟨z,hd,vs,rel,dd⟩:=PZ I.hok e;refine wpAny_notIn_of (Ov ry) hd dd.mapOf ?_;rw[<-(rel.val k).isSome_eq,<-l];exact h _ (I.tok _)
 ·subst ey;cases(show u=Value.ref b from ry);let⟨z,hd,xs,rel,dd⟩:=Oa I.hok e;refine wpAny_notIn_heap (tupleKind_room_in1 hu) (NJ I.hok eb) hd dd ?_;let q:=(rel.val k).isSome_eq;rw[Option.isSome_map] at q;rw[<-q,<-l];exact h _ (I.tok _)
def LW{h':aD}{t':Nat}{ob:HO}(I:ZJ X kR σ H s)(mu:Ot (H a))(hs:xX a s.heap h')(he:∃ q,h'.get? a=some q)(new:Zj X.prog X.w (upd H a ob) h' a ob):
  ZJ X kR σ (upd H a ob) { s with heap:=h',toks:=t' }:=
 I.write (x:=a) (e:=a) mu (.inl rfl) (λb q hb z=>(hs.2 b hb).trans z) he new
def Fe{P:ao}{w:ax}{H':Hp}{h':aD}{kvs:List (Zi×V)}{vs:List (Zi×ai)}(z:kvs.length<=ar)(hd:(a==sysModules)=false)(rel:KV kvs vs)(dd:h'.DictOf (WU P w) a vs):
  Zj P w H' h' a (.dK kvs):=⟨z,hd,vs,rel,dd⟩
def Ah{H':Hp}{Q:Unit->am->Prop}(hu:A.units+1<cLine)(I:ZJ X kR σ H s)(g:QE H a y v H')(ry:ZT y u)(rv:ZT v r)(h:∀ s',ZJ X kR σ H' s'->Q () s'):
  aC (aB X.prog X.w) A (setItem (.ref a) u r) Q E s:=by
 rcases g with ⟨kvs,k,e,ey,l,eH⟩ | ⟨kvs,k,b,e,ey,eb,l,eH⟩
 ·subst ey eH;let⟨z,hd,vs,rel,dd⟩:=ND I.hok e;let hz:vs.length<=sizeLine:=by rw[<-rel.length];exact z
  let hl:(Xo kvs k v).length<=sizeLine:=by have:=Iz kvs k v;lia
  refine wpAny_setItem_pairs (hsz:=hz) (Ov ry) dd λh' dd' hs=>h _ ?_;let he:∃ q,h'.get? a=some q:=let ⟨q,_,_,hq,_⟩:=dd';⟨q,hq⟩;exact LW I (by rw[e];exact True.intro) hs he (Fe hl hd (rel.put k rv) dd')
 ·subst ey eH;cases(show u=Value.ref b from ry);let⟨z,hd,xs,rel,dd⟩:=B4 I.hok e;let hz:xs.length<=sizeLine:=by rw[<-Paired.length rel];exact z
  let hl:(Xo kvs k v).length<=sizeLine:=by have:=Iz kvs k v;lia
  refine wpAny_setItem_heap (hsz:=hz) (tupleKind_room_in1 hu) (NJ I.hok eb) dd λh' dd' hs=>h _ ?_;let⟨q,es,ep,hq,h2,h3,h4,_,h5⟩:=dd';refine LW I (by rw[e];exact True.intro) hs ⟨q,hq⟩ ⟨hl,hd,_,(rel.put k eb rv).keeps λc ys ec=>?_,q,es,ep,hq,h2,h3,h4,h5⟩
  rw[ZY (Zg ec e (λz=>nomatch z))];exact ec
end
section
variable{kR:jO}{σ:St}{H:Hp}{a:aj}{kvs:List (Zi×V)}{k:Zi}{u:ai}
def B5{v:V}{more:jg}{Q:ja}(I:ZJ X kR σ H s)(e:H a=some (.dK kvs))(ry:ZT (kV k) u)(l:YM kvs k=some v)(hm:more=[]\/∃ x,more=[x])(h:∀ w' s',ZJ X kR σ (upd H a (.dK (WV kvs k))) s'->ZT v w'->Q w' s'):aC (aB X.prog X.w) A (call (.builtin "dict.pop") (.ref a::u::more)) Q E s:=by
 let⟨z,hd,vs,rel,dd⟩:=ND I.hok e;let⟨w',hw,rw'⟩:=Yc.some_of (v:=v) (o:=valueAt vs k) (by rw[<-l];exact rel.val k)
 let hp:(keyPart u).isSome=true:=by
  cases k with
  | inl i=>let⟨t,q⟩:=(show ∃ t,u=Value.int i t from ry);subst q;rfl
  | inr x=>let⟨t,q⟩:=(show ∃ t,u=Value.str x t from ry);subst q;rfl
 let ha:argsOk "dict.pop" ⟨.ref a::u::more,[]⟩:=by
  rcases hm with q | ⟨x,q⟩
  ·subst q;exact PySem.F.args_dict_pop_2 _ _
  ·subst q;exact PySem.F.args_dict_pop_3 _ _ _
 refine call_meetsIn pY dd.typeIs PySem.F.entry_dict_pop ha (meets_dict_pop_there (WU X.prog X.w) a (Ov ry) more hm hp)
  ⟨vs,w',dd,by rw[<-rel.length];exact z,hw,λh' dd' hs=>h w' _ ?_ rw'⟩
 let he:∃ q,h'.get? a=some q:=let ⟨q,_,_,hq,_⟩:=dd';⟨q,hq⟩;exact LW I (by rw[e];exact True.intro) hs he (Fe (zK (ZLc kvs k) z) hd (rel.drop k) dd')
def ZQn{Q:ja}(I:ZJ X kR σ H s)(e:Rd H a (.dK kvs))(h:∀ t s',ZJ X kR σ H s'->Q (.int kvs.length t) s'):aC (aB X.prog X.w) A (call (.builtin "len") [.ref a]) Q E s:=by
 let⟨z,hd,vs,rel,dd⟩:=PZ I.hok e;refine call_len_dict hd dd (by rw[<-rel.length];rw[sizeLine_eq] at z;lia) ?_
 rw[<-rel.length];exact h _ _ (I.tok _)
end
def E2(i:Expr):Prop:=∀ ov iv,subscripted i false ov iv=operate [ov,iv] (getItem ov iv)
def ZOL{prog:ao}{w:ax}{A:ay}{E:ja}{s:am}{env:Env}{value slice:Expr}{pos:Pos}{T id:String}{Q:ja}(hl:typeLookup (.type T) "__getitem__" = pure (some (.builtin id)))(hs:E2 slice)(h:aC (aB prog w) A (aF value env) (λo s₁=>aC (aB prog w) A (aF slice env) (λi s₂=>s₂.TypeIs o T/\aC (aB prog w) A (getItem o i) Q E s₂) E s₁) E s):
  aC (aB prog w) A (aF (.Subscript value slice pos) env) Q E s:=by
 refine Subscript_ (ae h (λo s₁ h₁=>ae h₁ (λi s₂ h₂=>?_) λ_ _ x=>x) λ_ _ x=>x);let⟨hT,h₂⟩:=h₂;unfold subscriptTail;refine aa ?_;rw[getitemInPython_of_ne hT.not_modules];refine aa (wpAny_specialOf hT hl ?_);let fin:aC (aB prog w) A (subscripted slice false o i) (λr s₃=>aC (aB prog w) A (letTemporaryGo value o r >>= λ_=>pure r) Q E s₃) E s₂:=by
  rw[hs o i];exact wpAny_operating (ae h₂ (λr s₃ h₃=>aa (wpAny_letTemporaryGo (ad h₃))) λ_ _ x=>x)
 first
  | exact ad (aa fin)
  | exact aa (ad (aa fin))
  | exact aa fin
def Gy{X:Cx}{kR:jO}{σ:St}{H:Hp}{s:am}{a:aj}{y:V}{o:ji}(I:ZJ X kR σ H s)(g:XO H a y o):s.TypeIs (.ref a) "dict" :=by
 rcases g with ⟨kvs,k,e,_,_⟩ | ⟨kvs,k,b,e,_,_,_⟩
 ·let⟨_,_,vs,_,dd⟩:=PZ I.hok e;exact dd.typeIs
 ·let⟨_,_,xs,_,dd⟩:=Oa I.hok e;exact dd.typeIs
def Af{X:Cx}{kR:jO}{σ:St}{H:Hp}{s:am}{a:aj}{y:V}{o:ji}(I:ZJ X kR σ H s)(g:XO H a y o):
  ∀ b,Value.ref a=.ref b->∃ ob,s.heap.get? b=some ob/\ob.dict=none:=λb q=>by
 cases q;rcases g with ⟨kvs,k,e,_,_⟩ | ⟨kvs,k,b,e,_,_,_⟩
 ·let⟨_,_,vs,_,ob,_,_,h1,h2,_⟩:=PZ I.hok e;exact⟨ob,h1,h2.2.1⟩
 ·let⟨_,_,xs,_,ob,_,_,h1,h2,_⟩:=Oa I.hok e;exact⟨ob,h1,h2.2.1⟩
inductive ON(Q:VK)(x y:V)(H2:Hp):Prop
 |mk(a v:_)(_:x=.ref a)(_:XO H2 a y (some v))(_:Q v H2)
def ZQh(td ty:TE):TE:=λσ H Q=>td σ H λx H1=>ty σ H1 λy H2=>ON Q x y H2
inductive QP(Q:VK)(y x:V)(H2:Hp):Prop
 |mk(a o:_)(_:x=.ref a)(_:XO H2 a y o)(_:Q (.bl (!o.isSome)) H2)
def ZOc(ty td:TE):TE:=λσ H Q=>ty σ H λy H1=>td σ H1 λx H2=>QP Q y x H2
inductive Pu(D:XA)(σ:L2.St)(v x y:V)(H3:Hp):Prop
 |mk(a H4:_)(_:x=.ref a)(_:QE H3 a y v H4)(_:D.nx σ H4)
def ZQO(td ty tv:TE):TS:=λD σ H=>tv σ H λv H1=>td σ H1 λx H2=>ty σ H2 λy H3=>Pu D σ v x y H3
section
variable{o i e value:Expr}{pos pos' tpos:Pos}{td ty tv:TE}
def Lu(hu:X.A.units+1<cLine)(ho:PE X o td)(hi:PE X i ty)(hs:E2 i):PE X (.Subscript o i pos) (ZQh td ty):=by
 intro kR s σ H Q I h;refine ZOL PySem.F.slot_dict_getitem.lookup hs (Zb (ho kR s σ H _ I h) λu s1 ⟨x,H1,I1,rx,q1⟩=>Zb (hi kR s1 σ H1 _ I1 q1) λiv s2 ⟨y,H2,I2,ry,a,v,ex,g,q2⟩=>?_);subst ex;obtain rfl:u=Value.ref a:=rx;exact⟨Gy I2 g,ZJr hu I2 g ry λw' s3 I3 rw'=>⟨v,H2,I3,rw',q2⟩⟩
def IP(hu:X.A.units+1<cLine)(hi:PE X i ty)(ho:PE X o td):PC X .NotIn i o (ZOc ty td):=by
 intro kR s σ H Q I h;refine Zb (hi kR s σ H _ I h) λiv s1 ⟨y,H1,I1,ry,q1⟩=>Zb (ho kR s1 σ H1 _ I1 q1) λu s2 ⟨x,H2,I2,rx,a,ov,ex,g,q2⟩=>?_;subst ex;obtain rfl:u=Value.ref a:=rx;exact ZN8 hu I2 g ry λs3 I3=>⟨.bl (!ov.isSome),H2,I3,Z,q2⟩
def Ma(hu:X.A.units+1<cLine)(ho:PE X o td)(hi:PE X i ty)(hv:PE X value tv)(hs:swapsWith value (some (.Subscript o i pos')) pos.line X.env=pure false):
  PS X (.Assign [.Subscript o i pos'] value pos) (ZQO td ty tv):=by
 intro kR s σ H D I h;refine wpAny_Assign_Subscript (Zb (hv kR s σ H _ I h) λr s1 ⟨v,H1,I1,rv,q1⟩=>Zb (ho kR s1 σ H1 _ I1 q1) λu s2 ⟨x,H2,I2,rx,q2⟩=>Zb (hi kR s2 σ H2 _ I2 q2) λiv s3 ⟨y,H3,I3,ry,a,H4,ex,g,q3⟩=>?_) hs;subst ex;obtain rfl:u=Value.ref a:=rx;exact Ah hu I3 g ry rv λs4 I4=>⟨σ,H4,I4,q3⟩
end
section
variable{pos:Pos}
end
structure M1(X:Cx)(o:Expr)(m:Str)(jm:Pos)(e:Expr)(jo:Pos):Prop where
 base:attributeBase o m X.env (aF o X.env)=aF o X.env
 few:((aE jo (aw [e] X.env)).all (λx=>!x.1)&&(backToKw jo (keywordEach [] X.env)).all (λx=>x.1.isSome)
  && decide (([e]:jU).length+([]:List Keyword).length+(if ([]:List Keyword).isEmpty then 0 else 1)<30))=true
 line:(jm.endLine==jo.line)=true
 trees:aE jo (aw [e] X.env)=[(false,aF e X.env)]
structure M2(X:Cx)(o:Expr)(m:Str)(jm:Pos)(e f:Expr)(jo:Pos):Prop where
 base:attributeBase o m X.env (aF o X.env)=aF o X.env
 few:((aE jo (aw [e,f] X.env)).all (λx=>!x.1)&&(backToKw jo (keywordEach [] X.env)).all (λx=>x.1.isSome)
  && decide (([e,f]:jU).length+([]:List Keyword).length+(if ([]:List Keyword).isEmpty then 0 else 1)<30))=true
 line:(jm.endLine==jo.line)=true
 trees:aE jo (aw [e,f] X.env)=[(false,aF e X.env),(false,aF f X.env)]
def Ks(H:Hp)(a:aj):Prop:=(∃ kvs,Rd H a (.dK kvs))\/∃ kvs,Rd H a (.dT kvs)
def Hs{X:Cx}{kR:jO}{σ:St}{H:Hp}{s:am}{a:aj}(I:ZJ X kR σ H s)(d:Ks H a):
  s.TypeIs (.ref a) "dict" /\ (∀ b,Value.ref a=.ref b->∃ ob,s.heap.get? b=some ob/\ob.dict=none)/\(a==sysModules)=false:=by
 rcases d with ⟨kvs,e⟩ | ⟨kvs,e⟩
 ·let⟨_,hd,vs,_,dd⟩:=PZ I.hok e;refine⟨dd.typeIs,λb q=>?_,hd⟩;cases q;let⟨ob,_,_,h1,h2,_⟩:=dd;exact⟨ob,h1,h2.2.1⟩
 ·let⟨_,hd,xs,_,dd⟩:=Oa I.hok e;refine⟨dd.typeIs,λb q=>?_,hd⟩;cases q;let⟨ob,_,_,h1,h2,_⟩:=dd;exact⟨ob,h1,h2.2.1⟩
section
variable{kR:jO}{σ:St}{H:Hp}{a:aj}{y d:V}{u r:ai}{o:ji}
def ZPd{Q:ja}(hu:A.units+1<cLine)(I:ZJ X kR σ H s)(g:XO H a y o)(ry:ZT y u)(rd:ZT d r)(h:∀ w' s',ZJ X kR σ H s'->ZT (o.getD d) w'->Q w' s'):
  aC (aB X.prog X.w) A (call (.builtin "dict.get") [.ref a,u,r]) Q E s:=by
 rcases g with ⟨kvs,k,e,ey,l⟩ | ⟨kvs,k,b,e,ey,eb,l⟩
 ·subst ey;let⟨z,hd,vs,rel,dd⟩:=PZ I.hok e;refine call_meetsIn qO dd.typeIs pV (qM _ _ _) (meets_dict_get_default (WU X.prog X.w) a (Ov ry) hd r) ⟨_,dd.mapOf,h _ _ (I.tok _) ?_⟩;rw[l];exact(rel.val k).getD rd
 ·subst ey;cases(show u=Value.ref b from ry);let⟨z,hd,xs,rel,dd⟩:=Oa I.hok e;refine call_meetsIn qO dd.typeIs pV (qM _ _ _) (meetsH_dict_get_default (tupleKind (WU X.prog X.w)) a b hd r) ⟨tupleKind_room_in1 hu,k,xs,NJ I.hok eb,dd,h _ _ (I.tok _) ?_⟩;rw[l];exact(rel.val k).getD rd
end
inductive PD(ty tx:TE)(σ:L2.St)(Q:VK)(x:V)(H1:Hp):Prop
 |mk(a:_)(_:x=.ref a)(_:Ks H1 a)(_:ty σ H1 λy H2=>tx σ H2 λz H3=>∃ o,XO H3 a y o/\Q (o.getD z) H3)
def Ct(td ty tx:TE):TE:=λσ H Q=>td σ H λx H1=>PD ty tx σ Q x H1
inductive Qp(ty:TE)(σ:L2.St)(Q:VK)(x:V)(H1:Hp):Prop
 |mk(a:_)(_:x=.ref a)(_:Ks H1 a)(_:ty σ H1 λy H2=>∃ kvs k v,H2 a=some (.dK kvs)/\y=kV k/\YM kvs k=some v/\Q v (upd H2 a (.dK (WV kvs k))))
def AC(td ty:TE):TE:=λσ H Q=>td σ H λx H1=>Qp ty σ Q x H1
section
variable{o e f:Expr}{jm jo:Pos}{td ty tx:TE}
def ZL6(hu:X.A.units+1<cLine)(ho:PE X o td)(he:PE X e ty)(hf:PE X f tx)(m:M2 X o "get" jm e f jo):PE X (.Call (.Attribute o "get" jm) [e,f] [] jo) (Ct td ty tx):=by
 intro kR s σ H Q I h;refine wpAny_Call_method m.base m.few m.line qY qO PySem.F.type_dict_get (Zb (ho kR s σ H _ I h) λu s1 ⟨x,H1,I1,rx,a,ex,d,q1⟩=>?_);subst ex;obtain rfl:u=Value.ref a:=rx;let⟨t1,t2,_⟩:=Hs I1 d;exists t1,t2;rw[m.trees];refine Calls.callWith_builtin Z (Calls.evalArgs_plain (Calls.spliced_cons (Zb (he kR s1 σ H1 _ I1 q1) λiv s2 ⟨y,H2,I2,ry,q2⟩=>
  Calls.spliced_cons (Zb (hf kR s2 σ H2 _ I2 q2) λfv s3 ⟨z,H3,I3,rz,ov,g,q3⟩=>Calls.spliced_nil ?_))))
 exact ZPd hu I3 g ry rz λw' s4 I4 rw'=>⟨_,H3,I4,rw',q3⟩
def ZLl(ho:PE X o td)(he:PE X e ty)(m:M1 X o "pop" jm e jo):PE X (.Call (.Attribute o "pop" jm) [e] [] jo) (AC td ty):=by
 intro kR s σ H Q I h;refine wpAny_Call_method m.base m.few m.line qY pY PySem.F.type_dict_pop (Zb (ho kR s σ H _ I h) λu s1 ⟨x,H1,I1,rx,a,ex,d,q1⟩=>?_);subst ex;obtain rfl:u=Value.ref a:=rx;let⟨t1,t2,_⟩:=Hs I1 d;exists t1,t2;rw[m.trees];refine Calls.callWith_builtin Z (Calls.evalArgs_plain (Calls.spliced_cons (Zb (he kR s1 σ H1 _ I1 q1) λiv s2 ⟨y,H2,I2,ry,kvs,k,v,ea,ey,l,q2⟩=>Calls.spliced_nil ?_)));subst ey;exact B5 I2 ea ry l (.inl rfl) λw' s3 I3 rw'=>⟨v,_,I3,rw',q2⟩
end
section
variable{kR:jO}{σ:St}{H:Hp}{a:aj}{kvs:List (Zi×V)}
end
section
variable{kR:jO}{σ:St}{H:Hp}{a:aj}{y:V}{u:ai}
end
inductive V2(xs:jh)(H:Hp)(Q:VK):Prop
 |mk(a kvs:_)(_:xs=[V.ref a])(_:H a=some (.dK kvs))(_:Q (.int kvs.length) H)
def BY:Wg X (.builtin "len") (V2):=by
 intro kR s σ H xs us Q I r h;let⟨a,kvs,rfl,ha,q⟩:=h;let⟨u,rfl,ru⟩:=Wk r;cases ru;exact ZQn I (.inl ha) λt s' I'=>⟨.int kvs.length,H,I',⟨t,Z⟩,q⟩
section
variable{κ:Type}[DecidableEq κ]
def BD{kvs:List (κ×V)}{k:κ}{v:V}(h:YM kvs k=some v):k∈kvs.map (·.1):=by
 let q:(kvs.any λkv=>decide (kv.1=k))=true:=by
  rw[OA,h]
  all_goals rfl
 let⟨p,hp,e⟩:=sK.mp q;exact yR.mpr ⟨p,hp,of_decide_eq_true e⟩
def ZKe{p:κ×V}{r:List (κ×V)}{k:κ}(e:p.1=k):WV (p::r) k=WV r k:=by
 unfold WV;rw[xL,aJ (by simp[e])]
def ZI0{p:κ×V}{r:List (κ×V)}{k:κ}(e:¬ p.1=k):WV (p::r) k=p::WV r k:=by
 unfold WV;rw[xL,aK (by simp[e])]
end
end L2
namespace _T
open PySem PySem.Spec L2 PyProof.Rows
def NE(d:aj)(es:Array DictEntry):HO:=.ext λh=>(d==sysModules)=false/\es.size<=ar/\∃ o ep,h.get? d=some o/\o.ExactDict/\o.data=.dict es ep
abbrev Oy(w:ax)(x:KT×V×V)(e:DictEntry):Prop:=e.hash=WI w x.1/\ZT x.2.1 e.key/\ZT x.2.2 e.val
structure Xb(w:ax)(H:Hp)(d:aj)(xs:List (KT×V×V)):Prop where
 ex:∃ es,H d=some (NE d es)/\Paired (Oy w) xs es.toList
 key:∀ x∈xs,ZE H x.1 x.2.1/\x.1.depth<=3
 nd:(xs.map (·.1)).Nodup
def HZ{P:ao}{w:ax}{H:Hp}{h:aD}{d:aj}{es:Array DictEntry}(h1:(d==sysModules)=false)(h2:es.size<=ar)(h3:∃ o ep,h.get? d=some o/\o.ExactDict/\o.data=.dict es ep):Zj P w H h d (NE d es):=by
 exists ⟨h1,h2,h3⟩,?_
 ·let⟨o,ep,g,_⟩:=h3;exact⟨o,g⟩
 ·rintro a b ⟨q1,q2,o,ep,g,r⟩ k;exact⟨q1,q2,o,ep,k o g,r⟩
def ZU{α β:Type}{F:α->β->Prop}:∀{l:List α}{m:List β}{i:Nat}{b:β},Paired F l m->m[i]? = some b->∃ a,l[i]? = some a/\F a b
 | _,_,_,_,.nil,e=>by simp at e
 | _,_,0,_,.cons r _,e=>by simp at e;subst e;exact⟨_,Z,r⟩
 | _,_,i+1,b,.cons _ t,e=>by
  let⟨a,h1,h2⟩:=ZU (i:=i) (b:=b) t (by simpa using e)
  exact⟨a,by simpa using h1,h2⟩
def Xk{α β:Type}{F:α->β->Prop}:∀{l:List α}{m:List β},l.length=m.length->(∀(i:Nat) a b,l[i]? = some a->m[i]? = some b->F a b)->Paired F l m
 | [],[],_,_=>.nil
 | [],_::_,h,_=>by simp at h
 | _::_,[],h,_=>by simp at h
 | a::l,b::m,h,f=>.cons (f 0 a b Z Z) (Xk (by simpa using h) λi x y hx hy=>f (i+1) x y (by simpa using hx) (by simpa using hy))
def Jp{α β:Type}{F:α->β->Prop}{a:α}{b:β}(h:F a b){l:List α}{m:List β}(g:Paired F l m):Paired F (l++[a]) (m++[b]):=by
 induction g with
 | nil=>exact .cons h .nil
 | cons r _ ih=>exact .cons r ih
def Oi(t:KT)(v:V)(x:KT×V×V):KT×V×V:=if x.1.eqb t=true then (x.1,x.2.1,v) else x
def Qb(xs:List (KT×V×V))(t:KT)(y v:V):List (KT×V×V):=if (xs.any λx=>x.1.eqb t)=true then xs.map (Oi t v) else xs++[(t,y,v)]
def VS{xs:List (KT×V×V)}{t:KT}:(xs.any λx=>x.1.eqb t)=true ↔ t∈xs.map (·.1):=by
 rw[sK,yR];constructor
 ·rintro⟨x,hx,e⟩;exact⟨x,hx,Pg _ _ e⟩
 ·rintro⟨x,hx,e⟩;exact⟨x,hx,by rw[e];exact PF _⟩
def HA(t:KT)(v:V)(x:KT×V×V):(Oi t v x).1=x.1/\(Oi t v x).2.1=x.2.1:=by
 unfold Oi;split <;> exact⟨Z,Z⟩
def Lc(xs:List (KT×V×V))(t:KT)(y v:V):(Qb xs t y v).map (·.1)=if (xs.any λx=>x.1.eqb t)=true then xs.map (·.1) else xs.map (·.1)++[t]:=by
 unfold Qb;split
 ·rw[xU];exact uB λx _=>(HA t v x).1
 ·rw[yZ];rfl
def ZL1(xs:List (KT×V×V))(t:KT)(y v:V):(Qb xs t y v).length<=xs.length+1:=by
 have:=congrArg xC (Lc xs t y v);rw[zY] at this;rw[this];split
 ·rw[zY];lia
 ·rw[zT,zY];simp
def Xb.but{w:ax}{H H':Hp}{d p:aj}{xs:List (KT×V×V)}(x:Xb w H d xs)(s:ZG p H H')(t:YD H H')(n:d≠p):Xb w H' d xs:=by
 let⟨es,h1,h2⟩:=x.ex;exact⟨⟨es,s _ _ h1 n,h2⟩,λz hz=>⟨(x.key z hz).1.mono t,(x.key z hz).2⟩,x.nd⟩
section
variable{kR:jO}{σ:L2.St}{H:Hp}
def Xb.es{d:aj}{xs:List (KT×V×V)}{es:Array DictEntry}(I:ZJ X kR σ H s)(x:Xb X.w H d xs)(r:Paired (Oy X.w) xs es.toList):Ox X.w s.heap (xs.map (·.1)) es:=by
 refine⟨by have:=Paired.length r;simpa using this.symm,λi e he=>?_,x.nd⟩
 rw[<-yO] at he;let⟨z,e1,e2,e3,e4⟩:=ZU r he;let hz:=x.key z (zG e1);exact⟨z.1,by rw[zC,e1];rfl,e2,Uw I _ _ _ hz.1 e3,hz.2⟩
def ZPU{d:aj}{xs:List (KT×V×V)}{es:Array DictEntry}{o:aG}{ep:Nat}{t:KT}{y:V}{u:ai}{Q:jQ->am->Prop}(I:ZJ X kR σ H s)(x:Xb X.w H d xs)(r:Paired (Oy X.w) xs es.toList)(ho:s.heap.get? d=some o)(hd:o.data=.dict es ep)(hy:ZE H t y)(dt:t.depth<=3)(ry:ZT y u)(hu:A.units+3<cLine)(hno:t∉xs.map (·.1)->Q none s)(jB:∀ j z e,xs[j]? = some z->z.1=t->es[j]? = some e->Oy X.w z e->Q (some j) s):aC (aB X.prog X.w) A (dictFind d u (WI X.w t)) Q E s:=by
 refine ZNI (Uw I t y u hy ry) dt hu ho hd (x.es I r) hno λj hj=>?_;rw[zC] at hj;let⟨z,e1,e2⟩:=xY.mp hj;let lt:j<es.size:=by
  have:=Paired.length r;let⟨a,_⟩:=yY.mp e1;simp at this;lia
 let e3:es[j]? = some es[j]:=vZ lt;let⟨z',e4,e5⟩:=ZU r (by rw[yO];exact e3)
 rw[e1] at e4;cases e4;exact jB j z _ e1 e2 e3 e5
def AG{d:aj}{xs:List (KT×V×V)}{t:KT}{y v:V}{u r:ai}{Q:Unit->am->Prop}(hu:A.units+4<cLine)(I:ZJ X kR σ H s)(x:Xb X.w H d xs)(hl:xs.length<1000)(hy:ZE H t y)(dt:t.depth<=3)(ry:ZT y u)(rv:ZT v r)(h:∀ s' H',ZJ X kR σ H' s'->ZG d H H'->Xb X.w H' d (Qb xs t y v)->Q () s'):aC (aB X.prog X.w) A (setItem (.ref d) u r) Q E s:=by
 let⟨es,hH,rel⟩:=x.ex;let⟨⟨hsys,hsz,o,ep,ho,hx,hd⟩,_⟩:=I.hok d _ hH;let len:es.size=xs.length:=by have:=Paired.length rel;simpa using this.symm
 let hT:s.TypeIs (.ref d) "dict" :=⟨o,ho,hx.1⟩;unfold setItem
 try with_reducible refine af ?_
 refine aa (wpAny_sequenceKey hT (by decide) ?_)
 refine aa (wpAny_callSpecial?_slot (name:=zW "__setitem__") hT slot_dict_setitem (wpAny_call_entry slot_dict_setitem hT entry_dict_setitem ?_ (args_dict_setitem _ _ _)));show aC _ _ (Builtin.Dict.notOrdered "__setitem__" ⟨[.ref d,u,r],[]⟩ >>= _) _ _ s;refine aa (wpAny_notOrdered_dict hT ?_);show aC _ _ (dictSet d u r >>= _) _ _ s;refine aa ?_;unfold dictSet
 try with_reducible refine af ?_
 refine aa (EO t.depth t (zX _) (Uw I t y u hy ry) (by show A.units+1+_<_;lia) λtk htk=>?_)
 unfold dictSetHashed
 try with_reducible refine af ?_
 let I1:ZJ X kR σ H { s with toks:=tk }:=I.tok tk;let mu:Ot (H d):=by rw[hH];exact True.intro
 let tups:∀ es',YD H (upd H d (NE d es')):=λes' b ws e=>by rw[ZY (Zg e hH (by intro z;cases z))];exact e
 let fin:∀(es':Array DictEntry)(h':aD),es'.size<=ar->xX d s.heap h'->(∃ o ep,h'.get? d=some o/\o.ExactDict/\o.data=.dict es' ep)->Paired (Oy X.w) (Qb xs t y v) es'.toList->Q () { s with heap:=h',toks:=tk }:=λes' h' hz hs hob hp=>by
  refine h _ (upd H d (NE d es')) (LW I mu hs (by let⟨o,_,g,_⟩:=hob;exact⟨o,g⟩) (HZ hsys hz hob)) (λb o e n=>by rw[ZY n];exact e) ⟨⟨es',ZZ,hp⟩,λz hz=>?_,?_⟩
  ·unfold Qb at hz;split at hz
   ·let⟨z',hz',rfl⟩:=yR.mp hz;rw[(HA t v z').1,(HA t v z').2];exact⟨(x.key z' hz').1.mono (tups es'),(x.key z' hz').2⟩
   ·rcases yU.mp hz with q | q
    ·exact⟨(x.key z q).1.mono (tups es'),(x.key z q).2⟩
    ·rw[zN.mp q];exact⟨hy.mono (tups es'),dt⟩
  ·rw[Lc];split
   ·exact x.nd
   ·rename_i hn
    rw[uV];exact⟨x.nd,by simp,λa ha b hb=>by rw[zN.mp hb];exact λz=>hn (VS.mpr (z ▸ ha))⟩
 refine aa (ZPU (A:=A.in1) I1 x rel ho hd hy dt ry (by show A.units+1+3<_;lia) (λhn=>?_) λj z e e1 e2 e3 e4=>?_)
 ·let hn':¬ (xs.any λx=>x.1.eqb t)=true:=λq=>hn (VS.mp q);refine aa (ah (wpAny_updateDictKeys (s:={ s with toks:=tk }) (hz:=hsz) ho hd ?_));refine ad ⟨.none,Z,ad (fin (es.push ⟨WI X.w t,u,r⟩) _ (by rw[Array.size_push,len];exact yV (YF (by lia))) (xX.update ..) ⟨_,ep+1,tF _ ho (Obj.isFreed_of_dict (Obj.data_mapDictKeys hd _)),hx.mapDictKeys _,Obj.data_mapDictKeys hd _⟩ ?_)⟩
  unfold Qb;rw[aJ hn',uT];exact Jp ⟨Z,ry,rv⟩ rel
 ·let hn':(xs.any λx=>x.1.eqb t)=true:=VS.mpr (yR.mpr ⟨z,zG e1,e2⟩);refine aa (ah (aa (wpAny_updateDict (s:={ s with toks:=tk }) ho hd (wpAny_point ?_))));refine ad ⟨.none,Z,ad (fin (es.modify j λe=>{ e with val:=r }) _ (by rw[Array.size_modify];exact hsz) (xX.update ..) ⟨_,ep,tF _ ho (Obj.isFreed_of_dict (Obj.data_mapDict hd _)),hx.mapDict _,Obj.data_mapDict hd _⟩ ?_)⟩
  unfold Qb;rw[aK hn'];let lm:(es.modify j λe=>{ e with val:=r }).toList.length=es.size:=by rw[yM];exact Array.size_modify
  refine Xk (by rw[lm,zY,len]) λi a b ha hb=>?_
  rw[zC] at ha;let⟨a',ea,rfl⟩:=xY.mp ha;rw[yO,Array.getElem?_modify] at hb;let hes:es[i]? = some (es[i]'(by let⟨l1,_⟩:=yY.mp ea;lia)):=vZ _
  let⟨a2,ea2,r1,r2,r3⟩:=ZU rel (by rw[yO];exact hes)
  rw[ea] at ea2;cases ea2;rw[hes] at hb;by_cases hij:j=i
  ·subst hij;rw[aK rfl,vU] at hb;cases hb;rw[e1] at ea;cases ea;unfold Oi;rw[e2,PF,aK rfl];rw[e2] at r1;exact⟨r1,r2,rv⟩
  ·rw[aJ hij] at hb;cases hb;let jx:a'.1.eqb t=false:=by
    cases q:a'.1.eqb t with
    | false=>rfl
    | true=>
     let q1:(xs.map (·.1))[i]? = some t:=by rw[zC,ea];exact congrArg some (Pg _ _ q)
     let q2:(xs.map (·.1))[j]? = some t:=by rw[zC,e1];exact congrArg some e2
     let⟨l1,_⟩:=yY.mp q2;exact absurd ((List.getElem?_inj l1 x.nd).mp (q2.trans q1.symm)) hij
   unfold Oi;rw[jx,aJ zS];exact⟨r1,r2,r3⟩
end
end _T
namespace L2
open PySem PySem.Spec PyProof.Rows
section
variable{T:String}{r d:aj}{n:Nat}{P:Nat->ai->Prop}{OK:aD->Prop}
def ZLz{R:Result->am->Prop}(K:tM prog w T r d n P OK)(hh:A.handled=none)(hok:OK s.heap)(S:aj)(hSr:S≠r)(hSd:S≠d)(c₀:Nat)(hS:s.heap.get? S=some { cls:=.type "list",data:=.seq #[] c₀ })(hR:∀ h' tk acc' c',(∀ b o,b≠S->s.heap.get? b=some o->h'.get? b=some o)->h'.get? S=some { cls:=.type "list",dict:=none,data:=.seq acc' c',slots:=#[] }->ItemsOf P acc' n->R (.ok (.ret (.ref S))) { s with heap:=h',toks:=tk })(hn:n<=ar):
  codeAny (aB prog w) A (.builtin "list.__iadd__" ⟨[.ref S,.ref r],[]⟩) R s:=by
 refine codeAny_builtin PySem.F.entry_list_iadd ?_;rw[Around.under_plainId qL _];exact PySem.W.kdl_extend (R:=R) K hh hok S hSr hSd (.ref S) c₀ hS hR hn
def Gr{Q:jg->am->Prop}(K:tM prog w T r d n P OK)(hh:A.handled=none)(hok:OK s.heap)(hn:n<=ar)(hQ:∀ h' tk acc,(∀ b o,s.heap.get? b=some o->h'.get? b=some o)->s.heap.objs.size<h'.objs.size->ItemsOf P acc n->Q acc.toList { s with heap:=h',toks:=tk }):aC (aB prog w) A (collect (.ref r)) Q E s:=by
 let hlt:=K.there _ hok;unfold collect;refine aa (wpAny_runValue (codeAny_builtin PySem.F.entry_proto_collect ?_));rw[Around.under_plainId PySem.F.plain_proto_collect _];show aC _ A.in1 (newList [] >>= λl=>again (.builtin "list.__iadd__" ⟨[l,.ref r],[]⟩)) _ _ s;refine aa (wpAny_newObj_type ?_);let hS:(s.heap.push { cls:=.type "list",data:=.seq ([]:jg).toArray }).get? s.heap.objs.size=some { cls:=.type "list",data:=.seq #[] 0 }:=yP _ Z;refine ad ⟨plainId_quiet qL _,ZLz (s:={ s with heap:=s.heap.push { cls:=.type "list",data:=.seq ([]:jg).toArray } }) K hh (K.keep _ _ hok λb _ o e=>zD _ e) s.heap.objs.size (Nat.ne_of_gt hlt.1) (Nat.ne_of_gt hlt.2) _ hS (λh' tk acc' c' hk hS' hacc=>?_) hn⟩;show aC _ A (load s.heap.objs.size >>= _) _ _ _;refine aa (wpAny_load hS' ?_);exact ad (hQ h' tk acc' (λb o e=>hk b o (yN (zL e)) (zD _ e)) (zL hS') hacc)
end
def ZJp:∀{kvs:List (Zi×V)}{vs:List (Zi×ai)}{ns:jX},KV kvs vs->kvs.map (·.1)=ns.map Sum.inl->∀ acc:jg,acc.length=vs.length->(∀(i:Nat)(v:ai),acc[i]? = some v->∃(k:Zi)(x:ai),vs[i]? = some (k,x)/\PN k v=true)->IntsAre acc ns:=by
 intro kvs vs ns h e acc hl hv;let ek:=KV.keys h;rw[e] at ek;clear e h
 induction vs generalizing ns acc with
 | nil=>
  cases acc with
  | nil=>
   cases ns with
   | nil=>exact .nil
   | cons _ _=>simp at ek
  | cons _ _=>simp at hl
 | cons q r ih=>
  cases acc with
  | nil=>simp at hl
  | cons a acc=>
   cases ns with
   | nil=>simp at ek
   | cons n ns=>
    simp only[zB,List.cons.injEq] at ek;let⟨k,x,e1,e2⟩:=hv 0 a Z;simp only[List.getElem?_cons_zero,yL.injEq] at e1;subst e1;let ek1:Sum.inl n=k:=ek.1;subst ek1;obtain⟨i,t,z1,z2⟩ | ⟨i,t,z1,z2⟩:=QH e2
    ·cases z1;subst z2;exact .cons _ _ (ih acc (by simpa using hl) (λi v hi=>by simpa using hv (i+1) v (by simpa using hi)) ek.2)
    ·cases z1
def ZGA:∀{vs:jg}{ns:jX},IntsAre vs ns->ZR (ns.map V.int) vs:=λh=>HH h
def BL:az "sorted" = some (.builtin "sorted"):=by decide +kernel
def ZQx(a₀:jL)(st:kD):Prop:=(kC st).Perm a₀/\failedOf st=none/\(kE st).size=1/\PyProof.Rows.SortedTo (kC st) a₀.size
def Ca{a₀:jL}{st:kD}{Q:jQ->kD->Prop}(hk:PyProof.Rows.IntKeys a₀)(b:SBase a₀ st)(h1:1<=a₀.size)(up:PyProof.Rows.SortedTo (kC st) a₀.size)(hq:Q (some a₀.size) st):wpS (aB prog w) A E s (countRun' 0 a₀.size) Q st:=by
 rw[countRun0_eq];refine kA (wpS_ascLoop hk (zX _) (zX _) h1 b (λi j (c1:i<=j) (c2:j<1)=>(by rw[show i=j by lia];exact xD _)) λn n1 n2 n3 n4=>?_)
 let e:n=a₀.size:=by
  rcases n4 with z | z
  ·exact z
  ·rcases xQ n a₀.size with c | c
   ·have:=up (n-1) n (by lia) c
    lia
   ·lia
 subst e;show wpS _ _ _ _ (if (a₀.size==a₀.size)=true then pure (some a₀.size) else _) _ _
 rw[aK (by simp)]
 exact kB hq
def ZJ0:∀ n:Nat,n<1000->minRun' n n 0<=n:=by decide +kernel
def ZIa{a₀:jL}{st:kD}{Q:Unit->kD->Prop}(hk:PyProof.Rows.IntKeys a₀)(b:SBase a₀ st)(h1:1<=a₀.size)(h1000:a₀.size<1000)(hp:kE st=#[])(up:PyProof.Rows.SortedTo (kC st) a₀.size)(hq:∀ st',(kC st').Perm a₀->failedOf st'=none->PyProof.Rows.SortedTo (kC st') a₀.size->Q () st'):wpS (aB prog w) A E s sortRuns' Q st:=by
 rw[sortRuns'_eq];let es:(kC st).size=a₀.size:=b.perm.size_eq;refine kA (wpS_get ?_);dsimp only;rw[es];refine kA (kF (I:=λi c st'=>(i=0/\c=(none,0)/\st'=st)\/(1<=i/\c=(none,a₀.size)/\ZQx a₀ st')) ?_ ?_ (.inl ⟨rfl,rfl,rfl⟩))
 ·rintro i c st' _ hi (⟨rfl,rfl,rfl⟩ | ⟨i1,rfl,u⟩)
  ·dsimp only;rw[aJ (by lia)]
   refine kA ?_;rw[Nat.sub_zero];refine Ca hk b h1 up ?_;dsimp only;rw[aJ (Nat.not_lt.mpr (ZJ0 _ h1000))];refine kA (wpS_get ?_);rw[hp];refine kA (wpS_modify ?_);refine kB ?_;refine .inr ⟨zX _,by rw[vO],b.perm,b.failed,?_,up⟩
   show ((kE st').push _).size=1;rw[hp];rfl
  ·dsimp only;rw[aK (zX _)];refine kB ?_;dsimp only;refine kA (kF (I:=λi c st''=>c=(none,())/\st''=st') (λi c st'' _ _ hi=>?_) (λc st'' hi=>?_) ⟨Z,Z⟩)
   ·let⟨rfl,rfl⟩:=hi;refine kA (wpS_get ?_);rw[aK (by rw[u.2.2.1];exact zX _)]
    refine kB ?_;exact kB (hq _ u.1 u.2.1 u.2.2.2)
   ·let⟨rfl,rfl⟩:=hi;exact kB (hq _ u.1 u.2.1 u.2.2.2)
 ·rintro c st' (⟨z,_,_⟩ | ⟨_,rfl,u⟩)
  ·lia
  ·dsimp only;refine kA (kF (I:=λi c st''=>c=(none,())/\st''=st') (λi c st'' _ _ hi=>?_) (λc st'' hi=>?_) ⟨Z,Z⟩)
   ·let⟨rfl,rfl⟩:=hi;refine kA (wpS_get ?_);rw[aK (by rw[u.2.2.1];exact zX _)]
    refine kB ?_;exact kB (hq _ u.1 u.2.1 u.2.2.2)
   ·let⟨rfl,rfl⟩:=hi;exact kB (hq _ u.1 u.2.1 u.2.2.2)
def GO:∀{vs:jg}{ns:jX}{i:Nat}{n:Int},IntsAre vs ns->ns[i]? = some n->∃ t,vs[i]? = some (.int n t)
 | _,_,0,_,.cons m t h,e=>⟨t,by simp at e;rw[<-e];rfl⟩
 | _,_,i+1,_,.cons m t h,e=>by
  let⟨t,r⟩:=GO (i:=i) h (by simpa using e)
  exact⟨t,by simpa using r⟩
def ZJC{vs:jg}{ns:jX}(hI:IntsAre vs ns)(up:ns.Pairwise (· <= ·)):PyProof.Rows.SortedTo (pairsOf vs) (pairsOf vs).size:=λi j hij hj=>by
 rw[pairsOf_size] at hj;let hl:=hI.length;let ki:∀ i,i<vs.length->∃ n,ns[i]? = some n/\PyProof.Rows.K (pairsOf vs) i=n:=λi hi=>by
  let hn:i<ns.length:=by lia
  let⟨t,e⟩:=GO hI (zV hn);exists _,zV hn;unfold PyProof.Rows.K;have:(pairsOf vs)[i]? = some (.int ns[i] t,.int ns[i] t):=by
   rw[<-yO,pairsOf_toList,List.getElem?_zip_eq_some];exact⟨e,e⟩
  rw[this];rfl
 let⟨a,ea,ka⟩:=ki i (by lia)
 let⟨b,eb,kb⟩:=ki j hj;rw[ka,kb];rcases xQ i j with c | c
 ·let⟨hi',e1⟩:=yY.mp ea;let⟨hj',e2⟩:=yY.mp eb;have:=qX.mp up i j hi' hj' c;rw[e1,e2] at this;exact this
 ·have:i=j:=by lia
  subst this;rw[ea] at eb;cases eb;exact xD _
def ZFd{a:aj}{vs:jg}{ns:jX}{n:Nat}{P:PySem.Fin->am->Prop}(ho:s.heap.get? a=some (seqObj "list" vs.toArray n))(hI:IntsAre vs ns)(hl:vs.length<1000)(up:ns.Pairwise (· <= ·))(h:∀ (out:jV) (ns':jX),IntsAre out.toList ns'->ns'.Perm ns->ns'.Pairwise (· <= ·)->P (.done (.ret .none)) { s with heap:=sortedHeap s.heap a vs out }):aC (aB prog w) A (Builtin.«list.sort» { pos:=[.ref a] }) P E s:=by
 rcases xQ vs.length 64 with c | c
 ·exact list_sort_tree ho hI c h
 let hz:vs.length<=sizeLine:=yV (YF (by lia))
 rw[list_sort_plain];refine aa (listItems_at ho Z ?_);refine aa (listUpdate_at ho Z ?_ (by rw[zM];exact hz) (zH _))
 obtain⟨e1,ho1⟩:∃ e1,(s.heap.update a (Obj.mapSeq λ_=>(#[]:jV))).get? a=some (seqObj "list" #[] e1):=⟨_,get?_update_seq ho λ_=>#[]⟩;refine aa (seqEpoch_at ho1 Z ?_);refine aa (wpAny_newTuple ?_ (by show vs.length<=_;exact hz))
 refine aa (wpAny_newList ?_ (zH _));refine af ?_;let oo:(((s.heap.update a (Obj.mapSeq λ_=>(#[]:jV))).push (seqObj "tuple" vs.toArray 0)).push (seqObj "list" #[] 0)).get? a=some (seqObj "list" #[] e1):=zD _ (zD _ ho1);dsimp only;rw[aJ (by rw[zM];lia),aJ (by rw[zM];lia)]
 obtain⟨v1,v2,rest,ev⟩:∃ v1 v2 rest,vs=v1::v2::rest:=by
  match vs,c with
  | v1::v2::rest,_=>exact⟨v1,v2,rest,Z⟩
 let kk:keyKind' vs.toArray=pure oneType':=by
  subst ev;exact keyKind_ints hI
 rw[kk];refine aa (ad ?_);let ps:(pairsOf vs).size=vs.length:=pairsOf_size vs;refine aa (Zb (ZIa (a₀:=pairsOf vs) (st:=SortSt.mk' oneType' (pairsOf vs) #[] 7 none) (Q:=λ_ st'=>(kC st').Perm (pairsOf vs)/\failedOf st'=none/\PyProof.Rows.SortedTo (kC st') (pairsOf vs).size) hI.intKeys ⟨Array.Perm.refl _,rfl,rfl,rfl⟩ (by lia) (by lia) rfl (ZJC hI up) λst' p1 p2 p3=>⟨p1,p2,p3⟩) λr s'' hr=>?_)
 let⟨⟨⟩,st'⟩:=r;let⟨rfl,p1,p2,p3⟩:=hr;let⟨ns',i1,i2,i3⟩:=sorted_out hI p1 p3;dsimp only;refine aa (seqEpoch_at oo Z ?_);refine aa (listUpdate_at oo Z ?_ (zH _) (by rw[Array.size_map,p1.size_eq,ps];lia))
 rw[p2];simp only[bne_self_eq_false,wT,if_false];exact ad (h _ ns' i1 i2 i3)
section
variable{T:String}{r d:aj}{n:Nat}{P:Nat->ai->Prop}{OK:aD->Prop}
def ZGP{Q:ja}{ns:jX}(K:tM prog w T r d n P OK)(hh:A.handled=none)(hok:OK s.heap)(hn:n<=ar)(hP:∀ acc,ItemsOf P acc n->IntsAre acc.toList ns)(h64:n<1000)(hs:ns.Pairwise (· <= ·))(hQ:∀ h' tk a out c,(∀ b o,s.heap.get? b=some o->h'.get? b=some o)->s.heap.objs.size<=a->IntsAre out ns->h'.get? a=some { cls:=.type "list",data:=.seq out.toArray c }->Q (.ref a) { s with heap:=h',toks:=tk }):
  aC (aB prog w) A (call (.builtin "sorted") [.ref r]) Q E s:=by
 refine Calls.call_function_entry kind_sorted plain_sorted entry_sorted (args_sorted1 _) ?_;unfold Builtin.«sorted»;refine aa (m:=checkCount "sorted" 1 1 _) (ad ?_);refine aa (Gr K hh hok hn λh1 tk acc k1 hsz hacc=>?_);let hI:=hP acc hacc;let hl64:acc.toList.length<1000:=by rw[yM,hacc.1];exact h64
 refine aa (wpAny_newList ?_ (hsz:=yV (YF (by lia))))
 let hoL:(h1.push (seqObj "list" acc.toList.toArray 0)).get? h1.objs.size=some (seqObj "list" acc.toList.toArray 0):=yP _ Z;refine aa (af (wpAny_call_entry slot_list_sort ⟨_,hoL,rfl⟩ entry_list_sort (ZFd hoL hI hl64 hs λout ns' a1 a2 a3=>⟨_,Z,?_⟩) (args_list_sort _)));refine ad ⟨_,Z,?_⟩;let e:ns'=ns:=wR.eq_of_pairwise (le:=(· <= ·)) (λa b _ _ h1 h2=>Int.le_antisymm h1 h2) a3 hs a2;subst e;let⟨c,hc⟩:=sortedHeap_at (vs:=acc.toList) (out:=out) hoL;refine hQ _ tk h1.objs.size out.toList c (λb o e=>?_) (yV hsz) a1 (by rw[zEQ];exact hc)
 let e1:=k1 b o e;rw[sortedHeap_old (yN (zL e1)) (by rw[size_push'];exact Nat.lt_succ_of_lt (zL e1))]
 exact zD _ e1
end
inductive Qs(xs:jh)(H:Hp)(Q:VK):Prop
 |mk(a:aj)(kvs:List (Zi×V))(ns:jX)(_:xs=[.ref a])(_:H a=some (.dK kvs))(_:kvs.map (·.1)=ns.map Sum.inl)(_:ns.Pairwise (· <= ·))(_:ns.length<1000)(_:∀ p,H p=none->Q (.ref p) (upd H p (.lst (ns.map V.int))))
def ZGy(hc:X.calm=true):Wg X (.builtin "sorted") Qs:=by
 intro kR s σ H xs us Q I r h;let⟨a,kvs,ns,rfl,ha,hk,hs,h64,q⟩:=h;let⟨u,rfl,ru⟩:=Wk r;cases ru;let⟨z,lo,vs,kv,hD⟩:=ND I.hok ha;let ln:ns.length=kvs.length:=by have:=congrArg xC hk;simpa using this.symm
 let lv:=KV.length kv;let⟨ep,hA⟩:=hD.dictAt;refine ZGP (ns:=ns) (PySem.W.kdl_dict (knd:=WU X.prog X.w) (kvs:=vs) (ep:=ep) lo) (I.ok.hd hc) hA (by lia) (λacc hacc=>ZJp kv hk acc.toList (by rw[yM];exact hacc.1) λi v e=>?_) (by lia) hs λh' tk p out c k1 hp hI hg=>?_
 ·exact hacc.2 i v (by rw[<-yO];exact e)
 ·exact⟨.ref p,_,I.laid (a:=p) (o:=.lst (ns.map V.int)) (t':=tk) k1 hp ⟨by rw[zY];exact yV (YF (yV h64)),out,c,ZGA hI,hg⟩,Z,q p (I.hok.fresh hp)⟩
class Ko where
 k0:SortKind
 k1:kI->Int
 k2:kI->Prop
section
variable[κ:Ko]
abbrev Ul:SortKind:=κ.k0
abbrev kv(p:kI):Int:=κ.k1 p
abbrev Uk(p:kI):Prop:=κ.k2 p
class KoOk (prog:ao) (w:ax) (A:ay) (s:am):Prop where
 lt:∀{E:ja}{p q:kI}{Q:Bool->am->Prop},Uk p->Uk q->Q (decide (kv p<kv q)) s->aC (aB prog w) A (keyLt' Ul p.1 q.1) Q E s
def Kk(xs:jL)(i:Nat):Int:=match xs[i]? with
 | some p=>kv p
 | none=>0
def Qc(xs:jL)(k:Nat):Prop:=∀ i j,i<=j->j<k->Kk xs i<=Kk xs j
def We(xs:jL):Prop:=∀ p,p∈xs.toList->Uk p
def HP{xs ys:jL}{i j:Nat}(h:xs[i]? = ys[j]?):Kk xs i=Kk ys j:=by unfold Kk;rw[h]
def FN{xs:jL}{src d:Nat}(hs:src<xs.size)(hd:d<=src)(k:Nat):Kk (bubble xs src d) k=if k=src-d then Kk xs src else if src-d<k/\k<=src then Kk xs (k-1) else Kk xs k:=by
 unfold Kk;rw[getElem?_bubble hs d hd k];by_cases h1:k=src-d
 ·rw[aK h1,aK h1]
 rw[aJ h1,aJ h1];by_cases h2:src-d<k/\k<=src
 ·rw[aK h2,aK h2]
 ·rw[aJ h2,aJ h2]
def Fk{xs:jL}{i j:Nat}(hj:j<=xs.size)(k:Nat):Kk (mirror xs i j ((j-i) / 2)) k=if i<=k/\k<j then Kk xs (i+j-1-k) else Kk xs k:=by
 unfold Kk;rw[getElem?_mirror_all hj k];by_cases h:i<=k/\k<j
 ·rw[aK h,aK h]
 ·rw[aJ h,aJ h]
def FM{xs:jL}{i j:Nat}(hj:j<=xs.size)(h:∀ k,i<=k->k<j->Kk xs k=Kk xs (j-1))(k:Nat):Kk (mirror xs i j ((j-i) / 2)) k=Kk xs k:=by
 rw[Fk hj];split
 ·rw[h _ (by lia) (by lia),h k (by lia) (by lia)]
 ·rfl
def gallop':Bool->kI->jL->Nat->Nat->Nat->StateT kD Sem (jQ):=sortPriv% PySem.Builtin.gallop
section
variable{α:Type}{x y:StateT kD Sem α}{Q:α->kD->Prop}{st:kD}
def VU{c:Prop}{_:Decidable c}(h:c->wpS (aB prog w) A E s x Q st)(g:¬c->wpS (aB prog w) A E s y Q st):wpS (aB prog w) A E s (if c then x else y) Q st:=by
 by_cases z:c
 ·rw[aK z];exact h z
 ·rw[aJ z];exact g z
def O2{c:Prop}{_:Decidable c}(h:c->wpS (aB prog w) A E s x Q st)(g:¬c->wpS (aB prog w) A E s y Q st):wpS (aB prog w) A E s (if decide c=true then x else y) Q st:=VU (λz=>h (of_decide_eq_true z)) λz=>g λe=>z (aI e)
def Wh{a b:Nat}(h:a=b->wpS (aB prog w) A E s x Q st)(g:¬a=b->wpS (aB prog w) A E s y Q st):wpS (aB prog w) A E s (if (a==b)=true then x else y) Q st:=VU (λz=>h (eq_of_beq z)) λz=>g λe=>z (by rw[e];exact beq_self_eq_true _)
end
section
variable[KoOk prog w A s]
def MG{st:kD}{p q:kI}{Q:kz->kD->Prop}(hk:kindOf st=Ul)(hp:Uk p)(hq:Uk q)(h:Q (some (decide (kv p<kv q))) st):wpS (aB prog w) A E s (lt' p q) Q st:=by
 rw[lt'_eq];refine kA (wpS_get ?_);rw[hk];exact kA (wpS_lift (wpAny_attempt (KoOk.lt hp hq ⟨rfl,kB h⟩)))
def KF{st:kD}{xs:jL}{i:Nat}{p:kI}{Q:kI->kD->Prop}(e:xs[i]? = some p)(h:Q p st):wpS (aB prog w) A E s (elem' xs i) Q st:=by
 rw[elem'_eq,e];exact kB h
def Ow{α:Type}{r:String}{f:Unit->StateT kD Sem α}{st:kD}{Q:α->kD->Prop}(h:wpS (aB prog w) A E s (f ()) Q st):wpS (aB prog w) A E s (liftM (rule r) >>= f) Q st:=kA (wpS_lift (ah ⟨rfl,h⟩))
def LJ{xs:jL}{i:Nat}(hI:We xs)(hi:i<xs.size):∃ p,xs[i]? = some p/\Uk p/\Kk xs i=kv p:=by
 let e:xs[i]? = some xs[i]:=getElem?_pos xs i hi;exists _,e,hI _ (by simp)
 unfold Kk;rw[e]
section
variable{α:Type}{Q:α->kD->Prop}{st:kD}
def Q7{xs:jL}{i:Nat}{p:kI}{f:kI->StateT kD Sem α}(e:xs[i]? = some p)(h:wpS (aB prog w) A E s (f p) Q st):wpS (aB prog w) A E s (elem' xs i >>= f) Q st:=kA (KF e h)
def Uo{xs:jL}{i:Nat}{f:kI->StateT kD Sem α}(hI:We xs)(hi:i<xs.size)(h:∀ p,xs[i]? = some p->Uk p->Kk xs i=kv p->wpS (aB prog w) A E s (f p) Q st):wpS (aB prog w) A E s (elem' xs i >>= f) Q st:=by
 let⟨p,e,hp,ek⟩:=LJ hI hi;exact Q7 e (h p e hp ek)
def De{p q:kI}{f:kz->StateT kD Sem α}(hk:kindOf st=Ul)(hp:Uk p)(hq:Uk q)(h:wpS (aB prog w) A E s (f (some (decide (kv p<kv q)))) Q st):wpS (aB prog w) A E s (lt' p q >>= f) Q st:=kA (MG hk hp hq h)
def Pa{β:Type}{a b:Nat}{F:Nat->β->StateT kD Sem (ForInStep β)}{c:β}{g:β->StateT kD Sem α}(I:Nat->β->kD->Prop)(R:β->kD->Prop)(hi:I a c st)(step:∀ i c st,a<=i->i<b->I i c st->wpS (aB prog w) A E s (F i c) (λr st'=>match r with | .done c'=>R c' st' | .yield c'=>I (i+1) c' st') st)(fin:∀ c st,I (max a b) c st->R c st)(post:∀ c st,R c st->wpS (aB prog w) A E s (g c) Q st):wpS (aB prog w) A E s (forIn [a:b] c F >>= g) Q st:=kA (kH (kF I step fin hi) post)
end
def bK(left:Bool)(key:kI)(arr:jL)(i:Nat):Bool:=if left then decide (Kk arr i<kv key) else !decide (kv key<Kk arr i)
def Ni{st:kD}{left:Bool}{key:kI}{arr:jL}{i:Nat}{Q:kz->kD->Prop}(hk:kindOf st=Ul)(hI:We arr)(hi:i<arr.size)(hq:Uk key)(h:Q (some (bK left key arr i)) st):
  wpS (aB prog w) A E s (elem' arr i >>= λx=>if left=true then lt' x key else lt' key x >>= λr=>pure (r.map (!·))) Q st:=by
 let⟨p,e,hp,ek⟩:=LJ hI hi;refine kA (KF e ?_);unfold bK at h;rw[ek] at h;cases left
 ·rw[aJ (by simp)]
  exact kA (MG hk hq hp (kB h))
 ·rw[aK rfl];exact MG hk hp hq h
def Kp{γ:Type}{f:Nat->Option γ×Nat×Nat->StateT kD Sem (ForInStep (Option γ×Nat×Nat))}{n lo hi:Nat}{B:Nat->Bool}{st:kD}{Q:Option γ×Nat×Nat->kD->Prop}(h1:lo<=hi)(h2:hi<=n)(hlo:∀ i,i<lo->B i=true)(hhi:∀ i,hi<=i->i<n->B i=false)(mono:∀ i j,i<=j->j<n->B j=true->B i=true)(hf:∀ x lo hi (Q':ForInStep (Option γ×Nat×Nat)->kD->Prop),hi<=n->(hi<=lo->Q' (.done (none,lo,hi)) st)->(∀ m,lo<=m->m<hi->Q' (.yield (if B m then (none,m+1,hi) else (none,lo,m))) st)->wpS (aB prog w) A E s (f x (none,lo,hi)) Q' st)(h:∀ k,k<=n->(∀ i,i<k->B i=true)->(∀ i,k<=i->i<n->B i=false)->Q (none,k,k) st):wpS (aB prog w) A E s (forIn [0:n] (none,lo,hi) f) Q st:=by
 refine kF (I:=λx c st'=>st'=st/\∃ lo hi,c=(none,lo,hi)/\lo<=hi/\hi<=n/\hi-lo<=n-x/\(∀ i,i<lo->B i=true)/\∀ i,hi<=i->i<n->B i=false) ?_ ?_ ⟨Z,lo,hi,Z,h1,h2,by lia,hlo,hhi⟩
 ·rintro x c st' _ hx ⟨rfl,lo,hi,rfl,a1,a2,a3,a4,a5⟩;refine hf x lo hi _ a2 (λc=>?_) λm c1 c2=>?_
  ·have:lo=hi:=by lia
   subst this;exact h _ a2 a4 a5
  ·cases hb:B m
   ·rw[aJ (by simp)]
    exact⟨Z,lo,m,Z,c1,zK (yV c2) a2,Nat.le_sub_one_of_lt (yQ (Nat.sub_lt_sub_right c1 c2) a3),a4,λi c1 c2=>by
     cases hi':B i with
     | false=>rfl
     | true=>rw[mono m i c1 c2 hi'] at hb;cases hb⟩
   ·rw[aK rfl];exact⟨Z,m+1,hi,Z,c2,a2,zK (Nat.sub_le_sub_left (uH c1) _) (Nat.sub_le_sub_right a3 1),λi c=>mono i m (Nat.le_of_lt_succ c) (yQ c2 a2) hb,a5⟩
 ·rintro c st' ⟨rfl,lo,hi,rfl,a1,a2,a3,a4,a5⟩;have:lo=hi:=by lia
  subst this;exact h _ a2 a4 a5
def Jd{st:kD}{left:Bool}{key:kI}{arr:jL}{kT n hint:Nat}{Q:jQ->kD->Prop}(hk:kindOf st=Ul)(hq:Uk key)(hI:We arr)(hn:kT+n<=arr.size)(hh:hint<n)(mono:∀ i j,i<=j->j<n->bK left key arr (kT+j)=true->bK left key arr (kT+i)=true)(h:∀ k,k<=n->(∀ i,i<k->bK left key arr (kT+i)=true)->(∀ i,k<=i->i<n->bK left key arr (kT+i)=false)->Q (some k) st):wpS (aB prog w) A E s (gallop' left key arr kT n hint) Q st:=by
 let monf:∀ i j,i<=j->j<n->bK left key arr (kT+i)=false->bK left key arr (kT+j)=false:=λi j c1 c2 c3=>by
  cases e:bK left key arr (kT+j) with
  | false=>rfl
  | true=>rw[mono i j c1 c2 e] at c3;cases c3
 refine kA (Ni hk hI (by lia) hq ?_)
 dsimp only;cases hb:bK left key arr (kT+hint)
 ·rw[aJ (by simp)]
  refine kA (kH (kF (I:=λx c st'=>st'=st/\∃ l o,c=(none,l,o)/\l<o/\x+1<=o/\l<hint+1/\bK left key arr (kT+(hint-l))=false)
   (Q:=λc st'=>st'=st/\∃ l o,c=(none,l,o)/\l<o/\l<hint+1/\bK left key arr (kT+(hint-l))=false/\(hint+1<=o\/bK left key arr (kT+(hint-o))=true)) ?_ ?_ ⟨rfl,0,1,rfl,by lia,by lia,by lia,hb⟩) ?_)
  ·rintro x c st' _ hx ⟨rfl,l,o,rfl,a1,a2,a3,a4⟩;dsimp only;refine VU (λc=>?_) λc=>?_
   ·exact kB ⟨Z,l,o,Z,a1,a3,a4,.inl c⟩
   refine kA (Ni hk hI (by lia) hq ?_)
   dsimp only;cases hc:bK left key arr (kT+(hint-o))
   ·rw[aJ (by simp)]
    exact kB ⟨Z,o,2 * o+1,Z,by lia,by lia,by lia,hc⟩
   ·rw[aK rfl];exact kB ⟨Z,l,o,Z,a1,a3,a4,.inr hc⟩
  ·rintro c st' ⟨rfl,l,o,rfl,a1,a2,a3,a4⟩;exact⟨Z,l,o,Z,a1,a3,a4,.inl (by lia)⟩
  ·rintro c st' ⟨rfl,l,o,rfl,a1,a2,a3,a4⟩;dsimp only;refine kA (Kp (B:=λi=>bK left key arr (kT+i)) (zK (Nat.sub_le_sub_left (Nat.le_min.mpr ⟨a1,a2⟩) _) (tQ (Nat.add_sub_add_right hint 1 l))) (zK (Nat.sub_le _ _) (yV hh)) (λi c=>?_) (λi c1 c2=>monf _ _ c1 c2 a3) mono (λx lo hi Q' b0 b1 b2=>?_) λk k1 k2 k3=>kB (h k k1 k2 k3))
   ·rcases a4 with z | z
    ·rw[wI z,Nat.sub_self] at c;exact absurd c (wM _)
    ·exact mono i _ (by lia) (by lia) z
   ·dsimp only;refine VU (λc=>?_) λc=>?_
    ·exact kB (b1 c)
    ·refine kA (Ni hk hI (by lia) hq ?_)
     let b3:=b2 (lo+(hi-lo) / 2) (by lia) (by lia)
     cases hc:bK left key arr (kT+(lo+(hi-lo) / 2)) <;> rw[hc] at b3
     ·exact kB b3
     ·exact kB b3
 ·rw[aK rfl];refine kA (kH (kF (I:=λx c st'=>st'=st/\∃ l o,c=(none,l,o)/\l<o/\x+1<=o/\l<n-hint/\bK left key arr (kT+(hint+l))=true)
   (Q:=λc st'=>st'=st/\∃ l o,c=(none,l,o)/\l<o/\l<n-hint/\bK left key arr (kT+(hint+l))=true/\(n-hint<=o\/bK left key arr (kT+(hint+o))=false)) ?_ ?_ ⟨rfl,0,1,rfl,by lia,by lia,by lia,hb⟩) ?_)
  ·rintro x c st' _ hx ⟨rfl,l,o,rfl,a1,a2,a3,a4⟩;dsimp only;refine VU (λc=>?_) λc=>?_
   ·exact kB ⟨Z,l,o,Z,a1,a3,a4,.inl c⟩
   refine kA (Ni hk hI (by lia) hq ?_)
   dsimp only;cases hc:bK left key arr (kT+(hint+o))
   ·rw[aK (by simp)]
    exact kB ⟨Z,l,o,Z,a1,a3,a4,.inr hc⟩
   ·rw[aJ (by simp)]
    exact kB ⟨Z,o,2 * o+1,Z,by lia,by lia,by lia,hc⟩
  ·rintro c st' ⟨rfl,l,o,rfl,a1,a2,a3,a4⟩;exact⟨Z,l,o,Z,a1,a3,a4,.inl (by lia)⟩
  ·rintro c st' ⟨rfl,l,o,rfl,a1,a2,a3,a4⟩;dsimp only;refine kA (Kp (B:=λi=>bK left key arr (kT+i)) (by lia) (by lia) (λi c=>mono i _ (by lia) (by lia) a3) (λi c1 c2=>?_) mono (λx lo hi Q' b0 b1 b2=>?_) λk k1 k2 k3=>kB (h k k1 k2 k3))
   ·rcases a4 with z | z
    ·lia
    ·exact monf (hint+o) i (by lia) (by lia) z
   ·dsimp only;refine VU (λc=>?_) λc=>?_
    ·exact kB (b1 c)
    ·refine kA (Ni hk hI (by lia) hq ?_)
     let b3:=b2 (lo+(hi-lo) / 2) (by lia) (by lia)
     cases hc:bK left key arr (kT+(lo+(hi-lo) / 2)) <;> rw[hc] at b3
     ·exact kB b3
     ·exact kB b3
end
structure MI(R:kI->kI->Prop)(L out ra rb:jS):Prop where
 perm:(out++(ra++rb)).Perm L
 sa:(out++ra).Pairwise R
 sb:(out++rb).Pairwise R
def MI.swap{R:kI->kI->Prop}{L out ra rb:jS}(h:MI R L out ra rb):MI R L out rb ra:=
 ⟨((wR.refl out).append zEK).trans h.perm,h.sb,h.sa⟩
def MI.takeA{R:kI->kI->Prop}{L out ra rb:jS}(h:MI R L out ra rb)(k:Nat)(hr:∀ x∈ra.take k,∀ y∈rb,R x y):MI R L (out++ra.take k) (ra.drop k) rb:=by
 let e:out++ra.take k++ra.drop k=out++ra:=by rw[xW,wF]
 exists ?_,by rw[e];exact h.sa
 ·rw[<-xW,e,xW];exact h.perm
 ·let h1:=h.sa;rw[<-e] at h1;let h2:=(wY.mp h1).1;let⟨_,b1,b2⟩:=wY.mp h.sb;refine wY.mpr ⟨h2,b1,λx hx y hy=>?_⟩;rcases yU.mp hx with z | z
  ·exact b2 x z y hy
  ·exact hr x z y hy
def MI.takeB{R:kI->kI->Prop}{L out ra rb:jS}(h:MI R L out ra rb)(k:Nat)(hr:∀ x∈rb.take k,∀ y∈ra,R x y):MI R L (out++rb.take k) ra (rb.drop k):=(h.swap.takeA k hr).swap
def NA{xs:jL}{i:Nat}{p:kI}(e:xs[i]? = some p):xs.toList.drop i=p::xs.toList.drop (i+1):=by
 rw[<-yO] at e;let⟨h,e⟩:=yY.mp e;rw[<-e];exact wA h
def Oj{xs:jL}{i:Nat}{p:kI}(e:xs[i]? = some p):Kk xs i=kv p:=by
 unfold Kk;rw[e]
def Py{xs:jL}{i k:Nat}{p:kI}(h:p∈(xs.toList.drop i).take k):∃ j,i<=j/\j<i+k/\j<xs.size/\kv p=Kk xs j:=by
 let⟨m,hm,e⟩:=List.mem_iff_getElem.mp h;rw[List.getElem_take,List.getElem_drop] at e;rw[yK,xR,yM] at hm;exists i+m,by lia,by lia,by lia
 rw[<-e];exact(Oj (by rw[<-yO];exact zV _)).symm
def OD{xs:jL}{i:Nat}{p:kI}(h:p∈xs.toList.drop i):∃ j,i<=j/\j<xs.size/\kv p=Kk xs j:=by
 let⟨j,h1,_,h2,h3⟩:=Py (xs:=xs) (i:=i) (k:=xs.size) (by rw[yS (by rw[xR,yM];lia)];exact h)
 exact⟨j,h1,h2,h3⟩
def Oq(xs:jL)(i k:Nat):(xs.extract i (i+k)).toList=(xs.toList.drop i).take k:=by
 rw[tW,tU,wE]
def KG(xs:jL)(i:Nat):(xs.extract i xs.size).toList=xs.toList.drop i:=by
 rw[tW,tU,yS (by rw[xR,yM];lia)]
def Xz(p q:kI):Prop:=kv p<=kv q
def Xn(L:jS)(r:jL):Prop:=r.toList.Perm L/\r.toList.Pairwise Xz
structure Sm(st st':kD):Prop where
 kind:kindOf st'=kindOf st
 arr:kC st'=kC st
 pend:kE st'=kE st
 failed:failedOf st'=failedOf st
def setMinGallop':Nat->StateT kD Sem Unit:=sortPriv% PySem.Builtin.setMinGallop
def mergeLo':jL->jL->StateT kD Sem (jL):=sortPriv% PySem.Builtin.mergeLo
section
variable{a b out:jL}{ia ib:Nat}{L:jS}
def NN(m:MI Xz L out.toList (a.toList.drop ia) (b.toList.drop ib))(h:b.size<=ib\/a.size<=ia):Xn L (out++a.extract ia a.size++b.extract ib b.size):=by
 unfold Xn;rw[wG,wG,KG,KG];exists by rw[xW];exact m.perm
 rcases h with z | z
 ·rw[zEG (l:=b.toList) (by rw[yM];exact z),wK]
  exact m.sa
 ·rw[zEG (l:=a.toList) (by rw[yM];exact z),wK]
  exact m.sb
def MP(m:MI Xz L out.toList (a.toList.drop ia) (b.toList.drop ib))(h:ia+1=a.size)(hl:∀ j,j<b.size->Kk b j<=Kk a (a.size-1)):Xn L (out++b.extract ib b.size++a.extract ia a.size):=by
 unfold Xn;rw[wG,wG,KG,KG];exists by rw[xW];exact m.swap.perm
 let⟨_,a1,a2⟩:=wY.mp m.sa;refine wY.mpr ⟨m.sb,a1,λx hx y hy=>?_⟩;rcases yU.mp hx with z | z
 ·exact a2 x z y hy
 ·let⟨j,_,j1,j2⟩:=OD z;let⟨i,i1,i2,i3⟩:=OD hy;have:=hl j j1;unfold Xz;rw[j2,i3,show i=a.size-1 by lia]
  exact this
end
section
variable[KoOk prog w A s]
def Ft{α β:Type}{c:β->Prop}{_:∀ n,Decidable (c n)}{x J:β->StateT kD Sem α}{Q:α->kD->Prop}{st:kD}(hx:∀ n,∃ m,x n=J m)(k:∀ n,wpS (aB prog w) A E s (J n) Q st)(n:β):wpS (aB prog w) A E s (if c n then x n else J n) Q st:=by
 refine VU (λh=>?_) λh=>?_
 ·let⟨m,e⟩:=hx n;rw[e];exact k m
 ·exact k n
def Li{α β γ:Type}{c:Prop}{_:Decidable c}{x J:β->γ->StateT kD Sem α}{Q:α->kD->Prop}{st:kD}{P0:β->γ->Prop}(P:β->γ->Prop)(k:∀ o i,P o i->wpS (aB prog w) A E s (J o i) Q st)(hn:¬c->∀ o i,P0 o i->P o i)(hx:c->(∀ o i,P o i->wpS (aB prog w) A E s (J o i) Q st)->∀ o i,P0 o i->wpS (aB prog w) A E s (x o i) Q st)(o:β)(i:γ)(h0:P0 o i):wpS (aB prog w) A E s (if c then x o i else J o i) Q st:=by
 refine VU (λh=>?_) λh=>?_
 ·exact hx h k o i h0
 ·exact k o i (hn h o i h0)
def ZK0{st:kD}{g:Nat}{Q:Unit->kD->Prop}(h:∀ st',Sm st st'->Q () st'):wpS (aB prog w) A E s (setMinGallop' g) Q st:=
 wpS_modify (f:=λst=>SortSt.mk' (kindOf st) (kC st) (kE st) g (failedOf st)) (h _ ⟨rfl,rfl,rfl,rfl⟩)
def Sm.trans{st st' st'':kD}(h:Sm st st')(g:Sm st' st''):Sm st st'':=⟨g.kind.trans h.kind,g.arr.trans h.arr,g.pend.trans h.pend,g.failed.trans h.failed⟩
def Ie{left:Bool}{key:kI}{arr:jL}{kT n:Nat}(hs:∀ i j,i<=j->j<n->Kk arr (kT+i)<=Kk arr (kT+j)):∀ i j,i<=j->j<n->bK left key arr (kT+j)=true->bK left key arr (kT+i)=true:=λi j h1 h2 h3=>by
 have:=hs i j h1 h2;unfold bK at h3⊢;cases left
 ·simp at h3⊢;lia
 ·simp at h3⊢;lia
def Uc{key:kI}{arr:jL}{i:Nat}:(bK false key arr i=true ↔ Kk arr i<=kv key)/\(bK false key arr i=false ↔ kv key<Kk arr i):=by
 unfold bK;constructor <;> simp
def Ua{key:kI}{arr:jL}{i:Nat}:(bK true key arr i=true ↔ Kk arr i<kv key)/\(bK true key arr i=false ↔ kv key<=Kk arr i):=by
 unfold bK;constructor <;> simp
structure Oh(a b:jL)(L:jS)(X:Nat)(out:jL)(ia ib:Nat):Prop where
 m:MI Xz L out.toList (a.toList.drop ia) (b.toList.drop ib)
 ha:ia+1<a.size
 hb:ib<b.size
 hx:X<=ia+ib
inductive KI{γ:Type}(st:kD)(a b:jL)(L:jS)(x:Nat):Option (jL)×jL×Nat×Nat×γ->kD->Prop
 |mk{out:jL}{ia ib:Nat}{g:γ}{st':kD}:Sm st st'->Oh a b L x out ia ib->KI st a b L x (none,out,ia,ib,g) st'
inductive Lg{γ:Type}(st:kD)(a b:jL)(L:jS)(x:Nat):Option (jL)×jL×Nat×Nat×γ->kD->Prop
 |more{out:jL}{ia ib:Nat}{g:γ}{st':kD}:Sm st st'->Oh a b L x out ia ib->Lg st a b L x (none,out,ia,ib,g) st'
 |done{r:jL}{c:jL×Nat×Nat×γ}{st':kD}:Sm st st'->Xn L r->Lg st a b L x (some r,c) st'
inductive Jk{γ:Type}(st:kD)(L:jS):Option (jL)×γ->kD->Prop
 |mk{r:jL}{c:γ}{st':kD}:Sm st st'->Xn L r->Jk st L (some r,c) st'
structure LoG(a b:jL)(L:jS)(X:Nat)(p:kI)(k:Nat)(out:jL)(ia ib:Nat):Prop where
 I:Oh a b L X out ia ib
 k1:k<=a.size-ia
 k2:∀ i,i<k->Kk a (ia+i)<=kv p
 k3:∀ i,k<=i->i<a.size-ia->kv p<Kk a (ia+i)
structure LoH(a b:jL)(L:jS)(X:Nat)(p:kI)(out:jL)(ia ib:Nat):Prop where
 I:Oh a b L X out ia ib
 hp:∀ j,ia<=j->j<a.size->kv p<=Kk a j
structure LoK(a b:jL)(L:jS)(q:kI)(k:Nat)(O:jL)(ia ib jb:Nat):Prop where
 m:MI Xz L O.toList (a.toList.drop ia) (b.toList.drop jb)
 h1:jb<b.size
 h2:ib<jb
 k1:k<=b.size-jb
 k2:∀ i,i<k->Kk b (jb+i)<kv q
 k3:∀ i,k<=i->i<b.size-jb->kv q<=Kk b (jb+i)
structure LoJ(a b:jL)(L:jS)(q:kI)(O:jL)(ia ib jb:Nat):Prop where
 m:MI Xz L O.toList (a.toList.drop ia) (b.toList.drop jb)
 h1:jb<b.size
 h2:ib<jb
 hp:∀ j,jb<=j->j<b.size->kv q<=Kk b j
def Sm.refl(st:kD):Sm st st:=⟨Z,Z,Z,Z⟩
def Oh.tb{a b:jL}{L:jS}{X:Nat}{out:jL}{ia ib:Nat}{p:kI}(I:Oh a b L X out ia ib)(e:b[ib]? = some p)(h:∀ j,ia<=j->j<a.size->kv p<=Kk a j):MI Xz L (out.push p).toList (a.toList.drop ia) (b.toList.drop (ib+1)):=by
 let m:=I.m.takeB 1 (λx hx y hy=>by
  let⟨j,j0,j1,j2⟩:=OD (xs:=a) hy;rw[NA e,tZ,wO] at hx;unfold Xz;rw[zN.mp hx,j2];exact h j j0 j1)
 rw[wQ,NA e,tZ,wO,<-uT] at m;exact m
def MI.ta{a b:jL}{L:jS}{out:jL}{ia ib:Nat}{p:kI}(I:MI Xz L out.toList (a.toList.drop ia) (b.toList.drop ib))(e:a[ia]? = some p)(h:∀ j,ib<=j->j<b.size->kv p<=Kk b j):MI Xz L (out.push p).toList (a.toList.drop (ia+1)) (b.toList.drop ib):=by
 let m:=I.takeA 1 (λx hx y hy=>by
  let⟨j,j0,j1,j2⟩:=OD (xs:=b) hy;rw[NA e,tZ,wO] at hx;unfold Xz;rw[zN.mp hx,j2];exact h j j0 j1)
 rw[wQ,NA e,tZ,wO,<-uT] at m;exact m
def Mr{α:Type}{st:kD}{left:Bool}{key:kI}{arr:jL}{kT n hint:Nat}{f:jQ->StateT kD Sem α}{Q:α->kD->Prop}(hk:kindOf st=Ul)(hq:Uk key)(hI:We arr)(sr:Qc arr arr.size)(hn:kT+n<=arr.size)(hh:hint<n)(h:∀ k,k<=n->(∀ i,i<k->bK left key arr (kT+i)=true)->(∀ i,k<=i->i<n->bK left key arr (kT+i)=false)->wpS (aB prog w) A E s (f (some k)) Q st):wpS (aB prog w) A E s (gallop' left key arr kT n hint >>= f) Q st:=
 kA (Jd hk hq hI hn hh (Ie λi j h1 h2=>sr _ _ (by lia) (by lia)) h)
def Lw{α:Type}{st:kD}{g:Nat}{f:Unit->StateT kD Sem α}{Q:α->kD->Prop}(h:∀ st',Sm st st'->wpS (aB prog w) A E s (f ()) Q st'):wpS (aB prog w) A E s (setMinGallop' g >>= f) Q st:=kA (ZK0 h)
def JT{α:Type}{st:kD}{f:kD->StateT kD Sem α}{Q:α->kD->Prop}(h:wpS (aB prog w) A E s (f st) Q st):wpS (aB prog w) A E s (get >>= f) Q st:=kA (wpS_get h)
def ZGr{st:kD}{a b:jL}{Q:jL->kD->Prop}(hk:kindOf st=Ul)(ka:We a)(kb:We b)(a1:1<=a.size)(b1:1<=b.size)(sa:Qc a a.size)(sb:Qc b b.size)(h0:∀ i,i<a.size->Kk b 0<=Kk a i)(hl:∀ j,j<b.size->Kk b j<=Kk a (a.size-1))(pa:a.toList.Pairwise Xz)(pb:b.toList.Pairwise Xz)(h:∀ r st',Sm st st'->Xn (a.toList++b.toList) r->Q r st'):wpS (aB prog w) A E s (mergeLo' a b) Q st:=by
 refine Ow (Uo kb b1 λp0 e0 i0 k0=>?_);let m0:MI Xz (a.toList++b.toList) #[p0].toList (a.toList.drop 0) (b.toList.drop 1):=by
  let m:MI Xz (a.toList++b.toList) [] a.toList b.toList:=⟨wR.refl _,pa,pb⟩;let m':=m.takeB 1 (λx hx y hy=>by
   let⟨i,_,i1,_,i3⟩:=Py (xs:=b) (i:=0) (k:=1) hx;let⟨j,_,j1,j2⟩:=OD (xs:=a) (i:=0) hy;have:=h0 j j1;unfold Xz;rw[i3,j2,show i=0 by lia]
   exact this)
  let e:=NA e0;rw[wP] at e;rw[e] at m'⊢;exact m'
 refine Wh (λc1=>kB (h _ _ (Sm.refl _) (NN m0 (.inl (by lia))))) λc1=>Wh (λc2=>kB (h _ _ (Sm.refl _) (MP m0 c2 hl))) λc2=>JT ?_
 generalize hL:a.toList++b.toList=L at m0 h;refine Pa (KI st a b L) (Jk st L) ⟨Sm.refl _,m0,by lia,by lia,by lia⟩ ?step ?fin ?post
 case post=>
  rintro _ st' ⟨hs,g⟩;exact kB (h _ st' hs g)
 case fin=>
  rintro _ st' ⟨hs,i⟩;have:=i.ha;have:=i.hb;have:=i.hx;lia
 case step=>
  rintro X _ st' _ hX ⟨hs,I⟩;refine Pa (λx=>KI st a b L (X+x)) (Lg st a b L (X+1)) ⟨hs,I⟩ ?istep ?ifin ?ipost
  case ifin=>
   rintro _ st'' ⟨hs,I⟩;exact .more hs ⟨I.m,I.ha,I.hb,by have:=I.hx;lia⟩
  case istep=>
   clear hs I;rintro x _ st' _ hx ⟨hs,I⟩;dsimp only;let Iha:=I.ha;let Ihb:=I.hb;let Ihx:=I.hx;refine Uo kb I.hb λp ep ip kp=>Uo ka (by lia) λq eq iq kq=>De (hs.kind.trans hk) ip iq (O2 (λc=>Q7 ep ?_) λc=>Q7 eq ?_)
   ·let m':=I.tb ep λj j0 j1=>by
     have:=sa _ j j0 j1;lia
    exact Wh (λc3=>kB (.done hs (NN m' (.inl (by lia))))) λc3=>VU (λc4=>kB (.more hs ⟨m',by lia,by lia,by lia⟩)) λc4=>kB ⟨hs,m',by lia,by lia,by lia⟩
   ·let m':=I.m.ta eq λj j0 j1=>by
     have:=sb _ j j0 j1;lia
    exact Wh (λc3=>kB (.done hs (MP m' c3 hl))) λc3=>VU (λc4=>kB (.more hs ⟨m',by lia,by lia,by lia⟩)) λc4=>kB ⟨hs,m',by lia,by lia,by lia⟩
  case ipost=>
   clear hs I;rintro _ st' (⟨hs,I⟩ | ⟨hs,gd⟩)
   rotate_left
   ·exact kB ⟨hs,gd⟩
   refine Ow (Pa (λ_=>KI st a b L (X+1)) (Lg st a b L (X+1)) ⟨hs,I⟩ ?gstep ?gfin ?gpost)
   case gfin=>
    rintro _ st' ⟨hs,I⟩;exact .more hs I
   case gpost=>
    rintro _ st' (⟨hs,I⟩ | ⟨hs,gd⟩)
    ·exact Lw λst'' h2=>kB ⟨hs.trans h2,I⟩
    ·exact kB ⟨hs,gd⟩
   case gstep=>
    clear hs I;rintro x _ _ _ hx (@⟨out,ia,ib,⟨g,ac,bc⟩,st',hs,I⟩);dsimp only
    revert g
    refine Ft (λ_=>⟨_,Z⟩) λg=>Lw λst'' h2=>?_;let hs:=hs.trans h2;clear h2;let hk':kindOf st''=Ul:=hs.kind.trans hk;let Iha:=I.ha;let Ihb:=I.hb;refine Uo kb I.hb λp ep ip kp=>Mr hk' ip ka sa (by lia) (by lia) λk k1 k2 k3=>?_
    dsimp only;let H:LoG a b L (X+1) p k out ia ib:=⟨I,k1,λi h=>Uc.1.mp (k2 i h),λi h1 h2=>Uc.2.mp (k3 i h1 h2)⟩;clear I k1 k2 k3 Iha
    revert H
    revert ia
    revert out
    refine no_implicit_lambda% (Li (λout' ia'=>LoH a b L (X+1) p out' ia' ib) (λout ia I=>?_) (λc out ia H=>?_) (λc key out ia H=>?_))
    ·let hp:=I.hp;let I:=I.I;let Iha:=I.ha;let Ihx:=I.hx;refine Q7 ep ?_;let m':=I.tb ep hp;refine Wh (λc3=>kB (.done hs (NN m' (.inl (by lia))))) λc3=>Uo ka (by lia) λq eq iq kq=>Mr hk' iq kb sb (by lia) (by lia) λk k1 k2 k3=>?_
     dsimp only;generalize out.push p=O at m'⊢;let H:LoK a b L q k O ia ib (ib+1):=⟨m',by lia,by lia,k1,λi h=>Ua.1.mp (k2 i h),λi h1 h2=>Ua.2.mp (k3 i h1 h2)⟩
     clear m' k1 k2 k3 c3
     revert H
     generalize ib+1=jb
     revert jb
     revert O
     refine Li (λO jb=>LoJ a b L q O ia ib jb) (λO jb I=>?_) (λc O jb H=>?_) (λc key O jb H=>?_)
     ·refine Q7 eq ?_;let m2:=I.m.ta eq I.hp;let j1:=I.h1;let j2:=I.h2;refine Wh (λc3=>kB (.done hs (MP m2 c3 hl))) λc3=>?_;split
      ·exact kB (.more hs ⟨m2,by lia,by lia,by lia⟩)
      ·exact kB ⟨hs,m2,by lia,by lia,by lia⟩
     ·let e:=H.k1;refine⟨H.m,H.h1,H.h2,λj j1 j2=>?_⟩;have:=H.k3 (j-jb) (by lia) (by lia)
      rw[show jb+(j-jb)=j by lia] at this
      lia
     ·let m2:=H.m.takeB k (λx hx y hy=>by
       let⟨i,i0,i1,_,i3⟩:=Py (xs:=b) hx;let⟨j,j0,j1,j2⟩:=OD (xs:=a) hy;have:=sa ia j j0 j1;have:=H.k2 (i-jb) (by lia)
       rw[show jb+(i-jb)=i by lia] at this
       unfold Xz;rw[i3,j2];lia)
      rw[wQ,<-Oq,<-wG] at m2;let h1:=H.h1;let h2:=H.h2;refine Wh (λc4=>kB (.done hs (NN m2 (.inl (by lia))))) λc4=>key _ _ ⟨m2,?_,by lia,λj j1 j2=>?_⟩
      ·have:=H.k1;lia
      ·have:=H.k3 (j-jb) (by lia) (by lia)
       rw[show jb+(j-jb)=j by lia] at this
       lia
    ·refine⟨H.I,λj j1 j2=>?_⟩;have:=H.k3 (j-ia) (by lia) (by lia)
     rw[show ia+(j-ia)=j by lia] at this
     lia
    ·let Iha:=H.I.ha;let Ihx:=H.I.hx;let m':=H.I.m.takeA k (λx hx y hy=>by
      let⟨i,i0,i1,_,i3⟩:=Py (xs:=a) hx;let⟨j,j0,j1,j2⟩:=OD (xs:=b) hy;have:=sb ib j j0 j1;have:=H.k2 (i-ia) (by lia)
      rw[show ia+(i-ia)=i by lia] at this
      unfold Xz;rw[i3,j2];lia)
     rw[wQ,<-Oq,<-wG] at m';refine Wh (λc3=>kB (.done hs (MP m' c3 hl))) λc3=>Wh (λc4=>kB (.done hs (NN m' (.inr (by lia))))) λc4=>key _ _ ⟨⟨m',?_,Ihb,by lia⟩,λj j1 j2=>?_⟩
     ·have:=H.k1;lia
     ·have:=H.k3 (j-ia) (by lia) (by lia)
      rw[show ia+(j-ia)=j by lia] at this
      lia
end
abbrev Y9(xs:jL)(n:Nat):jS:=(xs.toList.take n).reverse
def ZPD{xs:jL}{i:Nat}{p:kI}(e:xs[i]? = some p):Y9 xs (i+1)=p::Y9 xs i:=by
 rw[<-yO] at e;show ((xs.toList.take (i+1)).reverse)=_;rw[yW,e];simp
def ZPT{xs:jL}{i:Nat}{p:kI}(e:xs[i-1]? = some p)(h:1<=i):Y9 xs i=p::Y9 xs (i-1):=by
 have:=ZPD e;rw[Nat.sub_add_cancel h] at this;exact this
def MI.popA{R:kI->kI->Prop}{L ra rb:jS}{out:jL}{p:kI}(h:MI R L out.toList (p::ra) rb)(hr:∀ y∈rb,R p y):MI R L (out.push p).toList ra rb:=by
 have:=h.takeA 1 (λx hx y hy=>by
  let e:x=p:=by simpa using hx
  rw[e];exact hr y hy)
 rw[tZ,wO,<-uT] at this;exact this
def D5{xs:jL}{n m:Nat}(h:m<=n)(hn:n<=xs.size):(Y9 xs n).drop (n-m)=Y9 xs m:=by
 show ((xs.toList.take n).reverse).drop (n-m)=_;rw[List.drop_reverse,yK,yM,show min n xs.size-(n-m)=m by lia,List.take_take,show min m n=m by lia]
def Kl{xs:jL}{n m:Nat}(h:m<=n)(hn:n<=xs.size):(Y9 xs n).take (n-m)=(xs.extract m n).reverse.toList:=by
 show ((xs.toList.take n).reverse).take (n-m)=_;rw[List.take_reverse,yK,yM,show min n xs.size-(n-m)=m by lia,zEP,tW,tU,List.drop_take]
def ME{xs:jL}{n:Nat}{p:kI}(h:p∈Y9 xs n):∃ j,j<n/\j<xs.size/\kv p=Kk xs j:=by
 let⟨j,_,h1,h2,h3⟩:=Py (xs:=xs) (i:=0) (k:=n) (sT.mp h);exact⟨j,by lia,h2,h3⟩
def FF{xs:jL}{n m:Nat}{p:kI}(hm:m<=n)(hn:n<=xs.size)(h:p∈(Y9 xs n).take (n-m)):∃ j,m<=j/\j<n/\kv p=Kk xs j:=by
 rw[Kl hm hn,zEP,tW,tU] at h;let⟨j,h0,h1,h2,h3⟩:=Py (xs:=xs) (sT.mp h);exact⟨j,h0,by lia,h3⟩
def V6(p q:kI):Prop:=kv q<=kv p
def GQ{L l:jS}{r:jL}(hp:l.Perm L)(hs:l.Pairwise V6)(e:r.toList=l.reverse):Xn L r:=by
 unfold Xn;rw[e];exact⟨(uU l).trans hp,rG.mpr hs⟩
def FH(xs:jL)(n:Nat):(xs.extract 0 n).toList=xs.toList.take n:=by
 rw[tW,tU,wP,Nat.sub_zero]
section
variable{a b out:jL}{na nb:Nat}{L:jS}
def Nh(m:MI V6 L out.toList (Y9 a na) (Y9 b nb))(h:na=0\/nb=0):Xn L (a.extract 0 na++b.extract 0 nb++out.reverse):=by
 refine GQ m.swap.perm ?_ (by simp[FH,Y9])
 rcases h with rfl | rfl
 ·have:Y9 a 0=[]:=rfl;rw[this,wK];exact m.sb
 ·exact m.sa
def MH(m:MI V6 L out.toList (Y9 a na) (Y9 b nb))(h:nb=1)(hl:∀ i,i<a.size->Kk b 0<=Kk a i):Xn L (b.extract 0 nb++a.extract 0 na++out.reverse):=by
 refine GQ m.perm ?_ (by simp[FH,Y9])
 let⟨_,a1,a2⟩:=wY.mp m.sb;rw[<-xW];refine wY.mpr ⟨m.sa,a1,λx hx y hy=>?_⟩;rcases yU.mp hx with z | z
 ·exact a2 x z y hy
 ·let⟨j,_,j1,j2⟩:=ME z;let⟨i,i1,i2,i3⟩:=ME hy;have:=hl j j1;unfold V6;rw[j2,i3,show i=0 by lia]
  exact this
end
def mergeHi':jL->jL->StateT kD Sem (jL):=sortPriv% PySem.Builtin.mergeHi
structure MJ(a b:jL)(L:jS)(X:Nat)(out:jL)(na nb:Nat):Prop where
 m:MI V6 L out.toList (Y9 a na) (Y9 b nb)
 a0:1<=na
 a1:na<=a.size
 b0:2<=nb
 b1:nb<=b.size
 hx:na+nb+X<=a.size+b.size
inductive LY{γ:Type}(st:kD)(a b:jL)(L:jS)(x:Nat):Option (jL)×Nat×Nat×jL×γ->kD->Prop
 |mk{na nb:Nat}{out:jL}{g:γ}{st':kD}:Sm st st'->MJ a b L x out na nb->LY st a b L x (none,na,nb,out,g) st'
inductive Mi{γ:Type}(st:kD)(a b:jL)(L:jS)(x:Nat):Option (jL)×Nat×Nat×jL×γ->kD->Prop
 |more{na nb:Nat}{out:jL}{g:γ}{st':kD}:Sm st st'->MJ a b L x out na nb->Mi st a b L x (none,na,nb,out,g) st'
 |done{r:jL}{c:Nat×Nat×jL×γ}{st':kD}:Sm st st'->Xn L r->Mi st a b L x (some r,c) st'
structure HiG(a b:jL)(L:jS)(X:Nat)(p:kI)(t k:Nat)(out:jL)(na nb:Nat):Prop where
 I:MJ a b L X out na nb
 e:na-t=k
 k1:t<=na
 k3:∀ i,t<=i->i<na->kv p<Kk a i
structure HiH(a b:jL)(L:jS)(X:Nat)(p:kI)(out:jL)(na nb:Nat):Prop where
 I:MJ a b L X out na nb
 hp:∀ j,j<na->Kk a j<=kv p
structure HiK(a b:jL)(L:jS)(q:kI)(t k:Nat)(O:jL)(na nb n2:Nat):Prop where
 m:MI V6 L O.toList (Y9 a na) (Y9 b n2)
 h1:n2<nb
 h2:2<=n2
 e:n2-t=k
 k1:t<=n2
 k3:∀ i,t<=i->i<n2->kv q<=Kk b i
structure HiJ(a b:jL)(L:jS)(q:kI)(O:jL)(na nb n2:Nat):Prop where
 m:MI V6 L O.toList (Y9 a na) (Y9 b n2)
 h1:n2<nb
 h2:2<=n2
 hp:∀ j,j<n2->Kk b j<=kv q
def MI.pa{a:jL}{L rb:jS}{out:jL}{na:Nat}{p:kI}(m:MI V6 L out.toList (Y9 a na) rb)(e:a[na-1]? = some p)(h:1<=na)(hr:∀ y∈rb,kv y<=kv p):MI V6 L (out.push p).toList (Y9 a (na-1)) rb:=by
 rw[ZPT e h] at m;exact m.popA hr
def MI.pb{b:jL}{L ra:jS}{out:jL}{nb:Nat}{p:kI}(m:MI V6 L out.toList ra (Y9 b nb))(e:b[nb-1]? = some p)(h:1<=nb)(hr:∀ y∈ra,kv y<=kv p):MI V6 L (out.push p).toList ra (Y9 b (nb-1)):=(m.swap.pa e h hr).swap
def NY{xs:jL}{n:Nat}{p:kI}(h:∀ j,j<n->j<xs.size->Kk xs j<=kv p):∀ y∈Y9 xs n,kv y<=kv p:=λy hy=>by
 let⟨j,j0,j1,j2⟩:=ME hy;rw[j2];exact h j j0 j1
section
variable[KoOk prog w A s]
def BR{st:kD}{a b:jL}{Q:jL->kD->Prop}(hk:kindOf st=Ul)(ka:We a)(kb:We b)(a1:1<=a.size)(b1:1<=b.size)(sa:Qc a a.size)(sb:Qc b b.size)(h0:∀ i,i<a.size->Kk b 0<=Kk a i)(hl:∀ j,j<b.size->Kk b j<=Kk a (a.size-1))(pa:a.toList.Pairwise Xz)(pb:b.toList.Pairwise Xz)(h:∀ r st',Sm st st'->Xn (a.toList++b.toList) r->Q r st'):wpS (aB prog w) A E s (mergeHi' a b) Q st:=by
 refine Ow (Uo ka (show a.size-1<a.size by lia) λp0 e0 i0 k0=>?_)
 let m0:MI V6 (a.toList++b.toList) #[p0].toList (Y9 a (a.size-1)) (Y9 b b.size):=by
  let ea:Y9 a a.size=a.toList.reverse:=by show (a.toList.take a.size).reverse=_;rw[yS (by simp)]
  let eb:Y9 b b.size=b.toList.reverse:=by show (b.toList.take b.size).reverse=_;rw[yS (by simp)]
  let m:MI V6 (a.toList++b.toList) #[].toList (Y9 a a.size) (Y9 b b.size):=⟨by rw[ea,eb];exact(uU _).append (uU _),by rw[ea];exact rG.mpr pa,by rw[eb];exact rG.mpr pb⟩
  exact m.pa e0 a1 (NY λj _ j1=>by rw[<-k0];exact hl j j1)
 refine Wh (λc1=>kB (h _ _ (Sm.refl _) (Nh m0 (.inl (by lia))))) λc1=>Wh (λc2=>kB (h _ _ (Sm.refl _) (MH m0 c2 h0))) λc2=>JT ?_
 generalize hL:a.toList++b.toList=L at m0 h;refine Pa (LY st a b L) (Jk st L) ⟨Sm.refl _,m0,by lia,by lia,by lia,by lia,by lia⟩ ?step ?fin ?post
 case post=>
  rintro _ st' ⟨hs,g⟩;exact kB (h _ st' hs g)
 case fin=>
  rintro _ st' ⟨hs,i⟩;have:=i.a0;have:=i.b0;have:=i.hx;lia
 case step=>
  rintro X _ st' _ hX ⟨hs,I⟩;refine Pa (λx=>LY st a b L (X+x)) (Mi st a b L (X+1)) ⟨hs,I⟩ ?istep ?ifin ?ipost
  case ifin=>
   rintro _ st'' ⟨hs,I⟩;exact .more hs ⟨I.m,I.a0,I.a1,I.b0,I.b1,by have:=I.hx;lia⟩
  case istep=>
   clear hs I;rintro x _ _ _ hx (@⟨na,nb,out,g,st',hs,m,a0,a9,b0,b9,ix⟩);dsimp only;refine Uo kb (by lia) λp ep ip kp=>Uo ka (by lia) λq eq iq kq=>De (hs.kind.trans hk) ip iq (O2 (λc=>Q7 eq ?_) λc=>Q7 ep ?_)
   ·let m':=m.pa eq a0 (NY λj j0 j1=>by
     have:=sb j (nb-1) (by lia) (by lia)
     lia)
    exact Wh (λc3=>kB (.done hs (Nh m' (.inl c3)))) λc3=>VU (λc4=>kB (.more hs ⟨m',by lia,by lia,by lia,by lia,by lia⟩)) λc4=>kB ⟨hs,m',by lia,by lia,by lia,by lia,by lia⟩
   ·let m':=m.pb ep (by lia) (NY λj j0 j1=>by
     have:=sa j (na-1) (by lia) (by lia)
     lia)
    exact Wh (λc3=>kB (.done hs (MH m' c3 h0))) λc3=>VU (λc4=>kB (.more hs ⟨m',by lia,by lia,by lia,by lia,by lia⟩)) λc4=>kB ⟨hs,m',by lia,by lia,by lia,by lia,by lia⟩
  case ipost=>
   clear hs I;rintro _ st' (⟨hs,I⟩ | ⟨hs,gd⟩)
   rotate_left
   ·exact kB ⟨hs,gd⟩
   refine Ow (Pa (λ_=>LY st a b L (X+1)) (Mi st a b L (X+1)) ⟨hs,I⟩ ?gstep ?gfin ?gpost)
   case gfin=>
    rintro _ st' ⟨hs,I⟩;exact .more hs I
   case gpost=>
    rintro _ st' (⟨hs,I⟩ | ⟨hs,gd⟩)
    ·exact Lw λst'' h2=>kB ⟨hs.trans h2,I⟩
    ·exact kB ⟨hs,gd⟩
   case gstep=>
    clear hs I;rintro x _ _ _ hx (@⟨na,nb,out,⟨g,ac,bc⟩,st',hs,I⟩);dsimp only
    revert g
    refine Ft (λ_=>⟨_,Z⟩) λg=>Lw λst'' h2=>?_;let hs:=hs.trans h2;clear h2;let hk':kindOf st''=Ul:=hs.kind.trans hk;let a0:=I.a0;let a9:=I.a1;let b0:=I.b0;let b9:=I.b1;refine Uo kb (by lia) λp ep ip kp=>Mr hk' ip ka sa (by lia) (by lia) λt k1 k2 k3=>?_
    dsimp only;simp only[vO] at k2 k3;generalize hkt:na-t=k;let H:HiG a b L (X+1) p t k out na nb:=⟨I,hkt,k1,λi h1 h2=>Uc.2.mp (k3 i h1 h2)⟩
    replace k2:∀ i,i<t->Kk a i<=kv p:=λi h=>Uc.1.mp (k2 i h)
    clear I a0 a9 k1 k3 hkt
    revert H
    revert out
    revert na
    refine no_implicit_lambda% (Li (λna out=>HiH a b L (X+1) p out na nb) (λna out I=>?_) (λc na out H=>?_) (λc key na out H=>?_))
    ·let⟨⟨m,a0,a9,b0,b9,ix⟩,hp⟩:=I;refine Q7 ep ?_;let m':=m.pb ep (by lia) (NY λj j0 _=>hp j j0)
     refine Wh (λc3=>kB (.done hs (MH m' c3 h0))) λc3=>Uo ka (by lia) λq eq iq kq=>Mr hk' iq kb sb (by lia) (by lia) λt2 k1 k2 k3=>?_
     dsimp only;simp only[vO] at k2 k3;generalize out.push p=O at m'⊢;generalize hn:nb-1=n2 at m' k1 k2 k3 c3⊢;generalize hkt:n2-t2=k';let H:HiK a b L q t2 k' O na nb n2:=⟨m',by lia,by lia,hkt,k1,λi h1 h2=>Ua.2.mp (k3 i h1 h2)⟩
     replace k2:∀ i,i<t2->Kk b i<kv q:=λi h=>Ua.1.mp (k2 i h)
     clear m' k1 k3 hkt c3 hn
     revert H
     revert O
     revert n2
     refine Li (λn2 O=>HiJ a b L q O na nb n2) (λn2 O I=>?_) (λc n2 O H=>?_) (λc key n2 O H=>?_)
     ·let⟨m',j1,j2,hp⟩:=I;refine Q7 eq ?_;let m2:=m'.pa eq a0 (NY λj j0 _=>hp j j0);refine Wh (λc3=>kB (.done hs (Nh m2 (.inl c3)))) λc3=>?_;split
      ·exact kB (.more hs ⟨m2,by lia,by lia,by lia,by lia,by lia⟩)
      ·exact kB ⟨hs,m2,by lia,by lia,by lia,by lia,by lia⟩
     ·let e:=H.e;exact⟨H.m,H.h1,H.h2,λj c=>vX (k2 j (by lia))⟩
     ·let j1:=H.h1;let j3:=H.k1;let m2:=H.m.takeB (n2-t2) λx hx y hy=>by
       let⟨i,i0,i1,i3⟩:=FF j3 (by lia) hx
       let⟨j,j0,j1,j2⟩:=ME hy;have:=sa j (na-1) (by lia) (by lia)
       have:=H.k3 i i0 i1;unfold V6;rw[i3,j2];lia
      rw[D5 j3 (by lia),Kl j3 (by lia),<-wG] at m2
      exact Wh (λc4=>kB (.done hs (MH m2 c4 h0))) λc4=>Wh (λc5=>kB (.done hs (Nh m2 (.inr c5)))) λc5=>key _ _ ⟨m2,by lia,by lia,λj c=>vX (k2 j c)⟩
    ·let e:=H.e;exact⟨H.I,λj c=>k2 j (by lia)⟩
    ·let⟨⟨m,a0,a9,b0,b9,ix⟩,e,k1,k3⟩:=H;let m2:=m.takeA (na-t) λx hx y hy=>by
      let⟨i,i0,i1,i3⟩:=FF k1 a9 hx;let⟨j,j0,j1,j2⟩:=ME hy;have:=sb j (nb-1) (by lia) (by lia)
      have:=k3 i i0 i1;unfold V6;rw[i3,j2];lia
     rw[D5 k1 a9,Kl k1 a9,<-wG] at m2;exact Wh (λc4=>kB (.done hs (Nh m2 (.inl c4)))) λc4=>key _ _ ⟨⟨m2,by lia,by lia,by lia,by lia,by lia⟩,k2⟩
end
structure TB(a₀:jL)(p₀:ko)(st:kD):Prop where
 perm:(kC st).Perm a₀
 kind:kindOf st=Ul
 failed:failedOf st=none
 pend:kE st=p₀
def XQ(xs:jL)(lo n:Nat):Prop:=∀ i j,i<=j->j<n->Kk xs (lo+i)<=Kk xs (lo+j)
def Ve(xs:jL)(lo n:Nat):Prop:=∀ i j,i<=j->j<n->Kk xs (lo+j)<=Kk xs (lo+i)
def Fr(xs ys:jL)(lo:Nat):Prop:=∀ i,i<lo->Kk ys i=Kk xs i
section
variable{a₀:jL}{p₀:ko}{st:kD}
def TB.size(h:TB a₀ p₀ st):(kC st).size=a₀.size:=h.perm.size_eq
def TB.setArr(h:TB a₀ p₀ st){xs:jL}(hp:xs.Perm (kC st)):TB a₀ p₀ (kJ st xs):=⟨hp.trans h.perm,h.kind,h.failed,h.pend⟩
def TB.ints(h:TB a₀ p₀ st)(h0:We a₀):We (kC st):=λp hp=>h0 p ((qU.mp h.perm).mem_iff.mp hp)
end
section
variable[KoOk prog w A s]{a₀:jL}{p₀:ko}
def Jl{α:Type}{c:Prop}{_:Decidable c}{x J:StateT kD Sem α}{Q:α->kD->Prop}{st:kD}(P:kD->Prop)(k:∀ st,P st->wpS (aB prog w) A E s J Q st)(hn:¬c->P st)(hx:c->(∀ st,P st->wpS (aB prog w) A E s J Q st)->wpS (aB prog w) A E s x Q st):wpS (aB prog w) A E s (if c then x else J) Q st:=by
 refine VU (λh=>?_) λh=>?_
 ·exact hx h k
 ·exact k st (hn h)
def Jx{st:kD}{i j:Nat}{Q:kz->kD->Prop}(hB:TB a₀ p₀ st)(h0:We a₀)(hi:i<a₀.size)(hj:j<a₀.size)(h:Q (some (decide (Kk (kC st) i<Kk (kC st) j))) st):wpS (aB prog w) A E s (ltAt' i j) Q st:=by
 let⟨p,ep,ip,kp⟩:=LJ (hB.ints h0) (show i<(kC st).size by rw[hB.size];exact hi)
 let⟨q,eq,iq,kq⟩:=LJ (hB.ints h0) (show j<(kC st).size by rw[hB.size];exact hj)
 rw[kp,kq] at h;exact kA (wpS_get (kA (KF ep (kA (KF eq (MG hB.kind ip iq h))))))
def Il{α:Type}{st:kD}{i j:Nat}{f:kz->StateT kD Sem α}{Q:α->kD->Prop}(hB:TB a₀ p₀ st)(h0:We a₀)(hi:i<a₀.size)(hj:j<a₀.size)(h:wpS (aB prog w) A E s (f (some (decide (Kk (kC st) i<Kk (kC st) j)))) Q st):wpS (aB prog w) A E s (ltAt' i j >>= f) Q st:=kA (Jx hB h0 hi hj h)
def Ha{β:Type}{st:kD}{i j:Nat}{x y:β}{f:kz->StateT kD Sem β}{Q:β->kD->Prop}(hB:TB a₀ p₀ st)(h0:We a₀)(hi:i<a₀.size)(hj:j<a₀.size)(q:Q (if Kk (kC st) i<Kk (kC st) j then x else y) st)(hf:∀ b,f (some b)=if b=true then pure x else pure y:=by exact λ_=>rfl):wpS (aB prog w) A E s (ltAt' i j >>= f) Q st:=by
 refine Il hB h0 hi hj ?_;rw[hf];refine O2 (λc=>?_) λc=>?_
 ·rw[aK c] at q;exact kB q
 ·rw[aJ c] at q;exact kB q
structure Ke(a₀:jL)(p₀:ko)(st st2:kD):Prop where
 tb:TB a₀ p₀ st2
 eq:∀ k,Kk (kC st2) k=Kk (kC st) k
inductive JQ{γ:Type}(a₀:jL)(p₀:ko)(xs:jL)(lo n:Nat):Option γ×Unit->kD->Prop
 |mk{z:kD}:TB a₀ p₀ z->Fr xs (kC z) lo->XQ (kC z) lo n->JQ a₀ p₀ xs lo n (none,()) z
def BW{st:kD}{lo n ok:Nat}{Q:Bool->kD->Prop}(h0:We a₀)(hn:lo+n<=a₀.size)(hok:ok<=n)(hB:TB a₀ p₀ st)(hs:XQ (kC st) lo ok)(h:∀ st',TB a₀ p₀ st'->Fr (kC st) (kC st') lo->XQ (kC st') lo n->Q true st'):wpS (aB prog w) A E s (binarySort' lo n ok) Q st:=by
 refine Pa (λk=>JQ a₀ p₀ (kC st) lo (min k n)) (JQ a₀ p₀ (kC st) lo n) ⟨hB,λ_ _=>rfl,λi j c1 c2=>?_⟩ ?_ ?_ ?_
 rotate_left
 ·rintro k _ z ka kn ⟨tb,fr,sg⟩;let ek:min k n=k:=by lia
  rw[ek] at sg;let hz:lo+k<(kC z).size:=by rw[tb.size];lia
  refine kA (Kp (B:=λi=>!decide (Kk (kC z) (lo+k)<Kk (kC z) (lo+i))) (zH _) (zX k) (λi c=>absurd c (wM _)) (λi c1 c2=>by lia) (λi j c1 c2 c3=>?_) (λx l r Q' b0 b1 b2=>?_) λt t1 t2 t3=>?_)
  ·have:=sg i j c1 c2;simp at c3⊢;lia
  ·dsimp only;refine VU (λc=>?_) λc=>?_
   ·exact kB (b1 c)
   refine kA (Jx tb h0 (by lia) (by lia) ?_)
   let b3:=b2 ((l+r) / 2) (by lia) (by lia)
   cases hc:decide (Kk (kC z) (lo+k)<Kk (kC z) (lo+(l+r) / 2)) <;> rw[hc] at b3
   ·exact kB b3
   ·exact kB b3
  ·refine kA (show wpS (aB prog w) A E s (moveDown' (lo+k) (lo+t)) _ z from ?_);rw[moveDown'_eq];refine wpS_modify (kB ⟨tb.setArr (bubble_perm _ _ _),λi c=>?_,?_⟩)
   ·show Kk (bubble (kC z) (lo+k) (lo+k-(lo+t))) i=_;rw[FN hz (by lia),aJ (by lia),aJ (by lia)]
    exact fr i c
   rw[show min (k+1) n=k.succ by lia]
   let kb:∀ i,i<=k->Kk (bubble (kC z) (lo+k) (lo+k-(lo+t))) (lo+i)=if i<t then Kk (kC z) (lo+i) else if i=t then Kk (kC z) (lo+k) else Kk (kC z) (lo+(i-1)):=λi c=>by
    rw[FN hz (by lia)]
    by_cases z1:i<t
    ·rw[aK z1,aJ (by lia),aJ (by lia)]
    rw[aJ z1];by_cases z2:i=t
    ·rw[aK z2,aK (by lia)]
    ·rw[aJ z2,aJ (by lia),aK (by lia),show lo+i-1=lo+(i-1) by lia]
   let u2:∀ i,i<t->Kk (kC z) (lo+i)<=Kk (kC z) (lo+k):=λi c=>by
    have:=t2 i c;simp at this;lia
   let u3:∀ i,t<=i->i<k->Kk (kC z) (lo+k)<=Kk (kC z) (lo+i):=λi c1 c2=>by
    have:=t3 i c1 c2;simp at this;lia
   intro i j c1 c2;show Kk (bubble (kC z) (lo+k) (lo+k-(lo+t))) (lo+i)<=Kk (bubble (kC z) (lo+k) (lo+k-(lo+t))) (lo+j);rw[kb i (by lia),kb j (by lia)]
   by_cases z1:i<t
   ·rw[aK z1];by_cases z2:j<t
    ·rw[aK z2];exact sg i j c1 (by lia)
    rw[aJ z2];by_cases z3:j=t
    ·rw[aK z3];exact u2 i z1
    ·rw[aJ z3];exact sg i (j-1) (by lia) (by lia)
   rw[aJ z1,aJ (by lia:¬j<t)]
   by_cases z2:i=t
   ·rw[aK z2];by_cases z3:j=t
    ·rw[aK z3];exact xD _
    ·rw[aJ z3];exact u3 (j-1) (by lia) (by lia)
   ·rw[aJ z2,aJ (by lia)]
    exact sg (i-1) (j-1) (by lia) (by lia)
 ·rintro _ z ⟨tb,fr,sg⟩;rw[show min (max (max ok 1) n) n=n by lia] at sg
  exact⟨tb,fr,sg⟩
 ·rintro _ z ⟨tb,fr,sg⟩;exact kB (h z tb fr sg)
 ·by_cases z:ok=0
  ·rw[show i=j by lia]
   exact xD _
  ·exact hs i j c1 (by lia)
def XQ.snoc{xs:jL}{lo x:Nat}(h:XQ xs lo x)(c:1<=x->Kk xs (lo+x-1)<=Kk xs (lo+x)):XQ xs lo (x+1):=λi j c1 c2=>by
 by_cases z1:j<x
 ·exact h i j c1 z1
 by_cases z2:i=j
 ·rw[z2];exact xD _
 ·have:=h i (x-1) (by lia) (by lia)
  rw[show j=x by lia]
  rw[show lo+(x-1)=lo+x-1 by lia] at this
  exact vD this (c (by lia))
def Ve.snoc{xs:jL}{lo x:Nat}(h:Ve xs lo x)(c:1<=x->Kk xs (lo+x)<=Kk xs (lo+x-1)):Ve xs lo (x+1):=λi j c1 c2=>by
 by_cases z1:j<x
 ·exact h i j c1 z1
 by_cases z2:i=j
 ·rw[z2];exact xD _
 ·have:=h i (x-1) (by lia) (by lia)
  rw[show j=x by lia]
  rw[show lo+(x-1)=lo+x-1 by lia] at this
  exact vD (c (by lia)) this
def G5{f:Nat->Option (jQ)×Nat->StateT kD Sem (ForInStep (Option (jQ)×Nat))}{lo a nrem:Nat}{st:kD}{Q:Option (jQ)×Nat->kD->Prop}(h1:1<=a)(h2:a<=nrem)(hs:XQ (kC st) lo a)(hf:∀ x n (Q':ForInStep (Option (jQ)×Nat)->kD->Prop),1<=n->n<nrem->Q' (if Kk (kC st) (lo+n)<Kk (kC st) (lo+n-1) then .done (none,n) else .yield (none,n+1)) st->wpS (aB prog w) A E s (f x (none,n)) Q' st)(h:∀ n,a<=n->n<=nrem->XQ (kC st) lo n->(n=nrem\/Kk (kC st) (lo+n)<Kk (kC st) (lo+n-1))->Q (none,n) st):wpS (aB prog w) A E s (forIn [a:nrem] (none,a) f) Q st:=by
 refine kF (I:=λx c st'=>st'=st/\c=(none,x)/\XQ (kC st) lo x) ?_ ?_ ⟨Z,Z,hs⟩
 ·rintro x c st' h3 h4 ⟨rfl,rfl,h5⟩;refine hf x x _ (by lia) h4 ?_
  by_cases c:Kk (kC st') (lo+x)<Kk (kC st') (lo+x-1)
  ·rw[aK c];exact h x h3 (by lia) h5 (.inr c)
  ·rw[aJ c];exact⟨Z,Z,h5.snoc λ_=>Int.not_lt.mp c⟩
 ·rintro c st' ⟨rfl,rfl,h5⟩;rw[show max a nrem=nrem by lia] at h5⊢
  exact h nrem h2 (zX _) h5 (.inl rfl)
structure Md(a₀:jL)(p₀:ko)(xs:jL)(lo x neq:Nat)(st':kD):Prop where
 tb:TB a₀ p₀ st'
 fr:Fr xs (kC st') lo
 sg:Ve (kC st') lo x
 le:neq+1<=x
 eq:∀ i,x-(neq+1)<=i->i<x->Kk (kC st') (lo+i)=Kk (kC st') (lo+x-1)
inductive Fw{γ:Type}(a₀:jL)(p₀:ko)(xs:jL)(lo x:Nat):Option γ×Nat×Nat->kD->Prop
 |mk{neq:Nat}{st':kD}:Md a₀ p₀ xs lo x neq st'->Fw a₀ p₀ xs lo x (none,x,neq) st'
inductive Fi{γ:Type}(a₀:jL)(p₀:ko)(xs:jL)(lo n nrem:Nat):Option γ×Nat×Nat->kD->Prop
 |mk{x neq:Nat}{st':kD}:n+1<=x->x<=nrem->Md a₀ p₀ xs lo x neq st'->Fi a₀ p₀ xs lo n nrem (none,x,neq) st'
def Md.mq{a₀:jL}{p₀:ko}{xs:jL}{lo x neq:Nat}{st':kD}(h:Md a₀ p₀ xs lo x neq st')(hx:lo+x<=a₀.size)(k:Nat):Kk (mirror (kC st') (lo+x-(neq+1)) (lo+x) ((lo+x-(lo+x-(neq+1))) / 2)) k=Kk (kC st') k:=FM (by rw[h.tb.size];exact hx) (λk c1 c2=>by
 have:=h.le;have:=h.eq (k-lo) (by lia) (by lia)
 rwa [show lo+(k-lo)=k by lia] at this) k
def Bo{st:kD}{lo nrem:Nat}{Q:jQ->kD->Prop}(h0:We a₀)(hn:lo+nrem<=a₀.size)(h1:1<=nrem)(hB:TB a₀ p₀ st)(h:∀ m st',TB a₀ p₀ st'->Fr (kC st) (kC st') lo->1<=m->m<=nrem->XQ (kC st') lo m->Q (some m) st'):wpS (aB prog w) A E s (countRun' lo nrem) Q st:=by
 refine kA (G5 (lo:=lo) (zX 1) h1 (λi j _ _=>by rw[show i=j by lia];exact xD _) (λx n Q' n1 n2 q=>Ha hB h0 (by lia) (by lia) q) λn n1 n2 n3 n4=>?_)
 dsimp only;refine Wh (λnn=>?_) λnn=>?_
 ·exact kB (h n st hB (λ_ _=>rfl) n1 n2 n3)
 let hlt:Kk (kC st) (lo+n)<Kk (kC st) (lo+n-1):=n4.resolve_left nn;refine Jl (λst'=>TB a₀ p₀ st'/\Fr (kC st) (kC st') lo/\Ve (kC st') lo (n+1)) (λst1 H=>?_) (λc=>?_) (λc key=>?_)
 ·let⟨hB1,hf1,hd1⟩:=H;refine Ow ?_;refine Pa (Fw a₀ p₀ (kC st) lo) (Fi a₀ p₀ (kC st) lo n nrem) ⟨hB1,hf1,hd1,(by lia:0+1<=n+1),λi c1 c2=>by congr 1;lia⟩ ?step ?fin ?post
  case fin=>
   rintro _ st' ⟨b⟩;rw[show max (n+1) nrem=nrem by lia] at b⊢
   exact⟨by lia,by lia,b⟩
  case step=>
   rintro x _ st' hx1 hx2 (@⟨neq,_,b⟩);dsimp only;refine Il b.tb h0 (by lia) (by lia) (O2 (λhless=>?_) λhless=>Il b.tb h0 (by lia) (by lia) (O2 (λhl=>kB ⟨by lia,by lia,b⟩) λhl=>kB ⟨b.tb,b.fr,?_,?_,λi c1 c2=>?_⟩))
   ·refine Jl (λst2=>Ke a₀ p₀ st' st2) (λst2 H=>?_) (λc=>⟨b.tb,λ_=>rfl⟩) (λc key=>?_)
    ·refine kB ⟨H.1,λi c=>(H.2 i).trans (b.fr i c),Ve.snoc (λi j c1 c2=>?_) λ_=>?_,(by lia:0+1<=x+1),λi c1 c2=>by congr 1;lia⟩
     all_goals rw[H.2,H.2]
     ·exact b.sg i j c1 c2
     ·exact vX hless
    ·exact kA (wpS_reverse (key _ ⟨b.tb.setArr (mirror_perm _ _ _ _),b.mq (by lia)⟩))
   ·exact b.sg.snoc λ_=>Int.not_lt.mp hl
   ·exact uH b.le
   ·rw[show lo+(x+1)-1=lo+x by lia]
    by_cases z:i=x
    ·rw[z]
    ·let he:Kk (kC st') (lo+x)=Kk (kC st') (lo+x-1):=by lia
     rw[he];exact b.eq i (by lia) (by lia)
  case post=>
   rintro _ st' (@⟨x,neq,_,x1,x2,b⟩);dsimp only;refine Jl (λst2=>Ke a₀ p₀ st' st2) (λst2 H=>?_) (λc=>⟨b.tb,λ_=>rfl⟩) (λc key=>kA (wpS_reverse (key _ ⟨b.tb.setArr (mirror_perm _ _ _ _),b.mq (by lia)⟩)))
   refine kA (wpS_reverse (?_));let hz2:lo+x<=(kC st2).size:=by rw[H.1.size];lia
   generalize hS:kJ st2 (mirror (kC st2) lo (lo+x) ((lo+x-lo) / 2))=st3;let d1:TB a₀ p₀ st3:=by
    rw[<-hS];exact H.1.setArr (mirror_perm _ _ _ _)
   let d2:∀ k,Kk (kC st3) k=if lo<=k/\k<lo+x then Kk (kC st') (lo+(lo+x)-1-k) else Kk (kC st') k:=λk=>by
    rw[<-hS];show Kk (mirror (kC st2) lo (lo+x) ((lo+x-lo) / 2)) k=_;rw[Fk hz2,H.2,H.2]
   refine kA (G5 (lo:=lo) (by lia) x2 (λi j c3 c4=>?_) (λy m Q' n1 n2 q=>Ha d1 h0 (by lia) (by lia) q) λm m1 m2 m3 m4=>kB (h m st3 d1 (λi c=>?_) (by lia) m2 m3))
   ·rw[d2,d2,aK (by lia),aK (by lia)]
    have:=b.sg (x-1-j) (x-1-i) (by lia) (by lia)
    rwa [show lo+(x-1-j)=lo+(lo+x)-1-(lo+j) by lia,show lo+(x-1-i)=lo+(lo+x)-1-(lo+i) by lia] at this
   ·rw[d2,aJ (by lia)]
    exact b.fr i c
 ·let e:n=1:=by lia
  subst e;refine⟨hB,λ_ _=>rfl,Ve.snoc (λi j c1 c2=>?_) λ_=>vX hlt⟩;rw[show i=j by lia]
  exact xD _
 ·refine kA (Jx hB h0 (by lia) (by lia) ?_)
  dsimp only;refine O2 (λhr=>?_) λhr=>?_
  ·exact kB (h n st hB (λ_ _=>rfl) n1 n2 n3)
  let hsz:lo+n<=(kC st).size:=by rw[hB.size];lia
  let hall:∀ k,lo<=k->k<lo+n->Kk (kC st) k=Kk (kC st) (lo+n-1):=λk c1 c2=>by
   let z1:=n3 0 (k-lo) (by lia) (by lia)
   let z2:=n3 (k-lo) (n-1) (by lia) (by lia)
   rw[show lo+(k-lo)=k by lia] at z1 z2
   rw[show lo+(n-1)=lo+n-1 by lia] at z2
   rw[Nat.add_zero] at z1;lia
  let mq:∀ k,Kk (mirror (kC st) lo (lo+n) ((lo+n-lo) / 2)) k=Kk (kC st) k:=FM hsz hall;refine kA (wpS_reverse (key _ ⟨hB.setArr (mirror_perm _ _ _ _),λi _=>mq i,λi j c1 c2=>?_⟩));show Kk (mirror (kC st) lo (lo+n) ((lo+n-lo) / 2)) _<=Kk (mirror (kC st) lo (lo+n) ((lo+n-lo) / 2)) _;rw[mq,mq];refine Ve.snoc (x:=n) (λi j c1 c2=>?_) (λ_=>vX hlt) i j c1 c2;rw[hall (lo+j) (by lia) (by lia),hall (lo+i) (by lia) (by lia)]
  exact xD _
end
def FL{o:Nat}:∀(l:jS)(d:Nat)(xs:jL)(P M R:jS),xs.toList=P++(M++R)->P.length=o+d->M.length=l.length->((l.zipIdx d).foldl (λa x=>a.setIfInBounds (o+x.2) x.1) xs).toList=P++(l++R)
 | [],d,xs,P,M,R,e,h1,h2=>by
  rw[List.zipIdx_nil,List.foldl_nil,e,vI h2]
 | p::l,d,xs,P,M,R,e,h1,h2=>by
  obtain⟨m,M',rfl⟩:∃ m M',M=m::M':=by
   cases M with
   | nil=>cases h2
   | cons m M'=>exact⟨m,M',Z⟩
  rw[List.zipIdx_cons,sM];have:=FL (o:=o) l (d+1) (xs.setIfInBounds (o+d) p) (P++[p]) M' R (by
   rw[qI,e,<-h1];simp) (by rw[zT];simp;lia) (by simpa using h2)
  rw[this];simp
def wr(xs:jL)(o:Nat)(l:jS):jL:=l.zipIdx.foldl (λa x=>a.setIfInBounds (o+x.2) x.1) xs
def ZQU{xs r:jL}{o n:Nat}(hn:o+n<=xs.size)(hr:r.toList.Perm ((xs.toList.drop o).take n)):(wr xs o r.toList).Perm xs/\(∀ i,i<o\/o+n<=i->Kk (wr xs o r.toList) i=Kk xs i)/\∀ i,i<n->Kk (wr xs o r.toList) (o+i)=Kk r i:=by
 let lr:r.toList.length=n:=by
  rw[hr.length_eq,yK,xR,yM];lia
 let ex:xs.toList=xs.toList.take o++((xs.toList.drop o).take n++xs.toList.drop (o+n)):=by
  rw[<-wQ,wF,wF]
 let lo:(xs.toList.take o).length=o:=by
  rw[yK,yM];lia
 let ey:(wr xs o r.toList).toList=xs.toList.take o++(r.toList++xs.toList.drop (o+n)):=FL r.toList 0 xs _ _ _ ex lo (by rw[<-hr.length_eq])
 refine⟨qU.mpr ?_,λi hi=>HP ?_,λi hi=>HP ?_⟩
 ·rw[ey]
  conv=>rhs;rw[ex]
  exact(wR.refl _).append (hr.append (wR.refl _))
 ·rw[<-yO,<-yO,ey];rcases hi with z | z
  ·rw[xA (by lia),uO z]
  ·rw[wZ (by lia),wZ (by lia),uM,lo,lr]
   congr 1
   lia
 ·rw[<-yO,<-yO,ey,wZ (by lia),xA (by lia),lo]
  congr 1
  lia
def Oe{xs:jL}{o n i:Nat}(hi:i<n):Kk (xs.extract o (o+n)) i=Kk xs (o+i):=HP (by
 rw[<-yO,Oq,uO hi,uM,yO])
def N8{xs:jL}(h:Qc xs xs.size):xs.toList.Pairwise Xz:=qX.mpr λi j h1 h2 hij=>by
 have:=h i j (by lia) (by simpa using h2)
 unfold Xz;rw[Oj (i:=i) (p:=xs.toList[i]) (by rw[<-yO];exact zV h1),Oj (i:=j) (p:=xs.toList[j]) (by rw[<-yO];exact zV h2)] at this
 exact this
def ZQv{xs:jL}(h:xs.toList.Pairwise Xz):Qc xs xs.size:=λi j hij hj=>by
 let hj':j<xs.toList.length:=by simpa using hj
 let hi':i<xs.toList.length:=by lia
 rw[Oj (i:=i) (p:=xs.toList[i]) (by rw[<-yO];exact zV hi'),Oj (i:=j) (p:=xs.toList[j]) (by rw[<-yO];exact zV hj')]
 by_cases c:i=j
 ·subst c;exact xD _
 ·exact qX.mp h i j hi' hj' (by lia)
def AS(xs:jL)(lo hi:Nat):Prop:=∀ i j,lo<=i->i<=j->j<hi->Kk xs i<=Kk xs j
def XQ.abs{xs:jL}{lo n:Nat}(h:XQ xs lo n):AS xs lo (lo+n):=λi j c0 c1 c2=>by
 let⟨i',rfl⟩:=wD c0;let⟨j',rfl⟩:=wD (zK c0 c1);exact h i' j' (rC c1) (rA c2)
def AS.seg{xs:jL}{lo n:Nat}(h:AS xs lo (lo+n)):XQ xs lo n:=λi j c1 c2=>h _ _ (xM _ _) (rX c1 _) (Nat.add_lt_add_left c2 _)
def AS.two{xs:jL}{lo m hi:Nat}(h:AS xs lo m)(g:AS xs m hi)(f:∀ i j,lo<=i->i<m->m<=j->j<hi->Kk xs i<=Kk xs j):AS xs lo hi:=λi j c0 c1 c2=>by
 by_cases z1:j<m
 ·exact h i j c0 c1 z1
 by_cases z2:i<m
 ·exact f i j c0 z2 (wU z1) c2
 ·exact g i j (wU z2) c1 c2
def AS.ext{xs:jL}{lo hi o n:Nat}(h:AS xs lo hi)(h1:lo<=o)(h2:o+n<=hi)(z:(xs.extract o (o+n)).size=n):Qc (xs.extract o (o+n)) (xs.extract o (o+n)).size:=λi j c1 c2=>by
 rw[z] at c2;rw[Oe (uN c1 c2),Oe c2];exact h _ _ (zK h1 (xM _ _)) (rX c1 _) (yQ (Nat.add_lt_add_left c2 _) h2)
def AS.put{xs ys:jL}{sa o m e hi:Nat}(s1:AS xs sa m)(s2:AS xs m hi)(hs:sa<=o)(hm:m<=e)(hom:o<=m)(he:e<=hi)(k2:∀ i j,sa<=i->i<o->m<=j->j<hi->Kk xs i<=Kk xs j)(t3:∀ i j,sa<=i->i<m->e<=j->j<hi->Kk xs i<=Kk xs j)(w2:∀ j,j<o\/e<=j->Kk ys j=Kk xs j)(w3:AS ys o e)(w4:∀ j,o<=j->j<e->∃ u,o<=u/\u<e/\Kk ys j=Kk xs u):AS ys sa hi:=by
 refine AS.two (m:=o) (λi j c0 c1 c2=>?_) (AS.two w3 (λi j c0 c1 c2=>?_) λi j c0 c1 c2 c3=>?_) λi j c0 c1 c2 c3=>?_
 ·rw[w2 i (.inl (uN c1 c2)),w2 j (.inl c2)];exact s1 i j c0 c1 (yQ c2 hom)
 ·rw[w2 i (.inr c0),w2 j (.inr (zK c0 c1))];exact s2 i j (zK hm c0) c1 c2
 ·let⟨u,u1,u2,u3⟩:=w4 i c0 c1;rw[u3,w2 j (.inr c2)];by_cases z:u<m
  ·exact t3 u j (zK hs u1) z c2 c3
  ·exact s2 u j (wU z) (yV (yQ u2 c2)) c3
 ·rw[w2 i (.inl c1)];by_cases z:j<e
  ·let⟨u,u1,u2,u3⟩:=w4 j c2 z;rw[u3];by_cases z2:u<m
   ·exact s1 i u c0 (yV (yQ c1 u1)) z2
   ·exact k2 i u c0 c1 (wU z2) (yQ u2 he)
  ·rw[w2 j (.inr (wU z))];exact k2 i j c0 c1 (zK hm (wU z)) c3
section
variable[KoOk prog w A s]{a₀:jL}{p₀:ko}
def Bk{st x:kD}{Q:PUnit->kD->Prop}(h:∀ st',st'=x->Q ⟨⟩ st'):wpS (aB prog w) A E s (set x:StateT kD Sem PUnit) Q st:=by
 unfold wpS;rw[StateT.run_set];exact ad ⟨Z,h _ Z⟩
def Cd{st:kD}{i sa na pw nb pw':Nat}{Q:Bool->kD->Prop}(h0:We a₀)(hB:TB a₀ p₀ st)(e1:p₀[i]? = some (sa,na,pw))(e2:p₀[i+1]? = some (sa+na,nb,pw'))(na1:1<=na)(nb1:1<=nb)(hn:sa+na+nb<=a₀.size)(s1:XQ (kC st) sa na)(s2:XQ (kC st) (sa+na) nb)(h:∀ st',TB a₀ ((p₀.setIfInBounds i (sa,na+nb,pw)).eraseIdxIfInBounds (i+1)) st'->(∀ j,j<sa\/sa+na+nb<=j->Kk (kC st') j=Kk (kC st) j)->XQ (kC st') sa (na+nb)->Q true st'):wpS (aB prog w) A E s (mergeAt' i) Q st:=by
 let⟨kd,xs,pd,gl,fl⟩:=st
 replace s1:XQ xs sa na:=s1
 replace s2:XQ xs (sa+na) nb:=s2
 let hp:xs.Perm a₀:=hB.perm;let ep:pd=p₀:=hB.pend;let ek:kd=Ul:=hB.kind;let ef:fl=none:=hB.failed
 replace h:∀ st',TB a₀ ((p₀.setIfInBounds i (sa,na+nb,pw)).eraseIdxIfInBounds (i+1)) st'->(∀ j,j<sa\/sa+na+nb<=j->Kk (kC st') j=Kk xs j)->XQ (kC st') sa (na+nb)->Q true st':=h
 subst ep;refine JT ?_;dsimp only;rw[e1,e2];dsimp only;refine kA (Bk λst1 hst=>?_);let hB1:TB a₀ ((pd.setIfInBounds i (sa,na+nb,pw)).eraseIdxIfInBounds (i+1)) st1:=by
  rw[hst];exact⟨hp,ek,ef,Z⟩
 let ea:kC st1=xs:=by rw[hst]
 clear hst;let hz:xs.size=a₀.size:=hp.size_eq;let hI:We xs:=hB.ints h0;let S1:=s1.abs;let S2:=s2.abs;refine Uo hI (by lia) λq eq iq kq=>kA (Jd hB1.kind iq hI (by lia) (by lia) (Ie s1) λk k1 k2 k3=>?_)
 dsimp only
 replace k2:∀ i,sa<=i->i<sa+k->Kk xs i<=kv q:=λi h1 h2=>by
  let⟨i,rfl⟩:=wD h1;exact Uc.1.mp (k2 i (rA h2))
 replace k3:kv q<Kk xs (sa+k)\/k=na:=by
  by_cases z:k<na
  ·exact .inl (Uc.2.mp (k3 k (zX _) z))
  ·exact .inr (by lia)
 let q0:∀ j,sa+na<=j->j<sa+na+nb->kv q<=Kk xs j:=λj c0 c=>by
  rw[<-kq];exact S2 _ j (zX _) c0 c
 let K2:∀ i j,sa<=i->i<sa+k->sa+na<=j->j<sa+na+nb->Kk xs i<=Kk xs j:=λi j c0 c1 c2 c3=>vD (k2 i c0 c1) (q0 j c2 c3);let both:(∀ i j,sa<=i->i<sa+na->sa+na<=j->j<sa+na+nb->Kk xs i<=Kk xs j)->Q true st1:=λf=>h st1 hB1 (λj _=>by rw[ea]) (by
  rw[ea];exact AS.seg (by rw[<-vB];exact S1.two S2 f))
 refine Wh (λc1=>kB (both (by rw[show k=na by lia] at K2;exact K2))) λc1=>?_
 obtain⟨n,hn'⟩:∃ n,na=k+n:=wD k1;subst hn';rw[wE] at c1⊢;rw[<-vB] at S1 S2 K2 both hn q0 kq⊢;generalize ho:sa+k=o at *;refine Uo hI (by lia) λp ep ip kp=>kA (Jd hB1.kind ip hI (by lia) (by lia) (Ie (AS.seg S2)) λt t1 t2 t3=>?_)
 dsimp only
 replace t2:t=0\/Kk xs (o+n+(t-1))<kv p:=by
  by_cases z:t=0
  ·exact .inl z
  ·exact .inr (Ua.1.mp (t2 (t-1) (by lia)))
 replace t3:∀ i,o+n+t<=i->i<o+n+nb->kv p<=Kk xs i:=λi h1 h2=>by
  let⟨i,rfl⟩:=wD (zK (xM _ t) h1);exact Ua.2.mp (t3 i (rC h1) (rA h2))
 let T3:∀ i j,sa<=i->i<o+n->o+n+t<=j->j<o+n+nb->Kk xs i<=Kk xs j:=λi j c0 c1 c2 c3=>by
  refine vD (S1 i (o+n-1) c0 (by lia) (by lia)) ?_
  rw[kp];exact t3 j c2 c3
 refine Wh (λc2=>kB (both λi j c0 c1 c3 c4=>T3 i j c0 c1 (by lia) c4)) λc2=>?_
 let zx:(xs.extract o (o+n)).size=n:=by rw[Array.size_extract,wV (by lia)];exact wE ..
 let zy:(xs.extract (o+n) (o+n+t)).size=t:=by rw[Array.size_extract,wV (by lia)];exact wE ..
 let ix:∀{o n:Nat},We (xs.extract o (o+n)):=λp hp=>hI p (by rw[Oq] at hp;exact tG (tX hp))
 let sx:=S1.ext (o:=o) (n:=n) (by lia) (zX _) zx
 let sy:=S2.ext (o:=o+n) (n:=t) (zX _) (by lia) zy
 let f0:∀ i,i<(xs.extract o (o+n)).size->Kk (xs.extract (o+n) (o+n+t)) 0<=Kk (xs.extract o (o+n)) i:=λi c=>by
  rw[zx] at c;rw[Oe (by lia),Oe c,Nat.add_zero,kq]
  refine vD (vX (k3.resolve_right (by lia))) (S1 o (o+i) (by lia) (by lia) (by lia))
 let fl:∀ j,j<(xs.extract (o+n) (o+n+t)).size->Kk (xs.extract (o+n) (o+n+t)) j<=Kk (xs.extract o (o+n)) ((xs.extract o (o+n)).size-1):=λj c=>by
  rw[zy] at c;rw[Oe c,zx,Oe (by lia),<-Nat.add_sub_assoc (by lia),kp]
  exact vD (S2 (o+n+j) (o+n+(t-1)) (by lia) (by lia) (by lia)) (vX (t2.resolve_left c2))
 let fin:∀ r st2,Sm st1 st2->Xn ((xs.extract o (o+n)).toList++(xs.extract (o+n) (o+n+t)).toList) r->Q (failedOf (kJ st2 (wr (kC st2) o r.toList))).isNone (kJ st2 (wr (kC st2) o r.toList)):=λr st2 sm gd=>by
  let⟨g1,g2⟩:=gd;let el:(xs.extract o (o+n)).toList++(xs.extract (o+n) (o+n+t)).toList=(xs.toList.drop o).take (n+t):=by
   rw[Oq,Oq,List.take_add,wQ]
  rw[el] at g1;let⟨w1,w2,w3⟩:=ZQU (xs:=xs) (o:=o) (n:=n+t) (by lia) g1
  let ez:kC st2=xs:=sm.arr.trans ea;rw[ez];let zr:r.size=n+t:=by
   rw[<-yM,g1.length_eq,yK,xR,yM];lia
  let sr:=ZQv g2;rw[zr] at sr;let ef:failedOf (kJ st2 (wr xs o r.toList))=none:=sm.failed.trans hB1.failed;rw[ef];refine h _ ⟨w1.trans hp,sm.kind.trans hB1.kind,ef,sm.pend.trans hB1.pend⟩ (λj hj=>w2 j (by lia)) (AS.seg ?_)
  rw[<-vB,<-vB,ho];rw[<-vB] at w2;refine AS.put (ys:=wr xs o r.toList) S1 S2 (by lia) (xM _ t) (xM _ n) (by lia) K2 T3 w2 (λi j c0 c1 c2=>?_) λj c0 c1=>?_
  ·let⟨i,rfl⟩:=wD c0;let⟨j,rfl⟩:=wD (zK c0 c1);rw[w3 i (by lia),w3 j (by lia)]
   exact sr _ _ (rC c1) (by lia)
  ·let⟨i,rfl⟩:=wD c0;rw[w3 i (by lia)]
   let hm:r.toList[i]'(by rw[yM];lia)∈(xs.toList.drop o).take (n+t):=g1.mem_iff.mp (yD _)
   let⟨u,u1,u2,_,u3⟩:=Py hm;exists u,u1,by lia
   rw[<-u3];exact Oj (by rw[<-yO];exact zV _)
 refine VU (λc3=>?_) λc3=>?_
 ·exact kA (ZGr hB1.kind ix ix (by lia) (by lia) sx sy f0 fl (N8 sx) (N8 sy) λr st2 sm gd=>kA (wpS_modify (kA (wpS_get (kB (fin r st2 sm gd))))))
 ·exact kA (BR hB1.kind ix ix (by lia) (by lia) sx sy f0 fl (N8 sx) (N8 sy) λr st2 sm gd=>kA (wpS_modify (kA (wpS_get (kB (fin r st2 sm gd))))))
end
abbrev Rs:=List (Nat×Nat×Nat)
def Rn(xs:jL):Rs->Nat->Nat->Prop
 | [],a,c=>a=c
 | r::l,a,c=>r.1=a/\1<=r.2.1/\XQ xs r.1 r.2.1/\Rn xs l (r.1+r.2.1) c
def Rn.le{xs:jL}:∀{l:Rs}{a c:Nat},Rn xs l a c->a+l.length<=c
 | [],a,c,h=>by cases h;simp
 | r::l,a,c,⟨h1,h2,_,h4⟩=>by
  have:=h4.le;simp only[zU];lia
def Rn.app{xs:jL}:∀{l m:Rs}{a c:Nat},Rn xs (l++m) a c ↔ ∃ b,Rn xs l a b/\Rn xs m b c
 | [],m,a,c=>⟨λh=>⟨a,Z,h⟩,λ⟨b,h1,h2⟩=>by cases h1;exact h2⟩
 | r::l,m,a,c=>by
  show (r.1=a/\1<=r.2.1/\XQ xs r.1 r.2.1/\Rn xs (l++m) (r.1+r.2.1) c) ↔ _;rw[Rn.app];exact⟨λ⟨h1,h2,h3,b,h4,h5⟩=>⟨b,⟨h1,h2,h3,h4⟩,h5⟩,λ⟨b,⟨h1,h2,h3,h4⟩,h5⟩=>⟨h1,h2,h3,b,h4,h5⟩⟩
def XQ.frame{xs ys:jL}{o n:Nat}(h:XQ xs o n)(e:∀ j,o<=j->j<o+n->Kk ys j=Kk xs j):XQ ys o n:=λi j c1 c2=>by
 rw[e _ (by lia) (by lia),e _ (by lia) (by lia)]
 exact h i j c1 c2
def Rn.frame{xs ys:jL}:∀{l:Rs}{a c:Nat},Rn xs l a c->(∀ j,a<=j->j<c->Kk ys j=Kk xs j)->Rn ys l a c
 | [],a,c,h,_=>h
 | r::l,a,c,⟨h1,h2,h3,h4⟩,e=>by
  have:=h4.le;exact⟨h1,h2,h3.frame λj c1 c2=>e j (by lia) (by lia),h4.frame λj c1 c2=>e j (by lia) c2⟩
def Rn.mod{xs:jL}{f:Nat×Nat×Nat->Nat×Nat×Nat}(hf:∀ r,(f r).1=r.1/\(f r).2.1=r.2.1):∀{l:Rs}{i a c:Nat},Rn xs l a c->Rn xs (l.modify i f) a c
 | [],i,a,c,h=>by simpa using h
 | r::l,0,a,c,⟨h1,h2,h3,h4⟩=>by
  rw[List.modify_zero_cons];exact⟨(hf r).1.trans h1,by rw[(hf r).2];exact h2,by rw[(hf r).1,(hf r).2];exact h3,by rw[(hf r).1,(hf r).2];exact h4⟩
 | r::l,i+1,a,c,⟨h1,h2,h3,h4⟩=>by
  rw[List.modify_succ_cons];exact⟨h1,h2,h3,h4.mod hf⟩
structure RS(a₀:jL)(lo:Nat)(st:kD):Prop where
 tb:TB a₀ (kE st) st
 rn:Rn (kC st) (kE st).toList 0 lo
 le:lo<=a₀.size
section
variable[KoOk prog w A s]{a₀:jL}
def Gb{st:kD}{i lo:Nat}{Q:Bool->kD->Prop}(h0:We a₀)(r:RS a₀ lo st)(hi:i+1<(kE st).size)(h:∀ st',RS a₀ lo st'->(kE st').size+1=(kE st).size->(∀ j,lo<=j->Kk (kC st') j=Kk (kC st) j)->Q true st'):wpS (aB prog w) A E s (mergeAt' i) Q st:=by
 let hl:(kE st).toList.length=(kE st).size:=yM;generalize hp:kE st=p at hi hl h;let ep:p.toList=p.toList.take i++p.toList[i]'(by lia)::p.toList[i+1]'(by lia)::p.toList.drop (i+2):=by
  rw[zEE,zEE,wF]
 let rn:Rn (kC st) p.toList 0 lo:=by rw[<-hp];exact r.rn
 let e1:p[i]? = some (p.toList[i]'(by lia)):=by rw[<-yO];exact zV _
 let e2:p[i+1]? = some (p.toList[i+1]'(by lia)):=by rw[<-yO];exact zV _
 generalize p.toList[i]'(by lia)=r1 at ep e1
 generalize p.toList[i+1]'(by lia)=r2 at ep e2
 let lt:(p.toList.take i).length=i:=by rw[yK];lia
 generalize p.toList.take i=P at ep lt;generalize p.toList.drop (i+2)=R at ep;rw[ep] at rn;let⟨b,n1,n2⟩:=Rn.app.mp rn;let⟨sa,na,pw⟩:=r1;let⟨sb,nb,pw'⟩:=r2;let⟨m1,m2,m3,m4,m5,m6,m7⟩:=n2;dsimp only at m1 m2 m3 m4 m5 m6 m7;subst m4;let l7:=m7.le;let lo':=r.le;let tb:=r.tb;rw[hp] at tb;refine Cd h0 tb e1 e2 m2 m5 (by lia) m3 m6 λst' tb' k' s'=>?_
 let eq:((p.setIfInBounds i (sa,na+nb,pw)).eraseIdxIfInBounds (i+1)).toList=P++(sa,na+nb,pw)::R:=by
  rw[pZ,qI,ep,<-lt];simp[List.eraseIdx_append_of_length_le]
 let e3:(kE st').toList=P++(sa,na+nb,pw)::R:=by rw[tb'.pend];exact eq
 refine h st' ⟨?_,?_,r.le⟩ ?_ λj c=>k' j (.inr (by lia))
 ·rw[tb'.pend];exact tb'
 ·rw[e3];refine Rn.app.mpr ⟨b,n1.frame λj _ c=>k' j (.inl (by lia)),m1,(by show 1<=na+nb;lia),s',?_⟩
  dsimp only;rw[<-vB];exact m7.frame λj c _=>k' j (.inr c)
 ·let z1:=congrArg xC e3;let z2:=congrArg xC ep;simp at z1 z2;lia
def AI{c:Prop}{_:Decidable c}{n:Nat}(h:2<=n):(if c then n-2-1 else n-2)+1<n:=by split <;> lia
def CO{n:Nat}(h:n > 1):n-2+1<n:=by lia
def ZRp{α β:Type}{c:β->Prop}{_:∀ n,Decidable (c n)}{x J:β->StateT kD Sem α}{Q:α->kD->Prop}{st:kD}{P0:β->Prop}(P:β->kD->Prop)(k:∀ n st,P n st->wpS (aB prog w) A E s (J n) Q st)(hn:∀ n,¬c n->P0 n->P n st)(hx:∀ n,c n->(∀ n st,P n st->wpS (aB prog w) A E s (J n) Q st)->P0 n->wpS (aB prog w) A E s (x n) Q st)(n:β)(h0:P0 n):wpS (aB prog w) A E s (if c n then x n else J n) Q st:=by
 refine VU (λh=>?_) λh=>?_
 ·exact hx n h k h0
 ·exact k n st (hn n h h0)
def RS.push{st:kD}{lo n:Nat}(r:RS a₀ lo st)(h:XQ (kC st) lo n)(n1:1<=n)(hn:lo+n<=a₀.size):RS a₀ (lo+n) (setPending st ((kE st).push (lo,n,0))):=by
 refine⟨⟨r.tb.perm,r.tb.kind,r.tb.failed,Z⟩,?_,hn⟩;show Rn (kC st) ((kE st).push (lo,n,0)).toList 0 (lo+n);rw[uT];exact Rn.app.mpr ⟨lo,r.rn,Z,n1,h,Z⟩
def RS.mod{st:kD}{lo i:Nat}{f:Nat×Nat×Nat->Nat×Nat×Nat}(r:RS a₀ lo st)(hf:∀ r,(f r).1=r.1/\(f r).2.1=r.2.1):RS a₀ lo (setPending st ((kE st).modify i f)):=by
 refine⟨⟨r.tb.perm,r.tb.kind,r.tb.failed,Z⟩,?_,r.le⟩;show Rn (kC st) ((kE st).modify i f).toList 0 lo;rw[Array.toList_modify];exact r.rn.mod hf
def Ap{st:kD}{Q:Unit->kD->Prop}(h0:We a₀)(hB:TB a₀ #[] st)(h1:1<=a₀.size)(h:∀ z,(kC z).Perm a₀->failedOf z=none->Qc (kC z) a₀.size->Q () z):wpS (aB prog w) A E s sortRuns' Q st:=by
 let⟨kd,xs,pd,gl,fl⟩:=st;let hz:xs.size=a₀.size:=hB.perm.size_eq;let r0:RS a₀ 0 (SortSt.mk' kd xs pd gl fl):=⟨⟨hB.perm,hB.kind,hB.failed,Z⟩,by
  have:pd=#[]:=hB.pend;subst this;exact Z,zH _⟩
 refine kA (wpS_get ?_);dsimp only;rw[hz];generalize hm:minRun' a₀.size a₀.size 0=mr;refine kA (kH (kF (I:=λx c st'=>∃ lo,c=(none,lo)/\RS a₀ lo st'/\x<=lo) (Q:=λc st'=>∃ lo,c=(none,lo)/\RS a₀ a₀.size st') ?step ?fin ⟨0,rfl,r0,zX _⟩) ?post)
 case fin=>
  rintro c st' ⟨lo,rfl,r,x⟩;have:=r.le;let e:lo=a₀.size:=by lia
  subst e;exact⟨_,Z,r⟩
 case post=>
  rintro c st' ⟨lo,rfl,r⟩;dsimp only;refine kA (kH (kF (I:=λx c st'=>c=(none,())/\RS a₀ a₀.size st'/\((kE st').size<=1\/(kE st').size+x<=a₀.size)) (Q:=λc st'=>c=(none,())/\RS a₀ a₀.size st'/\(kE st').size<=1) ?_ ?_ ⟨rfl,r,.inr ?_⟩) ?_)
  ·rintro x c st2 _ hx ⟨rfl,r2,z⟩;refine kA (wpS_get ?_);refine VU (λc=>?_) λc=>?_
   ·exact kB ⟨Z,r2,c⟩
   refine kA (Gb h0 r2 (AI (Nat.not_le.mp c)) λst3 r3 e3 _=>?_);rw[aJ (by simp)]
   exact kB ⟨Z,r3,.inr (by lia)⟩
  ·rintro c st2 ⟨rfl,r2,z⟩;exists Z,r2;lia
  ·have:=r.rn.le;rw[yM] at this;lia
  ·rintro c st2 ⟨rfl,r2,z⟩;dsimp only;refine kB (h st2 r2.tb.perm r2.tb.failed ?_);let rn:=r2.rn;rw[<-yM] at z;generalize (kE st2).toList=l at rn z
   match l,rn,z with
   | [],rn,_=>exact absurd rn (by show ¬0=a₀.size;lia)
   | [q],⟨q1,q2,q3,q4⟩,_=>
    let q4:q.1+q.2.1=a₀.size:=q4;intro i j c1 c2;have:=q3 i j c1 (by lia)
    rw[q1,vO,vO] at this;exact this
 case step=>
  rintro x c st' _ hx ⟨lo,rfl,r,xl⟩;dsimp only;refine VU (λc1=>?_) λc1=>?_
  ·have:=r.le;let e:lo=a₀.size:=by lia
   subst e;exact kB ⟨_,Z,r⟩
  refine kA (Bo h0 (by lia) (by lia) r.tb λm st2 tb2 fr2 m1 m2 sg2=>?_)
  dsimp only;let r2:RS a₀ lo st2:=⟨by rw[tb2.pend];exact tb2,by rw[tb2.pend];exact r.rn.frame λj _ c=>fr2 j c,r.le⟩
  let H:1<=m/\m<=a₀.size-lo/\XQ (kC st2) lo m:=⟨m1,m2,sg2⟩;clear m1 m2 sg2
  revert H
  revert m
  refine ZRp (λn st=>RS a₀ lo st/\XQ (kC st) lo n/\1<=n/\lo+n<=a₀.size) (λn st3 H=>?_) (λm _ H=>⟨r2,H.2.2,H.1,by lia⟩) (λm cm key H=>?_)
  ·let⟨r3,s3,n1,hn⟩:=H;refine kA (wpS_get ?_);split
   ·rename_i s1 t1 pw _
    refine kA (kH (kF (I:=λ_ c st=>c=(none,())/\RS a₀ lo st/\XQ (kC st) lo n) (Q:=λc st=>c=(none,())/\RS a₀ lo st/\XQ (kC st) lo n) ?_ (λ_ _ h=>h) ⟨rfl,r3,s3⟩) ?_)
    ·rintro y c st4 _ _ ⟨rfl,r4,s4⟩;refine kA (wpS_get ?_);by_cases c:(kE st4).size > 1
     ·rw[aK c];split
      ·split
       ·exact kB ⟨Z,r4,s4⟩
       ·refine kA (Gb h0 r4 (CO c) λst5 r5 _ k5=>?_);rw[aJ (by simp)]
        exact kB ⟨Z,r5,s4.frame λj c _=>k5 j c⟩
      ·exact kB ⟨Z,r4,s4⟩
     ·rw[aJ c];exact kB ⟨Z,r4,s4⟩
    ·rintro c st4 ⟨rfl,r4,s4⟩;dsimp only;exact kA (wpS_modify (kA (wpS_modify (kB ⟨_,rfl,(r4.mod (i:=(kE st4).size-1) (f:=λx=>(x.1,x.2.1,power' a₀.size (2 * s1+t1) (2 * s1+t1+t1+n) a₀.size)) λ_=>⟨Z,Z⟩).push s4 n1 hn,by lia⟩))))
   ·exact kA (wpS_modify (kB ⟨_,rfl,r3.push s3 n1 hn,by lia⟩))
  ·let⟨m1,m2,m3⟩:=H;refine Ow ?_;refine kA (BW h0 (by lia) (by lia) r2.tb m3 λst4 tb4 fr4 s4=>?_)
   rw[aJ (by simp)]
   exact key _ st4 ⟨⟨by rw[tb4.pend];exact tb4,by rw[tb4.pend];exact r2.rn.frame λj _ c=>fr4 j c,r2.le⟩,s4,by lia,by lia⟩
end
end
end L2
namespace _T
open PySem PySem.Spec L2 PyProof.Rows
structure Kg(g:KT->KT):Prop where
 plt:∀ t u,(g t).plt (g u)=t.lt u
 cmp:∀ t u,(g t).cmp (g u)=true
 shape:∃ n:Nat,∀ t,∃(k:Int)(r:jM),g t=.tup (.int k::r)/\r.length=n
def Uv(g:KT->KT)(h:aD)(t:KT)(v:ai):Prop:=ZQ h (g t) v
section
variable{g:KT->KT}
def Et:∀{l m:jM}{vs us:jg}{i:Nat}{Q:Bool->am->Prop},l.length=m.length->kL s.heap l vs->kL s.heap m us->cmpL l m=true->A.units+kN l<cLine->Q (pltL l m) s->PySem.W.KatLex prog w A true false Q (vs.zip us) (i+1) s
 | [],m,vs,us,i,Q,hl,x,y,_,_,h=>by
  rw[kL] at x;subst x
  cases m with
  | nil=>rw[pltL] at h;exact PySem.W.kat_nil h
  | cons _ _=>simp at hl
 | a::l,m,vs,us,i,Q,hl,x,y,hc,hu,h=>by
  cases m with
  | nil=>simp at hl
  | cons b m=>
   rw[kL] at x y;let⟨v,r,rfl,x1,x2⟩:=x;let⟨v',r',rfl,y1,y2⟩:=y;rw[kN] at hu;rw[pltL] at h;rw[cmpL] at hc;refine PySem.W.kat_cons (Nm a.depth a b A v v' (zX _) x1 y1 (by lia) prog w _ _ ?_)
   refine PySem.W.kat_go (λe=>PySem.W.kat_yes ?_) (λe=>PySem.W.kat_no ?_)
   ·rw[e,aK rfl] at h hc;exact Et (by simpa using hl) x2 y2 hc (by lia) h
   ·rw[e,aJ zS] at h hc;exact PySem.W.kat_one v v' (FI a.depth a b A v v' (zX _) x1 y1 hc (by lia) prog w _ _ h)
def ZRg(hg:Kg g){t u:KT}{x y:ai}{Q:Bool->am->Prop}(hx:Uv g s.heap t x)(hy:Uv g s.heap u y)(hu:A.units+(g t).depth<cLine)(h:Q (t.lt u) s):aC (aB prog w) A (keyLt' (tuples' true) x y) Q E s:=by
 let⟨n,sh⟩:=hg.shape;let⟨k,r,ea,la⟩:=sh t;let⟨m,q,ec,lc⟩:=sh u;let hp:=hg.plt t u;let hc:=hg.cmp t u;unfold Uv at hx hy;rw[ea] at hp hc hx hu;rw[ec] at hp hc hy;rw[ZQ] at hx hy;let⟨a,jk,rfl,⟨⟨cl,dd,da',sl⟩,ho,hcl,n1,hd⟩,kx⟩:=hx;let⟨c,its2,rfl,⟨⟨cl2,dd2,da2,sl2⟩,ho2,hcl2,n2,hd2⟩,ky⟩:=hy;let l1:=kx.length;let l2:=ky.length;rw[kL] at kx ky;let⟨v1,r1,rfl,k1,kx⟩:=kx;let⟨v2,r2,rfl,k2,ky⟩:=ky;rw[ZQ] at k1 k2;let⟨tk,rfl⟩:=k1;let⟨tm,rfl⟩:=k2;rw[KT.plt,pltL] at hp;rw[KT.cmp,cmpL] at hc;rw[KT.depth,kN] at hu;refine PySem.W.kat_lt ho hd ho2 hd2 ?_;let hfin:decide ((Value.int k tk::r1).toArray.size<(Value.int m tm::r2).toArray.size)=false:=by
  simp only[zU] at l1 l2;simp only[zM,zU,decide_eq_false_iff_not];lia
 rw[hfin];show PySem.W.KatLex prog w A true false Q ((.int k tk,.int m tm)::r1.zip r2) 0 s;refine PySem.W.kat_cons (SeqAt.EqAt.int_int k tk m tm prog w _ _ ?_);refine PySem.W.kat_go (λe=>PySem.W.kat_yes ?_) (λe=>PySem.W.kat_no ?_)
 ·let e1:(KT.int k).eqb (KT.int m)=true:=by rw[KT.eqb];exact e
  rw[e1,aK rfl] at hp hc;refine Et (by rw[la,lc]) kx ky hc (by lia) ?_
  rw[hp];exact h
 ·let e1:(KT.int k).eqb (KT.int m)=false:=by rw[KT.eqb];exact e
  rw[e1,aJ zS,KT.plt] at hp;refine oneLt_int ?_;rw[hp];exact h
end
def Yl(g:KT->KT)(h:aD):jM->jg->Prop
 | [],[]=>True
 | t::ts,v::vs=>Uv g h t v/\Yl g h ts vs
 | _,_=>False
def Yl.len{g:KT->KT}{h:aD}:∀{ts:jM}{vs:jg},Yl g h ts vs->ts.length=vs.length
 | [],[],_=>rfl
 | _::_,_::_,x=>congrArg (· + 1) x.2.len
 | [],_::_,x=>x.elim
 | _::_,[],x=>x.elim
def Yl.get{g:KT->KT}{h:aD}:∀{ts:jM}{vs:jg},Yl g h ts vs->∀ i,i<vs.length->Uv g h (ts.getD i (.int 0)) (vs.getD i Value.none)
 | _::_,_::_,x,0,_=>x.1
 | _::_,_::_,x,i+1,hi=>x.2.get i (by simpa using hi)
 | [],[],_,_,hi=>absurd hi (by simp)
 | [],_::_,x,_,_=>x.elim
 | _::_,[],x,_,_=>x.elim
def Yl.firsts{g:KT->KT}(hg:Kg g){h:aD}:∀{ts:jM}{vs:jg},Yl g h ts vs->∃ fs,PySem.W.KatTups h vs fs/\fs.length=vs.length/\∀ v∈fs,∃ k t,v=Value.int k t
 | [],[],_=>⟨[],.nil,Z,λv hv=>absurd hv (by simp)⟩
 | t::ts,v::vs,x=>by
  let⟨fs,h1,h2,h3⟩:=Yl.firsts hg x.2;let⟨_,sh⟩:=hg.shape;let⟨k,r,ea,_⟩:=sh t;let x1:=x.1;unfold Uv at x1;rw[ea,ZQ] at x1;let⟨a,jk,rfl,⟨o,ho,hc,n,hd⟩,kx⟩:=x1;rw[kL] at kx;let⟨v1,r1,rfl,k1,kx⟩:=kx;rw[ZQ] at k1;let⟨tk,rfl⟩:=k1;refine⟨.int k tk::fs,.cons ho hc hd Z h1,by simp[h2],λv hv=>?_⟩
  rcases zI.mp hv with rfl | hv
  ·exact⟨k,tk,Z⟩
  ·exact h3 v hv
 | [],_::_,x=>x.elim
 | _::_,[],x=>x.elim
section
variable{g:KT->KT}
def AH(hg:Kg g){ts:jM}{ks:jg}{Q:PyProof.Rows.SortKind->am->Prop}(hl:0<ks.length)(h:Yl g s.heap ts ks)(hq:Q (tuples' true) s):aC (aB prog w) A (keyKind' ks.toArray) Q E s:=by
 let⟨fs,h1,h2,h3⟩:=h.firsts hg;refine PySem.W.kat_kind (T:=.type "int") h1 (by lia) (λv hv=>?_) (by decide) hq
 let⟨k,t,rfl⟩:=h3 v hv;exact PySem.W.Looks.of_pure Z
end
def rk(ts:jM)(t:KT):Int:=((ts.countP λu=>u.lt t:Nat):Int)
def Hh{ts:jM}{t u:KT}(ht:t∈ts):decide (rk ts t<rk ts u)=t.lt u:=by
 unfold rk
 cases h:t.lt u with
 | true=>
  let⟨a,b,rfl⟩:=List.append_of_mem ht;let m (l:jM):=zEN (l:=l) (p:=λx=>x.lt t) (q:=λx=>x.lt u) λx _ z=>lt_trans' x t u z h;have:=m a;have:=m b;rw[List.countP_append,List.countP_append,List.countP_cons_of_neg (by rw[On];decide),List.countP_cons_of_pos (p:=λx:KT=>x.lt u) h]
  exact aI (by lia)
 | false=>
  have:=zEN (l:=ts) (p:=λx=>x.lt u) (q:=λx=>x.lt t) λx _ z=>by
   cases e:x.lt t with
   | true=>rfl
   | false=>rw[le_trans' h e] at z;cases z
  exact aH (by lia)
open Classical in
noncomputable abbrev kG(g:KT->KT)(ts:jM)(h:aD):Ko:=⟨tuples' true,λp=>if z:∃ t∈ts,Uv g h t p.1 then rk ts z.choose else 0,λp=>∃ t∈ts,Uv g h t p.1⟩
def Lq{g:KT->KT}(hg:Kg g){ts:jM}{h:aD}{t:KT}{p:kI}(ht:t∈ts)(hv:Uv g h t p.1):(kG g ts h).k1 p=rk ts t:=by
 let z:∃ t∈ts,Uv g h t p.1:=⟨t,ht,hv⟩;refine(dif_pos z).trans ?_;let e:g z.choose=g t:=Yi.mp (ZQ.inj _ _ _ z.choose_spec.2 hv);let f:(λu:KT=>u.lt z.choose)=λu=>u.lt t:=by
  funext u
  rw[<-hg.plt,<-hg.plt,e]
 unfold rk;rw[f]
def BF{α β:Type}{f:α->β}{l m:List β}(h:l.Perm m):∀ k:List α,m=k.map f->∃ p:List α,p.Perm k/\l=p.map f:=by
 induction h with
 | nil=>exact λk e=>⟨k,.refl _,e⟩
 | cons x _ ih=>
  intro k e
  cases k with
  | nil=>cases e
  | cons a k=>
   cases e;let⟨p,h1,rfl⟩:=ih k Z;exact⟨a::p,h1.cons a,Z⟩
 | swap x y l=>
  intro k e
  match k,e with
  | a::b::k,e=>
   cases e;exact⟨b::a::k,.swap _ _ _,Z⟩
 | trans _ _ i1 i2=>
  intro k e;let⟨p,h1,h2⟩:=i2 k e;let⟨p',h3,h4⟩:=i1 p h2;exact⟨p',h3.trans h1,h4⟩
section
variable{g:KT->KT}
def ZQm(hg:Kg g){ts:jM}{ks vs:jg}{Q:kD->am->Prop}(hl:ks.length=vs.length)(h2:2<=vs.length)(h:Yl g s.heap ts ks)(hu:∀ t∈ts,A.units+(g t).depth<cLine)(hq:∀ (p:jK) (st':kD),p.Perm (zF vs.length)->(p.map λi=>ts.getD i (.int 0)).Pairwise (λa b=>b.lt a=false)->kC st'=p.toArray.map (uF (ks.toArray.zip vs.toArray))->failedOf st'=none->Q st' s):
  aC (aB prog w) A ((sortRuns').run (SortSt.mk' (tuples' true) (ks.toArray.zip vs.toArray) #[] 7 none)) (λr s'=>Q r.2 s') E s:=by
 let hln:=h.len;let ok:@KoOk (kG g ts s.heap) prog w A s:=@KoOk.mk (kG g ts s.heap) _ _ _ _ fun{E p q Q} ⟨t,ht,a⟩ ⟨u,ht',b⟩ z=>by
  let z:Q (decide ((kG g ts s.heap).k1 p<(kG g ts s.heap).k1 q)) s:=z;rw[Lq hg ht a,Lq hg ht' b,Hh ht] at z;exact ZRg hg a b (hu t ht) z
 let mem (i:Nat) (hi:i<vs.length):ts.getD i (.int 0)∈ts:=by
  rw[zQ,zV (by lia)]
  exact yD _
 let it (i:Nat):=PySem.W.kat_item hl i;let sz:(ks.toArray.zip vs.toArray).size=vs.length:=by simp[hl]
 generalize ks.toArray.zip vs.toArray=xs at hq it sz⊢;let ex:xs.toList=(zF vs.length).map (uF xs):=by
  apply List.ext_getElem
  ·simp[sz]
  ·intro i h1 h2;simp[uF,Array.getD,show i<xs.size by simpa using h1]
 let gv (i:Nat) (hi:i<vs.length):Uv g s.heap (ts.getD i (.int 0)) (uF xs i).1:=by
  rw[it];exact h.get i (by lia)
 refine ae (Ap (κ:=kG g ts s.heap) (a₀:=xs) (st:=SortSt.mk' (tuples' true) xs #[] 7 none) (Q:=λ_ z=>(kC z).Perm xs/\failedOf z=none /\ @Qc (kG g ts s.heap) (kC z) xs.size) (λp hp=>?_) (@TB.mk (kG g ts s.heap) _ _ _ (.refl _) rfl rfl rfl) (by lia) λz p1 p2 p3=>⟨p1,p2,p3⟩) (λr s' hr=>?_) λ_ _ z=>z
 ·rw[ex] at hp;let⟨i,hi,rfl⟩:=yR.mp hp;let hi:=yX.mp hi;exact⟨_,mem i hi,gv i hi⟩
 ·let⟨rfl,p1,p2,p3⟩:=hr;let⟨p,hp,e⟩:=BF (qU.mp p1) _ ex;rw[<-p1.size_eq] at p3;let pw:=N8 (κ:=kG g ts s'.heap) p3;rw[e,tH] at pw;refine hq p _ hp (tH.mpr (pw.imp_of_mem fun{a b} ha hb c=>?_)) (vF.mp (by rw[e];simp)) p2
  let ha:=yX.mp (hp.mem_iff.mp ha);let hb:=yX.mp (hp.mem_iff.mp hb);let c:(kG g ts s'.heap).k1 _<=(kG g ts s'.heap).k1 _:=c;rw[Lq hg (mem a ha) (gv a ha),Lq hg (mem b hb) (gv b hb)] at c;rw[<-Hh (mem b hb)];exact aH (by lia)
end
inductive OF(g:KT->KT)(vs:jh)(H:Hp)(Q:VK)(_:XK):Prop
 |mk(v:V)(t:KT)(_:vs=[v])(_:ZE H t v)(_:t.fits 3=true)(_:∀(v':V)(H':Hp),ZE H' (g t) v'->ZC H H'->Q v' H')
def CF{g:KT->KT}{X:Cx}{kR:jO}{σ:L2.St}{H:Hp}{s:am}(I:ZJ X kR σ H s):∀{ts:jM}{kvs:jh}{ks:jg},kK H (ts.map g) kvs->ZR kvs ks->Yl g s.heap ts ks
 | [],kvs,ks,h,r=>by
  rw[uK,kK] at h;subst h;cases r;trivial
 | t::ts,kvs,ks,h,r=>by
  rw[zB,kK] at h;let⟨v,kr,rfl,h1,h2⟩:=h
  cases r with
  | cons ra rb=>exact⟨Uw I _ _ _ h1 ra,CF I h2 rb⟩
section
variable{kR:jO}{σ:L2.St}
def Hq{H:Hp}{s:am}{b:aj}(I:ZJ X kR σ H s)(h:s.heap.objs.size<=b):b∉Vr X.stack:=λz=>by
 let⟨_,o,e,_⟩:=I.stack.mem z;exact absurd (zL e) (Nat.not_lt.mpr h)
def Gg{g:KT->KT}{IT:Hp->KT->V->Prop}{sp:Sp}{x0:Str}{k:Nat}{f D kS:aj}{fd:ap}{oD:aG}{H0:Hp}{A:ay}{E:ja}{body:ai->PUnit->Sem (ForInStep PUnit)}{all:jM}(hI:∀ (H H':Hp) (t:KT) (u:V),ZC H H'->IT H t u->IT H' t u)(hS:∀ (H:Hp) (u:V) (t:KT) (Q:VK),ZC H0 H->IT H t u->(∀ (v':V) (H':Hp),ZE H' (g t) v'->ZC H H'->Q v' H')->sp [u] H Q E0)(F:ZK X.prog X.w X.K X.mg X.base ZV k f fd [x0] sp)(hb:Zz X.K fd [x0] [])(hr:Zf k A)(hA:A.frames=X.A.frames)(nD:D∉Vr X.stack)(nS:kS∉Vr X.stack)(hDS:D≠kS)(hD0:H0 D=none)(jr:∀ x (s:am) (R:am->Prop),aC (aB X.prog X.w) A (call (.ref f) [x]) (λkv s'=>∃ (ks:jg) (e:Nat),ks.length<1000/\s'.heap.get? kS=some (seqObj "list" ks.toArray e)/\R { s' with heap:=s'.heap.update kS (Obj.mapSeq (·.push kv)) }) (λ_ _=>False) s ->
   aC (aB X.prog X.w) A (body x ⟨⟩) (λr s'=>r=.yield ⟨⟩/\R s') E s):
  ∀(r:jg)(rU:jh)(rT dT:jM)(H:Hp)(s:am)(ks:jg)(kvs:jh)(e:Nat),all=dT++rT->all.length<1000->ZJ X kR σ H s->ZC H0 H->VO X kR H kS->H D=none->ZR rU r->Paired (IT H) rT rU ->
   s.heap.get? D=some oD->s.heap.get? kS=some (seqObj "list" ks.toArray e)->kK H (dT.map g) kvs->ZR kvs ks ->
   aC (aB X.prog X.w) A (forIn r PUnit.unit body) (λ_ s'=>∃(H':Hp)(ks':jg)(kvs':jh)(e':Nat),ZJ X kR σ H' s'/\ZC H0 H'/\VO X kR H' kS/\H' D=none/\s'.heap.get? D=some oD/\s'.heap.get? kS=some (seqObj "list" ks'.toArray e')/\kK H' (all.map g) kvs'/\ZR kvs' ks') E s
 | [],rU,rT,dT,H,s,ks,kvs,e,ha,hl,I,s0,fp,hD,r,hk,oo,os,hks,rk=>by
  cases r;cases hk;rw[wK] at ha;subst ha;rw[List.forIn_nil];exact ad ⟨H,ks,kvs,e,I,s0,fp,hD,oo,os,hks,rk⟩
 | x::r,rU,rT,dT,H,s,ks,kvs,e,ha,hl,I,s0,fp,hD,rr,hk,oo,os,hks,rk=>by
  cases rr with
  | cons ra rb=>
  rename_i u ur
  cases hk with
  | cons hk1 hk2=>
  rename_i t rT
  rw[List.forIn_cons];let hlen:ks.length=dT.length:=by
   let a:=hks.length;let b:=rk.length;rw[zY] at a;lia
  let hlall:dT.length+(rT.length+1)<1000:=by rw[ha,zT,zU] at hl;lia
  refine aa (Zb (jr x s (λs'=>∃(H':Hp)(ks':jg)(kvs':jh)(e':Nat),ZJ X kR σ H' s'/\ZC H0 H'/\ZC H H'/\VO X kR H' kS/\H' D=none/\s'.heap.get? D=some oD/\s'.heap.get? kS=some (seqObj "list" ks'.toArray e')/\kK H' ((dT++[t]).map g) kvs'/\ZR kvs' ks') ?_) λq s' hq=>?_)
  ·let env:Vj X.prog X.w X.K X.mg X.base A X.stack s H:=⟨by rw[hA];exact I.ok.frames,I.env0.mod,I.env0.bs,I.env0.bsz,I.env0.funs,I.env0.frf,I.env0.hok,I.env0.bare⟩
   let jC:sp [u] H (λv' H'=>ZE H' (g t) v'/\ZC H H') E0:=hS H u t _ s0 hk1 λv' H' a b=>⟨a,b⟩;let r2:ZR [u] [x]:=.cons ra .nil;refine wpAny_call (codeAny_mono (F.run A X.stack s H ⟨[x],[]⟩ [x] [u] _ E0 hr env (hb s [x] I.kIn rfl) r2 jC) λrr s' hq=>?_)
   cases rr with
   | error ev=>exact hq.elim
   | ok fl=>
    cases fl with
    | next=>exact False.elim hq
    | brk=>exact False.elim hq
    | cont=>exact False.elim hq
    | ret kv=>
     let⟨v',H',os',bare,un,hok,rv,kt,sm⟩:=hq;let J:ZJ X kR σ H' s':=I.call' os' un hok bare (λb hb=>absurd hb (by simp))
     let oo':=un.keep D oD oo hD nD (by simp)
     let oS':=un.keep kS _ os fp.1 nS (by simp)
     let hS':H' kS=none:=un.free kS _ os fp.1 (by simp)
     let hD':H' D=none:=un.free D _ oo hD (by simp)
     exists ks,e,by lia,oS'
     let fp':VO X kR H' kS:=⟨hS',fp.2⟩;let ea:(wX ks).push kv=wX (ks++[kv]):=by simp
     obtain⟨c2,hc2⟩:∃ c2,(s'.heap.update kS (Obj.mapSeq (·.push kv))).get? kS=some (seqObj "list" (wX (ks++[kv])) c2):=⟨_,by rw[<-ea];exact get?_update_seq oS' (·.push kv)⟩
     let sb:=xX.update s'.heap kS (Obj.mapSeq (·.push kv));let J2:ZJ X kR σ H' { s' with heap:=s'.heap.update kS (Obj.mapSeq (·.push kv)) }:=J.turned (t':=s'.toks) (it:=kS) (λb o n q=>(sb.2 b n).trans q) fp'.1 fp'.2.1 fp'.2.2.2.1 fp'.2.2.2.2.1 fp'.2.2.2.2.2;refine⟨H',ks++[kv],kvs++[v'],c2,J2,s0.trans sm,sm,fp',hD',(sb.2 D hDS).trans oo',hc2,?_,rk.append (.cons rv .nil)⟩;rw[yZ];exact(hks.mono (ZC.tups sm) _ _).append (.cons kt .nil)
  ·let⟨rfl,H',ks',kvs',e',J,s0',sm,fp',hD',oo',os',hks',rk'⟩:=hq;show aC (aB X.prog X.w) A (forIn r PUnit.unit body) _ E s';exact Gg hI hS F hb hr hA nD nS hDS hD0 jr r _ rT (dT++[t]) H' s' ks' kvs' e' (by rw[ha];simp) hl J s0' fp' hD' rb (Paired.mapP (G:=IT H') hk2 λ_ _ z=>hI _ _ _ _ sm z) oo' os' hks' rk'
end
section
variable{kR:jO}{σ:L2.St}{H:Hp}
def ZPV{a:aj}{o:HO}(I:ZJ X kR σ H s)(h0:X.s₀.heap.get? a=none)(hl:a≠X.env.locals)(hc:∀ x c,X.env.cells.lookup x=some c->c≠a)(hp:∀ p∈X.pn++kR,p.1≠a)(hn:H a=none)(new:Zj X.prog X.w (upd H a o) s.heap a o):ZJ X kR σ (upd H a o) s:=by
 let nt:∀{b:aj}{u:HO},H b=some u->b≠a:=fun{b u} e z=>by rw[z,hn] at e;cases e
 refine⟨I.ok,I.os,I.bare,⟨I.base.keep,I.base.slot,λb ob q n hx=>?_,I.base.there,λb xs q=>?_,λb ob u q=>?_,λb ps q=>?_⟩,I.loc,I.cell,?_,λx c e=>?_,λp hp'=>?_,λb u e=>?_,I.len⟩
 ·rw[ZY (λz=>by rw[z,h0] at q;cases q)];exact I.base.free b ob q n hx
 ·let e:=I.base.tups b xs q;rw[ZY (nt e)];exact e
 ·let e:=I.base.frzs b ob u q;rw[ZY (nt e)];exact e
 ·let⟨more,e⟩:=I.base.tbls b ps q;exact⟨more,by rw[ZY (nt e)];exact e⟩
 ·rw[ZY (Ne.symm hl)];exact I.free
 ·rw[ZY (hc x c e)];exact I.freeC x c e
 ·let⟨e,n,r⟩:=I.pin p hp';exact⟨e,by rw[ZY (hp p hp')];exact n,r⟩
 ·by_cases hb:b=a
  ·subst hb;rw[ZZ] at e;cases e;exact new
  ·rw[ZY hb] at e;exact(I.hok b u e).stay (λ_ _ _ q=>q) (λc q=>by rw[ZY (nt q)];exact q) λc xs q=>by rw[ZY (nt q)];exact q
def ZR.getD{us:jh}{jk:jg}(r:ZR us jk){i:Nat}(h:i<us.length):ZT (us.getD i .non) (jk.getD i Value.none):=by
 let hl:=r.length;let⟨u,e1,e2⟩:=r.get (i:=i) (x:=us[i]) (by simp[h])
 rw[zQ,zQ,e1,zV h];exact e2
def Ew{us:jh}{jk:jg}(r:ZR us jk):∀(l:jK),(∀ i∈l,i<us.length)->ZR (l.map λi=>us.getD i .non) (l.map λi=>jk.getD i Value.none)
 | [],_=>.nil
 | i::l,h=>.cons (ZR.getD r (h i zO)) (Ew r l λj hj=>h j (zJ _ hj))
def FV{F:KT->V->Prop}{ts:jM}{us:jh}(hk:Paired F ts us):∀(l:jK),(∀ i∈l,i<us.length)->Paired F (l.map λi=>ts.getD i (.int 0)) (l.map λi=>us.getD i .non)
 | [],_=>.nil
 | i::l,h=>by
  let hi:=h i zO;let⟨t,et,kt⟩:=ZU hk (i:=i) (b:=us[i]) (by simp[hi])
  refine .cons (show F (ts.getD i (.int 0)) (us.getD i .non) from ?_) (FV hk l λj hj=>h j (zJ _ hj));rw[zQ,zQ,et,zV hi];exact kt
def range_getD{α:Type}(l:List α)(d:α):(zF l.length).map (λi=>l.getD i d)=l:=by
 apply List.ext_getElem
 ·simp
 ·intro i h1 h2;simp[h2]
def AJ{g:KT->KT}{IT:Hp->KT->V->Prop}{sp:Sp}(hg:Kg g)(dg:∀ t,(g t).depth<=2 * t.depth+2){x0:Str}{k:Nat}{f:aj}{lv:ai}{fd:ap}{us:jh}{ts:jM}{Q:VK}(hr:Zf (k+2) X.A)(F:ZK X.prog X.w X.K X.mg X.base ZV k f fd [x0] sp)(hb:Zz X.K fd [x0] [])(I0:ZJ X kR σ H s)(hI:∀ (H H':Hp) (t:KT) (u:V),ZC H H'->IT H t u->IT H' t u)(hS:∀ (H':Hp) (u:V) (t:KT) (Q:VK),ZC H H'->IT H' t u->(∀ (v':V) (H2:Hp),ZE H2 (g t) v'->ZC H' H2->Q v' H2)->sp [u] H' Q E0)(hk:Paired (IT H) ts us)(hf:∀ t∈ts,t.fits 3=true)(h64:us.length<1000)(hcol:∀ (Q':jg->am->Prop),(∀ (s1:am) (jk:jg),ZJ X kR σ H s1->ZR us jk->Q' jk s1)->aC (aB X.prog X.w) X.A.in1 (collect lv) Q' X.xe s)(q:∀ (D:aj) (ws:jh) (rs:jM) (H':Hp),ZC H H'->H D=none->H' D=some (.lst ws)->Paired (IT H') rs ws->rs.Perm ts->rs.Pairwise (λa b=>b.lt a=false)->Q (.ref D) H'):
  aC (aB X.prog X.w) X.A (call (.builtin "sorted") [lv] [(zW "key",.ref f)]) (EP X kR σ Q) X.xe s:=by
 let hkl:=Paired.length hk;let hr6:Zf k X.A.in1.in1:=(Zf.in1 (k:=k+1) hr).in1;refine call_function_entry_kw kind_sorted plain_sorted entry_sorted (ksk_s1 _ _) ?_;unfold Builtin.«sorted»;refine aa (m:=checkCount "sorted" 1 1 _) (ad ?_);refine aa (hcol _ λs jk I rv=>?_);let hlen:=rv.length;refine aa (wpAny_newList ?_ (by rw[sizeLine_eq];lia))
 obtain⟨h1,eh1⟩:∃ h1,s.heap.push (seqObj "list" jk.toArray 0)=h1:=⟨_,Z⟩;let hoL:h1.get? s.heap.objs.size=some (seqObj "list" jk.toArray 0):=by rw[<-eh1];exact yP _ Z
 let keep:∀ b o,s.heap.get? b=some o->h1.get? b=some o:=λb o z=>by rw[<-eh1];exact zD _ z
 let hs1:h1.objs.size=s.heap.objs.size+1:=by rw[<-eh1,size_push']
 obtain⟨D,eD⟩:∃ D,s.heap.objs.size=D:=⟨_,Z⟩;rw[eD] at hoL;let hDs:s.heap.objs.size<=D:=by lia
 let hHD:H D=none:=I.hok.fresh hDs;let fD:VO X kR H D:=I.fpOk hDs hHD;let nD:D∉Vr X.stack:=Hq I hDs;let h0D:X.s₀.heap.get? D=none:=Heap.get?_none_of_le (zK I.sz hDs);let I1:ZJ X kR σ H { s with heap:=h1 }:=I.kept (t':=s.toks) keep;show aC _ _ _ _ _ { s with heap:=s.heap.push (seqObj "list" jk.toArray 0) };rw[eh1,eD];refine aa (af (wpAny_call_entry_kw slot_list_sort ⟨_,hoL,rfl⟩ entry_list_sort ?body (ksk_l1 _ _)));rw[ksk_t1];unfold ksk_tree;refine aa (listItems_at hoL Z ?_);refine aa (listUpdate_at hoL Z ?_ (by rw[zM,sizeLine_eq];lia) (zH _))
 let sb1:=xX.update h1 D (Obj.mapSeq λ_=>(#[]:jV));obtain⟨e1,ho1⟩:∃ e1,(h1.update D (Obj.mapSeq λ_=>(#[]:jV))).get? D=some (seqObj "list" #[] e1):=⟨_,get?_update_seq hoL λ_=>#[]⟩;obtain⟨h2,eh2⟩:∃ h2,h1.update D (Obj.mapSeq λ_=>(#[]:jV))=h2:=⟨_,Z⟩;rw[eh2] at ho1 sb1;show aC _ _ _ _ _ { s with heap:=h1.update D (Obj.mapSeq λ_=>(#[]:jV)) };rw[eh2];let I2:ZJ X kR σ H { s with heap:=h2 }:=ZJ.turned (s:={ s with heap:=h1 }) (t':=s.toks) (it:=D) I1 (λb o n z=>(sb1.2 b n).trans z) fD.1 fD.2.1 fD.2.2.2.1 fD.2.2.2.2.1 fD.2.2.2.2.2;refine aa (seqEpoch_at ho1 Z ?_);refine aa (wpAny_newTuple ?_ (by show jk.length<=_;rw[sizeLine_eq];lia))
 refine aa (wpAny_newList ?_ (zH _));refine af ?_;let hs2:h2.objs.size=s.heap.objs.size+1:=by rw[<-eh2,Heap.size_update,hs1]
 obtain⟨h3,eh3⟩:∃ h3,(h2.push (seqObj "tuple" jk.toArray 0)).push (seqObj "list" #[] 0)=h3:=⟨_,Z⟩;let ekS:(h2.push (seqObj "tuple" jk.toArray 0)).objs.size=s.heap.objs.size+2:=by rw[size_push',hs2]
 let keep3:∀ b o,h2.get? b=some o->h3.get? b=some o:=λb o z=>by rw[<-eh3];exact zD _ (zD _ z)
 let hoS:h3.get? (s.heap.objs.size+2)=some (seqObj "list" (wX []) 0):=by rw[<-eh3,<-ekS];exact yP _ Z
 obtain⟨kS,ekS2⟩:∃ kS,s.heap.objs.size+2=kS:=⟨_,Z⟩;rw[ekS2] at hoS ekS;let hSs:s.heap.objs.size<=kS:=by lia
 let hDk0:D≠kS:=by lia
 let hHS:H kS=none:=I.hok.fresh hSs;let fS:VO X kR H kS:=I.fpOk hSs hHS;let nS:kS∉Vr X.stack:=Hq I hSs;let I3:ZJ X kR σ H { s with heap:=h3 }:=I2.kept (t':=s.toks) keep3;show aC _ _ (ksk_rest D (.ref f) false jk.toArray e1 (.ref (h2.push (seqObj "tuple" jk.toArray 0)).objs.size)) _ _ { s with heap:=(h2.push (seqObj "tuple" jk.toArray 0)).push (seqObj "list" #[] 0) };rw[eh3,ekS];let fin:∀(H':Hp)(s':am)(ks:jg)(kvs:jh)(e:Nat),ZJ X kR σ H' s'->ZC H H'->VO X kR H' kS->H' D=none->s'.heap.get? D=some (seqObj "list" #[] e1)->s'.heap.get? kS=some (seqObj "list" ks.toArray e)->kK H' (ts.map g) kvs->ZR kvs ks ->
   aC (aB X.prog X.w) X.A.in1.in1 (ksk_end D false jk.toArray e1 (.ref kS) ks.toArray) (λfin s'=>∃ v,fin=.done (.ret v)/\aC (aB X.prog X.w) X.A.in1 (ret (.ref D)) (λfin s'=>∃ v,fin=.done (.ret v)/\EP X kR σ Q v s') X.xe s') X.xe s':=by
  intro H' s' ks kvs e J sm fp hD' oo os hks rk;let hkl2:ks.length=jk.length:=by
   let a:=hks.length;let b:=rk.length;rw[zY] at a;lia
  let sv:Yl g s'.heap ts ks:=CF J hks rk;let tail:∀(st:kD)(p:jK),p.Perm (zF jk.length)->(p.map λi=>ts.getD i (.int 0)).Pairwise (λa b=>b.lt a=false)->(kC st).map (·.2)=wX (p.map λi=>jk.getD i Value.none)->failedOf st=none ->
    aC (aB X.prog X.w) X.A.in1.in1 (ksk_tail D false e1 (.ref kS) st) (λfin s'=>∃ v,fin=.done (.ret v)/\aC (aB X.prog X.w) X.A.in1 (ret (.ref D)) (λfin s'=>∃ v,fin=.done (.ret v)/\EP X kR σ Q v s') X.xe s') X.xe s':=by
   intro st p hp hs hout hfail;let hmem:∀ i∈p,i<us.length:=λi hi=>by
    have:=yX.mp (hp.mem_iff.mp hi);lia
   let jp:p.length=jk.length:=hp.length_eq.trans xE;let s1:=xX.update s'.heap kS (Obj.mapSeq λ_=>(#[]:jV));let hDk:D≠kS:=by lia
   let oD1:=(s1.2 D hDk).trans oo;let s2:=xX.update (s'.heap.update kS (Obj.mapSeq λ_=>(#[]:jV))) D (Obj.mapSeq λ_=>wX (p.map λi=>jk.getD i Value.none));obtain⟨c2,hc2⟩:∃ c2,((s'.heap.update kS (Obj.mapSeq λ_=>(#[]:jV))).update D (Obj.mapSeq λ_=>wX (p.map λi=>jk.getD i Value.none))).get? D=some (seqObj "list" (wX (p.map λi=>jk.getD i Value.none)) c2):=⟨_,get?_update_seq oD1 λ_=>wX (p.map λi=>jk.getD i Value.none)⟩;unfold ksk_tail;dsimp only;rw[hout,aJ zS];refine aa (listUpdate_at os Z ?_ (by rw[zM,sizeLine_eq];lia) (zH _))
   refine aa (wpAny_letGo ?_);refine aa (seqEpoch_at oD1 Z ?_);refine aa (listUpdate_at oD1 Z ?_ (zH _) (by rw[zM,zY,jp,sizeLine_eq];lia))
   rw[hfail];simp only[bne_self_eq_false,wT,if_false];let J1:ZJ X kR σ H' { s' with heap:=s'.heap.update kS (Obj.mapSeq λ_=>(#[]:jV)) }:=J.turned (t':=s'.toks) (it:=kS) (λb o n z=>(s1.2 b n).trans z) fp.1 fp.2.1 fp.2.2.2.1 fp.2.2.2.2.1 fp.2.2.2.2.2;let J2:ZJ X kR σ H' { s' with heap:=(s'.heap.update kS (Obj.mapSeq λ_=>(#[]:jV))).update D (Obj.mapSeq λ_=>wX (p.map λi=>jk.getD i Value.none)) }:=ZJ.turned (s:={ s' with heap:=s'.heap.update kS (Obj.mapSeq λ_=>(#[]:jV)) }) (t':=s'.toks) (it:=D) J1 (λb o n z=>(s2.2 b n).trans z) hD' fD.2.1 fD.2.2.2.1 fD.2.2.2.2.1 fD.2.2.2.2.2;let J3:=ZPV (a:=D) (o:=.lst (p.map λi=>us.getD i .non)) J2 h0D fD.2.1 fD.2.2.2.2.1 fD.2.2.2.2.2 hD' ⟨by rw[zY,jp,sizeLine_eq];lia,_,c2,Ew rv _ hmem,hc2⟩
   let g:=Zq hD' (.lst (p.map λi=>us.getD i .non));refine ad ⟨.none,Z,ad ⟨_,Z,.ref D,_,J3,Z,q D _ (p.map λi=>ts.getD i (.int 0)) _ (sm.trans g) hHD ZZ (FV (Paired.mapP (G:=IT _) hk λ_ _ z=>hI _ _ _ _ (sm.trans g) z) _ hmem) ?_ hs⟩⟩;have:=hp.map (λi=>ts.getD i (KT.int 0));rw[show jk.length=ts.length by lia,range_getD] at this
   exact this
  unfold ksk_end;dsimp only;rw[aJ zS,aJ zS];by_cases h2:jk.length<2
  ·rw[aK (by rw[zM];exact h2),aK (by rw[zM];exact h2)]
   refine aa (ad (aa (ad ?_)));refine tail _ (zF jk.length) (.refl _) ?_ ?_ Z
   ·rw[show jk.length=ts.length by lia,range_getD]
    match ts,(show ts.length<2 by lia) with
    | [],_=>exact .nil
    | [t],_=>exact List.pairwise_singleton _ _
   ·show ((ks.toArray.zip jk.toArray).map (·.2))=_;apply vF.mp;rw[Array.toList_map,ksk_zip];simp only[rQ];rw[range_getD,List.map_snd_zip (by lia)]
  ·rw[aJ (by rw[zM];exact h2),aJ (by rw[zM];exact h2)]
   refine aa (AH hg (by lia) sv ?_)
   refine aa (Zb (ZQm hg (Q:=λst' s''=>s''=s'/\∃ p:jK,p.Perm (zF jk.length)/\(p.map λi=>ts.getD i (.int 0)).Pairwise (λa b=>b.lt a=false)/\kC st'=p.toArray.map (uF (ks.toArray.zip jk.toArray))/\failedOf st'=none)
    hkl2 (by lia) sv (λt ht=>?_) λp st' b1 b2 b3 b4=>⟨Z,p,b1,b2,b3,b4⟩) λr s'' hr'=>?_)
   ·let a:=hr6.un;let d1:=dg t;let d2:=Uj t 3 (hf t ht);lia
   ·let⟨⟨⟩,st'⟩:=r;let⟨rfl,p,b1,b2,b3,b4⟩:=hr';exact tail st' p b1 b2 (PySem.W.kat_snds hkl2 b3) b4
 unfold ksk_rest;refine aa (ah ?_)
 first
  | rw[List.forIn_toArray]
  | (rw[<-rY];simp only[rQ])
 refine aa (Zb (Gg (all:=ts) (H0:=H) (D:=D) (kS:=kS) hI hS F hb hr6 rfl nD nS hDk0 hHD (λx s4 R hx=>?_) jk us ts [] H { s with heap:=h3 } [] [] 0 rfl (by lia) I3 (ZC.refl H) fS hHD rv hk (keep3 _ _ ho1) hoS .nil .nil) λ_ s4 h4=>?_)
 ·refine aa (wpAny_attempt (ae hx (λkv s5 h5=>?_) λ_ _ z=>z.elim));let⟨ks,e,l64,o5,R5⟩:=h5
  try dsimp only
  refine aa (listUpdate_at o5 Z ?_ (by rw[zM,sizeLine_eq];lia) (zK (tQ (Array.size_push ..)) (by rw[zM,sizeLine_eq];lia)))
  exact ad ⟨Z,R5⟩
 ·let⟨H',ks,kvs,e,J,sm,fp,hD',oo,os,hks,rk⟩:=h4
  try dsimp only
  exact aa (listItems_at os Z (fin H' s4 ks kvs e J sm fp hD' oo os hks rk))
def Fv{H:Hp}:∀{ts:jM}{us:jh},kK H ts us->(∀ t∈ts,t.fits 3=true)->Paired (λt u=>ZE H t u/\t.fits 3=true) ts us
 | [],us,h,_=>by rw[kK] at h;subst h;exact .nil
 | t::ts,us,h,hf=>by
  rw[kK] at h;let⟨v,r,rfl,h1,h2⟩:=h;exact .cons ⟨h1,hf t zO⟩ (Fv h2 λt ht=>hf t (zJ _ ht))
def CN{H:Hp}{G:KT->Prop}{ts:jM}{us:jh}(h:Paired (λt u=>ZE H t u/\G t) ts us):kK H ts us:=by
 induction h with
 | nil=>exact .nil
 | cons h _ ih=>exact .cons h.1 ih
def ZGq{g:KT->KT}(hg:Kg g)(dg:∀ t,(g t).depth<=2 * t.depth+2){x0:Str}{k:Nat}{f:aj}{lv:ai}{fd:ap}{us:jh}{ts:jM}{Q:VK}(hr:Zf (k+2) X.A)(F:ZK X.prog X.w X.K X.mg X.base ZV k f fd [x0] (OF g))(hb:Zz X.K fd [x0] [])(I0:ZJ X kR σ H s)(hk:kK H ts us)(hf:∀ t∈ts,t.fits 3=true)(h64:us.length<1000)(hcol:∀ (Q':jg->am->Prop),(∀ (s1:am) (jk:jg),ZJ X kR σ H s1->ZR us jk->Q' jk s1)->aC (aB X.prog X.w) X.A.in1 (collect lv) Q' X.xe s)(q:∀ (D:aj) (ws:jh) (rs:jM) (H':Hp),ZC H H'->H D=none->H' D=some (.lst ws)->kK H' rs ws->rs.Perm ts->rs.Pairwise (λa b=>b.lt a=false)->Q (.ref D) H'):
  aC (aB X.prog X.w) X.A (call (.builtin "sorted") [lv] [(zW "key",.ref f)]) (EP X kR σ Q) X.xe s:=
 AJ (IT:=λH t u=>ZE H t u/\t.fits 3=true) hg dg hr F hb I0 (λ_ _ _ _ sm h=>⟨h.1.mono (ZC.tups sm) _ _,h.2⟩) (λH' u t Q _ h k=>⟨u,t,Z,h.1,h.2,k⟩) (Fv hk hf) hf h64 hcol λD ws rs H' s' nD hD hp pm up=>q D ws rs H' s' nD hD (CN hp) pm up
end
def VH(d:aj)(es:Array DictEntry)(ep:Nat)(h:aD):Prop:=∃ o,h.get? d=some o/\o.ExactDict/\o.data=.dict es ep
section
variable{d:aj}{es:Array DictEntry}{ep:Nat}
def VH.type(x:VH d es ep s.heap):s.TypeIs (.ref d) "dict" :=let ⟨o,g,hx,_⟩:=x;⟨o,g,hx.1⟩
def VH.at{h h':aD}(x:VH d es ep h)(k:∀ o,h.get? d=some o->h'.get? d=some o):VH d es ep h':=let ⟨o,g,r⟩:=x;⟨o,k o g,r⟩
def ZME{Q:ja}(hd:(d==sysModules)=false)(x:VH d es ep s.heap)(hQ:Q (.ref s.heap.objs.size) { s with heap:=s.heap.push { cls:=.type "dict_keyiterator",data:=.fields #[.ref d,.int 0 0,.int es.size 0,.int ep 0] } }):
  aC (aB prog w) A (pyIter (.ref d)) Q E s:=by
 let hT:=x.type;let⟨o,ho,hx,hdat⟩:=x;refine wpAny_pyIter_slot hT pU (wpAny_call_entry pU hT PySem.F.entry_dict_iter ?_ (PySem.F.args_dict_iter_1 _));unfold Builtin.«dict.__iter__»;refine aa ?_;unfold Builtin.Dict.dictSlotNone;refine aa (wpAny_notOrdered_dict hT (ad ?_));show aC _ _ (Builtin.Dict.showsAll d >>= _) _ _ s;unfold Builtin.Dict.showsAll;rw[aJ (by rw[hd];exact zS)]
 refine aa (ad (aa (wpAny_dictEntries ho hdat (aa (wpAny_dictEpoch ho hdat ?_)))));exact aa (wpAny_newObj_type (ad ⟨_,rfl,"dict_keyiterator",_,⟨_,yP _ rfl,rfl⟩,qS.lookup,hQ⟩))
def EW{it:aj}{i:Nat}{Q:jf->am->Prop}(hh:A.handled=none)(hit:s.heap.IsKeyIter it d i es.size ep)(x:VH d es ep s.heap)(hQ:∀ e h',es[i]? = some e->h'.IsKeyIter it d (i+1) es.size ep->xX it s.heap h'->Q (some e.key) { s with heap:=h' })(hN:∀ h',es[i]? = none->Heap.ExtBut it s.heap h'->Q none { s with heap:=h' }):aC (aB prog w) A (pyNext (.ref it)) Q E s:=by
 let⟨o,ho,hc,hd⟩:=id hit;let⟨od,hod,hxd,hdd⟩:=x;unfold pyNext;refine aa (wpAny_attempt (wpAny_callSpecial?_slot (name:=zW "__next__") hit.typeIs qS (wpAny_call_entry qS hit.typeIs PySem.F.entry_dict_keyiterator_next ?_ (PySem.F.args_dict_keyiterator_next_1 _))));refine aa (ad (aa (aa ?_)))
 first | refine aa (wpAny_typeNameOfWhole_keyiter hit.typeIs (ad ?_)) | refine aa (wpAny_typeNameOf_keyiter hit.typeIs (ad ?_))
 refine aa (wpAny_fieldsOf ho hd ?_);let hown:Builtin.Dict_items.ownsTuple "dict_keyiterator" = false:=by decide
 simp only[hown,wT,if_false];show aC _ _ (if (Value.ref d==Value.none)=true then _ else _) _ _ s
 rw[aJ (show ¬ ((Value.ref d==Value.none)=true) from zS)];refine aa (ad (aa (wpAny_dictEntries hod hdd ?_)));rw[aJ (by simp)]
 refine aa (ad (aa (wpAny_dictEpoch hod hdd ?_)));rw[aJ (by simp)]
 refine ad ?_;simp only[show ¬ ((i:Int)<0) from by lia,if_false,vL]
 cases he:es[i]? with
 | some e=>
  refine aa ?_
  first | refine aa (wpAny_typeNameOfWhole_keyiter hit.typeIs (ad ?_)) | refine aa (wpAny_typeNameOf_keyiter hit.typeIs (ad ?_))
  refine aa (wpAny_isOneOf_keyiter hit.typeIs ?_);show aC _ _ (setField (.ref it) 1 (rawInt ((i:Int)+1)) >>= _) _ _ s;refine aa (wpAny_setField ho hd (by simp) ?_)
  let hit':(s.heap.update it (Obj.mapFields (·.setIfInBounds 1 (rawInt ((i:Int)+1))))).IsKeyIter it d (i+1) es.size ep:=
   ⟨_,tF _ ho (Obj.isFreed_of_fields (Obj.data_mapFields hd _)),(Obj.cls_mapFields ..).trans hc,by rw[Obj.data_mapFields hd];simp[rawInt]⟩
  refine aa (af (aa (wpAny_isOneOf_keyiter (s:={ s with heap:=s.heap.update it (Obj.mapFields (·.setIfInBounds 1 (rawInt ((i:Int)+1)))) }) hit'.typeIs ?_)));show aC _ _ (pure e.key) _ _ _;exact ad (ad ⟨_,Z,ad (hQ e _ he hit' (xX.update ..))⟩)
 | none=>
  refine aa ?_
  first | refine aa (wpAny_typeNameOfWhole_keyiter hit.typeIs (ad ?_)) | refine aa (wpAny_typeNameOf_keyiter hit.typeIs (ad ?_))
  show aC _ _ (setField (.ref it) 0 .none >>= _) _ _ s;refine aa (wpAny_setField ho hd (by simp) ?_)
  show aC _ _ (newExc (.type "StopIteration") [] >>= _) _ _ _;refine aa ?_;simp only[newExc,newTuple];refine aa (wpAny_newObj_type ?_ (by size_fits))
  refine aa (m:=firstArgMember _ _) (wpAny_of_eq (a:=Value.none) (by first | rfl | (simp only[firstArgMember];rfl)) (wpAny_newObj_type ?_ (by size_fits)))
  simp only[raiseNew];refine aa (wpAny_handled ?_);rw[show A.in1.handled=none from hh];refine aa (ad (wpAny_throw ?_));refine aa (wpAny_isInstance (T:= "StopIteration") (b:=true) ⟨_,yP _ Z,Z⟩ isSubtype_stop ?_);exact ad (hN _ he (((xX.update ..).extBut.push _).push _))
def BO(hh:A.handled=none)(I:aj)(jx:d≠I):Walks prog w A I [I,d] [I] es.size (λi v=>(es[i]?).map (·.key)=some v) (λi h=>h.IsKeyIter I d i es.size ep/\VH d es ep h) where
 sub:=λb hb=>by simp at hb;simp[hb]
 frame:=λ_ _ _ st hk=>⟨st.1.at λo e=>hk I (by simp) o e,st.2.at λo e=>hk d (by simp) o e⟩
 item:=λi s Q E hi st hQ=>by
  refine EW hh st.1 st.2 (λe h' he hit' sb=>?_) (λh' he=>by rw[vZ hi] at he;cases he)
  exact hQ e.key h' s.toks (by rw[he];rfl) ⟨hit',st.2.at λo z=>(sb.2 d jx).trans z⟩ λb o hb e=>(sb.2 b (λh=>hb (by simp[h]))).trans e
 done:=λs Q E st hQ=>by
  refine EW hh st.1 st.2 (λe h' he=>by rw[Array.getElem?_eq_none (zX _)] at he;cases he) (λh' _ ex=>?_)
  exact hQ h' s.toks λb o hb e=>ex b o (λh=>hb (by simp[h])) e
 self:=λ_ _ _ _ st hQ=>wpAny_pyIter_keyiter st.1 hQ
def ZOG(lo:(d==sysModules)=false):tM prog w "dict" d d es.size (λi v=>(es[i]?).map (·.key)=some v) (VH d es ep) where
 type:=λ_ x=>x.type
 there:=λ_ x=>by let⟨o,g,_⟩:=x;exact⟨zL g,zL g⟩
 keep:=λ_ _ x hk=>x.at λo e=>hk d (.inl rfl) o e
 notList:=by decide
 notTuple:=by decide
 hint:=λ_ _ _ _ x hq=>PySem.W.kdl_hint_dict x.type hq
 iter:=λ_ s hh x=>⟨_,_,(λ_ _ hq=>ZME lo x hq),BO hh _ (by let⟨o,g,_⟩:=x;exact yN (zL g)),⟨⟨_,yP _ Z,Z,Z⟩,x.at λo e=>zD _ e⟩⟩
end
section
variable{kR:jO}{σ:L2.St}{H:Hp}
def ZIb{w:ax}{xs:List (KT×V×V)}{es:Array DictEntry}{acc:jV}(r:Paired (Oy w) xs es.toList)(h:ItemsOf (λi v=>(es[i]?).map (·.key)=some v) acc es.size):ZR (xs.map (·.2.1)) acc.toList:=by
 let ln:=Paired.length r;let l2:acc.toList.length=es.size:=by have:=h.1;simpa using this
 refine Xk (by rw[zY,l2,ln];simp) λi a b ha hb=>?_
 rw[zC] at ha;let⟨z,ez,rfl⟩:=xY.mp ha;rw[yO] at hb;have:=h.2 i b hb;let⟨e,ee,rfl⟩:=xY.mp this;let⟨z',e1,e2⟩:=ZU r (by rw[yO];exact ee)
 rw[ez] at e1;cases e1;exact e2.2.1
def ZJK{d:aj}{xs:List (KT×V×V)}{Q:jg->am->Prop}(hh:A.handled=none)(I:ZJ X kR σ H s)(x:Xb X.w H d xs)(hQ:∀ (s1:am) (jk:jg),ZJ X kR σ H s1->ZR (xs.map (·.2.1)) jk->Q jk s1):aC (aB X.prog X.w) A (collect (.ref d)) Q E s:=by
 let⟨es,hH,rel⟩:=x.ex;let⟨⟨hsys,hsz,o,ep,ho,hx,hd⟩,_⟩:=I.hok d _ hH;refine Gr (ZOG (ep:=ep) hsys) hh ⟨o,ho,hx,hd⟩ hsz λh' tk acc k1 _ hacc=>?_;exact hQ _ acc.toList (I.kept (t':=tk) k1) (ZIb rel hacc)
end
def ZII:az "sorted" = some (.builtin "sorted"):=by decide +kernel
def BU:TE:=λ_ H Q=>∀(p:aj)(H':Hp),H p=none->ZG p H H'->ZC H H'->Xb X.w H' p []->Q (.ref p) H'
def ZOb{pos:Pos}:PE X (.Dict [] [] pos) (BU (X:=X)):=λkR s σ H Q I h=>by
 let hn:=I.hok.fresh (zX s.heap.objs.size);refine wpAny_Dict_empty ⟨.ref s.heap.objs.size,_,I.laid (a:=s.heap.objs.size) (o:=NE s.heap.objs.size #[]) (t':=s.toks) (λ_ _ q=>zD _ q) (zX _) (HZ (beq_eq_false_iff_ne.mpr (Ne.symm (yN I.big))) (zH _) ⟨_,0,yP _ rfl,⟨rfl,rfl,rfl⟩,rfl⟩),Z,?_⟩;exact h _ _ hn (λb o e n=>by rw[ZY n];exact e) (Zq hn _) ⟨⟨#[],ZZ,.nil⟩,λz hz=>by simp at hz,.nil⟩
inductive OJ(w:ax)(D:XA)(σ:L2.St)(v x y:V)(H3:Hp):Prop
 |mk(a:aj)(xs:List (KT×V×V))(t:KT)(_:x=.ref a)(_:Xb w H3 a xs)(_:xs.length<1000)(_:ZE H3 t y)(_:t.depth<=3)(_:∀ H4,ZG a H3 H4->Xb w H4 a (Qb xs t y v)->D.nx σ H4)
def C2(w:ax)(td ty tv:TE):TS:=λD σ H=>tv σ H λv H1=>td σ H1 λx H2=>ty σ H2 λy H3=>OJ w D σ v x y H3
def ZNB{o i value:Expr}{pos pos':Pos}{td ty tv:TE}(hu:X.A.units+4<cLine)(ho:PE X o td)(hi:PE X i ty)(hv:PE X value tv)(hs:swapsWith value (some (.Subscript o i pos')) pos.line X.env=pure false):
  PS X (.Assign [.Subscript o i pos'] value pos) (C2 X.w td ty tv):=by
 intro kR s σ H D I h;refine wpAny_Assign_Subscript (Zb (hv kR s σ H _ I h) λr s1 ⟨v,H1,I1,rv,q1⟩=>Zb (ho kR s1 σ H1 _ I1 q1) λu s2 ⟨x,H2,I2,rx,q2⟩=>Zb (hi kR s2 σ H2 _ I2 q2) λiv s3 ⟨y,H3,I3,ry,a,xs,t,ex,dk,lx,ky,dt,q3⟩=>?_) hs;subst ex;obtain rfl:u=Value.ref a:=rx;exact AG hu I3 dk lx ky dt ry rv λs4 H4 I4 sx dk4=>⟨σ,H4,I4,q3 H4 sx dk4⟩
def ZQy(ts:jM)(H1:Hp)(Q:VK):Prop:=∀(D:aj)(ws:jh)(rs:jM)(H':Hp),ZC H1 H'->H1 D=none->H' D=some (.lst ws)->kK H' rs ws->rs.Perm ts->rs.Pairwise (λa b=>b.lt a=false)->Q (.ref D) H'
inductive Qo(w:ax)(Q:VK)(vs:jh)(H1:Hp):Prop
 |mk(d:aj)(xs:List (KT×V×V))(_:vs=[.ref d])(_:Xb w H1 d xs)(_:∀ x∈xs,x.1.fits 3=true)(_:xs.length<1000)(_:ZQy (xs.map (·.1)) H1 Q)
def ZPR(w:ax)(t:TA):TE:=λσ H Q=>t σ H λvs H1=>Qo w Q vs H1
def ZLN{g:KT->KT}(hg:Kg g)(dg:∀ t,(g t).depth<=2 * t.depth+2){k:Nat}{p pos kp p2:Pos}{e:Expr}{x x0:Str}{t:TA}(DS:ZA X.prog X.w X.K X.mg X.base k x [x0] (OF g))(hr:Zf (k+2) X.A)(hgl:Gl X "sorted")(hm:X.mg "sorted" = none)(hgx:Gl X x)(ha:PA X [e] t)(hdx:(x==("__debug__" : Str))=false:=by decide)(he:aE pos (aw [e] X.env)=(false,aF e X.env)::aE pos (aw [] X.env):=by rfl)(jz:(aE pos (aw [e] X.env)).any (·.1)=false:=by rfl):
  PE X (.Call (.Name "sorted" p) [e] [⟨some (zW "key"),.Name x p2,kp⟩] pos) (ZPR X.w t):=by
 intro kR s σ H Q I h;let⟨f,fd,F,b,kp',m⟩:=DS.ex;refine ag (Pe I hgl hm ZII (callWith_kw (Zb (ha pos kR s σ H _ I h) λus s1 ⟨vs,H1,I1,r,d,xs,e1,dk,hf,h64,q⟩=>?_) he jz));let pk:PK X [⟨some (zW "key"),.Name x p2,kp⟩] (Wu (tC (.ref f)) Uu):=ZOQ (WE (v:=.ref f) (pos:=p2) hgx m Z hdx) ZPp;refine Zb (pk pos kR s1 σ H1 (λzs H2=>zs=[.ref f]/\H2=H1) I1 ⟨Z,Z⟩) λzs s2 ⟨zv,H2,I2,rz,ez,eH⟩=>?_;subst e1 ez eH;let⟨u,rfl,ru⟩:=Wk r;let⟨u2,rfl,ru2⟩:=Wk rz;cases ru;cases ru2;let ka:kK H2 (xs.map (·.1)) (xs.map (·.2.1)):=by
  have:=dk.key;clear q h64 hf dk
  induction xs with
  | nil=>exact .nil
  | cons z xs ih=>exact .cons (this z (zO ..)).1 (ih λz hz=>this z (zJ _ hz))
 exact ZGq hg dg hr F b I2 ka (λt ht=>by let⟨z,hz,rfl⟩:=yR.mp ht;exact hf z hz) (by rw[zY];exact h64) (λQ' hq=>ZJK hr.hd I2 dk hq) q
end _T
namespace L2
open PySem PySem.Spec PyProof.Rows
def FB:∀{ns:jX}{vs:jg},ZR (ns.map V.int) vs->IntsAre vs ns
 | [],_,h=>by cases h;exact .nil
 | n::ns,_,h=>by
  cases h with
  | cons r rr=>
   let⟨t,rfl⟩:=r;exact .cons _ _ (FB rr)
section
variable{kR:jO}{σ:St}{H:Hp}
end
end L2
namespace _T
open PySem PySem.Spec L2 PyProof.Rows
mutual
def ZQ.keep{h h':aD}(k:∀ b o,h.get? b=some o->h'.get? b=some o):∀(t:KT)(v:ai),ZQ h t v->ZQ h' t v
 | .int i,v,x=>by rw[ZQ] at x⊢;exact x
 | .str i,v,x=>by rw[ZQ] at x⊢;exact x
 | .tup l,v,x=>by
  rw[ZQ] at x⊢;let⟨a,jk,e,⟨o,g,r⟩,e2⟩:=x;exact⟨a,jk,e,⟨o,k _ _ g,r⟩,kL.keep k l jk e2⟩
def kL.keep{h h':aD}(k:∀ b o,h.get? b=some o->h'.get? b=some o):∀(l:jM)(vs:jg),kL h l vs->kL h' l vs
 | [],vs,x=>by rw[kL] at x⊢;exact x
 | t::l,vs,x=>by
  rw[kL] at x⊢;let⟨v,r,e,e1,e2⟩:=x;exact⟨v,r,e,ZQ.keep k t v e1,kL.keep k l r e2⟩
end
section
variable{kR:jO}{σ:L2.St}{H:Hp}
end
section
variable{o i e f:Expr}{pos jm jo:Pos}{td ty tx:TE}
end
def Paired.ixR{α β:Type}{F:α->β->Prop}{l:List α}{m:List β}{i:Nat}{u:β}(h:Paired F l m)(e:m[i]? = some u):∃ r,l[i]? = some r/\F r u:=ZU h e
section
variable{kR:jO}{σ:L2.St}{H:Hp}{s0:am}
end
end _T
namespace _T
open PySem PySem.Spec L2
def ZQR(N:aj->Prop)(H:Hp)(n:String)(v:V):Prop:=
 (n = "bool" /\ ∃ b,v=.bl b)\/(n = "NoneType" /\ v=.non)\/(n = "list" /\ ∃ a xs,v=.ref a/\H a=some (.lst xs)/\¬ N a)\/(n = "dict" /\ ∃ a kvs,v=.ref a/\H a=some (.dK kvs)/\¬ N a)
mutual
def Yr(N:aj->Prop)(H:Hp):TG->V->Prop
 | .int i,v=>v=.int i
 | .str x,v=>v=.str x
 | .tup l,v=>∃ a vs,v=.ref a/\H a=some (.tup vs)/\kO N H l vs
 | .odd n,v=>ZQR N H n v
def kO(N:aj->Prop)(H:Hp):List TG->jh->Prop
 | [],vs=>vs=[]
 | t::l,vs=>∃ v r,vs=v::r/\Yr N H t v/\kO N H l r
end
structure Pq(N:aj->Prop)(H H':Hp):Prop where
 tup:YD H H'
 rest:∀ b o,H b=some o->¬ N b->H' b=some o
mutual
def Yr.mono{N:aj->Prop}{H H':Hp}(m:Pq N H H'):∀(t:TG)(v:V),Yr N H t v->Yr N H' t v
 | .int _,_,h=>by rw[Yr] at h⊢;exact h
 | .str _,_,h=>by rw[Yr] at h⊢;exact h
 | .tup l,_,h=>by
  rw[Yr] at h⊢;let⟨a,vs,e,h1,h2⟩:=h;exact⟨a,vs,e,m.tup a vs h1,kO.mono m l vs h2⟩
 | .odd n,_,h=>by
  rw[Yr] at h⊢;rcases h with h | h | ⟨e,a,xs,e1,e2,e3⟩ | ⟨e,a,xs,e1,e2,e3⟩
  ·exact .inl h
  ·exact .inr (.inl h)
  ·exact .inr (.inr (.inl ⟨e,a,xs,e1,m.rest _ _ e2 e3,e3⟩))
  ·exact .inr (.inr (.inr ⟨e,a,xs,e1,m.rest _ _ e2 e3,e3⟩))
def kO.mono{N:aj->Prop}{H H':Hp}(m:Pq N H H'):∀(l:List TG)(vs:jh),kO N H l vs->kO N H' l vs
 | [],_,h=>by rw[kO] at h⊢;exact h
 | t::l,_,h=>by
  rw[kO] at h⊢;let⟨v,r,e,h1,h2⟩:=h;exact⟨v,r,e,Yr.mono m t v h1,kO.mono m l r h2⟩
end
mutual
def Yr.less{N N':aj->Prop}{H:Hp}(m:∀ b,N' b->N b):∀(t:TG)(v:V),Yr N H t v->Yr N' H t v
 | .int _,_,h=>by rw[Yr] at h⊢;exact h
 | .str _,_,h=>by rw[Yr] at h⊢;exact h
 | .tup l,_,h=>by
  rw[Yr] at h⊢;let⟨a,vs,e,h1,h2⟩:=h;exact⟨a,vs,e,h1,kO.less m l vs h2⟩
 | .odd n,_,h=>by
  rw[Yr] at h⊢;rcases h with h | h | ⟨e,a,xs,e1,e2,e3⟩ | ⟨e,a,xs,e1,e2,e3⟩
  ·exact .inl h
  ·exact .inr (.inl h)
  ·exact .inr (.inr (.inl ⟨e,a,xs,e1,e2,λz=>e3 (m a z)⟩))
  ·exact .inr (.inr (.inr ⟨e,a,xs,e1,e2,λz=>e3 (m a z)⟩))
def kO.less{N N':aj->Prop}{H:Hp}(m:∀ b,N' b->N b):∀(l:List TG)(vs:jh),kO N H l vs->kO N' H l vs
 | [],_,h=>by rw[kO] at h⊢;exact h
 | t::l,_,h=>by
  rw[kO] at h⊢;let⟨v,r,e,h1,h2⟩:=h;exact⟨v,r,e,Yr.less m t v h1,kO.less m l r h2⟩
end
end _T
namespace L2
open PySem PySem.Spec PyProof.Rows
abbrev ZRr(a:aj)(o:aG):HO:=.ext λh=>h.get? a=some o
section
variable{H H2:Hp}{h h':aD}{cs fs ex:jR}
end
inductive OL(o:aG)(q:Str):Prop
 |mk(vs t:_)(_:o.data=.fields vs)(_:vs[1]? = some (.str q t))
def ZQ6(H:Hp)(q:Str)(ps:jV):Prop:=TriplesOk ps.toList/\∀ pos cv,PySem.codeAmong pos ps.toList=some cv->∃ c' co,cv=.ref c'/\H c'=some (ZRr c' co)/\OL co q
inductive Xt(H:Hp)(P:aj)(q:Str):Prop
 |mk(ps:_)(_:H P=some (.tbl ps))(_:ZQ6 H q ps)
section
variable{cs:jR}{HL Hc H' H3:Hp}
end
def N9:Expr->Bool
 | .Starred _ _=>false
 | _=>true
def UU{e:Expr}{es:jU}{env:Env}(h:N9 e=true):aw (e::es) env=(false,aF e env)::aw es env:=by
 cases e <;> first | rfl | cases h
def ZF{X:Cx}{e:Expr}{es:jU}{te:TE}{t:TA}(ha:PE X e te)(hr:PA X es t)(h:N9 e=true:=by rfl):PA X (e::es) (Wu te t):=ZN ha hr (UU h)
def UA{X:Cx}{e0 e1 e2:Expr}{t0 t1 t2:TE}(g0:PE X e0 t0)(g1:PE X e1 t1)(g2:PE X e2 t2)(h:[e0,e1,e2].all N9=true:=by rfl):PA X [e0,e1,e2] (Wu t0 (Wu t1 (Wu t2 Uu))):=
 (ZN g0 (ZN g1 (ZN g2 ZD (UU (zE.mp h e2 (by simp)))) (UU (zE.mp h e1 (by simp)))) (UU (zE.mp h e0 (by simp))))
def Nj{X:Cx}{e0 e1 e2 e3:Expr}{t0 t1 t2 t3:TE}(g0:PE X e0 t0)(g1:PE X e1 t1)(g2:PE X e2 t2)(g3:PE X e3 t3)(h:[e0,e1,e2,e3].all N9=true:=by rfl):PA X [e0,e1,e2,e3] (Wu t0 (Wu t1 (Wu t2 (Wu t3 Uu)))):=
 (ZN g0 (ZN g1 (ZN g2 (ZN g3 ZD (UU (zE.mp h e3 (by simp)))) (UU (zE.mp h e2 (by simp)))) (UU (zE.mp h e1 (by simp)))) (UU (zE.mp h e0 (by simp))))
def pa6{X:Cx}{e0 e1 e2 e3 e4 e5:Expr}{t0 t1 t2 t3 t4 t5:TE}(g0:PE X e0 t0)(g1:PE X e1 t1)(g2:PE X e2 t2)(g3:PE X e3 t3)(g4:PE X e4 t4)(g5:PE X e5 t5)(h:[e0,e1,e2,e3,e4,e5].all N9=true:=by rfl):PA X [e0,e1,e2,e3,e4,e5] (Wu t0 (Wu t1 (Wu t2 (Wu t3 (Wu t4 (Wu t5 Uu)))))):=
 (ZN g0 (ZN g1 (ZN g2 (ZN g3 (ZN g4 (ZN g5 ZD (UU (zE.mp h e5 (by simp)))) (UU (zE.mp h e4 (by simp)))) (UU (zE.mp h e3 (by simp)))) (UU (zE.mp h e2 (by simp)))) (UU (zE.mp h e1 (by simp)))) (UU (zE.mp h e0 (by simp))))
section
variable{g:jV->Prop}{kR:jO}{σ:St}{H:Hp}{a C fI:aj}{f:Str}{v:V}
end
section
variable{C fI:aj}{f:Str}
end
section
variable{C fI:aj}{f:Str}{e o value:Expr}{es:jU}{ta tv:TE}{t:TA}{pos pos' p:Pos}{x:Str}
end
section
variable{M:Model}{B:aD}{env:Env}{outer l:kg}{L e:aj}{cls:ai}{od:jY}{Q:Unit->am->Prop}
end
section
variable{kR:jO}{σ:St}{H H':Hp}{s':am}{E:XK}
end
inductive Ui(K':zZ)(x y:V)(H:Hp)(Q:VK):Prop
 |mk(p b xs:_)(_:x=.ref p)(_:y=.ref b)(_:ZI K' H p xs)(_:ZI K' H b [])(_:Q (.bl (!xs.isEmpty)) H)
def FW(hu:X.A.units<cLine):Y7 X (aA .NotEq) (Ui X.K):=by
 intro kR s σ H x y v u Q I rx ry h;let⟨p,b,xs,rfl,rfl,h1,h2,q⟩:=h;cases rx;cases ry;let⟨jk,r1,p1,z1⟩:=I.list h1;let⟨its2,r2,p2,z2⟩:=I.list h2;let l1:=r1.length;let l2:=r2.length;let e2:its2=[]:=vI (by rw[<-l2];rfl)
 subst e2
 cases xs with
 | nil=>
  let e1:jk=[]:=vI (by rw[<-l1];rfl)
  subst e1;exact PySem.SeqAt.RcNeAt.lists (e:=λ_=>true) p1.isList p2.isList Z hu (λj h1 _=>absurd h1 (by simp)) X.prog X.w X.xe _ (Yp I q (by simp))
 | cons x r=>exact PySem.SeqAt.RcNeAt.lists_lengths p1.isList p2.isList (by simp;intro e;subst e;simp at l1) hu X.prog X.w X.xe _ (Yp I q Z)
end L2
namespace PySem
end PySem
namespace PySem
open Builtin Builtin.Str
def Ld(z:Str):∀(r:jP)(a:Array Nat),(r.foldl (λacc p=>acc++z.cps++p.cps) a).toList=a.toList++r.flatMap λp=>z.cps.toList++p.cps.toList
 | [],a=>by simp
 | p::r,a=>by rw[sM,Ld z r];simp[xW]
end PySem
namespace L2
open PySem PySem.Spec PyProof.Rows
section
variable{k:Nat}{ps:jP}{sp:Sp}{x:Str}{p pos:Pos}{e:Expr}{es:jU}{t:TA}
end
end L2
namespace _T
open PySem
def YT(c:Nat):jK:=if c=34\/c=92 then [92,c] else [c]
def Vq(i:Int):jK:=(toString i).toList.map Char.toNat
mutual
def KT.shown:KT->jK
 | .int i=>Vq i
 | .str x=>34::(x.cps.toList.flatMap YT++[34])
 | .tup l=>40::(shownL l++[41])
def shownL:jM->jK
 | []=>[]
 | t::l=>t.shown++(shownR l)
def shownR:jM->jK
 | []=>[]
 | t::l=>32::(t.shown++shownR l)
end
def E5:∀ l:jM,shownR l=l.flatMap λt=>32::t.shown
 | []=>by rw[shownR];rfl
 | t::l=>by rw[shownR,E5 l];simp
def QW(c:Nat):Bool:=decide (48<=c)&&decide (c<=57)
def Qu(m:Nat):Vq (m:Int)=(yJ 10 m).map Char.toNat:=by
 show (Nat.repr m).toList.map Char.toNat=_;rw[Nat.toList_repr]
def Ly(m:Nat):Vq (-((m+1:Nat):Int))=45::(yJ 10 (m+1)).map Char.toNat:=by
 let e:(-((m+1:Nat):Int))=Int.negSucc m:=rfl;rw[e];show ("-" ++ Nat.repr (m+1)).toList.map Char.toNat=_;rw[String.toList_append,yZ,Nat.toList_repr];rfl
def ZK3{c:Char}(h:c.isDigit=true):QW c.toNat=true:=by
 unfold Char.isDigit at h;rw[zP] at h;let h1:(48:UInt32)<=c.val:=by simpa using h.1
 let h2:c.val<=(57:UInt32):=by simpa using h.2
 let g1:48<=c.val.toNat:=UInt32.le_iff_toNat_le.mp h1;let g2:c.val.toNat<=57:=UInt32.le_iff_toNat_le.mp h2;unfold QW;rw[zP];exact⟨aI g1,aI g2⟩
def Np(m:Nat):((yJ 10 m).map Char.toNat).all QW=true:=by
 rw[uL];exact zE.mpr λc hc=>ZK3 (Nat.isDigit_of_mem_toDigits (by decide) (by decide) hc)
def ZId:∀ d:Nat,d<10->d≠0->(Nat.digitChar d).toNat≠48:=by decide
def GL(m:Nat)(h:m≠0):∃ c r,(yJ 10 m).map Char.toNat=c::r/\c≠48:=by
 induction m using sO with
 | _ m ih=>
  by_cases hm:m<10
  ·rw[qP hm];exact⟨_,_,Z,ZId m hm h⟩
  ·let hr:m % 10<10:=Nat.mod_lt m (by decide)
   let t:yJ 10 (m / 10)++yJ 10 (m % 10)=yJ 10 (10 * (m / 10)+m % 10):=qH (by decide) (by lia) hr
   rw[Nat.div_add_mod] at t;let⟨c,r,e,hc⟩:=ih (m / 10) (by lia) (by lia)
   rw[<-t,yZ,e];exact⟨c,_,Z,hc⟩
def Pw{m k:Nat}(hk:0<k)(h:m<10 ^ k):(yJ 10 m).length<=k:=by
 induction k generalizing m with
 | zero=>lia
 | succ k ih=>
  by_cases hm:m<10
  ·rw[qP hm];simp
  ·let hr:m % 10<10:=Nat.mod_lt m (by decide)
   let t:yJ 10 (m / 10)++yJ 10 (m % 10)=yJ 10 (10 * (m / 10)+m % 10):=qH (by decide) (by lia) hr
   rw[Nat.div_add_mod] at t;let hk0:0<k:=by
    rcases rZ k with e | e
    ·subst e;simp at h;lia
    ·exact e
   let h2:m / 10<10 ^ k:=by rw[Nat.pow_succ] at h;lia
   have:=ih hk0 h2;rw[<-t,zT,qP hr,vP];lia
def ZIr:(yJ 10 0).map Char.toNat=[48]:=by decide
def sg(T:jK)(i:Nat):Str:=⟨(T[i]?).toList.toArray⟩
def W7{T:jK}{i c:Nat}(h:T[i]? = some c):sg T i=⟨#[c]⟩:=by unfold sg;rw[h];rfl
def AB{T:jK}{i:Nat}(h:T[i]? = none):sg T i=⟨#[]⟩:=by unfold sg;rw[h];rfl
def Wy{T:jK}{i c:Nat}{r:jK}(h:T.drop i=c::r):T[i]? = some c:=by
 have:(T.drop i)[0]? = some c:=by rw[h];rfl
 rw[uM] at this;simpa using this
def ZKL{T:jK}{i:Nat}(h:T.drop i=[]):T[i]? = none:=by
 have:T.length<=i:=List.drop_eq_nil_iff.mp h;exact rJ this
def OU{T:jK}{i c:Nat}{r:jK}(h:T.drop i=c::r):T.drop (i+1)=r:=by
 rw[<-wQ,h];rfl
def N4{T a b:jK}{i:Nat}(h:T.drop i=a++b):T.drop (i+a.length)=b:=by
 rw[<-wQ,h,rD]
def Na(post:jK):Prop:=post=[]\/∃ r,post=32::r\/post=41::r
def VF{c d:Nat}:((⟨#[c]⟩:Str)=⟨#[d]⟩) ↔ c=d:=by
 constructor
 ·intro h;injection h with h;simpa using h
 ·intro h;rw[h]
def JZ(t:KT){r:Nat}(h:t.fits r=true):∃ c q,t.shown=c::q/\c≠41/\c≠32/\(c=34 ↔ ∃ x,t=.str x)/\(c=40 ↔ ∃ l,t=.tup l):=by
 cases t with
 | int i=>
  rw[KT.shown];let key:∃ c q,Vq i=c::q/\(c=45\/QW c=true):=by
   rcases(show i<0\/0<=i by lia) with hi | hi
   ·obtain⟨m,rfl⟩:∃ m:Nat,i = -((m+1:Nat):Int):=⟨(-i).toNat-1,by lia⟩
    rw[Ly];exact⟨45,_,Z,.inl Z⟩
   ·let⟨m,rfl⟩:=xB hi;show ∃ c q,Vq (m:Int)=c::q/\_;rw[Qu];let a:=Np m
    cases e:(yJ 10 m).map Char.toNat with
    | nil=>
     have:(yJ 10 m).length=0:=by rw[uA.mp e];rfl
     let h2:=zED (b:=10) (n:=m);lia
    | cons c q=>
     rw[e,vN,zP] at a;exact⟨c,q,Z,.inr a.1⟩
  let⟨c,q,e,hc⟩:=key;let hb:c=45\/(48<=c/\c<=57):=by
   rcases hc with hc | hc
   ·exact .inl hc
   ·unfold QW at hc;rw[zP] at hc;exact .inr ⟨of_decide_eq_true hc.1,of_decide_eq_true hc.2⟩
  refine⟨c,q,e,by lia,by lia,⟨λz=>(by lia),λ⟨x,z⟩=>(by cases z)⟩,⟨λz=>(by lia),λ⟨x,z⟩=>(by cases z)⟩⟩
 | str x=>rw[KT.shown];exact⟨34,_,Z,by decide,by decide,⟨λ_=>⟨x,Z⟩,λ_=>rfl⟩,⟨λz=>(by cases z),λ⟨l,z⟩=>(by cases z)⟩⟩
 | tup l=>rw[KT.shown];exact⟨40,_,Z,by decide,by decide,⟨λz=>(by cases z),λ⟨x,z⟩=>(by cases z)⟩,⟨λ_=>⟨l,Z⟩,λ_=>rfl⟩⟩
def J6(c:Nat):(YT c=[92,c]/\(c=34\/c=92))\/(YT c=[c]/\c≠34/\c≠92):=by
 unfold YT;by_cases h:c=34\/c=92
 ·rw[aK h];exact .inl ⟨Z,h⟩
 ·rw[aJ h];exact .inr ⟨Z,λz=>h (.inl z),λz=>h (.inr z)⟩
end _T
namespace _T
open PySem PySem.Spec L2
variable{kP kQ CS CT CH CK CP CB:aj}
def top(i:Nat):Stmt:=PySem.Challenge.pw_twigmap_k92_read.main.body.getD i (.Pass ⟨0,0,0,0⟩)
abbrev JL:Stmt:=top 15
abbrev JN:Stmt:=top 16
abbrev LZ:Stmt:=top 17
abbrev KZ:Stmt:=top 18
abbrev N2:Stmt:=top 19
abbrev Kx:Stmt:=top 20
abbrev LP:Stmt:=top 21
abbrev Ic:Stmt:=top 31
abbrev IW:Stmt:=top 32
abbrev J4:Stmt:=top 33
abbrev J7:Stmt:=top 34
abbrev JV:Stmt:=top 35
abbrev Je:Stmt:=top 36
abbrev Jo:Stmt:=top 38
abbrev JB:Stmt:=top 40
abbrev MR:Stmt:=top 41
abbrev KR:Stmt:=top 43
abbrev Ih:Stmt:=top 44
abbrev Jc:Stmt:=top 45
abbrev Iv:Stmt:=top 48
abbrev Ir:Stmt:=top 50
abbrev KO:Stmt:=top 51
abbrev MB:Stmt:=top 52
abbrev IJ:Stmt:=top 53
abbrev Ju:Stmt:=top 54
abbrev MZ:Stmt:=top 55
abbrev IE:Stmt:=top 56
abbrev K7:Stmt:=top 57
abbrev JP:Stmt:=top 63
abbrev Ky:Stmt:=top 64
abbrev IF:Stmt:=top 65
abbrev Iq:Stmt:=top 66
abbrev IL:Stmt:=top 67
abbrev HJ:Stmt:=top 68
abbrev IM:Stmt:=top 69
abbrev Js:Stmt:=top 70
abbrev Km:Stmt:=top 71
abbrev Jb:Stmt:=top 73
abbrev Jg:Stmt:=top 74
abbrev Kv:Stmt:=top 75
abbrev Io:Stmt:=top 76
abbrev MU:Stmt:=top 77
abbrev Mu:Stmt:=top 78
abbrev J5:Stmt:=top 80
abbrev LL:Stmt:=top 81
abbrev HS:Stmt:=top 82
abbrev K6:Stmt:=top 83
abbrev LN:Stmt:=top 86
abbrev JM:Stmt:=top 87
abbrev HN:Stmt:=top 88
abbrev Kz:Stmt:=top 89
abbrev Ji:Stmt:=top 90
abbrev Jn:Stmt:=top 91
abbrev Im:Stmt:=top 92
abbrev KB:Stmt:=top 93
abbrev JF:Stmt:=top 94
abbrev Id:Stmt:=top 95
abbrev Q4:Stmt:=top 96
structure Txt(mg:jd):Prop where
 isi:mg "isinstance" = none
 bool:mg "bool" = none
 int:mg "int" = none
 str:mg "str" = none
 tuple:mg "tuple" = none
 list:mg "list" = none
 len:mg "len" = none
 all:mg "all" = none
 abs:mg "abs" = none
 max:mg "max" = none
 min:mg "min" = none
 range:mg "range" = none
 sorted:mg "sorted" = none
 ValueError:mg "ValueError" = none
 sum:mg "sum" = none
 zip:mg "zip" = none
 set:mg "set" = none
 figures:∃ t,mg "MOST_FIGURES" = some (.int 60 t)
 signs:∃ t,mg "MOST_SIGNS" = some (.int 40 t)
 things:∃ t,mg "MOST_THINGS" = some (.int 4 t)
 deep:∃ t,mg "MOST_DEEP" = some (.int 3 t)
 rows:∃ t,mg "MOST_ROWS" = some (.int 4 t)
 few:∃ t,mg "FEWEST_BRANCHES" = some (.int 2 t)
 most:∃ t,mg "MOST_BRANCHES" = some (.int 4 t)
 height:∃ t,mg "HEIGHT" = some (.int 0 t)
 least:∃ t,mg "LEAST" = some (.int 1 t)
 greatest:∃ t,mg "GREATEST" = some (.int 2 t)
 many:∃ t,mg "MANY" = some (.int 3 t)
def U1:ZB ["_law_well_here","_law_many","_law_found","_law_first","_law_second"] zEd (Zl Jg):=⟨Z,Z,Z,by decide +kernel,Z,by decide +kernel,by decide +kernel⟩
def ZNw(F:Zo K "_law_pull" "_law_pull" Jg f fd):ZK P w K mg kT ZV 1 f fd zEd Z6:=by
 refine F.ok U1 (λvs H Q E h=>?_) (λcdv A outer s H vs Q E hr h=>?_)
 ·let⟨p,m,rfl,_⟩:=h;rfl
 let⟨p,m,rfl,W,⟨hm,hlog⟩,k⟩:=h;let⟨a,b,c,d,hw,ha0,ha1,hc,hd⟩:=W.ex;let nd:=U1.nd;refine⟨_,ZO (Zt (Z3 XE (Za Zy (pv 0) ZL (λ_ _=>rfl)) ZL (Zu _)) (ZP (Zk ZL)) Zw)
  (ZO (MF (Zs Qk (Za Zy (pv 0) ZL (λ_ _=>rfl)) ZL) (Kd (pv 0) ZL Iw))
  (ZO (Zt (Z3 PB (Za Zy (pv 0) ZL (λ_ _=>rfl)) ZL (Zu _))
   (ZO (Zr (i:=2) nd rfl (Or.inl rfl) (Zs Qy (Za Zy (pv 0) ZL (λ_ _=>rfl)) (pv 1)))
   (ZO (MF (Zs Ao (Za Zy (pv 0) ZL (λ_ _=>rfl)) (pv 1)) (Kd (pv 0) ZL Iw))
   (ZP (Zk (pv 2))))) Zw)
  (ZO (MF (Zs Y2 (Za Zy (pv 0) ZL (λ_ _=>rfl)) ZL) (Kd (pv 0) ZL Iw))
  (ZO (Zr (i:=3) nd rfl (Or.inl rfl) (Zs Qy (Zs OE (Zs Y2 (Za Zy (pv 0) ZL (λ_ _=>rfl)) ZL) (Zs Y2 ZL (Zs OE ZL (Za Zy (pv 0) ZL (λ_ _=>rfl))))) ZL))
  (ZO (Zr (i:=4) nd rfl (Or.inl rfl) (Zs Qy (Zs OE (Zs Y2 (Zs Kr (pv 3) ZL) ZL) (Zs Y2 (Zs Qy (pv 3) ZL) ZL)) ZL))
  (ZP (Zk (Zs Qy (Zs Kr (pv 4) ZL) (pv 1))))))))),?_⟩
 exists _,Z,p,_,_,_,Z,Z,ZI.of hw,Z,Z,_,Z;refine YX (λ_=>?_) (λc0=>?_)
 ·exact k 0 H (xD 0) hm W (ZG.refl p H)
 let d0:d≠0:=λe=>c0 (aI (by rw[e]))
 exists _,Z,p,_,_,_,Z,Z,ZI.of hw,Z,_,_,Z,Z,_,Z,p,_,_,_,Z,Z,hw,Z;exists _,Z,p,_,_,_,Z,Z,ZI.of ZZ,Z,_,_,Z,Z,_,Z;refine YX (λc1=>?_) (λc1=>?_)
 ·exists _,Z,p,_,_,_,Z,Z,ZI.of ZZ,Z,_,Z,_,_,Z,Z,hm;exists _,Z,p,_,_,_,Z,Z,ZI.of ZZ,Z,_,Z,_,_,Z,Z,⟨hm,hlog⟩,_,Z,p,_,_,_,Z,Z,ZZ,Z;exists _,Z;refine k (c % m) _ (uX _ (by lia)) (uR _ hm) ⟨a,b,c / m,d-1,ZZ,ha0,ha1,Int.ediv_nonneg hc (by lia),by lia⟩ (ZG.refl p H).upd.upd
 ·exists _,Z,p,_,_,_,Z,Z,ZI.of ZZ,Z,_,_,Z,Z,_,Z,p,_,_,_,Z,Z,ZZ,Z;exists _,Z,p,_,_,_,Z,Z,ZI.of ZZ,Z,_,_,Z,Z,_,Z,p,_,_,_,Z,Z,ZI.of ZZ,Z,_,_,Z,Z,.inl ⟨by decide,by decide⟩,_,_,Z,Z,_,_,Z,Z,.inl ⟨by lia,by lia⟩,_,_,Z,Z,(by show (0:Int)<2147483629;decide)
  generalize hx:(a+1) * (48271+7919 * (b+1)) % 2147483629=x;let x0:0<=x:=by rw[<-hx];exact uX _ (by decide)
  let x1:x<2147483629:=by rw[<-hx];exact uR _ (by decide)
  exists _,Z,_,_,Z,Z,⟨by decide,by decide⟩,_,_,Z,Z,_,Z,_,_,Z,Z,(by show (0:Int)<1009;decide),_,_,Z,Z,_,_,Z,Z,.inl ⟨by lia,by lia⟩,_,_,Z,Z,(by show (0:Int)<1000000007;decide)
  exists _,Z,_,_,Z,Z,⟨by decide,by decide⟩,_,Z,_,_,Z,Z,hm
  exact k _ _ (uX _ (by lia)) (uR _ hm) ⟨a,b+1,c,d-1,ZZ,ha0,ha1,hc,by lia⟩ (ZG.refl p H).upd.upd
def US:ZB ["_law_well_here","_law_bound","_law_found","_law_j"] zEr (Zl Kv):=⟨Z,Z,Z,by decide +kernel,Z,by decide +kernel,by decide +kernel⟩
def ZKw(F:Zo K "_law_great" "_law_great" Kv f fd)(T:Txt mg)(DP:ZA P w K mg kT 1 "_law_pull" zEd Z6):ZK P w K mg kT ZV 2 f fd zEr Z6:=by
 refine F.ok US (λvs H Q E h=>?_) (λcdv A outer s H vs Q E hr h=>?_)
 ·let⟨p,m,rfl,_⟩:=h;rfl
 let⟨p,m,rfl,W,hm,k⟩:=h;let⟨a,b,c,d,hw,_⟩:=W.ex;let nd:=US.nd;refine⟨_,ZO (Zt (Z3 PB (Za Zy (pv 0) ZL (λ_ _=>rfl)) ZL (Zu _)) (ZP (Zk (Zc DP hr (ZN (pv 0) (ZN (pv 1) ZD))))) Zw)
  (ZO (Zr (i:=2) nd rfl (Or.inl rfl) ZL)
  (ZO (Xi PassesOwn.never rfl (UW rfl T.range (ZN ZL ZD)) (XB (i:=3) nd rfl (Or.inl rfl))
   (ZP (Zr (i:=2) nd rfl (Or.inl rfl) (Zs Y2 (Zs OE (pv 2) ZL) (Zc DP hr (ZN (pv 0) (ZN ZL ZD)))))))
  (ZP (Zk (Zs Qy (pv 2) (pv 1)))))),?_⟩
 exists _,Z,p,_,_,_,Z,Z,ZI.of hw,Z,_,_,Z,Z,_,Z;refine YX (λ_=>?_) (λ_=>?_)
 ·exact⟨_,Z,_,Z,p,m,Z,W,hm,k⟩
 refine⟨8,Z,by decide,by decide,Ql (n:=8) (λi σ H2=>∃(z:Int)(j:ji),σ=[some (.ref p),some (.int m),some (.int z),j]/\ZS H2 p/\ZG p H H2) ⟨0,none,Z,W,ZG.refl p H⟩ ?_ ?_⟩
 ·rintro i σ H2 hi ⟨z,j,rfl,W2,s2⟩;refine⟨_,Z,_,_,Z,Z,.inr ⟨by decide,by decide⟩,_,Z,p,62500000,Z,W2,Wf (by decide) (by decide),λr H3 _ _ W3 s3=>?_⟩
  exact⟨_,_,Z,Z,_,_,Z,W3,s2.trans s3⟩
 ·rintro σ H2 ⟨z,j,rfl,W2,s2⟩;exists _,Z,_,Z,_,_,Z,Z,hm.1;exact k _ _ (uX _ (by have:=hm.1;lia)) (uR _ hm.1) W2 s2
def YS:Str:= " \"\\~!#$&'()*+,-./0123456789:;<=>?@ABCDEFGHIJKLMNOPQRSTUVWXYZ[]^_`abcdefghijklmnopqrstuvwxyz{|}"
def ZJY:YS.cps.toList.length=94:=by decide +kernel
def Hn:YS.length=94:=by decide +kernel
def Bt:YS.cps.toList.all UB=true:=by decide +kernel
def sign_at{i:Int}(h0:0<=i)(h1:i<94):∃ c,VD YS.cps.toList i=some c/\UB c=true:=by
 let⟨c,e,m⟩:=KP (xs:=YS.cps.toList) h0 (by rw[ZJY];exact h1)
 exact⟨c,e,zE.mp Bt c m⟩
def WK(x:Str)(i:Nat):Prop:=x.cps.size<=i/\x.cps.toList.all UB=true
def WK.ok{x:Str}{i:Nat}(h:WK x i)(hi:i<=40):Qj x=true:=by
 unfold Qj;rw[zP];exact⟨aI (zK h.1 hi),h.2⟩
def WK.more{x:Str}{i c:Nat}(h:WK x i)(hc:UB c=true):WK (x++(⟨#[c]⟩:Str)) (i+1):=by
 let e:(x++(⟨#[c]⟩:Str)).cps=x.cps++#[c]:=rfl;exists ?_
 ·rw[e,Array.size_append];exact uH h.1
 ·rw[e,wG,List.all_append,h.2];simp[hc]
abbrev ZQN:jP:=["_law_well_here","_law_signs","_law_text_here","_law_few","_law_j","_law_sign"]
def U5:ZB ZQN zEi (Zl Io):=⟨Z,Z,Z,by decide +kernel,Z,by decide +kernel,by decide +kernel⟩
def ZN6(F:Zo K "_law_text" "_law_text" Io f fd)(T:Txt mg)(DP:ZA P w K mg kT 1 "_law_pull" zEd Z6):ZK P w K mg kT ZV 2 f fd zEi WG:=by
 refine F.ok U5 (λvs H Q E h=>?_) (λcdv A outer s H vs Q E hr h=>?_)
 ·let⟨p,rfl,_⟩:=h;rfl
 let⟨p,rfl,W,k⟩:=h;let nd:=U5.nd;refine⟨_,ZO (Zr (i:=1) nd rfl (Or.inl rfl) YB) (ZO (Zr (i:=2) nd rfl (Or.inl rfl) YB)
  (ZO (Zr (i:=3) nd rfl (Or.inl rfl) (Zc DP hr (ZN (pv 0) (ZN ZL ZD))))
  (ZO (Xi PassesOwn.never rfl (UW rfl T.range (ZN (Zc DP hr (ZN (pv 0) (ZN (Za Zy (Yo (ZN ZL (ZN ZL ZD))) (Zc DP hr (ZN (pv 0) (ZN ZL ZD))) (λ_ _=>rfl)) ZD))) ZD)) (XB (i:=4) nd rfl (Or.inl rfl))
   (ZO (Zr (i:=5) nd rfl (Or.inl rfl) YB)
   (ZO (Zt (Vo (Z3 PB (pv 3) ZL (Zu _)) (UN (Z3 XE (Zc DP hr (ZN (pv 0) (ZN ZL ZD))) ZL (Zu _)))).pt
    (ZP (Zr (i:=5) nd rfl (Or.inl rfl) (Za NO (pv 1) (Zc DP hr (ZN (pv 0) (ZN (Za Zy (Yo (ZN ZL (ZN ZL ZD))) (Zs Kr (pv 3) ZL) (λ_ _=>rfl)) ZD))) (λ_ _=>rfl)))) Zw)
   (ZP (Zr (i:=2) nd rfl (Or.inl rfl) (Zs PR (pv 2) (pv 5)))))))
  (ZP (Zk (pv 2)))))),?_⟩
 refine⟨_,Z,p,3,Z,W,Wf (by decide) (by decide),λpl H1 pl0 pl1 W1 s1=>?_⟩
 refine⟨_,Z,(by show 2<=ar;decide),λl hl=>?_⟩
 let W1':ZS (upd H1 l (.lst [.int 4,.int 41])) p:=W1.same (Zq hl _);refine⟨_,Z,p,2,Z,W1',Wf (by decide) (by decide),λr H2 r0 r1 W2 s2=>?_⟩
 let npl:l≠p:=by
  let⟨xs,e⟩:=W1.some;exact(Ze e hl).symm
 let hl2:H2 l=some (.lst [.int 4,.int 41]):=s2 l _ ZZ npl;let⟨v,hv,hv'⟩:=N6 (x:=V.int 4) (y:=V.int 41) r0 r1;let hb:∃ z:Int,v=.int z/\0<z/\z<=41:=by
  rcases hv' with e | e
  ·exact⟨4,e,by decide,by decide⟩
  ·exact⟨41,e,by decide,by decide⟩
 let⟨z,rfl,z0,z1⟩:=hb;refine⟨l,_,_,_,Z,Z,ZI.of hl2,hv,p,z,Z,W2,Wf z0 (by lia),λn H3 n0 n1 W3 s3=>?_⟩
 let sA:ZG p H H3:=(s1.trans (ZG.of (Zq hl _))).trans (s2.trans s3);refine⟨n,Z,by lia,by lia,Ql (n:=n.toNat) (λi σ H4=>∃(x:Str)(j g:ji),σ=[some (.ref p),some (.str YS),some (.str x),some (.int pl),j,g]/\WK x i/\ZS H4 p/\ZG p H H4)
  ⟨"",none,none,Z,⟨by decide,by decide⟩,W3,sA⟩ ?_ ?_⟩
 ·rintro i σ H4 hi ⟨x,j,g,rfl,hx,W4,s4⟩;let fin:∀(c:Nat)(H5:Hp),UB c=true->ZS H5 p->ZG p H H5->∃(y:Str)(j g:ji),[some (V.ref p),some (.str YS),some (.str (x++(⟨#[c]⟩:Str))),some (.int pl),some (.int (0+(i:Int))),some (.str ⟨#[c]⟩)]=[some (.ref p),some (.str YS),some (.str y),some (.int pl),j,g]/\WK y (i+1)/\ZS H5 p/\ZG p H H5:=
   λc H5 hc W5 s5=>⟨_,_,_,Z,hx.more hc,W5,s5⟩
  let hlen:∀ c:Nat,x.length+(⟨#[c]⟩:Str).length<=sizeLine:=λc=>by
   let h1:x.length<=i:=hx.1;let h2:(⟨#[c]⟩:Str).length=1:=rfl;rw[h2];exact nn (by lia)
  let yes:∀ H5,ZS H5 p->ZG p H H5->∃(v:Int),0<v/\v<=94/\VD [V.int 94,V.int 5] (pl / 2)=some (.int v):=λH5 _ _=>by
   let⟨v,e,h⟩:=N6 (x:=V.int 94) (y:=V.int 5) (i:=pl / 2) (by lia) (by lia)
   rcases h with rfl | rfl
   ·exact⟨94,by decide,by decide,e⟩
   ·exact⟨5,by decide,by decide,e⟩
  exists _,Z,_,_,Z,Z,_,Z;refine YX (λ_=>?_) (λ_=>?_)
  ·refine Z7 ?_;refine⟨_,Z,_,Z,(by show 2<=ar;decide),λl2 hl2=>?_⟩
   let⟨v,v0,v1,ev⟩:=yes H4 W4 s4;refine⟨_,Z,_,_,Z,Z,⟨by decide,by decide⟩,l2,_,_,_,Z,Z,ZI.of ZZ,ev,p,v,Z,W4.same (Zq hl2 _),Wf v0 (by lia),λu H5 u0 u1 W5 s5=>?_⟩
   let⟨c,ec,hc⟩:=sign_at u0 (by lia)
   exists YS,_,c,Z,Z,(by rw[Hn];exact nn (by decide)),ec
   exact⟨_,Z,_,Z,_,_,Z,Z,hlen c,fin c H5 hc W5 ((s4.trans (ZG.of (Zq hl2 _))).trans s5)⟩
  ·refine⟨_,Z,p,8,Z,W4,Wf (by decide) (by decide),λy H6 _ _ W6 s6=>⟨Z,_,Z,?_⟩⟩
   refine YX (λ_=>?_) (λ_=>?_)
   ·refine⟨_,Z,_,Z,(by show 2<=ar;decide),λl2 hl2=>?_⟩
    let⟨v,v0,v1,ev⟩:=yes H6 W6 (s4.trans s6);refine⟨_,Z,_,_,Z,Z,⟨by decide,by decide⟩,l2,_,_,_,Z,Z,ZI.of ZZ,ev,p,v,Z,W6.same (Zq hl2 _),Wf v0 (by lia),λu H5 u0 u1 W5 s5=>?_⟩
    let⟨c,ec,hc⟩:=sign_at u0 (by lia)
    exists YS,_,c,Z,Z,(by rw[Hn];exact nn (by decide)),ec
    exact⟨_,Z,_,Z,_,_,Z,Z,hlen c,fin c H5 hc W5 (((s4.trans s6).trans (ZG.of (Zq hl2 _))).trans s5)⟩
   ·exact⟨_,Z,_,Z,_,_,Z,Z,hlen 97,fin 97 H6 (by decide) W6 (s4.trans s6)⟩
 ·rintro σ H4 ⟨x,j,g,rfl,hx,W4,s4⟩;exact⟨_,Z,k x H4 (hx.ok (by lia)) W4 s4⟩
def Ps:ZB ["_law_well_here","_law_room","_law_way"] zEh (Zl MU):=⟨Z,Z,Z,by decide +kernel,Z,by decide +kernel,by decide +kernel⟩
def ZL3{k:Nat}:ZK P w K mg kT ZV k f fd zEh (Xp 0):=by
 let no:∀ vs H Q E,¬ Xp 0 vs H Q E:=λvs H Q E h=>by
  let⟨p,r,_,_,h1,_⟩:=h;lia
 exact⟨λvs H Q E h=>absurd h (no vs H Q E),λA outer s H args us vs Q E _ _ _ _ h=>absurd h (no vs H Q E)⟩
def ZPP{n:Nat}(F:Zo K "_law_key" "_law_key" MU f fd)(T:Txt mg)(DP:ZA P w K mg kT 1 "_law_pull" zEd Z6)(DG:ZA P w K mg kT 2 "_law_great" zEr Z6)(DT:ZA P w K mg kT 2 "_law_text" zEi WG)(DK:ZA P w K mg kT (n+2) "_law_key" zEh (Xp n)):ZK P w K mg kT ZV (n+3) f fd zEh (Xp (n+1)):=by
 refine F.ok Ps (λvs H Q E h=>?_) (λcdv A outer s H vs Q E hr h=>?_)
 ·let⟨p,r,rfl,_⟩:=h;rfl
 let⟨p,r,rfl,W,hn,k⟩:=h;let nd:=Ps.nd;let hr1:=hr.mono (show 1<=n+2 by lia)
 let hr2:=hr.mono (show 2<=n+2 by lia)
 refine⟨_,ZO (Zr (i:=2) nd rfl (Or.inl rfl) (Zc DP hr1 (ZN (pv 0) (ZN ZL ZD))))
  (ZO (Zt (Z3 Pr (pv 2) ZL (Zu _)) (ZP (Zk (Zs Qk (Zc DP hr1 (ZN (pv 0) (ZN ZL ZD))) ZL))) Zw)
  (ZO (Zt (Z3 XE (pv 2) ZL (Zu _)) (ZP (Zk (Zs Y2 (Zs Qk (Zc DG hr2 (ZN (pv 0) (ZN (Zs Qk (Zs OE ZL (Zs Mg ZL ZL)) ZL) ZD))) (Zs Mg ZL ZL)) ZL))) Zw)
  (ZO (Zt (Vo (Z3 Pr (pv 2) ZL (Zu _)) (UN (Z3 XE (pv 1) ZL (Zu _)))).pt (ZP (Zk (Zc DT hr2 (ZN (pv 0) ZD)))) Zw)
  (ZP (Zk (Ws Ou rfl T.tuple QK (ZN (Wx [0,1] zEh rfl (UW rfl T.range (ZN (Zc DP hr1 (ZN (pv 0) (ZN ZL ZD))) ZD)) (λ_ _ _ _ _=>Wj)
   (λ_ _ _ _ _=>Zc DK hr (ZN (pv 1) (ZN (Zs Qk (pv 2) ZL) ZD))) ⟨rfl,.inl rfl,rfl,rfl,.inl rfl,rfl,trivial⟩) ZD))))))),?_⟩
 refine⟨_,Z,p,8,Z,W,Wf (by decide) (by decide),λy H1 y0 y1 W1 s1=>?_⟩
 exists _,Z,_,_,Z,Z,_,Z;refine YX (λ_=>?_) (λc1=>?_)
 ·refine⟨_,Z,p,41,Z,W1,Wf (by decide) (by decide),λu H2 u0 u1 W2 s2=>⟨_,_,Z,Z,?_⟩⟩
  refine k (.int (u-20)) (.int (u-20)) H2 (ZE.int _) ?_ W2 (s1.trans s2);rw[KT.fits];let e:(10:Nat) ^ 60 > 1000:=by decide
  exact aI (by lia)
 exists _,Z,Z,_,Z;refine YX (λ_=>?_) (λc2=>?_)
 ·refine⟨_,Z,_,_,Z,Z,⟨by decide,by decide,by decide⟩,_,_,Z,Z,.inl ⟨by decide,by decide⟩,_,_,Z,Z,p,_,Z,W1,Wf (by decide +kernel) (by decide +kernel),λu H2 u0 u1 W2 s2=>?_⟩
  exists _,_,Z,Z,⟨by decide,by decide,by decide⟩,_,_,Z,Z,_,_,Z,Z
  refine k _ (.int _) H2 (ZE.int _) ?_ W2 (s1.trans s2);let e:((10:Int) ^ (60:Int).toNat)=((10 ^ 60:Nat):Int):=by decide +kernel
  rw[e] at u1;rw[KT.fits,e];generalize (10 ^ 60:Nat)=N at *;exact aI (by lia)
 let txt:WG ([.ref p]++[]) H1 Q E0:=⟨p,Z,W1,λx H2 hx W2 s2=>k (.str x) (.str x) H2 (ZE.str x) (by rw[KT.fits];exact hx) W2 (s1.trans s2)⟩
 exists _,Z,_,_,Z,Z,_,Z;refine YX (λ_=>?_) (λ_=>?_)
 ·exact Z7 ⟨_,Z,txt⟩
 exists _,Z,Z,_,Z;refine YX (λ_=>?_) (λc3=>?_)
 ·exact⟨_,Z,txt⟩
 let r0:r≠0:=λe=>c3 (aI (by rw[e];rfl))
 refine⟨_,Z,p,5,Z,W1,Wf (by decide) (by decide),λu H2 u0 u1 W2 s2=>⟨u,Z,by lia,by lia,?_⟩⟩
 let sB:ZG p H H2:=s1.trans s2;refine Wa (n:=u.toNat) (λi x=>x=.int (0+(i:Int))) (λD i ys H3=>ZS H3 p/\ZG p H H3/\D≠p/\H D=none/\∃ ts,kK H3 ts ys/\ts.length=i/\fitsL ts (r-1)=true) (YF (by lia))
  (λD i ys H3 hi _=>hi) (λD i ys H3 x H4 hi _ hy=>hy) (λD ys H3 _=>zX _) (λD hD=>?_) (λD i ys H3 x eD hl hi hx hP R hR=>?_) (λD ys H3 eD hP=>?_)
 ·let nD:D≠p:=by
   let⟨xs,e⟩:=W2.some;exact(Ze e hD).symm
  let nH:H D=none:=by
   cases e:H D with
   | none=>rfl
   | some o=>rw[sB D o e nD] at hD;cases hD
  exact⟨W2.same (Zq hD _),sB.trans (ZG.of (Zq hD _)),nD,nH,[],.nil,Z,by rw[fitsL]⟩
 ·let⟨W3,s3,nD,nH,ts,hk,hlen,hf⟩:=hP;let er:(r:Int)-1=((r-1:Nat):Int):=by lia
  refine⟨_,Z,_,Z,_,_,Z,Z,p,r-1,congrArg (λz=>[V.ref p,V.int z]) er,W3,by lia,λv t H4 hv ht W4 s4=>?_⟩
  let eD4:=s4 D _ eD nD;let sD:ZG D H4 (upd H4 D (.lst (ys++[v]))):=(ZG.refl D H4).upd;let tD:YD H4 (upd H4 D (.lst (ys++[v]))):=sD.tups eD4;refine hR v H4 eD4 ⟨W4.stay sD nD.symm,λb o e n=>?_,nD,nH,ts++[t],((kK.mono (s4.tupsW W3) _ _ hk).append (.cons hv .nil)).mono tD _ _,by simp[hlen],?_⟩
  ·rw[ZY (Ze e nH)];exact(s3.trans s4) b o e n
  ·rw[Q1] at hf⊢;rw[List.all_append,hf];simp[ht]
 ·let⟨W3,s3,nD,nH,ts,hk,hlen,hf⟩:=hP;refine⟨D,ys,Z,.inl ⟨ZI.of eD,λl hl=>?_⟩⟩;let sl:=Zq hl (.tup ys);refine k (.ref l) (.tup ts) _ (.tup ZZ (hk.mono (ZC.tups sl) _ _)) ?_ (W3.same sl) (s3.trans (ZG.of sl));rw[KT.fits,hf,Bool.and_true,zP];exact⟨aI (by lia),aI (by lia)⟩
abbrev ZQP:jP:=["_law_script","_law_k","_law_left","_law_cell","_law_digits"]
def Ux:ZB ZQP zE5 (Zl Jb):=⟨Z,Z,Z,by decide +kernel,Z,by decide +kernel,by decide +kernel⟩
def Cf(F:Zo K "_law_well" "_law_well" Jb f fd)(T:Txt mg):ZK P w K mg kT ZV 1 f fd zE5 (V8 K):=by
 refine F.ok Ux (λvs H Q E h=>?_) (λcdv A outer s H vs Q E hr h=>?_)
 ·let⟨a,ns,k,rfl,_⟩:=h;rfl
 let⟨a,ns,k,rfl,hS,hn,k0,k1,q⟩:=h;let nd:=Ux.nd;refine⟨_,ZO (Zr (i:=2) nd rfl (Or.inl rfl) (Za Zy (Yo (ZN ZL (ZN ZL ZD))) (Ws DZ rfl T.int Od (ZN (VY XE (pv 1) ZL (Zu _)) ZD)) (λ_ _=>rfl)))
  (ZO (Zr (i:=3) nd rfl (Or.inl rfl) (Za Zy (Zs O9 (Ws O5 rfl T.list Ph (ZN (pv 0) ZD)) (Yo (ZN ZL ZD))) (Zs Qy (pv 1) (Zv (Jy rfl) rfl T.max Jr (ZN ZL (ZN (Zv Yk rfl T.len YU (ZN (pv 0) ZD)) ZD)))) (λ_ _=>rfl)))
  (ZO (Zr (i:=4) nd rfl (Or.inl rfl) (Zs OE (Zv JR rfl T.abs J8 (ZN (pv 3) ZD)) (Ws DZ rfl T.int Od (ZN (QX (VY ZQX (Zv JR rfl T.abs J8 (ZN (pv 3) ZD)) (Zs Mg ZL ZL) (Zu _)) (U4 (VY Pr (pv 1) (Zv Yk rfl T.len YU (ZN (pv 0) ZD)) (Zu _)))) ZD))))
  (ZP (Zk (Yo (ZN (Zs Qy (pv 3) ZL) (ZN (Zs OE ZL (pv 1)) (ZN (pv 4) (ZN (pv 2) ZD))))))))),?_⟩
 refine⟨(by show 2<=ar;decide),λl1 hl1=>?_⟩
 let g1:=Zq hl1 (.lst [V.int 240,V.int 2400]);refine⟨_,Z,Z,.inr ⟨_,Z,?_⟩⟩;obtain⟨lv,elv,hlv⟩:∃ z:Int,VD [V.int 240,V.int 2400] (if decide (V.int k=V.int 0)=true then 1 else 0)=some (.int z)/\0<=z:=by
  split
  ·exact⟨2400,Z,by decide⟩
  ·exact⟨240,Z,by decide⟩
 exists l1,_,_,_,Z,Z,ZI.of ZZ,elv;refine⟨_,Z,a,_,Z,.inl (g1.seq hS),λl2 hl2=>?_⟩;let g2:=g1.trans (Zq hl2 (.lst (ns.map V.int)));refine⟨(by show 1<=ar;decide),λl3 hl3=>?_⟩
 let g3:=g2.trans (Zq hl3 (.lst [V.int 0]));let n23:l2≠l3:=Ze ZZ hl3;refine⟨l2,l3,_,_,Z,Z,(by rw[ZY n23];exact ZZ),ZZ,(by rw[zY];exact nn (by show ns.length+1<=1000;lia)),λl4 hl4=>?_⟩
 let g4:=g3.trans (Zq hl4 (.lst (ns.map V.int++[V.int 0])));exists _,Z,_,Z,a,_,Z,.inl (g4.seq hS),_,_,Z;let hlm:(ns.map V.int).length=ns.length:=zY _;generalize hM:(if (((ns.map V.int).length:Nat):Int) > 1 then (((ns.map V.int).length:Nat):Int) else 1)=M
 let M1:1<=M/\M<=(ns.length:Int)+1:=by
  rw[hlm] at hM;rw[<-hM];split <;> lia
 exists _,_,Z,Z,by lia
 let i0:0<=k % M:=uX _ (by lia)
 let i1:k % M<M:=uR _ (by lia)
 let⟨cv,ecv,mcv⟩:=KP (xs:=ns.map V.int++[V.int 0]) i0 (by rw[zT,zY,vP];lia)
 obtain⟨cell,rfl⟩:∃ z:Int,cv=.int z:=by
  rcases yU.mp mcv with m | m
  ·let⟨z,_,e⟩:=yR.mp m;exact⟨z,e.symm⟩
  ·exact⟨0,zN.mp m⟩
 exists l4,_,_,_,Z,Z,ZI.of ZZ,ecv;let dig:∀ b:Bool,0<=(if cell<0 then -cell else cell) * (if b=true then 1 else 0):=λb=>by
  cases b
  ·simp
  ·simp;split <;> lia
 let cm:∀(x:Int)(b:Bool),Qx x (if b=true then 1 else 0):=λx b=>.inr (by cases b <;> exact⟨by decide,by decide⟩)
 let done:∀(z:Int)(H5:Hp),0<=z->ZC H H5->∀ l5,H5 l5=none->Q (.ref l5) (upd H5 l5 (.lst [.int (cell % 2147483647),.int (1000 * k),.int z,.int lv])):=λz H5 z0 s5 l5 hl5=>
  q l5 _ (s5.free hl5) (s5.trans (Zq hl5 _)) ⟨_,_,_,_,ZZ,uX _ (by decide),uR _ (by decide),z0,hlv⟩
 exists _,Z,_,Z,_,Z,_,Z,_,_,Z,Z,⟨by decide,by decide,by decide⟩,_,_,Z,Z,_,Z
 refine YX (λ_=>?_) (λ_=>?_)
 ·refine⟨_,Z,_,Z,a,_,Z,.inl (g4.seq hS),_,_,Z,Z,.inr ⟨_,Z,_,_,Z,Z,cm _ _,?_⟩⟩;refine⟨_,Z,_,_,Z,Z,(by show (0:Int)<2147483647;decide),_,Z,_,_,Z,Z,.inl ⟨by decide,by decide⟩,_,Z,_,Z,(by show 4<=ar;decide),λl5 hl5=>?_⟩
  exact done _ _ (dig _) g4 l5 hl5
 ·refine .inr ⟨_,Z,_,_,Z,Z,cm _ false,?_⟩;refine⟨_,Z,_,_,Z,Z,(by show (0:Int)<2147483647;decide),_,Z,_,_,Z,Z,.inl ⟨by decide,by decide⟩,_,Z,_,Z,(by show 4<=ar;decide),λl5 hl5=>?_⟩
  exact done _ _ (dig false) g4 l5 hl5
def ZQM:ZB zFd zFd (Zl KZ):=⟨Z,Z,Z,by decide +kernel,Z,by decide +kernel,by decide +kernel⟩
def C3(F:Zo K "has_few_figures" "has_few_figures" KZ f fd)(T:Txt mg):ZK P w K mg kT ZV 1 f fd zFd UV:=by
 refine F.ok ZQM (λvs H Q E h=>?_) (λcdv A outer s H vs Q E hr h=>?_)
 ·let⟨i,rfl,_⟩:=h;rfl
 let⟨i,rfl,q⟩:=h;exists _,ZP (Zk (VY Pr (Zv JR rfl T.abs J8 (ZN (pv 0) ZD)) (Zs Mg ZL ZL) (Zu _)));exists _,Z,_,Z,_,_,Z,Z,⟨by decide,by decide,by decide⟩,_,_,Z,Z
 let e:=ZOm i;rw[<-e] at q;exact q
def Ce:ZB zEx zEx (Zl N2):=⟨Z,Z,Z,by decide +kernel,Z,by decide +kernel,by decide +kernel⟩
def Bi(F:Zo K "is_sign" "is_sign" N2 f fd):ZK P w K mg kT ZV 1 f fd zEx VN:=by
 refine F.ok Ce (λvs H Q E h=>?_) (λcdv A outer s H vs Q E hr h=>?_)
 ·let⟨c,rfl,_⟩:=h;rfl
 let⟨c,rfl,q⟩:=h;exists _,ZP (Zk (JS Op Op YB (pv 0) YB));let e1:(zW " ").cps.toList=[32]:=by decide +kernel
 let e2:(zW "~").cps.toList=[126]:=by decide +kernel
 let e:=Df c;exists _,Z,_,_,Z,Z,_,Z;refine YX (λh1=>?_) (λh1=>?_)
 ·exists _,_,Z,Z;let h1':(!decide ([c]<[32]))=true:=by rw[<-e1];exact h1
  rw[h1',vA] at e;rw[<-e,<-e2] at q;exact q
 ·let h1':(!decide ([c]<[32]))=false:=by rw[<-e1];exact uE.mpr h1
  rw[h1',uY] at e;rw[<-e] at q;exact q
structure ZX(K:zZ)(mg:jd)(x:Str)(st:Stmt)(ps:jP):Prop where
 ex:∃ f fd,Zo K x x st f fd/\Zz K fd ps []/\mg x=some (.ref f)
def ZX.of{P:ao}{w:ax}{K:zZ}{mg:jd}{kT:aD}{x:Str}{st:Stmt}{ps:jP}{k:Nat}{sp:Sp}(L:ZX K mg x st ps)(h:∀ f fd,Zo K x x st f fd->ZK P w K mg kT ZV k f fd ps sp):ZA P w K mg kT k x ps sp:=by
 let⟨f,fd,F,b,m⟩:=L.ex;exact⟨f,fd,h f fd F,b,F.kp,m⟩
def Lv{K:zZ}{h:aD}{mg:jd}{x:Str}{st:Stmt}{ps:jP}{f:aj}{od an:jY}{sl:Array (jf)}{oc kV dc pm cd ct:ai}(X:K.In h)(G:h.Ns aq mg)(a:zA K aq x=some (some (.ref f)))(l:K.lookup f=some ⟨oc,od,.func (yF x x (UH st) (Vl st) (Zl st) .none kV dc pm an cd ct),sl⟩)(c:wN K cd x=true)(k:xZ K (.ref f)=true)(hb:∀ (kV doc pm:ai) (an:jY) (cdv ct:ai) (us:jg),us.length=ps.length->bindArgs (yF x x (UH st) (Vl st) (Zl st) .none kV doc pm an cdv ct) ⟨us,[]⟩=pure (ps.zip us)):ZX K mg x st ps:=
 ⟨f,_,OY (st:=st) l c k,(OY (st:=st) l c k).binds hb,yE X G a⟩
def Fo(T:Txt mg)(L:ZX K mg "_law_key" MU zEh)(DP:ZA P w K mg kT 1 "_law_pull" zEd Z6)(DG:ZA P w K mg kT 2 "_law_great" zEr Z6)(DT:ZA P w K mg kT 2 "_law_text" zEi WG):∀ n:Nat,ZA P w K mg kT (n+2) "_law_key" zEh (Xp n)
 | 0=>L.of λ_ _ _=>ZL3
 | n+1=>L.of λ_ _ F=>ZPP F T DP DG DT (Fo T L DP DG DT n)
def HX{sp:Sp}{k:Nat}{ps:jP}(no:∀ vs H Q E,¬ sp vs H Q E):ZK P w K mg kT ZV k f fd ps sp:=
 ⟨λvs H Q E h=>absurd h (no vs H Q E),λA outer s H args us vs Q E _ _ _ _ h=>absurd h (no vs H Q E)⟩
def ZPE:ZB zEy zEy (Zl LZ):=⟨Z,Z,Z,by decide +kernel,Z,by decide +kernel,by decide +kernel⟩
def B9{k:Nat}:ZK P w K mg kT ZV k f fd zEy (Xh 0):=by
 let no:∀ vs H Q E,¬ Xh 0 vs H Q E:=λvs H Q E h=>by
  let⟨v,t,r,q,_,_,_,h1,_⟩:=h;lia
 exact⟨λvs H Q E h=>absurd h (no vs H Q E),λA outer s H args us vs Q E _ _ _ _ h=>absurd h (no vs H Q E)⟩
def Ad{n:Nat}(F:Zo K "fits" "fits" LZ f fd)(T:Txt mg)(DW:ZA P w K mg kT 1 "has_few_figures" zFd UV)(DS:ZA P w K mg kT 1 "is_sign" zEx VN)(DF:ZA P w K mg kT (n+1) "fits" zEy (Xh n)):ZK P w K mg kT ZV (n+2) f fd zEy (Xh (n+1)):=by
 refine F.ok ZPE (λvs H Q E h=>?_) (λcdv A outer s H vs Q E hr h=>?_)
 ·let⟨v,t,r,q,rfl,_⟩:=h;rfl
 let⟨v,t,r,q,rfl,hv,hq,hn,k⟩:=h;let hr1:=hr.mono (show 1<=n+1 by lia)
 let⟨t1,m1⟩:=T.signs;let⟨t2,m2⟩:=T.things;refine⟨_,ZO (Zt (XD (Zv W0 rfl T.isi WS (ZN (pv 0) (ZN (Wt (v:=.ty "bool") rfl T.bool Hf rfl) ZD)))) (ZP (Zk Pi)) Zw)
  (ZO (Zt (XD (Zv W0 rfl T.isi WS (ZN (pv 0) (ZN (Wt (v:=.ty "int") rfl T.int Od rfl) ZD)))) (ZP (Zk (Zc DW hr1 (ZN (pv 0) ZD)))) Zw)
  (ZO (Zt (XD (Zv W0 rfl T.isi WS (ZN (pv 0) (ZN (Wt (v:=.ty "str") rfl T.str QO rfl) ZD))))
   (ZP (Zk (QX (VY Og (Zv Hl rfl T.len YU (ZN (pv 0) ZD)) (WE (v:=.int 40) rfl m1 ⟨_,rfl⟩) (Zu _))
    (U4 (Zv (Mh rfl) rfl T.all Ln (ZN (Wx [] [] rfl (Ef (pv 0)) (λ_ _ _ _ _=>Wj) (λ_ _ _ _ _=>Zc DS hr1 (ZN (pv 0) ZD)) trivial) ZD)))))) Zw)
  (ZO (Zt (XD (Zv W0 rfl T.isi WS (ZN (pv 0) (ZN (Wt (v:=.ty "tuple") rfl T.tuple QK rfl) ZD))))
   (ZP (Zk (QX (VY PB (pv 1) ZL (Zu _)) (QX (VY Og (Zv Yk rfl T.len YU (ZN (pv 0) ZD)) (WE (v:=.int 4) rfl m2 ⟨_,rfl⟩) (Zu _))
    (U4 (Zv (Mh rfl) rfl T.all Ln (ZN (Wx [1] ["room"] rfl (LO (pv 0)) (λ_ _ _ _ _=>Wj) (λ_ _ _ _ _=>Zc DF hr (ZN (pv 0) (ZN (Zs Qk (pv 1) ZL) ZD))) ⟨rfl,.inl rfl,rfl,trivial⟩) ZD))))))) Zw)
  (ZP (Zk Pi))))),?_⟩
 cases t with
 | int i=>
  let ev:v=.int i:=by rw[ZE] at hv;exact hv
  subst ev;refine⟨_,Z,_,_,_,_,Z,hv.ty,Hj,_,Z,Zn ?_⟩;refine⟨_,Z,_,_,_,_,Z,hv.ty,KN,_,Z,Z7 ?_⟩;let kk:=k H (ZC.refl H);rw[KT.fits] at kk;exact⟨_,Z,i,Z,kk⟩
 | str x=>
  let ev:v=.str x:=by rw[ZE] at hv;exact hv
  subst ev;let hx:Qj x=true:=by rw[KT.fits] at hq;exact hq
  let hxs:=hx;unfold Qj at hxs;rw[zP] at hxs;let hlen:x.length<=40:=of_decide_eq_true hxs.1;refine⟨_,Z,_,_,_,_,Z,hv.ty,ZPh,_,Z,Zn ?_⟩;refine⟨_,Z,_,_,_,_,Z,hv.ty,JK,_,Z,Zn ?_⟩;refine⟨_,Z,_,_,_,_,Z,hv.ty,OH,_,Z,Z7 ?_⟩;exists _,Z,x,Z,nn (by lia),_,_,Z,Z,_,Z
  rw[aK (aI (show (x.length:Int)<=40 by lia))]
  exists _,Z,x,Z;let hsz:x.cps.size<=40:=hlen;refine Wa (n:=x.cps.size) (λi z=>∃ c,x.cps[i]? = some c/\z=.str ⟨#[c]⟩) (λD i ys H3=>ZC H H3/\H D=none/\ys=((x.cps.toList.take i).map UB).map V.bl) (YF (by lia))
   (λD i ys H3 hi _=>hi) (λD i ys H3 z H4 hi _ hy=>hy) (λD ys H3 _=>rfl) (λD hD=>⟨Zq hD _,hD,Z⟩) (λD i ys H3 z eD hl hi hz hP R hR=>?_) (λD ys H3 eD hP=>?_)
  ·let⟨c,hc,rfl⟩:=hz;let⟨s3,nD,rfl⟩:=hP;exists _,Z,c,Z;refine hR _ H3 eD ⟨λb o e=>by rw[ZY (Ze e nD)];exact s3 b o e,nD,?_⟩
   let hc':x.cps.toList[i]? = some c:=by simpa using hc
   rw[yW,hc'];simp
  ·let⟨s3,nD,rfl⟩:=hP;exists D,_,Z,ZI.of eD;let kk:=k H3 s3;rw[KT.fits,hx] at kk;let et:(x.cps.toList.take x.cps.size)=x.cps.toList:=yS (by simp)
   rw[et];let ea:(x.cps.toList.map UB).all id=true:=by rw[uL];exact hxs.2
   rw[ea];exact kk
 | tup l=>
  let hv':=hv;rw[ZE] at hv';let⟨a,vs,rfl,ea,hvs⟩:=hv';let hl:=hvs.length;rw[KT.fits,zP,zP] at hq;let⟨hq0,hq1,hq2⟩:=hq;let hl4:l.length<=4:=of_decide_eq_true hq1;refine⟨_,Z,_,_,_,_,Z,hv.ty,ZPG,_,Z,Zn ?_⟩;refine⟨_,Z,_,_,_,_,Z,hv.ty,IC,_,Z,Zn ?_⟩;refine⟨_,Z,_,_,_,_,Z,hv.ty,MN,_,Z,Zn ?_⟩;refine⟨_,Z,_,_,_,_,Z,hv.ty,N0,_,Z,Z7 ?_⟩;exists _,Z,_,_,Z,Z,_,Z;refine YX (λc1=>?_) (λc1=>?_)
  ·let r0:0<r:=by
    have:=of_decide_eq_true c1;lia
   exists _,Z,a,vs,Z,.inr (Zd.of ea),_,_,Z,Z,_,Z;rw[aK (aI (show ((vs.length:Nat):Int)<=4 by lia))]
   exists _,Z,a,Z,⟨vs,Zd.of ea⟩;refine Wa (n:=vs.length) (λi z=>vs[i]? = some z) (λD i ys H3=>ZC H H3/\H D=none/\ys=((l.take i).map λt=>t.fits (r-1)).map V.bl) (YF (by lia))
    (λD i ys H3 hi hP=>⟨vs,vs[i],Zd.of (hP.1 _ _ ea),by simp[hi]⟩) (λD i ys H3 z H4 hi hP hy=>⟨hy.1,hy.2 vs (Zd.of (hP.1 _ _ ea))⟩) (λD ys H3 hP=>⟨vs,Zd.of (hP.1 _ _ ea),zX _⟩)
    (λD hD=>⟨Zq hD _,hD,Z⟩) (λD i ys H3 z eD hl' hi hz hP R hR=>?_) (λD ys H3 eD hP=>?_)
   ·let⟨s3,nD,rfl⟩:=hP;let⟨t,et,kt⟩:=hvs.get hz;let er:(r:Int)-1=((r-1:Nat):Int):=by lia
    let htq:t.fits (q-1)=true:=by
     rw[Q1] at hq2;exact zE.mp hq2 t (zG et)
    refine⟨_,Z,_,Z,_,_,Z,Z,z,t,r-1,q-1,congrArg (λy=>[z,V.int y]) er,kt.mono (ZC.tups s3) _ _,htq,by lia,λH4 s4=>?_⟩
    refine hR _ H4 (s4 D _ eD) ⟨λb o e=>by rw[ZY (Ze e nD)];exact s4 b o (s3 b o e),nD,?_⟩
    rw[yW,et];simp
   ·let⟨s3,nD,rfl⟩:=hP;exists D,_,Z,ZI.of eD;let kk:=k H3 s3;rw[KT.fits,aI r0,vA,hq1,vA,Q1] at kk;let et:l.take vs.length=l:=yS (by lia)
    rw[et,uL];exact kk
  ·let r0:r=0:=by
    have:¬ ((0:Int)<(r:Int)):=λz=>c1 (aI z);lia
   subst r0;let kk:=k H (ZC.refl H);rw[KT.fits] at kk;exact kk
def Az:ZB zE6 zE6 (Zl JL):=⟨Z,Z,Z,by decide +kernel,Z,by decide +kernel,by decide +kernel⟩
def ZLW(F:Zo K "is_key" "is_key" JL f fd)(T:Txt mg)(DF:ZA P w K mg kT 5 "fits" zEy (Xh 4)):ZK P w K mg kT ZV 6 f fd zE6 VM:=by
 refine F.ok Az (λvs H Q E h=>?_) (λcdv A outer s H vs Q E hr h=>?_)
 ·let⟨v,t,q,rfl,_⟩:=h;rfl
 let⟨v,t,q,rfl,hv,hq,k⟩:=h;let⟨t1,m1⟩:=T.deep;exists _,ZP (Zk (Zc DF hr (ZN (pv 0) (ZN (WE (v:=.int 3) rfl m1 ⟨_,rfl⟩) ZD))));exact⟨_,Z,v,t,3,q,Z,hv,hq,by decide,k⟩
def GJ(T:Txt mg)(L:ZX K mg "fits" LZ zEy)(DW:ZA P w K mg kT 1 "has_few_figures" zFd UV)(DS:ZA P w K mg kT 1 "is_sign" zEx VN):∀ n:Nat,ZA P w K mg kT (n+1) "fits" zEy (Xh n)
 | 0=>L.of λ_ _ _=>B9
 | n+1=>L.of λ_ _ F=>Ad F T DW DS (GJ T L DW DS n)
inductive V5(n:Nat)(vs:jh)(H:Hp)(Q:VK)(_:XK):Prop
 |mk(v:V)(t:KT)(q:Nat)(_:vs=[v])(_:ZE H t v)(_:t.fits q=true)(_:t.depth<n)(_:∀(v':V)(H':Hp),ZE H' t.st v'->ZC H H'->Q v' H')
inductive X6(vs:jh)(H:Hp)(Q:VK)(_:XK):Prop
 |mk(v u:V)(a b:KT)(_:vs=[v,u])(_:ZE H a v)(_:ZE H b u)(_:a.fits 3=true)(_:b.fits 3=true)(_:∀ H',ZC H H'->Q (.bl (a.lt b)) H')
def C5:ZB zFe zFe (Zl LP):=⟨Z,Z,Z,by decide +kernel,Z,by decide +kernel,by decide +kernel⟩
def ZNb{k:Nat}:ZK P w K mg kT ZV k f fd zFe (V5 0):=by
 let no:∀ vs H Q E,¬ V5 0 vs H Q E:=λvs H Q E h=>by
  let⟨v,t,q,_,_,_,h1,_⟩:=h;lia
 exact⟨λvs H Q E h=>absurd h (no vs H Q E),λA outer s H args us vs Q E _ _ _ _ h=>absurd h (no vs H Q E)⟩
def ZGU{n:Nat}(F:Zo K "standing" "standing" LP f fd)(T:Txt mg)(DS:ZA P w K mg kT (n+1) "standing" zFe (V5 n)):ZK P w K mg kT ZV (n+2) f fd zFe (V5 (n+1)):=by
 refine F.ok C5 (λvs H Q E h=>?_) (λcdv A outer s H vs Q E hr h=>?_)
 ·let⟨v,t,q,rfl,_⟩:=h;rfl
 let⟨v,t,q,rfl,hv,hq,hn,k⟩:=h;refine⟨_,ZO (Zt (XD (Zv W0 rfl T.isi WS (ZN (pv 0) (ZN (Wt (v:=.ty "int") rfl T.int Od rfl) ZD)))) (ZP (Zk (XR (ZN ZL (ZN (pv 0) ZD))))) Zw)
  (ZO (Zt (XD (Zv W0 rfl T.isi WS (ZN (pv 0) (ZN (Wt (v:=.ty "str") rfl T.str QO rfl) ZD)))) (ZP (Zk (XR (ZN ZL (ZN (pv 0) ZD))))) Zw)
  (ZP (Zk (XR (ZN ZL (ZN (Ws Ou rfl T.tuple QK (ZN (Wx [] [] rfl (LO (pv 0)) (λ_ _ _ _ _=>Wj) (λ_ _ _ _ _=>Zc DS hr (ZN (pv 0) ZD)) trivial) ZD)) ZD)))))),?_⟩
 cases t with
 | int i=>
  let ev:v=.int i:=by rw[ZE] at hv;exact hv
  subst ev;refine⟨_,Z,_,_,_,_,Z,hv.ty,KN,_,Z,Z7 ?_⟩;refine⟨_,Z,(by show 2<=ar;decide),λp hp=>?_⟩
  refine k _ _ ?_ (Zq hp _);rw[KT.st];exact .tup ZZ (.cons (.int 0) (.cons (.int i) .nil))
 | str x=>
  let ev:v=.str x:=by rw[ZE] at hv;exact hv
  subst ev;refine⟨_,Z,_,_,_,_,Z,hv.ty,JK,_,Z,Zn ?_⟩;refine⟨_,Z,_,_,_,_,Z,hv.ty,OH,_,Z,Z7 ?_⟩;refine⟨_,Z,(by show 2<=ar;decide),λp hp=>?_⟩
  refine k _ _ ?_ (Zq hp _);rw[KT.st];exact .tup ZZ (.cons (.int 1) (.cons (.str x) .nil))
 | tup l=>
  let hv':=hv;rw[ZE] at hv';let⟨a,vs,rfl,ea,hvs⟩:=hv';let hl:=hvs.length;rw[KT.fits,zP,zP] at hq;let⟨hq0,hq1,hq2⟩:=hq;let hl4:l.length<=4:=of_decide_eq_true hq1;rw[KT.depth] at hn;refine⟨_,Z,_,_,_,_,Z,hv.ty,IC,_,Z,Zn ?_⟩;refine⟨_,Z,_,_,_,_,Z,hv.ty,MN,_,Z,Zn ?_⟩;exists _,Z,a,Z,⟨vs,Zd.of ea⟩;refine Wa (n:=vs.length) (λi z=>vs[i]? = some z) (λD i ys H3=>ZC H H3/\H D=none/\kK H3 ((l.take i).map KT.st) ys) (YF (by lia))
   (λD i ys H3 hi hP=>⟨vs,vs[i],Zd.of (hP.1 _ _ ea),by simp[hi]⟩) (λD i ys H3 z H4 hi hP hy=>⟨hy.1,hy.2 vs (Zd.of (hP.1 _ _ ea))⟩) (λD ys H3 hP=>⟨vs,Zd.of (hP.1 _ _ ea),zX _⟩)
   (λD hD=>⟨Zq hD _,hD,.nil⟩) (λD i ys H3 z eD hl' hi hz hP R hR=>?_) (λD ys H3 eD hP=>?_)
  ·let⟨s3,nD,hys⟩:=hP;let⟨t,et,kt⟩:=hvs.get hz;let mt:=zG et;let htq:t.fits (q-1)=true:=by
    rw[Q1] at hq2;exact zE.mp hq2 t mt
   let hdt:=OW mt;refine⟨_,Z,z,t,q-1,Z,kt.mono (ZC.tups s3) _ _,htq,by lia,λv' H4 k4 s4=>?_⟩
   let eD4:=s4 D _ eD;let tD:YD H4 (upd H4 D (.lst (ys++[v']))):=(ZG.refl D H4).upd.tups eD4;refine hR v' H4 eD4 ⟨λb o e=>by rw[ZY (Ze e nD)];exact s4 b o (s3 b o e),nD,?_⟩
   rw[yW,et,yZ];exact((hys.mono (ZC.tups s4) _ _).append (.cons k4 .nil)).mono tD _ _
  ·let⟨s3,nD,hys⟩:=hP;let et:l.take vs.length=l:=yS (by lia)
   rw[et] at hys;let hyl:=hys.length;rw[zY] at hyl;refine⟨D,ys,Z,.inl ⟨ZI.of eD,λp1 hp1=>?_⟩⟩;let g1:=Zq hp1 (.tup ys);refine⟨(by show 2<=ar;decide),λp2 hp2=>?_⟩
   let g2:=Zq hp2 (.tup [.int 2,.ref p1]);refine k _ _ ?_ ((s3.trans g1).trans g2);rw[KT.st,Ff];exact .tup ZZ (.cons (.int 2) (.cons (.tup (g2 _ _ ZZ) (hys.mono (ZC.tups (g1.trans g2)) _ _)) .nil))
def Fz(T:Txt mg)(L:ZX K mg "standing" LP zFe):∀ n:Nat,ZA P w K mg kT (n+1) "standing" zFe (V5 n)
 | 0=>L.of λ_ _ _=>ZNb
 | n+1=>L.of λ_ _ F=>ZGU F T (Fz T L n)
def BK:ZB zE7 zE7 (Zl Kx):=⟨Z,Z,Z,by decide +kernel,Z,by decide +kernel,by decide +kernel⟩
def Al(F:Zo K "ahead" "ahead" Kx f fd)(DS:ZA P w K mg kT 6 "standing" zFe (V5 5)):ZK P w K mg kT ZV 7 f fd zE7 X6:=by
 refine F.ok BK (λvs H Q E h=>?_) (λcdv A outer s H vs Q E hr h=>?_)
 ·let⟨v,u,a,b,rfl,_⟩:=h;rfl
 let⟨v,u,a,b,rfl,ha,hb,fa,fb,k⟩:=h;exists _,ZP (Zk (VY (Hy hr) (Zc DS hr (ZN (pv 0) ZD)) (Zc DS hr (ZN (pv 1) ZD)) (Zu _)));let da:=Uj a 3 fa;let db:=Uj b 3 fb;let ds:=EA a;refine⟨_,Z,v,a,3,Z,ha,fa,by lia,λv1 H1 k1 s1=>?_⟩
 refine⟨_,Z,u,b,3,Z,hb.mono (ZC.tups s1) _ _,fb,by lia,λv2 H2 k2 s2=>?_⟩
 exists a.st,b.st,k1.mono (ZC.tups s2) _ _,k2,Hw a b,by lia
 rw[GZ];exact k H2 (s1.trans s2)
mutual
def KT.wide:KT->Nat->Bool
 | .int _,_=>true
 | .str _,_=>true
 | .tup l,r=>decide (0<r)&&(decide (l.length<=400)&&wideL l (r-1))
def wideL:jM->Nat->Bool
 | [],_=>true
 | t::l,r=>t.wide r&&wideL l r
end
def KA:∀(l:jM)(r:Nat),wideL l r=l.all (·.wide r)
 | [],r=>by rw[wideL];rfl
 | t::l,r=>by rw[wideL,KA l r];rfl
mutual
def KW:∀(t:KT)(r:Nat),t.fits r=true->t.wide r=true
 | .int _,_,_=>by rw[KT.wide]
 | .str _,_,_=>by rw[KT.wide]
 | .tup l,r,h=>by
  rw[KT.fits,zP,zP] at h;rw[KT.wide,zP,zP];have:=of_decide_eq_true h.2.1;exact⟨h.1,aI (by lia),wideL_of l (r-1) h.2.2⟩
def wideL_of:∀(l:jM)(r:Nat),fitsL l r=true->wideL l r=true
 | [],_,_=>by rw[wideL]
 | t::l,r,h=>by
  rw[fitsL,zP] at h;rw[wideL,zP];exact⟨KW t r h.1,wideL_of l r h.2⟩
end
def O6{sp:Sp}{k:Nat}{ps:jP}(no:∀ vs H Q E,¬ sp vs H Q E):ZK P w K mg kT ZV k f fd ps sp:=
 ⟨λvs H Q E h=>absurd h (no vs H Q E),λA outer s H args us vs Q E _ _ _ _ h=>absurd h (no vs H Q E)⟩
def ZNO:ZB zEe zEe (Zl LL):=⟨Z,Z,Z,by decide +kernel,Z,by decide +kernel,by decide +kernel⟩
mutual
def KT.rk:KT->KT
 | .int i=>.tup [.int 0,.int i,.str "",.tup []]
 | .str x=>.tup [.int 1,.int 0,.str x,.tup []]
 | .tup l=>.tup [.int 2,.int 0,.str "",.tup (rkL l)]
def rkL:jM->jM
 | []=>[]
 | t::l=>t.rk::rkL l
end
def Fy:∀ l:jM,rkL l=l.map KT.rk
 | []=>by rw[rkL];rfl
 | t::l=>by rw[rkL,Fy l];rfl
mutual
def GI:∀ a b:KT,a.rk.eqb b.rk=a.eqb b
 | .int i,.int j=>by simp[KT.rk,KT.eqb,kM]
 | .str x,.str y=>by simp[KT.rk,KT.eqb,kM]
 | .tup l,.tup m=>by simp[KT.rk,KT.eqb,kM,eqbL_rk l m]
 | .int _,.str _=>by simp[KT.rk,KT.eqb,kM]
 | .int _,.tup _=>by simp[KT.rk,KT.eqb,kM]
 | .str _,.int _=>by simp[KT.rk,KT.eqb,kM]
 | .str _,.tup _=>by simp[KT.rk,KT.eqb,kM]
 | .tup _,.int _=>by simp[KT.rk,KT.eqb,kM]
 | .tup _,.str _=>by simp[KT.rk,KT.eqb,kM]
def eqbL_rk:∀ l m:jM,kM (rkL l) (rkL m)=kM l m
 | [],[]=>by simp[rkL,kM]
 | a::l,b::m=>by simp[rkL,kM,GI a b,eqbL_rk l m]
 | [],_::_=>by simp[rkL,kM]
 | _::_,[]=>by simp[rkL,kM]
end
mutual
def Mx:∀ a b:KT,a.rk.cmp b.rk=true
 | .int i,.int j=>by simp[KT.rk,KT.eqb,KT.cmp,cmpL,kM]
 | .str x,.str y=>by simp[KT.rk,KT.eqb,KT.cmp,cmpL,kM]
 | .tup l,.tup m=>by simp[KT.rk,KT.eqb,KT.cmp,cmpL,cmpL_rk l m]
 | .int _,.str _=>by simp[KT.rk,KT.eqb,KT.cmp,cmpL]
 | .int _,.tup _=>by simp[KT.rk,KT.eqb,KT.cmp,cmpL]
 | .str _,.int _=>by simp[KT.rk,KT.eqb,KT.cmp,cmpL]
 | .str _,.tup _=>by simp[KT.rk,KT.eqb,KT.cmp,cmpL]
 | .tup _,.int _=>by simp[KT.rk,KT.eqb,KT.cmp,cmpL]
 | .tup _,.str _=>by simp[KT.rk,KT.eqb,KT.cmp,cmpL]
def cmpL_rk:∀ l m:jM,cmpL (rkL l) (rkL m)=true
 | [],_=>by simp[rkL,cmpL]
 | _::_,[]=>by simp[rkL,cmpL]
 | a::l,b::m=>by
  rw[rkL,rkL,cmpL,cmpL_rk l m,Mx a b];split <;> rfl
end
mutual
def Ki:∀ a b:KT,a.rk.plt b.rk=a.lt b
 | .int i,.int j=>by
  simp only[KT.rk,KT.eqb,KT.plt,pltL,kM,KT.lt,beq_self_eq_true,if_true];by_cases h:i=j
  ·subst h;simp
  ·simp[h]
 | .str x,.str y=>by
  simp only[KT.rk,KT.eqb,KT.plt,pltL,kM,KT.lt,beq_self_eq_true,if_true];by_cases h:x=y
  ·subst h;simp
  ·simp[h]
 | .tup l,.tup m=>by
  simp only[KT.rk,KT.eqb,KT.plt,pltL,KT.lt,beq_self_eq_true,if_true,eqbL_rk,pltL_rk l m]
  cases h:kM l m with
  | true=>rw[aK rfl,G0 h]
  | false=>rw[aJ zS]
 | .int _,.str _=>by simp[KT.rk,KT.eqb,KT.plt,pltL,KT.lt]
 | .int _,.tup _=>by simp[KT.rk,KT.eqb,KT.plt,pltL,KT.lt]
 | .str _,.int _=>by simp[KT.rk,KT.eqb,KT.plt,pltL,KT.lt]
 | .str _,.tup _=>by simp[KT.rk,KT.eqb,KT.plt,pltL,KT.lt]
 | .tup _,.int _=>by simp[KT.rk,KT.eqb,KT.plt,pltL,KT.lt]
 | .tup _,.str _=>by simp[KT.rk,KT.eqb,KT.plt,pltL,KT.lt]
def pltL_rk:∀ l m:jM,pltL (rkL l) (rkL m)=ltL l m
 | [],[]=>by simp[rkL,pltL,ltL]
 | [],_::_=>by simp[rkL,pltL,ltL]
 | _::_,[]=>by simp[rkL,pltL,ltL]
 | a::l,b::m=>by rw[rkL,rkL,pltL,ltL,GI a b,pltL_rk l m,Ki a b]
end
mutual
def NZ:∀ t:KT,t.rk.depth<=2 * t.depth+2
 | .int i=>by simp[KT.rk,KT.depth,kN]
 | .str x=>by simp[KT.rk,KT.depth,kN]
 | .tup l=>by
  have:=depthL_rk l;simp only[KT.rk,KT.depth,kN];lia
def depthL_rk:∀ l:jM,kN (rkL l)<=2 * kN l+2
 | []=>by simp[rkL,kN]
 | t::l=>by
  let a:=NZ t;let b:=depthL_rk l;rw[rkL,kN,kN];lia
end
inductive Yz(n:Nat)(vs:jh)(H:Hp)(Q:VK)(_:XK):Prop
 |mk(v:V)(t:KT)(q:Nat)(_:vs=[v])(_:ZE H t v)(_:t.fits q=true)(_:t.depth<n)(_:∀(v':V)(H':Hp),ZE H' t.rk v'->ZC H H'->Q v' H')
def ZO1:ZB zEl zEl (Zl Mu):=⟨Z,Z,Z,by decide +kernel,Z,by decide +kernel,by decide +kernel⟩
def C7{n:Nat}(F:Zo K "_law_rank" "_law_rank" Mu f fd)(T:Txt mg)(DS:ZA P w K mg kT (n+1) "_law_rank" zEl (Yz n)):ZK P w K mg kT ZV (n+2) f fd zEl (Yz (n+1)):=by
 refine F.ok ZO1 (λvs H Q E h=>(by let⟨_,_,_,rfl,_⟩:=h;rfl)) (λcdv A outer s H vs Q E hr h=>?_)
 let⟨v,t,q,rfl,hv,hq,hn,k⟩:=h;refine⟨_,ZO (Zt (XD (Zv W0 rfl T.isi WS (ZF (pv 0) (ZF (Wt (v:=.ty "int") rfl T.int Od rfl) ZD)))) (ZP (Zk (XR (Nj ZL (pv 0) YB (XR ZD))))) Zw)
  (ZO (Zt (XD (Zv W0 rfl T.isi WS (ZF (pv 0) (ZF (Wt (v:=.ty "str") rfl T.str QO rfl) ZD)))) (ZP (Zk (XR (Nj ZL ZL (pv 0) (XR ZD))))) Zw)
  (ZP (Zk (XR (Nj ZL ZL YB (Ws Ou rfl T.tuple QK (ZF (Wx [] [] rfl (LO (pv 0)) (λ_ _ _ _ _=>Wj) (λ_ _ _ _ _=>Zc DS hr (ZF (pv 0) ZD)) trivial) ZD))))))),?_⟩
 cases t with
 | int i=>
  let ev:v=.int i:=by rw[ZE] at hv;exact hv
  subst ev;refine⟨_,Z,_,_,_,_,Z,hv.ty,KN,_,Z,Z7 ?_⟩;refine⟨_,Z,(by show 0<=ar;decide),λp0 h0=>⟨(by show 4<=ar;decide),λp hp=>?_⟩⟩
  let g0:=Zq h0 (.tup []);let g1:=Zq hp (.tup [.int 0,.int i,.str "",.ref p0]);refine k _ _ ?_ (g0.trans g1);rw[KT.rk];exact .tup ZZ (.cons (.int 0) (.cons (.int i) (.cons (.str _) (.cons (.tup (g1 _ _ ZZ) .nil) .nil))))
 | str x=>
  let ev:v=.str x:=by rw[ZE] at hv;exact hv
  subst ev;refine⟨_,Z,_,_,_,_,Z,hv.ty,JK,_,Z,Zn ?_⟩;refine⟨_,Z,_,_,_,_,Z,hv.ty,OH,_,Z,Z7 ?_⟩;refine⟨_,Z,(by show 0<=ar;decide),λp0 h0=>⟨(by show 4<=ar;decide),λp hp=>?_⟩⟩
  let g0:=Zq h0 (.tup []);let g1:=Zq hp (.tup [.int 1,.int 0,.str x,.ref p0]);refine k _ _ ?_ (g0.trans g1);rw[KT.rk];exact .tup ZZ (.cons (.int 1) (.cons (.int 0) (.cons (.str x) (.cons (.tup (g1 _ _ ZZ) .nil) .nil))))
 | tup l=>
  let hv':=hv;rw[ZE] at hv';let⟨a,vs,rfl,ea,hvs⟩:=hv';let hl:=hvs.length;rw[KT.fits,zP,zP] at hq;let⟨hq0,hq1,hq2⟩:=hq;let hl4:l.length<=4:=of_decide_eq_true hq1;rw[KT.depth] at hn;refine⟨_,Z,_,_,_,_,Z,hv.ty,IC,_,Z,Zn ?_⟩;refine⟨_,Z,_,_,_,_,Z,hv.ty,MN,_,Z,Zn ?_⟩;exists _,Z,a,Z,⟨vs,Zd.of ea⟩;refine Wa (n:=vs.length) (λi z=>vs[i]? = some z) (λD i ys H3=>ZC H H3/\H D=none/\kK H3 ((l.take i).map KT.rk) ys) (YF (by lia))
   (λD i ys H3 hi hP=>⟨vs,vs[i],Zd.of (hP.1 _ _ ea),by simp[hi]⟩) (λD i ys H3 z H4 hi hP hy=>⟨hy.1,hy.2 vs (Zd.of (hP.1 _ _ ea))⟩) (λD ys H3 hP=>⟨vs,Zd.of (hP.1 _ _ ea),zX _⟩)
   (λD hD=>⟨Zq hD _,hD,.nil⟩) (λD i ys H3 z eD hl' hi hz hP R hR=>?_) (λD ys H3 eD hP=>?_)
  ·let⟨s3,nD,hys⟩:=hP;let⟨t,et,kt⟩:=hvs.get hz;let mt:=zG et;let htq:t.fits (q-1)=true:=by
    rw[Q1] at hq2;exact zE.mp hq2 t mt
   let hdt:=OW mt;refine⟨_,Z,z,t,q-1,Z,kt.mono (ZC.tups s3) _ _,htq,by lia,λv' H4 k4 s4=>?_⟩
   let eD4:=s4 D _ eD;let tD:YD H4 (upd H4 D (.lst (ys++[v']))):=(ZG.refl D H4).upd.tups eD4;refine hR v' H4 eD4 ⟨λb o e=>by rw[ZY (Ze e nD)];exact s4 b o (s3 b o e),nD,?_⟩
   rw[yW,et,yZ];exact((hys.mono (ZC.tups s4) _ _).append (.cons k4 .nil)).mono tD _ _
  ·let⟨s3,nD,hys⟩:=hP;let et:l.take vs.length=l:=yS (by lia)
   rw[et] at hys;let hyl:=hys.length;rw[zY] at hyl;refine⟨D,ys,Z,.inl ⟨ZI.of eD,λp1 hp1=>?_⟩⟩;let g1:=Zq hp1 (.tup ys);refine⟨(by show 4<=ar;decide),λp2 hp2=>?_⟩
   let g2:=Zq hp2 (.tup [.int 2,.int 0,.str "",.ref p1]);refine k _ _ ?_ ((s3.trans g1).trans g2);rw[KT.rk,Fy];exact .tup ZZ (.cons (.int 2) (.cons (.int 0) (.cons (.str _) (.cons (.tup (g2 _ _ ZZ) (hys.mono (ZC.tups (g1.trans g2)) _ _)) .nil))))
def Ku(T:Txt mg)(L:ZX K mg "_law_rank" Mu zEl):∀ n:Nat,ZA P w K mg kT (n+1) "_law_rank" zEl (Yz n)
 | 0=>L.of λ_ _ _=>O6 λvs H Q E h=>by let⟨v,t,q,_,_,_,h1,_⟩:=h;lia
 | n+1=>L.of λ_ _ F=>C7 F T (Ku T L n)
end _T
namespace _T
open PySem PySem.Spec L2 PyProof.Rows
variable{kP kQ CS CT CH CK CP CB:aj}
def ZQH:Kg KT.rk:=⟨Ki,Mx,3,λt=>by cases t <;> (rw[KT.rk];exact⟨_,_,Z,Z⟩)⟩
def P5(ts:jM):Prop:=ts.Pairwise λa b=>a.lt b=true
def A1{rs:jM}(nd:rs.Nodup)(h:rs.Pairwise λa b=>b.lt a=false):P5 rs:=by
 induction rs with
 | nil=>exact .nil
 | cons a rs ih=>
  rw[xO] at nd;rw[vQ] at h;refine vQ.mpr ⟨λb hb=>?_,ih nd.2 h.2⟩
  cases q:a.lt b with
  | true=>rfl
  | false=>
   let e:=Iu a b q (h.1 b hb);exact absurd (e ▸ hb) nd.1
def B6{k:Nat}{A:ay}(r:Zf k A):A.units+4<cLine:=by have:=r.un;lia
def ZM5{p D:aj}{H H':Hp}(s:ZG p H H')(w:ZS H' p)(n:H' D=none):H D=none:=by
 cases e:H D with
 | none=>rfl
 | some o=>
  by_cases h:D=p
  ·subst h;let⟨xs,e'⟩:=w.some;rw[n] at e';cases e'
  ·rw[s D o e h] at n;cases n
inductive V4(vs:jh)(H:Hp)(Q:VK)(_:XK):Prop
 |mk(p:aj)(n:Nat)(_:vs=[.ref p,.int (n:Int)])(_:ZS H p)(_:n<400)(_:∀(D:aj)(ws:jh)(ts:jM)(H':Hp),H D=none->H' D=some (.lst ws)->kK H' ts ws->(∀ t∈ts,t.fits 3=true)->P5 ts->ts.length<=n->(0<n->0<ts.length)->ZS H' p->ZG p H H'->Q (.ref D) H')
def U7:ZB ["_law_well_here","_law_many","_law_found","_law_j"] zEd (Zl J5):=⟨Z,Z,Z,by decide +kernel,Z,by decide +kernel,by decide +kernel⟩
def ZNp(F:Zo K "_law_keys" "_law_keys" J5 f fd)(T:Txt mg)(DK:ZA P w K mg kT 6 "_law_key" zEh (Xp 4))(DR:ZA P w K mg kT 6 "_law_rank" zEl (Yz 5)):
  ZK P w K mg kT ZV 9 f fd zEd V4:=by
 refine F.ok U7 (λvs H Q E h=>(by let⟨_,_,rfl,_⟩:=h;rfl)) (λcdv A outer s H vs Q E hr h=>?_)
 let⟨p,n,rfl,hw,hn,k⟩:=h;let nd:=U7.nd;let hr6:=hr.mono (show 6<=8 by lia)
 let DS:ZA P w K mg kT 6 "_law_rank" zEl (OF KT.rk):=by
  let⟨g,gd,FG,b,kp,m⟩:=DR.ex;exact⟨g,gd,FG.imp λvs H Q E h=>by
   let⟨v,t,e,a,c,d⟩:=h;have:=Uj t 3 c;exact⟨v,t,3,e,a,c,by lia,d⟩,b,kp,m⟩
 refine⟨_,ZO (Zr (i:=2) nd rfl (Or.inl rfl) ZOb)
  (ZO (Xi PassesOwn.never rfl (UW rfl T.range (ZF (pv 1) ZD)) (XB (i:=3) nd rfl (Or.inl rfl))
   (ZP (ZNB (B6 hr) (pv 2) (Zc DK hr6 (ZF (pv 0) (ZF ZL ZD))) Pi rfl)))
  (ZP (Zk (ZLN ZQH NZ DS hr rfl T.sorted rfl (ZF (pv 2) ZD))))),?_⟩
 intro fa H1 nfa _ s1 dk1;let⟨xsw,hxw⟩:=hw.some;let hpf:p≠fa:=Ze hxw nfa;refine⟨_,Z,(n:Int),Z,by lia,by lia,Ql (n:=(n:Int).toNat) (λi σ H'=>∃(xs:List (KT×V×V))(o:ji),σ=[some (.ref p),some (.int (n:Int)),some (.ref fa),o]/\Xb w H' fa xs/\xs.length<=i/\(0<i->0<xs.length)/\(∀ x∈xs,x.1.fits 3=true)/\ZS H' p/\ZG p H H')
  ⟨[],none,Z,dk1,zX _,λz=>absurd z (xP 0),λx hx=>by simp at hx,hw.same s1,ZG.of s1⟩ (λi σ H' hi hP=>?_) (λσ H' hP=>?_)⟩
 ·let⟨xs,o,rfl,dk,lx,px,fx,hw',sx⟩:=hP;refine⟨_,Z,_,Z,p,3,Z,hw',by lia,λv t H3 kv ft hw3 sx3=>?_⟩
  let tu:=sx3.tupsW hw';refine⟨fa,xs,t,Z,dk.but sx3 tu (Ne.symm hpf),by lia,kv,Uj t 3 ft,λH4 sx4 dk4=>⟨_,_,Z,dk4,by have:=ZL1 xs t v (.bl true);lia,λ_=>?_,λx hx=>?_,hw3.stay sx4 hpf,λb ob e nb=>?_⟩⟩
  ·have:=congrArg xC (Lc xs t v (.bl true));rw[zY] at this;rw[this];split
   ·next y=>rw[zY];exact xJ.mpr λz=>by rw[z] at y;exact zS y
   ·rw[zT];exact Nat.succ_pos _
  ·have:x.1∈(Qb xs t v (.bl true)).map (·.1):=List.mem_map_of_mem hx;rw[Lc] at this;split at this
   ·let⟨z,hz,e⟩:=yR.mp this;rw[<-e];exact fx z hz
   ·rcases yU.mp this with q | q
    ·let⟨z,hz,e⟩:=yR.mp q;rw[<-e];exact fx z hz
    ·rw[zN.mp q];exact ft
  ·exact sx4 b ob (sx3 b ob (sx b ob e nb) nb) (Ze e nfa)
 ·let⟨xs,o,rfl,dk,lx,px,fx,hw',sx⟩:=hP;refine⟨_,Z,fa,xs,Z,dk,fx,by lia,λD ws rs H5 s5 nD hD ka pm pw=>?_⟩
  let lr:=pm.length_eq;rw[zY] at lr;refine k D ws rs H5 (ZM5 sx hw' nD) hD ka (λt ht=>?_) (A1 (pm.nodup_iff.mpr dk.nd) pw) (by lia) (λz=>by rw[show ((n:Int).toNat)=n from rfl] at px;have:=px z;lia) (hw'.same s5) (sx.trans (ZG.of s5))
  let⟨z,hz,e⟩:=yR.mp (pm.mem_iff.mp ht);rw[<-e];exact fx z hz
section
open PySem.SeqAt
open PySem.AutoSeq1 (wpAny_loadPart')
open PySem.MeetsSeq PySem.MeetsSeq2 PySem.MeetsSeq3
end
inductive Ys(n:Nat)(vs:jh)(H:Hp)(Q:VK)(_:XK):Prop
 |mk(v u:V)(t:KT)(r:Nat)(_:vs=[v,u])(_:ZE H t v)(_:ZE H t u)(_:t.wide r=true)(_:r<n)(_:∀ H',ZC H H'->Q (.bl true) H')
def ZKD{n:Nat}(F:Zo K "_law_alike" "_law_alike" LL f fd)(T:Txt mg)(DA:ZA P w K mg kT (n+1) "_law_alike" zEe (Ys n)):
  ZK P w K mg kT ZV (n+2) f fd zEe (Ys (n+1)):=by
 refine F.ok ZNO (λvs H Q E h=>?_) (λcdv A outer s H vs Q E hr h=>?_)
 ·let⟨v,u,t,r,rfl,_⟩:=h;rfl
 let⟨v,u,t,r,rfl,hv,hu,hf,hn,k⟩:=h;refine⟨_,ZO (Zt (XD (Zv W0 rfl T.isi WS (ZN (pv 1) (ZN (Wt (v:=.ty "tuple") rfl T.tuple QK rfl) ZD))))
   (ZO (Zt (PW.pt (Vo (VW (XD (Zv W0 rfl T.isi WS (ZN (pv 0) (ZN (Wt (v:=.ty "tuple") rfl T.tuple QK rfl) ZD)))))
    (UN (Z3 Vs (Zv Yk rfl T.len YU (ZN (pv 0) ZD)) (Zv Yk rfl T.len YU (ZN (pv 1) ZD)) (Zu _))))) (ZP (Zk Pi)) Zw)
   (ZP (Zk (Zv (Mh rfl) rfl T.all Ln (ZN (Wx [0,1] zEe rfl (UW rfl T.range (ZN (Zv Yk rfl T.len YU (ZN (pv 1) ZD)) ZD)) (λ_ _ _ _ _=>Wj)
    (λ_ _ _ _ _=>Zc DA hr (ZN (Za (r:=YE K) YH (pv 1) (pv 0) (λ_ _=>rfl)) (ZN (Za (r:=YE K) YH (pv 2) (pv 0) (λ_ _=>rfl)) ZD))) ⟨rfl,.inl rfl,rfl,rfl,.inl rfl,rfl,trivial⟩) ZD))))) Zw)
  (ZO (Zt (XD (Zv W0 rfl T.isi WS (ZN (pv 1) (ZN (Wt (v:=.ty "str") rfl T.str QO rfl) ZD))))
   (ZP (Zk (QX (Zv W0 rfl T.isi WS (ZN (pv 0) (ZN (Wt (v:=.ty "str") rfl T.str QO rfl) ZD))) (U4 (VY XE (pv 0) (pv 1) (Zu _)))))) Zw)
  (ZP (Zk (QX (Zv W0 rfl T.isi WS (ZN (pv 0) (ZN (Wt (v:=.ty "int") rfl T.int Od rfl) ZD)))
   (QX (ZO9 (Zv W0 rfl T.isi WS (ZN (pv 0) (ZN (Wt (v:=.ty "bool") rfl T.bool Hf rfl) ZD)))) (U4 (VY XE (pv 0) (pv 1) (Zu _)))))))),?_⟩
 let kk:=k H (ZC.refl H)
 cases t with
 | int j=>
  rw[ZE] at hu hv;subst hu;subst hv;refine⟨_,Z,_,_,_,_,Z,.int j,Ek,_,Z,Zn ?_⟩;refine⟨_,Z,_,_,_,_,Z,.int j,kit_is',_,Z,Zn ?_⟩;refine⟨_,Z,_,_,_,_,Z,.int j,KN,_,Z,Z7 ?_⟩;refine⟨_,Z,_,_,_,_,Z,.int j,Hj,_,Z,_,Z,Z7 ?_⟩;exists _,Z,_,Z,Z;rw[aI rfl];exact kk
 | str y=>
  rw[ZE] at hu hv;subst hu;subst hv;refine⟨_,Z,_,_,_,_,Z,.str y,ZP0,_,Z,Zn ?_⟩;refine⟨_,Z,_,_,_,_,Z,.str y,OH,_,Z,Z7 ?_⟩;refine⟨_,Z,_,_,_,_,Z,.str y,OH,_,Z,Z7 ?_⟩;exists _,Z,_,Z,Z;rw[aI rfl];exact kk
 | tup m=>
  let tu:=hu.ty (K:=K);let tv:=hv.ty (K:=K);rw[ZE] at hu hv;let⟨b,us,rfl,eb,hus⟩:=hu;let⟨a,vs,rfl,ea,hvs⟩:=hv;let hl2:=hus.length;let hl:=hvs.length;rw[KT.wide,zP,zP] at hf;let⟨f0,f1,f2⟩:=hf;let r0:=of_decide_eq_true f0;let l4:=of_decide_eq_true f1;refine⟨_,Z,_,_,_,_,Z,tu,N0,_,Z,Z7 ?_⟩;refine⟨_,Z,_,_,_,_,Z,tv,N0,_,Z,Zn ?_⟩;exists _,Z,a,vs,Z,.inr (Zd.of ea),_,Z,b,us,Z,.inr (Zd.of eb),Z,_,Z;refine ZQg (by rw[<-hl,hl2]) ?_
  exists _,Z,b,us,Z,.inr (Zd.of eb),_,Z,by lia,by lia
  rw[vL];refine Wa (n:=us.length) (λi x=>x=.int (0+(i:Int))) (λD i ys H3=>ZC H H3/\H D=none/\ys=(xI i true).map V.bl) (YF (by lia))
   (λD i ys H3 hi _=>hi) (λD i ys H3 x H4 hi _ hy=>hy) (λD ys H3 _=>zX _) (λD hD=>⟨Zq hD _,hD,Z⟩) (λD i ys H3 x eD hl' hi hx hP R hR=>?_) (λD ys H3 eD hP=>?_)
  ·subst hx;let⟨s3,nD,rfl⟩:=hP;let hi':i<vs.length:=by lia
   let hiv:vs[i]? = some vs[i]:=by simp[hi']
   let hiu:us[i]? = some us[i]:=by simp[hi]
   let⟨t,et,kt⟩:=hvs.get hiv;let⟨t',et',kt'⟩:=hus.get hiu;rw[et] at et';cases et';let ft:t.wide (r-1)=true:=by rw[KA] at f2;exact zE.mp f2 t (zG et)
   let av:VD vs (0+(i:Int))=some vs[i]:=by rw[wS];exact Yj hiv
   let au:VD us (0+(i:Int))=some us[i]:=by rw[wS];exact Yj hiu
   refine⟨_,Z,_,Z,.inr (.inl ⟨a,vs,_,_,rfl,rfl,Zd.of (s3 _ _ ea),av,_,rfl,_,rfl,.inr (.inl ⟨b,us,_,_,rfl,rfl,Zd.of (s3 _ _ eb),au,vs[i],us[i],t,r-1,rfl,kt.mono (ZC.tups s3) _ _,kt'.mono (ZC.tups s3) _ _,ft,by lia,λH4 s4=>?_⟩)⟩)⟩
   refine hR _ H4 (s4 D _ eD) ⟨λb o e=>by rw[ZY (Ze e nD)];exact s4 b o (s3 b o e),nD,?_⟩
   rw[rO,yZ];rfl
  ·let⟨s3,nD,rfl⟩:=hP;exists D,_,Z,ZI.of eD;rw[show (xI us.length true).all id=true by simp]
   exact k H3 s3
def EM(T:Txt mg)(L:ZX K mg "_law_alike" LL zEe):∀ n:Nat,ZA P w K mg kT (n+1) "_law_alike" zEe (Ys n)
 | 0=>L.of λ_ _ _=>O6 λvs H Q E h=>by let⟨v,u,t,r,_,_,_,_,h1,_⟩:=h;lia
 | n+1=>L.of λ_ _ F=>ZKD F T (EM T L n)
inductive Yq(vs:jh)(H:Hp)(Q:VK)(_:XK):Prop
 |mk(a b:aj)(xs ys:jh)(ts:jM)(_:vs=[.ref a,.ref b])(_:H a=some (.lst xs))(_:H b=some (.lst ys))(_:kK H ts xs)(_:kK H ts ys)(_:∀ t∈ts,t.wide 4=true)(_:ts.length<=400)(_:∀ H',ZC H H'->Q (.bl true) H')
def ZLZ:ZB zEe zEe (Zl HS):=⟨Z,Z,Z,by decide +kernel,Z,by decide +kernel,by decide +kernel⟩
def AT(F:Zo K "_law_rows_alike" "_law_rows_alike" HS f fd)(T:Txt mg)(DA:ZA P w K mg kT 7 "_law_alike" zEe (Ys 6)):ZK P w K mg kT ZV 8 f fd zEe Yq:=by
 refine F.ok ZLZ (λvs H Q E h=>(by let⟨_,_,_,_,_,rfl,_⟩:=h;rfl)) (λcdv A outer s H vs Q E hr h=>?_)
 let⟨a,b,xs,ys,ts,rfl,ha,hb,kx,ky,hf,h100,k⟩:=h;refine⟨_,ZP (Zk (QX (Zv W0 rfl T.isi WS (ZF (pv 0) (ZF (Wt (v:=.ty "list") rfl T.list Ph rfl) ZD)))
  (U4 (Zc DA hr (ZF (Ws Ou rfl T.tuple QK (ZF (pv 0) ZD)) (ZF (Ws Ou rfl T.tuple QK (ZF (pv 1) ZD)) ZD)))))),?_⟩
 refine⟨_,Z,_,_,_,_,Z,.lst ha,(by kernel_rfl),_,Z,Z7 ?_⟩
 refine⟨_,Z,a,xs,Z,.inl ⟨ZI.of ha,λp1 hp1=>?_⟩⟩;let g1:=Zq hp1 (.tup xs);refine⟨_,Z,b,ys,Z,.inl ⟨ZI.of (g1 _ _ hb),λp2 hp2=>?_⟩⟩;let g2:=Zq hp2 (.tup ys);let g:=g1.trans g2;refine⟨.ref p1,.ref p2,.tup ts,5,Z,.tup (g2 _ _ ZZ) (kx.mono (ZC.tups g) _ _),.tup ZZ (ky.mono (ZC.tups g) _ _),?_,by decide,λH' s'=>?_⟩
 ·rw[KT.wide,zP,zP,KA];exact⟨by decide,aI h100,zE.mpr λt ht=>hf t ht⟩
 ·exact k H' (g.trans s')
def ZN9{H:Hp}{p q:aj}(W:ZS H p)(h:H q=none):q≠p:=λz=>by
 let⟨xs,e⟩:=W.some;rw[z,e] at h;cases h
inductive VT(vs:jh)(H:Hp)(Q:VK)(_:XK):Prop
 |mk(p:aj)(_:vs=[.ref p])(_:ZS H p)(_:∀(v:V)(t:KT)(H':Hp),ZE H' t v->t.fits 3=true->ZS H' p->ZG p H H'->Q v H')
def Ac:ZB zEi zEi (Zl K6):=⟨Z,Z,Z,by decide +kernel,Z,by decide +kernel,by decide +kernel⟩
def ZLM(F:Zo K "_law_value" "_law_value" K6 f fd)(DP:ZA P w K mg kT 1 "_law_pull" zEd Z6)(DK:ZA P w K mg kT 6 "_law_key" zEh (Xp 4)):ZK P w K mg kT ZV 7 f fd zEi VT:=by
 refine F.ok Ac (λvs H Q E h=>(by let⟨_,rfl,_⟩:=h;rfl)) (λcdv A outer s H vs Q E hr h=>?_)
 let⟨p,rfl,W,q⟩:=h;let hr1:=hr.mono (show 1<=6 by decide)
 refine⟨_,@ZO _ _ _ _ _ (Zt (Z3 XE (Zc DP hr1 (ZF (pv 0) (ZF ZL ZD))) ZL (Zu _)) (ZP (Zk (Zc DK hr (ZF (pv 0) (ZF ZL ZD))))) Zw)
  (@ZP _ _ _ (@Zk _ _ _ _ (@Za _ _ _ _ _ _ (YE K) YH (Yo (pa6 ZL ZL YB (XR (ZF ZL ZD)) YB (XR ZD))) (Zc DP hr1 (ZF (pv 0) (ZF ZL ZD))) (λ_ _=>rfl)))),?_⟩
 refine⟨_,Z,p,3,Z,W,Wf (by decide) (by decide),λw0 H1 w00 w01 W1 s1=>⟨Z,_,Z,?_⟩⟩
 refine YX (λc=>?_) (λc=>?_)
 ·exact⟨_,Z,p,3,Z,W1,by decide,λv t H3 hv ht W3 s3=>q v t H3 hv ht W3 (s1.trans s3)⟩
 refine⟨nn (zR rfl),λt1 n1=>?_⟩;let g1:=Zq n1 (.tup [.int 1]);refine⟨nn (zR rfl),λt2 n2=>?_⟩;let g2:=Zq n2 (.tup []);refine⟨nn (zR rfl),λd nd'=>?_⟩;let g3:=Zq nd' (.lst [.int 0,.int 1,.str "1",.ref t1,.str "",.ref t2]);let gA:ZC H1 _:=(g1.trans g2).trans g3;let nd2:d≠p:=ZN9 (W1.same (g1.trans g2)) nd';refine⟨_,Z,p,6,Z,W1.same gA,Wf (by decide) (by decide),λr H3 r0 r1 W3 s3=>?_⟩
 let tA:=s3.tupsW (W1.same gA);let sA:ZG p H H3:=(s1.trans (ZG.of gA)).trans s3;let k1:ZE H3 (.tup [.int 1]) (.ref t1):=.tup (tA _ _ (g3 _ _ (g2 _ _ ZZ))) (.cons (.int 1) .nil);let k2:ZE H3 (.tup []) (.ref t2):=.tup (tA _ _ (g3 _ _ ZZ)) .nil;let eL:H3 d=some (.lst [.int 0,.int 1,.str "1",.ref t1,.str "",.ref t2]):=s3 d _ ZZ nd2;let⟨v,av,mv⟩:=KP (xs:=[V.int 0,.int 1,.str "1",.ref t1,.str "",.ref t2]) r0 r1;refine .inl ⟨d,_,_,v,Z,Z,ZI.of eL,av,?_⟩;simp only[zI,xF,or_false] at mv;rcases mv with rfl | rfl | rfl | rfl | rfl | rfl
 ·exact q _ _ H3 (.int 0) (by decide +kernel) W3 sA
 ·exact q _ _ H3 (.int 1) (by decide +kernel) W3 sA
 ·exact q _ _ H3 (.str _) (by decide +kernel) W3 sA
 ·exact q _ _ H3 k1 (by decide +kernel) W3 sA
 ·exact q _ _ H3 (.str _) (by decide +kernel) W3 sA
 ·exact q _ _ H3 k2 (by decide +kernel) W3 sA
end _T
namespace L2
open PySem PySem.Spec PyProof.Rows
inductive PJ(K':zZ)(xs:jh)(H:Hp)(Q:VK):Prop
 |mk(p:aj)(ns:jX)(_:xs=[.ref p])(_:ZI K' H p (ns.map V.int))(_:Q (.int ns.sum) H)
def ZPS(hc:X.calm=true):Wg X (.builtin "sum") (PJ X.K):=by
 intro kR s σ H xs us Q I r h;let⟨p,ns,rfl,hq,q⟩:=h;let⟨u,rfl,ru⟩:=Wk r;cases ru;let⟨jk,rv,pl,hz⟩:=I.list hq;let hi:=ZIU rv;let⟨ys,e⟩:=hi.allInts.items;let hl:=pl.isList;rw[e] at hl;let en:ys.toList.map (·.1)=ns:=by
  rw[<-nums_intItems,<-e];exact hi.numsOf
 refine sum_intListG (I.ok.hd hc) hl λh' tk t' hk=>⟨.int ns.sum,H,I.kept (t':=tk) hk,⟨t',?_⟩,q⟩;rw[preSum_eq,yS (by simp),en]
end L2
namespace _T
open PySem PySem.Spec L2 PyProof.Rows
variable{kP kQ CS CT CH CK CP CB:aj}
def ZP6:az "sum" = some (.builtin "sum"):=by decide +kernel
structure YI where
 h:Int
 lo:KT
 hi:KT
 m:Int
abbrev km:=List YI
def YI.d:YI:=⟨0,.int 0,.int 0,0⟩
def YI.kt(L:YI):KT:=.tup [.int L.h,L.lo,L.hi,.int L.m]
inductive Yt(H:Hp)(L:YI)(u:V):Prop
 |mk(a jE jF:_)(_:u=.ref a)(_:H a=some (.tup [.int L.h,jE,jF,.int L.m]))(_:ZE H L.lo jE)(_:ZE H L.hi jF)
def Yt.mono{H H':Hp}{L:YI}{u:V}(x:Yt H L u)(m:YD H H'):Yt H' L u:=by
 let⟨a,jE,jF,e,e1,k1,k2⟩:=x;exact⟨a,jE,jF,e,m _ _ e1,k1.mono m _ _,k2.mono m _ _⟩
def Ye(H:Hp)(ls:km)(us:jh):Prop:=us.length=ls.length/\∀ i u,us[i]? = some u->Yt H (ls.getD i .d) u
def Ye.mono{H H':Hp}{ls:km}{us:jh}(x:Ye H ls us)(m:YD H H'):Ye H' ls us:=⟨x.1,λi u e=>(x.2 i u e).mono m⟩
def YI.fit(L:YI):Prop:=L.lo.fits 3=true/\L.hi.fits 3=true
def QG(a b:YI):Bool:=(a.h==b.h)&&a.hi.lt b.lo
def Mp(ls:km):Bool:=(zF (ls.length-1)).all λj=>QG (ls.getD j .d) (ls.getD (j+1) .d)
def Us(ls:km):Option YI:=if 2<=ls.length/\ls.length<=4/\Mp ls=true then some ⟨(ls.getD 0 .d).h+1,(ls.getD 0 .d).lo,(ls.getD (ls.length-1) .d).hi,(ls.map YI.m).sum⟩ else none
def Bs{ls:km}(h2:2<=ls.length)(h4:ls.length<=4)(h:∀ j,j<ls.length-1->QG (ls.getD j .d) (ls.getD (j+1) .d)=true):Us ls=some ⟨(ls.getD 0 .d).h+1,(ls.getD 0 .d).lo,(ls.getD (ls.length-1) .d).hi,(ls.map YI.m).sum⟩:=
 aK ⟨h2,h4,zE.mpr λj hj=>h j (yX.mp hj)⟩
inductive Vw(vs:jh)(H:Hp)(Q:VK)(_:XK):Prop
 |mk(v u:V)(a b:YI)(_:vs=[v,u])(_:Yt H a v)(_:Yt H b u)(_:a.fit)(_:b.fit)(_:∀ H',ZC H H'->Q (.bl (QG a b)) H')
def C1:ZB zE2 zE2 (Zl Je):=⟨Z,Z,Z,by decide +kernel,Z,by decide +kernel,by decide +kernel⟩
def ZM2(F:Zo K "stand_side_by_side" "stand_side_by_side" Je f fd)(T:Txt mg)(DA:ZA P w K mg kT 7 "ahead" zE7 X6):ZK P w K mg kT ZV 8 f fd zE2 Vw:=by
 refine F.ok C1 (λvs H Q E h=>(by let⟨_,_,_,_,rfl,_⟩:=h;rfl)) (λcdv A outer s H vs Q E hr h=>?_)
 let⟨v,u,a,b,rfl,ha,hb,fa,fb,k⟩:=h;let⟨t0,m0⟩:=T.height;let⟨t1,m1⟩:=T.least;let⟨t2,m2⟩:=T.greatest;let⟨pa,alo,ahi,rfl,ea,ka1,ka2⟩:=ha;let⟨pb,blo,bhi,rfl,eb,kb1,kb2⟩:=hb;refine⟨_,ZP (Zk (QX (VY XE (Za (r:=YE K) YH (pv 0) (WE (v:=.int 0) rfl m0 ⟨_,rfl⟩) (λ_ _=>rfl)) (Za (r:=YE K) YH (pv 1) (WE (v:=.int 0) rfl m0 ⟨_,rfl⟩) (λ_ _=>rfl)) (Zu _))
  (U4 (Zc DA hr (ZF (Za (r:=YE K) YH (pv 0) (WE (v:=.int 2) rfl m2 ⟨_,rfl⟩) (λ_ _=>rfl)) (ZF (Za (r:=YE K) YH (pv 1) (WE (v:=.int 1) rfl m1 ⟨_,rfl⟩) (λ_ _=>rfl)) ZD)))))),?_⟩
 refine⟨_,Z,.inr (.inl ⟨pa,_,_,.int a.h,rfl,rfl,Zd.of ea,rfl,?_⟩)⟩;refine⟨_,Z,.inr (.inl ⟨pb,_,_,.int b.h,rfl,rfl,Zd.of eb,rfl,rfl,_,rfl,?_⟩)⟩;by_cases hh:a.h=b.h
 ·rw[aI (by rw[hh])]
  refine Z7 ?_;refine⟨_,Z,.inr (.inl ⟨pa,_,_,ahi,rfl,rfl,Zd.of ea,rfl,?_⟩)⟩;refine⟨_,Z,.inr (.inl ⟨pb,_,_,blo,rfl,rfl,Zd.of eb,rfl,ahi,blo,a.hi,b.lo,rfl,ka2,kb1,fa.2,fb.1,λH' s'=>?_⟩)⟩;let e:a.hi.lt b.lo=QG a b:=by unfold QG;rw[hh,beq_self_eq_true,vA]
  rw[e];exact k H' s'
 ·rw[aH (λz=>hh (LF z))];refine Zn ?_;let e:false=QG a b:=by unfold QG;rw[beq_eq_false_iff_ne.mpr hh,uY]
  rw[e];exact k H (ZC.refl H)
def Hd{n:Int}(h:n.natAbs<10 ^ 60)(r:Nat):(KT.int n).fits r=true:=by rw[KT.fits];exact aI h
def MK{H:Hp}{L:YI}{u:V}(h:ZE H L.kt u):Yt H L u:=by
 unfold YI.kt at h;rw[ZE] at h;let⟨a,vs,rfl,ea,ks⟩:=h;rw[kK] at ks;let⟨v1,r1,rfl,k1,ks⟩:=ks;rw[kK] at ks;let⟨v2,r2,rfl,k2,ks⟩:=ks;rw[kK] at ks;let⟨v3,r3,rfl,k3,ks⟩:=ks;rw[kK] at ks;let⟨v4,r4,rfl,k4,ks⟩:=ks;rw[kK] at ks;subst ks;rw[ZE] at k1 k4;subst k1 k4;exact⟨a,v2,v3,Z,ea,k2,k3⟩
def Ak:YI.d.fit:=⟨Hd (n:=0) (by decide) 3,Hd (n:=0) (by decide) 3⟩
def GH(H:Hp)(ks:jM)(us:jh):Prop:=us.length=ks.length/\∀ i u,us[i]? = some u->∃ a vk vv,u=.ref a/\H a=some (.tup [vk,vv])/\ZE H (ks.getD i (.int 0)) vk
def KK(ks:jM):KT:=.tup [.int 0,ks.getD 0 (.int 0),ks.getD (ks.length-1) (.int 0),.int ks.length]
def ZM8{us:jh}{u:V}(h:us[us.length-1]? = some u):VD us (-1)=some u:=by
 let jx:us≠[]:=λz=>by rw[z] at h;simp at h
 let e:us=us.dropLast++[u]:=by
  let hg:us.getLast jx=u:=by
   rw[qN];exact(yY.mp h).2
  rw[<-hg,sQ]
 rw[e];exact G7 _ _
inductive Xj(vs:jh)(H:Hp)(Q:VK)(_:XK):Prop
 |mk(l:aj)(us:jh)(ks:jM)(_:vs=[.ref l])(_:H l=some (.lst us))(_:GH H ks us)(_:0<us.length)(_:∀(H':Hp)(v:V),ZC H H'->ZE H' (KK ks) v->Q v H')
def Am:ZB zEs zEs (Zl J7):=⟨Z,Z,Z,by decide +kernel,Z,by decide +kernel,by decide +kernel⟩
def ZIN(F:Zo K "label_of_rows" "label_of_rows" J7 f fd)(T:Txt mg):ZK P w K mg kT ZV 1 f fd zEs Xj:=by
 refine F.ok Am (λvs H Q E h=>(by let⟨_,_,_,rfl,_⟩:=h;rfl)) (λcdv A outer s H vs Q E hr h=>?_)
 let⟨l,us,ks,rfl,hl,hk,h0,k⟩:=h;refine⟨_,ZP (Zk (XR (Nj ZL (Za (r:=YE K) YH (Za (r:=YE K) YH (pv 0) ZL (λ_ _=>rfl)) ZL (λ_ _=>rfl))
  (Za (r:=YE K) YH (Za (r:=YE K) YH (pv 0) (LG KC ZL) (λ_ _=>rfl)) ZL (λ_ _=>rfl)) (Zv Yk rfl T.len YU (ZF (pv 0) ZD))))),?_⟩
 let u0:us[0]? = some us[0]:=zV h0;let u1:us[us.length-1]? = some (us[us.length-1]'(by lia)):=zV (by lia)
 let⟨a,ak,av,ea,ta,ka⟩:=hk.2 0 _ u0;let⟨b,bk,bv,eb,tb,kb⟩:=hk.2 _ _ u1;rw[ea] at u0;rw[eb] at u1;refine⟨_,Z,.inl ⟨l,us,_,.ref a,Z,Z,ZI.of hl,Yj (j:=0) u0,.inr (.inl ⟨a,_,_,ak,rfl,rfl,Zd.of ta,rfl,?_⟩)⟩⟩;refine⟨_,Z,1,Z,.inl ⟨l,us,_,.ref b,Z,Z,ZI.of hl,ZM8 u1,.inr (.inl ⟨b,_,_,bk,rfl,rfl,Zd.of tb,rfl,?_⟩)⟩⟩;refine⟨_,Z,l,us,Z,.inl (ZI.of hl),nn (zR rfl),λp hp=>?_⟩;let g:=Zq hp (.tup [.int 0,ak,bk,.int us.length]);refine k _ _ g ?_;unfold KK;rw[<-hk.1];exact .tup ZZ (.cons (.int _) (.cons (ka.mono (ZC.tups g) _ _) (.cons (kb.mono (ZC.tups g) _ _) (.cons (.int _) .nil))))
abbrev Yf:=KT×KT
abbrev jT:=List Yf
def KD(r:Yf):KT:=.tup [r.1,r.2]
def Y1(rs:jT):jM:=rs.map KD
def Yf.fit(r:Yf):Prop:=r.1.fits 3=true/\r.2.fits 3=true
structure ZW where
 h:Nat
 rows:jT
 bs:jK
abbrev jN:=List ZW
def ZW.d:ZW:=⟨0,[],[]⟩
def gd(ts:jN)(i:Nat):ZW:=ts.getD i .d
def Qa{ts:jN}{i:Nat}(h:i<ts.length):ts[i]? = some (gd ts i):=by
 unfold gd;rw[zQ,zV h];rfl
structure Vm(gt:jK)(ts:jN)(i:Nat)(t:ZW):Prop where
 ne:t.rows≠[]
 up:(t.rows.map (·.1)).Pairwise λa b=>a.lt b=true
 inn:∀ r∈t.rows,r.fit
 leaf:t.h=0->t.bs=[]/\t.rows.length<=4
 stem:t.h≠0->2<=t.bs.length/\t.bs.length<=4/\(∀ b∈t.bs,b∈gt/\(gd ts b).h+1=t.h)/\t.rows=t.bs.flatMap λb=>(gd ts b).rows
def WF(gt:jK)(ts:jN):Prop:=∀ i∈gt,Vm gt ts i (gd ts i)
def kindOf(t:ZW):Str:=if t.h=0 then "leaf" else "stem"
def Uh{H H':Hp}{a:aj}{o:HO}(s:ZC H H')(n:H a=none):ZC H (upd H' a o):=λb u e=>by rw[ZY (Ze e n)];exact s b u e
abbrev iN(l:jK):jh:=l.map λb=>V.int (b:Nat)
def MQ(a b:jT):Y1 (a++b)=Y1 a++Y1 b:=yZ
def Ge{xs:jh}{j:Nat}{v:V}(h1:1<=j)(h2:j<=xs.length)(h:xs[xs.length-j]? = some v):VD xs (-(j:Int))=some v:=by
 unfold VD;let e:QR xs.length (-(j:Int))=some (xs.length-j):=by
  unfold QR;rw[aJ (by lia),aK (by lia)]
  congr 1
  lia
 rw[e];exact h
def rd:Yf:=(.int 0,.int 0)
def YW(t:ZW):YI:=⟨t.h,(t.rows.getD 0 rd).1,(t.rows.getD (t.rows.length-1) rd).1,t.rows.length⟩
def Oz{H:Hp}{rs:jT}{us:jh}{i:Nat}{u:V}(h:kK H (Y1 rs) us)(e:us[i]? = some u):∃ a vk vv,rs[i]? = some (rs.getD i rd)/\u=.ref a/\H a=some (.tup [vk,vv])/\ZE H (rs.getD i rd).1 vk/\ZE H (rs.getD i rd).2 vv:=by
 let⟨t,et,kt⟩:=h.get e;unfold Y1 at et;rw[zC] at et;let⟨r,er,rfl⟩:=xY.mp et;let eg:rs.getD i rd=r:=by rw[zQ,er];rfl
 unfold KD at kt;rw[ZE] at kt;let⟨a,vs,rfl,ha,hk⟩:=kt;rw[kK] at hk;let⟨v1,r1,rfl,k1,hk⟩:=hk;rw[kK] at hk;let⟨v2,r2,rfl,k2,hk⟩:=hk;rw[kK] at hk;subst hk;rw[eg];exact⟨a,v1,v2,er,Z,ha,k1,k2⟩
def Ye.snoc{H:Hp}{ls:km}{us:jh}{L:YI}{u:V}(h:Ye H ls us)(hu:Yt H L u):Ye H (ls++[L]) (us++[u]):=by
 refine⟨by rw[zT,zT,h.1];rfl,λi w e=>?_⟩
 rcases xQ i us.length with hi | hi
 ·rw[xA hi] at e;have:=h.2 i w e;rw[zQ] at this⊢;rw[xA (by rw[<-h.1];exact hi)]
  exact this
 ·rw[wZ hi] at e;let hi0:i-us.length=0:=by
   rcases rZ (i-us.length) with z | z
   ·exact z
   ·rw[rJ (by simp;lia)] at e;cases e
  rw[hi0] at e;simp at e;subst e;let ei:i=ls.length:=by have:=h.1;lia
  rw[zQ,ei];simp;exact hu
def HR(lv:jK)(x:Int):Bool:=decide (0<=x/\x.toNat∈lv)
def Jj(ls:km):Prop:=∀ j,j+1<ls.length->(ls.getD (j+1) .d).h=(ls.getD 0 .d).h/\(ls.getD j .d).hi.lt (ls.getD (j+1) .d).lo=true
def QI{ls:km}:Jj ls ↔ Mp ls=true:=by
 unfold Jj Mp QG;rw[zE];constructor
 ·intro h j hj;let hj':j<ls.length-1:=yX.mp hj;let⟨a,b⟩:=h j (by lia)
  rw[zP];refine⟨?_,b⟩;rw[beq_iff_eq,a]
  cases j with
  | zero=>rfl
  | succ j=>exact(h j (by lia)).1
 ·intro h;let hh:∀ j,j<ls.length->(ls.getD j .d).h=(ls.getD 0 .d).h:=λj=>by
   induction j with
   | zero=>intro _;rfl
   | succ j ih=>
    intro hj;have:=h j (yX.mpr (by lia))
    rw[zP,beq_iff_eq] at this;rw[<-this.1];exact ih (by lia)
  intro j hj;have:=h j (yX.mpr (by lia))
  rw[zP] at this;exact⟨hh (j+1) hj,this.2⟩
def ZNc{gt:jK}{ts:jN}{i:Nat}{t:ZW}(h:Vm gt ts i t):(YW t).fit:=by
 let hp:0<t.rows.length:=xJ.mpr h.ne;let m0:t.rows.getD 0 rd∈t.rows:=by rw[zQ,zV hp];exact yD _
 let m1:t.rows.getD (t.rows.length-1) rd∈t.rows:=by rw[zQ,zV (show t.rows.length-1<t.rows.length by lia)];exact yD _
 exact⟨(h.inn _ m0).1,(h.inn _ m1).1⟩
def YL(ts:jN)(bs:jK):km:=bs.map λb=>YW (gd ts b)
structure ZH(P:ao)(w:ax)(K:zZ)(mg:jd)(kT:aD)(CX:Vg)(k:Nat)(C:aj)(m:Str)(ps:jP)(sp:Sp):Prop where
 ex:∃ f fd,QS K C m f/\ZK P w K mg kT CX k f fd ps sp/\Zz K fd ps []
def XM{X:Cx}{CX:Vg}{k:Nat}{C:aj}{m:Str}{ps:jP}{sp:Sp}{E:XK}{o e:Expr}{es:jU}{ta:TE}{t:TA}{pos jm:Pos}{pl:Sem Bool}(he:PE X o ta)(c:Va X.K C)(D:ZH X.prog X.w X.K X.mg X.base CX k C m ps sp)(hr:Zf k X.A)(hx:Qg CX X E)(ha:PA X (e::es) t)(hst:aw (e::es) X.env=(false,aF e X.env)::aw es X.env:=by rfl)(jp:(aE pos (aw es X.env)).any (·.1)=false:=by rfl)(ht:aF (.Call (.Attribute o m jm) (e::es) [] pos) X.env=(do
   let ov<-aF o X.env
   standAt jm.atName
   let (f,first)<-holding [ov] (getMethod ov m pl)
   callWith pos f first (aE pos (aw (e::es) X.env)) (backToKw pos (keywordEach [] X.env))):=by rfl):
  PE X (.Call (.Attribute o m jm) (e::es) [] pos) (ML C m sp [] E ta t):=by
 let⟨f,fd,M,F,b⟩:=D.ex;exact ZNt he c M F hr b .nil hx ha hst jp ht
def MA{X:Cx}{CX:Vg}{k:Nat}{C:aj}{m:Str}{ps:jP}{sp:Sp}{E:XK}{o:Expr}{ta:TE}{pos jm:Pos}{pl:Sem Bool}(he:PE X o ta)(c:Va X.K C)(D:ZH X.prog X.w X.K X.mg X.base CX k C m ps sp)(hr:Zf k X.A)(hx:Qg CX X E)(ht:aF (.Call (.Attribute o m jm) [] [] pos) X.env=(do
   let ov<-aF o X.env
   standAt jm.atName
   let (f,first)<-holding [ov] (getMethod ov m pl)
   callWith pos f first (aE pos (aw [] X.env)) (backToKw pos (keywordEach [] X.env))):=by rfl):
  PE X (.Call (.Attribute o m jm) [] [] pos) (ML C m sp [] E ta Uu):=by
 let⟨f,fd,M,F,b⟩:=D.ex;exact ZLo he c M F hr b .nil hx ht
abbrev IV:Stmt:=Wc (top 30) 0
abbrev JO:Stmt:=Wc (top 47) 0
abbrev JI:Stmt:=Wc (top 47) 1
abbrev Jm:Stmt:=Wc (top 47) 3
abbrev IR:Stmt:=Wc (top 47) 7
abbrev IG:Stmt:=Wc (top 47) 8
abbrev Jv:Stmt:=Wc (top 47) 12
abbrev K5:Stmt:=Wc (top 47) 13
abbrev Ij:Stmt:=Wc (top 47) 18
structure Y4(K:zZ)(mg:jd)(kP kQ:aj):Prop where
 shelf:mg "Shelf" = some (.ref kP)
 twig:mg "Twig" = some (.ref kQ)
 cS:Va K kP
 cT:Va K kQ
 nk:Z2 K kP "kept"
 nf:Z2 K kP "following"
 nl:Z2 K kP "looks"
 nth:Z2 K kQ "things"
 ntg:Z2 K kQ "tag"
 nab:Z2 K kQ "above"
 nho:Z2 K kQ "holds"
abbrev Pb(d lk:aj)(n:Nat):List (Str×V):=[("kept",.ref d),("following",.int n),("looks",.ref lk)]
abbrev Ut(th tg:V)(ab:aj)(ho:Nat):List (Str×V):=[("things",th),("tag",tg),("above",.ref ab),("holds",.int ho)]
structure XT(kP:aj)(H:Hp)(S d lk:aj)(n:Nat)(kvs:List (Zi×V))(ls:jh):Prop where
 self:∃ dx,H S=some (.ins kP dx (Pb d lk n))
 kept:H d=some (.dK kvs)
 looks:H lk=some (.lst ls)
structure Wo(kQ:aj)(H:Hp)(x:aj)(th tg:V)(ab:aj)(ho:Nat)(us:jh):Prop where
 self:∃ dx,H x=some (.ins kQ dx (Ut th tg ab ho))
 above:H ab=some (.lst us)
def XT.same{kP:aj}{H H':Hp}{S d lk:aj}{n:Nat}{kvs:List (Zi×V)}{ls:jh}(h:XT kP H S d lk n kvs ls)(s:ZC H H'):XT kP H' S d lk n kvs ls:=by
 let⟨⟨dx,e⟩,h2,h3⟩:=h;exact⟨⟨dx,s _ _ e⟩,s _ _ h2,s _ _ h3⟩
def Wo.same{kQ:aj}{H H':Hp}{x:aj}{th tg:V}{ab:aj}{ho:Nat}{us:jh}(h:Wo kQ H x th tg ab ho us)(s:ZC H H'):Wo kQ H' x th tg ab ho us:=by
 let⟨⟨dx,e⟩,h2⟩:=h;exact⟨⟨dx,s _ _ e⟩,s _ _ h2⟩
inductive QJ(kQ:aj)(vs:jh)(H:Hp)(Q:VK)(_:XK):Prop
 |mk(x dx:aj)(th tg:V)(_:vs=[.ref x,th,tg])(_:H x=some (.ins kQ dx []))(_:∀(H':Hp)(ab:aj),(∀ b o,b≠x->H b=some o->H' b=some o)->H ab=none->Wo kQ H' x th tg ab 1 []->Q .non H')
def ZQs:ZB zEz zEz (Zl IV):=⟨Z,Z,Z,by decide +kernel,Z,by decide +kernel,by decide +kernel⟩
def ZPu(F:Zo K "__init__" "Twig.__init__" IV f fd)(L:Y4 K mg kP kQ):ZK P w K mg kT ZV 1 f fd zEz (QJ kQ):=by
 refine F.ok ZQs (λvs H Q E h=>(by let⟨_,_,_,_,rfl,_⟩:=h;rfl)) (λcdv A outer s H vs Q E hr h=>?_)
 let⟨x,dx,th,tg,rfl,hx,k⟩:=h;exists _,ZO (U3 (pv 0) (pv 1) Z) (ZO (U3 (pv 0) (pv 2) rfl) (ZO (U3 (pv 0) (Yo ZD) rfl) (ZP (U3 (pv 0) ZL rfl))));exists _,Z,_,Z,x,kQ,dx,_,Z,hx,L.cT,L.nth,zR Z;exists _,Z,_,Z,x,kQ,dx,_,Z,ZZ,L.cT,L.ntg,zR Z;refine⟨nn (zR rfl),λab hab=>?_⟩;rw[O7] at hab⊢;let xab:x≠ab:=λz=>by rw[<-z,ZZ] at hab;cases hab
 let nab:H ab=none:=by rw[ZY (Ne.symm xab)] at hab;exact hab
 exists _,Z,x,kQ,dx,_,Z,(by rw[ZY xab];exact ZZ),L.cT,L.nab,zR Z
 exists _,Z,x,kQ,dx,_,Z,ZZ,L.cT,L.nho,zR Z;refine k _ ab (λb o n e=>?_) nab ⟨⟨dx,ZZ⟩,?_⟩
 ·rw[O7,ZY n,ZY (Ze e nab),ZY n];exact e
 ·rw[O7,ZY (Ne.symm xab)];exact ZZ
inductive Uy(kP:aj)(vs:jh)(H:Hp)(Q:VK)(_:XK):Prop
 |mk(x dx:aj)(_:vs=[.ref x])(_:H x=some (.ins kP dx []))(_:∀(H':Hp)(d lk:aj),(∀ b o,b≠x->H b=some o->H' b=some o)->H d=none->H lk=none->d≠lk->XT kP H' x d lk 0 [] []->Q .non H')
def ZQb:ZB zEo zEo (Zl JO):=⟨Z,Z,Z,by decide +kernel,Z,by decide +kernel,by decide +kernel⟩
def Cs(F:Zo K "__init__" "Shelf.__init__" JO f fd)(L:Y4 K mg kP kQ):ZK P w K mg kT ZV 1 f fd zEo (Uy kP):=by
 refine F.ok ZQb (λvs H Q E h=>(by let⟨_,_,rfl,_⟩:=h;rfl)) (λcdv A outer s H vs Q E hr h=>?_)
 let⟨x,dx,rfl,hx,k⟩:=h;exists _,ZO (U3 (pv 0) Mf Z) (ZO (U3 (pv 0) ZL rfl) (ZP (U3 (pv 0) (Yo ZD) rfl)));intro d hd;let xd:x≠d:=Ze hx hd;exists _,Z,x,kP,dx,_,Z,(by rw[ZY xd];exact hx),L.cS,L.nk,zR Z
 exists _,Z,x,kP,dx,_,Z,ZZ,L.cS,L.nf,zR Z;refine⟨nn (zR rfl),λlk hlk=>?_⟩;rw[O7] at hlk⊢;let xl:x≠lk:=λz=>by rw[<-z,ZZ] at hlk;cases hlk
 let hlk1:upd H d (.dK []) lk=none:=by rw[ZY (Ne.symm xl)] at hlk;exact hlk
 let dl:d≠lk:=λz=>by rw[<-z,ZZ] at hlk1;cases hlk1
 let nlk:H lk=none:=by rw[ZY (Ne.symm dl)] at hlk1;exact hlk1
 exists _,Z,x,kP,dx,_,Z,(by rw[ZY xl];exact ZZ),L.cS,L.nl,zR Z
 refine k _ d lk (λb o n e=>?_) hd nlk dl ⟨⟨dx,ZZ⟩,?_,?_⟩
 ·rw[ZY n,ZY (Ze e nlk),ZY n,ZY (Ze e hd)];exact e
 ·rw[ZY (Ne.symm xd),ZY dl,ZY (Ne.symm xd)];exact ZZ
 ·rw[ZY (Ne.symm xl)];exact ZZ
inductive Z0(kP:aj)(vs:jh)(H:Hp)(Q:VK)(_:XK):Prop
 |mk(S d lk:aj)(n:Nat)(kvs:List (Zi×V))(ls:jh)(i:Int)(tw:V)(_:vs=[.ref S,.int i])(_:XT kP H S d lk n kvs ls)(_:YM kvs (.inl i)=some tw)(_:Q tw H)
def ZK1:ZB zEa zEa (Zl Ij):=⟨Z,Z,Z,by decide +kernel,Z,by decide +kernel,by decide +kernel⟩
def ZJJ(F:Zo K "twig_of" "Shelf.twig_of" Ij f fd)(L:Y4 K mg kP kQ):ZK P w K mg kT ZV 1 f fd zEa (Z0 kP):=by
 refine F.ok ZK1 (λvs H Q E h=>(by let⟨_,_,_,_,_,_,_,_,rfl,_⟩:=h;rfl)) (λcdv A outer s H vs Q E hr h=>?_)
 let⟨S,d,lk,n,kvs,ls,i,tw,rfl,⟨⟨dx,hS⟩,hd,hl⟩,hv,k⟩:=h;let hu:=D7 hr;exists _,ZO (Zt (Uz (IP hu (pv 1) (X5 (pv 0) rfl))) O3 Zw) (ZP (Zk (Lu hu (X5 (pv 0) rfl) (pv 1) (λ_ _=>rfl))));let hg:XO H d (.int i) (some tw):=hv ▸ XO.k (k:=Sum.inl i) hd;refine⟨_,Z,_,Z,S,kP,dx,_,.ref d,Z,hS,L.cS,L.nk,Z,d,some tw,Z,hg,_,Z,Zn ?_⟩;exact⟨_,Z,S,kP,dx,_,.ref d,Z,hS,L.cS,L.nk,Z,_,Z,d,tw,Z,hg,k⟩
structure Ud(P:ao)(w:ax)(K:zZ)(mg:jd)(kT:aD)(k:Nat)(C:aj)(ps:jP)(sp:Sp):Prop where
 ex:∃ f fd,Mk K C f/\ZK P w K mg kT ZV k f fd ps sp/\Zz K fd ps []
structure Qv(kP kQ:aj)(H:Hp)(S d lk:aj)(n:Nat)(kvs:List (Zi×V))(ls:jh)(i:Int)(x:aj)(th tg:V)(ab:aj)(ho:Nat)(us:jh):Prop where
 sh:XT kP H S d lk n kvs ls
 val:YM kvs (.inl i)=some (.ref x)
 tw:Wo kQ H x th tg ab ho us
inductive Xg(kP kQ:aj)(res:V->Nat->jh->V)(vs:jh)(H:Hp)(Q:VK)(_:XK):Prop
 |mk(S d lk:aj)(n:Nat)(kvs:List (Zi×V))(ls:jh)(i:Int)(x:aj)(th tg:V)(ab:aj)(ho:Nat)(us:jh)(_:vs=[.ref S,.int i])(_:Qv kP kQ H S d lk n kvs ls i x th tg ab ho us)(_:Q (res tg ho us) H)
def ZJF:ZB zEa zEa (Zl IG):=⟨Z,Z,Z,by decide +kernel,Z,by decide +kernel,by decide +kernel⟩
def A9(F:Zo K "outside" "Shelf.outside" IG f fd)(L:Y4 K mg kP kQ)(DT:ZH P w K mg kT ZV 1 kP "twig_of" zEa (Z0 kP)):ZK P w K mg kT ZV 2 f fd zEa (Xg kP kQ λ_ ho _=>.int ho):=by
 refine F.ok ZJF (λvs H Q E h=>(by let⟨_,_,_,_,_,_,_,_,_,_,_,_,_,rfl,_⟩:=h;rfl)) (λcdv A outer s H vs Q E hr h=>?_)
 let⟨S,d,lk,n,kvs,ls,i,x,th,tg,ab,ho,us,rfl,R,k⟩:=h;exists _,ZP (Zk (X5 (XM (E:=E0) (pv 0) L.cS DT hr Yd (ZF (pv 1) ZD)) rfl));let⟨dx,hS⟩:=R.sh.self;let⟨dt,hx⟩:=R.tw.self;exact⟨_,Z,S,dx,_,Z,hS,Z,_,Z,S,d,lk,n,kvs,ls,i,.ref x,Z,R.sh,R.val,x,kQ,dt,_,.int ho,Z,hx,L.cT,L.nho,Z,k⟩
def ZOf:ZB zEa zEa (Zl K5):=⟨Z,Z,Z,by decide +kernel,Z,by decide +kernel,by decide +kernel⟩
def ZK2(F:Zo K "label" "Shelf.label" K5 f fd)(L:Y4 K mg kP kQ)(DT:ZH P w K mg kT ZV 1 kP "twig_of" zEa (Z0 kP)):ZK P w K mg kT ZV 2 f fd zEa (Xg kP kQ λtg _ _=>tg):=by
 refine F.ok ZOf (λvs H Q E h=>(by let⟨_,_,_,_,_,_,_,_,_,_,_,_,_,rfl,_⟩:=h;rfl)) (λcdv A outer s H vs Q E hr h=>?_)
 let⟨S,d,lk,n,kvs,ls,i,x,th,tg,ab,ho,us,rfl,R,k⟩:=h;exists _,ZP (Zk (X5 (XM (E:=E0) (pv 0) L.cS DT hr Yd (ZF (pv 1) ZD)) rfl));let⟨dx,hS⟩:=R.sh.self;let⟨dt,hx⟩:=R.tw.self;exact⟨_,Z,S,dx,_,Z,hS,Z,_,Z,S,d,lk,n,kvs,ls,i,.ref x,Z,R.sh,R.val,x,kQ,dt,_,tg,Z,hx,L.cT,L.ntg,Z,k⟩
def Wz:ZB zE9 zEa (Zl IR):=⟨Z,Z,Z,by decide +kernel,Z,by decide +kernel,by decide +kernel⟩
def ZIB(F:Zo K "holders" "Shelf.holders" IR f fd)(T:Txt mg)(L:Y4 K mg kP kQ)(DT:ZH P w K mg kT ZV 1 kP "twig_of" zEa (Z0 kP)):ZK P w K mg kT ZV 2 f fd zEa (Xg kP kQ λ_ ho us=>.int ((us.length:Nat)+(ho:Nat):Int)):=by
 refine F.ok Wz (λvs H Q E h=>(by let⟨_,_,_,_,_,_,_,_,_,_,_,_,_,rfl,_⟩:=h;rfl)) (λcdv A outer s H vs Q E hr h=>?_)
 let⟨S,d,lk,n,kvs,ls,i,x,th,tg,ab,ho,us,rfl,R,k⟩:=h;let nd:=Wz.nd;exists _,ZO (Zr (i:=2) nd Z (Or.inl rfl) (XM (E:=E0) (pv 0) L.cS DT hr Yd (ZF (pv 1) ZD))) (ZP (Zk (Zs Y2 (Zv Yk rfl T.len YU (ZF (X5 (pv 2) rfl) ZD)) (X5 (pv 2) rfl))));let⟨dx,hS⟩:=R.sh.self;let⟨dt,hx⟩:=R.tw.self;exists _,Z,S,dx,_,Z,hS,Z,_,Z,S,d,lk,n,kvs,ls,i,.ref x,Z,R.sh,R.val;exact⟨_,Z,x,kQ,dt,_,.ref ab,Z,hx,L.cT,L.nab,Z,ab,us,Z,.inl (ZI.of R.tw.above),_,Z,x,kQ,dt,_,.int ho,Z,hx,L.cT,L.nho,Z,_,_,Z,Z,k⟩
inductive X7(kQ:aj)(vs:jh)(H:Hp)(Q:VK)(_:XK):Prop
 |mk(x:aj)(th:V)(tg ab:aj)(ho:Nat)(us:jh)(h:Int)(xs:jh)(_:vs=[.ref x])(_:Wo kQ H x th (.ref tg) ab ho us)(_:H tg=some (.tup (.int h::xs)))(_:Q (.bl (decide (h > 0))) H)
def ZOv:ZB ["twig"] ["twig"] (Zl Iv):=⟨Z,Z,Z,by decide +kernel,Z,by decide +kernel,by decide +kernel⟩
def ZOR(F:Zo K "is_stem" "is_stem" Iv f fd)(T:Txt mg)(L:Y4 K mg kP kQ):ZK P w K mg kT ZV 1 f fd ["twig"] (X7 kQ):=by
 refine F.ok ZOv (λvs H Q E h=>(by let⟨_,_,_,_,_,_,_,_,rfl,_⟩:=h;rfl)) (λcdv A outer s H vs Q E hr h=>?_)
 let⟨x,th,tg,ab,ho,us,hh,xs,rfl,W,ht,k⟩:=h;let⟨t0,m0⟩:=T.height;let⟨dt,hx⟩:=W.self;exists _,ZP (Zk (VY PB (Za (r:=YE K) YH (X5 (pv 0) rfl) (WE (v:=.int 0) rfl m0 ⟨_,rfl⟩) (λ_ _=>rfl)) ZL (Zu _)));exact⟨_,Z,x,kQ,dt,_,.ref tg,Z,hx,L.cT,L.ntg,Z,.inr (.inl ⟨tg,_,_,.int hh,rfl,rfl,Zd.of ht,Yj (j:=0) rfl,_,_,rfl,rfl,k⟩)⟩
def ZQc{n:Nat}(h:n<=400000):n<sizeLine:=uN h (by decide)
inductive UC(kP kQ:aj)(vs:jh)(H:Hp)(Q:VK)(_:XK):Prop
 |mk(S d lk:aj)(n:Nat)(kvs:List (Zi×V))(ls:jh)(i:Int)(x tl tg ab:aj)(ho:Nat)(as us xs:jh)(h:Int)(_:vs=[.ref S,.int i])(_:Qv kP kQ H S d lk n kvs ls i x (.ref tl) (.ref tg) ab ho as)(_:H tl=some (.lst us))(_:H tg=some (.tup (.int h::xs)))(_:lk≠tl)(_:lk≠ab)(_:ls.length<=390000)(_:∀(H':Hp)(l' t:aj),(∀ b o,b≠lk->H b=some o->H' b=some o)->H' lk=some (.lst (ls++[.int i]))->H l'=none->H' l'=some (.lst us)->H' t=some (.tup [.str (if h > 0 then "stem" else "leaf"),.ref l'])->Q (.ref t) H')
def U9:ZB zE9 zEa (Zl Jv):=⟨Z,Z,Z,by decide +kernel,Z,by decide +kernel,by decide +kernel⟩
def ZOH(F:Zo K "look" "Shelf.look" Jv f fd)(T:Txt mg)(L:Y4 K mg kP kQ)(DT:ZH P w K mg kT ZV 1 kP "twig_of" zEa (Z0 kP))(DS:ZA P w K mg kT 1 "is_stem" ["twig"] (X7 kQ)):ZK P w K mg kT ZV 2 f fd zEa (UC kP kQ):=by
 refine F.ok U9 (λvs H Q E h=>(by let⟨_,_,_,_,_,_,_,_,_,_,_,_,_,_,_,_,rfl,_⟩:=h;rfl)) (λcdv A outer s H vs Q E hr h=>?_)
 let⟨S,d,lk,n,kvs,ls,i,x,tl,tg,ab,ho,as,us,xs,hh,rfl,R,htl,htg,ltl,lab,l900,k⟩:=h;let nd:=U9.nd;refine⟨_,ZO (Zr (i:=2) nd rfl (Or.inl rfl) (XM (E:=E0) (pv 0) L.cS DT hr Yd (ZF (pv 1) ZD)))
  (ZO (Xd (WW yB wC wB Qh (X5 (pv 0) rfl) (ZF (pv 1) ZD)))
  (ZO (Zt (XD (Zc DS hr (ZF (pv 2) ZD))) (ZP (Zk (XR (ZF YB (ZF (Ws O5 rfl T.list Ph (ZF (X5 (pv 2) rfl) ZD)) ZD))))) Zw)
  (ZP (Zk (XR (ZF YB (ZF (Ws O5 rfl T.list Ph (ZF (X5 (pv 2) rfl) ZD)) ZD))))))),?_⟩
 let⟨dx,hS⟩:=R.sh.self;let⟨dt,hx⟩:=R.tw.self;exists _,Z,S,dx,_,Z,hS,Z,_,Z,S,d,lk,n,kvs,ls,i,.ref x,Z,R.sh,R.val;let hlk:=R.sh.looks;exists _,Z,S,kP,dx,_,.ref lk,Z,hS,L.cS,L.nl,Z,.inl ⟨Z,_,ZI.of hlk⟩,_,Z,lk,ls,.int i,Z,Z,hlk,ZQc (by lia)
 let ke:∀ b o,b≠lk->H b=some o->upd H lk (.lst (ls++[.int i])) b=some o:=λb o n e=>by rw[ZY n];exact e
 let xlk:x≠lk:=Zg hx hlk (by intro z;cases z)
 let tglk:tg≠lk:=Zg htg hlk (by intro z;cases z)
 let hx1:=ke _ _ xlk hx;let htg1:=ke _ _ tglk htg;let hab1:=ke _ _ (Ne.symm lab) R.tw.above;let htl1:=ke _ _ (Ne.symm ltl) htl;let hlk1:upd H lk (.lst (ls++[.int i])) lk=some (.lst (ls++[.int i])):=ZZ;let fin:∀(w:Str)(l' t:aj),upd H lk (.lst (ls++[.int i])) l'=none->upd (upd H lk (.lst (ls++[.int i]))) l' (.lst us) t=none->w=(if hh > 0 then ("stem" : Str) else "leaf")->Q (.ref t) (upd (upd (upd H lk (.lst (ls++[.int i]))) l' (.lst us)) t (.tup [.str w,.ref l'])):=λw l' t hl' ht ew=>by
  let g1:=Zq hl' (.lst us);let g2:=Zq ht (.tup [.str w,.ref l']);let g:=g1.trans g2;let nl':H l'=none:=by
   cases z:H l' with
   | none=>rfl
   | some o=>
    have:l'≠lk:=λy=>by rw[y,ZZ] at hl';cases hl'
    rw[ZY this,z] at hl';cases hl'
  refine k _ l' t (λb o n e=>g _ _ (ke b o n e)) (g _ _ hlk1) nl' (g2 _ _ ZZ) ?_;rw[ZZ,ew]
 exists _,Z,x,.ref tl,tg,ab,ho,as,hh,xs,Z,⟨⟨dt,hx1⟩,hab1⟩,htg1,_,Z;by_cases hp:hh > 0
 ·rw[aI hp];refine Z7 ⟨_,Z,x,kQ,dt,_,.ref tl,Z,hx1,L.cT,L.nth,Z,tl,us,Z,.inl (ZI.of htl1),λl' hl'=>⟨nn (zR rfl),λt ht=>?_⟩⟩;exact fin _ l' t hl' ht (by rw[aK hp])
 ·rw[aH hp];refine Zn ⟨_,Z,x,kQ,dt,_,.ref tl,Z,hx1,L.cT,L.nth,Z,tl,us,Z,.inl (ZI.of htl1),λl' hl'=>⟨nn (zR rfl),λt ht=>?_⟩⟩;exact fin _ l' t hl' ht (by rw[aJ hp])
structure XC where
 x:aj
 th:aj
 tg:aj
 ab:aj
abbrev kf:=List XC
def XC.d:XC:=⟨0,0,0,0⟩
structure PM(kQ:aj)(H:Hp)(ts:jN)(av:Nat->jK)(ho:Nat->Nat)(i:Nat)(a:XC):Prop where
 tw:Wo kQ H a.x (.ref a.th) (.ref a.tg) a.ab (ho i) (iN (av i))
 things:∃ us,H a.th=some (.lst us)/\((gd ts i).h=0->kK H (Y1 (gd ts i).rows) us)/\((gd ts i).h≠0->us=iN (gd ts i).bs)
 tag:Yt H (YW (gd ts i)) (.ref a.tg)
def PM.same{kQ:aj}{H H':Hp}{ts:jN}{av:Nat->jK}{ho:Nat->Nat}{i:Nat}{a:XC}(h:PM kQ H ts av ho i a)(s:ZC H H'):PM kQ H' ts av ho i a:=by
 let⟨us,e1,e2,e3⟩:=h.things;exact⟨h.tw.same s,⟨us,s _ _ e1,λz=>(e2 z).mono (ZC.tups s) _ _,e3⟩,h.tag.mono (ZC.tups s)⟩
structure YN(kP kQ:aj)(H:Hp)(S d lk:aj)(lv:jK)(ts:jN)(av:Nat->jK)(ho:Nat->Nat)(as:kf)(kvs:List (Zi×V))(ls:jh):Prop where
 sh:XT kP H S d lk ts.length kvs ls
 lt:∀ i∈lv,i<ts.length
 keys:kvs.map (·.1)=lv.map (λi:Nat=>(Sum.inl (i:Int):Zi))
 val:∀ i:Nat,i∈lv->YM kvs (Sum.inl (i:Int))=some (.ref (as.getD i .d).x)
 len:as.length=ts.length
 tw:∀ i:Nat,i∈lv->PM kQ H ts av ho i (as.getD i .d)
 own:∀ i:Nat,i∈lv->(as.getD i .d).x≠S/\(as.getD i .d).ab≠lk/\(as.getD i .d).th≠lk/\(as.getD i .d).ab≠(as.getD i .d).th
 two:∀ i j:Nat,i∈lv->j∈lv->i≠j->(as.getD i .d).x≠(as.getD j .d).x/\(as.getD i .d).ab≠(as.getD j .d).ab/\(as.getD i .d).ab≠(as.getD j .d).th/\(as.getD i .d).th≠(as.getD j .d).th
def YN.same{kP kQ:aj}{H H':Hp}{S d lk:aj}{lv:jK}{ts:jN}{av:Nat->jK}{ho:Nat->Nat}{as:kf}{kvs:List (Zi×V)}{ls:jh}(h:YN kP kQ H S d lk lv ts av ho as kvs ls)(s:ZC H H'):YN kP kQ H' S d lk lv ts av ho as kvs ls:=
 ⟨h.sh.same s,h.lt,h.keys,h.val,h.len,λi hi=>(h.tw i hi).same s,h.own,h.two⟩
def PM.frame{kQ:aj}{H H':Hp}{ts:jN}{av:Nat->jK}{ho:Nat->Nat}{i:Nat}{a:XC}(h:PM kQ H ts av ho i a)(m:YD H H')(kx:∀ o,H a.x=some o->H' a.x=some o)(kt:∀ o,H a.th=some o->H' a.th=some o)(ka:∀ o,H a.ab=some o->H' a.ab=some o):PM kQ H' ts av ho i a:=by
 let⟨us,e1,e2,e3⟩:=h.things;let⟨dx,e4⟩:=h.tw.self;exact⟨⟨⟨dx,kx _ e4⟩,ka _ h.tw.above⟩,⟨us,kt _ e1,λz=>(e2 z).mono m _ _,e3⟩,h.tag.mono m⟩
def YN.none{kP kQ:aj}{H:Hp}{S d lk:aj}{lv:jK}{ts:jN}{av:Nat->jK}{ho:Nat->Nat}{as:kf}{kvs:List (Zi×V)}{ls:jh}(h:YN kP kQ H S d lk lv ts av ho as kvs ls){x:Int}(hx:HR lv x=false):YM kvs (Sum.inl x)=tO:=by
 cases z:YM kvs (Sum.inl x) with
 | none=>rfl
 | some v=>
  have:=BD z;rw[h.keys] at this;let⟨i,hi,ei⟩:=yR.mp this;let e1:=Sum.inl.inj ei;unfold HR at hx;exact absurd ⟨by lia,by rw[<-e1];exact hi⟩ (of_decide_eq_false hx)
def MD(av:Nat->jK)(b st:Nat):Nat->jK:=λi=>if i=b then av i++[st] else av i
def VZ(ho:Nat->Nat)(b:Nat):Nat->Nat:=λi=>if i=b then ho i-1 else ho i
def YN.touch{kP kQ:aj}{H H':Hp}{S d lk:aj}{lv:jK}{ts:jN}{av:Nat->jK}{ho:Nat->Nat}{as:kf}{kvs:List (Zi×V)}{ls:jh}(R:YN kP kQ H S d lk lv ts av ho as kvs ls){b st:Nat}(hb:b∈lv)(hx:∃ dx,H' (as.getD b .d).x=some (.ins kQ dx (Ut (.ref (as.getD b .d).th) (.ref (as.getD b .d).tg) (as.getD b .d).ab (ho b-1))))(ha:H' (as.getD b .d).ab=some (.lst (iN (av b++[st]))))(k:∀ c o,c≠(as.getD b .d).x->c≠(as.getD b .d).ab->H c=some o->H' c=some o):YN kP kQ H' S d lk lv ts (MD av b st) (VZ ho b) as kvs ls:=by
 let⟨⟨dS,hS⟩,hd,hl⟩:=R.sh;let Wb:=R.tw b hb;let⟨dx0,hx0⟩:=Wb.tw.self;let hab:=Wb.tw.above;let⟨us,e1,e2,e3⟩:=Wb.things;let m:YD H H':=λc xs e=>k c _ (Zg e hx0 (by intro z;cases z)) (Zg e hab (by intro z;cases z)) e
 refine⟨⟨⟨dS,k _ _ (R.own b hb).1.symm (Zg hS hab (by intro z;cases z)) hS⟩,k _ _ (Zg hd hx0 (by intro z;cases z)) (Zg hd hab (by intro z;cases z)) hd,k _ _ (Zg hl hx0 (by intro z;cases z)) (R.own b hb).2.1.symm hl⟩,R.lt,R.keys,R.val,R.len,λi hi=>?_,R.own,R.two⟩
 by_cases z:i=b
 ·subst z;let ea:MD av i st i=av i++[st]:=aK Z;let eh:VZ ho i i=ho i-1:=aK Z;refine⟨⟨?_,?_⟩,⟨us,k _ _ (Zg e1 hx0 (by intro z;cases z)) (R.own i hi).2.2.2.symm e1,λz=>(e2 z).mono m _ _,e3⟩,Wb.tag.mono m⟩
  ·rw[eh];exact hx
  ·rw[ea];exact ha
 ·let ea:MD av b st i=av i:=aJ z;let eh:VZ ho b i=ho i:=aJ z;let Wi:=R.tw i hi;let⟨t1,t2,t3,t4⟩:=R.two i b hi hb z;let⟨s1,s2,s3,s4⟩:=R.two b i hb hi (Ne.symm z);let⟨dx1,hx1⟩:=Wi.tw.self;let⟨vs,f1,_⟩:=Wi.things;let G:=Wi.frame m (λo e=>k _ _ t1 (by have:=hx1.symm.trans e;exact Zg hx1 hab (by intro z;cases z)) e) (λo e=>k _ _ (Zg f1 hx0 (by intro z;cases z)) s3.symm e) (λo e=>k _ _ (Zg Wi.tw.above hx0 (by intro z;cases z)) t2 e)
  refine⟨?_,G.things,G.tag⟩;rw[ea,eh];exact G.tw
def V3(bs:jK)(st:Nat)(av:Nat->jK):Nat->jK:=λi=>if i∈bs then av i++[st] else av i
def Um(bs:jK)(ho:Nat->Nat):Nat->Nat:=λi=>if i∈bs then ho i-1 else ho i
def Br{bs:jK}{b st:Nat}{av:Nat->jK}(h:b∉bs):MD (V3 bs st av) b st=V3 (bs++[b]) st av:=by
 funext i
 unfold MD V3;by_cases z:i=b
 ·subst z;rw[aK rfl,aJ h,aK (by simp)]
 ·rw[aJ z];by_cases y:i∈bs
  ·rw[aK y,aK (by simp[y])]
  ·rw[aJ y,aJ (by simp[y,z])]
def ZLK{bs:jK}{b:Nat}{ho:Nat->Nat}(h:b∉bs):VZ (Um bs ho) b=Um (bs++[b]) ho:=by
 funext i
 unfold VZ Um;by_cases z:i=b
 ·subst z;rw[aK rfl,aJ h,aK (by simp)]
 ·rw[aJ z];by_cases y:i∈bs
  ·rw[aK y,aK (by simp[y])]
  ·rw[aJ y,aJ (by simp[y,z])]
abbrev Ii:Stmt:=Wc (top 47) 21
inductive XJ(kP kQ:aj)(vs:jh)(H:Hp)(Q:VK)(_:XK):Prop
 |mk(S d lk l:aj)(lv:jK)(ts:jN)(av:Nat->jK)(ho:Nat->Nat)(as:kf)(kvs:List (Zi×V))(ls:jh)(bs:jK)(st:Nat)(_:vs=[.ref S,.int st,.ref l])(_:YN kP kQ H S d lk lv ts av ho as kvs ls)(_:H l=some (.lst (iN bs)))(_:bs.Nodup)(_:∀ b∈bs,b∈lv/\1<=ho b/\(av b).length<=900)(_:∀ b:Nat,b∈lv->l≠(as.getD b .d).ab)(_:∀ H':Hp,(∀ c o,(∀ b:Nat,b∈lv->c≠(as.getD b .d).x/\c≠(as.getD b .d).ab)->H c=some o->H' c=some o)->(∀ c,H' c=none->H c=none)->YN kP kQ H' S d lk lv ts (V3 bs st av) (Um bs ho) as kvs ls->Q .non H')
abbrev Cz:jP:=["self","stem","branches","branch","twig"]
def WA:ZB Cz zE0 (Zl Ii):=⟨Z,Z,Z,by decide +kernel,Z,by decide +kernel,by decide +kernel⟩
def ZGL(F:Zo K "take_over" "Shelf.take_over" Ii f fd)(L:Y4 K mg kP kQ)(DT:ZH P w K mg kT ZV 1 kP "twig_of" zEa (Z0 kP)):ZK P w K mg kT ZV 2 f fd zE0 (XJ kP kQ):=by
 refine F.ok WA (λvs H Q E h=>(by let⟨_,_,_,_,_,_,_,_,_,_,_,_,_,rfl,_⟩:=h;rfl)) (λcdv A outer s H vs Q E hr h=>?_)
 let⟨S,d,lk,l,lv,ts,av,ho,as,kvs,ls,bs,st,rfl,R,hl,hnd,hb,hla,k⟩:=h;let nd:=WA.nd;refine⟨_,ZP (Xi PassesOwn.never rfl (Xu (pv 2)) (XB (i:=3) nd rfl (Or.inl rfl))
  (ZO (Zr (i:=4) nd rfl (Or.inl rfl) (XM (E:=E0) (pv 0) L.cS DT hr Yd (ZF (pv 3) ZD)))
  (ZO (HK (pv 4) ZL Dt)
  (ZP (Xd (WW yB wC wB Qh (X5 (pv 4) rfl) (ZF (pv 1) ZD))))))),?_⟩
 refine⟨_,Z,l,Z,⟨_,ZI.of hl⟩,Vt (K:=K) (a:=l) (xs:=iN bs) (λi σ H2=>∃ x y:ji,σ=[some (.ref S),some (.int st),some (.ref l),x,y]/\(∀ c o,(∀ b:Nat,b∈lv->c≠(as.getD b .d).x/\c≠(as.getD b .d).ab)->H c=some o->H2 c=some o)/\(∀ c,H2 c=none->H c=none)/\YN kP kQ H2 S d lk lv ts (V3 (bs.take i) st av) (Um (bs.take i) ho) as kvs ls)
  ⟨_,_,Z,λc o _ e=>e,λc e=>e,(by
   let e1:V3 [] st av=av:=funext λi=>aJ (by simp)
   let e2:Um [] ho=ho:=funext λi=>aJ (by simp)
   rw[show bs.take 0=[] from rfl,e1,e2];exact R)⟩ ?_ ?_ ?_⟩
 ·rintro i σ H2 _ ⟨x,y,rfl,k2,_,R2⟩;refine ZI.of (k2 _ _ (λb hb=>⟨?_,hla b hb⟩) hl);let⟨dx,hx⟩:=(R.tw b hb).tw.self;exact Zg hl hx (by intro z;cases z)
 ·rintro i u σ H2 hu2 ⟨x,y,rfl,k2,k3,R2⟩;unfold iN at hu2;rw[zC] at hu2;let⟨b,eb,rfl⟩:=xY.mp hu2;let⟨hbl,hb1,hb9⟩:=hb b (zG eb);let hnb:b∉bs.take i:=λz=>by
   let hs:bs=bs.take i++b::bs.drop (i+1):=by
    let hi:=(yY.mp eb);let⟨hi,e⟩:=hi;rw[<-e,<-wA hi,wF]
   rw[hs,uV] at hnd;exact hnd.2.2 b z b (by simp) Z
  let eho:Um (bs.take i) ho b=ho b:=aJ hnb;let eav:V3 (bs.take i) st av b=av b:=aJ hnb;let⟨dS,hS⟩:=R2.sh.self;let Wb:=R2.tw b hbl;let⟨dt,hx⟩:=Wb.tw.self;let hab:=Wb.tw.above;rw[eho] at hx;rw[eav] at hab;exists _,Z,S,dS,_,Z,hS,Z,_,Z,S,d,lk,ts.length,kvs,ls,(b:Int),.ref (as.getD b .d).x,Z,R2.sh,R2.val b hbl;exists _,Z,(as.getD b .d).x,kQ,dt,_,.int (ho b:Nat),Z,hx,L.cT,L.nho,Z,_,_,Z,Z,dt,_,hx,zR Z;let eh:((ho b:Nat):Int)-1=((ho b-1:Nat):Int):=by lia
  let hx3:upd H2 (as.getD b .d).x (.ins kQ dt (Yx "holds" (.int (((ho b:Nat):Int)-1)) (Ut (.ref (as.getD b .d).th) (.ref (as.getD b .d).tg) (as.getD b .d).ab (ho b)))) (as.getD b .d).x=some (.ins kQ dt (Ut (.ref (as.getD b .d).th) (.ref (as.getD b .d).tg) (as.getD b .d).ab (ho b-1))):=by rw[ZZ,eh];rfl
  let xab:(as.getD b .d).ab≠(as.getD b .d).x:=Zg hab hx (by intro z;cases z)
  let hab3:upd H2 (as.getD b .d).x (.ins kQ dt (Yx "holds" (.int (((ho b:Nat):Int)-1)) (Ut (.ref (as.getD b .d).th) (.ref (as.getD b .d).tg) (as.getD b .d).ab (ho b)))) (as.getD b .d).ab=some (.lst (iN (av b))):=by rw[ZY xab];exact hab
  let ke3:∀ c o,c≠(as.getD b .d).x->H2 c=some o->upd H2 (as.getD b .d).x (.ins kQ dt (Yx "holds" (.int (((ho b:Nat):Int)-1)) (Ut (.ref (as.getD b .d).th) (.ref (as.getD b .d).tg) (as.getD b .d).ab (ho b)))) c=some o:=λc o n e=>by rw[ZY n];exact e
  let no3:∀ c,upd H2 (as.getD b .d).x (.ins kQ dt (Yx "holds" (.int (((ho b:Nat):Int)-1)) (Ut (.ref (as.getD b .d).th) (.ref (as.getD b .d).tg) (as.getD b .d).ab (ho b)))) c=none->H2 c=none:=λc e=>by
   by_cases z:c=(as.getD b .d).x
   ·rw[z,ZZ] at e;cases e
   ·rw[ZY z] at e;exact e
  generalize upd H2 (as.getD b .d).x (.ins kQ dt (Yx "holds" (.int (((ho b:Nat):Int)-1)) (Ut (.ref (as.getD b .d).th) (.ref (as.getD b .d).tg) (as.getD b .d).ab (ho b))))=H3 at hx3 hab3 ke3 no3⊢;exists _,Z,(as.getD b .d).x,kQ,dt,_,.ref (as.getD b .d).ab,Z,hx3,L.cT,L.nab,Z,.inl ⟨Z,_,ZI.of hab3⟩,_,Z,(as.getD b .d).ab,_,.int st,Z,Z,hab3,YF (by rw[show (iN (av b)).length=(av b).length from zY _];lia)
  let et:bs.take (i+1)=bs.take i++[b]:=by rw[yW,eb];rfl
  exists _,_,Z,λc o hc e=>?_,λc e=>?_
  ·let⟨n1,n2⟩:=hc b hbl;rw[ZY n2];exact ke3 _ _ n1 (k2 c o hc e)
  ·by_cases z:c=(as.getD b .d).ab
   ·rw[z,ZZ] at e;cases e
   ·rw[ZY z] at e;exact k3 c (no3 c e)
  ·rw[et,<-Br hnb,<-ZLK hnb];refine R2.touch hbl ⟨dt,?_⟩ ?_ λc o n1 n2 e=>?_
   ·rw[ZY (Ne.symm xab),eho];exact hx3
   ·rw[ZZ,eav];simp[iN]
   ·rw[ZY n2];exact ke3 _ _ n1 e
 ·rintro σ H2 ⟨x,y,rfl,k2,k3,R2⟩;rw[show (iN bs).length=bs.length from zY _,yS (zX _)] at R2;exact k H2 k2 k3 R2
def CV{X:Cx}{k:Nat}{C:aj}{x:Str}{ps:jP}{sp:Sp}{e:Expr}{es:jU}{t:TA}{p pos:Pos}(D:Ud X.prog X.w X.K X.mg X.base k C ps sp)(hr:Zf (k+1) X.A)(hg:Gl X x)(hm:X.mg x=some (.ref C))(ha:PA X (e::es) t)(jy:(x==("__debug__" : Str))=false:=by decide)(he:aw (e::es) X.env=(false,aF e X.env)::aw es X.env:=by rfl)(jp:(aE pos (aw es X.env)).any (·.1)=false:=by rfl):
  PE X (.Call (.Name x p) (e::es) [] pos) (Nc C sp [] E0 t):=by
 let⟨f,fd,M,F,b⟩:=D.ex;exact Fj M F hr hg hm b .nil Yd ha jy he jp
def AQ{X:Cx}{k:Nat}{C:aj}{x:Str}{ps:jP}{sp:Sp}{p pos:Pos}(D:Ud X.prog X.w X.K X.mg X.base k C ps sp)(hr:Zf (k+1) X.A)(hg:Gl X x)(hm:X.mg x=some (.ref C))(jy:(x==("__debug__" : Str))=false:=by decide):PE X (.Call (.Name x p) [] [] pos) (Nc C sp [] E0 Uu):=by
 let⟨f,fd,M,F,b⟩:=D.ex;exact Av M F hr hg hm b .nil Yd jy
def Uf(n:Nat)(av:Nat->jK):Nat->jK:=λi=>if i=n then [] else av i
def Qe(n:Nat)(ho:Nat->Nat):Nat->Nat:=λi=>if i=n then 1 else ho i
def Ls{ts:jN}{t:ZW}{i:Nat}(h:i<ts.length):gd (ts++[t]) i=gd ts i:=by
 unfold gd;rw[zQ,xA h,<-zQ]
def M6{ts:jN}{t:ZW}:gd (ts++[t]) ts.length=t:=by
 unfold gd;rw[zQ,wZ (zX _)];simp
def Kc{as:kf}{a:XC}{i:Nat}(h:i<as.length):(as++[a]).getD i .d=as.getD i .d:=by
 rw[zQ,xA h,<-zQ]
def JD{as:kf}{a:XC}:(as++[a]).getD as.length .d=a:=by
 rw[zQ,wZ (zX _)];simp
def FY{kP kQ:aj}{H H':Hp}{S d lk:aj}{lv:jK}{ts:jN}{av:Nat->jK}{ho:Nat->Nat}{as:kf}{kvs:List (Zi×V)}{ls:jh}(R:YN kP kQ H S d lk lv ts av ho as kvs ls){t:ZW}{x th tg ab:aj}(fr:∀ b o,b≠S->b≠d->H b=some o->H' b=some o)(nx:H x=none)(nth:H th=none)(nab:H ab=none)(abth:ab≠th)(R':XT kP H' S d lk (ts.length+1) (Xo kvs (.inl (ts.length:Int)) (.ref x)) ls)(W:Wo kQ H' x (.ref th) (.ref tg) ab 1 [])(hth:∃ us,H' th=some (.lst us)/\(t.h=0->kK H' (Y1 t.rows) us)/\(t.h≠0->us=iN t.bs))(htg:Yt H' (YW t) (.ref tg)):
  YN kP kQ H' S d lk (lv++[ts.length]) (ts++[t]) (Uf ts.length av) (Qe ts.length ho) (as++[⟨x,th,tg,ab⟩]) (Xo kvs (.inl (ts.length:Int)) (.ref x)) ls:=by
 let⟨⟨dS,hS⟩,hd,hl⟩:=R.sh;let m:YD H H':=λc xs e=>fr c _ (Zg e hS (by intro z;cases z)) (Zg e hd (by intro z;cases z)) e
 let en:(ts++[t]).length=ts.length+1:=by simp
 let nv:YM kvs (Sum.inl (ts.length:Int))=none:=R.none (by unfold HR;exact aH (λz=>by have:=R.lt _ z.2;lia))
 let lt_or:∀ i,i∈lv++[ts.length]->i∈lv\/i=ts.length:=λi hi=>(yU.mp hi).imp_right zN.mp;let el:as.length=ts.length:=R.len;let aL:∀ i,i∈lv->(as++[(⟨x,th,tg,ab⟩:XC)]).getD i .d=as.getD i .d:=λi hi=>Kc (by have:=R.lt i hi;lia)
 let aN:(as++[(⟨x,th,tg,ab⟩:XC)]).getD ts.length .d=⟨x,th,tg,ab⟩:=by rw[<-el];exact JD
 let old:∀ i,i∈lv->∃ dx us o,H (as.getD i .d).x=some (.ins kQ dx us)/\H (as.getD i .d).th=some (.lst o)/\H (as.getD i .d).ab=some (.lst (iN (av i))):=λi hi=>by
  let⟨dx,e1⟩:=(R.tw i hi).tw.self;let⟨us,e2,_⟩:=(R.tw i hi).things;exact⟨dx,_,us,e1,e2,(R.tw i hi).tw.above⟩
 let nS:x≠S:=(Ze hS nx).symm;let ablk:ab≠lk:=(Ze hl nab).symm;let thlk:th≠lk:=(Ze hl nth).symm;refine⟨by rw[en];exact R',λi hi=>by rw[en];exact(lt_or i hi).elim (λc=>by have:=R.lt i c;lia) (λc=>by lia),?_,λi hi=>?_,by simp[el],λi hi=>?_,λi hi=>?_,λi j hi hj hij=>?_⟩
 ·rw[Jw _ nv,yZ,R.keys,yZ];rfl
 ·rw[GT];rcases lt_or i hi with c | rfl
  ·rw[aJ (λz=>by have:=Sum.inl.inj z;have:=R.lt i c;lia),aL i c]
   exact R.val i c
  ·rw[aK rfl,aN]
 ·rcases lt_or i hi with c | rfl
  ·let Wi:=R.tw i c;let⟨dx,us,o,e1,e2,e3⟩:=old i c;let il:=R.lt i c;let ni:i≠ts.length:=by lia
   let G:=Wi.frame m (λo' e=>fr _ _ (R.own i c).1 (Zg e1 hd (by intro z;cases z)) e) (λo' e=>fr _ _ (Zg e2 hS (by intro z;cases z)) (Zg e2 hd (by intro z;cases z)) e) (λo' e=>fr _ _ (Zg e3 hS (by intro z;cases z)) (Zg e3 hd (by intro z;cases z)) e)
   rw[aL i c];exists ?_,?_
   ·rw[show Uf ts.length av i=av i from aJ ni,show Qe ts.length ho i=ho i from aJ ni];exact G.tw
   ·rw[Ls il];exact G.things
   ·rw[Ls il];exact G.tag
  ·rw[aN];exists ?_,?_
   ·rw[show Uf ts.length av ts.length=[] from aK rfl,show Qe ts.length ho ts.length=1 from aK rfl];exact W
   ·rw[M6];exact hth
   ·rw[M6];exact htg
 ·rcases lt_or i hi with c | rfl
  ·rw[aL i c];exact R.own i c
  ·rw[aN];exact⟨nS,ablk,thlk,abth⟩
 ·rcases lt_or i hi with c | rfl
  ·rw[aL i c];rcases lt_or j hj with c2 | rfl
   ·rw[aL j c2];exact R.two i j c c2 hij
   ·rw[aN];let⟨dx,us,o,e1,e2,e3⟩:=old i c;exact⟨Ze e1 nx,Ze e3 nab,Ze e3 nth,Ze e2 nth⟩
  ·rw[aN];rcases lt_or j hj with c2 | rfl
   ·rw[aL j c2];let⟨dx,us,o,e1,e2,e3⟩:=old j c2;exact⟨(Ze e1 nx).symm,(Ze e3 nab).symm,(Ze e2 nab).symm,(Ze e2 nth).symm⟩
   ·exact absurd Z hij
inductive Y8(kP kQ:aj)(vs:jh)(H:Hp)(Q:VK)(_:XK):Prop
 |mk(S d lk:aj)(n:Nat)(kvs:List (Zi×V))(ls:jh)(th tg:V)(_:vs=[.ref S,th,tg])(_:XT kP H S d lk n kvs ls)(_:kvs.length<=900)(_:∀(H':Hp)(x ab:aj),H x=none->H ab=none->(∀ b o,b≠S->b≠d->H b=some o->H' b=some o)->XT kP H' S d lk (n+1) (Xo kvs (.inl (n:Int)) (.ref x)) ls->Wo kQ H' x th tg ab 1 []->Q (.int (n:Int)) H')
def Wv:ZB ["self","things","label","number"] zEv (Zl Jm):=⟨Z,Z,Z,by decide +kernel,Z,by decide +kernel,by decide +kernel⟩
def ZIJ(F:Zo K "put_twig" "Shelf.put_twig" Jm f fd)(L:Y4 K mg kP kQ)(DM:Ud P w K mg kT 1 kQ zEz (QJ kQ)):ZK P w K mg kT ZV 3 f fd zEv (Y8 kP kQ):=by
 refine F.ok Wv (λvs H Q E h=>(by let⟨_,_,_,_,_,_,_,_,rfl,_⟩:=h;rfl)) (λcdv A outer s H vs Q E hr h=>?_)
 let⟨S,d,lk,n,kvs,ls,th,tg,rfl,R,l100,k⟩:=h;let nd:=Wv.nd;let hu:=D7 hr;refine⟨_,ZO (Zr (i:=3) nd rfl (Or.inl rfl) (X5 (pv 0) rfl)) (ZO (U3 (pv 0) (Zs Y2 (pv 3) ZL) rfl)
  (ZO (Ma hu (X5 (pv 0) rfl) (pv 3) (CV DM hr rfl L.twig (ZF (pv 1) (ZF (pv 2) ZD))) rfl) (ZP (Zk (pv 3))))),?_⟩
 let⟨⟨dx,hS⟩,hd,hl⟩:=R;let Sd:S≠d:=Zg hS hd (by intro z;cases z)
 let Sl:S≠lk:=Zg hS hl (by intro z;cases z)
 let dl:d≠lk:=Zg hd hl (by intro z;cases z)
 exists _,Z,S,kP,dx,_,.int n,Z,hS,L.cS,L.nf,Z;exists _,Z,_,_,Z,Z,_,Z,S,kP,dx,_,Z,hS,L.cS,L.nf,zR Z;let hS1:upd H S (.ins kP dx (Yx "following" (.int ((n:Int)+1)) (Pb d lk n))) S=some (.ins kP dx (Pb d lk (n+1))):=ZZ;let hd1:upd H S (.ins kP dx (Yx "following" (.int ((n:Int)+1)) (Pb d lk n))) d=some (.dK kvs):=by rw[ZY (Ne.symm Sd)];exact hd
 let hl1:upd H S (.ins kP dx (Yx "following" (.int ((n:Int)+1)) (Pb d lk n))) lk=some (.lst ls):=by rw[ZY (Ne.symm Sl)];exact hl
 let ke1:∀ b o,b≠S->H b=some o->upd H S (.ins kP dx (Yx "following" (.int ((n:Int)+1)) (Pb d lk n))) b=some o:=λb o n e=>by rw[ZY n];exact e
 let no1:∀ b,upd H S (.ins kP dx (Yx "following" (.int ((n:Int)+1)) (Pb d lk n))) b=none->H b=none:=λb e=>by
  by_cases z:b=S
  ·rw[z,ZZ] at e;cases e
  ·rw[ZY z] at e;exact e
 generalize upd H S (.ins kP dx (Yx "following" (.int ((n:Int)+1)) (Pb d lk n)))=H1 at hS1 hd1 hl1 ke1 no1⊢;refine⟨_,Z,_,Z,λx dt nx ndt ne=>?_⟩;let g1:=Zq ndt (.own x);let nx2:upd H1 dt (.own x) x=none:=by rw[ZY (Ne.symm ne)];exact nx
 let g2:=Zq nx2 (.ins kQ dt []);let g:=g1.trans g2;refine⟨x,dt,th,tg,Z,ZZ,λH2 ab ke2 nab W=>⟨Z,?_⟩⟩;let fr:∀ b o,H1 b=some o->H2 b=some o:=λb o e=>ke2 b o (Ze e nx) (g b o e);let hS2:=fr _ _ hS1;let hd2:=fr _ _ hd1;let hl2:=fr _ _ hl1;let hab1:H1 ab=none:=g.free nab;let⟨dx2,hx2⟩:=W.self;let xd:x≠d:=Zg hx2 hd2 (by intro z;cases z)
 let abd:ab≠d:=Zg W.above hd2 (by intro z;cases z)
 exists _,Z,S,kP,dx,_,.ref d,Z,hS2,L.cS,L.nk,Z,_,Z,d,_,Z,QE.k (k:=Sum.inl (n:Int)) hd2 (YF (by lia))
 refine⟨_,Z,k _ x ab (no1 _ nx) (no1 _ hab1) (λb o n1 n2 e=>?_) ⟨⟨dx,?_⟩,ZZ,?_⟩ ⟨⟨dx2,?_⟩,?_⟩⟩
 ·rw[ZY n2];exact fr b o (ke1 b o n1 e)
 ·rw[ZY Sd];exact hS2
 ·rw[ZY (Ne.symm dl)];exact hl2
 ·rw[ZY xd];exact hx2
 ·rw[ZY abd];exact W.above
def ZI5{H:Hp}{rs:jT}{us:jh}(h:kK H (Y1 rs) us):GH H (rs.map (·.1)) us:=by
 let hl:us.length=rs.length:=by have:=h.length;rw[<-this];exact zY _
 refine⟨by rw[zY];exact hl,λi u e=>?_⟩
 let⟨a,vk,vv,er,e1,e2,k1,_⟩:=Oz h e;exists a,vk,vv,e1,e2;rw[zQ,zC,er];exact k1
inductive QQ(vs:jh)(H:Hp)(Q:VK)(_:XK):Prop
 |mk(v:V)(t:KT)(_:vs=[v])(_:ZE H t v)(_:t.fits 3=true)(_:∀ H',ZC H H'->Q v H')
def ZKE:ZB zE6 zE6 (Zl JN):=⟨Z,Z,Z,by decide +kernel,Z,by decide +kernel,by decide +kernel⟩
def Bx(F:Zo K "checked" "checked" JN f fd)(DI:ZA P w K mg kT 6 "is_key" zE6 VM):ZK P w K mg kT ZV 7 f fd zE6 QQ:=by
 refine F.ok ZKE (λvs H Q E h=>(by let⟨_,_,rfl,_⟩:=h;rfl)) (λcdv A outer s H vs Q E hr h=>?_)
 let⟨v,t,rfl,hv,hf,k⟩:=h;exists _,ZO (Zt (VW (XD (Zc DI hr (ZF (pv 0) ZD)))) O3 Zw) (ZP (Zk (pv 0)));refine⟨_,Z,v,t,3,Z,hv,hf,λH1 s1=>⟨_,Z,?_⟩⟩;rw[hf];exact Zn ⟨_,Z,k H1 s1⟩
inductive Xm(vs:jh)(H:Hp)(Q:VK)(_:XK):Prop
 |mk(l:aj)(us:jh)(rs:jT)(_:vs=[.ref l])(_:H l=some (.lst us))(_:kK H (Y1 rs) us)(_:∀ r∈rs,r.fit)(_:us.length<=100)(_:∀(H':Hp)(l':aj)(us':jh),ZC H H'->H l'=none->H' l'=some (.lst us')->kK H' (Y1 rs) us'->Q (.ref l') H')
def ZKZ:ZB zEs zEs (Zl IW):=⟨Z,Z,Z,by decide +kernel,Z,by decide +kernel,by decide +kernel⟩
def ZIQ(F:Zo K "own_rows" "own_rows" IW f fd)(DC:ZA P w K mg kT 7 "checked" zE6 QQ):ZK P w K mg kT ZV 8 f fd zEs Xm:=by
 refine F.ok ZKZ (λvs H Q E h=>(by let⟨_,_,_,rfl,_⟩:=h;rfl)) (λcdv A outer s H vs Q E hr h=>?_)
 let⟨l,us,rs,rfl,hl,hk,hf,h100,k⟩:=h;let lk:us.length=rs.length:=by have:=hk.length;rw[<-this];exact zY _
 refine⟨_,ZP (Zk (Wx [] [] rfl (Xu (pv 0)) (λ_ _ _ _ _=>Wj)
   (λ_ _ _ _ _=>XR (ZF (Zc DC hr (ZF (Za (r:=YE K) YH (pv 0) ZL (λ_ _=>rfl)) ZD)) (ZF (Zc DC hr (ZF (Za (r:=YE K) YH (pv 0) ZL (λ_ _=>rfl)) ZD)) ZD))) trivial)),?_⟩
 exists _,Z,l,Z,⟨us,ZI.of hl⟩;refine Wa (n:=us.length) (λi z=>us[i]? = some z) (λD i ys H3=>ZC H H3/\H D=none/\kK H3 (Y1 (rs.take i)) ys) (YF (by lia))
  (λD i ys H3 hi hP=>⟨us,us[i],ZI.of (hP.1 _ _ hl),by simp[hi]⟩) (λD i ys H3 z H4 hi hP hy=>⟨hy.1,hy.2 us (ZI.of (hP.1 _ _ hl))⟩) (λD ys H3 hP=>⟨us,ZI.of (hP.1 _ _ hl),zX _⟩)
  (λD hD=>⟨Zq hD _,hD,.nil⟩) (λD i ys H3 z eD hl' hi hz hP R hR=>?_) (λD ys H3 eD hP=>?_)
 ·let⟨s3,nD,hys⟩:=hP;let⟨a,vk,vv,er,rfl,e2,k1,k2⟩:=Oz hk hz;let e3:=s3 _ _ e2;let hfit:=hf _ (zG er);refine⟨_,Z,.inr (.inl ⟨a,_,_,vk,rfl,rfl,Zd.of e3,rfl,vk,_,rfl,k1.mono (ZC.tups s3) _ _,hfit.1,λH4 s4=>?_⟩)⟩;refine⟨_,Z,.inr (.inl ⟨a,_,_,vv,rfl,rfl,Zd.of (s4 _ _ e3),rfl,vv,_,rfl,k2.mono (ZC.tups (s3.trans s4)) _ _,hfit.2,λH5 s5=>?_⟩)⟩;refine⟨nn (zR rfl),λq hq=>?_⟩;let g:=Zq hq (.tup [vk,vv]);let s36:=(s4.trans s5).trans g;let eD6:=s36 _ _ eD;let tD:YD (upd H5 q (.tup [vk,vv])) (upd (upd H5 q (.tup [vk,vv])) D (.lst (ys++[.ref q]))):=λb xs e=>by rw[ZY (Zg e eD6 (by intro z;cases z))];exact e
  refine hR _ _ eD6 ⟨Uh (s3.trans s36) nD,nD,?_⟩;rw[yW,er,MQ];refine((hys.mono (ZC.tups s36) _ _).mono tD _ _).append (.cons (.tup (tD _ _ ZZ) (.cons ?_ (.cons ?_ .nil))) .nil)
  ·exact(k1.mono (ZC.tups (s3.trans s36)) _ _).mono tD _ _
  ·exact(k2.mono (ZC.tups (s3.trans s36)) _ _).mono tD _ _
 ·let⟨s3,nD,hys⟩:=hP;rw[yS (by lia)] at hys
  exact k H3 D ys s3 nD eD hys
inductive VR(vs:jh)(H:Hp)(Q:VK)(_:XK):Prop
 |mk(l:aj)(us:jh)(ks:jM)(_:vs=[.ref l])(_:H l=some (.lst us))(_:kK H ks us)(_:∀ t∈ks,t.fits 3=true)(_:us.length<=100)(_:ks.Pairwise (λa b=>a.lt b=true))(_:∀ H',ZC H H'->Q (.bl true) H')
def ZPL:ZB ["keys"] ["keys"] (Zl J4):=⟨Z,Z,Z,by decide +kernel,Z,by decide +kernel,by decide +kernel⟩
def IX{α:Type}{R:α->α->Prop}:∀{l:List α},l.Pairwise R->∀{i j:Nat}{a b:α},i<j->l[i]? = some a->l[j]? = some b->R a b
 | [],_,_,_,_,_,_,h,_=>by simp at h
 | x::l,hp,0,j+1,a,b,_,ha,hb=>by
  simp at ha hb;subst ha;exact(vQ.mp hp).1 b (zG hb)
 | x::l,hp,i+1,j+1,a,b,hij,ha,hb=>by
  simp at ha hb;exact IX (vQ.mp hp).2 (by lia) ha hb
def Ck(F:Zo K "rise" "rise" J4 f fd)(T:Txt mg)(DA:ZA P w K mg kT 7 "ahead" zE7 X6):ZK P w K mg kT ZV 8 f fd ["keys"] VR:=by
 refine F.ok ZPL (λvs H Q E h=>(by let⟨_,_,_,rfl,_⟩:=h;rfl)) (λcdv A outer s H vs Q E hr h=>?_)
 let⟨l,us,ks,rfl,hl,hk,hf,h100,hup,k⟩:=h;let lk:=hk.length;refine⟨_,ZP (Zk (Zv (Mh rfl) rfl T.all Ln (ZF (Wx [0] ["keys"] rfl (Gk rfl T.range (ZF ZL (ZF (Zv Yk rfl T.len YU (ZF (pv 0) ZD)) ZD))) (λ_ _ _ _ _=>Wj)
  (λ_ _ _ _ _=>Zc DA hr (ZF (Za (r:=YE K) YH (pv 1) (Zs Qk (pv 0) ZL) (λ_ _=>rfl)) (ZF (Za (r:=YE K) YH (pv 1) (pv 0) (λ_ _=>rfl)) ZD))) ⟨rfl,.inl rfl,rfl,trivial⟩) ZD))),?_⟩
 exists _,Z,l,us,Z,.inl (ZI.of hl),1,(us.length:Int),Z,⟨by lia,by lia,by lia,by lia⟩
 refine Wa (n:=((us.length:Int)-1).toNat) (λi x=>x=.int (1+(i:Int))) (λD i ys H3=>ZC H H3/\H D=none/\ys=(xI i true).map V.bl) (YF (by lia))
  (λD i ys H3 hi _=>hi) (λD i ys H3 x H4 hi _ hy=>hy) (λD ys H3 _=>zX _) (λD hD=>⟨Zq hD _,hD,Z⟩) (λD i ys H3 x eD hl' hi hx hP R hR=>?_) (λD ys H3 eD hP=>?_)
 ·subst hx;let⟨s3,nD,rfl⟩:=hP;let hi1:i+1<us.length:=by lia
  let ua:us[i]? = some (us[i]'(by lia)):=zV (by lia)
  let ub:us[i+1]? = some us[i+1]:=zV hi1;let e1:(1:Int)+(i:Int)=((i+1:Nat):Int):=by lia
  let e0:(1:Int)+(i:Int)-1=((i:Nat):Int):=by lia
  let⟨a,ea,ka⟩:=hk.get ua;let⟨b,eb,kb⟩:=hk.get ub;let hl3:=s3 _ _ hl;refine⟨_,Z,_,Z,_,_,Z,Z,.inl ⟨l,us,_,_,Z,Z,ZI.of hl3,(by rw[e0];exact Yj ua),?_⟩⟩
  refine⟨_,Z,_,Z,.inl ⟨l,us,_,_,Z,Z,ZI.of hl3,(by rw[e1];exact Yj ub),?_⟩⟩
  refine⟨_,_,a,b,Z,ka.mono (ZC.tups s3) _ _,kb.mono (ZC.tups s3) _ _,hf a (zG ea),hf b (zG eb),λH4 s4=>?_⟩;rw[IX hup (uI i) ea eb];refine hR _ H4 (s4 D _ eD) ⟨Uh (s3.trans s4) nD,nD,?_⟩;rw[rO,yZ];rfl
 ·let⟨s3,nD,rfl⟩:=hP;exists D,_,Z,ZI.of eD;let e:(xI ((us.length:Int)-1).toNat true).all id=true:=by simp
  rw[e];exact k H3 s3
def Xn(rs:jT):Prop:=(∀ r∈rs,r.fit)/\0<rs.length/\rs.length<=4/\(rs.map (·.1)).Pairwise (λa b=>a.lt b=true)
inductive WN(vs:jh)(H:Hp)(Q:VK)(_:XK):Prop
 |mk(l:aj)(us:jh)(rs:jT)(_:vs=[.ref l])(_:H l=some (.lst us))(_:kK H (Y1 rs) us)(_:Xn rs)(_:∀(H':Hp)(l':aj)(us':jh),ZC H H'->H l'=none->H' l'=some (.lst us')->kK H' (Y1 rs) us'->Q (.ref l') H')
def VX:ZB ["rows","own"] zEs (Zl Ic):=⟨Z,Z,Z,by decide +kernel,Z,by decide +kernel,by decide +kernel⟩
def C6(F:Zo K "checked_rows" "checked_rows" Ic f fd)(T:Txt mg)(DC:ZA P w K mg kT 8 "own_rows" zEs Xm)(DR:ZA P w K mg kT 8 "rise" ["keys"] VR):ZK P w K mg kT ZV 9 f fd zEs WN:=by
 refine F.ok VX (λvs H Q E h=>(by let⟨_,_,_,rfl,_⟩:=h;rfl)) (λcdv A outer s H vs Q E hr h=>?_)
 let⟨l,us,rs,rfl,hl,hk,⟨hf,h0,h4,hup⟩,k⟩:=h;let nd:=VX.nd;let lk:us.length=rs.length:=by have:=hk.length;rw[<-this];exact zY _
 let⟨t4,m4⟩:=T.rows;refine⟨_,ZO (Zr (i:=1) nd rfl (Or.inl rfl) (Zc DC hr (ZF (pv 0) ZD)))
  (ZO (Zt (PW.pt (Vo (VW (En Og Og ZL (Zv Yk rfl T.len YU (ZF (pv 1) ZD)) (WE (v:=.int 4) rfl m4 ⟨_,rfl⟩)))
   (UN (VW (XD (Zc DR hr (ZF (Wx [] [] rfl (Xu (pv 1)) (λ_ _ _ _ _=>Wj) (λ_ _ _ _ _=>Za (r:=YE K) YH (pv 0) ZL (λ_ _=>rfl)) trivial) ZD))))))) O3 Zw)
  (ZP (Zk (pv 1)))),?_⟩
 refine⟨_,Z,l,us,rs,Z,hl,hk,hf,by lia,λH3 D ys s3 nD eD hrw=>?_⟩
 let ly:ys.length=rs.length:=by have:=hrw.length;rw[<-this];exact zY _
 exists _,Z,D,ys,Z,.inl (ZI.of eD),_,_,Z,Z,_,Z;rw[aI (show (1:Int)<=(ys.length:Int) by lia)]
 refine Z7 ⟨_,_,Z,Z,_,Z,?_⟩;rw[aI (show (ys.length:Int)<=4 by lia)]
 refine Zn ?_;exists _,Z,D,Z,⟨ys,ZI.of eD⟩;refine Wa (n:=ys.length) (λi z=>ys[i]? = some z) (λD2 i zs H4=>ZC H3 H4/\H3 D2=none/\kK H3 ((rs.map (·.1)).take i) zs) (YF (by lia))
  (λD2 i zs H4 hi hP=>⟨ys,ys[i],ZI.of (hP.1 _ _ eD),by simp[hi]⟩) (λD2 i zs H4 z H5 hi hP hy=>⟨hy.1,hy.2 ys (ZI.of (hP.1 _ _ eD))⟩) (λD2 zs H4 hP=>⟨ys,ZI.of (hP.1 _ _ eD),zX _⟩)
  (λD2 hD2=>⟨Zq hD2 _,hD2,.nil⟩) (λD2 i zs H4 z eD2 hl2 hi hz hP R hR=>?_) (λD2 zs H4 eD2 hP=>?_)
 ·let⟨s4,nD2,hzs⟩:=hP;let⟨a,vk,vv,er,rfl,e2,k1,_⟩:=Oz hrw hz;refine⟨_,Z,.inr (.inl ⟨a,_,_,vk,rfl,rfl,Zd.of (s4 _ _ e2),rfl,?_⟩)⟩;refine hR _ H4 eD2 ⟨Uh s4 nD2,nD2,?_⟩;rw[yW,zC,er];exact hzs.append (.cons k1 .nil)
 ·let⟨s4,nD2,hzs⟩:=hP;rw[yS (by rw[zY];lia)] at hzs
  let lz:=hzs.length;rw[zY] at lz;refine⟨D2,zs,_,Z,eD2,hzs.mono (ZC.tups s4) _ _,λt ht=>?_,by lia,hup,λH5 s5=>⟨_,Z,Zn ⟨_,Z,k H5 D ys ((s3.trans s4).trans s5) nD (s5 _ _ (s4 _ _ eD)) (hrw.mono (ZC.tups (s4.trans s5)) _ _)⟩⟩⟩
  let⟨r,hr',rfl⟩:=yR.mp ht;exact(hf r hr').1
def Uq(rs:jT):ZW:=⟨0,rs,[]⟩
inductive VB(kP kQ:aj)(vs:jh)(H:Hp)(Q:VK)(_:XK):Prop
 |mk(S d lk l:aj)(lv:jK)(ts:jN)(av:Nat->jK)(ho:Nat->Nat)(as:kf)(kvs:List (Zi×V))(ls us:jh)(rs:jT)(_:vs=[.ref S,.ref l])(_:YN kP kQ H S d lk lv ts av ho as kvs ls)(_:lv.length<=900)(_:H l=some (.lst us))(_:kK H (Y1 rs) us)(_:Xn rs)(_:∀(H':Hp)(a:XC),H a.x=none->H a.th=none->H a.ab=none->(∀ b o,b≠S->b≠d->H b=some o->H' b=some o)->YN kP kQ H' S d lk (lv++[ts.length]) (ts++[Uq rs]) (Uf ts.length av) (Qe ts.length ho) (as++[a]) (Xo kvs (.inl (ts.length:Int)) (.ref a.x)) ls->Q (.int (ts.length:Nat)) H')
def Wr:ZB ["self","rows","own"] zE8 (Zl JI):=⟨Z,Z,Z,by decide +kernel,Z,by decide +kernel,by decide +kernel⟩
def Er{kP kQ:aj}{H:Hp}{S d lk:aj}{lv:jK}{ts:jN}{av:Nat->jK}{ho:Nat->Nat}{as:kf}{kvs:List (Zi×V)}{ls:jh}(R:YN kP kQ H S d lk lv ts av ho as kvs ls):kvs.length=lv.length:=by
 have:=congrArg xC R.keys;simpa using this
def Z4(ts:jN)(bs:jK):jT:=bs.flatMap λb=>(gd ts b).rows
def Yw(ts:jN)(bs:jK):ZW:=⟨(gd ts (bs.getD 0 0)).h+1,Z4 ts bs,bs⟩
def MX(ts:jN):jK->Prop
 | a::b::r=>(YW (gd ts a)).hi.lt (YW (gd ts b)).lo=true/\MX ts (b::r)
 | _=>True
def Gm{ts:jN}:∀{bs:jK},(∀ j,j+1<bs.length->((YL ts bs).getD j .d).hi.lt ((YL ts bs).getD (j+1) .d).lo=true)->MX ts bs
 | [],_=>trivial
 | [_],_=>trivial
 | a::b::r,h=>⟨h 0 (by simp),Gm (bs:=b::r) λj hj=>h (j+1) (by simp at hj⊢;lia)⟩
def OV{t:ZW}(jx:t.rows≠[]):∃ r rs,t.rows=r::rs/\(YW t).lo=r.1:=by
 cases e:t.rows with
 | nil=>exact absurd e jx
 | cons r rs=>exact⟨r,rs,Z,by unfold YW;rw[e];rfl⟩
def LM{t:ZW}(jx:t.rows≠[]):∃ rs r,t.rows=rs++[r]/\(YW t).hi=r.1:=by
 rcases rK t.rows with e | ⟨rs,r,e⟩
 ·exact absurd e jx
 ·rw[rM] at e;exists rs,r,e;unfold YW;rw[e];simp[zQ]
def ZQf{gt:jK}{ts:jN}{i:Nat}{t:ZW}(h:Vm gt ts i t){x:KT}(hx:x∈t.rows.map (·.1)){y:KT}(hy:(YW t).hi.lt y=true):x.lt y=true:=by
 let⟨rs,r,e,eh⟩:=LM h.ne;let up:=h.up;rw[e,yZ] at up hx;rw[eh] at hy;rcases yU.mp hx with hx | hx
 ·have:=(wY.mp up).2.2 x hx r.1 (by simp)
  exact lt_trans' _ _ _ this hy
 ·simp at hx;rw[hx];exact hy
def ZQu{l:jM}(hp:l.Pairwise λa b=>a.lt b=true){z:KT}(e:l.head? = some z){x:KT}(hx:x.lt z=true):∀ y∈l,x.lt y=true:=by
 cases l with
 | nil=>cases e
 | cons a l=>
  simp at e;subst e;intro y hy;rcases zI.mp hy with rfl | hy
  ·exact hx
  ·exact lt_trans' _ _ _ hx ((vQ.mp hp).1 y hy)
def Ga{gt:jK}{ts:jN}(hw:WF gt ts):∀{bs:jK},(∀ b∈bs,b∈gt)->MX ts bs->((Z4 ts bs).map (·.1)).Pairwise (λa b=>a.lt b=true)/\bs.Nodup
 | [],_,_=>⟨zEB.nil,wW⟩
 | [a],hb,_=>by
  refine⟨?_,by simp⟩
  have:=(hw a (hb a (by simp))).up
  simpa [Z4] using this
 | a::b::r,hb,hn=>by
  let⟨h1,h2⟩:=Ga hw (bs:=b::r) (λc hc=>hb c (zJ _ hc)) hn.2;let oa:=hw a (hb a (by simp))
  let ob:=hw b (hb b (by simp))
  let⟨rb,rs,eb,el⟩:=OV ob.ne;let hd:((Z4 ts (b::r)).map (·.1)).head? = some (YW (gd ts b)).lo:=by
   rw[el];unfold Z4;rw[yI,eb];rfl
  let cross:∀ x∈(gd ts a).rows.map (·.1),∀ y∈(Z4 ts (b::r)).map (·.1),x.lt y=true:=λx hx=>ZQu h1 hd (ZQf oa hx hn.1);refine⟨?_,xO.mpr ⟨λhm=>?_,h2⟩⟩
  ·let e:Z4 ts (a::b::r)=(gd ts a).rows++Z4 ts (b::r):=by simp[Z4]
   rw[e,yZ];exact wY.mpr ⟨oa.up,h1,cross⟩
  ·let⟨ra,rs',ea,_⟩:=OV oa.ne;let m1:ra.1∈(gd ts a).rows.map (·.1):=by rw[ea];simp
   let m2:ra.1∈(Z4 ts (b::r)).map (·.1):=yR.mpr ⟨ra,vG.mpr ⟨a,hm,by rw[ea];simp⟩,Z⟩
   have:=cross _ m1 _ m2;rw[On] at this;cases this
def QL{ts:jN}{bs:jK}{i:Nat}(hi:i<bs.length):(YL ts bs).getD i .d=YW (gd ts (bs.getD i 0)):=by
 unfold YL;rw[zQ,zC,zV hi,zQ,zV hi];rfl
def Dh{gt:jK}{ts:jN}(hw:WF gt ts){bs:jK}(hb:∀ b∈bs,b∈gt){L:YI}(h:Us (YL ts bs)=some L):
  L=YW (Yw ts bs)/\bs.Nodup/\2<=bs.length/\bs.length<=4/\(∀ b∈bs,(gd ts b).h+1=(Yw ts bs).h)/\((Z4 ts bs).map (·.1)).Pairwise (λa b=>a.lt b=true)/\Z4 ts bs≠[]:=by
 unfold Us at h;split at h
 case isFalse=>cases h
 case isTrue hc=>
  let⟨h2,h4,hk⟩:=hc;let ll:(YL ts bs).length=bs.length:=zY _;rw[ll] at h2 h4;let hl:=QI.mpr hk;unfold Jj at hl;rw[ll] at hl;let hnb:MX ts bs:=Gm λj hj=>(hl j hj).2;let⟨hup,hnd⟩:=Ga hw hb hnb;let hh:∀ i,i<bs.length->((YL ts bs).getD i .d).h=((YL ts bs).getD 0 .d).h:=λi hi=>by
   cases i with
   | zero=>rfl
   | succ i=>exact(hl i hi).1
  let hmem:∀ i,i<bs.length->bs.getD i 0∈bs:=λi hi=>by rw[zQ,zV hi];exact yD _
  let o0:=hw _ (hb _ (hmem 0 (by lia)))
  let ol:=hw _ (hb _ (hmem (bs.length-1) (by lia)))
  let hhb:∀ b∈bs,(gd ts b).h+1=(Yw ts bs).h:=λb hb'=>by
   let⟨i,hi,e⟩:=List.getElem_of_mem hb';have:=hh i hi;rw[QL hi,QL (by lia)] at this
   let e2:bs.getD i 0=b:=by rw[zQ,zV hi,e];rfl
   rw[e2] at this;have:=Int.ofNat.inj this;show (gd ts b).h+1=(gd ts (bs.getD 0 0)).h+1;lia
  let jx:Z4 ts bs≠[]:=λz=>by
   let⟨r,rs,e,_⟩:=OV o0.ne;have:r∈Z4 ts bs:=vG.mpr ⟨_,hmem 0 (by lia),by rw[e];simp⟩
   rw[z] at this;simp at this
  refine⟨?_,hnd,h2,h4,hhb,hup,jx⟩;rw[<-yL.inj h];let elo:((YL ts bs).getD 0 .d).lo=(YW (Yw ts bs)).lo:=by
   rw[QL (by lia)]
   let⟨r,rs,e,el⟩:=OV o0.ne;rw[el]
   cases bs with
   | nil=>simp at h2
   | cons b bs=>
    unfold YW Yw Z4;let e':(gd ts b).rows=r::rs:=e;simp only[yI,e'];rfl
  let ehi:((YL ts bs).getD ((YL ts bs).length-1) .d).hi=(YW (Yw ts bs)).hi:=by
   rw[ll,QL (by lia)]
   let⟨rs,r,e,el⟩:=LM ol.ne;rw[el];rcases rK bs with z | ⟨bi,b,z⟩
   ·rw[z] at h2;simp at h2
   ·rw[rM] at z;let eb:bs.getD (bs.length-1) 0=b:=by rw[z];simp[zQ]
    rw[eb] at e;let er:Z4 ts bs=Z4 ts bi++rs++[r]:=by rw[z];simp[Z4,e]
    unfold YW Yw;simp only[er];simp[zQ]
  let em:((YL ts bs).map YI.m).sum=(YW (Yw ts bs)).m:=by
   have:∀ l:jK,((YL ts l).map YI.m).sum=((Z4 ts l).length:Int):=λl=>by
    induction l with
    | nil=>rfl
    | cons b l ih=>
     let e1:YL ts (b::l)=YW (gd ts b)::YL ts l:=rfl;let e2:Z4 ts (b::l)=(gd ts b).rows++Z4 ts l:=by simp[Z4]
     rw[e1,e2,zB,tV,ih,zT];show ((gd ts b).rows.length:Int)+_=_;lia
   exact this bs
  let eh:((YL ts bs).getD 0 .d).h+1=(YW (Yw ts bs)).h:=by
   rw[QL (by lia)]
   show ((gd ts (bs.getD 0 0)).h:Int)+1=(((gd ts (bs.getD 0 0)).h+1:Nat):Int);lia
  rw[elo,ehi,em,eh]
def ZLb{gt:jK}{ts:jN}(hw:WF gt ts){bs:jK}(hb:∀ b∈bs,b∈gt){L:YI}(h:Us (YL ts bs)=some L):Vm gt ts ts.length (Yw ts bs):=by
 let⟨_,_,h2,h4,hh,hup,jx⟩:=Dh hw hb h;refine⟨jx,hup,λr hr=>?_,λz=>absurd z (by show (gd ts (bs.getD 0 0)).h+1≠0;lia),λ_=>⟨h2,h4,λb hb'=>⟨hb b hb',hh b hb'⟩,Z⟩⟩
 let⟨b,hb',hr'⟩:=vG.mp hr;exact(hw b (hb b hb')).inn r hr'
def ZLP{gt:jK}{ts:jN}(hw:WF gt ts){bs:jK}(hb:∀ b∈bs,b∈gt)(i:Nat):((YL ts bs).getD i .d).fit:=by
 rcases xQ i bs.length with hi | hi
 ·rw[QL hi];refine ZNc (hw _ (hb _ ?_));rw[zQ,zV hi];exact yD _
 ·rw[zQ,rJ (by unfold YL;rw[zY];exact hi)]
  exact Ak
abbrev AY:jP:=["labels","at","many"]
def QC:ZB AY ["labels"] (Zl JV):=⟨Z,Z,Z,by decide +kernel,Z,by decide +kernel,by decide +kernel⟩
def ZIo{ls:km}{L:YI}(h:Us ls=some L):2<=ls.length/\ls.length<=4/\Mp ls=true/\L=⟨(ls.getD 0 .d).h+1,(ls.getD 0 .d).lo,(ls.getD (ls.length-1) .d).hi,(ls.map YI.m).sum⟩:=by
 unfold Us at h;split at h
 ·rename_i z
  cases h;exact⟨z.1,z.2.1,z.2.2,Z⟩
 ·cases h
inductive VQ(vs:jh)(H:Hp)(Q:VK)(_:XK):Prop
 |mk(l:aj)(us:jh)(ls:km)(L:YI)(_:vs=[.ref l])(_:H l=some (.lst us))(_:Ye H ls us)(_:∀ i,(ls.getD i .d).fit)(_:Us ls=some L)(_:∀ H' v,ZC H H'->ZE H' L.kt v->Q v H')
def ZKr(F:Zo K "label_over" "label_over" JV f fd)(T:Txt mg)(DS:ZA P w K mg kT 8 "stand_side_by_side" zE2 Vw):ZK P w K mg kT ZV 9 f fd ["labels"] VQ:=by
 refine F.ok QC (λvs H Q E h=>(by let⟨_,_,_,_,rfl,_⟩:=h;rfl)) (λcdv A outer s H vs Q E hr h=>?_)
 let⟨l,us,ls,L,rfl,hl,hk,hf,hov,k⟩:=h;let⟨v2,v4,vc,rfl⟩:=ZIo hov;let nd:=QC.nd;let hlen:=hk.1;let⟨tf,mf⟩:=T.few;let⟨tm,mm⟩:=T.most;let⟨t0,m0⟩:=T.height;let⟨t1,m1⟩:=T.least;let⟨t2,m2⟩:=T.greatest;let⟨t3,m3⟩:=T.many;refine⟨_,ZO (Zt (VW (En Og Og (WE (v:=.int 2) rfl mf ⟨_,rfl⟩) (Zv Yk rfl T.len YU (ZF (pv 0) ZD)) (WE (v:=.int 4) rfl mm ⟨_,rfl⟩))) O3 Zw)
  (ZO (Xi PassesOwn.never rfl (Gk rfl T.range (ZF ZL (ZF (Zv Yk rfl T.len YU (ZF (pv 0) ZD)) ZD))) (XB (i:=1) nd rfl (Or.inl rfl))
   (ZP (Zt (VW (XD (Zc DS hr (ZF (Za (r:=YE K) YH (pv 0) (Zs Qk (pv 1) ZL) (λ_ _=>rfl)) (ZF (Za (r:=YE K) YH (pv 0) (pv 1) (λ_ _=>rfl)) ZD))))) O3 Zw)))
  (ZO (Zr (i:=2) nd rfl (Or.inl rfl) (Zv (ZPS rfl) rfl T.sum ZP6 (ZF (Wx [] [] rfl (Xu (pv 0)) (λ_ _ _ _ _=>Wj) (λ_ _ _ _ _=>Za (r:=YE K) YH (pv 0) (WE (v:=.int 3) Z m3 ⟨_,Z⟩) (λ_ _=>rfl)) trivial) ZD)))
  (ZP (Zk (XR (Nj (Zs Y2 (Za (r:=YE K) YH (Za (r:=YE K) YH (pv 0) ZL (λ_ _=>rfl)) (WE (v:=.int 0) rfl m0 ⟨_,rfl⟩) (λ_ _=>rfl)) ZL)
   (Za (r:=YE K) YH (Za (r:=YE K) YH (pv 0) ZL (λ_ _=>rfl)) (WE (v:=.int 1) rfl m1 ⟨_,rfl⟩) (λ_ _=>rfl))
   (Za (r:=YE K) YH (Za (r:=YE K) YH (pv 0) (LG KC ZL) (λ_ _=>rfl)) (WE (v:=.int 2) rfl m2 ⟨_,rfl⟩) (λ_ _=>rfl))
   (pv 2))))))),?_⟩
 let lab:∀(H':Hp)(i:Nat),ZC H H'->i<us.length->∃(a:aj)(jE jF:V),us[i]? = some (.ref a)/\H' a=some (.tup [.int (ls.getD i .d).h,jE,jF,.int (ls.getD i .d).m])/\ZE H' (ls.getD i .d).lo jE/\ZE H' (ls.getD i .d).hi jF:=λH' i s' hi=>by
  let hu:us[i]? = some us[i]:=zV hi;let⟨a,jE,jF,e,e1,k1,k2⟩:=(hk.2 i _ hu).mono (ZC.tups s');exact⟨a,jE,jF,by rw[hu,e],e1,k1,k2⟩
 exists _,Z,l,us,Z,.inl (ZI.of hl),_,_,Z,Z,_,Z;let h2:2<=us.length:=by lia
 let h4:us.length<=4:=by lia
 rw[aI (show (2:Int)<=(us.length:Int) by lia)]
 refine Z7 ⟨_,_,Z,Z,_,Z,?_⟩;rw[aI (show (us.length:Int)<=4 by lia)]
 refine Zn ?_;exists _,Z,l,us,Z,.inl (ZI.of hl),1,(us.length:Int),Z,⟨by lia,by lia,by lia,by lia⟩
 refine Ql (lo:=1) (n:=((us.length:Int)-1).toNat) (λi σ H2=>∃ x:ji,σ=[some (.ref l),x,none]/\ZC H H2/\∀ j,j<i->QG (ls.getD j .d) (ls.getD (j+1) .d)=true) ⟨_,Z,ZC.refl H,λj hj=>absurd hj (by lia)⟩ ?_ ?_
 ·rintro i σ H2 hi ⟨x,rfl,s2,hok⟩;let hi1:i+1<us.length:=by lia
  let ua:us[i]? = some (us[i]'(by lia)):=zV (by lia)
  let ub:us[i+1]? = some us[i+1]:=zV hi1;let e1:(1:Int)+(i:Int)=((i+1:Nat):Int):=by lia
  let e0:(1:Int)+(i:Int)-1=((i:Nat):Int):=by lia
  let hl2:=s2 _ _ hl;refine⟨_,Z,_,Z,_,_,Z,Z,.inl ⟨l,us,_,_,Z,Z,ZI.of hl2,(by rw[e0];exact Yj ua),?_⟩⟩
  refine⟨_,Z,_,Z,.inl ⟨l,us,_,_,Z,Z,ZI.of hl2,(by rw[e1];exact Yj ub),?_⟩⟩
  refine⟨_,_,ls.getD i .d,ls.getD (i+1) .d,Z,(hk.2 i _ ua).mono (ZC.tups s2),(hk.2 (i+1) _ ub).mono (ZC.tups s2),hf i,hf (i+1),λH3 s3=>⟨_,Z,?_⟩⟩;let hc:QG (ls.getD i .d) (ls.getD (i+1) .d)=true:=zE.mp vc i (yX.mpr (by lia))
  rw[hc];refine Zn ⟨_,Z,s2.trans s3,λj hj=>?_⟩;rcases xQ j i with c1 | c1
  ·exact hok j c1
  ·have:j=i:=by lia
   rw[this];exact hc
 rintro σ H2 ⟨x,rfl,s2,hok⟩;let hl2:=s2 _ _ hl;exists _,Z,l,Z,⟨us,ZI.of hl2⟩;refine Wa (n:=us.length) (λi z=>us[i]? = some z) (λD i ys H3=>ZC H2 H3/\H2 D=none/\ys=((ls.map YI.m).take i).map V.int) (YF (by lia))
  (λD i ys H3 hi hP=>⟨us,us[i],ZI.of (hP.1 _ _ hl2),by simp[hi]⟩) (λD i ys H3 z H4 hi hP hy=>⟨hy.1,hy.2 us (ZI.of (hP.1 _ _ hl2))⟩) (λD ys H3 hP=>⟨us,ZI.of (hP.1 _ _ hl2),zX _⟩)
  (λD hD=>⟨Zq hD _,hD,Z⟩) (λD i ys H3 z eD hl' hi hz hP R hR=>?_) (λD ys H3 eD hP=>?_)
 ·let⟨s3,nD,rfl⟩:=hP;let⟨a,alo,ahi,ua,ea,ka1,ka2⟩:=lab H3 i (s2.trans s3) hi;rw[ua] at hz;cases hz;refine⟨_,Z,.inr (.inl ⟨a,_,_,.int (ls.getD i .d).m,rfl,rfl,Zd.of ea,rfl,?_⟩)⟩;refine hR _ H3 eD ⟨λb o e=>by rw[ZY (Ze e nD)];exact s3 b o e,nD,?_⟩
  let eg:(ls.map YI.m)[i]? = some (ls.getD i .d).m:=by
   rw[zC,zQ,zV (show i<ls.length by lia)]
   rfl
  rw[yW,eg,yZ];rfl
 ·let⟨s3,nD,rfl⟩:=hP;rw[yS (by rw[zY];lia)] at eD
  exists D,ls.map YI.m,Z,ZI.of eD;let s23:=s2.trans s3;let hl3:=s23 _ _ hl;let⟨c,clo,chi,uc,ec,kc1,kc2⟩:=lab H3 0 s23 (by lia)
  let⟨b,blo,bhi,ub,eb,kb1,kb2⟩:=lab H3 (us.length-1) s23 (by lia)
  let elast:VD us (-1)=some (.ref b):=by
   let e:us=us.dropLast++[.ref b]:=by
    let jx:us≠[]:=λz=>by rw[z] at h2;simp at h2
    let hg:us.getLast jx=.ref b:=by
     rw[qN];have:=(yY.mp ub).2;exact this
    rw[<-hg,sQ]
   rw[e];exact G7 _ _
  refine⟨_,Z,.inl ⟨l,us,_,.ref c,Z,Z,ZI.of hl3,Yj (j:=0) uc,.inr (.inl ⟨c,_,_,.int (ls.getD 0 .d).h,rfl,rfl,Zd.of ec,rfl,_,_,rfl,rfl,?_⟩)⟩⟩;refine⟨_,Z,.inl ⟨l,us,_,.ref c,Z,Z,ZI.of hl3,Yj (j:=0) uc,.inr (.inl ⟨c,_,_,clo,rfl,rfl,Zd.of ec,rfl,?_⟩)⟩⟩;refine⟨_,Z,1,Z,.inl ⟨l,us,_,.ref b,Z,Z,ZI.of hl3,elast,.inr (.inl ⟨b,_,_,bhi,rfl,rfl,Zd.of eb,rfl,?_⟩)⟩⟩;refine⟨_,Z,nn (zR rfl),λp hp=>?_⟩;let g:=Zq hp (.tup [.int ((ls.getD 0 .d).h+1),clo,bhi,.int (ls.map YI.m).sum]);refine k _ _ (s23.trans g) ?_;rw[<-hlen];exact .tup ZZ (.cons (.int _) (.cons (kc1.mono (ZC.tups g) _ _) (.cons (kb2.mono (ZC.tups g) _ _) (.cons (.int _) .nil))))
abbrev KQ:Stmt:=Wc (top 47) 19
abbrev J9:Stmt:=Wc (top 47) 20
abbrev KY:Stmt:=Wc (top 47) 2
inductive Yy(kP kQ:aj)(vs:jh)(H:Hp)(Q:VK)(_:XK):Prop
 |mk(S d lk l:aj)(lv:jK)(ts:jN)(av:Nat->jK)(ho:Nat->Nat)(as:kf)(kvs:List (Zi×V))(ls:jh)(bs:jK)(_:vs=[.ref S,.ref l])(_:YN kP kQ H S d lk lv ts av ho as kvs ls)(_:H l=some (.lst (iN bs)))(_:∀ b∈bs,b∈lv)(_:bs.length<=100)(_:∀(D:aj)(us:jh)(H':Hp),ZC H H'->H D=none->H' D=some (.lst us)->Ye H' (YL ts bs) us->Q (.ref D) H')
def Cj:ZB zEj zEj (Zl KQ):=⟨Z,Z,Z,by decide +kernel,Z,by decide +kernel,by decide +kernel⟩
def Qi{bs:jK}{i:Nat}{z:V}(h:(iN bs)[i]? = some z):∃ b,bs[i]? = some b/\z=.int (b:Nat):=by
 unfold iN at h;rw[zC] at h;let⟨b,e,rfl⟩:=xY.mp h;exact⟨b,e,Z⟩
def Au(F:Zo K "labels_of" "Shelf.labels_of" KQ f fd)(L:Y4 K mg kP kQ)(DL:ZH P w K mg kT ZV 2 kP "label" zEa (Xg kP kQ λtg _ _=>tg)):ZK P w K mg kT ZV 3 f fd zEj (Yy kP kQ):=by
 refine F.ok Cj (λvs H Q E h=>(by let⟨_,_,_,_,_,_,_,_,_,_,_,_,rfl,_⟩:=h;rfl)) (λcdv A outer s H vs Q E hr h=>?_)
 let⟨S,d,lk,l,lv,ts,av,ho,as,kvs,ls,bs,rfl,R,hl,hb,h100,k⟩:=h;let li:(iN bs).length=bs.length:=zY _;exists _,ZP (Zk (Wx [0] zEo rfl (Xu (pv 1)) (λ_ _ _ _ _=>Wj) (λ_ _ _ _ _=>XM (E:=E0) (pv 1) L.cS DL hr Yd (ZF (pv 0) ZD)) ⟨rfl,.inl rfl,rfl,trivial⟩));exists _,Z,l,Z,⟨_,ZI.of hl⟩;refine Wa (n:=(iN bs).length) (λi z=>(iN bs)[i]? = some z) (λD i ys H3=>ZC H H3/\H D=none/\Ye H3 (YL ts (bs.take i)) ys) (YF (by lia))
  (λD i ys H3 hi hP=>⟨_,(iN bs)[i],ZI.of (hP.1 _ _ hl),zV hi⟩) (λD i ys H3 z H4 hi hP hy=>⟨hy.1,hy.2 _ (ZI.of (hP.1 _ _ hl))⟩) (λD ys H3 hP=>⟨_,ZI.of (hP.1 _ _ hl),zX _⟩)
  (λD hD=>⟨Zq hD _,hD,Z,λi u e=>by simp at e⟩) (λD i ys H3 z eD hl' hi hz hP RR hRR=>?_) (λD us H3 eD hP=>?_)
 ·let⟨s3,nD,hk⟩:=hP;let⟨b,eb,rfl⟩:=Qi hz;let hbl:=hb b (zG eb);let R3:=R.same s3;let⟨dx,hS⟩:=R3.sh.self;exists _,Z,S,dx,_,Z,hS,Z,_,Z,S,d,lk,ts.length,kvs,ls,(b:Int),_,_,_,_,_,_,Z,⟨R3.sh,R3.val b hbl,(R3.tw b hbl).tw⟩;refine hRR _ H3 eD ⟨Uh s3 nD,nD,?_⟩;let tD:YD H3 (upd H3 D (.lst (ys++[.ref (as.getD b .d).tg]))):=λc xs e=>by rw[ZY (Zg e eD (by intro z;cases z))];exact e
  rw[yW,eb];let e2:YL ts (bs.take i++(some b).toList)=YL ts (bs.take i)++[YW (gd ts b)]:=by unfold YL;simp
  rw[e2];exact(hk.snoc (R3.tw b hbl).tag).mono tD
 ·let⟨s3,nD,hk⟩:=hP;rw[yS (by lia)] at hk
  exact k D us H3 s3 nD eD hk
inductive Z5(kP kQ:aj)(vs:jh)(H:Hp)(Q:VK)(_:XK):Prop
 |mk(S l:aj)(ns:jX)(_:vs=[.ref S,.ref l])(_:H l=some (.lst (ns.map V.int)))(_:∃ dx fs,H S=some (.ins kP dx fs)/\fs.lookup (zW "outside")=none)(_:∀ n∈ns,∃(d lk:aj)(m:Nat)(kvs:List (Zi×V))(ls:jh)(x:aj)(th tg:V)(ab:aj)(ho:Nat)(us:jh),Qv kP kQ H S d lk m kvs ls n x th tg ab ho us/\1<=ho)(_:Q .non H)
def Xs:ZB ["self","numbers","number"] zEj (Zl J9):=⟨Z,Z,Z,by decide +kernel,Z,by decide +kernel,by decide +kernel⟩
def ZEV(F:Zo K "check_held" "Shelf.check_held" J9 f fd)(L:Y4 K mg kP kQ)(DO:ZH P w K mg kT ZV 2 kP "outside" zEa (Xg kP kQ λ_ ho _=>.int ho)):ZK P w K mg kT ZV 3 f fd zEj (Z5 kP kQ):=by
 refine F.ok Xs (λvs H Q E h=>(by let⟨_,_,_,rfl,_⟩:=h;rfl)) (λcdv A outer s H vs Q E hr h=>?_)
 let⟨S,l,ns,rfl,hl,⟨dx,fs,hS,hlk⟩,hb,k⟩:=h;let nd:=Xs.nd;refine⟨_,ZP (Xi PassesOwn.never rfl (Xu (pv 1)) (XB (i:=2) nd rfl (Or.inl rfl))
  (ZP (Zt (Z3 XE (XM (E:=E0) (pv 0) L.cS DO hr Yd (ZF (pv 2) ZD)) ZL (Zu _)) O3 Zw))),?_⟩
 refine⟨_,Z,l,Z,⟨_,ZI.of hl⟩,Vt (K:=K) (a:=l) (xs:=ns.map V.int) (λi σ H2=>∃ x:ji,σ=[some (.ref S),some (.ref l),x]/\H2=H) ⟨_,Z,Z⟩ (λi σ H2 _ hP=>by let⟨_,_,rfl⟩:=hP;exact ZI.of hl) ?_ ?_⟩
 ·rintro i u σ H2 hu2 ⟨x,rfl,rfl⟩;rw[zC] at hu2;let⟨n,en,rfl⟩:=xY.mp hu2;let⟨d,lk,m,kvs,ls,x',th,tg,ab,ho,us,R,h1⟩:=hb n (zG en);exists _,Z,S,dx,_,Z,hS,hlk,_,Z,S,d,lk,m,kvs,ls,n,x',th,tg,ab,ho,us,Z,R,Z,_,Z;rw[aH (λz=>by have:=LF z;lia)]
  exact Zn ⟨_,Z,Z⟩
 ·rintro σ H2 ⟨x,rfl,rfl⟩;exact k
inductive XI(kP kQ:aj)(vs:jh)(H:Hp)(Q:VK)(_:XK):Prop
 |mk(S d lk l:aj)(lv:jK)(ts:jN)(av:Nat->jK)(ho:Nat->Nat)(as:kf)(kvs:List (Zi×V))(ls:jh)(bs:jK)(Lb:YI)(_:vs=[.ref S,.ref l])(_:YN kP kQ H S d lk lv ts av ho as kvs ls)(_:WF lv ts)(_:lv.length<=800)(_:∀ b∈bs,b∈lv/\1<=ho b/\(av b).length<=800)(_:H l=some (.lst (iN bs)))(_:Us (YL ts bs)=some Lb)(_:∀(H':Hp)(a:XC),H a.x=none->H a.th=none->H a.ab=none->(∀ c o,c≠S->c≠d->(∀ b:Nat,b∈lv->c≠(as.getD b .d).x/\c≠(as.getD b .d).ab)->H c=some o->H' c=some o)->YN kP kQ H' S d lk (lv++[ts.length]) (ts++[Yw ts bs]) (V3 bs ts.length (Uf ts.length av)) (Um bs (Qe ts.length ho)) (as++[a]) (Xo kvs (.inl (ts.length:Int)) (.ref a.x)) ls->Q (.int (ts.length:Nat)) H')
abbrev ZK6:jP:=["self","numbers","branches","label","number"]
def Wq:ZB ZK6 zEj (Zl KY):=⟨Z,Z,Z,by decide +kernel,Z,by decide +kernel,by decide +kernel⟩
def ZPW(bs:jK):iN bs=(bs.map λb:Nat=>(b:Int)).map V.int:=by unfold iN;rw[xU];rfl
def ZGG(F:Zo K "put_stem" "Shelf.put_stem" KY f fd)(T:Txt mg)(L:Y4 K mg kP kQ)(DL:ZH P w K mg kT ZV 3 kP "labels_of" zEj (Yy kP kQ))(DO:ZA P w K mg kT 9 "label_over" ["labels"] VQ)(DC:ZH P w K mg kT ZV 3 kP "check_held" zEj (Z5 kP kQ))(DT:ZH P w K mg kT ZV 3 kP "put_twig" zEv (Y8 kP kQ))(DK:ZH P w K mg kT ZV 2 kP "take_over" zE0 (XJ kP kQ)):
  ZK P w K mg kT ZV 10 f fd zEj (XI kP kQ):=by
 refine F.ok Wq (λvs H Q E h=>(by let⟨_,_,_,_,_,_,_,_,_,_,_,_,_,rfl,_⟩:=h;rfl)) (λcdv A outer s H vs Q E hr h=>?_)
 let⟨S,d,lk,l,lv,ts,av,ho,as,kvs,ls,bs,Lb,rfl,R,hw,t800,hbb,hl,hov,q3⟩:=h;let hb:∀ b∈bs,b∈lv:=λb h=>(hbb b h).1;let nd:=Wq.nd;let hr3:=hr.mono (show 3<=9 by lia)
 let hr2:=hr.mono (show 2<=9 by lia)
 let⟨eL,hnd,hb2,hb4,hhh,hup,jx⟩:=Dh hw hb hov;refine⟨_,ZO (Zr (i:=2) nd rfl (Or.inl rfl) (Ws O5 rfl T.list Ph (ZF (pv 1) ZD)))
  (ZO (Zr (i:=3) nd rfl (Or.inl rfl) (Zc DO hr (ZF (XM (E:=E0) (pv 0) L.cS DL hr3 Yd (ZF (pv 2) ZD)) ZD)))
  (ZO (Xd (XM (E:=E0) (pv 0) L.cS DC hr3 Yd (ZF (pv 2) ZD)))
  (ZO (Zr (i:=4) nd rfl (Or.inl rfl) (XM (E:=E0) (pv 0) L.cS DT hr3 Yd (ZF (pv 2) (ZF (pv 3) ZD))))
  (ZO (Xd (XM (E:=E0) (pv 0) L.cS DK hr2 Yd (ZF (pv 4) (ZF (pv 2) ZD))))
  (ZP (Zk (pv 4))))))),?_⟩
 refine⟨_,Z,l,iN bs,Z,.inl (ZI.of hl),λD nD=>?_⟩;let g1:=Zq nD (.lst (iN bs));let hD1:upd H D (.lst (iN bs)) D=some (.lst (iN bs)):=ZZ;generalize upd H D (.lst (iN bs))=H1 at g1 hD1⊢;let R1:=R.same g1;let⟨dx1,hS1⟩:=R1.sh.self;refine⟨_,Z,S,dx1,_,Z,hS1,Z,_,Z,S,d,lk,D,lv,ts,av,ho,as,kvs,ls,bs,Z,R1,hD1,hb,by lia,λD2 us H2 s2 nD2 hD2 hk2=>?_⟩
 let s12:=g1.trans s2;refine⟨D2,us,YL ts bs,Lb,Z,hD2,hk2,ZLP hw hb,hov,λH3 v s3 kv=>?_⟩;subst eL;let s13:=s12.trans s3;let R3:=R.same s13;let⟨dx3,hS3⟩:=R3.sh.self;let hD3:H3 D=some (.lst (iN bs)):=s3 _ _ (s2 _ _ hD1);exists _,Z,S,dx3,_,Z,hS3,Z,_,Z,S,D,bs.map (λb:Nat=>(b:Int)),Z,by rw[<-ZPW];exact hD3,⟨dx3,_,hS3,Z⟩,λn hn=>?_
 ·let⟨b,hb',rfl⟩:=yR.mp hn;let hbl:=hbb b hb';exact⟨d,lk,ts.length,kvs,ls,_,_,_,_,_,_,⟨R3.sh,R3.val b hbl.1,(R3.tw b hbl.1).tw⟩,hbl.2.1⟩
 let kl:=MK kv;let⟨tg,jE,jF,rfl,htg,_,_⟩:=kl;let kl4:=MK kv;refine⟨_,Z,S,dx3,_,Z,hS3,Z,_,Z,_,Z,S,d,lk,ts.length,kvs,ls,.ref D,.ref tg,Z,R3.sh,by rw[Er R];lia,λH5 x ab nx nab fr R5 W5=>?_⟩
 let tup5:YD H3 H5:=λb ys e=>fr b _ (Zg e hS3 (by intro z;cases z)) (Zg e R3.sh.kept (by intro z;cases z)) e
 let hD5:H5 D=some (.lst (iN bs)):=fr _ _ (Zg hD3 hS3 (by intro z;cases z)) (Zg hD3 R3.sh.kept (by intro z;cases z)) hD3
 let PP:=FY (t:=Yw ts bs) (x:=x) (th:=D) (tg:=tg) (ab:=ab) R (H':=H5) (λb o n1 n2 e=>fr b o n1 n2 (s13 b o e)) (s13.free nx) nD (s13.free nab) (Ze hD3 nab).symm R5 W5
  ⟨iN bs,hD5,λz=>absurd z (by show (gd ts (bs.getD 0 0)).h+1≠0;lia),λ_=>rfl⟩ (kl4.mono tup5)
 let⟨dx5,hS5⟩:=R5.self;let el:as.length=ts.length:=R.len;let aL:∀ b,b∈lv->(as++[(⟨x,D,tg,ab⟩:XC)]).getD b .d=as.getD b .d:=λb hb=>Kc (by have:=R.lt b hb;lia)
 let aN:(as++[(⟨x,D,tg,ab⟩:XC)]).getD ts.length .d=⟨x,D,tg,ab⟩:=by rw[<-el];exact JD
 let en:(ts++[Yw ts bs]).length=ts.length+1:=by simp
 refine⟨_,Z,S,dx5,_,Z,hS5,Z,_,Z,_,Z,S,d,lk,D,_,_,_,_,_,_,ls,bs,ts.length,Z,PP,hD5,hnd,λb hb'=>?_,λb hb'=>?_,λH6 fr6 no6 R6=>⟨_,Z,?_⟩⟩
 ·let hbl:=hbb b hb';let nb:b≠ts.length:=by have:=R.lt b hbl.1;lia
  exists xV _ hbl.1,?_
  ·rw[show Qe ts.length ho b=ho b from aJ nb];exact hbl.2.1
  ·rw[show Uf ts.length av b=av b from aJ nb];lia
 ·rcases yU.mp hb' with c | c
  ·rw[aL b c];exact(Ze (R.tw b c).tw.above nD).symm
  ·rw[zN.mp c,aN];exact Ze hD3 nab
 ·refine q3 H6 ⟨x,D,tg,ab⟩ (s13.free nx) nD (s13.free nab) (λc o n1 n2 n3 e=>?_) R6;refine fr6 c o (λb hb'=>?_) (fr c o n1 n2 (s13 c o e));rcases yU.mp hb' with z | z
  ·rw[aL b z];exact n3 b z
  ·rw[zN.mp z,aN];exact⟨Ze e (s13.free nx),Ze e (s13.free nab)⟩
def Bf(rs:jT):(YW (Uq rs)).kt=KK (rs.map (·.1)):=by
 let lks:(rs.map (·.1)).length=rs.length:=zY _;let e0:(rs.map (·.1)).getD 0 (.int 0)=(rs.getD 0 rd).1:=by
  rw[zQ,zQ,zC];cases rs[0]? <;> rfl
 let e1:(rs.map (·.1)).getD (rs.length-1) (.int 0)=(rs.getD (rs.length-1) rd).1:=by
  rw[zQ,zQ,zC];cases rs[rs.length-1]? <;> rfl
 unfold KK YW Uq YI.kt;rw[lks,e0,e1];rfl
inductive XH(kP kQ:aj)(vs:jh)(H:Hp)(Q:VK)(_:XK):Prop
 |mk(S d lk l:aj)(n:Nat)(kvs:List (Zi×V))(ls us:jh)(rs:jT)(_:vs=[.ref S,.ref l])(_:XT kP H S d lk n kvs ls)(_:kvs.length<=900)(_:H l=some (.lst us))(_:kK H (Y1 rs) us)(_:Xn rs)(_:∀(H':Hp)(x th tg ab:aj),H x=none->H th=none->H ab=none->ab≠th->(∀ b o,b≠S->b≠d->H b=some o->H' b=some o)->XT kP H' S d lk (n+1) (Xo kvs (.inl (n:Int)) (.ref x)) ls->Wo kQ H' x (.ref th) (.ref tg) ab 1 []->(∃ us',H' th=some (.lst us')/\kK H' (Y1 rs) us')->Yt H' (YW (Uq rs)) (.ref tg)->Q (.int (n:Nat)) H')
def Aa(F:Zo K "put_leaf" "Shelf.put_leaf" JI f fd)(L:Y4 K mg kP kQ)(DC:ZA P w K mg kT 9 "checked_rows" zEs WN)(DL:ZA P w K mg kT 1 "label_of_rows" zEs Xj)(DT:ZH P w K mg kT ZV 3 kP "put_twig" zEv (Y8 kP kQ)):
  ZK P w K mg kT ZV 10 f fd zE8 (XH kP kQ):=by
 refine F.ok Wr (λvs H Q E h=>(by let⟨_,_,_,_,_,_,_,_,_,rfl,_⟩:=h;rfl)) (λcdv A outer s H vs Q E hr h=>?_)
 let⟨S,d,lk,l,n,kvs,ls,us,rs,rfl,R,l900,hl,hk,G,k⟩:=h;let nd:=Wr.nd;let hr1:=hr.mono (show 1<=9 by lia)
 let hr3:=hr.mono (show 3<=9 by lia)
 refine⟨_,ZO (Zr (i:=2) nd rfl (Or.inl rfl) (Zc DC hr (ZF (pv 1) ZD)))
  (ZP (Zk (XM (E:=E0) (pv 0) L.cS DT hr3 Yd (ZF (pv 2) (ZF (Zc DL hr1 (ZF (pv 2) ZD)) ZD))))),?_⟩
 refine⟨_,Z,l,us,rs,Z,hl,hk,G,λH1 l' us' s1 nl' hl' hk'=>?_⟩;let R1:=R.same s1;let⟨dx,hS⟩:=R1.self;let lu:us'.length=rs.length:=by have:=hk'.length;rw[<-this];exact zY _
 refine⟨_,Z,S,dx,_,Z,hS,Z,_,Z,_,Z,l',us',rs.map (·.1),Z,hl',ZI5 hk',by rw[lu];exact G.2.1,λH2 v s2 kv=>?_⟩
 rw[<-Bf] at kv;let kl:=MK kv;let⟨tg,jE,jF,rfl,htg,_,_⟩:=kl;let kl:=MK kv;let s12:=s1.trans s2;let R2:=R.same s12;refine⟨S,d,lk,n,kvs,ls,.ref l',.ref tg,Z,R2,l900,λH3 x ab nx nab fr R3 W3=>?_⟩;let⟨dx2,hS2⟩:=R2.self;let tup3:YD H2 H3:=λb ys e=>fr b _ (Zg e hS2 (by intro z;cases z)) (Zg e R2.kept (by intro z;cases z)) e
 let hl2:=s2 _ _ hl';let hl3:H3 l'=some (.lst us'):=fr _ _ (Zg hl2 hS2 (by intro z;cases z)) (Zg hl2 R2.kept (by intro z;cases z)) hl2
 exact k H3 x l' tg ab (s12.free nx) nl' (s12.free nab) (Ze hl2 nab).symm (λb o n1 n2 e=>fr b o n1 n2 (s12 b o e)) R3 W3 ⟨us',hl3,hk'.mono (λb xs e=>tup3 b xs (s2 _ _ e)) _ _⟩ (kl.mono tup3)
def ZIC(D:ZH P w K mg kT ZV 10 kP "put_leaf" zE8 (XH kP kQ)):ZH P w K mg kT ZV 10 kP "put_leaf" zE8 (VB kP kQ):=by
 let⟨g,gd,M,FG,b⟩:=D.ex;refine⟨g,gd,M,FG.imp λvs H Q E h=>?_,b⟩;let⟨S,d,lk,l,lv,ts,av,ho,as,kvs,ls,us,rs,e,R,l900,hl,hk,G,k⟩:=h;refine⟨S,d,lk,l,ts.length,kvs,ls,us,rs,e,R.sh,by rw[Er R];exact l900,hl,hk,G,λH' x th tg ab nx nth nab abth fr R' W hth htg=>?_⟩
 let⟨us',h1,h2⟩:=hth;exact k H' ⟨x,th,tg,ab⟩ nx nth nab fr (FY (t:=Uq rs) R fr nx nth nab abth R' W ⟨us',h1,λ_=>h2,λz=>absurd Z z⟩ htg)
structure Zx where
 S:aj
 d:aj
 lv:jK
 ts:jN
 av:Nat->jK
 ho:Nat->Nat
 as:kf
 kvs:List (Zi×V)
structure Wp(kP kQ:aj)(H:Hp)(X:Zx)(lk:aj)(c:Nat)(ls:jh):Prop where
 sh:XT kP H X.S X.d lk c X.kvs ls
 keys:X.kvs.map (·.1)=X.lv.map (λi:Nat=>(Sum.inl (i:Int):Zi))
 val:∀ i:Nat,i∈X.lv->YM X.kvs (Sum.inl (i:Int))=some (.ref (X.as.getD i .d).x)
 tw:∀ i:Nat,i∈X.lv->PM kQ H X.ts X.av X.ho i (X.as.getD i .d)
 own:∀ i:Nat,i∈X.lv->(X.as.getD i .d).x≠X.S/\(X.as.getD i .d).ab≠lk/\(X.as.getD i .d).th≠lk
 le:X.ts.length<=c
section
variable{kP kQ:aj}{H H':Hp}{X:Zx}{lk lk':aj}{c c':Nat}{ls ls':jh}
def YN.q{S d:aj}{lv:jK}{ts:jN}{av:Nat->jK}{ho:Nat->Nat}{as:kf}{kvs:List (Zi×V)}(R:YN kP kQ H S d lk lv ts av ho as kvs ls):Wp kP kQ H ⟨S,d,lv,ts,av,ho,as,kvs⟩ lk ts.length ls:=
 ⟨R.sh,R.keys,R.val,R.tw,λi hi=>⟨(R.own i hi).1,(R.own i hi).2.1,(R.own i hi).2.2.1⟩,zX _⟩
def Wp.frame(R:Wp kP kQ H X lk c ls)(sh:XT kP H' X.S X.d lk' c' X.kvs ls')(fr:∀ b o,b≠X.S->b≠X.d->b≠lk->H b=some o->H' b=some o)(own:∀ i:Nat,i∈X.lv->(X.as.getD i .d).ab≠lk'/\(X.as.getD i .d).th≠lk')(le:X.ts.length<=c'):Wp kP kQ H' X lk' c' ls':=by
 let⟨⟨dS,hS⟩,hd,hl⟩:=R.sh;refine⟨sh,R.keys,R.val,λi hi=>?_,λi hi=>⟨(R.own i hi).1,own i hi⟩,le⟩;let W:=R.tw i hi;let⟨dx,hx⟩:=W.tw.self;let⟨us,e1,_⟩:=W.things;let ha:=W.tw.above;let o:=R.own i hi;exact W.frame (λb xs e=>fr b _ (Zg e hS (by intro z;cases z)) (Zg e hd (by intro z;cases z)) (Zg e hl (by intro z;cases z)) e)
  (λo' e=>fr _ _ o.1 (Zg hx hd (by intro z;cases z)) (Zg hx hl (by intro z;cases z)) e)
  (λo' e=>fr _ _ (Zg e1 hS (by intro z;cases z)) (Zg e1 hd (by intro z;cases z)) o.2.2 e)
  (λo' e=>fr _ _ (Zg ha hS (by intro z;cases z)) (Zg ha hd (by intro z;cases z)) o.2.1 e)
def Wp.same(R:Wp kP kQ H X lk c ls)(s:ZC H H'):Wp kP kQ H' X lk c ls:=R.frame (R.sh.same s) (λb o _ _ _ e=>s b o e) (λi hi=>(R.own i hi).2) R.le
def ShN(X:Zx)(lk b:aj):Prop:=b=X.S\/b=X.d\/b=lk
def Wp.but(R:Wp kP kQ H X lk c ls){p:aj}(s:ZG p H H')(hp:¬ ShN X lk p)(own:∀ i:Nat,i∈X.lv->(X.as.getD i .d).x≠p/\(X.as.getD i .d).ab≠p/\(X.as.getD i .d).th≠p)(t:YD H H'):Wp kP kQ H' X lk c ls:=by
 let⟨⟨dS,hS⟩,hd,hl⟩:=R.sh;refine⟨⟨⟨dS,s _ _ hS λz=>hp (.inl z.symm)⟩,s _ _ hd λz=>hp (.inr (.inl z.symm)),s _ _ hl λz=>hp (.inr (.inr z.symm))⟩,R.keys,R.val,λi hi=>?_,R.own,R.le⟩;exact(R.tw i hi).frame t (λo e=>s _ _ e (own i hi).1) (λo e=>s _ _ e (own i hi).2.2) (λo e=>s _ _ e (own i hi).2.1)
def Wp.rd(R:Wp kP kQ H X lk c ls){i:Nat}(hi:i∈X.lv):Qv kP kQ H X.S X.d lk c X.kvs ls (i:Int) (X.as.getD i .d).x (.ref (X.as.getD i .d).th) (.ref (X.as.getD i .d).tg) (X.as.getD i .d).ab (X.ho i) (iN (X.av i)):=⟨R.sh,R.val i hi,(R.tw i hi).tw⟩
end
def Bm(t:ZW):(if ((t.h:Nat):Int) > 0 then ("stem" : Str) else "leaf")=kindOf t:=by
 unfold kindOf;by_cases h:t.h=0
 ·rw[aK h,aJ (by lia)]
 ·rw[aJ h,aK (by lia)]
inductive XV(kP kQ:aj)(vs:jh)(H:Hp)(Q:VK)(_:XK):Prop
 |mk(X:Zx)(lk:aj)(c:Nat)(ls:jh)(i:Nat)(_:vs=[.ref X.S,.int (i:Int)])(_:Wp kP kQ H X lk c ls)(_:i∈X.lv)(_:ls.length<=390000)(_:∀(H':Hp)(tp l:aj)(us:jh),(∀ b o,b≠lk->H b=some o->H' b=some o)->Wp kP kQ H' X lk c (ls++[.int (i:Int)])->H' tp=some (.tup [.str (kindOf (gd X.ts i)),.ref l])->H l=none->H' l=some (.lst us)->((gd X.ts i).h=0->kK H' (Y1 (gd X.ts i).rows) us)->((gd X.ts i).h≠0->us=iN (gd X.ts i).bs)->Q (.ref tp) H')
def ZM4(D:ZH P w K mg kT ZV 2 kP "look" zEa (UC kP kQ)):ZH P w K mg kT ZV 2 kP "look" zEa (XV kP kQ):=by
 let⟨g,gd',M,FG,b⟩:=D.ex;refine⟨g,gd',M,FG.imp λvs H Q E h=>?_,b⟩;let⟨X,lk,c,ls,i,e,R,hi,l9,k⟩:=h;let W:=R.tw i hi;let⟨us,hu,u1,u2⟩:=W.things;let⟨a,jE,jF,ea,ht,k1,k2⟩:=W.tag;cases ea;let o:=R.own i hi;refine⟨X.S,X.d,lk,c,X.kvs,ls,i,_,_,_,_,_,_,us,_,_,e,R.rd hi,hu,ht,Ne.symm o.2.2,Ne.symm o.2.1,l9,λH' l' t fr hlk nl' hl' ht'=>?_⟩;let hlk0:=R.sh.looks;let m:YD H H':=λb xs e=>fr b _ (Zg e hlk0 (by intro z;cases z)) e
 let⟨⟨dS,hS⟩,hd,_⟩:=R.sh;let ek:(if (YW (gd X.ts i)).h > 0 then ("stem" : Str) else "leaf")=kindOf (gd X.ts i):=Bm _
 rw[ek] at ht';exact k H' t l' us fr (R.frame ⟨⟨dS,fr _ _ (Zg hS hlk0 (by intro z;cases z)) hS⟩,fr _ _ (Zg hd hlk0 (by intro z;cases z)) hd,hlk⟩ (λb o _ _ n e=>fr b o n e) (λj hj=>(R.own j hj).2) R.le) ht' nl' hl' (λz=>(u1 z).mono m _ _) u2
end _T
namespace L2
open PySem PySem.Spec PyProof.Rows
section
variable{σ:St}{H:Hp}{ix:jK}{te:TE}{Q:VK}
def HM{J:It}{n:Nat}{tt:TT}(item:Nat->V->Prop)(keep:Nat->Bool)(Pv:aj->Nat->jh->Hp->Prop)(hn:n<ar)(hgo:∀ D i ys H,i<n->Pv D i ys H->J.go i H)(hy:∀ D i ys H x H',i<n->Pv D i ys H->J.yld i H x H'->H'=H/\item i x)(jI:∀ D ys H,Pv D n ys H->J.stop n H)(h0:∀ D,H D=none->Pv D 0 [] (upd H D (.lst [])))(test:∀ D i ys H x,H D=some (.lst ys)->i<n->item i x->Pv D i ys H->∀ R:Bool->Hp->Prop,(∀ H2,H2 D=some (.lst ys)->Pv D i ys H2->R (keep i) H2)->tt (N3 σ ix x) H R)(elt:∀ D i ys H x,H D=some (.lst ys)->i<n->item i x->keep i=true->Pv D i ys H->∀ R:VK,(∀ y H3,H3 D=some (.lst ys)->Pv D (i+1) (ys++[y]) (upd H3 D (.lst (ys++[y])))->R y H3)->te (N3 σ ix x) H R)(no:∀ D i ys H,H D=some (.lst ys)->i<n->keep i=false->Pv D i ys H->Pv D (i+1) ys H)(fin:∀ D ys H,H D=some (.lst ys)->Pv D n ys H->Q (.ref D) H):Vy J σ ix tt te H Q:=by
 intro D hD;exists λi m H=>m=n-i/\i<=n/\∃ ys,H D=some (.lst ys)/\ys.length<=i/\Pv D i ys H,⟨n,rfl,zH _,[],ZZ,zX _,h0 D hD⟩;rintro i m H ⟨rfl,hi,ys,e,hl,p⟩;by_cases hlt:i<n
 ·refine .inr ⟨hgo D i ys H hlt p,λx H' y=>?_⟩;let⟨rfl,it⟩:=hy D i ys H x H' hlt p y;refine test D i ys _ x e hlt it p _ λH2 e2 p2=>?_
  cases hk:keep i with
  | true=>
   rw[aK rfl];refine elt D i ys H2 x e2 hlt it hk p2 _ λy H3 e3 p3=>?_;exact⟨ys,n-(i+1),e3,by lia,by lia,Z,hlt,ys++[y],ZZ,by rw[zT,vP];lia,p3⟩
  | false=>
   rw[aJ zS];exact⟨n-(i+1),by lia,Z,hlt,ys,e2,Nat.le_succ_of_le hl,no D i ys H2 e2 hlt hk p2⟩
 ·let e':i=n:=by lia
  subst e';exact .inl ⟨jI D ys H p,fin D ys H e p⟩
end
end L2
namespace _T
open PySem PySem.Spec L2 PyProof.Rows
variable{kP kQ CS CT CH CK CP CB:aj}
inductive VC(N:aj->Prop)(H:Hp)(t:ZW)(u:V):Prop
 |mk(tp l us:_)(_:u=.ref tp)(_:H tp=some (.tup [.str (kindOf t),.ref l]))(_:H l=some (.lst us))(_:¬ N l)(_:t.h=0->kK H (Y1 t.rows) us)(_:t.h≠0->us=iN t.bs)
def VC.off{N:aj->Prop}{H H':Hp}{t:ZW}{u:V}(h:VC N H t u)(fr:∀ b o,¬ N b->H b=some o->H' b=some o)(m:YD H H'):VC N H' t u:=by
 let⟨tp,l,us,e,h1,h2,n,h3,h4⟩:=h;exact⟨tp,l,us,e,m _ _ h1,fr _ _ n h2,n,λz=>(h3 z).mono m _ _,h4⟩
def Cu{t:ZW}(h:t.h=0):kindOf t = "leaf" :=aK h
def FC{t:ZW}(h:t.h≠0):kindOf t = "stem" :=aJ h
def Dn(t:ZW):decide (V.str (kindOf t)=V.str "leaf")=decide (t.h=0):=by
 by_cases h:t.h=0
 ·rw[Cu h,aI rfl,aI h]
 ·rw[FC h,aH h];decide +kernel
inductive Y0(vs:jh)(H:Hp)(Q:VK)(_:XK):Prop
 |mk(N:aj->Prop)(t:ZW)(u:V)(_:vs=[u])(_:VC N H t u)(_:Q (.bl (decide (t.h=0))) H)
def ZLT:ZB zFb zFb (Zl JB):=⟨Z,Z,Z,by decide +kernel,Z,by decide +kernel,by decide +kernel⟩
def ZJc(F:Zo K "is_leaf" "is_leaf" JB f fd):ZK P w K mg kT ZV 1 f fd zFb Y0:=by
 refine F.ok ZLT (λvs H Q E h=>(by let⟨_,_,_,rfl,_⟩:=h;rfl)) (λcdv A outer s H vs Q E hr h=>?_)
 let⟨lk,t,u,rfl,⟨tp,l,us,rfl,h1,_⟩,k⟩:=h;exists _,ZP (Zk (VY XE (Za (r:=Zp K) ZM (pv 0) ZL (λ_ _=>rfl)) YB (Zu _)));exists _,Z,tp,_,_,.str (kindOf t),Z,Z,Zd.of h1,Z,Z;rw[Dn];exact k
end _T
namespace L2
open PySem PySem.Spec PyProof.Rows
section
variable{M:Model}
end
section
variable{kR:jO}{σ:St}{H:Hp}{E E1:XK}
end
section
variable{M:Model}{B:aD}{env:Env}{outer l:kg}{L e:aj}{cls:ai}{od:jY}{Q:Unit->am->Prop}
end
section
variable{kR:jO}{σ:St}{H:Hp}{E E1:XK}
end
section
variable{E:XK}
end
end L2
namespace _T
open PySem PySem.Spec L2 PyProof.Rows
variable{kP kQ CS CT CH CK CP CB:aj}
def Yn:jQ->V
 | none=>.non
 | some i=>.int (i:Int)
def Ya(X:Zx)(lk c:aj):Prop:=c≠X.S/\c≠X.d/\c≠lk/\∀ i,i∈X.lv->c≠(X.as.getD i .d).x/\c≠(X.as.getD i .d).ab/\c≠(X.as.getD i .d).th
def Xl(ts:jN):Nat->Nat->jK
 | 0,i=>[i]
 | n+1,i=>i::(gd ts i).bs.flatMap (Xl ts n)
def Wm(ts:jN):jQ->jK
 | none=>[]
 | some i=>Xl ts (gd ts i).h i
inductive RcAt(N:aj->Prop)(H:Hp)(ts:jN)(i:Nat)(u:V):Prop
 |mk(t fv:_)(_:u=.ref t)(_:H t=some (.tup [.int (i:Int),fv]))(_:VC N H (gd ts i) fv)
def RcAt.off{N:aj->Prop}{H H':Hp}{ts:jN}{i:Nat}{u:V}(h:RcAt N H ts i u)(fr:∀ b o,¬ N b->H b=some o->H' b=some o)(m:YD H H'):RcAt N H' ts i u:=by
 let⟨t,fv,e,h1,h2⟩:=h;exact⟨t,fv,e,m _ _ h1,h2.off fr m⟩
def ZO2{α β:Type}{F:α->β->Prop}{l l':List α}{m m':List β}(h:Paired F l m)(g:Paired F l' m'):Paired F (l++l') (m++m'):=by
 induction h with
 | nil=>exact g
 | cons r _ ih=>exact .cons r ih
def OX(H:Hp)(lk D b:aj):Prop:=b=lk\/H b≠none\/b=D
inductive YA(n:Nat)(kP kQ:aj):Sp
 |mk{H:Hp}{Q:VK}{E:XK}(X:Zx)(lk:aj)(c:Nat)(ls:jh)(r:jQ):Wp kP kQ H X lk c ls->WF X.lv X.ts->(∀ i,r=some i->i∈X.lv/\(gd X.ts i).h<=n)->(ls.length+(Wm X.ts r).length<=380000/\(Wm X.ts r).length<=900) ->
  (∀(H':Hp)(D:aj)(us:jh),(∀ b o,b≠lk->H b=some o->H' b=some o)->Wp kP kQ H' X lk c (ls++iN (Wm X.ts r))->H D=none->D≠lk->H' D=some (.lst us)->Paired (RcAt (OX H lk D) H' X.ts) (Wm X.ts r) us->Q (.ref D) H')->YA n kP kQ [.ref X.S,Yn r] H Q E
inductive Dr(kP kQ:aj)(X:Zx)(lk:aj)(c:Nat)(ls:jh)(i m:Nat)(tp D l:aj)(H:Hp)(j:Nat)(σ:L2.St)(H':Hp):Prop
 |mk(us:jh)(x4:ji):σ=[some (.ref X.S),some (Yn (some i)),some (.ref tp),some (.ref D),x4]->(∀ b o,b≠lk->H b=some o->H' b=some o)->Wp kP kQ H' X lk c (ls++iN (i::((gd X.ts i).bs.take j).flatMap (Xl X.ts m)))->H' D=some (.lst us)->Paired (RcAt (OX H lk D) H' X.ts) (i::((gd X.ts i).bs.take j).flatMap (Xl X.ts m)) us->H' l=some (.lst (iN (gd X.ts i).bs))->Dr kP kQ X lk c ls i m tp D l H j σ H'
abbrev Bn:jP:=["shelf","root","found","twigs","branch"]
def UT:ZB Bn zEc (Zl MR):=⟨Z,Z,Z,by decide +kernel,Z,by decide +kernel,by decide +kernel⟩
def Dq{n:Nat}(F:Zo K "reached" "reached" MR f fd)(L:Y4 K mg kP kQ)(DL:ZH P w K mg kT ZV 2 kP "look" zEa (XV kP kQ))(DI:ZA P w K mg kT 1 "is_leaf" zFb Y0)(DR:ZA P w K mg kT (n+3) "reached" zEc (λvs H Q E=>∃ m,m<n/\YA m kP kQ vs H Q E)):ZK P w K mg kT ZV (n+4) f fd zEc (YA n kP kQ):=by
 refine F.ok UT (λvs H Q E h=>(by cases h;rfl)) (λcdv A outer s H vs Q E hr h=>?_)
 let⟨X,lk,c,ls,r,R,hw,hr0,few,q⟩:=h;let nd:=UT.nd;let hr1:=hr.mono (show 1<=n+3 by lia)
 let hr2:=hr.mono (show 2<=n+3 by lia)
 refine⟨_,ZO (Zt (Uz (Os (pv 1))) (ZP (Zk (Yo ZD))) Zw)
  (ZO (Zr (i:=2) nd rfl (Or.inl rfl) (XM (E:=E0) (pv 0) L.cS DL hr2 Yd (ZF (pv 1) ZD)))
  (ZO (Zr (i:=3) nd rfl (Or.inl rfl) (Yo (ZF (XR (ZF (pv 1) (ZF (pv 2) ZD))) ZD)))
  (ZO (Zt (VW (XD (Zc DI hr1 (ZF (pv 2) ZD)))) (ZP (Xi PassesOwn.never rfl (Xu (Za (r:=Zp K) ZM (pv 2) ZL (λ_ _=>rfl))) (XB (i:=4) nd rfl (Or.inl rfl))
   (ZP (Xd (WW yB qF qD Dk (pv 3) (ZF (Zc DR hr (ZF (pv 0) (ZF (pv 4) ZD))) ZD)))))) Zw)
  (ZP (Zk (pv 3)))))),?_⟩
 cases r with
 | none=>
  refine⟨_,Z,_,Z,Z7 ?_⟩;refine⟨nn (zR rfl),λD nD=>?_⟩;let gD:=Zq nD (.lst []);exact q _ D [] (λb o _ e=>gD b o e) (by rw[show Wm X.ts none=[] from rfl,show iN []=[] from rfl,wK];exact R.same gD) nD (Ze R.sh.looks nD).symm ZZ .nil
 | some i=>
  refine⟨_,Z,_,Z,Zn ?_⟩;let⟨hi,hn⟩:=hr0 i Z;let⟨⟨dS,hS⟩,hd0,_⟩:=id R.sh;let l1:1<=(Wm X.ts (some i)).length:=by
   show 1<=(Xl X.ts (gd X.ts i).h i).length
   cases(gd X.ts i).h with
   | zero=>exact zX _
   | succ n=>exact uH (zH _)
  refine⟨_,Z,X.S,dS,_,Z,hS,Z,_,Z,X,lk,c,ls,i,Z,R,hi,by lia,λH1 tp l us0 fr1 R1 htp nl hl k1 k2=>?_⟩
  refine⟨_,Z,_,Z,nn (zR rfl),λt nt=>?_⟩;let g1:=Zq nt (.tup [Yn (some i),.ref tp]);let et:upd H1 t (.tup [Yn (some i),.ref tp]) t=some (.tup [.int (i:Int),.ref tp]):=ZZ;generalize upd H1 t (.tup [Yn (some i),.ref tp])=H2 at g1 et⊢;refine⟨nn (zR rfl),λD nD=>?_⟩;let g2:=Zq nD (.lst [.ref t]);let eD:=ZZ (H:=H2) (a:=D) (o:=.lst [.ref t]);generalize upd H2 D (.lst [.ref t])=H3 at g2 eD⊢;let g:=g1.trans g2;let hlk:=R.sh.looks;let nlk:l≠lk:=λz=>by rw[z,hlk] at nl;cases nl
  let n1:H1 D=none:=g1.free nD;let Dlk:D≠lk:=λz=>by rw[z,R1.sh.looks] at n1;cases n1
  let nD0:H D=none:=by
   cases z:H D with
   | none=>rfl
   | some o=>rw[fr1 D o Dlk z] at n1;cases n1
  let nlD:l≠D:=λz=>by rw[<-z,hl] at n1;cases n1
  let nO:¬ OX H lk D l:=λz=>by
   rcases z with z | z | z
   ·exact nlk z
   ·exact z nl
   ·exact nlD z
  let FA:VC (OX H lk D) H3 (gd X.ts i) (.ref tp):=⟨tp,l,us0,Z,g _ _ htp,g _ _ hl,nO,λz=>(k1 z).mono (ZC.tups g) _ _,k2⟩;let RA:RcAt (OX H lk D) H3 X.ts i (.ref t):=⟨t,.ref tp,Z,g2 _ _ et,FA⟩;let fr3:∀ b o,b≠lk->H b=some o->H3 b=some o:=λb o z e=>g _ _ (fr1 b o z e);let R3:=R1.same g;exists _,Z,_,gd X.ts i,_,Z,FA,_,Z;by_cases h0:(gd X.ts i).h=0
  ·rw[aI h0];let ep:Wm X.ts (some i)=[i]:=by
    show Xl X.ts (gd X.ts i).h i=_;rw[h0];rfl
   rw[ep] at q;exact Zn ⟨_,Z,q H3 D _ fr3 R3 nD0 Dlk eD (.cons RA .nil)⟩
  rw[aH h0];obtain⟨m,em⟩:∃ m,(gd X.ts i).h=m+1:=⟨(gd X.ts i).h-1,by lia⟩
  let ep:Wm X.ts (some i)=i::(gd X.ts i).bs.flatMap (Xl X.ts m):=by
   show Xl X.ts (gd X.ts i).h i=_;rw[em];rfl
  rw[ep] at q few;let eu:=k2 h0;subst eu;let hs:=(hw i hi).stem h0;refine Z7 ⟨_,Z,tp,_,_,.ref l,Z,Z,Zd.of (g _ _ htp),Z,l,Z,⟨_,ZI.of (g _ _ hl)⟩,Vt (K:=K) (a:=l) (xs:=iN (gd X.ts i).bs) (Dr kP kQ X lk c ls i m tp D l H) ⟨_,_,Z,fr3,R3,eD,.cons RA .nil,g _ _ hl⟩ (λj σ H' _ hP=>by let⟨_,_,_,_,_,_,_,h⟩:=hP;exact ZI.of h) ?_ ?_⟩
  ·rintro j u σ H4 hu ⟨us,x4,rfl,fr4,R4,eD4,hP4,hl4⟩;unfold iN at hu;rw[zC] at hu;let⟨b,hb,rfl⟩:=xY.mp hu;let⟨hbi,hbh⟩:=hs.2.2.1 b (zG hb);let eb:Wm X.ts (some b)=Xl X.ts m b:=by
    show Xl X.ts (gd X.ts b).h b=_;rw[show (gd X.ts b).h=m by lia]
   let et':(gd X.ts i).bs.take (j+1)=(gd X.ts i).bs.take j++[b]:=by rw[yW,hb];rfl
   let ef:((gd X.ts i).bs.take (j+1)).flatMap (Xl X.ts m)=((gd X.ts i).bs.take j).flatMap (Xl X.ts m)++Xl X.ts m b:=by rw[et',vK];simp
   let lf:(((gd X.ts i).bs.take (j+1)).flatMap (Xl X.ts m)).length<=((gd X.ts i).bs.flatMap (Xl X.ts m)).length:=by
    conv=>rhs;rw[<-wF (j+1) (gd X.ts i).bs,vK,zT]
    exact xM _ _
   let few1:=few;rw[ef,zT] at lf;simp only[zU] at few1;let l4:=Paired.length hP4;simp only[zU] at l4;refine⟨_,Z,.inl ⟨Z,_,ZI.of eD4⟩,_,Z,_,Z,m,by lia,.mk X lk c _ (some b) R4 hw (λy hy=>by cases hy;exact⟨by lia,by lia⟩) ?_ λH5 D2 us2 fr5 R5 nD2 D2lk eD2 hP5=>?_⟩
   ·rw[eb,zT];unfold iN;simp only[zY,zU];lia
   rw[eb] at R5 hP5;let l5:=Paired.length hP5;let eD5:=fr5 _ _ Dlk eD4;let hl5:=fr5 _ _ nlk hl4;let D2D:D2≠D:=λz=>by rw[z,eD4] at nD2;cases nD2
   exists D,D2,us,us2,Z,Z,eD5,eD2,nn (by lia)
   let fr6:∀ b o,b≠lk->b≠D->H4 b=some o->upd H5 D (.lst (us++us2)) b=some o:=λb o z1 z2 e=>by rw[ZY z2];exact fr5 b o z1 e
   let t4:YD H4 (upd H5 D (.lst (us++us2))):=λb xs e=>fr6 b _ (Zg e R4.sh.looks (by intro z;cases z)) (Zg e eD4 (by intro z;cases z)) e
   let t5:YD H5 (upd H5 D (.lst (us++us2))):=λb xs e=>by rw[ZY (Zg e eD5 (by intro z;cases z))];exact e
   let nR:∀ b o,H b=some o->b≠D:=λb o e=>Ze e nD0;let R6:=R5.but (p:=D) (H':=upd H5 D (.lst (us++us2))) (λb o e z=>by rw[ZY z];exact e) (λz=>by
    rcases z with z | z | z
    ·exact nR _ _ hS z.symm
    ·exact nR _ _ hd0 z.symm
    ·exact Dlk z) (λy hy=>by
     let⟨dx,hx⟩:=(R.tw y hy).tw.self;let⟨vs,e1,_⟩:=(R.tw y hy).things;exact⟨nR _ _ hx,nR _ _ (R.tw y hy).tw.above,nR _ _ e1⟩) t5
   refine⟨us++us2,_,Z,λb o z e=>fr6 b o z (nR _ _ e) (fr4 b o z e),?_,ZZ,?_,by rw[ZY nlD];exact hl5⟩
   ·rw[ef,<-vH];unfold iN at R6⊢;rw[yZ,<-xW];exact R6
   ·rw[ef,<-vH];refine ZO2 (Paired.mapP hP4 λy u h=>h.off (λb o z e=>fr6 b o (λy=>z (.inl y)) (λy=>z (.inr (.inr y))) e) t4) (Paired.mapP hP5 λy u h=>?_);let⟨t',fv,e1,e2,tq,lq,vq,e3,e4,e5,nq',e6,e7⟩:=h;let lD:lq≠D:=λz=>nq' (.inr (.inl (by rw[z,eD4];intro y;cases y)))
    refine⟨t',fv,e1,t5 _ _ e2,tq,lq,vq,e3,t5 _ _ e4,by rw[ZY lD];exact e5,λz=>?_,λz=>(e6 z).mono t5 _ _,e7⟩
    rcases z with z | z | z
    ·exact nq' (.inl z)
    ·refine nq' (.inr (.inl λy=>?_))
     cases x:H lq with
     | none=>exact z x
     | some o=>rw[fr4 lq o (λy=>nq' (.inl y)) x] at y;cases y
    ·exact lD z
  ·rintro σ H4 ⟨us,x4,rfl,fr4,R4,eD4,hP4,hl4⟩;let el:(gd X.ts i).bs.take (iN (gd X.ts i).bs).length=(gd X.ts i).bs:=by unfold iN;rw[zY,xK]
   rw[el] at R4 hP4;exact⟨_,Z,q H4 D us fr4 R4 nD0 Dlk eD4 hP4⟩
def YA.mono{m n:Nat}{vs:jh}{H:Hp}{Q:VK}{E:XK}(h:YA m kP kQ vs H Q E)(hm:m<=n):YA n kP kQ vs H Q E:=by
 let⟨X,lk,c,ls,r,R,hw,hr0,few,q⟩:=h;exact⟨X,lk,c,ls,r,R,hw,λi e=>⟨(hr0 i e).1,zK (hr0 i e).2 hm⟩,few,q⟩
def EZ(L0:ZX K mg "reached" MR zEc)(L:Y4 K mg kP kQ)(DL:ZH P w K mg kT ZV 2 kP "look" zEa (XV kP kQ))(DI:ZA P w K mg kT 1 "is_leaf" zFb Y0):∀ n:Nat,ZA P w K mg kT (n+3) "reached" zEc (λvs H Q E=>∃ m,m<n/\YA m kP kQ vs H Q E)
 | 0=>L0.of λ_ _ _=>O6 λvs H Q E h=>by let⟨m,hm,_⟩:=h;lia
 | n+1=>L0.of λ_ _ F=>(Dq F L DL DI (EZ L0 L DL DI n)).imp λvs H Q E h=>by
  let⟨m,hm,h⟩:=h;exact h.mono (by lia)
structure LA(kP kQ:aj)(H:Hp)(X:Zx)(lk:aj)(c:Nat)(ls:jh)(r:jQ):Prop where
 sh:Wp kP kQ H X lk c ls
 wf:WF X.lv X.ts
 low:∀ i,r=some i->i∈X.lv/\(gd X.ts i).h<=20
 few:ls.length+(Wm X.ts r).length<=380000/\(Wm X.ts r).length<=900
structure EH(kP kQ:aj)(H H':Hp)(X:Zx)(lk:aj)(c:Nat)(ls:jh)(r:jQ)(D:aj):Prop where
 fr:∀ b o,b≠lk->H b=some o->H' b=some o
 sh:Wp kP kQ H' X lk c (ls++iN (Wm X.ts r))
 free:H D=none
 ne:D≠lk
def LA.reach{H:Hp}{X:Zx}{lk:aj}{c:Nat}{ls:jh}{r:jQ}(h:LA kP kQ H X lk c ls r){Q:VK}{E:XK}(q:∀ (H':Hp) (D:aj) (us:jh),EH kP kQ H H' X lk c ls r D->H' D=some (.lst us)->Paired (RcAt (OX H lk D) H' X.ts) (Wm X.ts r) us->Q (.ref D) H'):YA 20 kP kQ [.ref X.S,Yn r] H Q E:=
 .mk X lk c ls r h.sh h.wf h.low h.few λH' D us a1 a2 a3 a4 a5 a6=>q H' D us ⟨a1,a2,a3,a4⟩ a5 a6
def Ob(ts:jN)(j:Nat):Bool:=decide ((gd ts j).h=0)
def UP(ts:jN)(l:jK):jT:=(l.filter (Ob ts)).flatMap λj=>(gd ts j).rows
def Dy(ts:jN)(l:jK)(y:Nat):UP ts (l++[y])=UP ts l++if Ob ts y then (gd ts y).rows else []:=by
 unfold UP;rw[vR,vK]
 congr 1
 cases h:Ob ts y <;> simp[h]
def ZRn{n:Nat}(h:n<=4000):n<=sizeLine:=zK h (by decide)
inductive XY(kP kQ:aj):Sp
 |mk{H:Hp}{Q:VK}{E:XK}(X:Zx)(lk:aj)(c:Nat)(ls:jh)(r:jQ):LA kP kQ H X lk c ls r->(∀ j∈Wm X.ts r,j∈X.lv)->(∀(H':Hp)(D:aj)(ws:jh),EH kP kQ H H' X lk c ls r D->H' D=some (.lst ws)->kK H' (Y1 (UP X.ts (Wm X.ts r))) ws->Q (.ref D) H')->XY kP kQ [.ref X.S,Yn r] H Q E
abbrev ZOO:jP:=["shelf","root","rows","twig"]
def Vi:ZB ZOO zEc (Zl Jo):=⟨Z,Z,Z,by decide +kernel,Z,by decide +kernel,by decide +kernel⟩
inductive Gw(X:Zx)(r:jQ)(D:aj)(H2:Hp)(j:Nat)(σ:L2.St)(H':Hp):Prop
 |mk(ws:jh)(x3:ji):σ=[some (.ref X.S),some (Yn r),some (.ref D),x3]->H' D=some (.lst ws)->kK H' (Y1 (UP X.ts ((Wm X.ts r).take j))) ws->ws.length<=4 * j->ZG D H2 H'->Gw X r D H2 j σ H'
def ZIs(F:Zo K "rows_of" "rows_of" Jo f fd)(DI:ZA P w K mg kT 1 "is_leaf" zFb Y0)(DR:ZA P w K mg kT 25 "reached" zEc (YA 20 kP kQ)):ZK P w K mg kT ZV 26 f fd zEc (XY kP kQ):=by
 refine F.ok Vi (λvs H Q E h=>(by cases h;rfl)) (λcdv A outer s H vs Q E hr h=>?_)
 let nd:=Vi.nd;let hr1:=hr.mono (show 1<=25 by decide)
 refine⟨_,ZO (Zr (i:=2) nd rfl (Or.inl rfl) (Yo ZD))
  (ZO (Xi PassesOwn.never rfl (Xu (Zc DR hr (ZF (pv 0) (ZF (pv 1) ZD)))) (XB (i:=3) nd rfl (Or.inl rfl))
   (ZP (Zt (XD (Zc DI hr1 (ZF (Za (r:=Zp K) ZM (pv 3) ZL (λ_ _=>rfl)) ZD)))
    (ZP (Xd (WW yB qF qD Dk (pv 2) (ZF (Za (r:=Zp K) ZM (Za (r:=Zp K) ZM (pv 3) ZL (λ_ _=>rfl)) ZL (λ_ _=>rfl)) ZD)))) Zw)))
  (ZP (Zk (pv 2)))),?_⟩
 refine⟨nn (zR rfl),λD nD=>?_⟩;let gD:=Zq nD (.lst []);let⟨X,lk,c,ls,r,R,inn,q⟩:=h;let eD:=ZZ (H:=H) (a:=D) (o:=.lst []);generalize upd H D (.lst [])=H1 at gD eD⊢;let R1:LA kP kQ H1 X lk c ls r:=⟨R.sh.same gD,R.wf,R.low,R.few⟩;refine⟨_,Z,_,Z,R1.reach λH2 D1 us B1 hD1 hP=>?_⟩;let lp:=Paired.length hP;let few:=R.few;let Dlk:D≠lk:=(Ze R.sh.sh.looks nD).symm;let eD2:=B1.fr D _ Dlk eD;let D1D:D1≠D:=λz=>by have:=B1.free;rw[z,eD] at this;cases this
 refine⟨D1,Z,⟨us,ZI.of hD1⟩,Vt (K:=K) (a:=D1) (xs:=us) (Gw X r D H2) ⟨[],_,Z,eD2,.nil,zH _,λb o e _=>e⟩ (λj σ H' _ hP=>by let⟨_,_,_,_,_,_,h⟩:=hP;exact ZI.of (h _ _ hD1 D1D)) ?_ ?_⟩
 ·rintro j u σ H4 hu ⟨ws,x3,rfl,hw4,kw4,l4,s4⟩;let⟨y,ey,t,fv,rfl,et,FA⟩:=Paired.ixR hP hu;let hj:j<us.length:=(yY.mp hu).1;let t4:YD H2 H4:=λb xs e=>s4 _ _ e (Zg e eD2 (by intro z;cases z))
  let hy:=inn y (zG ey);let ok:=R.wf y hy;let fD:∀ b o,¬ (OX H1 lk D1) b->H2 b=some o->H4 b=some o:=λb o z e=>s4 b o e λx=>z (.inr (.inl (by rw[x,eD];intro x;cases x)))
  let F4:=FA.off fD t4;let et4:(Wm X.ts r).take (j+1)=(Wm X.ts r).take j++[y]:=by rw[yW,ey];rfl
  exists _,Z,t,_,_,fv,Z,Z,Zd.of (t4 _ _ et),Z,_,gd X.ts y,fv,Z,F4,_,Z;let⟨tq,lq,vq,rfl,e4,e5,nq',e6,e7⟩:=F4;by_cases h0:(gd X.ts y).h=0
  ·rw[aI h0];let kq:=e6 h0;let lv:vq.length=(gd X.ts y).rows.length:=by have:=kq.length;rw[<-this];exact zY _
   let l44:=(ok.leaf h0).2;refine Z7 ⟨_,Z,.inl ⟨Z,_,ZI.of hw4⟩,_,Z,t,_,_,.ref tq,Z,Z,Zd.of (t4 _ _ et),Z,tq,_,_,.ref lq,Z,Z,Zd.of e4,Z,D,lq,ws,vq,Z,Z,hw4,e5,ZRn (by lia),?_⟩
   let t5:YD H4 (upd H4 D (.lst (ws++vq))):=λb xs e=>by rw[ZY (Zg e hw4 (by intro z;cases z))];exact e
   refine⟨ws++vq,_,Z,ZZ,?_,by rw[zT];lia,λb o e z=>by rw[ZY z];exact s4 b o e z⟩
   rw[et4,Dy,aK (show Ob X.ts y=true from aI h0),MQ];exact(kw4.mono t5 _ _).append (kq.mono t5 _ _)
  ·rw[aH h0];refine Zn ⟨ws,_,Z,hw4,?_,by lia,s4⟩
   rw[et4,Dy,aJ (by unfold Ob;rw[aH h0];exact zS),wK]
   exact kw4
 ·rintro σ H4 ⟨ws,x3,rfl,hw4,kw4,l4,s4⟩;rw[yS (by lia)] at kw4
  refine⟨_,Z,q H4 D ws ⟨λb o z e=>s4 _ _ (B1.fr b o z (gD _ _ e)) (Ze e nD),?_,nD,Dlk⟩ hw4 kw4⟩;let t4:YD H2 H4:=λb xs e=>s4 _ _ e (Zg e eD2 (by intro z;cases z))
  let⟨⟨dS,hS⟩,hd0,_⟩:=id R.sh.sh;refine B1.sh.but (p:=D) s4 (λz=>?_) (λy hy=>?_) t4
  ·rcases z with z | z | z
   ·exact Ze hS nD z.symm
   ·exact Ze hd0 nD z.symm
   ·exact Dlk z
  ·let⟨dx,hx⟩:=(R.sh.tw y hy).tw.self;let⟨vs,e1,_⟩:=(R.sh.tw y hy).things;exact⟨Ze hx nD,Ze (R.sh.tw y hy).tw.above nD,Ze e1 nD⟩
section
variable{gt:jK}{ts:jN}
def F6(hw:WF gt ts):∀(n i:Nat),i∈gt->(gd ts i).h=n->∀ j∈Xl ts n i,j∈gt
 | 0,i,hi,_,j,hj=>by
  have:j=i:=by simpa [Xl] using hj
  subst this;exact hi
 | n+1,i,hi,hn,j,hj=>by
  let hs:=(hw i hi).stem (by lia)
  rw[Xl] at hj;rcases zI.mp hj with z | z
  ·subst z;exact hi
  ·let⟨b,hb,hj'⟩:=vG.mp z;let⟨b1,b2⟩:=hs.2.2.1 b hb;exact F6 hw n b b1 (by lia) j hj'
def Bg(l:jK)(g:Nat->jK):UP ts (l.flatMap g)=l.flatMap λb=>UP ts (g b):=by
 induction l with
 | nil=>rfl
 | cons a l ih=>
  rw[yI,yI,<-ih];unfold UP;rw[vR,vK]
def FP(hw:WF gt ts):∀(n i:Nat),i∈gt->(gd ts i).h=n->UP ts (Xl ts n i)=(gd ts i).rows
 | 0,i,hi,hn=>by
  unfold UP;rw[Xl,xL,aK (show Ob ts i=true from aI hn)];simp
 | n+1,i,hi,hn=>by
  let hs:=(hw i hi).stem (by lia)
  let e:UP ts (Xl ts (n+1) i)=UP ts ((gd ts i).bs.flatMap (Xl ts n)):=by
   unfold UP;rw[Xl,xL,aJ (by unfold Ob;rw[aH (by lia)];exact zS)]
  rw[e,Bg,hs.2.2.2,List.flatMap_def,List.flatMap_def]
  congr 1
  refine uB λb hb=>?_;let⟨b1,b2⟩:=hs.2.2.1 b hb;exact FP hw n b (by lia) (by lia)
def CM(hw:WF gt ts):∀(n i:Nat),i∈gt->(gd ts i).h=n->(Xl ts n i).length+1<=2 * (gd ts i).rows.length
 | 0,i,hi,_=>by
  have:=xJ.mpr (hw i hi).ne;show 1+1<=_;lia
 | n+1,i,hi,hn=>by
  let hs:=(hw i hi).stem (by lia)
  let⟨b2,_,b3,er⟩:=hs;let go:∀ l:jK,(∀ b∈l,b∈(gd ts i).bs)->(l.flatMap (Xl ts n)).length+l.length<=2 * (l.flatMap λb=>(gd ts b).rows).length:=λl hl=>by
   induction l with
   | nil=>exact zX _
   | cons b l ih=>
    let h1:=ih λc hc=>hl c (zJ _ hc);let⟨c1,c2⟩:=b3 b (hl b zO);let h2:=CM hw n b c1 (by lia)
    rw[yI,yI,zT,zT,zU];lia
  have:=go _ λb h=>h;rw[er,Xl,zU];lia
end
end _T
namespace L2
open PySem PySem.Spec PyProof.Rows
def ZOX{ns:jX}{us:jg}(h:ZR (ns.map V.int) us):PySem.W.kf_ints us=true/\∀(i:Nat)(n:Int),ns[i]? = some n->∃ t,us[i]? = some (.int n t):=by
 refine⟨?_,λi n e=>?_⟩
 ·induction ns generalizing us with
  | nil=>cases h;rfl
  | cons n ns ih=>
   cases h with
   | cons r t=>
    let⟨tk,rfl⟩:=r;rw[PySem.W.kf_ints];exact ih t
 ·let⟨u,e1,t,rfl⟩:=h.get (x:=.int n) (i:=i) (by rw[zC,e];rfl)
  exact⟨t,e1⟩
inductive PL(x:V)(vs:jh)(H:Hp)(Q:VK):Prop
 |mk(l:aj)(ns:jX)(b:Int)(_:x=.ref l)(_:vs=[.int b])(_:H l=some (.lst (ns.map V.int)))(_:b∈ns)(_:Q .non (upd H l (.lst ((ns.erase b).map V.int))))
def ZKb:Nz X "list.remove" PL:=by
 intro kR s σ H x vs v us Q I rx rv h;let⟨l,ns,b,rfl,rfl,hH,hb,q⟩:=h;cases rx;let⟨u,rfl,ru⟩:=rv.one;let⟨tk,rfl⟩:=ru;let⟨z,jk,n,r,hl,e⟩:=I.lstM hH;let⟨ki,at_⟩:=ZOX r;let jl:=List.idxOf_lt_length_of_mem hb;let len:jk.length=ns.length:=by have:=r.length;rw[zY] at this;exact this.symm
 let N6:∀(m:Nat)(hm:m<jk.toArray.size)(k:Int),ns[m]? = some k->isInt b jk.toArray[m]=decide (k=b):=λm hm k hk=>by
  let⟨t,et⟩:=at_ m k hk;have:jk.toArray[m]? = some (Value.int k t):=by simpa using et
  rw[vZ hm] at this;rw[yL.inj this];show (k==b)=_;rw[wL];simp
 let hjs:ns.idxOf b<jk.toArray.size:=by rw[zM,len];exact jl
 let hz:jk.toArray.size<=sizeLine:=by
  rw[zM,len];have:=z;rw[zY] at this;exact this
 refine call_meets F.slot_list_remove ⟨_,e,Z⟩ F.entry_list_remove (F.args_list_remove_2 _ _) (MeetsSeq.list_remove l jk.toArray n (.int b tk) (isInt b) (λy hy=>PySem.W.kf_eq ki y (by simpa using hy)) (ns.idxOf b) hjs ?_ (λm hm hlt=>?_) hz) ⟨e,?_⟩
 ·rw[N6 _ hjs b (by rw[zV jl,List.getElem_idxOf jl])]
  exact aI Z
 ·let hm':m<ns.length:=by lia
  rw[N6 m hm ns[m] (zV hm')];have:=List.not_of_lt_findIdx (p:=(· == b)) (xs:=ns) (i:=m) hlt;exact aH λz=>by rw[z] at this;simp at this
 ·let ee:ns.erase b=ns.take (ns.idxOf b)++ns.drop (ns.idxOf b+1):=by rw[List.erase_eq_eraseIdx_of_idxOf rfl,qA]
  refine⟨.non,_,I.lset (its':=jk.take (ns.idxOf b)++jk.drop (ns.idxOf b+1)) hH e ?_ ?_ ?_,Z,q⟩
  ·apply vF.mp;rw[pZ,qA]
  ·rw[ee,yZ,rF,zEA];exact(r.take _).append (r.drop _)
  ·rw[zY];have:=List.length_erase_le (l:=ns) (a:=b);rw[zY] at z;lia
end L2
namespace _T
open PySem PySem.Spec L2 PyProof.Rows
variable{kP kQ CS CT CH CK CP CB:aj}
abbrev Up(rs:jT):Prop:=P5 (rs.map (·.1))
def O1(ts:jN)(l m:jK):Z4 ts (l++m)=Z4 ts l++Z4 ts m:=vK
def Mz(ts:jN)(b:Nat)(m:jK):Z4 ts (b::m)=(gd ts b).rows++Z4 ts m:=yI ..
def HF{ts ts':jN}{l:jK}(h:∀ b∈l,(gd ts' b).rows=(gd ts b).rows):Z4 ts' l=Z4 ts l:=by
 induction l with
 | nil=>rfl
 | cons b l ih=>rw[Mz,Mz,h b zO,ih λc hc=>h c (zJ _ hc)]
def AK{ts:jN}{bs:jK}(ne:∀ b∈bs,(gd ts b).rows≠[])(h1:0<bs.length):(⟨((YL ts bs).getD 0 .d).h+1,((YL ts bs).getD 0 .d).lo,((YL ts bs).getD ((YL ts bs).length-1) .d).hi,((YL ts bs).map YI.m).sum⟩:YI)=YW (Yw ts bs):=by
 let ll:(YL ts bs).length=bs.length:=zY _;let hmem:∀ i,i<bs.length->bs.getD i 0∈bs:=λi hi=>by rw[zQ,zV hi];exact yD _
 let elo:((YL ts bs).getD 0 .d).lo=(YW (Yw ts bs)).lo:=by
  rw[QL h1];let⟨r,rs,e,el⟩:=OV (ne _ (hmem 0 h1));rw[el]
  cases bs with
  | nil=>simp at h1
  | cons b bs=>
   unfold YW Yw Z4;let e':(gd ts b).rows=r::rs:=e;simp only[yI,e'];rfl
 let ehi:((YL ts bs).getD ((YL ts bs).length-1) .d).hi=(YW (Yw ts bs)).hi:=by
  rw[ll,QL (by lia)]
  let⟨rs,r,e,el⟩:=LM (ne _ (hmem (bs.length-1) (by lia)))
  rw[el];rcases rK bs with z | ⟨bi,b,z⟩
  ·rw[z] at h1;simp at h1
  ·rw[rM] at z;let eb:bs.getD (bs.length-1) 0=b:=by rw[z];simp[zQ]
   rw[eb] at e;let er:Z4 ts bs=Z4 ts bi++rs++[r]:=by rw[z];simp[Z4,e]
   unfold YW Yw;simp only[er];simp[zQ]
 let em:((YL ts bs).map YI.m).sum=(YW (Yw ts bs)).m:=by
  have:∀ l:jK,((YL ts l).map YI.m).sum=((Z4 ts l).length:Int):=λl=>by
   induction l with
   | nil=>rfl
   | cons b l ih=>
    let e1:YL ts (b::l)=YW (gd ts b)::YL ts l:=rfl;rw[e1,Mz,zB,tV,ih,zT];show ((gd ts b).rows.length:Int)+_=_;lia
  exact this bs
 let eh:((YL ts bs).getD 0 .d).h+1=(YW (Yw ts bs)).h:=by
  rw[QL h1];show ((gd ts (bs.getD 0 0)).h:Int)+1=(((gd ts (bs.getD 0 0)).h+1:Nat):Int);lia
 rw[elo,ehi,em,eh]
def ZJ4{ts:jN}{bs:jK}{h:Nat}(hb:∀ b∈bs,(gd ts b).rows≠[]/\(gd ts b).h=h)(h2:2<=bs.length)(h4:bs.length<=4)(hr:Up (Z4 ts bs)):Us (YL ts bs)=some (YW (Yw ts bs)):=by
 let ll:(YL ts bs).length=bs.length:=zY _;let up:=hr;unfold Up P5 Z4 at up;rw[List.map_flatMap,zEL] at up;rw[<-AK (λb h=>(hb b h).1) (by lia)]
 refine Bs (by lia) (by lia) λj hj=>?_
 let j0:j<bs.length:=by lia
 let j1:j+1<bs.length:=by lia
 rw[QL j0,QL j1];let ea:bs[j]? = some (bs.getD j 0):=by rw[zQ,zV j0];rfl
 let eb:bs[j+1]? = some (bs.getD (j+1) 0):=by rw[zQ,zV j1];rfl
 let ha:=hb _ (zG ea);let hc:=hb _ (zG eb);let pr:=IX up.2 (uI j) ea eb;let⟨rs1,r1,e1,f1⟩:=LM ha.1;let⟨r2,rs2,e2,f2⟩:=OV hc.1;unfold QG;rw[zP];exists ?_
 ·show (((gd ts (bs.getD j 0)).h:Int)==((gd ts (bs.getD (j+1) 0)).h:Int))=true;rw[ha.2,hc.2];simp
 ·rw[f1,f2];refine pr _ ?_ _ ?_
  ·rw[e1,yZ];exact yC _ (zN.mpr Z)
  ·rw[e2];exact zO ..
section
variable{gt:jK}{ts:jN}{r:Nat}
def Tp(av:Nat->jK)(ho:Nat->Nat)(i:Nat):Prop:=av i=[]/\ho i=1
inductive Rd(gt:jK)(av:Nat->jK)(ho:Nat->Nat):Nat->jK->Prop
 | top {i:Nat}:i∈gt->Tp av ho i->Rd gt av ho i [i]
 | up {i j:Nat} {l:jK}:i∈gt->av i=[j]->ho i=0->Rd gt av ho j l->Rd gt av ho i (i::l)
def Rd.hd{av:Nat->jK}{ho:Nat->Nat}{i:Nat}{l:jK}(h:Rd gt av ho i l):∃ up,l=i::up:=by
 cases h with
 | top a=>exact⟨_,Z⟩
 | up a=>exact⟨_,Z⟩
end
def ZNn{gt:jK}{ts:jN}(hw:WF gt ts){j:Nat}(hj:j∈gt)(h0:(gd ts j).h≠0):(gd ts j).bs.Pairwise λa b=>(YW (gd ts a)).lo.lt (YW (gd ts b)).lo=true:=by
 let ok:=hw j hj;let⟨b2,b4,b3,er⟩:=ok.stem h0;let up:=ok.up;rw[er,List.map_flatMap,zEL] at up;let lo:∀ b∈(gd ts j).bs,(YW (gd ts b)).lo∈(gd ts b).rows.map (·.1):=λb hb=>by
  let hbl:b∈gt:=(b3 b hb).1;let⟨r,rs,e1,e2⟩:=OV (hw b hbl).ne;rw[e1,e2];exact zO ..
 have:=up.2;exact this.imp_of_mem fun{a b} ha hb h=>h _ (lo a ha) _ (lo b hb)
def Dx{gt:jK}{ts:jN}(hw:WF gt ts){j:Nat}(hj:j∈gt)(h0:(gd ts j).h≠0):(gd ts j).bs.Nodup:=(ZNn hw hj h0).imp fun{a b} h e=>by rw[e,On] at h;cases h
section
variable{gt:jK}{ts:jN}{r:Nat}{k:KT}
def Ka(hw:WF gt ts):∀(n i:Nat),i∈gt->(gd ts i).h=n->2 ^ n<=(gd ts i).rows.length
 | 0,i,hi,_=>xJ.mpr (hw i hi).ne
 | n+1,i,hi,hn=>by
  let⟨b2,_,b3,er⟩:=(hw i hi).stem (by lia)
  let go:∀ l:jK,(∀ b∈l,b∈(gd ts i).bs)->l.length * 2 ^ n<=(l.flatMap λb=>(gd ts b).rows).length:=λl hl=>by
   induction l with
   | nil=>simp
   | cons b l ih=>
    let h1:=ih λc hc=>hl c (zJ _ hc);let⟨c1,c2⟩:=b3 b (hl b zO);let h2:=Ka hw n b c1 (by lia)
    rw[yI,zT,zU,Nat.add_mul];lia
  let h:=go _ λb h=>h;rw[er,Nat.pow_succ];have:2 * 2 ^ n<=(gd ts i).bs.length * 2 ^ n:=tY _ b2;lia
end
section
variable{kP kQ:aj}{H H':Hp}{S d lk:aj}{lv:jK}{ts:jN}{av:Nat->jK}{ho:Nat->Nat}{as:kf}{kvs:List (Zi×V)}{ls:jh}{b:Nat}
def YN.set1(R:YN kP kQ H S d lk lv ts av ho as kvs ls)(hb:b∈lv){av':Nat->jK}{ho':Nat->Nat}(ea:∀ c,c≠b->av' c=av c)(eh:∀ c,c≠b->ho' c=ho c)(hx:∃ dx,H' (as.getD b .d).x=some (.ins kQ dx (Ut (.ref (as.getD b .d).th) (.ref (as.getD b .d).tg) (as.getD b .d).ab (ho' b))))(ha:H' (as.getD b .d).ab=some (.lst (iN (av' b))))(k:∀ c o,c≠(as.getD b .d).x->c≠(as.getD b .d).ab->H c=some o->H' c=some o):YN kP kQ H' S d lk lv ts av' ho' as kvs ls:=by
 let⟨⟨dS,hS⟩,hd,hl⟩:=R.sh;let Wb:=R.tw b hb;let⟨dx0,hx0⟩:=Wb.tw.self;let hab:=Wb.tw.above;let⟨us,e1,e2,e3⟩:=Wb.things;let m:YD H H':=λc xs e=>k c _ (Zg e hx0 (by intro z;cases z)) (Zg e hab (by intro z;cases z)) e
 refine⟨⟨⟨dS,k _ _ (R.own b hb).1.symm (Zg hS hab (by intro z;cases z)) hS⟩,k _ _ (Zg hd hx0 (by intro z;cases z)) (Zg hd hab (by intro z;cases z)) hd,k _ _ (Zg hl hx0 (by intro z;cases z)) (R.own b hb).2.1.symm hl⟩,R.lt,R.keys,R.val,R.len,λi hi=>?_,R.own,R.two⟩
 by_cases z:i=b
 ·subst z;exact⟨⟨hx,ha⟩,⟨us,k _ _ (Zg e1 hx0 (by intro z;cases z)) (R.own i hi).2.2.2.symm e1,λz=>(e2 z).mono m _ _,e3⟩,Wb.tag.mono m⟩
 ·let Wi:=R.tw i hi;let⟨t1,t2,t3,t4⟩:=R.two i b hi hb z;let⟨s1,s2,s3,s4⟩:=R.two b i hb hi (Ne.symm z);let⟨dx1,hx1⟩:=Wi.tw.self;let⟨vs,f1,_⟩:=Wi.things;let G:=Wi.frame m (λo e=>k _ _ t1 (Zg hx1 hab (by intro z;cases z)) e) (λo e=>k _ _ (Zg f1 hx0 (by intro z;cases z)) s3.symm e) (λo e=>k _ _ (Zg Wi.tw.above hx0 (by intro z;cases z)) t2 e)
  refine⟨?_,G.things,G.tag⟩;rw[ea i z,eh i z];exact G.tw
end
def ZJE(l:jK)(b:Nat):(l.map λb:Nat=>(b:Int)).erase (b:Int)=(l.erase b).map λb:Nat=>(b:Int):=by
 induction l with
 | nil=>rfl
 | cons a l ih=>
  by_cases z:a=b
  ·subst z;simp
  ·let z':¬ ((a:Int)=(b:Int)):=by lia
   rw[zB,List.erase_cons_tail (by simpa using z'),List.erase_cons_tail (by simpa using z),ih]
   rfl
def JH(bs:jK)(st:Nat)(av:Nat->jK):Nat->jK:=λi=>if i∈bs then (av i).erase st else av i
abbrev IS:Stmt:=Wc (top 47) 4
abbrev IO:Stmt:=Wc (top 47) 5
abbrev Lo:Stmt:=Wc (top 47) 6
def AF{kvs:List (Zi×V)}{lv:jK}{i:Nat}(nd:lv.Nodup)(h:kvs.map (·.1)=lv.map (λi:Nat=>(Sum.inl (i:Int):Zi))):(WV kvs (.inl (i:Int))).map (·.1)=(lv.erase i).map (λi:Nat=>(Sum.inl (i:Int):Zi)):=by
 let e1:(WV kvs (.inl (i:Int))).map (·.1)=(kvs.map (·.1)).filter λk=>decide (k≠.inl (i:Int)):=by
  unfold WV;rw[List.filter_map];rfl
 rw[e1,h,List.filter_map,nd.erase_eq_filter]
 congr 1
 refine List.filter_congr λj _=>?_;show decide ((Sum.inl (j:Int):Zi)≠Sum.inl (i:Int))=(j != i);rw[wL];simp;lia
def CZ{kvs:List (Zi×V)}{k j:Zi}(h:j≠k):YM (WV kvs k) j=YM kvs j:=by
 induction kvs with
 | nil=>rfl
 | cons p r ih=>
  by_cases z:p.1=k
  ·rw[ZKe z,ih,Vv (by rw[z];exact Ne.symm h)]
  ·rw[ZI0 z];by_cases y:p.1=j
   ·rw[UO y,UO y]
   ·rw[Vv y,Vv y,ih]
section
variable{kP kQ:aj}{H H':Hp}{S d lk:aj}{lv:jK}{ts:jN}{av:Nat->jK}{ho:Nat->Nat}{as:kf}{kvs:List (Zi×V)}{ls:jh}{b i:Nat}
def YN.gone(R:YN kP kQ H S d lk lv ts av ho as kvs ls)(nd:lv.Nodup):YN kP kQ (upd H d (.dK (WV kvs (.inl (i:Int))))) S d lk (lv.erase i) ts av ho as (WV kvs (.inl (i:Int))) ls:=by
 let⟨⟨dS,hS⟩,hd,hl⟩:=R.sh;let me:∀{a:Nat},a∈lv.erase i ↔ a≠i/\a∈lv:=nd.mem_erase_iff;let k:∀ c o,c≠d->H c=some o->upd H d (.dK (WV kvs (.inl (i:Int)))) c=some o:=λc o n e=>by rw[ZY n];exact e
 let m:YD H (upd H d (.dK (WV kvs (.inl (i:Int))))):=λc xs e=>k c _ (Zg e hd (by intro z;cases z)) e
 refine⟨⟨⟨dS,k _ _ (Zg hS hd (by intro z;cases z)) hS⟩,ZZ,k _ _ (Zg hl hd (by intro z;cases z)) hl⟩,λj hj=>R.lt j (me.mp hj).2,AF nd R.keys,λj hj=>?_,R.len,λj hj=>?_,λj hj=>R.own j (me.mp hj).2,λj l hj hl=>R.two j l (me.mp hj).2 (me.mp hl).2⟩
 ·rw[CZ (λz=>(me.mp hj).1 (by have:=Sum.inl.inj z;lia))]
  exact R.val j (me.mp hj).2
 ·let W:=R.tw j (me.mp hj).2;let⟨dx,hx⟩:=W.tw.self;let⟨us,e1,_⟩:=W.things;exact W.frame m (λo e=>k _ _ (Zg hx hd (by intro z;cases z)) e) (λo e=>k _ _ (Zg e1 hd (by intro z;cases z)) e) (λo e=>k _ _ (Zg W.tw.above hd (by intro z;cases z)) e)
end
def Qn(ho:Nat->Nat)(b:Nat):Nat->Nat:=λi=>if i=b then ho i+1 else ho i
inductive WH(kP kQ:aj):Sp
 |mk{S d lk:aj}{lv:jK}{ts:jN}{av:Nat->jK}{ho:Nat->Nat}{as:kf}{kvs:List (Zi×V)}{ls:jh}{b:Nat}{H:Hp}{Q:VK}{E:XK}:YN kP kQ H S d lk lv ts av ho as kvs ls->b∈lv ->
  (∀ H':Hp,(∀ c o,c≠(as.getD b .d).x->H c=some o->H' c=some o)->YN kP kQ H' S d lk lv ts av (Qn ho b) as kvs ls->Q .non H')->WH kP kQ [.ref S,.int (b:Nat)] H Q E
def QD:ZB zE9 zEa (Zl IS):=⟨Z,Z,Z,by decide +kernel,Z,by decide +kernel,by decide +kernel⟩
def ZOI(F:Zo K "hold" "Shelf.hold" IS f fd)(L:Y4 K mg kP kQ)(DT:ZH P w K mg kT ZV 1 kP "twig_of" zEa (Z0 kP)):ZK P w K mg kT ZV 2 f fd zEa (WH kP kQ):=by
 refine F.ok QD (λvs H Q E h=>(by induction h;rfl)) (λcdv A outer s H vs Q E hr h=>?_)
 induction h
 rename_i S d lk lv ts av ho as kvs ls b H Q E R hb k
 let nd:=QD.nd;refine⟨_,ZO (Zr (i:=2) nd rfl (Or.inl rfl) (XM (E:=E0) (pv 0) L.cS DT hr Yd (ZF (pv 1) ZD)))
  (ZP (HK (pv 2) ZL Bd)),?_⟩
 let⟨dS,hS⟩:=R.sh.self;let Wb:=R.tw b hb;let⟨dt,hx⟩:=Wb.tw.self;let hab:=Wb.tw.above;exists _,Z,S,dS,_,Z,hS,Z,_,Z,S,d,lk,ts.length,kvs,ls,(b:Int),.ref (as.getD b .d).x,Z,R.sh,R.val b hb;exists _,Z,(as.getD b .d).x,kQ,dt,_,.int (ho b:Nat),Z,hx,L.cT,L.nho,Z,_,_,Z,Z,dt,_,hx,zR Z;let xab:(as.getD b .d).ab≠(as.getD b .d).x:=Zg hab hx (by intro z;cases z)
 refine k _ (λc o n e=>by rw[ZY n];exact e) (R.set1 hb (av':=av) (ho':=Qn ho b) (λ_ _=>rfl) (λc n=>aJ n) ⟨dt,?_⟩ ?_ λc o n1 _ e=>by rw[ZY n1];exact e)
 ·rw[ZZ,show Qn ho b b=ho b+1 from aK rfl];rfl
 ·rw[ZY xab];exact hab
def QT:ZB ["self","number","twig","branch"] zEa (Zl Lo):=⟨Z,Z,Z,by decide +kernel,Z,by decide +kernel,by decide +kernel⟩
def UF:ZB zE9 zEa (Zl IO):=⟨Z,Z,Z,by decide +kernel,Z,by decide +kernel,by decide +kernel⟩
structure Go(lk:aj)(H H':Hp)(X X':Zx):Prop where
 S:X'.S=X.S
 d:X'.d=X.d
 fr:∀ c o,Ya X lk c->H c=some o->H' c=some o
 off:∀ c o,Ya X lk c->H c=some o->Ya X' lk c
def Go.trans{lk:aj}{H H1 H2:Hp}{X X1 X2:Zx}(a:Go lk H H1 X X1)(b:Go lk H1 H2 X1 X2):Go lk H H2 X X2:=⟨b.S.trans a.S,b.d.trans a.d,λc o n e=>b.fr c o (a.off c o n e) (a.fr c o n e),λc o n e=>b.off c o (a.off c o n e) (a.fr c o n e)⟩
def Go.same{lk:aj}{H H1:Hp}{X:Zx}(s:ZC H H1):Go lk H H1 X X:=⟨Z,Z,λc o _ e=>s c o e,λc o n _=>n⟩
section
variable{kP kQ:aj}{H H':Hp}{X:Zx}{lk:aj}{ls:jh}{r:Nat}
def YN.off(R:YN kP kQ H X.S X.d lk X.lv X.ts X.av X.ho X.as X.kvs ls){c:aj}{o:HO}(e:H c=some o)(n1:∀ C dx fs,o≠.ins C dx fs)(n2:∀ k,o≠.dK k)(n3:∀ xs,o≠.lst xs):Ya X lk c:=by
 let⟨⟨dx,hS⟩,hd,hl⟩:=R.sh;refine⟨Zg e hS (n1 _ _ _),Zg e hd (n2 _),Zg e hl (n3 _),λi hi=>?_⟩;let⟨dx,hx⟩:=(R.tw i hi).tw.self;let⟨us,e1,_⟩:=(R.tw i hi).things;exact⟨Zg e hx (n1 _ _ _),Zg e (R.tw i hi).tw.above (n3 _),Zg e e1 (n3 _)⟩
def YN.new(R:YN kP kQ H X.S X.d lk X.lv X.ts X.av X.ho X.as X.kvs ls){c:aj}(n:H c=tO):Ya X lk c:=by
 let⟨⟨dx,hS⟩,hd,hl⟩:=R.sh;refine⟨(Ze hS n).symm,(Ze hd n).symm,(Ze hl n).symm,λi hi=>?_⟩;let⟨dx,hx⟩:=(R.tw i hi).tw.self;let⟨us,e1,_⟩:=(R.tw i hi).things;exact⟨(Ze hx n).symm,(Ze (R.tw i hi).tw.above n).symm,(Ze e1 n).symm⟩
def Eh{t:ZW}{av':Nat->jK}{ho':Nat->Nat}{a:XC}{kvs':List (Zi×V)}(al:X.as.length=X.ts.length)(lt:∀ i∈X.lv,i<X.ts.length)(fr:∀ c o,c≠X.S->c≠X.d->(∀ i:Nat,i∈X.lv->c≠(X.as.getD i .d).x/\c≠(X.as.getD i .d).ab)->H c=some o->H' c=some o)(nx:H a.x=none)(nt:H a.th=none)(na:H a.ab=none):Go lk H H' X ⟨X.S,X.d,X.lv++[X.ts.length],X.ts++[t],av',ho',X.as++[a],kvs'⟩:=
 ⟨rfl,rfl,λc o n e=>fr c o n.1 n.2.1 (λi hi=>⟨(n.2.2.2 i hi).1,(n.2.2.2 i hi).2.1⟩) e,λc o n e=>⟨n.1,n.2.1,n.2.2.1,λi hi=>by
  show c≠((X.as++[a]).getD i .d).x/\c≠((X.as++[a]).getD i .d).ab/\c≠((X.as++[a]).getD i .d).th;rcases yU.mp hi with q | q
  ·rw[Kc (by have:=lt i q;lia)]
   exact n.2.2.2 i q
  ·let ei:i=X.as.length:=by have:=zN.mp q;lia
   rw[ei,JD];exact⟨Ze e nx,Ze e na,Ze e nt⟩⟩⟩
end
structure KL(lv:jK)(ts:jN)(U:Nat->Prop)(g:Nat->Nat):Prop where
 gu:∀ b,0<g b->U b
 inn:∀ b,U b->b∈lv
 cl:∀ b,U b->∀ c∈(gd ts b).bs,U c
 hd:∀ b,U b->0<g b\/∃ p,U p/\b∈(gd ts p).bs
structure Dg(lv:jK)(ts:jN)(av:Nat->jK)(ho:Nat->Nat)(U:Nat->Prop)(g:Nat->Nat)(o:jK):Prop where
 wf:WF lv ts
 nd:lv.Nodup
 avn:∀ b∈lv,(av b).Nodup
 ave:∀ b∈lv,∀ p,p∈av b ↔ p∈lv/\b∈(gd ts p).bs
 hs:∀ b∈lv,ho b=g b+o.count b
 own:∀ b∈o,b∈lv
 u:KL lv ts U g
def KL.keep{lv lv':jK}{ts ts':jN}{U:Nat->Prop}{g:Nat->Nat}(h:KL lv ts U g)(k:∀ b,U b->b∈lv'/\gd ts' b=gd ts b):KL lv' ts' U g:=
 ⟨h.gu,λb hb=>(k b hb).1,λb hb c hc=>h.cl b hb c (by rw[<-(k b hb).2];exact hc),λb hb=>(h.hd b hb).imp id λ⟨p,hp,hc⟩=>⟨p,hp,by rw[(k p hp).2];exact hc⟩⟩
def Lh{lv:jK}{ts:jN}(hw:WF lv ts){p b:Nat}(hp:p∈lv)(hb:b∈(gd ts p).bs):b∈lv/\(gd ts b).h+1=(gd ts p).h/\(gd ts p).h≠0:=by
 let h0:(gd ts p).h≠0:=λy=>by rw[((hw p hp).leaf y).1] at hb;cases hb
 exact⟨(((hw p hp).stem h0).2.2.1 b hb).1,(((hw p hp).stem h0).2.2.1 b hb).2,h0⟩
def BH{l:jK}(h:l.Nodup)(b:Nat):l.count b=if b∈l then 1 else 0:=by
 split
 ·next y=>exact Nat.le_antisymm (List.nodup_iff_count.mp h b) (vS.mpr y)
 ·next y=>exact List.count_eq_zero.mpr y
section
variable{lv:jK}{ts cur:jN}{av:Nat->jK}{ho:Nat->Nat}{U:Nat->Prop}{g:Nat->Nat}{o rest bs up:jK}{r n x c:Nat}
def Dg.perm(D:Dg lv ts av ho U g o){o':jK}(p:o.Perm o'):Dg lv ts av ho U g o':=⟨D.wf,D.nd,D.avn,D.ave,λb hb=>by rw[<-p.count_eq];exact D.hs b hb,λb hb=>D.own b (p.mem_iff.mpr hb),D.u⟩
def Dg.free(D:Dg lv ts av ho U g o){ch:jK}(rd:Rd lv av ho c ch):(∀ i∈ch,av i=[]->i∈o)->∀ x∈ch,¬ U x:=by
 induction rd with
 | top hi t=>
  intro ro x hx u;rename_i i
  cases zN.mp hx;let ic:=vS.mpr (ro i zO t.1);have:=D.hs i hi;rw[t.2] at this;rcases D.u.hd i u with y | ⟨p,hp,y⟩
  ·lia
  ·have:=(D.ave i hi p).mpr ⟨D.u.inn p hp,y⟩;rw[t.1] at this;cases this
 | up hi a1 a2 rd ih=>
  intro ro x hx;rename_i i j l
  let ihl:=ih λi hi=>ro i (zJ _ hi);rcases zI.mp hx with y | y
  ·intro u;cases y;have:=D.hs i hi;rw[a2] at this;rcases D.u.hd i u with y | ⟨p,hp,y⟩
   ·lia
   ·have:=(D.ave i hi p).mpr ⟨D.u.inn p hp,y⟩;rw[a1] at this;cases zN.mp this;let⟨u2,e⟩:=rd.hd;exact ihl j (by rw[e];exact zO) hp
  ·exact ihl x y
def Dg.put(D:Dg lv ts av ho U g o)(lt:∀ i∈lv,i<ts.length){t:ZW}(ok:Vm lv ts ts.length t)(bn:t.bs.Nodup)(pm:o.Perm (t.bs++rest)):
  Dg (lv++[ts.length]) (ts++[t]) (V3 t.bs ts.length (Uf ts.length av)) (Um t.bs (Qe ts.length ho)) U g (ts.length::rest):=by
 let bl:∀ b∈t.bs,b∈lv:=λb hb=>D.own b (pm.mem_iff.mpr (xV _ hb));let nN:ts.length∉lv:=λy=>xP _ (lt _ y);let nb:ts.length∉t.bs:=λy=>nN (bl _ y);let gl:∀ i∈lv,gd (ts++[t]) i=gd ts i:=λi hi=>Ls (lt i hi);let gN:gd (ts++[t]) ts.length=t:=M6;let ne:∀ i∈lv,i≠ts.length:=λi hi y=>nN (y ▸ hi);let g0:g ts.length=0:=Nat.eq_zero_of_not_pos λy=>nN (D.u.inn _ (D.u.gu _ y));let rl:∀ b∈rest,b∈lv:=λb hb=>D.own b (pm.mem_iff.mpr (yC _ hb));let avo:∀ b∈lv,V3 t.bs ts.length (Uf ts.length av) b=if b∈t.bs then av b++[ts.length] else av b:=λb hb=>by
  unfold V3 Uf;rw[aJ (ne b hb)]
 let avN:V3 t.bs ts.length (Uf ts.length av) ts.length=[]:=by
  unfold V3 Uf;rw[aJ nb,aK rfl]
 refine⟨λi hi=>?_,?_,λb hb=>?_,λb hb p=>?_,λb hb=>?_,λb hb=>?_,D.u.keep λb hb=>⟨xV _ (D.u.inn b hb),gl b (D.u.inn b hb)⟩⟩
 ·let old:∀{j i':Nat}{u:ZW},Vm lv ts j u->Vm (lv++[ts.length]) (ts++[t]) i' u:=fun{j i' u} k=>⟨k.ne,k.up,k.inn,k.leaf,λz=>by
   let⟨h1,h2,h3,h4⟩:=k.stem z;exists h1,h2,λb hb=>⟨xV _ (h3 b hb).1,by rw[gl b (h3 b hb).1];exact(h3 b hb).2⟩
   rw[h4];exact(HF (l:=u.bs) λb hb=>(by rw[gl b (h3 b hb).1])).symm⟩
  rcases yU.mp hi with y | y
  ·rw[gl i y];exact old (D.wf i y)
  ·rw[zN.mp y,gN];exact old ok
 ·rw[uV];exact⟨D.nd,by simp,λa ha b hb e=>nN (by rw[<-zN.mp hb,<-e];exact ha)⟩
 ·rcases yU.mp hb with y | y
  ·rw[avo b y];split
   ·rw[uV];exact⟨D.avn b y,by simp,λa ha c hc e=>nN (by rw[<-zN.mp hc,<-e];exact((D.ave b y a).mp ha).1)⟩
   ·exact D.avn b y
  ·rw[zN.mp y,avN];exact wW
 ·rcases yU.mp hb with y | y
  ·rw[avo b y];constructor
   ·intro h;split at h
    ·next z=>
     rcases yU.mp h with q | q
     ·let⟨q1,q2⟩:=(D.ave b y p).mp q;exact⟨xV _ q1,by rw[gl p q1];exact q2⟩
     ·rw[zN.mp q];exact⟨yC _ (zN.mpr rfl),by rw[gN];exact z⟩
    ·let⟨q1,q2⟩:=(D.ave b y p).mp h;exact⟨xV _ q1,by rw[gl p q1];exact q2⟩
   ·rintro⟨h1,h2⟩;rcases yU.mp h1 with q | q
    ·rw[gl p q] at h2;have:=(D.ave b y p).mpr ⟨q,h2⟩;split
     ·exact xV _ this
     ·exact this
    ·rw[zN.mp q,gN] at h2;rw[aK h2,zN.mp q];exact yC _ (zN.mpr Z)
  ·rw[zN.mp y,avN];refine⟨λh=>(by cases h),λ⟨h1,h2⟩=>?_⟩
   rcases yU.mp h1 with q | q
   ·rw[gl p q] at h2;exact absurd (Lh D.wf q h2).1 nN
   ·rw[zN.mp q,gN] at h2;exact absurd h2 nb
 ·unfold Um Qe;rcases yU.mp hb with y | y
  ·let h1:=D.hs b y;rw[pm.count_eq,sC,BH bn] at h1;rw[aJ (ne b y),rL (ne b y).symm];split
   ·next z=>rw[aK z] at h1;lia
   ·next z=>rw[aJ z] at h1;lia
  ·rw[zN.mp y,aJ nb,aK rfl,g0,uQ,List.count_eq_zero.mpr λz=>nN (rl _ z)]
 ·rcases zI.mp hb with y | y
  ·rw[y];exact yC _ (zN.mpr Z)
  ·exact xV _ (rl b y)
def Dg.hold(D:Dg lv ts av ho U g o)(hx:x∈lv):Dg lv ts av (Qn ho x) U g (x::o):=by
 refine⟨D.wf,D.nd,D.avn,D.ave,λb hb=>?_,λb hb=>?_,D.u⟩
 ·have:=D.hs b hb;unfold Qn;by_cases y:b=x
  ·rw[aK y,y,uQ];rw[y] at this;lia
  ·rw[aJ y,rL (λz=>y z.symm)];exact this
 ·rcases zI.mp hb with y | y
  ·rw[y];exact hx
  ·exact D.own b y
def Dg.less(D:Dg lv ts av ho U g (x::o)):Dg lv ts av (VZ ho x) U g o:=by
 refine⟨D.wf,D.nd,D.avn,D.ave,λb hb=>?_,λb hb=>D.own b (zJ _ hb),D.u⟩;have:=D.hs b hb;unfold VZ;by_cases y:b=x
 ·rw[y,uQ] at this;rw[aK y,y];lia
 ·rw[rL (λz=>y z.symm)] at this;rw[aJ y];exact this
def Dg.drop(D:Dg lv ts av ho U g (x::o))(tx:Tp av ho x):Dg (lv.erase x) ts (JH (gd ts x).bs x av) (VZ ho x) U g o:=by
 let hx:=D.own x zO;let me:∀{a:Nat},a∈lv.erase x ↔ a≠x/\a∈lv:=D.nd.mem_erase_iff;let bx:∀ p∈lv,x∉(gd ts p).bs:=λp hp y=>by
  have:=(D.ave x hx p).mpr ⟨hp,y⟩;rw[tx.1] at this;cases this
 let nu:=D.free (.top hx tx) (λi hi _=>by rw[zN.mp hi];exact zO) x zO
 let ho0:=D.hs x hx;rw[tx.2,uQ] at ho0;let L:=D.less;refine⟨λi hi=>?_,D.nd.erase _,λb hb=>?_,λb hb p=>?_,λb hb=>L.hs b (me.mp hb).2,λb hb=>me.mpr ⟨λy=>?_,L.own b hb⟩,D.u.keep λb hb=>⟨me.mpr ⟨λy=>nu (y ▸ hb),D.u.inn b hb⟩,Z⟩⟩
 ·let ok:=D.wf i (me.mp hi).2;refine⟨ok.ne,ok.up,ok.inn,ok.leaf,λz=>?_⟩;let⟨h1,h2,h3,h4⟩:=ok.stem z;exact⟨h1,h2,λb hb=>⟨me.mpr ⟨λy=>bx i (me.mp hi).2 (y ▸ hb),(h3 b hb).1⟩,(h3 b hb).2⟩,h4⟩
 ·unfold JH;split
  ·exact(D.avn b (me.mp hb).2).erase _
  ·exact D.avn b (me.mp hb).2
 ·let h:=D.ave b (me.mp hb).2 p;unfold JH;split
  ·rw[(D.avn b (me.mp hb).2).mem_erase_iff,h,me,and_assoc]
  ·next z=>
   rw[h,me];exact⟨λ⟨a,b⟩=>⟨⟨λy=>z (y ▸ b),a⟩,b⟩,λ⟨a,b⟩=>⟨a.2,b⟩⟩
 ·have:=vS.mpr (y ▸ hb);lia
end
def OR:∀{l m:jK},l.Nodup->(∀ x∈l,x∈m)->l.length<=m.length
 | [],_,_,_=>zH _
 | a::l,m,hn,hs=>by
  let hn:=xO.mp hn;let ha:=hs a zO;have:=OR (l:=l) (m:=m.erase a) hn.2 λx hx=>(List.mem_erase_of_ne (show x≠a from λy=>hn.1 (by rw[<-y];exact hx))).mpr (hs x (zJ _ hx))
  let e:=List.length_erase_of_mem ha;have:=qQ ha;rw[zU];lia
structure Sd(kP kQ:aj)(H:Hp)(X:Zx)(lk:aj)(ls:jh)(U:Nat->Prop)(g:Nat->Nat)(o:jK):Prop where
 sh:YN kP kQ H X.S X.d lk X.lv X.ts X.av X.ho X.as X.kvs ls
 dg:Dg X.lv X.ts X.av X.ho U g o
def Sd.same{kP kQ:aj}{H H':Hp}{X:Zx}{lk:aj}{ls:jh}{U:Nat->Prop}{g:Nat->Nat}{o:jK}(h:Sd kP kQ H X lk ls U g o)(s:ZC H H'):Sd kP kQ H' X lk ls U g o:=⟨h.sh.same s,h.dg⟩
end _T
namespace L2
open PySem PySem.Spec PyProof.Rows
def Ec:∀{ts:jP}{us:jg},ZR (ts.map V.str) us->∃ l:List (Str×Tok),us=strValues l/\l.map (·.1)=ts
 | [],_,h=>by cases h;exact⟨[],Z,Z⟩
 | t::ts,u::us,h=>by
  cases h with
  | cons r hr=>
   let⟨k,rfl⟩:=r;let⟨l,rfl,e⟩:=Ec hr;exact⟨(t,k)::l,Z,by rw[zB,e]⟩
inductive N1(K:zZ)(x:V)(xs:jh)(H:Hp)(Q:VK):Prop
 |mk(sep p ts:_)(_:x=.str sep)(_:xs=[.ref p])(_:ZI K H p (ts.map V.str))(_:(ts.map (·.length)).sum+ts.length * sep.length<=16777216)(_:Q (.str (Builtin.Str.glued sep ts)) H)
def Mo:KH X "str.join" (N1 X.K):=by
 intro kR s σ H x xs v us Q I rx rv h;let⟨sep,p,ts,rfl,rfl,hq,hz,q⟩:=h;let⟨t,rfl⟩:=rx;let⟨u,rfl,ru⟩:=Wk rv;cases ru;let⟨jk,r,pl,_⟩:=I.list hq;let⟨l,rfl,e⟩:=Ec r;let hl:Builtin.Str.tooLong ((l.map (·.1)).toArray.foldl (· + ·.length+sep.length) 0)=false:=by
  rw[e,StrLaws.joinTotal];unfold Builtin.Str.tooLong ar;exact aH (by lia)
 let gl:(Builtin.Str.glued sep ts).length<=sizeLine:=by
  rw[PySem.size_glued,sizeLine_eq];let h1:(ts.length-1) * sep.length<=ts.length * sep.length:=tY _ (Nat.sub_le _ _);lia
 refine call_meets tS (typeIs_str _ _ _) PySem.F.entry_str_join (PySem.F.args_str_join_2 _ _) (PySem.meets_str_join_list sep t p l hl) ⟨pl.isList,?_⟩
 match l,e with
 | [],e=>
  subst e;exact⟨gl,⟨.str _,H,I.tok _,⟨_,Z⟩,q⟩⟩
 | [a],e=>
  subst e;exact⟨.str _,H,I,⟨_,Z⟩,q⟩
 | a::b::r,e=>
  subst e;exact⟨gl,⟨.str _,H,I.tok _,⟨_,Z⟩,q⟩⟩
def ZEi:Wg X (.type "int") (λxs H Q=>∃ x n,xs=[.str x]/\PySem.intText? x=some n/\x.length<=640/\Q (.int n) H):=by
 intro kR s σ H xs us Q I r h;let⟨x,n,rfl,hn,hl,q⟩:=h;let⟨u,rfl,t,rfl⟩:=Wk r;exact PySem.W.KIN.call_text hn hl ⟨.int n,H,I.tok _,⟨_,Z⟩,q⟩
end L2
namespace _T
open PySem PySem.Spec L2
variable{kP kQ CS CT CH CK CP CB:aj}
def CL(x:Str){a b:Nat}(hab:a<=b):(Txt.slice x (some (a:Int)) (some (b:Int))).cps.toList=(x.cps.toList.drop a).take (b-a):=by
 let e:(Builtin.Str.strSliceIndices (some (a:Int)) (some (b:Int)) 1 x.length)=Builtin.Str.strSliceIndices (some ((min a x.length:Nat):Int)) (some ((min b x.length:Nat):Int)) 1 x.length:=by
  let h1:¬ ((a:Int)<0):=by lia
  let h2:¬ ((b:Int)<0):=by lia
  let h3:¬ (((min a x.length:Nat):Int)<0):=by lia
  let h4:¬ (((min b x.length:Nat):Int)<0):=by lia
  let e1:max (0:Int) (min (a:Int) (x.length:Int))=max (0:Int) (min ((min a x.length:Nat):Int) (x.length:Int)):=by lia
  let e2:max (0:Int) (min (b:Int) (x.length:Int))=max (0:Int) (min ((min b x.length:Nat):Int) (x.length:Int)):=by lia
  simp only[Builtin.Str.strSliceIndices,h1,h2,h3,h4,if_false,show ((1:Int) > 0)=True from by simp,if_true,e1,e2]
 let p:=StrLaws.sliced_plain x (a:=min a x.length) (b:=min b x.length) (by lia) (by lia)
 let hx:x.cps.toList.length=x.length:=by simp[vE]
 let fin:(x.cps.toList.drop (min a x.length)).take (min b x.length-min a x.length)=(x.cps.toList.drop a).take (b-a):=by
  rcases xQ a x.length with h | h
  ·rw[wV (yV h),List.take_eq_take_iff,xR,hx];lia
  ·rw[wI h,wI (by lia),Nat.sub_self,wO,qR (by lia),List.take_nil]
 unfold Txt.slice;split
 ·rename_i h
  let hlen:(Builtin.Str.strSliceIndices (some (a:Int)) (some (b:Int)) 1 x.length).length=x.length:=by simpa using h
  rw[e,StrLaws.strSliceIndices_plain (by lia) (by lia),zY,xE] at hlen
  rw[<-fin];let h0:min b x.length-min a x.length=x.length:=hlen;rcases rZ x.length with z | z
  ·have:x.cps.toList=[]:=vI (by lia)
   rw[this];simp
  ·let ha:min a x.length=0:=by lia
   rw[h0,ha,wP,yS (by lia)]
 ·rw[e,p,<-fin]
def Bw(x:Str)(i:Nat):Txt.slice x (some (i:Int)) (some ((i:Int)+1))=sg x.cps.toList i:=by
 apply PySem.Str.ext';let e:=CL x (a:=i) (b:=i+1) (by lia)
 let e1:((i+1:Nat):Int)=(i:Int)+1:=by lia
 rw[e1,wE] at e;have:(Txt.slice x (some (i:Int)) (some ((i:Int)+1))).cps=((x.cps.toList.drop i).take 1).toArray:=by rw[<-e]
 rw[this];unfold sg;rw[List.take_one,List.head?_drop]
def num_reads'{i:Int}(h:i.natAbs<10 ^ 60){x:Str}(hx:x.cps.toList=Vq i):PySem.intText? x=some i/\x.length<=640:=by
 let dg:∀ m:Nat,PySem.NumText.AllDigits ((yJ 10 m).map Char.toNat):=λm c hc=>by
  have:=zE.mp (Np m) c hc;unfold QW at this;rw[zP] at this;exact⟨of_decide_eq_true this.1,of_decide_eq_true this.2⟩
 let ne:∀ m:Nat,(yJ 10 m).map Char.toNat≠[]:=λm z=>by
  let h2:=zED (b:=10) (n:=m);rw[uA.mp z] at h2;simp at h2
 let hl0:x.length=x.cps.toList.length:=by simp[vE]
 rcases(show i<0\/0<=i by lia) with hi | hi
 ·obtain⟨m,rfl⟩:∃ m:Nat,i = -((m+1:Nat):Int):=⟨(-i).toNat-1,by lia⟩
  rw[Ly] at hx;let len:=Pw (m:=m+1) (k:=60) (by decide) (by lia)
  let lx:x.length<=61:=by rw[hl0,hx,zU,zY];lia
  refine⟨?_,by lia⟩
  rw[PySem.intText_neg hx (dg _) (ne _) (by lia),PySem.W.KIN.val_back]
 ·let⟨m,rfl⟩:=xB hi;let hx':x.cps.toList=(yJ 10 m).map Char.toNat:=hx.trans (Qu m);let len:=Pw (m:=m) (k:=60) (by decide) (by simpa using h)
  let lx:x.length<=60:=by rw[hl0,hx',zY];lia
  refine⟨?_,by lia⟩
  rw[PySem.intText_digits (by rw[hx'];exact dg _) (by rw[hx'];exact ne _) (by lia),hx',PySem.W.KIN.val_back]
def QY:Nat->Nat
 | 0=>82
 | r+1=>4 * QY r+6
def Fm(r:Nat):82<=QY r:=by
 induction r with
 | zero=>exact zX _
 | succ r ih=>show 82<=4 * QY r+6;lia
def ZK4{i:Int}(h:i.natAbs<10 ^ 60):(Vq i).length<=61:=by
 rcases(show i<0\/0<=i by lia) with hi | hi
 ·obtain⟨m,rfl⟩:∃ m:Nat,i = -((m+1:Nat):Int):=⟨(-i).toNat-1,by lia⟩
  rw[Ly];let len:=Pw (m:=m+1) (k:=60) (by decide) (by lia)
  rw[zU,zY];lia
 ·let⟨m,rfl⟩:=xB hi;let len:=Pw (m:=m) (k:=60) (by decide) (by simpa using h)
  rw[Qu,zY];lia
def KJ:∀ l:jK,(l.flatMap YT).length<=2 * l.length
 | []=>zX _
 | c::l=>by
  rw[yI,zT,zU];have:=KJ l;rcases J6 c with ⟨e,_⟩ | ⟨e,_⟩ <;> rw[e] <;> simp only[zU,yA] <;> lia
mutual
def NL:∀(t:KT)(r:Nat),t.fits r=true->t.shown.length<=QY r
 | .int i,r,h=>by
  rw[KT.fits] at h;have:=ZK4 (of_decide_eq_true h);have:=Fm r;rw[KT.shown];lia
 | .str x,r,h=>by
  rw[KT.fits] at h;let h1:=(HW h).1;let h2:=KJ x.cps.toList;let h3:x.cps.toList.length=x.cps.size:=by simp
  have:=Fm r;rw[KT.shown,zU,zT,vP];lia
 | .tup l,0,h=>by rw[KT.fits] at h;simp at h
 | .tup l,r+1,h=>by
  rw[KT.fits,zP,zP] at h;let l4:=of_decide_eq_true h.2.1;have:=shownL_len l r h.2.2;rw[KT.shown,zU,zT,vP];show _<=4 * QY r+6;have:l.length * (QY r+1)<=4 * (QY r+1):=tY _ l4;lia
def shownL_len:∀(l:jM)(r:Nat),fitsL l r=true->(shownL l).length+1<=l.length * (QY r+1)+1
 | [],r,_=>by rw[shownL];simp
 | t::l,r,h=>by
  rw[fitsL,zP] at h;let h1:=NL t r h.1;let h2:=shownR_len l r h.2;rw[shownL,zT,zU,tP];lia
def shownR_len:∀(l:jM)(r:Nat),fitsL l r=true->(shownR l).length<=l.length * (QY r+1)
 | [],r,_=>by rw[shownR];simp
 | t::l,r,h=>by
  rw[fitsL,zP] at h;let h1:=NL t r h.1;let h2:=shownR_len l r h.2;rw[shownR,zU,zT,zU,tP];lia
end
def Du(t:KT)(l:jM):shownL (t::l)=t.shown++l.flatMap λu=>32::u.shown:=by rw[shownL,E5]
def Xx(t:KT):Str:=⟨t.shown.toArray⟩
def GX(l:jM):Builtin.Str.glued (zW " ") (l.map Xx)=⟨(shownL l).toArray⟩:=by
 let sp:(zW " ").cps.toList=[32]:=by decide +kernel
 apply PySem.Str.ext'
 cases l with
 | nil=>rw[shownL];rfl
 | cons t l=>
  rw[Du];let e:=Ld (zW " ") (l.map Xx) (Xx t).cps;let e2:((l.map Xx).flatMap λp=>(zW " ").cps.toList++p.cps.toList)=l.flatMap λu=>32::u.shown:=by
   rw[sp,sU];rfl
  rw[e2] at e;show ((l.map Xx).foldl (λacc p=>acc++(zW " ").cps++p.cps) (Xx t).cps)=_;let e3:(Xx t).cps.toList=t.shown:=rfl;rw[e3] at e;rw[<-e]
def U8{x:Str}{l:jK}(h:x.cps.toList=l):x=⟨l.toArray⟩:=by
 apply PySem.Str.ext';rw[<-h]
def Eb(i:Int):zW (toString i)=⟨(Vq i).toArray⟩:=U8 (PyProof.Rows.signs_ofString _)
def O0(y:Str):Bool:=(!decide (y.cps.toList<[48])) && !decide ([57]<y.cps.toList)
def HB(y:Str):Bool:=(!decide (y.cps.toList<[32])) && !decide ([126]<y.cps.toList)
def LC(c:Nat):O0 ⟨#[c]⟩=QW c:=by
 unfold O0 QW;let a:([c]<[48]) ↔ c<48:=by simp[vJ]
 let b:([57]<[c]) ↔ 57<c:=by simp[vJ]
 rw[wL];simp only[zP,tI,decide_eq_false_iff_not,decide_eq_true_eq,a,b];lia
def ZLe:O0 ⟨#[]⟩=false:=by decide
inductive QF(vs:jh)(H:Hp)(Q:VK)(_:XK):Prop
 |mk(y:Str)(_:vs=[.str y])(_:Q (.bl (O0 y)) H)
inductive QU(vs:jh)(H:Hp)(Q:VK)(_:XK):Prop
 |mk(y:Str)(_:vs=[.str y])(_:Q (.bl (HB y)) H)
inductive YC(vs:jh)(H:Hp)(Q:VK)(_:XK):Prop
 |mk(x:Str)(i:Nat)(_:vs=[.str x,.int (i:Int)])(_:x.length<=ar)(_:Q (.str (sg x.cps.toList i)) H)
inductive WL(n:Nat)(vs:jh)(H:Hp)(Q:VK)(_:XK):Prop
 |mk(v:V)(t:KT)(r:Nat)(_:vs=[v])(_:ZE H t v)(_:t.fits r=true)(_:r<n)(_:n<=5)(_:∀ H',ZC H H'->Q (.str (Xx t)) H')
def ZQT:ZB zEx zEx (Zl N2):=⟨Z,Z,Z,by decide +kernel,Z,by decide +kernel,by decide +kernel⟩
def ZP7(F:Zo K "is_sign" "is_sign" N2 f fd):ZK P w K mg kT ZV 1 f fd zEx QU:=by
 refine F.ok ZQT (λvs H Q E h=>?_) (λcdv A outer s H vs Q E hr h=>?_)
 ·let⟨c,rfl,_⟩:=h;rfl
 let⟨y,rfl,q⟩:=h;exists _,ZP (Zk (JS Op Op YB (pv 0) YB));let e1:(zW " ").cps.toList=[32]:=by decide +kernel
 let e2:(zW "~").cps.toList=[126]:=by decide +kernel
 unfold HB at q;rw[<-e1,<-e2] at q;exists _,Z,_,_,Z,Z,_,Z;refine YX (λh1=>?_) (λh1=>?_)
 ·exists _,_,Z,Z;rw[h1,vA] at q;exact q
 ·rw[uE.mpr h1,uY] at q;exact q
def ZQi:ZB zEx zEx (Zl K7):=⟨Z,Z,Z,by decide +kernel,Z,by decide +kernel,by decide +kernel⟩
def Bj(F:Zo K "is_figure" "is_figure" K7 f fd):ZK P w K mg kT ZV 1 f fd zEx QF:=by
 refine F.ok ZQi (λvs H Q E h=>?_) (λcdv A outer s H vs Q E hr h=>?_)
 ·let⟨c,rfl,_⟩:=h;rfl
 let⟨y,rfl,q⟩:=h;exists _,ZP (Zk (JS Op Op YB (pv 0) YB));let e1:(zW "0").cps.toList=[48]:=by decide +kernel
 let e2:(zW "9").cps.toList=[57]:=by decide +kernel
 unfold O0 at q;rw[<-e1,<-e2] at q;exists _,Z,_,_,Z,Z,_,Z;refine YX (λh1=>?_) (λh1=>?_)
 ·exists _,_,Z,Z;rw[h1,vA] at q;exact q
 ·rw[uE.mpr h1,uY] at q;exact q
def ZL5:ZB zEf zEf (Zl IE):=⟨Z,Z,Z,by decide +kernel,Z,by decide +kernel,by decide +kernel⟩
def ZJN(F:Zo K "sign_at" "sign_at" IE f fd):ZK P w K mg kT ZV 1 f fd zEf YC:=by
 refine F.ok ZL5 (λvs H Q E h=>?_) (λcdv A outer s H vs Q E hr h=>?_)
 ·let⟨x,i,rfl,_⟩:=h;rfl
 let⟨x,i,rfl,hl,q⟩:=h;exists _,ZP (Zk (IU GF (pv 0) (O4 (pv 1)) (O4 (Zs Y2 (pv 1) ZL))));rw[<-Bw] at q;exact⟨_,Z,_,Z,_,Z,_,Z,_,_,Z,Z,_,Z,x,Z,hl,q⟩
end _T
namespace L2
open PySem PySem.Spec
def Cy{x:Str}{g:TG}{tb:TS}{D:XA}{σ:St}{H:Hp}(Pv:Nat->St->Hp->Prop)(h0:Pv 0 σ H)(hs:∀ i c σ H,x.cps.toList[i]? = some c->Pv i σ H->g (.str ⟨#[c]⟩) σ H λσ2 H2=>tb { D with nx:=Pv (i+1),ct:=Pv (i+1),bk:=D.nx } σ2 H2)(hd:∀ σ H,Pv x.cps.size σ H->D.nx σ H):
  ∃ W:Nat->Nat->St->Hp->Prop,(∃ m,W 0 m σ H)/\∀ i m σ H,W i m σ H ->
   ((NU x).stop i H/\D.nx σ H)\/((NU x).go i H/\∃ N:St->Hp->Prop,(∀ σ' H',N σ' H'->∃ m',m'<m/\W (i+1) m' σ' H')/\∀ y H',(NU x).yld i H y H'->g y σ H' λσ2 H2=>tb { D with nx:=N,ct:=N,bk:=D.nx } σ2 H2):=by
 exists λi m σ H=>m=x.cps.size-i/\i<=x.cps.size/\Pv i σ H,⟨x.cps.size,by simp,zH _,h0⟩
 rintro i m σ H ⟨rfl,hi,p⟩;by_cases hlt:i<x.cps.size
 ·refine .inr ⟨hlt,Pv (i+1),λσ' H' p'=>⟨x.cps.size-(i+1),by lia,Z,hlt,p'⟩,λy H' hy=>?_⟩
  let⟨e,c,hc,rfl⟩:=hy;subst e;exact hs i c σ _ (by simpa using hc) p
 ·let e:i=x.cps.size:=by lia
  subst e;exact .inl ⟨Z,hd σ H p⟩
end L2
namespace _T
open PySem PySem.Spec L2
variable{kP kQ CS CT CH CK CP CB:aj}
def Lr{r:Nat}(h:r<=4):QY r<=22000:=by
 rcases(show r=0\/r=1\/r=2\/r=3\/r=4 by lia) with rfl | rfl | rfl | rfl | rfl <;> decide
def Ms{i:Int}(h:i.natAbs<10 ^ 60):i.natAbs.log2<1920:=by
 by_cases z:i.natAbs=0
 ·rw[z];decide
 ·have:i.natAbs.log2<200:=(Nat.log2_lt z).mpr (vW h (by decide +kernel))
  lia
def K9(a b c:jK):(⟨a.toArray⟩:Str)++⟨b.toArray⟩++⟨c.toArray⟩=⟨(a++(b++c)).toArray⟩:=by
 apply PySem.Str.ext';show a.toArray++b.toArray++c.toArray=_;simp
def Qw(l:jK):(⟨l.toArray⟩:Str).length=l.length:=by simp[vE]
def LR:zW "\"" = ⟨[34].toArray⟩:=U8 (by decide +kernel)
def FT:zW "(" = ⟨[40].toArray⟩:=U8 (by decide +kernel)
def ZQl:zW ")" = ⟨[41].toArray⟩:=U8 (by decide +kernel)
def ZNs(x:Str):(zW "\"")++⟨(x.cps.toList.flatMap YT).toArray⟩++(zW "\"")=Xx (.str x):=by
 rw[LR,K9];unfold Xx;rw[KT.shown];rfl
def C8(l:jM):(zW "(")++⟨(shownL l).toArray⟩++(zW ")")=Xx (.tup l):=by
 rw[FT,ZQl,K9];unfold Xx;rw[KT.shown];rfl
def AV(i:Int):zW (toString i)=Xx (.int i):=by
 rw[Eb];unfold Xx;rw[KT.shown]
def By(t:KT):(Xx t).length=t.shown.length:=Qw _
def ZO8{ts:jM}{B:Nat}(h:∀ t∈ts,t.shown.length<=B):((ts.map Xx).map (·.length)).sum<=ts.length * B:=by
 induction ts with
 | nil=>simp
 | cons t ts ih=>
  let h1:=h t zO;let h2:=ih λu hu=>h u (zJ _ hu);rw[zB,zB,tV,By,zU,tP];lia
def Of:zW "\\" = ⟨#[92]⟩:=U8 (by decide +kernel)
def Pc:zW "\"" = ⟨#[34]⟩:=LR
def ZL7(l:jK)(c:Nat):(⟨((l++[c]).flatMap YT).toArray⟩:Str)=if c=34\/c=92 then (⟨(l.flatMap YT).toArray⟩:Str)++⟨#[92]⟩++⟨#[c]⟩ else (⟨(l.flatMap YT).toArray⟩:Str)++⟨#[c]⟩:=by
 apply PySem.Str.ext';rw[vK];split
 ·rename_i h
  have:[c].flatMap YT=[92,c]:=by unfold YT;simp[h]
  rw[this];show _=(l.flatMap YT).toArray++#[92]++#[c];simp
 ·rename_i h
  have:[c].flatMap YT=[c]:=by unfold YT;simp[h]
  rw[this];show _=(l.flatMap YT).toArray++#[c];simp
abbrev ZO6:jP:=["_law_spot","_law_text_here","_law_sign"]
def UG:ZB ZO6 zEl (Zl LN):=⟨Z,Z,Z,by decide +kernel,Z,by decide +kernel,by decide +kernel⟩
def BQ{n:Nat}(F:Zo K "_law_show" "_law_show" LN f fd)(T:Txt mg)(DS:ZA P w K mg kT (n+1) "_law_show" zEl (WL n)):ZK P w K mg kT ZV (n+2) f fd zEl (WL (n+1)):=by
 refine F.ok UG (λvs H Q E h=>?_) (λcdv A outer s H vs Q E hr h=>?_)
 ·let⟨v,t,r,rfl,_⟩:=h;rfl
 let⟨v,t,r,rfl,hv,hf,hn,h5,k⟩:=h;let nd:=UG.nd;let hr1:=hr.mono (show 1<=n+1 by lia)
 refine⟨_,ZO (Zt (XD (Zv W0 rfl T.isi WS (ZN (pv 0) (ZN (Wt (v:=.ty "str") rfl T.str QO rfl) ZD))))
  (ZO (Zr (i:=1) nd rfl (Or.inl rfl) YB)
  (ZO (Xi PassesOwn.never rfl (Ef (pv 0)) (XB (i:=2) nd rfl (Or.inl rfl))
   (ZO (Zt (PW.pt (Vo (Z3 XE (pv 2) YB (Zu _)) (UN (Z3 XE (pv 2) YB (Zu _))))) (ZP (Zr (i:=1) nd rfl (Or.inl rfl) (Zs PR (pv 1) YB))) Zw)
   (ZP (Zr (i:=1) nd rfl (Or.inl rfl) (Zs PR (pv 1) (pv 2))))))
  (ZP (Zk (Zs PR (Zs PR YB (pv 1)) YB))))) Zw)
  (ZO (Zt (XD (Zv W0 rfl T.isi WS (ZN (pv 0) (ZN (Wt (v:=.ty "tuple") rfl T.tuple QK rfl) ZD))))
   (ZP (Zk (Zs PR (Zs PR YB (WW uP tS sY Mo YB (ZN (Wx [] [] rfl (LO (pv 0)) (λ_ _ _ _ _=>Wj) (λ_ _ _ _ _=>Zc DS hr (ZN (pv 0) ZD)) trivial) ZD))) YB))) Zw)
  (ZP (Zk (Ws Lk rfl T.str QO (ZN (pv 0) ZD))))),?_⟩
 let k0:=k H (ZC.refl H);let B:=Lr (r:=r) (by lia)
 let sl:=NL t r hf
 cases t with
 | int i=>
  let ev:v=.int i:=by rw[ZE] at hv;exact hv
  subst ev;rw[KT.fits] at hf;refine⟨_,Z,_,_,_,_,Z,.int i,kit_is',_,Z,Zn ?_⟩;refine⟨_,Z,_,_,_,_,Z,.int i,Ek,_,Z,Zn ?_⟩;exists _,Z,i,Z,Ms (of_decide_eq_true hf);rw[<-AV] at k0;exact k0
 | str x=>
  let ev:v=.str x:=by rw[ZE] at hv;exact hv
  subst ev;rw[KT.fits] at hf;let hx:x.length<=40:=(HW hf).1;let h3:x.cps.toList.length=x.length:=by simp[vE]
  refine⟨_,Z,_,_,_,_,Z,.str x,OH,_,Z,Z7 ?_⟩;refine⟨_,Z,x,Z,Cy (x:=x) (λi σ H4=>∃ j:ji,σ=[some (.str x),some (.str ⟨((x.cps.toList.take i).flatMap YT).toArray⟩),j]/\H4=H) ⟨none,?_,Z⟩ ?_ ?_⟩
  ·let e:(⟨((x.cps.toList.take 0).flatMap YT).toArray⟩:Str)=zW "" :=rfl;rw[e];rfl
  ·rintro i c σ H4 hc ⟨j,rfl,rfl⟩;let el:=KJ (x.cps.toList.take i);let tl:(x.cps.toList.take i).length<=40:=by rw[yK];lia
   let st:=ZL7 (x.cps.toList.take i) c;let tk:x.cps.toList.take (i+1)=x.cps.toList.take i++[c]:=by rw[yW,hc];rfl
   let one:(⟨#[c]⟩:Str).length=1:=rfl;let oneb:(⟨#[92]⟩:Str).length=1:=rfl;let e_yes:c=34\/c=92->(⟨((x.cps.toList.take i).flatMap YT).toArray⟩:Str)++zW "\\" ++ ⟨#[c]⟩=⟨((x.cps.toList.take (i+1)).flatMap YT).toArray⟩:=λh=>by
    rw[Of,tk,st,aK h]
   let e_no:¬ (c=34\/c=92)->(⟨((x.cps.toList.take i).flatMap YT).toArray⟩:Str)++⟨#[c]⟩=⟨((x.cps.toList.take (i+1)).flatMap YT).toArray⟩:=λh=>by
    rw[tk,st,aJ h]
   let lb:(zW "\\").length=1:=by decide +kernel
   let fl:(⟨((x.cps.toList.take i).flatMap YT).toArray⟩:Str).length<=80:=by rw[Qw];lia
   let fl2:((⟨((x.cps.toList.take i).flatMap YT).toArray⟩:Str)++zW "\\").length<=81:=by rw[PySem.Str.length_append,lb];lia
   generalize (⟨((x.cps.toList.take i).flatMap YT).toArray⟩:Str)=y at *;exists _,Z,Z,_,Z;refine YX (λc1=>?_) (λc1=>?_)
   ·let e1:V.str ⟨#[c]⟩=V.str (zW "\""):=of_decide_eq_true c1;let c34:c=34:=by injection e1 with e1;rw[Pc] at e1;exact VF.mp e1
    refine Z7 ?_;refine⟨_,Z,_,_,Z,Z,nn (by lia),_,Z,_,Z,_,_,Z,Z,nn (by rw[one];lia),some (.str ⟨#[c]⟩),?_,Z⟩
    exact congrArg (λz=>[some (V.str x),some (V.str z),some (V.str ⟨#[c]⟩)]) (e_yes (.inl c34))
   ·let n34:c≠34:=λz=>c1 (aI (by rw[Pc,z]))
    exists _,Z,Z,_,Z;refine YX (λc2=>?_) (λc2=>?_)
    ·let e1:V.str ⟨#[c]⟩=V.str (zW "\\"):=of_decide_eq_true c2;let c92:c=92:=by injection e1 with e1;rw[Of] at e1;exact VF.mp e1
     refine⟨_,Z,_,_,Z,Z,nn (by lia),_,Z,_,Z,_,_,Z,Z,nn (by rw[one];lia),some (.str ⟨#[c]⟩),?_,Z⟩
     exact congrArg (λz=>[some (V.str x),some (V.str z),some (V.str ⟨#[c]⟩)]) (e_yes (.inr c92))
    ·let n92:c≠92:=λz=>c2 (aI (by rw[Of,z]))
     refine⟨_,Z,_,Z,_,_,Z,Z,nn (by rw[one];lia),some (.str ⟨#[c]⟩),?_,Z⟩
     exact congrArg (λz=>[some (V.str x),some (V.str z),some (V.str ⟨#[c]⟩)]) (e_no (λz=>z.elim n34 n92))
  ·rintro σ H4 ⟨j,rfl,rfl⟩;let et:x.cps.toList.take x.cps.size=x.cps.toList:=yS (by simp)
   let el:=KJ x.cps.toList;rw[et];exists _,Z,_,_,Z,Z,?_,_,_,Z,Z,?_
   ·rw[LR,Qw,Qw];exact nn (by simp only[zU,yA];lia)
   ·rw[LR];show ((⟨[34].toArray⟩:Str)++⟨(x.cps.toList.flatMap YT).toArray⟩).length+_<=_;rw[PySem.Str.length_append,Qw,Qw];exact nn (by simp only[zU,yA];lia)
   ·rw[<-ZNs] at k0;exact k0
 | tup l=>
  let hv':=hv;rw[ZE] at hv';let⟨a,vs,rfl,ea,hvs⟩:=hv';let hl:=hvs.length;rw[KT.fits,zP,zP] at hf;let⟨f0,f1,f2⟩:=hf;let r0:=of_decide_eq_true f0;let l4:=of_decide_eq_true f1;let ty:XF K H (.ref a) (.type "tuple"):=.tup ea;let fl:∀ t∈l,t.fits (r-1)=true:=λt ht=>by rw[Q1] at f2;exact zE.mp f2 t ht
  let B1:=Lr (r:=r-1) (by lia)
  refine⟨_,Z,_,_,_,_,Z,ty,MN,_,Z,Zn ?_⟩;refine⟨_,Z,_,_,_,_,Z,ty,N0,_,Z,Z7 ?_⟩;exists Z,_,Z,a,Z,⟨vs,Zd.of ea⟩;refine Wa (n:=vs.length) (λi z=>vs[i]? = some z) (λD i ys H3=>ZC H H3/\H D=none/\ys=((l.take i).map Xx).map V.str) (YF (by lia))
   (λD i ys H3 hi hP=>⟨vs,vs[i],Zd.of (hP.1 _ _ ea),by simp[hi]⟩) (λD i ys H3 z H4 hi hP hy=>⟨hy.1,hy.2 vs (Zd.of (hP.1 _ _ ea))⟩) (λD ys H3 hP=>⟨vs,Zd.of (hP.1 _ _ ea),zX _⟩)
   (λD hD=>⟨Zq hD _,hD,Z⟩) (λD i ys H3 z eD hl' hi hz hP R hR=>?_) (λD ys H3 eD hP=>?_)
  ·let⟨s3,nD,rfl⟩:=hP;let⟨t,et,kt⟩:=hvs.get hz;refine⟨_,Z,z,t,r-1,Z,kt.mono (ZC.tups s3) _ _,fl t (zG et),by lia,by lia,λH4 s4=>?_⟩
   refine hR _ H4 (s4 D _ eD) ⟨λb o e=>by rw[ZY (Ze e nD)];exact s4 b o (s3 b o e),nD,?_⟩
   rw[yW,et];simp
  ·let⟨s3,nD,rfl⟩:=hP;let et:l.take vs.length=l:=yS (by lia)
   rw[et] at eD;let sm:=ZO8 (ts:=l) (B:=22000) λt ht=>zK (NL t _ (fl t ht)) B1;let sp1:(zW " ").length=1:=by decide +kernel
   let m4:l.length * 22000<=4 * 22000:=tY _ l4;let kk:=k H3 s3;rw[<-C8,<-GX] at kk;let gl:(Builtin.Str.glued (zW " ") (l.map Xx)).length+2<=22000:=by
    rw[KT.shown,zU,zT,vP] at sl;rw[GX,Qw];lia
   refine⟨zW " ",D,l.map Xx,Z,Z,ZI.of eD,by rw[zY,sp1];lia,_,_,Z,Z,?_,_,_,Z,Z,?_,kk⟩
   ·rw[FT,Qw,sizeLine_eq];simp only[zU,yA];lia
   ·let la:(zW "(").length=1:=by decide +kernel
    let lc:(zW ")").length=1:=by decide +kernel
    show ((zW "(")++Builtin.Str.glued (zW " ") (l.map Xx)).length+(zW ")").length<=_;rw[PySem.Str.length_append,la,lc,sizeLine_eq];lia
def Fb(T:Txt mg)(L:ZX K mg "_law_show" LN zEl):∀ n:Nat,ZA P w K mg kT (n+1) "_law_show" zEl (WL n)
 | 0=>L.of λ_ _ _=>O6 λvs H Q E h=>by let⟨v,t,r,_,_,_,h1,_⟩:=h;lia
 | n+1=>L.of λ_ _ F=>BQ F T (Fb T L n)
inductive VI(vs:jh)(H:Hp)(Q:VK)(_:XK):Prop
 |mk(x:Str)(i c:Nat)(rest:jK)(_:vs=[.str x,.int (i:Int)])(_:x.length<=ar)(_:x.cps.toList.drop i=YT c++rest)(_:UB c=true)(_:∀ H',ZC H H'->Q (.int ((i+(YT c).length-1:Nat):Int)) H')
def ZLj(c:Nat):HB ⟨#[c]⟩=UB c:=Df c
def UQ:ZB ["text","at","sign"] zEf (Zl Ju):=⟨Z,Z,Z,by decide +kernel,Z,by decide +kernel,by decide +kernel⟩
def Cq(F:Zo K "meant_at" "meant_at" Ju f fd)(DA:ZA P w K mg kT 1 "sign_at" zEf YC)(DG:ZA P w K mg kT 1 "is_sign" zEx QU):ZK P w K mg kT ZV 2 f fd zEf VI:=by
 refine F.ok UQ (λvs H Q E h=>?_) (λcdv A outer s H vs Q E hr h=>?_)
 ·let⟨x,i,c,rest,rfl,_⟩:=h;rfl
 let⟨x,i,c,rest,rfl,hl,hd,hc,q⟩:=h;let nd:=UQ.nd;refine⟨_,ZO (Zr (i:=2) nd rfl (Or.inl rfl) (Zc DA hr (ZN (pv 0) (ZN (pv 1) ZD))))
  (ZO (Zt (Z3 XE (pv 2) YB (Zu _))
   (ZO (Zt (Z3 Ds (Zc DA hr (ZN (pv 0) (ZN (Zs Y2 (pv 1) ZL) ZD))) (XR (ZN YB (ZN YB ZD))) rfl) (ZP WM) Zw)
   (ZP (Zk (Zs Y2 (pv 1) ZL)))) Zw)
  (ZO (Zt (VW (XD (Zc DG hr (ZN (pv 2) ZD)))) (ZP WM) Zw)
  (ZP (Zk (pv 1))))),?_⟩
 exists _,Z,_,Z,x,i,Z,hl;exists _,Z,Z,_,Z;rcases J6 c with ⟨e,he⟩ | ⟨e,n34,n92⟩
 ·rw[e] at hd q;let g0:=Wy (r:=c::rest) hd;let g1:=Wy (r:=rest) (OU (r:=c::rest) hd);rw[W7 g0];refine YX (λ_=>?_) (λz=>absurd (aI (by rw[Of])) z)
  let ei:(i:Int)+1=((i+1:Nat):Int):=by lia
  exists _,Z,_,Z,_,_,Z,Z,x,i+1,congrArg (λz=>[V.str x,V.int z]) ei,hl;rw[W7 g1];refine⟨(by show 2<=ar;decide),λp hp=>⟨p,_,Z,.inr (Zd.of ZZ),Z,Z,_,Z,?_⟩⟩
  let inn:Pf (.str ⟨#[c]⟩) [.str (zW "\""),.str (zW "\\")]=true:=by
   rw[Pc,Of];rcases he with rfl | rfl <;> decide +kernel
  rw[aK rfl,inn];refine Zn ⟨_,Z,_,_,Z,Z,?_⟩;let qq:=q _ (Zq hp (.tup [.str (zW "\""),.str (zW "\\")]));let e3:((i+[92,c].length-1:Nat):Int)=(i:Int)+1:=by simp
  rw[e3] at qq;exact qq
 ·rw[e] at hd q;let g0:=Wy (r:=rest) hd;rw[W7 g0];refine YX (λz=>?_) (λ_=>?_)
  ·let e1:V.str ⟨#[c]⟩=V.str (zW "\\"):=of_decide_eq_true z;exact absurd (by injection e1 with e1;rw[Of] at e1;exact VF.mp e1) n92
  ·exists _,Z,_,Z;rw[ZLj,hc];refine⟨_,Z,Zn ⟨_,Z,?_⟩⟩;let e2:i+[c].length-1=i:=by simp
   rw[e2] at q;exact q H (ZC.refl H)
inductive UX(vs:jh)(H:Hp)(Q:VK)(_:XK):Prop
 |mk(x:Str)(i:Nat)(n:Int)(post:jK)(_:vs=[.str x,.int (i:Int)])(_:x.length<=ar)(_:x.cps.toList.drop i=Vq n++post)(_:Na post)(_:n.natAbs<10 ^ 60)(_:∀ p H',ZC H H'->H' p=some (.tup [.int n,.int ((i+(Vq n).length:Nat):Int)])->Q (.ref p) H')
def ZIw{n:Int}(h:n.natAbs<10 ^ 60):(n=0/\Vq n=[48])\/∃(sgn:jK)(c:Nat)(q:jK),Vq n=sgn++c::q/\(sgn=[]\/sgn=[45])/\c≠48/\(∀ d∈c::q,QW d=true)/\(c::q).length<=60:=by
 rcases(show n=0\/n<0\/0<n by lia) with hi | hi | hi
 ·subst hi;exact .inl ⟨Z,(Qu 0).trans ZIr⟩
 ·obtain⟨m,rfl⟩:∃ m:Nat,n = -((m+1:Nat):Int):=⟨(-n).toNat-1,by lia⟩
  let⟨c,q,e,hc⟩:=GL (m+1) (by lia)
  let len:=Pw (m:=m+1) (k:=60) (by decide) (by lia)
  let al:=Np (m+1);rw[e] at al;refine .inr ⟨[45],c,q,by rw[Ly,e];rfl,.inr Z,hc,λd hd=>zE.mp al d hd,?_⟩
  rw[<-e,zY];exact len
 ·let⟨m,rfl⟩:=xB (vX hi);let hm:m≠0:=λz=>by subst z;exact absurd hi (by decide)
  let⟨c,q,e,hc⟩:=GL m hm;let len:=Pw (m:=m) (k:=60) (by decide) (by simpa using h)
  let al:=Np m;rw[e] at al;refine .inr ⟨[],c,q,(Qu m).trans e,.inl Z,hc,λd hd=>zE.mp al d hd,?_⟩;rw[<-e,zY];exact len
def ZLV{T:jK}{k:Nat}{post:jK}(h:T.drop k=post)(st:Na post):O0 (sg T k)=false:=by
 rcases st with rfl | ⟨r,rfl | rfl⟩
 ·rw[AB (ZKL h)];exact ZLe
 ·rw[W7 (Wy h),LC];decide
 ·rw[W7 (Wy h),LC];decide
abbrev EG:jP:=["text","at","first","end"]
def Pl:ZB EG zEf (Zl MB):=⟨Z,Z,Z,by decide +kernel,Z,by decide +kernel,by decide +kernel⟩
def MT:zW "0" = ⟨#[48]⟩:=U8 (by decide +kernel)
def EJ:zW "-" = ⟨#[45]⟩:=U8 (by decide +kernel)
def Wn{c d:Nat}:(V.str ⟨#[c]⟩=V.str ⟨#[d]⟩) ↔ c=d:=⟨λh=>by injection h with h;exact VF.mp h,λh=>by rw[h]⟩
def AE(F:Zo K "number_at" "number_at" MB f fd)(T:Txt mg)(DA:ZA P w K mg kT 1 "sign_at" zEf YC)(DF:ZA P w K mg kT 1 "is_figure" zEx QF):ZK P w K mg kT ZV 2 f fd zEf UX:=by
 refine F.ok Pl (λvs H Q E h=>?_) (λcdv A outer s H vs Q E hr h=>?_)
 ·let⟨x,i,n,post,rfl,_⟩:=h;rfl
 let⟨x,i,n,post,rfl,hl,hd,hst,hn,k⟩:=h;let nd:=Pl.nd;let⟨t1,m1⟩:=T.figures;let tail:∃ tt,VV (Pm ZV P w K mg kT EG "number_at" (Zl MB) f cdv A outer s H E).nox ((Vl MB).drop 3) tt /\
   ∀(fst c:Nat)(q:jK),x.cps.toList.drop fst=c::(q++post)->i<=fst->fst+(c::q).length=i+(Vq n).length->c≠48->(∀ d∈c::q,QW d=true)->(c::q).length<=60 ->
    tt { nx:=λ_ H'=>Q .non H',rt:=Q } [some (.str x),some (.int (i:Int)),some (.int (fst:Int)),none] H:=by
  refine⟨_,ZO (Zt (PW.pt (Vo (VW (XD (Zc DF hr (ZN (Zc DA hr (ZN (pv 0) (ZN (pv 2) ZD))) ZD)))) (UN (Z3 XE (Za NO (pv 0) (pv 2) (λ_ _=>rfl)) YB (Zu _))))) (ZP WM) Zw)
   (ZO (Zr (i:=3) nd rfl (Or.inl rfl) (Zs Y2 (pv 2) ZL))
   (ZO (NQ PassesOwn.never (PW.pt (Nk (Z3 Pr (pv 3) (Zs Y2 (pv 2) (WE (v:=.int 60) rfl m1 ⟨_,rfl⟩)) (Zu _)) (NV (XD (Zc DF hr (ZN (Zc DA hr (ZN (pv 0) (ZN (pv 3) ZD))) ZD))))))
    (ZP (Eu (i:=3) nd rfl (Or.inl rfl) ZL Di)))
   (ZP (Zk (XR (ZN (Ws ZEi rfl T.int Od (ZN (IU GF (pv 0) (O4 (pv 1)) (O4 (pv 3))) ZD)) (ZN (pv 3) ZD))))))),?_⟩
  intro fst c q hd' hle hsum hc hdig hlen;let g0:x.cps.toList[fst]? = some c:=Wy hd';exists _,Z,_,Z,x,fst,Z,hl,_,Z;rw[W7 g0,LC,hdig c zO];refine⟨_,Z,Zn ?_⟩;exists _,Z,_,Z,x,(fst:Int),c,Z,Z,hl,Yj g0,Z,_,Z;refine YX (λz=>?_) (λ_=>?_)
  ·let z':V.str ⟨#[c]⟩=V.str (zW "0"):=of_decide_eq_true z;rw[MT] at z';exact absurd (Wn.mp z') hc
  exists _,Z,_,_,Z,Z;exists λm σ H'=>∃ e:Nat,σ=[some (.str x),some (.int (i:Int)),some (.int (fst:Int)),some (.int (e:Int))]/\H'=H/\fst<e/\e<=fst+(c::q).length/\m=fst+(c::q).length-e,⟨_,fst+1,rfl,rfl,by lia,by simp only[zU];lia,rfl⟩
  rintro m σ H' ⟨e,rfl,rfl,h1,h2,rfl⟩;let last:e=fst+(c::q).length->(Em (Wu (Ig (λxs H Q=>∃ x n,xs=[V.str x]/\PySem.intText? x=some n/\x.length<=640/\Q (.int n) H) (Wu (Dz NC (Ub 0) (KS (Ub 1)) (KS (Ub 3))) Uu)) (Wu (Ub 3) Uu)))
    [some (.str x),some (.int (i:Int)),some (.int (fst:Int)),some (.int (e:Int))] H' Q:=λee=>by
   let en:e=i+(Vq n).length:=by rw[ee];exact hsum
   let sl:(Txt.slice x (some (i:Int)) (some (e:Int))).cps.toList=Vq n:=by
    rw[CL x (by lia),hd,en,wE,List.take_left]
   let⟨r1,r2⟩:=num_reads' hn sl;refine⟨_,Z,_,Z,_,Z,_,Z,_,Z,x,Z,hl,_,n,Z,r1,r2,_,Z,(by show 2<=ar;decide),λp hp=>?_⟩
   refine k p _ (Zq hp _) ?_;rw[en];exact ZZ
  exists _,Z,_,Z,_,_,Z,Z,_,_,Z,Z,_,Z;rcases xQ e (fst+(c::q).length) with hlt | hge
  ·let ge:(c::q)[e-fst]? = some ((c::q)[e-fst]'(by lia)):=zV (by lia)
   let gd:=hdig _ (yD (by lia:e-fst<(c::q).length))
   let gx:x.cps.toList[e]? = some ((c::q)[e-fst]'(by lia)):=by
    let e1:x.cps.toList[e]? = (x.cps.toList.drop fst)[e-fst]? :=by rw[uM];congr 1;lia
    rw[e1,hd',<-vH,xA (by lia)]
    exact ge
   refine YX (λ_=>?_) (λz=>absurd (aI (by lia)) z)
   exists _,Z,_,Z,x,e,Z,hl,_,Z;rw[W7 gx,LC,gd];refine⟨_,Z,Z7 ⟨λσ' H''=>∃ m',m'<fst+(c::q).length-e/\∃ e':Nat,σ'=[some (.str x),some (.int (i:Int)),some (.int (fst:Int)),some (.int (e':Int))]/\H''=H'/\fst<e'/\e'<=fst+(c::q).length/\m'=fst+(c::q).length-e',λ_ _ h=>h,?_⟩⟩;refine⟨_,Z,_,_,Z,Z,fst+(c::q).length-(e+1),by lia,e+1,?_,Z,by lia,by lia,Z⟩
   let e3:((e+1:Nat):Int)=(e:Int)+1:=by lia
   rw[e3];rfl
  ·let ee:e=fst+(c::q).length:=by lia
   refine YX (λ_=>?_) (λ_=>Zn (last ee));exists _,Z,_,Z,x,e,Z,hl,_,Z;let dp:x.cps.toList.drop e=post:=by rw[ee];exact N4 (a:=c::q) hd'
   rw[ZLV dp hst];exact⟨_,Z,Zn (last ee)⟩
 let⟨tt,htt,hfin⟩:=tail;refine⟨_,ZO (Zt (Z3 XE (Zc DA hr (ZN (pv 0) (ZN (pv 1) ZD))) YB (Zu _)) (ZP (Zk (XR (ZN ZL (ZN (Zs Y2 (pv 1) ZL) ZD))))) Zw)
  (ZO (Zr (i:=2) nd rfl (Or.inl rfl) (pv 1))
  (ZO (Zt (Z3 XE (Zc DA hr (ZN (pv 0) (ZN (pv 1) ZD))) YB (Zu _)) (ZP (Zr (i:=2) nd rfl (Or.inl rfl) (Zs Y2 (pv 1) ZL))) Zw) htt)),?_⟩
 exists _,Z,_,Z,x,i,Z,hl,Z,_,Z;rcases ZIw hn with ⟨rfl,e0⟩ | ⟨sgn,c,q,en,hsg,hc,hdig,hlen⟩
 ·rw[e0] at hd k;rw[W7 (Wy (r:=post) hd)];refine YX (λ_=>?_) (λz=>absurd (aI (by rw[MT])) z)
  refine⟨_,Z,_,_,Z,Z,(by show 2<=ar;decide),λp hp=>?_⟩
  refine k p _ (Zq hp _) ?_;exact ZZ
 rcases hsg with rfl | rfl
 ·let hd':x.cps.toList.drop i=c::(q++post):=by rw[hd,en];rfl
  let g0:=Wy hd';let n45:c≠45:=λz=>by have:=hdig c zO;rw[z] at this;exact absurd this (by decide)
  rw[W7 g0];refine YX (λz=>?_) (λ_=>?_)
  ·let z':V.str ⟨#[c]⟩=V.str (zW "0"):=of_decide_eq_true z;rw[MT] at z';exact absurd (Wn.mp z') hc
  exists _,Z;exists _,Z,_,Z,x,i,Z,hl,Z,_,Z;rw[W7 g0];refine YX (λz=>?_) (λ_=>?_)
  ·let z':V.str ⟨#[c]⟩=V.str (zW "-"):=of_decide_eq_true z;rw[EJ] at z';exact absurd (Wn.mp z') n45
  exact hfin i c q hd' (zX _) (by rw[en];rfl) hc hdig hlen
 ·let hd0:x.cps.toList.drop i=45::(c::q++post):=by rw[hd,en];rfl
  let hd':x.cps.toList.drop (i+1)=c::(q++post):=OU hd0;let g0:=Wy hd0;rw[W7 g0];refine YX (λz=>?_) (λ_=>?_)
  ·let z':V.str ⟨#[45]⟩=V.str (zW "0"):=of_decide_eq_true z;rw[MT] at z';exact absurd (Wn.mp z') (by decide)
  exists _,Z;exists _,Z,_,Z,x,i,Z,hl,Z,_,Z;rw[W7 g0];refine YX (λ_=>?_) (λz=>absurd (aI (by rw[EJ])) z)
  exists _,Z,_,_,Z,Z;let hh:=hfin (i+1) c q hd' (by lia) (by rw[en];simp only[zT,zU,yA];lia) hc hdig hlen
  let e3:((i+1:Nat):Int)=(i:Int)+1:=by lia
  rw[e3] at hh;exact hh
inductive XX(vs:jh)(H:Hp)(Q:VK)(_:XK):Prop
 |mk(x:Str)(i:Nat)(y:Str)(post:jK)(_:vs=[.str x,.int (i:Int)])(_:x.length<=ar)(_:x.cps.toList.drop i=y.cps.toList.flatMap YT++34::post)(_:Qj y=true)(_:∀ p H',ZC H H'->H' p=some (.tup [.str y,.int ((i+(y.cps.toList.flatMap YT).length+1:Nat):Int)])->Q (.ref p) H')
def ZGo(Y:jK):Builtin.Str.glued (zW "") (Y.map λc=>(⟨#[c]⟩:Str))=⟨Y.toArray⟩:=by
 let sp:(zW "").cps.toList=[]:=by decide +kernel
 apply PySem.Str.ext'
 cases Y with
 | nil=>rfl
 | cons c l=>
  let e:=Ld (zW "") (l.map λc=>(⟨#[c]⟩:Str)) #[c];let e2:((l.map λc=>(⟨#[c]⟩:Str)).flatMap λp=>(zW "").cps.toList++p.cps.toList)=l:=by
   rw[sp,sU]
   induction l with
   | nil=>rfl
   | cons d l ih=>rw[yI];simp only[List.nil_append] at ih⊢;rw[ih (by rw[Ld,sp,sU])];rfl
  rw[e2] at e;show ((l.map λc=>(⟨#[c]⟩:Str)).foldl (λacc p=>acc++(zW "").cps++p.cps) #[c])=_;have:(c::l).toArray=((l.map λc=>(⟨#[c]⟩:Str)).foldl (λacc p=>acc++(zW "").cps++p.cps) #[c]).toList.toArray:=by rw[e];rfl
  rw[this]
def Cg(Y:jK):((Y.map λc=>(⟨#[c]⟩:Str)).map (·.length)).sum=Y.length:=by
 induction Y with
 | nil=>rfl
 | cons c l ih=>rw[zB,zB,tV,ih,zU];show 1+l.length=_;lia
abbrev Ag:jP:=["text","at","signs","place"]
def Vb:ZB Ag zEf (Zl IJ):=⟨Z,Z,Z,by decide +kernel,Z,by decide +kernel,by decide +kernel⟩
def BP(F:Zo K "text_at" "text_at" IJ f fd)(T:Txt mg)(DA:ZA P w K mg kT 1 "sign_at" zEf YC)(DM:ZA P w K mg kT 2 "meant_at" zEf VI):ZK P w K mg kT ZV 3 f fd zEf XX:=by
 refine F.ok Vb (λvs H Q E h=>?_) (λcdv A outer s H vs Q E hr h=>?_)
 ·let⟨x,i,y,post,rfl,_⟩:=h;rfl
 let⟨x,i,y,post,rfl,hl,hd,hy,k⟩:=h;let nd:=Vb.nd;let hr1:=hr.mono (show 1<=2 by decide)
 let⟨t1,m1⟩:=T.signs;let⟨y1,y2⟩:=HW hy;let yl:y.cps.toList.length<=40:=by simpa using y1
 refine⟨_,ZO (Zr (i:=2) nd rfl (Or.inl rfl) (Yo ZD))
  (ZO (Zr (i:=3) nd rfl (Or.inl rfl) (pv 1))
  (ZO (NQ PassesOwn.never (Z3 Vs (Zc DA hr1 (ZN (pv 0) (ZN (pv 3) ZD))) YB (Zu _))
   (ZO (Zt (Z3 XE (Zv Yk rfl T.len YU (ZN (pv 2) ZD)) (WE (v:=.int 40) rfl m1 ⟨_,rfl⟩) (Zu _)) (ZP WM) Zw)
   (ZO (Zr (i:=3) nd rfl (Or.inl rfl) (Zc DM hr (ZN (pv 0) (ZN (pv 3) ZD))))
   (ZO (Xd (WW yB wC wB Qh (pv 2) (ZN (Za NO (pv 0) (pv 3) (λ_ _=>rfl)) ZD)))
   (ZP (Eu (i:=3) nd rfl (Or.inl rfl) ZL Di))))))
  (ZP (Zk (XR (ZN (WW uP tS sY Mo YB (ZN (pv 2) ZD)) (ZN (Zs Y2 (pv 3) ZL) ZD))))))),?_⟩
 refine⟨(by show 0<=ar;decide),λL hL=>?_⟩
 exists _,Z;refine⟨λm σ H'=>∃(j pl:Nat),σ=[some (.str x),some (.int (i:Int)),some (.ref L),some (.int (pl:Int))]/\ZC H H'/\H' L=some (.lst ((y.cps.toList.take j).map λc=>V.str ⟨#[c]⟩)) /\
   x.cps.toList.drop pl=(y.cps.toList.drop j).flatMap YT++34::post/\pl=i+((y.cps.toList.take j).flatMap YT).length/\j<=y.cps.toList.length/\m=y.cps.toList.length-j,
  ⟨_,0,i,Z,Zq hL _,ZZ,hd,Z,zH _,Z⟩,?_⟩
 rintro m σ H1 ⟨j,pl,rfl,s1,eL,hd1,jp,hj,rfl⟩;exists _,Z,_,Z,x,pl,Z,hl,Z,_,Z;rcases xQ j y.cps.toList.length with hlt | hge
 ·obtain⟨c,hc⟩:∃ c,y.cps.toList[j]? = some c:=⟨_,zV hlt⟩;let dj:y.cps.toList.drop j=c::y.cps.toList.drop (j+1):=by
   rw[wA hlt];rw[zV hlt] at hc;injection hc with hc;rw[hc]
  let tj:y.cps.toList.take (j+1)=y.cps.toList.take j++[c]:=by rw[yW,hc];rfl
  let sc:UB c=true:=zE.mp y2 c (zG hc);rw[dj,yI,xW] at hd1;let hd2:=N4 hd1;let ec:∃ h0 r0,YT c=h0::r0/\h0≠34/\x.cps.toList[pl+(YT c).length-1]? = some c:=by
   rcases J6 c with ⟨e,_⟩ | ⟨e,n34,_⟩
   ·rw[e] at hd1⊢;exact⟨92,[c],Z,by decide,Wy (OU (r:=c::_) hd1)⟩
   ·rw[e] at hd1⊢;exact⟨c,[],Z,n34,Wy (r:=_) hd1⟩
  let⟨h0,r0,e0,n0,gm⟩:=ec;let g0:x.cps.toList[pl]? = some h0:=by
   let hd3:=hd1;rw[e0] at hd3;exact Wy (r:=r0++_) hd3
  let lp:(YT c).length ≥ 1:=by rw[e0];simp
  rw[W7 g0];let ne:(!decide (V.str ⟨#[h0]⟩=V.str (zW "\"")))=true:=by
   rw[aH (λz=>by rw[Pc] at z;exact n0 (Wn.mp z))];rfl
  rw[ne];refine Z7 ⟨λσ' H'=>∃ m',m'<y.cps.toList.length-j/\∃(j' pl':Nat),σ'=[some (.str x),some (.int (i:Int)),some (.ref L),some (.int (pl':Int))]/\ZC H H'/\H' L=some (.lst ((y.cps.toList.take j').map λc=>V.str ⟨#[c]⟩)) /\
   x.cps.toList.drop pl'=(y.cps.toList.drop j').flatMap YT++34::post/\pl'=i+((y.cps.toList.take j').flatMap YT).length/\j'<=y.cps.toList.length/\m'=y.cps.toList.length-j',λ_ _ h=>h,?_⟩
  exists _,Z,L,_,Z,.inl (ZI.of eL),Z,_,Z;let ln:((y.cps.toList.take j).map λc=>V.str ⟨#[c]⟩).length=j:=by rw[zY,yK];lia
  refine YX (λz=>?_) (λ_=>?_)
  ·let z':=LF (of_decide_eq_true z);rw[ln] at z';lia
  refine⟨_,Z,_,Z,x,pl,c,_,Z,hl,hd1,sc,λH2 s2=>?_⟩;let eL2:=s2 _ _ eL;exists _,Z,.inl ⟨Z,_,ZI.of eL2⟩,_,Z,_,Z,x,_,c,Z,Z,hl,Yj gm,L,_,_,Z,Z,eL2,YF (by rw[ln];lia)
  refine⟨_,Z,_,_,Z,Z,y.cps.toList.length-(j+1),by lia,j+1,pl+(YT c).length,?_,λb o e=>?_,?_,hd2,?_,hlt,Z⟩
  ·let e3:((pl+(YT c).length-1:Nat):Int)+1=((pl+(YT c).length:Nat):Int):=by lia
   rw[<-e3];rfl
  ·rw[ZY (Ze e hL)];exact s2 b o (s1 b o e)
  ·rw[ZZ,tj,yZ];rfl
  ·rw[tj,vK,zT,jp];have:[c].flatMap YT=YT c:=by simp
   rw[this];lia
 ·let je:j=y.cps.toList.length:=by lia
  let dn:y.cps.toList.drop j=[]:=qR (by lia)
  let tn:y.cps.toList.take j=y.cps.toList:=yS (by lia)
  rw[dn] at hd1;rw[tn] at eL jp;let g0:=Wy (r:=post) hd1;rw[W7 g0];let ne:(!decide (V.str ⟨#[34]⟩=V.str (zW "\"")))=false:=by rw[Pc,aI rfl];rfl
  rw[ne];refine Zn ?_;let el0:(zW "").length=0:=by decide +kernel
  let eL':H1 L=some (.lst ((y.cps.toList.map λc=>(⟨#[c]⟩:Str)).map V.str)):=by rw[eL,xU];rfl
  exists Z,_,Z,zW "",L,y.cps.toList.map (λc=>(⟨#[c]⟩:Str)),Z,Z,ZI.of eL',by rw[Cg,el0];lia
  rw[ZGo];refine⟨_,Z,_,_,Z,Z,(by show 2<=ar;decide),λp hp=>?_⟩
  refine k p _ (s1.trans (Zq hp _)) ?_;let ey:(⟨y.cps.toList.toArray⟩:Str)=y:=by apply PySem.Str.ext';simp
  let e3:((i+(y.cps.toList.flatMap YT).length+1:Nat):Int)=(pl:Int)+1:=by lia
  rw[e3,ey];exact ZZ
inductive XU(n:Nat)(vs:jh)(H:Hp)(Q:VK)(_:XK):Prop
 |mk(x:Str)(i r:Nat)(t:KT)(post:jK)(_:vs=[.str x,.int (i:Int),.int (r:Int)])(_:x.length<=ar)(_:x.cps.toList.drop i=t.shown++post)(_:Na post)(_:t.fits r=true)(_:r<n)(_:∀ p v H',ZC H H'->H' p=some (.tup [v,.int ((i+t.shown.length:Nat):Int)])->ZE H' t v->Q (.ref p) H')
inductive UL(n:Nat)(vs:jh)(H:Hp)(Q:VK)(_:XK):Prop
 |mk(x:Str)(i r:Nat)(l:jM)(post:jK)(_:vs=[.str x,.int (i:Int),.int (r:Int)])(_:x.length<=ar)(_:x.cps.toList.drop i=shownL l++41::post)(_:l.length<=4)(_:fitsL l r=true)(_:r<n)(_:∀ p v H',ZC H H'->H' p=some (.tup [v,.int ((i+(shownL l).length+1:Nat):Int)])->ZE H' (.tup l) v->Q (.ref p) H')
def Gp:zW " " = ⟨#[32]⟩:=U8 (by decide +kernel)
def MO:zW ")" = ⟨#[41]⟩:=U8 (by decide +kernel)
def Gh:zW "(" = ⟨#[40]⟩:=U8 (by decide +kernel)
def E6(l:jM)(post:jK):Na (shownR l++41::post):=by
 cases l with
 | nil=>rw[shownR];exact .inr ⟨post,.inr Z⟩
 | cons t l=>rw[shownR];exact .inr ⟨_,.inl Z⟩
abbrev ZP4:jP:=["text","at","room","found","things"]
def UY:ZB ZP4 zEn (Zl MZ):=⟨Z,Z,Z,by decide +kernel,Z,by decide +kernel,by decide +kernel⟩
def ZLs{n:Nat}(F:Zo K "tuple_at" "tuple_at" MZ f fd)(T:Txt mg)(DA:ZA P w K mg kT 1 "sign_at" zEf YC)(DK:ZA P w K mg kT (2 * n+2) "key_at" zEn (XU n)):ZK P w K mg kT ZV (2 * n+3) f fd zEn (UL n):=by
 refine F.ok UY (λvs H Q E h=>?_) (λcdv A outer s H vs Q E hr h=>?_)
 ·let⟨x,i,r,l,post,rfl,_⟩:=h;rfl
 let⟨x,i,r,l,post,rfl,hl,hd,l4,hf,hn,k⟩:=h;let nd:=UY.nd;let hr1:=hr.mono (show 1<=2 * n+2 by lia)
 let⟨t1,m1⟩:=T.things;refine⟨_,ZO (Zt (Z3 XE (Zc DA hr1 (ZN (pv 0) (ZN (pv 1) ZD))) YB (Zu _)) (ZP (Zk (XR (ZN (XR ZD) (ZN (Zs Y2 (pv 1) ZL) ZD))))) Zw)
  (ZO (Zr (i:=3) nd rfl (Or.inl rfl) (Zc DK hr (ZN (pv 0) (ZN (pv 1) (ZN (pv 2) ZD)))))
  (ZO (Zr (i:=4) nd rfl (Or.inl rfl) (Yo (ZN (Za ZM (pv 3) ZL (λ_ _=>rfl)) ZD)))
  (ZO (NQ PassesOwn.never (Z3 Vs (Zc DA hr1 (ZN (pv 0) (ZN (Za ZM (pv 3) ZL (λ_ _=>rfl)) ZD))) YB (Zu _))
   (ZO (Zt (PW.pt (Vo (Z3 Vs (Zc DA hr1 (ZN (pv 0) (ZN (Za ZM (pv 3) ZL (λ_ _=>rfl)) ZD))) YB (Zu _)) (UN (Z3 XE (Zv Yk rfl T.len YU (ZN (pv 4) ZD)) (WE (v:=.int 4) rfl m1 ⟨_,rfl⟩) (Zu _))))) (ZP WM) Zw)
   (ZO (Zr (i:=3) nd rfl (Or.inl rfl) (Zc DK hr (ZN (pv 0) (ZN (Zs Y2 (Za ZM (pv 3) ZL (λ_ _=>rfl)) ZL) (ZN (pv 2) ZD)))))
   (ZP (Xd (WW yB wC wB Qh (pv 4) (ZN (Za ZM (pv 3) ZL (λ_ _=>rfl)) ZD)))))))
  (ZP (Zk (XR (ZN (Ws Ou rfl T.tuple QK (ZN (pv 4) ZD)) (ZN (Zs Y2 (Za ZM (pv 3) ZL (λ_ _=>rfl)) ZL) ZD)))))))),?_⟩
 exists _,Z,_,Z,x,i,Z,hl,Z,_,Z
 cases l with
 | nil=>
  rw[shownL] at hd k;rw[W7 (Wy (r:=post) hd)];refine YX (λ_=>?_) (λz=>absurd (aI (by rw[MO])) z)
  refine⟨(by show 0<=ar;decide),λp1 h1=>⟨_,Z,_,_,Z,Z,(by show 2<=ar;decide),λp2 h2=>?_⟩⟩
  let g1:=Zq h1 (.tup []);let g2:=Zq h2 (.tup [.ref p1,.int ((i:Int)+1)]);exact k p2 (.ref p1) _ (g1.trans g2) ZZ (.tup (g2 _ _ ZZ) .nil)
 | cons t l=>
  rw[fitsL,zP] at hf;let⟨ft,fl⟩:=hf;rw[shownL,xW] at hd;let⟨c,q,ec,n41,n32,_,_⟩:=JZ t ft;let g0:x.cps.toList[i]? = some c:=by
   let hd':=hd;rw[ec] at hd';exact Wy (r:=q++_) hd'
  rw[W7 g0];refine YX (λz=>?_) (λ_=>?_)
  ·let z':V.str ⟨#[c]⟩=V.str (zW ")"):=of_decide_eq_true z;rw[MO] at z';exact absurd (Wn.mp z') n41
  refine⟨_,Z,_,Z,_,Z,x,i,r,t,_,Z,hl,hd,E6 l post,ft,hn,λp0 v0 H1 s1 e1 kv=>?_⟩;refine⟨_,Z,p0,_,_,_,Z,Z,Zd.of e1,Z,(by show 1<=ar;decide),λL hL=>?_⟩
  let gL:=Zq hL (.lst [v0]);let hd1:=N4 hd;let nHL:H L=none:=by
   cases e:H L with
   | none=>rfl
   | some o=>rw[s1 L o e] at hL;cases hL
  refine⟨λm σ H'=>∃(j pl:Nat)(pf:aj)(vf:V)(vs:jh),σ=[some (.str x),some (.int (i:Int)),some (.int (r:Int)),some (.ref pf),some (.ref L)]/\ZC H H'/\H' pf=some (.tup [vf,.int (pl:Int)])/\H' L=some (.lst vs) /\
    kK H' (t::l.take j) vs/\x.cps.toList.drop pl=shownR (l.drop j)++41::post/\pl+(shownR (l.drop j)).length=i+(shownL (t::l)).length/\j<=l.length/\m=l.length-j,
   ⟨_,0,i+t.shown.length,p0,v0,[v0],Z,s1.trans gL,gL _ _ e1,ZZ,.cons (kv.mono (ZC.tups gL) _ _) .nil,hd1,by rw[shownL,zT,wP];lia,zH _,Z⟩,?_⟩
  rintro m σ H2 ⟨j,pl,pf,vf,vs,rfl,s2,ef,eL,hk,hdj,hsum,hj,rfl⟩;let lv:=hk.length;exists _,Z,_,Z,pf,_,_,_,Z,Z,Zd.of ef,Z,x,pl,Z,hl,Z,_,Z;rcases xQ j l.length with hlt | hge
  ·let dj:l.drop j=l[j]::l.drop (j+1):=wA hlt;rw[dj,shownR] at hdj hsum;let fj:(l[j]).fits r=true:=by rw[Q1] at fl;exact zE.mp fl _ (yD hlt)
   rw[W7 (Wy (r:=_) hdj)];let ne:(!decide (V.str ⟨#[32]⟩=V.str (zW ")")))=true:=by rw[MO,aH (λz=>absurd (Wn.mp z) (by decide))];rfl
   rw[ne];refine Z7 ⟨λσ' H'=>∃ m',m'<l.length-j/\∃(j' pl:Nat)(pf:aj)(vf:V)(vs:jh),σ'=[some (.str x),some (.int (i:Int)),some (.int (r:Int)),some (.ref pf),some (.ref L)]/\ZC H H'/\H' pf=some (.tup [vf,.int (pl:Int)])/\H' L=some (.lst vs) /\
    kK H' (t::l.take j') vs/\x.cps.toList.drop pl=shownR (l.drop j')++41::post/\pl+(shownR (l.drop j')).length=i+(shownL (t::l)).length/\j'<=l.length/\m'=l.length-j',λ_ _ h=>h,?_⟩
   exists _,Z,_,Z,pf,_,_,_,Z,Z,Zd.of ef,Z,x,pl,Z,hl,Z,_,Z;rw[W7 (Wy (r:=_) hdj)];let ne2:(!decide (V.str ⟨#[32]⟩=V.str (zW " ")))=false:=by rw[Gp,aI rfl];rfl
   rw[ne2];refine Zn ?_;exists _,Z,L,vs,Z,.inl (ZI.of eL),Z,_,Z;let lvs:vs.length=j+1:=by
    rw[<-lv,zU,yK];lia
   rw[zU] at l4;refine YX (λz=>?_) (λ_=>?_)
   ·let z':=LF (of_decide_eq_true z);lia
   let hdk:x.cps.toList.drop (pl+1)=(l[j]).shown++(shownR (l.drop (j+1))++41::post):=by
    have:=OU (r:=(l[j]).shown++shownR (l.drop (j+1))++41::post) hdj;rw[this,xW]
   let ep:(pl:Int)+1=((pl+1:Nat):Int):=by lia
   refine⟨_,Z,_,Z,pf,_,_,_,Z,Z,Zd.of ef,Z,_,_,Z,Z,_,Z,x,pl+1,r,l[j],_,congrArg (λz=>[V.str x,V.int z,V.int (r:Int)]) ep,hl,hdk,E6 _ post,fj,hn,λp3 v3 H3 s3 e3 kv3=>?_⟩;let eL3:=s3 _ _ eL;let sD:ZG L H3 (upd H3 L (.lst (vs++[v3]))):=(ZG.refl L H3).upd;let tD:YD H3 (upd H3 L (.lst (vs++[v3]))):=sD.tups eL3;exists _,Z,.inl ⟨Z,_,ZI.of eL3⟩,_,Z,p3,_,_,_,Z,Z,Zd.of e3,Z,L,_,_,Z,Z,eL3,YF (by lia)
   refine⟨l.length-(j+1),by lia,j+1,pl+1+(l[j]).shown.length,p3,v3,vs++[v3],Z,λb o e=>?_,tD _ _ e3,ZZ,?_,N4 hdk,?_,hlt,Z⟩
   ·rw[ZY (Ze e nHL)];exact s3 b o (s2 b o e)
   ·let tk:l.take (j+1)=l.take j++[l[j]]:=by rw[yW,zV hlt];rfl
    rw[tk,<-vH];exact((hk.mono (ZC.tups s3) _ _).append (.cons kv3 .nil)).mono tD _ _
   ·simp only[zU,zT] at hsum;lia
  ·let dn:l.drop j=[]:=qR (by lia)
   let tn:l.take j=l:=yS (by lia)
   rw[dn,shownR] at hdj hsum;rw[tn] at hk;rw[W7 (Wy (r:=post) hdj)];let ne:(!decide (V.str ⟨#[41]⟩=V.str (zW ")")))=false:=by rw[MO,aI rfl];rfl
   rw[ne];refine Zn ?_;refine⟨_,Z,L,vs,Z,.inl ⟨ZI.of eL,λp4 h4=>?_⟩⟩;let g4:=Zq h4 (.tup vs);refine⟨_,Z,pf,_,_,_,Z,Z,Zd.of (g4 _ _ ef),Z,_,_,Z,Z,(by show 2<=ar;decide),λp5 h5=>?_⟩
   let g5:=Zq h5 (.tup [.ref p4,.int ((pl:Int)+1)]);refine k p5 (.ref p4) _ (s2.trans (g4.trans g5)) ?_ (.tup (g5 _ _ ZZ) (hk.mono (ZC.tups (g4.trans g5)) _ _));let e3:((i+(shownL (t::l)).length+1:Nat):Int)=(pl:Int)+1:=by simp only[yA] at hsum;lia
   rw[e3];exact ZZ
abbrev ZO3:jP:=["text","at","room","sign"]
def UZ:ZB ZO3 zEn (Zl KO):=⟨Z,Z,Z,by decide +kernel,Z,by decide +kernel,by decide +kernel⟩
def Ae{n:Nat}(F:Zo K "key_at" "key_at" KO f fd)(DA:ZA P w K mg kT 1 "sign_at" zEf YC)(DN:ZA P w K mg kT 2 "number_at" zEf UX)(DX:ZA P w K mg kT 3 "text_at" zEf XX)(DU:ZA P w K mg kT (2 * n+3) "tuple_at" zEn (UL n)):ZK P w K mg kT ZV (2 * n+4) f fd zEn (XU (n+1)):=by
 refine F.ok UZ (λvs H Q E h=>?_) (λcdv A outer s H vs Q E hr h=>?_)
 ·let⟨x,i,r,t,post,rfl,_⟩:=h;rfl
 let⟨x,i,r,t,post,rfl,hl,hd,hst,hf,hn,k⟩:=h;let nd:=UZ.nd;let hr1:=hr.mono (show 1<=2 * n+3 by lia)
 let hr2:=hr.mono (show 2<=2 * n+3 by lia)
 let hr3:=hr.mono (show 3<=2 * n+3 by lia)
 refine⟨_,ZO (Zr (i:=3) nd rfl (Or.inl rfl) (Zc DA hr1 (ZN (pv 0) (ZN (pv 1) ZD))))
  (ZO (Zt (Z3 XE (pv 3) YB (Zu _)) (ZP (Zk (Zc DX hr3 (ZN (pv 0) (ZN (Zs Y2 (pv 1) ZL) ZD))))) Zw)
  (ZO (Zt (PW.pt (Nk (Z3 XE (pv 3) YB (Zu _)) (NV (Z3 PB (pv 2) ZL (Zu _))))) (ZP (Zk (Zc DU hr (ZN (pv 0) (ZN (Zs Y2 (pv 1) ZL) (ZN (Zs Qk (pv 2) ZL) ZD)))))) Zw)
  (ZP (Zk (Zc DN hr2 (ZN (pv 0) (ZN (pv 1) ZD))))))),?_⟩
 let ei:(i:Int)+1=((i+1:Nat):Int):=by lia
 let⟨c,q,ec,_,_,h34,h40⟩:=JZ t hf;let hd0:x.cps.toList.drop i=c::(q++post):=by rw[hd,ec];rfl
 exists _,Z,_,Z,x,i,Z,hl;rw[W7 (Wy hd0)];exists _,Z,Z,_,Z
 cases t with
 | str y=>
  let c34:c=34:=h34.mpr ⟨y,Z⟩;rw[KT.fits] at hf;let e1:=ec;rw[KT.shown] at e1 k;injection e1 with e1 e2;subst c34;refine YX (λ_=>?_) (λz=>absurd (aI (by rw[Pc])) z)
  let hd1:x.cps.toList.drop (i+1)=y.cps.toList.flatMap YT++34::post:=by
   have:=OU hd0;rw[this,<-e2,xW];rfl
  refine⟨_,Z,_,Z,_,_,Z,Z,x,i+1,y,post,congrArg (λz=>[V.str x,V.int z]) ei,hl,hd1,hf,λp H' s' e'=>?_⟩;refine k p (.str y) H' s' ?_ (ZE.str y);rw[e']
  congr 5
  simp only[zU,zT,yA];lia
 | tup l=>
  let c40:c=40:=h40.mpr ⟨l,Z⟩;let n34:c≠34:=by lia
  rw[KT.fits,zP,zP] at hf;let⟨f0,f1,f2⟩:=hf;let r0:=of_decide_eq_true f0;let l4:=of_decide_eq_true f1;let e1:=ec;rw[KT.shown] at e1 k;injection e1 with e1 e2;subst c40;refine YX (λz=>?_) (λ_=>?_)
  ·let z':V.str ⟨#[40]⟩=V.str (zW "\""):=of_decide_eq_true z;rw[Pc] at z';exact absurd (Wn.mp z') n34
  let hd1:x.cps.toList.drop (i+1)=shownL l++41::post:=by
   have:=OU hd0;rw[this,<-e2,xW];rfl
  exists _,Z,Z,_,Z;refine YX (λ_=>?_) (λz=>absurd (aI (by rw[Gh])) z)
  exists _,Z,_,_,Z,Z,_,Z;refine YX (λ_=>?_) (λz=>absurd (aI (by lia)) z)
  let er:(r:Int)-1=((r-1:Nat):Int):=by lia
  refine⟨_,Z,_,Z,_,_,Z,Z,_,Z,_,_,Z,Z,x,i+1,r-1,l,post,?_,hl,hd1,l4,f2,by lia,λp v H' s' e' kv=>?_⟩
  ·rw[<-er,<-ei];rfl
  refine k p v H' s' ?_ kv;rw[e']
  congr 5
  simp only[zU,zT,yA];lia
 | int m=>
  let n34:c≠34:=λz=>by let⟨y,e⟩:=h34.mp z;cases e
  let n40:c≠40:=λz=>by let⟨y,e⟩:=h40.mp z;cases e
  rw[KT.fits] at hf;rw[KT.shown] at hd k;refine YX (λz=>?_) (λ_=>?_)
  ·let z':V.str ⟨#[c]⟩=V.str (zW "\""):=of_decide_eq_true z;rw[Pc] at z';exact absurd (Wn.mp z') n34
  exists _,Z,Z,_,Z;refine YX (λz=>?_) (λ_=>Zn ?_)
  ·let z':V.str ⟨#[c]⟩=V.str (zW "("):=of_decide_eq_true z;rw[Gh] at z';exact absurd (Wn.mp z') n40
  exact⟨_,Z,_,Z,x,i,m,post,Z,hl,hd,hst,of_decide_eq_true hf,λp H' s' e'=>k p (.int m) H' s' e' (ZE.int m)⟩
def FJ(T:Txt mg)(LK:ZX K mg "key_at" KO zEn)(LU:ZX K mg "tuple_at" MZ zEn)(DA:ZA P w K mg kT 1 "sign_at" zEf YC)(DN:ZA P w K mg kT 2 "number_at" zEf UX)(DX:ZA P w K mg kT 3 "text_at" zEf XX):∀ n:Nat,ZA P w K mg kT (2 * n+2) "key_at" zEn (XU n)
 | 0=>LK.of λ_ _ _=>O6 λvs H Q E h=>by let⟨x,i,r,t,post,_,_,_,_,_,h1,_⟩:=h;lia
 | n+1=>LK.of λ_ _ F=>Ae F DA DN DX (LU.of λ_ _ G=>ZLs G T DA (FJ T LK LU DA DN DX n))
inductive YY:Sp
 |mk{x:Str}{ts:jM}{H:Hp}{Q:VK}{E:XK}:x.length<=ar->x.cps.toList=shownL ts->(∀ t∈ts,t.fits 3=true)->ts.length<=900->(∀(H':Hp)(D:aj)(vs:jh),ZC H H'->H D=none->H' D=some (.lst vs)->kK H' ts vs->Q (.ref D) H')->YY [.str x] H Q E
abbrev ZKT:jP:=["text","found","keys"]
def WJ:ZB ZKT ["text"] (Zl Ir):=⟨Z,Z,Z,by decide +kernel,Z,by decide +kernel,by decide +kernel⟩
inductive IN(x:Str)(H:Hp)(L:aj)(t:KT)(l:jM):Nat->L2.St->Hp->Prop
 |mk{j pl:Nat}{pf:aj}{vf:V}{vs:jh}{H':Hp}:ZC H H'->H' pf=some (.tup [vf,.int (pl:Int)])->H' L=some (.lst vs)->kK H' (t::l.take j) vs->x.cps.toList.drop pl=shownR (l.drop j)->pl+(shownR (l.drop j)).length=x.length->j<=l.length->IN x H L t l (l.length-j) [some (.str x),some (.ref pf),some (.ref L)] H'
def EF(l:jM):Na (shownR l):=by
 cases l with
 | nil=>rw[shownR];exact .inl Z
 | cons t l=>rw[shownR];exact .inr ⟨_,.inl Z⟩
def ZGV(F:Zo K "read_many" "read_many" Ir f fd)(T:Txt mg)(DK:ZA P w K mg kT 10 "key_at" zEn (XU 4)):ZK P w K mg kT ZV 11 f fd ["text"] YY:=by
 refine F.ok WJ (λvs H Q E h=>(by induction h;rfl)) (λcdv A outer s H vs Q E hr h=>?_)
 induction h
 rename_i x ts H Q E hl hx hf l9 k
 let nd:=WJ.nd;let⟨t1,m1⟩:=T.deep;refine⟨_,ZO (Zt (Z3 XE (pv 0) YB (Zu _)) (ZP (Zk (Yo ZD))) Zw)
  (ZO (Zr (i:=1) nd rfl (Or.inl rfl) (Zc DK hr (ZN (pv 0) (ZN ZL (ZN (WE (v:=.int 3) rfl m1 ⟨_,rfl⟩) ZD)))))
  (ZO (Zr (i:=2) nd rfl (Or.inl rfl) (Yo (ZN (Za ZM (pv 1) ZL (λ_ _=>rfl)) ZD)))
  (ZO (NQ PassesOwn.never (Z3 Pr (Za ZM (pv 1) ZL (λ_ _=>rfl)) (Zv Hl rfl T.len YU (ZN (pv 0) ZD)) (Zu _))
   (ZO (Zt (Z3 Vs (Za NO (pv 0) (Za ZM (pv 1) ZL (λ_ _=>rfl)) (λ_ _=>rfl)) YB (Zu _)) (ZP WM) Zw)
   (ZO (Zr (i:=1) nd rfl (Or.inl rfl) (Zc DK hr (ZN (pv 0) (ZN (Zs Y2 (Za ZM (pv 1) ZL (λ_ _=>rfl)) ZL) (ZN (WE (v:=.int 3) rfl m1 ⟨_,rfl⟩) ZD)))))
   (ZP (Xd (WW yB wC wB Qh (pv 2) (ZN (Za ZM (pv 1) ZL (λ_ _=>rfl)) ZD)))))))
  (ZP (Zk (pv 2)))))),?_⟩
 let ln:x.length=(shownL ts).length:=by rw[<-hx];simp[vE]
 cases ts with
 | nil=>
  rw[shownL] at hx;let ex:x=zW "" :=by
   rw[U8 hx];decide +kernel
  subst ex;refine⟨_,Z,Z,_,Z,YX (λ_=>?_) (λz=>absurd (aI Z) z)⟩;refine⟨by show 0<=ar;decide,λD nD=>k _ D [] (Zq nD _) nD ZZ .nil⟩
 | cons t l=>
  let ft:=hf t zO;let⟨c,q,ec,_⟩:=JZ t ft;rw[shownL] at hx ln;refine⟨_,Z,Z,_,Z,YX (λz=>?_) (λ_=>?_)⟩
  ·let z':V.str x=V.str (zW ""):=of_decide_eq_true z;rw[V.str.inj z',ec] at hx;exact absurd hx (by rw[show (zW "").cps.toList=[] by decide +kernel];simp)
  refine⟨_,Z,x,0,3,t,shownR l,Z,hl,by rw[wP,hx],EF l,ft,by decide,λp0 v0 H1 s1 e1 kv=>?_⟩
  refine⟨_,Z,p0,_,_,_,Z,Z,Zd.of e1,Z,(by show 1<=ar;decide),λL hL=>?_⟩
  let gL:=Zq hL (.lst [v0]);let nHL:=s1.free hL;let eD:x.cps.toList.drop (0+t.shown.length)=shownR (l.drop 0):=by rw[hx,vO,rD,wP]
  exists λm σ H'=>IN x H L t l m σ H',⟨l.length-0,.mk (j:=0) (s1.trans gL) (gL _ _ e1) ZZ (.cons (kv.mono (ZC.tups gL) _ _) .nil) eD (by rw[wP,ln,zT];lia) (zH _)⟩
  intro m σ H2 hI
  induction hI
  rename_i j pl pf vf vs H2 s2 ef eL hk hdj hsum hj
  let lv:=hk.length;exists _,Z,pf,_,_,_,Z,Z,Zd.of ef,Z,_,Z,x,Z,hl,_,_,Z,Z,_,Z;let lvs:vs.length=j+1:=by
   rw[<-lv,zU,yK];lia
  rw[zU] at l9;rcases xQ j l.length with hlt | hge
  ·let dj:l.drop j=l[j]::l.drop (j+1):=wA hlt;rw[dj,shownR] at hdj hsum;let fj:(l[j]).fits 3=true:=hf _ (zJ _ (yD hlt));rw[zU,zT] at hsum;refine YX (λ_=>?_) (λz=>absurd (aI (by lia)) z)
   exists λσ' H'=>∃ m',m'<l.length-j/\IN x H L t l m' σ' H',λ_ _ h=>h;exists _,Z,_,Z,pf,_,_,_,Z,Z,Zd.of ef,Z,x,_,32,Z,Z,hl,Yj (Wy (r:=_) hdj),Z,_,Z;let ne2:(!decide (V.str ⟨#[32]⟩=V.str (zW " ")))=false:=by rw[Gp,aI rfl];rfl
   rw[ne2];refine Zn ?_;let hdk:x.cps.toList.drop (pl+1)=(l[j]).shown++shownR (l.drop (j+1)):=OU (r:=(l[j]).shown++shownR (l.drop (j+1))) hdj;let ep:(pl:Int)+1=((pl+1:Nat):Int):=by lia
   refine⟨_,Z,_,Z,pf,_,_,_,Z,Z,Zd.of ef,Z,_,_,Z,Z,x,pl+1,3,l[j],_,congrArg (λz=>[V.str x,V.int z,V.int (3:Int)]) ep,hl,hdk,EF _,fj,by decide,λp3 v3 H3 s3 e3 kv3=>?_⟩
   let eL3:=s3 _ _ eL;let sD:ZG L H3 (upd H3 L (.lst (vs++[v3]))):=(ZG.refl L H3).upd;let tD:YD H3 (upd H3 L (.lst (vs++[v3]))):=sD.tups eL3;exists _,Z,.inl ⟨Z,_,ZI.of eL3⟩,_,Z,p3,_,_,_,Z,Z,Zd.of e3,Z,L,_,_,Z,Z,eL3,YF (by lia)
   refine⟨l.length-(j+1),by lia,.mk (λb o e=>?_) (tD _ _ e3) ZZ ?_ (N4 hdk) (by lia) hlt⟩
   ·rw[ZY (Ze e nHL)];exact s3 b o (s2 b o e)
   ·let tk:l.take (j+1)=l.take j++[l[j]]:=by rw[yW,zV hlt];rfl
    rw[tk];exact(hk.mono (λb ys e=>tD _ _ (s3 _ _ e)) _ _).append (.cons (kv3.mono tD _ _) .nil)
  ·let ej:j=l.length:=by lia
   subst ej;rw[sV,shownR] at hsum;rw[xK] at hk;refine YX (λz=>?_) (λ_=>?_)
   ·have:=of_decide_eq_true z;simp at hsum;lia
   exact⟨_,Z,k H2 L vs s2 nHL eL hk⟩
end _T
namespace L2
open PySem PySem.Spec PyProof.Rows
def Hm:∀ l:List (Str×Tok),ZR ((l.map (·.1)).map V.str) (strValues l)
 | []=>.nil
 | _::l=>.cons ⟨_,Z⟩ (Hm l)
inductive Po:V->jh->Hp->VK->Prop
 |mk{x y:Str}{H:Hp}{Q:VK}:x.length<=ar->(y.length==0)=false->(∀ p,H p=none->Q (.ref p) (upd H p (.tup [.str (Txt.partition x y).1,.str (Txt.partition x y).2.1,.str (Txt.partition x y).2.2])))->Po (.str x) [.str y] H Q
def ZNi:KH X "str.partition" Po:=by
 intro kR s σ H x xs v us Q I rx rv h
 cases h with
 | mk hx hy q=>
  rename_i x y
  let⟨t,rfl⟩:=rx;let⟨u,rfl,ru⟩:=Wk rv;let⟨t2,rfl⟩:=ru;refine call_meets qB (typeIs_str _ _ _) PySem.F.entry_str_partition (PySem.F.args_str_partition_2 _ _) (meets_str_partition x y t t2 hy hx) ?_;let q':=q s.heap.objs.size (I.hok.fresh (zX _));unfold Txt.partition at q'
  revert q'
  cases Builtin.Str.occurrences x y 0 x.length 1 with
  | nil=>
   intro q';refine⟨.ref s.heap.objs.size,_,?_,Z,q'⟩;exact I.laid (o:=.tup [.str _,.str _,.str _]) (λb o e=>zD _ e) (zX _) ⟨by show 3<=ar;decide,_,.cons ⟨_,Z⟩ (.cons ⟨_,rfl⟩ (.cons ⟨_,rfl⟩ .nil)),⟨_,yP _ Z,Z,_,Z⟩⟩
  | cons i r=>
   intro q';refine⟨.ref s.heap.objs.size,_,?_,Z,q'⟩;exact I.laid (o:=.tup [.str _,.str _,.str _]) (λb o e=>zD _ e) (zX _) ⟨by show 3<=ar;decide,_,.cons ⟨_,Z⟩ (.cons ⟨_,rfl⟩ (.cons ⟨_,rfl⟩ .nil)),⟨_,yP _ Z,Z,_,Z⟩⟩
inductive QB:V->jh->Hp->VK->Prop
 |mk{x y:Str}{H:Hp}{Q:VK}:x.length+2<=ar->(y.length==0)=false->(∀ p,H p=none->Q (.ref p) (upd H p (.lst ((Txt.split x y).map V.str))))->QB (.str x) [.str y] H Q
def ZLf:KH X "str.split" QB:=by
 intro kR s σ H x xs v us Q I rx rv h
 cases h with
 | mk hx hy q=>
  rename_i x y
  let⟨t,rfl⟩:=rx;let⟨u,rfl,ru⟩:=Wk rv;let⟨t2,rfl⟩:=ru;let hn:(Builtin.Str.partsBetween x (Builtin.Str.occurrences x y 0 x.length (x.length+1)) y.length).length<=sizeLine:=by
   let e1:=StrLaws.occ_length_le x y 0 x.length (x.length+1);rw[length_partsBetween];lia
  let q':=q s.heap.objs.size (I.hok.fresh (zX _));let fin:∀(l:List (Str×Tok))(k:Nat),l.map (·.1)=Txt.split x y->l.length<=ar->∃(y':V)(H':Hp),ZJ X kR σ H' { s with toks:=k,heap:=s.heap.push { cls:=.type "list",data:=.seq (strValues l).toArray } }/\ZT y' (.ref s.heap.objs.size)/\Q y' H':=λl k el hl=>by
   refine⟨.ref s.heap.objs.size,_,I.laid (t':=k) (λb o e=>zD _ e) (zX _) ?_,Z,q'⟩;let hv:=Hm l;rw[el] at hv;exact⟨by rw[zY,<-el,zY];exact hl,strValues l,_,hv,yP _ Z⟩
  cases h1:(decide (x.length<y.length) || decide (Builtin.Str.strKind x<Builtin.Str.strKind y))
  ·cases hf:(Builtin.Str.occurrences x y 0 x.length (x.length+1)).isEmpty
   ·refine call_meets sX (typeIs_str _ _ _) qZ (qV _ _) (meets_str_split_sep x y t t2 h1 hy hf (by lia) hn) ?_
    rw[strsFrom_eq];let el:(numbered s.toks (Builtin.Str.partsBetween x (Builtin.Str.occurrences x y 0 x.length (x.length+1)) y.length)).map (·.1)=Txt.split x y:=(numbered_texts s.toks (Builtin.Str.partsBetween x (Builtin.Str.occurrences x y 0 x.length (x.length+1)) y.length)).trans ((aJ (ne_true_of_eq_false h1)).trans (aJ (ne_true_of_eq_false hf))).symm;exact fin _ _ el (by
     have:=congrArg xC (numbered_texts s.toks (Builtin.Str.partsBetween x (Builtin.Str.occurrences x y 0 x.length (x.length+1)) y.length));rw[zY] at this;rw[this];exact hn)
   ·exact call_meets sX (typeIs_str _ _ _) qZ (qV _ _) (meets_str_split_not_found x y t t2 h1 hy hf) (fin [(x,t)] s.toks ((aJ (ne_true_of_eq_false h1)).trans (aK hf)).symm (by show 1<=ar;decide))
  ·exact call_meets sX (typeIs_str _ _ _) qZ (qV _ _) (meets_str_split_cannot_occur x y t t2 h1) (fin [(x,t)] s.toks (aK h1).symm (by show 1<=ar;decide))
end L2
namespace L2
open PySem PySem.Spec PyProof.Rows PySem.Builtin PySem.Builtin.Str
abbrev Zm(l:jK):Str:=⟨l.toArray⟩
def La:zW " " = ⟨#[32]⟩:=by
 apply Str.ext';decide +kernel
def Qd{x:Str}{l:jK}(h:x.cps.toList=l):x=Zm l:=by
 apply Str.ext';apply vF.mp;rw[h]
def A3{a b:jK}(ha:32∉a):Txt.partition (Zm (a++32::b)) ⟨#[32]⟩=(Zm a,⟨#[32]⟩,Zm b):=by
 let ln:(Zm (a++32::b)).length=a.length+(b.length+1):=by
  show (a++32::b).toArray.size=_;simp
 let at_:∀ i,StrLaws.At (Zm (a++32::b)) ⟨#[32]⟩ (Zm (a++32::b)).length i ↔ (a++32::b)[i]? = some 32:=λi=>StrLaws.subAt_one (Zm (a++32::b)) 32 i;let hm:(a++32::b)[a.length]? = some 32:=by simp
 unfold Txt.partition;rcases StrLaws.occ_head (Zm (a++32::b)) ⟨#[32]⟩ 1 (zX 1) with ⟨h0,hn⟩ | ⟨i,r,h0,hi,hn⟩
 ·exact absurd ((at_ _).mpr hm) (hn _)
 ·let h1:=(at_ i).mp hi;let ei:i=a.length:=by
   rcases Nat.lt_trichotomy i a.length with z | z | z
   ·rw[xA z] at h1;exact absurd (zG h1) ha
   ·exact z
   ·exact absurd ((at_ _).mpr hm) (hn _ z)
  rw[h0];subst ei;show (strSub (Zm (a++32::b)) 0 a.length,(⟨#[32]⟩:Str),strSub (Zm (a++32::b)) (a.length+1) (Zm (a++32::b)).length)=_;rw[show strSub (Zm (a++32::b)) 0 a.length=Zm a from Qd (by rw[StrLaws.strSub_toList];simp),show strSub (Zm (a++32::b)) (a.length+1) (Zm (a++32::b)).length=Zm b from Qd (by
   rw[StrLaws.strSub_toList,ln];show ((a++32::b).drop (a.length+1)).take _=_;rw[<-wQ,rD];simp only[List.drop_succ_cons,wP];exact yS (by lia))]
def jn:List (jK)->jK
 | []=>[]
 | t::r=>t++r.flatMap λu=>32::u
def HG(l:List (jK)):glued ⟨#[32]⟩ (l.map Zm)=Zm (jn l):=by
 let go:∀(r:List (jK))(acc:Array Nat),(r.map Zm).foldl (λacc p=>acc++(#[32]:Array Nat)++p.cps) acc=acc++(r.flatMap λu=>32::u).toArray:=λr=>by
  induction r with
  | nil=>intro acc;simp
  | cons t r ih=>
   intro acc;rw[zB,sM,ih,yI];apply vF.mp;simp
 cases l with
 | nil=>rfl
 | cons t r=>
  unfold glued jn;show (⟨((r.map Zm).foldl (λacc p=>acc++(#[32]:Array Nat)++p.cps) t.toArray)⟩:Str)=_;rw[go];apply Str.ext';apply vF.mp;simp
def ZPa:∀{l m:List (jK)},l≠[]->m≠[]->(∀ t∈l,32∉t)->(∀ t∈m,32∉t)->jn l=jn m->l=m:=by
 let word:∀{a b c d:jK},32∉a->32∉b->(c=[]\/∃ z,c=32::z)->(d=[]\/∃ z,d=32::z)->a++c=b++d->a=b/\c=d:=fun{a}=>by
  induction a with
  | nil=>
   intro b c d _ hb hc hd e
   cases b with
   | nil=>exact⟨Z,e⟩
   | cons x b=>
    rcases hc with rfl | ⟨z,rfl⟩
    ·cases e
    ·injection e with e1 e2;exact absurd (e1 ▸ zO) hb
  | cons y a ih=>
   intro b c d ha hb hc hd e
   cases b with
   | nil=>
    rcases hd with rfl | ⟨z,rfl⟩
    ·cases e
    ·injection e with e1 e2;exact absurd (e1 ▸ zO) ha
   | cons x b=>
    injection e with e1 e2;let⟨h1,h2⟩:=ih (λz=>ha (zJ _ z)) (λz=>hb (zJ _ z)) hc hd e2;exact⟨by rw[e1,h1],h2⟩
 let tl:∀ r:List (jK),(r.flatMap λu=>32::u)=[]\/∃ z,(r.flatMap λu=>32::u)=32::z:=λr=>by
  cases r with
  | nil=>exact .inl Z
  | cons t r=>exact .inr ⟨_,Z⟩
 let more:∀{r s:List (jK)},(∀ t∈r,32∉t)->(∀ t∈s,32∉t)->(r.flatMap λu=>32::u)=(s.flatMap λu=>32::u)->r=s:=fun{r}=>by
  induction r with
  | nil=>
   intro s _ _ e
   cases s with
   | nil=>rfl
   | cons t s=>cases e
  | cons a r ih=>
   intro s hr hs e
   cases s with
   | nil=>cases e
   | cons b s=>
    rw[yI,yI] at e;injection e with _ e;let⟨h1,h2⟩:=word (hr a zO) (hs b zO) (tl r) (tl s) e;rw[h1,ih (λt ht=>hr t (zJ _ ht)) (λt ht=>hs t (zJ _ ht)) h2]
 intro l m nl nm hl hm e
 cases l with
 | nil=>exact absurd Z nl
 | cons a r=>
  cases m with
  | nil=>exact absurd Z nm
  | cons b s=>
   let⟨h1,h2⟩:=word (hl a zO) (hm b zO) (tl r) (tl s) e;rw[h1,more (λt ht=>hl t (zJ _ ht)) (λt ht=>hm t (zJ _ ht)) h2]
def ZK5{l:List (jK)}(nl:l≠[])(hl:∀ t∈l,32∉t):Txt.split (Zm (jn l)) ⟨#[32]⟩=l.map Zm:=by
 let h1:=StrLaws.join_split (Zm (jn l)) ⟨#[32]⟩;let h2:=StrLaws.split_free (Zm (jn l)) 32;let h3:=split_pos (Zm (jn l)) ⟨#[32]⟩;generalize Txt.split (Zm (jn l)) ⟨#[32]⟩=m at h1 h2 h3⊢;let em:m=(m.map λs=>s.cps.toList).map Zm:=by
  rw[xU];exact(List.map_id m).symm.trans (uB λs _=>Qd Z)
 let e1:jn (m.map λs=>s.cps.toList)=jn l:=by
  have:=HG (m.map λs=>s.cps.toList);rw[<-em] at this;let h1:glued ⟨#[32]⟩ m=Zm (jn l):=by
   rw[<-h1]
   cases m with
   | nil=>exact absurd h3 (by decide)
   | cons x r=>exact StrLaws.glued_cons _ r x
  rw[this] at h1;have:=congrArg (λs:Str=>s.cps.toList) h1;simpa using this
 let e2:=ZPa (l:=m.map λs=>s.cps.toList) (m:=l) (λz=>by rw[uA] at z;rw[z] at h3;exact absurd h3 (by decide)) nl (λt ht=>by
  let⟨s,hs,rfl⟩:=yR.mp ht;exact h2 s hs) hl e1
 rw[em,e2]
end L2
namespace L2
open PySem PySem.Spec PyProof.Rows
def GY(n:Nat):It:=⟨λi _=>i<n,λi H x H'=>H'=H/\x=.int (2 * (i:Nat)),λi _=>n<=i⟩
def ZLS{P:ao}{w:ax}{K:zZ}{tg:Expr}(it:aj)(n:Nat):VJ P w K tg (GY n) [it] it (λi h=>IsRangeIter h it (0+(i:Nat) * 2) ((n:Int)-(i:Nat)) 2) where
 mem:=by simp
 obj:=λi h st b hb=>by
  let e:b=it:=by simpa using hb
  subst e;exact⟨_,st,λv z=>by
   let z':Data.fields _=Data.cell v:=z;cases z'⟩
 keep:=λi h h' st k=>k it (by simp) _ st
 item:=by
  intro X hP hw hK hc i kR s σ H E I hf st hg;subst hP hw hK;let⟨f0,f1,f2,f3,f4,f5⟩:=hf it (by simp)
  let W:=Walks.range (prog:=X.prog) (w:=X.w) (I.ok.hd hc) it 0 2 n;refine W.item i s _ _ hg st λv h' tk hv st' kk=>?_;let⟨t,rfl⟩:=hv;let I1:ZJ X kR σ H { s with heap:=h',toks:=tk }:=I.turned (λb o hb e=>kk b o (by simpa using hb) e) f0 f1 f3 f4 f5
  refine⟨_,Z,Nr (s:={ s with heap:=h',toks:=tk }) (n:= "range_iterator") st' Z Z (by decide) ⟨.int (2 * (i:Nat)),H,I1,⟨t,?_⟩,⟨Z,Z⟩,st',λb hb=>(hf b hb).1⟩⟩
  rw[show (0:Int)+(i:Int) * 2=2 * (i:Nat) by lia]
 done:=by
  intro X hP hw hK hc i kR s σ H E I hf st hg;subst hP hw hK;let⟨f0,f1,f2,f3,f4,f5⟩:=hf it (by simp)
  exact wpAny_pyNext_range_end (I.ok.hd hc) st (by have:n<=i:=hg;lia) λh' eb=>⟨Z,I.turned (t':=s.toks) (λb o hb e=>eb b o hb e) f0 f1 f3 f4 f5⟩
 self:=λ_ _ _ _ _ st h=>wpAny_pyIter_rangeiter st h
section
variable{tg:Expr}
inductive Nw(R:It->Hp->Prop)(vs:jh)(H1:Hp):Prop
 |mk(n:Nat)(_:vs=[.int 0,.int (2 * (n:Nat)),.int 2])(_:n<=1000)(_:R (GY n) H1)
def AM(ta:TA):TI:=λσ H R=>ta σ H λvs H1=>Nw R vs H1
def Gi(n:Nat):Builtin.Range.rangeSize 0 (2 * (n:Nat)) 2=n:=by
 unfold Builtin.Range.rangeSize;rw[aK (by decide)]
 split
 ·lia
 ·lia
def ZP5{a b c:Expr}{ta:TA}{p pos:Pos}(hg:Gl X "range")(hm:X.mg "range" = none)(ha:PA X [a,b,c] ta)(hs:aw [a,b,c] X.env=[(false,aF a X.env),(false,aF b X.env),(false,aF c X.env)]:=by rfl)(hs2:aw [b,c] X.env=[(false,aF b X.env),(false,aF c X.env)]:=by rfl):
  PI X tg (.Call (.Name "range" p) [a,b,c] [] pos) (AM ta):=by
 intro kR s σ H R I h;refine Call_ (Pe I hg hm boot_range (PyProof.Rows.callWith_type1 (Zb (ha pos kR s σ H _ I h) λus s1 ⟨vs,H1,I1,r1,q1⟩=>?_) (by rw[hs,hs2]) (by rw[hs2];rfl)))
 let⟨n,e,hn,q⟩:=q1;subst e
 cases r1 with
 | cons r rr=>
  cases rr with
  | cons r' rr=>
   cases rr with
   | cons r2 rr=>
    cases rr;let⟨t,rfl⟩:=r;let⟨u,rfl⟩:=r';let⟨v,rfl⟩:=r2;refine call_range_3 (by decide) ?_ (.inl (PyProof.noPylong_small (by lia)))
    refine wpAny_pyIter_range (IsRange.new ..) ?_ ?_
    ·unfold Builtin.Range.small;rw[Gi];unfold Builtin.Range.rangeFitsLong;simp;lia
    ·let I2:ZJ X kR σ H1 { s1 with heap:=s1.heap.push { cls:=.type "range",data:=.fields #[.int 0 t,.int (2 * (n:Nat)) u,.int 2 v] },toks:=s1.toks }:=I1.kept λb o e=>zD _ e;refine⟨(s1.heap.push { cls:=.type "range",data:=.fields #[.int 0 t,.int (2 * (n:Nat)) u,.int 2 v] }).objs.size,[(s1.heap.push { cls:=.type "range",data:=.fields #[.int 0 t,.int (2 * (n:Nat)) u,.int 2 v] }).objs.size],_,_,H1,Z,
      I2.kept (t':=s1.toks) λb o e=>zD _ e,ZLS _ n,?_,λb hb=>?_,q⟩
     ·let e1:(0:Int)+((0:Nat):Int) * 2=0:=by simp
      let e2:((n:Nat):Int)-((0:Nat):Int)=Builtin.Range.rangeSize 0 (2 * (n:Nat)) 2:=by rw[Gi];lia
      show IsRangeIter _ _ ((0:Int)+((0:Nat):Int) * 2) (((n:Nat):Int)-((0:Nat):Int)) 2;rw[e1,e2];exact yP _ Z
     ·let e:b=(s1.heap.push { cls:=.type "range",data:=.fields #[.int 0 t,.int (2 * (n:Nat)) u,.int 2 v] }).objs.size:=by simpa using hb
      subst e;exact I2.fpOk (zX _) (I2.hok.fresh (zX _))
end
def Ez{X:Cx}{body:List Stmt}{h₀:ExceptHandler}{hs:List ExceptHandler}{t:TS}{pos:Pos}(h:VV X.nox body t):PS X (.Try body (h₀::hs) [] [] pos) t:=by
 intro kR s σ H D I hw;refine wpAny_Try_except ?_;exact ae (h kR s σ H D (I.wish _) hw) (λf s' q=>by
  cases f with
  | next=>exact wpAny_execs_nil q.unwish
  | brk=>exact q.unwish
  | cont=>exact q.unwish
  | ret u=>exact q.unwish) λ_ _ z=>False.elim z
end L2
namespace _T
open PySem PySem.Spec L2 PyProof.Rows
variable{kP kQ CS CT CH CK CP CB:aj}
def Vh(rs:jT):jM:=rs.flatMap λr=>[r.1,r.2]
def NH(rs:jT):(Vh rs).length=2 * rs.length:=by
 induction rs with
 | nil=>rfl
 | cons r rs ih=>
  show (Vh rs).length+1+1=2 * (rs.length+1);lia
def ZNv:∀(rs:jT)(i:Nat)(r:Yf),rs[i]? = some r->(Vh rs)[2 * i]? = some r.1/\(Vh rs)[2 * i+1]? = some r.2:=λrs=>by
 induction rs with
 | nil=>intro i r h;cases h
 | cons x rs ih=>
  intro i r h
  cases i with
  | zero=>cases h;exact⟨Z,Z⟩
  | succ i=>exact ih i r h
inductive Xy:Sp
 |mk{l:aj}{us:jh}{rs:jT}{v:V}{H:Hp}{Q:VK}{E:XK}:H l=some (.lst us)->kK H (Vh rs) us->rs.length<=400->(∀(H':Hp)(D:aj)(ws:jh),ZC H H'->H D=none->H' D=some (.lst ws)->kK H' (Y1 rs) ws->Q (.ref D) H')->Xy [.ref l,v] H Q E
def UJ:ZB zFa zFa (Zl IM):=⟨Z,Z,Z,by decide +kernel,Z,by decide +kernel,by decide +kernel⟩
def A4(F:Zo K "pairs_of" "pairs_of" IM f fd)(T:Txt mg):ZK P w K mg kT ZV 1 f fd zFa Xy:=by
 refine F.ok UJ (λvs H Q E h=>(by induction h;rfl)) (λcdv A outer s H vs Q E hr h=>?_)
 induction h
 rename_i l us rs v H Q E hl hk l4 k
 let nd:=UJ.nd;let lu:us.length=2 * rs.length:=by rw[<-hk.length];exact NH rs
 refine⟨_,ZO (Zt (Z3 Vs (Zs Qy (Zv Yk rfl T.len YU (ZF (pv 0) ZD)) ZL) ZL (Zu _)) (ZP WM) Zw)
  (ZP (Zk (Wx [0] ["things"] rfl (ZP5 rfl T.range (UA ZL (Zv Yk rfl T.len YU (ZF (pv 0) ZD)) ZL)) (λ_ _ _ _ _=>Wj) (λ_ _ _ _ _=>XR (ZF (Za (r:=YE K) YH (pv 1) (pv 0) (λ_ _=>rfl)) (ZF (Za (r:=YE K) YH (pv 1) (Zs Y2 (pv 0) ZL) (λ_ _=>rfl)) ZD))) ⟨rfl,.inl rfl,rfl,trivial⟩))),?_⟩
 exists _,Z,l,us,Z,.inl (ZI.of hl),_,_,Z,Z,(show (0:Int)<2 by decide),Z,_,Z
 rw[lu,show (!decide (V.int (((2 * rs.length:Nat):Int) % 2)=V.int 0))=false by rw[aI (by congr 1;lia)];rfl]
 refine Zn ⟨_,Z,l,us,Z,.inl (ZI.of hl),rs.length,by rw[lu];rfl,by lia,?_⟩
 refine Wa (n:=rs.length) (λi z=>z=.int (2 * (i:Nat))) (λD i ys H3=>ZC H H3/\H D=none/\kK H3 (Y1 (rs.take i)) ys) (YF (by lia))
  (λD i ys H3 hi hP=>hi) (λD i ys H3 z H4 hi hP hy=>hy) (λD ys H3 hP=>zX _) (λD hD=>⟨Zq hD _,hD,.nil⟩) (λD i ys H3 z eD hl' hi hz hP R hR=>?_) (λD ys H3 eD hP=>?_)
 ·let⟨s3,nD,ky⟩:=hP;subst hz;let er:rs[i]? = some rs[i]:=zV hi;let⟨f1,f2⟩:=ZNv rs i _ er;let hk3:=hk.mono (ZC.tups s3) _ _;let hl3:=s3 _ _ hl;let u1:us[2 * i]? = some (us[2 * i]'(by lia)):=zV _
  let u2:us[2 * i+1]? = some (us[2 * i+1]'(by lia)):=zV _
  let⟨t1,e1,k1⟩:=hk3.get u1;let⟨t2,e2,k2⟩:=hk3.get u2;rw[f1] at e1;rw[f2] at e2;cases e1;cases e2;refine⟨_,Z,_,Z,.inl ⟨l,_,_,_,Z,Z,ZI.of hl3,Yj u1,?_⟩⟩;let ei:(2 * (i:Nat):Int)+1=((2 * i+1:Nat):Int):=by lia
  refine⟨_,Z,_,Z,_,_,Z,Z,.inl ⟨l,_,_,_,Z,congrArg V.int ei,ZI.of hl3,Yj u2,?_⟩⟩;refine⟨nn (zR rfl),λp np=>?_⟩;let g:=Zq np (.tup [us[2 * i]'(by lia),us[2 * i+1]'(by lia)])
  let ep:=ZZ (H:=H3) (a:=p) (o:=.tup [us[2 * i]'(by lia),us[2 * i+1]'(by lia)])
  generalize upd H3 p (.tup [us[2 * i]'(by lia),us[2 * i+1]'(by lia)])=H4 at g ep⊢
  refine hR _ H4 (g _ _ eD) ⟨λb o e=>by rw[ZY (Ze e nD)];exact g _ _ (s3 _ _ e),nD,?_⟩
  let gD:YD H4 (upd H4 D (.lst (ys++[.ref p]))):=((ZG.refl D H4).upd (o:=.lst (ys++[.ref p]))).tups (g _ _ eD);let er2:Y1 (rs.take (i+1))=Y1 (rs.take i)++[.tup [rs[i].1,rs[i].2]]:=by
   rw[yW,er];unfold Y1;rw[yZ];rfl
  rw[er2];exact((ky.mono (ZC.tups g) _ _).mono gD _ _).append (.cons (.tup (gD _ _ ep) (.cons ((k1.mono (ZC.tups g) _ _).mono gD _ _) (.cons ((k2.mono (ZC.tups g) _ _).mono gD _ _) .nil))) .nil)
 ·let⟨s3,nD,ky⟩:=hP;rw[yS (zX _)] at ky;exact k H3 D ys s3 nD eD ky
inductive Xv:Sp
 |mk{a b:jK}{v:V}{H:Hp}{Q:VK}{E:XK}:32∉a->(Zm (a++32::b)).length<=ar->(∀(H':Hp)(p:aj),ZC H H'->H p=none->H' p=some (.tup [.str (Zm a),.str (Zm b)])->Q (.ref p) H')->Xv [.str (Zm (a++32::b)),v] H Q E
def UK:ZB ["row","at","parts"] zFg (Zl Ky):=⟨Z,Z,Z,by decide +kernel,Z,by decide +kernel,by decide +kernel⟩
def ZKq(F:Zo K "words_of" "words_of" Ky f fd)(T:Txt mg):ZK P w K mg kT ZV 1 f fd zFg Xv:=by
 refine F.ok UK (λvs H Q E h=>(by induction h;rfl)) (λcdv A outer s H vs Q E hr h=>?_)
 induction h
 rename_i a b v H Q E ha hl k
 let nd:=UK.nd;refine⟨_,ZO (Zt (VW (XD (Zv W0 rfl T.isi WS (ZF (pv 0) (ZF (Wt (v:=.ty "str") rfl T.str QO rfl) ZD))))) (ZP WM) Zw)
  (ZO (Zr (i:=2) nd rfl (Or.inl rfl) (WW uP qB PySem.F.type_str_partition ZNi (pv 0) (ZF YB ZD)))
  (ZP (Zk (XR (ZF (Za (r:=Zp K) ZM (pv 2) ZL (λ_ _=>rfl)) (ZF (Za (r:=Zp K) ZM (pv 2) ZL (λ_ _=>rfl)) ZD)))))),?_⟩
 exists _,Z,_,_,_,_,Z,.str _,OH,_,Z;refine Zn ?_;exists _,Z;rw[La];refine⟨Z,.mk hl Z λp np=>?_⟩;rw[A3 ha];let g:=Zq np (.tup [.str (Zm a),.str ⟨#[32]⟩,.str (Zm b)]);let ep:=ZZ (H:=H) (a:=p) (o:=.tup [.str (Zm a),.str ⟨#[32]⟩,.str (Zm b)]);generalize upd H p (.tup [.str (Zm a),.str ⟨#[32]⟩,.str (Zm b)])=H1 at g ep⊢;refine⟨_,Z,p,_,_,_,Z,Z,Zd.of ep,Z,_,Z,p,_,_,_,Z,Z,Zd.of ep,Z,nn (zR rfl),λp2 n2=>?_⟩;exact k _ p2 (g.trans (Zq n2 _)) (g.free n2) ZZ
inductive Yv:Sp
 |mk{D:aj}{kvs:List (Zi×V)}{x:Str}{u v:V}{H:Hp}{Q:VK}{E:XK}:L2.Rd H D (.dK kvs)->YM kvs (.inr x)=some v->Q v H->Yv [.ref D,.str x,u] H Q E
def BS:ZB zEk zEk (Zl Iq):=⟨Z,Z,Z,by decide +kernel,Z,by decide +kernel,by decide +kernel⟩
def Aw(F:Zo K "number_for" "number_for" Iq f fd):ZK P w K mg kT ZV 1 f fd zEk Yv:=by
 refine F.ok BS (λvs H Q E h=>(by induction h;rfl)) (λcdv A outer s H vs Q E hr h=>?_)
 induction h
 rename_i D kvs x u v H Q E dk ev q
 let hu:=Zf.key hr (n:=1) (by decide)
 exists _,ZO (Zt (Uz (IP hu (pv 1) (pv 0))) (ZP WM) Zw) (ZP (Zk (Lu hu (pv 0) (pv 1) (λ_ _=>rfl))));exact⟨_,Z,_,Z,D,some v,Z,.inl ⟨kvs,.inr x,dk,Z,ev.symm⟩,_,Z,Zn ⟨_,Z,_,Z,D,v,Z,.inl ⟨kvs,.inr x,dk,Z,ev.symm⟩,q⟩⟩
inductive Z8:Sp
 | none {D:aj} {u:V} {H:Hp} {Q:VK} {E:XK}:Q .non H->Z8 [.ref D,.str (Zm [45]),u] H Q E
 | num {D:aj} {kvs:List (Zi×V)} {x:Str} {u v:V} {H:Hp} {Q:VK} {E:XK}:L2.Rd H D (.dK kvs)->YM kvs (.inr x)=some v->x≠Zm [45]->Q v H->Z8 [.ref D,.str x,u] H Q E
def Ax:ZB zEk zEk (Zl IF):=⟨Z,Z,Z,by decide +kernel,Z,by decide +kernel,by decide +kernel⟩
def Gx:zW "-" = Zm [45]:=Qd (by decide +kernel)
def AO(F:Zo K "read_root" "read_root" IF f fd)(DN:ZA P w K mg kT 1 "number_for" zEk Yv):ZK P w K mg kT ZV 2 f fd zEk Z8:=by
 refine F.ok Ax (λvs H Q E h=>(by cases h <;> rfl)) (λcdv A outer s H vs Q E hr h=>?_)
 exists _,ZO (Zt (Z3 XE (pv 1) YB (Zu _)) (ZP (Zk Mt)) Zw) (ZP (Zk (Zc DN hr (UA (pv 0) (pv 1) (pv 2)))))
 induction h with
 | none q=>
  exists _,Z,Z,_,Z;rw[Gx,aI rfl];exact Z7 q
 | num dk ev ne q=>
  exists _,Z,Z,_,Z;rw[Gx,aH λz=>ne (V.str.inj z)];exact Zn ⟨_,Z,_,Z,_,Z,.mk dk ev q⟩
def ZNj(n:Nat)(av:Nat->jK):V3 [] n av=av:=funext λi=>aJ (by simp)
def B8(ho:Nat->Nat):Um [] ho=ho:=funext λi=>aJ (by simp)
def ZOT{gt:jK}{ts:jN}{i:Nat}{rs:jT}(g:Xn rs):Vm gt ts i (Uq rs):=
 ⟨λz=>by have:=g.2.1;rw[show (Uq rs).rows=rs from rfl] at z;rw[z] at this;simp at this,g.2.2.2,g.1,λ_=>⟨rfl,g.2.2.1⟩,λz=>absurd rfl z⟩
inductive Yb(kP kQ:aj):Sp
 |mk{X:Zx}{lk:aj}{ls:jh}{U:Nat->Prop}{g:Nat->Nat}{o:jK}{x:Str}{rs:jT}{v:V}{H:Hp}{Q:VK}{E:XK}:Sd kP kQ H X lk ls U g o->X.lv.length<=900->x.length<=ar->x.cps.toList=shownL (Vh rs)->Xn rs ->
  (∀(H':Hp)(X':Zx),Go lk H H' X X'->Sd kP kQ H' X' lk ls U g (X.ts.length::o)->X'.ts=X.ts++[Uq rs]->X'.lv=X.lv++[X.ts.length]->Q (.int (X.ts.length:Nat)) H')->Yb kP kQ [.ref X.S,.str x,v] H Q E
def ZIX:ZB zE3 zE3 (Zl HJ):=⟨Z,Z,Z,by decide +kernel,Z,by decide +kernel,by decide +kernel⟩
def ZGM(F:Zo K "read_leaf" "read_leaf" HJ f fd)(L:Y4 K mg kP kQ)(DL:ZH P w K mg kT ZV 10 kP "put_leaf" zE8 (VB kP kQ))(DP:ZA P w K mg kT 1 "pairs_of" zFa Xy)(DR:ZA P w K mg kT 11 "read_many" ["text"] YY):ZK P w K mg kT ZV 12 f fd zE3 (Yb kP kQ):=by
 refine F.ok ZIX (λvs H Q E h=>(by induction h;rfl)) (λcdv A outer s H vs Q E hr h=>?_)
 induction h
 rename_i X lk ls U g o x rs v H Q E S l9 hl hx G k
 let hr1:=hr.mono (show 1<=11 by lia)
 let hr10:=hr.mono (show 10<=11 by lia)
 exists _,ZP (Ez (ZP (Zk (XM (E:=E0) (pv 0) L.cS DL hr10 Yd (ZF (Zc DP hr1 (ZF (Zc DR hr (ZF (pv 1) ZD)) (ZF (pv 2) ZD))) ZD)))));let⟨dS,hS⟩:=S.sh.sh.self;let l4:rs.length<=4:=G.2.2.1;refine⟨_,Z,X.S,dS,_,Z,hS,Z,_,Z,.mk hl hx (λt ht=>?_) (by rw[NH];lia) λH1 D1 vs1 s1 n1 h1 k1=>⟨_,Z,.mk h1 k1 (by lia) λH2 D2 ws s2 n2 h2 k2=>?_⟩⟩
 ·let⟨r,hr,hm⟩:=vG.mp ht;let ft:=G.1 r hr;rcases zI.mp hm with z | z
  ·rw[z];exact ft.1
  ·rw[zN.mp z];exact ft.2
 let s12:=s1.trans s2;let S2:=S.same s12;refine⟨X.S,X.d,lk,D2,X.lv,X.ts,X.av,X.ho,X.as,X.kvs,ls,ws,rs,Z,S2.sh,l9,h2,k2,G,λH3 a nx nt na fr R3=>?_⟩;let G3:=(Go.same s12).trans (Eh (lk:=lk) (X:=X) (t:=Uq rs) (av':=Uf X.ts.length X.av) (ho':=Qe X.ts.length X.ho) (kvs':=Xo X.kvs (.inl (X.ts.length:Int)) (.ref a.x)) S2.sh.len S2.sh.lt (λc o n1 n2 _ e=>fr c o n1 n2 e) nx nt na);let D3:=S2.dg.put (rest:=o) S2.sh.lt (ZOT G) wW (by exact wR.refl _)
 rw[show (Uq rs).bs=[] from rfl,ZNj,B8] at D3;exact k H3 _ G3 ⟨R3,D3⟩ Z Z
abbrev Zx.held(X:Zx)(b:Nat):Zx:=⟨X.S,X.d,X.lv,X.ts,X.av,Qn X.ho b,X.as,X.kvs⟩
def GG{lk:aj}{H H':Hp}{X:Zx}{b:Nat}(hb:b∈X.lv)(fr:∀ c o,c≠(X.as.getD b .d).x->H c=some o->H' c=some o):Go lk H H' X (X.held b):=⟨Z,Z,λc o f e=>fr c o (f.2.2.2 b hb).1 e,λc o f _=>f⟩
inductive Yg(kP kQ:aj):Sp
 |mk{X:Zx}{lk l:aj}{ls:jh}{U:Nat->Prop}{g:Nat->Nat}{o bs:jK}{Lb:YI}{v:V}{H:Hp}{Q:VK}{E:XK}:Sd kP kQ H X lk ls U g o->X.lv.length<=800->(∀ b∈bs,b∈X.lv/\(X.av b).length<=800)->bs.Nodup->H l=some (.lst (iN bs))->Ya X lk l->Us (YL X.ts bs)=some Lb ->
  (∀(H':Hp)(X':Zx),Go lk H H' X X'->Sd kP kQ H' X' lk ls U g (X.ts.length::o)->X'.ts=X.ts++[Yw X.ts bs]->X'.lv=X.lv++[X.ts.length]->Q (.int (X.ts.length:Nat)) H')->Yg kP kQ [.ref X.S,.ref l,v] H Q E
def WQ:ZB ["shelf","branches","at","branch"] zE4 (Zl Js):=⟨Z,Z,Z,by decide +kernel,Z,by decide +kernel,by decide +kernel⟩
inductive Hb(kP kQ:aj)(X:Zx)(lk l:aj)(ls:jh)(U:Nat->Prop)(g:Nat->Nat)(o bs:jK)(v:V)(H:Hp):Nat->L2.St->Hp->Prop
 |mk{j:Nat}{X':Zx}{x3:ji}{H':Hp}:Go lk H H' X X'->Sd kP kQ H' X' lk ls U g ((bs.take j).reverse++o)->X'.S=X.S->X'.ts=X.ts->X'.lv=X.lv->X'.av=X.av->Hb kP kQ X lk l ls U g o bs v H j [some (.ref X.S),some (.ref l),some v,x3] H'
def An(F:Zo K "read_stem" "read_stem" Js f fd)(L:Y4 K mg kP kQ)(DH:ZH P w K mg kT ZV 2 kP "hold" zEa (WH kP kQ))(DS:ZH P w K mg kT ZV 10 kP "put_stem" zEj (XI kP kQ)):ZK P w K mg kT ZV 11 f fd zE4 (Yg kP kQ):=by
 refine F.ok WQ (λvs H Q E h=>(by induction h;rfl)) (λcdv A outer s H vs Q E hr h=>?_)
 induction h
 rename_i X lk l ls U g o bs Lb v H Q E S l8 hb bn hl ol ov k
 let nd:=WQ.nd;let hr2:=hr.mono (show 2<=10 by lia)
 refine⟨_,ZO (Xi PassesOwn.never rfl (Xu (pv 1)) (XB (i:=3) nd rfl (Or.inl rfl)) (ZP (Xd (XM (E:=E0) (pv 0) L.cS DH hr2 Yd (ZF (pv 3) ZD)))))
  (ZP (Ez (ZP (Zk (XM (E:=E0) (pv 0) L.cS DS hr Yd (ZF (pv 1) ZD)))))),?_⟩
 refine⟨_,Z,l,Z,⟨_,ZI.of hl⟩,Vt (K:=K) (a:=l) (xs:=iN bs) (Hb kP kQ X lk l ls U g o bs v H) (.mk (Go.same (ZC.refl H)) S rfl rfl rfl rfl) ?_ ?_ ?_⟩
 ·intro j σ H2 _ hI
  induction hI
  rename_i G2 _ _ _ _ _
  exact ZI.of (G2.fr _ _ ol hl)
 ·intro j u σ H2 hu hI
  induction hI
  rename_i j X2 x3 H2 G2 S2 eS et ev ea
  let⟨b,ebj,rfl⟩:=Qi hu;let bl:b∈X2.lv:=by rw[ev];exact(hb b (zG ebj)).1
  let⟨dS,hS⟩:=S2.sh.sh.self;rw[<-eS];refine⟨_,Z,X2.S,dS,_,Z,hS,Z,_,Z,.mk S2.sh bl λH3 fr3 R3=>?_⟩;rw[eS];refine .mk (X':=X2.held b) (G2.trans (GG bl fr3)) ⟨R3,?_⟩ eS et ev ea;rw[yW,ebj];show Dg _ _ _ _ _ _ ((bs.take j++[b]).reverse++o);rw[rR];exact S2.dg.hold bl
 ·intro σ H2 hI;rw[show (iN bs).length=bs.length from zY _] at hI;generalize ej:bs.length=j at hI
  induction hI
  rename_i j X2 x3 H2 G2 S2 eS et ev ea
  rw[<-ej,xK] at S2;let⟨dS,hS⟩:=S2.sh.sh.self;let pm:(bs.reverse++o).Perm (bs++o):=(uU bs).append_right o;rw[<-eS];refine⟨_,Z,X2.S,dS,_,Z,hS,Z,_,Z,X2.S,X2.d,lk,l,X2.lv,X2.ts,X2.av,X2.ho,X2.as,X2.kvs,ls,bs,Lb,Z,S2.sh,S2.dg.wf,by rw[ev];exact l8,λb h=>?_,G2.fr _ _ ol hl,by rw[et];exact ov,λH3 a nx nt na fr R3=>?_⟩
  ·let h1:=S2.dg.hs b (S2.dg.own b (pm.mem_iff.mpr (xV _ h)));let h2:0<(bs.reverse++o).count b:=vS.mpr (pm.mem_iff.mpr (xV _ h));exact⟨by rw[ev];exact(hb b h).1,by lia,by rw[ea];exact(hb b h).2⟩
  ·let D3:=S2.dg.put (rest:=o) S2.sh.lt (ZLb S2.dg.wf (λb h=>by rw[ev];exact(hb b h).1) (by rw[et];exact ov)) bn pm
   let G3:=G2.trans (Eh (lk:=lk) (X:=X2) (t:=Yw X2.ts bs) (av':=V3 bs X2.ts.length (Uf X2.ts.length X2.av)) (ho':=Um bs (Qe X2.ts.length X2.ho)) (kvs':=Xo X2.kvs (.inl (X2.ts.length:Int)) (.ref a.x)) S2.sh.len S2.sh.lt fr nx nt na);rw[<-et,<-ev] at k;exact k H3 _ G3 ⟨R3,D3⟩ Z Z
def K8:zW "leaf" = Zm [108,101,97,102]:=Qd (by decide +kernel)
def Ey:zW "stem" = Zm [115,116,101,109]:=Qd (by decide +kernel)
def ZOo{X:Cx}{ss:List Stmt}:VV X ss (λ_ _ _=>False):=λ_ _ _ _ _ _ h=>h.elim
inductive Z9(kP kQ:aj):Sp
 | leaf {X:Zx} {lk p D:aj} {ls:jh} {U:Nat->Prop} {g:Nat->Nat} {o:jK} {x:Str} {rs:jT} {v:V} {H:Hp} {Q:VK} {E:XK}:H p=some (.tup [.str (Zm [108,101,97,102]),.str x])->Sd kP kQ H X lk ls U g o->X.lv.length<=800->x.length<=ar->x.cps.toList=shownL (Vh rs)->Xn rs ->
  (∀(H':Hp)(X':Zx),Go lk H H' X X'->Sd kP kQ H' X' lk ls U g (X.ts.length::o)->X'.ts=X.ts++[Uq rs]->X'.lv=X.lv++[X.ts.length]->Q (.int (X.ts.length:Nat)) H')->Z9 kP kQ [.ref X.S,.ref D,.ref p,v] H Q E
 | stem {X:Zx} {lk p D:aj} {ls:jh} {U:Nat->Prop} {g:Nat->Nat} {o bs:jK} {l:List (jK)} {kvs:List (Zi×V)} {Lb:YI} {v:V} {H:Hp} {Q:VK} {E:XK}:H p=some (.tup [.str (Zm [115,116,101,109]),.str (Zm (jn l))])->l≠[]->(∀ t∈l,32∉t)->(Zm (jn l)).length+2<=ar->l.length<=900->bs.length=l.length->H D=some (.dK kvs)->(∀(i:Nat)(b:Nat)(t:jK),bs[i]? = some b->l[i]? = some t->YM kvs (.inr (Zm t))=some (.int (b:Nat))) ->
  Sd kP kQ H X lk ls U g o->X.lv.length<=800->(∀ b∈bs,b∈X.lv/\(X.av b).length<=800)->bs.Nodup->Us (YL X.ts bs)=some Lb ->
  (∀(H':Hp)(X':Zx),Go lk H H' X X'->Sd kP kQ H' X' lk ls U g (X.ts.length::o)->X'.ts=X.ts++[Yw X.ts bs]->X'.lv=X.lv++[X.ts.length]->Q (.int (X.ts.length:Nat)) H')->Z9 kP kQ [.ref X.S,.ref D,.ref p,v] H Q E
def Cp:ZB zEq zEq (Zl IL):=⟨Z,Z,Z,by decide +kernel,Z,by decide +kernel,by decide +kernel⟩
def A6(F:Zo K "read_twig" "read_twig" IL f fd)(DL:ZA P w K mg kT 12 "read_leaf" zE3 (Yb kP kQ))(DS:ZA P w K mg kT 11 "read_stem" zE4 (Yg kP kQ))(DN:ZA P w K mg kT 1 "number_for" zEk Yv):ZK P w K mg kT ZV 13 f fd zEq (Z9 kP kQ):=by
 refine F.ok Cp (λvs H Q E h=>(by cases h <;> rfl)) (λcdv A outer s H vs Q E hr h=>?_)
 let hr1:=hr.mono (show 1<=12 by lia)
 let hr11:=hr.mono (show 11<=12 by lia)
 refine⟨_,ZO (Zt (Z3 XE (Za (r:=Zp K) ZM (pv 2) ZL (λ_ _=>rfl)) YB (Zu _)) (ZP (Zk (Zc DL hr (UA (pv 0) (Za (r:=Zp K) ZM (pv 2) ZL (λ_ _=>rfl)) (pv 3))))) Zw)
  (ZO (Zt (Z3 XE (Za (r:=Zp K) ZM (pv 2) ZL (λ_ _=>rfl)) YB (Zu _)) (ZP (Zk (Zc DS hr11 (UA (pv 0) (Wx [1,3] ["numbers","at"] rfl (Xu (WW uP sX PySem.F.type_str_split ZLf (Za (r:=Zp K) ZM (pv 2) ZL (λ_ _=>rfl)) (ZF YB ZD))) (λ_ _ _ _ _=>Wj) (λ_ _ _ _ _=>Zc DN hr1 (UA (pv 1) (pv 0) (pv 2))) ⟨rfl,.inl rfl,rfl,rfl,.inl rfl,rfl,trivial⟩) (pv 3))))) Zw)
  ZOo),?_⟩
 induction h with
 | leaf hp S l8 hl hx G k=>
  exists _,Z,_,_,_,_,Z,Z,Zd.of hp,Z,Z,_,Z;rw[K8,aI rfl];exact Z7 ⟨_,Z,_,Z,_,_,_,_,Z,Z,Zd.of hp,Z,_,Z,.mk S (by lia) hl hx G k⟩
 | stem hp nl fl hl l9 bl dk nums S l8 hb bn ov k=>
  rename_i X lk p D ls U g o bs l kvs Lb v H Q E
  exists _,Z,p,_,_,_,Z,Z,Zd.of hp,Z,Z,_,Z;rw[K8,aH (λz=>absurd (V.str.inj z) (by decide))]
  refine Zn ⟨_,Z,p,_,_,_,Z,Z,Zd.of hp,Z,Z,_,Z,?_⟩;rw[Ey,aI rfl];refine Z7 ⟨_,Z,_,Z,p,_,_,_,Z,Z,Zd.of hp,Z,Z,?_⟩;rw[La];refine .mk hl Z λD1 n1=>?_;rw[ZK5 nl fl];let g1:=Zq n1 (.lst ((l.map Zm).map V.str));let h1:=ZZ (H:=H) (a:=D1) (o:=.lst ((l.map Zm).map V.str));generalize upd H D1 (.lst ((l.map Zm).map V.str))=H1 at g1 h1⊢;let lm:((l.map Zm).map V.str).length=l.length:=by rw[zY,zY]
  refine⟨D1,Z,⟨_,ZI.of h1⟩,Wa (n:=l.length) (λi z=>((l.map Zm).map V.str)[i]? = some z) (λD i ys H3=>ZC H1 H3/\H1 D=none/\ys=iN (bs.take i)) (YF (by lia))
   (λD i ys H3 hi hP=>⟨_,((l.map Zm).map V.str)[i]'(by lia),ZI.of (hP.1 _ _ h1),zV _⟩) (λD i ys H3 z H4 hi hP hy=>⟨hy.1,hy.2 _ (ZI.of (hP.1 _ _ h1))⟩) (λD ys H3 hP=>⟨_,ZI.of (hP.1 _ _ h1),by rw[lm];exact zX _⟩)
   (λD hD=>⟨Zq hD _,hD,Z⟩) (λD2 i ys H3 z eD hl' hi hz hP R hR=>?_) (λD2 ys H3 eD hP=>?_)⟩
  ·let⟨s3,nD,rfl⟩:=hP;rw[zC,zC] at hz;let et:l[i]? = some l[i]:=zV hi;let eb:bs[i]? = some (bs[i]'(by lia)):=zV _
   rw[et] at hz;cases hz;refine⟨_,Z,_,Z,_,Z,.mk (.inl (s3 _ _ (g1 _ _ dk))) (nums i _ _ eb et) (hR _ H3 eD ⟨Uh s3 nD,nD,?_⟩)⟩;rw[yW,eb];unfold iN;rw[yZ];rfl
  ·let⟨s3,nD,rfl⟩:=hP;rw[yS (by lia)] at eD
   let s13:=g1.trans s3;exact⟨_,Z,.mk (S.same s13) l8 hb bn eD (S.sh.new (g1.free nD)) ov λH4 X4 G4 S4 e4 v4=>k H4 X4 ((Go.same s13).trans G4) S4 e4 v4⟩
section
variable{kP kQ CTb:aj}
inductive VG(kP kQ:aj):Sp
 |mk{X:Zx}{lk:aj}{ls:jh}{U:Nat->Prop}{g:Nat->Nat}{o:jK}{r:jQ}{H:Hp}{Q:VK}{E:XK}:Sd kP kQ H X lk ls U g o->(∀ i,r=some i->i∈X.lv) ->
  (∀(H':Hp)(X':Zx),Go lk H H' X X'->Sd kP kQ H' X' lk ls U g (r.toList++o)->X'.ts=X.ts->X'.lv=X.lv->Q (Yn r) H')->VG kP kQ [.ref X.S,Yn r] H Q E
def ZOk:ZB zEc zEc (Zl Ih):=⟨Z,Z,Z,by decide +kernel,Z,by decide +kernel,by decide +kernel⟩
def BN(F:Zo K "held" "held" Ih f fd)(L:Y4 K mg kP kQ)(DH:ZH P w K mg kT ZV 2 kP "hold" zEa (WH kP kQ)):ZK P w K mg kT ZV 3 f fd zEc (VG kP kQ):=by
 refine F.ok ZOk (λvs H Q E h=>(by induction h;rfl)) (λcdv A outer s H vs Q E hr h=>?_)
 induction h
 rename_i X lk ls U g o r H Q E S hi q
 exists _,ZO (Zt (Uz (Mv (pv 1))) (ZP (Xd (XM (E:=E0) (pv 0) L.cS DH hr Yd (ZF (pv 1) ZD)))) Zw) (ZP (Zk (pv 1)))
 cases r with
 | none=>exact⟨_,Z,_,Z,Zn ⟨_,Z,q H X (Go.same (ZC.refl H)) S Z Z⟩⟩
 | some b=>
  let hb:=hi b Z;let⟨dS,hS⟩:=S.sh.sh.self;exact⟨_,Z,_,Z,Z7 ⟨_,Z,X.S,dS,_,Z,hS,Z,_,Z,.mk S.sh hb λH1 fr R1=>⟨_,Z,q H1 (X.held b) (GG hb fr) ⟨R1,S.dg.hold hb⟩ Z Z⟩⟩⟩
end
inductive YR(kP kQ:aj):Sp
 |mk{X:Zx}{lk:aj}{ls:jh}{r:jQ}{H:Hp}{Q:VK}{E:XK}:YN kP kQ H X.S X.d lk X.lv X.ts X.av X.ho X.as X.kvs ls->(∀ i,r=some i->i∈X.lv/\1<=X.ho i)->(∀ H',ZC H H'->Q .non H')->YR kP kQ [.ref X.S,Yn r] H Q E
def ZGt:ZB zEc zEc (Zl KR):=⟨Z,Z,Z,by decide +kernel,Z,by decide +kernel,by decide +kernel⟩
def Aq(F:Zo K "check_root" "check_root" KR f fd)(L:Y4 K mg kP kQ)(DC:ZH P w K mg kT ZV 3 kP "check_held" zEj (Z5 kP kQ)):ZK P w K mg kT ZV 4 f fd zEc (YR kP kQ):=by
 refine F.ok ZGt (λvs H Q E h=>(by induction h;rfl)) (λcdv A outer s H vs Q E hr h=>?_)
 induction h
 rename_i X lk ls r H Q E R hr0 q
 exists _,ZP (Zt (Uz (Mv (pv 1))) (ZP (Xd (XM (E:=E0) (pv 0) L.cS DC hr Yd (ZF (Yo (ZF (pv 1) ZD)) ZD)))) Zw)
 cases r with
 | none=>exact⟨_,Z,_,Z,Zn (q H (ZC.refl H))⟩
 | some i=>
  let⟨hi,h1⟩:=hr0 i Z;let⟨dS,hS⟩:=R.sh.self;refine⟨_,Z,_,Z,Z7 ⟨_,Z,X.S,dS,_,Z,hS,Z,_,Z,nn (zR rfl),λp1 n1=>?_⟩⟩;let g1:=Zq n1 (.lst [.int (i:Int)]);let R1:=R.same g1;let⟨dS1,hS1⟩:=R1.sh.self;exact⟨X.S,p1,[(i:Int)],Z,ZZ,⟨dS1,_,hS1,Z⟩,λn hn=>by
   rw[zN.mp hn];exact⟨X.d,lk,X.ts.length,X.kvs,ls,_,_,_,_,_,_,⟨R1.sh,R1.val i hi,(R1.tw i hi).tw⟩,h1⟩,q _ g1⟩
def GS:jP->(jg->Prop)->Prop
 | [],p=>p []
 | _::j,p=>∀ a,GS j λl=>p (a::l)
def Ea(j:jP):∀(p:jg->Prop),GS j p->∀ us:jg,us.length=j.length->p us:=by
 induction j with
 | nil=>intro p h us e;cases us;exact h;cases e
 | cons x j ih=>intro p h us e;cases us;cases e;exact ih _ (h _) _ (Nat.succ.inj e)
structure V9(K:zZ)(x qual:Str)(st:Stmt)(f:aj)(fd:ap):Prop where
 ex:∃(oc:ai)(od:jY)(dT:aj)(kV doc pm:ai)(an:jY)(cdv ct:ai)(jD:Array (jf))(o:aG)(n:Nat),
  fd=yF x qual (UH st) (Vl st) (Zl st) (.ref dT) kV doc pm an cdv ct/\K.lookup f=some ⟨oc,od,.func fd,jD⟩/\wN K cdv qual=true/\K.lookup dT=some o/\o.data=.seq #[.none] n
 kp:xZ K (.ref f)=true
section
variable{kP kQ CTb CK:aj}
def V9.go{x qual:Str}{st:Stmt}{f:aj}{fd:ap}{N ps:jP}{k:Nat}{sp:Sp}(F:V9 K x qual st f fd)(S:ZB N ps (Zl st))(len:∀ vs H Q E,sp vs H Q E->vs.length=ps.length)(jr:∀ (cdv:ai) (A:ay) (outer:kg) (s:am) (H:Hp) (vs:jh) (Q:VK) (E:XK),Zf k (A.deeper (envOfC qual (Zl st) s.heap.objs.size f cdv))->sp vs H Q E ->
   ∃ t,VV (Pm ZV P w K mg kT N qual (Zl st) f cdv A outer s H E).nox (Vl st) t/\t { nx:=λ_ H'=>Q .non H',rt:=Q } (Qq N vs) H):ZK P w K mg kT ZV (k+1) f fd ps sp:=by
 let⟨oc,od,dT,kV,doc,pm,an,cdv,ct,jD,o,n,rfl,lk,jA,_⟩:=F.ex;refine F8 lk jA S len λA outer s H vs Q E hr jC=>?_;let⟨t,h,q⟩:=jr cdv A outer s H vs Q E hr jC;exact⟨t,h.nox,q⟩
abbrev Pz:Stmt:=Wc (top 61) 0
def V9.binds{f:aj}{fd:ap}(F:V9 K "__init__" "Table.__init__" Pz f fd):Zz K fd zEt []/\Zz K fd zEt [.none]:=by
 let⟨oc,od,dT,kV,doc,pm,an,cdv,ct,jD,o,n,rfl,lk,jA,ho,hs⟩:=F.ex;refine⟨λs us X hl=>?_,λs us X hl=>?_⟩
 ·let h2:us.length=3:=by simpa using hl
  clear hl
  revert us
  exact Ea ["","",""] _ λa b c=>PySem.W.binds_K X Z ho hs Z Z
 ·let h2:us.length=2:=by simpa using hl
  clear hl
  revert us
  exact Ea ["",""] _ λa b=>PySem.W.binds_K X Z ho hs Z Z
structure OM(K:zZ)(mg:jd)(CTb:aj):Prop where
 tab:mg "Table" = some (.ref CTb)
 cT:Va K CTb
 ns:Z2 K CTb "shelf"
 nr:Z2 K CTb "root"
abbrev PU(S:aj)(r:jQ):List (Str×V):=[("shelf",.ref S),("root",Yn r)]
inductive Xt(CTb:aj)(H:Hp)(T S:aj)(r:jQ):Prop
 |mk(dx:_)(_:H T=some (.ins CTb dx (PU S r)))
structure Kq(P:ao)(w:ax)(K:zZ)(mg:jd)(kT:aD)(k:Nat)(C:aj)(ps:jP)(sp:Sp):Prop where
 ex:∃ f fd,Mk K C f/\ZK P w K mg kT ZV k f fd ps sp/\Zz K fd ps []/\Zz K fd ps [.none]
inductive WR(kP kQ CTb:aj):Sp
 |mk{x dx:aj}{X:Zx}{lk:aj}{ls:jh}{r:jQ}{H:Hp}{Q:VK}{E:XK}:H x=some (.ins CTb dx [])->x≠X.S->YN kP kQ H X.S X.d lk X.lv X.ts X.av X.ho X.as X.kvs ls->(∀ i,r=some i->i∈X.lv/\1<=X.ho i) ->
  (∀ H',(∀ b o,b≠x->H b=some o->H' b=some o)->Xt CTb H' x X.S r->Q .non H')->WR kP kQ CTb [.ref x,.ref X.S,Yn r] H Q E
def ZPz:ZB zEt zEt (Zl Pz):=⟨Z,Z,Z,by decide +kernel,Z,by decide +kernel,by decide +kernel⟩
def ZNz(F:V9 K "__init__" "Table.__init__" Pz f fd)(L:OM K mg CTb)(DC:ZA P w K mg kT 4 "check_root" zEc (YR kP kQ)):ZK P w K mg kT ZV 5 f fd zEt (WR kP kQ CTb):=by
 refine V9.go F ZPz (λvs H Q E h=>(by induction h;rfl)) (λcdv A outer s H vs Q E hr h=>?_)
 induction h
 rename_i x dx X lk ls r H Q E hx xS R hr0 q
 exists _,ZO (Xd (Zc DC hr (ZF (pv 1) (ZF (pv 2) ZD)))) (ZO (U3 (pv 0) (pv 1) rfl) (ZP (U3 (pv 0) (pv 2) rfl)));refine⟨_,Z,_,Z,.mk R hr0 λH1 s1=>?_⟩;exists _,Z,_,Z,x,CTb,dx,_,Z,s1 _ _ hx,L.cT,L.ns,zR Z;exists _,Z,_,Z,x,CTb,dx,_,Z,ZZ,L.cT,L.nr,zR Z;rw[O7];exact q _ (λb o n e=>by rw[ZY n];exact s1 _ _ e) ⟨dx,ZZ⟩
def ZO4{X:Cx}{k:Nat}{C:aj}{x:Str}{ps:jP}{sp:Sp}{e:Expr}{es:jU}{t:TA}{p pos:Pos}(D:Kq X.prog X.w X.K X.mg X.base k C ps sp)(hr:Zf (k+1) X.A)(hg:Gl X x)(hm:X.mg x=some (.ref C))(ha:PA X (e::es) t)(jy:(x==("__debug__" : Str))=false:=by decide)(he:aw (e::es) X.env=(false,aF e X.env)::aw es X.env:=by rfl)(jp:(aE pos (aw es X.env)).any (·.1)=false:=by rfl):
  PE X (.Call (.Name x p) (e::es) [] pos) (Nc C sp [] E0 t):=by
 let⟨f,fd,M,F,b,_⟩:=D.ex;exact Fj M F hr hg hm b .nil Yd ha jy he jp
end
section
variable{kP kQ CTb:aj}
end
def UM(ts:jN):jQ->jT
 | none=>[]
 | some i=>(gd ts i).rows
def Ym{H:Hp}{p:aj}(h:H p=none)(o:HO):∃ H1,L2.upd H p o=H1/\ZC H H1/\H1 p=some o:=⟨_,Z,Zq h o,ZZ⟩
def EC{n m:Nat}(h:2 ^ n<=m)(hm:m<=200):n<=7:=by
 rcases xQ n 8 with z | z
 ·lia
 ·have:2 ^ 8<=2 ^ n:=Nat.pow_le_pow_right (by decide) z
  have:(2:Nat) ^ 8=256:=by decide
  lia
section
variable{kP kQ:aj}{H H':Hp}{X:Zx}{lk:aj}{ls ls':jh}{U:Nat->Prop}{g:Nat->Nat}{o:jK}{r:jQ}
def Sd.hi(t:Sd kP kQ H X lk ls U g (r.toList++o)):∀ i,r=some i->i∈X.lv:=λi e=>t.dg.own i (by rw[e];simp)
def Sd.low(t:Sd kP kQ H X lk ls U g (r.toList++o))(hm:(UM X.ts r).length<=200):∀ i,r=some i->(gd X.ts i).h<=7:=λi e=>by
 let hi:=t.hi i e;subst e;exact EC (Ka t.dg.wf _ i hi Z) hm
def Sd.of(t:Sd kP kQ H X lk ls U g o)(R:Wp kP kQ H' X lk X.ts.length ls'):Sd kP kQ H' X lk ls' U g o:=⟨⟨R.sh,t.sh.lt,t.sh.keys,t.sh.val,t.sh.len,R.tw,t.sh.own,t.sh.two⟩,t.dg⟩
def Sd.fit(t:Sd kP kQ H X lk ls U g (r.toList++o)):∀ x∈UM X.ts r,x.fit:=by
 cases r with
 | none=>intro x hx;cases hx
 | some i=>exact(t.dg.wf i (t.hi i rfl)).inn
end
def Sd.held{kP kQ:aj}{H:Hp}{X:Zx}{lk:aj}{ls:jh}{U:Nat->Prop}{g:Nat->Nat}{o:jK}{r:jQ}(t:Sd kP kQ H X lk ls U g (r.toList++o)):∀ i,r=some i->1<=X.ho i:=λi e=>by
 let m:i∈r.toList++o:=by rw[e];simp
 rw[t.dg.hs i (t.dg.own i m)];have:=vS.mpr m;lia
def YN.fr{kP kQ:aj}{H H':Hp}{X:Zx}{lk:aj}{ls:jh}(R:YN kP kQ H X.S X.d lk X.lv X.ts X.av X.ho X.as X.kvs ls)(m:YD H H')(fr:∀ b o,¬ Ya X lk b->H b=some o->H' b=some o):YN kP kQ H' X.S X.d lk X.lv X.ts X.av X.ho X.as X.kvs ls:=by
 let⟨⟨dS,hS⟩,hd,hl⟩:=R.sh;refine⟨⟨⟨dS,fr _ _ (λz=>z.1 Z) hS⟩,fr _ _ (λz=>z.2.1 Z) hd,fr _ _ (λz=>z.2.2.1 Z) hl⟩,R.lt,R.keys,R.val,R.len,λi hi=>?_,R.own,R.two⟩;exact(R.tw i hi).frame m (λo e=>fr _ _ (λz=>(z.2.2.2 i hi).1 Z) e) (λo e=>fr _ _ (λz=>(z.2.2.2 i hi).2.2 Z) e) (λo e=>fr _ _ (λz=>(z.2.2.2 i hi).2.1 Z) e)
def Sd.fr{kP kQ:aj}{H H':Hp}{X:Zx}{lk:aj}{ls:jh}{U:Nat->Prop}{g:Nat->Nat}{o:jK}(S:Sd kP kQ H X lk ls U g o)(m:YD H H')(fr:∀ b o,¬ Ya X lk b->H b=some o->H' b=some o):Sd kP kQ H' X lk ls U g o:=⟨S.sh.fr m fr,S.dg⟩
section
variable{lv:jK}{ts:jN}{av av':Nat->jK}{ho ho':Nat->Nat}{U:Nat->Prop}{g:Nat->Nat}{o:jK}{i:Nat}
def Dg.congr(D:Dg lv ts av ho U g o)(k:∀ b∈lv,(av' b).Nodup/\∀ p,p∈av' b ↔ p∈av b)(kh:∀ b∈lv,ho' b=ho b):Dg lv ts av' ho' U g o:=
 ⟨D.wf,D.nd,λb hb=>(k b hb).1,λb hb p=>((k b hb).2 p).trans (D.ave b hb p),λb hb=>(kh b hb).trans (D.hs b hb),D.own,D.u⟩
structure Pd(lv:jK)(ts:jN)(av:Nat->jK)(ho:Nat->Nat)(U:Nat->Prop)(g:Nat->Nat)(o:jK):Prop where
 dg:∃ a,Dg lv ts a ho U g o
 nd:∀ b∈lv,(av b).Nodup
 av:∀ b∈lv,∀ p∈lv,p∈av b ↔ b∈(gd ts p).bs
def Pd.of(D:Dg lv ts av ho U g o):Pd lv ts av ho U g o:=⟨⟨av,D⟩,D.avn,λb hb p hp=>(D.ave b hb p).trans (and_iff_right hp)⟩
def Pd.to(P:Pd lv ts av ho U g o)(h:∀ b∈lv,∀ p∈av b,p∈lv):Dg lv ts av ho U g o:=by
 let⟨a,D⟩:=P.dg;refine D.congr (λb hb=>⟨P.nd b hb,λp=>⟨λy=>?_,λy=>?_⟩⟩) λb _=>rfl
 ·let hp:=h b hb p y;exact(D.ave b hb p).mpr ⟨hp,(P.av b hb p hp).mp y⟩
 ·let⟨hp,hx⟩:=(D.ave b hb p).mp y;exact(P.av b hb p hp).mpr hx
def Pd.gone(P:Pd lv ts av ho U g o)(hi:i∈lv)(e:av i=[])(h0:ho i=0):Pd (lv.erase i) ts av ho U g o:=by
 let⟨a,D⟩:=P.dg;let me:∀{c:Nat},c∈lv.erase i ↔ c≠i/\c∈lv:=D.nd.mem_erase_iff;let ea:a i=[]:=List.eq_nil_iff_forall_not_mem.mpr λp hp=>by
  let⟨h1,h2⟩:=(D.ave i hi p).mp hp;have:=(P.av i hi p h1).mpr h2;rw[e] at this;cases this
 let tx:Tp a (Qn ho i) i:=⟨ea,by show (if i=i then ho i+1 else ho i)=1;rw[aK rfl,h0]⟩
 let eh:∀ b,VZ (Qn ho i) i b=ho b:=λb=>by
  unfold VZ Qn;by_cases y:b=i
  ·rw[aK y,y,aK rfl];lia
  ·rw[aJ y,aJ y]
 exact⟨⟨_,((D.hold hi).drop tx).congr (λb hb=>⟨((D.hold hi).drop tx).avn b hb,λp=>Iff.rfl⟩) λb _=>(eh b).symm⟩,λb hb=>P.nd b (me.mp hb).2,λb hb p hp=>P.av b (me.mp hb).2 p (me.mp hp).2⟩
end
inductive Y5(n:Nat)(kP kQ:aj):Sp
 |mk{S d lk:aj}{lv:jK}{ts:jN}{av:Nat->jK}{ho:Nat->Nat}{as:kf}{kvs:List (Zi×V)}{ls:jh}{U:Nat->Prop}{g:Nat->Nat}{o:jK}{i:Nat}{H:Hp}{Q:VK}{E:XK}:YN kP kQ H S d lk lv ts av ho as kvs ls->Pd lv ts av ho U g o->i∈lv->(gd ts i).h<n ->
  (∀(H':Hp)(lv':jK)(kvs':List (Zi×V))(av':Nat->jK),(∀ c o,c≠d->(∀ b∈lv,c≠(as.getD b .d).ab)->H c=some o->H' c=some o)->lv'.Sublist lv->(∀ b∈lv,∀ p∈av b,p∉lv->b∈lv')->(∀ b∈lv',∀ p,p∉lv->(p∈av' b ↔ p∈av b))->(∀ b∈lv',∀ p∈av' b,p∈lv->p∈lv')->Pd lv' ts av' ho U g o->((∀ b∈lv,b≠i->0<(av b).length+ho b)->∀ b∈lv',0<(av' b).length+ho b)->(0<(av i).length+ho i->lv'=lv/\av'=av)->YN kP kQ H' S d lk lv' ts av' ho as kvs' ls->Q .non H')->Y5 n kP kQ [.ref S,.int (i:Nat)] H Q E
inductive Gc(kP kQ S d lk:aj)(lv:jK)(ts:jN)(av:Nat->jK)(ho:Nat->Nat)(as:kf)(ls:jh)(U:Nat->Prop)(g:Nat->Nat)(o:jK)(i:Nat)(H:Hp):Nat->L2.St->Hp->Prop
 |mk{j:Nat}{x3:ji}{lv2:jK}{av2:Nat->jK}{kvs2:List (Zi×V)}{H2:Hp}:(∀ c o,c≠d->(∀ b∈lv,c≠(as.getD b .d).ab)->H c=some o->H2 c=some o)->lv2.Sublist (lv.erase i)->(∀ b∈lv,∀ p∈av b,p∉lv->b∈lv2)->(∀ b∈lv2,∀ p,p∉lv->(p∈av2 b ↔ p∈av b))->(∀ b∈lv2,∀ p∈av2 b,p∈lv->p∈lv2\/p=i/\b∈(gd ts i).bs.drop j)->(∀ b∈(gd ts i).bs.drop j,b∈lv2/\i∈av2 b)->Pd lv2 ts av2 ho U g o->((∀ b∈lv,b≠i->0<(av b).length+ho b)->∀ b∈lv2,0<(av2 b).length+ho b)->YN kP kQ H2 S d lk lv2 ts av2 ho as kvs2 ls->Gc kP kQ S d lk lv ts av ho as ls U g o i H j [some (.ref S),some (.int (i:Nat)),some (.ref (as.getD i .d).x),x3] H2
def BZ{n:Nat}(F:Zo K "drop_unheld" "Shelf.drop_unheld" Lo f fd)(L:Y4 K mg kP kQ)(DH:ZH P w K mg kT ZV 2 kP "holders" zEa (Xg kP kQ λ_ ho us=>.int ((us.length:Nat)+(ho:Nat):Int)))(DT:ZH P w K mg kT ZV 1 kP "twig_of" zEa (Z0 kP))(DS:ZA P w K mg kT 1 "is_stem" ["twig"] (X7 kQ))(DR:ZH P w K mg kT ZV (n+3) kP "drop_unheld" zEa (Y5 n kP kQ)):ZK P w K mg kT ZV (n+4) f fd zEa (Y5 (n+1) kP kQ):=by
 refine F.ok QT (λvs H Q E h=>(by induction h;rfl)) (λcdv A outer s H vs Q E hr h=>?_)
 induction h
 rename_i S d lk lv ts av ho as kvs ls U g o i H Q E R Pp hi hn k
 let nd:=QT.nd;let hr1:=hr.mono (show 1<=n+3 by lia)
 let hr2:=hr.mono (show 2<=n+3 by lia)
 refine⟨_,ZO (Zt (Z3 PB (XM (E:=E0) (pv 0) L.cS DH hr2 Yd (ZF (pv 1) ZD)) ZL (Zu _)) (ZP ZNX) Zw)
  (ZO (Zr (i:=2) nd rfl (Or.inl rfl) (ZLl (X5 (pv 0) rfl) (pv 1) ⟨rfl,rfl,rfl,rfl⟩))
  (ZP (Zt (XD (Zc DS hr1 (ZF (pv 2) ZD)))
   (ZP (Xi PassesOwn.never rfl (Xu (X5 (pv 2) rfl)) (XB (i:=3) nd rfl (Or.inl rfl))
    (ZO (Xd (WW yB PySem.F.slot_list_remove PySem.F.type_list_remove ZKb (X5 (XM (E:=E0) (pv 0) L.cS DT hr1 Yd (ZF (pv 3) ZD)) rfl) (ZF (pv 1) ZD)))
    (ZP (Xd (XM (E:=E0) (pv 0) L.cS DR hr Yd (ZF (pv 3) ZD))))))) Zw))),?_⟩
 let⟨dx,hS⟩:=R.sh.self;let W:=R.tw i hi;let⟨dt,hx⟩:=W.tw.self;let lI:(iN (av i)).length=(av i).length:=zY _;exists _,Z,S,dx,_,Z,hS,Z,_,Z,S,d,lk,ts.length,kvs,ls,(i:Int),_,_,_,_,_,_,Z,⟨R.sh,R.val i hi,W.tw⟩;exists _,_,Z,Z,_,Z;by_cases hh:0<(av i).length+ho i
 ·rw[aI (show (((iN (av i)).length:Nat)+(ho i:Nat):Int) > 0 by rw[lI];lia)]
  exact Z7 (k H lv kvs av (λc o _ _ e=>e) (zEO.refl _) (λb hb _ _ _=>hb) (λ_ _ _ _=>Iff.rfl) (λ_ _ _ _ y=>y) Pp (λkk b hb=>if z:b=i then z ▸ hh else kk b hb z) (λ_=>⟨Z,Z⟩) R)
 let ea:av i=[]:=vI (by lia)
 let h0:ho i=0:=by lia
 rw[aH (show ¬ (((iN (av i)).length:Nat)+(ho i:Nat):Int) > 0 by rw[lI,ea,h0];simp)]
 refine Zn ?_;let hd:=R.sh.kept;let⟨a0,D0⟩:=Pp.dg;let lnd:=D0.nd;let me:∀{c:Nat},c∈lv.erase i ↔ c≠i/\c∈lv:=lnd.mem_erase_iff;exists _,Z,S,kP,dx,_,.ref d,Z,hS,L.cS,L.nk,Z,d,Z,.inl ⟨kvs,L2.Rd.of hd⟩,_,Z,kvs,.inl (i:Int),.ref (as.getD i .d).x,hd,Z,R.val i hi;let fr:∀ b o,b≠d->H b=some o->upd H d (.dK (WV kvs (.inl (i:Int)))) b=some o:=λb o n e=>by rw[ZY n];exact e
 let R1:=R.gone (i:=i) lnd;let⟨us,th1,th2,th3⟩:=W.things;let⟨q,k0,k1,eq,tg1,_,_⟩:=W.tag;let eq:(as.getD i .d).tg=q:=V.ref.inj eq;generalize upd H d (.dK (WV kvs (.inl (i:Int))))=H1 at fr R1⊢;let hx1:=fr _ _ (Zg hx hd (by intro z;cases z)) hx
 let ab1:=fr _ _ (Zg W.tw.above hd (by intro z;cases z)) W.tw.above
 let tg2:=fr _ _ (Zg tg1 hd (by intro z;cases z)) tg1
 let br:∀ b∈(gd ts i).bs,b∈lv.erase i/\i∈av b:=λb hb=>by
  let⟨b1,b2,_⟩:=Lh D0.wf hi hb;exact⟨me.mpr ⟨λz=>by rw[z] at b2;lia,b1⟩,(Pp.av b b1 i hi).mpr hb⟩
 let keep0:∀ b∈lv,∀ p∈av b,p∉lv->b∈lv.erase i:=λb hb p hp _=>me.mpr ⟨λz=>(by rw[z,ea] at hp;cases hp),hb⟩
 let P1:=Pp.gone hi ea h0;exists _,Z,(as.getD i .d).x,.ref (as.getD i .d).th,(as.getD i .d).tg,(as.getD i .d).ab,ho i,_,_,_,Z,⟨⟨dt,hx1⟩,ab1⟩,by rw[eq];exact tg2,_,Z
 by_cases hz:(gd ts i).h=0
 ·rw[aH (show ¬ (YW (gd ts i)).h > 0 by show ¬ ((gd ts i).h:Int) > 0;lia)]
  refine Zn (k H1 _ (WV kvs (.inl (i:Int))) av (λc o n _ e=>fr c o n e) List.erase_sublist keep0 (λ_ _ _ _=>Iff.rfl) (λb hb p hp y=>me.mpr ⟨λz=>?_,y⟩) P1 (λkk b hb=>kk b (me.mp hb).2 (me.mp hb).1) (λy=>absurd y hh) R1);have:=(Pp.av b (me.mp hb).2 p y).mp hp;rw[z,((D0.wf i hi).leaf hz).1] at this;cases this
 ·rw[aI (show (YW (gd ts i)).h > 0 by show ((gd ts i).h:Int) > 0;lia)]
  let ew:=th3 hz;subst ew;let ndb:=Dx D0.wf hi hz;let thl:=fr _ _ (Zg th1 hd (by intro z;cases z)) th1
  refine Z7 ⟨_,Z,(as.getD i .d).x,kQ,dt,_,.ref (as.getD i .d).th,Z,hx1,L.cT,L.nth,Z,_,Z,⟨_,ZI.of thl⟩,?_⟩;let thab:∀ b∈lv,(as.getD i .d).th≠(as.getD b .d).ab:=λb hb=>by
   by_cases z:b=i
   ·rw[z];exact(R.own i hi).2.2.2.symm
   ·exact(R.two b i hb hi z).2.2.1.symm
  refine Vt (K:=K) (a:=(as.getD i .d).th) (xs:=iN (gd ts i).bs) (Gc kP kQ S d lk lv ts av ho as ls U g o i H) (.mk (λc o n _ e=>fr c o n e) (zEO.refl _) keep0 (λ_ _ _ _=>Iff.rfl) (λb hb p hp y=>?_) br P1 (λkk b hb=>kk b (me.mp hb).2 (me.mp hb).1) R1) ?_ ?_ ?_
  ·by_cases z:p=i
   ·exact .inr ⟨z,(Pp.av b (me.mp hb).2 i hi).mp (z ▸ hp)⟩
   ·exact .inl (me.mpr ⟨z,y⟩)
  ·rintro j _ H2 _ ⟨fr2,_⟩;exact ZI.of (fr2 _ _ (Zg th1 hd (by intro z;cases z)) thab th1)
  ·intro j u σ H2 hu2 hI
   induction hI
   rename_i j x3 lv2 av2 kvs2 H2 fr2 sub2 keep2 old2 new2 pnd2 P2 kp2 R2
   let⟨b,ebj,rfl⟩:=Qi hu2;let hs:(gd ts i).bs.drop j=b::(gd ts i).bs.drop (j+1):=by
    let⟨hi,e⟩:=yY.mp ebj;rw[<-e,<-wA hi]
   let ndj:(b::(gd ts i).bs.drop (j+1)).Nodup:=by rw[<-hs];exact ndb.sublist (List.drop_sublist _ _)
   rw[hs] at new2 pnd2;let⟨ble,ib⟩:=pnd2 b zO;let s2:∀ c∈lv2,c≠i/\c∈lv:=λc hc=>me.mp (sub2.subset hc);let bl:=(s2 b ble).2;let ni:i∉lv2:=λz=>(s2 i z).1 Z;let⟨dS2,hS2⟩:=R2.sh.self;let Wb:=R2.tw b ble;let⟨db,hxb⟩:=Wb.tw.self;let hab:=Wb.tw.above;let eI:iN (av2 b)=((av2 b).map λn:Nat=>(n:Int)).map V.int:=by rw[xU];rfl
   exists _,Z,S,dS2,_,Z,hS2,Z,_,Z,S,d,lk,ts.length,_,ls,(b:Int),.ref (as.getD b .d).x,Z,R2.sh,R2.val b ble,(as.getD b .d).x,kQ,db,_,.ref (as.getD b .d).ab,Z,hxb,L.cT,L.nab,Z,.inl ⟨Z,_,ZI.of hab⟩,_,Z,(as.getD b .d).ab,(av2 b).map (λn:Nat=>(n:Int)),(i:Int),Z,Z,by rw[<-eI];exact hab,yR.mpr ⟨i,ib,Z⟩
   rw[ZJE];let xab:(as.getD b .d).x≠(as.getD b .d).ab:=Zg hxb hab (by intro z;cases z)
   let R3:=R2.set1 (H':=upd H2 (as.getD b .d).ab (.lst ((((av2 b).erase i).map λn:Nat=>(n:Int)).map V.int))) ble (av':=λc=>if c=b then (av2 b).erase i else av2 c) (ho':=ho) (λc n=>aJ n) (λ_ _=>rfl) ⟨db,by rw[ZY xab];exact hxb⟩ (by rw[ZZ,aK rfl,xU];rfl) λc o _ n2 e=>by rw[ZY n2];exact e
   let fr3:∀ c o,c≠d->(∀ b∈lv,c≠(as.getD b .d).ab)->H c=some o->upd H2 (as.getD b .d).ab (.lst ((((av2 b).erase i).map λn:Nat=>(n:Int)).map V.int)) c=some o:=λc o n1 n2 e=>by rw[ZY (n2 b bl)];exact fr2 c o n1 n2 e
   generalize upd H2 (as.getD b .d).ab (.lst ((((av2 b).erase i).map λn:Nat=>(n:Int)).map V.int))=H3 at R3 fr3⊢;let ea3:∃ av3:Nat->jK,av3=λc=>if c=b then (av2 b).erase i else av2 c:=⟨_,Z⟩
   let⟨av3,ea3⟩:=ea3;rw[<-ea3] at R3;let m3:∀ c∈lv2,∀ p,p∈av3 c ↔ p∈av2 c/\(c=b->p≠i):=λc hc p=>by
    rw[ea3];show p∈(if c=b then (av2 b).erase i else av2 c) ↔ _
    split
    ·next z=>
     rw[(P2.nd b ble).mem_erase_iff,z];exact⟨λq=>⟨q.2,λ_=>q.1⟩,λq=>⟨q.2 Z,q.1⟩⟩
    ·next z=>exact⟨λq=>⟨q,λy=>absurd y z⟩,λq=>q.1⟩
   let P3:Pd lv2 ts av3 ho U g o:=⟨P2.dg,λc hc=>by
    rw[ea3];show (if c=b then (av2 b).erase i else av2 c).Nodup
    split
    ·exact(P2.nd b ble).erase _
    ·exact P2.nd c hc,λc hc p hp=>(m3 c hc p).trans ((and_iff_left λ_ (y:p=i)=>ni (y ▸ hp)).trans (P2.av c hc p hp))⟩
   let a3:∀ c,c≠b->av3 c=av2 c:=λc z=>by rw[ea3];exact aJ z
   clear ea3;let⟨dS3,hS3⟩:=R3.sh.self;let b5:=(Lh D0.wf hi (zG ebj)).2.1;refine⟨_,Z,S,dS3,_,Z,hS3,Z,_,Z,.mk R3 P3 ble (by lia) λH4 lv4 kvs4 av4 fr4 sub4 keep4 old4 new4 P4 kp4 _ R4=>?_⟩
   refine .mk (λc o n1 n2 e=>fr4 c o n1 (λb hb=>n2 b (s2 b hb).2) (fr3 c o n1 n2 e)) (sub4.trans sub2) (λc hc p hp np=>?_) (λc hc p np=>?_) (λc hc p hp y=>?_) (λc hc=>?_) P4 (λkk=>kp4 λc hc z=>by rw[a3 c z];exact kp2 kk c hc) R4
   ·let c2:=keep2 c hc p hp np;exact keep4 c c2 p ((m3 c c2 p).mpr ⟨(old2 c c2 p np).mpr hp,λ_ z=>np (z ▸ hi)⟩) λz=>np (s2 p z).2
   ·let c2:=sub4.subset hc;rw[old4 c hc p λz=>np (s2 p z).2,m3 c c2 p,old2 c c2 p np];exact and_iff_left λ_ z=>np (z ▸ hi)
   ·let c2:=sub4.subset hc;by_cases p2:p∈lv2
    ·exact .inl (new4 c hc p hp p2)
    ·let⟨h1,h2⟩:=(m3 c c2 p).mp ((old4 c hc p p2).mp hp);rcases new2 c c2 p h1 y with z | ⟨z1,z2⟩
     ·exact absurd z p2
     ·rcases zI.mp z2 with z3 | z3
      ·exact absurd z1 (h2 z3)
      ·exact .inr ⟨z1,z3⟩
   ·let⟨c1,c2⟩:=pnd2 c (zJ _ hc);let c3:=(m3 c c1 i).mpr ⟨c2,λz=>absurd (z ▸ hc) (xO.mp ndj).1⟩;let c4:=keep4 c c1 i c3 ni;exact⟨c4,(old4 c c4 i ni).mpr c3⟩
  ·intro σ H2 hI;rw[show (iN (gd ts i).bs).length=(gd ts i).bs.length from zY _] at hI;generalize ej:(gd ts i).bs.length=j at hI
   induction hI
   rename_i j x3 lv2 av2 kvs2 H2 fr2 sub2 keep2 old2 new2 pnd2 P2 kp2 R2
   refine k H2 lv2 kvs2 av2 fr2 (sub2.trans List.erase_sublist) keep2 old2 (λb hb p hp y=>(new2 b hb p hp y).resolve_right λz=>?_) P2 kp2 (λy=>absurd y hh) R2;let z:=z.2;rw[<-ej,sV] at z;cases z
structure Z1(K:zZ)(C:aj)(m q:Str)(st:Stmt)(ps:jP):Prop where
 ex:∃ f fd,QS K C m f/\Zo K m q st f fd/\Zz K fd ps []
def Z1.of{P:ao}{w:ax}{K:zZ}{mg:jd}{kT:aD}{CX:Vg}{C:aj}{m q:Str}{st:Stmt}{ps:jP}{k:Nat}{sp:Sp}(L:Z1 K C m q st ps)(h:∀ f fd,Zo K m q st f fd->ZK P w K mg kT CX k f fd ps sp):ZH P w K mg kT CX k C m ps sp:=by
 let⟨f,fd,M,F,b⟩:=L.ex;exact⟨f,fd,M,h f fd F,b⟩
section
variable{kP kQ CTb:aj}
def GC(L0:Z1 K kP "drop_unheld" "Shelf.drop_unheld" Lo zEa)(L:Y4 K mg kP kQ)(DH:ZH P w K mg kT ZV 2 kP "holders" zEa (Xg kP kQ λ_ ho us=>.int ((us.length:Nat)+(ho:Nat):Int)))(DT:ZH P w K mg kT ZV 1 kP "twig_of" zEa (Z0 kP))(DS:ZA P w K mg kT 1 "is_stem" ["twig"] (X7 kQ)):∀ n:Nat,ZH P w K mg kT ZV (n+3) kP "drop_unheld" zEa (Y5 n kP kQ)
 | 0=>L0.of λ_ _ _=>HX λvs H Q E h=>by cases h;lia
 | n+1=>L0.of λ_ _ F=>BZ F L DH DT DS (GC L0 L DH DT DS n)
inductive VP(kP kQ:aj):Sp
 |mk{X:Zx}{lk:aj}{ls:jh}{U:Nat->Prop}{g:Nat->Nat}{o:jK}{i:Nat}{H:Hp}{Q:VK}{E:XK}:Sd kP kQ H X lk ls U g (i::o)->(gd X.ts i).h<=8 ->
  (∀(H':Hp)(X':Zx),Go lk H H' X X'->Sd kP kQ H' X' lk ls U g o->X'.ts=X.ts->X'.lv.Sublist X.lv->((∀ b∈X.lv,0<(X.av b).length+X.ho b)->∀ b∈X'.lv,0<(X'.av b).length+X'.ho b)->(1<(X.av i).length+X.ho i->X'=⟨X.S,X.d,X.lv,X.ts,X.av,VZ X.ho i,X.as,X'.kvs⟩)->Q .non H')->VP kP kQ [.ref X.S,.int (i:Nat)] H Q E
def ZOg(F:Zo K "let_go" "Shelf.let_go" IO f fd)(L:Y4 K mg kP kQ)(DC:ZH P w K mg kT ZV 3 kP "check_held" zEj (Z5 kP kQ))(DT:ZH P w K mg kT ZV 1 kP "twig_of" zEa (Z0 kP))(DD:ZH P w K mg kT ZV 12 kP "drop_unheld" zEa (Y5 9 kP kQ)):
  ZK P w K mg kT ZV 13 f fd zEa (VP kP kQ):=by
 refine F.ok UF (λvs H Q E h=>(by induction h;rfl)) (λcdv A outer s H vs Q E hr h=>?_)
 induction h
 rename_i X lk ls U g o i H Q E t h8 k
 let hi:i∈X.lv:=t.dg.own i zO;let h1:1<=X.ho i:=by
  have:=t.dg.hs i hi;rw[uQ] at this;lia
 let R:=t.sh;let nd:=UF.nd;let hr1:=hr.mono (show 1<=12 by lia)
 let hr3:=hr.mono (show 3<=12 by lia)
 refine⟨_,ZO (Xd (XM (E:=E0) (pv 0) L.cS DC hr3 Yd (ZF (Yo (ZF (pv 1) ZD)) ZD)))
  (ZO (Zr (i:=2) nd rfl (Or.inl rfl) (XM (E:=E0) (pv 0) L.cS DT hr1 Yd (ZF (pv 1) ZD)))
  (ZO (HK (pv 2) ZL Dt)
  (ZP (Xd (XM (E:=E0) (pv 0) L.cS DD hr Yd (ZF (pv 1) ZD)))))),?_⟩
 let⟨dx,hS⟩:=R.sh.self;refine⟨_,Z,X.S,dx,_,Z,hS,Z,_,Z,nn (zR rfl),λl nl=>?_⟩;let⟨H1,eU,g1,hl⟩:=Ym nl (.lst [.int (i:Nat)]);rw[eU];let R1:=R.same g1;let⟨dS1,hS1⟩:=R1.sh.self;let Wi:=R1.tw i hi;let⟨dt,hx⟩:=Wi.tw.self;let hab:=Wi.tw.above;exists X.S,l,[(i:Int)],Z,hl,⟨dS1,_,hS1,Z⟩,λn hn=>?_
 ·rw[zN.mp hn];exact⟨X.d,lk,X.ts.length,X.kvs,ls,_,_,_,_,_,_,⟨R1.sh,R1.val i hi,Wi.tw⟩,by lia⟩
 exists _,Z,X.S,dS1,_,Z,hS1,Z,_,Z,X.S,X.d,lk,X.ts.length,X.kvs,ls,(i:Int),.ref (X.as.getD i .d).x,Z,R1.sh,R1.val i hi;exists _,Z,(X.as.getD i .d).x,kQ,dt,_,.int (X.ho i:Nat),Z,hx,L.cT,L.nho,Z,_,_,Z,Z,dt,_,hx,zR Z;let xab:(X.as.getD i .d).ab≠(X.as.getD i .d).x:=Zg hab hx (by intro z;cases z)
 let eh:((X.ho i:Nat):Int)-1=((X.ho i-1:Nat):Int):=by lia
 let e1:VZ X.ho i i=X.ho i-1:=aK Z;let R3:=R1.set1 (H':=upd H1 (X.as.getD i .d).x (.ins kQ dt (Yx "holds" (.int (((X.ho i:Nat):Int)-1)) (Ut (.ref (X.as.getD i .d).th) (.ref (X.as.getD i .d).tg) (X.as.getD i .d).ab (X.ho i))))) hi (av':=X.av) (ho':=VZ X.ho i) (λ_ _=>rfl) (λc n=>aJ n) ⟨dt,by
  rw[ZZ,e1,eh];rfl⟩ (by rw[ZY xab];exact hab) λc o n1 _ e=>by rw[ZY n1];exact e
 let fr3:∀ c o,c≠(X.as.getD i .d).x->H1 c=some o->upd H1 (X.as.getD i .d).x (.ins kQ dt (Yx "holds" (.int (((X.ho i:Nat):Int)-1)) (Ut (.ref (X.as.getD i .d).th) (.ref (X.as.getD i .d).tg) (X.as.getD i .d).ab (X.ho i)))) c=some o:=λc o n e=>by rw[ZY n];exact e
 generalize upd H1 (X.as.getD i .d).x (.ins kQ dt (Yx "holds" (.int (((X.ho i:Nat):Int)-1)) (Ut (.ref (X.as.getD i .d).th) (.ref (X.as.getD i .d).tg) (X.as.getD i .d).ab (X.ho i))))=H3 at R3 fr3⊢;let⟨dS3,hS3⟩:=R3.sh.self;let D3:=t.dg.less;refine⟨_,Z,X.S,dS3,_,Z,hS3,Z,_,Z,.mk R3 (Pd.of D3) hi (by lia) λH4 lv4 kvs4 av4 fr4 sub4 keep4 old4 new4 P4 kp4 st4 R4=>?_⟩
 refine k H4 ⟨X.S,X.d,lv4,X.ts,av4,VZ X.ho i,X.as,kvs4⟩ ⟨Z,Z,λc o n e=>?_,λc o n e=>⟨n.1,n.2.1,n.2.2.1,λb hb=>n.2.2.2 b (sub4.subset hb)⟩⟩ ⟨R4,P4.to λb hb p hp=>?_⟩ Z sub4 (λkk=>kp4 λb hb z=>?_) λh2=>?_
 ·exact fr4 c o n.2.1 (λb hb=>(n.2.2.2 b hb).2.1) (fr3 c o (n.2.2.2 i hi).1 (g1 _ _ e))
 ·by_cases y:p∈X.lv
  ·exact new4 b hb p hp y
  ·exact absurd (((D3.ave b (sub4.subset hb) p).mp ((old4 b hb p y).mp hp)).1) y
 ·show 0<(X.av b).length+VZ X.ho i b;rw[show VZ X.ho i b=X.ho b from aJ z];exact kk b hb
 ·let⟨rfl,rfl⟩:=st4 (by rw[e1];lia)
  rfl
inductive YV(kP kQ:aj):Sp
 |mk{X:Zx}{lk:aj}{ls:jh}{U:Nat->Prop}{g:Nat->Nat}{o:jK}{r:jQ}{H:Hp}{Q:VK}{E:XK}:Sd kP kQ H X lk ls U g (r.toList++o)->(UM X.ts r).length<=200 ->
  (∀(H':Hp)(X':Zx),Go lk H H' X X'->Sd kP kQ H' X' lk ls U g o->X'.ts=X.ts->X'.lv.Sublist X.lv->((∀ b∈X.lv,0<(X.av b).length+X.ho b)->∀ b∈X'.lv,0<(X'.av b).length+X'.ho b)->(∀ i,r=some i->1<(X.av i).length+X.ho i->X'=⟨X.S,X.d,X.lv,X.ts,X.av,VZ X.ho i,X.as,X'.kvs⟩)->Q .non H')->YV kP kQ [.ref X.S,Yn r] H Q E
def ZKX:ZB zEc zEc (Zl Jc):=⟨Z,Z,Z,by decide +kernel,Z,by decide +kernel,by decide +kernel⟩
def BC(F:Zo K "release" "release" Jc f fd)(L:Y4 K mg kP kQ)(DG:ZH P w K mg kT ZV 13 kP "let_go" zEa (VP kP kQ)):ZK P w K mg kT ZV 14 f fd zEc (YV kP kQ):=by
 refine F.ok ZKX (λvs H Q E h=>(by induction h;rfl)) (λcdv A outer s H vs Q E hr h=>?_)
 induction h
 rename_i X lk ls U g o r H Q E t r3 k
 exists _,ZP (Zt (Uz (Mv (pv 1))) (ZP (Xd (XM (E:=E0) (pv 0) L.cS DG hr Yd (ZF (pv 1) ZD)))) Zw)
 cases r with
 | none=>exact⟨_,Z,_,Z,Zn (k H X (Go.same λc o e=>e) t rfl (zEO.refl _) (λkk=>kk) nofun)⟩
 | some i=>
  let⟨dS,hS⟩:=t.sh.sh.self;exact⟨_,Z,_,Z,Z7 ⟨_,Z,X.S,dS,_,Z,hS,Z,_,Z,.mk t (zK (t.low r3 i rfl) (by decide)) λH' X' G' t' e' v' kp' st'=>k H' X' G' t' e' v' kp' λj ej h2=>by cases ej;exact st' h2⟩⟩
abbrev HI:Stmt:=Wc (top 61) 8
def ZNd{T dx:aj}{H:Hp}{X:Zx}{lk:aj}{ls:jh}{U:Nat->Prop}{g:Nat->Nat}{o:jK}{r r0:jQ}(t:Sd kP kQ H X lk ls U g o)(oT:Ya X lk T)(hT:H T=some (.ins CTb dx (PU X.S r0))):∃ H',upd H T (.ins CTb dx (Yx "root" (Yn r) (PU X.S r0)))=H'/\(∀ c o,c≠T->H c=some o->H' c=some o)/\Sd kP kQ H' X lk ls U g o/\Xt CTb H' T X.S r:=by
 let frT:∀ c o,c≠T->H c=some o->upd H T (.ins CTb dx (Yx "root" (Yn r) (PU X.S r0))) c=some o:=λc o n e=>by rw[ZY n];exact e
 let eT:upd H T (.ins CTb dx (Yx "root" (Yn r) (PU X.S r0))) T=some (.ins CTb dx (PU X.S r)):=ZZ;refine⟨_,Z,frT,?_,dx,eT⟩;generalize upd H T (.ins CTb dx (Yx "root" (Yn r) (PU X.S r0)))=H5 at frT eT⊢;let mT:YD H H5:=λc xs e=>frT c _ (Zg e hT (by intro z;cases z)) e
 let R:=t.sh;let⟨⟨dS,hS⟩,hd,hl⟩:=R.sh;refine⟨⟨⟨⟨dS,frT _ _ oT.1.symm hS⟩,frT _ _ oT.2.1.symm hd,frT _ _ oT.2.2.1.symm hl⟩,R.lt,R.keys,R.val,R.len,λi hi=>?_,R.own,R.two⟩,t.dg⟩;let⟨n1,n2,n3⟩:=oT.2.2.2 i hi;exact(R.tw i hi).frame mT (λo e=>frT _ _ n1.symm e) (λo e=>frT _ _ n3.symm e) (λo e=>frT _ _ n2.symm e)
inductive XZ(kP kQ CTb:aj):Sp
 |mk{T:aj}{X:Zx}{lk:aj}{ls:jh}{U:Nat->Prop}{g:Nat->Nat}{o:jK}{r:jQ}{H:Hp}{Q:VK}{E:XK}:Xt CTb H T X.S r->Sd kP kQ H X lk ls U g (r.toList++o)->(UM X.ts r).length<=200->Ya X lk T ->
  (∀(H':Hp)(X':Zx),X'.S=X.S->(∀ c o,c≠T->Ya X lk c->H c=some o->H' c=some o/\Ya X' lk c)->Ya X' lk T->Xt CTb H' T X'.S none->Sd kP kQ H' X' lk ls U g o->X'.ts=X.ts->X'.lv.Sublist X.lv->((∀ b∈X.lv,0<(X.av b).length+X.ho b)->∀ b∈X'.lv,0<(X'.av b).length+X'.ho b)->Q .non H')->XZ kP kQ CTb [.ref T] H Q E
def B0:ZB zEo zEo (Zl HI):=⟨Z,Z,Z,by decide +kernel,Z,by decide +kernel,by decide +kernel⟩
def ZJI(F:Zo K "clear" "Table.clear" HI f fd)(L:OM K mg CTb)(DR:ZA P w K mg kT 14 "release" zEc (YV kP kQ)):ZK P w K mg kT ZV 15 f fd zEo (XZ kP kQ CTb):=by
 refine F.ok B0 (λvs H Q E h=>(by induction h;rfl)) (λcdv A outer s H vs Q E hr h=>?_)
 induction h
 rename_i T X lk ls U g o r H Q E zz t r3 oT k
 let⟨dx,hT⟩:=zz;exists _,ZO (Xd (Zc DR hr (ZF (X5 (pv 0) rfl) (ZF (X5 (pv 0) rfl) ZD)))) (ZP (U3 (pv 0) Mt rfl));refine⟨_,Z,T,CTb,dx,_,.ref X.S,Z,hT,L.cT,L.ns,Z,_,Z,T,CTb,dx,_,Yn r,Z,hT,L.cT,L.nr,Z,.mk t r3 λH1 X1 G1 t1 e1 v1 kp1 _=>?_⟩;let hT1:=G1.fr _ _ oT hT;let oT1:=G1.off _ _ oT hT;exists _,Z,T,CTb,dx,_,Z,hT1,L.cT,L.nr,zR Z;let⟨H2,eU,fr2,t2,T2⟩:=ZNd (CTb:=CTb) (T:=T) (dx:=dx) (r:=none) t1 oT1 (r0:=r) (by rw[G1.S];exact hT1)
 rw[G1.S] at eU;rw[show Yn none=V.non from rfl] at eU;rw[eU];exact k H2 X1 G1.S (λc o n1 n2 e=>⟨fr2 c o n1 (G1.fr c o n2 e),G1.off c o n2 e⟩) oT1 T2 t2 e1 v1 kp1
abbrev Jh:Stmt:=Wc (top 61) 4
inductive Xw(kP kQ CTb:aj):Sp
 |mk{T:aj}{X:Zx}{lk:aj}{ls:jh}{U:Nat->Prop}{g:Nat->Nat}{o:jK}{r:jQ}{H:Hp}{Q:VK}{E:XK}:Xt CTb H T X.S r->Sd kP kQ H X lk ls U g (r.toList++o)->(UM X.ts r).length<=200->ls.length<=379000 ->
  (∀(H':Hp)(D:aj)(ws ls':jh),(∀ b o,b≠lk->H b=some o->H' b=some o)->Sd kP kQ H' X lk ls' U g (r.toList++o)->ls'.length<=ls.length+400->H D=none->H' D=some (.lst ws)->kK H' (Y1 (UM X.ts r)) ws->Q (.ref D) H')->Xw kP kQ CTb [.ref T] H Q E
def B7:ZB zEo zEo (Zl Jh):=⟨Z,Z,Z,by decide +kernel,Z,by decide +kernel,by decide +kernel⟩
def ZLm(F:Zo K "rows" "Table.rows" Jh f fd)(L:OM K mg CTb)(DR:ZA P w K mg kT 26 "rows_of" zEc (XY kP kQ)):ZK P w K mg kT ZV 27 f fd zEo (Xw kP kQ CTb):=by
 refine F.ok B7 (λvs H Q E h=>(by induction h;rfl)) (λcdv A outer s H vs Q E hr h=>?_)
 induction h
 rename_i T X lk ls U g o r H Q E zz t r2 few q
 let⟨dx,hT⟩:=zz;exists _,ZP (Zk (Zc DR hr (ZF (X5 (pv 0) rfl) (ZF (X5 (pv 0) rfl) ZD))));let lp:(Wm X.ts r).length<=400:=by
  cases r with
  | none=>exact zH _
  | some i=>
   have:=CM t.dg.wf _ i (t.hi i Z) Z;have:(UM X.ts (some i)).length=(gd X.ts i).rows.length:=rfl;have:(Wm X.ts (some i)).length=(Xl X.ts (gd X.ts i).h i).length:=rfl;lia
 let er:UP X.ts (Wm X.ts r)=UM X.ts r:=by
  cases r with
  | none=>rfl
  | some i=>exact FP t.dg.wf _ i (t.hi i Z) Z
 refine⟨_,Z,T,CTb,dx,_,.ref X.S,Z,hT,L.cT,L.ns,Z,_,Z,T,CTb,dx,_,Yn r,Z,hT,L.cT,L.nr,Z,.mk X lk X.ts.length ls r ⟨t.sh.q,t.dg.wf,λi e=>⟨t.hi i e,zK (t.low r2 i e) (by decide)⟩,by lia,by lia⟩ (λj hj=>?_) λH1 D ws B1 hD kw=>?_⟩
 ·cases r with
  | none=>cases hj
  | some i=>exact F6 t.dg.wf _ i (t.hi i Z) Z j hj
 ·rw[er] at kw;exact q H1 D ws _ B1.fr (t.of B1.sh) (by rw[zT];unfold iN;rw[zY];lia) B1.free hD kw
end
inductive XW(kP kQ:aj):Sp
 |mk{X:Zx}{lk l:aj}{ls:jh}{U:Nat->Prop}{g:Nat->Nat}{o ns:jK}{v:V}{H:Hp}{Q:VK}{E:XK}:Sd kP kQ H X lk ls U g (ns++o)->H l=some (.lst (iN ns))->Ya X lk l->(∀ b∈ns,1<=(X.av b).length+g b+o.count b/\(gd X.ts b).rows.length<=200) ->
  (∀(H':Hp)(X':Zx),Go lk H H' X X'->Sd kP kQ H' X' lk ls U g o->X'.ts=X.ts->X'.lv=X.lv->X'.av=X.av->X'.as=X.as->Q .non H')->XW kP kQ [.ref X.S,.ref l,v] H Q E
def Vk:ZB ["shelf","numbers","many","number"] zE1 (Zl Km):=⟨Z,Z,Z,by decide +kernel,Z,by decide +kernel,by decide +kernel⟩
inductive Gz(S l:aj)(v:V)(H:Hp):Nat->L2.St->Hp->Prop
 |mk{j:Nat}{x3:ji}:Gz S l v H j [some (.ref S),some (.ref l),some v,x3] H
inductive El(kP kQ:aj)(X:Zx)(lk l:aj)(ls:jh)(U:Nat->Prop)(g:Nat->Nat)(o ns:jK)(v:V)(H:Hp):Nat->L2.St->Hp->Prop
 |mk{j:Nat}{X':Zx}{x3:ji}{H':Hp}:Go lk H H' X X'->Sd kP kQ H' X' lk ls U g (ns.drop j++o)->X'.ts=X.ts->X'.lv=X.lv->X'.av=X.av->X'.as=X.as->El kP kQ X lk l ls U g o ns v H j [some (.ref X.S),some (.ref l),some v,x3] H'
def ZJo(F:Zo K "give_up" "give_up" Km f fd)(L:Y4 K mg kP kQ)(DH:ZH P w K mg kT ZV 2 kP "holders" zEa (Xg kP kQ λ_ ho us=>.int ((us.length:Nat)+(ho:Nat):Int)))(DR:ZA P w K mg kT 14 "release" zEc (YV kP kQ)):ZK P w K mg kT ZV 15 f fd zE1 (XW kP kQ):=by
 refine F.ok Vk (λvs H Q E h=>(by induction h;rfl)) (λcdv A outer s H vs Q E hr h=>?_)
 induction h
 rename_i X lk l ls U g o ns v H Q E S hl ol hb k
 let nd:=Vk.nd;let hr2:=hr.mono (show 2<=14 by lia)
 refine⟨_,ZO (Xi PassesOwn.never rfl (Xu (pv 1)) (XB (i:=3) nd rfl (Or.inl rfl)) (ZP (Zt (Z3 XE (XM (E:=E0) (pv 0) L.cS DH hr2 Yd (ZF (pv 3) ZD)) ZL (Zu _)) (ZP WM) Zw)))
  (ZP (Xi PassesOwn.never rfl (Xu (pv 1)) (XB (i:=3) nd rfl (Or.inl rfl)) (ZP (Xd (Zc DR hr (ZF (pv 0) (ZF (pv 3) ZD))))))),?_⟩
 refine⟨_,Z,l,Z,⟨_,ZI.of hl⟩,Vt (K:=K) (a:=l) (xs:=iN ns) (Gz X.S l v H) .mk (λ_ _ _ _ ⟨⟩=>ZI.of hl) (λj u σ H2 hu hI=>?_) (λσ H2 hI=>?_)⟩
 ·induction hI
  let⟨b,ebj,rfl⟩:=Qi hu;let bm:=zG ebj;let bl:=S.dg.own b (xV _ bm);let⟨dS,hS⟩:=S.sh.sh.self;let R:=S.sh;let W:=R.tw b bl;exists _,Z,X.S,dS,_,Z,hS,Z,_,Z,X.S,X.d,lk,X.ts.length,X.kvs,ls,(b:Int),_,_,_,_,_,_,Z,⟨R.sh,R.val b bl,W.tw⟩,Z,_,Z;have:=(hb b bm).1;let h2:=S.dg.hs b bl;rw[sC] at h2;let h3:0<ns.count b:=vS.mpr bm;rw[aH λz=>by have:=V.int.inj z;rw[show (iN (X.av b)).length=(X.av b).length from zY _] at this;lia]
  exact Zn .mk
 ·induction hI
  refine⟨_,Z,l,Z,⟨_,ZI.of hl⟩,Vt (K:=K) (a:=l) (xs:=iN ns) (El kP kQ X lk l ls U g o ns v H) (.mk (Go.same (ZC.refl H)) S rfl rfl rfl rfl) ?_ ?_ ?_⟩
  ·intro j σ H2 _ hI
   induction hI
   rename_i G2 _ _ _ _ _
   exact ZI.of (G2.fr _ _ ol hl)
  ·intro j u σ H2 hu hI
   induction hI
   rename_i j X2 x3 H2 G2 S2 et ev ea es
   let⟨b,ebj,rfl⟩:=Qi hu;let bm:=zG ebj;let hs:ns.drop j=b::ns.drop (j+1):=by
    let⟨hi,e⟩:=yY.mp ebj;rw[<-e,<-wA hi]
   rw[hs] at S2;let⟨b1,b2⟩:=hb b bm;let h2:=S2.dg.hs b (S2.dg.own b zO);rw[vH,uQ,sC] at h2;rw[<-G2.S];refine⟨_,Z,_,Z,.mk (r:=some b) S2 (by rw[et];exact b2) λH3 X3 G3 S3 e3 v3 _ st3=>?_⟩
   let st:=st3 b Z (by rw[ea,h2];lia)
   rw[G2.S];refine .mk (G2.trans G3) S3 (e3.trans et) ?_ ?_ ?_
   ·rw[st];exact ev
   ·rw[st];exact ea
   ·rw[st];exact es
  ·intro σ H2 hI;rw[show (iN ns).length=ns.length from zY _] at hI;generalize ej:ns.length=j at hI
   induction hI
   rename_i j X2 x3 H2 G2 S2 et ev ea es
   rw[<-ej,sV] at S2;exact k H2 X2 G2 S2 et ev ea es
structure Ug(ts:jN):Prop where
 lf:∀ i<ts.length,(gd ts i).h=0->(gd ts i).bs=[]/\Xn (gd ts i).rows
 st:∀ i<ts.length,(gd ts i).h≠0->gd ts i=Yw ts (gd ts i).bs/\2<=(gd ts i).bs.length/\(gd ts i).bs.length<=4/\(∀ b∈(gd ts i).bs,b<i/\(gd ts b).h+1=(gd ts i).h)/\Up (gd ts i).rows
def Ug.ok{ts:jN}(h:Ug ts):∀ i<ts.length,(gd ts i).rows≠[]/\∀ r∈(gd ts i).rows,r.fit:=λi=>by
 induction i using sO with
 | ind i ih=>
  intro hi;by_cases h0:(gd ts i).h=0
  ·let⟨_,g⟩:=h.lf i hi h0;exact⟨λz=>by have:=g.2.1;rw[z] at this;exact absurd this (by decide),g.1⟩
  ·let⟨e,h2,h4,hb,hu⟩:=h.st i hi h0;let er:(gd ts i).rows=Z4 ts (gd ts i).bs:=by
    generalize (gd ts i).bs=bs at e;rw[e];rfl
   rw[er];refine⟨λz=>?_,λr hr=>?_⟩
   ·obtain⟨b,l,eb⟩:∃ b l,(gd ts i).bs=b::l:=by
     cases eb:(gd ts i).bs with
     | nil=>rw[eb] at h2;exact absurd h2 (by decide)
     | cons b l=>exact⟨b,l,Z⟩
    let b1:=(hb b (by rw[eb];exact zO)).1
    rw[eb,Mz] at z;exact(ih b b1 (vW b1 hi)).1 (zEH.mp z).1
   ·let⟨b,hbm,hr⟩:=vG.mp (show r∈(gd ts i).bs.flatMap λb=>(gd ts b).rows from hr);let b1:=(hb b hbm).1;exact(ih b b1 (vW b1 hi)).2 r hr
def Ug.wf{ts:jN}(h:Ug ts):WF (zF ts.length) ts:=λi hi=>by
 let hi:=yX.mp hi;let⟨k1,k2⟩:=h.ok i hi;by_cases h0:(gd ts i).h=0
 ·let⟨e,g⟩:=h.lf i hi h0;exact⟨k1,g.2.2.2,k2,λ_=>⟨e,g.2.2.1⟩,λz=>absurd h0 z⟩
 ·let⟨e,h2,h4,hb,hu⟩:=h.st i hi h0;refine⟨k1,hu,k2,λz=>absurd z h0,λ_=>⟨h2,h4,λb hbm=>⟨yX.mpr (vW (hb b hbm).1 hi),(hb b hbm).2⟩,?_⟩⟩;generalize (gd ts i).bs=bs at e;rw[e];rfl
def Iy{ts:jN}{i b:Nat}(h:b<i):gd (ts.take i) b=gd ts b:=by
 unfold gd;rw[zQ,zQ,uO h]
def Ug.stem{ts:jN}(h:Ug ts){i:Nat}(hi:i<ts.length)(h0:(gd ts i).h≠0):(gd ts i).bs.Nodup/\Us (YL (ts.take i) (gd ts i).bs)=some (YW (gd ts i))/\Yw (ts.take i) (gd ts i).bs=gd ts i:=by
 let⟨e,h2,h4,hb,hu⟩:=h.st i hi h0;let er:(gd ts i).rows=Z4 ts (gd ts i).bs:=by
  generalize (gd ts i).bs=bs at e;rw[e];rfl
 let e1:YL (ts.take i) (gd ts i).bs=YL ts (gd ts i).bs:=uB λb hbm=>by rw[Iy (hb b hbm).1]
 let e2:Yw (ts.take i) (gd ts i).bs=Yw ts (gd ts i).bs:=by
  unfold Yw;rw[HF (l:=(gd ts i).bs) λb hbm=>(by rw[Iy (hb b hbm).1]:(gd (ts.take i) b).rows=(gd ts b).rows)]
  congr 2
  cases eb:(gd ts i).bs with
  | nil=>rw[eb] at h2;exact absurd h2 (by decide)
  | cons b l=>rw[List.getD_cons_zero,Iy (hb b (by rw[eb];exact zO)).1]
 refine⟨Dx h.wf (yX.mpr hi) h0,?_,e2.trans e.symm⟩;rw[e1,ZJ4 (h:=(gd ts i).h-1) (λb hbm=>⟨(h.ok b (vW (hb b hbm).1 hi)).1,by have:=(hb b hbm).2;lia⟩) h2 h4 (by rw[<-er];exact hu),<-e]
abbrev Xe(n:Nat):jK:=Vq (n:Int)
def CQ(n:Nat):∀ c∈Xe n,48<=c/\c<=57:=λc hc=>by
 have:=Np n;unfold Xe at hc;rw[Qu] at hc;have:=zE.mp this c hc;unfold QW at this;rw[zP,decide_eq_true_iff,decide_eq_true_iff] at this;exact this
def EN{n c:Nat}(h:c<48):c∉Xe n:=λhc=>by have:=(CQ n c hc).1;lia
def A7(n:Nat):Xe n≠[45]:=λe=>EN (n:=n) (c:=45) (by decide) (by rw[e];exact zN.mpr Z)
def ZK9:Function.Injective Char.toNat:=λa b h=>Char.toNat_inj.mp h
def Bl{a b:Nat}(h:Xe a=Xe b):a=b:=by
 unfold Xe at h;rw[Qu,Qu] at h;have:=(List.map_inj_right λ_ _ h=>ZK9 h).mp h;have:=congrArg String.ofList this;exact Nat.repr_inj.mp this
def KM{n:Nat}(h:n<1000):(Xe n).length<=3:=by
 unfold Xe;rw[Qu,zY];exact Pw (k:=3) (by decide) h
def Le(n:Nat):zW (toString ((n:Nat):Int))=Zm (Xe n):=Eb _
def KU{a b:jK}(h:Zm a=Zm b):a=b:=by
 have:=congrArg (λx:Str=>x.cps.toList) h;exact this
end _T
namespace L2
open PySem PySem.Spec PyProof.Rows
section
variable{kR:jO}{σ:St}{H:Hp}
def ZRa:HO->Prop
 | .dK _=>True
 | .frz _ (.dK _)=>True
 | _=>False
def ZJ.re{d:aj}{v u:HO}(I:ZJ X kR σ H s)(e:H d=some v)(sv:ZRa v)(nf:∀ o x,X.H₀ d≠some (.frz o x))(new:Zj X.prog X.w H s.heap d u):ZJ X kR σ (upd H d u) s:=by
 let ne:∀{b:aj},H b=none->b≠d:=fun{b} q z=>by rw[z,e] at q;cases q
 let no:∀{b y:aj},H b=some (.own y)->b≠d:=fun{b y} q z=>by rw[z,e] at q;cases q;exact sv
 let nt:∀{b:aj}{xs:jh},H b=some (.tup xs)->b≠d:=fun{b xs} q z=>by rw[z,e] at q;cases q;exact sv
 let nb:∀{b:aj}{xs:jV},H b=some (.tbl xs)->b≠d:=fun{b xs} q z=>by rw[z,e] at q;cases q;exact sv
 refine⟨I.ok,I.os,I.bare,⟨I.base.keep,I.base.slot,λb o q n hx=>?_,I.base.there,λb xs q=>?_,λb o x q=>?_,λb ps q=>?_⟩,I.loc,I.cell,?_,λx c q=>?_,λp hp=>?_,λb o q=>?_,I.len⟩
 ·let z:=I.base.free b o q n hx;rw[ZY (ne z)];exact z
 ·let z:=I.base.tups b xs q;rw[ZY (nt z)];exact z
 ·let z:=I.base.frzs b o x q;rw[ZY (show b≠d from λy=>nf o x (y ▸ q))];exact z
 ·let⟨m,z⟩:=I.base.tbls b ps q;exact⟨m,by rw[ZY (nb z)];exact z⟩
 ·rw[ZY (ne I.free)];exact I.free
 ·rw[ZY (ne (I.freeC x c q))];exact I.freeC x c q
 ·let⟨z1,z2,z3⟩:=I.pin p hp;exact⟨z1,by rw[ZY (ne z2)];exact z2,z3⟩
 ·let st:∀{b o},Zj X.prog X.w H s.heap b o->Zj X.prog X.w (upd H d u) s.heap b o:=λx=>x.stay (λ_ _ _ q=>q) (λc q=>by rw[ZY (no q)];exact q) λc xs q=>by rw[ZY (nt q)];exact q
  by_cases hb:b=d
  ·subst hb;rw[ZZ] at q;cases q;exact st new
  ·rw[ZY hb] at q;exact st (I.hok b o q)
def ZJ.nofrz{d:aj}{kvs:List (Zi×V)}(I:ZJ X kR σ H s)(e:H d=some (.dK kvs)):∀ o x,X.H₀ d≠some (.frz o x):=λo x q=>by
 have:=I.base.frzs d o x q;rw[e] at this;cases this
inductive Nq(t:TS)(D:XA)(σ:L2.St)(H:Hp):Prop
 |mk(d kvs:_)(_:H d=some (.dK kvs))(_:t ⟨λσ' H'=>∃ o u,H' d=some (.frz o (.dK u))/\D.nx σ' (upd H' d (.dK u)),λ_ _=>False,λ_ _=>False,λ_ _=>False⟩ σ H)
def A8{st:Stmt}{t:TS}(h:PS X st t):PS X st (Nq t):=by
 rintro kR s σ H D I ⟨d,kvs,e,q⟩;refine Zb (h kR s σ H _ I q) λf s1 z=>?_;let nf:=I.nofrz e
 cases f with
 | next=>
  let⟨σ1,H1,I1,o,u,e1,q1⟩:=z;exact⟨σ1,_,I1.re e1 trivial nf (I1.hok d _ e1).2,q1⟩
 | brk=>let⟨_,_,_,z⟩:=z;exact z.elim
 | cont=>let⟨_,_,_,z⟩:=z;exact z.elim
 | ret u=>let⟨_,_,_,_,_,z⟩:=z;exact z.elim
def Da(d:aj)(o:aG)(kvs:List (Zi×V)):It:=
 ⟨λi H=>H d=some (.frz o (.dK kvs))/\i<kvs.length,λi H x H'=>H'=H/\∃ p,kvs[i]? = some p/\x=kV p.1,λi H=>H d=some (.frz o (.dK kvs))/\kvs.length<=i⟩
def F2{κ:Type}:∀{xs:List (κ×V)}{ys:List (κ×ai)}{i:Nat}{p:κ×V},KV xs ys->xs[i]? = some p->∃ u,ys[i]? = some (p.1,u)
 | _,_,_,_,.nil,e=>by simp at e
 | _,_,0,p,.cons (b:=b) r _,e=>by simp at e;subst e;exact⟨b.2,by rw[r.1];rfl⟩
 | _,_,i+1,p,.cons _ t,e=>by
  let⟨u,h⟩:=F2 (i:=i) (p:=p) t (by simpa using e)
  exact⟨u,by simpa using h⟩
def ZRZ{k:Zi}{v:ai}(h:PN k v=true):ZT (kV k) v:=by
 rcases QH h with ⟨i,t,rfl,rfl⟩ | ⟨x,t,rfl,rfl⟩
 ·exact⟨t,Z⟩
 ·exact⟨t,Z⟩
def EB{P:ao}{w:ax}{h:aD}{d:aj}{o:aG}{kvs:List (Zi×V)}{es:Array DictEntry}{ep:Nat}(ho:o.data=.dict es ep)(x:Zj P w H h d (.frz o (.dK kvs))):∃ vs,KV kvs vs/\h.DictAt (WU P w) d vs ep:=by
 let⟨e,_,_,vs,r,o',es',ep',e',c,dt,q⟩:=x;rw[e] at e';cases e';rw[ho] at dt;cases dt;exact⟨vs,r,o,es,e,c,ho,q⟩
def Kj{κ:Type}{xs:List (κ×V)}{ys:List (κ×ai)}(h:KV xs ys):xs.length=ys.length:=Paired.length h
def ZKG{P:ao}{w:ax}{K:zZ}{tg:Expr}{d:aj}{o:aG}{kvs:List (Zi×V)}{es:Array DictEntry}{ep:Nat}(ho:o.data=.dict es ep)(it:aj):VJ P w K tg (Da d o kvs) [it] it (λi h=>h.IsKeyIter it d i kvs.length ep) where
 mem:=by simp
 obj:=λi h st b hb=>by
  let e:b=it:=by simpa using hb
  subst e;let⟨o,e,c,d⟩:=st;exact⟨o,e,λv z=>by rw[d] at z;cases z⟩
 keep:=λi h h' st k=>st.at λo e=>k it (by simp) o e
 item:=by
  intro X hP hw hK hc i kR s σ H E I hf st hg;subst hP hw hK;let⟨hq,hx⟩:=hg;let⟨vs,r,da⟩:=EB ho (I.hok d _ hq);obtain⟨p,hp⟩:∃ p,kvs[i]? = some p:=⟨_,zV hx⟩;let⟨u,hu⟩:=F2 r hp;let⟨f0,f1,f2,f3,f4,f5⟩:=hf it (by simp)
  rw[Kj r] at st⊢;refine wpAny_pyNext_dict_item st da hu λkey h' hk st' sb=>?_;let I1:ZJ X kR σ H { s with heap:=h' }:=I.turned (t':=s.toks) (λb o hb e=>(sb.2 b hb).trans e) f0 f1 f3 f4 f5;exact⟨key,Z,letGo_keyiter (s':={ s with heap:=h' }) st' ⟨_,H,I1,ZRZ hk,⟨Z,p,hp,Z⟩,st',λb hb=>(hf b hb).1⟩⟩
 done:=by
  intro X hP hw hK hc i kR s σ H E I hf st hg;subst hP hw hK;let⟨hq,hx⟩:=hg;let⟨vs,r,da⟩:=EB ho (I.hok d _ hq);let⟨f0,f1,f2,f3,f4,f5⟩:=hf it (by simp)
  rw[Kj r] at st hx;exact wpAny_pyNext_dict_end (I.ok.hd hc) st da (List.getElem?_eq_none_iff.mpr hx) λh' eb=>⟨Z,I.turned (t':=s.toks) (λb o hb e=>eb b o hb e) f0 f1 f3 f4 f5⟩
 self:=λ_ _ _ _ _ st h=>wpAny_pyIter_keyiter st h
inductive OS(R:It->Hp->Prop)(x:V)(H1:Hp):Prop
 |mk(d kvs:_)(_:x=.ref d)(_:H1 d=some (.dK kvs))(_:∀ o,R (Da d o kvs) (upd H1 d (.frz o (.dK kvs))))
def Be(tl:TE):TI:=λσ H R=>tl σ H λx H1=>OS R x H1
def ZNa{tg l:Expr}{tl:TE}(hl:PE X l tl):PI X tg l (Be tl):=by
 intro kR s σ H R I h;refine Zb (hl kR s σ H _ I h) λv s1 ⟨x,H1,I1,r1,q1⟩=>?_;let⟨d,kvs,rfl,e,q⟩:=q1;cases r1;let⟨z1,z2,vs,r,o,es,ep,g,c,dt,rest⟩:=id (I1.hok d _ e);let da:s1.heap.DictAt (WU X.prog X.w) d vs ep:=⟨o,es,g,c,dt,rest⟩;refine wpAny_pyIter_dict z2 da ?_;rw[<-Kj r];let I2:=I1.re (u:=.frz o (.dK kvs)) e trivial (I1.nofrz e) ⟨g,I1.hok d _ e⟩;refine⟨s1.heap.objs.size,[s1.heap.objs.size],_,_,_,Z,I2.kept (t':=s1.toks) λb o e=>zD _ e,ZKG dt _,⟨_,yP _ Z,Z,Z⟩,λb hb=>?_,q o⟩;let e:b=s1.heap.objs.size:=by simpa using hb
 subst e;exact I2.fpOk (zX _) (I2.hok.fresh (zX _))
end
end L2
namespace _T
open PySem PySem.Spec L2 PyProof.Rows
variable{kP kQ CS CT CH CK CP CB:aj}
abbrev UR:Nat->Nat:=λ_=>0
abbrev U0:Nat->Prop:=λ_=>False
def QZ(t:ZW):jK:=if t.h=0 then [108,101,97,102]++32::shownL (Vh t.rows) else [115,116,101,109]++32::jn (t.bs.map Xe)
def QA:jQ->jK
 | none=>[114,111,111,116]++32::[45]
 | some r=>[114,111,111,116]++32::Xe r
abbrev PY(ts:jN)(es:List (jQ)):jh:=ts.map (λt=>V.str (Zm (QZ t)))++es.map λe=>V.str (Zm (QA e))
def WP(n:Nat):List (Zi×V):=(zF n).map λi=>(.inr (Zm (Xe i)),.int (i:Nat))
def EY(n:Nat):WP (n+1)=WP n++[(.inr (Zm (Xe n)),.int (n:Nat))]:=by
 unfold WP;rw[xN,yZ];rfl
def Mj:∀ n b,YM (WP n) (.inr (Zm (Xe b)))=if b<n then some (.int (b:Nat)) else none:=λn=>by
 induction n with
 | zero=>intro b;rfl
 | succ n ih=>
  intro b;rw[EY,Ik _ _ _ _ (by rw[ih,aJ (xP _)]),ih]
  by_cases e:b=n
  ·rw[aK (by rw[e]),aK (by lia),e]
  ·rw[aJ λz=>e (Bl (KU (Sum.inr.inj z)))];by_cases l:b<n
   ·rw[aK l,aK (by lia)]
   ·rw[aJ l,aJ (by lia)]
def ZM9(n:Nat):Xo (WP n) (.inr (Zm (Xe n))) (.int (n:Nat))=WP (n+1):=by rw[Jw _ (by rw[Mj,aJ (xP _)]),EY]
def JG(n:Nat):(WP n).length=n:=by unfold WP;rw[zY,xE]
def ZPq{l:List (jK)}(h:∀ t∈l,t.length<=3):(jn l).length<=4 * l.length:=by
 cases l with
 | nil=>exact zX _
 | cons t r=>
  let ht:=h t zO;have:(r.flatMap λu=>32::u).length<=4 * r.length:=by
   let hr:∀ u∈r,u.length<=3:=λu hu=>h u (zJ _ hu);clear h
   induction r with
   | nil=>exact zX _
   | cons u r ih=>
    have:=ih λx hx=>hr x (zJ _ hx);have:=hr u zO;rw[yI,zT,zU,zU];lia
  unfold jn;rw[zT,zU];lia
def ET{rs:jT}(h:∀ r∈rs,r.fit):fitsL (Vh rs) 3=true:=by
 induction rs with
 | nil=>rfl
 | cons r rs ih=>
  let e:Vh (r::rs)=r.1::r.2::Vh rs:=rfl;rw[e,fitsL,fitsL,(h r zO).1,(h r zO).2,ih λx hx=>h x (zJ _ hx)];rfl
def A0{rs:jT}(g:Xn rs):(shownL (Vh rs)).length<=180000:=by
 let h1:=shownL_len _ 3 (ET g.1);let h2:=Lr (r:=3) (by decide)
 let h3:=NH rs;let h4:=g.2.2.1;rw[h3] at h1;have:2 * rs.length * (QY 3+1)<=8 * 22001:=Nat.mul_le_mul (by lia) (by lia)
 lia
def Lf{n:Nat}(h:n<=200000):n<=sizeLine:=zK h (by decide)
def EU:zW "root" = Zm [114,111,111,116]:=Qd (by decide +kernel)
def HE{l:jK}(h:l.all (λc=>decide (c≠32))=true):32∉l:=λz=>by
 have:=zE.mp h 32 z;exact absurd this (by decide)
section
variable{kP kQ CTb:aj}
abbrev Nt(CTb:aj)(H:Hp)(X:Zx)(lk:aj)(Ts:jR)(es:List (jQ)):Prop:=Paired (λT e=>Xt CTb H T X.S e/\Ya X lk T) Ts es
inductive Hk(kP kQ CTb:aj)(H H':Hp)(ts:jN)(es:List (jQ))(L lk:aj)(X:Zx)(Ts:jR):Prop
 | mk:ZC H H'->(∀ c o,H c=some o->Ya X lk c/\c∉Ts/\c≠L)->H' L=some (.lst (Ts.map V.ref))->Ya X lk L->Sd kP kQ H' X lk [] U0 UR (es.reverse.filterMap id)->X.ts=ts->X.lv=zF ts.length->Nt CTb H' X lk Ts es->Ts.Nodup->Hk kP kQ CTb H H' ts es L lk X Ts
structure Qr(ts:jN)(es:List (jQ)):Prop where
 fo:Ug ts
 l30:ts.length<=30
 e99:es.length<=100
 inn:∀ r,some r∈es->r<ts.length
 hd:∀ i<ts.length,some i∈es\/∃ p<ts.length,i∈(gd ts p).bs
 low:∀ i<ts.length,(gd ts i).rows.length<=200
inductive YQ(kP kQ CTb:aj):Sp
 |mk{l:aj}{ts:jN}{es:List (jQ)}{H:Hp}{Q:VK}{E:XK}:H l=some (.lst (PY ts es))->Qr ts es ->
  (∀(H':Hp)(p L lk:aj)(X:Zx)(Ts:jR),Hk kP kQ CTb H H' ts es L lk X Ts->H p=none->H' p=some (.tup [.ref X.S,.ref L])->Q (.ref p) H')->YQ kP kQ CTb [.ref l] H Q E
def Xq:ZB ["rows","shelf","numbers","tables","at","words"] zEs (Zl JP):=⟨Z,Z,Z,by decide +kernel,Z,by decide +kernel,by decide +kernel⟩
inductive GM(kP kQ CTb:aj)(H:Hp)(l:aj)(ts:jN)(es:List (jQ))(S D L lk:aj):Nat->L2.St->Hp->Prop
 |mk{j:Nat}{X:Zx}{Ts:jR}{x4 x5:ji}{H':Hp}:ZC H H'->(∀ c o,H c=some o->Ya X lk c/\c∉Ts)->X.S=S->Sd kP kQ H' X lk [] U0 UR ((es.take (j-ts.length)).reverse.filterMap id++(zF (min j ts.length)).reverse)->X.ts=ts.take j->X.lv=zF (min j ts.length)->H' D=some (.dK (WP (min j ts.length)))->H' L=some (.lst (Ts.map V.ref))->Ya X lk D->Ya X lk L->Nt CTb H' X lk Ts (es.take (j-ts.length))->Ts.Nodup ->
  GM kP kQ CTb H l ts es S D L lk j [some (.ref l),some (.ref S),some (.ref D),some (.ref L),x4,x5] H'
def GD{ts:jN}{j:Nat}(h:j<ts.length):ts.take (j+1)=ts.take j++[gd ts j]:=by
 rw[yW,Qa h];rfl
def B3{j n:Nat}(h:j<n):zF (min (j+1) n)=zF (min j n)++[j]:=by
 rw[wV (yV h),wV h,xN]
def Sd.upd1{H H':Hp}{X:Zx}{lk a:aj}{ls:jh}{U:Nat->Prop}{g:Nat->Nat}{o:jK}{x:HO}(S:Sd kP kQ H X lk ls U g o)(oa:Ya X lk a)(e:H a=some x)(nt:∀ xs,x≠.tup xs)(s:∀ c o,c≠a->H c=some o->H' c=some o):Sd kP kQ H' X lk ls U g o:=
 S.fr (λb xs q=>s b _ (λz=>nt xs (by rw[z,e] at q;exact yL.inj q)) q) λb o n q=>s b o (λz=>n (z ▸ oa)) q
def PQ(l:jK):(Zm l).length=l.length:=Qw l
def BG{ts:jN}(fo:Ug ts)(l30:ts.length<=30){j:Nat}(hj:j<ts.length):∃ a b,QZ (gd ts j)=a++32::b/\32∉a/\a≠[114,111,111,116]/\(Zm (a++32::b)).length<=ar/\∀{X:Zx}{lk p D:aj}{U:Nat->Prop}{g:Nat->Nat}{o:jK}{ls:jh}{v:V}{H:Hp}{Q:VK}{E:XK},
  H p=some (.tup [.str (Zm a),.str (Zm b)])->Sd kP kQ H X lk ls U g o->X.ts=ts.take j->X.lv=zF j->H D=some (.dK (WP j))->(∀(H':Hp)(X':Zx),Go lk H H' X X'->Sd kP kQ H' X' lk ls U g (j::o)->X'.ts=ts.take (j+1)->X'.lv=zF (j+1)->Q (.int (j:Nat)) H')->Z9 kP kQ [.ref X.S,.ref D,.ref p,v] H Q E:=by
 let tl:(ts.take j).length=j:=sZ (yV hj);by_cases h0:(gd ts j).h=0
 ·let⟨eb,G⟩:=fo.lf j hj h0;let ll:=A0 G;refine⟨[108,101,97,102],_,aK h0,HE Z,by decide,?_,fun{X lk p D U g o ls v H Q E} hp S et ev hD k=>?_⟩
  ·simp only[PQ,zT,zU,yA];exact Lf (by lia)
  ·refine .leaf hp S (by rw[ev,xE];lia) (by rw[PQ];exact Lf (by lia)) Z G λH' X' G' S' e' v'=>?_
   rw[et,tl] at S' v';rw[et,tl];refine k H' X' G' S' ?_ (by rw[v',ev,xN])
   rw[e',et,GD hj]
   congr 2
   rcases et:gd ts j with ⟨h,rs,bs⟩;rw[et] at h0 eb;cases h0;cases eb;rfl
 ·let⟨bn,ov,es⟩:=fo.stem hj h0;let⟨_,h2,h4,hb,_⟩:=fo.st j hj h0;let ml:∀ t∈(gd ts j).bs.map Xe,t.length<=3:=λt ht=>by
   let⟨b,hbm,rfl⟩:=yR.mp ht;exact KM (by have:=(hb b hbm).1;lia)
  let jl:=ZPq ml;rw[zY] at jl;refine⟨[115,116,101,109],_,aJ h0,HE Z,by decide,?_,fun{X lk p D U g o ls v H Q E} hp S et ev hD k=>?_⟩
  ·simp only[PQ,zT,zU,yA];exact Lf (by lia)
  ·refine .stem (bs:=(gd ts j).bs) hp (λz=>?_) (λt ht=>?_) (by rw[PQ];exact Lf (by lia)) (by rw[zY];lia) (zY _).symm hD (λi b t e1 e2=>?_) S (by rw[ev,xE];lia) (λb hbm=>⟨by rw[ev];exact yX.mpr (hb b hbm).1,?_⟩) bn (by rw[et];exact ov) λH' X' G' S' e' v'=>?_
   ·have:=congrArg xC z;rw[zY] at this;rw[this] at h2;exact absurd h2 (by decide)
   ·let⟨b,hbm,rfl⟩:=yR.mp ht;exact EN (by decide)
   ·rw[zC,e1] at e2;cases e2;rw[Mj,aK (hb b (zG e1)).1]
   ·let bl:b∈X.lv:=by rw[ev];exact yX.mpr (hb b hbm).1
    have:=OR (S.dg.avn b bl) λx hx=>((S.dg.ave b bl x).mp hx).1;rw[ev,xE] at this;lia
   ·rw[et,tl] at S' v';rw[et,tl];rw[et,es] at e';exact k H' X' G' S' (by rw[e',GD hj]) (by rw[v',ev,xN])
def AR{n:Nat}{e:jQ}(n30:n<=30)(h:∀ r,e=some r->r<n):∃ x,QA e=[114,111,111,116]++32::x/\x.length<=70/\∀{D:aj}{v:V}{H:Hp}{Q:VK}{E:XK},H D=some (.dK (WP n))->Q (Yn e) H->Z8 [.ref D,.str (Zm x),v] H Q E:=by
 cases e with
 | none=>exact⟨_,Z,by decide,λhD q=>.none q⟩
 | some r=>
  refine⟨_,Z,?_,λhD q=>.num (.inl hD) (by rw[Mj,aK (h r rfl)];rfl) (λz=>A7 r (KU z)) q⟩
  exact zK (KM (yQ (h r rfl) (zK n30 (by decide)))) (by decide)
def ZFZ(F:Zo K "read_shelf" "read_shelf" JP f fd)(T:Txt mg)(L:Y4 K mg kP kQ)(LT:OM K mg CTb)(DI:Ud P w K mg kT 1 kP zEo (Uy kP))(DT:Kq P w K mg kT 5 CTb zEt (WR kP kQ CTb))(DH:ZA P w K mg kT 3 "held" zEc (VG kP kQ))(DR:ZA P w K mg kT 2 "read_root" zEk Z8)(DW:ZA P w K mg kT 1 "words_of" zFg Xv)(DTw:ZA P w K mg kT 13 "read_twig" zEq (Z9 kP kQ))(DG:ZA P w K mg kT 15 "give_up" zE1 (XW kP kQ)):ZK P w K mg kT ZV 16 f fd zEs (YQ kP kQ CTb):=by
 refine F.ok Xq (λvs H Q E h=>(by induction h;rfl)) (λcdv A outer s H vs Q E hr h=>?_)
 induction h
 rename_i l ts es H Q E hl ok k
 let nd:=Xq.nd;let hr1:=hr.mono (show 1<=15 by lia)
 let hr2:=hr.mono (show 2<=15 by lia)
 let hr3:=hr.mono (show 3<=15 by lia)
 let hr6:=hr.mono (show 6<=15 by lia)
 let hr13:=hr.mono (show 13<=15 by lia)
 let hu:=Zf.key hr (n:=1) (by decide)
 refine⟨_,ZO (Zr (i:=1) nd rfl (Or.inl rfl) (AQ DI hr2 rfl L.shelf))
  (ZO (Zr (i:=2) nd rfl (Or.inr rfl) Mf)
  (ZO (Zr (i:=3) nd rfl (Or.inl rfl) (Yo ZD))
  (ZO (Xi PassesOwn.never rfl (UW rfl T.range (ZF (Zv Yk rfl T.len YU (ZF (pv 0) ZD)) ZD)) (XB (i:=4) nd rfl (Or.inl rfl))
   (ZO (Zr (i:=5) nd rfl (Or.inl rfl) (Zc DW hr1 (ZF (Za (r:=YE K) YH (pv 0) (pv 4) (λ_ _=>rfl)) (ZF (pv 4) ZD))))
   (ZP (Zt (Z3 XE (Za (r:=Zp K) ZM (pv 5) ZL (λ_ _=>rfl)) YB (Zu _))
    (ZP (Xd (WW yB wC wB Qh (pv 3) (ZF (ZO4 DT hr6 rfl LT.tab (ZF (pv 1) (ZF (Zc DH hr3 (ZF (pv 1) (ZF (Zc DR hr2 (UA (pv 2) (Za (r:=Zp K) ZM (pv 5) ZL (λ_ _=>rfl)) (pv 4))) ZD))) ZD))) ZD))))
    (ZP (Zt (Z3 (Kb hr.units0) (pv 3) (Yo ZD) (Zu _)) (ZP (Ma hu (pv 2) (Ws Lk rfl T.str QO (ZF (pv 4) ZD)) (Zc DTw hr13 (ZF (pv 1) (UA (pv 2) (pv 5) (pv 4)))) rfl)) (ZP WM)))))))
  (ZO (A8 (Xd (Zc DG hr (UA (pv 1) (Wx [2] ["numbers"] rfl (ZNa (pv 2)) (λ_ _ _ _ _=>Wj) (λ_ _ _ _ _=>Lu hu (pv 1) (pv 0) (λ_ _=>rfl)) ⟨rfl,.inl rfl,rfl,trivial⟩) (Zv Yk rfl T.len YU (ZF (pv 0) ZD))))))
  (ZP (Zk (XR (ZF (pv 1) (ZF (pv 3) ZD))))))))),?_⟩
 intro S e nS ne z1;let i3:ZC H (upd (upd H e (.own S)) S (.ins kP e [])):=λb o q=>by
  rw[ZY (Ze q nS),ZY (Ze q ne)];exact q
 refine⟨S,e,Z,ZZ,λH3 d lk fr3 nd3 nlk3 dl3 R3=>⟨Z,?_⟩⟩;let s3:ZC H H3:=λb o q=>fr3 b o (Ze q nS) (i3 b o q);let S3:Sd kP kQ H3 ⟨S,d,[],[],λ_=>[],λ_=>0,[],[]⟩ lk [] U0 UR []:=⟨⟨R3,λi hi=>(by cases hi),Z,λi hi=>(by cases hi),Z,λi hi=>(by cases hi),λi hi=>(by cases hi),λi _ hi=>(by cases hi)⟩,
  ⟨λi hi=>(by cases hi),wW,λi hi=>(by cases hi),λi hi=>(by cases hi),λi hi=>(by cases hi),λi hi=>(by cases hi),⟨λb h=>absurd h (xP _),nofun,nofun,nofun⟩⟩⟩
 let of0:∀ c o,H c=some o->Ya ⟨S,d,[],[],λ_=>[],λ_=>0,[],[]⟩ lk c:=λc o q=>⟨Ze q nS,Ze q (i3.free nd3),Ze q (i3.free nlk3),λi hi=>(by cases hi)⟩
 obtain⟨X0,hX0⟩:∃ X:Zx,X=⟨S,d,[],[],λ_=>[],λ_=>0,[],[]⟩:=⟨_,Z⟩;rw[<-hX0] at S3 of0;let eS0:X0.S=S:=by rw[hX0]
 let et0:X0.ts=[]:=by rw[hX0]
 let ev0:X0.lv=[]:=by rw[hX0]
 clear hX0;intro D nD;let⟨H4,eU4,s4,hD4⟩:=Ym nD (.dK []);rw[eU4];let oD:=S3.sh.new nD;refine⟨nn (zR rfl),λLt nL=>?_⟩;let⟨H5,eU5,s5,hL5⟩:=Ym nL (.lst []);rw[eU5];let S5:=S3.same (s4.trans s5);let oL:=(S3.same s4).sh.new nL;let hD5:=s5 _ _ hD4;let s05:=s3.trans (s4.trans s5);let lr:(PY ts es).length=ts.length+es.length:=by rw[zT,zY,zY]
 let l30:=ok.l30;let e99:=ok.e99;refine⟨_,Z,l,_,Z,.inl (ZI.of (s05 _ _ hl)),_,Z,by lia,by lia,Ql (n:=(((PY ts es).length:Nat):Int).toNat) (GM kP kQ CTb H l ts es S D Lt lk)
  (.mk s05 (λc o q=>⟨of0 c o q,xF⟩) eS0 (by rw[Nat.zero_sub];rw[Nat.zero_min];exact S5) et0 (by rw[Nat.zero_min];exact ev0) (by rw[Nat.zero_min];exact hD5) hL5 oD oL (by rw[Nat.zero_sub];exact .nil) wW) (λj σ H6 hj hP=>?_) (λσ H6 hP=>?_)⟩
 ·rw[lr,vL] at hj;rw[wS]
  induction hP
  rename_i j X Ts x4 x5 H6 s6 of6 eS S6 et ev hD hL oD6 oL6 tb nT
  let hl6:=s6 _ _ hl;subst eS;by_cases hn:j<ts.length
  ·rw[show j-ts.length=0 by lia,wO] at S6 tb
   rw[wV (yV hn)] at S6 ev hD;cases tb;let hrow:(PY ts es)[j]? = some (.str (Zm (QZ (gd ts j)))):=by
    rw[xA (by rw[zY];exact hn),zC,Qa hn];rfl
   let⟨a,b,eab,a32,anr,alen,rt⟩:=BG (kP:=kP) (kQ:=kQ) ok.fo l30 hn;rw[eab] at hrow;refine⟨_,Z,_,Z,.inl ⟨l,_,_,_,Z,Z,ZI.of hl6,Yj hrow,_,Z,.mk a32 alen λH7 p s7 np hp=>?_⟩⟩;exists _,Z,_,_,_,_,Z,Z,Zd.of hp,Z,Z,_,Z;rw[EU,aH λz=>anr (KU (V.str.inj z))];refine Zn ⟨_,Z,nn (zR rfl),λq nq=>?_⟩;let⟨H8,eU8,s8,hq8⟩:=Ym nq (.lst []);rw[eU8];let s68:=s7.trans s8;refine⟨Lt,q,[],Z,Z,ZI.of (s68 _ _ hL),ZI.of hq8,_,Z,Z7 ?_⟩;refine⟨_,Z,_,Z,_,Z,_,Z,rt (s8 _ _ hp) (S6.same s68) et ev (s68 _ _ hD) λH9 X9 G9 S9 e9 v9=>?_⟩;let hD9:=G9.fr _ _ oD6 (s68 _ _ hD);let oD9:=G9.off _ _ oD6 (s68 _ _ hD);exists _,Z,_,Z,(j:Int),Z,Ms (uN (show j<=30 by lia) (by decide)),D,_,Z,.inl ⟨WP j,.inr (Zm (Xe j)),hD9,by rw[Le];rfl,by rw[JG];exact YF (by lia),Z⟩
   rw[ZM9];let fr10:∀ c o,c≠D->H9 c=some o->upd H9 D (.dK (WP (j+1))) c=some o:=λc o n e=>by rw[ZY n];exact e
   let hD10:=ZZ (H:=H9) (a:=D) (o:=.dK (WP (j+1)));let S10:=S9.upd1 oD9 hD9 nofun fr10;generalize upd H9 D (.dK (WP (j+1)))=H10 at fr10 S10 hD10⊢;let tr:∀ c o,Ya X lk c->c≠D->H6 c=some o->H10 c=some o/\Ya X9 lk c:=λc o n nd e=>⟨fr10 c o nd (G9.fr c o n (s68 _ _ e)),G9.off c o n (s68 _ _ e)⟩;let tL:=tr _ _ oL6 (Zg hL hD nofun) hL;rw[<-G9.S];refine .mk (Ts:=[]) (λc o q=>(tr c o (of6 c o q).1 (Ze (s3 c o q) nD) (s6 c o q)).1) (λc o q=>⟨(tr c o (of6 c o q).1 (Ze (s3 c o q) nD) (s6 c o q)).2,xF⟩) Z ?_ e9 ?_ ?_ tL.1 oD9 tL.2 ?_ wW
   ·rw[show j+1-ts.length=0 by lia,wO,B3 hn,wV (yV hn),rR]
    exact S10
   ·rw[wV hn];exact v9
   ·rw[wV hn];exact hD10
   ·rw[show j+1-ts.length=0 by lia,wO];exact .nil
  ·let hn:=wU hn;let⟨k,rfl⟩:=wD hn;rw[wE] at S6 tb;rw[wI hn] at S6 ev hD;let hk:k<es.length:=by lia
   let ek:es[k]? = some es[k]:=zV hk;generalize es[k]=e at ek;let em:=zG ek;let hrow:(PY ts es)[ts.length+k]? = some (.str (Zm (QA e))):=by
    rw[wZ (by rw[zY];exact hn),zY,wE,zC,ek];rfl
   let ei:∀ r,e=some r->r<ts.length:=λr z=>ok.inn r (z ▸ em);let⟨x,ex,xl,rr⟩:=AR l30 ei;rw[ex] at hrow;refine⟨_,Z,_,Z,.inl ⟨l,_,_,_,Z,Z,ZI.of hl6,Yj hrow,_,Z,.mk (HE rfl) ?_ λH7 p s7 np hp=>?_⟩⟩
   ·simp only[PQ,zT,zU,yA];exact yV (YF (by lia))
   exists _,Z,_,_,_,_,Z,Z,Zd.of hp,Z,Z,_,Z;rw[EU,aI rfl];let S7:=S6.same s7;refine Z7 ⟨_,Z,.inl ⟨Z,_,ZI.of (s7 _ _ hL)⟩,_,Z,_,Z,_,Z,_,Z,p,_,_,_,Z,Z,Zd.of hp,Z,_,Z,rr (s7 _ _ hD) (.mk S7 (λi z=>by rw[ev];exact yX.mpr (ei i z)) λH8 X8 G8 S8 e8 v8=>?_)⟩
   rw[<-G8.S];intro t dt nt ndt zt;let i8:ZC H8 (upd (upd H8 dt (.own t)) t (.ins CTb dt [])):=λb o q=>by
    rw[ZY (Ze q nt),ZY (Ze q ndt)];exact q
   let⟨dS8,hS8⟩:=S8.sh.sh.self;refine WR.mk (X:=X8) (dx:=dt) ZZ (Ze hS8 nt).symm (S8.sh.same i8) (λi z=>⟨by rw[v8,ev];exact yX.mpr (ei i z),S8.held i z⟩) λH9 fr9 ht=>⟨Z,?_⟩
   let s9:ZC H8 H9:=λb o q=>fr9 b o (Ze q nt) (i8 b o q);let tr9:∀ c o,Ya X lk c->H6 c=some o->H9 c=some o/\Ya X8 lk c:=λc o n e=>⟨s9 _ _ (G8.fr c o n (s7 _ _ e)),G8.off c o n (s7 _ _ e)⟩;let tL:=tr9 _ _ oL6 hL;let lT:=Paired.length tb;rw[sZ (yV hk)] at lT;exists Lt,_,_,Z,Z,tL.1,YF (by rw[zY];lia)
   let fr10:∀ c o,c≠Lt->H9 c=some o->upd H9 Lt (.lst (Ts.map V.ref++[.ref t])) c=some o:=λc o n e=>by rw[ZY n];exact e
   let hL10:=ZZ (H:=H9) (a:=Lt) (o:=.lst (Ts.map V.ref++[.ref t]));let S9:=S8.same s9;let S10:=S9.upd1 tL.2 tL.1 nofun fr10;generalize upd H9 Lt (.lst (Ts.map V.ref++[.ref t]))=H10 at fr10 S10 hL10⊢;let tr:∀ c o,Ya X lk c->c≠Lt->H6 c=some o->H10 c=some o/\Ya X8 lk c:=λc o n nd e=>⟨fr10 c o nd (tr9 c o n e).1,(tr9 c o n e).2⟩;let oldL:∀ c o,H c=some o->c≠Lt:=λc o q=>Ze (s4 _ _ (s3 c o q)) nL;let tD:=tr _ _ oD6 (Zg hD hL nofun) hD;let ntL:∀ c o,Ya X lk c->H6 c=some o->c≠t:=λc o n e=>Ze (G8.fr c o n (s7 _ _ e)) nt;let et10:es.take (k+1)=es.take k++[e]:=by rw[yW,ek];rfl
   let⟨dxt,ht'⟩:=id ht;refine .mk (Ts:=Ts++[t]) (λc o q=>(tr c o (of6 c o q).1 (oldL c o q) (s6 c o q)).1) (λc o q=>⟨(tr c o (of6 c o q).1 (oldL c o q) (s6 c o q)).2,λz=>?_⟩) Z ?_ (e8.trans (et.trans ?_)) ?_ ?_ (by rw[yZ];exact hL10) tD.2 tL.2 ?_ ?_
   ·rcases yU.mp z with y | y
    ·exact(of6 c o q).2 y
    ·exact ntL c o (of6 c o q).1 (s6 c o q) (zN.mp y)
   ·rw[show ts.length+k+1-ts.length=k+1 by lia,et10,rR,wI (by lia)]
    show Sd kP kQ H10 X8 lk [] U0 UR (([e]++(es.take k).reverse).filterMap id++_);rw[zEM,xW];cases e <;> exact S10
   ·rw[yS (by lia),yS (by lia)]
   ·rw[v8,ev,wI (by lia)]
   ·rw[wI (by lia)];exact tD.1
   ·rw[show ts.length+k+1-ts.length=k+1 by lia,et10]
    let tn:t≠Lt:=λz=>by rw[z,tL.1] at ht';cases ht'
    let tb':Nt CTb H10 X8 lk Ts (es.take k):=Paired.imp' (λT e h=>by
     let⟨⟨dx,hT⟩,oT⟩:=h;let tT:=tr _ _ oT (Zg hT hL nofun) hT;exact⟨⟨dx,by rw[G8.S];exact tT.1⟩,tT.2⟩) tb
    exact Jp ⟨⟨dxt,fr10 _ _ tn ht'⟩,S8.sh.new nt⟩ tb'
   ·rw[uV];refine⟨nT,xO.mpr ⟨xF,wW⟩,λT hT u hu z=>?_⟩;cases zN.mp hu;let⟨i,hi⟩:=List.getElem?_of_mem hT;let il:=(yY.mp hi).1;let⟨a,ha,⟨dx,hT'⟩,oT⟩:=ZU tb (zV (show i<(es.take k).length by rw[sZ (yV hk)];lia))
    rw[hi] at ha;cases ha;exact ntL _ _ oT hT' z
 ·rw[lr,vL] at hP;generalize ej:ts.length+es.length=j at hP
  induction hP
  rename_i j X Ts x4 x5 H6 s6 of6 eS S6 et ev hD hL oD6 oL6 tb nT
  rw[<-ej,show ts.length+es.length-ts.length=es.length by lia,xK,wI (xM _ _)] at S6
  rw[<-ej,wI (xM _ _)] at ev hD;rw[<-ej,yS (xM _ _)] at et;rw[<-ej,show ts.length+es.length-ts.length=es.length by lia,xK] at tb
  subst eS;refine⟨D,_,hD,_,Z,_,Z,D,_,Z,hD,λoo=>?_⟩;let nDr:∀ c o,H6 c=some o->(∀ kv,o≠.dK kv)->c≠D:=λc o e n=>Zg e hD (n _);let fr7:∀ c o,c≠D->H6 c=some o->upd H6 D (.frz oo (.dK (WP ts.length))) c=some o:=λc o n e=>by rw[ZY n];exact e
  let hD7:=ZZ (H:=H6) (a:=D) (o:=.frz oo (.dK (WP ts.length)));let S7:=S6.upd1 oD6 hD nofun fr7;generalize upd H6 D (.frz oo (.dK (WP ts.length)))=H7 at fr7 hD7 S7⊢;refine Wa (n:=ts.length) (λi z=>z=.str (Zm (Xe i))) (λR i ys H8=>ZC H7 H8/\H7 R=none/\ys=iN (zF i)) (YF (by lia))
   (λR i ys H8 hi hP=>⟨hP.1 _ _ hD7,by rw[JG];exact hi⟩) (λR i ys H8 z H9 hi hP hy=>⟨hy.1,?_⟩) (λR ys H8 hP=>⟨hP.1 _ _ hD7,by rw[JG];exact zX _⟩)
   (λR hR=>⟨Zq hR _,hR,Z⟩) (λR i ys H8 z eR hl' hi hz hP Rr hRr=>?_) (λR ys H8 eR hP=>?_)
  ·let⟨p,ep,rfl⟩:=hy.2;unfold WP at ep;rw[zC,List.getElem?_range hi] at ep;cases ep;rfl
  ·let⟨s8,nR,rfl⟩:=hP;subst hz;refine⟨_,Z,_,Z,D,.int (i:Nat),Z,.inl ⟨WP ts.length,.inr (Zm (Xe i)),.inr ⟨oo,s8 _ _ hD7⟩,Z,by rw[Mj,aK hi]⟩,hRr _ H8 eR ⟨Uh s8 nR,nR,?_⟩⟩
   rw[xN];unfold iN;rw[yZ];rfl
  ·let⟨s8,nR,rfl⟩:=hP;let S8:=S7.same s8;let pm:(es.reverse.filterMap id++(zF ts.length).reverse).Perm (zF ts.length++es.reverse.filterMap id):=zEK.trans ((uU _).append_right _);let D8:Sd kP kQ H8 X lk [] U0 UR (zF ts.length++es.reverse.filterMap id):=⟨S8.sh,S8.dg.perm pm⟩;let hl8:=s8 _ _ (fr7 _ _ (nDr _ _ (s6 _ _ hl) nofun) (s6 _ _ hl));refine⟨_,Z,l,_,Z,.inl (ZI.of hl8),.mk D8 eR (S7.sh.new nR) (λb hb=>?_) λH9 X9 G9 S9 e9 v9 _ _=>?_⟩
   ·let hb:=yX.mp hb;refine⟨?_,by rw[et];exact ok.low b hb⟩
    rcases ok.hd b hb with y | ⟨p,hp,y⟩
    ·have:0<(es.reverse.filterMap id).count b:=vS.mpr (uC.mpr ⟨some b,sT.mpr y,Z⟩);lia
    ·have:p∈X.av b:=(D8.dg.ave b (by rw[ev];exact yX.mpr hb) p).mpr ⟨by rw[ev];exact yX.mpr hp,by rw[et];exact y⟩
     have:=qQ this;lia
   let oD7:=oD6;let hD9:=G9.fr _ _ oD6 (s8 _ _ hD7);let oD9:=G9.off _ _ oD6 (s8 _ _ hD7);exists oo,WP ts.length,hD9;let fr10:∀ c o,c≠D->H9 c=some o->upd H9 D (.dK (WP ts.length)) c=some o:=λc o n e=>by rw[ZY n];exact e
   let S10:=S9.upd1 oD9 hD9 nofun fr10;generalize upd H9 D (.dK (WP ts.length))=H10 at fr10 S10⊢;let tr:∀ c o,Ya X lk c->c≠D->H6 c=some o->H10 c=some o/\Ya X9 lk c:=λc o n nd e=>⟨fr10 c o nd (G9.fr c o n (s8 _ _ (fr7 c o nd e))),G9.off c o n (s8 _ _ (fr7 c o nd e))⟩;let lD:Lt≠D:=nDr _ _ hL nofun
   let oldD:∀ c o,H c=some o->c≠D:=λc o q=>Ze (s3 c o q) nD;let oldL:∀ c o,H c=some o->c≠Lt:=λc o q=>Ze (s4 _ _ (s3 c o q)) nL;let old10:ZC H H10:=λc o q=>(tr c o (of6 c o q).1 (oldD c o q) (s6 c o q)).1;refine⟨_,Z,_,Z,nn (zR rfl),λp np=>?_⟩;let⟨H11,eU11,s11,h11⟩:=Ym np (.tup [.ref X.S,.ref Lt]);rw[eU11];refine k H11 p Lt lk X9 Ts (.mk (old10.trans s11) (λc o q=>⟨(tr c o (of6 c o q).1 (oldD c o q) (s6 c o q)).2,(of6 c o q).2,oldL c o q⟩) (s11 _ _ (tr _ _ oL6 lD hL).1) (tr _ _ oL6 lD hL).2 (S10.same s11) (e9.trans et) (v9.trans ev) (Paired.imp' (λT e h=>?_) tb) nT) (old10.free np) (by rw[G9.S];exact h11)
   let⟨⟨dx,hT⟩,oT⟩:=h;let tT:=tr _ _ oT (nDr _ _ hT nofun) hT;exact⟨⟨dx,by rw[G9.S];exact s11 _ _ tT.1⟩,tT.2⟩
end
inductive XG(A:jR)(H:Hp):V->ZW->Prop
 |mk{a rl:aj}{bV:V}{ws:jh}{t:ZW}:H a=some (.tup [.int (t.h:Nat),bV,.ref rl])->rl∉A->H rl=some (.lst ws)->kK H (Y1 t.rows) ws->(t.h=0->bV=.non)->(t.h≠0->∃ bl,bV=.ref bl/\bl∉A/\H bl=some (.lst (iN t.bs)))->XG A H (.ref a) t
def XG.step{A A':jR}{H H':Hp}{u:V}{t:ZW}(h:XG A H u t)(sub:∀ x∈A',x∈A)(fr:∀ c o,c∉A->H c=some o->H' c=some o)(m:YD H H'):XG A' H' u t:=by
 induction h
 rename_i e n1 e1 ks l st
 exact .mk (m _ _ e) (λz=>n1 (sub _ z)) (fr _ _ n1 e1) (ks.mono m _ _) l λz=>by
  let⟨bl,e2,n2,e3⟩:=st z;exact⟨bl,e2,λz=>n2 (sub _ z),fr _ _ n2 e3⟩
def XG.same{A A':jR}{H H':Hp}{u:V}{t:ZW}(h:XG A H u t)(sub:∀ x∈A',x∈A)(s:ZC H H'):XG A' H' u t:=h.step sub (λc o _ e=>s c o e) (ZC.tups s)
abbrev Zh(A:jR)(H:Hp)(us:jh)(ts:jN):Prop:=Paired (XG A H) us ts
def Zh.step{A A':jR}{H H':Hp}{us:jh}{ts:jN}(h:Zh A H us ts)(sub:∀ x∈A',x∈A)(fr:∀ c o,c∉A->H c=some o->H' c=some o)(m:YD H H'):Zh A' H' us ts:=Paired.imp' (λ_ _ h=>h.step sub fr m) h
def Zh.same{A A':jR}{H H':Hp}{us:jh}{ts:jN}(h:Zh A H us ts)(sub:∀ x∈A',x∈A)(s:ZC H H'):Zh A' H' us ts:=h.step sub (λc o _ e=>s c o e) (ZC.tups s)
abbrev Qf(rs:jT):List (jK):=rs.flatMap λr=>[r.1.shown,r.2.shown]
def LX(rs:jT):Qf rs=(Vh rs).map KT.shown:=by
 induction rs with
 | nil=>rfl
 | cons r rs ih=>
  show r.1.shown::r.2.shown::Qf rs=r.1.shown::r.2.shown::(Vh rs).map KT.shown;rw[ih]
def AX{rs:jT}(h:0<rs.length):jn ([108,101,97,102]::Qf rs)=[108,101,97,102]++32::shownL (Vh rs):=by
 cases rs with
 | nil=>cases h
 | cons r rs=>
  rw[LX];show [108,101,97,102]++vC (λu=>32::u) (r.1.shown::(r.2::Vh rs).map KT.shown)=[108,101,97,102]++32::shownL (r.1::r.2::Vh rs);rw[Du,yI,sU];rfl
def ZOE{bs:jK}(h:1<=bs.length):jn ([115,116,101,109]::bs.map Xe)=[115,116,101,109]++32::jn (bs.map Xe):=by
 cases bs with
 | nil=>cases h
 | cons b bs=>rfl
def D9{l:List (jK)}{B:Nat}(h:∀ t∈l,t.length<=B):((l.map Zm).map (·.length)).sum<=l.length * B:=by
 induction l with
 | nil=>exact zH _
 | cons t l ih=>
  have:=ih λx hx=>h x (zJ _ hx);have:=h t zO;rw[zB,zB,tV,zU,PQ,tP];lia
structure NG(t:ZW):Prop where
 lf:t.h=0->Xn t.rows
 st:t.h≠0->1<=t.bs.length/\t.bs.length<=4/\∀ b∈t.bs,b<1000
inductive Y6:Sp
 |mk{A:jR}{u:V}{t:ZW}{H:Hp}{Q:VK}{E:XK}:XG A H u t->NG t->(∀ H',ZC H H'->Q (.str (Zm (QZ t))) H')->Y6 [u] H Q E
def Ww:ZB ["_law_twig","_law_words","_law_spot","_law_value_here"] zFf (Zl Ji):=⟨Z,Z,Z,by decide +kernel,Z,by decide +kernel,by decide +kernel⟩
inductive Fh(H:Hp)(u:V)(rs:jT):Nat->L2.St->Hp->Prop
 |mk{j:Nat}{l:aj}{x2 x3:ji}{H':Hp}:ZC H H'->H' l=some (.lst ((([108,101,97,102]::Qf (rs.take j)).map Zm).map V.str))->Fh H u rs j [some u,some (.ref l),x2,x3] H'
def ZIP(F:Zo K "_law_twig_row" "_law_twig_row" Ji f fd)(T:Txt mg)(DS:ZA P w K mg kT 5 "_law_show" zEl (WL 4)):ZK P w K mg kT ZV 6 f fd zFf Y6:=by
 refine F.ok Ww (λvs H Q E h=>(by induction h;rfl)) (λcdv A outer s H vs Q E hr h=>?_)
 induction h
 rename_i A u t H Q E tg ok k
 let nd:=Ww.nd;refine⟨_,ZO (Zr (i:=1) nd rfl (Or.inl rfl) (Yo (ZF YB ZD)))
  (ZO (Zt (Uz (Os (Za (r:=Zp K) ZM (pv 0) ZL (λ_ _=>rfl))))
   (ZO (Zr (i:=1) nd rfl (Or.inl rfl) (Yo (ZF YB ZD)))
   (ZO (Xi PassesOwn.never rfl (Xu (Za (r:=Zp K) ZM (pv 0) ZL (λ_ _=>rfl))) (IZ rfl (Ol (XB (i:=2) nd rfl (Or.inl rfl)) (Ol (XB (i:=3) nd rfl (Or.inl rfl)) Ip)))
    (ZP (Zr (i:=1) nd rfl (Or.inl rfl) (Zs O9 (pv 1) (Yo (ZF (Zc DS hr (ZF (pv 2) ZD)) (ZF (Zc DS hr (ZF (pv 3) ZD)) ZD)))))))
   (ZP (Zk (WW uP tS sY Mo YB (ZF (pv 1) ZD)))))) Zw)
  (ZP (Zk (WW uP tS sY Mo YB (ZF (Zs O9 (pv 1) (Wx [] [] rfl (Xu (Za (r:=Zp K) ZM (pv 0) ZL (λ_ _=>rfl))) (λ_ _ _ _ _=>Wj) (λ_ _ _ _ _=>Ws Lk Z T.str QO (ZF (pv 0) ZD)) trivial)) ZD))))),?_⟩
 induction tg
 rename_i a rl bV ws t ea n1 el ks hl hs
 refine⟨nn (zR rfl),λl1 nl1=>?_⟩;rw[Ey];let⟨H1,eU1,s1,h1⟩:=Ym nl1 (.lst [.str (Zm [115,116,101,109])]);rw[eU1];exists _,Z,a,_,_,_,Z,Z,Zd.of (s1 _ _ ea),Z,_,Z;by_cases h0:t.h=0
 ·obtain rfl:=hl h0;let G:=ok.lf h0;refine Z7 ⟨nn (zR rfl),λl2 nl2=>?_⟩;rw[K8];let⟨H2,eU2,s2,h2⟩:=Ym nl2 (.lst [.str (Zm [108,101,97,102])]);rw[eU2];let s02:=s1.trans s2;let hrl:=s02 _ _ el;let lw:ws.length=t.rows.length:=by have:=ks.length;rw[<-this];exact zY _
  let l4:=G.2.2.1;refine⟨_,Z,a,_,_,_,Z,Z,Zd.of (s02 _ _ ea),Z,rl,Z,⟨_,ZI.of hrl⟩,Vt (K:=K) (a:=rl) (xs:=ws) (Fh H (.ref a) t.rows) (.mk s02 h2) ?_ ?_ ?_⟩
  ·intro j σ H3 _ hI
   induction hI
   rename_i s3 _
   exact ZI.of (s3 _ _ el)
  ·intro j u σ H3 hu hI
   induction hI
   rename_i j l3 x2 x3 H3 s3 e3
   let⟨ra,vk,vv,er,rfl,e4,k1,k2⟩:=Oz (ks.mono (ZC.tups s3) _ _) hu;let rm:=G.1 _ (zG er);exists ra,[vk,vv],Z,Zd.of e4,Z,_,_,Z,_,_,Z,Z;refine⟨_,Z,_,Z,vk,_,3,Z,k1,rm.1,by decide,by decide,λH4 s4=>⟨_,Z,vv,_,3,Z,k2.mono (ZC.tups s4) _ _,rm.2,by decide,by decide,λH5 s5=>⟨nn (zR rfl),λq nq=>?_⟩⟩⟩
   let⟨H6,eU6,s6,h6⟩:=Ym nq (.lst [.str (Xx (t.rows.getD j rd).1),.str (Xx (t.rows.getD j rd).2)]);rw[eU6];let s36:=s4.trans (s5.trans s6);refine⟨l3,q,_,_,Z,Z,s36 _ _ e3,h6,?_,λv nv=>?_⟩
   ·let hj:=(yY.mp er).1;have:(Qf (t.rows.take j)).length=2 * (t.rows.take j).length:=by rw[LX,zY,NH]
    rw[zY,zY,zU,this,yK];exact yV (YF (by simp only[zU,yA];lia))
   ·let⟨H7,eU7,s7,h7⟩:=Ym nv (.lst ((([108,101,97,102]::Qf (t.rows.take j)).map Zm).map V.str++[.str (Xx (t.rows.getD j rd).1),.str (Xx (t.rows.getD j rd).2)]));rw[eU7];refine .mk (s3.trans (s36.trans s7)) ?_;rw[h7,yW,er];simp[Qf];exact⟨Z,Z⟩
  ·intro σ H3 hI;rw[lw] at hI;generalize ej:t.rows.length=j at hI
   induction hI
   rename_i j l3 x2 x3 H3 s3 e3
   rw[<-ej,xK] at e3;let fl:∀ x∈[108,101,97,102]::Qf t.rows,x.length<=22000:=λx hx=>by
    rcases zI.mp hx with y | y
    ·rw[y];decide
    ·rw[LX] at y;let⟨u,hu,rfl⟩:=yR.mp y;let ff:=ET G.1;rw[Q1] at ff;exact zK (NL u 3 (zE.mp ff u hu)) (Lr (by decide))
   let sm:=D9 fl;let ln:(Qf t.rows).length=2 * t.rows.length:=by rw[LX,zY,NH]
   rw[zU,ln] at sm;let m9:(2 * t.rows.length+1) * 22000<=9 * 22000:=tY _ (by lia)
   exists Z,_,Z,_,l3,([108,101,97,102]::Qf t.rows).map Zm,Z,Z,ZI.of e3,?_
   ·rw[zY,zU,ln,show (zW " ").length=1 by decide +kernel];lia
   ·rw[La,HG,AX G.2.1];have:=k H3 s3;unfold QZ at this;rw[aK h0] at this;exact this
 ·let⟨bl,rfl,n2,hb⟩:=hs h0;let⟨b1,b4,bK⟩:=ok.st h0;refine Zn ⟨Z,_,Z,_,Z,a,_,_,_,Z,Z,Zd.of (s1 _ _ ea),Z,bl,Z,⟨_,ZI.of (s1 _ _ hb)⟩,?_⟩;let lb:(iN t.bs).length=t.bs.length:=zY _;refine Wa (n:=t.bs.length) (λi z=>(iN t.bs)[i]? = some z) (λD i ys H3=>ZC H1 H3/\H1 D=none/\ys=(((t.bs.take i).map Xe).map Zm).map V.str) (YF (by lia))
   (λD i ys H3 hi hP=>⟨_,(iN t.bs)[i]'(by lia),ZI.of (hP.1 _ _ (s1 _ _ hb)),zV _⟩) (λD i ys H3 z H4 hi hP hy=>⟨hy.1,hy.2 _ (ZI.of (hP.1 _ _ (s1 _ _ hb)))⟩) (λD ys H3 hP=>⟨_,ZI.of (hP.1 _ _ (s1 _ _ hb)),by rw[lb];exact zX _⟩)
   (λD hD=>⟨Zq hD _,hD,Z⟩) (λD i ys H3 z eD hl' hi hz hP R hR=>?_) (λD ys H3 eD hP=>?_)
  ·let⟨s3,nD,rfl⟩:=hP;let⟨b,eb,rfl⟩:=Qi hz;let b9:=bK b (zG eb);refine⟨_,Z,(b:Int),Z,Ms (yQ (show (b:Int).natAbs<1000 from b9) (by decide)),hR _ H3 eD ⟨Uh s3 nD,nD,?_⟩⟩
   rw[Le,yW,eb];simp
  ·let⟨s3,nD,rfl⟩:=hP;rw[xK] at eD;let s13:=s1.trans s3;refine⟨l1,D,_,_,Z,Z,s3 _ _ h1,eD,yV (YF (by simp only[zU,yA,zY];lia)),λq nq=>?_⟩
   let⟨H4,eU4,s4,h4⟩:=Ym nq (.lst ([V.str (Zm [115,116,101,109])]++((t.bs.map Xe).map Zm).map V.str));rw[eU4];let sm:=D9 (l:=[115,116,101,109]::t.bs.map Xe) (B:=4) λx hx=>by
    rcases zI.mp hx with y | y
    ·rw[y];decide
    ·let⟨b,hbm,rfl⟩:=yR.mp y;exact zK (KM (bK b hbm)) (by decide)
   rw[zU,zY] at sm;exists zW " ",q,([115,116,101,109]::t.bs.map Xe).map Zm,Z,Z,ZI.of h4,?_
   ·rw[zY,zU,zY,show (zW " ").length=1 by decide +kernel];lia
   ·rw[La,HG,ZOE b1];have:=k H4 (s13.trans s4);unfold QZ at this;rw[aJ h0] at this;exact this
def Ai:zW "root -" = Zm (QA none):=Qd (by decide +kernel)
def Ed:zW "root " = Zm [114,111,111,116,32]:=Qd (by decide +kernel)
inductive IY(x y:V)(H:Hp)(Q:VK):Prop
 |mk(a b:_)(_:ZE H a x)(_:ZE H b y)(_:a.cmp b=true)(_:a.depth<=200)(_:Q (.bl (!b.plt a)) H)
def Bv{k:Nat}(hr:Zf k X.A):Y7 X (aA .LtE) IY:=by
 intro kR s σ H x y v u Q I rx ry h;let⟨a,b,ha,hb,hc,hd,q⟩:=h;exact II true a.depth a b X.A v u (zX _) (Uw I a x v ha rx) (Uw I b y u hb ry) hc (Zf.key hr hd) X.prog X.w X.xe _ ⟨.bl _,H,I,Z,q⟩
inductive Xa:Sp
 |mk{e:jQ}{H:Hp}{Q:VK}{E:XK}:(∀ r,e=some r->r<1000)->Q (.str (Zm (QA e))) H->Xa [Yn e] H Q E
def Aj:ZB zFc zFc (Zl Im):=⟨Z,Z,Z,by decide +kernel,Z,by decide +kernel,by decide +kernel⟩
def ZKF(F:Zo K "_law_end_row" "_law_end_row" Im f fd)(T:Txt mg):ZK P w K mg kT ZV 1 f fd zFc Xa:=by
 refine F.ok Aj (λvs H Q E h=>(by induction h;rfl)) (λcdv A outer s H vs Q E hr h=>?_)
 induction h
 rename_i e H Q E hK q
 exists _,ZO (Zt (Uz (Os (pv 0))) (ZP (Zk YB)) Zw) (ZP (Zk (Zs PR YB (Ws Lk rfl T.str QO (ZF (pv 0) ZD)))))
 cases e with
 | none=>
  refine⟨_,Z,_,Z,Z7 ?_⟩;rw[Ai];exact q
 | some r=>
  let r9:=hK r Z;refine⟨_,Z,_,Z,Zn ⟨_,Z,(r:Int),Z,Ms (yQ (show (r:Int).natAbs<1000 from r9) (by decide)),_,_,Z,Z,?_,?_⟩⟩
  ·rw[Ed,Le,PQ,PQ];have:=KM r9;exact yV (YF (by simp only[zU,yA];lia))
  ·rw[Ed,Le];let e:Zm [114,111,111,116,32]++Zm (Xe r)=Zm (QA (some r)):=by
    have:=K9 [114,111,111,116,32] (Xe r) [];rw[wK] at this;exact(Qd (by rfl)).trans this
   rw[e];exact q
abbrev Qt(t:ZW):KT:=(t.rows.getD 0 rd).1
def ZLG{A:jR}{H:Hp}{u:V}{t:ZW}(h:XG A H u t)(ne:t.rows≠[]):∃(a rl ra:aj)(bV vk vv:V)(ws:jh),u=.ref a/\H a=some (.tup [.int (t.h:Nat),bV,.ref rl])/\H rl=some (.lst ws)/\ws[0]? = some (.ref ra)/\H ra=some (.tup [vk,vv])/\ZE H (Qt t) vk:=by
 induction h
 rename_i a rl bV ws t ea n1 el ks hl hs
 let lw:ws.length=t.rows.length:=by have:=ks.length;rw[<-this];exact zY _
 let l0:0<ws.length:=by rw[lw];exact xJ.mpr ne
 let⟨ra,vk,vv,er,e1,e4,k1,k2⟩:=Oz ks (zV l0);exact⟨a,rl,ra,bV,vk,vv,ws,Z,ea,el,by rw[zV l0,e1],e4,k1⟩
inductive XS:Sp
 |mk{A:jR}{nl tl:aj}{ns:jK}{us:jh}{ts:jN}{H:Hp}{Q:VK}{E:XK}:H nl=some (.lst (iN ns))->H tl=some (.lst us)->Zh A H us ts->(∀ b∈ns,b<ts.length)->(∀ i<ts.length,(gd ts i).rows≠[]/\∀ r∈(gd ts i).rows,r.fit)->ns.length<=200 ->
  (∀(H':Hp)(D:aj)(ms:jK),ZC H H'->H D=none->H' D=some (.lst (iN ms))->(∀ x∈ms,x∈ns)->ms.length<=ns.length->Q (.ref D) H')->XS [.ref nl,.ref tl] H Q E
def Vc:ZB ["_law_numbers","_law_twigs","_law_found","_law_number","_law_at","_law_least"] zEw (Zl Kz):=⟨Z,Z,Z,by decide +kernel,Z,by decide +kernel,by decide +kernel⟩
inductive CA(H:Hp)(nl tl D:aj)(ns:jK):Nat->L2.St->Hp->Prop
 |mk{j:Nat}{ms:jK}{x3 x4 x5:ji}{H':Hp}:ZC H H'->H' D=some (.lst (iN ms))->(∀ x∈ms,x∈ns)->ms.length=j->CA H nl tl D ns j [some (.ref nl),some (.ref tl),some (.ref D),x3,x4,x5] H'
inductive GB(H:Hp)(nl tl D:aj)(n:Nat)(x3 lv:V)(ll:KT):Nat->L2.St->Hp->Prop
 |mk{i m:Nat}{H':Hp}:ZC H H'->i+m=n->ZE H' ll lv->GB H nl tl D n x3 lv ll m [some (.ref nl),some (.ref tl),some (.ref D),some x3,some (.int (i:Nat)),some lv] H'
def MM{α β:Type}{C R:α->β->Prop}{G:Prop}(h:(∀ a b,C a b->R a b)->G)(r:∀ a b,C a b->R a b):G:=h r
def ZI3(F:Zo K "_law_by_keys" "_law_by_keys" Kz f fd)(T:Txt mg)(DR:ZA P w K mg kT 5 "_law_rank" zEl (Yz 4)):ZK P w K mg kT ZV 6 f fd zEw XS:=by
 refine F.ok Vc (λvs H Q E h=>(by induction h;rfl)) (λcdv A outer s H vs Q E hr h=>?_)
 induction h
 rename_i A nl tl ns us ts H Q E hnl htl tg inn ok l200 k
 let nd:=Vc.nd;let fk:∀{i:Nat}{l:Expr}{tt:TE},True:=fun{i l tt}=>trivial;refine⟨_,ZO (Zr (i:=2) nd rfl (Or.inl rfl) (Yo ZD))
  (ZO (Xi PassesOwn.never rfl (Xu (pv 0)) (XB (i:=3) nd rfl (Or.inl rfl))
   (ZO (Zr (i:=4) nd rfl (Or.inl rfl) ZL)
   (ZO (Zr (i:=5) nd rfl (Or.inl rfl) (Zc DR hr (ZF (Za (r:=Zp K) ZM (Za (r:=YE K) YH (Za (r:=Zp K) ZM (Za (r:=YE K) YH (pv 1) (pv 3) (λ_ _=>rfl)) ZL (λ_ _=>rfl)) ZL (λ_ _=>rfl)) ZL (λ_ _=>rfl)) ZD)))
   (ZO (NQ PassesOwn.never (PW.pt (Nk (Z3 Pr (pv 4) (Zv Yk rfl T.len YU (ZF (pv 2) ZD)) (Zu _)) (NV (Z3 (Bv hr) (Zc DR hr (ZF (Za (r:=Zp K) ZM (Za (r:=YE K) YH (Za (r:=Zp K) ZM (Za (r:=YE K) YH (pv 1) (Za (r:=YE K) YH (pv 2) (pv 4) (λ_ _=>rfl)) (λ_ _=>rfl)) ZL (λ_ _=>rfl)) ZL (λ_ _=>rfl)) ZL (λ_ _=>rfl)) ZD)) (pv 5) (Zu _)))))
    (ZP (Zr (i:=4) nd rfl (Or.inl rfl) (Zs Y2 (pv 4) ZL))))
   (ZP (Xd (WW yB qE qC FD (pv 2) (ZF (pv 4) (ZF (pv 3) ZD)))))))))
  (ZP (Zk (pv 2)))),?_⟩
 let lus:=Paired.length tg;let key:∀{H':Hp}{b:Nat},ZC H H'->b<ts.length->∃(a rl ra:aj)(bV vk vv:V)(ws:jh),us[b]? = some (.ref a)/\H' a=some (.tup [.int ((gd ts b).h:Nat),bV,.ref rl])/\H' rl=some (.lst ws)/\ws[0]? = some (.ref ra)/\H' ra=some (.tup [vk,vv])/\ZE H' (Qt (gd ts b)) vk/\(Qt (gd ts b)).fits 3=true:=fun{H' b} s hb=>by
  let⟨u,hu,tb⟩:=ZU tg (Qa hb);let⟨n0,ft⟩:=ok b hb;let⟨a,rl,ra,bV,vk,vv,ws,rfl,e1,e2,e3,e4,e5⟩:=ZLG tb n0;let l0:=xJ.mpr n0;exact⟨a,rl,ra,bV,vk,vv,ws,hu,s _ _ e1,s _ _ e2,e3,s _ _ e4,e5.mono (ZC.tups s) _ _,(ft _ (by rw[zQ,zV l0];exact yD l0)).1⟩
 refine⟨nn (zR rfl),λD nD=>?_⟩;let⟨H1,eU1,s1,h1⟩:=Ym nD (.lst []);rw[eU1];refine⟨_,Z,nl,Z,⟨_,ZI.of (s1 _ _ hnl)⟩,Vt (K:=K) (a:=nl) (xs:=iN ns) (CA H nl tl D ns) (.mk (ms:=[]) s1 h1 (λx hx=>by cases hx) rfl) ?_ ?_ ?_⟩
 ·intro j σ H2 _ hI
  induction hI
  rename_i s2 _ _ _
  exact ZI.of (s2 _ _ hnl)
 ·intro j u σ H2 hu hI
  induction hI
  rename_i j ms x3 x4 x5 H2 s2 h2 sub ml
  let⟨b,ebj,rfl⟩:=Qi hu;let bm:=zG ebj;let jl:=(yY.mp ebj).1;let⟨a,rl,ra,bV,vk,vv,ws,e0,e1,e2,e3,e4,e5,e6⟩:=key s2 (inn b bm);refine⟨_,Z,_,Z,.inl ⟨tl,_,_,_,Z,Z,ZI.of (s2 _ _ htl),Yj e0,a,_,_,_,Z,Z,Zd.of e1,Z,.inl ⟨rl,_,_,_,Z,Z,ZI.of e2,Yj (j:=0) e3,ra,_,_,_,Z,Z,Zd.of e4,Z,vk,_,3,Z,e5,e6,?_,λlv H3 kl s3=>?_⟩⟩⟩
  ·exact sS (Uj _ _ e6)
  let h3:=s3 _ _ h2;let s03:=s2.trans s3;let dp:(Qt (gd ts b)).rk.depth<=200:=zK (NZ _) (by have:=Uj _ _ e6;lia)
  apply MM (C:=fun(i:Nat)(H4:Hp)=>ZC H3 H4/\i<=ms.length)
  ·intro ex;exists GB H3 nl tl D ms.length (.int (b:Nat)) lv (Qt (gd ts b)).rk,⟨_,.mk (i:=0) (ZC.refl H3) (vO _) kl⟩;intro m σ H4 hW
   induction hW
   rename_i i m H4 s4 im k4
   let h4:=s4 _ _ h3;let s04:=s03.trans s4;exists _,Z,_,Z,D,_,Z,.inl (ZI.of h4),_,_,Z,Z,_,Z;let lm:(iN ms).length=ms.length:=zY _;by_cases y:i<ms.length
   ·rw[aI (show ((i:Nat):Int)<((iN ms).length:Nat) by rw[lm];lia)]
    let⟨a2,rl2,ra2,bV2,vk2,vv2,ws2,f0,f1,f2,f3,f4,f5,f6⟩:=key s04 (inn _ (sub _ (yD y)));let em:(iN ms)[i]? = some (.int (ms[i]:Nat)):=by rw[zC,zV y];rfl
    refine Z7 ⟨_,Z,_,Z,_,Z,.inl ⟨D,_,_,_,Z,Z,ZI.of h4,Yj em,.inl ⟨tl,_,_,_,Z,Z,ZI.of (s04 _ _ htl),Yj f0,a2,_,_,_,Z,Z,Zd.of f1,Z,.inl ⟨rl2,_,_,_,Z,Z,ZI.of f2,Yj (j:=0) f3,ra2,_,_,_,Z,Z,Zd.of f4,Z,vk2,_,3,Z,f5,f6,sS (Uj _ _ f6),λlv2 H5 kl2 s5=>?_⟩⟩⟩⟩;exists _,Z,(Qt (gd ts ms[i])).rk,(Qt (gd ts b)).rk,kl2,k4.mono (ZC.tups s5) _ _,Mx _ _,zK (NZ _) (by have:=Uj _ _ f6;lia),_,Z
    cases(Qt (gd ts b)).rk.plt (Qt (gd ts ms[i])).rk with
    | true=>exact Zn (ex i H5 ⟨s4.trans s5,yV y⟩)
    | false=>exact Z7 ⟨_,λ_ _ z=>z,_,Z,_,_,Z,Z,m-1,by lia,.mk (i:=i+1) (s4.trans s5) (by lia) (k4.mono (ZC.tups s5) _ _)⟩
   ·rw[aH (show ¬ ((i:Nat):Int)<((iN ms).length:Nat) by rw[lm];lia)]
    exact Zn (Zn (ex i H4 ⟨s4,by lia⟩))
  ·intro i H4 hc;let⟨s4,il⟩:=hc;let h4:=s4 _ _ h3;exists _,Z,.inl ⟨Z,_,ZI.of h4⟩,_,Z,_,Z,D,_,i,_,Z,Z,h4,by rw[zY];exact il,YF (by rw[zY,ml];lia)
   let e:(iN ms).take i++.int (b:Nat)::(iN ms).drop i=iN (ms.take i++b::ms.drop i):=by
    unfold iN;rw[yZ,zB,rF,zEA]
   rw[e];refine .mk (λc o q=>?_) ZZ (λx hx=>?_) ?_
   ·rw[ZY (Ze q nD)];exact s4 _ _ (s03 _ _ q)
   ·rcases yU.mp hx with z | z
    ·exact sub x (tX z)
    ·rcases zI.mp z with z | z
     ·rw[z];exact bm
     ·exact sub x (tG z)
   ·rw[zT,zU,yK,xR];lia
 ·intro σ H2 hI;rw[show (iN ns).length=ns.length from zY _] at hI;generalize ej:ns.length=j at hI
  induction hI
  rename_i j ms x3 x4 x5 H2 s2 h2 sub ml
  exact⟨_,Z,k H2 D ms s2 nD h2 sub (by rw[ml,ej];exact zX _)⟩
def Ep{a b:jT}(nb:b≠[]):(a++b).getD ((a++b).length-1) rd=b.getD (b.length-1) rd:=by
 have:=xJ.mpr nb;rw[zQ,zQ,zT,wZ (by lia)]
 congr 2
 lia
def ZOe{a b:jT}(ha:Up a)(hb:Up b)(na:a≠[])(nb:b≠[])(h:(a.getD (a.length-1) rd).1.lt (b.getD 0 rd).1=true):Up (a++b):=by
 obtain⟨a',x,rfl⟩:∃ a' x,a=a'++[x]:=⟨_,_,(sQ na).symm⟩
 obtain⟨y,b',rfl⟩:∃ y b',b=y::b':=by cases b with
  | nil=>exact absurd Z nb
  | cons y b'=>exact⟨y,b',Z⟩
 rw[Ep (b:=[x]) (by simp)] at h
 let h:x.1.lt y.1=true:=h;let ha':((a'++[x]).map (·.1)).Pairwise λx y=>x.lt y=true:=ha;let hb':((y::b').map (·.1)).Pairwise λx y=>x.lt y=true:=hb;show ((a'++[x]++y::b').map (·.1)).Pairwise λx y=>x.lt y=true;rw[yZ,wY];let hy:∀ k∈(y::b').map (·.1),x.1.lt k=true:=λk hk=>by
  rw[zB] at hk hb';rcases zI.mp hk with z | z
  ·rw[z];exact h
  ·exact lt_trans' _ _ _ h ((vQ.mp hb').1 k z)
 refine⟨ha',hb',λk hk m hm=>?_⟩;rw[yZ] at hk ha';rcases yU.mp hk with z | z
 ·exact lt_trans' _ _ _ ((wY.mp ha').2.2 k z x.1 (by simp)) (hy m hm)
 ·rw[zB,uK] at z;rw[zN.mp z];exact hy m hm
def Ci{ts:jN}{bs:jK}{b:Nat}(nb:(gd ts b).rows≠[]):((Z4 ts (bs++[b])).getD ((Z4 ts (bs++[b])).length-1) rd).1=((gd ts b).rows.getD ((gd ts b).rows.length-1) rd).1:=by
 let e:Z4 ts (bs++[b])=Z4 ts bs++(gd ts b).rows:=by rw[O1];show _++vC _ [b]=_;simp
 rw[e,Ep nb]
def Lm{A:jR}{H:Hp}{u:V}{t:ZW}(h:XG A H u t):∃(a rl:aj)(bV:V)(ws:jh),u=.ref a/\H a=some (.tup [.int (t.h:Nat),bV,.ref rl])/\H rl=some (.lst ws)/\rl∉A/\ws.length=t.rows.length/\∀ i<t.rows.length,∃(ra:aj)(vk vv:V),ws[i]? = some (.ref ra)/\H ra=some (.tup [vk,vv])/\ZE H (t.rows.getD i rd).1 vk:=by
 induction h
 rename_i a rl bV ws t ea n1 el ks hl hs
 let lw:ws.length=t.rows.length:=by have:=ks.length;rw[<-this];exact zY _
 refine⟨a,rl,bV,ws,Z,ea,el,n1,lw,λi hi=>?_⟩;let⟨ra,vk,vv,er,e1,e4,k1,k2⟩:=Oz ks (zV (show i<ws.length by lia))
 exact⟨ra,vk,vv,by rw[zV (show i<ws.length by lia),e1],e4,k1⟩
inductive Yh:Sp
 |mk{A:jR}{p tl:aj}{hi:Nat}{us:jh}{ts:jN}{H:Hp}{Q:VK}{E:XK}:ZS H p->p∈A->tl≠p->H tl=some (.lst us)->Zh A H us ts->Ug ts->ts.length<=30 ->
  (∀(H':Hp)(D:aj)(bs:jK),ZS H' p->ZG p H H'->H D=none->H' D=some (.lst (iN bs))->bs.length<=4->(∀ b∈bs,b<ts.length/\(gd ts b).h=hi)->Up (Z4 ts bs)->Q (.ref D) H')->Yh [.ref p,.ref tl,.int (hi:Nat)] H Q E
def WC:ZB ["_law_well_here","_law_twigs","_law_high","_law_some","_law_most","_law_first","_law_at"] zEp (Zl HN):=⟨Z,Z,Z,by decide +kernel,Z,by decide +kernel,by decide +kernel⟩
inductive GE(H:Hp)(p tl D:aj)(hi:Nat)(mo:Int)(ts:jN):Nat->L2.St->Hp->Prop
 |mk{j:Nat}{bs:jK}{fi:Int}{x6:ji}{H':Hp}:ZG D H H'->H' D=some (.lst (iN bs))->bs.length<=4->(∀ b∈bs,b<ts.length/\(gd ts b).h=hi)->Up (Z4 ts bs)->GE H p tl D hi mo ts j [some (.ref p),some (.ref tl),some (.int (hi:Nat)),some (.ref D),some (.int mo),some (.int fi),x6] H'
abbrev CC(H:Hp)(D:aj)(hi:Nat)(ts:jN)(cs:jK)(H5:Hp):Prop:=ZG D H H5/\H5 D=some (.lst (iN cs))/\cs.length<=4/\(∀ b∈cs,b<ts.length/\(gd ts b).h=hi)/\Up (Z4 ts cs)
def NF{α β:Type}{C:α->β->Prop}{a:α}{b:β}(h:C a b):∃ a' b',b=b'/\C a' b':=⟨a,b,Z,h⟩
def ZG4(F:Zo K "_law_branches" "_law_branches" HN f fd)(T:Txt mg)(DP:ZA P w K mg kT 1 "_law_pull" zEd Z6)(DB:ZA P w K mg kT 6 "_law_by_keys" zEw XS)(DR:ZA P w K mg kT 5 "_law_rank" zEl (Yz 4)):ZK P w K mg kT ZV 7 f fd zEp Yh:=by
 refine F.ok WC (λvs H Q E h=>(by induction h;rfl)) (λcdv A outer s H vs Q E hr h=>?_)
 induction h
 rename_i A p tl hi us ts H Q E W pA tlp htl tg fo l30 k
 let nd:=WC.nd;let hr1:=hr.mono (show 1<=6 by lia)
 let hr5:=hr.mono (show 5<=6 by lia)
 refine⟨_,ZO (Zr (i:=3) nd rfl (Or.inl rfl) (Yo ZD))
  (ZO (Zr (i:=4) nd rfl (Or.inl rfl) (Zs Y2 ZL (Zc DP hr1 (ZF (pv 0) (ZF ZL ZD)))))
  (ZO (Zr (i:=5) nd rfl (Or.inl rfl) (Zc DP hr1 (ZF (pv 0) (ZF ZL ZD))))
  (ZO (Xi PassesOwn.never rfl (Xu (Zc DB hr (ZF (Wx [1,2] ["_law_twigs","_law_high"] rfl (UW rfl T.range (ZF (Zv Yk rfl T.len YU (ZF (pv 1) ZD)) ZD)) (λ_ _ _ _ _=>JX (Z3 XE (Za (r:=Zp K) ZM (Za (r:=YE K) YH (pv 1) (pv 0) (λ_ _=>rfl)) ZL (λ_ _=>rfl)) (pv 2) (Zu _))) (λ_ _ _ _ _=>pv 0) ⟨rfl,.inl rfl,rfl,rfl,.inl rfl,rfl,trivial⟩) (ZF (pv 1) ZD)))) (XB (i:=6) nd rfl (Or.inl rfl))
   (ZO (Zt (PW.pt (Nk (Z3 Pr (Zv Yk rfl T.len YU (ZF (pv 3) ZD)) (pv 4) (Zu _)) (NV (Z3 XE (pv 5) ZL (Zu _)))))
    (ZP (Zt (PW.pt (Vo (Z3 (Kb hr.units0) (pv 3) (Yo ZD) (Zu _)) (UN (Z3 (Hy hr) (Zc DR hr5 (ZF (Za (r:=Zp K) ZM (Za (r:=YE K) YH (Za (r:=Zp K) ZM (Za (r:=YE K) YH (pv 1) (Za (r:=YE K) YH (pv 3) (LG KC ZL) (λ_ _=>rfl)) (λ_ _=>rfl)) ZL (λ_ _=>rfl)) (LG KC ZL) (λ_ _=>rfl)) ZL (λ_ _=>rfl)) ZD)) (Zc DR hr5 (ZF (Za (r:=Zp K) ZM (Za (r:=YE K) YH (Za (r:=Zp K) ZM (Za (r:=YE K) YH (pv 1) (pv 6) (λ_ _=>rfl)) ZL (λ_ _=>rfl)) ZL (λ_ _=>rfl)) ZL (λ_ _=>rfl)) ZD)) (Zu _)))))
     (ZP (Xd (WW yB wC wB Qh (pv 3) (ZF (pv 6) ZD)))) Zw)) Zw)
   (ZP (Zr (i:=5) nd rfl (Or.inl rfl) (Zv (Jy rfl) rfl T.max Jr (ZF ZL (ZF (Zs Qk (pv 5) ZL) ZD)))))))
  (ZP (Zk (pv 3)))))),?_⟩
 let lus:=Paired.length tg;let okf:=fo.ok;refine⟨nn (zR rfl),λD nD=>?_⟩;let⟨H1,eU1,s1,h1⟩:=Ym nD (.lst []);rw[eU1];let⟨px,hpx⟩:=W.some;let Dp:D≠p:=(Ze hpx nD).symm;refine⟨_,Z,p,3,Z,W.same s1,⟨by decide,by decide⟩,λr1 H2 r10 r13 W2 s2=>⟨_,_,Z,Z,?_⟩⟩
 refine⟨_,Z,p,4,Z,W2,⟨by decide,by decide⟩,λr2 H3 r20 r24 W3 s3=>?_⟩
 let s03:ZG p H H3:=λc o e n=>s3 c o (s2 c o (s1 c o e) n) n;let h3:H3 D=some (.lst []):=s3 _ _ (s2 _ _ h1 Dp) Dp;let tg3:Zh A H3 us ts:=tg.step (λx h=>h) (λc o n e=>s03 c o e λz=>n (z ▸ pA)) (s03.tups hpx);let htl3:=s03 _ _ htl tlp;exists _,Z,tl,us,Z,.inl (ZI.of htl3),_,Z,by lia,by lia
 refine HM (n:=us.length) (λi z=>z=.int (0+(i:Int))) (λi=>decide (V.int ((gd ts i).h:Nat)=V.int (hi:Nat))) (λR i ys H8=>ZC H3 H8/\H3 R=none/\ys=iN ((zF i).filter λi=>decide (V.int ((gd ts i).h:Nat)=V.int (hi:Nat)))) (YF (by lia))
  (λR i ys H8 hi' hP=>hi') (λR i ys H8 z H9 hi' hP hy=>hy) (λR ys H8 hP=>zX _) (λR hR=>⟨Zq hR _,hR,Z⟩) (λR i ys H8 z eR hi' hz hP Rr hRr=>?_) (λR i ys H8 z eR hi' hz hk hP Rr hRr=>?_) (λR i ys H8 eR hi' hk hP=>?_) (λR ys H8 eR hP=>?_)
 ·let⟨s8,nR,rfl⟩:=hP;subst hz;let⟨u,hu,tb⟩:=ZU tg3 (Qa (show i<ts.length by lia))
  let⟨a,rl,bV,ws,rfl,ea,_,_,_,_⟩:=Lm tb;refine⟨_,Z,_,Z,.inl ⟨tl,_,_,_,Z,congrArg V.int (wS _),ZI.of (s8 _ _ htl3),Yj hu,a,_,_,_,Z,Z,Zd.of (s8 _ _ ea),Z,_,Z,Z,_,Z,hRr H8 eR ⟨s8,nR,Z⟩⟩⟩
 ·let⟨s8,nR,rfl⟩:=hP;subst hz;refine⟨_,Z,hRr _ H8 eR ⟨Uh s8 nR,nR,?_⟩⟩;rw[xN,vR,xL,aK hk];unfold iN;rw[yZ,wS];rfl
 ·let⟨s8,nR,rfl⟩:=hP;exists s8,nR;rw[xN,vR,xL,hk];unfold iN;simp
 ·let⟨s8,nR,rfl⟩:=hP;let tg8:=tg3.same (λx h=>h) s8;refine⟨_,Z,.mk eR (s8 _ _ htl3) tg8 (λb hb=>?_) okf ?_ λH9 Dm ms s9 nDm hm sub ml=>?_⟩
  ·have:=yX.mp (wJ.mp hb).1;lia
  ·have:=rH (λi=>decide (V.int ((gd ts i).h:Nat)=V.int (hi:Nat))) (zF us.length);rw[xE] at this;lia
  let s39:=s8.trans s9;let msub:∀ x∈ms,x<ts.length/\(gd ts x).h=hi:=λx hx=>by
   let⟨y1,y2⟩:=wJ.mp (sub x hx);let y1:=yX.mp y1;let y2:=V.int.inj (of_decide_eq_true y2);exact⟨by lia,by lia⟩
  let hD9:=s39 _ _ h3;let DmD:Dm≠D:=λz=>by rw[z] at nDm;rw[s8 _ _ h3] at nDm;cases nDm
  let tg9:=tg8.same (A':=A) (λx h=>h) s9;let htl9:=s39 _ _ htl3;let tlD:tl≠D:=Ze htl nD;refine⟨Dm,Z,⟨_,ZI.of hm⟩,Vt (K:=K) (a:=Dm) (xs:=iN ms) (GE H9 p tl D hi (2+r1) ts) (.mk (bs:=[]) (ZG.refl D H9) hD9 (zH _) (λb hb=>by cases hb) zEB.nil) ?_ ?_ ?_⟩
  ·intro j σ H4 _ hI
   induction hI
   rename_i s4 _ _ _ _
   exact ZI.of (s4 _ _ hm DmD)
  ·intro j u σ H4 hu hI
   induction hI
   rename_i j bs fi x6 H4 s4 h4 b4 bb ub
   let⟨b,ebj,rfl⟩:=Qi hu;let⟨bl,bh⟩:=msub b (zG ebj);let t4:YD H9 H4:=s4.tups hD9;let lb4:(iN bs).length=bs.length:=zY _;apply MM (C:=CC H9 D hi ts)
   ·intro ex;let c0:CC H9 D hi ts bs H4:=⟨s4,h4,b4,bb,ub⟩;exists _,Z,D,_,Z,.inl (ZI.of h4),_,Z,_,_,Z,Z,_,Z;by_cases y:((iN bs).length:Int)<2+r1
    ·rw[aI y];refine Z7 ⟨_,Z,Z,_,Z,?_⟩;by_cases y2:V.int fi=V.int 0
     ·rw[aI y2];refine Z7 ⟨_,Z,nn (zR rfl),λq nq=>?_⟩;let⟨H5,eU5,s5,hq5⟩:=Ym nq (.lst []);rw[eU5];let h5:=s5 _ _ h4;exists D,q,_,Z,Z,ZI.of h5,ZI.of hq5,_,Z;let s95:ZG D H9 H5:=λc o e n=>s5 _ _ (s4 c o e n);let l3:bs.length+1<=4:=by rw[lb4] at y;lia
      let put:∀ H6,ZC H5 H6->Up (Z4 ts (bs++[b]))->CC H9 D hi ts (bs++[b]) (upd H6 D (.lst (iN bs++[.int (b:Nat)]))):=λH6 s6 u6=>by
       refine⟨λc o e n=>by rw[ZY n];exact s6 _ _ (s95 c o e n),?_,by rw[zT];exact l3,λb' hb'=>?_,u6⟩
       ·rw[ZZ];unfold iN;rw[yZ];rfl
       ·rcases yU.mp hb' with z | z
        ·exact bb b' z
        ·rw[zN.mp z];exact⟨bl,bh⟩
      let nb:=okf b bl;let ub1:Up (gd ts b).rows:=by
       have:=fo.wf b (yX.mpr bl);exact this.up
      by_cases eb:bs=[]
      ·rw[show (iN bs).isEmpty=true by rw[eb];rfl]
       refine Z7 (Z7 ⟨_,Z,.inl ⟨Z,_,ZI.of h5⟩,_,Z,D,_,_,Z,Z,h5,YF (by rw[lb4];lia),?_⟩)
       let⟨c1,K1,e1,hc⟩:=NF (C:=CC H9 D hi ts) (put H5 (ZC.refl H5) (by rw[eb,List.nil_append];simpa [Z4] using ub1))
       rw[e1];exact ex c1 K1 hc
      ·let bl0:0<bs.length:=xJ.mpr eb;rw[show (iN bs).isEmpty=false from uE.mpr λz=>eb (uA.mp (List.isEmpty_iff.mp z))];let gl:bs[bs.length-1]? = some (bs[bs.length-1]'(by lia)):=zV _
       generalize bs[bs.length-1]'(by lia)=c at gl
       let cm:=zG gl;let eN:(iN bs)[(iN bs).length-1]? = some (.int (c:Nat)):=by rw[lb4,zC,gl];rfl
       let cl:=(bb c cm).1;let⟨nc,fc⟩:=okf c cl;let nc0:=xJ.mpr nc;let⟨u1,hu1,tb1⟩:=ZU tg (Qa cl);let⟨a1,rl1,bV1,ws1,rfl,ea1,er1,nr1,lw1,rw1⟩:=Lm tb1;let⟨ra1,vk1,vv1,ew1,ek1,kk1⟩:=rw1 ((gd ts c).rows.length-1) (by lia)
       let⟨u2,hu2,tb2⟩:=ZU tg (Qa bl);let⟨a2,rl2,bV2,ws2,rfl,ea2,er2,nr2,lw2,rw2⟩:=Lm tb2;let nb0:=xJ.mpr nb.1;let⟨ra2,vk2,vv2,ew2,ek2,kk2⟩:=rw2 0 nb0;let sP:∀ x o,x∉A->H x=some o->H5 x=some o:=λx o n e=>s95 x o (s39 x o (s03 x o e λz=>n (z ▸ pA))) (Ze e nD);let t05:YD H H5:=λx xs e=>s95 x _ (s39 x _ (s03 x _ e (Zg e hpx (by intro z;cases z)))) (Ze e nD)
       let fc1:((gd ts c).rows.getD ((gd ts c).rows.length-1) rd).1.fits 3=true:=(fc _ (by rw[zQ,zV (show (gd ts c).rows.length-1<(gd ts c).rows.length by lia)];exact yD _)).1
       let fb1:((gd ts b).rows.getD 0 rd).1.fits 3=true:=(nb.2 _ (by rw[zQ,zV nb0];exact yD _)).1
       refine Zn ⟨_,Z,_,Z,_,Z,.inl ⟨D,_,_,_,Z,Z,ZI.of h5,Ge (zX 1) (by rw[lb4];exact bl0) eN,.inl ⟨tl,_,_,_,Z,Z,ZI.of (s95 _ _ htl9 tlD),Yj hu1,a1,_,_,_,Z,Z,Zd.of (t05 _ _ ea1),Z,_,Z,.inl ⟨rl1,_,_,_,Z,Z,ZI.of (sP _ _ nr1 er1),Ge (zX 1) (show 1<=ws1.length by lia) (by rw[lw1];exact ew1),ra1,_,_,_,Z,Z,Zd.of (t05 _ _ ek1),Z,vk1,_,3,Z,kk1.mono t05 _ _,fc1,sS (Uj _ _ fc1),λlv1 H6 kl1 s6=>?_⟩⟩⟩⟩
       let s56:=s6;let t06:YD H H6:=λx xs e=>s6 _ _ (t05 x xs e);refine⟨_,Z,_,Z,.inl ⟨tl,_,_,_,Z,Z,ZI.of (s6 _ _ (s95 _ _ htl9 tlD)),Yj hu2,a2,_,_,_,Z,Z,Zd.of (t06 _ _ ea2),Z,.inl ⟨rl2,_,_,_,Z,Z,ZI.of (s6 _ _ (sP _ _ nr2 er2)),Yj (j:=0) ew2,ra2,_,_,_,Z,Z,Zd.of (t06 _ _ ek2),Z,vk2,_,3,Z,kk2.mono t06 _ _,fb1,sS (Uj _ _ fb1),λlv2 H7 kl2 s7=>?_⟩⟩⟩;let s57:=s6.trans s7;exists _,_,kl1.mono (ZC.tups s7) _ _,kl2,Mx _ _,zK (NZ _) (by have:=Uj _ _ fc1;lia),_,Z
       rw[Ki]
       cases el:((gd ts c).rows.getD ((gd ts c).rows.length-1) rd).1.lt ((gd ts b).rows.getD 0 rd).1 with
       | false=>
        let⟨c1,K1,e1,hc⟩:=NF (C:=CC H9 D hi ts) (a:=bs) (b:=H7) ⟨λx o e n=>s57 _ _ (s95 x o e n),s57 _ _ h5,b4,bb,ub⟩;rw[e1];exact ex c1 K1 hc
       | true=>
        refine Z7 ⟨_,Z,.inl ⟨Z,_,ZI.of (s57 _ _ h5)⟩,_,Z,D,_,_,Z,Z,s57 _ _ h5,YF (by rw[lb4];lia),?_⟩
        let be:bs=bs.take (bs.length-1)++[c]:=by
         let⟨hi',e⟩:=yY.mp gl;rw[<-e,<-List.dropLast_eq_take,<-qN eb];exact(sQ eb).symm
        let⟨c1,K1,e1,hc⟩:=NF (C:=CC H9 D hi ts) (put H7 s57 (by
         let e:Z4 ts (bs++[b])=Z4 ts bs++(gd ts b).rows:=by rw[O1];show _++vC _ [b]=_;simp
         rw[e];refine ZOe ub ub1 (λz=>?_) nb.1 ?_
         ·rw[be] at z;let e2:Z4 ts (bs.take (bs.length-1)++[c])=Z4 ts (bs.take (bs.length-1))++(gd ts c).rows:=by rw[O1];show _++vC _ [c]=_;simp
          rw[e2] at z;exact nc (zEH.mp z).2
         ·rw[be,Ci nc];exact el))
        rw[e1];exact ex c1 K1 hc
     ·rw[aH y2];let⟨c1,K1,e1,hc⟩:=NF c0;rw[e1];exact Zn (ex c1 K1 hc)
    ·rw[aH y];let⟨c1,K1,e1,hc⟩:=NF c0;rw[e1];exact Zn (Zn (ex c1 K1 hc))
   ·intro cs H5 hc;let⟨s5,h5,b5,bb5,ub5⟩:=hc;exact⟨_,Z,_,_,Z,Z,_,_,Z,.mk s5 h5 b5 bb5 ub5⟩
  ·intro σ H4 hI;rw[show (iN ms).length=ms.length from zY _] at hI;generalize ej:ms.length=j at hI
   induction hI
   rename_i j bs fi x6 H4 s4 h4 b4 bb ub
   refine⟨_,Z,k H4 D bs ?_ (λc o e n=>s4 c o (s39 _ _ (s03 c o e n)) (Ze e nD)) nD h4 b4 bb ub⟩;exact(W3.same s39).stay s4 Dp.symm
def ZNZ:∀(ks l:jM),P5 ks->P5 l->(∀ x∈l,x∈ks)->l.length<=ks.length:=λks=>by
 induction ks with
 | nil=>
  intro l _ _ s
  cases l with
  | nil=>exact zX _
  | cons x l=>cases s x zO
 | cons k ks ih=>
  intro l hk hl s;let⟨k1,k2⟩:=vQ.mp hk
  cases l with
  | nil=>exact zH _
  | cons x l=>
   let⟨l1,l2⟩:=vQ.mp hl;let key:∀ y∈l,y∈ks:=λy hy=>by
    rcases zI.mp (s y (zJ _ hy)) with z | z
    ·exfalso
     let xy:=l1 y hy;rw[z] at xy;rcases zI.mp (s x zO) with q | q
     ·rw[q,On] at xy;cases xy
     ·have:=lt_trans' _ _ _ xy (k1 x q);rw[On] at this;cases this
    ·exact z
   exact uH (ih l k2 l2 key)
def OB{ts:jN}{t:ZW}{i:Nat}(h:i<ts.length):gd (ts++[t]) i=gd ts i:=Ls h
structure OC(ks:jM)(ts:jN):Prop where
 fo:Ug ts
 ks:∀ i<ts.length,∀ r∈(gd ts i).rows,r.1∈ks
def IH{i n:Nat}(h:i<n+1):i<n\/i=n:=by lia
def Ht{ts:jN}{t:ZW}{bs:jK}(hb:∀ b∈bs,b<ts.length)(h2:2<=bs.length):Yw (ts++[t]) bs=Yw ts bs:=by
 unfold Yw;rw[HF (l:=bs) λb hbm=>(by rw[OB (hb b hbm)]:(gd (ts++[t]) b).rows=(gd ts b).rows)]
 congr 2
 cases bs with
 | nil=>exact absurd h2 (by decide)
 | cons b l=>rw[List.getD_cons_zero,OB (hb b zO)]
def OC.snoc{ks:jM}{ts:jN}{t:ZW}(h:OC ks ts)(lf:t.h=0->t.bs=[]/\Xn t.rows)(st:t.h≠0->t=Yw ts t.bs/\2<=t.bs.length/\t.bs.length<=4/\(∀ b∈t.bs,b<ts.length/\(gd ts b).h+1=t.h)/\Up t.rows)(hk:∀ r∈t.rows,r.1∈ks):OC ks (ts++[t]):=by
 let ll:(ts++[t]).length=ts.length+1:=by rw[zT];rfl
 let gn:gd (ts++[t]) ts.length=t:=M6;refine⟨⟨λi hi h0=>?_,λi hi h0=>?_⟩,λi hi=>?_⟩
 ·rcases IH (ll ▸ hi) with y | y
  ·rw[OB y] at h0⊢;exact h.fo.lf i y h0
  ·rw[y,gn] at h0⊢;exact lf h0
 ·rcases IH (ll ▸ hi) with y | y
  ·rw[OB y] at h0⊢;let⟨e,h2,h4,hb,hu⟩:=h.fo.st i y h0;let bl:∀ b∈(gd ts i).bs,b<ts.length:=λb hbm=>vW (hb b hbm).1 y;exact⟨e.trans (Ht bl h2).symm,h2,h4,λb hbm=>⟨(hb b hbm).1,by rw[OB (bl b hbm)];exact(hb b hbm).2⟩,hu⟩
  ·rw[y,gn] at h0⊢;let⟨e,h2,h4,hb,hu⟩:=st h0;exact⟨e.trans (Ht (λb hbm=>(hb b hbm).1) h2).symm,h2,h4,λb hbm=>⟨(hb b hbm).1,by rw[OB (hb b hbm).1];exact(hb b hbm).2⟩,hu⟩
 ·rcases IH (ll ▸ hi) with y | y
  ·rw[OB y];exact h.ks i y
  ·rw[y,gn];exact hk
def OC.low{ks:jM}{ts:jN}(h:OC ks ts)(rk:P5 ks)(l:ks.length<=31):∀ i<ts.length,(gd ts i).rows.length<=200:=λi hi=>by
 have:=ZNZ ks (List.map (λr:Yf=>r.1) (gd ts i).rows) rk (h.fo.wf i (yX.mpr hi)).up λx hx=>by
  let⟨r,hr,rfl⟩:=yR.mp hx;exact h.ks i hi r hr
 rw[zY] at this;lia
inductive XN:Sp
 |mk{p:aj}{H:Hp}{Q:VK}{E:XK}:ZS H p->(∀(H':Hp)(tl:aj)(us:jh)(ts:jN),ZS H' p->ZG p H H'->H tl=none->H' tl=some (.lst us)->Zh [p] H' us ts->Ug ts->0<ts.length->ts.length<=24->(∀ i<ts.length,(gd ts i).rows.length<=200)->Q (.ref tl) H')->XN [.ref p] H Q E
abbrev ZNH:jP:=["_law_well_here","_law_keys_here","_law_twigs","_law_k","_law_heights","_law_high","_law_some","_law_rows","_law_at","_law_part"]
def Vf:ZB ZNH zEi (Zl JM):=⟨Z,Z,Z,by decide +kernel,Z,by decide +kernel,by decide +kernel⟩
inductive Kf(H:Hp)(p kl tl:aj)(ks:jM):Nat->L2.St->Hp->Prop
 |mk{j:Nat}{us:jh}{ts:jN}{x3 x4 x5 x6 x7 x8 x9:ji}{H':Hp}:(∀ c o,c≠p->c≠tl->H c=some o->H' c=some o)->ZS H' p->H' tl=some (.lst us)->Zh [p,tl] H' us ts->OC ks ts->ts.length=j->Kf H p kl tl ks j [some (.ref p),some (.ref kl),some (.ref tl),x3,x4,x5,x6,x7,x8,x9] H'
def Dv{H H6:Hp}{p kl tl a:aj}{ks:jM}{us:jh}{ts:jN}{t:ZW}{x3 x4 x5 x6 x7 x8 x9:ji}(fr:∀ c o,c≠p->c≠tl->H c=some o->H6 c=some o)(W:ZS H6 p)(htl:H6 tl=some (.lst us))(tg:Zh [p,tl] H6 us ts)(fk:OC ks (ts++[t]))(ta:XG [p,tl] H6 (.ref a) t)(ptl:p≠tl):
  Kf H p kl tl ks (ts.length+1) [some (.ref p),some (.ref kl),some (.ref tl),x3,x4,x5,x6,x7,x8,x9] (upd H6 tl (.lst (us++[.ref a]))):=by
 let s:ZG tl H6 (upd H6 tl (.lst (us++[.ref a]))):=(ZG.refl tl H6).upd;let m:=s.tups htl;let fA:∀ c o,c∉[p,tl]->H6 c=some o->upd H6 tl (.lst (us++[.ref a])) c=some o:=λc o n e=>s c o e λz=>n (by rw[z];simp)
 exact .mk (λc o n1 n2 e=>s c o (fr c o n1 n2 e) n2) (W.stay s ptl) ZZ (Jp (ta.step (λx h=>h) fA m) (tg.step (λx h=>h) fA m)) fk (by rw[zT];rfl)
def Paired.ixL{α β:Type}{F:α->β->Prop}{l:List α}{m:List β}{i:Nat}{a:α}(h:Paired F l m)(e:l[i]? = some a):∃ b,m[i]? = some b/\F a b:=by
 let il:=(yY.mp e).1;rw[Paired.length h] at il;let⟨a',ha,f⟩:=ZU h (zV il);rw[e] at ha;cases ha;exact⟨_,zV il,f⟩
def ZM3(us:jh)(n s:Nat)(hn:n<=us.length):Pj us (some (n:Int)) (some ((n:Int)+(s:Int)))=(us.drop n).take s:=by
 unfold Pj;let e:((n:Int)+(s:Int))=((n+s:Nat):Int):=by lia
 rw[e,HT.sIx_nat,HT.sIx_nat,wV hn,List.take_eq_take_min (i:=s),xR];rw[<-Nat.sub_min_sub_right,wE]
def BM{α:Type}{C R:α->Prop}{G:Prop}(h:(∀ a,C a->R a)->G)(r:∀ a,C a->R a):G:=h r
def Jz{α β:Type}{C:α->β->Prop}{a:α}{b:β}(h:C a b):∃ a' b',a=a'/\b=b'/\C a' b':=⟨a,b,Z,Z,h⟩
def Ee{α:Type}{C:α->Prop}{a:α}(h:C a):∃ a',a=a'/\C a':=⟨a,Z,h⟩
def ZOU{A:jR}{H:Hp}{u:V}{t:ZW}(h:XG A H u t):∃(a rl:aj)(bV:V)(ws:jh),u=.ref a/\H a=some (.tup [.int (t.h:Nat),bV,.ref rl])/\H rl=some (.lst ws)/\rl∉A/\kK H (Y1 t.rows) ws:=by
 induction h
 rename_i a rl bV ws t ea n1 el ks hl hs
 exact⟨a,rl,bV,ws,Z,ea,el,n1,ks⟩
inductive Fs(H:Hp)(p kl tl:aj)(x3 x4 x5 x6 x9:ji)(ts:jN)(bs:jK):Nat->L2.St->Hp->Prop
 |mk{j:Nat}{l:aj}{ws:jh}{x8:ji}{H':Hp}:ZC H H'->H' l=some (.lst ws)->l∉[p,tl]->kK H' (Y1 (Z4 ts (bs.take j))) ws->ws.length<=200 * j->Fs H p kl tl x3 x4 x5 x6 x9 ts bs j [some (.ref p),some (.ref kl),some (.ref tl),x3,x4,x5,x6,some (.ref l),x8,x9] H'
def ZJB(F:Zo K "_law_forest" "_law_forest" JM f fd)(T:Txt mg)(DP:ZA P w K mg kT 1 "_law_pull" zEd Z6)(DK:ZA P w K mg kT 9 "_law_keys" zEd V4)(DV:ZA P w K mg kT 7 "_law_value" zEi VT)(DB:ZA P w K mg kT 7 "_law_branches" zEp Yh):ZK P w K mg kT ZV 10 f fd zEi XN:=by
 refine F.ok Vf (λvs H Q E h=>(by induction h;rfl)) (λcdv A outer s H vs Q E hr h=>?_)
 induction h
 rename_i p H Q E W k
 let nd:=Vf.nd;let hr1:=hr.mono (show 1<=9 by lia)
 let hr7:=hr.mono (show 7<=9 by lia)
 refine⟨_,ZO (Zr (i:=1) nd rfl (Or.inl rfl) (Zc DK hr (ZF (pv 0) (ZF (Zs Y2 ZL (Zc DP hr1 (ZF (pv 0) (ZF ZL ZD)))) ZD))))
  (ZO (Zr (i:=2) nd rfl (Or.inl rfl) (Yo ZD))
  (ZO (Xi PassesOwn.never rfl (UW rfl T.range (ZF (Zs Y2 ZL (Zc DP hr1 (ZF (pv 0) (ZF ZL ZD)))) ZD)) (XB (i:=3) nd rfl (Or.inl rfl))
   (ZO (M7 (i:=4) [] [] nd rfl rfl rfl (Xu (pv 2)) (λ_ _ _ _ _=>Wj) (λ_ _ _ _ _=>Za (r:=Zp K) ZM (pv 0) ZL (λ_ _=>rfl)) trivial)
   (ZO (Zr (i:=5) nd rfl (Or.inl rfl) ZL)
   (ZO (Zt (Z3 (FW hr.units0) (pv 4) (Yo ZD) (Zu _)) (ZP (Zr (i:=5) nd rfl (Or.inl rfl) (Za (r:=YE K) YH (pv 4) (Zc DP hr1 (ZF (pv 0) (ZF (Zv Yk rfl T.len YU (ZF (pv 4) ZD)) ZD))) (λ_ _=>rfl)))) Zw)
   (ZO (Zr (i:=6) nd rfl (Or.inl rfl) (Zc DB hr7 (UA (pv 0) (pv 2) (pv 5))))
   (ZP (Zt (PW.pt (Nk (Z3 PB (Zv Yk rfl T.len YU (ZF (pv 6) ZD)) ZL (Zu _)) (NV (Z3 PB (Zc DP hr1 (ZF (pv 0) (ZF ZL ZD))) ZL (Zu _)))))
    (ZO (Zr (i:=7) nd rfl (Or.inl rfl) (Yo ZD))
    (ZO (Xi PassesOwn.never rfl (Xu (pv 6)) (XB (i:=8) nd rfl (Or.inl rfl)) (ZP (Zr (i:=7) nd rfl (Or.inl rfl) (Zs O9 (pv 7) (Za (r:=Zp K) ZM (Za (r:=YE K) YH (pv 2) (pv 8) (λ_ _=>rfl)) ZL (λ_ _=>rfl))))))
    (ZP (Xd (WW yB wC wB Qh (pv 2) (ZF (XR (UA (Zs Y2 (pv 5) ZL) (pv 6) (pv 7))) ZD))))))
    (ZO (Zr (i:=8) nd rfl (Or.inl rfl) (Zc DP hr1 (ZF (pv 0) (ZF (Zv Yk rfl T.len YU (ZF (pv 1) ZD)) ZD))))
    (ZO (M7 (i:=9) [0] zEi nd rfl rfl rfl (Xu (IU (r:=MC K) Co (pv 1) (O4 (pv 8)) (O4 (Zs Y2 (Zs Y2 (pv 8) ZL) (Zc DP hr1 (ZF (pv 0) (ZF ZL ZD))))))) (λ_ _ _ _ _=>Wj) (λ_ _ _ _ _=>XR (ZF (pv 0) (ZF (Zc DV hr7 (ZF (pv 1) ZD)) ZD))) ⟨rfl,.inl rfl,rfl,trivial⟩)
    (ZP (Xd (WW yB wC wB Qh (pv 2) (ZF (XR (UA ZL Mt (pv 9))) ZD)))))))))))))
  (ZP (Zk (pv 2))))),?_⟩
 let⟨px,hpx⟩:=W.some;refine⟨_,Z,_,Z,p,30,Z,W,⟨by decide,by decide⟩,λr1 H1 r10 r11 W1 s1=>⟨_,_,Z,Z,?_⟩⟩
 let⟨m1,rfl⟩:=xB r10;refine⟨p,2+m1,by show [V.ref p,V.int ((2:Int)+(m1:Int))]=_;rw[show (2:Int)+(m1:Int)=((2+m1:Nat):Int) by lia],W1,by lia,λkl ws ks H2 nkl hkl kks fks rks lks pks W2 s2=>?_⟩
 refine⟨nn (zR rfl),λtl ntl=>?_⟩;let⟨H3,eU3,s3,h3⟩:=Ym ntl (.lst []);rw[eU3];let W3:=W2.same s3;let⟨px2,hpx2⟩:=W2.some;let ptl:p≠tl:=Ze hpx2 ntl;let kltl:kl≠tl:=Ze hkl ntl;let klp:kl≠p:=λz=>by rw[z] at nkl;let⟨y,hy⟩:=W1.some;rw[nkl] at hy;cases hy
 refine⟨_,Z,p,24,Z,W3,⟨by decide,by decide⟩,λr2 H4 r20 r21 W4 s4=>⟨_,_,Z,Z,_,Z,by lia,by lia,?_⟩⟩
 refine Ql (n:=(1+r2).toNat) (Kf H4 p kl tl ks) (.mk (us:=[]) (ts:=[]) (λc o _ _ e=>e) W4 (s4 _ _ h3 ptl.symm) .nil ⟨⟨λi hi=>absurd hi (wM _),λi hi=>absurd hi (wM _)⟩,λi hi=>absurd hi (wM _)⟩ rfl) (λj σ H5 hj hP=>?_) (λσ H5 hP=>?_)
 ·induction hP
  rename_i j us ts x3 x4 x5 x6 x7 x8 x9 H5 fr5 W5 htl5 tg5 fk5 lj
  let l24:ts.length<24:=by lia
  let⟨px5,hpx5⟩:=W5.some;exists _,Z,tl,Z,⟨_,ZI.of htl5⟩;let lus:=Paired.length tg5;refine Wa (n:=us.length) (λi z=>us[i]? = some z) (λR i ys H8=>ZC H5 H8/\H5 R=none/\ys=(ts.take i).map λt=>V.int (t.h:Nat)) (YF (by lia))
   (λR i ys H8 hi hP=>⟨us,us[i]'hi,ZI.of (hP.1 _ _ htl5),zV _⟩) (λR i ys H8 z H9 hi hP hy=>⟨hy.1,hy.2 _ (ZI.of (hP.1 _ _ htl5))⟩) (λR ys H8 hP=>⟨us,ZI.of (hP.1 _ _ htl5),zX _⟩)
   (λR hR=>⟨Zq hR _,hR,Z⟩) (λR i ys H8 z eR hl' hi hz hP Rr hRr=>?_) (λR ys H8 eR hP=>?_)
  ·let⟨s8,nR,rfl⟩:=hP;let⟨t,et,tb⟩:=Paired.ixL tg5 hz;let⟨a,rl,bV,ws,rfl,ea,_,_,_,_⟩:=Lm tb;refine⟨_,Z,a,_,_,_,Z,Z,Zd.of (s8 _ _ ea),Z,hRr _ H8 eR ⟨Uh s8 nR,nR,?_⟩⟩;rw[yW,et];simp
  ·let⟨s8,nR,rfl⟩:=hP;rw[lus,xK] at eR;let W8:=W5.same s8;let htl8:=s8 _ _ htl5;let tg8:Zh [p,tl] H8 us ts:=tg5.same (λx h=>h) s8;let pR:p≠R:=λz=>by rw[z] at hpx5;rw[nR] at hpx5;cases hpx5
   let tlR:tl≠R:=Ze htl5 nR;apply MM (C:=fun(hi:Int)(H9:Hp)=>(∃ n:Nat,hi=(n:Int))/\ZG p H8 H9/\ZS H9 p)
   ·intro ex;refine⟨_,Z,nn (zR rfl),λq nq=>?_⟩;let⟨H10,eU10,s10,hq⟩:=Ym nq (.lst []);rw[eU10];let W10:=W8.same s10;exists R,q,_,Z,Z,ZI.of (s10 _ _ eR),ZI.of hq,_,Z;by_cases e:ts≠[]
    ·let l0:0<ts.length:=xJ.mpr e;rw[show (!(ts.map λt=>V.int (t.h:Nat)).isEmpty)=true by rw[tI];exact uE.mpr λz=>e (uA.mp (List.isEmpty_iff.mp z))]
     refine Z7 ⟨_,Z,_,Z,_,Z,R,_,Z,.inl (ZI.of (s10 _ _ eR)),p,_,Z,W10,?_,λr H11 r0 r1 W11 s11=>?_⟩
     ·exact Wf (by rw[zY];lia) (by rw[zY];lia)
     ·let⟨m,rfl⟩:=xB r0;rw[zY] at r1;let em:(ts.map λt=>V.int (t.h:Nat))[m]? = some (.int ((gd ts m).h:Nat)):=by rw[zC,Qa (by lia)];rfl
      refine .inl ⟨R,_,_,_,Z,Z,ZI.of (s11 _ _ (s10 _ _ eR) pR.symm),Yj em,?_⟩;let⟨a',b',ea,eb,hc⟩:=Jz (C:=fun(hi:Int)(H9:Hp)=>(∃ n:Nat,hi=(n:Int))/\ZG p H8 H9/\ZS H9 p) (a:=(((gd ts m).h:Nat):Int)) (b:=H11) ⟨⟨_,Z⟩,λc o e n=>s11 c o (s10 c o e) n,W11⟩;rw[ea,eb];exact ex a' b' hc
    ·rw[show (!(ts.map λt=>V.int (t.h:Nat)).isEmpty)=false by rw[Decidable.not_not.mp e];rfl]
     exact Zn (ex 0 H10 ⟨⟨0,Z⟩,ZG.of s10,W10⟩)
   ·intro hi H9 hc;let⟨⟨n,rfl⟩,s9,W9⟩:=hc;let htl9:=s9 _ _ htl8 ptl.symm;let tg9:Zh [p,tl] H9 us ts:=tg8.step (λx h=>h) (λc o n e=>s9 c o e λz=>n (by rw[z];simp)) (s9.tupsW W8)
    refine⟨_,Z,_,Z,_,Z,.mk W9 (by simp) ptl.symm htl9 tg9 fk5.fo (by lia) λH10 D bs W10 s10 nD hD b4 bb ub=>?_⟩
    let s810:=s9.trans s10;let htl10:=s10 _ _ htl9 ptl.symm;let tg10:Zh [p,tl] H10 us ts:=tg9.step (λx h=>h) (λc o n e=>s10 c o e λz=>n (by rw[z];simp)) (s10.tupsW W9)
    let fr10:∀ c o,c≠p->c≠tl->H4 c=some o->H10 c=some o:=λc o n1 n2 e=>s810 c o (s8 _ _ (fr5 c o n1 n2 e)) n1;let lb:(iN bs).length=bs.length:=zY _;let pD:p≠D:=λz=>by let⟨y,hy⟩:=W9.some;rw[z,nD] at hy;cases hy
    let tlD:tl≠D:=Ze htl9 nD;apply BM (C:=λH11=>ZG p H10 H11/\ZS H11 p)
    ·intro ex;exists _,Z,D,_,Z,.inl (ZI.of hD),_,_,Z,Z,_,Z;by_cases y:1<bs.length
     ·rw[aI (show ((iN bs).length:Int) > 1 by rw[lb];lia)]
      refine Z7 ⟨_,Z,p,3,Z,W10,Wf (by decide) (by decide),λr3 H11 r30 r31 W11 s11=>⟨_,_,Z,Z,_,Z,?_⟩⟩
      by_cases y3:¬ r3 > 0
      ·rw[aH y3];let⟨b',eb,hc⟩:=Ee (C:=λH11=>ZG p H10 H11/\ZS H11 p) (a:=H11) ⟨s11,W11⟩;rw[eb];exact Zn (ex b' hc)
      ·rw[aI (Decidable.not_not.mp y3)];refine Z7 ⟨nn (zR rfl),λl0 nl0=>?_⟩;let⟨H12,eU12,s12,h12⟩:=Ym nl0 (.lst []);rw[eU12];let hD12:=s12 _ _ (s11 _ _ hD pD.symm);let htl12:=s12 _ _ (s11 _ _ htl10 ptl.symm);let tg12:Zh [p,tl] H12 us ts:=(tg10.step (A':=[p,tl]) (λx h=>h) (λc o n e=>s11 c o e λz=>n (by rw[z];simp)) (s11.tupsW W10)).same (λx h=>h) s12
       let W12:=W11.same s12;let fr12:∀ c o,c≠p->c≠tl->H4 c=some o->H12 c=some o:=λc o n1 n2 e=>s12 _ _ (s11 _ _ (fr10 c o n1 n2 e) n1);let⟨y11,hy11⟩:=W11.some;let l0p:l0≠p:=λz=>by rw[z] at nl0;rw[nl0] at hy11;cases hy11
       let l0tl:l0≠tl:=λz=>by rw[z] at nl0;rw[s11 _ _ htl10 ptl.symm] at nl0;cases nl0
       let l0D:l0≠D:=λz=>by rw[z] at nl0;rw[s11 _ _ hD pD.symm] at nl0;cases nl0
       let low5:=fk5.low rks (by lia)
       refine⟨_,Z,D,Z,⟨_,ZI.of hD12⟩,Vt (K:=K) (a:=D) (xs:=iN bs) (Fs H12 p kl tl (some (.int (0+(j:Int)))) (some (.ref R)) (some (.int (n:Nat))) (some (.ref D)) x9 ts bs) (.mk (ZC.refl H12) h12 (λz=>by rcases zI.mp z with q | q;(exact l0p q);exact l0tl (zN.mp q)) .nil (zH _)) ?_ ?_ ?_⟩
       ·intro j σ H13 _ hI
        induction hI
        rename_i s13 _ _ _ _
        exact ZI.of (s13 _ _ hD12)
       ·intro jj u σ H13 hu hI
        induction hI
        rename_i jj l ws x8 H13 s13 hl nl kw lw
        let⟨b,ebj,rfl⟩:=Qi hu;let⟨bl,bh⟩:=bb b (zG ebj);let jl:=(yY.mp ebj).1;let⟨u,hu2,tb⟩:=ZU tg12 (Qa bl);let⟨a,rl,bV,ws2,rfl,ea,el,nA,ks2⟩:=ZOU tb;let lw2:ws2.length=(gd ts b).rows.length:=by have:=ks2.length;rw[<-this];exact zY _
        have:=low5 b bl;refine⟨_,Z,_,Z,_,Z,.inl ⟨tl,_,_,_,Z,Z,ZI.of (s13 _ _ htl12),Yj hu2,a,_,_,_,Z,Z,Zd.of (s13 _ _ ea),Z,l,rl,_,_,Z,Z,hl,s13 _ _ el,yV (YF (by lia)),λq nq=>?_⟩⟩
        let⟨H14,eU14,s14,h14⟩:=Ym nq (.lst (ws++ws2));rw[eU14];refine .mk (s13.trans s14) h14 (λz=>?_) ?_ (by rw[zT];lia)
        ·rcases zI.mp z with z | z
         ·let⟨y,hy⟩:=W12.some;exact absurd (s13 _ _ hy) (by rw[<-z,nq];exact λy=>by cases y)
         ·have:=s13 _ _ htl12;rw[<-zN.mp z,nq] at this;cases this
        ·let e:Z4 ts (bs.take (jj+1))=Z4 ts (bs.take jj)++(gd ts b).rows:=by
          rw[yW,ebj,O1];show _++vC _ [b]=_;simp
         rw[e,MQ];exact(kw.mono (ZC.tups s14) _ _).append (ks2.mono (ZC.tups (s13.trans s14)) _ _)
       ·intro σ H13 hI;rw[lb] at hI;generalize ej:bs.length=jj at hI
        induction hI
        rename_i jj l ws x8 H13 s13 hl nl kw lw
        rw[<-ej,xK] at kw;refine⟨_,Z,.inl ⟨Z,_,ZI.of (s13 _ _ htl12)⟩,_,Z,_,_,Z,Z,_,Z,_,Z,nn (zR rfl),λa na=>?_⟩;let⟨H14,eU14,s14,h14⟩:=Ym na (.tup [.int ((n:Int)+1),.ref D,.ref l]);rw[eU14];let s124:=s13.trans s14;let b0:(gd ts (bs.getD 0 0)).h=n:=by
         rw[zQ,zV (show 0<bs.length by lia)]
         exact(bb _ (yD _)).2
        let et:Yw ts bs=⟨n+1,Z4 ts bs,bs⟩:=by unfold Yw;rw[b0]
        exists tl,_,_,Z,Z,s124 _ _ htl12,YF (by lia)
        rw[<-lj];refine Dv (t:=⟨n+1,Z4 ts bs,bs⟩) (λc o n1 n2 e=>s124 _ _ (fr12 c o n1 n2 e)) (W12.same s124) (s124 _ _ htl12) (tg12.same (λx h=>h) s124) (fk5.snoc (λz=>absurd z (Nat.succ_ne_zero n)) (λ_=>⟨et.symm,y,b4,λb hb=>⟨(bb b hb).1,by rw[(bb b hb).2]⟩,ub⟩) λr hr=>?_) (.mk (h14) nl (s14 _ _ hl) (kw.mono (ZC.tups s14) _ _) (λz=>absurd z (Nat.succ_ne_zero n)) λ_=>⟨D,Z,λz=>?_,s124 _ _ hD12⟩) ptl
        ·let⟨b,hbm,hr⟩:=vG.mp (show r∈bs.flatMap λb=>(gd ts b).rows from hr);exact fk5.ks b (bb b hbm).1 r hr
        ·rcases zI.mp z with z | z
         ·exact pD z.symm
         ·exact tlD (zN.mp z).symm
     ·rw[aH (show ¬ ((iN bs).length:Int) > 1 by rw[lb];lia)]
      let⟨b',eb,hc⟩:=Ee (C:=λH11=>ZG p H10 H11/\ZS H11 p) (a:=H10) ⟨ZG.refl p H10,W10⟩;rw[eb];exact Zn (Zn (ex b' hc))
    ·intro H11 hc;let⟨s11,W11⟩:=hc;let htl11:=s11 _ _ htl10 ptl.symm;let tg11:Zh [p,tl] H11 us ts:=tg10.step (λx h=>h) (λc o n e=>s11 c o e λz=>n (by rw[z];simp)) (s11.tupsW W10)
     let fr11:∀ c o,c≠p->c≠tl->H4 c=some o->H11 c=some o:=λc o n1 n2 e=>s11 _ _ (fr10 c o n1 n2 e) n1;let hkl4:=s4 _ _ (s3 _ _ hkl) klp;let htl4:H4 tl=some (.lst []):=s4 _ _ h3 ptl.symm;let⟨y4,hy4⟩:=W4.some;let t24:YD H2 H4:=λc xs e=>s4 _ _ (s3 _ _ e) (Zg e hpx2 (by intro z;cases z))
     let t411:YD H4 H11:=λc xs e=>fr11 c _ (Zg e hy4 (by intro z;cases z)) (Zg e htl4 (by intro z;cases z)) e
     let hkl11:=fr11 _ _ klp kltl hkl4;let kks11:=(kks.mono t24 _ _).mono t411 _ _;let lk:ws.length=ks.length:=kks.length.symm;let pk:=pks (by lia)
     refine⟨_,Z,_,Z,kl,_,Z,.inl (ZI.of hkl11),p,_,Z,W11,Wf (by lia) (by lia),λr3 H12 r30 r31 W12 s12=>?_⟩
     let⟨a0,rfl⟩:=xB r30;let a0l:a0<ks.length:=by lia
     let hkl12:=s12 _ _ hkl11 klp;refine⟨_,Z,_,Z,_,Z,_,Z,_,_,Z,Z,_,Z,p,4,Z,W12,Wf (by decide) (by decide),λr4 H13 r40 r41 W13 s13=>⟨_,_,Z,Z,_,Z,kl,_,Z,ZI.of (s13 _ _ hkl12 klp),λq nq=>?_⟩⟩
     let⟨m4,rfl⟩:=xB r40;let ec:Pj ws (some (a0:Int)) (some ((a0:Int)+1+(m4:Int)))=(ws.drop a0).take (1+m4):=by
      rw[show (a0:Int)+1+(m4:Int)=(a0:Int)+((1+m4:Nat):Int) by lia]
      exact ZM3 ws a0 (1+m4) (by lia)
     let⟨H14,eU14,s14,h14⟩:=Ym nq (.lst ((ws.drop a0).take (1+m4)));let h14':upd H13 q (.lst (Pj ws (some (a0:Int)) (some ((a0:Int)+1+(m4:Int)))))=H14:=by rw[ec];exact eU14
     dsimp only;rw[h14'];let⟨y12,hy12⟩:=W12.some;let t14:YD H11 H14:=λc xs e=>s14 _ _ (s13.tups hy12 _ _ ((s12.tupsW W11) _ _ e));let kks14:=kks11.mono t14 _ _;let W14:=W13.same s14;let h1114:∀ c o,c≠p->H11 c=some o->H14 c=some o:=λc o n e=>s14 _ _ (s13 _ _ (s12 _ _ e n) n);let pt:((ws.drop a0).take (1+m4)).length=min (1+m4) (ws.length-a0):=by rw[yK,xR]
     obtain⟨pn,hpn⟩:∃ pn,pn=min (1+m4) (ws.length-a0):=⟨_,Z⟩;rw[<-hpn] at pt;let⟨y14,hy14⟩:=W14.some;let qp:q≠p:=λz=>by let⟨y,hy⟩:=W13.some;rw[<-z,nq] at hy;cases hy
     refine⟨q,Z,⟨_,ZI.of h14⟩,Wa (n:=pn) (λi z=>((ws.drop a0).take (1+m4))[i]? = some z) (λR i ys H8=>ZG p H14 H8/\ZS H8 p/\H14 R=none/\∃ rs:jT,rs.map (·.1)=((ks.drop a0).take (1+m4)).take i/\rs.length=i/\(∀ r∈rs,r.fit)/\kK H8 (Y1 rs) ys) (YF (by lia))
      (λR i ys H8 hi hP=>⟨_,((ws.drop a0).take (1+m4))[i]'(by lia),ZI.of (hP.1 _ _ h14 qp),zV _⟩) (λR i ys H8 z H9 hi hP hy=>⟨hy.1,hy.2 _ (ZI.of (hP.1 _ _ h14 qp))⟩) (λR ys H8 hP=>⟨_,ZI.of (hP.1 _ _ h14 qp),by lia⟩)
      (λR hR=>⟨ZG.of (Zq hR _),W14.same (Zq hR _),hR,[],Z,Z,nofun,.nil⟩) (λR i ys H8 z eR hl' hi hz hP Rr hRr=>?_) (λR ys H8 eR hP=>?_)⟩
     ·let⟨s8,W8,nR,rs,e1,e2,e3,ky⟩:=hP;let Rp:R≠p:=(Ze hy14 nR).symm;let hz':ws[a0+i]? = some z:=by rw[uO (by lia),uM] at hz;exact hz
      let⟨t,et,kt⟩:=kks14.get hz';refine⟨_,Z,_,Z,p,Z,W8,λv tv H9 kv fv W9 s9=>⟨nn (zR rfl),λa na=>?_⟩⟩;let⟨H10,eU10,s10,h10⟩:=Ym na (.tup [z,v]);rw[eU10];let eR10:=s10 _ _ (s9 _ _ eR Rp);let t810:YD H8 H10:=λc xs e=>s10 _ _ (s9.tupsW W8 _ _ e);let sR:ZG R H10 (upd H10 R (.lst (ys++[.ref a]))):=(ZG.refl R H10).upd;let tR:=sR.tups eR10;refine hRr _ H10 eR10 ⟨λc o e n=>by rw[ZY (Ze e nR)];exact s10 _ _ (s9 _ _ (s8 _ _ e n) n),(W9.same s10).stay sR Rp.symm,nR,rs++[(t,tv)],?_,by rw[zT,e2];rfl,λr hr=>?_,?_⟩
      ·rw[yZ,e1,yW,uO (show i<1+m4 by lia),uM,et]
       rfl
      ·rcases yU.mp hr with y | y
       ·exact e3 r y
       ·rw[zN.mp y];exact⟨fks t (zG et),fv⟩
      ·rw[MQ];refine((ky.mono t810 _ _).mono tR _ _).append (.cons (.tup (tR _ _ h10) (.cons ?_ (.cons ?_ .nil))) .nil)
       ·exact((kt.mono (s8.tupsW W14) _ _).mono t810 _ _).mono tR _ _
       ·exact(kv.mono (ZC.tups s10) _ _).mono tR _ _
     ·let⟨s8,W8,nR,rs,e1,e2,e3,ky⟩:=hP;let Rp:R≠p:=(Ze hy14 nR).symm;let h1118:∀ c o,c≠p->H11 c=some o->H8 c=some o:=λc o n e=>s8 _ _ (h1114 c o n e) n;let htl8':=h1118 _ _ ptl.symm htl11;refine⟨_,Z,.inl ⟨Z,_,ZI.of htl8'⟩,_,Z,nn (zR rfl),λa na=>?_⟩;let⟨H9,eU9,s9',h9⟩:=Ym na (.tup [.int 0,.non,.ref R]);rw[eU9];let G:Xn rs:=by
       let er:rs.map (·.1)=(ks.drop a0).take (min pn (1+m4)):=by rw[e1,List.take_take]
       exists e3,by lia,by lia
       rw[er];exact(rks.sublist (List.drop_sublist _ _)).sublist (List.take_sublist _ _)
      exists tl,_,_,Z,Z,s9' _ _ htl8',YF (by lia)
      rw[<-lj];let tg8':Zh [p,tl] H8 us ts:=tg11.step (λx h=>h) (λc o n e=>h1118 c o (λz=>n (by rw[z];simp)) e) λc xs e=>s8.tupsW W14 _ _ (t14 _ _ e)
      refine Dv (t:=Uq rs) (λc o n1 n2 e=>s9' _ _ (h1118 c o n1 (fr11 c o n1 n2 e))) (W8.same s9') (s9' _ _ htl8') (tg8'.same (λx h=>h) s9') (fk5.snoc (λ_=>⟨Z,G⟩) (λz=>absurd Z z) λr hr=>?_) (.mk h9 (λz=>?_) (s9' _ _ eR) (ky.mono (ZC.tups s9') _ _) (λ_=>rfl) λz=>absurd Z z) ptl
      ·have:r.1∈rs.map (·.1):=List.mem_map_of_mem hr;rw[e1] at this;exact tG (tX (tX this))
      ·rcases zI.mp z with z | z
       ·exact Rp z
       ·have:=h1114 _ _ ptl.symm htl11;rw[<-zN.mp z,nR] at this;cases this
 ·generalize ej:(1+r2).toNat=j at hP
  induction hP
  rename_i j us ts x3 x4 x5 x6 x7 x8 x9 H5 fr5 W5 htl5 tg5 fk5 lj
  refine⟨_,Z,k H5 tl us ts W5 (λc o e n=>fr5 c o n ?_ ?_) ?_ htl5 (tg5.same (λx h=>by rcases zI.mp h with y | y;(rw[y];simp);cases y) (ZC.refl H5)) fk5.fo (by lia) (by lia) (fk5.low rks (by lia))⟩
  ·intro z;exact Ze (s2 c o (s1 c o e n) n) ntl z
  ·exact s4 _ _ (s3 _ _ (s2 _ _ (s1 c o e n) n)) n
  ·cases h:H tl with
   | none=>rfl
   | some o=>
    have:=s2 _ _ (s1 _ _ h ptl.symm) ptl.symm;rw[ntl] at this;cases this
end _T
namespace L2
open PySem PySem.Spec PyProof.Rows
section
variable{a b:Expr}{rest:jU}{pos:Pos}{ta tb:TE}
def Fc(K:zZ)(ta tb:TE):TE:=λσ H Q=>ta σ H λx H1=>∃ k,Dj K x H1 k/\if k=true then Q x H1 else tb σ H1 Q
def EX(ha:PE X a ta)(hb:PE X (.BoolOp .Or (b::rest) pos) tb):PE X (.BoolOp .Or (a::b::rest) pos) (Fc X.K ta tb):=by
 intro kR s σ H Q I h;refine BoolOp_or (Zb (ha kR s σ H _ I h) λv s1 ⟨x,H1,I1,r1,q1⟩=>?_);refine Zb (ZPl kR s1 σ H1 x v (λc H2=>if c=true then Q x H2 else tb σ H2 Q) I1 r1 q1) λc s2 ⟨H2,I2,q2⟩=>?_
 cases c with
 | false=>exact hb kR s2 σ H2 Q I2 q2
 | true=>exact⟨x,H2,I2,r1,q2⟩
end
end L2
namespace _T
open PySem PySem.Spec L2 PyProof.Rows
variable{kP kQ CS CT CH CK CP CB:aj}
abbrev VE(es:List (jQ)):jh:=es.map Yn
inductive VL:Sp
 |mk{p tl:aj}{us:jh}{ts:jN}{H:Hp}{Q:VK}{E:XK}:ZS H p->tl≠p->H tl=some (.lst us)->Zh [p] H us ts->Ug ts->0<ts.length->ts.length<=24 ->
  (∀(H':Hp)(D:aj)(es:List (jQ)),ZS H' p->ZG p H H'->H D=none->H' D=some (.lst (VE es))->es.length<=28->(∀ r,some r∈es->r<ts.length)->(∀ i<ts.length,some i∈es\/∃ q<ts.length,i∈(gd ts q).bs)->Q (.ref D) H')->VL [.ref p,.ref tl] H Q E
def U2:ZB ["_law_well_here","_law_twigs","_law_used","_law_twig","_law_at","_law_stops","_law_k"] zEu (Zl Jn):=⟨Z,Z,Z,by decide +kernel,Z,by decide +kernel,by decide +kernel⟩
abbrev Hz(ts:jN)(kvs:List (Zi×V)):Prop:=∀ b:Nat,(YM kvs (.inl (b:Int))).isSome=true->∃ q<ts.length,b∈(gd ts q).bs
inductive Eg(H:Hp)(p tl D:aj)(ts:jN):Nat->L2.St->Hp->Prop
 |mk{j:Nat}{kvs:List (Zi×V)}{x3 x4 x5 x6:ji}{H':Hp}:ZG D H H'->H' D=some (.dK kvs)->Hz ts kvs->kvs.length<=4 * j->Eg H p tl D ts j [some (.ref p),some (.ref tl),some (.ref D),x3,x4,x5,x6] H'
inductive ES(H:Hp)(p tl D:aj)(ts:jN)(n:Nat)(x3 x5 x6:ji):Nat->L2.St->Hp->Prop
 |mk{j:Nat}{kvs:List (Zi×V)}{x4:ji}{H':Hp}:ZG D H H'->H' D=some (.dK kvs)->Hz ts kvs->kvs.length<=4 * n+j->ES H p tl D ts n x3 x5 x6 j [some (.ref p),some (.ref tl),some (.ref D),x3,x4,x5,x6] H'
inductive GR(H:Hp)(p tl D S:aj)(n:Nat)(fs:List (jQ))(x3 x4:ji):Nat->L2.St->Hp->Prop
 |mk{j:Nat}{es:List (jQ)}{x6:ji}{H':Hp}:(∀ c o,c≠p->c≠S->H c=some o->H' c=some o)->ZS H' p->H' S=some (.lst (VE es))->es.length=fs.length+j->(∀ r,some r∈es->r<n)->(∀ e∈fs,e∈es)->GR H p tl D S n fs x3 x4 j [some (.ref p),some (.ref tl),some (.ref D),x3,x4,some (.ref S),x6] H'
def ED{A:jR}{H:Hp}{u:V}{t:ZW}(h:XG A H u t):∃(a rl:aj)(bV:V),u=.ref a/\H a=some (.tup [.int (t.h:Nat),bV,.ref rl])/\(t.h=0->bV=.non)/\(t.h≠0->∃ bl,bV=.ref bl/\bl∉A/\H bl=some (.lst (iN t.bs))):=by
 induction h
 rename_i a rl bV ws t ea n1 el ks hl hs
 exact⟨a,rl,bV,Z,ea,hl,hs⟩
def ZOV(F:Zo K "_law_ends" "_law_ends" Jn f fd)(T:Txt mg)(DP:ZA P w K mg kT 1 "_law_pull" zEd Z6):ZK P w K mg kT ZV 2 f fd zEu VL:=by
 refine F.ok U2 (λvs H Q E h=>(by induction h;rfl)) (λcdv A outer s H vs Q E hr h=>?_)
 induction h
 rename_i p tl us ts H Q E W tlp htl tg fo n0 l24 k
 let nd:=U2.nd;let hu:=Zf.key hr (n:=1) (by decide)
 refine⟨_,ZO (Zr (i:=2) nd rfl (Or.inr rfl) Mf)
  (ZO (Xi PassesOwn.never rfl (Xu (pv 1)) (XB (i:=3) nd rfl (Or.inl rfl))
   (ZP (Xi PassesOwn.never rfl (Xu (EX (Za (r:=Zp K) ZM (pv 3) ZL (λ_ _=>rfl)) (U4 (Yo ZD)))) (XB (i:=4) nd rfl (Or.inl rfl))
    (ZP (Ma hu (pv 2) (pv 4) Pi rfl)))))
  (ZO (M7 (i:=5) [2] ["_law_used"] nd rfl rfl rfl (UW rfl T.range (ZF (Zv Yk rfl T.len YU (ZF (pv 1) ZD)) ZD)) (λ_ _ _ _ _=>JX (Uz (IP hu (pv 0) (pv 1)))) (λ_ _ _ _ _=>pv 0) ⟨rfl,.inl rfl,rfl,trivial⟩)
  (ZO (Xi PassesOwn.never rfl (UW rfl T.range (ZF (Zc DP hr (ZF (pv 0) (ZF ZL ZD))) ZD)) (XB (i:=6) nd rfl (Or.inl rfl))
   (ZP (Xd (WW yB qE qC FD (pv 5) (ZF (Zc DP hr (ZF (pv 0) (ZF (Zs Y2 (Zv Yk rfl T.len YU (ZF (pv 5) ZD)) ZL) ZD))) (ZF (Za (r:=YE K) YH (Yo (ZF Mt (ZF (Zc DP hr (ZF (pv 0) (ZF (Zv Yk rfl T.len YU (ZF (pv 1) ZD)) ZD))) ZD))) (Zc DP hr (ZF (pv 0) (ZF ZL ZD))) (λ_ _=>rfl)) ZD))))))
  (ZP (Zk (pv 5)))))),?_⟩
 intro D nD;let⟨H1,eU1,s1,h1⟩:=Ym nD (.dK []);rw[eU1];let⟨px,hpx⟩:=W.some;let pD:p≠D:=Ze hpx nD;let tlD:tl≠D:=Ze htl nD;let lus:=Paired.length tg;let htl1:=s1 _ _ htl;let tg1:Zh [p] H1 us ts:=tg.same (λx h=>h) s1;refine⟨_,Z,tl,Z,⟨_,ZI.of htl1⟩,Vt (K:=K) (a:=tl) (xs:=us) (Eg H1 p tl D ts) (.mk (ZG.refl D H1) h1 (λb h=>by cases h) (zH _)) ?_ ?_ ?_⟩
 ·intro j σ H2 _ hI
  induction hI
  rename_i s2 _ _ _
  exact ZI.of (s2 _ _ htl1 tlD)
 ·intro j u σ H2 hu2 hI
  induction hI
  rename_i j kvs x3 x4 x5 x6 H2 s2 h2 uo ul
  let⟨t,et,tb⟩:=Paired.ixL tg hu2;let jl:=(yY.mp et).1;let eg:gd ts j=t:=by unfold gd;rw[zQ,et];rfl
  let⟨a,rl,bV,rfl,ea,lf,st⟩:=ED tb;let t12:YD H1 H2:=λc xs e=>s2 c _ e (Zg e h1 (by intro z;cases z))
  let ea2:=t12 _ _ (s1 _ _ ea);by_cases h0:t.h=0
  ·rw[lf h0] at ea2;refine⟨_,Z,a,_,_,_,Z,Z,Zd.of ea2,Z,false,Z,Zn ⟨nn (zR rfl),λq nq=>?_⟩⟩;let⟨H3,eU3,s3,h3⟩:=Ym nq (.lst []);rw[eU3];refine⟨q,Z,⟨_,ZI.of h3⟩,Vt (K:=K) (a:=q) (xs:=[]) (λi σ H'=>σ=[some (.ref p),some (.ref tl),some (.ref D),some (.ref a),x4,x5,x6]/\H'=H3) ⟨Z,Z⟩ (λi σ H' _ z=>by rw[z.2];exact ZI.of h3) (λi x σ H' z=>by cases z) λσ H' z=>?_⟩
   rw[z.1,z.2];exact .mk (λc o e n=>s3 _ _ (s2 c o e n)) (s3 _ _ h2) uo (by lia)
  ·let⟨bl,rfl,nA,hb⟩:=st h0;let⟨_,b2,b4,_,_⟩:=fo.st j jl (by rw[eg];exact h0)
   rw[eg] at b2 b4;let hb2:=s2 _ _ (s1 _ _ hb) (Ze hb nD);let lb:(iN t.bs).length=t.bs.length:=zY _;refine⟨_,Z,a,_,_,_,Z,Z,Zd.of ea2,Z,true,.inl ⟨_,ZI.of hb2,?_⟩,Z7 ⟨bl,Z,⟨_,ZI.of hb2⟩,Vt (K:=K) (a:=bl) (xs:=iN t.bs) (ES H1 p tl D ts j (some (.ref a)) x5 x6) (.mk s2 h2 uo ul) ?_ ?_ ?_⟩⟩
   ·cases eb:t.bs with
    | nil=>rw[eb] at b2;exact absurd b2 (by decide)
    | cons b l=>rfl
   ·intro i σ H3 _ hI
    induction hI
    rename_i s3 _ _ _
    exact ZI.of (s3 _ _ (s1 _ _ hb) (Ze hb nD))
   ·intro i u σ H3 hu3 hI
    induction hI
    rename_i i kvs x4 H3 s3 h3 uo3 ul3
    let⟨b,ebj,rfl⟩:=Qi hu3;let il:=(yY.mp ebj).1;refine⟨_,Z,_,Z,D,_,Z,.inl ⟨kvs,.inl (b:Int),h3,Z,YF (by lia),Z⟩,.mk s3.upd ZZ (λb' hb'=>?_) (by have:=Iz kvs (.inl (b:Int)) (.bl true);lia)⟩
    rw[GT] at hb';by_cases z:(Sum.inl (b':Int):Zi)=Sum.inl (b:Int)
    ·let z:=Sum.inl.inj z;exact⟨j,jl,by rw[eg,show b'=b by lia];exact zG ebj⟩
    ·rw[aJ z] at hb';exact uo3 b' hb'
   ·intro σ H3 hI;rw[lb] at hI;generalize ei:t.bs.length=i at hI
    induction hI
    rename_i i kvs x4 H3 s3 h3 uo3 ul3
    exact .mk s3 h3 uo3 (by lia)
 ·intro σ H2 hI;rw[lus] at hI;generalize ej:ts.length=j at hI
  induction hI
  rename_i j kvs x3 x4 x5 x6 H2 s2 h2 uo ul
  let s12:∀ c o,c≠D->H1 c=some o->H2 c=some o:=λc o n e=>s2 c o e n;let htl2:=s2 _ _ htl1 tlD;let W2:ZS H2 p:=(W.same s1).stay s2 pD;let⟨p2,hp2⟩:=W2.some;let kp:∀ b:Nat,∃ o,YM kvs (.inl (b:Int))=o:=λb=>⟨_,Z⟩;exists _,Z,tl,us,Z,.inl (ZI.of htl2),_,Z,by lia,by lia
  refine HM (n:=us.length) (λi z=>z=.int (0+(i:Int))) (λi=>!(YM kvs (.inl (i:Int))).isSome) (λR i ys H8=>ZC H2 H8/\H2 R=none/\ys=VE (((zF i).filter λi:Nat=>!(YM kvs (.inl (i:Int))).isSome).map some)) (YF (by lia))
   (λR i ys H8 hi' hP=>hi') (λR i ys H8 z H9 hi' hP hy=>hy) (λR ys H8 hP=>zX _) (λR hR=>⟨Zq hR _,hR,Z⟩) (λR i ys H8 z eR hi' hz hP Rr hRr=>?_) (λR i ys H8 z eR hi' hz hk hP Rr hRr=>?_) (λR i ys H8 eR hi' hk hP=>?_) (λR ys H8 eR hP=>?_)
  ·let⟨s8,nR,rfl⟩:=hP;subst hz;exact⟨_,Z,_,Z,D,_,Z,.inl ⟨kvs,.inl (0+(i:Int)),.inl (s8 _ _ h2),Z,by rw[wS]⟩,_,Z,hRr H8 eR ⟨s8,nR,Z⟩⟩
  ·let⟨s8,nR,rfl⟩:=hP;subst hz;refine⟨_,Z,hRr _ H8 eR ⟨Uh s8 nR,nR,?_⟩⟩;rw[xN,vR,xL,aK hk,wS];simp[VE];rfl
  ·let⟨s8,nR,rfl⟩:=hP;exists s8,nR;rw[xN,vR,xL,hk];simp[VE]
  ·let⟨s8,nR,rfl⟩:=hP;obtain⟨fs,hfs⟩:∃ fs,fs=((zF us.length).filter λi:Nat=>!(YM kvs (.inl (i:Int))).isSome).map some:=⟨_,Z⟩;rw[<-hfs] at eR;let lfs:fs.length<=us.length:=by
    rw[hfs,zY];exact zK (rH _ _) (by rw[xE];exact zX _)
   let ifs:∀ i:Nat,some i∈fs ↔ i<us.length/\(YM kvs (.inl (i:Int))).isSome=false:=λi=>by
    rw[hfs,yR];constructor
    ·rintro⟨j,hj,e⟩;cases e;let⟨h1,h2⟩:=wJ.mp hj;exact⟨yX.mp h1,by simpa using h2⟩
    ·rintro⟨h1,h2⟩;exact⟨i,wJ.mpr ⟨yX.mpr h1,by rw[h2];rfl⟩,Z⟩
   let W8:=W2.same s8;let pR:p≠R:=Ze hp2 nR;let tlR:tl≠R:=Ze htl2 nR;let htl8:=s8 _ _ htl2;refine⟨_,Z,p,5,Z,W8,Wf (by decide) (by decide),λr0 H9 r00 r01 W9 s9=>⟨_,Z,by lia,by lia,?_⟩⟩
   refine Ql (n:=r0.toNat) (GR H9 p tl D R ts.length fs x3 x4) (.mk (es:=fs) (λc o _ _ e=>e) W9 (s9 _ _ eR pR.symm) rfl (λr hr=>by rw[<-lus];exact((ifs r).mp hr).1) λe h=>h) (λi σ H10 hi hP=>?_) (λσ H10 hP=>?_)
   ·induction hP
    rename_i i es x6 H10 fr10 W10 hR ln inn sub
    let le:(VE es).length=es.length:=zY _;let⟨p10,hp10⟩:=W10.some;let htl10:=fr10 _ _ tlp tlR (s9 _ _ htl8 tlp);refine⟨_,Z,.inl ⟨Z,_,ZI.of hR⟩,_,Z,_,Z,R,_,Z,.inl (ZI.of hR),_,_,Z,Z,p,_,Z,W10,Wf (by lia) (by lia),λr1 H11 r10 r11 W11 s11=>?_⟩
    let hR11:=s11 _ _ hR pR.symm;let htl11:=s11 _ _ htl10 tlp;refine⟨_,Z,_,Z,tl,_,Z,.inl (ZI.of htl11),p,_,Z,W11,Wf (by lia) (by lia),λr2 H12 r20 r21 W12 s12=>⟨nn (zR rfl),λq nq=>?_⟩⟩
    let⟨H13,eU13,s13,h13⟩:=Ym nq (.lst [.non,.int r2]);rw[eU13];let⟨p12,hp12⟩:=W12.some;let qp:q≠p:=(Ze hp12 nq).symm;refine⟨_,Z,p,2,Z,W12.same s13,Wf (by decide) (by decide),λr3 H14 r30 r31 W14 s14=>?_⟩
    let⟨m2,rfl⟩:=xB r20;let⟨m1,rfl⟩:=xB r10;let⟨m3,rfl⟩:=xB r30;obtain⟨e,he,hv⟩:∃ e:jQ,(∀ r,e=some r->r<ts.length)/\([V.non,.int (m2:Int)]:jh)[m3]? = some (Yn e):=by
     by_cases z:m3=0
     ·exact⟨none,nofun,by rw[z];rfl⟩
     ·exact⟨some m2,λr hr=>by cases hr;lia,by rw[show m3=1 by lia];rfl⟩
    let hR14:=s14 _ _ (s13 _ _ (s12 _ _ hR11 pR.symm)) pR.symm;refine .inl ⟨q,_,_,_,Z,Z,ZI.of (s14 _ _ h13 qp),Yj hv,?_⟩;exists R,_,m1,_,Z,Z,hR14,by lia,YF (by lia)
    let ee:(VE es).take m1++Yn e::(VE es).drop m1=VE (es.take m1++e::es.drop m1):=by
     unfold VE;rw[yZ,zB,rF,zEA]
    rw[ee];let sR:ZG R H14 (upd H14 R (.lst (VE (es.take m1++e::es.drop m1)))):=(ZG.refl R H14).upd;refine .mk (λc o n1 n2 e'=>sR c o (s14 _ _ (s13 _ _ (s12 _ _ (s11 _ _ (fr10 c o n1 n2 e') n1) n1)) n1) n2) (W14.stay sR pR) ZZ (by rw[zT,zU,yK,xR];lia) (λr hr=>?_) λx hx=>?_
    ·rcases yU.mp hr with z | z
     ·exact inn r (tX z)
     ·rcases zI.mp z with z | z
      ·exact he r z.symm
      ·exact inn r (tG z)
    ·have:=sub x hx;rw[<-wF m1 es] at this;rcases yU.mp this with z | z
     ·exact xV _ z
     ·exact yC _ (zJ _ z)
   ·generalize ei:r0.toNat=i at hP
    induction hP
    rename_i i es x6 H10 fr10 W10 hR ln inn sub
    refine⟨_,Z,k H10 R es W10 (λc o e n=>?_) ?_ hR (by lia) inn λi hi=>?_⟩
    ·let cD:=Ze e nD;let e8:=s8 _ _ (s12 _ _ cD (s1 _ _ e));exact fr10 c o n (Ze (s12 _ _ cD (s1 _ _ e)) nR) (s9 _ _ e8 n)
    ·cases h:H R with
     | none=>rfl
     | some o=>
      have:=s12 _ _ (Ze h nD) (s1 _ _ h);rw[nR] at this;cases this
    ·cases q:(YM kvs (.inl (i:Int))).isSome with
     | false=>exact .inl (sub _ ((ifs i).mpr ⟨by rw[lus];exact hi,q⟩))
     | true=>exact .inr (uo i q)
section
variable{kP kQ CTb:aj}
def Xf(M:jK):List (Zi×V):=M.map λi:Nat=>(.inl (i:Int),.int (i:Nat))
def MV:∀(M:jK)(i:Nat),YM (Xf M) (.inl (i:Int))=if i∈M then some (.int (i:Nat)) else none:=λM=>by
 induction M with
 | nil=>intro i;rfl
 | cons a M ih=>
  intro i;unfold Xf at ih⊢;by_cases e:a=i
  ·rw[zB,UO (by rw[e]),aK (by rw[e];exact zO),e]
  ·rw[zB,Vv (λz=>e (by have:=Sum.inl.inj z;lia)),ih]
   by_cases m:i∈M
   ·rw[aK m,aK (zJ _ m)]
   ·rw[aJ m,aJ λz=>(zI.mp z).elim (λq=>e q.symm) m]
def Ur(M:jK)(i:Nat):jK:=if i∈M then M else M++[i]
def ZOM(M:jK)(i:Nat):Xo (Xf M) (.inl (i:Int)) (.int (i:Nat))=Xf (Ur M i):=by
 unfold Ur;by_cases m:i∈M
 ·rw[aK m];unfold Xo;rw[OA,MV,aK m];show (Xf M).map _=Xf M;unfold Xf;rw[xU];refine uB λa _=>?_;show (if (Sum.inl (a:Int):Zi)=Sum.inl (i:Int) then _ else _)=_
  split
  ·next z=>rw[show a=i by have:=Sum.inl.inj z;lia]
  ·rfl
 ·rw[aJ m,Jw _ (by rw[MV,aJ m])]
  unfold Xf;rw[yZ];rfl
def CW{M:jK}{i:Nat}(h:M.Nodup):(Ur M i).Nodup:=by
 unfold Ur;split
 ·exact h
 ·next z=>rw[uV];exact⟨h,xO.mpr ⟨xF,wW⟩,λa ha b hb e=>z (by rw[<-zN.mp hb,<-e];exact ha)⟩
def YK{M:jK}{i x:Nat}:x∈Ur M i ↔ x∈M\/x=i:=by
 unfold Ur;split
 ·next z=>exact⟨.inl,λh=>h.elim id λe=>e ▸ z⟩
 ·simp
inductive YJ(n:Nat)(kP kQ:aj):Sp
 |mk{X:Zx}{lk tl pl:aj}{ls us:jh}{ts:jN}{A:jR}{M:jK}{i:Nat}{U:Nat->Prop}{g:Nat->Nat}{o:jK}{H:Hp}{Q:VK}{E:XK}:Sd kP kQ H X lk ls U g o->X.ts=ts->i∈X.lv->(gd ts i).h<n->H tl=some (.lst us)->Zh A H us ts->(∀ x∈X.lv,x<ts.length)->lk∈A->pl∈A->tl≠lk->tl≠pl->Ya X lk pl->H pl=some (.dK (Xf M))->M.Nodup->(∀ x∈M,x∈X.lv)->X.lv.length<=900->(gd ts i).rows.length<=200->ls.length+2 * (gd ts i).rows.length+(gd ts i).h<=380000 ->
  (∀(H':Hp)(ls':jh)(M':jK),(∀ c o,c≠lk->c≠pl->H c=some o->H' c=some o)->Sd kP kQ H' X lk ls' U g o->H' pl=some (.dK (Xf M'))->M'.Nodup->(∀ x∈M,x∈M')->i∈M'->(∀ x∈M',x∈X.lv)->(∀ x∈M',x∈M\/∀ b∈(gd ts x).bs,b∈M')->ls'.length+1<=ls.length+2 * (gd ts i).rows.length->Q (.bl true) H')->YJ n kP kQ [.ref X.S,.ref tl,.int (i:Nat),.int (i:Nat),.ref pl] H Q E
abbrev ZK7:jP:=["_law_shelf","_law_twigs","_law_number","_law_at","_law_places","_law_kind","_law_what","_law_good"]
def VA:ZB ZK7 zEb (Zl KB):=⟨Z,Z,Z,by decide +kernel,Z,by decide +kernel,by decide +kernel⟩
def Fn{r:Yf}(h:r.fit):(KD r).wide 4=true:=by
 unfold KD;rw[KT.wide,KA];let h1:=KW _ _ h.1;let h2:=KW _ _ h.2;simp[h1,h2]
def FQ{A:jR}{H:Hp}{u:V}{t:ZW}(h:XG A H u t):∃(a rl:aj)(bV:V)(ws:jh),u=.ref a/\H a=some (.tup [.int (t.h:Nat),bV,.ref rl])/\H rl=some (.lst ws)/\rl∉A/\kK H (Y1 t.rows) ws/\(t.h=0->bV=.non)/\(t.h≠0->∃ bl,bV=.ref bl/\bl∉A/\H bl=some (.lst (iN t.bs))):=by
 induction h
 rename_i a rl bV ws t ea n1 el ks hl hs
 exact⟨a,rl,bV,ws,Z,ea,el,n1,ks,hl,hs⟩
inductive EL(kP kQ:aj)(X:Zx)(lk pl:aj)(ls:jh)(M0:jK)(H0:Hp)(U:Nat->Prop)(g:Nat->Nat)(o bs:jK)(R:aj):Nat->jh->Hp->Prop
 |mk{j:Nat}{ls':jh}{M:jK}{H':Hp}:(∀ c o,c≠lk->c≠pl->H0 c=some o->H' c=some o)->Sd kP kQ H' X lk ls' U g o->H' pl=some (.dK (Xf M))->M.Nodup->(∀ x∈M0,x∈M)->(∀ b∈bs.take j,b∈M)->(∀ x∈M,x∈X.lv)->(∀ x∈M,x∈M0\/∀ b∈(gd X.ts x).bs,b∈M)->ls'.length+j<=ls.length+2 * (Z4 X.ts (bs.take j)).length->H0 R=none->EL kP kQ X lk pl ls M0 H0 U g o bs R j (xI j (.bl true)) H'
def ZIV{n:Nat}(F:Zo K "_law_matched" "_law_matched" KB f fd)(T:Txt mg)(L:Y4 K mg kP kQ)(DL:ZH P w K mg kT ZV 2 kP "look" zEa (XV kP kQ))(DA:ZA P w K mg kT 8 "_law_rows_alike" zEe Yq)(DM:ZA P w K mg kT (n+9) "_law_matched" zEb (YJ n kP kQ)):ZK P w K mg kT ZV (n+10) f fd zEb (YJ (n+1) kP kQ):=by
 refine F.ok VA (λvs H Q E h=>(by induction h;rfl)) (λcdv A outer s H vs Q E hr h=>?_)
 induction h
 rename_i X lk tl pl ls us ts A M i U g o H Q E S et hi hn htl tg lvl lA pA tlk tpl opl jp nM Ml l9 r2 few k
 let nd:=VA.nd;let hr2:=hr.mono (show 2<=n+9 by lia)
 let hr8:=hr.mono (show 8<=n+9 by lia)
 let hu:=Zf.key hr (n:=1) (by decide)
 refine⟨_,ZO (Zt (Z3 Vs (ZL6 hu (pv 4) (pv 3) (pv 2) ⟨rfl,rfl,rfl,rfl⟩) (pv 2) (Zu _)) (ZP WM) Zw)
  (ZO (Ma hu (pv 4) (pv 3) (pv 2) rfl)
  (ZO (MF (XM (E:=E0) (pv 0) L.cS DL hr2 Yd (ZF (pv 2) ZD)) (IZ rfl (Ol (XB (i:=5) nd rfl (Or.inl rfl)) (Ol (XB (i:=6) nd rfl (Or.inr rfl)) Ip))))
  (ZO (Zt (Uz (Os (Za (r:=Zp K) ZM (Za (r:=YE K) YH (pv 1) (pv 3) (λ_ _=>rfl)) ZL (λ_ _=>rfl))))
   (ZP (Zk (QX (VY XE (pv 5) YB (Zu _)) (U4 (Zc DA hr8 (ZF (pv 6) (ZF (Za (r:=Zp K) ZM (Za (r:=YE K) YH (pv 1) (pv 3) (λ_ _=>rfl)) ZL (λ_ _=>rfl)) ZD))))))) Zw)
  (ZO (Zt (PW.pt (Vo (Z3 Vs (pv 5) YB (Zu _)) (UN (Z3 Vs (Zv Yk rfl T.len YU (ZF (pv 6) ZD)) (Zv Yk rfl T.len YU (ZF (Za (r:=Zp K) ZM (Za (r:=YE K) YH (pv 1) (pv 3) (λ_ _=>rfl)) ZL (λ_ _=>rfl)) ZD)) (Zu _))))) (ZP WM) Zw)
  (ZO (M7 (i:=7) [0,1,6,3,4] ["_law_shelf","_law_twigs","_law_what","_law_at","_law_places"] nd rfl rfl rfl (UW rfl T.range (ZF (Zv Yk rfl T.len YU (ZF (pv 6) ZD)) ZD)) (λ_ _ _ _ _=>Wj)
   (λ_ _ _ _ _=>Zc DM hr (ZF (pv 1) (ZF (pv 2) (UA (Za (r:=YE K) YH (pv 3) (pv 0) (λ_ _=>rfl)) (Za (r:=YE K) YH (Za (r:=Zp K) ZM (Za (r:=YE K) YH (pv 2) (pv 4) (λ_ _=>rfl)) ZL (λ_ _=>rfl)) (pv 0) (λ_ _=>rfl)) (pv 5))))) ⟨rfl,.inl rfl,rfl,rfl,.inl rfl,rfl,rfl,.inl rfl,rfl,rfl,.inl rfl,rfl,rfl,.inl rfl,rfl,trivial⟩)
  (ZP (Zk (VY Ds Pi (pv 7) rfl)))))))),?_⟩
 let S0:=S;subst et;let il:=lvl i hi;let⟨u,hu2,tb⟩:=ZU tg (Qa il);let eN:∀ o,o=YM (Xf M) (.inl (i:Int))->o.getD (.int (i:Nat))=.int (i:Nat):=λo e=>by
  rw[e,MV];split <;> rfl
 exists _,Z,pl,Z,.inl ⟨_,.inl jp⟩,_,Z,_,Z,_,.inl ⟨Xf M,.inl (i:Int),.inl jp,Z,Z⟩,_,Z;rw[eN _ rfl];exists Z,_,Z;rw[aI rfl];refine Zn ⟨_,Z,_,Z,_,Z,pl,_,Z,.inl ⟨Xf M,.inl (i:Int),jp,Z,?_,Z⟩,?_⟩
 ·have:=OR nM Ml;unfold Xf;rw[zY];exact YF (by lia)
 rw[ZOM];let fr1:∀ c o,c≠pl->H c=some o->upd H pl (.dK (Xf (Ur M i))) c=some o:=λc o n e=>by rw[ZY n];exact e
 let hpl1:=ZZ (H:=H) (a:=pl) (o:=.dK (Xf (Ur M i)));let S1:=S.upd1 opl jp nofun fr1;generalize upd H pl (.dK (Xf (Ur M i)))=H1 at fr1 hpl1 S1⊢;let⟨dS,hS⟩:=S1.sh.sh.self;refine⟨_,Z,X.S,dS,_,Z,hS,Z,_,Z,X,lk,_,ls,i,Z,S1.sh.q,hi,by lia,λH2 tp l ws fr2 Q2 htp nl hl kr br=>?_⟩
 exists tp,_,Z,Zd.of htp,Z,_,_,Z,_,_,Z,Z;let S2:=S1.of Q2;let fr12:∀ c o,c≠lk->c≠pl->H c=some o->H2 c=some o:=λc o n1 n2 e=>fr2 c o n1 (fr1 c o n2 e);let hlk:=S.sh.sh.looks;let t02:YD H H2:=λc xs e=>fr12 c _ (Zg e hlk (by intro z;cases z)) (Zg e jp (by intro z;cases z)) e
 let tgf:∀ c o,c∉A->H c=some o->H2 c=some o:=λc o n e=>fr12 c o (λz=>n (z ▸ lA)) (λz=>n (z ▸ pA)) e;let tg2:Zh A H2 us X.ts:=tg.step (λx h=>h) tgf t02;let tb2:=tb.step (A':=A) (λx h=>h) tgf t02;let htl2:=fr12 _ _ tlk tpl htl;let hpl2:=fr2 _ _ (λz=>opl.2.2.1 z) hpl1;let M1n:=CW (i:=i) nM;let M1l:∀ x∈Ur M i,x∈X.lv:=λx hx=>(YK.mp hx).elim (Ml x) λe=>e ▸ hi;let⟨a,rl,bV,wr,rfl,ea,erl,_,kks,lf,st⟩:=FQ tb2;by_cases h0:(gd X.ts i).h=0
 ·obtain rfl:=lf h0;let okt:=S.dg.wf i hi;let rl1:0<(gd X.ts i).rows.length:=xJ.mpr okt.ne;refine⟨_,Z,_,Z,.inl ⟨tl,_,_,_,Z,Z,ZI.of htl2,Yj hu2,a,_,_,_,Z,Z,Zd.of ea,Z,_,Z,Z7 ?_⟩⟩;exists _,Z,Z,_,Z;rw[Dn,aI h0];refine Z7 ⟨_,Z,_,Z,_,Z,.inl ⟨tl,_,_,_,Z,Z,ZI.of htl2,Yj hu2,a,_,_,_,Z,Z,Zd.of ea,Z,_,rl,ws,wr,Y1 (gd X.ts i).rows,Z,hl,erl,kr h0,kks,λt ht=>?_,by unfold Y1;rw[zY];lia,λH3 s3=>?_⟩⟩
  ·let⟨r,hr,rfl⟩:=yR.mp ht;exact Fn (okt.inn r hr)
  ·exact k H3 _ (Ur M i) (λc o n1 n2 e=>s3 _ _ (fr12 c o n1 n2 e)) (S2.same s3) (s3 _ _ hpl2) M1n (λx hx=>YK.mpr (.inl hx)) (YK.mpr (.inr rfl)) M1l (λx hx=>(YK.mp hx).imp id λe b hb=>by rw[e,(okt.leaf h0).1] at hb;cases hb) (by rw[zT];simp only[zU,yA];lia)
 ·let⟨bl,rfl,nA,hbl⟩:=st h0;let okt:=S.dg.wf i hi;let⟨b2,b4,bb,er⟩:=okt.stem h0;obtain rfl:=br h0;let lb:(iN (gd X.ts i).bs).length=(gd X.ts i).bs.length:=zY _;refine⟨_,Z,_,Z,.inl ⟨tl,_,_,_,Z,Z,ZI.of htl2,Yj hu2,a,_,_,_,Z,Z,Zd.of ea,Z,_,Z,Zn ?_⟩⟩;exists _,Z,Z,_,Z;rw[FC h0,aI rfl];refine Zn ⟨_,Z,_,_,Z,.inl (ZI.of hl),_,Z,_,Z,.inl ⟨tl,_,_,_,Z,Z,ZI.of htl2,Yj hu2,a,_,_,_,Z,Z,Zd.of ea,Z,bl,_,Z,.inl (ZI.of hbl),Z,_,Z,?_⟩⟩;rw[aI rfl];let lne:l≠lk:=λz=>by rw[z] at nl;rw[S1.sh.sh.looks] at nl;cases nl
  let lnp:l≠pl:=λz=>by rw[z] at nl;rw[hpl1] at nl;cases nl
  let ll1:(ls++[V.int (i:Nat)]).length=ls.length+1:=by rw[zT];rfl
  let hlk2:=S2.sh.sh.looks;let rB:∀ j,(Z4 X.ts ((gd X.ts i).bs.take j)).length<=(gd X.ts i).rows.length:=λj=>by
   let e:(gd X.ts i).rows=Z4 X.ts ((gd X.ts i).bs.take j)++Z4 X.ts ((gd X.ts i).bs.drop j):=by rw[<-O1,wF];exact er
   rw[e,zT];exact xM _ _
  refine Zn ⟨_,Z,l,_,Z,.inl (ZI.of hl),_,Z,by lia,by lia,?_⟩
  refine Wa (n:=(iN (gd X.ts i).bs).length) (λj z=>z=.int (0+(j:Int))) (λR j ys H8=>EL kP kQ X lk pl (ls++[V.int (i:Nat)]) (Ur M i) H2 U g o (gd X.ts i).bs R j ys H8) (YF (by lia))
   (λR j ys H8 hj hP=>hj) (λR j ys H8 z H9 hj hP hy=>hy) (λR ys H8 hP=>zX _) (λR hR=>?_) (λR j ys H8 z eR hl' hj hz hP Rr hRr=>?_) (λR ys H8 eR hP=>?_)
  ·let s:=Zq hR (.lst []);exact .mk (j:=0) (λc o _ _ e=>s _ _ e) (S2.same s) (s _ _ hpl2) M1n (λx h=>h) (λb hb=>by cases hb) M1l (λx h=>.inl h) (xM _ _) hR
  ·induction hP
   rename_i j ls8 M8 H8 fr8 S8 hpl8 M8n M8s M8b M8l M8c M8w nR
   subst hz;let hj':j<(gd X.ts i).bs.length:=by lia
   let eb:(gd X.ts i).bs[j]? = some ((gd X.ts i).bs[j]'hj'):=zV hj';obtain⟨b,hb⟩:∃ b,b=(gd X.ts i).bs[j]'hj':=⟨_,Z⟩;rw[<-hb] at eb;let⟨bl1,bh⟩:=bb b (zG eb);let ebN:(iN (gd X.ts i).bs)[j]? = some (.int (b:Nat)):=by rw[zC,eb];rfl
   let t28:YD H2 H8:=λc xs e=>fr8 c _ (Zg e hlk2 (by intro z;cases z)) (Zg e hpl2 (by intro z;cases z)) e
   let tg8:Zh A H8 us X.ts:=tg2.step (λx h=>h) (λc o n e=>fr8 c o (λz=>n (z ▸ lA)) (λz=>n (z ▸ pA)) e) t28;let e1:Z4 X.ts ((gd X.ts i).bs.take (j+1))=Z4 X.ts ((gd X.ts i).bs.take j)++(gd X.ts b).rows:=by
    rw[yW,eb,O1];show _++vC _ [b]=_;simp
   let r1:=rB (j+1);rw[e1,zT] at r1;rw[ll1] at M8w;refine⟨_,Z,_,Z,_,Z,_,Z,.inl ⟨l,_,_,_,Z,congrArg V.int (wS _),ZI.of (fr8 _ _ lne lnp hl),Yj ebN,_,Z,_,Z,.inl ⟨tl,_,_,_,Z,Z,ZI.of (fr8 _ _ tlk tpl htl2),Yj hu2,a,_,_,_,Z,Z,Zd.of (t28 _ _ ea),Z,_,Z,.inl ⟨bl,_,_,_,Z,congrArg V.int (wS _),ZI.of (fr8 _ _ (λz=>nA (z ▸ lA)) (λz=>nA (z ▸ pA)) hbl),Yj ebN,_,Z,?_⟩⟩⟩⟩;refine .mk S8 Z bl1 (by lia) (fr8 _ _ tlk tpl htl2) tg8 lvl lA pA tlk tpl opl hpl8 M8n M8l l9 (by lia) (by lia) λH9 ls9 M9 fr9 S9 hpl9 M9n M9s M9i M9l M9c M9w=>?_
   let Rlk:R≠lk:=(Ze hlk2 nR).symm;let Rpl:R≠pl:=(Ze hpl2 nR).symm;let eR9:=fr9 _ _ Rlk Rpl eR;let sR:ZG R H9 (upd H9 R (.lst (xI j (.bl true)++[.bl true]))):=(ZG.refl R H9).upd;let oR:Ya X lk R:=S2.sh.new nR;refine hRr _ H9 eR9 ?_;rw[show xI j (V.bl true)++[V.bl true]=xI (j+1) (V.bl true) from rO.symm] at sR⊢;refine .mk (λc o n1 n2 e=>sR c o (fr9 c o n1 n2 (fr8 c o n1 n2 e)) (Ze e nR)) (S9.upd1 oR eR9 nofun λc o n e=>sR c o e n) (sR _ _ hpl9 Rpl.symm) M9n (λx hx=>M9s x (M8s x hx)) (λc hc=>?_) M9l (λx hx=>?_) ?_ nR
   ·rw[yW,eb] at hc;rcases yU.mp hc with z | z
    ·exact M9s c (M8b c z)
    ·rw[zN.mp z];exact M9i
   ·rcases M9c x hx with z | z
    ·exact(M8c x z).imp id λq c hc=>M9s c (q c hc)
    ·exact .inr z
   ·rw[e1,ll1,zT];lia
  ·generalize ej:(iN (gd X.ts i).bs).length=j at hP
   induction hP
   rename_i j ls8 M8 H8 fr8 S8 hpl8 M8n M8s M8b M8l M8c M8w nR
   rw[yS (by lia)] at M8b M8w
   rw[ll1,show (Z4 X.ts (gd X.ts i).bs).length=(gd X.ts i).rows.length from congrArg xC er.symm] at M8w;exists _,Z,R,_,Z,.inl (ZI.of eR),Z,?_
   ·rw[zE];intro x hx;rw[(List.mem_replicate.mp hx).2];rfl
   ·let e:(if true then !Pf (V.bl false) (xI j (V.bl true)) else Pf (V.bl false) (xI j (V.bl true)))=true:=by
     rw[aK rfl];unfold Pf;rw[tI,List.any_eq_false];intro x hx;rw[(List.mem_replicate.mp hx).2];exact zS
    rw[e];exact k H8 ls8 M8 (λc o n1 n2 e=>fr8 c o n1 n2 (fr12 c o n1 n2 e)) S8 hpl8 M8n (λx hx=>M8s x (YK.mpr (.inl hx))) (M8s i (YK.mpr (.inr rfl))) M8l (λx hx=>by
     rcases M8c x hx with z | z
     ·exact(YK.mp z).imp id λe b hb=>M8b b (by rw[e] at hb;exact hb)
     ·exact .inr z) (by lia)
def Gn(T:Txt mg)(L0:ZX K mg "_law_matched" KB zEb)(L:Y4 K mg kP kQ)(DL:ZH P w K mg kT ZV 2 kP "look" zEa (XV kP kQ))(DA:ZA P w K mg kT 8 "_law_rows_alike" zEe Yq):∀ n:Nat,ZA P w K mg kT (n+9) "_law_matched" zEb (YJ n kP kQ)
 | 0=>L0.of λ_ _ _=>HX λvs H Q E h=>by induction h;lia
 | n+1=>L0.of λ_ _ F=>ZIV F T L DL DA (Gn T L0 L DL DA n)
end
end _T
namespace L2
open PySem PySem.Spec PyProof.Rows
section
variable{kR:jO}{σ:St}{H:Hp}{h':aD}
def ZJ.turnedL{t':Nat}{ch:jR}(I:ZJ X kR σ H s)(k:∀ b o,b∉ch->s.heap.get? b=some o->h'.get? b=some o)(hc:∀ b∈ch,H b=none/\b≠X.env.locals/\(b∈X.ex\/X.s₀.heap.objs.size<=b)/\(∀ x c,X.env.cells.lookup x=some c->c≠b)/\∀ p∈X.pn++kR,p.1≠b):ZJ X kR σ H { s with heap:=h',toks:=t' }:=by
 let nit:∀ b u,H b=some u->b∉ch:=λb u e z=>by rw[(hc b z).1] at e;cases e
 refine I.step (g':=s.gens) (d':=s.drawn) (ch:=ch) (λb hb=>?_) (λb o _ _ hc e _=>k b o hc e) (λb o _ _ hc e _=>⟨o.slots,k b o hc e⟩) (λ_ _ _ _ n=>n)
  (λb o hc e=>⟨o,k b o hc e⟩) (λ_ _ e=>e) (λ_ _ _ e=>e) (λb ps e=>⟨#[],by rw[e];simp⟩) (λm hm=>?_) (λb u e=>?_) I.bare
 ·let⟨_,hL,h1,h2,h3⟩:=hc b hb;exact⟨h1,hL,h2,h3⟩
 ·let⟨o,es,ep,ho,r⟩:=hm;exact⟨o,es,ep,k _ o (λz=>(hc _ z).2.1 Z) ho,r⟩
 ·refine(I.hok b u e).stay (λc v hc q=>k c v ?_ q) (λ_ q=>q) λ_ _ q=>q;rcases hc with z | z
  ·rw[z];exact nit b u e
  ·exact nit c _ z
def NM(l1 l2:aj):It:=
 ⟨λi H=>∃ xs ys x y,H l1=some (.lst xs)/\H l2=some (.lst ys)/\xs[i]? = some x/\ys[i]? = some y,
  λi H v H'=>∃ T xs ys x y,v=.ref T/\H T=none/\H l1=some (.lst xs)/\H l2=some (.lst ys)/\xs[i]? = some x/\ys[i]? = some y/\H'=upd H T (.tup [x,y]),
  λi H=>∃ xs ys,H l1=some (.lst xs)/\H l2=some (.lst ys)/\(xs.length<=i\/ys.length<=i)⟩
def Gs(z TI TO i1 i2 l1 l2:aj)(i:Nat)(h:aD):Prop:=IsZip h z TI TO .none/\IsPair h TI (.ref i1) (.ref i2)/\(∃ a b,IsPair h TO a b)/\h.IsListIter i1 l1 i/\h.IsListIter i2 l2 i
def FZ{z TI TO i1 i2 l1 l2:aj}(nd:[z,TI,TO,i1,i2].Nodup)(h1:∀ b∈[z,TI,TO,i1,i2],l1≠b)(h2:∀ b∈[z,TI,TO,i1,i2],l2≠b):ZipApart z TI TO i1 i2 l1 l2:=by
 simp only[xO,zI,xF,not_or,or_false,not_false_eq_true,wW,and_true] at nd;let⟨⟨a1,a2,a3,a4⟩,⟨b1,b2,b3⟩,⟨c1,c2⟩,d1⟩:=nd;exact⟨Ne.symm a1,Ne.symm a2,Ne.symm a3,Ne.symm a4,b1,b2,b3,c1,c2,d1,h1 _ (by simp),h1 _ (by simp),h1 _ (by simp),h1 _ (by simp),h2 _ (by simp),h2 _ (by simp),h2 _ (by simp),h2 _ (by simp)⟩
def ZLH{P:ao}{w:ax}{K:zZ}{elts:jU}{k1:Nat}{tp:Pos}{z TI TO i1 i2 l1 l2:aj}(nd:[z,TI,TO,i1,i2].Nodup):VJ P w K (.Tuple elts k1 tp) (NM l1 l2) [z,TI,TO,i1,i2] z (Gs z TI TO i1 i2 l1 l2) where
 mem:=by simp
 obj:=λi h st b hb=>by
  let⟨h1,h2,⟨a,c,h3⟩,⟨o1,e1,_,d1⟩,⟨o2,e2,_,d2⟩⟩:=st;simp only[zI,xF,or_false] at hb;rcases hb with e | e | e | e | e <;> subst e
  ·exact⟨_,h1,λv z=>by cases z⟩
  ·exact⟨_,h2,λv z=>by cases z⟩
  ·exact⟨_,h3,λv z=>by cases z⟩
  ·exact⟨o1,e1,λv z=>by rw[d1] at z;cases z⟩
  ·exact⟨o2,e2,λv z=>by rw[d2] at z;cases z⟩
 keep:=λi h h' st k=>by
  let⟨h1,h2,⟨a,c,h3⟩,h4,h5⟩:=st;exact⟨k z (by simp) _ h1,k TI (by simp) _ h2,⟨a,c,k TO (by simp) _ h3⟩,h4.at λo e=>k i1 (by simp) o e,h5.at λo e=>k i2 (by simp) o e⟩
 item:=by
  intro X hP hw hK hc i kR s σ H E I hf st hg;subst hP hw hK;let⟨xs,ys,x,y,hx,hy,ex,ey⟩:=hg;let⟨h1,h2,⟨a,c,h3⟩,h4,h5⟩:=id st;let D:=FZ (l1:=l1) (l2:=l2) nd (λb hb=>Ze hx (hf b hb).1) λb hb=>Ze hy (hf b hb).1;let⟨its1,r1,p1,_⟩:=I.list (ZI.of hx);let⟨its2,r2,p2,_⟩:=I.list (ZI.of hy);let⟨u1,hu1,ru1⟩:=r1.get ex;let⟨u2,hu2,ru2⟩:=r2.get ey;let lt:∀ b∈[z,TI,TO,i1,i2],b<s.heap.objs.size:=λb hb=>by
   simp only[zI,xF,or_false] at hb;rcases hb with e | e | e | e | e <;> subst e
   ·exact zL h1
   ·exact zL h2
   ·exact zL h3
   ·exact zL h4.choose_spec.1
   ·exact zL h5.choose_spec.1
  refine wpAny_pyNext_zip_item D h1 h2 h3 h4 h5 p1.isList p2.isList (x:=u1) (y:=u2) (by simpa using hu1) (by simpa using hu2) λh' a1 a2 a3 a4 a5 a6 a7=>⟨_,Z,wpAny_letOwnedTupleGo_zip a1 λh'' b1 b2=>?_⟩
  let IA:ZJ X kR σ (upd H s.heap.objs.size (.tup [x,y])) { s with heap:=s.heap.push { cls:=.type "tuple",data:=.seq #[u1,u2] } }:=
   I.laid (t':=s.toks) (λb o q=>zD _ q) (zX _) ⟨by show 2<=ar;decide,[u1,u2],.cons ru1 (.cons ru2 .nil),IsTup.new _ _⟩
  let nT:H s.heap.objs.size=none:=I.hok.fresh (zX _);let zn:∀{b:aj},b∈[z,TI,TO,i1,i2]->b≠s.heap.objs.size:=λhb=>yN (lt _ hb);let gT:h''.get? s.heap.objs.size=some { cls:=.type "tuple",data:=.seq #[u1,u2] }:=b2.extBut _ _ (zn (by simp)).symm a5
  let IB:ZJ X kR σ (upd H s.heap.objs.size (.tup [x,y])) { s with heap:=h'' }:=by
   let IB0:=ZJ.turnedL (h':=h'') (t':=s.toks) (ch:=[z,TI,TO,i1,i2]) IA (λb o hb e=>?_) λb hb=>?_
   ·exact IB0
   ·rcases Heap.get?_push_cases e with ⟨e1,e2⟩ | e1
    ·rw[e1,e2];exact gT
    ·simp only[zI,xF,or_false,not_or] at hb;exact b2.extBut _ _ hb.1 (a7 b o hb.1 hb.2.2.1 hb.2.2.2.1 hb.2.2.2.2 e1)
   ·let⟨f0,f1,f2,f3,f4,f5⟩:=hf b hb;exact⟨by rw[ZY (zn hb)];exact f0,f1,f3,f4,f5⟩
  refine⟨.ref s.heap.objs.size,_,IB,Z,⟨_,xs,ys,x,y,Z,nT,hx,hy,ex,ey,Z⟩,⟨b1,?_,⟨u1,u2,b2.extBut _ _ D.TOz a2⟩,a3.extBut b2.extBut D.i1z,a4.extBut b2.extBut D.i2z⟩,λb hb=>by rw[ZY (zn hb)];exact(hf b hb).1⟩
  exact b2.extBut _ _ D.TIz (a7 TI _ D.TIz D.TITO D.TIi1 D.TIi2 h2)
 done:=by
  intro X hP hw hK hc i kR s σ H E I hf st hg;subst hP hw hK;let⟨xs,ys,hx,hy,hl⟩:=hg;let⟨h1,h2,⟨a,c,h3⟩,h4,h5⟩:=id st;let D:=FZ (l1:=l1) (l2:=l2) nd (λb hb=>Ze hx (hf b hb).1) λb hb=>Ze hy (hf b hb).1;let⟨its1,r1,p1,_⟩:=I.list (ZI.of hx);let⟨its2,r2,p2,_⟩:=I.list (ZI.of hy);let q1:=r1.length;let q2:=r2.length;refine wpAny_pyNext_zip_end (I.ok.hd hc) D h1 h2 h3 h4 h5 p1.isList p2.isList (hl.imp (λh=>by simp;lia) λh=>by simp;lia) λh' hk=>⟨Z,I.turnedL (t':=s.toks) (ch:=[z,TI,TO,i1,i2]) (λb o hb e=>?_) λb hb=>?_⟩
  ·simp only[zI,xF,or_false,not_or] at hb;exact hk b o hb.1 hb.2.2.1 hb.2.2.2.1 hb.2.2.2.2 e
  ·let⟨f0,f1,f2,f3,f4,f5⟩:=hf b hb;exact⟨f0,f1,f3,f4,f5⟩
 self:=λ_ _ _ _ _ st h=>wpAny_pyIter_zip st.1 h
inductive NI(R:It->Hp->Prop)(vs:jh)(H1:Hp):Prop
 |mk(l1 l2:aj)(xs ys:jh)(_:vs=[.ref l1,.ref l2])(_:H1 l1=some (.lst xs))(_:H1 l2=some (.lst ys))(_:R (NM l1 l2) H1)
def ZRS(ta:TA):TI:=λσ H R=>ta σ H λvs H1=>NI R vs H1
def Ar{elts:jU}{k1:Nat}{tp:Pos}{a b:Expr}{ta:TA}{p pos:Pos}(hg:Gl X "zip")(hm:X.mg "zip" = none)(ha:PA X [a,b] ta)(hs:aw [a,b] X.env=[(false,aF a X.env),(false,aF b X.env)]:=by rfl)(hs2:aw [b] X.env=[(false,aF b X.env)]:=by rfl):
  PI X (.Tuple elts k1 tp) (.Call (.Name "zip" p) [a,b] [] pos) (ZRS ta):=by
 intro kR s σ H R I h;refine Call_ (Pe I hg hm boot_zip (PyProof.Rows.callWith_type1 (Zb (ha pos kR s σ H _ I h) λus s1 ⟨vs,H1,I1,r1,q1⟩=>?_) (by rw[hs,hs2]) (by rw[hs2];rfl)))
 let⟨l1,l2,xs,ys,e,h1,h2,q⟩:=q1;subst e;obtain⟨v1,v2,e,w1,w2⟩:∃ v1 v2,us=[v1,v2]/\ZT (.ref l1) v1/\ZT (.ref l2) v2:=by
  cases r1 with
  | cons r rr=>
   cases rr with
   | cons r' rr=>cases rr;exact⟨_,_,Z,r,r'⟩
 subst e;cases w1;cases w2;let⟨its1,r1,p1,_⟩:=I1.list (ZI.of h1);let⟨its2,r2,p2,_⟩:=I1.list (ZI.of h2);refine call_zip_2 p1.isList p2.isList λh' c1 c2 c3 c4 c5 c6 c7=>?_;let I2:ZJ X kR σ H1 { s1 with heap:=h' }:=I1.kept (t':=s1.toks) λb o e=>c7 b o e;refine wpAny_pyIter_zip c1 ⟨s1.heap.objs.size+4,[s1.heap.objs.size+4,s1.heap.objs.size+2,s1.heap.objs.size+3,s1.heap.objs.size,s1.heap.objs.size+1],Gs _ _ _ _ _ l1 l2,_,H1,Z,I2,ZLH (by simp),⟨c1,c2,⟨_,_,c3⟩,c4,c5⟩,λb hb=>?_,q⟩
 let hb':s1.heap.objs.size<=b:=by
  simp only[zI,xF,or_false] at hb;rcases hb with e | e | e | e | e <;> rw[e] <;> first | exact zX _ | exact xM _ _
 exact I1.fpOk hb' (I1.hok.fresh hb')
def ZNG{l1 l2:aj}{xs ys:jh}{g:TG}{tb:TS}{D:XA}{σ:St}{H:Hp}(Pv:Nat->St->Hp->Prop)(h0:Pv 0 σ H)(hl:∀ i σ H,i<=xs.length->Pv i σ H->H l1=some (.lst xs)/\H l2=some (.lst ys))(len:ys.length=xs.length)(hs:∀ i x y σ H T,xs[i]? = some x->ys[i]? = some y->Pv i σ H->H T=none->g (.ref T) σ (upd H T (.tup [x,y])) λσ2 H2=>tb { D with nx:=Pv (i+1),ct:=Pv (i+1),bk:=D.nx } σ2 H2)(hd:∀ σ H,Pv xs.length σ H->D.nx σ H):
  ∃ W:Nat->Nat->St->Hp->Prop,(∃ m,W 0 m σ H)/\∀ i m σ H,W i m σ H ->
   ((NM l1 l2).stop i H/\D.nx σ H)\/((NM l1 l2).go i H/\∃ N:St->Hp->Prop,(∀ σ' H',N σ' H'->∃ m',m'<m/\W (i+1) m' σ' H')/\∀ x H',(NM l1 l2).yld i H x H'->g x σ H' λσ2 H2=>tb { D with nx:=N,ct:=N,bk:=D.nx } σ2 H2):=by
 exists λi m σ H=>m=xs.length-i/\i<=xs.length/\Pv i σ H,⟨xs.length,by simp,zH _,h0⟩
 rintro i m σ H ⟨rfl,hi,p⟩;let⟨q1,q2⟩:=hl i σ H hi p;by_cases hlt:i<xs.length
 ·let ex:xs[i]? = some (xs[i]'hlt):=zV hlt;let ey:ys[i]? = some (ys[i]'(by lia)):=zV _
  refine .inr ⟨⟨xs,ys,_,_,q1,q2,ex,ey⟩,Pv (i+1),λσ' H' p'=>⟨xs.length-(i+1),by lia,Z,hlt,p'⟩,λx H' y=>?_⟩
  let⟨T,xs',ys',a,b,rfl,nT,e1,e2,e3,e4,rfl⟩:=y;rw[q1] at e1;cases e1;rw[q2] at e2;cases e2;exact hs i a b σ H T e3 e4 p nT
 ·let e:i=xs.length:=by lia
  subst e;exact .inl ⟨⟨xs,ys,q1,q2,.inl (zX _)⟩,hd σ H p⟩
end
section
variable{x C:aj}{o:aG}
end
structure Mb(K:zZ)(C:aj):Prop where
 ha:yT K (.ref C) "__class__" = some (some (.builtin "object.__class__"))
 hn:rV K (.builtin "object.__class__") "__get__" = some (some (.builtin "getset_descriptor.__get__"))
 ht:sE K (.builtin "object.__class__")=some true
 hm:sN K C (.type "object")=some true
 kit:yG K (.ref C) (.ref C)=some true
inductive NS(K:zZ):jh->Hp->VK->Prop
 |mk{x C dx:aj}{fs:List (Str×V)}{H:Hp}{Q:VK}:H x=some (.ins C dx fs)->Va K C->Mb K C->Q (.bl true) H->NS K [.ref x,.ref C] H Q
def Do:Wg X (.builtin "isinstance") (NS X.K):=by
 intro kR s σ H xs us Q I r h;let⟨hx,cl,k,q⟩:=h;let⟨u,w',rfl,rx,rn⟩:=LE r;cases rn;exact Ev I rx (.ins hx cl k.ha k.hn k.ht k.hm) k.kit λtk=>⟨.bl true,H,I.tok tk,Z,q⟩
end L2
namespace _T
open PySem PySem.Spec L2 PyProof.Rows
def As{es:List (jQ)}{j:Nat}{e:jQ}(h:es[j]? = some e):∃ rest,(es.filterMap id).Perm (e.toList++rest):=by
 let⟨hj,he⟩:=yY.mp h;exists (es.take j).filterMap id++(es.drop (j+1)).filterMap id;have:es=es.take j++e::es.drop (j+1):=by rw[<-he,<-wA hj,wF]
 rw[this,zEM];let tl:(es.take j).length=j:=sZ (yV hj);let e1:(es.take j++e::es.drop (j+1)).take j=es.take j:=by rw[List.take_append_of_le_length (by lia),yS (by lia)]
 let e2:(es.take j++e::es.drop (j+1)).drop (j+1)=es.drop (j+1):=by rw[<-this]
 rw[e1,e2]
 cases e with
 | none=>rw[List.filterMap_cons_none rfl];exact wR.refl _
 | some r=>
  show (List.filterMap id (es.take j)++r::List.filterMap id (es.drop (j+1))).Perm (r::_);exact List.perm_middle
def Cl{K:zZ}:yG K (.type "list") (.type "list")=some true:=by kernel_rfl
section
variable{kP kQ CTb:aj}
inductive YZ(kP kQ CTb:aj):Sp
 |mk{X:Zx}{lk L tl sl pl:aj}{ls us:jh}{ts:jN}{es:List (jQ)}{Ts A:jR}{o:jK}{H:Hp}{Q:VK}{E:XK}:Sd kP kQ H X lk ls U0 UR o->o.Perm (es.filterMap id)->X.ts=ts->(∀ x∈X.lv,x<ts.length)->(∀ i<ts.length,(gd ts i).rows.length<=200)->X.lv.length<=900->es.length<=40->ls.length<=1000->Nt CTb H X lk Ts es->H L=some (.lst (Ts.map V.ref))->Ya X lk L->H sl=some (.lst (VE es))->H tl=some (.lst us)->Zh A H us ts->lk∈A->pl∈A->tl≠lk->tl≠pl->sl≠lk->sl≠pl->Ya X lk pl->H pl=some (.dK (Xf [])) ->
  (∀(H':Hp)(ls':jh)(M':jK),(∀ c o,c≠lk->c≠pl->H c=some o->H' c=some o)->Sd kP kQ H' X lk ls' U0 UR o->H' pl=some (.dK (Xf M'))->M'.Nodup->(∀ r,some r∈es->r∈M')->(∀ x∈M',x∈X.lv)->(∀ x∈M',∀ b∈(gd ts x).bs,b∈M')->Q (.bl true) H')->YZ kP kQ CTb [.ref X.S,.ref L,.ref tl,.ref sl,.ref pl] H Q E
abbrev AN:jP:=["_law_shelf","_law_tables","_law_twigs","_law_stops","_law_places","_law_table","_law_end","_law_due"]
def WO:ZB AN zEg (Zl JF):=⟨Z,Z,Z,by decide +kernel,Z,by decide +kernel,by decide +kernel⟩
inductive FR(kP kQ:aj)(H:Hp)(X:Zx)(lk L tl sl pl:aj)(es:List (jQ))(o:jK)(ls:jh):Nat->L2.St->Hp->Prop
 |mk{j:Nat}{ls':jh}{M:jK}{x5 x6 x7:ji}{H':Hp}:(∀ c o,c≠lk->c≠pl->H c=some o->H' c=some o)->Sd kP kQ H' X lk ls' U0 UR o->H' pl=some (.dK (Xf M))->M.Nodup->(∀ r,some r∈es.take j->r∈M)->(∀ x∈M,x∈X.lv)->(∀ x∈M,∀ b∈(gd X.ts x).bs,b∈M)->ls'.length<=ls.length+800 * j->FR kP kQ H X lk L tl sl pl es o ls j [some (.ref X.S),some (.ref L),some (.ref tl),some (.ref sl),some (.ref pl),x5,x6,x7] H'
inductive MW(kP kQ CTb:aj)(H:Hp)(X:Zx)(lk pl T0 dx:aj)(es:List (jQ))(j:Nat)(e:jQ)(o:jK)(ls:jh):aj->Hp->Prop
 |mk{l7:aj}{H4:Hp}{ls4 ws7:jh}{M4:jK}:(∀ c o,c≠lk->c≠pl->H c=some o->H4 c=some o)->Sd kP kQ H4 X lk ls4 U0 UR o->H4 pl=some (.dK (Xf M4))->M4.Nodup->(∀ r,some r∈es.take (j+1)->r∈M4)->(∀ x∈M4,x∈X.lv)->(∀ x∈M4,∀ b∈(gd X.ts x).bs,b∈M4)->ls4.length<=ls.length+800 * j+400->H4 l7=some (.lst ws7)->l7≠lk->kK H4 (Y1 (UM X.ts e)) ws7->H4 T0=some (.ins CTb dx (PU X.S e))->MW kP kQ CTb H X lk pl T0 dx es j e o ls l7 H4
def AZ(F:Zo K "_law_tables_right" "_law_tables_right" JF f fd)(T:Txt mg)(LT:OM K mg CTb)(LI:Mb K CTb)(DM:ZA P w K mg kT 19 "_law_matched" zEb (YJ 10 kP kQ))(DRo:ZH P w K mg kT ZV 27 CTb "rows" zEo (Xw kP kQ CTb))(DA:ZA P w K mg kT 8 "_law_rows_alike" zEe Yq):ZK P w K mg kT ZV 28 f fd zEg (YZ kP kQ CTb):=by
 refine F.ok WO (λvs H Q E h=>(by induction h;rfl)) (λcdv A outer s H vs Q E hr h=>?_)
 induction h
 rename_i X lk L tl sl pl ls us ts es Ts A o H Q E S po et lvl low l9 e40 lsl tb hL oL hsl htl tg lA pA tlk tpl slk spl opl jp k
 let nd:=WO.nd;let hr8:=hr.mono (show 8<=27 by lia)
 let hr19:=hr.mono (show 19<=27 by lia)
 refine⟨_,ZO (Zt (PW.pt (Vo (VW (XD (Zv W0 rfl T.isi WS (ZF (pv 1) (ZF (Wt (v:=.ty "list") rfl T.list Ph rfl) ZD))))) (UN (Z3 Vs (Zv Yk rfl T.len YU (ZF (pv 1) ZD)) (Zv Yk rfl T.len YU (ZF (pv 3) ZD)) (Zu _))))) (ZP WM) Zw)
  (ZO (Xi PassesOwn.never rfl (Ar rfl T.zip (ZF (pv 1) (ZF (pv 3) ZD))) (IZ rfl (Ol (XB (i:=5) nd rfl (Or.inl rfl)) (Ol (XB (i:=6) nd rfl (Or.inl rfl)) Ip)))
   (ZO (Zt (PW.pt (Vo (VW (XD (Zv Do rfl T.isi WS (ZF (pv 5) (ZF (WE (v:=.ref CTb) rfl LT.tab rfl) ZD))))) (UN (Z3 Vs (Hr (Os (X5 (pv 5) rfl))) (Hr (Os (pv 6))) (Zu _))))) (ZP WM) Zw)
   (ZO (Zr (i:=7) nd rfl (Or.inl rfl) (Yo ZD))
   (ZO (Zt (Uz (Mv (pv 6)))
    (ZO (Zr (i:=7) nd rfl (Or.inl rfl) (Za (r:=Zp K) ZM (Za (r:=YE K) YH (pv 2) (pv 6) (λ_ _=>rfl)) ZL (λ_ _=>rfl)))
    (ZP (Zt (VW (XD (Zc DM hr19 (ZF (pv 0) (ZF (pv 2) (UA (X5 (pv 5) rfl) (pv 6) (pv 4))))))) (ZP WM) Zw))) Zw)
   (ZP (Zt (VW (XD (Zc DA hr8 (ZF (MA (E:=E0) (pv 5) LT.cT DRo hr Yd) (ZF (pv 7) ZD))))) (ZP WM) Zw))))))
  (ZP (Zk Pi))),?_⟩
 subst et;let lT:Ts.length=es.length:=Paired.length tb;refine⟨_,Z,_,_,_,_,Z,.lst hL,Cl,_,Z,Zn ?_⟩;exists _,Z,L,_,Z,.inl (ZI.of hL),_,Z,sl,_,Z,.inl (ZI.of hsl),Z,_,Z;rw[aI (by rw[zY,zY,lT])]
 refine Zn ⟨_,Z,_,Z,L,sl,_,_,Z,hL,hsl,ZNG (l1:=L) (l2:=sl) (xs:=Ts.map V.ref) (ys:=VE es) (FR kP kQ H X lk L tl sl pl es o ls) (.mk (λc o _ _ e=>e) S jp wW nofun nofun nofun (zX _)) ?_ (by rw[zY,zY,lT]) ?_ ?_⟩
 ·intro j σ H2 _ hI
  induction hI
  rename_i fr2 _ _ _ _ _ _ _
  exact⟨fr2 _ _ oL.2.2.1 (Zg hL jp (by intro z;cases z)) hL,fr2 _ _ slk spl hsl⟩
 ·intro j x y σ H2 Tz ex ey hI nT
  induction hI
  rename_i j ls2 M x5 x6 x7 H2 fr2 S2 hpl2 Mn Me Ml Mc l2
  obtain⟨T0,eT,rfl⟩:∃ T0,Ts[j]? = some T0/\x=.ref T0:=by
   rw[zC] at ex;let⟨T0,h1,h2⟩:=xY.mp ex;exact⟨T0,h1,h2.symm⟩
  obtain⟨e,ee,rfl⟩:∃ e,es[j]? = some e/\y=Yn e:=by
   rw[zC] at ey;let⟨e,h1,h2⟩:=xY.mp ey;exact⟨e,h1,h2.symm⟩
  let jl:=(yY.mp ee).1;let⟨e',ee',⟨dx,hT⟩,oT⟩:=Paired.ixL tb eT;rw[ee] at ee';cases ee';let⟨H3,eU3,s3,h3⟩:=Ym nT (.tup [.ref T0,Yn e]);rw[eU3];let T0p:T0≠pl:=Zg hT jp (by intro z;cases z)
  let hT2:=fr2 _ _ oT.2.2.1 T0p hT;let hT3:=s3 _ _ hT2;let S3:=S2.same s3;let hpl3:=s3 _ _ hpl2;let fr3:∀ c o,c≠lk->c≠pl->H c=some o->H3 c=some o:=λc o n1 n2 e=>s3 _ _ (fr2 c o n1 n2 e);let hlk:=S.sh.sh.looks;let t3:YD H H3:=λc xs e=>fr3 c _ (Zg e hlk (by intro z;cases z)) (Zg e jp (by intro z;cases z)) e
  let tg3:Zh A H3 us X.ts:=tg.step (λx h=>h) (λc o n e=>fr3 c o (λz=>n (z ▸ lA)) (λz=>n (z ▸ pA)) e) t3;let htl3:=fr3 _ _ tlk tpl htl;let⟨rest,pr⟩:=As ee;let pm:o.Perm (e.toList++rest):=po.trans pr;exists Tz,[.ref T0,Yn e],Z,Zd.of h3,Z,_,_,Z,_,_,Z,Z;refine⟨_,Z,.mk hT3 LT.cT LI ⟨_,Z,Zn ?_⟩⟩;let et:es.take (j+1)=es.take j++[e]:=by rw[yW,ee];rfl
  let le200:(UM X.ts e).length<=200:=by
   cases e with
   | none=>exact zH _
   | some r=>exact low r (lvl r (S.dg.own r (pm.symm.mem_iff.mp (by simp))))
  apply MM (C:=MW kP kQ CTb H X lk pl T0 dx es j e o ls)
  ·intro ex;exists _,Z,T0,CTb,dx,_,Yn e,Z,hT3,LT.cT,LT.nr,Z,_,Z,Z,_,Z;rw[aI rfl];refine Zn ⟨nn (zR rfl),λq nq=>?_⟩;let⟨H4,eU4,s4,h4⟩:=Ym nq (.lst []);rw[eU4];let qlk:q≠lk:=λz=>by rw[z,S3.sh.sh.looks] at nq;cases nq
   let fr4:∀ c o,c≠lk->c≠pl->H c=some o->H4 c=some o:=λc o n1 n2 e=>s4 _ _ (fr3 c o n1 n2 e);let S4:=S3.same s4;exists _,Z,_,Z;by_cases he:e=none
   ·let et':UM X.ts e=[]:=by rw[he];rfl
    rw[show (!decide (Yn e=V.non))=false by rw[he];rfl]
    let me:∀ r,some r∈es.take (j+1)->r∈M:=λr hr=>by
     rw[et,he] at hr;rcases yU.mp hr with z | z
     ·exact Me r z
     ·cases zN.mp z
    let⟨l7,K4,e1,e2,hc⟩:=Jz (C:=MW kP kQ CTb H X lk pl T0 dx es j e o ls) (a:=q) (b:=H4) (.mk fr4 S4 (s4 _ _ hpl3) Mn me Ml Mc (by lia) h4 qlk (by rw[et'];exact .nil) (s4 _ _ hT3))
    rw[e1,e2];exact Zn (ex l7 K4 hc)
   ·obtain⟨r,her⟩:∃ r,e=some r:=Option.ne_none_iff_exists'.mp he;rw[show (!decide (Yn e=V.non))=true by rw[her];rfl]
    let rv:Yn e=.int (r:Nat):=by rw[her];rfl
    let rl:r∈X.lv:=S.dg.own r (pm.symm.mem_iff.mp (by rw[her];simp))
    let rlt:=lvl r rl;let⟨u,hu,tbr⟩:=ZU tg3 (Qa rlt);let⟨a,rl0,bV,wr,rfl,ea,erl,nr0,kks,lf,st⟩:=FQ tbr;let htl4:=s4 _ _ htl3;let tg4:Zh A H4 us X.ts:=tg3.same (λx h=>h) s4;let r1:(UM X.ts e).length=(gd X.ts r).rows.length:=by rw[her];rfl
    rw[r1] at le200;let h7:(gd X.ts r).h<=7:=(⟨S.sh,S.dg.perm (by rw[her] at pm;exact pm)⟩:Sd kP kQ H X lk ls U0 UR ((some r).toList++rest)).low le200 r Z
    refine Z7 ⟨_,Z,_,Z,.inl ⟨tl,_,_,_,Z,rv,ZI.of htl4,Yj hu,a,_,_,_,Z,Z,Zd.of (s4 _ _ ea),Z,?_⟩⟩;exists _,Z,_,Z,_,Z,T0,CTb,dx,_,Yn e,Z,s4 _ _ hT3,LT.cT,LT.nr,Z,_,Z,_,Z;rw[rv];refine .mk S4 Z rl (by lia) htl4 tg4 lvl lA pA tlk tpl opl (s4 _ _ hpl3) Mn Ml l9 le200 (by lia) λH5 ls5 M5 fr5 S5 hpl5 M5n M5s M5i M5l M5c M5w=>?_
    let me:∀ r',some r'∈es.take (j+1)->r'∈M5:=λr' hr=>by
     rw[et,her] at hr;rcases yU.mp hr with z | z
     ·exact M5s r' (Me r' z)
     ·cases zN.mp z;exact M5i
    let n0:rl0≠lk:=λz=>nr0 (z ▸ lA);let n1:rl0≠pl:=λz=>nr0 (z ▸ pA);let t35:YD H3 H5:=λc xs e=>fr5 c _ (Zg (s4 _ _ e) S4.sh.sh.looks (by intro z;cases z)) (Zg (s4 _ _ e) (s4 _ _ hpl3) (by intro z;cases z)) (s4 _ _ e)
    let⟨l7,K4,e1,e2,hc⟩:=Jz (C:=MW kP kQ CTb H X lk pl T0 dx es j e o ls) (a:=rl0) (b:=H5) (.mk (λc o n1 n2 e=>fr5 c o n1 n2 (fr4 c o n1 n2 e)) S5 hpl5 M5n me M5l (λx hx=>(M5c x hx).elim (λz b hb=>M5s b (Mc x z b hb)) id) (by lia) (fr5 _ _ n0 n1 (s4 _ _ erl)) n0 (by rw[show UM X.ts e=(gd X.ts r).rows by rw[her];rfl];exact kks.mono t35 _ _) (fr5 _ _ oT.2.2.1 T0p (s4 _ _ hT3)))
    rw[<-rv,e1,e2];exact⟨_,Z,Zn (ex l7 K4 hc)⟩
  ·intro l7 H4 hc
   induction hc
   rename_i l7 H4 ls4 ws7 M4 fr4 S4 hpl4 M4n M4e M4l M4c l4 h7 n7 k7 hT4
   let S4':Sd kP kQ H4 X lk ls4 U0 UR (e.toList++rest):=⟨S4.sh,S4.dg.perm pm⟩;refine⟨_,Z,T0,dx,_,Z,hT4,Z,.mk ⟨dx,hT4⟩ S4' le200 (by lia) λH5 D ws5 ls5 fr5 S5 l5 nD hD kw=>?_⟩
   let t5:YD H4 H5:=λc xs e=>fr5 c _ (Zg e S4.sh.sh.looks (by intro z;cases z)) e
   refine⟨_,Z,D,l7,ws5,ws7,_,Z,hD,fr5 _ _ n7 h7,kw,k7.mono t5 _ _,λt ht=>?_,by unfold Y1;rw[zY];lia,λH6 s6=>?_⟩
   ·let⟨r,hr,rfl⟩:=yR.mp ht;exact Fn (S4'.fit r hr)
   ·let plk:pl≠lk:=λz=>opl.2.2.1 z;exact⟨_,Z,Zn (.mk (λc o n1 n2 e=>s6 _ _ (fr5 _ _ n1 (fr4 c o n1 n2 e))) ⟨(S5.same s6).sh,S5.dg.perm pm.symm⟩ (s6 _ _ (fr5 _ _ plk hpl4)) M4n M4e M4l M4c (by lia))⟩
 ·intro σ H2 hI;rw[zY,lT] at hI;generalize ej:es.length=j at hI
  induction hI
  rename_i j ls2 M x5 x6 x7 H2 fr2 S2 hpl2 Mn Me Ml Mc l2
  rw[<-ej,xK] at Me;exact k H2 ls2 M fr2 S2 hpl2 Mn Me Ml Mc
end
end _T
namespace L2
open PySem PySem.Spec PyProof.Rows
section
variable{o:Expr}{td:TE}{jm jo:Pos}
def LD(v d:aj):HO:=.ext λh=>h.IsValuesView v d
inductive OT(Q:VK)(x:V)(H1:Hp):Prop
 |mk(a:aj)(kvs:List (Zi×V))(_:x=.ref a)(_:H1 a=some (.dK kvs))(_:∀ v,H1 v=none->Q (.ref v) (upd H1 v (LD v a)))
def CY(td:TE):TE:=λσ H Q=>td σ H λx H1=>OT Q x H1
def ZNx(ho:PE X o td)(jG:attributeBase o "values" X.env (aF o X.env)=aF o X.env:=by rfl)(jH:(jm.endLine==jo.line)=true:=by rfl):PE X (.Call (.Attribute o "values" jm) [] [] jo) (CY td):=by
 intro kR s σ H Q I h;refine wpAny_Call_method0_late jG jH (Zb (ho kR s σ H _ I h) λu s1 ⟨x,H1,I1,rx,a,kvs,ex,hd,q⟩=>?_);subst ex;obtain rfl:u=Value.ref a:=rx;let g:XO H1 a (kV (.inl 0)) (YM kvs (.inl 0)):=XO.k hd;let⟨z,lo,vs,kv,hD⟩:=ND I1.hok hd;refine⟨"dict","dict.values",qY,qG,PySem.F.type_dict_values,Gy I1 g,Af I1 g,Calls.callWith_builtin Z (PySem.evalArgs_none ?_)⟩;refine call_meetsIn qG hD.typeIs PySem.F.entry_dict_values (PySem.F.args_dict_values_1 _) (meets_dict_values (WU X.prog X.w) a lo) ⟨⟨vs,hD⟩,?_⟩;let gv:(s1.heap.push { cls:=.type "dict_values",data:=.fields #[.ref a] }).get? s1.heap.objs.size=some { cls:=.type "dict_values",data:=.fields #[.ref a] }:=yP _ Z;refine⟨.ref s1.heap.objs.size,_,I1.laid (t':=s1.toks) (o:=LD s1.heap.objs.size a) (λb ob q=>zD _ q) (zX _) ⟨⟨_,gv,Z,Z⟩,⟨_,gv⟩,?_⟩,Z,q _ (I1.hok.fresh (zX _))⟩;rintro a b ⟨o,e,r⟩ k;exact⟨o,k o e,r⟩
inductive OZ(xs:jh)(H:Hp)(Q:VK):Prop
 |mk(v a:aj)(kvs:List (Zi×V))(_:xs=[.ref v])(_:H v=some (LD v a))(_:H a=some (.dK kvs))(_:kvs.length<1000)(_:∀ p,H p=none->Q (.ref p) (upd H p (.lst (kvs.map (·.2)))))
def CU(hc:X.calm=true):Wg X (.type "list") OZ:=by
 intro kR s σ H xs us Q I r h;let⟨v,a,kvs,rfl,hv,ha,hs,q⟩:=h;let⟨u,rfl,ru⟩:=Wk r;cases ru;let⟨z,lo,vs,kv,hD⟩:=ND I.hok ha;let lv:=KV.length kv;let⟨ep,hA⟩:=hD.dictAt;let⟨hw,_⟩:=I.hok v _ hv;refine PySem.W.kdl_call (PySem.W.kdl_values (knd:=WU X.prog X.w) (kvs:=vs) (ep:=ep)) (I.ok.hd hc) ⟨hw,hA⟩ (by lia) λh' tk acc c k1 hg hacc=>?_
 let hI:ZR (kvs.map (·.2)) acc.toList:=_T.Xk (by let h1:=hacc.1;let e:acc.toList.length=acc.size:=yM;rw[zY];lia) λi x y ex ey=>by
  rw[zC] at ex;let⟨p,ep,rfl⟩:=xY.mp ex;let⟨k,hk⟩:=hacc.2 i y (by rw[<-yO];exact ey)
  let⟨p',hp',f1,f2⟩:=_T.ZU kv hk;rw[ep] at hp';cases hp';exact f2
 exact⟨.ref s.heap.objs.size,_,I.laid (a:=s.heap.objs.size) (o:=.lst (kvs.map (·.2))) (t':=tk) k1 (zX _) ⟨by rw[zY];exact yV (YF (yV hs)),acc.toList,c,hI,by rw[zEQ];exact hg⟩,Z,q _ (I.hok.fresh (zX _))⟩
end
def Lx(P:ao)(w:ax)(p:aj)(n:Nat):HO:=.ext λh=>∃ S,h.SetOf (intKind P w) p S n
def Ch{P:ao}{w:ax}{H:Hp}{h:aD}{p:aj}{n:Nat}{S:Int->Bool}(x:h.SetOf (intKind P w) p S n):Zj P w H h p (Lx P w p n):=by
 refine⟨⟨S,x⟩,?_,λh1 h2 y k=>?_⟩
 ·let⟨o,_,_,_,g,_⟩:=x;exact⟨o,g⟩
 ·let⟨S,o,es,ep,t,ho,r⟩:=y;exact⟨S,o,es,ep,t,k _ ho,r⟩
def Cm:az "set" = some (.type "set"):=by decide +kernel
inductive Vx(P':ao)(w':ax)(xs:jh)(H:Hp)(Q:VK):Prop
 |mk(a n:_)(_:xs=[V.ref a])(_:H a=some (Lx P' w' a n))(_:n<1000)(_:Q (.int (n:Nat)) H)
def ZKi:Wg X (.builtin "len") (Vx X.prog X.w):=by
 intro kR s σ H xs us Q I r h;let⟨a,n,rfl,ha,hl,q⟩:=h;let⟨u,rfl,ru⟩:=Wk r;cases ru;let⟨S,o,es,ep,t,ho,hx,hd,el,mem,sz,ft,e⟩:=(I.hok a _ ha).1;refine call_len_set ho hx hd ft (by rw[e];exact Int.lt_trans (Int.ofNat_lt.mpr hl) (by decide)) ?_
 exact⟨.int (n:Nat),H,I.kept (t':=s.toks+1+1) (λb o q=>q),⟨_,by rw[e]⟩,q⟩
def E4{val:Nat->Int}:∀(n:Nat),(∀ i j,i<n->j<n->val i=val j->i=j)->firstMet val n=(zF n).map val
 | 0,h=>firstMet_zero ..
 | n+1,h=>by
  rw[firstMet_succ,E4 n λi j hi hj=>h i j (by lia) (by lia),xN,yZ]
  unfold step_dedup;have:val n∉(zF n).map val:=λz=>by
   let⟨i,hi,e⟩:=yR.mp z;let hi:=yX.mp hi;have:=h i n (by lia) (by lia) e
   lia
  rw[aJ (by simpa using this)]
  rfl
inductive PX(P:ao)(w:ax):jh->Hp->VK->Prop
 |mk{H:Hp}{Q:VK}(a:aj)(ns:jX):H a=some (.lst (ns.map V.int))->ns.Nodup->ns.length<1000->(∀ p,H p=none->Q (.ref p) (upd H p (Lx P w p ns.length)))->PX P w [.ref a] H Q
def ZJT(hc:X.calm=true):Wg X (.type "set") (PX X.prog X.w):=by
 intro kR s σ H xs us Q I r h;let⟨a,ns,ha,hz,hl,q⟩:=h;let⟨u,rfl,ru⟩:=Wk r;cases ru;let⟨_,jk,n,rv,_,e⟩:=I.lstM ha;let li:jk.length=ns.length:=by have:=rv.length;simpa using this.symm
 let em:(firstMet (λi=>ns.getD i 0) jk.toArray.size).length=ns.length:=by
  rw[zM,li,E4,zY,xE];intro i j hi hj e;rw[zQ,zQ,zV hi,zV hj] at e;exact(sI hz).mp e
 refine call_set_list (I.ok.hd hc) ⟨_,e,Z,_,Z⟩ (ns:=ns) (by simpa using FB rv) (by rw[zM];unfold scanBound;lia) λh' tk hS k1=>?_
 rw[em] at hS;exact⟨.ref s.heap.objs.size,_,I.laid (a:=s.heap.objs.size) (o:=Lx X.prog X.w s.heap.objs.size ns.length) (t':=tk) (λb o e=>k1 b o (zL e) e) (zX _) (Ch hS),Z,q _ (I.hok.fresh (zX _))⟩
def ZLh{xs:jh}{us:jg}(h:ZR xs us)(f:xs.all UI=true):∀ u∈us,∃ y,ZT y u/\UI y=true:=by
 induction h with
 | nil=>intro u hu;cases hu
 | cons r t ih=>
  rw[vN,zP] at f;intro u hu;rcases zI.mp hu with e | e
  ·rw[e];exact⟨_,r,f.1⟩
  ·exact ih f.2 u e
def Gv{x:V}:∀{xs:jh}{us:jg},ZR xs us->xs.all UI=true->us.countP (Vd x)=xs.countP λy=>Vp y x
 | [],_,.nil,_=>rfl
 | y::xs,_,.cons r t,f=>by
  rw[vN,zP] at f;rw[sJ,sJ,Gv t f.2,My r f.1]
inductive UE:V->jh->Hp->VK->Prop
 |mk{l:aj}{xs:jh}{y:V}{H:Hp}{Q:VK}:H l=some (.lst xs)->xs.all UI=true->UI y=true->Q (.int (xs.countP (λz=>Vp z y):Nat)) H->UE (.ref l) [y] H Q
def DJ:Nz X "list.count" UE:=by
 intro kR s σ H x vs v us Q I rx rv h;let⟨hH,fx,fy,q⟩:=h;rename_i l xs y
 cases rx;let⟨u,rfl,ru⟩:=rv.one;let⟨z,jk,n,r,hl,e⟩:=I.lstM hH;refine call_meets F.slot_list_count ⟨_,e,Z⟩ F.entry_list_count (F.args_list_count_2 _ _) (PySem.SeqAt.list_countAt l _ n none #[] u (Vd y)) ⟨e,λw hw=>?_,?_⟩
 ·let⟨y',r',f'⟩:=ZLh r fx w (List.mem_toArray.mp hw);rw[My r' f'];exact Gq r' ru f' fy
 ·refine⟨.int (xs.countP (λz=>Vp z y):Nat),H,I.tok _,⟨s.toks,?_⟩,q⟩;rw[rQ,Gv r fx]
end L2
namespace _T
open PySem PySem.Spec L2 PyProof.Rows
def F9(es:List (jQ))(b:Nat):(VE es).countP (λz=>Vp z (.int (b:Nat)))=(es.filterMap id).count b:=by
 induction es with
 | nil=>rfl
 | cons e es ih=>
  unfold VE at ih⊢;rw[zB,sJ,ih]
  cases e with
  | none=>rfl
  | some r=>
   show _=(r::es.filterMap id).count b;rw[List.count_cons]
   congr 1
   by_cases z:r=b
   ·rw[aK (by rw[z];simp[Yn,Vp]),aK (by rw[z];simp)]
   ·rw[aJ (by simp[Yn,Vp];lia),aJ (by simp[z])]
def ZIO{X:Cx}{K:zZ}(hK:X.K=K:=by rfl):Y7 X (aA .In) (Kn K false):=by subst hK;exact ZKP
def AD{X:Cx}{K:zZ}{a b:Expr}{rest:jU}{pos:Pos}{ta tb:TE}(ha:PE X a ta)(hb:PE X (.BoolOp .Or (b::rest) pos) tb)(hK:X.K=K:=by rfl):PE X (.BoolOp .Or (a::b::rest) pos) (Fc K ta tb):=by subst hK;exact EX ha hb
section
variable{kP kQ CTb:aj}
abbrev ID:Stmt:=Wc (top 47) 16
abbrev HQ:Stmt:=Wc (top 47) 17
inductive Y3(kP kQ:aj):Sp
 |mk{X:Zx}{lk:aj}{ls:jh}{H:Hp}{Q:VK}{E:XK}:YN kP kQ H X.S X.d lk X.lv X.ts X.av X.ho X.as X.kvs ls->X.lv.Pairwise (· < ·)->X.lv.length<1000->(∀ p,H p=none->Q (.ref p) (upd H p (.lst (iN X.lv))))->Y3 kP kQ [.ref X.S] H Q E
def ZJL:ZB zEo zEo (Zl ID):=⟨Z,Z,Z,by decide +kernel,Z,by decide +kernel,by decide +kernel⟩
def ZIY(F:Zo K "numbers" "Shelf.numbers" ID f fd)(T:Txt mg)(L:Y4 K mg kP kQ):ZK P w K mg kT ZV 1 f fd zEo (Y3 kP kQ):=by
 refine F.ok ZJL (λvs H Q E h=>(by induction h;rfl)) (λcdv A outer s H vs Q E hr h=>?_)
 induction h
 rename_i X lk ls H Q E R u l9 k
 let⟨dx,hS⟩:=R.sh.self;refine⟨_,ZP (Zk (Zv (ZGy rfl) rfl T.sorted BL (ZF (X5 (pv 0) rfl) ZD))),_,Z,X.S,kP,dx,_,.ref X.d,Z,hS,L.cS,L.nk,Z,X.d,X.kvs,X.lv.map λi:Nat=>(i:Int),Z,R.sh.kept,by rw[R.keys,xU];rfl,?_,by rw[zY];exact l9,λp np=>?_⟩
 ·rw[tH];exact u.imp fun{a b} h=>by show (a:Int)<=(b:Int);lia
 ·rw[show (X.lv.map λi:Nat=>(i:Int)).map V.int=iN X.lv by unfold iN;rw[xU];rfl]
  exact k p np
inductive WD(kP kQ:aj):Sp
 |mk{X:Zx}{lk:aj}{ls:jh}{H:Hp}{Q:VK}{E:XK}:YN kP kQ H X.S X.d lk X.lv X.ts X.av X.ho X.as X.kvs ls->Q (.int (X.lv.length:Nat)) H->WD kP kQ [.ref X.S] H Q E
def BV:ZB zEo zEo (Zl HQ):=⟨Z,Z,Z,by decide +kernel,Z,by decide +kernel,by decide +kernel⟩
def BT(F:Zo K "many" "Shelf.many" HQ f fd)(T:Txt mg)(L:Y4 K mg kP kQ):ZK P w K mg kT ZV 1 f fd zEo (WD kP kQ):=by
 refine F.ok BV (λvs H Q E h=>(by induction h;rfl)) (λcdv A outer s H vs Q E hr h=>?_)
 induction h
 rename_i X lk ls H Q E R k
 let⟨dx,hS⟩:=R.sh.self;let e:=congrArg xC R.keys;rw[zY,zY] at e;exists _,ZP (Zk (Zv BY rfl T.len YU (ZF (X5 (pv 0) rfl) ZD))),_,Z,X.S,kP,dx,_,.ref X.d,Z,hS,L.cS,L.nk,Z,X.d,X.kvs,Z,R.sh.kept;rw[e];exact k
inductive YO(kP kQ:aj):Sp
 |mk{X:Zx}{lk tl sl pl:aj}{ls us:jh}{ts:jN}{es:List (jQ)}{A:jR}{M o:jK}{H:Hp}{Q:VK}{E:XK}:Sd kP kQ H X lk ls U0 UR o->o.Perm (es.filterMap id)->X.ts=ts->X.lv=zF ts.length->Ug ts->ts.length<=30->es.length<=40->H sl=some (.lst (VE es))->H tl=some (.lst us)->Zh A H us ts->H pl=some (.dK (Xf M))->M.Nodup->(∀ x∈M,x∈X.lv)->(∀ x∈X.lv,x∈M)->(∀ H',ZC H H'->Q (.bl true) H')->YO kP kQ [.ref X.S,.ref tl,.ref sl,.ref pl] H Q E
def Xr:ZB ["_law_shelf","_law_twigs","_law_stops","_law_places","_law_at","_law_stems","_law_number"] zEm (Zl Id):=⟨Z,Z,Z,by decide +kernel,Z,by decide +kernel,by decide +kernel⟩
def ZQK(bs:jK)(j:Nat):Pf (.int (j:Nat)) (iN bs)=decide (j∈bs):=by
 induction bs with
 | nil=>rfl
 | cons b bs ih=>
  unfold Pf iN at ih⊢;rw[zB,uZ,ih];by_cases z:b=j
  ·rw[z];simp[Vp]
  ·simp only[Vp,zI];by_cases m:j∈bs <;> simp[m,z,Ne.symm z] <;> lia
inductive EV(H:Hp)(S tl sl pl:aj):Nat->L2.St->Hp->Prop
 |mk{j:Nat}{x4 x5 x6:ji}{H':Hp}:ZC H H'->EV H S tl sl pl j [some (.ref S),some (.ref tl),some (.ref sl),some (.ref pl),x4,x5,x6] H'
def Ab(F:Zo K "_law_held_right" "_law_held_right" Id f fd)(T:Txt mg)(L:Y4 K mg kP kQ)(DN:ZH P w K mg kT ZV 1 kP "many" zEo (WD kP kQ))(DO:ZH P w K mg kT ZV 2 kP "outside" zEa (Xg kP kQ λ_ ho _=>.int ho))(DH:ZH P w K mg kT ZV 2 kP "holders" zEa (Xg kP kQ λ_ ho us=>.int ((us.length:Nat)+(ho:Nat):Int))):ZK P w K mg kT ZV 3 f fd zEm (YO kP kQ):=by
 refine F.ok Xr (λvs H Q E h=>(by induction h;rfl)) (λcdv A outer s H vs Q E hr h=>?_)
 induction h
 rename_i X lk tl sl pl ls us ts es A M o H Q E S po et ev fo l30 e40 hsl htl tg jp nM Ml lM k
 let nd:=Xr.nd;let hr1:=hr.mono (show 1<=2 by lia)
 let hu:=Zf.key hr (n:=1) (by decide)
 refine⟨_,ZO (Zt (PW.pt (Vo (Z3 Vs (MA (E:=E0) (pv 0) L.cS DN hr1 Yd) (Zv Yk rfl T.len YU (ZF (pv 1) ZD)) (Zu _)) (UN (Z3 Vs (Zv ZKi rfl T.len YU (ZF (Ws (ZJT rfl) rfl T.set Cm (ZF (Ws (CU rfl) rfl T.list Ph (ZF (ZNx (pv 3)) ZD)) ZD)) ZD)) (Zv Yk rfl T.len YU (ZF (pv 1) ZD)) (Zu _))))) (ZP WM) Zw)
  (ZO (Xi PassesOwn.never rfl (UW rfl T.range (ZF (Zv Yk rfl T.len YU (ZF (pv 1) ZD)) ZD)) (XB (i:=4) nd rfl (Or.inr rfl))
   (ZO (Zr (i:=5) nd rfl (Or.inl rfl) (Zv Yk rfl T.len YU (ZF (Wx [4] ["_law_at"] rfl (Xu (pv 1)) (λ_ _ _ _ _=>JX (Z3 (ZIO (K:=K)) (pv 1) (AD (K:=K) (Za (r:=Zp K) ZM (pv 0) ZL (λ_ _=>rfl)) (U4 (Yo ZD))) Z)) (λ_ _ _ _ _=>pv 0) ⟨rfl,.inl rfl,rfl,trivial⟩) ZD)))
   (ZO (Zr (i:=6) nd rfl (Or.inl rfl) (Lu hu (pv 3) (pv 4) (λ_ _=>rfl)))
   (ZP (Zt (PW.pt (Vo (Z3 Vs (XM (E:=E0) (pv 0) L.cS DO hr Yd (ZF (pv 6) ZD)) (WW yB qK qJ DJ (pv 2) (ZF (pv 4) ZD)) (Zu _)) (UN (Z3 Vs (XM (E:=E0) (pv 0) L.cS DH hr Yd (ZF (pv 6) ZD)) (Zs Y2 (WW yB qK qJ DJ (pv 2) (ZF (pv 4) ZD)) (pv 5)) (Zu _))))) (ZP WM) Zw)))))
  (ZP (Zk Pi))),?_⟩
 subst et;let⟨dS,hS⟩:=S.sh.sh.self;let lus:=Paired.length tg;let lv:X.lv.length=X.ts.length:=by rw[ev,xE]
 let lM1:M.length=X.ts.length:=by
  let h1:=OR nM Ml;let h2:=OR S.dg.nd lM;lia
 refine⟨_,Z,X.S,dS,_,Z,hS,Z,.mk S.sh ⟨_,Z,tl,_,Z,.inl (ZI.of htl),Z,_,Z,?_⟩⟩;rw[aI (by rw[lv,lus])]
 refine Zn ⟨_,Z,pl,_,Z,jp,λv nv=>?_⟩;let⟨H1,eU1,s1,h1⟩:=Ym nv (LD v pl);rw[eU1];let lk1:(Xf M).length=M.length:=zY _;refine⟨v,pl,Xf M,Z,h1,s1 _ _ jp,by lia,λq nq=>?_⟩
 let em:(Xf M).map (·.2)=(M.map λi:Nat=>(i:Int)).map V.int:=by unfold Xf;rw[xU,xU];rfl
 rw[em];let⟨H2,eU2,s2,h2⟩:=Ym nq (.lst ((M.map λi:Nat=>(i:Int)).map V.int));rw[eU2];refine .mk q (M.map λi:Nat=>(i:Int)) h2 (by rw[List.Nodup,tH];exact nM.imp fun{a b} h z=>h (by lia)) (by rw[zY];lia) λp2 np2=>?_
 let s12:=s1.trans s2;exists p2,_,Z,ZZ,by rw[zY];lia,_,rfl,tl,_,rfl,.inl (ZI.of (Zq np2 _ _ _ (s12 _ _ htl))),rfl,_,rfl
 rw[aI (by rw[zY,lM1,lus])]
 refine Zn ⟨_,Z,tl,us,Z,.inl (ZI.of (Zq np2 _ _ _ (s12 _ _ htl))),_,Z,by lia,by lia,Ql (n:=((us.length:Nat):Int).toNat) (EV H X.S tl sl pl) (.mk (s12.trans (Zq np2 _))) (λj σ H4 hj hP=>?_) (λσ H4 hP=>?_)⟩
 ·induction hP
  rename_i j x4 x5 x6 H4 s4
  rw[vL] at hj;rw[wS];let S4:=S.same s4;let tg4:Zh A H4 us X.ts:=tg.same (λx h=>h) s4;let jl:j<X.ts.length:=by lia
  let jv:j∈X.lv:=by rw[ev];exact yX.mpr jl
  exists _,Z,tl,Z,⟨_,ZI.of (s4 _ _ htl)⟩;refine HM (n:=us.length) (λi z=>us[i]? = some z) (λi=>decide (j∈(gd X.ts i).bs)) (λR i ys H8=>ZC H4 H8/\H4 R=none/\ys.length=((zF i).filter λi:Nat=>decide (j∈(gd X.ts i).bs)).length) (YF (by lia))
   (λR i ys H8 hi hP=>⟨us,us[i]'hi,ZI.of (hP.1 _ _ (s4 _ _ htl)),zV _⟩) (λR i ys H8 z H9 hi hP hy=>⟨hy.1,hy.2 _ (ZI.of (hP.1 _ _ (s4 _ _ htl)))⟩) (λR ys H8 hP=>⟨us,ZI.of (hP.1 _ _ (s4 _ _ htl)),zX _⟩)
   (λR hR=>⟨Zq hR _,hR,Z⟩) (λR i ys H8 z eR hi hz hP Rr hRr=>?_) (λR i ys H8 z eR hi hz hk hP Rr hRr=>?_) (λR i ys H8 eR hi hk hP=>?_) (λR ys H8 eR hP=>?_)
  ·let⟨s8,nR,ly⟩:=hP;let⟨t,et,tb⟩:=Paired.ixL tg4 hz;let eg:gd X.ts i=t:=by unfold gd;rw[zQ,et];rfl
   let⟨a,rl,bV,rfl,ea,lf,st⟩:=ED tb;let ea8:=s8 _ _ ea;by_cases h0:t.h=0
   ·rw[lf h0] at ea8;let⟨e0,_⟩:=fo.lf i (by lia) (by rw[eg];exact h0)
    refine⟨_,Z,_,Z,a,_,_,_,Z,Z,Zd.of ea8,Z,false,Z,Zn ⟨nn (zR rfl),λq nq=>?_⟩⟩;let⟨H9,eU9,s9,h9⟩:=Ym nq (.lst []);rw[eU9];exists q,[],Z,.inl (ZI.of h9),Z,Z,_,Z;have:=hRr H9 (s9 _ _ eR) ⟨s8.trans s9,nR,ly⟩;rw[e0] at this;exact this
   ·let⟨bl,rfl,nA,hb⟩:=st h0;let⟨_,b2,b4,_,_⟩:=fo.st i (by lia) (by rw[eg];exact h0)
    rw[eg] at b2 b4;refine⟨_,Z,_,Z,a,_,_,_,Z,Z,Zd.of ea8,Z,true,.inl ⟨_,ZI.of (s8 _ _ hb),?_⟩,Z7 ⟨bl,_,Z,.inl (ZI.of (s8 _ _ hb)),Z,?_,_,Z,?_⟩⟩
    ·cases eb:t.bs with
     | nil=>rw[eb] at b2;exact absurd b2 (by decide)
     | cons b l=>rfl
    ·rw[zE];intro x hx;let⟨b,_,rfl⟩:=yR.mp hx;rfl
    ·rw[aJ zS,ZQK,<-eg];exact hRr H8 eR ⟨s8,nR,ly⟩
  ·let⟨s8,nR,ly⟩:=hP;refine⟨_,Z,hRr _ H8 eR ⟨Uh s8 nR,nR,?_⟩⟩;rw[xN,vR,xL,aK hk,zT,zT,ly];rfl
  ·let⟨s8,nR,ly⟩:=hP;exists s8,nR;rw[xN,vR,xL,hk,ly];simp
  ·let⟨s8,nR,ly⟩:=hP;let s48:=s4.trans s8;let S8:=S.same s48;let R8:=S8.sh;let W8:=R8.tw j jv;let⟨dS8,hS8⟩:=R8.sh.self;let hav:((zF us.length).filter λi:Nat=>decide (j∈(gd X.ts i).bs)).length=(X.av j).length:=by
    let m1:∀ x,x∈(zF us.length).filter (λi:Nat=>decide (j∈(gd X.ts i).bs)) ↔ x∈X.av j:=λx=>by
     rw[wJ,decide_eq_true_iff,S.dg.ave j jv x,ev,<-lus]
    let n1:((zF us.length).filter (λi:Nat=>decide (j∈(gd X.ts i).bs))).Nodup:=List.nodup_range.filter _;exact Nat.le_antisymm (OR n1 λx hx=>(m1 x).mp hx) (OR (S.dg.avn j jv) λx hx=>(m1 x).mpr hx)
   let hho:X.ho j=(es.filterMap id).count j:=by
    rw[S.dg.hs j jv,<-po.count_eq];show 0+_=_;lia
   let fE:(VE es).all UI=true:=by
    rw[zE];intro x hx;let⟨e,_,rfl⟩:=yR.mp hx;cases e <;> rfl
   let lav:(iN (X.av j)).length=(X.av j).length:=zY _;exists R,ys,Z,.inl (ZI.of eR),_,Z,_,Z,pl,.int (j:Nat),Z,.inl ⟨Xf M,.inl (j:Int),.inl (s48 _ _ jp),Z,by rw[MV,aK (lM j jv)]⟩
   refine⟨_,Z,X.S,dS8,_,Z,hS8,Z,_,Z,X.S,X.d,lk,X.ts.length,X.kvs,ls,(j:Int),_,_,_,_,_,_,Z,⟨R8.sh,R8.val j jv,W8.tw⟩,_,Z,.inl ⟨Z,_,ZI.of (s48 _ _ hsl)⟩,_,Z,.mk (s48 _ _ hsl) fE Z ?_⟩;rw[F9];exists Z,_,Z;rw[aI (by rw[hho])]
   refine Zn ⟨_,Z,X.S,dS8,_,Z,hS8,Z,_,Z,X.S,X.d,lk,X.ts.length,X.kvs,ls,(j:Int),_,_,_,_,_,_,Z,⟨R8.sh,R8.val j jv,W8.tw⟩,_,Z,.inl ⟨Z,_,ZI.of (s48 _ _ hsl)⟩,_,Z,.mk (s48 _ _ hsl) fE Z ?_⟩;rw[F9];exists _,Z,_,_,Z,Z,Z,_,Z;rw[aI (by show V.int ((((iN (X.av j)).length:Nat):Int)+((X.ho j:Nat):Int))=V.int ((((es.filterMap id).count j:Nat):Int)+((ys.length:Nat):Int));rw[lav,hho,ly,hav,Int.add_comm])]
   exact Zn (.mk s48)
 ·induction hP
  rename_i s4
  exact k _ s4
end
inductive QV(K':zZ)(x y:V)(H:Hp)(Q:VK):Prop
 |mk(a b:aj)(xs ys:jh)(ts us:jM)(_:x=.ref a)(_:y=.ref b)(_:ZI K' H a xs)(_:ZI K' H b ys)(_:kK H ts xs)(_:kK H us ys)(_:∀ t∈ts,t.depth<=100)(_:Q (.bl (!kM ts us)) H)
def ZMz{k:Nat}(hr:Zf k X.A):Y7 X (aA .NotEq) (QV X.K):=by
 intro kR s σ H x y v u Q I rx ry h;let⟨a,b,xs,ys,ts,us,rfl,rfl,h1,h2,k1,k2,hf,q⟩:=h;cases rx;cases ry;let⟨jk,r1,p1,z1⟩:=I.list h1;let⟨its2,r2,p2,z2⟩:=I.list h2;let l1:=r1.length;let l2:=r2.length;let m1:=k1.length;let m2:=k2.length;let un:=hr.un;by_cases hl:jk.length=its2.length
 ·refine PySem.SeqAt.RcNeAt.lists (e:=λj=>(ts.getD j (.int 0)).eqb (us.getD j (.int 0))) p1.isList p2.isList (by simpa using hl) (by lia) (λj g1 g2=>?_) X.prog X.w X.xe _ ⟨.bl _,H,I,Z,?_⟩
  ·let j1:j<xs.length:=by simp at g1;lia
   let j2:j<ys.length:=by simp at g2;lia
   let⟨t1,e1,a1⟩:=k1.get (zV j1);let⟨t2,e2,a2⟩:=k2.get (zV j2);let⟨u1,f1,b1⟩:=r1.get (zV j1);let⟨u2,f2,b2⟩:=r2.get (zV j2);let q1:jk.toArray[j]=u1:=by
    have:jk.toArray[j]? = some u1:=by simpa using f1
    rw[vZ g1] at this;exact yL.inj this
   let q2:its2.toArray[j]=u2:=by
    have:its2.toArray[j]? = some u2:=by simpa using f2
    rw[vZ g2] at this;exact yL.inj this
   rw[q1,q2,zQ,zQ,e1,e2];let dp:=hf t1 (zG e1);exact Nm t1.depth t1 t2 _ _ _ (zX _) (Uw I _ _ _ a1 b1) (Uw I _ _ _ a2 b2) (by show X.A.units+1+_<_;lia)
  ·let e:=Mm ts us;let hmin:min ts.length us.length=jk.toArray.size:=by simp;lia
   rw[hmin,show (ts.length==us.length)=true by simp;lia,Bool.and_true] at e
   rw[e];exact q
 ·refine PySem.SeqAt.RcNeAt.lists_lengths p1.isList p2.isList (by simpa using hl) (by lia) X.prog X.w X.xe _ ⟨.bl _,H,I,Z,?_⟩
  let e:=Mm ts us;rw[show (ts.length==us.length)=false by simp;lia,Bool.and_false] at e
  rw[<-e] at q;exact q
def ZPw{lv:jK}{ts:jN}{B:Nat}(h:∀ b∈lv,∃ p∈lv,(gd ts p).h=(gd ts b).h+1)(l:∀ b∈lv,(gd ts b).h<=B):lv=[]:=by
 let key:∀ n b,b∈lv->B-(gd ts b).h=n->False:=λn=>by
  induction n with
  | zero=>
   intro b hb e;let⟨p,hp,e1⟩:=h b hb;have:=l p hp;lia
  | succ n ih=>
   intro b hb e;let⟨p,hp,e1⟩:=h b hb;exact ih p hp (by lia)
 cases lv with
 | nil=>rfl
 | cons b r=>exact(key _ b zO Z).elim
def Zh.avoid{A A':jR}{H:Hp}{us:jh}{ts:jN}(h:Zh A H us ts)(o:∀ c o,H c=some o->c∉A'):Zh A' H us ts:=Paired.imp' (λ_ _ h=>by
 induction h
 rename_i e n1 e1 ks l st
 exact .mk e (o _ _ e1) e1 ks l λz=>by
  let⟨bl,e2,n2,e3⟩:=st z;exact⟨bl,e2,o _ _ e3,e3⟩) h
section
variable{kP kQ CTb:aj}
abbrev Bq:jP:=["_law_script","_law_k","_law_well_here","_law_twigs","_law_stops","_law_rows","_law_handed","_law_turn","_law_told","_law_places","_law_table"]
def Pn:ZB Bq zFh (Zl Q4):=⟨Z,Z,Z,by decide +kernel,Z,by decide +kernel,by decide +kernel⟩
inductive Fd(H:Hp)(z:aj):Nat->L2.St->Hp->Prop
 |mk{j:Nat}{x1 x2 x3 x4 x5 x6 x7 x8 x9 x10:ji}{H':Hp}:ZC H H'->Fd H z j [some (.ref z),x1,x2,x3,x4,x5,x6,x7,x8,x9,x10] H'
inductive CG(H:Hp)(z p tl sl rl hl:aj)(x1:ji):Nat->L2.St->Hp->Prop
 |mk{j:Nat}{x7 x8 x9 x10:ji}{H':Hp}:ZC H H'->CG H z p tl sl rl hl x1 j [some (.ref z),x1,some (.ref p),some (.ref tl),some (.ref sl),some (.ref rl),some (.ref hl),x7,x8,x9,x10] H'
def K3{H:Hp}:∀(l:List (jK)),kK H (l.map λt=>KT.str (Zm t)) (l.map λt=>V.str (Zm t))
 | []=>.nil
 | t::l=>.cons (by rw[ZE]) (K3 l)
def ZPN{ts:jN}{es:List (jQ)}{M:jK}(ok:Qr ts es)(he:∀ r,some r∈es->r∈M)(cl:∀ x∈M,∀ b∈(gd ts x).bs,b∈M):∀ n x,x<ts.length->ts.length-x=n->x∈M:=λn=>by
 induction n using sO with
 | ind n ih=>
  intro x hx e;rcases ok.hd x hx with z | ⟨p,hp,z⟩
  ·exact he x z
  ·let h0:(gd ts p).h≠0:=λy=>by rw[(ok.fo.lf p hp y).1] at z;cases z
   have:=((ok.fo.st p hp h0).2.2.2.1 x z).1;exact cl p (ih (ts.length-p) (by lia) p hp Z) x z
inductive G6(kP kQ CTb:aj)(H12:Hp)(S0 lk:aj)(ts:jN)(es:List (jQ))(Ts:jR)(ls:jh)(q Lt:aj)(σ0:L2.St):Nat->L2.St->Hp->Prop
 |mk{j:Nat}{X:Zx}{o:jK}{x10:ji}{H':Hp}:X.S=S0->Sd kP kQ H' X lk ls U0 UR o->o.Perm ((es.drop j).filterMap id)->X.ts=ts->(∀ b∈X.lv,0<(X.av b).length+X.ho b)->X.lv.Pairwise (· < ·)->X.lv.length<=30->(∀ b∈X.lv,(gd ts b).rows.length<=200)->(∀ i T e,j<=i->Ts[i]? = some T->es[i]? = some e->Xt CTb H' T S0 e/\Ya X lk T)->(∀ c o,H12 c=some o->H' c=some o/\Ya X lk c)->H' Lt=some (.lst (Ts.map V.ref))->Ya X lk Lt->H' q=some (.tup [.ref S0,.ref Lt])->G6 kP kQ CTb H12 S0 lk ts es Ts ls q Lt σ0 j (σ0++[x10]) H'
def B2(F:Zo K "law" "law" Q4 f fd)(T:Txt mg)(L:Y4 K mg kP kQ)(LT:OM K mg CTb)(LS:Mb K kP)(DW:ZA P w K mg kT 1 "_law_well" zE5 (V8 K))(DF:ZA P w K mg kT 10 "_law_forest" zEi XN)(DE:ZA P w K mg kT 2 "_law_ends" zEu VL)(DTr:ZA P w K mg kT 6 "_law_twig_row" zFf Y6)(DEr:ZA P w K mg kT 1 "_law_end_row" zFc Xa)(DR:ZA P w K mg kT 16 "read_shelf" zEs (YQ kP kQ CTb))(DTa:ZA P w K mg kT 28 "_law_tables_right" zEg (YZ kP kQ CTb))(DHe:ZA P w K mg kT 3 "_law_held_right" zEm (YO kP kQ))(DC:ZH P w K mg kT ZV 15 CTb "clear" zEo (XZ kP kQ CTb))(DN:ZH P w K mg kT ZV 1 kP "numbers" zEo (Y3 kP kQ))(DM:ZH P w K mg kT ZV 1 kP "many" zEo (WD kP kQ)):ZK P w K mg kT ZV 29 f fd zFh (UD K):=by
 refine F.ok Pn (λvs H Q E h=>(by let⟨_,_,rfl,_⟩:=h;rfl)) (λcdv A outer s H vs Q E hr h=>?_)
 let⟨z,ns,rfl,hSq,hn,fin⟩:=h;let nd:=Pn.nd;let hr1:=hr.mono (show 1<=28 by lia)
 let hr2:=hr.mono (show 2<=28 by lia)
 let hr3:=hr.mono (show 3<=28 by lia)
 let hr6:=hr.mono (show 6<=28 by lia)
 let hr10:=hr.mono (show 10<=28 by lia)
 let hr15:=hr.mono (show 15<=28 by lia)
 let hr16:=hr.mono (show 16<=28 by lia)
 refine⟨_,ZO (Xi PassesOwn.never rfl (UW rfl T.range (ZF (Zv (Jy rfl) rfl T.max Jr (ZF ZL (ZF (Zv (ZJy rfl) rfl T.min C4 (ZF (Zv Yk rfl T.len YU (ZF (pv 0) ZD)) (ZF ZL ZD))) ZD))) ZD)) (XB (i:=1) nd rfl (Or.inl rfl))
   (ZO (Zr (i:=2) nd rfl (Or.inl rfl) (Zc DW hr1 (ZF (pv 0) (ZF (pv 1) ZD))))
   (ZO (Zr (i:=3) nd rfl (Or.inl rfl) (Zc DF hr10 (ZF (pv 2) ZD)))
   (ZO (Zr (i:=4) nd rfl (Or.inl rfl) (Zc DE hr2 (ZF (pv 2) (ZF (pv 3) ZD))))
   (ZO (Zr (i:=5) nd rfl (Or.inl rfl) (Zs O9 (Wx [] [] rfl (Xu (pv 3)) (λ_ _ _ _ _=>Wj) (λ_ _ _ _ _=>Zc DTr hr6 (ZF (pv 0) ZD)) trivial) (Wx [] [] rfl (Xu (pv 4)) (λ_ _ _ _ _=>Wj) (λ_ _ _ _ _=>Zc DEr hr1 (ZF (pv 0) ZD)) trivial)))
   (ZO (Zr (i:=6) nd rfl (Or.inl rfl) (Ws O5 rfl T.list Ph (ZF (pv 5) ZD)))
   (ZP (Xi PassesOwn.never rfl (UW rfl T.range (ZF ZL ZD)) (XB (i:=7) nd rfl (Or.inl rfl))
    (ZO (Zr (i:=8) nd rfl (Or.inl rfl) (Zc DR hr16 (ZF (pv 6) ZD)))
    (ZO (Zt (PW.pt (Vo (VW (XD (Zv W0 rfl T.isi WS (ZF (pv 8) (ZF (Wt (v:=.ty "tuple") rfl T.tuple QK rfl) ZD))))) (Vo (Z3 Vs (Zv Yk rfl T.len YU (ZF (pv 8) ZD)) ZL (Zu _)) (Vo (VW (XD (Zv Do rfl T.isi WS (ZF (Za (r:=Zp K) ZM (pv 8) ZL (λ_ _=>rfl)) (ZF (WE (v:=.ref kP) rfl L.shelf rfl) ZD))))) (UN (Z3 (ZMz hr) (pv 6) (pv 5) (Zu _))))))) (ZP WM) Zw)
    (ZO (Zr (i:=9) nd rfl (Or.inl rfl) Mf)
    (ZO (Zt (VW (XD (Zc DTa hr (ZF (Za (r:=Zp K) ZM (pv 8) ZL (λ_ _=>rfl)) (ZF (Za (r:=Zp K) ZM (pv 8) ZL (λ_ _=>rfl)) (UA (pv 3) (pv 4) (pv 9))))))) (ZP WM) Zw)
    (ZO (Zt (VW (XD (Zc DHe hr3 (ZF (Za (r:=Zp K) ZM (pv 8) ZL (λ_ _=>rfl)) (UA (pv 3) (pv 4) (pv 9)))))) (ZP WM) Zw)
    (ZO (Xi PassesOwn.never rfl (Xu (Za (r:=Zp K) ZM (pv 8) ZL (λ_ _=>rfl))) (XB (i:=10) nd rfl (Or.inl rfl)) (ZP (Xd (MA (E:=E0) (pv 10) LT.cT DC hr15 Yd))))
    (ZP (Zt (Z3 (FW hr.units0) (MA (E:=E0) (Za (r:=Zp K) ZM (pv 8) ZL (λ_ _=>rfl)) L.cS DN hr1 Yd) (Yo ZD) (Zu _)) (ZP WM) Zw))))))))))))))))
  (ZP (Zk (QX (VY (Kb hr.units0) (Za (r:=Zp K) ZM (Zc DR hr16 (ZF (Yo ZD) ZD)) ZL (λ_ _=>rfl)) (Yo ZD) (Zu _)) (U4 (VY XE (MA (E:=E0) (Za (r:=Zp K) ZM (Zc DR hr16 (ZF (Yo ZD) ZD)) ZL (λ_ _=>rfl)) L.cS DM hr1 Yd) ZL (Zu _)))))),?_⟩
 exists _,Z,z,_,Z,.inl hSq,_,_,Z,_,_,Z,_,Z,by split <;> (try split) <;> lia,by split <;> (try split) <;> lia
 refine Ql (n:=(if (if (10:Int)<((ns.map V.int).length:Nat) then (10:Int) else ((ns.map V.int).length:Nat)) > 2 then (if (10:Int)<((ns.map V.int).length:Nat) then (10:Int) else ((ns.map V.int).length:Nat)) else 2).toNat) (Fd H z) (.mk (ZC.refl H)) (λj σ H1 hj hP=>?_) (λσ H1 hP=>?_)
 ·induction hP
  rename_i x1 x2 x3 x4 x5 x6 x7 x8 x9 x10 H1 s1
  let hSq1:ZI K H1 z (ns.map V.int):=hSq.imp (λr=>r.imp (λh=>s1 _ _ h) λ⟨o,h⟩=>⟨o,s1 _ _ h⟩) id;refine⟨_,Z,_,Z,z,ns,_,Z,hSq1,hn,by lia,by lia,λp H2 np s2 W2=>?_⟩
  refine⟨_,Z,.mk W2 λH3 tl us ts W3 s3 ntl htl tg fo n0 l24 low=>?_⟩;let tlp:tl≠p:=λz=>by let⟨y,hy⟩:=W2.some;rw[z,hy] at ntl;cases ntl
  refine⟨_,Z,_,Z,.mk W3 tlp htl tg fo n0 l24 λH4 sl es W4 s4 nsl hsl e28 einn ehd=>?_⟩;let old4:ZC H1 H4:=λc o e=>s4 c o (s3 c o (s2 c o e) (Ze e np)) (Ze e np);let htl4:=s4 _ _ htl tlp;let tg4:Zh [] H4 us ts:=tg.step (λx h=>by cases h) (λc o n e=>s4 c o e λz=>n (by rw[z];simp)) (s4.tupsW W3)
  let lus:=Paired.length tg;let ok:Qr ts es:=⟨fo,by lia,by lia,einn,ehd,low⟩
  let tx:∀ i<ts.length,NG (gd ts i):=λi hi=>⟨λh0=>(fo.lf i hi h0).2,λh0=>by
   let⟨_,b2,b4,bb,_⟩:=fo.st i hi h0;exact⟨by lia,b4,λb hb=>by have:=(bb b hb).1;lia⟩⟩
  exists _,Z,tl,Z,⟨_,ZI.of htl4⟩;refine Wa (n:=us.length) (λi z=>us[i]? = some z) (λR i ys H8=>ZC H4 H8/\H4 R=none/\ys=(ts.take i).map λt=>V.str (Zm (QZ t))) (YF (by lia))
   (λR i ys H8 hi hP=>⟨us,us[i]'hi,ZI.of (hP.1 _ _ htl4),zV _⟩) (λR i ys H8 z H9 hi hP hy=>⟨hy.1,hy.2 _ (ZI.of (hP.1 _ _ htl4))⟩) (λR ys H8 hP=>⟨us,ZI.of (hP.1 _ _ htl4),zX _⟩)
   (λR hR=>⟨Zq hR _,hR,Z⟩) (λR i ys H8 z eR hl' hi hz hP Rr hRr=>?_) (λR ys H8 eR hP=>?_)
  ·let⟨s8,nR,rfl⟩:=hP;let⟨t,et,tb⟩:=Paired.ixL tg4 hz;let eg:gd ts i=t:=by unfold gd;rw[zQ,et];rfl
   refine⟨_,Z,.mk (tb.same (A':=[]) (λx h=>h) s8) (by rw[<-eg];exact tx i (by lia)) λH9 s9=>hRr _ H9 (s9 _ _ eR) ⟨Uh (s8.trans s9) nR,nR,?_⟩⟩
   rw[yW,et];simp
  ·let⟨s8,nR,rfl⟩:=hP;rw[lus,xK] at eR;let hsl8:=s8 _ _ hsl;exists _,Z,sl,Z,⟨_,ZI.of hsl8⟩;refine Wa (n:=(VE es).length) (λi z=>(VE es)[i]? = some z) (λR2 i ys H9=>ZC H8 H9/\H8 R2=none/\ys=(es.take i).map λe=>V.str (Zm (QA e))) (YF (by rw[zY];lia))
    (λR2 i ys H9 hi hP=>⟨_,(VE es)[i]'hi,ZI.of (hP.1 _ _ hsl8),zV _⟩) (λR2 i ys H9 z H10 hi hP hy=>⟨hy.1,hy.2 _ (ZI.of (hP.1 _ _ hsl8))⟩) (λR2 ys H9 hP=>⟨_,ZI.of (hP.1 _ _ hsl8),zX _⟩)
    (λR2 hR=>⟨Zq hR _,hR,Z⟩) (λR2 i ys H9 z eR2 hl' hi hz hP Rr hRr=>?_) (λR2 ys H9 eR2 hP=>?_)
   ·let⟨s9,nR2,rfl⟩:=hP;rw[zC] at hz;let⟨e,he,rfl⟩:=xY.mp hz;refine⟨_,Z,.mk (λr hr=>?_) (hRr _ H9 eR2 ⟨Uh s9 nR2,nR2,?_⟩)⟩
    ·have:=einn r (by rw[<-hr];exact zG he)
     lia
    ·rw[yW,he];simp
   ·let⟨s9,nR2,rfl⟩:=hP;rw[zY,xK] at eR2;refine⟨R,R2,_,_,Z,Z,s9 _ _ eR,eR2,yV (YF (by rw[zY,zY];lia)),λrl nrl=>?_⟩
    let⟨H10,eU10,s10,hrl⟩:=Ym nrl (.lst (PY ts es));let eU10':upd H9 rl (.lst ((ts.map λt=>V.str (Zm (QZ t)))++es.map λe=>V.str (Zm (QA e))))=H10:=eU10;rw[eU10'];refine⟨_,Z,rl,_,Z,.inl (ZI.of hrl),λhl nhl=>?_⟩;let⟨H11,eU11,s11,hhl⟩:=Ym nhl (.lst (PY ts es));rw[eU11];let s411:ZC H4 H11:=s8.trans (s9.trans (s10.trans s11));let hrl11:=s11 _ _ hrl;let htl11:=s411 _ _ htl4;let hsl11:=s411 _ _ hsl;let tg11:Zh [] H11 us ts:=tg4.same (λx h=>h) s411;let old11:ZC H H11:=s1.trans (old4.trans s411);clear s411 s8 s9 s10 s11;refine⟨2,Z,by decide,by decide,Ql (n:=(2:Int).toNat) (CG H11 z p tl sl rl hl (some (.int (0+(j:Int))))) (.mk (ZC.refl H11)) (λjt σ H12 hjt hP=>?_) (λσ H12 hP=>?_)⟩
    ·induction hP
     rename_i x7 x8 x9 x10 H12 s12
     refine⟨_,Z,.mk (s12 _ _ hhl) ok λH13 q Lt lk X Ts R nq hq=>?_⟩;let⟨s13,of13,hL,oL,S13,et,ev,tb,nT⟩:=R;let⟨dS,hS⟩:=S13.sh.sh.self;let s113:ZC H11 H13:=s12.trans s13;refine⟨_,Z,_,_,_,_,Z,.tup hq,N0,_,Z,Zn ?_⟩;refine⟨_,Z,q,_,Z,.inr (Zd.of hq),Z,_,Z,Zn ?_⟩;refine⟨_,Z,q,_,_,_,Z,Z,Zd.of hq,Z,.mk hS L.cS LS ⟨_,Z,Zn ?_⟩⟩;let er:PY ts es=(ts.map QZ++es.map QA).map λt=>V.str (Zm t):=by rw[yZ,xU,xU];rfl
     exists _,Z,_,Z,hl,rl,_,_,(ts.map QZ++es.map QA).map λt=>KT.str (Zm t),(ts.map QZ++es.map QA).map λt=>KT.str (Zm t),Z,Z,ZI.of (s113 _ _ hhl),ZI.of (s113 _ _ hrl11),by rw[er];exact K3 _,by rw[er];exact K3 _,λt ht=>?_,_,Z
     ·let⟨x,_,rfl⟩:=yR.mp ht;rw[KT.depth];exact zH _
     rw[eqbL_self];refine Zn ?_;intro pl npl;let⟨H14,eU14,s14,jp⟩:=Ym npl (.dK []);rw[eU14];let s114:=s113.trans s14;let hq14:=s14 _ _ hq;let S14:=S13.same s14;let po:(es.reverse.filterMap id).Perm (es.filterMap id):=(uU es).filterMap id;let tb14:Nt CTb H14 X lk Ts es:=Paired.imp' (λT e h=>by let⟨⟨dx,hT⟩,oT⟩:=h;exact⟨⟨dx,s14 _ _ hT⟩,oT⟩) tb
     let av14:∀ c o,H11 c=some o->c∉[lk,pl]:=λc o e z=>by
      rcases zI.mp z with z | z
      ·exact(of13 c o (s12 _ _ e)).1.2.2.1 z
      ·exact Ze (s113 _ _ e) npl (zN.mp z)
     let tg14:Zh [lk,pl] H14 us ts:=(tg11.avoid av14).same (λx h=>h) s114;let lvl:∀ x∈X.lv,x<ts.length:=λx hx=>by rw[ev] at hx;exact yX.mp hx
     let lvn:X.lv.length=ts.length:=by rw[ev,xE]
     let tla:=av14 _ _ htl11;let sla:=av14 _ _ hsl11;refine⟨_,Z,q,_,_,_,Z,Z,Zd.of hq14,Z,_,Z,q,_,_,_,Z,Z,Zd.of hq14,Z,_,Z,_,Z,_,Z,.mk (A:=[lk,pl]) S14 po et lvl low (by lia) (by lia) (zH _) tb14 (s14 _ _ hL) oL (s114 _ _ hsl11) (s114 _ _ htl11) tg14 (by simp) (by simp) (λz=>tla (by simp[z])) (λz=>tla (by simp[z])) (λz=>sla (by simp[z])) (λz=>sla (by simp[z])) (S13.sh.new npl) jp λH15 ls15 M15 fr15 S15 hpl15 M15n M15e M15l M15c=>⟨_,Z,Zn ?_⟩⟩
     let nlk:=S14.sh.sh.looks;let t15:YD H14 H15:=λc xs e=>fr15 c _ (Zg e nlk (by intro z;cases z)) (Zg e jp (by intro z;cases z)) e
     let hq15:=t15 _ _ hq14;let f15:∀ c o,H11 c=some o->H15 c=some o:=λc o e=>fr15 c o (λz=>av14 c o e (by simp[z])) (λz=>av14 c o e (by simp[z])) (s114 _ _ e)
     let tg15:Zh [lk,pl] H15 us ts:=tg14.step (λx h=>h) (λc o n e=>fr15 c o (λz=>n (by simp[z])) (λz=>n (by simp[z])) e) t15
     refine⟨_,Z,q,_,_,_,Z,Z,Zd.of hq15,Z,_,Z,_,Z,_,Z,.mk S15 po et ev fo (by lia) (by lia) (f15 _ _ hsl11) (f15 _ _ htl11) tg15 hpl15 M15n M15l (λx hx=>ZPN ok M15e M15c _ x (lvl x hx) Z) λH16 s16=>⟨_,Z,Zn ?_⟩⟩
     let hL16:=s16 _ _ (fr15 _ _ oL.2.2.1 (Ze hL npl) (s14 _ _ hL));let hq16:=s16 _ _ hq15;let S16:=S15.same s16;let lT:Ts.length=es.length:=Paired.length tb;refine⟨_,Z,q,_,_,_,Z,Z,Zd.of hq16,Z,Lt,Z,⟨_,ZI.of hL16⟩,Vt (K:=K) (a:=Lt) (xs:=Ts.map V.ref) (G6 kP kQ CTb H12 X.S lk ts es Ts ls15 q Lt [some (.ref z),some (.int (0+(j:Int))),some (.ref p),some (.ref tl),some (.ref sl),some (.ref rl),some (.ref hl),some (.int (0+(jt:Int))),some (.ref q),some (.ref pl)])
      (.mk rfl S16 (by rw[wP];exact po) et (λb hb=>?_) (by rw[ev];exact List.pairwise_lt_range) (by lia) (λb hb=>low b (lvl b hb)) (λi T e _ e1 e2=>?_) (λc o e=>⟨s16 _ _ (fr15 c o (of13 c o e).1.2.2.1 (Ze (s13 _ _ e) npl) (s14 _ _ (s13 _ _ e))),(of13 c o e).1⟩) hL16 oL hq16) ?_ ?_ ?_⟩
     ·let bl:=lvl b hb;rcases ok.hd b bl with y | ⟨p',hp',y⟩
      ·let h1:=S16.dg.hs b hb;have:0<(es.reverse.filterMap id).count b:=vS.mpr (uC.mpr ⟨some b,sT.mpr y,Z⟩);lia
      ·have:p'∈X.av b:=(S16.dg.ave b hb p').mpr ⟨by rw[ev];exact yX.mpr hp',by rw[et];exact y⟩
       have:=qQ this;lia
     ·let⟨e',he',⟨dx,hT⟩,oT⟩:=Paired.ixL tb14 e1;rw[e2] at he';cases he';exact⟨⟨dx,s16 _ _ (fr15 _ _ oT.2.2.1 (Zg hT jp (by intro z;cases z)) hT)⟩,oT⟩
     ·intro jc σ H17 _ hI
      induction hI
      rename_i hLq _ _
      exact ZI.of hLq
     ·intro jc u σ H17 hu hI
      induction hI
      rename_i jc Xc oc x10 H17 eSc Sc pc etc kpc upc l30c lowc tbc oldc hLc oLc hqc
      obtain⟨T0,eT,rfl⟩:∃ T0,Ts[jc]? = some T0/\u=.ref T0:=by
       rw[zC] at hu;let⟨T0,h1,h2⟩:=xY.mp hu;exact⟨T0,h1,h2.symm⟩
      let jl:=(yY.mp eT).1;let ee:es[jc]? = some (es[jc]'(by lia)):=zV _
      let ed:es.drop jc=es[jc]'(by lia)::es.drop (jc+1):=wA _
      generalize es[jc]'(by lia)=e at ee ed
      rw[ed] at pc;let pc':oc.Perm (e.toList++(es.drop (jc+1)).filterMap id):=by
       cases e with
       | none=>exact pc
       | some r=>exact pc
      let⟨⟨dx,hT⟩,oT⟩:=tbc jc T0 e (zX _) eT ee;let Sc':Sd kP kQ H17 Xc lk ls15 U0 UR (e.toList++(es.drop (jc+1)).filterMap id):=⟨Sc.sh,Sc.dg.perm pc'⟩;let r200:(UM Xc.ts e).length<=200:=by
       cases e with
       | none=>exact zH _
       | some r=>
        show (gd Xc.ts r).rows.length<=200;rw[etc];exact lowc r (Sc'.hi r Z)
      let qT:q≠T0:=Zg hqc hT (by intro z;cases z)
      let LT':Lt≠T0:=Zg hLc hT (by intro z;cases z)
      let oq:Ya Xc lk q:=Sc.sh.off hqc nofun nofun nofun
      refine⟨_,Z,T0,dx,_,Z,hT,Z,.mk (r:=e) ⟨dx,by rw[eSc];exact hT⟩ Sc' r200 oT λH18 X18 eS18 fr18 oT18 T18 S18 et18 ev18 kp18=>?_⟩
      refine .mk (X:=X18) (eS18.trans eSc) S18 (wR.refl _) (et18.trans etc) (kp18 kpc) (upc.sublist ev18) (zK ev18.length_le l30c) (λb hb=>lowc b (ev18.subset hb)) (λi T2 e2 hi h1 h2=>?_) (λc o e0=>?_) (fr18 _ _ LT' oLc hLc).1 (fr18 _ _ LT' oLc hLc).2 (fr18 _ _ qT oq hqc).1
      ·let⟨⟨dx2,hT2⟩,oT2⟩:=tbc i T2 e2 (by lia) h1 h2
       let n2:T2≠T0:=λz=>by
        let hi1:=(yY.mp h1).1;let e3:Ts[i]'hi1=Ts[jc]'jl:=by
         rw[(yY.mp h1).2,(yY.mp eT).2,z]
        have:=(sI nT).mp e3;lia
       let⟨f1,f2⟩:=fr18 _ _ n2 oT2 hT2;exact⟨⟨dx2,f1⟩,f2⟩
      ·let⟨f1,f2⟩:=oldc c o e0;exact fr18 c o (λz=>(of13 c o e0).2.1 (by rw[z];exact zG eT)) f2 f1
     ·intro σ H17 hI;rw[zY,lT] at hI;generalize ejc:es.length=jc at hI
      induction hI
      rename_i jc Xc oc x10 H17 eSc Sc pc etc kpc upc l30c lowc tbc oldc hLc oLc hqc
      rw[<-ejc,sV] at pc;let oc0:oc=[]:=wR.eq_nil pc;subst oc0;let lv0:Xc.lv=[]:=ZPw (ts:=ts) (B:=200) (λb hb=>by
       let k1:=kpc b hb;let k2:=Sc.dg.hs b hb;let k3:Xc.ho b=0:=k2;let⟨p',hp'⟩:=List.exists_mem_of_length_pos (show 0<(Xc.av b).length by lia)
       let⟨m1,m2⟩:=(Sc.dg.ave b hb p').mp hp';let m3:=(Lh Sc.dg.wf m1 m2).2.1;rw[etc] at m3;exact⟨p',m1,m3.symm⟩) λb hb=>by
        have:=Ka Sc.dg.wf _ b hb Z;rw[etc] at this;exact zK (EC this (lowc b hb)) (by decide)
      let⟨dS17,hS17⟩:=Sc.sh.sh.self;rw[<-eSc] at hqc;refine⟨_,Z,q,_,_,_,Z,Z,Zd.of hqc,Z,Xc.S,dS17,_,Z,hS17,Z,.mk Sc.sh upc (by lia) λp2 np2=>?_⟩
      let⟨H18,eU18,s18,h18⟩:=Ym np2 (.lst (iN Xc.lv));rw[eU18];refine⟨nn (zR rfl),λq2 nq2=>?_⟩;let⟨H19,eU19,s19,h19⟩:=Ym nq2 (.lst []);rw[eU19];exists p2,q2,_,Z,Z,ZI.of (s19 _ _ h18),ZI.of h19,_,Z;rw[lv0];exact Zn (.mk λc o e=>s19 _ _ (s18 _ _ (oldc c o (s12 _ _ e)).1))
    ·generalize (2:Int).toNat=jt at hP
     induction hP
     rename_i x7 x8 x9 x10 H12 s12
     exact .mk (old11.trans s12)
 ·generalize (if (if (10:Int)<((ns.map V.int).length:Nat) then (10:Int) else ((ns.map V.int).length:Nat)) > 2 then (if (10:Int)<((ns.map V.int).length:Nat) then (10:Int) else ((ns.map V.int).length:Nat)) else 2).toNat=j at hP
  induction hP
  rename_i x1 x2 x3 x4 x5 x6 x7 x8 x9 x10 H1 s1
  let ok0:Qr [] []:=⟨⟨λi hi=>absurd hi (wM _),λi hi=>absurd hi (wM _)⟩,zH _,zH _,nofun,λi hi=>absurd hi (wM _),λi hi=>absurd hi (wM _)⟩;refine⟨nn (zR rfl),λl1 nl1=>?_⟩;let⟨H2,eU2,s2,h2⟩:=Ym nl1 (.lst []);rw[eU2];refine .mk (ts:=[]) (es:=[]) h2 ok0 λH3 q Lt lk X Ts R nq hq=>?_;let⟨s3,_,hL,_,S3,et,ev,tb,_⟩:=R;cases tb;refine⟨q,_,_,_,Z,Z,Zd.of hq,Z,nn (zR rfl),λl2 nl2=>?_⟩;let⟨H4,eU4,s4,h4⟩:=Ym nl2 (.lst []);rw[eU4];refine⟨Lt,l2,_,Z,Z,ZI.of (s4 _ _ hL),ZI.of h4,_,Z,Z7 ⟨nn (zR rfl),λl3 nl3=>?_⟩⟩;let⟨H5,eU5,s5,h5⟩:=Ym nl3 (.lst []);rw[eU5];refine .mk (ts:=[]) (es:=[]) h5 ok0 λH6 q2 Lt2 lk2 X2 Ts2 R2 nq2 hq2=>?_;let⟨s6,_,hL2,_,S6,et2,ev2,tb2,_⟩:=R2;let⟨dS,hS⟩:=S6.sh.sh.self;refine⟨q2,_,_,_,Z,Z,Zd.of hq2,Z,X2.S,dS,_,Z,hS,Z,.mk S6.sh ?_⟩;rw[ev2];exact⟨Z,fin _⟩
end
end _T
namespace L2
open PySem PySem.Spec
def xT(K:zZ)(C:aj):Bool:=
 (yT K (.ref C) "__class__" == some (some (.builtin "object.__class__")))&&((rV K (.builtin "object.__class__") "__get__" == some (some (.builtin "getset_descriptor.__get__")))&&((sE K (.builtin "object.__class__")==some true)&&((sN K C (.type "object")==some true)&&(yG K (.ref C) (.ref C)==some true))))
def Gu{K:zZ}{C:aj}(h:xT K C=true):Mb K C:=by
 unfold xT at h;simp only[zP,beq_iff_eq] at h;let⟨a,b,c,d,e⟩:=h;exact⟨a,b,c,d,e⟩
end L2
namespace _T
open PySem PySem.Spec L2 PyProof.Rows
structure Pk(K:zZ)(C:aj):Prop where
 ex:∃ f fd,yT K (.ref C) "__init__" = some (some (.ref f))/\vV K (.ref f)=true/\V9 K "__init__" "Table.__init__" Pz f fd
def NT{K:zZ}{C f dT:aj}{od an od2:jY}{sl sl2:Array (jf)}{oc kV dc pm cd ct oc2:ai}{n:Nat}(v:yT K (.ref C) "__init__" = some (some (.ref f)))(l:K.lookup f=some ⟨oc,od,.func (yF "__init__" "Table.__init__" (UH Pz) (Vl Pz) (Zl Pz) (.ref dT) kV dc pm an cd ct),sl⟩)(l2:K.lookup dT=some ⟨oc2,od2,.seq #[.none] n,sl2⟩)(fn:vV K (.ref f)=true)(c:wN K cd "Table.__init__" = true)(k:xZ K (.ref f)=true):Pk K C:=
 ⟨f,_,v,fn,⟨oc,od,dT,kV,dc,pm,an,cd,ct,sl,_,n,rfl,l,c,l2,rfl⟩,k⟩
def Nv{K:zZ}{C f:aj}{m q:Str}{st:Stmt}{ps:jP}{od an:jY}{sl:Array (jf)}{oc kV dc pm cd ct:ai}(v:yT K (.ref C) m=some (some (.ref f)))(l:K.lookup f=some ⟨oc,od,.func (yF m q (UH st) (Vl st) (Zl st) .none kV dc pm an cd ct),sl⟩)(fn:vV K (.ref f)=true)(c:wN K cd q=true)(k:xZ K (.ref f)=true)(hb:∀ (kV doc pm:ai) (an:jY) (cdv ct:ai) (us:jg),us.length=ps.length->bindArgs (yF m q (UH st) (Vl st) (Zl st) .none kV doc pm an cdv ct) ⟨us,[]⟩=pure (ps.zip us)):Z1 K C m q st ps:=
 ⟨f,_,⟨v,fn,k⟩,OY (st:=st) l c k,(OY (st:=st) l c k).binds hb⟩
structure QM(K:zZ)(C:aj)(q:Str)(st:Stmt)(ps:jP):Prop where
 ex:∃ f fd,yT K (.ref C) "__init__" = some (some (.ref f))/\vV K (.ref f)=true/\Zo K "__init__" q st f fd/\Zz K fd ps []
def Nl{K:zZ}{C f:aj}{q:Str}{st:Stmt}{ps:jP}{od an:jY}{sl:Array (jf)}{oc kV dc pm cd ct:ai}(v:yT K (.ref C) "__init__" = some (some (.ref f)))(l:K.lookup f=some ⟨oc,od,.func (yF "__init__" q (UH st) (Vl st) (Zl st) .none kV dc pm an cd ct),sl⟩)(fn:vV K (.ref f)=true)(c:wN K cd q=true)(k:xZ K (.ref f)=true)(hb:∀ (kV doc pm:ai) (an:jY) (cdv ct:ai) (us:jg),us.length=ps.length->bindArgs (yF "__init__" q (UH st) (Vl st) (Zl st) .none kV doc pm an cdv ct) ⟨us,[]⟩=pure (ps.zip us)):QM K C q st ps:=
 ⟨f,_,v,fn,OY (st:=st) l c k,(OY (st:=st) l c k).binds hb⟩
def JE{l:sG}{w:ax}{K:zZ}{h:aD}{mg:jd}{fa f58 kP kQ CTb:aj}(X:K.In h)(G:h.Ns aq mg)(hfa:mg "law" = some (.ref fa)){od58 an58:jY}{sl58:Array (jf)}{oc58 kV58 dc58 pm58 cd58 ct58:ai}{t1 t2 t3 t4 t5 t6 t7 t8 t9 t10 t11:Tok}(L1:ZX K mg "is_key" JL zE6)(L2:ZX K mg "checked" JN zE6)(L3:ZX K mg "fits" LZ zEy)(L4:ZX K mg "has_few_figures" KZ zFd)(L5:ZX K mg "is_sign" N2 zEx)(L6:ZX K mg "ahead" Kx zE7)(L7:ZX K mg "standing" LP zFe)(L8:ZX K mg "checked_rows" Ic zEs)(L9:ZX K mg "own_rows" IW zEs)(L10:ZX K mg "rise" J4 ["keys"])(L11:ZX K mg "label_of_rows" J7 zEs)(L12:ZX K mg "label_over" JV ["labels"])(L13:ZX K mg "stand_side_by_side" Je zE2)(L14:ZX K mg "rows_of" Jo zEc)(L15:ZX K mg "is_leaf" JB zFb)(L16:ZX K mg "reached" MR zEc)(L17:ZX K mg "check_root" KR zEc)(L18:ZX K mg "held" Ih zEc)(L19:ZX K mg "release" Jc zEc)(L20:ZX K mg "is_stem" Iv ["twig"])(L21:ZX K mg "read_many" Ir ["text"])(L22:ZX K mg "key_at" KO zEn)(L23:ZX K mg "number_at" MB zEf)(L24:ZX K mg "text_at" IJ zEf)(L25:ZX K mg "meant_at" Ju zEf)(L26:ZX K mg "tuple_at" MZ zEn)(L27:ZX K mg "sign_at" IE zEf)(L28:ZX K mg "is_figure" K7 zEx)(L29:ZX K mg "read_shelf" JP zEs)(L30:ZX K mg "words_of" Ky zFg)(L31:ZX K mg "read_root" IF zEk)(L32:ZX K mg "number_for" Iq zEk)(L33:ZX K mg "read_twig" IL zEq)(L34:ZX K mg "read_leaf" HJ zE3)(L35:ZX K mg "pairs_of" IM zFa)(L36:ZX K mg "read_stem" Js zE4)(L37:ZX K mg "give_up" Km zE1)(L38:ZX K mg "_law_well" Jb zE5)(L39:ZX K mg "_law_pull" Jg zEd)(L40:ZX K mg "_law_great" Kv zEr)(L41:ZX K mg "_law_text" Io zEi)(L42:ZX K mg "_law_key" MU zEh)(L43:ZX K mg "_law_rank" Mu zEl)(L44:ZX K mg "_law_keys" J5 zEd)(L45:ZX K mg "_law_alike" LL zEe)(L46:ZX K mg "_law_rows_alike" HS zEe)(L47:ZX K mg "_law_value" K6 zEi)(L48:ZX K mg "_law_show" LN zEl)(L49:ZX K mg "_law_forest" JM zEi)(L50:ZX K mg "_law_branches" HN zEp)(L51:ZX K mg "_law_by_keys" Kz zEw)(L52:ZX K mg "_law_twig_row" Ji zFf)(L53:ZX K mg "_law_ends" Jn zEu)(L54:ZX K mg "_law_end_row" Im zFc)(L55:ZX K mg "_law_matched" KB zEb)(L56:ZX K mg "_law_tables_right" JF zEg)(L57:ZX K mg "_law_held_right" Id zEm)(a58:zA K aq "law" = some (some (.ref f58)))(l58:K.lookup f58=some ⟨oc58,od58,.func (yF "law" "law" (UH Q4) (Vl Q4) (Zl Q4) .none kV58 dc58 pm58 an58 cd58 ct58),sl58⟩)(c58:wN K cd58 "law" = true)(k58:xZ K (.ref f58)=true)(z1:zA K aq "isinstance" = some none)(z2:zA K aq "bool" = some none)(z3:zA K aq "int" = some none)(z4:zA K aq "str" = some none)(z5:zA K aq "tuple" = some none)(z6:zA K aq "list" = some none)(z7:zA K aq "len" = some none)(z8:zA K aq "all" = some none)(z9:zA K aq "abs" = some none)(z10:zA K aq "max" = some none)(z11:zA K aq "min" = some none)(z12:zA K aq "range" = some none)(z13:zA K aq "sorted" = some none)(z14:zA K aq "ValueError" = some none)(z15:zA K aq "sum" = some none)(z16:zA K aq "zip" = some none)(z17:zA K aq "set" = some none)(m1_:zA K aq "MOST_FIGURES" = some (some (.int 60 t1)))(m2_:zA K aq "MOST_SIGNS" = some (some (.int 40 t2)))(m3_:zA K aq "MOST_THINGS" = some (some (.int 4 t3)))(m4_:zA K aq "MOST_DEEP" = some (some (.int 3 t4)))(m5_:zA K aq "MOST_ROWS" = some (some (.int 4 t5)))(m6_:zA K aq "FEWEST_BRANCHES" = some (some (.int 2 t6)))(m7_:zA K aq "MOST_BRANCHES" = some (some (.int 4 t7)))(m8_:zA K aq "HEIGHT" = some (some (.int 0 t8)))(m9_:zA K aq "LEAST" = some (some (.int 1 t9)))(m10_:zA K aq "GREATEST" = some (some (.int 2 t10)))(m11_:zA K aq "MANY" = some (some (.int 3 t11)))(IjS:QM K kP "Shelf.__init__" JO zEo)(IjT:QM K kQ "Twig.__init__" IV zEz)(IjB:Pk K CTb)(Mm1:Z1 K kP "put_leaf" "Shelf.put_leaf" JI zE8)(Mm2:Z1 K kP "put_stem" "Shelf.put_stem" KY zEj)(Mm3:Z1 K kP "put_twig" "Shelf.put_twig" Jm zEv)(Mm4:Z1 K kP "holders" "Shelf.holders" IR zEa)(Mm5:Z1 K kP "outside" "Shelf.outside" IG zEa)(Mm7:Z1 K kP "look" "Shelf.look" Jv zEa)(Mm8:Z1 K kP "label" "Shelf.label" K5 zEa)(Mm12:Z1 K kP "twig_of" "Shelf.twig_of" Ij zEa)(Mm13:Z1 K kP "labels_of" "Shelf.labels_of" KQ zEj)(Mm14:Z1 K kP "check_held" "Shelf.check_held" J9 zEj)(Mm15:Z1 K kP "take_over" "Shelf.take_over" Ii zE0)(Mm25:Z1 K kP "hold" "Shelf.hold" IS zEa)(Mm26:Z1 K kP "let_go" "Shelf.let_go" IO zEa)(Mm27:Z1 K kP "drop_unheld" "Shelf.drop_unheld" Lo zEa)(Mm28:Z1 K kP "numbers" "Shelf.numbers" ID zEo)(Mm29:Z1 K kP "many" "Shelf.many" HQ zEo)(Mt1:Z1 K CTb "clear" "Table.clear" HI zEo)(Mt2:Z1 K CTb "rows" "Table.rows" Jh zEo)(xCSh:zA K aq "Shelf" = some (some (.ref kP)))(xCTw:zA K aq "Twig" = some (some (.ref kQ)))(xCTb:zA K aq "Table" = some (some (.ref CTb)))(mkCSh:uG K kP=true)(kpCSh:xZ K (.ref kP)=true)(pgCSh:vM K kP Str.empty=true)(hdCSh:uS K kP=true)(poCSh:uD K kP=true)(saCSh:yT K (.ref kP) "__setattr__" = some (some (.builtin "object.__setattr__")))(mkCTw:uG K kQ=true)(kpCTw:xZ K (.ref kQ)=true)(pgCTw:vM K kQ Str.empty=true)(hdCTw:uS K kQ=true)(poCTw:uD K kQ=true)(saCTw:yT K (.ref kQ) "__setattr__" = some (some (.builtin "object.__setattr__")))(mkCTb:uG K CTb=true)(kpCTb:xZ K (.ref CTb)=true)(pgCTb:vM K CTb Str.empty=true)(hdCTb:uS K CTb=true)(poCTb:uD K CTb=true)(saCTb:yT K (.ref CTb) "__setattr__" = some (some (.builtin "object.__setattr__")))(na_kept:yT K (.ref kP) "kept" = some none)(na_following:yT K (.ref kP) "following" = some none)(na_looks:yT K (.ref kP) "looks" = some none)(na_things:yT K (.ref kQ) "things" = some none)(na_tag:yT K (.ref kQ) "tag" = some none)(na_above:yT K (.ref kQ) "above" = some none)(na_holds:yT K (.ref kQ) "holds" = some none)(na_shelf:yT K (.ref CTb) "shelf" = some none)(na_root:yT K (.ref CTb) "root" = some none)(xtCS:xT K kP=true)(xtCT:xT K CTb=true):
  ∃ fd:ap,(∀(s:am)(v:ai),BindsTo s fd ⟨[v],[]⟩ [("_law_script",v)])/\∀ kT:aD,K.In kT->kT.Ns aq mg->ZK l.prog w K mg kT ZV 29 fa fd zFh (UD K):=by
 let e:=hfa.symm.trans (yE X G a58);cases e;let T:Txt mg:=⟨yH X G z1,yH X G z2,yH X G z3,yH X G z4,yH X G z5,yH X G z6,yH X G z7,yH X G z8,yH X G z9,yH X G z10,yH X G z11,yH X G z12,yH X G z13,yH X G z14,yH X G z15,yH X G z16,yH X G z17,⟨_,yE X G m1_⟩,⟨_,yE X G m2_⟩,⟨_,yE X G m3_⟩,⟨_,yE X G m4_⟩,⟨_,yE X G m5_⟩,⟨_,yE X G m6_⟩,⟨_,yE X G m7_⟩,⟨_,yE X G m8_⟩,⟨_,yE X G m9_⟩,⟨_,yE X G m10_⟩,⟨_,yE X G m11_⟩⟩;refine⟨yF "law" "law" (UH Q4) (Vl Q4) (Zl Q4) .none kV58 dc58 pm58 an58 cd58 ct58,λs v=>.of_eq Z,λkT kb _=>?_⟩;let SHx:Y4 K mg kP kQ:=⟨(yE X G xCSh),(yE X G xCTw),⟨pgCSh,hdCSh,poCSh,saCSh⟩,⟨pgCTw,hdCTw,poCTw,saCTw⟩,na_kept,na_following,na_looks,na_things,na_tag,na_above,na_holds⟩;let TBx:OM K mg CTb:=⟨(yE X G xCTb),⟨pgCTb,hdCTb,poCTb,saCTb⟩,na_shelf,na_root⟩;let DMS:Ud l.prog w K mg kT 1 kP zEo (Uy kP):=by let⟨f,fd,v,fn,F,b⟩:=IjS.ex;exact⟨f,fd,⟨mkCSh,v,fn,kpCSh⟩,Cs F SHx,b⟩
 let DMT:Ud l.prog w K mg kT 1 kQ zEz (QJ kQ):=by let⟨f,fd,v,fn,F,b⟩:=IjT.ex;exact⟨f,fd,⟨mkCTw,v,fn,kpCTw⟩,ZPu F SHx,b⟩
 let MTo:ZH l.prog w K mg kT ZV 1 kP "twig_of" zEa (Z0 kP):=Mm12.of λ_ _ F=>ZJJ F SHx;let MOu:ZH l.prog w K mg kT ZV 2 kP "outside" zEa (Xg kP kQ λ_ ho _=>.int ho):=Mm5.of λ_ _ F=>A9 F SHx MTo;let MLa:ZH l.prog w K mg kT ZV 2 kP "label" zEa (Xg kP kQ λtg _ _=>tg):=Mm8.of λ_ _ F=>ZK2 F SHx MTo;let MHo:ZH l.prog w K mg kT ZV 2 kP "holders" zEa (Xg kP kQ λ_ ho us=>.int ((us.length:Nat)+(ho:Nat):Int)):=Mm4.of λ_ _ F=>ZIB F T SHx MTo;let DIs:ZA l.prog w K mg kT 1 "is_stem" ["twig"] (X7 kQ):=L20.of λ_ _ F=>ZOR F T SHx;let MLo:ZH l.prog w K mg kT ZV 2 kP "look" zEa (UC kP kQ):=Mm7.of λ_ _ F=>ZOH F T SHx MTo DIs;let MLq:=ZM4 MLo;let MPt:ZH l.prog w K mg kT ZV 3 kP "put_twig" zEv (Y8 kP kQ):=Mm3.of λ_ _ F=>ZIJ F SHx DMT;let MTk:ZH l.prog w K mg kT ZV 2 kP "take_over" zE0 (XJ kP kQ):=Mm15.of λ_ _ F=>ZGL F SHx MTo;let MLs:ZH l.prog w K mg kT ZV 3 kP "labels_of" zEj (Yy kP kQ):=Mm13.of λ_ _ F=>Au F SHx MLa;let MCh:ZH l.prog w K mg kT ZV 3 kP "check_held" zEj (Z5 kP kQ):=Mm14.of λ_ _ F=>ZEV F SHx MOu;let DP:ZA l.prog w K mg kT 1 "_law_pull" zEd (Z6):=L39.of λ_ _ F=>ZNw F;let DW:ZA l.prog w K mg kT 1 "_law_well" zE5 (V8 K):=L38.of λ_ _ F=>Cf F T;let DG:ZA l.prog w K mg kT 2 "_law_great" zEr (Z6):=L40.of λ_ _ F=>ZKw F T DP;let DT:ZA l.prog w K mg kT 2 "_law_text" zEi (WG):=L41.of λ_ _ F=>ZN6 F T DP;let DN:ZA l.prog w K mg kT 1 "has_few_figures" zFd (UV):=L4.of λ_ _ F=>C3 F T;let DSg:ZA l.prog w K mg kT 1 "is_sign" zEx (VN):=L5.of λ_ _ F=>Bi F;let DSq:ZA l.prog w K mg kT 1 "is_sign" zEx (QU):=L5.of λ_ _ F=>ZP7 F;let DIk:ZA l.prog w K mg kT 6 "is_key" zE6 (VM):=L1.of λ_ _ F=>ZLW F T (GJ T L3 DN DSg 4);let DC:ZA l.prog w K mg kT 7 "checked" zE6 (QQ):=L2.of λ_ _ F=>Bx F DIk;let DSt:ZA l.prog w K mg kT 6 "standing" zFe (V5 5):=Fz T L7 5;let DAh:ZA l.prog w K mg kT 7 "ahead" zE7 (X6):=L6.of λ_ _ F=>Al F DSt;let DRi:ZA l.prog w K mg kT 8 "rise" ["keys"] (VR):=L10.of λ_ _ F=>Ck F T DAh;let DOw:ZA l.prog w K mg kT 8 "own_rows" zEs (Xm):=L9.of λ_ _ F=>ZIQ F DC;let DCr:ZA l.prog w K mg kT 9 "checked_rows" zEs (WN):=L8.of λ_ _ F=>C6 F T DOw DRi;let DLR:ZA l.prog w K mg kT 1 "label_of_rows" zEs (Xj):=L11.of λ_ _ F=>ZIN F T;let MPg:ZH l.prog w K mg kT ZV 10 kP "put_leaf" zE8 (XH kP kQ):=Mm1.of λ_ _ F=>Aa F SHx DCr DLR MPt;let MPl:=ZIC MPg;let DSi:ZA l.prog w K mg kT 8 "stand_side_by_side" zE2 (Vw):=L13.of λ_ _ F=>ZM2 F T DAh;let DOv:ZA l.prog w K mg kT 9 "label_over" ["labels"] (VQ):=L12.of λ_ _ F=>ZKr F T DSi;let MPs:ZH l.prog w K mg kT ZV 10 kP "put_stem" zEj (XI kP kQ):=Mm2.of λ_ _ F=>ZGG F T SHx MLs DOv MCh MPt MTk;let MHd:ZH l.prog w K mg kT ZV 2 kP "hold" zEa (WH kP kQ):=Mm25.of λ_ _ F=>ZOI F SHx MTo;let DSa:ZA l.prog w K mg kT 1 "sign_at" zEf (YC):=L27.of λ_ _ F=>ZJN F;let DFi:ZA l.prog w K mg kT 1 "is_figure" zEx (QF):=L28.of λ_ _ F=>Bj F;let DMe:ZA l.prog w K mg kT 2 "meant_at" zEf (VI):=L25.of λ_ _ F=>Cq F DSa DSq;let DNa:ZA l.prog w K mg kT 2 "number_at" zEf (UX):=L23.of λ_ _ F=>AE F T DSa DFi;let DTx:ZA l.prog w K mg kT 3 "text_at" zEf (XX):=L24.of λ_ _ F=>BP F T DSa DMe;let DKa:ZA l.prog w K mg kT 10 "key_at" zEn (XU 4):=FJ T L22 L26 DSa DNa DTx 4;let DRm:ZA l.prog w K mg kT 11 "read_many" ["text"] (YY):=L21.of λ_ _ F=>ZGV F T DKa;let DPa:ZA l.prog w K mg kT 1 "pairs_of" zFa (Xy):=L35.of λ_ _ F=>A4 F T;let DWo:ZA l.prog w K mg kT 1 "words_of" zFg (Xv):=L30.of λ_ _ F=>ZKq F T;let DNf:ZA l.prog w K mg kT 1 "number_for" zEk (Yv):=L32.of λ_ _ F=>Aw F;let DRr:ZA l.prog w K mg kT 2 "read_root" zEk (Z8):=L31.of λ_ _ F=>AO F DNf;let DRl:ZA l.prog w K mg kT 12 "read_leaf" zE3 (Yb kP kQ):=L34.of λ_ _ F=>ZGM F SHx MPl DPa DRm;let DRs:ZA l.prog w K mg kT 11 "read_stem" zE4 (Yg kP kQ):=L36.of λ_ _ F=>An F SHx MHd MPs;let DRt:ZA l.prog w K mg kT 13 "read_twig" zEq (Z9 kP kQ):=L33.of λ_ _ F=>A6 F DRl DRs DNf;let DHe:ZA l.prog w K mg kT 3 "held" zEc (VG kP kQ):=L18.of λ_ _ F=>BN F SHx MHd;let DCk:ZA l.prog w K mg kT 4 "check_root" zEc (YR kP kQ):=L17.of λ_ _ F=>Aq F SHx MCh;let DMB:Kq l.prog w K mg kT 5 CTb zEt (WR kP kQ CTb):=by let⟨f,fd,v,fn,F⟩:=IjB.ex;exact⟨f,fd,⟨mkCTb,v,fn,kpCTb⟩,ZNz F TBx DCk,F.binds.1,F.binds.2⟩
 let MDr:ZH l.prog w K mg kT ZV 12 kP "drop_unheld" zEa (Y5 9 kP kQ):=GC Mm27 SHx MHo MTo DIs 9;let MLg:ZH l.prog w K mg kT ZV 13 kP "let_go" zEa (VP kP kQ):=Mm26.of λ_ _ F=>ZOg F SHx MCh MTo MDr;let DRe:ZA l.prog w K mg kT 14 "release" zEc (YV kP kQ):=L19.of λ_ _ F=>BC F SHx MLg;let DGu:ZA l.prog w K mg kT 15 "give_up" zE1 (XW kP kQ):=L37.of λ_ _ F=>ZJo F SHx MHo DRe;let TCl:ZH l.prog w K mg kT ZV 15 CTb "clear" zEo (XZ kP kQ CTb):=Mt1.of λ_ _ F=>ZJI F TBx DRe;let DIl:ZA l.prog w K mg kT 1 "is_leaf" zFb (Y0):=L15.of λ_ _ F=>ZJc F;let DRc:ZA l.prog w K mg kT 25 "reached" zEc (YA 20 kP kQ):=L16.of λ_ _ F=>(Dq F SHx MLq DIl (EZ L16 SHx MLq DIl 20)).mono (by decide)
 let DRo:ZA l.prog w K mg kT 26 "rows_of" zEc (XY kP kQ):=L14.of λ_ _ F=>ZIs F DIl DRc;let TRo:ZH l.prog w K mg kT ZV 27 CTb "rows" zEo (Xw kP kQ CTb):=Mt2.of λ_ _ F=>ZLm F TBx DRo;let MNu:ZH l.prog w K mg kT ZV 1 kP "numbers" zEo (Y3 kP kQ):=Mm28.of λ_ _ F=>ZIY F T SHx;let MMa:ZH l.prog w K mg kT ZV 1 kP "many" zEo (WD kP kQ):=Mm29.of λ_ _ F=>BT F T SHx;let DRd:ZA l.prog w K mg kT 16 "read_shelf" zEs (YQ kP kQ CTb):=L29.of λ_ _ F=>ZFZ F T SHx TBx DMS DMB DHe DRr DWo DRt DGu;let DK:ZA l.prog w K mg kT 6 "_law_key" zEh (Xp 4):=Fo T L42 DP DG DT 4;let DR4:ZA l.prog w K mg kT 5 "_law_rank" zEl (Yz 4):=Ku T L43 4;let DR5:ZA l.prog w K mg kT 6 "_law_rank" zEl (Yz 5):=Ku T L43 5;let DKs:ZA l.prog w K mg kT 9 "_law_keys" zEd (V4):=L44.of λ_ _ F=>ZNp F T DK DR5;let DV:ZA l.prog w K mg kT 7 "_law_value" zEi (VT):=L47.of λ_ _ F=>ZLM F DP DK;let DAl:ZA l.prog w K mg kT 7 "_law_alike" zEe (Ys 6):=EM T L45 6;let DRa:ZA l.prog w K mg kT 8 "_law_rows_alike" zEe (Yq):=L46.of λ_ _ F=>AT F T DAl;let DLs:ZA l.prog w K mg kT 5 "_law_show" zEl (WL 4):=Fb T L48 4;let DTr:ZA l.prog w K mg kT 6 "_law_twig_row" zFf (Y6):=L52.of λ_ _ F=>ZIP F T DLs;let DEr:ZA l.prog w K mg kT 1 "_law_end_row" zFc (Xa):=L54.of λ_ _ F=>ZKF F T;let DBk:ZA l.prog w K mg kT 6 "_law_by_keys" zEw (XS):=L51.of λ_ _ F=>ZI3 F T DR4;let DBr:ZA l.prog w K mg kT 7 "_law_branches" zEp (Yh):=L50.of λ_ _ F=>ZG4 F T DP DBk DR4;let DFo:ZA l.prog w K mg kT 10 "_law_forest" zEi (XN):=L49.of λ_ _ F=>ZJB F T DP DKs DV DBr;let DEn:ZA l.prog w K mg kT 2 "_law_ends" zEu (VL):=L53.of λ_ _ F=>ZOV F T DP;let DMa:ZA l.prog w K mg kT 19 "_law_matched" zEb (YJ 10 kP kQ):=Gn T L55 SHx MLq DRa 10;let DTa:ZA l.prog w K mg kT 28 "_law_tables_right" zEg (YZ kP kQ CTb):=L56.of λ_ _ F=>AZ F T TBx (Gu xtCT) DMa TRo DRa;let DHr:ZA l.prog w K mg kT 3 "_law_held_right" zEm (YO kP kQ):=L57.of λ_ _ F=>Ab F T SHx MMa MOu MHo;exact B2 (OY (st:=Q4) l58 c58 k58) T SHx TBx (Gu xtCS) DW DFo DEn DTr DEr DRd DTa DHr TCl MNu MMa
def walk{l:sG}{q:ao}{loose:jP}{XP:(jd)->aD->Prop}{YP:ax->aD->Prop}{d:DefRec}{K:Params->zZ}(hn:l.most=some 63)(hdf:d.params.defaults=[])(hY:∀ (w:ax) (h:aD),YP w h->(K w.params).In h)(F:∀ (w:ax) (mg:jd) (fa:aj) (h:aD),(K w.params).In h->h.Ns aq mg->mg d.name=some (.ref fa) ->
   ∃ fd:ap,(∀ (s:am) (u:ai),BindsTo s fd ⟨[u],[]⟩ [("_law_script",u)])/\∀ kT:aD,(K w.params).In kT->kT.Ns aq mg->ZK l.prog w (K w.params) mg kT ZV 29 fa fd zFh (UD (K w.params))):
  PySem.W.WalkO q loose XP YP l.row.toRowW d [] (λf vs=>PySem.call f vs):=
 L2.LB (n:=63) (k:=29) (x:= "_law_script") (CX:=λ_=>ZV) (sp:=λw=>UD (K w.params)) hn (by decide) hdf ⟨rfl,by decide,by decide⟩ hY F (λ_ _ a ns hl _ hS=>⟨a,ns,Z,hS,hl,λ_=>rfl⟩) λ_ _ _ _ _ z=>z
end _T
open PySem PySem.W PyProof.Rows
def _T.bxG:List PySem.Str->(List PySem.Value->Prop)->Prop
 |[],p=>p []
 |_::j,p=>∀ a,_T.bxG j (λl=>p (a::l))
theorem _T.bxH:∀ (j:List PySem.Str) (p:List PySem.Value->Prop),_T.bxG j p->∀ us,List.length us=List.length j->p us
 |[],_,h,[],_=>h
 |_::j,p,h,a::l,e=>_T.bxH j (λl=>p (a::l)) (h a) l (Nat.succ.inj e)
local macro_rules|`(⋯)=>`(λ_ _ _ _ _ _=>_T.bxH _ _ (by(repeat intro _);exact Eq.refl _))
namespace PySem.W.Fast
local macro_rules|`(universe $x*)=>Lean.MonadRef.withRef .missing do return .node .none `null (←(x++(Array.range 1090).map λi=>Lean.mkIdent (.mkSimple s!"tw{((`PySem.Challenge).str "cw_twigmap_k92_read_holds"|>.str s!"o_{i}").hash}")).mapM λi=>`(noncomputable def $i:ident:=0))
universe tw10091980646447799865 tw10770957607936751710 tw10812102292148458088 tw11744738082094359407 tw11754418891926343001 tw1210265977626556243 tw12217673976491518477 tw12276306347150189081 tw12346565633282838755 tw13333096285605269039 tw13607798297994636870 tw13797613323480447034 tw14010823974739959931 tw14154161885702158491 tw14690812164637797246 tw14948377758185016153 tw15334343857687167845 tw15967213510152448593 tw16817781184793888426 tw16894677344053523538 tw17145778774305480278 tw18228872789310825102 tw2038411822208805304 tw222051372785862832 tw2853866718646710920 tw3225446725178989633 tw4359133993808696424 tw6155822392511975843 tw7065703983786084567 tw7162974557858568050 tw7724755137260535218 tw7760873437397338489 tw7776287190781161440 tw8086935927953503990 tw8318110501675815066 tw8577190799533495611 tw8812799428168976161 tw9184568973359639102 tw9697848104788415456 tw9858001711606131718 tw9924402805270668012 tw9929684998215397399
end PySem.W.Fast
set_option maxRecDepth 100000 in
set_option maxHeartbeats 0 in
theorem PySem.Challenge.cw_twigmap_k92_read_holds : PySem.Challenge.rw_twigmap_k92_read.Holds := by
 w_on;o_law;k_head;(case hw=>w_witness2)
 k_fill
 refine _T.walk (l:=PySem.Challenge.rw_twigmap_k92_read) Z Z (λw h Y=>PySem.W.kIn_of Y) ?qFun
 case qFun=>
  intro w mg fa h KX G hmg;refine' _T.JE KX G hmg (_T.Lv KX G ?a1 ?l1 ?c1 ?k1 ⋯) (_T.Lv KX G ?a2 ?l2 ?c2 ?k2 ⋯) (_T.Lv KX G ?a3 ?l3 ?c3 ?k3 ⋯) (_T.Lv KX G ?a4 ?l4 ?c4 ?k4 ⋯) (_T.Lv KX G ?a5 ?l5 ?c5 ?k5 ⋯) (_T.Lv KX G ?a6 ?l6 ?c6 ?k6 ⋯) (_T.Lv KX G ?a7 ?l7 ?c7 ?k7 ⋯) (_T.Lv KX G ?a8 ?l8 ?c8 ?k8 ⋯) (_T.Lv KX G ?a9 ?l9 ?c9 ?k9 ⋯) (_T.Lv KX G ?A0 ?A1 ?A2 ?A3 ⋯) (_T.Lv KX G ?A4 ?A5 ?A6 ?A7 ⋯) (_T.Lv KX G ?A8 ?A9 ?Aa ?Ab ⋯) (_T.Lv KX G ?Ac ?Ad ?Ae ?Af ⋯) (_T.Lv KX G ?Ag ?Ah ?Ai ?Aj ⋯) (_T.Lv KX G ?Ak ?Al ?Am ?An ⋯) (_T.Lv KX G ?Ao ?Ap ?Aq ?Ar ⋯) (_T.Lv KX G ?As ?At ?Au ?Av ⋯) (_T.Lv KX G ?Aw ?Ax ?Ay ?Az ⋯) (_T.Lv KX G ?B0 ?B1 ?B2 ?B3 ⋯) (_T.Lv KX G ?B4 ?B5 ?B6 ?B7 ⋯) (_T.Lv KX G ?B8 ?B9 ?Ba ?Bb ⋯) (_T.Lv KX G ?Bc ?Bd ?Be ?Bf ⋯) (_T.Lv KX G ?Bg ?Bh ?Bi ?Bj ⋯) (_T.Lv KX G ?Bk ?Bl ?Bm ?Bn ⋯) (_T.Lv KX G ?Bo ?Bp ?Bq ?Br ⋯) (_T.Lv KX G ?Bs ?Bt ?Bu ?Bv ⋯) (_T.Lv KX G ?Bw ?Bx ?By ?Bz ⋯) (_T.Lv KX G ?C0 ?C1 ?C2 ?C3 ⋯) (_T.Lv KX G ?C4 ?C5 ?C6 ?C7 ⋯) (_T.Lv KX G ?C8 ?C9 ?Ca ?Cb ⋯) (_T.Lv KX G ?Cc ?Cd ?Ce ?Cf ⋯) (_T.Lv KX G ?Cg ?Ch ?Ci ?Cj ⋯) (_T.Lv KX G ?Ck ?Cl ?Cm ?Cn ⋯) (_T.Lv KX G ?Co ?Cp ?Cq ?Cr ⋯) (_T.Lv KX G ?Cs ?Ct ?Cu ?Cv ⋯) (_T.Lv KX G ?Cw ?Cx ?Cy ?Cz ⋯) (_T.Lv KX G ?D0 ?D1 ?D2 ?D3 ⋯) (_T.Lv KX G ?D4 ?D5 ?D6 ?D7 ⋯) (_T.Lv KX G ?D8 ?D9 ?Da ?Db ⋯) (_T.Lv KX G ?Dc ?Dd ?De ?Df ⋯) (_T.Lv KX G ?Dg ?Dh ?Di ?Dj ⋯) (_T.Lv KX G ?Dk ?Dl ?Dm ?Dn ⋯) (_T.Lv KX G ?Do ?Dp ?Dq ?Dr ⋯) (_T.Lv KX G ?Ds ?Dt ?Du ?Dv ⋯) (_T.Lv KX G ?Dw ?Dx ?Dy ?Dz ⋯) (_T.Lv KX G ?E0 ?E1 ?E2 ?E3 ⋯) (_T.Lv KX G ?E4 ?E5 ?E6 ?E7 ⋯) (_T.Lv KX G ?E8 ?E9 ?Ea ?Eb ⋯) (_T.Lv KX G ?Ec ?Ed ?Ee ?Ef ⋯) (_T.Lv KX G ?Eg ?Eh ?Ei ?Ej ⋯) (_T.Lv KX G ?Ek ?El ?Em ?En ⋯) (_T.Lv KX G ?Eo ?Ep ?Eq ?Er ⋯) (_T.Lv KX G ?Es ?Et ?Eu ?Ev ⋯) (_T.Lv KX G ?Ew ?Ex ?Ey ?Ez ⋯) (_T.Lv KX G ?F0 ?F1 ?F2 ?F3 ⋯) (_T.Lv KX G ?F4 ?F5 ?F6 ?F7 ⋯) (_T.Lv KX G ?F8 ?F9 ?Fa ?Fb ⋯) ?Fc ?Fd ?Fe ?Ff ?z1 ?z2 ?z3 ?z4 ?z5 ?z6 ?z7 ?z8 ?z9 ?Fg ?Fh ?Fi ?Fj ?Fk ?Fl ?Fm ?Fn ?Fo ?Fp ?Fq ?Fr ?Fs ?Ft ?Fu ?Fv ?Fw ?Fx ?Fy (_T.Nl ?Fz ?G0 ?G1 ?G2 ?G3 ⋯) (_T.Nl ?G4 ?G5 ?G6 ?G7 ?G8 ⋯) (_T.NT ?G9 ?Ga ?Gb ?Gc ?Gd ?Ge) (_T.Nv ?Gf ?Gg ?Gh ?Gi ?Gj ⋯) (_T.Nv ?Gk ?Gl ?Gm ?Gn ?Go ⋯) (_T.Nv ?Gp ?Gq ?Gr ?Gs ?Gt ⋯) (_T.Nv ?Gu ?Gv ?Gw ?Gx ?Gy ⋯) (_T.Nv ?Gz ?H0 ?H1 ?H2 ?H3 ⋯) (_T.Nv ?H4 ?H5 ?H6 ?H7 ?H8 ⋯) (_T.Nv ?H9 ?Ha ?Hb ?Hc ?Hd ⋯) (_T.Nv ?He ?Hf ?Hg ?Hh ?Hi ⋯) (_T.Nv ?Hj ?Hk ?Hl ?Hm ?Hn ⋯) (_T.Nv ?Ho ?Hp ?Hq ?Hr ?Hs ⋯) (_T.Nv ?Ht ?Hu ?Hv ?Hw ?Hx ⋯) (_T.Nv ?Hy ?Hz ?I0 ?I1 ?I2 ⋯) (_T.Nv ?I3 ?I4 ?I5 ?I6 ?I7 ⋯) (_T.Nv ?I8 ?I9 ?Ia ?Ib ?Ic ⋯) (_T.Nv ?Id ?Ie ?If ?Ig ?Ih ⋯) (_T.Nv ?Ii ?Ij ?Ik ?Il ?Im ⋯) (_T.Nv ?In ?Io ?Ip ?Iq ?Ir ⋯) (_T.Nv ?Is ?It ?Iu ?Iv ?Iw ⋯) ?Ix ?Iy ?Iz ?J0 ?J1 ?J2 ?J3 ?J4 ?J5 ?J6 ?J7 ?J8 ?J9 ?Ja ?Jb ?Jc ?Jd ?Je ?Jf ?Jg ?Jh ?Ji ?Jj ?Jk ?Jl ?Jm ?Jn ?Jo ?Jp ?Jq ?Jr ?Js
  (case Ix|Iy|Iz|Fz|G4|G9|Gf|Gk|Gp|Gu|Gz|H4|H9|He|Hj|Ho|Ht|Hy|I3|I8|Id|Ii|In|Is=>k_is)
  (case Jr|Js=>kernel_rfl)
  all_goals try k_is
  all_goals try k_is
