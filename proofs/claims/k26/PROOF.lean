import PyProof.Rows.All
import Wide.All
import OpenK.AllK
import Wide.FinOn
import Lean
import PyProof.EqAt
import PyProof.EqKinds
import PyProof.TupleCall
import PyProof.NsDelKeeps
import PyProof.ExcBaseAll.ValueError
import KE.KIsAll
import PyProof.ExcArgsOwn
import PyProof.ExcAttrAll.ValueError
import PyProof.NeKinds
import KE.KLam
import PyProof.Rows.SumAny
import PyProof.ListMulRoad
import PyProof.FactsAll.tuple
import KE.KDictList
import PyProof.Rows.SortWalk
import KE.KEqDict
import KE.KRevIter
import PyProof.InstStoreFacts
import PyProof.ExcClass3
import PyProof.WalkInts
import PyProof.SeqI3
import KE.KSortTup
import KE.KFind
import PySem.Challenge.RW_twigmap_k26_stems_changed
open PySem renaming wpAny_bind→aa,wpAny_pure→ad,wpAny_mono→ae,wpAny_holding→af,wpAny_Call_Name_kw→ag,wpAny_standAt→ah,Value→ai,Addr→aj,Shared→ak,Program→al,FuncData→am,mainGlobals→ao,sizeLine→ap,starEach→aq,World→ar,Around→aw,bootBuiltins→ax,compareOp→ay,model→az,wpAny→aA,Stmt→aB,Heap→aC,Scope→aD,backTo→aE,codeAny→aF,eval→aG,Obj→aH,Pos→aI
universe u
def aJ{p:Prop}[Decidable p](h:¬p):decide p=false:=decide_eq_false h
def aK{p:Prop}[Decidable p](h:p):decide p=true:=decide_eq_true h
def aM{c:Prop}{h:Decidable c}(n:¬c){α:Sort u}{t e:α}:(ite c t e)=e:=if_neg n
def aO{c:Prop}{h:Decidable c}(n:c){α:Sort u}{t e:α}:(ite c t e)=t:=if_pos n
set_option Elab.async false
set_option linter.all false
set_option maxRecDepth 100000
set_option maxHeartbeats 8000000
open PySem.W renaming Frag->zZ,nsIn->zN,findIn->zD,mg_of->yZ,mroIn->yY,keepIn->yT,kitOne->yP,mg_none_of->yC,tabIn->yF,Looks->yG,typeIn->yB,fnOf->yE,CodeHd->xY,kia_one->xP,codeIn->xR,emptyDict->wZ,kla_obj->wT,instObj->wU,hasDictIn->wK,callWith_K->vS,tabObj->wL,plainGet->vX,isFn->wW,hideAll->vY,looks_findIn->tW,looks_mroIn->tX,of_hideAll->uC,envX->wB,lookIn->vK,plainOver->uH,excIn->vM,any_some->uJ,methodCall_KW->sG,makesIn->uN,OpenLaw->uO,hideAll_none->sI,plainGet_of->sM,looks_clsIn->sN,hideAll_get->sO,callWith_K0->sP,methodObj->sW,kat_cons->rS,takerIn->rW,kat_yes->rX,noTabs->tE,kla_fn->tF,kat_no->tG,kat_go->tH,KdlSrc->tI,InstAt->tJ,WalkO->tQ,cellsFrom_some->rC,looks_typeIn->rK,tail_of_in->rP
open List renaming getD_eq_getElem?_getD->zS,getElem?_eq_getElem->zV,length_map->zX,mem_cons_self->zP,mem_cons_of_mem->zH,getElem?_map->zM,size_toArray->zK,mem_of_getElem?->zC,mem_singleton->zI,getElem?_eq_some_iff->yS,all_eq_true->zF,take_of_length_le->yQ,map_map->zO,length_cons->zA,length_append->yV,mem_map->zJ,range->zR,mem_append->yX,mem_cons->zB,take_add_one->yM,map_append->yO,mem_filter->yN,mem_append_right->xW,map_cons->yI,length_singleton->xN,getElem?_append_right->wO,getElem?_append_left->wP,drop_eq_getElem_cons->wQ,mem_append_left->xD,mem_filterMap->xI,getElem_mem->xO,nodup_cons->xQ,lookup_cons->xK,length->yD,flatMap_cons->xE,mem_range->xL,exists_mem_of_length_pos->vA,eq_nil_of_length_eq_zero->vB,toArray->xS,find?_cons->xA,take_append_drop->vP,getElem?_set_ne->vQ,length_set->wV,lookup->xM,getElem?_set_self->vC,find?_eq_none->vT,getElem?_eq_none->vD,cons_lt_cons_iff->vE,nodup_append->vV,pairwise_append->vF,replicate->wM,pairwise_cons->vH,append_nil->vZ,all_map->wF,not_mem_nil->uY,mem_flatMap->uZ,any_cons->wA,not_lt_nil->vJ,map_congr_left->uD,length_pos_iff->uE,getElem_of_mem->uF,filterMap_cons->uG,map_nil->wC,filter_append->uI,ne_nil_of_length_pos->sC,mem_of_find?_eq_some->sE,length_range->uK,filter_congr->uL,filter_cons->uP,cons_append->uQ,length_filter_le->sJ,eq_nil_or_concat->sK,concat_eq_append->sL,toList_toArray->sR,length_reverse->sS,drop_succ_cons->sT,all_cons->uU,eraseIdx_eq_take_drop_succ->qM,append_assoc->rT,nil_lt_cons->rY,mem_toArray->rZ,mem_reverse->sY,length_take->sZ,dropLast_concat_getLast->qP,sum_append->tL,of_mem_zip->tM,length_nil->tN,foldl_cons->tO,find?_some->tP,Perm->vN,sum_cons->tS,pairwise_singleton->rL,length_eq_zero_iff->rM,getLast_eq_getElem->rN
open PySem.Heap renaming get?_push_of_some->zT,lt_size->zW,get?_push_size->yU,get?_update_other->yA,get?_update_self->wS,size_push->vO,SameBut->wG,get?_none_of_le->uB,get?_update_ne->sV
open Nat renaming le_refl->zY,le_of_ble_eq_true->yR,ne_of_lt->zL,lt_of_lt_of_le->yL,le_trans->zE,zero_le->yW,lt_or_ge->yH,lt_succ_self->xT,lt_of_le_of_lt->xJ,le_of_lt->xX,lt_irrefl->xG,ne_of_gt->xH,succ->xZ,lt_succ_of_lt->vW,le_succ_of_le->uX,le_succ->wR,le_of_eq->wD,le_of_not_lt->uS,not_lt->wE,sub_lt_sub_left->sX,sub_le->vI,min_le_right->tK,add_le_add->tR
open Bool renaming false_ne_true->zU,and_eq_true->zQ,eq_iff_iff->xB,false_eq_true->vU,eq_false_iff->uM,false_and->uT,true_and->uV,not_eq_true'->rV
open PySem.F renaming plainAttrs_list->yJ,type_list_append->xU,slot_list_append->xV,plain_max_loop->wJ,type_list_clear->tY,slot_list_clear->tZ,slot_tuple_mul->uA,entry_max_loop->sF,slot_dict_get->sH,excBase_ValueError->qN,store_ValueError->qQ,args_tuple_mul_2->qR,args_tuple_add_2->qU,type_list_index->qV,slot_tuple_rmul->qW,slot_list_index->qX,plain_list_iadd->qY,entry_tuple_mul->qZ,entry_tuple_add->rA,args_dict_get_3->rB,slot_tuple_add->rD,entry_dict_get->rE,slot_int_rmul->rH
open Option renaming map_eq_some_iff->yK,some->zG,isSome_iff_exists->sB,map_some->uR,ne_none_iff_exists'->qO,bind_eq_some_iff->rF,map_eq_none_iff->rJ,none->tV
open Array renaming getElem?_eq_some_iff->wH,getElem?_eq_getElem->wI,length_toList->vR,append_assoc->vG,toList_append->sQ,toList->tU,getElem?_toList->rO,toArray_toList->rQ,mem_toList_iff->rR
open PySem.Str renaming ofString->wX
open Int renaming emod_lt_of_pos->uW,emod_nonneg->vL,toNat->wY,fdiv_eq_ediv_of_nonneg->rG
local macro_rules|`(tactic|exists $e,*)=>`(tactic|refine ⟨$e,*, ?_⟩)
def Z{α:Sort u}{a:α}:a=a:=rfl
local macro_rules|`(∅)=>`(by lia)
local macro_rules|`(nofun)=>`(by lia (splits:=8))
local macro_rules|`(tactic|let $d:letDecl)=>let n:=d.raw[0];let l(s:Lean.Syntax)k:Lean.Syntax:=.node .none `Lean.Parser.Tactic.rcasesPatLo #[.node .none `Lean.Parser.Tactic.rcasesPatMed #[Lean.mkNullNode #[.node .none k s.getArgs]],Lean.mkNullNode];if n.getKind== ``Lean.Parser.Term.letPatDecl then let m:Lean.TSyntax `Lean.Parser.Tactic.rcasesPatMed:=⟨(n[0].rewriteBottomUp λs=>match s.getKind with|`ident=>l (Lean.mkNullNode #[s]) `Lean.Parser.Tactic.rcasesPat.one|`Lean.Parser.Term.hole=>l s `Lean.Parser.Tactic.rcasesPat.ignore|`Lean.Parser.Term.anonymousCtor=>l s `Lean.Parser.Tactic.rcasesPat.tuple|_=>s)[0]⟩;`(tactic|obtain $m:rcasesPatMed:=$(⟨n[4]⟩)) else `(tactic|have $d:letDecl)
abbrev ja:=PySem.Value->PySem.Shared->Prop
abbrev jb:=PySem.Str->Option PySem.Value
abbrev jc:=Option PySem.Value
abbrev jd:=List PySem.Value
abbrev zEa:List PySem.Str:=["self","number"]
abbrev zEb:List PySem.Str:=["_law_twigs","_law_number"]
abbrev zEc:List PySem.Str:=["_law_found","_law_due"]
abbrev zEd:List PySem.Str:=["_law_well_here","_law_number","_law_twigs","_law_holds","_law_grid_here"]
abbrev zEe:List PySem.Str:=["_law_well_here","_law_many"]
abbrev zEf:List PySem.Str:=["_law_well_here","_law_state"]
abbrev zEg:List PySem.Str:=["_law_twigs","_law_holds","_law_number","_law_numbers"]
abbrev zEh:List PySem.Str:=["_law_twigs","_law_numbers","_law_high"]
abbrev zEi:List PySem.Str:=["_law_well_here","_law_twigs","_law_holds","_law_grid_here"]
abbrev zEj:List PySem.Str:=["self","numbers"]
abbrev zEk:List PySem.Str:=["_law_well_here","_law_some"]
abbrev zEl:List PySem.Str:=["_law_twigs","_law_holds","_law_number"]
abbrev zEm:List PySem.Str:=["self","number","numbers"]
abbrev zEn:List PySem.Str:=["self","stem","branches"]
abbrev zEo:List PySem.Str:=["_law_well_here","_law_state","_law_block"]
abbrev zEp:List PySem.Str:=["_law_holds","_law_numbers"]
abbrev zEq:List PySem.Str:=["self"]
abbrev zEr:List PySem.Str:=["_law_twigs","_law_number","_law_what"]
abbrev zEs:List PySem.Str:=["_law_shelf","_law_twigs","_law_holds"]
abbrev zEt:List PySem.Str:=["_law_well_here","_law_grid_here","_law_block"]
abbrev zEu:List PySem.Str:=["_law_well_here","_law_leaves","_law_stems"]
abbrev zEv:List PySem.Str:=["_law_one","_law_other"]
abbrev zEw:List PySem.Str:=["thing","room"]
abbrev zEx:List PySem.Str:=["self","things","tag"]
abbrev zEy:List PySem.Str:=["_law_shelf","_law_number","_law_handed"]
abbrev zEz:List PySem.Str:=["self","things","label"]
abbrev zE0:List PySem.Str:=["_law_script","_law_k"]
abbrev zE1:List PySem.Str:=["rows"]
abbrev zE2:List PySem.Str:=["_law_call"]
abbrev zE3:List PySem.Str:=["self","road","label"]
abbrev zE4:List PySem.Str:=["label","following"]
abbrev zE5:List PySem.Str:=["_law_key"]
abbrev zE6:List PySem.Str:=["one","other"]
abbrev zE7:List PySem.Str:=["thing"]
abbrev zE8:List PySem.Str:=["_law_shelf","_law_handed"]
abbrev zE9:List PySem.Str:=["_law_well_here"]
abbrev zFa:List PySem.Str:=["self","number","twig"]
abbrev zFb:List PySem.Str:=["key"]
abbrev zFc:List PySem.Str:=["labels"]
abbrev zFd:List PySem.Str:=["number"]
abbrev zFe:List PySem.Str:=["self","labels"]
abbrev zFf:List PySem.Str:=["self","rows"]
abbrev zFg:List PySem.Str:=["_law_script"]
abbrev jp:=List Nat
abbrev js:=List PySem.Str
abbrev ju:=List (aj×aH)
abbrev jv:=List aj
abbrev jw:=List Int
abbrev jy:=Option aj
abbrev jz:=List PySem.Expr
abbrev jA:=Array ai
abbrev jB:=List PySem.Env
abbrev jC:=Array Nat
abbrev jE:=List (PySem.Str×aj)
abbrev jG:=Option Int
abbrev jK:=List (PySem.Str×ai)
abbrev jL:=List (Int×Int×Int)
abbrev jM:=List aB
abbrev jO:=Option Nat
abbrev jP:=Option PySem.Expr
abbrev jQ:=List Bool
abbrev jT:=Option (aj×aj)
namespace L2
open PySem PySem.Spec PyProof.Rows
abbrev ZR:=Sum Int Str
abbrev jF:=List ZR
abbrev jS:=List (ZR×ai)
def Po:ZR->ai->Bool
 | .inl k,v=>Value.isInt k v
 | .inr x,v=>Value.isStrOf x v
def ZQT(w:ar):ZR->Int
 | .inl k=>hashInt k
 | .inr x=>hashStr w x
def QS:∀{k:ZR}{v:ai},Po k v=true->(∃ i t,k=Sum.inl i/\v=Value.int i t)\/(∃ x t,k=Sum.inr x/\v=Value.str x t)
 | .inl i,v,h=>by
  let⟨t,e⟩:=Value.isInt_shape (k:=i) (v:=v) h;exact .inl ⟨i,t,Z,e⟩
 | .inr x,v,h=>by
  let⟨t,e⟩:=Value.isStrOf_shape (x:=x) (v:=v) h;exact .inr ⟨x,t,Z,e⟩
def ZKB(i:Int)(t:Tok):Po (.inl i) (.int i t)=true:=by simp[Po,Value.isInt]
def ZIn(x:Str)(t:Tok):Po (.inr x) (.str x t)=true:=by simp[Po,Value.isStrOf]
def E8(a b:Int):decide ((Sum.inl a:ZR)=Sum.inl b)=(a==b):=by
 by_cases e:a=b
 ·subst e;simp
 ·let h:¬ (Sum.inl a:ZR)=Sum.inl b:=λq=>e (Sum.inl.inj q);rw[aJ h];exact(beq_eq_false_iff_ne.mpr e).symm
def ZOo(a b:Str):decide ((Sum.inr a:ZR)=Sum.inr b)=decide (a=b):=by
 by_cases e:a=b
 ·subst e;simp
 ·let h:¬ (Sum.inr a:ZR)=Sum.inr b:=λq=>e (Sum.inr.inj q);rw[aJ h,aJ e]
def ZOu(a:Int)(b:Str):decide ((Sum.inl a:ZR)=Sum.inr b)=false:=aJ (λq=>nomatch q)
def ZOx(a:Str)(b:Int):decide ((Sum.inr a:ZR)=Sum.inl b)=false:=aJ (λq=>nomatch q)
def Wj(c:al)(w:ar):PySem.KeyKind c w ZR where
 is:=Po
 hash:=ZQT w
 inj:=λv a b g f=>by
  rcases QS g with ⟨i,t,rfl,rfl⟩ | ⟨x,t,rfl,rfl⟩
  ·rcases QS f with ⟨j,u,rfl,e⟩ | ⟨y,u,rfl,e⟩
   ·injection e with e1 _;rw[e1]
   ·exact nomatch e
  ·rcases QS f with ⟨j,u,rfl,e⟩ | ⟨y,u,rfl,e⟩
   ·exact nomatch e
   ·injection e with e1 _;rw[e1]
 byValue:=λk v h=>by
  rcases QS h with ⟨i,t,rfl,rfl⟩ | ⟨x,t,rfl,rfl⟩ <;> rfl
 pyHash:=λd h=>by
  rcases QS d with ⟨i,t,rfl,rfl⟩ | ⟨x,t,rfl,rfl⟩
  ·exact wpAny_pyHash_int h
  ·exact wpAny_pyHash_str h
 eqBool:=λl d h=>by
  rcases QS l with ⟨i,t,rfl,rfl⟩ | ⟨x,t,rfl,rfl⟩
  ·rcases QS d with ⟨j,u,rfl,rfl⟩ | ⟨y,u,rfl,rfl⟩
   ·rw[E8] at h;exact wpAny_eqBool_int h
   ·rw[ZOu] at h;exact SeqAt.EqAt.int_str i t y u _ _ _ _ h
  ·rcases QS d with ⟨j,u,rfl,rfl⟩ | ⟨y,u,rfl,rfl⟩
   ·rw[ZOx] at h;exact SeqAt.EqAt.str_int x t j u _ _ _ _ h
   ·rw[ZOo] at h;exact wpAny_eqBool_str h
 «strs» :=λk x t v h=>by
  rcases QS h with ⟨i,u,rfl,e⟩ | ⟨y,u,rfl,e⟩
  ·exact nomatch e
  ·injection e with e1 _;subst e1;cases v <;> rfl
def D7(a:al)(w:ar)(i:Int)(t:Tok):(Wj a w).is (.inl i) (.int i t)=true:=ZKB i t
def ZGm(a:al)(w:ar)(x:Str)(t:Tok):(Wj a w).is (.inr x) (.str x t)=true:=ZIn x t
inductive V where
 | non | bl (b:Bool) | int (i:Int) | str (x:Str) | byt (b:Array UInt8) | flt (b:UInt64) | ref (a:aj) | ty (n:String)
 deriving DecidableEq
abbrev je:=List V
abbrev jf:=Option V
def ZU:V->ai->Prop
 | .non,u=>u=Value.none
 | .bl b,u=>u=Value.bool b
 | .int i,u=>∃ t,u=Value.int i t
 | .str x,u=>∃ t,u=Value.str x t
 | .byt b,u=>∃ t,u=Value.bytes b t
 | .flt b,u=>∃ t,u=Value.float b t
 | .ref a,u=>u=Value.ref a
 | .ty n,u=>u=Value.type n
abbrev ZQ:je->jd->Prop:=Paired ZU
def ZQ.length{b:je}{a:jd}(r:ZQ b a):b.length=a.length:=Paired.length r
def ZQ.get:∀{b:je}{a:jd}{i:Nat}{x:V},ZQ b a->b[i]? = some x->∃ u,a[i]? = some u/\ZU x u
 | _,_,_,_,.nil,e=>by simp at e
 | _,_,0,_,.cons r _,e=>by simp at e;subst e;exact⟨_,Z,r⟩
 | _,_,i+1,x,.cons _ t,e=>by
  let⟨u,c,d⟩:=ZQ.get (i:=i) (x:=x) t (by simpa using e)
  exact⟨u,by simpa using c,d⟩
def ZQ.set{x:V}{u:ai}(r:ZU x u):∀{b:je}{a:jd}(i:Nat),ZQ b a->ZQ (b.set i x) (a.set i u)
 | _,_,_,.nil=>.nil
 | _,_,0,.cons _ t=>.cons r t
 | _,_,i+1,.cons q t=>.cons q (ZQ.set r i t)
def ZQ.append:∀{c d:je}{a b:jd},ZQ c a->ZQ d b->ZQ (c++d) (a++b):=by intro _ _ _ _ h g;induction h with
 | nil=>exact g
 | cons r _ e=>exact .cons r e
def ZQ.take:∀{b:je}{a:jd}(n:Nat),ZQ b a->ZQ (b.take n) (a.take n)
 | _,_,0,_=>.nil
 | _,_,_+1,.nil=>.nil
 | _,_,n+1,.cons r t=>.cons r (ZQ.take n t)
def ZQ.drop:∀{b:je}{a:jd}(n:Nat),ZQ b a->ZQ (b.drop n) (a.drop n)
 | _,_,0,r=>r
 | _,_,_+1,.nil=>.nil
 | _,_,n+1,.cons _ t=>ZQ.drop n t
def Yh:jf->jc->Prop
 | some v,some u=>ZU v u
 | none,none=>True
 | _,_=>False
def KV{a:Type}:List (a×V)->List (a×ai)->Prop:=Paired fun(p:a×V)(q:a×ai)=>p.1=q.1/\ZU p.2 q.2
def kV:ZR->V
 | .inl i=>.int i
 | .inr x=>.str x
inductive HO where
 | lst (xs:je)
 | tup (xs:je)
 | dK (kvs:List (ZR×V)) | dT (kvs:List (jF×V))
 | set (S:Int->Bool) (n:Nat)
 | ins (C dx:aj) (fs:List (Str×V))
 | own (x:aj)
 | xd (fs:List (Str×V))
 | met (f x:aj)
 | rng (lo hi:Int)
 | frz (o:aH) (u:HO)
 | tbl (ps:jA)
 | ext (φ:aC->Prop)
abbrev Hp:=aj->Option HO
def upd(H:Hp)(a:aj)(o:HO):Hp:=λb=>if b=a then some o else H b
def ZP{H:Hp}{a:aj}{o:HO}:upd H a o a=some o:=by unfold upd;rw[aO rfl]
def ZO{H:Hp}{a b:aj}{o:HO}(h:b≠a):upd H a o b=H b:=by unfold upd;rw[aM h]
def Oy{H:Hp}{a:aj}{o u:HO}:upd (upd H a o) a u=upd H a u:=by
 funext b;unfold upd;split <;> rfl
def ZD{H:Hp}{a b:aj}{o u:HO}(h:H a=some o)(c:H b=some u)(d:o≠u:=by intro z;cases z):a≠b:=by
 intro e;subst e;rw[h] at c;exact d (zG.inj c)
def ZW{H:Hp}{a b:aj}{o:HO}(h:H a=some o)(c:H b=none):a≠b:=by
 intro e;subst e;rw[h] at c;cases c
section
variable(P:al)(w:ar)
def Zf(H:Hp)(h:aC)(a:aj):HO->Prop
 | .lst c=>c.length<=ap/\∃(b:jd)(n:Nat),ZQ c b/\h.get? a=some { cls:=.type "list",data:=.seq b.toArray n }
 | .tup c=>c.length<=ap/\∃ b:jd,ZQ c b/\IsTup h a b.toArray
 | .dK kvs=>kvs.length<=ap/\(a==sysModules)=false/\∃ l,KV kvs l/\h.DictOf (Wj P w) a l
 | .dT kvs=>kvs.length<=ap/\(a==sysModules)=false/\∃ c:List (jF×aj×ai),
   Paired (fun(p:jF×V)(q:jF×aj×ai)=>p.1=q.1/\H q.2.1=some (.tup (p.1.map kV))/\ZU p.2 q.2.2) kvs c /\
   ∃ o i m,h.get? a=some o/\o.ExactDict/\o.data=.dict i m/\i.toList=c.map (entryOfKey (tupleKind (Wj P w)))/\(c.map (·.1)).Nodup
 | .set S n=>h.SetOf (intKind P w) a S n
 | .ins C g e=>H g=some (.own a)/\e.length<=1000/\g≠a/\h.get? a=some (wU C g) /\
   ∃ d,h.Ns1 g d/\(∀ f,Yh (e.lookup f) (d f))/\PySem.Within d (e.map (·.1))
 | .own _=>∃ o,h.get? a=some o
 | .xd e=>∃ d,h.Ns1 a d/\∀ f,Yh (e.lookup f) (d f)
 | .rng lo r=>∃ t u v,h.get? a=some { cls:=.type "range",data:=.fields #[.int lo t,.int r u,.int 1 v] }
 | .frz o u=>h.get? a=some o/\Zf H h a u
 | .tbl ps=>h.get? a=some { cls:=.none,data:=.fields ps }
 | .met f x=>h.get? a=some (sW (.ref f) (.ref x))
 | .ext φ=>φ h/\(∃ o,h.get? a=some o)/\∀ j k:aC,φ j->(∀ o,j.get? a=some o->k.get? a=some o)->φ k
def YV(H:Hp)(h:aC):Prop:=∀ a o,H a=some o->Zf P w H h a o
end
section
variable{P:al}{w:ar}{H H':Hp}{h h':aC}{a:aj}{o:HO}
def Zf.lt(x:Zf P w H h a o):a<h.objs.size:=by
 cases o with
 | lst d=>let⟨_,_,_,_,e⟩:=x;exact zW e
 | tup d=>let⟨_,_,_,p⟩:=x;exact p.lt
 | dK b=>let⟨_,_,_,_,o,_,_,e,_⟩:=x;exact zW e
 | dT b=>let⟨_,_,_,_,o,_,_,e,_⟩:=x;exact zW e
 | set S n=>let⟨o,_,_,_,e,_⟩:=x;exact zW e
 | ins C g c=>let⟨_,_,_,e,_⟩:=x;exact zW e
 | own y=>let⟨_,e⟩:=x;exact zW e
 | xd c=>let⟨_,⟨_,_,_,e,_⟩,_⟩:=x;exact zW e
 | rng j i=>let⟨_,_,_,e⟩:=x;exact zW e
 | frz k u=>let⟨e,_⟩:=x;exact zW e
 | tbl l=>exact zW (show h.get? a=some _ from x)
 | met f y=>exact zW (show h.get? a=some _ from x)
 | ext m=>let⟨_,⟨_,e⟩,_⟩:=x;exact zW e
def Paired.mapP{e g:Type}{F G:e->g->Prop}:∀{c:List e}{d:List g},Paired F c d->(∀ a b,F a b->G a b)->Paired G c d:=by intro _ _ h f;induction h with
 | nil=>exact .nil
 | cons r _ i=>exact .cons (f _ _ r) i
def Zf.stay(x:Zf P w H h a o)(k:∀ b u,(b=a\/H b=some (.own a))->h.get? b=some u->h'.get? b=some u)(I:∀ b,H b=some (.own a)->H' b=some (.own a))(J:∀ b m,H b=some (.tup m)->H' b=some (.tup m)):Zf P w H' h' a o:=by
 induction o with
 | lst m=>let⟨z,l,n,r,e⟩:=x;exact⟨z,l,n,r,k _ _ (.inl rfl) e⟩
 | tup m=>let⟨z,l,r,g,e,c⟩:=x;exact⟨z,l,r,g,k _ _ (.inl rfl) e,c⟩
 | dK s=>let⟨z,y,M,r,g,j,i,e,c⟩:=x;exact⟨z,y,M,r,g,j,i,k _ _ (.inl rfl) e,c⟩
 | dT s=>
  let⟨z,y,m,r,g,j,i,e,c⟩:=x;exact⟨z,y,m,Paired.mapP r λp q z=>⟨z.1,J _ _ z.2.1,z.2.2⟩,g,j,i,k _ _ (.inl rfl) e,c⟩
 | set S n=>let⟨g,j,i,t,e,c⟩:=x;exact⟨g,j,i,t,k _ _ (.inl rfl) e,c⟩
 | ins C N G=>
  let⟨d,z,L,e,A,⟨B,j,i,F,c⟩,r⟩:=x;exact⟨I _ d,z,L,k _ _ (.inl rfl) e,A,⟨B,j,i,k _ _ (.inr d) F,c⟩,r⟩
 | own y=>let⟨g,e⟩:=x;exact⟨g,k _ _ (.inl rfl) e⟩
 | xd G=>let⟨A,⟨B,j,i,e,c⟩,r⟩:=x;exact⟨A,⟨B,j,i,k _ _ (.inl rfl) e,c⟩,r⟩
 | rng Q O=>let⟨t,u,v,e⟩:=x;exact⟨t,u,v,k _ _ (.inl rfl) e⟩
 | frz g u K=>let⟨e,q⟩:=x;exact⟨k _ _ (.inl rfl) e,K q⟩
 | tbl D=>
  let e:h.get? a=some { cls:=.none,data:=.fields D }:=x;show h'.get? a=some { cls:=.none,data:=.fields D };exact k a _ (.inl rfl) e
 | met f y=>
  let e:h.get? a=some (sW (.ref f) (.ref y)):=x;show h'.get? a=some (sW (.ref f) (.ref y));exact k a _ (.inl rfl) e
 | ext R=>let⟨p,⟨o,e⟩,E⟩:=x;exact⟨E _ _ p λo q=>k _ _ (.inl rfl) q,⟨o,k _ _ (.inl rfl) e⟩,E⟩
def YV.lt(x:YV P w H h)(e:H a=some o):a<h.objs.size:=(x a o e).lt
def YV.fresh(x:YV P w H h)(e:h.objs.size<=a):H a=none:=by
 cases q:H a with
 | none=>rfl
 | some u=>exact absurd (yL (x.lt q) e) (xG _)
def YV.kept(x:YV P w H h)(k:∀ b u,h.get? b=some u->h'.get? b=some u):YV P w H h':=λa o e=>
 (x a o e).stay (λb u _ q=>k b u q) (λ_ q=>q) λ_ _ q=>q
def YV.laid(x:YV P w H h)(k:∀ b u,h.get? b=some u->h'.get? b=some u)(i:h.objs.size<=a)(d:Zf P w (upd H a o) h' a o):YV P w (upd H a o) h':=λb u e=>by
 let g:=x.fresh i;by_cases f:b=a
 ·subst f;rw[ZP] at e;cases e;exact d
 ·rw[ZO f] at e;exact(x b u e).stay (λc v _ q=>k c v q) (λc q=>by rw[ZO (ZW q g)];exact q) λc j q=>by rw[ZO (ZW q g)];exact q
end
def Rd(H:Hp)(a:aj)(u:HO):Prop:=H a=some u\/∃ o,H a=some (.frz o u)
def Rd.ok{P:al}{w:ar}{H:Hp}{h:aC}{a:aj}{u:HO}(r:Rd H a u)(x:YV P w H h):Zf P w H h a u:=by
 rcases r with r | ⟨o,r⟩
 ·exact x a u r
 ·let⟨_,q⟩:=x a _ r;exact q
def N7:Option HO->Prop
 | some (.lst _)=>True
 | some (.dK _)=>True
 | some (.dT _)=>True
 | some (.set _ _)=>True
 | some (.ins _ _ _)=>True
 | some (.ext _)=>True
 | _=>False
section
variable{P:al}{w:ar}{H:Hp}{h h':aC}{x e:aj}{o':HO}
def YV.write(t:YV P w H h)(j:N7 (H x))(o:e=x\/H e=some (.own x))(k:∀ b u,b≠e->h.get? b=some u->h'.get? b=some u)(m:∃ u,h'.get? e=some u)(n:Zf P w (upd H x o') h' x o'):YV P w (upd H x o') h':=λb u q=>by
 let d:∀ c y,H c=some (.own y)->c≠x:=λc y r z=>by subst z;rw[r] at j;exact j
 let f:∀ c l,H c=some (.tup l)->c≠x:=λc l r z=>by subst z;rw[r] at j;exact j
 by_cases g:b=x
 ·subst g;rw[ZP] at q;cases q;exact n
 ·rw[ZO g] at q;by_cases a:b=e
  ·let p:H b=some (.own x):=by
    rcases o with z | z
    ·exact absurd (a.trans z) g
    ·rw[a];exact z
   rw[q] at p;cases p;let⟨v,s⟩:=m;exact⟨v,by rw[a];exact s⟩
  ·refine(t b u q).stay (λc v i r=>k c v ?_ r) (λc r=>by rw[ZO (d c b r)];exact r) λc l r=>by rw[ZO (f c l r)];exact r
   rcases i with rfl | i
   ·exact a
   ·rintro rfl;rcases o with z | z
    ·exact d c b i z
    ·rw[i] at z;cases z;exact g Z
end
structure Un(fs ex:jv)(H H':Hp)(h h':aC):Prop where
 keep:∀ b o,h.get? b=some o->H b=none->b∉fs->b∉ex->h'.get? b=some o
 slot:∀ b o,h.get? b=some o->H b=none->b∈fs->b∉ex->∃ sl,h'.get? b=some { o with slots:=sl }
 free:∀ b o,h.get? b=some o->H b=none->b∉ex->H' b=none
 there:∀ b o,h.get? b=some o->b∉ex->∃ o',h'.get? b=some o'
 tups:∀ b xs,H b=some (.tup xs)->H' b=some (.tup xs)
 frzs:∀ b o u,H b=some (.frz o u)->H' b=some (.frz o u)
 tbls:∀ b ps,H b=some (.tbl ps)->∃ more,H' b=some (.tbl (ps++more))
section
variable{fs fs' ex ex':jv}{H H1 H2:Hp}{h h1 h2 h':aC}{a x e:aj}{o:HO}
def Un.any(u:Un fs ex H H1 h h1){b:aj}{c:aH}(q:h.get? b=some c)(n:H b=none)(f:b∉ex):∃ g,h1.get? b=some { c with slots:=g }:=by
 by_cases d:b∈fs
 ·exact u.slot b c q n d f
 ·exact⟨c.slots,u.keep b c q n d f⟩
def Un.kept(k:∀ b u,h.get? b=some u->h'.get? b=some u):Un fs ex H H h h':=
 ⟨λb c q _ _ _=>k b c q,λb c q _ _ _=>⟨c.slots,k b c q⟩,λ_ _ _ n _=>n,λb c q _=>⟨c,k b c q⟩,λ_ _ q=>q,λ_ _ _ q=>q,λ_ d q=>⟨#[],by rw[q];simp⟩⟩
def Un.refl:Un fs ex H H h h:=Un.kept λ_ _ q=>q
def Un.laid(k:∀ b u,h.get? b=some u->h'.get? b=some u)(d:h.objs.size<=a)(c:H a=none):Un fs ex H (upd H a o) h h' where
 keep:=λb u q _ _ _=>k b u q
 slot:=λb u q _ _ _=>⟨u.slots,k b u q⟩
 free:=λb u q n _=>by rw[ZO (zL (yL (zW q) d))];exact n
 there:=λb u q _=>⟨u,k b u q⟩
 tups:=λb f q=>by rw[ZO (ZW q c)];exact q
 frzs:=λb u f q=>by rw[ZO (ZW q c)];exact q
 tbls:=λb g q=>⟨#[],by rw[ZO (ZW q c),q];simp⟩
def Un.write(d:N7 (H x))(l:e=x\/H e=some (.own x))(k:∀ b u,b≠e->h.get? b=some u->h'.get? b=some u)(f:∃ u,h'.get? e=some u):Un fs ex H (upd H x o) h h':=by
 let j:∀ b,H b=none->b≠x:=λb n z=>by subst z;rw[n] at d;exact d
 let i:∀ b,H b=none->b≠e:=λb n z=>by
  subst z;rcases l with r | r
  ·exact j b n r
  ·rw[n] at r;cases r
 let g:∀ b u,H b=some u->¬ N7 (some u)->b≠x:=λb u q m z=>by subst z;rw[q] at d;exact m d
 refine⟨λb u q n _ _=>k b u (i b n) q,λb u q n _ _=>⟨u.slots,k b u (i b n) q⟩,λb u q n _=>by rw[ZO (j b n)];exact n,λb u q _=>?_,
  λb p q=>by rw[ZO (g b _ q λz=>z)];exact q,λb u p q=>by rw[ZO (g b _ q λz=>z)];exact q,λb s q=>⟨#[],by rw[ZO (g b _ q λz=>z),q];simp⟩⟩
 by_cases c:b=e
 ·subst c;exact f
 ·exact⟨u,k b u c q⟩
end
def LI(h:aC)(H:Hp):List Addr:=(zR h.objs.size).filter λa=>(H a).isSome
def Vr(h:aC)(H:Hp):Heap:=vY h (LI h H)
def F8(h:aC)(H:Hp):(Vr h H).objs.size=h.objs.size:=PySem.W.hideAll_size _ _
def GQ{h:aC}{H:Hp}{b:aj}{o:aH}(e:h.get? b=some o)(n:H b=none):(Vr h H).get? b=some o:=
 sO _ e λa=>by
  let q:(H b).isSome=true:=(yN.mp a).2;rw[n] at q;simp at q
def Hj{h:aC}{H:Hp}{b:aj}{o:aH}(e:(Vr h H).get? b=some o):h.get? b=some o/\H b=none:=by
 let a:h.get? b=some o:=uC (LI h H) e;exists a
 cases q:H b with
 | none=>rfl
 | some x=>
  let c:b∈LI h H:=yN.mpr ⟨xL.mpr (zW a),by simp[q]⟩
  let z:(Vr h H).get? b=none:=sI (LI h H) c;rw[z] at e;cases e
def D1(g h:aC)(L:aj):ju:=(zR h.objs.size).filterMap λa=>if a=L\/(g.get? a).isSome=true then none else (h.get? a).map λo=>(a,o)
def rest(g h:aC)(L d:aj):ju:=(D1 g h L).filter λp=>decide (p.1≠d)
structure Mod(K:zZ)(mg:jb)(kf:aC):Prop where
 kin:K.In kf
 glob:kf.Ns ao mg
 blt:∃ mb,kf.Ns builtinsNs mb/\∀ x:Str,x ≠ "__name__"->mb x=ax x
 nolimit:kf.NoLimit
structure Cx where
 prog:al
 w:ar
 K:zZ
 mg:jb
 base:aC
 A:aw
 N:js
 s₀:ak
 H₀:Hp
 env:Env
 outer:jB
 stack:jB
 ex:jv
 fn:Str->Bool
 calm:Bool
 pn:ju
 xe:ja
def frs(l:jB):List Addr:=l.filterMap (·.frame)
abbrev Cx.fs(X:Cx):List Addr:=frs X.outer
def Lh(a:aD)(x:Str):Prop:=a.names.lookup x=some .local\/a.names.lookup x=some .cell\/a.names.lookup x=some .free
def ND(a:aD)(x:Str):Prop:=a.names.lookup x=some .local\/a.names.lookup x=some .cell
def AU(a:Env)(h:aC)(m:jb)(x:Str)(u:ai):Prop:=
 (a.kindOf x=some .local/\m x=some u)\/((a.kindOf x=some .cell\/a.kindOf x=some .free)/\∃ c,a.cells.lookup x=some c/\h.IsCell c (some u))
structure Cx.Ok(X:Cx):Prop where
 mod:Mod X.K X.mg X.base
 kind:X.env.scope.kind=.function
 glob:X.env.globals=ao
 blt:X.env.builtins=builtinsNs
 above:X.s₀.heap.objs.size<=X.env.locals
 inj:∀ x y c,X.env.cells.lookup x=some c->X.env.cells.lookup y=some c->x=y
 has:∀ x,(X.env.kindOf x=some .cell\/X.env.kindOf x=some .free)->∃ c,X.env.cells.lookup x=some c
 cab:∀ x c,X.fn x=true->X.env.cells.lookup x=some c->X.s₀.heap.objs.size<=c
 hd:X.calm=true->X.A.handled=none
 frames:X.A.frames=some X.stack
 stk:X.stack=X.outer\/(X.stack=X.env::X.outer/\X.env.frame=some X.env.locals)
 exf:∀ b∈X.ex,b≠X.env.locals/\∀ x c,X.env.cells.lookup x=some c->c≠b
 bs:∀ b o,X.base.get? b=some o->X.s₀.heap.get? b=some o/\X.H₀ b=none
 bsz:X.base.objs.size<=X.s₀.heap.objs.size
 noex:∀ b o,X.base.get? b=some o->b∉X.ex
 exfs:∀ b∈X.ex,b∉X.fs
 funs:X.s₀.heap.FunFrames X.base X.outer
 frf:∀ b∈X.fs,X.H₀ b=none
structure ZE(X:Cx)(jZ:ju)(σ:List (jf))(H:Hp)(s:ak):Prop where
 ok:X.Ok
 os:s.os=X.s₀.os
 bare:AllBare s.gens
 base:Un X.fs X.ex X.H₀ H X.s₀.heap s.heap
 loc:∃ m,s.heap.Ns X.env.locals m/\∀(i:Nat)(x:Str)(v:V),X.N[i]? = some x->σ[i]? = some (some v)->Lh X.env.scope x->∃ u,ZU v u/\AU X.env s.heap m x u
 cell:∀ x c,X.env.cells.lookup x=some c->∃ v,s.heap.IsCell c v
 free:H X.env.locals=none
 freeC:∀ x c,X.env.cells.lookup x=some c->H c=none
 pin:∀ p∈X.pn++jZ,s.heap.get? p.1=some p.2/\H p.1=none/\p.1≠X.env.locals/\p.1∉X.fs/\∀ v,p.2.data≠.cell v
 hok:YV X.prog X.w H s.heap
 len:σ.length=X.N.length
section
variable{X:Cx}{jZ:ju}{σ:List (jf)}{H H':Hp}{s:ak}{h':aC}
def Cx.Ok.nofr(c:X.Ok){b:aj}{o:aH}(e:X.base.get? b=some o):b∉X.fs:=λa=>by
 have:=(c.funs.mem a).1;rw[e] at this;cases this
def ZE.bs(I:ZE X jZ σ H s):∀ b o,X.base.get? b=some o->s.heap.get? b=some o/\H b=none:=λb o e=>
 ⟨I.base.keep b o (I.ok.bs b o e).1 (I.ok.bs b o e).2 (I.ok.nofr e) (I.ok.noex b o e),I.base.free b o (I.ok.bs b o e).1 (I.ok.bs b o e).2 (I.ok.noex b o e)⟩
def ZE.bk(I:ZE X jZ σ H s):∀ b o,X.base.get? b=some o->s.heap.get? b=some o:=λb o e=>(I.bs b o e).1
def ZE.mod(I:ZE X jZ σ H s):Mod X.K X.mg X.base:=I.ok.mod
def ZE.kIn(I:ZE X jZ σ H s):X.K.In s.heap:=I.ok.mod.kin.keeps I.bk
def ZE.lt(I:ZE X jZ σ H s):X.env.locals<s.heap.objs.size:=let ⟨_,hn,_⟩:=I.loc;hn.lt
def ZE.sz(I:ZE X jZ σ H s):X.s₀.heap.objs.size<=s.heap.objs.size:=zE I.ok.above (xX I.lt)
def ZE.nofs(I:ZE X jZ σ H s){a:aj}(h:s.heap.objs.size<=a):a∉X.fs:=λb=>by
 let⟨_,o,c,_⟩:=I.ok.funs.mem b;exact absurd (yL (zW c) (zE I.sz h)) (xG _)
def ZE.cne(I:ZE X jZ σ H s):∀ x c,X.env.cells.lookup x=some c->c≠X.env.locals:=λx c e z=>by
 let⟨v,o,f,d⟩:=I.cell x c e;let⟨m,⟨i,h,g,b,a,_⟩,_⟩:=I.loc;rw[z,b] at f;cases f;rw[a] at d;cases d
def ZE.funs(I:ZE X jZ σ H s):s.heap.FunFrames X.base X.outer:=by
 let a:∀(l:jB),(∀ b∈frs l,b∈X.fs)->X.s₀.heap.FunFrames X.base l->s.heap.FunFrames X.base l:=by
  intro l
  induction l with
  | nil=>intro _ _;trivial
  | cons h r q=>
   intro g k;let⟨j,⟨L,o,f,m,n,i⟩,p⟩:=k;let c:L∈X.fs:=g L (by unfold frs;rw[uG,f];exact zP)
   let⟨t,e⟩:=I.base.slot L o n (I.ok.frf L c) c λz=>I.ok.exfs L z c;exact⟨j,⟨L,_,f,m,e,i⟩,q (λb d=>g b (by unfold frs;rw[uG,f];exact zH _ d)) p⟩
 exact a X.outer (λ_ d=>d) I.ok.funs
def ZE.stack(I:ZE X jZ σ H s):s.heap.FunFrames X.base X.stack:=by
 rcases I.ok.stk with e | ⟨e,a⟩
 ·rw[e];exact I.funs
 ·rw[e];let⟨m,b,_⟩:=I.loc;refine .cons (by rw[I.ok.kind];decide) a b ?_ I.funs
  exact uB (zE I.ok.bsz I.ok.above)
def ZE.stkSub(I:ZE X jZ σ H s):∀ b∈frs X.stack,b∈X.env.locals::X.fs:=λb a=>by
 rcases I.ok.stk with e | ⟨e,c⟩
 ·rw[e] at a;exact zH _ a
 ·rw[e] at a;unfold frs at a;rw[uG,c] at a;exact a
def ZE.stkFree(I:ZE X jZ σ H s):∀ b∈frs X.stack,H b=none:=λb a=>by
 rcases zB.mp (I.stkSub b a) with e | a
 ·rw[e];exact I.free
 ·let⟨_,o,c,_⟩:=I.ok.funs.mem a;exact I.base.free b o c (I.ok.frf b a) λz=>I.ok.exfs b z a
def ZE.step{g':Array GenState}{t':Nat}{d':Drawn}{ch:jv}(I:ZE X jZ σ H s)(h:∀ b∈ch,(b∈X.ex\/X.s₀.heap.objs.size<=b)/\b≠X.env.locals/\(∀ x c,X.env.cells.lookup x=some c->c≠b)/\∀ p∈X.pn++jZ,p.1≠b)(j:∀ b o,b≠X.env.locals->b∉X.fs->b∉ch->s.heap.get? b=some o->H b=none->h'.get? b=some o)(B:∀ b o,b≠X.env.locals->b∈X.fs->b∉ch->s.heap.get? b=some o->H b=none->∃ S,h'.get? b=some { o with slots:=S })(f:∀ b o,b∉ch->s.heap.get? b=some o->H b=none->H' b=none)(E:∀ b o,b∉ch->s.heap.get? b=some o->∃ M,h'.get? b=some M)(O:∀ b C,H b=some (.tup C)->H' b=some (.tup C))(J:∀ b o u,H b=some (.frz o u)->H' b=some (.frz o u))(N:∀ b P,H b=some (.tbl P)->∃ K,H' b=some (.tbl (P++K)))(ns:∀ m,s.heap.Ns X.env.locals m->h'.Ns X.env.locals m)(R:YV X.prog X.w H' h')(hg:AllBare g'):
  ZE X jZ σ H' { s with heap:=h',gens:=g',drawn:=d',toks:=t' }:=by
 let L:∀ b o,X.s₀.heap.get? b=some o->b≠X.env.locals:=λb o e=>zL (yL (zW e) I.ok.above);let A:∀ b o,X.s₀.heap.get? b=some o->b∉X.ex->b∉ch:=λb o e a D=>by
  rcases(h b D).1 with z | z
  ·exact a z
  ·exact absurd (yL (zW e) z) (xG _)
 let g:∀ x c,X.env.cells.lookup x=some c->∀ v,s.heap.IsCell c v->h'.IsCell c v:=λx c e v ⟨o,F,Q⟩=>by
  let t:c∉ch:=λz=>(h c z).2.2.1 x c e Z;by_cases U:c∈X.fs
  ·let⟨S,q⟩:=B c o (I.cne x c e) U t F (I.freeC x c e);exact⟨_,q,Q⟩
  ·exact⟨o,j c o (I.cne x c e) U t F (I.freeC x c e),Q⟩
 refine⟨I.ok,I.os,hg,⟨λb o e n D a=>?_,λb o e n D a=>?_,λb o e n a=>?_,λb o e a=>?_,λb C e=>O b C (I.base.tups b C e),λb o C e=>J b o C (I.base.frzs b o C e),λb P e=>?_⟩,?_,λx c e=>?_,?_,λx c e=>?_,λp V=>?_,R,I.len⟩
 ·exact j b o (L b o e) D (A b o e a) (I.base.keep b o e n D a) (I.base.free b o e n a)
 ·let⟨S,y⟩:=I.base.slot b o e n D a;let⟨T,G⟩:=B b _ (L b o e) D (A b o e a) y (I.base.free b o e n a);exact⟨T,G⟩
 ·let⟨M,y⟩:=I.base.there b o e a;exact f b M (A b o e a) y (I.base.free b o e n a)
 ·let⟨M,y⟩:=I.base.there b o e a;exact E b M (A b o e a) y
 ·let⟨m1,y⟩:=I.base.tbls b P e;let⟨m2,G⟩:=N b _ y;exact⟨m1++m2,by rw[G,vG]⟩
 ·let⟨m,hn,hl⟩:=I.loc;exists m,ns m hn;intro i x v y G e3;let⟨u,r,l⟩:=hl i x v y G e3;exists u,r;rcases l with l | ⟨k,c,e,z⟩
  ·exact .inl l
  ·exact .inr ⟨k,c,e,g x c e _ z⟩
 ·let⟨v,z⟩:=I.cell x c e;exact⟨v,g x c e v z⟩
 ·let⟨m,⟨o,_,_,F,_⟩,_⟩:=I.loc;exact f _ o (λz=>(h _ z).2.1 Z) F I.free
 ·let⟨v,o,F,Q⟩:=I.cell x c e;exact f c o (λz=>(h c z).2.2.1 x c e Z) F (I.freeC x c e)
 ·let⟨e,n,W,Y,d⟩:=I.pin p V;let t:p.1∉ch:=λz=>(h p.1 z).2.2.2 p V Z;exact⟨j p.1 p.2 W Y t e n,f p.1 p.2 t e n,W,Y,d⟩
def ZE.un{t':Nat}(I:ZE X jZ σ H s)(u:Un X.fs [] H H' s.heap h')(g:YV X.prog X.w H' h'):ZE X jZ σ H' { s with heap:=h',toks:=t' }:=by
 let⟨m,⟨o,p,l,h,r⟩,_⟩:=id I.loc;let⟨v,i⟩:=u.any h I.free (by simp)
 exact I.step (g':=s.gens) (d':=s.drawn) (ch:=[]) (λ_ z=>nomatch z) (λb o _ f _ e n=>u.keep b o e n f (by simp)) (λb o _ f _ e n=>u.slot b o e n f (by simp)) (λb o _ e n=>u.free b o e n (by simp)) (λb o _ e=>u.there b o e (by simp)) u.tups u.frzs u.tbls (λq j=>by
  let⟨t,d,c,a,k⟩:=j;rw[h] at a;cases a;exact⟨_,d,c,i,k⟩) g I.bare
def ZE.call{g':Array GenState}{t':Nat}{d':Drawn}{ch:jv}(I:ZE X jZ σ H s)(u:Un (frs X.stack) ch H H' s.heap h')(j:YV X.prog X.w H' h')(q:AllBare g')(d:∀ b∈ch,(b∈X.ex\/X.s₀.heap.objs.size<=b)/\b≠X.env.locals/\(∀ x c,X.env.cells.lookup x=some c->c≠b)/\∀ p∈X.pn++jZ,p.1≠b):
  ZE X jZ σ H' { s with heap:=h',gens:=g',drawn:=d',toks:=t' }:=by
 let⟨m,⟨o,A,y,k,r⟩,_⟩:=id I.loc;let⟨D,i⟩:=u.any k I.free λz=>(d _ z).2.1 Z;exact I.step (ch:=ch) d (λb o i l a e n=>u.keep b o e n (λz=>(zB.mp (I.stkSub b z)).elim i l) a) (λb o _ _ a e n=>u.any e n a) (λb o a e n=>u.free b o e n a) (λb o a e=>u.there b o e a) u.tups u.frzs u.tbls (λB t=>by
  let⟨C,h,g,f,v⟩:=t;rw[k] at f;cases f;exact⟨_,h,g,i,v⟩) j q
def ZE.turned{t':Nat}{it:aj}(I:ZE X jZ σ H s)(k:∀ b o,b≠it->s.heap.get? b=some o->h'.get? b=some o)(y:H it=none)(f:it≠X.env.locals)(i:it∈X.ex\/X.s₀.heap.objs.size<=it)(j:∀ x c,X.env.cells.lookup x=some c->c≠it)(l:∀ p∈X.pn++jZ,p.1≠it):ZE X jZ σ H { s with heap:=h',toks:=t' }:=by
 let d:∀ b u,H b=some u->b≠it:=λb u e z=>by rw[z,y] at e;cases e
 refine I.step (g':=s.gens) (d':=s.drawn) (ch:=[it]) (λb t=>?_) (λb o _ _ a e _=>k b o (λz=>a (by simp[z])) e) (λb o _ _ a e _=>⟨o.slots,k b o (λz=>a (by simp[z])) e⟩) (λ_ _ _ _ n=>n)
  (λb o a e=>⟨o,k b o (λz=>a (by simp[z])) e⟩) (λ_ _ e=>e) (λ_ _ _ e=>e) (λb B e=>⟨#[],by rw[e];simp⟩) (λm w=>?_) (λb u e=>?_) I.bare
 ·let e:b=it:=by simpa using t
  subst e;exact⟨i,f,j,l⟩
 ·let⟨o,h,g,A,r⟩:=w;exact⟨o,h,g,k _ o (Ne.symm f) A,r⟩
 ·refine(I.hok b u e).stay (λc v a q=>k c v ?_ q) (λ_ q=>q) λ_ _ q=>q;rcases a with z | z
  ·rw[z];exact d b u e
  ·exact d c _ z
def ZE.tok(I:ZE X jZ σ H s)(t:Nat):ZE X jZ σ H { s with toks:=t }:=I.un (h':=s.heap) (t':=t) Un.refl I.hok
def ZE.kept{t':Nat}(I:ZE X jZ σ H s)(k:∀ b u,s.heap.get? b=some u->h'.get? b=some u):ZE X jZ σ H { s with heap:=h',toks:=t' }:=I.un (Un.kept k) (I.hok.kept k)
def ZE.laid{a:aj}{o:HO}{t':Nat}(I:ZE X jZ σ H s)(k:∀ b u,s.heap.get? b=some u->h'.get? b=some u)(c:s.heap.objs.size<=a)(d:Zf X.prog X.w (upd H a o) h' a o):
  ZE X jZ σ (upd H a o) { s with heap:=h',toks:=t' }:=I.un (Un.laid k c (I.hok.fresh c)) (I.hok.laid k c d)
def ZE.write{x e:aj}{o:HO}{g:Nat}(I:ZE X jZ σ H s)(f:N7 (H x))(d:e=x\/H e=some (.own x))(k:∀ b u,b≠e->s.heap.get? b=some u->h'.get? b=some u)(a:∃ u,h'.get? e=some u)(c:Zf X.prog X.w (upd H x o) h' x o):ZE X jZ σ (upd H x o) { s with heap:=h',toks:=g }:=I.un (Un.write f d k a) (I.hok.write f d k a c)
def ZE.pins_of{a:ju}(I:ZE X jZ σ H s)(h:∀ p∈a,s.heap.get? p.1=some p.2/\H p.1=none/\p.1≠X.env.locals/\p.1∉X.fs/\∀ v,p.2.data≠.cell v):ZE X a σ H s:=
 ⟨I.ok,I.os,I.bare,I.base,I.loc,I.cell,I.free,I.freeC,λp b=>(yX.mp b).elim (λz=>I.pin p (xD _ z)) (h p),I.hok,I.len⟩
def Jx{N:js}(e:N.Nodup){i j:Nat}{x:Str}(a:N[i]? = some x)(b:N[j]? = some x):i=j:=by
 let⟨f,c⟩:=yS.mp a;let⟨g,d⟩:=yS.mp b;exact(List.getElem_inj e).mp (c.trans d.symm)
def Gj{M:Model}{A:aw}{E:ja}{i:Nat}{x:Str}{v:V}{u:ai}{Q:Unit->ak->Prop}(I:ZE X jZ σ H s)(hN:X.N.Nodup)(T:X.N[i]? = some x)(B:ND X.env.scope x)(r:ZU v u)(h:∀ s',ZE X jZ (σ.set i (some v)) H s'->(∃ a,wG a s.heap s'.heap/\(a=X.env.locals\/X.env.cells.lookup x=some a))->Q () s')(hf:X.fn x=true\/X.env.scope.names.lookup x=some .local:=by first | exact .inl rfl | exact .inr rfl | assumption):aA M A (storeName X.env x u) Q E s:=by
 let⟨m,hn,hl⟩:=id I.loc;let S:(X.env.scope.kind==.class || (X.env.scope.kind==.module&&X.env.locals != X.env.globals))=false:=by rw[I.ok.kind];rfl
 let F:i<σ.length:=by rw[I.len];exact(yS.mp T).1
 let J:=I.cne;let l:∀{a:aj}{h':aC},(∃ o,s.heap.get? a=some o/\H a=none)->wG a s.heap h'->YV X.prog X.w H h':=fun{a h'} ha f b ob e=>by
  let⟨_,_,C⟩:=ha;refine(I.hok b ob e).stay (λc w' t q=>(f.2 c ?_).trans q) (λ_ q=>q) λ_ _ q=>q;rintro rfl;rcases t with rfl | t
  ·rw[C] at e;cases e
  ·rw[C] at t;cases t
 rcases B with G | G
 ·refine wpAny_storeName_local G hn (λh' a0 f=>?_) S;let⟨oL,_,_,a1,_⟩:=id hn;refine h _ ⟨I.ok,I.os,I.bare,⟨λb o e n K B=>?_,λb o e n K B=>?_,I.base.free,λb o e B=>?_,I.base.tups,I.base.frzs,I.base.tbls⟩,⟨_,a0,λj y v' g D e3=>?_⟩,λy c e=>?_,I.free,I.freeC,λp hp=>?_,l ⟨oL,a1,I.free⟩ f,by simpa using I.len⟩ ⟨_,f,.inl Z⟩
  ·exact(f.2 b (zL (yL (zW e) I.ok.above))).trans (I.base.keep b o e n K B)
  ·let⟨sl,g⟩:=I.base.slot b o e n K B;exact⟨sl,(f.2 b (zL (yL (zW e) I.ok.above))).trans g⟩
  ·let⟨o',g⟩:=I.base.there b o e B;exact⟨o',(f.2 b (zL (yL (zW e) I.ok.above))).trans g⟩
  ·by_cases O:j=i
   ·subst O;rw[T] at g;cases g;rw[vC F] at D;cases D;exact⟨u,r,.inl ⟨G,by simp⟩⟩
   ·rw[vQ (Ne.symm O)] at D;let⟨u',r',q⟩:=hl j y v' g D e3;exists u',r';rcases q with ⟨k,e⟩ | ⟨k,c,e,z⟩
    ·refine .inl ⟨k,?_⟩;have:y≠x:=λe=>O (Jx hN g (e ▸ T));simp[this,e]
    ·exact .inr ⟨k,c,e,z.sameBut f (J y c e)⟩
  ·let⟨w',z⟩:=I.cell y c e;exact⟨w',z.sameBut f (J y c e)⟩
  ·let⟨e,n,ne,nf,d⟩:=I.pin p hp;exact⟨(f.2 p.1 ne).trans e,n,ne,nf,d⟩
 ·let L:X.fn x=true:=by
   rcases hf with z | z
   ·exact z
   ·rw[z] at G;cases G
  let⟨c,t⟩:=I.ok.has x (.inl G);let⟨w',z⟩:=I.cell x c t;refine wpAny_storeName_cell I.ok.kind G t z (λh' P f=>?_);let⟨oc,U,W⟩:=id z;refine h { s with heap:=h' } ⟨I.ok,I.os,I.bare,⟨λb o e n K B=>?_,λb o e n K B=>?_,I.base.free,λb o e B=>?_,I.base.tups,I.base.frzs,I.base.tbls⟩,⟨m,hn.sameBut f (Ne.symm (J x c t)),λj y v' g D e3=>?_⟩,λy Y e=>?_,I.free,I.freeC,λp hp=>?_,l ⟨oc,U,I.freeC x c t⟩ f,by simpa using I.len⟩ ⟨c,f,.inr t⟩
  ·exact(f.2 b (zL (yL (zW e) (I.ok.cab x c L t)))).trans (I.base.keep b o e n K B)
  ·let⟨sl,g⟩:=I.base.slot b o e n K B;exact⟨sl,(f.2 b (zL (yL (zW e) (I.ok.cab x c L t)))).trans g⟩
  ·let⟨o',g⟩:=I.base.there b o e B;exact⟨o',(f.2 b (zL (yL (zW e) (I.ok.cab x c L t)))).trans g⟩
  ·by_cases O:j=i
   ·subst O;rw[T] at g;cases g;rw[vC F] at D;cases D;exact⟨u,r,.inr ⟨.inl G,c,t,P⟩⟩
   ·rw[vQ (Ne.symm O)] at D;let⟨u',r',q⟩:=hl j y v' g D e3;exists u',r';rcases q with q | ⟨k,Y,e,z'⟩
    ·exact .inl q
    ·refine .inr ⟨k,Y,e,z'.sameBut f ?_⟩;rintro rfl;exact O (Jx hN g (I.ok.inj _ _ _ e t ▸ T))
  ·by_cases R:Y=c
   ·subst R;exact⟨_,P⟩
   ·let⟨w2,z2⟩:=I.cell y Y e;exact⟨w2,z2.sameBut f R⟩
  ·let⟨e,n,ne,nf,d⟩:=I.pin p hp;refine⟨(f.2 p.1 ?_).trans e,n,ne,nf,d⟩;intro q;rw[q,U] at e;let q':oc=p.2:=zG.inj e;exact d w' (by rw[<-q'];exact W)
def Mh{M:Model}{A:aw}{E:ja}{i:Nat}{x:Str}{v:V}{u:ai}{Q:Unit->ak->Prop}(I:ZE X jZ σ H s)(c:X.N.Nodup)(e:X.N[i]? = some x)(f:ND X.env.scope x)(r:ZU v u)(h:∀ a,ZE X jZ (σ.set i (some v)) H a->Q () a)(d:X.fn x=true\/X.env.scope.names.lookup x=some .local:=by first | exact .inl rfl | exact .inr rfl | assumption):aA M A (storeName X.env x u) Q E s:=
 Gj I c e f r (λa b _=>h a b) d
def ZE.call'{s':ak}{ch:jv}(I:ZE X jZ σ H s)(i:s'.os=s.os)(u:Un (frs X.stack) ch H H' s.heap s'.heap)(d:YV X.prog X.w H' s'.heap)(h:AllBare s'.gens)(a:∀ b∈ch,(b∈X.ex\/X.s₀.heap.objs.size<=b)/\b≠X.env.locals/\(∀ x c,X.env.cells.lookup x=some c->c≠b)/\∀ p∈X.pn++jZ,p.1≠b):ZE X jZ σ H' s':=by
 let⟨h',g,f,k,j⟩:=s';let e:j=s.os:=i;subst e;exact I.call (g':=g) (t':=k) (d':=f) u d h a
end
abbrev XK:=ai->jy->Hp->Prop
abbrev St:=List (jf)
abbrev VK:=V->Hp->Prop
abbrev TE:=St->Hp->VK->Prop
abbrev jR:=List (TE×TE)
abbrev TT:=St->Hp->(Bool->Hp->Prop)->Prop
abbrev TA:=St->Hp->(je->Hp->Prop)->Prop
structure Yx where
 nx:St->Hp->Prop
 rt:VK
 bk:St->Hp->Prop:=λ_ _=>False
 ct:St->Hp->Prop:=λ_ _=>False
abbrev TS:=Yx->St->Hp->Prop
def EP(X:Cx)(a:ju)(d:St)(Q:VK)(u:ai)(c:ak):Prop:=∃ v b,ZE X a d b c/\ZU v u/\Q v b
def TP(X:Cx)(a:ju)(e:St)(Q:Bool->Hp->Prop)(b:Bool)(d:ak):Prop:=∃ c,ZE X a e c d/\Q b c
def AP(X:Cx)(a:ju)(f:St)(Q:je->Hp->Prop)(e:jd)(d:ak):Prop:=∃ c b,ZE X a f b d/\ZQ c e/\Q c b
def SP(X:Cx)(b:ju)(D:Yx)(f:Flow)(d:ak):Prop:=
 match f with
 | .next=>∃ a c,ZE X b a c d/\D.nx a c
 | .brk=>∃ a c,ZE X b a c d/\D.bk a c
 | .cont=>∃ a c,ZE X b a c d/\D.ct a c
 | .ret u=>∃ v a c,ZE X b a c d/\ZU v u/\D.rt v c
def PE(X:Cx)(e:Expr)(t:TE):Prop:=
 ∀(a:ju)(s:ak)(b:St)(H:Hp)(Q:VK),ZE X a b H s->t b H Q->aA (az X.prog X.w) X.A (aG e X.env) (EP X a b Q) X.xe s
def PT(X:Cx)(e:Expr)(t:TT):Prop:=
 ∀(a:ju)(s:ak)(b:St)(H:Hp)(Q:Bool->Hp->Prop),ZE X a b H s->t b H Q->aA (az X.prog X.w) X.A (isTrue e X.env (aG e X.env)) (TP X a b Q) X.xe s
def PW(X:Cx)(e:Expr)(t:TT):Prop:=
 ∀(b:Sem ai)(a:ju)(s:ak)(c:St)(H:Hp)(Q:Bool->Hp->Prop),ZE X a c H s->t c H Q->aA (az X.prog X.w) X.A (isTrue e X.env b) (TP X a c Q) X.xe s
def PW.pt{X:Cx}{e:Expr}{t:TT}(h:PW X e t):PT X e t:=h _
def PA(X:Cx)(d:jz)(t:TA):Prop:=
 ∀(b:aI)(a:ju)(s:ak)(c:St)(H:Hp)(Q:je->Hp->Prop),ZE X a c H s->t c H Q->aA (az X.prog X.w) X.A (spliced (aE b (aq d X.env))) (AP X a c Q) X.xe s
def PS(X:Cx)(c:aB)(t:TS):Prop:=
 ∀(a:ju)(s:ak)(b:St)(H:Hp)(D:Yx),ZE X a b H s->t D b H->aA (az X.prog X.w) X.A (exec c X.env) (SP X a D) X.xe s
def WC(X:Cx)(c:jM)(t:TS):Prop:=
 ∀(a:ju)(s:ak)(b:St)(H:Hp)(D:Yx),ZE X a b H s->t D b H->aA (az X.prog X.w) X.A (execs c X.env) (SP X a D) X.xe s
def Z1{c:Type}{t:Sem c}{Q b:c->ak->Prop}{M:Model}{A:aw}{E:ja}{s:ak}(h:aA M A t Q E s)(d:∀ a s,Q a s->b a s):aA M A t b E s:=ae h d λ_ _ x=>x
def YH{d g i:Type}{t:Sem d}{a b c:d->ak->g->i->Prop}{e:d->ak->Prop}{M:Model}{A:aw}{E:ja}{s:ak}(h:aA M A t (λv s=>∃ x H,a v s x H/\b v s x H/\c v s x H) E s)(f:∀ v s x H,a v s x H->b v s x H->c v s x H->e v s):aA M A t e E s:=Z1 h (by rintro v s ⟨x,H,p,q,r⟩;exact f v s x H p q r)
variable{X:Cx}
section
inductive UC(i:Nat)(a:L2.St)(H:Hp)(Q:VK):Prop
 |mk(v:_)(_:a[i]? = some (some v))(_:Q v H)
def tC(v:V):TE:=λ_ H Q=>Q v H
def FD{i:Nat}{x:Str}{k:aI}(o:X.N[i]? = some x)(w:Lh X.env.scope x)(j:(x==("__debug__" : Str))=false:=by decide)(g:(x==("__classdict__" : Str))=false:=by decide):PE X (.Name x k) (UC i):=by
 intro f s y H Q I h;let⟨v,e,h⟩:=h;let⟨m,t,p⟩:=I.loc;let⟨u,r,l⟩:=p i x v o e w;let b:EP X f y Q u s:=⟨v,H,I,r,h⟩;rcases l with ⟨d,q⟩ | ⟨d,c,n,a⟩
 ·exact wpAny_Name (wpAny_loadName_local I.ok.kind d t q b) j
 ·rcases d with d | d
  ·exact wpAny_Name (wpAny_loadName_cell I.ok.kind d n a b) j
  ·exact wpAny_Name (wpAny_loadName_free I.ok.kind d n a b g) j
def ZM{i j a}:PE X (.Constant (.int i) j a) (tC (.int i)):=λ_ _ _ H _ I h=>wpAny_Constant_int ⟨.int i,H,I.tok _,⟨_,Z⟩,h⟩
def Uf{b j a}:PE X (.Constant (.bool b) j a) (tC (.bl b)):=λ_ _ _ H _ I h=>Constant_bool ⟨.bl b,H,I,Z,h⟩
def Od{j a}:PE X (.Constant .none j a) (tC .non):=λ_ _ _ H _ I h=>Constant_none ⟨.non,H,I,Z,h⟩
def Yn{x j a}:PE X (.Constant (.str x) j a) (tC (.str x)):=λ_ _ _ H _ I h=>Calls.Constant_str ⟨.str x,H,I.tok _,⟨_,Z⟩,h⟩
def Gl(X:Cx)(x:Str):Prop:=X.env.kindOf x=some .globalImplicit
def PJ{E:ja}{a:ju}{s:ak}{f:St}{H:Hp}{x:Str}{u:ai}{b:aI}{Q:ja}(I:ZE X a f H s)(d:Gl X x)(e:X.mg x=some u)(h:Q u s)(c:(x==("__debug__" : Str))=false:=by decide):aA (az X.prog X.w) X.A (aG (.Name x b) X.env) Q E s:=
 Calls.Name_function_global I.ok.kind d (Calls.loadGlobal_global (by rw[I.ok.glob];exact I.mod.glob.keeps I.bk) e h) c
def Py{E:ja}{a:ju}{s:ak}{k:St}{H:Hp}{x:Str}{u:ai}{b:aI}{Q:ja}(I:ZE X a k H s)(f:Gl X x)(g:X.mg x=none)(j:ax x=some u)(h:Q u s)(i:x ≠ "__name__" :=by decide)(e:(x==("__debug__" : Str))=false:=by decide):aA (az X.prog X.w) X.A (aG (.Name x b) X.env) Q E s:=by
 let⟨l,c,d⟩:=I.mod.blt;exact Calls.Name_function_global I.ok.kind f (Calls.loadGlobal_builtin (by rw[I.ok.glob];exact I.mod.glob.keeps I.bk) g (by rw[I.ok.blt];exact c.keeps I.bk) ((d x i).trans j) h) e
def WN{x:Str}{v:V}{u:ai}{a:aI}(c:Gl X x)(d:X.mg x=some u)(r:ZU v u)(b:(x==("__debug__" : Str))=false:=by decide):PE X (.Name x a) (tC v):=
 λ_ _ _ H _ I h=>PJ I c d ⟨v,H,I,r,h⟩ b
def Xw{x:Str}{v:V}{u:ai}{a:aI}(c:Gl X x)(d:X.mg x=none)(f:ax x=some u)(r:ZU v u)(e:x ≠ "__name__" :=by decide)(b:(x==("__debug__" : Str))=false:=by decide):PE X (.Name x a) (tC v):=
 λ_ _ _ H _ I h=>Py I c d f ⟨v,H,I,r,h⟩ e b
variable{a b:Expr}{ta tb:TE}{pos:aI}
def PC(X:Cx)(g:CmpOp)(a b:Expr)(t:TE):Prop:=
 ∀(c:ju)(s:ak)(f:St)(H:Hp)(Q:VK),ZE X c f H s->t f H Q ->
  aA (az X.prog X.w) X.A (aG a X.env) (λv d=>aA (az X.prog X.w) X.A (aG b X.env) (λu e=>aA (az X.prog X.w) X.A (ay g v u) (EP X c f Q) X.xe e) X.xe d) X.xe s
def Fr(b:Expr){c:CmpOp}(h:c≠.In)(f:c≠.NotIn):behindInMarks c b=false:=by
 let d:(c==CmpOp.In)=false:=by cases c <;> first | rfl | exact absurd rfl h
 let e:(c==CmpOp.NotIn)=false:=by cases c <;> first | rfl | exact absurd rfl f
 cases b <;> simp[behindInMarks,d,e]
def ZQk(ta:TE):TE:=λd H Q=>ta d H λx c=>Q (.bl (decide (x=.non))) c
def Ao(ta:TE):TE:=λd H Q=>ta d H λx c=>Q (.bl (!decide (x=.non))) c
def ZU.none_iff{x:V}{v:ai}(r:ZU x v):(v==Value.none)=decide (x=.non):=by
 cases x with
 | non=>cases r;rfl
 | bl _=>cases r;rfl
 | int _=>let⟨t,rfl⟩:=r;rfl
 | str _=>let⟨t,rfl⟩:=r;rfl
 | byt _=>let⟨t,rfl⟩:=r;rfl
 | flt _=>let⟨t,rfl⟩:=r;rfl
 | ref _=>cases r;rfl
 | ty _=>cases r;rfl
def O3{j d}(g:PE X a ta):PC X .Is a (.Constant .none j d) (ZQk ta):=by
 intro c s l H Q I h;refine YH (g c s l H _ I h) λv m x e f k i=>?_;exact Constant_none (is_none_gen ⟨.bl _,e,f,by rw[k.none_iff];rfl,i⟩)
def N0{j d}(g:PE X a ta):PC X .IsNot a (.Constant .none j d) (Ao ta):=by
 intro c s l H Q I h;refine YH (g c s l H _ I h) λv m x e f k i=>?_;exact Constant_none (isnot_none_gen ⟨.bl _,e,f,by rw[k.none_iff];rfl,i⟩)
inductive tBI(Q:Bool->Hp->Prop)(x:V)(d:Hp):Prop
 |mk(c:_)(_:x=.bl c)(_:Q c d)
def tB(t:TE):TT:=λd H Q=>t d H λx c=>tBI Q x c
def Hw{d:CmpOp}{t:TE}(h:PC X d a b t)(e:behindInMarks d b=false:=by first | exact Fr _ (by decide) (by decide) | rfl):PE X (.Compare a [d] [b] pos) t:=λc s g H Q I f=>wpAny_Compare1 (h c s g H Q I f) e
def Ur{g:CmpOp}{t:TE}(h:PC X g a b t)(f:behindInMarks g b=false:=by first | exact Fr _ (by decide) (by decide) | rfl):PT X (.Compare a [g] [b] pos) (tB t):=by
 intro e s o H Q I l;refine wpAny_isTrue_Compare1 (Z1 (h e s o H _ I l) λv p f=>Z1 f λu r k=>YH k λc w x i j n m=>?_) f;let⟨d,rfl,q⟩:=m;cases n;exact wpAny_truthy_bool ⟨i,j,q⟩
def Yk{e:Expr}{t:TE}(h:PE X e t)(j:∀ c,isTrue e X.env c=(do let v<-c;standAt e.pos;holding [v] (truthy v)):=by intro _;rfl):PT X e (tB t):=by
 intro f s n H Q I k;refine isTrue_plain (YH (h f s n H _ I k) λv o x g i m l=>?_) (j _);let⟨d,rfl,q⟩:=l;cases m;exact wpAny_truthy_bool ⟨g,i,q⟩
variable{tA tB':TT}{rest:jz}
def Et(t u:TT):TT:=λe H Q=>t e H λc d=>if c=true then u e d Q else Q false d
def Ck(t u:TT):TT:=λe H Q=>t e H λc d=>if c=true then Q true d else u e d Q
def ZQU(t:TT):TT:=λe H Q=>t e H λc d=>Q (!c) d
def Ou(f:PT X a tA):PW X (.BoolOp .And [a] pos) tA:=by
 intro j d s g H Q I h;refine isTrue_and (Z1 (f d s g H Q I h) λc i e=>?_)
 cases c with
 | true=>exact isTrue_and_nil e
 | false=>exact e
def Uj(f:PT X a tA):PW X (.BoolOp .Or [a] pos) tA:=by
 intro j d s g H Q I h;refine isTrue_or (Z1 (f d s g H Q I h) λc i e=>?_)
 cases c with
 | false=>exact isTrue_or_nil e
 | true=>exact e
def OM(j:PT X a tA)(k:PW X (.BoolOp .And (b::rest) pos) tB'):PW X (.BoolOp .And (a::b::rest) pos) (Et tA tB'):=by
 intro m d s i H Q I h;refine isTrue_and (Z1 (j d s i H _ I h) ?_);rintro c l ⟨e,f,g⟩
 cases c with
 | true=>exact k m d l i e Q f g
 | false=>exact⟨e,f,g⟩
def VO(j:PT X a tA)(k:PW X (.BoolOp .Or (b::rest) pos) tB'):PW X (.BoolOp .Or (a::b::rest) pos) (Ck tA tB'):=by
 intro m d s i H Q I h;refine isTrue_or (Z1 (j d s i H _ I h) ?_);rintro c l ⟨e,f,g⟩
 cases c with
 | true=>exact⟨e,f,g⟩
 | false=>exact k m d l i e Q f g
def XT(f:PT X a tA):PT X (.UnaryOp .Not a pos) (ZQU tA):=by
 intro d s g H Q I h;exact isTrue_not (f d s g H (λc e=>Q (!c) e) I h)
inductive Ol(tb:TE)(e:L2.St)(Q:VK)(x:V)(d:Hp):Prop
 |mk(c:_)(_:x=.bl c)(_:if c=true then tb e d Q else Q (.bl false) d)
def ZP3(ta tb:TE):TE:=λc H Q=>ta c H λx d=>Ol tb c Q x d
inductive P4(Q:VK)(x:V)(d:Hp):Prop
 |mk(c:_)(_:x=.bl c)(_:Q (.bl (!c)) d)
def ZPc(ta:TE):TE:=λd H Q=>ta d H λx c=>P4 Q x c
def OH{e}{t:TE}(h:PE X a t):PE X (.BoolOp e [a] pos) t:=λc s f H Q I d=>BoolOp_one (h c s f H Q I d)
def Q0(j:PE X a ta)(k:PE X (.BoolOp .And (b::rest) pos) tb):PE X (.BoolOp .And (a::b::rest) pos) (ZP3 ta tb):=by
 intro d s i H Q I h;refine BoolOp_and (YH (j d s i H _ I h) λv m x f g l e=>?_);let⟨c,rfl,e⟩:=e;cases l;refine wpAny_truthy_bool ?_
 cases c with
 | true=>exact k d m i f Q g e
 | false=>exact⟨.bl false,f,g,Z,e⟩
def Ir(i:PE X a ta):PE X (.UnaryOp .Not a pos) (ZPc ta):=by
 intro d s k H Q I h;refine UnaryOp_ (YH (i d s k H _ I h) λv l x f g j e=>?_);let⟨c,rfl,e⟩:=e;cases j;exact not_of (wpAny_truthy_bool ⟨.bl (!c),f,g,Z,e⟩)
end
def ZF(K:zZ)(H:Hp)(a:aj)(c:je):Prop:=
 Rd H a (.lst c) \/
  ∃(o:aH)(b:jA)(n:Nat),K.lookup a=some o/\o.cls=.type "list" /\ o.dict=none/\o.data=.seq b n/\b.size<=ap/\ZQ c b.toList
def Za(K:zZ)(H:Hp)(a:aj)(c:je):Prop:=
 Rd H a (.tup c) \/
  ∃(o:aH)(b:jA)(n:Nat),K.lookup a=some o/\o.cls=.type "tuple" /\ o.data=.seq b n/\b.size<=ap/\ZQ c b.toList
def ZQb:ai->jf
 | .none=>some .non
 | .bool b=>some (.bl b)
 | .int i _=>some (.int i)
 | .str x _=>some (.str x)
 | .bytes b _=>some (.byt b)
 | .float b _=>some (.flt b)
 | .ref a=>some (.ref a)
 | .type n=>some (.ty n)
 | _=>none
def ZU.abs{x:V}{u:ai}(r:ZU x u):ZQb u=some x:=by
 cases x with
 | non=>cases r;rfl
 | bl _=>cases r;rfl
 | int _=>let⟨t,rfl⟩:=r;rfl
 | str _=>let⟨t,rfl⟩:=r;rfl
 | byt _=>let⟨t,rfl⟩:=r;rfl
 | flt _=>let⟨t,rfl⟩:=r;rfl
 | ref _=>cases r;rfl
 | ty _=>cases r;rfl
def ZU.inj{x y:V}{u:ai}(r:ZU x u)(q:ZU y u):x=y:=zG.inj (r.abs.symm.trans q.abs)
def ZQ.inj:∀{c a:je}{b:jd},ZQ c b->ZQ a b->c=a:=by intro _ a _ h g;induction h generalizing a with
 | nil=>cases g;rfl
 | cons r _ d=>cases g with
  | cons e f=>rw[r.inj e,d f]
section
variable{jZ:ju}{σ:St}{H:Hp}{s:ak}{a:aj}{xs ys:je}
def ZF.of{K:zZ}(h:H a=some (.lst xs)):ZF K H a xs:=.inl (.inl h)
def Za.of{K:zZ}(h:H a=some (.tup xs)):Za K H a xs:=.inl (.inl h)
def ZE.list(I:ZE X jZ σ H s)(h:ZF X.K H a xs):∃ b:jd,ZQ xs b/\PlainL s.heap a b.toArray/\xs.length<=sizeLine:=by
 rcases h with h | ⟨o,b,n,f,c,d,g,i,r⟩
 ·let⟨z,b,n,r,e⟩:=h.ok I.hok;exact⟨b,r,⟨_,n,e,Z,Z,Z⟩,z⟩
 ·exists b.toList,r,⟨o,n,I.kIn a o f,c,d,by simpa using g⟩
  let e:=r.length;simp only[vR] at e
  lia
def ZE.tuple(I:ZE X jZ σ H s)(h:Za X.K H a xs):∃ b:jd,ZQ xs b/\IsTup s.heap a b.toArray/\xs.length<=sizeLine:=by
 rcases h with h | ⟨o,b,n,d,c,f,g,r⟩
 ·let⟨z,b,r,p⟩:=h.ok I.hok;exact⟨b,r,p,z⟩
 ·exists b.toList,r,⟨o,I.kIn a o d,c,n,by simpa using f⟩
  let e:=r.length;simp only[vR] at e
  lia
def ZE.list_inj(I:ZE X jZ σ H s)(h:ZF X.K H a xs)(i:ZF X.K H a ys):xs=ys:=by
 let⟨c,r,⟨o,n,e,_,_,d⟩,_⟩:=I.list h;let⟨b,j,⟨l,k,g,_,_,f⟩,_⟩:=I.list i;rw[e] at g;cases g;rw[d] at f;injection f with d1 _;have:c=b:=by simpa using congrArg tU d1
 subst this;exact r.inj j
def ZE.tuple_inj(I:ZE X jZ σ H s)(h:Za X.K H a xs)(i:Za X.K H a ys):xs=ys:=by
 let⟨c,r,⟨o,e,_,n,d⟩,_⟩:=I.tuple h;let⟨b,j,⟨l,g,_,k,f⟩,_⟩:=I.tuple i;rw[e] at g;cases g;rw[d] at f;injection f with d1 _;have:c=b:=by simpa using congrArg tU d1
 subst this;exact r.inj j
end
abbrev Cx.wish(X:Cx)(E:ja):Cx:={ X with xe:=E }
abbrev Cx.nox(X:Cx):Cx:=X.wish λ_ _=>False
def Cx.Ok.wish{X:Cx}(a:X.Ok)(E:ja):(X.wish E).Ok:=
 ⟨a.mod,a.kind,a.glob,a.blt,a.above,a.inj,a.has,a.cab,a.hd,a.frames,a.stk,a.exf,a.bs,a.bsz,a.noex,a.exfs,a.funs,a.frf⟩
def Cx.Ok.unwish{X:Cx}{E:ja}(a:(X.wish E).Ok):X.Ok:=
 ⟨a.mod,a.kind,a.glob,a.blt,a.above,a.inj,a.has,a.cab,a.hd,a.frames,a.stk,a.exf,a.bs,a.bsz,a.noex,a.exfs,a.funs,a.frf⟩
section
variable{jZ:ju}{σ:St}{H:Hp}{s:ak}{E:ja}
def ZE.wish(I:ZE X jZ σ H s)(E:ja):ZE (X.wish E) jZ σ H s:=⟨I.ok.wish E,I.os,I.bare,I.base,I.loc,I.cell,I.free,I.freeC,I.pin,I.hok,I.len⟩
def ZE.unwish(I:ZE (X.wish E) jZ σ H s):ZE X jZ σ H s:=⟨I.ok.unwish,I.os,I.bare,I.base,I.loc,I.cell,I.free,I.freeC,I.pin,I.hok,I.len⟩
def SP.unwish{D:Yx}{f:Flow}{c:ak}(h:SP (X.wish E) jZ D f c):SP X jZ D f c:=by
 cases f with
 | next=>let⟨a,b,I,q⟩:=h;exact⟨a,b,I.unwish,q⟩
 | brk=>let⟨a,b,I,q⟩:=h;exact⟨a,b,I.unwish,q⟩
 | cont=>let⟨a,b,I,q⟩:=h;exact⟨a,b,I.unwish,q⟩
 | ret u=>let⟨v,a,b,I,r,q⟩:=h;exact⟨v,a,b,I.unwish,r,q⟩
def WC.nox{a:jM}{t:TS}(h:WC X.nox a t):WC X a t:=λjZ s σ H D I b=>
 ae (h jZ s σ H D (I.wish _) b) (λ_ _ q=>q.unwish) λ_ _ z=>False.elim z
end
section
variable{st:aB}{rest:jM}{t u:TS}{e:Expr}{te:TE}{pos:aI}
def BA:TS:=λD a H=>D.nx a H
def B2(t u:TS):TS:=λD a H=>t { D with nx:=u D } a H
def Z0:WC X [] BA:=λ_ _ a H _ I h=>wpAny_execs_nil ⟨a,H,I,h⟩
def ZN(g:PS X st t)(i:WC X rest u):WC X (st::rest) (B2 t u):=by
 intro a s k H D I h;refine wpAny_execs_cons (Z1 (g a s k H { D with nx:=u D } I h) λf j q=>?_)
 cases f with
 | next=>
  let⟨b,c,d,q⟩:=q;exact i a j b c D d q
 | ret v=>exact q
 | brk=>exact q
 | cont=>exact q
def ZV(b:PS X st t):WC X [st] t:=by
 intro a s c H D I h;refine wpAny_execs_cons (Z1 (b a s c H D I h) λf d q=>?_)
 cases f with
 | next=>exact wpAny_execs_nil q
 | ret v=>exact q
 | brk=>exact q
 | cont=>exact q
def ZE.quiet{a:ju}{b:St}{H:Hp}{s:ak}(I:ZE X a b H s):interactive X.env=false:=by simp[interactive,I.ok.kind]
def BU(te:TE):TS:=λD a H=>te a H λ_ b=>D.nx a b
def Xu(f:PE X e te)(g:swapsWith e none pos.line X.env=pure false:=by rfl):PS X (.Expr e pos) (BU te):=by
 intro a s b H D I h;exact wpAny_Expr_any (YH (f a s b H _ I h) λv k x c d j i=>⟨b,c,d,i⟩) I.quiet g
def Az(te:TE):TS:=λD a H=>te a H D.rt
def Zq(f:PE X e te):PS X (.Return (some e) pos) (Az te):=by
 intro a s b H D I h;exact wpAny_Return_some (YH (f a s b H _ I h) λv j x c d i g=>⟨x,b,c,d,i,g⟩)
def ZQe(c:TT)(t u:TS):TS:=λD a H=>c a H λb d=>if b=true then t D a d else u D a d
def Zy{c:Expr}{a b:jM}{m:TT}(p:PT X c m)(n:WC X a t)(o:WC X b u):PS X (.If c a b pos) (ZQe m t u):=by
 intro f s g H D I h;refine wpAny_If (Z1 (p f s g H _ I h) ?_);rintro d l ⟨i,j,k⟩
 cases d with
 | true=>exact n f l g i D j k
 | false=>exact o f l g i D j k
def ZOi:TS:=λ_ _ _=>False
def WW{a:jM}:WC X a ZOi:=λ_ _ _ _ _ _ h=>h.elim
end
abbrev TG:=V->St->Hp->(St->Hp->Prop)->Prop
abbrev Oz:=je->St->Hp->(St->Hp->Prop)->Prop
def PG(X:Cx)(a:Expr)(t:TG):Prop:=
 ∀(b:ju)(s:ak)(e:St)(H:Hp)(v:V)(u:ai)(Q:St->Hp->Prop),ZE X b e H s->ZU v u->t v e H Q ->
  aA (az X.prog X.w) X.A (assign a X.env u) (λ_ f=>∃ c d,ZE X b c d f/\Q c d) X.xe s
def LV(X:Cx)(h:jz)(t:Oz):Prop:=
 ∀(a:ju)(s:ak)(f:St)(H:Hp)(e:je)(d:jd)(Q:St->Hp->Prop),ZE X a f H s->ZQ e d->t e f H Q ->
  aA (az X.prog X.w) X.A (assignInOrder ((assignEach h X.env).map (·.2)) d) (λ_ g=>∃ b c,ZE X a b c g/\Q b c) X.xe s
abbrev KR:=V->V->V->Hp->(Hp->Prop)->Prop
def FB(X:Cx)(t:KR):Prop:=
 ∀(a:ju)(s:ak)(e:St)(H:Hp)(o i v:V)(d c u:ai)(Q:Hp->Prop),ZE X a e H s->ZU o d->ZU i c->ZU v u->t o i v H Q ->
  aA (az X.prog X.w) X.A (setItem d c u) (λ_ f=>∃ b,ZE X a e b f/\Q b) X.xe s
section
variable{pos:aI}
def QT(i:Nat):TG:=λv a H Q=>Q (a.set i (some v)) H
def Qo{i:Nat}{x:Str}(c:X.N.Nodup)(e:X.N[i]? = some x)(f:ND X.env.scope x)(d:X.fn x=true\/X.env.scope.names.lookup x=some .local:=by first | exact .inl rfl | exact .inr rfl | assumption):PG X (.Name x pos) (QT i):=by
 intro a s j H v u Q I r h;exact wpAny_assign_Name (Mh I c e f r (λg b=>⟨_,H,b,h⟩) d)
def Ye(i:Nat){x:Str}(a:X.N.Nodup)(c:X.N[i]? = some x:=by rfl)(d:ND X.env.scope x:=by exact Or.inl Z)(b:X.fn x=true\/X.env.scope.names.lookup x=some .local:=by first | exact .inl rfl | exact .inr rfl | assumption):PG X (.Name x pos) (QT i):=Qo a c d b
def HM:Oz:=λa b H Q=>a=[]/\Q b H
inductive Qf(t:TG)(u:Oz)(c:je)(d:L2.St)(H:Hp)(Q:L2.St->Hp->Prop):Prop
 |mk(v r:_)(_:c=v::r)(_:t v d H λa b=>u r a b Q)
def Q2:LV X [] HM:=by
 intro a s b H d c Q I r h;let⟨e,h⟩:=h;subst e;cases r;exact assignInOrder_nil ⟨b,H,I,h⟩
def Y6{e:Expr}{b:jz}{t:TG}{u:Oz}(i:PG X e t)(j:LV X b u)(k:(assignEach (e::b) X.env).map (·.2)=assign e X.env::(assignEach b X.env).map (·.2):=by rfl):LV X (e::b) (Qf t u):=by
 intro a s o H w p Q I r h;let⟨v,q,g,h⟩:=h;subst g
 cases r with
 | cons r m=>
  rw[k];refine assignInOrder_cons (Z1 (i a s o H _ _ _ I r h) ?_);rintro _ n ⟨c,d,f,l⟩;exact j a n c d _ _ Q f m l
inductive Nv(K:zZ)(n:Nat)(t:Oz)(v:V)(c:L2.St)(H:Hp)(Q:L2.St->Hp->Prop):Prop
 |mk(a b:_)(_:v=.ref a)(_:Za K H a b)(_:b.length=n)(_:t b c H Q)
def PM{d:jz}{k:Nat}{t:Oz}{n:Nat}(q:X.calm=true)(h:LV X d t)(x:(assignEach d X.env).length=n:=by rfl)(f:(assignEach d X.env).findIdx? (·.1)=none:=by rfl):PG X (.Tuple d k pos) (Nv X.K n t):=by
 intro c s j H v u Q I r g;let⟨a,C,m,y,w,g⟩:=g;subst m;cases r;let⟨B,i,z,D⟩:=I.tuple y;refine assign_Tuple_tuple (I.ok.hd q) z (by simp[x,<-w,i.length]) f λp A=>?_
 let l:ZE X c j H { s with heap:=p }:=I.kept (t':=s.toks) λb o e=>A b o (zL (zW e)) e;exact h c _ j H C _ Q l (by simpa using i) g
def BB(f e:TE)(t:KR):TG:=λv a H Q=>f a H λo b=>e a b λi c=>t o i v c λd=>Q a d
def JG{o i:Expr}{f e:TE}{t:KR}(w:PE X o f)(q:PE X i e)(z:FB X t)(p:∀ v,assign (.Subscript o i pos) X.env v=(do
   let b<-holding [v] (aG o X.env)
   let c<-holding [v,b] (aG i X.env)
   standAt pos
   holding [v,b,c] (setItem b c v)
   release [v,b,c] []):=by intro _;rfl):PG X (.Subscript o i pos) (BB f e t):=by
 intro a s d H v u Q I r h;rw[p];refine aa (af (YH (w a s d H _ I h) λb F x g l D A=>?_));refine aa (af (YH (q a F d g _ l A) λc G y j m E B=>?_));refine aa (ah (aa (af (Z1 (z a G d j x y v b c u _ m D E r B) ?_))));rintro _ J ⟨k,n,C⟩;exact wpAny_release ⟨d,k,n,C⟩
def JA(c:TE)(g:TG):TS:=λD a H=>c a H λx b=>g x a b D.nx
def Q5{b e:Expr}{c:TE}{g:TG}(k:PE X e c)(l:PG X b g)(m:swapsWithSole [b] e pos.line X.env=pure false:=by rfl)(n:swappedStores [b] e X.env=pure none:=by rfl)(j:(assignEach [b] X.env).map (·.2)=[assign b X.env]:=by rfl):PS X (.Assign [b] e pos) (JA c g):=by
 intro a s d H D I h;refine wpAny_Assign_stores (YH (k a s d H _ I h) λv r x f i p o=>?_) m n;rw[j];exact Z1 (l a r d f x v _ i p o) λ_ t q=>q
def Q9{i:Nat}{x:Str}{e:Expr}{c:TE}{a:aI}(j:X.N.Nodup)(m:X.N[i]? = some x)(o:ND X.env.scope x)(k:PE X e c)(n:swapsWith e (some (.Name x a)) pos.line X.env=pure false:=by rfl)(l:X.fn x=true\/X.env.scope.names.lookup x=some .local:=by first | exact .inl rfl | exact .inr rfl | assumption):
  PS X (.Assign [.Name x a] e pos) (JA c (QT i)):=by
 intro b s r H D I h;refine wpAny_Assign_Name (YH (k b s r H _ I h) λv t y d f q p=>?_) n;exact Mh f j m o q (λu g=>⟨_,d,g,p⟩) l
def Zo(i:Nat){x:Str}{e:Expr}{b:TE}{a:aI}(c:X.N.Nodup)(d:PE X e b)(g:X.N[i]? = some x:=by rfl)(j:ND X.env.scope x:=by exact Or.inl Z)(h:swapsWith e (some (.Name x a)) pos.line X.env=pure false:=by rfl)(f:X.fn x=true\/X.env.scope.names.lookup x=some .local:=by first | exact .inl rfl | exact .inr rfl | assumption):
  PS X (.Assign [.Name x a] e pos) (JA b (QT i)):=Q9 c g j d h f
inductive Os(c:TT)(h:TS)(D:Yx)(a:L2.St)(H:Hp):Prop
 |mk(W:Nat->St->Hp->Prop)(_:∃ m,W m a H)(_:∀ m a H,W m a H->c a H λb f=>if b=true then ∃ N:St->Hp->Prop,(∀ d e,N d e->∃ g,g<m/\W g d e)/\h { D with nx:=N,ct:=N,bk:=D.nx } a f else D.nx a f)
def N1{c:Expr}{g:jM}{F:TT}{E:TS}(C:PassesOwn (az X.prog X.w) X.A X.env X.xe)(K:PT X c F)(J:WC X g E):PS X (.While c g [] pos) (Os F E):=by
 intro a s S H D I h;let⟨W,⟨L,Q⟩,j⟩:=h;refine wpAny_While (codeAny_whileLoop (λn M=>∃ k u,ZE X a k u M/\W n k u) ?_ L ⟨S,H,I,Q⟩);rintro n O ⟨e,x,G,R⟩;refine wpAny_passesOwn C (Z1 (K a O e x _ G (j n e x R)) ?_);rintro b P ⟨y,z,l⟩
 cases b with
 | true=>
  let⟨N,B,l⟩:=l;rw[aO rfl];refine wpAny_passesOwn C (Z1 (J a P e y _ z l) λf T m=>?_)
  cases f with
  | next=>
   let⟨d,i,o,r⟩:=m;let⟨q,p,t⟩:=B d i r;exact⟨q,p,d,i,o,t⟩
  | cont=>
   let⟨d,i,o,r⟩:=m;let⟨q,p,t⟩:=B d i r;exact⟨q,p,d,i,o,t⟩
  | brk=>exact m
  | ret v=>exact m
 | false=>
  rw[aM zU];exact wpAny_execs_nil ⟨e,y,z,l⟩
end
structure It where
 go:Nat->Hp->Prop
 yld:Nat->Hp->V->Hp->Prop
 stop:Nat->Hp->Prop
def VF(X:Cx)(a:ju)(H:Hp)(b:aj):Prop:=
 H b=none/\b≠X.env.locals/\b∉X.fs/\(b∈X.ex\/X.s₀.heap.objs.size<=b)/\(∀ x c,X.env.cells.lookup x=some c->c≠b)/\∀ p∈X.pn++a,p.1≠b
def ZE.fpOk{X:Cx}{a:ju}{i:St}{H f:Hp}{s:ak}{b:aj}(I:ZE X a i H s)(d:s.heap.objs.size<=b)(g:f b=none):VF X a f b:=by
 refine⟨g,xH (yL I.lt d),I.nofs d,.inr (zE I.sz d),λx c e z=>?_,λp h z=>?_⟩
 ·let⟨v,q⟩:=I.cell x c e;exact absurd (yL q.lt (by rw[z];exact d)) (xG _)
 ·exact absurd (yL (zW (I.pin p h).1) (by rw[z];exact d)) (xG _)
structure VX(P:al)(w:ar)(K:zZ)(tg:Expr)(J:It)(fp:jv)(it:aj)(tn:Nat->aC->Prop):Prop where
 mem:it∈fp
 obj:∀ i h,tn i h->∀ b∈fp,∃ o,h.get? b=some o/\∀ v,o.data≠.cell v
 keep:∀ i h h',tn i h->(∀ b∈fp,∀ o,h.get? b=some o->h'.get? b=some o)->tn i h'
 item:∀(X:Cx),X.prog=P->X.w=w->X.K=K->X.calm=true->∀(i:Nat)(jZ:ju)(s:ak)(σ:St)(H:Hp)(E:ja),ZE X jZ σ H s->(∀ b∈fp,VF X jZ H b)->tn i s.heap->J.go i H ->
  aA (az P w) X.A (pyNext (.ref it)) (λr s1=>∃ u,r=some u /\
   aA (az P w) X.A (letOwnedTupleGo tg (.ref it) u) (λ_ s2=>∃ x H',ZE X jZ σ H' s2/\ZU x u/\J.yld i H x H'/\tn (i+1) s2.heap/\∀ b∈fp,H' b=none) E s1) E s
 done:∀(X:Cx),X.prog=P->X.w=w->X.K=K->X.calm=true->∀(i:Nat)(jZ:ju)(s:ak)(σ:St)(H:Hp)(E:ja),ZE X jZ σ H s->(∀ b∈fp,VF X jZ H b)->tn i s.heap->J.stop i H ->
  aA (az P w) X.A (pyNext (.ref it)) (λr s1=>r=none/\ZE X jZ σ H s1) E s
 self:∀(A:aw)(i:Nat)(s:ak)(Q:ja)(E:ja),tn i s.heap->Q (.ref it) s->aA (az P w) A (pyIter (.ref it)) Q E s
abbrev TI:=St->Hp->(It->Hp->Prop)->Prop
def Iq(X:Cx)(a:ju)(j:St)(i:Expr)(R:It->Hp->Prop)(d:ai)(g:ak):Prop:=
 ∃(f:aj)(e:jv)(h:Nat->aC->Prop)(J:It)(c:Hp),d=.ref f/\ZE X a j c g/\VX X.prog X.w X.K i J e f h/\h 0 g.heap/\(∀ b∈e,VF X a c b)/\R J c
def PI(X:Cx)(e b:Expr)(f:TI):Prop:=
 ∀(a:ju)(s:ak)(c:St)(H:Hp)(R:It->Hp->Prop),ZE X a c H s->f c H R ->
  aA (az X.prog X.w) X.A (aG b X.env) (λv d=>aA (az X.prog X.w) X.A (pyIter v) (Iq X a c e R) X.xe d) X.xe s
def Lk{M:Model}{A:aw}{E:ja}{s:ak}{c:Expr}{b:aj}{u:ai}{o:aH}{n:String}{d:jA}{Q:Unit->ak->Prop}(i:s.heap.get? b=some o)(e:o.cls=.type n)(f:o.data=.fields d)(g:["enumerate","zip","dict_itemiterator","dict_reverseitemiterator","odict_iterator","itertools.zip_longest","itertools.pairwise"].contains n=false)(a:Q () s):aA M A (letOwnedTupleGo c (.ref b) u) Q E s:=by
 unfold letOwnedTupleGo;cases c <;> first
  | exact ad a
  | (cases u <;> first
    | exact ad a
    | (refine aa (wpAny_load i ?_);rw[e,f];show aA M A (if (["enumerate","zip","dict_itemiterator","dict_reverseitemiterator","odict_iterator","itertools.zip_longest","itertools.pairwise"].contains n&&d[0]? == some (rawInt _))=true then _ else _) Q E s;rw[aM (by intro h;rw[g,uT] at h;cases h)];exact ad a))
def NJ(K:zZ)(a:aj):It:=
 ⟨λi H=>∃ b x,ZF K H a b/\b[i]? = some x,λi H x c=>c=H/\∀ b,ZF K H a b->b[i]? = some x,λi H=>∃ b,ZF K H a b/\b.length<=i⟩
def GN(K:zZ)(a:aj):It:=
 ⟨λi H=>∃ b x,Za K H a b/\b[i]? = some x,λi H x c=>c=H/\∀ b,Za K H a b->b[i]? = some x,λi H=>∃ b,Za K H a b/\b.length<=i⟩
def OX(b:Int)(n:Nat):It:=⟨λi _=>i<n,λi H x a=>a=H/\x=.int (b+i),λi _=>n<=i⟩
def BS{P:al}{w:ar}{K:zZ}{tg:Expr}(a l:aj):VX P w K tg (NJ K a) [l] l (λi h=>h.IsListIter l a i) where
 mem:=by simp
 obj:=λi h f b j=>by
  let e:b=l:=by simpa using j
  subst e;let⟨o,e,c,d⟩:=f;exact⟨o,e,λv z=>by rw[d] at z;cases z⟩
 keep:=λi h n f k=>f.at λo e=>k l (by simp) o e
 item:=by
  intro X F J D O i g s Q H E I q f G;subst F J D;let⟨xs,x,r,L⟩:=G;let⟨M,N,p,Y⟩:=I.list r;let⟨u,U,ru⟩:=N.get L;let⟨t,y,T,A,B,C⟩:=q l (by simp)
  refine wpAny_pyNext_list_item f p.isList (x:=u) (by simpa using U) λn m sb=>?_
  let R:ZE X g Q H { s with heap:=n }:=I.turned (t':=s.toks) (λb o j e=>(sb.2 b j).trans e) t y A B C;let⟨o,e,c,d⟩:=id m;exact⟨u,Z,Lk (s:={ s with heap:=n }) e c d (by decide) ⟨x,H,R,ru,⟨Z,λys V=>by rw[I.list_inj V r];exact L⟩,m,λb j=>(q b j).1⟩⟩
 done:=by
  intro X F J D O i g s Q H E I q f G;subst F J D;let⟨xs,r,L⟩:=G;let⟨M,N,p,Y⟩:=I.list r;let⟨t,y,T,A,B,C⟩:=q l (by simp)
  let hl:=N.length;exact wpAny_pyNext_list_end (I.ok.hd O) f p.isList (by simp;lia) λn S=>⟨Z,I.turned (t':=s.toks) (λb o j e=>S b o j e) t y A B C⟩
 self:=λ_ _ _ _ _ f h=>wpAny_pyIter_listiter f h
def ZIE{P:al}{w:ar}{K:zZ}{tg:Expr}(a l:aj):VX P w K tg (GN K a) [l] l (λi h=>h.IsTupleIter l a i) where
 mem:=by simp
 obj:=λi h f b j=>by
  let e:b=l:=by simpa using j
  subst e;let⟨o,e,c,d⟩:=f;exact⟨o,e,λv z=>by rw[d] at z;cases z⟩
 keep:=λi h q f k=>f.at λo e=>k l (by simp) o e
 item:=by
  intro X G L F O i g s Q H E I r f J;subst G L F;let⟨xs,x,t,M⟩:=J;let⟨m,N,p,Y⟩:=I.tuple t;let⟨u,U,ru⟩:=N.get M;let⟨y,A,T,B,C,D⟩:=r l (by simp)
  refine wpAny_pyNext_tuple_item f (show s.heap.IsTuple a m.toArray from p) (x:=u) (by simpa using U) λq n sb=>?_
  let R:ZE X g Q H { s with heap:=q }:=I.turned (t':=s.toks) (λb o j e=>(sb.2 b j).trans e) y A B C D;let⟨o,e,c,d⟩:=id n;exact⟨u,Z,Lk (s:={ s with heap:=q }) e c d (by decide) ⟨x,H,R,ru,⟨Z,λys V=>by rw[I.tuple_inj V t];exact M⟩,n,λb j=>(r b j).1⟩⟩
 done:=by
  intro X G L F O i g s Q H E I r f J;subst G L F;let⟨xs,t,M⟩:=J;let⟨m,N,p,Y⟩:=I.tuple t;let⟨y,A,T,B,C,D⟩:=r l (by simp)
  let hl:=N.length;exact wpAny_pyNext_tuple_end (I.ok.hd O) f (show s.heap.IsTuple a m.toArray from p) (by simp;lia) λq S=>⟨Z,I.turned (t':=s.toks) (λb o j e=>S b o j e) y A B C D⟩
 self:=λ_ _ _ _ _ f h=>wpAny_pyIter_tupleiter f h
def C5{P:al}{w:ar}{K:zZ}{Q:Expr}(c:aj)(m:Int)(n:Nat):VX P w K Q (OX m n) [c] c (λi h=>IsRangeIter h c (m+(i:Nat) * 1) ((n:Int)-(i:Nat)) 1) where
 mem:=by simp
 obj:=λi h a b f=>by
  let e:b=c:=by simpa using f
  subst e;exact⟨_,a,λv z=>by
   let R:Data.fields _=Data.cell v:=z;cases R⟩
 keep:=λi h j a k=>k c (by simp) _ a
 item:=by
  intro X A D y B i d s G H E I l a C;subst A D y;let⟨p,q,M,r,u,x⟩:=l c (by simp)
  let W:=Walks.range (prog:=X.prog) (w:=X.w) (I.ok.hd B) c m 1 n;refine W.item i s _ _ C a λv j F N g O=>?_;let⟨t,rfl⟩:=N;let J:ZE X d G H { s with heap:=j,toks:=F }:=I.turned (λb o f e=>O b o (by simpa using f) e) p q r u x
  refine⟨_,Z,Lk (s:={ s with heap:=j,toks:=F }) (n:= "range_iterator") g Z Z (by decide) ⟨.int (m+i),H,J,⟨t,?_⟩,⟨Z,Z⟩,g,λb f=>(l b f).1⟩⟩
  rw[Int.mul_one]
 done:=by
  intro X A D y B i d s G H E I l a C;subst A D y;let⟨p,q,M,r,u,x⟩:=l c (by simp)
  exact wpAny_pyNext_range_end (I.ok.hd B) a (by have:n<=i:=C;lia) λj L=>⟨Z,I.turned (t':=s.toks) (λb o f e=>L b o f e) p q r u x⟩
 self:=λ_ _ _ _ _ a h=>wpAny_pyIter_rangeiter a h
section
variable{tg:Expr}
inductive OD(K:zZ)(R:It->Hp->Prop)(x:V)(b:Hp):Prop
 |mk(a:_)(_:x=.ref a)(_:∃ c,ZF K b a c)(_:R (NJ K a) b)
def En(K:zZ)(b:TE):TI:=λc H R=>b c H λx a=>OD K R x a
inductive Nb(K:zZ)(R:It->Hp->Prop)(x:V)(b:Hp):Prop
 |mk(a:_)(_:x=.ref a)(_:∃ c,Za K b a c)(_:R (GN K a) b)
def ZQq(K:zZ)(b:TE):TI:=λc H R=>b c H λx a=>Nb K R x a
def Xh{l:Expr}{g:TE}(k:PE X l g):PI X tg l (En X.K g):=by
 intro c s u H R I h;refine YH (k c s u H _ I h) λv f x i d t r=>?_;let⟨a,e,⟨z,m⟩,q⟩:=r;subst e;cases t;let⟨n,y,p,w⟩:=d.list m;refine wpAny_pyIter_list p.isList ?_;refine⟨f.heap.objs.size,[f.heap.objs.size],_,_,i,Z,d.kept (t':=f.toks) λb o e=>zT _ e,BS a _,⟨_,yU _ Z,Z,Z⟩,λb j=>?_,q⟩;let e:b=f.heap.objs.size:=by simpa using j
 subst e;exact d.fpOk (zY _) (d.hok.fresh (zY _))
def KM{l:Expr}{i:TE}(m:PE X l i):PI X tg l (ZQq X.K i):=by
 intro c s u H R I h;refine YH (m c s u H _ I h) λv d x j f t r=>?_;let⟨a,e,⟨z,n⟩,q⟩:=r;subst e;cases t;let⟨g,y,p,w⟩:=f.tuple n;refine wpAny_pyIter_tuple (show d.heap.IsTuple a g.toArray from p) ?_;refine⟨d.heap.objs.size,[d.heap.objs.size],_,_,j,Z,f.kept (t':=d.toks) λb o e=>zT _ e,ZIE a _,⟨_,yU _ Z,Z,Z⟩,λb k=>?_,q⟩;let e:b=d.heap.objs.size:=by simpa using k
 subst e;exact f.fpOk (zY _) (f.hok.fresh (zY _))
def HQ{d:ju}{h:St}{H:Hp}{s:ak}{R:It->Hp->Prop}{E:ja}{a c:Int}{t u v:Tok}{g:Nat}(I:ZE X d h H s)(k : -(2 ^ 62)<=a)(l:a<2 ^ 62)(m : -(2 ^ 62)<=c)(n:c<2 ^ 62)(q:R (OX a (c-a).toNat) H):aA (az X.prog X.w) X.A (pyIter (.ref s.heap.objs.size)) (Iq X d h tg R) E { s with heap:=s.heap.push { cls:=.type "range",data:=.fields #[.int a t,.int c u,.int 1 v] },toks:=g }:=by
 refine wpAny_pyIter_range (IsRange.new ..) (small_one k l m n) ?_;let f:ZE X d h H { s with heap:=s.heap.push { cls:=.type "range",data:=.fields #[.int a t,.int c u,.int 1 v] },toks:=g }:=I.kept λb o e=>zT _ e;refine⟨(s.heap.push { cls:=.type "range",data:=.fields #[.int a t,.int c u,.int 1 v] }).objs.size,[(s.heap.push { cls:=.type "range",data:=.fields #[.int a t,.int c u,.int 1 v] }).objs.size],_,_,H,Z,
  f.kept (t':=g) λb o e=>zT _ e,C5 _ a (c-a).toNat,?_,λb p=>?_,q⟩
 ·let i:a+((0:Nat):Int) * 1=a:=by simp
  let j:(((c-a).toNat:Nat):Int)-((0:Nat):Int)=Builtin.Range.rangeSize a c 1:=by rw[rangeSize_one];split <;> lia
  show IsRangeIter _ _ (a+((0:Nat):Int) * 1) ((((c-a).toNat:Nat):Int)-((0:Nat):Int)) 1;rw[i,j];exact yU _ Z
 ·let e:b=(s.heap.push { cls:=.type "range",data:=.fields #[.int a t,.int c u,.int 1 v] }).objs.size:=by simpa using p
  subst e;exact f.fpOk (zY _) (f.hok.fresh (zY _))
inductive Op(R:It->Hp->Prop)(b:je)(a:Hp):Prop
 |mk(j:Int)(_:b=[.int j])(_ : -(2 ^ 62)<=j)(_:j<2 ^ 62)(_:R (OX 0 j.toNat) a)
def ZPg(b:TA):TI:=λd H R=>b d H λc a=>Op R c a
inductive OG(R:It->Hp->Prop)(b:je)(a:Hp):Prop
 |mk(i j:Int)(_:b=[.int i,.int j])(_ : -(2 ^ 62)<=i/\i<2 ^ 62 /\ -(2 ^ 62)<=j/\j<2 ^ 62)(_:R (OX i (j-i).toNat) a)
def ZQG(b:TA):TI:=λd H R=>b d H λc a=>OG R c a
def P3{a:Expr}{f:TA}{p c:aI}(k:Gl X "range")(l:X.mg "range" = none)(i:PA X [a] f)(m:aq [a] X.env=[(false,aG a X.env)]:=by rfl):PI X tg (.Call (.Name "range" p) [a] [] c) (ZPg f):=by
 intro b s v H R I h;refine Call_ (Py I k l boot_range (PyProof.Rows.callWith_type1 (YH (i c b s v H _ I h) λy x z w g o d=>?_) m rfl));let⟨j,e,d,n,q⟩:=d;subst e
 cases o with
 | cons r u=>
  cases u;let⟨t,rfl⟩:=r;exact call_range_1 (HQ g ∅ ∅ d n (by simpa using q))
def LF{a b:Expr}{l:TA}{p f:aI}(o:Gl X "range")(u:X.mg "range" = none)(n:PA X [a,b] l)(v:aq [a,b] X.env=[(false,aG a X.env),(false,aG b X.env)]:=by rfl)(c:aq [b] X.env=[(false,aG b X.env)]:=by rfl):
  PI X tg (.Call (.Name "range" p) [a,b] [] f) (ZQG l):=by
 intro d s B H R I h;refine Call_ (Py I o u boot_range (PyProof.Rows.callWith_type1 (YH (n f d s B H _ I h) λF D G C m A g=>?_) (by rw[v,c]) (by rw[c];rfl)))
 let⟨i,j,e,⟨g,w,x,y⟩,q⟩:=g;subst e
 cases A with
 | cons r k=>
  cases k with
  | cons z k=>
   cases k;let⟨t,rfl⟩:=r;let⟨E,rfl⟩:=z;exact call_range_2 (HQ m g w x y q)
def BJ(k:TI)(g:TG)(j:TS):TS:=λD a H=>k a H λJ f=>∃ W:Nat->Nat->St->Hp->Prop,(∃ m,W 0 m a f)/\∀ i m a H,W i m a H ->
 (J.stop i H/\D.nx a H)\/(J.go i H/\∃ N:St->Hp->Prop,(∀ c b,N c b->∃ e,e<m/\W (i+1) e c b)/\∀ x b,J.yld i H x b->g x a b λd h=>j { D with nx:=N,ct:=N,bk:=D.nx } d h)
def NA(a:jv)(h:aC):ju:=a.filterMap λb=>(h.get? b).map λo=>(b,o)
def NM{a:jv}{h:aC}{b:aj}{o:aH}(c:b∈a)(e:h.get? b=some o):(b,o)∈NA a h:=xI.mpr ⟨b,c,by rw[e];rfl⟩
def B9{a:jv}{h:aC}{p:aj×aH}(f:p∈NA a h):p.1∈a/\h.get? p.1=some p.2:=by
 let⟨b,d,e⟩:=xI.mp f
 cases q:h.get? b with
 | none=>rw[q] at e;cases e
 | some o=>
  rw[q] at e;let c:(b,o)=p:=zG.inj e;subst c;exact⟨d,q⟩
def ZE.pinned{a:ju}{h:St}{H:Hp}{s:ak}{c:jv}(I:ZE X a h H s)(l:∀ b∈c,VF X a H b)(m:∀ b∈c,∃ o,s.heap.get? b=some o/\∀ v,o.data≠.cell v):ZE X (a++NA c s.heap) h H s:=
 I.pins_of λp n=>(yX.mp n).elim (λz=>I.pin p (xW _ z)) λz=>by
  let⟨g,e⟩:=B9 z;let⟨i,j,k,_⟩:=l p.1 g;let⟨o,f,d⟩:=m p.1 g;rw[e] at f;cases f;exact⟨e,i,j,k,d⟩
def ZE.unpinned{a d:ju}{b:St}{H:Hp}{s:ak}(I:ZE X (a++d) b H s):ZE X a b H s:=I.pins_of λp c=>I.pin p (xW _ (xD _ c))
def WU{q:Expr}{C:jM}{wi:TI}{g:TG}{tb:TS}{Y:aI}(L:PassesOwn (az X.prog X.w) X.A X.env X.xe)(hc:X.calm=true)(hi:PI X tg q wi)(hg:PG X tg g)(p:WC X C tb)(hs:∀ x,foldedSetIterable q X.env x=pure x:=by intro _;rfl):PS X (.For tg q C [] Y) (BJ wi g tb):=by
 intro a s σ H D I h;refine wpAny_For (Z1 (hi a s σ H _ I h) λv s1 h1=>Z1 h1 λa2 s2 h2=>?_) hs;let⟨it,G,tn,J,H2,e,I2,T,a0,f2,W,⟨m0,w0⟩,Q⟩:=h2;subst e;let t:∀{B:Hp},(∀ b∈G,B b=none)->∀ b∈G,VF X a B b:=λhn b p=>⟨hn b p,(f2 b p).2⟩;refine codeAny_forLoop_any (λn s'=>∃ i y B,ZE X a y B s'/\tn i s'.heap/\(∀ b∈G,B b=none)/\W i n y B) ?_ m0 ⟨0,σ,H2,I2,a0,λb p=>(f2 b p).1,w0⟩;rintro n s3 ⟨i,z,R,I3,O,K,w3⟩;rcases Q i n z R w3 with ⟨P,qn⟩ | ⟨go,N,hN,step⟩
 ·refine wpAny_passesOwn L (Z1 (T.done X rfl rfl rfl hc i a s3 z R X.xe I3 (t K) O P) ?_);rintro r s4 ⟨V,I4⟩;subst V;exact wpAny_execs_nil ⟨z,R,I4,qn⟩
 ·refine wpAny_passesOwn L (Z1 (T.item X rfl rfl rfl hc i a s3 z R X.xe I3 (t K) O go) ?_);rintro r s4 ⟨u,V,h4⟩;subst V;refine wpAny_passesOwn L (Z1 h4 ?_);rintro _ s5 ⟨x,H5,I5,r5,y5,F,U⟩;let S:=I5.pinned (t U) (T.obj _ _ F);refine wpAny_passesOwn L (Z1 (hg _ s5 z H5 x u _ S r5 (step x H5 y5)) ?_);rintro _ s6 ⟨a1,H6,I6,q6⟩;refine wpAny_passesOwn L (Z1 (p _ s6 a1 H6 _ I6 q6) λf s7 E=>?_);let l:∀{c:St}{j:Hp},ZE X (a++NA G s5.heap) c j s7->N c j->∃ m,m<n/\∃ i y B,ZE X a y B s7/\tn i s7.heap/\(∀ b∈G,B b=none)/\W i m y B:=fun{c j} k M=>by
   let⟨m',hm,w7⟩:=hN c j M;refine⟨m',hm,i+1,c,j,k.unpinned,T.keep _ _ _ F λb p o e=>(k.pin (b,o) (xW _ (xW _ (NM p e)))).1,λb p=>?_,w7⟩;let⟨o,e,d⟩:=T.obj _ _ F b p;exact(k.pin (b,o) (xW _ (xW _ (NM p e)))).2.1
  cases f with
  | next=>let⟨c,j,k,M⟩:=E;exact l k M
  | cont=>let⟨c,j,k,M⟩:=E;exact l k M
  | brk=>let⟨c,j,k,E⟩:=E;exact⟨c,j,k.unpinned,E⟩
  | ret v=>let⟨x7,c,j,k,r7,E⟩:=E;exact⟨x7,c,j,k.unpinned,r7,E⟩
end
def Ui{K:zZ}{a:aj}{xs:je}{g:TG}{n:TS}{D:Yx}{b:St}{H:Hp}(c:Nat->St->Hp->Prop)(o:c 0 b H)(t:∀ i b H,i<=xs.length->c i b H->ZF K H a xs)(u:∀ i x b H,xs[i]? = some x->c i b H->g x b H λh k=>n { D with nx:=c (i+1),ct:=c (i+1),bk:=D.nx } h k)(r:∀ b H,c xs.length b H->D.nx b H):
  ∃ W:Nat->Nat->St->Hp->Prop,(∃ m,W 0 m b H)/\∀ i m b H,W i m b H ->
   ((NJ K a).stop i H/\D.nx b H)\/((NJ K a).go i H/\∃ N:St->Hp->Prop,(∀ f d,N f d->∃ l,l<m/\W (i+1) l f d)/\∀ x d,(NJ K a).yld i H x d->g x b d λh k=>n { D with nx:=N,ct:=N,bk:=D.nx } h k):=by
 exists λi m b H=>m=xs.length-i/\i<=xs.length/\c i b H,⟨xs.length,by simp,yW _,o⟩
 rintro i m b H ⟨rfl,s,p⟩;let q:=t i b H s p;by_cases j:i<xs.length
 ·refine .inr ⟨⟨xs,xs[i],q,by simp[j]⟩,c (i+1),λf d v=>⟨xs.length-(i+1),by exact sX ‹_› (xT _),Z,j,v⟩,λx d y=>?_⟩
  let⟨e,y⟩:=y;subst e;exact u i x b _ (y xs q) p
 ·let e:i=xs.length:=∅
  subst e;exact .inl ⟨⟨xs,q,zY _⟩,r b H p⟩
def Ps{lo:Int}{n:Nat}{g:TG}{l:TS}{D:Yx}{a:St}{H:Hp}(c:Nat->St->Hp->Prop)(o:c 0 a H)(r:∀ i a H,i<n->c i a H->g (.int (lo+i)) a H λh j=>l { D with nx:=c (i+1),ct:=c (i+1),bk:=D.nx } h j)(q:∀ a H,c n a H->D.nx a H):
  ∃ W:Nat->Nat->St->Hp->Prop,(∃ m,W 0 m a H)/\∀ i m a H,W i m a H ->
   ((OX lo n).stop i H/\D.nx a H)\/((OX lo n).go i H/\∃ N:St->Hp->Prop,(∀ f b,N f b->∃ k,k<m/\W (i+1) k f b)/\∀ x b,(OX lo n).yld i H x b->g x a b λh j=>l { D with nx:=N,ct:=N,bk:=D.nx } h j):=by
 exists λi m a H=>m=n-i/\i<=n/\c i a H,⟨n,by simp,yW _,o⟩
 rintro i m a H ⟨rfl,t,p⟩;by_cases d:i<n
 ·refine .inr ⟨d,c (i+1),λf b s=>⟨n-(i+1),by exact sX ‹_› (xT _),Z,d,s⟩,λx b y=>?_⟩
  let⟨e,y⟩:=y;subst e y;exact r i a _ d p
 ·let e:i=n:=∅
  subst e;exact .inl ⟨zY _,q a H p⟩
abbrev R2:=V->V->Hp->VK->Prop
def Ys(X:Cx)(f:ai->ai->Sem ai)(r:R2):Prop:=
 ∀(a:ju)(s:ak)(b:St)(H:Hp)(x y:V)(v u:ai)(Q:VK),ZE X a b H s->ZU x v->ZU y u->r x y H Q ->
  aA (az X.prog X.w) X.A (f v u) (EP X a b Q) X.xe s
def Ie(X:Cx)(f:ai->Sem ai)(r:V->Hp->VK->Prop):Prop:=
 ∀(a:ju)(s:ak)(b:St)(H:Hp)(x:V)(v:ai)(Q:VK),ZE X a b H s->ZU x v->r x H Q ->
  aA (az X.prog X.w) X.A (f v) (EP X a b Q) X.xe s
def Wq(X:Cx)(f:ai)(r:je->Hp->VK->Prop):Prop:=
 ∀(a:ju)(s:ak)(d:St)(H:Hp)(c:je)(b:jd)(Q:VK),ZE X a d H s->ZQ c b->r c H Q ->
  aA (az X.prog X.w) X.A (call f b) (EP X a d Q) X.xe s
def NL(r:R2)(d e:TE):TE:=λa H Q=>d a H λx b=>e a b λy c=>r x y c Q
def tUn(r:V->Hp->VK->Prop)(b:TE):TE:=λc H Q=>b c H λx a=>r x a Q
inductive rI(C:Int->Int->Prop)(g:Int->Int->V)(x y:V)(H:Hp)(Q:VK):Prop
 |mk(i j:_)(_:x=.int i)(_:y=.int j)(_:C i j)(_:Q (g i j) H)
inductive Pk(g:Int->Int->V)(x y:V)(H:Hp)(Q:VK):Prop
 |mk(i j:_)(_:x=.int i)(_:y=.int j)(_:Q (g i j) H)
inductive rU(g:Int->V)(x:V)(H:Hp)(Q:VK):Prop
 |mk(i:_)(_:x=.int i)(_:Q (g i) H)
section
variable{a b c:Expr}{ta tb tc:TE}{pos:aI}
def Jk(o:PE X a ta)(p:PE X b tb){d:ju}{s:ak}{g:St}{H:Hp}{R:V->V->Hp->Prop}(I:ZE X d g H s)(h:ta g H λx l=>tb g l λy e=>R x y e){Q:ja}{f:ai->ai->Sem ai}(q:∀ v u k x y e,ZE X d g e k->ZU x v->ZU y u->R x y e->aA (az X.prog X.w) X.A (f v u) Q X.xe k):
  aA (az X.prog X.w) X.A (aG a X.env) (λv i=>aA (az X.prog X.w) X.A (aG b X.env) (λu j=>aA (az X.prog X.w) X.A (f v u) Q X.xe j) X.xe i) X.xe s:=by
 refine YH (o d s g H _ I h) λv C x l m z r=>?_;refine YH (p d C g l _ m r) λu k y e n B t=>?_;exact q v u k x y e n z B t
def Zu{e:Operator}{r:R2}(k:Ys X (binaryOp e) r)(i:PE X a ta)(j:PE X b tb):PE X (.BinOp a e b pos) (NL r ta tb):=by
 intro d s o H Q I h;exact wpAny_BinOp (Jk i j I h λv u n x y f g l m q=>k d n o f x y v u Q g l m q)
def Pn{e:UnaryOp}{r:V->Hp->VK->Prop}(k:Ie X (unaryOp e) r)(j:PE X a ta):PE X (.UnaryOp e a pos) (tUn r ta):=by
 intro d s f H Q I h;exact UnaryOp_ (YH (j d s f H _ I h) λv n x g i m l=>k d n f g x v Q i m l)
def Ma{f:ai->ai->Sem ai}{C:Int->Int->Prop}{g:Int->Int->Int}(d:∀ (i j:Int) (t u:Tok) (s:ak) (Q:ja) (E:ja),C i j->Q (.int (g i j) s.toks) { s with toks:=s.toks+1 }->aA (az X.prog X.w) X.A (f (.int i t) (.int j u)) Q E s):
  Ys X f (rI C λi j=>.int (g i j)):=by
 intro e s o H x y v u Q I l m h;let⟨i,j,rfl,rfl,k,q⟩:=h;let⟨t,rfl⟩:=l;let⟨n,rfl⟩:=m;exact d i j t n s _ _ k ⟨.int (g i j),H,I.tok _,⟨_,Z⟩,q⟩
def GP{f:ai->ai->Sem ai}{g:Int->Int->Int}(d:∀ (i j:Int) (t u:Tok) (s:ak) (Q:ja) (E:ja),Q (.int (g i j) s.toks) { s with toks:=s.toks+1 }->aA (az X.prog X.w) X.A (f (.int i t) (.int j u)) Q E s):
  Ys X f (Pk λi j=>.int (g i j)):=by
 intro e s n H x y v u Q I k l h;let⟨i,j,rfl,rfl,q⟩:=h;let⟨t,rfl⟩:=k;let⟨m,rfl⟩:=l;exact d i j t m s _ _ ⟨.int (g i j),H,I.tok _,⟨_,Z⟩,q⟩
def LP{f:ai->ai->Sem ai}{g:Int->Int->Bool}(d:∀ (i j:Int) (t u:Tok) (s:ak) (Q:ja) (E:ja),Q (.bool (g i j)) s->aA (az X.prog X.w) X.A (f (.int i t) (.int j u)) Q E s):
  Ys X f (Pk λi j=>.bl (g i j)):=by
 intro e s n H x y v u Q I k l h;let⟨i,j,rfl,rfl,q⟩:=h;let⟨t,rfl⟩:=k;let⟨m,rfl⟩:=l;exact d i j t m s _ _ ⟨.bl (g i j),H,I,Z,q⟩
def ZQc(i j:Int):Prop:=0<j/\j<1073741824
def ZQf(i j:Int):Prop:=0<=j/\j<=1000000/\i.natAbs<2 ^ 64
def Q3(i j:Int):Prop:=(-(2 ^ 64)<i/\i<2 ^ 64)\/(-(2 ^ 64)<j/\j<2 ^ 64)
def Q3.ok{i j:Int}(h:Q3 i j):IntMulOk i j:=by
 rcases h with ⟨d,e⟩ | ⟨d,e⟩
 ·exact .of_left (intBits_le_64 d e)
 ·exact .of_right (intBits_le_64 d e)
def Xm:Ys X (binaryOp .Add) (Pk λi j=>.int (i+j)):=GP λ_ _ _ _ _ _ _ q=>add_int q
def QP:Ys X (binaryOp .Sub) (Pk λi j=>.int (i-j)):=GP λ_ _ _ _ _ _ _ q=>sub_int q
def Of:Ys X (binaryOp .Mult) (rI Q3 λi j=>.int (i * j)):=Ma λ_ _ _ _ _ _ _ d q=>mul_int q d.ok
def MJ:Ys X (binaryOp .FloorDiv) (rI ZQc λi j=>.int (i / j)):=Ma λi j _ _ _ _ _ d q=>by
 let e:(0:Int)<j:=d.1;let f:j<1073741824:=d.2;exact floordiv_int ∅ (by rw[rG i ∅];exact q) (.inl (PyProof.noPylong_small ∅))
def Qb:Ys X (binaryOp .Mod) (rI (λ_ j=>0<j) λi j=>.int (i % j)):=Ma λi j _ _ _ _ _ d q=>by
 let e:(0:Int)<j:=d;exact mod_int' ∅ (by rw[Int.fmod_eq_emod_of_nonneg i ∅];exact q)
def G5:Ys X (binaryOp .Pow) (rI ZQf λi j=>.int (i ^ j.toNat)):=Ma λ_ _ _ _ _ _ _ d q=>pow_int_small d.1 d.2.1 d.2.2 q
def Dm{f:ai->Sem ai}{g:Int->Int}(d:∀ (i:Int) (t:Tok) (s:ak) (Q:ja) (E:ja),Q (.int (g i) s.toks) { s with toks:=s.toks+1 }->aA (az X.prog X.w) X.A (f (.int i t)) Q E s):
  Ie X f (rU λi=>.int (g i)):=by
 intro e s k H x v Q I j h;let⟨i,rfl,q⟩:=h;let⟨t,rfl⟩:=j;exact d i t s _ _ ⟨.int (g i),H,I.tok _,⟨_,Z⟩,q⟩
def Pr:Ie X (unaryOp .USub) (rU λi=>.int (-i)):=Dm λ_ _ _ _ _ q=>neg_int q
end
def Ik:V->V->Bool
 | .non,.non=>true | .non,.int _=>true | .int _,.non=>true | .non,.bl _=>true | .bl _,.non=>true | .non,.str _=>true | .str _,.non=>true
 | .int _,.int _=>true | .bl _,.bl _=>true | .str _,.str _=>true | .byt _,.byt _=>true
 | .int _,.str _=>true | .str _,.int _=>true | .bl _,.str _=>true | .str _,.bl _=>true
 | _,_=>false
def rEq:R2:=λx y H Q=>Ik x y=true/\Q (.bl (decide (x=y))) H
def rNe:R2:=λx y H Q=>Ik x y=true/\Q (.bl (!decide (x=y))) H
def FU{i j:Int}:decide (V.int i=V.int j)=(i==j):=by
 rw[xB];simp
def EY{i j:Bool}:decide (V.bl i=V.bl j)=(i==j):=by
 rw[xB];simp
def GC{i j:Str}:decide (V.str i=V.str j)=(i==j):=by
 rw[xB];simp
def G8{i j:Array UInt8}:decide (V.byt i=V.byt j)=(i.toList==j.toList):=by
 rw[xB];cases i;cases j;simp
section
variable{a b c:Expr}{ta tb tc:TE}{pos:aI}
def Yr{d:ju}{g:St}{H:Hp}{s:ak}{Q:VK}{k f:Bool}(I:ZE X d g H s)(q:Q (.bl k) H)(e:k=f):EP X d g Q (.bool f) s:=by
 subst e;exact⟨.bl k,H,I,Z,q⟩
def WT:Ys X (ay .Eq) rEq:=by
 intro k s l H x y v u Q I g d h;let⟨f,q⟩:=h
 cases x with
 | non=>
  cases g
  cases y with
  | non=>cases d;exact PySem.EqNone.eq_none_none (Yr I q (by simp))
  | bl j=>cases d;exact PySem.EqNone.eq_none_bool (Yr I q (by simp))
  | int j=>let⟨e,rfl⟩:=d;exact PySem.EqNone.eq_none_int (Yr I q (by simp))
  | str j=>let⟨e,rfl⟩:=d;exact PySem.EqNone.eq_none_str (Yr I q (by simp))
  | _=>exact absurd (show false=true from f) zU
 | bl i=>
  cases g
  cases y with
  | non=>cases d;exact PySem.EqNone.eq_bool_none (Yr I q (by simp))
  | bl j=>cases d;exact eq_bool (Yr I q EY)
  | str j=>let⟨e,rfl⟩:=d;exact PySem.EqMixed.eq_bool_str (Yr I q (by simp))
  | _=>exact absurd (show false=true from f) zU
 | int i=>
  let⟨t,rfl⟩:=g
  cases y with
  | non=>cases d;exact PySem.EqNone.eq_int_none (Yr I q (by simp))
  | int j=>let⟨e,rfl⟩:=d;exact eq_int (Yr I q FU)
  | str j=>let⟨e,rfl⟩:=d;exact PySem.EqMixed.eq_int_str (Yr I q (by simp))
  | _=>exact absurd (show false=true from f) zU
 | str i=>
  let⟨t,rfl⟩:=g
  cases y with
  | non=>cases d;exact PySem.EqNone.eq_str_none (Yr I q (by simp))
  | bl j=>cases d;exact PySem.EqMixed.eq_str_bool (Yr I q (by simp))
  | int j=>let⟨e,rfl⟩:=d;exact PySem.EqMixed.eq_str_int (Yr I q (by simp))
  | str j=>let⟨e,rfl⟩:=d;exact eq_str (Yr I q GC)
  | _=>exact absurd (show false=true from f) zU
 | byt i=>
  let⟨t,rfl⟩:=g
  cases y with
  | byt j=>let⟨e,rfl⟩:=d;exact PySem.W.eq_bytes (Yr I q G8)
  | _=>exact absurd (show false=true from f) zU
 | _=>cases y <;> exact absurd (show false=true from f) zU
def Qs:Ys X (ay .NotEq) rNe:=by
 intro k s l H x y v u Q I g d h;let⟨f,q⟩:=h
 cases x with
 | non=>
  cases g
  cases y with
  | non=>cases d;exact PySem.EqNone.ne_none_none (Yr I q (by simp))
  | bl j=>cases d;exact PySem.EqNone.ne_none_bool (Yr I q (by simp))
  | int j=>let⟨e,rfl⟩:=d;exact PySem.EqNone.ne_none_int (Yr I q (by simp))
  | str j=>let⟨e,rfl⟩:=d;exact PySem.EqNone.ne_none_str (Yr I q (by simp))
  | _=>exact absurd (show false=true from f) zU
 | bl i=>
  cases g
  cases y with
  | non=>cases d;exact PySem.EqNone.ne_bool_none (Yr I q (by simp))
  | bl j=>cases d;exact ne_bool (Yr I q (congrArg not EY))
  | str j=>let⟨e,rfl⟩:=d;exact PySem.EqMixed.ne_bool_str (Yr I q (by simp))
  | _=>exact absurd (show false=true from f) zU
 | int i=>
  let⟨t,rfl⟩:=g
  cases y with
  | non=>cases d;exact PySem.EqNone.ne_int_none (Yr I q (by simp))
  | int j=>let⟨e,rfl⟩:=d;exact ne_int (Yr I q (congrArg not FU))
  | str j=>let⟨e,rfl⟩:=d;exact PySem.EqMixed.ne_int_str (Yr I q (by simp))
  | _=>exact absurd (show false=true from f) zU
 | str i=>
  let⟨t,rfl⟩:=g
  cases y with
  | non=>cases d;exact PySem.EqNone.ne_str_none (Yr I q (by simp))
  | bl j=>cases d;exact PySem.EqMixed.ne_str_bool (Yr I q (by simp))
  | int j=>let⟨e,rfl⟩:=d;exact PySem.EqMixed.ne_str_int (Yr I q (by simp))
  | str j=>let⟨e,rfl⟩:=d;exact ne_str (Yr I q (congrArg not GC))
  | _=>exact absurd (show false=true from f) zU
 | byt i=>
  let⟨t,rfl⟩:=g
  cases y with
  | byt j=>let⟨e,rfl⟩:=d;exact PySem.W.ne_bytes (Yr I q (congrArg not G8))
  | _=>exact absurd (show false=true from f) zU
 | _=>cases y <;> exact absurd (show false=true from f) zU
def P1:Ys X (ay .Lt) (Pk λi j=>.bl (decide (i<j))):=LP λ_ _ _ _ _ _ _ q=>lt_int q
def Qu:Ys X (ay .LtE) (Pk λi j=>.bl (decide (i<=j))):=LP λ_ _ _ _ _ _ _ q=>le_int q
def Qq:Ys X (ay .Gt) (Pk λi j=>.bl (decide (j<i))):=LP λ_ _ _ _ _ _ _ q=>gt_int q
def Bd:Ys X (ay .GtE) (Pk λi j=>.bl (decide (j<=i))):=LP λ_ _ _ _ _ _ _ q=>ge_int q
def Z3(b:Expr){d:CmpOp}(h:d≠.In:=by decide)(g:d≠.NotIn:=by decide):behindInMarks d b=false:=by
 let e:(d==CmpOp.In)=false:=by cases d <;> first | rfl | exact absurd rfl h
 let f:(d==CmpOp.NotIn)=false:=by cases d <;> first | rfl | exact absurd rfl g
 cases b <;> simp[behindInMarks,e,f]
def VT{e:CmpOp}{r:R2}(l:Ys X (ay e) r)(i:PE X a ta)(j:PE X b tb)(k:behindInMarks e b=false):PE X (.Compare a [e] [b] pos) (NL r ta tb):=by
 intro d s p H Q I h;exact wpAny_Compare1 (Jk i j I h λv u o x y f g m n q=>l d o p f x y v u Q g m n q) k
inductive OI(Q:Bool->Hp->Prop)(x:V)(d:Hp):Prop
 |mk(k:_)(_:x=.bl k)(_:Q k d)
def Fm(t:TE):TT:=λe H Q=>t e H λx d=>OI Q x d
def YJ{f:CmpOp}{r:R2}(w:Ys X (ay f) r)(p:PE X a ta)(q:PE X b tb)(t:behindInMarks f b=false):PT X (.Compare a [f] [b] pos) (Fm (NL r ta tb)):=by
 intro d s g H Q I h;refine wpAny_isTrue_Compare1 (YH (p d s g H _ I h) λv G x i m D A=>YH (q d G g i _ m A) λu J y j n E B=>
  Z1 (w d J g j x y v u _ n D E B) λc K ⟨z,l,o,F,k,e,C⟩=>?_) t
 subst e;cases F;exact wpAny_truthy_bool ⟨l,o,C⟩
inductive Pe(f:R2)(tc:TE)(h:L2.St)(Q:VK)(y z:V)(d:Hp):Prop
 |mk(k:_)(_:z=.bl k)(_:if k=true then tc h d λg e=>f y g e Q else Q (.bl false) d)
def EL(r h:R2)(ta tb tc:TE):TE:=λd H Q=>ta d H λx e=>tb d e λy f=>r x y f λz g=>Pe h tc d Q y z g
def ZK8{l g:CmpOp}{r p:R2}(K:Ys X (ay l) r)(j:Ys X (ay g) p)(E:PE X a ta)(F:PE X b tb)(G:PE X c tc)(J:lastMarks [l,g] [b,c]=false:=by with_unfolding_all rfl):PE X (.Compare a [l,g] [b,c] pos) (EL r p ta tb tc):=by
 intro f s i H Q I h;refine Compare_chain (YH (E f s i H _ I h) λv S x t B O L=>chain_link (YH (F f S i t _ B L) λu T y w C q M=>
  Z1 (K f T i w x y v u _ C O q M) λd U ⟨z,m,n,P,k,e,o⟩=>?_)) J
 subst e;cases P;refine wpAny_truthy_bool ?_
 cases k with
 | false=>exact ite_ff ⟨.bl false,m,n,Z,o⟩
 | true=>exact ite_tt (chain_last (YH (G f U i m _ n o) λW V Y A D R N=>j f V i A y Y u W Q D q R N))
def JJ{l g:CmpOp}{r p:R2}(O:Ys X (ay l) r)(j:Ys X (ay g) p)(K:PE X a ta)(L:PE X b tb)(M:PE X c tc)(N:lastMarks [l,g] [b,c]=false:=by with_unfolding_all rfl):PT X (.Compare a [l,g] [b,c] pos) (Fm (EL r p ta tb tc)):=by
 intro f s i H Q I h;refine isTrue_chain (YH (K f s i H _ I h) λv s1 x t C V R=>test_link (YH (L f s1 i t _ C R) λu s2 y w D q S=>
  Z1 (O f s2 i w x y v u _ D V q S) λd s3 ⟨z,m,n,W,k,e,o⟩=>?_)) N
 subst e;cases W;refine wpAny_truthy_bool ?_
 cases k with
 | false=>
  let⟨k',G,P⟩:=o;cases G;exact ite_ff ⟨m,n,P⟩
 | true=>
  refine ite_tt (test_last (YH (M f s3 i m _ n o) λw' s4 z' A E Y T=>Z1 (j f s4 i A y z' u w' _ E q Y T) λd' s5 ⟨z2,B,F,r5,k2,J,U⟩=>?_));subst J;cases r5;exact wpAny_truthy_bool ⟨B,F,U⟩
def NF:(ap:Nat)<2 ^ 63:=by rw[sizeLine_eq];decide
inductive Va(x y:V)(H:Hp)(Q:VK):Prop
 |mk(i j:_)(_:x=.str i)(_:y=.str j)(_:i.length+j.length<=ap)(_:Q (.str (i++j)) H)
def JD:Ys X (binaryOp .Add) (Va):=by
 intro d s m H x y v u Q I f g h;let⟨i,j,rfl,rfl,e,q⟩:=h;let⟨t,rfl⟩:=f;let⟨k,rfl⟩:=g;exact add_str (λk l=>⟨.str (i++j),H,I.tok _,⟨_,Z⟩,q⟩) e
def Vd{x:V}{d:jd}(r:ZQ [x] d):∃ u,d=[u]/\ZU x u:=by
 cases r with
 | cons e f=>cases f;exact⟨_,Z,e⟩
def LT{x y:V}{d:jd}(r:ZQ [x,y] d):∃ u e,d=[u,e]/\ZU x u/\ZU y e:=by
 cases r with
 | cons f g=>
  cases g with
  | cons h i=>cases i;exact⟨_,_,Z,f,h⟩
inductive Uh(d:je)(H:Hp)(Q:VK):Prop
 |mk(i:_)(_:d=[.int i])(_:Q (.int (if i<0 then -i else i)) H)
def Ky:Wq X (.builtin "abs") (Uh):=by
 intro d s j H g f Q I r h;let⟨i,rfl,q⟩:=h;let⟨u,rfl,t,rfl⟩:=Vd r;exact call_abs_int λu e=>⟨.int (if i<0 then -i else i),H,I.tok _,⟨_,Z⟩,q⟩
inductive Vt(d:je)(H:Hp)(Q:VK):Prop
 |mk(i j:_)(_:d=[.int i,.int j])(_:Q (.int (if j > i then j else i)) H)
def Gy(f:X.calm=true):Wq X (.builtin "max") (Vt):=by
 intro e s v H p n Q I r h;let⟨i,j,rfl,q⟩:=h;let⟨u,o,rfl,⟨t,rfl⟩,⟨l,rfl⟩⟩:=LT r;refine max_two_ints (I.ok.hd f) λg m k=>⟨_,H,I.kept k,?_,q⟩;by_cases d:j > i
 ·rw[aO d,aO d];exact⟨_,Z⟩
 ·rw[aM d,aM d];exact⟨_,Z⟩
inductive Vx(d:je)(H:Hp)(Q:VK):Prop
 |mk(i j:_)(_:d=[.int i,.int j])(_:Q (.int (if j<i then j else i)) H)
def ZJY(f:X.calm=true):Wq X (.builtin "min") (Vx):=by
 intro e s v H p n Q I r h;let⟨i,j,rfl,q⟩:=h;let⟨u,o,rfl,⟨t,rfl⟩,⟨l,rfl⟩⟩:=LT r;refine min_two_ints (I.ok.hd f) λg m k=>⟨_,H,I.kept k,?_,q⟩;by_cases d:j<i
 ·rw[aO d,aO d];exact⟨_,Z⟩
 ·rw[aM d,aM d];exact⟨_,Z⟩
def Mz:Wq X (.type "int") (λd H Q=>(∃ i,d=[.int i]/\Q (.int i) H)\/∃ k,d=[.bl k]/\Q (.int (if k then 1 else 0)) H):=by
 intro e s j H d g Q I r h;rcases h with ⟨i,rfl,q⟩ | ⟨k,rfl,q⟩
 ·let⟨u,rfl,t,rfl⟩:=Vd r;exact call_int_int ⟨.int i,H,I,⟨_,Z⟩,q⟩
 ·let⟨u,rfl,f⟩:=Vd r;cases f;exact call_int_bool ⟨.int (if k then 1 else 0),H,I.tok _,⟨_,Z⟩,q⟩
end
structure Vu(h:aC)(x dx C:aj)(mA:jb):Prop where
 obj:h.get? x=some (wU C dx)
 ns:h.Ns1 dx mA
 ne:dx≠x
def EW{h:aC}{d:aj}{g:jb}(n:h.Ns1 d g):∃ i,h.get? d=some i/\∀ b,vK b i=some (g b):=by
 let⟨o,f,s,p,k,l,_,m⟩:=n;exists o,p;intro b;let e:=m b;unfold nsFind findBy at e;rw[<-Array.find?_toList] at e;unfold vK;rw[k];dsimp only;split
 ·rename_i y q
  rw[q] at e;exact congrArg some e
 ·rename_i q
  rw[q] at e;let a:f.toList.any (·.refKey)=false:=by
   rw[List.any_eq_false];intro y r;let⟨z,t,c⟩:=l y (rR.mp r);simp[DictEntry.refKey,c]
  let j:¬ f.toList.any (·.refKey)=true:=by rw[a];exact zU
  rw[aM j];exact congrArg some e
def Vu.look{h:aC}{x c C:aj}{d:jb}(I:Vu h x c C d):∃ b,tJ h x (wU C c) C (some b)/\∀ a,vK a b=some (d a):=
 let ⟨b,ho,hl⟩:=EW I.ns
 ⟨b,⟨I.obj,rfl,rfl,ho⟩,hl⟩
section
variable{prog:al}{w:ar}{A:aw}{E:ja}{s:ak}{K:zZ}{x dx C f:aj}{mA:jb}{name:Str}{v:ai}
def Eg{a:Bool}{Q:ja}(X:K.In s.heap)(I:Vu s.heap x dx C mA)(d:vX K C name=true)(e:wK K C=true)(c:zD K (.ref C) name=some none)(i:mA name=some v)(b:PySem.W.handedIn v=true)(h:Q v { s with toks:=s.toks+1 }):
  aA (az prog w) A (getAttr (.ref x) name a) Q E s:=by
 let⟨j,J,g⟩:=I.look;exact PySem.W.get_value X J (sM d).1 (PySem.W.findObj_own e c Z (by rw[g,i])) b h
def ZLN{i:Sem Bool}{Q:ai×jd->ak->Prop}(X:K.In s.heap)(I:Vu s.heap x dx C mA)(a:vX K C name=true)(b:zD K (.ref C) name=some (some (.ref f)))(d:wW K (.ref f)=true)(e:mA name=none)(h:Q (.ref f,[.ref x]) s):
  aA (az prog w) A (getMethod (.ref x) name i) Q E s:=by
 let⟨g,J,c⟩:=I.look;exact PySem.W.method_fn X J (sM a).1 (sM a).2 b (beq_iff_eq.mp d) (by show (vK name g).map (·.isSome)=some false;rw[c,e];rfl) h
def BL{l:js}{Q:Unit->ak->Prop}(X:K.In s.heap)(I:Vu s.heap x dx C mA)(t:zD K (.ref C) "__setattr__" = some (some (.builtin "object.__setattr__")))(q:uH K C=true)(z:rW K C name=some none)(p:wK K C=true)(B:PySem.Within mA l)(u:l.length<=ap)(h:∀ e,Vu e x dx C (λy=>if y=name then some v else mA y)->wG dx s.heap e->Q () { s with heap:=e,toks:=s.toks+2 }):
  aA (az prog w) A (setAttr (.ref x) name v) Q E s:=by
 let⟨L,J,G⟩:=I.look;refine PySem.W.set_plain X J t (PySem.W.osa_open (s:={ s with toks:=s.toks+1 }) (r:=none) X J q z λb=>?_);let⟨F,o,i⟩:=uJ p;let D:s.heap.get? x=some ⟨.ref C,some dx,.plain,#[]⟩:=I.obj;refine aa (ad (aa (aa (wpAny_loadPart D (aa (yG.here (s:={ s with toks:=s.toks+1 }) (sN X o) ?_))))));rw[i];refine ad (a:=some dx) (aa (ad (aa ?_)));refine wpAny_nsSet1 (s:={ s with toks:=s.toks+1 }) I.ns λe c d=>?_;let⟨H,n,m,k,j,g⟩:=c.count (PySem.Within.cons name v B);refine aa (wpAny_lookBehind k (by rw[j];exact pastItsLine_dict (zE g (by rw[zA];lia))) ?_)
 exact ad (h _ ⟨(d.2 _ (Ne.symm I.ne)).trans I.obj,c,I.ne⟩ d)
def D6{R:Result->ak->Prop}{c:jd}{b:jK}(X:K.In s.heap)(j:uN K C=true)(i:zD K (.ref C) "__init__" = some (some (.ref f)))(e:yB K (.ref f)=some (.type "function"))(h:aF (az prog w) (A.under (.builtin "type.__call__" ⟨.ref C::c,b⟩)) (.call (.ref f) ⟨.ref (s.heap.objs.size+1)::c,b⟩) (PySem.W.InitBack (s.heap.objs.size+1) R)
   { s with heap:=(s.heap.push wZ).push (wU C s.heap.objs.size) }):
  aF (az prog w) A (.call (.ref C) ⟨c,b⟩) R s:=by
 let⟨k,g,d,t,l⟩:=s;exact PySem.W.make_core (PySem.W.makes_of X j) (tW X i) (λa=>PySem.W.bind_fn X a e) (.inl rfl) h
end
def Yq(f:Str)(v:V):List (Str×V)->List (Str×V)
 | []=>[(f,v)]
 | (g,x)::r=>if g=f then (g,v)::r else (g,x)::Yq f v r
def GF(f g:Str)(v:V):∀ c:List (Str×V),(Yq f v c).lookup g=if g=f then some v else c.lookup g
 | []=>by
  show xM g [(f,v)]=_;by_cases h:g=f
  ·let a:(g==f)=true:=beq_iff_eq.mpr h;simp only[xM,a,aO h]
  ·let a:(g==f)=false:=beq_eq_false_iff_ne.mpr h;simp only[xM,a,aM h]
 | (k,x)::r=>by
  let d:=GF f g v r;rw[show Yq f v ((k,x)::r)=(if k=f then (k,v)::r else (k,x)::Yq f v r) from rfl]
  by_cases b:k=f
  ·rw[aO b];by_cases h:g=k
   ·let a:(g==k)=true:=beq_iff_eq.mpr h;simp only[xM,a,aO (h.trans b)]
   ·let a:(g==k)=false:=beq_eq_false_iff_ne.mpr h;simp only[xM,a,aM (λe:g=f=>h (e.trans b.symm))]
  ·rw[aM b];by_cases h:g=k
   ·let a:(g==k)=true:=beq_iff_eq.mpr h;simp only[xM,a,aM (λe:g=f=>b (h.symm.trans e))]
   ·let a:(g==k)=false:=beq_eq_false_iff_ne.mpr h;simp only[xM,a];exact d
def Jj(f:Str)(v:V):∀ a:List (Str×V),f∈(Yq f v a).map (·.1)/\∀ g,g∈a.map (·.1)->g∈(Yq f v a).map (·.1)
 | []=>⟨by simp[Yq],λg h=>by simp at h⟩
 | (k,x)::r=>by
  let⟨c,d⟩:=Jj f v r;rw[show Yq f v ((k,x)::r)=(if k=f then (k,v)::r else (k,x)::Yq f v r) from rfl]
  by_cases b:k=f
  ·rw[aO b];subst b;exact⟨by simp,λg h=>by simpa using h⟩
  ·rw[aM b];refine⟨?_,λg h=>?_⟩
   ·rw[yI];exact zH _ c
   ·rw[yI] at h⊢;rcases zB.mp h with e | e
    ·exact zB.mpr (.inl e)
    ·exact zH _ (d g e)
def GG(f:Str)(v:V):∀ a:List (Str×V),(Yq f v a).length<=a.length+1
 | []=>by simp[Yq]
 | (k,x)::r=>by
  let c:=GG f v r;rw[show Yq f v ((k,x)::r)=(if k=f then (k,v)::r else (k,x)::Yq f v r) from rfl]
  by_cases b:k=f
  ·rw[aO b,zA,zA];lia
  ·rw[aM b,zA,zA];lia
def Yh.some_of{v:V}{o:jc}(r:Yh (some v) o):∃ u,o=some u/\ZU v u:=by
 cases o with
 | none=>exact(show False from r).elim
 | some u=>exact⟨u,Z,r⟩
def Yh.none_of{o:jc}(r:Yh none o):o=none:=by
 cases o with
 | none=>rfl
 | some u=>exact(show False from r).elim
def FE{v:V}{u:ai}(r:ZU v u):PySem.W.handedIn u=true:=by
 cases v with
 | non=>cases(show u=Value.none from r);rfl
 | bl b=>cases(show u=Value.bool b from r);rfl
 | int i=>let⟨t,e⟩:=(show ∃ t,u=Value.int i t from r);cases e;rfl
 | str x=>let⟨t,e⟩:=(show ∃ t,u=Value.str x t from r);cases e;rfl
 | byt b=>let⟨t,e⟩:=(show ∃ t,u=Value.bytes b t from r);cases e;rfl
 | flt b=>let⟨t,e⟩:=(show ∃ t,u=Value.float b t from r);cases e;rfl
 | ref a=>cases(show u=Value.ref a from r);rfl
 | ty n=>cases(show u=Value.type n from r);rfl
section
variable{P:al}{w:ar}{H H':Hp}{h h':aC}{a C dx:aj}{fs fs':List (Str×V)}
def Le(c:YV P w H h)(e:H a=some (.ins C dx fs)):∃ b,Vu h a dx C b/\(∀ f,Yh (fs.lookup f) (b f))/\PySem.Within b (fs.map (·.1))/\fs.length<=1000/\H dx=some (.own a):=by
 let⟨d,z,g,i,b,n,r,q⟩:=(show Zf P w H h a (.ins C dx fs) from c a _ e);exact⟨b,⟨i,n,g⟩,r,q,z,d⟩
end
structure Wm(K:zZ)(C:aj):Prop where
 pg:vX K C Str.empty=true
 hd:wK K C=true
 po:uH K C=true
 sa:zD K (.ref C) "__setattr__" = some (some (.builtin "object.__setattr__"))
def Wm.get{K:zZ}{C:aj}(c:Wm K C)(f:Str):vX K C f=true:=c.pg
def YD(K:zZ)(C:aj)(f:Str):Prop:=zD K (.ref C) f=some none
def YD.taker{K:zZ}{C:aj}{f:Str}(n:YD K C f):rW K C f=some none:=by
 unfold rW;rw[show zD K (.ref C) f=some none from n];rfl
structure Uc(K:zZ)(C:aj)(m:Str)(f:aj):Prop where
 at_:zD K (.ref C) m=some (some (.ref f))
 fn:wW K (.ref f)=true
 kp:yT K (.ref f)=true
section
variable{jZ:ju}{σ:St}{H:Hp}{s:ak}{a C dx:aj}{fs:List (Str×V)}{f:Str}{v:V}{A:aw}{E:ja}
def EU{b:Bool}{Q:ja}(I:ZE X jZ σ H s)(e:H a=some (.ins C dx fs))(c:Wm X.K C)(n:YD X.K C f)(l:fs.lookup f=some v)(h:∀ u g,ZE X jZ σ H g->ZU v u->Q u g):aA (az X.prog X.w) A (getAttr (.ref a) f b) Q E s:=by
 let⟨j,O,r,_,_,_⟩:=Le I.hok e;let⟨u,i,d⟩:=Yh.some_of (v:=v) (o:=j f) (by rw[<-l];exact r f)
 exact Eg I.kIn O (c.get f) c.hd n i (FE d) (h u _ (I.tok _) d)
def IY{m:Str}{g:aj}{i:Sem Bool}{Q:ai×jd->ak->Prop}(I:ZE X jZ σ H s)(e:H a=some (.ins C dx fs))(c:Wm X.K C)(k:Uc X.K C m g)(l:fs.lookup m=none)(h:Q (.ref g,[.ref a]) s):aA (az X.prog X.w) A (getMethod (.ref a) m i) Q E s:=by
 let⟨d,O,r,_,_,_⟩:=Le I.hok e;let b:d m=none:=Yh.none_of (by rw[<-l];exact r m)
 exact ZLN I.kIn O (c.get m) k.at_ k.fn b h
def F2{y:V}{u:ai}{Q:Unit->ak->Prop}(I:ZE X jZ σ H s)(e:H a=some (.ins C dx fs))(c:Wm X.K C)(n:YD X.K C f)(J:fs.length<1000)(F:ZU y u)(h:∀ k,ZE X jZ σ (upd H a (.ins C dx (Yq f y fs))) k->Q () k):aA (az X.prog X.w) A (setAttr (.ref a) f u) Q E s:=by
 let⟨j,O,r,l,_,i⟩:=Le I.hok e;let D:(fs.map (·.1)).length<=sizeLine:=by rw[zX,sizeLine_eq];lia
 refine BL I.kIn O c.sa c.po n.taker c.hd l D λm d G=>h _ ?_;let t:∃ o,m.get? dx=some o:=let ⟨o,_,_,e',_⟩:=d.ns;⟨o,e'⟩;refine I.write (x:=a) (e:=dx) (by rw[e];exact True.intro) (.inr i) (λb q p z=>(G.2 b p).trans z) t ?_
 refine⟨by rw[ZO O.ne];exact i,?_,O.ne,d.obj,_,d.ns,λg=>?_,λg B=>?_⟩
 ·have:=GG f y fs;lia
 ·show Yh ((Yq f y fs).lookup g) (if g=f then some u else j g)
  rw[GF];by_cases q:g=f
  ·rw[aO q,aO q];exact F
  ·rw[aM q,aM q];exact r g
 ·by_cases q:g=f
  ·rw[q];exact(Jj f y fs).1
  ·refine(Jj f y fs).2 g (l g λz=>B ?_);show (if g=f then some u else j g)=none
   rw[aM q];exact z
def ZE.made(I:ZE X jZ σ H s):ZE X jZ σ (upd (upd H s.heap.objs.size (.own (s.heap.objs.size+1))) (s.heap.objs.size+1) (.ins C s.heap.objs.size []))
  { s with heap:=(s.heap.push wZ).push (wU C s.heap.objs.size) }:=by
 let c:(s.heap.push wZ).get? s.heap.objs.size=some wZ:=yU s.heap Z;let h:((s.heap.push wZ).push (wU C s.heap.objs.size)).get? (s.heap.objs.size+1)=some (wU C s.heap.objs.size):=by
  have:=yU (s.heap.push wZ) (o:=wU C s.heap.objs.size) Z
  rwa [vO] at this
 let i:(s.heap.push wZ).Ns s.heap.objs.size (λ_=>none):=⟨wZ,#[],_,c,Z,(λe j=>absurd j (by simp)),λ_=>rfl⟩
 let g:=I.laid (a:=s.heap.objs.size) (o:=.own (s.heap.objs.size+1)) (h':=s.heap.push wZ) (t':=s.toks) (λb u q=>zT _ q) (zY _) ⟨_,c⟩;refine g.laid (a:=s.heap.objs.size+1) (o:=.ins C s.heap.objs.size []) (t':=s.toks) (λb u q=>zT _ q) (wD (vO _ _)) ?_;let d:s.heap.objs.size≠s.heap.objs.size+1:=zL (xT _);refine⟨by rw[ZO d,ZP],yW _,d,h,λ_=>none,(Heap.Ns1.of_empty i).at λo q=>zT _ q,λ_=>True.intro,λy k=>absurd Z k⟩
def Ht{c:al}{w:ar}{b:Env}{e:Expr}{f:Str}{g:aI}{s:ak}{Q:ja}(i:attributeBase e f b (aG e b)=aG e b)(h:aA (az c w) A (aG e b) (λo d=>aA (az c w) A (getAttr o f true) Q E d) E s):aA (az c w) A (aG (.Attribute e f g) b) Q E s:=
 Attribute_any_ h (by rw[arm_eval_Attribute,i])
end
inductive MS(K:zZ)(f:Str)(Q:VK)(x:V)(b:Hp):Prop
 |mk(a C d c v:_)(_:x=.ref a)(_:b a=some (.ins C d c))(_:Wm K C)(_:YD K C f)(_:c.lookup f=some v)(_:Q v b)
def ZQW(K:zZ)(b:TE)(f:Str):TE:=λc H Q=>b c H λx a=>MS K f Q x a
inductive MI(K:zZ)(f:Str)(D:Yx)(e:L2.St)(y x:V)(c:Hp):Prop
 |mk(a C d b:_)(_:x=.ref a)(_:c a=some (.ins C d b))(_:Wm K C)(_:YD K C f)(_:b.length<1000)(_:D.nx e (upd c a (.ins C d (Yq f y b))))
def ZQa(K:zZ)(d e:TE)(f:Str):TS:=λD a H=>e a H λy b=>d a b λx c=>MI K f D a y x c
def Ku(X:Cx)(c:Operator)(rd:V->V->Hp->VK->Prop):Prop:=
 ∀(a:ju)(s:ak)(b:St)(H:Hp)(x y:V)(u v:ai)(Q:VK),ZE X a b H s->ZU x u->ZU y v->rd x y H Q->aA (az X.prog X.w) X.A (inplaceOp c u v) (EP X a b Q) X.xe s
inductive QA(K:zZ)(k:TE)(rd:V->V->Hp->VK->Prop)(f:Str)(D:Yx)(h:L2.St)(x:V)(d:Hp):Prop
 |mk(a C j g v:_)(_:x=.ref a)(_:d a=some (.ins C j g))(_:Wm K C)(_:YD K C f)(_:g.lookup f=some v)(_:k h d λy i=>rd v y i λz e=>∃ c b,e a=some (.ins C c b)/\b.length<1000/\D.nx h (upd e a (.ins C c (Yq f z b))))
def ZMS(K:zZ)(c d:TE)(rd:V->V->Hp->VK->Prop)(f:Str):TS:=λD a H=>c a H λx b=>QA K d rd f D a x b
section
variable{o e value:Expr}{f:Str}{pos pos' tpos:aI}{ta tv:TE}
def WO(p:PE X e ta)(m:attributeBase e f X.env (aG e X.env)=aG e X.env):PE X (.Attribute e f pos) (ZQW X.K ta f):=by
 intro b s w H Q I h;refine Ht m (Z1 (p b s w H _ I h) ?_);rintro u A ⟨x,d,g,t,a,C,y,z,v,k,j,c,n,l,q⟩;subst k;obtain rfl:u=Value.ref a:=t;exact EU g j c n l λD B i r=>⟨v,d,i,r,q⟩
def QV(r:PE X o ta)(v:PE X value tv)(t:swapsWith value (some (.Attribute o f pos')) pos.line X.env=pure false):PS X (.Assign [.Attribute o f pos'] value pos) (ZQa X.K ta tv f):=by
 intro b s d H D I h;refine plainObj_wpAny_Assign_Attribute (YH (v b s d H _ I h) λu E y g i B q=>Z1 (r b E d g _ i q) λw L ⟨x,F,j,A,a,C,G,J,p,m,c,n,l,z⟩=>?_) t;subst p;obtain rfl:w=Value.ref a:=A;exact F2 j m c n l B λM k=>⟨d,_,k,z⟩
def Kd{j:Operator}{rd:V->V->Hp->VK->Prop}(J:PE X o ta)(L:PE X value tv)(i:Ku X j rd):PS X (.AugAssign (.Attribute o f tpos) j value pos) (ZMS X.K ta tv rd f):=by
 intro b s d H D I h;refine wpAny_AugAssign_AttributeAny (Z1 (J b s d H _ I h) ?_);rintro N s1 ⟨x,k,p,R,a,C,dx,fs,v,F,E,c,n,l,q⟩;subst F;obtain rfl:N=Value.ref a:=R;refine EU p E c n l λu U r Q=>YH (L b U d k _ r q) λY W y m t S O=>Z1 (i b W d m v y u Y _ t Q S O) ?_;rintro w4 s4 ⟨z,H3,w,T,B,G,g,M,P⟩;exact F2 w g c n M T λs5 A=>⟨d,_,A,P⟩
inductive Jc(x y:V)(H:Hp)(Q:VK):Prop
 |mk(i j:_)(_:x=.int i)(_:y=.int j)(_:Q (.int (i+j)) H)
inductive JP(x y:V)(H:Hp)(Q:VK):Prop
 |mk(i j:_)(_:x=.int i)(_:y=.int j)(_:Q (.int (i-j)) H)
def FR:Ku X .Add Jc:=by
 rintro a s g H x y u v Q I c d ⟨i,j,rfl,rfl,q⟩;let⟨t,rfl⟩:=(show ∃ t,u=Value.int i t from c);let⟨b,rfl⟩:=(show ∃ b,v=Value.int j b from d);exact PyProof.Rows.iadd_int ⟨.int (i+j),H,I.tok _,⟨_,Z⟩,q⟩
def ZO8:Ku X .Sub JP:=by
 rintro a s g H x y u v Q I c d ⟨i,j,rfl,rfl,q⟩;let⟨t,rfl⟩:=(show ∃ t,u=Value.int i t from c);let⟨b,rfl⟩:=(show ∃ b,v=Value.int j b from d);exact PyProof.Rows.isub_int ⟨.int (i-j),H,I.tok _,⟨_,Z⟩,q⟩
end
section
variable{jZ:ju}{σ:St}{H:Hp}{s:ak}{A:aw}{E Q:ja}{c:ai}{b:Bool}
inductive Y4(K:zZ)(H:Hp):V->ai->Prop where
 | non:Y4 K H .non (.type "NoneType")
 | bl (x:Bool):Y4 K H (.bl x) (.type "bool")
 | int (i:Int):Y4 K H (.int i) (.type "int")
 | str (x:Str):Y4 K H (.str x) (.type "str")
 | flt (x:UInt64):Y4 K H (.flt x) (.type "float")
 | lst {a:aj} {xs:je} (e:H a=some (.lst xs)):Y4 K H (.ref a) (.type "list")
 | frz {a:aj} {o:aH} {xs:je} (e:H a=some (.frz o (.lst xs))):Y4 K H (.ref a) (.type "list")
 | tup {a:aj} {xs:je} (e:H a=some (.tup xs)):Y4 K H (.ref a) (.type "tuple")
 | dK {a:aj} {kvs:List (ZR×V)} (e:H a=some (.dK kvs)):Y4 K H (.ref a) (.type "dict")
 | dT {a:aj} {kvs:List (jF×V)} (e:H a=some (.dT kvs)):Y4 K H (.ref a) (.type "dict")
 | ins {a C dx:aj} {fs:List (Str×V)} (e:H a=some (.ins C dx fs)) (cl:Wm K C) (ha:zD K (.ref C) "__class__" = some (some (.builtin "object.__class__")))
   (hn:PySem.W.specialIn K (.builtin "object.__class__") "__get__" = some (some (.builtin "getset_descriptor.__get__"))) (htk:PySem.W.takesIn K (.builtin "object.__class__")=some true)
   (hm:yY K C (.type "object")=some true):Y4 K H (.ref a) (.ref C)
def ZJL{x:V}{u t:ai}(I:ZE X jZ σ H s)(f:ZU x u)(N:Y4 X.K H x t)(e:yP X.K t c=some b)(h:∀ M,Q (.bool b) { s with toks:=M }):
  aA (az X.prog X.w) A (call (.builtin "isinstance") [u,c]) Q E s:=by
 cases N with
 | non=>cases(show u=Value.none from f);exact xP PySem.W.kitx_none I.kIn True.intro e (λz=>nomatch z) h
 | bl y=>cases(show u=Value.bool y from f);exact xP PySem.W.kitx_bool I.kIn True.intro e (λz=>nomatch z) h
 | int i=>let⟨t,q⟩:=(show ∃ t,u=Value.int i t from f);cases q;exact xP PySem.W.kitx_int I.kIn True.intro e (λz=>nomatch z) h
 | str y=>let⟨t,q⟩:=(show ∃ t,u=Value.str y t from f);cases q;exact xP PySem.W.kitx_str I.kIn True.intro e (λz=>nomatch z) h
 | flt y=>let⟨t,q⟩:=(show ∃ t,u=Value.float y t from f);cases q;exact xP PySem.W.kitx_float I.kIn True.intro e (λz=>nomatch z) h
 | @lst a k d=>
  cases(show u=Value.ref a from f);let⟨_,_,n,_,g⟩:=(show Zf X.prog X.w H s.heap a (.lst k) from I.hok a _ d);exact xP PySem.W.kitx_list I.kIn ⟨_,g,Z⟩ e (λz=>nomatch z) h
 | @frz a L k d=>
  cases(show u=Value.ref a from f);let⟨_,_,_,n,_,g⟩:=(show Zf X.prog X.w H s.heap a (.frz L (.lst k)) from I.hok a _ d);exact xP PySem.W.kitx_list I.kIn ⟨_,g,Z⟩ e (λz=>nomatch z) h
 | @tup a k d=>
  cases(show u=Value.ref a from f);let⟨_,_,_,p⟩:=(show Zf X.prog X.w H s.heap a (.tup k) from I.hok a _ d);let⟨o,g,l,_⟩:=p;exact xP PySem.W.kitx_tuple I.kIn ⟨o,g,l⟩ e (λz=>nomatch z) h
 | @dK a j d=>
  cases(show u=Value.ref a from f);let⟨_,_,U,_,p⟩:=(show Zf X.prog X.w H s.heap a (.dK j) from I.hok a _ d);let⟨o,B,v,g,l,_⟩:=p;exact xP PySem.W.kitx_dict I.kIn ⟨o,g,l.1⟩ e (λz=>nomatch z) h
 | @dT a j d=>
  cases(show u=Value.ref a from f);let⟨_,_,k,_,o,B,v,g,l,_⟩:=(show Zf X.prog X.w H s.heap a (.dT j) from I.hok a _ d);exact xP PySem.W.kitx_dict I.kIn ⟨o,g,l.1⟩ e (λz=>nomatch z) h
 | @ins a C P R d r D G m F=>
  cases(show u=Value.ref a from f);let⟨S,O,_⟩:=Le I.hok d;let⟨T,J,_⟩:=O.look;exact xP (PySem.W.kitx_own (r.get _) r.hd D G m F) I.kIn J e (λz=>nomatch z) h
end
structure ZZ(k:Nat)(A:aw):Prop where
 hd:A.handled=none
 dp:A.depth+3 * k+5<recursionLimit
 un:A.units+16 * k+200<cLine
def ZZ.mono{j k:Nat}{A:aw}(r:ZZ k A)(h:j<=k):ZZ j A:=⟨r.hd,by have:=r.dp;lia,by have:=r.un;lia⟩
def ZZ.to{j:Nat}{A:aw}(r:ZZ j A)(k:Nat)(h:k<=j:=by decide):ZZ k A:=r.mono h
def ZZ.deeper{k:Nat}{A:aw}(r:ZZ (k+1) A)(a:Env):ZZ k (A.deeper a):=
 ⟨r.hd,by have:=r.dp;show A.depth+1+3 * k+5<_;lia,by have:=r.un;show A.units+3+16 * k+200<_;lia⟩
def ZZ.in1{k:Nat}{A:aw}(r:ZZ (k+1) A):ZZ k A.in1:=
 ⟨r.hd,by have:=r.dp;show A.depth+3 * k+5<_;lia,by have:=r.un;show A.units+1+16 * k+200<_;lia⟩
def A1{A:aw}{C:aj}{b:jd}{a:jK}:(A.under (.builtin "type.__call__" ⟨.ref C::b,a⟩)).depth=A.depth+1:=by
 first | rfl | simp[Around.under,Code.weight,Code.isCreation,Code.isGuard,Code.isCaller,Code.frames,Code.isFrame,guardIds]
def ZIK{A:aw}{C:aj}{b:jd}{a:jK}:(A.under (.builtin "type.__call__" ⟨.ref C::b,a⟩)).units=A.units+1:=by
 first | rfl | simp[Around.under,Code.cUnits,Code.frames,Code.isFrame]
def ZZ.make{k:Nat}{A:aw}(r:ZZ (k+1) A)(C:aj)(b:jd)(a:jK):ZZ k (A.under (.builtin "type.__call__" ⟨.ref C::b,a⟩)):=
 ⟨r.hd,by have:=r.dp;rw[A1];lia,by have:=r.un;rw[ZIK];lia⟩
def ZZ.depth{k:Nat}{A:aw}(r:ZZ k A):A.depth<recursionLimit:=by have:=r.dp;lia
def ZZ.units{k:Nat}{A:aw}(r:ZZ k A):A.units+64<cLine:=by have:=r.un;lia
def ZZ.units0{k:Nat}{A:aw}(r:ZZ k A):A.units<cLine:=by have:=r.un;lia
def Vp:TA:=λ_ H Q=>Q [] H
def XV(d:TE)(e:TA):TA:=λa H Q=>d a H λx b=>e a b λf c=>Q (x::f) c
section
variable{e:Expr}{es:jz}{te:TE}{t:TA}{pos:aI}
def Zt:PA X [] Vp:=λ_ _ _ _ H Q I h=>Calls.spliced_nil ⟨[],H,I,.nil,h⟩
def Zh(i:PE X e te)(j:PA X es t)(k:aq (e::es) X.env=(false,aG e X.env)::aq es X.env:=by rfl):PA X (e::es) (XV te t):=by
 intro pos a s b H Q I h;rw[k];show aA _ _ (spliced ((false,aG e X.env)::aE pos (aq es X.env))) _ _ s;refine Calls.spliced_cons (YH (i a s b H _ I h) λu p x c f n l=>?_);exact YH (j pos a p b c _ f l) λv r q d g o m=>⟨x::q,d,g,.cons n o,m⟩
def BC(t:TA):TE:=λc H Q=>t c H λb a=>b.length<=ap/\∀ p,a p=none->Q (.ref p) (upd a p (.tup b))
def Ay(t:TA):TE:=λc H Q=>t c H λb a=>b.length<=ap/\∀ p,a p=none->Q (.ref p) (upd a p (.lst b))
def Ym{k}(h:PA X es t):PE X (.Tuple es k pos) (BC t):=by
 intro a s m H Q I i;refine wpAny_Tuple_spliced (Z1 (h pos a s m H _ I i) λj c ⟨l,d,f,r,z,q⟩=>⟨by rw[<-r.length];exact z,?_⟩)
 let g:d c.heap.objs.size=none:=f.hok.fresh (zY _);refine⟨.ref c.heap.objs.size,upd d c.heap.objs.size (.tup l),f.laid (t':=c.toks) (λb u e=>zT _ e) (zY _) ?_,Z,q _ g⟩;exact⟨z,j,r,⟨_,yU _ Z,Z,_,Z⟩⟩
def XH(h:PA X es t):PE X (.List es pos) (Ay t):=by
 intro a s l H Q I i;refine wpAny_List_spliced (Z1 (h pos a s l H _ I i) λj c ⟨k,d,f,r,z,q⟩=>⟨by rw[<-r.length];exact z,?_⟩)
 let g:d c.heap.objs.size=none:=f.hok.fresh (zY _);refine⟨.ref c.heap.objs.size,upd d c.heap.objs.size (.lst k),f.laid (t':=c.toks) (λb u e=>zT _ e) (zY _) ?_,Z,q _ g⟩;exact⟨z,j,0,r,yU _ Z⟩
end
abbrev Sp:=je->Hp->VK->XK->Prop
abbrev Wv:=jB->Hp->ak->XK->ja
structure Wf(P:al)(w:ar)(K:zZ)(mg:jb)(kf:aC)(A:aw)(outer:jB)(s:ak)(H:Hp):Prop where
 frames:A.frames=some outer
 mod:Mod K mg kf
 bs:∀ b o,kf.get? b=some o->s.heap.get? b=some o/\H b=none
 bsz:kf.objs.size<=s.heap.objs.size
 funs:s.heap.FunFrames kf outer
 frf:∀ b∈frs outer,H b=none
 hok:YV P w H s.heap
 bare:AllBare s.gens
def CE(a:jB)(P:al)(w:ar)(H:Hp)(s:ak)(Q:VK)(u:ai)(b:ak):Prop:=
 ∃ v c,b.os=s.os/\AllBare b.gens/\Un (frs a) [] H c s.heap b.heap/\YV P w c b.heap/\ZU v u/\Q v c
def CR(c:Wv)(a:jB)(P:al)(w:ar)(H:Hp)(s:ak)(Q:VK)(E:XK)(r:Result)(b:ak):Prop:=
 match r with
 | .ok (.ret u)=>CE a P w H s Q u b
 | .ok _=>False
 | .error e=>c a H s E e b
structure ZK(P:al)(w:ar)(K:zZ)(mg:jb)(kf:aC)(CX:Wv)(k:Nat)(f:aj)(fd:am)(ps:js)(sp:Sp):Prop where
 len:∀ vs H Q E,sp vs H Q E->vs.length=ps.length
 run:∀(A:aw)(outer:jB)(s:ak)(H:Hp)(args:Args)(us:jd)(vs:je)(Q:VK)(E:XK),ZZ k A->Wf P w K mg kf A outer s H->BindsTo s fd args (ps.zip us)->ZQ vs us->sp vs H Q E ->
  aF (az P w) A (.call (.ref f) args) (CR CX outer P w H s Q E) s
def Wf.make{P:al}{w:ar}{K:zZ}{c:jb}{b:aC}{A:aw}{a:jB}{s:ak}{H:Hp}(e:Wf P w K c b A a s H)(C:aj)(f:jd)(d:jK):
  Wf P w K c b (A.under (.builtin "type.__call__" ⟨.ref C::f,d⟩)) a s H:=⟨by first | exact e.frames | (simpa [Around.under,Code.envs,Code.isFrame,pushEnvs] using e.frames),e.mod,e.bs,e.bsz,e.funs,e.frf,e.hok,e.bare⟩
section
variable{jZ:ju}{σ:St}{H:Hp}{s s':ak}
def ZE.env0(I:ZE X jZ σ H s):Wf X.prog X.w X.K X.mg X.base X.A X.stack s H:=
 ⟨I.ok.frames,I.ok.mod,I.bs,zE I.ok.bsz I.sz,I.stack,I.stkFree,I.hok,I.bare⟩
def ZE.after{Q:VK}{u:ai}(I:ZE X jZ σ H s)(h:CE X.stack X.prog X.w H s Q u s'):EP X jZ σ Q u s':=by
 let⟨v,f,j,a,k,c,r,q⟩:=h;let⟨i,g,d,t,e⟩:=s';obtain rfl:e=s.os:=j;exact⟨v,f,I.call (h':=i) (g':=g) (d':=d) (t':=t) (ch:=[]) k c a (λb z=>absurd z (by simp)),r,q⟩
end
def Jy(c:Sp)(a:je)(E:XK)(t:TA):TE:=λe H Q=>t e H λd b=>c (d++a) b Q E
inductive OR(C:aj)(m:Str)(g:Sp)(b:je)(E:XK)(t:TA)(i:L2.St)(Q:VK)(x:V)(c:Hp):Prop
 |mk(a f d:_)(_:x=.ref a)(_:c a=some (.ins C f d))(_:d.lookup m=none)(_:t i c λh e=>g (x::(h++b)) e Q E)
def Lj(C:aj)(m:Str)(d:Sp)(a:je)(E:XK)(e:TE)(t:TA):TE:=λb H Q=>e b H λx c=>OR C m d a E t b Q x c
def LH(C:aj)(e:Sp)(c:je)(E:XK)(t:TA):TE:=λg H Q=>t g H λf b=>∀ x a,b x=none->b a=none->a≠x ->
 e (.ref x::(f++c)) (upd (upd b a (.own x)) x (.ins C a [])) (λv d=>v=.non/\Q (.ref x) d) E
def Z5(K:zZ)(d:am)(c:js)(b:jd):Prop:=
 ∀(s:ak)(a:jd),K.In s.heap->(a++b).length=c.length->BindsTo s d ⟨a,[]⟩ (c.zip (a++b))
def Z5.all{K:zZ}{c:am}{b:js}(h:∀ a:jd,a.length=b.length->bindArgs c ⟨a,[]⟩=pure (b.zip a)):Z5 K c b []:=λs a _ d=>by
 rw[vZ] at d⊢;exact .of_eq (h a d)
def VY(c:Wv)(X:Cx)(E:XK):Prop:=∀(a:ju)(d:St)(H:Hp)(s:ak)(e:ai)(b:ak),ZE X a d H s->c X.stack H s E e b->X.xe e b
section
variable{CX:Wv}{k:Nat}{f C:aj}{fd:am}{ps:js}{sp:Sp}{jn:je}{ds:jd}{E:XK}{x m:Str}{p pos jj:aI}{e o:Expr}{es:jz}{ta:TE}{t:TA}
def JC{a:ju}{c:St}{H:Hp}{s:ak}{Q:VK}{us:jd}{vs:je}(F:ZK X.prog X.w X.K X.mg X.base CX k f fd ps sp)(n:ZZ k X.A)(i:Z5 X.K fd ps ds)(j:ZQ jn ds)(q:VY CX X E)(I:ZE X a c H s)(r:ZQ vs us)(h:sp (vs++jn) H Q E):aA (az X.prog X.w) X.A (call (.ref f) us) (EP X a c Q) X.xe s:=by
 let d:ZQ (vs++jn) (us++ds):=r.append j;let l:(us++ds).length=ps.length:=by rw[<-d.length];exact F.len _ _ _ _ h
 refine wpAny_call (codeAny_mono (F.run X.A X.stack s H ⟨us,[]⟩ (us++ds) (vs++jn) Q E n I.env0 (i s us I.kIn l) d h) λr v b=>?_)
 cases r with
 | error e=>exact q a c H s e v I b
 | ok g=>
  cases g with
  | ret u=>exact I.after b
  | next=>exact False.elim b
  | brk=>exact False.elim b
  | cont=>exact False.elim b
def Hx(F:ZK X.prog X.w X.K X.mg X.base CX k f fd ps sp)(y:ZZ k X.A)(n:Gl X x)(v:X.mg x=some (.ref f))(u:yT X.K (.ref f)=true)(i:Z5 X.K fd ps ds)(j:ZQ jn ds)(z:VY CX X E)(g:PA X (e::es) t)(b:(x==("__debug__" : Str))=false:=by decide)(l:aq (e::es) X.env=(false,aG e X.env)::aq es X.env:=by rfl)(c:(aE pos (aq es X.env)).any (·.1)=false:=by rfl):
  PE X (.Call (.Name x p) (e::es) [] pos) (Jy sp jn E t):=by
 intro a s B H Q I h;refine ag (PJ I n v ?_ b);refine vS (h₀:=X.base) I.ok.mod.kin u (YH (g pos a s B H _ I h) λJ G L D d r q=>⟨d.kIn,?_⟩) l c;exact JC F y i j z d r q
def ZMi{v:Sem Bool}(M:PE X o ta)(c:Wm X.K C)(n:Uc X.K C m f)(F:ZK X.prog X.w X.K X.mg X.base CX k f fd ps sp)(N:ZZ k X.A)(J:Z5 X.K fd ps ds)(L:ZQ jn ds)(P:VY CX X E)(G:PA X (e::es) t)(g:aq (e::es) X.env=(false,aG e X.env)::aq es X.env:=by rfl)(d:(aE pos (aq es X.env)).any (·.1)=false:=by rfl)(O:aG (.Call (.Attribute o m jj) (e::es) [] pos) X.env=(do
   let ov<-aG o X.env
   standAt jj.atName
   let (f,first)<-holding [ov] (getMethod ov m v)
   callWith pos f first (aE pos (aq (e::es) X.env)) (backToKw pos (keywordEach [] X.env))):=by rfl):
  PE X (.Call (.Attribute o m jj) (e::es) [] pos) (Lj C m sp jn E ta t):=by
 intro b s y H Q I h;refine sG (pl:=v) (Z1 (M b s y H _ I h) λu T ⟨x,z,i,S,a,dx,fs,D,B,l,q⟩=>?_) O;subst D;obtain rfl:u=Value.ref a:=S;refine IY i B c n l ?_;refine vS (first:=[.ref a]) (h₀:=X.base) I.ok.mod.kin n.kp (YH (G pos b T y z _ i q) λU s2 V Y j r R=>⟨j.kIn,?_⟩) g d
 exact JC (us:=.ref a::U) (vs:=.ref a::V) F N J L P j (.cons rfl r) R
def Ac{i:Sem Bool}(y:PE X o ta)(c:Wm X.K C)(g:Uc X.K C m f)(F:ZK X.prog X.w X.K X.mg X.base CX k f fd ps sp)(z:ZZ k X.A)(r:Z5 X.K fd ps ds)(v:ZQ jn ds)(D:VY CX X E)(B:aG (.Call (.Attribute o m jj) [] [] pos) X.env=(do
   let ov<-aG o X.env
   standAt jj.atName
   let (f,first)<-holding [ov] (getMethod ov m i)
   callWith pos f first (aE pos (aq [] X.env)) (backToKw pos (keywordEach [] X.env))):=by rfl):
  PE X (.Call (.Attribute o m jj) [] [] pos) (Lj C m sp jn E ta Vp):=by
 intro b s J H Q I h;refine sG (pl:=i) (Z1 (y b s J H _ I h) λu O ⟨x,L,d,G,a,M,N,n,j,l,q⟩=>?_) B;subst n;obtain rfl:u=Value.ref a:=G;refine IY d j c g l ?_;exact sP (first:=[.ref a]) d.kIn g.kp (JC (us:=[.ref a]) (vs:=[.ref a]) F z r v D d (.cons rfl .nil) q)
structure Mk(K:zZ)(C f:aj):Prop where
 makes:uN K C=true
 init:zD K (.ref C) "__init__" = some (some (.ref f))
 fn:wW K (.ref f)=true
 kp:yT K (.ref C)=true
def FP{b:ju}{i:St}{H:Hp}{s:ak}{Q:VK}{us:jd}{g:je}(M:Mk X.K C f)(F:ZK X.prog X.w X.K X.mg X.base CX k f fd ps sp)(L:ZZ (k+1) X.A)(D:Z5 X.K fd ps ds)(G:ZQ jn ds)(N:VY CX X E)(I:ZE X b i H s)(r:ZQ g us)(h:∀ x d,H x=none->H d=none->d≠x->sp (.ref x::(g++jn)) (upd (upd H d (.own x)) x (.ins C d [])) (λv q=>v=.non/\Q (.ref x) q) E):
  aA (az X.prog X.w) X.A (call (.ref C) us) (EP X b i Q) X.xe s:=by
 let j:=h (s.heap.objs.size+1) s.heap.objs.size (I.hok.fresh (wR _)) (I.hok.fresh (zY _)) (zL (xT _));let c:=ZE.made (C:=C) I;let l:ZQ (V.ref (s.heap.objs.size+1)::(g++jn)) (Value.ref (s.heap.objs.size+1)::(us++ds)):=.cons Z (r.append G);let J:(Value.ref (s.heap.objs.size+1)::us++ds).length=ps.length:=by
  let e:=l.length;rw[F.len _ _ _ _ j] at e;exact e.symm
 refine wpAny_call (D6 (f:=f) I.kIn M.makes M.init (beq_iff_eq.mp M.fn) (codeAny_mono (F.run _ X.stack _ _ ⟨Value.ref (s.heap.objs.size+1)::us,[]⟩ (Value.ref (s.heap.objs.size+1)::(us++ds)) _ _ E (L.make C us [])
  (c.env0.make C us []) (D _ (Value.ref (s.heap.objs.size+1)::us) c.kIn J) l j) λr R a=>?_))
 cases r with
 | error e=>exact N b i _ _ e R c a
 | ok B=>
  cases B with
  | ret u=>
   let⟨v,n,y,P,z,O⟩:=c.after a;subst z;exact⟨P,⟨V.ref (s.heap.objs.size+1),n,y,Z,O⟩⟩
  | next=>exact False.elim a
  | brk=>exact False.elim a
  | cont=>exact False.elim a
def AS(M:Mk X.K C f)(F:ZK X.prog X.w X.K X.mg X.base CX k f fd ps sp)(v:ZZ (k+1) X.A)(n:Gl X x)(u:X.mg x=some (.ref C))(i:Z5 X.K fd ps ds)(j:ZQ jn ds)(y:VY CX X E)(g:PA X (e::es) t)(b:(x==("__debug__" : Str))=false:=by decide)(l:aq (e::es) X.env=(false,aG e X.env)::aq es X.env:=by rfl)(c:(aE pos (aq es X.env)).any (·.1)=false:=by rfl):
  PE X (.Call (.Name x p) (e::es) [] pos) (LH C sp jn E t):=by
 intro a s z H Q I h;refine ag (PJ I n u ?_ b);refine vS (h₀:=X.base) I.ok.mod.kin M.kp (YH (g pos a s z H _ I h) λG D J B d r q=>⟨d.kIn,?_⟩) l c;exact FP M F v i j y d r q
def C7(M:Mk X.K C f)(F:ZK X.prog X.w X.K X.mg X.base CX k f fd ps sp)(j:ZZ (k+1) X.A)(g:Gl X x)(i:X.mg x=some (.ref C))(c:Z5 X.K fd ps ds)(d:ZQ jn ds)(l:VY CX X E)(a:(x==("__debug__" : Str))=false:=by decide):PE X (.Call (.Name x p) [] [] pos) (LH C sp jn E Vp):=by
 intro b s n H Q I h;refine ag (PJ I g i ?_ a);exact sP I.kIn M.kp (FP (us:=[]) M F j c d l I .nil h)
end
def PK(X:Cx)(b:List Keyword)(t:TA):Prop:=
 ∀(c:aI)(a:ju)(s:ak)(d:St)(H:Hp)(Q:je->Hp->Prop),ZE X a d H s->t d H Q->aA (az X.prog X.w) X.A (evalAll ((backToKw c (keywordEach b X.env)).map (·.2))) (AP X a d Q) X.xe s
section
variable{CX:Wv}{k:Nat}{f C:aj}{fd:am}{ps ks:js}{sp:Sp}{E:XK}{x m:Str}{p pos jj kpos:aI}{e o:Expr}{es:jz}{kws:List Keyword}{te ta:TE}{t tk:TA}{nm:Option Str}
def ZOO:PK X [] Vp:=λ_ _ _ _ H Q I h=>wpAny_evalAll_nil ⟨[],H,I,.nil,h⟩
def Bg(j:PE X e te)(l:PK X kws t):PK X (⟨nm,e,kpos⟩::kws) (XV te t):=by
 intro pos a s b H Q I h;show aA _ _ (evalAll ((do let v<-aG e X.env;standAt pos;pure v)::(backToKw pos (keywordEach kws X.env)).map (·.2))) _ _ s
 refine wpAny_evalAll_cons (aa (YH (j a s b H _ I h) λu y x c g r n=>aa (ah (ad ?_))));exact YH (l pos a y b c _ g n) λB A z d i w q=>⟨x::z,d,i,.cons r w,q⟩
variable{g:jd->jd->jd}{gV:je->je->je}
end
structure ZA(N P:js)(sc:aD):Prop where
 kind:sc.kind=.function
 co:sc.isCoroutine=false
 gen:sc.isGenerator=false
 nd:N.Nodup
 pre:N.take P.length=P
 par:∀ x∈P,sc.names.lookup x=some .local\/sc.names.lookup x=some .cell
 nofree:∀ y∈sc.names,y.2≠.free
def Z4{N P:js}{a:aD}(b:a.kind=.function:=by rfl)(c:a.isCoroutine=false:=by rfl)(d:a.isGenerator=false:=by rfl)(e:N.Nodup:=by decide +kernel)(f:N.take P.length=P:=by rfl)(g:∀ x∈P,a.names.lookup x=some .local\/a.names.lookup x=some .cell:=by decide +kernel)(h:∀ y∈a.names,y.2≠.free:=by decide +kernel):ZA N P a:=⟨b,c,d,e,f,g,h⟩
def ER{kindOf:Str->Option NameKind}{x:Str}:∀{a:jK}{m:jb},(∀ v,(x,v)∉a)->bindL kindOf a m x=m x
 | [],_,_=>rfl
 | (n,v)::r,m,h=>by
  unfold bindL;rw[ER λw b=>h w (zH _ b)];split
  ·have:x≠n:=by rintro rfl;exact h v zP
   simp[this]
  ·rfl
def Gc{kindOf:Str->Option NameKind}{x:Str}:∀{a:jK}{m:jb},(∀ v,(x,v)∉a)->bindC kindOf a m x=m x
 | [],_,_=>rfl
 | (n,v)::r,m,h=>by
  unfold bindC;rw[Gc λw b=>h w (zH _ b)];split
  ·rfl
  ·have:x≠n:=by rintro rfl;exact h v zP
   simp[this]
def Ft{kindOf:Str->Option NameKind}{x:Str}{v:ai}:∀{P:js}{a:jd}{i:Nat}{m:jb},P.Nodup->P[i]? = some x->a[i]? = some v->kindOf x=some .local ->
  bindL kindOf (P.zip a) m x=some v
 | [],_,_,_,_,h,_,_=>by simp at h
 | _::_,[],_,_,_,_,h,_=>by simp at h
 | p::P,w::a,0,m,nd,h1,h2,hk=>by
  simp at h1 h2;subst h1;subst h2;show bindL kindOf ((p,w)::P.zip a) m p=_;unfold bindL;rw[ER λv b=>(xQ.mp nd).1 (tM b).1,aO hk];simp
 | p::P,w::a,i+1,m,nd,h1,h2,hk=>by
  show bindL kindOf ((p,w)::P.zip a) m x=_;unfold bindL;exact Ft (i:=i) (xQ.mp nd).2 (by simpa using h1) (by simpa using h2) hk
def EX{kindOf:Str->Option NameKind}{x:Str}{v:ai}:∀{P:js}{a:jd}{i:Nat}{m:jb},P.Nodup->P[i]? = some x->a[i]? = some v->kindOf x≠some .local ->
  bindC kindOf (P.zip a) m x=some v
 | [],_,_,_,_,h,_,_=>by simp at h
 | _::_,[],_,_,_,_,h,_=>by simp at h
 | p::P,w::a,0,m,nd,h1,h2,hk=>by
  simp at h1 h2;subst h1;subst h2;show bindC kindOf ((p,w)::P.zip a) m p=_;unfold bindC;rw[Gc λv b=>(xQ.mp nd).1 (tM b).1,aM hk];simp
 | p::P,w::a,i+1,m,nd,h1,h2,hk=>by
  show bindC kindOf ((p,w)::P.zip a) m x=_;unfold bindC;exact EX (i:=i) (xQ.mp nd).2 (by simpa using h1) (by simpa using h2) hk
def Uv(N:js)(a:je):St:=a.map some++wM (N.length-a.length) none
def VI(CX:Wv)(P:al)(w:ar)(K:zZ)(mg:jb)(kf:aC)(N:js)(qual:Str)(scope:aD)(f:aj)(cd:ai)(A:aw)(outer:jB)(s:ak)(H:Hp)(E:XK):Cx where
 prog:=P
 w:=w
 K:=K
 mg:=mg
 base:=kf
 A:=A.deeper (envOfC qual scope s.heap.objs.size f cd)
 N:=N
 s₀:=s
 H₀:=H
 env:=envOfC qual scope s.heap.objs.size f cd
 outer:=outer
 stack:=envOfC qual scope s.heap.objs.size f cd::outer
 ex:=[]
 calm:=true
 fn:=λ_=>true
 pn:=[]
 xe:=λe s'=>aA (az P w) (A.deeper (envOfC qual scope s.heap.objs.size f cd)) (leaving (envOfC qual scope s.heap.objs.size f cd) e) (λ_ s''=>CX outer H s E e s'') (λe' s''=>CX outer H s E e' s'') s'
def HG{a:aD}{n:Nat}{x:Str}(h:a.names.lookup x=some .cell):∃ c,(cellsFrom n a.names []).lookup x=some c:=by
 let q:=rC a.names n [] (.inl h);exact sB.mp q
def AD{Q:Wv}{P:al}{w:ar}{K:zZ}{M:jb}{m:aC}{N C:js}{j:Str}{d:aD}{f:aj}{I:ai}{A:aw}{g:jB}{s U:ak}{H:Hp}{E:XK}{O:jd}{D:je}(S:ZA N C d)(Y:A.handled=none)(o:Wf P w K M m A g s H)(hl:D.length=C.length)(r:ZQ D O)(x:InCallC s s.heap.objs.size (bindL (envOfC j d s.heap.objs.size f I).kindOf (C.zip O) λ_=>none) (cellsFrom (s.heap.objs.size+1) d.names []) (bindC (envOfC j d s.heap.objs.size f I).kindOf (C.zip O) λ_=>none) U):
  ZE (VI Q P w K M m N j d f I A g s H E) [] (Uv N D) H U:=by
 let a0:C.length<=N.length:=by have:=congrArg yD S.pre;rw[sZ] at this;lia
 let⟨J,tk,rfl,R⟩:=x.done;let B:∀ b:aj,b∉(VI Q P w K M m N j d f I A g s H E).ex:=λb z=>absurd (show b∈([]:jv) from z) (by simp)
 refine⟨⟨o.mod,S.kind,Z,Z,zY _,λy z c J l=>?_,λy t=>?_,λy c _ h=>?_,λ_=>Y,Around.frames_deeper o.frames,.inr ⟨Z,Z⟩,λb z=>absurd z (B b),o.bs,o.bsz,λb _ _=>B b,λb z=>absurd z (B b),o.funs,o.frf⟩,
  Z,o.bare,Un.kept R,⟨_,x.toInCall.ns,λi y v J l h3=>?_⟩,λy c h=>⟨_,x.cell y c h⟩,o.hok.fresh (zY _),λy c h=>?_,λp F=>absurd (show p∈([]:ju) from F) (by simp),o.hok.kept R,?_⟩
 ·exact name_of_addr x.apart (PySem.mem_of_lookup J) (PySem.mem_of_lookup l)
 ·let t:d.names.lookup y=some .cell\/d.names.lookup y=some .free:=t;rcases t with t | t
  ·exact HG t
  ·exact absurd Z (S.nofree _ (PySem.mem_of_lookup t))
 ·exact xX (x.above y c (PySem.mem_of_lookup h))
 ·let L:i<D.length:=by
   unfold Uv at l;by_cases L:i<D.length
   ·exact L
   ·rw[wO (by simpa using L)] at l
    rw[List.getElem?_replicate] at l;split at l <;> cases l
  let X:D[i]? = some v:=by
   unfold Uv at l;rw[wP (by simpa using L),zM] at l
   cases e:D[i]? with
   | none=>rw[e] at l;cases l
   | some a=>rw[e] at l;cases l;rfl
  let⟨u,T,rv⟩:=r.get X;let F:C[i]? = some y:=by
   rw[<-S.pre,List.getElem?_take_of_lt ∅];exact J
  let G:C.Nodup:=by rw[<-S.pre];exact S.nd.sublist (List.take_sublist _ _)
  exists u,rv;rcases S.par y (zC F) with k | k
  ·exact .inl ⟨k,Ft G F T k⟩
  ·let⟨c,e⟩:=HG (n:=s.heap.objs.size+1) k;refine .inr ⟨.inl k,c,e,?_⟩;let q:=x.cell y c e;rw[EX G F T (by show d.names.lookup y≠_;rw[k];decide)] at q
   exact q
 ·exact o.hok.fresh (xX (x.above y c (PySem.mem_of_lookup h)))
 ·unfold Uv;show _=N.length;rw[yV,zX,List.length_replicate]
  lia
def Kz{R:Wv}{P:al}{w:ar}{K:zZ}{T:jb}{h:aC}{k:Nat}{f:aj}{z d:Str}{i:Arguments}{j:jM}{a:aD}{dV kV F pm g ct oc:ai}{an od:jy}{a1:Array (jc)}{N U:js}{sp:Sp}(lk:K.lookup f=some ⟨oc,od,.func (yE z d i j a dV kV F pm an g ct),a1⟩)(X:xR K g d=true)(S:ZA N U a)(O:∀ l H Q E,sp l H Q E->l.length=U.length)(B:∀ (A:aw) (c:jB) (s:ak) (H:Hp) (l:je) (Q:VK) (E:XK),ZZ k (A.deeper (envOfC d a s.heap.objs.size f g))->sp l H Q E ->
   ∃ t,WC (VI R P w K T h N d a f g A c s H E) j t/\t { nx:=λ_ p=>Q .non p,rt:=Q } (Uv N l) H):
  ZK P w K T h R (k+1) f (yE z d i j a dV kV F pm an g ct) U sp:=by
 exists O;intro A c s H args us l Q E Y G hb r M;let hl:=O _ _ _ _ M;let KX:K.In s.heap:=G.mod.kin.keeps λb o e=>(G.bs b o e).1;let a0:s.heap.NoLimit:=G.mod.nolimit.keeps λb o e=>(G.bs b o e).1;let C:∀ y∈U.zip us,a.names.lookup y.1=some .local\/(a.names.lookup y.1=some .cell/\((cellsFrom (s.heap.objs.size+1) a.names []).lookup y.1).isSome=true):=λ⟨n,v⟩ hy=>by
  rcases S.par n (tM hy).1 with q | q
  ·exact .inl q
  ·exact .inr ⟨q,rC _ _ _ (.inl q)⟩
 refine codeAny_call_function Y.depth (KX _ _ lk) Z S.co S.gen Z (PySem.W.codeRec_of KX X) (hb _ _ _ _ ?_);refine wpAny_newFunctionEnv_cells S.kind C λa2 he s1 x=>?_;subst he;refine⟨a0.keeps x.toInCall.keep,codeAny_func ?_⟩;let⟨t,ht,hq⟩:=B A c s H l Q E (Y.deeper _) M;let I:ZE (VI R P w K T h N d a f g A c s H E) [] (Uv N l) H s1:=AD S Y.hd G hl r x;refine ae (ht [] s1 (Uv N l) H _ I hq) (λfl s' D=>?_) λe s' D=>D;let L:∀{m:St}{p:Hp}{v:V}{u:ai},ZE (VI R P w K T h N d a f g A c s H E) [] m p s'->ZU v u->Q v p->CE c P w H s Q u s':=
  fun{m p v u} J rv q=>⟨v,p,J.os,J.bare,J.base,J.hok,rv,q⟩
 cases fl with
 | ret u=>
  let⟨v,m,p,J,rv,q⟩:=D;exact L J rv q
 | next=>
  let⟨m,p,J,q⟩:=D;exact L (v:=V.non) (u:=Value.none) J Z q
 | brk=>
  let⟨_,_,_,q⟩:=D;exact False.elim q
 | cont=>
  let⟨_,_,_,q⟩:=D;exact False.elim q
section
variable{x:Str}{p pos:aI}{e:Expr}{es:jz}{t:TA}{id T:String}{r:je->Hp->VK->Prop}
def EB(r:je->Hp->VK->Prop)(t:TA):TE:=λc H Q=>t c H λb a=>r b a Q
def Zp(j:Wq X (.builtin id) r)(l:Gl X x)(m:X.mg x=none)(o:ax x=some (.builtin id))(i:PA X (e::es) t)(n:x ≠ "__name__" :=by decide)(b:(x==("__debug__" : Str))=false:=by decide)(k:aq (e::es) X.env=(false,aG e X.env)::aq es X.env:=by rfl)(c:(aE pos (aq es X.env)).any (·.1)=false:=by rfl):PE X (.Call (.Name x p) (e::es) [] pos) (EB r t):=by
 intro a s d H Q I h;refine ag (Py I l m o ?_ n b);exact PyProof.Rows.callWith_builtin1 (YH (i pos a s d H _ I h) λw v y f g u q=>j a v d f y w Q g u q) k c
def Wt(j:Wq X (.type T) r)(l:Gl X x)(m:X.mg x=none)(o:ax x=some (.type T))(i:PA X (e::es) t)(n:x ≠ "__name__" :=by decide)(b:(x==("__debug__" : Str))=false:=by decide)(k:aq (e::es) X.env=(false,aG e X.env)::aq es X.env:=by rfl)(c:(aE pos (aq es X.env)).any (·.1)=false:=by rfl):PE X (.Call (.Name x p) (e::es) [] pos) (EB r t):=by
 intro a s d H Q I h;refine ag (Py I l m o ?_ n b);exact PyProof.Rows.callWith_type1 (YH (i pos a s d H _ I h) λw v y f g u q=>j a v d f y w Q g u q) k c
end
end L2
variable{X:L2.Cx}{prog P:al}{w:ar}{A:aw}{E:ja}{s:ak}{K:zZ}{mg:jb}{f:aj}{fd:am}{kf:aC}
namespace HT
open PySem PyProof.Rows
def rcLt_int(A:aw)(s:ak)(a:Int)(t:Tok)(c:Int)(u:Tok)(b:al)(w:ar)(E Q:ja)(h:Q (.bool (decide (a<c))) s):
  aA (az b w) A (richCompare .Lt (.int a t) (.int c u)) Q E s:=
 (PyProof.Rows.lt_int h:aA (az b w) A (ay .Lt (.int a t) (.int c u)) Q E s)
section
open PySem.SeqAt
open PySem.AutoSeq1 (wpAny_loadPart')
open PySem.MeetsSeq PySem.MeetsSeq2 PySem.MeetsSeq3
end
def cat_tup{t b:aj}{d a:jd}{Q:ja}(C:IsTup s.heap t d.toArray)(B:IsTup s.heap b a.toArray)(u:d≠[])(y:a=[]->Q (.ref t) s)(z:a≠[]->Q (.ref s.heap.objs.size) { s with heap:=s.heap.push { cls:=.type "tuple",data:=.seq (d++a).toArray } })(m:d.length+a.length<=ap):aA (az prog w) A (binaryOp .Add (.ref t) (.ref b)) Q E s:=by
 let⟨⟨cls,p,data,x⟩,j,q,n,r⟩:=id C;let⟨⟨o,f,l,i⟩,c,g,v,h⟩:=id B;simp only at q r g h;subst q r g h;let e:d.toArray++a.toArray=(d++a).toArray:=by simp
 by_cases k:a=[]
 ·exact concat_meets ⟨_,j,Z⟩ ⟨_,c,Z⟩ noFill_tuple_add seq_tuple_add rD rA (qU _ _)
   (tuple_addW1 t b d.toArray a.toArray n v p f x i (by simpa using u) (by simp[k])) ⟨j,c,y k⟩
 ·refine concat_meets ⟨_,j,Z⟩ ⟨_,c,Z⟩ noFill_tuple_add seq_tuple_add rD rA (qU _ _)
   (tuple_addW2 t b d.toArray a.toArray n v p f x i (by simpa using u) (by simpa using k) (by rw[zK,zK];exact m)) ⟨j,c,?_⟩
  rw[e];exact z k
def sIx(n d:Nat):jG->Nat
 | none=>d
 | some v=>if v<0 then (v+(n:Int)).toNat else min v.toNat n
end HT
namespace L2
open PySem PySem.Spec PyProof.Rows
abbrev TO:=St->Hp->(jG->Hp->Prop)->Prop
def PO(X:Cx)(e:jP)(t:TO):Prop:=
 ∀(a:ju)(s:ak)(b:St)(H:Hp)(Q:jG->Hp->Prop),ZE X a b H s->t b H Q ->
  aA (az X.prog X.w) X.A (evalPart e X.env) (λu d=>∃ o c,ZE X a b c d/\IsPart u o/\Q o c) X.xe s
def Cs:TO:=λ_ H Q=>Q none H
inductive P7(Q:jG->Hp->Prop)(x:V)(a:Hp):Prop
 |mk(i:_)(_:x=.int i)(_:Q (some i) a)
def ZPY(t:TE):TO:=λb H Q=>t b H λx a=>P7 Q x a
def IK{a:jw}:∀{b:jd},ZQ (a.map V.int) b->IntsAre b a:=by
 induction a with
 | nil=>intro b r;rw[wC] at r;cases r;exact .nil
 | cons n a c=>
  intro b r;rw[yI] at r
  cases r with
  | cons d f=>
   let⟨t,e⟩:=d;subst e;exact .cons n t (c f)
section
variable{e:Expr}{te:TE}{lo hi:jP}{tl th:TO}{pos p2:aI}
def AL:PO X none Cs:=by
 intro a s b H Q I h;rw[evalPart_none];exact ad ⟨none,H,I,.none,h⟩
def Bh(h:PE X e te):PO X (some e) (ZPY te):=by
 intro a s j H Q I d;rw[evalPart_some];refine YH (h a s j H _ I d) λu k x b c g f=>?_;let⟨i,rfl,q⟩:=f;let⟨t,rfl⟩:=g;exact⟨some i,b,c,.int i t,q⟩
def Ga(X:Cx)(r:V->jG->jG->Hp->VK->Prop):Prop:=
 ∀(a:ju)(s:ak)(f:St)(H:Hp)(x:V)(v c d:ai)(lo hi:jG)(b:aj)(Q:VK),ZE X a f H s->ZU x v->s.heap.IsSliceOf b c d .none->IsPart c lo->IsPart d hi->r x lo hi H Q ->
  ∃ T id,typeLookup (.type T) "__getitem__" = pure (some (.builtin id))/\s.TypeIs v T/\aA (az X.prog X.w) X.A (getItem v (.ref b)) (EP X a f Q) X.xe s
def tSl(r:V->jG->jG->Hp->VK->Prop)(te:TE)(tl th:TO):TE:=λa H Q=>te a H λx b=>tl a b λl c=>th a c λu d=>r x l u d Q
def Cf{r:V->jG->jG->Hp->VK->Prop}(C:Ga X r)(y:PE X e te)(B:PO X lo tl)(E:PO X hi th):PE X (.Subscript e (.Slice lo hi none p2) pos) (tSl r te tl th):=by
 intro a s d H Q I h;refine Subscript_ (YH (y a s d H _ I h) λv N x j m M J=>?_);refine wpAny_Slice (YH (B a N d j _ m J) λf O l k n F K=>YH (E a O d k _ n K) λg c u i o G L=>?_);rw[evalPart_none];refine ad ?_;let p:ZE X a d i { c with heap:=c.heap.push { cls:=.type "slice",data:=.fields #[f,g,.none] } }:=o.kept (t':=c.toks) λb P q=>zT _ q;let⟨T,id,t,D,z⟩:=C a { c with heap:=c.heap.push { cls:=.type "slice",data:=.fields #[f,g,.none] } } d i x v f g l u c.heap.objs.size Q p M (Heap.IsSliceOf.new ..) F G L;show aA (az X.prog X.w) X.A (subscriptTail e (.Slice lo hi none p2) v (.ref c.heap.objs.size)) (EP X a d Q) X.xe { c with heap:=c.heap.push { cls:=.type "slice",data:=.fields #[f,g,.none] } };exact tail_any (ops:=[.ref c.heap.objs.size,v]) D t z (by with_unfolding_all rfl)
def Ox(a:je)(lo hi:jG):je:=(a.drop (HT.sIx a.length 0 lo)).take (HT.sIx a.length a.length hi-HT.sIx a.length 0 lo)
def ZGj(a:je)(lo hi:jG):(Ox a lo hi).length<=a.length:=by
 unfold Ox;rw[sZ,List.length_drop];exact zE (tK _ _) (vI _ _)
inductive Nk(K:zZ)(x y:V)(H:Hp)(Q:VK):Prop
 |mk(a b d c:_)(_:x=.ref a)(_:y=.ref b)(_:Za K H a d)(_:Za K H b c)(_:d≠[])(_:d.length+c.length<=ap)(_:c=[]->Q (.ref a) H)(_:c≠[]->∀ p,H p=none->Q (.ref p) (upd H p (.tup (d++c))))
def ZQ.nil_iff{b:je}{a:jd}(r:ZQ b a):a=[] ↔ b=[]:=by
 cases r with
 | nil=>simp
 | cons _ _=>simp
def ZNA:Ys X (binaryOp .Add) (Nk X.K):=by
 intro i s E H x y v u Q I t A h;let⟨a,b,B,C,rfl,rfl,j,k,l,f,p,r⟩:=h;cases t;cases A;let⟨m,d,n,_⟩:=I.tuple j;let⟨g,c,p2,_⟩:=I.tuple k;refine HT.cat_tup n p2 (λz=>l (d.nil_iff.mp z)) (λz=>⟨.ref a,H,I,Z,p (c.nil_iff.mp z)⟩) (λz=>?_) (by rw[<-d.length,<-c.length];exact f)
 refine⟨.ref s.heap.objs.size,_,I.laid (t':=s.toks) (o:=.tup (B++C)) (λb D q=>zT _ q) (zY _) ?_,Z,r (λw=>z (c.nil_iff.mpr w)) _ (I.hok.fresh (zY _))⟩;exact⟨by rw[yV];exact f,_,d.append c,IsTup.new _ _⟩
end
def QX(n:Nat)(i:Int):jO:=if 0<=i then (if i<n then some i.toNat else none) else if -(n:Int)<=i then some (i+n).toNat else none
def Xt{b:Type}(a:List b)(i:Int):Option b:=(QX a.length i).bind λj=>a[j]?
def HV{n:Nat}{i:Int}{j:Nat}(h:QX n i=some j):seqIndex? i n=some j/\j<n /\ -(n:Int)<=i/\i<n:=by
 unfold QX at h;by_cases b:0<=i
 ·rw[aO b] at h;by_cases a:i<n
  ·rw[aO a] at h;let e:i.toNat=j:=zG.inj h;exact⟨by rw[seqIndex_of b a,e],∅,∅,a⟩
  ·rw[aM a] at h;cases h
 ·rw[aM b] at h;by_cases a : -(n:Int)<=i
  ·rw[aO a] at h;let e:(i+n).toNat=j:=zG.inj h;exact⟨by rw[seqIndex_neg ∅ a,e],∅,a,∅⟩
  ·rw[aM a] at h;cases h
def L0{b:Type}{a:List b}{i:Int}{v:b}(h:Xt a i=some v):∃ j,seqIndex? i a.length=some j/\a[j]? = some v/\j<a.length /\ -(a.length:Int)<=i/\i<a.length:=by
 unfold Xt at h
 cases e:QX a.length i with
 | none=>rw[e] at h;cases h
 | some j=>
  rw[e] at h;let⟨c,d,f,g⟩:=HV e;exact⟨j,c,h,d,f,g⟩
def Xd{b:Type}{a:List b}{j:Nat}{v:b}(h:a[j]? = some v):Xt a (j:Int)=some v:=by
 let c:j<a.length:=(yS.mp h).1;let e:QX a.length (j:Int)=some j:=by
  unfold QX;rw[aO ∅,aO ∅];simp
 unfold Xt;rw[e];exact h
def KP{b:Type}(a:List b)(v:b):Xt (a++[v]) (-1)=some v:=by
 let c:(a++[v]).length=a.length+1:=by simp
 let e:QX (a++[v]).length (-1)=some a.length:=by
  unfold QX;rw[c,aM (by decide),aO ∅]
  congr 1
  lia
 unfold Xt;rw[e];show (a++[v])[a.length]? = some v;simp
def Ke(b:Expr):Prop:=∀ o i,subscripted b false o i=operate [o,i] (getItem o i)
def QB(X:Cx)(r:R2):Prop:=
 ∀(c a:Expr)(b:ju)(s:ak)(d:St)(H:Hp)(x y:V)(v u:ai)(Q:VK),ZE X b d H s->ZU x v->ZU y u->r x y H Q ->
  subscripted a false v u=operate [v,u] (getItem v u)->aA (az X.prog X.w) X.A (subscriptTail c a v u) (EP X b d Q) X.xe s
def Gk(X:Cx)(id:String)(r:V->je->Hp->VK->Prop):Prop:=
 ∀(a:ju)(s:ak)(d:St)(H:Hp)(x:V)(c:je)(v:ai)(b:jd)(Q:VK),ZE X a d H s->ZU x v->ZQ c b->r x c H Q ->
  aA (az X.prog X.w) X.A (call (.builtin id) (v::b)) (EP X a d Q) X.xe s
section
variable{a b:Expr}{ta tb:TE}{pos:aI}
def QB.or{r g:R2}(h:QB X r)(l:QB X g):QB X (λx y H Q=>r x y H Q\/g x y H Q):=by
 intro d c e s k H x y v u Q I i j q f;rcases q with q | q
 ·exact h d c e s k H x y v u Q I i j q f
 ·exact l d c e s k H x y v u Q I i j q f
def US{r:R2}(i:QB X r)(f:PE X a ta)(g:PE X b tb)(j:Ke b):PE X (.Subscript a b pos) (NL r ta tb):=by
 intro c s n H Q I h;exact Subscript_ (Jk f g I h λv u m x y d e k l q=>i a b c m n d x y v u Q e k l q (j _ _))
inductive MH(K:zZ)(x y:V)(H:Hp)(Q:VK):Prop
 |mk(p c i v:_)(_:x=.ref p)(_:y=.int i)(_:ZF K H p c)(_:Xt c i=some v)(_:Q v H)
inductive PF(K:zZ)(x y:V)(H:Hp)(Q:VK):Prop
 |mk(p c i v:_)(_:x=.ref p)(_:y=.int i)(_:Za K H p c)(_:Xt c i=some v)(_:Q v H)
inductive Nq(x y:V)(H:Hp)(Q:VK):Prop
 |mk(z i c:_)(_:x=.str z)(_:y=.int i)(_:z.length<=ap)(_:Xt z.cps.toList i=some c)(_:Q (.str ⟨#[c]⟩) H)
def Z2:QB X (MH X.K):=by
 intro n m c s C H x y v u Q I M N h B;let⟨p,T,i,z,rfl,rfl,L,G,q⟩:=h;cases M;let⟨t,rfl⟩:=N;let⟨g,r,k,S⟩:=I.list L;let⟨j,e,D,P,E,F⟩:=L0 G;let⟨w,o,l⟩:=r.get D;let J:=r.length;let R:=NF;let d:EP X c C Q w s:=⟨z,H,I,l,q⟩;by_cases A:0<=i
 ·let f:i.toNat=j:=by
   rw[seqIndex_of A F] at e;exact zG.inj e
  exact item_listR k.isList A ∅ (by rw[f];simpa using o) d B
 ·let f:(i+(g.toArray.size:Int)).toNat=j:=by
   rw[seqIndex_neg ∅ E] at e
   rw[zK,<-J];exact zG.inj e
  exact subscriptTail_builtinR (x:=w) k.isList.typeIs slot_list_getitem.lookup
   (wpAny_getItem_list_neg (Q:=λr O=>r=w/\EP X c C Q r O) k.isList ∅ (by rw[zK] <;> lia) ∅ (by rw[f];simpa using o) ⟨rfl,d⟩) B
def Qj:QB X (PF X.K):=by
 intro g f c s l H x y v u Q I F G h D;let⟨p,R,i,z,rfl,rfl,C,A,q⟩:=h;cases F;let⟨t,rfl⟩:=G;let⟨E,r,k,P⟩:=I.tuple C;let⟨j,n,o,L,M,N⟩:=L0 A;let⟨w,m,e⟩:=r.get o;let B:=r.length;let O:=NF;let d:EP X c l Q w s:=⟨z,H,I,e,q⟩;exact subscriptTail_builtinR (x:=w) k.typeIs slot_tuple_getitem.lookup
  (getItem_tuple (j:=j) (Q:=λr J=>r=w/\EP X c l Q r J) k ∅ ∅ (by rw[zK,<-B];exact n) (by simpa using m) ⟨rfl,d⟩) D
def ZO1:QB X Nq:=by
 intro e d g s G H x y v u Q I A B h w;let⟨z,i,c,rfl,rfl,E,p,q⟩:=h;let⟨t,rfl⟩:=A;let⟨F,rfl⟩:=B;let⟨j,f,m,C,n,o⟩:=L0 p;let r:z.cps.toList.length=z.length:=by simp[Str.length]
 rw[r] at f n o;let D:=NF;exact tail_any (typeIs_str s z t) slot_str_getitem.lookup (getItem_str (c:=c) (by
  let k:decide (i < -(2 ^ 63:Int))=false:=aJ ∅
  let l:decide (i ≥ 2 ^ 63)=false:=aJ ∅
  rw[k,l,Bool.or_false]) (by rw[f];simpa using m) ⟨.str ⟨#[c]⟩,H,I.tok _,⟨_,Z⟩,q⟩) w
def IP(K:zZ):R2:=λx y H Q=>MH K x y H Q\/PF K x y H Q\/Nq x y H Q
def An:QB X (IP X.K):=Z2.or (Qj.or ZO1)
def pxT{X:Cx}{a b:Expr}{ta tb:TE}{pos:aI}(K:zZ)(c:PE X a ta)(d:PE X b tb)(f:Ke b:=by exact λ_ _=>rfl)(e:QB X (PF K):=by exact Qj):PE X (.Subscript a b pos) (NL (PF K) ta tb):=US e c d f
def Zi{X:Cx}{a b:Expr}{ta tb:TE}{pos:aI}(K:zZ)(c:PE X a ta)(d:PE X b tb)(f:Ke b:=by exact λ_ _=>rfl)(e:QB X (IP K):=by exact An):PE X (.Subscript a b pos) (NL (IP K) ta tb):=US e c d f
def CQ(c:jd)(n j:Nat)(u:ai):Obj.mapSeq (·.setIfInBounds j u) { cls:=.type "list",data:=.seq c.toArray n }={ cls:=.type "list",data:=.seq (c.set j u).toArray n }:=by
 simp[Obj.mapSeq]
def ZE.lst{d:ju}{g:St}{H:Hp}{s:ak}{p:aj}{f:je}(I:ZE X d g H s)(h:H p=some (.lst f)):
  ∃(c:jd)(n:Nat),ZQ f c/\s.heap.get? p=some { cls:=.type "list",data:=.seq c.toArray n }/\f.length<=sizeLine:=by
 let⟨z,c,n,r,e⟩:=I.hok p _ h;exact⟨c,n,r,e,z⟩
def ZE.lstUpd{d:ju}{l:St}{H:Hp}{s:ak}{p:aj}{w j:je}{g c:jd}{n i:Nat}{f:aH->aH}(I:ZE X d l H s)(h:H p=some (.lst w))(o:s.heap.get? p=some { cls:=.type "list",data:=.seq g.toArray n })(k:f { cls:=.type "list",data:=.seq g.toArray n }={ cls:=.type "list",data:=.seq c.toArray i })(r:ZQ j c)(v:j.length<=ap)(t:Nat):
  ZE X d l (upd H p (.lst j)) { s with heap:=s.heap.update p f,toks:=t }:=by
 let e:(s.heap.update p f).get? p=some { cls:=.type "list",data:=.seq c.toArray i }:=by
  rw[wS f o (by rw[k] <;> rfl),k]
 refine I.write (x:=p) (e:=p) (by rw[h];trivial) (.inl rfl) (λb u m q=>(yA _ _ (Ne.symm m)).trans q) ⟨_,e⟩ ?_
 exact⟨v,c,i,r,e⟩
inductive MP(o i v:V)(H:Hp)(Q:Hp->Prop):Prop
 |mk(p c k j:_)(_:o=.ref p)(_:i=.int k)(_:H p=some (.lst c))(_:QX c.length k=some j)(_:Q (upd H p (.lst (c.set j v))))
def JL:FB X MP:=by
 intro d s G H o i v M L u Q I D C E h;let⟨p,F,k,j,rfl,rfl,z,A,q⟩:=h;cases D;let⟨t,rfl⟩:=C;let⟨c,n,r,l,B⟩:=I.lst z;let⟨e,J,x,y⟩:=HV A;let g:=r.length;let K:=NF;let m:ZE X d G (upd H p (.lst (F.set j v))) { s with heap:=s.heap.update p (Obj.mapSeq (·.setIfInBounds j u)) }:=
  I.lstUpd z l (CQ c n j u) (r.set E j) (by rw[wV];exact B) s.toks
 by_cases w:0<=k
 ·let f:k.toNat=j:=by
   rw[seqIndex_of w y] at e;exact zG.inj e
  exact PySem.W.ki_setAt l w ∅ (by rw[zK,<-g];exact y) (by rw[f];exact⟨_,m,q⟩)
 ·let f:(k+(c.toArray.size:Int)).toNat=j:=by
   rw[seqIndex_neg ∅ x] at e
   rw[zK,<-g];exact zG.inj e
  exact PySem.W.ki_setBack l ∅ (by rw[zK,<-g];exact x) ∅ (by rw[f];exact⟨_,m,q⟩)
def El(d c:jG)(n:Nat):(sliceBounds d c none n).1=((HT.sIx n 0 d:Nat):Int)/\(sliceBounds d c none n).2.1=((HT.sIx n n c:Nat):Int)/\(sliceBounds d c none n).2.2=1:=by
 refine⟨?_,?_,Z⟩
 ·cases d with
  | none=>simp[sliceBounds,HT.sIx]
  | some i=>
   simp only[sliceBounds,HT.sIx,Option.getD_none,show (1:Int) > 0 by decide,if_true]
   by_cases h:i<0
   ·simp only[h,if_true] <;> lia
   ·simp only[h,if_false] <;> lia
 ·cases c with
  | none=>simp[sliceBounds,HT.sIx]
  | some i=>
   simp only[sliceBounds,HT.sIx,Option.getD_none,show (1:Int) > 0 by decide,if_true]
   by_cases h:i<0
   ·simp only[h,if_true] <;> lia
   ·simp only[h,if_false] <;> lia
def ZEr(c:jd)(d e:jG):slicePick c.toArray d e none=((c.drop (HT.sIx c.length 0 d)).take (HT.sIx c.length c.length e-HT.sIx c.length 0 d)).toArray:=by
 let⟨f,g,h⟩:=El d e c.toArray.size;unfold slicePick;rw[f,g,h];simp only[sliceRange_one,pick_run,zK] <;> rfl
inductive Kg(K:zZ)(x:V)(e d:jG)(H:Hp)(Q:VK):Prop
 |mk(a c:_)(_:x=.ref a)(_:ZF K H a c)(_:∀ p,H p=none->Q (.ref p) (upd H p (.lst (Ox c e d))))
def Df:Ga X (Kg X.K):=by
 intro i s A H x v y z e f w Q I t j n p h;let⟨a,c,rfl,k,q⟩:=h;cases t;let⟨m,r,g,l⟩:=I.list k;let d:=r.length;exists "list",_,slot_list_getitem.lookup,g.isList.typeIs;refine wpAny_getItem_list_slice g.isList j n p .none (by simp) ?_ (by rw[zK] <;> lia)
 rw[ZEr,<-d];refine⟨.ref s.heap.objs.size,_,I.laid (t':=s.toks) (o:=.lst (Ox c e f)) (λb u q=>zT _ q) (zY _) ?_,Z,q _ (I.hok.fresh (zY _))⟩;exact⟨zE (ZGj c e f) l,_,0,(r.drop (HT.sIx c.length 0 e)).take (HT.sIx c.length c.length f-HT.sIx c.length 0 e),yU _ Z⟩
def PH:V->Bool
 | .non=>true
 | .bl _=>true
 | .int _=>true
 | .str _=>true
 | _=>false
def QH:V->V->Bool
 | .non,.non=>true
 | .bl a,.bl b=>a==b
 | .bl a,.int b=>(if a then 1 else 0)==b
 | .int a,.bl b=>a==(if b then 1 else 0)
 | .int a,.int b=>a==b
 | .str a,.str b=>a==b
 | _,_=>false
def N5{A:aw}{s:ak}{y x:V}{u v:ai}(f:ZU y u)(c:ZU x v)(g:PH y=true)(e:PH x=true):SeqAt.EqAt A s u v (QH y x):=by
 cases y with
 | non=>
  cases f
  cases x with
  | non=>cases c;exact SeqAt.EqAt.same _
  | bl b=>cases c;exact SeqAt.EqAt.none_bool b
  | int b=>let⟨t,rfl⟩:=c;exact SeqAt.EqAt.none_int b t
  | str b=>let⟨t,rfl⟩:=c;exact SeqAt.EqAt.none_str b t
  | _=>exact absurd (show false=true from e) zU
 | bl a=>
  cases f
  cases x with
  | non=>cases c;exact SeqAt.EqAt.bool_none a
  | bl b=>cases c;exact SeqAt.EqAt.bool_bool a b
  | int b=>let⟨t,rfl⟩:=c;exact SeqAt.EqAt.bool_int a b t
  | str b=>let⟨t,rfl⟩:=c;exact SeqAt.EqAt.bool_str a b t
  | _=>exact absurd (show false=true from e) zU
 | int a=>
  let⟨d,rfl⟩:=f
  cases x with
  | non=>cases c;exact SeqAt.EqAt.int_none a d
  | bl b=>cases c;exact SeqAt.EqAt.int_bool a d b
  | int b=>let⟨t,rfl⟩:=c;exact SeqAt.EqAt.int_int a d b t
  | str b=>let⟨t,rfl⟩:=c;exact SeqAt.EqAt.int_str a d b t
  | _=>exact absurd (show false=true from e) zU
 | str a=>
  let⟨d,rfl⟩:=f
  cases x with
  | non=>cases c;exact SeqAt.EqAt.str_none a d
  | bl b=>cases c;exact SeqAt.EqAt.str_bool a d b
  | int b=>let⟨t,rfl⟩:=c;exact SeqAt.EqAt.str_int a d b t
  | str b=>let⟨t,rfl⟩:=c;exact SeqAt.EqAt.str_str a d b t
  | _=>exact absurd (show false=true from e) zU
 | _=>exact absurd (show false=true from g) zU
def V3(x:V)(u:ai):Bool:=match u with
 | .none=>QH .non x
 | .bool b=>QH (.bl b) x
 | .int i _=>QH (.int i) x
 | .str z _=>QH (.str z) x
 | _=>false
def GL{x y:V}{u:ai}(r:ZU y u)(f:PH y=true):V3 x u=QH y x:=by
 cases y with
 | non=>cases r;rfl
 | bl b=>cases r;rfl
 | int i=>let⟨t,rfl⟩:=r;rfl
 | str z=>let⟨t,rfl⟩:=r;rfl
 | _=>exact absurd (show false=true from f) zU
def Ny{x:V}:∀{c:je}{d:jd},ZQ c d->c.all PH=true->d.any (V3 x)=c.any λy=>QH y x
 | _,_,.nil,_=>rfl
 | y::c,u::d,.cons r t,f=>by
  rw[uU,zQ] at f;rw[wA,wA,GL r f.1,Ny t f.2]
def Ng{A:aw}{s:ak}{x:V}{v:ai}(h:ZU x v)(g:PH x=true):∀{e:je}{d:jd},ZQ e d->e.all PH=true->∀ u∈d,SeqAt.EqAt A s u v (V3 x u)
 | _,_,.nil,_=>λu c=>by cases c
 | y::e,u::d,.cons r t,f=>λi c=>by
  rw[uU,zQ] at f;rcases zB.mp c with rfl | c
  ·rw[GL r f.1];exact N5 r h f.1 g
  ·exact Ng h g t f.2 i c
def NV(x:V)(c:je):Bool:=c.any λy=>QH y x
inductive PY(K:zZ)(d:Bool)(x y:V)(H:Hp)(Q:VK):Prop
 |mk(p c:_)(_:y=.ref p)(_:ZF K H p c\/Za K H p c)(_:PH x=true)(_:c.all PH=true)(_:Q (.bl (if d then !NV x c else NV x c)) H)
def Gz:Ys X (ay .In) (PY X.K false):=by
 intro j s o H x y v u Q I k m h;let⟨p,n,rfl,d,i,e,q⟩:=h;cases m;rcases d with d | d
 ·let⟨c,r,g,l⟩:=I.list d;refine SeqAt.in_listAt (V3 x) g.isList (λw f=>Ng k i r e w (by simpa using f)) ⟨.bl _,H,I,Z,?_⟩
  rw[show c.toArray.any (V3 x)=c.any (V3 x) by simp,Ny r e]
  exact q
 ·let⟨c,r,g,l⟩:=I.tuple d;refine SeqAt.in_tupleAt (V3 x) g (λw f=>Ng k i r e w (by simpa using f)) ⟨.bl _,H,I,Z,?_⟩
  rw[show c.toArray.any (V3 x)=c.any (V3 x) by simp,Ny r e]
  exact q
def Np:Ys X (ay .NotIn) (PY X.K true):=by
 intro j s o H x y v u Q I k m h;let⟨p,n,rfl,d,i,e,q⟩:=h;cases m;rcases d with d | d
 ·let⟨c,r,g,l⟩:=I.list d;refine SeqAt.notIn_listAt (V3 x) g.isList (λw f=>Ng k i r e w (by simpa using f)) ⟨.bl _,H,I,Z,?_⟩
  rw[show c.toArray.any (V3 x)=c.any (V3 x) by simp,Ny r e]
  exact q
 ·let⟨c,r,g,l⟩:=I.tuple d;refine SeqAt.notIn_tupleAt (V3 x) g (λw f=>Ng k i r e w (by simpa using f)) ⟨.bl _,H,I,Z,?_⟩
  rw[show c.toArray.any (V3 x)=c.any (V3 x) by simp,Ny r e]
  exact q
inductive Wc(d:zZ)(e:je)(H:Hp)(Q:VK):Prop
 |mk(p c:_)(_:e=[.ref p])(_:ZF d H p c\/Za d H p c)(_:Q (.int c.length) H)
def X9:Wq X (.builtin "len") (Wc X.K):=by
 intro i s t H o n Q I r h;let⟨p,j,rfl,d,q⟩:=h;let⟨u,rfl,l⟩:=Vd r;cases l;let m:=NF;rcases d with d | d
 ·let⟨e,g,f,k⟩:=I.list d;let c:=g.length;exact Calls.call_len_list f.isList (by simp only[zK] <;> lia) ⟨.int j.length,H,I.tok _,⟨s.toks+1,by rw[zK,c]⟩,q⟩
 ·let⟨e,g,f,k⟩:=I.tuple d;let c:=g.length;exact len_tuple f (by simp only[zK] <;> lia) ⟨.int j.length,H,I.tok _,⟨s.toks+1,by rw[zK,c]⟩,q⟩
inductive WZ(c:je)(H:Hp)(Q:VK):Prop
 |mk(z:_)(_:c=[.str z])(_:z.length<=ap)(_:Q (.int z.length) H)
def ZFj:Wq X (.builtin "len") (WZ):=by
 intro c s i H g f Q I r h;let⟨z,rfl,e,q⟩:=h;let⟨u,rfl,t,rfl⟩:=Vd r;let d:=NF;exact len_str ∅ ⟨.int z.length,H,I.tok _,⟨_,Z⟩,q⟩
inductive Wh(d:zZ)(e:je)(H:Hp)(Q:VK):Prop
 |mk(p c:_)(_:e=[.ref p])(_:ZF d H p c\/Za d H p c)(_:∀ l,H l=none->Q (.ref l) (upd H l (.lst c)))
def PU:Wq X (.type "list") (Wh X.K):=by
 intro t s D H F E Q I r h;let⟨p,A,rfl,k,q⟩:=h;let⟨u,rfl,C⟩:=Vd r;cases C;let i:∀(c:jd),ZQ A c->A.length<=ap->∀(d:aC)(f:Nat),(∀ b B,s.heap.get? b=some B->d.get? b=some B) ->
   d.get? s.heap.objs.size=some { cls:=.type "list",dict:=none,data:=.seq c.toArray f,slots:=#[] }->EP X t D Q (.ref s.heap.objs.size) { s with heap:=d }:=λc g l d f m e=>
  ⟨.ref s.heap.objs.size,_,I.laid (t':=s.toks) m (zY _) (show Zf X.prog X.w _ d _ (.lst A) from ⟨l,c,f,g,e⟩),rfl,q _ (I.hok.fresh (zY _))⟩
 rcases k with k | k
 ·let⟨c,g,z,l⟩:=I.list k;let j:=g.length;let⟨o,y,v,n,x⟩:=z.isList;exact call_list_seq p (.inl rfl) y v x (λd f m e=>i c g l d f m e) (by simp only[zK] <;> lia)
 ·let⟨c,g,z,l⟩:=I.tuple k;let j:=g.length;let⟨o,y,v,n,x⟩:=z;exact call_list_seq p (.inr rfl) y v x (λd f m e=>i c g l d f m e) (by simp only[zK] <;> lia)
inductive WR(d:zZ)(e:je)(H:Hp)(Q:VK):Prop
 |mk(p c:_)(_:e=[.ref p])(_:(ZF d H p c/\∀ l,H l=none->Q (.ref l) (upd H l (.tup c)))\/(Za d H p c/\Q (.ref p) H))
def NG:Wq X (.type "tuple") (WR X.K):=by
 intro c s t H A z Q I r h;let⟨p,n,rfl,h⟩:=h;let⟨u,rfl,y⟩:=Vd r;cases y;rcases h with ⟨g,q⟩ | ⟨g,q⟩
 ·let⟨d,j,i,m⟩:=I.list g;let l:=j.length;refine call_tuple_list i.isList (λf x=>?_) (by simp only[zK] <;> lia)
  let k:ZE X c t H { s with heap:=f }:=I.kept (t':=s.toks) x;let v:ZE X c t (upd H f.objs.size (.tup n)) { s with heap:=f.push { cls:=.type "tuple",data:=.seq d.toArray } }:=
   k.laid (t':=s.toks) (λb o e=>zT _ e) (zY _) (show Zf X.prog X.w _ _ _ (.tup n) from ⟨m,d,j,IsTup.new _ _⟩)
  exact⟨.ref f.objs.size,_,v,Z,q _ (k.hok.fresh (zY _))⟩
 ·let⟨d,j,i,m⟩:=I.tuple g;exact call_tuple_same i ⟨.ref p,H,I,Z,q⟩
def K0(K:zZ)(T:String)(x:V)(H:Hp):Prop:=match x with
 | .str _=>T = "str"
 | .int _=>T = "int"
 | .ref p=>(T = "list" /\ ∃ d,ZF K H p d)\/(T = "tuple" /\ ∃ o,K.lookup p=some o/\o.cls=.type "tuple" /\ o.dict=none) \/
   (T = "dict" /\ ((∃ c,H p=some (.dK c))\/∃ c,H p=some (.dT c)))\/(T = "set" /\ ∃ S n,H p=some (.set S n))
 | _=>False
def GZ{g:ju}{A:St}{H:Hp}{s:ak}{T:String}{x:V}{v:ai}(I:ZE X g A H s)(r:ZU x v)(h:K0 X.K T x H):
  s.TypeIs v T/\∀ a,v=.ref a->∃ m,s.heap.get? a=some m/\m.dict=none:=by
 cases x with
 | str z=>
  let⟨t,rfl⟩:=r;cases(show T = "str" from h);exact⟨typeIs_str s z t,λ_ e=>nomatch e⟩
 | int i=>
  let⟨t,rfl⟩:=r;cases(show T = "int" from h);exact⟨typeIs_int s i t,λ_ e=>nomatch e⟩
 | ref p=>
  cases r;rcases h with ⟨rfl,B,w⟩ | ⟨rfl,o,d,u,k⟩ | ⟨rfl,d⟩ | ⟨rfl,S,n,d⟩
  ·let⟨y,_,q,_⟩:=I.list w;exists q.isList.typeIs;intro a e;cases e;let⟨o,n,e,c,k,_⟩:=q;exact⟨o,e,k⟩
  ·exists ⟨o,I.kIn p o d,u⟩;intro a e;cases e;exact⟨o,I.kIn _ o d,k⟩
  ·let z:∃ o,s.heap.get? p=some o/\o.ExactDict:=by
    rcases d with ⟨l,d⟩ | ⟨l,d⟩
    ·let⟨_,_,_,_,o,_,_,e,f,_⟩:=I.hok p _ d;exact⟨o,e,f⟩
    ·let⟨_,_,_,_,o,_,_,e,f,_⟩:=I.hok p _ d;exact⟨o,e,f⟩
   let⟨o,e,f⟩:=z;exists ⟨o,e,f.1⟩;intro a j;cases j;exact⟨o,e,f.2.1⟩
  ·let⟨o,_,_,_,e,f,_⟩:=I.hok p _ d;exists ⟨o,e,f.1⟩;intro a j;cases j;exact⟨o,e,f.2.1⟩
 | _=>exact False.elim h
def CY(K:zZ)(T:String)(r:V->je->Hp->VK->Prop)(d:TE):TE:=λe H Q=>d e H λx c=>K0 K T x c/\r x [] c Q
def M8(K:zZ)(T:String)(r:V->je->Hp->VK->Prop)(f:TE)(t:TA):TE:=λd H Q=>f d H λx c=>K0 K T x c/\t d c λg e=>r x g e Q
variable{o e:Expr}{es:jz}{to:TE}{t:TA}{name:Str}{jj ji:aI}{T id:String}{r:V->je->Hp->VK->Prop}
def N4(w:PlainAttrs T)(g:Slot T name id)(i:typeOf (.builtin id)=pure (.type "method_descriptor"))(q:Gk X id r)(u:PE X o to)(d:attributeBase o name X.env (aG o X.env)=aG o X.env:=by rfl)(f:(jj.endLine==ji.line)=true:=by rfl):PE X (.Call (.Attribute o name jj) [] [] ji) (CY X.K T r to):=by
 intro c s l H Q I h;refine wpAny_Call_method0_late d f (Z1 (u c s l H _ I h) ?_);rintro v z ⟨x,m,j,k,A,y⟩;let⟨n,p⟩:=GZ j k A;exact⟨T,id,w,g,i,n,p,Calls.callWith_builtin Z (PySem.evalArgs_none (q c z l m x [] v [] Q j k .nil y))⟩
def Vn(E:PlainAttrs T)(j:Slot T name id)(k:typeOf (.builtin id)=pure (.type "method_descriptor"))(B:Gk X id r)(C:PE X o to)(A:PA X (e::es) t)(f:attributeBase o name X.env (aG o X.env)=aG o X.env:=by rfl)(i:((aE ji (aq (e::es) X.env)).all (λx=>!x.1)&&(backToKw ji (keywordEach [] X.env)).all (λx=>x.1.isSome)
   && decide ((e::es).length+([]:List Keyword).length+(if ([]:List Keyword).isEmpty then 0 else 1)<30))=true:=by rfl)(g:(jj.endLine==ji.line)=true:=by rfl)(D:aq (e::es) X.env=(false,aG e X.env)::aq es X.env:=by rfl)(d:(aE ji (aq es X.env)).any (·.1)=false:=by rfl):
  PE X (.Call (.Attribute o name jj) (e::es) [] ji) (M8 X.K T r to t):=by
 intro c s l H Q I h;refine wpAny_Call_method_late f i g Z (Z1 (C c s l H _ I h) ?_);rintro v L ⟨x,q,m,p,N,F⟩;let⟨y,z⟩:=GZ m p N;exists T,id,E,j,k,y,z;let n:=A ji c L l q _ m F;rw[D] at n⊢;refine Calls.callWith_builtin (by show (false || (aE ji (aq es X.env)).any (·.1))=false;rw[d] <;> rfl) (Calls.evalArgs_plain ?_)
 exact YH n λO M P u w J G=>B c M l u x P v O Q w p J G
end
def OE(X:Cx)(id:String)(r:V->je->Hp->VK->Prop):Prop:=
 ∀(a:ju)(s:ak)(d:St)(H:Hp)(x:V)(c:je)(v:ai)(b:jd)(Q:VK),ZE X a d H s->ZU x v->ZQ c b->r x c H Q ->
  aA (az X.prog X.w) X.A (call (.builtin id) (v::b)) (EP X a d Q) X.xe s
def ZQ.one:∀{x:V}{a:jd},ZQ [x] a->∃ u,a=[u]/\ZU x u:=λh=>by cases h with | cons r n=>cases n;exact⟨_,Z,r⟩
def ZQ.zero:∀{a:jd},ZQ [] a->a=[]
 | _,.nil=>rfl
def ZQ.dropLast{b:je}{a:jd}(h:ZQ b a):ZQ b.dropLast a.dropLast:=by
 induction h with
 | nil=>exact .nil
 | cons r t c=>
  cases t with
  | nil=>exact .nil
  | cons q d=>exact .cons r c
def ZHo{d:Type}(l:List d):l.eraseIdx (l.length-1)=l.dropLast:=by
 induction l with
 | nil=>rfl
 | cons a r c=>
  cases r with
  | nil=>rfl
  | cons b r=>
   let e:(a::b::r).length-1=((b::r).length-1)+1:=by
    let f:(a::b::r).length=r.length+2:=rfl;let g:(b::r).length=r.length+1:=rfl
    lia
   rw[e,List.eraseIdx_cons_succ,c]
   all_goals rfl
section
variable{jZ:ju}{σ:St}{H:Hp}{l b:aj}{xs ys zs:je}
def ZE.lset{a its':jd}{n:Nat}{f:jA->jA}{k:Nat}(I:ZE X jZ σ H s)(c:H l=some (.lst xs))(e:s.heap.get? l=some { cls:=.type "list",data:=.seq a.toArray n })(g:f a.toArray=its'.toArray)(i:ZQ ys its')(j:ys.length<=ap):
  ZE X jZ σ (upd H l (.lst ys)) { s with heap:=s.heap.update l (Obj.mapSeq f),toks:=k }:=by
 let q:=PySem.IsL.update e f;rw[g] at q;refine I.write (x:=l) (e:=l) (by rw[c];exact trivial) (.inl rfl) (λm u d h=>(yA s.heap (Obj.mapSeq f) (Ne.symm d)).trans h) ⟨_,q⟩ ?_
 exact⟨j,its',_,i,q⟩
def ZE.lnew{a:jd}{t':Nat}(I:ZE X jZ σ H s)(c:ZQ ys a)(d:ys.length<=ap):
  ZE X jZ σ (upd H s.heap.objs.size (.lst ys)) { s with heap:=s.heap.push { cls:=.type "list",data:=.seq a.toArray },toks:=t' }:=
 I.laid (λ_ _ q=>zT _ q) (zY _) ⟨d,a,0,c,yU _ rfl⟩
def ZE.fresh(I:ZE X jZ σ H s):H s.heap.objs.size=none:=I.hok.fresh (zY _)
def ZE.lstM(I:ZE X jZ σ H s)(c:H l=some (.lst xs)):xs.length<=ap/\∃(a:jd)(n:Nat),ZQ xs a/\xs.length=a.length/\s.heap.get? l=some { cls:=.type "list",data:=.seq a.toArray n }:=by
 let⟨z,a,n,r,e⟩:=I.hok l _ c;exact⟨z,a,n,r,r.length,e⟩
end
inductive Pa(x:V)(b:je)(H:Hp)(Q:VK):Prop
 |mk(l a y:_)(_:x=.ref l)(_:b=[y])(_:H l=some (.lst a))(_:a.length<ap)(_:Q .non (upd H l (.lst (a++[y]))))
def V1:OE X "list.append" Pa:=by
 intro c s p H x m v k Q I g f h;let⟨l,o,y,rfl,rfl,b,j,q⟩:=h;cases g;let⟨u,rfl,d⟩:=f.one;let⟨z,a,n,r,i,e⟩:=I.lstM b;refine call_meets F.slot_list_append ⟨_,e,Z⟩ F.entry_list_append (F.args_list_append_2 _ _) (PySem.list_append l a.toArray n u (by rw[zK];lia)) ⟨e,?_⟩
 refine⟨.non,_,I.lset (its':=a++[u]) b e (by simp) (r.append (.cons d .nil)) ?_,Z,q⟩
 rw[yV,xN]
 lia
inductive Kt(x:V)(b:je)(H:Hp)(Q:VK):Prop
 |mk(l a y:_)(_:x=.ref l)(_:b=[])(_:H l=some (.lst a))(_:a[a.length-1]? = some y)(_:Q y (upd H l (.lst a.dropLast)))
def Bu:OE X "list.pop" Kt:=by
 intro f s A H x t v p Q I o m h;let⟨l,w,y,rfl,rfl,d,j,q⟩:=h;cases o;let b:=m.zero;subst b;let⟨z,a,n,r,g,e⟩:=I.lstM d;let⟨u,i,k⟩:=r.get j;let c:a.toArray[a.toArray.size-1]? = some u:=by
  show a.toArray[a.length-1]? = some u;rw[<-rO,<-g];exact i
 refine call_meets F.slot_list_pop ⟨_,e,Z⟩ F.entry_list_pop (F.args_list_pop_1 _) (MeetsSeq.list_pop_last l a.toArray n u c (by rw[zK];lia)) ⟨e,?_⟩
 refine⟨y,_,I.lset (its':=a.dropLast) d e ?_ r.dropLast ?_,k,q⟩
 ·show a.toArray.eraseIdxIfInBounds (a.toArray.size-1)=a.dropLast.toArray;rw[zK,List.eraseIdxIfInBounds_toArray,ZHo]
 ·rw[List.length_dropLast]
  lia
inductive OQ(x:V)(a:je)(H:Hp)(Q:VK):Prop
 |mk(l b:_)(_:x=.ref l)(_:a=[])(_:H l=some (.lst b))(_:Q .non (upd H l (.lst [])))
def LC:OE X "list.clear" OQ:=by
 intro d s o H x k v j Q I g f h;let⟨l,m,rfl,rfl,c,q⟩:=h;cases g;let a:=f.zero;subst a;let⟨z,b,n,r,i,e⟩:=I.lstM c;refine call_meets F.slot_list_clear ⟨_,e,Z⟩ F.entry_list_clear (F.args_list_clear_1 _) (AutoSeq1.list_clear_list_0 l b.toArray n (by rw[zK];lia)) ⟨e,?_⟩
 exact⟨.non,_,I.lset (its':=[]) (ys:=[]) c e Z .nil (yW _),Z,q⟩
inductive Kv(x y:V)(H:Hp)(Q:VK):Prop
 |mk(l b a c:_)(_:x=.ref l)(_:y=.ref b)(_:H l=some (.lst a))(_:H b=some (.lst c))(_:a.length+c.length<=ap)(_:∀ p,H p=none->Q (.ref p) (upd H p (.lst (a++c))))
def NU:Ys X (binaryOp .Add) Kv:=by
 intro d s E H x y v u Q I o p h;let⟨l,b,B,D,rfl,rfl,j,i,w,q⟩:=h;cases o;cases p;let⟨z,c,n,r,t,e⟩:=I.lstM j;let⟨C,a,A,m,k,f⟩:=I.lstM i;refine PySem.P.add_list e f ?_ (by rw[zK,zK];lia)
 let g:c.toArray++a.toArray=(c++a).toArray:=by simp
 rw[g];exact⟨.ref _,_,I.lnew (t':=s.toks) (r.append m) (by rw[yV];lia),Z,q _ I.fresh⟩
end L2
namespace Att
open PySem PySem.W PySem.Calls PyProof.Rows
def ZD8{P:Params}{h:aC}:∀(c:jw)(d:jd),WellAll P h d (c.map WData.int)->IntsAre d c:=by
 intro c
 induction c with
 | nil=>
  intro d w;rw[wC] at w;cases w;exact .nil
 | cons n c e=>
  intro d w;rw[yI] at w
  cases w with
  | cons a b=>
   cases a;exact .cons _ _ (e _ b)
def ZJK{l:OpenLaw}{n:Nat}(v:l.most=some n){P:Params}{h:aC}{args:List WData}{e:jd}(c:l.row.toRowW.claim.pre args=true)(m:WellAll P h e args):
  ∃ a p b,e=[Value.ref a]/\args=[WData.list (b.map WData.int)]/\h.get? a=some { cls:=.type "list",data:=.seq p.toArray }/\IntsAre p b/\b.length<=n:=by
 let k:WShape.hasAll [] args [.list .int]=true:=(pre_splitW c).1;let o:l.pre.holds [] { args:=args }=true:=(pre_splitW c).2;let⟨d,r,rfl,s,t⟩:=hasAllW_cons k;obtain rfl:=hasAllW_nil t;let⟨A,rfl,u⟩:=hasW_list s;let⟨b,rfl⟩:=items_int u;let g:b.length<=n:=by
  unfold OpenLaw.pre at o;let i:(WTm.not (.lt (.lit (.int (n:Int))) (.len (.arg 0)))).holds [] { args:=[.list (b.map .int)] }=true:=by
   let i:=(holds_andW o).1;rw[v] at i;exact i
  let j:=condW_of i (w_not (w_lt w_lit (w_len_list (w_arg rfl))));rw[zX] at j;refine uS λq=>?_;let x:(n:Int)<((b.length:Nat):Int):=∅
  first
   | (rw[aK x] at j;exact absurd j (by decide))
   | (simp at j;lia)
 cases m with
 | cons y z=>
  cases z
  cases y with
  | list w f=>exact⟨_,_,b,Z,Z,w,ZD8 b _ f,g⟩
def C6(l:OpenLaw)(args:List WData):l.row.toRowW.claim.post args (.bool true) args=true:=
 postW_of (r:=l.row.toRowW) (X:=(true==true))
  (show WShape.has [] (.bool true) .bool=true by first | rfl | decide | simp[WShape.has,WShape.arms,WShape.armsAll])
  (show (WTm.eq .res (.lit (.bool true))).value [] { args:=args,res:=some (.bool true),after:=args }=some (.bool (true==true)) from w_eq_bool (w_res rfl) w_lit) rfl
def attach_call{l:OpenLaw}{n:Nat}{q:al}{c:js}{E:(jb)->aC->Prop}{F:ar->aC->Prop}{d:DefRec}(S:l.most=some n)(z:d.params.defaults=[])(j:∀ (w:ar) (e b:ak) (u C:jb) (k:aj) (o:aH) (D t g:ai) (a:aj) (i:jd) (v:jw),
   Ground q c [] E w e u C b.heap->F w b.heap ->
   b.heap.get? k=some o->o.data=.func (docDef d.name d.params d.body d.scope D t g)->b.heap.CodeRec t d.name->u d.name=some (.ref k) ->
   b.heap.get? a=some { cls:=.type "list",data:=.seq i.toArray }->IntsAre i v->v.length<=n->b.gens=#[] ->
   aF (az l.prog w) callerA (.call (.ref k) ⟨[.ref a],[]⟩) (λr x=>r=.ok (.ret (.bool true))/\OldK b.heap x.heap/\x.os=b.os/\AllBare x.gens) b):
  WalkO q c E F l.row.toRowW d [] (λf i=>PySem.call f i):=by
 intro w e b u C G Y k o D t g K kV T O y H A P args J W s I V B Q;obtain rfl:K=.none:=Dflts.none H z;obtain rfl:kV=.none:=Dflts.noKw H;let⟨a,i,v,rfl,rfl,p,h,m⟩:=ZJK S s B;refine enter_call (codeAny_mono (j w e b u C k o D t g a i v G Y T (fd_plain O) y A p h m P) λr x U=>?_);let⟨rfl,L,M,N⟩:=U;exact⟨.inl ⟨.bool true,.bool true,[],Z,λ_=>rfl,.bool true,C6 l _,λ_=>⟨List.Pairwise.nil,λ_ R=>(nomatch R)⟩⟩,L,M,N⟩
section
variable{K:Frag}
def ZQH(h:aC)(L d:aj):ju:=(zR h.objs.size).filterMap λa=>if a=L\/a=d then none else (h.get? a).map λo=>(a,o)
end
end Att
namespace L2
open PySem PySem.Spec PyProof.Rows
def Mj:∀{b:jd}{a:jw},IntsAre b a->ZQ (a.map V.int) b:=by intro _ _ h;induction h with
 | nil=>exact .nil
 | cons n t _ c=>exact .cons ⟨t,Z⟩ c
def Kp(H:Hp):Prop:=∀ b,H b=none\/∃ o a,H b=some (.frz o (.lst a))
def ZLC{P:al}{w:ar}{K:zZ}{M mb:jb}{CX:Wv}{k:Nat}{S a:aj}{fd:am}{x:Str}{sp:Sp}{c:ak}{y:jd}{N:jw}(KX:K.In c.heap)(G:c.heap.Ns ao M)(g:c.heap.Ns builtinsNs mb)(U:∀ x:Str,x ≠ "__name__"->mb x=ax x)(E:c.heap.NoLimit)(hg:c.gens=#[])(Q:c.heap.get? a=some { cls:=.type "list",data:=.seq y.toArray })(hi:IntsAre y N)(hl:N.length<=ap)(hr:ZZ k callerA)(F:∀ i:aC,K.In i->i.Ns ao M->ZK P w K M i CX k S fd [x] sp)(t:∀ (s:ak) (u:ai),BindsTo s fd ⟨[u],[]⟩ [(x,u)])(Y:∀ H:Hp,Kp H->ZF K H a (N.map V.int)->sp [.ref a] H (λv _=>v=.bl true) λ_ _ _=>False)(T:∀ H e j,CX [] H c (λ_ _ _=>False) e j->False):
  aF (az P w) callerA (.call (.ref S) ⟨[.ref a],[]⟩) (λr j=>r=.ok (.ret (.bool true))/\OldK c.heap j.heap/\j.os=c.os/\AllBare j.gens) c:=by
 let rv:=Mj hi;let L:=hi.length;let p:∀ H:Hp,Kp H->ZF K H a (N.map V.int)->YV P w H c.heap->(∀ b,H b≠none->b=a)->(H a≠none->K.lookup a=none) ->
   aF (az P w) callerA (.call (.ref S) ⟨[.ref a],[]⟩) (λr j=>r=.ok (.ret (.bool true))/\OldK c.heap j.heap/\j.os=c.os/\AllBare j.gens) c:=by
  intro H hO hS I hA hK;let f:∀{b:aj}{o:aH},c.heap.get? b=some o->H b=none->(Vr c.heap H).get? b=some o:=λe n=>GQ e n;let a0:∀{b:aj}{o:aH}{C:Array DictEntry}{B:Nat},c.heap.get? b=some o->o.data=.dict C B->H b=none:=fun{b o C B} e d=>by
   cases q:H b with
   | none=>rfl
   | some u=>
    let R:b=a:=hA b (by rw[q];simp)
    subst R;rw[Q] at e;cases e;let d':Data.seq y.toArray _=Data.dict C B:=d;cases d'
  let l:∀{b:aj}{m:jb},c.heap.Ns b m->(Vr c.heap H).Ns b m:=fun{b m} ⟨o,C,B,e,d,r⟩=>⟨o,C,B,f e (a0 e d),d,r⟩;let D:K.In (Vr c.heap H):=λb o e=>f (KX b o e) (by
   cases q:H b with
   | none=>rfl
   | some u=>
    let R:b=a:=hA b (by rw[q];simp)
    subst R;rw[hK (by rw[q];simp)] at e;cases e)
  let hM:Mod K M (Vr c.heap H):=⟨D,l G,⟨mb,l g,U⟩,let ⟨mc,h1,h2⟩:=E;⟨mc,l h1,h2⟩⟩;let e0:Wf P w K M (Vr c.heap H) callerA [] c H:=⟨Z,hM,λb o e=>Hj e,wD (F8 _ _),trivial,λb g=>absurd (show b∈([]:jv) from g) (by simp),I,.of_eq hg⟩
  refine codeAny_mono ((F _ D (l G)).run callerA [] c H ⟨[.ref a],[]⟩ [.ref a] [.ref a] _ _ hr e0 (t c (.ref a)) (.cons rfl .nil) (Y H hO hS)) λr j h=>?_
  cases r with
  | error e=>exact(T H e j h).elim
  | ok fl=>
   cases fl with
   | next=>exact False.elim h
   | brk=>exact False.elim h
   | cont=>exact False.elim h
   | ret u=>
    let⟨v,H',os,A,un,J,r',q⟩:=h;let q':v=.bl true:=q;subst q';obtain rfl:u=Value.bool true:=r';refine⟨Z,OldK.of_keep λb o e=>?_,os,A⟩
    cases q:H b with
    | none=>exact un.keep b o e q (by intro z;exact absurd (show b∈([]:jv) from z) (by simp)) (by simp)
    | some u=>
     rcases hO b with z | ⟨ob,xs,z⟩
     ·rw[q] at z;cases z
     ·let z2:=un.frzs b ob _ z;let⟨e1,_⟩:=I b _ z;let⟨e2,_⟩:=J b _ z2;rw[e] at e1;cases e1;exact e2
 cases X:K.lookup a with
 | some o=>
  let e:=KX a o X;rw[Q] at e;cases e;refine p (λ_=>none) (λ_=>.inl Z) (.inr ⟨_,y.toArray,_,X,rfl,rfl,rfl,by rw[zK,L];exact hl,by simpa using rv⟩) (λb u z=>by let O:(none:Option HO)=some u:=z;cases O) (λb z=>absurd Z z) λz=>absurd Z z
 | none=>
  refine p (λb=>if b=a then some (.frz { cls:=.type "list",data:=.seq y.toArray } (.lst (N.map V.int))) else none) (λb=>?_) (.inl (.inr ⟨{ cls:=.type "list",data:=.seq y.toArray },aO rfl⟩)) (λb u z=>?_) (λb z=>?_) λ_=>X
  ·by_cases g:b=a
   ·exact .inr ⟨_,_,aO g⟩
   ·exact .inl (aM g)
  ·by_cases g:b=a
   ·let O:=(aO g).symm.trans z;cases O;subst g;exact⟨Q,by rw[zX];exact hl,y,_,rv,Q⟩
   ·let O:=(aM g).symm.trans z;cases O
  ·by_cases g:b=a
   ·exact g
   ·exact absurd (aM g) z
abbrev KOf{K:zZ}{h:aC}(_:K.In h):zZ:=K
def ZP5{l:uO}{n k:Nat}{q:al}{loose:js}{XP:(jb)->aC->Prop}{YP:ar->aC->Prop}{d:DefRec}{K:Params->zZ}{CX:ar->Wv}{sp:ar->Sp}{x:Str}(hn:l.most=some n)(hn2:n<=ap)(hdf:d.params.defaults=[])(hr:ZZ k callerA)(hY:∀ (w:ar) (h:aC),YP w h->(K w.params).In h)(F:∀ (w:ar) (m:jb) (t:aj) (h:aC),(K w.params).In h->h.Ns ao m->m d.name=some (.ref t) ->
   ∃ z:am,(∀ (s:ak) (u:ai),BindsTo s z ⟨[u],[]⟩ [(x,u)]) /\
    ∀ c:aC,(K w.params).In c->c.Ns ao m->ZK l.prog w (K w.params) m c (CX w) k t z [x] (sp w))(hsp:∀ (w:ar) (H:Hp) (a:aj) (y:jw),y.length<=n->Kp H->ZF (K w.params) H a (y.map V.int)->sp w [.ref a] H (λv _=>v=.bl true) λ_ _ _=>False)(hCX:∀ (w:ar) (H:Hp) (s:ak) (e:ai) (B:ak),CX w [] H s (λ_ _ _=>False) e B->False):
  tQ q loose XP YP l.row.toRowW d [] (λf E=>PySem.call f E):=by
 refine Att.attach_call hn hdf λw D r m U t o X Q I a E y G Y S R O A p j i P=>?_;let C:=hY w _ Y;let⟨z,N,J⟩:=F w m t _ C G.T.g A;exact ZLC C G.T.g G.T.b G.T.builtins G.T.nolimit P p j (zE i hn2) hr J N (λH L M=>hsp w H a y i L M) λH e B=>hCX w H r e B
def Xo(s:aB)(j:Nat):Stmt:=match s with
 | .ClassDef _ _ _ a _ _ _ _ _ _ _=>a.getD j (.Pass ⟨0,0,0,0⟩)
 | _=>.Pass ⟨0,0,0,0⟩
def Vb(s:aB):Arguments:=match s with
 | .FunctionDef _ a _ _ _ _ _ _ _ _=>a
 | _=>{ posonlyargs:=[],args:=[],vararg:=none,kwonlyargs:=[],kw_defaults:=[],kwarg:=none,defaults:=[] }
def Xk(s:aB):List Stmt:=match s with
 | .FunctionDef _ _ b _ _ _ _ _ _ _=>b
 | _=>[]
def Ze(s:aB):Scope:=match s with
 | .FunctionDef _ _ _ _ _ _ a _ _ _=>a
 | _=>{ kind:=.function,names:=[],isGenerator:=false,isCoroutine:=false }
abbrev Zc:Wv:=λ_ _ _ _ _ _=>False
abbrev E0:XK:=λ_ _ _=>False
def Yv{X:Cx}:VY Zc X E0:=λ_ _ _ _ _ _ _ h=>h.elim
structure Zn(K:zZ)(x qual:Str)(st:aB)(f:aj)(fd:am):Prop where
 ex:∃(oc:ai)(od:jy)(kV doc pm:ai)(an:jy)(cdv ct:ai)(osl:Array (jc)),
  fd=yE x qual (Vb st) (Xk st) (Ze st) .none kV doc pm an cdv ct/\K.lookup f=some ⟨oc,od,.func fd,osl⟩/\xR K cdv qual=true
 kp:yT K (.ref f)=true
def Zn.ok{x b:Str}{g:aB}{f:aj}{o:am}{N m:js}{k:Nat}{n:Sp}(F:Zn K x b g f o)(S:ZA N m (Ze g))(l:∀ e H Q E,n e H Q E->e.length=m.length)(d:∀ (c:ai) (A:aw) (a:jB) (s:ak) (H:Hp) (e:je) (Q:VK) (E:XK),ZZ k (A.deeper (envOfC b (Ze g) s.heap.objs.size f c))->n e H Q E ->
   let X:=(VI Zc P w K mg kf N b (Ze g) f c A a s H E).nox;∃ t,WC X (Xk g) t/\t { nx:=λ_ p=>Q .non p,rt:=Q } (Uv N e) H):ZK P w K mg kf Zc (k+1) f o m n:=by
 let⟨B,C,kV,r,D,z,c,ct,y,rfl,v,i⟩:=F.ex;refine Kz v i S l λA a s H e Q E u j=>?_;let⟨t,h,q⟩:=d c A a s H e Q E u j;exact⟨t,h.nox,q⟩
def Zn.ko{x a:Str}{g:aB}{f:aj}{m:am}{N j:js}{k:Nat}{l:Sp}(F:Zn K x a g f m)(S:ZA N j (Ze g))(b:∀ (e:ai) (A:aw) (c:jB) (s:ak) (H:Hp) (d:je) (Q:VK) (E:XK),ZZ k (A.deeper (envOfC a (Ze g) s.heap.objs.size f e))->l d H Q E ->
   let X:=(VI Zc P w K mg kf N a (Ze g) f e A c s H E).nox;∃ t,WC X (Xk g) t/\t { nx:=λ_ n=>Q .non n,rt:=Q } (Uv N d) H)(i:∀ d H Q E,l d H Q E->d.length=j.length:=by intro d _ _ _ h;cases h;(try subst d);rfl):ZK P w K mg kf Zc (k+1) f m j l:=F.ok S i b
def Zn.binds{x a:Str}{d:aB}{f:aj}{k:am}{i:js}(F:Zn K x a d f k)(h:∀ (kV c g:ai) (e:jy) (b ct:ai) (j:jd),j.length=i.length->bindArgs (yE x a (Vb d) (Xk d) (Ze d) .none kV c g e b ct) ⟨j,[]⟩=pure (i.zip j)):Z5 K k i []:=by
 let⟨o,p,kV,c,g,e,b,ct,m,rfl,n,l⟩:=F.ex;exact .all (h kV c g e b ct)
def Vi{x a:Str}{st:aB}{f:aj}{i:ai}{j g:jy}{e:Array (jc)}{kV d h b ct:ai}(l:K.lookup f=some ⟨i,j,.func (yE x a (Vb st) (Xk st) (Ze st) .none kV d h g b ct),e⟩)(c:xR K b a=true)(k:yT K (.ref f)=true):Zn K x a st f (yE x a (Vb st) (Xk st) (Ze st) .none kV d h g b ct):=⟨⟨i,j,kV,d,h,g,b,ct,e,Z,l,c⟩,k⟩
def WV{A:aw}{k:Nat}(a:ZZ k A):A.units+1<cLine:=xJ (Nat.add_le_add_left (by decide:1<=64) _) a.units
def YO{n:Nat}(h:n<=1000):n<sizeLine:=xJ h (by decide)
def pv(i:Nat){x:Str}{b:aI}(c:X.N[i]? = some x:=by rfl)(e:Lh X.env.scope x:=by first | exact Or.inl rfl | exact Or.inr (Or.inl rfl) | exact Or.inr (Or.inr rfl))(d:(x==("__debug__" : Str))=false:=by decide)(a:(x==("__classdict__" : Str))=false:=by decide):PE X (.Name x b) (UC i):=FD c e d a
def Zj{A B:Prop}(h:B):if false=true then A else B:=by
 rw[aM zU];exact h
def Z6{A B:Prop}(h:A):if true=true then A else B:=by
 rw[aO rfl];exact h
def Xj{c A B:Prop}[Decidable c](a:c->A)(b:¬ c->B):if c then A else B:=by
 by_cases h:c
 ·rw[aO h];exact a h
 ·rw[aM h];exact b h
def NI{c A B:Prop}[Decidable c](a:c)(h:B):if (!decide c)=true then A else B:=by
 rw[aK a];exact Zj h
def ZB(H a:Hp):Prop:=∀ b o,H b=some o->a b=some o
def ZB.refl(H:Hp):ZB H H:=λ_ _ h=>h
def ZB.trans{H d e:Hp}(a:ZB H d)(b:ZB d e):ZB H e:=λc o h=>b c o (a c o h)
def ZB.free{H a:Hp}(e:ZB H a){l:aj}(h:a l=tV):H l=tV:=by
 cases q:H l with
 | none=>rfl
 | some o=>
  rw[e l o q] at h;cases h
def ZB.seq{K:zZ}{H b:Hp}{a:aj}{c:je}(e:ZB H b)(h:ZF K H a c):ZF K b a c:=by
 rcases h with (h | ⟨o,h⟩) | h
 ·exact .inl (.inl (e _ _ h))
 ·exact .inl (.inr ⟨o,e _ _ h⟩)
 ·exact .inr h
section
variable{R:Result->ak->Prop}
def FZ{elt target iter:Expr}{ifs:jz}{scope:aD}{pos:aI}{it acc:ai}{env:Env}(I:Nat->ak->Prop)(turn:∀ n s,I n s->aA (az prog w) A (pyNext it) (λr d=>match r with
   | none=>R (.ok .next) d
   | some v=>aA (az prog w) A (letOwnedTupleGo target it v) (λ_ j=>aA (az prog w) A (assign target env v) (λ_ k=>
     aA (az prog w) A (forIn ifs true λc r=>if r=true then do let y<-isTrue c env (aG c env);pure (ForInStep.yield y) else pure (ForInStep.yield r)) (λy f=>
      if y=true then aA (az prog w) A (aG elt env) (λx l=>
       aA (az prog w) A (call (.builtin "list.append") [acc,x]) (λ_ o=>∃ m,m<n/\I m o) (notedBy (az prog w) A env λe b=>R (.error e) b) l) (notedBy (az prog w) A env λe b=>R (.error e) b) f
      else ∃ m,m<n/\I m f) (notedBy (az prog w) A env λe b=>R (.error e) b) k) (notedBy (az prog w) A env λe b=>R (.error e) b) j) (notedBy (az prog w) A env λe b=>R (.error e) b) d) (notedBy (az prog w) A env λe b=>R (.error e) b) s)(n:Nat)(h:I n s):
  aF (az prog w) A (.compLoop (.ListComp elt [⟨target,iter,ifs,0⟩] scope pos) 0 it acc env) R s:=by
 refine codeAny_loop Z I (λn s z=>?_) n h;show aA _ A ((compTurn (.ListComp elt [⟨target,iter,ifs,0⟩] scope pos) 0 it acc env).onRaise (λx=>do noteFrame x env;theTreesLotGoes x)) _ _ s
 refine wpAny_noted ?_;rw[compTurn_list];refine aa (ah (aa (ae (turn n s z) (λr d g=>?_) λ_ _ a=>a)))
 cases r with
 | none=>exact ad g
 | some v=>
  refine aa (ae g (λ_ j p=>?_) λ_ _ a=>a);refine aa (ae p (λ_ k q=>aa (ae q (λy f i=>?_) λ_ _ a=>a)) λ_ _ a=>a)
  cases y with
  | false=>exact ad ⟨Z,i⟩
  | true=>
   exact aa (aa (ae i (λx l t=>aa (ae t (λ_ o u=>ad (ad ⟨Z,u⟩)) λ_ _ a=>a)) λ_ _ a=>a))
end
def Xv(b:Env)(l:List (Str×NameKind)):jE->jE:=λa=>l.foldl (λa p=>if p.2==.free then (p.1,(b.cells.lookup p.1).getD 0)::a else a) a
def MD(a:Env)(l:List (Str×NameKind)):Prop:=∀ p∈l,p.2=.free->∃ c,a.cells.lookup p.1=some c
def K5{b:Env}{d:aD}(h:MD b d.names):closureFor d b=pure (Xv b d.names []):=by
 let i:∀(l:List (Str×NameKind))(f:jE),MD b l->(forIn l f λx r=>if (x.2==.free)=true then do let a<-cellOf b x.1;pure (ForInStep.yield ((x.1,a)::r)) else pure (ForInStep.yield r):Sem (jE))=pure (Xv b l f):=by
  intro l
  induction l with
  | nil=>intro f _;rfl
  | cons p r n=>
   intro f j;let e:Xv b (p::r) f=Xv b r (if p.2==.free then (p.1,(b.cells.lookup p.1).getD 0)::f else f):=rfl
   rw[List.forIn_cons,e]
   cases o:(p.2==NameKind.free) with
   | true=>
    let⟨c,m⟩:=j p zP (eq_of_beq o);let g:cellOf b p.1=pure c:=by unfold cellOf;rw[m]
    simp only[if_true,g,pure_bind];rw[n _ λq k=>j q (zH _ k),m];rfl
   | false=>
    simp only[vU,if_false,pure_bind];exact n _ λq k=>j q (zH _ k)
 have:=i d.names [] h;simpa [closureFor] using this
def F7{a:Env}:∀{l:List (Str×NameKind)}{b:jE}{x:Str}{c:aj},MD a l->(Xv a l b).lookup x=some c->b.lookup x=some c\/a.cells.lookup x=some c
 | [],_,_,_,_,h=>.inl h
 | p::r,b,x,c,hf,h=>by
  let i:(Xv a r (if p.2==.free then (p.1,(a.cells.lookup p.1).getD 0)::b else b)).lookup x=some c:=h
  rcases F7 (λq j=>hf q (zH _ j)) i with q | q
  ·cases f:(p.2==NameKind.free) with
   | true=>
    rw[f,aO rfl,xK] at q
    cases e:x==p.1 with
    | true=>
     rw[e] at q;let⟨d,g⟩:=hf p zP (eq_of_beq f);refine .inr ?_;rw[eq_of_beq e,g];rw[g] at q;exact q
    | false=>
     rw[e] at q;exact .inl q
   | false=>
    rw[f,aM zU] at q;exact .inl q
  ·exact .inr q
def G2{a:Env}{x:Str}:∀{l:List (Str×NameKind)}{b:jE},(b.lookup x).isSome=true->((Xv a l b).lookup x).isSome=true
 | [],_,h=>h
 | p::r,b,h=>by
  show ((Xv a r (if p.2==.free then (p.1,(a.cells.lookup p.1).getD 0)::b else b)).lookup x).isSome=true
  refine G2 ?_
  cases c:(p.2==NameKind.free) with
  | true=>
   rw[aO rfl,xK]
   cases e:x==p.1 with
   | true=>rfl
   | false=>exact h
  | false=>rw[aM zU];exact h
def EN{a:Env}{x:Str}:∀{l:List (Str×NameKind)}{b:jE},(x,NameKind.free)∈l->((Xv a l b).lookup x).isSome=true
 | [],_,h=>by cases h
 | p::r,b,h=>by
  show ((Xv a r (if p.2==.free then (p.1,(a.cells.lookup p.1).getD 0)::b else b)).lookup x).isSome=true
  rcases zB.mp h with e | h
  ·subst e;refine G2 ?_;show (xM x ((x,(a.cells.lookup x).getD 0)::b)).isSome=true;rw[xK,beq_self_eq_true];rfl
  ·exact EN h
def Yd(a:Env)(b:jE):Prop:=∀ x c,b.lookup x=some c->a.cells.lookup x=some c
def Yd.get{a:Env}{b:jE}{x:Str}{c:aj}(h:Yd a b)(e:b.lookup x=some c):a.cells.lookup x=some c:=h x c e
def JK{a:Env}{l:List (Str×NameKind)}(h:MD a l):Yd a (Xv a l []):=λx c e=>by
 rcases F7 h e with q | q
 ·cases q
 ·exact q
def HH{env:Env}:∀{names:List (Str×NameKind)}{x:Str},names.lookup x=some .free ->
  (names.map fun(n,k)=>if (k==NameKind.free&&env.scope.kind==.function&&env.kindOf n==some .cell) then (n,NameKind.cell) else (n,k)).lookup x=some .cell \/
  (names.map fun(n,k)=>if (k==NameKind.free&&env.scope.kind==.function&&env.kindOf n==some .cell) then (n,NameKind.cell) else (n,k)).lookup x=some .free
 | [],_,h=>by simp at h
 | (n,k)::r,x,h=>by
  rw[xK] at h;simp only[yI]
  cases a:x==n with
  | true=>
   rw[a] at h;cases h;split
   ·exact .inl (by rw[xK,a])
   ·exact .inr (by rw[xK,a])
  | false=>
   rw[a] at h;let b:=HH (env:=env) h;split
   ·rw[xK,a];exact b
   ·rw[xK,a];exact b
def Hf{env:Env}:∀{names:List (Str×NameKind)}{x:Str},(∀ y∈names,y.2≠.cell) ->
  ((names.map fun(n,k)=>if (k==NameKind.free&&env.scope.kind==.function&&env.kindOf n==some .cell) then (n,NameKind.cell) else (n,k)).lookup x=some .cell \/
  (names.map fun(n,k)=>if (k==NameKind.free&&env.scope.kind==.function&&env.kindOf n==some .cell) then (n,NameKind.cell) else (n,k)).lookup x=some .free)->(x,NameKind.free)∈names
 | [],_,_,h=>by simp at h
 | (n,k)::r,x,hc,h=>by
  let e:∀ y∈r,y.2≠.cell:=λy f=>hc y (zH _ f);simp only[yI] at h
  cases b:x==n with
  | true=>
   let c:=eq_of_beq b;subst c;by_cases a:k=.free
   ·subst a;exact zP
   ·let d:(k==NameKind.free)=false:=by simpa using a
    simp only[d,uT,vU,if_false,xK,beq_self_eq_true] at h;rcases h with h | h
    ·exact absurd (zG.inj h) (hc _ zP)
    ·exact absurd (zG.inj h) a
  | false=>
   refine zH _ (Hf (env:=env) e ?_);split at h
   ·simpa only [xK,b] using h
   ·simpa only [xK,b] using h
def Z8(X:Cx)(a:aD):jp->js->Prop
 | [],[]=>True
 | i::is,y::ys=>X.N[i]? = some y/\(X.env.kindOf y=some .cell\/X.env.kindOf y=some .free)/\a.names.lookup y=some .free/\Z8 X a is ys
 | _,_=>False
def Z8.len{X:Cx}{a:aD}:∀{b:jp}{c:js},Z8 X a b c->b.length=c.length
 | [],[],_=>rfl
 | _::_,_::_,h=>congrArg (· + 1) h.2.2.2.len
def Z8.get{X:Cx}{a:aD}:∀{b:jp}{c:js}{j:Nat}{y:Str},Z8 X a b c->c[j]? = some y ->
  ∃ i,b[j]? = some i/\X.N[i]? = some y/\(X.env.kindOf y=some .cell\/X.env.kindOf y=some .free)/\a.names.lookup y=some .free
 | [],[],_,_,_,h=>by simp at h
 | i::_,z::_,0,y,f,h=>by
  simp at h;subst h;exact⟨i,Z,f.1,f.2.1,f.2.2.1⟩
 | _::b,_::c,j+1,y,f,h=>by
  let⟨i,e,r⟩:=Z8.get (j:=j) f.2.2.2 (by simpa using h)
  exact⟨i,by simpa using e,r⟩
def Yg(X:Cx)(N:js)(a:aD)(b:jE)(C:aj)(s:ak)(H:Hp)(c:jv)(E:ja):Cx where
 prog:=X.prog
 w:=X.w
 K:=X.K
 mg:=X.mg
 base:=X.base
 A:=X.A
 N:=N
 s₀:=s
 H₀:=H
 env:=compEnvC a b C X.env
 outer:=X.stack
 stack:=X.stack
 ex:=c
 fn:=λ_=>false
 calm:=X.calm
 pn:=[]
 xe:=E
def Ij(b:St)(a:jp):St:=none::a.map λi=>(b[i]?).join
def P0(b:St)(a:jp)(x:V):St:=some x::a.map λi=>(b[i]?).join
def Q8(X:Cx)(b:jz)(e:TT):Prop:=
 ∀(a:ju)(s:ak)(d:St)(H:Hp)(Q:Bool->Hp->Prop),ZE X a d H s->e d H Q ->
  aA (az X.prog X.w) X.A (forIn b true λc r=>if r=true then do let ok<-isTrue c X.env (aG c X.env);pure (ForInStep.yield ok) else pure (ForInStep.yield r)) (TP X a d Q) X.xe s
def Ia:TT:=λ_ H Q=>Q true H
def V4{X:Cx}:Q8 X [] Ia:=λ_ _ _ H _ I h=>wpAny_tests_nil ⟨H,I,h⟩
def OB{X:Cx}{c:Expr}{t:TT}(h:PT X c t):Q8 X [c] t:=λa s d H Q I b=>wpAny_tests_one (h a s d H Q I b)
def WH(J:It)(j:St)(h:jp)(l:TT)(k:TE)(e:Hp)(Q:VK):Prop:=
 ∀ D,e D=none->∃ W:Nat->Nat->Hp->Prop,(∃ m,W 0 m (upd e D (.lst [])))/\∀ i m H,W i m H ->
  (J.stop i H/\Q (.ref D) H)\/(J.go i H/\∀ x d,J.yld i H x d->l (P0 j h x) d λc f=>
   if c=true then k (P0 j h x) f λy g=>∃ b a,g D=some (.lst b)/\b.length<ap/\a<m/\W (i+1) a (upd g D (.lst (b++[y])))
   else ∃ a,a<m/\W (i+1) a f)
def KK(f:TI)(c:jp)(e:TT)(d:TE):TE:=λa H Q=>f a H λJ b=>WH J a c e d b Q
section
variable{jZ:ju}{σ:St}{H:Hp}
def ZJr{b:jp}{j:Nat}{v:V}(h:(b.map λi=>(σ[i]?).join)[j]? = some (some v)):∃ i,b[j]? = some i/\σ[i]? = some (some v):=by
 rw[zM] at h
 cases e:b[j]? with
 | none=>rw[e] at h;cases h
 | some i=>
  rw[e] at h;let a:(σ[i]?).join=some v:=zG.inj h;exists i,Z
  cases q:σ[i]? with
  | none=>rw[q] at a;cases a
  | some o=>
   rw[q] at a
   cases o with
   | none=>cases a
   | some z=>cases a;rfl
def NO(a:Env)(l:List (Str×NameKind)):Bool:=l.all λp=>!(p.2==.free) || a.kindOf p.1==some .cell || a.kindOf p.1==some .free
def JI{X:Cx}{l:List (Str×NameKind)}(a:X.Ok)(h:NO X.env l=true):MD X.env l:=λp c b=>by
 let q:=zF.mp h p c;rw[b] at q;let d:(X.env.kindOf p.1==some .cell || X.env.kindOf p.1==some .free)=true:=by simpa using q
 rcases Bool.or_eq_true_iff.mp d with q | q
 ·exact a.has p.1 (.inl (eq_of_beq q))
 ·exact a.has p.1 (.inr (eq_of_beq q))
def Oo(a:aD)(x:Str):Bool:=a.kind==.function&&a.names.lookup x==some .local&&a.names.all (λp=>!(p.2==.cell))&&a.names.all (λp=>!(p.2==.local) || a.names.lookup p.1==some .local)
structure PL(scope:aD)(x:Str):Prop where
 kind:scope.kind=.function
 own:scope.names.lookup x=some .local
 cell:∀ y∈scope.names,y.2≠.cell
 names:∀ y∈scope.names,y.2=.local->scope.names.lookup y.1=some .local
def MT{a:aD}{x:Str}(h:Oo a x=true):PL a x:=by
 unfold Oo at h;rw[zQ,zQ,zQ] at h;let⟨⟨⟨c,d⟩,e⟩,f⟩:=h;refine⟨eq_of_beq c,eq_of_beq d,λy b z=>?_,λy b z=>?_⟩
 ·have:=zF.mp e y b;rw[z] at this;cases this
 ·have:=zF.mp f y b;rw[z] at this;let q:(a.names.lookup y.1==some NameKind.local)=true:=by simpa using this
  exact eq_of_beq q
def KC{a:aD}{b:Env}(d:∀ y∈a.names,y.2≠.cell)(y:Str)(h:(relabel a b).names.lookup y=some .cell\/(relabel a b).names.lookup y=some .free):∃ c,(Xv b a.names []).lookup y=some c:=
 sB.mp (EN (Hf d h))
def EF(i:Nat)(t:TE):TS:=λD σ H=>t σ H λv a=>D.nx (σ.set i (some v)) a
end
def Mc(b:js)(c:St)(a:jp):St:=b.map (λ_=>(none:jf))++a.map λi=>(c[i]?).join
def Ld(J:It)(k:Nat)(g:TG)(p:St)(n:jp)(s:TT)(r:TE)(h:Hp)(Q:VK):Prop:=
 ∀ D,h D=none->∃ W:Nat->Nat->Hp->Prop,(∃ m,W 0 m (upd h D (.lst [])))/\∀ i m H,W i m H ->
  (J.stop i H/\Q (.ref D) H)\/(J.go i H/\∀ x f,J.yld i H x f->∀ o:St,o.length=k->g x (o++n.map λi=>(p[i]?).join) f λa q=>(∃ d:St,d.length=k/\a=d++n.map λi=>(p[i]?).join)/\s a q λc j=>
   if c=true then r a j λy l=>∃ e b,l D=some (.lst e)/\e.length<ap/\b<m/\W (i+1) b (upd l D (.lst (e++[y])))
   else ∃ b,b<m/\W (i+1) b j)
def F1(k:Nat)(g:TG)(f:TI)(c:jp)(e:TT)(d:TE):TE:=λa H Q=>f a H λJ b=>Ld J k g a c e d b Q
section
variable{jZ:ju}{σ:St}{H:Hp}
def HS{xs J:js}{G:jp}{a:aD}{K:jE}{fp:jv}{E:ja}{g:aC}{D C n tk:Nat}{m:jb}(I:ZE X jZ σ H s)(M:∀ b∈fp,VF X jZ H b/\b<s.heap.objs.size)(f:Yd X.env K)(A:a.kind=.function)(t:∀ y,((relabel a X.env).names.lookup y=some .cell\/(relabel a X.env).names.lookup y=some .free)->∃ c,K.lookup y=some c)(fo:Z8 X a G J)(L:s.heap.objs.size<=D)(Q:s.heap.objs.size<=C)(R:D≠C)(S:g.Ns C m)(k:∀ b o,s.heap.get? b=some o->g.get? b=some o)(hd:g.get? D=some { cls:=.type "list",data:=.seq ([]:jd).toArray n }):
  ZE (Yg X (xs++J) a K C s H fp E) [] (Mc xs σ G) (upd H D (.lst [])) { s with heap:=g,toks:=tk }:=by
 let d:∀ y c,K.lookup y=some c->c<s.heap.objs.size:=λy c e=>by
  let⟨v,q⟩:=I.cell y c (f.get e);exact q.lt
 refine⟨⟨I.ok.mod,A,I.ok.glob,I.ok.blt,Q,λy z c h1 h2=>I.ok.inj y z c (f.get h1) (f.get h2),t,λy c h _=>absurd h (by simp[Yg]),I.ok.hd,I.ok.frames,.inl Z,λb F=>⟨?_,λy c e=>?_⟩,I.bs,zE I.ok.bsz I.sz,λb o e F=>?_,λb F z=>?_,I.stack,I.stkFree⟩,
  Z,I.bare,Un.laid k L (I.hok.fresh L),⟨m,S,λj y v e1 Y B=>?_⟩,λy c e=>?_,?_,λy c e=>?_,λp hp=>absurd (show p∈([]:ju) from hp) (by simp),I.hok.laid k L ?_,?_⟩
 ·exact zL (yL (M b F).2 Q)
 ·exact(M b F).1.2.2.2.2.1 y c (f.get e)
 ·let⟨_,_,_,z,_⟩:=(M b F).1;rcases z with z | z
  ·exact I.ok.noex b o e z
  ·exact absurd (yL (zW (I.ok.bs b o e).1) z) (xG _)
 ·let⟨_,z1,z2,_⟩:=(M b F).1;rcases zB.mp (I.stkSub b z) with q | q
  ·exact z1 q
  ·exact z2 q
 ·by_cases N:j<xs.length
  ·exfalso
   let B:(xs.map (λ_=>(none:jf))++G.map λi=>(σ[i]?).join)[j]? = some (some v):=Y;rw[wP (by rw[zX];exact N),zM,zV N] at B
   cases B
  ·let W:(xs++J)[j]? = some y:=e1;let O:J[j-xs.length]? = some y:=by rw[wO (uS N)] at W;exact W
   let B:(xs.map (λ_=>(none:jf))++G.map λi=>(σ[i]?).join)[j]? = some (some v):=Y;let P:(G.map λi=>(σ[i]?).join)[j-xs.length]? = some (some v):=by
    rw[wO (by rw[zX];exact uS N),zX] at B
    exact B
   let⟨i,q1,q2⟩:=ZJr P;let⟨i',p1,p2,w,U⟩:=fo.get O;rw[q1] at p1;cases p1;let p4:(relabel a X.env).names.lookup y=some .cell\/(relabel a X.env).names.lookup y=some .free:=HH U;let⟨c,p5⟩:=t y p4;let⟨m0,a0,hl⟩:=I.loc;let⟨u,r,l⟩:=hl i y v p2 q2 (.inr w);refine⟨u,r,.inr ⟨p4,c,p5,?_⟩⟩;rcases l with ⟨l1,_⟩ | ⟨_,c',l2,l3⟩
   ·rcases w with w | w
    ·rw[l1] at w;cases w
    ·rw[l1] at w;cases w
   ·rw[f.get p5] at l2;cases l2;let⟨o,T,x⟩:=l3;exact⟨o,k _ _ T,x⟩
 ·let⟨v,o,T,x⟩:=I.cell y c (f.get e);exact⟨v,o,k _ _ T,x⟩
 ·show upd H D (.lst []) C=none;rw[ZO (Ne.symm R)];exact I.hok.fresh Q
 ·show upd H D (.lst []) c=none;rw[ZO (zL (yL (d y c e) L))];exact I.freeC y c (f.get e)
 ·exact⟨yW _,[],n,.nil,hd⟩
 ·show (Mc xs σ G).length=(xs++J).length;unfold Mc;rw[yV,zX,zX,fo.len,yV]
def GB(k:Nat)(c:jp)(σ a:St):Prop:=∃ b:St,b.length=k/\a=b++c.map λi=>(σ[i]?).join
inductive IB(Y:Cx)(k:Nat)(f:jp)(σ:St)(g:Nat->aC->Prop)(e:jv)(W:Nat->Nat->Hp->Prop)(n:Nat)(d:ak):Prop
 |mk(i:Nat)(a:St)(c:Hp):ZE Y [] a c d->GB k f σ a->g i d.heap->(∀ b∈e,c b=none)->W i n c->IB Y k f σ g e W n d
def Hy{elt iter tg:Expr}{xs:js}{g:TG}{ifs:jz}{scope:aD}{cl:jE}{pos:aI}{ix:jp}{ys:js}{tt:TT}{te:TE}{it:aj}{fp:jv}{tn:Nat->aC->Prop}{J:It}{Q:VK}{E:ja}{RR:ai->aj->Result->ak->Prop}(hc:X.calm=true)(hg:∀ C s H fp E,PG (Yg X (xs++ys) scope cl C s H fp E) tg g)(ht:∀ C s H fp E,Q8 (Yg X (xs++ys) scope cl C s H fp E) ifs tt)(he:∀ C s H fp E,PE (Yg X (xs++ys) scope cl C s H fp E) elt te)(sub:Yd X.env cl)(jk:scope.kind=.function)(jo:∀ y∈scope.names,y.2≠.cell)(hhas:∀ y,((relabel scope X.env).names.lookup y=some .cell\/(relabel scope X.env).names.lookup y=some .free)->∃ c,cl.lookup y=some c)(fo:Z8 X scope ix ys)(I:ZE X jZ σ H s)(T:VX X.prog X.w X.K tg J fp it tn)(st:tn 0 s.heap)(hf:∀ b∈fp,VF X jZ H b)(q:Ld J xs.length g σ ix tt te H Q)(hRR:∀ D C s' H' m,s.heap.objs.size<=C->ZE X jZ σ H' s'->VF X jZ H' C->s'.heap.Ns C m->Q (.ref D) H'->RR (.ref D) C (.ok .next) s'):
  aA (az X.prog X.w) X.A (newList []) (λacc s₃=>aA (az X.prog X.w) X.A (newFunctionEnv scope X.env.globals cl [] X.env.qual none .none (some X.env)) (λcenv s₄=>
   aF (az X.prog X.w) X.A (.compStart (.ListComp elt [⟨tg,iter,ifs,0⟩] scope pos) 0 (.ref it) acc { cenv with scope:=relabel scope X.env }) (RR acc cenv.locals) s₄) E s₃) E s:=by
 refine wpAny_newObj_type (wpAny_newFunctionEnv jo (by intro y hy;simp at hy) (λh₁ hns₁ hsb₁=>?_) jk)
 dsimp only at hns₁ hsb₁⊢;generalize hH2:s.heap.push { cls:=.type "list",dict:=none,data:=.seq ([]:jd).toArray }=H2 at hns₁ hsb₁⊢;let hC:H2.objs.size=s.heap.objs.size+1:=by rw[<-hH2,vO]
 let hDC:s.heap.objs.size≠H2.objs.size:=by rw[hC];exact zL (xT _)
 let hCle:s.heap.objs.size<=H2.objs.size:=by rw[hC];exact wR _
 let below:∀ b,b<s.heap.objs.size->b≠H2.objs.size/\b≠s.heap.objs.size:=λb hb=>⟨by rw[hC];exact zL (vW hb),zL hb⟩
 let old:∀ b o,s.heap.get? b=some o->h₁.get? b=some o:=λb o e=>hsb₁.extBut b o (below b (zW e)).1 (zT _ (hH2 ▸ zT _ e));let hacc:∃ n,h₁.get? s.heap.objs.size=some { cls:=.type "list",data:=.seq ([]:jd).toArray n }:=⟨_,hsb₁.extBut _ _ hDC (zT _ (hH2 ▸ yU _ rfl))⟩;let⟨nD,hacc⟩:=hacc;let hf':∀ b∈fp,VF X jZ H b/\b<s.heap.objs.size:=λb hb=>⟨hf b hb,by let⟨o,e,_⟩:=T.obj 0 _ st b hb;exact zW e⟩
 let hDn:H s.heap.objs.size=none:=I.hok.fresh (zY _);let⟨W,⟨m0,w0⟩,turn⟩:=q _ hDn;generalize hE:notedBy (az X.prog X.w) X.A (compEnvC scope cl H2.objs.size X.env) (λe s'=>RR (.ref s.heap.objs.size) H2.objs.size (.error e) s')=EE;let I0:ZE (Yg X (xs++ys) scope cl H2.objs.size s H fp EE) [] (Mc xs σ ix) (upd H s.heap.objs.size (.lst [])) { s with heap:=h₁,toks:=s.toks+([]:jK).length }:=
  HS I hf' sub jk hhas fo (zY _) hCle hDC hns₁ old hacc
 let st1:tn 0 h₁:=T.keep _ _ _ st λb _ o e=>old b o e;let fr1:∀ b∈fp,upd H s.heap.objs.size (.lst []) b=none:=λb hb=>by rw[ZO (below b (hf' b hb).2).2];exact(hf b hb).1
 let stat:∀{H':Hp},(∀ b∈fp,H' b=none)->∀ b∈fp,VF (Yg X (xs++ys) scope cl H2.objs.size s H fp EE) [] H' b:=λhn b hb=>
  ⟨hn b hb,(I0.ok.exf b hb).1,I0.ok.exfs b hb,.inl hb,(I0.ok.exf b hb).2,λp hp=>absurd (show p∈([]:ju) from hp) (by simp)⟩
 let loop:∀ s₃:ak,s₃={ s with heap:=h₁,toks:=s.toks+([]:jK).length } ->
   aF (az X.prog X.w) X.A (.compLoop (.ListComp elt [⟨tg,iter,ifs,0⟩] scope pos) 0 (.ref it) (.ref s.heap.objs.size) (compEnvC scope cl H2.objs.size X.env)) (RR (.ref s.heap.objs.size) H2.objs.size) s₃:=by
  rintro s₃ rfl;refine FZ (IB (Yg X (xs++ys) scope cl H2.objs.size s H fp EE) xs.length ix σ tn fp W) ?_ m0 ⟨0,_,_,I0,⟨_,zX _,Z⟩,st1,fr1,w0⟩;rintro n s3 ⟨i,σ3,H3,I3,⟨o3,ho3,hσ3⟩,st3,fr3,w3⟩;rw[hE];rcases turn i n H3 w3 with ⟨stop,qn⟩ | ⟨go,step⟩
  ·refine Z1 (T.done (Yg X (xs++ys) scope cl H2.objs.size s H fp EE) Z Z Z hc i [] s3 σ3 H3 EE I3 (stat fr3) st3 stop) ?_;rintro r s4 ⟨hr,I4⟩;subst hr;let⟨m4,hn4,_⟩:=I4.loc;let Ix:ZE X jZ σ H3 s4:=I.call' (s':=s4) (ch:=fp) I4.os I4.base I4.hok I4.bare λb hb=>by
    let⟨_,z1,_,z3,z4,z5⟩:=hf b hb;exact⟨z3,z1,z4,z5⟩
   exact hRR _ _ s4 H3 m4 hCle Ix (I.fpOk hCle I4.free) hn4 qn
  ·refine Z1 (T.item (Yg X (xs++ys) scope cl H2.objs.size s H fp EE) Z Z Z hc i [] s3 σ3 H3 EE I3 (stat fr3) st3 go) ?_;rintro r s4 ⟨u,hr,h4⟩;subst hr;refine Z1 h4 ?_;rintro _ s5 ⟨xv,H5,I5,r5,y5,st5,fr5⟩;let I5':=I5.pinned (stat fr5) (T.obj _ _ st5);let again:∀{σ7:St}{H7:Hp}{s7:ak}{m':Nat},ZE (Yg X (xs++ys) scope cl H2.objs.size s H fp EE) ([]++NA fp s5.heap) σ7 H7 s7->GB xs.length ix σ σ7->m'<n->W (i+1) m' H7 ->
     ∃ m,m<n/\IB (Yg X (xs++ys) scope cl H2.objs.size s H fp EE) xs.length ix σ tn fp W m s7:=fun{σ7 H7 s7 m'} I7 e7 hm w7=>by
    refine⟨m',hm,.mk (i+1) σ7 H7 I7.unpinned e7 (T.keep _ _ _ st5 λb hb o e=>(I7.pin (b,o) (xW _ (xW _ (NM hb e)))).1) (λb hb=>?_) w7⟩;let⟨o,e,d⟩:=T.obj _ _ st5 b hb;exact(I7.pin (b,o) (xW _ (xW _ (NM hb e)))).2.1
   let stp:=step xv _ y5 o3 ho3;rw[<-hσ3] at stp;refine Z1 (hg _ _ _ _ _ _ s5 σ3 H5 xv u _ I5' r5 stp) ?_;rintro _ s6 ⟨σ6,H6,I6,e6,q6⟩;refine Z1 (ht _ _ _ _ _ _ s6 _ _ _ I6 q6) ?_;rintro ok s7 ⟨H7,I7,q7⟩
   cases ok with
   | false=>
    rw[aM zU] at q7⊢;let⟨m',hm,w7⟩:=q7;exact again I7 e6 hm w7
   | true=>
    rw[aO rfl] at q7⊢;refine Z1 (he _ _ _ _ _ _ s7 _ _ _ I7 q7) ?_;rintro y s8 ⟨yv,H8,I8,r8,ys8,m',e8,z8,hm,w8⟩;refine Z1 (V1 _ s8 _ H8 (.ref s.heap.objs.size) [yv] (.ref s.heap.objs.size) [y] (λ_ H9=>W (i+1) m' H9) I8 Z (.cons r8 .nil) ⟨_,ys8,yv,Z,Z,e8,z8,w8⟩) ?_;rintro _ s9 ⟨_,H9,I9,_,w9⟩;exact again I9 e6 hm w9
 exact codeAny_compStart_list (loop _ Z) (T.self _ 0 _ _ _ st1 (loop _ rfl))
def Ae{f c t:Expr}(j:js)(x:Str){g:TG}{i:jz}{a:aD}{p:aI}{G:TI}{z:TT}{y:TE}(u:jp)(k:js)(hc:X.calm=true)(hg:∀ C s H d E,PG (Yg X (j++k) a (Xv X.env a.names []) C s H d E) t g)(hi:PI X t c G)(ht:∀ C s H d E,Q8 (Yg X (j++k) a (Xv X.env a.names []) C s H d E) i z)(he:∀ C s H d E,PE (Yg X (j++k) a (Xv X.env a.names []) C s H d E) f y)(W:Z8 X a u k)(hk:NO X.env a.names=true:=by rfl)(n:Oo a x=true:=by rfl)(hs:∀ x,foldedSetIterable c X.env x=pure x:=by intro _;rfl):
  PE X (.ListComp f [⟨t,c,i,0⟩] a p) (F1 j.length g G u z y):=by
 intro jZ s σ H Q I h;let B:=MT n;let F:=JI I.ok hk;rw[eval_ListComp];refine wpAny_comprehension_free (use:=none) Z hs (K5 F) B.kind B.names (Z1 (hi jZ s σ H _ I h) λv s1 Y=>Z1 Y λa0 s2 h2=>?_);let⟨it,d,tn,J,H2,e,L,T,r,P,q2⟩:=h2;subst e;refine Hy (RR:=λl C=>compPost (az X.prog X.w) X.A X.xe none (EP X jZ σ Q) l C) hc hg ht he (JK F) B.kind B.cell (KC B.cell) W L T r P q2 ?_;intro D C s' K m hC M V hn q;refine⟨m,hn,λh' sb=>⟨.ref D,K,?_,Z,q⟩⟩;let⟨N,O,_,R,S,U⟩:=V;exact M.turned (t':=s'.toks) (λb o n e=>(sb.2 b n).trans e) N O R S U
def Gx{f d u:Expr}(G:js)(x:Str){g:TG}{y:Str}{p:aI}{j:jz}{c:aD}{l k:aI}{wi:TI}{tt:TT}{te:TE}{i:Nat}(ix:jp)(K:js)(hN:X.N.Nodup)(O:X.N[i]? = some y)(Y:X.env.scope.names.lookup y=some .local)(hc:X.calm=true)(hg:∀ C s H n E,PG (Yg X (G++K) c (Xv X.env c.names []) C s H n E) u g)(hi:PI X u d wi)(ht:∀ C s H n E,Q8 (Yg X (G++K) c (Xv X.env c.names []) C s H n E) j tt)(he:∀ C s H n E,PE (Yg X (G++K) c (Xv X.env c.names []) C s H n E) f te)(fo:Z8 X c ix K)(P:swapsWith (.ListComp f [⟨u,d,j,0⟩] c l) (some (.Name y p)) k.line X.env=pure true:=by rfl)(hk:NO X.env c.names=true:=by rfl)(M:Oo c x=true:=by rfl)(hs:∀ x,foldedSetIterable d X.env x=pure x:=by intro _;rfl):
  PS X (.Assign [.Name y p] (.ListComp f [⟨u,d,j,0⟩] c l) k) (EF i (F1 G.length g wi ix tt te)):=by
 intro jZ s σ H D I h;let B:=MT M;let F:=JI I.ok hk;rw[exec_Assign_Name_used _ _ _ _ P];refine aa (ah (aa ?_));show aA _ X.A (do let _<-comprehension (.ListComp f [⟨u,d,j,0⟩] c l) c X.env _ (newList []) false (aG d X.env) (some (assign (.Name y p) X.env))) _ _ s
 refine aa (ae (wpAny_comprehension_free (use:=some (assign (.Name y p) X.env)) (Q:=λ_ t=>SP X jZ D .next t) rfl hs (K5 F) B.kind B.names
  (Z1 (hi jZ s σ H _ I h) λv s1 h1=>Z1 h1 λa0 s2 h2=>?_)) (λ_ t hq=>ad (ad hq)) λ_ _ e=>e)
 let⟨it,n,tn,J,H2,e,I2,T,S,f2,q2⟩:=h2;subst e;refine Hy (RR:=λL C=>compPost (az X.prog X.w) X.A X.xe (some (assign (.Name y p) X.env)) (λ_ t=>SP X jZ D .next t) L C) hc hg ht he (JK F) B.kind B.cell (KC B.cell) fo I2 T S f2 q2 ?_;intro U C t H' m hC Ix fC hn q;let⟨f0,V,_,f3,W,f5⟩:=fC;show aA _ X.A (assign (.Name y p) X.env (.ref U)) _ _ _;refine wpAny_assign_Name (Gj Ix hN O (.inl Y) (v:=.ref U) Z (λs3 I3 ⟨a,sb,r⟩=>?_) (.inr Y));let ne:C≠a:=by
  rcases r with r | r
  ·rw[r];exact V
  ·exact λz=>W y a r z.symm
 refine⟨m,hn.sameBut sb ne,λh' R=>⟨_,H',?_,q⟩⟩;exact I3.turned (t':=s3.toks) (λb o M e=>(R.2 b M).trans e) f0 V f3 W f5
def IC(K:zZ):TG:=Nv K 2 (Qf (QT 0) (Qf (QT 1) HM))
def ZNl{x y:Str}{h i a:aI}{k:Nat}(g:X.calm=true)(b:X.N.Nodup)(e:X.N[0]? = some x)(f:X.N[1]? = some y)(c:X.env.scope.names.lookup x=some .local)(d:X.env.scope.names.lookup y=some .local):PG X (.Tuple [.Name x h,.Name y i] k a) (IC X.K):=
 PM g (Y6 (Qo b e (.inl c) (.inr c)) (Y6 (Qo b f (.inl d) (.inr d)) Q2))
def AW{x:Str}{q:js}{p:jp}{a:aD}{g:jE}{l:jv}{E:ja}{d:aC}{D C n z:Nat}{m:jb}(I:ZE X jZ σ H s)(w:∀ b∈l,VF X jZ H b/\b<s.heap.objs.size)(j:Yd X.env g)(e:a.kind=.function)(f:∀ y,((relabel a X.env).names.lookup y=some .cell\/(relabel a X.env).names.lookup y=some .free)->∃ c,g.lookup y=some c)(r:Z8 X a p q)(u:s.heap.objs.size<=D)(t:s.heap.objs.size<=C)(h:D≠C)(i:d.Ns C m)(k:∀ b o,s.heap.get? b=some o->d.get? b=some o)(v:d.get? D=some { cls:=.type "list",data:=.seq ([]:jd).toArray n }):
  ZE (Yg X (x::q) a g C s H l E) [] (Ij σ p) (upd H D (.lst [])) { s with heap:=d,toks:=z }:=
 HS (xs:=[x]) I w j e f r u t h i k v
def WH.toT{J:It}{a:jp}{c:TT}{b:TE}{Q:VK}(h:WH J σ a c b H Q):Ld J 1 (QT 0) σ a c b H Q:=λD f=>by
 let⟨W,e,j⟩:=h D f;refine⟨W,e,λi m H k=>(j i m H k).imp id λq=>⟨q.1,λx d y l g=>?_⟩⟩;let⟨_,rfl⟩:=List.length_eq_one_iff.mp g;exact⟨⟨[some x],Z,Z⟩,q.2 x d y⟩
inductive N3(c:TI)(σ:L2.St)(H:Hp)(K:It->Hp->Prop):Prop
 |mk(b:It->Hp->Prop)(_:c σ H b)(_:∀ J a,b J a->K J a)
def PI.more{i g:Expr}{j:TI}(h:PI X i g j):PI X i g (N3 j):=λjZ s σ H R I ⟨l,n,f⟩=>
 ae (h jZ s σ H l I n) (λ_ _ z=>ae z (by rintro _ _ ⟨o,m,p,J,k,a,b,c,d,e,r⟩;exact⟨o,m,p,J,k,a,b,c,d,e,f _ _ r⟩) λ_ _ z=>z) λ_ _ z=>z
def Um{c b:Expr}{x:Str}{o:aI}{d:jz}{a:aD}{l:aI}{r:TI}{q:TT}{p:TE}(k:jp)(e:js)(u:X.calm=true)(w:PI X (.Name x o) b r)(B:∀ C s H f E,Q8 (Yg X (x::e) a (Xv X.env a.names []) C s H f E) d q)(v:∀ C s H f E,PE (Yg X (x::e) a (Xv X.env a.names []) C s H f E) c p)(t:Z8 X a k e)(y:NO X.env a.names=true:=by rfl)(m:Oo a x=true:=by rfl)(j:(x::e).Nodup:=by decide +kernel)(A:∀ x,foldedSetIterable b X.env x=pure x:=by intro _;rfl):
  PE X (.ListComp c [⟨.Name x o,b,d,0⟩] a l) (KK r k q p):=by
 intro jZ s σ H Q I h;let n:(relabel a X.env).names.lookup x=some .local:=lookup_relabel_local (MT m).own;exact Ae [x] x (g:=QT 0) k e u (λ_ _ _ _ _=>Qo (i:=0) j Z (Or.inl n) (Or.inr n)) (PI.more w) B v t y m A jZ s σ H Q I ⟨_,h,λ_ _ z=>WH.toT z⟩
def ON{d b:Expr}{x y:Str}{p t:aI}{e:jz}{a:aD}{f c:aI}{w:TI}{v:TT}{u:TE}{i:Nat}(o:jp)(j:js)(B:X.N.Nodup)(l:X.N[i]? = some y)(O:X.env.scope.names.lookup y=some .local)(F:X.calm=true)(J:PI X (.Name x p) b w)(M:∀ C s H k E,Q8 (Yg X (x::j) a (Xv X.env a.names []) C s H k E) e v)(G:∀ C s H k E,PE (Yg X (x::j) a (Xv X.env a.names []) C s H k E) d u)(A:Z8 X a o j)(n:swapsWith (.ListComp d [⟨.Name x p,b,e,0⟩] a f) (some (.Name y t)) c.line X.env=pure true:=by rfl)(K:NO X.env a.names=true:=by rfl)(q:Oo a x=true:=by rfl)(m:(x::j).Nodup:=by decide +kernel)(L:∀ x,foldedSetIterable b X.env x=pure x:=by intro _;rfl):
  PS X (.Assign [.Name y t] (.ListComp d [⟨.Name x p,b,e,0⟩] a f) c) (EF i (KK w o v u)):=by
 intro jZ s σ H D I h;let r:(relabel a X.env).names.lookup x=some .local:=lookup_relabel_local (MT q).own;exact Gx [x] x (g:=QT 0) o j B l O F (λ_ _ _ _ _=>Qo (i:=0) m Z (Or.inl r) (Or.inr r)) (PI.more J) M G A n K q L jZ s σ H D I ⟨_,h,λ_ _ z=>WH.toT z⟩
end
end L2
local macro_rules|`(tactic|lia)=>`(tactic|first|assumption|exact xJ ‹_› ‹_›|exact yL ‹_› ‹_›|exact zE ‹_› ‹_›|exact zE ‹_› (yR rfl)|exact yL ‹_› (yR rfl)|exact xJ ‹_› (yR rfl)|exact zE (zE ‹_› ‹_›) (yR rfl)|exact zE (wD ‹_›) (zE ‹_› (yR rfl))|exact zE (wD (Eq.symm ‹_›)) (zE ‹_› (yR rfl))|exact xX ‹_›|exact Nat.pos_of_ne_zero ‹_›|exact uX ‹_›|exact Nat.succ_le_succ ‹_›|exact yR rfl|exact zY _|exact Nat.le_add_right _ _|exact Nat.le_add_left _ _|exact vI _ _|exact Int.natCast_nonneg _|exact Nat.lt_of_not_le ‹_›|exact uS ‹_›|exact Int.lt_of_not_ge ‹_›|exact Int.not_lt.mp ‹_›|exact sX ‹_› (xT _)|exact Nat.lt_of_lt_of_eq ‹_› (Eq.symm ‹_›)|exact Nat.lt_of_lt_of_eq ‹_› ‹_›|exact Eq.symm (Nat.succ_pred_eq_of_ne_zero ‹_›)|exact Nat.add_sub_of_le ‹_›|exact Nat.add_lt_of_lt_sub' ‹_›|exact Int.ofNat_lt.mpr ‹_›|exact xJ (Nat.le_add_right _ _) ‹_›|exact zE (tK _ _) (vI _ _)|exact zE (tK _ _) (zE (vI _ _) ‹_›)|exact zE (vI _ _) ‹_›|exact Nat.le_sub_of_add_le' ‹_›|exact Nat.le_sub_of_add_le ‹_›|exact Int.le_trans ‹_› ‹_›|exact xJ (wD ‹_›) ‹_›|lia (splits:=8))
namespace L2
open PySem PySem.Spec PyProof.Rows
inductive Ju(K:zZ)(a:je)(H:Hp)(Q:VK):Prop
 |mk(x n t b:_)(_:a=[x,.ty n])(_:Y4 K H x t)(_:yP K t (.type n)=some b)(_:Q (.bl b) H)
def Xx:Wq X (.builtin "isinstance") (Ju X.K):=by
 intro a s l H k j Q I r h;let⟨x,n,t,b,rfl,g,e,q⟩:=h;let⟨u,i,rfl,d,c⟩:=LT r;cases(show i=Value.type n from c);exact ZJL I d g e λf=>⟨.bl b,H,I.tok f,Z,q⟩
def ZOW{K:zZ}:yP K (.type "bool") (.type "bool")=some true:=by kernel_rfl
def MW{K:zZ}:yP K (.type "int") (.type "bool")=some false:=by kernel_rfl
def ZOU{K:zZ}:yP K (.type "str") (.type "bool")=some false:=by kernel_rfl
def Ep{K:zZ}:yP K (.type "tuple") (.type "bool")=some false:=by kernel_rfl
def OC{K:zZ}:yP K (.type "int") (.type "int")=some true:=by kernel_rfl
def J8{K:zZ}:yP K (.type "str") (.type "int")=some false:=by kernel_rfl
def Jp{K:zZ}:yP K (.type "tuple") (.type "int")=some false:=by kernel_rfl
def kit_is'{K:zZ}:yP K (.type "int") (.type "str")=some false:=by kernel_rfl
def Ni{K:zZ}:yP K (.type "str") (.type "str")=some true:=by kernel_rfl
def Kk{K:zZ}:yP K (.type "tuple") (.type "str")=some false:=by kernel_rfl
def Ba{K:zZ}:yP K (.type "int") (.type "tuple")=some false:=by kernel_rfl
def At{K:zZ}:yP K (.type "str") (.type "tuple")=some false:=by kernel_rfl
def Mx{K:zZ}:yP K (.type "tuple") (.type "tuple")=some true:=by kernel_rfl
def XG:ax "isinstance" = some (.builtin "isinstance"):=by decide +kernel
def LK:ax "all" = some (.builtin "all"):=by decide +kernel
def NK:ax "max" = some (.builtin "max"):=by decide +kernel
def Cc:ax "min" = some (.builtin "min"):=by decide +kernel
def Ks:ax "abs" = some (.builtin "abs"):=by decide +kernel
def Xa:ax "len" = some (.builtin "len"):=by decide +kernel
def NS:ax "bool" = some (.type "bool"):=by decide +kernel
def U8:ax "int" = some (.type "int"):=by decide +kernel
def Nh:ax "str" = some (.type "str"):=by decide +kernel
def Qr:ax "tuple" = some (.type "tuple"):=by decide +kernel
def Up:ax "list" = some (.type "list"):=by decide +kernel
inductive UE(x y:V)(H:Hp)(Q:VK):Prop
 |mk(i j:_)(_:x=.str i)(_:y=.str j)(_:Q (.bl (!decide (j.cps.toList<i.cps.toList))) H)
def Fv:Ys X (ay .LtE) (UE):=by
 intro a s e H x y v u Q I b c h;let⟨i,j,rfl,rfl,q⟩:=h;let⟨t,rfl⟩:=b;let⟨d,rfl⟩:=c;exact PySem.P.le_str (Yr I q (by simp))
inductive UF(a:zZ)(x y:V)(H:Hp)(Q:VK):Prop
 |mk(p b c:_)(_:x=.ref p)(_:y=.ref b)(_:ZF a H p c)(_:ZF a H b [])(_:Q (.bl c.isEmpty) H)
def MC(f:X.A.units<cLine):Ys X (ay .Eq) (UF X.K):=by
 intro l s G H x y v u Q I B C h;let⟨p,b,D,rfl,rfl,c,o,q⟩:=h;cases B;cases C;let⟨d,w,i,E⟩:=I.list c;let⟨a,z,k,F⟩:=I.list o;let g:=w.length;let t:=z.length;let n:a=[]:=vB (by rw[<-t];rfl)
 subst n
 cases D with
 | nil=>
  let m:d=[]:=vB (by rw[<-g];rfl)
  subst m;exact PySem.SeqAt.eq_listAt (e:=λ_=>true) i.isList k.isList Z f (λj c _=>absurd c (by simp)) (Yr I q (by simp))
 | cons x r=>exact PySem.SeqAt.eq_list_lengthsAt i.isList k.isList (by simp;intro e;subst e;simp at g) f (Yr I q Z)
def CU(i j:Int):Prop:=0<j/\j.natAbs.log2<9000
def Bi:Ys X (binaryOp .FloorDiv) (rI CU λi j=>.int (i / j)):=Ma λi j _ _ _ _ _ a q=>by
 let b:(0:Int)<j:=a.1;exact floordiv_int ∅ (by rw[rG i ∅];exact q) (.inl (PyProof.noPylong_of_log2 a.2))
inductive PV(a:zZ)(b:je)(H:Hp)(Q:VK):Prop
 |mk(p:aj)(bs:jQ)(_:b=[.ref p])(_:ZF a H p (bs.map V.bl))(_:Q (.bl (bs.all id)) H)
def Mw(B:X.calm=true):Wq X (.builtin "all") (PV X.K):=by
 intro t s W H V U Q I r h;let⟨p,bs,rfl,F,q⟩:=h;let⟨u,rfl,J⟩:=Vd r;cases J;let⟨a,w,j,S⟩:=I.list F;let n:=w.length;let f:p<s.heap.objs.size:=by let⟨_,e,_⟩:=j.isList;exact zW e
 let g:p≠s.heap.objs.size:=zL f;let C:=I.ok.hd B;let M:∀(i:Nat)(v:ai),a.toArray[i]? = some v->v=.bool (bs.getD i true):=λi v G=>by
  let c:a[i]? = some v:=by simpa using G
  let R:i<a.length:=(yS.mp c).1;let m:i<bs.length:=by rw[zX] at n;lia
  let⟨u,k,d⟩:=w.get (i:=i) (x:=.bl bs[i]) (by rw[zM,zV m];rfl)
  rw[c] at k;cases k;rw[show v=Value.bool bs[i] from d,zS,zV m];rfl
 refine call_all_walk (wpAny_pyIter_list j.isList ?_);refine⟨_,_,_,_,_,_,(λi=>bs.getD i true),Z,Walks.list (A:=X.A.in1) C s.heap.objs.size p g a.toArray,⟨⟨_,yU _ Z,Z,Z⟩,j.isList.push _⟩,λi v T O N y z=>?_,λP L D=>?_⟩
 ·rw[M i v y];exact wpAny_truthy_bool z
 ·let e:(zR a.toArray.size).all (λi=>bs.getD i true)=bs.all id:=by
   rw[zK,<-n,zX];let d:bs.all id=((zR bs.length).map λi=>bs.getD i true).all id:=by rw[range_getD]
   rw[d,wF];rfl
  rw[e];refine⟨.bl (bs.all id),H,I.kept (t':=L) λb o l=>D b o ?_ (zT _ l),Z,q⟩;intro E;exact absurd (zW l) (by rw[zI.mp E];exact xG _)
def Qh(b:Int)(l:jw):Int:=l.foldl (λa c=>if c > a then c else a) b
def Nf(d:Int):jw->Int
 | []=>d
 | x::r=>Qh x r
section
variable{R:Result->ak->Prop}
def ZJW(hh:A.handled=none){I l S:aj}{f:jd}{d:jw}{kw:jK}(y:S≠I)(U:S≠l)(Y:l≠I)(hi:IntsAre f d):
  ∀(k j:Nat)(s:ak)(b:Int)(n:Tok)(c:Nat),f.length-j=k->j<=f.length->s.heap.IsListIter I l j->s.heap.IsList l f.toArray->s.heap.get? S=some { cls:=.type "list",dict:=none,data:=.seq #[.int b n,.int b n] c,slots:=#[] } ->
   (∀ t H N,(∀ a o,a≠I->a≠S->s.heap.get? a=some o->H.get? a=some o)->R (.ok (.ret (.int (Qh b (d.drop j)) t))) { s with heap:=H,toks:=N }) ->
   aF (az prog w) A (.builtin "max.loop" ⟨[.ref I,.none,.ref S],kw⟩) R s:=by
 let nm:(toString "max" ++ toString ".loop" : String) = "max.loop" :=by decide
 let W:=Walks.list (prog:=prog) (w:=w) (A:=A.in1) hh I l Y f.toArray;let p:=IntsAre.length hi;intro k
 induction k with
 | zero=>
  intro j s b n c hk hj st X J L;let E:j=f.toArray.size:=by rw[zK];lia
  refine codeAny_builtin sF ?_;rw[Around.under_plainId wJ _];show aA _ A.in1 (seqItems? (.ref S) >>= _) _ _ s;refine aa (wpAny_seqItems J Z ?_);show aA _ A.in1 (tryCatch (pyNext (.ref I)) _ >>= _) _ _ s;refine aa (wpAny_tryCatch (W.done s _ _ (by rw[<-E];exact⟨st,X⟩) λH N g=>?_))
  let h:=g S _ (by simpa using y) J
  show aA _ A.in1 (updateSeq S (λ_=>#[]) >>= _) _ _ _;refine aa (wpAny_updateSeq h Z (aa (wpAny_letGo (ad ?_))));let q:=L n (H.update S (Obj.mapSeq λ_=>#[])) N λa o z D e=>(yA _ _ (Ne.symm D)).trans (g a o (by simpa using z) e)
  rw[List.drop_eq_nil_of_le (by rw[<-p];rw[zK] at E;lia)] at q
  exact q
 | succ k ih=>
  intro j s b n c hk hj st X J L;let E:j<f.toArray.size:=by rw[zK];lia
  refine codeAny_builtin sF ?_;rw[Around.under_plainId wJ _];show aA _ A.in1 (seqItems? (.ref S) >>= _) _ _ s;refine aa (wpAny_seqItems J Z ?_);show aA _ A.in1 (tryCatch (pyNext (.ref I)) _ >>= _) _ _ s;refine aa (wpAny_tryCatch (W.item j s _ _ E ⟨st,X⟩ λv H N hP m g=>?_));let h:=g S _ (by simpa using y) J
  let K:j<d.length:=by rw[<-p];rw[zK] at E;exact E
  obtain⟨O,hv⟩:∃ t,v=.int d[j] t:=by
   let r:ZQ (d.map V.int) f:=Mj hi;let⟨u,e1,t,G⟩:=r.get (i:=j) (x:=.int d[j]) (by rw[zM,zV K];rfl)
   let T:f[j]? = some v:=by simpa using hP
   rw[T] at e1;cases e1;exact⟨t,G⟩
  subst hv;let hd:d.drop j=d[j]::d.drop (j+1):=wQ K;show aA _ A.in1 (tryCatch (holding [_,_] (richCompare .Gt (.int d[j] O) (.int b n) >>= _)) _ >>= _) _ _ _;refine aa (wpAny_tryCatch (af (aa (CmpOf.ints_gt (P:=λi v=>(i=0/\v=.int d[j] O)\/(i=1/\v=.int b n)) (λi=>if i=0 then d[j] else b) (λi v hv=>?_) 0 1 _ _ _ _ _ (.inl ⟨rfl,rfl⟩) (.inr ⟨rfl,rfl⟩) ?_))))
  ·rcases hv with ⟨rfl,rfl⟩ | ⟨rfl,rfl⟩
   ·exact⟨O,Z⟩
   ·exact⟨n,Z⟩
  refine aa (af (wpAny_truthy_bool (aa (wpAny_letGo (ad ?_)))));by_cases D:d[j] > b
  ·simp only[aO,D,decide_true,Nat.one_ne_zero,if_false,↓reduceIte];refine aa (wpAny_updateSeq h Z (aa (wpAny_letGo ?_)));rw[nm];refine ad ⟨plainId_quiet wJ _,ih (j+1) _ d[j] O _ ∅ ∅ ?_ ?_ (wS _ h rfl) λt Q C B=>?_⟩
   ·let⟨o,e,r⟩:=m.1;exact⟨o,(yA _ _ y).trans e,r⟩
   ·let⟨o,e,r⟩:=m.2;exact⟨o,(yA _ _ U).trans e,r⟩
   ·let q:=L t Q C λa o z M e=>B a o z M ((yA _ _ (Ne.symm M)).trans (g a o (by simpa using z) e))
    rw[hd] at q;let G:Qh b (d[j]::d.drop (j+1))=Qh d[j] (d.drop (j+1)):=by unfold Qh;rw[tO,aO D]
    rw[G] at q;exact q
  ·simp only[D,decide_false,Nat.one_ne_zero,if_false,vU,↓reduceIte];refine aa (wpAny_letGo ?_);rw[nm];refine ad ⟨plainId_quiet wJ _,ih (j+1) _ b n c ∅ ∅ m.1 m.2 h λt Q C B=>?_⟩
   let q:=L t Q C λa o z M e=>B a o z M (g a o (by simpa using z) e)
   rw[hd] at q;let G:Qh b (d[j]::d.drop (j+1))=Qh b (d.drop (j+1)):=by unfold Qh;rw[tO,aM D]
   rw[G] at q;exact q
end
def ZKA(a v:ai):argsOk "max" ⟨[a],[(wX "default",v)]⟩:=by unfold argsOk;kernel_rfl
def ZGv(hc:X.calm=true){g:ju}{Y:St}{H:Hp}{s:ak}{Q:VK}{l:aj}{p:jw}{d:Int}{M:Tok}(I:ZE X g Y H s)(hq:ZF X.K H l (p.map V.int))(q:Q (.int (Nf d p)) H):
  aA (az X.prog X.w) X.A (call (.builtin "max") [.ref l] [(wX "default",.int d M)]) (EP X g Y Q) X.xe s:=by
 let nm:(toString "max" ++ toString ".loop" : String) = "max.loop" :=by decide
 let⟨b,rv,T,hz⟩:=I.list hq;let hi:IntsAre b p:=IK rv;let c:=IntsAre.length hi;let hh:=I.ok.hd hc;let E:l<s.heap.objs.size:=by let⟨_,e,_⟩:=T.isList;exact zW e
 refine PyProof.Rows.kmk_tree PySem.F.kind_max PySem.F.plain_max PySem.F.entry_max (ZKA _ _) ?_;show aA _ X.A.in1 (Builtin.Builtins.bindParams "max" ["key","default"] 0 ⟨[],[(wX "default",.int d M)]⟩ >>= _) _ _ s;refine aa (wpAny_of_eq (show Builtin.Builtins.bindParams "max" ["key","default"] 0 ⟨[],[(wX "default",.int d M)]⟩=pure [none,some (.int d M)] from rfl) ?_);refine aa (ad (aa (wpAny_pyIter_list T.isList (aa (wpAny_newList ?_ (yW _))))));rw[nm];let n:(s.heap.push { cls:=.type "list_iterator",data:=.fields #[.ref l,.int 0 0] }).objs.size=s.heap.objs.size+1:=vO ..;let D:l≠s.heap.objs.size:=zL E;let m:(s.heap.push { cls:=.type "list_iterator",data:=.fields #[.ref l,.int 0 0] }).objs.size≠s.heap.objs.size:=by rw[n];exact xH (xT _)
 let C:(s.heap.push { cls:=.type "list_iterator",data:=.fields #[.ref l,.int 0 0] }).objs.size≠l:=by rw[n];exact xH (vW E)
 generalize hS:(s.heap.push { cls:=.type "list_iterator",data:=.fields #[.ref l,.int 0 0] }).objs.size=S at *;let R:∀ a o,s.heap.get? a=some o->((s.heap.push { cls:=.type "list_iterator",data:=.fields #[.ref l,.int 0 0] }).push { cls:=.type "list",data:=.seq ([]:jd).toArray }).get? a=some o:=λa o e=>zT _ (zT _ e);let gI:((s.heap.push { cls:=.type "list_iterator",data:=.fields #[.ref l,.int 0 0] }).push { cls:=.type "list",data:=.seq ([]:jd).toArray }).IsListIter s.heap.objs.size l 0:=⟨_,zT _ (yU _ rfl),Z,Z⟩;let gL:((s.heap.push { cls:=.type "list_iterator",data:=.fields #[.ref l,.int 0 0] }).push { cls:=.type "list",data:=.seq ([]:jd).toArray }).IsList l b.toArray:=(T.isList.push _).push _;let gS:((s.heap.push { cls:=.type "list_iterator",data:=.fields #[.ref l,.int 0 0] }).push { cls:=.type "list",data:=.seq ([]:jd).toArray }).get? S=some { cls:=.type "list",dict:=none,data:=.seq #[] 0,slots:=#[] }:=by
  rw[<-hS];exact yU _ Z
 generalize ((s.heap.push { cls:=.type "list_iterator",data:=.fields #[.ref l,.int 0 0] }).push { cls:=.type "list",data:=.seq ([]:jd).toArray })=h2 at *;refine ad ⟨plainId_quiet wJ _,?_⟩;let W:=Walks.list (prog:=X.prog) (w:=X.w) (A:=X.A.in1) hh s.heap.objs.size l D b.toArray;refine codeAny_builtin sF ?_;rw[Around.under_plainId wJ _];show aA _ X.A.in1 (seqItems? (.ref S) >>= _) _ _ _;refine aa (wpAny_seqItems gS Z ?_);show aA _ X.A.in1 (tryCatch (pyNext (.ref s.heap.objs.size)) _ >>= _) _ _ _;let nS:∀ a o,s.heap.get? a=some o->a≠S:=λa o e z=>by
  let h:=zW e;rw[z,n] at h;exact absurd h (wE.mpr (wR _))
 let f:∀{y:aC}{J:Nat}{v:Int}{t:Tok},(∀ a o,a≠s.heap.objs.size->a≠S->h2.get? a=some o->y.get? a=some o)->v=Nf d p->EP X g Y Q (.int v t) { s with heap:=y,toks:=J }:=fun{y J v t} k e=>by
  subst e;exact⟨.int (Nf d p),H,I.kept (t':=J) λa o e=>k a o (zL (zW e)) (nS a o e) (R a o e),⟨t,Z⟩,q⟩
 cases p with
 | nil=>
  let z:b=[]:=vB c;subst z;refine aa (wpAny_tryCatch (W.done _ _ _ ⟨gI,gL⟩ λy J j=>?_));show aA _ X.A.in1 (rule _ >>= _) _ _ _;refine aa (wpAny_rule (ad ?_));exact f (λa o L P e=>j a o (by simpa using L) e) Z
 | cons x r=>
  let zl:0<b.toArray.size:=by rw[zK,c];exact Nat.succ_pos _
  refine aa (wpAny_tryCatch (W.item 0 _ _ _ zl ⟨gI,gL⟩ λv y J hP G j=>?_));let B:=j S _ (by simpa using m) gS
  obtain⟨U,hv⟩:∃ t,v=.int x t:=by
   let⟨u,e1,t,e2⟩:=rv.get (i:=0) (x:=.int x) Z;let N:b[0]? = some v:=by simpa using hP
   rw[N] at e1;cases e1;exact⟨t,e2⟩
  subst hv;show aA _ X.A.in1 (updateSeq S (λ_=>#[.int x U,.int x U]) >>= _) _ _ _;refine aa (wpAny_updateSeq B Z ?_);rw[nm];refine ad ⟨plainId_quiet wJ _,ZJW hh m C D hi _ 1 _ x U _ Z (by rw[c];exact Nat.succ_le_succ (yW _)) ?_ ?_ (wS _ B rfl) λt h3 a0 O=>?_⟩
  ·let⟨o,e,r⟩:=G.1;exact⟨o,(yA _ _ m).trans e,r⟩
  ·let⟨o,e,r⟩:=G.2;exact⟨o,(yA _ _ C).trans e,r⟩
  ·exact f (λa o L P e=>O a o L P ((yA _ _ (Ne.symm P)).trans (j a o (by simpa using L) e))) Z
def ZPl(t f:TA)(K:zZ):TE:=λc H Q=>t c H λg e=>f c e λh a=>∃(l:aj)(b:jw)(d:Int),g=[.ref l]/\h=[.int d]/\ZF K a l (b.map V.int)/\Q (.int (Nf d b)) a
def ZMV{p a g:aI}{e f:Expr}{t i:TA}(x:X.calm=true)(z:Gl X "max")(B:X.mg "max" = none)(w:PA X [e] t)(A:PK X [⟨some (wX "default"),f,g⟩] i)(y:aE a (aq [e] X.env)=(false,aG e X.env)::aE a (aq [] X.env):=by rfl)(b:(aE a (aq [e] X.env)).any (·.1)=false:=by rfl):
  PE X (.Call (.Name "max" p) [e] [⟨some (wX "default"),f,g⟩] a) (ZPl t i X.K):=by
 intro c s j H Q I h;refine ag (Py I z B NK (callWith_kw (YH (w a c s j H _ I h) λP G R k m r q=>?_) y b));refine Z1 (A a c G j k _ m q) ?_;rintro S M ⟨T,J,n,F,l,L,d,o,v,C,D⟩;subst o v;let⟨u,rfl,E⟩:=Vd r;let⟨O,rfl,N,rfl⟩:=Vd F;cases E;exact ZGv x n C D
def Gb(x:Str):It:=⟨λi _=>i<x.cps.size,λi H v a=>a=H/\∃ c,x.cps[i]? = some c/\v=.str ⟨#[c]⟩,λi _=>i=x.cps.size⟩
def GD{P:al}{w:ar}{K:zZ}{tg:Expr}(ty:String)(hty:["enumerate","zip","dict_itemiterator","dict_reverseitemiterator","odict_iterator","itertools.zip_longest","itertools.pairwise"].contains ty=false)(x:Str)(t:Tok)(it:aj)(W:∀ A:aw,A.handled=none->Walks P w A it [it] [it] x.cps.size (SignAt x) (λi h=>h.IsStrIter it ty x t i))(self:∀ (A:aw) (i:Nat) (s:ak) (Q:ja) (E:ja),s.heap.IsStrIter it ty x t i->Q (.ref it) s->aA (az P w) A (pyIter (.ref it)) Q E s):
  VX P w K tg (Gb x) [it] it (λi h=>h.IsStrIter it ty x t i) where
 mem:=by simp
 obj:=λi h st b hb=>by
  let e:b=it:=by simpa using hb
  subst e;let⟨o,e,c,d⟩:=st;exact⟨o,e,λv z=>by rw[d] at z;cases z⟩
 keep:=λi h h' ⟨o,e,r⟩ k=>⟨o,k it (by simp) o e,r⟩
 item:=by
  intro X hP hw hK hc i jZ s σ H E I hf st hg;subst hP hw hK;let⟨f0,f1,f2,f3,f4,f5⟩:=hf it (by simp)
  refine(W X.A (I.ok.hd hc)).item i s _ _ hg st λv h' tk hv st' kk=>?_;let⟨c,u,hx,rfl⟩:=hv;let I1:ZE X jZ σ H { s with heap:=h',toks:=tk }:=I.turned (λb o hb e=>kk b o (by simpa using hb) e) f0 f1 f3 f4 f5
  let⟨o,e,cl,d⟩:=id st';exact⟨_,Z,Lk (s:={ s with heap:=h',toks:=tk }) e cl d hty ⟨.str ⟨#[c]⟩,H,I1,⟨u,Z⟩,⟨Z,c,hx,Z⟩,st',λb hb=>(hf b hb).1⟩⟩
 done:=by
  intro X hP hw hK hc i jZ s σ H E I hf st hg;subst hP hw hK;let⟨f0,f1,f2,f3,f4,f5⟩:=hf it (by simp)
  let hi:i=x.cps.size:=hg;subst hi;exact(W X.A (I.ok.hd hc)).done s _ _ st λh' tk kk=>⟨Z,I.turned (λb o hb e=>kk b o (by simpa using hb) e) f0 f1 f3 f4 f5⟩
 self:=self
section
variable{tg:Expr}
inductive MQ(R:It->Hp->Prop)(v:V)(a:Hp):Prop
 |mk(x:_)(_:v=.str x)(_:R (Gb x) a)
def Bp(b:TE):TI:=λc H R=>b c H λv a=>MQ R v a
def ZOa{l:Expr}{n:TE}(r:PE X l n):PI X tg l (Bp n):=by
 intro a s w H R I h;refine Z1 (r a s w H _ I h) ?_;rintro v c ⟨z,f,d,u,x,e,q⟩;subst e;let⟨t,rfl⟩:=u;let k:∀ b∈[c.heap.objs.size],VF X a f b:=λb p=>by
  rw[zI.mp p];exact d.fpOk (zY _) (d.hok.fresh (zY _))
 cases m:x.cps.all (· < 128)
 ·exact wpAny_pyIter_wide m ⟨c.heap.objs.size,[c.heap.objs.size],_,_,f,Z,d.kept (t':=c.toks) λb o e=>zT _ e,
   GD "str_iterator" (by decide) x t _ (λA g=>Walks.strWide g _ x t) (λA i s Q E j h=>wpAny_pyIter_striter_wide j h),⟨_,yU _ Z,Z,Z⟩,k,q⟩
 ·exact wpAny_pyIter_ascii m ⟨c.heap.objs.size,[c.heap.objs.size],_,_,f,Z,d.kept (t':=c.toks) λb o e=>zT _ e,
   GD "str_ascii_iterator" (by decide) x t _ (λA g=>Walks.strAscii g _ x t) (λA i s Q E j h=>wpAny_pyIter_striter_ascii j h),⟨_,yU _ Z,Z,Z⟩,k,q⟩
end
section
variable{σ:St}{H:Hp}{ix:jp}{te:TE}{Q:VK}
def Vv{J:It}{n:Nat}(d:Nat->V->Prop)(c:aj->Nat->je->Hp->Prop)(z:n<ap)(k:∀ D i a H,i<n->c D i a H->J.go i H)(t:∀ D i a H x g,i<n->c D i a H->J.yld i H x g->g=H/\d i x)(f:∀ D a H,c D n a H->J.stop n H)(q:∀ D,H D=none->c D 0 [] (upd H D (.lst [])))(step:∀ D i a H x,H D=some (.lst a)->a.length<=i->i<n->d i x->c D i a H->∀ R:VK,(∀ y h,h D=some (.lst a)->c D (i+1) (a++[y]) (upd h D (.lst (a++[y])))->R y h)->te (P0 σ ix x) H R)(j:∀ D a H,H D=some (.lst a)->c D n a H->Q (.ref D) H):WH J σ ix Ia te H Q:=by
 intro D r;exists λi m H=>m=n-i/\i<=n/\∃ a,H D=some (.lst a)/\a.length<=i/\c D i a H,⟨n,rfl,yW _,[],ZP,zY _,q D r⟩;rintro i m H ⟨rfl,w,a,e,s,p⟩;by_cases b:i<n
 ·refine .inr ⟨k D i a H b p,λx g y=>?_⟩;let⟨rfl,u⟩:=t D i a H x g b p y;unfold Ia;dsimp only;rw[aO rfl];refine step D i a _ x e s b u p _ λy h o v=>?_;exact⟨a,n-(i+1),o,∅,∅,Z,b,a++[y],ZP,by rw[yV,xN];lia,v⟩
 ·let l:i=n:=∅
  subst l;exact .inl ⟨f D a H p,j D a H e p⟩
def ZGy{J:It}{n:Nat}{s:TT}(c:Nat->V->Prop)(d:V->Bool)(f:aj->Nat->je->Hp->Prop)(C:n<ap)(l:∀ D i a H,i<n->f D i a H->J.go i H)(z:∀ D i a H x j,i<n->f D i a H->J.yld i H x j->j=H/\c i x)(g:∀ D a H,f D n a H->J.stop n H)(u:∀ D,H D=none->f D 0 [] (upd H D (.lst [])))(h:∀ D i a H x,i<n->c i x->f D i a H->∀ R:Bool->Hp->Prop,R (d x) H->s (P0 σ ix x) H R)(q:∀ D i a H x,H D=some (.lst a)->i<n->c i x->d x=true->f D i a H->f D (i+1) (a++[x]) (upd H D (.lst (a++[x]))))(A:∀ D i a H x,H D=some (.lst a)->i<n->c i x->d x=false->f D i a H->f D (i+1) a H)(k:∀ D a H,H D=some (.lst a)->f D n a H->Q (.ref D) H):WH J σ ix s (UC 0) H Q:=by
 intro D v;exists λi m H=>m=n-i/\i<=n/\∃ a,H D=some (.lst a)/\a.length<=i/\f D i a H,⟨n,rfl,yW _,[],ZP,zY _,u D v⟩;rintro i m H ⟨rfl,B,a,e,w,p⟩;by_cases b:i<n
 ·refine .inr ⟨l D i a H b p,λx j y=>?_⟩;let⟨rfl,o⟩:=z D i a H x j b p y;refine h D i a _ x b o p _ ?_
  cases r:d x with
  | true=>
   rw[aO rfl];exact⟨x,Z,a,n-(i+1),e,∅,∅,Z,b,a++[x],ZP,by rw[yV,xN];lia,q D i a _ x e b o r p⟩
  | false=>
   rw[aM zU];exact⟨n-(i+1),∅,Z,b,a,e,uX w,A D i a _ x e b o r p⟩
 ·let t:i=n:=∅
  subst t;exact .inl ⟨g D a H p,k D a H e p⟩
end
def Zf.there{P:al}{w:ar}{H:Hp}{h:aC}{a:aj}:∀{o:HO},Zf P w H h a o->∃ b,h.get? a=some b:=by
 intro o x
 induction o with
 | lst l=>let⟨z,j,n,r,e⟩:=x;exact⟨_,e⟩
 | tup l=>let⟨z,j,r,b,e,c⟩:=x;exact⟨_,e⟩
 | dK k=>let⟨z,y,G,r,b,i,g,e,c⟩:=x;exact⟨_,e⟩
 | dT k=>let⟨z,y,l,r,b,i,g,e,c⟩:=x;exact⟨_,e⟩
 | set S n=>let⟨b,i,g,t,e,c⟩:=x;exact⟨_,e⟩
 | ins C p m=>let⟨d,z,D,e,_⟩:=x;exact⟨_,e⟩
 | own y=>exact x
 | xd m=>let⟨B,⟨E,i,g,e,c⟩,r⟩:=x;exact⟨_,e⟩
 | rng A q=>let⟨t,u,v,e⟩:=x;exact⟨_,e⟩
 | frz b u s=>exact⟨_,x.1⟩
 | tbl F=>exact⟨_,x⟩
 | met f y=>exact⟨_,x⟩
 | ext I=>exact x.2.1
def YV.there{P:al}{w:ar}{H:Hp}{h:aC}{a:aj}(x:YV P w H h)(n:H a≠none):∃ b,h.get? a=some b:=by
 cases e:H a with
 | none=>exact absurd e n
 | some o=>exact Zf.there (x a o e)
def YV.keptT{P:al}{w:ar}{H:Hp}{h d:aC}(x:YV P w H h)(k:∀ b u,h.get? b=some u->H b≠none->d.get? b=some u):YV P w H d:=λa o e=>
 (x a o e).stay (λb u c q=>k b u q (by
  rcases c with rfl | c
  ·rw[e];exact λz=>nomatch z
  ·rw[c];exact λz=>nomatch z)) (λ_ q=>q) λ_ _ q=>q
section
variable{jZ:ju}{σ:St}{H H':Hp}{s':ak}{E:XK}
def ZE.noloc(I:ZE X jZ σ H s):X.s₀.heap.get? X.env.locals=none:=uB I.ok.above
def Jv(I:ZE X jZ σ H s):∀ b∈frs X.stack,∀ o,s.heap.get? b=some o->∀ a,o.data≠.fields a:=λb c o q a z=>by
 let⟨_,f,e,d⟩:=I.stack.mem c;rw[q] at e;cases e;exact d a z
end
end L2
namespace L2
open PySem PySem.Spec PySem.W PyProof.Rows
def X7(x C:aj)(h:aC):Prop:=∃ o,h.get? x=some o/\o.cls=.ref C
def X7.ty{x C:aj}{h:aC}(I:X7 x C h)(M:Model):Looks M h (typeOf (.ref x)) (.ref C):=by
 let⟨o,e,c⟩:=I;rw[<-c];exact Looks.andThen (Looks.ld e) Looks.now
structure WG(K:Frag)(C:aj):Prop where
 ga:findIn K (.ref C) "__getattribute__" = some (some (.builtin "BaseException.__getattribute__"))
 hk:findIn K (.ref C) "__getattr__" = some none
 mB:mroIn K C (.type "BaseException")=some true
 mO:mroIn K C (.type "object")=some true
 ca:findIn K (.ref C) "__class__" = some (some (.builtin "object.__class__"))
 hn:specialIn K (.builtin "object.__class__") "__get__" = some (some (.builtin "getset_descriptor.__get__"))
 tk:takesIn K (.builtin "object.__class__")=some true
section
variable{K:Frag}{x C:aj}
def ZJ8{f:ai}{Q:Unit->ak->Prop}(X:K.In s.heap)(I:X7 x C s.heap)(a:mroIn K C (.type "BaseException")=some true)(b:Q () s):
  aA (az prog w) A (checkBuiltinCall "BaseException.__getattribute__" ⟨[.ref x,f],[]⟩) Q E s:=by
 let⟨h,g,d,t,k⟩:=s;let c:builtinKind "BaseException.__getattribute__" = some .slot:=by decide +kernel
 let e:splitId "BaseException.__getattribute__" = some ("BaseException","__getattribute__"):=by decide +kernel
 let i:=I.ty (az prog w);let j:=looks_mroIn (M:=az prog w) X a;simp only[checkBuiltinCall,c,e];refine aa ?_;unfold isInstance
 repeat lk
 exact b
def ZJ9{b:Str}{i:Tok}{r:Builtin.ObjectAttr.Found}{Q:Fin->ak->Prop}(X:K.In s.heap)(I:X7 x C s.heap)(e:Looks (az prog w) s.heap (Builtin.ObjectAttr.find (.ref x) (.ref C) b) r)(h:match r with
   | .value v=>Q (.done (.ret v)) s
   | .bind g a=>aA (az prog w) A (call g [a,.ref x,.ref C]) (λv c=>Q (.done (.ret v)) c) E s
   | .missing=>False):aA (az prog w) A (Builtin.«object.__getattribute__» ⟨[.ref x,.str b i],[]⟩) Q E s:=by
 let⟨j,g,d,t,k⟩:=s;let f:=I.ty (az prog w);unfold Builtin.«object.__getattribute__»;refine aa (ad ?_);refine aa (ad ?_);refine aa (f.at ?_);refine aa (e.at ?_)
 cases r with
 | value v=>exact ad h
 | bind g a=>
  show aA _ _ (holding [a] (call g [a,.ref x,.ref C]) >>= ret) _ _ _;exact aa (af (ae h (λv c z=>ad z) λ_ _ z=>z))
 | missing=>exact h.elim
def Hm{c:Str}{r:Builtin.ObjectAttr.Found}{b f:Bool}{k:Tok}{Q:ja}(X:K.In s.heap)(I:X7 x C s.heap)(e:WG K C)(l:Looks (az prog w) s.heap (Builtin.ObjectAttr.find (.ref x) (.ref C) c) r)(h:match r with
   | .value v=>handedIn v=true/\Q v s
   | .bind g a=>aA (az prog w) A.in1 (call g [a,.ref x,.ref C]) (λv j=>handedIn v=true/\Q v j) (λ_ _=>False) s
   | .missing=>False):aA (az prog w) A (getAttrBy (.ref x) (.str c k) f b) Q E s:=by
 let i:=F.excAttr_ValueError;let m:=I.ty (az prog w);let n:=looks_findIn (M:=az prog w) X e.ga;let o:=looks_findIn (M:=az prog w) X e.hk;let p:(Value.builtin "BaseException.__getattribute__" == Value.builtin "object.__getattribute__")=false:=by decide +kernel
 let⟨q,g,d,t,u⟩:=s;unfold getAttrBy;refine af (aa (m.at (aa (n.at ?_))));show aA _ _ (if (true&&(Value.builtin "BaseException.__getattribute__" == Value.builtin "object.__getattribute__"))=true then _ else getAttrByItsOwn (.ref x) (.str c k) (.ref C) (.builtin "BaseException.__getattribute__") f b) _ _ _
 rw[p,aM (by decide)]
 unfold getAttrByItsOwn hookBefore;refine aa (o.at ?_);refine aa (wpAny_attempt (af ?_));unfold callGetattribute;rw[aM (by cases b <;> decide)]
 unfold boundAndCalled;rw[i.ga.bind (.ref x)];refine aa (ad ?_);refine wpAny_call (codeAny_call_builtin i.ga.plain F.entry_bexc_ga (ZJ8 X I e.mB (ZJ9 X I l ?_)))
 cases r with
 | value v=>exact handed_on h.1 h.2
 | bind g a=>exact ae h (λv j z=>handed_on z.1 z.2) λ_ _ z=>z.elim
 | missing=>exact h.elim
def ZMH{R:Result->ak->Prop}{b:ai}(X:K.In s.heap)(I:X7 x C s.heap)(e:WG K C)(h:R (.ok (.ret (.ref C))) s):
  aF (az prog w) A (.call (.builtin "getset_descriptor.__get__") ⟨[.builtin "object.__class__",.ref x,b],[]⟩) R s:=by
 let⟨f,d,c,j,a⟩:=s;let g:=I.ty (az prog w);let i:=looks_mroIn (M:=az prog w) X e.mO;refine codeAny_call_builtin KF.slot_gs.plain KF.entry_gs ?_;refine KF.slot_gs.check _ _ _ _ _ _ _ _ KF.type_class (KF.args_gs _ _ _) ?_;unfold Builtin.«getset_descriptor.__get__»;unfold Builtin.Getset_descriptor.descrGet;rw[dga_obj];refine aa (ad ?_);unfold Builtin.Getset_descriptor.descrGetter;unfold Builtin.Getset_descriptor.descrCheckInstance;unfold Builtin.Getset_descriptor.descrNameAndClass;unfold isInstance;simp only[KF.owner_class]
 repeat lk
 exists Code.quiet_builtin _ (by decide +kernel)
 refine codeAny_builtin KF.entry_class ?_;unfold Builtin.«object.__class__»;unfold shownTypeOf
 repeat lk
 exact h
def CI(X:K.In s.heap)(e:WG K C)(M:Model):Looks M s.heap (Builtin.ObjectAttr.find (.ref x) (.ref C) "__class__") (.bind (.builtin "getset_descriptor.__get__") (.builtin "object.__class__")):=by
 let a:=looks_findIn (M:=M) X e.ca;let b:=looks_specialIn (M:=M) X e.hn;let c:=looks_takesIn (M:=M) X e.tk;refine Looks.andThen a (Looks.andThen b ?_);exact Looks.andThen (show Looks M s.heap (Builtin.ObjectAttr.dataDescriptor? (some (.builtin "object.__class__")) (some (.builtin "getset_descriptor.__get__"))) (some (_,_)) from Looks.andThen c Looks.now) (Looks.tag Looks.now)
end
def WG.cls{K:Frag}{C:aj}(e:WG K C):∃ g d c k,K.lookup C=some ⟨g,d,.cls c,k⟩:=by
 let⟨c,h,_⟩:=rF.mp e.mB;unfold clsIn at h;split at h
 ·rename_i f i a b j
  exact⟨f,i,a,b,j⟩
 ·cases h
def Ad{K:Frag}{x C:aj}(e:WG K C):KitX K (.ref x) (.ref C) (X7 x C) where
 ty:=λM _ _ I=>I.ty M
 it:=λ_ _ X _=>by
  let⟨i,d,g,m,b⟩:=e.cls;intro p t r v k q;unfold isType loadHead;let z:=k _ _ (X _ _ b);exact aa (wpAny_loadPart z (ad q))
 ne:=λh f u l n m X a=>by
  let⟨i,d,g,o,b⟩:=e.cls
  cases q:(Value.ref C==Value.ref f) with
  | false=>rfl
  | true=>
   let j:C=f:=Value.ref.inj (eq_of_beq q);rw[<-j,X _ _ b] at a;cases a
 ca:=fun{c w A E Q s} X I k=>by
  unfold getAttr? getAttrBy?;refine aa (wpAny_mkText (aa (wpAny_attempt ?_)));refine Hm (s:={ s with toks:=s.toks+1 }) X I e (CI (s:={ s with toks:=s.toks+1 }) X e _) ?_;exact wpAny_call (ZMH (s:={ s with toks:=s.toks+1 }) X I e ⟨Z,ad k⟩)
end L2
namespace L2
open PySem PySem.Spec PyProof.Rows
def Cx.held(X:Cx)(a:aj)(E:ja):Cx:={ X with A:=X.A.mark (some (.ref a)),calm:=false,xe:=E }
section
variable{jZ:ju}{σ:St}{H H':Hp}{s':ak}{ea:aj}
def ZE.held(I:ZE X jZ σ H s)(ea:aj)(E:ja):ZE (X.held ea E) jZ σ H s:=
 ⟨⟨I.ok.mod,I.ok.kind,I.ok.glob,I.ok.blt,I.ok.above,I.ok.inj,I.ok.has,I.ok.cab,λz=>absurd z zU,I.ok.frames,I.ok.stk,I.ok.exf,I.ok.bs,I.ok.bsz,I.ok.noex,I.ok.exfs,I.ok.funs,I.ok.frf⟩,
  I.os,I.bare,I.base,I.loc,I.cell,I.free,I.freeC,I.pin,I.hok,I.len⟩
def ZE.unheld(a:X.Ok)(I:ZE (X.held ea E) jZ σ H s):ZE X jZ σ H s:=⟨a,I.os,I.bare,I.base,I.loc,I.cell,I.free,I.freeC,I.pin,I.hok,I.len⟩
def ZE.track{a:aj}{o:HO}(I:ZE X jZ σ H s)(l:X.s₀.heap.get? a=none)(t:a≠X.env.locals)(m:∀ x c,X.env.cells.lookup x=some c->c≠a)(y:∀ p∈X.pn++jZ,p.1≠a)(v:H a=none)(h:Zf X.prog X.w (upd H a o) s.heap a o):ZE X jZ σ (upd H a o) s:=by
 let g:∀{b:aj}{u:HO},H b=some u->b≠a:=fun{b u} e z=>by rw[z,v] at e;cases e
 refine⟨I.ok,I.os,I.bare,⟨I.base.keep,I.base.slot,λb i q n A=>?_,I.base.there,λb k q=>?_,λb i u q=>?_,λb B q=>?_⟩,I.loc,I.cell,?_,λx c e=>?_,λp d=>?_,λb u e=>?_,I.len⟩
 ·rw[ZO (λz=>by rw[z,l] at q;cases q)]
  exact I.base.free b i q n A
 ·let e:=I.base.tups b k q;rw[ZO (g e)];exact e
 ·let e:=I.base.frzs b i u q;rw[ZO (g e)];exact e
 ·let⟨f,e⟩:=I.base.tbls b B q;exact⟨f,by rw[ZO (g e)];exact e⟩
 ·rw[ZO (Ne.symm t)];exact I.free
 ·rw[ZO (m x c e)];exact I.freeC x c e
 ·let⟨e,n,r⟩:=I.pin p d;exact⟨e,by rw[ZO (y p d)];exact n,r⟩
 ·by_cases j:b=a
  ·subst j;rw[ZP] at e;cases e;exact h
  ·rw[ZO j] at e;exact(I.hok b u e).stay (λ_ _ _ q=>q) (λc q=>by rw[ZO (g q)];exact q) λc k q=>by rw[ZO (g q)];exact q
def ZE.goes{i:Nat}{n:Str}{M:Model}{A:aw}{Q:Unit->ak->Prop}{D:aI}(I:ZE X jZ σ H s)(O:X.N.Nodup)(F:X.N[i]? = some n)(f:X.env.scope.names.lookup n=some .local)(h:∀ s',ZE X jZ (σ.set i none) H s'->Q () s'):aA M A (do bindName X.env n .none;unbindBehindTheSuite X.env n D) Q E s:=by
 let⟨m,G,P⟩:=id I.loc;let r:(X.env.scope.kind==.class || (X.env.scope.kind==.module&&X.env.locals != X.env.globals))=false:=by rw[I.ok.kind];rfl
 let t:i<σ.length:=by rw[I.len];exact(yS.mp F).1
 refine wpAny_nameGoes_keeps f G r λh' v C a=>h _ ?_;let⟨oL,_,_,R,_⟩:=id G;let g:∀ b o,X.s₀.heap.get? b=some o->b≠X.env.locals:=λb o e=>zL (yL (zW e) I.ok.above);refine⟨I.ok,I.os,I.bare,⟨λb o e n x f=>?_,λb o e n x f=>?_,I.base.free,λb o e f=>?_,I.base.tups,I.base.frzs,I.base.tbls⟩,⟨_,C,λj y v' l u L=>?_⟩,λy c e=>?_,I.free,I.freeC,λp S=>?_,λb V e=>?_,by simpa using I.len⟩
 ·exact(a.2 b (g b o e)).trans (I.base.keep b o e n x f)
 ·let⟨Y,l⟩:=I.base.slot b o e n x f;exact⟨Y,(a.2 b (g b o e)).trans l⟩
 ·let⟨U,l⟩:=I.base.there b o e f;exact⟨U,(a.2 b (g b o e)).trans l⟩
 ·by_cases B:j=i
  ·subst B;rw[vC t] at u;cases u
  ·rw[vQ (Ne.symm B)] at u;let⟨u',W,q⟩:=P j y v' l u L;exists u',W;rcases q with ⟨k,e⟩ | ⟨k,c,e,z⟩
   ·refine .inl ⟨k,?_⟩;have:y≠n:=λe=>B (Jx O l (e ▸ F));simp[this,e]
   ·exact .inr ⟨k,c,e,z.sameBut a (I.cne y c e)⟩
 ·let⟨K,z⟩:=I.cell y c e;exact⟨K,z.sameBut a (I.cne y c e)⟩
 ·let⟨e,n,J,T,d⟩:=I.pin p S;exact⟨(a.2 p.1 J).trans e,n,J,T,d⟩
 ·refine(I.hok b V e).stay (λc K w q=>(a.2 c ?_).trans q) (λ_ q=>q) λ_ _ q=>q;rintro rfl;rcases w with rfl | w
  ·rw[I.free] at e;cases e
  ·rw[I.free] at w;cases w
end
section
variable{x C CB:aj}
def Fn{b:Bool}{Q:Bool->ak->Prop}(X:K.In s.heap)(I:X7 x C s.heap)(o:yB K (.ref CB)=some (.type "type"))(c:yY K CB (.type "BaseException")=some true)(l:yY K C (.ref CB)=some b)(h:Q b s):aA (az prog w) A (excMatches (.ref x) (.ref CB)) Q E s:=by
 let⟨m,g,d,t,H⟩:=s;let v:=I.ty (az prog w);let y:=tX (M:=az prog w) X c;let z:=tX (M:=az prog w) X l;let e:=rK (M:=az prog w) X o;let f:=tc_notTuple;let B:yG (az prog w) m (isType (.ref CB)) true:=by
  let⟨j,a,_⟩:=rF.mp c;unfold PySem.W.clsIn at a;split at a
  ·rename_i F G i p n
   intro r D u J k q;unfold isType loadHead;exact aa (wpAny_loadPart (k _ _ (X _ _ n)) (ad q))
  ·cases a
 unfold excMatches isInstance isExcClass;refine aa (aa (e.at ?_));rw[f];refine ad ?_;rw[aM zU];refine aa (ad ?_);simp only[List.forIn_cons,List.forIn_nil]
 cases b with
 | true=>
  repeat (first | lk | wp_step)
  all_goals first | exact h | trace_state
 | false=>
  repeat (first | lk | wp_step)
  all_goals first | exact h | trace_state
end
end L2
namespace Tw
open PySem
inductive KT where
 | int (i:Int)
 | str (x:Str)
 | tup (l:List KT)
abbrev jq:=List KT
mutual
def KT.depth:KT->Nat
 | .int _=>0
 | .str _=>0
 | .tup l=>1+jX l
def jX:jq->Nat
 | []=>0
 | t::r=>max t.depth (jX r)
end
mutual
def KT.size:KT->Nat
 | .int _=>1
 | .str _=>1
 | .tup l=>1+sizeL l
def sizeL:jq->Nat
 | []=>0
 | t::r=>t.size+sizeL r
end
def QU(c:Nat):Bool:=decide (32<=c)&&decide (c<=126)
def Oj(x:Str):Bool:=decide (x.length<=40)&&x.cps.toList.all QU
mutual
def KT.fits:KT->Nat->Bool
 | .int i,_=>decide (i.natAbs<10 ^ 60)
 | .str x,_=>Oj x
 | .tup l,r=>decide (0<r)&&(decide (l.length<=4)&&fitsL l (r-1))
def fitsL:jq->Nat->Bool
 | [],_=>true
 | t::l,r=>t.fits r&&fitsL l r
end
def N2(r:Nat):∀ l:jq,fitsL l r=l.all λt=>t.fits r
 | []=>by simp[fitsL]
 | t::l=>by rw[fitsL,uU,N2 r l]
mutual
def Pb:∀(t:KT)(r:Nat),t.fits r=true->t.depth<=r
 | .int _,r,_=>by rw[KT.depth];exact yW _
 | .str _,r,_=>by rw[KT.depth];exact yW _
 | .tup l,r,h=>by
  rw[KT.fits,zQ,zQ] at h;let⟨h1,_,h3⟩:=h;let h1':0<r:=of_decide_eq_true h1;have:=fitsL_depth l (r-1) h3;rw[KT.depth]
  lia
def fitsL_depth:∀(l:jq)(r:Nat),fitsL l r=true->jX l<=r
 | [],r,_=>by rw[jX];exact yW _
 | t::l,r,h=>by
  rw[fitsL,zQ] at h;let a:=Pb t r h.1;let b:=fitsL_depth l r h.2;rw[jX]
  lia
end
mutual
def KA:∀(t:KT)(r q:Nat),t.fits r=true->t.depth<=q->t.fits q=true
 | .int _,r,q,h,_=>by rw[KT.fits] at h⊢;exact h
 | .str _,r,q,h,_=>by rw[KT.fits] at h⊢;exact h
 | .tup l,r,q,h,hd=>by
  rw[KT.fits,zQ,zQ] at h⊢;let⟨h1,h2,h3⟩:=h;rw[KT.depth] at hd;exact⟨aK ∅,h2,fitsL_more l (r-1) (q-1) h3 ∅⟩
def fitsL_more:∀(l:jq)(r q:Nat),fitsL l r=true->jX l<=q->fitsL l q=true
 | [],r,q,_,_=>by rw[fitsL]
 | t::l,r,q,h,hd=>by
  rw[fitsL,zQ] at h⊢;rw[jX] at hd;exact⟨KA t r q h.1 ∅,fitsL_more l r q h.2 ∅⟩
end
def KT.things:KT->jq
 | .tup l=>l
 | _=>[]
def below(l:jq):jq:=l.flatMap KT.things
mutual
def KT.eqb:KT->KT->Bool
 | .int i,.int j=>i==j
 | .str x,.str y=>x==y
 | .tup l,.tup m=>jW l m
 | _,_=>false
def jW:jq->jq->Bool
 | [],[]=>true
 | a::l,b::m=>a.eqb b&&jW l m
 | _,_=>false
end
mutual
def KT.plt:KT->KT->Bool
 | .int i,.int j=>decide (i<j)
 | .str x,.str y=>decide (x.cps.toList<y.cps.toList)
 | .tup l,.tup m=>pltL l m
 | _,_=>false
def pltL:jq->jq->Bool
 | [],[]=>false
 | [],_::_=>true
 | _::_,[]=>false
 | a::l,b::m=>if a.eqb b=true then pltL l m else a.plt b
end
mutual
def KT.cmp:KT->KT->Bool
 | .int _,.int _=>true
 | .str _,.str _=>true
 | .tup l,.tup m=>cmpL l m
 | _,_=>false
def cmpL:jq->jq->Bool
 | [],_=>true
 | _::_,[]=>true
 | a::l,b::m=>if a.eqb b=true then cmpL l m else a.cmp b
end
def KT.kind:KT->Nat
 | .int _=>0
 | .str _=>1
 | .tup _=>2
mutual
def KT.lt:KT->KT->Bool
 | .int i,.int j=>decide (i<j)
 | .int _,.str _=>true
 | .int _,.tup _=>true
 | .str _,.int _=>false
 | .str x,.str y=>decide (x.cps.toList<y.cps.toList)
 | .str _,.tup _=>true
 | .tup _,.int _=>false
 | .tup _,.str _=>false
 | .tup l,.tup m=>ltL l m
def ltL:jq->jq->Bool
 | [],[]=>false
 | [],_::_=>true
 | _::_,[]=>false
 | a::l,b::m=>if a.eqb b=true then ltL l m else a.lt b
end
mutual
def KT.st:KT->KT
 | .int i=>.tup [.int 0,.int i]
 | .str x=>.tup [.int 1,.str x]
 | .tup l=>.tup [.int 2,.tup (stL l)]
def stL:jq->jq
 | []=>[]
 | t::l=>t.st::stL l
end
def Iw:∀ l:jq,stL l=l.map KT.st
 | []=>by rw[stL];rfl
 | t::l=>by rw[stL,Iw l];rfl
mutual
def My:∀(a b:KT),a.eqb b=true->a=b
 | .int i,.int j,h=>by rw[KT.eqb] at h;rw[eq_of_beq h]
 | .str x,.str y,h=>by rw[KT.eqb] at h;rw[eq_of_beq h]
 | .tup l,.tup m,h=>by rw[KT.eqb] at h;rw[eqbL_eq l m h]
 | .int _,.str _,h=>by simp[KT.eqb] at h
 | .int _,.tup _,h=>by simp[KT.eqb] at h
 | .str _,.int _,h=>by simp[KT.eqb] at h
 | .str _,.tup _,h=>by simp[KT.eqb] at h
 | .tup _,.int _,h=>by simp[KT.eqb] at h
 | .tup _,.str _,h=>by simp[KT.eqb] at h
def eqbL_eq:∀(l m:jq),jW l m=true->l=m
 | [],[],_=>rfl
 | a::l,b::m,h=>by
  rw[jW,zQ] at h;rw[My a b h.1,eqbL_eq l m h.2]
 | [],_::_,h=>by simp[jW] at h
 | _::_,[],h=>by simp[jW] at h
end
mutual
def MN:∀ a:KT,a.eqb a=true
 | .int i=>by rw[KT.eqb];exact beq_self_eq_true i
 | .str x=>by rw[KT.eqb];exact beq_self_eq_true x
 | .tup l=>by rw[KT.eqb];exact eqbL_self l
def eqbL_self:∀ l:jq,jW l l=true
 | []=>by rw[jW]
 | a::l=>by rw[jW,MN a,eqbL_self l];rfl
end
def Y0{a b:KT}:a.eqb b=true ↔ a=b:=⟨My a b,λe=>by rw[e];exact MN b⟩
mutual
def Hn:∀ a b:KT,a.st.eqb b.st=a.eqb b
 | .int i,.int j=>by simp[KT.st,KT.eqb,jW]
 | .str x,.str y=>by simp[KT.st,KT.eqb,jW]
 | .tup l,.tup m=>by simp[KT.st,KT.eqb,jW,eqbL_st l m]
 | .int _,.str _=>by simp[KT.st,KT.eqb,jW]
 | .int _,.tup _=>by simp[KT.st,KT.eqb,jW]
 | .str _,.int _=>by simp[KT.st,KT.eqb,jW]
 | .str _,.tup _=>by simp[KT.st,KT.eqb,jW]
 | .tup _,.int _=>by simp[KT.st,KT.eqb,jW]
 | .tup _,.str _=>by simp[KT.st,KT.eqb,jW]
def eqbL_st:∀ l m:jq,jW (stL l) (stL m)=jW l m
 | [],[]=>by simp[stL,jW]
 | a::l,b::m=>by simp[stL,jW,Hn a b,eqbL_st l m]
 | [],_::_=>by simp[stL,jW]
 | _::_,[]=>by simp[stL,jW]
end
def Iz:∀ l:jq,ltL l l=false
 | []=>by rw[ltL]
 | a::l=>by rw[ltL,MN a,aO rfl,Iz l]
def Fh{l m:jq}(h:jW l m=true):ltL l m=false:=by
 rw[eqbL_eq l m h];exact Iz m
mutual
def Fq:∀ a b:KT,a.st.cmp b.st=true
 | .int i,.int j=>by simp[KT.st,KT.eqb,KT.cmp,cmpL]
 | .str x,.str y=>by simp[KT.st,KT.eqb,KT.cmp,cmpL]
 | .tup l,.tup m=>by simp[KT.st,KT.eqb,KT.cmp,cmpL,cmpL_st l m]
 | .int _,.str _=>by simp[KT.st,KT.eqb,KT.cmp,cmpL]
 | .int _,.tup _=>by simp[KT.st,KT.eqb,KT.cmp,cmpL]
 | .str _,.int _=>by simp[KT.st,KT.eqb,KT.cmp,cmpL]
 | .str _,.tup _=>by simp[KT.st,KT.eqb,KT.cmp,cmpL]
 | .tup _,.int _=>by simp[KT.st,KT.eqb,KT.cmp,cmpL]
 | .tup _,.str _=>by simp[KT.st,KT.eqb,KT.cmp,cmpL]
def cmpL_st:∀ l m:jq,cmpL (stL l) (stL m)=true
 | [],_=>by simp[stL,cmpL]
 | _::_,[]=>by simp[stL,cmpL]
 | a::l,b::m=>by
  rw[stL,stL,cmpL,cmpL_st l m,Fq a b];split <;> rfl
end
mutual
def EQ:∀ a b:KT,a.st.plt b.st=a.lt b
 | .int i,.int j=>by
  simp only[KT.st,KT.eqb,KT.plt,pltL,KT.lt,beq_self_eq_true,if_true];by_cases h:i=j
  ·subst h;simp
  ·simp[h]
 | .str x,.str y=>by
  simp only[KT.st,KT.eqb,KT.plt,pltL,KT.lt,beq_self_eq_true,if_true];by_cases h:x=y
  ·subst h;simp
  ·simp[h]
 | .tup l,.tup m=>by
  simp only[KT.st,KT.eqb,KT.plt,pltL,KT.lt,beq_self_eq_true,if_true,eqbL_st,pltL_st l m]
  cases h:jW l m with
  | true=>rw[aO rfl,Fh h]
  | false=>rw[aM zU]
 | .int _,.str _=>by simp[KT.st,KT.eqb,KT.plt,pltL,KT.lt]
 | .int _,.tup _=>by simp[KT.st,KT.eqb,KT.plt,pltL,KT.lt]
 | .str _,.int _=>by simp[KT.st,KT.eqb,KT.plt,pltL,KT.lt]
 | .str _,.tup _=>by simp[KT.st,KT.eqb,KT.plt,pltL,KT.lt]
 | .tup _,.int _=>by simp[KT.st,KT.eqb,KT.plt,pltL,KT.lt]
 | .tup _,.str _=>by simp[KT.st,KT.eqb,KT.plt,pltL,KT.lt]
def pltL_st:∀ l m:jq,pltL (stL l) (stL m)=ltL l m
 | [],[]=>by simp[stL,pltL,ltL]
 | [],_::_=>by simp[stL,pltL,ltL]
 | _::_,[]=>by simp[stL,pltL,ltL]
 | a::l,b::m=>by rw[stL,stL,pltL,ltL,Hn a b,pltL_st l m,EQ a b]
end
mutual
def He:∀ t:KT,t.st.depth<=2 * t.depth+1
 | .int i=>by simp[KT.st,KT.depth,jX]
 | .str x=>by simp[KT.st,KT.depth,jX]
 | .tup l=>by
  have:=depthL_st l;simp only[KT.st,KT.depth,jX]
  lia
def depthL_st:∀ l:jq,jX (stL l)<=2 * jX l+1
 | []=>by simp[stL,jX]
 | t::l=>by
  let a:=He t;let b:=depthL_st l;rw[stL,jX,jX]
  lia
end
def GX{l:jq}(a:l.length<=4)(b:fitsL l 2=true):(KT.tup l).fits 3=true:=by
 rw[KT.fits,zQ,zQ];exact⟨Z,aK a,b⟩
def ZMu{x:Str}(a:x.cps.size<=40)(b:x.cps.toList.all QU=true):Oj x=true:=by
 unfold Oj;rw[zQ];exact⟨aK a,b⟩
inductive TG where
 | int (i:Int)
 | str (x:Str)
 | tup (l:List TG)
 | odd (n:String)
mutual
def TG.fits:TG->Nat->Bool
 | .int i,_=>decide (i.natAbs<10 ^ 60)
 | .str x,_=>Oj x
 | .tup l,r=>decide (0<r)&&(decide (l.length<=4)&&gfitsL l (r-1))
 | .odd _,_=>false
def gfitsL:List TG->Nat->Bool
 | [],_=>true
 | t::l,r=>t.fits r&&gfitsL l r
end
end Tw
namespace Tw
open PySem PySem.Spec L2
structure ZC(P:al)(w:ar)(K:zZ)(mg:jb)(kf:aC)(k:Nat)(x:Str)(ps:js)(sp:Sp):Prop where
 ex:∃ f fd,ZK P w K mg kf Zc k f fd ps sp/\Z5 K fd ps []/\yT K (.ref f)=true/\mg x=some (.ref f)
def Zk{X:Cx}{k:Nat}{x:Str}{q:js}{h:Sp}{e:Expr}{a:jz}{t:TA}{p c:aI}(D:ZC X.prog X.w X.K X.mg X.base k x q h)(n:ZZ k X.A)(i:PA X (e::a) t)(l:Gl X x:=by rfl)(d:(x==("__debug__" : Str))=false:=by decide)(j:aq (e::a) X.env=(false,aG e X.env)::aq a X.env:=by rfl)(g:(aE c (aq a X.env)).any (·.1)=false:=by rfl):
  PE X (.Call (.Name x p) (e::a) [] c) (Jy h [] E0 t):=by
 let⟨f,r,F,b,o,m⟩:=D.ex;exact Hx F n l m o b .nil Yv i d j g
mutual
def ZG(H:Hp):KT->V->Prop
 | .int i,v=>v=.int i
 | .str x,v=>v=.str x
 | .tup l,v=>∃ a vs,v=.ref a/\H a=some (.tup vs)/\jU H l vs
def jU(H:Hp):jq->je->Prop
 | [],vs=>vs=[]
 | t::l,vs=>∃ v r,vs=v::r/\ZG H t v/\jU H l r
end
def YR(H c:Hp):Prop:=∀ b a,H b=some (.tup a)->c b=some (.tup a)
mutual
def ZG.mono{H H':Hp}(m:YR H H'):∀(t:KT)(v:V),ZG H t v->ZG H' t v
 | .int _,_,h=>by rw[ZG] at h⊢;exact h
 | .str _,_,h=>by rw[ZG] at h⊢;exact h
 | .tup l,_,h=>by
  rw[ZG] at h⊢;let⟨a,vs,e,h1,h2⟩:=h;exact⟨a,vs,e,m a vs h1,jU.mono m l vs h2⟩
def jU.mono{H H':Hp}(m:YR H H'):∀(l:jq)(vs:je),jU H l vs->jU H' l vs
 | [],_,h=>by rw[jU] at h⊢;exact h
 | t::l,_,h=>by
  rw[jU] at h⊢;let⟨v,r,e,h1,h2⟩:=h;exact⟨v,r,e,ZG.mono m t v h1,jU.mono m l r h2⟩
end
def jU.nil{H:Hp}:jU H [] []:=by rw[jU]
def jU.cons{H:Hp}{t:KT}{l:jq}{v:V}{r:je}(h:ZG H t v)(a:jU H l r):jU H (t::l) (v::r):=by
 rw[jU];exact⟨v,r,Z,h,a⟩
def ZG.tup{H:Hp}{a:aj}{b:je}{l:jq}(e:H a=some (.tup b))(h:jU H l b):ZG H (.tup l) (.ref a):=by
 rw[ZG];exact⟨a,b,Z,e,h⟩
def ZG.int{H:Hp}(i:Int):ZG H (.int i) (.int i):=by rw[ZG]
def ZG.str{H:Hp}(x:Str):ZG H (.str x) (.str x):=by rw[ZG]
def jU.append{H:Hp}:∀{l m:jq}{a b:je},jU H l a->jU H m b->jU H (l++m) (a++b)
 | [],m,a,b,h,g=>by rw[jU] at h;subst h;exact g
 | t::l,m,a,b,h,g=>by
  rw[jU] at h;let⟨v,r,rfl,c,d⟩:=h;exact .cons c (d.append g)
def jU.length{H:Hp}:∀{l:jq}{a:je},jU H l a->l.length=a.length
 | [],a,h=>by rw[jU] at h;subst h;rfl
 | t::l,a,h=>by
  rw[jU] at h;let⟨v,r,rfl,_,b⟩:=h;rw[zA,zA,b.length]
def jU.get{H:Hp}:∀{l:jq}{a:je}{i:Nat}{v:V},jU H l a->a[i]? = some v->∃ t,l[i]? = some t/\ZG H t v
 | [],a,i,v,h,e=>by rw[jU] at h;subst h;simp at e
 | t::l,a,0,v,h,e=>by
  rw[jU] at h;let⟨j,r,rfl,d,_⟩:=h;simp at e;subst e;exact⟨t,Z,d⟩
 | t::l,a,i+1,v,h,e=>by
  rw[jU] at h;let⟨j,r,rfl,_,f⟩:=h;let⟨g,b,c⟩:=f.get (i:=i) (by simpa using e)
  exact⟨g,by simpa using b,c⟩
def KT.ty:KT->ai
 | .int _=>.type "int"
 | .str _=>.type "str"
 | .tup _=>.type "tuple"
def ZG.ty{H:Hp}{K:zZ}{t:KT}{v:V}(h:ZG H t v):Y4 K H v t.ty:=by
 cases t with
 | int i=>rw[ZG] at h;subst h;exact .int i
 | str x=>rw[ZG] at h;subst h;exact .str x
 | tup l=>rw[ZG] at h;let⟨a,b,rfl,e,_⟩:=h;exact .tup e
def ZH(p:aj)(H a:Hp):Prop:=∀ b o,H b=some o->b≠p->a b=some o
def ZH.refl(p:aj)(H:Hp):ZH p H H:=λ_ _ h _=>h
def ZH.trans{p:aj}{H d e:Hp}(a:ZH p H d)(b:ZH p d e):ZH p H e:=λc o h n=>b c o (a c o h n) n
def ZH.upd{p:aj}{H b:Hp}{o:HO}(a:ZH p H b):ZH p H (L2.upd b p o):=λc u h n=>by rw[ZO n];exact a c u h n
def ZH.of{p:aj}{H b:Hp}(a:ZB H b):ZH p H b:=λc o h _=>a c o h
def ZH.tups{p:aj}{H c:Hp}{d:je}(a:ZH p H c)(h:H p=some (.lst d)):YR H c:=λb f e=>a b _ e (ZD e h)
def ZB.tups{H c:Hp}(a:ZB H c):YR H c:=λb d e=>a b _ e
def ZG.sm{H a:Hp}{t:KT}{v:V}(h:ZG H t v)(s:ZB H a):ZG a t v:=h.mono (ZB.tups s) _ _
def jU.sm{H a:Hp}{t:jq}{v:je}(h:jU H t v)(s:ZB H a):jU a t v:=h.mono (ZB.tups s) _ _
def Zb{H:Hp}{p:aj}(h:H p=none)(o:HO):ZB H (L2.upd H p o):=λb u q=>by rw[ZO (ZW q h)];exact q
structure ZJ(H:Hp)(p:aj):Prop where
 ex:∃ a b c d:Int,H p=some (.lst [.int a,.int b,.int c,.int d])/\0<=a/\a<2147483647/\0<=c/\0<=d
def ZJ.same{H f:Hp}{p:aj}(w:ZJ H p)(s:ZB H f):ZJ f p:=by
 let⟨a,b,c,d,e,r⟩:=w.ex;exact⟨a,b,c,d,s p _ e,r⟩
def ZJ.some{H:Hp}{p:aj}(w:ZJ H p):∃ f,H p=zG (.lst f):=by
 let⟨a,b,c,d,e,r⟩:=w.ex;exact⟨_,e⟩
def ZH.tupsW{p:aj}{H b:Hp}(a:ZH p H b)(w:ZJ H p):YR H b:=by
 let⟨c,e⟩:=w.some;exact a.tups e
def Il(m:Int):Prop:=0<m/\m.natAbs.log2<9000
inductive V5(K:zZ)(d:je)(H:Hp)(Q:VK)(_:XK):Prop
 |mk(a:aj)(c:jw)(k:Int)(_:d=[.ref a,.int k])(_:ZF K H a (c.map V.int))(_:c.length<=63)(_:0<=k)(_:k<=1000)(_:∀(p:aj)(b:Hp),H p=none->ZB H b->ZJ b p->Q (.ref p) b)
inductive YQ(b:je)(H:Hp)(Q:VK)(_:XK):Prop
 |mk(p:aj)(m:Int)(_:b=[.ref p,.int m])(_:ZJ H p)(_:Il m)(_:∀(r:Int)(a:Hp),0<=r->r<m->ZJ a p->ZH p H a->Q (.int r) a)
inductive Xi(n:Nat)(b:je)(H:Hp)(Q:VK)(_:XK):Prop
 |mk(v:V)(t:KT)(r q:Nat)(_:b=[v,.int (r:Int)])(_:ZG H t v)(_:t.fits q=true)(_:r<n)(_:∀ a,ZB H a->Q (.bl (t.fits r)) a)
inductive UW(a:je)(H:Hp)(Q:VK)(_:XK):Prop
 |mk(i:Int)(_:a=[.int i])(_:Q (.bl (decide (i.natAbs<10 ^ 60))) H)
inductive VL(a:je)(H:Hp)(Q:VK)(_:XK):Prop
 |mk(c:Nat)(_:a=[.str ⟨#[c]⟩])(_:Q (.bl (QU c)) H)
inductive UV(b:je)(H:Hp)(Q:VK)(_:XK):Prop
 |mk(v:V)(t:KT)(q:Nat)(_:b=[v])(_:ZG H t v)(_:t.fits q=true)(_:∀ a,ZB H a->Q (.bl (t.fits 3)) a)
def nn{n:Nat}(h:n<=1000):n<=sizeLine:=xX (YO h)
def YA{n:Nat}(h:Nat.ble n 1000=true:=by rfl):n<=sizeLine:=nn (yR h)
def KD{x y:V}{i:Int}(a:0<=i)(b:i<2):∃ v,Xt [x,y] i=some v/\(v=x\/v=y):=by
 rcases(show i=0\/i=1 by lia) with e | e
 ·subst e;exact⟨x,Z,.inl Z⟩
 ·subst e;exact⟨y,Z,.inr Z⟩
def LL{b:Type}{xs:List b}{i:Int}(c:0<=i)(d:i<(xs.length:Int)):∃ v,Xt xs i=some v/\v∈xs:=by
 let a:i.toNat<xs.length:=∅
 let e:i=((i.toNat:Nat):Int):=∅
 rw[e];exact⟨xs[i.toNat],Xd (zV a),xO a⟩
def Ws{m:Int}(a:0<m)(b:m.natAbs<2 ^ 250):Il m:=by
 exists a;have:m.natAbs.log2<250:=(Nat.log2_lt ∅).mpr b
 lia
def ZKu{i j:Int}(h:V.int i=V.int j):i=j:=by injection h
def Ce(c:Nat):((!decide ([c]<[32])) && !decide ([126]<[c]))=QU c:=by
 unfold QU;let a:([c]<[32]) ↔ c<32:=by simp[vE]
 let b:([126]<[c]) ↔ 126<c:=by simp[vE]
 rw[xB];simp only[zQ,rV,decide_eq_false_iff_not,decide_eq_true_eq,a,b]
 lia
def AV(i:Int):decide ((if i<0 then -i else i)<10 ^ (60:Int).toNat)=decide (i.natAbs<10 ^ 60):=by
 let e:((10:Int) ^ (60:Int).toNat)=((10 ^ 60:Nat):Int):=by decide +kernel
 rw[e];generalize (10 ^ 60:Nat)=N;apply decide_eq_decide.mpr;split <;> lia
end Tw
namespace Tw
open PySem
def EJ:∀(l m:jp),l<m->¬ m<l
 | [],[],h,_=>absurd h (vJ _)
 | [],_::_,_,h=>absurd h (vJ _)
 | _::_,[],h,_=>absurd h (vJ _)
 | a::l,b::m,h,c=>by
  rw[vE] at h c;rcases h with h | ⟨rfl,h⟩
  ·rcases c with c | ⟨rfl,c⟩
   ·lia
   ·lia
  ·rcases c with c | ⟨_,c⟩
   ·lia
   ·exact EJ l m h c
def Hg:∀(l m:jp),¬ l<m->¬ m<l->l=m
 | [],[],_,_=>rfl
 | [],_::_,h,_=>absurd (rY _ _) h
 | _::_,[],_,h=>absurd (rY _ _) h
 | a::l,b::m,h,h'=>by
  rw[vE] at h h';let e:a=b:=by
   rcases Nat.lt_trichotomy a b with c | c | c
   ·exact absurd (.inl c) h
   ·exact c
   ·exact absurd (.inl c) h'
  subst e;rw[Hg l m (λz=>h (.inr ⟨rfl,z⟩)) λz=>h' (.inr ⟨rfl,z⟩)]
def Fb:∀(l m k:jp),l<m->m<k->l<k
 | _,_,[],_,h=>absurd h (vJ _)
 | [],_,_::_,_,_=>rY _ _
 | _::_,[],_,h,_=>absurd h (vJ _)
 | a::l,b::m,c::k,h,d=>by
  rw[vE] at h d⊢;rcases h with h | ⟨rfl,h⟩
  ·rcases d with d | ⟨rfl,d⟩
   ·exact .inl (Nat.lt_trans h d)
   ·exact .inl h
  ·rcases d with d | ⟨rfl,d⟩
   ·exact .inl d
   ·exact .inr ⟨Z,Fb l m k h d⟩
def eqb_comm'(a b:KT):a.eqb b=b.eqb a:=by
 rw[xB,Y0,Y0];exact eq_comm
mutual
def MM:∀(a b:KT),a.lt b=true->b.lt a=false
 | .int i,.int j,h=>by rw[KT.lt] at h⊢;have:=of_decide_eq_true h;exact aJ ∅
 | .int _,.str _,_=>by rw[KT.lt]
 | .int _,.tup _,_=>by rw[KT.lt]
 | .str _,.int _,h=>by rw[KT.lt] at h;cases h
 | .str x,.str y,h=>by rw[KT.lt] at h⊢;exact aJ (EJ _ _ (of_decide_eq_true h))
 | .str _,.tup _,_=>by rw[KT.lt]
 | .tup _,.int _,h=>by rw[KT.lt] at h;cases h
 | .tup _,.str _,h=>by rw[KT.lt] at h;cases h
 | .tup l,.tup m,h=>by rw[KT.lt] at h⊢;exact ltL_asym l m h
def ltL_asym:∀(l m:jq),ltL l m=true->ltL m l=false
 | [],[],h=>by rw[ltL] at h;cases h
 | [],_::_,_=>by rw[ltL]
 | _::_,[],h=>by rw[ltL] at h;cases h
 | a::l,b::m,h=>by
  rw[ltL] at h⊢;rw[eqb_comm' b a]
  cases e:a.eqb b with
  | true=>rw[e,aO rfl] at h;rw[aO rfl];exact ltL_asym l m h
  | false=>rw[e,aM zU] at h;rw[aM zU];exact MM a b h
end
mutual
def FN:∀(a b:KT),a.lt b=false->b.lt a=false->a=b
 | .int i,.int j,h,h'=>by rw[KT.lt] at h h';have:=of_decide_eq_false h;have:=of_decide_eq_false h';rw[show i=j by lia]
 | .int _,.str _,h,_=>by rw[KT.lt] at h;cases h
 | .int _,.tup _,h,_=>by rw[KT.lt] at h;cases h
 | .str _,.int _,_,h=>by rw[KT.lt] at h;cases h
 | .str x,.str y,h,h'=>by
  rw[KT.lt] at h h';let e:=Hg _ _ (of_decide_eq_false h) (of_decide_eq_false h');let⟨⟨x⟩⟩:=x;let⟨⟨y⟩⟩:=y;dsimp only at e;rw[e]
 | .str _,.tup _,h,_=>by rw[KT.lt] at h;cases h
 | .tup _,.int _,_,h=>by rw[KT.lt] at h;cases h
 | .tup _,.str _,_,h=>by rw[KT.lt] at h;cases h
 | .tup l,.tup m,h,h'=>by rw[KT.lt] at h h';rw[ltL_total l m h h']
def ltL_total:∀(l m:jq),ltL l m=false->ltL m l=false->l=m
 | [],[],_,_=>rfl
 | [],_::_,h,_=>by rw[ltL] at h;cases h
 | _::_,[],_,h=>by rw[ltL] at h;cases h
 | a::l,b::m,h,h'=>by
  rw[ltL] at h h';rw[eqb_comm' b a] at h'
  cases e:a.eqb b with
  | true=>rw[e,aO rfl] at h h';rw[Y0.mp e,ltL_total l m h h']
  | false=>
   rw[e,aM zU] at h h';have:=FN a b h h';rw[this,MN] at e;cases e
end
def Mv(a:KT):a.lt a=false:=by
 cases h:a.lt a with
 | false=>rfl
 | true=>have:=MM a a h;rw[h] at this;cases this
mutual
def lt_trans':∀(a b c:KT),a.lt b=true->b.lt c=true->a.lt c=true
 | .int i,.int j,.int k,h,h'=>by rw[KT.lt] at h h'⊢;have:=of_decide_eq_true h;have:=of_decide_eq_true h';exact aK ∅
 | .int _,_,.str _,_,_=>by rw[KT.lt]
 | .int _,_,.tup _,_,_=>by rw[KT.lt]
 | .str _,_,.tup _,_,_=>by rw[KT.lt]
 | .int _,.str _,.int _,_,h=>by rw[KT.lt] at h;cases h
 | .int _,.tup _,.int _,_,h=>by rw[KT.lt] at h;cases h
 | .str _,.int _,_,h,_=>by rw[KT.lt] at h;cases h
 | .str x,.str y,.str z,h,h'=>by rw[KT.lt] at h h'⊢;exact aK (Fb _ _ _ (of_decide_eq_true h) (of_decide_eq_true h'))
 | .str _,.str _,.int _,_,h=>by rw[KT.lt] at h;cases h
 | .str _,.tup _,.str _,_,h=>by rw[KT.lt] at h;cases h
 | .str _,.tup _,.int _,_,h=>by rw[KT.lt] at h;cases h
 | .tup _,.int _,_,h,_=>by rw[KT.lt] at h;cases h
 | .tup _,.str _,_,h,_=>by rw[KT.lt] at h;cases h
 | .tup l,.tup m,.tup k,h,h'=>by rw[KT.lt] at h h'⊢;exact ltL_trans l m k h h'
 | .tup _,.tup _,.int _,_,h=>by rw[KT.lt] at h;cases h
 | .tup _,.tup _,.str _,_,h=>by rw[KT.lt] at h;cases h
def ltL_trans:∀(l m k:jq),ltL l m=true->ltL m k=true->ltL l k=true
 | _,[],[],_,h=>by rw[ltL] at h;cases h
 | _,_::_,[],_,h=>by rw[ltL] at h;cases h
 | [],_,_::_,_,_=>by rw[ltL]
 | _::_,[],_::_,h,_=>by rw[ltL] at h;cases h
 | a::l,b::m,c::k,h,h'=>by
  rw[ltL] at h h'⊢
  cases e:a.eqb b with
  | true=>
   rw[e,aO rfl] at h;let ab:=Y0.mp e;subst ab
   cases e2:a.eqb c with
   | true=>rw[e2,aO rfl] at h';rw[aO rfl];exact ltL_trans l m k h h'
   | false=>rw[e2,aM zU] at h';rw[aM zU];exact h'
  | false=>
   rw[e,aM zU] at h
   cases e2:b.eqb c with
   | true=>
    let bc:=Y0.mp e2;subst bc;rw[e,aM zU];exact h
   | false=>
    rw[e2,aM zU] at h';let ac:=lt_trans' a b c h h'
    cases e3:a.eqb c with
    | true=>
     have:=Y0.mp e3;subst this;rw[Mv] at ac;cases ac
    | false=>rw[aM zU];exact ac
end
def le_trans'{a b c:KT}(f:b.lt a=false)(d:c.lt b=false):c.lt a=false:=by
 cases h:c.lt a with
 | false=>rfl
 | true=>
  cases e:a.lt b with
  | true=>rw[lt_trans' c a b h e] at d;cases d
  | false=>rw[FN a b e f,d] at h;cases h
end Tw
namespace Tw
open PySem PySem.Spec L2 PyProof.Rows
mutual
def ZY(h:aC):KT->ai->Prop
 | .int i,v=>∃ t,v=.int i t
 | .str x,v=>∃ t,v=.str x t
 | .tup l,v=>∃(a:aj)(its:jd),v=.ref a/\IsTup h a its.toArray/\jV h l its
def jV(h:aC):jq->jd->Prop
 | [],vs=>vs=[]
 | t::l,vs=>∃ v r,vs=v::r/\ZY h t v/\jV h l r
end
section
variable{jZ:ju}{σ:L2.St}{H:Hp}
mutual
def Ml(I:ZE X jZ σ H s):∀(t:KT)(x:V)(v:ai),ZG H t x->ZU x v->ZY s.heap t v
 | .int i,x,v,h,r=>by
  rw[ZG] at h;subst h;rw[ZY];exact r
 | .str y,x,v,h,r=>by
  rw[ZG] at h;subst h;rw[ZY];exact r
 | .tup l,x,v,h,r=>by
  rw[ZG] at h;let⟨a,vs,rfl,e,hk⟩:=h;let⟨its,rv,pl,_⟩:=I.tuple (Za.of e);rw[ZY];exact⟨a,its,r,pl,kvals_of I l vs its hk rv⟩
def kvals_of(I:ZE X jZ σ H s):∀(l:jq)(vs:je)(us:jd),jU H l vs->ZQ vs us->jV s.heap l us
 | [],vs,us,h,r=>by
  rw[jU] at h;subst h;rw[jV];cases r;rfl
 | t::l,vs,us,h,r=>by
  rw[jU] at h;let⟨v,q,rfl,h1,h2⟩:=h
  cases r with
  | cons r1 r2=>
   rw[jV];exact⟨_,_,Z,Ml I t v _ h1 r1,kvals_of I l q _ h2 r2⟩
end
end
def ZIf{h:aC}{a:aj}{c b:jd}(x:IsTup h a c.toArray)(y:IsTup h a b.toArray):c=b:=by
 let⟨o,e,_,n,d⟩:=x;let⟨j,g,_,i,f⟩:=y;rw[e] at g;cases g;rw[d] at f;injection f with d1 _;simpa using congrArg tU d1
mutual
def ZY.inj{h:aC}:∀(a b:KT)(v:ai),ZY h a v->ZY h b v->a.eqb b=true
 | .int i,b,v,x,y=>by
  rw[ZY] at x;let⟨t,rfl⟩:=x
  cases b with
  | int j=>rw[ZY] at y;let⟨u,e⟩:=y;injection e with e _;rw[KT.eqb,e];exact beq_self_eq_true j
  | str z=>rw[ZY] at y;let⟨u,e⟩:=y;cases e
  | tup m=>rw[ZY] at y;let⟨_,_,e,_⟩:=y;cases e
 | .str w,b,v,x,y=>by
  rw[ZY] at x;let⟨t,rfl⟩:=x
  cases b with
  | int j=>rw[ZY] at y;let⟨u,e⟩:=y;cases e
  | str z=>rw[ZY] at y;let⟨u,e⟩:=y;injection e with e _;rw[KT.eqb,e];exact beq_self_eq_true z
  | tup m=>rw[ZY] at y;let⟨_,_,e,_⟩:=y;cases e
 | .tup l,b,v,x,y=>by
  rw[ZY] at x;let⟨p,its,rfl,px,kx⟩:=x
  cases b with
  | int j=>rw[ZY] at y;let⟨u,e⟩:=y;cases e
  | str z=>rw[ZY] at y;let⟨u,e⟩:=y;cases e
  | tup m=>
   rw[ZY] at y;let⟨q,its',e,py,ky⟩:=y;cases e;cases ZIf px py;rw[KT.eqb];exact jV.inj l m its kx ky
def jV.inj{h:aC}:∀(l m:jq)(us:jd),jV h l us->jV h m us->jW l m=true
 | [],m,us,x,y=>by
  rw[jV] at x;subst x
  cases m with
  | nil=>rw[jW]
  | cons b m=>rw[jV] at y;let⟨_,_,e,_⟩:=y;cases e
 | a::l,m,us,x,y=>by
  rw[jV] at x;let⟨v,r,rfl,x1,x2⟩:=x
  cases m with
  | nil=>rw[jV] at y;cases y
  | cons b m=>
   rw[jV] at y;let⟨v',r',e,y1,y2⟩:=y;injection e with e1 e2;subst e1 e2;rw[jW,ZY.inj a b v x1 y1,jV.inj l m r x2 y2];rfl
end
def jV.length{h:aC}:∀{l:jq}{b:jd},jV h l b->l.length=b.length
 | [],b,x=>by rw[jV] at x;subst x;rfl
 | a::l,b,x=>by
  rw[jV] at x;let⟨v,r,rfl,_,c⟩:=x;rw[zA,zA,c.length]
def jV.get{h:aC}:∀{l:jq}{b:jd}{j:Nat}{u:ai},jV h l b->b[j]? = some u->∃ t,l[j]? = some t/\ZY h t u
 | [],b,j,u,x,e=>by rw[jV] at x;subst x;simp at e
 | a::l,b,0,u,x,e=>by
  rw[jV] at x;let⟨v,r,rfl,f,_⟩:=x;simp at e;subst e;exact⟨a,Z,f⟩
 | a::l,b,j+1,u,x,e=>by
  rw[jV] at x;let⟨v,r,rfl,_,g⟩:=x;let⟨t,c,d⟩:=g.get (j:=j) (by simpa using e)
  exact⟨t,by simpa using c,d⟩
def NT:∀{l:jq}{t:KT},t∈l->t.depth<=jX l
 | [],_,h=>by cases h
 | u::l,t,h=>by
  rw[jX];rcases zB.mp h with e | h
  ·subst e;lia
  ·have:=NT h;lia
def Ge:∀(l m:jq),((zR (min l.length m.length)).all (λj=>(l.getD j (.int 0)).eqb (m.getD j (.int 0)))&&l.length==m.length)=jW l m
 | [],[]=>by simp[jW]
 | [],_::_=>by simp[jW]
 | _::_,[]=>by simp[jW]
 | a::l,b::m=>by
  let c:=Ge l m;let e:min (a::l).length (b::m).length=min l.length m.length+1:=by simp only[zA];lia
  rw[e,List.range_succ_eq_map,uU,wF,jW,<-c,Bool.and_assoc];simp[Function.comp_def]
def JV{s:ak}:∀(n:Nat)(a b:KT)(A:aw)(v u:ai),a.depth<=n->ZY s.heap a v->ZY s.heap b u->A.units+a.depth<cLine->SeqAt.EqAt A s v u (a.eqb b)
 | n,.int i,b,A,v,u,_,x,y,o=>by
  rw[ZY] at x;let⟨t,rfl⟩:=x;let d:A.units<cLine:=∅
  cases b with
  | int j=>rw[ZY] at y;let⟨g,rfl⟩:=y;rw[KT.eqb];exact SeqAt.EqAt.int_int i t j g
  | str z=>rw[ZY] at y;let⟨g,rfl⟩:=y;rw[show (KT.int i).eqb (.str z)=false by simp[KT.eqb]];exact SeqAt.EqAt.int_str i t z g
  | tup m=>rw[ZY] at y;let⟨p,f,rfl,k,_⟩:=y;rw[show (KT.int i).eqb (.tup m)=false by simp[KT.eqb]];exact SeqAt.EqAt.int_tuple i t k d
 | n,.str w,b,A,v,u,_,x,y,o=>by
  rw[ZY] at x;let⟨t,rfl⟩:=x;let d:A.units<cLine:=∅
  cases b with
  | int j=>rw[ZY] at y;let⟨g,rfl⟩:=y;rw[show (KT.str w).eqb (.int j)=false by simp[KT.eqb]];exact SeqAt.EqAt.str_int w t j g
  | str z=>rw[ZY] at y;let⟨g,rfl⟩:=y;rw[KT.eqb];exact SeqAt.EqAt.str_str w t z g
  | tup m=>rw[ZY] at y;let⟨p,f,rfl,k,_⟩:=y;rw[show (KT.str w).eqb (.tup m)=false by simp[KT.eqb]];exact SeqAt.EqAt.str_tuple w t k d
 | 0,.tup l,b,A,v,u,C,x,y,o=>by
  rw[KT.depth] at C
  lia
 | n+1,.tup l,b,A,v,u,C,x,y,o=>by
  let U:=x;rw[ZY] at x;let⟨p,f,rfl,D,G⟩:=x;rw[KT.depth] at C o;let d:A.units<cLine:=∅
  cases b with
  | int j=>rw[ZY] at y;let⟨g,rfl⟩:=y;rw[show (KT.tup l).eqb (.int j)=false by simp[KT.eqb]];exact SeqAt.EqAt.tuple_int j g D d
  | str z=>rw[ZY] at y;let⟨g,rfl⟩:=y;rw[show (KT.tup l).eqb (.str z)=false by simp[KT.eqb]];exact SeqAt.EqAt.tuple_str z g D d
  | tup m=>
   let V:=y;rw[ZY] at y;let⟨q,c,rfl,k,H⟩:=y;by_cases h:p=q
   ·subst h;rw[ZY.inj _ _ _ U V];exact SeqAt.EqAt.same _
   ·let S:=G.length;let T:=H.length;let I:=SeqAt.RcAt.tuples (A:=A) (s:=s) (e:=λj=>(l.getD j (.int 0)).eqb (m.getD j (.int 0))) D k d (λj O P=>by
     let r:j<f.length:=by simpa using O
     let B:j<c.length:=by simpa using P
     let⟨E,F,Q⟩:=G.get (j:=j) (u:=f[j]) (by simp[r])
     let⟨J,K,R⟩:=H.get (j:=j) (u:=c[j]) (by simp[B])
     let W:=NT (zC F);let M:l.getD j (.int 0)=E:=by rw[zS,F];rfl
     let N:m.getD j (.int 0)=J:=by rw[zS,K];rfl
     have:=JV n E J A.in1 f[j] c[j] ∅ Q R (by show A.units+1+E.depth<cLine;lia)
     show SeqAt.EqAt A.in1 s _ _ ((l.getD j (.int 0)).eqb (m.getD j (.int 0)));rw[M,N];simpa using this)
    let L:((zR (min f.toArray.size c.toArray.size)).all (λj=>(l.getD j (.int 0)).eqb (m.getD j (.int 0)))&&f.toArray.size==c.toArray.size)=(KT.tup l).eqb (.tup m):=by
     rw[zK,zK,<-S,<-T,KT.eqb];exact Ge l m
    rw[L] at I;exact .of_refs h I
def Yo(o:Bool)(a b:KT):Bool:=bif o then !b.plt a else a.plt b
def Qx(o:Bool)(l m:jq):Bool:=bif o then !pltL m l else pltL l m
def B4{o:Bool}{a c:KT}{l m:jq}:Qx o (a::l) (c::m)=if a.eqb c=true then Qx o l m else Yo o a c:=by
 unfold Qx Yo;rw[pltL,pltL,eqb_comm' c a];cases o <;> cases a.eqb c <;> rfl
def ZNc{o:Bool}{l m:jq}{i j:Nat}(h:l=[]\/m=[])(e:l.length+j=m.length+i):Qx o l m=bif o then decide (i<=j) else decide (i<j):=by
 rcases h with rfl | rfl
 ·cases m <;> cases o <;> simp[Qx,pltL] at e⊢ <;> lia
 ·cases l <;> cases o <;> simp[Qx,pltL] at e⊢ <;> lia
def Mr(o:Bool)(A:aw)(s:ak)(v u:ai)(b:Bool):Prop:=
 ∀(a:al)(w:ar)(E:ja)(Q:ja),Q (.bool b) s->aA (az a w) A (richCompare (bif o then .LtE else .Lt) v u) Q E s
section
open PySem.SeqAt
open PySem.AutoSeq1 (wpAny_loadPart')
open PySem.MeetsSeq PySem.MeetsSeq2 PySem.MeetsSeq3
inductive FW(c:aC)(d:jq)(n m:Nat)(G:jq->jq->Prop)(rest:List (ai×ai)):Prop
 |mk(e f:jd)(a b:jq):rest=e.zip f->jV c a e->jV c b f->(∀ x∈a,x∈d)->cmpL a b=true->a.length+m=b.length+n->G a b->FW c d n m G rest
def B0(o:Bool)(l b:aj)(f e:jA)(n n2:Nat)(dd K:jy)(sl O:Array (jc))(D J:jq):
  Meets ((bif o then Builtin.«tuple.__le__» else Builtin.«tuple.__lt__») ⟨[.ref l,.ref b],[]⟩)
   (λA R s=>s.heap.get? l=some { cls:=.type "tuple",dict:=dd,data:=.seq f n,slots:=sl }/\s.heap.get? b=some { cls:=.type "tuple",dict:=K,data:=.seq e n2,slots:=O } /\
    jV s.heap D f.toList/\jV s.heap J e.toList/\cmpL D J=true /\
    (∀ x y v u,x∈D->ZY s.heap x v->ZY s.heap y u->EqAt A.in1 s v u (x.eqb y))/\(∀ x y v u,x∈D->ZY s.heap x v->ZY s.heap y u->x.cmp y=true->Mr o A.in1 s v u (Yo o x y)) /\
    R (.ok (.ret (.bool (Qx o D J)))) s):=by
 let P:=@B4 o;let Q:=@ZNc o;generalize Qx o=F at P Q⊢;cases o
 all_goals
  dsimp only[cond_true,cond_false];refine .of_wp λC w A R s h=>?_;let⟨L,g,d,Y,X⟩:=s;let⟨hl,hb,S,T,hc,hE,hL,h⟩:=h;let f2:=AutoSeq1.sub_tuple_tuple;let z1:f.size=D.length:=by rw[S.length];simp
  let z2:e.size=J.length:=by rw[T.length];simp
  wp_walk using wpAny_loadPart' hl,wpAny_loadPart' hb,wpAny_forIn_list _ (λrest b N=>b.1=none/\N=⟨L,g,d,Y,X⟩/\FW L D f.size e.size (λa b=>R (.ok (.ret (.bool (F a b)))) ⟨L,g,d,Y,X⟩) rest) _
  case turn=>
   rintro⟨y,x⟩ rest b N ⟨E,rfl,vs,ws,q,r,p,i,j,t,k,m,B⟩
   cases q with
   | nil=>rw[jV] at i;subst i;rw[List.zip_nil_left] at p;cases p
   | cons a q=>
    cases r with
    | nil=>rw[jV] at j;subst j;rw[List.zip_nil_right] at p;cases p
    | cons c r=>
     rw[jV] at i j;let⟨v,vr,rfl,V,H⟩:=i;let⟨u,ur,rfl,W,I⟩:=j;rw[List.zip_cons_cons] at p;injection p with hyx hrest;injection hyx with hy M;subst hy M;rw[P] at B;rw[cmpL] at k;simp only[zA] at m;let he:=hE a c y x (t a zP) V W;refine aa (he C w _ _ ?_)
     cases U:a.eqb c with
     | true=>
      rw[U,aO rfl] at B k
      wp_walk
      exact⟨Z,Z,_,_,_,_,hrest,H,I,λz p=>t z (zH _ p),k,∅,B⟩
     | false=>
      rw[U,aM zU] at B k;let G:=hL a c y x (t a zP) V W k C w;dsimp only[cond_true,cond_false] at G
      wp_walk using G
      exact⟨_,Z,by simpa using B⟩
  case fin=>
   rintro⟨b1,b2⟩ N ⟨E,rfl,vs,ws,q,r,p,i,j,t,k,m,B⟩;simp only at E;subst E;rw[Q (by
    cases q with
    | nil=>exact .inl Z
    | cons a q=>
     cases r with
     | nil=>exact .inr Z
     | cons c r=>
      rw[jV] at i j;let⟨v,vr,rfl,_,_⟩:=i;let⟨u,ur,rfl,_,_⟩:=j;rw[List.zip_cons_cons] at p;cases p) m] at B
   wp_walk
   exact⟨_,Z,by simpa [Builtin.Tuple.tupleCompareSizes] using B⟩
  case h=>
   exact⟨Z,Z,f.toList,e.toList,D,J,Z,S,T,λ_ M=>M,hc,∅,h⟩
end
def GW(o:Bool){s:ak}:∀(n:Nat)(a b:KT)(A:aw)(v u:ai),a.depth<=n->ZY s.heap a v->ZY s.heap b u->a.cmp b=true->A.units+a.depth<cLine->Mr o A s v u (Yo o a b)
 | n,.int i,b,A,v,u,_,x,y,d,H=>by
  rw[ZY] at x;let⟨t,rfl⟩:=x
  cases b with
  | int j=>
   rw[ZY] at y;let⟨D,rfl⟩:=y;unfold Yo;rw[KT.plt,KT.plt];intro c w E Q h;cases o
   ·exact HT.rcLt_int A s i t j D c w E Q h
   ·exact(le_int (by rw[show decide (i<=j) = !decide (j<i) by by_cases z:j<i <;> simp[z] <;> lia];exact h):aA (az c w) A (ay .LtE (.int i t) (.int j D)) Q E s)
  | str z=>simp[KT.cmp] at d
  | tup m=>simp[KT.cmp] at d
 | n,.str w,b,A,v,u,_,x,y,d,H=>by
  rw[ZY] at x;let⟨t,rfl⟩:=x
  cases b with
  | int j=>simp[KT.cmp] at d
  | str z=>
   rw[ZY] at y;let⟨D,rfl⟩:=y;unfold Yo;rw[KT.plt,KT.plt];intro c w' E Q h;cases o
   ·exact(lt_str h:aA (az c w') A (ay .Lt (.str w t) (.str z D)) Q E s)
   ·exact(PySem.P.le_str h:aA (az c w') A (ay .LtE (.str w t) (.str z D)) Q E s)
  | tup m=>simp[KT.cmp] at d
 | 0,.tup l,b,A,v,u,K,x,y,d,H=>by
  rw[KT.depth] at K
  lia
 | n+1,.tup l,b,A,v,u,K,x,y,d,H=>by
  rw[ZY] at x;let⟨p,M,rfl,px,kx⟩:=x;rw[KT.depth] at K H;let B:A.units<cLine:=∅
  cases b with
  | int j=>simp[KT.cmp] at d
  | str z=>simp[KT.cmp] at d
  | tup m=>
   rw[ZY] at y;let⟨q,C,rfl,py,ky⟩:=y;rw[KT.cmp] at d;let e:Yo o (.tup l) (.tup m)=Qx o l m:=by
    unfold Yo Qx;rw[KT.plt,KT.plt]
   rw[e];intro c w E Q h;let⟨⟨cls,dd,data,sl⟩,G,k,R,Y⟩:=id px;let⟨⟨V,J,I,U⟩,f,g,S,r⟩:=id py;simp only at k Y g r;subst k Y g r;let W:∀ x y v u,x∈l->ZY s.heap x v->ZY s.heap y u->SeqAt.EqAt A.in1 s v u (x.eqb y):=λx y v u L N O=>by
    let d1:=NT L;exact JV x.depth x y A.in1 v u (zY _) N O (by show A.units+1+x.depth<cLine;lia)
   let X:∀ x y v u,x∈l->ZY s.heap x v->ZY s.heap y u->x.cmp y=true->Mr o A.in1 s v u (Yo o x y):=λx y v u L N O k3=>by
    let d1:=NT L;exact GW o n x y A.in1 v u ∅ N O k3 (by show A.units+1+x.depth<cLine;lia)
   let T:=B0 o p q M.toArray C.toArray R S dd J sl U l m;cases o
   ·exact richCompare_meets_room (op:=.Lt) ⟨_,G,Z⟩ ⟨_,f,Z⟩ PySem.F.slot_tuple_lt PySem.F.entry_tuple_lt (PySem.F.args_tuple_lt_2 _ _) T ⟨G,f,kx,ky,d,W,X,(λx=>nomatch x),h⟩ B
   ·exact richCompare_meets_room (op:=.LtE) ⟨_,G,Z⟩ ⟨_,f,Z⟩ PySem.F.slot_tuple_le PySem.F.entry_tuple_le (PySem.F.args_tuple_le_2 _ _) T ⟨G,f,kx,ky,d,W,X,(λx=>nomatch x),h⟩ B
def G7{s:ak}(n:Nat)(a b:KT)(A:aw)(v u:ai):a.depth<=n->ZY s.heap a v->ZY s.heap b u->a.cmp b=true->A.units+a.depth<cLine->Mr false A s v u (a.plt b):=GW false n a b A v u
def ZZ.key{k:Nat}{A:aw}(r:ZZ k A){n:Nat}(h:n<=200):A.units+n<cLine:=by have:=r.un;lia
inductive Jl(x y:V)(H:Hp)(Q:VK):Prop
 |mk(a b:_)(_:ZG H a x)(_:ZG H b y)(_:a.cmp b=true)(_:a.depth<=200)(_:Q (.bl (a.plt b)) H)
def FI{k:Nat}(i:ZZ k X.A):Ys X (ay .Lt) Jl:=by
 intro c s m H x y v u Q I j l h;let⟨a,b,d,e,f,g,q⟩:=h;exact G7 a.depth a b X.A v u (zY _) (Ml I a x v d j) (Ml I b y u e l) f (ZZ.key i g) X.prog X.w X.xe _ ⟨.bl _,H,I,Z,q⟩
end Tw
namespace L2
open PySem PySem.Spec PyProof.Rows
def ZE.big{a:ju}{b:St}{H:Hp}{s:ak}(I:ZE X a b H s):sysModules<s.heap.objs.size:=by
 let h:ao<s.heap.objs.size:=(I.mod.glob.keeps I.bk).lt;exact Nat.lt_trans (by decide) h
def Hk{P:al}{w:ar}{H:Hp}(h:aC)(a:sysModules<h.objs.size):Zf P w H (h.push { cls:=.type "dict",data:=.dict #[] }) h.objs.size (.dK []):=
 ⟨yW _,beq_eq_false_iff_ne.mpr (Ne.symm (zL a)),[],.nil,Heap.DictOf.new h⟩
def ZOQ:TE:=λ_ H Q=>∀ p,H p=none->Q (.ref p) (upd H p (.dK []))
def Jw{b:aI}:PE X (.Dict [] [] b) ZOQ:=λc s d H Q I h=>
 wpAny_Dict_empty ⟨.ref s.heap.objs.size,_,I.laid (a:=s.heap.objs.size) (o:=.dK []) (t':=s.toks) (λ_ _ q=>zT _ q) (zY _) (Hk s.heap I.big),rfl,h _ (I.hok.fresh (zY _))⟩
def cV:V->ai
 | .ty n=>.type n
 | .ref a=>.ref a
 | _=>.none
def GR:V->Bool
 | .ty _=>true
 | .ref _=>true
 | _=>false
def ZPB{c:V}{u:ai}(r:ZU c u)(h:GR c=true):u=cV c:=by
 cases c with
 | ty n=>exact r
 | ref a=>exact r
 | _=>cases h
def LQ{K:zZ}{b:aC}{v:jb}{x:Str}{C:aj}{d:jd}{a:String}(c:K.In b)(E:v x=some (.ref C))(q:vM K C d a=true):OwnCls x C d a v b:=by
 exists E;unfold vM at q;split at q
 ·rename_i B k y G
  split at q
  ·rename_i R A p r s t n u m o
   rw[zQ,zQ,zQ,zQ,zQ] at q;let⟨⟨⟨⟨⟨J,L⟩,M⟩,N⟩,i⟩,O⟩:=q;cases eq_of_beq J;cases eq_of_beq L;let e:k.hasDel=false:=by simpa using M
   let f:=eq_of_beq O;let⟨I,bs,H,w,P,F,Q,j,z,g,D⟩:=k;dsimp only at m e i f;subst m e;let h:y=#[p,r,s,t,some (.builtin a),u]:=by
    let⟨l⟩:=y;simp only at o;rw[o]
   subst h;exists A,w,I,P,bs,F,Q,j,z,g,B,p,r,s,t,u,b.nsMap w,c _ _ G;exact⟨.of_isNs (PySem.W.isNs_of_in c i),PySem.W.nsMap_none_of_in c i f,rP c N⟩
  ·cases q
 ·cases q
def OZ{P:al}{w:ar}{K:zZ}{h:jb}{d:aC}{g:Wv}{N:js}{c:Str}{a:aD}{f:aj}{e:ai}{A:aw}{b:jB}{s:ak}{H:Hp}{E:XK}:
  PassesOwn (az (VI g P w K h d N c a f e A b s H E).prog (VI g P w K h d N c a f e A b s H E).w) (VI g P w K h d N c a f e A b s H E).A (VI g P w K h d N c a f e A b s H E).env (VI g P w K h d N c a f e A b s H E).xe:=by
 show PassesOwn (az P w) (A.deeper (envOfC c a s.heap.objs.size f e)) (envOfC c a s.heap.objs.size f e) _
 passes_own
def Q6:Expr->Bool
 | .Starred _ _=>false
 | _=>true
def Wa{e:Expr}{b:jz}{a:Env}(h:Q6 e=true):aq (e::b) a=(false,aG e a)::aq b a:=by
 cases e <;> first | rfl | cases h
def UG{X:Cx}{e:Expr}{a:jz}{b:TE}{t:TA}(c:PE X e b)(d:PA X a t)(h:Q6 e=true:=by rfl):PA X (e::a) (XV b t):=Zh c d (Wa h)
def ZX{X:Cx}{e:Expr}{a:TE}(b:PE X e a)(h:Q6 e=true:=by rfl):PA X [e] (XV a Vp):=Zh b Zt (Wa h)
def Zd{X:Cx}{e d:Expr}{b a:TE}(f:PE X e b)(g:PE X d a)(h:Q6 e=true:=by rfl)(c:Q6 d=true:=by rfl):PA X [e,d] (XV b (XV a Vp)):=Zh f (ZX g c) (Wa h)
def NC{X:Cx}{a b c:Expr}{d e f:TE}(g:PE X a d)(i:PE X b e)(j:PE X c f)(h:[a,b,c].all Q6=true:=by rfl):PA X [a,b,c] (XV d (XV e (XV f Vp))):=
 (Zh g (Zh i (Zh j Zt (Wa (zF.mp h c (by simp)))) (Wa (zF.mp h b (by simp)))) (Wa (zF.mp h a (by simp))))
def Pm{X:Cx}{a b c d:Expr}{e f g i:TE}(j:PE X a e)(k:PE X b f)(l:PE X c g)(m:PE X d i)(h:[a,b,c,d].all Q6=true:=by rfl):PA X [a,b,c,d] (XV e (XV f (XV g (XV i Vp)))):=
 (Zh j (Zh k (Zh l (Zh m Zt (Wa (zF.mp h d (by simp)))) (Wa (zF.mp h c (by simp)))) (Wa (zF.mp h b (by simp)))) (Wa (zF.mp h a (by simp))))
def pa5{X:Cx}{a b c d e:Expr}{f g i j k:TE}(l:PE X a f)(m:PE X b g)(n:PE X c i)(o:PE X d j)(p:PE X e k)(h:[a,b,c,d,e].all Q6=true:=by rfl):PA X [a,b,c,d,e] (XV f (XV g (XV i (XV j (XV k Vp))))):=
 (Zh l (Zh m (Zh n (Zh o (Zh p Zt (Wa (zF.mp h e (by simp)))) (Wa (zF.mp h d (by simp)))) (Wa (zF.mp h c (by simp)))) (Wa (zF.mp h b (by simp)))) (Wa (zF.mp h a (by simp))))
def AO{X:Cx}{a b c d e f:Expr}{g i j k l m:TE}(n:PE X a g)(o:PE X b i)(p:PE X c j)(q:PE X d k)(r:PE X e l)(s:PE X f m)(h:[a,b,c,d,e,f].all Q6=true:=by rfl):PA X [a,b,c,d,e,f] (XV g (XV i (XV j (XV k (XV l (XV m Vp)))))):=
 (Zh n (Zh o (Zh p (Zh q (Zh r (Zh s Zt (Wa (zF.mp h f (by simp)))) (Wa (zF.mp h e (by simp)))) (Wa (zF.mp h d (by simp)))) (Wa (zF.mp h c (by simp)))) (Wa (zF.mp h b (by simp)))) (Wa (zF.mp h a (by simp))))
end L2
namespace Tw
open PySem PySem.Spec L2
def Au(N:aj->Prop)(H:Hp)(n:String)(v:V):Prop:=
 (n = "bool" /\ ∃ b,v=.bl b)\/(n = "NoneType" /\ v=.non)\/(n = "list" /\ ∃ a d,v=.ref a/\H a=some (.lst d)/\¬ N a)\/(n = "dict" /\ ∃ a c,v=.ref a/\H a=some (.dK c)/\¬ N a)
mutual
def Yt(N:aj->Prop)(H:Hp):TG->V->Prop
 | .int i,v=>v=.int i
 | .str x,v=>v=.str x
 | .tup l,v=>∃ a vs,v=.ref a/\H a=some (.tup vs)/\jY N H l vs
 | .odd n,v=>Au N H n v
def jY(N:aj->Prop)(H:Hp):List TG->je->Prop
 | [],vs=>vs=[]
 | t::l,vs=>∃ v r,vs=v::r/\Yt N H t v/\jY N H l r
end
structure Pp(N:aj->Prop)(H H':Hp):Prop where
 tup:YR H H'
 rest:∀ b o,H b=some o->¬ N b->H' b=some o
mutual
def Yt.mono{N:aj->Prop}{H H':Hp}(m:Pp N H H'):∀(t:TG)(v:V),Yt N H t v->Yt N H' t v
 | .int _,_,h=>by rw[Yt] at h⊢;exact h
 | .str _,_,h=>by rw[Yt] at h⊢;exact h
 | .tup l,_,h=>by
  rw[Yt] at h⊢;let⟨a,vs,e,h1,h2⟩:=h;exact⟨a,vs,e,m.tup a vs h1,jY.mono m l vs h2⟩
 | .odd n,_,h=>by
  rw[Yt] at h⊢;rcases h with h | h | ⟨e,a,xs,e1,e2,e3⟩ | ⟨e,a,xs,e1,e2,e3⟩
  ·exact .inl h
  ·exact .inr (.inl h)
  ·exact .inr (.inr (.inl ⟨e,a,xs,e1,m.rest _ _ e2 e3,e3⟩))
  ·exact .inr (.inr (.inr ⟨e,a,xs,e1,m.rest _ _ e2 e3,e3⟩))
def jY.mono{N:aj->Prop}{H H':Hp}(m:Pp N H H'):∀(l:List TG)(vs:je),jY N H l vs->jY N H' l vs
 | [],_,h=>by rw[jY] at h⊢;exact h
 | t::l,_,h=>by
  rw[jY] at h⊢;let⟨v,r,e,h1,h2⟩:=h;exact⟨v,r,e,Yt.mono m t v h1,jY.mono m l r h2⟩
end
mutual
def Yt.less{N N':aj->Prop}{H:Hp}(m:∀ b,N' b->N b):∀(t:TG)(v:V),Yt N H t v->Yt N' H t v
 | .int _,_,h=>by rw[Yt] at h⊢;exact h
 | .str _,_,h=>by rw[Yt] at h⊢;exact h
 | .tup l,_,h=>by
  rw[Yt] at h⊢;let⟨a,vs,e,h1,h2⟩:=h;exact⟨a,vs,e,h1,jY.less m l vs h2⟩
 | .odd n,_,h=>by
  rw[Yt] at h⊢;rcases h with h | h | ⟨e,a,xs,e1,e2,e3⟩ | ⟨e,a,xs,e1,e2,e3⟩
  ·exact .inl h
  ·exact .inr (.inl h)
  ·exact .inr (.inr (.inl ⟨e,a,xs,e1,e2,λz=>e3 (m a z)⟩))
  ·exact .inr (.inr (.inr ⟨e,a,xs,e1,e2,λz=>e3 (m a z)⟩))
def jY.less{N N':aj->Prop}{H:Hp}(m:∀ b,N' b->N b):∀(l:List TG)(vs:je),jY N H l vs->jY N' H l vs
 | [],_,h=>by rw[jY] at h⊢;exact h
 | t::l,_,h=>by
  rw[jY] at h⊢;let⟨v,r,e,h1,h2⟩:=h;exact⟨v,r,e,Yt.less m t v h1,jY.less m l r h2⟩
end
end Tw
namespace L2
open PySem PySem.Spec PyProof.Rows
abbrev Yz(a:aj)(o:aH):HO:=.ext λh=>h.get? a=some o
def Mb{P:al}{w:ar}{H:Hp}{h:aC}{a:aj}{o:aH}(e:h.get? a=some o):Zf P w H h a (Yz a o):=⟨e,⟨o,e⟩,λ_ _ b k=>k o b⟩
def YV.obj{P:al}{w:ar}{H:Hp}{h:aC}{a:aj}{o:aH}(x:YV P w H h)(e:H a=some (Yz a o)):h.get? a=some o:=(x a _ e).1
def unT(a:jv)(H:Hp):Hp:=λb=>if b∈a then none else H b
def reT(c:jv)(H a:Hp):Hp:=λb=>if b∈c then H b else a b
def QZ{a:jv}{H:Hp}{b:aj}(h:b∈a):unT a H b=none:=aO h
def Vq{a:jv}{H:Hp}{b:aj}(h:b∉a):unT a H b=H b:=aM h
def N8{a:jv}{H c:Hp}{b:aj}(h:b∈a):reT a H c b=H b:=aO h
def UB{c:jv}{H a:Hp}{b:aj}(h:b∉c):reT c H a b=a b:=aM h
def M6{a:jv}{H:Hp}{b:aj}{o:HO}(e:unT a H b=some o):b∉a/\H b=some o:=by
 by_cases h:b∈a
 ·rw[QZ h] at e;cases e
 ·rw[Vq h] at e;exact⟨h,e⟩
def Oq{a:jv}{H:Hp}{b:aj}(e:H b=none):unT a H b=none:=by
 by_cases h:b∈a
 ·exact QZ h
 ·rw[Vq h];exact e
section
variable{H H2:Hp}{h h':aC}{cs fs ex:jv}
def YV.unT(d:YV P w H h)(f:∀ c∈cs,∃ o,H c=some (Yz c o)):YV P w (L2.unT cs H) h:=λa o e=>by
 let⟨n,e⟩:=M6 e;refine(d a o e).stay (λ_ _ _ q=>q) (λc q=>?_) λc i q=>?_
 ·rw[Vq λz=>?_];exact q;let⟨g,b⟩:=f c z;rw[q] at b;cases b
 ·rw[Vq λz=>?_];exact q;let⟨g,b⟩:=f c z;rw[q] at b;cases b
def YV.reT(d:YV P w H2 h)(f:∀ c∈cs,H2 c=none)(j:∀ c∈cs,∃ o,H c=some (Yz c o)/\h.get? c=some o):YV P w (L2.reT cs H H2) h:=λa o e=>by
 by_cases b:a∈cs
 ·rw[N8 b] at e;let⟨k,g,i⟩:=j a b;rw[g] at e;cases e;exact Mb i
 ·rw[UB b] at e;refine(d a o e).stay (λ_ _ _ q=>q) (λc q=>?_) λc l q=>?_
  ·rw[UB λz=>?_];exact q;rw[f c z] at q;cases q
  ·rw[UB λz=>?_];exact q;rw[f c z] at q;cases q
def ZND{g:Hp}(u:Un fs ex H g h h')(i:YV P w H h)(e:YV P w g h')(m:∀ c∈cs,∃ o,H c=some (Yz c o)/\g c=some (Yz c o)):Un fs ex (unT cs H) (unT cs g) h h':=by
 let a:∀ b∈cs,∀ o,h.get? b=some o->h'.get? b=some o:=λb d o q=>by
  let⟨s,k,l⟩:=m b d;let j:=i.obj k;rw[q] at j;cases j;exact e.obj l
 refine⟨λb o q n d f=>?_,λb o q n d f=>?_,λb o q n f=>?_,u.there,λb r q=>?_,λb o v q=>?_,λb p q=>?_⟩
 ·by_cases z:b∈cs
  ·exact a b z o q
  ·rw[Vq z] at n;exact u.keep b o q n d f
 ·by_cases z:b∈cs
  ·exact⟨o.slots,a b z o q⟩
  ·rw[Vq z] at n;exact u.slot b o q n d f
 ·by_cases z:b∈cs
  ·exact QZ z
  ·rw[Vq z] at n⊢;exact u.free b o q n f
 ·let⟨z,q⟩:=M6 q;rw[Vq z];exact u.tups b r q
 ·let⟨z,q⟩:=M6 q;rw[Vq z];exact u.frzs b o v q
 ·let⟨z,q⟩:=M6 q;rw[Vq z];exact u.tbls b p q
def G1(u:Un fs ex (unT cs H) H2 h h')(d:∀ c∈cs,∃ o,H c=some (Yz c o)):Un fs ex H (reT cs H H2) h h':=by
 let g:∀{b},H b=none->b∉cs:=fun{b} n z=>by
  let⟨o,e⟩:=d b z;rw[n] at e;cases e
 refine⟨λb o q n f a=>u.keep b o q (Oq n) f a,λb o q n f a=>u.slot b o q (Oq n) f a,λb o q n a=>?_,u.there,λb k q=>?_,λb o v q=>?_,λb j q=>?_⟩
 ·rw[UB (g n)];exact u.free b o q (Oq n) a
 ·let z:b∉cs:=λz=>by
   let⟨i,e⟩:=d b z;rw[q] at e;cases e
  rw[UB z];exact u.tups b k (by rw[Vq z];exact q)
 ·let z:b∉cs:=λz=>by
   let⟨i,e⟩:=d b z;rw[q] at e;cases e
  rw[UB z];exact u.frzs b o v (by rw[Vq z];exact q)
 ·let z:b∉cs:=λz=>by
   let⟨i,e⟩:=d b z;rw[q] at e;cases e
  rw[UB z];exact u.tbls b j (by rw[Vq z];exact q)
end
structure VB(H:Hp)(cl:jE)(N:js)(ws:je):Prop where
 len:ws.length=N.length
 val:∀(i:Nat)(x:Str)(v:V),N[i]? = some x->ws[i]? = some v->∃ c o u,cl.lookup x=some c/\c∈cl.map (·.2)/\H c=some (Yz c o)/\o.data=.cell (some u)/\ZU v u
 all:∀ c∈cl.map (·.2),∃ o v,H c=some (Yz c o)/\o.data=.cell v
inductive WI(o:aH)(q:Str):Prop
 |mk(a t:_)(_:o.data=.fields a)(_:a[1]? = some (.str q t))
def Cb(H:Hp)(q:Str)(e:jA):Prop:=TriplesOk e.toList/\∀ b d,PySem.codeAmong b e.toList=some d->∃ a c,d=.ref a/\H a=some (Yz a c)/\WI c q
inductive ZT(H:Hp)(P:aj)(q:Str):Prop
 |mk(a:_)(_:H P=some (.tbl a))(_:Cb H q a)
def FO{a b:Int}{t u:Tok}{c:ai}:∀(l:jd),TriplesOk l->TriplesOk (l++[.int a t,.int b u,c])
 | [],_=>trivial
 | .int _ _::.int _ _::_::r,h=>FO r h
def HD{e:aI}{a b:Int}{t u:Tok}{c f:ai}:∀(l:jd),TriplesOk l->PySem.codeAmong e (l++[.int a t,.int b u,c])=some f->PySem.codeAmong e l=some f\/f=c
 | [],_,h=>by
  unfold PySem.codeAmong at h;simp only[List.nil_append] at h;split at h
  ·cases h;exact .inr Z
  ·simp[PySem.codeAmong] at h
 | .int i _::.int j _::d::r,hT,h=>by
  simp only[uQ] at h;unfold PySem.codeAmong at h⊢;split at h
  ·rename_i q
   rw[aO q];exact .inl h
  ·rename_i q
   rw[aM q];exact HD r hT h
def K3(P:aj)(c:Arguments)(g:Expr)(d:aD)(a:Str)(k:jE):TE:=λ_ H Q=>
 ZT H P a/\∀(e:Hp)(f h:aj)(j:aH)(l i:ai),WI j a->e f=some (Yz f (wT "<lambda>" a c g d k l h i))->e h=some (Yz h j) ->
  (∀ b o,b≠P->H b=some o->e b=some o)->ZT e P a->(∀ b,b=f\/b=h\/b=P\/e b=H b)->Q (.ref f) e
def FY{X:Cx}{P c:aj}{f:Arguments}{l:Expr}{g:aD}{cl:jE}{j:aI}(y:X.env.code=.ref c)(C:xY X.base c P)(hb:X.base.BuiltinsAt X.mg P)(S:defaultsOf f X.env=([],[]))(R:closureFor g X.env=pure cl):PE X (.Lambda f l g j) (K3 P f l g (X.env.qual ++ "<lambda>") cl):=by
 intro a8 s σ H Q I h;let⟨⟨B,v,N,hA⟩,h⟩:=h;let gP:s.heap.get? P=some (wL B):=I.hok P _ v;let nb:∀{b o},X.base.get? b=some o->b≠P:=fun{b o} e z=>by
  have:=(I.bs b o e).2;rw[z,v] at this;cases this
 let a3:ao≠P:=by
  let⟨o,es,ep,e,_⟩:=I.mod.glob;exact nb e
 let hg:s.heap.Ns ao X.mg:=I.mod.glob.keeps I.bk;let O:s.heap.BuiltinsAt X.mg P:=by
  let⟨bm,o,b1,b2,b3,b4,b5,r⟩:=hb;exact⟨bm,o,b1,b2,b3,b4,I.bk _ _ b5,r⟩
 refine PySem.W.kla_eval S ?_
 cases hf:PySem.codeAmong j B.toList with
 | none=>
  refine PySem.W.kla_makeFunction R I.ok.glob hg y (C.keeps I.bk) gP N hf a3 O λk m i tk hx F T U a6=>?_;let⟨a7,D,vs,t,L,a4,hd,hv⟩:=U;cases L;let kp:∀ b o,b≠P->s.heap.get? b=some o->(i.push (wT "<lambda>" (X.env.qual ++ "<lambda>") f l g cl ((X.mg "__name__").getD .none) k m)).get? b=some o:=λb o n e=>zT _ (hx b o n e);let sz:s.heap.objs.size<=i.objs.size:=xX (xJ F T);let nc:H k=none:=I.hok.fresh F;let Y:H i.objs.size=none:=I.hok.fresh sz;let cP:k≠P:=λz=>by rw[z,v] at nc;cases nc
  let fP:i.objs.size≠P:=λz=>by rw[z,v] at Y;cases Y
  let fc:i.objs.size≠k:=xH T
  let' ps':Array Value:=B++#[rawInt j.line,rawInt j.col,.ref k]
  let' fo:Obj:=wT "<lambda>" (X.env.qual ++ "<lambda>") f l g cl ((X.mg "__name__").getD .none) k m
  let' H1:Hp:=upd (upd (upd H P (.tbl ps')) k (Yz k D)) i.objs.size (Yz i.objs.size fo)
  let e1:H1 i.objs.size=some (Yz i.objs.size fo):=ZP;let L:H1 k=some (Yz k D):=by show upd _ _ _ _=_;rw[ZO fc.symm];exact ZP
  let e3:H1 P=some (.tbl ps'):=by show upd _ _ _ _=_;rw[ZO fP.symm,ZO cP.symm];exact ZP
  let e4:∀ b,b≠P->b≠k->b≠i.objs.size->H1 b=H b:=λb n1 n2 n3=>by show upd _ _ _ _=_;rw[ZO n3,ZO n2,ZO n1]
  let x:∀ b o,b≠P->H b=some o->H1 b=some o:=λb o n e=>by
   rw[e4 b n (ZW e nc) (ZW e Y)];exact e
  let gc:(i.push fo).get? k=some D:=zT _ a4;let gf:(i.push fo).get? i.objs.size=some fo:=yU _ Z;let M:(i.push fo).get? P=some (wL ps'):=zT _ a6;let a5:YV X.prog X.w H1 (i.push fo):=λb u e=>by
   by_cases z1:b=i.objs.size
   ·subst z1;rw[e1] at e;cases e;exact Mb gf
   by_cases z2:b=k
   ·subst z2;rw[L] at e;cases e;exact Mb gc
   by_cases K:b=P
   ·subst K;rw[e3] at e;cases e;exact M
   rw[e4 b K z2 z1] at e;refine(I.hok b u e).stay (λa ob A q=>kp a ob ?_ q) (λa q=>x a _ ?_ q) λa xs q=>x a _ ?_ q
   ·rcases A with rfl | A
    ·exact K
    ·intro z;rw[z,v] at A;cases A
   ·intro z;rw[z,v] at q;cases q
   ·intro z;rw[z,v] at q;cases q
  let un:Un X.fs [] H H1 s.heap (i.push fo):=by
   let G:∀ b,H b=none->b≠P:=λb n z=>by rw[z,v] at n;cases n
   refine⟨λb o q n _ _=>kp b o (G b n) q,λb o q n _ _=>⟨o.slots,kp b o (G b n) q⟩,λb o q n _=>?_,λb o q _=>?_,λb xs q=>x b _ ?_ q,λb o u q=>x b _ ?_ q,λb qs q=>?_⟩
   ·rw[e4 b (G b n) (zL (yL (zW q) F)) (zL (yL (zW q) sz))];exact n
   ·by_cases z:b=P
    ·exact⟨_,by rw[z];exact M⟩
    ·exact⟨o,kp b o z q⟩
   ·intro z;rw[z,v] at q;cases q
   ·intro z;rw[z,v] at q;cases q
   ·by_cases z:b=P
    ·subst z;rw[v] at q;cases q;exact⟨_,e3⟩
    ·exact⟨#[],by rw[x b _ z q];simp⟩
  refine⟨.ref i.objs.size,H1,I.un (t':=tk) un a5,Z,h H1 i.objs.size k D _ m ⟨vs,t,hd,hv⟩ e1 L x ⟨ps',e3,?_,λp J A=>?_⟩ λb=>?_⟩
  ·show TriplesOk (B++#[rawInt j.line,rawInt j.col,.ref k]).toList;rw[sQ];exact FO _ N
  ·let a0:PySem.codeAmong p (B.toList++[rawInt j.line,rawInt j.col,.ref k])=some J:=by
    have:ps'.toList=B.toList++[rawInt j.line,rawInt j.col,.ref k]:=by show (B++#[rawInt j.line,rawInt j.col,.ref k]).toList=_;rw[sQ]
    rw[<-this];exact A
   rcases HD _ N a0 with z | z
   ·let⟨d,E,y1,y2,y3⟩:=hA p J z;exact⟨d,E,y1,x _ _ (λz=>by rw[z,v] at y2;cases y2) y2,y3⟩
   ·exact⟨k,D,z,L,vs,t,hd,hv⟩
  ·by_cases z1:b=i.objs.size
   ·exact .inl z1
   by_cases z2:b=k
   ·exact .inr (.inl z2)
   by_cases K:b=P
   ·exact .inr (.inr (.inl K))
   exact .inr (.inr (.inr (e4 b K z2 z1)))
 | some J=>
  let⟨k,D,rfl,a1,a2⟩:=hA j J hf;refine PySem.W.kla_makeFunctionHit R I.ok.glob hg y (C.keeps I.bk) gP N hf O λm i tk hk V=>?_;let Y:H i.objs.size=none:=I.hok.fresh V;let x:∀ b o,H b=some o->upd H i.objs.size (Yz i.objs.size (wT "<lambda>" (X.env.qual ++ "<lambda>") f l g cl ((X.mg "__name__").getD .none) k m)) b=some o:=λb o e=>by rw[ZO (ZW e Y)];exact e
  refine⟨.ref i.objs.size,_,I.laid (t':=tk) (a:=i.objs.size) (o:=Yz i.objs.size (wT "<lambda>" (X.env.qual ++ "<lambda>") f l g cl ((X.mg "__name__").getD .none) k m)) (λb o e=>zT _ (hk b o e)) V (Mb (yU _ rfl)),Z,
   h _ i.objs.size k D _ m a2 ZP (x _ _ a1) (λb o _ e=>x b o e) ⟨B,x _ _ v,N,λp J A=>?_⟩ λb=>?_⟩
  ·let⟨d,E,y1,y2,y3⟩:=hA p J A;exact⟨d,E,y1,x _ _ y2,y3⟩
  ·by_cases z:b=i.objs.size
   ·exact .inl z
   ·exact .inr (.inr (.inr (ZO z)))
inductive Pc(k:Sp)(d:jE)(N h:js)(m:L2.St)(Q:VK)(l:je)(e:Hp):Prop
 |mk(f:je)(_:f.length=N.length)(_:∀(i:Nat)(x:Str)(v:V),N[i]? = some x->f[i]? = some v->∃ j:Nat,h[j]? = some x/\m[j]? = some (some v))(_:∀ a:Hp,unT (d.map (·.2)) a=e->(∀ b,b∉d.map (·.2)->a b=e b)->(∀ b o,e b=some o->a b=some o)->VB a d N f->k l a (λv g=>(∀ c∈d.map (·.2),g c=a c)/\Q v (unT (d.map (·.2)) g)) E0)
def J9(e:Sp)(d:jE)(N c:js)(t:TA):TE:=λa H Q=>t a H λf b=>Pc e d N c a Q f b
def F0{X:Cx}{k:Nat}{f:aj}{fd:am}{ps:js}{sp:Sp}{x:Str}{p L:aI}{e:Expr}{P:jz}{t:TA}{cl:jE}{N:js}(F:ZK X.prog X.w X.K X.mg X.base Zc k f fd ps sp)(hr:ZZ k X.A)(hg:Gl X x)(hm:X.mg x=some (.ref f))(hk:yT X.K (.ref f)=true)(D:Z5 X.K fd ps [])(ha:PA X (e::P) t)(R:∀ y c,cl.lookup y=some c->X.env.cells.lookup y=some c)(U:∀ c∈cl.map (·.2),∃ y,cl.lookup y=some c)(hN:∀ y∈N,X.env.scope.names.lookup y=some .cell/\∃ c,cl.lookup y=some c)(a5:∀ y,X.fn y=true)(a4:(x==("__debug__" : Str))=false:=by decide)(he:aq (e::P) X.env=(false,aG e X.env)::aq P X.env:=by rfl)(a8:(aE L (aq P X.env)).any (·.1)=false:=by rfl):
  PE X (.Call (.Name x p) (e::P) [] L) (J9 sp cl N X.N t):=by
 intro a0 s σ H Q I h;refine ag (PJ I hg hm ?_ a4);refine vS (h₀:=X.base) I.ok.mod.kin hk (YH (ha L a0 s σ H _ I h) λus M vs E C r q=>⟨C.kIn,?_⟩) he a8;let⟨ws,hl,hw,q⟩:=q
 let' cs := cl.map (·.2)
 let' Hv:Hp:=λb=>(M.heap.get? b).map (Yz b)
 let l:∀ c∈cs,∃ y o v,cl.lookup y=some c/\X.env.cells.lookup y=some c/\M.heap.get? c=some o/\o.data=.cell v/\Hv c=some (Yz c o)/\E c=none:=λc B=>by
  let⟨y,e⟩:=U c B;let J:=R y c e;let⟨v,o,g,d⟩:=C.cell y c J;exact⟨y,o,v,e,J,g,d,by show Option.map _ _=_;rw[g];rfl,C.freeC y c J⟩
 let V:YV X.prog X.w (reT cs Hv E) M.heap:=C.hok.reT (λc B=>by
  let⟨y,o,v,_,_,g,d,a,n⟩:=l c B;exact n) λc B=>by
  let⟨y,o,v,_,_,g,d,a,n⟩:=l c B;exact⟨o,a,g⟩
 let hi:∀ c∈cs,X.s₀.heap.objs.size<=c:=λc B=>by
  let⟨y,o,v,_,J,_⟩:=l c B;exact C.ok.cab y c (a5 y) J
 let e0:Wf X.prog X.w X.K X.mg X.base X.A X.stack M (reT cs Hv E):=by
  let z:=C.env0;refine⟨z.frames,z.mod,λb o e=>⟨(z.bs b o e).1,?_⟩,z.bsz,z.funs,λb D=>?_,V,z.bare⟩
  ·rw[UB λw=>?_];exact(z.bs b o e).2;exact absurd (zW e) (wE.mpr (zE C.ok.bsz (hi b w)))
  ·rw[UB λw=>?_];exact z.frf b D;rcases zB.mp (C.stkSub b D) with y | y
   ·let⟨y',o,v,_,J,_⟩:=l b w;exact C.cne y' b J y
   ·let⟨_,o',g,_⟩:=C.ok.funs.mem y;exact absurd (zW g) (wE.mpr (hi b w))
 let eU:unT cs (reT cs Hv E)=E:=by
  funext b
  by_cases D:b∈cs
  ·rw[QZ D];let⟨y,o,v,_,_,g,d,a,n⟩:=l b D;exact n.symm
  ·rw[Vq D,UB D]
 let CA:VB (reT cs Hv E) cl N ws:=⟨hl,λi y v h1 h2=>by
  let⟨j,hj,a9⟩:=hw i y v h1 h2;let⟨kc,c,ec⟩:=hN y (zC h1);let⟨m,_,a7⟩:=C.loc;let⟨u,ru,lk⟩:=a7 j y v hj a9 (.inr (.inl kc));let a3:=R y c ec;let S:c∈cs:=by
   obtain⟨p,hp,e⟩:∃ p∈cl,p.2=c:=⟨(y,c),PySem.mem_of_lookup ec,Z⟩;exact zJ.mpr ⟨p,hp,e⟩
  rcases lk with ⟨kl,_⟩ | ⟨_,c2,e2,o,g,d⟩
  ·have:X.env.scope.names.lookup y=some .local:=kl;rw[kc] at this;cases this
  ·rw[a3] at e2;cases e2;exact⟨c,o,u,ec,S,by rw[N8 S];show Option.map _ _=_;rw[g];rfl,d,ru⟩,λc B=>by
  let⟨y,o,v,_,_,g,d,a,n⟩:=l c B;exact⟨o,v,by rw[N8 B];exact a,d⟩⟩
 let q2:=q (reT cs Hv E) eU (λb D=>UB D) (λb o e=>by
  rw[UB λw=>?_];exact e;let⟨y,o',v,_,_,g,d,a,n⟩:=l b w;rw[n] at e;cases e) CA
 let r2:ZQ (vs++[]) (us++[]):=r.append .nil;let a6:(us++[]).length=ps.length:=by rw[<-r2.length,vZ];exact F.len _ _ _ _ q2
 refine wpAny_call (codeAny_mono (F.run X.A X.stack M (reT cs Hv E) ⟨us,[]⟩ (us++[]) vs _ E0 hr e0 (D M us C.kIn a6) (by rw[vZ];exact r) q2) λrr s' Y=>?_)
 cases rr with
 | error ev=>exact Y.elim
 | ok fl=>
  cases fl with
  | ret u=>
   let⟨v,H2,os,O,un,G,rv,a1,q3⟩:=Y;let T:∀ c∈cs,∃ o,reT cs Hv E c=some (Yz c o)/\H2 c=some (Yz c o):=λc B=>by
    let⟨y,o,v,_,_,g,d,a,n⟩:=l c B;let z:reT cs Hv E c=some (Yz c o):=by rw[N8 B];exact a
    exact⟨o,z,by rw[a1 c B];exact z⟩
   let a2:=ZND un V G T;rw[eU] at a2;exact C.after ⟨v,unT cs H2,os,O,a2,G.unT (λc B=>by
    let⟨o,_,z⟩:=T c B;exact⟨o,z⟩),rv,q3⟩
  | next=>exact False.elim Y
  | brk=>exact False.elim Y
  | cont=>exact False.elim Y
section
variable{κ:Type}[DecidableEq κ]
def YI(a:List (κ×V))(k:κ):jf:=(a.find? λb=>decide (b.1=k)).map (·.2)
def Zs(a:List (κ×V))(k:κ)(v:V):List (κ×V):=
 if (a.any λb=>decide (b.1=k))=true then a.map (λb=>if b.1=k then (b.1,v) else b) else a++[(k,v)]
def Ut{p:κ×V}{r:List (κ×V)}{k:κ}(e:p.1=k):YI (p::r) k=some p.2:=by simp[YI,xA,e]
def U0{p:κ×V}{r:List (κ×V)}{k:κ}(e:¬ p.1=k):YI (p::r) k=YI r k:=by simp[YI,xA,e]
def O1(k:κ):∀ a:List (κ×V),(a.any λb=>decide (b.1=k))=(YI a k).isSome
 | []=>rfl
 | p::r=>by
  rw[wA];by_cases e:p.1=k
  ·simp only[Ut e,aK e,Bool.true_or,Option.isSome_some]
  ·rw[U0 e,aJ e,Bool.false_or];exact O1 k r
def Iy(k j:κ)(y:V):∀ a:List (κ×V),YI (a.map λb=>if b.1=k then (b.1,y) else b) j=(YI a j).map λx=>if j=k then y else x
 | []=>rfl
 | p::r=>by
  let c:=Iy k j y r;rw[yI];by_cases h:p.1=k
  ·rw[aO h];by_cases e:p.1=j
   ·rw[Ut (p:=(p.1,y)) e,Ut e,uR,aO (e.symm.trans h)]
   ·rw[U0 (p:=(p.1,y)) e,U0 e,c]
  ·rw[aM h];by_cases e:p.1=j
   ·rw[Ut (p:=p) e,Ut e,uR,aM (λz=>h (e.trans z))]
   ·rw[U0 (p:=p) e,U0 e,c]
def Fa(k j:κ)(y:V):∀ a:List (κ×V),YI a k=none->YI (a++[(k,y)]) j=if j=k then some y else YI a j
 | [],_=>by
  by_cases e:k=j
  ·rw[aO e.symm];exact Ut (p:=(k,y)) e
  ·rw[aM (λz=>e z.symm)];exact U0 (p:=(k,y)) e
 | p::r,hn=>by
  rw[uQ];let b:¬ p.1=k:=λz=>by rw[Ut z] at hn;cases hn
  rw[U0 b] at hn;let c:=Fa k j y r hn;by_cases e:p.1=j
  ·rw[Ut e,Ut e,aM (λz=>b (e.trans z))]
  ·rw[U0 e,U0 e,c]
def Uq(b:List (κ×V))(k j:κ)(y:V):YI (Zs b k y) j=if j=k then some y else YI b j:=by
 unfold Zs;by_cases a:(b.any λd=>decide (d.1=k))=true
 ·rw[aO a,Iy];rw[O1] at a;by_cases e:j=k
  ·let⟨x,c⟩:=sB.mp a;rw[aO e,e,c,uR,aO rfl]
  ·rw[aM e]
   cases YI b j with
   | none=>rfl
   | some x=>rw[uR,aM e]
 ·rw[aM a];refine Fa k j y b ?_;rw[O1] at a
  cases q:YI b k with
  | none=>rfl
  | some x=>rw[q] at a;exact(a Z).elim
def KB(a:List (κ×V))(k:κ)(v:V):(Zs a k v).length<=a.length+1:=by
 unfold Zs;split
 ·rw[zX];lia
 ·rw[yV,zA,tN];lia
def J0{a:List (κ×V)}{k:κ}(v:V)(h:YI a k=none):Zs a k v=a++[(k,v)]:=by
 unfold Zs;rw[O1,h];exact aM (by decide)
def Yh.isSome_eq{o:jf}{u:jc}(r:Yh o u):o.isSome=u.isSome:=by
 cases o with
 | none=>cases u with
  | none=>rfl
  | some _=>exact(show False from r).elim
 | some _=>cases u with
  | none=>exact(show False from r).elim
  | some _=>rfl
def Yh.getD{o:jf}{u:jc}{d:V}{a:ai}(r:Yh o u)(rd:ZU d a):ZU (o.getD d) (u.getD a):=by
 cases o with
 | none=>cases u with
  | none=>exact rd
  | some _=>exact(show False from r).elim
 | some _=>cases u with
  | none=>exact(show False from r).elim
  | some _=>exact r
def KV.val{a:List (κ×V)}{g:List (κ×ai)}(r:KV a g)(k:κ):Yh (YI a k) (valueAt g k):=by
 unfold KV at r
 induction r with
 | nil=>exact True.intro
 | @cons p q l d h t j=>
  let⟨f,i⟩:=h;by_cases e:p.1=k
  ·let c:q.1=k:=f.symm.trans e;let b:valueAt (q::d) k=some q.2:=by simp[valueAt,xA,c]
   rw[Ut e,b];exact i
  ·let c:¬ q.1=k:=λz=>e (f.trans z);let b:valueAt (q::d) k=valueAt d k:=by simp[valueAt,xA,c]
   rw[U0 e,b];exact j
def KV.any{a:List (κ×V)}{c:List (κ×ai)}(r:KV a c)(k:κ):(a.any λb=>decide (b.1=k))=c.any λb=>decide (b.1=k):=by
 unfold KV at r
 induction r with
 | nil=>rfl
 | cons h t d=>rw[wA,wA,d,h.1]
def KV.repl{b:List (κ×V)}{d:List (κ×ai)}(r:KV b d)(k:κ){y:V}{u:ai}(i:ZU y u):
  KV (b.map λa=>if a.1=k then (a.1,y) else a) (d.map λa=>if a.1=k then (a.1,u) else a):=by
 unfold KV at r⊢
 induction r with
 | nil=>exact .nil
 | @cons p q j l h t g=>
  rw[yI,yI];refine .cons ?_ g;let⟨c,f⟩:=h;by_cases e:p.1=k
  ·rw[aO e,aO (c.symm.trans e)];exact⟨c,i⟩
  ·rw[aM e,aM (λz=>e (c.trans z))];exact⟨c,f⟩
def KV.put{a:List (κ×V)}{b:List (κ×ai)}(r:KV a b)(k:κ){y:V}{u:ai}(c:ZU y u):KV (Zs a k y) (stored b k u):=by
 unfold Zs stored;rw[r.any k];by_cases e:(b.any λd=>decide (d.1=k))=true
 ·rw[aO e,aO e];exact r.repl k c
 ·rw[aM e,aM e];exact Paired.snoc r ⟨Z,c⟩
def KV.keys{a:List (κ×V)}{b:List (κ×ai)}(r:KV a b):a.map (·.1)=b.map (·.1):=by
 unfold KV at r
 induction r with
 | nil=>rfl
 | cons h t c=>rw[yI,yI,c,h.1]
def KV.length{a:List (κ×V)}{b:List (κ×ai)}(r:KV a b):a.length=b.length:=Paired.length r
end
def NP{P:al}{w:ar}{k:ZR}{u:ai}(r:ZU (kV k) u):(Wj P w).is k u=true:=by
 cases k with
 | inl i=>let⟨t,e⟩:=(show ∃ t,u=Value.int i t from r);subst e;exact D7 P w i t
 | inr x=>let⟨t,e⟩:=(show ∃ t,u=Value.str x t from r);subst e;exact ZGm P w x t
def Im{P:al}{w:ar}:∀{a:jF}{b:jd},ZQ (a.map kV) b->ItemsAre (Wj P w) a b
 | [],_,r=>by rw[wC] at r;cases r;exact .nil
 | k::a,_,r=>by
  rw[yI] at r
  cases r with
  | cons h t=>exact .cons (NP h) (Im t)
abbrev KT(H:Hp):List (jF×V)->List (jF×aj×ai)->Prop:=Paired λp q=>p.1=q.1/\H q.2.1=some (.tup (p.1.map kV))/\ZU p.2 q.2.2
def KT.val{H:Hp}{a:List (jF×V)}{g:List (jF×aj×ai)}(r:KT H a g)(k:jF):Yh (YI a k) ((atKey g k).map (·.2)):=by
 induction r with
 | nil=>exact True.intro
 | @cons p q l d h t j=>
  let⟨f,_,i⟩:=h;by_cases e:p.1=k
  ·let c:q.1=k:=f.symm.trans e;let b:atKey (q::d) k=some q.2:=by simp[atKey,xA,c]
   rw[Ut e,b];exact i
  ·let c:¬ q.1=k:=λz=>e (f.trans z);let b:atKey (q::d) k=atKey d k:=by simp[atKey,xA,c]
   rw[U0 e,b];exact j
def KT.repl{H:Hp}{a:List (jF×V)}{f:List (jF×aj×ai)}(r:KT H a f)(k:jF){y:V}{u:ai}(j:ZU y u):
  KT H (a.map λc=>if c.1=k then (c.1,y) else c) (f.map (putAt k u)):=by
 induction r with
 | nil=>exact .nil
 | @cons p q l m h t i=>
  rw[yI,yI];refine .cons ?_ i;let⟨b,d,g⟩:=h;unfold putAt;by_cases e:p.1=k
  ·rw[aO e,aO (b.symm.trans e)];exact⟨b,d,j⟩
  ·rw[aM e,aM (λz=>e (b.trans z))];exact⟨b,d,g⟩
def KT.put{H:Hp}{a:List (jF×V)}{c:List (jF×aj×ai)}(r:KT H a c)(k:jF){b:aj}{y:V}{u:ai}(f:H b=some (.tup (k.map kV)))(d:ZU y u):
  KT H (Zs a k y) (storedH c k b u):=by
 let e:(a.any λg=>decide (g.1=k))=(atKey c k).isSome:=by
  rw[O1,(r.val k).isSome_eq,Option.isSome_map]
 unfold Zs storedH;rw[e];by_cases q:(atKey c k).isSome=true
 ·rw[aO q,aO q];exact r.repl k d
 ·rw[aM q,aM q];exact Paired.snoc r ⟨Z,f,d⟩
def KT.keeps{H c:Hp}{a:List (jF×V)}{d:List (jF×aj×ai)}(r:KT H a d)(f:∀ b e,H b=some (.tup e)->c b=some (.tup e)):KT c a d:=
 Paired.mapP r λ_ _ z=>⟨z.1,f _ _ z.2.1,z.2.2⟩
section
variable{H:Hp}{h:aC}{a:aj}
def FH{u:HO}(b:YV P w H h)(e:Rd H a u):Zf P w H h a u:=e.ok b
def Oe{b:List (ZR×V)}(d:YV P w H h)(e:Rd H a (.dK b)):b.length<=ap/\(a==sysModules)=false/\∃ c,KV b c/\h.DictOf (Wj P w) a c:=
 show Zf P w H h a (.dK b) from FH d e
def Me{b:List (ZR×V)}(d:YV P w H h)(e:H a=some (.dK b)):b.length<=ap/\(a==sysModules)=false/\∃ c,KV b c/\h.DictOf (Wj P w) a c:=Oe d (.inl e)
def MF{c:jF}(i:YV P w H h)(e:H a=some (.tup (c.map kV))):(tupleKind (Wj P w)).is h c a:=by
 let⟨_,b,r,o,d,f,n,g⟩:=(show Zf P w H h a (.tup (c.map kV)) from i a _ e);exact⟨o,b.toArray,n,d,f,g,by simpa using Im r⟩
def NZ{b:List (jF×V)}(i:YV P w H h)(e:Rd H a (.dT b)):b.length<=ap/\(a==sysModules)=false /\
  ∃ d,KT H b d/\h.DictOfH (tupleKind (Wj P w)) a d:=by
 let⟨z,y,d,r,o,k,j,n,s,u,v,A⟩:=(show Zf P w H h a (.dT b) from FH i e);refine⟨z,y,d,r,o,k,j,n,s,u,v,λx c=>?_,A⟩;let f:∀{l:List (jF×V)}{m:List (jF×aj×ai)},KT H l m->∀ x∈m,(tupleKind (Wj P w)).is h x.1 x.2.1:=by
  intro l m q
  induction q with
  | nil=>intro x c;exact nomatch c
  | @cons p q C D g t B=>
   intro x c;rcases zB.mp c with e | c
   ·subst e;exact MF i (by rw[<-g.1];exact g.2.1)
   ·exact B x c
 exact f r x c
def Bj{b:List (jF×V)}(d:YV P w H h)(e:H a=some (.dT b)):b.length<=ap/\(a==sysModules)=false /\
  ∃ c,KT H b c/\h.DictOfH (tupleKind (Wj P w)) a c:=NZ d (.inl e)
end
def Zg(H:Hp)(a:aj)(y:V)(r:jf):Prop:=
 (∃ c k,Rd H a (.dK c)/\y=kV k/\r=YI c k)\/∃ c k b,Rd H a (.dT c)/\y=.ref b/\H b=some (.tup (k.map kV))/\r=YI c k
def Y3(H:Hp)(a:aj)(y v:V)(d:Hp):Prop:=
 (∃ c k,H a=some (.dK c)/\y=kV k/\c.length<ap/\d=upd H a (.dK (Zs c k v))) \/
 ∃ c k b,H a=some (.dT c)/\y=.ref b/\H b=some (.tup (k.map kV))/\c.length<ap/\d=upd H a (.dT (Zs c k v))
def Zg.k{H:Hp}{a:aj}{b:List (ZR×V)}{k:ZR}(e:H a=some (.dK b)):Zg H a (kV k) (YI b k):=.inl ⟨b,k,.inl e,Z,Z⟩
def Y3.k{H:Hp}{a:aj}{b:List (ZR×V)}{k:ZR}{v:V}(e:H a=some (.dK b))(c:b.length<ap):Y3 H a (kV k) v (upd H a (.dK (Zs b k v))):=.inl ⟨b,k,e,Z,c,Z⟩
section
variable{jZ:ju}{σ:St}{H:Hp}{a:aj}{y v:V}{u r:ai}{o:jf}
def ZI9{Q:ja}(F:A.units+1<cLine)(I:ZE X jZ σ H s)(g:Zg H a y (some v))(t:ZU y u)(h:∀ f x,ZE X jZ σ H x->ZU v f->Q f x):
  aA (az X.prog X.w) A (getItem (.ref a) u) Q E s:=by
 rcases g with ⟨q,k,e,j,l⟩ | ⟨q,k,b,e,j,B,l⟩
 ·subst j;let⟨z,C,G,c,i⟩:=Oe I.hok e;let⟨f,n,d⟩:=Yh.some_of (v:=v) (o:=valueAt G k) (by rw[l];exact c.val k)
  exact wpAny_getItem_of (NP t) i.mapOf n (h f _ (I.tok _) d)
 ·subst j;cases(show u=Value.ref b from t);let⟨z,C,J,c,i⟩:=NZ I.hok e;let⟨f,n,d⟩:=Yh.some_of (v:=v) (o:=(atKey J k).map (·.2)) (by rw[l];exact c.val k)
  let⟨p,D,m⟩:=yK.mp n;refine wpAny_getItem_heap (tupleKind_room_in1 F) (MF I.hok B) i D ?_;rw[m];exact h f _ (I.tok _) d
def ZMO{Q:ja}(t:A.units+1<cLine)(I:ZE X jZ σ H s)(g:Zg H a y o)(m:ZU y u)(h:∀ n,ZE X jZ σ H n->Q (.bool (!o.isSome)) n):
  aA (az X.prog X.w) A (ay .NotIn u (.ref a)) Q E s:=by
 rcases g with ⟨j,k,e,f,l⟩ | ⟨j,k,b,e,f,p,l⟩
 ·subst f;let⟨z,i,x,c,d⟩:=Oe I.hok e;refine wpAny_notIn_of (NP m) i d.mapOf ?_;rw[<-(c.val k).isSome_eq,<-l];exact h _ (I.tok _)
 ·subst f;cases(show u=Value.ref b from m);let⟨z,i,B,c,d⟩:=NZ I.hok e;refine wpAny_notIn_heap (tupleKind_room_in1 t) (MF I.hok p) i d ?_;let q:=(c.val k).isSome_eq;rw[Option.isSome_map] at q;rw[<-q,<-l];exact h _ (I.tok _)
def Kf{c:aC}{k:Nat}{f:HO}(I:ZE X jZ σ H s)(j:N7 (H a))(i:wG a s.heap c)(h:∃ q,c.get? a=some q)(d:Zf X.prog X.w (upd H a f) c a f):
  ZE X jZ σ (upd H a f) { s with heap:=c,toks:=k }:=
 I.write (x:=a) (e:=a) j (.inl rfl) (λb q g z=>(i.2 b g).trans z) h d
def KI{P:al}{w:ar}{f:Hp}{e:aC}{b:List (ZR×V)}{d:jS}(z:b.length<=ap)(h:(a==sysModules)=false)(c:KV b d)(g:e.DictOf (Wj P w) a d):
  Zf P w f e a (.dK b):=⟨z,h,d,c,g⟩
def ZI5{D:Hp}{Q:Unit->ak->Prop}(V:A.units+1<cLine)(I:ZE X jZ σ H s)(g:Y3 H a y v D)(L:ZU y u)(K:ZU v r)(h:∀ M,ZE X jZ σ D M->Q () M):
  aA (az X.prog X.w) A (setItem (.ref a) u r) Q E s:=by
 rcases g with ⟨d,k,e,p,l,n⟩ | ⟨d,k,b,e,p,F,l,n⟩
 ·subst p n;let⟨z,t,W,f,m⟩:=Me I.hok e;let C:W.length<=sizeLine:=by rw[<-f.length];exact z
  let x:(Zs d k v).length<=sizeLine:=by have:=KB d k v;lia
  refine wpAny_setItem_pairs (hsz:=C) (NP L) m λJ i B=>h _ ?_;let U:∃ q,J.get? a=some q:=let ⟨q,_,_,j,_⟩:=i;⟨q,j⟩;exact Kf I (by rw[e];exact True.intro) B U (KI x t (f.put k K) i)
 ·subst p n;cases(show u=Value.ref b from L);let⟨z,t,Y,f,m⟩:=Bj I.hok e;let C:Y.length<=sizeLine:=by rw[<-Paired.length f];exact z
  let x:(Zs d k v).length<=sizeLine:=by have:=KB d k v;lia
  refine wpAny_setItem_heap (hsz:=C) (tupleKind_room_in1 V) (MF I.hok F) m λJ i B=>h _ ?_;let⟨q,O,N,j,P,R,S,_,T⟩:=i;refine Kf I (by rw[e];exact True.intro) B ⟨q,j⟩ ⟨x,t,_,(f.put k F K).keeps λc ys G=>?_,q,O,N,j,P,R,S,T⟩
  rw[ZO (ZD G e (λz=>nomatch z))];exact G
end
section
variable{jZ:ju}{σ:St}{H:Hp}{a:aj}{kvs:List (ZR×V)}{k:ZR}{u:ai}
def ZPS{Q:ja}(I:ZE X jZ σ H s)(e:Rd H a (.dK kvs))(h:∀ t c,ZE X jZ σ H c->Q (.int kvs.length t) c):aA (az X.prog X.w) A (call (.builtin "len") [.ref a]) Q E s:=by
 let⟨z,f,g,b,d⟩:=Oe I.hok e;refine call_len_dict f d (by rw[<-b.length];rw[sizeLine_eq] at z;lia (splits:=8)) ?_
 rw[<-b.length];exact h _ _ (I.tok _)
end
def F6(i:Expr):Prop:=∀ b a,subscripted i false b a=operate [b,a] (getItem b a)
def ZMg{a:al}{w:ar}{A:aw}{E:ja}{s:ak}{j:Env}{c b:Expr}{n:aI}{T id:String}{Q:ja}(q:typeLookup (.type T) "__getitem__" = pure (some (.builtin id)))(t:F6 b)(h:aA (az a w) A (aG c j) (λo f=>aA (az a w) A (aG b j) (λi d=>d.TypeIs o T/\aA (az a w) A (getItem o i) Q E d) E f) E s):
  aA (az a w) A (aG (.Subscript c b n) j) Q E s:=by
 refine Subscript_ (ae h (λo f l=>ae l (λi d e=>?_) λ_ _ x=>x) λ_ _ x=>x);let⟨p,e⟩:=e;unfold subscriptTail;refine aa ?_;rw[getitemInPython_of_ne p.not_modules];refine aa (wpAny_specialOf p q ?_);let k:aA (az a w) A (subscripted b false o i) (λr g=>aA (az a w) A (letTemporaryGo c o r >>= λ_=>pure r) Q E g) E d:=by
  rw[t o i];exact wpAny_operating (ae e (λr g m=>aa (wpAny_letTemporaryGo (ad m))) λ_ _ x=>x)
 first
  | exact ad (aa k)
  | exact aa (ad (aa k))
  | exact aa k
def Cu{X:Cx}{c:ju}{h:St}{H:Hp}{s:ak}{a:aj}{y:V}{o:jf}(I:ZE X c h H s)(g:Zg H a y o):s.TypeIs (.ref a) "dict" :=by
 rcases g with ⟨f,k,e,_,_⟩ | ⟨f,k,b,e,_,_,_⟩
 ·let⟨_,_,i,_,d⟩:=Oe I.hok e;exact d.typeIs
 ·let⟨_,_,j,_,d⟩:=NZ I.hok e;exact d.typeIs
inductive On(Q:VK)(x y:V)(b:Hp):Prop
 |mk(a v:_)(_:x=.ref a)(_:Zg b a y (some v))(_:Q v b)
def ZPs(d e:TE):TE:=λa H Q=>d a H λx b=>e a b λy c=>On Q x y c
inductive Ql(Q:VK)(y x:V)(b:Hp):Prop
 |mk(a o:_)(_:x=.ref a)(_:Zg b a y o)(_:Q (.bl (!o.isSome)) b)
def Ca(e d:TE):TE:=λa H Q=>e a H λy b=>d a b λx c=>Ql Q y x c
inductive OT(D:Yx)(d:L2.St)(v x y:V)(c:Hp):Prop
 |mk(a b:_)(_:x=.ref a)(_:Y3 c a y v b)(_:D.nx d b)
def ZQB(e g f:TE):TS:=λD a H=>f a H λv b=>e a b λx c=>g a c λy d=>OT D a v x y d
section
variable{o i e value:Expr}{pos pos' tpos:aI}{td ty tv:TE}
def Xp(t:X.A.units+1<cLine)(q:PE X o td)(p:PE X i ty)(r:F6 i:=by exact λ_ _=>rfl):PE X (.Subscript o i pos) (ZPs td ty):=by
 intro b s f H Q I h;refine ZMg PySem.F.slot_dict_getitem.lookup r (YH (q b s f H _ I h) λu D x j l B w=>Z1 (p b D f j _ l w) ?_);rintro E G ⟨y,k,d,C,a,v,n,g,z⟩;subst n;obtain rfl:u=Value.ref a:=B;exact⟨Cu d g,ZI9 t d g C λK J m c=>⟨v,k,m,c,z⟩⟩
def Jo(q:X.A.units+1<cLine)(n:PE X i ty)(p:PE X o td):PC X .NotIn i o (Ca ty td):=by
 intro b s c H Q I h;refine YH (n b s c H _ I h) λC B y d j z t=>Z1 (p b B c d _ j t) ?_;rintro u D ⟨x,f,k,w,a,r,m,g,v⟩;subst m;obtain rfl:u=Value.ref a:=w;exact ZMO q k g z λE l=>⟨.bl (!r.isSome),f,l,Z,v⟩
def Uu(z:X.A.units+1<cLine)(t:PE X o td)(q:PE X i ty)(B:PE X value tv)(w:swapsWith value (some (.Subscript o i pos')) pos.line X.env=pure false):
  PS X (.Assign [.Subscript o i pos'] value pos) (ZQB td ty tv):=by
 intro b s c H D I h;refine wpAny_Assign_Subscript (YH (B b s c H _ I h) λr L v d k G C=>YH (t b L c d _ k C) λu M x f l J E=>Z1 (q b M c f _ l E) λO P ⟨y,N,m,K,a,j,p,g,F⟩=>?_) w;subst p;obtain rfl:u=Value.ref a:=J;exact ZI5 z m g K G λQ n=>⟨c,j,n,F⟩
end
section
variable{pos:aI}
end
def J4:jR->St->Hp->(List (V×V)->Hp->Prop)->Prop
 | [],_,H,Q=>Q [] H
 | (e,f)::r,σ,H,Q=>e σ H λx a=>f σ a λy b=>J4 r σ b λd c=>Q ((x,y)::d) c
abbrev VV:List (V×V)->List (ai×ai)->Prop:=Paired λp q=>ZU p.1 q.1/\ZU p.2 q.2
def M7(X:Cx)(d:aI)(c:List (jP))(a:jz)(e:jR):Prop:=
 ∀(b:ju)(s:ak)(f:St)(H:Hp)(Q:List (V×V)->Hp->Prop),ZE X b f H s->J4 e f H Q ->
  aA (az X.prog X.w) X.A (evalPairs (pairTrees c a X.env d)) (λj i=>∃ h g,ZE X b f g i/\VV h j/\Q h g) X.xe s
def ZMz{X:Cx}{a:aI}:M7 X a [] [] []:=λb s c H Q I h=>pairTrees_nil_walk ⟨[],H,I,.nil,h⟩
def ZK9{X:Cx}{b:aI}{k v:Expr}{f:List (jP)}{j:jz}{g i:TE}{c:jR}(r:PE X k g)(w:PE X v i)(t:M7 X b f j c):
  M7 X b (some k::f) (v::j) ((g,i)::c):=λa s e H Q I h=>
 pairTrees_cons_walk (YH (r a s e H _ I h) λu F x l o D A=>YH (w a F e l _ o A) λK G y m p E B=>
  YH (t a G e m _ p B) λL J z n q d C=>⟨(x,y)::z,n,q,.cons ⟨D,E⟩ d,C⟩)
def O6(c a:List (ZR×V)):List (ZR×V):=a.foldl (λb d=>Zs b d.1 d.2) c
def KV.merge:∀{b:List (ZR×V)}{d:jS}{a:List (ZR×V)}{c:jS},KV b d->KV a c->KV (O6 a b) (merged c d):=by
 intro b d a c r;unfold KV at r
 induction r generalizing a c with
 | nil=>intro q;exact q
 | @cons p q i j h t f=>
  intro g;let e:KV (Zs a p.1 p.2) (stored c q.1 q.2):=by
   have:=g.put p.1 h.2;rw[<-h.1];exact this
  exact f e
def Ip:∀(b a:List (ZR×V)),(O6 a b).length<=a.length+b.length
 | [],a=>by show a.length<=a.length+0;lia
 | p::r,a=>by
  let c:=Ip r (Zs a p.1 p.2);let d:=KB a p.1 p.2;show (O6 (Zs a p.1 p.2) r).length<=_;rw[zA];lia
def Gg{P:al}{w:ar}:∀{d:List (ZR×V)}{g:List (ai×ai)},VV (d.map λf=>(kV f.1,f.2)) g->∃ e,Carries (Wj P w) g e/\KV d e
 | [],_,r=>by rw[wC] at r;cases r;exact⟨[],True.intro,.nil⟩
 | p::d,_,r=>by
  rw[yI] at r
  cases r with
  | @cons a b j bs h t=>
   let⟨e,c,q⟩:=Gg (P:=P) (w:=w) t;let⟨k,i⟩:=b;exact⟨(p.1,i)::e,⟨NP h.1,Z,c⟩,.cons ⟨Z,h.2⟩ q⟩
def Dj(b:jR):TE:=λf H Q=>∀ p,H p=none->J4 b f (upd H p (.dK [])) λe c=>c p=some (.dK [])/\∃ a:List (ZR×V),e=a.map (λd=>(kV d.1,d.2))/\a.length<=15/\Q (.ref p) (upd c p (.dK (O6 [] a)))
def ZNq{X:Cx}{k:aI}{b:List (jP)}{d:jz}{l:jR}(h:M7 X k b d l)(g:b.all (·.isSome)=true)(C:b.length=d.length)(x:b≠[])(m:b.length<=15):PE X (.Dict b d k) (Dj l):=by
 intro j s N H Q I q;let D:=I.hok.fresh (zY s.heap.objs.size);let r:=I.laid (a:=s.heap.objs.size) (o:=.dK []) (h':=s.heap.push { cls:=.type "dict",data:=.dict #[] }) (t':=s.toks) (λ_ _ q=>zT _ q) (zY _) (Hk s.heap I.big);refine wpAny_Dict_walk (knd:=Wj X.prog X.w) g C x m (Z1 (h j _ N _ _ r (q _ D)) ?_);rintro U T ⟨S,O,p,n,e,i,u,R,G⟩;subst u;let⟨L,c,K⟩:=Gg (P:=X.prog) (w:=X.w) n;let⟨z,A,M,J,t⟩:=Me p.hok e;cases J;refine⟨L,c,t,λv f E=>⟨.ref s.heap.objs.size,_,?_,Z,G⟩⟩;let F:(O6 [] i).length<=sizeLine:=by
  let y:=Ip i [];rw[tN] at y;rw[sizeLine_eq];lia
 let B:∃ q,v.get? s.heap.objs.size=some q:=let ⟨q,_,_,hq,_⟩:=f;⟨q,hq⟩;exact Kf p (by rw[e];exact True.intro) E B (KI F A (K.merge .nil) f)
structure M1(X:Cx)(o:Expr)(m:Str)(jj:aI)(e:Expr)(ji:aI):Prop where
 base:attributeBase o m X.env (aG o X.env)=aG o X.env
 few:((aE ji (aq [e] X.env)).all (λx=>!x.1)&&(backToKw ji (keywordEach [] X.env)).all (λx=>x.1.isSome)
  && decide (([e]:jz).length+([]:List Keyword).length+(if ([]:List Keyword).isEmpty then 0 else 1)<30))=true
 line:(jj.endLine==ji.line)=true
 trees:aE ji (aq [e] X.env)=[(false,aG e X.env)]
structure M2(X:Cx)(o:Expr)(m:Str)(jj:aI)(e f:Expr)(ji:aI):Prop where
 base:attributeBase o m X.env (aG o X.env)=aG o X.env
 few:((aE ji (aq [e,f] X.env)).all (λx=>!x.1)&&(backToKw ji (keywordEach [] X.env)).all (λx=>x.1.isSome)
  && decide (([e,f]:jz).length+([]:List Keyword).length+(if ([]:List Keyword).isEmpty then 0 else 1)<30))=true
 line:(jj.endLine==ji.line)=true
 trees:aE ji (aq [e,f] X.env)=[(false,aG e X.env),(false,aG f X.env)]
def Eb(H:Hp)(a:aj):Prop:=(∃ b,Rd H a (.dK b))\/∃ b,Rd H a (.dT b)
def ZOS{X:Cx}{g:ju}{l:St}{H:Hp}{s:ak}{a:aj}(I:ZE X g l H s)(d:Eb H a):
  s.TypeIs (.ref a) "dict" /\ (∀ b,Value.ref a=.ref b->∃ c,s.heap.get? b=some c/\c.dict=none)/\(a==sysModules)=false:=by
 rcases d with ⟨k,e⟩ | ⟨k,e⟩
 ·let⟨_,j,m,_,f⟩:=Oe I.hok e;refine⟨f.typeIs,λb q=>?_,j⟩;cases q;let⟨c,_,_,h,i,_⟩:=f;exact⟨c,h,i.2.1⟩
 ·let⟨_,j,n,_,f⟩:=NZ I.hok e;refine⟨f.typeIs,λb q=>?_,j⟩;cases q;let⟨c,_,_,h,i,_⟩:=f;exact⟨c,h,i.2.1⟩
section
variable{jZ:ju}{σ:St}{H:Hp}{a:aj}{y d:V}{u r:ai}{o:jf}
def ZOM{Q:ja}(v:A.units+1<cLine)(I:ZE X jZ σ H s)(g:Zg H a y o)(n:ZU y u)(rd:ZU d r)(h:∀ q p,ZE X jZ σ H p->ZU (o.getD d) q->Q q p):
  aA (az X.prog X.w) A (call (.builtin "dict.get") [.ref a,u,r]) Q E s:=by
 rcases g with ⟨m,k,e,i,l⟩ | ⟨m,k,b,e,i,t,l⟩
 ·subst i;let⟨z,j,B,c,f⟩:=Oe I.hok e;refine call_meetsIn sH f.typeIs rE (rB _ _ _) (meets_dict_get_default (Wj X.prog X.w) a (NP n) j r) ⟨_,f.mapOf,h _ _ (I.tok _) ?_⟩;rw[l];exact(c.val k).getD rd
 ·subst i;cases(show u=Value.ref b from n);let⟨z,j,x,c,f⟩:=NZ I.hok e;refine call_meetsIn sH f.typeIs rE (rB _ _ _) (meetsH_dict_get_default (tupleKind (Wj X.prog X.w)) a b j r) ⟨tupleKind_room_in1 v,k,x,MF I.hok t,f,h _ _ (I.tok _) ?_⟩;rw[l];exact(c.val k).getD rd
end
inductive PZ(g f:TE)(d:L2.St)(Q:VK)(x:V)(b:Hp):Prop
 |mk(a:_)(_:x=.ref a)(_:Eb b a)(_:g d b λy e=>f d e λz c=>∃ o,Zg c a y o/\Q (o.getD z) c)
def ZOF(c e d:TE):TE:=λa H Q=>c a H λx b=>PZ e d a Q x b
section
variable{o e f:Expr}{jj ji:aI}{td ty tx:TE}
def ZKt(C:X.A.units+1<cLine)(B:PE X o td)(v:PE X e ty)(w:PE X f tx)(m:M2 X o "get" jj e f ji):PE X (.Call (.Attribute o "get" jj) [e,f] [] ji) (ZOF td ty tx):=by
 intro b s i H Q I h;refine wpAny_Call_method m.base m.few m.line PySem.F.plainAttrs_dict sH PySem.F.type_dict_get (Z1 (B b s i H _ I h) ?_);rintro u M ⟨x,k,j,J,a,t,d,D⟩;subst t;obtain rfl:u=Value.ref a:=J;let⟨O,P,_⟩:=ZOS j d;exists O,P;rw[m.trees];refine Calls.callWith_builtin Z (Calls.evalArgs_plain (Calls.spliced_cons (YH (v b M i k _ j D) λS N y l p K E=>
  Calls.spliced_cons (Z1 (w b N i l _ p E) λR U ⟨z,n,q,L,T,g,G⟩=>Calls.spliced_nil ?_))))
 exact ZOM C q g K L λW V r c=>⟨_,n,r,c,G⟩
end
section
variable{jZ:ju}{σ:St}{H:Hp}{a:aj}{kvs:List (ZR×V)}
end
section
variable{jZ:ju}{σ:St}{H:Hp}{a:aj}{y:V}{u:ai}
end
inductive V9(c:je)(H:Hp)(Q:VK):Prop
 |mk(a b:_)(_:c=[V.ref a])(_:H a=some (.dK b))(_:Q (.int b.length) H)
def K9:Wq X (.builtin "len") (V9):=by
 intro c s k H j i Q I r h;let⟨a,b,rfl,e,q⟩:=h;let⟨u,rfl,f⟩:=Vd r;cases f;exact ZPS I (.inl e) λt g d=>⟨.int b.length,H,d,⟨t,Z⟩,q⟩
section
variable{κ:Type}[DecidableEq κ]
def Nu{a:List (κ×V)}{k:κ}{v:V}(h:YI a k=some v):k∈a.map (·.1):=by
 let q:(a.any λc=>decide (c.1=k))=true:=by
  rw[O1,h]
  all_goals rfl
 let⟨p,b,e⟩:=List.any_eq_true.mp q;exact zJ.mpr ⟨p,b,of_decide_eq_true e⟩
end
end L2
namespace Tw
open PySem PySem.Spec L2
variable{jg jh CS CT CH CK CP CB:aj}
def top(i:Nat):Stmt:=PySem.Challenge.pw_twigmap_k26_stems_changed.main.body.getD i (.Pass ⟨0,0,0,0⟩)
abbrev JY:Stmt:=top 13
abbrev Kl:Stmt:=top 14
abbrev Lm:Stmt:=top 15
abbrev K2:Stmt:=top 16
abbrev K8:Stmt:=top 17
abbrev JN:Stmt:=top 18
abbrev Mt:Stmt:=top 19
abbrev IA:Stmt:=top 29
abbrev Ki:Stmt:=top 30
abbrev IJ:Stmt:=top 31
abbrev JX:Stmt:=top 32
abbrev IN:Stmt:=top 33
abbrev Kq:Stmt:=top 34
abbrev IH:Stmt:=top 37
abbrev IQ:Stmt:=top 39
abbrev KY:Stmt:=top 40
abbrev Mq:Stmt:=top 41
abbrev IW:Stmt:=top 42
abbrev LY:Stmt:=top 43
abbrev IM:Stmt:=top 44
abbrev JW:Stmt:=top 45
abbrev JZ:Stmt:=top 46
abbrev JT:Stmt:=top 47
abbrev Kc:Stmt:=top 48
abbrev Ka:Stmt:=top 49
abbrev Jm:Stmt:=top 51
abbrev Lp:Stmt:=top 52
abbrev Km:Stmt:=top 53
abbrev IE:Stmt:=top 54
abbrev Jf:Stmt:=top 55
abbrev Id:Stmt:=top 56
abbrev Jq:Stmt:=top 57
abbrev KH:Stmt:=top 58
abbrev Kn:Stmt:=top 59
abbrev Vs:Stmt:=top 60
abbrev IV:Stmt:=top 61
abbrev Ja:Stmt:=top 62
abbrev IG:Stmt:=top 63
abbrev Wy:Stmt:=top 64
abbrev Je:Stmt:=top 65
abbrev PD:Stmt:=top 66
structure YZ(mg:jb):Prop where
 isi:mg "isinstance" = none
 bool:mg "bool" = none
 int:mg "int" = none
 str:mg "str" = none
 tuple:mg "tuple" = none
 list:mg "list" = none
 len:mg "len" = none
 all:mg "all" = none
 abs:mg "abs" = none
 max:mg "max" = none
 min:mg "min" = none
 range:mg "range" = none
 sorted:mg "sorted" = none
 ValueError:mg "ValueError" = none
 sum:mg "sum" = none
 signs:∃ t,mg "MOST_SIGNS" = some (.int 40 t)
 things:∃ t,mg "MOST_THINGS" = some (.int 4 t)
 deep:∃ t,mg "MOST_DEEP" = some (.int 3 t)
 rows:∃ t,mg "MOST_ROWS" = some (.int 4 t)
 few:∃ t,mg "FEWEST_BRANCHES" = some (.int 2 t)
 most:∃ t,mg "MOST_BRANCHES" = some (.int 4 t)
 height:∃ t,mg "HEIGHT" = some (.int 0 t)
 least:∃ t,mg "LEAST" = some (.int 1 t)
 greatest:∃ t,mg "GREATEST" = some (.int 2 t)
 many:∃ t,mg "MANY" = some (.int 3 t)
def QO:ZA ["_law_well_here","_law_many","_law_found","_law_first","_law_second"] zEe (Ze KY):=Z4
def ZNZ(F:Zn K "_law_pull" "_law_pull" KY f fd):ZK P w K mg kf Zc 1 f fd zEe YQ:=by
 refine F.ok QO (λz H Q E h=>?_) (λy A q s H z Q E G h=>?_)
 ·let⟨p,m,rfl,_⟩:=h;rfl
 let⟨p,m,rfl,W,⟨g,l⟩,k⟩:=h;let⟨a,b,c,d,n,i,j,r,D⟩:=W.ex;let o:=QO.nd;intro B;refine⟨_,ZN (Zy (YJ WT (US Z2 (pv 0) ZM (λ_ _=>rfl)) ZM (Z3 _)) (ZV (Zq ZM)) Z0)
  (ZN (Q5 (Zu QP (US Z2 (pv 0) ZM (λ_ _=>rfl)) ZM) (JG (pv 0) ZM JL))
  (ZN (Zy (YJ Qq (US Z2 (pv 0) ZM (λ_ _=>rfl)) ZM (Z3 _))
   (ZN (Zo 2 o (Zu Qb (US Z2 (pv 0) ZM (λ_ _=>rfl)) (pv 1)))
   (ZN (Q5 (Zu Bi (US Z2 (pv 0) ZM (λ_ _=>rfl)) (pv 1)) (JG (pv 0) ZM JL))
   (ZV (Zq (pv 2))))) Z0)
  (ZN (Q5 (Zu Xm (US Z2 (pv 0) ZM (λ_ _=>rfl)) ZM) (JG (pv 0) ZM JL))
  (ZN (Zo 3 o (Zu Qb (Zu Of (Zu Xm (US Z2 (pv 0) ZM (λ_ _=>rfl)) ZM) (Zu Xm ZM (Zu Of ZM (US Z2 (pv 0) ZM (λ_ _=>rfl))))) ZM))
  (ZN (Zo 4 o (Zu Qb (Zu Of (Zu Xm (Zu MJ (pv 3) ZM) ZM) (Zu Xm (Zu Qb (pv 3) ZM) ZM)) ZM))
  (ZV (Zq (Zu Qb (Zu MJ (pv 4) ZM) (pv 1))))))))),?_⟩
 exists _,Z,p,_,_,_,Z,Z,ZF.of n,Z,Z,_,Z;refine Xj (λ_=>?_) (λu=>?_)
 ·exact k 0 H (Int.le_refl 0) g W (ZH.refl p H)
 let C:d≠0:=λe=>u (aK (by rw[e]))
 exists _,Z,p,_,_,_,Z,Z,ZF.of n,Z,_,_,Z,Z,_,Z,p,_,_,_,Z,Z,n,Z;exists _,Z,p,_,_,_,Z,Z,ZF.of ZP,Z,_,_,Z,Z,_,Z;refine Xj (λv=>?_) (λv=>?_)
 ·exists _,Z,p,_,_,_,Z,Z,ZF.of ZP,Z,_,Z,_,_,Z,Z,g;exists _,Z,p,_,_,_,Z,Z,ZF.of ZP,Z,_,Z,_,_,Z,Z,⟨g,l⟩,_,Z,p,_,_,_,Z,Z,ZP,Z;exists _,Z;refine k (c % m) _ (vL _ ∅) (uW _ g) ⟨a,b,c / m,d-1,ZP,i,j,Int.ediv_nonneg r ∅,∅⟩ (ZH.refl p H).upd.upd
 ·exists _,Z,p,_,_,_,Z,Z,ZF.of ZP,Z,_,_,Z,Z,_,Z,p,_,_,_,Z,Z,ZP,Z;exists _,Z,p,_,_,_,Z,Z,ZF.of ZP,Z,_,_,Z,Z,_,Z,p,_,_,_,Z,Z,ZF.of ZP,Z,_,_,Z,Z,.inl ⟨by decide,by decide⟩,_,_,Z,Z,_,_,Z,Z,.inl ⟨∅,∅⟩,_,_,Z,Z,(by show (0:Int)<2147483629;decide)
  generalize t:(a+1) * (48271+7919 * (b+1)) % 2147483629=x;let I:0<=x:=by rw[<-t];exact vL _ (by decide)
  let J:x<2147483629:=by rw[<-t];exact uW _ (by decide)
  exists _,Z,_,_,Z,Z,⟨by decide,by decide⟩,_,_,Z,Z,_,Z,_,_,Z,Z,(by show (0:Int)<1009;decide),_,_,Z,Z,_,_,Z,Z,.inl ⟨∅,∅⟩,_,_,Z,Z,(by show (0:Int)<1000000007;decide)
  exists _,Z,_,_,Z,Z,⟨by decide,by decide⟩,_,Z,_,_,Z,Z,g
  exact k _ _ (vL _ ∅) (uW _ g) ⟨a,b+1,c,d-1,ZP,i,j,r,∅⟩ (ZH.refl p H).upd.upd
abbrev Er:js:=["_law_script","_law_k","_law_left","_law_cell","_law_digits"]
def Qc:ZA Er zE0 (Ze IQ):=Z4
def ZMe(F:Zn K "_law_well" "_law_well" IQ f fd)(T:YZ mg):ZK P w K mg kf Zc 1 f fd zE0 (V5 K):=by
 refine F.ok Qc (λvs H Q E h=>?_) (λX A L s H vs Q E hr h=>?_)
 ·let⟨a,g,k,rfl,_⟩:=h;rfl
 let⟨a,g,k,rfl,u,hn,k0,k1,q⟩:=h;let J:=Qc.nd;intro Xc;refine⟨_,ZN (Zo 2 J (US Z2 (XH (Zh ZM (Zh ZM Zt))) (Wt Mz rfl T.int U8 (Zh (VT WT (pv 1) ZM (Z3 _)) Zt)) (λ_ _=>rfl)))
  (ZN (Zo 3 J (US Z2 (Zu NU (Wt PU rfl T.list Up (Zh (pv 0) Zt)) (XH (Zh ZM Zt))) (Zu Qb (pv 1) (Zp (Gy rfl) rfl T.max NK (Zh ZM (Zh (Zp X9 rfl T.len Xa (Zh (pv 0) Zt)) Zt)))) (λ_ _=>rfl)))
  (ZN (Zo 4 J (Zu Of (Zp Ky rfl T.abs Ks (Zh (pv 3) Zt)) (Wt Mz rfl T.int U8 (Zh (Q0 (VT Bd (Zp Ky rfl T.abs Ks (Zh (pv 3) Zt)) (Zu G5 ZM ZM) (Z3 _)) (OH (VT P1 (pv 1) (Zp X9 rfl T.len Xa (Zh (pv 0) Zt)) (Z3 _)))) Zt))))
  (ZV (Zq (XH (Zh (Zu Qb (pv 3) ZM) (Zh (Zu Of ZM (pv 1)) (Zh (pv 4) (Zh (pv 2) Zt))))))))),?_⟩
 exists (by show 2<=ap;decide)
 intro l1 v;let O:=Zb v (.lst [V.int 240,V.int 2400]);refine⟨_,Z,Z,.inr ⟨_,Z,?_⟩⟩;obtain⟨lv,t,D⟩:∃ z:Int,Xt [V.int 240,V.int 2400] (if decide (V.int k=V.int 0)=true then 1 else 0)=some (.int z)/\0<=z:=by
  split
  ·exact⟨2400,Z,by decide⟩
  ·exact⟨240,Z,by decide⟩
 exists l1,_,_,_,Z,Z,ZF.of ZP,t;exists _,Z,a,_,Z,.inl (O.seq u);intro S y;let g2:=O.trans (Zb y (.lst (g.map V.int)));exists (by show 1<=ap;decide)
 intro U n;let g3:=g2.trans (Zb n (.lst [V.int 0]));let I:S≠U:=ZW ZP n;exists S,U,_,_,Z,Z,(by rw[ZO I];exact ZP),ZP,(by rw[zX];exact nn (by show g.length+1<=1000;lia))
 intro l4 B;let p:=g3.trans (Zb B (.lst (g.map V.int++[V.int 0])));exists _,Z,_,Z,a,_,Z,.inl (p.seq u),_,_,Z;let C:(g.map V.int).length=g.length:=zX _;generalize R:(if (((g.map V.int).length:Nat):Int) > 1 then (((g.map V.int).length:Nat):Int) else 1)=M
 let M1:1<=M/\M<=(g.length:Int)+1:=by
  rw[C] at R;rw[<-R];split <;> lia
 exists _,_,Z,Z,by lia
 let i0:0<=k % M:=vL _ ∅
 let i1:k % M<M:=uW _ ∅
 let⟨Y,r,G⟩:=LL (xs:=g.map V.int++[V.int 0]) i0 (by rw[yV,zX,xN];lia)
 obtain⟨c,rfl⟩:∃ z:Int,Y=.int z:=by
  rcases yX.mp G with m | m
  ·let⟨z,_,e⟩:=zJ.mp m;exact⟨z,e.symm⟩
  ·exact⟨0,zI.mp m⟩
 exists l4,_,_,_,Z,Z,ZF.of ZP,r;let l:∀ b:Bool,0<=(if c<0 then -c else c) * (if b=true then 1 else 0):=λb=>by
  cases b
  ·simp
  ·simp;split <;> lia
 let N:∀(x:Int)(b:Bool),Q3 x (if b=true then 1 else 0):=λx b=>.inr (by cases b <;> exact⟨by decide,by decide⟩)
 let j:∀(z:Int)(o:Hp),0<=z->ZB H o->∀ i,o i=none->Q (.ref i) (upd o i (.lst [.int (c % 2147483647),.int (1000 * k),.int z,.int lv])):=λz o z0 W i d=>
  q i _ (W.free d) (W.trans (Zb d _)) ⟨_,_,_,_,ZP,vL _ (by decide),uW _ (by decide),z0,D⟩
 exists _,Z,_,Z,_,Z,_,Z,_,_,Z,Z,⟨by decide,by decide,by decide⟩,_,_,Z,Z,_,Z
 refine Xj (λ_=>?_) (λ_=>?_)
 ·refine⟨_,Z,_,Z,a,_,Z,.inl (p.seq u),_,_,Z,Z,.inr ⟨_,Z,_,_,Z,Z,N _ _,?_⟩⟩;exists _,Z,_,_,Z,Z,(by show (0:Int)<2147483647;decide),_,Z,_,_,Z,Z,.inl ⟨by decide,by decide⟩,_,Z,_,Z,(by show 4<=ap;decide)
  intro i d;exact j _ _ (l _) p i d
 ·refine .inr ⟨_,Z,_,_,Z,Z,N _ false,?_⟩;exists _,Z,_,_,Z,Z,(by show (0:Int)<2147483647;decide),_,Z,_,_,Z,Z,.inl ⟨by decide,by decide⟩,_,Z,_,Z,(by show 4<=ap;decide)
  intro i d;exact j _ _ (l false) p i d
structure Zl(K:zZ)(mg:jb)(x:Str)(st:aB)(ps:js):Prop where
 ex:∃ f fd,Zn K x x st f fd/\Z5 K fd ps []/\mg x=some (.ref f)
def Zl.of{P:al}{w:ar}{K:zZ}{d:jb}{a:aC}{x:Str}{i:aB}{e:js}{k:Nat}{g:Sp}(L:Zl K d x i e)(h:∀ f c,Zn K x x i f c->ZK P w K d a Zc k f c e g):ZC P w K d a k x e g:=by
 let⟨f,c,F,b,m⟩:=L.ex;exact⟨f,c,h f c F,b,F.kp,m⟩
def LB{K:zZ}{h:aC}{p:jb}{x:Str}{e:aB}{n:js}{f:aj}{t g:jy}{u:Array (jc)}{s kV q m o ct:ai}(X:K.In h)(G:h.Ns ao p)(a:zN K ao x=some (some (.ref f)))(l:K.lookup f=some ⟨s,t,.func (yE x x (Vb e) (Xk e) (Ze e) .none kV q m g o ct),u⟩)(c:xR K o x=true)(k:yT K (.ref f)=true)(r:∀ (kV j m:ai) (g:jy) (i ct:ai) (b:jd),b.length=n.length->bindArgs (yE x x (Vb e) (Xk e) (Ze e) .none kV j m g i ct) ⟨b,[]⟩=pure (n.zip b):=by first | exact(λ_ _ _ _ _ _ b d=>match b,d with | [_],_=>rfl) | exact(λ_ _ _ _ _ _ b d=>match b,d with | [_,_],_=>rfl) | exact(λ_ _ _ _ _ _ b d=>match b,d with | [_,_,_],_=>rfl) | exact(λ_ _ _ _ _ _ b d=>match b,d with | [_,_,_,_],_=>rfl) | exact(λ_ _ _ _ _ _ b d=>match b,d with | [_,_,_,_,_],_=>rfl)):Zl K p x e n:=
 ⟨f,_,Vi (st:=e) l c k,(Vi (st:=e) l c k).binds r,yZ X G a⟩
def VN{H:Hp}{p:aj}(h:H p=none)(o:HO):∃ a,L2.upd H p o=a/\ZB H a/\a p=some o:=⟨_,Z,Zb h o,ZP⟩
inductive Vw(n:Nat)(c:je)(H:Hp)(Q:VK)(_:XK):Prop
 |mk(v:V)(t:KT)(q:Nat)(_:c=[v])(_:ZG H t v)(_:t.fits q=true)(_:t.depth<n)(_:∀(b:V)(a:Hp),ZG a t.st b->ZB H a->Q b a)
inductive Y1(d:je)(H:Hp)(Q:VK)(_:XK):Prop
 |mk(v u:V)(a b:KT)(_:d=[v,u])(_:ZG H a v)(_:ZG H b u)(_:a.fits 3=true)(_:b.fits 3=true)(_:∀ c,ZB H c->Q (.bl (a.lt b)) c)
def Dx:ZA zFb zFb (Ze Mt):=Z4
def Ch{k:Nat}:ZK P w K mg kf Zc k f fd zFb (Vw 0):=by
 let c:∀ a H Q E,¬ Vw 0 a H Q E:=λa H Q E h=>by
  let⟨v,t,q,_,_,_,d,_⟩:=h
  lia
 exact⟨λa H Q E h=>absurd h (c a H Q E),λA b s H args e a Q E _ _ _ _ h=>absurd h (c a H Q E)⟩
def ZGP{n:Nat}(F:Zn K "standing" "standing" Mt f fd)(T:YZ mg)(DS:ZC P w K mg kf (n+1) "standing" zFb (Vw n)):ZK P w K mg kf Zc (n+2) f fd zFb (Vw (n+1)):=by
 refine F.ok Dx (λg H Q E h=>?_) (λa2 A a1 s H g Q E hr h=>?_)
 ·let⟨v,t,q,rfl,_⟩:=h;rfl
 let⟨v,t,q,rfl,d,hq,hn,k⟩:=h;intro Xc;refine⟨_,ZN (Zy (Yk (Zp Xx rfl T.isi XG (Zh (pv 0) (Zh (Xw (v:=.ty "int") rfl T.int U8 rfl) Zt)))) (ZV (Zq (Ym (Zh ZM (Zh (pv 0) Zt))))) Z0)
  (ZN (Zy (Yk (Zp Xx rfl T.isi XG (Zh (pv 0) (Zh (Xw (v:=.ty "str") rfl T.str Nh rfl) Zt)))) (ZV (Zq (Ym (Zh ZM (Zh (pv 0) Zt))))) Z0)
  (ZV (Zq (Ym (Zh ZM (Zh (Wt NG rfl T.tuple Qr (Zh (Um [] [] rfl (KM (pv 0)) (λ_ _ _ _ _=>V4) (λ_ _ _ _ _=>Zk DS hr (Zh (pv 0) Zt)) trivial) Zt)) Zt)))))),?_⟩
 cases t with
 | int i=>
  let N:v=.int i:=by rw[ZG] at d;exact d
  subst N;refine⟨_,Z,_,_,_,_,Z,d.ty,OC,_,Z,Z6 ?_⟩;exists _,Z,(by show 2<=ap;decide)
  intro p U;refine k _ _ ?_ (Zb U _);rw[KT.st];exact .tup ZP (.cons (.int 0) (.cons (.int i) .nil))
 | str x=>
  let N:v=.str x:=by rw[ZG] at d;exact d
  subst N;refine⟨_,Z,_,_,_,_,Z,d.ty,J8,_,Z,Zj ?_⟩;refine⟨_,Z,_,_,_,_,Z,d.ty,Ni,_,Z,Z6 ?_⟩;exists _,Z,(by show 2<=ap;decide)
  intro p U;refine k _ _ ?_ (Zb U _);rw[KT.st];exact .tup ZP (.cons (.int 1) (.cons (.str x) .nil))
 | tup l=>
  let C:=d;rw[ZG] at C;let⟨a,g,rfl,I,G⟩:=C;let hl:=G.length;rw[KT.fits,zQ,zQ] at hq;let⟨a6,X,B⟩:=hq;let a5:l.length<=4:=of_decide_eq_true X;rw[KT.depth] at hn;refine⟨_,Z,_,_,_,_,Z,d.ty,Jp,_,Z,Zj ?_⟩;refine⟨_,Z,_,_,_,_,Z,d.ty,Kk,_,Z,Zj ?_⟩;exists _,Z,a,Z,⟨g,Za.of I⟩;refine Vv (n:=g.length) (λi z=>g[i]? = some z) (λD i m r=>ZB H r/\H D=none/\jU r ((l.take i).map KT.st) m) (YO ∅)
   (λD i m r S j=>⟨g,g[i],Za.of (j.1 _ _ I),by simp[S]⟩) (λD i m r z u S j hy=>⟨hy.1,hy.2 g (Za.of (j.1 _ _ I))⟩) (λD m r j=>⟨g,Za.of (j.1 _ _ I),zY _⟩)
   (λD hD=>⟨Zb hD _,hD,.nil⟩) (λD i m r z M a4 S hz j R hR=>?_) (λD m r M j=>?_)
  ·let⟨L,nD,c⟩:=j;let⟨t,J,kt⟩:=G.get hz;let mt:=zC J;let Y:t.fits (q-1)=true:=by
    rw[N2] at B;exact zF.mp B t mt
   let a3:=NT mt;exists _,Z,z,t,q-1,Z,kt.sm L,Y,by lia
   intro v' u k4 s4;let y:=s4 D _ M;let tD:YR u (upd u D (.lst (m++[v']))):=(ZH.refl D u).upd.tups y;refine hR v' u y ⟨λb o e=>by rw[ZO (ZW e nD)];exact s4 b o (L b o e),nD,?_⟩
   rw[yM,J,yO];exact((c.sm s4).append (.cons k4 .nil)).mono tD _ _
  ·let⟨L,nD,c⟩:=j;let J:l.take g.length=l:=yQ ∅
   rw[J] at c;let a0:=c.length;rw[zX] at a0;refine⟨D,m,Z,.inl ⟨ZF.of M,λp1 V=>?_⟩⟩;let g1:=Zb V (.tup m);exists (by show 2<=ap;decide)
   intro p2 W;let O:=Zb W (.tup [.int 2,.ref p1]);refine k _ _ ?_ ((L.trans g1).trans O);rw[KT.st,Iw];exact .tup ZP (.cons (.int 2) (.cons (.tup (O _ _ ZP) (c.sm (g1.trans O))) .nil))
def Fj(T:YZ mg)(L:Zl K mg "standing" Mt zFb):∀ n:Nat,ZC P w K mg kf (n+1) "standing" zFb (Vw n)
 | 0=>L.of λ_ _ _=>Ch
 | n+1=>L.of λ_ _ F=>ZGP F T (Fj T L n)
def ZM2:ZA zE6 zE6 (Ze JN):=Z4
def ZKN(F:Zn K "ahead" "ahead" JN f fd)(e:ZC P w K mg kf 6 "standing" zFb (Vw 5)):ZK P w K mg kf Zc 7 f fd zE6 Y1:=by
 refine F.ok ZM2 (λt H Q E h=>?_) (λn A d s H t Q E c h=>?_)
 ·let⟨v,u,a,b,rfl,_⟩:=h;rfl
 let⟨v,u,a,b,rfl,o,p,g,i,k⟩:=h;intro y;exists _,ZV (Zq (VT (FI c) (Zk e c (Zh (pv 0) Zt)) (Zk e c (Zh (pv 1) Zt)) (Z3 _)));let z:=Pb a 3 g;let B:=Pb b 3 i;let C:=He a;exists _,Z,v,a,3,Z,o,g,by lia
 intro D x q j;exists _,Z,u,b,3,Z,p.sm j,i,by lia
 intro G m r l;exists a.st,b.st,q.sm l,r,Fq a b,by lia
 rw[EQ];exact k m (j.trans l)
mutual
def KT.wide:KT->Nat->Bool
 | .int _,_=>true
 | .str _,_=>true
 | .tup l,r=>decide (0<r)&&(decide (l.length<=100)&&wideL l (r-1))
def wideL:jq->Nat->Bool
 | [],_=>true
 | t::l,r=>t.wide r&&wideL l r
end
def NR:∀(l:jq)(r:Nat),wideL l r=l.all (·.wide r)
 | [],r=>by rw[wideL];rfl
 | t::l,r=>by rw[wideL,NR l r];rfl
mutual
def Nr:∀(t:KT)(r:Nat),t.fits r=true->t.wide r=true
 | .int _,_,_=>by rw[KT.wide]
 | .str _,_,_=>by rw[KT.wide]
 | .tup l,r,h=>by
  rw[KT.fits,zQ,zQ] at h;rw[KT.wide,zQ,zQ];have:=of_decide_eq_true h.2.1;exact⟨h.1,aK ∅,wideL_of l (r-1) h.2.2⟩
def wideL_of:∀(l:jq)(r:Nat),fitsL l r=true->wideL l r=true
 | [],_,_=>by rw[wideL]
 | t::l,r,h=>by
  rw[fitsL,zQ] at h;rw[wideL,zQ];exact⟨Nr t r h.1,wideL_of l r h.2⟩
end
inductive YN(n:Nat)(b:je)(H:Hp)(Q:VK)(_:XK):Prop
 |mk(v u:V)(t:KT)(r:Nat)(_:b=[v,u])(_:ZG H t v)(_:ZG H t u)(_:t.wide r=true)(_:r<n)(_:∀ a,ZB H a->Q (.bl true) a)
def Hb{d:Sp}{k:Nat}{e:js}(c:∀ a H Q E,¬ d a H Q E):ZK P w K mg kf Zc k f fd e d:=
 ⟨λa H Q E h=>absurd h (c a H Q E),λA b s H args g a Q E _ _ _ _ h=>absurd h (c a H Q E)⟩
def A5:ZA zEc zEc (Ze LY):=Z4
def DZ{n:Nat}(F:Zn K "_law_alike" "_law_alike" LY f fd)(T:YZ mg)(DA:ZC P w K mg kf (n+1) "_law_alike" zEc (YN n)):
  ZK P w K mg kf Zc (n+2) f fd zEc (YN (n+1)):=by
 refine F.ok A5 (λd H Q E h=>?_) (λa3 A a1 s H d Q E hr h=>?_)
 ·let⟨v,u,t,r,rfl,_⟩:=h;rfl
 let⟨v,u,t,r,rfl,q,p,hf,hn,k⟩:=h;intro Xc;refine⟨_,ZN (Zy (Yk (Zp Xx rfl T.isi XG (Zh (pv 1) (Zh (Xw (v:=.ty "tuple") rfl T.tuple Qr rfl) Zt))))
   (ZN (Zy (PW.pt (VO (XT (Yk (Zp Xx rfl T.isi XG (Zh (pv 0) (Zh (Xw (v:=.ty "tuple") rfl T.tuple Qr rfl) Zt)))))
    (Uj (YJ Qs (Zp X9 rfl T.len Xa (Zh (pv 0) Zt)) (Zp X9 rfl T.len Xa (Zh (pv 1) Zt)) (Z3 _))))) (ZV (Zq Uf)) Z0)
   (ZV (Zq (Zp (Mw rfl) rfl T.all LK (Zh (Um [0,1] zEc rfl (P3 rfl T.range (Zh (Zp X9 rfl T.len Xa (Zh (pv 1) Zt)) Zt)) (λ_ _ _ _ _=>V4)
    (λ_ _ _ _ _=>Zk DA hr (Zh (Zi K (pv 1) (pv 0)) (Zh (Zi K (pv 2) (pv 0)) Zt))) ⟨rfl,.inl rfl,rfl,rfl,.inl rfl,rfl,trivial⟩) Zt))))) Z0)
  (ZN (Zy (Yk (Zp Xx rfl T.isi XG (Zh (pv 1) (Zh (Xw (v:=.ty "str") rfl T.str Nh rfl) Zt))))
   (ZV (Zq (Q0 (Zp Xx rfl T.isi XG (Zh (pv 0) (Zh (Xw (v:=.ty "str") rfl T.str Nh rfl) Zt))) (OH (VT WT (pv 0) (pv 1) (Z3 _)))))) Z0)
  (ZV (Zq (Q0 (Zp Xx rfl T.isi XG (Zh (pv 0) (Zh (Xw (v:=.ty "int") rfl T.int U8 rfl) Zt)))
   (Q0 (Ir (Zp Xx rfl T.isi XG (Zh (pv 0) (Zh (Xw (v:=.ty "bool") rfl T.bool NS rfl) Zt)))) (OH (VT WT (pv 0) (pv 1) (Z3 _)))))))),?_⟩
 cases t with
 | int i=>
  let U:v=.int i:=by rw[ZG] at q;exact q
  let S:u=.int i:=by rw[ZG] at p;exact p
  subst U S;refine⟨_,Z,_,_,_,_,Z,.int i,Ba,_,Z,Zj ?_⟩;refine⟨_,Z,_,_,_,_,Z,.int i,kit_is',_,Z,Zj ?_⟩;refine⟨_,Z,_,_,_,_,Z,.int i,OC,_,Z,Z6 ?_⟩;refine⟨_,Z,_,_,_,_,Z,.int i,MW,_,Z,_,Z,Z6 ?_⟩;exists _,Z,_,Z,Z;rw[aK rfl];exact k H (ZB.refl H)
 | str x=>
  let U:v=.str x:=by rw[ZG] at q;exact q
  let S:u=.str x:=by rw[ZG] at p;exact p
  subst U S;refine⟨_,Z,_,_,_,_,Z,.str x,At,_,Z,Zj ?_⟩;refine⟨_,Z,_,_,_,_,Z,.str x,Ni,_,Z,Z6 ?_⟩;refine⟨_,Z,_,_,_,_,Z,.str x,Ni,_,Z,Z6 ?_⟩;exists _,Z,_,Z,Z;rw[aK rfl];exact k H (ZB.refl H)
 | tup l=>
  rw[ZG] at q p;let⟨a,d,rfl,N,G⟩:=q;let⟨b,c,rfl,I,C⟩:=p;let hl:=G.length;let a5:=C.length;rw[KT.wide,zQ,zQ] at hf;let⟨f0,f1,f2⟩:=hf;let r0:=of_decide_eq_true f0;let l4:=of_decide_eq_true f1;let ty:Y4 K H (.ref a) (.type "tuple"):=.tup N;let a2:Y4 K H (.ref b) (.type "tuple"):=.tup I;let a0:c.length=d.length:=nofun
  refine⟨_,Z,_,_,_,_,Z,a2,Mx,_,Z,Z6 ?_⟩;refine⟨_,Z,_,_,_,_,Z,ty,Mx,_,Z,Zj ?_⟩;refine⟨_,Z,a,d,Z,.inr (Za.of N),_,Z,b,c,Z,.inr (Za.of I),Z,_,Z,NI (by rw[a0]) ?_⟩
  exists _,Z,b,c,Z,.inr (Za.of I),_,Z,nofun,nofun
  rw[Int.toNat_natCast];refine Vv (n:=c.length) (λi x=>x=.int (0+(i:Int))) (λD i y j=>ZB H j/\H D=none/\y=(wM i true).map V.bl) (YO nofun)
   (λD i y j J _=>J) (λD i y j x H4 J _ hy=>hy) (λD y j _=>zY _) (λD hD=>⟨Zb hD _,hD,Z⟩) (λD i y j x M a4 J hx W R hR=>?_) (λD y j M W=>?_)
  ·subst hx;let⟨m,nD,rfl⟩:=W;let X:i<d.length:=nofun
   let B:d[i]? = some d[i]:=by simp[X]
   let z:c[i]? = some c[i]:=by simp[J]
   let⟨t,et,kt⟩:=G.get B;let⟨L,g,Y⟩:=C.get z;let O:L=t:=by rw[et] at g;injection g with g;exact g.symm
   subst O;let ft:L.wide (r-1)=true:=by rw[NR] at f2;exact zF.mp f2 L (zC et)
   let av:Xt d (0+(i:Int))=some d[i]:=by rw[Int.zero_add];exact Xd B
   let au:Xt c (0+(i:Int))=some c[i]:=by rw[Int.zero_add];exact Xd z
   refine⟨_,Z,_,Z,.inr (.inl ⟨a,d,_,_,rfl,rfl,Za.of (m _ _ N),av,_,rfl,_,rfl,.inr (.inl ⟨b,c,_,_,rfl,rfl,Za.of (m _ _ I),au,d[i],c[i],L,r-1,rfl,kt.sm m,Y.sm m,ft,nofun,λH4 s4=>?_⟩)⟩)⟩
   refine hR _ H4 (s4 D _ M) ⟨λb o e=>by rw[ZO (ZW e nD)];exact s4 b o (m b o e),nD,?_⟩
   rw[List.replicate_succ'];simp
  ·let⟨m,nD,rfl⟩:=W;exists D,_,Z,ZF.of M;let e:(wM c.length true).all id=true:=by simp
   rw[e];exact k j m
def EC(T:YZ mg)(L:Zl K mg "_law_alike" LY zEc):∀ n:Nat,ZC P w K mg kf (n+1) "_law_alike" zEc (YN n)
 | 0=>L.of λ_ _ _=>Hb λb H Q E h=>by let⟨v,u,t,r,_,_,_,_,a,_⟩:=h;lia
 | n+1=>L.of λ_ _ F=>DZ F T (EC T L n)
mutual
def KT.rk:KT->KT
 | .int i=>.tup [.int 0,.int i,.str "",.tup []]
 | .str x=>.tup [.int 1,.int 0,.str x,.tup []]
 | .tup l=>.tup [.int 2,.int 0,.str "",.tup (rkL l)]
def rkL:jq->jq
 | []=>[]
 | t::l=>t.rk::rkL l
end
def EO:∀ l:jq,rkL l=l.map KT.rk
 | []=>by rw[rkL];rfl
 | t::l=>by rw[rkL,EO l];rfl
mutual
def Hu:∀ a b:KT,a.rk.eqb b.rk=a.eqb b
 | .int i,.int j=>by simp[KT.rk,KT.eqb,jW]
 | .str x,.str y=>by simp[KT.rk,KT.eqb,jW]
 | .tup l,.tup m=>by simp[KT.rk,KT.eqb,jW,eqbL_rk l m]
 | .int _,.str _=>by simp[KT.rk,KT.eqb,jW]
 | .int _,.tup _=>by simp[KT.rk,KT.eqb,jW]
 | .str _,.int _=>by simp[KT.rk,KT.eqb,jW]
 | .str _,.tup _=>by simp[KT.rk,KT.eqb,jW]
 | .tup _,.int _=>by simp[KT.rk,KT.eqb,jW]
 | .tup _,.str _=>by simp[KT.rk,KT.eqb,jW]
def eqbL_rk:∀ l m:jq,jW (rkL l) (rkL m)=jW l m
 | [],[]=>by simp[rkL,jW]
 | a::l,b::m=>by simp[rkL,jW,Hu a b,eqbL_rk l m]
 | [],_::_=>by simp[rkL,jW]
 | _::_,[]=>by simp[rkL,jW]
end
mutual
def Gq:∀ a b:KT,a.rk.cmp b.rk=true
 | .int i,.int j=>by simp[KT.rk,KT.eqb,KT.cmp,cmpL,jW]
 | .str x,.str y=>by simp[KT.rk,KT.eqb,KT.cmp,cmpL,jW]
 | .tup l,.tup m=>by simp[KT.rk,KT.eqb,KT.cmp,cmpL,cmpL_rk l m]
 | .int _,.str _=>by simp[KT.rk,KT.eqb,KT.cmp,cmpL]
 | .int _,.tup _=>by simp[KT.rk,KT.eqb,KT.cmp,cmpL]
 | .str _,.int _=>by simp[KT.rk,KT.eqb,KT.cmp,cmpL]
 | .str _,.tup _=>by simp[KT.rk,KT.eqb,KT.cmp,cmpL]
 | .tup _,.int _=>by simp[KT.rk,KT.eqb,KT.cmp,cmpL]
 | .tup _,.str _=>by simp[KT.rk,KT.eqb,KT.cmp,cmpL]
def cmpL_rk:∀ l m:jq,cmpL (rkL l) (rkL m)=true
 | [],_=>by simp[rkL,cmpL]
 | _::_,[]=>by simp[rkL,cmpL]
 | a::l,b::m=>by
  rw[rkL,rkL,cmpL,cmpL_rk l m,Gq a b];split <;> rfl
end
mutual
def Ed:∀ a b:KT,a.rk.plt b.rk=a.lt b
 | .int i,.int j=>by
  simp only[KT.rk,KT.eqb,KT.plt,pltL,jW,KT.lt,beq_self_eq_true,if_true];by_cases h:i=j
  ·subst h;simp
  ·simp[h]
 | .str x,.str y=>by
  simp only[KT.rk,KT.eqb,KT.plt,pltL,jW,KT.lt,beq_self_eq_true,if_true];by_cases h:x=y
  ·subst h;simp
  ·simp[h]
 | .tup l,.tup m=>by
  simp only[KT.rk,KT.eqb,KT.plt,pltL,KT.lt,beq_self_eq_true,if_true,eqbL_rk,pltL_rk l m]
  cases h:jW l m with
  | true=>rw[aO rfl,Fh h]
  | false=>rw[aM zU]
 | .int _,.str _=>by simp[KT.rk,KT.eqb,KT.plt,pltL,KT.lt]
 | .int _,.tup _=>by simp[KT.rk,KT.eqb,KT.plt,pltL,KT.lt]
 | .str _,.int _=>by simp[KT.rk,KT.eqb,KT.plt,pltL,KT.lt]
 | .str _,.tup _=>by simp[KT.rk,KT.eqb,KT.plt,pltL,KT.lt]
 | .tup _,.int _=>by simp[KT.rk,KT.eqb,KT.plt,pltL,KT.lt]
 | .tup _,.str _=>by simp[KT.rk,KT.eqb,KT.plt,pltL,KT.lt]
def pltL_rk:∀ l m:jq,pltL (rkL l) (rkL m)=ltL l m
 | [],[]=>by simp[rkL,pltL,ltL]
 | [],_::_=>by simp[rkL,pltL,ltL]
 | _::_,[]=>by simp[rkL,pltL,ltL]
 | a::l,b::m=>by rw[rkL,rkL,pltL,ltL,Hu a b,pltL_rk l m,Ed a b]
end
mutual
def HU:∀ t:KT,t.rk.depth<=2 * t.depth+2
 | .int i=>by simp[KT.rk,KT.depth,jX]
 | .str x=>by simp[KT.rk,KT.depth,jX]
 | .tup l=>by
  have:=depthL_rk l;simp only[KT.rk,KT.depth,jX]
  lia
def depthL_rk:∀ l:jq,jX (rkL l)<=2 * jX l+2
 | []=>by simp[rkL,jX]
 | t::l=>by
  let a:=HU t;let b:=depthL_rk l;rw[rkL,jX,jX]
  lia
end
inductive VM(n:Nat)(c:je)(H:Hp)(Q:VK)(_:XK):Prop
 |mk(v:V)(t:KT)(q:Nat)(_:c=[v])(_:ZG H t v)(_:t.fits q=true)(_:t.depth<n)(_:∀(b:V)(a:Hp),ZG a t.rk b->ZB H a->Q b a)
def Cj:ZA zE5 zE5 (Ze Mq):=Z4
def ZMJ{n:Nat}(F:Zn K "_law_rank" "_law_rank" Mq f fd)(T:YZ mg)(DS:ZC P w K mg kf (n+1) "_law_rank" zE5 (VM n)):ZK P w K mg kf Zc (n+2) f fd zE5 (VM (n+1)):=by
 refine F.ko Cj λa5 A a4 s H j Q E hr h=>?_;let⟨v,t,q,rfl,d,hq,hn,k⟩:=h;intro Xc;refine⟨_,ZN (Zy (Yk (Zp Xx rfl T.isi XG (Zd (pv 0) (Xw (v:=.ty "int") rfl T.int U8 rfl)))) (ZV (Zq (Ym (Pm ZM (pv 0) Yn (Ym Zt))))) Z0)
  (ZN (Zy (Yk (Zp Xx rfl T.isi XG (Zd (pv 0) (Xw (v:=.ty "str") rfl T.str Nh rfl)))) (ZV (Zq (Ym (Pm ZM ZM (pv 0) (Ym Zt))))) Z0)
  (ZV (Zq (Ym (Pm ZM ZM Yn (Wt NG rfl T.tuple Qr (ZX (Um [] [] rfl (KM (pv 0)) (λ_ _ _ _ _=>V4) (λ_ _ _ _ _=>Zk DS hr (ZX (pv 0))) trivial)))))))),?_⟩
 cases t with
 | int i=>
  let O:v=.int i:=by rw[ZG] at d;exact d
  subst O;refine⟨_,Z,_,_,_,_,Z,d.ty,OC,_,Z,Z6 ?_⟩;refine⟨_,Z,(by show 0<=ap;decide),λp0 V=>⟨(by show 4<=ap;decide),λp X=>?_⟩⟩
  let S:=Zb V (.tup []);let r:=Zb X (.tup [.int 0,.int i,.str "",.ref p0]);refine k _ _ ?_ (S.trans r);rw[KT.rk];exact .tup ZP (.cons (.int 0) (.cons (.int i) (.cons (.str _) (.cons (.tup (r _ _ ZP) .nil) .nil))))
 | str x=>
  let O:v=.str x:=by rw[ZG] at d;exact d
  subst O;refine⟨_,Z,_,_,_,_,Z,d.ty,J8,_,Z,Zj ?_⟩;refine⟨_,Z,_,_,_,_,Z,d.ty,Ni,_,Z,Z6 ?_⟩;refine⟨_,Z,(by show 0<=ap;decide),λp0 V=>⟨(by show 4<=ap;decide),λp X=>?_⟩⟩
  let S:=Zb V (.tup []);let r:=Zb X (.tup [.int 1,.int 0,.str x,.ref p0]);refine k _ _ ?_ (S.trans r);rw[KT.rk];exact .tup ZP (.cons (.int 1) (.cons (.int 0) (.cons (.str x) (.cons (.tup (r _ _ ZP) .nil) .nil))))
 | tup l=>
  let G:=d;rw[ZG] at G;let⟨a,j,rfl,J,I⟩:=G;let hl:=I.length;rw[KT.fits,zQ,zQ] at hq;let⟨a9,a1,C⟩:=hq;let a8:l.length<=4:=of_decide_eq_true a1;rw[KT.depth] at hn;refine⟨_,Z,_,_,_,_,Z,d.ty,Jp,_,Z,Zj ?_⟩;refine⟨_,Z,_,_,_,_,Z,d.ty,Kk,_,Z,Zj ?_⟩;exists _,Z,a,Z,⟨j,Za.of J⟩;refine Vv (n:=j.length) (λi z=>j[i]? = some z) (λD i m u=>ZB H u/\H D=none/\jU u ((l.take i).map KT.rk) m) (YO ∅)
   (λD i m u W g=>⟨j,j[i],Za.of (g.1 _ _ J),by simp[W]⟩) (λD i m u z y W g hy=>⟨hy.1,hy.2 j (Za.of (g.1 _ _ J))⟩) (λD m u g=>⟨j,Za.of (g.1 _ _ J),zY _⟩)
   (λD hD=>⟨Zb hD _,hD,.nil⟩) (λD i m u z N a7 W hz g R hR=>?_) (λD m u N g=>?_)
  ·let⟨M,nD,c⟩:=g;let⟨t,L,kt⟩:=I.get hz;let mt:=zC L;let a2:t.fits (q-1)=true:=by
    rw[N2] at C;exact zF.mp C t mt
   let a6:=NT mt;exists _,Z,z,t,q-1,Z,kt.sm M,a2,by lia
   intro v' y k4 s4;let B:=s4 D _ N;let tD:YR y (upd y D (.lst (m++[v']))):=(ZH.refl D y).upd.tups B;refine hR v' y B ⟨λb o e=>by rw[ZO (ZW e nD)];exact s4 b o (M b o e),nD,?_⟩
   rw[yM,L,yO];exact((c.sm s4).append (.cons k4 .nil)).mono tD _ _
  ·let⟨M,nD,c⟩:=g;let L:l.take j.length=l:=yQ ∅
   rw[L] at c;let a3:=c.length;rw[zX] at a3;refine⟨D,m,Z,.inl ⟨ZF.of N,λp1 Y=>?_⟩⟩;let r:=Zb Y (.tup m);exists (by show 4<=ap;decide)
   intro p2 a0;let U:=Zb a0 (.tup [.int 2,.int 0,.str "",.ref p1]);refine k _ _ ?_ ((M.trans r).trans U);rw[KT.rk,EO];exact .tup ZP (.cons (.int 2) (.cons (.int 0) (.cons (.str _) (.cons (.tup (U _ _ ZP) (c.sm (r.trans U))) .nil))))
def Fi(T:YZ mg)(L:Zl K mg "_law_rank" Mq zE5):∀ n:Nat,ZC P w K mg kf (n+1) "_law_rank" zE5 (VM n)
 | 0=>L.of λ_ _ _=>Hb λb H Q E h=>by let⟨v,t,q,_,_,_,a,_⟩:=h;lia
 | n+1=>L.of λ_ _ F=>ZMJ F T (Fi T L n)
def Dt:ZA zEv zEv (Ze IW):=Z4
def ZM1(F:Zn K "_law_less" "_law_less" IW f fd)(e:ZC P w K mg kf 6 "_law_rank" zE5 (VM 5)):ZK P w K mg kf Zc 7 f fd zEv Y1:=by
 refine F.ko Dt λn A d s H G Q E c h=>?_;let⟨v,u,a,b,rfl,o,p,g,i,k⟩:=h;intro x;exists _,ZV (Zq (VT (FI c) (Zk e c (ZX (pv 0))) (Zk e c (ZX (pv 1))) (Z3 _)));let y:=Pb a 3 g;let z:=Pb b 3 i;let B:=HU a;exists _,Z,v,a,3,Z,o,g,by lia
 intro C t q j;exists _,Z,u,b,3,Z,p.sm j,i,by lia
 intro D m r l;exists a.rk,b.rk,q.sm l,r,Gq a b,by lia
 rw[Ed];exact k m (j.trans l)
end Tw
namespace L2
open PySem PySem.Spec PyProof.Rows
inductive PN(b:zZ)(c:je)(H:Hp)(Q:VK):Prop
 |mk(p:aj)(a:jw)(_:c=[.ref p])(_:ZF b H p (a.map V.int))(_:Q (.int a.sum) H)
def ZPI(g:X.calm=true):Wq X (.builtin "sum") (PN X.K):=by
 intro d s A H z y Q I r h;let⟨p,c,rfl,j,q⟩:=h;let⟨u,rfl,m⟩:=Vd r;cases m;let⟨k,n,l,x⟩:=I.list j;let a:=IK n;let⟨v,e⟩:=a.allInts.items;let b:=l.isList;rw[e] at b;let f:v.toList.map (·.1)=c:=by
  rw[<-nums_intItems,<-e];exact a.numsOf
 refine sum_intListG (I.ok.hd g) b λw t o i=>⟨.int c.sum,H,I.kept (t':=t) i,⟨o,?_⟩,q⟩;rw[preSum_eq,yQ (by simp),f]
end L2
namespace Tw
open PySem PySem.Spec L2 PyProof.Rows
variable{jg jh CS CT CH CK CP CB:aj}
def Bx:ax "sum" = some (.builtin "sum"):=by decide +kernel
structure YW where
 h:Int
 lo:KT
 hi:KT
 m:Int
abbrev jJ:=List YW
def YW.d:YW:=⟨0,.int 0,.int 0,0⟩
def YW.kt(L:YW):KT:=.tup [.int L.h,L.lo,L.hi,.int L.m]
inductive Z9(H:Hp)(L:YW)(u:V):Prop
 |mk(a c b:_)(_:u=.ref a)(_:H a=some (.tup [.int L.h,c,b,.int L.m]))(_:ZG H L.lo c)(_:ZG H L.hi b)
def Z9.mono{H d:Hp}{L:YW}{u:V}(x:Z9 H L u)(m:YR H d):Z9 d L u:=by
 let⟨a,c,b,e,f,g,h⟩:=x;exact⟨a,c,b,e,m _ _ f,g.mono m _ _,h.mono m _ _⟩
def Z9.key{H:Hp}{L:YW}{u:V}(x:Z9 H L u):ZG H L.kt u:=by
 let⟨a,f,e,rfl,b,c,d⟩:=x;exact .tup b (.cons (.int _) (.cons c (.cons d (.cons (.int _) .nil))))
def Yb(H:Hp)(a:jJ)(b:je):Prop:=b.length=a.length/\∀ i u,b[i]? = some u->Z9 H (a.getD i .d) u
def Yb.mono{H a:Hp}{b:jJ}{c:je}(x:Yb H b c)(m:YR H a):Yb a b c:=⟨x.1,λi u e=>(x.2 i u e).mono m⟩
def YW.fit(L:YW):Prop:=L.lo.fits 3=true/\L.hi.fits 3=true
def Qm(a b:YW):Bool:=(a.h==b.h)&&a.hi.lt b.lo
def LM(a:jJ):Bool:=(zR (a.length-1)).all λj=>Qm (a.getD j .d) (a.getD (j+1) .d)
def over(a:jJ):Option YW:=if 2<=a.length/\a.length<=4/\LM a=true then some ⟨(a.getD 0 .d).h+1,(a.getD 0 .d).lo,(a.getD (a.length-1) .d).hi,(a.map YW.m).sum⟩ else none
def Hi{a:jJ}(h:¬ (2<=a.length/\a.length<=4)):over a=none:=aM λz=>h ⟨z.1,z.2.1⟩
def As{a:jJ}{i:Nat}(b:i+1<a.length)(h:Qm (a.getD i .d) (a.getD (i+1) .d)=false):over a=none:=aM λz=>by
 have:=zF.mp z.2.2 i (xL.mpr ∅)
 rw[h] at this;cases this
def ZLF{ls:jJ}(a:2<=ls.length)(b:ls.length<=4)(h:∀ j,j<ls.length-1->Qm (ls.getD j .d) (ls.getD (j+1) .d)=true):over ls=some ⟨(ls.getD 0 .d).h+1,(ls.getD 0 .d).lo,(ls.getD (ls.length-1) .d).hi,(ls.map YW.m).sum⟩:=
 aO ⟨a,b,zF.mpr λj c=>h j (xL.mp c)⟩
inductive QD(d:je)(H:Hp)(Q:VK)(_:XK):Prop
 |mk(v u:V)(a b:YW)(_:d=[v,u])(_:Z9 H a v)(_:Z9 H b u)(_:a.fit)(_:b.fit)(_:∀ c,ZB H c->Q (.bl (Qm a b)) c)
def ZPE:ZA zE4 zE4 (Ze Kq):=Z4
def Dd(F:Zn K "stand_side_by_side" "stand_side_by_side" Kq f fd)(T:YZ mg)(r:ZC P w K mg kf 7 "ahead" zE6 Y1):ZK P w K mg kf Zc 8 f fd zE4 QD:=by
 refine F.ko ZPE λB A l s H X Q E J h=>?_;let⟨v,u,a,b,rfl,G,I,C,D,k⟩:=h;let⟨U,o⟩:=T.height;let⟨V,N⟩:=T.least;let⟨W,O⟩:=T.greatest;let⟨p,x,c,rfl,m,L,i⟩:=G;let⟨q,d,y,rfl,n,j,M⟩:=I;intro S;refine⟨_,ZV (Zq (Q0 (VT WT (Zi K (pv 0) (WN (v:=.int 0) rfl o ⟨_,rfl⟩)) (Zi K (pv 1) (WN (v:=.int 0) rfl o ⟨_,rfl⟩)) (Z3 _))
  (OH (Zk r J (Zd (Zi K (pv 0) (WN (v:=.int 2) rfl O ⟨_,rfl⟩)) (Zi K (pv 1) (WN (v:=.int 1) rfl N ⟨_,rfl⟩))))))),?_⟩
 refine⟨_,Z,.inr (.inl ⟨p,_,_,.int a.h,rfl,rfl,Za.of m,rfl,?_⟩)⟩;refine⟨_,Z,.inr (.inl ⟨q,_,_,.int b.h,rfl,rfl,Za.of n,rfl,rfl,_,rfl,?_⟩)⟩;by_cases g:a.h=b.h
 ·rw[aK (by rw[g])]
  refine Z6 ?_;refine⟨_,Z,.inr (.inl ⟨p,_,_,c,rfl,rfl,Za.of m,rfl,?_⟩)⟩;refine⟨_,Z,.inr (.inl ⟨q,_,_,d,rfl,rfl,Za.of n,rfl,c,d,a.hi,b.lo,rfl,i,j,C.2,D.1,λt R=>?_⟩)⟩;let e:a.hi.lt b.lo=Qm a b:=by unfold Qm;rw[g,beq_self_eq_true,uV]
  rw[e];exact k t R
 ·rw[aJ (λz=>g (ZKu z))];refine Zj ?_;let e:false=Qm a b:=by unfold Qm;rw[beq_eq_false_iff_ne.mpr g,uT]
  rw[e];exact k H (ZB.refl H)
abbrev Q7:jd:=[.type "ValueError",.type "Exception",.type "BaseException",.type "object"]
def ZEf:ax "ValueError" = some (.type "ValueError"):=by decide +kernel
inductive X6(CS:aj)(e:je)(H:Hp)(Q:VK)(E:XK):Prop
 |mk(l:aj)(c:je)(b:jJ)(_:e=[.ref l])(_:H l=some (.lst c))(_:Yb H b c)(_:∀ i,(b.getD i .d).fit)(_:c.length<=100)(_:∀ a,ZB H a->(over b=none->E (.ref CS) none a)/\∀ L v,over b=some L->ZG a L.kt v->Q v a)
abbrev ZPk:js:=["labels","at","many"]
def QI:ZA ZPk zFc (Ze IN):=Z4
end Tw
namespace L2
open PySem PySem.Spec PyProof.Rows
def ZDM:fillsNumberSlot (.type "tuple") "mul" = pure false:=
 PySem.fillsNumberSlot_seq (id:= "tuple.__mul__") (r:=some (.builtin "tuple.__rmul__")) uA.lookup (by decide +kernel) qW.lookup (by decide +kernel)
def Ev:seqRepeat? (.type "tuple")=pure (some (.builtin "tuple.__mul__")):=by
 unfold seqRepeat?;rw[PySem.seqSlot_of (T:= "tuple") (name:= "__mul__") (id:= "tuple.__mul__") uA.lookup (by decide +kernel),PySem.seqSlot_of (T:= "tuple") (name:= "__rmul__") (id:= "tuple.__rmul__") qW.lookup (by decide +kernel)]
 rfl
def ZLR(a:Int)(t:Tok)(l:aj)(b:jA)(n:Nat)(e:jy)(f:Array (jc)):
  Meets (Builtin.«int.__rmul__» ⟨[.int a t,.ref l],[]⟩) (λ_ R s=>s.heap.get? l=some { cls:=.type "tuple",dict:=e,data:=.seq b n,slots:=f }/\R (.ok (.ret Value.notImplemented)) s):=
 .of_wp λc w A R s h=>by let⟨j,g,d,m,k⟩:=s;let⟨i,h⟩:=h;wp_walk;exact⟨_,Z,h⟩
def ZP7(u:Tok)(l:aj)(a:jA)(n:Nat)(c:jy)(e:Array (jc)):
  Meets (Builtin.«tuple.__mul__» ⟨[.ref l,.int 1 u],[]⟩) (λ_ R s=>s.heap.get? l=some { cls:=.type "tuple",dict:=c,data:=.seq a n,slots:=e }/\R (.ok (.ret (.ref l))) s):=
 .of_wp λb w A R s h=>by
  let⟨i,g,d,k,j⟩:=s;let⟨f,h⟩:=h;unfold Builtin.«tuple.__mul__»
  wp_walk
  exact⟨_,Z,h⟩
def Ai(u:Tok)(l:aj)(x:ai)(n:Nat)(b:jy)(c:Array (jc)):
  Meets (Builtin.«tuple.__mul__» ⟨[.ref l,.int 0 u],[]⟩) (λ_ R s=>s.heap.get? l=some { cls:=.type "tuple",dict:=b,data:=.seq #[x] n,slots:=c }/\R (.ok (.ret (.ref s.heap.objs.size))) { s with heap:=s.heap.push { cls:=.type "tuple",data:=.seq #[] } }):=
 .of_wp λa w A R s h=>by
  let⟨f,g,d,j,i⟩:=s;let⟨e,h⟩:=h;unfold Builtin.«tuple.__mul__»
  wp_walk
  exact⟨_,Z,h⟩
inductive Nd(K:zZ)(x y:V)(H:Hp)(Q:VK):Prop
 |mk(a:aj)(v:V)(n:Int)(_:x=.ref a)(_:y=.int n)(_:Za K H a [v])(_:n=1/\Q (.ref a) H\/n=0/\∀ p,H p=none->Q (.ref p) (upd H p (.tup [])))
def Eh:Ys X (binaryOp .Mult) (Nd X.K):=by
 intro i s E H x y v u Q I A B h;let⟨a,z,n,rfl,rfl,k,l⟩:=h;cases A;let⟨t,rfl⟩:=B;let⟨p,w,r,_⟩:=I.tuple k;let⟨D,rfl,_⟩:=Vd w;let⟨⟨cls,e,data,f⟩,c,d,m,g⟩:=id r;simp only at d g;subst d g;refine wpAny_binaryOp_repeat_ref (T:= "tuple") (U:= "int") (by decide) ⟨_,c,Z⟩ (λC=>typeIs_int C n t) ZDM PySem.F.fills_int_mul rH Ev PySem.F.slot_int_index.lookup
  (call_meets rH (typeIs_int s n t) PySem.F.entry_int_rmul (PySem.F.args_int_rmul_2 _ _) (ZLR n t a _ m e f) ⟨c,rfl,⟨_,c,rfl⟩,?_⟩)
 rcases l with ⟨rfl,q⟩ | ⟨rfl,q⟩
 ·exact call_meets uA ⟨_,c,Z⟩ qZ (qR _ _) (ZP7 t a _ m e f) ⟨c,⟨.ref a,H,I,Z,q⟩⟩
 ·refine call_meets uA ⟨_,c,Z⟩ qZ (qR _ _) (Ai t a _ m e f) ⟨c,?_⟩;let j:=I.laid (a:=s.heap.objs.size) (o:=.tup []) (h':=s.heap.push { cls:=.type "tuple",data:=.seq #[] }) (t':=s.toks) (λb u q=>zT _ q) (zY _)
   ⟨yW _,[],.nil,_,yU _ rfl,rfl,0,rfl⟩
  exact⟨.ref s.heap.objs.size,_,j,Z,q _ (I.hok.fresh (zY _))⟩
inductive Ue(x y:V)(H:Hp)(Q:VK):Prop
 |mk(i n:_)(_:x=.str i)(_:y=.int n)(_:i.length=1)(_:n=1/\Q (.str i) H\/n=0/\Q (.str "") H)
def ZKO:Ys X (binaryOp .Mult) (Ue):=by
 intro b s g H x y v u Q I d e h;let⟨i,n,rfl,rfl,a,c⟩:=h;let⟨t,rfl⟩:=d;let⟨f,rfl⟩:=e;rcases c with ⟨rfl,q⟩ | ⟨rfl,q⟩
 ·refine PySem.P.mul_str ?_ (λ_ _=>?_) (λ_ _=>?_) ?_
  ·decide
  ·rw[a];decide
  ·rw[a];decide
  ·rw[aM (by decide),aO (by simp)]
   exact⟨.str i,H,I,⟨t,Z⟩,q⟩
 ·refine PySem.P.mul_str ?_ (λz _=>?_) (λz _=>?_) ?_
  ·decide
  ·first | exact absurd z (by decide) | (rw[a];decide)
  ·first | exact absurd z (by decide) | (rw[a];decide)
  ·rw[aO (by decide)]
   exact⟨yW _,⟨.str "",H,I.tok _,⟨_,Z⟩,q⟩⟩
end L2
namespace Tw
open PySem PySem.Spec L2
variable{jg jh CS CT CH CK CP CB:aj}
def YS:Str:= "!#$&()*+,-./0123456789:;<=>?@ABCDEFGHIJKLMNOPQRSTUVWXYZ"
def J7:YS.cps.toList.length=55:=by decide +kernel
def Em:YS.cps.toList.all QU=true:=by decide +kernel
def Ha{i:Int}(a:0<=i)(b:i<55):∃ c,Xt YS.cps.toList i=some c/\QU c=true:=by
 let⟨c,e,m⟩:=LL (xs:=YS.cps.toList) a (by rw[J7];exact b)
 exact⟨c,e,zF.mp Em c m⟩
def Zv(x:Str)(i:Nat):Prop:=x.cps.size<=i/\x.cps.toList.all QU=true
def Zv.ok{x:Str}{i:Nat}(h:Zv x i)(a:i<=40):Oj x=true:=ZMu (zE h.1 a) h.2
def Zv.cat{x y:Str}{i j:Nat}(h:Zv x i)(g:Zv y j):Zv (x++y) (i+j):=by
 let e:(x++y).cps=x.cps++y.cps:=rfl;exists ?_
 ·rw[e,Array.size_append];exact tR h.1 g.1
 ·rw[e,sQ,List.all_append,h.2,g.2];rfl
def Zv.one{c:Nat}(h:QU c=true):Zv ⟨#[c]⟩ 1:=⟨zY _,by simp[h]⟩
def Zv.k:Zv "k" 1:=by unfold Zv;decide +kernel
def Zv.a:Zv "a" 1:=by unfold Zv;decide +kernel
def Zv.e:Zv "" 0:=by unfold Zv;decide +kernel
def NH{n:Int}(h:n.natAbs<10 ^ 60)(r:Nat):(KT.int n).fits r=true:=by rw[KT.fits];exact aK h
def Lc{x:Str}{i:Nat}(h:Zv x i)(a:i<=40)(r:Nat):(KT.str x).fits r=true:=by rw[KT.fits];exact h.ok a
def Eu{n:Int}(h:n.natAbs<10 ^ 60):(KT.tup [.str "",.int n]).fits 3=true:=GX (yR Z) (by
 rw[fitsL,fitsL,fitsL,NH h 2,Lc Zv.e (by decide) 2];rfl)
def Bs{n:Int}(h:n.natAbs<10 ^ 60):(KT.tup [.str "",.int n,.int 0]).fits 3=true:=GX (yR Z) (by
 rw[fitsL,fitsL,fitsL,fitsL,NH h 2,Lc Zv.e (by decide) 2,NH (n:=0) (by decide) 2];rfl)
def Gs{n:Int}(a : -10000<=n)(b:n<=10000):n.natAbs<10 ^ 60:=xJ (show n.natAbs<=10000 by lia) (by decide)
def Am:YS.cps.toList.Pairwise (· < ·):=by decide +kernel
def Fp{i j:Int}{c d:Nat}(l:0<=i)(h:i<j)(m:j<55)(e:Xt YS.cps.toList i=some c)(f:Xt YS.cps.toList j=some d):c<d:=by
 obtain⟨a,rfl⟩:∃ a:Nat,i=(a:Int):=⟨i.toNat,∅⟩
 obtain⟨b,rfl⟩:∃ b:Nat,j=(b:Int):=⟨j.toNat,∅⟩
 let g:a<YS.cps.toList.length:=by rw[J7];lia
 let k:b<YS.cps.toList.length:=by rw[J7];lia
 rw[Xd (zV g)] at e;rw[Xd (zV k)] at f;cases e;cases f;exact List.pairwise_iff_getElem.mp Am a b g k ∅
inductive GK:KT->Nat->Int->Prop
 | int (sz:Int):GK (.int (sz-700)) 0 sz
 | str {x:Str} {sz:Int} {c1 c2:Nat} {tl:jp} (h:x.cps.toList=107::c1::c2::tl) (h1:Xt YS.cps.toList (sz / 50)=some c1) (h2:Xt YS.cps.toList (sz % 50)=some c2):GK (.str x) 1 sz
 | tup (sz:Int) (l:jq):GK (.tup (.str ""::.int sz::l)) 2 sz
def Bn{a b:KT}{c d:Nat}{s r:Int}(m:GK a c s)(f:GK b d r)(q:c<=d)(h:s<r)(p:0<=s)(t:r<=1280):a.lt b=true:=by
 cases m with
 | int=>
  cases f with
  | int=>rw[KT.lt];exact aK ∅
  | str=>rw[KT.lt]
  | tup=>rw[KT.lt]
 | str i e j=>
  cases f with
  | int=>lia
  | str k g l=>
   rw[KT.lt,i,k];refine aK ?_;refine List.Lex.cons ?_;rcases(show s / 50<r / 50\/(s / 50=r / 50/\s % 50<r % 50) by lia) with z | ⟨n,o⟩
   ·exact List.Lex.rel (Fp ∅ z ∅ e g)
   ·rw[n,g] at e;cases e;exact List.Lex.cons (List.Lex.rel (Fp ∅ o ∅ j l))
  | tup=>rw[KT.lt]
 | tup=>
  cases f with
  | int=>lia
  | str=>lia
  | tup=>
   rw[KT.lt,ltL,aO (by rw[KT.eqb];exact beq_self_eq_true _),ltL,aM (by rw[KT.eqb];simp;lia),KT.lt]
   exact aK h
def cls(o a:Int)(i:Nat):Nat:=if (i:Int)<o then 0 else if (i:Int)<o+a then 1 else 2
def Dy(o a:Int)(i:Nat)(h:0<=a):cls o a i<=cls o a (i+1):=by
 unfold cls;split
 ·split <;> (try split) <;> lia
 ·split
  ·rw[aM ∅]
   split <;> lia
  ·rw[aM ∅,aM ∅]
   exact zY _
def GI(o f:Int)(i:Nat)(e:Int)(d:jq):Prop:=d.Pairwise (λa b=>a.lt b=true)/\∀ t∈d,∃ c s,GK t c s/\c<=cls o f i/\0<=s/\s<=e
def ZNz{o f:Int}{i:Nat}{k d:Int}{n:jq}{t:KT}(u:0<=f)(h:GI o f i k n)(y:k<d)(p:d<=1280)(w:0<=k)(m:GK t (cls o f i) d):GI o f (i+1) d (n++[t]):=by
 refine⟨?_,λx e=>?_⟩
 ·rw[vF];exists h.1,rL _ _;intro a q b r;rw[zI.mp r];let⟨c,s,g,l,j,v⟩:=h.2 a q;exact Bn g m l ∅ j p
 ·have:=Dy o f i u;rcases yX.mp e with e | e
  ·let⟨c,s,g,l,j,v⟩:=h.2 x e;exact⟨c,s,g,∅,j,∅⟩
  ·rw[zI.mp e];exact⟨_,d,m,this,∅,Int.le_refl _⟩
inductive QQ(g:je)(H:Hp)(Q:VK)(_:XK):Prop
 |mk(p:aj)(_:g=[.ref p])(_:ZJ H p)(_:∀(D:aj)(e:je)(d:jq)(c:Hp),ZH p H c->ZJ c p->H D=none->c D=some (.lst e)->jU c d e->(∀ t∈d,t.fits 3=true)->e.length=64->d.Pairwise (λa b=>a.lt b=true)->Q (.ref D) c)
abbrev ZPv:js:=["_law_well_here","_law_signs","_law_found","_law_size","_law_one","_law_two","_law_j"]
def QF:ZA ZPv zE9 (Ze IM):=Z4
def BW(F:Zn K "_law_grid" "_law_grid" IM f fd)(T:YZ mg)(DP:ZC P w K mg kf 1 "_law_pull" zEe YQ):ZK P w K mg kf Zc 2 f fd zE9 QQ:=by
 refine F.ko QF λc9 A c0 s H vs Q E hr h=>?_;let⟨p,rfl,W,k⟩:=h;let M:=QF.nd;intro Xc;refine⟨_,ZN (Zo 1 M Yn)
  (ZN (Zo 2 M (XH Zt))
  (ZN (Zo 3 M ZM)
  (ZN (Zo 4 M (Zk DP hr (Zd (pv 0) ZM)))
  (ZN (Zo 5 M (Zu Xm (pv 4) (Zk DP hr (Zd (pv 0) (Zu QP ZM (pv 4))))))
  (ZN (WU PassesOwn.never rfl (P3 rfl T.range (ZX ZM)) (Ye 6 M)
   (ZN (Zo 3 M (Zu Xm (Zu Xm (pv 3) ZM) (Zk DP hr (Zd (pv 0) ZM))))
   (ZV (Zy (YJ P1 (pv 6) (pv 4) (Z3 _))
    (ZV (Xu (Vn yJ xV xU V1 (pv 2) (ZX (Zu QP (pv 3) ZM)))))
    (ZV (Zy (YJ P1 (pv 6) (pv 5) (Z3 _))
     (ZV (Xu (Vn yJ xV xU V1 (pv 2) (ZX (Zu JD (Zu JD (Zu JD Yn (Zi K (pv 1) (Zu MJ (pv 3) ZM))) (Zi K (pv 1) (Zu Qb (pv 3) ZM))) (Zu ZKO Yn (Zu Qb (pv 6) ZM)))))))
     (ZV (Xu (Vn yJ xV xU V1 (pv 2) (ZX (Zu ZNA (Ym (Zd Yn (pv 3))) (Zu Eh (Ym (ZX ZM)) (Zu Qb (pv 6) ZM)))))))))))))
  (ZV (Zq (pv 2)))))))),?_⟩
 exists (by show 0<=ap;decide)
 intro D nD;let g0:=Zb nD (.lst []);let W0:=W.same g0;let y:D≠p:=by let⟨xs,e⟩:=W.some;exact(ZW e nD).symm
 exists _,Z,p,65,Z,W0,Ws (by decide) (by decide)
 intro o H1 o0 o1 W1 s1;exists _,Z,_,Z,_,Z,_,_,Z,Z,p,_,Z,W1,Ws nofun (xJ (show (65-o).natAbs<=65 from nofun) (by decide))
 intro B H2 c6 e0 W2 s2;exists _,_,Z,Z;let a3:H2 D=some (.lst []):=s2 D _ (s1 D _ ZP y) y;let c5:ZH p H H2:=((ZH.of g0).trans s1).trans s2;refine⟨64,Z,by decide,by decide,Ps (n:=64) (λi σ C=>∃(l:Int)(x:jf)(j:je)(N:jq),σ=[some (.ref p),some (.str YS),some (.ref D),some (.int l),some (.int o),some (.int (o+B)),x]/\0<=l/\l<=20 * i/\ZH p H C/\ZJ C p/\C D=some (.lst j)/\jU C N j/\(∀ t∈N,t.fits 3=true)/\j.length=i/\GI o B i l N)
  ⟨0,none,[],[],Z,by decide,by decide,c5,W2,a3,.nil,λt ht=>absurd ht (by simp),Z,.nil,λt ht=>absurd ht (by simp)⟩ ?_ ?_⟩
 ·rintro i σ C hi ⟨l,x,j,N,rfl,z0,z1,s3,W3,I,kU,fU,lU,gU⟩;refine⟨_,Z,_,_,Z,Z,_,Z,p,20,Z,W3,Ws (by decide) (by decide),λr S r0 r1 W4 s4=>⟨_,_,Z,Z,?_⟩⟩
  let c4:ZH p H S:=s3.trans s4;let g:=s4 D _ I y;let a7:=kU.mono (s4.tupsW W3) _ _;obtain⟨d,a5,c7,c8⟩:∃ d:Int,l+1+r=d/\0<=d/\d<=20 * (i+1:Nat):=⟨_,Z,nofun,nofun⟩
  let a2:l<d:=nofun
  show QT 3 (V.int (l+1+r)) _ _ _;rw[a5];let m:∀(v:V)(t:KT)(q:Hp),ZB S q->ZG q t v->t.fits 3=true->GK t (cls o B i) d->∃(l:Int)(x:jf)(R:je)(O:jq),[some (V.ref p),some (.str YS),some (.ref D),some (.int d),some (.int o),some (.int (o+B)),some (.int (0+(i:Int)))]=[some (.ref p),some (.str YS),some (.ref D),some (.int l),some (.int o),some (.int (o+B)),x]/\0<=l/\l<=20 * (i+1:Nat)/\ZH p H (upd q D (.lst (j++[v])))/\ZJ (upd q D (.lst (j++[v]))) p/\upd q D (.lst (j++[v])) D=some (.lst R)/\jU (upd q D (.lst (j++[v]))) O R/\(∀ t∈O,t.fits 3=true)/\R.length=i+1/\GI o B (i+1) l O:=λv t q s5 kv fv a6=>by
   let a4:=s5 _ _ g;let tD:YR q (upd q D (.lst (j++[v]))):=(ZH.refl D q).upd.tups a4;refine⟨d,_,j++[v],N++[t],Z,c7,c8,λb u e n=>?_,?_,ZP,((a7.sm s5).append (.cons kv .nil)).mono tD _ _,λz hz=>?_,by simp[lU],ZNz c6 gU a2 nofun z0 a6⟩
   ·rw[ZO (ZW e nD)];exact s5 b u (c4 b u e n)
   ·let⟨a1,b1,c1,d1,hw,rr⟩:=(W4.same s5).ex;exact⟨a1,b1,c1,d1,by rw[ZO (Ne.symm y)];exact hw,rr⟩
   ·rcases yX.mp hz with h | h
    ·exact fU z h
    ·rw[zI.mp h];exact fv
  let U:d.natAbs<10 ^ 60:=Gs nofun nofun
  let X:(d-700).natAbs<10 ^ 60:=Gs nofun nofun
  exists _,Z,_,Z,_,_,Z,Z,_,Z;refine Xj (λc=>?_) (λc=>?_)
  ·exists _,Z,.inl ⟨Z,_,ZF.of g⟩,_,Z,_,_,Z,Z,D,j,_,Z,Z,g,YO nofun
   exact m _ (.int (d-700)) S (ZB.refl _) (.int _) (NH X 3) (by rw[show cls o B i=0 from aO (by have:=of_decide_eq_true c;lia (splits:=8))];exact .int _)
  exists _,Z,_,Z,_,_,Z,Z,_,Z;refine Xj (λc2=>?_) (λc2=>?_)
  ·let Y:cls o B i=1:=by unfold cls;rw[aM (by have:=of_decide_eq_false (uM.mpr c);lia (splits:=8)),aO (by have:=of_decide_eq_true c2;lia (splits:=8))]
   let⟨c1,J,a8⟩:=Ha (i:=d / 50) nofun nofun
   let⟨c3,L,a9⟩:=Ha (i:=d % 50) nofun nofun
   exists _,Z,.inl ⟨Z,_,ZF.of g⟩,_,Z,_,Z,_,_,Z,Z,⟨by decide,by decide⟩
   refine .inr (.inr ⟨YS,_,c1,rfl,rfl,(by decide +kernel),J,_,_,rfl,rfl,(by show 2<=ap;decide),?_⟩)
   refine⟨_,Z,_,Z,_,_,Z,Z,(show (0:Int)<50 by decide),.inr (.inr ⟨YS,_,c3,rfl,rfl,(by decide +kernel),L,_,_,rfl,rfl,(by show 3<=ap;decide),?_⟩)⟩
   let tx:Zv (("k" : Str)++⟨#[c1]⟩++⟨#[c3]⟩) 3:=(Zv.k.cat (.one a8)).cat (.one a9);rcases(show ((0:Int)+(i:Int)) % 2=1\/((0:Int)+(i:Int)) % 2=0 from nofun) with G | G
   ·refine⟨_,Z,_,_,Z,Z,(show (0:Int)<2 by decide),_,_,Z,Z,(by decide +kernel),.inl ⟨G,?_⟩⟩
    exists _,_,Z,Z,nn (zE (tR tx.1 Zv.a.1) (by decide)),D,j,_,Z,Z,g,YO nofun
    exact m _ (.str _) S (ZB.refl _) (.str _) (Lc (tx.cat .a) (by decide) 3) (by rw[Y];exact .str (tl:=[97]) Z J L)
   ·refine⟨_,Z,_,_,Z,Z,(show (0:Int)<2 by decide),_,_,Z,Z,(by decide +kernel),.inr ⟨G,?_⟩⟩
    exists _,_,Z,Z,nn (zE (tR tx.1 Zv.e.1) (by decide)),D,j,_,Z,Z,g,YO nofun
    exact m _ (.str _) S (ZB.refl _) (.str _) (Lc (tx.cat .e) (by decide) 3) (by rw[Y];exact .str (tl:=[]) Z J L)
  ·let Y:cls o B i=2:=by unfold cls;rw[aM (by have:=of_decide_eq_false (uM.mpr c);lia (splits:=8)),aM (by have:=of_decide_eq_false (uM.mpr c2);lia (splits:=8))]
   exists _,Z,.inl ⟨Z,_,ZF.of g⟩,_,Z,YA;intro t1 n1;let g1:=Zb n1 (.tup [.str "",.int d]);exists YA;intro t2 n2;let g2:=Zb n2 (.tup [.int 0]);let a0:=g1.trans g2;rcases(show ((0:Int)+(i:Int)) % 2=1\/((0:Int)+(i:Int)) % 2=0 from nofun) with G | G
   ·refine⟨_,Z,_,_,Z,Z,(show (0:Int)<2 by decide),t2,.int 0,_,Z,Z,Za.of ZP,.inl ⟨G,?_⟩⟩
    exists t1,t2,_,_,Z,Z,Za.of (g2 _ _ ZP),Za.of ZP,(by simp),YA,(λz=>absurd z (by simp))
    intro _ t3 n3;let g3:=Zb n3 (.tup ([.str "",.int d]++[.int 0]));let gA:=a0.trans g3;exists D,j,_,Z,Z,gA _ _ g,YO nofun
    exact m _ (.tup [.str "",.int d,.int 0]) _ gA (.tup ZP (.cons (.str _) (.cons (.int _) (.cons (.int _) .nil)))) (Bs U) (by rw[Y];exact .tup _ _)
   ·refine⟨_,Z,_,_,Z,Z,(show (0:Int)<2 by decide),t2,.int 0,_,Z,Z,Za.of ZP,.inr ⟨G,λt3 n3=>?_⟩⟩
    let g3:=Zb n3 (.tup []);let gA:=a0.trans g3;refine⟨t1,t3,_,_,Z,Z,Za.of (g3 _ _ (g2 _ _ ZP)),Za.of ZP,(by simp),YA,(λ_=>?_),λz=>absurd Z z⟩
    exists D,j,_,Z,Z,gA _ _ g,YO nofun
    exact m _ (.tup [.str "",.int d]) _ gA (.tup (g3 _ _ (g2 _ _ ZP)) (.cons (.str _) (.cons (.int _) .nil))) (Eu U) (by rw[Y];exact .tup _ _)
 ·rintro σ C ⟨l,x,j,N,rfl,z0,z1,s3,W3,I,kU,fU,lU,gU⟩;exact⟨_,Z,k D j N C s3 W3 nD I kU fU lU gU.1⟩
def NY{H:Hp}{L:YW}{u:V}(h:ZG H L.kt u):Z9 H L u:=by
 unfold YW.kt at h;rw[ZG] at h;let⟨a,q,rfl,e,b⟩:=h;rw[jU] at b;let⟨o,k,rfl,c,b⟩:=b;rw[jU] at b;let⟨i,l,rfl,f,b⟩:=b;rw[jU] at b;let⟨j,m,rfl,g,b⟩:=b;rw[jU] at b;let⟨p,n,rfl,d,b⟩:=b;rw[jU] at b;subst b;rw[ZG] at c d;subst c d;exact⟨a,i,j,Z,e,f,g⟩
def ZPp:YW.d.fit:=⟨NH (n:=0) (by decide) 3,NH (n:=0) (by decide) 3⟩
def HY(H:Hp)(b:jq)(c:je):Prop:=c.length=b.length/\∀ i u,c[i]? = some u->∃ a d e,u=.ref a/\H a=some (.tup [d,e])/\ZG H (b.getD i (.int 0)) d
def Mg(a:jq):KT:=.tup [.int 0,a.getD 0 (.int 0),a.getD (a.length-1) (.int 0),.int a.length]
def Dr{a:je}{u:V}(h:a[a.length-1]? = some u):Xt a (-1)=some u:=by
 let b:a≠[]:=λz=>by rw[z] at h;simp at h
 let e:a=a.dropLast++[u]:=by
  let c:a.getLast b=u:=by
   rw[rN];exact(yS.mp h).2
  rw[<-c,qP]
 rw[e];exact KP _ _
inductive Xb(d:je)(H:Hp)(Q:VK)(_:XK):Prop
 |mk(l:aj)(b:je)(c:jq)(_:d=[.ref l])(_:H l=some (.lst b))(_:HY H c b)(_:0<b.length)(_:∀(a:Hp)(v:V),ZB H a->ZG a (Mg c) v->Q v a)
def ZIS:ZA zE1 zE1 (Ze JX):=Z4
def ZH0(F:Zn K "label_of_rows" "label_of_rows" JX f fd)(T:YZ mg):ZK P w K mg kf Zc 1 f fd zE1 Xb:=by
 refine F.ko ZIS λq A i s H L Q E I h=>?_;let⟨l,c,J,rfl,e,d,u,k⟩:=h;intro C;refine⟨_,ZV (Zq (Ym (Pm ZM (Zi K (Zi K (pv 0) ZM) ZM)
  (Zi K (Zi K (pv 0) (Pn Pr ZM)) ZM) (Zp X9 rfl T.len Xa (ZX (pv 0)))))),?_⟩
 let m:c[0]? = some c[0]:=zV u;let n:c[c.length-1]? = some (c[c.length-1]'∅):=zV ∅
 let⟨a,o,D,r,z,x⟩:=d.2 0 _ m;let⟨b,bk,G,t,B,y⟩:=d.2 _ _ n;rw[r] at m;rw[t] at n;refine⟨_,Z,.inl ⟨l,c,_,.ref a,Z,Z,ZF.of e,Xd (j:=0) m,.inr (.inl ⟨a,_,_,o,rfl,rfl,Za.of z,rfl,?_⟩)⟩⟩;refine⟨_,Z,1,Z,.inl ⟨l,c,_,.ref b,Z,Z,ZF.of e,Dr n,.inr (.inl ⟨b,_,_,bk,rfl,rfl,Za.of B,rfl,?_⟩)⟩⟩;exists _,Z,l,c,Z,.inl (ZF.of e),YA;intro p v;let g:=Zb v (.tup [.int 0,o,bk,.int c.length]);refine k _ _ g ?_;unfold Mg;rw[<-d.1];exact .tup ZP (.cons (.int _) (.cons (x.sm g) (.cons (y.sm g) (.cons (.int _) .nil))))
abbrev WX:=KT×KT
abbrev jI:=List WX
def Lo(r:WX):KT:=.tup [r.1,r.2]
def Y2(a:jI):jq:=a.map Lo
def WX.fit(r:WX):Prop:=r.1.fits 3=true/\r.2.fits 3=true
def ZNC{H:Hp}{b c:aj}{d:V}(e:H b=some (.tup []))(g:H c=some (.tup [.int 1,.str "a"]))(a:d∈[V.int 0,.int 1,.str "v",.str "",.ref b,.ref c]):∃ t:KT,ZG H t d/\t.fits 3=true:=by
 simp only[zB,uY,or_false] at a;rcases a with rfl | rfl | rfl | rfl | rfl | rfl
 ·exact⟨.int 0,.int _,by decide +kernel⟩
 ·exact⟨.int 1,.int _,by decide +kernel⟩
 ·exact⟨.str "v",.str _,by decide +kernel⟩
 ·exact⟨.str "",.str _,by decide +kernel⟩
 ·exact⟨.tup [],.tup e .nil,by decide +kernel⟩
 ·exact⟨.tup [.int 1,.str "a"],.tup g (.cons (.int _) (.cons (.str _) .nil)),by decide +kernel⟩
inductive WD(h:je)(H:Hp)(Q:VK)(_:XK):Prop
 |mk(p d:aj)(b:Int)(e:je)(gt:jq)(_:h=[.ref p,.ref d,.int b])(_:ZJ H p)(_:d≠p)(_:H d=some (.lst e))(_:jU H gt e)(_:∀ t∈gt,t.fits 3=true)(_:e.length=64)(_:0<=b)(_:b<16)(_:∀(D:aj)(c:je)(g:jI)(a:Hp),ZH p H a->ZJ a p->H D=none->a D=some (.lst c)->jU a (Y2 g) c->(∀ r∈g,r.fit)->(g.map (·.1)).Sublist gt->0<c.length->c.length<=4->Q (.ref D) a)
abbrev Av:js:=["_law_well_here","_law_grid_here","_law_block","_law_rows","_law_j"]
def WA:ZA Av zEt (Ze JW):=Z4
def Dw(F:Zn K "_law_leaf_rows" "_law_leaf_rows" JW f fd)(T:YZ mg)(DP:ZC P w K mg kf 1 "_law_pull" zEe YQ):ZK P w K mg kf Zc 2 f fd zEt WD:=by
 refine F.ko WA λc7 A c6 s H vs Q E hr h=>?_;let⟨p,N,b,X,gt,rfl,W,a0,hg,kg,fg,lg,b0,b1,k⟩:=h;let nd:=WA.nd;let a9:=hr.units0;intro Xc;refine⟨_,ZN (Zo 3 nd (XH Zt))
  (ZN (WU PassesOwn.never rfl (P3 rfl T.range (ZX ZM)) (Ye 4 nd)
   (ZV (Zy (YJ Qq (Zk DP hr (Zd (pv 0) ZM)) ZM (Z3 _))
    (ZV (Xu (Vn yJ xV xU V1 (pv 3) (ZX (Ym (UG (Zi K (pv 1) (Zu Xm (Zu Of ZM (pv 2)) (pv 4)))
     (ZX (Zi K (XH (AO ZM ZM Yn Yn (Ym Zt) (Ym (Zd ZM Yn)))) (Zk DP hr (Zd (pv 0) ZM)))))))))) Z0)))
  (ZN (Zy (YJ (MC a9) (pv 3) (XH Zt) (Z3 _))
   (ZV (Xu (Vn yJ xV xU V1 (pv 3) (ZX (Ym (Zd (Zi K (pv 1) (Zu Xm (Zu Of ZM (pv 2)) (Zk DP hr (Zd (pv 0) ZM)))) Yn)))))) Z0)
  (ZV (Zq (pv 3))))),?_⟩
 let B:∀{g:Hp}{D:aj}{o:HO},ZJ g p->D≠p->ZJ (upd g D o) p:=fun{g D o} W5 n=>by
  let⟨a1,b1,c1,d1,hw,rr⟩:=W5.ex;exact⟨a1,b1,c1,d1,by rw[ZO (Ne.symm n)];exact hw,rr⟩
 exists (by show 0<=ap;decide)
 intro D Y;let g0:=Zb Y (.lst []);let m:D≠p:=by let⟨xs,e⟩:=W.some;exact(ZW e Y).symm
 let c8:N≠D:=ZW hg Y;let a6:∀(H':Hp)(j:Nat),ZH p H H'->j<64->∃(v:V)(t:KT),Xt X (j:Int)=some v/\ZG H' t v/\t.fits 3=true/\gt[j]? = some t:=λH' j s' hj=>by
  let hv:X[j]? = some (X[j]'∅):=zV ∅
  let⟨t,et,kt⟩:=kg.get hv;exact⟨_,t,Xd hv,kt.mono (s'.tupsW W) _ _,fg t (zC et),et⟩
 refine⟨4,Z,by decide,by decide,Ps (n:=4) (λi σ S=>∃(x:jf)(y:je)(G:jI),σ=[some (.ref p),some (.ref N),some (.int b),some (.ref D),x]/\ZH p H S/\ZJ S p/\S D=some (.lst y)/\jU S (Y2 G) y/\(∀ r∈G,r.fit)/\(G.map (·.1)).Sublist ((gt.drop (4 * b.toNat)).take i)/\y.length<=i)
  ⟨none,[],[],Z,ZH.of g0,W.same g0,ZP,.nil,(λt ht=>absurd ht (by simp)),List.nil_sublist _,zY _⟩ ?_ ?_⟩
 ·rintro i σ S hi ⟨x,y,G,rfl,s3,W3,J,kU,fU,sU,lU⟩;refine⟨_,Z,p,3,Z,W3,Ws (by decide) (by decide),λr H4 r0 r1 I s4=>⟨_,_,Z,Z,_,Z,?_⟩⟩
  let O:=s3.trans s4;let a:=s4 D _ J m;let a5:=kU.mono (s4.tupsW W3) _ _;refine Xj (λc=>?_) (λc=>?_)
  ·let ej:(4:Int) * b+(0+(i:Int))=((4 * b.toNat+i:Nat):Int):=∅
   let⟨v,t,av,kv,fv,et⟩:=a6 H4 (4 * b.toNat+i) O ∅
   let a4:H4 N=some (.lst X):=O N _ hg a0;refine⟨_,Z,.inl ⟨Z,_,ZF.of a⟩,_,Z,_,Z,_,_,Z,Z,.inl ⟨by decide,by decide⟩,_,Z,_,_,Z,Z,.inl ⟨N,X,_,v,Z,Z,ZF.of a4,(by rw[ej];exact av),?_⟩⟩
   exists YA;intro t1 n1;let M:=Zb n1 (.tup []);exists YA;intro t2 n2;let g2:=Zb n2 (.tup [.int 1,.str "a"]);exists YA;intro L nL;let g3:=Zb nL (.lst [.int 0,.int 1,.str "v",.str "",.ref t1,.ref t2]);let gA:=(M.trans g2).trans g3;let c4:L≠p:=by let⟨xs,e⟩:=(I.same (M.trans g2)).some;exact(ZW e nL).symm
   exists _,Z,p,6,Z,I.same gA,Ws (by decide) (by decide)
   intro q g q0 q1 W5 U;let⟨vv,ev,mv⟩:=LL (xs:=[V.int 0,.int 1,.str "v",.str "",.ref t1,.ref t2]) q0 q1;refine .inl ⟨L,_,_,vv,Z,Z,ZF.of (U L _ ZP c4),ev,YA,λR nR=>?_⟩;let C:=Zb nR (.tup [v,vv]);let a3:∀ b o,H4 b=some o->b≠p->upd g R (.tup [v,vv]) b=some o:=λb o e n=>C b o (U b o (gA b o e) n);let a7:YR H4 (upd g R (.tup [v,vv])):=λb ys e=>ZB.tups C b ys (U.tupsW (I.same gA) b ys (ZB.tups gA b ys e));let l:=a3 D _ a m;let c2:t1≠p:=by let⟨xs,e⟩:=I.some;exact(ZW e n1).symm
   let c3:t2≠p:=by let⟨xs,e⟩:=(I.same M).some;exact(ZW e n2).symm
   let⟨tv,c0,a8⟩:=ZNC (H:=upd g R (.tup [v,vv])) (C _ _ (U _ _ (g3 _ _ (g2 _ _ ZP)) c2)) (C _ _ (U _ _ (g3 _ _ ZP) c3)) mv;exists D,y,_,Z,Z,l,YO ∅
   let tD:YR (upd g R (.tup [v,vv])) (upd (upd g R (.tup [v,vv])) D (.lst (y++[.ref R]))):=(ZH.refl D _).upd.tups l;refine⟨_,y++[.ref R],G++[(t,tv)],Z,λb o e n=>?_,B (W5.same C) m,ZP,?_,λz hz=>?_,?_,by simp;lia⟩
   ·rw[ZO (ZW e Y)];exact a3 b o (O b o e n) n
   ·let e1:Y2 (G++[(t,tv)])=Y2 G++[Lo (t,tv)]:=by unfold Y2;rw[yO];rfl
    rw[e1];exact((a5.mono a7 _ _).mono tD _ _).append (.cons (.tup (tD _ _ ZP) (.cons ((kv.mono a7 _ _).mono tD _ _) (.cons (c0.mono tD _ _) .nil))) .nil)
   ·rcases yX.mp hz with h | h
    ·exact fU z h
    ·rw[zI.mp h];exact⟨fv,a8⟩
   ·let e2:(gt.drop (4 * b.toNat))[i]? = some t:=by rw[List.getElem?_drop];exact et
    rw[yO,yM,e2];exact sU.append (List.Sublist.refl _)
  ·exact⟨_,y,G,Z,O,I,a,a5,fU,sU.trans (by rw[yM];exact List.sublist_append_left _ _),∅⟩
 ·rintro σ S ⟨x,y,G,rfl,s3,W3,J,kU,fU,sU,lU⟩;exists _,Z,(by show 0<=ap;decide)
  intro d c5;let M:=Zb c5 (.lst []);exists D,d,y,Z,Z,ZF.of (M _ _ J),ZF.of ZP,_,Z;let I:=W3.same M;let s4:ZH p H (upd S d (.lst [])):=s3.trans (ZH.of M);let a:=M _ _ J
  cases y with
  | cons u ur=>
   refine Zj ⟨_,Z,?_⟩;exact k D _ G _ s4 I Y a (kU.sm M) fU ((sU.trans (List.take_sublist _ _)).trans (List.drop_sublist _ _)) (by simp) lU
  | nil=>
   refine Z6 ?_;let a4:upd S d (.lst []) N=some (.lst X):=s4 N _ hg a0;refine⟨_,Z,.inl ⟨Z,_,ZF.of a⟩,_,Z,_,Z,_,_,Z,Z,.inl ⟨by decide,by decide⟩,_,Z,p,4,Z,I,Ws (by decide) (by decide),λr g r0 r1 W5 U=>⟨_,_,Z,Z,?_⟩⟩
   let a2:=s4.trans U;let ej:(4:Int) * b+r=((4 * b.toNat+r.toNat:Nat):Int):=∅
   let⟨v,t,av,kv,fv,et⟩:=a6 g (4 * b.toNat+r.toNat) a2 ∅
   refine .inl ⟨N,X,_,v,Z,Z,ZF.of (a2 N _ hg a0),(by rw[ej];exact av),YA,λR nR=>?_⟩
   let C:=Zb nR (.tup [v,.str "w"]);let l:=C _ _ (U D _ a m);exists D,[],_,Z,Z,l,YO (by decide)
   let tD:YR (upd g R (.tup [v,.str "w"])) (upd (upd g R (.tup [v,.str "w"])) D (.lst ([]++[.ref R]))):=(ZH.refl D _).upd.tups l;refine⟨_,Z,k D [.ref R] [(t,.str "w")] _ (λb o e n=>?_) (B (W5.same C) m) Y ZP ?_ (λz hz=>?_) (List.singleton_sublist.mpr (zC et)) (by simp) (by simp)⟩
   ·rw[ZO (ZW e Y)];exact C b o (a2 b o e n)
   ·exact .cons (.tup (tD _ _ ZP) (.cons ((kv.sm C).mono tD _ _) (.cons (.str _) .nil))) .nil
   ·rw[zI.mp hz];exact⟨fv,show (KT.str "w").fits 3=true by decide +kernel⟩
inductive VJ(b:je)(H:Hp)(Q:VK)(_:XK):Prop
 |mk(i:Int)(_:b=[.int i,.int i])(_:∀ a,ZB H a->Q (.bl true) a)
def Cp:ZA zEc zEc (Ze Jm):=Z4
def Bt(F:Zn K "_law_count" "_law_count" Jm f fd)(T:YZ mg):ZK P w K mg kf Zc 1 f fd zEc VJ:=by
 refine F.ok Cp (λc H Q E h=>?_) (λb A a s H c Q E e h=>?_)
 ·let⟨i,rfl,_⟩:=h;rfl
 let⟨i,rfl,k⟩:=h;intro d;refine⟨_,ZV (Zq (Q0 (Zp Xx rfl T.isi XG (Zh (pv 0) (Zh (Xw (v:=.ty "int") rfl T.int U8 rfl) Zt)))
   (Q0 (Ir (Zp Xx rfl T.isi XG (Zh (pv 0) (Zh (Xw (v:=.ty "bool") rfl T.bool NS rfl) Zt)))) (OH (VT WT (pv 0) (pv 1) (Z3 _)))))),?_⟩
 refine⟨_,Z,_,_,_,_,Z,.int i,OC,_,Z,Z6 ?_⟩;refine⟨_,Z,_,_,_,_,Z,.int i,MW,_,Z,_,Z,Z6 ?_⟩;exists _,Z,_,Z,Z;rw[aK rfl];exact k H (ZB.refl H)
inductive Yc(c:je)(H:Hp)(Q:VK)(_:XK):Prop
 |mk(p l:aj)(a:je)(_:c=[.ref p,.ref l])(_:ZJ H p)(_:l≠p)(_:H l=some (.lst a))(_:0<a.length)(_:a.length<=900)(_:∀(x:V)(b:Hp),ZH p H b->ZJ b p->x∈a->Q x b)
def E2:ZA zEk zEk (Ze Jq):=Z4
def ZJg(F:Zn K "_law_picked" "_law_picked" Jq f fd)(T:YZ mg)(e:ZC P w K mg kf 1 "_law_pull" zEe YQ):ZK P w K mg kf Zc 2 f fd zEk Yc:=by
 refine F.ko E2 λj A b s H B Q E n h=>?_;let⟨p,l,a,rfl,W,q,c,y,z,k⟩:=h;intro v;exists _,ZV (Zq (Zi K (pv 1) (Zk e n (Zd (pv 0) (Zp X9 rfl T.len Xa (Zh (pv 1) Zt))))));exists _,Z,_,Z,_,Z,l,a,Z,.inl (ZF.of c),p,(a.length:Int),Z,W,Ws ∅ (xJ (show ((a.length:Int)).natAbs<=900 by lia) (by decide))
 intro r g t u i d;let⟨x,m,o⟩:=LL (xs:=a) t u;exact .inl ⟨l,a,r,x,Z,Z,ZF.of (d l _ c q),m,k x g d i o⟩
inductive Yy(g:je)(H:Hp)(Q:VK)(_:XK):Prop
 |mk(d l:aj)(b:List (ZR×V))(c:jw)(e:Int->Int)(_:g=[.ref d,.ref l])(_:H d=some (.dK b))(_:H l=some (.lst (c.map V.int)))(_:∀ n∈c,YI b (.inl n)=some (.int (e n)))(_:∀ n,c.find? (λm=>decide (e m=0))=some n->∀(t:aj)(a:Hp),ZB H a->a t=some (.tup [.str "held",.int n])->Q (.ref t) a)(_:c.find? (λm=>decide (e m=0))=none->∀ a:Hp,ZB H a->Q .non a)
def Vo:ZA ["_law_holds","_law_numbers","_law_number"] zEp (Ze Jf):=Z4
def No{b:Type}{p:b->Bool}{x:b}:∀{l:List b}{i:Nat},(l.take i).find? p=none->l[i]? = some x->(p x=true->l.find? p=some x)/\(p x=false->(l.take (i+1)).find? p=none)
 | [],i,_,e=>by simp at e
 | a::l,0,_,e=>by
  simp at e;subst e;exact⟨λh=>by simp[xA,h],λh=>by simp[xA,h]⟩
 | a::l,i+1,h,e=>by
  simp only[List.take_succ_cons,xA] at h⊢
  cases c:p a with
  | true=>rw[c] at h;simp at h
  | false=>
   rw[c] at h;have:=No (l:=l) (i:=i) (p:=p) h (by simpa using e)
   simpa using this
def ZIb(F:Zn K "_law_unheld" "_law_unheld" Jf f fd)(T:YZ mg):ZK P w K mg kf Zc 1 f fd zEp Yy:=by
 refine F.ko Vo λz A r s H Y Q E L h=>?_;let⟨d,l,S,q,g,rfl,I,y,N,O,R⟩:=h;let U:=Vo.nd;let M:=WV L;intro X;refine⟨_,ZN (WU PassesOwn.never rfl (Xh (pv 1)) (Ye 2 U)
   (ZV (Zy (YJ WT (Xp M (pv 0) (pv 2)) ZM (Z3 _)) (ZV (Zq (Ym (Zd Yn (pv 2))))) Z0)))
  (ZV (Zq Od)),?_⟩
 refine⟨_,Z,l,Z,⟨_,ZF.of y⟩,Ui (K:=K) (a:=l) (xs:=q.map V.int) (λi p e=>∃ x:jf,p=[some (.ref d),some (.ref l),x]/\ZB H e/\(q.take i).find? (λm=>decide (g m=0))=none) ⟨_,Z,ZB.refl H,Z⟩ (λi p e _ G=>by let⟨_,_,b,_⟩:=G;exact ZF.of (b _ _ y)) ?_ ?_⟩
 ·rintro i u p e j ⟨x,rfl,b,o⟩;obtain⟨n,v,rfl⟩:∃ n,q[i]? = some n/\V.int n=u:=by
   rw[zM] at j;exact yK.mp j
  let J:Zg e d (.int n) (some (.int (g n))):=N n (zC v) ▸ Zg.k (k:=Sum.inl n) (b _ _ I);let⟨C,D⟩:=No o v;exists _,Z,_,Z,d,.int (g n),Z,J;exists Z,_,Z;let B:decide (V.int (g n)=V.int 0)=decide (g n=0):=by simp
  rw[B]
  cases c:decide (g n=0) with
  | true=>exact Z6 ⟨_,Z,YA,λt W=>O n (C c) t _ (b.trans (Zb W _)) ZP⟩
  | false=>exact Zj ⟨_,Z,b,D c⟩
 ·rintro p e ⟨x,rfl,b,o⟩;rw[yQ (by simp)] at o
  exact R o e b
end Tw
namespace L2
open PySem PySem.Spec PyProof.Rows
section
variable{T:String}{r d:aj}{n:Nat}{P:Nat->ai->Prop}{OK:aC->Prop}
def AC{R:Result->ak->Prop}(K:tI prog w T r d n P OK)(l:A.handled=none)(h:OK s.heap)(S:aj)(g:S≠r)(f:S≠d)(c:Nat)(k:s.heap.get? S=some { cls:=.type "list",data:=.seq #[] c })(j:∀ e p a i,(∀ b o,b≠S->s.heap.get? b=some o->e.get? b=some o)->e.get? S=some { cls:=.type "list",dict:=none,data:=.seq a i,slots:=#[] }->ItemsOf P a n->R (.ok (.ret (.ref S))) { s with heap:=e,toks:=p })(m:n<=ap):
  aF (az prog w) A (.builtin "list.__iadd__" ⟨[.ref S,.ref r],[]⟩) R s:=by
 refine codeAny_builtin PySem.F.entry_list_iadd ?_;rw[Around.under_plainId qY _];exact PySem.W.kdl_extend (R:=R) K l h S g f (.ref S) c k j m
def Cd{Q:jd->ak->Prop}(K:tI prog w T r d n P OK)(q:A.handled=none)(j:OK s.heap)(u:n<=ap)(m:∀ f k a,(∀ b o,s.heap.get? b=some o->f.get? b=some o)->s.heap.objs.size<f.objs.size->ItemsOf P a n->Q a.toList { s with heap:=f,toks:=k }):aA (az prog w) A (collect (.ref r)) Q E s:=by
 let i:=K.there _ j;unfold collect;refine aa (wpAny_runValue (codeAny_builtin PySem.F.entry_proto_collect ?_));rw[Around.under_plainId PySem.F.plain_proto_collect _];show aA _ A.in1 (newList [] >>= λl=>again (.builtin "list.__iadd__" ⟨[l,.ref r],[]⟩)) _ _ s;refine aa (wpAny_newObj_type ?_);let p:(s.heap.push { cls:=.type "list",data:=.seq ([]:jd).toArray }).get? s.heap.objs.size=some { cls:=.type "list",data:=.seq #[] 0 }:=yU _ Z;refine ad ⟨plainId_quiet qY _,AC (s:={ s with heap:=s.heap.push { cls:=.type "list",data:=.seq ([]:jd).toArray } }) K q (K.keep _ _ j λb _ o e=>zT _ e) s.heap.objs.size (xH i.1) (xH i.2) _ p (λf k c v t g h=>?_) u⟩;show aA _ A (load s.heap.objs.size >>= _) _ _ _;refine aa (wpAny_load g ?_);exact ad (m f k c (λb o e=>t b o (zL (zW e)) (zT _ e)) (zW g) h)
def Aj{Q:ja}{ns:jw}(K:tI prog w T r d n P OK)(I:A.handled=none)(t:OK s.heap)(J:n<=ap)(F:∀ f,ItemsOf P f n->IntsAre f.toList ns)(q:n<64)(L:ns.Pairwise (· <= ·))(G:∀ p x a g c,(∀ b o,s.heap.get? b=some o->p.get? b=some o)->s.heap.objs.size<=a->IntsAre g ns->p.get? a=some { cls:=.type "list",data:=.seq g.toArray c }->Q (.ref a) { s with heap:=p,toks:=x }):
  aA (az prog w) A (call (.builtin "sorted") [.ref r]) Q E s:=by
 refine Calls.call_function_entry kind_sorted plain_sorted entry_sorted (args_sorted1 _) ?_;unfold Builtin.«sorted»;refine aa (m:=checkCount "sorted" 1 1 _) (ad ?_);refine aa (Cd K I t J λj x f M u h=>?_);let D:=F f h;let k:f.toList.length<64:=by rw[vR,h.1];exact q
 refine aa (wpAny_newList ?_ (hsz:=xX (YO ∅)))
 let i:(j.push (seqObj "list" f.toList.toArray 0)).get? j.objs.size=some (seqObj "list" f.toList.toArray 0):=yU _ Z;refine aa (af (wpAny_call_entry slot_list_sort ⟨_,i,rfl⟩ entry_list_sort (list_sort_tree i D k λg v y z B=>⟨_,Z,?_⟩) (args_list_sort _)));refine ad ⟨_,Z,?_⟩;let e:v=ns:=vN.eq_of_pairwise (le:=(· <= ·)) (λa b _ _ j C=>Int.le_antisymm j C) B L z;subst e;let⟨c,H⟩:=sortedHeap_at (vs:=f.toList) (out:=g) i;refine G _ x j.objs.size g.toList c (λb o e=>?_) (xX u) y (by rw[rQ];exact H)
 let l:=M b o e;rw[sortedHeap_old (zL (zW l)) (by rw[size_push'];exact vW (zW l))]
 exact zT _ l
end
def Dn:∀{c:List (ZR×V)}{g:jS}{d:jw},KV c g->c.map (·.1)=d.map Sum.inl->∀ b:jd,b.length=g.length->(∀(i:Nat)(v:ai),b[i]? = some v->∃(k:ZR)(x:ai),g[i]? = some (k,x)/\Po k v=true)->IntsAre b d:=by
 intro c g d h e b l p;let f:=KV.keys h;rw[e] at f;clear e h
 induction g generalizing d b with
 | nil=>
  cases b with
  | nil=>
   cases d with
   | nil=>exact .nil
   | cons _ _=>simp at f
  | cons _ _=>simp at l
 | cons q r y=>
  cases b with
  | nil=>simp at l
  | cons a b=>
   cases d with
   | nil=>simp at f
   | cons n d=>
    simp only[yI,List.cons.injEq] at f;let⟨k,x,o,u⟩:=p 0 a Z;simp only[List.getElem?_cons_zero,zG.injEq] at o;subst o;let j:Sum.inl n=k:=f.1;subst j;obtain⟨i,t,m,s⟩ | ⟨i,t,m,s⟩:=QS u
    ·cases m;subst s;exact .cons _ _ (y b (by simpa using l) (λi v w=>by simpa using p (i+1) v (by simpa using w)) f.2)
    ·cases m
def ZFp:∀{b:jd}{a:jw},IntsAre b a->ZQ (a.map V.int) b:=λh=>Mj h
def nn'{n:Nat}(h:n<64):n<=sizeLine:=xX (YO ∅)
def Uk:ax "sorted" = some (.builtin "sorted"):=by decide +kernel
inductive Oi(d:je)(H:Hp)(Q:VK):Prop
 |mk(a:aj)(b:List (ZR×V))(c:jw)(_:d=[.ref a])(_:H a=some (.dK b))(_:b.map (·.1)=c.map Sum.inl)(_:c.Pairwise (· <= ·))(_:c.length<64)(_:∀ p,H p=none->Q (.ref p) (upd H p (.lst (c.map V.int))))
def Qa(D:X.calm=true):Wq X (.builtin "sorted") Oi:=by
 intro t s T H S R Q I r h;let⟨a,g,j,rfl,C,l,F,f,q⟩:=h;let⟨u,rfl,K⟩:=Vd r;cases K;let⟨z,J,M,n,A⟩:=Me I.hok C;let O:j.length=g.length:=by have:=congrArg yD l;simpa using this.symm
 let P:=KV.length n;let⟨x,y⟩:=A.dictAt;refine Aj (ns:=j) (PySem.W.kdl_dict (knd:=Wj X.prog X.w) (kvs:=M) (ep:=x) J) (I.ok.hd D) y ∅ (λd b=>Dn n l d.toList (by rw[vR];exact b.1) λi v e=>?_) ∅ F λN L p k c G m B E=>?_
 ·exact b.2 i v (by rw[<-rO];exact e)
 ·exact⟨.ref p,_,I.laid (a:=p) (o:=.lst (j.map V.int)) (t':=L) G m ⟨by rw[zX];exact nn' f,k,c,ZFp B,E⟩,Z,q p (I.hok.fresh m)⟩
section
variable{jZ:ju}{σ:St}{H:Hp}
end
def ZMx:typeLookup (.type "list_reverseiterator") "__len__" = pure none:=by rw[typeLookup_type,builtinLookup_eq_fast];kernel_rfl
def ZKS:typeLookup (.type "list_reverseiterator") "__length_hint__" = pure (some (.builtin "list_reverseiterator.__length_hint__")):=by rw[typeLookup_type,builtinLookup_eq_fast];kernel_rfl
def Dl:isSubtype (.type "list_reverseiterator") (.type "list_reverseiterator")=pure true:=by rw[isSubtype_type];kernel_rfl
def ZKq{r:aj}{Q:Bool->ak->Prop}(d:s.TypeIs (.ref r) "list_reverseiterator")(h:Q false s):aA (az prog w) A (Builtin.List.listLengthHint (.ref r)) Q E s:=by
 unfold Builtin.List.listLengthHint;refine aa (wpAny_specialOf d ZMx ?_)
 wp_delta
 refine wpAny_ite_split (λa=>absurd a (by decide +kernel)) (λ_=>?_)
 refine wpAny_ite_split (λa=>absurd a (by decide)) (λ_=>?_)
 refine aa (wpAny_specialOf d ZKS ?_);generalize c:("list_reverseiterator.__length_hint__" : String)=e
 wp_delta
 rw[show splitId e=some ("list_reverseiterator","__length_hint__") from by subst c;decide +kernel]
 subst c;refine aa (wpAny_isInstance (T:= "list_reverseiterator") (b:=true) d Dl ?_);refine wpAny_ite_split (λa=>absurd a (by decide)) (λ_=>?_)
 refine wpAny_ite_split (λ_=>?_) (λa=>absurd (by decide +kernel) a)
 refine wpAny_ite_split (λa=>absurd a (by decide)) (λ_=>?_)
 exact ad h
def ZGc{l d:aj}{items:jA}{Q:ja}(hh:A.handled=none)(J:s.heap.IsRevIter d l ((items.size:Int)-1))(hl:s.heap.IsList l items)(L:l≠d)(hn:items.size<=ap)(Y:∀ D B a C,(∀ b o,b≠d->s.heap.get? b=some o->D.get? b=some o)->D.get? s.heap.objs.size=some { cls:=.type "list",dict:=none,data:=.seq a C,slots:=#[] }->ItemsOf (λi v=>items[items.size-1-i]? = some v) a items.size->Q (.ref s.heap.objs.size) { s with heap:=D,toks:=B }):
  aA (az prog w) A (call (.type "list") [.ref d]) Q E s:=by
 let⟨oi,n,P⟩:=id J;let⟨ol,p,R⟩:=id hl;let N:=zW n;let O:=zW p;refine callType_codes (Q₁:=λx m=>x=.ref s.heap.objs.size/\m={ s with heap:=s.heap.push { cls:=.type "list",data:=.seq #[] } }) PySem.F.called_list (PySem.F.typeCall_list_1 _) PySem.F.entry_list_init
  (code_list_new _ ⟨rfl,rfl⟩) λx m u=>?_
 let⟨rfl,rfl⟩:=u;let z:(s.heap.push { cls:=.type "list",data:=.seq #[] }).get? s.heap.objs.size=some { cls:=.type "list",data:=.seq #[] }:=yU _ Z;exists ⟨_,z,Z⟩,PySem.F.args_list_init_2 _ _;show aA _ _ (do let old<-Builtin.List.listItems (.ref s.heap.objs.size);Builtin.List.listUpdate (.ref s.heap.objs.size) (λ_=>#[]);letGo old.toList.reverse;Builtin.List.listExtendWith (.ref s.heap.objs.size) (.ref d) .none) _ _ _
 refine aa ?_;unfold Builtin.List.listItems;refine aa (wpAny_seqItems z Z (ad ?_));show aA _ _ (updateSeq s.heap.objs.size (λ_=>#[]) >>= λ_=>letGo (#[]:jA).toList.reverse >>= λ_=>Builtin.List.listExtendWith (.ref s.heap.objs.size) (.ref d) .none) _ _ _;refine aa (wpAny_updateSeq z Z ?_);let g:=wS (Obj.mapSeq (λ_=>(#[]:jA))) z Z;let k:∀ b o,s.heap.get? b=some o->((s.heap.push { cls:=.type "list",data:=.seq #[] }).update s.heap.objs.size (Obj.mapSeq (λ_=>(#[]:jA)))).get? b=some o:=
  λb o e=>(yA _ _ (Ne.symm (zL (zW e)))).trans (zT _ e)
 refine aa (wpAny_letGo ?_);generalize (s.heap.push { cls:=.type "list",data:=.seq #[] }).update s.heap.objs.size (Obj.mapSeq (λ_=>(#[]:jA)))=S at g k⊢;let c:S.IsRevIter d l ((items.size:Int)-1):=⟨oi,k _ _ n,P⟩;let K:S.IsList l items:=⟨ol,k _ _ p,R⟩;let q:s.heap.objs.size≠d:=xH N;let H:s.heap.objs.size≠l:=xH O;let M:∀(h:aC)(f B:Nat),h.IsRevIter d l ((items.size:Int)-1)->h.IsList l items->(∀ b o,s.heap.get? b=some o->h.get? b=some o) ->
   h.get? s.heap.objs.size=some { cls:=.type "list",data:=.seq #[] f }->aF (az prog w) A.in1 (.builtin "list.extend.loop" ⟨[.ref s.heap.objs.size,.ref d,.none],[]⟩) (wants (λr y=>r=Value.none/\Q (.ref s.heap.objs.size) y) E) { s with heap:=h,toks:=B }:=by
  intro h f B k1 k2 k3 k4;refine codeAny_extend_loopS (A:=A.in1) (Walks.listRev (A:=A.in1.in1) hh d l L items).toS hn s.heap.objs.size (by simp[q,H]) .none items.size 0 _ #[] f Z (yW _) ⟨yW _,by simpa using k1,k2⟩ k4 (ItemsOf.nil _) λV a C U G t=>?_
  rw[Moved.eq_with U];refine⟨Z,Y V.heap V.toks a C (λb o hb e=>U.heap b o (λj=>?_) (k3 b o e)) G t⟩;rcases zB.mp j with W | j
  ·exact absurd (zW e) (by rw[W];exact xG _)
  ·exact hb (zI.mp j)
 unfold Builtin.List.listExtendWith;refine aa (wpAny_typeOf (T:= "list_reverseiterator") c.typeIs ?_);let X:Builtin.List.listSameRef (.ref s.heap.objs.size) (.ref d)=false:=by simp[Builtin.List.listSameRef,q]
 simp only[X,show (Value.type "list_reverseiterator" == Value.type "list")=false from rfl,show (Value.type "list_reverseiterator" == Value.type "tuple")=false from rfl,Bool.or_false,vU,if_false];refine aa (wpAny_pyIter_revIter c ?_);refine aa (af (ZKq c.typeIs ?_));refine wpAny_ite_split (λI=>absurd I (by decide)) (λ_=>ad ⟨plainId_quiet PySem.F.plain_extend_loop _,M _ _ _ c K k g⟩)
def BT:ax "reversed" = some (.type "reversed"):=by decide +kernel
def ZKE{b:jd}:∀{a:jA},ItemsOf (λi v=>b.toArray[b.toArray.size-1-i]? = some v) a b.toArray.size->a.toList=b.reverse:=by
 intro a h;refine List.ext_getElem? λi=>?_;let d:a.size=b.length:=by simpa using h.1
 by_cases c:i<b.length
 ·let e:a.toList[i]? = some a[i]:=by simp[d,c]
  let f:=h.2 i a[i] (by simp[d,c])
  rw[e,List.getElem?_reverse c,<-f];simp
 ·rw[vD (by simp;lia),vD (by simp;lia)]
inductive Ud(K:zZ)(Q:VK)(x:V)(a:Hp):Prop
 |mk(l b:_)(_:x=.ref l)(_:ZF K a l b)(_:∀ q,a q=none->Q (.ref q) (upd a q (.lst b.reverse)))
def ZLK(K:zZ)(b:TE):TE:=λc H Q=>b c H λx a=>Ud K Q x a
def ZQ.rev:∀{c:je}{b:jd},ZQ c b->ZQ c.reverse b.reverse:=by
 intro c b r
 induction r with
 | nil=>exact .nil
 | cons a r d=>rw[List.reverse_cons,List.reverse_cons];exact d.append (.cons a .nil)
def AR{e:Expr}{B:TE}{V t p f:aI}(E:X.calm=true)(F:PE X e B)(G:Gl X "list")(L:Gl X "reversed")(S:X.mg "list" = none)(T:X.mg "reversed" = none)(k:aq [.Call (.Name "reversed" t) [e] [] f] X.env=(false,aG (.Call (.Name "reversed" t) [e] [] f) X.env)::aq [] X.env:=by rfl)(m:aq [e] X.env=(false,aG e X.env)::aq [] X.env:=by rfl):
  PE X (.Call (.Name "list" V) [.Call (.Name "reversed" t) [e] [] f] [] p) (ZLK X.K B):=by
 intro n s σ H Q I h;refine ag (Py I G S Up ?_);refine PyProof.Rows.callWith_type1 ?_ k Z;rw[k];refine Calls.spliced_cons (ag (Py I L T BT ?_));refine PyProof.Rows.callWith_type1 ?_ m Z;rw[m];refine Calls.spliced_cons (Z1 (F n s σ H _ I h) λu g ⟨x,H1,r,Y,l,xs,D,J,q⟩=>Calls.spliced_nil ?_);subst D;cases Y;let⟨d,z,W,M⟩:=r.list J;let y:=W.isList;let ll:=z.length;let⟨U,j,v⟩:=id y;refine call_reversed_list y (Calls.spliced_nil ?_);let R:=zW j;refine ZGc (s:={ g with heap:=g.heap.push (revObj l ((d.toArray.size:Int)-1)) }) (items:=d.toArray) (r.ok.hd E) ⟨_,yU _ Z,Z,Z⟩ ⟨U,zT _ j,v⟩ (zL R) (by simp;lia) λh' tk i c N O P=>?_
 let A:(g.heap.push (revObj l ((d.toArray.size:Int)-1))).objs.size=g.heap.objs.size+1:=vO _ _;let C:i.toList=d.reverse:=ZKE P;refine⟨.ref (g.heap.push (revObj l ((d.toArray.size:Int)-1))).objs.size,_,r.laid (a:=(g.heap.push (revObj l ((d.toArray.size:Int)-1))).objs.size) (o:=.lst xs.reverse) (t':=tk) (λb o w=>N b o (zL (zW w)) (zT _ w)) (by rw[A];exact wR _) ⟨by rw[sS];exact M,i.toList,c,by rw[C];exact ZQ.rev z,by rw[rQ];exact O⟩,Z,q _ (r.hok.fresh (by rw[A];exact wR _))⟩
inductive Ul(a:zZ)(x y:V)(H:Hp)(Q:VK):Prop
 |mk(p b c:_)(_:x=.ref p)(_:y=.ref b)(_:ZF a H p c)(_:ZF a H b [])(_:Q (.bl (!c.isEmpty)) H)
def HC(f:X.A.units<cLine):Ys X (ay .NotEq) (Ul X.K):=by
 intro l s J H x y v u Q I C D h;let⟨p,b,E,rfl,rfl,c,o,q⟩:=h;cases C;cases D;let⟨d,z,i,F⟩:=I.list c;let⟨a,B,k,G⟩:=I.list o;let g:=z.length;let t:=B.length;let n:a=[]:=vB (by rw[<-t];rfl)
 subst n
 cases E with
 | nil=>
  let m:d=[]:=vB (by rw[<-g];rfl)
  subst m;exact PySem.SeqAt.RcNeAt.lists (e:=λ_=>true) i.isList k.isList Z f (λj c _=>absurd c (by simp)) X.prog X.w X.xe _ (Yr I q (by simp))
 | cons x r=>exact PySem.SeqAt.RcNeAt.lists_lengths i.isList k.isList (by simp;intro e;subst e;simp at g) f X.prog X.w X.xe _ (Yr I q Z)
end L2
namespace Tw
open PySem PySem.Spec L2 PyProof.Rows
variable{jg jh CS CT CH CK CP CB:aj}
structure ZL where
 h:Nat
 rows:jI
 bs:jp
abbrev jr:=List ZL
def ZL.d:ZL:=⟨0,[],[]⟩
def gd(a:jr)(i:Nat):ZL:=a.getD i .d
def ZPF{a:jr}{i:Nat}{t:ZL}(h:a[i]? = some t):gd a i=t:=by
 unfold gd;rw[zS,h];rfl
def Wd{a:jr}{i:Nat}(h:i<a.length):a[i]? = some (gd a i):=by
 unfold gd;rw[zS,zV h];rfl
structure Zz(gt:jq)(ts:jr)(i:Nat)(t:ZL):Prop where
 ne:t.rows≠[]
 up:(t.rows.map (·.1)).Pairwise λa b=>a.lt b=true
 inn:∀ r∈t.rows,r.1∈gt/\r.fit
 leaf:t.h=0->t.bs=[]/\t.rows.length<=4
 stem:t.h≠0->2<=t.bs.length/\t.bs.length<=4/\(∀ b∈t.bs,b<ts.length/\(gd ts b).h+1=t.h)/\t.rows=t.bs.flatMap λb=>(gd ts b).rows
def WF(gt:jq)(a:jr):Prop:=∀ i t,a[i]? = some t->Zz gt a i t
def Jb:∀{gt l:jq},gt.Pairwise (λa b=>a.lt b=true)->l.Pairwise (λa b=>a.lt b=true)->(∀ x∈l,x∈gt)->l.length<=gt.length
 | [],[],_,_,_=>zY _
 | [],x::_,_,_,h=>absurd (h x zP) (by simp)
 | g::gt,l,hg,hl,h=>by
  let c:=vH.mp hg;by_cases j:g∈l
  ·cases l with
   | nil=>simp at j
   | cons x l=>
    let d:=vH.mp hl;let n:x=g:=by
     rcases zB.mp j with e | e
     ·exact e.symm
     ·rcases zB.mp (h x zP) with i | i
      ·exact i
      ·let k:=d.1 g e;let m:=c.1 x i;have:=MM _ _ k;rw[m] at this;cases this
    have:l.length<=gt.length:=Jb c.2 d.2 λy f=>by
     rcases zB.mp (h y (zH _ f)) with e | e
     ·have:=d.1 y f;rw[n,e] at this;let z:=MM _ _ this;rw[this] at z;cases z
     ·exact e
    rw[zA,zA]
    lia
  ·have:l.length<=gt.length:=Jb c.2 hl λy f=>by
    rcases zB.mp (h y f) with e | e
    ·exact absurd (e ▸ f) j
    ·exact e
   rw[zA]
   lia
def Zz.len{gt:jq}{f:jr}{i:Nat}{t:ZL}(h:Zz gt f i t)(c:gt.Pairwise λa b=>a.lt b=true):t.rows.length<=gt.length:=by
 have:=Jb c h.up λx e=>by
  let⟨r,d,rfl⟩:=zJ.mp e;exact(h.inn r d).1
 rwa [zX] at this
def kindOf(t:ZL):Str:=if t.h=0 then "leaf" else "stem"
inductive Qt(H:Hp)(t:ZL)(v:V):Prop
 |mk(d c a:_)(_:v=.ref d)(_:H d=some (.tup [.str (kindOf t),.ref c]))(_:H c=some (.lst a))(_:t.h=0->jU H (Y2 t.rows) a)(_:t.h≠0->a=t.bs.map λb=>V.int (b:Nat))
structure Lv(ts:jr)(lv:jp):Prop where
 lt:∀ i∈lv,i<ts.length
 cl:∀ i∈lv,∀ b∈(gd ts i).bs,b∈lv
 up:lv.Pairwise (· < ·)
def Vh(H:Hp)(c:jr)(b:jp)(a:List (ZR×V)):Prop:=a.map (·.1)=b.map (λi:Nat=>(Sum.inl (i:Int):ZR))/\∀ i:Nat,i∈b->∃ v,YI a (Sum.inl (i:Int))=some v/\Qt H (gd c i) v
def Qt.same{H a:Hp}{t:ZL}{v:V}(h:Qt H t v)(s:ZB H a):Qt a t v:=by
 let⟨i,g,j,b,c,d,e,f⟩:=h;exact⟨i,g,j,b,s _ _ c,s _ _ d,λz=>(e z).sm s,f⟩
def Vh.same{H b:Hp}{d:jr}{c:jp}{a:List (ZR×V)}(h:Vh H d c a)(s:ZB H b):Vh b d c a:=⟨h.1,λi t=>by
 let⟨v,e,f⟩:=h.2 i t;exact⟨v,e,f.same s⟩⟩
def QY(c:jr)(a:jp):jI:=a.reverse.flatMap λb=>(gd c b).rows
def Ot(c:jr)(a:jp):Nat:=(a.map λb=>5 ^ (gd c b).h).sum
def Io{a:jr}{gt:jq}:∀{l:jp},(∀ b∈l,Zz gt a b (gd a b))->l.length<=(l.flatMap λb=>(gd a b).rows).length
 | [],_=>zY _
 | b::l,h=>by
  let e:=Io (l:=l) λx d=>h x (zH _ d);let c:=h b zP;have:1<=(gd a b).rows.length:=uE.mpr c.ne;rw[xE,yV,zA]
  lia
def BO{l:jp}{c:Nat}(f:Nat->Nat):(∀ b∈l,f b=c)->(l.map f).sum=l.length * c:=by
 induction l with
 | nil=>intro _;simp
 | cons b l d=>
  intro h;rw[yI,tS,d (λx a=>h x (zH _ a)),h b zP,zA,Nat.succ_mul]
  lia
def ZNj{a:jr}{l:jp}{b:Nat}:Ot a l<Ot a (l++[b]):=by
 unfold Ot;rw[yO,tL];have:0<5 ^ (gd a b).h:=Nat.pow_pos (by decide)
 simp
 try lia
def Bf{a:jr}{gt:jq}{l:jp}{b:Nat}(k:Zz gt a b (gd a b))(j:(gd a b).h≠0):Ot a (l++(gd a b).bs.reverse)<Ot a (l++[b]):=by
 let⟨n,f,g,_⟩:=k.stem j;unfold Ot;rw[yO,tL,yO,tL];let e:((gd a b).bs.reverse.map λb=>5 ^ (gd a b).h).sum=(gd a b).bs.length * 5 ^ ((gd a b).h-1):=by
  have:=BO (l:=(gd a b).bs.reverse) (c:=5 ^ ((gd a b).h-1)) (λb=>5 ^ (gd a b).h) λc i=>by
   have:=(g c (sY.mp i)).2;show 5 ^ (gd a c).h=_
   congr 1
   lia
  rw[this,sS]
 rw[e];let d:5 ^ (gd a b).h=5 * 5 ^ ((gd a b).h-1):=by
  have:(gd a b).h=((gd a b).h-1)+1:=∅
  rw[this,Nat.pow_succ,Nat.mul_comm];simp
 let m:0<5 ^ ((gd a b).h-1):=Nat.pow_pos (by decide)
 simp only[yI,wC,tS,List.sum_nil,Nat.add_zero];rw[d];have:(gd a b).bs.length * 5 ^ ((gd a b).h-1)<=4 * 5 ^ ((gd a b).h-1):=Nat.mul_le_mul_right _ f
 lia
def VQ(a:jr)(h:Nat):Nat:=(a.filter λu=>decide (h<u.h)).length
def CM(a:jr){h b:Nat}(d:h<=b):VQ a b<=VQ a h:=by
 unfold VQ
 induction a with
 | nil=>exact zY _
 | cons u a c=>
  rw[uP,uP];by_cases z:b<u.h
  ·rw[aO (aK z),aO (aK ∅),zA,zA]
   lia
  ·rw[aM (λy=>z (of_decide_eq_true y))];split
   ·rw[zA];lia
   ·exact c
def Fc(u:ZL)(a:jr)(h:Nat):VQ (u::a) h=(if h<u.h then 1 else 0)+VQ a h:=by
 unfold VQ;rw[uP];by_cases z:h<u.h
 ·rw[aO (aK z),aO z,zA];lia
 ·rw[aM (λy=>z (of_decide_eq_true y)),aM z];lia
def EI:∀{a:jr}{t:ZL}{h:Nat},t∈a->h<t.h->VQ a t.h<VQ a h
 | u::a,t,h,hm,hh=>by
  rw[Fc,Fc];rcases zB.mp hm with z | z
  ·subst z;have:=CM a (xX hh);rw[aM (xG _),aO hh]
   lia
  ·have:=EI z hh;by_cases y:t.h<u.h
   ·rw[aO y,aO ∅];lia
   ·rw[aM y];lia
def Mi{a:jr}{j h:Nat}(c:j<a.length)(b:h<(gd a j).h):VQ a (gd a j).h<VQ a h:=EI (zC (Wd c)) b
def Fu(a:jr)(h:Nat):VQ a h<=a.length:=sJ _ _
def UO{H c:Hp}{a:aj}{o:HO}(s:ZB H c)(n:H a=none):ZB H (upd c a o):=λb u e=>by rw[ZO (ZW e n)];exact s b u e
abbrev iN(l:jp):je:=l.map λb=>V.int (b:Nat)
def FF(a b:jI):Y2 (a++b)=Y2 a++Y2 b:=yO
structure Y5(gt:jq)(H:Hp)(d:aj)(ts:jr)(lv:jp)(kvs:List (ZR×V)):Prop where
 dict:H d=some (.dK kvs)
 tws:Vh H ts lv kvs
 lv:Lv ts lv
 wf:WF gt ts
 len:gt.length=64
 up:gt.Pairwise λa b=>a.lt b=true
def Y5.same{gt:jq}{H b:Hp}{d:aj}{e:jr}{c:jp}{a:List (ZR×V)}(h:Y5 gt H d e c a)(s:ZB H b):Y5 gt b d e c a:=⟨s _ _ h.dict,h.tws.same s,h.lv,h.wf,h.len,h.up⟩
def Y5.at_{gt:jq}{H:Hp}{d:aj}{b:jr}{c:jp}{a:List (ZR×V)}(h:Y5 gt H d b c a){i:Nat}(e:i∈c):Zz gt b i (gd b i):=h.wf i _ (Wd (h.lv.lt i e))
def Y5.get{gt:jq}{H:Hp}{d:aj}{a:jr}{j:jp}{g:List (ZR×V)}(h:Y5 gt H d a j g){i:Nat}(q:i∈j):∃ e c b,Zg H d (.int (i:Nat)) (some (.ref e))/\H e=some (.tup [.str (kindOf (gd a i)),.ref c])/\H c=some (.lst b)/\((gd a i).h=0->jU H (Y2 (gd a i).rows) b)/\((gd a i).h≠0->b=iN (gd a i).bs):=by
 let⟨v,l,e,c,b,rfl,m,n,o,p⟩:=h.tws.2 i q;exact⟨e,c,b,l ▸ Zg.k (k:=Sum.inl (i:Int)) h.dict,m,n,o,p⟩
structure WK(gt:jq)(H:Hp)(d:aj)(ts:jr)(lv:jp)(kvs:List (ZR×V)):Prop where
 dict:H d=some (.dK kvs)
 tws:∀ i:Nat,i∈lv->∃ v,YI kvs (Sum.inl (i:Int))=some v/\Qt H (gd ts i) v
 cl:∀ i∈lv,∀ b∈(gd ts i).bs,b∈lv
 at_:∀ i∈lv,Zz gt ts i (gd ts i)
 len:gt.length=64
 up:gt.Pairwise λa b=>a.lt b=true
def Y5.g{gt:jq}{H:Hp}{d:aj}{c:jr}{b:jp}{a:List (ZR×V)}(h:Y5 gt H d c b a):WK gt H d c b a:=⟨h.dict,h.tws.2,h.lv.cl,λi e=>h.at_ e,h.len,h.up⟩
def WK.same{gt:jq}{H b:Hp}{d:aj}{e:jr}{c:jp}{a:List (ZR×V)}(h:WK gt H d e c a)(s:ZB H b):WK gt b d e c a:=⟨s _ _ h.dict,λi k=>by
 let⟨v,g,j⟩:=h.tws i k;exact⟨v,g,j.same s⟩,h.cl,h.at_,h.len,h.up⟩
def WK.get{gt:jq}{H:Hp}{d:aj}{a:jr}{j:jp}{g:List (ZR×V)}(h:WK gt H d a j g){i:Nat}(q:i∈j):∃ e c b,Zg H d (.int (i:Nat)) (some (.ref e))/\H e=some (.tup [.str (kindOf (gd a i)),.ref c])/\H c=some (.lst b)/\((gd a i).h=0->jU H (Y2 (gd a i).rows) b)/\((gd a i).h≠0->b=iN (gd a i).bs):=by
 let⟨v,l,e,c,b,rfl,m,n,o,p⟩:=h.tws i q;exact⟨e,c,b,l ▸ Zg.k (k:=Sum.inl (i:Int)) h.dict,m,n,o,p⟩
inductive WP(gt:jq)(h:je)(H:Hp)(Q:VK)(_:XK):Prop
 |mk(d:aj)(n:Nat)(e:jr)(c:jp)(b:List (ZR×V))(_:h=[.ref d,.int n])(_:WK gt H d e c b)(_:n∈c)(_:∀(a:Hp)(D:aj)(g:je),ZB H a->H D=none->a D=some (.lst g)->jU a (Y2 (gd e n).rows) g->Q (.ref D) a)
abbrev ZM3:js:=["_law_twigs","_law_number","_law_todo","_law_found","_law_kind","_law_what"]
def Vg:ZA ZM3 zEb (Ze JZ):=Z4
def ZJ2{gt:jq}(F:Zn K "_law_rows_of" "_law_rows_of" JZ f fd)(T:YZ mg)(Tr:mg "reversed" = none):ZK P w K mg kf Zc 1 f fd zEb (WP gt):=by
 refine F.ko Vg λa6 A a5 s H vs Q E hr h=>?_;let⟨d,n,i,lv,a7,rfl,L,hn,k⟩:=h;let W:=Vg.nd;let hu:=WV hr;intro Xc;refine⟨_,ZN (Zo 2 W (XH (ZX (pv 1)))) (ZN (Zo 3 W (XH Zt))
  (ZN (N1 PassesOwn.never (YJ (HC hr.units0) (pv 2) (XH Zt) (Z3 _))
   (ZN (Q5 (Xp hu (pv 0) (N4 yJ PySem.F.slot_list_pop PySem.F.type_list_pop Bu (pv 2))) (PM rfl (Y6 (Ye 4 W) (Y6 (Ye 5 W) Q2))))
   (ZV (Zy (YJ WT (pv 4) Yn (Z3 _))
    (ZV (Zo 3 W (Zu NU (pv 3) (Wt PU rfl T.list Up (ZX (pv 5))))))
    (ZV (Zo 2 W (Zu NU (pv 2) (AR rfl (pv 5) rfl rfl T.list Tr))))))))
  (ZV (Zq (pv 3))))),?_⟩
 refine⟨_,Z,YA,λj x=>⟨YA,λq p=>?_⟩⟩;let y:j≠q:=λz=>by rw[<-z,ZP] at p;cases p
 let M:H q=none:=by rw[ZO (Ne.symm y)] at p;exact p
 let a4:=(L.at_ n hn).len L.up;rw[L.len] at a4;refine⟨λm σ H'=>∃(j q:aj)(g:jp)(a:jI)(B:je)(k4 k5:jf),m=Ot i g/\σ=[some (.ref d),some (.int n),some (.ref j),some (.ref q),k4,k5]/\ZB H H'/\H j=none/\H q=none/\j≠q/\H' j=some (.lst (iN g))/\H' q=some (.lst B)/\jU H' (Y2 a) B/\(∀ b∈g,b∈lv)/\a++QY i g=(gd i n).rows,
  ⟨_,j,q,[n],[],[],none,none,Z,Z,UO (Zb x _) M,x,M,y,by rw[ZO y];exact ZP,ZP,.nil,λb S=>by rw[zI.mp S];exact hn,by simp[QY]⟩,?_⟩
 rintro m σ H1 ⟨j,q,g,a,B,k4,k5,rfl,rfl,s1,x,p,y,a0,a3,hk,S,I⟩;exists _,Z,YA;intro e0 a2;let g0:=Zb a2 (.lst []);exists j,e0,iN g,Z,Z,ZF.of (g0 _ _ a0),ZF.of ZP,_,Z;let t:=g0 _ _ a0;let v:=g0 _ _ a3;let D:=hk.sm g0;let s2:=s1.trans g0;generalize upd H1 e0 (.lst [])=R at t v D s2⊢;let lf:a.length+(QY i g).length=(gd i n).rows.length:=by rw[<-yV,I]
 let lt:g.length<=(QY i g).length:=by
  have:=Io (l:=g.reverse) λb h=>L.at_ b (S b (sY.mp h))
  rwa [sS] at this
 rcases sK g with z | ⟨rest,b,z⟩
 ·subst z;refine Zj ?_;let e1:a=(gd i n).rows:=by simpa [QY] using I
  rw[e1] at D;exact⟨_,Z,k R q B s2 p v D⟩
 ·rw[sL] at z;subst z;let a1:(!(iN (rest++[b])).isEmpty)=true:=by simp[iN]
  rw[a1];refine Z6 ⟨_,λ_ _ z=>z,?_⟩;let bl:b∈lv:=S b (by simp)
  let eI:iN (rest++[b])=iN rest++[.int (b:Nat)]:=by simp[iN]
  exists _,Z,_,Z,.inl ⟨Z,_,ZF.of t⟩,j,iN (rest++[b]),.int (b:Nat),Z,Z,t,by rw[eI];simp
  let u:upd R j (.lst (iN (rest++[b])).dropLast) j=some (.lst (iN rest)):=by rw[ZP,eI,List.dropLast_concat]
  let r:upd R j (.lst (iN (rest++[b])).dropLast) q=some (.lst B):=by rw[ZO (Ne.symm y)];exact v
  let X:ZB H (upd R j (.lst (iN (rest++[b])).dropLast)):=UO s2 x;let G:jU (upd R j (.lst (iN (rest++[b])).dropLast)) (Y2 a) B:=D.mono (λc xs e=>by rw[ZO (ZD e t)];exact e) _ _
  generalize upd R j (.lst (iN (rest++[b])).dropLast)=H3 at u r X G⊢;let⟨tp,tl,Y,g1,e2,e3,e4,e5⟩:=(L.same X).get bl;let er:QY i (rest++[b])=(gd i b).rows++QY i rest:=by simp[QY]
  let lr:(QY i (rest++[b])).length=(gd i b).rows.length+(QY i rest).length:=by rw[er,yV]
  let a8:B.length=a.length:=by have:=G.length;rw[<-this];exact zX _
  exists d,.ref tp,Z,g1,tp,_,Z,Za.of e2,Z,_,_,Z,_,_,Z,Z;exists _,Z,Z,_,Z;by_cases U:(gd i b).h=0
  ·let ek:decide (V.str (kindOf (gd i b))=V.str "leaf")=true:=aK (by unfold kindOf;rw[aO U])
   rw[ek];let kk:=e4 U;let lw:Y.length=(gd i b).rows.length:=by have:=kk.length;rw[<-this];exact zX _
   refine Z6 ⟨_,Z,_,Z,tl,Y,Z,.inl (ZF.of e3),λq1 n1=>?_⟩;let C:=Zb n1 (.lst Y);exists q,q1,B,Y,Z,Z,C _ _ r,ZP,xX (YO ∅)
   intro q2 J;let g5:=Zb J (.lst (B++Y));let o:=C.trans g5;let O:=ZB.free (X.trans C) J;let tq:j≠q2:=λz=>by rw[<-z,C _ _ u] at J;cases J
   exists _,ZNj,j,q2,rest,a++(gd i b).rows,B++Y,_,_,Z,Z,X.trans o,x,O,tq,o _ _ u,ZP,?_,λc N=>S c (xD _ N)
   ·rw[FF];exact(G.sm o).append (kk.sm o)
   ·rw[rT,<-er];exact I
  ·let ek:decide (V.str (kindOf (gd i b))=V.str "leaf")=false:=aJ (by unfold kindOf;rw[aM U];decide)
   rw[ek];let ew:=e5 U;subst ew;let⟨h1,h2,h3,h4⟩:=(L.at_ b bl).stem U;refine Zj ⟨_,Z,_,Z,tl,_,Z,ZF.of e3,λq1 n1=>?_⟩;let C:=Zb n1 (.lst (iN (gd i b).bs).reverse);exists j,q1,iN rest,_,Z,Z,C _ _ u,ZP,xX (YO (by simp[iN];simp at lt;lia))
   intro q2 J;let g5:=Zb J (.lst (iN rest++(iN (gd i b).bs).reverse));let o:=C.trans g5;let O:=ZB.free (X.trans C) J;let fq:q2≠q:=λz=>by rw[z,C _ _ r] at J;cases J
   exists _,Bf (L.at_ b bl) U,q2,q,rest++(gd i b).bs.reverse,a,B,_,_,Z,Z,X.trans o,O,p,fq,?_,o _ _ r,G.sm o,λc N=>?_
   ·rw[ZP];simp[iN]
   ·rcases yX.mp N with N | N
    ·exact S c (xD _ N)
    ·exact L.cl b bl c (sY.mp N)
   ·rw[<-I,er,h4];simp[QY]
def ZLZ{a:je}{j:Nat}{v:V}(b:1<=j)(c:j<=a.length)(h:a[a.length-j]? = some v):Xt a (-(j:Int))=some v:=by
 unfold Xt;let e:QX a.length (-(j:Int))=some (a.length-j):=by
  unfold QX;rw[aM ∅,aO ∅]
  congr 1
  lia
 rw[e];exact h
def rd:WX:=(.int 0,.int 0)
def YK(t:ZL):YW:=⟨t.h,(t.rows.getD 0 rd).1,(t.rows.getD (t.rows.length-1) rd).1,t.rows.length⟩
def Nz{H:Hp}{c:jI}{j:je}{i:Nat}{u:V}(h:jU H (Y2 c) j)(e:j[i]? = some u):∃ a k l,c[i]? = some (c.getD i rd)/\u=.ref a/\H a=some (.tup [k,l])/\ZG H (c.getD i rd).1 k/\ZG H (c.getD i rd).2 l:=by
 let⟨t,d,f⟩:=h.get e;unfold Y2 at d;rw[zM] at d;let⟨r,g,rfl⟩:=yK.mp d;let m:c.getD i rd=r:=by rw[zS,g];rfl
 unfold Lo at f;rw[ZG] at f;let⟨a,x,rfl,n,b⟩:=f;rw[jU] at b;let⟨q,v,rfl,o,b⟩:=b;rw[jU] at b;let⟨s,w,rfl,p,b⟩:=b;rw[jU] at b;subst b;rw[m];exact⟨a,q,s,g,Z,n,o,p⟩
inductive Ya(gt:jq)(g:je)(H:Hp)(Q:VK)(_:XK):Prop
 |mk(d:aj)(n:Nat)(e:jr)(c:jp)(b:List (ZR×V))(_:g=[.ref d,.int n])(_:WK gt H d e c b)(_:n∈c)(_:∀(a:Hp)(v:V),ZB H a->Z9 a (YK (gd e n)) v->Q v a)
abbrev ZNO:js:=["_law_twigs","_law_number","_law_here","_law_high","_law_rows"]
def Vj:ZA ZNO zEb (Ze JT):=Z4
def ZKD{gt:jq}(F:Zn K "_law_label" "_law_label" JT f fd)(T:YZ mg)(DR:ZC P w K mg kf 1 "_law_rows_of" zEb (WP gt)):ZK P w K mg kf Zc 2 f fd zEb (Ya gt):=by
 refine F.ko Vj λa2 A Y s H vs Q E hr h=>?_;let⟨d,n,a,lv,W,rfl,L,M,k⟩:=h;let o:=Vj.nd;let hu:=WV hr;intro Xc;refine⟨_,ZN (Zo 2 o (pv 1)) (ZN (Zo 3 o ZM)
  (ZN (N1 PassesOwn.never (YJ WT (Zi K (Xp hu (pv 0) (pv 2)) ZM) Yn (Z3 _))
   (ZN (Zo 2 o (Zi K (Zi K (Xp hu (pv 0) (pv 2)) ZM) ZM))
   (ZV (Zo 3 o (Zu Xm (pv 3) ZM)))))
  (ZN (Zo 4 o (Zk DR hr (Zd (pv 0) (pv 1))))
  (ZV (Zq (Ym (Pm (pv 3) (Zi K (Zi K (pv 4) ZM) ZM) (Zi K (Zi K (pv 4) (Pn Pr ZM)) ZM) (Zp X9 rfl T.len Xa (ZX (pv 4)))))))))),?_⟩
 exists _,Z;refine⟨λm σ H'=>∃(b i:Nat),m=(gd a b).h/\σ=[some (.ref d),some (.int n),some (.int (b:Nat)),some (.int (i:Nat)),none]/\H'=H/\b∈lv/\i+(gd a b).h=(gd a n).h,
  ⟨_,n,0,Z,Z,Z,M,∅⟩,?_⟩
 rintro m σ H1 ⟨b,i,rfl,rfl,rfl,v,hh⟩;let⟨u,tl,ws,g1,r,e3,e4,e5⟩:=L.get v;refine⟨_,Z,_,Z,d,.ref u,Z,g1,.inr (.inl ⟨u,_,0,_,rfl,rfl,Za.of r,rfl,?_⟩)⟩;exists Z,_,Z;by_cases t:(gd a b).h=0
 ·let y:decide (V.str (kindOf (gd a b))=V.str "stem")=false:=aJ (by unfold kindOf;rw[aO t];decide)
  rw[y];refine Zj ?_;exists _,Z,_,Z,d,n,a,lv,W,Z,L,M;intro H2 D e s2 nD I R;let p:=L.at_ n M;let l:e.length=(gd a n).rows.length:=by have:=R.length;rw[<-this];exact zX _
  let X:=p.len L.up;rw[L.len] at X;let g:0<e.length:=by rw[l];exact uE.mpr p.ne
  let B:e[0]? = some e[0]:=zV g;let C:e[e.length-1]? = some (e[e.length-1]'∅):=zV ∅
  let⟨a0,N,v0,r0,u0,t0,S,_⟩:=Nz R B;let⟨a1,O,v1,r1,u1,t1,U,_⟩:=Nz R C;rw[u0] at B;rw[u1] at C;refine⟨_,Z,_,Z,.inl ⟨D,e,0,.ref a0,Z,Z,ZF.of I,Xd (j:=0) B,.inr (.inl ⟨a0,_,0,N,rfl,rfl,Za.of t0,rfl,?_⟩)⟩⟩;refine⟨_,Z,1,Z,.inl ⟨D,e,-1,.ref a1,Z,Z,ZF.of I,ZLZ (j:=1) (zY _) g C,.inr (.inl ⟨a1,_,0,O,rfl,rfl,Za.of t1,rfl,?_⟩)⟩⟩;exists _,Z,D,e,Z,.inl (ZF.of I),YA;intro q nq;let G:=Zb nq (.tup [.int (i:Nat),N,O,.int (e.length:Nat)]);refine k _ _ (s2.trans G) ⟨q,N,O,Z,?_,S.sm G,?_⟩
  ·rw[ZP];let e1:(YK (gd a n)).h=(i:Int):=by show ((gd a n).h:Int)=_;lia
   let r:(YK (gd a n)).m=(e.length:Int):=by show ((gd a n).rows.length:Int)=_;lia
   rw[e1,r]
  ·let x:(YK (gd a n)).hi=((gd a n).rows.getD (e.length-1) rd).1:=by rw[l];rfl
   rw[x];exact U.sm G
 ·let y:decide (V.str (kindOf (gd a b))=V.str "stem")=true:=aK (by unfold kindOf;rw[aM t])
  rw[y];let ew:=e5 t;subst ew;let⟨h1,h2,h3,h4⟩:=(L.at_ b v).stem t;obtain⟨c,J⟩:∃ c,(gd a b).bs[0]? = some c:=⟨_,zV ∅⟩
  let a3:=h3 c (zC J);refine Z6 ⟨_,λ_ _ z=>z,?_⟩;refine⟨_,Z,_,Z,d,.ref u,Z,g1,.inr (.inl ⟨u,_,1,_,rfl,rfl,Za.of r,rfl,.inl ⟨tl,_,0,.int (c:Nat),rfl,rfl,ZF.of e3,Xd (j:=0) (by simp[iN,J]),?_⟩⟩)⟩
  exists _,Z,_,_,Z,Z;exact⟨(gd a c).h,∅,c,i+1,Z,by simp[List.set],Z,L.cl b v c (zC J),∅⟩
def YG(b:jr)(a:jp)(i:Nat):jp:=a.filter λj=>decide (i∈(gd b j).bs)
def HN(x:Nat)(l:jp):NV (.int (x:Nat)) (iN l)=decide (x∈l):=by
 unfold NV iN;rw[List.any_map]
 induction l with
 | nil=>rfl
 | cons n l a=>
  rw[wA,a];let e:((λy=>QH y (V.int (x:Nat))) ∘ λb:Nat=>V.int (b:Nat)) n=decide (n=x):=by
   show QH (.int (n:Nat)) (.int (x:Nat))=_;rw[xB];simp[QH]
   lia
  rw[e];by_cases h:n=x
  ·subst h;simp
  ·have:¬ x=n:=λz=>h z.symm;simp[h,this]
def OP(l:jp):(iN l).all PH=true:=by
 unfold iN;rw[wF];exact zF.mpr λ_ _=>rfl
def JQ{J:It}{w:jp}{A:L2.St}{H:Hp}{y:TT}{Q:VK}(e:jp)(p:Nat->Bool)(F:e.length<=900)(s:∀ i a,ZB H a->i<e.length->J.go i a)(E:∀ i a x b,ZB H a->i<e.length->J.yld i a x b->b=a/\(iN e)[i]? = some x)(h:∀ a,ZB H a->J.stop e.length a)(o:∀ a n (R:Bool->Hp->Prop),n∈e->ZB H a->R (p n) a->y (P0 A w (.int (n:Nat))) a R)(r:∀ (D:aj) (a:Hp),ZB H a->H D=none->a D=some (.lst (iN (e.filter p)))->Q (.ref D) a):WH J A w y (UC 0) H Q:=by
 refine ZGy (n:=e.length) (λi z=>(iN e)[i]? = some z) (λz=>match z with | .int n=>p n.toNat | _=>false) (λD i f b=>ZB H b/\H D=none/\f=iN ((e.take i).filter p)) (YO ∅)
  (λD i f b j c=>s i b c.1 j) (λD i f b z B j c u=>E i b z B c.1 j u) (λD f b c=>h b c.1)
  (λD v=>⟨Zb v _,v,Z⟩) (λD i f b z j d c R C=>?_) (λD i f b z q j d t c=>?_) (λD i f b z q j d t c=>?_) (λD f b q c=>?_)
 ·unfold iN at d;rw[zM] at d;let⟨n,l,rfl⟩:=yK.mp d;exact o b n R (zC l) c.1 C
 ·let⟨m,k,rfl⟩:=c;unfold iN at d;rw[zM] at d;let⟨n,l,rfl⟩:=yK.mp d;exists UO m k,k;let g:p n=true:=t;rw[yM,l,uI];simp[g,iN]
 ·let⟨m,k,rfl⟩:=c;unfold iN at d;rw[zM] at d;let⟨n,l,rfl⟩:=yK.mp d;exists m,k;let g:p n=false:=t;rw[yM,l,uI];simp[g]
 ·let⟨m,k,rfl⟩:=c;rw[yQ (zY _)] at q;exact r D b m k q
def Ub{a:jp}(h:a.Pairwise (· < ·)):(a.map λi:Nat=>(i:Int)).Pairwise (· <= ·):=by
 rw[List.pairwise_map];exact h.imp λh=>by lia
inductive XQ(gt:jq)(g:je)(H:Hp)(Q:VK)(_:XK):Prop
 |mk(d:aj)(n:Nat)(e:jr)(c:jp)(b:List (ZR×V))(_:g=[.ref d,.int n])(_:Y5 gt H d e c b)(_:c.length<64)(_:∀(a:Hp)(D:aj),ZB H a->H D=none->a D=some (.lst (iN (YG e c n)))->Q (.ref D) a)
def UY:ZA zEb zEb (Ze Kc):=Z4
def ZLb{gt:jq}(F:Zn K "_law_above" "_law_above" Kc f fd)(T:YZ mg):ZK P w K mg kf Zc 1 f fd zEb (XQ gt):=by
 refine F.ko UY λO A v s H vs Q E hr h=>?_;let⟨d,n,l,a,t,rfl,L,u,k⟩:=h;let nd:=UY.nd;let J:=WV hr;intro Xc;refine⟨_,ZV (Zq (Um [0,1] zEb rfl (Xh (Zp (Qa rfl) rfl T.sorted Uk (ZX (pv 0))))
  (λ_ _ _ _ _=>OB (PW.pt (OM (YJ WT (Zi K (Xp J (pv 1) (pv 0)) ZM) Yn (Z3 _)) (Ou (YJ (r:=PY K false) Gz (pv 2) (Zi K (Xp J (pv 1) (pv 0)) ZM) rfl)))))
  (λ_ _ _ _ _=>pv 0) ⟨rfl,.inl rfl,rfl,rfl,.inl rfl,rfl,trivial⟩)),?_⟩
 exists _,Z,d,t,a.map λi:Nat=>(i:Int),Z,L.dict,(by rw[L.tws.1,zO];rfl),Ub L.lv.up,by simpa using u
 intro p np;let W:(a.map λi:Nat=>(i:Int)).map V.int=iN a:=by rw[zO];rfl
 rw[W];let⟨H1,X,o,e⟩:=VN np (.lst (iN a));rw[X];refine⟨p,Z,⟨_,ZF.of e⟩,JQ a (λj=>decide (n∈(gd l j).bs)) ∅ (λi B b I=>⟨_,.int (a[i]:Nat),ZF.of (b _ _ e),by simp[iN,zV I]⟩) (λi B x H4 b I M=>⟨M.1,M.2 _ (ZF.of (b _ _ e))⟩) (λB b=>⟨_,ZF.of (b _ _ e),by simp[iN]⟩) (λz j R hj y q=>?_) (λD z y nD hD=>?_)⟩
 ·let N:j∈a:=hj;let⟨g,tl,ws,G,C,S,e4,U⟩:=(L.same (o.trans y)).get N;refine⟨_,Z,_,Z,d,.ref g,Z,G,.inr (.inl ⟨g,_,0,_,rfl,rfl,Za.of C,rfl,?_⟩)⟩;exists Z,_,Z;by_cases c:(gd l j).h=0
  ·let m:decide (V.str (kindOf (gd l j))=V.str "stem")=false:=aJ (by unfold kindOf;rw[aO c];decide)
   rw[m];let Y:=((L.at_ N).leaf c).1;rw[Y,aJ (by simp)] at q
   exact Zj q
  ·let m:decide (V.str (kindOf (gd l j))=V.str "stem")=true:=aK (by unfold kindOf;rw[aM c])
   rw[m];let ew:=U c;subst ew;refine Z6 ⟨_,Z,_,Z,_,Z,d,.ref g,Z,G,.inr (.inl ⟨g,_,1,_,rfl,rfl,Za.of C,rfl,?_⟩)⟩;exists tl,_,Z,.inl (ZF.of S),Z,OP _,_,Z;rw[aM zU,HN];exact q
 ·exact k z D (o.trans y) (ZB.free o nD) hD
inductive Sh(ts:jr)(lv:jp)(ho:Nat->Nat):Nat->jO->Prop
 | here {i:Nat}:(YG ts lv i).length+ho i≠1->Sh ts lv ho i (some i)
 | top {i:Nat}:(YG ts lv i).length+ho i=1->YG ts lv i=[]->Sh ts lv ho i none
 | up {i j:Nat} {r:jp} {o:jO}:(YG ts lv i).length+ho i=1->YG ts lv i=j::r->Sh ts lv ho j o->Sh ts lv ho i o
def Sh.uniq{j:jr}{f:jp}{e:Nat->Nat}{i:Nat}{o p:jO}(h:Sh j f e i o)(g:Sh j f e i p):o=p:=by
 induction h generalizing p with
 | here a=>
  cases g with
  | here=>rfl
  | top b=>exact absurd b a
  | up b=>exact absurd b a
 | top a b=>
  cases g with
  | here c=>exact absurd a c
  | top=>rfl
  | up _ c=>rw[b] at c;cases c
 | up a b _ k=>
  cases g with
  | here c=>exact absurd a c
  | top _ c=>rw[b] at c;cases c
  | up _ c d=>
   rw[b] at c;cases c;exact k d
inductive Zx(ts:jr)(lv:jp)(ho:Nat->Nat):Nat->jp->Prop
 | top {i:Nat}:(YG ts lv i).length+ho i=1->YG ts lv i=[]->Zx ts lv ho i [i]
 | up {i j:Nat} {l r:jp}:(YG ts lv i).length+ho i=1->YG ts lv i=j::r->Zx ts lv ho j l->Zx ts lv ho i (i::l)
def Sh.road{e:jr}{d:jp}{c:Nat->Nat}{i:Nat}{o:jO}(h:Sh e d c i o):o=none->∃ l,Zx e d c i l:=by
 induction h with
 | here _=>intro z;cases z
 | top a b=>intro _;exact⟨_,.top a b⟩
 | up a b _ f=>
  intro z;let⟨l,h⟩:=f z;exact⟨_,.up a b h⟩
def Zx.sh{e:jr}{d:jp}{c:Nat->Nat}{i:Nat}{l:jp}(h:Zx e d c i l):Sh e d c i none:=by
 induction h with
 | top a b=>exact .top a b
 | up a b _ f=>exact .up a b f
def Zx.uniq{k:jr}{j:jp}{f:Nat->Nat}{i:Nat}{l e:jp}(h:Zx k j f i l)(g:Zx k j f i e):l=e:=by
 induction h generalizing e with
 | top a b=>
  cases g with
  | top=>rfl
  | up _ c=>rw[b] at c;cases c
 | up a b _ m=>
  cases g with
  | top _ c=>rw[b] at c;cases c
  | up _ c d=>
   rw[b] at c;cases c;rw[m d]
def oV:jO->V
 | none=>.non
 | some j=>.int (j:Nat)
def OW{gt:jq}{a:jr}{b:jp}(f:WF gt a)(e:Lv a b){i j:Nat}(h:j∈YG a b i):(gd a i).h<(gd a j).h/\j∈b:=by
 unfold YG at h;rw[yN,decide_eq_true_iff] at h;let d:=f j _ (Wd (e.lt j h.1));by_cases c:(gd a j).h=0
 ·rw[(d.leaf c).1] at h;simp at h
 ·exact⟨by have:=((d.stem c).2.2.1 i h.2).2;lia,h.1⟩
def F9(b:jr)(a:jp)(i:Nat):(YG b a i).length<=a.length:=sJ _ _
def Wg(a:List (ZR×V))(b:jp)(c:Nat->Nat):Prop:=a.map (·.1)=b.map (λi:Nat=>(Sum.inl (i:Int):ZR))/\∀ i:Nat,i∈b->YI a (Sum.inl (i:Int))=some (.int (c i:Nat))
inductive XR(gt:jq)(j:je)(H:Hp)(Q:VK)(_:XK):Prop
 |mk(d g:aj)(n:Nat)(i:jr)(b:jp)(c a:List (ZR×V))(h:Nat->Nat)(_:j=[.ref d,.ref g,.int n])(_:Y5 gt H d i b c)(_:b.length<64)(_:n∈b)(_:H g=some (.dK a))(_:Wg a b h)(_:∀(e:Hp)(o:jO),ZB H e->Sh i b h n o->Q (oV o) e)
abbrev BN:js:=["_law_twigs","_law_holds","_law_number","_law_here","_law_stems"]
def Vc:ZA BN zEl (Ze Ka):=Z4
def B6{gt:jq}(F:Zn K "_law_shared" "_law_shared" Ka f fd)(T:YZ mg)(DA:ZC P w K mg kf 1 "_law_above" zEb (XQ gt)):ZK P w K mg kf Zc 2 f fd zEl (XR gt):=by
 refine F.ko Vc λa0 A S s H vs Q E J h=>?_;let⟨d,y,n,a,e,N,a1,g,rfl,L,O,hn,hh,hH,k⟩:=h;let R:=Vc.nd;let hu:=WV J;intro Xc;refine⟨_,ZN (Zo 3 R (pv 2)) (ZV (N1 PassesOwn.never (Yk Uf)
  (ZN (Zo 4 R (Zk DA J (Zd (pv 0) (pv 3))))
  (ZN (Zy (YJ Qs (Zu Xm (Zp X9 rfl T.len Xa (ZX (pv 4))) (Xp hu (pv 1) (pv 3))) ZM (Z3 _)) (ZV (Zq (pv 3))) Z0)
  (ZN (Zy (YJ (MC J.units0) (pv 4) (XH Zt) (Z3 _)) (ZV (Zq Od)) Z0)
  (ZV (Zo 3 R (US Z2 (pv 4) ZM (λ_ _=>rfl))))))))),?_⟩
 exists _,Z;refine⟨λm σ H'=>∃(b:Nat)(X:jf),m=VQ a (gd a b).h/\σ=[some (.ref d),some (.ref y),some (.int n),some (.int (b:Nat)),X]/\ZB H H'/\b∈e/\∀ o,Sh a e g b o->Sh a e g n o,
  ⟨_,n,none,Z,Z,ZB.refl H,hn,λ_ z=>z⟩,?_⟩
 rintro m σ H1 ⟨b,X,rfl,rfl,s1,bl,U⟩;refine⟨_,Z,Z6 ⟨_,λ_ _ z=>z,?_⟩⟩;exists _,Z,_,Z,d,b,a,e,N,Z,L.same s1,O;intro v D s2 nD C;let p:=s1.trans s2;let hg:Zg v y (.int (b:Nat)) (some (.int (g b:Nat))):=hH.2 b bl ▸ Zg.k (k:=Sum.inl (b:Int)) (p _ _ hh);let Y:(iN (YG a e b)).length=(YG a e b).length:=zX _;exists _,Z,D,_,Z,.inl (ZF.of C),_,Z,_,Z,y,.int (g b:Nat),Z,hg,_,_,Z,Z;exists Z,_,Z;refine Xj (λc=>?_) (λc=>?_)
 ·let u:(YG a e b).length+g b≠1:=λz=>by
   rw[rV,decide_eq_false_iff_not] at c;refine c ?_;show V.int (((iN (YG a e b)).length:Nat)+(g b:Nat):Int)=V.int 1;rw[Y]
   congr 1
   lia
  exact⟨_,Z,k v (some b) p (U _ (.here u))⟩
 ·let u:(YG a e b).length+g b=1:=by
   rw[rV,decide_eq_false_iff_not,Decidable.not_not] at c;let x:V.int (((iN (YG a e b)).length:Nat)+(g b:Nat):Int)=V.int 1:=c;rw[Y] at x;injection x with x
   lia
  exists _,Z,YA;intro W G;let B:=Zb G (.lst []);exists D,W,_,Z,Z,ZF.of (B _ _ C),ZF.of ZP,_,Z;let l:=B _ _ C;let q:=p.trans B;generalize upd v W (.lst [])=H3 at l q⊢
  cases t:YG a e b with
  | nil=>
   rw[show (iN ([]:jp)).isEmpty=true from rfl];exact Z6 (k H3 none q (U _ (.top u t)))
  | cons j r=>
   rw[show (iN (j::r)).isEmpty=false from rfl];rw[t] at l;let M:=OW L.wf L.lv (i:=b) (j:=j) (by rw[t];exact zP)
   let jt:=L.lv.lt j M.2;refine Zj ⟨_,Z,D,_,0,.int (j:Nat),Z,Z,ZF.of l,Xd (j:=0) Z,?_⟩;exact⟨VQ a (gd a j).h,Mi jt M.1,j,_,Z,Z,q,M.2,λo I=>U o (.up u t I)⟩
def Yb.snoc{H:Hp}{d:jJ}{a:je}{L:YW}{u:V}(h:Yb H d a)(g:Z9 H L u):Yb H (d++[L]) (a++[u]):=by
 exists by rw[yV,yV,h.1];rfl
 intro i w e;rcases yH i a.length with b | b
 ·rw[wP b] at e;have:=h.2 i w e;rw[zS] at this⊢;rw[wP (by rw[<-h.1];exact b)]
  exact this
 ·rw[wO b] at e;let c:i-a.length=0:=by
   rcases Nat.eq_zero_or_pos (i-a.length) with z | z
   ·exact z
   ·rw[vD (by simp;lia)] at e;cases e
  rw[c] at e;simp at e;subst e;let f:i=d.length:=by have:=h.1;lia
  rw[zS,f];simp;exact g
def YX(a:jp)(x:Int):Bool:=decide (0<=x/\x.toNat∈a)
def K4(a:jJ):Prop:=∀ j,j+1<a.length->(a.getD (j+1) .d).h=(a.getD 0 .d).h/\(a.getD j .d).hi.lt (a.getD (j+1) .d).lo=true
def WM{c:jJ}:K4 c ↔ LM c=true:=by
 unfold K4 LM Qm;rw[zF];constructor
 ·intro h j e;let g:j<c.length-1:=xL.mp e;let⟨a,b⟩:=h j ∅
  rw[zQ];refine⟨?_,b⟩;rw[beq_iff_eq,a]
  cases j with
  | zero=>rfl
  | succ j=>exact(h j ∅).1
 ·intro h;let f:∀ j,j<c.length->(c.getD j .d).h=(c.getD 0 .d).h:=λj=>by
   induction j with
   | zero=>intro _;rfl
   | succ j i=>
    intro e;have:=h j (xL.mpr ∅)
    rw[zQ,beq_iff_eq] at this;rw[<-this.1];exact i ∅
  intro j e;have:=h j (xL.mpr ∅)
  rw[zQ] at this;exact⟨f (j+1) e,this.2⟩
def Ig{gt:jq}{d:jr}{i:Nat}{t:ZL}(h:Zz gt d i t):(YK t).fit:=by
 let a:0<t.rows.length:=uE.mpr h.ne;let b:t.rows.getD 0 rd∈t.rows:=by rw[zS,zV a];exact xO _
 let c:t.rows.getD (t.rows.length-1) rd∈t.rows:=by rw[zS,zV (show t.rows.length-1<t.rows.length by lia)];exact xO _
 exact⟨(h.inn _ b).2.1,(h.inn _ c).2.1⟩
def Z7(a:jr)(bs:jp):jJ:=bs.map λb=>YK (gd a b)
def OY:jG->V
 | none=>.non
 | some h=>.int h
def Qv(a:jJ)(b:jG):Prop:=over a≠none/\∀ h,b=some h->(a.getD 0 .d).h+1=h
inductive XM(gt:jq)(m:je)(H:Hp)(Q:VK)(_:XK):Prop
 |mk(d l:aj)(g:jw)(j:jr)(e k:jp)(c:List (ZR×V))(h:jG)(_:m=[.ref d,.ref l,OY h])(_:WK gt H d j k c)(_:c.map (·.1)=e.map (λi:Nat=>(Sum.inl (i:Int):ZR)))(_:∀ i∈e,∃ v,YI c (Sum.inl (i:Int))=some v)(_:∀ i∈e,((i:Nat):Int)∈g->i∈k)(_:H l=some (.lst (g.map V.int)))(_:g.length<=100)(_:∀ x,g.find? (λx=>!YX e x)=some x->∀(t:aj)(a:Hp),ZB H a->a t=some (.tup [.str "twig",.int x])->Q (.ref t) a)(_:∀ bs:jp,g=bs.map (λb:Nat=>(b:Int))->(∀ b∈bs,b∈e)->¬ Qv (Z7 j bs) h->∀(t:aj)(a:Hp),ZB H a->a t=some (.tup [.str "stem"])->Q (.ref t) a)(_:∀ bs:jp,g=bs.map (λb:Nat=>(b:Int))->(∀ b∈bs,b∈e)->Qv (Z7 j bs) h->∀ a:Hp,ZB H a->Q .non a)
inductive XL(gt:jq)(k:je)(H:Hp)(Q:VK)(_:XK):Prop
 |mk(d l:aj)(g:jw)(h:jr)(e j:jp)(c:List (ZR×V))(_:k=[.ref d,.ref l,.non])(_:WK gt H d h j c)(_:c.map (·.1)=e.map (λi:Nat=>(Sum.inl (i:Int):ZR)))(_:∀ i∈e,∃ v,YI c (Sum.inl (i:Int))=some v)(_:∀ i∈e,((i:Nat):Int)∈g->i∈j)(_:H l=some (.lst (g.map V.int)))(_:g.length<=100)(_:∀ x,g.find? (λx=>!YX e x)=some x->∀(t:aj)(a:Hp),ZB H a->a t=some (.tup [.str "twig",.int x])->Q (.ref t) a)(_:∀ bs:jp,g=bs.map (λb:Nat=>(b:Int))->(∀ b∈bs,b∈e)->over (Z7 h bs)=none->∀(t:aj)(a:Hp),ZB H a->a t=some (.tup [.str "stem"])->Q (.ref t) a)(_:∀ bs:jp,g=bs.map (λb:Nat=>(b:Int))->(∀ b∈bs,b∈e)->over (Z7 h bs)≠none->∀ a:Hp,ZB H a->Q .non a)
abbrev ZPJ:js:=["_law_twigs","_law_numbers","_law_high","_law_number","_law_labels","_law_j"]
def UR:ZA ZPJ zEh (Ze IE):=Z4
def Hz{gt:jq}(F:Zn K "_law_wrong" "_law_wrong" IE f fd)(T:YZ mg)(DL:ZC P w K mg kf 2 "_law_label" zEb (Ya gt))(DS:ZC P w K mg kf 7 "_law_less" zEv Y1):
  ZK P w K mg kf Zc 8 f fd zEh (XM gt):=by
 refine F.ko UR λi7 A e9 s H vs Q E hr h=>?_;let⟨d,l,ns,ts,lv,gv,a4,hg,rfl,L,e5,e7,e2,hl,i0,q1,q2,q3⟩:=h;let nd:=UR.nd;let hu:=WV hr;let e6:=hr.mono (show 2<=7 from nofun)
 intro Xc;refine⟨_,ZN (WU PassesOwn.never rfl (Xh (pv 1)) (Ye 3 nd)
   (ZV (Zy (Ur (Jo hu (pv 3) (pv 0))) (ZV (Zq (Ym (Zd Yn (pv 3))))) Z0)))
  (ZN (ON (i:=4) [0] ["_law_twigs"] nd rfl rfl rfl (Xh (pv 1)) (λ_ _ _ _ _=>V4) (λ_ _ _ _ _=>Zk DL e6 (Zd (pv 1) (pv 0))) ⟨rfl,.inl rfl,rfl,trivial⟩)
  (ZN (Zy (PW.pt (VO (XT (JJ Qu Qu ZM (Zp X9 rfl T.len Xa (ZX (pv 4))) ZM)) (Uj (PW.pt (OM (Ur (N0 (pv 2))) (Ou (YJ Qs (Zu Xm (Zi K (Zi K (pv 4) ZM) ZM) ZM) (pv 2) (Z3 _))))))))
   (ZV (Zq (Ym (ZX Yn)))) Z0)
  (ZN (WU PassesOwn.never rfl (LF rfl T.range (Zd ZM (Zp X9 rfl T.len Xa (ZX (pv 4))))) (Ye 5 nd)
   (ZV (Zy (PW.pt (VO (YJ Qs (Zi K (Zi K (pv 4) (pv 5)) ZM) (Zi K (Zi K (pv 4) ZM) ZM) (Z3 _))
     (Uj (XT (Yk (Zk DS hr (Zd (Zi K (Zi K (pv 4) (Zu QP (pv 5) ZM)) ZM) (Zi K (Zi K (pv 4) (pv 5)) ZM))))))))
    (ZV (Zq (Ym (ZX Yn)))) Z0)))
  (ZV (Zq Od))))),?_⟩
 let c3:∀{x:Int}{W:Hp},ZB H W->∃ o,Zg W d (.int x) o/\(!o.isSome) = !YX lv x:=fun{x W} S=>by
  exists YI a4 (Sum.inl x),Zg.k (k:=Sum.inl x) (S _ _ L.dict)
  congr 1
  unfold YX;by_cases hx:0<=x/\x.toNat∈lv
  ·rw[aK hx];let⟨v,e⟩:=e7 x.toNat hx.2;let ex:((x.toNat:Nat):Int)=x:=nofun
   rw[ex] at e;rw[e];rfl
  ·rw[aJ hx]
   cases z:YI a4 (Sum.inl x) with
   | none=>rfl
   | some v=>
    have:=Nu z;rw[e5] at this;let⟨i,O,ei⟩:=zJ.mp this;let ei:=Sum.inl.inj ei;refine absurd ⟨nofun,?_⟩ hx
    rw[<-ei];exact O
 refine⟨_,Z,l,Z,⟨_,ZF.of hl⟩,Ui (K:=K) (a:=l) (xs:=ns.map V.int) (λi σ W=>∃ x:jf,σ=[some (.ref d),some (.ref l),some (OY hg),x,none,none]/\ZB H W/\(ns.take i).find? (λx=>!YX lv x)=none) ⟨_,Z,ZB.refl H,Z⟩ (λi σ W _ N=>by let⟨_,_,S,_⟩:=N;exact ZF.of (S _ _ hl)) ?_ ?_⟩
 ·rintro i u σ W a8 ⟨x,rfl,S,hn⟩;rw[zM] at a8;let⟨n,en,rfl⟩:=yK.mp a8;let⟨o,ho,eo⟩:=c3 (x:=n) S;let⟨f1,f2⟩:=No hn en;exists _,Z,_,Z,d,o,Z,ho,_,Z;rw[eo]
  cases c:!YX lv n with
  | true=>exact Z6 ⟨_,Z,YA,λt J=>q1 n (f1 c) t _ (S.trans (Zb J _)) ZP⟩
  | false=>exact Zj ⟨_,Z,S,f2 c⟩
 rintro σ W ⟨x,rfl,S,hn⟩;rw[zX,yQ (zY _),vT] at hn;obtain⟨bs,eb,hb⟩:∃ bs:jp,ns=bs.map (λb:Nat=>(b:Int))/\∀ b∈bs,b∈lv:=by
  let a7:∀ y∈ns,0<=y/\y.toNat∈lv:=λy hy=>by
   have:=hn y hy;unfold YX at this;simpa using this
  refine⟨ns.map wY,?_,λb hb=>?_⟩
  ·rw[zO];have:ns=ns.map id:=(List.map_id _).symm;rw[this];simp only[zO];refine uD λy hy=>?_;have:=a7 y hy;show y=((y.toNat:Nat):Int)
   lia (splits:=8)
  ·let⟨y,hy,rfl⟩:=zJ.mp hb;exact(a7 y hy).2
 let e8:ns.length=bs.length:=by rw[eb,zX]
 let a5:∀ b∈bs,b∈gv:=λb h=>e2 b (hb b h) (by rw[eb];exact zJ.mpr ⟨b,h,Z⟩)
 let c1:=q2 bs eb hb;let c2:=q3 bs eb hb;clear q1 q2 q3 c3;let X:=S _ _ hl;exists _,Z,l,Z,⟨_,ZF.of X⟩;refine Vv (n:=bs.length) (λi z=>(ns.map V.int)[i]? = some z) (λD i ys I=>ZB W I/\W D=none/\Yb I ((Z7 ts bs).take i) ys) (YO nofun)
  (λD i ys I O N=>⟨_,.int (bs[i]:Nat),ZF.of (N.1 _ _ X),by rw[eb];simp[O]⟩) (λD i ys I z r O N hy=>⟨hy.1,hy.2 _ (ZF.of (N.1 _ _ X))⟩) (λD ys I N=>⟨_,ZF.of (N.1 _ _ X),by simp[e8]⟩)
  (λD hD=>⟨Zb hD _,hD,Z,λi u e=>by simp at e⟩) (λD i ys I z eD i8 O hz N R hR=>?_) (λD p I eD N=>?_)
 ·let⟨s3,nD,hk⟩:=N;let ez:z=.int (bs[i]:Nat):=by
   rw[eb,zO,zM,zV O] at hz;exact(zG.inj hz).symm
  subst ez;exists _,Z,_,Z,d,bs[i],ts,gv,a4,Z,L.same (S.trans s3),a5 _ (xO _);intro r v G hv;let C:=G _ _ eD;let tD:YR r (upd r D (.lst (ys++[v]))):=λb xs e=>by rw[ZO (ZD e C)];exact e
  refine hR _ r C ⟨UO (s3.trans G) nD,nD,?_⟩;let et:(Z7 ts bs)[i]? = some (YK (gd ts bs[i])):=by unfold Z7;rw[zM,zV O];rfl
  rw[yM,et];exact((hk.mono (ZB.tups G)).snoc hv).mono tD
 let⟨s3,nD,hk⟩:=N;let ll:(Z7 ts bs).length=bs.length:=zX _;rw[yQ nofun] at hk
 let i9:p.length=bs.length:=by rw[hk.1,ll]
 let M:=S.trans s3;generalize c8:Z7 ts bs=g at hk ll c1 c2;let a2:∀ i,i<g.length->(g.getD i .d).fit:=λi O=>by
  let e3:i<bs.length:=nofun
  let e1:g.getD i .d=YK (gd ts bs[i]):=by rw[zS,<-c8];unfold Z7;rw[zM,zV e3];rfl
  rw[e1];exact Ig (L.at_ _ (a5 _ (xO _)))
 let B:∀(r:Hp)(t:aj),¬ Qv g hg->ZB H r->r t=none->Q (.ref t) (upd r t (.tup [.str "stem"])):=λr t ho G J=>c1 ho t _ (G.trans (Zb J _)) ZP;let U:¬ (2<=g.length/\g.length<=4)->¬ Qv g hg:=λz y=>y.1 (by unfold over;rw[aM λy=>z ⟨y.1,y.2.1⟩])
 exists _,Z,D,p,Z,.inl (ZF.of eD),_,_,Z,Z,_,Z;rcases yH p.length 2 with h2 | h2
 ·rw[aJ (show ¬ (2:Int)<=(p.length:Int) from nofun)]
  refine Zj ⟨_,Z,Z6 (Z6 ?_)⟩;exact⟨YA,λt J=>B I t (U nofun) M J⟩
 rw[aK (show (2:Int)<=(p.length:Int) from nofun)]
 refine Z6 ⟨_,_,Z,Z,_,Z,?_⟩;rcases yH 4 p.length with h4 | h4
 ·rw[aJ (show ¬ (p.length:Int)<=4 from nofun)]
  refine Z6 (Z6 ?_);exact⟨YA,λt J=>B I t (U nofun) M J⟩
 rw[aK (show (p.length:Int)<=4 from nofun)]
 let Y:∀(H':Hp)(i:Nat),ZB I H'->i<p.length->∃(a:aj)(a1 a0:V),p[i]? = some (.ref a)/\H' a=some (.tup [.int (g.getD i .d).h,a1,a0,.int (g.getD i .d).m])/\ZG H' (g.getD i .d).lo a1/\ZG H' (g.getD i .d).hi a0:=λH' i s' O=>by
  let hu:p[i]? = some p[i]:=zV O;let⟨a,a1,a0,e,e1,k1,k2⟩:=(hk.2 i _ hu).mono (ZB.tups s');exact⟨a,a1,a0,by rw[hu,e],e1,k1,k2⟩
 refine Zj ⟨_,Z,?_⟩;rcases hg with _ | h
 case' none=>
  let a6:∀ h,(none:jG)=some h->(g.getD 0 .d).h+1=h:=λh z=>nomatch z;refine⟨_,Z,Zj (Zj ?_)⟩
 case' some=>
  let⟨c,c7,c6,uc,tc,_,_⟩:=Y I 0 (ZB.refl _) nofun
  refine⟨_,Z,Z6 ⟨_,Z,.inl ⟨D,p,0,.ref c,Z,Z,ZF.of eD,Xd (j:=0) uc,.inr (.inl ⟨c,_,0,_,rfl,rfl,Za.of tc,rfl,_,_,rfl,rfl,_,rfl,rfl,_,rfl,?_⟩)⟩⟩⟩;by_cases z:(g.getD 0 .d).h+1=h
  case neg=>
   let e:(!decide (V.int ((g.getD 0 .d).h+1)=OY (some h)))=true:=by rw[aJ (show ¬ V.int ((g.getD 0 .d).h+1)=OY (some h) from λy=>z (V.int.inj y))];rfl
   rw[e];exact Z6 ⟨YA,λt J=>B I t (λy=>z (y.2 h Z)) M J⟩
  let a6:∀ h',(some h:jG)=some h'->(g.getD 0 .d).h+1=h':=λh' e'=>by cases e';exact z
  let e:(!decide (V.int ((g.getD 0 .d).h+1)=OY (some h)))=false:=by rw[aK (show V.int ((g.getD 0 .d).h+1)=OY (some h) by rw[z];rfl)];rfl
  rw[e];refine Zj ?_
 all_goals
  exists _,Z,D,p,Z,.inl (ZF.of eD),1,(p.length:Int),Z,⟨nofun,nofun,nofun,nofun⟩
  refine Ps (lo:=1) (n:=((p.length:Int)-1).toNat) (λi σ r=>∃(y:jf)(hq:jG),σ=[some (.ref d),some (.ref l),some (OY hq),x,some (.ref D),y]/\ZB I r/\∀ j,j<i->(g.getD (j+1) .d).h=(g.getD 0 .d).h/\(g.getD j .d).hi.lt (g.getD (j+1) .d).lo=true) ⟨_,_,Z,ZB.refl I,λj hj=>absurd hj nofun⟩ ?_ ?_
  ·rintro i σ r O ⟨y,hq,rfl,G,a3⟩;let e4:i+1<p.length:=nofun
   let e1:(1:Int)+(i:Int)=((i+1:Nat):Int):=nofun
   let e0:(1:Int)+(i:Int)-1=((i:Nat):Int):=nofun
   let⟨a,i5,c4,ua,ta,i1,a9⟩:=Y r i G nofun
   let⟨b,c5,i6,ub,tb,c0,i2⟩:=Y r (i+1) G e4;let⟨c,c7,c6,uc,tc,i4,i3⟩:=Y r 0 G nofun
   let no:¬ ((g.getD (i+1) .d).h=(g.getD 0 .d).h/\(g.getD i .d).hi.lt (g.getD (i+1) .d).lo=true)->over g=none:=λz=>by
    unfold over;rw[aM λy=>z (WM.mpr y.2.2 i nofun)]
   let C:=G _ _ eD;refine⟨_,Z,_,Z,.inl ⟨D,p,_,.ref b,Z,Z,ZF.of C,by rw[e1];exact Xd ub,.inr (.inl ⟨b,_,0,_,rfl,rfl,Za.of tb,rfl,?_⟩)⟩⟩
   refine⟨_,Z,.inl ⟨D,p,0,.ref c,Z,Z,ZF.of C,Xd (j:=0) uc,.inr (.inl ⟨c,_,0,_,rfl,rfl,Za.of tc,rfl,rfl,_,rfl,?_⟩)⟩⟩;let c9:(!decide (V.int (g.getD (i+1) .d).h=V.int (g.getD 0 .d).h)) = !decide ((g.getD (i+1) .d).h=(g.getD 0 .d).h):=by simp
   rw[c9];by_cases hh:(g.getD (i+1) .d).h=(g.getD 0 .d).h
   ·rw[aK hh];refine Zj ?_;refine⟨_,Z,_,Z,_,_,Z,Z,.inl ⟨D,p,_,.ref a,Z,Z,ZF.of C,by rw[e0];exact Xd ua,.inr (.inl ⟨a,_,2,_,rfl,rfl,Za.of ta,rfl,?_⟩)⟩⟩
    refine⟨_,Z,_,Z,.inl ⟨D,p,_,.ref b,Z,Z,ZF.of C,by rw[e1];exact Xd ub,.inr (.inl ⟨b,_,1,_,rfl,rfl,Za.of tb,rfl,?_⟩)⟩⟩
    refine⟨c4,c5,_,_,Z,a9,c0,(a2 i nofun).2,(a2 (i+1) nofun).1,λH5 s5=>⟨_,Z,?_⟩⟩
    cases hc:(g.getD i .d).hi.lt (g.getD (i+1) .d).lo with
    | false=>
     refine Z6 ⟨YA,λt J=>B H5 t (λq=>q.1 (no λz=>by rw[hc] at z;cases z.2)) ((M.trans G).trans s5) J⟩
    | true=>
     refine Zj ⟨_,hq,Z,G.trans s5,λj hj=>?_⟩;rcases yH j i with z | z
     ·exact a3 j z
     ·have:j=i:=nofun
      subst this;exact⟨hh,hc⟩
   ·rw[aJ hh];exact Z6 (Z6 ⟨YA,λt J=>B r t (λq=>q.1 (no λz=>hh z.1)) (M.trans G) J⟩)
  ·rintro σ r ⟨y,hq,rfl,G,a3⟩;let hc:LM g=true:=WM.mp λj hj=>a3 j nofun
   refine c2 ⟨?_,a6⟩ r (M.trans G);unfold over;rw[aO ⟨nofun,nofun,hc⟩]
   exact λz=>nomatch z
def E3{j:Wv}{k:Nat}{l:js}{n i:Sp}(h:ZK P w K mg kf j k f fd l n)(m:∀ g H Q E,i g H Q E->n g H Q E):ZK P w K mg kf j k f fd l i:=
 ⟨λg H Q E x=>h.len g H Q E (m _ _ _ _ x),λA e s H args o g Q E a b c d x=>h.run A e s H args o g Q E a b c d (m _ _ _ _ x)⟩
def ZHy{gt:jq}(k:je)(H:Hp)(Q:VK)(E:XK)(h:XL gt k H Q E):XM gt k H Q E:=by
 let⟨d,l,q,u,p,m,j,rfl,L,g,i,e,o,a,r,s,t⟩:=h;exact⟨d,l,q,u,p,m,j,none,Z,L,g,i,e,o,a,r,λbs b c n=>s bs b c (Classical.byContradiction λy=>n ⟨y,λ_ z=>nomatch z⟩),λbs b c n=>t bs b c n.1⟩
end Tw
namespace L2
open PySem PySem.Spec PyProof.Rows
def ZKl{K:zZ}{x d:Str}{l:aB}{f c P:aj}{e:am}(F:Zn K x d l f e)(i:zN K ao x=some (some (.ref f)))(a:yF K x=some (c,P)):e.code=.ref c:=by
 let⟨o,p,kV,g,q,m,b,ct,k,rfl,j,h⟩:=F.ex;unfold yF at a;rw[i] at a;simp only at a;rw[j] at a;simp only at a;show b=.ref c
 cases b with
 | ref n=>
  simp only at a;split at a
  ·split at a
   ·cases a;rfl
   ·cases a
  ·cases a
 | _=>cases a
def Zn.okC{P:al}{w:ar}{K:zZ}{r:jb}{d:aC}{x b:Str}{i:aB}{f c T:aj}{q:am}{N o:js}{k:Nat}{p:Sp}(F:Zn K x b i f q)(z:zN K ao x=some (some (.ref f)))(C:yF K x=some (c,T))(S:ZA N o (Ze i))(n:∀ h H Q E,p h H Q E->h.length=o.length)(g:∀ (A:aw) (a:jB) (s:ak) (H:Hp) (h:je) (Q:VK) (E:XK),ZZ k (A.deeper (envOfC b (Ze i) s.heap.objs.size f (.ref c)))->p h H Q E ->
   ∃ t,WC (VI Zc P w K r d N b (Ze i) f (.ref c) A a s H E) (Xk i) t/\t { nx:=λ_ u=>Q .non u,rt:=Q } (Uv N h) H):ZK P w K r d Zc (k+1) f q o p:=by
 let e:=ZKl F z C;let⟨J,L,kV,v,M,I,j,ct,G,rfl,D,l⟩:=F.ex;let y:j=.ref c:=e;subst y;exact Kz D l S n λA a s H h Q E B m=>g A a s H h Q E B m
def Jg(f e:aj)(i h:aH)(a:jE)(N:js)(d:Sp):Sp:=λj H Q E=>
 j=[]/\H f=some (Yz f i)/\H e=some (Yz e h)/\∃ g:je,VB H a N g /\
  d g (unT (a.map (·.2)) H) (λv b=>(∀ c∈a.map (·.2),b c=none)->Q v (reT (a.map (·.2)) H b)) (λc o b=>(∀ c∈a.map (·.2),b c=none)->E c o (reT (a.map (·.2)) H b))
def VG(g:jA->Prop)(x C:aj)(b:jy)(h:aC):Prop:=∃ o a,h.get? x=some o/\o.cls=.ref C/\o.data=.fields a/\o.dict=b/\g a
def QN:jA->Prop:=λa=>a[1]? = some .none/\a[2]? = some .none
def Q4:jA->Prop:=λ_=>True
def XO(g:jA->Prop)(x C:aj)(a:jy):HO:=.ext (VG g x C a)
def VG.is{g:jA->Prop}{x C:aj}{c:jy}{h:aC}(e:VG g x C c h):X7 x C h:=let ⟨o,_,a,b,_⟩:=e;⟨o,a,b⟩
def Ji{P:al}{w:ar}{H:Hp}{h:aC}{g:jA->Prop}{x C:aj}{j:jy}(e:VG g x C j h):Zf P w H h x (XO g x C j):=by
 let⟨o,s,a,b,c,d⟩:=id e;exact⟨e,⟨o,a⟩,λq r ⟨i,f,l,m,n,p⟩ k=>⟨i,f,k i l,m,n,p⟩⟩
abbrev Q7:jd:=[.type "ValueError",.type "Exception",.type "BaseException",.type "object"]
def KS:jd->Bool
 | .ref _::r=>KS r
 | l=>l==Q7
def Gw(a:ai):∀{l:jd},KS l=true->PySem.refuseLoop a "__setattr__" l=pure ()
 | .ref c::r,e=>(refuseLoop_ref _ _ _ _).trans (Gw a (l:=r) e)
 | .type n::r,e=>by rw[show (Value.type n::r)=Q7 from beq_iff_eq.mp e];exact qQ.passes a
 | [],e=>by cases e
 | .none::r,e | .bool _::r,e | .int _ _::r,e | .str _ _::r,e | .bytes _ _::r,e | .float _ _::r,e | .builtin _::r,e=>by cases(beq_iff_eq.mp e)
def HB(K:zZ)(C:aj):Bool:=(PySem.W.clsIn K C).any λa=>KS a.mro
def Fg:ai->Bool
 | .type t=>t == "type"
 | _=>false
def BX{v:ai}(h:Fg v=true):v=.type "type" :=by
 cases v with
 | type t=>exact congrArg Value.type (eq_of_beq h)
 | _=>cases h
def Fy:Data->Option ClassData
 | .cls c=>some c
 | _=>none
def Bo{d:Data}{c:ClassData}(h:Fy d=some c):d=.cls c:=by
 cases d with
 | cls c=>cases h;rfl
 | _=>cases h
def Hh:jc->Bool
 | some (.builtin m)=>m == "ValueError.__new__"
 | _=>false
def Bb{v:jc}(h:Hh v=true):v=some (.builtin "ValueError.__new__"):=by
 cases v with
 | none=>cases h
 | some v=>
  cases v with
  | builtin m=>exact congrArg (some <| Value.builtin ·) (eq_of_beq h)
  | _=>cases h
def Gh(C:aj):jd->Bool
 | .ref D::_=>D==C
 | _=>false
def Bz{C:aj}{l:jd}(h:Gh C l=true):l=.ref C::l.tail:=by
 cases l with
 | nil=>cases h
 | cons v r=>
  cases v with
  | ref D=>exact congrArg (Value.ref ·::r) (eq_of_beq h)
  | _=>cases h
def NW{b:Type}{n:Nat}{l:List b}(h:l.length=n+1):∃ a m,l=a::m:=by
 cases l with
 | nil=>cases h
 | cons a m=>exact⟨a,m,Z⟩
def Aa{l:List (jc)}(h:l.length=6):∃ a b c d e f,l=[a,b,c,d,e,f]:=by
 let⟨a,l,rfl⟩:=NW h;let⟨b,l,rfl⟩:=NW (xZ.inj h);let⟨c,l,rfl⟩:=NW (xZ.inj (xZ.inj h));let⟨d,l,rfl⟩:=NW (xZ.inj (xZ.inj (xZ.inj h)));let⟨e,l,rfl⟩:=NW (xZ.inj (xZ.inj (xZ.inj (xZ.inj h))));let⟨f,l,rfl⟩:=NW (xZ.inj (xZ.inj (xZ.inj (xZ.inj (xZ.inj h)))))
 cases l with
 | nil=>exact⟨a,b,c,d,e,f,Z⟩
 | cons _ _=>cases h
def H0{b:Type}{p:b->Bool}{o:Option b}(h:o.any p=true):∃ a,o=some a/\p a=true:=by
 cases o with
 | none=>cases h
 | some a=>exact⟨a,Z,h⟩
def Fs(K:zZ)(C:aj)(f:ClassData->Bool):Bool:=(K.lookup C).any λo=>Fg o.cls&&(o.slots.toList.length==6&&(Hh (o.slots.toList.getD 4 none)&&(Fy o.data).any λc=>Gh C c.mro&&(PySem.W.tailIn K Q7 c.mro.tail&&(!c.hasDel&&f c))))
inductive Pg(K:zZ)(C:aj)(f:ClassData->Bool):Prop
 |mk(g bs h i e j b d a k l m n o p:_)(c:jd):K.lookup C=some (excClassObj g i C h bs c e j b d a k l m n o p "ValueError.__new__")->PySem.W.tailIn K Q7 c=true->f ⟨g,bs,.ref C::c,h,i,e,j,b,d,a,false⟩=true->Pg K C f
def Bc{K:zZ}{C:aj}{f:ClassData->Bool}(h:Fs K C f=true):Pg K C f:=by
 let⟨⟨G,k,H,⟨I⟩⟩,e,h⟩:=H0 h;rw[zQ,zQ,zQ] at h;let⟨m,n,o,p⟩:=h;let⟨⟨A,bs,g,B,D,s,E,i,j,b,c⟩,l,h⟩:=H0 p;rw[zQ,zQ,zQ] at h;let⟨a,d,q,r⟩:=h;cases BX m;cases Bo l;let⟨t,u,w,x,y,z,rfl⟩:=Aa (eq_of_beq n);cases Bb (v:=y) o;let a:=Bz a;dsimp only at a d;generalize g.tail=F at a d;subst a
 cases c with
 | true=>cases q
 | false=>exact⟨A,bs,B,D,s,E,i,j,b,k,t,u,w,x,z,F,e,d,r⟩
def Gu(K:zZ)(C:aj):Bool:=Fs K C λ_=>true
structure YC(K:zZ)(C fI:aj)(f:Str):Prop where
 exc:WG K C
 made:Gu K C=true
 init:zD K (.ref C) "__init__" = some (some (.ref fI))
 fn:wW K (.ref fI)=true
 kp:yT K (.ref C)=true
 sa:zD K (.ref C) "__setattr__" = some (some (.builtin "object.__setattr__"))
 no:zD K (.ref C) f=some none
 hd:wK K C=true
 over:HB K C=true
section
variable{g:jA->Prop}{jZ:ju}{σ:St}{H:Hp}{a C fI:aj}{f:Str}{v:V}
def Cv{y:V}{u:ai}{Q:Unit->ak->Prop}(I:ZE X jZ σ H s)(e:H a=some (XO g a C none))(c:YC X.K C fI f)(ry:ZU y u)(h:∀ L s',H L=none->L≠a->ZE X jZ σ (upd (upd H L (.xd [(f,y)])) a (XO g a C (some L))) s'->Q () s'):aA (az X.prog X.w) A (setAttr (.ref a) f u) Q E s:=by
 let⟨o,vs,N,d,i,x,a0⟩:=(I.hok a _ e).1;let⟨oc,od,a7,k⟩:=o;dsimp only at d i x;subst d i x;let J:tJ s.heap a ⟨.ref C,none,.fields vs,k⟩ C none:=⟨N,Z,Z,True.intro⟩;refine PySem.W.set_plain I.kIn J c.sa ?_;let l:=qQ;let⟨cd,S,ho⟩:=uJ c.over;let a3:yG (az X.prog X.w) s.heap (isInstance (.ref a) (.type "object")) true:=J.type.andThen (tX I.kIn c.exc.mO);refine codeAny_call_builtin l.slot.plain l.entry (@PySem.W.check_slot (az X.prog X.w) _ _ { s with toks:=s.toks+1 } "object.__setattr__" "object" "__setattr__" (.ref a) [.str f s.toks,u] [] _ l.kind l.split a3 (l.args (.ref a) (.str f s.toks) u) ?_);let hm:yG (az X.prog X.w) s.heap (mroOf (.ref C)) cd.mro:=(sN I.kIn S).andThen .now;rw[PySem.W.osa_eq,PySem.refuse_eq];refine aa (aa (yG.here (s:={ s with toks:=s.toks+1 }) J.type (aa (yG.here (s:={ s with toks:=s.toks+1 }) hm ?_))));rw[Gw _ ho];refine ad (aa (yG.here (s:={ s with toks:=s.toks+1 }) J.type (aa (yG.here (s:={ s with toks:=s.toks+1 }) (tW I.kIn c.no) (aa (ad ?_))))));let⟨a4,t,T⟩:=uJ c.hd;refine aa (ad (aa (aa (wpAny_loadPart N (aa (yG.here (s:={ s with toks:=s.toks+1 }) (sN I.kIn t) ?_))))));rw[T];dsimp only;let i:a≠s.heap.objs.size:=zL (zW N);let p:H s.heap.objs.size=none:=I.hok.fresh (zY _);rw[aM (by simp),aM (by simp[typeHasDict])]
 let D:=zT { cls:=.type "dict",data:=.dict #[] } N;refine aa (wpAny_alloc' (aa (wpAny_update' D (ad ?_))));generalize O:((s.heap.push { cls:=.type "dict",data:=.dict #[] }).update a λo=>{ cls:=o.cls,dict:=some s.heap.objs.size,data:=o.data,slots:=o.slots })=M;let ga:M.get? a=some ⟨.ref C,some s.heap.objs.size,.fields vs,k⟩:=by
  rw[<-O];exact wS _ D Z
 let gd:M.get? s.heap.objs.size=some { cls:=.type "dict",data:=.dict #[] }:=by
  rw[<-O];exact(sV _ _ _ _ i.symm).trans (Heap.get?_push_at Z Z)
 let go:∀ b o,b≠a->s.heap.get? b=some o->M.get? b=some o:=λb o n q=>by
  rw[<-O];exact(sV _ _ _ _ n).trans (zT _ q)
 let a1:M.Ns s.heap.objs.size (λ_=>none):=⟨_,#[],_,gd,Z,λe he=>absurd he (by simp),λ_=>rfl⟩
 show aA _ _ (Builtin.ObjectAttr.storeInDict s.heap.objs.size (.str f s.toks) f u) _ _ _;unfold Builtin.ObjectAttr.storeInDict Builtin.ObjectAttr.newKeyGuard;refine aa (ad (aa (wpAny_nsSet1 (Heap.Ns1.of_empty a1) λP B hs=>?_)));let⟨oD,a6,a5,a2,U,R⟩:=B.count (Within.cons f u Within.nil);refine aa (wpAny_lookBehind a2 (by rw[U];exact pastItsLine_dict (zE R (by rw[zA,tN,sizeLine_eq];lia))) ?_)
 let m:P.get? a=some ⟨.ref C,some s.heap.objs.size,.fields vs,k⟩:=(hs.2 a i).trans ga;let j:∀ b o,b≠a->s.heap.get? b=some o->P.get? b=some o:=λb o n q=>(hs.2 b (zL (zW q))).trans (go b o n q);let G:∀{b:aj}{o:HO},H b=some o->b≠s.heap.objs.size:=fun{b o} q z=>by rw[z,p] at q;cases q
 let na:∀{b:aj},H b=none->b≠a:=fun{b} q z=>by rw[z,e] at q;cases q
 refine ad (h s.heap.objs.size _ p i.symm (I.call' (s':={ s with heap:=P,toks:=_ }) (ch:=[]) rfl ⟨λb o q n _ _=>j b o (na n) q,λb o q n _ _=>⟨o.slots,j b o (na n) q⟩,λb o q n _=>?_,λb o q _=>?_,λb xs q=>?_,λb o u q=>?_,λb ps q=>?_⟩ (λb ob q=>?_) I.bare (λb hb=>absurd hb (by simp))))
 ·rw[ZO (na n),ZO (zL (zW q))];exact n
 ·by_cases z:b=a
  ·rw[z];exact⟨_,m⟩
  ·exact⟨o,j b o z q⟩
 ·rw[ZO (λz=>by rw[z,e] at q;cases q),ZO (G q)];exact q
 ·rw[ZO (λz=>by rw[z,e] at q;cases q),ZO (G q)];exact q
 ·exact⟨#[],by rw[ZO (λz=>by rw[z,e] at q;cases q),ZO (G q),q];simp⟩
 ·by_cases z:b=a
  ·rw[z,ZP] at q;cases q;rw[z];exact Ji ⟨_,_,m,Z,Z,Z,a0⟩
  ·rw[ZO z] at q;by_cases z2:b=s.heap.objs.size
   ·rw[z2,ZP] at q;cases q;rw[z2];exists _,B;intro g;show Yh (xM g [(f,y)]) (if g=f then some u else none)
    by_cases Y:g=f
    ·rw[Y,aO rfl];simp only[xM,beq_self_eq_true];exact ry
    ·rw[aM Y];simp only[xM,beq_eq_false_iff_ne.mpr Y];exact True.intro
   ·rw[ZO z2] at q;let oc:∀{c:aj},H c=some (.own b)->c≠a:=fun{c} d z=>by rw[z,e] at d;cases d
    refine(I.hok b ob q).stay (λc u d r=>j c u ?_ r) (λc d=>?_) (λc xs d=>?_)
    ·rcases d with rfl | d
     ·exact z
     ·exact oc d
    ·rw[ZO (oc d),ZO (G d)];exact d
    ·rw[ZO (λz=>by rw[z,e] at d;cases d),ZO (G d)];exact d
def AX{b:Bool}{j:aj}{x:List (Str×V)}{Q:ja}(I:ZE X jZ σ H s)(e:H a=some (XO g a C (some j)))(d:H j=some (.xd x))(c:YC X.K C fI f)(l:x.lookup f=some v)(h:∀ u B,ZE X jZ σ H B->ZU v u->Q u B):aA (az X.prog X.w) A (getAttr (.ref a) f b) Q E s:=by
 let⟨o,R,N,D,m,n,G⟩:=id (I.hok a _ e).1;let⟨O,r,i⟩:=I.hok j _ d;let⟨u,M,z⟩:=Yh.some_of (v:=v) (o:=O f) (by rw[<-l];exact i f)
 let⟨y,t,q⟩:=EW r;let J:tJ s.heap a o C (some y):=⟨N,D,by unfold PySem.W.notCls;rw[m],by rw[n];exact t⟩
 let⟨P,k,p⟩:=uJ c.hd;let L:yG (az X.prog X.w) s.heap (Builtin.ObjectAttr.inOwnDict f (.ref a)) (some u):=PySem.W.looks_own I.kIn J k (by unfold PySem.W.ownOf;rw[p,aO rfl];show vK f y=_;rw[q,M])
 let F:yG (az X.prog X.w) s.heap (Builtin.ObjectAttr.find (.ref a) (.ref C) f) (.value u):=by
  refine yG.andThen (tW I.kIn c.no) (yG.andThen .now (yG.andThen .now ?_));exact yG.andThen L (yG.tag yG.now)
 refine aa (wpAny_mkText ?_);refine Hm (s:={ s with toks:=s.toks+1 }) I.kIn (I.hok a _ e).1.is c.exc F ⟨FE z,h u _ (I.tok _) z⟩
end
section
variable{C fI:aj}{f:Str}
abbrev PQ(h:aC)(C:aj)(a:jd):Heap:=(h.push { cls:=.type "tuple",data:=.seq a.toArray }).push { cls:=.ref C,data:=.fields #[.ref h.objs.size,.none,.none,.none,.bool false,.none] }
def ZKz{e:jd}{Q:ja}(X:K.In s.heap)(c:YC K C fI f)(p:e.length<=ap)(h:aA (az prog w) (A.under (.builtin "type.__call__" ⟨.ref C::e,[]⟩)) (call (.ref fI) (.ref (s.heap.objs.size+1)::e)) (λr D=>r=.none/\Q (.ref (s.heap.objs.size+1)) D) E { s with heap:=PQ s.heap C e }):
  aA (az prog w) A (call (.ref C) e) Q E s:=by
 let⟨a,g,d,t,B⟩:=s;let n:=c.made;let⟨Y,bs,ns,qn,L,sn,u,G,k,H,P,R,S,U,V,v,M,O,_⟩:=Bc n;let i:a.get? C=some (excClassObj Y qn C ns bs v L sn u G k H P R S U V "ValueError.__new__"):=X _ _ M;let T:OwnTail a Q7 v:=rP X O;let j:=qN;let f1:=tc_lookup;let f2:=tc_bind (.ref C);let hT:(⟨a,g,d,t,B⟩:ak).TypeIs (.ref C) "type" :=⟨_,i,Z⟩;refine wpAny_call (codeAny_of_tree (show aA _ _ (callAny (.ref C) _) _ _ _ from ?_))
 repeat (any_goals (first | assumption | with_reducible refine wpAny_loadPart_at i ?_ | wp_step))
 refine⟨Z,codeAny_call_builtin_at (Code.quiet_builtin _ (by decide +kernel)) entry_typeCall (wpAny_check_type_call_sub i ?_)⟩
 repeat (first | with_reducible refine wpAny_loadPart_at i ?_ | with_reducible refine wpAny_madeBy_exc i ?_ | wp_step)
 refine codeAny_call_builtin_code (Code.quiet_builtin _ j.quiet) (wpAny_check_new_subU j j.hasB T i (codeAny_exc_new_subU j j.hasB j T i ?_ p));show aA _ _ _ _ _ _;let I:(PQ a C e).get? (a.objs.size+1)=some { cls:=.ref C,data:=.fields #[.ref a.objs.size,.none,.none,.none,.bool false,.none] }:=by heap_get
 let y:∀ b o,a.get? b=some o->(PQ a C e).get? b=some o:=λb o q=>zT _ (zT _ q);let l:=y _ _ i;let m:(Value.ref C::v).contains (.ref C)=true:=by simp
 unfold isInstance;show aA _ _ _ _ _ ⟨PQ a C e,g,d,t,B⟩
 repeat (first | with_reducible refine wpAny_loadPart_at I ?_ | wp_step)
 refine wpAny_isSubtype_exc (C:=C) (h:=PQ a C e) l ?_;rw[m]
 repeat wp_step
 let x:K.In (PQ a C e):=λb o q=>y b o (X b o q);show aA _ _ (typeLookup (.ref C) _) _ _ _;refine(tW x c.init).at ?_;refine af (aa ((PySem.W.bind_fn x _ (beq_iff_eq.mp c.fn)).at ?_));refine aa (ae h (λr D N=>?_) λ_ _ z=>z);let⟨rfl,J⟩:=N
 wp_walk
 exact J
end
def NN(H:Hp)(a C:aj):Prop:=∃ b,H a=some (.ext b)/\∀ h,b h->X7 a C h
def Db{g:jA->Prop}{H:Hp}{a C:aj}{b:jy}(e:H a=some (XO g a C b)):NN H a C:=⟨_,e,λ_ h=>h.is⟩
def NN.mono{H a:Hp}{b C:aj}(x:NN H b C)(s:ZB H a):NN a b C:=let ⟨φ,e,k⟩:=x;⟨φ,s _ _ e,k⟩
inductive Xr(K:zZ)(d:je)(H:Hp)(Q:VK):Prop
 |mk(a C c b:_)(_:d=[.ref a,c])(_:NN H a C)(_:WG K C)(_:GR c=true)(_:yP K (.ref C) (cV c)=some b)(_:Q (.bl b) H)
inductive Oc(K:zZ)(f:Str)(D:Yx)(e:L2.St)(y x:V)(c:Hp):Prop
 |mk(g a C d:_)(_:x=.ref a)(_:c a=some (XO g a C none))(_:YC K C d f)(_:∀ b,c b=none->b≠a->D.nx e (upd (upd c b (.xd [(f,y)])) a (XO g a C (some b))))
def ZPU(K:zZ)(d e:TE)(f:Str):TS:=λD a H=>e a H λy b=>d a b λx c=>Oc K f D a y x c
inductive OJ(K:zZ)(f:Str)(Q:VK)(x:V)(b:Hp):Prop
 |mk(g a C c d v e:_)(_:x=.ref a)(_:b a=some (XO g a C (some c)))(_:b c=some (.xd d))(_:YC K C e f)(_:d.lookup f=some v)(_:Q v b)
def Fd(K:zZ)(b:TE)(f:Str):TE:=λc H Q=>b c H λx a=>OJ K f Q x a
def NB(K:zZ)(C c:aj)(f:Str):Sp:=λd H Q _=>YC K C c f/\∃ a y,d=[.ref a,y]/\H a=some (XO QN a C none)/\∀ b,H b=none->b≠a->Q .non (upd (upd H b (.xd [(f,y)])) a (XO QN a C (some b)))
section
def OV:Wq X (.builtin "isinstance") (Xr X.K):=by
 intro f s t H p n Q I r h;let⟨d,C,c,b,rfl,⟨v,e,k⟩,g,i,j,q⟩:=h;let⟨u,o,rfl,l,a⟩:=LT r;cases(show u=Value.ref d from l);rw[ZPB a i];exact xP (Ad g) I.kIn (k _ (I.hok d _ e).1) j (λz=>nomatch z) λm=>⟨.bl b,H,I.tok m,Z,q⟩
variable{C fI:aj}{f:Str}{e o value:Expr}{es:jz}{ta tv:TE}{t:TA}{pos pos' p:aI}{x:Str}
def KQ(v:PE X o ta)(B:PE X value tv)(A:swapsWith value (some (.Attribute o f pos')) pos.line X.env=pure false):PS X (.Assign [.Attribute o f pos'] value pos) (ZPU X.K ta tv f):=by
 intro b s d H D I h;refine plainObj_wpAny_Assign_Attribute (YH (B b s d H _ I h) λu L y i j J q=>Z1 (v b L d i _ j q) λE O ⟨x,M,k,G,g,a,C,fI,r,n,c,F⟩=>?_) A;subst r;obtain rfl:E=Value.ref a:=G;exact Cv k n c J λm N w z l=>⟨d,_,l,F m w z⟩
def ZMY(w:PE X e ta)(r:attributeBase e f X.env (aG e X.env)=aG e X.env):PE X (.Attribute e f pos) (Fd X.K ta f):=by
 intro b s A H Q I h;refine Ht r (Z1 (w b s A H _ I h) ?_);rintro u F ⟨x,d,i,z,g,a,C,B,D,v,fI,n,k,m,c,l,q⟩;subst n;obtain rfl:u=Value.ref a:=z;exact AX i k m c l λu E j y=>⟨v,d,j,y,q⟩
def ZE.newx{g:ju}{j:St}{H:Hp}{s:ak}{h':aC}{ea:aj}(I:ZE X g j H s)(d:∀ b o,s.heap.get? b=some o->h'.get? b=some o)(n:s.heap.get? ea=none)(m:VG QN ea C none h'):ZE X g j (upd H ea (XO QN ea C none)) { s with heap:=h' }:=by
 let l:H ea=none:=by
  cases z:H ea with
  | none=>rfl
  | some o=>
   let⟨A,q⟩:=I.hok.there (a:=ea) (by rw[z];exact λy=>nomatch y)
   rw[n] at q;cases q
 let i:∀{b:aj}{o:HO},H b=some o->b≠ea:=fun{b o} q z=>by rw[z,l] at q;cases q
 refine I.call' (s':={ s with heap:=h' }) (ch:=[]) Z ⟨λb o q _ _ _=>d b o q,λb o q _ _ _=>⟨o.slots,d b o q⟩,λb o q z _=>?_,λb o q _=>⟨o,d b o q⟩,λb w q=>?_,λb o u q=>?_,λb B q=>⟨#[],?_⟩⟩ (λb v q=>?_) I.bare (λb k=>absurd k (by simp))
 ·rw[ZO (λy=>by rw[y,n] at q;cases q)];exact z
 ·rw[ZO (i q)];exact q
 ·rw[ZO (i q)];exact q
 ·rw[ZO (i q),q];simp
 ·by_cases z:b=ea
  ·rw[z,ZP] at q;cases q;rw[z];exact Ji m
  ·rw[ZO z] at q;exact(I.hok b v q).stay (λc u _ r=>d c u r) (λc h=>by rw[ZO (i h)];exact h) (λc w h=>by rw[ZO (i h)];exact h)
end
def AT(f:jA->jA)(o:aH):(Obj.mapFields f o).dict=o.dict:=by
 let⟨c,d,a,b⟩:=o;cases a <;> rfl
def MR(B:aC)(cls:ai)(b:jA):Prop:=b[2]? = some .none\/∀ C o a,cls=.ref C->B.get? C=some o->o.data=.cls a->a.name ≠ "NoStem"
def Es(h B:aC)(e:aj)(cls:ai)(g:jy)(f:ai):Prop:=
 ∃ a b T c d,(h.get? e=some a/\a.cls=cls/\a.dict=g/\a.data=.fields b/\b[1]? = some (.ref T))/\B.get? T=none/\T≠e/\h.get? T=some c/\c.data=.fields d/\d[3]? = some f/\MR B cls b
def WJ(B:aC)(l:jB)(e:aj)(cls:ai)(b:jy)(a:ai)(h:aC):Prop:=B.StaysIn h/\B.get? e=none/\h.FunFrames B l/\Es h B e cls b a
def WJ.at{B h:aC}{l:jB}{e C:aj}{f:jy}{g:ai}(x:WJ B l e (.ref C) f g h):VG Q4 e C f h:=by
 let⟨_,_,_,i,j,T,k,m,⟨a,b,c,d,_⟩,_⟩:=x;exact⟨i,j,a,b,d,c,trivial⟩
section
variable{M:Model}{B:aC}{env:Env}{outer l:jB}{L e:aj}{cls:ai}{od:jy}{Q:Unit->ak->Prop}
def JF{oe:aH}{vs:jA}{first:ai}{nx:Bool}(fr:A.frames=some (env::outer))(ff:s.heap.FunFrames B (env::outer))(eL:env.frame=some L)(ge:s.heap.get? e=some oe)(sb:B.StaysIn s.heap)(eB:B.get? e=none)(dd:oe.data=.fields vs)(two:1<vs.size)(cx:MR B oe.cls vs)(h:∀ h',WJ B (env::outer) e oe.cls oe.dict (rawInt L) h'->s.heap.UpToSlots h'->Q () { s with heap:=h' }):
  aA M A (frameOf env >>= λa=>entryPlaceOf L nx >>= λpl=>EntryCells.newEntry first a .none (rawInt L) .none pl >>= λb=>setField (.ref e) 1 b) Q E s:=by
 let en:e∉(env::outer).filterMap (·.frame):=λz=>by
  let⟨_,o,g1,g2⟩:=ff.mem z;rw[ge] at g1;cases g1;exact g2 vs dd
 refine aa (wpAny_frameOf_fun fr ff eL λh1 k1=>aa (wpAny_entryPlaceOf λpl kp=>?_));unfold EntryCells.newEntry newFields;refine aa (wpAny_newObj_type ?_ (kp.sizeOk5 _ _ _ _ _));let t3:([first,Value.ref L,.none,rawInt L,.none]++(if pl.isEmpty then wM 6 Value.none else pl)).toArray[3]? = some (rawInt L):=by
  first | (simp;done) | (rcases kp with rfl | ⟨_,_,_,_,_,_,_,rfl⟩ <;> simp)
 generalize ([first,Value.ref L,.none,rawInt L,.none]++(if pl.isEmpty then wM 6 Value.none else pl)).toArray=ts at t3⊢;let g1:h1.get? e=some oe:=(k1.2.1 e en).trans ge;let sb1:B.StaysIn h1:=λb o q=>(k1.2.1 b λz=>by rw[(ff.mem z).1] at q;cases q).trans (sb b o q)
 let eT:h1.objs.size≠e:=λz=>xG _ (by have:=zW g1;rw[<-z] at this;exact this)
 let g2:=zT (h:=h1) ({ cls:=.type "traceback",dict:=none,data:=.fields ts }:aH) g1;let d3:=Obj.data_mapFields dd (·.setIfInBounds 1 (Value.ref h1.objs.size));let g3:=wS (Obj.mapFields (·.setIfInBounds 1 (Value.ref h1.objs.size))) g2 (Obj.isFreed_of_fields d3);let gT:=(yA (h1.push ({ cls:=.type "traceback",dict:=none,data:=.fields ts }:aH)) (Obj.mapFields (·.setIfInBounds 1 (Value.ref h1.objs.size))) eT.symm).trans (yU h1 Z);let stay:∀ b o,b≠e->h1.get? b=some o->((h1.push ({ cls:=.type "traceback",dict:=none,data:=.fields ts }:aH)).update e (Obj.mapFields (·.setIfInBounds 1 (Value.ref h1.objs.size)))).get? b=some o:=λb o n q=>
  (yA _ _ n.symm).trans (zT _ q)
 let notE:∀ b o,s.heap.get? b=some o->(∀ ws,o.data≠.fields ws)->b≠e:=λb o q nf z=>by
  rw[z,ge] at q;cases q;exact nf vs dd
 refine wpAny_setField g2 dd two (h _ ⟨λb o q=>stay b o (λz=>by rw[z,eB] at q;cases q) (sb1 b o q),eB,ff.of_keeps λb o q nf=>?_,_,_,h1.objs.size,_,_,⟨g3,Obj.cls_mapFields _ _,AT _ _,d3,by simp[two]⟩,sb1.fresh,eT,gT,Z,t3,cx.imp (λz=>by rw[Array.getElem?_setIfInBounds_ne (by decide)];exact z) id⟩ λb o q nf=>?_)
 ·let⟨sl,z⟩:=k1.2.2 b o q;exact⟨_,stay b _ (notE b o q nf) z,Z⟩
 ·let⟨sl,z⟩:=k1.2.2 b o q;exact⟨sl,stay b _ (notE b o q nf) z⟩
def Pu{G:ai}(x:WJ B l e cls od G s.heap)(h:∀ j,WJ B l e cls od .none j->s.heap.UpToSlots j->Q () { s with heap:=j }):aA M A (setFlight (.ref e) none) Q E s:=by
 let⟨I,D,F,H,K,T,O,u,⟨r,w,y,p,v⟩,k,m,i,g,J,C⟩:=x;let t:3<u.size:=(wH.mp J).1;let a:∀ b,b≠T->(s.heap.update T (Obj.mapFields (·.setIfInBounds 3 ((none:jy).elim Value.none λf=>rawInt f)))).get? b=s.heap.get? b:=λb n=>yA _ _ n.symm;let c:∀ b o,s.heap.get? b=some o->(∀ N,o.data≠.fields N)->b≠T:=λb o q d z=>by
  rw[z,i] at q;cases q;exact d u g
 unfold setFlight;refine aa (wpAny_field r p v ?_);rw[aO (show (Value.ref T != Value.none)=true by simp)]
 refine wpAny_setField i g t (h _ ⟨λb o q=>(a b λz=>by rw[z,k] at q;cases q).trans (I b o q),D,F.of_keeps λb o q d=>⟨o,(a b (c b o q d)).trans q,Z⟩,?_⟩ λb o q d=>⟨o.slots,(a b (c b o q d)).trans q⟩)
 exact⟨H,K,T,_,_,⟨(a e m.symm).trans r,w,y,p,v⟩,k,m,wS _ i (Obj.isFreed_of_fields (Obj.data_mapFields g _)),Obj.data_mapFields g _,by simp[t],C⟩
def C0{a:aH}{c:jA}(n:A.frames=some (env::outer))(m:s.heap.FunFrames B (env::outer))(f:env.frame=some L)(g:s.heap.get? e=some a)(o:B.StaysIn s.heap)(k:B.get? e=none)(d:a.data=.fields c)(i:c[1]? = some .none)(j:MR B a.cls c)(h:∀ b,WJ B (env::outer) e a.cls a.dict (rawInt L) b->s.heap.UpToSlots b->Q () { s with heap:=b }):aA M A (noteFrame (.ref e) env) Q E s:=by
 unfold noteFrame;simp only[f];refine aa (wpAny_field g d i ?_);rw[aM (by decide)]
 exact JF n m f g o k d (wH.mp i).1 j h
def LZ(H:A.frames=some (env::outer))(k:env.frame=some L)(x:WJ B (env::outer) e cls od .none s.heap)(h:∀ f,WJ B (env::outer) e cls od (rawInt L) f->s.heap.UpToSlots f->Q () { s with heap:=f }):
  aA M A (noteFrame (.ref e) env) Q E s:=by
 let⟨J,D,G,P,R,T,O,r,⟨m,w,y,j,t⟩,u,v,i,g,p,C⟩:=x;subst w y;let I:3<r.size:=(wH.mp p).1;let a:∀ b,b≠T->(s.heap.update T (Obj.mapFields (·.setIfInBounds 3 Value.none))).get? b=s.heap.get? b:=λb n=>yA _ _ n.symm;let c:∀ b o,s.heap.get? b=some o->(∀ N,o.data≠.fields N)->b≠T:=λb o q d z=>by
  rw[z,i] at q;cases q;exact d r g
 unfold noteFrame;simp only[k];refine aa (wpAny_field m j t ?_);rw[aO (show (Value.ref T != Value.none)=true by simp)]
 refine aa (wpAny_field i g p ?_);rw[aM (show ¬ ((Value.none==rawInt L)=true) by simp[rawInt])]
 refine aa (wpAny_setField i g I ?_);refine JF (s:={ s with heap:=_ }) H (G.of_keeps λb o q d=>⟨o,(a b (c b o q d)).trans q,Z⟩) k ((a e v.symm).trans m) (λb o q=>(a b λz=>by rw[z,u] at q;cases q).trans (J b o q)) D j (wH.mp t).1 C λf F K=>h f F λb o q d=>?_
 exact K b o ((a b (c b o q d)).trans q) d
def WJ.less{f:ai}{h:aC}(x:WJ B (env::outer) e cls od f h):WJ B outer e cls od f h:=by
 let⟨a,b,⟨_,_,c⟩,d⟩:=x;exact⟨a,b,c,d⟩
def AF(f:A.frames=some (env::outer))(b:env.frame=some L)(x:WJ B (env::outer) e cls od .none s.heap)(h:∀ a,WJ B outer e cls od .none a->s.heap.UpToSlots a->Q () { s with heap:=a }):aA M A (leaving env (.ref e)) Q E s:=by
 unfold leaving;exact aa (LZ f b x λg c j=>Pu (s:={ s with heap:=g }) c λi d k=>h i d.less (j.trans k))
def ZIA{a:aH}{c:jA}(n:A.frames=some (env::outer))(m:s.heap.FunFrames B (env::outer))(i:env.frame=some L)(o:s.heap.get? e=some a)(r:B.StaysIn s.heap)(g:B.get? e=none)(f:a.data=.fields c)(v:c[1]? = some .none)(d:MR B a.cls c)(h:∀ b,WJ B outer e a.cls a.dict .none b->s.heap.UpToSlots b->Q () { s with heap:=b }):aA M A (leaving env (.ref e)) Q E s:=by
 unfold leaving;exact aa (C0 n m i o r g f v d λp j t=>Pu (s:={ s with heap:=p }) j λq k u=>h q k.less (t.trans u))
end
def Fk{a:al}{w:ar}{A:aw}{E:ja}{s:ak}{c:Env}{K:zZ}{C:aj}{x:Sem ai}{Q:Flow->ak->Prop}(F:A.handled=none)(H:yY K C (.type "BaseException")=some true)(G:yB K (.ref C)=some (.type "type"))(h:aA (az a w) A x (λv b=>∃ e q,v=.ref e/\K.In b.heap/\VG QN e C q b.heap/\E (.ref e) b) E s):aA (az a w) A (raiseStmt c (some x) none) Q E s:=by
 unfold raiseStmt;refine aa (ae h (λv b B=>?_) λ_ _ z=>z);let⟨e,q,rfl,k,⟨⟨L,i,I,j⟩,r,o,l,m,n,J,P⟩,D⟩:=B;dsimp only at l m n;subst l m n;let⟨p,g,d,O,N⟩:=b;let t:yG (az a w) p (typeOf (.ref e)) (.ref C):=X7.ty ⟨_,o,Z⟩ _;let u:=tX (M:=az a w) k H;let y:=rK (M:=az a w) k G;let f:p.get? e=some ⟨.ref C,i,.fields r,j⟩:=o;unfold excFromValue isExcClass isInstance isType raisedInstance setFlight
 repeat (first | with_reducible refine wpAny_loadPart_at f ?_ | with_reducible refine u.at ?_ | with_reducible refine t.at ?_ | with_reducible refine y.at ?_ | wp_step)
 rw[show r[1]? = some Value.none from J]
 repeat wp_step
 all_goals first | exact wpAny_raiseNew_none F D | trace_state
structure QG(P:al)(w:ar)(outer:jB)(H:Hp)(s:ak)(ea:aj)(cls:ai)(od:jy)(H':Hp)(s':ak):Prop where
 ex:∃ B:aC,WJ B outer ea cls od .none s'.heap/\(∀ b o,s'.heap.get? b=some o->H' b≠none->B.get? b=some o)/\(∀ b o,s.heap.get? b=some o->H b=none->b∉frs outer->B.get? b=some o)/\(∀ b o,s.heap.get? b=some o->b∉frs outer->∃ o',B.get? b=some o')
 os:s'.os=s.os
 bare:AllBare s'.gens
 un:Un (frs outer) [] H H' s.heap s'.heap
 hok:YV P w H' s'.heap
 new:s.heap.get? ea=none
 free:H' ea=none
def YL(P:al)(w:ar):Wv:=λa H s E e f=>∃ c cls d b,e=.ref c/\QG P w a H s c cls d b f/\E cls d b
structure VW(X:Cx)(E:XK):Prop where
 stack:X.stack=X.env::X.outer
 frame:X.env.frame=some X.env.locals
 ex:X.ex=[]
 calm:X.calm=true
 xe:∀ e s',aA (az X.prog X.w) X.A (leaving X.env e) (λ_ s''=>YL X.prog X.w X.outer X.H₀ X.s₀ E e s'') (λe' s''=>YL X.prog X.w X.outer X.H₀ X.s₀ E e' s'') s'->X.xe e s'
def VU{P:al}{w:ar}{K:zZ}{g:jb}{c:aC}{N:js}{d:Str}{b:aD}{f:aj}{e:ai}{A:aw}{a:jB}{s:ak}{H:Hp}{E:XK}:
  VW (VI (YL P w) P w K g c N d b f e A a s H E) E:=⟨Z,Z,Z,Z,λ_ _ h=>h⟩
section
variable{jZ:ju}{σ:St}{H H':Hp}{s':ak}{E:XK}
def VW.frs(F:VW X E):frs X.stack=X.env.locals::X.fs:=by
 rw[F.stack];show List.filterMap _ (X.env::X.outer)=_;rw[uG,F.frame];rfl
def VW.off(F:VW X E)(I:ZE X jZ σ H s){b:aj}{o:aH}(q:X.s₀.heap.get? b=some o)(n:b∉L2.frs X.outer):b∉L2.frs X.stack:=λz=>by
 rw[F.frs] at z;rcases zB.mp z with z | z
 ·rw[z,I.noloc] at q;cases q
 ·exact n z
def VW.on(F:VW X E){b:aj}(n:b∈L2.frs X.outer):b∈L2.frs X.stack:=by
 rw[F.frs];exact zH _ n
def CN{B h:aC}{g:aj}(F:VW X E)(J:ZE X jZ σ H s)(r:B.StaysIn h)(d:∀ b o,b≠g->s.heap.get? b=some o->b∉L2.frs X.stack->B.get? b=some o)(p:s.heap.UpToSlots h)(i:X.s₀.heap.get? g=none):
  Un (L2.frs X.outer) [] X.H₀ H X.s₀.heap h:=by
 let c:=J.base;rw[F.ex] at c;let l:∀{b:aj}{o:aH},X.s₀.heap.get? b=some o->b≠g:=λq z=>by rw[z,i] at q;cases q
 let m:∀{b:aj}{o:aH},b∈L2.frs X.stack->s.heap.get? b=some o->∀ v,o.data≠.fields v:=λa q=>Jv J _ a _ q;refine⟨λb o q n a _=>r b o (d b o (l q) (c.keep b o q n a (by simp)) (F.off J q a)),λb o q n a _=>?_,c.free,λb o q _=>?_,c.tups,c.frzs,c.tbls⟩
 ·let⟨u,e⟩:=c.slot b o q n a (by simp)
  let⟨k,t⟩:=p b _ e (m (F.on a) e);exact⟨k,t⟩
 ·let⟨f,j⟩:=c.there b o q (by simp)
  by_cases a:b∈L2.frs X.stack
  ·let⟨u,e⟩:=p b f j (m a j);exact⟨_,e⟩
  ·exact⟨f,r b f (d b f (l q) j a)⟩
def ZE.untrack{a:aj}{g:aC->Prop}(I:ZE X jZ σ (upd H a (.ext g)) s)(l:H a=none):ZE X jZ σ H s:=by
 let v:∀{b:aj}{u:HO},H b=some u->b≠a:=fun{b u} e z=>by rw[z,l] at e;cases e
 let h:∀{b:aj},upd H a (.ext g) b=none->H b=none:=fun{b} e=>by
  by_cases z:b=a
  ·rw[z];exact l
  ·rw[ZO z] at e;exact e
 let d:∀{b:aj}{u:HO},upd H a (.ext g) b=some u->(∀ y,u≠.ext y)->H b=some u:=fun{b u} e k=>by
  by_cases z:b=a
  ·rw[z,ZP] at e;exact absurd (zG.inj e).symm (k g)
  ·rw[ZO z] at e;exact e
 refine⟨I.ok,I.os,I.bare,⟨I.base.keep,I.base.slot,λb j q n t=>h (I.base.free b j q n t),I.base.there,λb m q=>d (I.base.tups b m q) (λ_ z=>nomatch z),λb j u q=>d (I.base.frzs b j u q) (λ_ z=>nomatch z),λb w q=>?_⟩,I.loc,I.cell,h I.free,λx c e=>h (I.freeC x c e),λp i=>?_,λb u e=>?_,I.len⟩
 ·let⟨f,e⟩:=I.base.tbls b w q;exact⟨f,d e (λ_ z=>nomatch z)⟩
 ·let⟨e,n,r⟩:=I.pin p i;exact⟨e,h n,r⟩
 ·let o:upd H a (.ext g) b=some u:=by rw[ZO (v e)];exact e
  exact(I.hok b u o).stay (λ_ _ _ q=>q) (λc q=>d q (λ_ z=>nomatch z)) λc m q=>d q (λ_ z=>nomatch z)
def Dq{c C:aj}{m:jy}{g:jA->Prop}(F:VW X E)(J:ZE X jZ σ H s)(e:X.s₀.heap.get? c=none)(u:H c=none)(Q:VG g c C m s.heap)(K:∀ f,g f->f[1]? = some .none)(L:∀ f B,g f->(∀ b o,B.get? b=some o->s.heap.get? b=some o)->MR B (.ref C) f)(N:E (.ref C) m H):X.xe (.ref c) s:=by
 let⟨U,f,I,r,w,x,t⟩:=Q;let T:=K f t;let G:X.A.frames=some (X.env::X.outer):=by rw[J.ok.frames,F.stack]
 let D:s.heap.FunFrames (vY s.heap (c::L2.frs X.stack)) (X.env::X.outer):=by
  have:=PySem.W.funFrames_hide (as:=c::L2.frs X.stack) J.stack (λl P a O=>zH _ (xI.mpr ⟨l,P,O⟩));rw[F.stack] at this⊢;exact this
 let d:∀ b o,b≠c->s.heap.get? b=some o->b∉L2.frs X.stack->(vY s.heap (c::L2.frs X.stack)).get? b=some o:=λb o n q h=>sO _ q (λz=>by
  rcases zB.mp z with z | z
  ·exact n z
  ·exact h z)
 let YX:∀ b o,s.heap.get? b=some o->H b≠none->(vY s.heap (c::L2.frs X.stack)).get? b=some o:=λb o q n=>d b o (λz=>n (by rw[z];exact u)) q λz=>n (J.stkFree b z)
 let y:(vY s.heap (c::L2.frs X.stack)).get? c=none:=sI _ (by simp)
 refine F.xe _ _ (ZIA G D F.frame I (λb o q=>uC _ q) y w T (by rw[r];exact L f _ t λb o q=>uC _ q) λM j S=>?_)
 rw[r,x] at j;refine⟨c,_,m,H,Z,⟨⟨_,j,λb o q n=>?_,λb o q n h=>?_,λb o q h=>?_⟩,J.os,J.bare,CN F J j.1 d S e,J.hok.keptT λb o q n=>j.1 b o (YX b o q n),e,u⟩,N⟩
 ·let⟨i,k⟩:=J.hok.there n;let R:=j.1 b i (YX b i k n);let v:M.get? b=some o:=q;rw[R] at v;rw[<-zG.inj v];exact YX b i k n
 ·let p:=J.base;rw[F.ex] at p;exact d b o (λz=>by rw[z,e] at q;cases q) (p.keep b o q n h (by simp)) (F.off J q h)
 ·let⟨i,k⟩:=J.base.there b o q (by rw[F.ex];simp)
  exact⟨i,d b i (λz=>by rw[z,e] at q;cases q) k (F.off J q h)⟩
def Ec{a C:aj}{c:jy}(F:VW X E)(J:ZE X jZ σ H s)(b:X.s₀.heap.get? a=none)(e:H a=none)(f:VG QN a C c s.heap)(d:E (.ref C) c H):X.xe (.ref a) s:=Dq F J b e f (λ_ z=>z.1) (λ_ _ z _=>.inl z.2) d
def Uw{E1:XK}(F:VW X E)(N:∀ cls o H,E1 cls o H->E cls o H):VY (YL X.prog X.w) X E1:=by
 intro jZ σ H s e s' I h;let⟨t,cls,R,H',rfl,W,q⟩:=h;let⟨B,L,YX,x,m⟩:=W.ex;let M:X.A.frames=some (X.env::X.outer):=by rw[I.ok.frames,F.stack]
 refine F.xe _ _ (AF M F.frame (by rw[<-F.stack];exact L) λv f U=>?_)
 let c:=I.base;rw[F.ex] at c;let Q:∀{b:aj}{o:aH},b∈L2.frs X.stack->s.heap.get? b=some o->∀ C,o.data≠.fields C:=λa q=>Jv I _ a _ q;let p:∀ b o,X.s₀.heap.get? b=some o->X.H₀ b=none->b∉L2.frs X.outer->B.get? b=some o:=λb o q n a=>x b o (c.keep b o q n a (by simp)) (c.free b o q n (by simp)) (F.off I q a)
 let i:∀ b o,s.heap.get? b=some o->b∈L2.frs X.stack->∃ r,v.get? b=some { o with slots:=r }:=λb o q a=>by
  let⟨r,j⟩:=W.un.slot b o q (I.stkFree b a) a (by simp)
  let⟨i,l⟩:=U b _ j (λC z=>Q a q C z);exact⟨i,l⟩
 let u:Un (L2.frs X.outer) [] X.H₀ H' X.s₀.heap v:=by
  refine⟨λb o q n a _=>f.1 b o (p b o q n a),λb o q n a _=>?_,λb o q n _=>?_,λb o q _=>?_,λb J q=>W.un.tups b J (c.tups b J q),λb o u q=>W.un.frzs b o u (c.frzs b o u q),λb S q=>?_⟩
  ·let⟨r,j⟩:=c.slot b o q n a (by simp)
   let⟨y,K⟩:=i b _ j (F.on a);exact⟨y,K⟩
  ·let⟨g,d⟩:=c.there b o q (by simp)
   exact W.un.free b g d (c.free b o q n (by simp)) (by simp)
  ·let⟨g,d⟩:=c.there b o q (by simp)
   by_cases a:b∈L2.frs X.stack
   ·let⟨r,j⟩:=i b g d a;exact⟨_,j⟩
   ·let⟨D,l⟩:=m b g d a;exact⟨D,f.1 b D l⟩
  ·let⟨O,j⟩:=c.tbls b S q;let⟨P,l⟩:=W.un.tbls b _ j;exact⟨O++P,by rw[l,vG]⟩
 refine⟨t,cls,R,H',Z,⟨⟨B,f,λb o k n=>?_,p,λb o k a=>?_⟩,W.os.trans I.os,W.bare,u,W.hok.keptT λb o k n=>f.1 b o (YX b o k n),?_,W.free⟩,N _ _ _ q⟩
 ·let⟨g,d⟩:=W.hok.there n;let T:=f.1 b g (YX b g d n);let G:v.get? b=some o:=k;rw[T] at G;rw[<-zG.inj G];exact YX b g d n
 ·let⟨g,d⟩:=c.there b o k (by simp)
  exact m b g d (F.off I k a)
 ·cases z:X.s₀.heap.get? t with
  | none=>rfl
  | some o=>
   let⟨g,d⟩:=c.there t o z (by simp)
   rw[W.new] at d;cases d
inductive Uz(C:aj)(f:Str)(E:XK)(c:je)(b:Hp):Prop
 |mk(y:_)(_:c=[y])(_:∀ a,b a=none->E (.ref C) (some a) (upd b a (.xd [(f,y)])))
def Fe(C:aj)(f:Str)(E:XK)(t:TA):TS:=λ_ σ H=>t σ H λb a=>Uz C f E b a
def E6{k:Nat}{C N:aj}{f x:Str}{fd:am}{R:js}{e:Expr}{n:jz}{t:TA}{p g Q:aI}(F:VW X E)(c:YC X.K C N f)(ht:yB X.K (.ref C)=some (.type "type"))(U:ZK X.prog X.w X.K X.mg X.base Zc k N fd R (NB X.K C N f))(hr:ZZ (k+1) X.A)(hg:Gl X x)(hm:X.mg x=some (.ref C))(hb:Z5 X.K fd R [])(ha:PA X (e::n) t)(O:(x==("__debug__" : Str))=false:=by decide)(he:aq (e::n) X.env=(false,aG e X.env)::aq n X.env:=by rfl)(P:(aE g (aq n X.env)).any (·.1)=false:=by rfl):
  PS X (.Raise (some (.Call (.Name x p) (e::n) [] g)) none Q) (Fe C f E t):=by
 intro jZ s σ H D I h;let hh:=I.ok.hd F.calm;rw[arm_exec_Raise];refine aa (ah ?_);refine Fk hh c.exc.mB ht (aa (ae ?_ (λv s3 h3=>aa (ah (ad h3))) λ_ _ z=>z));refine ag (PJ I hg hm ?_ O);refine vS (h₀:=X.base) I.ok.mod.kin c.kp (Z1 (ha g jZ s σ H _ I h) λus d ⟨vs,l,m,r,y,ey,q⟩=>⟨m.kIn,?_⟩) he P;subst ey;obtain⟨u,rfl,S⟩:∃ u,us=[u]/\ZU y u:=by
  cases r with
  | cons S r0=>cases r0;exact⟨_,Z,S⟩
 refine ZKz m.kIn c (by show 1<=ap;rw[sizeLine_eq];lia) ?_
 let kk:∀ b o,d.heap.get? b=some o->(PQ d.heap C [u]).get? b=some o:=λb o q=>zT _ (zT _ q);let e1:(PQ d.heap C [u]).get? (d.heap.objs.size+1)=some { cls:=.ref C,data:=.fields #[.ref d.heap.objs.size,.none,.none,.none,.bool false,.none] }:=by heap_get
 let Y:d.heap.get? (d.heap.objs.size+1)=none:=uB (wR _);let h0:l (d.heap.objs.size+1)=none:=m.hok.fresh (wR _);let L:X.s₀.heap.get? (d.heap.objs.size+1)=none:=by
  cases z:X.s₀.heap.get? (d.heap.objs.size+1) with
  | none=>rfl
  | some o=>
   let⟨o',q'⟩:=m.base.there _ o z (by rw[F.ex];simp)
   rw[Y] at q';cases q'
 let J:=m.newx (C:=C) (ea:=d.heap.objs.size+1) (h':=PQ d.heap C [u]) kk Y ⟨_,_,e1,Z,Z,Z,Z,Z⟩;generalize a0:d.heap.objs.size+1=a at *;let r2:ZQ [V.ref a,y] [Value.ref a,u]:=.cons Z (.cons S .nil);let G:NB X.K C N f [V.ref a,y] (upd l a (XO QN a C none)) (λv H2=>v=.non/\∃ i,H2=upd (upd l i (.xd [(f,y)])) a (XO QN a C (some i))/\l i=none/\i≠a) E0:=by
  refine⟨c,_,y,Z,ZP,λi hd B=>⟨Z,i,?_,?_,B⟩⟩
  ·funext b
   by_cases z:b=a
   ·rw[z,ZP,ZP]
   ·rw[ZO z,ZO z];by_cases T:b=i
    ·rw[T,ZP,ZP]
    ·rw[ZO T,ZO T,ZO z]
  ·rw[ZO B] at hd;exact hd
 let hl:([Value.ref a,u]++([]:jd)).length=R.length:=by
  let e:=r2.length;rw[U.len _ _ _ _ G] at e;exact e.symm
 refine wpAny_call (codeAny_mono (U.run _ X.stack _ _ ⟨[Value.ref a,u],[]⟩ _ _ _ E0 (hr.make C [u] []) (J.env0.make C [u] []) (hb _ [Value.ref a,u] J.kIn hl) r2 G) λr s' j=>?_)
 cases r with
 | error e=>exact(Yv jZ σ _ _ e s' J j)
 | ok fl=>
  cases fl with
  | ret u2=>
   let⟨v,H',M,rv,ev,i,eH,nd,ne⟩:=J.after j;subst ev eH;exists rv,a,some i,Z,M.kIn,(M.hok a _ ZP).1;let hn:upd l i (.xd [(f,y)]) a=none:=by rw[ZO (Ne.symm ne)];exact h0
   exact Ec F (M.untrack hn) L hn (M.hok a _ ZP).1 (q i nd)
  | next=>exact False.elim j
  | brk=>exact False.elim j
  | cont=>exact False.elim j
end
def Gi(K:zZ)(e:aj)(i:Nat)(g:TS)(D:Yx)(h:St):XK:=λcls f d=>∃ C,cls=.ref C/\yY K C (.ref e)=some true/\∀ c,d c=none ->
 g { nx:=λa b=>D.nx (a.set i none) b,rt:=D.rt,bk:=λa b=>D.bk (a.set i none) b,ct:=λa b=>D.ct (a.set i none) b } (h.set i (some (.ref c))) (upd d c (XO Q4 c C f))
def La{X:Cx}{d:ju}{p:St}{H i:Hp}{s g:ak}{t:aj}{u:jy}{B f:aC}{cls:ai}(I:ZE X d p H s)(W:QG X.prog X.w X.stack H s t cls u i g)(YX:∀ b o,g.heap.get? b=some o->i b≠none->B.get? b=some o)(k:∀ b o,s.heap.get? b=some o->H b=none->b∉frs X.stack->B.get? b=some o)(j:∀ b o,s.heap.get? b=some o->b∉frs X.stack->∃ h,B.get? b=some h)(m:B.StaysIn f)(v:g.heap.UpToSlots f):
  ZE X d p i { g with heap:=f }:=by
 let c:∀ b o,s.heap.get? b=some o->b∈frs X.stack->∃ l,f.get? b=some { o with slots:=l }:=λb o q a=>by
  let⟨l,e⟩:=W.un.slot b o q (I.stkFree b a) a (by simp)
  let⟨c,r⟩:=v b _ e (λx z=>Jv I b a o q x z);exact⟨c,r⟩
 refine I.call' (s':={ g with heap:=f }) W.os ⟨λb o q n a _=>m b o (k b o q n a),λb o q n a _=>c b o q a,W.un.free,λb o q _=>?_,W.un.tups,W.un.frzs,W.un.tbls⟩ (W.hok.keptT λb o q n=>m b o (YX b o q n)) W.bare (λb a=>absurd a (by simp))
 by_cases a:b∈frs X.stack
 ·let⟨l,e⟩:=c b o q a;exact⟨_,e⟩
 ·let⟨h,e⟩:=j b o q a;exact⟨h,m b h e⟩
def Zn.okD{x b:Str}{g:aB}{f:aj}{n:am}{N l:js}{k:Nat}{m:Sp}(F:Zn K x b g f n)(S:ZA N l (Ze g))(j:∀ e H Q E,m e H Q E->e.length=l.length)(d:∀ (c:ai) (A:aw) (a:jB) (s:ak) (H:Hp) (e:je) (Q:VK) (E:XK),ZZ k (A.deeper (envOfC b (Ze g) s.heap.objs.size f c))->m e H Q E ->
   let X:=(VI (YL P w) P w K mg kf N b (Ze g) f c A a s H E);∃ t,WC X (Xk g) t/\t { nx:=λ_ o=>Q .non o,rt:=Q } (Uv N e) H):ZK P w K mg kf (YL P w) (k+1) f n l m:=by
 let⟨y,z,kV,p,B,v,c,ct,u,rfl,r,h⟩:=F.ex;exact Kz r h S j λA a s H e Q E q i=>d c A a s H e Q E q i
def Zn.kD{x a:Str}{g:aB}{f:aj}{m:am}{N j:js}{k:Nat}{l:Sp}(F:Zn K x a g f m)(S:ZA N j (Ze g))(b:∀ (e:ai) (A:aw) (c:jB) (s:ak) (H:Hp) (d:je) (Q:VK) (E:XK),ZZ k (A.deeper (envOfC a (Ze g) s.heap.objs.size f e))->l d H Q E ->
   let X:=(VI (YL P w) P w K mg kf N a (Ze g) f e A c s H E);∃ t,WC X (Xk g) t/\t { nx:=λ_ n=>Q .non n,rt:=Q } (Uv N d) H)(i:∀ d H Q E,l d H Q E->d.length=j.length:=by intro d _ _ _ h;cases h;(try subst d);rfl):ZK P w K mg kf (YL P w) (k+1) f m j l:=F.okD S i b
def LD(P:al)(w:ar)(K:zZ)(mg:jb)(kf:aC)(N:js)(qual:Str)(scope:aD)(f:aj)(cd:ai)(cl:jE)(A:aw)(outer:jB)(s:ak)(H:Hp)(E:XK):Cx where
 prog:=P
 w:=w
 K:=K
 mg:=mg
 base:=kf
 A:=A.deeper (wB qual scope s.heap.objs.size f cd cl)
 N:=N
 s₀:=s
 H₀:=H
 env:=wB qual scope s.heap.objs.size f cd cl
 outer:=outer
 stack:=wB qual scope s.heap.objs.size f cd cl::outer
 ex:=[]
 calm:=true
 fn:=λ_=>false
 pn:=[]
 xe:=λe s'=>aA (az P w) (A.deeper (wB qual scope s.heap.objs.size f cd cl)) (leaving (wB qual scope s.heap.objs.size f cd cl) e) (λ_ s''=>YL P w outer H s E e s'') (λe' s''=>YL P w outer H s E e' s'') s'
def G0{N:js}{qual:Str}{scope:aD}{f:aj}{cd:ai}{cl:jE}{A:aw}{outer:jB}{s:ak}{H:Hp}{E:XK}:VW (LD P w K mg kf N qual scope f cd cl A outer s H E) E:=⟨Z,Z,Z,Z,λ_ _ h=>h⟩
def Fw{d:jB}{i:jv}{H:Hp}{s v:ak}{E:XK}{e:ai}(C:Wf P w K mg kf A d s H)(t:∀ c∈i,∃ o,H c=some (Yz c o))(h:YL P w d (unT i H) s (λc o y=>(∀ F∈i,y F=none)->E c o (reT i H y)) e v):YL P w d H s E e v:=by
 let⟨D,cls,L,x,rfl,W,q⟩:=h;let⟨B,G,YX,m,u⟩:=W.ex;let p:∀ c∈i,c∉frs d:=λc a z=>by
  let⟨o,e⟩:=t c a;rw[C.frf c z] at e;cases e
 let f:∀ c∈i,∃ o,H c=some (Yz c o)/\s.heap.get? c=some o/\v.heap.get? c=some o:=λc a=>by
  let⟨o,e⟩:=t c a;let g:=C.hok.obj e;exact⟨o,e,g,W.un.keep c o g (QZ a) (p c a) (by simp)⟩
 let J:∀ c∈i,x c=none:=λc a=>by
  let⟨o,l,j,k⟩:=f c a;exact W.un.free c o j (QZ a) (by simp)
 refine⟨D,cls,L,reT i H x,Z,⟨⟨B,G,λb o r n=>?_,λb o r n I=>m b o r (Oq n) I,u⟩,W.os,W.bare,G1 W.un t,W.hok.reT (λc a=>?_) (λc a=>?_),W.new,?_⟩,q J⟩
 ·by_cases z:b∈i
  ·let⟨M,l,j,k⟩:=f b z;rw[r] at k;cases k;exact m b o j (QZ z) (p b z)
  ·rw[UB z] at n;exact YX b o r n
 ·let⟨o,l,j,k⟩:=f c a;exact W.un.free c o j (QZ a) (by simp)
 ·let⟨o,l,j,k⟩:=f c a;exact⟨o,l,k⟩
 ·rw[UB λz=>?_];exact W.free;let⟨o,l,j,k⟩:=f D z;rw[W.new] at j;cases j
def ED{k:Nat}{f c':aj}{co:aH}{qual:Str}{params:Arguments}{body:Expr}{scope:aD}{cl:jE}{pm ctv:ai}{N:js}{spB:Sp}(hinj:∀ x y c,cl.lookup x=some c->cl.lookup y=some c->x=y)(hhas:∀ x,(scope.names.lookup x=some .cell\/scope.names.lookup x=some .free)->∃ c,cl.lookup x=some c)(hin:∀ x c,cl.lookup x=some c->c∈cl.map (·.2))(hvis:∀ x∈N,scope.names.lookup x=some .free)(jk:scope.kind=.function)(hco:scope.isCoroutine=false)(hgen:scope.isGenerator=false)(hnc:∀ x∈scope.names,x.2≠.cell)(hcd:WI co qual)(hbody:∀ (A:aw) (outer:jB) (s:ak) (H:Hp) (ws:je) (Q:VK) (E:XK),ZZ k (A.deeper (wB qual scope s.heap.objs.size f (.ref c') cl))->spB ws H Q E ->
   ∃ t,PE (LD P w K mg kf N qual scope f (.ref c') cl A outer s H E) body t/\t (ws.map some) H Q):
  ZK P w K mg kf (YL P w) (k+1) f (tF "<lambda>" qual params body scope cl pm (.ref c') ctv) []
   (Jg f c' (wT "<lambda>" qual params body scope cl pm c' ctv) co cl N spB):=by
 exists λvs H Q E h=>by rw[h.1];rfl
 intro A outer s H args us vs Q E hr e0 hb r hsp;let⟨rfl,hf,hc,ws,hcl,hB⟩:=hsp;cases ZQ.zero r;let lim:s.heap.NoLimit:=e0.mod.nolimit.keeps λb o e=>(e0.bs b o e).1;let hcs:∀ c∈cl.map (·.2),∃ o,H c=some (Yz c o):=λc hc=>by
  let⟨o,v,e,_⟩:=hcl.all c hc;exact⟨o,e⟩
 let hrec:s.heap.CodeRec (.ref c') qual:=by
  let⟨vs',t,d,v1⟩:=hcd;exact⟨c',co,vs',t,Z,e0.hok.obj hc,d,v1⟩
 refine PySem.W.kla_callFunE hr.depth (e0.hok.obj hf) Z hco hgen Z hrec (hb _ _ _ _ ?_);refine wpAny_newFunctionEnv hnc (λx hx=>absurd hx (by simp)) (λh₁ hns hsb=>⟨lim.fresh _ hsb,?_⟩) jk
 let hk₁:∀ b o,s.heap.get? b=some o->h₁.get? b=some o:=λb o e=>hsb.extBut b o (zL (zW e)) (zT _ e);let⟨t,ht,hq⟩:=hbody A outer s (unT (cl.map (·.2)) H) ws _ _ (hr.deeper _) hB;let noA:∀ b:aj,b∉(LD P w K mg kf N qual scope f (.ref c') cl A outer s (unT (cl.map (·.2)) H) (λc o H2=>(∀ c∈cl.map (·.2),H2 c=none)->E c o (reT (cl.map (·.2)) H H2))).ex:=λb z=>absurd (show b∈([]:jv) from z) (by simp)
 let I:ZE (LD P w K mg kf N qual scope f (.ref c') cl A outer s (unT (cl.map (·.2)) H) (λc o H2=>(∀ c∈cl.map (·.2),H2 c=none)->E c o (reT (cl.map (·.2)) H H2))) [] (ws.map some) (unT (cl.map (·.2)) H) { s with heap:=h₁,toks:=s.toks+0 }:=by
  refine⟨⟨e0.mod,jk,Z,Z,zY _,hinj,hhas,λ_ _ z=>absurd z zU,λ_=>hr.hd,Around.frames_deeper e0.frames,.inr ⟨Z,Z⟩,λb z=>absurd z (noA b),λb o e=>⟨(e0.bs b o e).1,Oq (e0.bs b o e).2⟩,e0.bsz,λb _ _=>noA b,λb z=>absurd z (noA b),e0.funs,λb hb=>Oq (e0.frf b hb)⟩,
   Z,e0.bare,Un.kept hk₁,⟨_,hns,λi x v h1 h2 h3=>?_⟩,λx c e=>?_,Oq (e0.hok.fresh (zY _)),λx c e=>QZ (hin x c e),λp hp=>absurd (show p∈([]:ju) from hp) (by simp),(e0.hok.unT hcs).kept hk₁,?_⟩
  ·let h2':ws[i]? = some v:=by
    rw[zM] at h2
    cases e:ws[i]? with
    | none=>rw[e] at h2;cases h2
    | some a=>rw[e] at h2;cases h2;rfl
   let⟨c,o,u,e1,e2,e3,e4,rv⟩:=hcl.val i x v h1 h2';exact⟨u,rv,.inr ⟨.inr (hvis x (zC h1)),c,e1,o,hk₁ _ _ (e0.hok.obj e3),e4⟩⟩
  ·let⟨o,v,e3,e4⟩:=hcl.all c (hin x c e);exact⟨v,o,hk₁ _ _ (e0.hok.obj e3),e4⟩
  ·show (ws.map some).length=N.length;rw[zX];exact hcl.len
 refine PySem.W.kla_codeExpr (ae (ht [] _ _ _ _ I hq) (λu s' hs=>?_) λe s' hs=>?_)
 ·let⟨v,H2,J,rv,q⟩:=hs;let u2:Un (frs outer) [] (unT (cl.map (·.2)) H) H2 s.heap s'.heap:=J.base;let nfr:∀ c∈cl.map (·.2),c∉frs outer:=λc hc' z=>by
   let⟨o,e⟩:=hcs c hc';rw[e0.frf c z] at e;cases e
  let n2:∀ c∈cl.map (·.2),H2 c=none:=λc hc'=>by
   let⟨o,e⟩:=hcs c hc';exact u2.free c o (e0.hok.obj e) (QZ hc') (by simp)
  exact⟨v,_,J.os,J.bare,G1 u2 hcs,J.hok.reT n2 (λc hc'=>by
   let⟨o,e⟩:=hcs c hc';exact⟨o,e,u2.keep c o (e0.hok.obj e) (QZ hc') (nfr c hc') (by simp)⟩),rv,q n2⟩
 ·exact ae hs (λ_ s'' z=>Fw e0 hcs z) λe' s'' z=>Fw e0 hcs z
def ZOz(K:zZ)(b:aj)(e:Sp)(q:Nat)(f:aj)(j i:Nat)(g:TS):TS:=λD a H=>a[q]? = some (some (.ref f))/\(∃ d:am,H f=some (Yz f { cls:=.type "function",data:=.func d }))/\e [] H (λv c=>D.nx (a.set j (some v)) c) (Gi K b i g D a)
def ZHn{X:Cx}{k:Nat}{f CB:aj}{fd:am}{sp:Sp}{x y n:Str}{p P Q py ph c9:aI}{j i q:Nat}{n0:Str}{p0:aI}{l:aB}{b:jM}{ts:TS}(F:ZK X.prog X.w X.K X.mg X.base (YL X.prog X.w) k f fd [] sp)(hr:ZZ k X.A)(hb:∀ s,BindsTo s fd ⟨[],[]⟩ [])(Y:X.N[q]? = some x)(hv:Lh X.env.scope x)(a3:X.stack=X.env::X.outer)(c3:X.env.frame=some X.env.locals)(c2:X.ex=[])(hy:Gl X y)(c7:X.mg y=some (.ref CB))(hN:X.N.Nodup)(hi:X.N[i]? = some n)(hn:X.env.scope.names.lookup n=some .local)(ht:yB X.K (.ref CB)=some (.type "type"))(hB:yY X.K CB (.type "BaseException")=some true)(hs:∀ d E',WC (X.held d E') (l::b) ts)(hj:X.N[j]? = some n0)(a2:X.env.scope.names.lookup n0=some .local)(c0:(x==("__debug__" : Str))=false:=by decide)(a9:(x==("__classdict__" : Str))=false:=by decide)(c1:(y==("__debug__" : Str))=false:=by decide)(c6:swapsWith (.Call (.Name x p) [] [] P) (some (.Name n0 p0)) Q.line X.env=pure false:=by rfl):
  PS X (.Try [.Assign [.Name n0 p0] (.Call (.Name x p) [] [] P) Q] [.ExceptHandler (some (.Name y py)) (some n) (l::b) ph] [] [] c9) (ZOz X.K CB sp q f j i ts):=by
 intro a s σ H D I h;refine wpAny_Try_except ?_;let c4:X.A.frames=some (X.env::X.outer):=by rw[I.ok.frames,a3]
 let a0:∀(M:Hp)(s1:ak)(E:ai)(t:ak),ZE X a σ M s1->YL X.prog X.w X.stack M s1 (Gi X.K CB i ts D σ) E t ->
   aA (az X.prog X.w) X.A (noteFrame E X.env) (λ_ G=>aA (az X.prog X.w) X.A (setFlight E none) (λ_ L=>aA (az X.prog X.w) X.A (handleBy E X.env [.ExceptHandler (some (.Name y py)) (some n) (l::b) ph]) (SP X a D) X.xe L) X.xe G) X.xe t:=by
  intro M s1 E t g hx;let⟨d,cls,od,H',rfl,W,C,rfl,mC,q⟩:=hx;let⟨B,fl,YX,a5,a4⟩:=W.ex;let a8:WJ B (X.env::X.outer) d (.ref C) od .none t.heap:=by rw[<-a3];exact fl
  refine LZ c4 c3 a8 λh4 V a6=>?_;refine Pu (s:={ t with heap:=h4 }) V λh5 U a7=>?_;let J5:ZE X a σ H' { t with heap:=h5 }:=La g W YX a5 a4 U.1 (a6.trans a7);refine wpAny_handleBy_cons (codeAny_handlers_test ?_) (by intro q;cases q)
  refine PJ (J5.held d (λ_ _=>False)) hy c7 ?_ c1;refine Fn (s:={ t with heap:=h5 }) J5.kIn U.at.is ht hB mC ?_;refine codeAny_handlers_suite_as ?_;refine Pu (s:={ t with heap:=h5 }) U λh6 fl6 e1=>?_;let J6:ZE X a σ H' { t with heap:=h6 }:=La g W YX a5 a4 fl6.1 ((a6.trans a7).trans e1);let n0:X.s₀.heap.get? d=none:=by
   cases z:X.s₀.heap.get? d with
   | none=>rfl
   | some o=>
    let⟨o',q'⟩:=g.base.there d o z (by rw[c2];simp)
    rw[W.new] at q';cases q'
  let n1:d≠X.env.locals:=λz=>by
   let⟨m,⟨o,_,_,O,_⟩,_⟩:=g.loc;rw[<-z,W.new] at O;cases O
  let n2:∀ x c,X.env.cells.lookup x=some c->c≠d:=λx c e z=>by
   let⟨v,o,O,_⟩:=g.cell x c e;rw[z,W.new] at O;cases O
  let n3:∀ p∈X.pn++a,p.1≠d:=λp hp z=>by
   let O:=(g.pin p hp).1;rw[z,W.new] at O;cases O
  let K6:ZE X a σ (upd H' d (XO Q4 d C od)) { t with heap:=h6 }:=J6.track n0 n1 n2 n3 W.free (Ji fl6.at);refine Mh K6 hN hi (.inl hn) (v:=.ref d) Z (λs7 I7=>?_) (.inr hn);refine ae (hs d _ a s7 _ _ _ (I7.held d _) (q d W.free)) (λfl s8 h8=>?_) λ_ _ z=>z
  cases fl with
  | next=>
   let⟨a1,R,T,q8⟩:=h8;exact(T.unheld g.ok).goes hN hi hn λs9 S=>⟨_,R,S,q8⟩
  | brk=>
   let⟨a1,R,T,q8⟩:=h8;exact(T.unheld g.ok).goes hN hi hn λs9 S=>⟨_,R,S,q8⟩
  | cont=>
   let⟨a1,R,T,q8⟩:=h8;exact(T.unheld g.ok).goes hN hi hn λs9 S=>⟨_,R,S,q8⟩
  | ret u=>
   let⟨v8,a1,R,T,r8,q8⟩:=h8;exact(T.unheld g.ok).goes hN hi hn λs9 S=>⟨v8,_,R,S,r8,q8⟩
 let⟨c8,⟨e2,hf⟩,c5⟩:=h;refine wpAny_execs_cons (wpAny_Assign_Name ?_ c6);let I':=I.wish (λE t=>aA (az X.prog X.w) X.A (noteFrame E X.env) (λ_ G=>aA (az X.prog X.w) X.A (setFlight E none) (λ_ L=>aA (az X.prog X.w) X.A (handleBy E X.env [.ExceptHandler (some (.Name y py)) (some n) (l::b) ph]) (SP X a D) X.xe L) X.xe G) X.xe t);let e0:∀ E',PE (X.wish E') (.Name x p) (UC q):=λE'=>FD (X:=X.wish E') Y hv c0 a9;refine ag (Z1 (e0 _ a s σ H (λv M=>v=.ref f/\M=H) I' ⟨_,c8,rfl,rfl⟩) ?_);rintro u s1 ⟨v,M,g,r,E,eH⟩;subst E;subst eH;cases r;let gf:=g.hok.obj hf;refine PySem.W.callWith_F0 ⟨_,_,_,_,gf⟩ ?_;refine wpAny_call (codeAny_mono (F.run X.A X.stack s1 M ⟨[],[]⟩ [] [] _ _ hr g.unwish.env0 (hb s1) .nil c5) λrr t Y=>?_)
 cases rr with
 | error E=>exact a0 M s1 E t g.unwish Y
 | ok fl=>
  cases fl with
  | ret u=>
   let⟨v,H2,J,rv,q2⟩:=g.unwish.after Y;exact Mh J hN hj (.inl a2) rv (λs2 I2=>wpAny_execs_nil (wpAny_execs_nil ⟨_,H2,I2,q2⟩)) (.inr a2)
  | next=>exact False.elim Y
  | brk=>exact False.elim Y
  | cont=>exact False.elim Y
def ZHp{e:ai}{env env':Env}(h:env.frame=env'.frame):noteFrame e env=noteFrame e env':=by
 unfold noteFrame PySem.frameOf;rw[h]
section
variable{M:Model}
end
def FX{a h f:aC}:∀{l:jB},h.FunFrames a l->(∀ b∈frs l,f.get? b=h.get? b)->f.FunFrames a l
 | [],_,_=>trivial
 | c::l,⟨hk,⟨L,o,hf,hn,ho,hd⟩,hr⟩,k=>⟨hk,⟨L,o,hf,hn,(k L (xI.mpr ⟨c,zP,hf⟩)).trans ho,hd⟩,FX hr λb d=>k b (by
   let⟨e,g,d⟩:=xI.mp d;exact xI.mpr ⟨e,zH _ g,d⟩)⟩
section
variable{jZ:ju}{σ:St}{H:Hp}{E E1:XK}
end
section
variable{M:Model}{B:aC}{env:Env}{outer l:jB}{L e:aj}{cls:ai}{od:jy}{Q:Unit->ak->Prop}
def C3{H:ai}{i:jy}(x:WJ B l e cls od H s.heap)(h:∀ k,WJ B l e cls od (i.elim .none λf=>rawInt f) k->s.heap.UpToSlots k->Q () { s with heap:=k }):aA M A (setFlight (.ref e) i) Q E s:=by
 let⟨J,F,G,I,N,T,P,v,⟨t,y,C,r,w⟩,m,p,j,g,K,D⟩:=x;let u:3<v.size:=(wH.mp K).1;let a:∀ b,b≠T->(s.heap.update T (Obj.mapFields (·.setIfInBounds 3 (i.elim Value.none λf=>rawInt f)))).get? b=s.heap.get? b:=λb n=>yA _ _ n.symm;let c:∀ b o,s.heap.get? b=some o->(∀ O,o.data≠.fields O)->b≠T:=λb o q d z=>by
  rw[z,j] at q;cases q;exact d v g
 unfold setFlight;refine aa (wpAny_field t r w ?_);rw[aO (show (Value.ref T != Value.none)=true by simp)]
 refine wpAny_setField j g u (h _ ⟨λb o q=>(a b λz=>by rw[z,m] at q;cases q).trans (J b o q),F,G.of_keeps λb o q d=>⟨o,(a b (c b o q d)).trans q,Z⟩,?_⟩ λb o q d=>⟨o.slots,(a b (c b o q d)).trans q⟩)
 exact⟨I,N,T,_,_,⟨(a e p.symm).trans t,y,C,r,w⟩,m,p,wS _ j (Obj.isFreed_of_fields (Obj.data_mapFields g _)),Obj.data_mapFields g _,by simp[u],D⟩
def ZE2{u:ai}(S:A.frames=some (env::outer))(r:env.frame=some L)(x:WJ B (env::outer) e cls od u s.heap)(h:∀ d,WJ B outer e cls od .none d->s.heap.UpToSlots d->Q () { s with heap:=d }):aA M A (leaving env (.ref e)) Q E s:=by
 by_cases K:u=rawInt L
 ·subst K;let x0:=x;let⟨N,I,J,X,vs,T,W,w,⟨k,F,G,j,p⟩,C,D,i,g,m,H⟩:=x;unfold leaving noteFrame;simp only[r];refine aa (aa (wpAny_field k j p ?_));rw[aO (show (Value.ref T != Value.none)=true by simp)]
  refine aa (wpAny_field i g m ?_);rw[aO (by simp)]
  exact ad (Pu x0 λd t y=>h d t.less y)
 ·let⟨N,I,J,X,vs,T,W,w,⟨k,F,G,j,p⟩,C,D,i,g,m,H⟩:=x;subst F G;let V:3<w.size:=(wH.mp m).1;let a:∀ b,b≠T->(s.heap.update T (Obj.mapFields (·.setIfInBounds 3 Value.none))).get? b=s.heap.get? b:=λb n=>yA _ _ n.symm;let c:∀ b o,s.heap.get? b=some o->(∀ ws,o.data≠.fields ws)->b≠T:=λb o q f z=>by
   rw[z,i] at q;cases q;exact f w g
  unfold leaving noteFrame;simp only[r];refine aa (aa (wpAny_field k j p ?_));rw[aO (show (Value.ref T != Value.none)=true by simp)]
  refine aa (wpAny_field i g m ?_);rw[aM (show ¬ ((u==rawInt L)=true) from λz=>K (eq_of_beq z))];refine aa (wpAny_setField i g V ?_);refine JF (s:={ s with heap:=_ }) S (J.of_keeps λb o q f=>⟨o,(a b (c b o q f)).trans q,Z⟩) r ((a e D.symm).trans k) (λb o q=>(a b λz=>by rw[z,C] at q;cases q).trans (N b o q)) I j (wH.mp p).1 H λd R u'=>?_
  refine Pu (s:={ s with heap:=d }) R λU t y=>h U t.less λb o q f=>?_;let⟨Y,O⟩:=u' b o ((a b (c b o q f)).trans q) f;let⟨v,P⟩:=y b { o with slots:=Y } O f;exact⟨v,P⟩
end
section
variable{jZ:ju}{σ:St}{H:Hp}{E E1:XK}
def ZFo{N:js}{f:aD}{cl:jE}{fp:jv}{U:ai}{Q:ja}{R:Option (ai->Sem Unit)}{C:aj}(F:VW X E)(hE:∀ cls o H,E1 cls o H->E cls o H)(I:ZE X jZ σ H s)(hf:∀ b∈fp,VF X jZ H b)(hC:s.heap.objs.size<=C):
  VY (YL X.prog X.w) (Yg X N f cl C s H fp (notedBy (az X.prog X.w) X.A (compEnvC f cl C X.env) (λe L=>compPost (az X.prog X.w) X.A X.xe R Q U C (.error e) L))) E1:=by
 intro pc l2 Hc sc e L Ic h;let⟨x,cls,od,H',rfl,W,q⟩:=h;let⟨B,fl,YX,i0,e9⟩:=W.ex;let e8:(Yg X N f cl C s H fp (notedBy (az X.prog X.w) X.A (compEnvC f cl C X.env) (λe L=>compPost (az X.prog X.w) X.A X.xe R Q U C (.error e) L))).stack=X.env::X.outer:=F.stack;let fl:WJ B (X.env::X.outer) x cls od .none L.heap:=e8 ▸ fl;let a9:X.A.frames=some (X.env::X.outer):=by rw[I.ok.frames,F.stack]
 show aA (az X.prog X.w) X.A (noteFrame (.ref x) (compEnvC f cl C X.env)) _ _ L;rw[ZHp (env:=compEnvC f cl C X.env) (env':=X.env) rfl];refine LZ a9 F.frame fl λh4 a0 c4=>?_;let⟨m,hn,_⟩:=Ic.loc;let hn:sc.heap.Ns C m:=hn;let J:Hc C=none:=Ic.free;let c3:C∉frs X.stack:=λz=>by
  let⟨_,t,g,_⟩:=I.stack.mem z;exact absurd (zW g) (wE.mpr hC)
 let c0:h4.Ns C m:=by
  let⟨o,es,ep,S,r⟩:=hn;exact c4.ns ⟨o,es,ep,W.un.keep C o S J c3 (by simp),r⟩
 show compPost (az X.prog X.w) X.A X.xe R Q U C (.error (.ref x)) { L with heap:=h4 }
 suffices hh:∃ m,h4.Ns C m/\∀ h',wG C h4 h'->∀ G:Env,G.locals=C->aA (az X.prog X.w) X.A (PySem.passOn "comprehension.variables-let-go" (.ref x) G:Sem ai) (λ_ _=>False) X.xe { L with heap:=h' } by
  cases R with
  | none=>exact hh
  | some u=>exact hh
 exists m,c0;intro h5 sb G _;let⟨k1,k2,k3,k4⟩:=a0
 let' B':=vY B [C]
 let hB:∀ b o,B'.get? b=some o->B.get? b=some o/\b≠C:=λb o e=>by
  exists uC _ e;intro z;have:B'.get? C=none:=sI _ (by simp)
  rw[z,this] at e;cases e
 let O:∀ b o,B.get? b=some o->b≠C->B'.get? b=some o:=λb o e n=>sO _ e (by simpa using n)
 let i6:B'.StaysIn h5:=λb o e=>by
  let⟨j,n⟩:=hB b o e;exact(sb.2 b n).trans (k1 b o j)
 let c5:B'.get? x=none:=by
  cases z:B'.get? x with
  | none=>rfl
  | some o=>rw[(hB _ _ z).1] at k2;cases k2
 let i1:∀ b,B.get? b=none->B'.get? b=none:=λb z=>by
  cases y:B'.get? b with
  | none=>rfl
  | some o=>rw[(hB _ _ y).1] at z;cases z
 let M:∀ b o,h4.get? b=some o->b≠C->h5.get? b=some o:=λb o e n=>(sb.2 b n).trans e;let i7:B'.StaysIn B:=λb o e=>(hB b o e).1;let nC:∀ b∈frs (X.env::X.outer),b≠C:=λb i z=>c3 (by rw[F.stack];rw[<-z];exact i)
 let c6:h5.FunFrames B' (X.env::X.outer):=FX (PySem.W.funFrames_base i7 k3) λb i=>sb.2 b (nC b i);let a4:x≠C:=λz=>by
  let⟨o,es,ep,S,_⟩:=hn;rw[<-z,W.new] at S;cases S
 let⟨oe,vs,T,oT,ts,⟨he,a8,c8,hd,h1⟩,e0,c7,hT,Y,h3,cx⟩:=k4;let TC:T≠C:=λz=>by
  let⟨o,es,ep,S,c9,_⟩:=c0;rw[z,S] at hT;cases hT;rw[c9] at Y;cases Y
 let a6:WJ B' (X.env::X.outer) x cls od (rawInt X.env.locals) h5:=⟨i6,c5,c6,oe,vs,T,oT,ts,⟨M _ _ he a4,a8,c8,hd,h1⟩,i1 T e0,c7,M _ _ hT TC,Y,h3,cx.imp id λz C' t cd j k=>z C' t cd j (hB _ _ k).1⟩;unfold PySem.passOn;refine aa (wpAny_field (M _ _ he a4) hd h1 ?_);rw[aM (show ¬ ((Value.ref T==Value.none)=true) from by simp)]
 refine aa (C3 (s:={ L with heap:=h5 }) a6 λh6 a7 k4=>?_);refine wpAny_throw (F.xe _ _ ?_);refine ZE2 (s:={ L with heap:=h6 }) a9 F.frame a7 λh7 a5 i4=>?_;let a:=I.base;rw[F.ex] at a;let c:Un (frs X.stack) fp H Hc s.heap sc.heap:=Ic.base;let D:∀{b o},X.s₀.heap.get? b=some o->b∉fp:=fun{b o} e z=>by
  let⟨_,_,_,z3,_⟩:=hf b z;rw[F.ex] at z3;rcases z3 with z3 | z3
  ·simp at z3
  ·exact absurd (zW e) (wE.mpr z3)
 let K:∀{b o},X.s₀.heap.get? b=some o->b≠C:=fun{b o} e z=>by
  exact absurd (zW e) (wE.mpr (by rw[z];exact zE I.sz hC))
 let i5:∀ b o,L.heap.get? b=some o->(∀ vs,o.data≠.fields vs)->b≠C->∃ sl,h7.get? b=some { o with slots:=sl }:=λb o e a1 n=>by
  let⟨sl,e4⟩:=c4 b o e a1;let e5:=M b _ e4 n;let⟨l1,e6⟩:=k4 b _ e5 a1;let⟨i3,e7⟩:=i4 b _ e6 a1;exact⟨i3,e7⟩
 let l:∀ b o,X.s₀.heap.get? b=some o->X.H₀ b=none->b∉frs X.outer->B.get? b=some o/\H' b=none:=λb o e n i=>by
  let nb:=F.off I e i;let j:=a.keep b o e n i (by simp)
  let n1:=a.free b o e n (by simp)
  let k:=c.keep b o j n1 nb (D e);let n2:=c.free b o j n1 (D e);exact⟨i0 b o k n2 nb,W.un.free b o k n2 (by simp)⟩
 let v:∀ b o,X.s₀.heap.get? b=some o->b∉frs X.outer->∃ t,B.get? b=some t:=λb o e i=>by
  let nb:=F.off I e i;let⟨o1,j⟩:=a.there b o e (by simp)
  let⟨o2,k⟩:=c.there b o1 j (D e);exact e9 b o2 k nb
 let P:∀ b o,B.get? b=some o->b≠C->h7.get? b=some o:=λb o e n=>a5.1 b o (O b o e n);let p:∀ b o,X.s₀.heap.get? b=some o->X.H₀ b=none->b∈frs X.outer->(∃ sl,h7.get? b=some { o with slots:=sl })/\H' b=none:=λb o e n i=>by
  let⟨i2,j⟩:=a.slot b o e n i (by simp)
  let n1:=a.free b o e n (by simp)
  let V:b∈frs X.stack:=by rw[F.frs];exact zH _ i
  let⟨i9,k⟩:=c.slot b _ j n1 V (D e);let n2:=c.free b _ j n1 (D e);let⟨l0,e3⟩:=W.un.slot b _ k n2 V (by simp)
  let n3:=W.un.free b _ k n2 (by simp)
  let⟨_,t,g,d⟩:=I.stack.mem V;let a3:s.heap.get? b=some { o with slots:=i2 }:=j;rw[g] at a3;cases a3;let⟨sl,e7⟩:=i5 b _ e3 (λvs z=>d vs z) (K e);exact⟨⟨sl,e7⟩,n3⟩
 let i8:Un (frs X.outer) [] X.H₀ H' X.s₀.heap h7:={
  keep:=λb o e n i _=>P b o (l b o e n i).1 (K e)
  slot:=λb o e n i _=>(p b o e n i).1
  free:=λb o e n _=>by
   by_cases i:b∈frs X.outer
   ·exact(p b o e n i).2
   ·exact(l b o e n i).2
  there:=λb o e _=>by
   by_cases i:b∈frs X.outer
   ·let⟨⟨sl,z⟩,_⟩:=p b o e (I.ok.frf b i) i;exact⟨_,z⟩
   ·let⟨t,z⟩:=v b o e i;exact⟨t,P b t z (K e)⟩
  tups:=λb xs e=>W.un.tups b xs (c.tups b xs (a.tups b xs e))
  frzs:=λb o u e=>W.un.frzs b o u (c.frzs b o u (a.frzs b o u e))
  tbls:=λb ps e=>by
   let⟨m1,j⟩:=a.tbls b ps e;let⟨m2,k⟩:=c.tbls b _ j;let⟨m3,e3⟩:=W.un.tbls b _ k;exact⟨m1++m2++m3,by rw[e3,vG,vG,vG]⟩ }
 let a2:∀ b,H' b≠none->b≠C:=λb n z=>by
  let⟨o,es,ep,S,_⟩:=hn;exact n (by rw[z];exact W.un.free C o S J (by simp))
 let c2:X.s₀.heap.get? x=none:=by
  cases z:X.s₀.heap.get? x with
  | none=>rfl
  | some o=>
   let⟨o1,j⟩:=a.there x o z (by simp)
   let⟨o2,k⟩:=c.there x o1 j (D z);rw[W.new] at k;cases k
 let c1:∀ b o,h7.get? b=some o->H' b≠none->B'.get? b=some o:=λb o e n=>by
  let⟨t,q'⟩:=W.hok.there n;let j:=YX b t q' n;let k:=P b t j (a2 b n);rw[e] at k;cases k;exact O b o j (a2 b n)
 exact⟨x,cls,od,H',Z,⟨⟨B',a5,c1,λb o e n i=>O b o (l b o e n i).1 (K e),λb o e i=>by
   let⟨t,z⟩:=v b o e i;exact⟨t,O b t z (K e)⟩⟩,(W.os.trans Ic.os).trans I.os,W.bare,i8,W.hok.keptT (λb o e n=>P b o (YX b o e n) (a2 b n)),c2,W.free⟩,hE _ _ _ q⟩
def ZGi{CX:Wv}{elt iter:Expr}{x:Str}{px:aI}{ifs:jz}{scope:aD}{cl:jE}{pos:aI}{ix:jp}{ys:js}{tt:TT}{te:TE}{it:aj}{a:jv}{tn:Nat->aC->Prop}{J:It}{Q:VK}{E:ja}{RR:ai->aj->Result->ak->Prop}{E1:XK}(hp:∀ D C:aj,s.heap.objs.size<=C->VY CX (Yg X (x::ys) scope cl C s H a (notedBy (az X.prog X.w) X.A (compEnvC scope cl C X.env) (λe M=>RR (.ref D) C (.error e) M))) E1)(hc:X.calm=true)(ht:∀ C s H a E,Q8 (Yg X (x::ys) scope cl C s H a E) ifs tt)(he:∀ C s H a E,VY CX (Yg X (x::ys) scope cl C s H a E) E1->PE (Yg X (x::ys) scope cl C s H a E) elt te)(sub:Yd X.env cl)(jk:scope.kind=.function)(hnd:(x::ys).Nodup)(hx:scope.names.lookup x=some .local)(jo:∀ y∈scope.names,y.2≠.cell)(hhas:∀ y,((relabel scope X.env).names.lookup y=some .cell\/(relabel scope X.env).names.lookup y=some .free)->∃ c,cl.lookup y=some c)(fo:Z8 X scope ix ys)(I:ZE X jZ σ H s)(T:VX X.prog X.w X.K (.Name x px) J a it tn)(st:tn 0 s.heap)(hf:∀ b∈a,VF X jZ H b)(q:WH J σ ix tt te H Q)(hRR:∀ D C M t m,s.heap.objs.size<=C->ZE X jZ σ t M->VF X jZ t C->M.heap.Ns C m->Q (.ref D) t->RR (.ref D) C (.ok .next) M):
  aA (az X.prog X.w) X.A (newList []) (λa0 l=>aA (az X.prog X.w) X.A (newFunctionEnv scope X.env.globals cl [] X.env.qual none .none (some X.env)) (λO c0=>
   aF (az X.prog X.w) X.A (.compStart (.ListComp elt [⟨.Name x px,iter,ifs,0⟩] scope pos) 0 (.ref it) a0 { O with scope:=relabel scope X.env }) (RR a0 O.locals) c0) E l) E s:=by
 refine wpAny_newObj_type (wpAny_newFunctionEnv jo (by intro y hy;simp at hy) (λk h f=>?_) jk)
 dsimp only at h f⊢;generalize R:s.heap.push { cls:=.type "list",dict:=none,data:=.seq ([]:jd).toArray }=j at h f⊢;let hC:j.objs.size=s.heap.objs.size+1:=by rw[<-R,vO]
 let a2:s.heap.objs.size≠j.objs.size:=by rw[hC];exact zL (xT _)
 let v:s.heap.objs.size<=j.objs.size:=by rw[hC];exact wR _
 let below:∀ b,b<s.heap.objs.size->b≠j.objs.size/\b≠s.heap.objs.size:=λb g=>⟨by rw[hC];exact zL (vW g),zL g⟩
 let a6:∀ b o,s.heap.get? b=some o->k.get? b=some o:=λb o e=>f.extBut b o (below b (zW e)).1 (zT _ (R ▸ zT _ e));let F:∃ n,k.get? s.heap.objs.size=some { cls:=.type "list",data:=.seq ([]:jd).toArray n }:=⟨_,f.extBut _ _ a2 (zT _ (R ▸ yU _ rfl))⟩;let⟨nD,F⟩:=F;let a3:∀ b∈a,VF X jZ H b/\b<s.heap.objs.size:=λb g=>⟨hf b g,by let⟨o,e,_⟩:=T.obj 0 _ st b g;exact zW e⟩
 let c7:H s.heap.objs.size=none:=I.hok.fresh (zY _);let⟨W,⟨m0,w0⟩,c1⟩:=q _ c7;generalize hE:notedBy (az X.prog X.w) X.A (compEnvC scope cl j.objs.size X.env) (λe M=>RR (.ref s.heap.objs.size) j.objs.size (.error e) M)=z;let c8:VY CX (Yg X (x::ys) scope cl j.objs.size s H a z) E1:=hE ▸ hp s.heap.objs.size j.objs.size v;let a4:(relabel scope X.env).names.lookup x=some .local:=lookup_relabel_local hx;let I0:ZE (Yg X (x::ys) scope cl j.objs.size s H a z) [] (Ij σ ix) (upd H s.heap.objs.size (.lst [])) { s with heap:=k,toks:=s.toks+([]:jK).length }:=
  AW I a3 sub jk hhas fo (zY _) v a2 h a6 F
 let a7:tn 0 k:=T.keep _ _ _ st λb _ o e=>a6 b o e;let c5:∀ b∈a,upd H s.heap.objs.size (.lst []) b=none:=λb g=>by rw[ZO (below b (a3 b g).2).2];exact(hf b g).1
 let G:∀{t:Hp},(∀ b∈a,t b=none)->∀ b∈a,VF (Yg X (x::ys) scope cl j.objs.size s H a z) [] t b:=λhn b g=>
  ⟨hn b g,(I0.ok.exf b g).1,I0.ok.exfs b g,.inl g,(I0.ok.exf b g).2,λp hp=>absurd (show p∈([]:ju) from hp) (by simp)⟩
 let P:∀ l:ak,l={ s with heap:=k,toks:=s.toks+([]:jK).length } ->
   aF (az X.prog X.w) X.A (.compLoop (.ListComp elt [⟨.Name x px,iter,ifs,0⟩] scope pos) 0 (.ref it) (.ref s.heap.objs.size) (compEnvC scope cl j.objs.size X.env)) (RR (.ref s.heap.objs.size) j.objs.size) l:=by
  rintro l rfl;refine FZ (λn M=>∃ i L t,ZE (Yg X (x::ys) scope cl j.objs.size s H a z) [] L t M/\(∃ o,L=o::ix.map λi=>(σ[i]?).join)/\tn i M.heap/\(∀ b∈a,t b=none)/\W i n t) ?_ m0 ⟨0,_,_,I0,⟨none,Z⟩,a7,c5,w0⟩;rintro n s3 ⟨i,V,H3,I3,⟨o3,a5⟩,a8,a1,w3⟩;rw[hE];rcases c1 i n H3 w3 with ⟨a9,qn⟩ | ⟨go,step⟩
  ·refine Z1 (T.done (Yg X (x::ys) scope cl j.objs.size s H a z) Z Z Z hc i [] s3 V H3 z I3 (G a1) a8 a9) ?_;rintro r s4 ⟨hr,Y⟩;subst hr;let⟨m4,c9,_⟩:=Y.loc;let Ix:ZE X jZ σ H3 s4:=I.call' (s':=s4) (ch:=a) Y.os Y.base Y.hok Y.bare λb g=>by
    let⟨_,z1,_,z3,z4,z5⟩:=hf b g;exact⟨z3,z1,z4,z5⟩
   exact hRR _ _ s4 H3 m4 v Ix (I.fpOk v Y.free) c9 qn
  ·refine Z1 (T.item (Yg X (x::ys) scope cl j.objs.size s H a z) Z Z Z hc i [] s3 V H3 z I3 (G a1) a8 go) ?_;rintro r s4 ⟨u,hr,h4⟩;subst hr;refine Z1 h4 ?_;rintro _ s5 ⟨xv,H5,I5,r5,y5,U,c6⟩;let c3:=I5.pinned (G c6) (T.obj _ _ U);let B:∀{N:St}{H7:Hp}{s7:ak}{S:Nat},ZE (Yg X (x::ys) scope cl j.objs.size s H a z) ([]++NA a s5.heap) N H7 s7->(∃ o,N=o::ix.map λi=>(σ[i]?).join)->S<n->W (i+1) S H7 ->
     ∃ m,m<n/\∃ i L t,ZE (Yg X (x::ys) scope cl j.objs.size s H a z) [] L t s7/\(∃ o,L=o::ix.map λi=>(σ[i]?).join)/\tn i s7.heap/\(∀ b∈a,t b=none)/\W i m t:=fun{N H7 s7 S} I7 e7 hm w7=>by
    refine⟨S,hm,i+1,N,H7,I7.unpinned,e7,T.keep _ _ _ U λb g o e=>(I7.pin (b,o) (xW _ (xW _ (NM g e)))).1,λb g=>?_,w7⟩;let⟨o,e,d⟩:=T.obj _ _ U b g;exact(I7.pin (b,o) (xW _ (xW _ (NM g e)))).2.1
   let hg:PG (Yg X (x::ys) scope cl j.objs.size s H a z) (.Name x px) (QT 0):=Qo hnd Z (.inl a4) (.inr a4);refine YH (hg _ s5 V H5 xv u (λc2 H6=>c2=P0 σ ix xv/\H6=H5) c3 r5 ⟨by rw[a5];rfl,Z⟩) λ_ s6 c2 H6 I6 e6 c4=>?_
   subst e6 c4;refine Z1 (ht _ _ _ _ _ _ s6 _ _ _ I6 (step xv _ y5)) ?_;rintro ok s7 ⟨H7,I7,q7⟩
   cases ok with
   | false=>
    rw[aM zU] at q7⊢;let⟨S,hm,w7⟩:=q7;exact B I7 ⟨_,Z⟩ hm w7
   | true=>
    rw[aO rfl] at q7⊢;refine Z1 (he _ _ _ _ _ c8 _ s7 _ _ _ I7 q7) ?_;rintro y s8 ⟨yv,H8,I8,r8,e0,S,e8,z8,hm,w8⟩;refine YH (V1 _ s8 _ H8 (.ref s.heap.objs.size) [yv] (.ref s.heap.objs.size) [y] (λ_ H9=>W (i+1) S H9) I8 Z (.cons r8 .nil) ⟨_,e0,yv,Z,Z,e8,z8,w8⟩) λ_ s9 _ H9 I9 _ w9=>?_;exact B I9 ⟨_,Z⟩ hm w9
 exact codeAny_compStart_list (P _ Z) (T.self _ 0 _ _ _ a7 (P _ rfl))
def Cl{d c:Expr}{x:Str}{G:aI}{g:jz}{a:aD}{n:aI}{M:TI}{L:TT}{K:TE}(z:jp)(i:js)(F:VW X E)(hE:∀ cls o H,E1 cls o H->E cls o H)(hi:PI X (.Name x G) c M)(ht:∀ C s H f E,Q8 (Yg X (x::i) a (Xv X.env a.names []) C s H f E) g L)(he:∀ C s H f E,VY (YL X.prog X.w) (Yg X (x::i) a (Xv X.env a.names []) C s H f E) E1->PE (Yg X (x::i) a (Xv X.env a.names []) C s H f E) d K)(Y:Z8 X a z i)(hk:NO X.env a.names=true:=by rfl)(k:Oo a x=true:=by rfl)(l:(x::i).Nodup:=by decide +kernel)(hs:∀ x,foldedSetIterable c X.env x=pure x:=by intro _;rfl):
  PE X (.ListComp d [⟨.Name x G,c,g,0⟩] a n) (KK M z L K):=by
 intro jZ s σ H Q I h;let B:=MT k;let r:=JI I.ok hk;rw[eval_ListComp];refine wpAny_comprehension_free (use:=none) Z hs (K5 r) B.kind B.names (Z1 (hi jZ s σ H _ I h) λv s1 h1=>Z1 h1 λa0 s2 h2=>?_);let⟨it,f,tn,J,H2,e,t,T,p,u,q2⟩:=h2;subst e;refine ZGi (RR:=λj C=>compPost (az X.prog X.w) X.A X.xe none (EP X jZ σ Q) j C) (E1:=E1) (λD C y=>ZFo F hE t u y) F.calm ht he (JK r) B.kind l B.own B.cell (KC B.cell) Y t T p u q2 ?_;intro D C s' N m y O W hn q;refine⟨m,hn,λh' sb=>⟨.ref D,N,?_,Z,q⟩⟩;let⟨P,R,_,S,U,V⟩:=W;exact O.turned (t':=s'.toks) (λb o k e=>(sb.2 b k).trans e) P R S U V
end
section
variable{E:XK}
def Mf{x:Str}{C:aj}{S c l:aI}(F:VW X E)(O:OwnCls x C [.type "ValueError",.type "Exception",.type "BaseException",.type "object"] "ValueError.__new__" X.mg X.base)(Q:yT X.K (.ref C)=true)(R:yY X.K C (.type "BaseException")=some true)(P:yB X.K (.ref C)=some (.type "type"))(L:Gl X x)(j:(x==("__debug__" : Str))=false:=by decide):
  PS X (.Raise (some (.Call (.Name x S) [] [] c)) none l) (λ_ _ H=>E (.ref C) none H):=by
 intro r s σ H D I h;let M:=I.ok.hd F.calm;rw[arm_exec_Raise];refine aa (ah ?_);refine Fk M R P (aa (ae ?_ (λv s3 A=>aa (ah (ad A))) λ_ _ z=>z));let i:=qN;let⟨tl,N,nm,q,bs,n,sn,V,Y,t,dd,k0,k1,k2,k3,k5,mN,B,G,k,T⟩:=O.obj;refine ag (PJ I L O.bound ?_ j);refine sP I.kIn Q ?_;let⟨hp,g,d,tk,os⟩:=s;refine wpAny_call_exc_subU (rest:=[]) i i.hasB i (T.keeps I.bk) (I.bk _ _ B) (G.keeps I.bk) k (λw b e=>?_) (yW _);let⟨tt,u,e2,e3⟩:=e.there;let J:=I.newx (C:=C) (ea:=b) (h':=w) e.keeps e.new ⟨_,_,u,Z,Z,Z,Z,Z⟩;let p:H b=none:=by
  cases z:H b with
  | none=>rfl
  | some o=>
   let⟨U,m⟩:=I.hok.there (a:=b) (by rw[z];exact λy=>nomatch y)
   have:=e.new;rw[m] at this;cases this
 let f:X.s₀.heap.get? b=none:=by
  cases z:X.s₀.heap.get? b with
  | none=>rfl
  | some o=>
   let⟨U,m⟩:=I.base.there b o z (by rw[F.ex];simp)
   have:=e.new;rw[m] at this;cases this
 exact⟨b,none,Z,J.kIn,(J.hok b _ ZP).1,Ec F (J.untrack p) f p (J.hok b _ ZP).1 h⟩
end
def Ee(K:zZ)(a:aj)(c:TS)(D:Yx)(d:St):XK:=λcls e b=>∃ C,cls=.ref C/\yY K C (.ref a)=some true/\c D d b
inductive Ow(K:zZ)(e C:aj)(m:Str)(i:Sp)(t:TA)(j:TS)(D:Yx)(b:L2.St)(x:V)(c:Hp):Prop
 |mk(a h d:_)(_:x=.ref a)(_:c a=some (.ins C h d))(_:d.lookup m=none)(_:t b c λk f=>i (x::(k++[])) f (λ_ g=>D.nx b g) (Ee K e j D b))
def Ar(K:zZ)(b C:aj)(m:Str)(d:Sp)(e:TE)(t:TA)(f:TS):TS:=λD a H=>e a H λx c=>Ow K b C m d t f D a x c
def Ef{X:Cx}{k:Nat}{f C CB:aj}{fd:am}{ps:js}{sp:Sp}{m y:Str}{jj ji epos py ph pos:aI}{o e:Expr}{es:jz}{ta:TE}{t:TA}{b₀:aB}{suite:jM}{ts:TS}{pl:Sem Bool}(he:∀ S,PE (X.wish S) o ta)(c:Wm X.K C)(hm:Uc X.K C m f)(F:ZK X.prog X.w X.K X.mg X.base (YL X.prog X.w) k f fd ps sp)(hr:ZZ k X.A)(hb:Z5 X.K fd ps [])(ha:∀ S,PA (X.wish S) (e::es) t)(hst:X.stack=X.env::X.outer)(hfm:X.env.frame=some X.env.locals)(hy:Gl X y)(hyC:X.mg y=some (.ref CB))(ht:yB X.K (.ref CB)=some (.type "type"))(hB:yY X.K CB (.type "BaseException")=some true)(hs:∀ E S,WC (X.held E S) (b₀::suite) ts)(hdy:(y==("__debug__" : Str))=false:=by decide)(hse:aq (e::es) X.env=(false,aG e X.env)::aq es X.env:=by rfl)(hpl:(aE ji (aq es X.env)).any (·.1)=false:=by rfl)(hev:aG (.Call (.Attribute o m jj) (e::es) [] ji) X.env=(do
   let ov<-aG o X.env
   standAt jj.atName
   let (f,first)<-holding [ov] (getMethod ov m pl)
   callWith ji f first (aE ji (aq (e::es) X.env)) (backToKw ji (keywordEach [] X.env))):=by rfl)(hsw:swapsWith (.Call (.Attribute o m jj) (e::es) [] ji) none epos.line X.env=pure false:=by rfl):
  PS X (.Try [.Expr (.Call (.Attribute o m jj) (e::es) [] ji) epos] [.ExceptHandler (some (.Name y py)) none (b₀::suite) ph] [] [] pos) (Ar X.K CB C m sp ta t ts):=by
 intro b s R H D I h;refine wpAny_Try_except ?_;let a5:X.A.frames=some (X.env::X.outer):=by rw[I.ok.frames,hst]
 let O:∀(T:Hp)(s1:ak)(i:ai)(g:ak),ZE X b R T s1->YL X.prog X.w X.stack T s1 (Ee X.K CB ts D R) i g ->
   aA (az X.prog X.w) X.A (noteFrame i X.env) (λ_ j=>aA (az X.prog X.w) X.A (setFlight i none) (λ_ n=>aA (az X.prog X.w) X.A (handleBy i X.env [.ExceptHandler (some (.Name y py)) none (b₀::suite) ph]) (SP X b D) X.xe n) X.xe j) X.xe g:=by
  intro T s1 i g p hx;let⟨E,cls,od,H',rfl,W,C,rfl,mC,q⟩:=hx;let⟨B,Y,YX,a1,a0⟩:=W.ex;let a4:WJ B (X.env::X.outer) E (.ref C) od .none g.heap:=by rw[<-hst];exact Y
  refine LZ a5 hfm a4 λh4 N a2=>?_;refine Pu (s:={ g with heap:=h4 }) N λh5 M a3=>?_;let J5:ZE X b R H' { g with heap:=h5 }:=La p W YX a1 a0 M.1 (a2.trans a3);refine wpAny_handleBy_cons (codeAny_handlers_test ?_) (by intro q;cases q)
  refine PJ (J5.held E (λ_ _=>False)) hy hyC ?_ hdy;refine Fn (s:={ g with heap:=h5 }) J5.kIn M.at.is ht hB mC ?_;refine codeAny_handlers_suite ?_;refine Pu (s:={ g with heap:=h5 }) M λh6 fl6 a6=>?_;let J6:ZE X b R H' { g with heap:=h6 }:=La p W YX a1 a0 fl6.1 ((a2.trans a3).trans a6);refine ae (hs E _ b _ _ _ _ (J6.held E _) q) (λY s8 h8=>?_) λ_ _ z=>z
  cases Y with
  | next=>
   let⟨d,G,L,P⟩:=h8;exact⟨d,G,L.unheld p.ok,P⟩
  | brk=>
   let⟨d,G,L,P⟩:=h8;exact⟨d,G,L.unheld p.ok,P⟩
  | cont=>
   let⟨d,G,L,P⟩:=h8;exact⟨d,G,L.unheld p.ok,P⟩
  | ret u=>
   let⟨v8,d,G,L,r8,P⟩:=h8;exact⟨v8,d,G,L.unheld p.ok,r8,P⟩
 let I':=I.wish (λi g=>aA (az X.prog X.w) X.A (noteFrame i X.env) (λ_ j=>aA (az X.prog X.w) X.A (setFlight i none) (λ_ n=>aA (az X.prog X.w) X.A (handleBy i X.env [.ExceptHandler (some (.Name y py)) none (b₀::suite) ph]) (SP X b D) X.xe n) X.xe j) X.xe g);refine wpAny_execs_cons (wpAny_Expr_any ?_ I.quiet hsw);refine sG (pl:=pl) (Z1 (he _ b s R H _ I' h) λu s1 ⟨x,T,p,rx,a,dx,fs,ex,E,l,q⟩=>?_) hev;subst ex;obtain rfl:u=Value.ref a:=rx;refine IY p.unwish E c hm l ?_;refine vS (first:=[.ref a]) (h₀:=X.base) I.ok.mod.kin hm.kp (YH (ha _ ji b s1 R T _ p q) λQ s2 vs H2 U r q2=>⟨U.kIn,?_⟩) hse hpl
 let r2:ZQ (V.ref a::(vs++[])) (Value.ref a::(Q++[])):=.cons Z (r.append .nil);let hl:(Value.ref a::Q++[]).length=ps.length:=by rw[show Value.ref a::Q++[]=Value.ref a::(Q++[]) from rfl,<-r2.length];exact F.len _ _ _ _ q2
 refine wpAny_call (codeAny_mono (F.run X.A X.stack s2 H2 ⟨.ref a::Q,[]⟩ (.ref a::Q++[]) (.ref a::(vs++[])) _ _ hr U.unwish.env0 (hb s2 (.ref a::Q) U.kIn hl) r2 q2) λrr g hq=>?_)
 cases rr with
 | error i=>exact O H2 s2 i g U.unwish hq
 | ok Y=>
  cases Y with
  | ret u=>
   let⟨v,H3,J,rv,q3⟩:=U.unwish.after hq;exact wpAny_execs_nil (wpAny_execs_nil ⟨R,H3,J,q3⟩)
  | next=>exact False.elim hq
  | brk=>exact False.elim hq
  | cont=>exact False.elim hq
end L2
namespace Tw
open PySem PySem.Spec L2 PyProof.Rows
variable{jg jh CS CT CH CK CP CB:aj}
structure ZI(P:al)(w:ar)(K:zZ)(mg:jb)(kf:aC)(CX:Wv)(k:Nat)(C:aj)(m:Str)(ps:js)(sp:Sp):Prop where
 ex:∃ f fd,Uc K C m f/\ZK P w K mg kf CX k f fd ps sp/\Z5 K fd ps []
def Yp{X:Cx}{j:Wv}{k:Nat}{C:aj}{m:Str}{x:js}{l:Sp}{E:XK}{o e:Expr}{g:jz}{n:TE}{t:TA}{a d:aI}{v:Sem Bool}(q:PE X o n)(c:Wm X.K C)(D:ZI X.prog X.w X.K X.mg X.base j k C m x l)(r:ZZ k X.A)(u:VY j X E)(p:PA X (e::g) t)(i:aq (e::g) X.env=(false,aG e X.env)::aq g X.env:=by rfl)(h:(aE a (aq g X.env)).any (·.1)=false:=by rfl)(s:aG (.Call (.Attribute o m d) (e::g) [] a) X.env=(do
   let ov<-aG o X.env
   standAt d.atName
   let (f,first)<-holding [ov] (getMethod ov m v)
   callWith a f first (aE a (aq (e::g) X.env)) (backToKw a (keywordEach [] X.env))):=by rfl):
  PE X (.Call (.Attribute o m d) (e::g) [] a) (Lj C m l [] E n t):=by
 let⟨f,y,M,F,b⟩:=D.ex;exact ZMi q c M F r b .nil u p i h s
def Mp{X:Cx}{e:Wv}{k:Nat}{C:aj}{m:Str}{q:js}{g:Sp}{E:XK}{o:Expr}{h:TE}{d a:aI}{p:Sem Bool}(i:PE X o h)(c:Wm X.K C)(D:ZI X.prog X.w X.K X.mg X.base e k C m q g)(j:ZZ k X.A)(n:VY e X E)(l:aG (.Call (.Attribute o m a) [] [] d) X.env=(do
   let ov<-aG o X.env
   standAt a.atName
   let (f,first)<-holding [ov] (getMethod ov m p)
   callWith d f first (aE d (aq [] X.env)) (backToKw d (keywordEach [] X.env))):=by rfl):
  PE X (.Call (.Attribute o m a) [] [] d) (Lj C m g [] E h Vp):=by
 let⟨f,r,M,F,b⟩:=D.ex;exact Ac i c M F j b .nil n l
abbrev IZ:Stmt:=Xo (top 28) 0
abbrev Ih:Stmt:=Xo (top 36) 0
abbrev Lz:Stmt:=Xo (top 36) 1
abbrev JH:Stmt:=Xo (top 36) 3
abbrev Kr:Stmt:=Xo (top 36) 7
abbrev KG:Stmt:=Xo (top 36) 8
abbrev Kh:Stmt:=Xo (top 36) 9
abbrev KL:Stmt:=Xo (top 36) 12
abbrev M0:Stmt:=Xo (top 36) 13
abbrev JB:Stmt:=Xo (top 36) 16
abbrev Kw:Stmt:=Xo (top 36) 17
abbrev Mo:Stmt:=Xo (top 36) 18
abbrev Kx:Stmt:=Xo (top 36) 23
structure Yj(K:zZ)(mg:jb)(jg jh:aj):Prop where
 shelf:mg "Shelf" = some (.ref jg)
 twig:mg "Twig" = some (.ref jh)
 cS:Wm K jg
 cT:Wm K jh
 nk:YD K jg "kept"
 nf:YD K jg "following"
 nl:YD K jg "looks"
 nth:YD K jh "things"
 ntg:YD K jh "tag"
 nab:YD K jh "above"
 nho:YD K jh "holds"
abbrev Q1(d a:aj)(n:Nat):List (Str×V):=[("kept",.ref d),("following",.int n),("looks",.ref a)]
abbrev VC(d c:V)(a:aj)(b:Nat):List (Str×V):=[("things",d),("tag",c),("above",.ref a),("holds",.int b)]
structure Y9(jg:aj)(H:Hp)(S d lk:aj)(n:Nat)(kvs:List (ZR×V))(ls:je):Prop where
 self:∃ dx,H S=some (.ins jg dx (Q1 d lk n))
 kept:H d=some (.dK kvs)
 looks:H lk=some (.lst ls)
structure We(jh:aj)(H:Hp)(x:aj)(th tg:V)(ab:aj)(ho:Nat)(us:je):Prop where
 self:∃ dx,H x=some (.ins jh dx (VC th tg ab ho))
 above:H ab=some (.lst us)
def Y9.same{a:aj}{H c:Hp}{S d f:aj}{n:Nat}{b:List (ZR×V)}{g:je}(h:Y9 a H S d f n b g)(s:ZB H c):Y9 a c S d f n b g:=by
 let⟨⟨i,e⟩,j,k⟩:=h;exact⟨⟨i,s _ _ e⟩,s _ _ j,s _ _ k⟩
def We.same{a:aj}{H b:Hp}{x:aj}{g f:V}{c:aj}{d:Nat}{i:je}(h:We a H x g f c d i)(s:ZB H b):We a b x g f c d i:=by
 let⟨⟨j,e⟩,k⟩:=h;exact⟨⟨j,s _ _ e⟩,s _ _ k⟩
inductive Qn(jh:aj)(h:je)(H:Hp)(Q:VK)(_:XK):Prop
 |mk(x g:aj)(e d:V)(_:h=[.ref x,e,d])(_:H x=some (.ins jh g []))(_:∀(a:Hp)(c:aj),(∀ b o,b≠x->H b=some o->a b=some o)->H c=none->We jh a x e d c 1 []->Q .non a)
def A4:ZA zEx zEx (Ze IZ):=Z4
def Bq(F:Zn K "__init__" "Twig.__init__" IZ f fd)(L:Yj K mg jg jh):ZK P w K mg kf Zc 1 f fd zEx (Qn jh):=by
 refine F.ko A4 λl A j s H u Q E q h=>?_;let⟨x,d,t,r,rfl,m,k⟩:=h;intro p;exists _,ZN (QV (pv 0) (pv 1) Z) (ZN (QV (pv 0) (pv 2) rfl) (ZN (QV (pv 0) (XH Zt) rfl) (ZV (QV (pv 0) ZM rfl))));exists _,Z,_,Z,x,jh,d,_,Z,m,L.cT,L.nth,yR Z;exists _,Z,_,Z,x,jh,d,_,Z,ZP,L.cT,L.ntg,yR Z;exists YA;intro i a;rw[Oy] at a⊢;let c:x≠i:=λz=>by rw[<-z,ZP] at a;cases a
 let g:H i=none:=by rw[ZO (Ne.symm c)] at a;exact a
 exists _,Z,x,jh,d,_,Z,(by rw[ZO c];exact ZP),L.cT,L.nab,yR Z
 exists _,Z,x,jh,d,_,Z,ZP,L.cT,L.nho,yR Z;refine k _ i (λb o n e=>?_) g ⟨⟨d,ZP⟩,?_⟩
 ·rw[Oy,ZO n,ZO (ZW e g),ZO n];exact e
 ·rw[Oy,ZO (Ne.symm c)];exact ZP
inductive QJ(jg:aj)(g:je)(H:Hp)(Q:VK)(_:XK):Prop
 |mk(x e:aj)(_:g=[.ref x])(_:H x=some (.ins jg e []))(_:∀(a:Hp)(d c:aj),(∀ b o,b≠x->H b=some o->a b=some o)->H d=none->H c=none->d≠c->Y9 jg a x d c 0 [] []->Q .non a)
def ZP0:ZA zEq zEq (Ze Ih):=Z4
def Af(F:Zn K "__init__" "Shelf.__init__" Ih f fd)(L:Yj K mg jg jh):ZK P w K mg kf Zc 1 f fd zEq (QJ jg):=by
 refine F.ko ZP0 λu A p s H B Q E y h=>?_;let⟨x,j,rfl,t,k⟩:=h;intro v;exists _,ZN (QV (pv 0) Jw Z) (ZN (QV (pv 0) ZM rfl) (ZV (QV (pv 0) (XH Zt) rfl)));intro d m;let q:x≠d:=ZW t m;exists _,Z,x,jg,j,_,Z,(by rw[ZO q];exact t),L.cS,L.nk,yR Z
 exists _,Z,x,jg,j,_,Z,ZP,L.cS,L.nf,yR Z;exists YA;intro g c;rw[Oy] at c⊢;let r:x≠g:=λz=>by rw[<-z,ZP] at c;cases c
 let a:upd H d (.dK []) g=none:=by rw[ZO (Ne.symm r)] at c;exact c
 let l:d≠g:=λz=>by rw[<-z,ZP] at a;cases a
 let i:H g=none:=by rw[ZO (Ne.symm l)] at a;exact a
 exists _,Z,x,jg,j,_,Z,(by rw[ZO r];exact ZP),L.cS,L.nl,yR Z
 refine k _ d g (λb o n e=>?_) m i l ⟨⟨j,ZP⟩,?_,?_⟩
 ·rw[ZO n,ZO (ZW e i),ZO n,ZO (ZW e m)];exact e
 ·rw[ZO (Ne.symm q),ZO l,ZO (Ne.symm q)];exact ZP
 ·rw[ZO (Ne.symm r)];exact ZP
inductive Zr(jg:aj)(g:je)(H:Hp)(Q:VK)(_:XK):Prop
 |mk(S d c:aj)(n:Nat)(a:List (ZR×V))(e:je)(i:Int)(b:V)(_:g=[.ref S,.int i])(_:Y9 jg H S d c n a e)(_:YI a (.inl i)=some b)(_:Q b H)
def HJ:ZA zEa zEa (Ze Mo):=Z4
def Dk(F:Zn K "twig_of" "Shelf.twig_of" Mo f fd)(L:Yj K mg jg jh):ZK P w K mg kf Zc 1 f fd zEa (Zr jg):=by
 refine F.ko HJ λl A a s H x Q E o h=>?_;let⟨S,d,u,n,q,v,i,b,rfl,⟨⟨c,e⟩,m,t⟩,p,k⟩:=h;let j:=WV o;intro r;exists _,ZN (Zy (Ur (Jo j (pv 1) (WO (pv 0) rfl))) WW Z0) (ZV (Zq (Xp j (WO (pv 0) rfl) (pv 1))));let g:Zg H d (.int i) (some b):=p ▸ Zg.k (k:=Sum.inl i) m;refine⟨_,Z,_,Z,S,jg,c,_,.ref d,Z,e,L.cS,L.nk,Z,d,some b,Z,g,_,Z,Zj ?_⟩;exact⟨_,Z,S,jg,c,_,.ref d,Z,e,L.cS,L.nk,Z,_,Z,d,b,Z,g,k⟩
structure Ug(P:al)(w:ar)(K:zZ)(mg:jb)(kf:aC)(k:Nat)(C:aj)(ps:js)(sp:Sp):Prop where
 ex:∃ f fd,Mk K C f/\ZK P w K mg kf Zc k f fd ps sp/\Z5 K fd ps []
structure Nw(jg jh:aj)(H:Hp)(S d lk:aj)(n:Nat)(kvs:List (ZR×V))(ls:je)(i:Int)(x:aj)(th tg:V)(ab:aj)(ho:Nat)(us:je):Prop where
 sh:Y9 jg H S d lk n kvs ls
 val:YI kvs (.inl i)=some (.ref x)
 tw:We jh H x th tg ab ho us
inductive VE(jg jh:aj)(res:V->Nat->je->V)(l:je)(H:Hp)(Q:VK)(_:XK):Prop
 |mk(S d h:aj)(n:Nat)(a:List (ZR×V))(j:je)(i:Int)(x:aj)(k c:V)(g:aj)(b:Nat)(e:je)(_:l=[.ref S,.int i])(_:Nw jg jh H S d h n a j i x k c g b e)(_:Q (res c b e) H)
def De:ZA zEa zEa (Ze KG):=Z4
def Cm(F:Zn K "outside" "Shelf.outside" KG f fd)(L:Yj K mg jg jh)(e:ZI P w K mg kf Zc 1 jg "twig_of" zEa (Zr jg)):ZK P w K mg kf Zc 2 f fd zEa (VE jg jh λ_ a _=>.int a):=by
 refine F.ko De λg A c s H B Q E o h=>?_;let⟨S,d,q,n,b,r,i,x,y,v,u,a,z,rfl,R,k⟩:=h;intro t;exists _,ZV (Zq (WO (Yp (E:=E0) (pv 0) L.cS e o Yv (ZX (pv 1))) rfl));let⟨l,m⟩:=R.sh.self;let⟨j,p⟩:=R.tw.self;exact⟨_,Z,S,l,_,Z,m,Z,_,Z,S,d,q,n,b,r,i,.ref x,Z,R.sh,R.val,x,jh,j,_,.int a,Z,p,L.cT,L.nho,Z,k⟩
def HX:ZA zEa zEa (Ze M0):=Z4
def Ap(F:Zn K "label" "Shelf.label" M0 f fd)(L:Yj K mg jg jh)(e:ZI P w K mg kf Zc 1 jg "twig_of" zEa (Zr jg)):ZK P w K mg kf Zc 2 f fd zEa (VE jg jh λc _ _=>c):=by
 refine F.ko HX λg A b s H B Q E o h=>?_;let⟨S,d,q,n,a,r,i,x,y,c,u,v,z,rfl,R,k⟩:=h;intro t;exists _,ZV (Zq (WO (Yp (E:=E0) (pv 0) L.cS e o Yv (ZX (pv 1))) rfl));let⟨l,m⟩:=R.sh.self;let⟨j,p⟩:=R.tw.self;exact⟨_,Z,S,l,_,Z,m,Z,_,Z,S,d,q,n,a,r,i,.ref x,Z,R.sh,R.val,x,jh,j,_,c,Z,p,L.cT,L.ntg,Z,k⟩
def Wx:ZA zFa zEa (Ze Kr):=Z4
def ZH4(F:Zn K "holders" "Shelf.holders" Kr f fd)(T:YZ mg)(L:Yj K mg jg jh)(m:ZI P w K mg kf Zc 1 jg "twig_of" zEa (Zr jg)):ZK P w K mg kf Zc 2 f fd zEa (VE jg jh λ_ a e=>.int ((e.length:Nat)+(a:Nat):Int)):=by
 refine F.ko Wx λo A c s H C Q E r h=>?_;let⟨S,d,t,n,b,u,i,x,B,z,g,a,e,rfl,R,k⟩:=h;let v:=Wx.nd;intro y;exists _,ZN (Zo 2 v (Yp (E:=E0) (pv 0) L.cS m r Yv (ZX (pv 1)))) (ZV (Zq (Zu Xm (Zp X9 rfl T.len Xa (ZX (WO (pv 2) rfl))) (WO (pv 2) rfl))));let⟨p,q⟩:=R.sh.self;let⟨j,l⟩:=R.tw.self;exists _,Z,S,p,_,Z,q,Z,_,Z,S,d,t,n,b,u,i,.ref x,Z,R.sh,R.val;exact⟨_,Z,x,jh,j,_,.ref g,Z,l,L.cT,L.nab,Z,g,e,Z,.inl (ZF.of R.tw.above),_,Z,x,jh,j,_,.int a,Z,l,L.cT,L.nho,Z,_,_,Z,Z,k⟩
inductive VP(jh:aj)(g:je)(H:Hp)(Q:VK)(_:XK):Prop
 |mk(x:aj)(d:V)(a b:aj)(c:Nat)(e:je)(h:Int)(i:je)(_:g=[.ref x])(_:We jh H x d (.ref a) b c e)(_:H a=some (.tup (.int h::i)))(_:Q (.bl (decide (h > 0))) H)
def ZOd:ZA ["twig"] ["twig"] (Ze IH):=Z4
def Ci(F:Zn K "is_stem" "is_stem" IH f fd)(T:YZ mg)(L:Yj K mg jg jh):ZK P w K mg kf Zc 1 f fd ["twig"] (VP jh):=by
 refine F.ko ZOd λc A a s H u Q E p h=>?_;let⟨x,r,b,n,o,t,e,y,rfl,W,g,k⟩:=h;let⟨q,l⟩:=T.height;let⟨d,i⟩:=W.self;intro m;exists _,ZV (Zq (VT Qq (Zi K (WO (pv 0) rfl) (WN (v:=.int 0) rfl l ⟨_,rfl⟩)) ZM (Z3 _)));exact⟨_,Z,x,jh,d,_,.ref b,Z,i,L.cT,L.ntg,Z,.inr (.inl ⟨b,_,_,.int e,rfl,rfl,Za.of g,Xd (j:=0) rfl,_,_,rfl,rfl,k⟩)⟩
inductive Qd(jg jh:aj)(s:je)(H:Hp)(Q:VK)(_:XK):Prop
 |mk(S d c:aj)(n:Nat)(e:List (ZR×V))(j:je)(i:Int)(x k m l:aj)(r:Nat)(q p u:je)(h:Int)(_:s=[.ref S,.int i])(_:Nw jg jh H S d c n e j i x (.ref k) (.ref m) l r q)(_:H k=some (.lst p))(_:H m=some (.tup (.int h::u)))(_:c≠k)(_:c≠l)(_:j.length<=900)(_:∀(a:Hp)(g t:aj),(∀ b o,b≠c->H b=some o->a b=some o)->a c=some (.lst (j++[.int i]))->H g=none->a g=some (.lst p)->a t=some (.tup [.str (if h > 0 then "stem" else "leaf"),.ref g])->Q (.ref t) a)
def QW:ZA zFa zEa (Ze KL):=Z4
def ZNg(F:Zn K "look" "Shelf.look" KL f fd)(T:YZ mg)(L:Yj K mg jg jh)(DT:ZI P w K mg kf Zc 1 jg "twig_of" zEa (Zr jg))(DS:ZC P w K mg kf 1 "is_stem" ["twig"] (VP jh)):ZK P w K mg kf Zc 2 f fd zEa (Qd jg jh):=by
 refine F.ko QW λa4 A a1 s H vs Q E hr h=>?_;let⟨S,d,j,n,W,p,i,x,J,tg,ab,ho,as,M,xs,U,rfl,R,V,C,Y,X,a3,k⟩:=h;let nd:=QW.nd;intro Xc;refine⟨_,ZN (Zo 2 nd (Yp (E:=E0) (pv 0) L.cS DT hr Yv (ZX (pv 1))))
  (ZN (Xu (Vn yJ xV xU V1 (WO (pv 0) rfl) (ZX (pv 1))))
  (ZN (Zy (Yk (Zk DS hr (ZX (pv 2)))) (ZV (Zq (Ym (Zd Yn (Wt PU rfl T.list Up (ZX (WO (pv 2) rfl))))))) Z0)
  (ZV (Zq (Ym (Zd Yn (Wt PU rfl T.list Up (ZX (WO (pv 2) rfl))))))))),?_⟩
 let⟨dx,hS⟩:=R.sh.self;let⟨O,hx⟩:=R.tw.self;exists _,Z,S,dx,_,Z,hS,Z,_,Z,S,d,j,n,W,p,i,.ref x,Z,R.sh,R.val;let l:=R.sh.looks;exists _,Z,S,jg,dx,_,.ref j,Z,hS,L.cS,L.nl,Z,.inl ⟨Z,_,ZF.of l⟩,_,Z,j,p,.int i,Z,Z,l,YO ∅
 let G:∀ b o,b≠j->H b=some o->upd H j (.lst (p++[.int i])) b=some o:=λb o n e=>by rw[ZO n];exact e
 let a2:x≠j:=ZD hx l;let I:tg≠j:=ZD C l;let q:=G _ _ a2 hx;let D:=G _ _ I C;let u:=G _ _ (Ne.symm X) R.tw.above;let m:=G _ _ (Ne.symm Y) V;let v:upd H j (.lst (p++[.int i])) j=some (.lst (p++[.int i])):=ZP;let r:∀(w:Str)(c t:aj),upd H j (.lst (p++[.int i])) c=none->upd (upd H j (.lst (p++[.int i]))) c (.lst M) t=none->w=(if U > 0 then ("stem" : Str) else "leaf")->Q (.ref t) (upd (upd (upd H j (.lst (p++[.int i]))) c (.lst M)) t (.tup [.str w,.ref c])):=λw c t a B ew=>by
  let g1:=Zb a (.lst M);let g2:=Zb B (.tup [.str w,.ref c]);let g:=g1.trans g2;let a0:H c=none:=by
   cases z:H c with
   | none=>rfl
   | some o=>
    have:c≠j:=λy=>by rw[y,ZP] at a;cases a
    rw[ZO this,z] at a;cases a
  refine k _ c t (λb o n e=>g _ _ (G b o n e)) (g _ _ v) a0 (g2 _ _ ZP) ?_;rw[ZP,ew]
 exists _,Z,x,.ref J,tg,ab,ho,as,U,xs,Z,⟨⟨O,q⟩,u⟩,D,_,Z;by_cases N:U > 0
 ·rw[aK N];refine Z6 ⟨_,Z,x,jh,O,_,.ref J,Z,q,L.cT,L.nth,Z,J,M,Z,.inl (ZF.of m),λc a=>⟨YA,λt B=>?_⟩⟩;exact r _ c t a B (by rw[aO N])
 ·rw[aJ N];refine Zj ⟨_,Z,x,jh,O,_,.ref J,Z,q,L.cT,L.nth,Z,J,M,Z,.inl (ZF.of m),λc a=>⟨YA,λt B=>?_⟩⟩;exact r _ c t a B (by rw[aM N])
inductive UD(jg:aj)(e:je)(H:Hp)(Q:VK)(_:XK):Prop
 |mk(S d b:aj)(n:Nat)(a:List (ZR×V))(c:je)(_:e=[.ref S])(_:Y9 jg H S d b n a c)(_:Q (.int a.length) H)
def B1:ZA zEq zEq (Ze Kw):=Z4
def Dg(F:Zn K "many" "Shelf.many" Kw f fd)(T:YZ mg)(L:Yj K mg jg jh):ZK P w K mg kf Zc 1 f fd zEq (UD jg):=by
 refine F.ko B1 λc A b s H o Q E j h=>?_;let⟨S,d,l,n,a,m,rfl,R,k⟩:=h;let⟨e,g⟩:=R.self;intro i;exists _,ZV (Zq (Zp K9 rfl T.len Xa (ZX (WO (pv 0) rfl))));exact⟨_,Z,S,jg,e,_,.ref d,Z,g,L.cS,L.nk,Z,d,a,Z,R.kept,k⟩
inductive Xf(jg:aj)(g:je)(H:Hp)(Q:VK)(_:XK):Prop
 |mk(S d c:aj)(n:Nat)(a:List (ZR×V))(e:je)(b:jw)(_:g=[.ref S])(_:Y9 jg H S d c n a e)(_:a.map (·.1)=b.map Sum.inl)(_:b.Pairwise (· <= ·))(_:b.length<64)(_:∀ p,H p=none->Q (.ref p) (upd H p (.lst (b.map V.int))))
def Di:ZA zEq zEq (Ze JB):=Z4
def ZH8(F:Zn K "numbers" "Shelf.numbers" JB f fd)(T:YZ mg)(L:Yj K mg jg jh):ZK P w K mg kf Zc 1 f fd zEq (Xf jg):=by
 refine F.ko Di λc A b s H t Q E p h=>?_;let⟨S,d,q,n,a,r,m,rfl,R,g,i,j,k⟩:=h;let⟨e,l⟩:=R.self;intro o;exists _,ZV (Zq (Zp (Qa rfl) rfl T.sorted Uk (ZX (WO (pv 0) rfl))));exact⟨_,Z,S,jg,e,_,.ref d,Z,l,L.cS,L.nk,Z,d,a,m,Z,R.kept,g,i,j,k⟩
structure XN(P:al)(w:ar)(K:zZ)(mg:jb)(kf:aC)(nm:Str)(C:aj):Prop where
 ex:∃ fI fd,YC K C fI "number" /\ ZK P w K mg kf Zc 1 fI fd zEa (NB K C fI "number")/\Z5 K fd zEa []
 at_:mg nm=some (.ref C)
 ty:yB K (.ref C)=some (.type "type")
def IL{X:Cx}{E:XK}{g:Str}{C:aj}{e:Expr}{d:jz}{t:TA}{p a j:aI}(F:VW X E)(N:XN X.prog X.w X.K X.mg X.base g C)(n:ZZ 2 X.A)(k:PA X (e::d) t)(m:Gl X g)(h:(g==("__debug__" : Str))=false:=by decide)(l:aq (e::d) X.env=(false,aG e X.env)::aq d X.env:=by rfl)(i:(aE a (aq d X.env)).any (·.1)=false:=by rfl):PS X (.Raise (some (.Call (.Name g p) (e::d) [] a)) none j) (Fe C "number" E t):=by
 let⟨o,fd,c,G,b⟩:=N.ex;exact E6 F c N.ty G n m N.at_ b k h l i
def Vy(C:aj)(x:Int)(E:XK)(H:Hp):Prop:=∀ b a,ZB H a->a b=some (.xd [("number",.int x)])->E (.ref C) (some b) a
def Vy.go{C:aj}{x:Int}{E:XK}{H b:Hp}(r:Vy C x E H)(s:ZB H b){a:aj}(h:b a=none):E (.ref C) (some a) (upd b a (.xd [("number",.int x)])):=r a _ (s.trans (Zb h _)) ZP
def Vy.mono{C:aj}{x:Int}{E:XK}{H a:Hp}(r:Vy C x E H)(s:ZB H a):Vy C x E a:=λc b d e=>r c b (s.trans d) e
inductive Xg(jg c:aj)(h:je)(H:Hp)(Q:VK)(E:XK):Prop
 |mk(S d e:aj)(n:Nat)(a:List (ZR×V))(g:je)(x:Int)(_:h=[.ref S,.int x])(_:Y9 jg H S d e n a g)(_:∀ b,YI a (.inl x)=some b->Q b H)(_:YI a (.inl x)=none->Vy c x E H)
def BQ{m:aj}(F:Zn K "twig_of" "Shelf.twig_of" Mo f fd)(L:Yj K mg jg jh)(N:XN P w K mg kf "NoTwig" m):ZK P w K mg kf (YL P w) 3 f fd zEa (Xg jg m):=by
 refine F.okD HJ (λv H Q E h=>(by let⟨_,_,_,_,_,_,_,rfl,_⟩:=h;rfl)) (λr A l s H v Q E p h=>?_)
 let⟨S,d,C,n,j,D,x,rfl,⟨⟨e,g⟩,o,B⟩,t,u⟩:=h;let q:=WV p;intro y;exists _,ZN (Zy (Ur (Jo q (pv 1) (WO (pv 0) rfl))) (ZV (IL VU N p (ZX (pv 1)) rfl)) Z0) (ZV (Zq (Xp q (WO (pv 0) rfl) (pv 1))))
 cases b:YI j (.inl x) with
 | none=>
  let a:Zg H d (.int x) none:=b ▸ Zg.k (k:=Sum.inl x) o;refine⟨_,Z,_,Z,S,jg,e,_,.ref d,Z,g,L.cS,L.nk,Z,d,none,Z,a,_,Z,Z6 ?_⟩;exact⟨_,Z,_,Z,λz i=>(u b).go (ZB.refl H) i⟩
 | some c=>
  let a:Zg H d (.int x) (some c):=b ▸ Zg.k (k:=Sum.inl x) o;refine⟨_,Z,_,Z,S,jg,e,_,.ref d,Z,g,L.cS,L.nk,Z,d,some c,Z,a,_,Z,Zj ?_⟩;exact⟨_,Z,S,jg,e,_,.ref d,Z,g,L.cS,L.nk,Z,_,Z,d,c,Z,a,t c b⟩
inductive Vk(jg jh g:aj)(o:je)(H:Hp)(Q:VK)(E:XK):Prop
 |mk(S d j:aj)(n:Nat)(b:List (ZR×V))(k:je)(x:Int)(_:o=[.ref S,.int x])(_:Y9 jg H S d j n b k)(_:∀ e,YI b (.inl x)=some e->∃(a:aj)(l c:V)(h:aj)(i:Nat)(m:je),e=.ref a/\We jh H a l c h i m/\Q c H)(_:YI b (.inl x)=none->Vy g x E H)
def AM{e:aj}(F:Zn K "label" "Shelf.label" M0 f fd)(L:Yj K mg jg jh)(g:ZI P w K mg kf (YL P w) 3 jg "twig_of" zEa (Xg jg e)):ZK P w K mg kf (YL P w) 4 f fd zEa (Vk jg jh e):=by
 refine F.okD HX (λB H Q E h=>(by let⟨_,_,_,_,_,_,_,rfl,_⟩:=h;rfl)) (λi A c s H B Q E m h=>?_)
 let⟨S,d,u,n,b,v,x,rfl,R,r,t⟩:=h;intro C;exists _,ZV (Zq (WO (Yp (E:=E) (pv 0) L.cS g m (Uw VU λ_ _ _ h=>h) (ZX (pv 1))) rfl));let⟨k,l⟩:=R.self;refine⟨_,Z,S,k,_,Z,l,Z,_,Z,S,d,u,n,b,v,x,Z,R,λz o=>?_,t⟩;let⟨a,I,y,D,G,J,rfl,W,q⟩:=r z o;let⟨j,p⟩:=W.self;exact⟨a,jh,j,_,y,Z,p,L.cT,L.ntg,Z,q⟩
structure XS(P:al)(w:ar)(K:zZ)(mg:jb)(kf:aC)(CS:aj):Prop where
 stem:mg "NoStem" = some (.ref CS)
 exk:vM K CS Q7 "ValueError.__new__" = true
 kp:yT K (.ref CS)=true
 mB:yY K CS (.type "BaseException")=some true
 ty:yB K (.ref CS)=some (.type "type")
def ZNk{H:Hp}{L:YW}{u:V}(h:ZG H L.kt u):Z9 H L u:=by
 unfold YW.kt at h;rw[ZG] at h;let⟨a,q,rfl,e,b⟩:=h;rw[jU] at b;let⟨o,k,rfl,c,b⟩:=b;rw[jU] at b;let⟨i,l,rfl,f,b⟩:=b;rw[jU] at b;let⟨j,m,rfl,g,b⟩:=b;rw[jU] at b;let⟨p,n,rfl,d,b⟩:=b;rw[jU] at b;subst b;rw[ZG] at c d;subst c d;exact⟨a,i,j,Z,e,f,g⟩
structure YE where
 x:aj
 th:aj
 tg:aj
 ab:aj
abbrev jx:=List YE
def YE.d:YE:=⟨0,0,0,0⟩
structure Ob(jh:aj)(H:Hp)(ts:jr)(av:Nat->jp)(ho:Nat->Nat)(i:Nat)(a:YE):Prop where
 tw:We jh H a.x (.ref a.th) (.ref a.tg) a.ab (ho i) (iN (av i))
 things:∃ us,H a.th=some (.lst us)/\((gd ts i).h=0->jU H (Y2 (gd ts i).rows) us)/\((gd ts i).h≠0->us=iN (gd ts i).bs)
 tag:Z9 H (YK (gd ts i)) (.ref a.tg)
def Ob.same{b:aj}{H c:Hp}{f:jr}{d:Nat->jp}{e:Nat->Nat}{i:Nat}{a:YE}(h:Ob b H f d e i a)(s:ZB H c):Ob b c f d e i a:=by
 let⟨l,g,j,k⟩:=h.things;exact⟨h.tw.same s,⟨l,s _ _ g,λz=>(j z).sm s,k⟩,h.tag.mono (ZB.tups s)⟩
structure YF(jg jh:aj)(H:Hp)(S d lk:aj)(ts:jr)(lv:jp)(av:Nat->jp)(ho:Nat->Nat)(as:jx)(kvs:List (ZR×V))(ls:je):Prop where
 sh:Y9 jg H S d lk ts.length kvs ls
 keys:kvs.map (·.1)=lv.map (λi:Nat=>(Sum.inl (i:Int):ZR))
 val:∀ i:Nat,i∈lv->YI kvs (Sum.inl (i:Int))=some (.ref (as.getD i .d).x)
 lt:∀ i:Nat,i∈lv->i<ts.length
 len:as.length=ts.length
 tw:∀ i:Nat,i∈lv->Ob jh H ts av ho i (as.getD i .d)
 own:∀ i:Nat,i∈lv->(as.getD i .d).x≠S/\(as.getD i .d).ab≠lk/\(as.getD i .d).th≠lk/\(as.getD i .d).ab≠(as.getD i .d).th
 two:∀ i j:Nat,i∈lv->j∈lv->i≠j->(as.getD i .d).x≠(as.getD j .d).x/\(as.getD i .d).ab≠(as.getD j .d).ab/\(as.getD i .d).ab≠(as.getD j .d).th/\(as.getD i .d).th≠(as.getD j .d).th
def YF.same{a b:aj}{H e:Hp}{S d k:aj}{n:jr}{m:jp}{g:Nat->jp}{j:Nat->Nat}{f:jx}{c:List (ZR×V)}{l:je}(h:YF a b H S d k n m g j f c l)(s:ZB H e):YF a b e S d k n m g j f c l:=
 ⟨h.sh.same s,h.keys,h.val,h.lt,h.len,λi o=>(h.tw i o).same s,h.own,h.two⟩
def Ob.frame{b:aj}{H H':Hp}{e:jr}{c:Nat->jp}{d:Nat->Nat}{i:Nat}{a:YE}(h:Ob b H e c d i a)(m:YR H H')(q:∀ o,H a.x=some o->H' a.x=some o)(p:∀ o,H a.th=some o->H' a.th=some o)(n:∀ o,H a.ab=some o->H' a.ab=some o):Ob b H' e c d i a:=by
 let⟨r,g,j,k⟩:=h.things;let⟨f,l⟩:=h.tw.self;exact⟨⟨⟨f,q _ l⟩,n _ h.tw.above⟩,⟨r,p _ g,λz=>(j z).mono m _ _,k⟩,h.tag.mono m⟩
def YF.none{b c:aj}{H:Hp}{S d o:aj}{q:jr}{f:jp}{j:Nat->jp}{n:Nat->Nat}{g:jx}{a:List (ZR×V)}{p:je}(h:YF b c H S d o q f j n g a p){x:Int}(e:YX f x=false):YI a (Sum.inl x)=tV:=by
 cases z:YI a (Sum.inl x) with
 | none=>rfl
 | some v=>
  have:=Nu z;rw[h.keys] at this;let⟨i,m,l⟩:=zJ.mp this;let k:=Sum.inl.inj l;unfold YX at e;refine absurd ⟨∅,?_⟩ (of_decide_eq_false e)
  rw[<-k];exact m
def LJ{a:jp}{x:Int}(h:YX a x=true):∃ i:Nat,x=(i:Int)/\i∈a:=by
 unfold YX at h;have:=of_decide_eq_true h;exact⟨x.toNat,∅,this.2⟩
def Cz(F:Zn K "label_over" "label_over" IN f fd)(a3:K.In kf)(T:YZ mg)(L:XS P w K mg kf CS)(DS:ZC P w K mg kf 8 "stand_side_by_side" zE4 QD):ZK P w K mg kf (YL P w) 9 f fd zFc (X6 CS):=by
 refine F.kD QI λc4 A a8 s H vs Q E hr h=>?_;let⟨l,q,r,rfl,hl,hk,hf,a9,k⟩:=h;let nd:=QI.nd;let a2:=hk.1;let⟨tf,mf⟩:=T.few;let⟨tm,mm⟩:=T.most;let⟨t0,m0⟩:=T.height;let⟨t1,m1⟩:=T.least;let⟨t2,m2⟩:=T.greatest;let⟨t3,m3⟩:=T.many;intro Xc;refine⟨_,ZN (Zy (XT (JJ Qu Qu (WN (v:=.int 2) rfl mf ⟨_,rfl⟩) (Zp X9 rfl T.len Xa (ZX (pv 0))) (WN (v:=.int 4) rfl mm ⟨_,rfl⟩))) (ZV (Mf VU (LQ a3 L.stem L.exk) L.kp L.mB L.ty rfl)) Z0)
  (ZN (WU OZ rfl (LF rfl T.range (Zd ZM (Zp X9 rfl T.len Xa (ZX (pv 0))))) (Ye 1 nd)
   (ZV (Zy (XT (Yk (Zk DS hr (Zd (Zi K (pv 0) (Zu QP (pv 1) ZM)) (Zi K (pv 0) (pv 1)))))) (ZV (Mf VU (LQ a3 L.stem L.exk) L.kp L.mB L.ty rfl)) Z0)))
  (ZN (Zo 2 nd (Zp (ZPI rfl) rfl T.sum Bx (ZX (Um [] [] rfl (Xh (pv 0)) (λ_ _ _ _ _=>V4) (λ_ _ _ _ _=>Zi K (pv 0) (WN (v:=.int 3) Z m3 ⟨_,Z⟩)) trivial))))
  (ZV (Zq (Ym (Pm (Zu Xm (Zi K (Zi K (pv 0) ZM) (WN (v:=.int 0) rfl m0 ⟨_,rfl⟩)) ZM)
   (Zi K (Zi K (pv 0) ZM) (WN (v:=.int 1) rfl m1 ⟨_,rfl⟩))
   (Zi K (Zi K (pv 0) (Pn Pr ZM)) (WN (v:=.int 2) rfl m2 ⟨_,rfl⟩))
   (pv 2))))))),?_⟩
 let S:∀(X:Hp)(i:Nat),ZB H X->i<q.length->∃(a:aj)(I G:V),q[i]? = some (.ref a)/\X a=some (.tup [.int (r.getD i .d).h,I,G,.int (r.getD i .d).m])/\ZG X (r.getD i .d).lo I/\ZG X (r.getD i .d).hi G:=λX i s' M=>by
  let hu:q[i]? = some q[i]:=zV M;let⟨a,I,G,e,e1,k1,k2⟩:=(hk.2 i _ hu).mono (ZB.tups s');exact⟨a,I,G,by rw[hu,e],e1,k1,k2⟩
 exists _,Z,l,q,Z,.inl (ZF.of hl),_,_,Z,Z,_,Z;rcases yH q.length 2 with h2 | h2
 ·rw[aJ (show ¬ (2:Int)<=(q.length:Int) from nofun)]
  refine Zj ⟨_,Z,Z6 ?_⟩;exact(k H (ZB.refl H)).1 (Hi nofun)
 rw[aK (show (2:Int)<=(q.length:Int) from nofun)]
 refine Z6 ⟨_,_,Z,Z,_,Z,?_⟩;rcases yH 4 q.length with h4 | h4
 ·rw[aJ (show ¬ (q.length:Int)<=4 from nofun)]
  refine Z6 ?_;exact(k H (ZB.refl H)).1 (Hi nofun)
 rw[aK (show (q.length:Int)<=4 from nofun)]
 refine Zj ?_;exists _,Z,l,q,Z,.inl (ZF.of hl),1,(q.length:Int),Z,⟨nofun,nofun,nofun,nofun⟩
 refine Ps (lo:=1) (n:=((q.length:Int)-1).toNat) (λi σ Y=>∃ x:jf,σ=[some (.ref l),x,none]/\ZB H Y/\∀ j,j<i->Qm (r.getD j .d) (r.getD (j+1) .d)=true) ⟨_,Z,ZB.refl H,λj hj=>absurd hj nofun⟩ ?_ ?_
 ·rintro i σ Y M ⟨x,rfl,B,O⟩;let a4:i+1<q.length:=nofun
  let ua:q[i]? = some (q[i]'nofun):=zV nofun
  let ub:q[i+1]? = some q[i+1]:=zV a4;let e1:(1:Int)+(i:Int)=((i+1:Nat):Int):=nofun
  let e0:(1:Int)+(i:Int)-1=((i:Nat):Int):=nofun
  let t:=B _ _ hl;refine⟨_,Z,_,Z,_,_,Z,Z,.inl ⟨l,q,_,_,Z,Z,ZF.of t,(by rw[e0];exact Xd ua),?_⟩⟩
  refine⟨_,Z,_,Z,.inl ⟨l,q,_,_,Z,Z,ZF.of t,(by rw[e1];exact Xd ub),?_⟩⟩
  refine⟨_,_,r.getD i .d,r.getD (i+1) .d,Z,(hk.2 i _ ua).mono (ZB.tups B),(hk.2 (i+1) _ ub).mono (ZB.tups B),hf i,hf (i+1),λu U=>⟨_,Z,?_⟩⟩
  cases hc:Qm (r.getD i .d) (r.getD (i+1) .d) with
  | true=>
   refine Zj ⟨_,Z,B.trans U,λj hj=>?_⟩;rcases yH j i with c1 | c1
   ·exact O j c1
   ·have:j=i:=nofun
    rw[this];exact hc
  | false=>exact Z6 ((k u (B.trans U)).1 (As nofun hc))
 rintro σ Y ⟨x,rfl,B,O⟩;let ho:=ZLF (ls:=r) nofun nofun λj hj=>O j nofun
 let t:=B _ _ hl;exists _,Z,l,Z,⟨q,ZF.of t⟩;refine Vv (n:=q.length) (λi z=>q[i]? = some z) (λD i W u=>ZB Y u/\Y D=none/\W=((r.map YW.m).take i).map V.int) (YO nofun)
  (λD i W u M y=>⟨q,q[i],ZF.of (y.1 _ _ t),by simp[M]⟩) (λD i W u z H4 M y hy=>⟨hy.1,hy.2 q (ZF.of (y.1 _ _ t))⟩) (λD W u y=>⟨q,ZF.of (y.1 _ _ t),zY _⟩)
  (λD hD=>⟨Zb hD _,hD,Z⟩) (λD i W u z eD c6 M hz y R hR=>?_) (λD W u eD y=>?_)
 ·let⟨U,nD,rfl⟩:=y;let⟨a,c2,c0,ua,ea,c7,c8⟩:=S u i (B.trans U) M;rw[ua] at hz;cases hz;refine⟨_,Z,.inr (.inl ⟨a,_,_,.int (r.getD i .d).m,rfl,rfl,Za.of ea,rfl,?_⟩)⟩;refine hR _ u eD ⟨λb o e=>by rw[ZO (ZW e nD)];exact U b o e,nD,?_⟩
  let eg:(r.map YW.m)[i]? = some (r.getD i .d).m:=by
   rw[zM,zS,zV (show i<r.length from nofun)]
   rfl
  rw[yM,eg,yO];rfl
 ·let⟨U,nD,rfl⟩:=y;rw[yQ (by rw[zX];lia (splits:=8))] at eD
  exists D,r.map YW.m,Z,ZF.of eD;let C:=B.trans U;let N:=C _ _ hl;let⟨c,a1,c5,uc,ec,a7,e2⟩:=S u 0 C nofun
  let⟨b,c3,a0,ub,eb,c9,a6⟩:=S u (q.length-1) C nofun
  let J:Xt q (-1)=some (.ref b):=by
   let e:q=q.dropLast++[.ref b]:=by
    let a5:q≠[]:=λz=>by rw[z] at h2;simp at h2
    let hg:q.getLast a5=.ref b:=by
     rw[rN];have:=(yS.mp ub).2;exact this
    rw[<-hg,qP]
   rw[e];exact KP _ _
  refine⟨_,Z,.inl ⟨l,q,_,.ref c,Z,Z,ZF.of N,Xd (j:=0) uc,.inr (.inl ⟨c,_,_,.int (r.getD 0 .d).h,rfl,rfl,Za.of ec,rfl,_,_,rfl,rfl,?_⟩)⟩⟩;refine⟨_,Z,.inl ⟨l,q,_,.ref c,Z,Z,ZF.of N,Xd (j:=0) uc,.inr (.inl ⟨c,_,_,a1,rfl,rfl,Za.of ec,rfl,?_⟩)⟩⟩;refine⟨_,Z,1,Z,.inl ⟨l,q,_,.ref b,Z,Z,ZF.of N,J,.inr (.inl ⟨b,_,_,a0,rfl,rfl,Za.of eb,rfl,?_⟩)⟩⟩;exists _,Z,YA;intro p hp;let g:=Zb hp (.tup [.int ((r.getD 0 .d).h+1),a1,a0,.int (r.map YW.m).sum]);refine(k _ (C.trans g)).2 _ _ ho ?_;rw[<-a2];exact .tup ZP (.cons (.int _) (.cons (a7.sm g) (.cons (a6.sm g) (.cons (.int _) .nil))))
abbrev KO:Stmt:=Xo (top 36) 19
inductive XF(jg jh CT:aj)(p:je)(H:Hp)(Q:VK)(E:XK):Prop
 |mk(S d n l:aj)(h:jr)(g:jp)(k:Nat->jp)(m:Nat->Nat)(j:jx)(e:List (ZR×V))(o:je)(c:jw)(_:p=[.ref S,.ref l])(_:YF jg jh H S d n h g k m j e o)(_:H l=some (.lst (c.map V.int)))(_:c.length<=100)(_:∀ x,c.find? (λx=>!YX g x)=some x->Vy CT x E H)(_:∀ bs:jp,c=bs.map (λb:Nat=>(b:Int))->(∀ b∈bs,b∈g)->∀(D:aj)(i:je)(a:Hp),ZB H a->H D=none->a D=some (.lst i)->Yb a (Z7 h bs) i->Q (.ref D) a)
def ZH7:ZA zEj zEj (Ze KO):=Z4
def ZGI(F:Zn K "labels_of" "Shelf.labels_of" KO f fd)(L:Yj K mg jg jh)(DL:ZI P w K mg kf (YL P w) 4 jg "label" zEa (Vk jg jh CT)):ZK P w K mg kf (YL P w) 5 f fd zEj (XF jg jh CT):=by
 refine F.kD ZH7 λa1 A Y s H vs Q E hr h=>?_;let⟨S,d,lk,l,B,q,av,ho,as,X,ls,j,rfl,R,I,a0,k1,k2⟩:=h;intro Xc;exists _,ZV (Zq (Cl (E1:=E) [0] zEq VU (λ_ _ _ h=>h) (Xh (pv 1)) (λ_ _ _ _ _=>V4) (λ_ _ _ _ _ hp=>Yp (E:=E) (pv 1) L.cS DL hr hp (ZX (pv 0))) ⟨rfl,.inl rfl,rfl,trivial⟩));exists _,Z,l,Z,⟨_,ZF.of I⟩;refine Vv (n:=j.length) (λi z=>(j.map V.int)[i]? = some z) (λD i r g=>ZB H g/\H D=none/\(j.take i).find? (λx=>!YX q x)=none/\Yb g (Z7 B ((j.take i).map wY)) r) (YO ∅)
  (λD i r g U k=>⟨_,.int j[i],ZF.of (k.1 _ _ I),by simp[U]⟩) (λD i r g z H4 U k o=>⟨o.1,o.2 _ (ZF.of (k.1 _ _ I))⟩) (λD r g k=>⟨_,ZF.of (k.1 _ _ I),by simp⟩)
  (λD hD=>⟨Zb hD _,hD,Z,Z,λi u e=>by simp at e⟩) (λD i r g z C a2 U hz k RR T=>?_) (λD us g C k=>?_)
 ·let⟨v,N,J,G⟩:=k;rw[zM] at hz;let⟨x,ex,rfl⟩:=yK.mp hz;let⟨f1,f2⟩:=No J ex;let O:=R.same v;let⟨dx,hS⟩:=O.sh.self;refine⟨_,Z,S,dx,_,Z,hS,Z,_,Z,S,d,lk,B.length,X,ls,x,Z,O.sh,λtw p=>?_,λp=>?_⟩
  ·let M:YX q x=true:=by
    cases c:YX q x with
    | true=>rfl
    | false=>rw[R.none c] at p;cases p
   let⟨m,rfl,a⟩:=LJ M;rw[R.val m a] at p;cases p;let W:=O.tw m a;exists _,_,_,_,_,_,Z,W.tw;refine T _ g C ⟨UO v N,N,f2 (by rw[M];rfl),?_⟩
   let tD:YR g (upd g D (.lst (r++[.ref (as.getD m .d).tg]))):=λb xs e=>by rw[ZO (ZD e C)];exact e
   rw[yM,ex];let e2:Z7 B ((j.take i++(some ((m:Nat):Int)).toList).map wY)=Z7 B ((j.take i).map wY)++[YK (gd B m)]:=by unfold Z7;simp
   rw[e2];exact(G.snoc W.tag).mono tD
  ·let M:YX q x=false:=by
    cases c:YX q x with
    | false=>rfl
    | true=>
     let⟨m,rfl,a⟩:=LJ c;rw[R.val m a] at p;cases p
   exact(k1 x (f1 (by rw[M];rfl))).mono v
 ·let⟨v,N,J,G⟩:=k;rw[yQ (zY _)] at J G;let t:∀ y∈j,YX q y=true:=λy o=>by
   have:=vT.mp J y o;simpa using this
  refine k2 (j.map wY) ?_ (λb hb=>?_) D us g v N C G
  ·rw[zO]
   conv=>lhs;rw[<-List.map_id j]
   refine uD λy o=>?_;let⟨m,rfl,_⟩:=LJ (t y o);simp
  ·let⟨y,o,rfl⟩:=zJ.mp hb;let⟨m,rfl,a⟩:=LJ (t y o);simpa using a
def MZ(a:Nat->jp)(b c:Nat):Nat->jp:=λi=>if i=b then a i++[c] else a i
def P2(a:Nat->Nat)(b:Nat):Nat->Nat:=λi=>if i=b then a i-1 else a i
def YF.touch{n h:aj}{H p:Hp}{S d I:aj}{K:jr}{C:jp}{j:Nat->jp}{l:Nat->Nat}{f:jx}{s:List (ZR×V)}{J:je}(R:YF n h H S d I K C j l f s J){b t:Nat}(q:b∈C)(W:∃ M,p (f.getD b .d).x=some (.ins h M (VC (.ref (f.getD b .d).th) (.ref (f.getD b .d).tg) (f.getD b .d).ab (l b-1))))(U:p (f.getD b .d).ab=some (.lst (iN (j b++[t]))))(k:∀ c o,c≠(f.getD b .d).x->c≠(f.getD b .d).ab->H c=some o->p c=some o):YF n h p S d I K C (MZ j b t) (P2 l b) f s J:=by
 let⟨⟨L,E⟩,B,F⟩:=R.sh;let u:=R.tw b q;let⟨N,a⟩:=u.tw.self;let g:=u.tw.above;let⟨us,D,P,Q⟩:=u.things;let m:YR H p:=λc xs e=>k c _ (ZD e a) (ZD e g) e;refine⟨⟨⟨L,k _ _ (R.own b q).1.symm (ZD E g) E⟩,k _ _ (ZD B a) (ZD B g) B,k _ _ (ZD F a) (R.own b q).2.1.symm F⟩,R.keys,R.val,R.lt,R.len,λi w=>?_,R.own,R.two⟩;by_cases z:i=b
 ·subst z;let y:MZ j i t i=j i++[t]:=aO Z;let A:P2 l i i=l i-1:=aO Z;refine⟨⟨?_,?_⟩,⟨us,k _ _ (ZD D a) (R.own i w).2.2.2.symm D,λz=>(P z).mono m _ _,Q⟩,u.tag.mono m⟩
  ·rw[A];exact W
  ·rw[y];exact U
 ·let y:MZ j b t i=j i:=aM z;let A:P2 l b i=l i:=aM z;let v:=R.tw i w;let⟨Y,t2,t3,t4⟩:=R.two i b w q z;let⟨s1,s2,X,s4⟩:=R.two b i q w (Ne.symm z);let⟨O,r⟩:=v.tw.self;let⟨vs,T,_⟩:=v.things;let G:=v.frame m (λo e=>k _ _ Y (by have:=r.symm.trans e;exact ZD r g) e) (λo e=>k _ _ (ZD T a) X.symm e) (λo e=>k _ _ (ZD v.tw.above a) t2 e)
  refine⟨?_,G.things,G.tag⟩;rw[y,A];exact G.tw
abbrev JS:Stmt:=Xo (top 36) 20
inductive Yu(jg jh CH:aj)(n:je)(H:Hp)(Q:VK)(E:XK):Prop
 |mk(S d j l:aj)(m:jr)(g:jp)(i:Nat->jp)(a:Nat->Nat)(h:jx)(c:List (ZR×V))(k:je)(bs:jp)(_:n=[.ref S,.ref l])(_:YF jg jh H S d j m g i a h c k)(_:H l=some (.lst (iN bs)))(_:∀ b∈bs,b∈g)(_:∀ b,bs.find? (λb=>decide (a b=0))=some b->Vy CH (b:Nat) E H)(_:bs.find? (λb=>decide (a b=0))=none->∀ e,ZB H e->Q .non e)
def Xq:ZA ["self","numbers","number"] zEj (Ze JS):=Z4
def Be(F:Zn K "check_held" "Shelf.check_held" JS f fd)(L:Yj K mg jg jh)(N:XN P w K mg kf "NotHeld" CH)(y:ZI P w K mg kf Zc 2 jg "outside" zEa (VE jg jh λ_ g _=>.int g)):ZK P w K mg kf (YL P w) 3 f fd zEj (Yu jg jh CH):=by
 refine F.kD Xq λz A q s H vs Q E v h=>?_;let⟨S,d,U,l,Y,lv,av,g,as,p,W,bs,rfl,R,t,M,O,T⟩:=h;let X:=Xq.nd;intro Xc;refine⟨_,ZV (WU OZ rfl (Xh (pv 1)) (Ye 2 X)
  (ZV (Zy (YJ WT (Yp (E:=E0) (pv 0) L.cS y v Yv (ZX (pv 2))) ZM (Z3 _)) (ZV (IL VU N v (ZX (pv 2)) rfl)) Z0))),?_⟩
 refine⟨_,Z,l,Z,⟨_,ZF.of t⟩,Ui (K:=K) (a:=l) (xs:=iN bs) (λi n k=>∃ x:jf,n=[some (.ref S),some (.ref l),x]/\k=H/\(bs.take i).find? (λb=>decide (g b=0))=none) ⟨_,Z,Z,Z⟩ (λi n k _ I=>by let⟨_,_,rfl,_⟩:=I;exact ZF.of t) ?_ ?_⟩
 ·rintro i u n k e ⟨x,rfl,rfl,m⟩;unfold iN at e;rw[zM] at e;let⟨b,r,rfl⟩:=yK.mp e;let j:=M b (zC r);let⟨D,G⟩:=No m r;let⟨B,J⟩:=R.sh.self;exists _,Z,S,B,_,Z,J,Z,_,Z,S,d,U,Y.length,p,W,(b:Int),_,_,_,_,_,_,Z,⟨R.sh,R.val b j,(R.tw b j).tw⟩;exists Z,_,Z;let C:decide (V.int (g b:Nat)=V.int 0)=decide (g b=0):=by
   rw[xB];simp
  rw[C]
  cases c:decide (g b=0) with
  | true=>exact Z6 ⟨_,Z,_,Z,λdd o=>(O b (D c)).go (ZB.refl _) o⟩
  | false=>exact Zj ⟨_,Z,Z,G c⟩
 ·rintro n k ⟨x,rfl,rfl,m⟩;rw[show (iN bs).length=bs.length from zX _,yQ (zY _)] at m;exact T m _ (ZB.refl _)
def Wr(bs:jp)(b:Nat)(a:Nat->jp):Nat->jp:=λi=>if i∈bs then a i++[b] else a i
def Yi(bs:jp)(a:Nat->Nat):Nat->Nat:=λi=>if i∈bs then a i-1 else a i
def DJ{bs:jp}{b a:Nat}{c:Nat->jp}(h:b∉bs):MZ (Wr bs a c) b a=Wr (bs++[b]) a c:=by
 funext i
 unfold MZ Wr;by_cases z:i=b
 ·subst z;rw[aO rfl,aM h,aO (by simp)]
 ·rw[aM z];by_cases y:i∈bs
  ·rw[aO y,aO (by simp[y])]
  ·rw[aM y,aM (by simp[y,z])]
def GV{bs:jp}{b:Nat}{a:Nat->Nat}(h:b∉bs):P2 (Yi bs a) b=Yi (bs++[b]) a:=by
 funext i
 unfold P2 Yi;by_cases z:i=b
 ·subst z;rw[aO rfl,aM h,aO (by simp)]
 ·rw[aM z];by_cases y:i∈bs
  ·rw[aO y,aO (by simp[y])]
  ·rw[aM y,aM (by simp[y,z])]
abbrev Jr:Stmt:=Xo (top 36) 21
inductive Y8(jg jh:aj)(q:je)(H:Hp)(Q:VK)(_:XK):Prop
 |mk(S d k l:aj)(p:jr)(g:jp)(i:Nat->jp)(j:Nat->Nat)(a:jx)(e:List (ZR×V))(m:je)(bs:jp)(n:Nat)(_:q=[.ref S,.int n,.ref l])(_:YF jg jh H S d k p g i j a e m)(_:H l=some (.lst (iN bs)))(_:bs.Nodup)(_:∀ b∈bs,b∈g/\1<=j b/\(i b).length<=900)(_:∀ b:Nat,b∈g->l≠(a.getD b .d).ab)(_:∀ h:Hp,(∀ c o,(∀ b:Nat,b∈g->c≠(a.getD b .d).x/\c≠(a.getD b .d).ab)->H c=some o->h c=some o)->(∀ c,h c=none->H c=none)->YF jg jh h S d k p g (Wr bs n i) (Yi bs j) a e m->Q .non h)
abbrev HI:js:=["self","stem","branches","branch","twig"]
def WL:ZA HI zEn (Ze Jr):=Z4
def BR(F:Zn K "take_over" "Shelf.take_over" Jr f fd)(L:Yj K mg jg jh)(DT:ZI P w K mg kf Zc 1 jg "twig_of" zEa (Zr jg)):ZK P w K mg kf Zc 2 f fd zEn (Y8 jg jh):=by
 refine F.ko WL λa2 A a1 s H vs Q E hr h=>?_;let⟨S,d,lk,l,ts,lv,v,j,g,T,ls,bs,W,rfl,R,hl,N,Y,a0,k⟩:=h;let nd:=WL.nd;intro Xc;refine⟨_,ZV (WU PassesOwn.never rfl (Xh (pv 2)) (Ye 3 nd)
  (ZN (Zo 4 nd (Yp (E:=E0) (pv 0) L.cS DT hr Yv (ZX (pv 3))))
  (ZN (Kd (pv 4) ZM ZO8)
  (ZV (Xu (Vn yJ xV xU V1 (WO (pv 4) rfl) (ZX (pv 1)))))))),?_⟩
 refine⟨_,Z,l,Z,⟨_,ZF.of hl⟩,Ui (K:=K) (a:=l) (xs:=iN bs) (λi σ m=>∃ x y:jf,σ=[some (.ref S),some (.int W),some (.ref l),x,y]/\(∀ c o,(∀ b:Nat,b∈lv->c≠(g.getD b .d).x/\c≠(g.getD b .d).ab)->H c=some o->m c=some o)/\(∀ c,m c=none->H c=none)/\YF jg jh m S d lk ts lv (Wr (bs.take i) W v) (Yi (bs.take i) j) g T ls)
  ⟨_,_,Z,λc o _ e=>e,λc e=>e,(by
   let e1:Wr [] W v=v:=funext λi=>aM (by simp)
   let e2:Yi [] j=j:=funext λi=>aM (by simp)
   rw[show bs.take 0=[] from rfl,e1,e2];exact R)⟩ ?_ ?_ ?_⟩
 ·rintro i σ m _ ⟨x,y,rfl,O,_,R2⟩;refine ZF.of (O _ _ (λb Y=>⟨?_,a0 b Y⟩) hl);let⟨dx,I⟩:=(R.tw b Y).tw.self;exact ZD hl I
 ·rintro i u σ m C ⟨x,y,rfl,O,k3,R2⟩;unfold iN at C;rw[zM] at C;let⟨b,eb,rfl⟩:=yK.mp C;let⟨r,a3,a4⟩:=Y b (zC eb);let t:b∉bs.take i:=λz=>by
   let hs:bs=bs.take i++b::bs.drop (i+1):=by
    let hi:=(yS.mp eb);let⟨hi,e⟩:=hi;rw[<-e,<-wQ hi,vP]
   rw[hs,vV] at N;exact N.2.2 b z b (by simp) Z
  let M:Yi (bs.take i) j b=j b:=aM t;let J:Wr (bs.take i) W v b=v b:=aM t;let⟨dS,hS⟩:=R2.sh.self;let Wb:=R2.tw b r;let⟨q,I⟩:=Wb.tw.self;let B:=Wb.tw.above;rw[M] at I;rw[J] at B;exists _,Z,S,dS,_,Z,hS,Z,_,Z,S,d,lk,ts.length,T,ls,(b:Int),.ref (g.getD b .d).x,Z,R2.sh,R2.val b r;exists _,Z,(g.getD b .d).x,jh,q,_,.int (j b:Nat),Z,I,L.cT,L.nho,Z,_,_,Z,Z,q,_,I,yR Z;let eh:((j b:Nat):Int)-1=((j b-1:Nat):Int):=∅
  let D:upd m (g.getD b .d).x (.ins jh q (Yq "holds" (.int (((j b:Nat):Int)-1)) (VC (.ref (g.getD b .d).th) (.ref (g.getD b .d).tg) (g.getD b .d).ab (j b)))) (g.getD b .d).x=some (.ins jh q (VC (.ref (g.getD b .d).th) (.ref (g.getD b .d).tg) (g.getD b .d).ab (j b-1))):=by rw[ZP,eh];rfl
  let X:(g.getD b .d).ab≠(g.getD b .d).x:=ZD B I;let p:upd m (g.getD b .d).x (.ins jh q (Yq "holds" (.int (((j b:Nat):Int)-1)) (VC (.ref (g.getD b .d).th) (.ref (g.getD b .d).tg) (g.getD b .d).ab (j b)))) (g.getD b .d).ab=some (.lst (iN (v b))):=by rw[ZO X];exact B
  let G:∀ c o,c≠(g.getD b .d).x->m c=some o->upd m (g.getD b .d).x (.ins jh q (Yq "holds" (.int (((j b:Nat):Int)-1)) (VC (.ref (g.getD b .d).th) (.ref (g.getD b .d).tg) (g.getD b .d).ab (j b)))) c=some o:=λc o n e=>by rw[ZO n];exact e
  let U:∀ c,upd m (g.getD b .d).x (.ins jh q (Yq "holds" (.int (((j b:Nat):Int)-1)) (VC (.ref (g.getD b .d).th) (.ref (g.getD b .d).tg) (g.getD b .d).ab (j b)))) c=none->m c=none:=λc e=>by
   by_cases z:c=(g.getD b .d).x
   ·rw[z,ZP] at e;cases e
   ·rw[ZO z] at e;exact e
  generalize upd m (g.getD b .d).x (.ins jh q (Yq "holds" (.int (((j b:Nat):Int)-1)) (VC (.ref (g.getD b .d).th) (.ref (g.getD b .d).tg) (g.getD b .d).ab (j b))))=H3 at D p G U⊢;exists _,Z,(g.getD b .d).x,jh,q,_,.ref (g.getD b .d).ab,Z,D,L.cT,L.nab,Z,.inl ⟨Z,_,ZF.of p⟩,_,Z,(g.getD b .d).ab,_,.int W,Z,Z,p,YO (by rw[show (iN (v b)).length=(v b).length from zX _];lia)
  let et:bs.take (i+1)=bs.take i++[b]:=by rw[yM,eb];rfl
  exists _,_,Z,λc o hc e=>?_,λc e=>?_
  ·let⟨n1,n2⟩:=hc b r;rw[ZO n2];exact G _ _ n1 (O c o hc e)
  ·by_cases z:c=(g.getD b .d).ab
   ·rw[z,ZP] at e;cases e
   ·rw[ZO z] at e;exact k3 c (U c e)
  ·rw[et,<-DJ t,<-GV t];refine R2.touch r ⟨q,?_⟩ ?_ λc o n1 n2 e=>?_
   ·rw[ZO (Ne.symm X),M];exact D
   ·rw[ZP,J];simp[iN]
   ·rw[ZO n2];exact G _ _ n1 e
 ·rintro σ m ⟨x,y,rfl,O,k3,R2⟩;rw[show (iN bs).length=bs.length from zX _,yQ (zY _)] at R2;exact k m O k3 R2
def B8{X:Cx}{k:Nat}{C:aj}{x:Str}{o:js}{h:Sp}{e:Expr}{a:jz}{t:TA}{p c:aI}(D:Ug X.prog X.w X.K X.mg X.base k C o h)(n:ZZ (k+1) X.A)(l:Gl X x)(m:X.mg x=some (.ref C))(i:PA X (e::a) t)(d:(x==("__debug__" : Str))=false:=by decide)(j:aq (e::a) X.env=(false,aG e X.env)::aq a X.env:=by rfl)(g:(aE c (aq a X.env)).any (·.1)=false:=by rfl):
  PE X (.Call (.Name x p) (e::a) [] c) (LH C h [] E0 t):=by
 let⟨f,q,M,F,b⟩:=D.ex;exact AS M F n l m b .nil Yv i d j g
def Ct{X:Cx}{k:Nat}{C:aj}{x:Str}{i:js}{d:Sp}{p c:aI}(D:Ug X.prog X.w X.K X.mg X.base k C i d)(h:ZZ (k+1) X.A)(e:Gl X x)(g:X.mg x=some (.ref C))(a:(x==("__debug__" : Str))=false:=by decide):PE X (.Call (.Name x p) [] [] c) (LH C d [] E0 Vp):=by
 let⟨f,j,M,F,b⟩:=D.ex;exact C7 M F h e g b .nil Yv a
def WQ(n:Nat)(a:Nat->jp):Nat->jp:=λi=>if i=n then [] else a i
def XW(n:Nat)(a:Nat->Nat):Nat->Nat:=λi=>if i=n then 1 else a i
def Pf{a:jr}{t:ZL}{i:Nat}(h:i<a.length):gd (a++[t]) i=gd a i:=by
 unfold gd;rw[zS,wP h,<-zS]
def Pq{a:jr}{t:ZL}:gd (a++[t]) a.length=t:=by
 unfold gd;rw[zS,wO (zY _)];simp
def Kj{b:jx}{a:YE}{i:Nat}(h:i<b.length):(b++[a]).getD i .d=b.getD i .d:=by
 rw[zS,wP h,<-zS]
def KZ{b:jx}{a:YE}:(b++[a]).getD b.length .d=a:=by
 rw[zS,wO (zY _)];simp
def Gf{u l:aj}{H H':Hp}{S d M:aj}{f:jr}{D:jp}{B:Nat->jp}{L:Nat->Nat}{n:jx}{q:List (ZR×V)}{Y:je}(R:YF u l H S d M f D B L n q Y){t:ZL}{x th tg ab:aj}(O:∀ b o,b≠S->b≠d->H b=some o->H' b=some o)(nx:H x=none)(s:H th=none)(r:H ab=none)(I:ab≠th)(R':Y9 u H' S d M (f.length+1) (Zs q (.inl (f.length:Int)) (.ref x)) Y)(W:We l H' x (.ref th) (.ref tg) ab 1 [])(X:∃ k,H' th=some (.lst k)/\(t.h=0->jU H' (Y2 t.rows) k)/\(t.h≠0->k=iN t.bs))(U:Z9 H' (YK t) (.ref tg)):
  YF u l H' S d M (f++[t]) (D++[f.length]) (WQ f.length B) (XW f.length L) (n++[⟨x,th,tg,ab⟩]) (Zs q (.inl (f.length:Int)) (.ref x)) Y:=by
 let⟨⟨dS,P⟩,Q,hl⟩:=R.sh;let m:YR H H':=λc xs e=>O c _ (ZD e P) (ZD e Q) e;let en:(f++[t]).length=f.length+1:=by simp
 let nv:YI q (Sum.inl (f.length:Int))=none:=R.none (by unfold YX;exact aJ λz=>by have:=R.lt _ z.2;lia)
 let a:∀ i,i∈D++[f.length]->i∈D\/i=f.length:=λi g=>by simpa using g
 let el:n.length=f.length:=R.len;let A:∀ i,i∈D->(n++[(⟨x,th,tg,ab⟩:YE)]).getD i .d=n.getD i .d:=λi g=>Kj (by have:=R.lt i g;lia)
 let E:(n++[(⟨x,th,tg,ab⟩:YE)]).getD f.length .d=⟨x,th,tg,ab⟩:=by rw[<-el];exact KZ
 let y:∀ i,i∈D->∃ C k o,H (n.getD i .d).x=some (.ins l C k)/\H (n.getD i .d).th=some (.lst o)/\H (n.getD i .d).ab=some (.lst (iN (B i))):=λi g=>by
  let⟨C,v⟩:=(R.tw i g).tw.self;let⟨k,p,_⟩:=(R.tw i g).things;exact⟨C,_,k,v,p,(R.tw i g).tw.above⟩
 let nS:x≠S:=(ZW P nx).symm;let F:ab≠M:=(ZW hl r).symm;let N:th≠M:=(ZW hl s).symm;refine⟨by rw[en];exact R',?_,λi g=>?_,λi g=>?_,by simp[el],λi g=>?_,λi g=>?_,λi j g hj K=>?_⟩
 ·rw[J0 _ nv,yO,R.keys,yO];rfl
 ·rw[Uq];rcases a i g with c | rfl
  ·let T:=R.lt i c;rw[aM (λz=>by have:=Sum.inl.inj z;lia),A i c]
   exact R.val i c
  ·rw[aO rfl,E]
 ·rw[en];rcases a i g with c | rfl
  ·exact vW (R.lt i c)
  ·exact xT _
 ·rcases a i g with c | rfl
  ·let Wi:=R.tw i c;let⟨C,k,o,v,p,w⟩:=y i c;let T:=R.lt i c;let ni:i≠f.length:=∅
   let G:=Wi.frame m (λo' e=>O _ _ (R.own i c).1 (ZD v Q) e) (λo' e=>O _ _ (ZD p P) (ZD p Q) e) (λo' e=>O _ _ (ZD w P) (ZD w Q) e);rw[A i c];exists ?_,?_
   ·rw[show WQ f.length B i=B i from aM ni,show XW f.length L i=L i from aM ni];exact G.tw
   ·rw[Pf T];exact G.things
   ·rw[Pf T];exact G.tag
  ·rw[E];exists ?_,?_
   ·rw[show WQ f.length B f.length=[] from aO rfl,show XW f.length L f.length=1 from aO rfl];exact W
   ·rw[Pq];exact X
   ·rw[Pq];exact U
 ·rcases a i g with c | rfl
  ·rw[A i c];exact R.own i c
  ·rw[E];exact⟨nS,F,N,I⟩
 ·rcases a i g with c | rfl
  ·rw[A i c];rcases a j hj with J | rfl
   ·rw[A j J];exact R.two i j c J K
   ·rw[E];let⟨C,k,o,v,p,w⟩:=y i c;exact⟨ZW v nx,ZW w r,ZW w s,ZW p s⟩
  ·rw[E];rcases a j hj with J | rfl
   ·rw[A j J];let⟨C,k,o,v,p,w⟩:=y j J;exact⟨(ZW v nx).symm,(ZW w r).symm,(ZW p r).symm,(ZW p s).symm⟩
   ·exact absurd Z K
inductive XY(jg jh:aj)(k:je)(H:Hp)(Q:VK)(_:XK):Prop
 |mk(S d g:aj)(n:Nat)(a:List (ZR×V))(h:je)(j i:V)(_:k=[.ref S,j,i])(_:Y9 jg H S d g n a h)(_:a.length<=900)(_:∀(c:Hp)(x e:aj),H x=none->H e=none->(∀ b o,b≠S->b≠d->H b=some o->c b=some o)->Y9 jg c S d g (n+1) (Zs a (.inl (n:Int)) (.ref x)) h->We jh c x j i e 1 []->Q (.int (n:Int)) c)
def Wu:ZA ["self","things","label","number"] zEz (Ze JH):=Z4
def ZHv(F:Zn K "put_twig" "Shelf.put_twig" JH f fd)(L:Yj K mg jg jh)(DM:Ug P w K mg kf 1 jh zEx (Qn jh)):ZK P w K mg kf Zc 3 f fd zEz (XY jg jh):=by
 refine F.ko Wu λa1 A Y s H vs Q E hr h=>?_;let⟨S,d,c,n,T,ls,th,tg,rfl,R,a0,k⟩:=h;let nd:=Wu.nd;let hu:=WV hr;intro Xc;refine⟨_,ZN (Zo 3 nd (WO (pv 0) rfl)) (ZN (QV (pv 0) (Zu Xm (pv 3) ZM) rfl)
  (ZN (Uu hu (WO (pv 0) rfl) (pv 3) (B8 DM hr rfl L.twig (Zd (pv 1) (pv 2))) rfl) (ZV (Zq (pv 3))))),?_⟩
 let⟨⟨a,y⟩,J,M⟩:=R;let Sd:S≠d:=ZD y J;let Sl:S≠c:=ZD y M;let dl:d≠c:=ZD J M;exists _,Z,S,jg,a,_,.int n,Z,y,L.cS,L.nf,Z;exists _,Z,_,_,Z,Z,_,Z,S,jg,a,_,Z,y,L.cS,L.nf,yR Z;let l:upd H S (.ins jg a (Yq "following" (.int ((n:Int)+1)) (Q1 d c n))) S=some (.ins jg a (Q1 d c (n+1))):=ZP;let q:upd H S (.ins jg a (Yq "following" (.int ((n:Int)+1)) (Q1 d c n))) d=some (.dK T):=by rw[ZO (Ne.symm Sd)];exact J
 let r:upd H S (.ins jg a (Yq "following" (.int ((n:Int)+1)) (Q1 d c n))) c=some (.lst ls):=by rw[ZO (Ne.symm Sl)];exact M
 let u:∀ b o,b≠S->H b=some o->upd H S (.ins jg a (Yq "following" (.int ((n:Int)+1)) (Q1 d c n))) b=some o:=λb o n e=>by rw[ZO n];exact e
 let j:∀ b,upd H S (.ins jg a (Yq "following" (.int ((n:Int)+1)) (Q1 d c n))) b=none->H b=none:=λb e=>by
  by_cases z:b=S
  ·rw[z,ZP] at e;cases e
  ·rw[ZO z] at e;exact e
 generalize upd H S (.ins jg a (Yq "following" (.int ((n:Int)+1)) (Q1 d c n)))=B at l q r u j⊢;exists _,Z,_,Z;intro x G nx V ne;let g1:=Zb V (.own x);let X:upd B G (.own x) x=none:=by rw[ZO (Ne.symm ne)];exact nx
 let g2:=Zb X (.ins jh G []);let g:=g1.trans g2;refine⟨x,G,th,tg,Z,ZP,λH2 C O U W=>⟨Z,?_⟩⟩;let v:∀ b o,B b=some o->H2 b=some o:=λb o e=>O b o (ZW e nx) (g b o e);let m:=v _ _ l;let i:=v _ _ q;let N:=v _ _ r;let p:B C=none:=g.free U;let⟨I,t⟩:=W.self;let xd:x≠d:=ZD t i;let D:C≠d:=ZD W.above i;exists _,Z,S,jg,a,_,.ref d,Z,m,L.cS,L.nk,Z,_,Z,d,_,Z,Y3.k (k:=Sum.inl (n:Int)) i (YO ∅)
 refine⟨_,Z,k _ x C (j _ nx) (j _ p) (λb o n1 n2 e=>?_) ⟨⟨a,?_⟩,ZP,?_⟩ ⟨⟨I,?_⟩,?_⟩⟩
 ·rw[ZO n2];exact v b o (u b o n1 e)
 ·rw[ZO Sd];exact m
 ·rw[ZO (Ne.symm dl)];exact N
 ·rw[ZO xd];exact t
 ·rw[ZO D];exact W.above
end Tw
namespace Tw
open PySem PySem.Spec L2
variable{jg jh CS CT CH CK CP CB:aj}
def ZPr:ZA zFd zFd (Ze K2):=Z4
def Bw(F:Zn K "has_few_figures" "has_few_figures" K2 f fd)(T:YZ mg):ZK P w K mg kf Zc 1 f fd zFd UW:=by
 refine F.ok ZPr (λc H Q E h=>?_) (λb A a s H c Q E g h=>?_)
 ·let⟨i,rfl,_⟩:=h;rfl
 let⟨i,rfl,q⟩:=h;intro d;exists _,ZV (Zq (VT P1 (Zp Ky rfl T.abs Ks (Zh (pv 0) Zt)) (Zu G5 ZM ZM) (Z3 _)));exists _,Z,_,Z,_,_,Z,Z,⟨by decide,by decide,by decide⟩,_,_,Z,Z
 let e:=AV i;rw[<-e] at q;exact q
def E7:ZA ["sign"] ["sign"] (Ze K8):=Z4
def ZNe(F:Zn K "is_sign" "is_sign" K8 f fd):ZK P w K mg kf Zc 1 f fd ["sign"] VL:=by
 refine F.ok E7 (λk H Q E h=>?_) (λi A d s H k Q E m h=>?_)
 ·let⟨c,rfl,_⟩:=h;rfl
 let⟨c,rfl,q⟩:=h;intro l;exists _,ZV (Zq (ZK8 Fv Fv Yn (pv 0) Yn));let g:(wX " ").cps.toList=[32]:=by decide +kernel
 let j:(wX "~").cps.toList=[126]:=by decide +kernel
 let e:=Ce c;exists _,Z,_,_,Z,Z,_,Z;refine Xj (λb=>?_) (λb=>?_)
 ·exists _,_,Z,Z;let a:(!decide ([c]<[32]))=true:=by rw[<-g];exact b
  rw[a,uV] at e;rw[<-e,<-j] at q;exact q
 ·let a:(!decide ([c]<[32]))=false:=by rw[<-g];exact uM.mpr b
  rw[a,uT] at e;rw[<-e] at q;exact q
def Ag:ZA zEw zEw (Ze Lm):=Z4
def ZJV{k:Nat}:ZK P w K mg kf Zc k f fd zEw (Xi 0):=by
 let c:∀ a H Q E,¬ Xi 0 a H Q E:=λa H Q E h=>by
  let⟨v,t,r,q,_,_,_,d,_⟩:=h
  lia
 exact⟨λa H Q E h=>absurd h (c a H Q E),λA b s H args e a Q E _ _ _ _ h=>absurd h (c a H Q E)⟩
def ZMd{n:Nat}(F:Zn K "fits" "fits" Lm f fd)(T:YZ mg)(DW:ZC P w K mg kf 1 "has_few_figures" zFd UW)(DS:ZC P w K mg kf 1 "is_sign" ["sign"] VL)(DF:ZC P w K mg kf (n+1) "fits" zEw (Xi n)):ZK P w K mg kf Zc (n+2) f fd zEw (Xi (n+1)):=by
 refine F.ok Ag (λp H Q E h=>?_) (λa3 A a2 s H p Q E hr h=>?_)
 ·let⟨v,t,r,q,rfl,_⟩:=h;rfl
 let⟨v,t,r,q,rfl,g,hq,hn,k⟩:=h;let W:=hr.mono (show 1<=n+1 by lia)
 let⟨t1,m1⟩:=T.signs;let⟨t2,m2⟩:=T.things;intro Xc;refine⟨_,ZN (Zy (Yk (Zp Xx rfl T.isi XG (Zh (pv 0) (Zh (Xw (v:=.ty "bool") rfl T.bool NS rfl) Zt)))) (ZV (Zq Uf)) Z0)
  (ZN (Zy (Yk (Zp Xx rfl T.isi XG (Zh (pv 0) (Zh (Xw (v:=.ty "int") rfl T.int U8 rfl) Zt)))) (ZV (Zq (Zk DW W (Zh (pv 0) Zt)))) Z0)
  (ZN (Zy (Yk (Zp Xx rfl T.isi XG (Zh (pv 0) (Zh (Xw (v:=.ty "str") rfl T.str Nh rfl) Zt))))
   (ZV (Zq (Q0 (VT Qu (Zp ZFj rfl T.len Xa (Zh (pv 0) Zt)) (WN (v:=.int 40) rfl m1 ⟨_,rfl⟩) (Z3 _))
    (OH (Zp (Mw rfl) rfl T.all LK (Zh (Um [] [] rfl (ZOa (pv 0)) (λ_ _ _ _ _=>V4) (λ_ _ _ _ _=>Zk DS W (Zh (pv 0) Zt)) trivial) Zt)))))) Z0)
  (ZN (Zy (Yk (Zp Xx rfl T.isi XG (Zh (pv 0) (Zh (Xw (v:=.ty "tuple") rfl T.tuple Qr rfl) Zt))))
   (ZV (Zq (Q0 (VT Qq (pv 1) ZM (Z3 _)) (Q0 (VT Qu (Zp X9 rfl T.len Xa (Zh (pv 0) Zt)) (WN (v:=.int 4) rfl m2 ⟨_,rfl⟩) (Z3 _))
    (OH (Zp (Mw rfl) rfl T.all LK (Zh (Um [1] ["room"] rfl (KM (pv 0)) (λ_ _ _ _ _=>V4) (λ_ _ _ _ _=>Zk DF hr (Zh (pv 0) (Zh (Zu QP (pv 1) ZM) Zt))) ⟨rfl,.inl rfl,rfl,trivial⟩) Zt))))))) Z0)
  (ZV (Zq Uf))))),?_⟩
 cases t with
 | int i=>
  let ev:v=.int i:=by rw[ZG] at g;exact g
  subst ev;refine⟨_,Z,_,_,_,_,Z,g.ty,MW,_,Z,Zj ?_⟩;refine⟨_,Z,_,_,_,_,Z,g.ty,OC,_,Z,Z6 ?_⟩;let u:=k H (ZB.refl H);rw[KT.fits] at u;exact⟨_,Z,i,Z,u⟩
 | str x=>
  let ev:v=.str x:=by rw[ZG] at g;exact g
  subst ev;let hx:Oj x=true:=by rw[KT.fits] at hq;exact hq
  let B:=hx;unfold Oj at B;rw[zQ] at B;let O:x.length<=40:=of_decide_eq_true B.1;refine⟨_,Z,_,_,_,_,Z,g.ty,ZOU,_,Z,Zj ?_⟩;refine⟨_,Z,_,_,_,_,Z,g.ty,J8,_,Z,Zj ?_⟩;refine⟨_,Z,_,_,_,_,Z,g.ty,Ni,_,Z,Z6 ?_⟩;exists _,Z,x,Z,nn ∅,_,_,Z,Z,_,Z
  rw[aO (aK (show (x.length:Int)<=40 by lia))]
  exists _,Z,x,Z;let a7:x.cps.size<=40:=O;refine Vv (n:=x.cps.size) (λi z=>∃ c,x.cps[i]? = some c/\z=.str ⟨#[c]⟩) (λD i m d=>ZB H d/\H D=none/\m=((x.cps.toList.take i).map QU).map V.bl) (YO ∅)
   (λD i m d J _=>J) (λD i m d z H4 J _ hy=>hy) (λD m d _=>rfl) (λD N=>⟨Zb N _,N,Z⟩) (λD i m d z G hl J hz j R hR=>?_) (λD m d G j=>?_)
  ·let⟨c,hc,rfl⟩:=hz;let⟨C,L,rfl⟩:=j;exists _,Z,c,Z;refine hR _ d G ⟨λb o e=>by rw[ZO (ZW e L)];exact C b o e,L,?_⟩
   let a0:x.cps.toList[i]? = some c:=by simpa using hc
   rw[yM,a0];simp
  ·let⟨C,L,rfl⟩:=j;exists D,_,Z,ZF.of G;let u:=k d C;rw[KT.fits,hx] at u;let M:(x.cps.toList.take x.cps.size)=x.cps.toList:=yQ (by simp)
   rw[M];let I:(x.cps.toList.map QU).all id=true:=by rw[wF];exact B.2
   rw[I];exact u
 | tup l=>
  let X:=g;rw[ZG] at X;let⟨a,p,rfl,I,Y⟩:=X;let hl:=Y.length;rw[KT.fits,zQ,zQ] at hq;let⟨a6,S,U⟩:=hq;let a5:l.length<=4:=of_decide_eq_true S;refine⟨_,Z,_,_,_,_,Z,g.ty,Ep,_,Z,Zj ?_⟩;refine⟨_,Z,_,_,_,_,Z,g.ty,Jp,_,Z,Zj ?_⟩;refine⟨_,Z,_,_,_,_,Z,g.ty,Kk,_,Z,Zj ?_⟩;refine⟨_,Z,_,_,_,_,Z,g.ty,Mx,_,Z,Z6 ?_⟩;exists _,Z,_,_,Z,Z,_,Z;refine Xj (λc1=>?_) (λc1=>?_)
  ·let r0:0<r:=by
    have:=of_decide_eq_true c1
    lia
   exists _,Z,a,p,Z,.inr (Za.of I),_,_,Z,Z,_,Z;rw[aO (aK (show ((p.length:Nat):Int)<=4 by lia))]
   exists _,Z,a,Z,⟨p,Za.of I⟩;refine Vv (n:=p.length) (λi z=>p[i]? = some z) (λD i m d=>ZB H d/\H D=none/\m=((l.take i).map λt=>t.fits (r-1)).map V.bl) (YO ∅)
    (λD i m d J j=>⟨p,p[i],Za.of (j.1 _ _ I),by simp[J]⟩) (λD i m d z H4 J j hy=>⟨hy.1,hy.2 p (Za.of (j.1 _ _ I))⟩) (λD m d j=>⟨p,Za.of (j.1 _ _ I),zY _⟩)
    (λD N=>⟨Zb N _,N,Z⟩) (λD i m d z G a4 J hz j R hR=>?_) (λD m d G j=>?_)
   ·let⟨C,L,rfl⟩:=j;let⟨t,M,kt⟩:=Y.get hz;let er:(r:Int)-1=((r-1:Nat):Int):=∅
    let a1:t.fits (q-1)=true:=by
     rw[N2] at U;exact zF.mp U t (zC M)
    exists _,Z,_,Z,_,_,Z,Z,z,t,r-1,q-1,congrArg (λy=>[z,V.int y]) er,kt.sm C,a1,by lia
    intro H4 s4;refine hR _ H4 (s4 D _ G) ⟨λb o e=>by rw[ZO (ZW e L)];exact s4 b o (C b o e),L,?_⟩
    rw[yM,M];simp
   ·let⟨C,L,rfl⟩:=j;exists D,_,Z,ZF.of G;let u:=k d C;rw[KT.fits,aK r0,uV,S,uV,N2] at u;let M:l.take p.length=l:=yQ ∅
    rw[M,wF];exact u
  ·let r0:r=0:=by
    have:¬ ((0:Int)<(r:Int)):=λz=>c1 (aK z)
    lia
   subst r0;let u:=k H (ZB.refl H);rw[KT.fits] at u;exact u
def AK:ZA zE7 zE7 (Ze JY):=Z4
def ZKg(F:Zn K "is_key" "is_key" JY f fd)(T:YZ mg)(b:ZC P w K mg kf 5 "fits" zEw (Xi 4)):ZK P w K mg kf Zc 6 f fd zE7 UV:=by
 refine F.ok AK (λj H Q E h=>?_) (λc A a s H j Q E e h=>?_)
 ·let⟨v,t,q,rfl,_⟩:=h;rfl
 let⟨v,t,q,rfl,g,d,k⟩:=h;let⟨m,i⟩:=T.deep;intro l;exists _,ZV (Zq (Zk b e (Zh (pv 0) (Zh (WN (v:=.int 3) rfl i ⟨_,rfl⟩) Zt))));exact⟨_,Z,v,t,3,q,Z,g,d,by decide,k⟩
def Ff(T:YZ mg)(L:Zl K mg "fits" Lm zEw)(b:ZC P w K mg kf 1 "has_few_figures" zFd UW)(a:ZC P w K mg kf 1 "is_sign" ["sign"] VL):∀ n:Nat,ZC P w K mg kf (n+1) "fits" zEw (Xi n)
 | 0=>L.of λ_ _ _=>ZJV
 | n+1=>L.of λ_ _ F=>ZMd F T b a (Ff T L b a n)
end Tw
namespace Tw
open PySem PySem.Spec L2 PyProof.Rows
variable{jg jh CS CT CH CK CP CB:aj}
def BF{H:Hp}{b:jI}{c:je}(h:jU H (Y2 b) c):HY H (b.map (·.1)) c:=by
 let j:c.length=b.length:=by have:=h.length;rw[<-this];exact zX _
 exists by rw[zX];exact j
 intro i u e;let⟨a,l,m,g,d,f,k,_⟩:=Nz h e;exists a,l,m,d,f;rw[zS,zM,g];exact k
inductive Pw(b:je)(H:Hp)(Q:VK)(_:XK):Prop
 |mk(v:V)(t:KT)(_:b=[v])(_:ZG H t v)(_:t.fits 3=true)(_:∀ a,ZB H a->Q v a)
def ZJ3:ZA zE7 zE7 (Ze Kl):=Z4
def ZID(F:Zn K "checked" "checked" Kl f fd)(c:ZC P w K mg kf 6 "is_key" zE7 UV):ZK P w K mg kf Zc 7 f fd zE7 Pw:=by
 refine F.ko ZJ3 λe A a s H m Q E g h=>?_;let⟨v,t,rfl,i,b,k⟩:=h;intro l;exists _,ZN (Zy (XT (Yk (Zk c g (ZX (pv 0))))) WW Z0) (ZV (Zq (pv 0)));refine⟨_,Z,v,t,3,Z,i,b,λd j=>⟨_,Z,?_⟩⟩;rw[b];exact Zj ⟨_,Z,k d j⟩
inductive Wp(g:je)(H:Hp)(Q:VK)(_:XK):Prop
 |mk(l:aj)(e:je)(d:jI)(_:g=[.ref l])(_:H l=some (.lst e))(_:jU H (Y2 d) e)(_:∀ r∈d,r.fit)(_:e.length<=100)(_:∀(b:Hp)(c:aj)(a:je),ZB H b->H c=none->b c=some (.lst a)->jU b (Y2 d) a->Q (.ref c) b)
def AG:ZA zE1 zE1 (Ze Ki):=Z4
def BM(F:Zn K "own_rows" "own_rows" Ki f fd)(M:ZC P w K mg kf 7 "checked" zE7 Pw):ZK P w K mg kf Zc 8 f fd zE1 Wp:=by
 refine F.ko AG λa0 A J s H vs Q E W h=>?_;let⟨l,r,rs,rfl,y,V,hf,T,k⟩:=h;let lk:r.length=rs.length:=by have:=V.length;rw[<-this];exact zX _
 intro Xc;refine⟨_,ZV (Zq (Um [] [] rfl (Xh (pv 0)) (λ_ _ _ _ _=>V4)
   (λ_ _ _ _ _=>Ym (Zd (Zk M W (ZX (Zi K (pv 0) ZM))) (Zk M W (ZX (Zi K (pv 0) ZM))))) trivial)),?_⟩
 exists _,Z,l,Z,⟨r,ZF.of y⟩;refine Vv (n:=r.length) (λi z=>r[i]? = some z) (λD i t m=>ZB H m/\H D=none/\jU m (Y2 (rs.take i)) t) (YO ∅)
  (λD i t m I d=>⟨r,r[i],ZF.of (d.1 _ _ y),by simp[I]⟩) (λD i t m z H4 I d X=>⟨X.1,X.2 r (ZF.of (d.1 _ _ y))⟩) (λD t m d=>⟨r,ZF.of (d.1 _ _ y),zY _⟩)
  (λD U=>⟨Zb U _,U,.nil⟩) (λD i t m z G a1 I hz d R hR=>?_) (λD t m G d=>?_)
 ·let⟨p,B,j⟩:=d;let⟨a,v,x,S,rfl,e2,Y,k2⟩:=Nz V hz;let O:=p _ _ e2;let o:=hf _ (zC S);refine⟨_,Z,.inr (.inl ⟨a,_,_,v,rfl,rfl,Za.of O,rfl,v,_,rfl,Y.sm p,o.1,λH4 L=>?_⟩)⟩;refine⟨_,Z,.inr (.inl ⟨a,_,_,x,rfl,rfl,Za.of (L _ _ O),rfl,x,_,rfl,k2.sm (p.trans L),o.2,λN s5=>?_⟩)⟩;exists YA;intro q hq;let g:=Zb hq (.tup [v,x]);let c:=(L.trans s5).trans g;let u:=c _ _ G;let C:YR (upd N q (.tup [v,x])) (upd (upd N q (.tup [v,x])) D (.lst (t++[.ref q]))):=λb xs e=>by rw[ZO (ZD e u)];exact e
  refine hR _ _ u ⟨UO (p.trans c) B,B,?_⟩;rw[yM,S,FF];refine((j.sm c).mono C _ _).append (.cons (.tup (C _ _ ZP) (.cons ?_ (.cons ?_ .nil))) .nil)
  ·exact(Y.sm (p.trans c)).mono C _ _
  ·exact(k2.sm (p.trans c)).mono C _ _
 ·let⟨p,B,j⟩:=d;rw[yQ ∅] at j
  exact k m D t p B G j
inductive UT(g:je)(H:Hp)(Q:VK)(_:XK):Prop
 |mk(l:aj)(d:je)(c:jq)(_:g=[.ref l])(_:H l=some (.lst d))(_:jU H c d)(_:∀ t∈c,t.fits 3=true)(_:d.length<=100)(_:c.Pairwise (λa b=>a.lt b=true))(_:∀ e,ZB H e->Q (.bl true) e)
def By:ZA ["keys"] ["keys"] (Ze IJ):=Z4
def Lq{c:Type}{R:c->c->Prop}:∀{l:List c},l.Pairwise R->∀{i j:Nat}{a b:c},i<j->l[i]? = some a->l[j]? = some b->R a b
 | [],_,_,_,_,_,_,h,_=>by simp at h
 | x::l,hp,0,j+1,a,b,_,ha,hb=>by
  simp at ha hb;subst ha;exact(vH.mp hp).1 b (zC hb)
 | x::l,hp,i+1,j+1,a,b,hij,ha,hb=>by
  simp at ha hb;exact Lq (vH.mp hp).2 ∅ ha hb
def Cw(F:Zn K "rise" "rise" IJ f fd)(T:YZ mg)(S:ZC P w K mg kf 7 "ahead" zE6 Y1):ZK P w K mg kf Zc 8 f fd ["keys"] UT:=by
 refine F.ko By λU A y s H vs Q E hr h=>?_;let⟨l,c,ks,rfl,L,t,J,G,u,k⟩:=h;let lk:=t.length;intro Xc;refine⟨_,ZV (Zq (Zp (Mw rfl) rfl T.all LK (ZX (Um [0] ["keys"] rfl (LF rfl T.range (Zd ZM (Zp X9 rfl T.len Xa (ZX (pv 0))))) (λ_ _ _ _ _=>V4)
  (λ_ _ _ _ _=>Zk S hr (Zd (Zi K (pv 1) (Zu QP (pv 0) ZM)) (Zi K (pv 1) (pv 0)))) ⟨rfl,.inl rfl,rfl,trivial⟩)))),?_⟩
 exists _,Z,l,c,Z,.inl (ZF.of L),1,(c.length:Int),Z,⟨nofun,nofun,nofun,nofun⟩
 refine Vv (n:=((c.length:Int)-1).toNat) (λi x=>x=.int (1+(i:Int))) (λD i j d=>ZB H d/\H D=none/\j=(wM i true).map V.bl) (YO nofun)
  (λD i j d q _=>q) (λD i j d x z q _ hy=>hy) (λD j d _=>zY _) (λD I=>⟨Zb I _,I,Z⟩) (λD i j d x o a0 q hx p R Y=>?_) (λD j d o p=>?_)
 ·subst hx;let⟨g,v,rfl⟩:=p;let r:i+1<c.length:=nofun
  let N:c[i]? = some (c[i]'nofun):=zV nofun
  let O:c[i+1]? = some c[i+1]:=zV r;let X:(1:Int)+(i:Int)=((i+1:Nat):Int):=nofun
  let W:(1:Int)+(i:Int)-1=((i:Nat):Int):=nofun
  let⟨a,B,ka⟩:=t.get N;let⟨b,C,kb⟩:=t.get O;let m:=g _ _ L;refine⟨_,Z,_,Z,_,_,Z,Z,.inl ⟨l,c,_,_,Z,Z,ZF.of m,(by rw[W];exact Xd N),?_⟩⟩
  refine⟨_,Z,_,Z,.inl ⟨l,c,_,_,Z,Z,ZF.of m,(by rw[X];exact Xd O),?_⟩⟩
  exists _,_,a,b,Z,ka.sm g,kb.sm g,J a (zC B),J b (zC C);intro z M;rw[Lq u (xT i) B C];refine Y _ z (M D _ o) ⟨UO (g.trans M) v,v,?_⟩;rw[List.replicate_succ',yO];rfl
 ·let⟨g,v,rfl⟩:=p;exists D,_,Z,ZF.of o;let e:(wM ((c.length:Int)-1).toNat true).all id=true:=by simp
  rw[e];exact k d g
def Mm(c:jI):Prop:=(∀ r∈c,r.fit)/\0<c.length/\c.length<=4/\(c.map (·.1)).Pairwise (λa b=>a.lt b=true)
inductive Vm(g:je)(H:Hp)(Q:VK)(_:XK):Prop
 |mk(l:aj)(e:je)(d:jI)(_:g=[.ref l])(_:H l=some (.lst e))(_:jU H (Y2 d) e)(_:Mm d)(_:∀(b:Hp)(c:aj)(a:je),ZB H b->H c=none->b c=some (.lst a)->jU b (Y2 d) a->Q (.ref c) b)
def Vf:ZA ["rows","own"] zE1 (Ze IA):=Z4
def C8(F:Zn K "checked_rows" "checked_rows" IA f fd)(T:YZ mg)(W:ZC P w K mg kf 8 "own_rows" zE1 Wp)(X:ZC P w K mg kf 8 "rise" ["keys"] UT):ZK P w K mg kf Zc 9 f fd zE1 Vm:=by
 refine F.ko Vf λY A J s H vs Q E S h=>?_;let⟨l,V,y,rfl,hl,O,⟨N,h0,h4,I⟩,k⟩:=h;let nd:=Vf.nd;let lk:V.length=y.length:=by have:=O.length;rw[<-this];exact zX _
 let⟨t4,m4⟩:=T.rows;intro Xc;refine⟨_,ZN (Zo 1 nd (Zk W S (ZX (pv 0))))
  (ZN (Zy (PW.pt (VO (XT (JJ Qu Qu ZM (Zp X9 rfl T.len Xa (ZX (pv 1))) (WN (v:=.int 4) rfl m4 ⟨_,rfl⟩)))
   (Uj (XT (Yk (Zk X S (ZX (Um [] [] rfl (Xh (pv 1)) (λ_ _ _ _ _=>V4) (λ_ _ _ _ _=>Zi K (pv 0) ZM) trivial)))))))) WW Z0)
  (ZV (Zq (pv 1)))),?_⟩
 exists _,Z,l,V,y,Z,hl,O,N,by lia
 intro B D b s3 nD u m;let ly:b.length=y.length:=by have:=m.length;rw[<-this];exact zX _
 exists _,Z,D,b,Z,.inl (ZF.of u),_,_,Z,Z,_,Z;rw[aK (show (1:Int)<=(b.length:Int) by lia)]
 refine Z6 ⟨_,_,Z,Z,_,Z,?_⟩;rw[aK (show (b.length:Int)<=4 by lia)]
 refine Zj ?_;exists _,Z,D,Z,⟨b,ZF.of u⟩;refine Vv (n:=b.length) (λi z=>b[i]? = some z) (λe i q g=>ZB B g/\B e=none/\jU B ((y.map (·.1)).take i) q) (YO ∅)
  (λe i q g C d=>⟨b,b[i],ZF.of (d.1 _ _ u),by simp[C]⟩) (λe i q g z M C d U=>⟨U.1,U.2 b (ZF.of (d.1 _ _ u))⟩) (λe q g d=>⟨b,ZF.of (d.1 _ _ u),zY _⟩)
  (λe x=>⟨Zb x _,x,.nil⟩) (λe i q g z j a0 C hz d R hR=>?_) (λe q g j d=>?_)
 ·let⟨p,o,c⟩:=d;let⟨a,vk,vv,er,rfl,e2,k1,_⟩:=Nz m hz;refine⟨_,Z,.inr (.inl ⟨a,_,_,vk,rfl,rfl,Za.of (p _ _ e2),rfl,?_⟩)⟩;refine hR _ g j ⟨UO p o,o,?_⟩;rw[yM,zM,er];exact c.append (.cons k1 .nil)
 ·let⟨p,o,c⟩:=d;rw[yQ (by rw[zX];lia)] at c
  let lz:=c.length;rw[zX] at lz;refine⟨e,q,_,Z,j,c.sm p,λt ht=>?_,∅,I,λM L=>⟨_,Z,Zj ⟨_,Z,k M D b ((s3.trans p).trans L) nD (L _ _ (p _ _ u)) (m.sm (p.trans L))⟩⟩⟩
  let⟨r,G,rfl⟩:=zJ.mp ht;exact(N r G).1
def Uo(a:jI):ZL:=⟨0,a,[]⟩
inductive Wk(jg jh:aj)(r:je)(H:Hp)(Q:VK)(_:XK):Prop
 |mk(S d n l:aj)(c:jr)(h:jp)(k:Nat->jp)(m:Nat->Nat)(j:jx)(e:List (ZR×V))(p q:je)(i:jI)(_:r=[.ref S,.ref l])(_:YF jg jh H S d n c h k m j e p)(_:h.length<=900)(_:H l=some (.lst q))(_:jU H (Y2 i) q)(_:Mm i)(_:∀(g:Hp)(a:YE),H a.x=none->H a.th=none->H a.ab=none->(∀ b o,b≠S->b≠d->H b=some o->g b=some o)->YF jg jh g S d n (c++[Uo i]) (h++[c.length]) (WQ c.length k) (XW c.length m) (j++[a]) (Zs e (.inl (c.length:Int)) (.ref a.x)) p->Q (.int (c.length:Nat)) g)
def Wl:ZA ["self","rows","own"] zFf (Ze Lz):=Z4
def Ii{jg jh:aj}{H:Hp}{S d h:aj}{j:jr}{b:jp}{e:Nat->jp}{g:Nat->Nat}{c:jx}{a:List (ZR×V)}{i:je}(R:YF jg jh H S d h j b e g c a i):a.length=b.length:=by
 have:=congrArg yD R.keys;simpa using this
def Bm(F:Zn K "put_leaf" "Shelf.put_leaf" Lz f fd)(L:Yj K mg jg jh)(DC:ZC P w K mg kf 9 "checked_rows" zE1 Vm)(DL:ZC P w K mg kf 1 "label_of_rows" zE1 Xb)(DT:ZI P w K mg kf Zc 3 jg "put_twig" zEz (XY jg jh)):
  ZK P w K mg kf Zc 10 f fd zFf (Wk jg jh):=by
 refine F.ko Wl λa1 A a0 s H vs Q E O h=>?_;let⟨S,d,lk,l,ts,lv,av,ho,as,X,ls,us,a,rfl,R,y,hl,hk,G,k⟩:=h;let nd:=Wl.nd;let T:=O.mono (show 1<=9 by lia)
 let U:=O.mono (show 3<=9 by lia)
 intro Xc;refine⟨_,ZN (Zo 2 nd (Zk DC O (ZX (pv 1))))
  (ZV (Zq (Yp (E:=E0) (pv 0) L.cS DT U Yv (Zd (pv 2) (Zk DL T (ZX (pv 2))))))),?_⟩
 exists _,Z,l,us,a,Z,hl,hk,G;intro H1 p i s1 B u m;let R1:=R.same s1;let⟨dx,hS⟩:=R1.sh.self;let lu:i.length=a.length:=by have:=m.length;rw[<-this];exact zX _
 let Y:(a.map (·.1)).length=a.length:=zX _;exists _,Z,S,dx,_,Z,hS,Z,_,Z,_,Z,p,i,a.map (·.1),Z,u,BF m,by rw[lu];exact G.2.1
 intro H2 v s2 W;let q:(YK (Uo a)).kt=Mg (a.map (·.1)):=by
  let e0:(a.map (·.1)).getD 0 (.int 0)=(a.getD 0 rd).1:=by
   rw[zS,zS,zM];cases a[0]? <;> rfl
  let e1:(a.map (·.1)).getD (a.length-1) (.int 0)=(a.getD (a.length-1) rd).1:=by
   rw[zS,zS,zM];cases a[a.length-1]? <;> rfl
  unfold Mg YK Uo YW.kt;rw[Y,e0,e1];rfl
 rw[<-q] at W;let V:=NY W;let⟨C,a6,a5,rfl,a3,_,_⟩:=V;let V:=NY W;let c:=s1.trans s2;let R2:=R.same c;exists S,d,lk,ts.length,X,ls,.ref p,.ref C,Z,R2.sh,by rw[Ii R];exact y
 intro D x J nx n I R3 W3;let⟨a2,r⟩:=R2.sh.self;let j:YR H2 D:=λb ys e=>I b _ (ZD e r) (ZD e R2.sh.kept) e;let g:=s2 _ _ u;let N:D p=some (.lst i):=I _ _ (ZD g r) (ZD g R2.sh.kept) g;let M:J≠p:=(ZW g n).symm;let a4:C=C:=rfl;let PP:=Gf (t:=Uo a) (x:=x) (th:=p) (tg:=C) (ab:=J) R (H':=D) (λb o n1 n2 e=>I b o n1 n2 (c b o e)) (c.free nx) B (c.free n) M R3 W3
  ⟨i,N,λ_=>m.mono (λb xs e=>j b xs (s2 _ _ e)) _ _,λz=>absurd rfl z⟩ (V.mono j)
 exact k D ⟨x,p,C,J⟩ (c.free nx) B (c.free n) (λb o n1 n2 e=>I b o n1 n2 (c b o e)) PP
def Xs(a:jr)(bs:jp):jI:=bs.flatMap λb=>(gd a b).rows
def YT(a:jr)(bs:jp):ZL:=⟨(gd a (bs.getD 0 0)).h+1,Xs a bs,bs⟩
def M4(c:jr):jp->Prop
 | a::b::r=>(YK (gd c a)).hi.lt (YK (gd c b)).lo=true/\M4 c (b::r)
 | _=>True
def HZ{c:jr}:∀{bs:jp},(∀ j,j+1<bs.length->((Z7 c bs).getD j .d).hi.lt ((Z7 c bs).getD (j+1) .d).lo=true)->M4 c bs
 | [],_=>trivial
 | [_],_=>trivial
 | a::b::r,h=>⟨h 0 (by simp),HZ (bs:=b::r) λj e=>h (j+1) (by simp at e⊢;lia)⟩
def Nc{t:ZL}(a:t.rows≠[]):∃ r b,t.rows=r::b/\(YK t).lo=r.1:=by
 cases e:t.rows with
 | nil=>exact absurd e a
 | cons r b=>exact⟨r,b,Z,by unfold YK;rw[e];rfl⟩
def Ln{t:ZL}(a:t.rows≠[]):∃ b r,t.rows=b++[r]/\(YK t).hi=r.1:=by
 rcases sK t.rows with e | ⟨b,r,e⟩
 ·exact absurd e a
 ·rw[sL] at e;exists b,r,e;unfold YK;rw[e];simp[zS]
def C4{gt:jq}{f:jr}{i:Nat}{t:ZL}(h:Zz gt f i t){x:KT}(a:x∈t.rows.map (·.1)){y:KT}(b:(YK t).hi.lt y=true):x.lt y=true:=by
 let⟨g,r,e,d⟩:=Ln h.ne;let c:=h.up;rw[e,yO] at c a;rw[d] at b;rcases yX.mp a with a | a
 ·have:=(vF.mp c).2.2 x a r.1 (by simp)
  exact lt_trans' _ _ _ this b
 ·simp at a;rw[a];exact b
def ZPQ{l:jq}(f:l.Pairwise λa b=>a.lt b=true){z:KT}(e:l.head? = some z){x:KT}(d:x.lt z=true):∀ y∈l,x.lt y=true:=by
 cases l with
 | nil=>cases e
 | cons a l=>
  simp at e;subst e;intro y c;rcases zB.mp c with rfl | c
  ·exact d
  ·exact lt_trans' _ _ _ d ((vH.mp f).1 y c)
def Ea{gt:jq}{d:jr}:∀{bs:jp},(∀ b∈bs,Zz gt d b (gd d b))->M4 d bs->((Xs d bs).map (·.1)).Pairwise (λa b=>a.lt b=true)/\bs.Nodup
 | [],_,_=>⟨List.Pairwise.nil,List.nodup_nil⟩
 | [a],g,_=>by
  refine⟨?_,by simp⟩
  have:=(g a (by simp)).up
  simpa [Xs] using this
 | a::b::r,g,hn=>by
  let⟨k,n⟩:=Ea (bs:=b::r) (λc o=>g c (zH _ o)) hn.2;let h:=g a (by simp)
  let v:=g b (by simp)
  let⟨z,A,l,m⟩:=Nc v.ne;let p:((Xs d (b::r)).map (·.1)).head? = some (YK (gd d b)).lo:=by
   rw[m];unfold Xs;rw[xE,l];rfl
  let f:∀ x∈(gd d a).rows.map (·.1),∀ y∈(Xs d (b::r)).map (·.1),x.lt y=true:=λx s=>ZPQ k p (C4 h s hn.1);refine⟨?_,xQ.mpr ⟨λq=>?_,n⟩⟩
  ·let e:Xs d (a::b::r)=(gd d a).rows++Xs d (b::r):=by simp[Xs]
   rw[e,yO];exact vF.mpr ⟨h.up,k,f⟩
  ·let⟨i,w,j,_⟩:=Nc h.ne;let t:i.1∈(gd d a).rows.map (·.1):=by rw[j];simp
   let u:i.1∈(Xs d (b::r)).map (·.1):=zJ.mpr ⟨i,uZ.mpr ⟨a,q,by rw[j];simp⟩,Z⟩
   have:=f _ t _ u;rw[Mv] at this;cases this
def Ov{b:jr}{bs:jp}{i:Nat}(a:i<bs.length):(Z7 b bs).getD i .d=YK (gd b (bs.getD i 0)):=by
 unfold Z7;rw[zS,zM,zV a,zS,zV a];rfl
def Fo{gt:jq}{c:jr}{bs:jp}(u:∀ b∈bs,Zz gt c b (gd c b)){L:YW}(h:over (Z7 c bs)=some L):
  L=YK (YT c bs)/\bs.Nodup/\2<=bs.length/\bs.length<=4/\(∀ b∈bs,(gd c b).h+1=(YT c bs).h)/\((Xs c bs).map (·.1)).Pairwise (λa b=>a.lt b=true)/\Xs c bs≠[]:=by
 unfold over at h;split at h
 case isFalse=>cases h
 case isTrue hc=>
  let⟨k,D,P⟩:=hc;let C:(Z7 c bs).length=bs.length:=zX _;rw[C] at k D;let n:=WM.mpr P;unfold K4 at n;rw[C] at n;let x:M4 c bs:=HZ λj O=>(n j O).2;let⟨B,y⟩:=Ea u x;let N:∀ i,i<bs.length->((Z7 c bs).getD i .d).h=((Z7 c bs).getD 0 .d).h:=λi g=>by
   cases i with
   | zero=>rfl
   | succ i=>exact(n i g).1
  let f:∀ i,i<bs.length->bs.getD i 0∈bs:=λi g=>by rw[zS,zV g];exact xO _
  let E:=u _ (f 0 ∅)
  let R:=u _ (f (bs.length-1) ∅)
  let w:∀ b∈bs,(gd c b).h+1=(YT c bs).h:=λb v=>by
   let⟨i,g,e⟩:=uF v;have:=N i g;rw[Ov g,Ov ∅] at this
   let p:bs.getD i 0=b:=by rw[zS,zV g,e];rfl
   rw[p] at this;have:=Int.ofNat.inj this;show (gd c b).h+1=(gd c (bs.getD 0 0)).h+1
   lia
  let A:Xs c bs≠[]:=λz=>by
   let⟨r,o,e,_⟩:=Nc E.ne;have:r∈Xs c bs:=uZ.mpr ⟨_,f 0 ∅,by rw[e];simp⟩
   rw[z] at this;simp at this
  refine⟨?_,y,k,D,w,B,A⟩;rw[<-zG.inj h];let t:((Z7 c bs).getD 0 .d).lo=(YK (YT c bs)).lo:=by
   rw[Ov ∅]
   let⟨r,o,e,s⟩:=Nc E.ne;rw[s]
   cases bs with
   | nil=>simp at k
   | cons b bs=>
    unfold YK YT Xs;let G:(gd c b).rows=r::o:=e;simp only[xE,G];rfl
  let q:((Z7 c bs).getD ((Z7 c bs).length-1) .d).hi=(YK (YT c bs)).hi:=by
   rw[C,Ov ∅]
   let⟨o,r,e,s⟩:=Ln R.ne;rw[s];rcases sK bs with z | ⟨F,b,z⟩
   ·rw[z] at k;simp at k
   ·rw[sL] at z;let I:bs.getD (bs.length-1) 0=b:=by rw[z];simp[zS]
    rw[I] at e;let M:Xs c bs=Xs c F++o++[r]:=by rw[z];simp[Xs,e]
    unfold YK YT;simp only[M];simp[zS]
  let K:((Z7 c bs).map YW.m).sum=(YK (YT c bs)).m:=by
   have:∀ l:jp,((Z7 c l).map YW.m).sum=((Xs c l).length:Int):=λl=>by
    induction l with
    | nil=>rfl
    | cons b l Q=>
     let H:Z7 c (b::l)=YK (gd c b)::Z7 c l:=rfl;let p:Xs c (b::l)=(gd c b).rows++Xs c l:=by simp[Xs]
     rw[H,p,yI,tS,Q,yV];show ((gd c b).rows.length:Int)+_=_
     lia
   exact this bs
  let J:((Z7 c bs).getD 0 .d).h+1=(YK (YT c bs)).h:=by
   rw[Ov ∅]
   show ((gd c (bs.getD 0 0)).h:Int)+1=(((gd c (bs.getD 0 0)).h+1:Nat):Int)
   lia
  rw[t,q,K,J]
def N6{gt:jq}{c:jr}(f:WF gt c){bs:jp}(e:∀ b∈bs,b<c.length){L:YW}(h:over (Z7 c bs)=some L):
  L=YK (YT c bs)/\bs.Nodup/\2<=bs.length/\bs.length<=4/\(∀ b∈bs,(gd c b).h+1=(YT c bs).h)/\((Xs c bs).map (·.1)).Pairwise (λa b=>a.lt b=true)/\Xs c bs≠[]:=Fo (λb d=>f b _ (Wd (e b d))) h
def Zz.ext{gt:jq}{a:jr}{t:ZL}{i:Nat}{u:ZL}(h:Zz gt a i u):Zz gt (a++[t]) i u:=by
 exists h.ne,h.up,h.inn,h.leaf;intro z;let⟨g,j,f,k⟩:=h.stem z;let e:∀ b∈u.bs,gd (a++[t]) b=gd a b:=λb d=>Pf (f b d).1;exists g,j,λb d=>⟨by rw[yV,xN];have:=(f b d).1;lia,by rw[e b d];exact(f b d).2⟩
 rw[k];clear g j f k;have:∀ l:jp,(∀ b∈l,gd (a++[t]) b=gd a b)->(l.flatMap λb=>(gd a b).rows)=l.flatMap λb=>(gd (a++[t]) b).rows:=λl m=>by
  induction l with
  | nil=>rfl
  | cons b l o=>rw[xE,xE,m b (by simp),o λc n=>m c (zH _ n)]
 exact this _ e
def WF.push{gt:jq}{a:jr}{t:ZL}(d:WF gt a)(h:Zz gt a a.length t):WF gt (a++[t]):=λi u e=>by
 rcases yH i a.length with b | b
 ·rw[wP b] at e;exact(d i u e).ext
 ·rw[wO b] at e;let c:i-a.length=0:=by
   rcases Nat.eq_zero_or_pos (i-a.length) with z | z
   ·exact z
   ·rw[vD (by simp;lia)] at e;cases e
  rw[c] at e;simp at e;subst e;have:i=a.length:=∅
  rw[this];exact h.ext
def ES{gt:jq}{c:jr}(i:WF gt c){bs:jp}(d:∀ b∈bs,b<c.length){L:YW}(h:over (Z7 c bs)=some L):Zz gt c c.length (YT c bs):=by
 let⟨_,_,j,k,l,g,e⟩:=N6 i d h;refine⟨e,g,λr m=>?_,λz=>absurd z (by show (gd c (bs.getD 0 0)).h+1≠0;lia),λ_=>⟨j,k,λb a=>⟨d b a,l b a⟩,Z⟩⟩
 let⟨b,a,f⟩:=uZ.mp m;exact(i b _ (Wd (d b a))).inn r f
abbrev Ib:Stmt:=Xo (top 36) 2
structure QM(P:al)(w:ar)(K:zZ)(mg:jb)(kf:aC)(k:Nat)(x:Str)(ps:js)(sp:Sp):Prop where
 ex:∃ f fd,ZK P w K mg kf (YL P w) k f fd ps sp/\Z5 K fd ps []/\yT K (.ref f)=true/\mg x=some (.ref f)
inductive YM(gt:jq)(jg jh CS CT CH:aj)(r:je)(H:Hp)(Q:VK)(E:XK):Prop
 |mk(S d p l:aj)(e:jr)(g:jp)(n:Nat->jp)(k:Nat->Nat)(j:jx)(i:List (ZR×V))(q:je)(m:jw)(_:r=[.ref S,.ref l])(_:YF jg jh H S d p e g n k j i q)(_:WF gt e)(_:g.length<=800)(_:∀ b,b∈g->(n b).length<=800)(_:H l=some (.lst (m.map V.int)))(_:m.length<=100)(_:∀ x,m.find? (λx=>!YX g x)=some x->Vy CT x E H)(_:∀ bs:jp,m=bs.map (λb:Nat=>(b:Int))->(∀ b∈bs,b∈g)->(over (Z7 e bs)=none->∀ h,ZB H h->E (.ref CS) none h)/\(over (Z7 e bs)≠none->∀ b,bs.find? (λb=>decide (k b=0))=some b->Vy CH (b:Nat) E H)/\(over (Z7 e bs)≠none->bs.find? (λb=>decide (k b=0))=none->∀(h:Hp)(a:YE),H a.x=none->H a.th=none->H a.ab=none->(∀ c o,c≠S->c≠d->(∀ b:Nat,b∈g->c≠(j.getD b .d).x/\c≠(j.getD b .d).ab)->H c=some o->h c=some o)->YF jg jh h S d p (e++[YT e bs]) (g++[e.length]) (Wr bs e.length (WQ e.length n)) (Yi bs (XW e.length k)) (j++[a]) (Zs i (.inl (e.length:Int)) (.ref a.x)) q->Q (.int (e.length:Nat)) h))
abbrev Co:js:=["self","numbers","branches","label","number"]
def Ww:ZA Co zEj (Ze Ib):=Z4
def Jn{gt:jq}{c:jr}{bs:jp}(e:∀ b∈bs,Zz gt c b (gd c b))(i:Nat):((Z7 c bs).getD i .d).fit:=by
 rcases yH i bs.length with a | a
 ·rw[Ov a];refine Ig (e _ ?_);rw[zS,zV a];exact xO _
 ·rw[zS,vD (by unfold Z7;rw[zX];exact a)]
  exact ZPp
def J1{X:Cx}{E:XK}{k:Nat}{x:Str}{r:js}{i:Sp}{e:Expr}{a:jz}{t:TA}{p c:aI}(D:QM X.prog X.w X.K X.mg X.base k x r i)(n:ZZ k X.A)(o:VY (YL X.prog X.w) X E)(j:PA X (e::a) t)(l:Gl X x:=by rfl)(d:(x==("__debug__" : Str))=false:=by decide)(h:aq (e::a) X.env=(false,aG e X.env)::aq a X.env:=by rfl)(g:(aE c (aq a X.env)).any (·.1)=false:=by rfl):PE X (.Call (.Name x p) (e::a) [] c) (Jy i [] E t):=by
 let⟨f,fd,F,b,q,m⟩:=D.ex;exact Hx F n l m q b .nil o j d h g
def Cn{gt:jq}(F:Zn K "put_stem" "Shelf.put_stem" Ib f fd)(T:YZ mg)(L:Yj K mg jg jh)(DL:ZI P w K mg kf (YL P w) 5 jg "labels_of" zEj (XF jg jh CT))(DO:QM P w K mg kf 9 "label_over" zFc (X6 CS))(DC:ZI P w K mg kf (YL P w) 3 jg "check_held" zEj (Yu jg jh CH))(DT:ZI P w K mg kf Zc 3 jg "put_twig" zEz (XY jg jh))(DK:ZI P w K mg kf Zc 2 jg "take_over" zEn (Y8 jg jh)):
  ZK P w K mg kf (YL P w) 10 f fd zEj (YM gt jg jh CS CT CH):=by
 refine F.kD Ww λc8 A c5 s H vs Q E hr h=>?_;let⟨S,d,lk,l,i,lv,av,W,u,q,ls,ns,rfl,R,hw,c7,C,hl,I,k1,k2⟩:=h;let nd:=Ww.nd;let c3:=hr.mono (show 5<=9 by lia)
 let Y:=hr.mono (show 3<=9 by lia)
 let c2:=hr.mono (show 2<=9 by lia)
 intro Xc;refine⟨_,ZN (Zo 2 nd (Wt PU rfl T.list Up (ZX (pv 1))))
  (ZN (Zo 3 nd (J1 (E:=E) DO hr (Uw VU λ_ _ _ h=>h) (ZX (Yp (E:=E) (pv 0) L.cS DL c3 (Uw VU λ_ _ _ h=>h) (ZX (pv 2))))))
  (ZN (Xu (Yp (E:=E) (pv 0) L.cS DC Y (Uw VU λ_ _ _ h=>h) (ZX (pv 2))))
  (ZN (Zo 4 nd (Yp (E:=E0) (pv 0) L.cS DT Y Yv (Zd (pv 2) (pv 3))))
  (ZN (Xu (Yp (E:=E0) (pv 0) L.cS DK c2 Yv (Zd (pv 4) (pv 2))))
  (ZV (Zq (pv 4))))))),?_⟩
 exists _,Z,l,ns.map V.int,Z,.inl (ZF.of hl);intro D nD;let⟨H1,eU,g1,J⟩:=VN nD (.lst (ns.map V.int));rw[eU];let R1:=R.same g1;let⟨a2,a8⟩:=R1.sh.self;exists _,Z,S,a2,_,Z,a8,Z,_,Z,S,d,lk,D,i,lv,av,W,u,q,ls,ns,Z,R1,J,I,λx hx=>(k1 x hx).mono g1;intro bs eb y D2 us H2 s2 e7 a7 U;let⟨q1,q2,q3⟩:=k2 bs eb y;let p:∀ b∈bs,b<i.length:=λb h=>R.lt b (y b h);let e5:ns.length=bs.length:=by rw[eb,zX]
 let e6:us.length=bs.length:=by rw[U.1];exact zX _
 let a0:=g1.trans s2;refine⟨D2,us,Z7 i bs,Z,a7,U,Jn (λb a=>hw b _ (Wd (p b a))),∅,λH3 s3=>⟨λm=>q1 m H3 (a0.trans s3),λLb v m kv=>?_⟩⟩
 let X:over (Z7 i bs)≠none:=by rw[m];exact λz=>nomatch z
 let⟨eL,c1,c9,e0,e1,e4,e2⟩:=N6 hw p m;subst eL;let r:=a0.trans s3;let R3:=R.same r;let⟨a3,a9⟩:=R3.sh.self;let eI:ns.map V.int=iN bs:=by rw[eb,zO];rfl
 let M:H3 D=some (.lst (iN bs)):=by rw[<-eI];exact s3 _ _ (s2 _ _ J)
 exists _,Z,S,a3,_,Z,a9,Z,_,Z,S,d,lk,D,i,lv,av,W,u,q,ls,bs,Z,R3,M,y,λb hf=>(q2 X b hf).mono r;intro hf H4 s4;let g:=r.trans s4;let R4:=R.same g;let⟨a4,n⟩:=R4.sh.self;let kl:=NY kv;let⟨B,i0,e9,rfl,e3,_,_⟩:=kl;let c4:=(NY kv).mono (ZB.tups s4);let j:=s4 _ _ M;exists _,Z,S,a4,_,Z,n,Z,_,Z,_,Z,S,d,lk,i.length,q,ls,.ref D,.ref B,Z,R4.sh,by rw[Ii R];lia
 intro H5 x G nx k fr R5 W5;let a1:YR H4 H5:=λb ys e=>fr b _ (ZD e n) (ZD e R4.sh.kept) e;let N:H5 D=some (.lst (iN bs)):=fr _ _ (ZD j n) (ZD j R4.sh.kept) j;let PP:=Gf (t:=YT i bs) (x:=x) (th:=D) (tg:=B) (ab:=G) R (H':=H5) (λb o n1 n2 e=>fr b o n1 n2 (g b o e)) (g.free nx) nD (g.free k) (ZW j k).symm R5 W5
  ⟨iN bs,N,λz=>absurd z (by show (gd i (bs.getD 0 0)).h+1≠0;lia),λ_=>rfl⟩ (c4.mono a1)
 let⟨a5,c0⟩:=R5.self;let el:u.length=i.length:=R.len;let aL:∀ b,b∈lv->(u++[(⟨x,D,B,G⟩:YE)]).getD b .d=u.getD b .d:=λb y=>Kj (by have:=R.lt b y;lia)
 let aN:(u++[(⟨x,D,B,G⟩:YE)]).getD i.length .d=⟨x,D,B,G⟩:=by rw[<-el];exact KZ
 let en:(i++[YT i bs]).length=i.length+1:=by simp
 refine⟨_,Z,S,a5,_,Z,c0,Z,_,Z,_,Z,S,d,lk,D,_,_,_,_,_,_,ls,bs,i.length,Z,PP,N,c1,λb a=>?_,λb a=>?_,λH6 a6 e8 R6=>⟨_,Z,?_⟩⟩
 ·let O:=y b a;let c6:=p b a;let nb:b≠i.length:=∅
  let h0:W b≠0:=by
   have:=vT.mp hf b a;simpa using this
  exists xD _ O,?_
  ·rw[show XW i.length W b=W b from aM nb];lia
  ·rw[show WQ i.length av b=av b from aM nb];have:=C b O;lia
 ·rcases yX.mp a with c | c
  ·rw[aL b c];exact(ZW (R.tw b c).tw.above nD).symm
  ·rw[zI.mp c,aN];exact ZW j k
 ·refine q3 X hf H6 ⟨x,D,B,G⟩ (g.free nx) nD (g.free k) (λc o n1 n2 n3 e=>?_) R6;refine a6 c o (λb a=>?_) (fr c o n1 n2 (g c o e));rcases yX.mp a with z | z
  ·rw[aL b z];exact n3 b z
  ·rw[zI.mp z,aN];exact⟨ZW e (g.free nx),ZW e (g.free k)⟩
abbrev JM:Stmt:=Xo (top 36) 15
def M5{g h:aj}{H l:Hp}{S d n:aj}{w:jr}{v:jp}{r:Nat->jp}{u:Nat->Nat}{q:jx}{j:List (ZR×V)}{A k:je}(R:YF g h H S d n w v r u q j A)(f:∀ b o,b≠n->H b=some o->l b=some o)(y:l n=some (.lst k)):YF g h l S d n w v r u q j k:=by
 let⟨⟨x,s⟩,t,a⟩:=R.sh;let m:YR H l:=λc C e=>f c _ (ZD e a) e;refine⟨⟨⟨x,f _ _ (ZD s a) s⟩,f _ _ (ZD t a) t,y⟩,R.keys,R.val,R.lt,R.len,λi p=>?_,R.own,R.two⟩;let W:=R.tw i p;let⟨B,z⟩:=W.tw.self;exact W.frame m (λo e=>f _ _ (ZD z a) e) (λo e=>f _ _ (R.own i p).2.2.1 e) (λo e=>f _ _ (R.own i p).2.1 e)
structure VS(gt:jq)(jg jh:aj)(H:Hp)(S d lk:aj)(ts:jr)(lv:jp)(av:Nat->jp)(ho:Nat->Nat)(as:jx)(kvs:List (ZR×V))(ls:je):Prop where
 sh:YF jg jh H S d lk ts lv av ho as kvs ls
 wf:WF gt ts
 vl:Lv ts lv
 av:∀ i,i∈lv->(av i).Perm (YG ts lv i)
 live:∀ i,i∈lv->1<=(YG ts lv i).length+ho i
 l800:ts.length<=800
inductive VD(gt:jq)(jg jh CD:aj)(o:je)(H:Hp)(Q:VK)(E:XK):Prop
 |mk(S d m:aj)(g:jr)(a:jp)(k:Nat->jp)(c:Nat->Nat)(h:jx)(e:List (ZR×V))(n:je)(i:Nat)(_:o=[.ref S,.int (i:Nat)])(_:VS gt jg jh H S d m g a k c h e n)(_:i∈a)(_:∀(r:aj)(l:jp) b,ZB H b->H r=none->b r=some (.lst (iN l))->Zx g a c i l->Q (.ref r) b)(_:∀ j,Sh g a c i (some j)->Vy CD (j:Nat) E H)
abbrev BG:js:=["self","number","road","above"]
def QE:ZA BG zEa (Ze Kx):=Z4
def Lr(l:jp)(b:Nat):Xt (iN (l++[b])) (-1)=some (.int (b:Nat)):=by
 have:iN (l++[b])=iN l++[.int (b:Nat)]:=by simp[iN]
 rw[this];exact KP _ _
def CV{gt:jq}(F:Zn K "road_up" "Shelf.road_up" Kx f fd)(L:Yj K mg jg jh)(N:XN P w K mg kf "Shared" CD)(DT:ZI P w K mg kf Zc 1 jg "twig_of" zEa (Zr jg))(DH:ZI P w K mg kf Zc 2 jg "holders" zEa (VE jg jh λ_ k us=>.int ((us.length:Nat)+(k:Nat):Int))):ZK P w K mg kf (YL P w) 3 f fd zEa (VD gt jg jh CD):=by
 refine F.kD QE λa4 A a3 s H vs Q E O h=>?_;let⟨S,d,lk,a,n,R,k,y,D,ls,i,rfl,U,hi,k1,k2⟩:=h;let nd:=QE.nd;let a2:=O.mono (show 1<=2 by lia)
 intro Xc;refine⟨_,ZN (Zo 2 nd (XH (ZX (pv 1)))) (ZV (N1 OZ (Yk Uf)
  (ZN (Zy (YJ Qq (Yp (E:=E0) (pv 0) L.cS DH O Yv (ZX (Zi K (pv 2) (Pn Pr ZM)))) ZM (Z3 _)) (ZV (IL VU N O (ZX (Zi K (pv 2) (Pn Pr ZM))) rfl)) Z0)
  (ZN (Zo 3 nd (WO (Yp (E:=E0) (pv 0) L.cS DT a2 Yv (ZX (Zi K (pv 2) (Pn Pr ZM)))) rfl))
  (ZN (Zy (YJ (MC O.units0) (pv 3) (XH Zt) (Z3 _)) (ZV (Zq (pv 2))) Z0)
  (ZV (Xu (Vn yJ xV xU V1 (pv 2) (ZX (Zi K (pv 3) ZM)))))))))),?_⟩
 exists _,Z,YA;intro r nr;refine⟨λm σ H'=>∃(b:Nat)(G:jp)(k3:jf),m=VQ a (gd a b).h/\σ=[some (.ref S),some (.int (i:Nat)),some (.ref r),k3]/\ZB H H'/\H' r=some (.lst (iN (G++[b])))/\G.length+VQ a (gd a b).h<=a.length/\b∈n/\(∀ o,Sh a n k b o->Sh a n k i o)/\∀ l,Zx a n k b l->Zx a n k i (G++l),
  ⟨_,i,[],none,Z,Z,Zb nr _,ZP,by have:=Fu a (gd a i).h;simp;lia,hi,λ_ z=>z,λ_ z=>z⟩,?_⟩
 rintro m σ H1 ⟨b,G,k3,rfl,rfl,s1,J,rl,B,up,I⟩;refine⟨_,Z,Z6 ⟨_,λ_ _ z=>z,?_⟩⟩;let u:=U.sh.same s1;let⟨dx,hS⟩:=u.sh.self;let W:=u.tw b B;let⟨dt,hx⟩:=W.tw.self;let C:=U.av b B;let lI:(iN (R b)).length=(YG a n b).length:=(zX _).trans C.length_eq;refine⟨_,Z,S,dx,_,Z,hS,Z,_,Z,1,Z,.inl ⟨r,_,_,.int (b:Nat),Z,Z,ZF.of J,Lr _ _,S,d,lk,a.length,D,ls,(b:Int),_,_,_,_,_,_,Z,⟨u.sh,u.val b B,W.tw⟩,?_⟩⟩;exists _,_,Z,Z,_,Z;refine Xj (λc=>?_) (λc=>?_)
 ·let v:(YG a n b).length+k b≠1:=λz=>by
   have:=of_decide_eq_true c;rw[lI] at this
   lia
  refine⟨_,Z,1,Z,.inl ⟨r,_,_,.int (b:Nat),Z,Z,ZF.of J,Lr _ _,_,Z,λdd Y=>(k2 b (up _ (.here v))).go s1 Y⟩⟩
 ·let v:(YG a n b).length+k b=1:=by
   have:¬ ((1:Int)<((iN (R b)).length:Nat)+(k b:Nat)):=λz=>c (aK z);rw[lI] at this;have:=U.live b B
   lia
  refine⟨_,Z,S,dx,_,Z,hS,Z,_,Z,1,Z,.inl ⟨r,_,_,.int (b:Nat),Z,Z,ZF.of J,Lr _ _,S,d,lk,a.length,D,ls,(b:Int),.ref (y.getD b .d).x,Z,u.sh,u.val b B,(y.getD b .d).x,jh,dt,_,.ref (y.getD b .d).ab,Z,hx,L.cT,L.nab,Z,?_⟩⟩;exists _,Z,YA;intro e0 a0;let M:=Zb a0 (.lst []);let e:=M _ _ W.tw.above;let g:=M _ _ J;let t:=s1.trans M;exists (y.getD b .d).ab,e0,_,Z,Z,ZF.of e,ZF.of ZP,_,Z;generalize upd H1 e0 (.lst [])=H3 at M e g t⊢
  cases p:YG a n b with
  | nil=>
   rw[p] at C;rw[C.eq_nil,show (iN ([]:jp)).isEmpty=true from rfl];exact Z6 ⟨_,Z,k1 r _ H3 t nr g (I _ (.top v p))⟩
  | cons j q=>
   let X:q=[]:=by
    rw[p,zA] at v;exact rM.mp ∅
   subst X;rw[p] at C;let T:R b=[j]:=List.perm_singleton.mp C;rw[T] at e⊢;rw[show (iN [j]).isEmpty=false from rfl];let jl:=OW U.wf U.vl (i:=b) (j:=j) (by rw[p];exact zP)
   let jt:=U.vl.lt j jl.2;let l8:=U.l800;let jm:=Mi jt jl.1;refine Zj ⟨_,Z,.inl ⟨Z,_,ZF.of g⟩,_,Z,.inl ⟨(y.getD b .d).ab,_,0,.int (j:Nat),Z,Z,ZF.of e,Xd (j:=0) Z,r,_,.int (j:Nat),Z,Z,g,YO (by simp[iN];lia),?_⟩⟩
   refine⟨VQ a (gd a j).h,jm,j,G++[b],_,Z,Z,UO t nr,?_,by simp;lia,jl.2,λo a1=>up o (.up v p a1),λl hl=>by rw[rT];exact I _ (.up v p hl)⟩
   rw[ZP];simp[iN]
structure XD(K:zZ)(mg:jb)(CD:aj):Prop where
 at_:mg "Shared" = some (.ref CD)
 ty:yB K (.ref CD)=some (.type "type")
 mB:yY K CD (.type "BaseException")=some true
 self:yY K CD (.ref CD)=some true
inductive VA(gt:jq)(jg jh:aj)(m:je)(H:Hp)(Q:VK)(_:XK):Prop
 |mk(S d k:aj)(g:jr)(b:jp)(j:Nat->jp)(e:Nat->Nat)(h:jx)(a:List (ZR×V))(l:je)(i:Nat)(o:jO)(_:m=[.ref S,.int (i:Nat)])(_:VS gt jg jh H S d k g b j e h a l)(_:i∈b)(_:Sh g b e i o)(_:∀ c,ZB H c->Q (.bl o.isNone) c)
def Cy:ZA zEa zEa (Ze Kh):=Z4
def Ak{gt:jq}(F:Zn K "alone" "Shelf.alone" Kh f fd)(L:Yj K mg jg jh)(N:XD K mg CD)(m:ZI P w K mg kf (YL P w) 3 jg "road_up" zEa (VD gt jg jh CD)):ZK P w K mg kf Zc 4 f fd zEa (VA gt jg jh):=by
 refine F.ko Cy λu A c s H vs Q E I h=>?_;let⟨S,d,J,R,O,r,G,q,b,M,i,o,rfl,U,C,l,k⟩:=h;let⟨Y,y,p,n,t⟩:=m.ex;intro V;exists _,ZN (Ef (λ_=>pv 0) L.cS p n I t (λ_=>ZX (pv 1)) Z Z Z N.at_ N.ty N.mB (λX T=>ZV (Zq Uf))) (ZV (Zq Uf));let⟨x,B⟩:=U.sh.sh.self;refine⟨_,Z,S,x,_,Z,B,Z,_,Z,S,d,J,R,O,r,G,q,b,M,i,Z,U,C,λv _ a g _ _ z=>?_,λj D W a g e=>?_⟩
 ·cases l.uniq z.sh;exact k a g
 ·cases l.uniq D;exact⟨CD,Z,N.self,k a g⟩
inductive WB(jg jh:aj)(n:je)(H:Hp)(Q:VK)(_:XK):Prop
 |mk(S d l:aj)(k:jr)(j:jp)(h:Nat->jp)(i:Nat->Nat)(g:jx)(a:List (ZR×V))(m:je)(_:n=[.ref S])(_:YF jg jh H S d l k j h i g a m)(_:∀(e:Hp)(c:aj),H c=none->(∀ b o,b≠S->H b=some o->e b=some o)->YF jg jh e S d c k j h i g a []->Q .non e)
def AQ:ZA zEq zEq (Ze JM):=Z4
def Ex(F:Zn K "forget" "Shelf.forget" JM f fd)(L:Yj K mg jg jh):ZK P w K mg kf Zc 1 f fd zEq (WB jg jh):=by
 refine F.ko AQ λG A u s H vs Q E X h=>?_;let⟨S,d,y,B,lv,T,V,O,J,Y,rfl,R,k⟩:=h;intro N;exists _,ZV (QV (pv 0) (XH Zt) Z);exists YA;intro p g;let v:=Zb g (.lst []);let C:=R.same v;let⟨q,t⟩:=C.sh.self;exists _,Z,S,jg,q,_,Z,t,L.cS,L.nl,yR Z;let D:S≠p:=λz=>by rw[z,ZP] at t;cases t
 let l:∀ b o,b≠S->H b=some o->upd (upd H p (.lst [])) S (.ins jg q (Yq "looks" (.ref p) (Q1 d y B.length))) b=some o:=λb o n e=>by rw[ZO n];exact v _ _ e
 let⟨⟨U,a⟩,x,I⟩:=R.sh;let m:YR H (upd (upd H p (.lst [])) S (.ins jg q (Yq "looks" (.ref p) (Q1 d y B.length)))):=λc xs e=>l c _ (ZD e a) e;refine k _ p g l ⟨⟨⟨q,ZP⟩,l _ _ (ZD x a) x,(by rw[ZO (Ne.symm D)];exact ZP)⟩,R.keys,R.val,R.lt,R.len,λi j=>?_,λi j=>?_,R.two⟩
 ·let W:=R.tw i j;let⟨M,r,_⟩:=W.things;exact W.frame m (λo e=>l _ _ (R.own i j).1 e) (λo e=>l _ _ (ZD r a) e) (λo e=>l _ _ (ZD W.tw.above a) e)
 ·let⟨M,r,_⟩:=(R.tw i j).things;exact⟨(R.own i j).1,ZW (R.tw i j).tw.above g,ZW r g,(R.own i j).2.2.2⟩
end Tw
namespace L2
open PySem PySem.Spec PyProof.Rows
def Ll:ai->Bool
 | .bool b=>b
 | _=>false
def Kb:∀{bs:jQ}{a:jd},ZQ (bs.map V.bl) a->a=bs.map Value.bool
 | [],_,.nil=>rfl
 | b::bs,_,.cons r t=>by
  let e:_=Value.bool b:=r;rw[e,Kb t];rfl
inductive QR(x:V)(a:je)(H:Hp)(Q:VK):Prop
 |mk(l:aj)(bs:jQ)(_:x=.ref l)(_:a=[.bl true])(_:H l=some (.lst (bs.map V.bl)))(_:Q (.int (bs.countP id:Nat)) H)
def Bv:OE X "list.count" QR:=by
 intro a s A H x w v t Q I m k h;let⟨l,bs,rfl,rfl,f,q⟩:=h;cases m;let⟨u,rfl,j⟩:=k.one;cases(show u=Value.bool true from j);let⟨z,i,n,r,p,e⟩:=I.lstM f;let d:=Kb r;subst d;refine call_meets F.slot_list_count ⟨_,e,Z⟩ F.entry_list_count (F.args_list_count_2 _ _) (PySem.SeqAt.list_countAt l _ n none #[] (.bool true) Ll) ⟨e,λy g=>?_,?_⟩
 ·let⟨b,o,rfl⟩:=zJ.mp (rZ.mp g)
  cases b with
  | true=>exact N5 (y:=.bl true) (x:=.bl true) Z Z Z Z
  | false=>exact N5 (y:=.bl false) (x:=.bl true) Z Z Z Z
 ·refine⟨.int (bs.countP id:Nat),H,I.tok _,⟨s.toks,?_⟩,q⟩;let c:(bs.map Value.bool).toArray.toList.countP Ll=bs.countP id:=by
   rw[sR,List.countP_map];rfl
  rw[c]
inductive Uy(x:V)(a:je)(H:Hp)(Q:VK):Prop
 |mk(l:aj)(bs:jQ)(j:Nat)(_:x=.ref l)(_:a=[.bl true])(_:H l=some (.lst (bs.map V.bl)))(_:bs[j]? = some true)(_:∀ i,i<j->bs[i]? = some false)(_:j<1000)(_:Q (.int (j:Nat)) H)
def ZLY:OE X "list.index" Uy:=by
 intro t s M H x L v K Q I G E h;let⟨l,bs,j,rfl,rfl,A,p,k,f,q⟩:=h;cases G;let⟨u,rfl,D⟩:=E.one;cases(show u=Value.bool true from D);let⟨z,C,n,r,J,e⟩:=I.lstM A;let w:=Kb r;subst w;let g:j<bs.length:=(yS.mp p).1;let c:j<(bs.map Value.bool).toArray.size:=by simpa using g
 let a:∀ m (d:m<(bs.map Value.bool).toArray.size) b,bs[m]? = some b->Ll (bs.map Value.bool).toArray[m]=b:=λm d b o=>by
  have:(bs.map Value.bool).toArray[m]? = some (Value.bool b):=by simp[o]
  rw[wI d] at this;rw[zG.inj this];rfl
 refine call_meets F.slot_list_index ⟨_,e,Z⟩ F.entry_list_index (F.args_list_index_2 _ _) (PySem.SeqAt.list_indexAt l _ n none #[] (.bool true) Ll j c nofun (a j c true p) (λm d i=>a m d false (k m i))) ⟨e,λy B=>?_,?_⟩
 ·let⟨b,o,rfl⟩:=zJ.mp (rZ.mp B)
  cases b with
  | true=>exact N5 (y:=.bl true) (x:=.bl true) Z Z Z Z
  | false=>exact N5 (y:=.bl false) (x:=.bl true) Z Z Z Z
 ·exact⟨.int (j:Nat),H,I.tok _,⟨_,Z⟩,q⟩
def AZ{K:zZ}{o:Expr}{f:TE}{b a p:aI}{j:Nat}(h:PE X o f)(c:attributeBase o "count" X.env (aG o X.env)=aG o X.env:=by rfl)(e:((aE a (aq [.Constant (.bool true) j p] X.env)).all (λx=>!x.1)&&(backToKw a (keywordEach [] X.env)).all (λx=>x.1.isSome)
   && decide (([.Constant (.bool true) j p]:jz).length+([]:List Keyword).length+(if ([]:List Keyword).isEmpty then 0 else 1)<30))=true:=by rfl)(d:(b.endLine==a.line)=true:=by rfl)(g:X.K=K:=by rfl):
  PE X (.Call (.Attribute o "count" b) [.Constant (.bool true) j p] [] a) (M8 K "list" QR f (XV (tC (.bl true)) Vp)):=by
 subst g;exact Vn yJ PySem.F.slot_list_count PySem.F.type_list_count Bv h (Zh Uf Zt) c e d
def Al{K:zZ}{o:Expr}{f:TE}{b a p:aI}{j:Nat}(h:PE X o f)(c:attributeBase o "index" X.env (aG o X.env)=aG o X.env:=by rfl)(e:((aE a (aq [.Constant (.bool true) j p] X.env)).all (λx=>!x.1)&&(backToKw a (keywordEach [] X.env)).all (λx=>x.1.isSome)
   && decide (([.Constant (.bool true) j p]:jz).length+([]:List Keyword).length+(if ([]:List Keyword).isEmpty then 0 else 1)<30))=true:=by rfl)(d:(b.endLine==a.line)=true:=by rfl)(g:X.K=K:=by rfl):
  PE X (.Call (.Attribute o "index" b) [.Constant (.bool true) j p] [] a) (M8 K "list" Uy f (XV (tC (.bl true)) Vp)):=by
 subst g;exact Vn yJ qX qV ZLY h (Zh Uf Zt) c e d
end L2
namespace Tw
open PySem PySem.Spec L2 PyProof.Rows
variable{jg jh CS CT CH CK CP CB:aj}
def AJ{X:Cx}{K:zZ}{e:Expr}{b:TE}{f:Str}{a:aI}(g:PE X e b)(d:attributeBase e f X.env (aG e X.env)=aG e X.env)(c:X.K=K:=by rfl):PE X (.Attribute e f a) (Fd K b f):=by
 subst c;exact ZMY g d
structure Nm(K:zZ)(mg:jb)(CB:aj)(C:Nat->aj):Prop where
 base:mg "TwigError" = some (.ref CB)
 ty:yB K (.ref CB)=some (.type "type")
 mB:yY K CB (.type "BaseException")=some true
 n0:mg "NoKey" = some (.ref (C 0))
 n1:mg "NoLeaf" = some (.ref (C 1))
 n2:mg "NoStem" = some (.ref (C 2))
 n3:mg "NoTwig" = some (.ref (C 3))
 n4:mg "NotHeld" = some (.ref (C 4))
 n5:mg "Shared" = some (.ref (C 5))
structure XC(K:zZ)(CB:aj)(C:Nat->aj)(j:Nat):Prop where
 exc:WG K (C j)
 sub:yY K (C j) (.ref CB)=some true
 val:yP K (.ref (C j)) (.type "ValueError")=some true
 k:∀ i,i<6->yP K (.ref (C j)) (.ref (C i))=some (decide (i=j))
def MU:Nat->Str
 | 0=> "key"
 | 1=> "leaf"
 | 2=> "stem"
 | 3=> "twig"
 | 4=> "held"
 | _=> "shared"
def Aq(K:zZ)(d:aj)(C:Nat->aj)(Q:VK):XK:=λcls g b=>∃ j,j<6/\cls=.ref (C j)/\XC K d C j /\
 ((j<3/\∀ a t,ZB b a->a t=some (.tup [.str (MU j)])->Q (.ref t) a) \/
  (3<=j/\∃ c x e,g=some c/\b c=some (.xd [("number",.int x)])/\YC K (C j) e "number" /\ ∀ a t,ZB b a->a t=some (.tup [.str (MU j),.int x])->Q (.ref t) a))
inductive YU(P:al)(w:ar)(K:zZ)(mg:jb)(kf:aC)(g:aj)(C:Nat->aj)(h:je)(H:Hp)(Q:VK)(_:XK):Prop
 |mk(f:aj)(fd c:am)(b:Sp)(_:h=[.ref f])(_:ZK P w K mg kf (YL P w) 70 f fd [] b)(_:∀ s,BindsTo s fd ⟨[],[]⟩ [])(_:H f=some (Yz f { cls:=.type "function",data:=.func c }))(_:∀(e:VK)(d:XK),(∀ v a,(∀ t:aj,a t=none->Q (.ref t) (upd a t (.tup [.str "told",v])))->e v a)->(∀ cls o a,Aq K g C Q cls o a->d cls o a)->b [] H e d)
abbrev Cq:js:=["_law_call","_law_found","e","_law_flags","_law_at"]
def UP:ZA Cq zE2 (Ze Km):=Z4
abbrev fl6(j:Nat):jQ:=[decide (0=j),decide (1=j),decide (2=j),decide (3=j),decide (4=j),decide (5=j)]
def BD{CB:aj}{C:Nat->aj}(F:Zn K "_law_asked" "_law_asked" Km f fd)(T:YZ mg)(L:Nm K mg CB C):ZK P w K mg kf Zc 71 f fd zE2 (YU P w K mg kf CB C):=by
 refine F.ko UP λa3 A a2 s H vs Q E hr h=>?_;let⟨g,gd,M,a4,rfl,FL,bL,hg,a0⟩:=h;let y:=UP.nd;intro Xc;refine⟨_,ZN (Zo 1 y Od)
  (ZN (ZHn (i:=2) (j:=1) (q:=0) FL hr bL rfl (Or.inl rfl) rfl rfl rfl rfl L.base y rfl rfl L.ty L.mB
   (λa E'=>ZN (Zo 3 y (XH (Pm (Zp (r:=Xr K) OV rfl T.isi XG (Zd (pv 2) (WN (v:=.ref (C 0)) rfl L.n0 rfl))) (Zp (r:=Xr K) OV rfl T.isi XG (Zd (pv 2) (WN (v:=.ref (C 1)) rfl L.n1 rfl)))
     (Zp (r:=Xr K) OV rfl T.isi XG (Zd (pv 2) (WN (v:=.ref (C 2)) rfl L.n2 rfl))) (Zp (r:=Xr K) OV rfl T.isi XG (Zd (pv 2) (WN (v:=.ref (C 3)) rfl L.n3 rfl))))))
    (ZN (Zo 3 y (Zu NU (pv 3) (XH (Zd (Zp (r:=Xr K) OV rfl T.isi XG (Zd (pv 2) (WN (v:=.ref (C 4)) rfl L.n4 rfl))) (Zp (r:=Xr K) OV rfl T.isi XG (Zd (pv 2) (WN (v:=.ref (C 5)) rfl L.n5 rfl)))))))
    (ZN (Zy (PW.pt (VO (YJ Qs (AZ (K:=K) (pv 3)) ZM (Z3 _))
     (Uj (XT (Yk (Zp (r:=Xr K) OV rfl T.isi XG (Zd (pv 2) (Xw (v:=.ty "ValueError") rfl T.ValueError ZEf rfl)))))))) WW Z0)
    (ZN (Zo 4 y (Al (K:=K) (pv 3)))
    (ZN (Zy (YJ P1 (pv 4) ZM (Z3 _)) (ZV (Zq (Ym (ZX (Zi K (XH (NC Yn Yn Yn)) (pv 4)))))) Z0)
    (ZV (Zq (Ym (Zd (Zi K (XH (NC Yn Yn Yn)) (Zu QP (pv 4) ZM)) (AJ (pv 2) (by rfl))))))))))) rfl rfl)
  (ZV (Zq (Ym (Zd Yn (pv 1)))))),?_⟩
 exists Z,⟨M,hg⟩;refine a0 _ _ (λv B k2=>?_) λcls z B k2=>?_
 ·exact⟨_,Z,YA,λt n=>k2 t n⟩
 ·let⟨j,hj,rfl,b,u⟩:=k2;exists C j,Z,b.sub;intro a S;let g1:=Zb S (XO Q4 a (C j) z);let d:NN (upd B a (XO Q4 a (C j) z)) a (C j):=Db ZP;let l:upd B a (XO Q4 a (C j) z) a=some (XO Q4 a (C j) z):=ZP;generalize upd B a (XO Q4 a (C j) z)=H3 at g1 d l⊢;exists _,Z,a,C j,_,_,Z,d,b.exc,Z,b.k 0 ∅,_,Z,a,C j,_,_,Z,d,b.exc,Z,b.k 1 ∅,_,Z,a,C j,_,_,Z,d,b.exc,Z,b.k 2 ∅,_,Z,a,C j,_,_,Z,d,b.exc,Z,b.k 3 ∅,YA
  intro l1 W;let g2:=Zb W (.lst [.bl (decide (0=j)),.bl (decide (1=j)),.bl (decide (2=j)),.bl (decide (3=j))]);let o:=d.mono g2;exists _,Z,_,Z,a,C j,_,_,Z,o,b.exc,Z,b.k 4 ∅,_,Z,a,C j,_,_,Z,o,b.exc,Z,b.k 5 ∅,YA
  intro l2 X;let g3:=Zb X (.lst [.bl (decide (4=j)),.bl (decide (5=j))]);exists l1,l2,_,_,Z,Z,g3 _ _ ZP,ZP,YA;intro p hp;let g4:=Zb hp (.lst ([V.bl (decide (0=j)),.bl (decide (1=j)),.bl (decide (2=j)),.bl (decide (3=j))]++[.bl (decide (4=j)),.bl (decide (5=j))]));let G:=(g2.trans g3).trans g4;generalize N:upd (upd (upd H3 l1 (.lst [.bl (decide (0=j)),.bl (decide (1=j)),.bl (decide (2=j)),.bl (decide (3=j))])) l2 (.lst [.bl (decide (4=j)),.bl (decide (5=j))])) p (.lst ([V.bl (decide (0=j)),.bl (decide (1=j)),.bl (decide (2=j)),.bl (decide (3=j))]++[.bl (decide (4=j)),.bl (decide (5=j))]))=H4 at G⊢;let D:H4 p=some (.lst ((fl6 j).map V.bl)):=by rw[<-N];exact ZP
  let a1:=d.mono G;let I:=G _ _ l;let e:=g1.trans G;let m:(fl6 j).countP id=1:=by
   have:j=0\/j=1\/j=2\/j=3\/j=4\/j=5:=∅
   rcases this with rfl | rfl | rfl | rfl | rfl | rfl <;> rfl
  let U:(fl6 j)[j]? = some true:=by
   have:j=0\/j=1\/j=2\/j=3\/j=4\/j=5:=∅
   rcases this with rfl | rfl | rfl | rfl | rfl | rfl <;> rfl
  let Y:∀ i,i<j->(fl6 j)[i]? = some false:=λi hi=>by
   have:j=0\/j=1\/j=2\/j=3\/j=4\/j=5:=∅
   have:i=0\/i=1\/i=2\/i=3\/i=4:=∅
   rename_i h1
   rcases h1 with rfl | rfl | rfl | rfl | rfl | rfl <;> rcases this with rfl | rfl | rfl | rfl | rfl <;> first | rfl | lia
  exists _,Z,.inl ⟨Z,_,ZF.of D⟩,p,_,Z,Z,D,Z,_,Z;refine NI (by rw[m];rfl) ?_
  refine⟨_,Z,a,C j,_,_,Z,a1,b.exc,Z,b.val,_,Z,Zj ?_⟩;exists _,Z,.inl ⟨Z,_,ZF.of D⟩,p,_,j,Z,Z,D,U,Y,by lia
  exists _,Z,_,_,Z,Z,_,Z;rcases u with ⟨j3,u⟩ | ⟨j3,dx,x,fI,rfl,R,O,u⟩
  ·rw[aK (show (j:Int)<3 by lia)]
   refine Z6 ⟨YA,λl3 c=>⟨_,Z,.inl ⟨l3,_,_,.str (MU j),Z,Z,ZF.of ZP,?_,YA,λt n=>?_⟩⟩⟩
   ·have:j=0\/j=1\/j=2:=∅
    rcases this with rfl | rfl | rfl <;> rfl
   ·exact u _ t ((e.trans (Zb c _)).trans (Zb n _)) ZP
  ·rw[aJ (show ¬ (j:Int)<3 by lia)]
   refine Zj ⟨YA,λl3 c=>?_⟩;let J:=Zb c (.lst [.str "twig",.str "held",.str "shared"]);refine⟨_,Z,_,_,Z,Z,.inl ⟨l3,_,_,.str (MU j),Z,Z,ZF.of ZP,?_,?_⟩⟩
   ·have:j=3\/j=4\/j=5:=∅
    rcases this with rfl | rfl | rfl <;> rfl
   ·exists _,Z,Q4,a,C j,dx,_,.int x,fI,Z,J _ _ I,J _ _ (e _ _ R),O,Z,YA;intro t n;exact u _ t ((e.trans J).trans (Zb n _)) ZP
end Tw
namespace L2
open PySem PySem.Spec PyProof.Rows
def IO(G:X.calm=true):Wq X (.builtin "max") (λC H Q=>∃(p:aj)(d:jw),C=[.ref p]/\ZF X.K H p (d.map V.int)/\d≠[]/\∀ m,m∈d->(∀ x∈d,x<=m)->Q (.int m) H):=by
 intro B s Y H C W Q I r h;let⟨p,d,rfl,L,t,q⟩:=h;let⟨u,rfl,P⟩:=Vd r;cases P;let⟨N,R,O,U⟩:=I.list L;let b:=IK R;let⟨a,e⟩:=b.allInts.items;let z:=O.isList;rw[e] at z;let y:a.toList.map (·.1)=d:=by
  rw[<-nums_intItems,<-e];exact b.numsOf
 let g:a.size=d.length:=by rw[<-y];simp
 let k:0<a.size:=by
  rw[g];exact uE.mpr t
 refine max_intList (I.ok.hd G) z k λv T S A J=>?_;let⟨D,w⟩:=argBest_gt (numAt a) (a.size-1);generalize argBest (λi j=>decide (numAt a i > numAt a j)) (a.size-1)=j at A D w;let o:j<a.size:=∅
 let f:∀ i (b:i<a.size),numAt a i=a[i].1:=λi b=>by unfold numAt;simp[b]
 let F:v=.int (numAt a j) a[j].2:=by
  have:=A;unfold intItems at this;simp[o] at this;rw[f j o];exact this.symm
 let c:∀ i (b:i<a.size),d[i]? = some (numAt a i):=λi b=>by rw[<-y,f i b];simp[b]
 refine⟨.int (numAt a j),H,I.kept (t':=S) J,⟨_,F⟩,q _ (zC (c j o)) λx M=>?_⟩;let⟨i,l,E⟩:=uF M;let n:i<a.size:=∅
 have:=c i n;rw[zV l,E] at this;rw[zG.inj this];exact w i ∅
end L2
namespace Tw
open PySem PySem.Spec L2 PyProof.Rows
inductive UQ(x:V)(c:je)(H:Hp)(Q:VK):Prop
 |mk(l:aj)(b:je)(a:jq)(v:V)(t:KT)(j:Nat)(_:x=.ref l)(_:c=[v])(_:H l=some (.lst b))(_:jU H a b)(_:ZG H t v)(_:∀ k∈a,k.depth<=100)(_:a[j]? = some t)(_:∀ i k,i<j->a[i]? = some k->k.eqb t=false)(_:j<1000)(_:Q (.int (j:Nat)) H)
open Classical in
def ZIp{k:Nat}(V:ZZ (k+3) X.A):OE X "list.index" UQ:=by
 intro N s σ H x vs v us Q I rx rv h;let⟨l,ws,L,v0,t,j,rfl,rfl,S,U,W,T,K,G,B,q⟩:=h;cases rx;let⟨u,rfl,ru⟩:=rv.one;let⟨z,b,n,r,hl,e⟩:=I.lstM S;let kt:=Ml I t v0 u W ru;let M:=kvals_of I L ws b U r;let lk:=M.length;let C:j<b.length:=by have:=(yS.mp K).1;lia (splits:=8)
 let p:j<b.toArray.size:=by simpa using C
 let f:∀ m (i:m<b.toArray.size),∃ k,L[m]? = some k/\ZY s.heap k b.toArray[m]:=λm i=>by
  let E:m<b.length:=by simpa using i
  let⟨a,d,g⟩:=M.get (zV E);exact⟨a,d,by simpa using g⟩
 let o:∀(y:ai)(a:KT),ZY s.heap a y->decide (∃ k,ZY s.heap k y/\k.eqb t=true)=a.eqb t:=λy a w=>by
  cases c:a.eqb t with
  | true=>exact aK ⟨a,w,c⟩
  | false=>
   refine aJ ?_;rintro⟨Y,P,R⟩;let d:=My _ _ (ZY.inj a Y y w P);rw[d,R] at c;cases c
 refine call_meets F.slot_list_index ⟨_,e,Z⟩ F.entry_list_index (F.args_list_index_2 _ _) (PySem.SeqAt.list_indexAt l _ n none #[] u (λy=>decide (∃ k,ZY s.heap k y/\k.eqb t=true)) j p nofun ?_ (λm i D=>?_)) ⟨e,λy w=>?_,?_⟩
 ·let⟨a,d,g⟩:=f j p;rw[K] at d;cases d;exact aK ⟨t,g,MN t⟩
 ·let⟨a,d,g⟩:=f m i;rw[o _ a g];exact G m a D d
 ·let⟨m,i,O⟩:=uF (rZ.mp w);let⟨a,d,g⟩:=f m (by simpa using i)
  let J:ZY s.heap a y:=by rw[<-O];simpa using g
  rw[o y a J];exact JV a.depth a t _ y u (zY _) J kt ((ZZ.key V.in1) (zE (T a (zC d)) nofun))
 ·exact⟨.int (j:Nat),H,I.tok _,⟨_,Z⟩,q⟩
end Tw
namespace Srt
open PySem PySem.W PyProof.Rows
structure QC(lt:Nat->Nat->Bool):Prop where
 asym:∀ i j,lt i j=true->lt j i=false
 trans:∀ i j k,lt j i=false->lt k j=false->lt k i=false
def gt(p:jC)(i:Nat):Nat:=p.getD i 0
def Pi(p:jC)(i:Nat):gt p i=(p[i]?).getD 0:=by unfold gt;rw[Array.getD_eq_getD_getElem?]
def Li{p:jC}{i j:Nat}(a:j<=p.size)(k:Nat):gt (kas_rev p i j) k=if i<=k/\k<j then gt p (i+j-1-k) else gt p k:=by
 rw[Pi,Pi,Pi];unfold kas_rev;rw[getElem?_mirror_all a];split <;> rfl
def ZOf{p:jC}{k l:Nat}(a:k<p.size)(b:l<=k)(x:Nat):gt (bubble p k (k-l)) x=if x=l then gt p k else if l<x/\x<=k then gt p (x-1) else gt p x:=by
 rw[Pi,Pi,Pi,Pi,getElem?_bubble a (k-l) ∅]
 let e:k-(k-l)=l:=∅
 rw[e];split
 ·rfl
 ·split <;> rfl
def PB(n:Nat)(p:jC):Prop:=p.Perm (xS (zR n))
def PB.size{n:Nat}{p:jC}(h:PB n p):p.size=n:=by rw[h.size_eq];simp
def PB.lt{n:Nat}{p:jC}(h:PB n p){i:Nat}(a:i<n):gt p i<n:=by
 let b:=h.size;rw[Pi,wI ∅]
 have:p[i]'∅∈(xS (zR n)):=h.mem_iff.mp (Array.getElem_mem _)
 simpa using this
def PB.rev{n:Nat}{p:jC}(h:PB n p)(i j:Nat):PB n (kas_rev p i j):=(mirror_perm _ _ _ _).trans h
def PB.bub{n:Nat}{p:jC}(h:PB n p)(i j:Nat):PB n (bubble p i j):=(bubble_perm _ _ _).trans h
section
variable{lt:Nat->Nat->Bool}{n:Nat}{cmp:Nat->Nat->(Bool->ak->Prop)->ak->Prop}
def Qw(lt:Nat->Nat->Bool)(p:jC)(k:Nat):Prop:=∀ i j,i<=j->j<k->lt (gt p j) (gt p i)=false
def Pd(lt:Nat->Nat->Bool)(p:jC)(k:Nat):Prop:=∀ i j,i<=j->j<k->lt (gt p i) (gt p j)=false
def QC.irr(O:QC lt)(i:Nat):lt i i=false:=by
 cases h:lt i i with
 | false=>rfl
 | true=>exact absurd (O.asym i i h) (by rw[h];decide)
def Ph(lt:Nat->Nat->Bool)(n:Nat)(cmp:Nat->Nat->(Bool->ak->Prop)->ak->Prop)(s:ak):Prop:=∀ i j,i<n->j<n->∀ C:Bool->ak->Prop,C (lt i j) s->cmp i j C s
def ID(O:QC lt)(k:Ph lt n cmp s){p:jC}(e:PB n p):∀(f m N:Nat)(Q:Nat->ak->Prop),f+m=N->N<=n->1<=m->Qw lt p m ->
  (∀ a,m<=a->a<=N->Qw lt p a->(a=N\/lt (gt p a) (gt p (a-1))=true)->Q a s)->(kas_asc p f m).kasWp cmp Q s
 | 0,m,N,Q,v,g,w,b,c=>c m (zY _) ∅ b (.inl ∅)
 | f+1,m,N,Q,v,g,w,b,c=>by
  refine k _ _ (e.lt (i:=m) ∅) (e.lt (i:=m-1) ∅) _ ?_
  show (if lt (gt p m) (gt p (m-1))=true then KasT.ret m else kas_asc p f (m+1)).kasWp cmp Q s
  cases l:lt (gt p m) (gt p (m-1)) with
  | true=>rw[aO rfl];exact c m (zY _) ∅ b (.inr l)
  | false=>
   rw[aM zU];refine ID O k e f (m+1) N Q ∅ g ∅ (λi j d y=>?_) λa x q r t=>c a ∅ q r t
   rcases yH j m with h | h
   ·exact b i j d h
   ·let o:j=m:=∅
    subst o;rcases yH i j with u | u
    ·exact O.trans _ _ _ (b i (j-1) ∅ ∅) l
    ·have:i=j:=∅
     rw[this];exact O.irr _
def II(lt:Nat->Nat->Bool)(p:jC)(m q:Nat):Prop:=q+1<=m/\∀ i j,m-(q+1)<=i->i<m->m-(q+1)<=j->j<m->lt (gt p i) (gt p j)=false
def FG(O:QC lt){p:jC}{m q:Nat}(h:m<=p.size)(e:II lt p m q)(b:Pd lt p m):Pd lt (kas_rev p (m-(q+1)) m) m:=by
 let⟨l,d⟩:=e;let g (k:Nat):=Li (p:=p) (i:=m-(q+1)) h k;intro i j a f;rw[g i,g j];split
 ·rename_i c
  rw[aO ⟨∅,∅⟩]
  exact d _ _ ∅ ∅ ∅ ∅
 ·rename_i c
  split
  ·exact b _ _ ∅ ∅
  ·exact b _ _ a f
def LE(O:QC lt)(D:Ph lt n cmp s):∀(f:Nat)(p:jC)(m q N:Nat)(Q:jC×Nat×Nat->ak->Prop),PB n p->f+m=N->N<=n->Pd lt p m->II lt p m q ->
  (∀ a c u,PB n a->m<=c->c<=N->Pd lt a c->II lt a c u->Q (a,c,u) s)->(kas_desc f p m q).kasWp cmp Q s
 | 0,p,m,q,N,Q,b,P,F,r,o,x=>x p m q b (zY _) ∅ r o
 | f+1,p,m,q,N,Q,b,P,F,r,o,x=>by
  let S:=o.1;let V:=b.size;refine D _ _ (b.lt (i:=m) ∅) (b.lt (i:=m-1) ∅) _ ?_
  show (if lt (gt p m) (gt p (m-1))=true then (if q > 0 then kas_desc f (kas_rev p (m-(q+1)) m) (m+1) 0 else kas_desc f p (m+1) 0) else .ask (p.getD (m-1) 0) (p.getD m 0) λd=>if d=true then .ret (p,m,q) else kas_desc f p (m+1) (q+1):KasT _).kasWp cmp Q s
  let t:∀ a:jC,PB n a->Pd lt a m->gt a m=gt p m->lt (gt p m) (gt p (m-1))=true->(∀ i,i<m->lt (gt a i) (gt p (m-1))=false)->Pd lt a (m+1):=λa _ w e E R i j v U=>by
   rcases yH j m with h | h
   ·exact w i j v h
   ·let C:j=m:=∅
    subst C;rcases yH i j with l | l
    ·rw[e];exact O.trans _ _ _ (O.asym _ _ E) (R i l)
    ·have:i=j:=∅
     rw[this];exact O.irr _
  cases E:lt (gt p m) (gt p (m-1)) with
  | true=>
   rw[aO rfl];split
   ·let w:=FG O ∅ o r
    let g (k:Nat):=Li (p:=p) (i:=m-(q+1)) (j:=m) ∅ k
    refine LE O D f _ (m+1) 0 N Q (b.rev _ _) ∅ F (t _ (b.rev _ _) w (by rw[g m,aM ∅]) E λi T=>?_) ⟨∅,λi j G H I J=>?_⟩ λa c u y K z A B=>x a c u y ∅ z A B
    ·rw[g i];split
     ·exact o.2 _ _ ∅ ∅ ∅ ∅
     ·exact r _ _ ∅ ∅
    ·have:i=j:=∅
     rw[this];exact O.irr _
   ·refine LE O D f _ (m+1) 0 N Q b ∅ F (t _ b r Z E λi T=>r _ _ ∅ ∅) ⟨∅,λi j G H I J=>?_⟩ λa c u y K z A B=>x a c u y ∅ z A B
    have:i=j:=∅
    rw[this];exact O.irr _
  | false=>
   rw[aM zU];refine D _ _ (b.lt (i:=m-1) ∅) (b.lt (i:=m) ∅) _ ?_
   show (if lt (gt p (m-1)) (gt p m)=true then KasT.ret (p,m,q) else kas_desc f p (m+1) (q+1)).kasWp cmp Q s
   cases L:lt (gt p (m-1)) (gt p m) with
   | true=>rw[aO rfl];exact x p m q b (zY _) ∅ r o
   | false=>
    rw[aM zU];refine LE O D f _ (m+1) (q+1) N Q b ∅ F (λi j v U=>?_) ⟨∅,λi j G H I J=>?_⟩ λa c u y K z A B=>x a c u y ∅ z A B
    ·rcases yH j m with h | h
     ·exact r i j v h
     ·let C:j=m:=∅
      subst C;rcases yH i j with l | l
      ·exact O.trans _ _ _ L (r i (j-1) ∅ ∅)
      ·have:i=j:=∅
       rw[this];exact O.irr _
    ·rcases yH i m with h | h
     ·rcases yH j m with l | l
      ·exact o.2 i j ∅ h ∅ l
      ·let C:j=m:=∅
       subst C;exact O.trans _ _ _ L (o.2 i (j-1) ∅ h ∅ ∅)
     ·let M:i=m:=∅
      subst M;rcases yH j i with l | l
      ·exact O.trans _ _ _ (o.2 (i-1) j ∅ ∅ ∅ l) E
      ·have:i=j:=∅
       rw[this];exact O.irr _
def ZHl{p:jC}{m:Nat}(b:m<=p.size)(c:Pd lt p m):Qw lt (kas_rev p 0 m) m:=λi j a d=>by
 let g (k:Nat):=Li (p:=p) (i:=0) b k;rw[g i,g j,aO ⟨∅,∅⟩,aO ⟨∅,∅⟩]
 exact c _ _ ∅ ∅
def HK(O:QC lt)(h:Ph lt n cmp s){p:jC}(b:PB n p){m N:Nat}{Q:Nat×jC->ak->Prop}(f:1<=m)(l:m<=N)(g:N<=n)(i:Pd lt p m)(j:∀ a c,PB n c->1<=a->a<=N->Qw lt c a->Q (a,c) s):(kas_tail3 m N p).kasWp cmp Q s:=by
 unfold kas_tail3;rw[KasT.kasWp_bind];exact ID O h (b.rev 0 m) (N-m) m N _ ∅ g f (ZHl (by have:=b.size;lia) i) λa k d e _=>j a _ (b.rev 0 m) ∅ d e
def Gn(O:QC lt)(e:Ph lt n cmp s){p:jC}(q:PB n p){m N:Nat}{Q:Nat×jC->ak->Prop}(x:m+1<=N)(d:N<=n)(o:Pd lt p (m+1))(h:∀ a b,PB n b->1<=a->a<=N->Qw lt b a->Q (a,b) s):(kas_descPart m N p).kasWp cmp Q s:=by
 unfold kas_descPart;rw[KasT.kasWp_bind];refine LE O e (N-(m+1)) p (m+1) 0 N _ q ∅ d o ⟨∅,λi j r t u v=>?_⟩ λb a k c w f g l=>?_
 ·have:i=j:=∅
  rw[this];exact O.irr _
 ·let y:=c.size;show (if k > 0 then kas_tail3 a N (kas_rev b (a-(k+1)) a) else kas_tail3 a N b).kasWp cmp Q s
  split
  ·exact HK O e (c.rev _ _) ∅ f d (FG O ∅ l g) h
  ·exact HK O e c ∅ f d g h
def ZKx(O:QC lt)(l:Ph lt n cmp s){p:jC}(a:PB n p){Q:Nat×jC->ak->Prop}(F:1<=n)(o:∀ q v,PB n v->1<=q->q<=n->Qw lt v q->Q (q,v) s):(kas_count n p).kasWp cmp Q s:=by
 unfold kas_count;rw[KasT.kasWp_bind];let H:=a.size;refine ID O l a (n-1) 1 n _ ∅ (zY _) (zY _) (λi j b t=>?_) λm x y c d=>?_
 ·have:i=j:=∅
  rw[this];exact O.irr _
 ·split
  ·exact o m p a x y c
  ·rename_i u
   let G:m<n:=by have:m≠n:=λe=>u (by rw[e];simp);lia
   let z:lt (gt p m) (gt p (m-1))=true:=by
    rcases d with d | d
    ·lia
    ·exact d
   split
   ·rename_i D
    refine l _ _ (a.lt (i:=0) ∅) (a.lt (i:=m-1) ∅) _ ?_
    show (if lt (gt p 0) (gt p (m-1))=true then KasT.ret (m,p) else kas_descPart m n (kas_rev p 0 m)).kasWp cmp Q s
    cases C:lt (gt p 0) (gt p (m-1)) with
    | true=>rw[aO rfl];exact o m p a x y c
    | false=>
     rw[aM zU];let w:∀ i j,i<m->j<m->lt (gt p i) (gt p j)=false:=λi j E t=>
      O.trans _ _ _ (c j (m-1) ∅ ∅) (O.trans _ _ _ C (c 0 i ∅ E))
     let g (k:Nat):=Li (p:=p) (i:=0) (j:=m) ∅ k
     refine Gn O l (a.rev 0 m) ∅ (zY _) (λi j b t=>?_) o
     rw[g i,g j];rcases yH j m with h | h
     ·rw[aO ⟨∅,∅⟩,aO ⟨∅,∅⟩]
      exact w _ _ ∅ ∅
     ·let r:j=m:=∅
      subst r;rcases yH i j with f | f
      ·rw[aO ⟨∅,f⟩,aM ∅]
       exact O.trans _ _ _ (O.asym _ _ z) (w _ _ ∅ ∅)
      ·have:i=j:=∅
       rw[this,aM ∅];exact O.irr _
   ·let B:m=1:=∅
    subst B;refine Gn O l a ∅ (zY _) (λi j b t=>?_) o
    rcases yH i j with f | f
    ·let A:i=0:=∅
     let r:j=1:=∅
     subst A r;exact O.asym _ _ z
    ·have:i=j:=∅
     rw[this];exact O.irr _
def Ls(O:QC lt)(m:Ph lt n cmp s){p:jC}(e:PB n p){k:Nat}(q:k<n)(g:Qw lt p k):∀(f l r:Nat)(Q:Nat->ak->Prop),l<=r->r<=k->r-l<=f->(∀ i,i<l->lt (gt p k) (gt p i)=false)->(∀ i,r<=i->i<k->lt (gt p k) (gt p i)=true) ->
  (∀ j,j<=k->(∀ i,i<j->lt (gt p k) (gt p i)=false)->(∀ i,j<=i->i<k->lt (gt p k) (gt p i)=true)->Q j s)->(kas_place p k f l r).kasWp cmp Q s
 | 0,l,r,Q,v,t,w,a,b,c=>c l ∅ a λi d=>b i ∅
 | f+1,l,r,Q,v,t,w,a,b,c=>by
  unfold kas_place;split
  ·exact c l ∅ a λi d=>b i ∅
  ·rename_i x
   refine m _ _ (e.lt (i:=k) q) (e.lt (i:=(l+r) / 2) ∅) _ ?_
   show (if lt (gt p k) (gt p ((l+r) / 2))=true then kas_place p k f l ((l+r) / 2) else kas_place p k f ((l+r) / 2+1) r).kasWp cmp Q s
   cases u:lt (gt p k) (gt p ((l+r) / 2)) with
   | true=>
    rw[aO rfl];refine Ls O m e q g f l ((l+r) / 2) Q ∅ ∅ ∅ a (λi d o=>?_) c
    cases h:lt (gt p k) (gt p i) with
    | true=>rfl
    | false=>
     have:=O.trans _ _ _ (g ((l+r) / 2) i d o) h;rw[u] at this;cases this
   | false=>
    rw[aM zU];refine Ls O m e q g f ((l+r) / 2+1) r Q ∅ t ∅ (λi d=>?_) b c
    exact O.trans _ _ _ (g i ((l+r) / 2) ∅ ∅) u
def HF(O:QC lt)(v:Ph lt n cmp s):∀(f:Nat)(p:jC)(k:Nat)(Q:jC->ak->Prop),PB n p->f+k=n->1<=k->Qw lt p k->(∀ o,PB n o->Qw lt o n->Q o s)->(kas_bin f p k).kasWp cmp Q s
 | 0,p,k,Q,e,u,y,c,m=>m p e (by rw[<-u,Nat.zero_add];exact c)
 | f+1,p,k,Q,e,u,y,c,m=>by
  unfold kas_bin;rw[KasT.kasWp_bind];let C:=e.size;refine Ls O v e ∅ c k 0 k _ (yW _) (zY _) ∅ (λi w=>absurd w ∅) (λi w z=>absurd z ∅) λl A a b=>?_
  let g (x:Nat):=ZOf (p:=p) (k:=k) (l:=l) ∅ A x
  refine HF O v f _ (k+1) Q (e.bub _ _) ∅ ∅ (λi j h B=>?_) m
  rw[g i,g j];by_cases t:i=l
  ·rw[aO t];by_cases d:j=l
   ·rw[aO d];exact O.irr _
   ·rw[aM d,aO ⟨∅,∅⟩]
    exact O.asym _ _ (b (j-1) ∅ ∅)
  ·rw[aM t];by_cases d:j=l
   ·rw[aO d,aM ∅]
    exact a i ∅
   ·rw[aM d];by_cases q:l<i/\i<=k
    ·rw[aO q,aO ⟨∅,∅⟩]
     exact c _ _ ∅ ∅
    ·rw[aM q];by_cases r:l<j/\j<=k
     ·rw[aO r];exact c _ _ ∅ ∅
     ·rw[aM r];exact c _ _ h ∅
def sort_ok(O:QC lt)(b:Ph lt n cmp s)(g:1<=n){Q:jC->ak->Prop}(d:∀ p,PB n p->Qw lt p n->Q p s):(kas_sort n).kasWp cmp Q s:=by
 unfold kas_sort;rw[KasT.kasWp_bind];refine ZKx O b (p:=xS (zR n)) (Array.Perm.refl _) g λm p c f h a=>?_;show (if m<n then kas_bin (n-max m 1) p (max m 1) else .ret p:KasT _).kasWp cmp Q s
 split
 ·let e:max m 1=m:=∅
  rw[e];exact HF O b (n-m) p m Q c ∅ f a d
 ·let e:m=n:=∅
  subst e;exact d p c a
end
end Srt
namespace Tw
open PySem PySem.Spec L2 PyProof.Rows
section
variable{jZ:ju}{σ:L2.St}
end
section
variable{jZ:ju}{σ:L2.St}{H:Hp}
def Bk{a:aj}{o:HO}(I:ZE X jZ σ H s)(l:X.s₀.heap.get? a=none)(t:a≠X.env.locals)(m:∀ x c,X.env.cells.lookup x=some c->c≠a)(y:∀ p∈X.pn++jZ,p.1≠a)(v:H a=none)(h:Zf X.prog X.w (upd H a o) s.heap a o):ZE X jZ σ (upd H a o) s:=by
 let g:∀{b:aj}{u:HO},H b=some u->b≠a:=fun{b u} e z=>by rw[z,v] at e;cases e
 refine⟨I.ok,I.os,I.bare,⟨I.base.keep,I.base.slot,λb i q n A=>?_,I.base.there,λb k q=>?_,λb i u q=>?_,λb B q=>?_⟩,I.loc,I.cell,?_,λx c e=>?_,λp d=>?_,λb u e=>?_,I.len⟩
 ·rw[ZO (λz=>by rw[z,l] at q;cases q)];exact I.base.free b i q n A
 ·let e:=I.base.tups b k q;rw[ZO (g e)];exact e
 ·let e:=I.base.frzs b i u q;rw[ZO (g e)];exact e
 ·let⟨f,e⟩:=I.base.tbls b B q;exact⟨f,by rw[ZO (g e)];exact e⟩
 ·rw[ZO (Ne.symm t)];exact I.free
 ·rw[ZO (m x c e)];exact I.freeC x c e
 ·let⟨e,n,r⟩:=I.pin p d;exact⟨e,by rw[ZO (y p d)];exact n,r⟩
 ·by_cases j:b=a
  ·subst j;rw[ZP] at e;cases e;exact h
  ·rw[ZO j] at e;exact(I.hok b u e).stay (λ_ _ _ q=>q) (λc q=>by rw[ZO (g q)];exact q) λc k q=>by rw[ZO (g q)];exact q
def ZQ.getD{b:je}{a:jd}(r:ZQ b a){i:Nat}(h:i<b.length):ZU (b.getD i .non) (a.getD i Value.none):=by
 let⟨u,c,d⟩:=r.get (i:=i) (x:=b[i]) (by simp[h])
 rw[zS,zS,c,zV h];exact d
def Hr{b:je}{a:jd}(r:ZQ b a):∀(l:jp),(∀ i∈l,i<b.length)->ZQ (l.map λi=>b.getD i .non) (l.map λi=>a.getD i Value.none)
 | [],_=>.nil
 | i::l,h=>.cons (ZQ.getD r (h i zP)) (Hr r l λj c=>h j (zH _ c))
def GY{b:jq}{a:je}(d:jU H b a):∀(l:jp),(∀ i∈l,i<a.length)->jU H (l.map λi=>b.getD i (.int 0)) (l.map λi=>a.getD i .non)
 | [],_=>.nil
 | i::l,h=>by
  let c:=h i zP;let⟨t,e,g⟩:=d.get (i:=i) (v:=a[i]) (by simp[c])
  refine .cons (show ZG H (b.getD i (.int 0)) (a.getD i .non) from ?_) (GY d l λj f=>h j (zH _ f));rw[zS,zS,e,zV c];exact g
def range_getD{a:Type}(l:List a)(d:a):(zR l.length).map (λi=>l.getD i d)=l:=by
 apply List.ext_getElem
 ·simp
 ·intro i c b;simp[b]
end
def XX(t:Int×Int×Int):KT:=.tup [.int t.1,.int t.2.1,.int t.2.2]
def BE(t u:Int×Int×Int):(XX t).plt (XX u)=(XX t).lt (XX u):=by
 let⟨a,b,c⟩:=t;let⟨d,e,f⟩:=u;unfold XX;simp only[KT.plt,pltL,KT.lt,ltL,KT.eqb]
def O5(h:aC)(a:jL)(b:jd):Prop:=jV h (a.map XX) b
def Jz{h:aC}{t:Int×Int×Int}{v:ai}(x:ZY h (XX t) v):∃(a:aj)(c d e:Tok),v=.ref a/\IsTup h a #[.int t.1 c,.int t.2.1 d,.int t.2.2 e]:=by
 unfold XX at x;rw[ZY] at x;let⟨a,n,rfl,f,b⟩:=x;rw[jV] at b;let⟨o,k,rfl,c,b⟩:=b;rw[jV] at b;let⟨p,l,rfl,d,b⟩:=b;rw[jV] at b;let⟨q,m,rfl,e,b⟩:=b;rw[jV] at b;subst b;rw[ZY] at c d e;let⟨g,rfl⟩:=c;let⟨i,rfl⟩:=d;let⟨j,rfl⟩:=e;exact⟨a,g,i,j,Z,f⟩
def DV{t u:Int×Int×Int}{x y:ai}{Q:Bool->ak->Prop}(R:ZY s.heap (XX t) x)(S:ZY s.heap (XX u) y)(hu:A.units+2<cLine)(h:Q ((XX t).lt (XX u)) s):aA (az prog w) A (keyLt' (tuples' true) x y) Q E s:=by
 let⟨a,m,o,r,rfl,T⟩:=Jz R;let⟨c,v,z,B,rfl,U⟩:=Jz S;let⟨C,D,F⟩:=t;let⟨G,H,I⟩:=u;rw[<-BE] at h;unfold XX at h;rw[KT.plt,pltL,pltL,pltL,pltL] at h;let⟨⟨X,Y,J,sl⟩,O,M,n,N⟩:=T;let⟨⟨cl2,L,K,V⟩,i,l,n2,g⟩:=U;refine PySem.W.kat_lt O N i g ?_;show PySem.W.KatLex prog w A true _ Q [(.int C m,.int G v),(.int D o,.int H z),(.int F r,.int I B)] 0 s;let d:∀(p q:Int)(j k:Tok)(f:Bool->ak->Prop),f ((KT.int p).plt (KT.int q)) s->aA (az prog w) A (oneLt' false (.int p j) (.int q k)) f (λ_ _=>False) s:=λp q j k f P=>by
  refine PySem.W.kat_one _ _ (G7 0 (.int p) (.int q) A _ _ (by simp[KT.depth]) ⟨j,Z⟩ ⟨k,Z⟩ (by simp[KT.cmp]) (by simp[KT.depth];lia) prog w _ _ ?_)
  exact P
 let b:∀ p q:Int,(KT.int p).eqb (KT.int q)=(p==q):=λp q=>by rw[KT.eqb]
 refine rS (SeqAt.EqAt.int_int C m G v prog w _ _ ?_);refine tH (λe=>rX ?_) (λe=>tG ?_)
 ·rw[b,e,aO rfl] at h;refine rS (SeqAt.EqAt.int_int D o H z prog w _ _ ?_);refine tH (λe=>rX ?_) (λe=>tG ?_)
  ·rw[b,e,aO rfl] at h;refine rS (SeqAt.EqAt.int_int F r I B prog w _ _ ?_);refine tH (λe=>rX (PySem.W.kat_nil ?_)) (λe=>tG ?_)
   ·rw[b,e,aO rfl] at h;exact h
   ·rw[b,e,aM zU] at h;exact d _ _ _ _ _ h
  ·rw[b,e,aM zU] at h;exact d _ _ _ _ _ h
 ·rw[b,e,aM zU,KT.plt] at h;exact oneLt_int h
def Gr{h:aC}:∀{ts:jL}{vs:jd},O5 h ts vs->∃ b,PySem.W.KatTups h vs b/\b.length=vs.length/\∀ v∈b,∃ k t,v=Value.int k t
 | [],vs,x=>by
  unfold O5 at x;rw[wC,jV] at x;subst x;exact⟨[],.nil,Z,λv c=>absurd c (by simp)⟩
 | t::ts,vs,x=>by
  unfold O5 at x;rw[yI,jV] at x;let⟨v,r,rfl,m,x⟩:=x;let⟨b,d,e,f⟩:=Gr (ts:=ts) (vs:=r) x;let⟨a,l,q,u,rfl,p⟩:=Jz m;let⟨o,j,g,n,i⟩:=p;exists .int t.1 l::b,.cons j g i Z d,by simp[e]
  intro v c;rcases zB.mp c with rfl | c
  ·exact⟨_,_,Z⟩
  ·exact f v c
def ZKX{f:jL}{a:jd}{Q:PyProof.Rows.SortKind->ak->Prop}(j:0<a.length)(h:O5 s.heap f a)(d:Q (tuples' true) s):aA (az prog w) A (keyKind' a.toArray) Q E s:=by
 let⟨g,b,i,c⟩:=Gr h;refine PySem.W.kat_kind (T:=.type "int") b ∅ (λv e=>?_) (by decide) d
 let⟨k,t,rfl⟩:=c v e;exact yG.of_pure Z
def BK{c:jL}{a:jd}{Q:SortSt->ak->Prop}(z:2<=a.length)(l:a.length<64)(h:O5 s.heap c a)(I:A.units+2<cLine)(H:∀ (p:jC) (b:SortSt),Srt.PB a.length p->arrOf b=p.map (PySem.W.kas_item (a.toArray.zip a.toArray))->failedOf b=none->Q b s):
  aA (az prog w) A ((sortRuns').run (SortSt.mk' (tuples' true) (a.toArray.zip a.toArray) #[] 7 none)) (λr e=>Q r.2 e) E s:=by
 let F:c.length=a.length:=by have:=jV.length h;rwa [zX] at this
 refine PySem.W.kat_run (G:=λp e=>e=s/\Srt.PB a.length p) Z z l (λp b e M n o q=>?_) ?_
 ·let⟨rfl,f⟩:=q;exact H p b f n o
 ·refine Srt.sort_ok (lt:=λi j=>((c.map XX).getD i (.int 0)).lt ((c.map XX).getD j (.int 0))) ⟨λi j=>MM _ _,λi j k=>le_trans'⟩ (λi j d D C B=>?_) ∅ λp f N=>⟨Z,f⟩
  unfold PySem.W.kas_ask;let g:∀ i,i<a.length->∃ t,(c.map XX).getD i (.int 0)=XX t/\ZY s.heap (XX t) (a.getD i Value.none):=λi d=>by
   let⟨t,m,v⟩:=jV.get h (zV d);rw[zM] at m;let⟨L,u,rfl⟩:=yK.mp m;exists L,by rw[zS,zM,u];rfl
   rw[zS,zV d];exact v
  let⟨O,x,J⟩:=g i d;let⟨P,y,K⟩:=g j D;refine DV J K I ?_;rw[<-x,<-y];exact B
section
variable{jZ:ju}{σ:L2.St}{H:Hp}
def Ei{k:Nat}{l:aj}{L:je}{C:jL}{Q:VK}(hr:ZZ (k+2) X.A)(I:ZE X jZ σ H s)(hl:ZF X.K H l L)(hk:jU H (C.map XX) L)(c1:L.length<64)(q:∀ (D:aj) (ws:je) (rs:jL) (U:Hp),ZB H U->H D=none->U D=some (.lst ws)->jU U (rs.map XX) ws->rs.Perm C->Q (.ref D) U):
  aA (az X.prog X.w) X.A (call (.builtin "sorted") [.ref l]) (EP X jZ σ Q) X.xe s:=by
 let⟨c,rv,pl,hz⟩:=I.list hl;let c0:=rv.length;let a4:=hk.length;rw[zX] at a4;let a9:ZZ k X.A.in1.in1:=(ZZ.in1 (k:=k+1) hr).in1;refine Calls.call_function_entry kind_sorted plain_sorted entry_sorted (args_sorted1 _) ?_;unfold Builtin.«sorted»;refine aa (m:=checkCount "sorted" 1 1 _) (ad ?_);refine aa (collect_list pl.isList ?_ (by rw[sizeLine_eq];lia))
 refine aa (wpAny_newList ?_ (by rw[sizeLine_eq];lia))
 let y:((s.heap.push (seqObj "list" #[] 0)).update s.heap.objs.size (Obj.mapSeq (· ++ c.toArray))).objs.size=s.heap.objs.size+1:=by rw[Heap.size_update,size_push']
 obtain⟨f,x⟩:∃ f,((s.heap.push (seqObj "list" #[] 0)).update s.heap.objs.size (Obj.mapSeq (· ++ c.toArray))).push (seqObj "list" c.toArray 0)=f:=⟨_,Z⟩;let u:f.get? (s.heap.objs.size+1)=some (seqObj "list" c.toArray 0):=by rw[<-x,<-y];exact yU _ Z
 let P:∀ b o,s.heap.get? b=some o->f.get? b=some o:=λb o z=>by
  let G:b<s.heap.objs.size:=zW z;rw[<-x,Heap.get?_push_ne _ _ _ (by rw[y];exact zL (vW G)),sV _ _ _ _ (zL G),Heap.get?_push_ne _ _ _ (zL G)]
  exact z
 let c4:f.objs.size=s.heap.objs.size+2:=by rw[<-x,size_push',y]
 obtain⟨D,eD⟩:∃ D,s.heap.objs.size+1=D:=⟨_,Z⟩;rw[eD] at u;let F:s.heap.objs.size<=D:=∅
 let j:H D=none:=I.hok.fresh F;let d:VF X jZ H D:=I.fpOk F j;let a1:X.s₀.heap.get? D=none:=uB (zE I.sz F);let I1:ZE X jZ σ H { s with heap:=f }:=I.kept (t':=s.toks) P;let a0:((s.heap.push (seqObj "list" #[] 0)).update s.heap.objs.size (Obj.mapSeq (· ++ c.toArray))).objs.size=D:=y.trans eD;show aA _ _ _ _ _ { s with heap:=((s.heap.push (seqObj "list" #[] 0)).update s.heap.objs.size (Obj.mapSeq (· ++ c.toArray))).push (seqObj "list" c.toArray 0) };rw[x,a0];refine aa (af (wpAny_call_entry slot_list_sort ⟨_,u,rfl⟩ entry_list_sort ?body (args_list_sort _)));rw[list_sort_plain];refine aa (listItems_at u Z ?_);refine aa (listUpdate_at u Z ?_ (by rw[zK,sizeLine_eq];lia) (yW _))
 let T:=wG.update f D (Obj.mapSeq λ_=>(#[]:jA));obtain⟨e1,J⟩:∃ e1,(f.update D (Obj.mapSeq λ_=>(#[]:jA))).get? D=some (seqObj "list" #[] e1):=⟨_,get?_update_seq u λ_=>#[]⟩;obtain⟨h,M⟩:∃ h,f.update D (Obj.mapSeq λ_=>(#[]:jA))=h:=⟨_,Z⟩;rw[M] at J T;show aA _ _ _ _ _ { s with heap:=f.update D (Obj.mapSeq λ_=>(#[]:jA)) };rw[M];let I2:ZE X jZ σ H { s with heap:=h }:=ZE.turned (s:={ s with heap:=f }) (t':=s.toks) (it:=D) I1 (λb o n z=>(T.2 b n).trans z) d.1 d.2.1 d.2.2.2.1 d.2.2.2.2.1 d.2.2.2.2.2;refine aa (seqEpoch_at J Z ?_);refine aa (wpAny_newTuple ?_ (by show c.length<=_;rw[sizeLine_eq];lia))
 refine aa (wpAny_newList ?_ (yW _));refine af ?_;obtain⟨e,N⟩:∃ e,(h.push (seqObj "tuple" c.toArray 0)).push (seqObj "list" #[] 0)=e:=⟨_,Z⟩;let v:∀ b o,h.get? b=some o->e.get? b=some o:=λb o z=>by rw[<-N];exact zT _ (zT _ z)
 let I3:ZE X jZ σ H { s with heap:=e }:=I2.kept (t':=s.toks) v;let R:e.get? D=some (seqObj "list" #[] e1):=v _ _ J;let sv:O5 e C c:=kvals_of I3 _ _ _ hk rv;show aA _ _ _ _ _ { s with heap:=(h.push (seqObj "tuple" c.toArray 0)).push (seqObj "list" #[] 0) };rw[N];dsimp only;let E:∀(p:jC),Srt.PB c.length p->EP X jZ σ Q (.ref D) { s with heap:=e.update D (Obj.mapSeq λ_=>xS (p.toList.map λi=>c.getD i Value.none)) }:=by
  intro p hp;let a7:=hp.size;let t:∀ i∈p.toList,i<L.length:=λi hi=>by
   have:i∈(xS (zR c.length)):=hp.mem_iff.mp (rR.mp hi);have:=(xL.mp (by simpa using this):i<c.length)
   lia
  let a5:p.toList.length=c.length:=by rw[vR,a7]
  let s2:=wG.update e D (Obj.mapSeq λ_=>xS (p.toList.map λi=>c.getD i Value.none));obtain⟨c2,a2⟩:∃ c2,(e.update D (Obj.mapSeq λ_=>xS (p.toList.map λi=>c.getD i Value.none))).get? D=some (seqObj "list" (xS (p.toList.map λi=>c.getD i Value.none)) c2):=⟨_,get?_update_seq R λ_=>xS (p.toList.map λi=>c.getD i Value.none)⟩;let J2:ZE X jZ σ H { s with heap:=e.update D (Obj.mapSeq λ_=>xS (p.toList.map λi=>c.getD i Value.none)) }:=ZE.turned (s:={ s with heap:=e }) (t':=s.toks) (it:=D) I3 (λb o n z=>(s2.2 b n).trans z) j d.2.1 d.2.2.2.1 d.2.2.2.2.1 d.2.2.2.2.2;let J3:=Bk (a:=D) (o:=.lst (p.toList.map λi=>L.getD i .non)) J2 a1 d.2.1 d.2.2.2.2.1 d.2.2.2.2.2 j ⟨by rw[zX,a5,sizeLine_eq];lia,_,c2,Hr rv _ t,a2⟩
  let g:=Zb j (.lst (p.toList.map λi=>L.getD i .non));refine⟨.ref D,_,J3,Z,q D _ (p.toList.map λi=>C.getD i (0,0,0)) _ g j ZP ?_ ?_⟩
  ·have:=GY (hk.sm g) _ t;let e2:(p.toList.map λi=>(C.map XX).getD i (.int 0))=(p.toList.map λi=>C.getD i (0,0,0)).map XX:=by
    rw[zO];refine uD λi hi=>?_;let c3:=t i hi;let a3:i<C.length:=∅
    simp[zS,zV a3]
   rw[e2] at this;exact this
  ·let a6:p.toList.Perm (zR c.length):=by simpa using Array.perm_iff_toList_perm.mp hp
   have:=a6.map (λi=>C.getD i (0,0,0));rw[show c.length=C.length by lia,range_getD] at this
   exact this
 by_cases h:c.length<2
 ·rw[aO (by rw[zK];exact h),aO (by rw[zK];exact h)]
  refine aa (ad (aa (ad ?_)));dsimp only;let e0:((arrOf (SortSt.mk' general' (c.toArray.zip c.toArray) #[] 7 none)).map (·.2))=xS ((xS (zR c.length)).toList.map λi=>c.getD i Value.none):=by
   show ((c.toArray.zip c.toArray).map (·.2))=_;apply Array.toList_inj.mp;rw[Array.toList_map,ksk_zip];simp only[sR];rw[range_getD,List.map_snd_zip ∅]
  rw[e0];refine aa (seqEpoch_at R Z ?_);refine aa (listUpdate_at R Z ?_ (yW _) (by rw[zK,zX,sR,uK,sizeLine_eq];lia))
  simp only[bne_self_eq_false,vU,if_false];exact ad ⟨.none,Z,ad ⟨_,Z,E _ (Array.Perm.refl _)⟩⟩
 ·rw[aM (by rw[zK];exact h),aM (by rw[zK];exact h)]
  refine aa (ZKX ∅ sv ?_)
  refine aa (Z1 (BK (Q:=λB S=>S={ s with heap:=e }/\∃ p:jC,Srt.PB c.length p/\arrOf B=p.map (PySem.W.kas_item (c.toArray.zip c.toArray))/\failedOf B=none)
   ∅ ∅ sv (by let a:=a9.un;lia) λp B Y b3 b4=>⟨Z,p,Y,b3,b4⟩) λr S a8=>?_)
  let⟨⟨⟩,B⟩:=r;let⟨rfl,p,Y,b3,b4⟩:=a8;let O:=PySem.W.kat_snds Z b3;dsimp only;rw[O];refine aa (seqEpoch_at R Z ?_);refine aa (listUpdate_at R Z ?_ (yW _) (by rw[zK,zX,vR,Y.size,sizeLine_eq];lia))
  rw[b4];simp only[bne_self_eq_false,vU,if_false];exact ad ⟨.none,Z,ad ⟨_,Z,E p Y⟩⟩
end
end Tw
namespace L2
open PySem PySem.Spec PyProof.Rows
section
variable{σ:St}{H:Hp}
def BZ{J:It}{K:zZ}{r:jp}{z:TT}{w:TE}{Q:VK}{n:Nat}(h:Nat->V->Prop)(g:aj->Nat->je->Hp->Prop)(S:n<ap)(q:∀ D i b H,i<n->g D i b H->J.go i H)(I:∀ D i b H x k,i<n->g D i b H->J.yld i H x k->k=H/\h i x)(j:∀ D b H,g D n b H->J.stop n H)(B:∀ D,H D=none->g D 0 [] (upd H D (.lst [])))(step:∀ D i b H x,H D=some (.lst b)->b.length<=i->i<n->h i x->g D i b H->∃ a u v,x=.ref a/\Za K H a [u,v]/\∀ (R:VK) (N:Hp->Prop),(∀ y f,f D=some (.lst b)->g D (i+1) (b++[y]) (upd f D (.lst (b++[y])))->R y f)->(∀ f,f D=some (.lst b)->g D (i+1) b f->N f) ->
   z ([some u,some v]++r.map λi=>(σ[i]?).join) H λc t=>if c=true then w ([some u,some v]++r.map λi=>(σ[i]?).join) t R else N t)(o:∀ D b H,H D=some (.lst b)->g D n b H->Q (.ref D) H):Ld J 2 (IC K) σ r z w H Q:=by
 intro D C;exists λi m H=>m=n-i/\i<=n/\∃ b,H D=some (.lst b)/\b.length<=i/\g D i b H,⟨n,rfl,yW _,[],ZP,zY _,B D C⟩;rintro i m H ⟨rfl,P,b,e,E,p⟩;by_cases d:i<n
 ·refine .inr ⟨q D i b H d p,λx k y M F=>?_⟩;let⟨rfl,L⟩:=I D i b H x k d p y;let⟨a,u,v,rfl,G,O⟩:=step D i b _ x e E d L p
  match M,F with
  | [T,U],_=>
   exists a,_,Z,G,Z,u,_,Z,v,_,Z,Z,⟨[some u,some v],Z,Z⟩;refine O _ _ (λy f l s=>?_) (λf l s=>?_)
   ·exact⟨b,n-(i+1),l,∅,∅,Z,d,b++[y],ZP,by rw[yV,xN];lia,s⟩
   ·exact⟨n-(i+1),∅,Z,d,b,l,∅,s⟩
 ·let A:i=n:=∅
  subst A;exact .inl ⟨j D b H p,o D b H e p⟩
end
end L2
namespace Tw
open PySem PySem.Spec L2 PyProof.Rows
variable{jg jh CS CT CH CK CP CB:aj}
def Na{X:Cx}{K:zZ}{k:Nat}{o e:Expr}{h:TE}{t:TA}{c a:aI}(m:ZZ (k+3) X.A)(l:PE X o h)(j:PA X [e] t)(d:attributeBase o "index" X.env (aG o X.env)=aG o X.env:=by rfl)(g:((aE a (aq [e] X.env)).all (λx=>!x.1)&&(backToKw a (keywordEach [] X.env)).all (λx=>x.1.isSome)
   && decide (([e]:jz).length+([]:List Keyword).length+(if ([]:List Keyword).isEmpty then 0 else 1)<30))=true:=by rfl)(f:(c.endLine==a.line)=true:=by rfl)(n:aq [e] X.env=(false,aG e X.env)::aq [] X.env:=by rfl)(b:(aE a (aq [] X.env)).any (·.1)=false:=by rfl)(i:X.K=K:=by rfl):
  PE X (.Call (.Attribute o "index" c) [e] [] a) (M8 K "list" UQ h t):=by
 subst i;exact Vn yJ qX qV (ZIp m) l j d g f n b
inductive Oh(f:je)(H:Hp)(Q:VK):Prop
 |mk(l:aj)(b:je)(d:jL)(_:f=[.ref l])(_:H l=some (.lst b))(_:jU H (d.map XX) b)(_:b.length<64)(_:∀(D:aj)(e:je)(c:jL)(a:Hp),ZB H a->H D=none->a D=some (.lst e)->jU a (c.map XX) e->c.Perm d->Q (.ref D) a)
def Iu{X:Cx}{k:Nat}(e:ZZ (k+2) X.A):Wq X (.builtin "sorted") Oh:=by
 intro b s n H m i Q I r h;let⟨l,j,g,rfl,d,c,a,q⟩:=h;let⟨u,rfl,f⟩:=Vd r;cases f;exact Ei e I (ZF.of d) c a q
def FQ{H:Hp}{k:jL}{l:je}{i:Nat}{u:V}(h:jU H (k.map XX) l)(e:l[i]? = some u):∃ t a,t∈k/\u=.ref a/\H a=some (.tup [.int t.1,.int t.2.1,.int t.2.2]):=by
 let⟨t,d,c⟩:=h.get e;rw[zM] at d;let⟨r,m,rfl⟩:=yK.mp d;unfold XX at c;rw[ZG] at c;let⟨a,x,rfl,n,b⟩:=c;rw[jU] at b;let⟨s,o,rfl,f,b⟩:=b;rw[jU] at b;let⟨v,p,rfl,g,b⟩:=b;rw[jU] at b;let⟨w,q,rfl,j,b⟩:=b;rw[jU] at b;subst b;rw[ZG] at f g j;subst f g j;exact⟨r,a,zC m,Z,n⟩
structure Xl(H:Hp)(dT:aj)(ts:jr)(lv:jp)(bs:jv)(kvs:List (ZR×V)):Prop where
 dict:H dT=some (.dK kvs)
 vl:Lv ts lv
 keys:kvs.map (·.1)=lv.map (λi:Nat=>(Sum.inl (i:Int):ZR))
 len:bs.length=ts.length
 tw:∀ i:Nat,i∈lv->∃ tp us,YI kvs (Sum.inl (i:Int))=some (.ref tp)/\H tp=some (.tup [.str (kindOf (gd ts i)),.ref (bs.getD i 0)])/\H (bs.getD i 0)=some (.lst us)/\((gd ts i).h=0->jU H (Y2 (gd ts i).rows) us)/\((gd ts i).h≠0->us=iN (gd ts i).bs)
def Xl.at{H:Hp}{d:aj}{c:jr}{b:jp}{bs:jv}{a:List (ZR×V)}(h:Xl H d c b bs a):Vh H c b a:=⟨h.keys,λi l=>by
 let⟨m,n,e,f,g,j,k⟩:=h.tw i l;exact⟨_,e,m,_,n,Z,f,g,j,k⟩⟩
def Xl.frame{H H':Hp}{b:aj}{e:jr}{c:jp}{bs:jv}{a:List (ZR×V)}(h:Xl H b e c bs a)(m:YR H H')(p:H' b=some (.dK a))(n:∀ i:Nat,i∈c->∀ o,H (bs.getD i 0)=some o->H' (bs.getD i 0)=some o):Xl H' b e c bs a:=by
 exists p,h.vl,h.keys,h.len;intro i d;let⟨q,r,f,g,j,k,l⟩:=h.tw i d;exact⟨q,r,f,m _ _ g,n i d _ j,λz=>(k z).mono m _ _,l⟩
def Xl.same{H b:Hp}{c:aj}{f:jr}{d:jp}{bs:jv}{a:List (ZR×V)}(h:Xl H c f d bs a)(s:ZB H b):Xl b c f d bs a:=h.frame (ZB.tups s) (s _ _ h.dict) λi g o e=>s _ _ e
def Xl.sx{H c:Hp}{p d:aj}{f:jr}{b:jp}{bs:jv}{a:List (ZR×V)}(h:Xl H d f b bs a)(W:ZJ H p)(k:∀ i:Nat,i∈b->bs.getD i 0≠p)(s:ZH p H c):Xl c d f b bs a:=by
 let⟨l,e⟩:=W.some;exact h.frame (s.tupsW W) (s _ _ h.dict (ZD h.dict e)) λi j o g=>s _ _ g (k i j)
def Xl.lawT{gt:jq}{H:Hp}{e:aj}{d:jr}{f:jp}{bs:jv}{c:List (ZR×V)}(h:Xl H e d f bs c)(i:WF gt d)(g:gt.length=64)(j:gt.Pairwise λa b=>a.lt b=true):Y5 gt H e d f c:=⟨h.dict,h.at,h.vl,i,g,j⟩
def Nn{gt:jq}(n:gt.Pairwise λa b=>a.lt b=true){t:KT}(h:t∈gt):∃ j,j<gt.length/\gt[j]? = some t/\∀ i k,i<j->gt[i]? = some k->k.eqb t=false:=by
 let⟨j,f,e⟩:=uF h;let d:gt[j]? = some t:=by rw[zV f,e]
 exists j,f,d;intro i k l m;have:=Lq n l m d
 cases c:k.eqb t with
 | false=>rfl
 | true=>
  let g:=My _ _ c;subst g;rw[Mv] at this;cases this
def MV{gt:jq}{g:jr}{i:Nat}{t:ZL}(h:Zz gt g i t):(YK t).lo∈gt/\(YK t).hi∈gt:=by
 let⟨r,j,e,c⟩:=Nc h.ne;let⟨f,d,a,b⟩:=Ln h.ne;rw[c,b];exact⟨(h.inn r (by rw[e];simp)).1,(h.inn d (by rw[a];simp)).1⟩
structure UI(gt:jq)(H:Hp)(gl:aj)(gs:je):Prop where
 at_:H gl=some (.lst gs)
 keys:jU H gt gs
 fit:∀ t∈gt,t.fits 3=true
 len:gt.length=64
 up:gt.Pairwise λa b=>a.lt b=true
def UI.frame{gt:jq}{H H':Hp}{a:aj}{b:je}(g:UI gt H a b)(m:YR H H')(k:H' a=some (.lst b)):UI gt H' a b:=⟨k,g.keys.mono m _ _,g.fit,g.len,g.up⟩
def UI.same{gt:jq}{H a:Hp}{b:aj}{c:je}(g:UI gt H b c)(s:ZB H a):UI gt a b c:=g.frame (ZB.tups s) (s _ _ g.at_)
def UI.sx{gt:jq}{H b:Hp}{p a:aj}{c:je}(g:UI gt H a c)(W:ZJ H p)(n:a≠p)(s:ZH p H b):UI gt b a c:=g.frame (s.tupsW W) (s _ _ g.at_ n)
inductive UM(gt:jq)(o:je)(H:Hp)(Q:VK)(_:XK):Prop
 |mk(p k j e:aj)(l:jr)(a:jp)(bs:jv)(g c:List (ZR×V))(n:Nat->Nat)(m:je)(_:o=[.ref p,.ref k,.ref j,.ref e])(_:ZJ H p)(_:Xl H k l a bs g)(_:∀ i:Nat,i∈a->bs.getD i 0≠p)(_:WF gt l)(_:H j=some (.dK c))(_:Wg c a n)(_:UI gt H e m)(_:e≠p)(_:0<a.length)(_:a.length<64)(_:∀(d:Hp)(D:aj)(h:jp),ZH p H d->ZJ d p->H D=none->d D=some (.lst (iN h))->(∀ b∈h,b∈a)->h.length<=4->Q (.ref D) d)
abbrev ZQj:js:=["_law_well_here","_law_twigs","_law_holds","_law_grid_here","_law_some","_law_run_here","_law_last","_law_at","_law_most","_law_labels","_law_low","_law_top","_law_number"]
def Px:ZA ZQj zEi (Ze KH):=Z4
def nd2:(["_law_label_here","_law_number","_law_grid_here","_law_last"]:js).Nodup:=by decide +kernel
def ZO4{gt:jq}(F:Zn K "_law_run" "_law_run" KH f fd)(T:YZ mg)(DP:ZC P w K mg kf 1 "_law_pull" zEe YQ)(DK:ZC P w K mg kf 2 "_law_picked" zEk Yc)(DL:ZC P w K mg kf 2 "_law_label" zEb (Ya gt)):
  ZK P w K mg kf Zc 4 f fd zEi (UM gt):=by
 refine F.ko Px λt8 A t4 s H vs Q E hr h=>?_;let⟨p,dT,dH,gl,ts,d,bs,a8,hvs,ho,gs,rfl,W,Y,bp,hw,r6,hH,G,m2,l0,a0,k⟩:=h;let nd:=Px.nd;let hu:=WV hr;let m8:=hr.mono (show 1<=3 by lia)
 let c4:=hr.mono (show 2<=3 by lia)
 intro Xc;refine⟨_,ZN (ON (i:=4) [2] ["_law_holds"] nd rfl rfl rfl (Xh (Zp (Qa rfl) rfl T.sorted Uk (ZX (pv 1)))) (λ_ _ _ _ _=>OB (YJ Qq (Xp hu (pv 1) (pv 0)) ZM (Z3 _))) (λ_ _ _ _ _=>pv 0) ⟨rfl,.inl rfl,rfl,trivial⟩)
  (ZN (Zy (PW.pt (VO (YJ WT (Zk DP m8 (Zd (pv 0) ZM)) ZM (Z3 _)) (Uj (YJ (MC hr.units0) (pv 4) (XH Zt) (Z3 _))))) (ZV (Zo 4 nd (Zp (Qa rfl) rfl T.sorted Uk (ZX (pv 1))))) Z0)
  (ZN (Zo 5 nd (XH (ZX (Zk DK c4 (Zd (pv 0) (pv 4))))))
  (ZN (Q9 (i:=6) nd rfl (Or.inr rfl) (Zk DL c4 (Zd (pv 1) (Zi K (pv 5) ZM))))
  (ZN (Zo 7 nd (Na (K:=K) hr (pv 3) (ZX (Zi K (pv 6) ZM))))
  (ZN (Zo 8 nd (Zu Xm ZM (Zk DP m8 (Zd (pv 0) ZM))))
  (ZN (ON (i:=9) [1] ["_law_twigs"] nd rfl rfl rfl (Xh (pv 4)) (λ_ _ _ _ _=>V4) (λ_ _ _ _ _=>Ym (Zd (Zk DL c4 (Zd (pv 1) (pv 0))) (pv 0))) ⟨rfl,.inl rfl,rfl,trivial⟩)
  (ZN (Gx (g:=IC K) ["_law_label_here","_law_number"] "_law_label_here" (i:=4) [3,6] ["_law_grid_here","_law_last"] nd rfl rfl rfl (λ_ _ _ _ _=>ZNl Z nd2 Z Z Z Z) (Xh (pv 9))
   (λ_ _ _ _ _=>OB (YJ WT (Zi K (pv 0) ZM) (Zi K (pv 3) ZM) (Z3 _)))
   (λ_ _ _ _ _=>Ym (NC (Na (K:=K) hr (pv 2) (ZX (Zi K (pv 0) ZM))) (Na (K:=K) hr (pv 2) (ZX (Zi K (pv 0) ZM))) (pv 1)))
   ⟨rfl,.inl rfl,rfl,rfl,.inl rfl,rfl,trivial⟩)
  (ZN (WU PassesOwn.never rfl (Xh (Zp (Iu c4) rfl T.sorted Uk (ZX (pv 4)))) (PM rfl (Y6 (Ye 10 nd) (Y6 (Ye 11 nd) (Y6 (Ye 12 nd) Q2))))
   (ZV (Zy (PW.pt (OM (YJ Qq (pv 10) (pv 7) (Z3 _)) (Ou (YJ P1 (Zp X9 rfl T.len Xa (ZX (pv 5))) (pv 8) (Z3 _)))))
    (ZN (Xu (Vn yJ xV xU V1 (pv 5) (ZX (pv 12)))) (ZV (Zo 7 nd (pv 11)))) Z0)))
  (ZV (Zq (pv 5))))))))))),?_⟩
 let eI:(d.map λi:Nat=>(i:Int)).map V.int=iN d:=by rw[zO];rfl
 let⟨xsP,r9⟩:=W.some;let M:∀ c,H c=none->c≠p:=λc e=>(ZW r9 e).symm;let i0:∀ t∈gt,t.depth<=100:=λt ht=>zE (Pb t 3 (G.fit t ht)) ∅
 exists _,Z,dT,a8,d.map λi:Nat=>(i:Int),Z,Y.dict,(by rw[Y.keys,zO];rfl),Ub Y.vl.up,by simpa using a0
 intro q nq;rw[eI];let⟨H1,eU,g1,hq⟩:=VN nq (.lst (iN d));rw[eU];refine⟨q,Z,⟨_,ZF.of hq⟩,JQ d (λj=>decide (0<ho j)) ∅ (λi H3 s3 hi=>⟨_,.int (d[i]:Nat),ZF.of (s3 _ _ hq),by simp[iN,zV hi]⟩) (λi H3 x H4 s3 hi hy=>⟨hy.1,hy.2 _ (ZF.of (s3 _ _ hq))⟩) (λH3 s3=>⟨_,ZF.of (s3 _ _ hq),by simp[iN]⟩) (λH2 j R hj s2 hR=>?_) (λD5 H2 s2 i6 e5=>?_)⟩
 ·let jl:j∈d:=hj;let hg:Zg H2 dH (.int (j:Nat)) (some (.int (ho j:Nat))):=hH.2 j jl ▸ Zg.k (k:=Sum.inl (j:Int)) ((g1.trans s2) _ _ r6);let ed:decide (((ho j:Nat):Int) > 0)=decide (0<ho j):=by rw[decide_eq_decide];lia
  exists _,Z,_,Z,dH,.int (ho j:Nat),Z,hg,_,_,Z,Z,_,Z;rw[ed];exact hR
 let i9:=g1.trans s2;let W2:=W.same i9;let n5:H D5=none:=ZB.free g1 i6;let b5:∀ b∈d.filter (λj=>decide (0<ho j)),b∈d:=λb hb=>(yN.mp hb).1;let l5:(d.filter (λj=>decide (0<ho j))).length<64:=xJ (sJ _ _) a0;generalize d.filter (λj=>decide (0<ho j))=l at e5 b5 l5;clear hq i6;exists _,Z,p,8,Z,W2,Ws (by decide) (by decide)
 intro r H5 r0 r1 W5 s3;let U:ZH p H H5:=(ZH.of i9).trans s3
 replace e5:=s3 _ _ e5 (M _ n5)
 clear s3 i9 W2 g1 s2;exists Z,_,Z;let L:∀(H6:Hp)(q:aj),ZH p H H6->ZJ H6 p->H6 q=none->H q=none:=λH6 q x6 W6 e=>by
  cases z:H q with
  | none=>rfl
  | some o=>
   by_cases y:q=p
   ·subst y;let⟨xs,e'⟩:=W6.some;rw[e'] at e;cases e
   ·rw[x6 _ _ z y] at e;cases e
 refine Xj (λc=>?gT) (λc=>?gE)
 case' gE=>
  exists _,Z,YA;intro e0 m4;let g0:=Zb m4 (.lst []);exists D5,e0,iN l,Z,Z,ZF.of (g0 _ _ e5),ZF.of ZP,_,Z
  replace e5:=g0 _ _ e5
  replace W5:=W5.same g0
  replace U:=U.trans (ZH.of g0)
  generalize upd H5 e0 (.lst [])=H6 at g0 e5 W5 U⊢;clear g0 m4;refine Xj (λc2=>?gT2) (λc2=>?gF)
 case' gF=>
  let p5:0<l.length:=by
   cases l with
   | nil=>exact absurd Z c2
   | cons _ _=>simp
 case' gT=>
  exists _,Z,dT,a8,d.map λi:Nat=>(i:Int),Z,(Y.sx W bp U).dict,(by rw[Y.keys,zO];rfl),Ub Y.vl.up,by simpa using a0
  intro D5 nq;rw[eI];let i4:H D5=none:=L _ D5 U W5 nq;let g:=Zb nq (.lst (iN d))
  replace U:=U.trans (ZH.of g)
  replace W5:=W5.same g
  clear n5;let n5:=i4
  replace e5:=ZP (H:=H5) (a:=D5) (o:=HO.lst (iN d))
  replace l5:d.length<64:=by simpa using a0
  let p5:0<d.length:=by simpa using l0
  generalize i2:d=l at l5 p5 W5 U e5 g⊢
  replace b5:∀ b∈l,b∈d:=λb hb=>by rw[i2];exact hb
 case' gT2=>
  exists _,Z,dT,a8,d.map λi:Nat=>(i:Int),Z,(Y.sx W bp U).dict,(by rw[Y.keys,zO];rfl),Ub Y.vl.up,by simpa using a0
  intro D5 nq;rw[eI];let i4:H D5=none:=L _ D5 U W5 nq;let g:=Zb nq (.lst (iN d))
  replace U:=U.trans (ZH.of g)
  replace W5:=W5.same g
  clear n5;let n5:=i4
  replace e5:=ZP (H:=H6) (a:=D5) (o:=HO.lst (iN d))
  replace l5:d.length<64:=by simpa using a0
  let p5:0<d.length:=by simpa using l0
  generalize i2:d=l at l5 p5 W5 U e5 g⊢
  replace b5:∀ b∈l,b∈d:=λb hb=>by rw[i2];exact hb
 all_goals
  let a5:=M _ n5;exists _,Z,_,Z,p,D5,iN l,Z,W5,a5,e5,by simpa [iN] using p5,by simp[iN];lia
  intro x H7 x7 W7 hx;let⟨b0,r5,rfl⟩:=zJ.mp hx;let o2:=U.trans x7;let p3:=x7 _ _ e5 a5;exists YA;intro X n6;let g8:=Zb n6 (.lst [.int (b0:Nat)]);let h6:upd H7 X (.lst [.int (b0:Nat)]) X=some (.lst [.int (b0:Nat)]):=ZP;let i5:H X=none:=L _ X o2 W7 n6;generalize upd H7 X (.lst [.int (b0:Nat)])=H8 at g8 h6⊢;let o3:=o2.trans (ZH.of g8);let W8:=W7.same g8;let p4:=g8 _ _ p3;let e9:=b5 b0 r5;refine⟨_,Z,_,Z,.inl ⟨X,_,0,.int (b0:Nat),Z,Z,ZF.of h6,Z,dT,b0,ts,d,a8,Z,((Y.sx W bp o3).lawT hw G.len G.up).g,e9,λH9 v s9 hv=>?_⟩⟩;let⟨ta,vlo,o5,rfl,c5,t6,n3⟩:=hv;let o4:=o3.trans (ZH.of s9);let W9:=W8.same s9;let t3:=hw b0 _ (Wd (Y.vl.lt b0 e9));let⟨j0,t9,p6,t0⟩:=Nn G.up (MV t3).2;let G9:=G.sx W m2 o4;let t7:=G.len;refine⟨_,Z,.inl ⟨Z,_,ZF.of G9.at_⟩,_,Z,.inr (.inl ⟨ta,_,2,o5,rfl,rfl,Za.of c5,rfl,gl,gs,gt,o5,_,j0,rfl,rfl,G9.at_,G9.keys,n3,i0,p6,t0,∅,?_⟩)⟩
  refine⟨_,Z,p,3,Z,W9,Ws (by decide) (by decide),λr2 l8 r20 r21 o8 c8=>⟨_,_,Z,Z,?_⟩⟩
  let e3:=o4.trans c8;let S:=c8 _ _ (s9 _ _ p4) a5;let e2:=M _ i5;let c9:=c8 _ _ (s9 _ _ h6) e2;let t5:ta≠p:=λz=>by
   let⟨xs,q⟩:=W9.some;rw[z,q] at c5;cases c5
  let m9:=c8 _ _ c5 t5;exists _,Z,D5,Z,⟨_,ZF.of S⟩;refine Vv (n:=l.length) (λi z=>(iN l)[i]? = some z) (λD i ys I=>ZB l8 I/\l8 D=none/\jU I ((l.take i).map λb:Nat=>KT.tup [(YK (gd ts b)).kt,.int (b:Nat)]) ys) (YO ∅)
   (λD i ys I hi C=>⟨_,.int (l[i]:Nat),ZF.of (C.1 _ _ S),by simp[iN,hi]⟩) (λD i ys I z o6 hi C hy=>⟨hy.1,hy.2 _ (ZF.of (C.1 _ _ S))⟩) (λD ys I C=>⟨_,ZF.of (C.1 _ _ S),by simp[iN]⟩)
   (λD hD=>⟨Zb hD _,hD,.nil⟩) (λD i ys I z eD r7 hi hz C R hR=>?_) (λD9 a3 l9 c0 C=>?_)
  ·let⟨s',nD,s6⟩:=C;let s7:z=.int (l[i]:Nat):=by
    unfold iN at hz;rw[zM,zV hi] at hz;exact(zG.inj hz).symm
   subst s7;let mi:l[i]∈l:=xO _;let i8:=e3.trans (ZH.of s');refine⟨_,Z,_,Z,dT,l[i],ts,d,a8,Z,((Y.sx W bp i8).lawT hw G.len G.up).g,b5 _ mi,λe6 v a2 hv=>⟨_,Z,YA,λtq i7=>?_⟩⟩;let g:=Zb i7 (.tup [v,.int (l[i]:Nat)]);let sA:=a2.trans g;let a4:=sA _ _ eD;let tD:YR (upd e6 tq (.tup [v,.int (l[i]:Nat)])) (upd (upd e6 tq (.tup [v,.int (l[i]:Nat)])) D (.lst (ys++[.ref tq]))):=λb xs e=>by rw[ZO (ZD e a4)];exact e
   refine hR _ _ a4 ⟨UO (s'.trans sA) nD,nD,?_⟩;rw[yM,zV hi,yO];exact((s6.sm sA).mono tD _ _).append (.cons (.tup (tD _ _ ZP) (.cons (((hv.key).sm g).mono tD _ _) (.cons (.int _) .nil))) .nil)
  let⟨a9,nD9,a7⟩:=C;rw[yQ (zY _)] at a7;let s8:=a7.length;rw[zX] at s8;let e4:=e3.trans (ZH.of a9);let o9:=o8.same a9;let n0:=a9 _ _ m9;exists _,Z,D9,Z,⟨_,ZF.of c0⟩;refine BZ (K:=K) (n:=l.length) (λi z=>a3[i]? = some z) (λD i zs I=>ZB l9 I/\l9 D=none/\∃ O:jL,jU I (O.map XX) zs/\(∀ t∈O,∃ b:Nat,b∈d/\t.2.2=(b:Int))/\zs.length<=i) (YO ∅)
   (λD i ys I hi C=>⟨a3,a3[i],ZF.of (C.1 _ _ c0),by simp[show i<a3.length by lia]⟩) (λD i ys I z o6 hi C hy=>⟨hy.1,hy.2 a3 (ZF.of (C.1 _ _ c0))⟩) (λD ys I C=>⟨a3,ZF.of (C.1 _ _ c0),∅⟩)
   (λD hD=>⟨Zb hD _,hD,[],.nil,λt ht=>absurd ht (by simp),zY _⟩) (λD i zs I z eD r7 hi hz C=>?_) (λD4 zs e6 p9 C=>?_)
  ·let⟨s',nD,O,c7,c6,r8⟩:=C;let⟨kt,m0,m6⟩:=a7.get hz;rw[zM,zV hi] at m0;let m1:=(zG.inj m0).symm;subst m1;let mi:l[i]∈l:=xO _;rw[ZG] at m6;let⟨pa,us2,rfl,c3,J⟩:=m6;rw[jU] at J;let⟨v1,r1,rfl,k1,J⟩:=J;rw[jU] at J;let⟨v2,r3,rfl,k2,J⟩:=J;rw[jU] at J;subst J;rw[ZG] at k2;subst k2;let lb:=(NY k1).mono (ZB.tups s');let⟨tb,n7,m5,rfl,i3,n4,n2⟩:=lb;let i8:=e4.trans (ZH.of s');let G':=G.sx W m2 i8;let s0:=s' _ _ n0;let n9:=hw _ _ (Wd (Y.vl.lt _ (b5 _ mi)));let⟨j1,hj1,p7,t1⟩:=Nn G.up (MV n9).1;let⟨j2,hj2,p8,t2⟩:=Nn G.up (MV n9).2;exists pa,_,_,Z,Za.of (s' _ _ c3);intro R N hR hN;refine⟨_,Z,.inr (.inl ⟨tb,_,0,_,rfl,rfl,Za.of i3,rfl,_,rfl,.inr (.inl ⟨ta,_,0,_,rfl,rfl,Za.of s0,rfl,rfl,_,rfl,?_⟩)⟩)⟩;refine Xj (λc=>?_) (λc=>hN _ eD ⟨s',nD,O,c7,c6,∅⟩)
   refine⟨_,Z,.inl ⟨Z,_,ZF.of G'.at_⟩,_,Z,.inr (.inl ⟨tb,_,1,n7,rfl,rfl,Za.of i3,rfl,gl,gs,gt,n7,_,j1,rfl,rfl,G'.at_,G'.keys,n4,i0,p7,t1,∅,?_⟩)⟩
   refine⟨_,Z,.inl ⟨Z,_,ZF.of G'.at_⟩,_,Z,.inr (.inl ⟨tb,_,2,m5,rfl,rfl,Za.of i3,rfl,gl,gs,gt,m5,_,j2,rfl,rfl,G'.at_,G'.keys,n2,i0,p8,t2,∅,?_⟩)⟩
   exists _,Z,YA;intro tq i7;let g:=Zb i7 (.tup [.int (j1:Nat),.int (j2:Nat),.int (l[i]:Nat)]);let a4:=g _ _ eD;let tD:YR (upd I tq (.tup [.int (j1:Nat),.int (j2:Nat),.int (l[i]:Nat)])) (upd (upd I tq (.tup [.int (j1:Nat),.int (j2:Nat),.int (l[i]:Nat)])) D (.lst (zs++[.ref tq]))):=λb xs e=>by rw[ZO (ZD e a4)];exact e
   refine hR _ _ a4 ⟨UO (s'.trans g) nD,nD,O++[((j1:Int),(j2:Int),(l[i]:Int))],?_,λt ht=>?_,by simp;lia⟩
   ·rw[yO];exact((c7.sm g).mono tD _ _).append (.cons (.tup (tD _ _ ZP) (.cons (.int _) (.cons (.int _) (.cons (.int _) .nil)))) .nil)
   ·rcases yX.mp ht with h | h
    ·exact c6 t h
    ·rw[zI.mp h];exact⟨l[i],b5 _ mi,Z⟩
  let⟨a2,i6,O,c7,c6,r8⟩:=C;let o0:=e4.trans (ZH.of a2);let p0:=o9.same a2;exists _,Z,D4,zs,O,Z,p9,c7,by lia
  intro Ds ws rs o7 l1 n8 m3 s4 i1;let o1:=o0.trans (ZH.of l1);let p1:=p0.same l1;let e1:=l1 _ _ (a2 _ _ (a9 _ _ c9));let l7:Ds≠X:=λz=>by
   rw[z,a2 _ _ (a9 _ _ c9)] at n8;cases n8
  refine⟨Ds,Z,⟨_,ZF.of m3⟩,Ui (K:=K) (a:=Ds) (xs:=ws) (λi σ I=>∃(l2 l3 l6:jf)(e8:Int)(ns:jp),σ=[some (.ref p),some (.ref dT),some (.ref dH),some (.ref gl),some (.ref D4),some (.ref X),some (.ref ta),some (.int e8),some (.int (2+r2)),some (.ref D9),l2,l3,l6]/\(∀ c o,c≠X->o7 c=some o->I c=some o)/\I X=some (.lst (iN ns))/\(∀ b∈ns,b∈d)/\ns.length<=4)
   ⟨_,_,_,_,[b0],Z,λc o _ e=>e,e1,λb hb=>by rw[zI.mp hb];exact e9,by simp⟩ (λi σ I _ C=>?_) ?_ ?_⟩
  ·let⟨_,_,_,_,_,_,k',_⟩:=C;exact ZF.of (k' _ _ l7 m3)
  ·rintro i u σ e7 n1 ⟨l2,l3,l6,e8,ns,rfl,m,B,a6,l4⟩;let⟨t,pa,mt,rfl,c3⟩:=FQ s4 n1;let⟨b,hb,eb⟩:=c6 t (i1.subset mt);let m7:=m _ _ (ZD c3 e1) c3;exists pa,_,Z,Za.of m7,Z,_,_,Z,_,_,Z,_,_,Z,Z;refine⟨_,Z,_,Z,_,_,Z,Z,_,Z,Xj (λc1=>?_) (λc1=>?_)⟩
   ·refine⟨_,Z,X,_,Z,.inl (ZF.of B),_,Z,_,_,Z,Z,_,Z,Xj (λc2=>?_) (λc2=>?_)⟩
    ·let hlt:ns.length<4:=by
      have:=of_decide_eq_true c2;simp[iN] at this
      lia
     exists _,Z,.inl ⟨Z,_,ZF.of B⟩,_,Z,X,_,_,Z,Z,B,YO (by simp[iN];lia)
     refine⟨_,Z,_,_,_,_,ns++[b],Z,λc o n e=>by rw[ZO n];exact m _ _ n e,?_,λb' r4=>?_,by simp;lia⟩
     ·rw[ZP,eb];simp[iN]
     ·rcases yX.mp r4 with h | h
      ·exact a6 b' h
      ·rw[zI.mp h];exact hb
    ·exact⟨_,_,_,_,ns,Z,m,B,a6,l4⟩
   ·exact⟨_,_,_,_,ns,Z,m,B,a6,l4⟩
  ·rintro σ e7 ⟨l2,l3,l6,e8,ns,rfl,m,B,a6,l4⟩;let p2:ZJ e7 p:=by
    let⟨a1,b1,c1,d1,s1,rr⟩:=p1.ex;exact⟨a1,b1,c1,d1,m _ _ (Ne.symm e2) s1,rr⟩
   exact⟨_,Z,k e7 X ns (λc o e n=>m _ _ (ZW e i5) (o1 _ _ e n)) p2 i5 B a6 l4⟩
def HP{a:jr}{b:jp}(d:Lv a b)(t:ZL)(i:Nat):YG (a++[t]) (b++[a.length]) i=YG a b i++(if i∈t.bs then [a.length] else []):=by
 unfold YG;rw[uI]
 congr 1
 ·refine uL λj c=>?_;rw[Pf (d.lt j c)]
 ·by_cases h:i∈t.bs
  ·simp[Pq,h]
  ·simp[Pq,h]
def Gm{gt:jq}{a:jr}{b:jp}(d:WF gt a)(c:Lv a b){i:Nat}(h:a.length<=i):YG a b i=[]:=by
 cases e:YG a b i with
 | nil=>rfl
 | cons j r=>
  let g:=OW d c (i:=i) (j:=j) (by rw[e];exact zP)
  let l:=d j _ (Wd (c.lt j g.2));let k:i∈(gd a j).bs:=by
   have:j∈YG a b i:=by rw[e];exact zP
   unfold YG at this;exact of_decide_eq_true (yN.mp this).2
  let f:(gd a j).h≠0:=∅
  have:=((l.stem f).2.2.1 i k).1
  lia
def Lv.push{g:jr}{f:jp}{t:ZL}(h:Lv g f)(d:∀ b∈t.bs,b∈f):Lv (g++[t]) (f++[g.length]):=by
 refine⟨λi e=>?_,λi e b c=>?_,vF.mpr ⟨h.up,rL _ _,λa j b d=>by rw[zI.mp d];exact h.lt a j⟩⟩
 ·rw[yV,xN];rcases yX.mp e with z | z
  ·have:=h.lt i z
   lia
  ·rw[zI.mp z]
   lia
 ·rcases yX.mp e with z | z
  ·rw[Pf (h.lt i z)] at c;exact xD _ (h.cl i z b c)
  ·rw[zI.mp z,Pq] at c;exact xD _ (d b c)
def ZMt{gt:jq}{e:jr}{a:jI}(g:Mm a)(i:(a.map (·.1)).Sublist gt):Zz gt e e.length (Uo a):=by
 let⟨h,c,f,b⟩:=g;refine⟨λz=>?_,b,λr d=>⟨i.subset (zJ.mpr ⟨r,d,rfl⟩),h r d⟩,λ_=>⟨Z,f⟩,λz=>absurd Z z⟩;let j:a=[]:=z;rw[j] at c;simp at c
def ZNh{gt:jq}{c:jI}(h:gt.Pairwise λa b=>a.lt b=true)(f:∀ r∈c,r.fit)(g:(c.map (·.1)).Sublist gt)(d:0<c.length)(e:c.length<=4):Mm c:=⟨f,d,e,h.sublist g⟩
def ZKy{gt:jq}{f g:aj}{H r:Hp}{S d q:aj}{a:jr}{e:jp}{h:Nat->jp}{j:Nat->Nat}{t l:jx}{p c:List (ZR×V)}{w n:je}{k:jI}(U:VS gt f g H S d q a e h j t p w)(A:a.length<=700)(x:Zz gt a a.length (Uo k))(R:YF f g r S d q (a++[Uo k]) (e++[a.length]) (WQ a.length h) (XW a.length j) l c n):VS gt f g r S d q (a++[Uo k]) (e++[a.length]) (WQ a.length h) (XW a.length j) l c n:=by
 let W:=U.wf.push x;let u:(a++[Uo k]).length=a.length+1:=by simp
 let s:Lv (a++[Uo k]) (e++[a.length]):=U.vl.push λb v=>by cases v
 let o:∀ i,YG (a++[Uo k]) (e++[a.length]) i=YG a e i:=λi=>by
  rw[HP U.vl,aM (by show i∉([]:jp);simp),vZ]
 let inl:∀ i,i∈e++[a.length]->i≠a.length->i∈e:=λi m z=>(yX.mp m).elim id λy=>absurd (zI.mp y) z;refine⟨R,W,s,λi m=>?_,λi m=>?_,by rw[u];lia⟩
 ·by_cases z:i=a.length
  ·subst z;rw[show WQ a.length h a.length=[] from aO rfl];rw[o];rw[Gm U.wf U.vl (zY _)]
  ·rw[show WQ a.length h i=h i from aM z,o];exact U.av i (inl i m z)
 ·by_cases z:i=a.length
  ·subst z;rw[show XW a.length j a.length=1 from aO rfl]
   lia
  ·rw[show XW a.length j i=j i from aM z,o];exact U.live i (inl i m z)
def ZK4{gt:jq}{j k:aj}{H v:Hp}{S d u:aj}{a:jr}{f:jp}{e:Nat->jp}{c:Nat->Nat}{x m:jx}{t g:List (ZR×V)}{C o:je}{bs:jp}(U:VS gt j k H S d u a f e c x t C)(D:a.length<=700)(p:∀ b∈bs,b∈f){L:YW}(s:over (Z7 a bs)=some L)(B:∀ b∈bs,1<=c b)(R:YF j k v S d u (a++[YT a bs]) (f++[a.length]) (Wr bs a.length (WQ a.length e)) (Yi bs (XW a.length c)) m g o):VS gt j k v S d u (a++[YT a bs]) (f++[a.length]) (Wr bs a.length (WQ a.length e)) (Yi bs (XW a.length c)) m g o:=by
 let W:=U.wf.push (ES U.wf (λb h=>U.vl.lt b (p b h)) s);let A:(a++[YT a bs]).length=a.length+1:=by simp
 let w:Lv (a++[YT a bs]) (f++[a.length]):=U.vl.push p;let r:∀ i,YG (a++[YT a bs]) (f++[a.length]) i=YG a f i++(if i∈bs then [a.length] else []):=λi=>HP U.vl (YT a bs) i
 let inl:∀ i,i∈f++[a.length]->i≠a.length->i∈f:=λi l z=>(yX.mp l).elim id λy=>absurd (zI.mp y) z;refine⟨R,W,w,λi l=>?_,λi l=>?_,by rw[A];lia⟩
 ·by_cases z:i=a.length
  ·subst z;let q:a.length∉bs:=λy=>by have:=U.vl.lt _ (p _ y);lia
   rw[show Wr bs a.length (WQ a.length e) a.length=WQ a.length e a.length from aM q,show WQ a.length e a.length=[] from aO rfl];rw[r];rw[Gm U.wf U.vl (zY _)];rw[aM q];exact vN.refl _
  ·rw[r];let n:WQ a.length e i=e i:=aM z;by_cases y:i∈bs
   ·rw[show Wr bs a.length (WQ a.length e) i=WQ a.length e i++[a.length] from aO y,n,aO y];exact(U.av i (inl i l z)).append_right _
   ·rw[show Wr bs a.length (WQ a.length e) i=WQ a.length e i from aM y,n,aM y,vZ];exact U.av i (inl i l z)
 ·by_cases z:i=a.length
  ·subst z;let q:a.length∉bs:=λy=>by have:=U.vl.lt _ (p _ y);lia
   rw[show Yi bs (XW a.length c) a.length=XW a.length c a.length from aM q,show XW a.length c a.length=1 from aO rfl]
   lia
  ·rw[r];let n:XW a.length c i=c i:=aM z;let f:=U.live i (inl i l z);by_cases y:i∈bs
   ·rw[show Yi bs (XW a.length c) i=XW a.length c i-1 from aO y,n,aO y,yV,xN];have:=B i y
    lia
   ·rw[show Yi bs (XW a.length c) i=XW a.length c i from aM y,n,aM y,vZ];exact f
structure Pl where
 S:aj
 d:aj
 lk:aj
 dT:aj
 dH:aj
 gl:aj
 tl:aj
 as:jx
 bs:jv
structure Md where
 ts:jr
 lv:jp
 av:Nat->jp
 ho:Nat->Nat
def Pl.ab(p:Pl)(i:Nat):Addr:=(p.as.getD i .d).ab
def Pl.th(p:Pl)(i:Nat):Addr:=(p.as.getD i .d).th
def Pl.x(p:Pl)(i:Nat):Addr:=(p.as.getD i .d).x
def Pl.b(p:Pl)(i:Nat):Addr:=p.bs.getD i 0
structure LS(gt:jq)(jg jh:aj)(H:Hp)(a:Pl)(m:Md):Prop where
 sh:∃ kvs ls,VS gt jg jh H a.S a.d a.lk m.ts m.lv m.av m.ho a.as kvs ls/\ls.length<=100
 lw:∃ kvs,Xl H a.dT m.ts m.lv a.bs kvs
 hd:∃ hvs,H a.dH=some (.dK hvs)/\Wg hvs m.lv m.ho
 gr:∃ gs,UI gt H a.gl gs
 told:H a.tl=some (.lst (iN (zR m.ts.length)))
 dd:a.dT≠a.d/\a.dH≠a.d/\a.dT≠a.dH
 tt:a.tl≠a.lk/\a.tl≠a.gl/\a.lk≠a.gl
 t2:∀ i:Nat,i∈m.lv->a.tl≠a.ab i/\a.tl≠a.th i/\a.gl≠a.ab i
 t3:∀ i:Nat,i∈m.lv->a.b i≠a.tl/\a.b i≠a.lk/\∀ j:Nat,j∈m.lv->a.b i≠a.ab j
 l64:m.lv.length<64
 l700:m.ts.length<=700
structure WY(a:Pl)(m:Md)(p:aj):Prop where
 lk:a.lk≠p
 gl:a.gl≠p
 tl:a.tl≠p
 tw:∀ i:Nat,i∈m.lv->a.ab i≠p/\a.th i≠p/\a.b i≠p
section
variable{gt:jq}{jg jh:aj}{H H':Hp}{a:Pl}{m:Md}{p:aj}
def LS.shp(h:LS gt jg jh H a m):∃ b c,YF jg jh H a.S a.d a.lk m.ts m.lv m.av m.ho a.as b c:=by
 let⟨b,c,U,_⟩:=h.sh;exact⟨b,c,U.sh⟩
def LS.wf(h:LS gt jg jh H a m):WF gt m.ts:=by
 let⟨b,c,U,_⟩:=h.sh;exact U.wf
def LS.off(h:LS gt jg jh H a m)(n:H p=none):WY a m p:=by
 let⟨c,g,U,_⟩:=h.sh;let⟨Yo,L⟩:=h.lw;let⟨f,G⟩:=h.gr;refine⟨ZW U.sh.sh.looks n,ZW G.at_ n,ZW h.told n,λi b=>⟨ZW (U.sh.tw i b).tw.above n,?_,?_⟩⟩
 ·let⟨d,e,_⟩:=(U.sh.tw i b).things;exact ZW e n
 ·let⟨j,d,_,_,e,_⟩:=L.tw i b;exact ZW e n
def LS.sx{A:je}(h:LS gt jg jh H a m)(o:WY a m p)(c:H p=some (.lst A))(s:ZH p H H'):LS gt jg jh H' a m:=by
 let⟨j,z,U,f⟩:=h.sh;let⟨Yo,L⟩:=h.lw;let⟨g,r,w⟩:=h.hd;let⟨v,G⟩:=h.gr;let l:YR H H':=λb C e=>s b _ e (ZD e c);let R:=U.sh;let⟨⟨u,q⟩,t,x⟩:=R.sh;refine⟨⟨j,z,⟨⟨⟨⟨u,s _ _ q (ZD q c)⟩,s _ _ t (ZD t c),s _ _ x o.lk⟩,R.keys,R.val,R.lt,R.len,λi d=>?_,R.own,R.two⟩,U.wf,U.vl,U.av,U.live,U.l800⟩,f⟩,
  ⟨Yo,L.frame l (s _ _ L.dict (ZD L.dict c)) λi d k e=>s _ _ e (o.tw i d).2.2⟩,⟨g,s _ _ r (ZD r c),w⟩,⟨v,G.frame l (s _ _ G.at_ o.gl)⟩,s _ _ h.told o.tl,h.dd,h.tt,h.t2,h.t3,h.l64,h.l700⟩
 let n:=R.tw i d;let⟨B,y⟩:=n.tw.self;exact n.frame l (λk e=>s _ _ e (ZD y c)) (λk e=>s _ _ e (o.tw i d).2.1) (λk e=>s _ _ e (o.tw i d).1)
def LS.same(h:LS gt jg jh H a m)(s:ZB H H'):LS gt jg jh H' a m:=by
 let⟨d,i,U,b⟩:=h.sh;let⟨Yo,L⟩:=h.lw;let⟨c,g,f⟩:=h.hd;let⟨e,G⟩:=h.gr;exact⟨⟨d,i,⟨U.sh.same s,U.wf,U.vl,U.av,U.live,U.l800⟩,b⟩,⟨Yo,L.same s⟩,⟨c,s _ _ g,f⟩,⟨e,G.same s⟩,s _ _ h.told,h.dd,h.tt,h.t2,h.t3,h.l64,h.l700⟩
end
structure LO(gt:jq)(H:Hp)(a:Pl)(m:Md):Prop where
 lw:∃ kvs,Xl H a.dT m.ts m.lv a.bs kvs
 hd:∃ hvs,H a.dH=some (.dK hvs)/\Wg hvs m.lv m.ho
 gr:∃ gs,UI gt H a.gl gs
 told:H a.tl=some (.lst (iN (zR m.ts.length)))
def LS.lo{gt:jq}{s q:aj}{H H':Hp}{a:Pl}{m:Md}(h:LS gt s q H a m)(t:∀ c o,c≠a.S->c≠a.d->c≠a.lk->(∀ i:Nat,i∈m.lv->c≠a.x i/\c≠a.ab i)->H c=some o->H' c=some o):LO gt H' a m:=by
 let⟨J,N,U,B⟩:=h.sh;let⟨Yo,L⟩:=h.lw;let⟨v,F,E⟩:=h.hd;let⟨D,G⟩:=h.gr;let R:=U.sh;let⟨⟨M,u⟩,z,A⟩:=R.sh;let w:∀ i:Nat,i∈m.lv->∃ n p,H (a.x i)=some (.ins q n p):=λi f=>by
  let⟨n,e⟩:=(R.tw i f).tw.self;exact⟨n,_,e⟩
 let r:∀ i:Nat,i∈m.lv->H (a.ab i)=some (.lst (iN (m.av i))):=λi f=>(R.tw i f).tw.above;let C:YR H H':=λb P e=>t b _ (ZD e u) (ZD e z) (ZD e A) (λi f=>by
  let⟨n,p,k⟩:=w i f;exact⟨ZD e k,ZD e (r i f)⟩) e
 let g:∀(c:aj)(l:je),H c=some (.lst l)->c≠a.lk->(∀ i:Nat,i∈m.lv->c≠a.ab i)->H' c=some (.lst l):=λc l e y K=>t c _ (ZD e u) (ZD e z) y (λi f=>by
  let⟨n,p,k⟩:=w i f;exact⟨ZD e k,K i f⟩) e
 let dict:∀(c:aj)(l:List (ZR×V)),H c=some (.dK l)->c≠a.d->H' c=some (.dK l):=λc l e y=>t c _ (ZD e u) y (ZD e A) (λi f=>by
  let⟨n,p,k⟩:=w i f;exact⟨ZD e k,ZD e (r i f)⟩) e
 refine⟨⟨Yo,L.frame C (dict _ _ L.dict h.dd.1) λi f o e=>?_⟩,⟨v,dict _ _ F h.dd.2.1,E⟩,⟨D,G.frame C (g _ _ G.at_ h.tt.2.2.symm λi f=>(h.t2 i f).2.2)⟩,g _ _ h.told h.tt.1 λi f=>(h.t2 i f).1⟩;let⟨O,p,_,_,k,_⟩:=L.tw i f;have:o=.lst p:=by have:=e.symm.trans k;exact zG.inj this
 subst this;exact g _ _ e (h.t3 i f).2.1 λj I=>(h.t3 i f).2.2 j I
def Yl{i j:Nat}:((Sum.inl ((i:Nat):Int):ZR)=Sum.inl ((j:Nat):Int)) ↔ i=j:=⟨λz=>by have:=Sum.inl.inj z;lia,λz=>by rw[z]⟩
def V6{a:jp}{n i:Nat}(h:i∈a++[n])(z:i≠n):i∈a:=(yX.mp h).elim id λy=>absurd (zI.mp y) z
def ZKj{a:List (ZR×V)}{b:jp}{n:Nat}(e:∀ i∈b,i<n)(h:a.map (·.1)=b.map (λi:Nat=>(Sum.inl (i:Int):ZR))):YI a (Sum.inl (n:Int))=none:=by
 cases z:YI a (Sum.inl (n:Int)) with
 | none=>rfl
 | some v=>
  have:=Nu z;rw[h] at this;let⟨i,d,c⟩:=zJ.mp this;let f:=Yl.mp c;let g:=e i d
  lia
def EM{a:List (ZR×V)}{b:jp}{n:Nat}{v:V}(c:∀ i∈b,i<n)(h:a.map (·.1)=b.map (λi:Nat=>(Sum.inl (i:Int):ZR))):(Zs a (.inl (n:Int)) v).map (·.1)=(b++[n]).map (λi:Nat=>(Sum.inl (i:Int):ZR)):=by
 rw[J0 v (ZKj c h),yO,h,yO];rfl
def FT{b:List (ZR×V)}{c:jp}{n:Nat}{a:Nat->Nat}(e:∀ i∈c,i<n)(h:Wg b c a):Wg (Zs b (.inl (n:Int)) (.int 1)) (c++[n]) (XW n a):=by
 exists EM e h.1;intro i d;rw[Uq];by_cases z:i=n
 ·subst z;rw[aO rfl,show XW i a i=1 from aO rfl];rfl
 ·rw[aM (λy=>z (Yl.mp y)),show XW n a i=a i from aM z];exact h.2 i (V6 d z)
def N9{a:List (ZR×V)}{k:ZR}{v w:V}(h:YI a k=some w):(Zs a k v).map (·.1)=a.map (·.1):=by
 let d:=Nu h;unfold Zs;split
 ·rw[zO];refine uD λp _=>?_;show (if p.1=k then (p.1,v) else p).1=p.1
  split <;> rfl
 ·rename_i c
  exfalso
  apply c;let⟨p,b,e⟩:=zJ.mp d;simp
  first | exact⟨p.2,by rw[<-e];exact b⟩ | exact⟨p.1,p.2,b,e⟩
def ZO9{c:List (ZR×V)}{d:jp}{b:Nat}{a:Nat->Nat}(h:Wg c d a)(e:b∈d):Wg (Zs c (.inl (b:Int)) (.int ((a b-1:Nat):Int))) d (P2 a b):=by
 exists by rw[N9 (h.2 b e)];exact h.1
 intro i f;rw[Uq];by_cases z:i=b
 ·subst z;rw[aO rfl,show P2 a i i=a i-1 from aO rfl]
 ·rw[aM (λy=>z (Yl.mp y)),show P2 a b i=a i from aM z];exact h.2 i f
def EH{bs:jv}{D:aj}{i:Nat}(h:i<bs.length):(bs++[D]).getD i 0=bs.getD i 0:=by
 rw[zS,wP h,<-zS]
def EZ{bs:jv}{D:aj}:(bs++[D]).getD bs.length 0=D:=by
 rw[zS,wO (zY _)];simp
def Ho{H c:Hp}{k:aj}{a:jr}{g:jp}{bs:jv}{f:List (ZR×V)}{t:ZL}{tp D:aj}{us:je}(L:Xl H k a g bs f)(l:∀ b∈t.bs,b∈g)(m:YR H c)(F:∀ i:Nat,i∈g->∀ o,H (bs.getD i 0)=some o->c (bs.getD i 0)=some o)(B:c k=some (.dK (Zs f (.inl (a.length:Int)) (.ref tp))))(E:c tp=some (.tup [.str (kindOf t),.ref D]))(A:c D=some (.lst us))(w:t.h=0->jU c (Y2 t.rows) us)(x:t.h≠0->us=iN t.bs):Xl c k (a++[t]) (g++[a.length]) (bs++[D]) (Zs f (.inl (a.length:Int)) (.ref tp)):=by
 let G:(a++[t]).length=a.length+1:=by simp
 exists B,L.vl.push l,EM L.vl.lt L.keys,by simp[L.len]
 intro i C;by_cases z:i=a.length
 ·subst z;let j:(bs++[D]).getD a.length 0=D:=by rw[<-L.len];exact EZ
  exists tp,us,by rw[Uq,aO rfl],?_,?_,?_
  ·rw[Pq,j];exact E
  ·rw[j];exact A
  ·rw[Pq];exact w
  ·rw[Pq];exact x
 ·let d:i∈g:=V6 C z;let e:=L.vl.lt i d;let⟨n,p,j,r,s,u,v⟩:=L.tw i d;let q:(bs++[D]).getD i 0=bs.getD i 0:=EH (by have:=L.len;lia)
  exists n,p,by rw[Uq,aM (λy=>z (Yl.mp y))];exact j,?_,?_,?_
  ·rw[Pf e,q];exact m _ _ r
  ·rw[q];exact F i d _ s
  ·rw[Pf e];exact λy=>(u y).mono m _ _
  ·rw[Pf e];exact v
def Pl.push(a:Pl)(b:YE)(D:aj):Pl:={ a with as:=a.as++[b],bs:=a.bs++[D] }
section
variable{gt:jq}{jg jh:aj}{H H':Hp}{a:Pl}{m:Md}{p:aj}{new:YE}{D:aj}
def LS.asl(h:LS gt jg jh H a m):a.as.length=m.ts.length/\a.bs.length=m.ts.length:=by
 let⟨b,c,R⟩:=h.shp;let⟨Yo,L⟩:=h.lw;exact⟨R.len,L.len⟩
def LS.lt(h:LS gt jg jh H a m){i:Nat}(b:i∈m.lv):i<m.ts.length:=by
 let⟨c,d,R⟩:=h.shp;exact R.lt i b
def OA(h:LS gt jg jh H a m){i:Nat}(c:i∈m.lv):(a.push new D).ab i=a.ab i/\(a.push new D).th i=a.th i/\(a.push new D).x i=a.x i/\(a.push new D).b i=a.b i:=by
 let⟨g,j⟩:=h.asl;let f:=h.lt c;let e:(a.as++[new]).getD i .d=a.as.getD i .d:=Kj ∅
 unfold Pl.ab Pl.th Pl.x Pl.b Pl.push;dsimp only;rw[e,EH ∅]
 exact⟨Z,Z,Z,Z⟩
def Oa(h:LS gt jg jh H a m):(a.push new D).ab m.ts.length=new.ab/\(a.push new D).th m.ts.length=new.th/\(a.push new D).x m.ts.length=new.x/\(a.push new D).b m.ts.length=D:=by
 let⟨f,g⟩:=h.asl;let e:(a.as++[new]).getD m.ts.length .d=new:=by rw[<-f];exact KZ
 let c:(a.bs++[D]).getD m.ts.length 0=D:=by rw[<-g];exact EZ
 unfold Pl.ab Pl.th Pl.x Pl.b Pl.push;dsimp only;rw[e,c];exact⟨Z,Z,Z,Z⟩
def EG(h:LS gt jg jh H a m){t:ZL}{s:Nat->jp}{k:Nat->Nat}(U:H new.th=none)(K:H new.ab=none)(L:H D=none)(x:D≠new.ab)(P:∃ c I,VS gt jg jh H' a.S a.d a.lk (m.ts++[t]) (m.lv++[m.ts.length]) s k (a.as++[new]) c I/\I.length<=100)(J:∃ c,Xl H' a.dT (m.ts++[t]) (m.lv++[m.ts.length]) (a.bs++[D]) c)(F:∃ u,H' a.dH=some (.dK u)/\Wg u (m.lv++[m.ts.length]) k)(C:∃ N,UI gt H' a.gl N)(n:H' a.tl=some (.lst (iN (zR (m.ts.length+1)))))(l:m.lv.length+1<64)(T:m.ts.length+1<=700):LS gt jg jh H' (a.push new D) ⟨m.ts++[t],m.lv++[m.ts.length],s,k⟩:=by
 let M:(m.ts++[t]).length=m.ts.length+1:=by simp
 let⟨N,G⟩:=h.gr;let⟨c,I,R⟩:=h.shp;let E:∀ i:Nat,i∈m.lv->H (a.ab i)=some (.lst (iN (m.av i))):=λi f=>(R.tw i f).tw.above;let⟨Yo,O⟩:=h.lw;let Q:∀ i:Nat,i∈m.lv->∃ w,H (a.b i)=some (.lst w):=λi f=>by
  let⟨Y,w,_,_,e,_⟩:=O.tw i f;exact⟨w,e⟩
 refine⟨P,J,F,C,by rw[M];exact n,h.dd,h.tt,λi f=>?_,λi f=>?_,by simpa using l,by rw[M];exact T⟩
 ·by_cases z:i=m.ts.length
  ·subst z;let⟨A,B,_,_⟩:=Oa (new:=new) (D:=D) h;rw[A,B];exact⟨ZW h.told K,ZW h.told U,ZW G.at_ K⟩
  ·let⟨A,B,_,_⟩:=OA (new:=new) (D:=D) h (i:=i) (V6 f z);rw[A,B];exact h.t2 i (V6 f z)
 ·let r:∀ j:Nat,j∈m.lv++[m.ts.length]->(j∈m.lv/\(a.push new D).ab j=a.ab j)\/(j=m.ts.length/\(a.push new D).ab j=new.ab):=λj q=>by
   by_cases y:j=m.ts.length
   ·subst y;exact .inr ⟨Z,(Oa h).1⟩
   ·exact .inl ⟨V6 q y,(OA h (V6 q y)).1⟩
  by_cases z:i=m.ts.length
  ·subst z;rw[(Oa (new:=new) (D:=D) h).2.2.2];exists (ZW h.told L).symm,(ZW R.sh.looks L).symm;intro j q;rcases r j q with ⟨v,o⟩ | ⟨v,o⟩
   ·rw[o];exact(ZW (E j v) L).symm
   ·rw[o];exact x
  ·let g:i∈m.lv:=V6 f z;rw[(OA (new:=new) (D:=D) h g).2.2.2];let⟨V,W,X⟩:=h.t3 i g;exists V,W;intro j q;rcases r j q with ⟨v,o⟩ | ⟨v,o⟩
   ·rw[o];exact X j v
   ·let⟨w,e⟩:=Q i g;rw[o];exact ZW e K
def WY.push(h:LS gt jg jh H a m)(o:WY a m p){t:ZL}{b:Nat->jp}{f:Nat->Nat}(j:new.th≠p)(k:new.ab≠p)(l:D≠p):WY (a.push new D) ⟨m.ts++[t],m.lv++[m.ts.length],b,f⟩ p:=by
 exists o.lk,o.gl,o.tl;intro i g;let n:(m.ts++[t]).length=m.ts.length+1:=by simp
 by_cases z:i=m.ts.length
 ·subst z;let⟨c,d,_,e⟩:=Oa (new:=new) (D:=D) h;rw[c,d,e];exact⟨k,j,l⟩
 ·let⟨c,d,_,e⟩:=OA (new:=new) (D:=D) h (i:=i) (V6 g z);rw[c,d,e];exact o.tw i (V6 g z)
def Zm(a:Pl)(m:Md)(c:aj):Prop:=c≠a.S/\c≠a.d/\c≠a.lk/\c≠a.dT/\c≠a.dH/\c≠a.tl/\∀ i:Nat,i∈m.lv->c≠a.x i/\c≠a.ab i
def Zm.push(h:LS gt jg jh H a m){c:aj}(v:Zm a m c){t:ZL}{b:Nat->jp}{f:Nat->Nat}(j:c≠new.x)(k:c≠new.ab):Zm (a.push new D) ⟨m.ts++[t],m.lv++[m.ts.length],b,f⟩ c:=by
 let⟨l,n,o,q,r,s,u⟩:=v;exists l,n,o,q,r,s;intro i g;let w:(m.ts++[t]).length=m.ts.length+1:=by simp
 by_cases z:i=m.ts.length
 ·subst z;let⟨d,_,e,_⟩:=Oa (new:=new) (D:=D) h;rw[d,e];exact⟨j,k⟩
 ·let⟨d,_,e,_⟩:=OA (new:=new) (D:=D) h (i:=i) (V6 g z);rw[d,e];exact u i (V6 g z)
def LS.tup(h:LS gt jg jh H a m){c:aj}{o:je}(e:H c=some (.tup o)):Zm a m c:=by
 let⟨n,s,R⟩:=h.shp;let⟨Yo,L⟩:=h.lw;let⟨k,f,_⟩:=h.hd;let⟨⟨q,d⟩,g,j⟩:=R.sh;exists ZD e d,ZD e g,ZD e j,ZD e L.dict,ZD e f,ZD e h.told;intro i b;let⟨r,l⟩:=(R.tw i b).tw.self;exact⟨ZD e l,ZD e (R.tw i b).tw.above⟩
end
def YF.frame{b c:aj}{H H':Hp}{S d g:aj}{p:jr}{j:jp}{k:Nat->jp}{l:Nat->Nat}{a:jx}{e:List (ZR×V)}{n:je}(R:YF b c H S d g p j k l a e n)(m:YR H H')(u:∀ o,H S=some o->H' S=some o)(v:∀ o,H d=some o->H' d=some o)(w:∀ o,H g=some o->H' g=some o)(h:∀ i:Nat,i∈j->(∀ o,H (a.getD i .d).x=some o->H' (a.getD i .d).x=some o)/\(∀ o,H (a.getD i .d).th=some o->H' (a.getD i .d).th=some o)/\(∀ o,H (a.getD i .d).ab=some o->H' (a.getD i .d).ab=some o)):YF b c H' S d g p j k l a e n:=by
 let⟨⟨q,r⟩,s,t⟩:=R.sh;exact⟨⟨⟨q,u _ r⟩,v _ s,w _ t⟩,R.keys,R.val,R.lt,R.len,λi f=>(R.tw i f).frame m (h i f).1 (h i f).2.1 (h i f).2.2,R.own,R.two⟩
def VS.frame{gt:jq}{a b:aj}{H H':Hp}{S d h:aj}{k:jr}{j:jp}{f:Nat->jp}{g:Nat->Nat}{e:jx}{c:List (ZR×V)}{i:je}(U:VS gt a b H S d h k j f g e c i)(R:YF a b H' S d h k j f g e c i):VS gt a b H' S d h k j f g e c i:=⟨R,U.wf,U.vl,U.av,U.live,U.l800⟩
def KN{f g:aj}{H:Hp}{S d m:aj}{u:jr}{p:jp}{q:Nat->jp}{r:Nat->Nat}{j:jx}{h:List (ZR×V)}{s z:je}{c:aj}{o':HO}(R:YF f g H S d m u p q r j h s)(e:H c=some (.lst z))(y:m≠c)(t:∀ i:Nat,i∈p->(j.getD i .d).ab≠c/\(j.getD i .d).th≠c):YF f g (upd H c o') S d m u p q r j h s:=by
 let⟨⟨A,v⟩,w,C⟩:=id R.sh;let k:∀ b o,b≠c->H b=some o->upd H c o' b=some o:=λb o n e=>by rw[ZO n];exact e
 refine R.frame (λb D a=>k _ _ (ZD a e) a) (λo a=>k _ _ (ZD v e) a) (λo a=>k _ _ (ZD w e) a) (λo a=>k _ _ y a) λi l=>?_;let⟨B,x⟩:=(R.tw i l).tw.self;exact⟨λo a=>k _ _ (ZD x e) a,λo a=>k _ _ (t i l).2 a,λo a=>k _ _ (t i l).1 a⟩
def Nt{f g:aj}{H:Hp}{S d q:aj}{t:jr}{s:jp}{m:Nat->jp}{p:Nat->Nat}{l:jx}{h z:List (ZR×V)}{r:je}{c:aj}{o':HO}(R:YF f g H S d q t s m p l h r)(e:H c=some (.dK z))(y:d≠c):YF f g (upd H c o') S d q t s m p l h r:=by
 let⟨⟨A,u⟩,C,v⟩:=id R.sh;let k:∀ b o,b≠c->H b=some o->upd H c o' b=some o:=λb o n e=>by rw[ZO n];exact e
 refine R.frame (λb E a=>k _ _ (ZD a e) a) (λo a=>k _ _ (ZD u e) a) (λo a=>k _ _ y a) (λo a=>k _ _ (ZD v e) a) λi j=>?_;let⟨B,x⟩:=(R.tw i j).tw.self;let⟨D,w,_⟩:=(R.tw i j).things;exact⟨λo a=>k _ _ (ZD x e) a,λo a=>k _ _ (ZD w e) a,λo a=>k _ _ (ZD (R.tw i j).tw.above e) a⟩
def ME{H a:Hp}{p:aj}(W:ZJ H p)(k:∀ o,H p=some o->a p=some o):ZJ a p:=by
 let⟨b,c,d,e,f,g⟩:=W.ex;exact⟨b,c,d,e,k _ f,g⟩
def X8(a:Pl):je:=[.ref a.S,.ref a.dT,.ref a.dH,.ref a.gl,.ref a.tl]
inductive Y7(gt:jq)(jg jh:aj)(i:je)(H:Hp)(Q:VK)(_:XK):Prop
 |mk(p h:aj)(b:Int)(a:Pl)(m:Md)(_:i=[.ref p,.ref h,.int b])(_:ZJ H p)(_:H h=some (.tup (X8 a)))(_:LS gt jg jh H a m)(_:WY a m p)(_:0<=b)(_:b<16)(_:m.lv.length<=50)(_:m.ts.length<=600)(_:∀(e:Hp)(g:Pl)(d:Md),(∀ c o,H c=some o->Zm a m c->Zm g d c/\(c≠p->e c=some o))->ZJ e p->LS gt jg jh e g d->WY g d p->X8 g=X8 a->d.ts.length=m.ts.length+1->d.lv=m.lv++[m.ts.length]->Q (.bl true) e)
abbrev Ej:js:=["_law_well_here","_law_state","_law_block","_law_shelf","_law_twigs","_law_holds","_law_grid_here","_law_told","_law_rows","_law_number"]
def WS:ZA Ej zEo (Ze Kn):=Z4
def Hd(n:Nat):iN (zR n)++[.int (n:Nat)]=iN (zR (n+1)):=by rw[List.range_succ];simp[iN]
def ZOb{e:jp}{n:Nat}(h:∀ b∈e,b<n):Nf (-1) (e.map λb:Nat=>(b:Int))<(n:Int):=by
 let i:∀(l:jw)(x:Int),x<(n:Int)->(∀ y∈l,y<(n:Int))->Qh x l<(n:Int):=λl=>by
  induction l with
  | nil=>intro x a _;exact a
  | cons c l k=>
   intro x a g;unfold Qh;rw[tO];refine k _ ?_ λy d=>g y (zH _ d);split
   ·exact g c zP
   ·exact a
 cases e with
 | nil=>show (-1:Int)<_;lia
 | cons b r=>
  show Qh _ _<_;refine i _ _ (show ((b:Nat):Int)<(n:Int) by have:=h b zP;lia) λy d=>?_
  let⟨z,j,rfl⟩:=zJ.mp d;have:=h z (zH _ j);show ((z:Nat):Int)<(n:Int)
  lia
def AH{gt:jq}(F:Zn K "_law_put_leaf" "_law_put_leaf" Kn f fd)(T:YZ mg)(L:Yj K mg jg jh)(DR:ZC P w K mg kf 2 "_law_leaf_rows" zEt WD)(DM:ZI P w K mg kf Zc 10 jg "put_leaf" zFf (Wk jg jh)):
  ZK P w K mg kf Zc 11 f fd zEo (Y7 gt jg jh):=by
 refine F.ko WS λi6 A i1 s H vs Q E hr h=>?_;let⟨p,st,b,a,m,rfl,W,e6,q,O,b0,b1,l2,i5,k⟩:=h;let nd:=WS.nd;let hu:=WV hr;let e5:=hr.mono (show 2<=10 by lia)
 intro Xc;refine⟨_,ZN (Q5 (pv 1) (PM rfl (Y6 (Ye 3 nd) (Y6 (Ye 4 nd) (Y6 (Ye 5 nd) (Y6 (Ye 6 nd) (Y6 (Ye 7 nd) Q2)))))))
  (ZN (Zo 8 nd (Zk DR e5 (UG (pv 0) (Zd (pv 6) (pv 2)))))
  (ZN (Zo 9 nd (Yp (E:=E0) (pv 3) L.cS DM hr Yv (ZX (Wt PU rfl T.list Up (ZX (pv 8))))))
  (ZN (Zy (PW.pt (VO (XT (Yk (Zp Xx rfl T.isi XG (Zd (pv 9) (Xw (v:=.ty "int") rfl T.int U8 rfl))))) (VO (Yk (Zp Xx rfl T.isi XG (Zd (pv 9) (Xw (v:=.ty "bool") rfl T.bool NS rfl))))
   (Uj (YJ Qu (pv 9) (ZMV rfl rfl T.max (ZX (pv 7)) (Bg (Pn Pr ZM) ZOO)) (Z3 _)))))) WW Z0)
  (ZN (Xu (Vn yJ xV xU V1 (pv 7) (ZX (pv 9))))
  (ZN (Uu hu (pv 4) (pv 9) (Ym (Zd Yn (pv 8))) rfl)
  (ZN (Uu hu (pv 5) (pv 9) ZM rfl)
  (ZV (Zq Uf)))))))),?_⟩
 let⟨l7,c1⟩:=W.some;let⟨gs,G⟩:=q.gr;let e8:gs.length=64:=by rw[<-G.keys.length,G.len]
 exists _,Z,st,_,Z,Za.of e6,Z,_,_,Z,_,_,Z,_,_,Z,_,_,Z,_,_,Z,Z;exists _,Z,_,Z,_,Z,p,a.gl,b,gs,gt,Z,W,O.gl,G.at_,G.keys,G.fit,e8,b0,b1;intro D us rs H1 s1 W1 nD a1 a2 e3 c2 i7 i8;let S1:=q.sx O c1 s1;let l6:us.length=rs.length:=by have:=a2.length;rw[<-this];exact zX _
 let Gd:=ZNh G.up e3 c2 ∅ ∅
 let⟨e7,ls,U1,c4⟩:=S1.sh;let⟨dx,e0⟩:=U1.sh.sh.self;exists _,Z,a.S,dx,_,Z,e0,Z,_,Z,D,us,Z,.inl (ZF.of a1);intro l9 n9;let⟨H2,eU,X,e9⟩:=VN n9 (.lst us);rw[eU];let S2:=S1.same X;let U2:=U1.sh.same X;let l3:=q.l64;exists a.S,a.d,a.lk,l9,m.ts,m.lv,m.av,m.ho,a.as,e7,ls,us,rs,Z,U2,∅,e9,a2.sm X,Gd
 intro R u nx a5 M fr R3;let i0:∀ y∈(zR m.ts.length),y<m.ts.length:=λy hy=>xL.mp hy;let U3:=ZKy (U1.frame U1.sh) ∅ (ZMt Gd c2) R3
 let U:=S2.lo (H':=R) λc o n1 n2 n3 n4 e=>fr c o n1 n2 e;let j:=U.told;let c0:(iN (zR m.ts.length))=((zR m.ts.length).map λb:Nat=>(b:Int)).map V.int:=by rw[zO];rfl
 refine⟨_,Z,_,_,_,_,Z,.int _,OC,_,Z,Zj ?_⟩;refine⟨_,Z,_,_,_,_,Z,.int _,MW,_,Z,Zj ?_⟩;exists _,Z,_,Z,1,Z,a.tl,(zR m.ts.length).map (λb:Nat=>(b:Int)),-1,Z,Z,ZF.of (by rw[<-c0];exact j),_,_,Z,Z,_,Z
 rw[aJ (by have:=ZOb i0;lia)]
 refine Zj ?_;exists _,Z,.inl ⟨Z,_,ZF.of j⟩,_,Z,a.tl,_,.int (m.ts.length:Nat),Z,Z,j,YO (by simp[iN];lia)
 let i9:=U2.sh.looks;let⟨x,r,hH⟩:=U.hd;let⟨Yo,l⟩:=U.lw;let⟨c8,G3⟩:=U.gr;let c9:R D=some (.lst us):=by
  let e:=X _ _ a1;let⟨⟨dS,hS⟩,hk,_⟩:=U2.sh;exact fr _ _ (ZD e hS) (ZD e hk) e
 let i3:YR H1 R:=λc ys e=>by
  let⟨⟨dS,hS⟩,hk,_⟩:=U2.sh;let C:=X _ _ e;exact fr _ _ (ZD C hS) (ZD C hk) C
 let e4:=a2.mono i3 _ _;let g:∀ c,H2 c=none->H c=none:=λc e=>by
  cases z:H c with
  | none=>rfl
  | some o=>
   by_cases y:c=p
   ·subst y;let⟨xs,C⟩:=W1.some;rw[X _ _ C] at e;cases e
   ·rw[X _ _ (s1 _ _ z y)] at e;cases e
 let N:a.tl≠u.ab/\a.tl≠u.th:=⟨ZW S2.told M,ZW S2.told a5⟩;let c5:∀ i:Nat,i∈m.lv++[m.ts.length]->((a.as++[u]).getD i .d).ab≠a.tl/\((a.as++[u]).getD i .d).th≠a.tl:=λi hi=>by
  by_cases z:i=m.ts.length
  ·subst z;let⟨e1,e2,_,_⟩:=Oa (new:=u) (D:=D) q;exact⟨λy=>N.1 (by rw[<-e1];exact y.symm),λy=>N.2 (by rw[<-e2];exact y.symm)⟩
  ·let⟨e1,e2,_,_⟩:=OA (new:=u) (D:=D) q (i:=i) (V6 hi z);let t2:=q.t2 i (V6 hi z);exact⟨λy=>t2.1 (by rw[<-e1];exact y.symm),λy=>t2.2.1 (by rw[<-e2];exact y.symm)⟩
 let R4:=KN (o':=.lst (iN (zR m.ts.length)++[.int (m.ts.length:Nat)])) R3 j q.tt.1.symm c5;let B:∀ c o,c≠a.tl->R c=some o->upd R a.tl (.lst (iN (zR m.ts.length)++[.int (m.ts.length:Nat)])) c=some o:=λc o n e=>by rw[ZO n];exact e
 let Y:upd R a.tl (.lst (iN (zR m.ts.length)++[.int (m.ts.length:Nat)])) a.tl=some (.lst (iN (zR (m.ts.length+1)))):=by rw[ZP,Hd]
 generalize upd R a.tl (.lst (iN (zR m.ts.length)++[.int (m.ts.length:Nat)]))=H4 at R4 B Y⊢;exists _,Z,YA;intro t nt;let⟨H5,eU,g5,t5⟩:=VN nt (.tup [.str "leaf",.ref D]);rw[eU];let R5:=R4.same g5;let a0:H5 a.dT=some (.dK Yo):=g5 _ _ (B _ _ (ZD l.dict j) l.dict);let l5:Yo.length=m.lv.length:=by have:=congrArg yD l.keys;simpa using this
 let l4:x.length=m.lv.length:=by have:=congrArg yD hH.1;simpa using this
 exists _,Z,_,Z,a.dT,_,Z,Y3.k (k:=Sum.inl (m.ts.length:Int)) a0 (YO ∅)
 let R6:=Nt (o':=.dK (Zs Yo (.inl (m.ts.length:Int)) (.ref t))) R5 a0 q.dd.1.symm;let I:∀ c o,c≠a.dT->H5 c=some o->upd H5 a.dT (.dK (Zs Yo (.inl (m.ts.length:Int)) (.ref t))) c=some o:=λc o n e=>by rw[ZO n];exact e
 let a9:upd H5 a.dT (.dK (Zs Yo (.inl (m.ts.length:Int)) (.ref t))) a.dT=some (.dK (Zs Yo (.inl (m.ts.length:Int)) (.ref t))):=ZP;generalize upd H5 a.dT (.dK (Zs Yo (.inl (m.ts.length:Int)) (.ref t)))=H6 at R6 I a9⊢;let a7:H6 a.dH=some (.dK x):=I _ _ q.dd.2.2.symm (g5 _ _ (B _ _ (ZD r j) r));exists _,Z,_,Z,a.dH,_,Z,Y3.k (k:=Sum.inl (m.ts.length:Int)) a7 (YO ∅)
 let R7:=Nt (o':=.dK (Zs x (.inl (m.ts.length:Int)) (.int 1))) R6 a7 q.dd.2.1.symm;let J:∀ c o,c≠a.dH->H6 c=some o->upd H6 a.dH (.dK (Zs x (.inl (m.ts.length:Int)) (.int 1))) c=some o:=λc o n e=>by rw[ZO n];exact e
 let a8:upd H6 a.dH (.dK (Zs x (.inl (m.ts.length:Int)) (.int 1))) a.dH=some (.dK (Zs x (.inl (m.ts.length:Int)) (.int 1))):=ZP;generalize upd H6 a.dH (.dK (Zs x (.inl (m.ts.length:Int)) (.int 1)))=H7 at R7 J a8⊢;let a3:∀ c o,c≠a.tl->c≠a.dT->c≠a.dH->R c=some o->H7 c=some o:=λc o n1 n2 n3 e=>J _ _ n3 (I _ _ n2 (g5 _ _ (B _ _ n1 e)));let a6:YR R H7:=λc ys e=>a3 _ _ (ZD e j) (ZD e l.dict) (ZD e r) e;let a4:∀ c xs,c≠a.tl->R c=some (.lst xs)->H7 c=some (.lst xs):=λc xs n e=>a3 _ _ n (ZD e l.dict) (ZD e r) e;let tD:a.tl≠D:=ZW q.told nD;let c6:D≠u.ab:=ZW (X _ _ a1) M;let i2:H7 t=some (.tup [.str "leaf",.ref D]):=J _ _ (ZD t5 (g5 _ _ (B _ _ (ZD r j) r))) (I _ _ (ZD t5 a0) t5);let c7:LS gt jg jh H7 (a.push u D) ⟨m.ts++[Uo rs],m.lv++[m.ts.length],WQ m.ts.length m.av,XW m.ts.length m.ho⟩:=by
  refine EG q (g _ a5) (g _ M) nD c6 ⟨_,ls,U3.frame R7,c4⟩ ⟨_,Ho (tp:=t) l (λb hb=>by cases hb) a6 (λi hi o e=>?_) ?_ ?_ (a4 _ _ tD.symm c9) (λ_=>e4.mono a6 _ _) (λz=>absurd Z z)⟩ ⟨_,a8,FT (λi hi=>q.lt hi) hH⟩ ⟨c8,G3.frame a6 (a4 _ _ q.tt.2.1.symm G3.at_)⟩ ?_ ∅ ∅
  ·let⟨tp,i4,_,_,C,_⟩:=l.tw i hi;have:o=.lst i4:=by have:=e.symm.trans C;exact zG.inj this
   subst this;exact a4 _ _ (q.t3 i hi).1 e
  ·exact J _ _ q.dd.2.2 a9
  ·exact i2
  ·exact J _ _ (ZD Y (B _ _ (ZD r j) r)) (I _ _ (ZD Y (B _ _ (ZD l.dict j) l.dict)) (g5 _ _ Y))
 let c3:∀ c o,c≠a.S->c≠a.d->c≠a.tl->c≠a.dT->c≠a.dH->H1 c=some o->H7 c=some o:=λc o n1 n2 n3 n4 n5 e=>a3 _ _ n3 n4 n5 (fr _ _ n1 n2 (X _ _ e));let W7:ZJ H7 p:=ME W1 λo e=>by
  let⟨xs,C⟩:=W1.some;let eo:o=.lst xs:=by have:=e.symm.trans C;exact zG.inj this
  subst eo;let⟨⟨dS,hS⟩,hk,_⟩:=U1.sh.sh;let⟨l1,LA⟩:=S1.lw;let⟨l0,hA,_⟩:=S1.hd;exact c3 _ _ (ZD C hS) (ZD C hk) O.tl.symm (ZD C LA.dict) (ZD C hA) C
 let pn:∀ c,H c=none->c≠p:=λc e=>(ZW c1 e).symm;refine k H7 _ _ (λc o e v=>?_) W7 c7 (O.push q (pn _ (g _ a5)) (pn _ (g _ M)) (pn _ nD)) Z (by simp) Z
 let⟨v1,v2,v3,v4,v5,v6,v7⟩:=id v;exact⟨v.push q (ZW e (g _ nx)) (ZW e (g _ M)),λcp=>c3 _ _ v1 v2 v6 v4 v5 (s1 _ _ e cp)⟩
abbrev Js:Stmt:=Xo (top 36) 4
structure Zw(K:zZ)(C:aj)(m q:Str)(st:aB)(ps:js):Prop where
 ex:∃ f fd,Uc K C m f/\Zn K m q st f fd/\Z5 K fd ps []
def Zw.of{P:al}{w:ar}{K:zZ}{g:jb}{a:aC}{e:Wv}{C:aj}{m q:Str}{j:aB}{d:js}{k:Nat}{i:Sp}(L:Zw K C m q j d)(h:∀ f c,Zn K m q j f c->ZK P w K g a e k f c d i):ZI P w K g a e k C m d i:=by
 let⟨f,c,M,F,b⟩:=L.ex;exact⟨f,c,M,h f c F,b⟩
section
variable{jg jh:aj}{H H':Hp}{S d lk:aj}{ts:jr}{lv:jp}{av:Nat->jp}{ho:Nat->Nat}{as:jx}{kvs:List (ZR×V)}{ls:je}{b i:Nat}
def YF.set1(R:YF jg jh H S d lk ts lv av ho as kvs ls)(g:b∈lv){av':Nat->jp}{ho':Nat->Nat}(B:∀ c,c≠b->av' c=av c)(C:∀ c,c≠b->ho' c=ho c)(F:∃ u,H' (as.getD b .d).x=some (.ins jh u (VC (.ref (as.getD b .d).th) (.ref (as.getD b .d).tg) (as.getD b .d).ab (ho' b))))(E:H' (as.getD b .d).ab=some (.lst (iN (av' b))))(k:∀ c o,c≠(as.getD b .d).x->c≠(as.getD b .d).ab->H c=some o->H' c=some o):YF jg jh H' S d lk ts lv av' ho' as kvs ls:=by
 let⟨⟨t,r⟩,n,s⟩:=R.sh;let h:=R.tw b g;let⟨v,a⟩:=h.tw.self;let f:=h.tw.above;let⟨L,q,y,A⟩:=h.things;let m:YR H H':=λc U e=>k c _ (ZD e a) (ZD e f) e;refine⟨⟨⟨t,k _ _ (R.own b g).1.symm (ZD r f) r⟩,k _ _ (ZD n a) (ZD n f) n,k _ _ (ZD s a) (R.own b g).2.1.symm s⟩,R.keys,R.val,R.lt,R.len,λi l=>?_,R.own,R.two⟩;by_cases z:i=b
 ·subst z;exact⟨⟨F,E⟩,⟨L,k _ _ (ZD q a) (R.own i l).2.2.2.symm q,λz=>(y z).mono m _ _,A⟩,h.tag.mono m⟩
 ·let j:=R.tw i l;let⟨J,K,P,Q⟩:=R.two i b l g z;let⟨M,N,I,O⟩:=R.two b i g l (Ne.symm z);let⟨w,p⟩:=j.tw.self;let⟨T,D,_⟩:=j.things;let G:=j.frame m (λo e=>k _ _ J (ZD p f) e) (λo e=>k _ _ (ZD D a) I.symm e) (λo e=>k _ _ (ZD j.tw.above a) K e);refine⟨?_,G.things,G.tag⟩;rw[B i z,C i z];exact G.tw
end
def Om(a:Nat->Nat)(b:Nat):Nat->Nat:=λi=>if i=b then a i+1 else a i
inductive QL(jg jh:aj)(n:je)(H:Hp)(Q:VK)(_:XK):Prop
 |mk(S d k:aj)(m:jr)(h:jp)(i:Nat->jp)(j:Nat->Nat)(g:jx)(a:List (ZR×V))(l:je)(b:Nat)(_:n=[.ref S,.int (b:Nat)])(_:YF jg jh H S d k m h i j g a l)(_:b∈h)(_:∀ e:Hp,(∀ c o,c≠(g.getD b .d).x->H c=some o->e c=some o)->YF jg jh e S d k m h i (Om j b) g a l->Q .non e)
def Qi:ZA zFa zEa (Ze Js):=Z4
def Ek(F:Zn K "hold" "Shelf.hold" Js f fd)(L:Yj K mg jg jh)(u:ZI P w K mg kf Zc 1 jg "twig_of" zEa (Zr jg)):ZK P w K mg kf Zc 2 f fd zEa (QL jg jh):=by
 refine F.ko Qi λy A q s H T Q E C h=>?_;let⟨S,d,D,M,O,v,i,g,p,G,b,rfl,R,l,k⟩:=h;let J:=Qi.nd;intro N;refine⟨_,ZN (Zo 2 J (Yp (E:=E0) (pv 0) L.cS u C Yv (ZX (pv 1))))
  (ZV (Kd (pv 2) ZM FR)),?_⟩
 let⟨z,B⟩:=R.sh.self;let t:=R.tw b l;let⟨j,m⟩:=t.tw.self;let a:=t.tw.above;exists _,Z,S,z,_,Z,B,Z,_,Z,S,d,D,M.length,p,G,(b:Int),.ref (g.getD b .d).x,Z,R.sh,R.val b l;exists _,Z,(g.getD b .d).x,jh,j,_,.int (i b:Nat),Z,m,L.cT,L.nho,Z,_,_,Z,Z,j,_,m,yR Z;let r:(g.getD b .d).ab≠(g.getD b .d).x:=ZD a m;refine k _ (λc o n e=>by rw[ZO n];exact e) (R.set1 l (av':=v) (ho':=Om i b) (λ_ _=>rfl) (λc n=>aM n) ⟨j,?_⟩ ?_ λc o I _ e=>by rw[ZO I];exact e)
 ·rw[ZP,show Om i b b=i b+1 from aO rfl];rfl
 ·rw[ZO r];exact a
def Cg{c:List (ZR×V)}{d:jp}{b:Nat}{a:Nat->Nat}(h:Wg c d a)(e:b∈d):Wg (Zs c (.inl (b:Int)) (.int (((a b:Nat):Int)+1))) d (Om a b):=by
 exists by rw[N9 (h.2 b e)];exact h.1
 intro i f;rw[Uq];by_cases z:i=b
 ·subst z;rw[aO rfl,show Om a i i=a i+1 from aO rfl];rfl
 ·rw[aM (λy=>z (Yl.mp y)),show Om a b i=a i from aM z];exact h.2 i f
inductive Wz(gt:jq)(jg jh:aj)(g:je)(H:Hp)(Q:VK)(_:XK):Prop
 |mk(p e:aj)(a:Pl)(m:Md)(_:g=[.ref p,.ref e])(_:ZJ H p)(_:H e=some (.tup (X8 a)))(_:LS gt jg jh H a m)(_:WY a m p)(_:0<m.lv.length)(_:∀(b:Hp)(d:Md),(∀ c o,c≠p->Zm a m c->H c=some o->b c=some o)->ZJ b p->LS gt jg jh b a d->d.ts=m.ts->d.lv=m.lv->Q (.bl true) b)
abbrev B3:js:=["_law_well_here","_law_state","_law_shelf","_law_twigs","_law_holds","_law_grid_here","_law_told","_law_number"]
def UZ:ZA B3 zEf (Ze IV):=Z4
def ZLQ{gt:jq}(F:Zn K "_law_hold" "_law_hold" IV f fd)(T:YZ mg)(L:Yj K mg jg jh)(DK:ZC P w K mg kf 2 "_law_picked" zEk Yc)(DM:ZI P w K mg kf Zc 2 jg "hold" zEa (QL jg jh)):
  ZK P w K mg kf Zc 3 f fd zEf (Wz gt jg jh):=by
 refine F.ko UZ λa6 A a4 s H vs Q E hr h=>?_;let⟨p,st,a,m,rfl,W,a2,r,O,l0,k⟩:=h;let D:=UZ.nd;let hu:=WV hr;intro Xc;refine⟨_,ZN (Q5 (pv 1) (PM rfl (Y6 (Ye 2 D) (Y6 (Ye 3 D) (Y6 (Ye 4 D) (Y6 (Ye 5 D) (Y6 (Ye 6 D) Q2)))))))
  (ZN (Zo 7 D (Zk DK hr (Zd (pv 0) (Zp (Qa rfl) rfl T.sorted Uk (ZX (pv 3))))))
  (ZN (Uu hu (pv 4) (pv 7) (Zu Xm (Xp hu (pv 4) (pv 7)) ZM) rfl)
  (ZV (Zq (Hw (O3 (Yp (E:=E0) (pv 2) L.cS DM hr Yv (ZX (pv 7))))))))),?_⟩
 let⟨a7,J⟩:=W.some;let⟨a5,Lw⟩:=r.lw;let a3:=r.l64;let eL:(m.lv.map λi:Nat=>(i:Int)).map V.int=iN m.lv:=by rw[zO];rfl
 exists _,Z,st,_,Z,Za.of a2,Z,_,_,Z,_,_,Z,_,_,Z,_,_,Z,_,_,Z,Z;exists _,Z,_,Z,a.dT,a5,m.lv.map λi:Nat=>(i:Int),Z,Lw.dict,(by rw[Lw.keys,zO];rfl),Ub Lw.vl.up,by simpa using a3
 intro q nq;rw[eL];let⟨H1,eU,g1,hq⟩:=VN nq (.lst (iN m.lv));rw[eU];exists p,q,iN m.lv,Z,W.same g1,(ZW J nq).symm,hq,by rw[zX];exact l0,by rw[zX];lia
 intro x t x2 W2 hx;let⟨b,I,rfl⟩:=zJ.mp hx;let xx:ZH p H t:=(ZH.of g1).trans x2;let B:=r.sx O J xx;let⟨R,ls,U,X⟩:=B.sh;let⟨Yo,u⟩:=B.lw;let⟨j,g,hH⟩:=B.hd;let⟨gs,G⟩:=B.gr;let lh:j.length=m.lv.length:=by have:=congrArg yD hH.1;simpa using this
 let hg:Zg t a.dH (.int (b:Nat)) (some (.int (m.ho b:Nat))):=hH.2 b I ▸ Zg.k (k:=Sum.inl (b:Int)) g;exists _,Z,_,Z,a.dH,.int (m.ho b:Nat),Z,hg,_,_,Z,Z,_,Z,_,Z,a.dH,_,Z,Y3.k (k:=Sum.inl (b:Int)) g (YO ∅)
 let Y:=Nt (o':=.dK (Zs j (.inl (b:Int)) (.int (((m.ho b:Nat):Int)+1)))) U.sh g r.dd.2.1.symm;let ke:∀ c o,c≠a.dH->t c=some o->upd t a.dH (.dK (Zs j (.inl (b:Int)) (.int (((m.ho b:Nat):Int)+1)))) c=some o:=λc o n e=>by rw[ZO n];exact e
 let y:upd t a.dH (.dK (Zs j (.inl (b:Int)) (.int (((m.ho b:Nat):Int)+1)))) a.dH=some (.dK (Zs j (.inl (b:Int)) (.int (((m.ho b:Nat):Int)+1)))):=ZP;generalize upd t a.dH (.dK (Zs j (.inl (b:Int)) (.int (((m.ho b:Nat):Int)+1))))=H3 at Y ke y⊢;let⟨dS,hS⟩:=Y.sh.self;let⟨dx,N⟩:=(Y.tw b I).tw.self;exists _,Z,a.S,dS,_,Z,hS,Z,_,Z,a.S,a.d,a.lk,m.ts,m.lv,m.av,m.ho,a.as,R,ls,b,Z,Y,I;intro H4 fr R4;let l:∀ c o,c≠a.dH->(∀ C dx fs,o≠.ins C dx fs)->t c=some o->H4 c=some o:=λc o n ni e=>fr _ _ (ZD (ke c o n e) N (ni _ _ _)) (ke c o n e);let tu:YR t H4:=λc ys e=>l c _ (ZD e g) (by intro _ _ _ z;cases z) e
 let a0:=fr _ _ (ZD y N) y;refine k H4 ⟨m.ts,m.lv,m.av,Om m.ho b⟩ (λc o np v e=>fr _ _ (v.2.2.2.2.2.2 b I).1 (ke c o v.2.2.2.2.1 (xx _ _ e np))) (by let⟨a1,b1,c1,d1,M,rr⟩:=W2.ex;exact⟨a1,b1,c1,d1,l _ _ (ZD M g) (by intro _ _ _ z;cases z) M,rr⟩) ⟨⟨R,ls,⟨R4,U.wf,U.vl,U.av,λi hi=>zE (U.live i hi) (Nat.add_le_add_left ?_ _),U.l800⟩,X⟩,⟨Yo,u.frame tu (l _ _ r.dd.2.2 (by intro _ _ _ z;cases z) u.dict) λi hi o e=>?_⟩,⟨_,a0,Cg hH I⟩,⟨gs,G.frame tu (l _ _ (ZD G.at_ g) (by intro _ _ _ z;cases z) G.at_)⟩,l _ _ (ZD B.told g) (by intro _ _ _ z;cases z) B.told,r.dd,r.tt,r.t2,r.t3,r.l64,r.l700⟩ Z Z
 ·show m.ho i<=(if i=b then m.ho i+1 else m.ho i)
  split <;> lia
 ·let⟨tp,us,_,_,e3,_⟩:=u.tw i hi;have:=e.symm.trans e3;cases this;exact l _ _ (ZD e g) (by intro _ _ _ z;cases z) e
def Pj{a:jr}{s i:Nat}{t:ZL}(h:s<a.length):gd (a.set s t) i=if i=s then t else gd a i:=by
 unfold gd;rw[zS,zS];by_cases z:i=s
 ·subst z;rw[aO rfl,vC h];rfl
 ·rw[aM z,vQ (Ne.symm z)]
def Xn(a:jr):jp->Option (jr)
 | []=>some a
 | s::r=>if over (Z7 a (gd a s).bs)=none then none else Xn (a.set s (YT a (gd a s).bs)) r
def Zz.like{gt:jq}{a ts':jr}{i:Nat}{t:ZL}(h:Zz gt a i t)(d:ts'.length=a.length)(e:∀ b∈t.bs,gd ts' b=gd a b):Zz gt ts' i t:=by
 exists h.ne,h.up,h.inn,h.leaf;intro z;let⟨j,k,f,m⟩:=h.stem z;exists j,k,λb g=>⟨by rw[d];exact(f b g).1,by rw[e b g];exact(f b g).2⟩
 rw[m];clear j k f m;have:∀ l:jp,(∀ b∈l,gd ts' b=gd a b)->(l.flatMap λb=>(gd a b).rows)=l.flatMap λb=>(gd ts' b).rows:=λl d=>by
  induction l with
  | nil=>rfl
  | cons b l o=>rw[xE,xE,d b (by simp),o λc n=>d c (zH _ n)]
 exact this _ e
section
variable{gt:jq}{ts:jr}{lv:jp}{ho:Nat->Nat}
def JR{i j:Nat}(a:j∈lv)(h:i∈(gd ts j).bs):j∈YG ts lv i:=by
 unfold YG;exact yN.mpr ⟨a,aK h⟩
def Zx.ne{i:Nat}{l:jp}(h:Zx ts lv ho i l):∃ r,l=i::r:=by
 cases h with
 | top=>exact⟨_,Z⟩
 | up=>exact⟨_,Z⟩
def Go{i j:Nat}{r:jp}(h:(YG ts lv i).length+ho i=1)(e:YG ts lv i=j::r):YG ts lv i=[j]:=by
 rw[e] at h⊢;rw[zA] at h;have:r=[]:=rM.mp ∅
 rw[this]
def Zx.facts(t:WF gt ts)(w:Lv ts lv){i:Nat}{l:jp}(h:Zx ts lv ho i l)(o:i∈lv):(∀ j∈l,j∈lv/\(gd ts i).h<=(gd ts j).h)/\(∀ j∈l.tail,(gd ts i).h<(gd ts j).h)/\l.Nodup/\∀ b∈l,∀ j∈lv,b∈(gd ts j).bs->j∈l.tail:=by
 induction h with
 | top a b=>
  exists λj g=>by rw[zI.mp g];exact⟨o,zY _⟩,λj g=>(by cases g),by simp
  intro c f j g k;rw[zI.mp f] at k;have:=JR g k;rw[b] at this;cases this
 | up a b p u=>
  rename_i i j l r
  let g:=OW t w (i:=i) (j:=j) (by rw[b];exact zP)
  let⟨m,x,q,s⟩:=u g.2;refine⟨λc f=>?_,λc f=>?_,xQ.mpr ⟨λz=>?_,q⟩,λc f d n k=>?_⟩
  ·rcases zB.mp f with z | z
   ·rw[z];exact⟨o,zY _⟩
   ·have:=m c z;exact⟨this.1,∅⟩
  ·have:=(m c f).2
   lia
  ·have:=(m i z).2
   lia
  ·rcases zB.mp f with z | z
   ·rw[z] at k;have:=JR n k;rw[Go a b] at this;rw[zI.mp this];let⟨v,e⟩:=p.ne;rw[e];exact zP
   ·let⟨v,e⟩:=p.ne;have:=s c z d n k;rw[e] at this⊢;exact zH _ this
structure VR(gt:jq)(ts:jr)(lv:jp)(n:Nat)(cur:jr)(done rest:jp):Prop where
 len:cur.length=ts.length
 hh:∀ i,(gd cur i).h=(gd ts i).h
 sh:∀ i,i≠n->(gd cur i).bs=(gd ts i).bs
 nb:∀ b∈(gd cur n).bs,b∈lv/\(gd ts b).h<(gd ts n).h
 up:∀ j∈rest,j≠n/\(gd ts n).h<(gd ts j).h
 ok:∀ i∈lv,i∉rest->Zz gt cur i (gd cur i)
 old:∀ i,i∉done->gd cur i=gd ts i
def LX(m:WF gt ts)(f:Lv ts lv){n:Nat}{rest:jp}(r:Zx ts lv ho n (n::rest))(l:n∈lv){t:ZL}(v:t.h=(gd ts n).h)(u:∀ b∈t.bs,b∈lv)(e:Zz gt ts n t):VR gt ts lv n (ts.set n t) [n] rest:=by
 let d:=f.lt n l;let g:∀ i,gd (ts.set n t) i=if i=n then t else gd ts i:=λi=>Pj d
 let⟨A,p,q,s⟩:=r.facts m f l;let o:∀ b∈t.bs,(gd ts b).h<(gd ts n).h:=λb z=>by
  by_cases y:t.h=0
  ·rw[(e.leaf y).1] at z;cases z
  ·have:=((e.stem y).2.2.1 b z).2
   lia
 let x:n∉t.bs:=λz=>by have:=o n z;lia
 refine⟨wV,λi=>?_,λi z=>by rw[g,aM z],λb a=>?_,λj k=>⟨λz=>(xQ.mp q).1 (z ▸ k),p j k⟩,λi c w=>?_,λi c=>?_⟩
 ·rw[g];by_cases z:i=n
  ·rw[aO z,z];exact v
  ·rw[aM z]
 ·rw[g,aO rfl] at a;exact⟨u b a,o b a⟩
 ·rw[g];by_cases z:i=n
  ·rw[aO z,z];exact e.like wV λb a=>by rw[g,aM (show ¬ b=n from λy=>x (y ▸ a))]
  ·rw[aM z];refine(m i _ (Wd (f.lt i c))).like wV λb a=>?_;rw[g,aM];intro y;exact w (s n zP i c (y ▸ a))
 ·rw[g,aM (λz=>c (by rw[z];exact zP))]
def VR.branches(i:WF gt ts)(f:Lv ts lv){n:Nat}{a:jr}{c rest:jp}{s:Nat}(p:VR gt ts lv n a c (s::rest))(r:Zx ts lv ho s (s::rest))(e:s∈lv)(l:(gd ts s).h≠0):∀ b∈(gd a s).bs,b∈lv/\b∉s::rest/\Zz gt a b (gd a b):=λb d=>by
 rw[p.sh s (p.up s zP).1] at d;let g:=f.cl s e b d;let⟨k,_,_,_⟩:=r.facts i f e;let m:=((i s _ (Wd (f.lt s e))).stem l).2.2.1 b d;let j:b∉s::rest:=λz=>by
  have:=(k b z).2
  lia
 exact⟨g,j,p.ok b g j⟩
def VR.over(j:WF gt ts)(k:Lv ts lv){n:Nat}{a:jr}{c rest:jp}{s:Nat}(p:VR gt ts lv n a c (s::rest))(r:Zx ts lv ho s (s::rest))(h:s∈lv):∀ b∈s::rest,∀ i∈lv,b∈(gd a i).bs->i∈rest:=λb d i g e=>by
 let⟨l,m,o,f⟩:=r.facts j k h;by_cases z:i=n
 ·rw[z] at e;have:=(p.nb b e).2;have:=(p.up b d).2
  lia
 ·rw[p.sh i z] at e;exact f b d i g e
def Ly(t:WF gt ts)(k:Lv ts lv){n:Nat}{a:jr}{e rest:jp}{s:Nat}(p:VR gt ts lv n a e (s::rest))(r:Zx ts lv ho s (s::rest))(o:s∈lv)(u:(gd ts s).h≠0){L:YW}(N:over (Z7 a (gd a s).bs)=some L):
  L=YK (YT a (gd a s).bs)/\VR gt ts lv n (a.set s (YT a (gd a s).bs)) (e++[s]) rest:=by
 let q:=p.branches t k r o u;let C:=(p.up s zP).1;let⟨J,Y,K,M,E,B,w⟩:=Fo (λb d=>(q b d).2.2) N;let S:s<a.length:=by rw[p.len];exact k.lt s o
 let g:∀ i,gd (a.set s (YT a (gd a s).bs)) i=if i=s then YT a (gd a s).bs else gd a i:=λi=>Pj S
 let⟨U,V,W,X⟩:=r.facts t k o;let D:(YT a (gd a s).bs).h=(gd ts s).h:=by
  obtain⟨b,d⟩:∃ b,b∈(gd a s).bs:=vA ∅
  let I:=E b d;rw[p.hh b] at I;rw[p.sh s C] at d;let T:=(((t s _ (Wd (k.lt s o))).stem u).2.2.1 b d).2
  lia
 refine⟨J,(wV).trans p.len,λi=>?_,λi y=>?_,λb d=>?_,λj P=>p.up j (zH _ P),λi m G=>?_,λi m=>?_⟩
 ·rw[g];by_cases z:i=s
  ·rw[aO z,z];exact D
  ·rw[aM z];exact p.hh i
 ·rw[g];by_cases z:i=s
  ·rw[aO z,z];exact p.sh s C
  ·rw[aM z];exact p.sh i y
 ·rw[g,aM (Ne.symm C)] at d;exact p.nb b d
 ·let f:∀ b,b≠s->gd (a.set s (YT a (gd a s).bs)) b=gd a b:=λb n=>by rw[g,aM n]
  let H:∀ b∈(gd a s).bs,b≠s:=λb d z=>(q b d).2.1 (by rw[z];exact zP)
  rw[g];by_cases z:i=s
  ·rw[aO z];refine⟨w,B,λR x=>?_,λy=>absurd y (by rw[D];exact u),λ_=>⟨K,M,λb d=>⟨?_,?_⟩,?_⟩⟩
   ·let⟨b,v,A⟩:=uZ.mp x;exact(q b v).2.2.inn R A
   ·rw[wV,p.len];exact k.lt b (q b d).1
   ·rw[f b (H b d)];exact E b d
   ·show Xs a (gd a s).bs=_;unfold Xs;have:∀ l:jp,(∀ b∈l,b≠s)->(l.flatMap λb=>(gd a b).rows)=l.flatMap λb=>(gd (a.set s (YT a (gd a s).bs)) b).rows:=λl F=>by
     induction l with
     | nil=>rfl
     | cons b l Q=>rw[xE,xE,f b (F b (by simp)),Q λc O=>F c (zH _ O)]
    exact this _ H
  ·rw[aM z];refine(p.ok i m (λy=>(zB.mp y).elim z G)).like (wV) λb d=>f b λy=>?_;rw[y] at d;exact G (p.over t k r o s zP i m d)
 ·rw[g,aM (λz=>m (by rw[z];simp))]
  exact p.old i λz=>m (xD _ z)
def VR.closed(k:WF gt ts)(g:Lv ts lv){n:Nat}{a:jr}{c rest:jp}{s:Nat}(p:VR gt ts lv n a c (s::rest))(r:Zx ts lv ho s (s::rest))(j:s∈lv):∀ i∈lv.filter (λi=>decide (i∉s::rest)),∀ b∈(gd a i).bs,b∈lv.filter (λi=>decide (i∉s::rest)):=λi h b d=>by
 let⟨f,e⟩:=yN.mp h;let e:=of_decide_eq_true e;refine yN.mpr ⟨?_,aK λz=>e (zH _ (p.over k g r j b z i f d))⟩;by_cases y:i=n
 ·exact(p.nb b (y ▸ d)).1
 ·rw[p.sh i y] at d;exact g.cl i f b d
def VZ(lv:jp)(t:ZL)(ts:jr):jr:=(zR ts.length).map λi=>if i∈lv then gd ts i else t
def Yw{t:ZL}:(VZ lv t ts).length=ts.length:=by unfold VZ;simp
def ET{t:ZL}{i:Nat}(h:i<ts.length):gd (VZ lv t ts) i=if i∈lv then gd ts i else t:=by
 unfold gd VZ;rw[zS,zM,List.getElem?_range h];rfl
def JU{t:ZL}{i:Nat}(h:i<ts.length)(a:i∈lv):gd (VZ lv t ts) i=gd ts i:=by rw[ET h,aO a]
def ZOp{t:ZL}(c:Lv ts lv)(j:∀ i∈lv,Zz gt ts i (gd ts i))(h:∀ a i,Zz gt a i t):WF gt (VZ lv t ts):=λi u e=>by
 let g:i<(VZ lv t ts).length:=(yS.mp e).1;let d:=ZPF e;rw[Yw] at g;rw[ET g] at d;rw[<-d];by_cases z:i∈lv
 ·rw[aO z];exact(j i z).like Yw λb f=>JU (c.lt b (c.cl i z b f)) (c.cl i z b f)
 ·rw[aM z];exact h _ _
def GE{t:ZL}(c:Lv ts lv):Lv (VZ lv t ts) lv:=⟨λi a=>by rw[Yw];exact c.lt i a,λi a b d=>by rw[JU (c.lt i a) a] at d;exact c.cl i a b d,c.up⟩
def DX{a:jr}(e:∀ i∈lv,(gd a i).bs=(gd ts i).bs)(i:Nat):YG a lv i=YG ts lv i:=by
 unfold YG;exact uL λj b=>by rw[e j b]
def VR.vl(e:Lv ts lv){n:Nat}{a:jr}{c rest:jp}(p:VR gt ts lv n a c rest):Lv a lv:=⟨λi d=>by rw[p.len];exact e.lt i d,λi d b f=>by
 by_cases y:i=n
 ·exact(p.nb b (y ▸ f)).1
 ·exact e.cl i d b (by rw[<-p.sh i y];exact f),e.up⟩
def IF(k:WF gt ts)(l:Lv ts lv):∀{n:Nat}{rest g:jp}{d f:jr}{s:Nat},Zx ts lv ho s (s::rest)->s∈lv->(gd ts s).h≠0->VR gt ts lv n d g (s::rest)->Xn d (s::rest)=some f->VR gt ts lv n f (g++s::rest) []
 | n,rest,g,d,f,s,r,x,v,p,e=>by
  rw[Xn] at e;split at e
  ·cases e
  ·rename_i c
   cases m:over (Z7 d (gd d s).bs) with
   | none=>exact absurd m c
   | some L=>
    let⟨_,t⟩:=Ly k l p r x v m
    cases r with
    | top a b=>
     rw[Xn] at e;cases e;exact t
    | up a b o=>
     rename_i j q
     let⟨y,u⟩:=o.ne;subst u;let w:=OW k l (i:=s) (j:=j) (by rw[b];exact zP)
     have:=IF k l o w.2 ∅ t e
     rw[rT] at this;exact this
end
end Tw
namespace L2
open PySem PySem.Spec PyProof.Rows
section
variable{jZ:ju}{σ:St}{H:Hp}
def Ab:HO->Prop
 | .dK _=>True
 | .frz _ (.dK _)=>True
 | _=>False
def ZE.re{d:aj}{v u:HO}(I:ZE X jZ σ H s)(e:H d=some v)(h:Ab v)(B:∀ o x,X.H₀ d≠some (.frz o x))(g:Zf X.prog X.w H s.heap d u):ZE X jZ σ (upd H d u) s:=by
 let f:∀{b:aj},H b=none->b≠d:=fun{b} q z=>by rw[z,e] at q;cases q
 let C:∀{b y:aj},H b=some (.own y)->b≠d:=fun{b y} q z=>by rw[z,e] at q;cases q;exact h
 let j:∀{b:aj}{a:je},H b=some (.tup a)->b≠d:=fun{b a} q z=>by rw[z,e] at q;cases q;exact h
 let A:∀{b:aj}{a:jA},H b=some (.tbl a)->b≠d:=fun{b a} q z=>by rw[z,e] at q;cases q;exact h
 refine⟨I.ok,I.os,I.bare,⟨I.base.keep,I.base.slot,λb o q n t=>?_,I.base.there,λb a q=>?_,λb o x q=>?_,λb D q=>?_⟩,I.loc,I.cell,?_,λx c q=>?_,λp r=>?_,λb o q=>?_,I.len⟩
 ·let z:=I.base.free b o q n t;rw[ZO (f z)];exact z
 ·let z:=I.base.tups b a q;rw[ZO (j z)];exact z
 ·let z:=I.base.frzs b o x q;rw[ZO (show b≠d from λy=>B o x (y ▸ q))];exact z
 ·let⟨m,z⟩:=I.base.tbls b D q;exact⟨m,by rw[ZO (A z)];exact z⟩
 ·rw[ZO (f I.free)];exact I.free
 ·rw[ZO (f (I.freeC x c q))];exact I.freeC x c q
 ·let⟨E,l,F⟩:=I.pin p r;exact⟨E,by rw[ZO (f l)];exact l,F⟩
 ·let k:∀{b o},Zf X.prog X.w H s.heap b o->Zf X.prog X.w (upd H d u) s.heap b o:=λx=>x.stay (λ_ _ _ q=>q) (λc q=>by rw[ZO (C q)];exact q) λc a q=>by rw[ZO (j q)];exact q
  by_cases i:b=d
  ·subst i;rw[ZP] at q;cases q;exact k g
  ·rw[ZO i] at q;exact k (I.hok b o q)
def ZE.nofrz{d:aj}{a:List (ZR×V)}(I:ZE X jZ σ H s)(e:H d=some (.dK a)):∀ o x,X.H₀ d≠some (.frz o x):=λo x q=>by
 have:=I.base.frzs d o x q;rw[e] at this;cases this
inductive MX(t:TS)(D:Yx)(σ:L2.St)(H:Hp):Prop
 |mk(d a:_)(_:H d=some (.dK a))(_:t ⟨λb c=>∃ o u,c d=some (.frz o (.dK u))/\D.nx b (upd c d (.dK u)),λ_ _=>False,λ_ _=>False,λ_ _=>False⟩ σ H)
def CZ{g:aB}{t:TS}(h:PS X g t):PS X g (MX t):=by
 rintro jZ s σ H D I ⟨d,i,e,q⟩;refine Z1 (h jZ s σ H _ I q) λf m z=>?_;let j:=I.nofrz e
 cases f with
 | next=>
  let⟨a,l,b,o,u,c,k⟩:=z;exact⟨a,_,b.re c trivial j (b.hok d _ c).2,k⟩
 | brk=>let⟨_,_,_,z⟩:=z;exact z.elim
 | cont=>let⟨_,_,_,z⟩:=z;exact z.elim
 | ret u=>let⟨_,_,_,_,_,z⟩:=z;exact z.elim
def Nl(d:aj)(o:aH)(a:List (ZR×V)):It:=
 ⟨λi H=>H d=some (.frz o (.dK a))/\i<a.length,λi H x b=>b=H/\∃ p,a[i]? = some p/\x=kV p.1,λi H=>H d=some (.frz o (.dK a))/\a.length<=i⟩
def EV{a:Type}:∀{c:List (a×V)}{d:List (a×ai)}{i:Nat}{p:a×V},KV c d->c[i]? = some p->∃ u,d[i]? = some (p.1,u)
 | _,_,_,_,.nil,e=>by simp at e
 | _,_,0,p,.cons (b:=b) r _,e=>by simp at e;subst e;exact⟨b.2,by rw[r.1];rfl⟩
 | _,_,i+1,p,.cons _ t,e=>by
  let⟨u,h⟩:=EV (i:=i) (p:=p) t (by simpa using e)
  exact⟨u,by simpa using h⟩
def ZQs{k:ZR}{v:ai}(h:Po k v=true):ZU (kV k) v:=by
 rcases QS h with ⟨i,t,rfl,rfl⟩ | ⟨x,t,rfl,rfl⟩
 ·exact⟨t,Z⟩
 ·exact⟨t,Z⟩
def HR{P:al}{w:ar}{h:aC}{d:aj}{o:aH}{a:List (ZR×V)}{j:Array DictEntry}{i:Nat}(k:o.data=.dict j i)(x:Zf P w H h d (.frz o (.dK a))):∃ b,KV a b/\h.DictAt (Wj P w) d b i:=by
 let⟨e,_,_,b,r,n,m,l,g,c,f,q⟩:=x;rw[e] at g;cases g;rw[k] at f;cases f;exact⟨b,r,o,j,e,c,k,q⟩
def IU{c:Type}{a:List (c×V)}{b:List (c×ai)}(h:KV a b):a.length=b.length:=Paired.length h
def C2{P:al}{w:ar}{K:zZ}{tg:Expr}{d:aj}{o:aH}{j:List (ZR×V)}{U:Array DictEntry}{N:Nat}(Q:o.data=.dict U N)(g:aj):VX P w K tg (Nl d o j) [g] g (λi h=>h.IsKeyIter g d i j.length N) where
 mem:=by simp
 obj:=λi h a b f=>by
  let e:b=g:=by simpa using f
  subst e;let⟨o,e,c,d⟩:=a;exact⟨o,e,λv z=>by rw[d] at z;cases z⟩
 keep:=λi h m a k=>a.at λo e=>k g (by simp) o e
 item:=by
  intro X F L D O i jZ s σ H E I n a G;subst F L D;let⟨J,q⟩:=G;let⟨vs,r,t⟩:=HR Q (I.hok d _ J);obtain⟨p,R⟩:∃ p,j[i]? = some p:=⟨_,zV q⟩;let⟨u,hu⟩:=EV r R;let⟨x,y,Y,A,B,C⟩:=n g (by simp)
  rw[IU r] at a⊢;refine wpAny_pyNext_dict_item a t hu λM m hk l sb=>?_;let S:ZE X jZ σ H { s with heap:=m }:=I.turned (t':=s.toks) (λb o f e=>(sb.2 b f).trans e) x y A B C;exact⟨M,Z,letGo_keyiter (s':={ s with heap:=m }) l ⟨_,H,S,ZQs hk,⟨Z,p,R,Z⟩,l,λb f=>(n b f).1⟩⟩
 done:=by
  intro X F L D O i jZ s σ H E I n a G;subst F L D;let⟨J,q⟩:=G;let⟨vs,r,t⟩:=HR Q (I.hok d _ J);let⟨x,y,Y,A,B,C⟩:=n g (by simp)
  rw[IU r] at a q;exact wpAny_pyNext_dict_end (I.ok.hd O) a t (List.getElem?_eq_none_iff.mpr q) λm T=>⟨Z,I.turned (t':=s.toks) (λb o f e=>T b o f e) x y A B C⟩
 self:=λ_ _ _ _ _ a h=>wpAny_pyIter_keyiter a h
inductive P9(R:It->Hp->Prop)(x:V)(b:Hp):Prop
 |mk(d a:_)(_:x=.ref d)(_:b d=some (.dK a))(_:∀ o,R (Nl d o a) (upd b d (.frz o (.dK a))))
def ZQD(b:TE):TI:=λσ H R=>b σ H λx a=>P9 R x a
def AA{C l:Expr}{m:TE}(z:PE X l m):PI X C l (ZQD m):=by
 intro jZ s σ H R I h;refine YH (z jZ s σ H _ I h) λv a x F f B A=>?_;let⟨d,j,rfl,e,q⟩:=A;cases B;let⟨G,E,D,r,o,t,p,g,c,k,rest⟩:=id (f.hok d _ e);let n:a.heap.DictAt (Wj X.prog X.w) d D p:=⟨o,t,g,c,k,rest⟩;refine wpAny_pyIter_dict E n ?_;rw[<-IU r];let i:=f.re (u:=.frz o (.dK j)) e trivial (f.nofrz e) ⟨g,f.hok d _ e⟩;refine⟨a.heap.objs.size,[a.heap.objs.size],_,_,_,Z,i.kept (t':=a.toks) λb o e=>zT _ e,C2 k _,⟨_,yU _ Z,Z,Z⟩,λb y=>?_,q o⟩;let e:b=a.heap.objs.size:=by simpa using y
 subst e;exact i.fpOk (zY _) (i.hok.fresh (zY _))
end
end L2
namespace Tw
open PySem PySem.Spec L2 PyProof.Rows
variable{jg jh CS CT CH CK CP CB:aj}
abbrev JO:Stmt:=Xo (top 36) 24
abbrev IR:Stmt:=Xo (top 36) 25
abbrev kI(i:Nat):ZR:=Sum.inl (i:Int)
def Jh{i j:Nat}(h:i≠j):kI i≠kI j:=λz=>h (by have:=Sum.inl.inj z;lia)
def Zx.drop{f:jr}{d:jp}{c:Nat->Nat}{i:Nat}{l:jp}(h:Zx f d c i l):∀(k s:Nat),l[k]? = some s->Zx f d c s (l.drop k):=by
 induction h with
 | top a b=>
  intro k s e
  cases k with
  | zero=>cases e;exact .top a b
  | succ k=>simp at e
 | up a b g j=>
  intro k s e
  cases k with
  | zero=>cases e;exact .up a b g
  | succ k=>exact j k s (by simpa using e)
structure Qy(H:Hp)(cur:jr)(done:jp)(lkv:List (ZR×V)):Prop where
 keys:lkv.map (·.1)=done.map kI
 at_:∀ i∈done,∃ v,YI lkv (kI i)=some v/\Z9 H (YK (gd cur i)) v
def Qy.no{H:Hp}{d:jr}{a:jp}{c:List (ZR×V)}(h:Qy H d a c){b:Nat}(f:b∉a):YI c (kI b)=none:=by
 cases z:YI c (kI b) with
 | none=>rfl
 | some v=>
  have:=Nu z;rw[h.keys] at this;let⟨i,g,e⟩:=zJ.mp this;exact absurd (show b∈a by
   have:i=b:=by have:=Sum.inl.inj e;lia
   rw[<-this];exact g) f
def Qy.mono{H d:Hp}{b:jr}{a:jp}{c:List (ZR×V)}(h:Qy H b a c)(m:YR H d):Qy d b a c:=⟨h.keys,λi f=>by
 let⟨v,e,k⟩:=h.at_ i f;exact⟨v,e,k.mono m⟩⟩
def Qy.push{H:Hp}{c b:jr}{a:jp}{f:List (ZR×V)}{s:Nat}{v:V}(h:Qy H c a f)(j:s∉a)(e:∀ i∈a,gd b i=gd c i)(k:Z9 H (YK (gd b s)) v):Qy H b (a++[s]) (Zs f (kI s) v):=by
 exists by rw[J0 v (h.no j),yO,h.keys,yO];rfl
 intro i g;rw[Uq];by_cases z:i=s
 ·subst z;rw[aO rfl];exact⟨v,Z,k⟩
 ·rw[aM (Jh z)];let d:i∈a:=(yX.mp g).elim id λy=>absurd (zI.mp y) z;rw[e i d];exact h.at_ i d
inductive X0(gt:jq)(jg jh CS:aj):Sp
 |mk{S d lk r:aj}{ts:jr}{lv:jp}{av:Nat->jp}{ho:Nat->Nat}{as:jx}{kvs:List (ZR×V)}{ls:je}{n:Nat}{rest:jp}{v:V}{t:ZL}{H:Hp}{Q:VK}{E:XK}:
  YF jg jh H S d lk ts lv av ho as kvs ls->WF gt ts->Lv ts lv->n∈lv->Zx ts lv ho n (n::rest)->rest.length<=800->H r=some (.lst (iN (n::rest)))->t.h=(gd ts n).h->(∀ b∈t.bs,b∈lv)->Zz gt ts n t->Z9 H (YK t) v ->
  (Xn (ts.set n t) rest=none->∀ H',ZB H H'->E (.ref CS) none H') ->
  (∀ cur,Xn (ts.set n t) rest=some cur->∀(H':Hp)(D:aj)(lkv:List (ZR×V)),ZB H H'->H D=none->H' D=some (.dK lkv)->Qy H' cur (n::rest) lkv->Q (.ref D) H')->X0 gt jg jh CS [.ref S,.ref r,v] H Q E
abbrev ZOZ:js:=["self","road","label","labels","stem","branches"]
def UH:ZA ZOZ zE3 (Ze JO):=Z4
inductive Hl(gt:jq)(S r D q:aj)(n:Nat)(v:V)(ts:jr)(lv rest:jp)(t:ZL)(H:Hp):Nat->L2.St->Hp->Prop
 |mk{k:Nat}{H2:Hp}{x y:jf}{cur:jr}{lkv:List (ZR×V)}:ZB H H2->H2 q=some (.lst (iN rest))->H2 D=some (.dK lkv)->VR gt ts lv n cur (n::rest.take k) (rest.drop k)->Xn (ts.set n t) rest=Xn cur (rest.drop k)->Qy H2 cur (n::rest.take k) lkv ->
  Hl gt S r D q n v ts lv rest t H k [some (.ref S),some (.ref r),some v,some (.ref D),x,y] H2
def Cr{gt:jq}(F:Zn K "labels_up" "Shelf.labels_up" JO f fd)(L:Yj K mg jg jh)(DT:ZI P w K mg kf Zc 1 jg "twig_of" zEa (Zr jg))(DL:ZI P w K mg kf Zc 2 jg "label" zEa (VE jg jh λtg _ _=>tg))(DO:QM P w K mg kf 9 "label_over" zFc (X6 CS)):
  ZK P w K mg kf (YL P w) 10 f fd zE3 (X0 gt jg jh CS):=by
 refine F.kD UH λi1 A e8 s H vs Q E hr h=>?_;let⟨R,hw,vl,hn,rd,i0,c1,th,tb,e9,hv,k1,k2⟩:=h;rename_i S d lk r m lv av ho as c3 ls n rest v t
 let nd:=UH.nd;let hu:=WV hr;let e4:=hr.mono (show 1<=9 by lia)
 let e5:=hr.mono (show 2<=9 by lia)
 intro Xc;refine⟨_,ZN (Q9 (i:=3) nd rfl (Or.inr rfl) (ZNq (ZK9 (Zi K (pv 1) ZM) (pv 2) ZMz) rfl rfl (by intro z;cases z) (by decide)))
  (ZN (WU OZ rfl (Xh (Cf Df (pv 1) (Bh ZM) AL)) (Ye 4 nd)
   (ZN (Zo 5 nd (WO (Yp (E:=E0) (pv 0) L.cS DT e4 Yv (ZX (pv 4))) rfl))
   (ZV (Uu hu (pv 3) (pv 4) (J1 (E:=E) DO hr (Uw VU λ_ _ _ h=>h) (ZX (Um [3,0] ["labels","self"] rfl (Xh (pv 5)) (λ_ _ _ _ _=>V4) (λ_ _ _ _ _=>ZKt hu (pv 1) (pv 0) (Yp (E:=E0) (pv 2) L.cS DL e5 Yv (ZX (pv 0))) ⟨Z,Z,Z,Z⟩) ⟨rfl,.inl rfl,rfl,rfl,.inl rfl,rfl,trivial⟩))) rfl))))
  (ZV (Zq (pv 3)))),?_⟩
 intro D nD;let g1:=Zb nD (.dK []);refine⟨_,Z,.inl ⟨r,_,0,.int (n:Nat),Z,Z,ZF.of (g1 _ _ c1),Xd (j:=0) Z,_,Z,?_⟩⟩;exists ZP,[(kI n,v)],Z,(by show 1<=15;lia)
 let e0:O6 [] [(kI n,v)]=[(kI n,v)]:=rfl;rw[e0,Oy];let s0:ZB H (upd H D (.dK [(kI n,v)])):=Zb nD _;let a1:upd H D (.dK [(kI n,v)]) D=some (.dK [(kI n,v)]):=ZP;generalize upd H D (.dK [(kI n,v)])=H1 at s0 a1⊢;exists _,Z,_,Z,r,_,Z,ZF.of (s0 _ _ c1);intro q nq;let a4:Ox (iN (n::rest)) (some 1) none=iN rest:=by
  unfold Ox;let e1:HT.sIx (iN (n::rest)).length 0 (some 1)=1:=by
   unfold HT.sIx;simp[iN]
   try lia
  let e2:HT.sIx (iN (n::rest)).length (iN (n::rest)).length none=(iN (n::rest)).length:=rfl;rw[e1,e2];simp[iN];exact yQ (by simp)
 rw[a4];let g2:=Zb nq (.lst (iN rest));let hq:upd H1 q (.lst (iN rest)) q=some (.lst (iN rest)):=ZP;let a6:=g2 _ _ a1;let s1:=s0.trans g2;let qD:q≠D:=λz=>by rw[z,a1] at nq;cases nq
 let c2:=hv.mono (ZB.tups s1);generalize upd H1 q (.lst (iN rest))=H2 at g2 hq a6 s1 c2⊢;let⟨f1,f2,f3,f4⟩:=rd.facts hw vl hn;let p0:=LX hw vl rd hn th tb e9;let gn:gd (m.set n t) n=t:=by rw[Pj (vl.lt n hn),aO rfl]
 refine⟨q,Z,⟨_,ZF.of hq⟩,Ui (K:=K) (a:=q) (xs:=iN rest) (Hl gt S r D q n v m lv rest t H) (.mk s1 hq a6 p0 rfl ⟨rfl,λi V=>?_⟩) (λi σ H3 _ G=>by let⟨_,X,_⟩:=G;exact ZF.of X) ?_ ?_⟩
 ·rw[zI.mp V,gn];exact⟨v,by rw[Ut rfl],c2⟩
 ·rintro k u σ H3 a2 ⟨s3,X,U,p,ec,hb⟩;unfold iN at a2;rw[zM] at a2;let⟨g,es,rfl⟩:=yK.mp a2;rename_i x y l o
  let hk:k<rest.length:=(yS.mp es).1;let eg:rest[k]=g:=(yS.mp es).2;let ed:rest.drop k=g::rest.drop (k+1):=by rw[wQ hk,eg]
  let et:rest.take (k+1)=rest.take k++[g]:=by rw[yM,es];rfl
  let c5:Zx m lv ho g (g::rest.drop (k+1)):=by
   have:=rd.drop (k+1) g (by simpa using es)
   rw[sT,ed] at this;exact this
  let sm:g∈rest:=zC es;let B:=(f1 g (zH _ sm)).1;let h0:(gd m g).h≠0:=by have:=f2 g sm;lia
  rw[ed] at p ec;let R3:=R.same s3;let⟨dS,hS⟩:=R3.sh.self;let W:=R3.tw g B;let⟨dt,hx⟩:=W.tw.self;let⟨us,T,_,a0⟩:=W.things;let a0:=a0 h0;subst a0;let O:(gd m g).bs=(gd l g).bs:=(p.sh g (p.up g zP).1).symm;let br:=p.branches hw vl c5 B h0;let b4:(gd m g).bs.length<=4:=((hw g _ (Wd (vl.lt g B))).stem h0).2.1;exists _,Z,S,dS,_,Z,hS,Z,_,Z,S,d,lk,m.length,c3,ls,(g:Int),.ref (as.getD g .d).x,Z,R3.sh,R3.val g B,(as.getD g .d).x,jh,dt,_,.ref (as.getD g .d).th,Z,hx,L.cT,L.nth,Z;exists _,Z,(as.getD g .d).th,Z,⟨_,ZF.of T⟩;refine Vv (n:=(gd m g).bs.length) (λi z=>(iN (gd m g).bs)[i]? = some z) (λM i ys C=>ZB H3 C/\H3 M=none/\Yb C ((Z7 l (gd m g).bs).take i) ys) (YO ∅)
   (λM i ys C V G=>⟨_,.int ((gd m g).bs[i]:Nat),ZF.of (G.1 _ _ T),by simp[iN,V]⟩) (λM i ys C z H5 V G hy=>⟨hy.1,hy.2 _ (ZF.of (G.1 _ _ T))⟩) (λM ys C G=>⟨_,ZF.of (G.1 _ _ T),by simp[iN]⟩)
   (λM a7=>⟨Zb a7 _,a7,Z,λi u e=>by simp at e⟩) (λM i ys C z N i2 V hz G RR c7=>?_) (λM us C N G=>?_)
  ·let⟨s4,a3,I⟩:=G;let ez:z=.int ((gd m g).bs[i]:Nat):=by
    unfold iN at hz;rw[zM,zV V] at hz;exact(zG.inj hz).symm
   subst ez;let c0:(gd m g).bs[i]∈(gd m g).bs:=xO _;let a5:(Z7 l (gd m g).bs)[i]? = some (YK (gd l (gd m g).bs[i])):=by unfold Z7;rw[zM,zV V];rfl
   generalize (gd m g).bs[i]=b at c0 a5⊢;let⟨bl,i4,_⟩:=br b (O ▸ c0);let R4:=R3.same s4;let⟨c6,c8⟩:=R4.sh.self;let Wb:=R4.tw b bl;let a8:=s4 _ _ U;exists _,Z,D,Z,.inl ⟨_,.inl a8⟩,_,Z,_,Z,S,c6,_,Z,c8,Z,_,Z,S,d,lk,m.length,c3,ls,(b:Int),_,_,_,_,_,_,Z,⟨R4.sh,R4.val b bl,Wb.tw⟩,YI o (kI b),Zg.k (k:=kI b) a8;let tD:∀ vv,YR C (upd C M (.lst (ys++[vv]))):=λvv c xs e=>by rw[ZO (ZD e N)];exact e
   let e7:Z9 C (YK (gd l b)) ((YI o (kI b)).getD (.ref (as.getD b .d).tg)):=by
    by_cases c:b∈n::rest.take k
    ·let⟨v',e',k'⟩:=hb.at_ b c;rw[e'];exact k'.mono (ZB.tups s4)
    ·rw[hb.no c,p.old b c];exact Wb.tag
   refine c7 _ C N ⟨UO s4 a3,a3,?_⟩;rw[yM,a5];exact(I.snoc e7).mono (tD _)
  let⟨s4,a3,I⟩:=G;let ll:(Z7 l (gd m g).bs).length=(gd m g).bs.length:=zX _;rw[yQ ∅] at I
  refine⟨M,us,_,Z,N,I,?_,by rw[I.1,ll];lia,λH5 s5=>⟨λJ=>?_,λLb vv J e3=>?_⟩⟩
  ·rw[O];exact Jn λb c9=>(br b c9).2.2
  ·refine k1 ?_ H5 ((s3.trans s4).trans s5);rw[ec,Xn,aO (by rw[<-O];exact J)]
  ·rw[O] at J;let⟨eL,p2⟩:=Ly hw vl p c5 B h0 J;let Y:=s4.trans s5;let a9:=Y _ _ U;let e6:g<l.length:=by rw[p.len];exact vl.lt g B
   let i3:o.length<=801:=by
    have:=congrArg yD hb.keys;rw[zX,zX,zA,sZ] at this
    lia
   exists _,Z,_,Z,D,_,Z,Y3.k (k:=kI g) a9 (YO ∅)
   let sD:ZB H (upd H5 D (.dK (Zs o (kI g) vv))):=UO (s3.trans Y) nD;let tD:YR H5 (upd H5 D (.dK (Zs o (kI g) vv))):=λc xs e=>by rw[ZO (ZD e a9)];exact e
   let c4:g∉n::rest.take k:=λz=>by
    let nn':=f3;let e2:n::rest=(n::rest.take k)++g::rest.drop (k+1):=by
     show n::rest=n::(rest.take k++g::rest.drop (k+1));rw[<-ed,vP]
    rw[e2,vV] at nn';exact nn'.2.2 g z g zP Z
   let gs:∀ i,gd (l.set g (YT l (gd l g).bs)) i=if i=g then YT l (gd l g).bs else gd l i:=λi=>Pj e6
   refine .mk sD (by rw[ZO qD];exact Y _ _ X) ZP (cur:=l.set g (YT l (gd l g).bs)) ?_ ?_ ?_
   ·rw[et,<-uQ];exact p2
   ·rw[ec,Xn,aM (by rw[J];exact λz=>nomatch z)]
   ·rw[et,<-uQ];refine((hb.mono (ZB.tups Y)).mono tD).push c4 (λi V=>?_) ?_
    ·rw[gs,aM (show ¬ i=g from λz=>c4 (z ▸ V))]
    ·rw[gs,aO rfl,<-eL];exact(ZNk e3).mono tD
 ·rintro σ H3 ⟨s3,X,U,p,ec,hb⟩;rename_i x y l o
  rw[show (iN rest).length=rest.length from zX _,yQ (zY _)] at hb;rw[show (iN rest).length=rest.length from zX _,List.drop_of_length_le (zY _),Xn] at ec;exact⟨_,Z,k2 l ec H3 D o s3 nD U hb⟩
end Tw
namespace L2
open PySem PySem.Spec PyProof.Rows
def CG{d:aj}{o:aH}{a:List (ZR×V)}{g:TG}{r:TS}{D:Yx}{b:St}{H:Hp}(c:Nat->St->Hp->Prop)(u:c 0 b H)(z:∀ i b H,i<=a.length->c i b H->H d=some (.frz o (.dK a)))(A:∀ i p b H,a[i]? = some p->c i b H->g (kV p.1) b H λj l=>r { D with nx:=c (i+1),ct:=c (i+1),bk:=D.nx } j l)(v:∀ b H,c a.length b H->D.nx b H):
  ∃ W:Nat->Nat->St->Hp->Prop,(∃ m,W 0 m b H)/\∀ i m b H,W i m b H ->
   ((Nl d o a).stop i H/\D.nx b H)\/((Nl d o a).go i H/\∃ N:St->Hp->Prop,(∀ h f,N h f->∃ n,n<m/\W (i+1) n h f)/\∀ x f,(Nl d o a).yld i H x f->g x b f λj l=>r { D with nx:=N,ct:=N,bk:=D.nx } j l):=by
 exists λi m b H=>m=a.length-i/\i<=a.length/\c i b H,⟨a.length,by simp,yW _,u⟩
 rintro i m b H ⟨rfl,w,p⟩;let q:=z i b H w p;by_cases k:i<a.length
 ·refine .inr ⟨⟨q,k⟩,c (i+1),λh f B=>⟨a.length-(i+1),∅,Z,k,B⟩,λx f y=>?_⟩
  let⟨e,C,s,t⟩:=y;subst e t;exact A i C b _ s p
 ·let e:i=a.length:=∅
  subst e;exact .inl ⟨⟨q,zY _⟩,v b H p⟩
end L2
namespace Tw
open PySem PySem.Spec L2 PyProof.Rows
variable{jg jh CS CT CH CK CP CB:aj}
inductive MA(jh:aj)(H:Hp)(x:Nat->aj)(e d:Nat->V)(a:Nat->aj)(c:Nat->Nat)(i:Nat):Prop
 |mk(b:_)(_:H (x i)=some (.ins jh b (VC (e i) (d i) (a i) (c i))))
inductive Vz(jg jh:aj):Sp
 |mk{S d lk D:aj}{N:Nat}{kvs lkv:List (ZR×V)}{ls:je}{rd:jp}{x ab:Nat->aj}{th tg vl:Nat->V}{ho:Nat->Nat}{H:Hp}{Q:VK}{E:XK}:
  Y9 jg H S d lk N kvs ls->(∀ i∈rd,YI kvs (kI i)=some (.ref (x i))/\x i≠S)->(∀ i∈rd,MA jh H x th tg ab ho i)->H D=some (.dK lkv)->D≠d->lkv.map (·.1)=rd.map kI->rd.Nodup->(∀ i∈rd,YI lkv (kI i)=some (vl i))->(∀ i∈rd,∀ j∈rd,i≠j->x i≠x j) ->
  (∀ H',(∀ c o,(∀ i∈rd,c≠x i)->H c=some o->H' c=some o)->(∀ i∈rd,MA jh H' x th vl ab ho i)->Q .non H')->Vz jg jh [.ref S,.ref D] H Q E
abbrev ZQA:js:=["self","labels","number","twig"]
def Qk:ZA ZQA zFe (Ze IR):=Z4
inductive GM(jh S D:aj)(o:aH)(lkv:List (ZR×V))(rd:jp)(x ab:Nat->aj)(th tg vl:Nat->V)(ho:Nat->Nat)(H:Hp):Nat->L2.St->Hp->Prop
 |mk{k:Nat}{y z:jf}{H2:Hp}:(∀ c o,(∀ i∈rd,c≠x i)->c≠D->H c=some o->H2 c=some o)->H2 D=some (.frz o (.dK lkv))->(∀ i∈rd.take k,MA jh H2 x th vl ab ho i)->(∀ i∈rd.drop k,MA jh H2 x th tg ab ho i) ->
  GM jh S D o lkv rd x ab th tg vl ho H k [some (.ref S),some (.ref D),y,z] H2
def AB(F:Zn K "give_labels" "Shelf.give_labels" IR f fd)(L:Yj K mg jg jh)(DT:ZI P w K mg kf Zc 1 jg "twig_of" zEa (Zr jg)):ZK P w K mg kf Zc 2 f fd zFe (Vz jg jh):=by
 refine F.ko Qk λa9 A a8 s H vs Q E hr h=>?_;let⟨R,hv,hl,I,a6,hk,a7,a3,hx,k⟩:=h;rename_i S d lk D N a5 m ls rd x ab th tg vl ho
 let nd:=Qk.nd;let hu:=WV hr;let ll:m.length=rd.length:=by have:=congrArg yD hk;simpa using this
 intro Xc;refine⟨_,ZV (CZ (WU PassesOwn.never rfl (AA (pv 1)) (Ye 2 nd)
  (ZN (Zo 3 nd (Yp (E:=E0) (pv 0) L.cS DT hr Yv (ZX (pv 2))))
  (ZV (QV (pv 3) (Xp hu (pv 1) (pv 2)) rfl))))),?_⟩
 let⟨⟨dS,hS⟩,hd,u⟩:=R;let T:∀ i∈rd,∃ g W,H (x i)=some (.ins jh g W):=λi a=>by
  let⟨g,e⟩:=hl i a;exact⟨g,_,e⟩
 let nD:∀ i∈rd,x i≠D:=λi a=>by
  let⟨g,W,e⟩:=T i a;exact ZD e I
 exists D,m,I,_,Z,D,m,Z,I;intro o;refine CG (GM jh S D o m rd x ab th tg vl ho H) (.mk (λc Y _ n e=>by rw[ZO n];exact e) ZP (λi a=>by simp at a) (λi a=>?_)) (λi σ H2 _ hP=>by let⟨_,h2,_,_⟩:=hP;exact h2) ?_ ?_
 ·let⟨g,e⟩:=hl i a;exact⟨g,by rw[ZO (nD i a)];exact e⟩
 ·rintro i p σ H2 hp ⟨G,r,t,B⟩;let a:i<rd.length:=by rw[<-ll];exact(yS.mp hp).1
  let ep:p.1=kI rd[i]:=by
   have:=congrArg (λl=>l[i]?) hk;simp only[zM,hp,zV a] at this;exact zG.inj this
  let er:rd[i]? = some rd[i]:=zV a;let X:rd.drop i=rd[i]::rd.drop (i+1):=wQ a;let et:rd.take (i+1)=rd.take i++[rd[i]]:=by rw[yM,er];rfl
  let V:rd=rd.take i++rd[i]::rd.drop (i+1):=by rw[<-X,vP]
  let J:rd[i]∈rd:=xO _;let v:=a7;rw[V,vV,xQ] at v;rw[ep];generalize rd[i]=b at X et V J v⊢;let nS:∀ j∈rd,S≠x j:=λj q=>(hv j q).2.symm;let U:∀(c:aj)(o:HO),H c=some o->(∀ C g W,o≠.ins C g W)->∀ j∈rd,c≠x j:=λc o e n j q=>by
   let⟨g,W,e2⟩:=T j q;exact ZD e e2 (n _ _ _)
  let M:=G _ _ nS (ZD hS I) hS;let a0:=G _ _ (U _ _ hd (by intro _ _ _ z;cases z)) a6.symm hd
  let a2:=G _ _ (U _ _ u (by intro _ _ _ z;cases z)) (ZD u I) u
  let⟨g,a4⟩:=B b (by rw[X];exact zP)
  let a1:Zg H2 D (.int (b:Nat)) (some (vl b)):=.inl ⟨m,kI b,.inr ⟨o,r⟩,Z,(a3 b J).symm⟩;exists _,Z,S,dS,_,Z,M,Z,_,Z,S,d,lk,N,a5,ls,(b:Int),.ref (x b),Z,⟨⟨dS,M⟩,a0,a2⟩,(hv b J).1;exists _,Z,_,Z,D,vl b,Z,a1,_,Z,x b,jh,g,_,Z,a4,L.cT,L.ntg,yR Z;let ne:∀ j∈rd,j≠b->x j≠x b:=λj q n=>hx j q b J n;refine .mk (λc Y n1 n2 e=>by rw[ZO (n1 b J)];exact G c Y n1 n2 e) (by rw[ZO (nD b J).symm];exact r) (λj q=>?_) (λj q=>?_)
  ·rw[et] at q;by_cases z:j=b
   ·subst z;exact⟨g,ZP⟩
   ·let O:j∈rd.take i:=(yX.mp q).elim id λy=>absurd (zI.mp y) z;let⟨dj,ej⟩:=t j O;exact⟨dj,by rw[ZO (ne j (List.mem_of_mem_take O) z)];exact ej⟩
  ·let z:j≠b:=λz=>v.2.1.1 (z ▸ q);let⟨dj,ej⟩:=B j (by rw[X];exact zH _ q)
   exact⟨dj,by rw[ZO (ne j (List.mem_of_mem_drop q) z)];exact ej⟩
 ·rintro σ H2 ⟨G,r,t,B⟩;rw[ll,yQ (zY _)] at t;refine⟨o,m,r,k _ (λc Y n e=>?_) λi a=>?_⟩
  ·by_cases z:c=D
   ·subst z;rw[ZP,<-e,I]
   ·rw[ZO z];exact G c Y n z e
  ·let⟨g,e⟩:=t i a;exact⟨g,by rw[ZO (nD i a)];exact e⟩
def Zx.short{gt:jq}{c:jr}{e:jp}{g:Nat->Nat}(k:WF gt c)(f:Lv c e){i:Nat}{l:jp}(h:Zx c e g i l):l.length<=VQ c (gd c i).h+1:=by
 induction h with
 | top a b=>exact Nat.le_add_left _ _
 | up a b m n=>
  rename_i i j l r
  let d:=OW k f (i:=i) (j:=j) (by rw[b];exact zP)
  have:=Mi (f.lt j d.2) d.1;rw[zA]
  lia
def IT:∀{l:jp}{b a:jr}{i:Nat},Xn b l=some a->i∉l->gd a i=gd b i
 | [],b,a,i,h,_=>by rw[Xn] at h;cases h;rfl
 | s::l,b,a,i,h,hi=>by
  rw[Xn] at h;split at h
  ·cases h
  ·rw[IT h λz=>hi (zH _ z)];unfold gd;rw[zS,vQ (λz=>hi (by rw[z];exact zP)),<-zS]
def PX(a:jx)(rd:jp)(n b:Nat)(c:Nat->aj):jx:=(zR a.length).map λi=>if i∈rd then ⟨(a.getD i .d).x,if i=n then b else (a.getD i .d).th,c i,(a.getD i .d).ab⟩ else a.getD i .d
def MB{a:jx}{rd:jp}{n own:Nat}{tg:Nat->aj}{i:Nat}(h:i<a.length):(PX a rd n own tg).getD i .d=if i∈rd then ⟨(a.getD i .d).x,if i=n then own else (a.getD i .d).th,tg i,(a.getD i .d).ab⟩ else a.getD i .d:=by
 unfold PX;rw[zS,zM,List.getElem?_range h];rfl
structure KW(H:Hp)(lv:jp)(as as':jx):Prop where
 x:∀ i∈lv,(as'.getD i .d).x=(as.getD i .d).x
 ab:∀ i∈lv,(as'.getD i .d).ab=(as.getD i .d).ab
 th:∀ i∈lv,(as'.getD i .d).th=(as.getD i .d).th\/H (as'.getD i .d).th=none
section
variable{jg jh:aj}{H H':Hp}{S d lk:aj}{ts cur:jr}{lv rd:jp}{av:Nat->jp}{ho:Nat->Nat}{as:jx}{kvs:List (ZR×V)}{ls us:je}{n own:aj}{tg:Nat->aj}
def BV(R:YF jg jh H S d lk ts lv av ho as kvs ls)(t:cur.length=ts.length)(hn:n∈rd)(s:∀ i∈rd,i∈lv)(J:H own=none)(L:∀ c o,(∀ i∈rd,c≠(as.getD i .d).x)->H c=some o->H' c=some o)(sh:∀ i,i≠n->(gd cur i).bs=(gd ts i).bs)(hh:∀ i,(gd cur i).h=(gd ts i).h)(E:∀ i,i∉rd->gd cur i=gd ts i)(D:∀ i∈rd,i≠n->(gd ts i).h≠0)(A:∀ i∈rd,MA jh H' (λi=>(as.getD i .d).x) (λi=>.ref (if i=n then own else (as.getD i .d).th)) (λi=>.ref (tg i)) (λi=>(as.getD i .d).ab) ho i)(N:∀ i∈rd,Z9 H' (YK (gd cur i)) (.ref (tg i)))(B:H' own=some (.lst us))(h0:(gd cur n).h=0->jU H' (Y2 (gd cur n).rows) us)(h1:(gd cur n).h≠0->us=iN (gd cur n).bs):
  YF jg jh H' S d lk cur lv av ho (PX as rd n own tg) kvs ls/\KW H lv as (PX as rd n own tg):=by
 let⟨⟨dS,hS⟩,hd,X⟩:=R.sh;let O:∀ i∈lv,∃ g us,H (as.getD i .d).x=some (.ins jh g us):=λi a=>by
  let⟨g,e⟩:=(R.tw i a).tw.self;exact⟨g,_,e⟩
 let k:∀ c o,(∀ C g fs,o≠.ins C g fs)->H c=some o->H' c=some o:=λc o n e=>L c o (λi a=>by
  let⟨g,us,I⟩:=O i (s i a);exact ZD e I (n _ _ _)) e
 let m:YR H H':=λc xs e=>k c _ (by intro _ _ _ z;cases z) e
 let u:∀ i∈lv,i<as.length:=λi a=>by rw[R.len];exact R.lt i a
 let F:∀ i∈lv,∃ us,H (as.getD i .d).th=some (.lst us):=λi a=>by
  let⟨us,e,_⟩:=(R.tw i a).things;exact⟨us,e⟩
 let r:∀ i∈lv,H (as.getD i .d).ab=some (.lst (iN (av i))):=λi a=>(R.tw i a).tw.above;let v:∀ i∈lv,((PX as rd n own tg).getD i .d).x=(as.getD i .d).x:=λi a=>by rw[MB (u i a)];split <;> rfl
 let b:∀ i∈lv,((PX as rd n own tg).getD i .d).ab=(as.getD i .d).ab:=λi a=>by rw[MB (u i a)];split <;> rfl
 let f:∀ i∈lv,((PX as rd n own tg).getD i .d).th=if i=n then own else (as.getD i .d).th:=λi a=>by
  rw[MB (u i a)];by_cases z:i∈rd
  ·rw[aO z]
  ·rw[aM z,aM (λy=>z (by rw[y];exact hn))]
 let l:∀ i∈lv,own≠(as.getD i .d).th/\own≠(as.getD i .d).ab:=λi a=>by
  let⟨us,e⟩:=F i a;exact⟨(ZW e J).symm,(ZW (r i a) J).symm⟩
 let P:own≠lk:=(ZW X J).symm;refine⟨⟨⟨⟨dS,by rw[t];exact L _ _ (λi a=>(R.own i (s i a)).1.symm) hS⟩,k _ _ (by intro _ _ _ z;cases z) hd,k _ _ (by intro _ _ _ z;cases z) X⟩,R.keys,λi a=>by rw[v i a];exact R.val i a,λi a=>by rw[t];exact R.lt i a,by unfold PX;simp[R.len,t],λi a=>?_,λi a=>?_,λi j a p w=>?_⟩,v,b,λi a=>?_⟩
 ·let W:=R.tw i a;by_cases z:i∈rd
  ·let e:=MB (rd:=rd) (n:=n) (own:=own) (tg:=tg) (u i a);rw[aO z] at e;let⟨g,V⟩:=A i z;exists ?_,?_
   ·rw[e];exact⟨⟨g,V⟩,k _ _ (by intro _ _ _ z;cases z) (r i a)⟩
   ·rw[e];by_cases y:i=n
    ·subst y;rw[aO rfl];exact⟨us,B,h0,h1⟩
    ·rw[aM y];let⟨U,e1,I,e3⟩:=W.things;let M:=D i z y;rw[hh i,sh i y];exact⟨U,k _ _ (by intro _ _ _ z;cases z) e1,λq=>absurd q M,e3⟩
   ·rw[e];exact N i z
  ·let e:=MB (rd:=rd) (n:=n) (own:=own) (tg:=tg) (u i a);rw[aM z] at e;rw[e];let⟨g,V⟩:=W.tw.self;let G:=W.frame m (λo e=>L _ _ (λj p=>(R.two i j a (s j p) λy=>z (by rw[y];exact p)).1) e) (λo e=>k _ _ (by let⟨us,I⟩:=F i a;have:=e.symm.trans I;cases this;intro _ _ _ z;cases z) e) (λo e=>k _ _ (by have:=e.symm.trans (r i a);cases this;intro _ _ _ z;cases z) e)
   exists G.tw,?_
   ·rw[E i z];exact G.things
   ·rw[E i z];exact G.tag
 ·rw[v i a,b i a,f i a];let⟨Y,o2,o3,o4⟩:=R.own i a;by_cases y:i=n
  ·rw[aO y];exact⟨Y,o2,P,(l i a).2.symm⟩
  ·rw[aM y];exact⟨Y,o2,o3,o4⟩
 ·rw[v i a,b i a,f i a,v j p,b j p,f j p];let⟨Q,T,t3,t4⟩:=R.two i j a p w;by_cases y:i=n
  ·let K:j≠n:=λz=>w (y.trans z.symm);rw[aO y,aM K];exact⟨Q,T,t3,(l j p).1⟩
  ·rw[aM y];by_cases K:j=n
   ·rw[aO K];exact⟨Q,T,(l i a).2.symm,(l i a).1.symm⟩
   ·rw[aM K];exact⟨Q,T,t3,t4⟩
 ·rw[f i a];by_cases y:i=n
  ·rw[aO y];exact .inr J
  ·rw[aM y];exact .inl Z
end
end Tw
namespace L2
open PySem PySem.Spec PyProof.Rows
inductive P5(c:je)(H:Hp)(Q:VK):Prop
 |mk(a:aj)(b:List (ZR×V))(_:c=[.ref a])(_:H a=some (.dK b))(_:∀ q,H q=none->Q (.ref q) (upd H q (.dK b)))
def AN:Wq X (.type "dict") P5:=by
 intro f s y H x t Q I r h;let⟨a,c,rfl,i,q⟩:=h;let⟨u,rfl,l⟩:=Vd r;cases l;let⟨k,z,v,d,g⟩:=Me I.hok i;let p:=KV.length d;refine kt_call_dict (knd:=Wj X.prog X.w) z g ∅ λn j m=>?_
 refine⟨.ref s.heap.objs.size,_,I.laid (a:=s.heap.objs.size) (o:=.dK c) (t':=s.toks) (λb o e=>?_) (zY _) (KI k (beq_eq_false_iff_ne.mpr (Ne.symm (zL I.big))) d j),Z,q _ (I.hok.fresh (zY _))⟩;exact(m.2 b (zL (zW e))).trans (zT _ e)
end L2
namespace Tw
open PySem PySem.Spec L2 PyProof.Rows
variable{jg jh CS CT CH CK CP CB:aj}
def E9:ax "dict" = some (.type "dict"):=by decide +kernel
def Qt.like{H:Hp}{t a:ZL}{v:V}(h:Qt H t v)(b:a.h=t.h)(i:a.bs=t.bs)(j:t.h=0->a.rows=t.rows):Qt H a v:=by
 let⟨l,k,m,d,c,e,f,g⟩:=h;refine⟨l,k,m,d,by unfold kindOf at c⊢;rw[b];exact c,e,λz=>?_,λz=>?_⟩
 ·rw[b] at z;rw[j z];exact f z
 ·rw[b] at z;rw[i];exact g z
section
variable{gt:jq}{H:Hp}{d D:aj}{ts cur:jr}{lv done rest:jp}{ho:Nat->Nat}{kvs:List (ZR×V)}{n s:Nat}{tw:V}{t:ZL}
def Da(L:Y5 gt H d ts lv kvs)(p:VR gt ts lv n cur done (s::rest))(r:Zx ts lv ho s (s::rest))(k:s∈lv)(g:H D=some (.dK (Zs kvs (kI n) tw)))(o:n∈lv)(l:Qt H t tw)(c:gd cur n=t)(j:∀ i∈done,i≠n->(gd ts i).h≠0):
  WK gt H D cur (lv.filter λi=>decide (i∉s::rest)) (Zs kvs (kI n) tw):=by
 refine⟨g,λi a=>?_,p.closed L.wf L.lv r k,λi a=>?_,L.len,L.up⟩
 ·let⟨b,_⟩:=yN.mp a;rw[Uq];by_cases z:i=n
  ·subst z;rw[aO rfl,c];exact⟨tw,Z,l⟩
  ·rw[aM (Jh z)];let⟨v,e,h⟩:=L.tws.2 i b;refine⟨v,e,h.like (p.hh i) (p.sh i z) λf=>?_⟩;rw[p.old i λy=>j i y z f]
 ·let⟨b,m⟩:=yN.mp a;exact p.ok i b (of_decide_eq_true m)
end
inductive Xz(gt:jq):Sp
 |mk{d tw:aj}{ts:jr}{lv:jp}{kvs:List (ZR×V)}{ho:Nat->Nat}{n:Nat}{rest:jp}{t:ZL}{H:Hp}{Q:VK}{E:XK}:
  Y5 gt H d ts lv kvs->lv.length<64->n∈lv->Zx ts lv ho n (n::rest)->t.h=(gd ts n).h->(∀ b∈t.bs,b∈lv)->Zz gt ts n t->Qt H t (.ref tw)->(∀ H',ZB H H'->Q (.bl (Xn (ts.set n t) rest).isSome) H')->Xz gt [.ref d,.int (n:Nat),.ref tw] H Q E
abbrev Eo:js:=["_law_twigs","_law_number","_law_what","_law_other","_law_here"]
def UX:ZA Eo zEr (Ze Id):=Z4
inductive Ms(gt:jq)(d tw D:aj)(ts:jr)(lv:jp)(n:Nat)(rest:jp)(t:ZL)(H:Hp):Nat->L2.St->Hp->Prop
 |mk{k b:Nat}{cur:jr}{H2:Hp}:(n::rest)[k]? = some b->ZB H H2->VR gt ts lv n cur ((n::rest).take (k+1)) ((n::rest).drop (k+1))->Xn (ts.set n t) rest=Xn cur (rest.drop k)->gd cur n=t ->
  Ms gt d tw D ts lv n rest t H (rest.length-k) [some (.ref d),some (.int (n:Nat)),some (.ref tw),some (.ref D),some (.int (b:Nat))] H2
def ZKp{gt:jq}(F:Zn K "_law_rises" "_law_rises" Id f fd)(T:YZ mg)(Td:mg "dict" = none)(DA:ZC P w K mg kf 1 "_law_above" zEb (XQ gt))(DW:ZC P w K mg kf 8 "_law_wrong" zEh (XL gt)):
  ZK P w K mg kf Zc 9 f fd zEr (Xz gt):=by
 refine F.ko UX λc5 A c3 s H vs Q E hr h=>?_;let⟨L,a3,hn,rd,th,tb,c4,hw,k⟩:=h;rename_i d tw q M o ho n rest t
 let nd:=UX.nd;let hu:=WV hr;let a2:=hr.mono (show 1<=8 by lia)
 intro Xc;refine⟨_,ZN (Zo 3 nd (Wt AN rfl Td E9 (ZX (pv 0))))
  (ZN (Uu hu (pv 3) (pv 1) (pv 2) rfl)
  (ZN (Zo 4 nd (pv 1))
  (ZN (N1 PassesOwn.never (YJ (HC hr.units0) (Zk DA a2 (Zd (pv 0) (pv 4))) (XH Zt) (Z3 _))
   (ZN (Zo 4 nd (US Z2 (Zk DA a2 (Zd (pv 0) (pv 4))) ZM (λ_ _=>rfl)))
   (ZV (Zy (Ur (N0 (Zk DW hr (UG (pv 3) (Zd (Zi K (Xp hu (pv 0) (pv 4)) ZM) Od))))) (ZV (Zq Uf)) Z0))))
  (ZV (Zq Uf))))),?_⟩
 exists _,Z,d,o,Z,L.dict;intro D nD;let g1:=Zb nD (.dK o);let lk:o.length<64:=by have:=congrArg yD L.tws.1;simp at this;lia
 exists _,Z,_,Z,_,Z,D,_,Z,Y3.k (k:=kI n) ZP (YO ∅)
 rw[Oy];let⟨H1,eU,g2,hD⟩:=VN nD (.dK (Zs o (kI n) (.ref tw)));rw[eU];let⟨f1,f2,f3,f4⟩:=rd.facts L.wf L.lv hn;let p0:=LX L.wf L.lv rd hn th tb c4;let gn:gd (q.set n t) n=t:=by rw[Pj (L.lv.lt n hn),aO rfl]
 let L1:=L.same g2;let c0:=hw.same g2;exists _,Z,Ms gt d tw D q M n rest t H1,⟨_,Ms.mk (k:=0) (b:=n) (cur:=q.set n t) Z (ZB.refl H1) p0 Z gn⟩;rintro m σ H2 ⟨eb,s2,p,W,Y⟩;rename_i r b u
 let bl:=(f1 b (zC eb)).1;let L2:=L1.same s2;exists _,Z,_,Z,d,b,q,M,o,Z,L2,a3;intro H3 D3 s3 c8 a7;exists YA;intro e0 a8;let g4:=Zb a8 (.lst []);exists D3,e0,_,Z,Z,ZF.of (g4 _ _ a7),ZF.of ZP,_,Z;let s4:=(s2.trans s3).trans g4;generalize upd H3 e0 (.lst [])=H4 at s4⊢;let B:=rd.drop r b eb;let kl:r<(n::rest).length:=(yS.mp eb).1;rw[zA] at kl;let a5:(n::rest).drop r=b::(n::rest).drop (r+1):=by rw[wQ (by rw[zA];exact kl),(yS.mp eb).2]
 rw[a5] at B;rw[sT] at B p
 cases l:rest.drop r with
 | nil=>
  rw[l] at B W;let y:YG q M b=[]:=by
   cases B with
   | top a c=>exact c
   | up a c N=>let⟨_,e⟩:=N.ne;cases e
  rw[y];refine Zj ?_;rw[Xn] at W;have:=k H4 (g2.trans s4);rw[W] at this;exact this
 | cons g r'=>
  rw[l] at B W p;let y:YG q M b=[g]/\Zx q M ho g (g::r'):=by
   cases B with
   | up a c N=>
    let⟨_,e⟩:=N.ne;cases e;exact⟨Go a c,N⟩
  let⟨y,U⟩:=y;rw[y];let es:rest[r]? = some g:=by
   have:=congrArg List.head? l;rw[List.head?_drop] at this;exact this
  let sm:g∈rest:=zC es;let C:=(f1 g (zH _ sm)).1;let h0:(gd q g).h≠0:=by have:=f2 g sm;lia
  refine Z6 ⟨_,λ_ _ z=>z,?_⟩;let L4:=L1.same s4;exists _,Z,_,Z,d,b,q,M,o,Z,L4,a3;intro H5 D5 s5 c9 a0;rw[y] at a0;exists D5,_,0,.int (g:Nat),Z,Z,ZF.of a0,Xd (j:=0) Z;let J:=s4.trans s5;let L5:=L1.same J;let⟨tp,tl,ws,q1,X,e3,e4,e5⟩:=L5.get C;let ew:=e5 h0;subst ew;let a1:=J _ _ hD;let a4:n∉g::r':=λz=>by
   have:n∈rest:=by
    have:n∈rest.drop r:=by rw[l];exact z
    exact List.mem_of_mem_drop this
   exact(xQ.mp f3).1 this
  let LG:=Da L5 p U C a1 hn (c0.same J) Y λi hi z=>by
   let a9:i∈rest:=by
    have:=List.mem_of_mem_take hi;exact(zB.mp this).resolve_left z
   have:=f2 i a9
   lia
  let G:(gd u g).bs=(gd q g).bs:=p.sh g (p.up g zP).1;let br:=p.branches L.wf L.lv U C h0;let b4:(gd q g).bs.length<=4:=((L.at_ C).stem h0).2.1;refine⟨_,Z,_,Z,_,Z,d,.ref tp,Z,q1,.inr (.inl ⟨tp,_,1,_,rfl,rfl,Za.of X,rfl,?_⟩)⟩;let eI:iN (gd q g).bs=((gd q g).bs.map λb:Nat=>(b:Int)).map V.int:=by rw[zO];rfl
  let inl:∀ b':jp,(gd q g).bs.map (λb:Nat=>(b:Int))=b'.map (λb:Nat=>(b:Int))->b'=(gd q g).bs:=λb' e=>by
   have:=congrArg (List.map wY) e;simpa [zO,Function.comp_def] using this.symm
  let S:(Zs o (kI n) (V.ref tw)).map (·.1)=M.map (λi:Nat=>(Sum.inl (i:Int):ZR)):=by
   let⟨v0,a6,_⟩:=L.tws.2 n hn;rw[N9 a6];exact L.tws.1
  refine⟨D,tl,(gd q g).bs.map λb:Nat=>(b:Int),u,M,M.filter (λi=>decide (i∉g::r')),Zs o (kI n) (.ref tw),Z,LG,S,λi hi=>?_,λi hi hm=>?_,by rw[<-eI];exact e3,by rw[zX];lia,λx hx=>?_,λO R _ I t' H6 s6 c7=>?_,λO R _ I H6 s6=>?_⟩
  ·rw[Uq];by_cases z:i=n
   ·subst z;rw[aO rfl];exact⟨_,Z⟩
   ·rw[aM (Jh z)];let⟨v,e,_⟩:=L.tws.2 i hi;exact⟨v,e⟩
  ·let⟨c,hc,e⟩:=zJ.mp hm;have:c=i:=∅
   subst this;let⟨c1,c2,_⟩:=br c (by rw[G];exact hc)
   exact yN.mpr ⟨c1,aK c2⟩
  ·exfalso
   let h1:=tP hx;let⟨c,hc,e⟩:=zJ.mp (sE hx);let c1:=(br c (by rw[G];exact hc)).1
   have:YX M x=true:=by
    unfold YX;rw[<-e];exact aK ⟨∅,by simpa using c1⟩
   rw[this] at h1;cases h1
  ·rw[inl O R] at I;refine⟨_,Z,Z6 ?_⟩;have:=k H6 ((g2.trans J).trans s6);rw[W,Xn,aO (by rw[G];exact I)] at this
   exact this
  ·rw[inl O R] at I;refine⟨_,Z,Zj ?_⟩
   cases hL:over (Z7 u (gd q g).bs) with
   | none=>exact absurd hL I
   | some Lb=>
    let⟨_,p2⟩:=Ly L.wf L.lv p U C h0 (by rw[G];exact hL)
    let c6:r<rest.length:=(yS.mp es).1;refine⟨rest.length-(r+1),∅,Ms.mk (k:=r+1) (b:=g) (cur:=u.set g (YT u (gd u g).bs)) (by simpa using es) (J.trans s6) ?_ ?_ ?_⟩
    ·let e1:(n::rest).take (r+1+1)=(n::rest).take (r+1)++[g]:=by
      rw[yM (i:=r+1),List.getElem?_cons_succ,es];rfl
     let X:(n::rest).drop (r+1+1)=r':=by
      rw[sT,<-List.drop_drop,l];rfl
     rw[e1,X];exact p2
    ·let X:rest.drop (r+1)=r':=by
      rw[<-List.drop_drop,l];rfl
     rw[W,Xn,aM (by rw[G,hL];exact λz=>nomatch z),X]
    ·have:n≠g:=λz=>a4 (by rw[z];exact zP)
     rw[Pj (by rw[p.len];exact L.lv.lt g C),aM this]
     exact Y
end Tw
namespace L2
open PySem PySem.Spec PyProof.Rows
def Ez{a:jw}{b:jd}(h:ZQ (a.map V.int) b):PySem.W.kf_ints b=true/\∀(i:Nat)(n:Int),a[i]? = some n->∃ t,b[i]? = some (.int n t):=by
 refine⟨?_,λi n e=>?_⟩
 ·induction a generalizing b with
  | nil=>cases h;rfl
  | cons n a d=>
   cases h with
   | cons r t=>
    let⟨f,rfl⟩:=r;rw[PySem.W.kf_ints];exact d t
 ·let⟨u,c,t,rfl⟩:=h.get (x:=.int n) (i:=i) (by rw[zM,e];rfl)
  exact⟨t,c⟩
inductive PR(x:V)(c:je)(H:Hp)(Q:VK):Prop
 |mk(l:aj)(a:jw)(b:Int)(_:x=.ref l)(_:c=[.int b])(_:H l=some (.lst (a.map V.int)))(_:b∈a)(_:Q .non (upd H l (.lst ((a.erase b).map V.int))))
def ZJp:OE X "list.remove" PR:=by
 intro D s Y H x V v U Q I R P h;let⟨l,d,b,rfl,rfl,C,J,q⟩:=h;cases R;let⟨u,rfl,O⟩:=P.one;let⟨S,rfl⟩:=O;let⟨z,c,n,r,T,e⟩:=I.lstM C;let⟨N,o⟩:=Ez r;let B:=List.idxOf_lt_length_of_mem J;let g:c.length=d.length:=by have:=r.length;rw[zX] at this;exact this.symm
 let KD:∀(m:Nat)(j:m<c.toArray.size)(k:Int),d[m]? = some k->isInt b c.toArray[m]=decide (k=b):=λm j k K=>by
  let⟨t,G⟩:=o m k K;have:c.toArray[m]? = some (Value.int k t):=by simpa using G
  rw[wI j] at this;rw[zG.inj this];show (k==b)=_;rw[xB];simp
 let f:d.idxOf b<c.toArray.size:=by rw[zK,g];exact B
 let M:c.toArray.size<=sizeLine:=by
  rw[zK,g];have:=z;rw[zX] at this;exact this
 refine call_meets F.slot_list_remove ⟨_,e,Z⟩ F.entry_list_remove (F.args_list_remove_2 _ _) (MeetsSeq.list_remove l c.toArray n (.int b S) (isInt b) (λy L=>PySem.W.kf_eq N y (by simpa using L)) (d.idxOf b) f ?_ (λm j w=>?_) M) ⟨e,?_⟩
 ·rw[KD _ f b (by rw[zV B,List.getElem_idxOf B])]
  exact aK Z
 ·let A:m<d.length:=∅
  rw[KD m j d[m] (zV A)];have:=List.not_of_lt_findIdx (p:=(· == b)) (xs:=d) (i:=m) w;exact aJ λz=>by rw[z] at this;simp at this
 ·let E:d.erase b=d.take (d.idxOf b)++d.drop (d.idxOf b+1):=by rw[List.erase_eq_eraseIdx_of_idxOf rfl,qM]
  refine⟨.non,_,I.lset (its':=c.take (d.idxOf b)++c.drop (d.idxOf b+1)) C e ?_ ?_ ?_,Z,q⟩
  ·apply Array.toList_inj.mp;rw[Array.toList_eraseIdxIfInBounds,qM]
  ·rw[E,yO,List.map_take,List.map_drop];exact(r.take _).append (r.drop _)
  ·rw[zX];have:=List.length_erase_le (l:=d) (a:=b);rw[zX] at z
   lia
end L2
namespace Tw
open PySem PySem.Spec L2 PyProof.Rows
variable{jg jh CS CT CH CK CP CB:aj}
abbrev K1:Stmt:=Xo (top 36) 22
def GT(l:jp):iN l=(l.map λb:Nat=>(b:Int)).map V.int:=by rw[zO];rfl
def ZJO(l:jp)(b:Nat):(l.map λb:Nat=>(b:Int)).erase (b:Int)=(l.erase b).map λb:Nat=>(b:Int):=by
 induction l with
 | nil=>rfl
 | cons a l c=>
  by_cases z:a=b
  ·subst z;simp
  ·let d:¬ ((a:Int)=(b:Int)):=∅
   rw[yI,List.erase_cons_tail (by simpa using d),List.erase_cons_tail (by simpa using z),c]
   rfl
def Qg(bs:jp)(b:Nat)(a:Nat->jp):Nat->jp:=λi=>if i∈bs then (a i).erase b else a i
def Vl(bs:jp)(a:Nat->Nat):Nat->Nat:=λi=>if i∈bs then a i+1 else a i
inductive XE(jg jh:aj):Sp
 |mk{S d m l:aj}{p:jr}{g:jp}{i:Nat->jp}{k:Nat->Nat}{a:jx}{e:List (ZR×V)}{n:je}{bs:jp}{j:Nat}{H:Hp}{Q:VK}{E:XK}:
  YF jg jh H S d m p g i k a e n->H l=some (.lst (iN bs))->bs.Nodup->(∀ b∈bs,b∈g/\j∈i b)->(∀ b:Nat,b∈g->l≠(a.getD b .d).ab) ->
  (∀ h:Hp,(∀ c o,(∀ b:Nat,b∈g->c≠(a.getD b .d).x/\c≠(a.getD b .d).ab)->H c=some o->h c=some o)->YF jg jh h S d m p g (Qg bs j i) (Vl bs k) a e n->Q .non h)->XE jg jh [.ref S,.int (j:Nat),.ref l] H Q E
def WE:ZA HI zEn (Ze K1):=Z4
inductive Fx(jg jh S d lk l:aj)(ts:jr)(lv:jp)(av:Nat->jp)(ho:Nat->Nat)(as:jx)(kvs:List (ZR×V))(ls:je)(bs:jp)(st:Nat)(H:Hp):Nat->L2.St->Hp->Prop
 |mk{i:Nat}{x y:jf}{H2:Hp}:(∀ c o,(∀ b:Nat,b∈lv->c≠(as.getD b .d).x/\c≠(as.getD b .d).ab)->H c=some o->H2 c=some o)->YF jg jh H2 S d lk ts lv (Qg (bs.take i) st av) (Vl (bs.take i) ho) as kvs ls ->
  Fx jg jh S d lk l ts lv av ho as kvs ls bs st H i [some (.ref S),some (.int (st:Nat)),some (.ref l),x,y] H2
def E4(F:Zn K "give_back" "Shelf.give_back" K1 f fd)(L:Yj K mg jg jh)(DT:ZI P w K mg kf Zc 1 jg "twig_of" zEa (Zr jg)):ZK P w K mg kf Zc 2 f fd zEn (XE jg jh):=by
 refine F.ko WE λa3 A a2 s H vs Q E hr h=>?_;let⟨R,hl,M,V,a0,k⟩:=h;rename_i S d lk l ts lv p j g O ls bs G
 let nd:=WE.nd;intro Xc;refine⟨_,ZV (WU PassesOwn.never rfl (Xh (pv 2)) (Ye 3 nd)
  (ZN (Zo 4 nd (Yp (E:=E0) (pv 0) L.cS DT hr Yv (ZX (pv 3))))
  (ZN (Kd (pv 4) ZM FR)
  (ZV (Xu (Vn yJ PySem.F.slot_list_remove PySem.F.type_list_remove ZJp (WO (pv 4) rfl) (ZX (pv 1)))))))),?_⟩
 refine⟨_,Z,l,Z,⟨_,ZF.of hl⟩,Ui (K:=K) (a:=l) (xs:=iN bs) (Fx jg jh S d lk l ts lv p j g O ls bs G H)
  (.mk (λc o _ e=>e) (by
   let e1:Qg [] G p=p:=funext λi=>aM (by simp)
   let e2:Vl [] j=j:=funext λi=>aM (by simp)
   rw[show bs.take 0=[] from rfl,e1,e2];exact R)) ?_ ?_ ?_⟩
 ·rintro i σ t _ ⟨N,R2⟩;refine ZF.of (N _ _ (λb V=>⟨?_,a0 b V⟩) hl);let⟨dx,I⟩:=(R.tw b V).tw.self;exact ZD hl I
 ·rintro i u σ t B ⟨N,R2⟩;unfold iN at B;rw[zM] at B;let⟨b,X,rfl⟩:=yK.mp B;let⟨r,a1⟩:=V b (zC X);let J:b∉bs.take i:=λz=>by
   let hs:bs=bs.take i++b::bs.drop (i+1):=by
    let⟨hi,e⟩:=yS.mp X;rw[<-e,<-wQ hi,vP]
   rw[hs,vV] at M;exact M.2.2 b z b (by simp) Z
  let Y:Vl (bs.take i) j b=j b:=aM J;let W:Qg (bs.take i) G p b=p b:=aM J;let⟨dS,hS⟩:=R2.sh.self;let Wb:=R2.tw b r;let⟨q,I⟩:=Wb.tw.self;let v:=Wb.tw.above;rw[Y] at I;rw[W] at v;exists _,Z,S,dS,_,Z,hS,Z,_,Z,S,d,lk,ts.length,O,ls,(b:Int),.ref (g.getD b .d).x,Z,R2.sh,R2.val b r;exists _,Z,(g.getD b .d).x,jh,q,_,.int (j b:Nat),Z,I,L.cT,L.nho,Z,_,_,Z,Z,q,_,I,yR Z;let C:upd t (g.getD b .d).x (.ins jh q (Yq "holds" (.int (((j b:Nat):Int)+1)) (VC (.ref (g.getD b .d).th) (.ref (g.getD b .d).tg) (g.getD b .d).ab (j b)))) (g.getD b .d).x=some (.ins jh q (VC (.ref (g.getD b .d).th) (.ref (g.getD b .d).tg) (g.getD b .d).ab (j b+1))):=by rw[ZP];rfl
  let T:(g.getD b .d).ab≠(g.getD b .d).x:=ZD v I;let m:upd t (g.getD b .d).x (.ins jh q (Yq "holds" (.int (((j b:Nat):Int)+1)) (VC (.ref (g.getD b .d).th) (.ref (g.getD b .d).tg) (g.getD b .d).ab (j b)))) (g.getD b .d).ab=some (.lst (iN (p b))):=by rw[ZO T];exact v
  let D:∀ c o,c≠(g.getD b .d).x->t c=some o->upd t (g.getD b .d).x (.ins jh q (Yq "holds" (.int (((j b:Nat):Int)+1)) (VC (.ref (g.getD b .d).th) (.ref (g.getD b .d).tg) (g.getD b .d).ab (j b)))) c=some o:=λc o n e=>by rw[ZO n];exact e
  generalize upd t (g.getD b .d).x (.ins jh q (Yq "holds" (.int (((j b:Nat):Int)+1)) (VC (.ref (g.getD b .d).th) (.ref (g.getD b .d).tg) (g.getD b .d).ab (j b))))=H3 at C m D⊢;exists _,Z,(g.getD b .d).x,jh,q,_,.ref (g.getD b .d).ab,Z,C,L.cT,L.nab,Z,.inl ⟨Z,_,ZF.of m⟩,_,Z,(g.getD b .d).ab,(p b).map λb:Nat=>(b:Int),(G:Nat),Z,Z,by rw[<-GT];exact m,zJ.mpr ⟨G,a1,Z⟩
  rw[ZJO,<-GT];let U:bs.take (i+1)=bs.take i++[b]:=by rw[yM,X];rfl
  refine .mk (λc o hc e=>?_) ?_
  ·let⟨n1,n2⟩:=hc b r;rw[ZO n2];exact D _ _ n1 (N c o hc e)
  ·refine R2.set1 r (λc n=>?_) (λc n=>?_) ⟨q,?_⟩ ?_ λc o n1 n2 e=>?_
   ·unfold Qg;rw[U];by_cases z:c∈bs.take i
    ·rw[aO z,aO (xD _ z)]
    ·rw[aM z,aM (λy=>(yX.mp y).elim z λy=>n (zI.mp y))]
   ·unfold Vl;rw[U];by_cases z:c∈bs.take i
    ·rw[aO z,aO (xD _ z)]
    ·rw[aM z,aM (λy=>(yX.mp y).elim z λy=>n (zI.mp y))]
   ·rw[ZO (Ne.symm T),show Vl (bs.take (i+1)) j b=j b+1 from aO (by rw[U];simp)];exact C
   ·rw[ZP,show Qg (bs.take (i+1)) G p b=(p b).erase G from aO (by rw[U];simp)]
   ·rw[ZO n2];exact D _ _ n1 e
 ·rintro σ t ⟨N,R2⟩;rw[show (iN bs).length=bs.length from zX _,yQ (zY _)] at R2;exact k t N R2
def XU(a:jr)(n:Nat)(bs:jp):jp:=bs.filter λb=>decide (b∉(gd a n).bs)
def Og(a:jr)(n:Nat)(bs:jp):jp:=(gd a n).bs.filter λb=>decide (b∉bs)
def Us(a:jr)(n:Nat)(bs:jp)(b:Nat->jp):Nat->jp:=Qg (Og a n bs) n (Wr (XU a n bs) n b)
def MK(a:jr)(n:Nat)(bs:jp)(b:Nat->Nat):Nat->Nat:=Vl (Og a n bs) (Yi (XU a n bs) b)
structure QK(ts:jr)(lv:jp)(ho:Nat->Nat)(n:Nat)(ns:jw)(bs rest:jp):Prop where
 h0:(gd ts n).h≠0
 rd:Zx ts lv ho n (n::rest)
 eb:ns=bs.map (λb:Nat=>(b:Int))
 hb:∀ b∈bs,b∈lv
inductive Wo(ts:jr)(lv:jp)(ho:Nat->Nat)(n:Nat)(ns:jw):je->Prop
 | leaf:(gd ts n).h=0->Wo ts lv ho n ns [.str "stem"]
 | shared {j:Nat}:(gd ts n).h≠0->Sh ts lv ho n (some j)->Wo ts lv ho n ns [.str "shared",.int (j:Nat)]
 | twig {rest:jp} {x:Int}:(gd ts n).h≠0->Zx ts lv ho n (n::rest)->ns.find? (λx=>!YX lv x)=some x->Wo ts lv ho n ns [.str "twig",.int x]
 | stem {bs rest:jp}:QK ts lv ho n ns bs rest->¬ Qv (Z7 ts bs) (some ((gd ts n).h:Nat))->Wo ts lv ho n ns [.str "stem"]
 | up {bs rest:jp}:QK ts lv ho n ns bs rest->Qv (Z7 ts bs) (some ((gd ts n).h:Nat))->Xn (ts.set n (YT ts bs)) rest=none->Wo ts lv ho n ns [.str "stem"]
 | held {bs rest:jp} {cur:jr} {b:Nat}:QK ts lv ho n ns bs rest->Qv (Z7 ts bs) (some ((gd ts n).h:Nat))->Xn (ts.set n (YT ts bs)) rest=some cur->(XU ts n bs).find? (λb=>decide (ho b=0))=some b->Wo ts lv ho n ns [.str "held",.int (b:Nat)]
inductive NE(a:jr)(e:jp)(d:Nat->Nat)(n:Nat)(f:jw)(bs rest:jp)(c:jr):Prop
 | mk:QK a e d n f bs rest->Qv (Z7 a bs) (some ((gd a n).h:Nat))->Xn (a.set n (YT a bs)) rest=some c->(XU a n bs).find? (λb=>decide (d b=0))=none->NE a e d n f bs rest c
def B7{bs a:jp}{c:jw}(d:c=bs.map (λb:Nat=>(b:Int)))(e:c=a.map (λb:Nat=>(b:Int))):bs=a:=by
 let f:=d.symm.trans e;have:=congrArg (List.map wY) f;simpa [zO,Function.comp_def] using this
def OU{bs f:jp}{g:jw}{x:Int}(h:g=bs.map (λb:Nat=>(b:Int)))(i:∀ b∈bs,b∈f)(e:g.find? (λx=>!YX f x)=some x):False:=by
 let d:=sE e;let a:=tP e;rw[h] at d;let⟨b,c,rfl⟩:=zJ.mp d;have:=i b c;unfold YX at a;simp at a;exact a this
section
variable{ts:jr}{lv:jp}{ho:Nat->Nat}{n:Nat}{ns:jw}
def QK.uniq{bs b rest a:jp}(h:QK ts lv ho n ns bs rest)(g:QK ts lv ho n ns b a):bs=b/\rest=a:=⟨B7 h.eb g.eb,by cases h.rd.uniq g.rd;rfl⟩
def QK.no{bs rest:jp}(h:QK ts lv ho n ns bs rest){j:Nat}(g:Sh ts lv ho n (some j)):False:=by cases g.uniq h.rd.sh
def Wo.uniq{k l:je}(h:Wo ts lv ho n ns k)(g:Wo ts lv ho n ns l):k=l:=by
 cases h with
 | leaf a=>
  cases g with
  | leaf=>rfl
  | shared b=>exact absurd a b
  | twig b=>exact absurd a b
  | stem b=>rfl
  | up b=>rfl
  | held b=>exact absurd a b.h0
 | shared a b=>
  cases g with
  | leaf c=>exact absurd c a
  | shared c d=>cases b.uniq d;rfl
  | twig c d=>cases b.uniq d.sh
  | stem c=>exact(c.no b).elim
  | up c=>exact(c.no b).elim
  | held c=>exact(c.no b).elim
 | twig a b c=>
  cases g with
  | leaf d=>exact absurd d a
  | shared _ d=>cases d.uniq b.sh
  | twig _ _ d=>cases c.symm.trans d;rfl
  | stem d=>exact(OU d.eb d.hb c).elim
  | up d=>exact(OU d.eb d.hb c).elim
  | held d=>exact(OU d.eb d.hb c).elim
 | stem a b=>
  cases g with
  | leaf d=>rfl
  | shared _ d=>exact(a.no d).elim
  | twig _ _ d=>exact(OU a.eb a.hb d).elim
  | stem d=>rfl
  | up d=>rfl
  | held d e=>
   cases(a.uniq d).1;exact absurd e b
 | up a b c=>
  cases g with
  | leaf d=>rfl
  | shared _ d=>exact(a.no d).elim
  | twig _ _ d=>exact(OU a.eb a.hb d).elim
  | stem d=>rfl
  | up d=>rfl
  | held d e f=>
   let⟨i,j⟩:=a.uniq d;subst i j;rw[c] at f;cases f
 | held a b c e=>
  cases g with
  | leaf d=>exact absurd d a.h0
  | shared _ d=>exact(a.no d).elim
  | twig _ _ d=>exact(OU a.eb a.hb d).elim
  | stem d f=>
   cases(a.uniq d).1;exact absurd b f
  | up d _ f=>
   let⟨i,j⟩:=a.uniq d;subst i j;rw[c] at f;cases f
  | held d _ _ f=>
   cases(a.uniq d).1;cases e.symm.trans f;rfl
def Wo.no{l:je}{bs rest:jp}{i:jr}(h:Wo ts lv ho n ns l)(g:NE ts lv ho n ns bs rest i):False:=by
 let⟨a,b,c,e⟩:=g
 cases h with
 | leaf d=>exact a.h0 d
 | shared _ d=>exact a.no d
 | twig _ _ d=>exact OU a.eb a.hb d
 | stem d f=>
  cases(a.uniq d).1;exact f b
 | up d _ f=>
  let⟨j,k⟩:=a.uniq d;subst j k;rw[c] at f;cases f
 | held d _ _ f=>
  cases(a.uniq d).1;cases e.symm.trans f
def Wo.word{b:je}(h:Wo ts lv ho n ns b):∃ a:jq,(∀ H:Hp,jU H a b)/\(KT.tup a).wide 5=true:=by
 cases h with
 | leaf=>exact⟨[.str "stem"],λH=>.cons (.str _) .nil,Z⟩
 | shared=>exact⟨[.str "shared",.int _],λH=>.cons (.str _) (.cons (.int _) .nil),Z⟩
 | twig=>exact⟨[.str "twig",.int _],λH=>.cons (.str _) (.cons (.int _) .nil),Z⟩
 | stem=>exact⟨[.str "stem"],λH=>.cons (.str _) .nil,Z⟩
 | up=>exact⟨[.str "stem"],λH=>.cons (.str _) .nil,Z⟩
 | held=>exact⟨[.str "held",.int _],λH=>.cons (.str _) (.cons (.int _) .nil),Z⟩
end
section
variable{gt:jq}{ts:jr}{lv:jp}{ho:Nat->Nat}{n:Nat}{bs:jp}
def HA{L:YW}(h:over (Z7 ts bs)=some L):((Z7 ts bs).getD 0 .d).h=((gd ts (bs.getD 0 0)).h:Nat):=by
 let a:0<bs.length:=by
  unfold over at h;split at h
  ·rename_i c
   have:=c.1;unfold Z7 at this;rw[zX] at this
   lia
  ·cases h
 rw[Ov a];rfl
def KU(j:WF gt ts)(v:Lv ts lv)(r:∀ b∈bs,b∈lv)(h:Qv (Z7 ts bs) (some ((gd ts n).h:Nat))):∃ L,over (Z7 ts bs)=some L/\L=YK (YT ts bs)/\bs.Nodup/\bs.length<=4/\(YT ts bs).h=(gd ts n).h/\Zz gt ts n (YT ts bs):=by
 let⟨m,o⟩:=h;let⟨L,g⟩:=qO.mp m;let f:∀ b∈bs,b<ts.length:=λb h=>v.lt b (r b h);let⟨k,i,p,q,s,u,t⟩:=N6 j f g;let l:=o _ Z;rw[HA g] at l;let⟨a,b,c,d,e⟩:=ES j f g;refine⟨L,g,k,i,q,?_,⟨a,b,c,d,e⟩⟩;show (gd ts (bs.getD 0 0)).h+1=(gd ts n).h
 lia
def M9(b:Lv ts lv)(a:n∈lv)(i:Nat):(YG ts lv i).Perm ((if i∈(gd ts n).bs then [n] else [])++(lv.erase n).filter λj=>decide (i∈(gd ts j).bs)):=by
 let p:(lv.filter λj=>decide (i∈(gd ts j).bs)).Perm ((n::lv.erase n).filter λj=>decide (i∈(gd ts j).bs)):=(List.perm_cons_erase a).filter _;unfold YG;refine p.trans ?_;rw[uP];by_cases z:i∈(gd ts n).bs
 ·rw[aO z,aO (aK z)];exact vN.refl _
 ·rw[aM z,aM (by simpa using z)]
  exact vN.refl _
def ZMm{b:jr}(q:Lv ts lv)(A:Lv b lv)(o:n∈lv)(z:∀ j∈lv,j≠n->(gd b j).bs=(gd ts j).bs)(t:(gd b n).bs=bs)(a:Nat->jp)(s:∀ i∈lv,(a i).Perm (YG ts lv i))(i:Nat)(u:i∈lv):(Us ts n bs a i).Perm (YG b lv i):=by
 let x:lv.Nodup:=q.up.imp λh=>zL h;let d:=(s i u).trans (M9 q o i);let l:=M9 (i:=i) A o;let r:((lv.erase n).filter λj=>decide (i∈(gd b j).bs))=(lv.erase n).filter λj=>decide (i∈(gd ts j).bs):=uL λj v=>by
  let f:=(List.Nodup.mem_erase_iff x).mp v;rw[z j f.2 f.1]
 rw[r,t] at l;generalize ((lv.erase n).filter λj=>decide (i∈(gd ts j).bs))=F at d l;let k:i∈XU ts n bs ↔ i∈bs/\i∉(gd ts n).bs:=by unfold XU;simp
 let g:i∈Og ts n bs ↔ i∈(gd ts n).bs/\i∉bs:=by unfold Og;simp
 refine vN.trans ?_ l.symm;by_cases e:i∈(gd ts n).bs
 ·rw[aO e] at d;let w:i∉XU ts n bs:=λy=>(k.mp y).2 e;let m:Wr (XU ts n bs) n a i=a i:=aM w;by_cases c:i∈bs
  ·rw[aO c];have:Us ts n bs a i=a i:=by
    unfold Us Qg;rw[aM (λy=>(g.mp y).2 c),m]
   rw[this];exact d
  ·rw[aM c];have:Us ts n bs a i=(a i).erase n:=by
    unfold Us Qg;rw[aO (g.mpr ⟨e,c⟩),m]
   rw[this];have:=d.erase n;simpa using this
 ·rw[aM e] at d;let p:i∉Og ts n bs:=λy=>e (g.mp y).1;by_cases c:i∈bs
  ·rw[aO c];have:Us ts n bs a i=a i++[n]:=by
    unfold Us Qg Wr;rw[aM p,aO (k.mpr ⟨c,e⟩)]
   rw[this];exact(List.perm_append_comm).trans (d.append_left [n])
  ·rw[aM c];have:Us ts n bs a i=a i:=by
    unfold Us Qg Wr;rw[aM p,aM (λy=>c (k.mp y).1)]
   rw[this];exact d
def ZKw{a:jr}(o:Lv ts lv)(v:Lv a lv)(m:n∈lv)(u:∀ j∈lv,j≠n->(gd a j).bs=(gd ts j).bs)(r:(gd a n).bs=bs)(q:∀ b∈XU ts n bs,1<=ho b)(i:Nat)(w:i∈lv):(YG a lv i).length+MK ts n bs ho i=(YG ts lv i).length+ho i:=by
 let t:lv.Nodup:=o.up.imp λh=>zL h;let f:=(M9 (i:=i) o m).length_eq;let e:=(M9 (i:=i) v m).length_eq;let p:((lv.erase n).filter λj=>decide (i∈(gd a j).bs))=(lv.erase n).filter λj=>decide (i∈(gd ts j).bs):=uL λj s=>by
  let g:=(List.Nodup.mem_erase_iff t).mp s;rw[u j g.2 g.1]
 rw[p,r,yV] at e;rw[yV] at f;generalize ((lv.erase n).filter λj=>decide (i∈(gd ts j).bs))=F at f e;let k:i∈XU ts n bs ↔ i∈bs/\i∉(gd ts n).bs:=by unfold XU;simp
 let l:i∈Og ts n bs ↔ i∈(gd ts n).bs/\i∉bs:=by unfold Og;simp
 unfold MK Vl Yi;by_cases d:i∈(gd ts n).bs
 ·rw[aO d] at f;by_cases c:i∈bs
  ·rw[aO c] at e;rw[aM (λy=>(l.mp y).2 c),aM (λy=>(k.mp y).2 d)]
   lia
  ·rw[aM c] at e;rw[aO (l.mpr ⟨d,c⟩),aM (λy=>(k.mp y).2 d)];simp at f e
   lia
 ·rw[aM d] at f;by_cases c:i∈bs
  ·rw[aO c] at e;rw[aM (λy=>d (l.mp y).1),aO (k.mpr ⟨c,d⟩)];have:=q i (k.mpr ⟨c,d⟩);simp at f e
   lia
  ·rw[aM c] at e;rw[aM (λy=>d (l.mp y).1),aM (λy=>c (k.mp y).1)]
   lia
end
abbrev Lu:Stmt:=Xo (top 36) 11
structure XZ(K:zZ)(mg:jb)(nm:Str)(C:aj):Prop where
 at_:mg nm=some (.ref C)
 exk:vM K C Q7 "ValueError.__new__" = true
 kp:yT K (.ref C)=true
 mB:yY K C (.type "BaseException")=some true
 ty:yB K (.ref C)=some (.type "type")
def FK{d:jr}:∀{l:jp},(∀ b∈l,(gd d b).rows≠[])->((l.flatMap λb=>(gd d b).rows).map (·.1)).Pairwise (λa b=>a.lt b=true)->l.Nodup
 | [],_,_=>List.nodup_nil
 | b::l,h,hp=>by
  rw[xE,yO,vF] at hp;refine xQ.mpr ⟨λz=>?_,FK (λc f=>h c (zH _ f)) hp.2.1⟩;let⟨r,j,e⟩:=List.exists_cons_of_ne_nil (h b zP);let g:r.1∈(gd d b).rows.map (·.1):=by rw[e];simp
  let i:r.1∈(l.flatMap λb=>(gd d b).rows).map (·.1):=zJ.mpr ⟨r,uZ.mpr ⟨b,z,by rw[e];simp⟩,Z⟩
  have:=hp.2.2 _ g _ i;rw[Mv] at this;cases this
def GS{gt:jq}{a:jr}(c:WF gt a){i:Nat}(l:i<a.length)(f:(gd a i).h≠0):(gd a i).bs.Nodup:=by
 let d:=c i _ (Wd l);let⟨_,_,g,j⟩:=d.stem f;let e:=d.up;rw[j] at e;exact FK (λb k=>(c b _ (Wd (g b k).1)).ne) e
def IX{K:zZ}{p:aj}{bs cs:jp}{n:L2.St}{l:jp}{H:Hp}{m:TT}{Q:VK}(o:bs.length<=900)(e:H p=some (.lst (iN bs)))(d:∀ (a:Hp) (j:Nat) (R:Bool->Hp->Prop),j∈bs->ZB H a->R (decide (j∉cs)) a->m (P0 n l (.int (j:Nat))) a R)(k:∀ (D:aj) (a:Hp),ZB H a->H D=none->a D=some (.lst (iN (bs.filter λb=>decide (b∉cs))))->Q (.ref D) a):WH (NJ K p) n l m (UC 0) H Q:=
 JQ bs (λj=>decide (j∉cs)) o (λi f c g=>⟨_,.int (bs[i]:Nat),ZF.of (c _ _ e),by simp[iN,zV g]⟩) (λi f x q c g h=>⟨h.1,h.2 _ (ZF.of (c _ _ e))⟩) (λf c=>⟨_,ZF.of (c _ _ e),by simp[iN]⟩) d k
def Nj(x:Nat)(l:jp):(if true=true then !NV (.int (x:Nat)) (iN l) else NV (.int (x:Nat)) (iN l))=decide (x∉l):=by
 rw[aO rfl,HN,decide_not]
inductive YB(gt:jq)(jg jh CS CT CH CD:aj):Sp
 |mk{S d t l:aj}{e:jr}{a:jp}{s:Nat->jp}{g:Nat->Nat}{r:jx}{q:List (ZR×V)}{u:je}{n:Nat}{h:jw}{H:Hp}{Q:VK}{E:XK}:
  VS gt jg jh H S d t e a s g r q u->n∈a->a.length<=800->H l=some (.lst (h.map V.int))->h.length<=100 ->
  (Wo e a g n h [.str "stem"]->∀ k,ZB H k->E (.ref CS) none k) ->
  (∀ j:Nat,Wo e a g n h [.str "shared",.int (j:Nat)]->Vy CD (j:Nat) E H) ->
  (∀ x:Int,Wo e a g n h [.str "twig",.int x]->Vy CT x E H) ->
  (∀ b:Nat,Wo e a g n h [.str "held",.int (b:Nat)]->Vy CH (b:Nat) E H) ->
  (∀ bs rest p,NE e a g n h bs rest p->∀(k:Hp)(m:jx),(∀ c o,(∀ i:Nat,i∈a->c≠(r.getD i .d).x/\c≠(r.getD i .d).ab)->H c=some o->k c=some o)->YF jg jh k S d t p a (Us e n bs s) (MK e n bs g) m q u->KW H a r m->Q .non k) ->
  YB gt jg jh CS CT CH CD [.ref S,.int (n:Nat),.ref l] H Q E
abbrev ZNG:js:=["self","number","numbers","twig","road","old","branches","label","labels","new"]
def Ve:ZA ZNG zEm (Ze Lu):=Z4
def Ah{gt:jq}(F:Zn K "change_stem" "Shelf.change_stem" Lu f fd)(m3:K.In kf)(T:YZ mg)(L:Yj K mg jg jh)(ZS:XZ K mg "NoStem" CS)(DT:ZI P w K mg kf Zc 1 jg "twig_of" zEa (Zr jg))(DI:ZC P w K mg kf 1 "is_stem" ["twig"] (VP jh))(DR:ZI P w K mg kf (YL P w) 3 jg "road_up" zEa (VD gt jg jh CD))(DL:ZI P w K mg kf (YL P w) 5 jg "labels_of" zEj (XF jg jh CT))(DO:QM P w K mg kf 9 "label_over" zFc (X6 CS))(DU:ZI P w K mg kf (YL P w) 10 jg "labels_up" zE3 (X0 gt jg jh CS))(DC:ZI P w K mg kf (YL P w) 3 jg "check_held" zEj (Yu jg jh CH))(DG:ZI P w K mg kf Zc 2 jg "give_labels" zFe (Vz jg jh))(DK:ZI P w K mg kf Zc 2 jg "take_over" zEn (Y8 jg jh))(DB:ZI P w K mg kf Zc 2 jg "give_back" zEn (XE jg jh)):
  ZK P w K mg kf (YL P w) 11 f fd zEm (YB gt jg jh CS CT CH CD):=by
 refine F.kD Ve λt6 A s0 s H vs Q E hr h=>?_;let⟨U,u,t3,hl,i1,kS,kD,kT,kH,kY⟩:=h;rename_i S d lk l m M av O k a6 ls n ns
 let nd:=Ve.nd;let⟨t0,m0⟩:=T.height;let l1:=hr.mono (show 1<=10 by lia)
 let e1:=hr.mono (show 2<=10 by lia)
 let l2:=hr.mono (show 3<=10 by lia)
 let r1:=hr.mono (show 5<=10 by lia)
 let r2:=hr.mono (show 9<=10 by lia)
 intro Xc;refine⟨_,ZN (Zo 3 nd (Yp (E:=E0) (pv 0) L.cS DT l1 Yv (ZX (pv 1))))
  (ZN (Zy (XT (Yk (Zk DI l1 (ZX (pv 3))))) (ZV (Mf VU (LQ m3 ZS.at_ ZS.exk) ZS.kp ZS.mB ZS.ty rfl)) Z0)
  (ZN (Zo 4 nd (Yp (E:=E) (pv 0) L.cS DR l2 (Uw VU λ_ _ _ h=>h) (ZX (pv 1))))
  (ZN (Q9 (i:=5) nd rfl (Or.inr rfl) (WO (pv 3) rfl))
  (ZN (Q9 (i:=6) nd rfl (Or.inr rfl) (Wt PU rfl T.list Up (ZX (pv 2))))
  (ZN (Zo 7 nd (J1 (E:=E) DO r2 (Uw VU λ_ _ _ h=>h) (ZX (Yp (E:=E) (pv 0) L.cS DL r1 (Uw VU λ_ _ _ h=>h) (ZX (pv 6))))))
  (ZN (Zy (YJ Qs (Zi K (pv 7) (WN (v:=.int 0) rfl m0 ⟨_,rfl⟩)) (Zi K (WO (pv 3) rfl) (WN (v:=.int 0) rfl m0 ⟨_,rfl⟩)) (Z3 _)) (ZV (Mf VU (LQ m3 ZS.at_ ZS.exk) ZS.kp ZS.mB ZS.ty rfl)) Z0)
  (ZN (Zo 8 nd (Yp (E:=E) (pv 0) L.cS DU hr (Uw VU λ_ _ _ h=>h) (Zd (pv 4) (pv 7))))
  (ZN (ON (i:=9) [5] ["old"] nd rfl rfl rfl (Xh (pv 6)) (λ_ _ _ _ _=>OB (YJ (r:=PY K true) Np (pv 0) (pv 1) Z)) (λ_ _ _ _ _=>pv 0) ⟨rfl,.inl rfl,rfl,trivial⟩)
  (ZN (Xu (Yp (E:=E) (pv 0) L.cS DC l2 (Uw VU λ_ _ _ h=>h) (ZX (pv 9))))
  (ZN (QV (pv 3) (pv 6) rfl)
  (ZN (Xu (Yp (E:=E0) (pv 0) L.cS DG e1 Yv (ZX (pv 8))))
  (ZN (Xu (Yp (E:=E0) (pv 0) L.cS DK e1 Yv (Zd (pv 1) (pv 9))))
  (ZV (Xu (Yp (E:=E0) (pv 0) L.cS DB e1 Yv (Zd (pv 1) (Um [6] ["branches"] rfl (Xh (pv 5)) (λ_ _ _ _ _=>OB (YJ (r:=PY K true) Np (pv 0) (pv 1) Z)) (λ_ _ _ _ _=>pv 0) ⟨rfl,.inl rfl,rfl,trivial⟩))))))))))))))))),?_⟩
 let R:=U.sh;let⟨dS,hS⟩:=R.sh.self;let W:=R.tw n u;let⟨dt,hx⟩:=W.tw.self;let⟨t1,vlo,vhi,c1,l3,_,_⟩:=id W.tag;let c1:(k.getD n .d).tg=t1:=V.ref.inj c1;exists _,Z,S,dS,_,Z,hS,Z,_,Z,S,d,lk,m.length,a6,ls,(n:Int),.ref (k.getD n .d).x,Z,R.sh,R.val n u;exists _,Z,(k.getD n .d).x,_,(k.getD n .d).tg,_,_,_,_,_,Z,W.tw,by rw[c1];exact l3,_,Z
 by_cases h0:(gd m n).h=0
 case pos=>
  rw[aJ (show ¬ (YK (gd m n)).h > 0 by show ¬ ((gd m n).h:Int) > 0;lia)]
  exact Z6 (kS (.leaf h0) H (ZB.refl H))
 rw[aK (show (YK (gd m n)).h > 0 by show ((gd m n).h:Int) > 0;lia)]
 refine Zj ?_;refine⟨_,Z,S,dS,_,Z,hS,Z,_,Z,S,d,lk,m,M,av,O,k,a6,ls,n,Z,U,u,λr l' H1 s1 nr p9 rd=>?_,λj hj=>kD j (.shared h0 hj)⟩;let⟨rest,el⟩:=rd.ne;subst el;let R1:=R.same s1;let⟨o0,r5⟩:=(R1.tw n u).tw.self;exists _,Z,(k.getD n .d).x,jh,o0,_,.ref (k.getD n .d).th,Z,r5,L.cT,L.nth,Z;exists _,Z,l,ns.map V.int,Z,.inl (ZF.of (s1 _ _ hl));intro q c7;let⟨H2,eU,g2,a2⟩:=VN c7 (.lst (ns.map V.int));rw[eU];let s2:=s1.trans g2;let a9:H q=none:=s1.free c7;let R2:=R.same s2;let⟨n6,p1⟩:=R2.sh.self;exists _,Z,S,n6,_,Z,p1,Z,_,Z,S,d,lk,q,m,M,av,O,k,a6,ls,ns,Z,R2,a2,i1,λx hx=>(kT x (.twig h0 rd hx)).mono s2;intro bs eb hb D2 us H3 s3 nD2 o6 i9;let B:QK m M O n ns bs rest:=⟨h0,rd,eb,hb⟩;let i8:∀ b∈bs,b<m.length:=λb h=>U.vl.lt b (hb b h);let lbs:ns.length=bs.length:=by rw[eb,zX]
 let lus:us.length=bs.length:=by rw[i9.1];exact zX _
 let m5:=s2.trans s3;refine⟨D2,us,Z7 m bs,Z,o6,i9,Jn (λb g=>U.wf b _ (Wd (i8 b g))),∅,λH4 s4=>⟨λX=>kS (.stem B λy=>y.1 X) H4 (m5.trans s4),λLb v X kv=>?_⟩⟩
 let a0:=m5.trans s4;let R4:=R.same a0;let kl:=NY kv;let⟨tl,tlo,thi,rfl,r3,t9,t8⟩:=id kl;let⟨o1,r6⟩:=(R4.tw n u).tw.self;let l4:=a0 _ _ l3;refine⟨_,Z,.inr (.inl ⟨tl,_,_,.int Lb.h,rfl,rfl,Za.of r3,Xd (j:=0) rfl,_,rfl,(k.getD n .d).x,jh,o1,_,.ref (k.getD n .d).tg,rfl,r6,L.cT,L.ntg,rfl,.inr (.inl ⟨(k.getD n .d).tg,_,_,.int (YK (gd m n)).h,rfl,rfl,Za.of (by rw[c1];exact l4),Xd (j:=0) rfl,rfl,_,rfl,?_⟩)⟩)⟩
 let⟨o3,_,_,_,t7,_,_⟩:=N6 U.wf i8 X;let e9:Lb.h=((Z7 m bs).getD 0 .d).h+1:=by
  rw[o3,HA X];rfl
 by_cases hh:Lb.h=(YK (gd m n)).h
 case neg=>
  let e:(!decide (V.int Lb.h=V.int (YK (gd m n)).h))=true:=by rw[aJ (λy=>hh (V.int.inj y))];rfl
  rw[e];exact Z6 (kS (.stem B λy=>hh (by rw[e9];exact y.2 _ Z)) H4 a0)
 let e:(!decide (V.int Lb.h=V.int (YK (gd m n)).h))=false:=by rw[aK (congrArg V.int hh)];rfl
 rw[e];refine Zj ?_;let ov:Qv (Z7 m bs) (some ((gd m n).h:Nat)):=⟨(by rw[X];intro z;cases z),λh' z=>by cases z;rw[<-e9];exact hh⟩
 let⟨L',o8,o2,n5,b4,th,m8⟩:=KU U.wf U.vl hb ov;cases X.symm.trans o8;subst o2;let l8:=U.l800;let s9:=rd.short U.wf U.vl;let ral:=Fu m (gd m n).h;let rl:rest.length<=800:=by
  rw[zA] at s9
  lia
 let⟨f1,f2,f3,f4⟩:=rd.facts U.wf U.vl u;let⟨n7,p2⟩:=R4.sh.self;let r0:=((g2.trans s3).trans s4) _ _ p9;refine⟨_,Z,S,n7,_,Z,p2,Z,_,Z,_,Z,.mk R4 U.wf U.vl u rd rl r0 th hb m8 kl (λec H' s'=>kS (.up B ov ec) H' (a0.trans s')) λG ec H5 D e3 s5 nD hD l0=>?_⟩;let c4:=a0.trans s5;let R5:=R.same c4;let eI:ns.map V.int=iN bs:=by rw[eb,zO];rfl
 rw[eI] at a2;let J:=((s3.trans s4).trans s5) _ _ a2;let⟨ws,l5,_,c9⟩:=W.things;let c9:=c9 h0;subst c9;let l6:=c4 _ _ l5;let t5:(gd m n).bs.length<=4:=((U.wf n _ (Wd (U.vl.lt n u))).stem h0).2.1;refine⟨_,Z,q,Z,⟨_,ZF.of J⟩,IX (cs:=(gd m n).bs) ∅ J (λHq j Rq hj sq hR=>⟨_,Z,_,Z,(k.getD n .d).th,_,Z,.inl (ZF.of (sq _ _ l6)),Z,OP _,_,Z,by rw[Nj];exact hR⟩) λLW H6 s6 r9 i3=>?_⟩
 let e5:=c4.trans s6;let m4:H LW=none:=c4.free r9;let R6:=R.same e5;let⟨n8,p3⟩:=R6.sh.self;let e4:∀ b∈XU m n bs,b∈M:=λb h=>hb b (yN.mp h).1;exists _,Z,S,n8,_,Z,p3,Z,_,Z,S,d,lk,LW,m,M,av,O,k,a6,ls,XU m n bs,Z,R6,i3,e4,λb hf=>(kH b (.held B ov ec hf)).mono e5;intro hf H7 s7;let Y:NE m M O n ns bs rest G:=⟨B,ov,ec,hf⟩;let c5:=e5.trans s7;let R7:=R.same c5;let⟨e8,p4⟩:=R7.sh.self;let⟨N,c3⟩:=(R7.tw n u).tw.self;let e6:=s6.trans s7;let a3:=e6 _ _ J;let i2:=e6 _ _ hD;exists _,Z,_,Z,(k.getD n .d).x,jh,N,_,Z,c3,L.cT,L.nth,yR Z;let I:∀ c o,c≠(k.getD n .d).x->H7 c=some o->upd H7 (k.getD n .d).x (.ins jh N (Yq "things" (.ref q) (VC (.ref (k.getD n .d).th) (.ref (k.getD n .d).tg) (k.getD n .d).ab (O n)))) c=some o:=λc o n e=>by rw[ZO n];exact e
 let m1:upd H7 (k.getD n .d).x (.ins jh N (Yq "things" (.ref q) (VC (.ref (k.getD n .d).th) (.ref (k.getD n .d).tg) (k.getD n .d).ab (O n)))) (k.getD n .d).x=some (.ins jh N (VC (.ref q) (.ref (k.getD n .d).tg) (k.getD n .d).ab (O n))):=ZP;generalize upd H7 (k.getD n .d).x (.ins jh N (Yq "things" (.ref q) (VC (.ref (k.getD n .d).th) (.ref (k.getD n .d).tg) (k.getD n .d).ab (O n))))=H8 at I m1⊢;let nl:∀ i∈n::rest,i∈M:=λi p=>(f1 i p).1;let p0:=LX U.wf U.vl rd u (t:=YT m bs) th hb m8;let pp:VR gt m M n G (n::rest) []:=by
  cases rest with
  | nil=>rw[Xn] at ec;cases ec;exact p0
  | cons s rest=>
   let s8:Zx m M O s (s::rest):=rd.drop 1 s Z;exact IF U.wf U.vl s8 (nl s (by simp)) (by have:=f2 s (by simp);lia) p0 ec
 let' tgv:Nat->Addr:=λi=>match YI e3 (kI i) with | some (.ref a)=>a | _=>0
 let l9:∀ i∈n::rest,YI e3 (kI i)=some (.ref (tgv i))/\Z9 H5 (YK (gd G i)) (.ref (tgv i)):=λi p=>by
  let⟨v',e',k'⟩:=l0.at_ i p;let⟨a,b1,b2,rfl,b3⟩:=id k';have:tgv i=a:=by show (match YI e3 (kI i) with | some (.ref a)=>a | _=>0)=a;rw[e']
  rw[this];exact⟨e',k'⟩
 let nS:∀ i∈n::rest,(k.getD i .d).x≠S:=λi p=>(R.own i (nl i p)).1;let i7:=I _ _ (nS n zP).symm p4;let p6:=I _ _ (ZD R7.sh.kept c3) R7.sh.kept;let p7:=I _ _ (ZD R7.sh.looks c3) R7.sh.looks;let o7:=I _ _ (ZD i2 c3) i2;refine⟨_,Z,S,e8,_,Z,i7,Z,_,Z,.mk (rd:=n::rest) (x:=λi=>(k.getD i .d).x) (ab:=λi=>(k.getD i .d).ab) (th:=λi=>.ref (if i=n then q else (k.getD i .d).th)) (tg:=λi=>.ref (k.getD i .d).tg) (vl:=λi=>.ref (tgv i)) (ho:=O) ⟨⟨e8,i7⟩,p6,p7⟩ (λi p=>⟨R.val i (nl i p),nS i p⟩) (λi p=>?_) o7 (ZW (a0 _ _ R.sh.kept) nD).symm l0.keys f3 (λi p=>(l9 i p).1) (λi p j hj n'=>(R.two i j (nl i p) (nl j hj) n').1) λH9 o4 p8=>?_⟩
 ·by_cases z:i=n
  ·subst z;exact⟨N,by(try dsimp only);rw[aO rfl];exact m1⟩
  ·let⟨dx,e⟩:=(R7.tw i (nl i p)).tw.self;exact⟨dx,by(try dsimp only);rw[aM z];exact I _ _ (R.two i n (nl i p) u z).1 e⟩
 let a1:∀ c o,(∀ i∈n::rest,c≠(k.getD i .d).x)->H7 c=some o->H9 c=some o:=λc o n1 e=>o4 c o n1 (I c o (n1 n zP) e);let m2:∀ i∈n::rest,∃ dx us,H7 (k.getD i .d).x=some (.ins jh dx us):=λi p=>by
  let⟨dx,e⟩:=(R7.tw i (nl i p)).tw.self;exact⟨dx,_,e⟩
 let a5:∀ c o,(∀ C dx fs,o≠.ins C dx fs)->H7 c=some o->H9 c=some o:=λc o n1 e=>a1 c o (λi p=>by
  let⟨dx,us,e2⟩:=m2 i p;exact ZD e e2 (n1 _ _ _)) e
 let r7:YR H7 H9:=λc xs e=>a5 c _ (by intro _ _ _ z;cases z) e
 let o5:gd G n=YT m bs:=by
  rw[IT ec (xQ.mp f3).1,Pj (U.vl.lt n u),aO rfl]
 let⟨R9,A9⟩:=BV (cur:=G) (rd:=n::rest) (n:=n) (own:=q) (tg:=tgv) (us:=iN bs) (H':=H9) R pp.len zP nl a9 (λc o n1 e=>a1 c o n1 (c5 _ _ e)) pp.sh pp.hh pp.old (λi p z=>by have:=f2 i ((zB.mp p).resolve_left z);lia) p8 (λi p=>((l9 i p).2.mono (ZB.tups e6)).mono r7) (a5 _ _ (by intro _ _ _ z;cases z) a3) (λz=>absurd z (by rw[pp.hh n];exact h0)) (λ_=>by rw[o5];rfl)
 let i4:=s7 _ _ i3;let i5:=a5 _ _ (by intro _ _ _ z;cases z) i4
 let h1:∀ b∈XU m n bs,1<=O b:=λb g=>by
  have:=vT.mp hf b g;simp at this
  lia
 let a8:∀ b∈M,(av b).length<=900:=λb g=>by
  rw[(U.av b g).length_eq];have:=F9 m M b
  lia
 let⟨n9,p5⟩:=R9.sh.self;generalize PX k (n::rest) n q tgv=c0 at R9 A9;refine⟨_,Z,S,n9,_,Z,p5,Z,_,Z,_,Z,S,d,lk,LW,G,M,av,O,c0,a6,ls,XU m n bs,n,Z,R9,i5,n5.sublist List.filter_sublist,λb g=>⟨e4 b g,h1 b g,a8 b (e4 b g)⟩,λb g=>?_,λm9 c6 t2 c8=>?_⟩
 ·rw[A9.ab b g];exact(ZW (R.tw b g).tw.above m4).symm
 let l7:=a5 _ _ (by intro _ _ _ z;cases z) (c5 _ _ l5)
 let e0:=a5 _ _ (by intro _ _ _ z;cases z) a3
 let a7:∀(c:aj)(xs:je),(∀ b∈M,c≠(k.getD b .d).ab)->H9 c=some (.lst xs)->m9 c=some (.lst xs):=λc xs n1 e=>c6 c _ (λb g=>by
  let⟨dx,r4⟩:=(R9.tw b g).tw.self;exact⟨ZD e r4,by rw[A9.ab b g];exact n1 b g⟩) e
 let m7:∀ b∈M,(k.getD n .d).th≠(k.getD b .d).ab:=λb g=>by
  by_cases z:b=n
  ·subst z;exact(R.own b g).2.2.2.symm
  ·exact(R.two b n g u z).2.2.1.symm
 let a4:=a7 _ _ m7 l7;let c2:=a7 _ _ (λb g=>(ZW (R.tw b g).tw.above a9).symm) e0;let⟨e7,i6⟩:=c8.sh.self;refine⟨_,Z,S,e7,_,Z,i6,Z,_,Z,_,Z,(k.getD n .d).th,Z,⟨_,ZF.of a4⟩,IX (cs:=bs) ∅ a4 (λHq j Rq hj sq hR=>⟨_,Z,_,Z,q,_,Z,.inl (ZF.of (sq _ _ c2)),Z,OP _,_,Z,by rw[Nj];exact hR⟩) λLG t4 m6 r8 o9=>?_⟩
 let n3:=c8.same m6;refine .mk n3 o9 ((GS U.wf (U.vl.lt n u) h0).sublist List.filter_sublist) (λb g=>?_) (λb g=>(ZW (c8.tw b g).tw.above r8).symm) λn0 i0 n4=>?_
 ·let⟨q1,q2⟩:=yN.mp g;let q2:=of_decide_eq_true q2;let bl:=U.vl.cl n u b q1;exists bl;rw[show Wr (XU m n bs) n av b=av b from aM (λy=>q2 (yN.mp y).1)];exact(U.av b bl).symm.subset (JR u q1)
 ·refine kY bs rest G Y n0 c0 (λc o n1 e=>?_) n4 A9;let n2:∀ b:Nat,b∈M->c≠(c0.getD b .d).x/\c≠(c0.getD b .d).ab:=λb g=>by rw[A9.x b g,A9.ab b g];exact n1 b g
  exact i0 c o n2 (m6 _ _ (c6 c o n2 (a1 c o (λi p=>(n1 i (nl i p)).1) (c5 _ _ e))))
end Tw
namespace L2
open PySem PySem.Spec PyProof.Rows
def Yf(H a:Hp):Prop:=(∀ b d,H b=some (.ext d)->a b=some (.ext d))/\∀ b c,H b=some (.tbl c)->a b=some (.tbl c)
def Yf.same{H a:Hp}(s:ZB H a):Yf H a:=⟨λb _ e=>s b _ e,λb _ e=>s b _ e⟩
def Yf.trans{H d f:Hp}(a:Yf H d)(b:Yf d f):Yf H f:=⟨λc h e=>b.1 c h (a.1 c h e),λc g e=>b.2 c g (a.2 c g e)⟩
def ZT.ext{H b:Hp}{T:aj}{q:Str}(h:ZT H T q)(e:Yf H b):ZT b T q:=by
 let⟨l,g,i,j⟩:=h;exists l,e.2 _ _ g,i;intro a f k;let⟨c,d,m,n,o⟩:=j a f k;exact⟨c,d,m,e.1 _ _ n,o⟩
section
variable{cs:jv}{HL Hc H' H3:Hp}
def Mu(d:∀ c∈cs,H' c=none)(f:ZB (reT cs Hc H') H3){b:aj}{o:HO}(e:H' b=some o):unT cs H3 b=some o:=by
 let a:b∉cs:=λz=>by rw[d b z] at e;cases e
 rw[Vq a];exact f _ _ (by rw[UB a];exact e)
def Pt(a:∀ c∈cs,∃ o,Hc c=some (Yz c o))(b:ZB (reT cs Hc H') H3):∀ c∈cs,H3 c=Hc c:=λc h=>by
 let⟨o,e⟩:=a c h;rw[e];exact b _ _ (by rw[N8 h];exact e)
def OO(a:∀ c∈cs,∃ o,Hc c=some (Yz c o))(f:ZB (reT cs Hc H') H3){t:aj}{b:je}(e:H3 t=some (.tup b)):unT cs H3 t=some (.tup b):=by
 rw[Vq λz=>?_]
 ·exact e
 ·rw[Pt a f t z] at e;let⟨o,d⟩:=a t z;rw[d] at e;cases e
end
end L2
namespace Tw
open PySem PySem.Spec L2 PyProof.Rows
variable{jg jh CS CT CH CK CP CB:aj}
abbrev qS:Str:=("_law_put_stem" ++ ".<locals>.") ++ "<lambda>"
abbrev cl2(n:Nat):jE:=[((("_law_shelf" : String):Str),n+4),((("_law_handed" : String):Str),n+3)]
def Qz(j:Nat):Arguments×Expr×Scope:=match (Xk Vs)[j]? with
 | some (.Assign _ (.Call _ [.Lambda a b c _] _ _) _)=>(a,b,c)
 | _=>(⟨[],[],none,[],[],none,[]⟩,.Name "" ⟨0,0,0,0⟩,(Ze Vs))
def HW{f g:aj}{H l:Hp}{S d r T:aj}{u:jr}{t:jp}{n:Nat->jp}{p:Nat->Nat}{m:jx}{h:List (ZR×V)}{s:je}{q:Str}(R:YF f g H S d r u t n p m h s)(k:ZT H T q)(a:∀ b o,b≠T->H b=some o->l b=some o):YF f g l S d r u t n p m h s:=by
 let⟨C,c,_⟩:=id k;let⟨⟨A,v⟩,w,x⟩:=id R.sh;refine R.frame (λb E e=>a _ _ (ZD e c) e) (λo e=>a _ _ (ZD v c) e) (λo e=>a _ _ (ZD w c) e) (λo e=>a _ _ (ZD x c) e) λi j=>?_;let⟨B,z⟩:=(R.tw i j).tw.self;let⟨D,y,_⟩:=(R.tw i j).things;exact⟨λo e=>a _ _ (ZD z c) e,λo e=>a _ _ (ZD y c) e,λo e=>a _ _ (ZD (R.tw i j).tw.above c) e⟩
def ZMc{gt:jq}{o q m f c':aj}{co:aH}{pm ctv:ai}{n:Nat}(i:WI co qS)(L:Yj K mg jg jh)(t:ZI P w K mg kf (YL P w) 10 jg "put_stem" zEj (YM gt jg jh o q m)):
  ZK P w K mg kf (YL P w) 70 f (tF "<lambda>" qS (Qz 6).1 (Qz 6).2.1 (Qz 6).2.2 (cl2 n) pm (.ref c') ctv) []
   (Jg f c' (wT "<lambda>" qS (Qz 6).1 (Qz 6).2.1 (Qz 6).2.2 (cl2 n) pm c' ctv) co (cl2 n) zE8 (YM gt jg jh o q m)):=by
 let T:(("_law_shelf" : String):Str)≠(("_law_handed" : String):Str):=by decide
 refine ED (k:=69) (λx y c v B=>?_) (λx h=>?_) (λx c h=>?_) (by decide +kernel) Z Z Z (by decide +kernel) i λA j s H X Q E D h=>?_
 ·let a:=PySem.mem_of_lookup v;let b:=PySem.mem_of_lookup B;simp only[zB,uY,or_false,Prod.mk.injEq] at a b;rcases a with ⟨a,e⟩ | ⟨a,e⟩ <;> rcases b with ⟨b,g⟩ | ⟨b,g⟩
  ·rw[a,b]
  ·exact absurd (e.symm.trans g) (xH (xT (n+3)))
  ·exact absurd (g.symm.trans e) (xH (xT (n+3)))
  ·rw[a,b]
 ·let r:∀ p∈(Qz 6).2.2.names,(p.2=.cell\/p.2=.free)->p.1=(("_law_handed" : String):Str)\/p.1=(("_law_shelf" : String):Str):=by decide +kernel
  have:x=(("_law_handed" : String):Str)\/x=(("_law_shelf" : String):Str):=by
   rcases h with h | h
   ·exact r _ (PySem.mem_of_lookup h) (.inl rfl)
   ·exact r _ (PySem.mem_of_lookup h) (.inr rfl)
  rcases this with z | z
  ·exact⟨n+3,by rw[z];rfl⟩
  ·exact⟨n+4,by rw[z];rfl⟩
 ·let a:=PySem.mem_of_lookup h;exact zJ.mpr ⟨_,a,Z⟩
 ·let⟨S,d,M,l,V,O,I,J,G,F,N,U,rfl,R,_⟩:=id h;let⟨u,C⟩:=R.sh.self;exact⟨_,Yp (E:=E) (pv 0) L.cS t (D.mono ∅) (Uw (E1:=E) G0 λ_ _ _ h=>h) (ZX (pv 1)),_,Z,S,u,_,Z,C,Z,_,Z,h⟩
def Lf{gt:jq}{CB:aj}{C:Nat->aj}{n:Nat}{σ:L2.St}{H2:Hp}{Q:VK}{T hd S d lk:aj}{ts:jr}{lv:jp}{av:Nat->jp}{ho:Nat->Nat}{as:jx}{kvs:List (ZR×V)}{ls:je}{ns:jw}{NX:js}{j0 j1:Nat}{f3 f4:aj}(L:Yj K mg jg jh)(X2:XC K CB C 2)(X3:XC K CB C 3)(X4:XC K CB C 4)(F3:YC K (C 3) f3 "number")(F4:YC K (C 4) f4 "number")(DM:ZI P w K mg kf (YL P w) 10 jg "put_stem" zEj (YM gt jg jh (C 2) (C 3) (C 4)))(tab:ZT H2 T qS)(hj:NX[j0]? = some (("_law_handed" : String):Str))(hσ:σ[j0]? = some (some (.ref hd)))(hj1:NX[j1]? = some (("_law_shelf" : String):Str))(hσ1:σ[j1]? = some (some (.ref S)))(hhd:H2 hd=some (.lst (ns.map V.int)))(R:YF jg jh H2 S d lk ts lv av ho as kvs ls)(hw:WF gt ts)(t800:lv.length<=800)(a800:∀ b,b∈lv->(av b).length<=800)(h100:ns.length<=100)(k1:∀ x,ns.find? (λx=>!YX lv x)=some x->∀ (h:Hp) (t:aj),(∀ b o,b≠T->H2 b=some o->h b=some o)->ZT h T qS->h t=some (.tup [.str "twig",.int x])->Q (.ref t) h)(k2:∀ bs:jp,ns=bs.map (λb:Nat=>(b:Int))->(∀ b∈bs,b∈lv) ->
   (over (Z7 ts bs)=none->∀ (h:Hp) (t:aj),(∀ b o,b≠T->H2 b=some o->h b=some o)->ZT h T qS->h t=some (.tup [.str "stem"])->Q (.ref t) h) /\
   (over (Z7 ts bs)≠none->∀ b,bs.find? (λb=>decide (ho b=0))=some b->∀ (h:Hp) (t:aj),(∀ b o,b≠T->H2 b=some o->h b=some o)->ZT h T qS->h t=some (.tup [.str "held",.int (b:Nat)])->Q (.ref t) h) /\
   (over (Z7 ts bs)≠none->bs.find? (λb=>decide (ho b=0))=none->∀ (h:Hp) (t:aj) (a:YE),H2 a.x=none->H2 a.th=none->H2 a.ab=none ->
    (∀ c o,c≠S->c≠d->c≠T->(∀ b:Nat,b∈lv->c≠(as.getD b .d).x/\c≠(as.getD b .d).ab)->H2 c=some o->h c=some o)->ZT h T qS ->
    YF jg jh h S d lk (ts++[YT ts bs]) (lv++[ts.length]) (Wr bs ts.length (WQ ts.length av)) (Yi bs (XW ts.length ho)) (as++[a]) (Zs kvs (.inl (ts.length:Int)) (.ref a.x)) ls->h t=some (.tup [.str "told",.int (ts.length:Nat)])->Q (.ref t) h)):
  J9 (YU P w K mg kf CB C) (cl2 n) zE8 NX (XV (K3 T (Qz 6).1 (Qz 6).2.1 (Qz 6).2.2 qS (cl2 n)) Vp) σ H2 Q:=by
 exists tab;intro I f c' co pm a1 a6 hf a5 N u c3;refine⟨[.ref S,.ref hd],Z,λi x v U H=>?_,λY eU c1 E CA=>?_⟩
 ·let i2:=(yS.mp H).1
  match i,i2,U,H with
  | 0,_,U,H=>cases U;cases H;exact⟨j1,hj1,hσ1⟩
  | 1,_,U,H=>cases U;cases H;exact⟨j0,hj,hσ⟩
  | i+2,i2,_,_=>exact absurd (show i+2<2 from i2) ∅
 let k:∀ c∈(cl2 n).map (·.2),∃ o,Y c=some (Yz c o):=λc hc=>by
  let⟨o,v,e,_⟩:=CA.all c hc;exact⟨o,e⟩
 let⟨ps,hT,_⟩:=id tab;let⟨c4,a3,_⟩:=id u;let W:=N _ _ (ZD hhd hT) hhd;let RL:=HW R tab N;let l:∀ b,I b=none->H2 b=none:=λb e=>by
  cases z:H2 b with
  | none=>rfl
  | some o=>
   by_cases y:b=T
   ·rw[y,a3] at e;cases e
   ·rw[N _ _ y z] at e;cases e
 exists f,_,_,_,Z,ZMc (n:=n) (f:=f) (c':=c') (co:=co) (pm:=pm) (ctv:=a1) a6 L DM,λs=>.of_eq Z,E _ _ hf;intro Q' E' hQ hE;exists Z,E _ _ hf,E _ _ a5,[.ref S,.ref hd],CA;rw[eU];let q:∀(j h:Hp),ZB I j->(∀ c∈(cl2 n).map (·.2),j c=none)->ZB (reT ((cl2 n).map (·.2)) Y j) h->(∀ b o,b≠T->H2 b=some o->unT ((cl2 n).map (·.2)) h b=some o)/\ZT (unT ((cl2 n).map (·.2)) h) T qS:=by
  intro j h B m p;let bk:ZB j (unT ((cl2 n).map (·.2)) h):=λb o e=>Mu m p e;exact⟨λb o nb e=>bk _ _ (B _ _ (N b o nb e)),u.ext (Yf.same (B.trans bk))⟩
 let A:∀(j:Hp)(b:aj)(o:HO),(∀ c∈(cl2 n).map (·.2),j c=none)->j b=some o->reT ((cl2 n).map (·.2)) Y j b=some o:=λj b o m e=>by
  have:b∉(cl2 n).map (·.2):=λz=>by rw[m b z] at e;cases e
  unfold reT;rw[aM this];exact e
 refine⟨S,d,lk,hd,ts,lv,av,ho,as,kvs,ls,ns,Z,RL,hw,t800,a800,W,h100,λx hx G j B D m=>?_,λbs eb hb=>?_⟩
 ·refine hE _ _ _ ⟨3,∅,Z,X3,.inr ⟨∅,G,x,f3,Z,A _ _ _ m D,F3,λh t p F=>?_⟩⟩
  let⟨J,M⟩:=q j h B m p;exact⟨Pt k p,k1 x hx _ t J M (OO k p F)⟩
 ·let⟨q1,q2,q3⟩:=k2 bs eb hb;refine⟨λr j B m=>?_,λr b a4 G j B D m=>?_,λr a8 j a nx c0 a9 O R' m=>hQ _ _ λt F=>?_⟩
  ·refine hE _ _ _ ⟨2,∅,Z,X2,.inl ⟨∅,λh t p F=>?_⟩⟩
   let⟨J,M⟩:=q j h B m p;exact⟨Pt k p,q1 r _ t J M (OO k p F)⟩
  ·refine hE _ _ _ ⟨4,∅,Z,X4,.inr ⟨∅,G,(b:Nat),f4,Z,A _ _ _ m D,F4,λh t p F=>?_⟩⟩
   let⟨J,M⟩:=q j h B m p;exact⟨Pt k p,q2 r b a4 _ t J M (OO k p F)⟩
  ·let g:=Zb F (.tup [.str "told",.int (ts.length:Nat)]);let bk:ZB j (unT ((cl2 n).map (·.2)) (upd (reT ((cl2 n).map (·.2)) Y j) t (.tup [.str "told",.int (ts.length:Nat)]))):=λb o z=>Mu m g z;let⟨⟨c2,a2⟩,a7,_⟩:=RL.sh;let a0:∀(b:aj)(o:HO),I b=some o->(∀ i:Nat,i∈lv->b≠(as.getD i .d).x/\b≠(as.getD i .d).ab)->b≠S->b≠d->j b=some o:=λb o e n1 n2 n3=>O b o n2 n3 n1 e;let kx:∀(b:aj)(o:HO),I b=some o->(∀ C G X,o≠.ins C G X)->(∀ X,o≠.lst X)->(∀ X,o≠.dK X)->j b=some o:=λb o e m1 m2 m3=>a0 b o e (λi hi=>by
    let⟨G,hx⟩:=(RL.tw i hi).tw.self;exact⟨ZD e hx (m1 _ _ _),ZD e (RL.tw i hi).tw.above (m2 _)⟩) (ZD e a2 (m1 _ _ _)) (ZD e a7 (m3 _))
   let ex:Yf I j:=⟨λb φ z=>kx _ _ z (by intro _ _ _ y;cases y) (by intro _ y;cases y) (by intro _ y;cases y),λb φ z=>kx _ _ z (by intro _ _ _ y;cases y) (by intro _ y;cases y) (by intro _ y;cases y)⟩
   exact⟨Pt k g,q3 r a8 _ t a (l _ nx) (l _ c0) (l _ a9) (λc o n1 n2 n3 n4 e=>bk _ _ (O c o n1 n2 n4 (N _ _ n3 e))) (u.ext (ex.trans (Yf.same bk))) (R'.same bk) (OO k g ZP)⟩
end Tw
namespace L2
open PySem PySem.Spec PyProof.Rows
inductive UA(a:zZ)(x y:V)(H:Hp)(Q:VK):Prop
 |mk(p b:aj)(c:jw)(_:x=.ref p)(_:y=.ref b)(_:ZF a H p (c.map V.int))(_:ZF a H b (c.map V.int))(_:Q (.bl false) H)
def FV(F:X.A.units<cLine):Ys X (ay .NotEq) (UA X.K):=by
 intro l s Y H x y v u Q I O P h;let⟨p,b,a,rfl,rfl,C,D,q⟩:=h;cases O;cases P;let⟨d,m,M,U⟩:=I.list C;let⟨c,n,N,W⟩:=I.list D;let L:=m.length;let R:=n.length;refine PySem.SeqAt.RcNeAt.lists (e:=λ_=>true) M.isList N.isList (by simp;lia) F (λj i B=>?_) X.prog X.w X.xe _ (Yr I q (by simp))
 let E:j<a.length:=by simp at i;simp at L;lia
 let k:(a.map V.int)[j]? = some (.int a[j]):=by simp[E]
 let⟨S,t,o⟩:=m.get k;let⟨T,z,r⟩:=n.get k;let⟨f,rfl⟩:=o;let⟨g,rfl⟩:=r;let G:d.toArray[j]=Value.int a[j] f:=by
  have:d.toArray[j]? = some (Value.int a[j] f):=by simpa using t
  rw[wI i] at this;exact zG.inj this
 let J:c.toArray[j]=Value.int a[j] g:=by
  have:c.toArray[j]? = some (Value.int a[j] g):=by simpa using z
  rw[wI B] at this;exact zG.inj this
 rw[G,J];have:=PySem.SeqAt.EqAt.int_int (A:=X.A.in1) (s:=s) a[j] f a[j] g;simpa using this
end L2
namespace Tw
open PySem PySem.Spec L2 PyProof.Rows
variable{jg jh CS CT CH CK CP CB:aj}
def ZOc{n:Nat}{y:Str}{c:aj}(h:(cl2 n).lookup y=some c):(cellsFrom (n+1) (Ze Vs).names []).lookup y=some c:=by
 let e:=PySem.mem_of_lookup h;simp only[zB,uY,or_false,Prod.mk.injEq] at e;rcases e with ⟨a,b⟩ | ⟨a,b⟩
 ·rw[a,b];rfl
 ·rw[a,b];rfl
def ZQp{n:Nat}:∀ c∈(cl2 n).map (·.2),∃ y,(cl2 n).lookup y=some c:=λc a=>by
 let e:c=n+4\/c=n+3:=by simpa using a
 rcases e with e | e
 ·exact⟨(("_law_shelf" : String):Str),by rw[e];rfl⟩
 ·exact⟨(("_law_handed" : String):Str),by rw[e];rfl⟩
def Bl:(Ze Vs).names.lookup (("_law_handed" : String):Str)=some .cell:=by decide +kernel
def ZNu:(Ze Vs).names.lookup (("_law_shelf" : String):Str)=some .cell:=by decide +kernel
def D0{n:Nat}:∀ y∈[(("_law_shelf" : String):Str),(("_law_handed" : String):Str)],(Ze Vs).names.lookup y=some .cell/\∃ c,(cl2 n).lookup y=some c:=λy a=>by
 let e:y=(("_law_shelf" : String):Str)\/y=(("_law_handed" : String):Str):=by simpa using a
 rcases e with e | e
 ·rw[e];exact⟨ZNu,_,Z⟩
 ·rw[e];exact⟨Bl,_,Z⟩
def GH{gt:jq}{g j:aj}{H p:Hp}{a:Pl}{m:Md}(h:LS gt g j H a m)(f:∀ c o,(∀ D,o≠.tbl D)->H c=some o->p c=some o):LS gt g j p a m:=by
 let⟨l,s,U,n⟩:=h.sh;let⟨Yo,L⟩:=h.lw;let⟨q,x,v⟩:=h.hd;let⟨u,G⟩:=h.gr;let r:YR H p:=λc K e=>f _ _ (by intro _ z;cases z) e
 let⟨⟨F,w⟩,y,A⟩:=id U.sh.sh;let R:YF g j p a.S a.d a.lk m.ts m.lv m.av m.ho a.as l s:=by
  refine U.sh.frame r (λo e=>f _ _ (by let b:=e.symm.trans w;cases b;intro _ z;cases z) e) (λo e=>f _ _ (by let b:=e.symm.trans y;cases b;intro _ z;cases z) e) (λo e=>f _ _ (by let b:=e.symm.trans A;cases b;intro _ z;cases z) e) λi k=>?_
  let⟨I,C⟩:=(U.sh.tw i k).tw.self;let⟨E,B,_⟩:=(U.sh.tw i k).things;exact⟨λo e=>f _ _ (by let b:=e.symm.trans C;cases b;intro _ z;cases z) e,λo e=>f _ _ (by let b:=e.symm.trans B;cases b;intro _ z;cases z) e,λo e=>f _ _ (by let b:=e.symm.trans (U.sh.tw i k).tw.above;cases b;intro _ z;cases z) e⟩
 refine⟨⟨l,s,U.frame R,n⟩,⟨Yo,L.frame r (f _ _ (by intro _ z;cases z) L.dict) λi k o e=>?_⟩,⟨q,f _ _ (by intro _ z;cases z) x,v⟩,⟨u,G.frame r (f _ _ (by intro _ z;cases z) G.at_)⟩,f _ _ (by intro _ z;cases z) h.told,h.dd,h.tt,h.t2,h.t3,h.l64,h.l700⟩
 let⟨J,E,_,_,t,_⟩:=L.tw i k;exact f _ _ (by let b:=e.symm.trans t;cases b;intro _ z;cases z) e
def CJ{gt:jq}{s q:aj}{H H':Hp}{a:Pl}{m:Md}(h:LS gt s q H a m)(t:∀ c o,(∀ N,o≠.tbl N)->c≠a.S->c≠a.d->c≠a.lk->(∀ i:Nat,i∈m.lv->c≠a.x i/\c≠a.ab i)->H c=some o->H' c=some o):LO gt H' a m:=by
 let⟨K,P,U,C⟩:=h.sh;let⟨Yo,L⟩:=h.lw;let⟨v,I,F⟩:=h.hd;let⟨E,G⟩:=h.gr;let R:=U.sh;let⟨⟨O,u⟩,A,B⟩:=R.sh;let w:∀ i:Nat,i∈m.lv->∃ n p,H (a.x i)=some (.ins q n p):=λi f=>by
  let⟨n,e⟩:=(R.tw i f).tw.self;exact⟨n,_,e⟩
 let r:∀ i:Nat,i∈m.lv->H (a.ab i)=some (.lst (iN (m.av i))):=λi f=>(R.tw i f).tw.above;let D:YR H H':=λb T e=>t b _ (by intro _ z;cases z) (ZD e u) (ZD e A) (ZD e B) (λi f=>by
  let⟨n,p,k⟩:=w i f;exact⟨ZD e k,ZD e (r i f)⟩) e
 let g:∀(c:aj)(l:je),H c=some (.lst l)->c≠a.lk->(∀ i:Nat,i∈m.lv->c≠a.ab i)->H' c=some (.lst l):=λc l e y M=>t c _ (by intro _ z;cases z) (ZD e u) (ZD e A) y (λi f=>by
  let⟨n,p,k⟩:=w i f;exact⟨ZD e k,M i f⟩) e
 let dict:∀(c:aj)(l:List (ZR×V)),H c=some (.dK l)->c≠a.d->H' c=some (.dK l):=λc l e y=>t c _ (by intro _ z;cases z) (ZD e u) y (ZD e B) (λi f=>by
  let⟨n,p,k⟩:=w i f;exact⟨ZD e k,ZD e (r i f)⟩) e
 refine⟨⟨Yo,L.frame D (dict _ _ L.dict h.dd.1) λi f o e=>?_⟩,⟨v,dict _ _ I h.dd.2.1,F⟩,⟨E,G.frame D (g _ _ G.at_ h.tt.2.2.symm λi f=>(h.t2 i f).2.2)⟩,g _ _ h.told h.tt.1 λi f=>(h.t2 i f).1⟩;let⟨Q,p,_,_,k,_⟩:=L.tw i f;have:o=.lst p:=by have:=e.symm.trans k;exact zG.inj this
 subst this;exact g _ _ e (h.t3 i f).2.1 λj J=>(h.t3 i f).2.2 j J
def Lg{bs:jp}{a:Nat->Nat}:(bs.map (λb:Nat=>(b:Int))).find? (λn=>decide (((a n.toNat:Nat):Int)=0))=(bs.find? λb=>decide (a b=0)).map λb:Nat=>(b:Int):=by
 rw[List.find?_map]
 congr 1
 refine congrArg (λq=>List.find? q bs) (funext λb=>?_);show decide (((a ((b:Nat):Int).toNat:Nat):Int)=0)=decide (a b=0);rw[decide_eq_decide];simp
def ZM4{bs:jp}{n:Nat}{a:Nat->Nat}(h:n∉bs):XW n (Yi bs a)=Yi bs (XW n a):=by
 funext i
 by_cases z:i=n
 ·subst z;show (if i=i then 1 else Yi bs a i)=(if i∈bs then (if i=i then 1 else a i)-1 else (if i=i then 1 else a i))
  rw[aO rfl,aM h];simp
 ·show (if i=n then 1 else (if i∈bs then a i-1 else a i))=(if i∈bs then (if i=n then 1 else a i)-1 else (if i=n then 1 else a i))
  rw[aM z,aM z]
def WY.av{gt:jq}{b c:aj}{H:Hp}{a:Pl}{m:Md}{p:aj}{q:je}(o:WY a m p)(h:LS gt b c H a m)(e:H p=some (.lst q)):Zm a m p:=by
 let⟨n,u,R⟩:=h.shp;let⟨Yo,L⟩:=h.lw;let⟨k,g,_⟩:=h.hd;let⟨⟨r,f⟩,j,t⟩:=R.sh;exists ZD e f,ZD e j,o.lk.symm,ZD e L.dict,ZD e g,o.tl.symm;intro i d;let⟨s,l⟩:=(R.tw i d).tw.self;exact⟨ZD e l,(o.tw i d).1.symm⟩
inductive XA(gt:jq)(jg jh T:aj)(h:je)(H:Hp)(Q:VK)(_:XK):Prop
 |mk(p g:aj)(a:Pl)(m:Md)(_:h=[.ref p,.ref g])(_:ZJ H p)(_:H g=some (.tup (X8 a)))(_:LS gt jg jh H a m)(_:WY a m p)(_:0<m.lv.length)(_:m.lv.length<=60)(_:m.ts.length<=600)(_:ZT H T qS)(_:∀(d:Hp)(e:Pl)(b:Md),(∀ c o,H c=some o->Zm a m c->Zm e b c/\(c≠p->c≠T->d c=some o))->LS gt jg jh d e b->ZJ d p->WY e b p->X8 e=X8 a->m.ts.length<=b.ts.length->b.ts.length<=m.ts.length+1->m.lv.length<=b.lv.length->b.lv.length<=m.lv.length+1->ZT d T qS->Q (.bl true) d)
abbrev FM:js:=["_law_well_here","_law_state","_law_shelf","_law_twigs","_law_holds","_law_grid_here","_law_told","_law_numbers","_law_some","_law_due","_law_handed","_law_found","_law_number"]
def XB:ZA FM zEf (Ze Vs):=Z4
def ZIg{A:aw}{outer:jB}{s:ak}{Hs:Hp}{E:XK}{gt:jq}{CB:aj}{C:Nat->aj}{c T f3 f4:aj}(CC:xY kf c T)(t4:kf.BuiltinsAt mg T)(X:YZ mg)(L:Yj K mg jg jh)(X2:XC K CB C 2)(X3:XC K CB C 3)(X4:XC K CB C 4)(F3:YC K (C 3) f3 "number")(F4:YC K (C 4) f4 "number")(DM:ZI P w K mg kf (YL P w) 10 jg "put_stem" zEj (YM gt jg jh (C 2) (C 3) (C 4)))(DQ:ZC P w K mg kf 71 "_law_asked" zE2 (YU P w K mg kf CB C))(DR:ZC P w K mg kf 4 "_law_run" zEi (UM gt))(DP:ZC P w K mg kf 1 "_law_pull" zEe YQ)(DK:ZC P w K mg kf 2 "_law_picked" zEk Yc)(DW:ZC P w K mg kf 8 "_law_wrong" zEh (XL gt))(DU:ZC P w K mg kf 1 "_law_unheld" zEp Yy)(r8:ZC P w K mg kf 7 "_law_alike" zEc (YN 6))(hr:ZZ 71 (A.deeper (envOfC "_law_put_stem" (Ze Vs) s.heap.objs.size f (.ref c)))):
  ∃ t,WC (VI Zc P w K mg kf FM "_law_put_stem" (Ze Vs) f (.ref c) A outer s Hs E) ((Xk Vs).drop 3) t /\
   ∀(H H3:Hp)(Q:VK)(p st LN:aj)(a:Pl)(m:Md)(x8:jf)(ns:jw),ZJ H p->LS gt jg jh H a m->WY a m p->0<m.lv.length->m.lv.length<=60->m.ts.length<=600->ZT H T qS->ZH p H H3->ZJ H3 p->H LN=none->H3 LN=some (.lst (ns.map V.int))->ns.length<=6 ->
    (∀(H':Hp)(a':Pl)(m':Md),(∀ c o,H c=some o->Zm a m c->Zm a' m' c/\(c≠p->c≠T->H' c=some o))->LS gt jg jh H' a' m'->ZJ H' p->WY a' m' p->X8 a'=X8 a->m.ts.length<=m'.ts.length->m'.ts.length<=m.ts.length+1->m.lv.length<=m'.lv.length->m'.lv.length<=m.lv.length+1->ZT H' T qS->Q (.bl true) H') ->
    t { nx:=λ_ H'=>Q .non H',rt:=Q } [some (.ref p),some (.ref st),some (.ref a.S),some (.ref a.dT),some (.ref a.dH),some (.ref a.gl),some (.ref a.tl),some (.ref LN),x8,none,none,none,none] H3:=by
 let nd:=XB.nd;let hu:=WV hr;let t9:=hr.mono (show 1<=71 by lia)
 let hr2:=hr.mono (show 2<=71 by lia)
 let hr4:=hr.mono (show 4<=71 by lia)
 let hr7:=hr.mono (show 7<=71 by lia)
 let hr8:=hr.mono (show 8<=71 by lia)
 let⟨fA,fdA,FA,bA,kA,mA⟩:=DQ.ex;refine⟨_,ZN (Zo 9 nd (Zk DW hr8 (UG (pv 3) (Zd (pv 7) Od))))
  (ZN (Zy (Ur (O3 (pv 9))) (ZV (Zo 9 nd (Zk DU t9 (Zd (pv 4) (pv 7))))) Z0)
  (ZN (Q9 (i:=10) nd rfl (Or.inr rfl) (Wt PU rfl X.list Up (ZX (pv 7))))
  (ZN (Zo 11 nd (F0 (cl:=cl2 s.heap.objs.size) (N:=zE8) FA hr rfl mA kA bA (ZX (FY (P:=T) (cl:=cl2 s.heap.objs.size) rfl CC t4 rfl rfl)) (λy c h=>ZOc h) ZQp D0 λ_=>rfl))
  (ZN (Zy (YJ (FV hr.units0) (pv 10) (pv 7) (Z3 _)) WW Z0)
  (ZN (Zy (Ur (N0 (pv 9))) (ZV (Zq (Zk r8 hr7 (Zd (pv 11) (pv 9))))) Z0)
  (ZN (Xu (N4 yJ tZ tY LC (pv 10)))
  (ZN (Zy (PW.pt (VO (YJ Qs (Zi K (pv 11) ZM) Yn (Z3 _)) (VO (XT (Yk (Zp Xx rfl X.isi XG (Zd (Zi K (pv 11) ZM) (Xw (v:=.ty "int") rfl X.int U8 rfl)))))
   (VO (Yk (Zp Xx rfl X.isi XG (Zd (Zi K (pv 11) ZM) (Xw (v:=.ty "bool") rfl X.bool NS rfl)))) (Uj (YJ Qu (Zi K (pv 11) ZM) (Zp (IO rfl) rfl X.max NK (ZX (pv 6))) (Z3 _))))))) WW Z0)
  (ZN (Xu (Vn yJ xV xU V1 (pv 6) (ZX (Zi K (pv 11) ZM))))
  (ZN (WU OZ rfl (Xh (pv 7)) (Ye 12 nd) (ZV (Uu hu (pv 4) (pv 12) (Zu QP (Xp hu (pv 4) (pv 12)) ZM) rfl)))
  (ZN (Uu hu (pv 3) (Zi K (pv 11) ZM) (Ym (Zd Yn (pv 7))) rfl)
  (ZN (Uu hu (pv 4) (Zi K (pv 11) ZM) ZM rfl)
  (ZV (Zq Uf))))))))))))),λH H3 Q p st LN a m x8' ns W M O l0 l60 l600 tab x3 W3 o7 I lns k=>?_⟩
 let⟨xsP,l4⟩:=W.some;let⟨kvs,ls,U,l100⟩:=M.sh;let⟨gs,G⟩:=M.gr;let l64:=M.l64;let lt0:0<m.ts.length:=by
  let⟨i,B⟩:=vA l0;have:=M.lt B
  lia
 let eI:((zR m.ts.length).map λi:Nat=>(i:Int)).map V.int=iN (zR m.ts.length):=by rw[zO];rfl
 let S3:=M.sx O l4 x3;let⟨kvs3,ls3,U3,l3⟩:=S3.sh;let⟨r6,o0⟩:=S3.lw;let⟨n6,t5,s8⟩:=S3.hd;let i2:ZT H3 T qS:=ZT.ext tab ⟨λb φ e=>x3 _ _ e (ZD e l4),λb φ e=>x3 _ _ e (ZD e l4)⟩;let OL:=M.off o7;let i1:∀ b,b∈m.lv->(m.av b).length<=800:=λb hb=>by
  rw[(U.av b hb).length_eq];have:=F9 m.ts m.lv b
  lia
 let⟨xs3,m1⟩:=W3.some;let c6:∀(H4 H6:Hp),ZB H3 H4->(∀ b o,b≠T->H4 b=some o->H6 b=some o)->ZT H4 T qS->ZT H6 T qS->∀ H7,ZB H6 H7->Q (.bl true) H7:=λH4 H6 s4 q r5 a1 H7 s7=>by
  let⟨ps4,p8,_⟩:=id r5;refine k H7 a m (λc o e v=>⟨v,λn1 n2=>s7 _ _ (q _ _ n2 (s4 _ _ (x3 _ _ e n1)))⟩) (GH (S3.same s4) λc o z e=>s7 _ _ (q _ _ (ZD e p8 (z _)) e)) (ME W3 λo e=>s7 _ _ (q _ _ (ZD (s4 _ _ m1) p8) (s4 _ _ e))) O Z (zY _) ∅ (zY _) ∅ (ZT.ext a1 (Yf.same s7))
 let o4:∀ bs c3:jp,ns=bs.map (λb:Nat=>(b:Int))->ns=c3.map (λb:Nat=>(b:Int))->bs=c3:=λbs c3 e1 e2=>by
  let e3:=e1.symm.trans e2;have:=congrArg (List.map wY) e3;simpa [zO,Function.comp_def] using this
 let i6:∀(bs:jp)(x:Int),ns=bs.map (λb:Nat=>(b:Int))->(∀ b∈bs,b∈m.lv)->ns.find? (λx=>!YX m.lv x)=some x->False:=λbs x e1 hb hx=>by
  let h1:=sE hx;let h2:=tP hx;rw[e1] at h1;let⟨b,c9,rfl⟩:=zJ.mp h1;have:=hb b c9;unfold YX at h2;simp at h2;exact h2 this
 refine⟨_,Z,_,Z,a.dT,LN,ns,m.ts,m.lv,m.lv,r6,Z,(o0.lawT M.wf G.len G.up).g,o0.keys,(λi B=>by let⟨tp,us,e,_⟩:=o0.tw i B;exact⟨_,e⟩),λi B _=>B,I,∅,λx hx t H4 s4 ht=>?_,λbs eb hb i4 t H4 s4 ht=>?_,λbs eb hb i4 H4 s4=>?_⟩
 ·refine⟨_,Z,_,Z,Zj ?_⟩;exists _,Z,LN,_,Z,.inl (ZF.of (s4 _ _ I));intro hd J;let⟨H5,eU,g5,R⟩:=VN J (.lst (ns.map V.int));rw[eU];let j:=s4.trans g5;let r:=ZT.ext i2 (Yf.same j);refine Lf (CB:=CB) (C:=C) (f3:=f3) (f4:=f4) (j0:=10) (j1:=2) (hd:=hd) (ns:=ns) L X2 X3 X4 F3 F4 DM r Z Z Z Z R (U3.sh.same j) M.wf ∅ i1 ∅ (λx' i0 H6 tf q a1 e4=>?_) λbs eb hb=>⟨λa0=>(i6 bs x eb hb hx).elim,λa0=>(i6 bs x eb hb hx).elim,λa0=>(i6 bs x eb hb hx).elim⟩
  cases hx.symm.trans i0;let⟨o8,Y,_⟩:=id r;let l:=q _ _ (ZD R Y) R;let a4:=j _ _ I;let c5:=q _ _ (ZD a4 Y) a4;let e0:=g5 _ _ ht;let l5:=q _ _ (ZD e0 Y) e0;refine⟨_,Z,_,Z,hd,LN,ns,Z,Z,ZF.of l,ZF.of c5,_,Z,Zj ?_⟩;refine⟨_,Z,_,Z,Z6 ?_⟩;exact⟨_,Z,_,Z,.ref tf,.ref t,.tup [.str "twig",.int x],5,Z,.tup e4 (.cons (.str _) (.cons (.int _) .nil)),.tup l5 (.cons (.str _) (.cons (.int _) .nil)),Z,by decide,λH7 s7=>c6 H5 H6 j q r a1 H7 s7⟩
 ·refine⟨_,Z,_,Z,Zj ?_⟩;exists _,Z,LN,_,Z,.inl (ZF.of (s4 _ _ I));intro hd J;let⟨H5,eU,g5,R⟩:=VN J (.lst (ns.map V.int));rw[eU];let j:=s4.trans g5;let r:=ZT.ext i2 (Yf.same j);refine Lf (CB:=CB) (C:=C) (f3:=f3) (f4:=f4) (j0:=10) (j1:=2) (hd:=hd) (ns:=ns) L X2 X3 X4 F3 F4 DM r Z Z Z Z R (U3.sh.same j) M.wf ∅ i1 ∅ (λx' i0=>(i6 bs x' eb hb i0).elim) λc3 i9 c9=>?_
  cases o4 bs c3 eb i9;refine⟨λa0 H6 tf q a1 e4=>?_,λa0=>absurd i4 a0,λa0=>absurd i4 a0⟩;let⟨o8,Y,_⟩:=id r;let l:=q _ _ (ZD R Y) R;let a4:=j _ _ I;let c5:=q _ _ (ZD a4 Y) a4;let e0:=g5 _ _ ht;let l5:=q _ _ (ZD e0 Y) e0;refine⟨_,Z,_,Z,hd,LN,ns,Z,Z,ZF.of l,ZF.of c5,_,Z,Zj ?_⟩;refine⟨_,Z,_,Z,Z6 ?_⟩;exact⟨_,Z,_,Z,.ref tf,.ref t,.tup [.str "stem"],5,Z,.tup e4 (.cons (.str _) .nil),.tup l5 (.cons (.str _) .nil),Z,by decide,λH7 s7=>c6 H5 H6 j q r a1 H7 s7⟩
 ·refine⟨_,Z,_,Z,Z6 ?_⟩;let hv:∀ n∈ns,YI n6 (.inl n)=some (.int ((m.ho n.toNat:Nat):Int)):=λn hn=>by
   rw[eb] at hn;let⟨b,c9,rfl⟩:=zJ.mp hn;simpa using s8.2 b (hb b c9)
  refine⟨_,Z,_,Z,a.dH,LN,n6,ns,(λn=>((m.ho n.toNat:Nat):Int)),Z,s4 _ _ t5,s4 _ _ I,hv,λn hn t s0 o9 ht=>?_,λhn s0 o9=>?_⟩
  ·let c7:=s4.trans o9;exists _,Z,LN,_,Z,.inl (ZF.of (c7 _ _ I));intro hd J;let⟨H5,eU,g5,R⟩:=VN J (.lst (ns.map V.int));rw[eU];let j:=c7.trans g5;let r:=ZT.ext i2 (Yf.same j);let l2:=hn;rw[eb,Lg] at l2;let⟨b0,p9,rfl⟩:=yK.mp l2;refine Lf (CB:=CB) (C:=C) (f3:=f3) (f4:=f4) (j0:=10) (j1:=2) (hd:=hd) (ns:=ns) L X2 X3 X4 F3 F4 DM r Z Z Z Z R (U3.sh.same j) M.wf ∅ i1 ∅ (λx' i0=>(i6 bs x' eb hb i0).elim) λc3 i9 c9=>?_
   cases o4 bs c3 eb i9;refine⟨λa0=>absurd a0 i4,λa0 b m0 H6 tf q a1 e4=>?_,λa0 hf=>by rw[p9] at hf;cases hf⟩
   cases p9.symm.trans m0;let⟨o8,Y,_⟩:=id r;let l:=q _ _ (ZD R Y) R;let a4:=j _ _ I;let c5:=q _ _ (ZD a4 Y) a4;let e0:=g5 _ _ ht;let l5:=q _ _ (ZD e0 Y) e0;refine⟨_,Z,_,Z,hd,LN,ns,Z,Z,ZF.of l,ZF.of c5,_,Z,Zj ?_⟩;refine⟨_,Z,_,Z,Z6 ?_⟩;exact⟨_,Z,_,Z,.ref tf,.ref t,.tup [.str "held",.int (b0:Nat)],5,Z,.tup e4 (.cons (.str _) (.cons (.int _) .nil)),.tup l5 (.cons (.str _) (.cons (.int _) .nil)),Z,by decide,λH7 s7=>c6 H5 H6 j q r a1 H7 s7⟩
  ·let c7:=s4.trans o9;exists _,Z,LN,_,Z,.inl (ZF.of (c7 _ _ I));intro hd J;let⟨H5,eU,g5,R⟩:=VN J (.lst (ns.map V.int));rw[eU];let j:=c7.trans g5;let r:=ZT.ext i2 (Yf.same j);let l2:=hn;rw[eb,Lg] at l2;let r0:bs.find? (λb=>decide (m.ho b=0))=none:=rJ.mp l2;refine Lf (CB:=CB) (C:=C) (f3:=f3) (f4:=f4) (j0:=10) (j1:=2) (hd:=hd) (ns:=ns) L X2 X3 X4 F3 F4 DM r Z Z Z Z R (U3.sh.same j) M.wf ∅ i1 ∅ (λx' i0=>(i6 bs x' eb hb i0).elim) λc3 i9 c9=>?_
   cases o4 bs c3 eb i9;exists λa0=>absurd a0 i4,λa0 b m0=>by(rw[r0] at m0;cases m0)
   intro a0 hf' H6 tf e6 nx m3 i5 q a1 R6 e4;let⟨o8,Y,_⟩:=id r;let⟨Lb,p7⟩:=qO.mp i4;let⟨_,t8,_,_,_,_,_⟩:=N6 M.wf (λb h=>M.lt (hb b h)) p7;let h1:∀ b∈bs,1<=m.ho b:=λb c9=>by
    have:=vT.mp r0 b c9;simp at this
    lia
   let S5:=S3.same j;let S4:=S3.same c7;let c2:=CJ S5 (H':=H6) λc o z n1 n2 n3 n4 e=>q c o n1 n2 (ZD e Y (z _)) n4 e;let⟨kv4,ls4,R4⟩:=S4.shp;let⟨kv5,ls5,R5⟩:=S5.shp;let⟨⟨dS5,t0⟩,t6,hl5⟩:=id R5.sh;let n8:∀(c:aj)(xs:je),H5 c=some (.lst xs)->(∀ i:Nat,i∈m.lv->c≠a.ab i)->H6 c=some (.lst xs):=λc xs e n4=>q _ _ (ZD e t0) (ZD e t6) (ZD e Y) (λi B=>by
    let⟨dx,hx⟩:=(R5.tw i B).tw.self;exact⟨ZD e hx,n4 i B⟩) e
   let m9:∀ i:Nat,i∈m.lv->a.ab i≠hd/\a.th i≠hd:=λi B=>by
    let⟨us,e,_⟩:=(R4.tw i B).things;exact⟨ZW (R4.tw i B).tw.above J,ZW e J⟩
   let l:=n8 _ _ R λi B=>(m9 i B).1.symm;let a4:=j _ _ I;let c5:=n8 _ _ a4 λi B=>(OL.tw i B).1.symm;let m4:LN≠hd:=ZW (c7 _ _ I) J;let r7:a.tl≠hd:=ZW S4.told J;refine⟨_,Z,_,Z,hd,LN,ns,Z,Z,ZF.of l,ZF.of c5,_,Z,Zj ?_⟩;refine⟨_,Z,_,Z,Zj ?_⟩;exists _,Z,.inl ⟨Z,_,ZF.of l⟩,hd,_,Z,Z,l;let en:(m.ts++[YT m.ts bs]).length=m.ts.length+1:=by simp
   let r4:∀ c,a.lk≠c->(∀ i:Nat,i∈m.lv->a.ab i≠c/\a.th i≠c)->e6.ab≠c->e6.th≠c->∀ i:Nat,i∈m.lv++[m.ts.length]->((a.as++[e6]).getD i .d).ab≠c/\((a.as++[e6]).getD i .d).th≠c:=λc _ n2 n3 n4 i B=>by
    by_cases z:i=m.ts.length
    ·subst z;let⟨e1,e2,_,_⟩:=Oa (new:=e6) (D:=LN) M;exact⟨λy=>n3 (by rw[<-e1];exact y),λy=>n4 (by rw[<-e2];exact y)⟩
    ·let⟨e1,e2,_,_⟩:=OA (new:=e6) (D:=LN) M (i:=i) (V6 B z);have:=n2 i (V6 B z);exact⟨λy=>this.1 (by rw[<-e1];exact y),λy=>this.2 (by rw[<-e2];exact y)⟩
   let R7:=KN (o':=.lst []) R6 l (ZW R4.sh.looks J) (r4 hd (ZW R4.sh.looks J) m9 (ZW R i5).symm (ZW R m3).symm);let m2:∀ c o,c≠hd->H6 c=some o->upd H6 hd (.lst []) c=some o:=λc o n e=>by rw[ZO n];exact e
   generalize upd H6 hd (.lst [])=H7 at R7 m2⊢;let a5:=m2 _ _ (ZD e4 l) e4;let a6:=m2 _ _ r7 c2.told;refine⟨_,Z,.inr (.inl ⟨tf,_,0,.str "told",rfl,rfl,Za.of a5,rfl,rfl,_,rfl,NI rfl ?_⟩)⟩;refine⟨_,Z,.inr (.inl ⟨tf,_,1,.int (m.ts.length:Nat),rfl,rfl,Za.of a5,rfl,_,_,_,_,rfl,.int _,OC,_,rfl,Zj ?_⟩)⟩;refine⟨_,Z,.inr (.inl ⟨tf,_,1,.int (m.ts.length:Nat),rfl,rfl,Za.of a5,rfl,_,_,_,_,rfl,.int _,MW,_,rfl,Zj ?_⟩)⟩;refine⟨_,Z,.inr (.inl ⟨tf,_,1,.int (m.ts.length:Nat),rfl,rfl,Za.of a5,rfl,_,rfl,a.tl,(zR m.ts.length).map (λi:Nat=>(i:Int)),rfl,ZF.of (by rw[eI];exact a6),sC (by rw[zX,uK];exact lt0),λmx t7 hmax=>⟨_,_,rfl,rfl,_,rfl,?_⟩⟩)⟩
   let mxn:¬ ((m.ts.length:Int)<=mx):=by
    let⟨i,B,rfl⟩:=zJ.mp t7;have:=xL.mp B;show ¬ ((m.ts.length:Int)<=((i:Nat):Int))
    lia
   rw[aJ mxn];refine Zj ?_;refine⟨_,Z,.inl ⟨Z,_,ZF.of a6⟩,_,Z,.inr (.inl ⟨tf,_,1,.int (m.ts.length:Nat),rfl,rfl,Za.of a5,rfl,a.tl,_,.int (m.ts.length:Nat),rfl,rfl,a6,YO (by simp[iN];lia),?_⟩)⟩
   let R8:=KN (o':=.lst (iN (zR m.ts.length)++[.int (m.ts.length:Nat)])) R7 a6 M.tt.1.symm (r4 a.tl M.tt.1.symm (λi B=>⟨(M.t2 i B).1.symm,(M.t2 i B).2.1.symm⟩) (ZW S5.told i5).symm (ZW S5.told m3).symm);let o6:∀ c o,c≠a.tl->H7 c=some o->upd H7 a.tl (.lst (iN (zR m.ts.length)++[.int (m.ts.length:Nat)])) c=some o:=λc o n e=>by rw[ZO n];exact e
   let p1:upd H7 a.tl (.lst (iN (zR m.ts.length)++[.int (m.ts.length:Nat)])) a.tl=some (.lst (iN (zR (m.ts.length+1)))):=by rw[ZP,Hd]
   generalize upd H7 a.tl (.lst (iN (zR m.ts.length)++[.int (m.ts.length:Nat)]))=H8 at R8 o6 p1⊢;let o5:∀ c o,c≠hd->c≠a.tl->H6 c=some o->H8 c=some o:=λc o n1 n2 e=>o6 _ _ n2 (m2 _ _ n1 e);let⟨r3,e8,s9⟩:=c2.hd;let⟨c1,a7⟩:=c2.lw;let⟨s6,G6⟩:=c2.gr;let a8:=o5 _ _ (ZD e8 l) (ZD e8 c2.told) e8;let m5:LN≠a.tl:=OL.tl.symm;let o1:=o5 _ _ m4 m5 c5;let n5:=o6 _ _ (ZD a5 a6) a5;refine⟨_,Z,LN,Z,⟨_,ZF.of o1⟩,Ui (K:=K) (a:=LN) (xs:=ns.map V.int) (λi σ H'=>∃(x8 p2:jf)(a3:List (ZR×V)),σ=[some (.ref p),some (.ref st),some (.ref a.S),some (.ref a.dT),some (.ref a.dH),some (.ref a.gl),some (.ref a.tl),some (.ref LN),x8,some .non,some (.ref hd),some (.ref tf),p2]/\(∀ c o,c≠a.dH->H8 c=some o->H' c=some o)/\H' a.dH=some (.dK a3)/\Wg a3 m.lv (Yi (bs.take i) m.ho))
    ⟨_,_,r3,Z,λc o _ e=>e,a8,(by
     let e2:Yi [] m.ho=m.ho:=funext λi=>aM (by simp)
     rw[show bs.take 0=[] from rfl,e2];exact s9)⟩ (λi σ H' _ hP=>?_) ?_ ?_⟩
   ·let⟨_,_,_,_,k',_⟩:=hP;exact ZF.of (k' _ _ (ZD o1 a8) o1)
   ·rintro i u σ H9 r2 ⟨x8,p2,a3,rfl,a2,l9,e7⟩;rw[eb,zO,zM] at r2;let⟨b,o2,rfl⟩:=yK.mp r2;let mb:=zC o2;let bl:=hb b mb;let r1:b∉bs.take i:=λz=>by
     let hs:bs=bs.take i++b::bs.drop (i+1):=by
      let⟨B,e⟩:=yS.mp o2;rw[<-e,<-wQ B,vP]
     let n0:=t8;rw[hs,vV] at n0;exact n0.2.2 b z b (by simp) Z
    let p6:Yi (bs.take i) m.ho b=m.ho b:=aM r1;let hg:Zg H9 a.dH (.int (b:Nat)) (some (.int (m.ho b:Nat))):=by
     have:=e7.2 b bl;rw[p6] at this;exact this ▸ Zg.k (k:=Sum.inl (b:Int)) l9
    let lhv:a3.length=m.lv.length:=by have:=congrArg yD e7.1;simpa using this
    exists _,Z,_,Z,a.dH,.int (m.ho b:Nat),Z,hg,_,_,Z,Z,_,Z,_,Z,a.dH,_,Z,Y3.k (k:=Sum.inl (b:Int)) l9 (YO ∅)
    let e1:((m.ho b:Nat):Int)-1=((Yi (bs.take i) m.ho b-1:Nat):Int):=by
     rw[p6];have:=h1 b mb
     lia
    exists _,_,_,Z,λc o n e=>by rw[ZO n];exact a2 _ _ n e,ZP
    let et:bs.take (i+1)=bs.take i++[b]:=by rw[yM,o2];rfl
    rw[et,<-GV r1];show Wg (Zs a3 (.inl (b:Int)) (.int (((m.ho b:Nat):Int)-1))) _ _;rw[e1];exact ZO9 e7 bl
   ·rintro σ H9 ⟨x8,p2,a3,rfl,a2,l9,e7⟩;rw[show (ns.map V.int).length=bs.length by rw[eb];simp,yQ (zY _)] at e7
    let R9:=R8.frame (H':=H9) (λc ys e=>a2 _ _ (ZD e a8) e) (λo e=>a2 _ _ (by let⟨⟨dS8,t1⟩,_,_⟩:=R8.sh;exact ZD t1 a8) e) (λo e=>a2 _ _ M.dd.2.1.symm e) (λo e=>a2 _ _ (ZD R8.sh.looks a8) e) λi B=>by
     let⟨dx,hx⟩:=(R8.tw i B).tw.self;let⟨us,ht,_⟩:=(R8.tw i B).things;exact⟨λo e=>a2 _ _ (ZD hx a8) e,λo e=>a2 _ _ (ZD ht a8) e,λo e=>a2 _ _ (ZD (R8.tw i B).tw.above a8) e⟩
    exists _,Z,YA;intro t nt;let⟨i7,eU,l1,p0⟩:=VN nt (.tup [.str "stem",.ref LN]);rw[eU];let s1:=R9.same l1;let n7:∀ c o,c≠hd->c≠a.tl->c≠a.dH->H6 c=some o->i7 c=some o:=λc o n1 n2 n3 e=>l1 _ _ (a2 _ _ n3 (o5 _ _ n1 n2 e));let c8:=n7 _ _ (ZD a7.dict l) (ZD a7.dict c2.told) M.dd.2.2 a7.dict;let e9:=l1 _ _ (a2 _ _ (ZD n5 a8) n5);let i8:=l1 _ _ l9;let l7:=l1 _ _ (a2 _ _ (ZD p1 a8) p1);let ltk:c1.length=m.lv.length:=by have:=congrArg yD a7.keys;simpa using this
    let lhv:a3.length=m.lv.length:=by have:=congrArg yD e7.1;simpa using this
    refine⟨_,Z,_,Z,.inr (.inl ⟨tf,_,1,.int (m.ts.length:Nat),rfl,rfl,Za.of e9,rfl,a.dT,_,rfl,Y3.k (k:=Sum.inl (m.ts.length:Int)) c8 (YO ∅),?_⟩)⟩
    let p4:=Nt (o':=.dK (Zs c1 (.inl (m.ts.length:Int)) (.ref t))) s1 c8 M.dd.1.symm;let c0:∀ c o,c≠a.dT->i7 c=some o->upd i7 a.dT (.dK (Zs c1 (.inl (m.ts.length:Int)) (.ref t))) c=some o:=λc o n e=>by rw[ZO n];exact e
    let m8:upd i7 a.dT (.dK (Zs c1 (.inl (m.ts.length:Int)) (.ref t))) a.dT=some (.dK (Zs c1 (.inl (m.ts.length:Int)) (.ref t))):=ZP;generalize upd i7 a.dT (.dK (Zs c1 (.inl (m.ts.length:Int)) (.ref t)))=l8 at p4 c0 m8⊢;let m6:=c0 _ _ M.dd.2.2.symm i8;let o3:=c0 _ _ (ZD e9 c8) e9;refine⟨_,Z,_,Z,.inr (.inl ⟨tf,_,1,.int (m.ts.length:Nat),rfl,rfl,Za.of o3,rfl,a.dH,_,rfl,Y3.k (k:=Sum.inl (m.ts.length:Int)) m6 (YO ∅),?_⟩)⟩
    let p5:=Nt (o':=.dK (Zs a3 (.inl (m.ts.length:Int)) (.int 1))) p4 m6 M.dd.2.1.symm;let e5:∀ c o,c≠a.dH->l8 c=some o->upd l8 a.dH (.dK (Zs a3 (.inl (m.ts.length:Int)) (.int 1))) c=some o:=λc o n e=>by rw[ZO n];exact e
    let m7:upd l8 a.dH (.dK (Zs a3 (.inl (m.ts.length:Int)) (.int 1))) a.dH=some (.dK (Zs a3 (.inl (m.ts.length:Int)) (.int 1))):=ZP;generalize upd l8 a.dH (.dK (Zs a3 (.inl (m.ts.length:Int)) (.int 1)))=i3 at p5 e5 m7⊢;let a9:∀ c o,c≠hd->c≠a.tl->c≠a.dH->c≠a.dT->H6 c=some o->i3 c=some o:=λc o n1 n2 n3 n4 e=>e5 _ _ n3 (c0 _ _ n4 (n7 _ _ n1 n2 n3 e));let n9:YR H6 i3:=λc ys e=>a9 _ _ (ZD e l) (ZD e c2.told) (ZD e e8) (ZD e a7.dict) e;let l6:∀ c xs,c≠hd->c≠a.tl->H6 c=some (.lst xs)->i3 c=some (.lst xs):=λc xs n1 n2 e=>a9 _ _ n1 n2 (ZD e e8) (ZD e a7.dict) e;let c4:∀ c,H5 c=none->H c=none:=λc e=>by
     cases z:H c with
     | none=>rfl
     | some o=>
      by_cases y:c=p
      ·subst y;let⟨xs,e'⟩:=W3.some;rw[j _ _ e'] at e;cases e
      ·rw[j _ _ (x3 _ _ z y)] at e;cases e
    let ek:kindOf (YT m.ts bs) = "stem" :=aM (by show (gd m.ts (bs.getD 0 0)).h+1≠0;lia)
    let r9:LN≠e6.ab:=ZW a4 i5;let s5:ns.map V.int=iN bs:=by rw[eb,zO];rfl
    let nn':m.ts.length∉bs:=λz=>by have:=M.lt (hb _ z);lia
    let s3:∀ i:Nat,i∈m.lv->a.b i≠hd:=λi B=>by
     let⟨kvA,LA⟩:=S4.lw;let⟨tp,us,_,_,e,_⟩:=LA.tw i B;exact ZW e J
    let p3:LS gt jg jh i3 (a.push e6 LN) ⟨m.ts++[YT m.ts bs],m.lv++[m.ts.length],Wr bs m.ts.length (WQ m.ts.length m.av),Yi bs (XW m.ts.length m.ho)⟩:=by
     refine EG M (c4 _ m3) (c4 _ i5) o7 r9 ⟨_,ls3,ZK4 U3 ∅ hb p7 h1 p5,l3⟩ ⟨_,Ho (tp:=t) (us:=ns.map V.int) a7 hb n9 (λi B o e=>?_) ?_ ?_ ?_ (λz=>absurd z (by show (gd m.ts (bs.getD 0 0)).h+1≠0;lia)) (λ_=>s5)⟩ ⟨_,m7,by rw[<-ZM4 nn'];exact FT (λi B=>M.lt B) e7⟩ ⟨s6,G6.frame n9 (l6 _ _ ?_ M.tt.2.1.symm G6.at_)⟩ ?_ ∅ ∅
     ·let⟨tp,us',_,_,e',_⟩:=a7.tw i B;have:o=.lst us':=by have:=e.symm.trans e';exact zG.inj this
      subst this;exact l6 _ _ (s3 i B) (M.t3 i B).1 e
     ·exact e5 _ _ M.dd.2.2 m8
     ·rw[ek];exact e5 _ _ (ZD p0 i8) (c0 _ _ (ZD p0 c8) p0)
     ·exact l6 _ _ m4 m5 c5
     ·let⟨gsA,GA⟩:=S4.gr;exact ZW GA.at_ J
     ·exact e5 _ _ (ZD l7 i8) (c0 _ _ (ZD l7 c8) l7)
    let vp:=O.av M l4;let s2:ZJ i3 p:=ME W3 λo e=>a9 _ _ (ZW (c7 _ _ e) J) vp.2.2.2.2.2.1 vp.2.2.2.2.1 vp.2.2.2.1 (q _ _ vp.1 vp.2.1 (ZD (j _ _ m1) Y) vp.2.2.2.2.2.2 (j _ _ e));refine k i3 _ _ (λc o e v=>?_) p3 s2 (O.push M (ZW (j _ _ m1) m3).symm (ZW (j _ _ m1) i5).symm (ZW l4 o7).symm) Z (by simp) (by simp) (by simp) (by simp) (ZT.ext a1 ⟨λb φ e=>?_,λb φ e=>?_⟩)
    ·let⟨v1,v2,v3,v4,v5,v6,v7⟩:=id v;exists v.push M (ZW e (c4 _ nx)) (ZW e (c4 _ i5));intro cp cT;let e3:=x3 _ _ e cp;exact a9 _ _ (ZW (c7 _ _ e3) J) v6 v5 v4 (q _ _ v1 v2 cT v7 (j _ _ e3))
    ·exact a9 _ _ (ZD e l) (ZD e c2.told) (ZD e e8) (ZD e a7.dict) e
    ·exact a9 _ _ (ZD e l) (ZD e c2.told) (ZD e e8) (ZD e a7.dict) e
def Dh{gt:jq}{CB:aj}{C:Nat->aj}{c T f3 f4:aj}(F:Zn K "_law_put_stem" "_law_put_stem" Vs f fd)(hf:zN K ao "_law_put_stem" = some (some (.ref f)))(a8:yF K "_law_put_stem" = some (c,T))(CC:xY kf c T)(c7:kf.BuiltinsAt mg T)(X:YZ mg)(L:Yj K mg jg jh)(X2:XC K CB C 2)(X3:XC K CB C 3)(X4:XC K CB C 4)(F3:YC K (C 3) f3 "number")(F4:YC K (C 4) f4 "number")(DM:ZI P w K mg kf (YL P w) 10 jg "put_stem" zEj (YM gt jg jh (C 2) (C 3) (C 4)))(DQ:ZC P w K mg kf 71 "_law_asked" zE2 (YU P w K mg kf CB C))(DR:ZC P w K mg kf 4 "_law_run" zEi (UM gt))(DP:ZC P w K mg kf 1 "_law_pull" zEe YQ)(DK:ZC P w K mg kf 2 "_law_picked" zEk Yc)(DW:ZC P w K mg kf 8 "_law_wrong" zEh (XL gt))(DU:ZC P w K mg kf 1 "_law_unheld" zEp Yy)(c3:ZC P w K mg kf 7 "_law_alike" zEc (YN 6)):
  ZK P w K mg kf Zc 72 f fd zEf (XA gt jg jh T):=by
 refine F.okC hf a8 XB (λvs H Q E h=>(by let⟨_,_,_,_,rfl,_⟩:=h;rfl)) (λA a1 s H vs Q E J h=>?_)
 let⟨p,st,a,m,rfl,W,e2,t,O,l0,e4,a9,e7,k⟩:=h;let⟨tT,hT,qT⟩:=ZIg (Hs:=H) (outer:=a1) (E:=E) CC c7 X L X2 X3 X4 F3 F4 DM DQ DR DP DK DW DU c3 J;let B:=XB.nd;let hu:=WV J;let M:=J.mono (show 1<=71 by lia)
 let e0:=J.mono (show 2<=71 by lia)
 let e1:=J.mono (show 4<=71 by lia)
 let i6:=J.mono (show 7<=71 by lia)
 let i7:=J.mono (show 8<=71 by lia)
 let⟨fA,i3,FA,bA,kA,mA⟩:=DQ.ex;refine⟨_,ZN (Q5 (pv 1) (PM rfl (Y6 (Qo (i:=2) B rfl (Or.inr rfl)) (Y6 (Ye 3 B) (Y6 (Ye 4 B) (Y6 (Ye 5 B) (Y6 (Ye 6 B) Q2)))))))
  (ZN (Zo 7 B (Zk DR e1 (UG (pv 0) (UG (pv 3) (Zd (pv 4) (pv 5))))))
  (ZN (Zy (YJ WT (Zk DP M (Zd (pv 0) ZM)) ZM (Z3 _))
   (ZN (Q9 (i:=8) B rfl (Or.inr rfl) (Zu NU (Zp (Qa rfl) rfl X.sorted Uk (ZX (pv 3))) (XH (ZX (Zu Xm (Zu Xm (Zp (IO rfl) rfl X.max NK (ZX (pv 6))) ZM) (Zk DP M (Zd (pv 0) ZM)))))))
   (ZV (ON (i:=7) [0,8] zEk B rfl rfl rfl (P3 rfl X.range (ZX (Zk DP M (Zd (pv 0) ZM)))) (λ_ _ _ _ _=>V4) (λ_ _ _ _ _=>Zk DK e0 (Zd (pv 1) (pv 2))) ⟨rfl,.inl rfl,rfl,rfl,.inl rfl,rfl,trivial⟩))) Z0) hT)),?_⟩
 let⟨l4,a5⟩:=W.some;let⟨i8,ls,U,i0⟩:=t.sh;let⟨c2,Lw⟩:=t.lw;let⟨e3,c8,hH⟩:=t.hd;let⟨gs,G⟩:=t.gr;let bp:∀ i:Nat,i∈m.lv->a.bs.getD i 0≠p:=λi I=>(O.tw i I).2.2;let c0:=t.l64;let d:∀ c,H c=none->c≠p:=λc e=>(ZW a5 e).symm;let eI:((zR m.ts.length).map λi:Nat=>(i:Int)).map V.int=iN (zR m.ts.length):=by rw[zO];rfl
 let eL:(m.lv.map λi:Nat=>(i:Int)).map V.int=iN m.lv:=by rw[zO];rfl
 let e5:0<m.ts.length:=by
  let⟨i,I⟩:=vA l0;have:=t.lt I
  lia
 let g:∀(H6:Hp)(q:aj),ZH p H H6->ZJ H6 p->H6 q=none->H q=none:=λH6 q x6 W6 e=>by
  cases z:H q with
  | none=>rfl
  | some o=>
   by_cases y:q=p
   ·subst y;let⟨xs,e'⟩:=W6.some;rw[e'] at e;cases e
   ·rw[x6 _ _ z y] at e;cases e
 exists _,Z,st,_,Z,Za.of e2,Z,_,_,Z,_,_,Z,_,_,Z,_,_,Z,_,_,Z,Z;exists _,Z,_,Z,_,Z,_,Z,p,a.dT,a.dH,a.gl,m.ts,m.lv,a.bs,c2,e3,m.ho,gs,Z,W,Lw,bp,t.wf,c8,hH,G,O.gl,l0,c0;intro H1 LN a3 s1 W1 Y c6 e8 i1;refine⟨_,Z,p,5,Z,W1,Ws (by decide) (by decide),λr v r0 r1 W3 s2=>⟨Z,_,Z,?_⟩⟩
 let x3:ZH p H v:=s1.trans s2;refine Xj (λc=>?gT) (λc=>?gF)
 case' gF=>
  obtain⟨l,a4⟩:∃ l:jw,iN a3=l.map V.int:=⟨a3.map λb:Nat=>(b:Int),by rw[zO];rfl⟩
  let N:l.length<=6:=by
   have:=congrArg yD a4;simp[iN] at this
   lia
  let j:=s2 _ _ c6 (d _ Y);rw[a4] at j
 case' gT=>
  exists _,Z,a.dT,c2,m.lv.map λi:Nat=>(i:Int),Z,(Lw.sx W bp x3).dict,(by rw[Lw.keys,zO];rfl),Ub Lw.vl.up,by simpa using c0
  intro q nq;rw[eL];let g4:=Zb nq (.lst (iN m.lv));let hq:upd v q (.lst (iN m.lv)) q=some (.lst (iN m.lv)):=ZP;let e6:=g _ q x3 W3 nq;generalize upd v q (.lst (iN m.lv))=H4 at g4 hq⊢;let x4:=x3.trans (ZH.of g4);let W4:=W3.same g4;let a2:=(t.sx O a5 x4).told;refine⟨_,Z,a.tl,(zR m.ts.length).map (λi:Nat=>(i:Int)),Z,ZF.of (by rw[eI];exact a2),sC (by rw[zX,uK];exact e5),λS i5 e9=>⟨_,_,Z,Z,?_⟩⟩
  refine⟨_,Z,p,3,Z,W4,Ws (by decide) (by decide),λr3 H5 i9 l1 W5 s5=>⟨_,_,Z,Z,YA,λl9 n9=>?_⟩⟩
  let c9:=s5 _ _ hq (d _ e6);let x5:=x4.trans s5;let g6:=Zb n9 (.lst [.int (S+1+r3)]);exists q,l9,_,_,Z,Z,g6 _ _ c9,ZP,xX (YO (by simp[iN];lia))
  intro q2 n2;let g7:=Zb n2 (.lst (iN m.lv++[.int (S+1+r3)]));let a6:upd (upd H5 l9 (.lst [.int (S+1+r3)])) q2 (.lst (iN m.lv++[.int (S+1+r3)])) q2=some (.lst (iN m.lv++[.int (S+1+r3)])):=ZP;let x7:=x5.trans (ZH.of (g6.trans g7));let W7:=W5.same (g6.trans g7);let a0:=g _ q2 (x5.trans (ZH.of g6)) (W5.same g6) n2;generalize upd (upd H5 l9 (.lst [.int (S+1+r3)])) q2 (.lst (iN m.lv++[.int (S+1+r3)]))=H7 at a6 x7 W7⊢;exists _,Z,p,6,Z,W7,Ws (by decide) (by decide)
  intro r6 H8 l2 l3 W8 s8;let x8:=x7.trans s8;let a7:=s8 _ _ a6 (d _ a0);let u:∀ c,H8 c=none->c≠p:=λc e z=>by
   let⟨xs,e'⟩:=W8.some;rw[z,e'] at e;cases e
  refine⟨r6,Z,∅,∅,Vv (n:=r6.toNat) (λi z=>z=.int (0+(i:Int))) (λD i ys H'=>ZH p H8 H'/\ZJ H' p/\H8 D=none/\∃ l:jw,ys=l.map V.int/\l.length<=i) (YO ∅)
   (λD i ys v I _=>I) (λD i ys v x H4 I _ hy=>hy) (λD ys v _=>zY _) (λD hD=>⟨ZH.of (Zb hD _),W8.same (Zb hD _),hD,[],Z,zY _⟩) (λD i ys H' z eD i4 I hz hP R hR=>?gStep) (λLN ys v eD hP=>?gEnd)⟩
  case' gStep=>
   let⟨s',W',nD,l,rfl,N⟩:=hP;exists _,Z,_,Z,p,q2,_,Z,W',d _ a0,s' _ _ a7 (d _ a0),by simp,by simp[iN];lia
   intro x c4 c1 c5 hx;obtain⟨y,rfl⟩:∃ y:Int,x=.int y:=by
    rcases yX.mp hx with h | h
    ·let⟨b,_,rfl⟩:=zJ.mp h;exact⟨_,Z⟩
    ·exact⟨_,zI.mp h⟩
   let Dp:=u _ nD;refine hR _ c4 (c1 _ _ eD Dp) ⟨λc o e n=>by rw[ZO (ZW e nD)];exact c1 _ _ (s' _ _ e n) n,ME c5 (λo e=>by rw[ZO (Ne.symm Dp)];exact e),nD,l++[y],by simp,by simp;lia⟩
  case' gEnd=>
   let⟨s',W3,nD,l,rfl,i2⟩:=hP;let x3:=x8.trans s';let Y:=g _ LN x8 W8 nD;let j:=eD;let N:l.length<=6:=∅
 all_goals exact qT H v Q p st LN a m _ l W t O l0 e4 a9 e7 x3 W3 Y j N k
def FS{a:jr}{bs:jp}:kindOf (YT a bs) = "stem" :=aM (by show (gd a (bs.getD 0 0)).h+1≠0;lia)
inductive Wm(ts:jr)(lv:jp)(ho:Nat->Nat)(n:Nat)(ns:jw)(H:Hp):V->Prop
 | no {xs:je} {td:aj}:Wo ts lv ho n ns xs->H td=some (.tup xs)->Wm ts lv ho n ns H (.ref td)
 | yes {bs rest:jp} {cur:jr}:NE ts lv ho n ns bs rest cur->Wm ts lv ho n ns H .non
inductive YY(gt:jq):Sp
 |mk{d h l:aj}{j:jr}{b:jp}{e a:List (ZR×V)}{i:Nat->Nat}{n:Nat}{g:jw}{H:Hp}{Q:VK}{E:XK}:
  Y5 gt H d j b e->b.length<64->n∈b->H h=some (.dK a)->Wg a b i->H l=some (.lst (g.map V.int))->g.length<=100 ->
  (∀ v c,ZB H c->Wm j b i n g c v->Q v c) ->
  YY gt [.ref d,.ref h,.int (n:Nat),.ref l] H Q E
abbrev ZLL:js:=["_law_twigs","_law_holds","_law_number","_law_numbers","_law_first","_law_due"]
def Wn:ZA ZLL zEg (Ze Ja):=Z4
def CW{gt:jq}(F:Zn K "_law_stem_due" "_law_stem_due" Ja f fd)(DS:ZC P w K mg kf 2 "_law_shared" zEl (XR gt))(DL:ZC P w K mg kf 2 "_law_label" zEb (Ya gt))(DW:ZC P w K mg kf 8 "_law_wrong" zEh (XM gt))(DI:ZC P w K mg kf 9 "_law_rises" zEr (Xz gt))(DU:ZC P w K mg kf 1 "_law_unheld" zEp Yy):
  ZK P w K mg kf Zc 10 f fd zEg (YY gt):=by
 refine F.ko Wn λc9 A c3 s H vs Q E N h=>?_;let⟨L,U,M,J,hH,hl,T,k⟩:=h;rename_i d dh l a W C y ho n ns
 let nd:=Wn.nd;let hu:=WV N;let a9:=N.mono (show 1<=9 by lia)
 let O:=N.mono (show 2<=9 by lia)
 let c0:=N.mono (show 8<=9 by lia)
 intro Xc;refine⟨_,ZN (Zy (YJ WT (Zi K (Xp hu (pv 0) (pv 2)) ZM) Yn (Z3 _)) (ZV (Zq (Ym (ZX Yn)))) Z0)
  (ZN (Zo 4 nd (Zk DS O (UG (pv 0) (Zd (pv 1) (pv 2)))))
  (ZN (Zy (Ur (N0 (pv 4))) (ZV (Zq (Ym (Zd Yn (pv 4))))) Z0)
  (ZN (Zo 5 nd (Zk DW c0 (UG (pv 0) (Zd (pv 3) (Zi K (Zk DL O (Zd (pv 0) (pv 2))) ZM)))))
  (ZN (Zy (PW.pt (OM (Ur (O3 (pv 5))) (Ou (XT (Yk (Zk DI N (UG (pv 0) (Zd (pv 2) (Ym (Zd Yn (pv 3))))))))))) (ZV (Zo 5 nd (Ym (ZX Yn)))) Z0)
  (ZN (Zy (Ur (O3 (pv 5))) (ZV (Zo 5 nd (Zk DU a9 (Zd (pv 1) (Um [0,2] zEb rfl (Xh (pv 3)) (λ_ _ _ _ _=>OB (YJ (r:=PY K true) Np (pv 0) (Zi K (Xp hu (pv 1) (pv 2)) ZM) Z)) (λ_ _ _ _ _=>pv 0) ⟨rfl,.inl rfl,rfl,rfl,.inl rfl,rfl,trivial⟩))))) Z0)
  (ZV (Zq (pv 5)))))))),?_⟩
 let⟨tp,tl,ws,q1,e2,e3,e4,e5⟩:=L.get M;refine⟨_,Z,_,Z,d,.ref tp,Z,q1,.inr (.inl ⟨tp,_,0,_,rfl,rfl,Za.of e2,rfl,?_⟩)⟩;exists Z,_,Z;by_cases q:(gd a n).h=0
 case pos=>
  let ek:decide (V.str (kindOf (gd a n))=V.str "leaf")=true:=aK (by unfold kindOf;rw[aO q])
  rw[ek];exact Z6 ⟨YA,λt X=>k _ _ (Zb X _) (.no (.leaf q) ZP)⟩
 let ek:decide (V.str (kindOf (gd a n))=V.str "leaf")=false:=aJ (by unfold kindOf;rw[aM q];decide)
 rw[ek];let ew:=e5 q;subst ew;refine Zj ⟨_,Z,_,Z,_,Z,d,dh,n,a,W,C,y,ho,Z,L,U,M,J,hH,λH1 o s1 R=>?_⟩
 cases o with
 | some j=>exact⟨_,Z,_,Z,Z6 ⟨_,Z,YA,λt X=>k _ _ (s1.trans (Zb X _)) (.no (.shared q R) ZP)⟩⟩
 | none=>
  let⟨l',rd⟩:=R.road Z;let⟨rest,el⟩:=rd.ne;subst el;refine⟨_,Z,_,Z,Zj ⟨_,Z,_,Z,_,Z,_,Z,d,n,a,W,C,Z,(L.same s1).g,M,λH2 v s2 hv=>?_⟩⟩;let⟨ta,i2,i1,rfl,c1,e9,e8⟩:=hv;let m:=s1.trans s2;let L2:=L.same m;refine .inr (.inl ⟨ta,_,0,.int (YK (gd a n)).h,rfl,rfl,Za.of c1,rfl,d,l,ns,a,W,W,C,some ((gd a n).h:Nat),rfl,L2.g,L.tws.1,(λi hi=>by let⟨v,e,_⟩:=L.tws.2 i hi;exact⟨v,e⟩),λi hi _=>hi,m _ _ hl,T,λx u t H3 Y S=>?_,λbs eb I c t H3 Y S=>?_,λbs eb I c H3 Y=>?_⟩)
  ·exact⟨_,Z,_,Z,Zj (Zj ⟨_,rfl,_,rfl,Zj ⟨_,rfl,k _ H3 (m.trans Y) (.no (.twig q rd u) S)⟩⟩)⟩
  ·exact⟨_,Z,_,Z,Zj (Zj ⟨_,rfl,_,rfl,Zj ⟨_,rfl,k _ H3 (m.trans Y) (.no (.stem ⟨q,rd,eb,I⟩ c) S)⟩⟩)⟩
  ·let B:QK a W ho n ns bs rest:=⟨q,rd,eb,I⟩;let⟨L',e7,e6,c8,b4,th,c7⟩:=KU L.wf L.lv I c;let c5:=m.trans Y;let eI:ns.map V.int=iN bs:=by rw[eb,zO];rfl
   refine⟨_,Z,_,Z,Z6 ⟨_,Z,_,Z,_,Z,YA,λtw c2=>?_⟩⟩;let g4:=Zb c2 (.tup [.str "stem",.ref l]);let D:=c5.trans g4;refine .mk (L.same D) U M rd th I c7 ⟨tw,l,iN bs,Z,by rw[FS];exact ZP,by rw[<-eI];exact D _ _ hl,λz=>absurd z (by rw[th];exact q),λ_=>rfl⟩ λH5 s5=>⟨_,Z,?_⟩
   let p:=D.trans s5
   cases hc:Xn (a.set n (YT a bs)) rest with
   | none=>exact Z6 ⟨YA,λt X=>⟨_,Z,_,Z,Zj ⟨_,Z,k _ _ (p.trans (Zb X _)) (.no (.up B c hc) ZP)⟩⟩⟩
   | some e0=>
    refine Zj ⟨_,Z,_,Z,Z6 ⟨_,Z,_,Z,l,Z,⟨_,ZF.of (p _ _ hl)⟩,?_⟩⟩;let a8:H5 l=some (.lst (iN bs)):=by rw[<-eI];exact p _ _ hl
    refine IX (cs:=(gd a n).bs) ∅ a8 (λHq j Rq hj sq hR=>?_) λLW H6 s6 i0 a5=>?_
    ·let⟨a0,c6,i3,c4,a1,a2,e1,a3⟩:=(L.same (p.trans sq)).get M;let a4:=a3 q;subst a4;exact⟨_,Z,_,Z,_,Z,d,.ref a0,Z,c4,.inr (.inl ⟨a0,_,1,_,rfl,rfl,Za.of a1,rfl,c6,_,rfl,.inl (ZF.of a2),rfl,OP _,_,rfl,by rw[Nj];exact hR⟩)⟩
    let G:=p.trans s6;let eW:iN (XU a n bs)=((XU a n bs).map λb:Nat=>(b:Int)).map V.int:=by rw[zO];rfl
    let hv:∀ x∈(XU a n bs).map (λb:Nat=>(b:Int)),YI y (.inl x)=some (.int ((ho x.toNat:Nat):Int)):=λx u=>by
     let⟨b,a6,rfl⟩:=zJ.mp u;simpa using hH.2 b (I b (yN.mp a6).1)
    refine⟨dh,LW,y,(XU a n bs).map (λb:Nat=>(b:Int)),(λx=>((ho x.toNat:Nat):Int)),Z,G _ _ J,by rw[<-eW];exact a5,hv,λx u t H7 s7 S=>?_,λu H7 s7=>?_⟩
    ·rw[Lg] at u;let⟨b0,a7,rfl⟩:=yK.mp u;exact⟨_,Z,k _ H7 (G.trans s7) (.no (.held B c hc a7) S)⟩
    ·rw[Lg] at u;exact⟨_,Z,k _ H7 (G.trans s7) (.yes ⟨B,c,hc,rJ.mp u⟩)⟩
abbrev qC:Str:=("_law_change_stem" ++ ".<locals>.") ++ "<lambda>"
abbrev Xy(n:Nat):jE:=[((("_law_shelf" : String):Str),n+6),((("_law_number" : String):Str),n+4),((("_law_handed" : String):Str),n+5)]
def Qp(j:Nat):Arguments×Expr×Scope:=match (Xk Wy)[j]? with
 | some (.Assign _ (.Call _ [.Lambda a b c _] _ _) _)=>(a,b,c)
 | _=>(⟨[],[],none,[],[],none,[]⟩,.Name "" ⟨0,0,0,0⟩,(Ze Wy))
def Du{gt:jq}{m o l j f c':aj}{co:aH}{pm ctv:ai}{n:Nat}(g:WI co qC)(L:Yj K mg jg jh)(r:ZI P w K mg kf (YL P w) 11 jg "change_stem" zEm (YB gt jg jh m o l j)):
  ZK P w K mg kf (YL P w) 70 f (tF "<lambda>" qC (Qp 8).1 (Qp 8).2.1 (Qp 8).2.2 (Xy n) pm (.ref c') ctv) []
   (Jg f c' (wT "<lambda>" qC (Qp 8).1 (Qp 8).2.1 (Qp 8).2.2 (Xy n) pm c' ctv) co (Xy n) zEy (YB gt jg jh m o l j)):=by
 refine ED (k:=69) (λx y c u v=>?_) (λx h=>?_) (λx c h=>?_) (by decide +kernel) Z Z Z (by decide +kernel) g λA i s H D Q E C h=>?_
 ·let a:=PySem.mem_of_lookup u;let b:=PySem.mem_of_lookup v;simp only[zB,uY,or_false,Prod.mk.injEq] at a b;rcases a with ⟨a,d⟩ | ⟨a,d⟩ | ⟨a,d⟩ <;> rcases b with ⟨b,e⟩ | ⟨b,e⟩ | ⟨b,e⟩ <;> first | (exact absurd (Nat.add_left_cancel (show n+_=n+_ from d.symm.trans e)) (by decide)) | (rw[a,b])
 ·let q:∀ p∈(Qp 8).2.2.names,(p.2=.cell\/p.2=.free)->p.1=(("_law_handed" : String):Str)\/p.1=(("_law_number" : String):Str)\/p.1=(("_law_shelf" : String):Str):=by decide +kernel
  have:x=(("_law_handed" : String):Str)\/x=(("_law_number" : String):Str)\/x=(("_law_shelf" : String):Str):=by
   rcases h with h | h
   ·exact q _ (PySem.mem_of_lookup h) (.inl rfl)
   ·exact q _ (PySem.mem_of_lookup h) (.inr rfl)
  rcases this with z | z | z
  ·exact⟨n+5,by rw[z];rfl⟩
  ·exact⟨n+4,by rw[z];rfl⟩
  ·exact⟨n+6,by rw[z];rfl⟩
 ·let a:=PySem.mem_of_lookup h;exact zJ.mpr ⟨_,a,Z⟩
 ·let⟨U,_⟩:=id h;let⟨t,B⟩:=U.sh.sh.self;exact⟨_,Yp (E:=E) (pv 0) L.cS r (C.mono ∅) (Uw (E1:=E) G0 λ_ _ _ h=>h) (Zd (pv 1) (pv 2)),_,Z,_,t,_,Z,B,Z,_,Z,_,Z,h⟩
def ZQr{gt:jq}{CB:aj}{C:Nat->aj}{n:Nat}{σ:L2.St}{A:Hp}{Q:VK}{T hd S d lk:aj}{O:jr}{E:jp}{av:Nat->jp}{ho:Nat->Nat}{as:jx}{a5:List (ZR×V)}{ls:je}{ns:jw}{b:Nat}{NX:js}{j0 j1 j2:Nat}{f3 f4 f5:aj}(L:Yj K mg jg jh)(X2:XC K CB C 2)(X3:XC K CB C 3)(X4:XC K CB C 4)(X5:XC K CB C 5)(F3:YC K (C 3) f3 "number")(F4:YC K (C 4) f4 "number")(F5:YC K (C 5) f5 "number")(DM:ZI P w K mg kf (YL P w) 11 jg "change_stem" zEm (YB gt jg jh (C 2) (C 3) (C 4) (C 5)))(N:ZT A T qC)(hj:NX[j0]? = some (("_law_number" : String):Str))(c5:σ[j0]? = some (some (.int (b:Nat))))(c3:NX[j1]? = some (("_law_shelf" : String):Str))(a3:σ[j1]? = some (some (.ref S)))(c4:NX[j2]? = some (("_law_handed" : String):Str))(a4:σ[j2]? = some (some (.ref hd)))(U:VS gt jg jh A S d lk O E av ho as a5 ls)(hb:b∈E)(a8:E.length<=800)(a1:A hd=some (.lst (ns.map V.int)))(a6:ns.length<=100)(k1:∀ R,Wo O E ho b ns R->∀ (h:Hp) (t:aj),(∀ c o,c≠T->A c=some o->h c=some o)->ZT h T qC->h t=some (.tup R)->Q (.ref t) h)(k2:∀ bs rest D,NE O E ho b ns bs rest D->∀ (h:Hp) (t:aj) (B:jx),(∀ c o,c≠T->(∀ i:Nat,i∈E->c≠(as.getD i .d).x/\c≠(as.getD i .d).ab)->A c=some o->h c=some o)->ZT h T qC->YF jg jh h S d lk D E (Us O b bs av) (MK O b bs ho) B a5 ls->KW A E as B->h t=some (.tup [.str "told",.non])->Q (.ref t) h):
  J9 (YU P w K mg kf CB C) (Xy n) zEy NX (XV (K3 T (Qp 8).1 (Qp 8).2.1 (Qp 8).2.2 qC (Xy n)) Vp) σ A Q:=by
 exists N;intro W f c' co pm a9 c2 hf c1 Y u c7;refine⟨[.ref S,.int (b:Nat),.ref hd],Z,λi x v J H=>?_,λX eU c6 M CA=>?_⟩
 ·let i2:=(yS.mp H).1
  match i,i2,J,H with
  | 0,_,J,H=>cases J;cases H;exact⟨j1,c3,a3⟩
  | 1,_,J,H=>cases J;cases H;exact⟨j0,hj,c5⟩
  | 2,_,J,H=>cases J;cases H;exact⟨j2,c4,a4⟩
  | i+3,i2,_,_=>exact absurd (show i+3<3 from i2) ∅
 let p:∀ c∈(Xy n).map (·.2),∃ o,X c=some (Yz c o):=λc r=>by
  let⟨o,v,e,_⟩:=CA.all c r;exact⟨o,e⟩
 let⟨ps,hT,_⟩:=id N;let⟨c8,c0,_⟩:=id u;let a2:=Y _ _ (ZD a1 hT) a1;let UL:=U.frame (HW U.sh N Y);let I:∀ b,W b=none->A b=none:=λb e=>by
  cases z:A b with
  | none=>rfl
  | some o=>
   by_cases y:b=T
   ·rw[y,c0] at e;cases e
   ·rw[Y _ _ y z] at e;cases e
 exists f,_,_,_,Z,Du (n:=n) (f:=f) (c':=c') (co:=co) (pm:=pm) (ctv:=a9) c2 L DM,λs=>.of_eq Z,M _ _ hf;intro Q' E' hQ hE;exists Z,M _ _ hf,M _ _ c1,[.ref S,.int (b:Nat),.ref hd],CA;rw[eU];let G:∀(a h:Hp),ZB W a->(∀ c∈(Xy n).map (·.2),a c=none)->ZB (reT ((Xy n).map (·.2)) X a) h->(∀ b o,b≠T->A b=some o->unT ((Xy n).map (·.2)) h b=some o)/\ZT (unT ((Xy n).map (·.2)) h) T qC:=by
  intro a h q k F;let bk:ZB a (unT ((Xy n).map (·.2)) h):=λb o e=>Mu k F e;exact⟨λb o nb e=>bk _ _ (q _ _ (Y b o nb e)),u.ext (Yf.same (q.trans bk))⟩
 let a7:∀(a:Hp)(b:aj)(o:HO),(∀ c∈(Xy n).map (·.2),a c=none)->a b=some o->reT ((Xy n).map (·.2)) X a b=some o:=λa b o k e=>by
  have:b∉(Xy n).map (·.2):=λz=>by rw[k b z] at e;cases e
  unfold reT;rw[aM this];exact e
 let nu:∀(j:Nat)(x:Int)(fI:aj)(R:je),3<=j->j<6->XC K CB C j->YC K (C j) fI "number"->R=[.str (MU j),.int x]->Wo O E ho b ns R->∀ m a,ZB W a->a m=some (.xd [("number",.int x)])->(∀ c∈(Xy n).map (·.2),a c=none)->E' (.ref (C j)) (some m) (reT ((Xy n).map (·.2)) X a):=λj x fI R h3 h6 XJ FJ ex r m a q l k=>by
  subst ex;refine hE _ _ _ ⟨j,h6,Z,XJ,.inr ⟨h3,m,x,fI,Z,a7 _ _ _ k l,FJ,λh t F ht=>?_⟩⟩;let⟨b1,b2⟩:=G a h q k F;exact⟨Pt p F,k1 _ r _ t b1 b2 (OO p F ht)⟩
 refine .mk UL hb a8 a2 a6 (λr a q k=>?_) (λj r m a q l k=>nu 5 _ _ _ ∅ ∅ X5 F5 Z r m a q l k) (λx r m a q l k=>nu 3 _ _ _ ∅ ∅ X3 F3 Z r m a q l k) (λj r m a q l k=>nu 4 _ _ _ ∅ ∅ X4 F4 Z r m a q l k) (λbs rest D hy a B a0 R' A' k=>hQ _ _ λt ht=>?_)
 ·refine hE _ _ _ ⟨2,∅,Z,X2,.inl ⟨∅,λh t F ht=>?_⟩⟩
  let⟨b1,b2⟩:=G a h q k F;exact⟨Pt p F,k1 _ r _ t b1 b2 (OO p F ht)⟩
 ·let g:=Zb ht (.tup [.str "told",.non]);let bk:ZB a (unT ((Xy n).map (·.2)) (upd (reT ((Xy n).map (·.2)) X a) t (.tup [.str "told",.non]))):=λb o z=>Mu k g z;let kx:∀(c:aj)(o:HO),W c=some o->(∀ C m us,o≠.ins C m us)->(∀ us,o≠.lst us)->a c=some o:=λc o e m1 m2=>a0 c o (λi hi=>by
   let⟨m,hx⟩:=(UL.sh.tw i hi).tw.self;exact⟨ZD e hx (m1 _ _ _),ZD e (UL.sh.tw i hi).tw.above (m2 _)⟩) e
  let ex:Yf W a:=⟨λb φ z=>kx _ _ z (by intro _ _ _ y;cases y) (by intro _ y;cases y),λb φ z=>kx _ _ z (by intro _ _ _ y;cases y) (by intro _ y;cases y)⟩
  exact⟨Pt p g,k2 bs rest D hy _ t B (λc o nT n1 e=>bk _ _ (a0 c o n1 (Y c o nT e))) (u.ext (ex.trans (Yf.same bk))) (R'.same bk) ⟨A'.x,A'.ab,λi hi=>(A'.th i hi).imp id λz=>I _ z⟩ (OO p g ZP)⟩
end Tw
namespace L2
open PySem PySem.Spec PyProof.Rows
def Jt:V->Bool
 | .int _=>true
 | .str _=>true
 | .bl _=>true
 | .non=>true
 | _=>false
def BH{A:aw}{s:ak}{v:V}{a b:ai}(h:Jt v=true)(c:ZU v a)(d:ZU v b):PySem.SeqAt.EqAt A s a b true:=by
 cases v with
 | int i=>
  let⟨e,rfl⟩:=c;let⟨f,rfl⟩:=d;have:=PySem.SeqAt.EqAt.int_int (A:=A) (s:=s) i e i f
  rwa [show (i==i)=true by simp] at this
 | str x=>
  let⟨e,rfl⟩:=c;let⟨f,rfl⟩:=d;have:=PySem.SeqAt.EqAt.str_str (A:=A) (s:=s) x e x f
  rwa [show (x==x)=true by simp] at this
 | bl x=>
  obtain rfl:a=.bool x:=c;obtain rfl:b=.bool x:=d;exact PySem.SeqAt.EqAt.same _
 | non=>
  obtain rfl:a=.none:=c;obtain rfl:b=.none:=d;exact PySem.SeqAt.EqAt.same _
 | _=>cases h
def CO{jZ:ju}{σ:St}{H:Hp}{s:ak}{c:je}{b a:jd}(p:∀ v∈c,Jt v=true)(g:ZQ c b)(t:ZQ c a)(j:Nat)(d:j<b.toArray.size)(o:j<a.toArray.size):PySem.SeqAt.EqAt X.A.in1 s b.toArray[j] a.toArray[j] true:=by
 let u:=g.length;let e:j<c.length:=by simp at d;lia
 let f:c[j]? = some c[j]:=zV e;let⟨h,m,k⟩:=g.get f;let⟨i,n,l⟩:=t.get f;let q:b.toArray[j]=h:=by
  have:b.toArray[j]? = some h:=by simpa using m
  rw[wI d] at this;exact zG.inj this
 let r:a.toArray[j]=i:=by
  have:a.toArray[j]? = some i:=by simpa using n
  rw[wI o] at this;exact zG.inj this
 rw[q,r];exact BH (p _ (xO e)) k l
inductive MY(K:zZ)(b:Bool)(x y:V)(H:Hp)(Q:VK):Prop
 |mk(p q:aj)(a:je)(_:x=.ref p)(_:y=.ref q)(_:Za K H p a)(_:Za K H q a)(_:∀ v∈a,Jt v=true)(_:Q (.bl b) H)
def Dv(n:X.A.units<cLine):Ys X (ay .Eq) (MY X.K true):=by
 intro a s B H x y v u Q I w z h;let⟨p,b,E,rfl,rfl,k,l,m,q⟩:=h;cases w;cases z;let⟨o,d,r,F⟩:=I.tuple k;let⟨c,f,t,G⟩:=I.tuple l;let C:=d.length;let D:=f.length;exact PySem.SeqAt.eq_tupleAt (e:=λ_=>true) r t n (λj g i=>CO (X:=X) (jZ:=a) (σ:=B) (H:=H) m d f j g i) (Yr I q (by simp;lia))
end L2
namespace Tw
open PySem PySem.Spec L2 PyProof.Rows
variable{jg jh CS CT CH CK CP CB:aj}
def YF.like{b c:aj}{H:Hp}{S d n:aj}{j ts':jr}{h:jp}{l:Nat->jp}{m:Nat->Nat}{k:jx}{f:List (ZR×V)}{o:je}(R:YF b c H S d n j h l m k f o)(g:ts'.length=j.length)(e:∀ i∈h,gd ts' i=gd j i):YF b c H S d n ts' h l m k f o:=
 ⟨by rw[g];exact R.sh,R.keys,R.val,λi a=>by rw[g];exact R.lt i a,by rw[g];exact R.len,λi a=>⟨(R.tw i a).tw,by rw[e i a];exact(R.tw i a).things,by rw[e i a];exact(R.tw i a).tag⟩,R.own,R.two⟩
def Nx{bs:jv}{n i:Nat}{D:aj}(h:n<bs.length):(bs.set n D).getD i 0=if i=n then D else bs.getD i 0:=by
 rw[zS,zS];by_cases z:i=n
 ·subst z;rw[aO rfl,vC h];rfl
 ·rw[aM z,vQ (Ne.symm z)]
def Do{H b:Hp}{g f D:aj}{e ts':jr}{d:jp}{bs:jv}{c:List (ZR×V)}{us:je}{n:Nat}(L:Xl H g e d bs c)(s:n∈d)(q:Lv ts' d)(A:ts'.length=e.length)(m:YR H b)(I:∀ i:Nat,i∈d->∀ o,H (bs.getD i 0)=some o->b (bs.getD i 0)=some o)(F:b g=some (.dK (Zs c (.inl (n:Int)) (.ref f))))(G:b f=some (.tup [.str (kindOf (gd ts' n)),.ref D]))(E:b D=some (.lst us))(B:(gd ts' n).h=0->jU b (Y2 (gd ts' n).rows) us)(C:(gd ts' n).h≠0->us=iN (gd ts' n).bs)(M:∀ i∈d,i≠n->(gd ts' i).h=(gd e i).h/\(gd ts' i).bs=(gd e i).bs/\((gd e i).h=0->(gd ts' i).rows=(gd e i).rows)):Xl b g ts' d (bs.set n D) (Zs c (.inl (n:Int)) (.ref f)):=by
 let a:n<bs.length:=by rw[L.len];exact L.vl.lt n s
 let⟨N,O,t,_⟩:=L.tw n s;exists F,q,by rw[N9 t];exact L.keys,by rw[wV,L.len,A]
 intro i j;by_cases z:i=n
 ·subst z;refine⟨f,us,by rw[Uq,aO rfl],?_,?_,B,C⟩
  ·rw[Nx a,aO rfl];exact G
  ·rw[Nx a,aO rfl];exact E
 ·let⟨l,p,u,r,v,w,x⟩:=L.tw i j;let⟨k,J,K⟩:=M i j z;refine⟨l,p,by rw[Uq,aM (λy=>z (Yl.mp y))];exact u,?_,?_,λy=>?_,λy=>?_⟩
  ·rw[Nx a,aM z];unfold kindOf at r⊢;rw[k];exact m _ _ r
  ·rw[Nx a,aM z];exact I i j _ v
  ·rw[k] at y;rw[K y];exact(w y).mono m _ _
  ·rw[k] at y;rw[J];exact x y
def ZLE{gt:jq}{c:jr}{i:Nat}{t:ZL}(h:Zz gt c i t)(b:t.h=0):∀ a j,Zz gt a j t:=λa j=>⟨h.ne,h.up,h.inn,h.leaf,λz=>absurd b z⟩
def Fz{gt:jq}{a:jr}(d:WF gt a):∀(k n:Nat),n<a.length->(gd a n).h=k->∃ t:ZL,∀ f j,Zz gt f j t
 | 0,n,c,e=>⟨gd a n,ZLE (d n _ (Wd c)) e⟩
 | k+1,n,c,e=>by
  let⟨o,_,i,_⟩:=(d n _ (Wd c)).stem ∅
  obtain⟨b,l⟩:∃ b,b∈(gd a n).bs:=vA ∅
  let⟨g,m⟩:=i b l;exact Fz d k b g ∅
def EK{d:List (ZR×V)}{f:jp}{b:Nat}{g a:Nat->Nat}{x:Int}(h:Wg d f g)(k:b∈f)(e:∀ c,c≠b->a c=g c)(j:x=((a b:Nat):Int)):Wg (Zs d (.inl (b:Int)) (.int x)) f a:=by
 subst j;exists by rw[N9 (h.2 b k)];exact h.1
 intro i l;rw[Uq];by_cases z:i=b
 ·subst z;rw[aO rfl]
 ·rw[aM (λy=>z (Yl.mp y)),e i z];exact h.2 i l
def B5{l:jp}{i b:Nat}(a:l.Nodup)(e:l[i]? = some b):l.take (i+1)=l.take i++[b]/\b∉l.take i:=by
 exists by rw[yM,e];rfl
 intro z;let d:l=l.take i++b::l.drop (i+1):=by
  let⟨c,e⟩:=yS.mp e;rw[<-e,<-wQ c,vP]
 rw[d,vV] at a;exact a.2.2 b z b (by simp) Z
def GU{bs old:jp}{i b:Nat}(a:bs.Nodup)(e:bs[i]? = some b):b∉((bs.take i).filter λb=>decide (b∉old))/\(∀ c,c≠b->(c∈((bs.take (i+1)).filter λb=>decide (b∉old)) ↔ c∈((bs.take i).filter λb=>decide (b∉old))))/\(b∈((bs.take (i+1)).filter λb=>decide (b∉old)) ↔ b∉old):=by
 let⟨f,d⟩:=B5 a e;rw[f,uI];exists λz=>d (yN.mp z).1,λc n=>?_
 ·rw[yX];exact⟨λy=>y.elim id λy=>absurd (zI.mp (yN.mp y).1) n,.inl⟩
 ·rw[yX,yN,yN];simp[d]
def BI{bs old:jp}{ho:Nat->Nat}{i b:Nat}(a:bs.Nodup)(e:bs[i]? = some b)(h:b∉old->1<=ho b):Yi ((bs.take i).filter λb=>decide (b∉old)) ho b=ho b/\(∀ c,c≠b->Yi ((bs.take (i+1)).filter λb=>decide (b∉old)) ho c=Yi ((bs.take i).filter λb=>decide (b∉old)) ho c)/\((ho b:Nat):Int)-(if decide (b∉old)=true then 1 else 0)=((Yi ((bs.take (i+1)).filter λb=>decide (b∉old)) ho b:Nat):Int):=by
 let⟨f,g,d⟩:=GU (old:=old) a e;exists aM f,λc n=>by unfold Yi;simp only[g c n]
 unfold Yi;by_cases z:b∈old
 ·rw[aM (λy=>d.mp y z),aJ (λy=>y z),aM zU]
  lia
 ·have:=h z;rw[aO (d.mpr z),aK z,aO rfl]
  lia
def Dz{bs old:jp}{ho:Nat->Nat}{i b:Nat}(a:bs.Nodup)(e:bs[i]? = some b):Vl ((bs.take i).filter λb=>decide (b∉old)) ho b=ho b/\(∀ c,c≠b->Vl ((bs.take (i+1)).filter λb=>decide (b∉old)) ho c=Vl ((bs.take i).filter λb=>decide (b∉old)) ho c)/\((ho b:Nat):Int)+(if decide (b∉old)=true then 1 else 0)=((Vl ((bs.take (i+1)).filter λb=>decide (b∉old)) ho b:Nat):Int):=by
 let⟨f,g,d⟩:=GU (old:=old) a e;exists aM f,λc n=>by unfold Vl;simp only[g c n]
 unfold Vl;by_cases z:b∈old
 ·rw[aM (λy=>d.mp y z),aJ (λy=>y z),aM zU]
  lia
 ·rw[aO (d.mpr z),aK z,aO rfl]
  lia
def BP{n:Nat}{y:Str}{c:aj}(h:(Xy n).lookup y=some c):(cellsFrom (n+1) (Ze Wy).names []).lookup y=some c:=by
 let e:=PySem.mem_of_lookup h;simp only[zB,uY,or_false,Prod.mk.injEq] at e;rcases e with ⟨a,b⟩ | ⟨a,b⟩ | ⟨a,b⟩
 ·rw[a,b];rfl
 ·rw[a,b];rfl
 ·rw[a,b];rfl
def CF{n:Nat}:∀ c∈(Xy n).map (·.2),∃ y,(Xy n).lookup y=some c:=λc a=>by
 let e:c=n+6\/c=n+4\/c=n+5:=by simpa using a
 rcases e with e | e | e
 ·exact⟨(("_law_shelf" : String):Str),by rw[e];rfl⟩
 ·exact⟨(("_law_number" : String):Str),by rw[e];rfl⟩
 ·exact⟨(("_law_handed" : String):Str),by rw[e];rfl⟩
def Qe:(Ze Wy).names.lookup (("_law_number" : String):Str)=some .cell/\(Ze Wy).names.lookup (("_law_shelf" : String):Str)=some .cell/\(Ze Wy).names.lookup (("_law_handed" : String):Str)=some .cell:=by decide +kernel
def Ax{n:Nat}:∀ y∈[(("_law_shelf" : String):Str),(("_law_number" : String):Str),(("_law_handed" : String):Str)],(Ze Wy).names.lookup y=some .cell/\∃ c,(Xy n).lookup y=some c:=λy a=>by
 let e:y=(("_law_shelf" : String):Str)\/y=(("_law_number" : String):Str)\/y=(("_law_handed" : String):Str):=by simpa using a
 rcases e with e | e | e
 ·rw[e];exact⟨Qe.2.1,_,Z⟩
 ·rw[e];exact⟨Qe.1,_,Z⟩
 ·rw[e];exact⟨Qe.2.2,_,Z⟩
def Br{f g:aj}{H w:Hp}{S d u h q p:aj}{E:jr}{v:jp}{x:Nat->jp}{A:Nat->Nat}{m:jx}{l F Yo:List (ZR×V)}{C K:je}(R:YF f g H S d u E v x A m l C)(k:∀ c o,c≠h->c≠q->c≠p->H c=some o->w c=some o)(G:u≠h)(I:d≠q)(J:d≠p)(D:∀ i∈v,(m.getD i .d).th≠h/\(m.getD i .d).ab≠h)(n:H h=some (.lst K))(a:H q=some (.dK F))(b:H p=some (.dK Yo)):YF f g w S d u E v x A m l C:=by
 let⟨⟨L,r⟩,s,z⟩:=id R.sh;refine R.frame (λc O e=>k _ _ (ZD e n) (ZD e a) (ZD e b) e) (λo e=>k _ _ (ZD r n) (ZD r a) (ZD r b) e) (λo e=>k _ _ (ZD s n) I J e) (λo e=>k _ _ G (ZD z a) (ZD z b) e) λi j=>?_;let⟨M,t⟩:=(R.tw i j).tw.self;let⟨N,B,_⟩:=(R.tw i j).things;let y:=(R.tw i j).tw.above;exact⟨λo e=>k _ _ (ZD t n) (ZD t a) (ZD t b) e,λo e=>k _ _ (D i j).1 (ZD B a) (ZD B b) e,λo e=>k _ _ (D i j).2 (ZD y a) (ZD y b) e⟩
def JE(gt:jq)(jg jh T p:aj)(H:Hp)(a:Pl)(m:Md)(Q:VK):Prop:=∀(b:Hp)(d:Pl)(e:Md),(∀ c o,c≠T->c≠p->Zm a m c->H c=some o->Zm d e c/\b c=some o)->ZT b T qC->LS gt jg jh b d e->X8 d=X8 a->e.lv.length=m.lv.length->Q (.bl true) b
abbrev Jd:js:=["_law_well_here","_law_state","_law_shelf","_law_twigs","_law_holds","_law_grid_here","_law_told","_law_some","_law_number","_law_numbers","_law_due","_law_handed","_law_found","_law_one"]
def UU:ZA Jd zEf (Ze Wy):=Z4
inductive Ko(a:Pl)(p st LN LR hd t:aj)(n:Nat)(lv:jp)(h:Nat->Nat->Nat)(H:Hp):Nat->L2.St->Hp->Prop
 |mk{i:Nat}{x:jf}{hv:List (ZR×V)}{H':Hp}:(∀ c o,c≠a.dH->H c=some o->H' c=some o)->H' a.dH=some (.dK hv)->Wg hv lv (h i) ->
  Ko a p st LN LR hd t n lv h H i [some (.ref p),some (.ref st),some (.ref a.S),some (.ref a.dT),some (.ref a.dH),some (.ref a.gl),some (.ref a.tl),some (.ref LN),some (.int (n:Nat)),some (.ref LR),some .non,some (.ref hd),some (.ref t),x] H'
def ZKW{A:aw}{outer:jB}{s:ak}{Hs:Hp}{E:XK}{gt:jq}{CB:aj}{C:Nat->aj}{c T f3 f4 f5:aj}(CC:xY kf c T)(r5:kf.BuiltinsAt mg T)(X:YZ mg)(L:Yj K mg jg jh)(X2:XC K CB C 2)(X3:XC K CB C 3)(X4:XC K CB C 4)(X5:XC K CB C 5)(F3:YC K (C 3) f3 "number")(F4:YC K (C 4) f4 "number")(F5:YC K (C 5) f5 "number")(DM:ZI P w K mg kf (YL P w) 11 jg "change_stem" zEm (YB gt jg jh (C 2) (C 3) (C 4) (C 5)))(DQ:ZC P w K mg kf 71 "_law_asked" zE2 (YU P w K mg kf CB C))(DD:ZC P w K mg kf 10 "_law_stem_due" zEg (YY gt))(p6:ZC P w K mg kf 7 "_law_alike" zEc (YN 6))(hr:ZZ 71 (A.deeper (envOfC "_law_change_stem" (Ze Wy) s.heap.objs.size f (.ref c)))):
  ∃ t,WC (VI Zc P w K mg kf Jd "_law_change_stem" (Ze Wy) f (.ref c) A outer s Hs E) ((Xk Wy).drop 6) t /\
   ∀(H H3:Hp)(Q:VK)(p st LN D:aj)(a:Pl)(m:Md)(n:Nat)(ns:jw),ZJ H p->LS gt jg jh H a m->WY a m p->ZT H T qC->ZH p H H3->H D=none->H3 D=some (.lst (ns.map V.int))->ns.length<=8->n∈m.lv->JE gt jg jh T p H a m Q ->
    t { nx:=λ_ H'=>Q .non H',rt:=Q } [some (.ref p),some (.ref st),some (.ref a.S),some (.ref a.dT),some (.ref a.dH),some (.ref a.gl),some (.ref a.tl),some (.ref LN),some (.int (n:Nat)),some (.ref D),none,none,none,none] H3:=by
 let nd:=UU.nd;let hu:=WV hr;let r8:=hr.mono (show 7<=71 by lia)
 let o2:=hr.mono (show 10<=71 by lia)
 let⟨fA,t7,FA,bA,kA,mA⟩:=DQ.ex;refine⟨_,ZN (Zo 10 nd (Zk DD o2 (Pm (pv 3) (pv 4) (pv 8) (pv 9))))
  (ZN (Q9 (i:=11) nd rfl (Or.inr rfl) (Wt PU rfl X.list Up (ZX (pv 9))))
  (ZN (Zo 12 nd (F0 (cl:=Xy s.heap.objs.size) (N:=zEy) FA hr rfl mA kA bA (ZX (FY (P:=T) (cl:=Xy s.heap.objs.size) rfl CC r5 rfl rfl)) (λy c h=>BP h) CF Ax λ_=>rfl))
  (ZN (Zy (YJ (FV hr.units0) (pv 11) (pv 9) (Z3 _)) WW Z0)
  (ZN (Zy (Ur (N0 (pv 10))) (ZV (Zq (Zk p6 r8 (Zd (pv 12) (pv 10))))) Z0)
  (ZN (Xu (N4 yJ tZ tY LC (pv 11)))
  (ZN (WU OZ rfl (Xh (pv 9)) (Ye 13 nd) (ZV (Uu hu (pv 4) (pv 13) (Zu QP (Xp hu (pv 4) (pv 13)) (Wt Mz rfl X.int U8 (ZX (VT (r:=PY K true) Np (pv 13) (Zi K (Xp hu (pv 3) (pv 8)) ZM) rfl)))) rfl)))
  (ZN (WU OZ rfl (Xh (Zi K (Xp hu (pv 3) (pv 8)) ZM)) (Ye 13 nd) (ZV (Uu hu (pv 4) (pv 13) (Zu Xm (Xp hu (pv 4) (pv 13)) (Wt Mz rfl X.int U8 (ZX (VT (r:=PY K true) Np (pv 13) (pv 9) rfl)))) rfl)))
  (ZN (Uu hu (pv 3) (pv 8) (Ym (Zd Yn (pv 9))) rfl)
  (ZV (Zq (VT (Dv hr.units0) (pv 12) (Ym (Zd Yn Od)) (Z3 _)))))))))))),λH H3 Q p st LN D a m n ns W J O t0 x3 s3 e1 l8 hn k=>?_⟩
 let⟨xsP,l6⟩:=W.some;let S3:=J.sx O l6 x3;let p2:ZT H3 T qC:=ZT.ext t0 ⟨λb φ e=>x3 _ _ e (ZD e l6),λb φ e=>x3 _ _ e (ZD e l6)⟩;let⟨s1,ls,U3,o5⟩:=S3.sh;let⟨a4,l⟩:=S3.lw;let⟨o4,e9,n6⟩:=S3.hd;let⟨gs,G3⟩:=S3.gr;let s2:=J.l64;refine⟨_,Z,_,Z,_,Z,_,Z,.mk (l.lawT J.wf G3.len G3.up) s2 hn e9 n6 e1 ∅ λv H4 s4 cls=>?_⟩
 exists _,Z,D,ns.map V.int,Z,.inl (ZF.of (s4 _ _ e1));intro hd o7;let⟨H5,eU,g5,i0⟩:=VN o7 (.lst (ns.map V.int));rw[eU];let I:=s4.trans g5;let S5:=S3.same I;let l3:=ZT.ext p2 (Yf.same I);let⟨psT,l4,_⟩:=id l3;let U5:=U3.frame (U3.sh.same I);let n7:=I _ _ e1;refine ZQr (CB:=CB) (C:=C) (f3:=f3) (f4:=f4) (f5:=f5) (j0:=8) (j1:=2) (j2:=11) L X2 X3 X4 X5 F3 F4 F5 DM l3 Z Z Z Z Z Z U5 hn ∅ i0 ∅ (λxs hc H6 t c4 e6 ht=>?_) (λbs rest G hy H6 t a6 c4 e6 R6 A6 ht=>?_)
 ·let a2:∀ c o,(∀ ps,o≠.tbl ps)->H5 c=some o->H6 c=some o:=λc o n e=>c4 _ _ (ZD e l4 (n _)) e;refine⟨_,Z,_,Z,hd,D,ns,Z,Z,ZF.of (a2 _ _ (by intro _ z;cases z) i0),ZF.of (a2 _ _ (by intro _ z;cases z) n7),_,Z,Zj ?_⟩
  cases cls with
  | yes hy=>exact(hc.no hy).elim
  | no r6 r9=>
   cases hc.uniq r6;let⟨kt,o1,s0⟩:=hc.word;refine⟨_,Z,_,Z,Z6 ⟨_,Z,_,Z,.ref t,.ref _,.tup kt,5,Z,.tup ht (o1 _),.tup (a2 _ _ (by intro _ z;cases z) (g5 _ _ r9)) (o1 _),s0,by decide,λH7 s7=>?_⟩⟩
   exact k H7 a m (λc o nT np v e=>⟨v,s7 _ _ (c4 _ _ nT (I _ _ (x3 _ _ e np)))⟩) (ZT.ext e6 (Yf.same s7)) (GH S5 λc o z e=>s7 _ _ (a2 c o z e)) Z Z
 ·cases cls with
  | no hc=>exact(hc.no hy).elim
  | yes _=>
   let⟨B,r7,ec,hf⟩:=hy;let⟨h0,rd,eb,hb⟩:=B;let⟨L',t8,t6,r2,b4,th,t1⟩:=KU J.wf l.vl hb r7;let a0:∀ c o,H3 c=some o->c≠hd:=λc o e=>ZW (s4 _ _ e) o7;let c1:∀ c o,H c=some o->c≠D:=λc o e=>ZW e s3;let⟨t5,t9,R0⟩:=J.shp;let l0:∀ i∈m.lv,∃ dx fs,H5 (a.x i)=some (.ins jh dx fs):=λi g=>by
    let⟨dx,e⟩:=(U5.sh.tw i g).tw.self;exact⟨dx,_,e⟩
   let r0:∀ i∈m.lv,H5 (a.ab i)=some (.lst (iN (m.av i))):=λi g=>(U5.sh.tw i g).tw.above;let p9:∀ i∈m.lv,∃ us,H (a.ab i)=some (.lst us):=λi g=>⟨_,(R0.tw i g).tw.above⟩;let a2:∀ c o,(∀ ps,o≠.tbl ps)->(∀ C dx us,o≠.ins C dx us)->(∀ us,o≠.lst us)->H5 c=some o->H6 c=some o:=λc o n n2 n3 e=>c4 _ _ (ZD e l4 (n _)) (λi g=>by
    let⟨dx,fs,hx⟩:=l0 i g;exact⟨ZD e hx (n2 _ _ _),ZD e (r0 i g) (n3 _)⟩) e
   let i1:∀ c xs,(∀ i∈m.lv,c≠a.ab i)->H5 c=some (.lst xs)->H6 c=some (.lst xs):=λc xs n1 e=>c4 _ _ (ZD e l4) (λi g=>by
    let⟨dx,fs,hx⟩:=l0 i g;exact⟨ZD e hx,n1 i g⟩) e
   let i6:∀ i∈m.lv,D≠a.ab i:=λi g=>by
    let⟨us,e⟩:=p9 i g;exact(c1 _ _ e).symm
   let o0:∀ i∈m.lv,hd≠a.ab i:=λi g=>(a0 _ _ (U3.sh.tw i g).tw.above).symm;let q:=i1 _ _ o0 i0;let n8:=i1 _ _ i6 n7;refine⟨_,Z,_,Z,hd,D,ns,Z,Z,ZF.of q,ZF.of n8,_,Z,Zj ?_⟩;refine⟨_,Z,_,Z,Zj ?_⟩;exists _,Z,.inl ⟨Z,_,ZF.of q⟩,hd,_,Z,Z,q;let a9:∀ c o,c≠hd->H6 c=some o->upd H6 hd (.lst []) c=some o:=λc o n e=>by rw[ZO n];exact e
   generalize upd H6 hd (.lst [])=H7 at a9⊢;let c9:=a2 _ _ (by intro _ z;cases z) (by intro _ _ _ z;cases z) (by intro _ z;cases z) (I _ _ l.dict)
   let c2:=a2 _ _ (by intro _ z;cases z) (by intro _ _ _ z;cases z) (by intro _ z;cases z) (I _ _ e9)
   let m7:=a9 _ _ (ZD c9 q) c9;let a7:=a9 _ _ (ZD c2 q) c2;let m2:D≠hd:=a0 _ _ e1;let eI:ns.map V.int=iN bs:=by rw[eb,zO];rfl
   let e0:H7 D=some (.lst (iN bs)):=by rw[<-eI];exact a9 _ _ m2 n8
   let⟨c7,us0,q1,q2,q3,q4,q5⟩:=l.tw n hn;let r3:=q5 h0;subst r3;let o9:=a2 _ _ (by intro _ z;cases z) (by intro _ _ _ z;cases z) (by intro _ z;cases z) (I _ _ q2)
   let i3:=a9 _ _ (ZD o9 q) o9;let i4:H7 (a.b n)=some (.lst (iN (gd m.ts n).bs)):=a9 _ _ (a0 _ _ q3) (i1 _ _ (λi g=>(J.t3 n hn).2.2 i g) (I _ _ q3));let i5:a.dT≠a.dH:=J.dd.2.2;let h1:∀ b∈bs,b∉(gd m.ts n).bs->1<=m.ho b:=λb e8 z=>by
    have:=vT.mp hf b (yN.mpr ⟨e8,aK z⟩);simp at this
    lia
   let o6:∀ hv:List (ZR×V),(∀ h,Wg hv m.lv h->hv.length=m.lv.length):=λhv h z=>by have:=congrArg yD z.1;simpa using this
   refine⟨_,Z,D,Z,⟨_,ZF.of e0⟩,Ui (K:=K) (a:=D) (xs:=iN bs) (Ko a p st LN D hd t n m.lv (λi=>Yi ((bs.take i).filter λb=>decide (b∉(gd m.ts n).bs)) m.ho) H7) (.mk (λc o _ e=>e) a7 ?_) (λi σ H' _ hP=>?_) ?_ ?_⟩
   ·let e2:Yi [] m.ho=m.ho:=funext λi=>aM (by simp)
    show Wg o4 m.lv (Yi [] m.ho);rw[e2];exact n6
   ·let⟨k',_⟩:=hP;exact ZF.of (k' _ _ (ZD e0 a7) e0)
   ·rintro i u σ H9 l9 ⟨R,c3,c6⟩;rename_i x hv
    unfold iN at l9;rw[zM] at l9;let⟨b,a8,rfl⟩:=yK.mp l9;let mb:=zC a8;let bl:=hb b mb;let⟨g1,g2,g3⟩:=BI (ho:=m.ho) (old:=(gd m.ts n).bs) r2 a8 (h1 b mb);let hg:Zg H9 a.dH (.int (b:Nat)) (some (.int (m.ho b:Nat))):=by
     have:=c6.2 b bl;rw[g1] at this;exact this ▸ Zg.k (k:=Sum.inl (b:Int)) c3
    let l5:Zg H9 a.dT (.int (n:Nat)) (some (.ref c7)):=q1 ▸ Zg.k (k:=Sum.inl (n:Int)) (R _ _ i5 m7);let lh:=o6 hv _ c6;refine⟨_,Z,_,Z,a.dH,.int (m.ho b:Nat),Z,hg,_,Z,_,Z,_,Z,a.dT,.ref c7,Z,l5,.inr (.inl ⟨c7,_,1,.ref (a.b n),rfl,rfl,Za.of (R _ _ (ZD i3 a7) i3),rfl,a.b n,_,rfl,.inl (ZF.of (R _ _ (ZD i4 a7) i4)),rfl,OP _,.inr ⟨_,rfl,?_⟩⟩)⟩;rw[Nj];exists _,_,Z,Z,_,Z,_,Z,a.dH,_,Z,Y3.k (k:=Sum.inl (b:Int)) c3 (YO ∅)
    exact .mk (λc o n e=>by rw[ZO n];exact R _ _ n e) ZP (EK c6 bl g2 g3)
   rintro σ H9 ⟨R,c3,c6⟩;rename_i x hv
   rw[show (iN bs).length=bs.length from zX _,yQ (zY _)] at c6;let m8:=R _ _ i5 m7;let s8:=R _ _ (ZD i3 a7) i3;let m1:=R _ _ (ZD i4 a7) i4;let n9:=R _ _ (ZD e0 a7) e0;let l5:Zg H9 a.dT (.int (n:Nat)) (some (.ref c7)):=q1 ▸ Zg.k (k:=Sum.inl (n:Int)) m8;let s6:(gd m.ts n).bs.Nodup:=GS J.wf (l.vl.lt n hn) h0;refine⟨_,Z,_,Z,a.dT,.ref c7,Z,l5,.inr (.inl ⟨c7,_,1,.ref (a.b n),rfl,rfl,Za.of s8,rfl,a.b n,rfl,⟨_,ZF.of m1⟩,?_⟩)⟩;refine Ui (K:=K) (a:=a.b n) (xs:=iN (gd m.ts n).bs) (Ko a p st LN D hd t n m.lv (λi=>Vl (((gd m.ts n).bs.take i).filter λb=>decide (b∉bs)) (Yi (XU m.ts n bs) m.ho)) H9) (.mk (λc o _ e=>e) c3 ?_) (λi σ H' _ hP=>?_) ?_ ?_
   ·let e2:Vl [] (Yi (XU m.ts n bs) m.ho)=Yi (XU m.ts n bs) m.ho:=funext λi=>aM (by simp)
    show Wg hv m.lv (Vl [] (Yi (XU m.ts n bs) m.ho));rw[e2];exact c6
   ·let⟨k',_⟩:=hP;exact ZF.of (k' _ _ (ZD m1 c3) m1)
   ·rintro i u σ M e4 ⟨a3,c0,U⟩;rename_i x2 m0
    unfold iN at e4;rw[zM] at e4;let⟨b,a8,rfl⟩:=yK.mp e4;let mb:=zC a8;let bl:=l.vl.cl n hn b mb;let⟨g1,g2,g3⟩:=Dz (ho:=Yi (XU m.ts n bs) m.ho) (old:=bs) s6 a8;let hg:Zg M a.dH (.int (b:Nat)) (some (.int (Yi (XU m.ts n bs) m.ho b:Nat))):=by
     have:=U.2 b bl;rw[g1] at this;exact this ▸ Zg.k (k:=Sum.inl (b:Int)) c0
    let lh:=o6 m0 _ U;refine⟨_,Z,_,Z,a.dH,.int (Yi (XU m.ts n bs) m.ho b:Nat),Z,hg,_,Z,_,Z,D,_,Z,.inl (ZF.of (a3 _ _ (ZD n9 c3) n9)),Z,OP _,.inr ⟨_,Z,?_⟩⟩;rw[Nj];exists _,_,Z,Z,_,Z,_,Z,a.dH,_,Z,Y3.k (k:=Sum.inl (b:Int)) c0 (YO ∅)
    exact .mk (λc o n e=>by rw[ZO n];exact a3 _ _ n e) ZP (EK U bl g2 g3)
   rintro σ M ⟨a3,c0,U⟩;rename_i x2 m0
   rw[show (iN (gd m.ts n).bs).length=(gd m.ts n).bs.length from zX _,yQ (zY _)] at U;let c8:=a3 _ _ i5 m8;let l1:∀ c o,c≠hd->c≠a.dH->H6 c=some o->M c=some o:=λc o n1 n2 e=>a3 c o n2 (R c o n2 (a9 c o n1 e));let i9:=l1 _ _ (ZD ht q) (ZD ht c2) ht;exists _,Z,YA;intro tp o8;let n5:=Zb o8 (.tup [.str "stem",.ref D]);let lk:a4.length<64:=by have:=congrArg yD l.keys;simp at this;lia
   let m6:=n5 _ _ c8;exists _,Z,_,Z,a.dT,_,Z,Y3.k (k:=kI n) m6 (YO ∅)
   let l2:∀ c o,c≠a.dT->upd M tp (.tup [.str "stem",.ref D]) c=some o->upd (upd M tp (.tup [.str "stem",.ref D])) a.dT (.dK (Zs a4 (kI n) (.ref tp))) c=some o:=λc o n e=>by rw[ZO n];exact e
   let e3:upd (upd M tp (.tup [.str "stem",.ref D])) a.dT (.dK (Zs a4 (kI n) (.ref tp))) tp=some (.tup [.str "stem",.ref D]):=l2 _ _ (ZW c8 o8).symm ZP;let i7:upd (upd M tp (.tup [.str "stem",.ref D])) a.dT (.dK (Zs a4 (kI n) (.ref tp))) a.dT=some (.dK (Zs a4 (kI n) (.ref tp))):=ZP;let a1:∀ c o,c≠a.dT->M c=some o->upd (upd M tp (.tup [.str "stem",.ref D])) a.dT (.dK (Zs a4 (kI n) (.ref tp))) c=some o:=λc o n e=>l2 c o n (n5 _ _ e);generalize upd (upd M tp (.tup [.str "stem",.ref D])) a.dT (.dK (Zs a4 (kI n) (.ref tp)))=p7 at e3 i7 a1⊢;let o3:=a1 _ _ (ZD i9 c8) i9;exists _,Z,YA;intro t2 s5;let c5:=Zb s5 (.tup [.str "told",.non]);exists t,t2,[.str "told",.non],Z,Z,Za.of (c5 _ _ o3),Za.of ZP,λv hv=>?_
   ·rcases zB.mp hv with z | z
    ·rw[z];rfl
    ·rw[zI.mp z];rfl
   generalize upd p7 t2 (.tup [.str "told",.non])=a5 at c5⊢;let Y:∀ c o,c≠hd->c≠a.dT->c≠a.dH->H6 c=some o->a5 c=some o:=λc o n1 n2 n3 e=>c5 _ _ (a1 c o n2 (l1 c o n1 n3 e));let m5:=c5 _ _ (a1 _ _ i5.symm c0);let fr:∀ c o,c≠T->(∀ i:Nat,i∈m.lv->c≠a.x i/\c≠a.ab i)->c≠a.dT->c≠a.dH->H3 c=some o->a5 c=some o:=λc o n1 n2 n3 n4 e=>Y c o (a0 c o e) n3 n4 (c4 c o n1 n2 (I _ _ e));let tu:YR H3 a5:=λc xs e=>by
    let e5:=I _ _ e;exact Y _ _ (a0 _ _ e) (ZD e l.dict) (ZD e e9) (a2 _ _ (by intro _ z;cases z) (by intro _ _ _ z;cases z) (by intro _ z;cases z) e5)
   let i2:∀ c xs,(∀ i∈m.lv,c≠a.ab i)->H3 c=some (.lst xs)->a5 c=some (.lst xs):=λc xs n1 e=>Y _ _ (a0 _ _ e) (ZD e l.dict) (ZD e e9) (i1 _ _ n1 (I _ _ e));let i8:=i2 _ _ i6 e1;rw[eI] at i8;let⟨f1,f2,f3,f4⟩:=rd.facts J.wf l.vl hn;let p0:=LX J.wf l.vl rd hn (t:=YT m.ts bs) th hb t1;let nl:∀ i∈n::rest,i∈m.lv:=λi g=>(f1 i g).1;let pp:VR gt m.ts m.lv n G (n::rest) []:=by
    cases rest with
    | nil=>rw[Xn] at ec;cases ec;exact p0
    | cons s' rest=>
     let s9:Zx m.ts m.lv m.ho s' (s'::rest):=rd.drop 1 s' Z;exact IF J.wf l.vl s9 (nl s' (by simp)) (by have:=f2 s' (by simp);lia) p0 ec
   let e7:gd G n=YT m.ts bs:=by
    rw[IT ec (xQ.mp f3).1,Pj (l.vl.lt n hn),aO rfl]
   let vc:=pp.vl l.vl;let⟨tf,p4⟩:=Fz J.wf _ n (l.vl.lt n hn) Z;let gf:∀ i∈m.lv,gd (VZ m.lv tf G) i=gd G i:=λi g=>JU (vc.lt i g) g;let fl:(VZ m.lv tf G).length=m.ts.length:=Yw.trans pp.len;let t4:WF gt (VZ m.lv tf G):=ZOp vc (λi g=>pp.ok i g (by simp)) p4
   let m9:∀ i,YG (VZ m.lv tf G) m.lv i=YG G m.lv i:=λi=>DX (λj hj=>by rw[gf j hj]) i
   let p1:∀ j∈m.lv,j≠n->(gd G j).bs=(gd m.ts j).bs:=λj _ z=>pp.sh j z;let n0:(gd G n).bs=bs:=by rw[e7];rfl
   let r4:∀ b∈XU m.ts n bs,1<=m.ho b:=λb e8=>h1 b (yN.mp e8).1 (of_decide_eq_true (yN.mp e8).2);let p3:∀ i∈m.lv,(a6.getD i .d).th≠hd/\(a6.getD i .d).ab≠hd:=λi g=>by
    exists ?_
    ·rcases A6.th i g with z | z
     ·rw[z];let⟨vs,e,_⟩:=(U3.sh.tw i g).things;exact a0 _ _ e
     ·exact(ZW i0 z).symm
    ·rw[A6.ab i g];exact a0 _ _ (U3.sh.tw i g).tw.above
   let p8:=Br (R6.like (ts':=VZ m.lv tf G) Yw gf) Y (a0 _ _ U3.sh.sh.looks) J.dd.1.symm J.dd.2.1.symm p3 q c9 c2;let l7:=J.l700;let r1:∀ i∈m.lv,(a6.getD i .d).th=(a.as.getD i .d).th\/H3 (a6.getD i .d).th=none:=λi g=>(A6.th i g).imp id λz=>I.free z;let a8:∀ i∈m.lv,∃ us,H3 (a.b i)=some (.lst us):=λi g=>by
    let⟨tp',p5,_,_,e,_⟩:=l.tw i g;exact⟨p5,e⟩
   let nb:n<a.bs.length:=by rw[l.len];exact l.vl.lt n hn
   let m4:∀ i,(a.bs.set n D).getD i 0=if i=n then D else a.b i:=λi=>Nx nb
   let m3:Xl a5 a.dT (VZ m.lv tf G) m.lv (a.bs.set n D) (Zs a4 (.inl (n:Int)) (.ref tp)):=by
    refine Do (us:=iN bs) (ts':=VZ m.lv tf G) l hn (GE vc) fl tu (λi g o e=>?_) (c5 _ _ i7) ?_ i8 (λz=>?_) (λz=>?_) λi g z=>?_
    ·let⟨p5,e'⟩:=a8 i g;have:=e.symm.trans e';cases this;exact i2 _ _ (λj hj=>(J.t3 i g).2.2 j hj) e
    ·rw[gf n hn,e7,FS];exact c5 _ _ e3
    ·rw[gf n hn,e7] at z;rw[th] at z;exact absurd z h0
    ·rw[gf n hn,e7];rfl
    ·rw[gf i g];exists pp.hh i,pp.sh i z;intro h;rw[pp.old i λy=>by have:=f2 i ((zB.mp y).resolve_left z);lia]
   refine k a5 { a with as:=a6,bs:=a.bs.set n D } ⟨VZ m.lv tf G,m.lv,Us m.ts n bs m.av,MK m.ts n bs m.ho⟩ (λc o nT np v e=>⟨?_,?_⟩) (ZT.ext e6 ⟨λb φ e=>Y _ _ (ZD e q) (ZD e c9) (ZD e c2) e,λb φ e=>Y _ _ (ZD e q) (ZD e c9) (ZD e c2) e⟩)
    ⟨⟨s1,ls,⟨p8,t4,GE vc,λi g=>by rw[m9];exact ZMm l.vl vc hn p1 n0 m.av U3.av i g,λi g=>by rw[m9,ZKw l.vl vc hn p1 n0 r4 i g];exact U3.live i g,by rw[fl];lia⟩,o5⟩,⟨_,m3⟩,⟨m0,m5,U⟩,⟨gs,G3.frame tu (i2 _ _ (λi g=>(J.t2 i g).2.2) G3.at_)⟩,?_,J.dd,J.tt,λi g=>?_,λi g=>?_,J.l64,by rw[fl];exact l7⟩ rfl rfl
   ·let⟨v1,v2,v3,v4,v5,v6,v7⟩:=v;exists v1,v2,v3,v4,v5,v6;intro i g;let⟨q1,q2⟩:=v7 i g;exact⟨λy=>q1 (y.trans (A6.x i g)),λy=>q2 (y.trans (A6.ab i g))⟩
   ·exact fr c o nT v.2.2.2.2.2.2 v.2.2.2.1 v.2.2.2.2.1 (x3 _ _ e np)
   ·show a5 a.tl=some (.lst (iN (zR (VZ m.lv tf G).length)));rw[fl];exact i2 _ _ (λi g=>(J.t2 i g).1) S3.told
   ·let⟨q1,q2,q3⟩:=J.t2 i g;refine⟨λy=>q1 (y.trans (A6.ab i g)),λy=>?_,λy=>q3 (y.trans (A6.ab i g))⟩;let y:a.tl=(a6.getD i .d).th:=y;rcases r1 i g with z | z
    ·exact q2 (y.trans z)
    ·rw[<-y,S3.told] at z;cases z
   ·show (a.bs.set n D).getD i 0≠a.tl/\(a.bs.set n D).getD i 0≠a.lk/\∀ j:Nat,j∈m.lv->(a.bs.set n D).getD i 0≠(a6.getD j .d).ab;rw[m4];by_cases z:i=n
    ·rw[aO z];exact⟨(c1 _ _ J.told).symm,(c1 _ _ R0.sh.looks).symm,λj hj=>by rw[A6.ab j hj];exact(c1 _ _ (R0.tw j hj).tw.above).symm⟩
    ·rw[aM z];let⟨q1,q2,q3⟩:=J.t3 i g;exact⟨q1,q2,λj hj=>by rw[A6.ab j hj];exact q3 j hj⟩
inductive XI(gt:jq):Sp
 |mk{p k j e:aj}{l:jr}{a:jp}{bs:jv}{g c:List (ZR×V)}{o:Nat->Nat}{m:je}{n:Nat}{H:Hp}{Q:VK}{E:XK}:
  ZJ H p->Xl H k l a bs g->(∀ i:Nat,i∈a->bs.getD i 0≠p)->WF gt l->H j=some (.dK c)->Wg c a o->UI gt H e m->e≠p->n∈a->a.length<64 ->
  (∀(d:Hp)(D:aj)(h:jp),ZH p H d->ZJ d p->H D=none->d D=some (.lst (iN h))->(∀ b∈h,b∈a)->h.length<=5->Q (.ref D) d)->XI gt [.ref p,.int (n:Nat),.ref k,.ref j,.ref e] H Q E
abbrev BY:js:=["_law_well_here","_law_number","_law_twigs","_law_holds","_law_grid_here","_law_label_here","_law_old","_law_some","_law_high","_law_one","_law_like","_law_found","_law_at","_law_most","_law_low","_law_top"]
def UN:ZA BY zEd (Ze IG):=Z4
inductive GJ(p dT dH gl ta A6 A7:aj)(n:Nat)(hg:Int)(lv:jp)(H6:Hp):Nat->L2.St->Hp->Prop
 |mk{i:Nat}{x9 x10:jf}{zs:je}{trs:jL}{H':Hp}:(∀ c o,H6 c=some o->c≠p->c≠A7->H' c=some o)->ZJ H' p->H' A7=some (.lst zs)->jU H' (trs.map XX) zs->(∀ t∈trs,∃ b:Nat,b∈lv/\t.2.2=(b:Int))->zs.length<=i ->
  GJ p dT dH gl ta A6 A7 n hg lv H6 i [some (.ref p),some (.int (n:Nat)),some (.ref dT),some (.ref dH),some (.ref gl),some (.ref ta),some (.ref A6),some (.ref A7),some (.int hg),x9,x10,none,none,none,none,none] H'
inductive Iv(p dT dH gl ta A6 A7 D:aj)(n:Nat)(hg ms:Int)(x10:jf)(lv:jp)(H:Hp):Nat->L2.St->Hp->Prop
 |mk{i:Nat}{x9 x14 x15:jf}{at':Int}{ns:jp}{H':Hp}:(∀ c o,c≠D->H c=some o->H' c=some o)->H' D=some (.lst (iN ns))->(∀ b∈ns,b∈lv)->ns.length<=5 ->
  Iv p dT dH gl ta A6 A7 D n hg ms x10 lv H i [some (.ref p),some (.int (n:Nat)),some (.ref dT),some (.ref dH),some (.ref gl),some (.ref ta),some (.ref A6),some (.ref A7),some (.int hg),x9,x10,some (.ref D),some (.int at'),some (.int ms),x14,x15] H'
def AY{gt:jq}(F:Zn K "_law_other_branches" "_law_other_branches" IG f fd)(T:YZ mg)(DP:ZC P w K mg kf 1 "_law_pull" zEe YQ)(DL:ZC P w K mg kf 2 "_law_label" zEb (Ya gt)):
  ZK P w K mg kf Zc 4 f fd zEd (XI gt):=by
 refine F.ko UN λp6 A o9 s H vs Q E hr h=>?_;let⟨W,LW,bp,hw,l7,hH,G,n9,hn,o5,k⟩:=h;rename_i p dT dH gl ts M bs i7 r4 ho gs n
 let R:=UN.nd;let hu:=WV hr;let a3:=hr.mono (show 1<=3 by lia)
 let i1:=hr.mono (show 2<=3 by lia)
 intro Xc;refine⟨_,ZN (Zo 5 R (Zk DL i1 (Zd (pv 2) (pv 1))))
  (ZN (Zo 6 R (XH Zt))
  (ZN (Zy (YJ Qq (Zi K (pv 5) ZM) ZM (Z3 _)) (ZV (Zo 6 R (Zi K (Xp hu (pv 2) (pv 1)) ZM))) Z0)
  (ZN (Zo 7 R (XH Zt))
  (ZN (Zo 8 R (Zu QP (Zi K (pv 5) ZM) (Zu MJ (Zk DP a3 (Zd (pv 0) ZM)) ZM)))
  (ZN (WU PassesOwn.never rfl (Xh (Zp (Qa rfl) rfl T.sorted Uk (ZX (pv 2)))) (Ye 9 R)
   (ZN (Zo 10 R (Zk DL i1 (Zd (pv 2) (pv 9))))
   (ZV (Zy (PW.pt (OM (YJ WT (Zu Xm (Zi K (pv 10) ZM) ZM) (pv 8) (Z3 _)) (Ou (PW.pt (VO (YJ (r:=PY K false) Gz (pv 9) (pv 6) rfl) (VO (YJ Qq (Xp hu (pv 3) (pv 9)) ZM (Z3 _)) (Uj (YJ WT (Zk DP a3 (Zd (pv 0) ZM)) ZM (Z3 _)))))))))
    (ZV (Zy (YJ P1 (Zk DP a3 (Zd (pv 0) ZM)) ZM (Z3 _))
     (ZV (Xu (Vn yJ xV xU V1 (pv 7) (ZX (Ym (NC (Na (K:=K) hr (pv 4) (ZX (Zi K (pv 10) ZM))) (Na (K:=K) hr (pv 4) (ZX (Zi K (pv 10) ZM))) (pv 9))))))) Z0)) Z0))))
  (ZN (Zo 11 R (XH Zt))
  (ZN (Zo 12 R (Pn Pr ZM))
  (ZN (Zo 13 R (Zu Xm (Zu Xm ZM (Zk DP a3 (Zd (pv 0) ZM))) (Zu MJ (Zk DP a3 (Zd (pv 0) ZM)) ZM)))
  (ZN (WU PassesOwn.never rfl (Xh (Zp (Iu i1) rfl T.sorted Uk (ZX (pv 7)))) (PM rfl (Y6 (Ye 14 R) (Y6 (Ye 15 R) (Y6 (Ye 9 R) Q2))))
   (ZV (Zy (PW.pt (OM (YJ Qq (pv 14) (pv 12) (Z3 _)) (Ou (YJ P1 (Zp X9 rfl T.len Xa (ZX (pv 11))) (pv 13) (Z3 _)))))
    (ZN (Xu (Vn yJ xV xU V1 (pv 11) (ZX (pv 9)))) (ZV (Zo 12 R (pv 15)))) Z0)))
  (ZV (Zq (pv 11)))))))))))),?_⟩
 let eI:(M.map λi:Nat=>(i:Int)).map V.int=iN M:=by rw[zO];rfl
 let⟨s9,l8⟩:=W.some;let N:∀ c,H c=none->c≠p:=λc e=>(ZW l8 e).symm;let l3:∀ t∈gt,t.depth<=100:=λt ht=>zE (Pb t 3 (G.fit t ht)) ∅
 let r5:=G.len;exists _,Z,_,Z,dT,n,ts,M,i7,Z,(LW.lawT hw G.len G.up).g,hn;intro H1 v s1 hv;let⟨ta,s5,s4,rfl,o2,_,_⟩:=hv;exists YA;intro q0 m4;let⟨H2,eU,g2,o1⟩:=VN m4 (.lst []);rw[eU];let s2:=s1.trans g2;let m1:=g2 _ _ o2;refine⟨_,Z,.inr (.inl ⟨ta,_,0,.int (YK (gd ts n)).h,rfl,rfl,Za.of m1,rfl,_,_,rfl,rfl,_,rfl,?_⟩)⟩;let⟨tp,s0,e1,e2,e3,e4,e5⟩:=(LW.same s2).tw n hn;refine Xj (λc=>?gT) (λc=>?gF)
 case' gF=>
  let e9:H2 q0=some (.lst (iN [])):=o1;let e7:q0≠p:=N _ (s1.free m4)
 case' gT=>
  let h0:(gd ts n).h≠0:=λz=>by
   have:=of_decide_eq_true c;unfold YK at this;dsimp only at this
   lia
  let ew:=e5 h0;subst ew;let e9:=e3;let e7:=bp n hn;refine⟨_,Z,_,Z,dT,.ref tp,Z,e1 ▸ Zg.k (k:=Sum.inl (n:Int)) (LW.same s2).dict,.inr (.inl ⟨tp,_,1,.ref (bs.getD n 0),rfl,rfl,Za.of e2,rfl,?_⟩)⟩
 all_goals
  exists YA;intro A7 i8;let⟨H3,eU,g3,l5⟩:=VN i8 (.lst []);rw[eU];let s3:=s2.trans g3;let o3:=g3 _ _ m1;let a5:H A7=none:=s2.free i8;let L:=N _ a5;let m8:=ZW e9 i8;refine⟨_,Z,.inr (.inl ⟨ta,_,0,.int (YK (gd ts n)).h,rfl,rfl,Za.of o3,rfl,_,rfl,p,6,rfl,W.same s3,Ws (by decide) (by decide),λr H4 r0 r1 W4 x4=>⟨_,_,rfl,rfl,⟨by decide,by decide⟩,_,_,rfl,rfl,?_⟩⟩)⟩
  let m6:ZH p H H4:=(ZH.of s3).trans x4;exists _,Z,dT,i7,M.map λi:Nat=>(i:Int),Z,(LW.sx W bp m6).dict,(by rw[LW.keys,zO];rfl),Ub LW.vl.up,by simpa using o5
  intro q nq;rw[eI];let g5:=Zb nq (.lst (iN M));let hq:upd H4 q (.lst (iN M)) q=some (.lst (iN M)):=ZP;let c9:=g5 _ _ (x4 _ _ l5 L);let c8:=g5 _ _ (x4 _ _ (g3 _ _ e9) e7);let W6:=W4.same g5;let l2:=m6.trans (ZH.of g5);let m9:q≠A7:=(ZW (x4 _ _ l5 L) nq).symm;let qp:q≠p:=λz=>by
   let⟨xs,e⟩:=W4.some;rw[z,e] at nq;cases nq
  generalize upd H4 q (.lst (iN M))=H6 at g5 hq c9 c8 W6 l2⊢;refine⟨q,Z,⟨_,ZF.of hq⟩,Ui (K:=K) (a:=q) (xs:=iN M) (GJ p dT dH gl ta _ A7 n _ M H6) (.mk (trs:=[]) (λc o e _ _=>e) W6 c9 .nil (λt ht=>absurd ht (by simp)) (zY _)) (λi σ H' _ hP=>?_) (λi u σ H7 i2 hP=>?_) (λσ H7 hP=>?_)⟩
  ·let⟨fr,_⟩:=hP;exact ZF.of (fr _ _ hq qp m9)
  ·let⟨fr,W7,O,i4,X,lz⟩:=hP;rename_i x9 p2 zs l1
   unfold iN at i2;rw[zM] at i2;let⟨b,eb,rfl⟩:=yK.mp i2;let bl:=zC eb;let il:i<M.length:=(yS.mp eb).1;let a6:ZH p H H7:=λc o e np=>fr c o (l2 c o e np) np (ZW e a5);exists _,Z,_,Z,dT,b,ts,M,i7,Z,((LW.sx W bp a6).lawT hw G.len G.up).g,bl;intro H8 v s8 hv;let⟨tb,lo,hi,rfl,a9,i6,i5⟩:=hv;let U:∀ c o,H6 c=some o->c≠p->c≠A7->H8 c=some o:=λc o e Y n2=>s8 _ _ (fr c o e Y n2);let W8:=W7.same s8;let m:=s8 _ _ O;let J:=i4.sm s8;let c6:=a6.trans (ZH.of s8);refine⟨_,Z,.inr (.inl ⟨tb,_,0,.int (YK (gd ts b)).h,rfl,rfl,Za.of a9,rfl,_,_,rfl,rfl,_,rfl,rfl,_,rfl,Xj (λc1=>?_) (λc1=>Zj (.mk U W8 m J X ∅))⟩)⟩
   exists _,Z,_,Z,_,_,Z,.inl (ZF.of (U _ _ c8 e7 m8)),Z,OP _,_,Z;let hg:Zg H8 dH (.int (b:Nat)) (some (.int (ho b:Nat))):=hH.2 b bl ▸ Zg.k (k:=Sum.inl (b:Int)) (c6 _ _ l7 (ZD l7 l8));let m5:=hw _ _ (Wd (LW.vl.lt _ bl));let⟨j1,p7,n7,o6⟩:=Nn G.up (MV m5).1;let⟨j2,p8,n8,o7⟩:=Nn G.up (MV m5).2;refine Xj (λc2=>Z6 ?_) (λc2=>⟨_,Z,_,Z,dH,.int (ho b:Nat),Z,hg,_,_,Z,Z,_,Z,Xj (λc3=>Z6 ?_) (λc3=>⟨_,Z,p,5,Z,W8,Ws (by decide) (by decide),λr' H9 p0 p1 W9 I=>⟨Z,_,Z,Xj (λc4=>?_) (λc4=>?_)⟩⟩)⟩)
   rotate_right
   ·refine .mk (λc o e Y n2=>I _ _ (U c o e Y n2) Y) W9 (I _ _ m L) (J.mono (I.tupsW W8) _ _) X ∅
   rotate_left 2
   let U:∀ c o,H6 c=some o->c≠p->c≠A7->H9 c=some o:=λc o e Y n2=>I _ _ (U c o e Y n2) Y;let n6:=W8;let W8:=W9;let m:=I _ _ m L;let c0:=I.tupsW n6;let J:=J.mono c0 _ _;let c6:=c6.trans I;let a9:=c0 _ _ a9;let i6:=i6.mono c0 _ _;let i5:=i5.mono c0 _ _
   all_goals
    refine⟨_,Z,p,4,Z,W8,Ws (by decide) (by decide),λr' a7 p0 p1 a8 B=>⟨_,_,Z,Z,_,Z,?_⟩⟩
    let x:=B.tupsW W8;let c7:∀ c o,H6 c=some o->c≠p->c≠A7->a7 c=some o:=λc o e Y n2=>B _ _ (U c o e Y n2) Y;let l:=B _ _ m L;let C:=J.mono x _ _;let m7:=c6.trans B;let a4:=x _ _ a9;let G':=G.sx W n9 m7;refine Xj (λc5=>?_) (λc5=>.mk c7 a8 l C X ∅)
    exists _,Z,.inl ⟨Z,_,ZF.of l⟩;refine⟨_,Z,.inl ⟨Z,_,ZF.of G'.at_⟩,_,Z,.inr (.inl ⟨tb,_,1,lo,rfl,rfl,Za.of a4,rfl,gl,gs,gt,lo,_,j1,rfl,rfl,G'.at_,G'.keys,i6.mono x _ _,l3,n7,o6,∅,?_⟩)⟩
    refine⟨_,Z,.inl ⟨Z,_,ZF.of G'.at_⟩,_,Z,.inr (.inl ⟨tb,_,2,hi,rfl,rfl,Za.of a4,rfl,gl,gs,gt,hi,_,j2,rfl,rfl,G'.at_,G'.keys,i5.mono x _ _,l3,n8,o7,∅,?_⟩)⟩
    exists _,Z,YA;intro tq o8;let g:=Zb o8 (.tup [.int (j1:Nat),.int (j2:Nat),.int (b:Nat)]);let a0:=g _ _ l;exists A7,zs,.ref tq,Z,Z,a0,YO ∅
    let tD:YR (upd a7 tq (.tup [.int (j1:Nat),.int (j2:Nat),.int (b:Nat)])) (upd (upd a7 tq (.tup [.int (j1:Nat),.int (j2:Nat),.int (b:Nat)])) A7 (.lst (zs++[.ref tq]))):=λc xs e=>by rw[ZO (ZD e a0)];exact e
    refine .mk (trs:=l1++[((j1:Int),(j2:Int),(b:Int))]) (λc o e Y n2=>by rw[ZO n2];exact g _ _ (c7 c o e Y n2)) (by
     let⟨a1,b1,c1,d1,i3,rr⟩:=(a8.same g).ex;exact⟨a1,b1,c1,d1,by rw[ZO (Ne.symm L)];exact i3,rr⟩) ZP ?_ (λt ht=>?_) (by rw[yV,xN];lia)
    ·rw[yO];exact((C.sm g).mono tD _ _).append (.cons (.tup (tD _ _ ZP) (.cons (.int _) (.cons (.int _) (.cons (.int _) .nil)))) .nil)
    ·rcases yX.mp ht with h | h
     ·exact X t h
     ·rw[zI.mp h];exact⟨b,bl,Z⟩
  ·let⟨fr,W7,O,i4,X,lz⟩:=hP;rename_i x9 p2 zs l1
   let lI:(iN M).length=M.length:=zX _;let a6:ZH p H H7:=λc o e np=>fr c o (l2 c o e np) np (ZW e a5);exists YA;intro D nD;let g8:=Zb nD (.lst []);let hD:upd H7 D (.lst []) D=some (.lst []):=ZP;let i9:H D=none:=by
    cases z:H D with
    | none=>rfl
    | some o=>
     by_cases y:D=p
     ·let⟨xs,e'⟩:=W7.some;rw[y,e'] at nD;cases nD
     ·rw[a6 _ _ z y] at nD;cases nD
   let Dp:=N _ i9;generalize upd H7 D (.lst [])=H8 at g8 hD⊢;let W8:=W7.same g8;let m:=g8 _ _ O;let p4:A7≠D:=ZW O nD;refine⟨_,Z,_,Z,p,2,Z,W8,Ws (by decide) (by decide),λr2 H9 r6 r7 W9 I=>⟨_,_,Z,Z,_,Z,p,8,Z,W9,Ws (by decide) (by decide),λr3 a7 r8 r9 a8 B=>⟨_,_,Z,Z,⟨by decide,by decide⟩,_,_,Z,Z,?_⟩⟩⟩
   let S:=I.trans B;let x:=S.tupsW W8;let l:=S _ _ m L;let e0:=S _ _ hD Dp;let C:=(i4.sm g8).mono x _ _;exists _,Z,A7,zs,l1,Z,l,C,by lia
   intro Ds ws rs n3 l0 m3 l6 o4 i0;let n4:=a8.same l0;let e6:=l0 _ _ e0;let n0:Ds≠D:=λz=>by rw[z,e0] at m3;cases m3
   refine⟨Ds,Z,⟨_,ZF.of l6⟩,Ui (K:=K) (a:=Ds) (xs:=ws) (Iv p dT dH gl ta _ A7 D n _ _ _ M n3) (.mk (ns:=[]) (λc o _ e=>e) e6 (λb hb=>by cases hb) (by simp)) (λi σ H' _ hP=>?_) ?_ ?_⟩
   ·let⟨k',_⟩:=hP;exact ZF.of (k' _ _ n0 l6)
   ·rintro i u σ e8 m2 ⟨d,j,a2,l4⟩;rename_i p3 s6 s7 p5 ns
    let⟨t,pa,mt,rfl,l9⟩:=FQ o4 m2;let⟨b,hb,eb⟩:=X t (i0.subset mt);let m0:=d _ _ (ZD l9 e6) l9;exists pa,_,Z,Za.of m0,Z,_,_,Z,_,_,Z,_,_,Z,Z;refine⟨_,Z,_,Z,_,_,Z,Z,_,Z,Xj (λc1=>?_) (λc1=>?_)⟩
    ·refine⟨_,Z,D,_,Z,.inl (ZF.of j),_,Z,_,_,Z,Z,_,Z,Xj (λc2=>?_) (λc2=>?_)⟩
     ·let p9:ns.length<5:=by
       have:=of_decide_eq_true c2;simp[iN] at this
       lia
      exists _,Z,.inl ⟨Z,_,ZF.of j⟩,_,Z,D,_,_,Z,Z,j,YO (by simp[iN];lia)
      refine⟨_,Z,.mk (ns:=ns++[b]) (λc o n e=>by rw[ZO n];exact d _ _ n e) ?_ (λb' o0=>?_) (by simp;lia)⟩
      ·rw[ZP,eb];simp[iN]
      ·rcases yX.mp o0 with h | h
       ·exact a2 b' h
       ·rw[zI.mp h];exact hb
     ·exact .mk d j a2 l4
    ·exact .mk d j a2 l4
   ·rintro σ e8 ⟨d,j,a2,l4⟩;let n5:ZJ e8 p:=by
     let⟨a1,b1,c1,d1,i3,rr⟩:=n4.ex;exact⟨a1,b1,c1,d1,d _ _ (Ne.symm Dp) i3,rr⟩
    exact⟨_,Z,k e8 D _ (λc o e n=>d _ _ (ZW e i9) (l0 _ _ (S _ _ (g8 _ _ (a6 _ _ e n)) n))) n5 i9 j a2 l4⟩
def AE{J:It}{A:jp}{C:L2.St}{H:Hp}{B:TT}{Q:VK}(c:jp)(L:c.length<=900)(r:∀ i a,ZB H a->i<c.length->J.go i a)(I:∀ i a x h,ZB H a->i<c.length->J.yld i a x h->h=a/\(iN c)[i]? = some x)(f:∀ a,ZB H a->J.stop c.length a)(k:∀ a n (R:Bool->Hp->Prop),n∈c->ZB H a->(∀ b h,ZB a h->R b h)->B (P0 C A (.int (n:Nat))) a R)(o:∀ (D:aj) (a:Hp) (l:jp),ZB H a->H D=none->a D=some (.lst (iN l))->(∀ b∈l,b∈c)->l.length<=c.length->Q (.ref D) a):WH J C A B (UC 0) H Q:=by
 intro D p;exists λi m a=>m=c.length-i/\i<=c.length/\∃ l:jp,a D=some (.lst (iN l))/\l.length<=i/\(∀ b∈l,b∈c)/\ZB H a,⟨c.length,rfl,yW _,[],ZP,zY _,λb j=>(by cases j),Zb p _⟩
 rintro i m a ⟨rfl,K,l,e,v,j,g⟩;by_cases d:i<c.length
 ·refine .inr ⟨r i a g d,λx E y=>?_⟩;let⟨rfl,s⟩:=I i a x E g d y;unfold iN at s;rw[zM] at s;let⟨n,G,rfl⟩:=yK.mp s;let w:=zC G;refine k _ n _ w g λb h t=>?_;let u:=t _ _ e
  cases b with
  | true=>
   refine Z6 ⟨_,Z,iN l,c.length-(i+1),u,YO (by rw[zX];lia),∅,Z,d,l++[n],by rw[ZP];simp[iN],by rw[yV,xN];lia,λb q=>?_,UO (g.trans t) p⟩
   rcases yX.mp q with z | z
   ·exact j b z
   ·rw[zI.mp z];exact w
  | false=>exact Zj ⟨c.length-(i+1),∅,Z,d,l,u,uX v,j,g.trans t⟩
 ·let F:i=c.length:=∅
  subst F;exact .inl ⟨f a g,o D a l g p e j v⟩
inductive Xe(gt:jq)(jg jh T:aj)(c:je)(H:Hp)(Q:VK)(_:XK):Prop
 |mk(p b:aj)(a:Pl)(m:Md)(_:c=[.ref p,.ref b])(_:ZJ H p)(_:H b=some (.tup (X8 a)))(_:LS gt jg jh H a m)(_:WY a m p)(_:0<m.lv.length)(_:ZT H T qC)(_:JE gt jg jh T p H a m Q)
def GO(K:zZ):je->Hp->VK->Prop:=λb H Q=>∃(p:aj)(a:jw),b=[.ref p]/\ZF K H p (a.map V.int)/\a≠[]/\∀ m,m∈a->(∀ x∈a,x<=m)->Q (.int m) H
def ZJ6{X:Cx}{K:zZ}(hc:X.calm=true)(hK:X.K=K:=by rfl):Wq X (.builtin "max") (GO K):=by
 subst hK;exact IO hc
def ZIc{A:aw}{outer:jB}{s:ak}{Hs:Hp}{E:XK}{gt:jq}{CB:aj}{C:Nat->aj}{c T f3 f4 f5:aj}(CC:xY kf c T)(c6:kf.BuiltinsAt mg T)(X:YZ mg)(L:Yj K mg jg jh)(X2:XC K CB C 2)(X3:XC K CB C 3)(X4:XC K CB C 4)(X5:XC K CB C 5)(F3:YC K (C 3) f3 "number")(F4:YC K (C 4) f4 "number")(F5:YC K (C 5) f5 "number")(DM:ZI P w K mg kf (YL P w) 11 jg "change_stem" zEm (YB gt jg jh (C 2) (C 3) (C 4) (C 5)))(DQ:ZC P w K mg kf 71 "_law_asked" zE2 (YU P w K mg kf CB C))(DD:ZC P w K mg kf 10 "_law_stem_due" zEg (YY gt))(a9:ZC P w K mg kf 7 "_law_alike" zEc (YN 6))(DP:ZC P w K mg kf 1 "_law_pull" zEe YQ)(DK:ZC P w K mg kf 2 "_law_picked" zEk Yc)(DO:ZC P w K mg kf 4 "_law_other_branches" zEd (XI gt))(hr:ZZ 71 (A.deeper (envOfC "_law_change_stem" (Ze Wy) s.heap.objs.size f (.ref c)))):
  ∃ t,WC (VI Zc P w K mg kf Jd "_law_change_stem" (Ze Wy) f (.ref c) A outer s Hs E) ((Xk Wy).drop 3) t /\
   ∀(H I:Hp)(Q:VK)(p st M:aj)(a:Pl)(m:Md)(F:jp),ZJ H p->LS gt jg jh H a m->WY a m p->ZT H T qC->ZH p H I->ZJ I p->M≠p->I M=some (.lst (iN F))->0<F.length->F.length<=900->(∀ b∈F,b∈m.lv)->0<m.lv.length->JE gt jg jh T p H a m Q ->
    t { nx:=λ_ H'=>Q .non H',rt:=Q } [some (.ref p),some (.ref st),some (.ref a.S),some (.ref a.dT),some (.ref a.dH),some (.ref a.gl),some (.ref a.tl),some (.ref M),none,none,none,none,none,none] I:=by
 let⟨t6,h6,q6⟩:=ZKW (Hs:=Hs) (outer:=outer) (E:=E) CC c6 X L X2 X3 X4 X5 F3 F4 F5 DM DQ DD a9 hr;let nd:=UU.nd;let c9:=hr.mono (show 1<=71 by lia)
 let a2:=hr.mono (show 2<=71 by lia)
 let e0:=hr.mono (show 4<=71 by lia)
 refine⟨_,ZN (Q9 (i:=8) nd rfl (Or.inr rfl) (Zk DK a2 (Zd (pv 0) (pv 7))))
  (ZN (Zo 9 nd (Zk DO e0 (UG (pv 0) (UG (pv 8) (UG (pv 3) (Zd (pv 4) (pv 5)))))))
  (ZN (Zy (YJ WT (Zk DP c9 (Zd (pv 0) ZM)) ZM (Z3 _)) (ZV (ON (i:=9) [0,3,6] ["_law_well_here","_law_twigs","_law_told"] nd rfl rfl rfl (P3 rfl X.range (ZX ZM)) (λ_ _ _ _ _=>V4) (λ_ _ _ _ _=>Zk DK a2 (Zd (pv 1) (Zu NU (Zp (Qa rfl) rfl X.sorted Uk (ZX (pv 2))) (XH (ZX (Zu Xm (Zp (r:=GO K) (ZJ6 rfl) rfl X.max NK (ZX (pv 3))) ZM)))))) ⟨rfl,.inl rfl,rfl,rfl,.inl rfl,rfl,rfl,.inl rfl,rfl,trivial⟩)) Z0) h6)),λH I Q p st M a m F W J O a6 x3 W3 e3 c5 l0 a4 c8 e2 k=>?_⟩
 let⟨i5,B⟩:=W.some;let N:∀ c,H c=none->c≠p:=λc e=>(ZW B e).symm;let d:∀(l:Hp)(q:aj),ZH p H l->ZJ l p->l q=none->H q=none:=λl q x6 W6 e=>by
  cases z:H q with
  | none=>rfl
  | some o=>
   by_cases y:q=p
   ·subst y;let⟨xs,e'⟩:=W6.some;rw[e'] at e;cases e
   ·rw[x6 _ _ z y] at e;cases e
 let eI:((zR m.ts.length).map λi:Nat=>(i:Int)).map V.int=iN (zR m.ts.length):=by rw[zO];rfl
 let eL:(m.lv.map λi:Nat=>(i:Int)).map V.int=iN m.lv:=by rw[zO];rfl
 let e1:0<m.ts.length:=by
  let⟨i,v⟩:=vA e2;have:=J.lt v
  lia
 let a3:=J.l64;exists _,Z,_,Z,p,M,iN F,Z,W3,e3,c5,by rw[zX];exact l0,by rw[zX];exact a4
 intro x H4 x4 W4 hx;let⟨n,bn,rfl⟩:=zJ.mp hx;let hn:=c8 n bn;let Y:=x3.trans x4;let S4:=J.sx O B Y;let⟨e5,u⟩:=S4.lw;let⟨i3,c7,c4⟩:=S4.hd;let⟨gs,G4⟩:=S4.gr;refine⟨_,Z,_,Z,_,Z,_,Z,_,Z,.mk W4 u (λi v=>(O.tw i v).2.2) J.wf c7 c4 G4 O.gl hn a3 λH5 D bs x5 W5 nD hD i0 l5=>?_⟩;let a5:H D=none:=d _ D Y W4 nD;let a7:=Y.trans x5;refine⟨_,Z,p,8,Z,W5,Ws (by decide) (by decide),λr l r0 r1 W6 x6=>⟨Z,_,Z,Xj (λc=>?_) (λc=>?_)⟩⟩
 ·let a0:=a7.trans x6;let G:∀ c,l c=none->c≠p:=λc e z=>by
   let⟨xs,e'⟩:=W6.some;rw[z,e'] at e;cases e
  refine⟨2,Z,∅,∅,Vv (n:=2) (λi z=>z=.int (0+(i:Int))) (λD i ys H'=>ZH p l H'/\ZJ H' p/\l D=none/\∃ F:jw,ys=F.map V.int/\F.length<=i) (YO ∅)
   (λD i ys I v _=>v) (λD i ys I x H4 v _ hy=>hy) (λD ys I _=>zY _) (λD hD=>⟨ZH.of (Zb hD _),W6.same (Zb hD _),hD,[],Z,zY _⟩) (λD2 i ys H' z eD i1 v hz hP R hR=>?_) (λLR ys H7 eD hP=>?_)⟩
  ·let⟨s',W',g,zs,rfl,i4⟩:=hP;let xx:=a0.trans s';exists _,Z,_,Z,a.dT,e5,m.lv.map λi:Nat=>(i:Int),Z,(by let⟨e8,e9⟩:=(J.sx O B xx).lw;exact(u.sx W4 (λi v=>(O.tw i v).2.2) ((x5.trans x6).trans s')).dict),(by rw[u.keys,zO];rfl),Ub u.vl.up,by simpa using a3
   intro q nq;rw[eL];let⟨H8,eU,g8,hq⟩:=VN nq (.lst (iN m.lv));rw[eU];let x8:=xx.trans (ZH.of g8);let U:=(J.sx O B x8).told;refine⟨_,Z,a.tl,(zR m.ts.length).map (λi:Nat=>(i:Int)),Z,ZF.of (by rw[eI];exact U),sC (by rw[zX,uK];exact e1),λmx i2 e6=>⟨_,_,Z,Z,YA,λl9 n9=>?_⟩⟩
   let g9:=Zb n9 (.lst [.int (mx+1)]);exists q,l9,_,_,Z,Z,g9 _ _ hq,ZP,xX (YO (by simp[iN];lia))
   intro q2 n2;let c3:=Zb n2 (.lst (iN m.lv++[.int (mx+1)]));let j:=(g8.trans g9).trans c3;let c1:=W'.same j;let e4:q2≠p:=λz=>by
    let⟨xs,e'⟩:=(W'.same (g8.trans g9)).some;rw[z,e'] at n2;cases n2
   exists p,q2,_,Z,c1,e4,ZP,by simp,by simp[iN];lia
   intro x c0 a8 c2 hx;obtain⟨y,rfl⟩:∃ y:Int,x=.int y:=by
    rcases yX.mp hx with h | h
    ·let⟨b,_,rfl⟩:=zJ.mp h;exact⟨_,Z⟩
    ·exact⟨_,zI.mp h⟩
   let Dp:=G _ g;refine hR _ c0 (a8 _ _ (j _ _ eD) Dp) ⟨λc o e n=>by rw[ZO (ZW e g)];exact a8 _ _ (j _ _ (s' _ _ e n)) n,ME c2 (λo e=>by rw[ZO (Ne.symm Dp)];exact e),g,zs++[y],by simp,by simp;lia⟩
  ·let⟨s',W7,g,zs,rfl,e7⟩:=hP;exact q6 H H7 Q p st M LR a m n zs W J O a6 (a0.trans s') (d _ LR a0 W6 g) eD ∅ hn k
 ·let eN:iN bs=(bs.map λb:Nat=>(b:Int)).map V.int:=by rw[zO];rfl
  let a1:=x6 _ _ hD (N _ a5);rw[eN] at a1;exact q6 H l Q p st M D a m n _ W J O a6 (a7.trans x6) a5 a1 (by rw[zX];lia) hn k
def Ew{gt:jq}{I:aj}{C:Nat->aj}{c T f3 f4 f5:aj}(F:Zn K "_law_change_stem" "_law_change_stem" Wy f fd)(hf:zN K ao "_law_change_stem" = some (some (.ref f)))(a0:yF K "_law_change_stem" = some (c,T))(CC:xY kf c T)(a3:kf.BuiltinsAt mg T)(X:YZ mg)(L:Yj K mg jg jh)(X2:XC K I C 2)(X3:XC K I C 3)(X4:XC K I C 4)(X5:XC K I C 5)(F3:YC K (C 3) f3 "number")(F4:YC K (C 4) f4 "number")(F5:YC K (C 5) f5 "number")(DM:ZI P w K mg kf (YL P w) 11 jg "change_stem" zEm (YB gt jg jh (C 2) (C 3) (C 4) (C 5)))(DQ:ZC P w K mg kf 71 "_law_asked" zE2 (YU P w K mg kf I C))(DD:ZC P w K mg kf 10 "_law_stem_due" zEg (YY gt))(a2:ZC P w K mg kf 7 "_law_alike" zEc (YN 6))(DP:ZC P w K mg kf 1 "_law_pull" zEe YQ)(DK:ZC P w K mg kf 2 "_law_picked" zEk Yc)(DO:ZC P w K mg kf 4 "_law_other_branches" zEd (XI gt)):
  ZK P w K mg kf Zc 72 f fd zEf (Xe gt jg jh T):=by
 refine F.okC hf a0 UU (λvs H Q E h=>(by let⟨_,_,_,_,rfl,_⟩:=h;rfl)) (λA y s H vs Q E Y h=>?_)
 let⟨p,st,a,m,rfl,W,a8,o,O,l0,B,k⟩:=h;let⟨tT,hT,qT⟩:=ZIc (Hs:=H) (outer:=y) (E:=E) CC a3 X L X2 X3 X4 X5 F3 F4 F5 DM DQ DD a2 DP DK DO Y;let v:=UU.nd;let hu:=WV Y;let a7:=Y.mono (show 1<=71 by lia)
 let c2:=Y.mono (show 2<=71 by lia)
 refine⟨_,ZN (Q5 (pv 1) (PM rfl (Y6 (Qo (i:=2) v rfl (Or.inr rfl)) (Y6 (Qo (i:=3) v rfl (Or.inr rfl)) (Y6 (Ye 4 v) (Y6 (Ye 5 v) (Y6 (Qo (i:=6) v rfl (Or.inr rfl)) Q2)))))))
  (ZN (ON (i:=7) [3] ["_law_twigs"] v rfl rfl rfl (Xh (Zp (Qa rfl) rfl X.sorted Uk (ZX (pv 3)))) (λ_ _ _ _ _=>OB (YJ WT (Zi K (Xp hu (pv 1) (pv 0)) ZM) Yn (Z3 _))) (λ_ _ _ _ _=>pv 0) ⟨rfl,.inl rfl,rfl,trivial⟩)
  (ZN (Zy (PW.pt (VO (YJ WT (Zk DP a7 (Zd (pv 0) ZM)) ZM (Z3 _)) (Uj (YJ (MC Y.units0) (pv 7) (XH Zt) (Z3 _))))) (ZV (Zo 7 v (Zp (Qa rfl) rfl X.sorted Uk (ZX (pv 3))))) Z0) hT)),?_⟩
 let⟨c6,a6⟩:=W.some;let⟨c4,ls,U,c0⟩:=o.sh;let⟨D,n⟩:=o.lw;let⟨c3,c1,hH⟩:=o.hd;let⟨gs,G⟩:=o.gr;let bp:∀ i:Nat,i∈m.lv->a.bs.getD i 0≠p:=λi hi=>(O.tw i hi).2.2;let u:=o.l64;let g:∀ c,H c=none->c≠p:=λc e=>(ZW a6 e).symm;let eL:(m.lv.map λi:Nat=>(i:Int)).map V.int=iN m.lv:=by rw[zO];rfl
 exists _,Z,st,_,Z,Za.of a8,Z,_,_,Z,_,_,Z,_,_,Z,_,_,Z,_,_,Z,Z;exists _,Z,a.dT,D,m.lv.map λi:Nat=>(i:Int),Z,n.dict,(by rw[n.keys,zO];rfl),Ub n.vl.up,by simpa using u
 intro q nq;rw[eL];let⟨H1,eU,g1,hq⟩:=VN nq (.lst (iN m.lv));rw[eU];refine⟨q,Z,⟨_,ZF.of hq⟩,AE m.lv ∅ (λi J t hi=>⟨_,.int (m.lv[i]:Nat),ZF.of (t _ _ hq),by simp[iN,zV hi]⟩) (λi J x H4 t hi hy=>⟨hy.1,hy.2 _ (ZF.of (t _ _ hq))⟩) (λJ t=>⟨_,ZF.of (t _ _ hq),by simp[iN]⟩) (λH2 j R hj s2 hR=>?_) (λD5 H2 l s2 a9 e5 a5 c5=>?_)⟩
 ·let⟨tp,tl,ws,q1,e2,_⟩:=((n.same (g1.trans s2)).lawT o.wf G.len G.up).get hj;exact⟨_,Z,_,Z,a.dT,.ref tp,Z,q1,.inr (.inl ⟨tp,_,0,_,rfl,rfl,Za.of e2,rfl,rfl,_,rfl,hR _ H2 (ZB.refl H2)⟩)⟩
 let a1:=g1.trans s2;let n5:H D5=none:=ZB.free g1 a9;refine⟨_,Z,p,8,Z,W.same a1,Ws (by decide) (by decide),λr J r0 r1 W3 t=>⟨Z,_,Z,?_⟩⟩
 let x3:ZH p H J:=(ZH.of a1).trans t;let M:=t _ _ e5 (g _ n5);refine Xj (λc=>Z6 ?_) (λc=>?_)
 ·exists _,Z,a.dT,D,m.lv.map λi:Nat=>(i:Int),Z,(n.sx W bp x3).dict,(by rw[n.keys,zO];rfl),Ub n.vl.up,by simpa using u
  intro q2 d;rw[eL];let S:=Zb d (.lst (iN m.lv));refine qT H _ Q p st q2 a m m.lv W o O B (x3.trans (ZH.of S)) (W3.same S) (λz=>?_) ZP l0 ∅ (λb hb=>hb) l0 k
  let⟨xs,e'⟩:=W3.some;rw[z,e'] at d;cases d
 ·exists _,Z,YA;intro e0 a4;let g0:=Zb a4 (.lst []);exists D5,e0,iN l,Z,Z,ZF.of (g0 _ _ M),ZF.of ZP,_,Z;let N:=g0 _ _ M;let W4:=W3.same g0;let x4:=x3.trans (ZH.of g0);generalize upd J e0 (.lst [])=H4 at N W4 x4⊢
  cases l with
  | nil=>
   refine Z6 ⟨_,Z,a.dT,D,m.lv.map λi:Nat=>(i:Int),Z,(n.sx W bp x4).dict,(by rw[n.keys,zO];rfl),Ub n.vl.up,by simpa using u,λq2 d=>?_⟩
   rw[eL];let S:=Zb d (.lst (iN m.lv));refine qT H _ Q p st q2 a m m.lv W o O B (x4.trans (ZH.of S)) (W4.same S) (λz=>?_) ZP l0 ∅ (λb hb=>hb) l0 k
   let⟨xs,e'⟩:=W4.some;rw[z,e'] at d;cases d
  | cons j l=>
   refine Zj ?_;exact qT H _ Q p st D5 a m (j::l) W o O B x4 W4 (g _ n5) N (by simp) ∅ a5 l0 k
def Gp{K:zZ}:yP K (.type "list") (.type "list")=some true:=by kernel_rfl
def FC{gt:jq}{a:jr}{b:jp}{ho:Nat->Nat}(k:WF gt a)(f:Lv a b):∀(n j:Nat),j∈b->VQ a (gd a j).h<n->∃ o,Sh a b ho j o
 | 0,j,l,h=>absurd h (Nat.not_lt_zero _)
 | n+1,j,l,h=>by
  by_cases c:(YG a b j).length+ho j=1
  ·cases e:YG a b j with
   | nil=>exact⟨none,.top c e⟩
   | cons i r=>
    let d:=OW k f (i:=j) (j:=i) (by rw[e];exact zP)
    let m:=f.lt i d.2;let⟨o,g⟩:=FC k f n i d.2 (by have:=Mi m d.1;lia)
    exact⟨o,.up c e g⟩
  ·exact⟨some j,.here c⟩
def P6(t:ZL):jq:=if t.h=0 then Y2 t.rows else t.bs.map λb:Nat=>KT.int (b:Nat)
def Mn{H:Hp}:∀(l:jp),jU H (l.map λb:Nat=>KT.int (b:Nat)) (iN l)
 | []=>.nil
 | b::l=>.cons (.int _) (Mn l)
def Gv{H:Hp}{t:ZL}{a:je}(b:t.h=0->jU H (Y2 t.rows) a)(d:t.h≠0->a=iN t.bs):jU H (P6 t) a:=by
 unfold P6;by_cases c:t.h=0
 ·rw[aO c];exact b c
 ·rw[aM c,d c];exact Mn _
def HE(l:jp)(h:l.length<=100):(KT.tup (l.map λb:Nat=>KT.int (b:Nat))).wide 5=true:=by
 rw[KT.wide,NR];have:(l.map λb:Nat=>KT.int (b:Nat)).all (·.wide (5-1))=true:=by
  rw[wF];exact zF.mpr λ_ _=>by simp[KT.wide]
 rw[this,zX,aK h];rfl
def D8{gt:jq}{f:jr}{i:Nat}{t:ZL}(a:Zz gt f i t):(KT.tup (P6 t)).wide 5=true:=by
 unfold P6;by_cases c:t.h=0
 ·rw[aO c];let g:=(a.leaf c).2;rw[KT.wide,NR];have:(Y2 t.rows).all (·.wide (5-1))=true:=by
   unfold Y2;rw[wF];refine zF.mpr λr e=>?_;let⟨b,d⟩:=(a.inn r e).2;show (KT.tup [r.1,r.2]).wide 4=true;rw[KT.wide,NR];simp[Nr _ 3 b,Nr _ 3 d]
  rw[this,show (Y2 t.rows).length=t.rows.length from zX _,aK (show t.rows.length<=100 by lia)]
  rfl
 ·rw[aM c];have:=(a.stem c).2.1;exact HE _ ∅
def AI{L:YW}(h:L.fit):L.kt.wide 5=true:=by
 unfold YW.kt;let a:=Nr _ 4 (KA _ 3 4 h.1 (uX (Pb _ 3 h.1)));let b:=Nr _ 4 (KA _ 3 4 h.2 (uX (Pb _ 3 h.2)));rw[KT.wide,NR];simp[KT.wide,a,b]
inductive X1(gt:jq)(jg jh:aj)(e:je)(H:Hp)(Q:VK)(_:XK):Prop
 |mk(a:Pl)(m:Md)(_:e=[.ref a.S,.ref a.dT,.ref a.dH])(_:LS gt jg jh H a m)(_:∀(b:Hp)(d:Pl),(∀ c o,H c=some o->Zm a m c->Zm d m c/\b c=some o)->(∀ T q,ZT H T q->ZT b T q)->LS gt jg jh b d m->X8 d=X8 a->Q (.bl true) b)
abbrev ZPH:js:=["_law_shelf","_law_twigs","_law_holds","_law_numbers","_law_number","_law_kind","_law_what","_law_seen","_law_found"]
def Ua:ZA ZPH zEs (Ze Lp):=Z4
def E5{gt:jq}(F:Zn K "_law_exact" "_law_exact" Lp f fd)(T:YZ mg)(L:Yj K mg jg jh)(DN:ZI P w K mg kf Zc 1 jg "numbers" zEq (Xf jg))(DY:ZI P w K mg kf Zc 1 jg "many" zEq (UD jg))(n8:ZI P w K mg kf Zc 2 jg "look" zEa (Qd jg jh))(n7:ZI P w K mg kf Zc 2 jg "label" zEa (VE jg jh λtg _ _=>tg))(n9:ZI P w K mg kf Zc 2 jg "outside" zEa (VE jg jh λ_ ho _=>.int ho))(n5:ZI P w K mg kf Zc 2 jg "holders" zEa (VE jg jh λ_ ho us=>.int ((us.length:Nat)+(ho:Nat):Int)))(m9:ZI P w K mg kf Zc 4 jg "alone" zEa (VA gt jg jh))(n0:ZI P w K mg kf Zc 1 jg "forget" zEq (WB jg jh))(c2:ZC P w K mg kf 7 "_law_alike" zEc (YN 6))(c3:ZC P w K mg kf 1 "_law_count" zEc VJ)(n6:ZC P w K mg kf 2 "_law_label" zEb (Ya gt))(m8:ZC P w K mg kf 1 "_law_above" zEb (XQ gt))(o0:ZC P w K mg kf 2 "_law_shared" zEl (XR gt)):
  ZK P w K mg kf Zc 8 f fd zEs (X1 gt jg jh):=by
 refine F.ko Ua λt6 A r3 s H vs Q E hr h=>?_;let⟨a,m,rfl,z,k⟩:=h;let nd:=Ua.nd;let hu:=WV hr;let M:=hr.mono (show 1<=7 by lia)
 let Y:=hr.mono (show 2<=7 by lia)
 let p4:=hr.mono (show 4<=7 by lia)
 intro Xc;refine⟨_,ZN (Zo 3 nd (Mp (E:=E0) (pv 0) L.cS DN M Yv))
  (ZN (Zy (PW.pt (VO (XT (Yk (Zp Xx rfl T.isi XG (Zd (pv 3) (Xw (v:=.ty "list") rfl T.list Up rfl))))) (Uj (XT (Yk (Zk c2 hr (Zd (Wt NG rfl T.tuple Qr (ZX (pv 3))) (Wt NG rfl T.tuple Qr (ZX (Zp (Qa rfl) rfl T.sorted Uk (ZX (pv 1)))))))))))) WW Z0)
  (ZN (Zy (XT (Yk (Zk c3 M (Zd (Mp (E:=E0) (pv 0) L.cS DY M Yv) (Zp K9 rfl T.len Xa (ZX (pv 1))))))) WW Z0)
  (ZN (WU PassesOwn.never rfl (Xh (pv 3)) (Ye 4 nd)
   (ZN (Q5 (Xp hu (pv 1) (pv 4)) (PM rfl (Y6 (Ye 5 nd) (Y6 (Ye 6 nd) Q2))))
   (ZN (Zo 7 nd (Yp (E:=E0) (pv 0) L.cS n8 Y Yv (ZX (pv 4))))
   (ZN (Zy (PW.pt (VO (XT (Yk (Zp Xx rfl T.isi XG (Zd (pv 7) (Xw (v:=.ty "tuple") rfl T.tuple Qr rfl))))) (VO (YJ Qs (Zp X9 rfl T.len Xa (ZX (pv 7))) ZM (Z3 _)) (VO (YJ Qs (Zi K (pv 7) ZM) (pv 5) (Z3 _))
    (Uj (XT (Yk (Zp Xx rfl T.isi XG (Zd (Zi K (pv 7) ZM) (Xw (v:=.ty "list") rfl T.list Up rfl)))))))))) WW Z0)
   (ZN (Zy (XT (Yk (Zk c2 hr (Zd (Wt NG rfl T.tuple Qr (ZX (Zi K (pv 7) ZM))) (Wt NG rfl T.tuple Qr (ZX (pv 6))))))) WW Z0)
   (ZN (Zy (XT (Yk (Zk c2 hr (Zd (Yp (E:=E0) (pv 0) L.cS n7 Y Yv (ZX (pv 4))) (Zk n6 Y (Zd (pv 1) (pv 4))))))) WW Z0)
   (ZN (Xu (N4 yJ tZ tY LC (Zi K (pv 7) ZM)))
   (ZN (Zy (XT (Yk (Zk c3 M (Zd (Yp (E:=E0) (pv 0) L.cS n9 Y Yv (ZX (pv 4))) (Xp hu (pv 2) (pv 4)))))) WW Z0)
   (ZN (Zy (XT (Yk (Zk c3 M (Zd (Yp (E:=E0) (pv 0) L.cS n5 Y Yv (ZX (pv 4))) (Zu Xm (Xp hu (pv 2) (pv 4)) (Zp X9 rfl T.len Xa (ZX (Zk m8 M (Zd (pv 1) (pv 4)))))))))) WW Z0)
   (ZN (Zo 8 nd (Yp (E:=E0) (pv 0) L.cS m9 p4 Yv (ZX (pv 4))))
   (ZV (Zy (PW.pt (VO (XT (Yk (Zp Xx rfl T.isi XG (Zd (pv 8) (Xw (v:=.ty "bool") rfl T.bool NS rfl))))) (Uj (YJ Qs (pv 8) (Hw (O3 (Zk o0 Y (UG (pv 1) (Zd (pv 2) (pv 4)))))) (Z3 _))))) WW Z0))))))))))))
  (ZN (Xu (N4 yJ tZ tY LC (pv 3)))
  (ZN (Xu (Mp (E:=E0) (pv 0) L.cS n0 M Yv))
  (ZV (Zq (VT WT (Zp X9 rfl T.len Xa (ZX (Mp (E:=E0) (pv 0) L.cS DN M Yv))) (Zp K9 rfl T.len Xa (ZX (pv 1))) (Z3 _))))))))),?_⟩
 let⟨l,ls,U,s1⟩:=z.sh;let⟨x,Lw⟩:=z.lw;let⟨c9,p2,hH⟩:=z.hd;let⟨gs,G⟩:=z.gr;let a2:=z.l64;let eI:(m.lv.map λi:Nat=>(i:Int)).map V.int=iN m.lv:=by rw[zO];rfl
 let wN:=HE m.lv ∅
 let p7:l.length=m.lv.length:=Ii U.sh;let p8:x.length=m.lv.length:=by have:=congrArg yD Lw.keys;simpa using this
 exists _,Z,a.S,_,_,Z,U.sh.sh.self.choose_spec,Z,a.S,a.d,a.lk,m.ts.length,l,ls,m.lv.map (λi:Nat=>(i:Int)),Z,U.sh.sh,(by rw[U.sh.keys,zO];rfl),Ub Lw.vl.up,by simpa using a2
 intro q nq;rw[eI];let⟨H1,eU,g1,hq⟩:=VN nq (.lst (iN m.lv));rw[eU];refine⟨_,Z,_,_,_,_,Z,.lst hq,Gp,_,Z,Zj ?_⟩;refine⟨_,Z,q,_,Z,.inl ⟨ZF.of hq,λt1 r1=>?_⟩⟩;let ga:=Zb r1 (.tup (iN m.lv));exists _,Z,a.dT,x,m.lv.map (λi:Nat=>(i:Int)),Z,(g1.trans ga) _ _ Lw.dict,(by rw[Lw.keys,zO];rfl),Ub Lw.vl.up,by simpa using a2
 intro q2 p9;rw[eI];let gb:=Zb p9 (.lst (iN m.lv));refine⟨q2,_,Z,.inl ⟨ZF.of ZP,λt2 r2=>?_⟩⟩;let gc:=Zb r2 (.tup (iN m.lv));refine⟨.ref t1,.ref t2,.tup (m.lv.map λb:Nat=>KT.int (b:Nat)),5,Z,.tup ((gb.trans gc) _ _ ZP) (Mn _),.tup ZP (Mn _),wN,by decide,λH2 s2=>⟨_,Z,Zj ?_⟩⟩
 let a4:=((ga.trans gb).trans gc).trans s2;let a6:=g1.trans a4;let l3:=a4 _ _ hq;clear s2;let U2:=U.frame (U.sh.same a6);exists _,Z,a.S,_,_,Z,U2.sh.sh.self.choose_spec,Z,a.S,a.d,a.lk,m.ts.length,l,ls,Z,U2.sh.sh;refine⟨_,Z,a.dT,x,Z,a6 _ _ Lw.dict,(l.length:Int),by rw[p7,p8];rfl,λH3 s3=>⟨_,Z,Zj ?_⟩⟩
 let a7:=a6.trans s3;let c7:=s3 _ _ l3;let U3:=U.frame (U.sh.same a7);let c4:=Lw.same a7;let i8:=a7 _ _ p2;let W:=U3.sh.sh.looks;let e8:q≠a.lk:=(ZW U.sh.sh.looks nq).symm;clear s3 l3 U2 a4 a6;refine⟨_,Z,q,Z,⟨_,ZF.of c7⟩,Ui (K:=K) (a:=q) (xs:=iN m.lv) (λi σ H'=>∃(x4 x5 x6 x7 x8:jf)(m0:je),σ=[some (.ref a.S),some (.ref a.dT),some (.ref a.dH),some (.ref q),x4,x5,x6,x7,x8]/\(∀ c o,c≠a.lk->H3 c=some o->H' c=some o)/\H' a.lk=some (.lst m0)/\m0.length<=100+i)
  ⟨_,_,_,_,_,ls,Z,λc o _ e=>e,W,∅⟩ (λi σ H' _ hP=>?_) ?_ ?_⟩
 ·let⟨_,_,_,_,_,_,_,k',_⟩:=hP;exact ZF.of (k' _ _ e8 c7)
 ·rintro i u σ N c8 ⟨x4,x5,x6,x7,x8,r,rfl,B,C,l4⟩;unfold iN at c8;rw[zM] at c8;let⟨j,ej,rfl⟩:=yK.mp c8;let D:j∈m.lv:=zC ej;let ii:i<m.lv.length:=(yS.mp ej).1;let J:VS gt jg jh N a.S a.d a.lk m.ts m.lv m.av m.ho a.as l r:=⟨M5 U3.sh B C,U3.wf,U3.vl,U3.av,U3.live,U3.l800⟩;let r8:YR H3 N:=λb ys e=>B b _ (ZD e W) e;let I:Xl N a.dT m.ts m.lv a.bs x:=c4.frame r8 (B _ _ (ZD c4.dict W) c4.dict) λb hb o e=>B _ _ (z.t3 b hb).2.1 e;let i9:N a.dH=some (.dK c9):=B _ _ (ZD i8 W) i8;let⟨tp,us,e1,e2,e3,e4,e5⟩:=I.tw j D;let m4:=U.wf j _ (Wd (U.vl.lt j D));let p3:Zg N a.dT (.int (j:Nat)) (some (.ref tp)):=e1 ▸ Zg.k (k:=Sum.inl (j:Int)) I.dict;exists _,Z,_,Z,a.dT,.ref tp,Z,p3,tp,_,Z,Za.of e2,Z,_,_,Z,_,_,Z,Z;let W4:=J.sh.tw j D;let⟨vs,w1,w2,w3⟩:=W4.things;let⟨ta,vlo,vhi,p0,p6,klo,t9⟩:=W4.tag;cases p0;let⟨o1,o2,o3,o4⟩:=J.sh.own j D;exists _,Z,a.S,_,_,Z,J.sh.sh.self.choose_spec,Z,_,Z,a.S,a.d,a.lk,m.ts.length,l,r,(j:Int),_,_,_,_,_,_,vs,_,_,Z,⟨J.sh.sh,J.sh.val j D,W4.tw⟩,w1,p6,Ne.symm o3,Ne.symm o2,by lia
  intro H5 l' t p a3 m1 c6 R;let eK:(if (YK (gd m.ts j)).h > 0 then ("stem" : Str) else "leaf")=kindOf (gd m.ts j):=by
   unfold kindOf;show (if (((gd m.ts j).h:Nat):Int) > 0 then ("stem" : Str) else "leaf")=_
   by_cases c:(gd m.ts j).h=0
   ·rw[aO c,aM ∅]
   ·rw[aM c,aO ∅]
  rw[eK] at R;refine⟨_,Z,_,_,_,_,Z,.tup R,Mx,_,Z,Zj ?_⟩;refine⟨_,Z,t,_,Z,.inr (Za.of R),Z,_,Z,NI Z ?_⟩;refine⟨_,Z,.inr (.inl ⟨t,_,0,_,rfl,rfl,Za.of R,rfl,_,rfl,rfl,_,rfl,NI rfl ?_⟩)⟩;refine⟨_,Z,.inr (.inl ⟨t,_,1,_,rfl,rfl,Za.of R,rfl,_,_,_,_,rfl,.lst c6,Gp,_,rfl,Zj ?_⟩)⟩;let s0:∀ c o,c≠a.lk->N c=some o->H5 c=some o:=p;let i0:YR N H5:=λb ys e=>p b _ (ZD e C) e;refine⟨_,Z,.inr (.inl ⟨t,_,1,_,rfl,rfl,Za.of R,rfl,l',vs,rfl,.inl ⟨ZF.of c6,λr6 m2=>?_⟩⟩)⟩;let i4:=Zb m2 (.tup vs);let o6:Xl H5 a.dT m.ts m.lv a.bs x:=I.frame i0 (p _ _ (ZD I.dict C) I.dict) λb hb o e=>p _ _ (z.t3 b hb).2.1 e;let o9:=p _ _ (z.t3 j D).2.1 e3;refine⟨_,Z,a.b j,us,Z,.inl ⟨ZF.of (i4 _ _ o9),λr7 m3=>?_⟩⟩;let i5:=Zb m3 (.tup us);let c5:=i4.trans i5;let kV:jU N (P6 (gd m.ts j)) vs:=Gv w2 w3;let kU:jU N (P6 (gd m.ts j)) us:=Gv e4 e5;refine⟨.ref r6,.ref r7,.tup (P6 (gd m.ts j)),5,Z,.tup (i5 _ _ ZP) ((kV.mono i0 _ _).sm c5),.tup ZP ((kU.mono i0 _ _).sm c5),D8 m4,by decide,λH6 s6=>⟨_,Z,Zj ?_⟩⟩
  let e9:=c5.trans s6;let U5:VS gt jg jh H5 a.S a.d a.lk m.ts m.lv m.av m.ho a.as l (r++[.int (j:Nat)]):=⟨M5 J.sh p a3,J.wf,J.vl,J.av,J.live,J.l800⟩;let U6:=U5.frame (U5.sh.same e9);let W6:=U6.sh.tw j D;exists _,Z,a.S,_,_,Z,U6.sh.sh.self.choose_spec,Z,_,Z,a.S,a.d,a.lk,m.ts.length,l,_,(j:Int),_,_,_,_,_,_,Z,⟨U6.sh.sh,U6.sh.val j D,W6.tw⟩;let o7:=o6.same e9;let o5:Y5 gt H6 a.dT m.ts m.lv x:=o7.lawT U.wf G.len G.up;exists _,Z,_,Z,a.dT,j,m.ts,m.lv,x,Z,o5.g,D;intro H7 v7 s7 l9;refine⟨_,v7,(YK (gd m.ts j)).kt,5,Z,(W6.tag.mono (ZB.tups s7)).key,l9.key,AI (Ig m4),by decide,λH8 s8=>⟨_,Z,Zj ?_⟩⟩
  let a9:=(e9.trans s7).trans s8;let p5:=a9 _ _ R;let l2:=a9 _ _ c6;refine⟨_,Z,.inr (.inl ⟨t,_,1,_,rfl,rfl,Za.of p5,rfl,.inl ⟨rfl,_,ZF.of l2⟩,l',vs,rfl,rfl,l2,?_⟩)⟩;let O:∀ c o,c≠a.lk->N c=some o->upd H8 l' (.lst []) c=some o:=λc o n e=>by rw[ZO (ZW e m1)];exact a9 _ _ (p _ _ n e)
  let e7:upd H8 l' (.lst []) a.lk=some (.lst (r++[.int (j:Nat)])):=by rw[ZO (ZW C m1)];exact a9 _ _ a3
  generalize upd H8 l' (.lst [])=H9 at O e7⊢;let r9:YR N H9:=λb ys e=>O b _ (ZD e C) e;let U9:VS gt jg jh H9 a.S a.d a.lk m.ts m.lv m.av m.ho a.as l (r++[.int (j:Nat)]):=⟨M5 J.sh O e7,J.wf,J.vl,J.av,J.live,J.l800⟩;let i2:Xl H9 a.dT m.ts m.lv a.bs x:=I.frame r9 (O _ _ (ZD I.dict C) I.dict) λb hb o e=>O _ _ (z.t3 b hb).2.1 e;let l0:H9 a.dH=some (.dK c9):=O _ _ (ZD i9 C) i9;let W9:=U9.sh.tw j D;let l1:∀ H',ZB H9 H'->Zg H' a.dH (.int (j:Nat)) (some (.int (m.ho j:Nat))):=λH' s'=>hH.2 j D ▸ Zg.k (k:=Sum.inl (j:Int)) (s' _ _ l0);exists _,Z,a.S,_,_,Z,U9.sh.sh.self.choose_spec,Z,_,Z,a.S,a.d,a.lk,m.ts.length,l,_,(j:Int),_,_,_,_,_,_,Z,⟨U9.sh.sh,U9.sh.val j D,W9.tw⟩;refine⟨_,Z,_,Z,a.dH,.int (m.ho j:Nat),Z,l1 _ (ZB.refl _),(m.ho j:Nat),Z,λs5 a8=>⟨_,Z,Zj ?_⟩⟩;let a5:=U9.frame (U9.sh.same a8);let o8:=a5.sh.tw j D;exists _,Z,a.S,_,_,Z,a5.sh.sh.self.choose_spec,Z,_,Z,a.S,a.d,a.lk,m.ts.length,l,_,(j:Int),_,_,_,_,_,_,Z,⟨a5.sh.sh,a5.sh.val j D,o8.tw⟩;exists _,Z,_,Z,a.dH,.int (m.ho j:Nat),Z,l1 _ a8,_,Z,_,Z,a.dT,j,m.ts,m.lv,x,Z,(i2.same a8).lawT U.wf G.len G.up,a2;intro s9 m7 r4 s4 i6;refine⟨m7,_,Z,.inl (ZF.of i6),_,_,Z,Z,((iN (m.av j)).length:Nat)+(m.ho j:Nat),?_,λt0 a4=>⟨_,Z,Zj ?_⟩⟩
  ·let el:(iN (m.av j)).length=(iN (YG m.ts m.lv j)).length:=by rw[zX,zX];exact(U.av j D).length_eq
   show [V.int _,V.int _]++[]=_;rw[Int.add_comm (m.ho j:Int),el];rfl
  let m6:=(a8.trans r4).trans a4;let i3:=U9.frame (U9.sh.same m6);let⟨o,l6⟩:=FC (ho:=m.ho) U.wf U.vl _ j D (xT _);exists _,Z,a.S,_,_,Z,i3.sh.sh.self.choose_spec,Z,_,Z,a.S,a.d,a.lk,m.ts,m.lv,m.av,m.ho,a.as,l,_,j,o,Z,i3,D,l6;intro t4 r5;let c0:=m6.trans r5;refine⟨_,Z,_,_,_,_,Z,.bl _,ZOW,_,Z,Zj ?_⟩;exists _,Z,_,Z,_,Z,_,Z,a.dT,a.dH,j,m.ts,m.lv,x,c9,m.ho,Z,(i2.same c0).lawT U.wf G.len G.up,a2,D,c0 _ _ l0,hH;intro t5 o' m5 l8;cases l6.uniq l8;let eo:V.bl o.isNone=V.bl (decide (oV o=V.non)):=by
   cases o with
   | none=>rfl
   | some k=>rfl
  refine⟨Z,_,Z,NI eo ?_⟩;refine⟨_,_,_,_,_,r++[.int (j:Nat)],Z,λc o' n e=>(c0.trans m5) _ _ (O _ _ n (B _ _ n e)),(c0.trans m5) _ _ e7,by rw[yV,xN];lia⟩
 ·rintro σ N ⟨x4,x5,x6,x7,x8,r,rfl,B,C,l4⟩;let l5:=B _ _ e8 c7;exists _,Z,.inl ⟨Z,_,ZF.of l5⟩,q,_,Z,Z,l5;let p:∀ c o,c≠a.lk->c≠q->H3 c=some o->upd N q (.lst []) c=some o:=λc o n1 n2 e=>by rw[ZO n2];exact B _ _ n1 e
  let a3:upd N q (.lst []) a.lk=some (.lst r):=by rw[ZO (Ne.symm e8)];exact C
  generalize upd N q (.lst [])=H5 at p a3⊢;let y:∀ c o,c≠a.lk->H c=some o->H5 c=some o:=λc o n e=>p _ _ n (ZW e nq) (a7 _ _ e);let U5:VS gt jg jh H5 a.S a.d a.lk m.ts m.lv m.av m.ho a.as l r:=⟨M5 U.sh y a3,U.wf,U.vl,U.av,U.live,U.l800⟩;exists _,Z,a.S,_,_,Z,U5.sh.sh.self.choose_spec,Z,a.S,a.d,a.lk,m.ts,m.lv,m.av,m.ho,a.as,l,r,Z,U5.sh;intro H6 e6 X p1 R6;exists _,Z,a.S,_,_,Z,R6.sh.self.choose_spec,Z,a.S,a.d,e6,m.ts.length,l,[],m.lv.map (λi:Nat=>(i:Int)),Z,R6.sh,(by rw[U.sh.keys,zO];rfl),Ub Lw.vl.up,by simpa using a2
  intro q7 r0;rw[eI];let g7:=Zb r0 (.lst (iN m.lv));let a1:∀ c o,c≠a.lk->c≠a.S->H c=some o->upd H6 q7 (.lst (iN m.lv)) c=some o:=λc o n1 n2 e=>g7 _ _ (p1 _ _ n2 (y _ _ n1 e));let U7:VS gt jg jh (upd H6 q7 (.lst (iN m.lv))) a.S a.d e6 m.ts m.lv m.av m.ho a.as l []:=⟨R6.same g7,U.wf,U.vl,U.av,U.live,U.l800⟩;exists q7,_,Z,.inl (ZF.of ZP);generalize upd H6 q7 (.lst (iN m.lv))=H7 at a1 U7⊢;let a0:=z.lo (H':=H7) λc o n1 n2 n3 n4 e=>a1 c o n3 n1 e;let⟨e0,i1⟩:=a0.lw;let l7:e0.length=m.lv.length:=by have:=congrArg yD i1.keys;simpa using this
  exists _,Z,a.dT,e0,Z,i1.dict,Z;let ed:decide (V.int ((iN m.lv).length:Nat)=V.int (e0.length:Nat))=true:=aK (by rw[l7];simp[iN])
  rw[ed];let⟨⟨t7,i7⟩,t8,c1⟩:=U.sh.sh;refine k H7 { a with lk:=e6 } (λc o e v=>?_) (λT' q' tb=>?_) ⟨⟨l,[],U7,by simp⟩,a0.lw,a0.hd,a0.gr,a0.told,z.dd,?_,z.t2,λi hi=>?_,z.l64,z.l700⟩ Z
  ·let⟨v1,v2,v3,v4,v5,v6,v7⟩:=v;exact⟨⟨v1,v2,ZW (y _ _ v3 e) X,v4,v5,v6,v7⟩,a1 _ _ v3 v1 e⟩
  ·exact ZT.ext (T:=T') (q:=q') tb ⟨λb φ e=>a1 _ _ (ZD e c1) (ZD e i7) e,λb φ e=>a1 _ _ (ZD e c1) (ZD e i7) e⟩
  ·exact⟨ZW (y _ _ z.tt.1 z.told) X,z.tt.2.1,(ZW (y _ _ z.tt.2.2.symm G.at_) X).symm⟩
  ·let⟨t1,t2,t3⟩:=z.t3 i hi;let⟨tp,us,_,_,e,_⟩:=Lw.tw i hi;exact⟨t1,ZW (y _ _ t2 e) X,t3⟩
section
variable{gt:jq}{jg jh:aj}{H H':Hp}{a:Pl}{m m':Md}
def LS.kd(h:LS gt jg jh H a m){c:aj}{o:HO}(e:H c=some o)(k:∀ C g l,o≠.ins C g l)(b:∀ f,o≠.dK f)(d:∀ f,o≠.lst f):Zm a m c:=by
 let⟨u,w,R⟩:=h.shp;let⟨Yo,L⟩:=h.lw;let⟨s,p,_⟩:=h.hd;let⟨⟨v,n⟩,q,r⟩:=R.sh;exists ZD e n (k _ _ _),ZD e q (b _),ZD e r (d _),ZD e L.dict (b _),ZD e p (b _),ZD e h.told (d _);intro i j;let⟨g,t⟩:=(R.tw i j).tw.self;exact⟨ZD e t (k _ _ _),ZD e (R.tw i j).tw.above (d _)⟩
def LS.tabs(h:LS gt jg jh H a m){p T:aj}{q:Str}{i:je}(g:H p=some (.lst i))(d:ZT H T q)(f:∀ c o,H c=some o->Zm a m c->c≠p->H' c=some o):ZT H' T q:=
 ZT.ext d ⟨λb j e=>f _ _ e (h.kd e (by intro _ _ _ z;cases z) (by intro _ z;cases z) (by intro _ z;cases z)) (ZD e g),λb j e=>f _ _ e (h.kd e (by intro _ _ _ z;cases z) (by intro _ z;cases z) (by intro _ z;cases z)) (ZD e g)⟩
end
inductive VH(b c:aj)(K:zZ)(f:je)(H:Hp)(Q:VK)(_:XK):Prop
 |mk(a:aj)(d:jw)(_:f=[.ref a])(_:ZF K H a (d.map V.int))(_:d.length<=63)(_:H b=some (.tbl #[]))(_:H c=some (.tbl #[]))(_:b≠c)(_:∀ e,Q (.bl true) e)
def ZNQ{K:zZ}{H c:Hp}{a:aj}{d:je}(m:∀ b o,H b=some o->(∀ e,o≠.tbl e)->c b=some o)(h:ZF K H a d):ZF K c a d:=by
 rcases h with (h | ⟨o,h⟩) | h
 ·exact .inl (.inl (m _ _ h (by intro _ z;cases z)))
 ·exact .inl (.inr ⟨o,m _ _ h (by intro _ z;cases z)⟩)
 ·exact .inr h
def Ux(a:jq->Sp):Sp:=λb H Q E=>∃ g,a g b H Q E
def ML{P:al}{w:ar}{K:zZ}{n:jb}{e:aC}{l:Wv}{k:Nat}{f:aj}{m:am}{o:js}{p:jq->Sp}(h:∀ g,ZK P w K n e l k f m o (p g)):ZK P w K n e l k f m o (Ux p):=
 ⟨λj H Q E ⟨g,x⟩=>(h g).len j H Q E x,λA i s H args q j Q E a b c d ⟨g,x⟩=>(h g).run A i s H args q j Q E a b c d x⟩
inductive UJ(jg jh T:aj)(e:je)(H:Hp)(Q:VK)(_:XK):Prop
 |mk(p:aj)(_:e=[.ref p,.int 14,.int 8])(_:ZJ H p)(_:ZT H T qS)(_:∀(b:Hp)(d:aj)(gt:jq)(a:Pl)(m:Md),(∀ c o,H c=some o->Zm a m c/\(c≠p->c≠T->b c=some o))->b d=some (.tup (X8 a))->LS gt jg jh b a m->m.ts.length<=22->ZJ b p->WY a m p->14<=m.lv.length->Q (.ref d) b)
abbrev ZO2:js:=["_law_well_here","_law_leaves","_law_stems","_law_state","_law_j"]
def UK:ZA ZO2 zEu (Ze Je):=Z4
def ZLU{T:aj}(F:Zn K "_law_begun" "_law_begun" Je f fd)(X:YZ mg)(L:Yj K mg jg jh)(DI:Ug P w K mg kf 1 jg zEq (QJ jg))(DG:ZC P w K mg kf 2 "_law_grid" zE9 QQ)(e7:ZC P w K mg kf 11 "_law_put_leaf" zEo (Ux λgt=>Y7 gt jg jh))(e8:ZC P w K mg kf 72 "_law_put_stem" zEf (Ux λgt=>XA gt jg jh T)):
  ZK P w K mg kf Zc 73 f fd zEu (UJ jg jh T):=by
 refine F.ko UK λl9 A l5 s H vs Q E hr h=>?_;let⟨p,rfl,W,e2,k⟩:=h;let nd:=UK.nd;let c9:=hr.mono (show 2<=72 by lia)
 let c8:=hr.mono (show 11<=72 by lia)
 intro Xc;refine⟨_,ZN (Zo 3 nd (Ym (pa5 (Ct DI c9 rfl L.shelf) Jw Jw (Zk DG c9 (ZX (pv 0))) (XH Zt))))
  (ZN (WU PassesOwn.never rfl (P3 rfl X.range (ZX (pv 1))) (Ye 4 nd) (ZV (Zy (XT (Yk (Zk e7 c8 (UG (pv 0) (Zd (pv 3) (pv 4)))))) WW Z0)))
  (ZN (WU PassesOwn.never rfl (P3 rfl X.range (ZX (pv 2))) (Ye 4 nd) (ZV (Zy (XT (Yk (Zk e8 hr (Zd (pv 0) (pv 3))))) WW Z0)))
  (ZV (Zq (pv 3))))),?_⟩
 let⟨m6,R⟩:=W.some;intro S e nS ne z1;let i1:∀ b o,H b=some o->upd (upd H e (.own S)) S (.ins jg e []) b=some o:=λb o q=>by
  rw[ZO (ZW q nS),ZO (ZW q ne)];exact q
 let f1:∀ b,upd (upd H e (.own S)) S (.ins jg e []) b=none->H b=none:=λb q=>by
  cases z:H b with
  | none=>rfl
  | some o=>rw[i1 b o z] at q;cases q
 refine⟨S,e,Z,ZP,λH1 d lk i0 i9 a2 m0 R1=>⟨Z,?_⟩⟩;let e0:ZB H H1:=λb o q=>i0 b o (ZW q nS) (i1 b o q);intro B a7;let g2:=Zb a7 (.dK []);intro r a6;let g3:=Zb a6 (.dK []);let a4:upd (upd H1 B (.dK [])) r (.dK []) B=some (.dK []):=g3 _ _ ZP;let a3:upd (upd H1 B (.dK [])) r (.dK []) r=some (.dK []):=ZP;let c0:=g2.trans g3;let e9:B≠r:=ZW ZP a6;let a1:H1 r=none:=g2.free a6;generalize upd (upd H1 B (.dK [])) r (.dK [])=H3 at a4 a3 c0⊢;let a9:=e0.trans c0;let R3:=R1.same c0;exists _,Z,p,Z,W.same a9;intro gl gs gt H4 s4 W4 a8 c6 c7 i5 i6 i8;exists YA;intro u G;let g5:=Zb G (.lst []);exists YA;intro J l0;let g6:=Zb l0 (.tup [.ref S,.ref B,.ref r,.ref gl,.ref u]);let c1:upd (upd H4 u (.lst [])) J (.tup [.ref S,.ref B,.ref r,.ref gl,.ref u]) u=some (.lst []):=g6 _ _ ZP;let a0:upd (upd H4 u (.lst [])) J (.tup [.ref S,.ref B,.ref r,.ref gl,.ref u]) J=some (.tup [.ref S,.ref B,.ref r,.ref gl,.ref u]):=ZP;let U:=g5.trans g6;generalize upd (upd H4 u (.lst [])) J (.tup [.ref S,.ref B,.ref r,.ref gl,.ref u])=H6 at c1 a0 U⊢;let O:=a9 _ _ R;let D:∀ c o,c≠p->H3 c=some o->H6 c=some o:=λc o n q=>U _ _ (s4 _ _ q n);let⟨⟨dS,c2⟩,c5,N⟩:=R3;let m1:H S=none:=nS;let a5:lk≠p:=(ZW R (f1 _ a2)).symm;let i2:gl≠p:=λz=>by rw[z,O] at a8;cases a8
 let e5:u≠p:=λz=>by
  let⟨xs,q⟩:=W4.some;rw[z,q] at G;cases G
 let n4:∀ c o,c≠p->H3 c=some o->H4 c=some o:=λc o n q=>s4 _ _ q n;let A0:LS gt jg jh H6 ⟨S,d,lk,B,r,gl,u,[],[]⟩ ⟨[],[],λ_=>[],λ_=>0⟩:=by
  let e6:Lv [] []:=⟨λi h=>(by cases h),λi h=>(by cases h),.nil⟩
  refine⟨⟨[],[],⟨⟨⟨⟨dS,D _ _ (ZD c2 O) c2⟩,D _ _ (ZD c5 O) c5,D _ _ a5 N⟩,Z,λi g=>absurd g (by simp),λi g=>absurd g (by simp),Z,λi g=>absurd g (by simp),λi g=>absurd g (by simp),λi j g=>absurd g (by simp)⟩,λi t q=>by simp at q,e6,λi g=>absurd g (by simp),λi g=>absurd g (by simp),by simp⟩,by simp⟩,
   ⟨[],D _ _ (ZD a4 O) a4,e6,Z,Z,λi g=>absurd g (by simp)⟩,⟨[],D _ _ (ZD a3 O) a3,Z,λi g=>absurd g (by simp)⟩,⟨gs,U _ _ c6,c7.sm U,i5,by rw[c7.length,i6],i8⟩,c1,?_,?_,λi g=>absurd g (by simp),λi g=>absurd g (by simp),by simp,by simp⟩
  ·let⟨_,c4,_⟩:=id R1;exact⟨(ZW c4 a7).symm,(ZW c4 a1).symm,e9⟩
  ·exact⟨(ZW (n4 _ _ a5 N) G).symm,(ZW c6 G).symm,ZW N a8⟩
 let O0:WY ⟨S,d,lk,B,r,gl,u,[],[]⟩ ⟨[],[],λ_=>[],λ_=>0⟩ p:=⟨a5,i2,e5,λi g=>absurd g (by simp)⟩
 let V0:∀ c o,H c=some o->Zm ⟨S,d,lk,B,r,gl,u,[],[]⟩ ⟨[],[],λ_=>[],λ_=>0⟩ c/\(c≠p->H6 c=some o):=λc o q=>by
  let q1:=e0 _ _ q;let q3:=a9 _ _ q;let l6:c≠u:=by
   by_cases y:c=p
   ·rw[y];exact e5.symm
   ·exact ZW (n4 _ _ y q3) G
  exact⟨⟨ZW q nS,ZW q (f1 _ i9),ZW q (f1 _ a2),ZW q1 a7,ZW q1 a1,l6,λi g=>absurd g (by simp)⟩,λy=>D _ _ y q3⟩
 let W6:ZJ H6 p:=W4.same U;let e1:J≠p:=λz=>by
  let⟨xs,q⟩:=W6.some;rw[z,q] at a0;cases a0
 let⟨m2,i3,_⟩:=id e2;let Tp:T≠p:=ZD i3 R;let e3:ZT H6 T qS:=ZT.ext e2 ⟨λb φ e=>(V0 _ _ e).2 (ZD e R),λb φ e=>(V0 _ _ e).2 (ZD e R)⟩;refine⟨_,Z,14,Z,by decide,by decide,Ps (n:=14) (λi σ M=>∃(x:jf)(a:Pl)(m:Md),σ=[some (.ref p),some (.int 14),some (.int 8),some (.ref J),x]/\M J=some (.tup (X8 a))/\ZJ M p/\LS gt jg jh M a m/\WY a m p/\m.ts.length=i/\m.lv.length=i/\ZT M T qS/\∀ c o,H c=some o->Zm a m c/\(c≠p->c≠T->M c=some o))
  ⟨none,⟨S,d,lk,B,r,gl,u,[],[]⟩,⟨[],[],λ_=>[],λ_=>0⟩,Z,a0,W6,A0,O0,Z,Z,e3,λc o e=>⟨(V0 c o e).1,λn _=>(V0 c o e).2 n⟩⟩ ?_ ?_⟩
 ·rintro i σ H7 g ⟨x,a,m,rfl,l,W7,A7,O7,l7,v7,C,V7⟩;refine⟨_,Z,_,Z,_,Z,gt,p,J,_,a,m,Z,W7,l,A7,O7,∅,∅,∅,∅,λH8 a' m' I W8 A8 O8 eS el ev=>⟨_,Z,Zj ⟨_,a',m',Z,?_,W8,A8,O8,∅,by rw[ev,yV,xN];lia,?_,λc o q=>?_⟩⟩⟩
  ·rw[eS];exact(I _ _ l (A7.tup l)).2 e1
  ·let⟨m5,i7⟩:=W7.some;exact A7.tabs i7 C λc o e v n=>(I c o e v).2 n
  ·let⟨v1,v2⟩:=V7 c o q;by_cases y:c=p
   ·subst y;let⟨xs,q'⟩:=W7.some;exact⟨(I _ _ q' v1).1,λz=>absurd Z z⟩
   ·by_cases y2:c=T
    ·subst y2;let⟨m3,i4,_⟩:=id C;exact⟨(I _ _ i4 v1).1,λ_ z=>absurd Z z⟩
    ·exact⟨(I _ _ (v2 y y2) v1).1,λ_ _=>(I _ _ (v2 y y2) v1).2 y⟩
 ·rintro σ H7 ⟨x,a,m,rfl,l,W7,A7,O7,l7,v7,C,V7⟩;refine⟨_,Z,8,Z,by decide,by decide,Ps (n:=8) (λi σ M=>∃(x:jf)(a:Pl)(m:Md),σ=[some (.ref p),some (.int 14),some (.int 8),some (.ref J),x]/\M J=some (.tup (X8 a))/\ZJ M p/\LS gt jg jh M a m/\WY a m p/\m.ts.length<=14+i/\14<=m.lv.length/\m.lv.length<=14+i/\ZT M T qS/\∀ c o,H c=some o->Zm a m c/\(c≠p->c≠T->M c=some o))
   ⟨x,a,m,Z,l,W7,A7,O7,∅,∅,∅,C,V7⟩ ?_ ?_⟩
  ·rintro i σ H8 g ⟨x,a,m,rfl,l,W8,A8,O8,l8,v8,u8,Y,V8⟩;let⟨m4,c3,_⟩:=id Y;refine⟨_,Z,_,Z,gt,p,J,a,m,Z,W8,l,A8,O8,∅,∅,∅,Y,λH9 a' m' I A9 W9 O9 eS l1 l2 l3 l4 e4=>⟨_,Z,Zj ⟨_,a',m',Z,?_,W9,A9,O9,∅,∅,∅,e4,λc o q=>?_⟩⟩⟩
   ·rw[eS];exact(I _ _ l (A8.tup l)).2 e1 (ZD l c3)
   ·let⟨v1,v2⟩:=V8 c o q;by_cases y:c=p
    ·subst y;let⟨xs,q'⟩:=W8.some;exact⟨(I _ _ q' v1).1,λz=>absurd Z z⟩
    ·by_cases y2:c=T
     ·subst y2;exact⟨(I _ _ c3 v1).1,λ_ z=>absurd Z z⟩
     ·exact⟨(I _ _ (v2 y y2) v1).1,λ_ _=>(I _ _ (v2 y y2) v1).2 y y2⟩
  ·rintro σ H8 ⟨x,a,m,rfl,l,W8,A8,O8,l8,v8,u8,Y,V8⟩;exact⟨_,Z,k _ J gt a m V8 l A8 ∅ W8 O8 v8⟩
abbrev Dc:js:=["_law_script","_law_ground","_law_state","_law_j","_law_k"]
def Pv:ZA Dc zFg (Ze PD):=Z4
def ZO7{T1 T2:aj}(F:Zn K "law" "law" PD f fd)(X:YZ mg)(DW:ZC P w K mg kf 1 "_law_well" zE0 (V5 K))(DP:ZC P w K mg kf 1 "_law_pull" zEe YQ)(DB:ZC P w K mg kf 73 "_law_begun" zEu (UJ jg jh T1))(DH:ZC P w K mg kf 3 "_law_hold" zEf (Ux λgt=>Wz gt jg jh))(DD:ZC P w K mg kf 72 "_law_change_stem" zEf (Ux λgt=>Xe gt jg jh T2))(DE:ZC P w K mg kf 8 "_law_exact" zEs (Ux λgt=>X1 gt jg jh)):ZK P w K mg kf Zc 80 f fd zFg (VH T1 T2 K):=by
 refine F.ko Pv λe8 A e4 s H vs Q E hr h=>?_;let⟨z,O,rfl,a9,hn,c0,c1,c9,k⟩:=h;let nd:=Pv.nd;let a1:=hr.to 1;let e0:=hr.to 3;let c6:=hr.to 8;let c4:=hr.to 72;let c5:=hr.to 73;intro Xc;refine⟨_,ZN (Zo 1 nd (Zk DW a1 (Zd (pv 0) ZM)))
  (ZN (Zo 2 nd (Zk DB c5 (UG (pv 1) (Zd ZM ZM))))
  (ZN (Zy (Ur (O3 (pv 2))) WW Z0)
  (ZN (WU PassesOwn.never rfl (P3 rfl X.range (ZX (Zk DP a1 (Zd (pv 1) ZM)))) (Ye 3 nd) (ZV (Zy (XT (Yk (Zk DH e0 (Zd (pv 1) (pv 2))))) WW Z0)))
  (ZN (WU PassesOwn.never rfl (LF rfl X.range (Zd ZM (Zp (Gy rfl) rfl X.max NK (Zd ZM (Zp (ZJY rfl) rfl X.min Cc (Zd (Zp X9 rfl X.len Xa (ZX (pv 0))) ZM)))))) (Ye 4 nd)
   (ZN (Zy (XT (Yk (Zk DD c4 (Zd (Zk DW a1 (Zd (pv 0) (pv 4))) (pv 2))))) WW Z0)
   (ZV (Zy (PW.pt (OM (YJ WT (Zu Qb (pv 4) ZM) ZM (Z3 _)) (Ou (XT (Yk (Zk DE c6 (NC (Zi K (pv 2) ZM) (Zi K (pv 2) ZM) (Zi K (pv 2) ZM)))))))) WW Z0))))
  (ZV (Zq (Zk DE c6 (NC (Zi K (pv 2) ZM) (Zi K (pv 2) ZM) (Zi K (pv 2) ZM))))))))),?_⟩
 let c7:∀{T:aj}{q:Str},H T=some (.tbl #[])->ZT H T q:=λhT=>⟨#[],hT,trivial,λe5 cv h=>by simp[PySem.codeAmong] at h⟩
 obtain⟨M,eM,M3,e7⟩:∃ M:Int,(if (if (31:Int)<((O.map V.int).length:Int) then (31:Int) else ((O.map V.int).length:Int)) > 12 then (if (31:Int)<((O.map V.int).length:Int) then (31:Int) else ((O.map V.int).length:Int)) else 12)=M/\12<=M/\M<=31:=by
  exists _,Z,?_
  ·(repeat' split) <;> lia
  ·(repeat' split) <;> lia
 exists _,Z,z,O,0,Z,a9,hn,∅,by lia
 intro p H1 np s1 W1;exists _,Z,p,Z,W1,ZT.ext (c7 c0) (Yf.same s1);intro H2 u gt a m V2 a2 A2 e1 W2 O2 e6;let D:∀ c o,H c=some o->(∀ I,o≠.tbl I)->Zm a m c/\H2 c=some o:=λc o e q=>⟨(V2 _ _ (s1 _ _ e)).1,(V2 _ _ (s1 _ _ e)).2 (ZW e np) (ZD e c0 (q _))⟩;let R:ZT H2 T2 qC:=⟨#[],(V2 _ _ (s1 _ _ c1)).2 (ZW c1 np) c9.symm,trivial,λe5 cv h=>by simp[PySem.codeAmong] at h⟩
 let sq:∀(j:Hp),(∀ c o,H c=some o->(∀ I,o≠.tbl I)->j c=some o)->ZF K j z (O.map V.int):=λj e3=>ZNQ e3 a9;let a7:∀(j:Hp)(a:Pl)(m:Md)(Q':VK),LS gt jg jh j a m->(∀(Y:Hp)(a':Pl),(∀ c o,j c=some o->Zm a m c->Zm a' m c/\Y c=some o)->(∀ T q,ZT j T q->ZT Y T q)->LS gt jg jh Y a' m->X8 a'=X8 a->Q' (.bl true) Y) ->
   (Ux λgt=>X1 gt jg jh) [.ref a.S,.ref a.dT,.ref a.dH] j Q' E0:=λj a m Q' h2 h3=>⟨gt,a,m,Z,h2,h3⟩
 refine⟨_,Z,_,Z,Zj ?_⟩;let⟨i0,N⟩:=W2.some;exists _,Z,p,3,Z,W2,Ws (by decide) (by decide)
 intro r j r0 r1 W3 x3;let A3:=A2.sx O2 N x3;let d:j u=some (.tup (X8 a)):=x3 _ _ a2 (ZD a2 N);let l:∀ c o,H c=some o->(∀ I,o≠.tbl I)->Zm a m c/\j c=some o:=λc o e q=>⟨(D c o e q).1,x3 _ _ (D c o e q).2 (ZW e np)⟩;let B:ZT j T2 qC:=A2.tabs N R λc o e _ n=>x3 _ _ e n;clear V2 D R A2 a2 x3 W2 N;let e2:H p=none:=np;refine⟨r,Z,∅,∅,Ps (n:=r.toNat) (λi σ H'=>∃(x:jf)(m:Md),σ=[some (.ref z),some (.ref p),some (.ref u),x,none]/\H' u=some (.tup (X8 a))/\ZJ H' p/\LS gt jg jh H' a m/\WY a m p/\m.ts.length<=22/\14<=m.lv.length/\ZT H' T2 qC/\∀ c o,H c=some o->(∀ I,o≠.tbl I)->Zm a m c/\H' c=some o)
  ⟨none,m,Z,d,W3,A3,O2,e1,e6,B,l⟩ ?_ ?_⟩
 ·rintro i σ Y hi ⟨x,m,rfl,g,W4,U,O4,l4,v4,J,t⟩;let⟨i1,c3⟩:=W4.some;refine⟨_,Z,_,Z,gt,p,u,a,m,Z,W4,g,U,O4,∅,λH5 m' a0 W5 W et el=>⟨_,Z,Zj ⟨_,m',Z,?_,W5,W,?_,by rw[et];exact l4,by rw[el];exact v4,?_,λc o e q=>?_⟩⟩⟩
  ·exact a0 _ _ (ZD g c3) (U.tup g) g
  ·exact⟨O4.lk,O4.gl,O4.tl,λi hi=>O4.tw i (by rw[<-el];exact hi)⟩
  ·exact U.tabs c3 J λc o e v n=>a0 c o n v e
  ·let⟨v1,v2⟩:=t c o e q;refine⟨?_,a0 _ _ (ZW e e2) v1 v2⟩;let⟨b1,b2,b3,b4,b5,b6,b7⟩:=v1;exact⟨b1,b2,b3,b4,b5,b6,λi hi=>b7 i (by rw[<-el];exact hi)⟩
 rintro σ Y ⟨x,m,rfl,g,W4,U,O4,l4,v4,J,t⟩;exists _,Z,z,O.map V.int,Z,.inl (sq _ λc o e q=>(t c o e q).2),_,_,Z,_,_,Z,1,M,congrArg (λz=>[V.int 1,V.int z]) eM,⟨∅,∅,∅,∅⟩
 clear eM;refine Ps (lo:=1) (n:=(M-1).toNat) (λi σ j=>∃(y:jf)(a:Pl)(m:Md),σ=[some (.ref z),some (.ref p),some (.ref u),x,y]/\j u=some (.tup (X8 a))/\LS gt jg jh j a m/\14<=m.lv.length/\ZT j T2 qC/\∀ c o,H c=some o->(∀ I,o≠.tbl I)->Zm a m c/\j c=some o)
  ⟨_,a,m,rfl,g,U,∅,J,t⟩ ?_ ?_
 ·rintro i σ j hi ⟨y,a,m,rfl,d,A3,v3,B,l⟩;let⟨e9,c2,_⟩:=id B;exists _,Z,_,Z,z,O,_,Z,sq _ λc o e q=>(l c o e q).2,hn,∅,by lia
  intro p' Y a4 s4 W4;let U:=A3.same s4;refine⟨_,Z,gt,p',u,a,m,Z,W4,s4 _ _ d,U,A3.off a4,∅,B.ext (Yf.same s4),λH5 C m5 kp L W eS ev=>⟨_,Z,Zj ?_⟩⟩
  let G:∀ c o,H c=some o->(∀ I,o≠.tbl I)->Zm C m5 c/\H5 c=some o:=λc o e q=>by
   let⟨v1,v2⟩:=l c o e q;exact kp c o (ZD v2 c2 (q _)) (ZW v2 a4) v1 (s4 _ _ v2)
  let b:H5 u=some (.tup (X8 C)):=by
   rw[eS];exact(kp _ _ (ZD d c2) (ZW d a4) (A3.tup d) (s4 _ _ d)).2
  refine⟨_,Z,_,_,Z,Z,(by show (0:Int)<4;decide),Z,_,Z,Xj (λc=>?_) (λc=>?_)⟩
  ·refine⟨_,Z,.inr (.inl ⟨u,_,0,.ref C.S,rfl,rfl,Za.of b,rfl,_,rfl,.inr (.inl ⟨u,_,1,.ref C.dT,rfl,rfl,Za.of b,rfl,_,rfl,.inr (.inl ⟨u,_,2,.ref C.dH,rfl,rfl,Za.of b,rfl,a7 H5 C m5 _ W λH6 a6 a3 c8 A6 a8=>⟨_,rfl,Zj ?_⟩⟩)⟩)⟩)⟩;refine⟨_,a6,m5,Z,?_,A6,∅,c8 _ _ L,λc o e q=>?_⟩
   ·rw[a8];exact(a3 _ _ b (W.tup b)).2
   ·let⟨v1,v2⟩:=G c o e q;exact a3 _ _ v2 v1
  ·exact⟨_,C,m5,Z,b,W,∅,L,G⟩
 ·rintro σ H5 ⟨y,C,m5,rfl,b,W,u5,L,G⟩;exact⟨_,Z,.inr (.inl ⟨u,_,0,.ref C.S,rfl,rfl,Za.of b,rfl,_,rfl,.inr (.inl ⟨u,_,1,.ref C.dT,rfl,rfl,Za.of b,rfl,_,rfl,.inr (.inl ⟨u,_,2,.ref C.dH,rfl,rfl,Za.of b,rfl,a7 H5 C m5 _ W λH6 a6 a3 c8 A6 a8=>k H6⟩)⟩)⟩)⟩
end Tw
namespace L2
open PySem PySem.Spec
def xC(K:zZ)(C:aj):Bool:=
 (zD K (.ref C) "__getattribute__" == some (some (.builtin "BaseException.__getattribute__")))&&((zD K (.ref C) "__getattr__" == some none)&&((yY K C (.type "BaseException")==some true)&&((yY K C (.type "object")==some true) &&
 ((zD K (.ref C) "__class__" == some (some (.builtin "object.__class__")))&&((PySem.W.specialIn K (.builtin "object.__class__") "__get__" == some (some (.builtin "getset_descriptor.__get__")))&&(PySem.W.takesIn K (.builtin "object.__class__")==some true))))))
def Fl{K:zZ}{C:aj}(h:xC K C=true):WG K C:=by
 unfold xC at h;simp only[zQ,beq_iff_eq] at h;let⟨a,b,c,d,e,f,g⟩:=h;exact⟨a,b,c,d,e,f,g⟩
def xF(K:zZ)(C a:aj)(f:Str):Bool:=
 xC K C&&(Gu K C&&((zD K (.ref C) "__init__" == some (some (.ref a)))&&(wW K (.ref a)&&(yT K (.ref C)&&((zD K (.ref C) "__setattr__" == some (some (.builtin "object.__setattr__"))) &&
 ((zD K (.ref C) f==some none)&&(wK K C&&HB K C)))))))
def Pz{K:zZ}{C k:aj}{f:Str}(h:xF K C k f=true):YC K C k f:=by
 unfold xF at h;simp only[zQ,beq_iff_eq] at h;let⟨a,b,c,d,e,f,g,i,j⟩:=h;exact⟨Fl a,b,c,d,e,f,g,i,j⟩
def K7(K:zZ)(a:jv)(b:jd):Bool:=
 (zR a.length).all λk=>xC K (a.getD k 0)&&((zR a.length).all (λj=>yP K (.ref (a.getD k 0)) (.ref (a.getD j 0))==some (k==j))&&b.all λv=>yP K (.ref (a.getD k 0)) v==some true)
def C9{K:zZ}{a:jv}{c:jd}(h:K7 K a c=true){k:Nat}(e:k<a.length):WG K (a.getD k 0)/\(∀ j,j<a.length->yP K (.ref (a.getD k 0)) (.ref (a.getD j 0))=some (k==j))/\∀ v∈c,yP K (.ref (a.getD k 0)) v=some true:=by
 let b:=zF.mp h k (xL.mpr e);simp only[zQ] at b;exact⟨Fl b.1,λj d=>beq_iff_eq.mp (zF.mp b.2.1 j (xL.mpr d)),λv f=>beq_iff_eq.mp (zF.mp b.2.2 v f)⟩
end L2
namespace Tw
open PySem PySem.Spec L2 PyProof.Rows
variable{jg jh CS CT CH CK CP CB:aj}
def LU{K:zZ}{c:aj}{a:jv}(h:K7 K a [.type "ValueError"]=true)(j:a.length=6){k:Nat}(m:k<6)(b:yY K (a.getD k 0) (.ref c)=some true):XC K c (λi=>a.getD i 0) k:=by
 let⟨d,e,f⟩:=C9 h (k:=k) ∅
 exists d,b,f _ (by simp)
 intro i l;have:=e i ∅
 rw[this]
 congr 1
 by_cases z:k=i
 ·subst z;simp
 ·let g:¬ i=k:=λy=>z y.symm;simp[z,g]
abbrev OF:Stmt:=Xo (top 6) 0
def C1:ZA zEa zEa (Ze OF):=Z4
def Ey{C:aj}(F:Zn K "__init__" "NoTwig.__init__" OF f fd):ZK P w K mg kf Zc 1 f fd zEa (NB K C f "number"):=by
 refine F.ok C1 (λg H Q E h=>(by let⟨_,_,_,rfl,_⟩:=h;rfl)) (λb A a s H g Q E i h=>?_)
 let⟨c,d,y,rfl,e,k⟩:=h;exact⟨_,ZV (KQ (pv 0) (pv 1) rfl),⟨_,Z,_,Z,QN,d,_,_,Z,e,c,k⟩⟩
abbrev P8:Stmt:=Xo (top 7) 0
def ZIC:ZA zEa zEa (Ze P8):=Z4
def Aw{C:aj}(F:Zn K "__init__" "NotHeld.__init__" P8 f fd):ZK P w K mg kf Zc 1 f fd zEa (NB K C f "number"):=by
 refine F.ok ZIC (λg H Q E h=>(by let⟨_,_,_,rfl,_⟩:=h;rfl)) (λb A a s H g Q E i h=>?_)
 let⟨c,d,y,rfl,e,k⟩:=h;exact⟨_,ZV (KQ (pv 0) (pv 1) rfl),⟨_,Z,_,Z,QN,d,_,_,Z,e,c,k⟩⟩
abbrev OS:Stmt:=Xo (top 8) 0
def ZJy:ZA zEa zEa (Ze OS):=Z4
def ZIJ{C:aj}(F:Zn K "__init__" "Shared.__init__" OS f fd):ZK P w K mg kf Zc 1 f fd zEa (NB K C f "number"):=by
 refine F.ok ZJy (λg H Q E h=>(by let⟨_,_,_,rfl,_⟩:=h;rfl)) (λb A a s H g Q E i h=>?_)
 let⟨c,d,y,rfl,e,k⟩:=h;exact⟨_,ZV (KQ (pv 0) (pv 1) rfl),⟨_,Z,_,Z,QN,d,_,_,Z,e,c,k⟩⟩
end Tw
namespace L2
open PySem PySem.Spec PyProof.Rows
def ZHz{P:al}{w:ar}{K:zZ}{L mb:jb}{k:Nat}{fa a:aj}{l:List (aj×aj)}{fd:am}{x:Str}{sp:Sp}{c:ak}{N:jd}{ns:jw}(KX:K.In c.heap)(R:c.heap.Ns ao L)(i:c.heap.Ns builtinsNs mb)(c0:∀ x:Str,x ≠ "__name__"->mb x=ax x)(a4:c.heap.NoLimit)(hg:c.gens=#[])(c1:∃ Y M,L "__builtins__" = some (.ref Y)/\Y≠builtinsNs/\c.heap.get? Y=some M/\M.cls=.type "module" /\ M.dict=some builtinsNs/\M.data=.plain)(hC:∀ x∈l,xY c.heap x.1 x.2)(B:∀ x∈l,c.heap.get? x.2=some (wL #[]))(c5:tE K=true)(U:c.heap.get? a=some { cls:=.type "list",data:=.seq N.toArray })(hi:IntsAre N ns)(hl:ns.length<=ap)(hr:ZZ k callerA)(F:∀ t:aC,K.In t->t.Ns ao L->(∀ x∈l,xY t x.1 x.2/\t.BuiltinsAt L x.2)->ZK P w K L t Zc k fa fd [x] sp)(Q:∀ (s:ak) (u:ai),BindsTo s fd ⟨[u],[]⟩ [(x,u)])(c2:∀ H:Hp,(∀ x∈l,H x.2=some (.tbl #[]))->ZF K H a (ns.map V.int)->sp [.ref a] H (λv _=>v=.bl true) λ_ _ _=>False):
  aF (az P w) callerA (.call (.ref fa) ⟨[.ref a],[]⟩) (λr y=>r=.ok (.ret (.bool true))/\OldK c.heap y.heap/\y.os=c.os/\AllBare y.gens) c:=by
 let rv:=Mj hi;let a6:=hi.length;let hT:∀ b∈l.map (·.2),c.heap.get? b=some (wL #[]):=λb i=>by
  let⟨x,j,rfl⟩:=zJ.mp i;exact B x j
 let mT:∀ x∈l,x.2∈l.map (·.2):=λx j=>zJ.mpr ⟨x,j,Z⟩;let aT:a∉l.map (·.2):=λz=>by rw[hT a z] at U;cases U
 let E:∀ H:Hp,(∀ x∈l,H x.2=some (.tbl #[]))->ZF K H a (ns.map V.int)->YV P w H c.heap->(∀ b,H b≠none->b=a\/b∈l.map (·.2))->(H a≠none->K.lookup a=none/\∃ o xs,H a=some (.frz o (.lst xs))) ->
   aF (az P w) callerA (.call (.ref fa) ⟨[.ref a],[]⟩) (λr y=>r=.ok (.ret (.bool true))/\OldK c.heap y.heap/\y.os=c.os/\AllBare y.gens) c:=by
  intro H hO hS a5 hA hK;let f:∀{b:aj}{o:aH},c.heap.get? b=some o->H b=none->(Vr c.heap H).get? b=some o:=λe n=>GQ e n;let S:∀{b:aj}{o:aH},c.heap.get? b=some o->(∀ c4 n,o.data≠.seq c4 n)->(∀ v,o≠wL v)->H b=none:=fun{b o} e d1 d2=>by
   cases q:H b with
   | none=>rfl
   | some u=>
    rcases hA b (by rw[q];simp) with A | A
    ·subst A;rw[U] at e;cases e;exact absurd Z (d1 _ _)
    ·rw[hT b A] at e;cases e;exact absurd Z (d2 _)
  let C:∀{b:aj}{m:jb},c.heap.Ns b m->(Vr c.heap H).Ns b m:=fun{b m} ⟨o,es,ep,e,d,r⟩=>⟨o,es,ep,f e (S e (λ_ _ z=>by rw[d] at z;cases z) (λ_ z=>by rw[z] at d;cases d)),d,r⟩
  let a2:K.In (Vr c.heap H):=λb o e=>f (KX b o e) (by
   cases q:H b with
   | none=>rfl
   | some u=>
    rcases hA b (by rw[q];simp) with A | A
    ·subst A;rw[(hK (by rw[q];simp)).1] at e;cases e
    ·let G:=KX _ _ e;rw[hT b A] at G;cases G;let h2:=zF.mp c5 _ (PySem.W.mem_of_lookupK e);exact absurd (show false=true from h2) zU)
  let hM:Mod K L (Vr c.heap H):=⟨a2,C R,⟨mb,C i,c0⟩,let ⟨mc,h1,h2⟩:=a4;⟨mc,C h1,h2⟩⟩;let a9:∀ x∈l,xY (Vr c.heap H) x.1 x.2:=λx j=>by
   let⟨o,N,a0,tf,O,tg,c3,a7,tt,e1,G,e3,r⟩:=hC x j;exact⟨o,N,a0,tf,O,tg,c3,a7,tt,f e1 (S e1 (λ_ _ z=>by rw[e3] at z;cases z) (λ_ z=>by rw[z] at G;cases G)),G,e3,r⟩
  let a8:∀ x∈l,(Vr c.heap H).BuiltinsAt L x.2:=λx j=>by
   let⟨Y,M,b1,b2,T,b4,b5,b6⟩:=c1;refine⟨Y,M,b1,b2,λz=>?_,λz=>?_,f T (S T (λ_ _ z=>by rw[b6] at z;cases z) (λ_ z=>by rw[z] at b4;cases b4)),b4,b5,b6⟩
   ·let⟨o,es,ep,e,d,_⟩:=R;rw[z,e] at T;cases T;rw[d] at b6;cases b6
   ·rw[z,B x j] at T;cases T;cases b4
  let e0:Wf P w K L (Vr c.heap H) callerA [] c H:=⟨Z,hM,λb o e=>Hj e,wD (F8 _ _),trivial,λb i=>absurd (show b∈([]:jv) from i) (by simp),a5,.of_eq hg⟩
  refine codeAny_mono ((F _ a2 (C R) λx j=>⟨a9 x j,a8 x j⟩).run callerA [] c H ⟨[.ref a],[]⟩ [.ref a] [.ref a] _ _ hr e0 (Q c (.ref a)) (.cons rfl .nil) (c2 H hO hS)) λr y h=>?_
  cases r with
  | error e=>exact h.elim
  | ok fl=>
   cases fl with
   | next=>exact False.elim h
   | brk=>exact False.elim h
   | cont=>exact False.elim h
   | ret u=>
    let⟨v,H',os,X,un,I,r',q⟩:=h;let q':v=.bl true:=q;subst q';obtain rfl:u=Value.bool true:=r';let a1:∀ x∈l,∃ p,y.heap.get? x.2=some (wL (#[]++p)):=λx j=>by
     let⟨p,z⟩:=un.tbls x.2 #[] (hO x j);exact⟨p,I x.2 _ z⟩
    let J:∀ b o,b∉l.map (·.2)->c.heap.get? b=some o->y.heap.get? b=some o:=λb o n e=>by
     cases q:H b with
     | none=>exact un.keep b o e q (by intro z;exact absurd (show b∈([]:jv) from z) (by simp)) (by simp)
     | some u=>
      let A:b=a:=(hA b (by rw[q];simp)).resolve_right n
      subst A;let⟨_,M,xs,z⟩:=hK (by rw[q];simp)
      let z2:=un.frzs b M _ z;let⟨e1,_⟩:=a5 b _ z;let⟨G,_⟩:=I b _ z2;rw[e] at e1;cases e1;exact G
    refine⟨Z,⟨λb o e=>?_,λb o e=>?_⟩,os,X⟩
    ·by_cases z:b∈l.map (·.2)
     ·let⟨x,j,rfl⟩:=zJ.mp z;let⟨p,g⟩:=a1 x j;rw[B x j] at e;cases e;exact .inr (.inl ⟨((hC x j).tab (B x j)).isCodeTable,rfl,#[],p,rfl,g⟩)
     ·exact .inl (J b o z e)
    ·by_cases z:b∈l.map (·.2)
     ·let⟨x,j,rfl⟩:=zJ.mp z;let⟨p,g⟩:=a1 x j;exact⟨_,g⟩
     ·exact⟨o,J b o z e⟩
 cases hk:K.lookup a with
 | some o=>
  let e:=KX a o hk;rw[U] at e;cases e;refine E (λb=>if b∈l.map (·.2) then some (.tbl #[]) else none) (λx j=>aO (mT x j)) (.inr ⟨_,N.toArray,_,hk,rfl,rfl,rfl,by rw[zK,a6];exact hl,by simpa using rv⟩) (λb u z=>?_) (λb z=>?_) λz=>absurd (aM aT) z
  ·by_cases i:b∈l.map (·.2)
   ·let D:=(aO i).symm.trans z;cases D;exact hT b i
   ·let D:=(aM i).symm.trans z;cases D
  ·by_cases i:b∈l.map (·.2)
   ·exact .inr i
   ·exact absurd (aM i) z
 | none=>
  refine E (λb=>if b∈l.map (·.2) then some (.tbl #[]) else if b=a then some (.frz { cls:=.type "list",data:=.seq N.toArray } (.lst (ns.map V.int))) else none) (λx j=>aO (mT x j)) (.inl (.inr ⟨{ cls:=.type "list",data:=.seq N.toArray },(aM aT).trans (aO rfl)⟩)) (λb u z=>?_) (λb z=>?_) λ_=>⟨hk,_,_,(aM aT).trans (aO rfl)⟩
  ·by_cases i:b∈l.map (·.2)
   ·let D:=(aO i).symm.trans z;cases D;exact hT b i
   ·let z:=(aM i).symm.trans z;by_cases i:b=a
    ·let D:=(aO i).symm.trans z;cases D;subst i;exact⟨U,by rw[zX];exact hl,N,_,rv,U⟩
    ·let D:=(aM i).symm.trans z;cases D
  ·by_cases i:b∈l.map (·.2)
   ·exact .inr i
   ·by_cases a3:b=a
    ·exact .inl a3
    ·exact absurd ((aM i).trans (aM a3)) z
def Lx(K:zZ)(a:js):List (aj×aj):=a.filterMap λp=>yF K p
def NQ{l:uO}{n k:Nat}{q:al}{t:js}{XP:(jb)->aC->Prop}{R:ar->aC->Prop}{d:DefRec}{K:Params->zZ}{sp:zZ->Sp}{x:Str}{ps:js}(hn:l.most=some n)(N:n<=ap)(L:d.params.defaults=[])(hr:ZZ k callerA)(hY:∀ (w:ar) (h:aC),R w h->(K w.params).In h)(B:∀ p∈ps,((recsOf q).find? (λe=>e.name==p)).isSome=true)(O:∀ w:ar,tE (K w.params)=true)(F:∀ (w:ar) (z:jb) (D:aj) (h:aC),(K w.params).In h->h.Ns ao z->z d.name=some (.ref D) ->
   ∃ J:am,(∀ (s:ak) (u:ai),BindsTo s J ⟨[u],[]⟩ [(x,u)]) /\
    ∀ i:aC,(K w.params).In i->i.Ns ao z->(∀ y∈Lx (K w.params) ps,xY i y.1 y.2/\i.BuiltinsAt z y.2)->ZK l.prog w (K w.params) z i Zc k D J [x] (sp (K w.params)))(Q:∀ (w:ar) (H:Hp) (a:aj) (E:jw),E.length<=n->(∀ y∈Lx (K w.params) ps,H y.2=some (.tbl #[]))->ZF (K w.params) H a (E.map V.int)->sp (K w.params) [.ref a] H (λv _=>v=.bl true) λ_ _ _=>False):
  tQ q t XP R l.row.toRowW d [] (λf X=>PySem.call f X):=by
 refine Att.attach_call hn L λw S m z mb D o pm cd a0 a X E G Y ho hd a1 M A r j hg=>?_;let I:=hY w _ Y;let⟨J,hb,hF⟩:=F w z D _ I G.T.g M;let U:∀ y∈Lx (K w.params) ps,xY m.heap y.1 y.2/\m.heap.get? y.2=some (wL #[]):=λy C=>by
  let⟨p,hp,e⟩:=xI.mp C;exact PySem.W.tab_of (c:=y.1) (P:=y.2) G.T I (Option.some_get (B p hp)).symm e
 exact ZHz I G.T.g G.T.b G.T.builtins G.T.nolimit hg G.T.bmain (λy C=>(U y C).1) (λy C=>(U y C).2) (O w) A r (zE j N) hr hF hb (λH hO hS=>Q w H a E j hO hS)
end L2
namespace Tw
open PySem PySem.Spec L2 PyProof.Rows
def MO{K:zZ}{C f:aj}{m q:Str}{d:aB}{j:js}{t e:jy}{u:Array (jc)}{s kV o i n ct:ai}(v:zD K (.ref C) m=some (some (.ref f)))(l:K.lookup f=some ⟨s,t,.func (yE m q (Vb d) (Xk d) (Ze d) .none kV o i e n ct),u⟩)(p:wW K (.ref f)=true)(c:xR K n q=true)(k:yT K (.ref f)=true)(r:∀ (kV h i:ai) (e:jy) (g ct:ai) (a:jd),a.length=j.length->bindArgs (yE m q (Vb d) (Xk d) (Ze d) .none kV h i e g ct) ⟨a,[]⟩=pure (j.zip a):=by first | exact(λ_ _ _ _ _ _ a b=>match a,b with | [_],_=>rfl) | exact(λ_ _ _ _ _ _ a b=>match a,b with | [_,_],_=>rfl) | exact(λ_ _ _ _ _ _ a b=>match a,b with | [_,_,_],_=>rfl) | exact(λ_ _ _ _ _ _ a b=>match a,b with | [_,_,_,_],_=>rfl) | exact(λ_ _ _ _ _ _ a b=>match a,b with | [_,_,_,_,_],_=>rfl)):Zw K C m q d j:=
 ⟨f,_,⟨v,p,k⟩,Vi (st:=d) l c k,(Vi (st:=d) l c k).binds r⟩
structure U4(K:zZ)(C:aj)(q:Str)(st:aB)(ps:js):Prop where
 ex:∃ f fd,zD K (.ref C) "__init__" = some (some (.ref f))/\wW K (.ref f)=true/\Zn K "__init__" q st f fd/\Z5 K fd ps []
def MG{K:zZ}{C f:aj}{q:Str}{d:aB}{j:js}{s e:jy}{t:Array (jc)}{r kV n i m ct:ai}(v:zD K (.ref C) "__init__" = some (some (.ref f)))(l:K.lookup f=some ⟨r,s,.func (yE "__init__" q (Vb d) (Xk d) (Ze d) .none kV n i e m ct),t⟩)(o:wW K (.ref f)=true)(c:xR K m q=true)(k:yT K (.ref f)=true)(p:∀ (kV h i:ai) (e:jy) (g ct:ai) (a:jd),a.length=j.length->bindArgs (yE "__init__" q (Vb d) (Xk d) (Ze d) .none kV h i e g ct) ⟨a,[]⟩=pure (j.zip a):=by first | exact(λ_ _ _ _ _ _ a b=>match a,b with | [_],_=>rfl) | exact(λ_ _ _ _ _ _ a b=>match a,b with | [_,_],_=>rfl) | exact(λ_ _ _ _ _ _ a b=>match a,b with | [_,_,_],_=>rfl) | exact(λ_ _ _ _ _ _ a b=>match a,b with | [_,_,_,_],_=>rfl) | exact(λ_ _ _ _ _ _ a b=>match a,b with | [_,_,_,_,_],_=>rfl)):U4 K C q d j:=
 ⟨f,_,v,o,Vi (st:=d) l c k,(Vi (st:=d) l c k).binds p⟩
def ZQP{K:zZ}{x:Str}{f c P:aj}{k:ai}{m:jy}{h:am}{n:Array (jc)}{b:ai}{d:jy}{i:jA}{g:Array (jc)}(a:zN K ao x=some (some (.ref f)))(l:K.lookup f=some ⟨k,m,.func h,n⟩)(e:h.code=.ref c)(j:K.lookup c=some ⟨b,d,.fields i,g⟩)(v:i[11]? = some (.ref P)):yF K x=some (c,P):=by
 unfold yF;rw[a];simp only;rw[l];simp only;rw[e];simp only;rw[j];simp only;rw[v]
def KJ{l:uO}{w:ar}{K:zZ}{h:aC}{mg:jb}{fa cb0 tb0 cb1 tb1 f35 f39 f41 CB CK CL CS CT CH CD jg jh jN jH jD:aj}(X:K.In h)(G:h.Ns ao mg)(hfa:mg "law" = some (.ref fa))(hta:yF K "_law_put_stem" = some (cb0,tb0))(htb:yF K "_law_change_stem" = some (cb1,tb1)){od35 an35 od39 an39 od41 an41:jy}{sl35 sl39 sl41:Array (jc)}{oc35 kV35 dc35 pm35 cd35 ct35 oc39 kV39 dc39 pm39 cd39 ct39 oc41 kV41 dc41 pm41 cd41 ct41:ai}{t1 t2 t3 t4 t5 t6 t7 t8 t9 t10:Tok}(L1:Zl K mg "is_key" JY zE7)(L2:Zl K mg "checked" Kl zE7)(L3:Zl K mg "fits" Lm zEw)(L4:Zl K mg "has_few_figures" K2 zFd)(L5:Zl K mg "is_sign" K8 ["sign"])(L6:Zl K mg "ahead" JN zE6)(L7:Zl K mg "standing" Mt zFb)(L8:Zl K mg "checked_rows" IA zE1)(L9:Zl K mg "own_rows" Ki zE1)(L10:Zl K mg "rise" IJ ["keys"])(L11:Zl K mg "label_of_rows" JX zE1)(L12:Zl K mg "label_over" IN zFc)(L13:Zl K mg "stand_side_by_side" Kq zE4)(L14:Zl K mg "is_stem" IH ["twig"])(L15:Zl K mg "_law_well" IQ zE0)(L16:Zl K mg "_law_pull" KY zEe)(L17:Zl K mg "_law_rank" Mq zE5)(L18:Zl K mg "_law_less" IW zEv)(L19:Zl K mg "_law_alike" LY zEc)(L20:Zl K mg "_law_grid" IM zE9)(L21:Zl K mg "_law_leaf_rows" JW zEt)(L22:Zl K mg "_law_rows_of" JZ zEb)(L23:Zl K mg "_law_label" JT zEb)(L24:Zl K mg "_law_above" Kc zEb)(L25:Zl K mg "_law_shared" Ka zEl)(L26:Zl K mg "_law_count" Jm zEc)(L27:Zl K mg "_law_exact" Lp zEs)(L28:Zl K mg "_law_asked" Km zE2)(L29:Zl K mg "_law_wrong" IE zEh)(L30:Zl K mg "_law_unheld" Jf zEp)(L31:Zl K mg "_law_rises" Id zEr)(L32:Zl K mg "_law_picked" Jq zEk)(L33:Zl K mg "_law_run" KH zEi)(L34:Zl K mg "_law_put_leaf" Kn zEo)(a35:zN K ao "_law_put_stem" = some (some (.ref f35)))(l35:K.lookup f35=some ⟨oc35,od35,.func (yE "_law_put_stem" "_law_put_stem" (Vb Vs) (Xk Vs) (Ze Vs) .none kV35 dc35 pm35 an35 cd35 ct35),sl35⟩)(c35:xR K cd35 "_law_put_stem" = true)(k35:yT K (.ref f35)=true)(L36:Zl K mg "_law_hold" IV zEf)(L37:Zl K mg "_law_stem_due" Ja zEg)(L38:Zl K mg "_law_other_branches" IG zEd)(a39:zN K ao "_law_change_stem" = some (some (.ref f39)))(l39:K.lookup f39=some ⟨oc39,od39,.func (yE "_law_change_stem" "_law_change_stem" (Vb Wy) (Xk Wy) (Ze Wy) .none kV39 dc39 pm39 an39 cd39 ct39),sl39⟩)(c39:xR K cd39 "_law_change_stem" = true)(k39:yT K (.ref f39)=true)(L40:Zl K mg "_law_begun" Je zEu)(a41:zN K ao "law" = some (some (.ref f41)))(l41:K.lookup f41=some ⟨oc41,od41,.func (yE "law" "law" (Vb PD) (Xk PD) (Ze PD) .none kV41 dc41 pm41 an41 cd41 ct41),sl41⟩)(c41:xR K cd41 "law" = true)(k41:yT K (.ref f41)=true)(z1:zN K ao "isinstance" = some none)(z2:zN K ao "bool" = some none)(z3:zN K ao "int" = some none)(z4:zN K ao "str" = some none)(z5:zN K ao "tuple" = some none)(z6:zN K ao "list" = some none)(z7:zN K ao "len" = some none)(z8:zN K ao "all" = some none)(z9:zN K ao "abs" = some none)(z10:zN K ao "max" = some none)(z11:zN K ao "min" = some none)(z12:zN K ao "range" = some none)(z13:zN K ao "sorted" = some none)(z14:zN K ao "ValueError" = some none)(z15:zN K ao "sum" = some none)(z16:zN K ao "dict" = some none)(z17:zN K ao "reversed" = some none)(m1_:zN K ao "MOST_SIGNS" = some (some (.int 40 t1)))(m2_:zN K ao "MOST_THINGS" = some (some (.int 4 t2)))(m3_:zN K ao "MOST_DEEP" = some (some (.int 3 t3)))(m4_:zN K ao "MOST_ROWS" = some (some (.int 4 t4)))(m5_:zN K ao "FEWEST_BRANCHES" = some (some (.int 2 t5)))(m6_:zN K ao "MOST_BRANCHES" = some (some (.int 4 t6)))(m7_:zN K ao "HEIGHT" = some (some (.int 0 t7)))(m8_:zN K ao "LEAST" = some (some (.int 1 t8)))(m9_:zN K ao "GREATEST" = some (some (.int 2 t9)))(m10_:zN K ao "MANY" = some (some (.int 3 t10)))(IjS:U4 K jg "Shelf.__init__" Ih zEq)(IjT:U4 K jh "Twig.__init__" IZ zEx){ocjN kVjN dcjN pmjN cdjN ctjN:ai}{odjN anjN:jy}{sljN:Array (jc)}(iljN:K.lookup jN=some ⟨ocjN,odjN,.func (yE "__init__" "NoTwig.__init__" (Vb OF) (Xk OF) (Ze OF) .none kVjN dcjN pmjN anjN cdjN ctjN),sljN⟩)(icjN:xR K cdjN "NoTwig.__init__" = true)(ikjN:yT K (.ref jN)=true){ocjH kVjH dcjH pmjH cdjH ctjH:ai}{odjH anjH:jy}{sljH:Array (jc)}(iljH:K.lookup jH=some ⟨ocjH,odjH,.func (yE "__init__" "NotHeld.__init__" (Vb P8) (Xk P8) (Ze P8) .none kVjH dcjH pmjH anjH cdjH ctjH),sljH⟩)(icjH:xR K cdjH "NotHeld.__init__" = true)(ikjH:yT K (.ref jH)=true){ocjD kVjD dcjD pmjD cdjD ctjD:ai}{odjD anjD:jy}{sljD:Array (jc)}(iljD:K.lookup jD=some ⟨ocjD,odjD,.func (yE "__init__" "Shared.__init__" (Vb OS) (Xk OS) (Ze OS) .none kVjD dcjD pmjD anjD cdjD ctjD),sljD⟩)(icjD:xR K cdjD "Shared.__init__" = true)(ikjD:yT K (.ref jD)=true)(Mm1:Zw K jg "put_leaf" "Shelf.put_leaf" Lz zFf)(Mm2:Zw K jg "put_stem" "Shelf.put_stem" Ib zEj)(Mm3:Zw K jg "put_twig" "Shelf.put_twig" JH zEz)(Mm4:Zw K jg "holders" "Shelf.holders" Kr zEa)(Mm5:Zw K jg "outside" "Shelf.outside" KG zEa)(Mm6:Zw K jg "alone" "Shelf.alone" Kh zEa)(Mm7:Zw K jg "look" "Shelf.look" KL zEa)(Mm8:Zw K jg "label" "Shelf.label" M0 zEa)(Mm9:Zw K jg "forget" "Shelf.forget" JM zEq)(Mm10:Zw K jg "numbers" "Shelf.numbers" JB zEq)(Mm11:Zw K jg "many" "Shelf.many" Kw zEq)(Mm12:Zw K jg "twig_of" "Shelf.twig_of" Mo zEa)(Mm13:Zw K jg "labels_of" "Shelf.labels_of" KO zEj)(Mm14:Zw K jg "check_held" "Shelf.check_held" JS zEj)(Mm15:Zw K jg "take_over" "Shelf.take_over" Jr zEn)(Mm16:Zw K jg "road_up" "Shelf.road_up" Kx zEa)(Mm17:Zw K jg "hold" "Shelf.hold" Js zEa)(Mm18:Zw K jg "change_stem" "Shelf.change_stem" Lu zEm)(Mm19:Zw K jg "labels_up" "Shelf.labels_up" JO zE3)(Mm20:Zw K jg "give_labels" "Shelf.give_labels" IR zFe)(Mm21:Zw K jg "give_back" "Shelf.give_back" K1 zEn)(xCB:zN K ao "TwigError" = some (some (.ref CB)))(xCK:zN K ao "NoKey" = some (some (.ref CK)))(xCL:zN K ao "NoLeaf" = some (some (.ref CL)))(xCS:zN K ao "NoStem" = some (some (.ref CS)))(xCT:zN K ao "NoTwig" = some (some (.ref CT)))(xCH:zN K ao "NotHeld" = some (some (.ref CH)))(xCD:zN K ao "Shared" = some (some (.ref CD)))(xCSh:zN K ao "Shelf" = some (some (.ref jg)))(xCTw:zN K ao "Twig" = some (some (.ref jh)))(vjN:zD K (.ref CT) "__init__" = some (some (.ref jN)))(vjH:zD K (.ref CH) "__init__" = some (some (.ref jH)))(vjD:zD K (.ref CD) "__init__" = some (some (.ref jD)))(mkCSh:uN K jg=true)(kpCSh:yT K (.ref jg)=true)(pgCSh:vX K jg Str.empty=true)(hdCSh:wK K jg=true)(poCSh:uH K jg=true)(saCSh:zD K (.ref jg) "__setattr__" = some (some (.builtin "object.__setattr__")))(mkCTw:uN K jh=true)(kpCTw:yT K (.ref jh)=true)(pgCTw:vX K jh Str.empty=true)(hdCTw:wK K jh=true)(poCTw:uH K jh=true)(saCTw:zD K (.ref jh) "__setattr__" = some (some (.builtin "object.__setattr__")))(na_kept:zD K (.ref jg) "kept" = some none)(na_following:zD K (.ref jg) "following" = some none)(na_looks:zD K (.ref jg) "looks" = some none)(na_things:zD K (.ref jh) "things" = some none)(na_tag:zD K (.ref jh) "tag" = some none)(na_above:zD K (.ref jh) "above" = some none)(na_holds:zD K (.ref jh) "holds" = some none)(tyB:yB K (.ref CB)=some (.type "type"))(mB:yY K CB (.type "BaseException")=some true)(kitx:K7 K [CK,CL,CS,CT,CH,CD] [.type "ValueError"]=true)(wCT:xF K CT jN "number" = true)(tyCT:yB K (.ref CT)=some (.type "type"))(wCH:xF K CH jH "number" = true)(tyCH:yB K (.ref CH)=some (.type "type"))(wCD:xF K CD jD "number" = true)(tyCD:yB K (.ref CD)=some (.type "type"))(sbCS:yY K CS (.ref CB)=some true)(sbCT:yY K CT (.ref CB)=some true)(sbCH:yY K CH (.ref CB)=some true)(sbCK:yY K CK (.ref CB)=some true)(sbCL:yY K CL (.ref CB)=some true)(sbCD:yY K CD (.ref CB)=some true)(exCS:vM K CS Q7 "ValueError.__new__" = true)(kpCS:yT K (.ref CS)=true)(mBCS:yY K CS (.type "BaseException")=some true)(tyCS:yB K (.ref CS)=some (.type "type"))(mBCD:yY K CD (.type "BaseException")=some true)(slCD:yY K CD (.ref CD)=some true):
  ∃ p:am,(∀(s:ak)(v:ai),BindsTo s p ⟨[v],[]⟩ [("_law_script",v)])/\∀ a:aC,K.In a->a.Ns ao mg->xY a cb0 tb0->a.BuiltinsAt mg tb0->xY a cb1 tb1->a.BuiltinsAt mg tb1->ZK l.prog w K mg a Zc 80 fa p zFg (VH tb0 tb1 K):=by
 let e:=hfa.symm.trans (yZ X G a41);cases e;let T:YZ mg:=⟨yC X G z1,yC X G z2,yC X G z3,yC X G z4,yC X G z5,yC X G z6,yC X G z7,yC X G z8,yC X G z9,yC X G z10,yC X G z11,yC X G z12,yC X G z13,yC X G z14,yC X G z15,⟨_,yZ X G m1_⟩,⟨_,yZ X G m2_⟩,⟨_,yZ X G m3_⟩,⟨_,yZ X G m4_⟩,⟨_,yZ X G m5_⟩,⟨_,yZ X G m6_⟩,⟨_,yZ X G m7_⟩,⟨_,yZ X G m8_⟩,⟨_,yZ X G m9_⟩,⟨_,yZ X G m10_⟩⟩;exists yE "law" "law" (Vb PD) (Xk PD) (Ze PD) .none kV41 dc41 pm41 an41 cd41 ct41,λs v=>.of_eq Z;intro a kb _ hC hB i8 i7;let Tr:mg "reversed" = none:=yC X G z17;let i2:Nm K mg CB (λi=>[CK,CL,CS,CT,CH,CD].getD i 0):=⟨yZ X G xCB,tyB,mB,yZ X G xCK,yZ X G xCL,yZ X G xCS,yZ X G xCT,yZ X G xCH,yZ X G xCD⟩;let X2:XC K CB (λi=>[CK,CL,CS,CT,CH,CD].getD i 0) 2:=LU kitx Z (by decide) sbCS
 let X3:XC K CB (λi=>[CK,CL,CS,CT,CH,CD].getD i 0) 3:=LU kitx Z (by decide) sbCT
 let X4:XC K CB (λi=>[CK,CL,CS,CT,CH,CD].getD i 0) 4:=LU kitx Z (by decide) sbCH
 let c:Yj K mg jg jh:=⟨yZ X G xCSh,yZ X G xCTw,⟨pgCSh,hdCSh,poCSh,saCSh⟩,⟨pgCTw,hdCTw,poCTw,saCTw⟩,na_kept,na_following,na_looks,na_things,na_tag,na_above,na_holds⟩;let i4:XN l.prog w K mg a "NoTwig" CT:=⟨⟨jN,_,Pz wCT,Ey (Vi (st:=OF) iljN icjN ikjN),(Vi (st:=OF) iljN icjN ikjN).binds λ_ _ _ _ _ _ n k=>match n,k with | [_,_],_=>rfl⟩,yZ X G xCT,tyCT⟩
 let i1:XN l.prog w K mg a "NotHeld" CH:=⟨⟨jH,_,Pz wCH,Aw (Vi (st:=P8) iljH icjH ikjH),(Vi (st:=P8) iljH icjH ikjH).binds λ_ _ _ _ _ _ n k=>match n,k with | [_,_],_=>rfl⟩,yZ X G xCH,tyCH⟩
 let i3:XN l.prog w K mg a "Shared" CD:=⟨⟨jD,_,Pz wCD,ZIJ (Vi (st:=OS) iljD icjD ikjD),(Vi (st:=OS) iljD icjD ikjD).binds λ_ _ _ _ _ _ n k=>match n,k with | [_,_],_=>rfl⟩,yZ X G xCD,tyCD⟩
 let i6:XS l.prog w K mg a CS:=⟨yZ X G xCS,exCS,kpCS,mBCS,tyCS⟩;let i5:XD K mg CD:=⟨yZ X G xCD,tyCD,mBCD,slCD⟩;let a3:Ug l.prog w K mg a 1 jg zEq (QJ jg):=by let⟨f,p,v,fn,F,b⟩:=IjS.ex;exact⟨f,p,⟨mkCSh,v,fn,kpCSh⟩,Af F c,b⟩
 let a4:Ug l.prog w K mg a 1 jh zEx (Qn jh):=by let⟨f,p,v,fn,F,b⟩:=IjT.ex;exact⟨f,p,⟨mkCTw,v,fn,kpCTw⟩,Bq F c,b⟩
 let d:ZI l.prog w K mg a Zc 1 jg "twig_of" zEa (Zr jg):=Mm12.of λ_ _ F=>Dk F c;let J:=Mm5.of λ_ _ F=>Cm F c d;let H:=Mm8.of λ_ _ F=>Ap F c d;let E:=Mm4.of λ_ _ F=>ZH4 F T c d;let M:∀ gt,ZI l.prog w K mg a (YL l.prog w) 3 jg "road_up" zEa (VD gt jg jh CD):=λgt=>Mm16.of λ_ _ F=>CV F c i3 d E;let c7:∀ gt,ZI l.prog w K mg a Zc 4 jg "alone" zEa (VA gt jg jh):=λgt=>Mm6.of λ_ _ F=>Ak F c i5 (M gt);let c9:ZI l.prog w K mg a Zc 1 jg "forget" zEq (WB jg jh):=Mm9.of λ_ _ F=>Ex F c;let x:ZC l.prog w K mg a 1 "is_stem" ["twig"] (VP jh):=L14.of λ_ _ F=>Ci F T c;let e4:=Mm7.of λ_ _ F=>ZNg F T c d x;let e6:ZI l.prog w K mg a Zc 1 jg "many" zEq (UD jg):=Mm11.of λ_ _ F=>Dg F T c;let e7:ZI l.prog w K mg a Zc 1 jg "numbers" zEq (Xf jg):=Mm10.of λ_ _ F=>ZH8 F T c;let L:=Mm3.of λ_ _ F=>ZHv F c a4;let N:=Mm15.of λ_ _ F=>BR F c d;let i0:ZI l.prog w K mg a (YL l.prog w) 3 jg "twig_of" zEa (Xg jg CT):=Mm12.of λ_ _ F=>BQ F c i4;let e3:=Mm8.of λ_ _ F=>AM F c i0;let I:=Mm13.of λ_ _ F=>ZGI F c e3;let D:=Mm14.of λ_ _ F=>Be F c i1 J;let o:ZC l.prog w K mg a 1 "_law_pull" zEe (YQ):=L16.of λ_ _ F=>ZNZ F;let DW:ZC l.prog w K mg a 1 "_law_well" zE0 (V5 K):=L15.of λ_ _ F=>ZMe F T;let DN:ZC l.prog w K mg a 1 "has_few_figures" zFd (UW):=L4.of λ_ _ F=>Bw F T;let c3:ZC l.prog w K mg a 1 "is_sign" ["sign"] (VL):=L5.of λ_ _ F=>ZNe F;let Y:=L1.of λ_ _ F=>ZKg F T (Ff T L3 DN c3 4);let DC:=L2.of λ_ _ F=>ZID F Y;let c5:ZC l.prog w K mg a 6 "standing" zFb (Vw 5):=Fj T L7 5;let u:=L6.of λ_ _ F=>ZKN F c5;let a9:=L10.of λ_ _ F=>Cw F T u;let a6:=L9.of λ_ _ F=>BM F DC;let R:=L8.of λ_ _ F=>C8 F T a6 a9;let a0:ZC l.prog w K mg a 1 "label_of_rows" zE1 (Xb):=L11.of λ_ _ F=>ZH0 F T;let e8:=Mm1.of λ_ _ F=>Bm F c R a0 L;let c4:=L13.of λ_ _ F=>Dd F T u;let t:QM l.prog w K mg a 9 "label_over" zFc (X6 CS):=by let⟨f,p,F,b,m⟩:=(L12).ex;exact⟨f,p,Cz F kb T i6 c4,b,F.kp,m⟩
 let e9:∀ gt,ZI l.prog w K mg a (YL l.prog w) 10 jg "put_stem" zEj (YM gt jg jh CS CT CH):=λgt=>Mm2.of λ_ _ F=>Cn F T c I t D L N;let y:ZC l.prog w K mg a 7 "_law_less" zEv (Y1):=L18.of λ_ _ F=>ZM1 F (Fi T L17 5);let r:ZC l.prog w K mg a 7 "_law_alike" zEc (YN 6):=EC T L19 6;let U:=L20.of λ_ _ F=>BW F T o;let a2:=L21.of λ_ _ F=>Dw F T o;let c1:∀ gt,ZC l.prog w K mg a 1 "_law_rows_of" zEb (WP gt):=λgt=>L22.of λ_ _ F=>ZJ2 F T Tr;let g:∀ gt,ZC l.prog w K mg a 2 "_law_label" zEb (Ya gt):=λgt=>L23.of λ_ _ F=>ZKD F T (c1 gt);let q:∀ gt,ZC l.prog w K mg a 1 "_law_above" zEb (XQ gt):=λgt=>L24.of λ_ _ F=>ZLb F T;let z:∀ gt,ZC l.prog w K mg a 2 "_law_shared" zEl (XR gt):=λgt=>L25.of λ_ _ F=>B6 F T (q gt);let Q:ZC l.prog w K mg a 1 "_law_count" zEc (VJ):=L26.of λ_ _ F=>Bt F T;let j:=L32.of λ_ _ F=>ZJg F T o;let A:ZC l.prog w K mg a 1 "_law_unheld" zEp (Yy):=L30.of λ_ _ F=>ZIb F T;let B:∀ gt,ZC l.prog w K mg a 8 "_law_wrong" zEh (XL gt):=λgt=>L29.of λ_ _ F=>E3 (Hz F T (g gt) y) ZHy;let c0:∀ gt,ZC l.prog w K mg a 4 "_law_run" zEi (UM gt):=λgt=>L33.of λ_ _ F=>ZO4 F T o j (g gt);let DQ:ZC l.prog w K mg a 71 "_law_asked" zE2 (YU l.prog w K mg a CB (λi=>[CK,CL,CS,CT,CH,CD].getD i 0)):=L28.of λ_ _ F=>BD F T i2;let S:ZC l.prog w K mg a 8 "_law_exact" zEs (Ux λgt=>X1 gt jg jh):=L27.of λ_ _ F=>ML λgt=>E5 F T c e7 e6 e4 H J E (c7 gt) c9 r Q (g gt) (q gt) (z gt);let a7:ZC l.prog w K mg a 11 "_law_put_leaf" zEo (Ux λgt=>Y7 gt jg jh):=L34.of λ_ _ F=>ML λgt=>AH F T c a2 e8;let a8:ZC l.prog w K mg a 72 "_law_put_stem" zEf (Ux λgt=>XA gt jg jh tb0):=⟨f35,_,ML (λgt=>Dh (C:=λi=>[CK,CL,CS,CT,CH,CD].getD i 0) (Vi (st:=Vs) l35 c35 k35) a35 hta hC hB T c X2 X3 X4 (Pz wCT) (Pz wCH) (e9 gt) DQ (c0 gt) o j (B gt) A r),(Vi (st:=Vs) l35 c35 k35).binds λ_ _ _ _ _ _ n k=>match n,k with | [_,_],_=>rfl,k35,yZ X G a35⟩
 let O:=L40.of λ_ _ F=>ZLU F T c a3 U a7 a8;let e2:=Mm17.of λ_ _ F=>Ek F c d;let Td:mg "dict" = none:=yC X G z16;let ZS:XZ K mg "NoStem" CS:=⟨yZ X G xCS,exCS,kpCS,mBCS,tyCS⟩;let e0:=Mm21.of λ_ _ F=>E4 F c d;let e5:∀ gt,ZI l.prog w K mg a (YL l.prog w) 10 jg "labels_up" zE3 (X0 gt jg jh CS):=λgt=>Mm19.of λ_ _ F=>Cr F c d H t;let e1:=Mm20.of λ_ _ F=>AB F c d;let c8:∀ gt,ZI l.prog w K mg a (YL l.prog w) 11 jg "change_stem" zEm (YB gt jg jh CS CT CH CD):=λgt=>Mm18.of λ_ _ F=>Ah F kb T c ZS d x (M gt) I t (e5 gt) D e1 N e0;let c6:∀ gt,ZC l.prog w K mg a 8 "_law_wrong" zEh (XM gt):=λgt=>L29.of λ_ _ F=>Hz F T (g gt) y;let c2:∀ gt,ZC l.prog w K mg a 9 "_law_rises" zEr (Xz gt):=λgt=>L31.of λ_ _ F=>ZKp F T Td (q gt) (B gt);let a1:∀ gt,ZC l.prog w K mg a 10 "_law_stem_due" zEg (YY gt):=λgt=>L37.of λ_ _ F=>CW F (z gt) (g gt) (c6 gt) (c2 gt) A;let a5:∀ gt,ZC l.prog w K mg a 4 "_law_other_branches" zEd (XI gt):=λgt=>L38.of λ_ _ F=>AY F T o (g gt);let V:ZC l.prog w K mg a 3 "_law_hold" zEf (Ux λgt=>Wz gt jg jh):=L36.of λ_ _ F=>ML λgt=>ZLQ F T c j e2;let P:ZC l.prog w K mg a 72 "_law_change_stem" zEf (Ux λgt=>Xe gt jg jh tb1):=⟨f39,_,ML (λgt=>Ew (C:=λi=>[CK,CL,CS,CT,CH,CD].getD i 0) (Vi (st:=Wy) l39 c39 k39) a39 htb i8 i7 T c X2 X3 X4 (LU kitx Z (by decide) sbCD) (Pz wCT) (Pz wCH) (Pz wCD) (c8 gt) DQ (a1 gt) r o j (a5 gt)),(Vi (st:=Wy) l39 c39 k39).binds λ_ _ _ _ _ _ n k=>match n,k with | [_,_],_=>rfl,k39,yZ X G a39⟩
 exact ZO7 (Vi (st:=PD) l41 c41 k41) T DW o O V P S
def tT(K:zZ)(p:Str):Addr:=((yF K p).getD (0,0)).2
def IS(K:zZ):Bool:=match yF K "_law_put_stem",yF K "_law_change_stem" with
 | some a,some b=>a.2 != b.2
 | _,_=>false
def EA{K:zZ}(h:IS K=true):∃ g e i f,yF K "_law_put_stem" = some (g,e)/\yF K "_law_change_stem" = some (i,f)/\e≠f:=by
 unfold IS at h
 cases c:yF K "_law_put_stem" with
 | none=>rw[c] at h;cases h
 | some a=>
  cases d:yF K "_law_change_stem" with
  | none=>rw[c,d] at h;cases h
  | some b=>
   rw[c,d] at h;exact⟨a.1,a.2,b.1,b.2,Z,Z,by simpa using h⟩
def walk{l:uO}{q:al}{m:js}{V:(jb)->aC->Prop}{M:ar->aC->Prop}{d:DefRec}{K:Params->zZ}(hn:l.most=some 63)(J:d.params.defaults=[])(hY:∀ (w:ar) (h:aC),M w h->(K w.params).In h)(A:((recsOf q).find? (λe=>e.name==(("_law_put_stem" : String):Str))).isSome=true)(j:((recsOf q).find? (λe=>e.name==(("_law_change_stem" : String):Str))).isSome=true)(g:∀ w:ar,IS (K w.params)=true)(L:∀ w:ar,tE (K w.params)=true)(F:∀ (w:ar) (i:jb) (E:aj) (h:aC) (c T N B:aj),(K w.params).In h->h.Ns ao i->i d.name=some (.ref E)->yF (K w.params) "_law_put_stem" = some (c,T)->yF (K w.params) "_law_change_stem" = some (N,B) ->
   ∃ I:am,(∀ (s:ak) (u:ai),BindsTo s I ⟨[u],[]⟩ [("_law_script",u)])/\∀ b:aC,(K w.params).In b->b.Ns ao i->xY b c T->b.BuiltinsAt i T->xY b N B->b.BuiltinsAt i B->ZK l.prog w (K w.params) i b Zc 80 E I zFg (VH T B (K w.params))):
  tQ q m V M l.row.toRowW d [] (λf vs=>PySem.call f vs):=by
 refine L2.NQ (n:=63) (k:=80) (x:= "_law_script") (ps:=["_law_put_stem","_law_change_stem"]) (sp:=λK=>VH (tT K "_law_put_stem") (tT K "_law_change_stem") K) hn (by decide) J ⟨Z,by decide,by decide⟩ hY (λp hp=>?_) L (λw i E h U G hm=>?_) (λw H a ns hl P hS=>?_)
 ·rcases zB.mp hp with z | z
  ·rw[z];exact A
  ·rw[zI.mp z];exact j
 ·let⟨C,v,D,y,r,t,Q⟩:=EA (g w);let⟨I,hb,hF⟩:=F w i E h C v D y U G hm r t;exists I,hb;intro b X Y O;let⟨p1,p2⟩:=O (C,v) (xI.mpr ⟨_,zP,r⟩);let⟨p3,p4⟩:=O (D,y) (xI.mpr ⟨_,zH _ zP,t⟩);have:=hF b X Y p1 p2 p3 p4
  rwa [show tT (K w.params) "_law_put_stem" = v from congrArg (λo:jT=>(o.getD (0,0)).2) r,show tT (K w.params) "_law_change_stem" = y from congrArg (λo:jT=>(o.getD (0,0)).2) t]
 ·let⟨C,v,D,y,r,t,Q⟩:=EA (g w);let q1:=P (C,v) (xI.mpr ⟨_,zP,r⟩);let q2:=P (D,y) (xI.mpr ⟨_,zH _ zP,t⟩);let R:tT (K w.params) "_law_put_stem" = v:=congrArg (λo:jT=>(o.getD (0,0)).2) r;let S:tT (K w.params) "_law_change_stem" = y:=congrArg (λo:jT=>(o.getD (0,0)).2) t;exact⟨a,ns,Z,hS,hl,by rw[R];exact q1,by rw[S];exact q2,by rw[R,S];exact Q,λ_=>rfl⟩
end Tw
open PySem PySem.W PyProof.Rows
namespace PySem.W.Fast
local macro_rules|`(universe $x*)=>return .node .none `null (←x.mapM λi=>`(def $i:ident:=0))
universe tw1004168693835596789 tw10060967797783146882 tw10067851695531007192 tw10085881897480899960 tw10101947447923447686 tw10154532613273552202 tw10157724622123648711 tw1016100247977553066 tw10224020356720999405 tw10280713887376781456 tw10281108149834467075 tw10291675506793104685 tw10308287866436194361 tw10338706132697997376 tw1035450200269313360 tw10414681268032973954 tw10435232196181021843 tw10447938353982510080 tw10463029846352333951 tw10470448958269305140 tw10486855331235528037 tw10544733418044431129 tw10553672108036943286 tw10572533613881782909 tw10580034095984658696 tw1058970981376083509 tw10681065596461573359 tw10757211563114546694 tw10779665052612526533 tw10799153108119717500 tw10810634721551412705 tw10811205872574353945 tw10825877571656523215 tw1083431062430014607 tw10857961716875026326 tw10860951042638422227 tw10900974359146236529 tw10951513022183283574 tw10975051583659195031 tw11114263405144193710 tw11210774134188088588 tw11220266762097508430 tw11221370193422918309 tw11245775919696938488 tw11247275852703741697 tw11307361402183500487 tw11334063846512814773 tw11372342095469401331 tw11380475933152920297 tw11401452535928456217 tw11433384758040469408 tw11437962071992659389 tw11485188600962835059 tw11521722172874246966 tw11532924788186865329 tw11533566836589853823 tw11534215498966042154 tw11560046836225874483 tw11589831931702726435 tw11614796416944483957 tw1172334592898430153 tw11755948535702717522 tw118029921806164455 tw11837061566235925967 tw11840355885309277689 tw11908401301041928687 tw11913278636533422524 tw11927314648384147011 tw11976050711146974509 tw11978016973750816273 tw1198364165372893113 tw12009380384867385300 tw12053506098870711851 tw12068591773195488663 tw1207241968103276915 tw12083776861534086231 tw12105340498483487083 tw12122290286122442960 tw12142418087247196436 tw12166141887795497752 tw12178886114182740494 tw12183207472133442812 tw12202645933617477748 tw1227687160307977048 tw123363516971105920 tw1253693580719797251 tw12543353419874737164 tw1254457715028992473 tw12622099280172923006 tw12684616144594773910 tw12689672523455984497 tw12718286777929890907 tw12719113704751285432 tw12743426072863436393 tw12746274037995997014 tw1275593967488410368 tw12769627391272565799 tw12828265579987825151 tw12899542111644359962 tw1291652085064949244 tw1292097855769419920 tw12940847617883621256 tw12966164803701173971 tw12968690026951424084 tw13001213633714522834 tw13041191900964239409 tw13078670462024215544 tw13079583598461108941 tw13079762635474912526 tw13099748156469874038 tw13147838744534985926 tw13156594669735752315 tw131674484423749884 tw13174796015449972169 tw13261200443435457510 tw13266658251626375239 tw13294076883679445481 tw13407765201294214002 tw13437871460083862539 tw13439416134841788485 tw13460346405641716193 tw13472026809552136462 tw13512903938695692774 tw13572345214918667369 tw13597755238770202 tw13630496834677448181 tw13644491985616390775 tw13652114600125622656 tw13699365883675707691 tw13718465096612516923 tw13737130347836408940 tw13740958654398458254 tw13769103297055558665 tw13852005993649019431 tw13857370878431984459 tw13865372852506348000 tw13870399160189039761 tw13884022195872894593 tw13915259576267484798 tw13924730609499015122 tw13982398481193230805 tw13988165505975342865 tw14058034984785300170 tw14125322039362774028 tw14164055777607778206 tw14199625566606797088 tw14234092192457858189 tw14238459800743669909 tw14267300238381327947 tw14270421515317617526 tw1427857481701813725 tw14281171444627211624 tw14282993930885724707 tw14335193682864936450 tw14372561294600373070 tw14380133926363862339 tw14406063717907380093 tw1442024220312760560 tw14430687496271066526 tw14449043352034250318 tw1447247054756166793 tw14495804270900810735 tw14505174309130616025 tw14529779707584274799 tw14567307908524201601 tw14590477597612608343 tw1462724103837877483 tw14629883695083151083 tw14655079853760474176 tw14664504145565912319 tw14674580401900130515 tw14684341432329828014 tw14687951233945815532 tw14727435816672079746 tw14746367304341795418 tw14760211031255907991 tw14832488876149826370 tw14848070027927315875 tw14850301031202100747 tw14851081768465822804 tw14871833108461177667 tw14893250897587657857 tw14917924221809241185 tw14937218836297125353 tw14973876264929531550 tw14997353973979979929 tw15050599273966072211 tw15098476635516398901 tw15109071074476416194 tw15110946350641765013 tw15143038133926228172 tw15145920547050482299 tw15165427023230882658 tw15201150052373295499 tw15242646396825812118 tw15246483453652398974 tw15307633160119538338 tw15312363498591331873 tw15381964998707457515 tw15404989824637176590 tw15425284256923052640 tw15427023516612469861 tw15429002347352128997 tw15435424920526215733 tw15440321472587536589 tw15461666746090423688 tw15515559089640515585 tw15529761172012186456 tw1556702973993078621 tw15567465799878383537 tw15584825908654279573 tw15621658147563619430 tw15632794216204947943 tw15634002830447266080 tw15656169896463402661 tw15668739435422898186 tw15670269167935307526 tw15693270892960414580 tw15697025243120928588 tw15703924134667243800 tw15725477045382957368 tw15736214963694585129 tw15740805353263428345 tw15758222257760209336 tw15792738910747193492 tw1581416385548907215 tw15814517447529746127 tw15818615104130223777 tw15838166101949085214 tw15850629361605372631 tw15866783689386482362 tw15882511246930761845 tw15885089098677076945 tw15891078019326093866 tw15899280426335727926 tw15926548145250336119 tw15959471933072714321 tw15975069916021541328 tw15975866590789735540 tw15980574183762661168 tw16001679891920193618 tw16025446556302635917 tw1605605713250018797 tw16092483656910121905 tw16108305226541562919 tw1611441325494744834 tw16130703876654991216 tw16139160159360320861 tw16150414783310989732 tw16193582298664686206 tw16211112212046404523 tw16231472840026037760 tw16247655399418131478 tw162665093746063511 tw16286170511761947796 tw16300793155790479851 tw16303794253049654133 tw16307805566746450811 tw16365319357072847456 tw16408271862812212230 tw16422994647556391625 tw16471972568964706419 tw16500930916668657954 tw16523601918342260162 tw16571111681947238870 tw16575795845031223266 tw16576371157564977892 tw16610939141464946778 tw16641804512701662441 tw16662544381090789253 tw16671014852712993734 tw1669181349422836970 tw16692497342740940072 tw16723516888617872842 tw16766451578838548576 tw16785282446947034790 tw16795176758927985173 tw16845214845047267438 tw1685151188458752182 tw16868966774028814472 tw1690039668796292194 tw16930252002899760679 tw16930438981439796362 tw16932916151065724169 tw1693370336417915084 tw16938451977777633796 tw16941410361801802235 tw16957099521256324448 tw16971882871307243256 tw16973623659481992802 tw17010471568763503247 tw1704422129375416541 tw17083159118081945042 tw17100249412973912983 tw17143349893135167755 tw17150279028179116463 tw17164869975455735194 tw17176901469165416285 tw17201104212070786119 tw17243537136823203429 tw17255972040654723998 tw17262196086887668939 tw17289229313500579696 tw17303051979453193243 tw17317796236659094217 tw17324959608512264673 tw17326828237874578364 tw1734256003417388501 tw17352380434710366210 tw17370208443760099792 tw1748168598316367234 tw17497092180192607914 tw17555823801362987984 tw17605576727816810781 tw17639772371545136040 tw17669068618218422338 tw17683652510858499440 tw17773266390975886710 tw1779442727226437725 tw17827821153477126283 tw17844612772408172177 tw17891203666437133234 tw1791881872486565807 tw17961944085799591128 tw17972736592040821644 tw17976268361366103443 tw18028592527454488537 tw18047832736185624829 tw18114009701938914958 tw18133608771296997257 tw18166186143378060291 tw18179193448473501271 tw18195621633195331816 tw18219170398212117051 tw1823299218381640197 tw18233246368967181920 tw18235376337922819817 tw18240663942699372006 tw18275355066808950711 tw18288467352964598098 tw18291629997918185615 tw18351517969238062770 tw1835614049189389797 tw18381758690734505417 tw18426680395992849292 tw1851074224925064200 tw1882864925061034464 tw1900885444488242382 tw1953301047281125853 tw1966509424609248440 tw1977635716223951298 tw1984536694933163835 tw2003011776033399229 tw2021921988844641701 tw2023490209377041040 tw2033119255764146055 tw2037601495039784853 tw2038428678592328178 tw2066687239371260637 tw2102597671213873458 tw2116830578935444675 tw2117457612147751287 tw2169992086086285769 tw2175847951564244344 tw2180609332041969700 tw2185628779268782889 tw2200030880941179822 tw2269592652351277519 tw2289172654767367463 tw2295398941065151099 tw2308277424936906977 tw2323740267105072192 tw233688748523127412 tw2366753599447430798 tw2386414588620330415 tw2445708969334575375 tw250089726283320218 tw2523127552239782828 tw2570428094973453777 tw2611288695709225861 tw262851023928175654 tw2642744167959410179 tw2678057689338704544 tw2697865551774345557 tw2767309677804757912 tw2771586105835975674 tw2779094714901426490 tw2780922993419030804 tw2834981075493057481 tw2862104717104214483 tw2869332957318891603 tw2936061748755060838 tw2977465350535234567 tw2984371561309931422 tw3004341144784660292 tw3017413949226029592 tw3049926806266948600 tw3079374354824081721 tw3094716590405045586 tw316015013481573772 tw3160303966141280764 tw3161413188039146378 tw3165447109083295638 tw3177943021593913615 tw3226824368982977095 tw3243381161625011849 tw3257238005505128340 tw3345928463541930973 tw336057921764682516 tw3363366519888742462 tw3365714393701801171 tw3376408227373861049 tw3393372637842518396 tw3411220298957307013 tw3417552030510160128 tw3448885131293423263 tw3451616924852383881 tw3489328891180946170 tw3510164772151933888 tw3554053770193689726 tw3588698548471503406 tw3644505851451224034 tw3675995519501000884 tw3680938672629321965 tw3739186323782590286 tw373994355713408795 tw3759324890378946608 tw3777366628699813950 tw377925324386482878 tw3792169358162591422 tw3803299971856699685 tw381528135482255140 tw3818985079634504621 tw3852560272666992253 tw3874351204462779043 tw387572547429636581 tw3895742072896377746 tw3943021372935662661 tw4037963408845600549 tw4038781974971407145 tw4082536731510287351 tw4082706703953632005 tw415729482751198796 tw4161259263834354826 tw4188006746542147799 tw4188236086916949283 tw4210774355885381139 tw4213085018236759881 tw422034068948096705 tw4222164961607817768 tw4258830234474389729 tw4259858908122180071 tw4307064135709856934 tw4318363636815271084 tw4327935087522323064 tw4427023937524279370 tw4438622826199829000 tw4456473800932414168 tw4459707425485993985 tw4472228863800250826 tw4489211121154452601 tw4524643062140704141 tw4567719289977917331 tw4568034900130779638 tw4569802524223433384 tw4614274739869972613 tw4618218654276079923 tw4638557303688678478 tw4642685143012971207 tw4661409753612880384 tw4701957601191415647 tw4747100579836269345 tw4830954272666111821 tw4863065768457202676 tw4874921475499677568 tw4898622787821420736 tw4902818032241085391 tw4926643325032458694 tw4931890481631015074 tw4988412911868323790 tw4988548187653430622 tw505261594265715676 tw5074177936578602556 tw5074422964282245932 tw5075070770538250624 tw5076874766584552691 tw5089377363706357360 tw5100632413210605118 tw5115948979249858207 tw5193612723515967232 tw5193888206676992488 tw5227715283790793762 tw5262527950258840696 tw5267874560738390126 tw5270271968048045951 tw5291838300459880491 tw5345399303053458931 tw5358293035343723905 tw536272234382128172 tw5374576966003040442 tw5388705340351545663 tw5390064264578706538 tw5407850275628337585 tw5411424132023755152 tw5455750109086195101 tw5460428398584560585 tw5461514846626114826 tw5465275246906101707 tw5494950296365548993 tw5515936095991250195 tw5540589841959167105 tw5553862214664433644 tw5555589047415154581 tw5651642751230918544 tw5657611022828154400 tw5680685878180193782 tw5682495891022487112 tw571316708848396945 tw5742424881826504194 tw5744267915901015733 tw5761432110263085371 tw5763639957298209635 tw5782317880770489486 tw5814651295473013267 tw5814682320958386903 tw5826143012498086890 tw5863066453038576584 tw5891483585196695611 tw5894991872449269661 tw5959721002538320512 tw5979237505255949907 tw5987834020974317692 tw6027708395795191063 tw6044419876873902418 tw6050897341109162567 tw607055763355909617 tw6088558710827031076 tw6089692250483385167 tw6121302826292473252 tw6133838145397764194 tw6149068439660744592 tw6159940707595235257 tw6160911717498451688 tw6188743161734643819 tw624101462835211490 tw6243673716089121301 tw6280099624711179915 tw628939846253036510 tw6289575439852487225 tw629383136904337909 tw6341490855896980244 tw6401133792437469185 tw643634811844481098 tw6485497004249614874 tw6489221151785393609 tw6505096333409747617 tw6533833857636465898 tw6534053991755999450 tw6570538162552170732 tw6610063057894888075 tw6630115135107210480 tw6630411564372041261 tw6657133767309759779 tw66698174076881551 tw6719398881794637388 tw676212264673232616 tw6785234987769170920 tw6796543133500542740 tw6803317465585886974 tw6809072443559102564 tw6812788819552442757 tw6832983910026343348 tw6836709874070512630 tw684115961729605199 tw6894169397219520629 tw6919080356508890535 tw6938244763771178333 tw6946068972215018617 tw6957632839524529142 tw699730904964683207 tw700750873346613017 tw7011251371345558833 tw7011923400887805251 tw7014753393299524374 tw7038201456762128296 tw7041806627803873227 tw7043477068580996262 tw7069866255019312254 tw7157890367473732402 tw7158547793729183719 tw7168315091761668817 tw7180197866799440032 tw7199946381836909364 tw7289373106200266275 tw7315164493511623532 tw732626681968557483 tw7335676911013666378 tw7363620575311674566 tw7382152479147586728 tw7416942321009014076 tw7433308140999888855 tw7445875404595702325 tw7455180339405229816 tw7503852570629999898 tw7536081872980765679 tw7553220473483113207 tw7559949701771045713 tw7560612965915601840 tw7620489323773668438 tw7621536279774917572 tw762547986609384325 tw7642507853681537743 tw7670760329069551066 tw7674937518761470329 tw7691934879136544288 tw7708687677774419285 tw7721005695370735801 tw7759977295419345402 tw7788137055866134707 tw7788467062019187499 tw7801672263063466588 tw7817135610285414156 tw7894340677900637950 tw7899161567879086555 tw7904341207663081791 tw7913898179624637505 tw791885421141920143 tw7920767824965896252 tw795336969237880750 tw7986944416143684879 tw8010152329778758885 tw8019591600189090180 tw8034675114217060552 tw8085222149395671986 tw820120409361997155 tw8202598110116018197 tw8221196220176319524 tw8259639733047254965 tw828827301073826305 tw8315282919395461984 tw8339170185635152333 tw8361795179869950019 tw8372461638949530217 tw8466096401611274226 tw8475063695655012126 tw8487146765639619408 tw8499241279906917738 tw8533117673980619448 tw8537305183855951100 tw8555244470652455821 tw8586110448546586663 tw8629289835299220695 tw8692408783492798887 tw8702179550595803205 tw871213697591034668 tw8748372408951092608 tw8758955254732708791 tw8764620331243260469 tw8764633049875691843 tw877672640699901529 tw879606614996069047 tw8854472573857503675 tw8862124668187211639 tw8876827714470412822 tw8881954038009991182 tw8917074658601759864 tw8935960780697036295 tw8936878286462067714 tw8993053642994411464 tw8993841225460384624 tw9008739532498758050 tw9028779194631264743 tw9037241890587051354 tw9038007008404399125 tw9055363834421416491 tw9066517016854887411 tw9150160707302786399 tw915061841420711307 tw9186080424906522242 tw920608782627365450 tw9207563822699517945 tw9247042672812420454 tw9252804422400137101 tw9271909380175980108 tw9281731804860307197 tw9327797959112762538 tw9335915320599491000 tw935793697160542646 tw9385822343412444308 tw9504737228184552107 tw953721108106658979 tw9555044174581670026 tw9558030526691493015 tw9593789234285184971 tw9610630939411567407 tw964686475403911626 tw9679324305562805926 tw9720755762327174161 tw9740207216371001566 tw974382976206432864 tw9765875411760600781 tw9794229835559775542 tw9798804323122061271 tw9905322401917356467 tw9949929428414975180 tw9967134147021779246 tw9969199778769566292 tw99774776448067208
end PySem.W.Fast
set_option maxRecDepth 100000 in
set_option maxHeartbeats 0 in
theorem PySem.Challenge.cw_twigmap_k26_stems_changed_holds : PySem.Challenge.rw_twigmap_k26_stems_changed.Holds := by
 w_on;o_law;k_head;(case hw=>w_witness2)
 k_fill
 refine Tw.walk (l:=PySem.Challenge.rw_twigmap_k26_stems_changed) Z Z (λw h Y=>PySem.W.km_in_of Y) ?qRec ?qRec2 ?qTab ?qNot ?qFun
 case qRec=>first | kernel_rfl | exact rfl
 case qRec2=>first | kernel_rfl | exact rfl
 case qTab=>intro w;kernel_rfl
 case qNot=>intro w;kernel_rfl
 case qFun=>
  intro w mg fa h cb tb cc tc KX G hmg hta htb;refine' Tw.KJ KX G hmg hta htb (Tw.LB KX G ?a1 ?l1 ?c1 ?k1) (Tw.LB KX G ?a2 ?l2 ?c2 ?k2) (Tw.LB KX G ?a3 ?l3 ?c3 ?k3) (Tw.LB KX G ?a4 ?l4 ?c4 ?k4) (Tw.LB KX G ?a5 ?l5 ?c5 ?k5) (Tw.LB KX G ?a6 ?l6 ?c6 ?k6) (Tw.LB KX G ?a7 ?l7 ?c7 ?k7) (Tw.LB KX G ?a8 ?l8 ?c8 ?k8) (Tw.LB KX G ?a9 ?l9 ?c9 ?k9) (Tw.LB KX G ?A0 ?A1 ?A2 ?A3) (Tw.LB KX G ?A4 ?A5 ?A6 ?A7) (Tw.LB KX G ?A8 ?A9 ?Aa ?Ab) (Tw.LB KX G ?Ac ?Ad ?Ae ?Af) (Tw.LB KX G ?Ag ?Ah ?Ai ?Aj) (Tw.LB KX G ?Ak ?Al ?Am ?An) (Tw.LB KX G ?Ao ?Ap ?Aq ?Ar) (Tw.LB KX G ?As ?At ?Au ?Av) (Tw.LB KX G ?Aw ?Ax ?Ay ?Az) (Tw.LB KX G ?B0 ?B1 ?B2 ?B3) (Tw.LB KX G ?B4 ?B5 ?B6 ?B7) (Tw.LB KX G ?B8 ?B9 ?Ba ?Bb) (Tw.LB KX G ?Bc ?Bd ?Be ?Bf) (Tw.LB KX G ?Bg ?Bh ?Bi ?Bj) (Tw.LB KX G ?Bk ?Bl ?Bm ?Bn) (Tw.LB KX G ?Bo ?Bp ?Bq ?Br) (Tw.LB KX G ?Bs ?Bt ?Bu ?Bv) (Tw.LB KX G ?Bw ?Bx ?By ?Bz) (Tw.LB KX G ?C0 ?C1 ?C2 ?C3) (Tw.LB KX G ?C4 ?C5 ?C6 ?C7) (Tw.LB KX G ?C8 ?C9 ?Ca ?Cb) (Tw.LB KX G ?Cc ?Cd ?Ce ?Cf) (Tw.LB KX G ?Cg ?Ch ?Ci ?Cj) (Tw.LB KX G ?Ck ?Cl ?Cm ?Cn) (Tw.LB KX G ?Co ?Cp ?Cq ?Cr) ?Cs ?Ct ?Cu ?Cv (Tw.LB KX G ?Cw ?Cx ?Cy ?Cz) (Tw.LB KX G ?D0 ?D1 ?D2 ?D3) (Tw.LB KX G ?D4 ?D5 ?D6 ?D7) ?D8 ?D9 ?Da ?Db (Tw.LB KX G ?Dc ?Dd ?De ?Df) ?Dg ?Dh ?Di ?Dj ?z1 ?z2 ?z3 ?z4 ?z5 ?z6 ?z7 ?z8 ?z9 ?Dk ?Dl ?Dm ?Dn ?Do ?Dp ?Dq ?Dr ?Ds ?Dt ?Du ?Dv ?Dw ?Dx ?Dy ?Dz ?E0 ?E1 (Tw.MG ?E2 ?E3 ?E4 ?E5 ?E6) (Tw.MG ?E7 ?E8 ?E9 ?Ea ?Eb) ?Ec ?Ed ?Ee ?Ef ?Eg ?Eh ?Ei ?Ej ?Ek (Tw.MO ?El ?Em ?En ?Eo ?Ep) (Tw.MO ?Eq ?Er ?Es ?Et ?Eu) (Tw.MO ?Ev ?Ew ?Ex ?Ey ?Ez) (Tw.MO ?F0 ?F1 ?F2 ?F3 ?F4) (Tw.MO ?F5 ?F6 ?F7 ?F8 ?F9) (Tw.MO ?Fa ?Fb ?Fc ?Fd ?Fe) (Tw.MO ?Ff ?Fg ?Fh ?Fi ?Fj) (Tw.MO ?Fk ?Fl ?Fm ?Fn ?Fo) (Tw.MO ?Fp ?Fq ?Fr ?Fs ?Ft) (Tw.MO ?Fu ?Fv ?Fw ?Fx ?Fy) (Tw.MO ?Fz ?G0 ?G1 ?G2 ?G3) (Tw.MO ?G4 ?G5 ?G6 ?G7 ?G8) (Tw.MO ?G9 ?Ga ?Gb ?Gc ?Gd) (Tw.MO ?Ge ?Gf ?Gg ?Gh ?Gi) (Tw.MO ?Gj ?Gk ?Gl ?Gm ?Gn) (Tw.MO ?Go ?Gp ?Gq ?Gr ?Gs) (Tw.MO ?Gt ?Gu ?Gv ?Gw ?Gx) (Tw.MO ?Gy ?Gz ?H0 ?H1 ?H2) (Tw.MO ?H3 ?H4 ?H5 ?H6 ?H7) (Tw.MO ?H8 ?H9 ?Ha ?Hb ?Hc) (Tw.MO ?Hd ?He ?Hf ?Hg ?Hh) ?Hi ?Hj ?Hk ?Hl ?Hm ?Hn ?Ho ?Hp ?Hq ?Hr ?Hs ?Ht ?Hu ?Hv ?Hw ?Hx ?Hy ?Hz ?I0 ?I1 ?I2 ?I3 ?I4 ?I5 ?I6 ?I7 ?I8 ?I9 ?Ia ?Ib ?Ic ?Id ?mB ?Ie ?If ?Ig ?Ih ?Ii ?Ij ?Ik ?Il ?Im ?In ?Io ?Ip ?Iq ?Ir ?Is ?It ?Iu ?Iv ?Iw
  (case Hi|Hj|Hk|Hl|Hm|Hn|Ho|Hp|Hq|E2|E7|Hr|Hs|Ht|El|Eq|Ev|F0|F5|Fa|Ff|Fk|Fp|Fu|Fz|G4|G9|Ge|Gj|Go|Gt|Gy|H3|H8|Hd|a1|l1|c1|k1|a2|l2|c2|k2|a3|l3|c3|k3|a4|l4|c4|k4|a5|l5|c5|k5|a6|l6|c6|k6|a7|l7|c7|k7|a8|l8|c8|k8|a9|l9|c9|k9|A0|A1|A2|A3|A4|A5|A6|A7|A8|A9|Aa|Ab|Ac|Ad|Ae|Af|Ag|Ah|Ai|Aj|Ak|Al|Am|An|Ao|Ap|Aq|Ar|As|At|Au|Av|Aw|Ax|Ay|Az|B0|B1|B2|B3|B4|B5|B6|B7|B8|B9|Ba|Bb|Bc|Bd|Be|Bf|Bg|Bh|Bi|Bj|Bk|Bl|Bm|Bn|Bo|Bp|Bq|Br|Bs|Bt|Bu|Bv|Bw|Bx|By|Bz|C0|C1|C2|C3|C4|C5|C6|C7|C8|C9|Ca|Cb|Cc|Cd|Ce|Cf|Cg|Ch|Ci|Cj|Ck|Cl|Cm|Cn|Co|Cp|Cq|Cr|Cs|Ct|Cu|Cv|Cw|Cx|Cy|Cz|D0|D1|D2|D3|D4|D5|D6|D7|D8|D9|Da|Db|Dc|Dd|De|Df|Dg|Dh|Di|Dj|z1|z2|z3|z4|z5|z6|z7|z8|z9|Dk|Dl|Dm|Dn|Do|Dp|Dq|Dr|Ds|Dt|Du|Dv|Dw|Dx|Dy|Dz|E0|E1|E3|E5|E6|E8|Ea|Eb|Ec|Ed|Ee|Ef|Eg|Eh|Ei|Ej|Ek|Em|Eo|Ep|Er|Et|Eu|Ew|Ey|Ez|F1|F3|F4|F6|F8|F9|Fb|Fd|Fe|Fg|Fi|Fj|Fl|Fn|Fo|Fq|Fs|Ft|Fv|Fx|Fy|G0|G2|G3|G5|G7|G8|Ga|Gc|Gd|Gf|Gh|Gi|Gk|Gm|Gn|Gp|Gr|Gs|Gu|Gw|Gx|Gz|H1|H2|H4|H6|H7|H9|Hb|Hc|He|Hg|Hh|E4|E9|En|Es|Ex|F2|F7|Fc|Fh|Fm|Fr|Fw|G1|G6|Gb|Gg|Gl|Gq|Gv|H0|H5|Ha|Hf|Hu|Hv|Hw|Hx|Hy|Hz|I0|I1|I2|I3|I4|I5|I6|I7|I8|I9|Ia|Ib|Ic|Id|mB=>k_is)
  (case Ie|If=>kernel_rfl)
  (case Ig=>k_is)
  (case Ih=>kernel_rfl)
  (case Ii=>k_is)
  (case Ij=>kernel_rfl)
  (case Ik|Il|Im|In|Io|Ip|Iq=>k_is)
  (case Ir=>k_exc)
  (case Is|It|Iu|Iv|Iw=>k_is)
