import PyProof.Rows.All
import Wide.All
import OpenK.AllK
import Wide.FinOn
import Lean
import PyProof.EqAt
import PyProof.EqKinds
import PyProof.TupleCall
import PyProof.NsDelKeeps
import PyProof.ExcBaseAll.ValueError
import KE.KIsAll
import PyProof.ExcArgsOwn
import PyProof.ExcAttrAll.ValueError
import PyProof.NeKinds
import PyProof.Rows.SumAny
import PyProof.ListMulRoad
import PyProof.FactsAll.tuple
import KE.KDictList
import PyProof.Rows.SortWalk
import KE.KEqDict
import KE.KRevIter
import KE.KLam
import PyProof.InstStoreFacts
import PyProof.ExcClass3
import PyProof.WalkInts
import PyProof.SeqI3
import KE.KSortTup
import KE.KFind
import PySem.Challenge.RW_twigmap_k28_whole_shelf_exact
open PySem renaming wpAny_bind→aa,wpAny_pure→ad,wpAny_mono→ae,wpAny_holding→af,wpAny_Call_Name_kw→ag,wpAny_standAt→ah,Value→ai,Addr→aj,Shared→ak,Program→al,FuncData→am,mainGlobals→ao,sizeLine→ap,starEach→aq,World→ar,Around→aw,bootBuiltins→ax,compareOp→ay,model→az,wpAny→aA,Stmt→aB,Heap→aC,Scope→aD,backTo→aE,eval→aF,Obj→aG,Pos→aH
universe u
def aI{p:Prop}[Decidable p](h:¬p):decide p=false:=decide_eq_false h
def aJ{p:Prop}[Decidable p](h:p):decide p=true:=decide_eq_true h
def aK{c:Prop}{h:Decidable c}(n:¬c){α:Sort u}{t e:α}:(ite c t e)=e:=if_neg n
def aM{c:Prop}{h:Decidable c}(n:c){α:Sort u}{t e:α}:(ite c t e)=t:=if_pos n
set_option Elab.async false
set_option linter.all false
set_option maxRecDepth 100000
set_option maxHeartbeats 8000000
open PySem.W renaming Frag->zZ,findIn->zA,nsIn->zD,keepIn->yQ,mroIn->yR,mg_none_of->xY,mg_of->yL,typeIn->yE,kitOne->xX,fnOf->yA,hideAll->xQ,Looks->xS,kia_one->xL,emptyDict->wY,codeIn->xE,instObj->wU,hasDictIn->wF,of_hideAll->vL,callWith_K->vM,plainGet->vS,looks_mroIn->uY,isFn->wW,methodCall_KW->tP,kat_cons->vA,hideAll_none->tS,excIn->vV,kat_yes->vB,hideAll_get->tW,callWith_K0->tX,kat_no->vD,kat_go->vE,plainOver->uC,kas_item->uE,makesIn->uI,looks_typeIn->sF,looks_findIn->sG,lookIn->uM,plainGet_of->sH,looks_clsIn->sI,clsIn->uN,methodObj->sL,any_some->rQ,takerIn->rV,OpenLaw->rW,KdlSrc->sR,funFrames_hide->qY,cellsFrom_some->qZ,tail_of_in->rP
open List renaming getD_eq_getElem?_getD->zV,getElem?_eq_getElem->zW,length_map->zX,mem_cons_self->zT,getElem?_map->zS,size_toArray->zQ,mem_singleton->zM,mem_cons_of_mem->zI,mem_of_getElem?->zG,length_append->zH,getElem?_eq_some_iff->yN,mem_append->zJ,take_of_length_le->yM,all_eq_true->yY,length_cons->yV,map_append->yX,mem_filter->yW,mem_append_right->yI,mem_cons->zC,take_add_one->yP,mem_map->zE,range->zN,mem_append_left->yC,map_map->yZ,length_singleton->xU,getElem_mem->yJ,map_cons->yT,drop_eq_getElem_cons->xI,eq_nil_of_length_eq_zero->wL,toArray->yK,getElem?_append_right->wM,nodup_cons->xR,getElem?_append_left->wO,flatMap_cons->xN,length->yD,lookup_cons->xK,take_append_drop->wB,mem_flatMap->wZ,mem_range->xG,length_pos_iff->wC,find?_cons->xA,filter_cons->wT,pairwise_cons->wD,mem_filterMap->wE,length_filter_le->vJ,length_set->wV,lookup->xM,filter_sublist->vK,find?_eq_none->vN,filter_append->vO,getElem?_eq_none->uT,cons_lt_cons_iff->uU,nodup_append->vQ,filter_congr->vR,pairwise_append->uV,getElem?_set_ne->uW,replicate->vY,pairwise_iff_getElem->tN,getElem_of_mem->uR,Sublist->wP,append_nil->vH,getElem?_set_self->tR,map_nil->wI,eq_nil_or_concat->tU,concat_eq_append->tV,all_map->wJ,exists_mem_of_length_pos->rX,any_cons->vW,toList_toArray->tY,not_lt_nil->vC,map_congr_left->tZ,filterMap_cons->uA,erase_sublist->uD,mem_of_find?_eq_some->sB,append_assoc->uF,cons_append->uJ,length_reverse->sK,all_cons->uP,Perm->vX,take_succ_eq_append_getElem->pY,take_sublist->rR,length_range->rS,eraseIdx_eq_take_drop_succ->pZ,nil_lt_cons->sO,mem_reverse->sP,length_take->sQ,dropLast_concat_getLast->qC,sum_append->sW,of_mem_zip->sX,length_nil->sY,foldl_cons->sZ,find?_some->tE,perm_ext_iff_of_nodup->qW,sublist_append_left->rH,sum_cons->tH,pairwise_singleton->rJ,length_eq_zero_iff->rK,getLast_eq_getElem->rL,singleton_sublist->rM,drop_of_length_le->rN,mem_of_mem_erase->qA
open PySem.Heap renaming get?_push_of_some->zP,lt_size->zU,get?_push_size->yS,get?_update_other->xZ,get?_update_self->wX,SameBut->xB,get?_none_of_le->uX,size_push->vU,get?_update_ne->uB,get?_push_ne->uG
open Nat renaming le_refl->zY,le_of_ble_eq_true->yU,ne_of_lt->zK,le_trans->zL,zero_le->zF,lt_of_lt_of_le->yG,lt_succ_self->xT,lt_or_ge->yH,lt_of_le_of_lt->xJ,le_succ->yB,le_of_lt->xV,lt_irrefl->xH,lt_succ_of_lt->wG,le_succ_of_le->wH,succ->xW,ne_of_gt->wK,le_of_not_lt->uL,le_of_eq->vF,sub_lt_sub_left->sM,sub_le->uZ,not_lt->vG,min_le_right->sT,le_add_right->sV,not_lt_zero->tF,add_le_add->tG
open Bool renaming false_ne_true->zR,and_eq_true->zO,eq_iff_iff->xD,false_eq_true->wS,eq_false_iff->uH,false_and->uO,true_and->uQ,not_eq_true'->rT
open Option renaming map_eq_some_iff->yO,some->zB,isSome_iff_exists->rZ,map_some->uK,none->tK
open PySem.F renaming plainAttrs_list->yF,type_list_append->xO,slot_list_append->xP,plain_max_loop->wA,slot_tuple_mul->tO,excBase_ValueError->rY,entry_max_loop->sC,slot_dict_get->sE,type_list_remove->qE,store_ValueError->qF,slot_list_remove->qG,args_tuple_mul_2->qH,args_tuple_add_2->qJ,type_list_clear->qN,slot_tuple_rmul->qO,slot_list_clear->qP,plain_list_iadd->qQ,plainAttrs_dict->qR,entry_tuple_mul->qS,entry_tuple_add->qU,args_dict_get_3->qV,slot_tuple_add->rA,entry_dict_get->rB,type_list_pop->rD,slot_list_pop->rE,slot_int_rmul->rF,slot_dict_pop->rG
open Array renaming getElem?_eq_some_iff->vZ,length_toList->wR,getElem?_setIfInBounds_ne->tQ,append_assoc->uS,mem_toList_iff->sJ,toList_inj->sN,perm_iff_toList_perm->qK,getElem?_eq_getElem->qX,toList->tJ,getElem?_toList->rO,toArray_toList->qB
open Int renaming emod_lt_of_pos->vP,emod_nonneg->vI,toNat->vT,fdiv_eq_ediv_of_nonneg->rC
open PySem.Str renaming ofString->wQ
open PyProof.Rows renaming arrOf->jS,SortSt->jT
local macro_rules|`(tactic|exists $e,*)=>`(tactic|refine ⟨$e,*, ?_⟩)
def Z{α:Sort u}{a:α}:a=a:=rfl
local macro_rules|`(∅)=>`(by lia)
local macro_rules|`(nofun)=>`(by lia (splits:=8))
local macro_rules|`(tactic|let $d:letDecl)=>let n:=d.raw[0];let l(s:Lean.Syntax)k:Lean.Syntax:=.node .none `Lean.Parser.Tactic.rcasesPatLo #[.node .none `Lean.Parser.Tactic.rcasesPatMed #[Lean.mkNullNode #[.node .none k s.getArgs]],Lean.mkNullNode];if n.getKind== ``Lean.Parser.Term.letPatDecl then let m:Lean.TSyntax `Lean.Parser.Tactic.rcasesPatMed:=⟨(n[0].rewriteBottomUp λs=>match s.getKind with|`ident=>l (Lean.mkNullNode #[s]) `Lean.Parser.Tactic.rcasesPat.one|`Lean.Parser.Term.hole=>l s `Lean.Parser.Tactic.rcasesPat.ignore|`Lean.Parser.Term.anonymousCtor=>l s `Lean.Parser.Tactic.rcasesPat.tuple|_=>s)[0]⟩;`(tactic|obtain $m:rcasesPatMed:=$(⟨n[4]⟩)) else `(tactic|have $d:letDecl)
abbrev ja:=PySem.Value->PySem.Shared->Prop
abbrev jb:=PySem.Str->Option PySem.Value
abbrev jd:=Option PySem.Value
abbrev je:=List PySem.Value
abbrev zEa:List PySem.Str:=["self","number"]
abbrev zEb:List PySem.Str:=["_law_twigs","_law_number"]
abbrev zEc:List PySem.Str:=["_law_found","_law_due"]
abbrev zEd:List PySem.Str:=["_law_well_here","_law_many"]
abbrev zEe:List PySem.Str:=["self","numbers"]
abbrev zEf:List PySem.Str:=["_law_well_here","_law_state"]
abbrev zEg:List PySem.Str:=["_law_well_here","_law_state","_law_block"]
abbrev zEh:List PySem.Str:=["_law_well_here","_law_twigs","_law_holds","_law_grid_here"]
abbrev zEi:List PySem.Str:=["_law_twigs","_law_holds","_law_number"]
abbrev zEj:List PySem.Str:=["self","stem","branches"]
abbrev zEk:List PySem.Str:=["_law_well_here","_law_state","_law_number","_law_way"]
abbrev zEl:List PySem.Str:=["self"]
abbrev zEm:List PySem.Str:=["_law_twigs","_law_numbers"]
abbrev zEn:List PySem.Str:=["_law_well_here","_law_grid_here","_law_block"]
abbrev zEo:List PySem.Str:=["_law_well_here","_law_state","_law_number"]
abbrev zEp:List PySem.Str:=["self","number","numbers"]
abbrev zEq:List PySem.Str:=["_law_well_here","_law_some"]
abbrev zEr:List PySem.Str:=["_law_shelf","_law_twigs","_law_holds"]
abbrev zEs:List PySem.Str:=["self","number","rows"]
abbrev zEt:List PySem.Str:=["rows"]
abbrev zEu:List PySem.Str:=["_law_one","_law_other"]
abbrev zEv:List PySem.Str:=["self","things","label"]
abbrev zEw:List PySem.Str:=["thing","room"]
abbrev zEx:List PySem.Str:=["self","things","tag"]
abbrev zEy:List PySem.Str:=["self","road","label"]
abbrev zEz:List PySem.Str:=["_law_twigs","_law_holds"]
abbrev zE0:List PySem.Str:=["label","following"]
abbrev zE1:List PySem.Str:=["_law_script","_law_k"]
abbrev zE2:List PySem.Str:=["_law_well_here"]
abbrev zE3:List PySem.Str:=["thing"]
abbrev zE4:List PySem.Str:=["one","other"]
abbrev zE5:List PySem.Str:=["self","labels"]
abbrev zE6:List PySem.Str:=["_law_key"]
abbrev zE7:List PySem.Str:=["self","number","twig"]
abbrev zE8:List PySem.Str:=["twig"]
abbrev zE9:List PySem.Str:=["self","rows"]
abbrev zFa:List PySem.Str:=["key"]
abbrev zFb:List PySem.Str:=["labels"]
abbrev zFc:List PySem.Str:=["number"]
abbrev zFd:List PySem.Str:=["_law_at","_law_each"]
abbrev zFe:List PySem.Str:=["_law_script"]
abbrev jo:=List Nat
abbrev jr:=List PySem.Str
abbrev js:=List (aj×aG)
abbrev jv:=Array ai
abbrev jw:=List aj
abbrev jx:=Option aj
abbrev jy:=List PySem.Expr
abbrev jz:=Array Nat
abbrev jA:=List Int
abbrev jB:=List PySem.Env
abbrev jF:=Option Int
abbrev jG:=List (PySem.Str×aj)
abbrev jJ:=List (PySem.Str×ai)
abbrev jK:=List aB
abbrev jL:=List (Int×Int)
abbrev jM:=List (Int×Int×Int)
abbrev jO:=Option Nat
abbrev jP:=Option PySem.Expr
namespace L2
open PySem PySem.Spec PyProof.Rows
abbrev ZR:=Sum Int Str
abbrev jC:=List ZR
abbrev jR:=List (ZR×ai)
def PV:ZR->ai->Bool
 | .inl k,v=>Value.isInt k v
 | .inr x,v=>Value.isStrOf x v
def Dr(w:ar):ZR->Int
 | .inl k=>hashInt k
 | .inr x=>hashStr w x
def QN:∀{k:ZR}{v:ai},PV k v=true->(∃ i t,k=Sum.inl i/\v=Value.int i t)\/(∃ x t,k=Sum.inr x/\v=Value.str x t)
 | .inl i,v,h=>by
  let⟨t,e⟩:=Value.isInt_shape (k:=i) (v:=v) h;exact .inl ⟨i,t,Z,e⟩
 | .inr x,v,h=>by
  let⟨t,e⟩:=Value.isStrOf_shape (x:=x) (v:=v) h;exact .inr ⟨x,t,Z,e⟩
def Ae(i:Int)(t:Tok):PV (.inl i) (.int i t)=true:=by simp[PV,Value.isInt]
def ZIY(x:Str)(t:Tok):PV (.inr x) (.str x t)=true:=by simp[PV,Value.isStrOf]
def BR(a b:Int):decide ((Sum.inl a:ZR)=Sum.inl b)=(a==b):=by
 by_cases e:a=b
 ·subst e;simp
 ·let h:¬ (Sum.inl a:ZR)=Sum.inl b:=λq=>e (Sum.inl.inj q);rw[aI h];exact(beq_eq_false_iff_ne.mpr e).symm
def Am(a b:Str):decide ((Sum.inr a:ZR)=Sum.inr b)=decide (a=b):=by
 by_cases e:a=b
 ·subst e;simp
 ·let h:¬ (Sum.inr a:ZR)=Sum.inr b:=λq=>e (Sum.inr.inj q);rw[aI h,aI e]
def ZOP(a:Int)(b:Str):decide ((Sum.inl a:ZR)=Sum.inr b)=false:=aI (λq=>nomatch q)
def BI(a:Str)(b:Int):decide ((Sum.inr a:ZR)=Sum.inl b)=false:=aI (λq=>nomatch q)
def We(c:al)(w:ar):PySem.KeyKind c w ZR where
 is:=PV
 hash:=Dr w
 inj:=λv a b g f=>by
  rcases QN g with ⟨i,t,rfl,rfl⟩ | ⟨x,t,rfl,rfl⟩
  ·rcases QN f with ⟨j,u,rfl,e⟩ | ⟨y,u,rfl,e⟩
   ·injection e with e1 _;rw[e1]
   ·exact nomatch e
  ·rcases QN f with ⟨j,u,rfl,e⟩ | ⟨y,u,rfl,e⟩
   ·exact nomatch e
   ·injection e with e1 _;rw[e1]
 byValue:=λk v h=>by
  rcases QN h with ⟨i,t,rfl,rfl⟩ | ⟨x,t,rfl,rfl⟩ <;> rfl
 pyHash:=λd h=>by
  rcases QN d with ⟨i,t,rfl,rfl⟩ | ⟨x,t,rfl,rfl⟩
  ·exact wpAny_pyHash_int h
  ·exact wpAny_pyHash_str h
 eqBool:=λl d h=>by
  rcases QN l with ⟨i,t,rfl,rfl⟩ | ⟨x,t,rfl,rfl⟩
  ·rcases QN d with ⟨j,u,rfl,rfl⟩ | ⟨y,u,rfl,rfl⟩
   ·rw[BR] at h;exact wpAny_eqBool_int h
   ·rw[ZOP] at h;exact SeqAt.EqAt.int_str i t y u _ _ _ _ h
  ·rcases QN d with ⟨j,u,rfl,rfl⟩ | ⟨y,u,rfl,rfl⟩
   ·rw[BI] at h;exact SeqAt.EqAt.str_int x t j u _ _ _ _ h
   ·rw[Am] at h;exact wpAny_eqBool_str h
 «strs» :=λk x t v h=>by
  rcases QN h with ⟨i,u,rfl,e⟩ | ⟨y,u,rfl,e⟩
  ·exact nomatch e
  ·injection e with e1 _;subst e1;cases v <;> rfl
def ZGW(a:al)(w:ar)(i:Int)(t:Tok):(We a w).is (.inl i) (.int i t)=true:=Ae i t
def ZGH(a:al)(w:ar)(x:Str)(t:Tok):(We a w).is (.inr x) (.str x t)=true:=ZIY x t
inductive V where
 | non | bl (b:Bool) | int (i:Int) | str (x:Str) | byt (b:Array UInt8) | flt (b:UInt64) | ref (a:aj) | ty (n:String)
 deriving DecidableEq
abbrev jf:=List V
abbrev jg:=Option V
def ZU:V->ai->Prop
 | .non,u=>u=Value.none
 | .bl b,u=>u=Value.bool b
 | .int i,u=>∃ t,u=Value.int i t
 | .str x,u=>∃ t,u=Value.str x t
 | .byt b,u=>∃ t,u=Value.bytes b t
 | .flt b,u=>∃ t,u=Value.float b t
 | .ref a,u=>u=Value.ref a
 | .ty n,u=>u=Value.type n
abbrev ZT:jf->je->Prop:=Paired ZU
def ZT.length{b:jf}{a:je}(r:ZT b a):b.length=a.length:=Paired.length r
def ZT.get:∀{b:jf}{a:je}{i:Nat}{x:V},ZT b a->b[i]? = some x->∃ u,a[i]? = some u/\ZU x u
 | _,_,_,_,.nil,e=>by simp at e
 | _,_,0,_,.cons r _,e=>by simp at e;subst e;exact⟨_,Z,r⟩
 | _,_,i+1,x,.cons _ t,e=>by
  let⟨u,c,d⟩:=ZT.get (i:=i) (x:=x) t (by simpa using e)
  exact⟨u,by simpa using c,d⟩
def ZT.set{x:V}{u:ai}(r:ZU x u):∀{b:jf}{a:je}(i:Nat),ZT b a->ZT (b.set i x) (a.set i u)
 | _,_,_,.nil=>.nil
 | _,_,0,.cons _ t=>.cons r t
 | _,_,i+1,.cons q t=>.cons q (ZT.set r i t)
def ZT.append:∀{c d:jf}{a b:je},ZT c a->ZT d b->ZT (c++d) (a++b):=by intro _ _ _ _ h g;induction h with
 | nil=>exact g
 | cons r _ e=>exact .cons r e
def ZT.take:∀{b:jf}{a:je}(n:Nat),ZT b a->ZT (b.take n) (a.take n)
 | _,_,0,_=>.nil
 | _,_,_+1,.nil=>.nil
 | _,_,n+1,.cons r t=>.cons r (ZT.take n t)
def ZT.drop:∀{b:jf}{a:je}(n:Nat),ZT b a->ZT (b.drop n) (a.drop n)
 | _,_,0,r=>r
 | _,_,_+1,.nil=>.nil
 | _,_,n+1,.cons _ t=>ZT.drop n t
def Yj:jg->jd->Prop
 | some v,some u=>ZU v u
 | none,none=>True
 | _,_=>False
def KV{a:Type}:List (a×V)->List (a×ai)->Prop:=Paired fun(p:a×V)(q:a×ai)=>p.1=q.1/\ZU p.2 q.2
def kV:ZR->V
 | .inl i=>.int i
 | .inr x=>.str x
inductive HO where
 | lst (xs:jf)
 | tup (xs:jf)
 | dK (kvs:List (ZR×V)) | dT (kvs:List (jC×V))
 | set (S:Int->Bool) (n:Nat)
 | ins (C dx:aj) (fs:List (Str×V))
 | own (x:aj)
 | xd (fs:List (Str×V))
 | met (f x:aj)
 | rng (lo hi:Int)
 | frz (o:aG) (u:HO)
 | tbl (ps:jv)
 | ext (φ:aC->Prop)
abbrev Hp:=aj->Option HO
def upd(H:Hp)(a:aj)(o:HO):Hp:=λb=>if b=a then some o else H b
def ZP{H:Hp}{a:aj}{o:HO}:upd H a o a=some o:=by unfold upd;rw[aM rfl]
def ZM{H:Hp}{a b:aj}{o:HO}(h:b≠a):upd H a o b=H b:=by unfold upd;rw[aK h]
def N7{H:Hp}{a:aj}{o u:HO}:upd (upd H a o) a u=upd H a u:=by
 funext b;unfold upd;split <;> rfl
def ZI{H:Hp}{a b:aj}{o u:HO}(h:H a=some o)(c:H b=some u)(d:o≠u:=by intro z;cases z):a≠b:=by
 intro e;subst e;rw[h] at c;exact d (zB.inj c)
def Za{H:Hp}{a b:aj}{o:HO}(h:H a=some o)(c:H b=none):a≠b:=by
 intro e;subst e;rw[h] at c;cases c
section
variable(P:al)(w:ar)
def Zd(H:Hp)(h:aC)(a:aj):HO->Prop
 | .lst c=>c.length<=ap/\∃(b:je)(n:Nat),ZT c b/\h.get? a=some { cls:=.type "list",data:=.seq b.toArray n }
 | .tup c=>c.length<=ap/\∃ b:je,ZT c b/\IsTup h a b.toArray
 | .dK kvs=>kvs.length<=ap/\(a==sysModules)=false/\∃ l,KV kvs l/\h.DictOf (We P w) a l
 | .dT kvs=>kvs.length<=ap/\(a==sysModules)=false/\∃ c:List (jC×aj×ai),
   Paired (fun(p:jC×V)(q:jC×aj×ai)=>p.1=q.1/\H q.2.1=some (.tup (p.1.map kV))/\ZU p.2 q.2.2) kvs c /\
   ∃ o i m,h.get? a=some o/\o.ExactDict/\o.data=.dict i m/\i.toList=c.map (entryOfKey (tupleKind (We P w)))/\(c.map (·.1)).Nodup
 | .set S n=>h.SetOf (intKind P w) a S n
 | .ins C g e=>H g=some (.own a)/\e.length<=1000/\g≠a/\h.get? a=some (wU C g) /\
   ∃ d,h.Ns1 g d/\(∀ f,Yj (e.lookup f) (d f))/\PySem.Within d (e.map (·.1))
 | .own _=>∃ o,h.get? a=some o
 | .xd e=>∃ d,h.Ns1 a d/\∀ f,Yj (e.lookup f) (d f)
 | .rng lo r=>∃ t u v,h.get? a=some { cls:=.type "range",data:=.fields #[.int lo t,.int r u,.int 1 v] }
 | .frz o u=>h.get? a=some o/\Zd H h a u
 | .tbl ps=>h.get? a=some { cls:=.none,data:=.fields ps }
 | .met f x=>h.get? a=some (sL (.ref f) (.ref x))
 | .ext φ=>φ h/\(∃ o,h.get? a=some o)/\∀ j k:aC,φ j->(∀ o,j.get? a=some o->k.get? a=some o)->φ k
def Yu(H:Hp)(h:aC):Prop:=∀ a o,H a=some o->Zd P w H h a o
end
section
variable{P:al}{w:ar}{H H':Hp}{h h':aC}{a:aj}{o:HO}
def Zd.lt(x:Zd P w H h a o):a<h.objs.size:=by
 cases o with
 | lst d=>let⟨_,_,_,_,e⟩:=x;exact zU e
 | tup d=>let⟨_,_,_,p⟩:=x;exact p.lt
 | dK b=>let⟨_,_,_,_,o,_,_,e,_⟩:=x;exact zU e
 | dT b=>let⟨_,_,_,_,o,_,_,e,_⟩:=x;exact zU e
 | set S n=>let⟨o,_,_,_,e,_⟩:=x;exact zU e
 | ins C g c=>let⟨_,_,_,e,_⟩:=x;exact zU e
 | own y=>let⟨_,e⟩:=x;exact zU e
 | xd c=>let⟨_,⟨_,_,_,e,_⟩,_⟩:=x;exact zU e
 | rng j i=>let⟨_,_,_,e⟩:=x;exact zU e
 | frz k u=>let⟨e,_⟩:=x;exact zU e
 | tbl l=>exact zU (show h.get? a=some _ from x)
 | met f y=>exact zU (show h.get? a=some _ from x)
 | ext m=>let⟨_,⟨_,e⟩,_⟩:=x;exact zU e
def Paired.mapP{e g:Type}{F G:e->g->Prop}:∀{c:List e}{d:List g},Paired F c d->(∀ a b,F a b->G a b)->Paired G c d:=by intro _ _ h f;induction h with
 | nil=>exact .nil
 | cons r _ i=>exact .cons (f _ _ r) i
def Zd.stay(x:Zd P w H h a o)(k:∀ b u,(b=a\/H b=some (.own a))->h.get? b=some u->h'.get? b=some u)(I:∀ b,H b=some (.own a)->H' b=some (.own a))(J:∀ b m,H b=some (.tup m)->H' b=some (.tup m)):Zd P w H' h' a o:=by
 induction o with
 | lst m=>let⟨z,l,n,r,e⟩:=x;exact⟨z,l,n,r,k _ _ (.inl rfl) e⟩
 | tup m=>let⟨z,l,r,g,e,c⟩:=x;exact⟨z,l,r,g,k _ _ (.inl rfl) e,c⟩
 | dK s=>let⟨z,y,M,r,g,j,i,e,c⟩:=x;exact⟨z,y,M,r,g,j,i,k _ _ (.inl rfl) e,c⟩
 | dT s=>
  let⟨z,y,m,r,g,j,i,e,c⟩:=x;exact⟨z,y,m,Paired.mapP r λp q z=>⟨z.1,J _ _ z.2.1,z.2.2⟩,g,j,i,k _ _ (.inl rfl) e,c⟩
 | set S n=>let⟨g,j,i,t,e,c⟩:=x;exact⟨g,j,i,t,k _ _ (.inl rfl) e,c⟩
 | ins C N G=>
  let⟨d,z,L,e,A,⟨B,j,i,F,c⟩,r⟩:=x;exact⟨I _ d,z,L,k _ _ (.inl rfl) e,A,⟨B,j,i,k _ _ (.inr d) F,c⟩,r⟩
 | own y=>let⟨g,e⟩:=x;exact⟨g,k _ _ (.inl rfl) e⟩
 | xd G=>let⟨A,⟨B,j,i,e,c⟩,r⟩:=x;exact⟨A,⟨B,j,i,k _ _ (.inl rfl) e,c⟩,r⟩
 | rng Q O=>let⟨t,u,v,e⟩:=x;exact⟨t,u,v,k _ _ (.inl rfl) e⟩
 | frz g u K=>let⟨e,q⟩:=x;exact⟨k _ _ (.inl rfl) e,K q⟩
 | tbl D=>
  let e:h.get? a=some { cls:=.none,data:=.fields D }:=x;show h'.get? a=some { cls:=.none,data:=.fields D };exact k a _ (.inl rfl) e
 | met f y=>
  let e:h.get? a=some (sL (.ref f) (.ref y)):=x;show h'.get? a=some (sL (.ref f) (.ref y));exact k a _ (.inl rfl) e
 | ext R=>let⟨p,⟨o,e⟩,E⟩:=x;exact⟨E _ _ p λo q=>k _ _ (.inl rfl) q,⟨o,k _ _ (.inl rfl) e⟩,E⟩
def Yu.lt(x:Yu P w H h)(e:H a=some o):a<h.objs.size:=(x a o e).lt
def Yu.fresh(x:Yu P w H h)(e:h.objs.size<=a):H a=none:=by
 cases q:H a with
 | none=>rfl
 | some u=>exact absurd (yG (x.lt q) e) (xH _)
def Yu.kept(x:Yu P w H h)(k:∀ b u,h.get? b=some u->h'.get? b=some u):Yu P w H h':=λa o e=>
 (x a o e).stay (λb u _ q=>k b u q) (λ_ q=>q) λ_ _ q=>q
def Yu.laid(x:Yu P w H h)(k:∀ b u,h.get? b=some u->h'.get? b=some u)(i:h.objs.size<=a)(d:Zd P w (upd H a o) h' a o):Yu P w (upd H a o) h':=λb u e=>by
 let g:=x.fresh i;by_cases f:b=a
 ·subst f;rw[ZP] at e;cases e;exact d
 ·rw[ZM f] at e;exact(x b u e).stay (λc v _ q=>k c v q) (λc q=>by rw[ZM (Za q g)];exact q) λc j q=>by rw[ZM (Za q g)];exact q
end
def Rd(H:Hp)(a:aj)(u:HO):Prop:=H a=some u\/∃ o,H a=some (.frz o u)
def Rd.of{H:Hp}{a:aj}{u:HO}(h:H a=some u):Rd H a u:=.inl h
def Rd.ok{P:al}{w:ar}{H:Hp}{h:aC}{a:aj}{u:HO}(r:Rd H a u)(x:Yu P w H h):Zd P w H h a u:=by
 rcases r with r | ⟨o,r⟩
 ·exact x a u r
 ·let⟨_,q⟩:=x a _ r;exact q
def NS:Option HO->Prop
 | some (.lst _)=>True
 | some (.dK _)=>True
 | some (.dT _)=>True
 | some (.set _ _)=>True
 | some (.ins _ _ _)=>True
 | some (.ext _)=>True
 | _=>False
section
variable{P:al}{w:ar}{H:Hp}{h h':aC}{x e:aj}{o':HO}
def Yu.write(t:Yu P w H h)(j:NS (H x))(o:e=x\/H e=some (.own x))(k:∀ b u,b≠e->h.get? b=some u->h'.get? b=some u)(m:∃ u,h'.get? e=some u)(n:Zd P w (upd H x o') h' x o'):Yu P w (upd H x o') h':=λb u q=>by
 let d:∀ c y,H c=some (.own y)->c≠x:=λc y r z=>by subst z;rw[r] at j;exact j
 let f:∀ c l,H c=some (.tup l)->c≠x:=λc l r z=>by subst z;rw[r] at j;exact j
 by_cases g:b=x
 ·subst g;rw[ZP] at q;cases q;exact n
 ·rw[ZM g] at q;by_cases a:b=e
  ·let p:H b=some (.own x):=by
    rcases o with z | z
    ·exact absurd (a.trans z) g
    ·rw[a];exact z
   rw[q] at p;cases p;let⟨v,s⟩:=m;exact⟨v,by rw[a];exact s⟩
  ·refine(t b u q).stay (λc v i r=>k c v ?_ r) (λc r=>by rw[ZM (d c b r)];exact r) λc l r=>by rw[ZM (f c l r)];exact r
   rcases i with rfl | i
   ·exact a
   ·rintro rfl;rcases o with z | z
    ·exact d c b i z
    ·rw[i] at z;cases z;exact g Z
end
structure Un(fs ex:jw)(H H':Hp)(h h':aC):Prop where
 keep:∀ b o,h.get? b=some o->H b=none->b∉fs->b∉ex->h'.get? b=some o
 slot:∀ b o,h.get? b=some o->H b=none->b∈fs->b∉ex->∃ sl,h'.get? b=some { o with slots:=sl }
 free:∀ b o,h.get? b=some o->H b=none->b∉ex->H' b=none
 there:∀ b o,h.get? b=some o->b∉ex->∃ o',h'.get? b=some o'
 tups:∀ b xs,H b=some (.tup xs)->H' b=some (.tup xs)
 frzs:∀ b o u,H b=some (.frz o u)->H' b=some (.frz o u)
 tbls:∀ b ps,H b=some (.tbl ps)->∃ more,H' b=some (.tbl (ps++more))
section
variable{fs fs' ex ex':jw}{H H1 H2:Hp}{h h1 h2 h':aC}{a x e:aj}{o:HO}
def Un.any(u:Un fs ex H H1 h h1){b:aj}{c:aG}(q:h.get? b=some c)(n:H b=none)(f:b∉ex):∃ g,h1.get? b=some { c with slots:=g }:=by
 by_cases d:b∈fs
 ·exact u.slot b c q n d f
 ·exact⟨c.slots,u.keep b c q n d f⟩
def Un.kept(k:∀ b u,h.get? b=some u->h'.get? b=some u):Un fs ex H H h h':=
 ⟨λb c q _ _ _=>k b c q,λb c q _ _ _=>⟨c.slots,k b c q⟩,λ_ _ _ n _=>n,λb c q _=>⟨c,k b c q⟩,λ_ _ q=>q,λ_ _ _ q=>q,λ_ d q=>⟨#[],by rw[q];simp⟩⟩
def Un.refl:Un fs ex H H h h:=Un.kept λ_ _ q=>q
def Un.laid(k:∀ b u,h.get? b=some u->h'.get? b=some u)(d:h.objs.size<=a)(c:H a=none):Un fs ex H (upd H a o) h h' where
 keep:=λb u q _ _ _=>k b u q
 slot:=λb u q _ _ _=>⟨u.slots,k b u q⟩
 free:=λb u q n _=>by rw[ZM (zK (yG (zU q) d))];exact n
 there:=λb u q _=>⟨u,k b u q⟩
 tups:=λb f q=>by rw[ZM (Za q c)];exact q
 frzs:=λb u f q=>by rw[ZM (Za q c)];exact q
 tbls:=λb g q=>⟨#[],by rw[ZM (Za q c),q];simp⟩
def Un.write(d:NS (H x))(l:e=x\/H e=some (.own x))(k:∀ b u,b≠e->h.get? b=some u->h'.get? b=some u)(f:∃ u,h'.get? e=some u):Un fs ex H (upd H x o) h h':=by
 let j:∀ b,H b=none->b≠x:=λb n z=>by subst z;rw[n] at d;exact d
 let i:∀ b,H b=none->b≠e:=λb n z=>by
  subst z;rcases l with r | r
  ·exact j b n r
  ·rw[n] at r;cases r
 let g:∀ b u,H b=some u->¬ NS (some u)->b≠x:=λb u q m z=>by subst z;rw[q] at d;exact m d
 refine⟨λb u q n _ _=>k b u (i b n) q,λb u q n _ _=>⟨u.slots,k b u (i b n) q⟩,λb u q n _=>by rw[ZM (j b n)];exact n,λb u q _=>?_,
  λb p q=>by rw[ZM (g b _ q λz=>z)];exact q,λb u p q=>by rw[ZM (g b _ q λz=>z)];exact q,λb s q=>⟨#[],by rw[ZM (g b _ q λz=>z),q];simp⟩⟩
 by_cases c:b=e
 ·subst c;exact f
 ·exact⟨u,k b u c q⟩
end
def MO(h:aC)(H:Hp):List Addr:=(zN h.objs.size).filter λa=>(H a).isSome
def Qs(h:aC)(H:Hp):Heap:=xQ h (MO h H)
def Ey(h:aC)(H:Hp):(Qs h H).objs.size=h.objs.size:=PySem.W.hideAll_size _ _
def ZLG{h:aC}{H:Hp}{b:aj}{o:aG}(e:h.get? b=some o)(n:H b=none):(Qs h H).get? b=some o:=
 tW _ e λa=>by
  let q:(H b).isSome=true:=(yW.mp a).2;rw[n] at q;simp at q
def Dq{h:aC}{H:Hp}{b:aj}{o:aG}(e:(Qs h H).get? b=some o):h.get? b=some o/\H b=none:=by
 let a:h.get? b=some o:=vL (MO h H) e;exists a
 cases q:H b with
 | none=>rfl
 | some x=>
  let c:b∈MO h H:=yW.mpr ⟨xG.mpr (zU a),by simp[q]⟩
  let z:(Qs h H).get? b=none:=tS (MO h H) c;rw[z] at e;cases e
def ZNV(g h:aC)(L:aj):js:=(zN h.objs.size).filterMap λa=>if a=L\/(g.get? a).isSome=true then none else (h.get? a).map λo=>(a,o)
def rest(g h:aC)(L d:aj):js:=(ZNV g h L).filter λp=>decide (p.1≠d)
structure Mod(K:zZ)(mg:jb)(kf:aC):Prop where
 kin:K.In kf
 glob:kf.Ns ao mg
 blt:∃ mb,kf.Ns builtinsNs mb/\∀ x:Str,x ≠ "__name__"->mb x=ax x
 nolimit:kf.NoLimit
structure Cx where
 prog:al
 w:ar
 K:zZ
 mg:jb
 base:aC
 A:aw
 N:jr
 s₀:ak
 H₀:Hp
 env:Env
 outer:jB
 stack:jB
 ex:jw
 fn:Str->Bool
 calm:Bool
 pn:js
 xe:ja
def frs(l:jB):List Addr:=l.filterMap (·.frame)
abbrev Cx.fs(X:Cx):List Addr:=frs X.outer
def JP(a:aD)(x:Str):Prop:=a.names.lookup x=some .local\/a.names.lookup x=some .cell\/a.names.lookup x=some .free
def O3(a:aD)(x:Str):Prop:=a.names.lookup x=some .local\/a.names.lookup x=some .cell
def Bx(a:Env)(h:aC)(m:jb)(x:Str)(u:ai):Prop:=
 (a.kindOf x=some .local/\m x=some u)\/((a.kindOf x=some .cell\/a.kindOf x=some .free)/\∃ c,a.cells.lookup x=some c/\h.IsCell c (some u))
structure Cx.Ok(X:Cx):Prop where
 mod:Mod X.K X.mg X.base
 kind:X.env.scope.kind=.function
 glob:X.env.globals=ao
 blt:X.env.builtins=builtinsNs
 above:X.s₀.heap.objs.size<=X.env.locals
 inj:∀ x y c,X.env.cells.lookup x=some c->X.env.cells.lookup y=some c->x=y
 has:∀ x,(X.env.kindOf x=some .cell\/X.env.kindOf x=some .free)->∃ c,X.env.cells.lookup x=some c
 cab:∀ x c,X.fn x=true->X.env.cells.lookup x=some c->X.s₀.heap.objs.size<=c
 hd:X.calm=true->X.A.handled=none
 frames:X.A.frames=some X.stack
 stk:X.stack=X.outer\/(X.stack=X.env::X.outer/\X.env.frame=some X.env.locals)
 exf:∀ b∈X.ex,b≠X.env.locals/\∀ x c,X.env.cells.lookup x=some c->c≠b
 bs:∀ b o,X.base.get? b=some o->X.s₀.heap.get? b=some o/\X.H₀ b=none
 bsz:X.base.objs.size<=X.s₀.heap.objs.size
 noex:∀ b o,X.base.get? b=some o->b∉X.ex
 exfs:∀ b∈X.ex,b∉X.fs
 funs:X.s₀.heap.FunFrames X.base X.outer
 frf:∀ b∈X.fs,X.H₀ b=none
structure ZE(X:Cx)(ke:js)(σ:List (jg))(H:Hp)(s:ak):Prop where
 ok:X.Ok
 os:s.os=X.s₀.os
 bare:AllBare s.gens
 base:Un X.fs X.ex X.H₀ H X.s₀.heap s.heap
 loc:∃ m,s.heap.Ns X.env.locals m/\∀(i:Nat)(x:Str)(v:V),X.N[i]? = some x->σ[i]? = some (some v)->JP X.env.scope x->∃ u,ZU v u/\Bx X.env s.heap m x u
 cell:∀ x c,X.env.cells.lookup x=some c->∃ v,s.heap.IsCell c v
 free:H X.env.locals=none
 freeC:∀ x c,X.env.cells.lookup x=some c->H c=none
 pin:∀ p∈X.pn++ke,s.heap.get? p.1=some p.2/\H p.1=none/\p.1≠X.env.locals/\p.1∉X.fs/\∀ v,p.2.data≠.cell v
 hok:Yu X.prog X.w H s.heap
 len:σ.length=X.N.length
section
variable{X:Cx}{ke:js}{σ:List (jg)}{H H':Hp}{s:ak}{h':aC}
def Cx.Ok.nofr(c:X.Ok){b:aj}{o:aG}(e:X.base.get? b=some o):b∉X.fs:=λa=>by
 have:=(c.funs.mem a).1;rw[e] at this;cases this
def ZE.bs(I:ZE X ke σ H s):∀ b o,X.base.get? b=some o->s.heap.get? b=some o/\H b=none:=λb o e=>
 ⟨I.base.keep b o (I.ok.bs b o e).1 (I.ok.bs b o e).2 (I.ok.nofr e) (I.ok.noex b o e),I.base.free b o (I.ok.bs b o e).1 (I.ok.bs b o e).2 (I.ok.noex b o e)⟩
def ZE.bk(I:ZE X ke σ H s):∀ b o,X.base.get? b=some o->s.heap.get? b=some o:=λb o e=>(I.bs b o e).1
def ZE.mod(I:ZE X ke σ H s):Mod X.K X.mg X.base:=I.ok.mod
def ZE.kIn(I:ZE X ke σ H s):X.K.In s.heap:=I.ok.mod.kin.keeps I.bk
def ZE.lt(I:ZE X ke σ H s):X.env.locals<s.heap.objs.size:=let ⟨_,hn,_⟩:=I.loc;hn.lt
def ZE.sz(I:ZE X ke σ H s):X.s₀.heap.objs.size<=s.heap.objs.size:=zL I.ok.above (xV I.lt)
def ZE.nofs(I:ZE X ke σ H s){a:aj}(h:s.heap.objs.size<=a):a∉X.fs:=λb=>by
 let⟨_,o,c,_⟩:=I.ok.funs.mem b;exact absurd (yG (zU c) (zL I.sz h)) (xH _)
def ZE.cne(I:ZE X ke σ H s):∀ x c,X.env.cells.lookup x=some c->c≠X.env.locals:=λx c e z=>by
 let⟨v,o,f,d⟩:=I.cell x c e;let⟨m,⟨i,h,g,b,a,_⟩,_⟩:=I.loc;rw[z,b] at f;cases f;rw[a] at d;cases d
def ZE.funs(I:ZE X ke σ H s):s.heap.FunFrames X.base X.outer:=by
 let a:∀(l:jB),(∀ b∈frs l,b∈X.fs)->X.s₀.heap.FunFrames X.base l->s.heap.FunFrames X.base l:=by
  intro l
  induction l with
  | nil=>intro _ _;trivial
  | cons h r q=>
   intro g k;let⟨j,⟨L,o,f,m,n,i⟩,p⟩:=k;let c:L∈X.fs:=g L (by unfold frs;rw[uA,f];exact zT)
   let⟨t,e⟩:=I.base.slot L o n (I.ok.frf L c) c λz=>I.ok.exfs L z c;exact⟨j,⟨L,_,f,m,e,i⟩,q (λb d=>g b (by unfold frs;rw[uA,f];exact zI _ d)) p⟩
 exact a X.outer (λ_ d=>d) I.ok.funs
def ZE.stack(I:ZE X ke σ H s):s.heap.FunFrames X.base X.stack:=by
 rcases I.ok.stk with e | ⟨e,a⟩
 ·rw[e];exact I.funs
 ·rw[e];let⟨m,b,_⟩:=I.loc;refine .cons (by rw[I.ok.kind];decide) a b ?_ I.funs
  exact uX (zL I.ok.bsz I.ok.above)
def ZE.stkSub(I:ZE X ke σ H s):∀ b∈frs X.stack,b∈X.env.locals::X.fs:=λb a=>by
 rcases I.ok.stk with e | ⟨e,c⟩
 ·rw[e] at a;exact zI _ a
 ·rw[e] at a;unfold frs at a;rw[uA,c] at a;exact a
def ZE.stkFree(I:ZE X ke σ H s):∀ b∈frs X.stack,H b=none:=λb a=>by
 rcases zC.mp (I.stkSub b a) with e | a
 ·rw[e];exact I.free
 ·let⟨_,o,c,_⟩:=I.ok.funs.mem a;exact I.base.free b o c (I.ok.frf b a) λz=>I.ok.exfs b z a
def ZE.step{g':Array GenState}{t':Nat}{d':Drawn}{ch:jw}(I:ZE X ke σ H s)(h:∀ b∈ch,(b∈X.ex\/X.s₀.heap.objs.size<=b)/\b≠X.env.locals/\(∀ x c,X.env.cells.lookup x=some c->c≠b)/\∀ p∈X.pn++ke,p.1≠b)(j:∀ b o,b≠X.env.locals->b∉X.fs->b∉ch->s.heap.get? b=some o->H b=none->h'.get? b=some o)(B:∀ b o,b≠X.env.locals->b∈X.fs->b∉ch->s.heap.get? b=some o->H b=none->∃ S,h'.get? b=some { o with slots:=S })(f:∀ b o,b∉ch->s.heap.get? b=some o->H b=none->H' b=none)(E:∀ b o,b∉ch->s.heap.get? b=some o->∃ M,h'.get? b=some M)(O:∀ b C,H b=some (.tup C)->H' b=some (.tup C))(J:∀ b o u,H b=some (.frz o u)->H' b=some (.frz o u))(N:∀ b P,H b=some (.tbl P)->∃ K,H' b=some (.tbl (P++K)))(ns:∀ m,s.heap.Ns X.env.locals m->h'.Ns X.env.locals m)(R:Yu X.prog X.w H' h')(hg:AllBare g'):
  ZE X ke σ H' { s with heap:=h',gens:=g',drawn:=d',toks:=t' }:=by
 let L:∀ b o,X.s₀.heap.get? b=some o->b≠X.env.locals:=λb o e=>zK (yG (zU e) I.ok.above);let A:∀ b o,X.s₀.heap.get? b=some o->b∉X.ex->b∉ch:=λb o e a D=>by
  rcases(h b D).1 with z | z
  ·exact a z
  ·exact absurd (yG (zU e) z) (xH _)
 let g:∀ x c,X.env.cells.lookup x=some c->∀ v,s.heap.IsCell c v->h'.IsCell c v:=λx c e v ⟨o,F,Q⟩=>by
  let t:c∉ch:=λz=>(h c z).2.2.1 x c e Z;by_cases U:c∈X.fs
  ·let⟨S,q⟩:=B c o (I.cne x c e) U t F (I.freeC x c e);exact⟨_,q,Q⟩
  ·exact⟨o,j c o (I.cne x c e) U t F (I.freeC x c e),Q⟩
 refine⟨I.ok,I.os,hg,⟨λb o e n D a=>?_,λb o e n D a=>?_,λb o e n a=>?_,λb o e a=>?_,λb C e=>O b C (I.base.tups b C e),λb o C e=>J b o C (I.base.frzs b o C e),λb P e=>?_⟩,?_,λx c e=>?_,?_,λx c e=>?_,λp V=>?_,R,I.len⟩
 ·exact j b o (L b o e) D (A b o e a) (I.base.keep b o e n D a) (I.base.free b o e n a)
 ·let⟨S,y⟩:=I.base.slot b o e n D a;let⟨T,G⟩:=B b _ (L b o e) D (A b o e a) y (I.base.free b o e n a);exact⟨T,G⟩
 ·let⟨M,y⟩:=I.base.there b o e a;exact f b M (A b o e a) y (I.base.free b o e n a)
 ·let⟨M,y⟩:=I.base.there b o e a;exact E b M (A b o e a) y
 ·let⟨m1,y⟩:=I.base.tbls b P e;let⟨m2,G⟩:=N b _ y;exact⟨m1++m2,by rw[G,uS]⟩
 ·let⟨m,hn,hl⟩:=I.loc;exists m,ns m hn;intro i x v y G e3;let⟨u,r,l⟩:=hl i x v y G e3;exists u,r;rcases l with l | ⟨k,c,e,z⟩
  ·exact .inl l
  ·exact .inr ⟨k,c,e,g x c e _ z⟩
 ·let⟨v,z⟩:=I.cell x c e;exact⟨v,g x c e v z⟩
 ·let⟨m,⟨o,_,_,F,_⟩,_⟩:=I.loc;exact f _ o (λz=>(h _ z).2.1 Z) F I.free
 ·let⟨v,o,F,Q⟩:=I.cell x c e;exact f c o (λz=>(h c z).2.2.1 x c e Z) F (I.freeC x c e)
 ·let⟨e,n,W,Y,d⟩:=I.pin p V;let t:p.1∉ch:=λz=>(h p.1 z).2.2.2 p V Z;exact⟨j p.1 p.2 W Y t e n,f p.1 p.2 t e n,W,Y,d⟩
def ZE.un{t':Nat}(I:ZE X ke σ H s)(u:Un X.fs [] H H' s.heap h')(g:Yu X.prog X.w H' h'):ZE X ke σ H' { s with heap:=h',toks:=t' }:=by
 let⟨m,⟨o,p,l,h,r⟩,_⟩:=id I.loc;let⟨v,i⟩:=u.any h I.free (by simp)
 exact I.step (g':=s.gens) (d':=s.drawn) (ch:=[]) (λ_ z=>nomatch z) (λb o _ f _ e n=>u.keep b o e n f (by simp)) (λb o _ f _ e n=>u.slot b o e n f (by simp)) (λb o _ e n=>u.free b o e n (by simp)) (λb o _ e=>u.there b o e (by simp)) u.tups u.frzs u.tbls (λq j=>by
  let⟨t,d,c,a,k⟩:=j;rw[h] at a;cases a;exact⟨_,d,c,i,k⟩) g I.bare
def ZE.call{g':Array GenState}{t':Nat}{d':Drawn}{ch:jw}(I:ZE X ke σ H s)(u:Un (frs X.stack) ch H H' s.heap h')(j:Yu X.prog X.w H' h')(q:AllBare g')(d:∀ b∈ch,(b∈X.ex\/X.s₀.heap.objs.size<=b)/\b≠X.env.locals/\(∀ x c,X.env.cells.lookup x=some c->c≠b)/\∀ p∈X.pn++ke,p.1≠b):
  ZE X ke σ H' { s with heap:=h',gens:=g',drawn:=d',toks:=t' }:=by
 let⟨m,⟨o,A,y,k,r⟩,_⟩:=id I.loc;let⟨D,i⟩:=u.any k I.free λz=>(d _ z).2.1 Z;exact I.step (ch:=ch) d (λb o i l a e n=>u.keep b o e n (λz=>(zC.mp (I.stkSub b z)).elim i l) a) (λb o _ _ a e n=>u.any e n a) (λb o a e n=>u.free b o e n a) (λb o a e=>u.there b o e a) u.tups u.frzs u.tbls (λB t=>by
  let⟨C,h,g,f,v⟩:=t;rw[k] at f;cases f;exact⟨_,h,g,i,v⟩) j q
def ZE.turned{t':Nat}{it:aj}(I:ZE X ke σ H s)(k:∀ b o,b≠it->s.heap.get? b=some o->h'.get? b=some o)(y:H it=none)(f:it≠X.env.locals)(i:it∈X.ex\/X.s₀.heap.objs.size<=it)(j:∀ x c,X.env.cells.lookup x=some c->c≠it)(l:∀ p∈X.pn++ke,p.1≠it):ZE X ke σ H { s with heap:=h',toks:=t' }:=by
 let d:∀ b u,H b=some u->b≠it:=λb u e z=>by rw[z,y] at e;cases e
 refine I.step (g':=s.gens) (d':=s.drawn) (ch:=[it]) (λb t=>?_) (λb o _ _ a e _=>k b o (λz=>a (by simp[z])) e) (λb o _ _ a e _=>⟨o.slots,k b o (λz=>a (by simp[z])) e⟩) (λ_ _ _ _ n=>n)
  (λb o a e=>⟨o,k b o (λz=>a (by simp[z])) e⟩) (λ_ _ e=>e) (λ_ _ _ e=>e) (λb B e=>⟨#[],by rw[e];simp⟩) (λm w=>?_) (λb u e=>?_) I.bare
 ·let e:b=it:=by simpa using t
  subst e;exact⟨i,f,j,l⟩
 ·let⟨o,h,g,A,r⟩:=w;exact⟨o,h,g,k _ o (Ne.symm f) A,r⟩
 ·refine(I.hok b u e).stay (λc v a q=>k c v ?_ q) (λ_ q=>q) λ_ _ q=>q;rcases a with z | z
  ·rw[z];exact d b u e
  ·exact d c _ z
def ZE.tok(I:ZE X ke σ H s)(t:Nat):ZE X ke σ H { s with toks:=t }:=I.un (h':=s.heap) (t':=t) Un.refl I.hok
def ZE.kept{t':Nat}(I:ZE X ke σ H s)(k:∀ b u,s.heap.get? b=some u->h'.get? b=some u):ZE X ke σ H { s with heap:=h',toks:=t' }:=I.un (Un.kept k) (I.hok.kept k)
def ZE.laid{a:aj}{o:HO}{t':Nat}(I:ZE X ke σ H s)(k:∀ b u,s.heap.get? b=some u->h'.get? b=some u)(c:s.heap.objs.size<=a)(d:Zd X.prog X.w (upd H a o) h' a o):
  ZE X ke σ (upd H a o) { s with heap:=h',toks:=t' }:=I.un (Un.laid k c (I.hok.fresh c)) (I.hok.laid k c d)
def ZE.write{x e:aj}{o:HO}{g:Nat}(I:ZE X ke σ H s)(f:NS (H x))(d:e=x\/H e=some (.own x))(k:∀ b u,b≠e->s.heap.get? b=some u->h'.get? b=some u)(a:∃ u,h'.get? e=some u)(c:Zd X.prog X.w (upd H x o) h' x o):ZE X ke σ (upd H x o) { s with heap:=h',toks:=g }:=I.un (Un.write f d k a) (I.hok.write f d k a c)
def ZE.pins_of{a:js}(I:ZE X ke σ H s)(h:∀ p∈a,s.heap.get? p.1=some p.2/\H p.1=none/\p.1≠X.env.locals/\p.1∉X.fs/\∀ v,p.2.data≠.cell v):ZE X a σ H s:=
 ⟨I.ok,I.os,I.bare,I.base,I.loc,I.cell,I.free,I.freeC,λp b=>(zJ.mp b).elim (λz=>I.pin p (yC _ z)) (h p),I.hok,I.len⟩
def IY{N:jr}(e:N.Nodup){i j:Nat}{x:Str}(a:N[i]? = some x)(b:N[j]? = some x):i=j:=by
 let⟨f,c⟩:=yN.mp a;let⟨g,d⟩:=yN.mp b;exact(List.getElem_inj e).mp (c.trans d.symm)
def Gi{M:Model}{A:aw}{E:ja}{i:Nat}{x:Str}{v:V}{u:ai}{Q:Unit->ak->Prop}(I:ZE X ke σ H s)(hN:X.N.Nodup)(T:X.N[i]? = some x)(B:O3 X.env.scope x)(r:ZU v u)(h:∀ s',ZE X ke (σ.set i (some v)) H s'->(∃ a,xB a s.heap s'.heap/\(a=X.env.locals\/X.env.cells.lookup x=some a))->Q () s')(hf:X.fn x=true\/X.env.scope.names.lookup x=some .local:=by first | exact .inl rfl | exact .inr rfl | assumption):aA M A (storeName X.env x u) Q E s:=by
 let⟨m,hn,hl⟩:=id I.loc;let S:(X.env.scope.kind==.class || (X.env.scope.kind==.module&&X.env.locals != X.env.globals))=false:=by rw[I.ok.kind];rfl
 let F:i<σ.length:=by rw[I.len];exact(yN.mp T).1
 let J:=I.cne;let l:∀{a:aj}{h':aC},(∃ o,s.heap.get? a=some o/\H a=none)->xB a s.heap h'->Yu X.prog X.w H h':=fun{a h'} ha f b ob e=>by
  let⟨_,_,C⟩:=ha;refine(I.hok b ob e).stay (λc w' t q=>(f.2 c ?_).trans q) (λ_ q=>q) λ_ _ q=>q;rintro rfl;rcases t with rfl | t
  ·rw[C] at e;cases e
  ·rw[C] at t;cases t
 rcases B with G | G
 ·refine wpAny_storeName_local G hn (λh' a0 f=>?_) S;let⟨oL,_,_,a1,_⟩:=id hn;refine h _ ⟨I.ok,I.os,I.bare,⟨λb o e n K B=>?_,λb o e n K B=>?_,I.base.free,λb o e B=>?_,I.base.tups,I.base.frzs,I.base.tbls⟩,⟨_,a0,λj y v' g D e3=>?_⟩,λy c e=>?_,I.free,I.freeC,λp hp=>?_,l ⟨oL,a1,I.free⟩ f,by simpa using I.len⟩ ⟨_,f,.inl Z⟩
  ·exact(f.2 b (zK (yG (zU e) I.ok.above))).trans (I.base.keep b o e n K B)
  ·let⟨sl,g⟩:=I.base.slot b o e n K B;exact⟨sl,(f.2 b (zK (yG (zU e) I.ok.above))).trans g⟩
  ·let⟨o',g⟩:=I.base.there b o e B;exact⟨o',(f.2 b (zK (yG (zU e) I.ok.above))).trans g⟩
  ·by_cases O:j=i
   ·subst O;rw[T] at g;cases g;rw[tR F] at D;cases D;exact⟨u,r,.inl ⟨G,by simp⟩⟩
   ·rw[uW (Ne.symm O)] at D;let⟨u',r',q⟩:=hl j y v' g D e3;exists u',r';rcases q with ⟨k,e⟩ | ⟨k,c,e,z⟩
    ·refine .inl ⟨k,?_⟩;have:y≠x:=λe=>O (IY hN g (e ▸ T));simp[this,e]
    ·exact .inr ⟨k,c,e,z.sameBut f (J y c e)⟩
  ·let⟨w',z⟩:=I.cell y c e;exact⟨w',z.sameBut f (J y c e)⟩
  ·let⟨e,n,ne,nf,d⟩:=I.pin p hp;exact⟨(f.2 p.1 ne).trans e,n,ne,nf,d⟩
 ·let L:X.fn x=true:=by
   rcases hf with z | z
   ·exact z
   ·rw[z] at G;cases G
  let⟨c,t⟩:=I.ok.has x (.inl G);let⟨w',z⟩:=I.cell x c t;refine wpAny_storeName_cell I.ok.kind G t z (λh' P f=>?_);let⟨oc,U,W⟩:=id z;refine h { s with heap:=h' } ⟨I.ok,I.os,I.bare,⟨λb o e n K B=>?_,λb o e n K B=>?_,I.base.free,λb o e B=>?_,I.base.tups,I.base.frzs,I.base.tbls⟩,⟨m,hn.sameBut f (Ne.symm (J x c t)),λj y v' g D e3=>?_⟩,λy Y e=>?_,I.free,I.freeC,λp hp=>?_,l ⟨oc,U,I.freeC x c t⟩ f,by simpa using I.len⟩ ⟨c,f,.inr t⟩
  ·exact(f.2 b (zK (yG (zU e) (I.ok.cab x c L t)))).trans (I.base.keep b o e n K B)
  ·let⟨sl,g⟩:=I.base.slot b o e n K B;exact⟨sl,(f.2 b (zK (yG (zU e) (I.ok.cab x c L t)))).trans g⟩
  ·let⟨o',g⟩:=I.base.there b o e B;exact⟨o',(f.2 b (zK (yG (zU e) (I.ok.cab x c L t)))).trans g⟩
  ·by_cases O:j=i
   ·subst O;rw[T] at g;cases g;rw[tR F] at D;cases D;exact⟨u,r,.inr ⟨.inl G,c,t,P⟩⟩
   ·rw[uW (Ne.symm O)] at D;let⟨u',r',q⟩:=hl j y v' g D e3;exists u',r';rcases q with q | ⟨k,Y,e,z'⟩
    ·exact .inl q
    ·refine .inr ⟨k,Y,e,z'.sameBut f ?_⟩;rintro rfl;exact O (IY hN g (I.ok.inj _ _ _ e t ▸ T))
  ·by_cases R:Y=c
   ·subst R;exact⟨_,P⟩
   ·let⟨w2,z2⟩:=I.cell y Y e;exact⟨w2,z2.sameBut f R⟩
  ·let⟨e,n,ne,nf,d⟩:=I.pin p hp;refine⟨(f.2 p.1 ?_).trans e,n,ne,nf,d⟩;intro q;rw[q,U] at e;let q':oc=p.2:=zB.inj e;exact d w' (by rw[<-q'];exact W)
def Kh{M:Model}{A:aw}{E:ja}{i:Nat}{x:Str}{v:V}{u:ai}{Q:Unit->ak->Prop}(I:ZE X ke σ H s)(c:X.N.Nodup)(e:X.N[i]? = some x)(f:O3 X.env.scope x)(r:ZU v u)(h:∀ a,ZE X ke (σ.set i (some v)) H a->Q () a)(d:X.fn x=true\/X.env.scope.names.lookup x=some .local:=by first | exact .inl rfl | exact .inr rfl | assumption):aA M A (storeName X.env x u) Q E s:=
 Gi I c e f r (λa b _=>h a b) d
def ZE.call'{s':ak}{ch:jw}(I:ZE X ke σ H s)(i:s'.os=s.os)(u:Un (frs X.stack) ch H H' s.heap s'.heap)(d:Yu X.prog X.w H' s'.heap)(h:AllBare s'.gens)(a:∀ b∈ch,(b∈X.ex\/X.s₀.heap.objs.size<=b)/\b≠X.env.locals/\(∀ x c,X.env.cells.lookup x=some c->c≠b)/\∀ p∈X.pn++ke,p.1≠b):ZE X ke σ H' s':=by
 let⟨h',g,f,k,j⟩:=s';let e:j=s.os:=i;subst e;exact I.call (g':=g) (t':=k) (d':=f) u d h a
end
abbrev XK:=ai->jx->Hp->Prop
abbrev St:=List (jg)
abbrev VK:=V->Hp->Prop
abbrev TE:=St->Hp->VK->Prop
abbrev jQ:=List (TE×TE)
abbrev TT:=St->Hp->(Bool->Hp->Prop)->Prop
abbrev TA:=St->Hp->(jf->Hp->Prop)->Prop
structure Yc where
 nx:St->Hp->Prop
 rt:VK
 bk:St->Hp->Prop:=λ_ _=>False
 ct:St->Hp->Prop:=λ_ _=>False
abbrev TS:=Yc->St->Hp->Prop
def EP(X:Cx)(a:js)(d:St)(Q:VK)(u:ai)(c:ak):Prop:=∃ v b,ZE X a d b c/\ZU v u/\Q v b
def TP(X:Cx)(a:js)(e:St)(Q:Bool->Hp->Prop)(b:Bool)(d:ak):Prop:=∃ c,ZE X a e c d/\Q b c
def AP(X:Cx)(a:js)(f:St)(Q:jf->Hp->Prop)(e:je)(d:ak):Prop:=∃ c b,ZE X a f b d/\ZT c e/\Q c b
def SP(X:Cx)(b:js)(D:Yc)(f:Flow)(d:ak):Prop:=
 match f with
 | .next=>∃ a c,ZE X b a c d/\D.nx a c
 | .brk=>∃ a c,ZE X b a c d/\D.bk a c
 | .cont=>∃ a c,ZE X b a c d/\D.ct a c
 | .ret u=>∃ v a c,ZE X b a c d/\ZU v u/\D.rt v c
def PE(X:Cx)(e:Expr)(t:TE):Prop:=
 ∀(a:js)(s:ak)(b:St)(H:Hp)(Q:VK),ZE X a b H s->t b H Q->aA (az X.prog X.w) X.A (aF e X.env) (EP X a b Q) X.xe s
def PT(X:Cx)(e:Expr)(t:TT):Prop:=
 ∀(a:js)(s:ak)(b:St)(H:Hp)(Q:Bool->Hp->Prop),ZE X a b H s->t b H Q->aA (az X.prog X.w) X.A (isTrue e X.env (aF e X.env)) (TP X a b Q) X.xe s
def PW(X:Cx)(e:Expr)(t:TT):Prop:=
 ∀(b:Sem ai)(a:js)(s:ak)(c:St)(H:Hp)(Q:Bool->Hp->Prop),ZE X a c H s->t c H Q->aA (az X.prog X.w) X.A (isTrue e X.env b) (TP X a c Q) X.xe s
def PW.pt{X:Cx}{e:Expr}{t:TT}(h:PW X e t):PT X e t:=h _
def PA(X:Cx)(d:jy)(t:TA):Prop:=
 ∀(b:aH)(a:js)(s:ak)(c:St)(H:Hp)(Q:jf->Hp->Prop),ZE X a c H s->t c H Q->aA (az X.prog X.w) X.A (spliced (aE b (aq d X.env))) (AP X a c Q) X.xe s
def PS(X:Cx)(c:aB)(t:TS):Prop:=
 ∀(a:js)(s:ak)(b:St)(H:Hp)(D:Yc),ZE X a b H s->t D b H->aA (az X.prog X.w) X.A (exec c X.env) (SP X a D) X.xe s
def X4(X:Cx)(c:jK)(t:TS):Prop:=
 ∀(a:js)(s:ak)(b:St)(H:Hp)(D:Yc),ZE X a b H s->t D b H->aA (az X.prog X.w) X.A (execs c X.env) (SP X a D) X.xe s
def Zz{c:Type}{t:Sem c}{Q b:c->ak->Prop}{M:Model}{A:aw}{E:ja}{s:ak}(h:aA M A t Q E s)(d:∀ a s,Q a s->b a s):aA M A t b E s:=ae h d λ_ _ x=>x
def YH{d g i:Type}{t:Sem d}{a b c:d->ak->g->i->Prop}{e:d->ak->Prop}{M:Model}{A:aw}{E:ja}{s:ak}(h:aA M A t (λv s=>∃ x H,a v s x H/\b v s x H/\c v s x H) E s)(f:∀ v s x H,a v s x H->b v s x H->c v s x H->e v s):aA M A t e E s:=Zz h (by rintro v s ⟨x,H,p,q,r⟩;exact f v s x H p q r)
variable{X:Cx}
section
inductive VY(i:Nat)(a:L2.St)(H:Hp)(Q:VK):Prop
 |mk(v:_)(_:a[i]? = some (some v))(_:Q v H)
def tC(v:V):TE:=λ_ H Q=>Q v H
def ZO7{i:Nat}{x:Str}{k:aH}(o:X.N[i]? = some x)(w:JP X.env.scope x)(j:(x==("__debug__" : Str))=false:=by decide)(g:(x==("__classdict__" : Str))=false:=by decide):PE X (.Name x k) (VY i):=by
 intro f s y H Q I h;let⟨v,e,h⟩:=h;let⟨m,t,p⟩:=I.loc;let⟨u,r,l⟩:=p i x v o e w;let b:EP X f y Q u s:=⟨v,H,I,r,h⟩;rcases l with ⟨d,q⟩ | ⟨d,c,n,a⟩
 ·exact wpAny_Name (wpAny_loadName_local I.ok.kind d t q b) j
 ·rcases d with d | d
  ·exact wpAny_Name (wpAny_loadName_cell I.ok.kind d n a b) j
  ·exact wpAny_Name (wpAny_loadName_free I.ok.kind d n a b g) j
def ZO{i j a}:PE X (.Constant (.int i) j a) (tC (.int i)):=λ_ _ _ H _ I h=>wpAny_Constant_int ⟨.int i,H,I.tok _,⟨_,Z⟩,h⟩
def V9{b j a}:PE X (.Constant (.bool b) j a) (tC (.bl b)):=λ_ _ _ H _ I h=>Constant_bool ⟨.bl b,H,I,Z,h⟩
def ZO2{j a}:PE X (.Constant .none j a) (tC .non):=λ_ _ _ H _ I h=>Constant_none ⟨.non,H,I,Z,h⟩
def X0{x j a}:PE X (.Constant (.str x) j a) (tC (.str x)):=λ_ _ _ H _ I h=>Calls.Constant_str ⟨.str x,H,I.tok _,⟨_,Z⟩,h⟩
def Gl(X:Cx)(x:Str):Prop:=X.env.kindOf x=some .globalImplicit
def Ql{E:ja}{a:js}{s:ak}{f:St}{H:Hp}{x:Str}{u:ai}{b:aH}{Q:ja}(I:ZE X a f H s)(d:Gl X x)(e:X.mg x=some u)(h:Q u s)(c:(x==("__debug__" : Str))=false:=by decide):aA (az X.prog X.w) X.A (aF (.Name x b) X.env) Q E s:=
 Calls.Name_function_global I.ok.kind d (Calls.loadGlobal_global (by rw[I.ok.glob];exact I.mod.glob.keeps I.bk) e h) c
def Pm{E:ja}{a:js}{s:ak}{k:St}{H:Hp}{x:Str}{u:ai}{b:aH}{Q:ja}(I:ZE X a k H s)(f:Gl X x)(g:X.mg x=none)(j:ax x=some u)(h:Q u s)(i:x ≠ "__name__" :=by decide)(e:(x==("__debug__" : Str))=false:=by decide):aA (az X.prog X.w) X.A (aF (.Name x b) X.env) Q E s:=by
 let⟨l,c,d⟩:=I.mod.blt;exact Calls.Name_function_global I.ok.kind f (Calls.loadGlobal_builtin (by rw[I.ok.glob];exact I.mod.glob.keeps I.bk) g (by rw[I.ok.blt];exact c.keeps I.bk) ((d x i).trans j) h) e
def VS{x:Str}{v:V}{u:ai}{a:aH}(c:Gl X x)(d:X.mg x=some u)(r:ZU v u)(b:(x==("__debug__" : Str))=false:=by decide):PE X (.Name x a) (tC v):=
 λ_ _ _ H _ I h=>Ql I c d ⟨v,H,I,r,h⟩ b
def X6{x:Str}{v:V}{u:ai}{a:aH}(c:Gl X x)(d:X.mg x=none)(f:ax x=some u)(r:ZU v u)(e:x ≠ "__name__" :=by decide)(b:(x==("__debug__" : Str))=false:=by decide):PE X (.Name x a) (tC v):=
 λ_ _ _ H _ I h=>Pm I c d f ⟨v,H,I,r,h⟩ e b
variable{a b:Expr}{ta tb:TE}{pos:aH}
def PC(X:Cx)(g:CmpOp)(a b:Expr)(t:TE):Prop:=
 ∀(c:js)(s:ak)(f:St)(H:Hp)(Q:VK),ZE X c f H s->t f H Q ->
  aA (az X.prog X.w) X.A (aF a X.env) (λv d=>aA (az X.prog X.w) X.A (aF b X.env) (λu e=>aA (az X.prog X.w) X.A (ay g v u) (EP X c f Q) X.xe e) X.xe d) X.xe s
def IS(b:Expr){c:CmpOp}(h:c≠.In)(f:c≠.NotIn):behindInMarks c b=false:=by
 let d:(c==CmpOp.In)=false:=by cases c <;> first | rfl | exact absurd rfl h
 let e:(c==CmpOp.NotIn)=false:=by cases c <;> first | rfl | exact absurd rfl f
 cases b <;> simp[behindInMarks,d,e]
def ZQe(ta:TE):TE:=λd H Q=>ta d H λx c=>Q (.bl (decide (x=.non))) c
def AA(ta:TE):TE:=λd H Q=>ta d H λx c=>Q (.bl (!decide (x=.non))) c
def ZU.none_iff{x:V}{v:ai}(r:ZU x v):(v==Value.none)=decide (x=.non):=by
 cases x with
 | non=>cases r;rfl
 | bl _=>cases r;rfl
 | int _=>let⟨t,rfl⟩:=r;rfl
 | str _=>let⟨t,rfl⟩:=r;rfl
 | byt _=>let⟨t,rfl⟩:=r;rfl
 | flt _=>let⟨t,rfl⟩:=r;rfl
 | ref _=>cases r;rfl
 | ty _=>cases r;rfl
def Oh{j d}(g:PE X a ta):PC X .Is a (.Constant .none j d) (ZQe ta):=by
 intro c s l H Q I h;refine YH (g c s l H _ I h) λv m x e f k i=>?_;exact Constant_none (is_none_gen ⟨.bl _,e,f,by rw[k.none_iff];rfl,i⟩)
def ZNp{j d}(g:PE X a ta):PC X .IsNot a (.Constant .none j d) (AA ta):=by
 intro c s l H Q I h;refine YH (g c s l H _ I h) λv m x e f k i=>?_;exact Constant_none (isnot_none_gen ⟨.bl _,e,f,by rw[k.none_iff];rfl,i⟩)
inductive By(Q:Bool->Hp->Prop)(x:V)(d:Hp):Prop
 |mk(c:_)(_:x=.bl c)(_:Q c d)
def tB(t:TE):TT:=λd H Q=>t d H λx c=>By Q x c
def MD{d:CmpOp}{t:TE}(h:PC X d a b t)(e:behindInMarks d b=false:=by first | exact IS _ (by decide) (by decide) | rfl):PE X (.Compare a [d] [b] pos) t:=λc s g H Q I f=>wpAny_Compare1 (h c s g H Q I f) e
def O0{g:CmpOp}{t:TE}(h:PC X g a b t)(f:behindInMarks g b=false:=by first | exact IS _ (by decide) (by decide) | rfl):PT X (.Compare a [g] [b] pos) (tB t):=by
 intro e s o H Q I l;refine wpAny_isTrue_Compare1 (Zz (h e s o H _ I l) λv p f=>Zz f λu r k=>YH k λc w x i j n m=>?_) f;let⟨d,rfl,q⟩:=m;cases n;exact wpAny_truthy_bool ⟨i,j,q⟩
def Yg{e:Expr}{t:TE}(h:PE X e t)(j:∀ c,isTrue e X.env c=(do let v<-c;standAt e.pos;holding [v] (truthy v)):=by intro _;rfl):PT X e (tB t):=by
 intro f s n H Q I k;refine isTrue_plain (YH (h f s n H _ I k) λv o x g i m l=>?_) (j _);let⟨d,rfl,q⟩:=l;cases m;exact wpAny_truthy_bool ⟨g,i,q⟩
variable{tA tB':TT}{rest:jy}
def Bm(t u:TT):TT:=λe H Q=>t e H λc d=>if c=true then u e d Q else Q false d
def Et(t u:TT):TT:=λe H Q=>t e H λc d=>if c=true then Q true d else u e d Q
def EZ(t:TT):TT:=λe H Q=>t e H λc d=>Q (!c) d
def NA(f:PT X a tA):PW X (.BoolOp .And [a] pos) tA:=by
 intro j d s g H Q I h;refine isTrue_and (Zz (f d s g H Q I h) λc i e=>?_)
 cases c with
 | true=>exact isTrue_and_nil e
 | false=>exact e
def Uh(f:PT X a tA):PW X (.BoolOp .Or [a] pos) tA:=by
 intro j d s g H Q I h;refine isTrue_or (Zz (f d s g H Q I h) λc i e=>?_)
 cases c with
 | false=>exact isTrue_or_nil e
 | true=>exact e
def Pk(j:PT X a tA)(k:PW X (.BoolOp .And (b::rest) pos) tB'):PW X (.BoolOp .And (a::b::rest) pos) (Bm tA tB'):=by
 intro m d s i H Q I h;refine isTrue_and (Zz (j d s i H _ I h) ?_);rintro c l ⟨e,f,g⟩
 cases c with
 | true=>exact k m d l i e Q f g
 | false=>exact⟨e,f,g⟩
def VU(j:PT X a tA)(k:PW X (.BoolOp .Or (b::rest) pos) tB'):PW X (.BoolOp .Or (a::b::rest) pos) (Et tA tB'):=by
 intro m d s i H Q I h;refine isTrue_or (Zz (j d s i H _ I h) ?_);rintro c l ⟨e,f,g⟩
 cases c with
 | true=>exact⟨e,f,g⟩
 | false=>exact k m d l i e Q f g
def Xv(f:PT X a tA):PT X (.UnaryOp .Not a pos) (EZ tA):=by
 intro d s g H Q I h;exact isTrue_not (f d s g H (λc e=>Q (!c) e) I h)
inductive OC(tb:TE)(e:L2.St)(Q:VK)(x:V)(d:Hp):Prop
 |mk(c:_)(_:x=.bl c)(_:if c=true then tb e d Q else Q (.bl false) d)
def BT(ta tb:TE):TE:=λc H Q=>ta c H λx d=>OC tb c Q x d
inductive P8(Q:VK)(x:V)(d:Hp):Prop
 |mk(c:_)(_:x=.bl c)(_:Q (.bl (!c)) d)
def AB(ta:TE):TE:=λd H Q=>ta d H λx c=>P8 Q x c
def Qn{e}{t:TE}(h:PE X a t):PE X (.BoolOp e [a] pos) t:=λc s f H Q I d=>BoolOp_one (h c s f H Q I d)
def Ug(j:PE X a ta)(k:PE X (.BoolOp .And (b::rest) pos) tb):PE X (.BoolOp .And (a::b::rest) pos) (BT ta tb):=by
 intro d s i H Q I h;refine BoolOp_and (YH (j d s i H _ I h) λv m x f g l e=>?_);let⟨c,rfl,e⟩:=e;cases l;refine wpAny_truthy_bool ?_
 cases c with
 | true=>exact k d m i f Q g e
 | false=>exact⟨.bl false,f,g,Z,e⟩
def Hi(i:PE X a ta):PE X (.UnaryOp .Not a pos) (AB ta):=by
 intro d s k H Q I h;refine UnaryOp_ (YH (i d s k H _ I h) λv l x f g j e=>?_);let⟨c,rfl,e⟩:=e;cases j;exact not_of (wpAny_truthy_bool ⟨.bl (!c),f,g,Z,e⟩)
end
def ZG(K:zZ)(H:Hp)(a:aj)(c:jf):Prop:=
 Rd H a (.lst c) \/
  ∃(o:aG)(b:jv)(n:Nat),K.lookup a=some o/\o.cls=.type "list" /\ o.dict=none/\o.data=.seq b n/\b.size<=ap/\ZT c b.toList
def Zb(K:zZ)(H:Hp)(a:aj)(c:jf):Prop:=
 Rd H a (.tup c) \/
  ∃(o:aG)(b:jv)(n:Nat),K.lookup a=some o/\o.cls=.type "tuple" /\ o.data=.seq b n/\b.size<=ap/\ZT c b.toList
def CC:ai->jg
 | .none=>some .non
 | .bool b=>some (.bl b)
 | .int i _=>some (.int i)
 | .str x _=>some (.str x)
 | .bytes b _=>some (.byt b)
 | .float b _=>some (.flt b)
 | .ref a=>some (.ref a)
 | .type n=>some (.ty n)
 | _=>none
def ZU.abs{x:V}{u:ai}(r:ZU x u):CC u=some x:=by
 cases x with
 | non=>cases r;rfl
 | bl _=>cases r;rfl
 | int _=>let⟨t,rfl⟩:=r;rfl
 | str _=>let⟨t,rfl⟩:=r;rfl
 | byt _=>let⟨t,rfl⟩:=r;rfl
 | flt _=>let⟨t,rfl⟩:=r;rfl
 | ref _=>cases r;rfl
 | ty _=>cases r;rfl
def ZU.inj{x y:V}{u:ai}(r:ZU x u)(q:ZU y u):x=y:=zB.inj (r.abs.symm.trans q.abs)
def ZT.inj:∀{c a:jf}{b:je},ZT c b->ZT a b->c=a:=by intro _ a _ h g;induction h generalizing a with
 | nil=>cases g;rfl
 | cons r _ d=>cases g with
  | cons e f=>rw[r.inj e,d f]
section
variable{ke:js}{σ:St}{H:Hp}{s:ak}{a:aj}{xs ys:jf}
def ZG.of{K:zZ}(h:H a=some (.lst xs)):ZG K H a xs:=.inl (.inl h)
def Zb.of{K:zZ}(h:H a=some (.tup xs)):Zb K H a xs:=.inl (.inl h)
def ZE.list(I:ZE X ke σ H s)(h:ZG X.K H a xs):∃ b:je,ZT xs b/\PlainL s.heap a b.toArray/\xs.length<=sizeLine:=by
 rcases h with h | ⟨o,b,n,f,c,d,g,i,r⟩
 ·let⟨z,b,n,r,e⟩:=h.ok I.hok;exact⟨b,r,⟨_,n,e,Z,Z,Z⟩,z⟩
 ·exists b.toList,r,⟨o,n,I.kIn a o f,c,d,by simpa using g⟩
  let e:=r.length;simp only[wR] at e
  lia
def ZE.tuple(I:ZE X ke σ H s)(h:Zb X.K H a xs):∃ b:je,ZT xs b/\IsTup s.heap a b.toArray/\xs.length<=sizeLine:=by
 rcases h with h | ⟨o,b,n,d,c,f,g,r⟩
 ·let⟨z,b,r,p⟩:=h.ok I.hok;exact⟨b,r,p,z⟩
 ·exists b.toList,r,⟨o,I.kIn a o d,c,n,by simpa using f⟩
  let e:=r.length;simp only[wR] at e
  lia
def ZE.list_inj(I:ZE X ke σ H s)(h:ZG X.K H a xs)(i:ZG X.K H a ys):xs=ys:=by
 let⟨c,r,⟨o,n,e,_,_,d⟩,_⟩:=I.list h;let⟨b,j,⟨l,k,g,_,_,f⟩,_⟩:=I.list i;rw[e] at g;cases g;rw[d] at f;injection f with d1 _;have:c=b:=by simpa using congrArg tJ d1
 subst this;exact r.inj j
def ZE.tuple_inj(I:ZE X ke σ H s)(h:Zb X.K H a xs)(i:Zb X.K H a ys):xs=ys:=by
 let⟨c,r,⟨o,e,_,n,d⟩,_⟩:=I.tuple h;let⟨b,j,⟨l,g,_,k,f⟩,_⟩:=I.tuple i;rw[e] at g;cases g;rw[d] at f;injection f with d1 _;have:c=b:=by simpa using congrArg tJ d1
 subst this;exact r.inj j
end
abbrev Cx.wish(X:Cx)(E:ja):Cx:={ X with xe:=E }
abbrev Cx.nox(X:Cx):Cx:=X.wish λ_ _=>False
def Cx.Ok.wish{X:Cx}(a:X.Ok)(E:ja):(X.wish E).Ok:=
 ⟨a.mod,a.kind,a.glob,a.blt,a.above,a.inj,a.has,a.cab,a.hd,a.frames,a.stk,a.exf,a.bs,a.bsz,a.noex,a.exfs,a.funs,a.frf⟩
def Cx.Ok.unwish{X:Cx}{E:ja}(a:(X.wish E).Ok):X.Ok:=
 ⟨a.mod,a.kind,a.glob,a.blt,a.above,a.inj,a.has,a.cab,a.hd,a.frames,a.stk,a.exf,a.bs,a.bsz,a.noex,a.exfs,a.funs,a.frf⟩
section
variable{ke:js}{σ:St}{H:Hp}{s:ak}{E:ja}
def ZE.wish(I:ZE X ke σ H s)(E:ja):ZE (X.wish E) ke σ H s:=⟨I.ok.wish E,I.os,I.bare,I.base,I.loc,I.cell,I.free,I.freeC,I.pin,I.hok,I.len⟩
def ZE.unwish(I:ZE (X.wish E) ke σ H s):ZE X ke σ H s:=⟨I.ok.unwish,I.os,I.bare,I.base,I.loc,I.cell,I.free,I.freeC,I.pin,I.hok,I.len⟩
def SP.unwish{D:Yc}{f:Flow}{c:ak}(h:SP (X.wish E) ke D f c):SP X ke D f c:=by
 cases f with
 | next=>let⟨a,b,I,q⟩:=h;exact⟨a,b,I.unwish,q⟩
 | brk=>let⟨a,b,I,q⟩:=h;exact⟨a,b,I.unwish,q⟩
 | cont=>let⟨a,b,I,q⟩:=h;exact⟨a,b,I.unwish,q⟩
 | ret u=>let⟨v,a,b,I,r,q⟩:=h;exact⟨v,a,b,I.unwish,r,q⟩
def X4.nox{a:jK}{t:TS}(h:X4 X.nox a t):X4 X a t:=λke s σ H D I b=>
 ae (h ke s σ H D (I.wish _) b) (λ_ _ q=>q.unwish) λ_ _ z=>False.elim z
end
section
variable{st:aB}{rest:jK}{t u:TS}{e:Expr}{te:TE}{pos:aH}
def Dc:TS:=λD a H=>D.nx a H
def Dv(t u:TS):TS:=λD a H=>t { D with nx:=u D } a H
def Z6:X4 X [] Dc:=λ_ _ a H _ I h=>wpAny_execs_nil ⟨a,H,I,h⟩
def ZQ(g:PS X st t)(i:X4 X rest u):X4 X (st::rest) (Dv t u):=by
 intro a s k H D I h;refine wpAny_execs_cons (Zz (g a s k H { D with nx:=u D } I h) λf j q=>?_)
 cases f with
 | next=>
  let⟨b,c,d,q⟩:=q;exact i a j b c D d q
 | ret v=>exact q
 | brk=>exact q
 | cont=>exact q
def ZW(b:PS X st t):X4 X [st] t:=by
 intro a s c H D I h;refine wpAny_execs_cons (Zz (b a s c H D I h) λf d q=>?_)
 cases f with
 | next=>exact wpAny_execs_nil q
 | ret v=>exact q
 | brk=>exact q
 | cont=>exact q
def ZE.quiet{a:js}{b:St}{H:Hp}{s:ak}(I:ZE X a b H s):interactive X.env=false:=by simp[interactive,I.ok.kind]
def DQ(te:TE):TS:=λD a H=>te a H λ_ b=>D.nx a b
def XF(f:PE X e te)(g:swapsWith e none pos.line X.env=pure false:=by rfl):PS X (.Expr e pos) (DQ te):=by
 intro a s b H D I h;exact wpAny_Expr_any (YH (f a s b H _ I h) λv k x c d j i=>⟨b,c,d,i⟩) I.quiet g
def E2(te:TE):TS:=λD a H=>te a H D.rt
def Zr(f:PE X e te):PS X (.Return (some e) pos) (E2 te):=by
 intro a s b H D I h;exact wpAny_Return_some (YH (f a s b H _ I h) λv j x c d i g=>⟨x,b,c,d,i,g⟩)
def As:TS:=λD _ H=>D.rt .non H
def Bp:PS X (.Return none pos) As:=λ_ _ a H _ I h=>wpAny_Return_none ⟨.non,a,H,I,Z,h⟩
def ZQS(c:TT)(t u:TS):TS:=λD a H=>c a H λb d=>if b=true then t D a d else u D a d
def Z1{c:Expr}{a b:jK}{m:TT}(p:PT X c m)(n:X4 X a t)(o:X4 X b u):PS X (.If c a b pos) (ZQS m t u):=by
 intro f s g H D I h;refine wpAny_If (Zz (p f s g H _ I h) ?_);rintro d l ⟨i,j,k⟩
 cases d with
 | true=>exact n f l g i D j k
 | false=>exact o f l g i D j k
def ZO8:TS:=λ_ _ _=>False
def VI{a:jK}:X4 X a ZO8:=λ_ _ _ _ _ _ h=>h.elim
end
abbrev TG:=V->St->Hp->(St->Hp->Prop)->Prop
abbrev Ot:=jf->St->Hp->(St->Hp->Prop)->Prop
def PG(X:Cx)(a:Expr)(t:TG):Prop:=
 ∀(b:js)(s:ak)(e:St)(H:Hp)(v:V)(u:ai)(Q:St->Hp->Prop),ZE X b e H s->ZU v u->t v e H Q ->
  aA (az X.prog X.w) X.A (assign a X.env u) (λ_ f=>∃ c d,ZE X b c d f/\Q c d) X.xe s
def Mr(X:Cx)(h:jy)(t:Ot):Prop:=
 ∀(a:js)(s:ak)(f:St)(H:Hp)(e:jf)(d:je)(Q:St->Hp->Prop),ZE X a f H s->ZT e d->t e f H Q ->
  aA (az X.prog X.w) X.A (assignInOrder ((assignEach h X.env).map (·.2)) d) (λ_ g=>∃ b c,ZE X a b c g/\Q b c) X.xe s
abbrev IJ:=V->V->V->Hp->(Hp->Prop)->Prop
def Ig(X:Cx)(t:IJ):Prop:=
 ∀(a:js)(s:ak)(e:St)(H:Hp)(o i v:V)(d c u:ai)(Q:Hp->Prop),ZE X a e H s->ZU o d->ZU i c->ZU v u->t o i v H Q ->
  aA (az X.prog X.w) X.A (setItem d c u) (λ_ f=>∃ b,ZE X a e b f/\Q b) X.xe s
section
variable{pos:aH}
def QJ(i:Nat):TG:=λv a H Q=>Q (a.set i (some v)) H
def Qo{i:Nat}{x:Str}(c:X.N.Nodup)(e:X.N[i]? = some x)(f:O3 X.env.scope x)(d:X.fn x=true\/X.env.scope.names.lookup x=some .local:=by first | exact .inl rfl | exact .inr rfl | assumption):PG X (.Name x pos) (QJ i):=by
 intro a s j H v u Q I r h;exact wpAny_assign_Name (Kh I c e f r (λg b=>⟨_,H,b,h⟩) d)
def YZ(i:Nat){x:Str}(a:X.N.Nodup)(c:X.N[i]? = some x:=by rfl)(d:O3 X.env.scope x:=by exact Or.inl Z)(b:X.fn x=true\/X.env.scope.names.lookup x=some .local:=by first | exact .inl rfl | exact .inr rfl | assumption):PG X (.Name x pos) (QJ i):=Qo a c d b
def FK:Ot:=λa b H Q=>a=[]/\Q b H
inductive QD(t:TG)(u:Ot)(c:jf)(d:L2.St)(H:Hp)(Q:L2.St->Hp->Prop):Prop
 |mk(v r:_)(_:c=v::r)(_:t v d H λa b=>u r a b Q)
def QV:Mr X [] FK:=by
 intro a s b H d c Q I r h;let⟨e,h⟩:=h;subst e;cases r;exact assignInOrder_nil ⟨b,H,I,h⟩
def Y7{e:Expr}{b:jy}{t:TG}{u:Ot}(i:PG X e t)(j:Mr X b u)(k:(assignEach (e::b) X.env).map (·.2)=assign e X.env::(assignEach b X.env).map (·.2):=by rfl):Mr X (e::b) (QD t u):=by
 intro a s o H w p Q I r h;let⟨v,q,g,h⟩:=h;subst g
 cases r with
 | cons r m=>
  rw[k];refine assignInOrder_cons (Zz (i a s o H _ _ _ I r h) ?_);rintro _ n ⟨c,d,f,l⟩;exact j a n c d _ _ Q f m l
inductive NU(K:zZ)(n:Nat)(t:Ot)(v:V)(c:L2.St)(H:Hp)(Q:L2.St->Hp->Prop):Prop
 |mk(a b:_)(_:v=.ref a)(_:Zb K H a b)(_:b.length=n)(_:t b c H Q)
def Qd{d:jy}{k:Nat}{t:Ot}{n:Nat}(q:X.calm=true)(h:Mr X d t)(x:(assignEach d X.env).length=n:=by rfl)(f:(assignEach d X.env).findIdx? (·.1)=none:=by rfl):PG X (.Tuple d k pos) (NU X.K n t):=by
 intro c s j H v u Q I r g;let⟨a,C,m,y,w,g⟩:=g;subst m;cases r;let⟨B,i,z,D⟩:=I.tuple y;refine assign_Tuple_tuple (I.ok.hd q) z (by simp[x,<-w,i.length]) f λp A=>?_
 let l:ZE X c j H { s with heap:=p }:=I.kept (t':=s.toks) λb o e=>A b o (zK (zU e)) e;exact h c _ j H C _ Q l (by simpa using i) g
def ZQN(f e:TE)(t:IJ):TG:=λv a H Q=>f a H λo b=>e a b λi c=>t o i v c λd=>Q a d
def K9{o i:Expr}{f e:TE}{t:IJ}(w:PE X o f)(q:PE X i e)(z:Ig X t)(p:∀ v,assign (.Subscript o i pos) X.env v=(do
   let b<-holding [v] (aF o X.env)
   let c<-holding [v,b] (aF i X.env)
   standAt pos
   holding [v,b,c] (setItem b c v)
   release [v,b,c] []):=by intro _;rfl):PG X (.Subscript o i pos) (ZQN f e t):=by
 intro a s d H v u Q I r h;rw[p];refine aa (af (YH (w a s d H _ I h) λb F x g l D A=>?_));refine aa (af (YH (q a F d g _ l A) λc G y j m E B=>?_));refine aa (ah (aa (af (Zz (z a G d j x y v b c u _ m D E r B) ?_))));rintro _ J ⟨k,n,C⟩;exact wpAny_release ⟨d,k,n,C⟩
def IA(c:TE)(g:TG):TS:=λD a H=>c a H λx b=>g x a b D.nx
def Qc{b e:Expr}{c:TE}{g:TG}(k:PE X e c)(l:PG X b g)(m:swapsWithSole [b] e pos.line X.env=pure false:=by rfl)(n:swappedStores [b] e X.env=pure none:=by rfl)(j:(assignEach [b] X.env).map (·.2)=[assign b X.env]:=by rfl):PS X (.Assign [b] e pos) (IA c g):=by
 intro a s d H D I h;refine wpAny_Assign_stores (YH (k a s d H _ I h) λv r x f i p o=>?_) m n;rw[j];exact Zz (l a r d f x v _ i p o) λ_ t q=>q
def Ni{i:Nat}{x:Str}{e:Expr}{c:TE}{a:aH}(j:X.N.Nodup)(m:X.N[i]? = some x)(o:O3 X.env.scope x)(k:PE X e c)(n:swapsWith e (some (.Name x a)) pos.line X.env=pure false:=by rfl)(l:X.fn x=true\/X.env.scope.names.lookup x=some .local:=by first | exact .inl rfl | exact .inr rfl | assumption):
  PS X (.Assign [.Name x a] e pos) (IA c (QJ i)):=by
 intro b s r H D I h;refine wpAny_Assign_Name (YH (k b s r H _ I h) λv t y d f q p=>?_) n;exact Kh f j m o q (λu g=>⟨_,d,g,p⟩) l
def Zs(i:Nat){x:Str}{e:Expr}{b:TE}{a:aH}(c:X.N.Nodup)(d:PE X e b)(g:X.N[i]? = some x:=by rfl)(j:O3 X.env.scope x:=by exact Or.inl Z)(h:swapsWith e (some (.Name x a)) pos.line X.env=pure false:=by rfl)(f:X.fn x=true\/X.env.scope.names.lookup x=some .local:=by first | exact .inl rfl | exact .inr rfl | assumption):
  PS X (.Assign [.Name x a] e pos) (IA b (QJ i)):=Ni c g j d h f
inductive Pu(c:TT)(h:TS)(D:Yc)(a:L2.St)(H:Hp):Prop
 |mk(W:Nat->St->Hp->Prop)(_:∃ m,W m a H)(_:∀ m a H,W m a H->c a H λb f=>if b=true then ∃ N:St->Hp->Prop,(∀ d e,N d e->∃ g,g<m/\W g d e)/\h { D with nx:=N,ct:=N,bk:=D.nx } a f else D.nx a f)
def NX{c:Expr}{g:jK}{F:TT}{E:TS}(C:PassesOwn (az X.prog X.w) X.A X.env X.xe)(K:PT X c F)(J:X4 X g E):PS X (.While c g [] pos) (Pu F E):=by
 intro a s S H D I h;let⟨W,⟨L,Q⟩,j⟩:=h;refine wpAny_While (codeAny_whileLoop (λn M=>∃ k u,ZE X a k u M/\W n k u) ?_ L ⟨S,H,I,Q⟩);rintro n O ⟨e,x,G,R⟩;refine wpAny_passesOwn C (Zz (K a O e x _ G (j n e x R)) ?_);rintro b P ⟨y,z,l⟩
 cases b with
 | true=>
  let⟨N,B,l⟩:=l;rw[aM rfl];refine wpAny_passesOwn C (Zz (J a P e y _ z l) λf T m=>?_)
  cases f with
  | next=>
   let⟨d,i,o,r⟩:=m;let⟨q,p,t⟩:=B d i r;exact⟨q,p,d,i,o,t⟩
  | cont=>
   let⟨d,i,o,r⟩:=m;let⟨q,p,t⟩:=B d i r;exact⟨q,p,d,i,o,t⟩
  | brk=>exact m
  | ret v=>exact m
 | false=>
  rw[aK zR];exact wpAny_execs_nil ⟨e,y,z,l⟩
end
structure It where
 go:Nat->Hp->Prop
 yld:Nat->Hp->V->Hp->Prop
 stop:Nat->Hp->Prop
def Wm(X:Cx)(a:js)(H:Hp)(b:aj):Prop:=
 H b=none/\b≠X.env.locals/\b∉X.fs/\(b∈X.ex\/X.s₀.heap.objs.size<=b)/\(∀ x c,X.env.cells.lookup x=some c->c≠b)/\∀ p∈X.pn++a,p.1≠b
def ZE.fpOk{X:Cx}{a:js}{i:St}{H f:Hp}{s:ak}{b:aj}(I:ZE X a i H s)(d:s.heap.objs.size<=b)(g:f b=none):Wm X a f b:=by
 refine⟨g,wK (yG I.lt d),I.nofs d,.inr (zL I.sz d),λx c e z=>?_,λp h z=>?_⟩
 ·let⟨v,q⟩:=I.cell x c e;exact absurd (yG q.lt (by rw[z];exact d)) (xH _)
 ·exact absurd (yG (zU (I.pin p h).1) (by rw[z];exact d)) (xH _)
structure VQ(P:al)(w:ar)(K:zZ)(tg:Expr)(J:It)(fp:jw)(it:aj)(tn:Nat->aC->Prop):Prop where
 mem:it∈fp
 obj:∀ i h,tn i h->∀ b∈fp,∃ o,h.get? b=some o/\∀ v,o.data≠.cell v
 keep:∀ i h h',tn i h->(∀ b∈fp,∀ o,h.get? b=some o->h'.get? b=some o)->tn i h'
 item:∀(X:Cx),X.prog=P->X.w=w->X.K=K->X.calm=true->∀(i:Nat)(ke:js)(s:ak)(σ:St)(H:Hp)(E:ja),ZE X ke σ H s->(∀ b∈fp,Wm X ke H b)->tn i s.heap->J.go i H ->
  aA (az P w) X.A (pyNext (.ref it)) (λr s1=>∃ u,r=some u /\
   aA (az P w) X.A (letOwnedTupleGo tg (.ref it) u) (λ_ s2=>∃ x H',ZE X ke σ H' s2/\ZU x u/\J.yld i H x H'/\tn (i+1) s2.heap/\∀ b∈fp,H' b=none) E s1) E s
 done:∀(X:Cx),X.prog=P->X.w=w->X.K=K->X.calm=true->∀(i:Nat)(ke:js)(s:ak)(σ:St)(H:Hp)(E:ja),ZE X ke σ H s->(∀ b∈fp,Wm X ke H b)->tn i s.heap->J.stop i H ->
  aA (az P w) X.A (pyNext (.ref it)) (λr s1=>r=none/\ZE X ke σ H s1) E s
 self:∀(A:aw)(i:Nat)(s:ak)(Q:ja)(E:ja),tn i s.heap->Q (.ref it) s->aA (az P w) A (pyIter (.ref it)) Q E s
abbrev TI:=St->Hp->(It->Hp->Prop)->Prop
def FS(X:Cx)(a:js)(j:St)(i:Expr)(R:It->Hp->Prop)(d:ai)(g:ak):Prop:=
 ∃(f:aj)(e:jw)(h:Nat->aC->Prop)(J:It)(c:Hp),d=.ref f/\ZE X a j c g/\VQ X.prog X.w X.K i J e f h/\h 0 g.heap/\(∀ b∈e,Wm X a c b)/\R J c
def PI(X:Cx)(e b:Expr)(f:TI):Prop:=
 ∀(a:js)(s:ak)(c:St)(H:Hp)(R:It->Hp->Prop),ZE X a c H s->f c H R ->
  aA (az X.prog X.w) X.A (aF b X.env) (λv d=>aA (az X.prog X.w) X.A (pyIter v) (FS X a c e R) X.xe d) X.xe s
def M8{M:Model}{A:aw}{E:ja}{s:ak}{c:Expr}{b:aj}{u:ai}{o:aG}{n:String}{d:jv}{Q:Unit->ak->Prop}(i:s.heap.get? b=some o)(e:o.cls=.type n)(f:o.data=.fields d)(g:["enumerate","zip","dict_itemiterator","dict_reverseitemiterator","odict_iterator","itertools.zip_longest","itertools.pairwise"].contains n=false)(a:Q () s):aA M A (letOwnedTupleGo c (.ref b) u) Q E s:=by
 unfold letOwnedTupleGo;cases c <;> first
  | exact ad a
  | (cases u <;> first
    | exact ad a
    | (refine aa (wpAny_load i ?_);rw[e,f];show aA M A (if (["enumerate","zip","dict_itemiterator","dict_reverseitemiterator","odict_iterator","itertools.zip_longest","itertools.pairwise"].contains n&&d[0]? == some (rawInt _))=true then _ else _) Q E s;rw[aK (by intro h;rw[g,uO] at h;cases h)];exact ad a))
def OO(K:zZ)(a:aj):It:=
 ⟨λi H=>∃ b x,ZG K H a b/\b[i]? = some x,λi H x c=>c=H/\∀ b,ZG K H a b->b[i]? = some x,λi H=>∃ b,ZG K H a b/\b.length<=i⟩
def FQ(K:zZ)(a:aj):It:=
 ⟨λi H=>∃ b x,Zb K H a b/\b[i]? = some x,λi H x c=>c=H/\∀ b,Zb K H a b->b[i]? = some x,λi H=>∃ b,Zb K H a b/\b.length<=i⟩
def Od(b:Int)(n:Nat):It:=⟨λi _=>i<n,λi H x a=>a=H/\x=.int (b+i),λi _=>n<=i⟩
def ZKA{P:al}{w:ar}{K:zZ}{tg:Expr}(a l:aj):VQ P w K tg (OO K a) [l] l (λi h=>h.IsListIter l a i) where
 mem:=by simp
 obj:=λi h f b j=>by
  let e:b=l:=by simpa using j
  subst e;let⟨o,e,c,d⟩:=f;exact⟨o,e,λv z=>by rw[d] at z;cases z⟩
 keep:=λi h n f k=>f.at λo e=>k l (by simp) o e
 item:=by
  intro X F J D O i g s Q H E I q f G;subst F J D;let⟨xs,x,r,L⟩:=G;let⟨M,N,p,Y⟩:=I.list r;let⟨u,U,ru⟩:=N.get L;let⟨t,y,T,A,B,C⟩:=q l (by simp)
  refine wpAny_pyNext_list_item f p.isList (x:=u) (by simpa using U) λn m sb=>?_
  let R:ZE X g Q H { s with heap:=n }:=I.turned (t':=s.toks) (λb o j e=>(sb.2 b j).trans e) t y A B C;let⟨o,e,c,d⟩:=id m;exact⟨u,Z,M8 (s:={ s with heap:=n }) e c d (by decide) ⟨x,H,R,ru,⟨Z,λys V=>by rw[I.list_inj V r];exact L⟩,m,λb j=>(q b j).1⟩⟩
 done:=by
  intro X F J D O i g s Q H E I q f G;subst F J D;let⟨xs,r,L⟩:=G;let⟨M,N,p,Y⟩:=I.list r;let⟨t,y,T,A,B,C⟩:=q l (by simp)
  let hl:=N.length;exact wpAny_pyNext_list_end (I.ok.hd O) f p.isList (by simp;lia) λn S=>⟨Z,I.turned (t':=s.toks) (λb o j e=>S b o j e) t y A B C⟩
 self:=λ_ _ _ _ _ f h=>wpAny_pyIter_listiter f h
def C3{P:al}{w:ar}{K:zZ}{tg:Expr}(a l:aj):VQ P w K tg (FQ K a) [l] l (λi h=>h.IsTupleIter l a i) where
 mem:=by simp
 obj:=λi h f b j=>by
  let e:b=l:=by simpa using j
  subst e;let⟨o,e,c,d⟩:=f;exact⟨o,e,λv z=>by rw[d] at z;cases z⟩
 keep:=λi h q f k=>f.at λo e=>k l (by simp) o e
 item:=by
  intro X G L F O i g s Q H E I r f J;subst G L F;let⟨xs,x,t,M⟩:=J;let⟨m,N,p,Y⟩:=I.tuple t;let⟨u,U,ru⟩:=N.get M;let⟨y,A,T,B,C,D⟩:=r l (by simp)
  refine wpAny_pyNext_tuple_item f (show s.heap.IsTuple a m.toArray from p) (x:=u) (by simpa using U) λq n sb=>?_
  let R:ZE X g Q H { s with heap:=q }:=I.turned (t':=s.toks) (λb o j e=>(sb.2 b j).trans e) y A B C D;let⟨o,e,c,d⟩:=id n;exact⟨u,Z,M8 (s:={ s with heap:=q }) e c d (by decide) ⟨x,H,R,ru,⟨Z,λys V=>by rw[I.tuple_inj V t];exact M⟩,n,λb j=>(r b j).1⟩⟩
 done:=by
  intro X G L F O i g s Q H E I r f J;subst G L F;let⟨xs,t,M⟩:=J;let⟨m,N,p,Y⟩:=I.tuple t;let⟨y,A,T,B,C,D⟩:=r l (by simp)
  let hl:=N.length;exact wpAny_pyNext_tuple_end (I.ok.hd O) f (show s.heap.IsTuple a m.toArray from p) (by simp;lia) λq S=>⟨Z,I.turned (t':=s.toks) (λb o j e=>S b o j e) y A B C D⟩
 self:=λ_ _ _ _ _ f h=>wpAny_pyIter_tupleiter f h
def ZHu{P:al}{w:ar}{K:zZ}{Q:Expr}(c:aj)(m:Int)(n:Nat):VQ P w K Q (Od m n) [c] c (λi h=>IsRangeIter h c (m+(i:Nat) * 1) ((n:Int)-(i:Nat)) 1) where
 mem:=by simp
 obj:=λi h a b f=>by
  let e:b=c:=by simpa using f
  subst e;exact⟨_,a,λv z=>by
   let R:Data.fields _=Data.cell v:=z;cases R⟩
 keep:=λi h j a k=>k c (by simp) _ a
 item:=by
  intro X A D y B i d s G H E I l a C;subst A D y;let⟨p,q,M,r,u,x⟩:=l c (by simp)
  let W:=Walks.range (prog:=X.prog) (w:=X.w) (I.ok.hd B) c m 1 n;refine W.item i s _ _ C a λv j F N g O=>?_;let⟨t,rfl⟩:=N;let J:ZE X d G H { s with heap:=j,toks:=F }:=I.turned (λb o f e=>O b o (by simpa using f) e) p q r u x
  refine⟨_,Z,M8 (s:={ s with heap:=j,toks:=F }) (n:= "range_iterator") g Z Z (by decide) ⟨.int (m+i),H,J,⟨t,?_⟩,⟨Z,Z⟩,g,λb f=>(l b f).1⟩⟩
  rw[Int.mul_one]
 done:=by
  intro X A D y B i d s G H E I l a C;subst A D y;let⟨p,q,M,r,u,x⟩:=l c (by simp)
  exact wpAny_pyNext_range_end (I.ok.hd B) a (by have:n<=i:=C;lia) λj L=>⟨Z,I.turned (t':=s.toks) (λb o f e=>L b o f e) p q r u x⟩
 self:=λ_ _ _ _ _ a h=>wpAny_pyIter_rangeiter a h
section
variable{tg:Expr}
inductive Pz(K:zZ)(R:It->Hp->Prop)(x:V)(b:Hp):Prop
 |mk(a:_)(_:x=.ref a)(_:∃ c,ZG K b a c)(_:R (OO K a) b)
def Be(K:zZ)(b:TE):TI:=λc H R=>b c H λx a=>Pz K R x a
inductive N4(K:zZ)(R:It->Hp->Prop)(x:V)(b:Hp):Prop
 |mk(a:_)(_:x=.ref a)(_:∃ c,Zb K b a c)(_:R (FQ K a) b)
def ZQY(K:zZ)(b:TE):TI:=λc H R=>b c H λx a=>N4 K R x a
def Y9{l:Expr}{g:TE}(k:PE X l g):PI X tg l (Be X.K g):=by
 intro c s u H R I h;refine YH (k c s u H _ I h) λv f x i d t r=>?_;let⟨a,e,⟨z,m⟩,q⟩:=r;subst e;cases t;let⟨n,y,p,w⟩:=d.list m;refine wpAny_pyIter_list p.isList ?_;refine⟨f.heap.objs.size,[f.heap.objs.size],_,_,i,Z,d.kept (t':=f.toks) λb o e=>zP _ e,ZKA a _,⟨_,yS _ Z,Z,Z⟩,λb j=>?_,q⟩;let e:b=f.heap.objs.size:=by simpa using j
 subst e;exact d.fpOk (zY _) (d.hok.fresh (zY _))
def JM{l:Expr}{i:TE}(m:PE X l i):PI X tg l (ZQY X.K i):=by
 intro c s u H R I h;refine YH (m c s u H _ I h) λv d x j f t r=>?_;let⟨a,e,⟨z,n⟩,q⟩:=r;subst e;cases t;let⟨g,y,p,w⟩:=f.tuple n;refine wpAny_pyIter_tuple (show d.heap.IsTuple a g.toArray from p) ?_;refine⟨d.heap.objs.size,[d.heap.objs.size],_,_,j,Z,f.kept (t':=d.toks) λb o e=>zP _ e,C3 a _,⟨_,yS _ Z,Z,Z⟩,λb k=>?_,q⟩;let e:b=d.heap.objs.size:=by simpa using k
 subst e;exact f.fpOk (zY _) (f.hok.fresh (zY _))
def IL{d:js}{h:St}{H:Hp}{s:ak}{R:It->Hp->Prop}{E:ja}{a c:Int}{t u v:Tok}{g:Nat}(I:ZE X d h H s)(k : -(2 ^ 62)<=a)(l:a<2 ^ 62)(m : -(2 ^ 62)<=c)(n:c<2 ^ 62)(q:R (Od a (c-a).toNat) H):aA (az X.prog X.w) X.A (pyIter (.ref s.heap.objs.size)) (FS X d h tg R) E { s with heap:=s.heap.push { cls:=.type "range",data:=.fields #[.int a t,.int c u,.int 1 v] },toks:=g }:=by
 refine wpAny_pyIter_range (IsRange.new ..) (small_one k l m n) ?_;let f:ZE X d h H { s with heap:=s.heap.push { cls:=.type "range",data:=.fields #[.int a t,.int c u,.int 1 v] },toks:=g }:=I.kept λb o e=>zP _ e;refine⟨(s.heap.push { cls:=.type "range",data:=.fields #[.int a t,.int c u,.int 1 v] }).objs.size,[(s.heap.push { cls:=.type "range",data:=.fields #[.int a t,.int c u,.int 1 v] }).objs.size],_,_,H,Z,
  f.kept (t':=g) λb o e=>zP _ e,ZHu _ a (c-a).toNat,?_,λb p=>?_,q⟩
 ·let i:a+((0:Nat):Int) * 1=a:=by simp
  let j:(((c-a).toNat:Nat):Int)-((0:Nat):Int)=Builtin.Range.rangeSize a c 1:=by rw[rangeSize_one];split <;> lia
  show IsRangeIter _ _ (a+((0:Nat):Int) * 1) ((((c-a).toNat:Nat):Int)-((0:Nat):Int)) 1;rw[i,j];exact yS _ Z
 ·let e:b=(s.heap.push { cls:=.type "range",data:=.fields #[.int a t,.int c u,.int 1 v] }).objs.size:=by simpa using p
  subst e;exact f.fpOk (zY _) (f.hok.fresh (zY _))
inductive Ps(R:It->Hp->Prop)(b:jf)(a:Hp):Prop
 |mk(j:Int)(_:b=[.int j])(_ : -(2 ^ 62)<=j)(_:j<2 ^ 62)(_:R (Od 0 j.toNat) a)
def ZPe(b:TA):TI:=λd H R=>b d H λc a=>Ps R c a
inductive OZ(R:It->Hp->Prop)(b:jf)(a:Hp):Prop
 |mk(i j:Int)(_:b=[.int i,.int j])(_ : -(2 ^ 62)<=i/\i<2 ^ 62 /\ -(2 ^ 62)<=j/\j<2 ^ 62)(_:R (Od i (j-i).toNat) a)
def ZP1(b:TA):TI:=λd H R=>b d H λc a=>OZ R c a
def JJ{a:Expr}{f:TA}{p c:aH}(k:Gl X "range")(l:X.mg "range" = none)(i:PA X [a] f)(m:aq [a] X.env=[(false,aF a X.env)]:=by rfl):PI X tg (.Call (.Name "range" p) [a] [] c) (ZPe f):=by
 intro b s v H R I h;refine Call_ (Pm I k l boot_range (PyProof.Rows.callWith_type1 (YH (i c b s v H _ I h) λy x z w g o d=>?_) m rfl));let⟨j,e,d,n,q⟩:=d;subst e
 cases o with
 | cons r u=>
  cases u;let⟨t,rfl⟩:=r;exact call_range_1 (IL g ∅ ∅ d n (by simpa using q))
def Mf{a b:Expr}{l:TA}{p f:aH}(o:Gl X "range")(u:X.mg "range" = none)(n:PA X [a,b] l)(v:aq [a,b] X.env=[(false,aF a X.env),(false,aF b X.env)]:=by rfl)(c:aq [b] X.env=[(false,aF b X.env)]:=by rfl):
  PI X tg (.Call (.Name "range" p) [a,b] [] f) (ZP1 l):=by
 intro d s B H R I h;refine Call_ (Pm I o u boot_range (PyProof.Rows.callWith_type1 (YH (n f d s B H _ I h) λF D G C m A g=>?_) (by rw[v,c]) (by rw[c];rfl)))
 let⟨i,j,e,⟨g,w,x,y⟩,q⟩:=g;subst e
 cases A with
 | cons r k=>
  cases k with
  | cons z k=>
   cases k;let⟨t,rfl⟩:=r;let⟨E,rfl⟩:=z;exact call_range_2 (IL m g w x y q)
def Br(k:TI)(g:TG)(j:TS):TS:=λD a H=>k a H λJ f=>∃ W:Nat->Nat->St->Hp->Prop,(∃ m,W 0 m a f)/\∀ i m a H,W i m a H ->
 (J.stop i H/\D.nx a H)\/(J.go i H/\∃ N:St->Hp->Prop,(∀ c b,N c b->∃ e,e<m/\W (i+1) e c b)/\∀ x b,J.yld i H x b->g x a b λd h=>j { D with nx:=N,ct:=N,bk:=D.nx } d h)
def Ow(a:jw)(h:aC):js:=a.filterMap λb=>(h.get? b).map λo=>(b,o)
def Oz{a:jw}{h:aC}{b:aj}{o:aG}(c:b∈a)(e:h.get? b=some o):(b,o)∈Ow a h:=wE.mpr ⟨b,c,by rw[e];rfl⟩
def BX{a:jw}{h:aC}{p:aj×aG}(f:p∈Ow a h):p.1∈a/\h.get? p.1=some p.2:=by
 let⟨b,d,e⟩:=wE.mp f
 cases q:h.get? b with
 | none=>rw[q] at e;cases e
 | some o=>
  rw[q] at e;let c:(b,o)=p:=zB.inj e;subst c;exact⟨d,q⟩
def ZE.pinned{a:js}{h:St}{H:Hp}{s:ak}{c:jw}(I:ZE X a h H s)(l:∀ b∈c,Wm X a H b)(m:∀ b∈c,∃ o,s.heap.get? b=some o/\∀ v,o.data≠.cell v):ZE X (a++Ow c s.heap) h H s:=
 I.pins_of λp n=>(zJ.mp n).elim (λz=>I.pin p (yI _ z)) λz=>by
  let⟨g,e⟩:=BX z;let⟨i,j,k,_⟩:=l p.1 g;let⟨o,f,d⟩:=m p.1 g;rw[e] at f;cases f;exact⟨e,i,j,k,d⟩
def ZE.unpinned{a d:js}{b:St}{H:Hp}{s:ak}(I:ZE X (a++d) b H s):ZE X a b H s:=I.pins_of λp c=>I.pin p (yI _ (yC _ c))
def Wu{q:Expr}{C:jK}{wi:TI}{g:TG}{tb:TS}{Y:aH}(L:PassesOwn (az X.prog X.w) X.A X.env X.xe)(hc:X.calm=true)(hi:PI X tg q wi)(hg:PG X tg g)(p:X4 X C tb)(hs:∀ x,foldedSetIterable q X.env x=pure x:=by intro _;rfl):PS X (.For tg q C [] Y) (Br wi g tb):=by
 intro a s σ H D I h;refine wpAny_For (Zz (hi a s σ H _ I h) λv s1 h1=>Zz h1 λa2 s2 h2=>?_) hs;let⟨it,G,tn,J,H2,e,I2,T,a0,f2,W,⟨m0,w0⟩,Q⟩:=h2;subst e;let t:∀{B:Hp},(∀ b∈G,B b=none)->∀ b∈G,Wm X a B b:=λhn b p=>⟨hn b p,(f2 b p).2⟩;refine codeAny_forLoop_any (λn s'=>∃ i y B,ZE X a y B s'/\tn i s'.heap/\(∀ b∈G,B b=none)/\W i n y B) ?_ m0 ⟨0,σ,H2,I2,a0,λb p=>(f2 b p).1,w0⟩;rintro n s3 ⟨i,z,R,I3,O,K,w3⟩;rcases Q i n z R w3 with ⟨P,qn⟩ | ⟨go,N,hN,step⟩
 ·refine wpAny_passesOwn L (Zz (T.done X rfl rfl rfl hc i a s3 z R X.xe I3 (t K) O P) ?_);rintro r s4 ⟨V,I4⟩;subst V;exact wpAny_execs_nil ⟨z,R,I4,qn⟩
 ·refine wpAny_passesOwn L (Zz (T.item X rfl rfl rfl hc i a s3 z R X.xe I3 (t K) O go) ?_);rintro r s4 ⟨u,V,h4⟩;subst V;refine wpAny_passesOwn L (Zz h4 ?_);rintro _ s5 ⟨x,H5,I5,r5,y5,F,U⟩;let S:=I5.pinned (t U) (T.obj _ _ F);refine wpAny_passesOwn L (Zz (hg _ s5 z H5 x u _ S r5 (step x H5 y5)) ?_);rintro _ s6 ⟨a1,H6,I6,q6⟩;refine wpAny_passesOwn L (Zz (p _ s6 a1 H6 _ I6 q6) λf s7 E=>?_);let l:∀{c:St}{j:Hp},ZE X (a++Ow G s5.heap) c j s7->N c j->∃ m,m<n/\∃ i y B,ZE X a y B s7/\tn i s7.heap/\(∀ b∈G,B b=none)/\W i m y B:=fun{c j} k M=>by
   let⟨m',hm,w7⟩:=hN c j M;refine⟨m',hm,i+1,c,j,k.unpinned,T.keep _ _ _ F λb p o e=>(k.pin (b,o) (yI _ (yI _ (Oz p e)))).1,λb p=>?_,w7⟩;let⟨o,e,d⟩:=T.obj _ _ F b p;exact(k.pin (b,o) (yI _ (yI _ (Oz p e)))).2.1
  cases f with
  | next=>let⟨c,j,k,M⟩:=E;exact l k M
  | cont=>let⟨c,j,k,M⟩:=E;exact l k M
  | brk=>let⟨c,j,k,E⟩:=E;exact⟨c,j,k.unpinned,E⟩
  | ret v=>let⟨x7,c,j,k,r7,E⟩:=E;exact⟨x7,c,j,k.unpinned,r7,E⟩
end
def UT{K:zZ}{a:aj}{xs:jf}{g:TG}{n:TS}{D:Yc}{b:St}{H:Hp}(c:Nat->St->Hp->Prop)(o:c 0 b H)(t:∀ i b H,i<=xs.length->c i b H->ZG K H a xs)(u:∀ i x b H,xs[i]? = some x->c i b H->g x b H λh k=>n { D with nx:=c (i+1),ct:=c (i+1),bk:=D.nx } h k)(r:∀ b H,c xs.length b H->D.nx b H):
  ∃ W:Nat->Nat->St->Hp->Prop,(∃ m,W 0 m b H)/\∀ i m b H,W i m b H ->
   ((OO K a).stop i H/\D.nx b H)\/((OO K a).go i H/\∃ N:St->Hp->Prop,(∀ f d,N f d->∃ l,l<m/\W (i+1) l f d)/\∀ x d,(OO K a).yld i H x d->g x b d λh k=>n { D with nx:=N,ct:=N,bk:=D.nx } h k):=by
 exists λi m b H=>m=xs.length-i/\i<=xs.length/\c i b H,⟨xs.length,by simp,zF _,o⟩
 rintro i m b H ⟨rfl,s,p⟩;let q:=t i b H s p;by_cases j:i<xs.length
 ·refine .inr ⟨⟨xs,xs[i],q,by simp[j]⟩,c (i+1),λf d v=>⟨xs.length-(i+1),by exact sM ‹_› (xT _),Z,j,v⟩,λx d y=>?_⟩
  let⟨e,y⟩:=y;subst e;exact u i x b _ (y xs q) p
 ·let e:i=xs.length:=∅
  subst e;exact .inl ⟨⟨xs,q,zY _⟩,r b H p⟩
def NN{lo:Int}{n:Nat}{g:TG}{l:TS}{D:Yc}{a:St}{H:Hp}(c:Nat->St->Hp->Prop)(o:c 0 a H)(r:∀ i a H,i<n->c i a H->g (.int (lo+i)) a H λh j=>l { D with nx:=c (i+1),ct:=c (i+1),bk:=D.nx } h j)(q:∀ a H,c n a H->D.nx a H):
  ∃ W:Nat->Nat->St->Hp->Prop,(∃ m,W 0 m a H)/\∀ i m a H,W i m a H ->
   ((Od lo n).stop i H/\D.nx a H)\/((Od lo n).go i H/\∃ N:St->Hp->Prop,(∀ f b,N f b->∃ k,k<m/\W (i+1) k f b)/\∀ x b,(Od lo n).yld i H x b->g x a b λh j=>l { D with nx:=N,ct:=N,bk:=D.nx } h j):=by
 exists λi m a H=>m=n-i/\i<=n/\c i a H,⟨n,by simp,zF _,o⟩
 rintro i m a H ⟨rfl,t,p⟩;by_cases d:i<n
 ·refine .inr ⟨d,c (i+1),λf b s=>⟨n-(i+1),by exact sM ‹_› (xT _),Z,d,s⟩,λx b y=>?_⟩
  let⟨e,y⟩:=y;subst e y;exact r i a _ d p
 ·let e:i=n:=∅
  subst e;exact .inl ⟨zY _,q a H p⟩
abbrev R2:=V->V->Hp->VK->Prop
def Yv(X:Cx)(f:ai->ai->Sem ai)(r:R2):Prop:=
 ∀(a:js)(s:ak)(b:St)(H:Hp)(x y:V)(v u:ai)(Q:VK),ZE X a b H s->ZU x v->ZU y u->r x y H Q ->
  aA (az X.prog X.w) X.A (f v u) (EP X a b Q) X.xe s
def Kn(X:Cx)(f:ai->Sem ai)(r:V->Hp->VK->Prop):Prop:=
 ∀(a:js)(s:ak)(b:St)(H:Hp)(x:V)(v:ai)(Q:VK),ZE X a b H s->ZU x v->r x H Q ->
  aA (az X.prog X.w) X.A (f v) (EP X a b Q) X.xe s
def VL(X:Cx)(f:ai)(r:jf->Hp->VK->Prop):Prop:=
 ∀(a:js)(s:ak)(d:St)(H:Hp)(c:jf)(b:je)(Q:VK),ZE X a d H s->ZT c b->r c H Q ->
  aA (az X.prog X.w) X.A (call f b) (EP X a d Q) X.xe s
def Ou(r:R2)(d e:TE):TE:=λa H Q=>d a H λx b=>e a b λy c=>r x y c Q
def tUn(r:V->Hp->VK->Prop)(b:TE):TE:=λc H Q=>b c H λx a=>r x a Q
inductive rI(C:Int->Int->Prop)(g:Int->Int->V)(x y:V)(H:Hp)(Q:VK):Prop
 |mk(i j:_)(_:x=.int i)(_:y=.int j)(_:C i j)(_:Q (g i j) H)
inductive PR(g:Int->Int->V)(x y:V)(H:Hp)(Q:VK):Prop
 |mk(i j:_)(_:x=.int i)(_:y=.int j)(_:Q (g i j) H)
inductive rU(g:Int->V)(x:V)(H:Hp)(Q:VK):Prop
 |mk(i:_)(_:x=.int i)(_:Q (g i) H)
section
variable{a b c:Expr}{ta tb tc:TE}{pos:aH}
def KZ(o:PE X a ta)(p:PE X b tb){d:js}{s:ak}{g:St}{H:Hp}{R:V->V->Hp->Prop}(I:ZE X d g H s)(h:ta g H λx l=>tb g l λy e=>R x y e){Q:ja}{f:ai->ai->Sem ai}(q:∀ v u k x y e,ZE X d g e k->ZU x v->ZU y u->R x y e->aA (az X.prog X.w) X.A (f v u) Q X.xe k):
  aA (az X.prog X.w) X.A (aF a X.env) (λv i=>aA (az X.prog X.w) X.A (aF b X.env) (λu j=>aA (az X.prog X.w) X.A (f v u) Q X.xe j) X.xe i) X.xe s:=by
 refine YH (o d s g H _ I h) λv C x l m z r=>?_;refine YH (p d C g l _ m r) λu k y e n B t=>?_;exact q v u k x y e n z B t
def Z2{e:Operator}{r:R2}(k:Yv X (binaryOp e) r)(i:PE X a ta)(j:PE X b tb):PE X (.BinOp a e b pos) (Ou r ta tb):=by
 intro d s o H Q I h;exact wpAny_BinOp (KZ i j I h λv u n x y f g l m q=>k d n o f x y v u Q g l m q)
def OI{e:UnaryOp}{r:V->Hp->VK->Prop}(k:Kn X (unaryOp e) r)(j:PE X a ta):PE X (.UnaryOp e a pos) (tUn r ta):=by
 intro d s f H Q I h;exact UnaryOp_ (YH (j d s f H _ I h) λv n x g i m l=>k d n f g x v Q i m l)
def Nj{f:ai->ai->Sem ai}{C:Int->Int->Prop}{g:Int->Int->Int}(d:∀ (i j:Int) (t u:Tok) (s:ak) (Q:ja) (E:ja),C i j->Q (.int (g i j) s.toks) { s with toks:=s.toks+1 }->aA (az X.prog X.w) X.A (f (.int i t) (.int j u)) Q E s):
  Yv X f (rI C λi j=>.int (g i j)):=by
 intro e s o H x y v u Q I l m h;let⟨i,j,rfl,rfl,k,q⟩:=h;let⟨t,rfl⟩:=l;let⟨n,rfl⟩:=m;exact d i j t n s _ _ k ⟨.int (g i j),H,I.tok _,⟨_,Z⟩,q⟩
def Gb{f:ai->ai->Sem ai}{g:Int->Int->Int}(d:∀ (i j:Int) (t u:Tok) (s:ak) (Q:ja) (E:ja),Q (.int (g i j) s.toks) { s with toks:=s.toks+1 }->aA (az X.prog X.w) X.A (f (.int i t) (.int j u)) Q E s):
  Yv X f (PR λi j=>.int (g i j)):=by
 intro e s n H x y v u Q I k l h;let⟨i,j,rfl,rfl,q⟩:=h;let⟨t,rfl⟩:=k;let⟨m,rfl⟩:=l;exact d i j t m s _ _ ⟨.int (g i j),H,I.tok _,⟨_,Z⟩,q⟩
def ML{f:ai->ai->Sem ai}{g:Int->Int->Bool}(d:∀ (i j:Int) (t u:Tok) (s:ak) (Q:ja) (E:ja),Q (.bool (g i j)) s->aA (az X.prog X.w) X.A (f (.int i t) (.int j u)) Q E s):
  Yv X f (PR λi j=>.bl (g i j)):=by
 intro e s n H x y v u Q I k l h;let⟨i,j,rfl,rfl,q⟩:=h;let⟨t,rfl⟩:=k;let⟨m,rfl⟩:=l;exact d i j t m s _ _ ⟨.bl (g i j),H,I,Z,q⟩
def ZQV(i j:Int):Prop:=0<j/\j<1073741824
def ZQQ(i j:Int):Prop:=0<=j/\j<=1000000/\i.natAbs<2 ^ 64
def Qq(i j:Int):Prop:=(-(2 ^ 64)<i/\i<2 ^ 64)\/(-(2 ^ 64)<j/\j<2 ^ 64)
def Qq.ok{i j:Int}(h:Qq i j):IntMulOk i j:=by
 rcases h with ⟨d,e⟩ | ⟨d,e⟩
 ·exact .of_left (intBits_le_64 d e)
 ·exact .of_right (intBits_le_64 d e)
def Wl:Yv X (binaryOp .Add) (PR λi j=>.int (i+j)):=Gb λ_ _ _ _ _ _ _ q=>add_int q
def Qf:Yv X (binaryOp .Sub) (PR λi j=>.int (i-j)):=Gb λ_ _ _ _ _ _ _ q=>sub_int q
def Pq:Yv X (binaryOp .Mult) (rI Qq λi j=>.int (i * j)):=Nj λ_ _ _ _ _ _ _ d q=>mul_int q d.ok
def LK:Yv X (binaryOp .FloorDiv) (rI ZQV λi j=>.int (i / j)):=Nj λi j _ _ _ _ _ d q=>by
 let e:(0:Int)<j:=d.1;let f:j<1073741824:=d.2;exact floordiv_int ∅ (by rw[rC i ∅];exact q) (.inl (PyProof.noPylong_small ∅))
def UV:Yv X (binaryOp .Mod) (rI (λ_ j=>0<j) λi j=>.int (i % j)):=Nj λi j _ _ _ _ _ d q=>by
 let e:(0:Int)<j:=d;exact mod_int' ∅ (by rw[Int.fmod_eq_emod_of_nonneg i ∅];exact q)
def HZ:Yv X (binaryOp .Pow) (rI ZQQ λi j=>.int (i ^ j.toNat)):=Nj λ_ _ _ _ _ _ _ d q=>pow_int_small d.1 d.2.1 d.2.2 q
def Di{f:ai->Sem ai}{g:Int->Int}(d:∀ (i:Int) (t:Tok) (s:ak) (Q:ja) (E:ja),Q (.int (g i) s.toks) { s with toks:=s.toks+1 }->aA (az X.prog X.w) X.A (f (.int i t)) Q E s):
  Kn X f (rU λi=>.int (g i)):=by
 intro e s k H x v Q I j h;let⟨i,rfl,q⟩:=h;let⟨t,rfl⟩:=j;exact d i t s _ _ ⟨.int (g i),H,I.tok _,⟨_,Z⟩,q⟩
def P4:Kn X (unaryOp .USub) (rU λi=>.int (-i)):=Di λ_ _ _ _ _ q=>neg_int q
end
def HJ:V->V->Bool
 | .non,.non=>true | .non,.int _=>true | .int _,.non=>true | .non,.bl _=>true | .bl _,.non=>true | .non,.str _=>true | .str _,.non=>true
 | .int _,.int _=>true | .bl _,.bl _=>true | .str _,.str _=>true | .byt _,.byt _=>true
 | .int _,.str _=>true | .str _,.int _=>true | .bl _,.str _=>true | .str _,.bl _=>true
 | _,_=>false
def CG:R2:=λx y H Q=>HJ x y=true/\Q (.bl (decide (x=y))) H
def rNe:R2:=λx y H Q=>HJ x y=true/\Q (.bl (!decide (x=y))) H
def GX{i j:Int}:decide (V.int i=V.int j)=(i==j):=by
 rw[xD];simp
def HF{i j:Bool}:decide (V.bl i=V.bl j)=(i==j):=by
 rw[xD];simp
def Iy{i j:Str}:decide (V.str i=V.str j)=(i==j):=by
 rw[xD];simp
def F7{i j:Array UInt8}:decide (V.byt i=V.byt j)=(i.toList==j.toList):=by
 rw[xD];cases i;cases j;simp
section
variable{a b c:Expr}{ta tb tc:TE}{pos:aH}
def Ys{d:js}{g:St}{H:Hp}{s:ak}{Q:VK}{k f:Bool}(I:ZE X d g H s)(q:Q (.bl k) H)(e:k=f):EP X d g Q (.bool f) s:=by
 subst e;exact⟨.bl k,H,I,Z,q⟩
def Wp:Yv X (ay .Eq) CG:=by
 intro k s l H x y v u Q I g d h;let⟨f,q⟩:=h
 cases x with
 | non=>
  cases g
  cases y with
  | non=>cases d;exact PySem.EqNone.eq_none_none (Ys I q (by simp))
  | bl j=>cases d;exact PySem.EqNone.eq_none_bool (Ys I q (by simp))
  | int j=>let⟨e,rfl⟩:=d;exact PySem.EqNone.eq_none_int (Ys I q (by simp))
  | str j=>let⟨e,rfl⟩:=d;exact PySem.EqNone.eq_none_str (Ys I q (by simp))
  | _=>exact absurd (show false=true from f) zR
 | bl i=>
  cases g
  cases y with
  | non=>cases d;exact PySem.EqNone.eq_bool_none (Ys I q (by simp))
  | bl j=>cases d;exact eq_bool (Ys I q HF)
  | str j=>let⟨e,rfl⟩:=d;exact PySem.EqMixed.eq_bool_str (Ys I q (by simp))
  | _=>exact absurd (show false=true from f) zR
 | int i=>
  let⟨t,rfl⟩:=g
  cases y with
  | non=>cases d;exact PySem.EqNone.eq_int_none (Ys I q (by simp))
  | int j=>let⟨e,rfl⟩:=d;exact eq_int (Ys I q GX)
  | str j=>let⟨e,rfl⟩:=d;exact PySem.EqMixed.eq_int_str (Ys I q (by simp))
  | _=>exact absurd (show false=true from f) zR
 | str i=>
  let⟨t,rfl⟩:=g
  cases y with
  | non=>cases d;exact PySem.EqNone.eq_str_none (Ys I q (by simp))
  | bl j=>cases d;exact PySem.EqMixed.eq_str_bool (Ys I q (by simp))
  | int j=>let⟨e,rfl⟩:=d;exact PySem.EqMixed.eq_str_int (Ys I q (by simp))
  | str j=>let⟨e,rfl⟩:=d;exact eq_str (Ys I q Iy)
  | _=>exact absurd (show false=true from f) zR
 | byt i=>
  let⟨t,rfl⟩:=g
  cases y with
  | byt j=>let⟨e,rfl⟩:=d;exact PySem.W.eq_bytes (Ys I q F7)
  | _=>exact absurd (show false=true from f) zR
 | _=>cases y <;> exact absurd (show false=true from f) zR
def PZ:Yv X (ay .NotEq) rNe:=by
 intro k s l H x y v u Q I g d h;let⟨f,q⟩:=h
 cases x with
 | non=>
  cases g
  cases y with
  | non=>cases d;exact PySem.EqNone.ne_none_none (Ys I q (by simp))
  | bl j=>cases d;exact PySem.EqNone.ne_none_bool (Ys I q (by simp))
  | int j=>let⟨e,rfl⟩:=d;exact PySem.EqNone.ne_none_int (Ys I q (by simp))
  | str j=>let⟨e,rfl⟩:=d;exact PySem.EqNone.ne_none_str (Ys I q (by simp))
  | _=>exact absurd (show false=true from f) zR
 | bl i=>
  cases g
  cases y with
  | non=>cases d;exact PySem.EqNone.ne_bool_none (Ys I q (by simp))
  | bl j=>cases d;exact ne_bool (Ys I q (congrArg not HF))
  | str j=>let⟨e,rfl⟩:=d;exact PySem.EqMixed.ne_bool_str (Ys I q (by simp))
  | _=>exact absurd (show false=true from f) zR
 | int i=>
  let⟨t,rfl⟩:=g
  cases y with
  | non=>cases d;exact PySem.EqNone.ne_int_none (Ys I q (by simp))
  | int j=>let⟨e,rfl⟩:=d;exact ne_int (Ys I q (congrArg not GX))
  | str j=>let⟨e,rfl⟩:=d;exact PySem.EqMixed.ne_int_str (Ys I q (by simp))
  | _=>exact absurd (show false=true from f) zR
 | str i=>
  let⟨t,rfl⟩:=g
  cases y with
  | non=>cases d;exact PySem.EqNone.ne_str_none (Ys I q (by simp))
  | bl j=>cases d;exact PySem.EqMixed.ne_str_bool (Ys I q (by simp))
  | int j=>let⟨e,rfl⟩:=d;exact PySem.EqMixed.ne_str_int (Ys I q (by simp))
  | str j=>let⟨e,rfl⟩:=d;exact ne_str (Ys I q (congrArg not Iy))
  | _=>exact absurd (show false=true from f) zR
 | byt i=>
  let⟨t,rfl⟩:=g
  cases y with
  | byt j=>let⟨e,rfl⟩:=d;exact PySem.W.ne_bytes (Ys I q (congrArg not F7))
  | _=>exact absurd (show false=true from f) zR
 | _=>cases y <;> exact absurd (show false=true from f) zR
def Qj:Yv X (ay .Lt) (PR λi j=>.bl (decide (i<j))):=ML λ_ _ _ _ _ _ _ q=>lt_int q
def Uf:Yv X (ay .LtE) (PR λi j=>.bl (decide (i<=j))):=ML λ_ _ _ _ _ _ _ q=>le_int q
def Vr:Yv X (ay .Gt) (PR λi j=>.bl (decide (j<i))):=ML λ_ _ _ _ _ _ _ q=>gt_int q
def Dd:Yv X (ay .GtE) (PR λi j=>.bl (decide (j<=i))):=ML λ_ _ _ _ _ _ _ q=>ge_int q
def Z0(b:Expr){d:CmpOp}(h:d≠.In:=by decide)(g:d≠.NotIn:=by decide):behindInMarks d b=false:=by
 let e:(d==CmpOp.In)=false:=by cases d <;> first | rfl | exact absurd rfl h
 let f:(d==CmpOp.NotIn)=false:=by cases d <;> first | rfl | exact absurd rfl g
 cases b <;> simp[behindInMarks,e,f]
def VA{e:CmpOp}{r:R2}(l:Yv X (ay e) r)(i:PE X a ta)(j:PE X b tb)(k:behindInMarks e b=false):PE X (.Compare a [e] [b] pos) (Ou r ta tb):=by
 intro d s p H Q I h;exact wpAny_Compare1 (KZ i j I h λv u o x y f g m n q=>l d o p f x y v u Q g m n q) k
inductive OE(Q:Bool->Hp->Prop)(x:V)(d:Hp):Prop
 |mk(k:_)(_:x=.bl k)(_:Q k d)
def EH(t:TE):TT:=λe H Q=>t e H λx d=>OE Q x d
def YI{f:CmpOp}{r:R2}(w:Yv X (ay f) r)(p:PE X a ta)(q:PE X b tb)(t:behindInMarks f b=false):PT X (.Compare a [f] [b] pos) (EH (Ou r ta tb)):=by
 intro d s g H Q I h;refine wpAny_isTrue_Compare1 (YH (p d s g H _ I h) λv G x i m D A=>YH (q d G g i _ m A) λu J y j n E B=>
  Zz (w d J g j x y v u _ n D E B) λc K ⟨z,l,o,F,k,e,C⟩=>?_) t
 subst e;cases F;exact wpAny_truthy_bool ⟨l,o,C⟩
inductive Qr(f:R2)(tc:TE)(h:L2.St)(Q:VK)(y z:V)(d:Hp):Prop
 |mk(k:_)(_:z=.bl k)(_:if k=true then tc h d λg e=>f y g e Q else Q (.bl false) d)
def HV(r h:R2)(ta tb tc:TE):TE:=λd H Q=>ta d H λx e=>tb d e λy f=>r x y f λz g=>Qr h tc d Q y z g
def EB{l g:CmpOp}{r p:R2}(K:Yv X (ay l) r)(j:Yv X (ay g) p)(E:PE X a ta)(F:PE X b tb)(G:PE X c tc)(J:lastMarks [l,g] [b,c]=false:=by with_unfolding_all rfl):PE X (.Compare a [l,g] [b,c] pos) (HV r p ta tb tc):=by
 intro f s i H Q I h;refine Compare_chain (YH (E f s i H _ I h) λv S x t B O L=>chain_link (YH (F f S i t _ B L) λu T y w C q M=>
  Zz (K f T i w x y v u _ C O q M) λd U ⟨z,m,n,P,k,e,o⟩=>?_)) J
 subst e;cases P;refine wpAny_truthy_bool ?_
 cases k with
 | false=>exact ite_ff ⟨.bl false,m,n,Z,o⟩
 | true=>exact ite_tt (chain_last (YH (G f U i m _ n o) λW V Y A D R N=>j f V i A y Y u W Q D q R N))
def FH{l g:CmpOp}{r p:R2}(O:Yv X (ay l) r)(j:Yv X (ay g) p)(K:PE X a ta)(L:PE X b tb)(M:PE X c tc)(N:lastMarks [l,g] [b,c]=false:=by with_unfolding_all rfl):PT X (.Compare a [l,g] [b,c] pos) (EH (HV r p ta tb tc)):=by
 intro f s i H Q I h;refine isTrue_chain (YH (K f s i H _ I h) λv s1 x t C V R=>test_link (YH (L f s1 i t _ C R) λu s2 y w D q S=>
  Zz (O f s2 i w x y v u _ D V q S) λd s3 ⟨z,m,n,W,k,e,o⟩=>?_)) N
 subst e;cases W;refine wpAny_truthy_bool ?_
 cases k with
 | false=>
  let⟨k',G,P⟩:=o;cases G;exact ite_ff ⟨m,n,P⟩
 | true=>
  refine ite_tt (test_last (YH (M f s3 i m _ n o) λw' s4 z' A E Y T=>Zz (j f s4 i A y z' u w' _ E q Y T) λd' s5 ⟨z2,B,F,r5,k2,J,U⟩=>?_));subst J;cases r5;exact wpAny_truthy_bool ⟨B,F,U⟩
def Os:(ap:Nat)<2 ^ 63:=by rw[sizeLine_eq];decide
inductive VP(x y:V)(H:Hp)(Q:VK):Prop
 |mk(i j:_)(_:x=.str i)(_:y=.str j)(_:i.length+j.length<=ap)(_:Q (.str (i++j)) H)
def JI:Yv X (binaryOp .Add) (VP):=by
 intro d s m H x y v u Q I f g h;let⟨i,j,rfl,rfl,e,q⟩:=h;let⟨t,rfl⟩:=f;let⟨k,rfl⟩:=g;exact add_str (λk l=>⟨.str (i++j),H,I.tok _,⟨_,Z⟩,q⟩) e
def VO{x:V}{d:je}(r:ZT [x] d):∃ u,d=[u]/\ZU x u:=by
 cases r with
 | cons e f=>cases f;exact⟨_,Z,e⟩
def KJ{x y:V}{d:je}(r:ZT [x,y] d):∃ u e,d=[u,e]/\ZU x u/\ZU y e:=by
 cases r with
 | cons f g=>
  cases g with
  | cons h i=>cases i;exact⟨_,_,Z,f,h⟩
inductive UX(d:jf)(H:Hp)(Q:VK):Prop
 |mk(i:_)(_:d=[.int i])(_:Q (.int (if i<0 then -i else i)) H)
def Js:VL X (.builtin "abs") (UX):=by
 intro d s j H g f Q I r h;let⟨i,rfl,q⟩:=h;let⟨u,rfl,t,rfl⟩:=VO r;exact call_abs_int λu e=>⟨.int (if i<0 then -i else i),H,I.tok _,⟨_,Z⟩,q⟩
inductive Vk(d:jf)(H:Hp)(Q:VK):Prop
 |mk(i j:_)(_:d=[.int i,.int j])(_:Q (.int (if j > i then j else i)) H)
def Ij(f:X.calm=true):VL X (.builtin "max") (Vk):=by
 intro e s v H p n Q I r h;let⟨i,j,rfl,q⟩:=h;let⟨u,o,rfl,⟨t,rfl⟩,⟨l,rfl⟩⟩:=KJ r;refine max_two_ints (I.ok.hd f) λg m k=>⟨_,H,I.kept k,?_,q⟩;by_cases d:j > i
 ·rw[aM d,aM d];exact⟨_,Z⟩
 ·rw[aK d,aK d];exact⟨_,Z⟩
inductive V4(d:jf)(H:Hp)(Q:VK):Prop
 |mk(i j:_)(_:d=[.int i,.int j])(_:Q (.int (if j<i then j else i)) H)
def ZIb(f:X.calm=true):VL X (.builtin "min") (V4):=by
 intro e s v H p n Q I r h;let⟨i,j,rfl,q⟩:=h;let⟨u,o,rfl,⟨t,rfl⟩,⟨l,rfl⟩⟩:=KJ r;refine min_two_ints (I.ok.hd f) λg m k=>⟨_,H,I.kept k,?_,q⟩;by_cases d:j<i
 ·rw[aM d,aM d];exact⟨_,Z⟩
 ·rw[aK d,aK d];exact⟨_,Z⟩
def M7:VL X (.type "int") (λd H Q=>(∃ i,d=[.int i]/\Q (.int i) H)\/∃ k,d=[.bl k]/\Q (.int (if k then 1 else 0)) H):=by
 intro e s j H d g Q I r h;rcases h with ⟨i,rfl,q⟩ | ⟨k,rfl,q⟩
 ·let⟨u,rfl,t,rfl⟩:=VO r;exact call_int_int ⟨.int i,H,I,⟨_,Z⟩,q⟩
 ·let⟨u,rfl,f⟩:=VO r;cases f;exact call_int_bool ⟨.int (if k then 1 else 0),H,I.tok _,⟨_,Z⟩,q⟩
end
structure Vo(h:aC)(x dx C:aj)(mA:jb):Prop where
 obj:h.get? x=some (wU C dx)
 ns:h.Ns1 dx mA
 ne:dx≠x
def Ef{h:aC}{d:aj}{g:jb}(n:h.Ns1 d g):∃ i,h.get? d=some i/\∀ b,uM b i=some (g b):=by
 let⟨o,f,s,p,k,l,_,m⟩:=n;exists o,p;intro b;let e:=m b;unfold nsFind findBy at e;rw[<-Array.find?_toList] at e;unfold uM;rw[k];dsimp only;split
 ·rename_i y q
  rw[q] at e;exact congrArg some e
 ·rename_i q
  rw[q] at e;let a:f.toList.any (·.refKey)=false:=by
   rw[List.any_eq_false];intro y r;let⟨z,t,c⟩:=l y (sJ.mp r);simp[DictEntry.refKey,c]
  let j:¬ f.toList.any (·.refKey)=true:=by rw[a];exact zR
  rw[aK j];exact congrArg some e
def Vo.look{h:aC}{x c C:aj}{d:jb}(I:Vo h x c C d):∃ b,PySem.W.InstAt h x (wU C c) C (some b)/\∀ a,uM a b=some (d a):=
 let ⟨b,ho,hl⟩:=Ef I.ns
 ⟨b,⟨I.obj,rfl,rfl,ho⟩,hl⟩
section
variable{prog:al}{w:ar}{A:aw}{E:ja}{s:ak}{K:zZ}{x dx C f:aj}{mA:jb}{name:Str}{v:ai}
def AG{a:Bool}{Q:ja}(X:K.In s.heap)(I:Vo s.heap x dx C mA)(d:vS K C name=true)(e:wF K C=true)(c:zA K (.ref C) name=some none)(i:mA name=some v)(b:PySem.W.handedIn v=true)(h:Q v { s with toks:=s.toks+1 }):
  aA (az prog w) A (getAttr (.ref x) name a) Q E s:=by
 let⟨j,J,g⟩:=I.look;exact PySem.W.get_value X J (sH d).1 (PySem.W.findObj_own e c Z (by rw[g,i])) b h
def ZLH{i:Sem Bool}{Q:ai×je->ak->Prop}(X:K.In s.heap)(I:Vo s.heap x dx C mA)(a:vS K C name=true)(b:zA K (.ref C) name=some (some (.ref f)))(d:wW K (.ref f)=true)(e:mA name=none)(h:Q (.ref f,[.ref x]) s):
  aA (az prog w) A (getMethod (.ref x) name i) Q E s:=by
 let⟨g,J,c⟩:=I.look;exact PySem.W.method_fn X J (sH a).1 (sH a).2 b (beq_iff_eq.mp d) (by show (uM name g).map (·.isSome)=some false;rw[c,e];rfl) h
def ZNB{l:jr}{Q:Unit->ak->Prop}(X:K.In s.heap)(I:Vo s.heap x dx C mA)(t:zA K (.ref C) "__setattr__" = some (some (.builtin "object.__setattr__")))(q:uC K C=true)(z:rV K C name=some none)(p:wF K C=true)(B:PySem.Within mA l)(u:l.length<=ap)(h:∀ e,Vo e x dx C (λy=>if y=name then some v else mA y)->xB dx s.heap e->Q () { s with heap:=e,toks:=s.toks+2 }):
  aA (az prog w) A (setAttr (.ref x) name v) Q E s:=by
 let⟨L,J,G⟩:=I.look;refine PySem.W.set_plain X J t (PySem.W.osa_open (s:={ s with toks:=s.toks+1 }) (r:=none) X J q z λb=>?_);let⟨F,o,i⟩:=rQ p;let D:s.heap.get? x=some ⟨.ref C,some dx,.plain,#[]⟩:=I.obj;refine aa (ad (aa (aa (wpAny_loadPart D (aa (xS.here (s:={ s with toks:=s.toks+1 }) (sI X o) ?_))))));rw[i];refine ad (a:=some dx) (aa (ad (aa ?_)));refine wpAny_nsSet1 (s:={ s with toks:=s.toks+1 }) I.ns λe c d=>?_;let⟨H,n,m,k,j,g⟩:=c.count (PySem.Within.cons name v B);refine aa (wpAny_lookBehind k (by rw[j];exact pastItsLine_dict (zL g (by rw[yV];lia))) ?_)
 exact ad (h _ ⟨(d.2 _ (Ne.symm I.ne)).trans I.obj,c,I.ne⟩ d)
def ZKh{R:Result->ak->Prop}{c:je}{b:jJ}(X:K.In s.heap)(j:uI K C=true)(i:zA K (.ref C) "__init__" = some (some (.ref f)))(e:yE K (.ref f)=some (.type "function"))(h:codeAny (az prog w) (A.under (.builtin "type.__call__" ⟨.ref C::c,b⟩)) (.call (.ref f) ⟨.ref (s.heap.objs.size+1)::c,b⟩) (PySem.W.InitBack (s.heap.objs.size+1) R)
   { s with heap:=(s.heap.push wY).push (wU C s.heap.objs.size) }):
  codeAny (az prog w) A (.call (.ref C) ⟨c,b⟩) R s:=by
 let⟨k,g,d,t,l⟩:=s;exact PySem.W.make_core (PySem.W.makes_of X j) (sG X i) (λa=>PySem.W.bind_fn X a e) (.inl rfl) h
end
def Ye(f:Str)(v:V):List (Str×V)->List (Str×V)
 | []=>[(f,v)]
 | (g,x)::r=>if g=f then (g,v)::r else (g,x)::Ye f v r
def GJ(f g:Str)(v:V):∀ c:List (Str×V),(Ye f v c).lookup g=if g=f then some v else c.lookup g
 | []=>by
  show xM g [(f,v)]=_;by_cases h:g=f
  ·let a:(g==f)=true:=beq_iff_eq.mpr h;simp only[xM,a,aM h]
  ·let a:(g==f)=false:=beq_eq_false_iff_ne.mpr h;simp only[xM,a,aK h]
 | (k,x)::r=>by
  let d:=GJ f g v r;rw[show Ye f v ((k,x)::r)=(if k=f then (k,v)::r else (k,x)::Ye f v r) from rfl]
  by_cases b:k=f
  ·rw[aM b];by_cases h:g=k
   ·let a:(g==k)=true:=beq_iff_eq.mpr h;simp only[xM,a,aM (h.trans b)]
   ·let a:(g==k)=false:=beq_eq_false_iff_ne.mpr h;simp only[xM,a,aK (λe:g=f=>h (e.trans b.symm))]
  ·rw[aK b];by_cases h:g=k
   ·let a:(g==k)=true:=beq_iff_eq.mpr h;simp only[xM,a,aK (λe:g=f=>b (h.symm.trans e))]
   ·let a:(g==k)=false:=beq_eq_false_iff_ne.mpr h;simp only[xM,a];exact d
def Jj(f:Str)(v:V):∀ a:List (Str×V),f∈(Ye f v a).map (·.1)/\∀ g,g∈a.map (·.1)->g∈(Ye f v a).map (·.1)
 | []=>⟨by simp[Ye],λg h=>by simp at h⟩
 | (k,x)::r=>by
  let⟨c,d⟩:=Jj f v r;rw[show Ye f v ((k,x)::r)=(if k=f then (k,v)::r else (k,x)::Ye f v r) from rfl]
  by_cases b:k=f
  ·rw[aM b];subst b;exact⟨by simp,λg h=>by simpa using h⟩
  ·rw[aK b];refine⟨?_,λg h=>?_⟩
   ·rw[yT];exact zI _ c
   ·rw[yT] at h⊢;rcases zC.mp h with e | e
    ·exact zC.mpr (.inl e)
    ·exact zI _ (d g e)
def HG(f:Str)(v:V):∀ a:List (Str×V),(Ye f v a).length<=a.length+1
 | []=>by simp[Ye]
 | (k,x)::r=>by
  let c:=HG f v r;rw[show Ye f v ((k,x)::r)=(if k=f then (k,v)::r else (k,x)::Ye f v r) from rfl]
  by_cases b:k=f
  ·rw[aM b,yV,yV];lia
  ·rw[aK b,yV,yV];lia
def Yj.some_of{v:V}{o:jd}(r:Yj (some v) o):∃ u,o=some u/\ZU v u:=by
 cases o with
 | none=>exact(show False from r).elim
 | some u=>exact⟨u,Z,r⟩
def Yj.none_of{o:jd}(r:Yj none o):o=none:=by
 cases o with
 | none=>rfl
 | some u=>exact(show False from r).elim
def ZJH{v:V}{u:ai}(r:ZU v u):PySem.W.handedIn u=true:=by
 cases v with
 | non=>cases(show u=Value.none from r);rfl
 | bl b=>cases(show u=Value.bool b from r);rfl
 | int i=>let⟨t,e⟩:=(show ∃ t,u=Value.int i t from r);cases e;rfl
 | str x=>let⟨t,e⟩:=(show ∃ t,u=Value.str x t from r);cases e;rfl
 | byt b=>let⟨t,e⟩:=(show ∃ t,u=Value.bytes b t from r);cases e;rfl
 | flt b=>let⟨t,e⟩:=(show ∃ t,u=Value.float b t from r);cases e;rfl
 | ref a=>cases(show u=Value.ref a from r);rfl
 | ty n=>cases(show u=Value.type n from r);rfl
section
variable{P:al}{w:ar}{H H':Hp}{h h':aC}{a C dx:aj}{fs fs':List (Str×V)}
def Mg(c:Yu P w H h)(e:H a=some (.ins C dx fs)):∃ b,Vo h a dx C b/\(∀ f,Yj (fs.lookup f) (b f))/\PySem.Within b (fs.map (·.1))/\fs.length<=1000/\H dx=some (.own a):=by
 let⟨d,z,g,i,b,n,r,q⟩:=(show Zd P w H h a (.ins C dx fs) from c a _ e);exact⟨b,⟨i,n,g⟩,r,q,z,d⟩
end
structure Vb(K:zZ)(C:aj):Prop where
 pg:vS K C Str.empty=true
 hd:wF K C=true
 po:uC K C=true
 sa:zA K (.ref C) "__setattr__" = some (some (.builtin "object.__setattr__"))
def Vb.get{K:zZ}{C:aj}(c:Vb K C)(f:Str):vS K C f=true:=c.pg
def YF(K:zZ)(C:aj)(f:Str):Prop:=zA K (.ref C) f=some none
def YF.taker{K:zZ}{C:aj}{f:Str}(n:YF K C f):rV K C f=some none:=by
 unfold rV;rw[show zA K (.ref C) f=some none from n];rfl
structure Vl(K:zZ)(C:aj)(m:Str)(f:aj):Prop where
 at_:zA K (.ref C) m=some (some (.ref f))
 fn:wW K (.ref f)=true
 kp:yQ K (.ref f)=true
section
variable{ke:js}{σ:St}{H:Hp}{s:ak}{a C dx:aj}{fs:List (Str×V)}{f:Str}{v:V}{A:aw}{E:ja}
def GQ{b:Bool}{Q:ja}(I:ZE X ke σ H s)(e:H a=some (.ins C dx fs))(c:Vb X.K C)(n:YF X.K C f)(l:fs.lookup f=some v)(h:∀ u g,ZE X ke σ H g->ZU v u->Q u g):aA (az X.prog X.w) A (getAttr (.ref a) f b) Q E s:=by
 let⟨j,O,r,_,_,_⟩:=Mg I.hok e;let⟨u,i,d⟩:=Yj.some_of (v:=v) (o:=j f) (by rw[<-l];exact r f)
 exact AG I.kIn O (c.get f) c.hd n i (ZJH d) (h u _ (I.tok _) d)
def Mm{m:Str}{g:aj}{i:Sem Bool}{Q:ai×je->ak->Prop}(I:ZE X ke σ H s)(e:H a=some (.ins C dx fs))(c:Vb X.K C)(k:Vl X.K C m g)(l:fs.lookup m=none)(h:Q (.ref g,[.ref a]) s):aA (az X.prog X.w) A (getMethod (.ref a) m i) Q E s:=by
 let⟨d,O,r,_,_,_⟩:=Mg I.hok e;let b:d m=none:=Yj.none_of (by rw[<-l];exact r m)
 exact ZLH I.kIn O (c.get m) k.at_ k.fn b h
def FL{y:V}{u:ai}{Q:Unit->ak->Prop}(I:ZE X ke σ H s)(e:H a=some (.ins C dx fs))(c:Vb X.K C)(n:YF X.K C f)(J:fs.length<1000)(F:ZU y u)(h:∀ k,ZE X ke σ (upd H a (.ins C dx (Ye f y fs))) k->Q () k):aA (az X.prog X.w) A (setAttr (.ref a) f u) Q E s:=by
 let⟨j,O,r,l,_,i⟩:=Mg I.hok e;let D:(fs.map (·.1)).length<=sizeLine:=by rw[zX,sizeLine_eq];lia
 refine ZNB I.kIn O c.sa c.po n.taker c.hd l D λm d G=>h _ ?_;let t:∃ o,m.get? dx=some o:=let ⟨o,_,_,e',_⟩:=d.ns;⟨o,e'⟩;refine I.write (x:=a) (e:=dx) (by rw[e];exact True.intro) (.inr i) (λb q p z=>(G.2 b p).trans z) t ?_
 refine⟨by rw[ZM O.ne];exact i,?_,O.ne,d.obj,_,d.ns,λg=>?_,λg B=>?_⟩
 ·have:=HG f y fs;lia
 ·show Yj ((Ye f y fs).lookup g) (if g=f then some u else j g)
  rw[GJ];by_cases q:g=f
  ·rw[aM q,aM q];exact F
  ·rw[aK q,aK q];exact r g
 ·by_cases q:g=f
  ·rw[q];exact(Jj f y fs).1
  ·refine(Jj f y fs).2 g (l g λz=>B ?_);show (if g=f then some u else j g)=none
   rw[aK q];exact z
def ZE.made(I:ZE X ke σ H s):ZE X ke σ (upd (upd H s.heap.objs.size (.own (s.heap.objs.size+1))) (s.heap.objs.size+1) (.ins C s.heap.objs.size []))
  { s with heap:=(s.heap.push wY).push (wU C s.heap.objs.size) }:=by
 let c:(s.heap.push wY).get? s.heap.objs.size=some wY:=yS s.heap Z;let h:((s.heap.push wY).push (wU C s.heap.objs.size)).get? (s.heap.objs.size+1)=some (wU C s.heap.objs.size):=by
  have:=yS (s.heap.push wY) (o:=wU C s.heap.objs.size) Z
  rwa [vU] at this
 let i:(s.heap.push wY).Ns s.heap.objs.size (λ_=>none):=⟨wY,#[],_,c,Z,(λe j=>absurd j (by simp)),λ_=>rfl⟩
 let g:=I.laid (a:=s.heap.objs.size) (o:=.own (s.heap.objs.size+1)) (h':=s.heap.push wY) (t':=s.toks) (λb u q=>zP _ q) (zY _) ⟨_,c⟩;refine g.laid (a:=s.heap.objs.size+1) (o:=.ins C s.heap.objs.size []) (t':=s.toks) (λb u q=>zP _ q) (vF (vU _ _)) ?_;let d:s.heap.objs.size≠s.heap.objs.size+1:=zK (xT _);refine⟨by rw[ZM d,ZP],zF _,d,h,λ_=>none,(Heap.Ns1.of_empty i).at λo q=>zP _ q,λ_=>True.intro,λy k=>absurd Z k⟩
def CI{c:al}{w:ar}{b:Env}{e:Expr}{f:Str}{g:aH}{s:ak}{Q:ja}(i:attributeBase e f b (aF e b)=aF e b)(h:aA (az c w) A (aF e b) (λo d=>aA (az c w) A (getAttr o f true) Q E d) E s):aA (az c w) A (aF (.Attribute e f g) b) Q E s:=
 Attribute_any_ h (by rw[arm_eval_Attribute,i])
end
inductive MC(K:zZ)(f:Str)(Q:VK)(x:V)(b:Hp):Prop
 |mk(a C d c v:_)(_:x=.ref a)(_:b a=some (.ins C d c))(_:Vb K C)(_:YF K C f)(_:c.lookup f=some v)(_:Q v b)
def ZQR(K:zZ)(b:TE)(f:Str):TE:=λc H Q=>b c H λx a=>MC K f Q x a
inductive NM(K:zZ)(f:Str)(D:Yc)(e:L2.St)(y x:V)(c:Hp):Prop
 |mk(a C d b:_)(_:x=.ref a)(_:c a=some (.ins C d b))(_:Vb K C)(_:YF K C f)(_:b.length<1000)(_:D.nx e (upd c a (.ins C d (Ye f y b))))
def ZQK(K:zZ)(d e:TE)(f:Str):TS:=λD a H=>e a H λy b=>d a b λx c=>NM K f D a y x c
def IF(X:Cx)(c:Operator)(rd:V->V->Hp->VK->Prop):Prop:=
 ∀(a:js)(s:ak)(b:St)(H:Hp)(x y:V)(u v:ai)(Q:VK),ZE X a b H s->ZU x u->ZU y v->rd x y H Q->aA (az X.prog X.w) X.A (inplaceOp c u v) (EP X a b Q) X.xe s
inductive Uq(K:zZ)(k:TE)(rd:V->V->Hp->VK->Prop)(f:Str)(D:Yc)(h:L2.St)(x:V)(d:Hp):Prop
 |mk(a C j g v:_)(_:x=.ref a)(_:d a=some (.ins C j g))(_:Vb K C)(_:YF K C f)(_:g.lookup f=some v)(_:k h d λy i=>rd v y i λz e=>∃ c b,e a=some (.ins C c b)/\b.length<1000/\D.nx h (upd e a (.ins C c (Ye f z b))))
def ZMx(K:zZ)(c d:TE)(rd:V->V->Hp->VK->Prop)(f:Str):TS:=λD a H=>c a H λx b=>Uq K d rd f D a x b
section
variable{o e value:Expr}{f:Str}{pos pos' tpos:aH}{ta tv:TE}
def Xg(p:PE X e ta)(m:attributeBase e f X.env (aF e X.env)=aF e X.env):PE X (.Attribute e f pos) (ZQR X.K ta f):=by
 intro b s w H Q I h;refine CI m (Zz (p b s w H _ I h) ?_);rintro u A ⟨x,d,g,t,a,C,y,z,v,k,j,c,n,l,q⟩;subst k;obtain rfl:u=Value.ref a:=t;exact GQ g j c n l λD B i r=>⟨v,d,i,r,q⟩
def Ub(r:PE X o ta)(v:PE X value tv)(t:swapsWith value (some (.Attribute o f pos')) pos.line X.env=pure false):PS X (.Assign [.Attribute o f pos'] value pos) (ZQK X.K ta tv f):=by
 intro b s d H D I h;refine plainObj_wpAny_Assign_Attribute (YH (v b s d H _ I h) λu E y g i B q=>Zz (r b E d g _ i q) λw L ⟨x,F,j,A,a,C,G,J,p,m,c,n,l,z⟩=>?_) t;subst p;obtain rfl:w=Value.ref a:=A;exact FL j m c n l B λM k=>⟨d,_,k,z⟩
def MN{j:Operator}{rd:V->V->Hp->VK->Prop}(J:PE X o ta)(L:PE X value tv)(i:IF X j rd):PS X (.AugAssign (.Attribute o f tpos) j value pos) (ZMx X.K ta tv rd f):=by
 intro b s d H D I h;refine wpAny_AugAssign_AttributeAny (Zz (J b s d H _ I h) ?_);rintro N s1 ⟨x,k,p,R,a,C,dx,fs,v,F,E,c,n,l,q⟩;subst F;obtain rfl:N=Value.ref a:=R;refine GQ p E c n l λu U r Q=>YH (L b U d k _ r q) λY W y m t S O=>Zz (i b W d m v y u Y _ t Q S O) ?_;rintro w4 s4 ⟨z,H3,w,T,B,G,g,M,P⟩;exact FL w g c n M T λs5 A=>⟨d,_,A,P⟩
inductive KH(x y:V)(H:Hp)(Q:VK):Prop
 |mk(i j:_)(_:x=.int i)(_:y=.int j)(_:Q (.int (i+j)) H)
inductive Jd(x y:V)(H:Hp)(Q:VK):Prop
 |mk(i j:_)(_:x=.int i)(_:y=.int j)(_:Q (.int (i-j)) H)
def Fj:IF X .Add KH:=by
 rintro a s g H x y u v Q I c d ⟨i,j,rfl,rfl,q⟩;let⟨t,rfl⟩:=(show ∃ t,u=Value.int i t from c);let⟨b,rfl⟩:=(show ∃ b,v=Value.int j b from d);exact PyProof.Rows.iadd_int ⟨.int (i+j),H,I.tok _,⟨_,Z⟩,q⟩
def EC:IF X .Sub Jd:=by
 rintro a s g H x y u v Q I c d ⟨i,j,rfl,rfl,q⟩;let⟨t,rfl⟩:=(show ∃ t,u=Value.int i t from c);let⟨b,rfl⟩:=(show ∃ b,v=Value.int j b from d);exact PyProof.Rows.isub_int ⟨.int (i-j),H,I.tok _,⟨_,Z⟩,q⟩
end
section
variable{ke:js}{σ:St}{H:Hp}{s:ak}{A:aw}{E Q:ja}{c:ai}{b:Bool}
inductive Y6(K:zZ)(H:Hp):V->ai->Prop where
 | non:Y6 K H .non (.type "NoneType")
 | bl (x:Bool):Y6 K H (.bl x) (.type "bool")
 | int (i:Int):Y6 K H (.int i) (.type "int")
 | str (x:Str):Y6 K H (.str x) (.type "str")
 | flt (x:UInt64):Y6 K H (.flt x) (.type "float")
 | lst {a:aj} {xs:jf} (e:H a=some (.lst xs)):Y6 K H (.ref a) (.type "list")
 | frz {a:aj} {o:aG} {xs:jf} (e:H a=some (.frz o (.lst xs))):Y6 K H (.ref a) (.type "list")
 | tup {a:aj} {xs:jf} (e:H a=some (.tup xs)):Y6 K H (.ref a) (.type "tuple")
 | dK {a:aj} {kvs:List (ZR×V)} (e:H a=some (.dK kvs)):Y6 K H (.ref a) (.type "dict")
 | dT {a:aj} {kvs:List (jC×V)} (e:H a=some (.dT kvs)):Y6 K H (.ref a) (.type "dict")
 | ins {a C dx:aj} {fs:List (Str×V)} (e:H a=some (.ins C dx fs)) (cl:Vb K C) (ha:zA K (.ref C) "__class__" = some (some (.builtin "object.__class__")))
   (hn:PySem.W.specialIn K (.builtin "object.__class__") "__get__" = some (some (.builtin "getset_descriptor.__get__"))) (htk:PySem.W.takesIn K (.builtin "object.__class__")=some true)
   (hm:yR K C (.type "object")=some true):Y6 K H (.ref a) (.ref C)
def Co{x:V}{u t:ai}(I:ZE X ke σ H s)(f:ZU x u)(N:Y6 X.K H x t)(e:xX X.K t c=some b)(h:∀ M,Q (.bool b) { s with toks:=M }):
  aA (az X.prog X.w) A (call (.builtin "isinstance") [u,c]) Q E s:=by
 cases N with
 | non=>cases(show u=Value.none from f);exact xL PySem.W.kitx_none I.kIn True.intro e (λz=>nomatch z) h
 | bl y=>cases(show u=Value.bool y from f);exact xL PySem.W.kitx_bool I.kIn True.intro e (λz=>nomatch z) h
 | int i=>let⟨t,q⟩:=(show ∃ t,u=Value.int i t from f);cases q;exact xL PySem.W.kitx_int I.kIn True.intro e (λz=>nomatch z) h
 | str y=>let⟨t,q⟩:=(show ∃ t,u=Value.str y t from f);cases q;exact xL PySem.W.kitx_str I.kIn True.intro e (λz=>nomatch z) h
 | flt y=>let⟨t,q⟩:=(show ∃ t,u=Value.float y t from f);cases q;exact xL PySem.W.kitx_float I.kIn True.intro e (λz=>nomatch z) h
 | @lst a k d=>
  cases(show u=Value.ref a from f);let⟨_,_,n,_,g⟩:=(show Zd X.prog X.w H s.heap a (.lst k) from I.hok a _ d);exact xL PySem.W.kitx_list I.kIn ⟨_,g,Z⟩ e (λz=>nomatch z) h
 | @frz a L k d=>
  cases(show u=Value.ref a from f);let⟨_,_,_,n,_,g⟩:=(show Zd X.prog X.w H s.heap a (.frz L (.lst k)) from I.hok a _ d);exact xL PySem.W.kitx_list I.kIn ⟨_,g,Z⟩ e (λz=>nomatch z) h
 | @tup a k d=>
  cases(show u=Value.ref a from f);let⟨_,_,_,p⟩:=(show Zd X.prog X.w H s.heap a (.tup k) from I.hok a _ d);let⟨o,g,l,_⟩:=p;exact xL PySem.W.kitx_tuple I.kIn ⟨o,g,l⟩ e (λz=>nomatch z) h
 | @dK a j d=>
  cases(show u=Value.ref a from f);let⟨_,_,U,_,p⟩:=(show Zd X.prog X.w H s.heap a (.dK j) from I.hok a _ d);let⟨o,B,v,g,l,_⟩:=p;exact xL PySem.W.kitx_dict I.kIn ⟨o,g,l.1⟩ e (λz=>nomatch z) h
 | @dT a j d=>
  cases(show u=Value.ref a from f);let⟨_,_,k,_,o,B,v,g,l,_⟩:=(show Zd X.prog X.w H s.heap a (.dT j) from I.hok a _ d);exact xL PySem.W.kitx_dict I.kIn ⟨o,g,l.1⟩ e (λz=>nomatch z) h
 | @ins a C P R d r D G m F=>
  cases(show u=Value.ref a from f);let⟨S,O,_⟩:=Mg I.hok d;let⟨T,J,_⟩:=O.look;exact xL (PySem.W.kitx_own (r.get _) r.hd D G m F) I.kIn J e (λz=>nomatch z) h
end
structure ZZ(k:Nat)(A:aw):Prop where
 hd:A.handled=none
 dp:A.depth+3 * k+5<recursionLimit
 un:A.units+16 * k+200<cLine
def ZZ.mono{j k:Nat}{A:aw}(r:ZZ k A)(h:j<=k):ZZ j A:=⟨r.hd,by have:=r.dp;lia,by have:=r.un;lia⟩
def ZZ.to{j:Nat}{A:aw}(r:ZZ j A)(k:Nat)(h:k<=j:=by decide):ZZ k A:=r.mono h
def ZZ.deeper{k:Nat}{A:aw}(r:ZZ (k+1) A)(a:Env):ZZ k (A.deeper a):=
 ⟨r.hd,by have:=r.dp;show A.depth+1+3 * k+5<_;lia,by have:=r.un;show A.units+3+16 * k+200<_;lia⟩
def ZZ.in1{k:Nat}{A:aw}(r:ZZ (k+1) A):ZZ k A.in1:=
 ⟨r.hd,by have:=r.dp;show A.depth+3 * k+5<_;lia,by have:=r.un;show A.units+1+16 * k+200<_;lia⟩
def EX{A:aw}{C:aj}{b:je}{a:jJ}:(A.under (.builtin "type.__call__" ⟨.ref C::b,a⟩)).depth=A.depth+1:=by
 first | rfl | simp[Around.under,Code.weight,Code.isCreation,Code.isGuard,Code.isCaller,Code.frames,Code.isFrame,guardIds]
def ZH1{A:aw}{C:aj}{b:je}{a:jJ}:(A.under (.builtin "type.__call__" ⟨.ref C::b,a⟩)).units=A.units+1:=by
 first | rfl | simp[Around.under,Code.cUnits,Code.frames,Code.isFrame]
def ZZ.make{k:Nat}{A:aw}(r:ZZ (k+1) A)(C:aj)(b:je)(a:jJ):ZZ k (A.under (.builtin "type.__call__" ⟨.ref C::b,a⟩)):=
 ⟨r.hd,by have:=r.dp;rw[EX];lia,by have:=r.un;rw[ZH1];lia⟩
def ZZ.depth{k:Nat}{A:aw}(r:ZZ k A):A.depth<recursionLimit:=by have:=r.dp;lia
def ZZ.units{k:Nat}{A:aw}(r:ZZ k A):A.units+64<cLine:=by have:=r.un;lia
def ZZ.units0{k:Nat}{A:aw}(r:ZZ k A):A.units<cLine:=by have:=r.un;lia
def Uc:TA:=λ_ H Q=>Q [] H
def X1(d:TE)(e:TA):TA:=λa H Q=>d a H λx b=>e a b λf c=>Q (x::f) c
section
variable{e:Expr}{es:jy}{te:TE}{t:TA}{pos:aH}
def Zw:PA X [] Uc:=λ_ _ _ _ H Q I h=>Calls.spliced_nil ⟨[],H,I,.nil,h⟩
def Zh(i:PE X e te)(j:PA X es t)(k:aq (e::es) X.env=(false,aF e X.env)::aq es X.env:=by rfl):PA X (e::es) (X1 te t):=by
 intro pos a s b H Q I h;rw[k];show aA _ _ (spliced ((false,aF e X.env)::aE pos (aq es X.env))) _ _ s;refine Calls.spliced_cons (YH (i a s b H _ I h) λu p x c f n l=>?_);exact YH (j pos a p b c _ f l) λv r q d g o m=>⟨x::q,d,g,.cons n o,m⟩
def AK(t:TA):TE:=λc H Q=>t c H λb a=>b.length<=ap/\∀ p,a p=none->Q (.ref p) (upd a p (.tup b))
def BD(t:TA):TE:=λc H Q=>t c H λb a=>b.length<=ap/\∀ p,a p=none->Q (.ref p) (upd a p (.lst b))
def XB{k}(h:PA X es t):PE X (.Tuple es k pos) (AK t):=by
 intro a s m H Q I i;refine wpAny_Tuple_spliced (Zz (h pos a s m H _ I i) λj c ⟨l,d,f,r,z,q⟩=>⟨by rw[<-r.length];exact z,?_⟩)
 let g:d c.heap.objs.size=none:=f.hok.fresh (zY _);refine⟨.ref c.heap.objs.size,upd d c.heap.objs.size (.tup l),f.laid (t':=c.toks) (λb u e=>zP _ e) (zY _) ?_,Z,q _ g⟩;exact⟨z,j,r,⟨_,yS _ Z,Z,_,Z⟩⟩
def XH(h:PA X es t):PE X (.List es pos) (BD t):=by
 intro a s l H Q I i;refine wpAny_List_spliced (Zz (h pos a s l H _ I i) λj c ⟨k,d,f,r,z,q⟩=>⟨by rw[<-r.length];exact z,?_⟩)
 let g:d c.heap.objs.size=none:=f.hok.fresh (zY _);refine⟨.ref c.heap.objs.size,upd d c.heap.objs.size (.lst k),f.laid (t':=c.toks) (λb u e=>zP _ e) (zY _) ?_,Z,q _ g⟩;exact⟨z,j,0,r,yS _ Z⟩
end
abbrev Sp:=jf->Hp->VK->XK->Prop
abbrev Wn:=jB->Hp->ak->XK->ja
structure Vt(P:al)(w:ar)(K:zZ)(mg:jb)(kf:aC)(A:aw)(outer:jB)(s:ak)(H:Hp):Prop where
 frames:A.frames=some outer
 mod:Mod K mg kf
 bs:∀ b o,kf.get? b=some o->s.heap.get? b=some o/\H b=none
 bsz:kf.objs.size<=s.heap.objs.size
 funs:s.heap.FunFrames kf outer
 frf:∀ b∈frs outer,H b=none
 hok:Yu P w H s.heap
 bare:AllBare s.gens
def CE(a:jB)(P:al)(w:ar)(H:Hp)(s:ak)(Q:VK)(u:ai)(b:ak):Prop:=
 ∃ v c,b.os=s.os/\AllBare b.gens/\Un (frs a) [] H c s.heap b.heap/\Yu P w c b.heap/\ZU v u/\Q v c
def CR(c:Wn)(a:jB)(P:al)(w:ar)(H:Hp)(s:ak)(Q:VK)(E:XK)(r:Result)(b:ak):Prop:=
 match r with
 | .ok (.ret u)=>CE a P w H s Q u b
 | .ok _=>False
 | .error e=>c a H s E e b
structure ZN(P:al)(w:ar)(K:zZ)(mg:jb)(kf:aC)(CX:Wn)(k:Nat)(f:aj)(fd:am)(ps:jr)(sp:Sp):Prop where
 len:∀ vs H Q E,sp vs H Q E->vs.length=ps.length
 run:∀(A:aw)(outer:jB)(s:ak)(H:Hp)(args:Args)(us:je)(vs:jf)(Q:VK)(E:XK),ZZ k A->Vt P w K mg kf A outer s H->BindsTo s fd args (ps.zip us)->ZT vs us->sp vs H Q E ->
  codeAny (az P w) A (.call (.ref f) args) (CR CX outer P w H s Q E) s
def ZN.imp{P:al}{w:ar}{K:zZ}{i:jb}{a:aC}{e:Wn}{k:Nat}{f:aj}{g:am}{j:jr}{l d:Sp}(F:ZN P w K i a e k f g j l)(h:∀ c H Q E,d c H Q E->l c H Q E):ZN P w K i a e k f g j d:=
 ⟨λc H Q E q=>F.len c H Q E (h _ _ _ _ q),λA b s H args t c Q E o n m r p=>F.run A b s H args t c Q E o n m r (h _ _ _ _ p)⟩
def Vt.make{P:al}{w:ar}{K:zZ}{c:jb}{b:aC}{A:aw}{a:jB}{s:ak}{H:Hp}(e:Vt P w K c b A a s H)(C:aj)(f:je)(d:jJ):
  Vt P w K c b (A.under (.builtin "type.__call__" ⟨.ref C::f,d⟩)) a s H:=⟨by first | exact e.frames | (simpa [Around.under,Code.envs,Code.isFrame,pushEnvs] using e.frames),e.mod,e.bs,e.bsz,e.funs,e.frf,e.hok,e.bare⟩
section
variable{ke:js}{σ:St}{H:Hp}{s s':ak}
def ZE.env0(I:ZE X ke σ H s):Vt X.prog X.w X.K X.mg X.base X.A X.stack s H:=
 ⟨I.ok.frames,I.ok.mod,I.bs,zL I.ok.bsz I.sz,I.stack,I.stkFree,I.hok,I.bare⟩
def ZE.after{Q:VK}{u:ai}(I:ZE X ke σ H s)(h:CE X.stack X.prog X.w H s Q u s'):EP X ke σ Q u s':=by
 let⟨v,f,j,a,k,c,r,q⟩:=h;let⟨i,g,d,t,e⟩:=s';obtain rfl:e=s.os:=j;exact⟨v,f,I.call (h':=i) (g':=g) (d':=d) (t':=t) (ch:=[]) k c a (λb z=>absurd z (by simp)),r,q⟩
end
def KK(c:Sp)(a:jf)(E:XK)(t:TA):TE:=λe H Q=>t e H λd b=>c (d++a) b Q E
inductive P5(C:aj)(m:Str)(g:Sp)(b:jf)(E:XK)(t:TA)(i:L2.St)(Q:VK)(x:V)(c:Hp):Prop
 |mk(a f d:_)(_:x=.ref a)(_:c a=some (.ins C f d))(_:d.lookup m=none)(_:t i c λh e=>g (x::(h++b)) e Q E)
def Mb(C:aj)(m:Str)(d:Sp)(a:jf)(E:XK)(e:TE)(t:TA):TE:=λb H Q=>e b H λx c=>P5 C m d a E t b Q x c
def MV(C:aj)(e:Sp)(c:jf)(E:XK)(t:TA):TE:=λg H Q=>t g H λf b=>∀ x a,b x=none->b a=none->a≠x ->
 e (.ref x::(f++c)) (upd (upd b a (.own x)) x (.ins C a [])) (λv d=>v=.non/\Q (.ref x) d) E
def Z7(K:zZ)(d:am)(c:jr)(b:je):Prop:=
 ∀(s:ak)(a:je),K.In s.heap->(a++b).length=c.length->BindsTo s d ⟨a,[]⟩ (c.zip (a++b))
def Z7.all{K:zZ}{c:am}{b:jr}(h:∀ a:je,a.length=b.length->bindArgs c ⟨a,[]⟩=pure (b.zip a)):Z7 K c b []:=λs a _ d=>by
 rw[vH] at d⊢;exact .of_eq (h a d)
def VH(c:Wn)(X:Cx)(E:XK):Prop:=∀(a:js)(d:St)(H:Hp)(s:ak)(e:ai)(b:ak),ZE X a d H s->c X.stack H s E e b->X.xe e b
section
variable{CX:Wn}{k:Nat}{f C:aj}{fd:am}{ps:jr}{sp:Sp}{jk:jf}{ds:je}{E:XK}{x m:Str}{p pos ji:aH}{e o:Expr}{es:jy}{ta:TE}{t:TA}
def Lo{a:js}{c:St}{H:Hp}{s:ak}{Q:VK}{us:je}{vs:jf}(F:ZN X.prog X.w X.K X.mg X.base CX k f fd ps sp)(n:ZZ k X.A)(i:Z7 X.K fd ps ds)(j:ZT jk ds)(q:VH CX X E)(I:ZE X a c H s)(r:ZT vs us)(h:sp (vs++jk) H Q E):aA (az X.prog X.w) X.A (call (.ref f) us) (EP X a c Q) X.xe s:=by
 let d:ZT (vs++jk) (us++ds):=r.append j;let l:(us++ds).length=ps.length:=by rw[<-d.length];exact F.len _ _ _ _ h
 refine wpAny_call (codeAny_mono (F.run X.A X.stack s H ⟨us,[]⟩ (us++ds) (vs++jk) Q E n I.env0 (i s us I.kIn l) d h) λr v b=>?_)
 cases r with
 | error e=>exact q a c H s e v I b
 | ok g=>
  cases g with
  | ret u=>exact I.after b
  | next=>exact False.elim b
  | brk=>exact False.elim b
  | cont=>exact False.elim b
def GB(F:ZN X.prog X.w X.K X.mg X.base CX k f fd ps sp)(y:ZZ k X.A)(n:Gl X x)(v:X.mg x=some (.ref f))(u:yQ X.K (.ref f)=true)(i:Z7 X.K fd ps ds)(j:ZT jk ds)(z:VH CX X E)(g:PA X (e::es) t)(b:(x==("__debug__" : Str))=false:=by decide)(l:aq (e::es) X.env=(false,aF e X.env)::aq es X.env:=by rfl)(c:(aE pos (aq es X.env)).any (·.1)=false:=by rfl):
  PE X (.Call (.Name x p) (e::es) [] pos) (KK sp jk E t):=by
 intro a s B H Q I h;refine ag (Ql I n v ?_ b);refine vM (h₀:=X.base) I.ok.mod.kin u (YH (g pos a s B H _ I h) λJ G L D d r q=>⟨d.kIn,?_⟩) l c;exact Lo F y i j z d r q
def E9{v:Sem Bool}(M:PE X o ta)(c:Vb X.K C)(n:Vl X.K C m f)(F:ZN X.prog X.w X.K X.mg X.base CX k f fd ps sp)(N:ZZ k X.A)(J:Z7 X.K fd ps ds)(L:ZT jk ds)(P:VH CX X E)(G:PA X (e::es) t)(g:aq (e::es) X.env=(false,aF e X.env)::aq es X.env:=by rfl)(d:(aE pos (aq es X.env)).any (·.1)=false:=by rfl)(O:aF (.Call (.Attribute o m ji) (e::es) [] pos) X.env=(do
   let ov<-aF o X.env
   standAt ji.atName
   let (f,first)<-holding [ov] (getMethod ov m v)
   callWith pos f first (aE pos (aq (e::es) X.env)) (backToKw pos (keywordEach [] X.env))):=by rfl):
  PE X (.Call (.Attribute o m ji) (e::es) [] pos) (Mb C m sp jk E ta t):=by
 intro b s y H Q I h;refine tP (pl:=v) (Zz (M b s y H _ I h) λu T ⟨x,z,i,S,a,dx,fs,D,B,l,q⟩=>?_) O;subst D;obtain rfl:u=Value.ref a:=S;refine Mm i B c n l ?_;refine vM (first:=[.ref a]) (h₀:=X.base) I.ok.mod.kin n.kp (YH (G pos b T y z _ i q) λU s2 V Y j r R=>⟨j.kIn,?_⟩) g d
 exact Lo (us:=.ref a::U) (vs:=.ref a::V) F N J L P j (.cons rfl r) R
def B7{i:Sem Bool}(y:PE X o ta)(c:Vb X.K C)(g:Vl X.K C m f)(F:ZN X.prog X.w X.K X.mg X.base CX k f fd ps sp)(z:ZZ k X.A)(r:Z7 X.K fd ps ds)(v:ZT jk ds)(D:VH CX X E)(B:aF (.Call (.Attribute o m ji) [] [] pos) X.env=(do
   let ov<-aF o X.env
   standAt ji.atName
   let (f,first)<-holding [ov] (getMethod ov m i)
   callWith pos f first (aE pos (aq [] X.env)) (backToKw pos (keywordEach [] X.env))):=by rfl):
  PE X (.Call (.Attribute o m ji) [] [] pos) (Mb C m sp jk E ta Uc):=by
 intro b s J H Q I h;refine tP (pl:=i) (Zz (y b s J H _ I h) λu O ⟨x,L,d,G,a,M,N,n,j,l,q⟩=>?_) B;subst n;obtain rfl:u=Value.ref a:=G;refine Mm d j c g l ?_;exact tX (first:=[.ref a]) d.kIn g.kp (Lo (us:=[.ref a]) (vs:=[.ref a]) F z r v D d (.cons rfl .nil) q)
structure Mk(K:zZ)(C f:aj):Prop where
 makes:uI K C=true
 init:zA K (.ref C) "__init__" = some (some (.ref f))
 fn:wW K (.ref f)=true
 kp:yQ K (.ref C)=true
def EK{b:js}{i:St}{H:Hp}{s:ak}{Q:VK}{us:je}{g:jf}(M:Mk X.K C f)(F:ZN X.prog X.w X.K X.mg X.base CX k f fd ps sp)(L:ZZ (k+1) X.A)(D:Z7 X.K fd ps ds)(G:ZT jk ds)(N:VH CX X E)(I:ZE X b i H s)(r:ZT g us)(h:∀ x d,H x=none->H d=none->d≠x->sp (.ref x::(g++jk)) (upd (upd H d (.own x)) x (.ins C d [])) (λv q=>v=.non/\Q (.ref x) q) E):
  aA (az X.prog X.w) X.A (call (.ref C) us) (EP X b i Q) X.xe s:=by
 let j:=h (s.heap.objs.size+1) s.heap.objs.size (I.hok.fresh (yB _)) (I.hok.fresh (zY _)) (zK (xT _));let c:=ZE.made (C:=C) I;let l:ZT (V.ref (s.heap.objs.size+1)::(g++jk)) (Value.ref (s.heap.objs.size+1)::(us++ds)):=.cons Z (r.append G);let J:(Value.ref (s.heap.objs.size+1)::us++ds).length=ps.length:=by
  let e:=l.length;rw[F.len _ _ _ _ j] at e;exact e.symm
 refine wpAny_call (ZKh (f:=f) I.kIn M.makes M.init (beq_iff_eq.mp M.fn) (codeAny_mono (F.run _ X.stack _ _ ⟨Value.ref (s.heap.objs.size+1)::us,[]⟩ (Value.ref (s.heap.objs.size+1)::(us++ds)) _ _ E (L.make C us [])
  (c.env0.make C us []) (D _ (Value.ref (s.heap.objs.size+1)::us) c.kIn J) l j) λr R a=>?_))
 cases r with
 | error e=>exact N b i _ _ e R c a
 | ok B=>
  cases B with
  | ret u=>
   let⟨v,n,y,P,z,O⟩:=c.after a;subst z;exact⟨P,⟨V.ref (s.heap.objs.size+1),n,y,Z,O⟩⟩
  | next=>exact False.elim a
  | brk=>exact False.elim a
  | cont=>exact False.elim a
def EU(M:Mk X.K C f)(F:ZN X.prog X.w X.K X.mg X.base CX k f fd ps sp)(v:ZZ (k+1) X.A)(n:Gl X x)(u:X.mg x=some (.ref C))(i:Z7 X.K fd ps ds)(j:ZT jk ds)(y:VH CX X E)(g:PA X (e::es) t)(b:(x==("__debug__" : Str))=false:=by decide)(l:aq (e::es) X.env=(false,aF e X.env)::aq es X.env:=by rfl)(c:(aE pos (aq es X.env)).any (·.1)=false:=by rfl):
  PE X (.Call (.Name x p) (e::es) [] pos) (MV C sp jk E t):=by
 intro a s z H Q I h;refine ag (Ql I n u ?_ b);refine vM (h₀:=X.base) I.ok.mod.kin M.kp (YH (g pos a s z H _ I h) λG D J B d r q=>⟨d.kIn,?_⟩) l c;exact EK M F v i j y d r q
def ZKi(M:Mk X.K C f)(F:ZN X.prog X.w X.K X.mg X.base CX k f fd ps sp)(j:ZZ (k+1) X.A)(g:Gl X x)(i:X.mg x=some (.ref C))(c:Z7 X.K fd ps ds)(d:ZT jk ds)(l:VH CX X E)(a:(x==("__debug__" : Str))=false:=by decide):PE X (.Call (.Name x p) [] [] pos) (MV C sp jk E Uc):=by
 intro b s n H Q I h;refine ag (Ql I g i ?_ a);exact tX I.kIn M.kp (EK (us:=[]) M F j c d l I .nil h)
end
def PK(X:Cx)(b:List Keyword)(t:TA):Prop:=
 ∀(c:aH)(a:js)(s:ak)(d:St)(H:Hp)(Q:jf->Hp->Prop),ZE X a d H s->t d H Q->aA (az X.prog X.w) X.A (evalAll ((backToKw c (keywordEach b X.env)).map (·.2))) (AP X a d Q) X.xe s
section
variable{CX:Wn}{k:Nat}{f C:aj}{fd:am}{ps ks:jr}{sp:Sp}{E:XK}{x m:Str}{p pos ji kpos:aH}{e o:Expr}{es:jy}{kws:List Keyword}{te ta:TE}{t tk:TA}{nm:Option Str}
def ZOF:PK X [] Uc:=λ_ _ _ _ H Q I h=>wpAny_evalAll_nil ⟨[],H,I,.nil,h⟩
def Da(j:PE X e te)(l:PK X kws t):PK X (⟨nm,e,kpos⟩::kws) (X1 te t):=by
 intro pos a s b H Q I h;show aA _ _ (evalAll ((do let v<-aF e X.env;standAt pos;pure v)::(backToKw pos (keywordEach kws X.env)).map (·.2))) _ _ s
 refine wpAny_evalAll_cons (aa (YH (j a s b H _ I h) λu y x c g r n=>aa (ah (ad ?_))));exact YH (l pos a y b c _ g n) λB A z d i w q=>⟨x::z,d,i,.cons r w,q⟩
variable{g:je->je->je}{gV:jf->jf->jf}
end
structure ZB(N P:jr)(sc:aD):Prop where
 kind:sc.kind=.function
 co:sc.isCoroutine=false
 gen:sc.isGenerator=false
 nd:N.Nodup
 pre:N.take P.length=P
 par:∀ x∈P,sc.names.lookup x=some .local\/sc.names.lookup x=some .cell
 nofree:∀ y∈sc.names,y.2≠.free
def Z4{N P:jr}{a:aD}(b:a.kind=.function:=by rfl)(c:a.isCoroutine=false:=by rfl)(d:a.isGenerator=false:=by rfl)(e:N.Nodup:=by decide +kernel)(f:N.take P.length=P:=by rfl)(g:∀ x∈P,a.names.lookup x=some .local\/a.names.lookup x=some .cell:=by decide +kernel)(h:∀ y∈a.names,y.2≠.free:=by decide +kernel):ZB N P a:=⟨b,c,d,e,f,g,h⟩
def FE{kindOf:Str->Option NameKind}{x:Str}:∀{a:jJ}{m:jb},(∀ v,(x,v)∉a)->bindL kindOf a m x=m x
 | [],_,_=>rfl
 | (n,v)::r,m,h=>by
  unfold bindL;rw[FE λw b=>h w (zI _ b)];split
  ·have:x≠n:=by rintro rfl;exact h v zT
   simp[this]
  ·rfl
def FR{kindOf:Str->Option NameKind}{x:Str}:∀{a:jJ}{m:jb},(∀ v,(x,v)∉a)->bindC kindOf a m x=m x
 | [],_,_=>rfl
 | (n,v)::r,m,h=>by
  unfold bindC;rw[FR λw b=>h w (zI _ b)];split
  ·rfl
  ·have:x≠n:=by rintro rfl;exact h v zT
   simp[this]
def FZ{kindOf:Str->Option NameKind}{x:Str}{v:ai}:∀{P:jr}{a:je}{i:Nat}{m:jb},P.Nodup->P[i]? = some x->a[i]? = some v->kindOf x=some .local ->
  bindL kindOf (P.zip a) m x=some v
 | [],_,_,_,_,h,_,_=>by simp at h
 | _::_,[],_,_,_,_,h,_=>by simp at h
 | p::P,w::a,0,m,nd,h1,h2,hk=>by
  simp at h1 h2;subst h1;subst h2;show bindL kindOf ((p,w)::P.zip a) m p=_;unfold bindL;rw[FE λv b=>(xR.mp nd).1 (sX b).1,aM hk];simp
 | p::P,w::a,i+1,m,nd,h1,h2,hk=>by
  show bindL kindOf ((p,w)::P.zip a) m x=_;unfold bindL;exact FZ (i:=i) (xR.mp nd).2 (by simpa using h1) (by simpa using h2) hk
def EA{kindOf:Str->Option NameKind}{x:Str}{v:ai}:∀{P:jr}{a:je}{i:Nat}{m:jb},P.Nodup->P[i]? = some x->a[i]? = some v->kindOf x≠some .local ->
  bindC kindOf (P.zip a) m x=some v
 | [],_,_,_,_,h,_,_=>by simp at h
 | _::_,[],_,_,_,_,h,_=>by simp at h
 | p::P,w::a,0,m,nd,h1,h2,hk=>by
  simp at h1 h2;subst h1;subst h2;show bindC kindOf ((p,w)::P.zip a) m p=_;unfold bindC;rw[FR λv b=>(xR.mp nd).1 (sX b).1,aK hk];simp
 | p::P,w::a,i+1,m,nd,h1,h2,hk=>by
  show bindC kindOf ((p,w)::P.zip a) m x=_;unfold bindC;exact EA (i:=i) (xR.mp nd).2 (by simpa using h1) (by simpa using h2) hk
def start(N:jr)(a:jf):St:=a.map some++vY (N.length-a.length) none
def WW(CX:Wn)(P:al)(w:ar)(K:zZ)(mg:jb)(kf:aC)(N:jr)(qual:Str)(scope:aD)(f:aj)(cd:ai)(A:aw)(outer:jB)(s:ak)(H:Hp)(E:XK):Cx where
 prog:=P
 w:=w
 K:=K
 mg:=mg
 base:=kf
 A:=A.deeper (envOfC qual scope s.heap.objs.size f cd)
 N:=N
 s₀:=s
 H₀:=H
 env:=envOfC qual scope s.heap.objs.size f cd
 outer:=outer
 stack:=envOfC qual scope s.heap.objs.size f cd::outer
 ex:=[]
 calm:=true
 fn:=λ_=>true
 pn:=[]
 xe:=λe s'=>aA (az P w) (A.deeper (envOfC qual scope s.heap.objs.size f cd)) (leaving (envOfC qual scope s.heap.objs.size f cd) e) (λ_ s''=>CX outer H s E e s'') (λe' s''=>CX outer H s E e' s'') s'
def HY{a:aD}{n:Nat}{x:Str}(h:a.names.lookup x=some .cell):∃ c,(cellsFrom n a.names []).lookup x=some c:=by
 let q:=qZ a.names n [] (.inl h);exact rZ.mp q
def Bb{Q:Wn}{P:al}{w:ar}{K:zZ}{M:jb}{m:aC}{N C:jr}{j:Str}{d:aD}{f:aj}{I:ai}{A:aw}{g:jB}{s U:ak}{H:Hp}{E:XK}{O:je}{D:jf}(S:ZB N C d)(Y:A.handled=none)(o:Vt P w K M m A g s H)(hl:D.length=C.length)(r:ZT D O)(x:InCallC s s.heap.objs.size (bindL (envOfC j d s.heap.objs.size f I).kindOf (C.zip O) λ_=>none) (cellsFrom (s.heap.objs.size+1) d.names []) (bindC (envOfC j d s.heap.objs.size f I).kindOf (C.zip O) λ_=>none) U):
  ZE (WW Q P w K M m N j d f I A g s H E) [] (start N D) H U:=by
 let a0:C.length<=N.length:=by have:=congrArg yD S.pre;rw[sQ] at this;lia
 let⟨J,tk,rfl,R⟩:=x.done;let B:∀ b:aj,b∉(WW Q P w K M m N j d f I A g s H E).ex:=λb z=>absurd (show b∈([]:jw) from z) (by simp)
 refine⟨⟨o.mod,S.kind,Z,Z,zY _,λy z c J l=>?_,λy t=>?_,λy c _ h=>?_,λ_=>Y,Around.frames_deeper o.frames,.inr ⟨Z,Z⟩,λb z=>absurd z (B b),o.bs,o.bsz,λb _ _=>B b,λb z=>absurd z (B b),o.funs,o.frf⟩,
  Z,o.bare,Un.kept R,⟨_,x.toInCall.ns,λi y v J l h3=>?_⟩,λy c h=>⟨_,x.cell y c h⟩,o.hok.fresh (zY _),λy c h=>?_,λp F=>absurd (show p∈([]:js) from F) (by simp),o.hok.kept R,?_⟩
 ·exact name_of_addr x.apart (PySem.mem_of_lookup J) (PySem.mem_of_lookup l)
 ·let t:d.names.lookup y=some .cell\/d.names.lookup y=some .free:=t;rcases t with t | t
  ·exact HY t
  ·exact absurd Z (S.nofree _ (PySem.mem_of_lookup t))
 ·exact xV (x.above y c (PySem.mem_of_lookup h))
 ·let L:i<D.length:=by
   unfold start at l;by_cases L:i<D.length
   ·exact L
   ·rw[wM (by simpa using L)] at l
    rw[List.getElem?_replicate] at l;split at l <;> cases l
  let X:D[i]? = some v:=by
   unfold start at l;rw[wO (by simpa using L),zS] at l
   cases e:D[i]? with
   | none=>rw[e] at l;cases l
   | some a=>rw[e] at l;cases l;rfl
  let⟨u,T,rv⟩:=r.get X;let F:C[i]? = some y:=by
   rw[<-S.pre,List.getElem?_take_of_lt ∅];exact J
  let G:C.Nodup:=by rw[<-S.pre];exact S.nd.sublist (rR _ _)
  exists u,rv;rcases S.par y (zG F) with k | k
  ·exact .inl ⟨k,FZ G F T k⟩
  ·let⟨c,e⟩:=HY (n:=s.heap.objs.size+1) k;refine .inr ⟨.inl k,c,e,?_⟩;let q:=x.cell y c e;rw[EA G F T (by show d.names.lookup y≠_;rw[k];decide)] at q
   exact q
 ·exact o.hok.fresh (xV (x.above y c (PySem.mem_of_lookup h)))
 ·unfold start;show _=N.length;rw[zH,zX,List.length_replicate]
  lia
def Gq{R:Wn}{P:al}{w:ar}{K:zZ}{T:jb}{h:aC}{k:Nat}{f:aj}{z d:Str}{i:Arguments}{j:jK}{a:aD}{dV kV F pm g ct oc:ai}{an od:jx}{a1:Array (jd)}{N U:jr}{sp:Sp}(lk:K.lookup f=some ⟨oc,od,.func (yA z d i j a dV kV F pm an g ct),a1⟩)(X:xE K g d=true)(S:ZB N U a)(O:∀ l H Q E,sp l H Q E->l.length=U.length)(B:∀ (A:aw) (c:jB) (s:ak) (H:Hp) (l:jf) (Q:VK) (E:XK),ZZ k (A.deeper (envOfC d a s.heap.objs.size f g))->sp l H Q E ->
   ∃ t,X4 (WW R P w K T h N d a f g A c s H E) j t/\t { nx:=λ_ p=>Q .non p,rt:=Q } (start N l) H):
  ZN P w K T h R (k+1) f (yA z d i j a dV kV F pm an g ct) U sp:=by
 exists O;intro A c s H args us l Q E Y G hb r M;let hl:=O _ _ _ _ M;let KX:K.In s.heap:=G.mod.kin.keeps λb o e=>(G.bs b o e).1;let a0:s.heap.NoLimit:=G.mod.nolimit.keeps λb o e=>(G.bs b o e).1;let C:∀ y∈U.zip us,a.names.lookup y.1=some .local\/(a.names.lookup y.1=some .cell/\((cellsFrom (s.heap.objs.size+1) a.names []).lookup y.1).isSome=true):=λ⟨n,v⟩ hy=>by
  rcases S.par n (sX hy).1 with q | q
  ·exact .inl q
  ·exact .inr ⟨q,qZ _ _ _ (.inl q)⟩
 refine codeAny_call_function Y.depth (KX _ _ lk) Z S.co S.gen Z (PySem.W.codeRec_of KX X) (hb _ _ _ _ ?_);refine wpAny_newFunctionEnv_cells S.kind C λa2 he s1 x=>?_;subst he;refine⟨a0.keeps x.toInCall.keep,codeAny_func ?_⟩;let⟨t,ht,hq⟩:=B A c s H l Q E (Y.deeper _) M;let I:ZE (WW R P w K T h N d a f g A c s H E) [] (start N l) H s1:=Bb S Y.hd G hl r x;refine ae (ht [] s1 (start N l) H _ I hq) (λfl s' D=>?_) λe s' D=>D;let L:∀{m:St}{p:Hp}{v:V}{u:ai},ZE (WW R P w K T h N d a f g A c s H E) [] m p s'->ZU v u->Q v p->CE c P w H s Q u s':=
  fun{m p v u} J rv q=>⟨v,p,J.os,J.bare,J.base,J.hok,rv,q⟩
 cases fl with
 | ret u=>
  let⟨v,m,p,J,rv,q⟩:=D;exact L J rv q
 | next=>
  let⟨m,p,J,q⟩:=D;exact L (v:=V.non) (u:=Value.none) J Z q
 | brk=>
  let⟨_,_,_,q⟩:=D;exact False.elim q
 | cont=>
  let⟨_,_,_,q⟩:=D;exact False.elim q
section
variable{x:Str}{p pos:aH}{e:Expr}{es:jy}{t:TA}{id T:String}{r:jf->Hp->VK->Prop}
def EM(r:jf->Hp->VK->Prop)(t:TA):TE:=λc H Q=>t c H λb a=>r b a Q
def Zy(j:VL X (.builtin id) r)(l:Gl X x)(m:X.mg x=none)(o:ax x=some (.builtin id))(i:PA X (e::es) t)(n:x ≠ "__name__" :=by decide)(b:(x==("__debug__" : Str))=false:=by decide)(k:aq (e::es) X.env=(false,aF e X.env)::aq es X.env:=by rfl)(c:(aE pos (aq es X.env)).any (·.1)=false:=by rfl):PE X (.Call (.Name x p) (e::es) [] pos) (EM r t):=by
 intro a s d H Q I h;refine ag (Pm I l m o ?_ n b);exact PyProof.Rows.callWith_builtin1 (YH (i pos a s d H _ I h) λw v y f g u q=>j a v d f y w Q g u q) k c
def WQ(j:VL X (.type T) r)(l:Gl X x)(m:X.mg x=none)(o:ax x=some (.type T))(i:PA X (e::es) t)(n:x ≠ "__name__" :=by decide)(b:(x==("__debug__" : Str))=false:=by decide)(k:aq (e::es) X.env=(false,aF e X.env)::aq es X.env:=by rfl)(c:(aE pos (aq es X.env)).any (·.1)=false:=by rfl):PE X (.Call (.Name x p) (e::es) [] pos) (EM r t):=by
 intro a s d H Q I h;refine ag (Pm I l m o ?_ n b);exact PyProof.Rows.callWith_type1 (YH (i pos a s d H _ I h) λw v y f g u q=>j a v d f y w Q g u q) k c
end
end L2
variable{X:L2.Cx}{prog P:al}{w:ar}{A:aw}{E:ja}{s:ak}{K:zZ}{mg:jb}{f:aj}{fd:am}{kf:aC}
namespace HT
open PySem PyProof.Rows
def rcLt_int(A:aw)(s:ak)(a:Int)(t:Tok)(c:Int)(u:Tok)(b:al)(w:ar)(E Q:ja)(h:Q (.bool (decide (a<c))) s):
  aA (az b w) A (richCompare .Lt (.int a t) (.int c u)) Q E s:=
 (PyProof.Rows.lt_int h:aA (az b w) A (ay .Lt (.int a t) (.int c u)) Q E s)
section
open PySem.SeqAt
open PySem.AutoSeq1 (wpAny_loadPart')
open PySem.MeetsSeq PySem.MeetsSeq2 PySem.MeetsSeq3
end
def cat_tup{t b:aj}{d a:je}{Q:ja}(C:IsTup s.heap t d.toArray)(B:IsTup s.heap b a.toArray)(u:d≠[])(y:a=[]->Q (.ref t) s)(z:a≠[]->Q (.ref s.heap.objs.size) { s with heap:=s.heap.push { cls:=.type "tuple",data:=.seq (d++a).toArray } })(m:d.length+a.length<=ap):aA (az prog w) A (binaryOp .Add (.ref t) (.ref b)) Q E s:=by
 let⟨⟨cls,p,data,x⟩,j,q,n,r⟩:=id C;let⟨⟨o,f,l,i⟩,c,g,v,h⟩:=id B;simp only at q r g h;subst q r g h;let e:d.toArray++a.toArray=(d++a).toArray:=by simp
 by_cases k:a=[]
 ·exact concat_meets ⟨_,j,Z⟩ ⟨_,c,Z⟩ noFill_tuple_add seq_tuple_add rA qU (qJ _ _)
   (tuple_addW1 t b d.toArray a.toArray n v p f x i (by simpa using u) (by simp[k])) ⟨j,c,y k⟩
 ·refine concat_meets ⟨_,j,Z⟩ ⟨_,c,Z⟩ noFill_tuple_add seq_tuple_add rA qU (qJ _ _)
   (tuple_addW2 t b d.toArray a.toArray n v p f x i (by simpa using u) (by simpa using k) (by rw[zQ,zQ];exact m)) ⟨j,c,?_⟩
  rw[e];exact z k
def sIx(n d:Nat):jF->Nat
 | none=>d
 | some v=>if v<0 then (v+(n:Int)).toNat else min v.toNat n
end HT
namespace L2
open PySem PySem.Spec PyProof.Rows
abbrev TO:=St->Hp->(jF->Hp->Prop)->Prop
def PO(X:Cx)(e:jP)(t:TO):Prop:=
 ∀(a:js)(s:ak)(b:St)(H:Hp)(Q:jF->Hp->Prop),ZE X a b H s->t b H Q ->
  aA (az X.prog X.w) X.A (evalPart e X.env) (λu d=>∃ o c,ZE X a b c d/\IsPart u o/\Q o c) X.xe s
def Do:TO:=λ_ H Q=>Q none H
inductive P3(Q:jF->Hp->Prop)(x:V)(a:Hp):Prop
 |mk(i:_)(_:x=.int i)(_:Q (some i) a)
def ZP0(t:TE):TO:=λb H Q=>t b H λx a=>P3 Q x a
def JA{a:jA}:∀{b:je},ZT (a.map V.int) b->IntsAre b a:=by
 induction a with
 | nil=>intro b r;rw[wI] at r;cases r;exact .nil
 | cons n a c=>
  intro b r;rw[yT] at r
  cases r with
  | cons d f=>
   let⟨t,e⟩:=d;subst e;exact .cons n t (c f)
section
variable{e:Expr}{te:TE}{lo hi:jP}{tl th:TO}{pos p2:aH}
def Iv:PO X none Do:=by
 intro a s b H Q I h;rw[evalPart_none];exact ad ⟨none,H,I,.none,h⟩
def FY(h:PE X e te):PO X (some e) (ZP0 te):=by
 intro a s j H Q I d;rw[evalPart_some];refine YH (h a s j H _ I d) λu k x b c g f=>?_;let⟨i,rfl,q⟩:=f;let⟨t,rfl⟩:=g;exact⟨some i,b,c,.int i t,q⟩
def GZ(X:Cx)(r:V->jF->jF->Hp->VK->Prop):Prop:=
 ∀(a:js)(s:ak)(f:St)(H:Hp)(x:V)(v c d:ai)(lo hi:jF)(b:aj)(Q:VK),ZE X a f H s->ZU x v->s.heap.IsSliceOf b c d .none->IsPart c lo->IsPart d hi->r x lo hi H Q ->
  ∃ T id,typeLookup (.type T) "__getitem__" = pure (some (.builtin id))/\s.TypeIs v T/\aA (az X.prog X.w) X.A (getItem v (.ref b)) (EP X a f Q) X.xe s
def An(r:V->jF->jF->Hp->VK->Prop)(te:TE)(tl th:TO):TE:=λa H Q=>te a H λx b=>tl a b λl c=>th a c λu d=>r x l u d Q
def Ha{r:V->jF->jF->Hp->VK->Prop}(C:GZ X r)(y:PE X e te)(B:PO X lo tl)(E:PO X hi th):PE X (.Subscript e (.Slice lo hi none p2) pos) (An r te tl th):=by
 intro a s d H Q I h;refine Subscript_ (YH (y a s d H _ I h) λv N x j m M J=>?_);refine wpAny_Slice (YH (B a N d j _ m J) λf O l k n F K=>YH (E a O d k _ n K) λg c u i o G L=>?_);rw[evalPart_none];refine ad ?_;let p:ZE X a d i { c with heap:=c.heap.push { cls:=.type "slice",data:=.fields #[f,g,.none] } }:=o.kept (t':=c.toks) λb P q=>zP _ q;let⟨T,id,t,D,z⟩:=C a { c with heap:=c.heap.push { cls:=.type "slice",data:=.fields #[f,g,.none] } } d i x v f g l u c.heap.objs.size Q p M (Heap.IsSliceOf.new ..) F G L;show aA (az X.prog X.w) X.A (subscriptTail e (.Slice lo hi none p2) v (.ref c.heap.objs.size)) (EP X a d Q) X.xe { c with heap:=c.heap.push { cls:=.type "slice",data:=.fields #[f,g,.none] } };exact tail_any (ops:=[.ref c.heap.objs.size,v]) D t z (by with_unfolding_all rfl)
def Pa(a:jf)(lo hi:jF):jf:=(a.drop (HT.sIx a.length 0 lo)).take (HT.sIx a.length a.length hi-HT.sIx a.length 0 lo)
def ZF7(a:jf)(lo hi:jF):(Pa a lo hi).length<=a.length:=by
 unfold Pa;rw[sQ,List.length_drop];exact zL (sT _ _) (uZ _ _)
inductive Np(K:zZ)(x y:V)(H:Hp)(Q:VK):Prop
 |mk(a b d c:_)(_:x=.ref a)(_:y=.ref b)(_:Zb K H a d)(_:Zb K H b c)(_:d≠[])(_:d.length+c.length<=ap)(_:c=[]->Q (.ref a) H)(_:c≠[]->∀ p,H p=none->Q (.ref p) (upd H p (.tup (d++c))))
def ZT.nil_iff{b:jf}{a:je}(r:ZT b a):a=[] ↔ b=[]:=by
 cases r with
 | nil=>simp
 | cons _ _=>simp
def Bd:Yv X (binaryOp .Add) (Np X.K):=by
 intro i s E H x y v u Q I t A h;let⟨a,b,B,C,rfl,rfl,j,k,l,f,p,r⟩:=h;cases t;cases A;let⟨m,d,n,_⟩:=I.tuple j;let⟨g,c,p2,_⟩:=I.tuple k;refine HT.cat_tup n p2 (λz=>l (d.nil_iff.mp z)) (λz=>⟨.ref a,H,I,Z,p (c.nil_iff.mp z)⟩) (λz=>?_) (by rw[<-d.length,<-c.length];exact f)
 refine⟨.ref s.heap.objs.size,_,I.laid (t':=s.toks) (o:=.tup (B++C)) (λb D q=>zP _ q) (zY _) ?_,Z,r (λw=>z (c.nil_iff.mpr w)) _ (I.hok.fresh (zY _))⟩;exact⟨by rw[zH];exact f,_,d.append c,IsTup.new _ _⟩
end
def Uu(n:Nat)(i:Int):jO:=if 0<=i then (if i<n then some i.toNat else none) else if -(n:Int)<=i then some (i+n).toNat else none
def Xr{b:Type}(a:List b)(i:Int):Option b:=(Uu a.length i).bind λj=>a[j]?
def HN{n:Nat}{i:Int}{j:Nat}(h:Uu n i=some j):seqIndex? i n=some j/\j<n /\ -(n:Int)<=i/\i<n:=by
 unfold Uu at h;by_cases b:0<=i
 ·rw[aM b] at h;by_cases a:i<n
  ·rw[aM a] at h;let e:i.toNat=j:=zB.inj h;exact⟨by rw[seqIndex_of b a,e],∅,∅,a⟩
  ·rw[aK a] at h;cases h
 ·rw[aK b] at h;by_cases a : -(n:Int)<=i
  ·rw[aM a] at h;let e:(i+n).toNat=j:=zB.inj h;exact⟨by rw[seqIndex_neg ∅ a,e],∅,a,∅⟩
  ·rw[aK a] at h;cases h
def KC{b:Type}{a:List b}{i:Int}{v:b}(h:Xr a i=some v):∃ j,seqIndex? i a.length=some j/\a[j]? = some v/\j<a.length /\ -(a.length:Int)<=i/\i<a.length:=by
 unfold Xr at h
 cases e:Uu a.length i with
 | none=>rw[e] at h;cases h
 | some j=>
  rw[e] at h;let⟨c,d,f,g⟩:=HN e;exact⟨j,c,h,d,f,g⟩
def Xk{b:Type}{a:List b}{j:Nat}{v:b}(h:a[j]? = some v):Xr a (j:Int)=some v:=by
 let c:j<a.length:=(yN.mp h).1;let e:Uu a.length (j:Int)=some j:=by
  unfold Uu;rw[aM ∅,aM ∅];simp
 unfold Xr;rw[e];exact h
def LZ{b:Type}(a:List b)(v:b):Xr (a++[v]) (-1)=some v:=by
 let c:(a++[v]).length=a.length+1:=by simp
 let e:Uu (a++[v]).length (-1)=some a.length:=by
  unfold Uu;rw[c,aK (by decide),aM ∅]
  congr 1
  lia
 unfold Xr;rw[e];show (a++[v])[a.length]? = some v;simp
def Jq(b:Expr):Prop:=∀ o i,subscripted b false o i=operate [o,i] (getItem o i)
def QI(X:Cx)(r:R2):Prop:=
 ∀(c a:Expr)(b:js)(s:ak)(d:St)(H:Hp)(x y:V)(v u:ai)(Q:VK),ZE X b d H s->ZU x v->ZU y u->r x y H Q ->
  subscripted a false v u=operate [v,u] (getItem v u)->aA (az X.prog X.w) X.A (subscriptTail c a v u) (EP X b d Q) X.xe s
def He(X:Cx)(id:String)(r:V->jf->Hp->VK->Prop):Prop:=
 ∀(a:js)(s:ak)(d:St)(H:Hp)(x:V)(c:jf)(v:ai)(b:je)(Q:VK),ZE X a d H s->ZU x v->ZT c b->r x c H Q ->
  aA (az X.prog X.w) X.A (call (.builtin id) (v::b)) (EP X a d Q) X.xe s
section
variable{a b:Expr}{ta tb:TE}{pos:aH}
def QI.or{r g:R2}(h:QI X r)(l:QI X g):QI X (λx y H Q=>r x y H Q\/g x y H Q):=by
 intro d c e s k H x y v u Q I i j q f;rcases q with q | q
 ·exact h d c e s k H x y v u Q I i j q f
 ·exact l d c e s k H x y v u Q I i j q f
def Ua{r:R2}(i:QI X r)(f:PE X a ta)(g:PE X b tb)(j:Jq b):PE X (.Subscript a b pos) (Ou r ta tb):=by
 intro c s n H Q I h;exact Subscript_ (KZ f g I h λv u m x y d e k l q=>i a b c m n d x y v u Q e k l q (j _ _))
inductive Nl(K:zZ)(x y:V)(H:Hp)(Q:VK):Prop
 |mk(p c i v:_)(_:x=.ref p)(_:y=.int i)(_:ZG K H p c)(_:Xr c i=some v)(_:Q v H)
inductive Qv(K:zZ)(x y:V)(H:Hp)(Q:VK):Prop
 |mk(p c i v:_)(_:x=.ref p)(_:y=.int i)(_:Zb K H p c)(_:Xr c i=some v)(_:Q v H)
inductive Nn(x y:V)(H:Hp)(Q:VK):Prop
 |mk(z i c:_)(_:x=.str z)(_:y=.int i)(_:z.length<=ap)(_:Xr z.cps.toList i=some c)(_:Q (.str ⟨#[c]⟩) H)
def Z9:QI X (Nl X.K):=by
 intro n m c s C H x y v u Q I M N h B;let⟨p,T,i,z,rfl,rfl,L,G,q⟩:=h;cases M;let⟨t,rfl⟩:=N;let⟨g,r,k,S⟩:=I.list L;let⟨j,e,D,P,E,F⟩:=KC G;let⟨w,o,l⟩:=r.get D;let J:=r.length;let R:=Os;let d:EP X c C Q w s:=⟨z,H,I,l,q⟩;by_cases A:0<=i
 ·let f:i.toNat=j:=by
   rw[seqIndex_of A F] at e;exact zB.inj e
  exact item_listR k.isList A ∅ (by rw[f];simpa using o) d B
 ·let f:(i+(g.toArray.size:Int)).toNat=j:=by
   rw[seqIndex_neg ∅ E] at e
   rw[zQ,<-J];exact zB.inj e
  exact subscriptTail_builtinR (x:=w) k.isList.typeIs slot_list_getitem.lookup
   (wpAny_getItem_list_neg (Q:=λr O=>r=w/\EP X c C Q r O) k.isList ∅ (by rw[zQ] <;> lia) ∅ (by rw[f];simpa using o) ⟨rfl,d⟩) B
def QT:QI X (Qv X.K):=by
 intro g f c s l H x y v u Q I F G h D;let⟨p,R,i,z,rfl,rfl,C,A,q⟩:=h;cases F;let⟨t,rfl⟩:=G;let⟨E,r,k,P⟩:=I.tuple C;let⟨j,n,o,L,M,N⟩:=KC A;let⟨w,m,e⟩:=r.get o;let B:=r.length;let O:=Os;let d:EP X c l Q w s:=⟨z,H,I,e,q⟩;exact subscriptTail_builtinR (x:=w) k.typeIs slot_tuple_getitem.lookup
  (getItem_tuple (j:=j) (Q:=λr J=>r=w/\EP X c l Q r J) k ∅ ∅ (by rw[zQ,<-B];exact n) (by simpa using m) ⟨rfl,d⟩) D
def Cj:QI X Nn:=by
 intro e d g s G H x y v u Q I A B h w;let⟨z,i,c,rfl,rfl,E,p,q⟩:=h;let⟨t,rfl⟩:=A;let⟨F,rfl⟩:=B;let⟨j,f,m,C,n,o⟩:=KC p;let r:z.cps.toList.length=z.length:=by simp[Str.length]
 rw[r] at f n o;let D:=Os;exact tail_any (typeIs_str s z t) slot_str_getitem.lookup (getItem_str (c:=c) (by
  let k:decide (i < -(2 ^ 63:Int))=false:=aI ∅
  let l:decide (i ≥ 2 ^ 63)=false:=aI ∅
  rw[k,l,Bool.or_false]) (by rw[f];simpa using m) ⟨.str ⟨#[c]⟩,H,I.tok _,⟨_,Z⟩,q⟩) w
def K7(K:zZ):R2:=λx y H Q=>Nl K x y H Q\/Qv K x y H Q\/Nn x y H Q
def ZOz:QI X (K7 X.K):=Z9.or (QT.or Cj)
def pxT{X:Cx}{a b:Expr}{ta tb:TE}{pos:aH}(K:zZ)(c:PE X a ta)(d:PE X b tb)(f:Jq b:=by exact λ_ _=>rfl)(e:QI X (Qv K):=by exact QT):PE X (.Subscript a b pos) (Ou (Qv K) ta tb):=Ua e c d f
def Zi{X:Cx}{a b:Expr}{ta tb:TE}{pos:aH}(K:zZ)(c:PE X a ta)(d:PE X b tb)(f:Jq b:=by exact λ_ _=>rfl)(e:QI X (K7 K):=by exact ZOz):PE X (.Subscript a b pos) (Ou (K7 K) ta tb):=Ua e c d f
def ZH7(c:je)(n j:Nat)(u:ai):Obj.mapSeq (·.setIfInBounds j u) { cls:=.type "list",data:=.seq c.toArray n }={ cls:=.type "list",data:=.seq (c.set j u).toArray n }:=by
 simp[Obj.mapSeq]
def ZE.lst{d:js}{g:St}{H:Hp}{s:ak}{p:aj}{f:jf}(I:ZE X d g H s)(h:H p=some (.lst f)):
  ∃(c:je)(n:Nat),ZT f c/\s.heap.get? p=some { cls:=.type "list",data:=.seq c.toArray n }/\f.length<=sizeLine:=by
 let⟨z,c,n,r,e⟩:=I.hok p _ h;exact⟨c,n,r,e,z⟩
def ZE.lstUpd{d:js}{l:St}{H:Hp}{s:ak}{p:aj}{w j:jf}{g c:je}{n i:Nat}{f:aG->aG}(I:ZE X d l H s)(h:H p=some (.lst w))(o:s.heap.get? p=some { cls:=.type "list",data:=.seq g.toArray n })(k:f { cls:=.type "list",data:=.seq g.toArray n }={ cls:=.type "list",data:=.seq c.toArray i })(r:ZT j c)(v:j.length<=ap)(t:Nat):
  ZE X d l (upd H p (.lst j)) { s with heap:=s.heap.update p f,toks:=t }:=by
 let e:(s.heap.update p f).get? p=some { cls:=.type "list",data:=.seq c.toArray i }:=by
  rw[wX f o (by rw[k] <;> rfl),k]
 refine I.write (x:=p) (e:=p) (by rw[h];trivial) (.inl rfl) (λb u m q=>(xZ _ _ (Ne.symm m)).trans q) ⟨_,e⟩ ?_
 exact⟨v,c,i,r,e⟩
inductive Nc(o i v:V)(H:Hp)(Q:Hp->Prop):Prop
 |mk(p c k j:_)(_:o=.ref p)(_:i=.int k)(_:H p=some (.lst c))(_:Uu c.length k=some j)(_:Q (upd H p (.lst (c.set j v))))
def Kz:Ig X Nc:=by
 intro d s G H o i v M L u Q I D C E h;let⟨p,F,k,j,rfl,rfl,z,A,q⟩:=h;cases D;let⟨t,rfl⟩:=C;let⟨c,n,r,l,B⟩:=I.lst z;let⟨e,J,x,y⟩:=HN A;let g:=r.length;let K:=Os;let m:ZE X d G (upd H p (.lst (F.set j v))) { s with heap:=s.heap.update p (Obj.mapSeq (·.setIfInBounds j u)) }:=
  I.lstUpd z l (ZH7 c n j u) (r.set E j) (by rw[wV];exact B) s.toks
 by_cases w:0<=k
 ·let f:k.toNat=j:=by
   rw[seqIndex_of w y] at e;exact zB.inj e
  exact PySem.W.ki_setAt l w ∅ (by rw[zQ,<-g];exact y) (by rw[f];exact⟨_,m,q⟩)
 ·let f:(k+(c.toArray.size:Int)).toNat=j:=by
   rw[seqIndex_neg ∅ x] at e
   rw[zQ,<-g];exact zB.inj e
  exact PySem.W.ki_setBack l ∅ (by rw[zQ,<-g];exact x) ∅ (by rw[f];exact⟨_,m,q⟩)
def ZFb(d c:jF)(n:Nat):(sliceBounds d c none n).1=((HT.sIx n 0 d:Nat):Int)/\(sliceBounds d c none n).2.1=((HT.sIx n n c:Nat):Int)/\(sliceBounds d c none n).2.2=1:=by
 refine⟨?_,?_,Z⟩
 ·cases d with
  | none=>simp[sliceBounds,HT.sIx]
  | some i=>
   simp only[sliceBounds,HT.sIx,Option.getD_none,show (1:Int) > 0 by decide,if_true]
   by_cases h:i<0
   ·simp only[h,if_true] <;> lia
   ·simp only[h,if_false] <;> lia
 ·cases c with
  | none=>simp[sliceBounds,HT.sIx]
  | some i=>
   simp only[sliceBounds,HT.sIx,Option.getD_none,show (1:Int) > 0 by decide,if_true]
   by_cases h:i<0
   ·simp only[h,if_true] <;> lia
   ·simp only[h,if_false] <;> lia
def AT(c:je)(d e:jF):slicePick c.toArray d e none=((c.drop (HT.sIx c.length 0 d)).take (HT.sIx c.length c.length e-HT.sIx c.length 0 d)).toArray:=by
 let⟨f,g,h⟩:=ZFb d e c.toArray.size;unfold slicePick;rw[f,g,h];simp only[sliceRange_one,pick_run,zQ] <;> rfl
inductive Ld(K:zZ)(x:V)(e d:jF)(H:Hp)(Q:VK):Prop
 |mk(a c:_)(_:x=.ref a)(_:ZG K H a c)(_:∀ p,H p=none->Q (.ref p) (upd H p (.lst (Pa c e d))))
def F1:GZ X (Ld X.K):=by
 intro i s A H x v y z e f w Q I t j n p h;let⟨a,c,rfl,k,q⟩:=h;cases t;let⟨m,r,g,l⟩:=I.list k;let d:=r.length;exists "list",_,slot_list_getitem.lookup,g.isList.typeIs;refine wpAny_getItem_list_slice g.isList j n p .none (by simp) ?_ (by rw[zQ] <;> lia)
 rw[AT,<-d];refine⟨.ref s.heap.objs.size,_,I.laid (t':=s.toks) (o:=.lst (Pa c e f)) (λb u q=>zP _ q) (zY _) ?_,Z,q _ (I.hok.fresh (zY _))⟩;exact⟨zL (ZF7 c e f) l,_,0,(r.drop (HT.sIx c.length 0 e)).take (HT.sIx c.length c.length f-HT.sIx c.length 0 e),yS _ Z⟩
def Qk:V->Bool
 | .non=>true
 | .bl _=>true
 | .int _=>true
 | .str _=>true
 | _=>false
def Uz:V->V->Bool
 | .non,.non=>true
 | .bl a,.bl b=>a==b
 | .bl a,.int b=>(if a then 1 else 0)==b
 | .int a,.bl b=>a==(if b then 1 else 0)
 | .int a,.int b=>a==b
 | .str a,.str b=>a==b
 | _,_=>false
def B3{A:aw}{s:ak}{y x:V}{u v:ai}(f:ZU y u)(c:ZU x v)(g:Qk y=true)(e:Qk x=true):SeqAt.EqAt A s u v (Uz y x):=by
 cases y with
 | non=>
  cases f
  cases x with
  | non=>cases c;exact SeqAt.EqAt.same _
  | bl b=>cases c;exact SeqAt.EqAt.none_bool b
  | int b=>let⟨t,rfl⟩:=c;exact SeqAt.EqAt.none_int b t
  | str b=>let⟨t,rfl⟩:=c;exact SeqAt.EqAt.none_str b t
  | _=>exact absurd (show false=true from e) zR
 | bl a=>
  cases f
  cases x with
  | non=>cases c;exact SeqAt.EqAt.bool_none a
  | bl b=>cases c;exact SeqAt.EqAt.bool_bool a b
  | int b=>let⟨t,rfl⟩:=c;exact SeqAt.EqAt.bool_int a b t
  | str b=>let⟨t,rfl⟩:=c;exact SeqAt.EqAt.bool_str a b t
  | _=>exact absurd (show false=true from e) zR
 | int a=>
  let⟨d,rfl⟩:=f
  cases x with
  | non=>cases c;exact SeqAt.EqAt.int_none a d
  | bl b=>cases c;exact SeqAt.EqAt.int_bool a d b
  | int b=>let⟨t,rfl⟩:=c;exact SeqAt.EqAt.int_int a d b t
  | str b=>let⟨t,rfl⟩:=c;exact SeqAt.EqAt.int_str a d b t
  | _=>exact absurd (show false=true from e) zR
 | str a=>
  let⟨d,rfl⟩:=f
  cases x with
  | non=>cases c;exact SeqAt.EqAt.str_none a d
  | bl b=>cases c;exact SeqAt.EqAt.str_bool a d b
  | int b=>let⟨t,rfl⟩:=c;exact SeqAt.EqAt.str_int a d b t
  | str b=>let⟨t,rfl⟩:=c;exact SeqAt.EqAt.str_str a d b t
  | _=>exact absurd (show false=true from e) zR
 | _=>exact absurd (show false=true from g) zR
def Vu(x:V)(u:ai):Bool:=match u with
 | .none=>Uz .non x
 | .bool b=>Uz (.bl b) x
 | .int i _=>Uz (.int i) x
 | .str z _=>Uz (.str z) x
 | _=>false
def Gz{x y:V}{u:ai}(r:ZU y u)(f:Qk y=true):Vu x u=Uz y x:=by
 cases y with
 | non=>cases r;rfl
 | bl b=>cases r;rfl
 | int i=>let⟨t,rfl⟩:=r;rfl
 | str z=>let⟨t,rfl⟩:=r;rfl
 | _=>exact absurd (show false=true from f) zR
def NW{x:V}:∀{c:jf}{d:je},ZT c d->c.all Qk=true->d.any (Vu x)=c.any λy=>Uz y x
 | _,_,.nil,_=>rfl
 | y::c,u::d,.cons r t,f=>by
  rw[uP,zO] at f;rw[vW,vW,Gz r f.1,NW t f.2]
def Nm{A:aw}{s:ak}{x:V}{v:ai}(h:ZU x v)(g:Qk x=true):∀{e:jf}{d:je},ZT e d->e.all Qk=true->∀ u∈d,SeqAt.EqAt A s u v (Vu x u)
 | _,_,.nil,_=>λu c=>by cases c
 | y::e,u::d,.cons r t,f=>λi c=>by
  rw[uP,zO] at f;rcases zC.mp c with rfl | c
  ·rw[Gz r f.1];exact B3 r h f.1 g
  ·exact Nm h g t f.2 i c
def ND(x:V)(c:jf):Bool:=c.any λy=>Uz y x
inductive PM(K:zZ)(d:Bool)(x y:V)(H:Hp)(Q:VK):Prop
 |mk(p c:_)(_:y=.ref p)(_:ZG K H p c\/Zb K H p c)(_:Qk x=true)(_:c.all Qk=true)(_:Q (.bl (if d then !ND x c else ND x c)) H)
def ZI6:Yv X (ay .In) (PM X.K false):=by
 intro j s o H x y v u Q I k m h;let⟨p,n,rfl,d,i,e,q⟩:=h;cases m;rcases d with d | d
 ·let⟨c,r,g,l⟩:=I.list d;refine SeqAt.in_listAt (Vu x) g.isList (λw f=>Nm k i r e w (by simpa using f)) ⟨.bl _,H,I,Z,?_⟩
  rw[show c.toArray.any (Vu x)=c.any (Vu x) by simp,NW r e]
  exact q
 ·let⟨c,r,g,l⟩:=I.tuple d;refine SeqAt.in_tupleAt (Vu x) g (λw f=>Nm k i r e w (by simpa using f)) ⟨.bl _,H,I,Z,?_⟩
  rw[show c.toArray.any (Vu x)=c.any (Vu x) by simp,NW r e]
  exact q
def Nd:Yv X (ay .NotIn) (PM X.K true):=by
 intro j s o H x y v u Q I k m h;let⟨p,n,rfl,d,i,e,q⟩:=h;cases m;rcases d with d | d
 ·let⟨c,r,g,l⟩:=I.list d;refine SeqAt.notIn_listAt (Vu x) g.isList (λw f=>Nm k i r e w (by simpa using f)) ⟨.bl _,H,I,Z,?_⟩
  rw[show c.toArray.any (Vu x)=c.any (Vu x) by simp,NW r e]
  exact q
 ·let⟨c,r,g,l⟩:=I.tuple d;refine SeqAt.notIn_tupleAt (Vu x) g (λw f=>Nm k i r e w (by simpa using f)) ⟨.bl _,H,I,Z,?_⟩
  rw[show c.toArray.any (Vu x)=c.any (Vu x) by simp,NW r e]
  exact q
inductive WX(d:zZ)(e:jf)(H:Hp)(Q:VK):Prop
 |mk(p c:_)(_:e=[.ref p])(_:ZG d H p c\/Zb d H p c)(_:Q (.int c.length) H)
def WH:VL X (.builtin "len") (WX X.K):=by
 intro i s t H o n Q I r h;let⟨p,j,rfl,d,q⟩:=h;let⟨u,rfl,l⟩:=VO r;cases l;let m:=Os;rcases d with d | d
 ·let⟨e,g,f,k⟩:=I.list d;let c:=g.length;exact Calls.call_len_list f.isList (by simp only[zQ] <;> lia) ⟨.int j.length,H,I.tok _,⟨s.toks+1,by rw[zQ,c]⟩,q⟩
 ·let⟨e,g,f,k⟩:=I.tuple d;let c:=g.length;exact len_tuple f (by simp only[zQ] <;> lia) ⟨.int j.length,H,I.tok _,⟨s.toks+1,by rw[zQ,c]⟩,q⟩
inductive WU(c:jf)(H:Hp)(Q:VK):Prop
 |mk(z:_)(_:c=[.str z])(_:z.length<=ap)(_:Q (.int z.length) H)
def Ei:VL X (.builtin "len") (WU):=by
 intro c s i H g f Q I r h;let⟨z,rfl,e,q⟩:=h;let⟨u,rfl,t,rfl⟩:=VO r;let d:=Os;exact len_str ∅ ⟨.int z.length,H,I.tok _,⟨_,Z⟩,q⟩
inductive WV(d:zZ)(e:jf)(H:Hp)(Q:VK):Prop
 |mk(p c:_)(_:e=[.ref p])(_:ZG d H p c\/Zb d H p c)(_:∀ l,H l=none->Q (.ref l) (upd H l (.lst c)))
def Ue:VL X (.type "list") (WV X.K):=by
 intro t s D H F E Q I r h;let⟨p,A,rfl,k,q⟩:=h;let⟨u,rfl,C⟩:=VO r;cases C;let i:∀(c:je),ZT A c->A.length<=ap->∀(d:aC)(f:Nat),(∀ b B,s.heap.get? b=some B->d.get? b=some B) ->
   d.get? s.heap.objs.size=some { cls:=.type "list",dict:=none,data:=.seq c.toArray f,slots:=#[] }->EP X t D Q (.ref s.heap.objs.size) { s with heap:=d }:=λc g l d f m e=>
  ⟨.ref s.heap.objs.size,_,I.laid (t':=s.toks) m (zY _) (show Zd X.prog X.w _ d _ (.lst A) from ⟨l,c,f,g,e⟩),rfl,q _ (I.hok.fresh (zY _))⟩
 rcases k with k | k
 ·let⟨c,g,z,l⟩:=I.list k;let j:=g.length;let⟨o,y,v,n,x⟩:=z.isList;exact call_list_seq p (.inl rfl) y v x (λd f m e=>i c g l d f m e) (by simp only[zQ] <;> lia)
 ·let⟨c,g,z,l⟩:=I.tuple k;let j:=g.length;let⟨o,y,v,n,x⟩:=z;exact call_list_seq p (.inr rfl) y v x (λd f m e=>i c g l d f m e) (by simp only[zQ] <;> lia)
inductive WK(d:zZ)(e:jf)(H:Hp)(Q:VK):Prop
 |mk(p c:_)(_:e=[.ref p])(_:(ZG d H p c/\∀ l,H l=none->Q (.ref l) (upd H l (.tup c)))\/(Zb d H p c/\Q (.ref p) H))
def Ov:VL X (.type "tuple") (WK X.K):=by
 intro c s t H A z Q I r h;let⟨p,n,rfl,h⟩:=h;let⟨u,rfl,y⟩:=VO r;cases y;rcases h with ⟨g,q⟩ | ⟨g,q⟩
 ·let⟨d,j,i,m⟩:=I.list g;let l:=j.length;refine call_tuple_list i.isList (λf x=>?_) (by simp only[zQ] <;> lia)
  let k:ZE X c t H { s with heap:=f }:=I.kept (t':=s.toks) x;let v:ZE X c t (upd H f.objs.size (.tup n)) { s with heap:=f.push { cls:=.type "tuple",data:=.seq d.toArray } }:=
   k.laid (t':=s.toks) (λb o e=>zP _ e) (zY _) (show Zd X.prog X.w _ _ _ (.tup n) from ⟨m,d,j,IsTup.new _ _⟩)
  exact⟨.ref f.objs.size,_,v,Z,q _ (k.hok.fresh (zY _))⟩
 ·let⟨d,j,i,m⟩:=I.tuple g;exact call_tuple_same i ⟨.ref p,H,I,Z,q⟩
def Ls(K:zZ)(T:String)(x:V)(H:Hp):Prop:=match x with
 | .str _=>T = "str"
 | .int _=>T = "int"
 | .ref p=>(T = "list" /\ ∃ d,ZG K H p d)\/(T = "tuple" /\ ∃ o,K.lookup p=some o/\o.cls=.type "tuple" /\ o.dict=none) \/
   (T = "dict" /\ ((∃ c,H p=some (.dK c))\/∃ c,H p=some (.dT c)))\/(T = "set" /\ ∃ S n,H p=some (.set S n))
 | _=>False
def EQ{g:js}{A:St}{H:Hp}{s:ak}{T:String}{x:V}{v:ai}(I:ZE X g A H s)(r:ZU x v)(h:Ls X.K T x H):
  s.TypeIs v T/\∀ a,v=.ref a->∃ m,s.heap.get? a=some m/\m.dict=none:=by
 cases x with
 | str z=>
  let⟨t,rfl⟩:=r;cases(show T = "str" from h);exact⟨typeIs_str s z t,λ_ e=>nomatch e⟩
 | int i=>
  let⟨t,rfl⟩:=r;cases(show T = "int" from h);exact⟨typeIs_int s i t,λ_ e=>nomatch e⟩
 | ref p=>
  cases r;rcases h with ⟨rfl,B,w⟩ | ⟨rfl,o,d,u,k⟩ | ⟨rfl,d⟩ | ⟨rfl,S,n,d⟩
  ·let⟨y,_,q,_⟩:=I.list w;exists q.isList.typeIs;intro a e;cases e;let⟨o,n,e,c,k,_⟩:=q;exact⟨o,e,k⟩
  ·exists ⟨o,I.kIn p o d,u⟩;intro a e;cases e;exact⟨o,I.kIn _ o d,k⟩
  ·let z:∃ o,s.heap.get? p=some o/\o.ExactDict:=by
    rcases d with ⟨l,d⟩ | ⟨l,d⟩
    ·let⟨_,_,_,_,o,_,_,e,f,_⟩:=I.hok p _ d;exact⟨o,e,f⟩
    ·let⟨_,_,_,_,o,_,_,e,f,_⟩:=I.hok p _ d;exact⟨o,e,f⟩
   let⟨o,e,f⟩:=z;exists ⟨o,e,f.1⟩;intro a j;cases j;exact⟨o,e,f.2.1⟩
  ·let⟨o,_,_,_,e,f,_⟩:=I.hok p _ d;exists ⟨o,e,f.1⟩;intro a j;cases j;exact⟨o,e,f.2.1⟩
 | _=>exact False.elim h
def Cw(K:zZ)(T:String)(r:V->jf->Hp->VK->Prop)(d:TE):TE:=λe H Q=>d e H λx c=>Ls K T x c/\r x [] c Q
def GH(K:zZ)(T:String)(r:V->jf->Hp->VK->Prop)(f:TE)(t:TA):TE:=λd H Q=>f d H λx c=>Ls K T x c/\t d c λg e=>r x g e Q
variable{o e:Expr}{es:jy}{to:TE}{t:TA}{name:Str}{ji jh:aH}{T id:String}{r:V->jf->Hp->VK->Prop}
def LF(w:PlainAttrs T)(g:Slot T name id)(i:typeOf (.builtin id)=pure (.type "method_descriptor"))(q:He X id r)(u:PE X o to)(d:attributeBase o name X.env (aF o X.env)=aF o X.env:=by rfl)(f:(ji.endLine==jh.line)=true:=by rfl):PE X (.Call (.Attribute o name ji) [] [] jh) (Cw X.K T r to):=by
 intro c s l H Q I h;refine wpAny_Call_method0_late d f (Zz (u c s l H _ I h) ?_);rintro v z ⟨x,m,j,k,A,y⟩;let⟨n,p⟩:=EQ j k A;exact⟨T,id,w,g,i,n,p,Calls.callWith_builtin Z (PySem.evalArgs_none (q c z l m x [] v [] Q j k .nil y))⟩
def Vs(E:PlainAttrs T)(j:Slot T name id)(k:typeOf (.builtin id)=pure (.type "method_descriptor"))(B:He X id r)(C:PE X o to)(A:PA X (e::es) t)(f:attributeBase o name X.env (aF o X.env)=aF o X.env:=by rfl)(i:((aE jh (aq (e::es) X.env)).all (λx=>!x.1)&&(backToKw jh (keywordEach [] X.env)).all (λx=>x.1.isSome)
   && decide ((e::es).length+([]:List Keyword).length+(if ([]:List Keyword).isEmpty then 0 else 1)<30))=true:=by rfl)(g:(ji.endLine==jh.line)=true:=by rfl)(D:aq (e::es) X.env=(false,aF e X.env)::aq es X.env:=by rfl)(d:(aE jh (aq es X.env)).any (·.1)=false:=by rfl):
  PE X (.Call (.Attribute o name ji) (e::es) [] jh) (GH X.K T r to t):=by
 intro c s l H Q I h;refine wpAny_Call_method_late f i g Z (Zz (C c s l H _ I h) ?_);rintro v L ⟨x,q,m,p,N,F⟩;let⟨y,z⟩:=EQ m p N;exists T,id,E,j,k,y,z;let n:=A jh c L l q _ m F;rw[D] at n⊢;refine Calls.callWith_builtin (by show (false || (aE jh (aq es X.env)).any (·.1))=false;rw[d] <;> rfl) (Calls.evalArgs_plain ?_)
 exact YH n λO M P u w J G=>B c M l u x P v O Q w p J G
end
def NY(X:Cx)(id:String)(r:V->jf->Hp->VK->Prop):Prop:=
 ∀(a:js)(s:ak)(d:St)(H:Hp)(x:V)(c:jf)(v:ai)(b:je)(Q:VK),ZE X a d H s->ZU x v->ZT c b->r x c H Q ->
  aA (az X.prog X.w) X.A (call (.builtin id) (v::b)) (EP X a d Q) X.xe s
def ZT.one:∀{x:V}{a:je},ZT [x] a->∃ u,a=[u]/\ZU x u:=λh=>by cases h with | cons r n=>cases n;exact⟨_,Z,r⟩
def ZT.zero:∀{a:je},ZT [] a->a=[]
 | _,.nil=>rfl
def ZT.dropLast{b:jf}{a:je}(h:ZT b a):ZT b.dropLast a.dropLast:=by
 induction h with
 | nil=>exact .nil
 | cons r t c=>
  cases t with
  | nil=>exact .nil
  | cons q d=>exact .cons r c
def ZHw{d:Type}(l:List d):l.eraseIdx (l.length-1)=l.dropLast:=by
 induction l with
 | nil=>rfl
 | cons a r c=>
  cases r with
  | nil=>rfl
  | cons b r=>
   let e:(a::b::r).length-1=((b::r).length-1)+1:=by
    let f:(a::b::r).length=r.length+2:=rfl;let g:(b::r).length=r.length+1:=rfl
    lia
   rw[e,List.eraseIdx_cons_succ,c]
   all_goals rfl
section
variable{ke:js}{σ:St}{H:Hp}{l b:aj}{xs ys zs:jf}
def ZE.lset{a its':je}{n:Nat}{f:jv->jv}{k:Nat}(I:ZE X ke σ H s)(c:H l=some (.lst xs))(e:s.heap.get? l=some { cls:=.type "list",data:=.seq a.toArray n })(g:f a.toArray=its'.toArray)(i:ZT ys its')(j:ys.length<=ap):
  ZE X ke σ (upd H l (.lst ys)) { s with heap:=s.heap.update l (Obj.mapSeq f),toks:=k }:=by
 let q:=PySem.IsL.update e f;rw[g] at q;refine I.write (x:=l) (e:=l) (by rw[c];exact trivial) (.inl rfl) (λm u d h=>(xZ s.heap (Obj.mapSeq f) (Ne.symm d)).trans h) ⟨_,q⟩ ?_
 exact⟨j,its',_,i,q⟩
def ZE.lnew{a:je}{t':Nat}(I:ZE X ke σ H s)(c:ZT ys a)(d:ys.length<=ap):
  ZE X ke σ (upd H s.heap.objs.size (.lst ys)) { s with heap:=s.heap.push { cls:=.type "list",data:=.seq a.toArray },toks:=t' }:=
 I.laid (λ_ _ q=>zP _ q) (zY _) ⟨d,a,0,c,yS _ rfl⟩
def ZE.fresh(I:ZE X ke σ H s):H s.heap.objs.size=none:=I.hok.fresh (zY _)
def ZE.lstM(I:ZE X ke σ H s)(c:H l=some (.lst xs)):xs.length<=ap/\∃(a:je)(n:Nat),ZT xs a/\xs.length=a.length/\s.heap.get? l=some { cls:=.type "list",data:=.seq a.toArray n }:=by
 let⟨z,a,n,r,e⟩:=I.hok l _ c;exact⟨z,a,n,r,r.length,e⟩
end
inductive Qx(x:V)(b:jf)(H:Hp)(Q:VK):Prop
 |mk(l a y:_)(_:x=.ref l)(_:b=[y])(_:H l=some (.lst a))(_:a.length<ap)(_:Q .non (upd H l (.lst (a++[y]))))
def UF:NY X "list.append" Qx:=by
 intro c s p H x m v k Q I g f h;let⟨l,o,y,rfl,rfl,b,j,q⟩:=h;cases g;let⟨u,rfl,d⟩:=f.one;let⟨z,a,n,r,i,e⟩:=I.lstM b;refine call_meets F.slot_list_append ⟨_,e,Z⟩ F.entry_list_append (F.args_list_append_2 _ _) (PySem.list_append l a.toArray n u (by rw[zQ];lia)) ⟨e,?_⟩
 refine⟨.non,_,I.lset (its':=a++[u]) b e (by simp) (r.append (.cons d .nil)) ?_,Z,q⟩
 rw[zH,xU]
 lia
inductive Ly(x:V)(b:jf)(H:Hp)(Q:VK):Prop
 |mk(l a y:_)(_:x=.ref l)(_:b=[])(_:H l=some (.lst a))(_:a[a.length-1]? = some y)(_:Q y (upd H l (.lst a.dropLast)))
def Iw:NY X "list.pop" Ly:=by
 intro f s A H x t v p Q I o m h;let⟨l,w,y,rfl,rfl,d,j,q⟩:=h;cases o;let b:=m.zero;subst b;let⟨z,a,n,r,g,e⟩:=I.lstM d;let⟨u,i,k⟩:=r.get j;let c:a.toArray[a.toArray.size-1]? = some u:=by
  show a.toArray[a.length-1]? = some u;rw[<-rO,<-g];exact i
 refine call_meets F.slot_list_pop ⟨_,e,Z⟩ F.entry_list_pop (F.args_list_pop_1 _) (MeetsSeq.list_pop_last l a.toArray n u c (by rw[zQ];lia)) ⟨e,?_⟩
 refine⟨y,_,I.lset (its':=a.dropLast) d e ?_ r.dropLast ?_,k,q⟩
 ·show a.toArray.eraseIdxIfInBounds (a.toArray.size-1)=a.dropLast.toArray;rw[zQ,List.eraseIdxIfInBounds_toArray,ZHw]
 ·rw[List.length_dropLast]
  lia
inductive Pr(x:V)(a:jf)(H:Hp)(Q:VK):Prop
 |mk(l b:_)(_:x=.ref l)(_:a=[])(_:H l=some (.lst b))(_:Q .non (upd H l (.lst [])))
def GG:NY X "list.clear" Pr:=by
 intro d s o H x k v j Q I g f h;let⟨l,m,rfl,rfl,c,q⟩:=h;cases g;let a:=f.zero;subst a;let⟨z,b,n,r,i,e⟩:=I.lstM c;refine call_meets F.slot_list_clear ⟨_,e,Z⟩ F.entry_list_clear (F.args_list_clear_1 _) (AutoSeq1.list_clear_list_0 l b.toArray n (by rw[zQ];lia)) ⟨e,?_⟩
 exact⟨.non,_,I.lset (its':=[]) (ys:=[]) c e Z .nil (zF _),Z,q⟩
inductive Jp(x y:V)(H:Hp)(Q:VK):Prop
 |mk(l b a c:_)(_:x=.ref l)(_:y=.ref b)(_:H l=some (.lst a))(_:H b=some (.lst c))(_:a.length+c.length<=ap)(_:∀ p,H p=none->Q (.ref p) (upd H p (.lst (a++c))))
def NE:Yv X (binaryOp .Add) Jp:=by
 intro d s E H x y v u Q I o p h;let⟨l,b,B,D,rfl,rfl,j,i,w,q⟩:=h;cases o;cases p;let⟨z,c,n,r,t,e⟩:=I.lstM j;let⟨C,a,A,m,k,f⟩:=I.lstM i;refine PySem.P.add_list e f ?_ (by rw[zQ,zQ];lia)
 let g:c.toArray++a.toArray=(c++a).toArray:=by simp
 rw[g];exact⟨.ref _,_,I.lnew (t':=s.toks) (r.append m) (by rw[zH];lia),Z,q _ I.fresh⟩
end L2
namespace Att
open PySem PySem.W PySem.Calls PyProof.Rows
def A5{P:Params}{h:aC}:∀(c:jA)(d:je),WellAll P h d (c.map WData.int)->IntsAre d c:=by
 intro c
 induction c with
 | nil=>
  intro d w;rw[wI] at w;cases w;exact .nil
 | cons n c e=>
  intro d w;rw[yT] at w
  cases w with
  | cons a b=>
   cases a;exact .cons _ _ (e _ b)
def Eh{l:OpenLaw}{n:Nat}(v:l.most=some n){P:Params}{h:aC}{args:List WData}{e:je}(c:l.row.toRowW.claim.pre args=true)(m:WellAll P h e args):
  ∃ a p b,e=[Value.ref a]/\args=[WData.list (b.map WData.int)]/\h.get? a=some { cls:=.type "list",data:=.seq p.toArray }/\IntsAre p b/\b.length<=n:=by
 let k:WShape.hasAll [] args [.list .int]=true:=(pre_splitW c).1;let o:l.pre.holds [] { args:=args }=true:=(pre_splitW c).2;let⟨d,r,rfl,s,t⟩:=hasAllW_cons k;obtain rfl:=hasAllW_nil t;let⟨A,rfl,u⟩:=hasW_list s;let⟨b,rfl⟩:=items_int u;let g:b.length<=n:=by
  unfold OpenLaw.pre at o;let i:(WTm.not (.lt (.lit (.int (n:Int))) (.len (.arg 0)))).holds [] { args:=[.list (b.map .int)] }=true:=by
   let i:=(holds_andW o).1;rw[v] at i;exact i
  let j:=condW_of i (w_not (w_lt w_lit (w_len_list (w_arg rfl))));rw[zX] at j;refine uL λq=>?_;let x:(n:Int)<((b.length:Nat):Int):=∅
  first
   | (rw[aJ x] at j;exact absurd j (by decide))
   | (simp at j;lia)
 cases m with
 | cons y z=>
  cases z
  cases y with
  | list w f=>exact⟨_,_,b,Z,Z,w,A5 b _ f,g⟩
def Ex(l:OpenLaw)(args:List WData):l.row.toRowW.claim.post args (.bool true) args=true:=
 postW_of (r:=l.row.toRowW) (X:=(true==true))
  (show WShape.has [] (.bool true) .bool=true by first | rfl | decide | simp[WShape.has,WShape.arms,WShape.armsAll])
  (show (WTm.eq .res (.lit (.bool true))).value [] { args:=args,res:=some (.bool true),after:=args }=some (.bool (true==true)) from w_eq_bool (w_res rfl) w_lit) rfl
def attach_call{l:OpenLaw}{n:Nat}{q:al}{c:jr}{E:(jb)->aC->Prop}{F:ar->aC->Prop}{d:DefRec}(S:l.most=some n)(z:d.params.defaults=[])(j:∀ (w:ar) (e b:ak) (u C:jb) (k:aj) (o:aG) (D t g:ai) (a:aj) (i:je) (v:jA),
   Ground q c [] E w e u C b.heap->F w b.heap ->
   b.heap.get? k=some o->o.data=.func (docDef d.name d.params d.body d.scope D t g)->b.heap.CodeRec t d.name->u d.name=some (.ref k) ->
   b.heap.get? a=some { cls:=.type "list",data:=.seq i.toArray }->IntsAre i v->v.length<=n->b.gens=#[] ->
   codeAny (az l.prog w) callerA (.call (.ref k) ⟨[.ref a],[]⟩) (λr x=>r=.ok (.ret (.bool true))/\OldK b.heap x.heap/\x.os=b.os/\AllBare x.gens) b):
  WalkO q c E F l.row.toRowW d [] (λf i=>PySem.call f i):=by
 intro w e b u C G Y k o D t g K kV T O y H A P args J W s I V B Q;obtain rfl:K=.none:=Dflts.none H z;obtain rfl:kV=.none:=Dflts.noKw H;let⟨a,i,v,rfl,rfl,p,h,m⟩:=Eh S s B;refine enter_call (codeAny_mono (j w e b u C k o D t g a i v G Y T (fd_plain O) y A p h m P) λr x U=>?_);let⟨rfl,L,M,N⟩:=U;exact⟨.inl ⟨.bool true,.bool true,[],Z,λ_=>rfl,.bool true,Ex l _,λ_=>⟨List.Pairwise.nil,λ_ R=>(nomatch R)⟩⟩,L,M,N⟩
section
variable{K:Frag}
def ZQC(h:aC)(L d:aj):js:=(zN h.objs.size).filterMap λa=>if a=L\/a=d then none else (h.get? a).map λo=>(a,o)
end
end Att
namespace L2
open PySem PySem.Spec PyProof.Rows
def J7:∀{b:je}{a:jA},IntsAre b a->ZT (a.map V.int) b:=by intro _ _ h;induction h with
 | nil=>exact .nil
 | cons n t _ c=>exact .cons ⟨t,Z⟩ c
def KY(H:Hp):Prop:=∀ b,H b=none\/∃ o a,H b=some (.frz o (.lst a))
def AH{P:al}{w:ar}{K:zZ}{M mb:jb}{CX:Wn}{k:Nat}{S a:aj}{fd:am}{x:Str}{sp:Sp}{c:ak}{y:je}{N:jA}(KX:K.In c.heap)(G:c.heap.Ns ao M)(g:c.heap.Ns builtinsNs mb)(U:∀ x:Str,x ≠ "__name__"->mb x=ax x)(E:c.heap.NoLimit)(hg:c.gens=#[])(Q:c.heap.get? a=some { cls:=.type "list",data:=.seq y.toArray })(hi:IntsAre y N)(hl:N.length<=ap)(hr:ZZ k callerA)(F:∀ i:aC,K.In i->i.Ns ao M->ZN P w K M i CX k S fd [x] sp)(t:∀ (s:ak) (u:ai),BindsTo s fd ⟨[u],[]⟩ [(x,u)])(Y:∀ H:Hp,KY H->ZG K H a (N.map V.int)->sp [.ref a] H (λv _=>v=.bl true) λ_ _ _=>False)(T:∀ H e j,CX [] H c (λ_ _ _=>False) e j->False):
  codeAny (az P w) callerA (.call (.ref S) ⟨[.ref a],[]⟩) (λr j=>r=.ok (.ret (.bool true))/\OldK c.heap j.heap/\j.os=c.os/\AllBare j.gens) c:=by
 let rv:=J7 hi;let L:=hi.length;let p:∀ H:Hp,KY H->ZG K H a (N.map V.int)->Yu P w H c.heap->(∀ b,H b≠none->b=a)->(H a≠none->K.lookup a=none) ->
   codeAny (az P w) callerA (.call (.ref S) ⟨[.ref a],[]⟩) (λr j=>r=.ok (.ret (.bool true))/\OldK c.heap j.heap/\j.os=c.os/\AllBare j.gens) c:=by
  intro H hO hS I hA hK;let f:∀{b:aj}{o:aG},c.heap.get? b=some o->H b=none->(Qs c.heap H).get? b=some o:=λe n=>ZLG e n;let a0:∀{b:aj}{o:aG}{C:Array DictEntry}{B:Nat},c.heap.get? b=some o->o.data=.dict C B->H b=none:=fun{b o C B} e d=>by
   cases q:H b with
   | none=>rfl
   | some u=>
    let R:b=a:=hA b (by rw[q];simp)
    subst R;rw[Q] at e;cases e;let d':Data.seq y.toArray _=Data.dict C B:=d;cases d'
  let l:∀{b:aj}{m:jb},c.heap.Ns b m->(Qs c.heap H).Ns b m:=fun{b m} ⟨o,C,B,e,d,r⟩=>⟨o,C,B,f e (a0 e d),d,r⟩;let D:K.In (Qs c.heap H):=λb o e=>f (KX b o e) (by
   cases q:H b with
   | none=>rfl
   | some u=>
    let R:b=a:=hA b (by rw[q];simp)
    subst R;rw[hK (by rw[q];simp)] at e;cases e)
  let hM:Mod K M (Qs c.heap H):=⟨D,l G,⟨mb,l g,U⟩,let ⟨mc,h1,h2⟩:=E;⟨mc,l h1,h2⟩⟩;let e0:Vt P w K M (Qs c.heap H) callerA [] c H:=⟨Z,hM,λb o e=>Dq e,vF (Ey _ _),trivial,λb g=>absurd (show b∈([]:jw) from g) (by simp),I,.of_eq hg⟩
  refine codeAny_mono ((F _ D (l G)).run callerA [] c H ⟨[.ref a],[]⟩ [.ref a] [.ref a] _ _ hr e0 (t c (.ref a)) (.cons rfl .nil) (Y H hO hS)) λr j h=>?_
  cases r with
  | error e=>exact(T H e j h).elim
  | ok fl=>
   cases fl with
   | next=>exact False.elim h
   | brk=>exact False.elim h
   | cont=>exact False.elim h
   | ret u=>
    let⟨v,H',os,A,un,J,r',q⟩:=h;let q':v=.bl true:=q;subst q';obtain rfl:u=Value.bool true:=r';refine⟨Z,OldK.of_keep λb o e=>?_,os,A⟩
    cases q:H b with
    | none=>exact un.keep b o e q (by intro z;exact absurd (show b∈([]:jw) from z) (by simp)) (by simp)
    | some u=>
     rcases hO b with z | ⟨ob,xs,z⟩
     ·rw[q] at z;cases z
     ·let z2:=un.frzs b ob _ z;let⟨e1,_⟩:=I b _ z;let⟨e2,_⟩:=J b _ z2;rw[e] at e1;cases e1;exact e2
 cases X:K.lookup a with
 | some o=>
  let e:=KX a o X;rw[Q] at e;cases e;refine p (λ_=>none) (λ_=>.inl Z) (.inr ⟨_,y.toArray,_,X,rfl,rfl,rfl,by rw[zQ,L];exact hl,by simpa using rv⟩) (λb u z=>by let O:(none:Option HO)=some u:=z;cases O) (λb z=>absurd Z z) λz=>absurd Z z
 | none=>
  refine p (λb=>if b=a then some (.frz { cls:=.type "list",data:=.seq y.toArray } (.lst (N.map V.int))) else none) (λb=>?_) (.inl (.inr ⟨{ cls:=.type "list",data:=.seq y.toArray },aM rfl⟩)) (λb u z=>?_) (λb z=>?_) λ_=>X
  ·by_cases g:b=a
   ·exact .inr ⟨_,_,aM g⟩
   ·exact .inl (aK g)
  ·by_cases g:b=a
   ·let O:=(aM g).symm.trans z;cases O;subst g;exact⟨Q,by rw[zX];exact hl,y,_,rv,Q⟩
   ·let O:=(aK g).symm.trans z;cases O
  ·by_cases g:b=a
   ·exact g
   ·exact absurd (aK g) z
abbrev KOf{K:zZ}{h:aC}(_:K.In h):zZ:=K
def Ma{l:rW}{n k:Nat}{q:al}{loose:jr}{XP:(jb)->aC->Prop}{YP:ar->aC->Prop}{d:DefRec}{K:Params->zZ}{CX:ar->Wn}{sp:ar->Sp}{x:Str}(hn:l.most=some n)(hn2:n<=ap)(hdf:d.params.defaults=[])(hr:ZZ k callerA)(hY:∀ (w:ar) (h:aC),YP w h->(K w.params).In h)(F:∀ (w:ar) (m:jb) (t:aj) (h:aC),(K w.params).In h->h.Ns ao m->m d.name=some (.ref t) ->
   ∃ z:am,(∀ (s:ak) (u:ai),BindsTo s z ⟨[u],[]⟩ [(x,u)]) /\
    ∀ c:aC,(K w.params).In c->c.Ns ao m->ZN l.prog w (K w.params) m c (CX w) k t z [x] (sp w))(hsp:∀ (w:ar) (H:Hp) (a:aj) (y:jA),y.length<=n->KY H->ZG (K w.params) H a (y.map V.int)->sp w [.ref a] H (λv _=>v=.bl true) λ_ _ _=>False)(hCX:∀ (w:ar) (H:Hp) (s:ak) (e:ai) (B:ak),CX w [] H s (λ_ _ _=>False) e B->False):
  PySem.W.WalkO q loose XP YP l.row.toRowW d [] (λf E=>PySem.call f E):=by
 refine Att.attach_call hn hdf λw D r m U t o X Q I a E y G Y S R O A p j i P=>?_;let C:=hY w _ Y;let⟨z,N,J⟩:=F w m t _ C G.T.g A;exact AH C G.T.g G.T.b G.T.builtins G.T.nolimit P p j (zL i hn2) hr J N (λH L M=>hsp w H a y i L M) λH e B=>hCX w H r e B
def XE(s:aB)(j:Nat):Stmt:=match s with
 | .ClassDef _ _ _ a _ _ _ _ _ _ _=>a.getD j (.Pass ⟨0,0,0,0⟩)
 | _=>.Pass ⟨0,0,0,0⟩
def V3(s:aB):Arguments:=match s with
 | .FunctionDef _ a _ _ _ _ _ _ _ _=>a
 | _=>{ posonlyargs:=[],args:=[],vararg:=none,kwonlyargs:=[],kw_defaults:=[],kwarg:=none,defaults:=[] }
def X7(s:aB):List Stmt:=match s with
 | .FunctionDef _ _ b _ _ _ _ _ _ _=>b
 | _=>[]
def Zf(s:aB):Scope:=match s with
 | .FunctionDef _ _ _ _ _ _ a _ _ _=>a
 | _=>{ kind:=.function,names:=[],isGenerator:=false,isCoroutine:=false }
abbrev ZY:Wn:=λ_ _ _ _ _ _=>False
abbrev E0:XK:=λ_ _ _=>False
def YY{X:Cx}:VH ZY X E0:=λ_ _ _ _ _ _ _ h=>h.elim
structure Zn(K:zZ)(x qual:Str)(st:aB)(f:aj)(fd:am):Prop where
 ex:∃(oc:ai)(od:jx)(kV doc pm:ai)(an:jx)(cdv ct:ai)(osl:Array (jd)),
  fd=yA x qual (V3 st) (X7 st) (Zf st) .none kV doc pm an cdv ct/\K.lookup f=some ⟨oc,od,.func fd,osl⟩/\xE K cdv qual=true
 kp:yQ K (.ref f)=true
def Zn.ok{x b:Str}{g:aB}{f:aj}{o:am}{N m:jr}{k:Nat}{n:Sp}(F:Zn K x b g f o)(S:ZB N m (Zf g))(l:∀ e H Q E,n e H Q E->e.length=m.length)(d:∀ (c:ai) (A:aw) (a:jB) (s:ak) (H:Hp) (e:jf) (Q:VK) (E:XK),ZZ k (A.deeper (envOfC b (Zf g) s.heap.objs.size f c))->n e H Q E ->
   let X:=(WW ZY P w K mg kf N b (Zf g) f c A a s H E).nox;∃ t,X4 X (X7 g) t/\t { nx:=λ_ p=>Q .non p,rt:=Q } (start N e) H):ZN P w K mg kf ZY (k+1) f o m n:=by
 let⟨B,C,kV,r,D,z,c,ct,y,rfl,v,i⟩:=F.ex;refine Gq v i S l λA a s H e Q E u j=>?_;let⟨t,h,q⟩:=d c A a s H e Q E u j;exact⟨t,h.nox,q⟩
def Zn.ko{x a:Str}{g:aB}{f:aj}{m:am}{N j:jr}{k:Nat}{l:Sp}(F:Zn K x a g f m)(S:ZB N j (Zf g))(b:∀ (e:ai) (A:aw) (c:jB) (s:ak) (H:Hp) (d:jf) (Q:VK) (E:XK),ZZ k (A.deeper (envOfC a (Zf g) s.heap.objs.size f e))->l d H Q E ->
   let X:=(WW ZY P w K mg kf N a (Zf g) f e A c s H E).nox;∃ t,X4 X (X7 g) t/\t { nx:=λ_ n=>Q .non n,rt:=Q } (start N d) H)(i:∀ d H Q E,l d H Q E->d.length=j.length:=by intro d _ _ _ h;cases h;(try subst d);rfl):ZN P w K mg kf ZY (k+1) f m j l:=F.ok S i b
def Zn.binds{x a:Str}{d:aB}{f:aj}{k:am}{i:jr}(F:Zn K x a d f k)(h:∀ (kV c g:ai) (e:jx) (b ct:ai) (j:je),j.length=i.length->bindArgs (yA x a (V3 d) (X7 d) (Zf d) .none kV c g e b ct) ⟨j,[]⟩=pure (i.zip j)):Z7 K k i []:=by
 let⟨o,p,kV,c,g,e,b,ct,m,rfl,n,l⟩:=F.ex;exact .all (h kV c g e b ct)
def UU{x a:Str}{st:aB}{f:aj}{i:ai}{j g:jx}{e:Array (jd)}{kV d h b ct:ai}(l:K.lookup f=some ⟨i,j,.func (yA x a (V3 st) (X7 st) (Zf st) .none kV d h g b ct),e⟩)(c:xE K b a=true)(k:yQ K (.ref f)=true):Zn K x a st f (yA x a (V3 st) (X7 st) (Zf st) .none kV d h g b ct):=⟨⟨i,j,kV,d,h,g,b,ct,e,Z,l,c⟩,k⟩
def WZ{A:aw}{k:Nat}(a:ZZ k A):A.units+1<cLine:=xJ (Nat.add_le_add_left (by decide:1<=64) _) a.units
def YL{n:Nat}(h:n<=1000):n<sizeLine:=xJ h (by decide)
def pv(i:Nat){x:Str}{b:aH}(c:X.N[i]? = some x:=by rfl)(e:JP X.env.scope x:=by first | exact Or.inl rfl | exact Or.inr (Or.inl rfl) | exact Or.inr (Or.inr rfl))(d:(x==("__debug__" : Str))=false:=by decide)(a:(x==("__classdict__" : Str))=false:=by decide):PE X (.Name x b) (VY i):=ZO7 c e d a
def Zp{A B:Prop}(h:B):if false=true then A else B:=by
 rw[aK zR];exact h
def YJ{A B:Prop}(h:A):if true=true then A else B:=by
 rw[aM rfl];exact h
def Yz{c A B:Prop}[Decidable c](a:c->A)(b:¬ c->B):if c then A else B:=by
 by_cases h:c
 ·rw[aM h];exact a h
 ·rw[aK h];exact b h
def LC{c A B:Prop}[Decidable c](a:c)(h:B):if (!decide c)=true then A else B:=by
 rw[aJ a];exact Zp h
def ZC(H a:Hp):Prop:=∀ b o,H b=some o->a b=some o
def ZC.refl(H:Hp):ZC H H:=λ_ _ h=>h
def ZC.trans{H d e:Hp}(a:ZC H d)(b:ZC d e):ZC H e:=λc o h=>b c o (a c o h)
def ZC.free{H a:Hp}(e:ZC H a){l:aj}(h:a l=tK):H l=tK:=by
 cases q:H l with
 | none=>rfl
 | some o=>
  rw[e l o q] at h;cases h
def ZC.seq{K:zZ}{H b:Hp}{a:aj}{c:jf}(e:ZC H b)(h:ZG K H a c):ZG K b a c:=by
 rcases h with (h | ⟨o,h⟩) | h
 ·exact .inl (.inl (e _ _ h))
 ·exact .inl (.inr ⟨o,e _ _ h⟩)
 ·exact .inr h
section
variable{R:Result->ak->Prop}
def HE{elt target iter:Expr}{ifs:jy}{scope:aD}{pos:aH}{it acc:ai}{env:Env}(I:Nat->ak->Prop)(turn:∀ n s,I n s->aA (az prog w) A (pyNext it) (λr d=>match r with
   | none=>R (.ok .next) d
   | some v=>aA (az prog w) A (letOwnedTupleGo target it v) (λ_ j=>aA (az prog w) A (assign target env v) (λ_ k=>
     aA (az prog w) A (forIn ifs true λc r=>if r=true then do let y<-isTrue c env (aF c env);pure (ForInStep.yield y) else pure (ForInStep.yield r)) (λy f=>
      if y=true then aA (az prog w) A (aF elt env) (λx l=>
       aA (az prog w) A (call (.builtin "list.append") [acc,x]) (λ_ o=>∃ m,m<n/\I m o) (notedBy (az prog w) A env λe b=>R (.error e) b) l) (notedBy (az prog w) A env λe b=>R (.error e) b) f
      else ∃ m,m<n/\I m f) (notedBy (az prog w) A env λe b=>R (.error e) b) k) (notedBy (az prog w) A env λe b=>R (.error e) b) j) (notedBy (az prog w) A env λe b=>R (.error e) b) d) (notedBy (az prog w) A env λe b=>R (.error e) b) s)(n:Nat)(h:I n s):
  codeAny (az prog w) A (.compLoop (.ListComp elt [⟨target,iter,ifs,0⟩] scope pos) 0 it acc env) R s:=by
 refine codeAny_loop Z I (λn s z=>?_) n h;show aA _ A ((compTurn (.ListComp elt [⟨target,iter,ifs,0⟩] scope pos) 0 it acc env).onRaise (λx=>do noteFrame x env;theTreesLotGoes x)) _ _ s
 refine wpAny_noted ?_;rw[compTurn_list];refine aa (ah (aa (ae (turn n s z) (λr d g=>?_) λ_ _ a=>a)))
 cases r with
 | none=>exact ad g
 | some v=>
  refine aa (ae g (λ_ j p=>?_) λ_ _ a=>a);refine aa (ae p (λ_ k q=>aa (ae q (λy f i=>?_) λ_ _ a=>a)) λ_ _ a=>a)
  cases y with
  | false=>exact ad ⟨Z,i⟩
  | true=>
   exact aa (aa (ae i (λx l t=>aa (ae t (λ_ o u=>ad (ad ⟨Z,u⟩)) λ_ _ a=>a)) λ_ _ a=>a))
end
def Xw(b:Env)(l:List (Str×NameKind)):jG->jG:=λa=>l.foldl (λa p=>if p.2==.free then (p.1,(b.cells.lookup p.1).getD 0)::a else a) a
def Ny(a:Env)(l:List (Str×NameKind)):Prop:=∀ p∈l,p.2=.free->∃ c,a.cells.lookup p.1=some c
def Jn{b:Env}{d:aD}(h:Ny b d.names):closureFor d b=pure (Xw b d.names []):=by
 let i:∀(l:List (Str×NameKind))(f:jG),Ny b l->(forIn l f λx r=>if (x.2==.free)=true then do let a<-cellOf b x.1;pure (ForInStep.yield ((x.1,a)::r)) else pure (ForInStep.yield r):Sem (jG))=pure (Xw b l f):=by
  intro l
  induction l with
  | nil=>intro f _;rfl
  | cons p r n=>
   intro f j;let e:Xw b (p::r) f=Xw b r (if p.2==.free then (p.1,(b.cells.lookup p.1).getD 0)::f else f):=rfl
   rw[List.forIn_cons,e]
   cases o:(p.2==NameKind.free) with
   | true=>
    let⟨c,m⟩:=j p zT (eq_of_beq o);let g:cellOf b p.1=pure c:=by unfold cellOf;rw[m]
    simp only[if_true,g,pure_bind];rw[n _ λq k=>j q (zI _ k),m];rfl
   | false=>
    simp only[wS,if_false,pure_bind];exact n _ λq k=>j q (zI _ k)
 have:=i d.names [] h;simpa [closureFor] using this
def Ge{a:Env}:∀{l:List (Str×NameKind)}{b:jG}{x:Str}{c:aj},Ny a l->(Xw a l b).lookup x=some c->b.lookup x=some c\/a.cells.lookup x=some c
 | [],_,_,_,_,h=>.inl h
 | p::r,b,x,c,hf,h=>by
  let i:(Xw a r (if p.2==.free then (p.1,(a.cells.lookup p.1).getD 0)::b else b)).lookup x=some c:=h
  rcases Ge (λq j=>hf q (zI _ j)) i with q | q
  ·cases f:(p.2==NameKind.free) with
   | true=>
    rw[f,aM rfl,xK] at q
    cases e:x==p.1 with
    | true=>
     rw[e] at q;let⟨d,g⟩:=hf p zT (eq_of_beq f);refine .inr ?_;rw[eq_of_beq e,g];rw[g] at q;exact q
    | false=>
     rw[e] at q;exact .inl q
   | false=>
    rw[f,aK zR] at q;exact .inl q
  ·exact .inr q
def GN{a:Env}{x:Str}:∀{l:List (Str×NameKind)}{b:jG},(b.lookup x).isSome=true->((Xw a l b).lookup x).isSome=true
 | [],_,h=>h
 | p::r,b,h=>by
  show ((Xw a r (if p.2==.free then (p.1,(a.cells.lookup p.1).getD 0)::b else b)).lookup x).isSome=true
  refine GN ?_
  cases c:(p.2==NameKind.free) with
  | true=>
   rw[aM rfl,xK]
   cases e:x==p.1 with
   | true=>rfl
   | false=>exact h
  | false=>rw[aK zR];exact h
def F6{a:Env}{x:Str}:∀{l:List (Str×NameKind)}{b:jG},(x,NameKind.free)∈l->((Xw a l b).lookup x).isSome=true
 | [],_,h=>by cases h
 | p::r,b,h=>by
  show ((Xw a r (if p.2==.free then (p.1,(a.cells.lookup p.1).getD 0)::b else b)).lookup x).isSome=true
  rcases zC.mp h with e | h
  ·subst e;refine GN ?_;show (xM x ((x,(a.cells.lookup x).getD 0)::b)).isSome=true;rw[xK,beq_self_eq_true];rfl
  ·exact F6 h
def YU(a:Env)(b:jG):Prop:=∀ x c,b.lookup x=some c->a.cells.lookup x=some c
def YU.get{a:Env}{b:jG}{x:Str}{c:aj}(h:YU a b)(e:b.lookup x=some c):a.cells.lookup x=some c:=h x c e
def KM{a:Env}{l:List (Str×NameKind)}(h:Ny a l):YU a (Xw a l []):=λx c e=>by
 rcases Ge h e with q | q
 ·cases q
 ·exact q
def GC{env:Env}:∀{names:List (Str×NameKind)}{x:Str},names.lookup x=some .free ->
  (names.map fun(n,k)=>if (k==NameKind.free&&env.scope.kind==.function&&env.kindOf n==some .cell) then (n,NameKind.cell) else (n,k)).lookup x=some .cell \/
  (names.map fun(n,k)=>if (k==NameKind.free&&env.scope.kind==.function&&env.kindOf n==some .cell) then (n,NameKind.cell) else (n,k)).lookup x=some .free
 | [],_,h=>by simp at h
 | (n,k)::r,x,h=>by
  rw[xK] at h;simp only[yT]
  cases a:x==n with
  | true=>
   rw[a] at h;cases h;split
   ·exact .inl (by rw[xK,a])
   ·exact .inr (by rw[xK,a])
  | false=>
   rw[a] at h;let b:=GC (env:=env) h;split
   ·rw[xK,a];exact b
   ·rw[xK,a];exact b
def Io{env:Env}:∀{names:List (Str×NameKind)}{x:Str},(∀ y∈names,y.2≠.cell) ->
  ((names.map fun(n,k)=>if (k==NameKind.free&&env.scope.kind==.function&&env.kindOf n==some .cell) then (n,NameKind.cell) else (n,k)).lookup x=some .cell \/
  (names.map fun(n,k)=>if (k==NameKind.free&&env.scope.kind==.function&&env.kindOf n==some .cell) then (n,NameKind.cell) else (n,k)).lookup x=some .free)->(x,NameKind.free)∈names
 | [],_,_,h=>by simp at h
 | (n,k)::r,x,hc,h=>by
  let e:∀ y∈r,y.2≠.cell:=λy f=>hc y (zI _ f);simp only[yT] at h
  cases b:x==n with
  | true=>
   let c:=eq_of_beq b;subst c;by_cases a:k=.free
   ·subst a;exact zT
   ·let d:(k==NameKind.free)=false:=by simpa using a
    simp only[d,uO,wS,if_false,xK,beq_self_eq_true] at h;rcases h with h | h
    ·exact absurd (zB.inj h) (hc _ zT)
    ·exact absurd (zB.inj h) a
  | false=>
   refine zI _ (Io (env:=env) e ?_);split at h
   ·simpa only [xK,b] using h
   ·simpa only [xK,b] using h
def YA(X:Cx)(a:aD):jo->jr->Prop
 | [],[]=>True
 | i::is,y::ys=>X.N[i]? = some y/\(X.env.kindOf y=some .cell\/X.env.kindOf y=some .free)/\a.names.lookup y=some .free/\YA X a is ys
 | _,_=>False
def YA.len{X:Cx}{a:aD}:∀{b:jo}{c:jr},YA X a b c->b.length=c.length
 | [],[],_=>rfl
 | _::_,_::_,h=>congrArg (· + 1) h.2.2.2.len
def YA.get{X:Cx}{a:aD}:∀{b:jo}{c:jr}{j:Nat}{y:Str},YA X a b c->c[j]? = some y ->
  ∃ i,b[j]? = some i/\X.N[i]? = some y/\(X.env.kindOf y=some .cell\/X.env.kindOf y=some .free)/\a.names.lookup y=some .free
 | [],[],_,_,_,h=>by simp at h
 | i::_,z::_,0,y,f,h=>by
  simp at h;subst h;exact⟨i,Z,f.1,f.2.1,f.2.2.1⟩
 | _::b,_::c,j+1,y,f,h=>by
  let⟨i,e,r⟩:=YA.get (j:=j) f.2.2.2 (by simpa using h)
  exact⟨i,by simpa using e,r⟩
def Yl(X:Cx)(N:jr)(a:aD)(b:jG)(C:aj)(s:ak)(H:Hp)(c:jw)(E:ja):Cx where
 prog:=X.prog
 w:=X.w
 K:=X.K
 mg:=X.mg
 base:=X.base
 A:=X.A
 N:=N
 s₀:=s
 H₀:=H
 env:=compEnvC a b C X.env
 outer:=X.stack
 stack:=X.stack
 ex:=c
 fn:=λ_=>false
 calm:=X.calm
 pn:=[]
 xe:=E
def Fu(b:St)(a:jo):St:=none::a.map λi=>(b[i]?).join
def Q2(b:St)(a:jo)(x:V):St:=some x::a.map λi=>(b[i]?).join
def Q5(X:Cx)(b:jy)(e:TT):Prop:=
 ∀(a:js)(s:ak)(d:St)(H:Hp)(Q:Bool->Hp->Prop),ZE X a d H s->e d H Q ->
  aA (az X.prog X.w) X.A (forIn b true λc r=>if r=true then do let ok<-isTrue c X.env (aF c X.env);pure (ForInStep.yield ok) else pure (ForInStep.yield r)) (TP X a d Q) X.xe s
def O8:TT:=λ_ H Q=>Q true H
def Vh{X:Cx}:Q5 X [] O8:=λ_ _ _ H _ I h=>wpAny_tests_nil ⟨H,I,h⟩
def Q6{X:Cx}{c:Expr}{t:TT}(h:PT X c t):Q5 X [c] t:=λa s d H Q I b=>wpAny_tests_one (h a s d H Q I b)
def Xs(J:It)(j:St)(h:jo)(l:TT)(k:TE)(e:Hp)(Q:VK):Prop:=
 ∀ D,e D=none->∃ W:Nat->Nat->Hp->Prop,(∃ m,W 0 m (upd e D (.lst [])))/\∀ i m H,W i m H ->
  (J.stop i H/\Q (.ref D) H)\/(J.go i H/\∀ x d,J.yld i H x d->l (Q2 j h x) d λc f=>
   if c=true then k (Q2 j h x) f λy g=>∃ b a,g D=some (.lst b)/\b.length<ap/\a<m/\W (i+1) a (upd g D (.lst (b++[y])))
   else ∃ a,a<m/\W (i+1) a f)
def Jl(f:TI)(c:jo)(e:TT)(d:TE):TE:=λa H Q=>f a H λJ b=>Xs J a c e d b Q
section
variable{ke:js}{σ:St}{H:Hp}
def ZJd{b:jo}{j:Nat}{v:V}(h:(b.map λi=>(σ[i]?).join)[j]? = some (some v)):∃ i,b[j]? = some i/\σ[i]? = some (some v):=by
 rw[zS] at h
 cases e:b[j]? with
 | none=>rw[e] at h;cases h
 | some i=>
  rw[e] at h;let a:(σ[i]?).join=some v:=zB.inj h;exists i,Z
  cases q:σ[i]? with
  | none=>rw[q] at a;cases a
  | some o=>
   rw[q] at a
   cases o with
   | none=>cases a
   | some z=>cases a;rfl
def Ox(a:Env)(l:List (Str×NameKind)):Bool:=l.all λp=>!(p.2==.free) || a.kindOf p.1==some .cell || a.kindOf p.1==some .free
def Jo{X:Cx}{l:List (Str×NameKind)}(a:X.Ok)(h:Ox X.env l=true):Ny X.env l:=λp c b=>by
 let q:=yY.mp h p c;rw[b] at q;let d:(X.env.kindOf p.1==some .cell || X.env.kindOf p.1==some .free)=true:=by simpa using q
 rcases Bool.or_eq_true_iff.mp d with q | q
 ·exact a.has p.1 (.inl (eq_of_beq q))
 ·exact a.has p.1 (.inr (eq_of_beq q))
def OJ(a:aD)(x:Str):Bool:=a.kind==.function&&a.names.lookup x==some .local&&a.names.all (λp=>!(p.2==.cell))&&a.names.all (λp=>!(p.2==.local) || a.names.lookup p.1==some .local)
structure Qu(scope:aD)(x:Str):Prop where
 kind:scope.kind=.function
 own:scope.names.lookup x=some .local
 cell:∀ y∈scope.names,y.2≠.cell
 names:∀ y∈scope.names,y.2=.local->scope.names.lookup y.1=some .local
def N8{a:aD}{x:Str}(h:OJ a x=true):Qu a x:=by
 unfold OJ at h;rw[zO,zO,zO] at h;let⟨⟨⟨c,d⟩,e⟩,f⟩:=h;refine⟨eq_of_beq c,eq_of_beq d,λy b z=>?_,λy b z=>?_⟩
 ·have:=yY.mp e y b;rw[z] at this;cases this
 ·have:=yY.mp f y b;rw[z] at this;let q:(a.names.lookup y.1==some NameKind.local)=true:=by simpa using this
  exact eq_of_beq q
def JW{a:aD}{b:Env}(d:∀ y∈a.names,y.2≠.cell)(y:Str)(h:(relabel a b).names.lookup y=some .cell\/(relabel a b).names.lookup y=some .free):∃ c,(Xw b a.names []).lookup y=some c:=
 rZ.mp (F6 (Io d h))
def HH(i:Nat)(t:TE):TS:=λD σ H=>t σ H λv a=>D.nx (σ.set i (some v)) a
end
end L2
local macro_rules|`(tactic|lia)=>`(tactic|first|assumption|exact xJ ‹_› ‹_›|exact yG ‹_› ‹_›|exact zL ‹_› ‹_›|exact zL ‹_› (yU rfl)|exact yG ‹_› (yU rfl)|exact xJ ‹_› (yU rfl)|exact zL (zL ‹_› ‹_›) (yU rfl)|exact zL (vF ‹_›) (zL ‹_› (yU rfl))|exact zL (vF (Eq.symm ‹_›)) (zL ‹_› (yU rfl))|exact xV ‹_›|exact Nat.pos_of_ne_zero ‹_›|exact wH ‹_›|exact Nat.succ_le_succ ‹_›|exact yU rfl|exact zY _|exact sV _ _|exact Nat.le_add_left _ _|exact uZ _ _|exact Int.natCast_nonneg _|exact Nat.lt_of_not_le ‹_›|exact uL ‹_›|exact Int.lt_of_not_ge ‹_›|exact Int.not_lt.mp ‹_›|exact sM ‹_› (xT _)|exact Nat.lt_of_lt_of_eq ‹_› (Eq.symm ‹_›)|exact Nat.lt_of_lt_of_eq ‹_› ‹_›|exact Eq.symm (Nat.succ_pred_eq_of_ne_zero ‹_›)|exact Nat.add_sub_of_le ‹_›|exact Nat.add_lt_of_lt_sub' ‹_›|exact Int.ofNat_lt.mpr ‹_›|exact xJ (sV _ _) ‹_›|exact zL (sT _ _) (uZ _ _)|exact zL (sT _ _) (zL (uZ _ _) ‹_›)|exact zL (uZ _ _) ‹_›|exact Nat.le_sub_of_add_le' ‹_›|exact Nat.le_sub_of_add_le ‹_›|exact Int.le_trans ‹_› ‹_›|exact xJ (vF ‹_›) ‹_›|lia (splits:=8))
namespace L2
open PySem PySem.Spec PyProof.Rows
def M0(b:jr)(c:St)(a:jo):St:=b.map (λ_=>(none:jg))++a.map λi=>(c[i]?).join
def O9(J:It)(k:Nat)(g:TG)(p:St)(n:jo)(s:TT)(r:TE)(h:Hp)(Q:VK):Prop:=
 ∀ D,h D=none->∃ W:Nat->Nat->Hp->Prop,(∃ m,W 0 m (upd h D (.lst [])))/\∀ i m H,W i m H ->
  (J.stop i H/\Q (.ref D) H)\/(J.go i H/\∀ x f,J.yld i H x f->∀ o:St,o.length=k->g x (o++n.map λi=>(p[i]?).join) f λa q=>(∃ d:St,d.length=k/\a=d++n.map λi=>(p[i]?).join)/\s a q λc j=>
   if c=true then r a j λy l=>∃ e b,l D=some (.lst e)/\e.length<ap/\b<m/\W (i+1) b (upd l D (.lst (e++[y])))
   else ∃ b,b<m/\W (i+1) b j)
def F8(k:Nat)(g:TG)(f:TI)(c:jo)(e:TT)(d:TE):TE:=λa H Q=>f a H λJ b=>O9 J k g a c e d b Q
section
variable{ke:js}{σ:St}{H:Hp}
def HU{xs J:jr}{G:jo}{a:aD}{K:jG}{fp:jw}{E:ja}{g:aC}{D C n tk:Nat}{m:jb}(I:ZE X ke σ H s)(M:∀ b∈fp,Wm X ke H b/\b<s.heap.objs.size)(f:YU X.env K)(A:a.kind=.function)(t:∀ y,((relabel a X.env).names.lookup y=some .cell\/(relabel a X.env).names.lookup y=some .free)->∃ c,K.lookup y=some c)(fo:YA X a G J)(L:s.heap.objs.size<=D)(Q:s.heap.objs.size<=C)(R:D≠C)(S:g.Ns C m)(k:∀ b o,s.heap.get? b=some o->g.get? b=some o)(hd:g.get? D=some { cls:=.type "list",data:=.seq ([]:je).toArray n }):
  ZE (Yl X (xs++J) a K C s H fp E) [] (M0 xs σ G) (upd H D (.lst [])) { s with heap:=g,toks:=tk }:=by
 let d:∀ y c,K.lookup y=some c->c<s.heap.objs.size:=λy c e=>by
  let⟨v,q⟩:=I.cell y c (f.get e);exact q.lt
 refine⟨⟨I.ok.mod,A,I.ok.glob,I.ok.blt,Q,λy z c h1 h2=>I.ok.inj y z c (f.get h1) (f.get h2),t,λy c h _=>absurd h (by simp[Yl]),I.ok.hd,I.ok.frames,.inl Z,λb F=>⟨?_,λy c e=>?_⟩,I.bs,zL I.ok.bsz I.sz,λb o e F=>?_,λb F z=>?_,I.stack,I.stkFree⟩,
  Z,I.bare,Un.laid k L (I.hok.fresh L),⟨m,S,λj y v e1 Y B=>?_⟩,λy c e=>?_,?_,λy c e=>?_,λp hp=>absurd (show p∈([]:js) from hp) (by simp),I.hok.laid k L ?_,?_⟩
 ·exact zK (yG (M b F).2 Q)
 ·exact(M b F).1.2.2.2.2.1 y c (f.get e)
 ·let⟨_,_,_,z,_⟩:=(M b F).1;rcases z with z | z
  ·exact I.ok.noex b o e z
  ·exact absurd (yG (zU (I.ok.bs b o e).1) z) (xH _)
 ·let⟨_,z1,z2,_⟩:=(M b F).1;rcases zC.mp (I.stkSub b z) with q | q
  ·exact z1 q
  ·exact z2 q
 ·by_cases N:j<xs.length
  ·exfalso
   let B:(xs.map (λ_=>(none:jg))++G.map λi=>(σ[i]?).join)[j]? = some (some v):=Y;rw[wO (by rw[zX];exact N),zS,zW N] at B
   cases B
  ·let W:(xs++J)[j]? = some y:=e1;let O:J[j-xs.length]? = some y:=by rw[wM (uL N)] at W;exact W
   let B:(xs.map (λ_=>(none:jg))++G.map λi=>(σ[i]?).join)[j]? = some (some v):=Y;let P:(G.map λi=>(σ[i]?).join)[j-xs.length]? = some (some v):=by
    rw[wM (by rw[zX];exact uL N),zX] at B
    exact B
   let⟨i,q1,q2⟩:=ZJd P;let⟨i',p1,p2,w,U⟩:=fo.get O;rw[q1] at p1;cases p1;let p4:(relabel a X.env).names.lookup y=some .cell\/(relabel a X.env).names.lookup y=some .free:=GC U;let⟨c,p5⟩:=t y p4;let⟨m0,a0,hl⟩:=I.loc;let⟨u,r,l⟩:=hl i y v p2 q2 (.inr w);refine⟨u,r,.inr ⟨p4,c,p5,?_⟩⟩;rcases l with ⟨l1,_⟩ | ⟨_,c',l2,l3⟩
   ·rcases w with w | w
    ·rw[l1] at w;cases w
    ·rw[l1] at w;cases w
   ·rw[f.get p5] at l2;cases l2;let⟨o,T,x⟩:=l3;exact⟨o,k _ _ T,x⟩
 ·let⟨v,o,T,x⟩:=I.cell y c (f.get e);exact⟨v,o,k _ _ T,x⟩
 ·show upd H D (.lst []) C=none;rw[ZM (Ne.symm R)];exact I.hok.fresh Q
 ·show upd H D (.lst []) c=none;rw[ZM (zK (yG (d y c e) L))];exact I.freeC y c (f.get e)
 ·exact⟨zF _,[],n,.nil,hd⟩
 ·show (M0 xs σ G).length=(xs++J).length;unfold M0;rw[zH,zX,zX,fo.len,zH]
def EL(k:Nat)(c:jo)(σ a:St):Prop:=∃ b:St,b.length=k/\a=b++c.map λi=>(σ[i]?).join
inductive Kq(Y:Cx)(k:Nat)(f:jo)(σ:St)(g:Nat->aC->Prop)(e:jw)(W:Nat->Nat->Hp->Prop)(n:Nat)(d:ak):Prop
 |mk(i:Nat)(a:St)(c:Hp):ZE Y [] a c d->EL k f σ a->g i d.heap->(∀ b∈e,c b=none)->W i n c->Kq Y k f σ g e W n d
def EG{elt iter tg:Expr}{xs:jr}{g:TG}{ifs:jy}{scope:aD}{cl:jG}{pos:aH}{ix:jo}{ys:jr}{tt:TT}{te:TE}{it:aj}{fp:jw}{tn:Nat->aC->Prop}{J:It}{Q:VK}{E:ja}{RR:ai->aj->Result->ak->Prop}(hc:X.calm=true)(hg:∀ C s H fp E,PG (Yl X (xs++ys) scope cl C s H fp E) tg g)(ht:∀ C s H fp E,Q5 (Yl X (xs++ys) scope cl C s H fp E) ifs tt)(he:∀ C s H fp E,PE (Yl X (xs++ys) scope cl C s H fp E) elt te)(sub:YU X.env cl)(jj:scope.kind=.function)(jn:∀ y∈scope.names,y.2≠.cell)(hhas:∀ y,((relabel scope X.env).names.lookup y=some .cell\/(relabel scope X.env).names.lookup y=some .free)->∃ c,cl.lookup y=some c)(fo:YA X scope ix ys)(I:ZE X ke σ H s)(T:VQ X.prog X.w X.K tg J fp it tn)(st:tn 0 s.heap)(hf:∀ b∈fp,Wm X ke H b)(q:O9 J xs.length g σ ix tt te H Q)(hRR:∀ D C s' H' m,s.heap.objs.size<=C->ZE X ke σ H' s'->Wm X ke H' C->s'.heap.Ns C m->Q (.ref D) H'->RR (.ref D) C (.ok .next) s'):
  aA (az X.prog X.w) X.A (newList []) (λacc s₃=>aA (az X.prog X.w) X.A (newFunctionEnv scope X.env.globals cl [] X.env.qual none .none (some X.env)) (λcenv s₄=>
   codeAny (az X.prog X.w) X.A (.compStart (.ListComp elt [⟨tg,iter,ifs,0⟩] scope pos) 0 (.ref it) acc { cenv with scope:=relabel scope X.env }) (RR acc cenv.locals) s₄) E s₃) E s:=by
 refine wpAny_newObj_type (wpAny_newFunctionEnv jn (by intro y hy;simp at hy) (λh₁ hns₁ hsb₁=>?_) jj)
 dsimp only at hns₁ hsb₁⊢;generalize hH2:s.heap.push { cls:=.type "list",dict:=none,data:=.seq ([]:je).toArray }=H2 at hns₁ hsb₁⊢;let hC:H2.objs.size=s.heap.objs.size+1:=by rw[<-hH2,vU]
 let hDC:s.heap.objs.size≠H2.objs.size:=by rw[hC];exact zK (xT _)
 let hCle:s.heap.objs.size<=H2.objs.size:=by rw[hC];exact yB _
 let below:∀ b,b<s.heap.objs.size->b≠H2.objs.size/\b≠s.heap.objs.size:=λb hb=>⟨by rw[hC];exact zK (wG hb),zK hb⟩
 let old:∀ b o,s.heap.get? b=some o->h₁.get? b=some o:=λb o e=>hsb₁.extBut b o (below b (zU e)).1 (zP _ (hH2 ▸ zP _ e));let hacc:∃ n,h₁.get? s.heap.objs.size=some { cls:=.type "list",data:=.seq ([]:je).toArray n }:=⟨_,hsb₁.extBut _ _ hDC (zP _ (hH2 ▸ yS _ rfl))⟩;let⟨nD,hacc⟩:=hacc;let hf':∀ b∈fp,Wm X ke H b/\b<s.heap.objs.size:=λb hb=>⟨hf b hb,by let⟨o,e,_⟩:=T.obj 0 _ st b hb;exact zU e⟩
 let hDn:H s.heap.objs.size=none:=I.hok.fresh (zY _);let⟨W,⟨m0,w0⟩,turn⟩:=q _ hDn;generalize hE:notedBy (az X.prog X.w) X.A (compEnvC scope cl H2.objs.size X.env) (λe s'=>RR (.ref s.heap.objs.size) H2.objs.size (.error e) s')=EE;let I0:ZE (Yl X (xs++ys) scope cl H2.objs.size s H fp EE) [] (M0 xs σ ix) (upd H s.heap.objs.size (.lst [])) { s with heap:=h₁,toks:=s.toks+([]:jJ).length }:=
  HU I hf' sub jj hhas fo (zY _) hCle hDC hns₁ old hacc
 let st1:tn 0 h₁:=T.keep _ _ _ st λb _ o e=>old b o e;let fr1:∀ b∈fp,upd H s.heap.objs.size (.lst []) b=none:=λb hb=>by rw[ZM (below b (hf' b hb).2).2];exact(hf b hb).1
 let stat:∀{H':Hp},(∀ b∈fp,H' b=none)->∀ b∈fp,Wm (Yl X (xs++ys) scope cl H2.objs.size s H fp EE) [] H' b:=λhn b hb=>
  ⟨hn b hb,(I0.ok.exf b hb).1,I0.ok.exfs b hb,.inl hb,(I0.ok.exf b hb).2,λp hp=>absurd (show p∈([]:js) from hp) (by simp)⟩
 let loop:∀ s₃:ak,s₃={ s with heap:=h₁,toks:=s.toks+([]:jJ).length } ->
   codeAny (az X.prog X.w) X.A (.compLoop (.ListComp elt [⟨tg,iter,ifs,0⟩] scope pos) 0 (.ref it) (.ref s.heap.objs.size) (compEnvC scope cl H2.objs.size X.env)) (RR (.ref s.heap.objs.size) H2.objs.size) s₃:=by
  rintro s₃ rfl;refine HE (Kq (Yl X (xs++ys) scope cl H2.objs.size s H fp EE) xs.length ix σ tn fp W) ?_ m0 ⟨0,_,_,I0,⟨_,zX _,Z⟩,st1,fr1,w0⟩;rintro n s3 ⟨i,σ3,H3,I3,⟨o3,ho3,hσ3⟩,st3,fr3,w3⟩;rw[hE];rcases turn i n H3 w3 with ⟨stop,qn⟩ | ⟨go,step⟩
  ·refine Zz (T.done (Yl X (xs++ys) scope cl H2.objs.size s H fp EE) Z Z Z hc i [] s3 σ3 H3 EE I3 (stat fr3) st3 stop) ?_;rintro r s4 ⟨hr,I4⟩;subst hr;let⟨m4,hn4,_⟩:=I4.loc;let Ix:ZE X ke σ H3 s4:=I.call' (s':=s4) (ch:=fp) I4.os I4.base I4.hok I4.bare λb hb=>by
    let⟨_,z1,_,z3,z4,z5⟩:=hf b hb;exact⟨z3,z1,z4,z5⟩
   exact hRR _ _ s4 H3 m4 hCle Ix (I.fpOk hCle I4.free) hn4 qn
  ·refine Zz (T.item (Yl X (xs++ys) scope cl H2.objs.size s H fp EE) Z Z Z hc i [] s3 σ3 H3 EE I3 (stat fr3) st3 go) ?_;rintro r s4 ⟨u,hr,h4⟩;subst hr;refine Zz h4 ?_;rintro _ s5 ⟨xv,H5,I5,r5,y5,st5,fr5⟩;let I5':=I5.pinned (stat fr5) (T.obj _ _ st5);let again:∀{σ7:St}{H7:Hp}{s7:ak}{m':Nat},ZE (Yl X (xs++ys) scope cl H2.objs.size s H fp EE) ([]++Ow fp s5.heap) σ7 H7 s7->EL xs.length ix σ σ7->m'<n->W (i+1) m' H7 ->
     ∃ m,m<n/\Kq (Yl X (xs++ys) scope cl H2.objs.size s H fp EE) xs.length ix σ tn fp W m s7:=fun{σ7 H7 s7 m'} I7 e7 hm w7=>by
    refine⟨m',hm,.mk (i+1) σ7 H7 I7.unpinned e7 (T.keep _ _ _ st5 λb hb o e=>(I7.pin (b,o) (yI _ (yI _ (Oz hb e)))).1) (λb hb=>?_) w7⟩;let⟨o,e,d⟩:=T.obj _ _ st5 b hb;exact(I7.pin (b,o) (yI _ (yI _ (Oz hb e)))).2.1
   let stp:=step xv _ y5 o3 ho3;rw[<-hσ3] at stp;refine Zz (hg _ _ _ _ _ _ s5 σ3 H5 xv u _ I5' r5 stp) ?_;rintro _ s6 ⟨σ6,H6,I6,e6,q6⟩;refine Zz (ht _ _ _ _ _ _ s6 _ _ _ I6 q6) ?_;rintro ok s7 ⟨H7,I7,q7⟩
   cases ok with
   | false=>
    rw[aK zR] at q7⊢;let⟨m',hm,w7⟩:=q7;exact again I7 e6 hm w7
   | true=>
    rw[aM rfl] at q7⊢;refine Zz (he _ _ _ _ _ _ s7 _ _ _ I7 q7) ?_;rintro y s8 ⟨yv,H8,I8,r8,ys8,m',e8,z8,hm,w8⟩;refine Zz (UF _ s8 _ H8 (.ref s.heap.objs.size) [yv] (.ref s.heap.objs.size) [y] (λ_ H9=>W (i+1) m' H9) I8 Z (.cons r8 .nil) ⟨_,ys8,yv,Z,Z,e8,z8,w8⟩) ?_;rintro _ s9 ⟨_,H9,I9,_,w9⟩;exact again I9 e6 hm w9
 exact codeAny_compStart_list (loop _ Z) (T.self _ 0 _ _ _ st1 (loop _ rfl))
def Hm{f c t:Expr}(j:jr)(x:Str){g:TG}{i:jy}{a:aD}{p:aH}{G:TI}{z:TT}{y:TE}(u:jo)(k:jr)(hc:X.calm=true)(hg:∀ C s H d E,PG (Yl X (j++k) a (Xw X.env a.names []) C s H d E) t g)(hi:PI X t c G)(ht:∀ C s H d E,Q5 (Yl X (j++k) a (Xw X.env a.names []) C s H d E) i z)(he:∀ C s H d E,PE (Yl X (j++k) a (Xw X.env a.names []) C s H d E) f y)(W:YA X a u k)(hk:Ox X.env a.names=true:=by rfl)(n:OJ a x=true:=by rfl)(hs:∀ x,foldedSetIterable c X.env x=pure x:=by intro _;rfl):
  PE X (.ListComp f [⟨t,c,i,0⟩] a p) (F8 j.length g G u z y):=by
 intro ke s σ H Q I h;let B:=N8 n;let F:=Jo I.ok hk;rw[eval_ListComp];refine wpAny_comprehension_free (use:=none) Z hs (Jn F) B.kind B.names (Zz (hi ke s σ H _ I h) λv s1 Y=>Zz Y λa0 s2 h2=>?_);let⟨it,d,tn,J,H2,e,L,T,r,P,q2⟩:=h2;subst e;refine EG (RR:=λl C=>compPost (az X.prog X.w) X.A X.xe none (EP X ke σ Q) l C) hc hg ht he (KM F) B.kind B.cell (JW B.cell) W L T r P q2 ?_;intro D C s' K m hC M V hn q;refine⟨m,hn,λh' sb=>⟨.ref D,K,?_,Z,q⟩⟩;let⟨N,O,_,R,S,U⟩:=V;exact M.turned (t':=s'.toks) (λb o n e=>(sb.2 b n).trans e) N O R S U
def Jk{f d u:Expr}(G:jr)(x:Str){g:TG}{y:Str}{p:aH}{j:jy}{c:aD}{l k:aH}{wi:TI}{tt:TT}{te:TE}{i:Nat}(ix:jo)(K:jr)(hN:X.N.Nodup)(O:X.N[i]? = some y)(Y:X.env.scope.names.lookup y=some .local)(hc:X.calm=true)(hg:∀ C s H n E,PG (Yl X (G++K) c (Xw X.env c.names []) C s H n E) u g)(hi:PI X u d wi)(ht:∀ C s H n E,Q5 (Yl X (G++K) c (Xw X.env c.names []) C s H n E) j tt)(he:∀ C s H n E,PE (Yl X (G++K) c (Xw X.env c.names []) C s H n E) f te)(fo:YA X c ix K)(P:swapsWith (.ListComp f [⟨u,d,j,0⟩] c l) (some (.Name y p)) k.line X.env=pure true:=by rfl)(hk:Ox X.env c.names=true:=by rfl)(M:OJ c x=true:=by rfl)(hs:∀ x,foldedSetIterable d X.env x=pure x:=by intro _;rfl):
  PS X (.Assign [.Name y p] (.ListComp f [⟨u,d,j,0⟩] c l) k) (HH i (F8 G.length g wi ix tt te)):=by
 intro ke s σ H D I h;let B:=N8 M;let F:=Jo I.ok hk;rw[exec_Assign_Name_used _ _ _ _ P];refine aa (ah (aa ?_));show aA _ X.A (do let _<-comprehension (.ListComp f [⟨u,d,j,0⟩] c l) c X.env _ (newList []) false (aF d X.env) (some (assign (.Name y p) X.env))) _ _ s
 refine aa (ae (wpAny_comprehension_free (use:=some (assign (.Name y p) X.env)) (Q:=λ_ t=>SP X ke D .next t) rfl hs (Jn F) B.kind B.names
  (Zz (hi ke s σ H _ I h) λv s1 h1=>Zz h1 λa0 s2 h2=>?_)) (λ_ t hq=>ad (ad hq)) λ_ _ e=>e)
 let⟨it,n,tn,J,H2,e,I2,T,S,f2,q2⟩:=h2;subst e;refine EG (RR:=λL C=>compPost (az X.prog X.w) X.A X.xe (some (assign (.Name y p) X.env)) (λ_ t=>SP X ke D .next t) L C) hc hg ht he (KM F) B.kind B.cell (JW B.cell) fo I2 T S f2 q2 ?_;intro U C t H' m hC Ix fC hn q;let⟨f0,V,_,f3,W,f5⟩:=fC;show aA _ X.A (assign (.Name y p) X.env (.ref U)) _ _ _;refine wpAny_assign_Name (Gi Ix hN O (.inl Y) (v:=.ref U) Z (λs3 I3 ⟨a,sb,r⟩=>?_) (.inr Y));let ne:C≠a:=by
  rcases r with r | r
  ·rw[r];exact V
  ·exact λz=>W y a r z.symm
 refine⟨m,hn.sameBut sb ne,λh' R=>⟨_,H',?_,q⟩⟩;exact I3.turned (t':=s3.toks) (λb o M e=>(R.2 b M).trans e) f0 V f3 W f5
def P0(K:zZ):TG:=NU K 2 (QD (QJ 0) (QD (QJ 1) FK))
def Lg{x y:Str}{h i a:aH}{k:Nat}(g:X.calm=true)(b:X.N.Nodup)(e:X.N[0]? = some x)(f:X.N[1]? = some y)(c:X.env.scope.names.lookup x=some .local)(d:X.env.scope.names.lookup y=some .local):PG X (.Tuple [.Name x h,.Name y i] k a) (P0 X.K):=
 Qd g (Y7 (Qo b e (.inl c) (.inr c)) (Y7 (Qo b f (.inl d) (.inr d)) QV))
def AV{J:It}{K:zZ}{o:jo}{q:TE}{Q:VK}{n:Nat}(f:Nat->V->Prop)(d:aj->Nat->jf->Hp->Prop)(N:n<ap)(l:∀ D i b H,i<n->d D i b H->J.go i H)(E:∀ D i b H x h,i<n->d D i b H->J.yld i H x h->h=H/\f i x)(g:∀ D b H,d D n b H->J.stop n H)(w:∀ D,H D=none->d D 0 [] (upd H D (.lst [])))(step:∀ D i b H x,H D=some (.lst b)->b.length<=i->i<n->f i x->d D i b H->∃ a u v,x=.ref a/\Zb K H a [u,v]/\∀ R:VK,(∀ y j,j D=some (.lst b)->d D (i+1) (b++[y]) (upd j D (.lst (b++[y])))->R y j)->q ([some u,some v]++o.map λi=>(σ[i]?).join) H R)(k:∀ D b H,H D=some (.lst b)->d D n b H->Q (.ref D) H):O9 J 2 (P0 K) σ o O8 q H Q:=by
 intro D z;exists λi m H=>m=n-i/\i<=n/\∃ b,H D=some (.lst b)/\b.length<=i/\d D i b H,⟨n,rfl,zF _,[],ZP,zY _,w D z⟩;rintro i m H ⟨rfl,M,b,e,A,p⟩;by_cases c:i<n
 ·refine .inr ⟨l D i b H c p,λx h y G B=>?_⟩;let⟨rfl,F⟩:=E D i b H x h c p y;let⟨a,u,v,rfl,C,L⟩:=step D i b _ x e A c F p
  match G,B with
  | [O,P],_=>
   exists a,_,Z,C,Z,u,_,Z,v,_,Z,Z,⟨[some u,some v],Z,Z⟩;unfold O8;dsimp only;rw[aM rfl];refine L _ λy j t I=>?_;exact⟨b,n-(i+1),t,∅,∅,Z,c,b++[y],ZP,by rw[zH,xU];lia,I⟩
 ·let r:i=n:=∅
  subst r;exact .inl ⟨g D b H p,k D b H e p⟩
def ZKx{x:Str}{q:jr}{p:jo}{a:aD}{g:jG}{l:jw}{E:ja}{d:aC}{D C n z:Nat}{m:jb}(I:ZE X ke σ H s)(w:∀ b∈l,Wm X ke H b/\b<s.heap.objs.size)(j:YU X.env g)(e:a.kind=.function)(f:∀ y,((relabel a X.env).names.lookup y=some .cell\/(relabel a X.env).names.lookup y=some .free)->∃ c,g.lookup y=some c)(r:YA X a p q)(u:s.heap.objs.size<=D)(t:s.heap.objs.size<=C)(h:D≠C)(i:d.Ns C m)(k:∀ b o,s.heap.get? b=some o->d.get? b=some o)(v:d.get? D=some { cls:=.type "list",data:=.seq ([]:je).toArray n }):
  ZE (Yl X (x::q) a g C s H l E) [] (Fu σ p) (upd H D (.lst [])) { s with heap:=d,toks:=z }:=
 HU (xs:=[x]) I w j e f r u t h i k v
def Xs.toT{J:It}{a:jo}{c:TT}{b:TE}{Q:VK}(h:Xs J σ a c b H Q):O9 J 1 (QJ 0) σ a c b H Q:=λD f=>by
 let⟨W,e,j⟩:=h D f;refine⟨W,e,λi m H k=>(j i m H k).imp id λq=>⟨q.1,λx d y l g=>?_⟩⟩;let⟨_,rfl⟩:=List.length_eq_one_iff.mp g;exact⟨⟨[some x],Z,Z⟩,q.2 x d y⟩
inductive NV(c:TI)(σ:L2.St)(H:Hp)(K:It->Hp->Prop):Prop
 |mk(b:It->Hp->Prop)(_:c σ H b)(_:∀ J a,b J a->K J a)
def PI.more{i g:Expr}{j:TI}(h:PI X i g j):PI X i g (NV j):=λke s σ H R I ⟨l,n,f⟩=>
 ae (h ke s σ H l I n) (λ_ _ z=>ae z (by rintro _ _ ⟨o,m,p,J,k,a,b,c,d,e,r⟩;exact⟨o,m,p,J,k,a,b,c,d,e,f _ _ r⟩) λ_ _ z=>z) λ_ _ z=>z
def UD{c b:Expr}{x:Str}{o:aH}{d:jy}{a:aD}{l:aH}{r:TI}{q:TT}{p:TE}(k:jo)(e:jr)(u:X.calm=true)(w:PI X (.Name x o) b r)(B:∀ C s H f E,Q5 (Yl X (x::e) a (Xw X.env a.names []) C s H f E) d q)(v:∀ C s H f E,PE (Yl X (x::e) a (Xw X.env a.names []) C s H f E) c p)(t:YA X a k e)(y:Ox X.env a.names=true:=by rfl)(m:OJ a x=true:=by rfl)(j:(x::e).Nodup:=by decide +kernel)(A:∀ x,foldedSetIterable b X.env x=pure x:=by intro _;rfl):
  PE X (.ListComp c [⟨.Name x o,b,d,0⟩] a l) (Jl r k q p):=by
 intro ke s σ H Q I h;let n:(relabel a X.env).names.lookup x=some .local:=lookup_relabel_local (N8 m).own;exact Hm [x] x (g:=QJ 0) k e u (λ_ _ _ _ _=>Qo (i:=0) j Z (Or.inl n) (Or.inr n)) (PI.more w) B v t y m A ke s σ H Q I ⟨_,h,λ_ _ z=>Xs.toT z⟩
def Og{d b:Expr}{x y:Str}{p t:aH}{e:jy}{a:aD}{f c:aH}{w:TI}{v:TT}{u:TE}{i:Nat}(o:jo)(j:jr)(B:X.N.Nodup)(l:X.N[i]? = some y)(O:X.env.scope.names.lookup y=some .local)(F:X.calm=true)(J:PI X (.Name x p) b w)(M:∀ C s H k E,Q5 (Yl X (x::j) a (Xw X.env a.names []) C s H k E) e v)(G:∀ C s H k E,PE (Yl X (x::j) a (Xw X.env a.names []) C s H k E) d u)(A:YA X a o j)(n:swapsWith (.ListComp d [⟨.Name x p,b,e,0⟩] a f) (some (.Name y t)) c.line X.env=pure true:=by rfl)(K:Ox X.env a.names=true:=by rfl)(q:OJ a x=true:=by rfl)(m:(x::j).Nodup:=by decide +kernel)(L:∀ x,foldedSetIterable b X.env x=pure x:=by intro _;rfl):
  PS X (.Assign [.Name y t] (.ListComp d [⟨.Name x p,b,e,0⟩] a f) c) (HH i (Jl w o v u)):=by
 intro ke s σ H D I h;let r:(relabel a X.env).names.lookup x=some .local:=lookup_relabel_local (N8 q).own;exact Jk [x] x (g:=QJ 0) o j B l O F (λ_ _ _ _ _=>Qo (i:=0) m Z (Or.inl r) (Or.inr r)) (PI.more J) M G A n K q L ke s σ H D I ⟨_,h,λ_ _ z=>Xs.toT z⟩
end
inductive KI(K:zZ)(a:jf)(H:Hp)(Q:VK):Prop
 |mk(x n t b:_)(_:a=[x,.ty n])(_:Y6 K H x t)(_:xX K t (.type n)=some b)(_:Q (.bl b) H)
def X3:VL X (.builtin "isinstance") (KI X.K):=by
 intro a s l H k j Q I r h;let⟨x,n,t,b,rfl,g,e,q⟩:=h;let⟨u,i,rfl,d,c⟩:=KJ r;cases(show i=Value.type n from c);exact Co I d g e λf=>⟨.bl b,H,I.tok f,Z,q⟩
def Cn{K:zZ}:xX K (.type "bool") (.type "bool")=some true:=by kernel_rfl
def Nu{K:zZ}:xX K (.type "int") (.type "bool")=some false:=by kernel_rfl
def Aq{K:zZ}:xX K (.type "str") (.type "bool")=some false:=by kernel_rfl
def ZN2{K:zZ}:xX K (.type "tuple") (.type "bool")=some false:=by kernel_rfl
def Oe{K:zZ}:xX K (.type "int") (.type "int")=some true:=by kernel_rfl
def KS{K:zZ}:xX K (.type "str") (.type "int")=some false:=by kernel_rfl
def KU{K:zZ}:xX K (.type "tuple") (.type "int")=some false:=by kernel_rfl
def kit_is'{K:zZ}:xX K (.type "int") (.type "str")=some false:=by kernel_rfl
def N2{K:zZ}:xX K (.type "str") (.type "str")=some true:=by kernel_rfl
def II{K:zZ}:xX K (.type "tuple") (.type "str")=some false:=by kernel_rfl
def E8{K:zZ}:xX K (.type "int") (.type "tuple")=some false:=by kernel_rfl
def ZN3{K:zZ}:xX K (.type "str") (.type "tuple")=some false:=by kernel_rfl
def Mt{K:zZ}:xX K (.type "tuple") (.type "tuple")=some true:=by kernel_rfl
def X8:ax "isinstance" = some (.builtin "isinstance"):=by decide +kernel
def MQ:ax "all" = some (.builtin "all"):=by decide +kernel
def My:ax "max" = some (.builtin "max"):=by decide +kernel
def D1:ax "min" = some (.builtin "min"):=by decide +kernel
def JB:ax "abs" = some (.builtin "abs"):=by decide +kernel
def Xh:ax "len" = some (.builtin "len"):=by decide +kernel
def NF:ax "bool" = some (.type "bool"):=by decide +kernel
def Uy:ax "int" = some (.type "int"):=by decide +kernel
def NQ:ax "str" = some (.type "str"):=by decide +kernel
def QW:ax "tuple" = some (.type "tuple"):=by decide +kernel
def Vw:ax "list" = some (.type "list"):=by decide +kernel
inductive V2(x y:V)(H:Hp)(Q:VK):Prop
 |mk(i j:_)(_:x=.str i)(_:y=.str j)(_:Q (.bl (!decide (j.cps.toList<i.cps.toList))) H)
def G7:Yv X (ay .LtE) (V2):=by
 intro a s e H x y v u Q I b c h;let⟨i,j,rfl,rfl,q⟩:=h;let⟨t,rfl⟩:=b;let⟨d,rfl⟩:=c;exact PySem.P.le_str (Ys I q (by simp))
inductive Vy(a:zZ)(x y:V)(H:Hp)(Q:VK):Prop
 |mk(p b c:_)(_:x=.ref p)(_:y=.ref b)(_:ZG a H p c)(_:ZG a H b [])(_:Q (.bl c.isEmpty) H)
def Nw(f:X.A.units<cLine):Yv X (ay .Eq) (Vy X.K):=by
 intro l s G H x y v u Q I B C h;let⟨p,b,D,rfl,rfl,c,o,q⟩:=h;cases B;cases C;let⟨d,w,i,E⟩:=I.list c;let⟨a,z,k,F⟩:=I.list o;let g:=w.length;let t:=z.length;let n:a=[]:=wL (by rw[<-t];rfl)
 subst n
 cases D with
 | nil=>
  let m:d=[]:=wL (by rw[<-g];rfl)
  subst m;exact PySem.SeqAt.eq_listAt (e:=λ_=>true) i.isList k.isList Z f (λj c _=>absurd c (by simp)) (Ys I q (by simp))
 | cons x r=>exact PySem.SeqAt.eq_list_lengthsAt i.isList k.isList (by simp;intro e;subst e;simp at g) f (Ys I q Z)
def Af(i j:Int):Prop:=0<j/\j.natAbs.log2<9000
def ZNZ:Yv X (binaryOp .FloorDiv) (rI Af λi j=>.int (i / j)):=Nj λi j _ _ _ _ _ a q=>by
 let b:(0:Int)<j:=a.1;exact floordiv_int ∅ (by rw[rC i ∅];exact q) (.inl (PyProof.noPylong_of_log2 a.2))
inductive Q0(a:zZ)(b:jf)(H:Hp)(Q:VK):Prop
 |mk(p:aj)(bs:List Bool)(_:b=[.ref p])(_:ZG a H p (bs.map V.bl))(_:Q (.bl (bs.all id)) H)
def Mp(B:X.calm=true):VL X (.builtin "all") (Q0 X.K):=by
 intro t s W H V U Q I r h;let⟨p,bs,rfl,F,q⟩:=h;let⟨u,rfl,J⟩:=VO r;cases J;let⟨a,w,j,S⟩:=I.list F;let n:=w.length;let f:p<s.heap.objs.size:=by let⟨_,e,_⟩:=j.isList;exact zU e
 let g:p≠s.heap.objs.size:=zK f;let C:=I.ok.hd B;let M:∀(i:Nat)(v:ai),a.toArray[i]? = some v->v=.bool (bs.getD i true):=λi v G=>by
  let c:a[i]? = some v:=by simpa using G
  let R:i<a.length:=(yN.mp c).1;let m:i<bs.length:=by rw[zX] at n;lia
  let⟨u,k,d⟩:=w.get (i:=i) (x:=.bl bs[i]) (by rw[zS,zW m];rfl)
  rw[c] at k;cases k;rw[show v=Value.bool bs[i] from d,zV,zW m];rfl
 refine call_all_walk (wpAny_pyIter_list j.isList ?_);refine⟨_,_,_,_,_,_,(λi=>bs.getD i true),Z,Walks.list (A:=X.A.in1) C s.heap.objs.size p g a.toArray,⟨⟨_,yS _ Z,Z,Z⟩,j.isList.push _⟩,λi v T O N y z=>?_,λP L D=>?_⟩
 ·rw[M i v y];exact wpAny_truthy_bool z
 ·let e:(zN a.toArray.size).all (λi=>bs.getD i true)=bs.all id:=by
   rw[zQ,<-n,zX];let d:bs.all id=((zN bs.length).map λi=>bs.getD i true).all id:=by rw[range_getD]
   rw[d,wJ];rfl
  rw[e];refine⟨.bl (bs.all id),H,I.kept (t':=L) λb o l=>D b o ?_ (zP _ l),Z,q⟩;intro E;exact absurd (zU l) (by rw[zM.mp E];exact xH _)
def Uk(b:Int)(l:jA):Int:=l.foldl (λa c=>if c > a then c else a) b
def NR(d:Int):jA->Int
 | []=>d
 | x::r=>Uk x r
section
variable{R:Result->ak->Prop}
def Cm(hh:A.handled=none){I l S:aj}{f:je}{d:jA}{kw:jJ}(y:S≠I)(U:S≠l)(Y:l≠I)(hi:IntsAre f d):
  ∀(k j:Nat)(s:ak)(b:Int)(n:Tok)(c:Nat),f.length-j=k->j<=f.length->s.heap.IsListIter I l j->s.heap.IsList l f.toArray->s.heap.get? S=some { cls:=.type "list",dict:=none,data:=.seq #[.int b n,.int b n] c,slots:=#[] } ->
   (∀ t H N,(∀ a o,a≠I->a≠S->s.heap.get? a=some o->H.get? a=some o)->R (.ok (.ret (.int (Uk b (d.drop j)) t))) { s with heap:=H,toks:=N }) ->
   codeAny (az prog w) A (.builtin "max.loop" ⟨[.ref I,.none,.ref S],kw⟩) R s:=by
 let nm:(toString "max" ++ toString ".loop" : String) = "max.loop" :=by decide
 let W:=Walks.list (prog:=prog) (w:=w) (A:=A.in1) hh I l Y f.toArray;let p:=IntsAre.length hi;intro k
 induction k with
 | zero=>
  intro j s b n c hk hj st X J L;let E:j=f.toArray.size:=by rw[zQ];lia
  refine codeAny_builtin sC ?_;rw[Around.under_plainId wA _];show aA _ A.in1 (seqItems? (.ref S) >>= _) _ _ s;refine aa (wpAny_seqItems J Z ?_);show aA _ A.in1 (tryCatch (pyNext (.ref I)) _ >>= _) _ _ s;refine aa (wpAny_tryCatch (W.done s _ _ (by rw[<-E];exact⟨st,X⟩) λH N g=>?_))
  let h:=g S _ (by simpa using y) J
  show aA _ A.in1 (updateSeq S (λ_=>#[]) >>= _) _ _ _;refine aa (wpAny_updateSeq h Z (aa (wpAny_letGo (ad ?_))));let q:=L n (H.update S (Obj.mapSeq λ_=>#[])) N λa o z D e=>(xZ _ _ (Ne.symm D)).trans (g a o (by simpa using z) e)
  rw[List.drop_eq_nil_of_le (by rw[<-p];rw[zQ] at E;lia)] at q
  exact q
 | succ k ih=>
  intro j s b n c hk hj st X J L;let E:j<f.toArray.size:=by rw[zQ];lia
  refine codeAny_builtin sC ?_;rw[Around.under_plainId wA _];show aA _ A.in1 (seqItems? (.ref S) >>= _) _ _ s;refine aa (wpAny_seqItems J Z ?_);show aA _ A.in1 (tryCatch (pyNext (.ref I)) _ >>= _) _ _ s;refine aa (wpAny_tryCatch (W.item j s _ _ E ⟨st,X⟩ λv H N hP m g=>?_));let h:=g S _ (by simpa using y) J
  let K:j<d.length:=by rw[<-p];rw[zQ] at E;exact E
  obtain⟨O,hv⟩:∃ t,v=.int d[j] t:=by
   let r:ZT (d.map V.int) f:=J7 hi;let⟨u,e1,t,G⟩:=r.get (i:=j) (x:=.int d[j]) (by rw[zS,zW K];rfl)
   let T:f[j]? = some v:=by simpa using hP
   rw[T] at e1;cases e1;exact⟨t,G⟩
  subst hv;let hd:d.drop j=d[j]::d.drop (j+1):=xI K;show aA _ A.in1 (tryCatch (holding [_,_] (richCompare .Gt (.int d[j] O) (.int b n) >>= _)) _ >>= _) _ _ _;refine aa (wpAny_tryCatch (af (aa (CmpOf.ints_gt (P:=λi v=>(i=0/\v=.int d[j] O)\/(i=1/\v=.int b n)) (λi=>if i=0 then d[j] else b) (λi v hv=>?_) 0 1 _ _ _ _ _ (.inl ⟨rfl,rfl⟩) (.inr ⟨rfl,rfl⟩) ?_))))
  ·rcases hv with ⟨rfl,rfl⟩ | ⟨rfl,rfl⟩
   ·exact⟨O,Z⟩
   ·exact⟨n,Z⟩
  refine aa (af (wpAny_truthy_bool (aa (wpAny_letGo (ad ?_)))));by_cases D:d[j] > b
  ·simp only[aM,D,decide_true,Nat.one_ne_zero,if_false,↓reduceIte];refine aa (wpAny_updateSeq h Z (aa (wpAny_letGo ?_)));rw[nm];refine ad ⟨plainId_quiet wA _,ih (j+1) _ d[j] O _ ∅ ∅ ?_ ?_ (wX _ h rfl) λt Q C B=>?_⟩
   ·let⟨o,e,r⟩:=m.1;exact⟨o,(xZ _ _ y).trans e,r⟩
   ·let⟨o,e,r⟩:=m.2;exact⟨o,(xZ _ _ U).trans e,r⟩
   ·let q:=L t Q C λa o z M e=>B a o z M ((xZ _ _ (Ne.symm M)).trans (g a o (by simpa using z) e))
    rw[hd] at q;let G:Uk b (d[j]::d.drop (j+1))=Uk d[j] (d.drop (j+1)):=by unfold Uk;rw[sZ,aM D]
    rw[G] at q;exact q
  ·simp only[D,decide_false,Nat.one_ne_zero,if_false,wS,↓reduceIte];refine aa (wpAny_letGo ?_);rw[nm];refine ad ⟨plainId_quiet wA _,ih (j+1) _ b n c ∅ ∅ m.1 m.2 h λt Q C B=>?_⟩
   let q:=L t Q C λa o z M e=>B a o z M (g a o (by simpa using z) e)
   rw[hd] at q;let G:Uk b (d[j]::d.drop (j+1))=Uk b (d.drop (j+1)):=by unfold Uk;rw[sZ,aK D]
   rw[G] at q;exact q
end
def AQ(a v:ai):argsOk "max" ⟨[a],[(wQ "default",v)]⟩:=by unfold argsOk;kernel_rfl
def ZGZ(hc:X.calm=true){g:js}{Y:St}{H:Hp}{s:ak}{Q:VK}{l:aj}{p:jA}{d:Int}{M:Tok}(I:ZE X g Y H s)(hq:ZG X.K H l (p.map V.int))(q:Q (.int (NR d p)) H):
  aA (az X.prog X.w) X.A (call (.builtin "max") [.ref l] [(wQ "default",.int d M)]) (EP X g Y Q) X.xe s:=by
 let nm:(toString "max" ++ toString ".loop" : String) = "max.loop" :=by decide
 let⟨b,rv,T,hz⟩:=I.list hq;let hi:IntsAre b p:=JA rv;let c:=IntsAre.length hi;let hh:=I.ok.hd hc;let E:l<s.heap.objs.size:=by let⟨_,e,_⟩:=T.isList;exact zU e
 refine PyProof.Rows.kmk_tree PySem.F.kind_max PySem.F.plain_max PySem.F.entry_max (AQ _ _) ?_;show aA _ X.A.in1 (Builtin.Builtins.bindParams "max" ["key","default"] 0 ⟨[],[(wQ "default",.int d M)]⟩ >>= _) _ _ s;refine aa (wpAny_of_eq (show Builtin.Builtins.bindParams "max" ["key","default"] 0 ⟨[],[(wQ "default",.int d M)]⟩=pure [none,some (.int d M)] from rfl) ?_);refine aa (ad (aa (wpAny_pyIter_list T.isList (aa (wpAny_newList ?_ (zF _))))));rw[nm];let n:(s.heap.push { cls:=.type "list_iterator",data:=.fields #[.ref l,.int 0 0] }).objs.size=s.heap.objs.size+1:=vU ..;let D:l≠s.heap.objs.size:=zK E;let m:(s.heap.push { cls:=.type "list_iterator",data:=.fields #[.ref l,.int 0 0] }).objs.size≠s.heap.objs.size:=by rw[n];exact wK (xT _)
 let C:(s.heap.push { cls:=.type "list_iterator",data:=.fields #[.ref l,.int 0 0] }).objs.size≠l:=by rw[n];exact wK (wG E)
 generalize hS:(s.heap.push { cls:=.type "list_iterator",data:=.fields #[.ref l,.int 0 0] }).objs.size=S at *;let R:∀ a o,s.heap.get? a=some o->((s.heap.push { cls:=.type "list_iterator",data:=.fields #[.ref l,.int 0 0] }).push { cls:=.type "list",data:=.seq ([]:je).toArray }).get? a=some o:=λa o e=>zP _ (zP _ e);let gI:((s.heap.push { cls:=.type "list_iterator",data:=.fields #[.ref l,.int 0 0] }).push { cls:=.type "list",data:=.seq ([]:je).toArray }).IsListIter s.heap.objs.size l 0:=⟨_,zP _ (yS _ rfl),Z,Z⟩;let gL:((s.heap.push { cls:=.type "list_iterator",data:=.fields #[.ref l,.int 0 0] }).push { cls:=.type "list",data:=.seq ([]:je).toArray }).IsList l b.toArray:=(T.isList.push _).push _;let gS:((s.heap.push { cls:=.type "list_iterator",data:=.fields #[.ref l,.int 0 0] }).push { cls:=.type "list",data:=.seq ([]:je).toArray }).get? S=some { cls:=.type "list",dict:=none,data:=.seq #[] 0,slots:=#[] }:=by
  rw[<-hS];exact yS _ Z
 generalize ((s.heap.push { cls:=.type "list_iterator",data:=.fields #[.ref l,.int 0 0] }).push { cls:=.type "list",data:=.seq ([]:je).toArray })=h2 at *;refine ad ⟨plainId_quiet wA _,?_⟩;let W:=Walks.list (prog:=X.prog) (w:=X.w) (A:=X.A.in1) hh s.heap.objs.size l D b.toArray;refine codeAny_builtin sC ?_;rw[Around.under_plainId wA _];show aA _ X.A.in1 (seqItems? (.ref S) >>= _) _ _ _;refine aa (wpAny_seqItems gS Z ?_);show aA _ X.A.in1 (tryCatch (pyNext (.ref s.heap.objs.size)) _ >>= _) _ _ _;let nS:∀ a o,s.heap.get? a=some o->a≠S:=λa o e z=>by
  let h:=zU e;rw[z,n] at h;exact absurd h (vG.mpr (yB _))
 let f:∀{y:aC}{J:Nat}{v:Int}{t:Tok},(∀ a o,a≠s.heap.objs.size->a≠S->h2.get? a=some o->y.get? a=some o)->v=NR d p->EP X g Y Q (.int v t) { s with heap:=y,toks:=J }:=fun{y J v t} k e=>by
  subst e;exact⟨.int (NR d p),H,I.kept (t':=J) λa o e=>k a o (zK (zU e)) (nS a o e) (R a o e),⟨t,Z⟩,q⟩
 cases p with
 | nil=>
  let z:b=[]:=wL c;subst z;refine aa (wpAny_tryCatch (W.done _ _ _ ⟨gI,gL⟩ λy J j=>?_));show aA _ X.A.in1 (rule _ >>= _) _ _ _;refine aa (wpAny_rule (ad ?_));exact f (λa o L P e=>j a o (by simpa using L) e) Z
 | cons x r=>
  let zl:0<b.toArray.size:=by rw[zQ,c];exact Nat.succ_pos _
  refine aa (wpAny_tryCatch (W.item 0 _ _ _ zl ⟨gI,gL⟩ λv y J hP G j=>?_));let B:=j S _ (by simpa using m) gS
  obtain⟨U,hv⟩:∃ t,v=.int x t:=by
   let⟨u,e1,t,e2⟩:=rv.get (i:=0) (x:=.int x) Z;let N:b[0]? = some v:=by simpa using hP
   rw[N] at e1;cases e1;exact⟨t,e2⟩
  subst hv;show aA _ X.A.in1 (updateSeq S (λ_=>#[.int x U,.int x U]) >>= _) _ _ _;refine aa (wpAny_updateSeq B Z ?_);rw[nm];refine ad ⟨plainId_quiet wA _,Cm hh m C D hi _ 1 _ x U _ Z (by rw[c];exact Nat.succ_le_succ (zF _)) ?_ ?_ (wX _ B rfl) λt h3 a0 O=>?_⟩
  ·let⟨o,e,r⟩:=G.1;exact⟨o,(xZ _ _ m).trans e,r⟩
  ·let⟨o,e,r⟩:=G.2;exact⟨o,(xZ _ _ C).trans e,r⟩
  ·exact f (λa o L P e=>O a o L P ((xZ _ _ (Ne.symm P)).trans (j a o (by simpa using L) e))) Z
def ZPm(t f:TA)(K:zZ):TE:=λc H Q=>t c H λg e=>f c e λh a=>∃(l:aj)(b:jA)(d:Int),g=[.ref l]/\h=[.int d]/\ZG K a l (b.map V.int)/\Q (.int (NR d b)) a
def Ee{p a g:aH}{e f:Expr}{t i:TA}(x:X.calm=true)(z:Gl X "max")(B:X.mg "max" = none)(w:PA X [e] t)(A:PK X [⟨some (wQ "default"),f,g⟩] i)(y:aE a (aq [e] X.env)=(false,aF e X.env)::aE a (aq [] X.env):=by rfl)(b:(aE a (aq [e] X.env)).any (·.1)=false:=by rfl):
  PE X (.Call (.Name "max" p) [e] [⟨some (wQ "default"),f,g⟩] a) (ZPm t i X.K):=by
 intro c s j H Q I h;refine ag (Pm I z B My (callWith_kw (YH (w a c s j H _ I h) λP G R k m r q=>?_) y b));refine Zz (A a c G j k _ m q) ?_;rintro S M ⟨T,J,n,F,l,L,d,o,v,C,D⟩;subst o v;let⟨u,rfl,E⟩:=VO r;let⟨O,rfl,N,rfl⟩:=VO F;cases E;exact ZGZ x n C D
def Fg(x:Str):It:=⟨λi _=>i<x.cps.size,λi H v a=>a=H/\∃ c,x.cps[i]? = some c/\v=.str ⟨#[c]⟩,λi _=>i=x.cps.size⟩
def HR{P:al}{w:ar}{K:zZ}{tg:Expr}(ty:String)(hty:["enumerate","zip","dict_itemiterator","dict_reverseitemiterator","odict_iterator","itertools.zip_longest","itertools.pairwise"].contains ty=false)(x:Str)(t:Tok)(it:aj)(W:∀ A:aw,A.handled=none->Walks P w A it [it] [it] x.cps.size (SignAt x) (λi h=>h.IsStrIter it ty x t i))(self:∀ (A:aw) (i:Nat) (s:ak) (Q:ja) (E:ja),s.heap.IsStrIter it ty x t i->Q (.ref it) s->aA (az P w) A (pyIter (.ref it)) Q E s):
  VQ P w K tg (Fg x) [it] it (λi h=>h.IsStrIter it ty x t i) where
 mem:=by simp
 obj:=λi h st b hb=>by
  let e:b=it:=by simpa using hb
  subst e;let⟨o,e,c,d⟩:=st;exact⟨o,e,λv z=>by rw[d] at z;cases z⟩
 keep:=λi h h' ⟨o,e,r⟩ k=>⟨o,k it (by simp) o e,r⟩
 item:=by
  intro X hP hw hK hc i ke s σ H E I hf st hg;subst hP hw hK;let⟨f0,f1,f2,f3,f4,f5⟩:=hf it (by simp)
  refine(W X.A (I.ok.hd hc)).item i s _ _ hg st λv h' tk hv st' kk=>?_;let⟨c,u,hx,rfl⟩:=hv;let I1:ZE X ke σ H { s with heap:=h',toks:=tk }:=I.turned (λb o hb e=>kk b o (by simpa using hb) e) f0 f1 f3 f4 f5
  let⟨o,e,cl,d⟩:=id st';exact⟨_,Z,M8 (s:={ s with heap:=h',toks:=tk }) e cl d hty ⟨.str ⟨#[c]⟩,H,I1,⟨u,Z⟩,⟨Z,c,hx,Z⟩,st',λb hb=>(hf b hb).1⟩⟩
 done:=by
  intro X hP hw hK hc i ke s σ H E I hf st hg;subst hP hw hK;let⟨f0,f1,f2,f3,f4,f5⟩:=hf it (by simp)
  let hi:i=x.cps.size:=hg;subst hi;exact(W X.A (I.ok.hd hc)).done s _ _ st λh' tk kk=>⟨Z,I.turned (λb o hb e=>kk b o (by simpa using hb) e) f0 f1 f3 f4 f5⟩
 self:=self
section
variable{tg:Expr}
inductive NP(R:It->Hp->Prop)(v:V)(a:Hp):Prop
 |mk(x:_)(_:v=.str x)(_:R (Fg x) a)
def ZQP(b:TE):TI:=λc H R=>b c H λv a=>NP R v a
def ZN4{l:Expr}{n:TE}(r:PE X l n):PI X tg l (ZQP n):=by
 intro a s w H R I h;refine Zz (r a s w H _ I h) ?_;rintro v c ⟨z,f,d,u,x,e,q⟩;subst e;let⟨t,rfl⟩:=u;let k:∀ b∈[c.heap.objs.size],Wm X a f b:=λb p=>by
  rw[zM.mp p];exact d.fpOk (zY _) (d.hok.fresh (zY _))
 cases m:x.cps.all (· < 128)
 ·exact wpAny_pyIter_wide m ⟨c.heap.objs.size,[c.heap.objs.size],_,_,f,Z,d.kept (t':=c.toks) λb o e=>zP _ e,
   HR "str_iterator" (by decide) x t _ (λA g=>Walks.strWide g _ x t) (λA i s Q E j h=>wpAny_pyIter_striter_wide j h),⟨_,yS _ Z,Z,Z⟩,k,q⟩
 ·exact wpAny_pyIter_ascii m ⟨c.heap.objs.size,[c.heap.objs.size],_,_,f,Z,d.kept (t':=c.toks) λb o e=>zP _ e,
   HR "str_ascii_iterator" (by decide) x t _ (λA g=>Walks.strAscii g _ x t) (λA i s Q E j h=>wpAny_pyIter_striter_ascii j h),⟨_,yS _ Z,Z,Z⟩,k,q⟩
end
section
variable{σ:St}{H:Hp}{ix:jo}{te:TE}{Q:VK}
def UH{J:It}{n:Nat}(d:Nat->V->Prop)(c:aj->Nat->jf->Hp->Prop)(z:n<ap)(k:∀ D i a H,i<n->c D i a H->J.go i H)(t:∀ D i a H x g,i<n->c D i a H->J.yld i H x g->g=H/\d i x)(f:∀ D a H,c D n a H->J.stop n H)(q:∀ D,H D=none->c D 0 [] (upd H D (.lst [])))(step:∀ D i a H x,H D=some (.lst a)->a.length<=i->i<n->d i x->c D i a H->∀ R:VK,(∀ y h,h D=some (.lst a)->c D (i+1) (a++[y]) (upd h D (.lst (a++[y])))->R y h)->te (Q2 σ ix x) H R)(j:∀ D a H,H D=some (.lst a)->c D n a H->Q (.ref D) H):Xs J σ ix O8 te H Q:=by
 intro D r;exists λi m H=>m=n-i/\i<=n/\∃ a,H D=some (.lst a)/\a.length<=i/\c D i a H,⟨n,rfl,zF _,[],ZP,zY _,q D r⟩;rintro i m H ⟨rfl,w,a,e,s,p⟩;by_cases b:i<n
 ·refine .inr ⟨k D i a H b p,λx g y=>?_⟩;let⟨rfl,u⟩:=t D i a H x g b p y;unfold O8;dsimp only;rw[aM rfl];refine step D i a _ x e s b u p _ λy h o v=>?_;exact⟨a,n-(i+1),o,∅,∅,Z,b,a++[y],ZP,by rw[zH,xU];lia,v⟩
 ·let l:i=n:=∅
  subst l;exact .inl ⟨f D a H p,j D a H e p⟩
def ZGE{J:It}{n:Nat}{s:TT}(c:Nat->V->Prop)(d:V->Bool)(f:aj->Nat->jf->Hp->Prop)(C:n<ap)(l:∀ D i a H,i<n->f D i a H->J.go i H)(z:∀ D i a H x j,i<n->f D i a H->J.yld i H x j->j=H/\c i x)(g:∀ D a H,f D n a H->J.stop n H)(u:∀ D,H D=none->f D 0 [] (upd H D (.lst [])))(h:∀ D i a H x,i<n->c i x->f D i a H->∀ R:Bool->Hp->Prop,R (d x) H->s (Q2 σ ix x) H R)(q:∀ D i a H x,H D=some (.lst a)->i<n->c i x->d x=true->f D i a H->f D (i+1) (a++[x]) (upd H D (.lst (a++[x]))))(A:∀ D i a H x,H D=some (.lst a)->i<n->c i x->d x=false->f D i a H->f D (i+1) a H)(k:∀ D a H,H D=some (.lst a)->f D n a H->Q (.ref D) H):Xs J σ ix s (VY 0) H Q:=by
 intro D v;exists λi m H=>m=n-i/\i<=n/\∃ a,H D=some (.lst a)/\a.length<=i/\f D i a H,⟨n,rfl,zF _,[],ZP,zY _,u D v⟩;rintro i m H ⟨rfl,B,a,e,w,p⟩;by_cases b:i<n
 ·refine .inr ⟨l D i a H b p,λx j y=>?_⟩;let⟨rfl,o⟩:=z D i a H x j b p y;refine h D i a _ x b o p _ ?_
  cases r:d x with
  | true=>
   rw[aM rfl];exact⟨x,Z,a,n-(i+1),e,∅,∅,Z,b,a++[x],ZP,by rw[zH,xU];lia,q D i a _ x e b o r p⟩
  | false=>
   rw[aK zR];exact⟨n-(i+1),∅,Z,b,a,e,wH w,A D i a _ x e b o r p⟩
 ·let t:i=n:=∅
  subst t;exact .inl ⟨g D a H p,k D a H e p⟩
end
def Zd.there{P:al}{w:ar}{H:Hp}{h:aC}{a:aj}:∀{o:HO},Zd P w H h a o->∃ b,h.get? a=some b:=by
 intro o x
 induction o with
 | lst l=>let⟨z,j,n,r,e⟩:=x;exact⟨_,e⟩
 | tup l=>let⟨z,j,r,b,e,c⟩:=x;exact⟨_,e⟩
 | dK k=>let⟨z,y,G,r,b,i,g,e,c⟩:=x;exact⟨_,e⟩
 | dT k=>let⟨z,y,l,r,b,i,g,e,c⟩:=x;exact⟨_,e⟩
 | set S n=>let⟨b,i,g,t,e,c⟩:=x;exact⟨_,e⟩
 | ins C p m=>let⟨d,z,D,e,_⟩:=x;exact⟨_,e⟩
 | own y=>exact x
 | xd m=>let⟨B,⟨E,i,g,e,c⟩,r⟩:=x;exact⟨_,e⟩
 | rng A q=>let⟨t,u,v,e⟩:=x;exact⟨_,e⟩
 | frz b u s=>exact⟨_,x.1⟩
 | tbl F=>exact⟨_,x⟩
 | met f y=>exact⟨_,x⟩
 | ext I=>exact x.2.1
def Yu.there{P:al}{w:ar}{H:Hp}{h:aC}{a:aj}(x:Yu P w H h)(n:H a≠none):∃ b,h.get? a=some b:=by
 cases e:H a with
 | none=>exact absurd e n
 | some o=>exact Zd.there (x a o e)
def Yu.keptT{P:al}{w:ar}{H:Hp}{h d:aC}(x:Yu P w H h)(k:∀ b u,h.get? b=some u->H b≠none->d.get? b=some u):Yu P w H d:=λa o e=>
 (x a o e).stay (λb u c q=>k b u q (by
  rcases c with rfl | c
  ·rw[e];exact λz=>nomatch z
  ·rw[c];exact λz=>nomatch z)) (λ_ q=>q) λ_ _ q=>q
section
variable{ke:js}{σ:St}{H H':Hp}{s':ak}{E:XK}
def ZE.noloc(I:ZE X ke σ H s):X.s₀.heap.get? X.env.locals=none:=uX I.ok.above
def LM(I:ZE X ke σ H s):∀ b∈frs X.stack,∀ o,s.heap.get? b=some o->∀ a,o.data≠.fields a:=λb c o q a z=>by
 let⟨_,f,e,d⟩:=I.stack.mem c;rw[q] at e;cases e;exact d a z
end
end L2
namespace L2
open PySem PySem.Spec PySem.W PyProof.Rows
def Vq(x C:aj)(h:aC):Prop:=∃ o,h.get? x=some o/\o.cls=.ref C
def Vq.ty{x C:aj}{h:aC}(I:Vq x C h)(M:Model):Looks M h (typeOf (.ref x)) (.ref C):=by
 let⟨o,e,c⟩:=I;rw[<-c];exact Looks.andThen (Looks.ld e) Looks.now
structure Nf(K:Frag)(C:aj):Prop where
 ga:findIn K (.ref C) "__getattribute__" = some (some (.builtin "BaseException.__getattribute__"))
 hk:findIn K (.ref C) "__getattr__" = some none
 mB:mroIn K C (.type "BaseException")=some true
 mO:mroIn K C (.type "object")=some true
 ca:findIn K (.ref C) "__class__" = some (some (.builtin "object.__class__"))
 hn:specialIn K (.builtin "object.__class__") "__get__" = some (some (.builtin "getset_descriptor.__get__"))
 tk:takesIn K (.builtin "object.__class__")=some true
section
variable{K:Frag}{x C:aj}
end
end L2
namespace L2
open PySem PySem.Spec PyProof.Rows
def Cx.held(X:Cx)(a:aj)(E:ja):Cx:={ X with A:=X.A.mark (some (.ref a)),calm:=false,xe:=E }
section
variable{ke:js}{σ:St}{H H':Hp}{s':ak}{ea:aj}
def ZE.held(I:ZE X ke σ H s)(ea:aj)(E:ja):ZE (X.held ea E) ke σ H s:=
 ⟨⟨I.ok.mod,I.ok.kind,I.ok.glob,I.ok.blt,I.ok.above,I.ok.inj,I.ok.has,I.ok.cab,λz=>absurd z zR,I.ok.frames,I.ok.stk,I.ok.exf,I.ok.bs,I.ok.bsz,I.ok.noex,I.ok.exfs,I.ok.funs,I.ok.frf⟩,
  I.os,I.bare,I.base,I.loc,I.cell,I.free,I.freeC,I.pin,I.hok,I.len⟩
def ZE.unheld(a:X.Ok)(I:ZE (X.held ea E) ke σ H s):ZE X ke σ H s:=⟨a,I.os,I.bare,I.base,I.loc,I.cell,I.free,I.freeC,I.pin,I.hok,I.len⟩
end
section
variable{x C CB:aj}
def GL{b:Bool}{Q:Bool->ak->Prop}(X:K.In s.heap)(I:Vq x C s.heap)(o:yE K (.ref CB)=some (.type "type"))(c:yR K CB (.type "BaseException")=some true)(l:yR K C (.ref CB)=some b)(h:Q b s):aA (az prog w) A (excMatches (.ref x) (.ref CB)) Q E s:=by
 let⟨m,g,d,t,H⟩:=s;let v:=I.ty (az prog w);let y:=uY (M:=az prog w) X c;let z:=uY (M:=az prog w) X l;let e:=sF (M:=az prog w) X o;let f:=tc_notTuple;let B:xS (az prog w) m (isType (.ref CB)) true:=by
  let⟨j,a,_⟩:=Option.bind_eq_some_iff.mp c;unfold uN at a;split at a
  ·rename_i F G i p n
   intro r D u J k q;unfold isType loadHead;exact aa (wpAny_loadPart (k _ _ (X _ _ n)) (ad q))
  ·cases a
 unfold excMatches isInstance isExcClass;refine aa (aa (e.at ?_));rw[f];refine ad ?_;rw[aK zR];refine aa (ad ?_);simp only[List.forIn_cons,List.forIn_nil]
 cases b with
 | true=>
  repeat (first | lk | wp_step)
  all_goals first | exact h | trace_state
 | false=>
  repeat (first | lk | wp_step)
  all_goals first | exact h | trace_state
end
end L2
namespace Tw
open PySem
inductive KT where
 | int (i:Int)
 | str (x:Str)
 | tup (l:List KT)
abbrev jp:=List KT
mutual
def KT.depth:KT->Nat
 | .int _=>0
 | .str _=>0
 | .tup l=>1+jX l
def jX:jp->Nat
 | []=>0
 | t::r=>max t.depth (jX r)
end
mutual
def KT.size:KT->Nat
 | .int _=>1
 | .str _=>1
 | .tup l=>1+sizeL l
def sizeL:jp->Nat
 | []=>0
 | t::r=>t.size+sizeL r
end
def Ur(c:Nat):Bool:=decide (32<=c)&&decide (c<=126)
def OV(x:Str):Bool:=decide (x.length<=40)&&x.cps.toList.all Ur
mutual
def KT.fits:KT->Nat->Bool
 | .int i,_=>decide (i.natAbs<10 ^ 60)
 | .str x,_=>OV x
 | .tup l,r=>decide (0<r)&&(decide (l.length<=4)&&fitsL l (r-1))
def fitsL:jp->Nat->Bool
 | [],_=>true
 | t::l,r=>t.fits r&&fitsL l r
end
def MB(r:Nat):∀ l:jp,fitsL l r=l.all λt=>t.fits r
 | []=>by simp[fitsL]
 | t::l=>by rw[fitsL,uP,MB r l]
mutual
def QO:∀(t:KT)(r:Nat),t.fits r=true->t.depth<=r
 | .int _,r,_=>by rw[KT.depth];exact zF _
 | .str _,r,_=>by rw[KT.depth];exact zF _
 | .tup l,r,h=>by
  rw[KT.fits,zO,zO] at h;let⟨h1,_,h3⟩:=h;let h1':0<r:=of_decide_eq_true h1;have:=fitsL_depth l (r-1) h3;rw[KT.depth]
  lia
def fitsL_depth:∀(l:jp)(r:Nat),fitsL l r=true->jX l<=r
 | [],r,_=>by rw[jX];exact zF _
 | t::l,r,h=>by
  rw[fitsL,zO] at h;let a:=QO t r h.1;let b:=fitsL_depth l r h.2;rw[jX]
  lia
end
mutual
def Lf:∀(t:KT)(r q:Nat),t.fits r=true->t.depth<=q->t.fits q=true
 | .int _,r,q,h,_=>by rw[KT.fits] at h⊢;exact h
 | .str _,r,q,h,_=>by rw[KT.fits] at h⊢;exact h
 | .tup l,r,q,h,hd=>by
  rw[KT.fits,zO,zO] at h⊢;let⟨h1,h2,h3⟩:=h;rw[KT.depth] at hd;exact⟨aJ ∅,h2,fitsL_more l (r-1) (q-1) h3 ∅⟩
def fitsL_more:∀(l:jp)(r q:Nat),fitsL l r=true->jX l<=q->fitsL l q=true
 | [],r,q,_,_=>by rw[fitsL]
 | t::l,r,q,h,hd=>by
  rw[fitsL,zO] at h⊢;rw[jX] at hd;exact⟨Lf t r q h.1 ∅,fitsL_more l r q h.2 ∅⟩
end
def KT.things:KT->jp
 | .tup l=>l
 | _=>[]
def below(l:jp):jp:=l.flatMap KT.things
mutual
def KT.eqb:KT->KT->Bool
 | .int i,.int j=>i==j
 | .str x,.str y=>x==y
 | .tup l,.tup m=>jW l m
 | _,_=>false
def jW:jp->jp->Bool
 | [],[]=>true
 | a::l,b::m=>a.eqb b&&jW l m
 | _,_=>false
end
mutual
def KT.plt:KT->KT->Bool
 | .int i,.int j=>decide (i<j)
 | .str x,.str y=>decide (x.cps.toList<y.cps.toList)
 | .tup l,.tup m=>pltL l m
 | _,_=>false
def pltL:jp->jp->Bool
 | [],[]=>false
 | [],_::_=>true
 | _::_,[]=>false
 | a::l,b::m=>if a.eqb b=true then pltL l m else a.plt b
end
mutual
def KT.cmp:KT->KT->Bool
 | .int _,.int _=>true
 | .str _,.str _=>true
 | .tup l,.tup m=>cmpL l m
 | _,_=>false
def cmpL:jp->jp->Bool
 | [],_=>true
 | _::_,[]=>true
 | a::l,b::m=>if a.eqb b=true then cmpL l m else a.cmp b
end
def KT.kind:KT->Nat
 | .int _=>0
 | .str _=>1
 | .tup _=>2
mutual
def KT.lt:KT->KT->Bool
 | .int i,.int j=>decide (i<j)
 | .int _,.str _=>true
 | .int _,.tup _=>true
 | .str _,.int _=>false
 | .str x,.str y=>decide (x.cps.toList<y.cps.toList)
 | .str _,.tup _=>true
 | .tup _,.int _=>false
 | .tup _,.str _=>false
 | .tup l,.tup m=>ltL l m
def ltL:jp->jp->Bool
 | [],[]=>false
 | [],_::_=>true
 | _::_,[]=>false
 | a::l,b::m=>if a.eqb b=true then ltL l m else a.lt b
end
mutual
def KT.st:KT->KT
 | .int i=>.tup [.int 0,.int i]
 | .str x=>.tup [.int 1,.str x]
 | .tup l=>.tup [.int 2,.tup (stL l)]
def stL:jp->jp
 | []=>[]
 | t::l=>t.st::stL l
end
def Hv:∀ l:jp,stL l=l.map KT.st
 | []=>by rw[stL];rfl
 | t::l=>by rw[stL,Hv l];rfl
mutual
def Mx:∀(a b:KT),a.eqb b=true->a=b
 | .int i,.int j,h=>by rw[KT.eqb] at h;rw[eq_of_beq h]
 | .str x,.str y,h=>by rw[KT.eqb] at h;rw[eq_of_beq h]
 | .tup l,.tup m,h=>by rw[KT.eqb] at h;rw[eqbL_eq l m h]
 | .int _,.str _,h=>by simp[KT.eqb] at h
 | .int _,.tup _,h=>by simp[KT.eqb] at h
 | .str _,.int _,h=>by simp[KT.eqb] at h
 | .str _,.tup _,h=>by simp[KT.eqb] at h
 | .tup _,.int _,h=>by simp[KT.eqb] at h
 | .tup _,.str _,h=>by simp[KT.eqb] at h
def eqbL_eq:∀(l m:jp),jW l m=true->l=m
 | [],[],_=>rfl
 | a::l,b::m,h=>by
  rw[jW,zO] at h;rw[Mx a b h.1,eqbL_eq l m h.2]
 | [],_::_,h=>by simp[jW] at h
 | _::_,[],h=>by simp[jW] at h
end
mutual
def NT:∀ a:KT,a.eqb a=true
 | .int i=>by rw[KT.eqb];exact beq_self_eq_true i
 | .str x=>by rw[KT.eqb];exact beq_self_eq_true x
 | .tup l=>by rw[KT.eqb];exact eqbL_self l
def eqbL_self:∀ l:jp,jW l l=true
 | []=>by rw[jW]
 | a::l=>by rw[jW,NT a,eqbL_self l];rfl
end
def Y4{a b:KT}:a.eqb b=true ↔ a=b:=⟨Mx a b,λe=>by rw[e];exact NT b⟩
mutual
def HK:∀ a b:KT,a.st.eqb b.st=a.eqb b
 | .int i,.int j=>by simp[KT.st,KT.eqb,jW]
 | .str x,.str y=>by simp[KT.st,KT.eqb,jW]
 | .tup l,.tup m=>by simp[KT.st,KT.eqb,jW,eqbL_st l m]
 | .int _,.str _=>by simp[KT.st,KT.eqb,jW]
 | .int _,.tup _=>by simp[KT.st,KT.eqb,jW]
 | .str _,.int _=>by simp[KT.st,KT.eqb,jW]
 | .str _,.tup _=>by simp[KT.st,KT.eqb,jW]
 | .tup _,.int _=>by simp[KT.st,KT.eqb,jW]
 | .tup _,.str _=>by simp[KT.st,KT.eqb,jW]
def eqbL_st:∀ l m:jp,jW (stL l) (stL m)=jW l m
 | [],[]=>by simp[stL,jW]
 | a::l,b::m=>by simp[stL,jW,HK a b,eqbL_st l m]
 | [],_::_=>by simp[stL,jW]
 | _::_,[]=>by simp[stL,jW]
end
def IN:∀ l:jp,ltL l l=false
 | []=>by rw[ltL]
 | a::l=>by rw[ltL,NT a,aM rfl,IN l]
def F5{l m:jp}(h:jW l m=true):ltL l m=false:=by
 rw[eqbL_eq l m h];exact IN m
mutual
def Fh:∀ a b:KT,a.st.cmp b.st=true
 | .int i,.int j=>by simp[KT.st,KT.eqb,KT.cmp,cmpL]
 | .str x,.str y=>by simp[KT.st,KT.eqb,KT.cmp,cmpL]
 | .tup l,.tup m=>by simp[KT.st,KT.eqb,KT.cmp,cmpL,cmpL_st l m]
 | .int _,.str _=>by simp[KT.st,KT.eqb,KT.cmp,cmpL]
 | .int _,.tup _=>by simp[KT.st,KT.eqb,KT.cmp,cmpL]
 | .str _,.int _=>by simp[KT.st,KT.eqb,KT.cmp,cmpL]
 | .str _,.tup _=>by simp[KT.st,KT.eqb,KT.cmp,cmpL]
 | .tup _,.int _=>by simp[KT.st,KT.eqb,KT.cmp,cmpL]
 | .tup _,.str _=>by simp[KT.st,KT.eqb,KT.cmp,cmpL]
def cmpL_st:∀ l m:jp,cmpL (stL l) (stL m)=true
 | [],_=>by simp[stL,cmpL]
 | _::_,[]=>by simp[stL,cmpL]
 | a::l,b::m=>by
  rw[stL,stL,cmpL,cmpL_st l m,Fh a b];split <;> rfl
end
mutual
def HQ:∀ a b:KT,a.st.plt b.st=a.lt b
 | .int i,.int j=>by
  simp only[KT.st,KT.eqb,KT.plt,pltL,KT.lt,beq_self_eq_true,if_true];by_cases h:i=j
  ·subst h;simp
  ·simp[h]
 | .str x,.str y=>by
  simp only[KT.st,KT.eqb,KT.plt,pltL,KT.lt,beq_self_eq_true,if_true];by_cases h:x=y
  ·subst h;simp
  ·simp[h]
 | .tup l,.tup m=>by
  simp only[KT.st,KT.eqb,KT.plt,pltL,KT.lt,beq_self_eq_true,if_true,eqbL_st,pltL_st l m]
  cases h:jW l m with
  | true=>rw[aM rfl,F5 h]
  | false=>rw[aK zR]
 | .int _,.str _=>by simp[KT.st,KT.eqb,KT.plt,pltL,KT.lt]
 | .int _,.tup _=>by simp[KT.st,KT.eqb,KT.plt,pltL,KT.lt]
 | .str _,.int _=>by simp[KT.st,KT.eqb,KT.plt,pltL,KT.lt]
 | .str _,.tup _=>by simp[KT.st,KT.eqb,KT.plt,pltL,KT.lt]
 | .tup _,.int _=>by simp[KT.st,KT.eqb,KT.plt,pltL,KT.lt]
 | .tup _,.str _=>by simp[KT.st,KT.eqb,KT.plt,pltL,KT.lt]
def pltL_st:∀ l m:jp,pltL (stL l) (stL m)=ltL l m
 | [],[]=>by simp[stL,pltL,ltL]
 | [],_::_=>by simp[stL,pltL,ltL]
 | _::_,[]=>by simp[stL,pltL,ltL]
 | a::l,b::m=>by rw[stL,stL,pltL,ltL,HK a b,pltL_st l m,HQ a b]
end
mutual
def GU:∀ t:KT,t.st.depth<=2 * t.depth+1
 | .int i=>by simp[KT.st,KT.depth,jX]
 | .str x=>by simp[KT.st,KT.depth,jX]
 | .tup l=>by
  have:=depthL_st l;simp only[KT.st,KT.depth,jX]
  lia
def depthL_st:∀ l:jp,jX (stL l)<=2 * jX l+1
 | []=>by simp[stL,jX]
 | t::l=>by
  let a:=GU t;let b:=depthL_st l;rw[stL,jX,jX]
  lia
end
def HB{l:jp}(a:l.length<=4)(b:fitsL l 2=true):(KT.tup l).fits 3=true:=by
 rw[KT.fits,zO,zO];exact⟨Z,aJ a,b⟩
def Ax{x:Str}(a:x.cps.size<=40)(b:x.cps.toList.all Ur=true):OV x=true:=by
 unfold OV;rw[zO];exact⟨aJ a,b⟩
inductive TG where
 | int (i:Int)
 | str (x:Str)
 | tup (l:List TG)
 | odd (n:String)
mutual
def TG.fits:TG->Nat->Bool
 | .int i,_=>decide (i.natAbs<10 ^ 60)
 | .str x,_=>OV x
 | .tup l,r=>decide (0<r)&&(decide (l.length<=4)&&gfitsL l (r-1))
 | .odd _,_=>false
def gfitsL:List TG->Nat->Bool
 | [],_=>true
 | t::l,r=>t.fits r&&gfitsL l r
end
end Tw
namespace Tw
open PySem PySem.Spec L2
structure ZD(P:al)(w:ar)(K:zZ)(mg:jb)(kf:aC)(k:Nat)(x:Str)(ps:jr)(sp:Sp):Prop where
 ex:∃ f fd,ZN P w K mg kf ZY k f fd ps sp/\Z7 K fd ps []/\yQ K (.ref f)=true/\mg x=some (.ref f)
def Zm{X:Cx}{k:Nat}{x:Str}{q:jr}{h:Sp}{e:Expr}{a:jy}{t:TA}{p c:aH}(D:ZD X.prog X.w X.K X.mg X.base k x q h)(n:ZZ k X.A)(i:PA X (e::a) t)(l:Gl X x:=by rfl)(d:(x==("__debug__" : Str))=false:=by decide)(j:aq (e::a) X.env=(false,aF e X.env)::aq a X.env:=by rfl)(g:(aE c (aq a X.env)).any (·.1)=false:=by rfl):
  PE X (.Call (.Name x p) (e::a) [] c) (KK h [] E0 t):=by
 let⟨f,r,F,b,o,m⟩:=D.ex;exact GB F n l m o b .nil YY i d j g
mutual
def ZF(H:Hp):KT->V->Prop
 | .int i,v=>v=.int i
 | .str x,v=>v=.str x
 | .tup l,v=>∃ a vs,v=.ref a/\H a=some (.tup vs)/\jU H l vs
def jU(H:Hp):jp->jf->Prop
 | [],vs=>vs=[]
 | t::l,vs=>∃ v r,vs=v::r/\ZF H t v/\jU H l r
end
def YC(H c:Hp):Prop:=∀ b a,H b=some (.tup a)->c b=some (.tup a)
mutual
def ZF.mono{H H':Hp}(m:YC H H'):∀(t:KT)(v:V),ZF H t v->ZF H' t v
 | .int _,_,h=>by rw[ZF] at h⊢;exact h
 | .str _,_,h=>by rw[ZF] at h⊢;exact h
 | .tup l,_,h=>by
  rw[ZF] at h⊢;let⟨a,vs,e,h1,h2⟩:=h;exact⟨a,vs,e,m a vs h1,jU.mono m l vs h2⟩
def jU.mono{H H':Hp}(m:YC H H'):∀(l:jp)(vs:jf),jU H l vs->jU H' l vs
 | [],_,h=>by rw[jU] at h⊢;exact h
 | t::l,_,h=>by
  rw[jU] at h⊢;let⟨v,r,e,h1,h2⟩:=h;exact⟨v,r,e,ZF.mono m t v h1,jU.mono m l r h2⟩
end
def jU.nil{H:Hp}:jU H [] []:=by rw[jU]
def jU.cons{H:Hp}{t:KT}{l:jp}{v:V}{r:jf}(h:ZF H t v)(a:jU H l r):jU H (t::l) (v::r):=by
 rw[jU];exact⟨v,r,Z,h,a⟩
def ZF.tup{H:Hp}{a:aj}{b:jf}{l:jp}(e:H a=some (.tup b))(h:jU H l b):ZF H (.tup l) (.ref a):=by
 rw[ZF];exact⟨a,b,Z,e,h⟩
def ZF.int{H:Hp}(i:Int):ZF H (.int i) (.int i):=by rw[ZF]
def ZF.str{H:Hp}(x:Str):ZF H (.str x) (.str x):=by rw[ZF]
def jU.append{H:Hp}:∀{l m:jp}{a b:jf},jU H l a->jU H m b->jU H (l++m) (a++b)
 | [],m,a,b,h,g=>by rw[jU] at h;subst h;exact g
 | t::l,m,a,b,h,g=>by
  rw[jU] at h;let⟨v,r,rfl,c,d⟩:=h;exact .cons c (d.append g)
def jU.length{H:Hp}:∀{l:jp}{a:jf},jU H l a->l.length=a.length
 | [],a,h=>by rw[jU] at h;subst h;rfl
 | t::l,a,h=>by
  rw[jU] at h;let⟨v,r,rfl,_,b⟩:=h;rw[yV,yV,b.length]
def jU.get{H:Hp}:∀{l:jp}{a:jf}{i:Nat}{v:V},jU H l a->a[i]? = some v->∃ t,l[i]? = some t/\ZF H t v
 | [],a,i,v,h,e=>by rw[jU] at h;subst h;simp at e
 | t::l,a,0,v,h,e=>by
  rw[jU] at h;let⟨j,r,rfl,d,_⟩:=h;simp at e;subst e;exact⟨t,Z,d⟩
 | t::l,a,i+1,v,h,e=>by
  rw[jU] at h;let⟨j,r,rfl,_,f⟩:=h;let⟨g,b,c⟩:=f.get (i:=i) (by simpa using e)
  exact⟨g,by simpa using b,c⟩
def KT.ty:KT->ai
 | .int _=>.type "int"
 | .str _=>.type "str"
 | .tup _=>.type "tuple"
def ZF.ty{H:Hp}{K:zZ}{t:KT}{v:V}(h:ZF H t v):Y6 K H v t.ty:=by
 cases t with
 | int i=>rw[ZF] at h;subst h;exact .int i
 | str x=>rw[ZF] at h;subst h;exact .str x
 | tup l=>rw[ZF] at h;let⟨a,b,rfl,e,_⟩:=h;exact .tup e
def ZH(p:aj)(H a:Hp):Prop:=∀ b o,H b=some o->b≠p->a b=some o
def ZH.refl(p:aj)(H:Hp):ZH p H H:=λ_ _ h _=>h
def ZH.trans{p:aj}{H d e:Hp}(a:ZH p H d)(b:ZH p d e):ZH p H e:=λc o h n=>b c o (a c o h n) n
def ZH.upd{p:aj}{H b:Hp}{o:HO}(a:ZH p H b):ZH p H (L2.upd b p o):=λc u h n=>by rw[ZM n];exact a c u h n
def ZH.of{p:aj}{H b:Hp}(a:ZC H b):ZH p H b:=λc o h _=>a c o h
def ZH.tups{p:aj}{H c:Hp}{d:jf}(a:ZH p H c)(h:H p=some (.lst d)):YC H c:=λb f e=>a b _ e (ZI e h)
def ZC.tups{H c:Hp}(a:ZC H c):YC H c:=λb d e=>a b _ e
def ZF.sm{H a:Hp}{t:KT}{v:V}(h:ZF H t v)(s:ZC H a):ZF a t v:=h.mono (ZC.tups s) _ _
def jU.sm{H a:Hp}{t:jp}{v:jf}(h:jU H t v)(s:ZC H a):jU a t v:=h.mono (ZC.tups s) _ _
def Zc{H:Hp}{p:aj}(h:H p=none)(o:HO):ZC H (L2.upd H p o):=λb u q=>by rw[ZM (Za q h)];exact q
structure ZJ(H:Hp)(p:aj):Prop where
 ex:∃ a b c d:Int,H p=some (.lst [.int a,.int b,.int c,.int d])/\0<=a/\a<2147483647/\0<=c/\0<=d
def ZJ.same{H f:Hp}{p:aj}(w:ZJ H p)(s:ZC H f):ZJ f p:=by
 let⟨a,b,c,d,e,r⟩:=w.ex;exact⟨a,b,c,d,s p _ e,r⟩
def ZJ.some{H:Hp}{p:aj}(w:ZJ H p):∃ f,H p=zB (.lst f):=by
 let⟨a,b,c,d,e,r⟩:=w.ex;exact⟨_,e⟩
def ZH.tupsW{p:aj}{H b:Hp}(a:ZH p H b)(w:ZJ H p):YC H b:=by
 let⟨c,e⟩:=w.some;exact a.tups e
def Hh(m:Int):Prop:=0<m/\m.natAbs.log2<9000
inductive Vv(K:zZ)(d:jf)(H:Hp)(Q:VK)(_:XK):Prop
 |mk(a:aj)(c:jA)(k:Int)(_:d=[.ref a,.int k])(_:ZG K H a (c.map V.int))(_:c.length<=63)(_:0<=k)(_:k<=1000)(_:∀(p:aj)(b:Hp),H p=none->ZC H b->ZJ b p->Q (.ref p) b)
inductive Yb(b:jf)(H:Hp)(Q:VK)(_:XK):Prop
 |mk(p:aj)(m:Int)(_:b=[.ref p,.int m])(_:ZJ H p)(_:Hh m)(_:∀(r:Int)(a:Hp),0<=r->r<m->ZJ a p->ZH p H a->Q (.int r) a)
inductive XV(n:Nat)(b:jf)(H:Hp)(Q:VK)(_:XK):Prop
 |mk(v:V)(t:KT)(r q:Nat)(_:b=[v,.int (r:Int)])(_:ZF H t v)(_:t.fits q=true)(_:r<n)(_:∀ a,ZC H a->Q (.bl (t.fits r)) a)
inductive UE(a:jf)(H:Hp)(Q:VK)(_:XK):Prop
 |mk(i:Int)(_:a=[.int i])(_:Q (.bl (decide (i.natAbs<10 ^ 60))) H)
inductive Wq(a:jf)(H:Hp)(Q:VK)(_:XK):Prop
 |mk(c:Nat)(_:a=[.str ⟨#[c]⟩])(_:Q (.bl (Ur c)) H)
inductive VD(b:jf)(H:Hp)(Q:VK)(_:XK):Prop
 |mk(v:V)(t:KT)(q:Nat)(_:b=[v])(_:ZF H t v)(_:t.fits q=true)(_:∀ a,ZC H a->Q (.bl (t.fits 3)) a)
inductive UN(K:zZ)(d:jf)(H:Hp)(Q:VK)(_:XK):Prop
 |mk(a:aj)(b:jA)(_:d=[.ref a])(_:ZG K H a (b.map V.int))(_:b.length<=63)(_:∀ c,Q (.bl true) c)
def nn{n:Nat}(h:n<=1000):n<=sizeLine:=xV (YL h)
def YX{n:Nat}(h:Nat.ble n 1000=true:=by rfl):n<=sizeLine:=nn (yU h)
def IH{x y:V}{i:Int}(a:0<=i)(b:i<2):∃ v,Xr [x,y] i=some v/\(v=x\/v=y):=by
 rcases(show i=0\/i=1 by lia) with e | e
 ·subst e;exact⟨x,Z,.inl Z⟩
 ·subst e;exact⟨y,Z,.inr Z⟩
def Nv{b:Type}{xs:List b}{i:Int}(c:0<=i)(d:i<(xs.length:Int)):∃ v,Xr xs i=some v/\v∈xs:=by
 let a:i.toNat<xs.length:=∅
 let e:i=((i.toNat:Nat):Int):=∅
 rw[e];exact⟨xs[i.toNat],Xk (zW a),yJ a⟩
def VZ{m:Int}(a:0<m)(b:m.natAbs<2 ^ 250):Hh m:=by
 exists a;have:m.natAbs.log2<250:=(Nat.log2_lt ∅).mpr b
 lia
def CY{i j:Int}(h:V.int i=V.int j):i=j:=by injection h
def ZKb(c:Nat):((!decide ([c]<[32])) && !decide ([126]<[c]))=Ur c:=by
 unfold Ur;let a:([c]<[32]) ↔ c<32:=by simp[uU]
 let b:([126]<[c]) ↔ 126<c:=by simp[uU]
 rw[xD];simp only[zO,rT,decide_eq_false_iff_not,decide_eq_true_eq,a,b]
 lia
def D7(i:Int):decide ((if i<0 then -i else i)<10 ^ (60:Int).toNat)=decide (i.natAbs<10 ^ 60):=by
 let e:((10:Int) ^ (60:Int).toNat)=((10 ^ 60:Nat):Int):=by decide +kernel
 rw[e];generalize (10 ^ 60:Nat)=N;apply decide_eq_decide.mpr;split <;> lia
end Tw
namespace Tw
open PySem
def Iu:∀(l m:jo),l<m->¬ m<l
 | [],[],h,_=>absurd h (vC _)
 | [],_::_,_,h=>absurd h (vC _)
 | _::_,[],h,_=>absurd h (vC _)
 | a::l,b::m,h,c=>by
  rw[uU] at h c;rcases h with h | ⟨rfl,h⟩
  ·rcases c with c | ⟨rfl,c⟩
   ·lia
   ·lia
  ·rcases c with c | ⟨_,c⟩
   ·lia
   ·exact Iu l m h c
def Ib:∀(l m:jo),¬ l<m->¬ m<l->l=m
 | [],[],_,_=>rfl
 | [],_::_,h,_=>absurd (sO _ _) h
 | _::_,[],_,h=>absurd (sO _ _) h
 | a::l,b::m,h,h'=>by
  rw[uU] at h h';let e:a=b:=by
   rcases Nat.lt_trichotomy a b with c | c | c
   ·exact absurd (.inl c) h
   ·exact c
   ·exact absurd (.inl c) h'
  subst e;rw[Ib l m (λz=>h (.inr ⟨rfl,z⟩)) λz=>h' (.inr ⟨rfl,z⟩)]
def Ff:∀(l m k:jo),l<m->m<k->l<k
 | _,_,[],_,h=>absurd h (vC _)
 | [],_,_::_,_,_=>sO _ _
 | _::_,[],_,h,_=>absurd h (vC _)
 | a::l,b::m,c::k,h,d=>by
  rw[uU] at h d⊢;rcases h with h | ⟨rfl,h⟩
  ·rcases d with d | ⟨rfl,d⟩
   ·exact .inl (Nat.lt_trans h d)
   ·exact .inl h
  ·rcases d with d | ⟨rfl,d⟩
   ·exact .inl d
   ·exact .inr ⟨Z,Ff l m k h d⟩
def eqb_comm'(a b:KT):a.eqb b=b.eqb a:=by
 rw[xD,Y4,Y4];exact eq_comm
mutual
def P7:∀(a b:KT),a.lt b=true->b.lt a=false
 | .int i,.int j,h=>by rw[KT.lt] at h⊢;have:=of_decide_eq_true h;exact aI ∅
 | .int _,.str _,_=>by rw[KT.lt]
 | .int _,.tup _,_=>by rw[KT.lt]
 | .str _,.int _,h=>by rw[KT.lt] at h;cases h
 | .str x,.str y,h=>by rw[KT.lt] at h⊢;exact aI (Iu _ _ (of_decide_eq_true h))
 | .str _,.tup _,_=>by rw[KT.lt]
 | .tup _,.int _,h=>by rw[KT.lt] at h;cases h
 | .tup _,.str _,h=>by rw[KT.lt] at h;cases h
 | .tup l,.tup m,h=>by rw[KT.lt] at h⊢;exact ltL_asym l m h
def ltL_asym:∀(l m:jp),ltL l m=true->ltL m l=false
 | [],[],h=>by rw[ltL] at h;cases h
 | [],_::_,_=>by rw[ltL]
 | _::_,[],h=>by rw[ltL] at h;cases h
 | a::l,b::m,h=>by
  rw[ltL] at h⊢;rw[eqb_comm' b a]
  cases e:a.eqb b with
  | true=>rw[e,aM rfl] at h;rw[aM rfl];exact ltL_asym l m h
  | false=>rw[e,aK zR] at h;rw[aK zR];exact P7 a b h
end
mutual
def FJ:∀(a b:KT),a.lt b=false->b.lt a=false->a=b
 | .int i,.int j,h,h'=>by rw[KT.lt] at h h';have:=of_decide_eq_false h;have:=of_decide_eq_false h';rw[show i=j by lia]
 | .int _,.str _,h,_=>by rw[KT.lt] at h;cases h
 | .int _,.tup _,h,_=>by rw[KT.lt] at h;cases h
 | .str _,.int _,_,h=>by rw[KT.lt] at h;cases h
 | .str x,.str y,h,h'=>by
  rw[KT.lt] at h h';let e:=Ib _ _ (of_decide_eq_false h) (of_decide_eq_false h');let⟨⟨x⟩⟩:=x;let⟨⟨y⟩⟩:=y;dsimp only at e;rw[e]
 | .str _,.tup _,h,_=>by rw[KT.lt] at h;cases h
 | .tup _,.int _,_,h=>by rw[KT.lt] at h;cases h
 | .tup _,.str _,_,h=>by rw[KT.lt] at h;cases h
 | .tup l,.tup m,h,h'=>by rw[KT.lt] at h h';rw[ltL_total l m h h']
def ltL_total:∀(l m:jp),ltL l m=false->ltL m l=false->l=m
 | [],[],_,_=>rfl
 | [],_::_,h,_=>by rw[ltL] at h;cases h
 | _::_,[],_,h=>by rw[ltL] at h;cases h
 | a::l,b::m,h,h'=>by
  rw[ltL] at h h';rw[eqb_comm' b a] at h'
  cases e:a.eqb b with
  | true=>rw[e,aM rfl] at h h';rw[Y4.mp e,ltL_total l m h h']
  | false=>
   rw[e,aK zR] at h h';have:=FJ a b h h';rw[this,NT] at e;cases e
end
def NO(a:KT):a.lt a=false:=by
 cases h:a.lt a with
 | false=>rfl
 | true=>have:=P7 a a h;rw[h] at this;cases this
mutual
def lt_trans':∀(a b c:KT),a.lt b=true->b.lt c=true->a.lt c=true
 | .int i,.int j,.int k,h,h'=>by rw[KT.lt] at h h'⊢;have:=of_decide_eq_true h;have:=of_decide_eq_true h';exact aJ ∅
 | .int _,_,.str _,_,_=>by rw[KT.lt]
 | .int _,_,.tup _,_,_=>by rw[KT.lt]
 | .str _,_,.tup _,_,_=>by rw[KT.lt]
 | .int _,.str _,.int _,_,h=>by rw[KT.lt] at h;cases h
 | .int _,.tup _,.int _,_,h=>by rw[KT.lt] at h;cases h
 | .str _,.int _,_,h,_=>by rw[KT.lt] at h;cases h
 | .str x,.str y,.str z,h,h'=>by rw[KT.lt] at h h'⊢;exact aJ (Ff _ _ _ (of_decide_eq_true h) (of_decide_eq_true h'))
 | .str _,.str _,.int _,_,h=>by rw[KT.lt] at h;cases h
 | .str _,.tup _,.str _,_,h=>by rw[KT.lt] at h;cases h
 | .str _,.tup _,.int _,_,h=>by rw[KT.lt] at h;cases h
 | .tup _,.int _,_,h,_=>by rw[KT.lt] at h;cases h
 | .tup _,.str _,_,h,_=>by rw[KT.lt] at h;cases h
 | .tup l,.tup m,.tup k,h,h'=>by rw[KT.lt] at h h'⊢;exact ltL_trans l m k h h'
 | .tup _,.tup _,.int _,_,h=>by rw[KT.lt] at h;cases h
 | .tup _,.tup _,.str _,_,h=>by rw[KT.lt] at h;cases h
def ltL_trans:∀(l m k:jp),ltL l m=true->ltL m k=true->ltL l k=true
 | _,[],[],_,h=>by rw[ltL] at h;cases h
 | _,_::_,[],_,h=>by rw[ltL] at h;cases h
 | [],_,_::_,_,_=>by rw[ltL]
 | _::_,[],_::_,h,_=>by rw[ltL] at h;cases h
 | a::l,b::m,c::k,h,h'=>by
  rw[ltL] at h h'⊢
  cases e:a.eqb b with
  | true=>
   rw[e,aM rfl] at h;let ab:=Y4.mp e;subst ab
   cases e2:a.eqb c with
   | true=>rw[e2,aM rfl] at h';rw[aM rfl];exact ltL_trans l m k h h'
   | false=>rw[e2,aK zR] at h';rw[aK zR];exact h'
  | false=>
   rw[e,aK zR] at h
   cases e2:b.eqb c with
   | true=>
    let bc:=Y4.mp e2;subst bc;rw[e,aK zR];exact h
   | false=>
    rw[e2,aK zR] at h';let ac:=lt_trans' a b c h h'
    cases e3:a.eqb c with
    | true=>
     have:=Y4.mp e3;subst this;rw[NO] at ac;cases ac
    | false=>rw[aK zR];exact ac
end
def le_trans'{a b c:KT}(f:b.lt a=false)(d:c.lt b=false):c.lt a=false:=by
 cases h:c.lt a with
 | false=>rfl
 | true=>
  cases e:a.lt b with
  | true=>rw[lt_trans' c a b h e] at d;cases d
  | false=>rw[FJ a b e f,d] at h;cases h
end Tw
namespace Tw
open PySem PySem.Spec L2 PyProof.Rows
mutual
def ZX(h:aC):KT->ai->Prop
 | .int i,v=>∃ t,v=.int i t
 | .str x,v=>∃ t,v=.str x t
 | .tup l,v=>∃(a:aj)(its:je),v=.ref a/\IsTup h a its.toArray/\jV h l its
def jV(h:aC):jp->je->Prop
 | [],vs=>vs=[]
 | t::l,vs=>∃ v r,vs=v::r/\ZX h t v/\jV h l r
end
section
variable{ke:js}{σ:L2.St}{H:Hp}
mutual
def Me(I:ZE X ke σ H s):∀(t:KT)(x:V)(v:ai),ZF H t x->ZU x v->ZX s.heap t v
 | .int i,x,v,h,r=>by
  rw[ZF] at h;subst h;rw[ZX];exact r
 | .str y,x,v,h,r=>by
  rw[ZF] at h;subst h;rw[ZX];exact r
 | .tup l,x,v,h,r=>by
  rw[ZF] at h;let⟨a,vs,rfl,e,hk⟩:=h;let⟨its,rv,pl,_⟩:=I.tuple (Zb.of e);rw[ZX];exact⟨a,its,r,pl,kvals_of I l vs its hk rv⟩
def kvals_of(I:ZE X ke σ H s):∀(l:jp)(vs:jf)(us:je),jU H l vs->ZT vs us->jV s.heap l us
 | [],vs,us,h,r=>by
  rw[jU] at h;subst h;rw[jV];cases r;rfl
 | t::l,vs,us,h,r=>by
  rw[jU] at h;let⟨v,q,rfl,h1,h2⟩:=h
  cases r with
  | cons r1 r2=>
   rw[jV];exact⟨_,_,Z,Me I t v _ h1 r1,kvals_of I l q _ h2 r2⟩
end
end
def ZJA{h:aC}{a:aj}{c b:je}(x:IsTup h a c.toArray)(y:IsTup h a b.toArray):c=b:=by
 let⟨o,e,_,n,d⟩:=x;let⟨j,g,_,i,f⟩:=y;rw[e] at g;cases g;rw[d] at f;injection f with d1 _;simpa using congrArg tJ d1
mutual
def ZX.inj{h:aC}:∀(a b:KT)(v:ai),ZX h a v->ZX h b v->a.eqb b=true
 | .int i,b,v,x,y=>by
  rw[ZX] at x;let⟨t,rfl⟩:=x
  cases b with
  | int j=>rw[ZX] at y;let⟨u,e⟩:=y;injection e with e _;rw[KT.eqb,e];exact beq_self_eq_true j
  | str z=>rw[ZX] at y;let⟨u,e⟩:=y;cases e
  | tup m=>rw[ZX] at y;let⟨_,_,e,_⟩:=y;cases e
 | .str w,b,v,x,y=>by
  rw[ZX] at x;let⟨t,rfl⟩:=x
  cases b with
  | int j=>rw[ZX] at y;let⟨u,e⟩:=y;cases e
  | str z=>rw[ZX] at y;let⟨u,e⟩:=y;injection e with e _;rw[KT.eqb,e];exact beq_self_eq_true z
  | tup m=>rw[ZX] at y;let⟨_,_,e,_⟩:=y;cases e
 | .tup l,b,v,x,y=>by
  rw[ZX] at x;let⟨p,its,rfl,px,kx⟩:=x
  cases b with
  | int j=>rw[ZX] at y;let⟨u,e⟩:=y;cases e
  | str z=>rw[ZX] at y;let⟨u,e⟩:=y;cases e
  | tup m=>
   rw[ZX] at y;let⟨q,its',e,py,ky⟩:=y;cases e;cases ZJA px py;rw[KT.eqb];exact jV.inj l m its kx ky
def jV.inj{h:aC}:∀(l m:jp)(us:je),jV h l us->jV h m us->jW l m=true
 | [],m,us,x,y=>by
  rw[jV] at x;subst x
  cases m with
  | nil=>rw[jW]
  | cons b m=>rw[jV] at y;let⟨_,_,e,_⟩:=y;cases e
 | a::l,m,us,x,y=>by
  rw[jV] at x;let⟨v,r,rfl,x1,x2⟩:=x
  cases m with
  | nil=>rw[jV] at y;cases y
  | cons b m=>
   rw[jV] at y;let⟨v',r',e,y1,y2⟩:=y;injection e with e1 e2;subst e1 e2;rw[jW,ZX.inj a b v x1 y1,jV.inj l m r x2 y2];rfl
end
def jV.length{h:aC}:∀{l:jp}{b:je},jV h l b->l.length=b.length
 | [],b,x=>by rw[jV] at x;subst x;rfl
 | a::l,b,x=>by
  rw[jV] at x;let⟨v,r,rfl,_,c⟩:=x;rw[yV,yV,c.length]
def jV.get{h:aC}:∀{l:jp}{b:je}{j:Nat}{u:ai},jV h l b->b[j]? = some u->∃ t,l[j]? = some t/\ZX h t u
 | [],b,j,u,x,e=>by rw[jV] at x;subst x;simp at e
 | a::l,b,0,u,x,e=>by
  rw[jV] at x;let⟨v,r,rfl,f,_⟩:=x;simp at e;subst e;exact⟨a,Z,f⟩
 | a::l,b,j+1,u,x,e=>by
  rw[jV] at x;let⟨v,r,rfl,_,g⟩:=x;let⟨t,c,d⟩:=g.get (j:=j) (by simpa using e)
  exact⟨t,by simpa using c,d⟩
def Oq:∀{l:jp}{t:KT},t∈l->t.depth<=jX l
 | [],_,h=>by cases h
 | u::l,t,h=>by
  rw[jX];rcases zC.mp h with e | h
  ·subst e;lia
  ·have:=Oq h;lia
def Hl:∀(l m:jp),((zN (min l.length m.length)).all (λj=>(l.getD j (.int 0)).eqb (m.getD j (.int 0)))&&l.length==m.length)=jW l m
 | [],[]=>by simp[jW]
 | [],_::_=>by simp[jW]
 | _::_,[]=>by simp[jW]
 | a::l,b::m=>by
  let c:=Hl l m;let e:min (a::l).length (b::m).length=min l.length m.length+1:=by simp only[yV];lia
  rw[e,List.range_succ_eq_map,uP,wJ,jW,<-c,Bool.and_assoc];simp[Function.comp_def]
def Ko{s:ak}:∀(n:Nat)(a b:KT)(A:aw)(v u:ai),a.depth<=n->ZX s.heap a v->ZX s.heap b u->A.units+a.depth<cLine->SeqAt.EqAt A s v u (a.eqb b)
 | n,.int i,b,A,v,u,_,x,y,o=>by
  rw[ZX] at x;let⟨t,rfl⟩:=x;let d:A.units<cLine:=∅
  cases b with
  | int j=>rw[ZX] at y;let⟨g,rfl⟩:=y;rw[KT.eqb];exact SeqAt.EqAt.int_int i t j g
  | str z=>rw[ZX] at y;let⟨g,rfl⟩:=y;rw[show (KT.int i).eqb (.str z)=false by simp[KT.eqb]];exact SeqAt.EqAt.int_str i t z g
  | tup m=>rw[ZX] at y;let⟨p,f,rfl,k,_⟩:=y;rw[show (KT.int i).eqb (.tup m)=false by simp[KT.eqb]];exact SeqAt.EqAt.int_tuple i t k d
 | n,.str w,b,A,v,u,_,x,y,o=>by
  rw[ZX] at x;let⟨t,rfl⟩:=x;let d:A.units<cLine:=∅
  cases b with
  | int j=>rw[ZX] at y;let⟨g,rfl⟩:=y;rw[show (KT.str w).eqb (.int j)=false by simp[KT.eqb]];exact SeqAt.EqAt.str_int w t j g
  | str z=>rw[ZX] at y;let⟨g,rfl⟩:=y;rw[KT.eqb];exact SeqAt.EqAt.str_str w t z g
  | tup m=>rw[ZX] at y;let⟨p,f,rfl,k,_⟩:=y;rw[show (KT.str w).eqb (.tup m)=false by simp[KT.eqb]];exact SeqAt.EqAt.str_tuple w t k d
 | 0,.tup l,b,A,v,u,C,x,y,o=>by
  rw[KT.depth] at C
  lia
 | n+1,.tup l,b,A,v,u,C,x,y,o=>by
  let U:=x;rw[ZX] at x;let⟨p,f,rfl,D,G⟩:=x;rw[KT.depth] at C o;let d:A.units<cLine:=∅
  cases b with
  | int j=>rw[ZX] at y;let⟨g,rfl⟩:=y;rw[show (KT.tup l).eqb (.int j)=false by simp[KT.eqb]];exact SeqAt.EqAt.tuple_int j g D d
  | str z=>rw[ZX] at y;let⟨g,rfl⟩:=y;rw[show (KT.tup l).eqb (.str z)=false by simp[KT.eqb]];exact SeqAt.EqAt.tuple_str z g D d
  | tup m=>
   let V:=y;rw[ZX] at y;let⟨q,c,rfl,k,H⟩:=y;by_cases h:p=q
   ·subst h;rw[ZX.inj _ _ _ U V];exact SeqAt.EqAt.same _
   ·let S:=G.length;let T:=H.length;let I:=SeqAt.RcAt.tuples (A:=A) (s:=s) (e:=λj=>(l.getD j (.int 0)).eqb (m.getD j (.int 0))) D k d (λj O P=>by
     let r:j<f.length:=by simpa using O
     let B:j<c.length:=by simpa using P
     let⟨E,F,Q⟩:=G.get (j:=j) (u:=f[j]) (by simp[r])
     let⟨J,K,R⟩:=H.get (j:=j) (u:=c[j]) (by simp[B])
     let W:=Oq (zG F);let M:l.getD j (.int 0)=E:=by rw[zV,F];rfl
     let N:m.getD j (.int 0)=J:=by rw[zV,K];rfl
     have:=Ko n E J A.in1 f[j] c[j] ∅ Q R (by show A.units+1+E.depth<cLine;lia)
     show SeqAt.EqAt A.in1 s _ _ ((l.getD j (.int 0)).eqb (m.getD j (.int 0)));rw[M,N];simpa using this)
    let L:((zN (min f.toArray.size c.toArray.size)).all (λj=>(l.getD j (.int 0)).eqb (m.getD j (.int 0)))&&f.toArray.size==c.toArray.size)=(KT.tup l).eqb (.tup m):=by
     rw[zQ,zQ,<-S,<-T,KT.eqb];exact Hl l m
    rw[L] at I;exact .of_refs h I
def Yt(o:Bool)(a b:KT):Bool:=bif o then !b.plt a else a.plt b
def Qh(o:Bool)(l m:jp):Bool:=bif o then !pltL m l else pltL l m
def Ct{o:Bool}{a c:KT}{l m:jp}:Qh o (a::l) (c::m)=if a.eqb c=true then Qh o l m else Yt o a c:=by
 unfold Qh Yt;rw[pltL,pltL,eqb_comm' c a];cases o <;> cases a.eqb c <;> rfl
def Cr{o:Bool}{l m:jp}{i j:Nat}(h:l=[]\/m=[])(e:l.length+j=m.length+i):Qh o l m=bif o then decide (i<=j) else decide (i<j):=by
 rcases h with rfl | rfl
 ·cases m <;> cases o <;> simp[Qh,pltL] at e⊢ <;> lia
 ·cases l <;> cases o <;> simp[Qh,pltL] at e⊢ <;> lia
def Mq(o:Bool)(A:aw)(s:ak)(v u:ai)(b:Bool):Prop:=
 ∀(a:al)(w:ar)(E:ja)(Q:ja),Q (.bool b) s->aA (az a w) A (richCompare (bif o then .LtE else .Lt) v u) Q E s
section
open PySem.SeqAt
open PySem.AutoSeq1 (wpAny_loadPart')
open PySem.MeetsSeq PySem.MeetsSeq2 PySem.MeetsSeq3
inductive HM(c:aC)(d:jp)(n m:Nat)(G:jp->jp->Prop)(rest:List (ai×ai)):Prop
 |mk(e f:je)(a b:jp):rest=e.zip f->jV c a e->jV c b f->(∀ x∈a,x∈d)->cmpL a b=true->a.length+m=b.length+n->G a b->HM c d n m G rest
def ZD7(o:Bool)(l b:aj)(f e:jv)(n n2:Nat)(dd K:jx)(sl O:Array (jd))(D J:jp):
  Meets ((bif o then Builtin.«tuple.__le__» else Builtin.«tuple.__lt__») ⟨[.ref l,.ref b],[]⟩)
   (λA R s=>s.heap.get? l=some { cls:=.type "tuple",dict:=dd,data:=.seq f n,slots:=sl }/\s.heap.get? b=some { cls:=.type "tuple",dict:=K,data:=.seq e n2,slots:=O } /\
    jV s.heap D f.toList/\jV s.heap J e.toList/\cmpL D J=true /\
    (∀ x y v u,x∈D->ZX s.heap x v->ZX s.heap y u->EqAt A.in1 s v u (x.eqb y))/\(∀ x y v u,x∈D->ZX s.heap x v->ZX s.heap y u->x.cmp y=true->Mq o A.in1 s v u (Yt o x y)) /\
    R (.ok (.ret (.bool (Qh o D J)))) s):=by
 let P:=@Ct o;let Q:=@Cr o;generalize Qh o=F at P Q⊢;cases o
 all_goals
  dsimp only[cond_true,cond_false];refine .of_wp λC w A R s h=>?_;let⟨L,g,d,Y,X⟩:=s;let⟨hl,hb,S,T,hc,hE,hL,h⟩:=h;let f2:=AutoSeq1.sub_tuple_tuple;let z1:f.size=D.length:=by rw[S.length];simp
  let z2:e.size=J.length:=by rw[T.length];simp
  wp_walk using wpAny_loadPart' hl,wpAny_loadPart' hb,wpAny_forIn_list _ (λrest b N=>b.1=none/\N=⟨L,g,d,Y,X⟩/\HM L D f.size e.size (λa b=>R (.ok (.ret (.bool (F a b)))) ⟨L,g,d,Y,X⟩) rest) _
  case turn=>
   rintro⟨y,x⟩ rest b N ⟨E,rfl,vs,ws,q,r,p,i,j,t,k,m,B⟩
   cases q with
   | nil=>rw[jV] at i;subst i;rw[List.zip_nil_left] at p;cases p
   | cons a q=>
    cases r with
    | nil=>rw[jV] at j;subst j;rw[List.zip_nil_right] at p;cases p
    | cons c r=>
     rw[jV] at i j;let⟨v,vr,rfl,V,H⟩:=i;let⟨u,ur,rfl,W,I⟩:=j;rw[List.zip_cons_cons] at p;injection p with hyx hrest;injection hyx with hy M;subst hy M;rw[P] at B;rw[cmpL] at k;simp only[yV] at m;let he:=hE a c y x (t a zT) V W;refine aa (he C w _ _ ?_)
     cases U:a.eqb c with
     | true=>
      rw[U,aM rfl] at B k
      wp_walk
      exact⟨Z,Z,_,_,_,_,hrest,H,I,λz p=>t z (zI _ p),k,∅,B⟩
     | false=>
      rw[U,aK zR] at B k;let G:=hL a c y x (t a zT) V W k C w;dsimp only[cond_true,cond_false] at G
      wp_walk using G
      exact⟨_,Z,by simpa using B⟩
  case fin=>
   rintro⟨b1,b2⟩ N ⟨E,rfl,vs,ws,q,r,p,i,j,t,k,m,B⟩;simp only at E;subst E;rw[Q (by
    cases q with
    | nil=>exact .inl Z
    | cons a q=>
     cases r with
     | nil=>exact .inr Z
     | cons c r=>
      rw[jV] at i j;let⟨v,vr,rfl,_,_⟩:=i;let⟨u,ur,rfl,_,_⟩:=j;rw[List.zip_cons_cons] at p;cases p) m] at B
   wp_walk
   exact⟨_,Z,by simpa [Builtin.Tuple.tupleCompareSizes] using B⟩
  case h=>
   exact⟨Z,Z,f.toList,e.toList,D,J,Z,S,T,λ_ M=>M,hc,∅,h⟩
end
def HS(o:Bool){s:ak}:∀(n:Nat)(a b:KT)(A:aw)(v u:ai),a.depth<=n->ZX s.heap a v->ZX s.heap b u->a.cmp b=true->A.units+a.depth<cLine->Mq o A s v u (Yt o a b)
 | n,.int i,b,A,v,u,_,x,y,d,H=>by
  rw[ZX] at x;let⟨t,rfl⟩:=x
  cases b with
  | int j=>
   rw[ZX] at y;let⟨D,rfl⟩:=y;unfold Yt;rw[KT.plt,KT.plt];intro c w E Q h;cases o
   ·exact HT.rcLt_int A s i t j D c w E Q h
   ·exact(le_int (by rw[show decide (i<=j) = !decide (j<i) by by_cases z:j<i <;> simp[z] <;> lia];exact h):aA (az c w) A (ay .LtE (.int i t) (.int j D)) Q E s)
  | str z=>simp[KT.cmp] at d
  | tup m=>simp[KT.cmp] at d
 | n,.str w,b,A,v,u,_,x,y,d,H=>by
  rw[ZX] at x;let⟨t,rfl⟩:=x
  cases b with
  | int j=>simp[KT.cmp] at d
  | str z=>
   rw[ZX] at y;let⟨D,rfl⟩:=y;unfold Yt;rw[KT.plt,KT.plt];intro c w' E Q h;cases o
   ·exact(lt_str h:aA (az c w') A (ay .Lt (.str w t) (.str z D)) Q E s)
   ·exact(PySem.P.le_str h:aA (az c w') A (ay .LtE (.str w t) (.str z D)) Q E s)
  | tup m=>simp[KT.cmp] at d
 | 0,.tup l,b,A,v,u,K,x,y,d,H=>by
  rw[KT.depth] at K
  lia
 | n+1,.tup l,b,A,v,u,K,x,y,d,H=>by
  rw[ZX] at x;let⟨p,M,rfl,px,kx⟩:=x;rw[KT.depth] at K H;let B:A.units<cLine:=∅
  cases b with
  | int j=>simp[KT.cmp] at d
  | str z=>simp[KT.cmp] at d
  | tup m=>
   rw[ZX] at y;let⟨q,C,rfl,py,ky⟩:=y;rw[KT.cmp] at d;let e:Yt o (.tup l) (.tup m)=Qh o l m:=by
    unfold Yt Qh;rw[KT.plt,KT.plt]
   rw[e];intro c w E Q h;let⟨⟨cls,dd,data,sl⟩,G,k,R,Y⟩:=id px;let⟨⟨V,J,I,U⟩,f,g,S,r⟩:=id py;simp only at k Y g r;subst k Y g r;let W:∀ x y v u,x∈l->ZX s.heap x v->ZX s.heap y u->SeqAt.EqAt A.in1 s v u (x.eqb y):=λx y v u L N O=>by
    let d1:=Oq L;exact Ko x.depth x y A.in1 v u (zY _) N O (by show A.units+1+x.depth<cLine;lia)
   let X:∀ x y v u,x∈l->ZX s.heap x v->ZX s.heap y u->x.cmp y=true->Mq o A.in1 s v u (Yt o x y):=λx y v u L N O k3=>by
    let d1:=Oq L;exact HS o n x y A.in1 v u ∅ N O k3 (by show A.units+1+x.depth<cLine;lia)
   let T:=ZD7 o p q M.toArray C.toArray R S dd J sl U l m;cases o
   ·exact richCompare_meets_room (op:=.Lt) ⟨_,G,Z⟩ ⟨_,f,Z⟩ PySem.F.slot_tuple_lt PySem.F.entry_tuple_lt (PySem.F.args_tuple_lt_2 _ _) T ⟨G,f,kx,ky,d,W,X,(λx=>nomatch x),h⟩ B
   ·exact richCompare_meets_room (op:=.LtE) ⟨_,G,Z⟩ ⟨_,f,Z⟩ PySem.F.slot_tuple_le PySem.F.entry_tuple_le (PySem.F.args_tuple_le_2 _ _) T ⟨G,f,kx,ky,d,W,X,(λx=>nomatch x),h⟩ B
def KB{s:ak}(n:Nat)(a b:KT)(A:aw)(v u:ai):a.depth<=n->ZX s.heap a v->ZX s.heap b u->a.cmp b=true->A.units+a.depth<cLine->Mq false A s v u (a.plt b):=HS false n a b A v u
def ZZ.key{k:Nat}{A:aw}(r:ZZ k A){n:Nat}(h:n<=200):A.units+n<cLine:=by have:=r.un;lia
inductive Ki(x y:V)(H:Hp)(Q:VK):Prop
 |mk(a b:_)(_:ZF H a x)(_:ZF H b y)(_:a.cmp b=true)(_:a.depth<=200)(_:Q (.bl (a.plt b)) H)
def Fa{k:Nat}(i:ZZ k X.A):Yv X (ay .Lt) Ki:=by
 intro c s m H x y v u Q I j l h;let⟨a,b,d,e,f,g,q⟩:=h;exact KB a.depth a b X.A v u (zY _) (Me I a x v d j) (Me I b y u e l) f (ZZ.key i g) X.prog X.w X.xe _ ⟨.bl _,H,I,Z,q⟩
end Tw
namespace L2
open PySem PySem.Spec PyProof.Rows
def ZE.big{a:js}{b:St}{H:Hp}{s:ak}(I:ZE X a b H s):sysModules<s.heap.objs.size:=by
 let h:ao<s.heap.objs.size:=(I.mod.glob.keeps I.bk).lt;exact Nat.lt_trans (by decide) h
def Fx{P:al}{w:ar}{H:Hp}(h:aC)(a:sysModules<h.objs.size):Zd P w H (h.push { cls:=.type "dict",data:=.dict #[] }) h.objs.size (.dK []):=
 ⟨zF _,beq_eq_false_iff_ne.mpr (Ne.symm (zK a)),[],.nil,Heap.DictOf.new h⟩
def Ca:TE:=λ_ H Q=>∀ p,H p=none->Q (.ref p) (upd H p (.dK []))
def OH{b:aH}:PE X (.Dict [] [] b) Ca:=λc s d H Q I h=>
 wpAny_Dict_empty ⟨.ref s.heap.objs.size,_,I.laid (a:=s.heap.objs.size) (o:=.dK []) (t':=s.toks) (λ_ _ q=>zP _ q) (zY _) (Fx s.heap I.big),rfl,h _ (I.hok.fresh (zY _))⟩
def N9{K:zZ}{b:aC}{v:jb}{x:Str}{C:aj}{d:je}{a:String}(c:K.In b)(E:v x=some (.ref C))(q:vV K C d a=true):OwnCls x C d a v b:=by
 exists E;unfold vV at q;split at q
 ·rename_i B k y G
  split at q
  ·rename_i R A p r s t n u m o
   rw[zO,zO,zO,zO,zO] at q;let⟨⟨⟨⟨⟨J,L⟩,M⟩,N⟩,i⟩,O⟩:=q;cases eq_of_beq J;cases eq_of_beq L;let e:k.hasDel=false:=by simpa using M
   let f:=eq_of_beq O;let⟨I,bs,H,w,P,F,Q,j,z,g,D⟩:=k;dsimp only at m e i f;subst m e;let h:y=#[p,r,s,t,some (.builtin a),u]:=by
    let⟨l⟩:=y;simp only at o;rw[o]
   subst h;exists A,w,I,P,bs,F,Q,j,z,g,B,p,r,s,t,u,b.nsMap w,c _ _ G;exact⟨.of_isNs (PySem.W.isNs_of_in c i),PySem.W.nsMap_none_of_in c i f,rP c N⟩
  ·cases q
 ·cases q
def MS{P:al}{w:ar}{K:zZ}{h:jb}{d:aC}{g:Wn}{N:jr}{c:Str}{a:aD}{f:aj}{e:ai}{A:aw}{b:jB}{s:ak}{H:Hp}{E:XK}:
  PassesOwn (az (WW g P w K h d N c a f e A b s H E).prog (WW g P w K h d N c a f e A b s H E).w) (WW g P w K h d N c a f e A b s H E).A (WW g P w K h d N c a f e A b s H E).env (WW g P w K h d N c a f e A b s H E).xe:=by
 show PassesOwn (az P w) (A.deeper (envOfC c a s.heap.objs.size f e)) (envOfC c a s.heap.objs.size f e) _
 passes_own
def Qt:Expr->Bool
 | .Starred _ _=>false
 | _=>true
def Wa{e:Expr}{b:jy}{a:Env}(h:Qt e=true):aq (e::b) a=(false,aF e a)::aq b a:=by
 cases e <;> first | rfl | cases h
def Oa{X:Cx}{e:Expr}{a:jy}{b:TE}{t:TA}(c:PE X e b)(d:PA X a t)(h:Qt e=true:=by rfl):PA X (e::a) (X1 b t):=Zh c d (Wa h)
def ZV{X:Cx}{e:Expr}{a:TE}(b:PE X e a)(h:Qt e=true:=by rfl):PA X [e] (X1 a Uc):=Zh b Zw (Wa h)
def Zj{X:Cx}{e d:Expr}{b a:TE}(f:PE X e b)(g:PE X d a)(h:Qt e=true:=by rfl)(c:Qt d=true:=by rfl):PA X [e,d] (X1 b (X1 a Uc)):=Zh f (ZV g c) (Wa h)
def Pi{X:Cx}{a b c:Expr}{d e f:TE}(g:PE X a d)(i:PE X b e)(j:PE X c f)(h:[a,b,c].all Qt=true:=by rfl):PA X [a,b,c] (X1 d (X1 e (X1 f Uc))):=
 (Zh g (Zh i (Zh j Zw (Wa (yY.mp h c (by simp)))) (Wa (yY.mp h b (by simp)))) (Wa (yY.mp h a (by simp))))
def OF{X:Cx}{a b c d:Expr}{e f g i:TE}(j:PE X a e)(k:PE X b f)(l:PE X c g)(m:PE X d i)(h:[a,b,c,d].all Qt=true:=by rfl):PA X [a,b,c,d] (X1 e (X1 f (X1 g (X1 i Uc)))):=
 (Zh j (Zh k (Zh l (Zh m Zw (Wa (yY.mp h d (by simp)))) (Wa (yY.mp h c (by simp)))) (Wa (yY.mp h b (by simp)))) (Wa (yY.mp h a (by simp))))
def Gg{X:Cx}{a b c d e:Expr}{f g i j k:TE}(l:PE X a f)(m:PE X b g)(n:PE X c i)(o:PE X d j)(p:PE X e k)(h:[a,b,c,d,e].all Qt=true:=by rfl):PA X [a,b,c,d,e] (X1 f (X1 g (X1 i (X1 j (X1 k Uc))))):=
 (Zh l (Zh m (Zh n (Zh o (Zh p Zw (Wa (yY.mp h e (by simp)))) (Wa (yY.mp h d (by simp)))) (Wa (yY.mp h c (by simp)))) (Wa (yY.mp h b (by simp)))) (Wa (yY.mp h a (by simp))))
def pa6{X:Cx}{a b c d e f:Expr}{g i j k l m:TE}(n:PE X a g)(o:PE X b i)(p:PE X c j)(q:PE X d k)(r:PE X e l)(s:PE X f m)(h:[a,b,c,d,e,f].all Qt=true:=by rfl):PA X [a,b,c,d,e,f] (X1 g (X1 i (X1 j (X1 k (X1 l (X1 m Uc)))))):=
 (Zh n (Zh o (Zh p (Zh q (Zh r (Zh s Zw (Wa (yY.mp h f (by simp)))) (Wa (yY.mp h e (by simp)))) (Wa (yY.mp h d (by simp)))) (Wa (yY.mp h c (by simp)))) (Wa (yY.mp h b (by simp)))) (Wa (yY.mp h a (by simp))))
end L2
namespace Tw
open PySem PySem.Spec L2
def BU(N:aj->Prop)(H:Hp)(n:String)(v:V):Prop:=
 (n = "bool" /\ ∃ b,v=.bl b)\/(n = "NoneType" /\ v=.non)\/(n = "list" /\ ∃ a d,v=.ref a/\H a=some (.lst d)/\¬ N a)\/(n = "dict" /\ ∃ a c,v=.ref a/\H a=some (.dK c)/\¬ N a)
mutual
def Yw(N:aj->Prop)(H:Hp):TG->V->Prop
 | .int i,v=>v=.int i
 | .str x,v=>v=.str x
 | .tup l,v=>∃ a vs,v=.ref a/\H a=some (.tup vs)/\jY N H l vs
 | .odd n,v=>BU N H n v
def jY(N:aj->Prop)(H:Hp):List TG->jf->Prop
 | [],vs=>vs=[]
 | t::l,vs=>∃ v r,vs=v::r/\Yw N H t v/\jY N H l r
end
structure Q9(N:aj->Prop)(H H':Hp):Prop where
 tup:YC H H'
 rest:∀ b o,H b=some o->¬ N b->H' b=some o
mutual
def Yw.mono{N:aj->Prop}{H H':Hp}(m:Q9 N H H'):∀(t:TG)(v:V),Yw N H t v->Yw N H' t v
 | .int _,_,h=>by rw[Yw] at h⊢;exact h
 | .str _,_,h=>by rw[Yw] at h⊢;exact h
 | .tup l,_,h=>by
  rw[Yw] at h⊢;let⟨a,vs,e,h1,h2⟩:=h;exact⟨a,vs,e,m.tup a vs h1,jY.mono m l vs h2⟩
 | .odd n,_,h=>by
  rw[Yw] at h⊢;rcases h with h | h | ⟨e,a,xs,e1,e2,e3⟩ | ⟨e,a,xs,e1,e2,e3⟩
  ·exact .inl h
  ·exact .inr (.inl h)
  ·exact .inr (.inr (.inl ⟨e,a,xs,e1,m.rest _ _ e2 e3,e3⟩))
  ·exact .inr (.inr (.inr ⟨e,a,xs,e1,m.rest _ _ e2 e3,e3⟩))
def jY.mono{N:aj->Prop}{H H':Hp}(m:Q9 N H H'):∀(l:List TG)(vs:jf),jY N H l vs->jY N H' l vs
 | [],_,h=>by rw[jY] at h⊢;exact h
 | t::l,_,h=>by
  rw[jY] at h⊢;let⟨v,r,e,h1,h2⟩:=h;exact⟨v,r,e,Yw.mono m t v h1,jY.mono m l r h2⟩
end
mutual
def Yw.less{N N':aj->Prop}{H:Hp}(m:∀ b,N' b->N b):∀(t:TG)(v:V),Yw N H t v->Yw N' H t v
 | .int _,_,h=>by rw[Yw] at h⊢;exact h
 | .str _,_,h=>by rw[Yw] at h⊢;exact h
 | .tup l,_,h=>by
  rw[Yw] at h⊢;let⟨a,vs,e,h1,h2⟩:=h;exact⟨a,vs,e,h1,jY.less m l vs h2⟩
 | .odd n,_,h=>by
  rw[Yw] at h⊢;rcases h with h | h | ⟨e,a,xs,e1,e2,e3⟩ | ⟨e,a,xs,e1,e2,e3⟩
  ·exact .inl h
  ·exact .inr (.inl h)
  ·exact .inr (.inr (.inl ⟨e,a,xs,e1,e2,λz=>e3 (m a z)⟩))
  ·exact .inr (.inr (.inr ⟨e,a,xs,e1,e2,λz=>e3 (m a z)⟩))
def jY.less{N N':aj->Prop}{H:Hp}(m:∀ b,N' b->N b):∀(l:List TG)(vs:jf),jY N H l vs->jY N' H l vs
 | [],_,h=>by rw[jY] at h⊢;exact h
 | t::l,_,h=>by
  rw[jY] at h⊢;let⟨v,r,e,h1,h2⟩:=h;exact⟨v,r,e,Yw.less m t v h1,jY.less m l r h2⟩
end
end Tw
namespace L2
open PySem PySem.Spec PyProof.Rows
section
variable{κ:Type}[DecidableEq κ]
def Z5(a:List (κ×V))(k:κ):jg:=(a.find? λb=>decide (b.1=k)).map (·.2)
def Zq(a:List (κ×V))(k:κ)(v:V):List (κ×V):=
 if (a.any λb=>decide (b.1=k))=true then a.map (λb=>if b.1=k then (b.1,v) else b) else a++[(k,v)]
def WS(a:List (κ×V))(k:κ):List (κ×V):=a.filter λb=>decide (b.1≠k)
def UI{p:κ×V}{r:List (κ×V)}{k:κ}(e:p.1=k):Z5 (p::r) k=some p.2:=by simp[Z5,xA,e]
def UK{p:κ×V}{r:List (κ×V)}{k:κ}(e:¬ p.1=k):Z5 (p::r) k=Z5 r k:=by simp[Z5,xA,e]
def Pf(k:κ):∀ a:List (κ×V),(a.any λb=>decide (b.1=k))=(Z5 a k).isSome
 | []=>rfl
 | p::r=>by
  rw[vW];by_cases e:p.1=k
  ·simp only[UI e,aJ e,Bool.true_or,Option.isSome_some]
  ·rw[UK e,aI e,Bool.false_or];exact Pf k r
def Fc(k j:κ)(y:V):∀ a:List (κ×V),Z5 (a.map λb=>if b.1=k then (b.1,y) else b) j=(Z5 a j).map λx=>if j=k then y else x
 | []=>rfl
 | p::r=>by
  let c:=Fc k j y r;rw[yT];by_cases h:p.1=k
  ·rw[aM h];by_cases e:p.1=j
   ·rw[UI (p:=(p.1,y)) e,UI e,uK,aM (e.symm.trans h)]
   ·rw[UK (p:=(p.1,y)) e,UK e,c]
  ·rw[aK h];by_cases e:p.1=j
   ·rw[UI (p:=p) e,UI e,uK,aK (λz=>h (e.trans z))]
   ·rw[UK (p:=p) e,UK e,c]
def Hj(k j:κ)(y:V):∀ a:List (κ×V),Z5 a k=none->Z5 (a++[(k,y)]) j=if j=k then some y else Z5 a j
 | [],_=>by
  by_cases e:k=j
  ·rw[aM e.symm];exact UI (p:=(k,y)) e
  ·rw[aK (λz=>e z.symm)];exact UK (p:=(k,y)) e
 | p::r,hn=>by
  rw[uJ];let b:¬ p.1=k:=λz=>by rw[UI z] at hn;cases hn
  rw[UK b] at hn;let c:=Hj k j y r hn;by_cases e:p.1=j
  ·rw[UI e,UI e,aK (λz=>b (e.trans z))]
  ·rw[UK e,UK e,c]
def QZ(b:List (κ×V))(k j:κ)(y:V):Z5 (Zq b k y) j=if j=k then some y else Z5 b j:=by
 unfold Zq;by_cases a:(b.any λd=>decide (d.1=k))=true
 ·rw[aM a,Fc];rw[Pf] at a;by_cases e:j=k
  ·let⟨x,c⟩:=rZ.mp a;rw[aM e,e,c,uK,aM rfl]
  ·rw[aK e]
   cases Z5 b j with
   | none=>rfl
   | some x=>rw[uK,aK e]
 ·rw[aK a];refine Hj k j y b ?_;rw[Pf] at a
  cases q:Z5 b k with
  | none=>rfl
  | some x=>rw[q] at a;exact(a Z).elim
def Kf(a:List (κ×V))(k:κ)(v:V):(Zq a k v).length<=a.length+1:=by
 unfold Zq;split
 ·rw[zX];lia
 ·rw[zH,yV,sY];lia
def LY{a:List (κ×V)}{k:κ}(v:V)(h:Z5 a k=none):Zq a k v=a++[(k,v)]:=by
 unfold Zq;rw[Pf,h];exact aK (by decide)
def Yj.isSome_eq{o:jg}{u:jd}(r:Yj o u):o.isSome=u.isSome:=by
 cases o with
 | none=>cases u with
  | none=>rfl
  | some _=>exact(show False from r).elim
 | some _=>cases u with
  | none=>exact(show False from r).elim
  | some _=>rfl
def Yj.getD{o:jg}{u:jd}{d:V}{a:ai}(r:Yj o u)(rd:ZU d a):ZU (o.getD d) (u.getD a):=by
 cases o with
 | none=>cases u with
  | none=>exact rd
  | some _=>exact(show False from r).elim
 | some _=>cases u with
  | none=>exact(show False from r).elim
  | some _=>exact r
def KV.val{a:List (κ×V)}{g:List (κ×ai)}(r:KV a g)(k:κ):Yj (Z5 a k) (valueAt g k):=by
 unfold KV at r
 induction r with
 | nil=>exact True.intro
 | @cons p q l d h t j=>
  let⟨f,i⟩:=h;by_cases e:p.1=k
  ·let c:q.1=k:=f.symm.trans e;let b:valueAt (q::d) k=some q.2:=by simp[valueAt,xA,c]
   rw[UI e,b];exact i
  ·let c:¬ q.1=k:=λz=>e (f.trans z);let b:valueAt (q::d) k=valueAt d k:=by simp[valueAt,xA,c]
   rw[UK e,b];exact j
def KV.any{a:List (κ×V)}{c:List (κ×ai)}(r:KV a c)(k:κ):(a.any λb=>decide (b.1=k))=c.any λb=>decide (b.1=k):=by
 unfold KV at r
 induction r with
 | nil=>rfl
 | cons h t d=>rw[vW,vW,d,h.1]
def KV.repl{b:List (κ×V)}{d:List (κ×ai)}(r:KV b d)(k:κ){y:V}{u:ai}(i:ZU y u):
  KV (b.map λa=>if a.1=k then (a.1,y) else a) (d.map λa=>if a.1=k then (a.1,u) else a):=by
 unfold KV at r⊢
 induction r with
 | nil=>exact .nil
 | @cons p q j l h t g=>
  rw[yT,yT];refine .cons ?_ g;let⟨c,f⟩:=h;by_cases e:p.1=k
  ·rw[aM e,aM (c.symm.trans e)];exact⟨c,i⟩
  ·rw[aK e,aK (λz=>e (c.trans z))];exact⟨c,f⟩
def KV.put{a:List (κ×V)}{b:List (κ×ai)}(r:KV a b)(k:κ){y:V}{u:ai}(c:ZU y u):KV (Zq a k y) (stored b k u):=by
 unfold Zq stored;rw[r.any k];by_cases e:(b.any λd=>decide (d.1=k))=true
 ·rw[aM e,aM e];exact r.repl k c
 ·rw[aK e,aK e];exact Paired.snoc r ⟨Z,c⟩
def KV.drop{c:List (κ×V)}{g:List (κ×ai)}(r:KV c g)(k:κ):KV (WS c k) (without g k):=by
 unfold KV at r⊢;unfold WS without
 induction r with
 | nil=>exact .nil
 | @cons p q l m h t f=>
  let⟨d,j⟩:=h;rw[wT,wT];by_cases e:p.1=k
  ·let a:¬ decide (p.1≠k)=true:=by simp[e]
   let b:¬ decide (q.1≠k)=true:=by simp[d.symm.trans e]
   rw[aK a,aK b];exact f
  ·let i:¬ q.1=k:=λz=>e (d.trans z);let a:decide (p.1≠k)=true:=by simp[e]
   let b:decide (q.1≠k)=true:=by simp[i]
   rw[aM a,aM b];exact .cons ⟨d,j⟩ f
def KV.keys{a:List (κ×V)}{b:List (κ×ai)}(r:KV a b):a.map (·.1)=b.map (·.1):=by
 unfold KV at r
 induction r with
 | nil=>rfl
 | cons h t c=>rw[yT,yT,c,h.1]
def KV.length{a:List (κ×V)}{b:List (κ×ai)}(r:KV a b):a.length=b.length:=Paired.length r
def ZK4(a:List (κ×V))(k:κ):(WS a k).length<=a.length:=vJ _ _
end
def Py{P:al}{w:ar}{k:ZR}{u:ai}(r:ZU (kV k) u):(We P w).is k u=true:=by
 cases k with
 | inl i=>let⟨t,e⟩:=(show ∃ t,u=Value.int i t from r);subst e;exact ZGW P w i t
 | inr x=>let⟨t,e⟩:=(show ∃ t,u=Value.str x t from r);subst e;exact ZGH P w x t
def Ft{P:al}{w:ar}:∀{a:jC}{b:je},ZT (a.map kV) b->ItemsAre (We P w) a b
 | [],_,r=>by rw[wI] at r;cases r;exact .nil
 | k::a,_,r=>by
  rw[yT] at r
  cases r with
  | cons h t=>exact .cons (Py h) (Ft t)
abbrev KT(H:Hp):List (jC×V)->List (jC×aj×ai)->Prop:=Paired λp q=>p.1=q.1/\H q.2.1=some (.tup (p.1.map kV))/\ZU p.2 q.2.2
def KT.val{H:Hp}{a:List (jC×V)}{g:List (jC×aj×ai)}(r:KT H a g)(k:jC):Yj (Z5 a k) ((atKey g k).map (·.2)):=by
 induction r with
 | nil=>exact True.intro
 | @cons p q l d h t j=>
  let⟨f,_,i⟩:=h;by_cases e:p.1=k
  ·let c:q.1=k:=f.symm.trans e;let b:atKey (q::d) k=some q.2:=by simp[atKey,xA,c]
   rw[UI e,b];exact i
  ·let c:¬ q.1=k:=λz=>e (f.trans z);let b:atKey (q::d) k=atKey d k:=by simp[atKey,xA,c]
   rw[UK e,b];exact j
def KT.repl{H:Hp}{a:List (jC×V)}{f:List (jC×aj×ai)}(r:KT H a f)(k:jC){y:V}{u:ai}(j:ZU y u):
  KT H (a.map λc=>if c.1=k then (c.1,y) else c) (f.map (putAt k u)):=by
 induction r with
 | nil=>exact .nil
 | @cons p q l m h t i=>
  rw[yT,yT];refine .cons ?_ i;let⟨b,d,g⟩:=h;unfold putAt;by_cases e:p.1=k
  ·rw[aM e,aM (b.symm.trans e)];exact⟨b,d,j⟩
  ·rw[aK e,aK (λz=>e (b.trans z))];exact⟨b,d,g⟩
def KT.put{H:Hp}{a:List (jC×V)}{c:List (jC×aj×ai)}(r:KT H a c)(k:jC){b:aj}{y:V}{u:ai}(f:H b=some (.tup (k.map kV)))(d:ZU y u):
  KT H (Zq a k y) (storedH c k b u):=by
 let e:(a.any λg=>decide (g.1=k))=(atKey c k).isSome:=by
  rw[Pf,(r.val k).isSome_eq,Option.isSome_map]
 unfold Zq storedH;rw[e];by_cases q:(atKey c k).isSome=true
 ·rw[aM q,aM q];exact r.repl k d
 ·rw[aK q,aK q];exact Paired.snoc r ⟨Z,f,d⟩
def KT.keeps{H c:Hp}{a:List (jC×V)}{d:List (jC×aj×ai)}(r:KT H a d)(f:∀ b e,H b=some (.tup e)->c b=some (.tup e)):KT c a d:=
 Paired.mapP r λ_ _ z=>⟨z.1,f _ _ z.2.1,z.2.2⟩
section
variable{H:Hp}{h:aC}{a:aj}
def F3{u:HO}(b:Yu P w H h)(e:Rd H a u):Zd P w H h a u:=e.ok b
def OD{b:List (ZR×V)}(d:Yu P w H h)(e:Rd H a (.dK b)):b.length<=ap/\(a==sysModules)=false/\∃ c,KV b c/\h.DictOf (We P w) a c:=
 show Zd P w H h a (.dK b) from F3 d e
def NG{b:List (ZR×V)}(d:Yu P w H h)(e:H a=some (.dK b)):b.length<=ap/\(a==sysModules)=false/\∃ c,KV b c/\h.DictOf (We P w) a c:=OD d (.inl e)
def Nb{c:jC}(i:Yu P w H h)(e:H a=some (.tup (c.map kV))):(tupleKind (We P w)).is h c a:=by
 let⟨_,b,r,o,d,f,n,g⟩:=(show Zd P w H h a (.tup (c.map kV)) from i a _ e);exact⟨o,b.toArray,n,d,f,g,by simpa using Ft r⟩
def NI{b:List (jC×V)}(i:Yu P w H h)(e:Rd H a (.dT b)):b.length<=ap/\(a==sysModules)=false /\
  ∃ d,KT H b d/\h.DictOfH (tupleKind (We P w)) a d:=by
 let⟨z,y,d,r,o,k,j,n,s,u,v,A⟩:=(show Zd P w H h a (.dT b) from F3 i e);refine⟨z,y,d,r,o,k,j,n,s,u,v,λx c=>?_,A⟩;let f:∀{l:List (jC×V)}{m:List (jC×aj×ai)},KT H l m->∀ x∈m,(tupleKind (We P w)).is h x.1 x.2.1:=by
  intro l m q
  induction q with
  | nil=>intro x c;exact nomatch c
  | @cons p q C D g t B=>
   intro x c;rcases zC.mp c with e | c
   ·subst e;exact Nb i (by rw[<-g.1];exact g.2.1)
   ·exact B x c
 exact f r x c
def Es{b:List (jC×V)}(d:Yu P w H h)(e:H a=some (.dT b)):b.length<=ap/\(a==sysModules)=false /\
  ∃ c,KT H b c/\h.DictOfH (tupleKind (We P w)) a c:=NI d (.inl e)
end
def Zg(H:Hp)(a:aj)(y:V)(r:jg):Prop:=
 (∃ c k,Rd H a (.dK c)/\y=kV k/\r=Z5 c k)\/∃ c k b,Rd H a (.dT c)/\y=.ref b/\H b=some (.tup (k.map kV))/\r=Z5 c k
def Yr(H:Hp)(a:aj)(y v:V)(d:Hp):Prop:=
 (∃ c k,H a=some (.dK c)/\y=kV k/\c.length<ap/\d=upd H a (.dK (Zq c k v))) \/
 ∃ c k b,H a=some (.dT c)/\y=.ref b/\H b=some (.tup (k.map kV))/\c.length<ap/\d=upd H a (.dT (Zq c k v))
def Zg.k{H:Hp}{a:aj}{b:List (ZR×V)}{k:ZR}(e:H a=some (.dK b)):Zg H a (kV k) (Z5 b k):=.inl ⟨b,k,.inl e,Z,Z⟩
def Yr.k{H:Hp}{a:aj}{b:List (ZR×V)}{k:ZR}{v:V}(e:H a=some (.dK b))(c:b.length<ap):Yr H a (kV k) v (upd H a (.dK (Zq b k v))):=.inl ⟨b,k,e,Z,c,Z⟩
section
variable{ke:js}{σ:St}{H:Hp}{a:aj}{y v:V}{u r:ai}{o:jg}
def ZIL{Q:ja}(F:A.units+1<cLine)(I:ZE X ke σ H s)(g:Zg H a y (some v))(t:ZU y u)(h:∀ f x,ZE X ke σ H x->ZU v f->Q f x):
  aA (az X.prog X.w) A (getItem (.ref a) u) Q E s:=by
 rcases g with ⟨q,k,e,j,l⟩ | ⟨q,k,b,e,j,B,l⟩
 ·subst j;let⟨z,C,G,c,i⟩:=OD I.hok e;let⟨f,n,d⟩:=Yj.some_of (v:=v) (o:=valueAt G k) (by rw[l];exact c.val k)
  exact wpAny_getItem_of (Py t) i.mapOf n (h f _ (I.tok _) d)
 ·subst j;cases(show u=Value.ref b from t);let⟨z,C,J,c,i⟩:=NI I.hok e;let⟨f,n,d⟩:=Yj.some_of (v:=v) (o:=(atKey J k).map (·.2)) (by rw[l];exact c.val k)
  let⟨p,D,m⟩:=yO.mp n;refine wpAny_getItem_heap (tupleKind_room_in1 F) (Nb I.hok B) i D ?_;rw[m];exact h f _ (I.tok _) d
def Dp{Q:ja}(t:A.units+1<cLine)(I:ZE X ke σ H s)(g:Zg H a y o)(m:ZU y u)(h:∀ n,ZE X ke σ H n->Q (.bool (!o.isSome)) n):
  aA (az X.prog X.w) A (ay .NotIn u (.ref a)) Q E s:=by
 rcases g with ⟨j,k,e,f,l⟩ | ⟨j,k,b,e,f,p,l⟩
 ·subst f;let⟨z,i,x,c,d⟩:=OD I.hok e;refine wpAny_notIn_of (Py m) i d.mapOf ?_;rw[<-(c.val k).isSome_eq,<-l];exact h _ (I.tok _)
 ·subst f;cases(show u=Value.ref b from m);let⟨z,i,B,c,d⟩:=NI I.hok e;refine wpAny_notIn_heap (tupleKind_room_in1 t) (Nb I.hok p) i d ?_;let q:=(c.val k).isSome_eq;rw[Option.isSome_map] at q;rw[<-q,<-l];exact h _ (I.tok _)
def Mz{c:aC}{k:Nat}{f:HO}(I:ZE X ke σ H s)(j:NS (H a))(i:xB a s.heap c)(h:∃ q,c.get? a=some q)(d:Zd X.prog X.w (upd H a f) c a f):
  ZE X ke σ (upd H a f) { s with heap:=c,toks:=k }:=
 I.write (x:=a) (e:=a) j (.inl rfl) (λb q g z=>(i.2 b g).trans z) h d
def JH{P:al}{w:ar}{f:Hp}{e:aC}{b:List (ZR×V)}{d:jR}(z:b.length<=ap)(h:(a==sysModules)=false)(c:KV b d)(g:e.DictOf (We P w) a d):
  Zd P w f e a (.dK b):=⟨z,h,d,c,g⟩
def E3{D:Hp}{Q:Unit->ak->Prop}(V:A.units+1<cLine)(I:ZE X ke σ H s)(g:Yr H a y v D)(L:ZU y u)(K:ZU v r)(h:∀ M,ZE X ke σ D M->Q () M):
  aA (az X.prog X.w) A (setItem (.ref a) u r) Q E s:=by
 rcases g with ⟨d,k,e,p,l,n⟩ | ⟨d,k,b,e,p,F,l,n⟩
 ·subst p n;let⟨z,t,W,f,m⟩:=NG I.hok e;let C:W.length<=sizeLine:=by rw[<-f.length];exact z
  let x:(Zq d k v).length<=sizeLine:=by have:=Kf d k v;lia
  refine wpAny_setItem_pairs (hsz:=C) (Py L) m λJ i B=>h _ ?_;let U:∃ q,J.get? a=some q:=let ⟨q,_,_,j,_⟩:=i;⟨q,j⟩;exact Mz I (by rw[e];exact True.intro) B U (JH x t (f.put k K) i)
 ·subst p n;cases(show u=Value.ref b from L);let⟨z,t,Y,f,m⟩:=Es I.hok e;let C:Y.length<=sizeLine:=by rw[<-Paired.length f];exact z
  let x:(Zq d k v).length<=sizeLine:=by have:=Kf d k v;lia
  refine wpAny_setItem_heap (hsz:=C) (tupleKind_room_in1 V) (Nb I.hok F) m λJ i B=>h _ ?_;let⟨q,O,N,j,P,R,S,_,T⟩:=i;refine Mz I (by rw[e];exact True.intro) B ⟨q,j⟩ ⟨x,t,_,(f.put k F K).keeps λc ys G=>?_,q,O,N,j,P,R,S,T⟩
  rw[ZM (ZI G e (λz=>nomatch z))];exact G
end
section
variable{ke:js}{σ:St}{H:Hp}{a:aj}{kvs:List (ZR×V)}{k:ZR}{u:ai}
def Au{v:V}{b:je}{Q:ja}(I:ZE X ke σ H s)(e:H a=some (.dK kvs))(j:ZU (kV k) u)(l:Z5 kvs k=some v)(n:b=[]\/∃ x,b=[x])(h:∀ f p,ZE X ke σ (upd H a (.dK (WS kvs k))) p->ZU v f->Q f p):aA (az X.prog X.w) A (call (.builtin "dict.pop") (.ref a::u::b)) Q E s:=by
 let⟨z,C,r,c,m⟩:=NG I.hok e;let⟨f,K,g⟩:=Yj.some_of (v:=v) (o:=valueAt r k) (by rw[<-l];exact c.val k)
 let G:(keyPart u).isSome=true:=by
  cases k with
  | inl i=>let⟨t,q⟩:=(show ∃ t,u=Value.int i t from j);subst q;rfl
  | inr x=>let⟨t,q⟩:=(show ∃ t,u=Value.str x t from j);subst q;rfl
 let B:argsOk "dict.pop" ⟨.ref a::u::b,[]⟩:=by
  rcases n with q | ⟨x,q⟩
  ·subst q;exact PySem.F.args_dict_pop_2 _ _
  ·subst q;exact PySem.F.args_dict_pop_3 _ _ _
 refine call_meetsIn rG m.typeIs PySem.F.entry_dict_pop B (meets_dict_pop_there (We X.prog X.w) a (Py j) b n G)
  ⟨r,f,m,by rw[<-c.length];exact z,K,λy d J=>h f _ ?_ g⟩
 let D:∃ q,y.get? a=some q:=let ⟨q,_,_,hq,_⟩:=d;⟨q,hq⟩;exact Mz I (by rw[e];exact True.intro) J D (JH (zL (ZK4 kvs k) z) C (c.drop k) d)
def ZPG{Q:ja}(I:ZE X ke σ H s)(e:Rd H a (.dK kvs))(h:∀ t c,ZE X ke σ H c->Q (.int kvs.length t) c):aA (az X.prog X.w) A (call (.builtin "len") [.ref a]) Q E s:=by
 let⟨z,f,g,b,d⟩:=OD I.hok e;refine call_len_dict f d (by rw[<-b.length];rw[sizeLine_eq] at z;lia (splits:=8)) ?_
 rw[<-b.length];exact h _ _ (I.tok _)
end
def Fn(i:Expr):Prop:=∀ b a,subscripted i false b a=operate [b,a] (getItem b a)
def BF{a:al}{w:ar}{A:aw}{E:ja}{s:ak}{j:Env}{c b:Expr}{n:aH}{T id:String}{Q:ja}(q:typeLookup (.type T) "__getitem__" = pure (some (.builtin id)))(t:Fn b)(h:aA (az a w) A (aF c j) (λo f=>aA (az a w) A (aF b j) (λi d=>d.TypeIs o T/\aA (az a w) A (getItem o i) Q E d) E f) E s):
  aA (az a w) A (aF (.Subscript c b n) j) Q E s:=by
 refine Subscript_ (ae h (λo f l=>ae l (λi d e=>?_) λ_ _ x=>x) λ_ _ x=>x);let⟨p,e⟩:=e;unfold subscriptTail;refine aa ?_;rw[getitemInPython_of_ne p.not_modules];refine aa (wpAny_specialOf p q ?_);let k:aA (az a w) A (subscripted b false o i) (λr g=>aA (az a w) A (letTemporaryGo c o r >>= λ_=>pure r) Q E g) E d:=by
  rw[t o i];exact wpAny_operating (ae e (λr g m=>aa (wpAny_letTemporaryGo (ad m))) λ_ _ x=>x)
 first
  | exact ad (aa k)
  | exact aa (ad (aa k))
  | exact aa k
def ZF4{X:Cx}{c:js}{h:St}{H:Hp}{s:ak}{a:aj}{y:V}{o:jg}(I:ZE X c h H s)(g:Zg H a y o):s.TypeIs (.ref a) "dict" :=by
 rcases g with ⟨f,k,e,_,_⟩ | ⟨f,k,b,e,_,_,_⟩
 ·let⟨_,_,i,_,d⟩:=OD I.hok e;exact d.typeIs
 ·let⟨_,_,j,_,d⟩:=NI I.hok e;exact d.typeIs
inductive Pw(Q:VK)(x y:V)(b:Hp):Prop
 |mk(a v:_)(_:x=.ref a)(_:Zg b a y (some v))(_:Q v b)
def Aa(d e:TE):TE:=λa H Q=>d a H λx b=>e a b λy c=>Pw Q x y c
inductive Us(Q:VK)(y x:V)(b:Hp):Prop
 |mk(a o:_)(_:x=.ref a)(_:Zg b a y o)(_:Q (.bl (!o.isSome)) b)
def Em(e d:TE):TE:=λa H Q=>e a H λy b=>d a b λx c=>Us Q y x c
inductive Oc(D:Yc)(d:L2.St)(v x y:V)(c:Hp):Prop
 |mk(a b:_)(_:x=.ref a)(_:Yr c a y v b)(_:D.nx d b)
def ZPN(e g f:TE):TS:=λD a H=>f a H λv b=>e a b λx c=>g a c λy d=>Oc D a v x y d
section
variable{o i e value:Expr}{pos pos' tpos:aH}{td ty tv:TE}
def Xt(t:X.A.units+1<cLine)(q:PE X o td)(p:PE X i ty)(r:Fn i:=by exact λ_ _=>rfl):PE X (.Subscript o i pos) (Aa td ty):=by
 intro b s f H Q I h;refine BF PySem.F.slot_dict_getitem.lookup r (YH (q b s f H _ I h) λu D x j l B w=>Zz (p b D f j _ l w) ?_);rintro E G ⟨y,k,d,C,a,v,n,g,z⟩;subst n;obtain rfl:u=Value.ref a:=B;exact⟨ZF4 d g,ZIL t d g C λK J m c=>⟨v,k,m,c,z⟩⟩
def M4(q:X.A.units+1<cLine)(n:PE X i ty)(p:PE X o td):PC X .NotIn i o (Em ty td):=by
 intro b s c H Q I h;refine YH (n b s c H _ I h) λC B y d j z t=>Zz (p b B c d _ j t) ?_;rintro u D ⟨x,f,k,w,a,r,m,g,v⟩;subst m;obtain rfl:u=Value.ref a:=w;exact Dp q k g z λE l=>⟨.bl (!r.isSome),f,l,Z,v⟩
def UM(z:X.A.units+1<cLine)(t:PE X o td)(q:PE X i ty)(B:PE X value tv)(w:swapsWith value (some (.Subscript o i pos')) pos.line X.env=pure false):
  PS X (.Assign [.Subscript o i pos'] value pos) (ZPN td ty tv):=by
 intro b s c H D I h;refine wpAny_Assign_Subscript (YH (B b s c H _ I h) λr L v d k G C=>YH (t b L c d _ k C) λu M x f l J E=>Zz (q b M c f _ l E) λO P ⟨y,N,m,K,a,j,p,g,F⟩=>?_) w;subst p;obtain rfl:u=Value.ref a:=J;exact E3 z m g K G λQ n=>⟨c,j,n,F⟩
end
section
variable{pos:aH}
end
def IK:jQ->St->Hp->(List (V×V)->Hp->Prop)->Prop
 | [],_,H,Q=>Q [] H
 | (e,f)::r,σ,H,Q=>e σ H λx a=>f σ a λy b=>IK r σ b λd c=>Q ((x,y)::d) c
abbrev VV:List (V×V)->List (ai×ai)->Prop:=Paired λp q=>ZU p.1 q.1/\ZU p.2 q.2
def LI(X:Cx)(d:aH)(c:List (jP))(a:jy)(e:jQ):Prop:=
 ∀(b:js)(s:ak)(f:St)(H:Hp)(Q:List (V×V)->Hp->Prop),ZE X b f H s->IK e f H Q ->
  aA (az X.prog X.w) X.A (evalPairs (pairTrees c a X.env d)) (λj i=>∃ h g,ZE X b f g i/\VV h j/\Q h g) X.xe s
def ZMk{X:Cx}{a:aH}:LI X a [] [] []:=λb s c H Q I h=>pairTrees_nil_walk ⟨[],H,I,.nil,h⟩
def ZKG{X:Cx}{b:aH}{k v:Expr}{f:List (jP)}{j:jy}{g i:TE}{c:jQ}(r:PE X k g)(w:PE X v i)(t:LI X b f j c):
  LI X b (some k::f) (v::j) ((g,i)::c):=λa s e H Q I h=>
 pairTrees_cons_walk (YH (r a s e H _ I h) λu F x l o D A=>YH (w a F e l _ o A) λK G y m p E B=>
  YH (t a G e m _ p B) λL J z n q d C=>⟨(x,y)::z,n,q,.cons ⟨D,E⟩ d,C⟩)
def NJ(c a:List (ZR×V)):List (ZR×V):=a.foldl (λb d=>Zq b d.1 d.2) c
def KV.merge:∀{b:List (ZR×V)}{d:jR}{a:List (ZR×V)}{c:jR},KV b d->KV a c->KV (NJ a b) (merged c d):=by
 intro b d a c r;unfold KV at r
 induction r generalizing a c with
 | nil=>intro q;exact q
 | @cons p q i j h t f=>
  intro g;let e:KV (Zq a p.1 p.2) (stored c q.1 q.2):=by
   have:=g.put p.1 h.2;rw[<-h.1];exact this
  exact f e
def GT:∀(b a:List (ZR×V)),(NJ a b).length<=a.length+b.length
 | [],a=>by show a.length<=a.length+0;lia
 | p::r,a=>by
  let c:=GT r (Zq a p.1 p.2);let d:=Kf a p.1 p.2;show (NJ (Zq a p.1 p.2) r).length<=_;rw[yV];lia
def Hu{P:al}{w:ar}:∀{d:List (ZR×V)}{g:List (ai×ai)},VV (d.map λf=>(kV f.1,f.2)) g->∃ e,Carries (We P w) g e/\KV d e
 | [],_,r=>by rw[wI] at r;cases r;exact⟨[],True.intro,.nil⟩
 | p::d,_,r=>by
  rw[yT] at r
  cases r with
  | @cons a b j bs h t=>
   let⟨e,c,q⟩:=Hu (P:=P) (w:=w) t;let⟨k,i⟩:=b;exact⟨(p.1,i)::e,⟨Py h.1,Z,c⟩,.cons ⟨Z,h.2⟩ q⟩
def Dn(b:jQ):TE:=λf H Q=>∀ p,H p=none->IK b f (upd H p (.dK [])) λe c=>c p=some (.dK [])/\∃ a:List (ZR×V),e=a.map (λd=>(kV d.1,d.2))/\a.length<=15/\Q (.ref p) (upd c p (.dK (NJ [] a)))
def ZML{X:Cx}{k:aH}{b:List (jP)}{d:jy}{l:jQ}(h:LI X k b d l)(g:b.all (·.isSome)=true)(C:b.length=d.length)(x:b≠[])(m:b.length<=15):PE X (.Dict b d k) (Dn l):=by
 intro j s N H Q I q;let D:=I.hok.fresh (zY s.heap.objs.size);let r:=I.laid (a:=s.heap.objs.size) (o:=.dK []) (h':=s.heap.push { cls:=.type "dict",data:=.dict #[] }) (t':=s.toks) (λ_ _ q=>zP _ q) (zY _) (Fx s.heap I.big);refine wpAny_Dict_walk (knd:=We X.prog X.w) g C x m (Zz (h j _ N _ _ r (q _ D)) ?_);rintro U T ⟨S,O,p,n,e,i,u,R,G⟩;subst u;let⟨L,c,K⟩:=Hu (P:=X.prog) (w:=X.w) n;let⟨z,A,M,J,t⟩:=NG p.hok e;cases J;refine⟨L,c,t,λv f E=>⟨.ref s.heap.objs.size,_,?_,Z,G⟩⟩;let F:(NJ [] i).length<=sizeLine:=by
  let y:=GT i [];rw[sY] at y;rw[sizeLine_eq];lia
 let B:∃ q,v.get? s.heap.objs.size=some q:=let ⟨q,_,_,hq,_⟩:=f;⟨q,hq⟩;exact Mz p (by rw[e];exact True.intro) E B (JH F A (K.merge .nil) f)
structure M1(X:Cx)(o:Expr)(m:Str)(ji:aH)(e:Expr)(jh:aH):Prop where
 base:attributeBase o m X.env (aF o X.env)=aF o X.env
 few:((aE jh (aq [e] X.env)).all (λx=>!x.1)&&(backToKw jh (keywordEach [] X.env)).all (λx=>x.1.isSome)
  && decide (([e]:jy).length+([]:List Keyword).length+(if ([]:List Keyword).isEmpty then 0 else 1)<30))=true
 line:(ji.endLine==jh.line)=true
 trees:aE jh (aq [e] X.env)=[(false,aF e X.env)]
structure M2(X:Cx)(o:Expr)(m:Str)(ji:aH)(e f:Expr)(jh:aH):Prop where
 base:attributeBase o m X.env (aF o X.env)=aF o X.env
 few:((aE jh (aq [e,f] X.env)).all (λx=>!x.1)&&(backToKw jh (keywordEach [] X.env)).all (λx=>x.1.isSome)
  && decide (([e,f]:jy).length+([]:List Keyword).length+(if ([]:List Keyword).isEmpty then 0 else 1)<30))=true
 line:(ji.endLine==jh.line)=true
 trees:aE jh (aq [e,f] X.env)=[(false,aF e X.env),(false,aF f X.env)]
def Lq(H:Hp)(a:aj):Prop:=(∃ b,Rd H a (.dK b))\/∃ b,Rd H a (.dT b)
def GP{X:Cx}{g:js}{l:St}{H:Hp}{s:ak}{a:aj}(I:ZE X g l H s)(d:Lq H a):
  s.TypeIs (.ref a) "dict" /\ (∀ b,Value.ref a=.ref b->∃ c,s.heap.get? b=some c/\c.dict=none)/\(a==sysModules)=false:=by
 rcases d with ⟨k,e⟩ | ⟨k,e⟩
 ·let⟨_,j,m,_,f⟩:=OD I.hok e;refine⟨f.typeIs,λb q=>?_,j⟩;cases q;let⟨c,_,_,h,i,_⟩:=f;exact⟨c,h,i.2.1⟩
 ·let⟨_,j,n,_,f⟩:=NI I.hok e;refine⟨f.typeIs,λb q=>?_,j⟩;cases q;let⟨c,_,_,h,i,_⟩:=f;exact⟨c,h,i.2.1⟩
section
variable{ke:js}{σ:St}{H:Hp}{a:aj}{y d:V}{u r:ai}{o:jg}
def ZOc{Q:ja}(v:A.units+1<cLine)(I:ZE X ke σ H s)(g:Zg H a y o)(n:ZU y u)(rd:ZU d r)(h:∀ q p,ZE X ke σ H p->ZU (o.getD d) q->Q q p):
  aA (az X.prog X.w) A (call (.builtin "dict.get") [.ref a,u,r]) Q E s:=by
 rcases g with ⟨m,k,e,i,l⟩ | ⟨m,k,b,e,i,t,l⟩
 ·subst i;let⟨z,j,B,c,f⟩:=OD I.hok e;refine call_meetsIn sE f.typeIs rB (qV _ _ _) (meets_dict_get_default (We X.prog X.w) a (Py n) j r) ⟨_,f.mapOf,h _ _ (I.tok _) ?_⟩;rw[l];exact(c.val k).getD rd
 ·subst i;cases(show u=Value.ref b from n);let⟨z,j,x,c,f⟩:=NI I.hok e;refine call_meetsIn sE f.typeIs rB (qV _ _ _) (meetsH_dict_get_default (tupleKind (We X.prog X.w)) a b j r) ⟨tupleKind_room_in1 v,k,x,Nb I.hok t,f,h _ _ (I.tok _) ?_⟩;rw[l];exact(c.val k).getD rd
end
inductive Qw(g f:TE)(d:L2.St)(Q:VK)(x:V)(b:Hp):Prop
 |mk(a:_)(_:x=.ref a)(_:Lq b a)(_:g d b λy e=>f d e λz c=>∃ o,Zg c a y o/\Q (o.getD z) c)
def Cv(c e d:TE):TE:=λa H Q=>c a H λx b=>Qw e d a Q x b
inductive Qi(e:TE)(f:L2.St)(Q:VK)(x:V)(c:Hp):Prop
 |mk(a:_)(_:x=.ref a)(_:Lq c a)(_:e f c λy d=>∃ b k v,d a=some (.dK b)/\y=kV k/\Z5 b k=some v/\Q v (upd d a (.dK (WS b k))))
def Dz(c d:TE):TE:=λa H Q=>c a H λx b=>Qi d a Q x b
section
variable{o e f:Expr}{ji jh:aH}{td ty tx:TE}
def ZKH(C:X.A.units+1<cLine)(B:PE X o td)(v:PE X e ty)(w:PE X f tx)(m:M2 X o "get" ji e f jh):PE X (.Call (.Attribute o "get" ji) [e,f] [] jh) (Cv td ty tx):=by
 intro b s i H Q I h;refine wpAny_Call_method m.base m.few m.line qR sE PySem.F.type_dict_get (Zz (B b s i H _ I h) ?_);rintro u M ⟨x,k,j,J,a,t,d,D⟩;subst t;obtain rfl:u=Value.ref a:=J;let⟨O,P,_⟩:=GP j d;exists O,P;rw[m.trees];refine Calls.callWith_builtin Z (Calls.evalArgs_plain (Calls.spliced_cons (YH (v b M i k _ j D) λS N y l p K E=>
  Calls.spliced_cons (Zz (w b N i l _ p E) λR U ⟨z,n,q,L,T,g,G⟩=>Calls.spliced_nil ?_))))
 exact ZOc C q g K L λW V r c=>⟨_,n,r,c,G⟩
def IE(z:PE X o td)(w:PE X e ty)(m:M1 X o "pop" ji e jh):PE X (.Call (.Attribute o "pop" ji) [e] [] jh) (Dz td ty):=by
 intro b s i H Q I h;refine wpAny_Call_method m.base m.few m.line qR rG PySem.F.type_dict_pop (Zz (z b s i H _ I h) ?_);rintro u G ⟨x,j,g,D,a,r,d,B⟩;subst r;obtain rfl:u=Value.ref a:=D;let⟨J,K,_⟩:=GP g d;exists J,K;rw[m.trees];refine Calls.callWith_builtin Z (Calls.evalArgs_plain (Calls.spliced_cons (Zz (w b G i j _ g B) λM N ⟨y,L,n,E,A,k,v,q,t,l,C⟩=>Calls.spliced_nil ?_)));subst t;exact Au n q E l (.inl rfl) λP O p c=>⟨v,_,p,c,C⟩
end
section
variable{ke:js}{σ:St}{H:Hp}{a:aj}{kvs:List (ZR×V)}
end
section
variable{ke:js}{σ:St}{H:Hp}{a:aj}{y:V}{u:ai}
end
inductive Vz(c:jf)(H:Hp)(Q:VK):Prop
 |mk(a b:_)(_:c=[V.ref a])(_:H a=some (.dK b))(_:Q (.int b.length) H)
def Kk:VL X (.builtin "len") (Vz):=by
 intro c s k H j i Q I r h;let⟨a,b,rfl,e,q⟩:=h;let⟨u,rfl,f⟩:=VO r;cases f;exact ZPG I (.inl e) λt g d=>⟨.int b.length,H,d,⟨t,Z⟩,q⟩
section
variable{κ:Type}[DecidableEq κ]
def ZLE{a:List (κ×V)}{k:κ}(h:Z5 a k=none):¬ k∈a.map (·.1):=by
 intro m;let⟨p,b,e⟩:=zE.mp m;let q:(a.any λc=>decide (c.1=k))=true:=List.any_eq_true.mpr ⟨p,b,aJ e⟩;rw[Pf,h] at q;exact absurd q (by simp)
def N3{a:List (κ×V)}{k:κ}{v:V}(h:Z5 a k=some v):k∈a.map (·.1):=by
 let q:(a.any λc=>decide (c.1=k))=true:=by
  rw[Pf,h]
  all_goals rfl
 let⟨p,b,e⟩:=List.any_eq_true.mp q;exact zE.mpr ⟨p,b,of_decide_eq_true e⟩
def ZIi{p:κ×V}{r:List (κ×V)}{k:κ}(e:p.1=k):WS (p::r) k=WS r k:=by
 unfold WS;rw[wT,aK (by simp[e])]
def Dt{p:κ×V}{r:List (κ×V)}{k:κ}(e:¬ p.1=k):WS (p::r) k=p::WS r k:=by
 unfold WS;rw[wT,aM (by simp[e])]
end
end L2
namespace Tw
open PySem PySem.Spec L2
variable{jZ kd CS CT CH CK CP CB:aj}
def top(i:Nat):Stmt:=PySem.Challenge.pw_twigmap_k28_whole_shelf_exact.main.body.getD i (.Pass ⟨0,0,0,0⟩)
abbrev Ks:Stmt:=top 12
abbrev J8:Stmt:=top 13
abbrev M6:Stmt:=top 14
abbrev IC:Stmt:=top 15
abbrev Jb:Stmt:=top 16
abbrev Kc:Stmt:=top 17
abbrev MW:Stmt:=top 18
abbrev JS:Stmt:=top 28
abbrev Jt:Stmt:=top 29
abbrev K8:Stmt:=top 30
abbrev JT:Stmt:=top 31
abbrev LV:Stmt:=top 32
abbrev JE:Stmt:=top 33
abbrev Ju:Stmt:=top 36
abbrev KG:Stmt:=top 38
abbrev Ln:Stmt:=top 39
abbrev MY:Stmt:=top 40
abbrev JX:Stmt:=top 41
abbrev Mh:Stmt:=top 42
abbrev Ji:Stmt:=top 43
abbrev La:Stmt:=top 44
abbrev K6:Stmt:=top 45
abbrev J1:Stmt:=top 46
abbrev KL:Stmt:=top 47
abbrev JQ:Stmt:=top 48
abbrev LX:Stmt:=top 49
abbrev J0:Stmt:=top 50
abbrev Jg:Stmt:=top 51
abbrev KP:Stmt:=top 52
abbrev J4:Stmt:=top 53
abbrev K0:Stmt:=top 54
abbrev Ku:Stmt:=top 55
abbrev KO:Stmt:=top 56
abbrev JC:Stmt:=top 57
abbrev Wf:Stmt:=top 58
abbrev Jz:Stmt:=top 59
abbrev Q1:Stmt:=top 60
structure YR(mg:jb):Prop where
 isi:mg "isinstance" = none
 bool:mg "bool" = none
 int:mg "int" = none
 str:mg "str" = none
 tuple:mg "tuple" = none
 list:mg "list" = none
 len:mg "len" = none
 all:mg "all" = none
 abs:mg "abs" = none
 max:mg "max" = none
 min:mg "min" = none
 range:mg "range" = none
 sorted:mg "sorted" = none
 ValueError:mg "ValueError" = none
 sum:mg "sum" = none
 signs:∃ t,mg "MOST_SIGNS" = some (.int 40 t)
 things:∃ t,mg "MOST_THINGS" = some (.int 4 t)
 deep:∃ t,mg "MOST_DEEP" = some (.int 3 t)
 rows:∃ t,mg "MOST_ROWS" = some (.int 4 t)
 few:∃ t,mg "FEWEST_BRANCHES" = some (.int 2 t)
 most:∃ t,mg "MOST_BRANCHES" = some (.int 4 t)
 height:∃ t,mg "HEIGHT" = some (.int 0 t)
 least:∃ t,mg "LEAST" = some (.int 1 t)
 greatest:∃ t,mg "GREATEST" = some (.int 2 t)
 many:∃ t,mg "MANY" = some (.int 3 t)
def QS:ZB ["_law_well_here","_law_many","_law_found","_law_first","_law_second"] zEd (Zf Ln):=Z4
def Ai(F:Zn K "_law_pull" "_law_pull" Ln f fd):ZN P w K mg kf ZY 1 f fd zEd Yb:=by
 refine F.ok QS (λz H Q E h=>?_) (λy A q s H z Q E G h=>?_)
 ·let⟨p,m,rfl,_⟩:=h;rfl
 let⟨p,m,rfl,W,⟨g,l⟩,k⟩:=h;let⟨a,b,c,d,n,i,j,r,D⟩:=W.ex;let o:=QS.nd;intro B;refine⟨_,ZQ (Z1 (YI Wp (Ua Z9 (pv 0) ZO (λ_ _=>rfl)) ZO (Z0 _)) (ZW (Zr ZO)) Z6)
  (ZQ (Qc (Z2 Qf (Ua Z9 (pv 0) ZO (λ_ _=>rfl)) ZO) (K9 (pv 0) ZO Kz))
  (ZQ (Z1 (YI Vr (Ua Z9 (pv 0) ZO (λ_ _=>rfl)) ZO (Z0 _))
   (ZQ (Zs 2 o (Z2 UV (Ua Z9 (pv 0) ZO (λ_ _=>rfl)) (pv 1)))
   (ZQ (Qc (Z2 ZNZ (Ua Z9 (pv 0) ZO (λ_ _=>rfl)) (pv 1)) (K9 (pv 0) ZO Kz))
   (ZW (Zr (pv 2))))) Z6)
  (ZQ (Qc (Z2 Wl (Ua Z9 (pv 0) ZO (λ_ _=>rfl)) ZO) (K9 (pv 0) ZO Kz))
  (ZQ (Zs 3 o (Z2 UV (Z2 Pq (Z2 Wl (Ua Z9 (pv 0) ZO (λ_ _=>rfl)) ZO) (Z2 Wl ZO (Z2 Pq ZO (Ua Z9 (pv 0) ZO (λ_ _=>rfl))))) ZO))
  (ZQ (Zs 4 o (Z2 UV (Z2 Pq (Z2 Wl (Z2 LK (pv 3) ZO) ZO) (Z2 Wl (Z2 UV (pv 3) ZO) ZO)) ZO))
  (ZW (Zr (Z2 UV (Z2 LK (pv 4) ZO) (pv 1))))))))),?_⟩
 exists _,Z,p,_,_,_,Z,Z,ZG.of n,Z,Z,_,Z;refine Yz (λ_=>?_) (λu=>?_)
 ·exact k 0 H (Int.le_refl 0) g W (ZH.refl p H)
 let C:d≠0:=λe=>u (aJ (by rw[e]))
 exists _,Z,p,_,_,_,Z,Z,ZG.of n,Z,_,_,Z,Z,_,Z,p,_,_,_,Z,Z,n,Z;exists _,Z,p,_,_,_,Z,Z,ZG.of ZP,Z,_,_,Z,Z,_,Z;refine Yz (λv=>?_) (λv=>?_)
 ·exists _,Z,p,_,_,_,Z,Z,ZG.of ZP,Z,_,Z,_,_,Z,Z,g;exists _,Z,p,_,_,_,Z,Z,ZG.of ZP,Z,_,Z,_,_,Z,Z,⟨g,l⟩,_,Z,p,_,_,_,Z,Z,ZP,Z;exists _,Z;refine k (c % m) _ (vI _ ∅) (vP _ g) ⟨a,b,c / m,d-1,ZP,i,j,Int.ediv_nonneg r ∅,∅⟩ (ZH.refl p H).upd.upd
 ·exists _,Z,p,_,_,_,Z,Z,ZG.of ZP,Z,_,_,Z,Z,_,Z,p,_,_,_,Z,Z,ZP,Z;exists _,Z,p,_,_,_,Z,Z,ZG.of ZP,Z,_,_,Z,Z,_,Z,p,_,_,_,Z,Z,ZG.of ZP,Z,_,_,Z,Z,.inl ⟨by decide,by decide⟩,_,_,Z,Z,_,_,Z,Z,.inl ⟨∅,∅⟩,_,_,Z,Z,(by show (0:Int)<2147483629;decide)
  generalize t:(a+1) * (48271+7919 * (b+1)) % 2147483629=x;let I:0<=x:=by rw[<-t];exact vI _ (by decide)
  let J:x<2147483629:=by rw[<-t];exact vP _ (by decide)
  exists _,Z,_,_,Z,Z,⟨by decide,by decide⟩,_,_,Z,Z,_,Z,_,_,Z,Z,(by show (0:Int)<1009;decide),_,_,Z,Z,_,_,Z,Z,.inl ⟨∅,∅⟩,_,_,Z,Z,(by show (0:Int)<1000000007;decide)
  exists _,Z,_,_,Z,Z,⟨by decide,by decide⟩,_,Z,_,_,Z,Z,g
  exact k _ _ (vI _ ∅) (vP _ g) ⟨a,b+1,c,d-1,ZP,i,j,r,∅⟩ (ZH.refl p H).upd.upd
abbrev ZPI:jr:=["_law_script","_law_k","_law_left","_law_cell","_law_digits"]
def QF:ZB ZPI zE1 (Zf KG):=Z4
def ZNd(F:Zn K "_law_well" "_law_well" KG f fd)(T:YR mg):ZN P w K mg kf ZY 1 f fd zE1 (Vv K):=by
 refine F.ok QF (λvs H Q E h=>?_) (λX A L s H vs Q E hr h=>?_)
 ·let⟨a,g,k,rfl,_⟩:=h;rfl
 let⟨a,g,k,rfl,u,hn,k0,k1,q⟩:=h;let J:=QF.nd;intro Xc;refine⟨_,ZQ (Zs 2 J (Ua Z9 (XH (Zh ZO (Zh ZO Zw))) (WQ M7 rfl T.int Uy (Zh (VA Wp (pv 1) ZO (Z0 _)) Zw)) (λ_ _=>rfl)))
  (ZQ (Zs 3 J (Ua Z9 (Z2 NE (WQ Ue rfl T.list Vw (Zh (pv 0) Zw)) (XH (Zh ZO Zw))) (Z2 UV (pv 1) (Zy (Ij rfl) rfl T.max My (Zh ZO (Zh (Zy WH rfl T.len Xh (Zh (pv 0) Zw)) Zw)))) (λ_ _=>rfl)))
  (ZQ (Zs 4 J (Z2 Pq (Zy Js rfl T.abs JB (Zh (pv 3) Zw)) (WQ M7 rfl T.int Uy (Zh (Ug (VA Dd (Zy Js rfl T.abs JB (Zh (pv 3) Zw)) (Z2 HZ ZO ZO) (Z0 _)) (Qn (VA Qj (pv 1) (Zy WH rfl T.len Xh (Zh (pv 0) Zw)) (Z0 _)))) Zw))))
  (ZW (Zr (XH (Zh (Z2 UV (pv 3) ZO) (Zh (Z2 Pq ZO (pv 1)) (Zh (pv 4) (Zh (pv 2) Zw))))))))),?_⟩
 exists (by show 2<=ap;decide)
 intro l1 v;let O:=Zc v (.lst [V.int 240,V.int 2400]);refine⟨_,Z,Z,.inr ⟨_,Z,?_⟩⟩;obtain⟨lv,t,D⟩:∃ z:Int,Xr [V.int 240,V.int 2400] (if decide (V.int k=V.int 0)=true then 1 else 0)=some (.int z)/\0<=z:=by
  split
  ·exact⟨2400,Z,by decide⟩
  ·exact⟨240,Z,by decide⟩
 exists l1,_,_,_,Z,Z,ZG.of ZP,t;exists _,Z,a,_,Z,.inl (O.seq u);intro S y;let g2:=O.trans (Zc y (.lst (g.map V.int)));exists (by show 1<=ap;decide)
 intro U n;let g3:=g2.trans (Zc n (.lst [V.int 0]));let I:S≠U:=Za ZP n;exists S,U,_,_,Z,Z,(by rw[ZM I];exact ZP),ZP,(by rw[zX];exact nn (by show g.length+1<=1000;lia))
 intro l4 B;let p:=g3.trans (Zc B (.lst (g.map V.int++[V.int 0])));exists _,Z,_,Z,a,_,Z,.inl (p.seq u),_,_,Z;let C:(g.map V.int).length=g.length:=zX _;generalize R:(if (((g.map V.int).length:Nat):Int) > 1 then (((g.map V.int).length:Nat):Int) else 1)=M
 let M1:1<=M/\M<=(g.length:Int)+1:=by
  rw[C] at R;rw[<-R];split <;> lia
 exists _,_,Z,Z,by lia
 let i0:0<=k % M:=vI _ ∅
 let i1:k % M<M:=vP _ ∅
 let⟨Y,r,G⟩:=Nv (xs:=g.map V.int++[V.int 0]) i0 (by rw[zH,zX,xU];lia)
 obtain⟨c,rfl⟩:∃ z:Int,Y=.int z:=by
  rcases zJ.mp G with m | m
  ·let⟨z,_,e⟩:=zE.mp m;exact⟨z,e.symm⟩
  ·exact⟨0,zM.mp m⟩
 exists l4,_,_,_,Z,Z,ZG.of ZP,r;let l:∀ b:Bool,0<=(if c<0 then -c else c) * (if b=true then 1 else 0):=λb=>by
  cases b
  ·simp
  ·simp;split <;> lia
 let N:∀(x:Int)(b:Bool),Qq x (if b=true then 1 else 0):=λx b=>.inr (by cases b <;> exact⟨by decide,by decide⟩)
 let j:∀(z:Int)(o:Hp),0<=z->ZC H o->∀ i,o i=none->Q (.ref i) (upd o i (.lst [.int (c % 2147483647),.int (1000 * k),.int z,.int lv])):=λz o z0 W i d=>
  q i _ (W.free d) (W.trans (Zc d _)) ⟨_,_,_,_,ZP,vI _ (by decide),vP _ (by decide),z0,D⟩
 exists _,Z,_,Z,_,Z,_,Z,_,_,Z,Z,⟨by decide,by decide,by decide⟩,_,_,Z,Z,_,Z
 refine Yz (λ_=>?_) (λ_=>?_)
 ·refine⟨_,Z,_,Z,a,_,Z,.inl (p.seq u),_,_,Z,Z,.inr ⟨_,Z,_,_,Z,Z,N _ _,?_⟩⟩;exists _,Z,_,_,Z,Z,(by show (0:Int)<2147483647;decide),_,Z,_,_,Z,Z,.inl ⟨by decide,by decide⟩,_,Z,_,Z,(by show 4<=ap;decide)
  intro i d;exact j _ _ (l _) p i d
 ·refine .inr ⟨_,Z,_,_,Z,Z,N _ false,?_⟩;exists _,Z,_,_,Z,Z,(by show (0:Int)<2147483647;decide),_,Z,_,_,Z,Z,.inl ⟨by decide,by decide⟩,_,Z,_,Z,(by show 4<=ap;decide)
  intro i d;exact j _ _ (l false) p i d
structure Zl(K:zZ)(mg:jb)(x:Str)(st:aB)(ps:jr):Prop where
 ex:∃ f fd,Zn K x x st f fd/\Z7 K fd ps []/\mg x=some (.ref f)
def Zl.of{P:al}{w:ar}{K:zZ}{d:jb}{a:aC}{x:Str}{i:aB}{e:jr}{k:Nat}{g:Sp}(L:Zl K d x i e)(h:∀ f c,Zn K x x i f c->ZN P w K d a ZY k f c e g):ZD P w K d a k x e g:=by
 let⟨f,c,F,b,m⟩:=L.ex;exact⟨f,c,h f c F,b,F.kp,m⟩
def Mi{K:zZ}{h:aC}{p:jb}{x:Str}{e:aB}{n:jr}{f:aj}{t g:jx}{u:Array (jd)}{s kV q m o ct:ai}(X:K.In h)(G:h.Ns ao p)(a:zD K ao x=some (some (.ref f)))(l:K.lookup f=some ⟨s,t,.func (yA x x (V3 e) (X7 e) (Zf e) .none kV q m g o ct),u⟩)(c:xE K o x=true)(k:yQ K (.ref f)=true)(r:∀ (kV j m:ai) (g:jx) (i ct:ai) (b:je),b.length=n.length->bindArgs (yA x x (V3 e) (X7 e) (Zf e) .none kV j m g i ct) ⟨b,[]⟩=pure (n.zip b):=by first | exact(λ_ _ _ _ _ _ b d=>match b,d with | [_],_=>rfl) | exact(λ_ _ _ _ _ _ b d=>match b,d with | [_,_],_=>rfl) | exact(λ_ _ _ _ _ _ b d=>match b,d with | [_,_,_],_=>rfl) | exact(λ_ _ _ _ _ _ b d=>match b,d with | [_,_,_,_],_=>rfl) | exact(λ_ _ _ _ _ _ b d=>match b,d with | [_,_,_,_,_],_=>rfl)):Zl K p x e n:=
 ⟨f,_,UU (st:=e) l c k,(UU (st:=e) l c k).binds r,yL X G a⟩
def Wc{H:Hp}{p:aj}(h:H p=none)(o:HO):∃ a,L2.upd H p o=a/\ZC H a/\a p=some o:=⟨_,Z,Zc h o,ZP⟩
inductive V0(n:Nat)(c:jf)(H:Hp)(Q:VK)(_:XK):Prop
 |mk(v:V)(t:KT)(q:Nat)(_:c=[v])(_:ZF H t v)(_:t.fits q=true)(_:t.depth<n)(_:∀(b:V)(a:Hp),ZF a t.st b->ZC H a->Q b a)
inductive Yn(d:jf)(H:Hp)(Q:VK)(_:XK):Prop
 |mk(v u:V)(a b:KT)(_:d=[v,u])(_:ZF H a v)(_:ZF H b u)(_:a.fits 3=true)(_:b.fits 3=true)(_:∀ c,ZC H c->Q (.bl (a.lt b)) c)
def AI:ZB zFa zFa (Zf MW):=Z4
def Db{k:Nat}:ZN P w K mg kf ZY k f fd zFa (V0 0):=by
 let c:∀ a H Q E,¬ V0 0 a H Q E:=λa H Q E h=>by
  let⟨v,t,q,_,_,_,d,_⟩:=h
  lia
 exact⟨λa H Q E h=>absurd h (c a H Q E),λA b s H args e a Q E _ _ _ _ h=>absurd h (c a H Q E)⟩
def C8{n:Nat}(F:Zn K "standing" "standing" MW f fd)(T:YR mg)(DS:ZD P w K mg kf (n+1) "standing" zFa (V0 n)):ZN P w K mg kf ZY (n+2) f fd zFa (V0 (n+1)):=by
 refine F.ok AI (λg H Q E h=>?_) (λa2 A a1 s H g Q E hr h=>?_)
 ·let⟨v,t,q,rfl,_⟩:=h;rfl
 let⟨v,t,q,rfl,d,hq,hn,k⟩:=h;intro Xc;refine⟨_,ZQ (Z1 (Yg (Zy X3 rfl T.isi X8 (Zh (pv 0) (Zh (X6 (v:=.ty "int") rfl T.int Uy rfl) Zw)))) (ZW (Zr (XB (Zh ZO (Zh (pv 0) Zw))))) Z6)
  (ZQ (Z1 (Yg (Zy X3 rfl T.isi X8 (Zh (pv 0) (Zh (X6 (v:=.ty "str") rfl T.str NQ rfl) Zw)))) (ZW (Zr (XB (Zh ZO (Zh (pv 0) Zw))))) Z6)
  (ZW (Zr (XB (Zh ZO (Zh (WQ Ov rfl T.tuple QW (Zh (UD [] [] rfl (JM (pv 0)) (λ_ _ _ _ _=>Vh) (λ_ _ _ _ _=>Zm DS hr (Zh (pv 0) Zw)) trivial) Zw)) Zw)))))),?_⟩
 cases t with
 | int i=>
  let N:v=.int i:=by rw[ZF] at d;exact d
  subst N;refine⟨_,Z,_,_,_,_,Z,d.ty,Oe,_,Z,YJ ?_⟩;exists _,Z,(by show 2<=ap;decide)
  intro p U;refine k _ _ ?_ (Zc U _);rw[KT.st];exact .tup ZP (.cons (.int 0) (.cons (.int i) .nil))
 | str x=>
  let N:v=.str x:=by rw[ZF] at d;exact d
  subst N;refine⟨_,Z,_,_,_,_,Z,d.ty,KS,_,Z,Zp ?_⟩;refine⟨_,Z,_,_,_,_,Z,d.ty,N2,_,Z,YJ ?_⟩;exists _,Z,(by show 2<=ap;decide)
  intro p U;refine k _ _ ?_ (Zc U _);rw[KT.st];exact .tup ZP (.cons (.int 1) (.cons (.str x) .nil))
 | tup l=>
  let C:=d;rw[ZF] at C;let⟨a,g,rfl,I,G⟩:=C;let hl:=G.length;rw[KT.fits,zO,zO] at hq;let⟨a6,X,B⟩:=hq;let a5:l.length<=4:=of_decide_eq_true X;rw[KT.depth] at hn;refine⟨_,Z,_,_,_,_,Z,d.ty,KU,_,Z,Zp ?_⟩;refine⟨_,Z,_,_,_,_,Z,d.ty,II,_,Z,Zp ?_⟩;exists _,Z,a,Z,⟨g,Zb.of I⟩;refine UH (n:=g.length) (λi z=>g[i]? = some z) (λD i m r=>ZC H r/\H D=none/\jU r ((l.take i).map KT.st) m) (YL ∅)
   (λD i m r S j=>⟨g,g[i],Zb.of (j.1 _ _ I),by simp[S]⟩) (λD i m r z u S j hy=>⟨hy.1,hy.2 g (Zb.of (j.1 _ _ I))⟩) (λD m r j=>⟨g,Zb.of (j.1 _ _ I),zY _⟩)
   (λD hD=>⟨Zc hD _,hD,.nil⟩) (λD i m r z M a4 S hz j R hR=>?_) (λD m r M j=>?_)
  ·let⟨L,nD,c⟩:=j;let⟨t,J,kt⟩:=G.get hz;let mt:=zG J;let Y:t.fits (q-1)=true:=by
    rw[MB] at B;exact yY.mp B t mt
   let a3:=Oq mt;exists _,Z,z,t,q-1,Z,kt.sm L,Y,by lia
   intro v' u k4 s4;let y:=s4 D _ M;let tD:YC u (upd u D (.lst (m++[v']))):=(ZH.refl D u).upd.tups y;refine hR v' u y ⟨λb o e=>by rw[ZM (Za e nD)];exact s4 b o (L b o e),nD,?_⟩
   rw[yP,J,yX];exact((c.sm s4).append (.cons k4 .nil)).mono tD _ _
  ·let⟨L,nD,c⟩:=j;let J:l.take g.length=l:=yM ∅
   rw[J] at c;let a0:=c.length;rw[zX] at a0;refine⟨D,m,Z,.inl ⟨ZG.of M,λp1 V=>?_⟩⟩;let g1:=Zc V (.tup m);exists (by show 2<=ap;decide)
   intro p2 W;let O:=Zc W (.tup [.int 2,.ref p1]);refine k _ _ ?_ ((L.trans g1).trans O);rw[KT.st,Hv];exact .tup ZP (.cons (.int 2) (.cons (.tup (O _ _ ZP) (c.sm (g1.trans O))) .nil))
def GY(T:YR mg)(L:Zl K mg "standing" MW zFa):∀ n:Nat,ZD P w K mg kf (n+1) "standing" zFa (V0 n)
 | 0=>L.of λ_ _ _=>Db
 | n+1=>L.of λ_ _ F=>C8 F T (GY T L n)
def Eg:ZB zE4 zE4 (Zf Kc):=Z4
def Ag(F:Zn K "ahead" "ahead" Kc f fd)(e:ZD P w K mg kf 6 "standing" zFa (V0 5)):ZN P w K mg kf ZY 7 f fd zE4 Yn:=by
 refine F.ok Eg (λt H Q E h=>?_) (λn A d s H t Q E c h=>?_)
 ·let⟨v,u,a,b,rfl,_⟩:=h;rfl
 let⟨v,u,a,b,rfl,o,p,g,i,k⟩:=h;intro y;exists _,ZW (Zr (VA (Fa c) (Zm e c (Zh (pv 0) Zw)) (Zm e c (Zh (pv 1) Zw)) (Z0 _)));let z:=QO a 3 g;let B:=QO b 3 i;let C:=GU a;exists _,Z,v,a,3,Z,o,g,by lia
 intro D x q j;exists _,Z,u,b,3,Z,p.sm j,i,by lia
 intro G m r l;exists a.st,b.st,q.sm l,r,Fh a b,by lia
 rw[HQ];exact k m (j.trans l)
mutual
def KT.wide:KT->Nat->Bool
 | .int _,_=>true
 | .str _,_=>true
 | .tup l,r=>decide (0<r)&&(decide (l.length<=100)&&wideL l (r-1))
def wideL:jp->Nat->Bool
 | [],_=>true
 | t::l,r=>t.wide r&&wideL l r
end
def O4:∀(l:jp)(r:Nat),wideL l r=l.all (·.wide r)
 | [],r=>by rw[wideL];rfl
 | t::l,r=>by rw[wideL,O4 l r];rfl
mutual
def ME:∀(t:KT)(r:Nat),t.fits r=true->t.wide r=true
 | .int _,_,_=>by rw[KT.wide]
 | .str _,_,_=>by rw[KT.wide]
 | .tup l,r,h=>by
  rw[KT.fits,zO,zO] at h;rw[KT.wide,zO,zO];have:=of_decide_eq_true h.2.1;exact⟨h.1,aJ ∅,wideL_of l (r-1) h.2.2⟩
def wideL_of:∀(l:jp)(r:Nat),fitsL l r=true->wideL l r=true
 | [],_,_=>by rw[wideL]
 | t::l,r,h=>by
  rw[fitsL,zO] at h;rw[wideL,zO];exact⟨ME t r h.1,wideL_of l r h.2⟩
end
inductive XL(n:Nat)(b:jf)(H:Hp)(Q:VK)(_:XK):Prop
 |mk(v u:V)(t:KT)(r:Nat)(_:b=[v,u])(_:ZF H t v)(_:ZF H t u)(_:t.wide r=true)(_:r<n)(_:∀ a,ZC H a->Q (.bl true) a)
def Jv{d:Sp}{k:Nat}{e:jr}(c:∀ a H Q E,¬ d a H Q E):ZN P w K mg kf ZY k f fd e d:=
 ⟨λa H Q E h=>absurd h (c a H Q E),λA b s H args g a Q E _ _ _ _ h=>absurd h (c a H Q E)⟩
def BY:ZB zEc zEc (Zf Mh):=Z4
def ZKR{n:Nat}(F:Zn K "_law_alike" "_law_alike" Mh f fd)(T:YR mg)(DA:ZD P w K mg kf (n+1) "_law_alike" zEc (XL n)):
  ZN P w K mg kf ZY (n+2) f fd zEc (XL (n+1)):=by
 refine F.ok BY (λd H Q E h=>?_) (λa3 A a1 s H d Q E hr h=>?_)
 ·let⟨v,u,t,r,rfl,_⟩:=h;rfl
 let⟨v,u,t,r,rfl,q,p,hf,hn,k⟩:=h;intro Xc;refine⟨_,ZQ (Z1 (Yg (Zy X3 rfl T.isi X8 (Zh (pv 1) (Zh (X6 (v:=.ty "tuple") rfl T.tuple QW rfl) Zw))))
   (ZQ (Z1 (PW.pt (VU (Xv (Yg (Zy X3 rfl T.isi X8 (Zh (pv 0) (Zh (X6 (v:=.ty "tuple") rfl T.tuple QW rfl) Zw)))))
    (Uh (YI PZ (Zy WH rfl T.len Xh (Zh (pv 0) Zw)) (Zy WH rfl T.len Xh (Zh (pv 1) Zw)) (Z0 _))))) (ZW (Zr V9)) Z6)
   (ZW (Zr (Zy (Mp rfl) rfl T.all MQ (Zh (UD [0,1] zEc rfl (JJ rfl T.range (Zh (Zy WH rfl T.len Xh (Zh (pv 1) Zw)) Zw)) (λ_ _ _ _ _=>Vh)
    (λ_ _ _ _ _=>Zm DA hr (Zh (Zi K (pv 1) (pv 0)) (Zh (Zi K (pv 2) (pv 0)) Zw))) ⟨rfl,.inl rfl,rfl,rfl,.inl rfl,rfl,trivial⟩) Zw))))) Z6)
  (ZQ (Z1 (Yg (Zy X3 rfl T.isi X8 (Zh (pv 1) (Zh (X6 (v:=.ty "str") rfl T.str NQ rfl) Zw))))
   (ZW (Zr (Ug (Zy X3 rfl T.isi X8 (Zh (pv 0) (Zh (X6 (v:=.ty "str") rfl T.str NQ rfl) Zw))) (Qn (VA Wp (pv 0) (pv 1) (Z0 _)))))) Z6)
  (ZW (Zr (Ug (Zy X3 rfl T.isi X8 (Zh (pv 0) (Zh (X6 (v:=.ty "int") rfl T.int Uy rfl) Zw)))
   (Ug (Hi (Zy X3 rfl T.isi X8 (Zh (pv 0) (Zh (X6 (v:=.ty "bool") rfl T.bool NF rfl) Zw)))) (Qn (VA Wp (pv 0) (pv 1) (Z0 _)))))))),?_⟩
 cases t with
 | int i=>
  let U:v=.int i:=by rw[ZF] at q;exact q
  let S:u=.int i:=by rw[ZF] at p;exact p
  subst U S;refine⟨_,Z,_,_,_,_,Z,.int i,E8,_,Z,Zp ?_⟩;refine⟨_,Z,_,_,_,_,Z,.int i,kit_is',_,Z,Zp ?_⟩;refine⟨_,Z,_,_,_,_,Z,.int i,Oe,_,Z,YJ ?_⟩;refine⟨_,Z,_,_,_,_,Z,.int i,Nu,_,Z,_,Z,YJ ?_⟩;exists _,Z,_,Z,Z;rw[aJ rfl];exact k H (ZC.refl H)
 | str x=>
  let U:v=.str x:=by rw[ZF] at q;exact q
  let S:u=.str x:=by rw[ZF] at p;exact p
  subst U S;refine⟨_,Z,_,_,_,_,Z,.str x,ZN3,_,Z,Zp ?_⟩;refine⟨_,Z,_,_,_,_,Z,.str x,N2,_,Z,YJ ?_⟩;refine⟨_,Z,_,_,_,_,Z,.str x,N2,_,Z,YJ ?_⟩;exists _,Z,_,Z,Z;rw[aJ rfl];exact k H (ZC.refl H)
 | tup l=>
  rw[ZF] at q p;let⟨a,d,rfl,N,G⟩:=q;let⟨b,c,rfl,I,C⟩:=p;let hl:=G.length;let a5:=C.length;rw[KT.wide,zO,zO] at hf;let⟨f0,f1,f2⟩:=hf;let r0:=of_decide_eq_true f0;let l4:=of_decide_eq_true f1;let ty:Y6 K H (.ref a) (.type "tuple"):=.tup N;let a2:Y6 K H (.ref b) (.type "tuple"):=.tup I;let a0:c.length=d.length:=nofun
  refine⟨_,Z,_,_,_,_,Z,a2,Mt,_,Z,YJ ?_⟩;refine⟨_,Z,_,_,_,_,Z,ty,Mt,_,Z,Zp ?_⟩;refine⟨_,Z,a,d,Z,.inr (Zb.of N),_,Z,b,c,Z,.inr (Zb.of I),Z,_,Z,LC (by rw[a0]) ?_⟩
  exists _,Z,b,c,Z,.inr (Zb.of I),_,Z,nofun,nofun
  rw[Int.toNat_natCast];refine UH (n:=c.length) (λi x=>x=.int (0+(i:Int))) (λD i y j=>ZC H j/\H D=none/\y=(vY i true).map V.bl) (YL nofun)
   (λD i y j J _=>J) (λD i y j x H4 J _ hy=>hy) (λD y j _=>zY _) (λD hD=>⟨Zc hD _,hD,Z⟩) (λD i y j x M a4 J hx W R hR=>?_) (λD y j M W=>?_)
  ·subst hx;let⟨m,nD,rfl⟩:=W;let X:i<d.length:=nofun
   let B:d[i]? = some d[i]:=by simp[X]
   let z:c[i]? = some c[i]:=by simp[J]
   let⟨t,et,kt⟩:=G.get B;let⟨L,g,Y⟩:=C.get z;let O:L=t:=by rw[et] at g;injection g with g;exact g.symm
   subst O;let ft:L.wide (r-1)=true:=by rw[O4] at f2;exact yY.mp f2 L (zG et)
   let av:Xr d (0+(i:Int))=some d[i]:=by rw[Int.zero_add];exact Xk B
   let au:Xr c (0+(i:Int))=some c[i]:=by rw[Int.zero_add];exact Xk z
   refine⟨_,Z,_,Z,.inr (.inl ⟨a,d,_,_,rfl,rfl,Zb.of (m _ _ N),av,_,rfl,_,rfl,.inr (.inl ⟨b,c,_,_,rfl,rfl,Zb.of (m _ _ I),au,d[i],c[i],L,r-1,rfl,kt.sm m,Y.sm m,ft,nofun,λH4 s4=>?_⟩)⟩)⟩
   refine hR _ H4 (s4 D _ M) ⟨λb o e=>by rw[ZM (Za e nD)];exact s4 b o (m b o e),nD,?_⟩
   rw[List.replicate_succ'];simp
  ·let⟨m,nD,rfl⟩:=W;exists D,_,Z,ZG.of M;let e:(vY c.length true).all id=true:=by simp
   rw[e];exact k j m
def Fz(T:YR mg)(L:Zl K mg "_law_alike" Mh zEc):∀ n:Nat,ZD P w K mg kf (n+1) "_law_alike" zEc (XL n)
 | 0=>L.of λ_ _ _=>Jv λb H Q E h=>by let⟨v,u,t,r,_,_,_,_,a,_⟩:=h;lia
 | n+1=>L.of λ_ _ F=>ZKR F T (Fz T L n)
mutual
def KT.rk:KT->KT
 | .int i=>.tup [.int 0,.int i,.str "",.tup []]
 | .str x=>.tup [.int 1,.int 0,.str x,.tup []]
 | .tup l=>.tup [.int 2,.int 0,.str "",.tup (rkL l)]
def rkL:jp->jp
 | []=>[]
 | t::l=>t.rk::rkL l
end
def Hd:∀ l:jp,rkL l=l.map KT.rk
 | []=>by rw[rkL];rfl
 | t::l=>by rw[rkL,Hd l];rfl
mutual
def Gp:∀ a b:KT,a.rk.eqb b.rk=a.eqb b
 | .int i,.int j=>by simp[KT.rk,KT.eqb,jW]
 | .str x,.str y=>by simp[KT.rk,KT.eqb,jW]
 | .tup l,.tup m=>by simp[KT.rk,KT.eqb,jW,eqbL_rk l m]
 | .int _,.str _=>by simp[KT.rk,KT.eqb,jW]
 | .int _,.tup _=>by simp[KT.rk,KT.eqb,jW]
 | .str _,.int _=>by simp[KT.rk,KT.eqb,jW]
 | .str _,.tup _=>by simp[KT.rk,KT.eqb,jW]
 | .tup _,.int _=>by simp[KT.rk,KT.eqb,jW]
 | .tup _,.str _=>by simp[KT.rk,KT.eqb,jW]
def eqbL_rk:∀ l m:jp,jW (rkL l) (rkL m)=jW l m
 | [],[]=>by simp[rkL,jW]
 | a::l,b::m=>by simp[rkL,jW,Gp a b,eqbL_rk l m]
 | [],_::_=>by simp[rkL,jW]
 | _::_,[]=>by simp[rkL,jW]
end
mutual
def Il:∀ a b:KT,a.rk.cmp b.rk=true
 | .int i,.int j=>by simp[KT.rk,KT.eqb,KT.cmp,cmpL,jW]
 | .str x,.str y=>by simp[KT.rk,KT.eqb,KT.cmp,cmpL,jW]
 | .tup l,.tup m=>by simp[KT.rk,KT.eqb,KT.cmp,cmpL,cmpL_rk l m]
 | .int _,.str _=>by simp[KT.rk,KT.eqb,KT.cmp,cmpL]
 | .int _,.tup _=>by simp[KT.rk,KT.eqb,KT.cmp,cmpL]
 | .str _,.int _=>by simp[KT.rk,KT.eqb,KT.cmp,cmpL]
 | .str _,.tup _=>by simp[KT.rk,KT.eqb,KT.cmp,cmpL]
 | .tup _,.int _=>by simp[KT.rk,KT.eqb,KT.cmp,cmpL]
 | .tup _,.str _=>by simp[KT.rk,KT.eqb,KT.cmp,cmpL]
def cmpL_rk:∀ l m:jp,cmpL (rkL l) (rkL m)=true
 | [],_=>by simp[rkL,cmpL]
 | _::_,[]=>by simp[rkL,cmpL]
 | a::l,b::m=>by
  rw[rkL,rkL,cmpL,cmpL_rk l m,Il a b];split <;> rfl
end
mutual
def GS:∀ a b:KT,a.rk.plt b.rk=a.lt b
 | .int i,.int j=>by
  simp only[KT.rk,KT.eqb,KT.plt,pltL,jW,KT.lt,beq_self_eq_true,if_true];by_cases h:i=j
  ·subst h;simp
  ·simp[h]
 | .str x,.str y=>by
  simp only[KT.rk,KT.eqb,KT.plt,pltL,jW,KT.lt,beq_self_eq_true,if_true];by_cases h:x=y
  ·subst h;simp
  ·simp[h]
 | .tup l,.tup m=>by
  simp only[KT.rk,KT.eqb,KT.plt,pltL,KT.lt,beq_self_eq_true,if_true,eqbL_rk,pltL_rk l m]
  cases h:jW l m with
  | true=>rw[aM rfl,F5 h]
  | false=>rw[aK zR]
 | .int _,.str _=>by simp[KT.rk,KT.eqb,KT.plt,pltL,KT.lt]
 | .int _,.tup _=>by simp[KT.rk,KT.eqb,KT.plt,pltL,KT.lt]
 | .str _,.int _=>by simp[KT.rk,KT.eqb,KT.plt,pltL,KT.lt]
 | .str _,.tup _=>by simp[KT.rk,KT.eqb,KT.plt,pltL,KT.lt]
 | .tup _,.int _=>by simp[KT.rk,KT.eqb,KT.plt,pltL,KT.lt]
 | .tup _,.str _=>by simp[KT.rk,KT.eqb,KT.plt,pltL,KT.lt]
def pltL_rk:∀ l m:jp,pltL (rkL l) (rkL m)=ltL l m
 | [],[]=>by simp[rkL,pltL,ltL]
 | [],_::_=>by simp[rkL,pltL,ltL]
 | _::_,[]=>by simp[rkL,pltL,ltL]
 | a::l,b::m=>by rw[rkL,rkL,pltL,ltL,Gp a b,pltL_rk l m,GS a b]
end
mutual
def Iz:∀ t:KT,t.rk.depth<=2 * t.depth+2
 | .int i=>by simp[KT.rk,KT.depth,jX]
 | .str x=>by simp[KT.rk,KT.depth,jX]
 | .tup l=>by
  have:=depthL_rk l;simp only[KT.rk,KT.depth,jX]
  lia
def depthL_rk:∀ l:jp,jX (rkL l)<=2 * jX l+2
 | []=>by simp[rkL,jX]
 | t::l=>by
  let a:=Iz t;let b:=depthL_rk l;rw[rkL,jX,jX]
  lia
end
inductive Wv(n:Nat)(c:jf)(H:Hp)(Q:VK)(_:XK):Prop
 |mk(v:V)(t:KT)(q:Nat)(_:c=[v])(_:ZF H t v)(_:t.fits q=true)(_:t.depth<n)(_:∀(b:V)(a:Hp),ZF a t.rk b->ZC H a->Q b a)
def Al:ZB zE6 zE6 (Zf MY):=Z4
def ZM0{n:Nat}(F:Zn K "_law_rank" "_law_rank" MY f fd)(T:YR mg)(DS:ZD P w K mg kf (n+1) "_law_rank" zE6 (Wv n)):ZN P w K mg kf ZY (n+2) f fd zE6 (Wv (n+1)):=by
 refine F.ko Al λa5 A a4 s H j Q E hr h=>?_;let⟨v,t,q,rfl,d,hq,hn,k⟩:=h;intro Xc;refine⟨_,ZQ (Z1 (Yg (Zy X3 rfl T.isi X8 (Zj (pv 0) (X6 (v:=.ty "int") rfl T.int Uy rfl)))) (ZW (Zr (XB (OF ZO (pv 0) X0 (XB Zw))))) Z6)
  (ZQ (Z1 (Yg (Zy X3 rfl T.isi X8 (Zj (pv 0) (X6 (v:=.ty "str") rfl T.str NQ rfl)))) (ZW (Zr (XB (OF ZO ZO (pv 0) (XB Zw))))) Z6)
  (ZW (Zr (XB (OF ZO ZO X0 (WQ Ov rfl T.tuple QW (ZV (UD [] [] rfl (JM (pv 0)) (λ_ _ _ _ _=>Vh) (λ_ _ _ _ _=>Zm DS hr (ZV (pv 0))) trivial)))))))),?_⟩
 cases t with
 | int i=>
  let O:v=.int i:=by rw[ZF] at d;exact d
  subst O;refine⟨_,Z,_,_,_,_,Z,d.ty,Oe,_,Z,YJ ?_⟩;refine⟨_,Z,(by show 0<=ap;decide),λp0 V=>⟨(by show 4<=ap;decide),λp X=>?_⟩⟩
  let S:=Zc V (.tup []);let r:=Zc X (.tup [.int 0,.int i,.str "",.ref p0]);refine k _ _ ?_ (S.trans r);rw[KT.rk];exact .tup ZP (.cons (.int 0) (.cons (.int i) (.cons (.str _) (.cons (.tup (r _ _ ZP) .nil) .nil))))
 | str x=>
  let O:v=.str x:=by rw[ZF] at d;exact d
  subst O;refine⟨_,Z,_,_,_,_,Z,d.ty,KS,_,Z,Zp ?_⟩;refine⟨_,Z,_,_,_,_,Z,d.ty,N2,_,Z,YJ ?_⟩;refine⟨_,Z,(by show 0<=ap;decide),λp0 V=>⟨(by show 4<=ap;decide),λp X=>?_⟩⟩
  let S:=Zc V (.tup []);let r:=Zc X (.tup [.int 1,.int 0,.str x,.ref p0]);refine k _ _ ?_ (S.trans r);rw[KT.rk];exact .tup ZP (.cons (.int 1) (.cons (.int 0) (.cons (.str x) (.cons (.tup (r _ _ ZP) .nil) .nil))))
 | tup l=>
  let G:=d;rw[ZF] at G;let⟨a,j,rfl,J,I⟩:=G;let hl:=I.length;rw[KT.fits,zO,zO] at hq;let⟨a9,a1,C⟩:=hq;let a8:l.length<=4:=of_decide_eq_true a1;rw[KT.depth] at hn;refine⟨_,Z,_,_,_,_,Z,d.ty,KU,_,Z,Zp ?_⟩;refine⟨_,Z,_,_,_,_,Z,d.ty,II,_,Z,Zp ?_⟩;exists _,Z,a,Z,⟨j,Zb.of J⟩;refine UH (n:=j.length) (λi z=>j[i]? = some z) (λD i m u=>ZC H u/\H D=none/\jU u ((l.take i).map KT.rk) m) (YL ∅)
   (λD i m u W g=>⟨j,j[i],Zb.of (g.1 _ _ J),by simp[W]⟩) (λD i m u z y W g hy=>⟨hy.1,hy.2 j (Zb.of (g.1 _ _ J))⟩) (λD m u g=>⟨j,Zb.of (g.1 _ _ J),zY _⟩)
   (λD hD=>⟨Zc hD _,hD,.nil⟩) (λD i m u z N a7 W hz g R hR=>?_) (λD m u N g=>?_)
  ·let⟨M,nD,c⟩:=g;let⟨t,L,kt⟩:=I.get hz;let mt:=zG L;let a2:t.fits (q-1)=true:=by
    rw[MB] at C;exact yY.mp C t mt
   let a6:=Oq mt;exists _,Z,z,t,q-1,Z,kt.sm M,a2,by lia
   intro v' y k4 s4;let B:=s4 D _ N;let tD:YC y (upd y D (.lst (m++[v']))):=(ZH.refl D y).upd.tups B;refine hR v' y B ⟨λb o e=>by rw[ZM (Za e nD)];exact s4 b o (M b o e),nD,?_⟩
   rw[yP,L,yX];exact((c.sm s4).append (.cons k4 .nil)).mono tD _ _
  ·let⟨M,nD,c⟩:=g;let L:l.take j.length=l:=yM ∅
   rw[L] at c;let a3:=c.length;rw[zX] at a3;refine⟨D,m,Z,.inl ⟨ZG.of N,λp1 Y=>?_⟩⟩;let r:=Zc Y (.tup m);exists (by show 4<=ap;decide)
   intro p2 a0;let U:=Zc a0 (.tup [.int 2,.int 0,.str "",.ref p1]);refine k _ _ ?_ ((M.trans r).trans U);rw[KT.rk,Hd];exact .tup ZP (.cons (.int 2) (.cons (.int 0) (.cons (.str _) (.cons (.tup (U _ _ ZP) (c.sm (r.trans U))) .nil))))
def F9(T:YR mg)(L:Zl K mg "_law_rank" MY zE6):∀ n:Nat,ZD P w K mg kf (n+1) "_law_rank" zE6 (Wv n)
 | 0=>L.of λ_ _ _=>Jv λb H Q E h=>by let⟨v,t,q,_,_,_,a,_⟩:=h;lia
 | n+1=>L.of λ_ _ F=>ZM0 F T (F9 T L n)
def Bu:ZB zEu zEu (Zf JX):=Z4
def Ce(F:Zn K "_law_less" "_law_less" JX f fd)(e:ZD P w K mg kf 6 "_law_rank" zE6 (Wv 5)):ZN P w K mg kf ZY 7 f fd zEu Yn:=by
 refine F.ko Bu λn A d s H G Q E c h=>?_;let⟨v,u,a,b,rfl,o,p,g,i,k⟩:=h;intro x;exists _,ZW (Zr (VA (Fa c) (Zm e c (ZV (pv 0))) (Zm e c (ZV (pv 1))) (Z0 _)));let y:=QO a 3 g;let z:=QO b 3 i;let B:=Iz a;exists _,Z,v,a,3,Z,o,g,by lia
 intro C t q j;exists _,Z,u,b,3,Z,p.sm j,i,by lia
 intro D m r l;exists a.rk,b.rk,q.sm l,r,Il a b,by lia
 rw[GS];exact k m (j.trans l)
end Tw
namespace L2
open PySem PySem.Spec PyProof.Rows
inductive Qy(b:zZ)(c:jf)(H:Hp)(Q:VK):Prop
 |mk(p:aj)(a:jA)(_:c=[.ref p])(_:ZG b H p (a.map V.int))(_:Q (.int a.sum) H)
def ZOm(g:X.calm=true):VL X (.builtin "sum") (Qy X.K):=by
 intro d s A H z y Q I r h;let⟨p,c,rfl,j,q⟩:=h;let⟨u,rfl,m⟩:=VO r;cases m;let⟨k,n,l,x⟩:=I.list j;let a:=JA n;let⟨v,e⟩:=a.allInts.items;let b:=l.isList;rw[e] at b;let f:v.toList.map (·.1)=c:=by
  rw[<-nums_intItems,<-e];exact a.numsOf
 refine sum_intListG (I.ok.hd g) b λw t o i=>⟨.int c.sum,H,I.kept (t':=t) i,⟨o,?_⟩,q⟩;rw[preSum_eq,yM (by simp),f]
end L2
namespace Tw
open PySem PySem.Spec L2 PyProof.Rows
variable{jZ kd CS CT CH CK CP CB:aj}
def CW:ax "sum" = some (.builtin "sum"):=by decide +kernel
structure YN where
 h:Int
 lo:KT
 hi:KT
 m:Int
abbrev jI:=List YN
def YN.d:YN:=⟨0,.int 0,.int 0,0⟩
def YN.kt(L:YN):KT:=.tup [.int L.h,L.lo,L.hi,.int L.m]
inductive Z8(H:Hp)(L:YN)(u:V):Prop
 |mk(a c b:_)(_:u=.ref a)(_:H a=some (.tup [.int L.h,c,b,.int L.m]))(_:ZF H L.lo c)(_:ZF H L.hi b)
def Z8.mono{H d:Hp}{L:YN}{u:V}(x:Z8 H L u)(m:YC H d):Z8 d L u:=by
 let⟨a,c,b,e,f,g,h⟩:=x;exact⟨a,c,b,e,m _ _ f,g.mono m _ _,h.mono m _ _⟩
def Z8.key{H:Hp}{L:YN}{u:V}(x:Z8 H L u):ZF H L.kt u:=by
 let⟨a,f,e,rfl,b,c,d⟩:=x;exact .tup b (.cons (.int _) (.cons c (.cons d (.cons (.int _) .nil))))
def YV(H:Hp)(a:jI)(b:jf):Prop:=b.length=a.length/\∀ i u,b[i]? = some u->Z8 H (a.getD i .d) u
def YV.mono{H a:Hp}{b:jI}{c:jf}(x:YV H b c)(m:YC H a):YV a b c:=⟨x.1,λi u e=>(x.2 i u e).mono m⟩
def YN.fit(L:YN):Prop:=L.lo.fits 3=true/\L.hi.fits 3=true
def Uv(a b:YN):Bool:=(a.h==b.h)&&a.hi.lt b.lo
def MT(a:jI):Bool:=(zN (a.length-1)).all λj=>Uv (a.getD j .d) (a.getD (j+1) .d)
def over(a:jI):Option YN:=if 2<=a.length/\a.length<=4/\MT a=true then some ⟨(a.getD 0 .d).h+1,(a.getD 0 .d).lo,(a.getD (a.length-1) .d).hi,(a.map YN.m).sum⟩ else none
def Fk{a:jI}(h:¬ (2<=a.length/\a.length<=4)):over a=none:=aK λz=>h ⟨z.1,z.2.1⟩
def ZMy{a:jI}{i:Nat}(b:i+1<a.length)(h:Uv (a.getD i .d) (a.getD (i+1) .d)=false):over a=none:=aK λz=>by
 have:=yY.mp z.2.2 i (xG.mpr ∅)
 rw[h] at this;cases this
def BC{ls:jI}(a:2<=ls.length)(b:ls.length<=4)(h:∀ j,j<ls.length-1->Uv (ls.getD j .d) (ls.getD (j+1) .d)=true):over ls=some ⟨(ls.getD 0 .d).h+1,(ls.getD 0 .d).lo,(ls.getD (ls.length-1) .d).hi,(ls.map YN.m).sum⟩:=
 aM ⟨a,b,yY.mpr λj c=>h j (xG.mp c)⟩
inductive V7(d:jf)(H:Hp)(Q:VK)(_:XK):Prop
 |mk(v u:V)(a b:YN)(_:d=[v,u])(_:Z8 H a v)(_:Z8 H b u)(_:a.fit)(_:b.fit)(_:∀ c,ZC H c->Q (.bl (Uv a b)) c)
def AN:ZB zE0 zE0 (Zf JE):=Z4
def Eb(F:Zn K "stand_side_by_side" "stand_side_by_side" JE f fd)(T:YR mg)(r:ZD P w K mg kf 7 "ahead" zE4 Yn):ZN P w K mg kf ZY 8 f fd zE0 V7:=by
 refine F.ko AN λB A l s H X Q E J h=>?_;let⟨v,u,a,b,rfl,G,I,C,D,k⟩:=h;let⟨U,o⟩:=T.height;let⟨V,N⟩:=T.least;let⟨W,O⟩:=T.greatest;let⟨p,x,c,rfl,m,L,i⟩:=G;let⟨q,d,y,rfl,n,j,M⟩:=I;intro S;refine⟨_,ZW (Zr (Ug (VA Wp (Zi K (pv 0) (VS (v:=.int 0) rfl o ⟨_,rfl⟩)) (Zi K (pv 1) (VS (v:=.int 0) rfl o ⟨_,rfl⟩)) (Z0 _))
  (Qn (Zm r J (Zj (Zi K (pv 0) (VS (v:=.int 2) rfl O ⟨_,rfl⟩)) (Zi K (pv 1) (VS (v:=.int 1) rfl N ⟨_,rfl⟩))))))),?_⟩
 refine⟨_,Z,.inr (.inl ⟨p,_,_,.int a.h,rfl,rfl,Zb.of m,rfl,?_⟩)⟩;refine⟨_,Z,.inr (.inl ⟨q,_,_,.int b.h,rfl,rfl,Zb.of n,rfl,rfl,_,rfl,?_⟩)⟩;by_cases g:a.h=b.h
 ·rw[aJ (by rw[g])]
  refine YJ ?_;refine⟨_,Z,.inr (.inl ⟨p,_,_,c,rfl,rfl,Zb.of m,rfl,?_⟩)⟩;refine⟨_,Z,.inr (.inl ⟨q,_,_,d,rfl,rfl,Zb.of n,rfl,c,d,a.hi,b.lo,rfl,i,j,C.2,D.1,λt R=>?_⟩)⟩;let e:a.hi.lt b.lo=Uv a b:=by unfold Uv;rw[g,beq_self_eq_true,uQ]
  rw[e];exact k t R
 ·rw[aI (λz=>g (CY z))];refine Zp ?_;let e:false=Uv a b:=by unfold Uv;rw[beq_eq_false_iff_ne.mpr g,uO]
  rw[e];exact k H (ZC.refl H)
abbrev QX:je:=[.type "ValueError",.type "Exception",.type "BaseException",.type "object"]
inductive X9(CS:aj)(e:jf)(H:Hp)(Q:VK)(E:XK):Prop
 |mk(l:aj)(c:jf)(b:jI)(_:e=[.ref l])(_:H l=some (.lst c))(_:YV H b c)(_:∀ i,(b.getD i .d).fit)(_:c.length<=100)(_:∀ a,ZC H a->(over b=none->E (.ref CS) none a)/\∀ L v,over b=some L->ZF a L.kt v->Q v a)
abbrev ZPh:jr:=["labels","at","many"]
def QG:ZB ZPh zFb (Zf LV):=Z4
end Tw
namespace L2
open PySem PySem.Spec PyProof.Rows
def ZDO:fillsNumberSlot (.type "tuple") "mul" = pure false:=
 PySem.fillsNumberSlot_seq (id:= "tuple.__mul__") (r:=some (.builtin "tuple.__rmul__")) tO.lookup (by decide +kernel) qO.lookup (by decide +kernel)
def CQ:seqRepeat? (.type "tuple")=pure (some (.builtin "tuple.__mul__")):=by
 unfold seqRepeat?;rw[PySem.seqSlot_of (T:= "tuple") (name:= "__mul__") (id:= "tuple.__mul__") tO.lookup (by decide +kernel),PySem.seqSlot_of (T:= "tuple") (name:= "__rmul__") (id:= "tuple.__rmul__") qO.lookup (by decide +kernel)]
 rfl
def C5(a:Int)(t:Tok)(l:aj)(b:jv)(n:Nat)(e:jx)(f:Array (jd)):
  Meets (Builtin.«int.__rmul__» ⟨[.int a t,.ref l],[]⟩) (λ_ R s=>s.heap.get? l=some { cls:=.type "tuple",dict:=e,data:=.seq b n,slots:=f }/\R (.ok (.ret Value.notImplemented)) s):=
 .of_wp λc w A R s h=>by let⟨j,g,d,m,k⟩:=s;let⟨i,h⟩:=h;wp_walk;exact⟨_,Z,h⟩
def ZPL(u:Tok)(l:aj)(a:jv)(n:Nat)(c:jx)(e:Array (jd)):
  Meets (Builtin.«tuple.__mul__» ⟨[.ref l,.int 1 u],[]⟩) (λ_ R s=>s.heap.get? l=some { cls:=.type "tuple",dict:=c,data:=.seq a n,slots:=e }/\R (.ok (.ret (.ref l))) s):=
 .of_wp λb w A R s h=>by
  let⟨i,g,d,k,j⟩:=s;let⟨f,h⟩:=h;unfold Builtin.«tuple.__mul__»
  wp_walk
  exact⟨_,Z,h⟩
def Bi(u:Tok)(l:aj)(x:ai)(n:Nat)(b:jx)(c:Array (jd)):
  Meets (Builtin.«tuple.__mul__» ⟨[.ref l,.int 0 u],[]⟩) (λ_ R s=>s.heap.get? l=some { cls:=.type "tuple",dict:=b,data:=.seq #[x] n,slots:=c }/\R (.ok (.ret (.ref s.heap.objs.size))) { s with heap:=s.heap.push { cls:=.type "tuple",data:=.seq #[] } }):=
 .of_wp λa w A R s h=>by
  let⟨f,g,d,j,i⟩:=s;let⟨e,h⟩:=h;unfold Builtin.«tuple.__mul__»
  wp_walk
  exact⟨_,Z,h⟩
inductive N1(K:zZ)(x y:V)(H:Hp)(Q:VK):Prop
 |mk(a:aj)(v:V)(n:Int)(_:x=.ref a)(_:y=.int n)(_:Zb K H a [v])(_:n=1/\Q (.ref a) H\/n=0/\∀ p,H p=none->Q (.ref p) (upd H p (.tup [])))
def ZMJ:Yv X (binaryOp .Mult) (N1 X.K):=by
 intro i s E H x y v u Q I A B h;let⟨a,z,n,rfl,rfl,k,l⟩:=h;cases A;let⟨t,rfl⟩:=B;let⟨p,w,r,_⟩:=I.tuple k;let⟨D,rfl,_⟩:=VO w;let⟨⟨cls,e,data,f⟩,c,d,m,g⟩:=id r;simp only at d g;subst d g;refine wpAny_binaryOp_repeat_ref (T:= "tuple") (U:= "int") (by decide) ⟨_,c,Z⟩ (λC=>typeIs_int C n t) ZDO PySem.F.fills_int_mul rF CQ PySem.F.slot_int_index.lookup
  (call_meets rF (typeIs_int s n t) PySem.F.entry_int_rmul (PySem.F.args_int_rmul_2 _ _) (C5 n t a _ m e f) ⟨c,rfl,⟨_,c,rfl⟩,?_⟩)
 rcases l with ⟨rfl,q⟩ | ⟨rfl,q⟩
 ·exact call_meets tO ⟨_,c,Z⟩ qS (qH _ _) (ZPL t a _ m e f) ⟨c,⟨.ref a,H,I,Z,q⟩⟩
 ·refine call_meets tO ⟨_,c,Z⟩ qS (qH _ _) (Bi t a _ m e f) ⟨c,?_⟩;let j:=I.laid (a:=s.heap.objs.size) (o:=.tup []) (h':=s.heap.push { cls:=.type "tuple",data:=.seq #[] }) (t':=s.toks) (λb u q=>zP _ q) (zY _)
   ⟨zF _,[],.nil,_,yS _ rfl,rfl,0,rfl⟩
  exact⟨.ref s.heap.objs.size,_,j,Z,q _ (I.hok.fresh (zY _))⟩
inductive UR(x y:V)(H:Hp)(Q:VK):Prop
 |mk(i n:_)(_:x=.str i)(_:y=.int n)(_:i.length=1)(_:n=1/\Q (.str i) H\/n=0/\Q (.str "") H)
def ZKF:Yv X (binaryOp .Mult) (UR):=by
 intro b s g H x y v u Q I d e h;let⟨i,n,rfl,rfl,a,c⟩:=h;let⟨t,rfl⟩:=d;let⟨f,rfl⟩:=e;rcases c with ⟨rfl,q⟩ | ⟨rfl,q⟩
 ·refine PySem.P.mul_str ?_ (λ_ _=>?_) (λ_ _=>?_) ?_
  ·decide
  ·rw[a];decide
  ·rw[a];decide
  ·rw[aK (by decide),aM (by simp)]
   exact⟨.str i,H,I,⟨t,Z⟩,q⟩
 ·refine PySem.P.mul_str ?_ (λz _=>?_) (λz _=>?_) ?_
  ·decide
  ·first | exact absurd z (by decide) | (rw[a];decide)
  ·first | exact absurd z (by decide) | (rw[a];decide)
  ·rw[aM (by decide)]
   exact⟨zF _,⟨.str "",H,I.tok _,⟨_,Z⟩,q⟩⟩
end L2
namespace Tw
open PySem PySem.Spec L2
variable{jZ kd CS CT CH CK CP CB:aj}
def YO:Str:= "!#$&()*+,-./0123456789:;<=>?@ABCDEFGHIJKLMNOPQRSTUVWXYZ"
def KQ:YO.cps.toList.length=55:=by decide +kernel
def ZMa:YO.cps.toList.all Ur=true:=by decide +kernel
def Hx{i:Int}(a:0<=i)(b:i<55):∃ c,Xr YO.cps.toList i=some c/\Ur c=true:=by
 let⟨c,e,m⟩:=Nv (xs:=YO.cps.toList) a (by rw[KQ];exact b)
 exact⟨c,e,yY.mp ZMa c m⟩
def Zv(x:Str)(i:Nat):Prop:=x.cps.size<=i/\x.cps.toList.all Ur=true
def Zv.ok{x:Str}{i:Nat}(h:Zv x i)(a:i<=40):OV x=true:=Ax (zL h.1 a) h.2
def Zv.cat{x y:Str}{i j:Nat}(h:Zv x i)(g:Zv y j):Zv (x++y) (i+j):=by
 let e:(x++y).cps=x.cps++y.cps:=rfl;exists ?_
 ·rw[e,Array.size_append];exact tG h.1 g.1
 ·rw[e,Array.toList_append,List.all_append,h.2,g.2];rfl
def Zv.one{c:Nat}(h:Ur c=true):Zv ⟨#[c]⟩ 1:=⟨zY _,by simp[h]⟩
def Zv.k:Zv "k" 1:=by unfold Zv;decide +kernel
def Zv.a:Zv "a" 1:=by unfold Zv;decide +kernel
def Zv.e:Zv "" 0:=by unfold Zv;decide +kernel
def Oi{n:Int}(h:n.natAbs<10 ^ 60)(r:Nat):(KT.int n).fits r=true:=by rw[KT.fits];exact aJ h
def MI{x:Str}{i:Nat}(h:Zv x i)(a:i<=40)(r:Nat):(KT.str x).fits r=true:=by rw[KT.fits];exact h.ok a
def Cg{n:Int}(h:n.natAbs<10 ^ 60):(KT.tup [.str "",.int n]).fits 3=true:=HB (yU Z) (by
 rw[fitsL,fitsL,fitsL,Oi h 2,MI Zv.e (by decide) 2];rfl)
def ZIk{n:Int}(h:n.natAbs<10 ^ 60):(KT.tup [.str "",.int n,.int 0]).fits 3=true:=HB (yU Z) (by
 rw[fitsL,fitsL,fitsL,fitsL,Oi h 2,MI Zv.e (by decide) 2,Oi (n:=0) (by decide) 2];rfl)
def Hf{n:Int}(a : -10000<=n)(b:n<=10000):n.natAbs<10 ^ 60:=xJ (show n.natAbs<=10000 by lia) (by decide)
def ZLP:YO.cps.toList.Pairwise (· < ·):=by decide +kernel
def Gk{i j:Int}{c d:Nat}(l:0<=i)(h:i<j)(m:j<55)(e:Xr YO.cps.toList i=some c)(f:Xr YO.cps.toList j=some d):c<d:=by
 obtain⟨a,rfl⟩:∃ a:Nat,i=(a:Int):=⟨i.toNat,∅⟩
 obtain⟨b,rfl⟩:∃ b:Nat,j=(b:Int):=⟨j.toNat,∅⟩
 let g:a<YO.cps.toList.length:=by rw[KQ];lia
 let k:b<YO.cps.toList.length:=by rw[KQ];lia
 rw[Xk (zW g)] at e;rw[Xk (zW k)] at f;cases e;cases f;exact tN.mp ZLP a b g k ∅
inductive GK:KT->Nat->Int->Prop
 | int (sz:Int):GK (.int (sz-700)) 0 sz
 | str {x:Str} {sz:Int} {c1 c2:Nat} {tl:jo} (h:x.cps.toList=107::c1::c2::tl) (h1:Xr YO.cps.toList (sz / 50)=some c1) (h2:Xr YO.cps.toList (sz % 50)=some c2):GK (.str x) 1 sz
 | tup (sz:Int) (l:jp):GK (.tup (.str ""::.int sz::l)) 2 sz
def ZPa{a b:KT}{c d:Nat}{s r:Int}(m:GK a c s)(f:GK b d r)(q:c<=d)(h:s<r)(p:0<=s)(t:r<=1280):a.lt b=true:=by
 cases m with
 | int=>
  cases f with
  | int=>rw[KT.lt];exact aJ ∅
  | str=>rw[KT.lt]
  | tup=>rw[KT.lt]
 | str i e j=>
  cases f with
  | int=>lia
  | str k g l=>
   rw[KT.lt,i,k];refine aJ ?_;refine List.Lex.cons ?_;rcases(show s / 50<r / 50\/(s / 50=r / 50/\s % 50<r % 50) by lia) with z | ⟨n,o⟩
   ·exact List.Lex.rel (Gk ∅ z ∅ e g)
   ·rw[n,g] at e;cases e;exact List.Lex.cons (List.Lex.rel (Gk ∅ o ∅ j l))
  | tup=>rw[KT.lt]
 | tup=>
  cases f with
  | int=>lia
  | str=>lia
  | tup=>
   rw[KT.lt,ltL,aM (by rw[KT.eqb];exact beq_self_eq_true _),ltL,aK (by rw[KT.eqb];simp;lia),KT.lt]
   exact aJ h
def cls(o a:Int)(i:Nat):Nat:=if (i:Int)<o then 0 else if (i:Int)<o+a then 1 else 2
def ZKd(o a:Int)(i:Nat)(h:0<=a):cls o a i<=cls o a (i+1):=by
 unfold cls;split
 ·split <;> (try split) <;> lia
 ·split
  ·rw[aK ∅]
   split <;> lia
  ·rw[aK ∅,aK ∅]
   exact zY _
def GI(o f:Int)(i:Nat)(e:Int)(d:jp):Prop:=d.Pairwise (λa b=>a.lt b=true)/\∀ t∈d,∃ c s,GK t c s/\c<=cls o f i/\0<=s/\s<=e
def B4{o f:Int}{i:Nat}{k d:Int}{n:jp}{t:KT}(u:0<=f)(h:GI o f i k n)(y:k<d)(p:d<=1280)(w:0<=k)(m:GK t (cls o f i) d):GI o f (i+1) d (n++[t]):=by
 refine⟨?_,λx e=>?_⟩
 ·rw[uV];exists h.1,rJ _ _;intro a q b r;rw[zM.mp r];let⟨c,s,g,l,j,v⟩:=h.2 a q;exact ZPa g m l ∅ j p
 ·have:=ZKd o f i u;rcases zJ.mp e with e | e
  ·let⟨c,s,g,l,j,v⟩:=h.2 x e;exact⟨c,s,g,∅,j,∅⟩
  ·rw[zM.mp e];exact⟨_,d,m,this,∅,Int.le_refl _⟩
inductive Vp(g:jf)(H:Hp)(Q:VK)(_:XK):Prop
 |mk(p:aj)(_:g=[.ref p])(_:ZJ H p)(_:∀(D:aj)(e:jf)(d:jp)(c:Hp),ZH p H c->ZJ c p->H D=none->c D=some (.lst e)->jU c d e->(∀ t∈d,t.fits 3=true)->e.length=64->d.Pairwise (λa b=>a.lt b=true)->Q (.ref D) c)
abbrev CM:jr:=["_law_well_here","_law_signs","_law_found","_law_size","_law_one","_law_two","_law_j"]
def QR:ZB CM zE2 (Zf Ji):=Z4
def ZMd(F:Zn K "_law_grid" "_law_grid" Ji f fd)(T:YR mg)(DP:ZD P w K mg kf 1 "_law_pull" zEd Yb):ZN P w K mg kf ZY 2 f fd zE2 Vp:=by
 refine F.ko QR λc9 A c0 s H vs Q E hr h=>?_;let⟨p,rfl,W,k⟩:=h;let M:=QR.nd;intro Xc;refine⟨_,ZQ (Zs 1 M X0)
  (ZQ (Zs 2 M (XH Zw))
  (ZQ (Zs 3 M ZO)
  (ZQ (Zs 4 M (Zm DP hr (Zj (pv 0) ZO)))
  (ZQ (Zs 5 M (Z2 Wl (pv 4) (Zm DP hr (Zj (pv 0) (Z2 Qf ZO (pv 4))))))
  (ZQ (Wu PassesOwn.never rfl (JJ rfl T.range (ZV ZO)) (YZ 6 M)
   (ZQ (Zs 3 M (Z2 Wl (Z2 Wl (pv 3) ZO) (Zm DP hr (Zj (pv 0) ZO))))
   (ZW (Z1 (YI Qj (pv 6) (pv 4) (Z0 _))
    (ZW (XF (Vs yF xP xO UF (pv 2) (ZV (Z2 Qf (pv 3) ZO)))))
    (ZW (Z1 (YI Qj (pv 6) (pv 5) (Z0 _))
     (ZW (XF (Vs yF xP xO UF (pv 2) (ZV (Z2 JI (Z2 JI (Z2 JI X0 (Zi K (pv 1) (Z2 LK (pv 3) ZO))) (Zi K (pv 1) (Z2 UV (pv 3) ZO))) (Z2 ZKF X0 (Z2 UV (pv 6) ZO)))))))
     (ZW (XF (Vs yF xP xO UF (pv 2) (ZV (Z2 Bd (XB (Zj X0 (pv 3))) (Z2 ZMJ (XB (ZV ZO)) (Z2 UV (pv 6) ZO)))))))))))))
  (ZW (Zr (pv 2)))))))),?_⟩
 exists (by show 0<=ap;decide)
 intro D nD;let g0:=Zc nD (.lst []);let W0:=W.same g0;let y:D≠p:=by let⟨xs,e⟩:=W.some;exact(Za e nD).symm
 exists _,Z,p,65,Z,W0,VZ (by decide) (by decide)
 intro o H1 o0 o1 W1 s1;exists _,Z,_,Z,_,Z,_,_,Z,Z,p,_,Z,W1,VZ nofun (xJ (show (65-o).natAbs<=65 from nofun) (by decide))
 intro B H2 c6 e0 W2 s2;exists _,_,Z,Z;let a3:H2 D=some (.lst []):=s2 D _ (s1 D _ ZP y) y;let c5:ZH p H H2:=((ZH.of g0).trans s1).trans s2;refine⟨64,Z,by decide,by decide,NN (n:=64) (λi σ C=>∃(l:Int)(x:jg)(j:jf)(N:jp),σ=[some (.ref p),some (.str YO),some (.ref D),some (.int l),some (.int o),some (.int (o+B)),x]/\0<=l/\l<=20 * i/\ZH p H C/\ZJ C p/\C D=some (.lst j)/\jU C N j/\(∀ t∈N,t.fits 3=true)/\j.length=i/\GI o B i l N)
  ⟨0,none,[],[],Z,by decide,by decide,c5,W2,a3,.nil,λt ht=>absurd ht (by simp),Z,.nil,λt ht=>absurd ht (by simp)⟩ ?_ ?_⟩
 ·rintro i σ C hi ⟨l,x,j,N,rfl,z0,z1,s3,W3,I,kU,fU,lU,gU⟩;refine⟨_,Z,_,_,Z,Z,_,Z,p,20,Z,W3,VZ (by decide) (by decide),λr S r0 r1 W4 s4=>⟨_,_,Z,Z,?_⟩⟩
  let c4:ZH p H S:=s3.trans s4;let g:=s4 D _ I y;let a7:=kU.mono (s4.tupsW W3) _ _;obtain⟨d,a5,c7,c8⟩:∃ d:Int,l+1+r=d/\0<=d/\d<=20 * (i+1:Nat):=⟨_,Z,nofun,nofun⟩
  let a2:l<d:=nofun
  show QJ 3 (V.int (l+1+r)) _ _ _;rw[a5];let m:∀(v:V)(t:KT)(q:Hp),ZC S q->ZF q t v->t.fits 3=true->GK t (cls o B i) d->∃(l:Int)(x:jg)(R:jf)(O:jp),[some (V.ref p),some (.str YO),some (.ref D),some (.int d),some (.int o),some (.int (o+B)),some (.int (0+(i:Int)))]=[some (.ref p),some (.str YO),some (.ref D),some (.int l),some (.int o),some (.int (o+B)),x]/\0<=l/\l<=20 * (i+1:Nat)/\ZH p H (upd q D (.lst (j++[v])))/\ZJ (upd q D (.lst (j++[v]))) p/\upd q D (.lst (j++[v])) D=some (.lst R)/\jU (upd q D (.lst (j++[v]))) O R/\(∀ t∈O,t.fits 3=true)/\R.length=i+1/\GI o B (i+1) l O:=λv t q s5 kv fv a6=>by
   let a4:=s5 _ _ g;let tD:YC q (upd q D (.lst (j++[v]))):=(ZH.refl D q).upd.tups a4;refine⟨d,_,j++[v],N++[t],Z,c7,c8,λb u e n=>?_,?_,ZP,((a7.sm s5).append (.cons kv .nil)).mono tD _ _,λz hz=>?_,by simp[lU],B4 c6 gU a2 nofun z0 a6⟩
   ·rw[ZM (Za e nD)];exact s5 b u (c4 b u e n)
   ·let⟨a1,b1,c1,d1,hw,rr⟩:=(W4.same s5).ex;exact⟨a1,b1,c1,d1,by rw[ZM (Ne.symm y)];exact hw,rr⟩
   ·rcases zJ.mp hz with h | h
    ·exact fU z h
    ·rw[zM.mp h];exact fv
  let U:d.natAbs<10 ^ 60:=Hf nofun nofun
  let X:(d-700).natAbs<10 ^ 60:=Hf nofun nofun
  exists _,Z,_,Z,_,_,Z,Z,_,Z;refine Yz (λc=>?_) (λc=>?_)
  ·exists _,Z,.inl ⟨Z,_,ZG.of g⟩,_,Z,_,_,Z,Z,D,j,_,Z,Z,g,YL nofun
   exact m _ (.int (d-700)) S (ZC.refl _) (.int _) (Oi X 3) (by rw[show cls o B i=0 from aM (by have:=of_decide_eq_true c;lia (splits:=8))];exact .int _)
  exists _,Z,_,Z,_,_,Z,Z,_,Z;refine Yz (λc2=>?_) (λc2=>?_)
  ·let Y:cls o B i=1:=by unfold cls;rw[aK (by have:=of_decide_eq_false (uH.mpr c);lia (splits:=8)),aM (by have:=of_decide_eq_true c2;lia (splits:=8))]
   let⟨c1,J,a8⟩:=Hx (i:=d / 50) nofun nofun
   let⟨c3,L,a9⟩:=Hx (i:=d % 50) nofun nofun
   exists _,Z,.inl ⟨Z,_,ZG.of g⟩,_,Z,_,Z,_,_,Z,Z,⟨by decide,by decide⟩
   refine .inr (.inr ⟨YO,_,c1,rfl,rfl,(by decide +kernel),J,_,_,rfl,rfl,(by show 2<=ap;decide),?_⟩)
   refine⟨_,Z,_,Z,_,_,Z,Z,(show (0:Int)<50 by decide),.inr (.inr ⟨YO,_,c3,rfl,rfl,(by decide +kernel),L,_,_,rfl,rfl,(by show 3<=ap;decide),?_⟩)⟩
   let tx:Zv (("k" : Str)++⟨#[c1]⟩++⟨#[c3]⟩) 3:=(Zv.k.cat (.one a8)).cat (.one a9);rcases(show ((0:Int)+(i:Int)) % 2=1\/((0:Int)+(i:Int)) % 2=0 from nofun) with G | G
   ·refine⟨_,Z,_,_,Z,Z,(show (0:Int)<2 by decide),_,_,Z,Z,(by decide +kernel),.inl ⟨G,?_⟩⟩
    exists _,_,Z,Z,nn (zL (tG tx.1 Zv.a.1) (by decide)),D,j,_,Z,Z,g,YL nofun
    exact m _ (.str _) S (ZC.refl _) (.str _) (MI (tx.cat .a) (by decide) 3) (by rw[Y];exact .str (tl:=[97]) Z J L)
   ·refine⟨_,Z,_,_,Z,Z,(show (0:Int)<2 by decide),_,_,Z,Z,(by decide +kernel),.inr ⟨G,?_⟩⟩
    exists _,_,Z,Z,nn (zL (tG tx.1 Zv.e.1) (by decide)),D,j,_,Z,Z,g,YL nofun
    exact m _ (.str _) S (ZC.refl _) (.str _) (MI (tx.cat .e) (by decide) 3) (by rw[Y];exact .str (tl:=[]) Z J L)
  ·let Y:cls o B i=2:=by unfold cls;rw[aK (by have:=of_decide_eq_false (uH.mpr c);lia (splits:=8)),aK (by have:=of_decide_eq_false (uH.mpr c2);lia (splits:=8))]
   exists _,Z,.inl ⟨Z,_,ZG.of g⟩,_,Z,YX;intro t1 n1;let g1:=Zc n1 (.tup [.str "",.int d]);exists YX;intro t2 n2;let g2:=Zc n2 (.tup [.int 0]);let a0:=g1.trans g2;rcases(show ((0:Int)+(i:Int)) % 2=1\/((0:Int)+(i:Int)) % 2=0 from nofun) with G | G
   ·refine⟨_,Z,_,_,Z,Z,(show (0:Int)<2 by decide),t2,.int 0,_,Z,Z,Zb.of ZP,.inl ⟨G,?_⟩⟩
    exists t1,t2,_,_,Z,Z,Zb.of (g2 _ _ ZP),Zb.of ZP,(by simp),YX,(λz=>absurd z (by simp))
    intro _ t3 n3;let g3:=Zc n3 (.tup ([.str "",.int d]++[.int 0]));let gA:=a0.trans g3;exists D,j,_,Z,Z,gA _ _ g,YL nofun
    exact m _ (.tup [.str "",.int d,.int 0]) _ gA (.tup ZP (.cons (.str _) (.cons (.int _) (.cons (.int _) .nil)))) (ZIk U) (by rw[Y];exact .tup _ _)
   ·refine⟨_,Z,_,_,Z,Z,(show (0:Int)<2 by decide),t2,.int 0,_,Z,Z,Zb.of ZP,.inr ⟨G,λt3 n3=>?_⟩⟩
    let g3:=Zc n3 (.tup []);let gA:=a0.trans g3;refine⟨t1,t3,_,_,Z,Z,Zb.of (g3 _ _ (g2 _ _ ZP)),Zb.of ZP,(by simp),YX,(λ_=>?_),λz=>absurd Z z⟩
    exists D,j,_,Z,Z,gA _ _ g,YL nofun
    exact m _ (.tup [.str "",.int d]) _ gA (.tup (g3 _ _ (g2 _ _ ZP)) (.cons (.str _) (.cons (.int _) .nil))) (Cg U) (by rw[Y];exact .tup _ _)
 ·rintro σ C ⟨l,x,j,N,rfl,z0,z1,s3,W3,I,kU,fU,lU,gU⟩;exact⟨_,Z,k D j N C s3 W3 nD I kU fU lU gU.1⟩
def NL{H:Hp}{L:YN}{u:V}(h:ZF H L.kt u):Z8 H L u:=by
 unfold YN.kt at h;rw[ZF] at h;let⟨a,q,rfl,e,b⟩:=h;rw[jU] at b;let⟨o,k,rfl,c,b⟩:=b;rw[jU] at b;let⟨i,l,rfl,f,b⟩:=b;rw[jU] at b;let⟨j,m,rfl,g,b⟩:=b;rw[jU] at b;let⟨p,n,rfl,d,b⟩:=b;rw[jU] at b;subst b;rw[ZF] at c d;subst c d;exact⟨a,i,j,Z,e,f,g⟩
def Bj:YN.d.fit:=⟨Oi (n:=0) (by decide) 3,Oi (n:=0) (by decide) 3⟩
def HX(H:Hp)(b:jp)(c:jf):Prop:=c.length=b.length/\∀ i u,c[i]? = some u->∃ a d e,u=.ref a/\H a=some (.tup [d,e])/\ZF H (b.getD i (.int 0)) d
def Op(a:jp):KT:=.tup [.int 0,a.getD 0 (.int 0),a.getD (a.length-1) (.int 0),.int a.length]
def ZNa{a:jf}{u:V}(h:a[a.length-1]? = some u):Xr a (-1)=some u:=by
 let b:a≠[]:=λz=>by rw[z] at h;simp at h
 let e:a=a.dropLast++[u]:=by
  let c:a.getLast b=u:=by
   rw[rL];exact(yN.mp h).2
  rw[<-c,qC]
 rw[e];exact LZ _ _
inductive Y0(d:jf)(H:Hp)(Q:VK)(_:XK):Prop
 |mk(l:aj)(b:jf)(c:jp)(_:d=[.ref l])(_:H l=some (.lst b))(_:HX H c b)(_:0<b.length)(_:∀(a:Hp)(v:V),ZC H a->ZF a (Op c) v->Q v a)
def ZJt:ZB zEt zEt (Zf JT):=Z4
def ZHm(F:Zn K "label_of_rows" "label_of_rows" JT f fd)(T:YR mg):ZN P w K mg kf ZY 1 f fd zEt Y0:=by
 refine F.ko ZJt λq A i s H L Q E I h=>?_;let⟨l,c,J,rfl,e,d,u,k⟩:=h;intro C;refine⟨_,ZW (Zr (XB (OF ZO (Zi K (Zi K (pv 0) ZO) ZO)
  (Zi K (Zi K (pv 0) (OI P4 ZO)) ZO) (Zy WH rfl T.len Xh (ZV (pv 0)))))),?_⟩
 let m:c[0]? = some c[0]:=zW u;let n:c[c.length-1]? = some (c[c.length-1]'∅):=zW ∅
 let⟨a,o,D,r,z,x⟩:=d.2 0 _ m;let⟨b,bk,G,t,B,y⟩:=d.2 _ _ n;rw[r] at m;rw[t] at n;refine⟨_,Z,.inl ⟨l,c,_,.ref a,Z,Z,ZG.of e,Xk (j:=0) m,.inr (.inl ⟨a,_,_,o,rfl,rfl,Zb.of z,rfl,?_⟩)⟩⟩;refine⟨_,Z,1,Z,.inl ⟨l,c,_,.ref b,Z,Z,ZG.of e,ZNa n,.inr (.inl ⟨b,_,_,bk,rfl,rfl,Zb.of B,rfl,?_⟩)⟩⟩;exists _,Z,l,c,Z,.inl (ZG.of e),YX;intro p v;let g:=Zc v (.tup [.int 0,o,bk,.int c.length]);refine k _ _ g ?_;unfold Op;rw[<-d.1];exact .tup ZP (.cons (.int _) (.cons (x.sm g) (.cons (y.sm g) (.cons (.int _) .nil))))
abbrev Xj:=KT×KT
abbrev jE:=List Xj
def LD(r:Xj):KT:=.tup [r.1,r.2]
def Yk(a:jE):jp:=a.map LD
def Xj.fit(r:Xj):Prop:=r.1.fits 3=true/\r.2.fits 3=true
def Ed{H:Hp}{b c:aj}{d:V}(e:H b=some (.tup []))(g:H c=some (.tup [.int 1,.str "a"]))(a:d∈[V.int 0,.int 1,.str "v",.str "",.ref b,.ref c]):∃ t:KT,ZF H t d/\t.fits 3=true:=by
 simp only[zC,List.not_mem_nil,or_false] at a;rcases a with rfl | rfl | rfl | rfl | rfl | rfl
 ·exact⟨.int 0,.int _,by decide +kernel⟩
 ·exact⟨.int 1,.int _,by decide +kernel⟩
 ·exact⟨.str "v",.str _,by decide +kernel⟩
 ·exact⟨.str "",.str _,by decide +kernel⟩
 ·exact⟨.tup [],.tup e .nil,by decide +kernel⟩
 ·exact⟨.tup [.int 1,.str "a"],.tup g (.cons (.int _) (.cons (.str _) .nil)),by decide +kernel⟩
inductive XC(h:jf)(H:Hp)(Q:VK)(_:XK):Prop
 |mk(p d:aj)(b:Int)(e:jf)(gt:jp)(_:h=[.ref p,.ref d,.int b])(_:ZJ H p)(_:d≠p)(_:H d=some (.lst e))(_:jU H gt e)(_:∀ t∈gt,t.fits 3=true)(_:e.length=64)(_:0<=b)(_:b<16)(_:∀(D:aj)(c:jf)(g:jE)(a:Hp),ZH p H a->ZJ a p->H D=none->a D=some (.lst c)->jU a (Yk g) c->(∀ r∈g,r.fit)->(g.map (·.1)).Sublist gt->0<c.length->c.length<=4->Q (.ref D) a)
abbrev ZIp:jr:=["_law_well_here","_law_grid_here","_law_block","_law_rows","_law_j"]
def WD:ZB ZIp zEn (Zf La):=Z4
def EY(F:Zn K "_law_leaf_rows" "_law_leaf_rows" La f fd)(T:YR mg)(DP:ZD P w K mg kf 1 "_law_pull" zEd Yb):ZN P w K mg kf ZY 2 f fd zEn XC:=by
 refine F.ko WD λc7 A c6 s H vs Q E hr h=>?_;let⟨p,N,b,X,gt,rfl,W,a0,hg,kg,fg,lg,b0,b1,k⟩:=h;let nd:=WD.nd;let a9:=hr.units0;intro Xc;refine⟨_,ZQ (Zs 3 nd (XH Zw))
  (ZQ (Wu PassesOwn.never rfl (JJ rfl T.range (ZV ZO)) (YZ 4 nd)
   (ZW (Z1 (YI Vr (Zm DP hr (Zj (pv 0) ZO)) ZO (Z0 _))
    (ZW (XF (Vs yF xP xO UF (pv 3) (ZV (XB (Oa (Zi K (pv 1) (Z2 Wl (Z2 Pq ZO (pv 2)) (pv 4)))
     (ZV (Zi K (XH (pa6 ZO ZO X0 X0 (XB Zw) (XB (Zj ZO X0)))) (Zm DP hr (Zj (pv 0) ZO)))))))))) Z6)))
  (ZQ (Z1 (YI (Nw a9) (pv 3) (XH Zw) (Z0 _))
   (ZW (XF (Vs yF xP xO UF (pv 3) (ZV (XB (Zj (Zi K (pv 1) (Z2 Wl (Z2 Pq ZO (pv 2)) (Zm DP hr (Zj (pv 0) ZO)))) X0)))))) Z6)
  (ZW (Zr (pv 3))))),?_⟩
 let B:∀{g:Hp}{D:aj}{o:HO},ZJ g p->D≠p->ZJ (upd g D o) p:=fun{g D o} W5 n=>by
  let⟨a1,b1,c1,d1,hw,rr⟩:=W5.ex;exact⟨a1,b1,c1,d1,by rw[ZM (Ne.symm n)];exact hw,rr⟩
 exists (by show 0<=ap;decide)
 intro D Y;let g0:=Zc Y (.lst []);let m:D≠p:=by let⟨xs,e⟩:=W.some;exact(Za e Y).symm
 let c8:N≠D:=Za hg Y;let a6:∀(H':Hp)(j:Nat),ZH p H H'->j<64->∃(v:V)(t:KT),Xr X (j:Int)=some v/\ZF H' t v/\t.fits 3=true/\gt[j]? = some t:=λH' j s' hj=>by
  let hv:X[j]? = some (X[j]'∅):=zW ∅
  let⟨t,et,kt⟩:=kg.get hv;exact⟨_,t,Xk hv,kt.mono (s'.tupsW W) _ _,fg t (zG et),et⟩
 refine⟨4,Z,by decide,by decide,NN (n:=4) (λi σ S=>∃(x:jg)(y:jf)(G:jE),σ=[some (.ref p),some (.ref N),some (.int b),some (.ref D),x]/\ZH p H S/\ZJ S p/\S D=some (.lst y)/\jU S (Yk G) y/\(∀ r∈G,r.fit)/\(G.map (·.1)).Sublist ((gt.drop (4 * b.toNat)).take i)/\y.length<=i)
  ⟨none,[],[],Z,ZH.of g0,W.same g0,ZP,.nil,(λt ht=>absurd ht (by simp)),List.nil_sublist _,zY _⟩ ?_ ?_⟩
 ·rintro i σ S hi ⟨x,y,G,rfl,s3,W3,J,kU,fU,sU,lU⟩;refine⟨_,Z,p,3,Z,W3,VZ (by decide) (by decide),λr H4 r0 r1 I s4=>⟨_,_,Z,Z,_,Z,?_⟩⟩
  let O:=s3.trans s4;let a:=s4 D _ J m;let a5:=kU.mono (s4.tupsW W3) _ _;refine Yz (λc=>?_) (λc=>?_)
  ·let ej:(4:Int) * b+(0+(i:Int))=((4 * b.toNat+i:Nat):Int):=∅
   let⟨v,t,av,kv,fv,et⟩:=a6 H4 (4 * b.toNat+i) O ∅
   let a4:H4 N=some (.lst X):=O N _ hg a0;refine⟨_,Z,.inl ⟨Z,_,ZG.of a⟩,_,Z,_,Z,_,_,Z,Z,.inl ⟨by decide,by decide⟩,_,Z,_,_,Z,Z,.inl ⟨N,X,_,v,Z,Z,ZG.of a4,(by rw[ej];exact av),?_⟩⟩
   exists YX;intro t1 n1;let M:=Zc n1 (.tup []);exists YX;intro t2 n2;let g2:=Zc n2 (.tup [.int 1,.str "a"]);exists YX;intro L nL;let g3:=Zc nL (.lst [.int 0,.int 1,.str "v",.str "",.ref t1,.ref t2]);let gA:=(M.trans g2).trans g3;let c4:L≠p:=by let⟨xs,e⟩:=(I.same (M.trans g2)).some;exact(Za e nL).symm
   exists _,Z,p,6,Z,I.same gA,VZ (by decide) (by decide)
   intro q g q0 q1 W5 U;let⟨vv,ev,mv⟩:=Nv (xs:=[V.int 0,.int 1,.str "v",.str "",.ref t1,.ref t2]) q0 q1;refine .inl ⟨L,_,_,vv,Z,Z,ZG.of (U L _ ZP c4),ev,YX,λR nR=>?_⟩;let C:=Zc nR (.tup [v,vv]);let a3:∀ b o,H4 b=some o->b≠p->upd g R (.tup [v,vv]) b=some o:=λb o e n=>C b o (U b o (gA b o e) n);let a7:YC H4 (upd g R (.tup [v,vv])):=λb ys e=>ZC.tups C b ys (U.tupsW (I.same gA) b ys (ZC.tups gA b ys e));let l:=a3 D _ a m;let c2:t1≠p:=by let⟨xs,e⟩:=I.some;exact(Za e n1).symm
   let c3:t2≠p:=by let⟨xs,e⟩:=(I.same M).some;exact(Za e n2).symm
   let⟨tv,c0,a8⟩:=Ed (H:=upd g R (.tup [v,vv])) (C _ _ (U _ _ (g3 _ _ (g2 _ _ ZP)) c2)) (C _ _ (U _ _ (g3 _ _ ZP) c3)) mv;exists D,y,_,Z,Z,l,YL ∅
   let tD:YC (upd g R (.tup [v,vv])) (upd (upd g R (.tup [v,vv])) D (.lst (y++[.ref R]))):=(ZH.refl D _).upd.tups l;refine⟨_,y++[.ref R],G++[(t,tv)],Z,λb o e n=>?_,B (W5.same C) m,ZP,?_,λz hz=>?_,?_,by simp;lia⟩
   ·rw[ZM (Za e Y)];exact a3 b o (O b o e n) n
   ·let e1:Yk (G++[(t,tv)])=Yk G++[LD (t,tv)]:=by unfold Yk;rw[yX];rfl
    rw[e1];exact((a5.mono a7 _ _).mono tD _ _).append (.cons (.tup (tD _ _ ZP) (.cons ((kv.mono a7 _ _).mono tD _ _) (.cons (c0.mono tD _ _) .nil))) .nil)
   ·rcases zJ.mp hz with h | h
    ·exact fU z h
    ·rw[zM.mp h];exact⟨fv,a8⟩
   ·let e2:(gt.drop (4 * b.toNat))[i]? = some t:=by rw[List.getElem?_drop];exact et
    rw[yX,yP,e2];exact sU.append (wP.refl _)
  ·exact⟨_,y,G,Z,O,I,a,a5,fU,sU.trans (by rw[yP];exact rH _ _),∅⟩
 ·rintro σ S ⟨x,y,G,rfl,s3,W3,J,kU,fU,sU,lU⟩;exists _,Z,(by show 0<=ap;decide)
  intro d c5;let M:=Zc c5 (.lst []);exists D,d,y,Z,Z,ZG.of (M _ _ J),ZG.of ZP,_,Z;let I:=W3.same M;let s4:ZH p H (upd S d (.lst [])):=s3.trans (ZH.of M);let a:=M _ _ J
  cases y with
  | cons u ur=>
   refine Zp ⟨_,Z,?_⟩;exact k D _ G _ s4 I Y a (kU.sm M) fU ((sU.trans (rR _ _)).trans (List.drop_sublist _ _)) (by simp) lU
  | nil=>
   refine YJ ?_;let a4:upd S d (.lst []) N=some (.lst X):=s4 N _ hg a0;refine⟨_,Z,.inl ⟨Z,_,ZG.of a⟩,_,Z,_,Z,_,_,Z,Z,.inl ⟨by decide,by decide⟩,_,Z,p,4,Z,I,VZ (by decide) (by decide),λr g r0 r1 W5 U=>⟨_,_,Z,Z,?_⟩⟩
   let a2:=s4.trans U;let ej:(4:Int) * b+r=((4 * b.toNat+r.toNat:Nat):Int):=∅
   let⟨v,t,av,kv,fv,et⟩:=a6 g (4 * b.toNat+r.toNat) a2 ∅
   refine .inl ⟨N,X,_,v,Z,Z,ZG.of (a2 N _ hg a0),(by rw[ej];exact av),YX,λR nR=>?_⟩
   let C:=Zc nR (.tup [v,.str "w"]);let l:=C _ _ (U D _ a m);exists D,[],_,Z,Z,l,YL (by decide)
   let tD:YC (upd g R (.tup [v,.str "w"])) (upd (upd g R (.tup [v,.str "w"])) D (.lst ([]++[.ref R]))):=(ZH.refl D _).upd.tups l;refine⟨_,Z,k D [.ref R] [(t,.str "w")] _ (λb o e n=>?_) (B (W5.same C) m) Y ZP ?_ (λz hz=>?_) (rM.mpr (zG et)) (by simp) (by simp)⟩
   ·rw[ZM (Za e Y)];exact C b o (a2 b o e n)
   ·exact .cons (.tup (tD _ _ ZP) (.cons ((kv.sm C).mono tD _ _) (.cons (.str _) .nil))) .nil
   ·rw[zM.mp hz];exact⟨fv,show (KT.str "w").fits 3=true by decide +kernel⟩
inductive VC(b:jf)(H:Hp)(Q:VK)(_:XK):Prop
 |mk(i:Int)(_:b=[.int i,.int i])(_:∀ a,ZC H a->Q (.bl true) a)
def ZMY:ZB zEc zEc (Zf J0):=Z4
def ZKs(F:Zn K "_law_count" "_law_count" J0 f fd)(T:YR mg):ZN P w K mg kf ZY 1 f fd zEc VC:=by
 refine F.ok ZMY (λc H Q E h=>?_) (λb A a s H c Q E e h=>?_)
 ·let⟨i,rfl,_⟩:=h;rfl
 let⟨i,rfl,k⟩:=h;intro d;refine⟨_,ZW (Zr (Ug (Zy X3 rfl T.isi X8 (Zh (pv 0) (Zh (X6 (v:=.ty "int") rfl T.int Uy rfl) Zw)))
   (Ug (Hi (Zy X3 rfl T.isi X8 (Zh (pv 0) (Zh (X6 (v:=.ty "bool") rfl T.bool NF rfl) Zw)))) (Qn (VA Wp (pv 0) (pv 1) (Z0 _)))))),?_⟩
 refine⟨_,Z,_,_,_,_,Z,.int i,Oe,_,Z,YJ ?_⟩;refine⟨_,Z,_,_,_,_,Z,.int i,Nu,_,Z,_,Z,YJ ?_⟩;exists _,Z,_,Z,Z;rw[aJ rfl];exact k H (ZC.refl H)
inductive Yy(c:jf)(H:Hp)(Q:VK)(_:XK):Prop
 |mk(p l:aj)(a:jf)(_:c=[.ref p,.ref l])(_:ZJ H p)(_:l≠p)(_:H l=some (.lst a))(_:0<a.length)(_:a.length<=900)(_:∀(x:V)(b:Hp),ZH p H b->ZJ b p->x∈a->Q x b)
def ZKz:ZB zEq zEq (Zf KP):=Z4
def AL(F:Zn K "_law_picked" "_law_picked" KP f fd)(T:YR mg)(e:ZD P w K mg kf 1 "_law_pull" zEd Yb):ZN P w K mg kf ZY 2 f fd zEq Yy:=by
 refine F.ko ZKz λj A b s H B Q E n h=>?_;let⟨p,l,a,rfl,W,q,c,y,z,k⟩:=h;intro v;exists _,ZW (Zr (Zi K (pv 1) (Zm e n (Zj (pv 0) (Zy WH rfl T.len Xh (Zh (pv 1) Zw))))));exists _,Z,_,Z,_,Z,l,a,Z,.inl (ZG.of c),p,(a.length:Int),Z,W,VZ ∅ (xJ (show ((a.length:Int)).natAbs<=900 by lia) (by decide))
 intro r g t u i d;let⟨x,m,o⟩:=Nv (xs:=a) t u;exact .inl ⟨l,a,r,x,Z,Z,ZG.of (d l _ c q),m,k x g d i o⟩
end Tw
namespace L2
open PySem PySem.Spec PyProof.Rows
section
variable{T:String}{r d:aj}{n:Nat}{P:Nat->ai->Prop}{OK:aC->Prop}
def CF{R:Result->ak->Prop}(K:sR prog w T r d n P OK)(l:A.handled=none)(h:OK s.heap)(S:aj)(g:S≠r)(f:S≠d)(c:Nat)(k:s.heap.get? S=some { cls:=.type "list",data:=.seq #[] c })(j:∀ e p a i,(∀ b o,b≠S->s.heap.get? b=some o->e.get? b=some o)->e.get? S=some { cls:=.type "list",dict:=none,data:=.seq a i,slots:=#[] }->ItemsOf P a n->R (.ok (.ret (.ref S))) { s with heap:=e,toks:=p })(m:n<=ap):
  codeAny (az prog w) A (.builtin "list.__iadd__" ⟨[.ref S,.ref r],[]⟩) R s:=by
 refine codeAny_builtin PySem.F.entry_list_iadd ?_;rw[Around.under_plainId qQ _];exact PySem.W.kdl_extend (R:=R) K l h S g f (.ref S) c k j m
def ZGf{Q:je->ak->Prop}(K:sR prog w T r d n P OK)(q:A.handled=none)(j:OK s.heap)(u:n<=ap)(m:∀ f k a,(∀ b o,s.heap.get? b=some o->f.get? b=some o)->s.heap.objs.size<f.objs.size->ItemsOf P a n->Q a.toList { s with heap:=f,toks:=k }):aA (az prog w) A (collect (.ref r)) Q E s:=by
 let i:=K.there _ j;unfold collect;refine aa (wpAny_runValue (codeAny_builtin PySem.F.entry_proto_collect ?_));rw[Around.under_plainId PySem.F.plain_proto_collect _];show aA _ A.in1 (newList [] >>= λl=>again (.builtin "list.__iadd__" ⟨[l,.ref r],[]⟩)) _ _ s;refine aa (wpAny_newObj_type ?_);let p:(s.heap.push { cls:=.type "list",data:=.seq ([]:je).toArray }).get? s.heap.objs.size=some { cls:=.type "list",data:=.seq #[] 0 }:=yS _ Z;refine ad ⟨plainId_quiet qQ _,CF (s:={ s with heap:=s.heap.push { cls:=.type "list",data:=.seq ([]:je).toArray } }) K q (K.keep _ _ j λb _ o e=>zP _ e) s.heap.objs.size (wK i.1) (wK i.2) _ p (λf k c v t g h=>?_) u⟩;show aA _ A (load s.heap.objs.size >>= _) _ _ _;refine aa (wpAny_load g ?_);exact ad (m f k c (λb o e=>t b o (zK (zU e)) (zP _ e)) (zU g) h)
def ZH6{Q:ja}{ns:jA}(K:sR prog w T r d n P OK)(I:A.handled=none)(t:OK s.heap)(J:n<=ap)(F:∀ f,ItemsOf P f n->IntsAre f.toList ns)(q:n<64)(L:ns.Pairwise (· <= ·))(G:∀ p x a g c,(∀ b o,s.heap.get? b=some o->p.get? b=some o)->s.heap.objs.size<=a->IntsAre g ns->p.get? a=some { cls:=.type "list",data:=.seq g.toArray c }->Q (.ref a) { s with heap:=p,toks:=x }):
  aA (az prog w) A (call (.builtin "sorted") [.ref r]) Q E s:=by
 refine Calls.call_function_entry kind_sorted plain_sorted entry_sorted (args_sorted1 _) ?_;unfold Builtin.«sorted»;refine aa (m:=checkCount "sorted" 1 1 _) (ad ?_);refine aa (ZGf K I t J λj x f M u h=>?_);let D:=F f h;let k:f.toList.length<64:=by rw[wR,h.1];exact q
 refine aa (wpAny_newList ?_ (hsz:=xV (YL ∅)))
 let i:(j.push (seqObj "list" f.toList.toArray 0)).get? j.objs.size=some (seqObj "list" f.toList.toArray 0):=yS _ Z;refine aa (af (wpAny_call_entry slot_list_sort ⟨_,i,rfl⟩ entry_list_sort (list_sort_tree i D k λg v y z B=>⟨_,Z,?_⟩) (args_list_sort _)));refine ad ⟨_,Z,?_⟩;let e:v=ns:=vX.eq_of_pairwise (le:=(· <= ·)) (λa b _ _ j C=>Int.le_antisymm j C) B L z;subst e;let⟨c,H⟩:=sortedHeap_at (vs:=f.toList) (out:=g) i;refine G _ x j.objs.size g.toList c (λb o e=>?_) (xV u) y (by rw[qB];exact H)
 let l:=M b o e;rw[sortedHeap_old (zK (zU l)) (by rw[size_push'];exact wG (zU l))]
 exact zP _ l
end
def ZJ7:∀{c:List (ZR×V)}{g:jR}{d:jA},KV c g->c.map (·.1)=d.map Sum.inl->∀ b:je,b.length=g.length->(∀(i:Nat)(v:ai),b[i]? = some v->∃(k:ZR)(x:ai),g[i]? = some (k,x)/\PV k v=true)->IntsAre b d:=by
 intro c g d h e b l p;let f:=KV.keys h;rw[e] at f;clear e h
 induction g generalizing d b with
 | nil=>
  cases b with
  | nil=>
   cases d with
   | nil=>exact .nil
   | cons _ _=>simp at f
  | cons _ _=>simp at l
 | cons q r y=>
  cases b with
  | nil=>simp at l
  | cons a b=>
   cases d with
   | nil=>simp at f
   | cons n d=>
    simp only[yT,List.cons.injEq] at f;let⟨k,x,o,u⟩:=p 0 a Z;simp only[List.getElem?_cons_zero,zB.injEq] at o;subst o;let j:Sum.inl n=k:=f.1;subst j;obtain⟨i,t,m,s⟩ | ⟨i,t,m,s⟩:=QN u
    ·cases m;subst s;exact .cons _ _ (y b (by simpa using l) (λi v w=>by simpa using p (i+1) v (by simpa using w)) f.2)
    ·cases m
def Cy:∀{b:je}{a:jA},IntsAre b a->ZT (a.map V.int) b:=λh=>J7 h
def nn'{n:Nat}(h:n<64):n<=sizeLine:=xV (YL ∅)
def Qb:ax "sorted" = some (.builtin "sorted"):=by decide +kernel
inductive OX(d:jf)(H:Hp)(Q:VK):Prop
 |mk(a:aj)(b:List (ZR×V))(c:jA)(_:d=[.ref a])(_:H a=some (.dK b))(_:b.map (·.1)=c.map Sum.inl)(_:c.Pairwise (· <= ·))(_:c.length<64)(_:∀ p,H p=none->Q (.ref p) (upd H p (.lst (c.map V.int))))
def Pd(D:X.calm=true):VL X (.builtin "sorted") OX:=by
 intro t s T H S R Q I r h;let⟨a,g,j,rfl,C,l,F,f,q⟩:=h;let⟨u,rfl,K⟩:=VO r;cases K;let⟨z,J,M,n,A⟩:=NG I.hok C;let O:j.length=g.length:=by have:=congrArg yD l;simpa using this.symm
 let P:=KV.length n;let⟨x,y⟩:=A.dictAt;refine ZH6 (ns:=j) (PySem.W.kdl_dict (knd:=We X.prog X.w) (kvs:=M) (ep:=x) J) (I.ok.hd D) y ∅ (λd b=>ZJ7 n l d.toList (by rw[wR];exact b.1) λi v e=>?_) ∅ F λN L p k c G m B E=>?_
 ·exact b.2 i v (by rw[<-rO];exact e)
 ·exact⟨.ref p,_,I.laid (a:=p) (o:=.lst (j.map V.int)) (t':=L) G m ⟨by rw[zX];exact nn' f,k,c,Cy B,E⟩,Z,q p (I.hok.fresh m)⟩
section
variable{ke:js}{σ:St}{H:Hp}
end
def AM:typeLookup (.type "list_reverseiterator") "__len__" = pure none:=by rw[typeLookup_type,builtinLookup_eq_fast];kernel_rfl
def Ew:typeLookup (.type "list_reverseiterator") "__length_hint__" = pure (some (.builtin "list_reverseiterator.__length_hint__")):=by rw[typeLookup_type,builtinLookup_eq_fast];kernel_rfl
def D8:isSubtype (.type "list_reverseiterator") (.type "list_reverseiterator")=pure true:=by rw[isSubtype_type];kernel_rfl
def Aj{r:aj}{Q:Bool->ak->Prop}(d:s.TypeIs (.ref r) "list_reverseiterator")(h:Q false s):aA (az prog w) A (Builtin.List.listLengthHint (.ref r)) Q E s:=by
 unfold Builtin.List.listLengthHint;refine aa (wpAny_specialOf d AM ?_)
 wp_delta
 refine wpAny_ite_split (λa=>absurd a (by decide +kernel)) (λ_=>?_)
 refine wpAny_ite_split (λa=>absurd a (by decide)) (λ_=>?_)
 refine aa (wpAny_specialOf d Ew ?_);generalize c:("list_reverseiterator.__length_hint__" : String)=e
 wp_delta
 rw[show splitId e=some ("list_reverseiterator","__length_hint__") from by subst c;decide +kernel]
 subst c;refine aa (wpAny_isInstance (T:= "list_reverseiterator") (b:=true) d D8 ?_);refine wpAny_ite_split (λa=>absurd a (by decide)) (λ_=>?_)
 refine wpAny_ite_split (λ_=>?_) (λa=>absurd (by decide +kernel) a)
 refine wpAny_ite_split (λa=>absurd a (by decide)) (λ_=>?_)
 exact ad h
def ZGB{l d:aj}{items:jv}{Q:ja}(hh:A.handled=none)(J:s.heap.IsRevIter d l ((items.size:Int)-1))(hl:s.heap.IsList l items)(L:l≠d)(hn:items.size<=ap)(Y:∀ D B a C,(∀ b o,b≠d->s.heap.get? b=some o->D.get? b=some o)->D.get? s.heap.objs.size=some { cls:=.type "list",dict:=none,data:=.seq a C,slots:=#[] }->ItemsOf (λi v=>items[items.size-1-i]? = some v) a items.size->Q (.ref s.heap.objs.size) { s with heap:=D,toks:=B }):
  aA (az prog w) A (call (.type "list") [.ref d]) Q E s:=by
 let⟨oi,n,P⟩:=id J;let⟨ol,p,R⟩:=id hl;let N:=zU n;let O:=zU p;refine callType_codes (Q₁:=λx m=>x=.ref s.heap.objs.size/\m={ s with heap:=s.heap.push { cls:=.type "list",data:=.seq #[] } }) PySem.F.called_list (PySem.F.typeCall_list_1 _) PySem.F.entry_list_init
  (code_list_new _ ⟨rfl,rfl⟩) λx m u=>?_
 let⟨rfl,rfl⟩:=u;let z:(s.heap.push { cls:=.type "list",data:=.seq #[] }).get? s.heap.objs.size=some { cls:=.type "list",data:=.seq #[] }:=yS _ Z;exists ⟨_,z,Z⟩,PySem.F.args_list_init_2 _ _;show aA _ _ (do let old<-Builtin.List.listItems (.ref s.heap.objs.size);Builtin.List.listUpdate (.ref s.heap.objs.size) (λ_=>#[]);letGo old.toList.reverse;Builtin.List.listExtendWith (.ref s.heap.objs.size) (.ref d) .none) _ _ _
 refine aa ?_;unfold Builtin.List.listItems;refine aa (wpAny_seqItems z Z (ad ?_));show aA _ _ (updateSeq s.heap.objs.size (λ_=>#[]) >>= λ_=>letGo (#[]:jv).toList.reverse >>= λ_=>Builtin.List.listExtendWith (.ref s.heap.objs.size) (.ref d) .none) _ _ _;refine aa (wpAny_updateSeq z Z ?_);let g:=wX (Obj.mapSeq (λ_=>(#[]:jv))) z Z;let k:∀ b o,s.heap.get? b=some o->((s.heap.push { cls:=.type "list",data:=.seq #[] }).update s.heap.objs.size (Obj.mapSeq (λ_=>(#[]:jv)))).get? b=some o:=
  λb o e=>(xZ _ _ (Ne.symm (zK (zU e)))).trans (zP _ e)
 refine aa (wpAny_letGo ?_);generalize (s.heap.push { cls:=.type "list",data:=.seq #[] }).update s.heap.objs.size (Obj.mapSeq (λ_=>(#[]:jv)))=S at g k⊢;let c:S.IsRevIter d l ((items.size:Int)-1):=⟨oi,k _ _ n,P⟩;let K:S.IsList l items:=⟨ol,k _ _ p,R⟩;let q:s.heap.objs.size≠d:=wK N;let H:s.heap.objs.size≠l:=wK O;let M:∀(h:aC)(f B:Nat),h.IsRevIter d l ((items.size:Int)-1)->h.IsList l items->(∀ b o,s.heap.get? b=some o->h.get? b=some o) ->
   h.get? s.heap.objs.size=some { cls:=.type "list",data:=.seq #[] f }->codeAny (az prog w) A.in1 (.builtin "list.extend.loop" ⟨[.ref s.heap.objs.size,.ref d,.none],[]⟩) (wants (λr y=>r=Value.none/\Q (.ref s.heap.objs.size) y) E) { s with heap:=h,toks:=B }:=by
  intro h f B k1 k2 k3 k4;refine codeAny_extend_loopS (A:=A.in1) (Walks.listRev (A:=A.in1.in1) hh d l L items).toS hn s.heap.objs.size (by simp[q,H]) .none items.size 0 _ #[] f Z (zF _) ⟨zF _,by simpa using k1,k2⟩ k4 (ItemsOf.nil _) λV a C U G t=>?_
  rw[Moved.eq_with U];refine⟨Z,Y V.heap V.toks a C (λb o hb e=>U.heap b o (λj=>?_) (k3 b o e)) G t⟩;rcases zC.mp j with W | j
  ·exact absurd (zU e) (by rw[W];exact xH _)
  ·exact hb (zM.mp j)
 unfold Builtin.List.listExtendWith;refine aa (wpAny_typeOf (T:= "list_reverseiterator") c.typeIs ?_);let X:Builtin.List.listSameRef (.ref s.heap.objs.size) (.ref d)=false:=by simp[Builtin.List.listSameRef,q]
 simp only[X,show (Value.type "list_reverseiterator" == Value.type "list")=false from rfl,show (Value.type "list_reverseiterator" == Value.type "tuple")=false from rfl,Bool.or_false,wS,if_false];refine aa (wpAny_pyIter_revIter c ?_);refine aa (af (Aj c.typeIs ?_));refine wpAny_ite_split (λI=>absurd I (by decide)) (λ_=>ad ⟨plainId_quiet PySem.F.plain_extend_loop _,M _ _ _ c K k g⟩)
def Bk:ax "reversed" = some (.type "reversed"):=by decide +kernel
def BG{b:je}:∀{a:jv},ItemsOf (λi v=>b.toArray[b.toArray.size-1-i]? = some v) a b.toArray.size->a.toList=b.reverse:=by
 intro a h;refine List.ext_getElem? λi=>?_;let d:a.size=b.length:=by simpa using h.1
 by_cases c:i<b.length
 ·let e:a.toList[i]? = some a[i]:=by simp[d,c]
  let f:=h.2 i a[i] (by simp[d,c])
  rw[e,List.getElem?_reverse c,<-f];simp
 ·rw[uT (by simp;lia),uT (by simp;lia)]
inductive UY(K:zZ)(Q:VK)(x:V)(a:Hp):Prop
 |mk(l b:_)(_:x=.ref l)(_:ZG K a l b)(_:∀ q,a q=none->Q (.ref q) (upd a q (.lst b.reverse)))
def BK(K:zZ)(b:TE):TE:=λc H Q=>b c H λx a=>UY K Q x a
def ZT.rev:∀{c:jf}{b:je},ZT c b->ZT c.reverse b.reverse:=by
 intro c b r
 induction r with
 | nil=>exact .nil
 | cons a r d=>rw[List.reverse_cons,List.reverse_cons];exact d.append (.cons a .nil)
def Ab{e:Expr}{B:TE}{V t p f:aH}(E:X.calm=true)(F:PE X e B)(G:Gl X "list")(L:Gl X "reversed")(S:X.mg "list" = none)(T:X.mg "reversed" = none)(k:aq [.Call (.Name "reversed" t) [e] [] f] X.env=(false,aF (.Call (.Name "reversed" t) [e] [] f) X.env)::aq [] X.env:=by rfl)(m:aq [e] X.env=(false,aF e X.env)::aq [] X.env:=by rfl):
  PE X (.Call (.Name "list" V) [.Call (.Name "reversed" t) [e] [] f] [] p) (BK X.K B):=by
 intro n s σ H Q I h;refine ag (Pm I G S Vw ?_);refine PyProof.Rows.callWith_type1 ?_ k Z;rw[k];refine Calls.spliced_cons (ag (Pm I L T Bk ?_));refine PyProof.Rows.callWith_type1 ?_ m Z;rw[m];refine Calls.spliced_cons (Zz (F n s σ H _ I h) λu g ⟨x,H1,r,Y,l,xs,D,J,q⟩=>Calls.spliced_nil ?_);subst D;cases Y;let⟨d,z,W,M⟩:=r.list J;let y:=W.isList;let ll:=z.length;let⟨U,j,v⟩:=id y;refine call_reversed_list y (Calls.spliced_nil ?_);let R:=zU j;refine ZGB (s:={ g with heap:=g.heap.push (revObj l ((d.toArray.size:Int)-1)) }) (items:=d.toArray) (r.ok.hd E) ⟨_,yS _ Z,Z,Z⟩ ⟨U,zP _ j,v⟩ (zK R) (by simp;lia) λh' tk i c N O P=>?_
 let A:(g.heap.push (revObj l ((d.toArray.size:Int)-1))).objs.size=g.heap.objs.size+1:=vU _ _;let C:i.toList=d.reverse:=BG P;refine⟨.ref (g.heap.push (revObj l ((d.toArray.size:Int)-1))).objs.size,_,r.laid (a:=(g.heap.push (revObj l ((d.toArray.size:Int)-1))).objs.size) (o:=.lst xs.reverse) (t':=tk) (λb o w=>N b o (zK (zU w)) (zP _ w)) (by rw[A];exact yB _) ⟨by rw[sK];exact M,i.toList,c,by rw[C];exact ZT.rev z,by rw[qB];exact O⟩,Z,q _ (r.hok.fresh (by rw[A];exact yB _))⟩
inductive UW(a:zZ)(x y:V)(H:Hp)(Q:VK):Prop
 |mk(p b c:_)(_:x=.ref p)(_:y=.ref b)(_:ZG a H p c)(_:ZG a H b [])(_:Q (.bl (!c.isEmpty)) H)
def Ms(f:X.A.units<cLine):Yv X (ay .NotEq) (UW X.K):=by
 intro l s J H x y v u Q I C D h;let⟨p,b,E,rfl,rfl,c,o,q⟩:=h;cases C;cases D;let⟨d,z,i,F⟩:=I.list c;let⟨a,B,k,G⟩:=I.list o;let g:=z.length;let t:=B.length;let n:a=[]:=wL (by rw[<-t];rfl)
 subst n
 cases E with
 | nil=>
  let m:d=[]:=wL (by rw[<-g];rfl)
  subst m;exact PySem.SeqAt.RcNeAt.lists (e:=λ_=>true) i.isList k.isList Z f (λj c _=>absurd c (by simp)) X.prog X.w X.xe _ (Ys I q (by simp))
 | cons x r=>exact PySem.SeqAt.RcNeAt.lists_lengths i.isList k.isList (by simp;intro e;subst e;simp at g) f X.prog X.w X.xe _ (Ys I q Z)
end L2
namespace Tw
open PySem PySem.Spec L2 PyProof.Rows
variable{jZ kd CS CT CH CK CP CB:aj}
structure ZK where
 h:Nat
 rows:jE
 bs:jo
abbrev jq:=List ZK
def ZK.d:ZK:=⟨0,[],[]⟩
def gd(a:jq)(i:Nat):ZK:=a.getD i .d
def ZPB{a:jq}{i:Nat}{t:ZK}(h:a[i]? = some t):gd a i=t:=by
 unfold gd;rw[zV,h];rfl
def Ym{a:jq}{i:Nat}(h:i<a.length):a[i]? = some (gd a i):=by
 unfold gd;rw[zV,zW h];rfl
structure Zt(gt:jp)(ts:jq)(i:Nat)(t:ZK):Prop where
 ne:t.rows≠[]
 up:(t.rows.map (·.1)).Pairwise λa b=>a.lt b=true
 inn:∀ r∈t.rows,r.1∈gt/\r.fit
 leaf:t.h=0->t.bs=[]/\t.rows.length<=4
 stem:t.h≠0->2<=t.bs.length/\t.bs.length<=4/\(∀ b∈t.bs,b<ts.length/\(gd ts b).h+1=t.h)/\t.rows=t.bs.flatMap λb=>(gd ts b).rows
def WF(gt:jp)(a:jq):Prop:=∀ i t,a[i]? = some t->Zt gt a i t
def Lc:∀{gt l:jp},gt.Pairwise (λa b=>a.lt b=true)->l.Pairwise (λa b=>a.lt b=true)->(∀ x∈l,x∈gt)->l.length<=gt.length
 | [],[],_,_,_=>zY _
 | [],x::_,_,_,h=>absurd (h x zT) (by simp)
 | g::gt,l,hg,hl,h=>by
  let c:=wD.mp hg;by_cases j:g∈l
  ·cases l with
   | nil=>simp at j
   | cons x l=>
    let d:=wD.mp hl;let n:x=g:=by
     rcases zC.mp j with e | e
     ·exact e.symm
     ·rcases zC.mp (h x zT) with i | i
      ·exact i
      ·let k:=d.1 g e;let m:=c.1 x i;have:=P7 _ _ k;rw[m] at this;cases this
    have:l.length<=gt.length:=Lc c.2 d.2 λy f=>by
     rcases zC.mp (h y (zI _ f)) with e | e
     ·have:=d.1 y f;rw[n,e] at this;let z:=P7 _ _ this;rw[this] at z;cases z
     ·exact e
    rw[yV,yV]
    lia
  ·have:l.length<=gt.length:=Lc c.2 hl λy f=>by
    rcases zC.mp (h y f) with e | e
    ·exact absurd (e ▸ f) j
    ·exact e
   rw[yV]
   lia
def Zt.len{gt:jp}{f:jq}{i:Nat}{t:ZK}(h:Zt gt f i t)(c:gt.Pairwise λa b=>a.lt b=true):t.rows.length<=gt.length:=by
 have:=Lc c h.up λx e=>by
  let⟨r,d,rfl⟩:=zE.mp e;exact(h.inn r d).1
 rwa [zX] at this
def kindOf(t:ZK):Str:=if t.h=0 then "leaf" else "stem"
inductive MH(H:Hp)(t:ZK)(v:V):Prop
 |mk(d c a:_)(_:v=.ref d)(_:H d=some (.tup [.str (kindOf t),.ref c]))(_:H c=some (.lst a))(_:t.h=0->jU H (Yk t.rows) a)(_:t.h≠0->a=t.bs.map λb=>V.int (b:Nat))
structure Lv(ts:jq)(lv:jo):Prop where
 lt:∀ i∈lv,i<ts.length
 cl:∀ i∈lv,∀ b∈(gd ts i).bs,b∈lv
 up:lv.Pairwise (· < ·)
def Ve(H:Hp)(c:jq)(b:jo)(a:List (ZR×V)):Prop:=a.map (·.1)=b.map (λi:Nat=>(Sum.inl (i:Int):ZR))/\∀ i:Nat,i∈b->∃ v,Z5 a (Sum.inl (i:Int))=some v/\MH H (gd c i) v
def MH.same{H a:Hp}{t:ZK}{v:V}(h:MH H t v)(s:ZC H a):MH a t v:=by
 let⟨i,g,j,b,c,d,e,f⟩:=h;exact⟨i,g,j,b,s _ _ c,s _ _ d,λz=>(e z).sm s,f⟩
def Ve.same{H b:Hp}{d:jq}{c:jo}{a:List (ZR×V)}(h:Ve H d c a)(s:ZC H b):Ve b d c a:=⟨h.1,λi t=>by
 let⟨v,e,f⟩:=h.2 i t;exact⟨v,e,f.same s⟩⟩
def U0(c:jq)(a:jo):jE:=a.reverse.flatMap λb=>(gd c b).rows
def Px(c:jq)(a:jo):Nat:=(a.map λb=>5 ^ (gd c b).h).sum
def Fy{a:jq}{gt:jp}:∀{l:jo},(∀ b∈l,Zt gt a b (gd a b))->l.length<=(l.flatMap λb=>(gd a b).rows).length
 | [],_=>zY _
 | b::l,h=>by
  let e:=Fy (l:=l) λx d=>h x (zI _ d);let c:=h b zT;have:1<=(gd a b).rows.length:=wC.mpr c.ne;rw[xN,zH,yV]
  lia
def AR{l:jo}{c:Nat}(f:Nat->Nat):(∀ b∈l,f b=c)->(l.map f).sum=l.length * c:=by
 induction l with
 | nil=>intro _;simp
 | cons b l d=>
  intro h;rw[yT,tH,d (λx a=>h x (zI _ a)),h b zT,yV,Nat.succ_mul]
  lia
def A4{a:jq}{l:jo}{b:Nat}:Px a l<Px a (l++[b]):=by
 unfold Px;rw[yX,sW];have:0<5 ^ (gd a b).h:=Nat.pow_pos (by decide)
 simp
 try lia
def ZMX{a:jq}{gt:jp}{l:jo}{b:Nat}(k:Zt gt a b (gd a b))(j:(gd a b).h≠0):Px a (l++(gd a b).bs.reverse)<Px a (l++[b]):=by
 let⟨n,f,g,_⟩:=k.stem j;unfold Px;rw[yX,sW,yX,sW];let e:((gd a b).bs.reverse.map λb=>5 ^ (gd a b).h).sum=(gd a b).bs.length * 5 ^ ((gd a b).h-1):=by
  have:=AR (l:=(gd a b).bs.reverse) (c:=5 ^ ((gd a b).h-1)) (λb=>5 ^ (gd a b).h) λc i=>by
   have:=(g c (sP.mp i)).2;show 5 ^ (gd a c).h=_
   congr 1
   lia
  rw[this,sK]
 rw[e];let d:5 ^ (gd a b).h=5 * 5 ^ ((gd a b).h-1):=by
  have:(gd a b).h=((gd a b).h-1)+1:=∅
  rw[this,Nat.pow_succ,Nat.mul_comm];simp
 let m:0<5 ^ ((gd a b).h-1):=Nat.pow_pos (by decide)
 simp only[yT,wI,tH,List.sum_nil,Nat.add_zero];rw[d];have:(gd a b).bs.length * 5 ^ ((gd a b).h-1)<=4 * 5 ^ ((gd a b).h-1):=Nat.mul_le_mul_right _ f
 lia
def Wz(a:jq)(h:Nat):Nat:=(a.filter λu=>decide (h<u.h)).length
def ZO5(a:jq){h b:Nat}(d:h<=b):Wz a b<=Wz a h:=by
 unfold Wz
 induction a with
 | nil=>exact zY _
 | cons u a c=>
  rw[wT,wT];by_cases z:b<u.h
  ·rw[aM (aJ z),aM (aJ ∅),yV,yV]
   lia
  ·rw[aK (λy=>z (of_decide_eq_true y))];split
   ·rw[yV];lia
   ·exact c
def Ht(u:ZK)(a:jq)(h:Nat):Wz (u::a) h=(if h<u.h then 1 else 0)+Wz a h:=by
 unfold Wz;rw[wT];by_cases z:h<u.h
 ·rw[aM (aJ z),aM z,yV];lia
 ·rw[aK (λy=>z (of_decide_eq_true y)),aK z];lia
def GA:∀{a:jq}{t:ZK}{h:Nat},t∈a->h<t.h->Wz a t.h<Wz a h
 | u::a,t,h,hm,hh=>by
  rw[Ht,Ht];rcases zC.mp hm with z | z
  ·subst z;have:=ZO5 a (xV hh);rw[aK (xH _),aM hh]
   lia
  ·have:=GA z hh;by_cases y:t.h<u.h
   ·rw[aM y,aM ∅];lia
   ·rw[aK y];lia
def Nx{a:jq}{j h:Nat}(c:j<a.length)(b:h<(gd a j).h):Wz a (gd a j).h<Wz a h:=GA (zG (Ym c)) b
def Kg(a:jq)(h:Nat):Wz a h<=a.length:=vJ _ _
def VJ{H c:Hp}{a:aj}{o:HO}(s:ZC H c)(n:H a=none):ZC H (upd c a o):=λb u e=>by rw[ZM (Za e n)];exact s b u e
abbrev iN(l:jo):jf:=l.map λb=>V.int (b:Nat)
def GW(a b:jE):Yk (a++b)=Yk a++Yk b:=yX
structure XY(gt:jp)(H:Hp)(d:aj)(ts:jq)(lv:jo)(kvs:List (ZR×V)):Prop where
 dict:H d=some (.dK kvs)
 tws:Ve H ts lv kvs
 lv:Lv ts lv
 wf:WF gt ts
 len:gt.length=64
 up:gt.Pairwise λa b=>a.lt b=true
def XY.same{gt:jp}{H b:Hp}{d:aj}{e:jq}{c:jo}{a:List (ZR×V)}(h:XY gt H d e c a)(s:ZC H b):XY gt b d e c a:=⟨s _ _ h.dict,h.tws.same s,h.lv,h.wf,h.len,h.up⟩
def XY.at_{gt:jp}{H:Hp}{d:aj}{b:jq}{c:jo}{a:List (ZR×V)}(h:XY gt H d b c a){i:Nat}(e:i∈c):Zt gt b i (gd b i):=h.wf i _ (Ym (h.lv.lt i e))
def XY.get{gt:jp}{H:Hp}{d:aj}{a:jq}{j:jo}{g:List (ZR×V)}(h:XY gt H d a j g){i:Nat}(q:i∈j):∃ e c b,Zg H d (.int (i:Nat)) (some (.ref e))/\H e=some (.tup [.str (kindOf (gd a i)),.ref c])/\H c=some (.lst b)/\((gd a i).h=0->jU H (Yk (gd a i).rows) b)/\((gd a i).h≠0->b=iN (gd a i).bs):=by
 let⟨v,l,e,c,b,rfl,m,n,o,p⟩:=h.tws.2 i q;exact⟨e,c,b,l ▸ Zg.k (k:=Sum.inl (i:Int)) h.dict,m,n,o,p⟩
structure Xu(gt:jp)(H:Hp)(d:aj)(ts:jq)(lv:jo)(kvs:List (ZR×V)):Prop where
 dict:H d=some (.dK kvs)
 tws:∀ i:Nat,i∈lv->∃ v,Z5 kvs (Sum.inl (i:Int))=some v/\MH H (gd ts i) v
 cl:∀ i∈lv,∀ b∈(gd ts i).bs,b∈lv
 at_:∀ i∈lv,Zt gt ts i (gd ts i)
 len:gt.length=64
 up:gt.Pairwise λa b=>a.lt b=true
def XY.g{gt:jp}{H:Hp}{d:aj}{c:jq}{b:jo}{a:List (ZR×V)}(h:XY gt H d c b a):Xu gt H d c b a:=⟨h.dict,h.tws.2,h.lv.cl,λi e=>h.at_ e,h.len,h.up⟩
def Xu.same{gt:jp}{H b:Hp}{d:aj}{e:jq}{c:jo}{a:List (ZR×V)}(h:Xu gt H d e c a)(s:ZC H b):Xu gt b d e c a:=⟨s _ _ h.dict,λi k=>by
 let⟨v,g,j⟩:=h.tws i k;exact⟨v,g,j.same s⟩,h.cl,h.at_,h.len,h.up⟩
def Xu.get{gt:jp}{H:Hp}{d:aj}{a:jq}{j:jo}{g:List (ZR×V)}(h:Xu gt H d a j g){i:Nat}(q:i∈j):∃ e c b,Zg H d (.int (i:Nat)) (some (.ref e))/\H e=some (.tup [.str (kindOf (gd a i)),.ref c])/\H c=some (.lst b)/\((gd a i).h=0->jU H (Yk (gd a i).rows) b)/\((gd a i).h≠0->b=iN (gd a i).bs):=by
 let⟨v,l,e,c,b,rfl,m,n,o,p⟩:=h.tws i q;exact⟨e,c,b,l ▸ Zg.k (k:=Sum.inl (i:Int)) h.dict,m,n,o,p⟩
inductive WA(gt:jp)(h:jf)(H:Hp)(Q:VK)(_:XK):Prop
 |mk(d:aj)(n:Nat)(e:jq)(c:jo)(b:List (ZR×V))(_:h=[.ref d,.int n])(_:Xu gt H d e c b)(_:n∈c)(_:∀(a:Hp)(D:aj)(g:jf),ZC H a->H D=none->a D=some (.lst g)->jU a (Yk (gd e n).rows) g->Q (.ref D) a)
abbrev C4:jr:=["_law_twigs","_law_number","_law_todo","_law_found","_law_kind","_law_what"]
def VR:ZB C4 zEb (Zf K6):=Z4
def Ck{gt:jp}(F:Zn K "_law_rows_of" "_law_rows_of" K6 f fd)(T:YR mg)(Tr:mg "reversed" = none):ZN P w K mg kf ZY 1 f fd zEb (WA gt):=by
 refine F.ko VR λa6 A a5 s H vs Q E hr h=>?_;let⟨d,n,i,lv,a7,rfl,L,hn,k⟩:=h;let W:=VR.nd;let hu:=WZ hr;intro Xc;refine⟨_,ZQ (Zs 2 W (XH (ZV (pv 1)))) (ZQ (Zs 3 W (XH Zw))
  (ZQ (NX PassesOwn.never (YI (Ms hr.units0) (pv 2) (XH Zw) (Z0 _))
   (ZQ (Qc (Xt hu (pv 0) (LF yF rE rD Iw (pv 2))) (Qd rfl (Y7 (YZ 4 W) (Y7 (YZ 5 W) QV))))
   (ZW (Z1 (YI Wp (pv 4) X0 (Z0 _))
    (ZW (Zs 3 W (Z2 NE (pv 3) (WQ Ue rfl T.list Vw (ZV (pv 5))))))
    (ZW (Zs 2 W (Z2 NE (pv 2) (Ab rfl (pv 5) rfl rfl T.list Tr))))))))
  (ZW (Zr (pv 3))))),?_⟩
 refine⟨_,Z,YX,λj x=>⟨YX,λq p=>?_⟩⟩;let y:j≠q:=λz=>by rw[<-z,ZP] at p;cases p
 let M:H q=none:=by rw[ZM (Ne.symm y)] at p;exact p
 let a4:=(L.at_ n hn).len L.up;rw[L.len] at a4;refine⟨λm σ H'=>∃(j q:aj)(g:jo)(a:jE)(B:jf)(k4 k5:jg),m=Px i g/\σ=[some (.ref d),some (.int n),some (.ref j),some (.ref q),k4,k5]/\ZC H H'/\H j=none/\H q=none/\j≠q/\H' j=some (.lst (iN g))/\H' q=some (.lst B)/\jU H' (Yk a) B/\(∀ b∈g,b∈lv)/\a++U0 i g=(gd i n).rows,
  ⟨_,j,q,[n],[],[],none,none,Z,Z,VJ (Zc x _) M,x,M,y,by rw[ZM y];exact ZP,ZP,.nil,λb S=>by rw[zM.mp S];exact hn,by simp[U0]⟩,?_⟩
 rintro m σ H1 ⟨j,q,g,a,B,k4,k5,rfl,rfl,s1,x,p,y,a0,a3,hk,S,I⟩;exists _,Z,YX;intro e0 a2;let g0:=Zc a2 (.lst []);exists j,e0,iN g,Z,Z,ZG.of (g0 _ _ a0),ZG.of ZP,_,Z;let t:=g0 _ _ a0;let v:=g0 _ _ a3;let D:=hk.sm g0;let s2:=s1.trans g0;generalize upd H1 e0 (.lst [])=R at t v D s2⊢;let lf:a.length+(U0 i g).length=(gd i n).rows.length:=by rw[<-zH,I]
 let lt:g.length<=(U0 i g).length:=by
  have:=Fy (l:=g.reverse) λb h=>L.at_ b (S b (sP.mp h))
  rwa [sK] at this
 rcases tU g with z | ⟨rest,b,z⟩
 ·subst z;refine Zp ?_;let e1:a=(gd i n).rows:=by simpa [U0] using I
  rw[e1] at D;exact⟨_,Z,k R q B s2 p v D⟩
 ·rw[tV] at z;subst z;let a1:(!(iN (rest++[b])).isEmpty)=true:=by simp[iN]
  rw[a1];refine YJ ⟨_,λ_ _ z=>z,?_⟩;let bl:b∈lv:=S b (by simp)
  let eI:iN (rest++[b])=iN rest++[.int (b:Nat)]:=by simp[iN]
  exists _,Z,_,Z,.inl ⟨Z,_,ZG.of t⟩,j,iN (rest++[b]),.int (b:Nat),Z,Z,t,by rw[eI];simp
  let u:upd R j (.lst (iN (rest++[b])).dropLast) j=some (.lst (iN rest)):=by rw[ZP,eI,List.dropLast_concat]
  let r:upd R j (.lst (iN (rest++[b])).dropLast) q=some (.lst B):=by rw[ZM (Ne.symm y)];exact v
  let X:ZC H (upd R j (.lst (iN (rest++[b])).dropLast)):=VJ s2 x;let G:jU (upd R j (.lst (iN (rest++[b])).dropLast)) (Yk a) B:=D.mono (λc xs e=>by rw[ZM (ZI e t)];exact e) _ _
  generalize upd R j (.lst (iN (rest++[b])).dropLast)=H3 at u r X G⊢;let⟨tp,tl,Y,g1,e2,e3,e4,e5⟩:=(L.same X).get bl;let er:U0 i (rest++[b])=(gd i b).rows++U0 i rest:=by simp[U0]
  let lr:(U0 i (rest++[b])).length=(gd i b).rows.length+(U0 i rest).length:=by rw[er,zH]
  let a8:B.length=a.length:=by have:=G.length;rw[<-this];exact zX _
  exists d,.ref tp,Z,g1,tp,_,Z,Zb.of e2,Z,_,_,Z,_,_,Z,Z;exists _,Z,Z,_,Z;by_cases U:(gd i b).h=0
  ·let ek:decide (V.str (kindOf (gd i b))=V.str "leaf")=true:=aJ (by unfold kindOf;rw[aM U])
   rw[ek];let kk:=e4 U;let lw:Y.length=(gd i b).rows.length:=by have:=kk.length;rw[<-this];exact zX _
   refine YJ ⟨_,Z,_,Z,tl,Y,Z,.inl (ZG.of e3),λq1 n1=>?_⟩;let C:=Zc n1 (.lst Y);exists q,q1,B,Y,Z,Z,C _ _ r,ZP,xV (YL ∅)
   intro q2 J;let g5:=Zc J (.lst (B++Y));let o:=C.trans g5;let O:=ZC.free (X.trans C) J;let tq:j≠q2:=λz=>by rw[<-z,C _ _ u] at J;cases J
   exists _,A4,j,q2,rest,a++(gd i b).rows,B++Y,_,_,Z,Z,X.trans o,x,O,tq,o _ _ u,ZP,?_,λc N=>S c (yC _ N)
   ·rw[GW];exact(G.sm o).append (kk.sm o)
   ·rw[uF,<-er];exact I
  ·let ek:decide (V.str (kindOf (gd i b))=V.str "leaf")=false:=aI (by unfold kindOf;rw[aK U];decide)
   rw[ek];let ew:=e5 U;subst ew;let⟨h1,h2,h3,h4⟩:=(L.at_ b bl).stem U;refine Zp ⟨_,Z,_,Z,tl,_,Z,ZG.of e3,λq1 n1=>?_⟩;let C:=Zc n1 (.lst (iN (gd i b).bs).reverse);exists j,q1,iN rest,_,Z,Z,C _ _ u,ZP,xV (YL (by simp[iN];simp at lt;lia))
   intro q2 J;let g5:=Zc J (.lst (iN rest++(iN (gd i b).bs).reverse));let o:=C.trans g5;let O:=ZC.free (X.trans C) J;let fq:q2≠q:=λz=>by rw[z,C _ _ r] at J;cases J
   exists _,ZMX (L.at_ b bl) U,q2,q,rest++(gd i b).bs.reverse,a,B,_,_,Z,Z,X.trans o,O,p,fq,?_,o _ _ r,G.sm o,λc N=>?_
   ·rw[ZP];simp[iN]
   ·rcases zJ.mp N with N | N
    ·exact S c (yC _ N)
    ·exact L.cl b bl c (sP.mp N)
   ·rw[<-I,er,h4];simp[U0]
def Ej{a:jf}{j:Nat}{v:V}(b:1<=j)(c:j<=a.length)(h:a[a.length-j]? = some v):Xr a (-(j:Int))=some v:=by
 unfold Xr;let e:Uu a.length (-(j:Int))=some (a.length-j):=by
  unfold Uu;rw[aK ∅,aM ∅]
  congr 1
  lia
 rw[e];exact h
def rd:Xj:=(.int 0,.int 0)
def Zu(t:ZK):YN:=⟨t.h,(t.rows.getD 0 rd).1,(t.rows.getD (t.rows.length-1) rd).1,t.rows.length⟩
def P1{H:Hp}{c:jE}{j:jf}{i:Nat}{u:V}(h:jU H (Yk c) j)(e:j[i]? = some u):∃ a k l,c[i]? = some (c.getD i rd)/\u=.ref a/\H a=some (.tup [k,l])/\ZF H (c.getD i rd).1 k/\ZF H (c.getD i rd).2 l:=by
 let⟨t,d,f⟩:=h.get e;unfold Yk at d;rw[zS] at d;let⟨r,g,rfl⟩:=yO.mp d;let m:c.getD i rd=r:=by rw[zV,g];rfl
 unfold LD at f;rw[ZF] at f;let⟨a,x,rfl,n,b⟩:=f;rw[jU] at b;let⟨q,v,rfl,o,b⟩:=b;rw[jU] at b;let⟨s,w,rfl,p,b⟩:=b;rw[jU] at b;subst b;rw[m];exact⟨a,q,s,g,Z,n,o,p⟩
inductive YG(gt:jp)(g:jf)(H:Hp)(Q:VK)(_:XK):Prop
 |mk(d:aj)(n:Nat)(e:jq)(c:jo)(b:List (ZR×V))(_:g=[.ref d,.int n])(_:Xu gt H d e c b)(_:n∈c)(_:∀(a:Hp)(v:V),ZC H a->Z8 a (Zu (gd e n)) v->Q v a)
abbrev DZ:jr:=["_law_twigs","_law_number","_law_here","_law_high","_law_rows"]
def Vc:ZB DZ zEb (Zf J1):=Z4
def Bh{gt:jp}(F:Zn K "_law_label" "_law_label" J1 f fd)(T:YR mg)(DR:ZD P w K mg kf 1 "_law_rows_of" zEb (WA gt)):ZN P w K mg kf ZY 2 f fd zEb (YG gt):=by
 refine F.ko Vc λa2 A Y s H vs Q E hr h=>?_;let⟨d,n,a,lv,W,rfl,L,M,k⟩:=h;let o:=Vc.nd;let hu:=WZ hr;intro Xc;refine⟨_,ZQ (Zs 2 o (pv 1)) (ZQ (Zs 3 o ZO)
  (ZQ (NX PassesOwn.never (YI Wp (Zi K (Xt hu (pv 0) (pv 2)) ZO) X0 (Z0 _))
   (ZQ (Zs 2 o (Zi K (Zi K (Xt hu (pv 0) (pv 2)) ZO) ZO))
   (ZW (Zs 3 o (Z2 Wl (pv 3) ZO)))))
  (ZQ (Zs 4 o (Zm DR hr (Zj (pv 0) (pv 1))))
  (ZW (Zr (XB (OF (pv 3) (Zi K (Zi K (pv 4) ZO) ZO) (Zi K (Zi K (pv 4) (OI P4 ZO)) ZO) (Zy WH rfl T.len Xh (ZV (pv 4)))))))))),?_⟩
 exists _,Z;refine⟨λm σ H'=>∃(b i:Nat),m=(gd a b).h/\σ=[some (.ref d),some (.int n),some (.int (b:Nat)),some (.int (i:Nat)),none]/\H'=H/\b∈lv/\i+(gd a b).h=(gd a n).h,
  ⟨_,n,0,Z,Z,Z,M,∅⟩,?_⟩
 rintro m σ H1 ⟨b,i,rfl,rfl,rfl,v,hh⟩;let⟨u,tl,ws,g1,r,e3,e4,e5⟩:=L.get v;refine⟨_,Z,_,Z,d,.ref u,Z,g1,.inr (.inl ⟨u,_,0,_,rfl,rfl,Zb.of r,rfl,?_⟩)⟩;exists Z,_,Z;by_cases t:(gd a b).h=0
 ·let y:decide (V.str (kindOf (gd a b))=V.str "stem")=false:=aI (by unfold kindOf;rw[aM t];decide)
  rw[y];refine Zp ?_;exists _,Z,_,Z,d,n,a,lv,W,Z,L,M;intro H2 D e s2 nD I R;let p:=L.at_ n M;let l:e.length=(gd a n).rows.length:=by have:=R.length;rw[<-this];exact zX _
  let X:=p.len L.up;rw[L.len] at X;let g:0<e.length:=by rw[l];exact wC.mpr p.ne
  let B:e[0]? = some e[0]:=zW g;let C:e[e.length-1]? = some (e[e.length-1]'∅):=zW ∅
  let⟨a0,N,v0,r0,u0,t0,S,_⟩:=P1 R B;let⟨a1,O,v1,r1,u1,t1,U,_⟩:=P1 R C;rw[u0] at B;rw[u1] at C;refine⟨_,Z,_,Z,.inl ⟨D,e,0,.ref a0,Z,Z,ZG.of I,Xk (j:=0) B,.inr (.inl ⟨a0,_,0,N,rfl,rfl,Zb.of t0,rfl,?_⟩)⟩⟩;refine⟨_,Z,1,Z,.inl ⟨D,e,-1,.ref a1,Z,Z,ZG.of I,Ej (j:=1) (zY _) g C,.inr (.inl ⟨a1,_,0,O,rfl,rfl,Zb.of t1,rfl,?_⟩)⟩⟩;exists _,Z,D,e,Z,.inl (ZG.of I),YX;intro q nq;let G:=Zc nq (.tup [.int (i:Nat),N,O,.int (e.length:Nat)]);refine k _ _ (s2.trans G) ⟨q,N,O,Z,?_,S.sm G,?_⟩
  ·rw[ZP];let e1:(Zu (gd a n)).h=(i:Int):=by show ((gd a n).h:Int)=_;lia
   let r:(Zu (gd a n)).m=(e.length:Int):=by show ((gd a n).rows.length:Int)=_;lia
   rw[e1,r]
  ·let x:(Zu (gd a n)).hi=((gd a n).rows.getD (e.length-1) rd).1:=by rw[l];rfl
   rw[x];exact U.sm G
 ·let y:decide (V.str (kindOf (gd a b))=V.str "stem")=true:=aJ (by unfold kindOf;rw[aK t])
  rw[y];let ew:=e5 t;subst ew;let⟨h1,h2,h3,h4⟩:=(L.at_ b v).stem t;obtain⟨c,J⟩:∃ c,(gd a b).bs[0]? = some c:=⟨_,zW ∅⟩
  let a3:=h3 c (zG J);refine YJ ⟨_,λ_ _ z=>z,?_⟩;refine⟨_,Z,_,Z,d,.ref u,Z,g1,.inr (.inl ⟨u,_,1,_,rfl,rfl,Zb.of r,rfl,.inl ⟨tl,_,0,.int (c:Nat),rfl,rfl,ZG.of e3,Xk (j:=0) (by simp[iN,J]),?_⟩⟩)⟩
  exists _,Z,_,_,Z,Z;exact⟨(gd a c).h,∅,c,i+1,Z,by simp[List.set],Z,L.cl b v c (zG J),∅⟩
def abv(b:jq)(a:jo)(i:Nat):jo:=a.filter λj=>decide (i∈(gd b j).bs)
def Gn(x:Nat)(l:jo):ND (.int (x:Nat)) (iN l)=decide (x∈l):=by
 unfold ND iN;rw[List.any_map]
 induction l with
 | nil=>rfl
 | cons n l a=>
  rw[vW,a];let e:((λy=>Uz y (V.int (x:Nat))) ∘ λb:Nat=>V.int (b:Nat)) n=decide (n=x):=by
   show Uz (.int (n:Nat)) (.int (x:Nat))=_;rw[xD];simp[Uz]
   lia
  rw[e];by_cases h:n=x
  ·subst h;simp
  ·have:¬ x=n:=λz=>h z.symm;simp[h,this]
def Oj(l:jo):(iN l).all Qk=true:=by
 unfold iN;rw[wJ];exact yY.mpr λ_ _=>rfl
def No{J:It}{w:jo}{A:L2.St}{H:Hp}{y:TT}{Q:VK}(e:jo)(p:Nat->Bool)(F:e.length<=900)(s:∀ i a,ZC H a->i<e.length->J.go i a)(E:∀ i a x b,ZC H a->i<e.length->J.yld i a x b->b=a/\(iN e)[i]? = some x)(h:∀ a,ZC H a->J.stop e.length a)(o:∀ a n (R:Bool->Hp->Prop),n∈e->ZC H a->R (p n) a->y (Q2 A w (.int (n:Nat))) a R)(r:∀ (D:aj) (a:Hp),ZC H a->H D=none->a D=some (.lst (iN (e.filter p)))->Q (.ref D) a):Xs J A w y (VY 0) H Q:=by
 refine ZGE (n:=e.length) (λi z=>(iN e)[i]? = some z) (λz=>match z with | .int n=>p n.toNat | _=>false) (λD i f b=>ZC H b/\H D=none/\f=iN ((e.take i).filter p)) (YL ∅)
  (λD i f b j c=>s i b c.1 j) (λD i f b z B j c u=>E i b z B c.1 j u) (λD f b c=>h b c.1)
  (λD v=>⟨Zc v _,v,Z⟩) (λD i f b z j d c R C=>?_) (λD i f b z q j d t c=>?_) (λD i f b z q j d t c=>?_) (λD f b q c=>?_)
 ·unfold iN at d;rw[zS] at d;let⟨n,l,rfl⟩:=yO.mp d;exact o b n R (zG l) c.1 C
 ·let⟨m,k,rfl⟩:=c;unfold iN at d;rw[zS] at d;let⟨n,l,rfl⟩:=yO.mp d;exists VJ m k,k;let g:p n=true:=t;rw[yP,l,vO];simp[g,iN]
 ·let⟨m,k,rfl⟩:=c;unfold iN at d;rw[zS] at d;let⟨n,l,rfl⟩:=yO.mp d;exists m,k;let g:p n=false:=t;rw[yP,l,vO];simp[g]
 ·let⟨m,k,rfl⟩:=c;rw[yM (zY _)] at q;exact r D b m k q
def Qa{a:jo}(h:a.Pairwise (· < ·)):(a.map λi:Nat=>(i:Int)).Pairwise (· <= ·):=by
 rw[List.pairwise_map];exact h.imp λh=>by lia
inductive X5(gt:jp)(g:jf)(H:Hp)(Q:VK)(_:XK):Prop
 |mk(d:aj)(n:Nat)(e:jq)(c:jo)(b:List (ZR×V))(_:g=[.ref d,.int n])(_:XY gt H d e c b)(_:c.length<64)(_:∀(a:Hp)(D:aj),ZC H a->H D=none->a D=some (.lst (iN (abv e c n)))->Q (.ref D) a)
def UO:ZB zEb zEb (Zf KL):=Z4
def A8{gt:jp}(F:Zn K "_law_above" "_law_above" KL f fd)(T:YR mg):ZN P w K mg kf ZY 1 f fd zEb (X5 gt):=by
 refine F.ko UO λO A v s H vs Q E hr h=>?_;let⟨d,n,l,a,t,rfl,L,u,k⟩:=h;let nd:=UO.nd;let J:=WZ hr;intro Xc;refine⟨_,ZW (Zr (UD [0,1] zEb rfl (Y9 (Zy (Pd rfl) rfl T.sorted Qb (ZV (pv 0))))
  (λ_ _ _ _ _=>Q6 (PW.pt (Pk (YI Wp (Zi K (Xt J (pv 1) (pv 0)) ZO) X0 (Z0 _)) (NA (YI (r:=PM K false) ZI6 (pv 2) (Zi K (Xt J (pv 1) (pv 0)) ZO) rfl)))))
  (λ_ _ _ _ _=>pv 0) ⟨rfl,.inl rfl,rfl,rfl,.inl rfl,rfl,trivial⟩)),?_⟩
 exists _,Z,d,t,a.map λi:Nat=>(i:Int),Z,L.dict,(by rw[L.tws.1,yZ];rfl),Qa L.lv.up,by simpa using u
 intro p np;let W:(a.map λi:Nat=>(i:Int)).map V.int=iN a:=by rw[yZ];rfl
 rw[W];let⟨H1,X,o,e⟩:=Wc np (.lst (iN a));rw[X];refine⟨p,Z,⟨_,ZG.of e⟩,No a (λj=>decide (n∈(gd l j).bs)) ∅ (λi B b I=>⟨_,.int (a[i]:Nat),ZG.of (b _ _ e),by simp[iN,zW I]⟩) (λi B x H4 b I M=>⟨M.1,M.2 _ (ZG.of (b _ _ e))⟩) (λB b=>⟨_,ZG.of (b _ _ e),by simp[iN]⟩) (λz j R hj y q=>?_) (λD z y nD hD=>?_)⟩
 ·let N:j∈a:=hj;let⟨g,tl,ws,G,C,S,e4,U⟩:=(L.same (o.trans y)).get N;refine⟨_,Z,_,Z,d,.ref g,Z,G,.inr (.inl ⟨g,_,0,_,rfl,rfl,Zb.of C,rfl,?_⟩)⟩;exists Z,_,Z;by_cases c:(gd l j).h=0
  ·let m:decide (V.str (kindOf (gd l j))=V.str "stem")=false:=aI (by unfold kindOf;rw[aM c];decide)
   rw[m];let Y:=((L.at_ N).leaf c).1;rw[Y,aI (by simp)] at q
   exact Zp q
  ·let m:decide (V.str (kindOf (gd l j))=V.str "stem")=true:=aJ (by unfold kindOf;rw[aK c])
   rw[m];let ew:=U c;subst ew;refine YJ ⟨_,Z,_,Z,_,Z,d,.ref g,Z,G,.inr (.inl ⟨g,_,1,_,rfl,rfl,Zb.of C,rfl,?_⟩)⟩;exists tl,_,Z,.inl (ZG.of S),Z,Oj _,_,Z;rw[aK zR,Gn];exact q
 ·exact k z D (o.trans y) (ZC.free o nD) hD
inductive Sh(ts:jq)(lv:jo)(ho:Nat->Nat):Nat->jO->Prop
 | here {i:Nat}:(abv ts lv i).length+ho i≠1->Sh ts lv ho i (some i)
 | top {i:Nat}:(abv ts lv i).length+ho i=1->abv ts lv i=[]->Sh ts lv ho i none
 | up {i j:Nat} {r:jo} {o:jO}:(abv ts lv i).length+ho i=1->abv ts lv i=j::r->Sh ts lv ho j o->Sh ts lv ho i o
def Sh.uniq{j:jq}{f:jo}{e:Nat->Nat}{i:Nat}{o p:jO}(h:Sh j f e i o)(g:Sh j f e i p):o=p:=by
 induction h generalizing p with
 | here a=>
  cases g with
  | here=>rfl
  | top b=>exact absurd b a
  | up b=>exact absurd b a
 | top a b=>
  cases g with
  | here c=>exact absurd a c
  | top=>rfl
  | up _ c=>rw[b] at c;cases c
 | up a b _ k=>
  cases g with
  | here c=>exact absurd a c
  | top _ c=>rw[b] at c;cases c
  | up _ c d=>
   rw[b] at c;cases c;exact k d
inductive Zo(ts:jq)(lv:jo)(ho:Nat->Nat):Nat->jo->Prop
 | top {i:Nat}:(abv ts lv i).length+ho i=1->abv ts lv i=[]->Zo ts lv ho i [i]
 | up {i j:Nat} {l r:jo}:(abv ts lv i).length+ho i=1->abv ts lv i=j::r->Zo ts lv ho j l->Zo ts lv ho i (i::l)
def Sh.road{e:jq}{d:jo}{c:Nat->Nat}{i:Nat}{o:jO}(h:Sh e d c i o):o=none->∃ l,Zo e d c i l:=by
 induction h with
 | here _=>intro z;cases z
 | top a b=>intro _;exact⟨_,.top a b⟩
 | up a b _ f=>
  intro z;let⟨l,h⟩:=f z;exact⟨_,.up a b h⟩
def Zo.sh{e:jq}{d:jo}{c:Nat->Nat}{i:Nat}{l:jo}(h:Zo e d c i l):Sh e d c i none:=by
 induction h with
 | top a b=>exact .top a b
 | up a b _ f=>exact .up a b f
def Zo.uniq{k:jq}{j:jo}{f:Nat->Nat}{i:Nat}{l e:jo}(h:Zo k j f i l)(g:Zo k j f i e):l=e:=by
 induction h generalizing e with
 | top a b=>
  cases g with
  | top=>rfl
  | up _ c=>rw[b] at c;cases c
 | up a b _ m=>
  cases g with
  | top _ c=>rw[b] at c;cases c
  | up _ c d=>
   rw[b] at c;cases c;rw[m d]
def oV:jO->V
 | none=>.non
 | some j=>.int (j:Nat)
def Ph{gt:jp}{a:jq}{b:jo}(f:WF gt a)(e:Lv a b){i j:Nat}(h:j∈abv a b i):(gd a i).h<(gd a j).h/\j∈b:=by
 unfold abv at h;rw[yW,decide_eq_true_iff] at h;let d:=f j _ (Ym (e.lt j h.1));by_cases c:(gd a j).h=0
 ·rw[(d.leaf c).1] at h;simp at h
 ·exact⟨by have:=((d.stem c).2.2.1 i h.2).2;lia,h.1⟩
def Gy(b:jq)(a:jo)(i:Nat):(abv b a i).length<=a.length:=vJ _ _
def WT(a:List (ZR×V))(b:jo)(c:Nat->Nat):Prop:=a.map (·.1)=b.map (λi:Nat=>(Sum.inl (i:Int):ZR))/\∀ i:Nat,i∈b->Z5 a (Sum.inl (i:Int))=some (.int (c i:Nat))
inductive Yx(gt:jp)(j:jf)(H:Hp)(Q:VK)(_:XK):Prop
 |mk(d g:aj)(n:Nat)(i:jq)(b:jo)(c a:List (ZR×V))(h:Nat->Nat)(_:j=[.ref d,.ref g,.int n])(_:XY gt H d i b c)(_:b.length<64)(_:n∈b)(_:H g=some (.dK a))(_:WT a b h)(_:∀(e:Hp)(o:jO),ZC H e->Sh i b h n o->Q (oV o) e)
abbrev Cu:jr:=["_law_twigs","_law_holds","_law_number","_law_here","_law_stems"]
def Vf:ZB Cu zEi (Zf JQ):=Z4
def ZJ0{gt:jp}(F:Zn K "_law_shared" "_law_shared" JQ f fd)(T:YR mg)(DA:ZD P w K mg kf 1 "_law_above" zEb (X5 gt)):ZN P w K mg kf ZY 2 f fd zEi (Yx gt):=by
 refine F.ko Vf λa0 A S s H vs Q E J h=>?_;let⟨d,y,n,a,e,N,a1,g,rfl,L,O,hn,hh,hH,k⟩:=h;let R:=Vf.nd;let hu:=WZ J;intro Xc;refine⟨_,ZQ (Zs 3 R (pv 2)) (ZW (NX PassesOwn.never (Yg V9)
  (ZQ (Zs 4 R (Zm DA J (Zj (pv 0) (pv 3))))
  (ZQ (Z1 (YI PZ (Z2 Wl (Zy WH rfl T.len Xh (ZV (pv 4))) (Xt hu (pv 1) (pv 3))) ZO (Z0 _)) (ZW (Zr (pv 3))) Z6)
  (ZQ (Z1 (YI (Nw J.units0) (pv 4) (XH Zw) (Z0 _)) (ZW (Zr ZO2)) Z6)
  (ZW (Zs 3 R (Ua Z9 (pv 4) ZO (λ_ _=>rfl))))))))),?_⟩
 exists _,Z;refine⟨λm σ H'=>∃(b:Nat)(X:jg),m=Wz a (gd a b).h/\σ=[some (.ref d),some (.ref y),some (.int n),some (.int (b:Nat)),X]/\ZC H H'/\b∈e/\∀ o,Sh a e g b o->Sh a e g n o,
  ⟨_,n,none,Z,Z,ZC.refl H,hn,λ_ z=>z⟩,?_⟩
 rintro m σ H1 ⟨b,X,rfl,rfl,s1,bl,U⟩;refine⟨_,Z,YJ ⟨_,λ_ _ z=>z,?_⟩⟩;exists _,Z,_,Z,d,b,a,e,N,Z,L.same s1,O;intro v D s2 nD C;let p:=s1.trans s2;let hg:Zg v y (.int (b:Nat)) (some (.int (g b:Nat))):=hH.2 b bl ▸ Zg.k (k:=Sum.inl (b:Int)) (p _ _ hh);let Y:(iN (abv a e b)).length=(abv a e b).length:=zX _;exists _,Z,D,_,Z,.inl (ZG.of C),_,Z,_,Z,y,.int (g b:Nat),Z,hg,_,_,Z,Z;exists Z,_,Z;refine Yz (λc=>?_) (λc=>?_)
 ·let u:(abv a e b).length+g b≠1:=λz=>by
   rw[rT,decide_eq_false_iff_not] at c;refine c ?_;show V.int (((iN (abv a e b)).length:Nat)+(g b:Nat):Int)=V.int 1;rw[Y]
   congr 1
   lia
  exact⟨_,Z,k v (some b) p (U _ (.here u))⟩
 ·let u:(abv a e b).length+g b=1:=by
   rw[rT,decide_eq_false_iff_not,Decidable.not_not] at c;let x:V.int (((iN (abv a e b)).length:Nat)+(g b:Nat):Int)=V.int 1:=c;rw[Y] at x;injection x with x
   lia
  exists _,Z,YX;intro W G;let B:=Zc G (.lst []);exists D,W,_,Z,Z,ZG.of (B _ _ C),ZG.of ZP,_,Z;let l:=B _ _ C;let q:=p.trans B;generalize upd v W (.lst [])=H3 at l q⊢
  cases t:abv a e b with
  | nil=>
   rw[show (iN ([]:jo)).isEmpty=true from rfl];exact YJ (k H3 none q (U _ (.top u t)))
  | cons j r=>
   rw[show (iN (j::r)).isEmpty=false from rfl];rw[t] at l;let M:=Ph L.wf L.lv (i:=b) (j:=j) (by rw[t];exact zT)
   let jt:=L.lv.lt j M.2;refine Zp ⟨_,Z,D,_,0,.int (j:Nat),Z,Z,ZG.of l,Xk (j:=0) Z,?_⟩;exact⟨Wz a (gd a j).h,Nx jt M.1,j,_,Z,Z,q,M.2,λo I=>U o (.up u t I)⟩
def YV.snoc{H:Hp}{d:jI}{a:jf}{L:YN}{u:V}(h:YV H d a)(g:Z8 H L u):YV H (d++[L]) (a++[u]):=by
 exists by rw[zH,zH,h.1];rfl
 intro i w e;rcases yH i a.length with b | b
 ·rw[wO b] at e;have:=h.2 i w e;rw[zV] at this⊢;rw[wO (by rw[<-h.1];exact b)]
  exact this
 ·rw[wM b] at e;let c:i-a.length=0:=by
   rcases Nat.eq_zero_or_pos (i-a.length) with z | z
   ·exact z
   ·rw[uT (by simp;lia)] at e;cases e
  rw[c] at e;simp at e;subst e;let f:i=d.length:=by have:=h.1;lia
  rw[zV,f];simp;exact g
def Yf(a:jo)(x:Int):Bool:=decide (0<=x/\x.toNat∈a)
def Mj(a:jI):Prop:=∀ j,j+1<a.length->(a.getD (j+1) .d).h=(a.getD 0 .d).h/\(a.getD j .d).hi.lt (a.getD (j+1) .d).lo=true
def XM{c:jI}:Mj c ↔ MT c=true:=by
 unfold Mj MT Uv;rw[yY];constructor
 ·intro h j e;let g:j<c.length-1:=xG.mp e;let⟨a,b⟩:=h j ∅
  rw[zO];refine⟨?_,b⟩;rw[beq_iff_eq,a]
  cases j with
  | zero=>rfl
  | succ j=>exact(h j ∅).1
 ·intro h;let f:∀ j,j<c.length->(c.getD j .d).h=(c.getD 0 .d).h:=λj=>by
   induction j with
   | zero=>intro _;rfl
   | succ j i=>
    intro e;have:=h j (xG.mpr ∅)
    rw[zO,beq_iff_eq] at this;rw[<-this.1];exact i ∅
  intro j e;have:=h j (xG.mpr ∅)
  rw[zO] at this;exact⟨f (j+1) e,this.2⟩
def KR{gt:jp}{d:jq}{i:Nat}{t:ZK}(h:Zt gt d i t):(Zu t).fit:=by
 let a:0<t.rows.length:=wC.mpr h.ne;let b:t.rows.getD 0 rd∈t.rows:=by rw[zV,zW a];exact yJ _
 let c:t.rows.getD (t.rows.length-1) rd∈t.rows:=by rw[zV,zW (show t.rows.length-1<t.rows.length by lia)];exact yJ _
 exact⟨(h.inn _ b).2.1,(h.inn _ c).2.1⟩
def Zx(a:jq)(bs:jo):jI:=bs.map λb=>Zu (gd a b)
def PJ(a:jI)(b:jF):Prop:=over a≠none/\∀ h,b=some h->(a.getD 0 .d).h+1=h
def JU{b:Type}{p:b->Bool}{x:b}:∀{l:List b}{i:Nat},(l.take i).find? p=none->l[i]? = some x->(p x=true->l.find? p=some x)/\(p x=false->(l.take (i+1)).find? p=none)
 | [],i,_,e=>by simp at e
 | a::l,0,_,e=>by
  simp at e;subst e;exact⟨λh=>by simp[xA,h],λh=>by simp[xA,h]⟩
 | a::l,i+1,h,e=>by
  simp only[List.take_succ_cons,xA] at h⊢
  cases c:p a with
  | true=>rw[c] at h;simp at h
  | false=>
   rw[c] at h;have:=JU (l:=l) (i:=i) (p:=p) h (by simpa using e)
   simpa using this
end Tw
namespace L2
open PySem PySem.Spec PyProof.Rows
section
variable{H H2:Hp}{h h':aC}{cs fs ex:jw}
end
def WI(g:jv->Prop)(x C:aj)(b:jx)(h:aC):Prop:=∃ o a,h.get? x=some o/\o.cls=.ref C/\o.data=.fields a/\o.dict=b/\g a
def QH:jv->Prop:=λa=>a[1]? = some .none/\a[2]? = some .none
def ZQg:jv->Prop:=λ_=>True
def XO(g:jv->Prop)(x C:aj)(a:jx):HO:=.ext (WI g x C a)
def WI.is{g:jv->Prop}{x C:aj}{c:jx}{h:aC}(e:WI g x C c h):Vq x C h:=let ⟨o,_,a,b,_⟩:=e;⟨o,a,b⟩
def Lh{P:al}{w:ar}{H:Hp}{h:aC}{g:jv->Prop}{x C:aj}{j:jx}(e:WI g x C j h):Zd P w H h x (XO g x C j):=by
 let⟨o,s,a,b,c,d⟩:=id e;exact⟨e,⟨o,a⟩,λq r ⟨i,f,l,m,n,p⟩ k=>⟨i,f,k i l,m,n,p⟩⟩
abbrev QX:je:=[.type "ValueError",.type "Exception",.type "BaseException",.type "object"]
def KD:je->Bool
 | .ref _::r=>KD r
 | l=>l==QX
def Ie(a:ai):∀{l:je},KD l=true->PySem.refuseLoop a "__setattr__" l=pure ()
 | .ref c::r,e=>(refuseLoop_ref _ _ _ _).trans (Ie a (l:=r) e)
 | .type n::r,e=>by rw[show (Value.type n::r)=QX from beq_iff_eq.mp e];exact qF.passes a
 | [],e=>by cases e
 | .none::r,e | .bool _::r,e | .int _ _::r,e | .str _ _::r,e | .bytes _ _::r,e | .float _ _::r,e | .builtin _::r,e=>by cases(beq_iff_eq.mp e)
def EI(K:zZ)(C:aj):Bool:=(uN K C).any λa=>KD a.mro
def GR:ai->Bool
 | .type t=>t == "type"
 | _=>false
def ZMg{v:ai}(h:GR v=true):v=.type "type" :=by
 cases v with
 | type t=>exact congrArg Value.type (eq_of_beq h)
 | _=>cases h
def Hk:Data->Option ClassData
 | .cls c=>some c
 | _=>none
def ZKg{d:Data}{c:ClassData}(h:Hk d=some c):d=.cls c:=by
 cases d with
 | cls c=>cases h;rfl
 | _=>cases h
def Ga:jd->Bool
 | some (.builtin m)=>m == "ValueError.__new__"
 | _=>false
def Dj{v:jd}(h:Ga v=true):v=some (.builtin "ValueError.__new__"):=by
 cases v with
 | none=>cases h
 | some v=>
  cases v with
  | builtin m=>exact congrArg (some <| Value.builtin ·) (eq_of_beq h)
  | _=>cases h
def FC(C:aj):je->Bool
 | .ref D::_=>D==C
 | _=>false
def ZN5{C:aj}{l:je}(h:FC C l=true):l=.ref C::l.tail:=by
 cases l with
 | nil=>cases h
 | cons v r=>
  cases v with
  | ref D=>exact congrArg (Value.ref ·::r) (eq_of_beq h)
  | _=>cases h
def Oy{b:Type}{n:Nat}{l:List b}(h:l.length=n+1):∃ a m,l=a::m:=by
 cases l with
 | nil=>cases h
 | cons a m=>exact⟨a,m,Z⟩
def ZOK{l:List (jd)}(h:l.length=6):∃ a b c d e f,l=[a,b,c,d,e,f]:=by
 let⟨a,l,rfl⟩:=Oy h;let⟨b,l,rfl⟩:=Oy (xW.inj h);let⟨c,l,rfl⟩:=Oy (xW.inj (xW.inj h));let⟨d,l,rfl⟩:=Oy (xW.inj (xW.inj (xW.inj h)));let⟨e,l,rfl⟩:=Oy (xW.inj (xW.inj (xW.inj (xW.inj h))));let⟨f,l,rfl⟩:=Oy (xW.inj (xW.inj (xW.inj (xW.inj (xW.inj h)))))
 cases l with
 | nil=>exact⟨a,b,c,d,e,f,Z⟩
 | cons _ _=>cases h
def HA{b:Type}{p:b->Bool}{o:Option b}(h:o.any p=true):∃ a,o=some a/\p a=true:=by
 cases o with
 | none=>cases h
 | some a=>exact⟨a,Z,h⟩
def HC(K:zZ)(C:aj)(f:ClassData->Bool):Bool:=(K.lookup C).any λo=>GR o.cls&&(o.slots.toList.length==6&&(Ga (o.slots.toList.getD 4 none)&&(Hk o.data).any λc=>FC C c.mro&&(PySem.W.tailIn K QX c.mro.tail&&(!c.hasDel&&f c))))
inductive PQ(K:zZ)(C:aj)(f:ClassData->Bool):Prop
 |mk(g bs h i e j b d a k l m n o p:_)(c:je):K.lookup C=some (excClassObj g i C h bs c e j b d a k l m n o p "ValueError.__new__")->PySem.W.tailIn K QX c=true->f ⟨g,bs,.ref C::c,h,i,e,j,b,d,a,false⟩=true->PQ K C f
def Cq{K:zZ}{C:aj}{f:ClassData->Bool}(h:HC K C f=true):PQ K C f:=by
 let⟨⟨G,k,H,⟨I⟩⟩,e,h⟩:=HA h;rw[zO,zO,zO] at h;let⟨m,n,o,p⟩:=h;let⟨⟨A,bs,g,B,D,s,E,i,j,b,c⟩,l,h⟩:=HA p;rw[zO,zO,zO] at h;let⟨a,d,q,r⟩:=h;cases ZMg m;cases ZKg l;let⟨t,u,w,x,y,z,rfl⟩:=ZOK (eq_of_beq n);cases Dj (v:=y) o;let a:=ZN5 a;dsimp only at a d;generalize g.tail=F at a d;subst a
 cases c with
 | true=>cases q
 | false=>exact⟨A,bs,B,D,s,E,i,j,b,k,t,u,w,x,z,F,e,d,r⟩
def GM(K:zZ)(C:aj):Bool:=HC K C λ_=>true
structure UB(K:zZ)(C fI:aj)(f:Str):Prop where
 exc:Nf K C
 made:GM K C=true
 init:zA K (.ref C) "__init__" = some (some (.ref fI))
 fn:wW K (.ref fI)=true
 kp:yQ K (.ref C)=true
 sa:zA K (.ref C) "__setattr__" = some (some (.builtin "object.__setattr__"))
 no:zA K (.ref C) f=some none
 hd:wF K C=true
 over:EI K C=true
section
variable{g:jv->Prop}{ke:js}{σ:St}{H:Hp}{a C fI:aj}{f:Str}{v:V}
def ZJp{y:V}{u:ai}{Q:Unit->ak->Prop}(I:ZE X ke σ H s)(e:H a=some (XO g a C none))(c:UB X.K C fI f)(ry:ZU y u)(h:∀ L s',H L=none->L≠a->ZE X ke σ (upd (upd H L (.xd [(f,y)])) a (XO g a C (some L))) s'->Q () s'):aA (az X.prog X.w) A (setAttr (.ref a) f u) Q E s:=by
 let⟨o,vs,N,d,i,x,a0⟩:=(I.hok a _ e).1;let⟨oc,od,a7,k⟩:=o;dsimp only at d i x;subst d i x;let J:PySem.W.InstAt s.heap a ⟨.ref C,none,.fields vs,k⟩ C none:=⟨N,Z,Z,True.intro⟩;refine PySem.W.set_plain I.kIn J c.sa ?_;let l:=qF;let⟨cd,S,ho⟩:=rQ c.over;let a3:xS (az X.prog X.w) s.heap (isInstance (.ref a) (.type "object")) true:=J.type.andThen (uY I.kIn c.exc.mO);refine codeAny_call_builtin l.slot.plain l.entry (@PySem.W.check_slot (az X.prog X.w) _ _ { s with toks:=s.toks+1 } "object.__setattr__" "object" "__setattr__" (.ref a) [.str f s.toks,u] [] _ l.kind l.split a3 (l.args (.ref a) (.str f s.toks) u) ?_);let hm:xS (az X.prog X.w) s.heap (mroOf (.ref C)) cd.mro:=(sI I.kIn S).andThen .now;rw[PySem.W.osa_eq,PySem.refuse_eq];refine aa (aa (xS.here (s:={ s with toks:=s.toks+1 }) J.type (aa (xS.here (s:={ s with toks:=s.toks+1 }) hm ?_))));rw[Ie _ ho];refine ad (aa (xS.here (s:={ s with toks:=s.toks+1 }) J.type (aa (xS.here (s:={ s with toks:=s.toks+1 }) (sG I.kIn c.no) (aa (ad ?_))))));let⟨a4,t,T⟩:=rQ c.hd;refine aa (ad (aa (aa (wpAny_loadPart N (aa (xS.here (s:={ s with toks:=s.toks+1 }) (sI I.kIn t) ?_))))));rw[T];dsimp only;let i:a≠s.heap.objs.size:=zK (zU N);let p:H s.heap.objs.size=none:=I.hok.fresh (zY _);rw[aK (by simp),aK (by simp[typeHasDict])]
 let D:=zP { cls:=.type "dict",data:=.dict #[] } N;refine aa (wpAny_alloc' (aa (wpAny_update' D (ad ?_))));generalize O:((s.heap.push { cls:=.type "dict",data:=.dict #[] }).update a λo=>{ cls:=o.cls,dict:=some s.heap.objs.size,data:=o.data,slots:=o.slots })=M;let ga:M.get? a=some ⟨.ref C,some s.heap.objs.size,.fields vs,k⟩:=by
  rw[<-O];exact wX _ D Z
 let gd:M.get? s.heap.objs.size=some { cls:=.type "dict",data:=.dict #[] }:=by
  rw[<-O];exact(uB _ _ _ _ i.symm).trans (Heap.get?_push_at Z Z)
 let go:∀ b o,b≠a->s.heap.get? b=some o->M.get? b=some o:=λb o n q=>by
  rw[<-O];exact(uB _ _ _ _ n).trans (zP _ q)
 let a1:M.Ns s.heap.objs.size (λ_=>none):=⟨_,#[],_,gd,Z,λe he=>absurd he (by simp),λ_=>rfl⟩
 show aA _ _ (Builtin.ObjectAttr.storeInDict s.heap.objs.size (.str f s.toks) f u) _ _ _;unfold Builtin.ObjectAttr.storeInDict Builtin.ObjectAttr.newKeyGuard;refine aa (ad (aa (wpAny_nsSet1 (Heap.Ns1.of_empty a1) λP B hs=>?_)));let⟨oD,a6,a5,a2,U,R⟩:=B.count (Within.cons f u Within.nil);refine aa (wpAny_lookBehind a2 (by rw[U];exact pastItsLine_dict (zL R (by rw[yV,sY,sizeLine_eq];lia))) ?_)
 let m:P.get? a=some ⟨.ref C,some s.heap.objs.size,.fields vs,k⟩:=(hs.2 a i).trans ga;let j:∀ b o,b≠a->s.heap.get? b=some o->P.get? b=some o:=λb o n q=>(hs.2 b (zK (zU q))).trans (go b o n q);let G:∀{b:aj}{o:HO},H b=some o->b≠s.heap.objs.size:=fun{b o} q z=>by rw[z,p] at q;cases q
 let na:∀{b:aj},H b=none->b≠a:=fun{b} q z=>by rw[z,e] at q;cases q
 refine ad (h s.heap.objs.size _ p i.symm (I.call' (s':={ s with heap:=P,toks:=_ }) (ch:=[]) rfl ⟨λb o q n _ _=>j b o (na n) q,λb o q n _ _=>⟨o.slots,j b o (na n) q⟩,λb o q n _=>?_,λb o q _=>?_,λb xs q=>?_,λb o u q=>?_,λb ps q=>?_⟩ (λb ob q=>?_) I.bare (λb hb=>absurd hb (by simp))))
 ·rw[ZM (na n),ZM (zK (zU q))];exact n
 ·by_cases z:b=a
  ·rw[z];exact⟨_,m⟩
  ·exact⟨o,j b o z q⟩
 ·rw[ZM (λz=>by rw[z,e] at q;cases q),ZM (G q)];exact q
 ·rw[ZM (λz=>by rw[z,e] at q;cases q),ZM (G q)];exact q
 ·exact⟨#[],by rw[ZM (λz=>by rw[z,e] at q;cases q),ZM (G q),q];simp⟩
 ·by_cases z:b=a
  ·rw[z,ZP] at q;cases q;rw[z];exact Lh ⟨_,_,m,Z,Z,Z,a0⟩
  ·rw[ZM z] at q;by_cases z2:b=s.heap.objs.size
   ·rw[z2,ZP] at q;cases q;rw[z2];exists _,B;intro g;show Yj (xM g [(f,y)]) (if g=f then some u else none)
    by_cases Y:g=f
    ·rw[Y,aM rfl];simp only[xM,beq_self_eq_true];exact ry
    ·rw[aK Y];simp only[xM,beq_eq_false_iff_ne.mpr Y];exact True.intro
   ·rw[ZM z2] at q;let oc:∀{c:aj},H c=some (.own b)->c≠a:=fun{c} d z=>by rw[z,e] at d;cases d
    refine(I.hok b ob q).stay (λc u d r=>j c u ?_ r) (λc d=>?_) (λc xs d=>?_)
    ·rcases d with rfl | d
     ·exact z
     ·exact oc d
    ·rw[ZM (oc d),ZM (G d)];exact d
    ·rw[ZM (λz=>by rw[z,e] at d;cases d),ZM (G d)];exact d
end
section
variable{C fI:aj}{f:Str}
abbrev Q4(h:aC)(C:aj)(a:je):Heap:=(h.push { cls:=.type "tuple",data:=.seq a.toArray }).push { cls:=.ref C,data:=.fields #[.ref h.objs.size,.none,.none,.none,.bool false,.none] }
def Bz{e:je}{Q:ja}(X:K.In s.heap)(c:UB K C fI f)(p:e.length<=ap)(h:aA (az prog w) (A.under (.builtin "type.__call__" ⟨.ref C::e,[]⟩)) (call (.ref fI) (.ref (s.heap.objs.size+1)::e)) (λr D=>r=.none/\Q (.ref (s.heap.objs.size+1)) D) E { s with heap:=Q4 s.heap C e }):
  aA (az prog w) A (call (.ref C) e) Q E s:=by
 let⟨a,g,d,t,B⟩:=s;let n:=c.made;let⟨Y,bs,ns,qn,L,sn,u,G,k,H,P,R,S,U,V,v,M,O,_⟩:=Cq n;let i:a.get? C=some (excClassObj Y qn C ns bs v L sn u G k H P R S U V "ValueError.__new__"):=X _ _ M;let T:OwnTail a QX v:=rP X O;let j:=rY;let f1:=tc_lookup;let f2:=tc_bind (.ref C);let hT:(⟨a,g,d,t,B⟩:ak).TypeIs (.ref C) "type" :=⟨_,i,Z⟩;refine wpAny_call (codeAny_of_tree (show aA _ _ (callAny (.ref C) _) _ _ _ from ?_))
 repeat (any_goals (first | assumption | with_reducible refine wpAny_loadPart_at i ?_ | wp_step))
 refine⟨Z,codeAny_call_builtin_at (Code.quiet_builtin _ (by decide +kernel)) entry_typeCall (wpAny_check_type_call_sub i ?_)⟩
 repeat (first | with_reducible refine wpAny_loadPart_at i ?_ | with_reducible refine wpAny_madeBy_exc i ?_ | wp_step)
 refine codeAny_call_builtin_code (Code.quiet_builtin _ j.quiet) (wpAny_check_new_subU j j.hasB T i (codeAny_exc_new_subU j j.hasB j T i ?_ p));show aA _ _ _ _ _ _;let I:(Q4 a C e).get? (a.objs.size+1)=some { cls:=.ref C,data:=.fields #[.ref a.objs.size,.none,.none,.none,.bool false,.none] }:=by heap_get
 let y:∀ b o,a.get? b=some o->(Q4 a C e).get? b=some o:=λb o q=>zP _ (zP _ q);let l:=y _ _ i;let m:(Value.ref C::v).contains (.ref C)=true:=by simp
 unfold isInstance;show aA _ _ _ _ _ ⟨Q4 a C e,g,d,t,B⟩
 repeat (first | with_reducible refine wpAny_loadPart_at I ?_ | wp_step)
 refine wpAny_isSubtype_exc (C:=C) (h:=Q4 a C e) l ?_;rw[m]
 repeat wp_step
 let x:K.In (Q4 a C e):=λb o q=>y b o (X b o q);show aA _ _ (typeLookup (.ref C) _) _ _ _;refine(sG x c.init).at ?_;refine af (aa ((PySem.W.bind_fn x _ (beq_iff_eq.mp c.fn)).at ?_));refine aa (ae h (λr D N=>?_) λ_ _ z=>z);let⟨rfl,J⟩:=N
 wp_walk
 exact J
end
inductive P9(K:zZ)(f:Str)(D:Yc)(e:L2.St)(y x:V)(c:Hp):Prop
 |mk(g a C d:_)(_:x=.ref a)(_:c a=some (XO g a C none))(_:UB K C d f)(_:∀ b,c b=none->b≠a->D.nx e (upd (upd c b (.xd [(f,y)])) a (XO g a C (some b))))
def Cf(K:zZ)(d e:TE)(f:Str):TS:=λD a H=>e a H λy b=>d a b λx c=>P9 K f D a y x c
def On(K:zZ)(C c:aj)(f:Str):Sp:=λd H Q _=>UB K C c f/\∃ a y,d=[.ref a,y]/\H a=some (XO QH a C none)/\∀ b,H b=none->b≠a->Q .non (upd (upd H b (.xd [(f,y)])) a (XO QH a C (some b)))
section
variable{C fI:aj}{f:Str}{e o value:Expr}{es:jy}{ta tv:TE}{t:TA}{pos pos' p:aH}{x:Str}
def Lu(v:PE X o ta)(B:PE X value tv)(A:swapsWith value (some (.Attribute o f pos')) pos.line X.env=pure false):PS X (.Assign [.Attribute o f pos'] value pos) (Cf X.K ta tv f):=by
 intro b s d H D I h;refine plainObj_wpAny_Assign_Attribute (YH (B b s d H _ I h) λu L y i j J q=>Zz (v b L d i _ j q) λE O ⟨x,M,k,G,g,a,C,fI,r,n,c,F⟩=>?_) A;subst r;obtain rfl:E=Value.ref a:=G;exact ZJp k n c J λm N w z l=>⟨d,_,l,F m w z⟩
def ZE.newx{g:js}{j:St}{H:Hp}{s:ak}{h':aC}{ea:aj}(I:ZE X g j H s)(d:∀ b o,s.heap.get? b=some o->h'.get? b=some o)(n:s.heap.get? ea=none)(m:WI QH ea C none h'):ZE X g j (upd H ea (XO QH ea C none)) { s with heap:=h' }:=by
 let l:H ea=none:=by
  cases z:H ea with
  | none=>rfl
  | some o=>
   let⟨A,q⟩:=I.hok.there (a:=ea) (by rw[z];exact λy=>nomatch y)
   rw[n] at q;cases q
 let i:∀{b:aj}{o:HO},H b=some o->b≠ea:=fun{b o} q z=>by rw[z,l] at q;cases q
 refine I.call' (s':={ s with heap:=h' }) (ch:=[]) Z ⟨λb o q _ _ _=>d b o q,λb o q _ _ _=>⟨o.slots,d b o q⟩,λb o q z _=>?_,λb o q _=>⟨o,d b o q⟩,λb w q=>?_,λb o u q=>?_,λb B q=>⟨#[],?_⟩⟩ (λb v q=>?_) I.bare (λb k=>absurd k (by simp))
 ·rw[ZM (λy=>by rw[y,n] at q;cases q)];exact z
 ·rw[ZM (i q)];exact q
 ·rw[ZM (i q)];exact q
 ·rw[ZM (i q),q];simp
 ·by_cases z:b=ea
  ·rw[z,ZP] at q;cases q;rw[z];exact Lh m
  ·rw[ZM z] at q;exact(I.hok b v q).stay (λc u _ r=>d c u r) (λc h=>by rw[ZM (i h)];exact h) (λc w h=>by rw[ZM (i h)];exact h)
end
def BL(f:jv->jv)(o:aG):(Obj.mapFields f o).dict=o.dict:=by
 let⟨c,d,a,b⟩:=o;cases a <;> rfl
def NH(B:aC)(cls:ai)(b:jv):Prop:=b[2]? = some .none\/∀ C o a,cls=.ref C->B.get? C=some o->o.data=.cls a->a.name ≠ "NoStem"
def ZPM(h B:aC)(e:aj)(cls:ai)(g:jx)(f:ai):Prop:=
 ∃ a b T c d,(h.get? e=some a/\a.cls=cls/\a.dict=g/\a.data=.fields b/\b[1]? = some (.ref T))/\B.get? T=none/\T≠e/\h.get? T=some c/\c.data=.fields d/\d[3]? = some f/\NH B cls b
def Xq(B:aC)(l:jB)(e:aj)(cls:ai)(b:jx)(a:ai)(h:aC):Prop:=B.StaysIn h/\B.get? e=none/\h.FunFrames B l/\ZPM h B e cls b a
def Xq.at{B h:aC}{l:jB}{e C:aj}{f:jx}{g:ai}(x:Xq B l e (.ref C) f g h):WI ZQg e C f h:=by
 let⟨_,_,_,i,j,T,k,m,⟨a,b,c,d,_⟩,_⟩:=x;exact⟨i,j,a,b,d,c,trivial⟩
section
variable{M:Model}{B:aC}{env:Env}{outer l:jB}{L e:aj}{cls:ai}{od:jx}{Q:Unit->ak->Prop}
def Kt{oe:aG}{vs:jv}{first:ai}{nx:Bool}(fr:A.frames=some (env::outer))(ff:s.heap.FunFrames B (env::outer))(eL:env.frame=some L)(ge:s.heap.get? e=some oe)(sb:B.StaysIn s.heap)(eB:B.get? e=none)(dd:oe.data=.fields vs)(two:1<vs.size)(cx:NH B oe.cls vs)(h:∀ h',Xq B (env::outer) e oe.cls oe.dict (rawInt L) h'->s.heap.UpToSlots h'->Q () { s with heap:=h' }):
  aA M A (frameOf env >>= λa=>entryPlaceOf L nx >>= λpl=>EntryCells.newEntry first a .none (rawInt L) .none pl >>= λb=>setField (.ref e) 1 b) Q E s:=by
 let en:e∉(env::outer).filterMap (·.frame):=λz=>by
  let⟨_,o,g1,g2⟩:=ff.mem z;rw[ge] at g1;cases g1;exact g2 vs dd
 refine aa (wpAny_frameOf_fun fr ff eL λh1 k1=>aa (wpAny_entryPlaceOf λpl kp=>?_));unfold EntryCells.newEntry newFields;refine aa (wpAny_newObj_type ?_ (kp.sizeOk5 _ _ _ _ _));let t3:([first,Value.ref L,.none,rawInt L,.none]++(if pl.isEmpty then vY 6 Value.none else pl)).toArray[3]? = some (rawInt L):=by
  first | (simp;done) | (rcases kp with rfl | ⟨_,_,_,_,_,_,_,rfl⟩ <;> simp)
 generalize ([first,Value.ref L,.none,rawInt L,.none]++(if pl.isEmpty then vY 6 Value.none else pl)).toArray=ts at t3⊢;let g1:h1.get? e=some oe:=(k1.2.1 e en).trans ge;let sb1:B.StaysIn h1:=λb o q=>(k1.2.1 b λz=>by rw[(ff.mem z).1] at q;cases q).trans (sb b o q)
 let eT:h1.objs.size≠e:=λz=>xH _ (by have:=zU g1;rw[<-z] at this;exact this)
 let g2:=zP (h:=h1) ({ cls:=.type "traceback",dict:=none,data:=.fields ts }:aG) g1;let d3:=Obj.data_mapFields dd (·.setIfInBounds 1 (Value.ref h1.objs.size));let g3:=wX (Obj.mapFields (·.setIfInBounds 1 (Value.ref h1.objs.size))) g2 (Obj.isFreed_of_fields d3);let gT:=(xZ (h1.push ({ cls:=.type "traceback",dict:=none,data:=.fields ts }:aG)) (Obj.mapFields (·.setIfInBounds 1 (Value.ref h1.objs.size))) eT.symm).trans (yS h1 Z);let stay:∀ b o,b≠e->h1.get? b=some o->((h1.push ({ cls:=.type "traceback",dict:=none,data:=.fields ts }:aG)).update e (Obj.mapFields (·.setIfInBounds 1 (Value.ref h1.objs.size)))).get? b=some o:=λb o n q=>
  (xZ _ _ n.symm).trans (zP _ q)
 let notE:∀ b o,s.heap.get? b=some o->(∀ ws,o.data≠.fields ws)->b≠e:=λb o q nf z=>by
  rw[z,ge] at q;cases q;exact nf vs dd
 refine wpAny_setField g2 dd two (h _ ⟨λb o q=>stay b o (λz=>by rw[z,eB] at q;cases q) (sb1 b o q),eB,ff.of_keeps λb o q nf=>?_,_,_,h1.objs.size,_,_,⟨g3,Obj.cls_mapFields _ _,BL _ _,d3,by simp[two]⟩,sb1.fresh,eT,gT,Z,t3,cx.imp (λz=>by rw[tQ (by decide)];exact z) id⟩ λb o q nf=>?_)
 ·let⟨sl,z⟩:=k1.2.2 b o q;exact⟨_,stay b _ (notE b o q nf) z,Z⟩
 ·let⟨sl,z⟩:=k1.2.2 b o q;exact⟨sl,stay b _ (notE b o q nf) z⟩
def PY{G:ai}(x:Xq B l e cls od G s.heap)(h:∀ j,Xq B l e cls od .none j->s.heap.UpToSlots j->Q () { s with heap:=j }):aA M A (setFlight (.ref e) none) Q E s:=by
 let⟨I,D,F,H,K,T,O,u,⟨r,w,y,p,v⟩,k,m,i,g,J,C⟩:=x;let t:3<u.size:=(vZ.mp J).1;let a:∀ b,b≠T->(s.heap.update T (Obj.mapFields (·.setIfInBounds 3 ((none:jx).elim Value.none λf=>rawInt f)))).get? b=s.heap.get? b:=λb n=>xZ _ _ n.symm;let c:∀ b o,s.heap.get? b=some o->(∀ N,o.data≠.fields N)->b≠T:=λb o q d z=>by
  rw[z,i] at q;cases q;exact d u g
 unfold setFlight;refine aa (wpAny_field r p v ?_);rw[aM (show (Value.ref T != Value.none)=true by simp)]
 refine wpAny_setField i g t (h _ ⟨λb o q=>(a b λz=>by rw[z,k] at q;cases q).trans (I b o q),D,F.of_keeps λb o q d=>⟨o,(a b (c b o q d)).trans q,Z⟩,?_⟩ λb o q d=>⟨o.slots,(a b (c b o q d)).trans q⟩)
 exact⟨H,K,T,_,_,⟨(a e m.symm).trans r,w,y,p,v⟩,k,m,wX _ i (Obj.isFreed_of_fields (Obj.data_mapFields g _)),Obj.data_mapFields g _,by simp[t],C⟩
def Iq{a:aG}{c:jv}(n:A.frames=some (env::outer))(m:s.heap.FunFrames B (env::outer))(f:env.frame=some L)(g:s.heap.get? e=some a)(o:B.StaysIn s.heap)(k:B.get? e=none)(d:a.data=.fields c)(i:c[1]? = some .none)(j:NH B a.cls c)(h:∀ b,Xq B (env::outer) e a.cls a.dict (rawInt L) b->s.heap.UpToSlots b->Q () { s with heap:=b }):aA M A (noteFrame (.ref e) env) Q E s:=by
 unfold noteFrame;simp only[f];refine aa (wpAny_field g d i ?_);rw[aK (by decide)]
 exact Kt n m f g o k d (vZ.mp i).1 j h
def LB(H:A.frames=some (env::outer))(k:env.frame=some L)(x:Xq B (env::outer) e cls od .none s.heap)(h:∀ f,Xq B (env::outer) e cls od (rawInt L) f->s.heap.UpToSlots f->Q () { s with heap:=f }):
  aA M A (noteFrame (.ref e) env) Q E s:=by
 let⟨J,D,G,P,R,T,O,r,⟨m,w,y,j,t⟩,u,v,i,g,p,C⟩:=x;subst w y;let I:3<r.size:=(vZ.mp p).1;let a:∀ b,b≠T->(s.heap.update T (Obj.mapFields (·.setIfInBounds 3 Value.none))).get? b=s.heap.get? b:=λb n=>xZ _ _ n.symm;let c:∀ b o,s.heap.get? b=some o->(∀ N,o.data≠.fields N)->b≠T:=λb o q d z=>by
  rw[z,i] at q;cases q;exact d r g
 unfold noteFrame;simp only[k];refine aa (wpAny_field m j t ?_);rw[aM (show (Value.ref T != Value.none)=true by simp)]
 refine aa (wpAny_field i g p ?_);rw[aK (show ¬ ((Value.none==rawInt L)=true) by simp[rawInt])]
 refine aa (wpAny_setField i g I ?_);refine Kt (s:={ s with heap:=_ }) H (G.of_keeps λb o q d=>⟨o,(a b (c b o q d)).trans q,Z⟩) k ((a e v.symm).trans m) (λb o q=>(a b λz=>by rw[z,u] at q;cases q).trans (J b o q)) D j (vZ.mp t).1 C λf F K=>h f F λb o q d=>?_
 exact K b o ((a b (c b o q d)).trans q) d
def Xq.less{f:ai}{h:aC}(x:Xq B (env::outer) e cls od f h):Xq B outer e cls od f h:=by
 let⟨a,b,⟨_,_,c⟩,d⟩:=x;exact⟨a,b,c,d⟩
def ZHl(f:A.frames=some (env::outer))(b:env.frame=some L)(x:Xq B (env::outer) e cls od .none s.heap)(h:∀ a,Xq B outer e cls od .none a->s.heap.UpToSlots a->Q () { s with heap:=a }):aA M A (leaving env (.ref e)) Q E s:=by
 unfold leaving;exact aa (LB f b x λg c j=>PY (s:={ s with heap:=g }) c λi d k=>h i d.less (j.trans k))
def Ad{a:aG}{c:jv}(n:A.frames=some (env::outer))(m:s.heap.FunFrames B (env::outer))(i:env.frame=some L)(o:s.heap.get? e=some a)(r:B.StaysIn s.heap)(g:B.get? e=none)(f:a.data=.fields c)(v:c[1]? = some .none)(d:NH B a.cls c)(h:∀ b,Xq B outer e a.cls a.dict .none b->s.heap.UpToSlots b->Q () { s with heap:=b }):aA M A (leaving env (.ref e)) Q E s:=by
 unfold leaving;exact aa (Iq n m i o r g f v d λp j t=>PY (s:={ s with heap:=p }) j λq k u=>h q k.less (t.trans u))
end
def IO{a:al}{w:ar}{A:aw}{E:ja}{s:ak}{c:Env}{K:zZ}{C:aj}{x:Sem ai}{Q:Flow->ak->Prop}(F:A.handled=none)(H:yR K C (.type "BaseException")=some true)(G:yE K (.ref C)=some (.type "type"))(h:aA (az a w) A x (λv b=>∃ e q,v=.ref e/\K.In b.heap/\WI QH e C q b.heap/\E (.ref e) b) E s):aA (az a w) A (raiseStmt c (some x) none) Q E s:=by
 unfold raiseStmt;refine aa (ae h (λv b B=>?_) λ_ _ z=>z);let⟨e,q,rfl,k,⟨⟨L,i,I,j⟩,r,o,l,m,n,J,P⟩,D⟩:=B;dsimp only at l m n;subst l m n;let⟨p,g,d,O,N⟩:=b;let t:xS (az a w) p (typeOf (.ref e)) (.ref C):=Vq.ty ⟨_,o,Z⟩ _;let u:=uY (M:=az a w) k H;let y:=sF (M:=az a w) k G;let f:p.get? e=some ⟨.ref C,i,.fields r,j⟩:=o;unfold excFromValue isExcClass isInstance isType raisedInstance setFlight
 repeat (first | with_reducible refine wpAny_loadPart_at f ?_ | with_reducible refine u.at ?_ | with_reducible refine t.at ?_ | with_reducible refine y.at ?_ | wp_step)
 rw[show r[1]? = some Value.none from J]
 repeat wp_step
 all_goals first | exact wpAny_raiseNew_none F D | trace_state
structure V1(P:al)(w:ar)(outer:jB)(H:Hp)(s:ak)(ea:aj)(cls:ai)(od:jx)(H':Hp)(s':ak):Prop where
 ex:∃ B:aC,Xq B outer ea cls od .none s'.heap/\(∀ b o,s'.heap.get? b=some o->H' b≠none->B.get? b=some o)/\(∀ b o,s.heap.get? b=some o->H b=none->b∉frs outer->B.get? b=some o)/\(∀ b o,s.heap.get? b=some o->b∉frs outer->∃ o',B.get? b=some o')
 os:s'.os=s.os
 bare:AllBare s'.gens
 un:Un (frs outer) [] H H' s.heap s'.heap
 hok:Yu P w H' s'.heap
 new:s.heap.get? ea=none
 free:H' ea=none
def YB(P:al)(w:ar):Wn:=λa H s E e f=>∃ c cls d b,e=.ref c/\V1 P w a H s c cls d b f/\E cls d b
structure Wr(X:Cx)(E:XK):Prop where
 stack:X.stack=X.env::X.outer
 frame:X.env.frame=some X.env.locals
 ex:X.ex=[]
 calm:X.calm=true
 xe:∀ e s',aA (az X.prog X.w) X.A (leaving X.env e) (λ_ s''=>YB X.prog X.w X.outer X.H₀ X.s₀ E e s'') (λe' s''=>YB X.prog X.w X.outer X.H₀ X.s₀ E e' s'') s'->X.xe e s'
def WY{P:al}{w:ar}{K:zZ}{g:jb}{c:aC}{N:jr}{d:Str}{b:aD}{f:aj}{e:ai}{A:aw}{a:jB}{s:ak}{H:Hp}{E:XK}:
  Wr (WW (YB P w) P w K g c N d b f e A a s H E) E:=⟨Z,Z,Z,Z,λ_ _ h=>h⟩
section
variable{ke:js}{σ:St}{H H':Hp}{s':ak}{E:XK}
def Wr.frs(F:Wr X E):frs X.stack=X.env.locals::X.fs:=by
 rw[F.stack];show List.filterMap _ (X.env::X.outer)=_;rw[uA,F.frame];rfl
def Wr.off(F:Wr X E)(I:ZE X ke σ H s){b:aj}{o:aG}(q:X.s₀.heap.get? b=some o)(n:b∉L2.frs X.outer):b∉L2.frs X.stack:=λz=>by
 rw[F.frs] at z;rcases zC.mp z with z | z
 ·rw[z,I.noloc] at q;cases q
 ·exact n z
def Wr.on(F:Wr X E){b:aj}(n:b∈L2.frs X.outer):b∈L2.frs X.stack:=by
 rw[F.frs];exact zI _ n
def Go{B h:aC}{g:aj}(F:Wr X E)(J:ZE X ke σ H s)(r:B.StaysIn h)(d:∀ b o,b≠g->s.heap.get? b=some o->b∉L2.frs X.stack->B.get? b=some o)(p:s.heap.UpToSlots h)(i:X.s₀.heap.get? g=none):
  Un (L2.frs X.outer) [] X.H₀ H X.s₀.heap h:=by
 let c:=J.base;rw[F.ex] at c;let l:∀{b:aj}{o:aG},X.s₀.heap.get? b=some o->b≠g:=λq z=>by rw[z,i] at q;cases q
 let m:∀{b:aj}{o:aG},b∈L2.frs X.stack->s.heap.get? b=some o->∀ v,o.data≠.fields v:=λa q=>LM J _ a _ q;refine⟨λb o q n a _=>r b o (d b o (l q) (c.keep b o q n a (by simp)) (F.off J q a)),λb o q n a _=>?_,c.free,λb o q _=>?_,c.tups,c.frzs,c.tbls⟩
 ·let⟨u,e⟩:=c.slot b o q n a (by simp)
  let⟨k,t⟩:=p b _ e (m (F.on a) e);exact⟨k,t⟩
 ·let⟨f,j⟩:=c.there b o q (by simp)
  by_cases a:b∈L2.frs X.stack
  ·let⟨u,e⟩:=p b f j (m a j);exact⟨_,e⟩
  ·exact⟨f,r b f (d b f (l q) j a)⟩
def ZE.untrack{a:aj}{g:aC->Prop}(I:ZE X ke σ (upd H a (.ext g)) s)(l:H a=none):ZE X ke σ H s:=by
 let v:∀{b:aj}{u:HO},H b=some u->b≠a:=fun{b u} e z=>by rw[z,l] at e;cases e
 let h:∀{b:aj},upd H a (.ext g) b=none->H b=none:=fun{b} e=>by
  by_cases z:b=a
  ·rw[z];exact l
  ·rw[ZM z] at e;exact e
 let d:∀{b:aj}{u:HO},upd H a (.ext g) b=some u->(∀ y,u≠.ext y)->H b=some u:=fun{b u} e k=>by
  by_cases z:b=a
  ·rw[z,ZP] at e;exact absurd (zB.inj e).symm (k g)
  ·rw[ZM z] at e;exact e
 refine⟨I.ok,I.os,I.bare,⟨I.base.keep,I.base.slot,λb j q n t=>h (I.base.free b j q n t),I.base.there,λb m q=>d (I.base.tups b m q) (λ_ z=>nomatch z),λb j u q=>d (I.base.frzs b j u q) (λ_ z=>nomatch z),λb w q=>?_⟩,I.loc,I.cell,h I.free,λx c e=>h (I.freeC x c e),λp i=>?_,λb u e=>?_,I.len⟩
 ·let⟨f,e⟩:=I.base.tbls b w q;exact⟨f,d e (λ_ z=>nomatch z)⟩
 ·let⟨e,n,r⟩:=I.pin p i;exact⟨e,h n,r⟩
 ·let o:upd H a (.ext g) b=some u:=by rw[ZM (v e)];exact e
  exact(I.hok b u o).stay (λ_ _ _ q=>q) (λc q=>d q (λ_ z=>nomatch z)) λc m q=>d q (λ_ z=>nomatch z)
def ZLK{c C:aj}{m:jx}{g:jv->Prop}(F:Wr X E)(J:ZE X ke σ H s)(e:X.s₀.heap.get? c=none)(u:H c=none)(Q:WI g c C m s.heap)(K:∀ f,g f->f[1]? = some .none)(L:∀ f B,g f->(∀ b o,B.get? b=some o->s.heap.get? b=some o)->NH B (.ref C) f)(N:E (.ref C) m H):X.xe (.ref c) s:=by
 let⟨U,f,I,r,w,x,t⟩:=Q;let T:=K f t;let G:X.A.frames=some (X.env::X.outer):=by rw[J.ok.frames,F.stack]
 let D:s.heap.FunFrames (xQ s.heap (c::L2.frs X.stack)) (X.env::X.outer):=by
  have:=qY (as:=c::L2.frs X.stack) J.stack (λl P a O=>zI _ (wE.mpr ⟨l,P,O⟩));rw[F.stack] at this⊢;exact this
 let d:∀ b o,b≠c->s.heap.get? b=some o->b∉L2.frs X.stack->(xQ s.heap (c::L2.frs X.stack)).get? b=some o:=λb o n q h=>tW _ q (λz=>by
  rcases zC.mp z with z | z
  ·exact n z
  ·exact h z)
 let Yf:∀ b o,s.heap.get? b=some o->H b≠none->(xQ s.heap (c::L2.frs X.stack)).get? b=some o:=λb o q n=>d b o (λz=>n (by rw[z];exact u)) q λz=>n (J.stkFree b z)
 let y:(xQ s.heap (c::L2.frs X.stack)).get? c=none:=tS _ (by simp)
 refine F.xe _ _ (Ad G D F.frame I (λb o q=>vL _ q) y w T (by rw[r];exact L f _ t λb o q=>vL _ q) λM j S=>?_)
 rw[r,x] at j;refine⟨c,_,m,H,Z,⟨⟨_,j,λb o q n=>?_,λb o q n h=>?_,λb o q h=>?_⟩,J.os,J.bare,Go F J j.1 d S e,J.hok.keptT λb o q n=>j.1 b o (Yf b o q n),e,u⟩,N⟩
 ·let⟨i,k⟩:=J.hok.there n;let R:=j.1 b i (Yf b i k n);let v:M.get? b=some o:=q;rw[R] at v;rw[<-zB.inj v];exact Yf b i k n
 ·let p:=J.base;rw[F.ex] at p;exact d b o (λz=>by rw[z,e] at q;cases q) (p.keep b o q n h (by simp)) (F.off J q h)
 ·let⟨i,k⟩:=J.base.there b o q (by rw[F.ex];simp)
  exact⟨i,d b i (λz=>by rw[z,e] at q;cases q) k (F.off J q h)⟩
def FM{a C:aj}{c:jx}(F:Wr X E)(J:ZE X ke σ H s)(b:X.s₀.heap.get? a=none)(e:H a=none)(f:WI QH a C c s.heap)(d:E (.ref C) c H):X.xe (.ref a) s:=ZLK F J b e f (λ_ z=>z.1) (λ_ _ z _=>.inl z.2) d
def AW{i:aj}{cls:ai}{r:jx}{B j:aC}(F:Wr X E)(I:ZE X ke σ H s)(W:V1 X.prog X.w X.stack H s i cls r H' s')(Yf:∀ b o,s'.heap.get? b=some o->H' b≠none->B.get? b=some o)(v:∀ b o,s.heap.get? b=some o->H b=none->b∉L2.frs X.stack->B.get? b=some o)(m:∀ b o,s.heap.get? b=some o->b∉L2.frs X.stack->∃ c,B.get? b=some c)(f:Xq B X.outer i cls r .none j)(O:s'.heap.UpToSlots j)(q:E cls r H'):YB X.prog X.w X.outer X.H₀ X.s₀ E (.ref i) { s' with heap:=j }:=by
 let d:=I.base;rw[F.ex] at d;let L:∀{b:aj}{o:aG},b∈L2.frs X.stack->s.heap.get? b=some o->∀ y,o.data≠.fields y:=λa q=>LM I _ a _ q;let p:∀ b o,X.s₀.heap.get? b=some o->X.H₀ b=none->b∉L2.frs X.outer->B.get? b=some o:=λb o q n a=>v b o (d.keep b o q n a (by simp)) (d.free b o q n (by simp)) (F.off I q a)
 let g:∀ b o,s.heap.get? b=some o->b∈L2.frs X.stack->∃ t,j.get? b=some { o with slots:=t }:=λb o q a=>by
  let⟨t,h⟩:=W.un.slot b o q (I.stkFree b a) a (by simp)
  let⟨g,l⟩:=O b _ h (λy z=>L a q y z);exact⟨g,l⟩
 let u:Un (L2.frs X.outer) [] X.H₀ H' X.s₀.heap j:=by
  refine⟨λb o q n a _=>f.1 b o (p b o q n a),λb o q n a _=>?_,λb o q n _=>?_,λb o q _=>?_,λb D q=>W.un.tups b D (d.tups b D q),λb o u q=>W.un.frzs b o u (d.frzs b o u q),λb M q=>?_⟩
  ·let⟨t,h⟩:=d.slot b o q n a (by simp)
   let⟨x,G⟩:=g b _ h (F.on a);exact⟨x,G⟩
  ·let⟨c,e⟩:=d.there b o q (by simp)
   exact W.un.free b c e (d.free b o q n (by simp)) (by simp)
  ·let⟨c,e⟩:=d.there b o q (by simp)
   by_cases a:b∈L2.frs X.stack
   ·let⟨t,h⟩:=g b c e a;exact⟨_,h⟩
   ·let⟨A,l⟩:=m b c e a;exact⟨A,f.1 b A l⟩
  ·let⟨J,h⟩:=d.tbls b M q;let⟨K,l⟩:=W.un.tbls b _ h;exact⟨J++K,by rw[l,uS]⟩
 refine⟨i,cls,r,H',Z,⟨⟨B,f,λb o k n=>?_,p,λb o k a=>?_⟩,W.os.trans I.os,W.bare,u,W.hok.keptT λb o k n=>f.1 b o (Yf b o k n),?_,W.free⟩,q⟩
 ·let⟨c,e⟩:=W.hok.there n;let N:=f.1 b c (Yf b c e n);let C:j.get? b=some o:=k;rw[N] at C;rw[<-zB.inj C];exact Yf b c e n
 ·let⟨c,e⟩:=d.there b o k (by simp)
  exact m b c e (F.off I k a)
 ·cases z:X.s₀.heap.get? i with
  | none=>rfl
  | some o=>
   let⟨c,e⟩:=d.there i o z (by simp)
   rw[W.new] at e;cases e
def Ud{d:XK}(F:Wr X E)(i:∀ cls o H,d cls o H->E cls o H):VH (YB X.prog X.w) X d:=by
 intro ke σ H s e s' I h;let⟨k,cls,m,H',rfl,W,q⟩:=h;let⟨B,f,Yf,c,b⟩:=W.ex;let g:X.A.frames=some (X.env::X.outer):=by rw[I.ok.frames,F.stack]
 exact F.xe _ _ (ZHl g F.frame (by rw[<-F.stack];exact f) λl a j=>AW F I W Yf c b a j (i _ _ _ q))
inductive QK(C:aj)(f:Str)(E:XK)(c:jf)(b:Hp):Prop
 |mk(y:_)(_:c=[y])(_:∀ a,b a=none->E (.ref C) (some a) (upd b a (.xd [(f,y)])))
def FN(C:aj)(f:Str)(E:XK)(t:TA):TS:=λ_ σ H=>t σ H λb a=>QK C f E b a
def Dx{k:Nat}{C N:aj}{f x:Str}{fd:am}{R:jr}{e:Expr}{n:jy}{t:TA}{p g Q:aH}(F:Wr X E)(c:UB X.K C N f)(ht:yE X.K (.ref C)=some (.type "type"))(U:ZN X.prog X.w X.K X.mg X.base ZY k N fd R (On X.K C N f))(hr:ZZ (k+1) X.A)(hg:Gl X x)(hm:X.mg x=some (.ref C))(hb:Z7 X.K fd R [])(ha:PA X (e::n) t)(O:(x==("__debug__" : Str))=false:=by decide)(he:aq (e::n) X.env=(false,aF e X.env)::aq n X.env:=by rfl)(P:(aE g (aq n X.env)).any (·.1)=false:=by rfl):
  PS X (.Raise (some (.Call (.Name x p) (e::n) [] g)) none Q) (FN C f E t):=by
 intro ke s σ H D I h;let hh:=I.ok.hd F.calm;rw[arm_exec_Raise];refine aa (ah ?_);refine IO hh c.exc.mB ht (aa (ae ?_ (λv s3 h3=>aa (ah (ad h3))) λ_ _ z=>z));refine ag (Ql I hg hm ?_ O);refine vM (h₀:=X.base) I.ok.mod.kin c.kp (Zz (ha g ke s σ H _ I h) λus d ⟨vs,l,m,r,y,ey,q⟩=>⟨m.kIn,?_⟩) he P;subst ey;obtain⟨u,rfl,S⟩:∃ u,us=[u]/\ZU y u:=by
  cases r with
  | cons S r0=>cases r0;exact⟨_,Z,S⟩
 refine Bz m.kIn c (by show 1<=ap;rw[sizeLine_eq];lia) ?_
 let kk:∀ b o,d.heap.get? b=some o->(Q4 d.heap C [u]).get? b=some o:=λb o q=>zP _ (zP _ q);let e1:(Q4 d.heap C [u]).get? (d.heap.objs.size+1)=some { cls:=.ref C,data:=.fields #[.ref d.heap.objs.size,.none,.none,.none,.bool false,.none] }:=by heap_get
 let Y:d.heap.get? (d.heap.objs.size+1)=none:=uX (yB _);let h0:l (d.heap.objs.size+1)=none:=m.hok.fresh (yB _);let L:X.s₀.heap.get? (d.heap.objs.size+1)=none:=by
  cases z:X.s₀.heap.get? (d.heap.objs.size+1) with
  | none=>rfl
  | some o=>
   let⟨o',q'⟩:=m.base.there _ o z (by rw[F.ex];simp)
   rw[Y] at q';cases q'
 let J:=m.newx (C:=C) (ea:=d.heap.objs.size+1) (h':=Q4 d.heap C [u]) kk Y ⟨_,_,e1,Z,Z,Z,Z,Z⟩;generalize a0:d.heap.objs.size+1=a at *;let r2:ZT [V.ref a,y] [Value.ref a,u]:=.cons Z (.cons S .nil);let G:On X.K C N f [V.ref a,y] (upd l a (XO QH a C none)) (λv H2=>v=.non/\∃ i,H2=upd (upd l i (.xd [(f,y)])) a (XO QH a C (some i))/\l i=none/\i≠a) E0:=by
  refine⟨c,_,y,Z,ZP,λi hd B=>⟨Z,i,?_,?_,B⟩⟩
  ·funext b
   by_cases z:b=a
   ·rw[z,ZP,ZP]
   ·rw[ZM z,ZM z];by_cases T:b=i
    ·rw[T,ZP,ZP]
    ·rw[ZM T,ZM T,ZM z]
  ·rw[ZM B] at hd;exact hd
 let hl:([Value.ref a,u]++([]:je)).length=R.length:=by
  let e:=r2.length;rw[U.len _ _ _ _ G] at e;exact e.symm
 refine wpAny_call (codeAny_mono (U.run _ X.stack _ _ ⟨[Value.ref a,u],[]⟩ _ _ _ E0 (hr.make C [u] []) (J.env0.make C [u] []) (hb _ [Value.ref a,u] J.kIn hl) r2 G) λr s' j=>?_)
 cases r with
 | error e=>exact(YY ke σ _ _ e s' J j)
 | ok fl=>
  cases fl with
  | ret u2=>
   let⟨v,H',M,rv,ev,i,eH,nd,ne⟩:=J.after j;subst ev eH;exists rv,a,some i,Z,M.kIn,(M.hok a _ ZP).1;let hn:upd l i (.xd [(f,y)]) a=none:=by rw[ZM (Ne.symm ne)];exact h0
   exact FM F (M.untrack hn) L hn (M.hok a _ ZP).1 (q i nd)
  | next=>exact False.elim j
  | brk=>exact False.elim j
  | cont=>exact False.elim j
end
def MP{X:Cx}{d:js}{p:St}{H i:Hp}{s g:ak}{t:aj}{u:jx}{B f:aC}{cls:ai}(I:ZE X d p H s)(W:V1 X.prog X.w X.stack H s t cls u i g)(Yf:∀ b o,g.heap.get? b=some o->i b≠none->B.get? b=some o)(k:∀ b o,s.heap.get? b=some o->H b=none->b∉frs X.stack->B.get? b=some o)(j:∀ b o,s.heap.get? b=some o->b∉frs X.stack->∃ h,B.get? b=some h)(m:B.StaysIn f)(v:g.heap.UpToSlots f):
  ZE X d p i { g with heap:=f }:=by
 let c:∀ b o,s.heap.get? b=some o->b∈frs X.stack->∃ l,f.get? b=some { o with slots:=l }:=λb o q a=>by
  let⟨l,e⟩:=W.un.slot b o q (I.stkFree b a) a (by simp)
  let⟨c,r⟩:=v b _ e (λx z=>LM I b a o q x z);exact⟨c,r⟩
 refine I.call' (s':={ g with heap:=f }) W.os ⟨λb o q n a _=>m b o (k b o q n a),λb o q n a _=>c b o q a,W.un.free,λb o q _=>?_,W.un.tups,W.un.frzs,W.un.tbls⟩ (W.hok.keptT λb o q n=>m b o (Yf b o q n)) W.bare (λb a=>absurd a (by simp))
 by_cases a:b∈frs X.stack
 ·let⟨l,e⟩:=c b o q a;exact⟨_,e⟩
 ·let⟨h,e⟩:=j b o q a;exact⟨h,m b h e⟩
def Zn.okD{x b:Str}{g:aB}{f:aj}{n:am}{N l:jr}{k:Nat}{m:Sp}(F:Zn K x b g f n)(S:ZB N l (Zf g))(j:∀ e H Q E,m e H Q E->e.length=l.length)(d:∀ (c:ai) (A:aw) (a:jB) (s:ak) (H:Hp) (e:jf) (Q:VK) (E:XK),ZZ k (A.deeper (envOfC b (Zf g) s.heap.objs.size f c))->m e H Q E ->
   let X:=(WW (YB P w) P w K mg kf N b (Zf g) f c A a s H E);∃ t,X4 X (X7 g) t/\t { nx:=λ_ o=>Q .non o,rt:=Q } (start N e) H):ZN P w K mg kf (YB P w) (k+1) f n l m:=by
 let⟨y,z,kV,p,B,v,c,ct,u,rfl,r,h⟩:=F.ex;exact Gq r h S j λA a s H e Q E q i=>d c A a s H e Q E q i
def Zn.kD{x a:Str}{g:aB}{f:aj}{m:am}{N j:jr}{k:Nat}{l:Sp}(F:Zn K x a g f m)(S:ZB N j (Zf g))(b:∀ (e:ai) (A:aw) (c:jB) (s:ak) (H:Hp) (d:jf) (Q:VK) (E:XK),ZZ k (A.deeper (envOfC a (Zf g) s.heap.objs.size f e))->l d H Q E ->
   let X:=(WW (YB P w) P w K mg kf N a (Zf g) f e A c s H E);∃ t,X4 X (X7 g) t/\t { nx:=λ_ n=>Q .non n,rt:=Q } (start N d) H)(i:∀ d H Q E,l d H Q E->d.length=j.length:=by intro d _ _ _ h;cases h;(try subst d);rfl):ZN P w K mg kf (YB P w) (k+1) f m j l:=F.okD S i b
def Bl{e:ai}{env env':Env}(h:env.frame=env'.frame):noteFrame e env=noteFrame e env':=by
 unfold noteFrame PySem.frameOf;rw[h]
section
variable{M:Model}
end
def GE{a h f:aC}:∀{l:jB},h.FunFrames a l->(∀ b∈frs l,f.get? b=h.get? b)->f.FunFrames a l
 | [],_,_=>trivial
 | c::l,⟨hk,⟨L,o,hf,hn,ho,hd⟩,hr⟩,k=>⟨hk,⟨L,o,hf,hn,(k L (wE.mpr ⟨c,zT,hf⟩)).trans ho,hd⟩,GE hr λb d=>k b (by
   let⟨e,g,d⟩:=wE.mp d;exact wE.mpr ⟨e,zI _ g,d⟩)⟩
section
variable{ke:js}{σ:St}{H:Hp}{E E1:XK}
end
section
variable{M:Model}{B:aC}{env:Env}{outer l:jB}{L e:aj}{cls:ai}{od:jx}{Q:Unit->ak->Prop}
def Hg{H:ai}{i:jx}(x:Xq B l e cls od H s.heap)(h:∀ k,Xq B l e cls od (i.elim .none λf=>rawInt f) k->s.heap.UpToSlots k->Q () { s with heap:=k }):aA M A (setFlight (.ref e) i) Q E s:=by
 let⟨J,F,G,I,N,T,P,v,⟨t,y,C,r,w⟩,m,p,j,g,K,D⟩:=x;let u:3<v.size:=(vZ.mp K).1;let a:∀ b,b≠T->(s.heap.update T (Obj.mapFields (·.setIfInBounds 3 (i.elim Value.none λf=>rawInt f)))).get? b=s.heap.get? b:=λb n=>xZ _ _ n.symm;let c:∀ b o,s.heap.get? b=some o->(∀ O,o.data≠.fields O)->b≠T:=λb o q d z=>by
  rw[z,j] at q;cases q;exact d v g
 unfold setFlight;refine aa (wpAny_field t r w ?_);rw[aM (show (Value.ref T != Value.none)=true by simp)]
 refine wpAny_setField j g u (h _ ⟨λb o q=>(a b λz=>by rw[z,m] at q;cases q).trans (J b o q),F,G.of_keeps λb o q d=>⟨o,(a b (c b o q d)).trans q,Z⟩,?_⟩ λb o q d=>⟨o.slots,(a b (c b o q d)).trans q⟩)
 exact⟨I,N,T,_,_,⟨(a e p.symm).trans t,y,C,r,w⟩,m,p,wX _ j (Obj.isFreed_of_fields (Obj.data_mapFields g _)),Obj.data_mapFields g _,by simp[u],D⟩
def Fe{u:ai}(S:A.frames=some (env::outer))(r:env.frame=some L)(x:Xq B (env::outer) e cls od u s.heap)(h:∀ d,Xq B outer e cls od .none d->s.heap.UpToSlots d->Q () { s with heap:=d }):aA M A (leaving env (.ref e)) Q E s:=by
 by_cases K:u=rawInt L
 ·subst K;let x0:=x;let⟨N,I,J,X,vs,T,W,w,⟨k,F,G,j,p⟩,C,D,i,g,m,H⟩:=x;unfold leaving noteFrame;simp only[r];refine aa (aa (wpAny_field k j p ?_));rw[aM (show (Value.ref T != Value.none)=true by simp)]
  refine aa (wpAny_field i g m ?_);rw[aM (by simp)]
  exact ad (PY x0 λd t y=>h d t.less y)
 ·let⟨N,I,J,X,vs,T,W,w,⟨k,F,G,j,p⟩,C,D,i,g,m,H⟩:=x;subst F G;let V:3<w.size:=(vZ.mp m).1;let a:∀ b,b≠T->(s.heap.update T (Obj.mapFields (·.setIfInBounds 3 Value.none))).get? b=s.heap.get? b:=λb n=>xZ _ _ n.symm;let c:∀ b o,s.heap.get? b=some o->(∀ ws,o.data≠.fields ws)->b≠T:=λb o q f z=>by
   rw[z,i] at q;cases q;exact f w g
  unfold leaving noteFrame;simp only[r];refine aa (aa (wpAny_field k j p ?_));rw[aM (show (Value.ref T != Value.none)=true by simp)]
  refine aa (wpAny_field i g m ?_);rw[aK (show ¬ ((u==rawInt L)=true) from λz=>K (eq_of_beq z))];refine aa (wpAny_setField i g V ?_);refine Kt (s:={ s with heap:=_ }) S (J.of_keeps λb o q f=>⟨o,(a b (c b o q f)).trans q,Z⟩) r ((a e D.symm).trans k) (λb o q=>(a b λz=>by rw[z,C] at q;cases q).trans (N b o q)) I j (vZ.mp p).1 H λd R u'=>?_
  refine PY (s:={ s with heap:=d }) R λU t y=>h U t.less λb o q f=>?_;let⟨Y,O⟩:=u' b o ((a b (c b o q f)).trans q) f;let⟨v,P⟩:=y b { o with slots:=Y } O f;exact⟨v,P⟩
end
section
variable{ke:js}{σ:St}{H:Hp}{E E1:XK}
def ZFH{N:jr}{f:aD}{cl:jG}{fp:jw}{U:ai}{Q:ja}{R:Option (ai->Sem Unit)}{C:aj}(F:Wr X E)(hE:∀ cls o H,E1 cls o H->E cls o H)(I:ZE X ke σ H s)(hf:∀ b∈fp,Wm X ke H b)(hC:s.heap.objs.size<=C):
  VH (YB X.prog X.w) (Yl X N f cl C s H fp (notedBy (az X.prog X.w) X.A (compEnvC f cl C X.env) (λe L=>compPost (az X.prog X.w) X.A X.xe R Q U C (.error e) L))) E1:=by
 intro pc l2 Hc sc e L Ic h;let⟨x,cls,od,H',rfl,W,q⟩:=h;let⟨B,fl,Yf,i0,e9⟩:=W.ex;let e8:(Yl X N f cl C s H fp (notedBy (az X.prog X.w) X.A (compEnvC f cl C X.env) (λe L=>compPost (az X.prog X.w) X.A X.xe R Q U C (.error e) L))).stack=X.env::X.outer:=F.stack;let fl:Xq B (X.env::X.outer) x cls od .none L.heap:=e8 ▸ fl;let a9:X.A.frames=some (X.env::X.outer):=by rw[I.ok.frames,F.stack]
 show aA (az X.prog X.w) X.A (noteFrame (.ref x) (compEnvC f cl C X.env)) _ _ L;rw[Bl (env:=compEnvC f cl C X.env) (env':=X.env) rfl];refine LB a9 F.frame fl λh4 a0 c4=>?_;let⟨m,hn,_⟩:=Ic.loc;let hn:sc.heap.Ns C m:=hn;let J:Hc C=none:=Ic.free;let c3:C∉frs X.stack:=λz=>by
  let⟨_,t,g,_⟩:=I.stack.mem z;exact absurd (zU g) (vG.mpr hC)
 let c0:h4.Ns C m:=by
  let⟨o,es,ep,S,r⟩:=hn;exact c4.ns ⟨o,es,ep,W.un.keep C o S J c3 (by simp),r⟩
 show compPost (az X.prog X.w) X.A X.xe R Q U C (.error (.ref x)) { L with heap:=h4 }
 suffices hh:∃ m,h4.Ns C m/\∀ h',xB C h4 h'->∀ G:Env,G.locals=C->aA (az X.prog X.w) X.A (PySem.passOn "comprehension.variables-let-go" (.ref x) G:Sem ai) (λ_ _=>False) X.xe { L with heap:=h' } by
  cases R with
  | none=>exact hh
  | some u=>exact hh
 exists m,c0;intro h5 sb G _;let⟨k1,k2,k3,k4⟩:=a0
 let' B':=xQ B [C]
 let hB:∀ b o,B'.get? b=some o->B.get? b=some o/\b≠C:=λb o e=>by
  exists vL _ e;intro z;have:B'.get? C=none:=tS _ (by simp)
  rw[z,this] at e;cases e
 let O:∀ b o,B.get? b=some o->b≠C->B'.get? b=some o:=λb o e n=>tW _ e (by simpa using n)
 let i6:B'.StaysIn h5:=λb o e=>by
  let⟨j,n⟩:=hB b o e;exact(sb.2 b n).trans (k1 b o j)
 let c5:B'.get? x=none:=by
  cases z:B'.get? x with
  | none=>rfl
  | some o=>rw[(hB _ _ z).1] at k2;cases k2
 let i1:∀ b,B.get? b=none->B'.get? b=none:=λb z=>by
  cases y:B'.get? b with
  | none=>rfl
  | some o=>rw[(hB _ _ y).1] at z;cases z
 let M:∀ b o,h4.get? b=some o->b≠C->h5.get? b=some o:=λb o e n=>(sb.2 b n).trans e;let i7:B'.StaysIn B:=λb o e=>(hB b o e).1;let nC:∀ b∈frs (X.env::X.outer),b≠C:=λb i z=>c3 (by rw[F.stack];rw[<-z];exact i)
 let c6:h5.FunFrames B' (X.env::X.outer):=GE (PySem.W.funFrames_base i7 k3) λb i=>sb.2 b (nC b i);let a4:x≠C:=λz=>by
  let⟨o,es,ep,S,_⟩:=hn;rw[<-z,W.new] at S;cases S
 let⟨oe,vs,T,oT,ts,⟨he,a8,c8,hd,h1⟩,e0,c7,hT,Y,h3,cx⟩:=k4;let TC:T≠C:=λz=>by
  let⟨o,es,ep,S,c9,_⟩:=c0;rw[z,S] at hT;cases hT;rw[c9] at Y;cases Y
 let a6:Xq B' (X.env::X.outer) x cls od (rawInt X.env.locals) h5:=⟨i6,c5,c6,oe,vs,T,oT,ts,⟨M _ _ he a4,a8,c8,hd,h1⟩,i1 T e0,c7,M _ _ hT TC,Y,h3,cx.imp id λz C' t cd j k=>z C' t cd j (hB _ _ k).1⟩;unfold PySem.passOn;refine aa (wpAny_field (M _ _ he a4) hd h1 ?_);rw[aK (show ¬ ((Value.ref T==Value.none)=true) from by simp)]
 refine aa (Hg (s:={ L with heap:=h5 }) a6 λh6 a7 k4=>?_);refine wpAny_throw (F.xe _ _ ?_);refine Fe (s:={ L with heap:=h6 }) a9 F.frame a7 λh7 a5 i4=>?_;let a:=I.base;rw[F.ex] at a;let c:Un (frs X.stack) fp H Hc s.heap sc.heap:=Ic.base;let D:∀{b o},X.s₀.heap.get? b=some o->b∉fp:=fun{b o} e z=>by
  let⟨_,_,_,z3,_⟩:=hf b z;rw[F.ex] at z3;rcases z3 with z3 | z3
  ·simp at z3
  ·exact absurd (zU e) (vG.mpr z3)
 let K:∀{b o},X.s₀.heap.get? b=some o->b≠C:=fun{b o} e z=>by
  exact absurd (zU e) (vG.mpr (by rw[z];exact zL I.sz hC))
 let i5:∀ b o,L.heap.get? b=some o->(∀ vs,o.data≠.fields vs)->b≠C->∃ sl,h7.get? b=some { o with slots:=sl }:=λb o e a1 n=>by
  let⟨sl,e4⟩:=c4 b o e a1;let e5:=M b _ e4 n;let⟨l1,e6⟩:=k4 b _ e5 a1;let⟨i3,e7⟩:=i4 b _ e6 a1;exact⟨i3,e7⟩
 let l:∀ b o,X.s₀.heap.get? b=some o->X.H₀ b=none->b∉frs X.outer->B.get? b=some o/\H' b=none:=λb o e n i=>by
  let nb:=F.off I e i;let j:=a.keep b o e n i (by simp)
  let n1:=a.free b o e n (by simp)
  let k:=c.keep b o j n1 nb (D e);let n2:=c.free b o j n1 (D e);exact⟨i0 b o k n2 nb,W.un.free b o k n2 (by simp)⟩
 let v:∀ b o,X.s₀.heap.get? b=some o->b∉frs X.outer->∃ t,B.get? b=some t:=λb o e i=>by
  let nb:=F.off I e i;let⟨o1,j⟩:=a.there b o e (by simp)
  let⟨o2,k⟩:=c.there b o1 j (D e);exact e9 b o2 k nb
 let P:∀ b o,B.get? b=some o->b≠C->h7.get? b=some o:=λb o e n=>a5.1 b o (O b o e n);let p:∀ b o,X.s₀.heap.get? b=some o->X.H₀ b=none->b∈frs X.outer->(∃ sl,h7.get? b=some { o with slots:=sl })/\H' b=none:=λb o e n i=>by
  let⟨i2,j⟩:=a.slot b o e n i (by simp)
  let n1:=a.free b o e n (by simp)
  let V:b∈frs X.stack:=by rw[F.frs];exact zI _ i
  let⟨i9,k⟩:=c.slot b _ j n1 V (D e);let n2:=c.free b _ j n1 (D e);let⟨l0,e3⟩:=W.un.slot b _ k n2 V (by simp)
  let n3:=W.un.free b _ k n2 (by simp)
  let⟨_,t,g,d⟩:=I.stack.mem V;let a3:s.heap.get? b=some { o with slots:=i2 }:=j;rw[g] at a3;cases a3;let⟨sl,e7⟩:=i5 b _ e3 (λvs z=>d vs z) (K e);exact⟨⟨sl,e7⟩,n3⟩
 let i8:Un (frs X.outer) [] X.H₀ H' X.s₀.heap h7:={
  keep:=λb o e n i _=>P b o (l b o e n i).1 (K e)
  slot:=λb o e n i _=>(p b o e n i).1
  free:=λb o e n _=>by
   by_cases i:b∈frs X.outer
   ·exact(p b o e n i).2
   ·exact(l b o e n i).2
  there:=λb o e _=>by
   by_cases i:b∈frs X.outer
   ·let⟨⟨sl,z⟩,_⟩:=p b o e (I.ok.frf b i) i;exact⟨_,z⟩
   ·let⟨t,z⟩:=v b o e i;exact⟨t,P b t z (K e)⟩
  tups:=λb xs e=>W.un.tups b xs (c.tups b xs (a.tups b xs e))
  frzs:=λb o u e=>W.un.frzs b o u (c.frzs b o u (a.frzs b o u e))
  tbls:=λb ps e=>by
   let⟨m1,j⟩:=a.tbls b ps e;let⟨m2,k⟩:=c.tbls b _ j;let⟨m3,e3⟩:=W.un.tbls b _ k;exact⟨m1++m2++m3,by rw[e3,uS,uS,uS]⟩ }
 let a2:∀ b,H' b≠none->b≠C:=λb n z=>by
  let⟨o,es,ep,S,_⟩:=hn;exact n (by rw[z];exact W.un.free C o S J (by simp))
 let c2:X.s₀.heap.get? x=none:=by
  cases z:X.s₀.heap.get? x with
  | none=>rfl
  | some o=>
   let⟨o1,j⟩:=a.there x o z (by simp)
   let⟨o2,k⟩:=c.there x o1 j (D z);rw[W.new] at k;cases k
 let c1:∀ b o,h7.get? b=some o->H' b≠none->B'.get? b=some o:=λb o e n=>by
  let⟨t,q'⟩:=W.hok.there n;let j:=Yf b t q' n;let k:=P b t j (a2 b n);rw[e] at k;cases k;exact O b o j (a2 b n)
 exact⟨x,cls,od,H',Z,⟨⟨B',a5,c1,λb o e n i=>O b o (l b o e n i).1 (K e),λb o e i=>by
   let⟨t,z⟩:=v b o e i;exact⟨t,O b t z (K e)⟩⟩,(W.os.trans Ic.os).trans I.os,W.bare,i8,W.hok.keptT (λb o e n=>P b o (Yf b o e n) (a2 b n)),c2,W.free⟩,hE _ _ _ q⟩
def Ao{CX:Wn}{elt iter:Expr}{x:Str}{px:aH}{ifs:jy}{scope:aD}{cl:jG}{pos:aH}{ix:jo}{ys:jr}{tt:TT}{te:TE}{it:aj}{a:jw}{tn:Nat->aC->Prop}{J:It}{Q:VK}{E:ja}{RR:ai->aj->Result->ak->Prop}{E1:XK}(hp:∀ D C:aj,s.heap.objs.size<=C->VH CX (Yl X (x::ys) scope cl C s H a (notedBy (az X.prog X.w) X.A (compEnvC scope cl C X.env) (λe M=>RR (.ref D) C (.error e) M))) E1)(hc:X.calm=true)(ht:∀ C s H a E,Q5 (Yl X (x::ys) scope cl C s H a E) ifs tt)(he:∀ C s H a E,VH CX (Yl X (x::ys) scope cl C s H a E) E1->PE (Yl X (x::ys) scope cl C s H a E) elt te)(sub:YU X.env cl)(jj:scope.kind=.function)(hnd:(x::ys).Nodup)(hx:scope.names.lookup x=some .local)(jn:∀ y∈scope.names,y.2≠.cell)(hhas:∀ y,((relabel scope X.env).names.lookup y=some .cell\/(relabel scope X.env).names.lookup y=some .free)->∃ c,cl.lookup y=some c)(fo:YA X scope ix ys)(I:ZE X ke σ H s)(T:VQ X.prog X.w X.K (.Name x px) J a it tn)(st:tn 0 s.heap)(hf:∀ b∈a,Wm X ke H b)(q:Xs J σ ix tt te H Q)(hRR:∀ D C M t m,s.heap.objs.size<=C->ZE X ke σ t M->Wm X ke t C->M.heap.Ns C m->Q (.ref D) t->RR (.ref D) C (.ok .next) M):
  aA (az X.prog X.w) X.A (newList []) (λa0 l=>aA (az X.prog X.w) X.A (newFunctionEnv scope X.env.globals cl [] X.env.qual none .none (some X.env)) (λO c0=>
   codeAny (az X.prog X.w) X.A (.compStart (.ListComp elt [⟨.Name x px,iter,ifs,0⟩] scope pos) 0 (.ref it) a0 { O with scope:=relabel scope X.env }) (RR a0 O.locals) c0) E l) E s:=by
 refine wpAny_newObj_type (wpAny_newFunctionEnv jn (by intro y hy;simp at hy) (λk h f=>?_) jj)
 dsimp only at h f⊢;generalize R:s.heap.push { cls:=.type "list",dict:=none,data:=.seq ([]:je).toArray }=j at h f⊢;let hC:j.objs.size=s.heap.objs.size+1:=by rw[<-R,vU]
 let a2:s.heap.objs.size≠j.objs.size:=by rw[hC];exact zK (xT _)
 let v:s.heap.objs.size<=j.objs.size:=by rw[hC];exact yB _
 let below:∀ b,b<s.heap.objs.size->b≠j.objs.size/\b≠s.heap.objs.size:=λb g=>⟨by rw[hC];exact zK (wG g),zK g⟩
 let a6:∀ b o,s.heap.get? b=some o->k.get? b=some o:=λb o e=>f.extBut b o (below b (zU e)).1 (zP _ (R ▸ zP _ e));let F:∃ n,k.get? s.heap.objs.size=some { cls:=.type "list",data:=.seq ([]:je).toArray n }:=⟨_,f.extBut _ _ a2 (zP _ (R ▸ yS _ rfl))⟩;let⟨nD,F⟩:=F;let a3:∀ b∈a,Wm X ke H b/\b<s.heap.objs.size:=λb g=>⟨hf b g,by let⟨o,e,_⟩:=T.obj 0 _ st b g;exact zU e⟩
 let c7:H s.heap.objs.size=none:=I.hok.fresh (zY _);let⟨W,⟨m0,w0⟩,c1⟩:=q _ c7;generalize hE:notedBy (az X.prog X.w) X.A (compEnvC scope cl j.objs.size X.env) (λe M=>RR (.ref s.heap.objs.size) j.objs.size (.error e) M)=z;let c8:VH CX (Yl X (x::ys) scope cl j.objs.size s H a z) E1:=hE ▸ hp s.heap.objs.size j.objs.size v;let a4:(relabel scope X.env).names.lookup x=some .local:=lookup_relabel_local hx;let I0:ZE (Yl X (x::ys) scope cl j.objs.size s H a z) [] (Fu σ ix) (upd H s.heap.objs.size (.lst [])) { s with heap:=k,toks:=s.toks+([]:jJ).length }:=
  ZKx I a3 sub jj hhas fo (zY _) v a2 h a6 F
 let a7:tn 0 k:=T.keep _ _ _ st λb _ o e=>a6 b o e;let c5:∀ b∈a,upd H s.heap.objs.size (.lst []) b=none:=λb g=>by rw[ZM (below b (a3 b g).2).2];exact(hf b g).1
 let G:∀{t:Hp},(∀ b∈a,t b=none)->∀ b∈a,Wm (Yl X (x::ys) scope cl j.objs.size s H a z) [] t b:=λhn b g=>
  ⟨hn b g,(I0.ok.exf b g).1,I0.ok.exfs b g,.inl g,(I0.ok.exf b g).2,λp hp=>absurd (show p∈([]:js) from hp) (by simp)⟩
 let P:∀ l:ak,l={ s with heap:=k,toks:=s.toks+([]:jJ).length } ->
   codeAny (az X.prog X.w) X.A (.compLoop (.ListComp elt [⟨.Name x px,iter,ifs,0⟩] scope pos) 0 (.ref it) (.ref s.heap.objs.size) (compEnvC scope cl j.objs.size X.env)) (RR (.ref s.heap.objs.size) j.objs.size) l:=by
  rintro l rfl;refine HE (λn M=>∃ i L t,ZE (Yl X (x::ys) scope cl j.objs.size s H a z) [] L t M/\(∃ o,L=o::ix.map λi=>(σ[i]?).join)/\tn i M.heap/\(∀ b∈a,t b=none)/\W i n t) ?_ m0 ⟨0,_,_,I0,⟨none,Z⟩,a7,c5,w0⟩;rintro n s3 ⟨i,V,H3,I3,⟨o3,a5⟩,a8,a1,w3⟩;rw[hE];rcases c1 i n H3 w3 with ⟨a9,qn⟩ | ⟨go,step⟩
  ·refine Zz (T.done (Yl X (x::ys) scope cl j.objs.size s H a z) Z Z Z hc i [] s3 V H3 z I3 (G a1) a8 a9) ?_;rintro r s4 ⟨hr,Y⟩;subst hr;let⟨m4,c9,_⟩:=Y.loc;let Ix:ZE X ke σ H3 s4:=I.call' (s':=s4) (ch:=a) Y.os Y.base Y.hok Y.bare λb g=>by
    let⟨_,z1,_,z3,z4,z5⟩:=hf b g;exact⟨z3,z1,z4,z5⟩
   exact hRR _ _ s4 H3 m4 v Ix (I.fpOk v Y.free) c9 qn
  ·refine Zz (T.item (Yl X (x::ys) scope cl j.objs.size s H a z) Z Z Z hc i [] s3 V H3 z I3 (G a1) a8 go) ?_;rintro r s4 ⟨u,hr,h4⟩;subst hr;refine Zz h4 ?_;rintro _ s5 ⟨xv,H5,I5,r5,y5,U,c6⟩;let c3:=I5.pinned (G c6) (T.obj _ _ U);let B:∀{N:St}{H7:Hp}{s7:ak}{S:Nat},ZE (Yl X (x::ys) scope cl j.objs.size s H a z) ([]++Ow a s5.heap) N H7 s7->(∃ o,N=o::ix.map λi=>(σ[i]?).join)->S<n->W (i+1) S H7 ->
     ∃ m,m<n/\∃ i L t,ZE (Yl X (x::ys) scope cl j.objs.size s H a z) [] L t s7/\(∃ o,L=o::ix.map λi=>(σ[i]?).join)/\tn i s7.heap/\(∀ b∈a,t b=none)/\W i m t:=fun{N H7 s7 S} I7 e7 hm w7=>by
    refine⟨S,hm,i+1,N,H7,I7.unpinned,e7,T.keep _ _ _ U λb g o e=>(I7.pin (b,o) (yI _ (yI _ (Oz g e)))).1,λb g=>?_,w7⟩;let⟨o,e,d⟩:=T.obj _ _ U b g;exact(I7.pin (b,o) (yI _ (yI _ (Oz g e)))).2.1
   let hg:PG (Yl X (x::ys) scope cl j.objs.size s H a z) (.Name x px) (QJ 0):=Qo hnd Z (.inl a4) (.inr a4);refine YH (hg _ s5 V H5 xv u (λc2 H6=>c2=Q2 σ ix xv/\H6=H5) c3 r5 ⟨by rw[a5];rfl,Z⟩) λ_ s6 c2 H6 I6 e6 c4=>?_
   subst e6 c4;refine Zz (ht _ _ _ _ _ _ s6 _ _ _ I6 (step xv _ y5)) ?_;rintro ok s7 ⟨H7,I7,q7⟩
   cases ok with
   | false=>
    rw[aK zR] at q7⊢;let⟨S,hm,w7⟩:=q7;exact B I7 ⟨_,Z⟩ hm w7
   | true=>
    rw[aM rfl] at q7⊢;refine Zz (he _ _ _ _ _ c8 _ s7 _ _ _ I7 q7) ?_;rintro y s8 ⟨yv,H8,I8,r8,e0,S,e8,z8,hm,w8⟩;refine YH (UF _ s8 _ H8 (.ref s.heap.objs.size) [yv] (.ref s.heap.objs.size) [y] (λ_ H9=>W (i+1) S H9) I8 Z (.cons r8 .nil) ⟨_,e0,yv,Z,Z,e8,z8,w8⟩) λ_ s9 _ H9 I9 _ w9=>?_;exact B I9 ⟨_,Z⟩ hm w9
 exact codeAny_compStart_list (P _ Z) (T.self _ 0 _ _ _ a7 (P _ rfl))
def Bs{d c:Expr}{x:Str}{G:aH}{g:jy}{a:aD}{n:aH}{M:TI}{L:TT}{K:TE}(z:jo)(i:jr)(F:Wr X E)(hE:∀ cls o H,E1 cls o H->E cls o H)(hi:PI X (.Name x G) c M)(ht:∀ C s H f E,Q5 (Yl X (x::i) a (Xw X.env a.names []) C s H f E) g L)(he:∀ C s H f E,VH (YB X.prog X.w) (Yl X (x::i) a (Xw X.env a.names []) C s H f E) E1->PE (Yl X (x::i) a (Xw X.env a.names []) C s H f E) d K)(Y:YA X a z i)(hk:Ox X.env a.names=true:=by rfl)(k:OJ a x=true:=by rfl)(l:(x::i).Nodup:=by decide +kernel)(hs:∀ x,foldedSetIterable c X.env x=pure x:=by intro _;rfl):
  PE X (.ListComp d [⟨.Name x G,c,g,0⟩] a n) (Jl M z L K):=by
 intro ke s σ H Q I h;let B:=N8 k;let r:=Jo I.ok hk;rw[eval_ListComp];refine wpAny_comprehension_free (use:=none) Z hs (Jn r) B.kind B.names (Zz (hi ke s σ H _ I h) λv s1 h1=>Zz h1 λa0 s2 h2=>?_);let⟨it,f,tn,J,H2,e,t,T,p,u,q2⟩:=h2;subst e;refine Ao (RR:=λj C=>compPost (az X.prog X.w) X.A X.xe none (EP X ke σ Q) j C) (E1:=E1) (λD C y=>ZFH F hE t u y) F.calm ht he (KM r) B.kind l B.own B.cell (JW B.cell) Y t T p u q2 ?_;intro D C s' N m y O W hn q;refine⟨m,hn,λh' sb=>⟨.ref D,N,?_,Z,q⟩⟩;let⟨P,R,_,S,U,V⟩:=W;exact O.turned (t':=s'.toks) (λb o k e=>(sb.2 b k).trans e) P R S U V
end
section
variable{E:XK}
def MR{x:Str}{C:aj}{S c l:aH}(F:Wr X E)(O:OwnCls x C [.type "ValueError",.type "Exception",.type "BaseException",.type "object"] "ValueError.__new__" X.mg X.base)(Q:yQ X.K (.ref C)=true)(R:yR X.K C (.type "BaseException")=some true)(P:yE X.K (.ref C)=some (.type "type"))(L:Gl X x)(j:(x==("__debug__" : Str))=false:=by decide):
  PS X (.Raise (some (.Call (.Name x S) [] [] c)) none l) (λ_ _ H=>E (.ref C) none H):=by
 intro r s σ H D I h;let M:=I.ok.hd F.calm;rw[arm_exec_Raise];refine aa (ah ?_);refine IO M R P (aa (ae ?_ (λv s3 A=>aa (ah (ad A))) λ_ _ z=>z));let i:=rY;let⟨tl,N,nm,q,bs,n,sn,V,Y,t,dd,k0,k1,k2,k3,k5,mN,B,G,k,T⟩:=O.obj;refine ag (Ql I L O.bound ?_ j);refine tX I.kIn Q ?_;let⟨hp,g,d,tk,os⟩:=s;refine wpAny_call_exc_subU (rest:=[]) i i.hasB i (T.keeps I.bk) (I.bk _ _ B) (G.keeps I.bk) k (λw b e=>?_) (zF _);let⟨tt,u,e2,e3⟩:=e.there;let J:=I.newx (C:=C) (ea:=b) (h':=w) e.keeps e.new ⟨_,_,u,Z,Z,Z,Z,Z⟩;let p:H b=none:=by
  cases z:H b with
  | none=>rfl
  | some o=>
   let⟨U,m⟩:=I.hok.there (a:=b) (by rw[z];exact λy=>nomatch y)
   have:=e.new;rw[m] at this;cases this
 let f:X.s₀.heap.get? b=none:=by
  cases z:X.s₀.heap.get? b with
  | none=>rfl
  | some o=>
   let⟨U,m⟩:=I.base.there b o z (by rw[F.ex];simp)
   have:=e.new;rw[m] at this;cases this
 exact⟨b,none,Z,J.kIn,(J.hok b _ ZP).1,FM F (J.untrack p) f p (J.hok b _ ZP).1 h⟩
end
def Hz(K:zZ)(a:aj)(c:TS)(D:Yc)(d:St):XK:=λcls e b=>∃ C,cls=.ref C/\yR K C (.ref a)=some true/\c D d b
inductive OS(K:zZ)(e C:aj)(m:Str)(i:Sp)(t:TA)(j:TS)(D:Yc)(b:L2.St)(x:V)(c:Hp):Prop
 |mk(a h d:_)(_:x=.ref a)(_:c a=some (.ins C h d))(_:d.lookup m=none)(_:t b c λk f=>i (x::(k++[])) f (λ_ g=>D.nx b g) (Hz K e j D b))
def Ec(K:zZ)(b C:aj)(m:Str)(d:Sp)(e:TE)(t:TA)(f:TS):TS:=λD a H=>e a H λx c=>OS K b C m d t f D a x c
def Ah{X:Cx}{k:Nat}{f C CB:aj}{fd:am}{ps:jr}{sp:Sp}{m y:Str}{ji jh epos py ph pos:aH}{o e:Expr}{es:jy}{ta:TE}{t:TA}{b₀:aB}{suite:jK}{ts:TS}{pl:Sem Bool}(he:∀ S,PE (X.wish S) o ta)(c:Vb X.K C)(hm:Vl X.K C m f)(F:ZN X.prog X.w X.K X.mg X.base (YB X.prog X.w) k f fd ps sp)(hr:ZZ k X.A)(hb:Z7 X.K fd ps [])(ha:∀ S,PA (X.wish S) (e::es) t)(hst:X.stack=X.env::X.outer)(hfm:X.env.frame=some X.env.locals)(hy:Gl X y)(hyC:X.mg y=some (.ref CB))(ht:yE X.K (.ref CB)=some (.type "type"))(hB:yR X.K CB (.type "BaseException")=some true)(hs:∀ E S,X4 (X.held E S) (b₀::suite) ts)(hdy:(y==("__debug__" : Str))=false:=by decide)(hse:aq (e::es) X.env=(false,aF e X.env)::aq es X.env:=by rfl)(hpl:(aE jh (aq es X.env)).any (·.1)=false:=by rfl)(hev:aF (.Call (.Attribute o m ji) (e::es) [] jh) X.env=(do
   let ov<-aF o X.env
   standAt ji.atName
   let (f,first)<-holding [ov] (getMethod ov m pl)
   callWith jh f first (aE jh (aq (e::es) X.env)) (backToKw jh (keywordEach [] X.env))):=by rfl)(hsw:swapsWith (.Call (.Attribute o m ji) (e::es) [] jh) none epos.line X.env=pure false:=by rfl):
  PS X (.Try [.Expr (.Call (.Attribute o m ji) (e::es) [] jh) epos] [.ExceptHandler (some (.Name y py)) none (b₀::suite) ph] [] [] pos) (Ec X.K CB C m sp ta t ts):=by
 intro b s R H D I h;refine wpAny_Try_except ?_;let a6:X.A.frames=some (X.env::X.outer):=by rw[I.ok.frames,hst]
 let O:∀(T:Hp)(s1:ak)(i:ai)(g:ak),ZE X b R T s1->YB X.prog X.w X.stack T s1 (Hz X.K CB ts D R) i g ->
   aA (az X.prog X.w) X.A (noteFrame i X.env) (λ_ j=>aA (az X.prog X.w) X.A (setFlight i none) (λ_ n=>aA (az X.prog X.w) X.A (handleBy i X.env [.ExceptHandler (some (.Name y py)) none (b₀::suite) ph]) (SP X b D) X.xe n) X.xe j) X.xe g:=by
  intro T s1 i g p hx;let⟨E,cls,od,H',rfl,W,C,rfl,mC,q⟩:=hx;let⟨B,Y,Yf,a1,a0⟩:=W.ex;let a4:Xq B (X.env::X.outer) E (.ref C) od .none g.heap:=by rw[<-hst];exact Y
  refine LB a6 hfm a4 λh4 N a2=>?_;refine PY (s:={ g with heap:=h4 }) N λh5 M a3=>?_;let J5:ZE X b R H' { g with heap:=h5 }:=MP p W Yf a1 a0 M.1 (a2.trans a3);refine wpAny_handleBy_cons (codeAny_handlers_test ?_) (by intro q;cases q)
  refine Ql (J5.held E (λ_ _=>False)) hy hyC ?_ hdy;refine GL (s:={ g with heap:=h5 }) J5.kIn M.at.is ht hB mC ?_;refine codeAny_handlers_suite ?_;refine PY (s:={ g with heap:=h5 }) M λh6 a5 a7=>?_;let J6:ZE X b R H' { g with heap:=h6 }:=MP p W Yf a1 a0 a5.1 ((a2.trans a3).trans a7);refine ae (hs E _ b _ _ _ _ (J6.held E _) q) (λY s8 h8=>?_) λ_ _ z=>z
  cases Y with
  | next=>
   let⟨d,G,L,P⟩:=h8;exact⟨d,G,L.unheld p.ok,P⟩
  | brk=>
   let⟨d,G,L,P⟩:=h8;exact⟨d,G,L.unheld p.ok,P⟩
  | cont=>
   let⟨d,G,L,P⟩:=h8;exact⟨d,G,L.unheld p.ok,P⟩
  | ret u=>
   let⟨v8,d,G,L,r8,P⟩:=h8;exact⟨v8,d,G,L.unheld p.ok,r8,P⟩
 let I':=I.wish (λi g=>aA (az X.prog X.w) X.A (noteFrame i X.env) (λ_ j=>aA (az X.prog X.w) X.A (setFlight i none) (λ_ n=>aA (az X.prog X.w) X.A (handleBy i X.env [.ExceptHandler (some (.Name y py)) none (b₀::suite) ph]) (SP X b D) X.xe n) X.xe j) X.xe g);refine wpAny_execs_cons (wpAny_Expr_any ?_ I.quiet hsw);refine tP (pl:=pl) (Zz (he _ b s R H _ I' h) λu s1 ⟨x,T,p,rx,a,dx,fs,ex,E,l,q⟩=>?_) hev;subst ex;obtain rfl:u=Value.ref a:=rx;refine Mm p.unwish E c hm l ?_;refine vM (first:=[.ref a]) (h₀:=X.base) I.ok.mod.kin hm.kp (YH (ha _ jh b s1 R T _ p q) λQ s2 vs H2 U r q2=>⟨U.kIn,?_⟩) hse hpl
 let r2:ZT (V.ref a::(vs++[])) (Value.ref a::(Q++[])):=.cons Z (r.append .nil);let hl:(Value.ref a::Q++[]).length=ps.length:=by rw[show Value.ref a::Q++[]=Value.ref a::(Q++[]) from rfl,<-r2.length];exact F.len _ _ _ _ q2
 refine wpAny_call (codeAny_mono (F.run X.A X.stack s2 H2 ⟨.ref a::Q,[]⟩ (.ref a::Q++[]) (.ref a::(vs++[])) _ _ hr U.unwish.env0 (hb s2 (.ref a::Q) U.kIn hl) r2 q2) λrr g hq=>?_)
 cases rr with
 | error i=>exact O H2 s2 i g U.unwish hq
 | ok Y=>
  cases Y with
  | ret u=>
   let⟨v,H3,J,rv,q3⟩:=U.unwish.after hq;exact wpAny_execs_nil (wpAny_execs_nil ⟨R,H3,J,q3⟩)
  | next=>exact False.elim hq
  | brk=>exact False.elim hq
  | cont=>exact False.elim hq
end L2
namespace Tw
open PySem PySem.Spec L2 PyProof.Rows
variable{jZ kd CS CT CH CK CP CB:aj}
structure ZA(P:al)(w:ar)(K:zZ)(mg:jb)(kf:aC)(CX:Wn)(k:Nat)(C:aj)(m:Str)(ps:jr)(sp:Sp):Prop where
 ex:∃ f fd,Vl K C m f/\ZN P w K mg kf CX k f fd ps sp/\Z7 K fd ps []
def YS{X:Cx}{j:Wn}{k:Nat}{C:aj}{m:Str}{x:jr}{l:Sp}{E:XK}{o e:Expr}{g:jy}{n:TE}{t:TA}{a d:aH}{v:Sem Bool}(q:PE X o n)(c:Vb X.K C)(D:ZA X.prog X.w X.K X.mg X.base j k C m x l)(r:ZZ k X.A)(u:VH j X E)(p:PA X (e::g) t)(i:aq (e::g) X.env=(false,aF e X.env)::aq g X.env:=by rfl)(h:(aE a (aq g X.env)).any (·.1)=false:=by rfl)(s:aF (.Call (.Attribute o m d) (e::g) [] a) X.env=(do
   let ov<-aF o X.env
   standAt d.atName
   let (f,first)<-holding [ov] (getMethod ov m v)
   callWith a f first (aE a (aq (e::g) X.env)) (backToKw a (keywordEach [] X.env))):=by rfl):
  PE X (.Call (.Attribute o m d) (e::g) [] a) (Mb C m l [] E n t):=by
 let⟨f,y,M,F,b⟩:=D.ex;exact E9 q c M F r b .nil u p i h s
def OB{X:Cx}{e:Wn}{k:Nat}{C:aj}{m:Str}{q:jr}{g:Sp}{E:XK}{o:Expr}{h:TE}{d a:aH}{p:Sem Bool}(i:PE X o h)(c:Vb X.K C)(D:ZA X.prog X.w X.K X.mg X.base e k C m q g)(j:ZZ k X.A)(n:VH e X E)(l:aF (.Call (.Attribute o m a) [] [] d) X.env=(do
   let ov<-aF o X.env
   standAt a.atName
   let (f,first)<-holding [ov] (getMethod ov m p)
   callWith d f first (aE d (aq [] X.env)) (backToKw d (keywordEach [] X.env))):=by rfl):
  PE X (.Call (.Attribute o m a) [] [] d) (Mb C m g [] E h Uc):=by
 let⟨f,r,M,F,b⟩:=D.ex;exact B7 i c M F j b .nil n l
abbrev KW:Stmt:=XE (top 27) 0
abbrev Jh:Stmt:=XE (top 35) 0
abbrev KA:Stmt:=XE (top 35) 1
abbrev JV:Stmt:=XE (top 35) 3
abbrev Le:Stmt:=XE (top 35) 7
abbrev ID:Stmt:=XE (top 35) 8
abbrev JG:Stmt:=XE (top 35) 9
abbrev Li:Stmt:=XE (top 35) 12
abbrev M5:Stmt:=XE (top 35) 13
abbrev L0:Stmt:=XE (top 35) 16
abbrev Kp:Stmt:=XE (top 35) 17
abbrev Mw:Stmt:=XE (top 35) 18
abbrev Kw:Stmt:=XE (top 35) 23
structure Yd(K:zZ)(mg:jb)(jZ kd:aj):Prop where
 shelf:mg "Shelf" = some (.ref jZ)
 twig:mg "Twig" = some (.ref kd)
 cS:Vb K jZ
 cT:Vb K kd
 nk:YF K jZ "kept"
 nf:YF K jZ "following"
 nl:YF K jZ "looks"
 nth:YF K kd "things"
 ntg:YF K kd "tag"
 nab:YF K kd "above"
 nho:YF K kd "holds"
abbrev Qg(d a:aj)(n:Nat):List (Str×V):=[("kept",.ref d),("following",.int n),("looks",.ref a)]
abbrev Xp(d c:V)(a:aj)(b:Nat):List (Str×V):=[("things",d),("tag",c),("above",.ref a),("holds",.int b)]
structure Yh(jZ:aj)(H:Hp)(S d lk:aj)(n:Nat)(kvs:List (ZR×V))(ls:jf):Prop where
 self:∃ dx,H S=some (.ins jZ dx (Qg d lk n))
 kept:H d=some (.dK kvs)
 looks:H lk=some (.lst ls)
structure Wd(kd:aj)(H:Hp)(x:aj)(th tg:V)(ab:aj)(ho:Nat)(us:jf):Prop where
 self:∃ dx,H x=some (.ins kd dx (Xp th tg ab ho))
 above:H ab=some (.lst us)
def Yh.same{a:aj}{H c:Hp}{S d f:aj}{n:Nat}{b:List (ZR×V)}{g:jf}(h:Yh a H S d f n b g)(s:ZC H c):Yh a c S d f n b g:=by
 let⟨⟨i,e⟩,j,k⟩:=h;exact⟨⟨i,s _ _ e⟩,s _ _ j,s _ _ k⟩
def Wd.same{a:aj}{H b:Hp}{x:aj}{g f:V}{c:aj}{d:Nat}{i:jf}(h:Wd a H x g f c d i)(s:ZC H b):Wd a b x g f c d i:=by
 let⟨⟨j,e⟩,k⟩:=h;exact⟨⟨j,s _ _ e⟩,s _ _ k⟩
inductive QP(kd:aj)(h:jf)(H:Hp)(Q:VK)(_:XK):Prop
 |mk(x g:aj)(e d:V)(_:h=[.ref x,e,d])(_:H x=some (.ins kd g []))(_:∀(a:Hp)(c:aj),(∀ b o,b≠x->H b=some o->a b=some o)->H c=none->Wd kd a x e d c 1 []->Q .non a)
def CA:ZB zEx zEx (Zf KW):=Z4
def ZN0(F:Zn K "__init__" "Twig.__init__" KW f fd)(L:Yd K mg jZ kd):ZN P w K mg kf ZY 1 f fd zEx (QP kd):=by
 refine F.ko CA λl A j s H u Q E q h=>?_;let⟨x,d,t,r,rfl,m,k⟩:=h;intro p;exists _,ZQ (Ub (pv 0) (pv 1) Z) (ZQ (Ub (pv 0) (pv 2) rfl) (ZQ (Ub (pv 0) (XH Zw) rfl) (ZW (Ub (pv 0) ZO rfl))));exists _,Z,_,Z,x,kd,d,_,Z,m,L.cT,L.nth,yU Z;exists _,Z,_,Z,x,kd,d,_,Z,ZP,L.cT,L.ntg,yU Z;exists YX;intro i a;rw[N7] at a⊢;let c:x≠i:=λz=>by rw[<-z,ZP] at a;cases a
 let g:H i=none:=by rw[ZM (Ne.symm c)] at a;exact a
 exists _,Z,x,kd,d,_,Z,(by rw[ZM c];exact ZP),L.cT,L.nab,yU Z
 exists _,Z,x,kd,d,_,Z,ZP,L.cT,L.nho,yU Z;refine k _ i (λb o n e=>?_) g ⟨⟨d,ZP⟩,?_⟩
 ·rw[N7,ZM n,ZM (Za e g),ZM n];exact e
 ·rw[N7,ZM (Ne.symm c)];exact ZP
inductive QM(jZ:aj)(g:jf)(H:Hp)(Q:VK)(_:XK):Prop
 |mk(x e:aj)(_:g=[.ref x])(_:H x=some (.ins jZ e []))(_:∀(a:Hp)(d c:aj),(∀ b o,b≠x->H b=some o->a b=some o)->H d=none->H c=none->d≠c->Yh jZ a x d c 0 [] []->Q .non a)
def D6:ZB zEl zEl (Zf Jh):=Z4
def ZO4(F:Zn K "__init__" "Shelf.__init__" Jh f fd)(L:Yd K mg jZ kd):ZN P w K mg kf ZY 1 f fd zEl (QM jZ):=by
 refine F.ko D6 λu A p s H B Q E y h=>?_;let⟨x,j,rfl,t,k⟩:=h;intro v;exists _,ZQ (Ub (pv 0) OH Z) (ZQ (Ub (pv 0) ZO rfl) (ZW (Ub (pv 0) (XH Zw) rfl)));intro d m;let q:x≠d:=Za t m;exists _,Z,x,jZ,j,_,Z,(by rw[ZM q];exact t),L.cS,L.nk,yU Z
 exists _,Z,x,jZ,j,_,Z,ZP,L.cS,L.nf,yU Z;exists YX;intro g c;rw[N7] at c⊢;let r:x≠g:=λz=>by rw[<-z,ZP] at c;cases c
 let a:upd H d (.dK []) g=none:=by rw[ZM (Ne.symm r)] at c;exact c
 let l:d≠g:=λz=>by rw[<-z,ZP] at a;cases a
 let i:H g=none:=by rw[ZM (Ne.symm l)] at a;exact a
 exists _,Z,x,jZ,j,_,Z,(by rw[ZM r];exact ZP),L.cS,L.nl,yU Z
 refine k _ d g (λb o n e=>?_) m i l ⟨⟨j,ZP⟩,?_,?_⟩
 ·rw[ZM n,ZM (Za e i),ZM n,ZM (Za e m)];exact e
 ·rw[ZM (Ne.symm q),ZM l,ZM (Ne.symm q)];exact ZP
 ·rw[ZM (Ne.symm r)];exact ZP
inductive Ze(jZ:aj)(g:jf)(H:Hp)(Q:VK)(_:XK):Prop
 |mk(S d c:aj)(n:Nat)(a:List (ZR×V))(e:jf)(i:Int)(b:V)(_:g=[.ref S,.int i])(_:Yh jZ H S d c n a e)(_:Z5 a (.inl i)=some b)(_:Q b H)
def HP:ZB zEa zEa (Zf Mw):=Z4
def AD(F:Zn K "twig_of" "Shelf.twig_of" Mw f fd)(L:Yd K mg jZ kd):ZN P w K mg kf ZY 1 f fd zEa (Ze jZ):=by
 refine F.ko HP λl A a s H x Q E o h=>?_;let⟨S,d,u,n,q,v,i,b,rfl,⟨⟨c,e⟩,m,t⟩,p,k⟩:=h;let j:=WZ o;intro r;exists _,ZQ (Z1 (O0 (M4 j (pv 1) (Xg (pv 0) rfl))) VI Z6) (ZW (Zr (Xt j (Xg (pv 0) rfl) (pv 1))));let g:Zg H d (.int i) (some b):=p ▸ Zg.k (k:=Sum.inl i) m;refine⟨_,Z,_,Z,S,jZ,c,_,.ref d,Z,e,L.cS,L.nk,Z,d,some b,Z,g,_,Z,Zp ?_⟩;exact⟨_,Z,S,jZ,c,_,.ref d,Z,e,L.cS,L.nk,Z,_,Z,d,b,Z,g,k⟩
structure UZ(P:al)(w:ar)(K:zZ)(mg:jb)(kf:aC)(k:Nat)(C:aj)(ps:jr)(sp:Sp):Prop where
 ex:∃ f fd,Mk K C f/\ZN P w K mg kf ZY k f fd ps sp/\Z7 K fd ps []
structure Na(jZ kd:aj)(H:Hp)(S d lk:aj)(n:Nat)(kvs:List (ZR×V))(ls:jf)(i:Int)(x:aj)(th tg:V)(ab:aj)(ho:Nat)(us:jf):Prop where
 sh:Yh jZ H S d lk n kvs ls
 val:Z5 kvs (.inl i)=some (.ref x)
 tw:Wd kd H x th tg ab ho us
inductive XG(jZ kd:aj)(res:V->Nat->jf->V)(l:jf)(H:Hp)(Q:VK)(_:XK):Prop
 |mk(S d h:aj)(n:Nat)(a:List (ZR×V))(j:jf)(i:Int)(x:aj)(k c:V)(g:aj)(b:Nat)(e:jf)(_:l=[.ref S,.int i])(_:Na jZ kd H S d h n a j i x k c g b e)(_:Q (res c b e) H)
def ZJ3:ZB zEa zEa (Zf ID):=Z4
def ZHi(F:Zn K "outside" "Shelf.outside" ID f fd)(L:Yd K mg jZ kd)(e:ZA P w K mg kf ZY 1 jZ "twig_of" zEa (Ze jZ)):ZN P w K mg kf ZY 2 f fd zEa (XG jZ kd λ_ a _=>.int a):=by
 refine F.ko ZJ3 λg A c s H B Q E o h=>?_;let⟨S,d,q,n,b,r,i,x,y,v,u,a,z,rfl,R,k⟩:=h;intro t;exists _,ZW (Zr (Xg (YS (E:=E0) (pv 0) L.cS e o YY (ZV (pv 1))) rfl));let⟨l,m⟩:=R.sh.self;let⟨j,p⟩:=R.tw.self;exact⟨_,Z,S,l,_,Z,m,Z,_,Z,S,d,q,n,b,r,i,.ref x,Z,R.sh,R.val,x,kd,j,_,.int a,Z,p,L.cT,L.nho,Z,k⟩
def Fo:ZB zEa zEa (Zf M5):=Z4
def ZKT(F:Zn K "label" "Shelf.label" M5 f fd)(L:Yd K mg jZ kd)(e:ZA P w K mg kf ZY 1 jZ "twig_of" zEa (Ze jZ)):ZN P w K mg kf ZY 2 f fd zEa (XG jZ kd λc _ _=>c):=by
 refine F.ko Fo λg A b s H B Q E o h=>?_;let⟨S,d,q,n,a,r,i,x,y,c,u,v,z,rfl,R,k⟩:=h;intro t;exists _,ZW (Zr (Xg (YS (E:=E0) (pv 0) L.cS e o YY (ZV (pv 1))) rfl));let⟨l,m⟩:=R.sh.self;let⟨j,p⟩:=R.tw.self;exact⟨_,Z,S,l,_,Z,m,Z,_,Z,S,d,q,n,a,r,i,.ref x,Z,R.sh,R.val,x,kd,j,_,c,Z,p,L.cT,L.ntg,Z,k⟩
def Wj:ZB zE7 zEa (Zf Le):=Z4
def Ap(F:Zn K "holders" "Shelf.holders" Le f fd)(T:YR mg)(L:Yd K mg jZ kd)(m:ZA P w K mg kf ZY 1 jZ "twig_of" zEa (Ze jZ)):ZN P w K mg kf ZY 2 f fd zEa (XG jZ kd λ_ a e=>.int ((e.length:Nat)+(a:Nat):Int)):=by
 refine F.ko Wj λo A c s H C Q E r h=>?_;let⟨S,d,t,n,b,u,i,x,B,z,g,a,e,rfl,R,k⟩:=h;let v:=Wj.nd;intro y;exists _,ZQ (Zs 2 v (YS (E:=E0) (pv 0) L.cS m r YY (ZV (pv 1)))) (ZW (Zr (Z2 Wl (Zy WH rfl T.len Xh (ZV (Xg (pv 2) rfl))) (Xg (pv 2) rfl))));let⟨p,q⟩:=R.sh.self;let⟨j,l⟩:=R.tw.self;exists _,Z,S,p,_,Z,q,Z,_,Z,S,d,t,n,b,u,i,.ref x,Z,R.sh,R.val;exact⟨_,Z,x,kd,j,_,.ref g,Z,l,L.cT,L.nab,Z,g,e,Z,.inl (ZG.of R.tw.above),_,Z,x,kd,j,_,.int a,Z,l,L.cT,L.nho,Z,_,_,Z,Z,k⟩
inductive XA(kd:aj)(g:jf)(H:Hp)(Q:VK)(_:XK):Prop
 |mk(x:aj)(d:V)(a b:aj)(c:Nat)(e:jf)(h:Int)(i:jf)(_:g=[.ref x])(_:Wd kd H x d (.ref a) b c e)(_:H a=some (.tup (.int h::i)))(_:Q (.bl (decide (h > 0))) H)
def ZOQ:ZB zE8 zE8 (Zf Ju):=Z4
def ZMb(F:Zn K "is_stem" "is_stem" Ju f fd)(T:YR mg)(L:Yd K mg jZ kd):ZN P w K mg kf ZY 1 f fd zE8 (XA kd):=by
 refine F.ko ZOQ λc A a s H u Q E p h=>?_;let⟨x,r,b,n,o,t,e,y,rfl,W,g,k⟩:=h;let⟨q,l⟩:=T.height;let⟨d,i⟩:=W.self;intro m;exists _,ZW (Zr (VA Vr (Zi K (Xg (pv 0) rfl) (VS (v:=.int 0) rfl l ⟨_,rfl⟩)) ZO (Z0 _)));exact⟨_,Z,x,kd,d,_,.ref b,Z,i,L.cT,L.ntg,Z,.inr (.inl ⟨b,_,_,.int e,rfl,rfl,Zb.of g,Xk (j:=0) rfl,_,_,rfl,rfl,k⟩)⟩
inductive V8(jZ kd:aj)(s:jf)(H:Hp)(Q:VK)(_:XK):Prop
 |mk(S d c:aj)(n:Nat)(e:List (ZR×V))(j:jf)(i:Int)(x k m l:aj)(r:Nat)(q p u:jf)(h:Int)(_:s=[.ref S,.int i])(_:Na jZ kd H S d c n e j i x (.ref k) (.ref m) l r q)(_:H k=some (.lst p))(_:H m=some (.tup (.int h::u)))(_:c≠k)(_:c≠l)(_:j.length<=900)(_:∀(a:Hp)(g t:aj),(∀ b o,b≠c->H b=some o->a b=some o)->a c=some (.lst (j++[.int i]))->H g=none->a g=some (.lst p)->a t=some (.tup [.str (if h > 0 then "stem" else "leaf"),.ref g])->Q (.ref t) a)
def QA:ZB zE7 zEa (Zf Li):=Z4
def Dl(F:Zn K "look" "Shelf.look" Li f fd)(T:YR mg)(L:Yd K mg jZ kd)(DT:ZA P w K mg kf ZY 1 jZ "twig_of" zEa (Ze jZ))(DS:ZD P w K mg kf 1 "is_stem" zE8 (XA kd)):ZN P w K mg kf ZY 2 f fd zEa (V8 jZ kd):=by
 refine F.ko QA λa4 A a1 s H vs Q E hr h=>?_;let⟨S,d,j,n,W,p,i,x,J,tg,ab,ho,as,M,xs,U,rfl,R,V,C,Y,X,a3,k⟩:=h;let nd:=QA.nd;intro Xc;refine⟨_,ZQ (Zs 2 nd (YS (E:=E0) (pv 0) L.cS DT hr YY (ZV (pv 1))))
  (ZQ (XF (Vs yF xP xO UF (Xg (pv 0) rfl) (ZV (pv 1))))
  (ZQ (Z1 (Yg (Zm DS hr (ZV (pv 2)))) (ZW (Zr (XB (Zj X0 (WQ Ue rfl T.list Vw (ZV (Xg (pv 2) rfl))))))) Z6)
  (ZW (Zr (XB (Zj X0 (WQ Ue rfl T.list Vw (ZV (Xg (pv 2) rfl))))))))),?_⟩
 let⟨dx,hS⟩:=R.sh.self;let⟨O,hx⟩:=R.tw.self;exists _,Z,S,dx,_,Z,hS,Z,_,Z,S,d,j,n,W,p,i,.ref x,Z,R.sh,R.val;let l:=R.sh.looks;exists _,Z,S,jZ,dx,_,.ref j,Z,hS,L.cS,L.nl,Z,.inl ⟨Z,_,ZG.of l⟩,_,Z,j,p,.int i,Z,Z,l,YL ∅
 let G:∀ b o,b≠j->H b=some o->upd H j (.lst (p++[.int i])) b=some o:=λb o n e=>by rw[ZM n];exact e
 let a2:x≠j:=ZI hx l;let I:tg≠j:=ZI C l;let q:=G _ _ a2 hx;let D:=G _ _ I C;let u:=G _ _ (Ne.symm X) R.tw.above;let m:=G _ _ (Ne.symm Y) V;let v:upd H j (.lst (p++[.int i])) j=some (.lst (p++[.int i])):=ZP;let r:∀(w:Str)(c t:aj),upd H j (.lst (p++[.int i])) c=none->upd (upd H j (.lst (p++[.int i]))) c (.lst M) t=none->w=(if U > 0 then ("stem" : Str) else "leaf")->Q (.ref t) (upd (upd (upd H j (.lst (p++[.int i]))) c (.lst M)) t (.tup [.str w,.ref c])):=λw c t a B ew=>by
  let g1:=Zc a (.lst M);let g2:=Zc B (.tup [.str w,.ref c]);let g:=g1.trans g2;let a0:H c=none:=by
   cases z:H c with
   | none=>rfl
   | some o=>
    have:c≠j:=λy=>by rw[y,ZP] at a;cases a
    rw[ZM this,z] at a;cases a
  refine k _ c t (λb o n e=>g _ _ (G b o n e)) (g _ _ v) a0 (g2 _ _ ZP) ?_;rw[ZP,ew]
 exists _,Z,x,.ref J,tg,ab,ho,as,U,xs,Z,⟨⟨O,q⟩,u⟩,D,_,Z;by_cases N:U > 0
 ·rw[aJ N];refine YJ ⟨_,Z,x,kd,O,_,.ref J,Z,q,L.cT,L.nth,Z,J,M,Z,.inl (ZG.of m),λc a=>⟨YX,λt B=>?_⟩⟩;exact r _ c t a B (by rw[aM N])
 ·rw[aI N];refine Zp ⟨_,Z,x,kd,O,_,.ref J,Z,q,L.cT,L.nth,Z,J,M,Z,.inl (ZG.of m),λc a=>⟨YX,λt B=>?_⟩⟩;exact r _ c t a B (by rw[aK N])
inductive Wy(jZ:aj)(e:jf)(H:Hp)(Q:VK)(_:XK):Prop
 |mk(S d b:aj)(n:Nat)(a:List (ZR×V))(c:jf)(_:e=[.ref S])(_:Yh jZ H S d b n a c)(_:Q (.int a.length) H)
def C0:ZB zEl zEl (Zf Kp):=Z4
def ZMQ(F:Zn K "many" "Shelf.many" Kp f fd)(T:YR mg)(L:Yd K mg jZ kd):ZN P w K mg kf ZY 1 f fd zEl (Wy jZ):=by
 refine F.ko C0 λc A b s H o Q E j h=>?_;let⟨S,d,l,n,a,m,rfl,R,k⟩:=h;let⟨e,g⟩:=R.self;intro i;exists _,ZW (Zr (Zy Kk rfl T.len Xh (ZV (Xg (pv 0) rfl))));exact⟨_,Z,S,jZ,e,_,.ref d,Z,g,L.cS,L.nk,Z,d,a,Z,R.kept,k⟩
inductive Y5(jZ:aj)(g:jf)(H:Hp)(Q:VK)(_:XK):Prop
 |mk(S d c:aj)(n:Nat)(a:List (ZR×V))(e:jf)(b:jA)(_:g=[.ref S])(_:Yh jZ H S d c n a e)(_:a.map (·.1)=b.map Sum.inl)(_:b.Pairwise (· <= ·))(_:b.length<64)(_:∀ p,H p=none->Q (.ref p) (upd H p (.lst (b.map V.int))))
def ZJg:ZB zEl zEl (Zf L0):=Z4
def B1(F:Zn K "numbers" "Shelf.numbers" L0 f fd)(T:YR mg)(L:Yd K mg jZ kd):ZN P w K mg kf ZY 1 f fd zEl (Y5 jZ):=by
 refine F.ko ZJg λc A b s H t Q E p h=>?_;let⟨S,d,q,n,a,r,m,rfl,R,g,i,j,k⟩:=h;let⟨e,l⟩:=R.self;intro o;exists _,ZW (Zr (Zy (Pd rfl) rfl T.sorted Qb (ZV (Xg (pv 0) rfl))));exact⟨_,Z,S,jZ,e,_,.ref d,Z,l,L.cS,L.nk,Z,d,a,m,Z,R.kept,g,i,j,k⟩
structure XN(P:al)(w:ar)(K:zZ)(mg:jb)(kf:aC)(nm:Str)(C:aj):Prop where
 ex:∃ fI fd,UB K C fI "number" /\ ZN P w K mg kf ZY 1 fI fd zEa (On K C fI "number")/\Z7 K fd zEa []
 at_:mg nm=some (.ref C)
 ty:yE K (.ref C)=some (.type "type")
def LT{X:Cx}{E:XK}{g:Str}{C:aj}{e:Expr}{d:jy}{t:TA}{p a j:aH}(F:Wr X E)(N:XN X.prog X.w X.K X.mg X.base g C)(n:ZZ 2 X.A)(k:PA X (e::d) t)(m:Gl X g)(h:(g==("__debug__" : Str))=false:=by decide)(l:aq (e::d) X.env=(false,aF e X.env)::aq d X.env:=by rfl)(i:(aE a (aq d X.env)).any (·.1)=false:=by rfl):PS X (.Raise (some (.Call (.Name g p) (e::d) [] a)) none j) (FN C "number" E t):=by
 let⟨o,fd,c,G,b⟩:=N.ex;exact Dx F c N.ty G n m N.at_ b k h l i
def Vj(C:aj)(x:Int)(E:XK)(H:Hp):Prop:=∀ b a,ZC H a->a b=some (.xd [("number",.int x)])->E (.ref C) (some b) a
def Vj.go{C:aj}{x:Int}{E:XK}{H b:Hp}(r:Vj C x E H)(s:ZC H b){a:aj}(h:b a=none):E (.ref C) (some a) (upd b a (.xd [("number",.int x)])):=r a _ (s.trans (Zc h _)) ZP
def Vj.mono{C:aj}{x:Int}{E:XK}{H a:Hp}(r:Vj C x E H)(s:ZC H a):Vj C x E a:=λc b d e=>r c b (s.trans d) e
inductive Xd(jZ c:aj)(h:jf)(H:Hp)(Q:VK)(E:XK):Prop
 |mk(S d e:aj)(n:Nat)(a:List (ZR×V))(g:jf)(x:Int)(_:h=[.ref S,.int x])(_:Yh jZ H S d e n a g)(_:∀ b,Z5 a (.inl x)=some b->Q b H)(_:Z5 a (.inl x)=none->Vj c x E H)
def E4{m:aj}(F:Zn K "twig_of" "Shelf.twig_of" Mw f fd)(L:Yd K mg jZ kd)(N:XN P w K mg kf "NoTwig" m):ZN P w K mg kf (YB P w) 3 f fd zEa (Xd jZ m):=by
 refine F.okD HP (λv H Q E h=>(by let⟨_,_,_,_,_,_,_,rfl,_⟩:=h;rfl)) (λr A l s H v Q E p h=>?_)
 let⟨S,d,C,n,j,D,x,rfl,⟨⟨e,g⟩,o,B⟩,t,u⟩:=h;let q:=WZ p;intro y;exists _,ZQ (Z1 (O0 (M4 q (pv 1) (Xg (pv 0) rfl))) (ZW (LT WY N p (ZV (pv 1)) rfl)) Z6) (ZW (Zr (Xt q (Xg (pv 0) rfl) (pv 1))))
 cases b:Z5 j (.inl x) with
 | none=>
  let a:Zg H d (.int x) none:=b ▸ Zg.k (k:=Sum.inl x) o;refine⟨_,Z,_,Z,S,jZ,e,_,.ref d,Z,g,L.cS,L.nk,Z,d,none,Z,a,_,Z,YJ ?_⟩;exact⟨_,Z,_,Z,λz i=>(u b).go (ZC.refl H) i⟩
 | some c=>
  let a:Zg H d (.int x) (some c):=b ▸ Zg.k (k:=Sum.inl x) o;refine⟨_,Z,_,Z,S,jZ,e,_,.ref d,Z,g,L.cS,L.nk,Z,d,some c,Z,a,_,Z,Zp ?_⟩;exact⟨_,Z,S,jZ,e,_,.ref d,Z,g,L.cS,L.nk,Z,_,Z,d,c,Z,a,t c b⟩
inductive WB(jZ kd g:aj)(o:jf)(H:Hp)(Q:VK)(E:XK):Prop
 |mk(S d j:aj)(n:Nat)(b:List (ZR×V))(k:jf)(x:Int)(_:o=[.ref S,.int x])(_:Yh jZ H S d j n b k)(_:∀ e,Z5 b (.inl x)=some e->∃(a:aj)(l c:V)(h:aj)(i:Nat)(m:jf),e=.ref a/\Wd kd H a l c h i m/\Q c H)(_:Z5 b (.inl x)=none->Vj g x E H)
def Ep{e:aj}(F:Zn K "label" "Shelf.label" M5 f fd)(L:Yd K mg jZ kd)(g:ZA P w K mg kf (YB P w) 3 jZ "twig_of" zEa (Xd jZ e)):ZN P w K mg kf (YB P w) 4 f fd zEa (WB jZ kd e):=by
 refine F.okD Fo (λB H Q E h=>(by let⟨_,_,_,_,_,_,_,rfl,_⟩:=h;rfl)) (λi A c s H B Q E m h=>?_)
 let⟨S,d,u,n,b,v,x,rfl,R,r,t⟩:=h;intro C;exists _,ZW (Zr (Xg (YS (E:=E) (pv 0) L.cS g m (Ud WY λ_ _ _ h=>h) (ZV (pv 1))) rfl));let⟨k,l⟩:=R.self;refine⟨_,Z,S,k,_,Z,l,Z,_,Z,S,d,u,n,b,v,x,Z,R,λz o=>?_,t⟩;let⟨a,I,y,D,G,J,rfl,W,q⟩:=r z o;let⟨j,p⟩:=W.self;exact⟨a,kd,j,_,y,Z,p,L.cT,L.ntg,Z,q⟩
structure XS(P:al)(w:ar)(K:zZ)(mg:jb)(kf:aC)(CS:aj):Prop where
 stem:mg "NoStem" = some (.ref CS)
 exk:vV K CS QX "ValueError.__new__" = true
 kp:yQ K (.ref CS)=true
 mB:yR K CS (.type "BaseException")=some true
 ty:yE K (.ref CS)=some (.type "type")
def Gh{H:Hp}{L:YN}{u:V}(h:ZF H L.kt u):Z8 H L u:=by
 unfold YN.kt at h;rw[ZF] at h;let⟨a,q,rfl,e,b⟩:=h;rw[jU] at b;let⟨o,k,rfl,c,b⟩:=b;rw[jU] at b;let⟨i,l,rfl,f,b⟩:=b;rw[jU] at b;let⟨j,m,rfl,g,b⟩:=b;rw[jU] at b;let⟨p,n,rfl,d,b⟩:=b;rw[jU] at b;subst b;rw[ZF] at c d;subst c d;exact⟨a,i,j,Z,e,f,g⟩
structure YE where
 x:aj
 th:aj
 tg:aj
 ab:aj
abbrev ju:=List YE
def YE.d:YE:=⟨0,0,0,0⟩
structure OQ(kd:aj)(H:Hp)(ts:jq)(av:Nat->jo)(ho:Nat->Nat)(i:Nat)(a:YE):Prop where
 tw:Wd kd H a.x (.ref a.th) (.ref a.tg) a.ab (ho i) (iN (av i))
 things:∃ us,H a.th=some (.lst us)/\((gd ts i).h=0->jU H (Yk (gd ts i).rows) us)/\((gd ts i).h≠0->us=iN (gd ts i).bs)
 tag:Z8 H (Zu (gd ts i)) (.ref a.tg)
def OQ.same{b:aj}{H c:Hp}{f:jq}{d:Nat->jo}{e:Nat->Nat}{i:Nat}{a:YE}(h:OQ b H f d e i a)(s:ZC H c):OQ b c f d e i a:=by
 let⟨l,g,j,k⟩:=h.things;exact⟨h.tw.same s,⟨l,s _ _ g,λz=>(j z).sm s,k⟩,h.tag.mono (ZC.tups s)⟩
structure YD(jZ kd:aj)(H:Hp)(S d lk:aj)(ts:jq)(lv:jo)(av:Nat->jo)(ho:Nat->Nat)(as:ju)(kvs:List (ZR×V))(ls:jf):Prop where
 sh:Yh jZ H S d lk ts.length kvs ls
 keys:kvs.map (·.1)=lv.map (λi:Nat=>(Sum.inl (i:Int):ZR))
 val:∀ i:Nat,i∈lv->Z5 kvs (Sum.inl (i:Int))=some (.ref (as.getD i .d).x)
 lt:∀ i:Nat,i∈lv->i<ts.length
 len:as.length=ts.length
 tw:∀ i:Nat,i∈lv->OQ kd H ts av ho i (as.getD i .d)
 own:∀ i:Nat,i∈lv->(as.getD i .d).x≠S/\(as.getD i .d).ab≠lk/\(as.getD i .d).th≠lk/\(as.getD i .d).ab≠(as.getD i .d).th
 two:∀ i j:Nat,i∈lv->j∈lv->i≠j->(as.getD i .d).x≠(as.getD j .d).x/\(as.getD i .d).ab≠(as.getD j .d).ab/\(as.getD i .d).ab≠(as.getD j .d).th/\(as.getD i .d).th≠(as.getD j .d).th
def YD.same{a b:aj}{H e:Hp}{S d k:aj}{n:jq}{m:jo}{g:Nat->jo}{j:Nat->Nat}{f:ju}{c:List (ZR×V)}{l:jf}(h:YD a b H S d k n m g j f c l)(s:ZC H e):YD a b e S d k n m g j f c l:=
 ⟨h.sh.same s,h.keys,h.val,h.lt,h.len,λi o=>(h.tw i o).same s,h.own,h.two⟩
def OQ.frame{b:aj}{H H':Hp}{e:jq}{c:Nat->jo}{d:Nat->Nat}{i:Nat}{a:YE}(h:OQ b H e c d i a)(m:YC H H')(q:∀ o,H a.x=some o->H' a.x=some o)(p:∀ o,H a.th=some o->H' a.th=some o)(n:∀ o,H a.ab=some o->H' a.ab=some o):OQ b H' e c d i a:=by
 let⟨r,g,j,k⟩:=h.things;let⟨f,l⟩:=h.tw.self;exact⟨⟨⟨f,q _ l⟩,n _ h.tw.above⟩,⟨r,p _ g,λz=>(j z).mono m _ _,k⟩,h.tag.mono m⟩
def YD.none{b c:aj}{H:Hp}{S d o:aj}{q:jq}{f:jo}{j:Nat->jo}{n:Nat->Nat}{g:ju}{a:List (ZR×V)}{p:jf}(h:YD b c H S d o q f j n g a p){x:Int}(e:Yf f x=false):Z5 a (Sum.inl x)=tK:=by
 cases z:Z5 a (Sum.inl x) with
 | none=>rfl
 | some v=>
  have:=N3 z;rw[h.keys] at this;let⟨i,m,l⟩:=zE.mp this;let k:=Sum.inl.inj l;unfold Yf at e;refine absurd ⟨∅,?_⟩ (of_decide_eq_false e)
  rw[<-k];exact m
def Mo{a:jo}{x:Int}(h:Yf a x=true):∃ i:Nat,x=(i:Int)/\i∈a:=by
 unfold Yf at h;have:=of_decide_eq_true h;exact⟨x.toNat,∅,this.2⟩
def C7(F:Zn K "label_over" "label_over" LV f fd)(a3:K.In kf)(T:YR mg)(L:XS P w K mg kf CS)(DS:ZD P w K mg kf 8 "stand_side_by_side" zE0 V7):ZN P w K mg kf (YB P w) 9 f fd zFb (X9 CS):=by
 refine F.kD QG λc4 A a8 s H vs Q E hr h=>?_;let⟨l,q,r,rfl,hl,hk,hf,a9,k⟩:=h;let nd:=QG.nd;let a2:=hk.1;let⟨tf,mf⟩:=T.few;let⟨tm,mm⟩:=T.most;let⟨t0,m0⟩:=T.height;let⟨t1,m1⟩:=T.least;let⟨t2,m2⟩:=T.greatest;let⟨t3,m3⟩:=T.many;intro Xc;refine⟨_,ZQ (Z1 (Xv (FH Uf Uf (VS (v:=.int 2) rfl mf ⟨_,rfl⟩) (Zy WH rfl T.len Xh (ZV (pv 0))) (VS (v:=.int 4) rfl mm ⟨_,rfl⟩))) (ZW (MR WY (N9 a3 L.stem L.exk) L.kp L.mB L.ty rfl)) Z6)
  (ZQ (Wu MS rfl (Mf rfl T.range (Zj ZO (Zy WH rfl T.len Xh (ZV (pv 0))))) (YZ 1 nd)
   (ZW (Z1 (Xv (Yg (Zm DS hr (Zj (Zi K (pv 0) (Z2 Qf (pv 1) ZO)) (Zi K (pv 0) (pv 1)))))) (ZW (MR WY (N9 a3 L.stem L.exk) L.kp L.mB L.ty rfl)) Z6)))
  (ZQ (Zs 2 nd (Zy (ZOm rfl) rfl T.sum CW (ZV (UD [] [] rfl (Y9 (pv 0)) (λ_ _ _ _ _=>Vh) (λ_ _ _ _ _=>Zi K (pv 0) (VS (v:=.int 3) Z m3 ⟨_,Z⟩)) trivial))))
  (ZW (Zr (XB (OF (Z2 Wl (Zi K (Zi K (pv 0) ZO) (VS (v:=.int 0) rfl m0 ⟨_,rfl⟩)) ZO)
   (Zi K (Zi K (pv 0) ZO) (VS (v:=.int 1) rfl m1 ⟨_,rfl⟩))
   (Zi K (Zi K (pv 0) (OI P4 ZO)) (VS (v:=.int 2) rfl m2 ⟨_,rfl⟩))
   (pv 2))))))),?_⟩
 let S:∀(X:Hp)(i:Nat),ZC H X->i<q.length->∃(a:aj)(I G:V),q[i]? = some (.ref a)/\X a=some (.tup [.int (r.getD i .d).h,I,G,.int (r.getD i .d).m])/\ZF X (r.getD i .d).lo I/\ZF X (r.getD i .d).hi G:=λX i s' M=>by
  let hu:q[i]? = some q[i]:=zW M;let⟨a,I,G,e,e1,k1,k2⟩:=(hk.2 i _ hu).mono (ZC.tups s');exact⟨a,I,G,by rw[hu,e],e1,k1,k2⟩
 exists _,Z,l,q,Z,.inl (ZG.of hl),_,_,Z,Z,_,Z;rcases yH q.length 2 with h2 | h2
 ·rw[aI (show ¬ (2:Int)<=(q.length:Int) from nofun)]
  refine Zp ⟨_,Z,YJ ?_⟩;exact(k H (ZC.refl H)).1 (Fk nofun)
 rw[aJ (show (2:Int)<=(q.length:Int) from nofun)]
 refine YJ ⟨_,_,Z,Z,_,Z,?_⟩;rcases yH 4 q.length with h4 | h4
 ·rw[aI (show ¬ (q.length:Int)<=4 from nofun)]
  refine YJ ?_;exact(k H (ZC.refl H)).1 (Fk nofun)
 rw[aJ (show (q.length:Int)<=4 from nofun)]
 refine Zp ?_;exists _,Z,l,q,Z,.inl (ZG.of hl),1,(q.length:Int),Z,⟨nofun,nofun,nofun,nofun⟩
 refine NN (lo:=1) (n:=((q.length:Int)-1).toNat) (λi σ Y=>∃ x:jg,σ=[some (.ref l),x,none]/\ZC H Y/\∀ j,j<i->Uv (r.getD j .d) (r.getD (j+1) .d)=true) ⟨_,Z,ZC.refl H,λj hj=>absurd hj nofun⟩ ?_ ?_
 ·rintro i σ Y M ⟨x,rfl,B,O⟩;let a4:i+1<q.length:=nofun
  let ua:q[i]? = some (q[i]'nofun):=zW nofun
  let ub:q[i+1]? = some q[i+1]:=zW a4;let e1:(1:Int)+(i:Int)=((i+1:Nat):Int):=nofun
  let e0:(1:Int)+(i:Int)-1=((i:Nat):Int):=nofun
  let t:=B _ _ hl;refine⟨_,Z,_,Z,_,_,Z,Z,.inl ⟨l,q,_,_,Z,Z,ZG.of t,(by rw[e0];exact Xk ua),?_⟩⟩
  refine⟨_,Z,_,Z,.inl ⟨l,q,_,_,Z,Z,ZG.of t,(by rw[e1];exact Xk ub),?_⟩⟩
  refine⟨_,_,r.getD i .d,r.getD (i+1) .d,Z,(hk.2 i _ ua).mono (ZC.tups B),(hk.2 (i+1) _ ub).mono (ZC.tups B),hf i,hf (i+1),λu U=>⟨_,Z,?_⟩⟩
  cases hc:Uv (r.getD i .d) (r.getD (i+1) .d) with
  | true=>
   refine Zp ⟨_,Z,B.trans U,λj hj=>?_⟩;rcases yH j i with c1 | c1
   ·exact O j c1
   ·have:j=i:=nofun
    rw[this];exact hc
  | false=>exact YJ ((k u (B.trans U)).1 (ZMy nofun hc))
 rintro σ Y ⟨x,rfl,B,O⟩;let ho:=BC (ls:=r) nofun nofun λj hj=>O j nofun
 let t:=B _ _ hl;exists _,Z,l,Z,⟨q,ZG.of t⟩;refine UH (n:=q.length) (λi z=>q[i]? = some z) (λD i W u=>ZC Y u/\Y D=none/\W=((r.map YN.m).take i).map V.int) (YL nofun)
  (λD i W u M y=>⟨q,q[i],ZG.of (y.1 _ _ t),by simp[M]⟩) (λD i W u z H4 M y hy=>⟨hy.1,hy.2 q (ZG.of (y.1 _ _ t))⟩) (λD W u y=>⟨q,ZG.of (y.1 _ _ t),zY _⟩)
  (λD hD=>⟨Zc hD _,hD,Z⟩) (λD i W u z eD c6 M hz y R hR=>?_) (λD W u eD y=>?_)
 ·let⟨U,nD,rfl⟩:=y;let⟨a,c2,c0,ua,ea,c7,c8⟩:=S u i (B.trans U) M;rw[ua] at hz;cases hz;refine⟨_,Z,.inr (.inl ⟨a,_,_,.int (r.getD i .d).m,rfl,rfl,Zb.of ea,rfl,?_⟩)⟩;refine hR _ u eD ⟨λb o e=>by rw[ZM (Za e nD)];exact U b o e,nD,?_⟩
  let eg:(r.map YN.m)[i]? = some (r.getD i .d).m:=by
   rw[zS,zV,zW (show i<r.length from nofun)]
   rfl
  rw[yP,eg,yX];rfl
 ·let⟨U,nD,rfl⟩:=y;rw[yM (by rw[zX];lia (splits:=8))] at eD
  exists D,r.map YN.m,Z,ZG.of eD;let C:=B.trans U;let N:=C _ _ hl;let⟨c,a1,c5,uc,ec,a7,e2⟩:=S u 0 C nofun
  let⟨b,c3,a0,ub,eb,c9,a6⟩:=S u (q.length-1) C nofun
  let J:Xr q (-1)=some (.ref b):=by
   let e:q=q.dropLast++[.ref b]:=by
    let a5:q≠[]:=λz=>by rw[z] at h2;simp at h2
    let hg:q.getLast a5=.ref b:=by
     rw[rL];have:=(yN.mp ub).2;exact this
    rw[<-hg,qC]
   rw[e];exact LZ _ _
  refine⟨_,Z,.inl ⟨l,q,_,.ref c,Z,Z,ZG.of N,Xk (j:=0) uc,.inr (.inl ⟨c,_,_,.int (r.getD 0 .d).h,rfl,rfl,Zb.of ec,rfl,_,_,rfl,rfl,?_⟩)⟩⟩;refine⟨_,Z,.inl ⟨l,q,_,.ref c,Z,Z,ZG.of N,Xk (j:=0) uc,.inr (.inl ⟨c,_,_,a1,rfl,rfl,Zb.of ec,rfl,?_⟩)⟩⟩;refine⟨_,Z,1,Z,.inl ⟨l,q,_,.ref b,Z,Z,ZG.of N,J,.inr (.inl ⟨b,_,_,a0,rfl,rfl,Zb.of eb,rfl,?_⟩)⟩⟩;exists _,Z,YX;intro p hp;let g:=Zc hp (.tup [.int ((r.getD 0 .d).h+1),a1,a0,.int (r.map YN.m).sum]);refine(k _ (C.trans g)).2 _ _ ho ?_;rw[<-a2];exact .tup ZP (.cons (.int _) (.cons (a7.sm g) (.cons (a6.sm g) (.cons (.int _) .nil))))
abbrev JD:Stmt:=XE (top 35) 19
inductive Yo(jZ kd CT:aj)(p:jf)(H:Hp)(Q:VK)(E:XK):Prop
 |mk(S d n l:aj)(h:jq)(g:jo)(k:Nat->jo)(m:Nat->Nat)(j:ju)(e:List (ZR×V))(o:jf)(c:jA)(_:p=[.ref S,.ref l])(_:YD jZ kd H S d n h g k m j e o)(_:H l=some (.lst (c.map V.int)))(_:c.length<=100)(_:∀ x,c.find? (λx=>!Yf g x)=some x->Vj CT x E H)(_:∀ bs:jo,c=bs.map (λb:Nat=>(b:Int))->(∀ b∈bs,b∈g)->∀(D:aj)(i:jf)(a:Hp),ZC H a->H D=none->a D=some (.lst i)->YV a (Zx h bs) i->Q (.ref D) a)
def DJ:ZB zEe zEe (Zf JD):=Z4
def ZGY(F:Zn K "labels_of" "Shelf.labels_of" JD f fd)(L:Yd K mg jZ kd)(DL:ZA P w K mg kf (YB P w) 4 jZ "label" zEa (WB jZ kd CT)):ZN P w K mg kf (YB P w) 5 f fd zEe (Yo jZ kd CT):=by
 refine F.kD DJ λa1 A Y s H vs Q E hr h=>?_;let⟨S,d,lk,l,B,q,av,ho,as,X,ls,j,rfl,R,I,a0,k1,k2⟩:=h;intro Xc;exists _,ZW (Zr (Bs (E1:=E) [0] zEl WY (λ_ _ _ h=>h) (Y9 (pv 1)) (λ_ _ _ _ _=>Vh) (λ_ _ _ _ _ hp=>YS (E:=E) (pv 1) L.cS DL hr hp (ZV (pv 0))) ⟨rfl,.inl rfl,rfl,trivial⟩));exists _,Z,l,Z,⟨_,ZG.of I⟩;refine UH (n:=j.length) (λi z=>(j.map V.int)[i]? = some z) (λD i r g=>ZC H g/\H D=none/\(j.take i).find? (λx=>!Yf q x)=none/\YV g (Zx B ((j.take i).map vT)) r) (YL ∅)
  (λD i r g U k=>⟨_,.int j[i],ZG.of (k.1 _ _ I),by simp[U]⟩) (λD i r g z H4 U k o=>⟨o.1,o.2 _ (ZG.of (k.1 _ _ I))⟩) (λD r g k=>⟨_,ZG.of (k.1 _ _ I),by simp⟩)
  (λD hD=>⟨Zc hD _,hD,Z,Z,λi u e=>by simp at e⟩) (λD i r g z C a2 U hz k RR T=>?_) (λD us g C k=>?_)
 ·let⟨v,N,J,G⟩:=k;rw[zS] at hz;let⟨x,ex,rfl⟩:=yO.mp hz;let⟨f1,f2⟩:=JU J ex;let O:=R.same v;let⟨dx,hS⟩:=O.sh.self;refine⟨_,Z,S,dx,_,Z,hS,Z,_,Z,S,d,lk,B.length,X,ls,x,Z,O.sh,λtw p=>?_,λp=>?_⟩
  ·let M:Yf q x=true:=by
    cases c:Yf q x with
    | true=>rfl
    | false=>rw[R.none c] at p;cases p
   let⟨m,rfl,a⟩:=Mo M;rw[R.val m a] at p;cases p;let W:=O.tw m a;exists _,_,_,_,_,_,Z,W.tw;refine T _ g C ⟨VJ v N,N,f2 (by rw[M];rfl),?_⟩
   let tD:YC g (upd g D (.lst (r++[.ref (as.getD m .d).tg]))):=λb xs e=>by rw[ZM (ZI e C)];exact e
   rw[yP,ex];let e2:Zx B ((j.take i++(some ((m:Nat):Int)).toList).map vT)=Zx B ((j.take i).map vT)++[Zu (gd B m)]:=by unfold Zx;simp
   rw[e2];exact(G.snoc W.tag).mono tD
  ·let M:Yf q x=false:=by
    cases c:Yf q x with
    | false=>rfl
    | true=>
     let⟨m,rfl,a⟩:=Mo c;rw[R.val m a] at p;cases p
   exact(k1 x (f1 (by rw[M];rfl))).mono v
 ·let⟨v,N,J,G⟩:=k;rw[yM (zY _)] at J G;let t:∀ y∈j,Yf q y=true:=λy o=>by
   have:=vN.mp J y o;simpa using this
  refine k2 (j.map vT) ?_ (λb hb=>?_) D us g v N C G
  ·rw[yZ]
   conv=>lhs;rw[<-List.map_id j]
   refine tZ λy o=>?_;let⟨m,rfl,_⟩:=Mo (t y o);simp
  ·let⟨y,o,rfl⟩:=zE.mp hb;let⟨m,rfl,a⟩:=Mo (t y o);simpa using a
def NZ(a:Nat->jo)(b c:Nat):Nat->jo:=λi=>if i=b then a i++[c] else a i
def Wx(a:Nat->Nat)(b:Nat):Nat->Nat:=λi=>if i=b then a i-1 else a i
def YD.touch{n h:aj}{H p:Hp}{S d F:aj}{J:jq}{B:jo}{j:Nat->jo}{l:Nat->Nat}{f:ju}{s:List (ZR×V)}{I:jf}(R:YD n h H S d F J B j l f s I){b t:Nat}(q:b∈B)(U:∃ L,p (f.getD b .d).x=some (.ins h L (Xp (.ref (f.getD b .d).th) (.ref (f.getD b .d).tg) (f.getD b .d).ab (l b-1))))(T:p (f.getD b .d).ab=some (.lst (iN (j b++[t]))))(k:∀ c o,c≠(f.getD b .d).x->c≠(f.getD b .d).ab->H c=some o->p c=some o):YD n h p S d F J B (NZ j b t) (Wx l b) f s I:=by
 let⟨⟨K,D⟩,A,E⟩:=R.sh;let u:=R.tw b q;let⟨M,a⟩:=u.tw.self;let g:=u.tw.above;let⟨us,C,O,P⟩:=u.things;let m:YC H p:=λc xs e=>k c _ (ZI e a) (ZI e g) e;refine⟨⟨⟨K,k _ _ (R.own b q).1.symm (ZI D g) D⟩,k _ _ (ZI A a) (ZI A g) A,k _ _ (ZI E a) (R.own b q).2.1.symm E⟩,R.keys,R.val,R.lt,R.len,λi v=>?_,R.own,R.two⟩;by_cases z:i=b
 ·subst z;let w:NZ j i t i=j i++[t]:=aM Z;let y:Wx l i i=l i-1:=aM Z;refine⟨⟨?_,?_⟩,⟨us,k _ _ (ZI C a) (R.own i v).2.2.2.symm C,λz=>(O z).mono m _ _,P⟩,u.tag.mono m⟩
  ·rw[y];exact U
  ·rw[w];exact T
 ·let w:NZ j b t i=j i:=aK z;let y:Wx l b i=l i:=aK z;let Wi:=R.tw i v;let⟨X,Y,t3,t4⟩:=R.two i b v q z;let⟨s1,s2,W,s4⟩:=R.two b i q v (Ne.symm z);let⟨N,r⟩:=Wi.tw.self;let⟨vs,Q,_⟩:=Wi.things;let G:=Wi.frame m (λo e=>k _ _ X (by have:=r.symm.trans e;exact ZI r g) e) (λo e=>k _ _ (ZI Q a) W.symm e) (λo e=>k _ _ (ZI Wi.tw.above a) Y e)
  refine⟨?_,G.things,G.tag⟩;rw[w,y];exact G.tw
abbrev Lp:Stmt:=XE (top 35) 20
inductive YM(jZ kd CH:aj)(n:jf)(H:Hp)(Q:VK)(E:XK):Prop
 |mk(S d j l:aj)(m:jq)(g:jo)(i:Nat->jo)(a:Nat->Nat)(h:ju)(c:List (ZR×V))(k:jf)(bs:jo)(_:n=[.ref S,.ref l])(_:YD jZ kd H S d j m g i a h c k)(_:H l=some (.lst (iN bs)))(_:∀ b∈bs,b∈g)(_:∀ b,bs.find? (λb=>decide (a b=0))=some b->Vj CH (b:Nat) E H)(_:bs.find? (λb=>decide (a b=0))=none->∀ e,ZC H e->Q .non e)
def Xn:ZB ["self","numbers","number"] zEe (Zf Lp):=Z4
def DV(F:Zn K "check_held" "Shelf.check_held" Lp f fd)(L:Yd K mg jZ kd)(N:XN P w K mg kf "NotHeld" CH)(y:ZA P w K mg kf ZY 2 jZ "outside" zEa (XG jZ kd λ_ g _=>.int g)):ZN P w K mg kf (YB P w) 3 f fd zEe (YM jZ kd CH):=by
 refine F.kD Xn λz A q s H vs Q E v h=>?_;let⟨S,d,U,l,Y,lv,av,g,as,p,W,bs,rfl,R,t,M,O,T⟩:=h;let X:=Xn.nd;intro Xc;refine⟨_,ZW (Wu MS rfl (Y9 (pv 1)) (YZ 2 X)
  (ZW (Z1 (YI Wp (YS (E:=E0) (pv 0) L.cS y v YY (ZV (pv 2))) ZO (Z0 _)) (ZW (LT WY N v (ZV (pv 2)) rfl)) Z6))),?_⟩
 refine⟨_,Z,l,Z,⟨_,ZG.of t⟩,UT (K:=K) (a:=l) (xs:=iN bs) (λi n k=>∃ x:jg,n=[some (.ref S),some (.ref l),x]/\k=H/\(bs.take i).find? (λb=>decide (g b=0))=none) ⟨_,Z,Z,Z⟩ (λi n k _ I=>by let⟨_,_,rfl,_⟩:=I;exact ZG.of t) ?_ ?_⟩
 ·rintro i u n k e ⟨x,rfl,rfl,m⟩;unfold iN at e;rw[zS] at e;let⟨b,r,rfl⟩:=yO.mp e;let j:=M b (zG r);let⟨D,G⟩:=JU m r;let⟨B,J⟩:=R.sh.self;exists _,Z,S,B,_,Z,J,Z,_,Z,S,d,U,Y.length,p,W,(b:Int),_,_,_,_,_,_,Z,⟨R.sh,R.val b j,(R.tw b j).tw⟩;exists Z,_,Z;let C:decide (V.int (g b:Nat)=V.int 0)=decide (g b=0):=by
   rw[xD];simp
  rw[C]
  cases c:decide (g b=0) with
  | true=>exact YJ ⟨_,Z,_,Z,λdd o=>(O b (D c)).go (ZC.refl _) o⟩
  | false=>exact Zp ⟨_,Z,Z,G c⟩
 ·rintro n k ⟨x,rfl,rfl,m⟩;rw[show (iN bs).length=bs.length from zX _,yM (zY _)] at m;exact T m _ (ZC.refl _)
def Wt(bs:jo)(b:Nat)(a:Nat->jo):Nat->jo:=λi=>if i∈bs then a i++[b] else a i
def Y2(bs:jo)(a:Nat->Nat):Nat->Nat:=λi=>if i∈bs then a i-1 else a i
def ZKK{bs:jo}{b a:Nat}{c:Nat->jo}(h:b∉bs):NZ (Wt bs a c) b a=Wt (bs++[b]) a c:=by
 funext i
 unfold NZ Wt;by_cases z:i=b
 ·subst z;rw[aM rfl,aK h,aM (by simp)]
 ·rw[aK z];by_cases y:i∈bs
  ·rw[aM y,aM (by simp[y])]
  ·rw[aK y,aK (by simp[y,z])]
def Hb{bs:jo}{b:Nat}{a:Nat->Nat}(h:b∉bs):Wx (Y2 bs a) b=Y2 (bs++[b]) a:=by
 funext i
 unfold Wx Y2;by_cases z:i=b
 ·subst z;rw[aM rfl,aK h,aM (by simp)]
 ·rw[aK z];by_cases y:i∈bs
  ·rw[aM y,aM (by simp[y])]
  ·rw[aK y,aK (by simp[y,z])]
abbrev Jm:Stmt:=XE (top 35) 21
inductive Yp(jZ kd:aj)(q:jf)(H:Hp)(Q:VK)(_:XK):Prop
 |mk(S d k l:aj)(p:jq)(g:jo)(i:Nat->jo)(j:Nat->Nat)(a:ju)(e:List (ZR×V))(m:jf)(bs:jo)(n:Nat)(_:q=[.ref S,.int n,.ref l])(_:YD jZ kd H S d k p g i j a e m)(_:H l=some (.lst (iN bs)))(_:bs.Nodup)(_:∀ b∈bs,b∈g/\1<=j b/\(i b).length<=900)(_:∀ b:Nat,b∈g->l≠(a.getD b .d).ab)(_:∀ h:Hp,(∀ c o,(∀ b:Nat,b∈g->c≠(a.getD b .d).x/\c≠(a.getD b .d).ab)->H c=some o->h c=some o)->(∀ c,h c=none->H c=none)->YD jZ kd h S d k p g (Wt bs n i) (Y2 bs j) a e m->Q .non h)
abbrev G8:jr:=["self","stem","branches","branch","twig"]
def WL:ZB G8 zEj (Zf Jm):=Z4
def EW(F:Zn K "take_over" "Shelf.take_over" Jm f fd)(L:Yd K mg jZ kd)(DT:ZA P w K mg kf ZY 1 jZ "twig_of" zEa (Ze jZ)):ZN P w K mg kf ZY 2 f fd zEj (Yp jZ kd):=by
 refine F.ko WL λa2 A a1 s H vs Q E hr h=>?_;let⟨S,d,lk,l,ts,lv,v,j,g,T,ls,bs,W,rfl,R,hl,N,Y,a0,k⟩:=h;let nd:=WL.nd;intro Xc;refine⟨_,ZW (Wu PassesOwn.never rfl (Y9 (pv 2)) (YZ 3 nd)
  (ZQ (Zs 4 nd (YS (E:=E0) (pv 0) L.cS DT hr YY (ZV (pv 3))))
  (ZQ (MN (pv 4) ZO EC)
  (ZW (XF (Vs yF xP xO UF (Xg (pv 4) rfl) (ZV (pv 1)))))))),?_⟩
 refine⟨_,Z,l,Z,⟨_,ZG.of hl⟩,UT (K:=K) (a:=l) (xs:=iN bs) (λi σ m=>∃ x y:jg,σ=[some (.ref S),some (.int W),some (.ref l),x,y]/\(∀ c o,(∀ b:Nat,b∈lv->c≠(g.getD b .d).x/\c≠(g.getD b .d).ab)->H c=some o->m c=some o)/\(∀ c,m c=none->H c=none)/\YD jZ kd m S d lk ts lv (Wt (bs.take i) W v) (Y2 (bs.take i) j) g T ls)
  ⟨_,_,Z,λc o _ e=>e,λc e=>e,(by
   let e1:Wt [] W v=v:=funext λi=>aK (by simp)
   let e2:Y2 [] j=j:=funext λi=>aK (by simp)
   rw[show bs.take 0=[] from rfl,e1,e2];exact R)⟩ ?_ ?_ ?_⟩
 ·rintro i σ m _ ⟨x,y,rfl,O,_,R2⟩;refine ZG.of (O _ _ (λb Y=>⟨?_,a0 b Y⟩) hl);let⟨dx,I⟩:=(R.tw b Y).tw.self;exact ZI hl I
 ·rintro i u σ m C ⟨x,y,rfl,O,k3,R2⟩;unfold iN at C;rw[zS] at C;let⟨b,eb,rfl⟩:=yO.mp C;let⟨r,a3,a4⟩:=Y b (zG eb);let t:b∉bs.take i:=λz=>by
   let hs:bs=bs.take i++b::bs.drop (i+1):=by
    let hi:=(yN.mp eb);let⟨hi,e⟩:=hi;rw[<-e,<-xI hi,wB]
   rw[hs,vQ] at N;exact N.2.2 b z b (by simp) Z
  let M:Y2 (bs.take i) j b=j b:=aK t;let J:Wt (bs.take i) W v b=v b:=aK t;let⟨dS,hS⟩:=R2.sh.self;let Wb:=R2.tw b r;let⟨q,I⟩:=Wb.tw.self;let B:=Wb.tw.above;rw[M] at I;rw[J] at B;exists _,Z,S,dS,_,Z,hS,Z,_,Z,S,d,lk,ts.length,T,ls,(b:Int),.ref (g.getD b .d).x,Z,R2.sh,R2.val b r;exists _,Z,(g.getD b .d).x,kd,q,_,.int (j b:Nat),Z,I,L.cT,L.nho,Z,_,_,Z,Z,q,_,I,yU Z;let eh:((j b:Nat):Int)-1=((j b-1:Nat):Int):=∅
  let D:upd m (g.getD b .d).x (.ins kd q (Ye "holds" (.int (((j b:Nat):Int)-1)) (Xp (.ref (g.getD b .d).th) (.ref (g.getD b .d).tg) (g.getD b .d).ab (j b)))) (g.getD b .d).x=some (.ins kd q (Xp (.ref (g.getD b .d).th) (.ref (g.getD b .d).tg) (g.getD b .d).ab (j b-1))):=by rw[ZP,eh];rfl
  let X:(g.getD b .d).ab≠(g.getD b .d).x:=ZI B I;let p:upd m (g.getD b .d).x (.ins kd q (Ye "holds" (.int (((j b:Nat):Int)-1)) (Xp (.ref (g.getD b .d).th) (.ref (g.getD b .d).tg) (g.getD b .d).ab (j b)))) (g.getD b .d).ab=some (.lst (iN (v b))):=by rw[ZM X];exact B
  let G:∀ c o,c≠(g.getD b .d).x->m c=some o->upd m (g.getD b .d).x (.ins kd q (Ye "holds" (.int (((j b:Nat):Int)-1)) (Xp (.ref (g.getD b .d).th) (.ref (g.getD b .d).tg) (g.getD b .d).ab (j b)))) c=some o:=λc o n e=>by rw[ZM n];exact e
  let U:∀ c,upd m (g.getD b .d).x (.ins kd q (Ye "holds" (.int (((j b:Nat):Int)-1)) (Xp (.ref (g.getD b .d).th) (.ref (g.getD b .d).tg) (g.getD b .d).ab (j b)))) c=none->m c=none:=λc e=>by
   by_cases z:c=(g.getD b .d).x
   ·rw[z,ZP] at e;cases e
   ·rw[ZM z] at e;exact e
  generalize upd m (g.getD b .d).x (.ins kd q (Ye "holds" (.int (((j b:Nat):Int)-1)) (Xp (.ref (g.getD b .d).th) (.ref (g.getD b .d).tg) (g.getD b .d).ab (j b))))=H3 at D p G U⊢;exists _,Z,(g.getD b .d).x,kd,q,_,.ref (g.getD b .d).ab,Z,D,L.cT,L.nab,Z,.inl ⟨Z,_,ZG.of p⟩,_,Z,(g.getD b .d).ab,_,.int W,Z,Z,p,YL (by rw[show (iN (v b)).length=(v b).length from zX _];lia)
  let et:bs.take (i+1)=bs.take i++[b]:=by rw[yP,eb];rfl
  exists _,_,Z,λc o hc e=>?_,λc e=>?_
  ·let⟨n1,n2⟩:=hc b r;rw[ZM n2];exact G _ _ n1 (O c o hc e)
  ·by_cases z:c=(g.getD b .d).ab
   ·rw[z,ZP] at e;cases e
   ·rw[ZM z] at e;exact k3 c (U c e)
  ·rw[et,<-ZKK t,<-Hb t];refine R2.touch r ⟨q,?_⟩ ?_ λc o n1 n2 e=>?_
   ·rw[ZM (Ne.symm X),M];exact D
   ·rw[ZP,J];simp[iN]
   ·rw[ZM n2];exact G _ _ n1 e
 ·rintro σ m ⟨x,y,rfl,O,k3,R2⟩;rw[show (iN bs).length=bs.length from zX _,yM (zY _)] at R2;exact k m O k3 R2
def Bf{X:Cx}{k:Nat}{C:aj}{x:Str}{o:jr}{h:Sp}{e:Expr}{a:jy}{t:TA}{p c:aH}(D:UZ X.prog X.w X.K X.mg X.base k C o h)(n:ZZ (k+1) X.A)(l:Gl X x)(m:X.mg x=some (.ref C))(i:PA X (e::a) t)(d:(x==("__debug__" : Str))=false:=by decide)(j:aq (e::a) X.env=(false,aF e X.env)::aq a X.env:=by rfl)(g:(aE c (aq a X.env)).any (·.1)=false:=by rfl):
  PE X (.Call (.Name x p) (e::a) [] c) (MV C h [] E0 t):=by
 let⟨f,q,M,F,b⟩:=D.ex;exact EU M F n l m b .nil YY i d j g
def FP{X:Cx}{k:Nat}{C:aj}{x:Str}{i:jr}{d:Sp}{p c:aH}(D:UZ X.prog X.w X.K X.mg X.base k C i d)(h:ZZ (k+1) X.A)(e:Gl X x)(g:X.mg x=some (.ref C))(a:(x==("__debug__" : Str))=false:=by decide):PE X (.Call (.Name x p) [] [] c) (MV C d [] E0 Uc):=by
 let⟨f,j,M,F,b⟩:=D.ex;exact ZKi M F h e g b .nil YY a
def WR(n:Nat)(a:Nat->jo):Nat->jo:=λi=>if i=n then [] else a i
def Xb(n:Nat)(a:Nat->Nat):Nat->Nat:=λi=>if i=n then 1 else a i
def Pc{a:jq}{t:ZK}{i:Nat}(h:i<a.length):gd (a++[t]) i=gd a i:=by
 unfold gd;rw[zV,wO h,<-zV]
def Pn{a:jq}{t:ZK}:gd (a++[t]) a.length=t:=by
 unfold gd;rw[zV,wM (zY _)];simp
def Kv{b:ju}{a:YE}{i:Nat}(h:i<b.length):(b++[a]).getD i .d=b.getD i .d:=by
 rw[zV,wO h,<-zV]
def Lr{b:ju}{a:YE}:(b++[a]).getD b.length .d=a:=by
 rw[zV,wM (zY _)];simp
def FT{u l:aj}{H H':Hp}{S d M:aj}{f:jq}{D:jo}{B:Nat->jo}{L:Nat->Nat}{n:ju}{q:List (ZR×V)}{Y:jf}(R:YD u l H S d M f D B L n q Y){t:ZK}{x th tg ab:aj}(O:∀ b o,b≠S->b≠d->H b=some o->H' b=some o)(nx:H x=none)(s:H th=none)(r:H ab=none)(I:ab≠th)(R':Yh u H' S d M (f.length+1) (Zq q (.inl (f.length:Int)) (.ref x)) Y)(W:Wd l H' x (.ref th) (.ref tg) ab 1 [])(X:∃ k,H' th=some (.lst k)/\(t.h=0->jU H' (Yk t.rows) k)/\(t.h≠0->k=iN t.bs))(U:Z8 H' (Zu t) (.ref tg)):
  YD u l H' S d M (f++[t]) (D++[f.length]) (WR f.length B) (Xb f.length L) (n++[⟨x,th,tg,ab⟩]) (Zq q (.inl (f.length:Int)) (.ref x)) Y:=by
 let⟨⟨dS,P⟩,Q,hl⟩:=R.sh;let m:YC H H':=λc xs e=>O c _ (ZI e P) (ZI e Q) e;let en:(f++[t]).length=f.length+1:=by simp
 let nv:Z5 q (Sum.inl (f.length:Int))=none:=R.none (by unfold Yf;exact aI λz=>by have:=R.lt _ z.2;lia)
 let a:∀ i,i∈D++[f.length]->i∈D\/i=f.length:=λi g=>by simpa using g
 let el:n.length=f.length:=R.len;let A:∀ i,i∈D->(n++[(⟨x,th,tg,ab⟩:YE)]).getD i .d=n.getD i .d:=λi g=>Kv (by have:=R.lt i g;lia)
 let E:(n++[(⟨x,th,tg,ab⟩:YE)]).getD f.length .d=⟨x,th,tg,ab⟩:=by rw[<-el];exact Lr
 let y:∀ i,i∈D->∃ C k o,H (n.getD i .d).x=some (.ins l C k)/\H (n.getD i .d).th=some (.lst o)/\H (n.getD i .d).ab=some (.lst (iN (B i))):=λi g=>by
  let⟨C,v⟩:=(R.tw i g).tw.self;let⟨k,p,_⟩:=(R.tw i g).things;exact⟨C,_,k,v,p,(R.tw i g).tw.above⟩
 let nS:x≠S:=(Za P nx).symm;let F:ab≠M:=(Za hl r).symm;let N:th≠M:=(Za hl s).symm;refine⟨by rw[en];exact R',?_,λi g=>?_,λi g=>?_,by simp[el],λi g=>?_,λi g=>?_,λi j g hj K=>?_⟩
 ·rw[LY _ nv,yX,R.keys,yX];rfl
 ·rw[QZ];rcases a i g with c | rfl
  ·let T:=R.lt i c;rw[aK (λz=>by have:=Sum.inl.inj z;lia),A i c]
   exact R.val i c
  ·rw[aM rfl,E]
 ·rw[en];rcases a i g with c | rfl
  ·exact wG (R.lt i c)
  ·exact xT _
 ·rcases a i g with c | rfl
  ·let Wi:=R.tw i c;let⟨C,k,o,v,p,w⟩:=y i c;let T:=R.lt i c;let ni:i≠f.length:=∅
   let G:=Wi.frame m (λo' e=>O _ _ (R.own i c).1 (ZI v Q) e) (λo' e=>O _ _ (ZI p P) (ZI p Q) e) (λo' e=>O _ _ (ZI w P) (ZI w Q) e);rw[A i c];exists ?_,?_
   ·rw[show WR f.length B i=B i from aK ni,show Xb f.length L i=L i from aK ni];exact G.tw
   ·rw[Pc T];exact G.things
   ·rw[Pc T];exact G.tag
  ·rw[E];exists ?_,?_
   ·rw[show WR f.length B f.length=[] from aM rfl,show Xb f.length L f.length=1 from aM rfl];exact W
   ·rw[Pn];exact X
   ·rw[Pn];exact U
 ·rcases a i g with c | rfl
  ·rw[A i c];exact R.own i c
  ·rw[E];exact⟨nS,F,N,I⟩
 ·rcases a i g with c | rfl
  ·rw[A i c];rcases a j hj with J | rfl
   ·rw[A j J];exact R.two i j c J K
   ·rw[E];let⟨C,k,o,v,p,w⟩:=y i c;exact⟨Za v nx,Za w r,Za w s,Za p s⟩
  ·rw[E];rcases a j hj with J | rfl
   ·rw[A j J];let⟨C,k,o,v,p,w⟩:=y j J;exact⟨(Za v nx).symm,(Za w r).symm,(Za p r).symm,(Za p s).symm⟩
   ·exact absurd Z K
inductive Y1(jZ kd:aj)(k:jf)(H:Hp)(Q:VK)(_:XK):Prop
 |mk(S d g:aj)(n:Nat)(a:List (ZR×V))(h:jf)(j i:V)(_:k=[.ref S,j,i])(_:Yh jZ H S d g n a h)(_:a.length<=900)(_:∀(c:Hp)(x e:aj),H x=none->H e=none->(∀ b o,b≠S->b≠d->H b=some o->c b=some o)->Yh jZ c S d g (n+1) (Zq a (.inl (n:Int)) (.ref x)) h->Wd kd c x j i e 1 []->Q (.int (n:Int)) c)
def Wh:ZB ["self","things","label","number"] zEv (Zf JV):=Z4
def ZHa(F:Zn K "put_twig" "Shelf.put_twig" JV f fd)(L:Yd K mg jZ kd)(DM:UZ P w K mg kf 1 kd zEx (QP kd)):ZN P w K mg kf ZY 3 f fd zEv (Y1 jZ kd):=by
 refine F.ko Wh λa1 A Y s H vs Q E hr h=>?_;let⟨S,d,c,n,T,ls,th,tg,rfl,R,a0,k⟩:=h;let nd:=Wh.nd;let hu:=WZ hr;intro Xc;refine⟨_,ZQ (Zs 3 nd (Xg (pv 0) rfl)) (ZQ (Ub (pv 0) (Z2 Wl (pv 3) ZO) rfl)
  (ZQ (UM hu (Xg (pv 0) rfl) (pv 3) (Bf DM hr rfl L.twig (Zj (pv 1) (pv 2))) rfl) (ZW (Zr (pv 3))))),?_⟩
 let⟨⟨a,y⟩,J,M⟩:=R;let Sd:S≠d:=ZI y J;let Sl:S≠c:=ZI y M;let dl:d≠c:=ZI J M;exists _,Z,S,jZ,a,_,.int n,Z,y,L.cS,L.nf,Z;exists _,Z,_,_,Z,Z,_,Z,S,jZ,a,_,Z,y,L.cS,L.nf,yU Z;let l:upd H S (.ins jZ a (Ye "following" (.int ((n:Int)+1)) (Qg d c n))) S=some (.ins jZ a (Qg d c (n+1))):=ZP;let q:upd H S (.ins jZ a (Ye "following" (.int ((n:Int)+1)) (Qg d c n))) d=some (.dK T):=by rw[ZM (Ne.symm Sd)];exact J
 let r:upd H S (.ins jZ a (Ye "following" (.int ((n:Int)+1)) (Qg d c n))) c=some (.lst ls):=by rw[ZM (Ne.symm Sl)];exact M
 let u:∀ b o,b≠S->H b=some o->upd H S (.ins jZ a (Ye "following" (.int ((n:Int)+1)) (Qg d c n))) b=some o:=λb o n e=>by rw[ZM n];exact e
 let j:∀ b,upd H S (.ins jZ a (Ye "following" (.int ((n:Int)+1)) (Qg d c n))) b=none->H b=none:=λb e=>by
  by_cases z:b=S
  ·rw[z,ZP] at e;cases e
  ·rw[ZM z] at e;exact e
 generalize upd H S (.ins jZ a (Ye "following" (.int ((n:Int)+1)) (Qg d c n)))=B at l q r u j⊢;exists _,Z,_,Z;intro x G nx V ne;let g1:=Zc V (.own x);let X:upd B G (.own x) x=none:=by rw[ZM (Ne.symm ne)];exact nx
 let g2:=Zc X (.ins kd G []);let g:=g1.trans g2;refine⟨x,G,th,tg,Z,ZP,λH2 C O U W=>⟨Z,?_⟩⟩;let v:∀ b o,B b=some o->H2 b=some o:=λb o e=>O b o (Za e nx) (g b o e);let m:=v _ _ l;let i:=v _ _ q;let N:=v _ _ r;let p:B C=none:=g.free U;let⟨I,t⟩:=W.self;let xd:x≠d:=ZI t i;let D:C≠d:=ZI W.above i;exists _,Z,S,jZ,a,_,.ref d,Z,m,L.cS,L.nk,Z,_,Z,d,_,Z,Yr.k (k:=Sum.inl (n:Int)) i (YL ∅)
 refine⟨_,Z,k _ x C (j _ nx) (j _ p) (λb o n1 n2 e=>?_) ⟨⟨a,?_⟩,ZP,?_⟩ ⟨⟨I,?_⟩,?_⟩⟩
 ·rw[ZM n2];exact v b o (u b o n1 e)
 ·rw[ZM Sd];exact m
 ·rw[ZM (Ne.symm dl)];exact N
 ·rw[ZM xd];exact t
 ·rw[ZM D];exact W.above
end Tw
namespace Tw
open PySem PySem.Spec L2
variable{jZ kd CS CT CH CK CP CB:aj}
def Cz:ZB zFc zFc (Zf IC):=Z4
def Du(F:Zn K "has_few_figures" "has_few_figures" IC f fd)(T:YR mg):ZN P w K mg kf ZY 1 f fd zFc UE:=by
 refine F.ok Cz (λc H Q E h=>?_) (λb A a s H c Q E g h=>?_)
 ·let⟨i,rfl,_⟩:=h;rfl
 let⟨i,rfl,q⟩:=h;intro d;exists _,ZW (Zr (VA Qj (Zy Js rfl T.abs JB (Zh (pv 0) Zw)) (Z2 HZ ZO ZO) (Z0 _)));exists _,Z,_,Z,_,_,Z,Z,⟨by decide,by decide,by decide⟩,_,_,Z,Z
 let e:=D7 i;rw[<-e] at q;exact q
def Bt:ZB ["sign"] ["sign"] (Zf Jb):=Z4
def A0(F:Zn K "is_sign" "is_sign" Jb f fd):ZN P w K mg kf ZY 1 f fd ["sign"] Wq:=by
 refine F.ok Bt (λk H Q E h=>?_) (λi A d s H k Q E m h=>?_)
 ·let⟨c,rfl,_⟩:=h;rfl
 let⟨c,rfl,q⟩:=h;intro l;exists _,ZW (Zr (EB G7 G7 X0 (pv 0) X0));let g:(wQ " ").cps.toList=[32]:=by decide +kernel
 let j:(wQ "~").cps.toList=[126]:=by decide +kernel
 let e:=ZKb c;exists _,Z,_,_,Z,Z,_,Z;refine Yz (λb=>?_) (λb=>?_)
 ·exists _,_,Z,Z;let a:(!decide ([c]<[32]))=true:=by rw[<-g];exact b
  rw[a,uQ] at e;rw[<-e,<-j] at q;exact q
 ·let a:(!decide ([c]<[32]))=false:=by rw[<-g];exact uH.mpr b
  rw[a,uO] at e;rw[<-e] at q;exact q
def Ea:ZB zEw zEw (Zf M6):=Z4
def BB{k:Nat}:ZN P w K mg kf ZY k f fd zEw (XV 0):=by
 let c:∀ a H Q E,¬ XV 0 a H Q E:=λa H Q E h=>by
  let⟨v,t,r,q,_,_,_,d,_⟩:=h
  lia
 exact⟨λa H Q E h=>absurd h (c a H Q E),λA b s H args e a Q E _ _ _ _ h=>absurd h (c a H Q E)⟩
def BZ{n:Nat}(F:Zn K "fits" "fits" M6 f fd)(T:YR mg)(DW:ZD P w K mg kf 1 "has_few_figures" zFc UE)(DS:ZD P w K mg kf 1 "is_sign" ["sign"] Wq)(DF:ZD P w K mg kf (n+1) "fits" zEw (XV n)):ZN P w K mg kf ZY (n+2) f fd zEw (XV (n+1)):=by
 refine F.ok Ea (λp H Q E h=>?_) (λa3 A a2 s H p Q E hr h=>?_)
 ·let⟨v,t,r,q,rfl,_⟩:=h;rfl
 let⟨v,t,r,q,rfl,g,hq,hn,k⟩:=h;let W:=hr.mono (show 1<=n+1 by lia)
 let⟨t1,m1⟩:=T.signs;let⟨t2,m2⟩:=T.things;intro Xc;refine⟨_,ZQ (Z1 (Yg (Zy X3 rfl T.isi X8 (Zh (pv 0) (Zh (X6 (v:=.ty "bool") rfl T.bool NF rfl) Zw)))) (ZW (Zr V9)) Z6)
  (ZQ (Z1 (Yg (Zy X3 rfl T.isi X8 (Zh (pv 0) (Zh (X6 (v:=.ty "int") rfl T.int Uy rfl) Zw)))) (ZW (Zr (Zm DW W (Zh (pv 0) Zw)))) Z6)
  (ZQ (Z1 (Yg (Zy X3 rfl T.isi X8 (Zh (pv 0) (Zh (X6 (v:=.ty "str") rfl T.str NQ rfl) Zw))))
   (ZW (Zr (Ug (VA Uf (Zy Ei rfl T.len Xh (Zh (pv 0) Zw)) (VS (v:=.int 40) rfl m1 ⟨_,rfl⟩) (Z0 _))
    (Qn (Zy (Mp rfl) rfl T.all MQ (Zh (UD [] [] rfl (ZN4 (pv 0)) (λ_ _ _ _ _=>Vh) (λ_ _ _ _ _=>Zm DS W (Zh (pv 0) Zw)) trivial) Zw)))))) Z6)
  (ZQ (Z1 (Yg (Zy X3 rfl T.isi X8 (Zh (pv 0) (Zh (X6 (v:=.ty "tuple") rfl T.tuple QW rfl) Zw))))
   (ZW (Zr (Ug (VA Vr (pv 1) ZO (Z0 _)) (Ug (VA Uf (Zy WH rfl T.len Xh (Zh (pv 0) Zw)) (VS (v:=.int 4) rfl m2 ⟨_,rfl⟩) (Z0 _))
    (Qn (Zy (Mp rfl) rfl T.all MQ (Zh (UD [1] ["room"] rfl (JM (pv 0)) (λ_ _ _ _ _=>Vh) (λ_ _ _ _ _=>Zm DF hr (Zh (pv 0) (Zh (Z2 Qf (pv 1) ZO) Zw))) ⟨rfl,.inl rfl,rfl,trivial⟩) Zw))))))) Z6)
  (ZW (Zr V9))))),?_⟩
 cases t with
 | int i=>
  let ev:v=.int i:=by rw[ZF] at g;exact g
  subst ev;refine⟨_,Z,_,_,_,_,Z,g.ty,Nu,_,Z,Zp ?_⟩;refine⟨_,Z,_,_,_,_,Z,g.ty,Oe,_,Z,YJ ?_⟩;let u:=k H (ZC.refl H);rw[KT.fits] at u;exact⟨_,Z,i,Z,u⟩
 | str x=>
  let ev:v=.str x:=by rw[ZF] at g;exact g
  subst ev;let hx:OV x=true:=by rw[KT.fits] at hq;exact hq
  let B:=hx;unfold OV at B;rw[zO] at B;let O:x.length<=40:=of_decide_eq_true B.1;refine⟨_,Z,_,_,_,_,Z,g.ty,Aq,_,Z,Zp ?_⟩;refine⟨_,Z,_,_,_,_,Z,g.ty,KS,_,Z,Zp ?_⟩;refine⟨_,Z,_,_,_,_,Z,g.ty,N2,_,Z,YJ ?_⟩;exists _,Z,x,Z,nn ∅,_,_,Z,Z,_,Z
  rw[aM (aJ (show (x.length:Int)<=40 by lia))]
  exists _,Z,x,Z;let a7:x.cps.size<=40:=O;refine UH (n:=x.cps.size) (λi z=>∃ c,x.cps[i]? = some c/\z=.str ⟨#[c]⟩) (λD i m d=>ZC H d/\H D=none/\m=((x.cps.toList.take i).map Ur).map V.bl) (YL ∅)
   (λD i m d J _=>J) (λD i m d z H4 J _ hy=>hy) (λD m d _=>rfl) (λD N=>⟨Zc N _,N,Z⟩) (λD i m d z G hl J hz j R hR=>?_) (λD m d G j=>?_)
  ·let⟨c,hc,rfl⟩:=hz;let⟨C,L,rfl⟩:=j;exists _,Z,c,Z;refine hR _ d G ⟨λb o e=>by rw[ZM (Za e L)];exact C b o e,L,?_⟩
   let a0:x.cps.toList[i]? = some c:=by simpa using hc
   rw[yP,a0];simp
  ·let⟨C,L,rfl⟩:=j;exists D,_,Z,ZG.of G;let u:=k d C;rw[KT.fits,hx] at u;let M:(x.cps.toList.take x.cps.size)=x.cps.toList:=yM (by simp)
   rw[M];let I:(x.cps.toList.map Ur).all id=true:=by rw[wJ];exact B.2
   rw[I];exact u
 | tup l=>
  let X:=g;rw[ZF] at X;let⟨a,p,rfl,I,Y⟩:=X;let hl:=Y.length;rw[KT.fits,zO,zO] at hq;let⟨a6,S,U⟩:=hq;let a5:l.length<=4:=of_decide_eq_true S;refine⟨_,Z,_,_,_,_,Z,g.ty,ZN2,_,Z,Zp ?_⟩;refine⟨_,Z,_,_,_,_,Z,g.ty,KU,_,Z,Zp ?_⟩;refine⟨_,Z,_,_,_,_,Z,g.ty,II,_,Z,Zp ?_⟩;refine⟨_,Z,_,_,_,_,Z,g.ty,Mt,_,Z,YJ ?_⟩;exists _,Z,_,_,Z,Z,_,Z;refine Yz (λc1=>?_) (λc1=>?_)
  ·let r0:0<r:=by
    have:=of_decide_eq_true c1
    lia
   exists _,Z,a,p,Z,.inr (Zb.of I),_,_,Z,Z,_,Z;rw[aM (aJ (show ((p.length:Nat):Int)<=4 by lia))]
   exists _,Z,a,Z,⟨p,Zb.of I⟩;refine UH (n:=p.length) (λi z=>p[i]? = some z) (λD i m d=>ZC H d/\H D=none/\m=((l.take i).map λt=>t.fits (r-1)).map V.bl) (YL ∅)
    (λD i m d J j=>⟨p,p[i],Zb.of (j.1 _ _ I),by simp[J]⟩) (λD i m d z H4 J j hy=>⟨hy.1,hy.2 p (Zb.of (j.1 _ _ I))⟩) (λD m d j=>⟨p,Zb.of (j.1 _ _ I),zY _⟩)
    (λD N=>⟨Zc N _,N,Z⟩) (λD i m d z G a4 J hz j R hR=>?_) (λD m d G j=>?_)
   ·let⟨C,L,rfl⟩:=j;let⟨t,M,kt⟩:=Y.get hz;let er:(r:Int)-1=((r-1:Nat):Int):=∅
    let a1:t.fits (q-1)=true:=by
     rw[MB] at U;exact yY.mp U t (zG M)
    exists _,Z,_,Z,_,_,Z,Z,z,t,r-1,q-1,congrArg (λy=>[z,V.int y]) er,kt.sm C,a1,by lia
    intro H4 s4;refine hR _ H4 (s4 D _ G) ⟨λb o e=>by rw[ZM (Za e L)];exact s4 b o (C b o e),L,?_⟩
    rw[yP,M];simp
   ·let⟨C,L,rfl⟩:=j;exists D,_,Z,ZG.of G;let u:=k d C;rw[KT.fits,aJ r0,uQ,S,uQ,MB] at u;let M:l.take p.length=l:=yM ∅
    rw[M,wJ];exact u
  ·let r0:r=0:=by
    have:¬ ((0:Int)<(r:Int)):=λz=>c1 (aJ z)
    lia
   subst r0;let u:=k H (ZC.refl H);rw[KT.fits] at u;exact u
def AX:ZB zE3 zE3 (Zf Ks):=Z4
def ES(F:Zn K "is_key" "is_key" Ks f fd)(T:YR mg)(b:ZD P w K mg kf 5 "fits" zEw (XV 4)):ZN P w K mg kf ZY 6 f fd zE3 VD:=by
 refine F.ok AX (λj H Q E h=>?_) (λc A a s H j Q E e h=>?_)
 ·let⟨v,t,q,rfl,_⟩:=h;rfl
 let⟨v,t,q,rfl,g,d,k⟩:=h;let⟨m,i⟩:=T.deep;intro l;exists _,ZW (Zr (Zm b e (Zh (pv 0) (Zh (VS (v:=.int 3) rfl i ⟨_,rfl⟩) Zw))));exact⟨_,Z,v,t,3,q,Z,g,d,by decide,k⟩
def Gm(T:YR mg)(L:Zl K mg "fits" M6 zEw)(b:ZD P w K mg kf 1 "has_few_figures" zFc UE)(a:ZD P w K mg kf 1 "is_sign" ["sign"] Wq):∀ n:Nat,ZD P w K mg kf (n+1) "fits" zEw (XV n)
 | 0=>L.of λ_ _ _=>BB
 | n+1=>L.of λ_ _ F=>BZ F T b a (Gm T L b a n)
end Tw
namespace Tw
open PySem PySem.Spec L2 PyProof.Rows
variable{jZ kd CS CT CH CK CP CB:aj}
def HD{H:Hp}{b:jE}{c:jf}(h:jU H (Yk b) c):HX H (b.map (·.1)) c:=by
 let j:c.length=b.length:=by have:=h.length;rw[<-this];exact zX _
 exists by rw[zX];exact j
 intro i u e;let⟨a,l,m,g,d,f,k,_⟩:=P1 h e;exists a,l,m,d,f;rw[zV,zS,g];exact k
inductive Ul(b:jf)(H:Hp)(Q:VK)(_:XK):Prop
 |mk(v:V)(t:KT)(_:b=[v])(_:ZF H t v)(_:t.fits 3=true)(_:∀ a,ZC H a->Q v a)
def BW:ZB zE3 zE3 (Zf J8):=Z4
def AC(F:Zn K "checked" "checked" J8 f fd)(c:ZD P w K mg kf 6 "is_key" zE3 VD):ZN P w K mg kf ZY 7 f fd zE3 Ul:=by
 refine F.ko BW λe A a s H m Q E g h=>?_;let⟨v,t,rfl,i,b,k⟩:=h;intro l;exists _,ZQ (Z1 (Xv (Yg (Zm c g (ZV (pv 0))))) VI Z6) (ZW (Zr (pv 0)));refine⟨_,Z,v,t,3,Z,i,b,λd j=>⟨_,Z,?_⟩⟩;rw[b];exact Zp ⟨_,Z,k d j⟩
inductive Xf(g:jf)(H:Hp)(Q:VK)(_:XK):Prop
 |mk(l:aj)(e:jf)(d:jE)(_:g=[.ref l])(_:H l=some (.lst e))(_:jU H (Yk d) e)(_:∀ r∈d,r.fit)(_:e.length<=100)(_:∀(b:Hp)(c:aj)(a:jf),ZC H b->H c=none->b c=some (.lst a)->jU b (Yk d) a->Q (.ref c) b)
def AO:ZB zEt zEt (Zf Jt):=Z4
def B8(F:Zn K "own_rows" "own_rows" Jt f fd)(M:ZD P w K mg kf 7 "checked" zE3 Ul):ZN P w K mg kf ZY 8 f fd zEt Xf:=by
 refine F.ko AO λa0 A J s H vs Q E W h=>?_;let⟨l,r,rs,rfl,y,V,hf,T,k⟩:=h;let lk:r.length=rs.length:=by have:=V.length;rw[<-this];exact zX _
 intro Xc;refine⟨_,ZW (Zr (UD [] [] rfl (Y9 (pv 0)) (λ_ _ _ _ _=>Vh)
   (λ_ _ _ _ _=>XB (Zj (Zm M W (ZV (Zi K (pv 0) ZO))) (Zm M W (ZV (Zi K (pv 0) ZO))))) trivial)),?_⟩
 exists _,Z,l,Z,⟨r,ZG.of y⟩;refine UH (n:=r.length) (λi z=>r[i]? = some z) (λD i t m=>ZC H m/\H D=none/\jU m (Yk (rs.take i)) t) (YL ∅)
  (λD i t m I d=>⟨r,r[i],ZG.of (d.1 _ _ y),by simp[I]⟩) (λD i t m z H4 I d X=>⟨X.1,X.2 r (ZG.of (d.1 _ _ y))⟩) (λD t m d=>⟨r,ZG.of (d.1 _ _ y),zY _⟩)
  (λD U=>⟨Zc U _,U,.nil⟩) (λD i t m z G a1 I hz d R hR=>?_) (λD t m G d=>?_)
 ·let⟨p,B,j⟩:=d;let⟨a,v,x,S,rfl,e2,Y,k2⟩:=P1 V hz;let O:=p _ _ e2;let o:=hf _ (zG S);refine⟨_,Z,.inr (.inl ⟨a,_,_,v,rfl,rfl,Zb.of O,rfl,v,_,rfl,Y.sm p,o.1,λH4 L=>?_⟩)⟩;refine⟨_,Z,.inr (.inl ⟨a,_,_,x,rfl,rfl,Zb.of (L _ _ O),rfl,x,_,rfl,k2.sm (p.trans L),o.2,λN s5=>?_⟩)⟩;exists YX;intro q hq;let g:=Zc hq (.tup [v,x]);let c:=(L.trans s5).trans g;let u:=c _ _ G;let C:YC (upd N q (.tup [v,x])) (upd (upd N q (.tup [v,x])) D (.lst (t++[.ref q]))):=λb xs e=>by rw[ZM (ZI e u)];exact e
  refine hR _ _ u ⟨VJ (p.trans c) B,B,?_⟩;rw[yP,S,GW];refine((j.sm c).mono C _ _).append (.cons (.tup (C _ _ ZP) (.cons ?_ (.cons ?_ .nil))) .nil)
  ·exact(Y.sm (p.trans c)).mono C _ _
  ·exact(k2.sm (p.trans c)).mono C _ _
 ·let⟨p,B,j⟩:=d;rw[yM ∅] at j
  exact k m D t p B G j
inductive Ww(g:jf)(H:Hp)(Q:VK)(_:XK):Prop
 |mk(l:aj)(d:jf)(c:jp)(_:g=[.ref l])(_:H l=some (.lst d))(_:jU H c d)(_:∀ t∈c,t.fits 3=true)(_:d.length<=100)(_:c.Pairwise (λa b=>a.lt b=true))(_:∀ e,ZC H e->Q (.bl true) e)
def AJ:ZB ["keys"] ["keys"] (Zf K8):=Z4
def Jy{c:Type}{R:c->c->Prop}:∀{l:List c},l.Pairwise R->∀{i j:Nat}{a b:c},i<j->l[i]? = some a->l[j]? = some b->R a b
 | [],_,_,_,_,_,_,h,_=>by simp at h
 | x::l,hp,0,j+1,a,b,_,ha,hb=>by
  simp at ha hb;subst ha;exact(wD.mp hp).1 b (zG hb)
 | x::l,hp,i+1,j+1,a,b,hij,ha,hb=>by
  simp at ha hb;exact Jy (wD.mp hp).2 ∅ ha hb
def B2(F:Zn K "rise" "rise" K8 f fd)(T:YR mg)(S:ZD P w K mg kf 7 "ahead" zE4 Yn):ZN P w K mg kf ZY 8 f fd ["keys"] Ww:=by
 refine F.ko AJ λU A y s H vs Q E hr h=>?_;let⟨l,c,ks,rfl,L,t,J,G,u,k⟩:=h;let lk:=t.length;intro Xc;refine⟨_,ZW (Zr (Zy (Mp rfl) rfl T.all MQ (ZV (UD [0] ["keys"] rfl (Mf rfl T.range (Zj ZO (Zy WH rfl T.len Xh (ZV (pv 0))))) (λ_ _ _ _ _=>Vh)
  (λ_ _ _ _ _=>Zm S hr (Zj (Zi K (pv 1) (Z2 Qf (pv 0) ZO)) (Zi K (pv 1) (pv 0)))) ⟨rfl,.inl rfl,rfl,trivial⟩)))),?_⟩
 exists _,Z,l,c,Z,.inl (ZG.of L),1,(c.length:Int),Z,⟨nofun,nofun,nofun,nofun⟩
 refine UH (n:=((c.length:Int)-1).toNat) (λi x=>x=.int (1+(i:Int))) (λD i j d=>ZC H d/\H D=none/\j=(vY i true).map V.bl) (YL nofun)
  (λD i j d q _=>q) (λD i j d x z q _ hy=>hy) (λD j d _=>zY _) (λD I=>⟨Zc I _,I,Z⟩) (λD i j d x o a0 q hx p R Y=>?_) (λD j d o p=>?_)
 ·subst hx;let⟨g,v,rfl⟩:=p;let r:i+1<c.length:=nofun
  let N:c[i]? = some (c[i]'nofun):=zW nofun
  let O:c[i+1]? = some c[i+1]:=zW r;let X:(1:Int)+(i:Int)=((i+1:Nat):Int):=nofun
  let W:(1:Int)+(i:Int)-1=((i:Nat):Int):=nofun
  let⟨a,B,ka⟩:=t.get N;let⟨b,C,kb⟩:=t.get O;let m:=g _ _ L;refine⟨_,Z,_,Z,_,_,Z,Z,.inl ⟨l,c,_,_,Z,Z,ZG.of m,(by rw[W];exact Xk N),?_⟩⟩
  refine⟨_,Z,_,Z,.inl ⟨l,c,_,_,Z,Z,ZG.of m,(by rw[X];exact Xk O),?_⟩⟩
  exists _,_,a,b,Z,ka.sm g,kb.sm g,J a (zG B),J b (zG C);intro z M;rw[Jy u (xT i) B C];refine Y _ z (M D _ o) ⟨VJ (g.trans M) v,v,?_⟩;rw[List.replicate_succ',yX];rfl
 ·let⟨g,v,rfl⟩:=p;exists D,_,Z,ZG.of o;let e:(vY ((c.length:Int)-1).toNat true).all id=true:=by simp
  rw[e];exact k d g
def OA(c:jE):Prop:=(∀ r∈c,r.fit)/\0<c.length/\c.length<=4/\(c.map (·.1)).Pairwise (λa b=>a.lt b=true)
inductive XQ(g:jf)(H:Hp)(Q:VK)(_:XK):Prop
 |mk(l:aj)(e:jf)(d:jE)(_:g=[.ref l])(_:H l=some (.lst e))(_:jU H (Yk d) e)(_:OA d)(_:∀(b:Hp)(c:aj)(a:jf),ZC H b->H c=none->b c=some (.lst a)->jU b (Yk d) a->Q (.ref c) b)
def Vd:ZB ["rows","own"] zEt (Zf JS):=Z4
def Cc(F:Zn K "checked_rows" "checked_rows" JS f fd)(T:YR mg)(W:ZD P w K mg kf 8 "own_rows" zEt Xf)(X:ZD P w K mg kf 8 "rise" ["keys"] Ww):ZN P w K mg kf ZY 9 f fd zEt XQ:=by
 refine F.ko Vd λY A J s H vs Q E S h=>?_;let⟨l,V,y,rfl,hl,O,⟨N,h0,h4,I⟩,k⟩:=h;let nd:=Vd.nd;let lk:V.length=y.length:=by have:=O.length;rw[<-this];exact zX _
 let⟨t4,m4⟩:=T.rows;intro Xc;refine⟨_,ZQ (Zs 1 nd (Zm W S (ZV (pv 0))))
  (ZQ (Z1 (PW.pt (VU (Xv (FH Uf Uf ZO (Zy WH rfl T.len Xh (ZV (pv 1))) (VS (v:=.int 4) rfl m4 ⟨_,rfl⟩)))
   (Uh (Xv (Yg (Zm X S (ZV (UD [] [] rfl (Y9 (pv 1)) (λ_ _ _ _ _=>Vh) (λ_ _ _ _ _=>Zi K (pv 0) ZO) trivial)))))))) VI Z6)
  (ZW (Zr (pv 1)))),?_⟩
 exists _,Z,l,V,y,Z,hl,O,N,by lia
 intro B D b s3 nD u m;let ly:b.length=y.length:=by have:=m.length;rw[<-this];exact zX _
 exists _,Z,D,b,Z,.inl (ZG.of u),_,_,Z,Z,_,Z;rw[aJ (show (1:Int)<=(b.length:Int) by lia)]
 refine YJ ⟨_,_,Z,Z,_,Z,?_⟩;rw[aJ (show (b.length:Int)<=4 by lia)]
 refine Zp ?_;exists _,Z,D,Z,⟨b,ZG.of u⟩;refine UH (n:=b.length) (λi z=>b[i]? = some z) (λe i q g=>ZC B g/\B e=none/\jU B ((y.map (·.1)).take i) q) (YL ∅)
  (λe i q g C d=>⟨b,b[i],ZG.of (d.1 _ _ u),by simp[C]⟩) (λe i q g z M C d U=>⟨U.1,U.2 b (ZG.of (d.1 _ _ u))⟩) (λe q g d=>⟨b,ZG.of (d.1 _ _ u),zY _⟩)
  (λe x=>⟨Zc x _,x,.nil⟩) (λe i q g z j a0 C hz d R hR=>?_) (λe q g j d=>?_)
 ·let⟨p,o,c⟩:=d;let⟨a,vk,vv,er,rfl,e2,k1,_⟩:=P1 m hz;refine⟨_,Z,.inr (.inl ⟨a,_,_,vk,rfl,rfl,Zb.of (p _ _ e2),rfl,?_⟩)⟩;refine hR _ g j ⟨VJ p o,o,?_⟩;rw[yP,zS,er];exact c.append (.cons k1 .nil)
 ·let⟨p,o,c⟩:=d;rw[yM (by rw[zX];lia)] at c
  let lz:=c.length;rw[zX] at lz;refine⟨e,q,_,Z,j,c.sm p,λt ht=>?_,∅,I,λM L=>⟨_,Z,Zp ⟨_,Z,k M D b ((s3.trans p).trans L) nD (L _ _ (p _ _ u)) (m.sm (p.trans L))⟩⟩⟩
  let⟨r,G,rfl⟩:=zE.mp ht;exact(N r G).1
def Y3(a:jE):ZK:=⟨0,a,[]⟩
inductive XW(jZ kd:aj)(r:jf)(H:Hp)(Q:VK)(_:XK):Prop
 |mk(S d n l:aj)(c:jq)(h:jo)(k:Nat->jo)(m:Nat->Nat)(j:ju)(e:List (ZR×V))(p q:jf)(i:jE)(_:r=[.ref S,.ref l])(_:YD jZ kd H S d n c h k m j e p)(_:h.length<=900)(_:H l=some (.lst q))(_:jU H (Yk i) q)(_:OA i)(_:∀(g:Hp)(a:YE),H a.x=none->H a.th=none->H a.ab=none->(∀ b o,b≠S->b≠d->H b=some o->g b=some o)->YD jZ kd g S d n (c++[Y3 i]) (h++[c.length]) (WR c.length k) (Xb c.length m) (j++[a]) (Zq e (.inl (c.length:Int)) (.ref a.x)) p->Q (.int (c.length:Nat)) g)
def Wo:ZB ["self","rows","own"] zE9 (Zf KA):=Z4
def JR{jZ kd:aj}{H:Hp}{S d h:aj}{j:jq}{b:jo}{e:Nat->jo}{g:Nat->Nat}{c:ju}{a:List (ZR×V)}{i:jf}(R:YD jZ kd H S d h j b e g c a i):a.length=b.length:=by
 have:=congrArg yD R.keys;simpa using this
def ET(F:Zn K "put_leaf" "Shelf.put_leaf" KA f fd)(L:Yd K mg jZ kd)(DC:ZD P w K mg kf 9 "checked_rows" zEt XQ)(DL:ZD P w K mg kf 1 "label_of_rows" zEt Y0)(DT:ZA P w K mg kf ZY 3 jZ "put_twig" zEv (Y1 jZ kd)):
  ZN P w K mg kf ZY 10 f fd zE9 (XW jZ kd):=by
 refine F.ko Wo λa1 A a0 s H vs Q E O h=>?_;let⟨S,d,lk,l,ts,lv,av,ho,as,X,ls,us,a,rfl,R,y,hl,hk,G,k⟩:=h;let nd:=Wo.nd;let T:=O.mono (show 1<=9 by lia)
 let U:=O.mono (show 3<=9 by lia)
 intro Xc;refine⟨_,ZQ (Zs 2 nd (Zm DC O (ZV (pv 1))))
  (ZW (Zr (YS (E:=E0) (pv 0) L.cS DT U YY (Zj (pv 2) (Zm DL T (ZV (pv 2))))))),?_⟩
 exists _,Z,l,us,a,Z,hl,hk,G;intro H1 p i s1 B u m;let R1:=R.same s1;let⟨dx,hS⟩:=R1.sh.self;let lu:i.length=a.length:=by have:=m.length;rw[<-this];exact zX _
 let Y:(a.map (·.1)).length=a.length:=zX _;exists _,Z,S,dx,_,Z,hS,Z,_,Z,_,Z,p,i,a.map (·.1),Z,u,HD m,by rw[lu];exact G.2.1
 intro H2 v s2 W;let q:(Zu (Y3 a)).kt=Op (a.map (·.1)):=by
  let e0:(a.map (·.1)).getD 0 (.int 0)=(a.getD 0 rd).1:=by
   rw[zV,zV,zS];cases a[0]? <;> rfl
  let e1:(a.map (·.1)).getD (a.length-1) (.int 0)=(a.getD (a.length-1) rd).1:=by
   rw[zV,zV,zS];cases a[a.length-1]? <;> rfl
  unfold Op Zu Y3 YN.kt;rw[Y,e0,e1];rfl
 rw[<-q] at W;let V:=NL W;let⟨C,a6,a5,rfl,a3,_,_⟩:=V;let V:=NL W;let c:=s1.trans s2;let R2:=R.same c;exists S,d,lk,ts.length,X,ls,.ref p,.ref C,Z,R2.sh,by rw[JR R];exact y
 intro D x J nx n I R3 W3;let⟨a2,r⟩:=R2.sh.self;let j:YC H2 D:=λb ys e=>I b _ (ZI e r) (ZI e R2.sh.kept) e;let g:=s2 _ _ u;let N:D p=some (.lst i):=I _ _ (ZI g r) (ZI g R2.sh.kept) g;let M:J≠p:=(Za g n).symm;let a4:C=C:=rfl;let PP:=FT (t:=Y3 a) (x:=x) (th:=p) (tg:=C) (ab:=J) R (H':=D) (λb o n1 n2 e=>I b o n1 n2 (c b o e)) (c.free nx) B (c.free n) M R3 W3
  ⟨i,N,λ_=>m.mono (λb xs e=>j b xs (s2 _ _ e)) _ _,λz=>absurd rfl z⟩ (V.mono j)
 exact k D ⟨x,p,C,J⟩ (c.free nx) B (c.free n) (λb o n1 n2 e=>I b o n1 n2 (c b o e)) PP
def Xl(a:jq)(bs:jo):jE:=bs.flatMap λb=>(gd a b).rows
def YQ(a:jq)(bs:jo):ZK:=⟨(gd a (bs.getD 0 0)).h+1,Xl a bs,bs⟩
def Ol(c:jq):jo->Prop
 | a::b::r=>(Zu (gd c a)).hi.lt (Zu (gd c b)).lo=true/\Ol c (b::r)
 | _=>True
def Gs{c:jq}:∀{bs:jo},(∀ j,j+1<bs.length->((Zx c bs).getD j .d).hi.lt ((Zx c bs).getD (j+1) .d).lo=true)->Ol c bs
 | [],_=>trivial
 | [_],_=>trivial
 | a::b::r,h=>⟨h 0 (by simp),Gs (bs:=b::r) λj e=>h (j+1) (by simp at e⊢;lia)⟩
def Nk{t:ZK}(a:t.rows≠[]):∃ r b,t.rows=r::b/\(Zu t).lo=r.1:=by
 cases e:t.rows with
 | nil=>exact absurd e a
 | cons r b=>exact⟨r,b,Z,by unfold Zu;rw[e];rfl⟩
def Kl{t:ZK}(a:t.rows≠[]):∃ b r,t.rows=b++[r]/\(Zu t).hi=r.1:=by
 rcases tU t.rows with e | ⟨b,r,e⟩
 ·exact absurd e a
 ·rw[tV] at e;exists b,r,e;unfold Zu;rw[e];simp[zV]
def BA{gt:jp}{f:jq}{i:Nat}{t:ZK}(h:Zt gt f i t){x:KT}(a:x∈t.rows.map (·.1)){y:KT}(b:(Zu t).hi.lt y=true):x.lt y=true:=by
 let⟨g,r,e,d⟩:=Kl h.ne;let c:=h.up;rw[e,yX] at c a;rw[d] at b;rcases zJ.mp a with a | a
 ·have:=(uV.mp c).2.2 x a r.1 (by simp)
  exact lt_trans' _ _ _ this b
 ·simp at a;rw[a];exact b
def BE{l:jp}(f:l.Pairwise λa b=>a.lt b=true){z:KT}(e:l.head? = some z){x:KT}(d:x.lt z=true):∀ y∈l,x.lt y=true:=by
 cases l with
 | nil=>cases e
 | cons a l=>
  simp at e;subst e;intro y c;rcases zC.mp c with rfl | c
  ·exact d
  ·exact lt_trans' _ _ _ d ((wD.mp f).1 y c)
def FF{gt:jp}{ts:jq}:∀{bs:jo},(∀ b∈bs,Zt gt ts b (gd ts b))->Ol ts bs->((Xl ts bs).map (·.1)).Pairwise (λa b=>a.lt b=true)/\bs.Nodup
 | [],_,_=>⟨List.Pairwise.nil,List.nodup_nil⟩
 | [a],hb,_=>by
  refine⟨?_,by simp⟩
  have:=(hb a (by simp)).up
  simpa [Xl] using this
 | a::b::r,hb,hn=>by
  let⟨h1,h2⟩:=FF (bs:=b::r) (λc hc=>hb c (zI _ hc)) hn.2;let oa:=hb a (by simp)
  let ob:=hb b (by simp)
  let⟨rb,rs,eb,el⟩:=Nk ob.ne;let hd:((Xl ts (b::r)).map (·.1)).head? = some (Zu (gd ts b)).lo:=by
   rw[el];unfold Xl;rw[xN,eb];rfl
  let cross:∀ x∈(gd ts a).rows.map (·.1),∀ y∈(Xl ts (b::r)).map (·.1),x.lt y=true:=λx hx=>BE h1 hd (BA oa hx hn.1);refine⟨?_,xR.mpr ⟨λhm=>?_,h2⟩⟩
  ·let e:Xl ts (a::b::r)=(gd ts a).rows++Xl ts (b::r):=by simp[Xl]
   rw[e,yX];exact uV.mpr ⟨oa.up,h1,cross⟩
  ·let⟨ra,rs',ea,_⟩:=Nk oa.ne;let m1:ra.1∈(gd ts a).rows.map (·.1):=by rw[ea];simp
   let m2:ra.1∈(Xl ts (b::r)).map (·.1):=zE.mpr ⟨ra,wZ.mpr ⟨a,hm,by rw[ea];simp⟩,Z⟩
   have:=cross _ m1 _ m2;rw[NO] at this;cases this
def Of{b:jq}{bs:jo}{i:Nat}(a:i<bs.length):(Zx b bs).getD i .d=Zu (gd b (bs.getD i 0)):=by
 unfold Zx;rw[zV,zS,zW a,zV,zW a];rfl
def IT{gt:jp}{c:jq}{bs:jo}(u:∀ b∈bs,Zt gt c b (gd c b)){L:YN}(h:over (Zx c bs)=some L):
  L=Zu (YQ c bs)/\bs.Nodup/\2<=bs.length/\bs.length<=4/\(∀ b∈bs,(gd c b).h+1=(YQ c bs).h)/\((Xl c bs).map (·.1)).Pairwise (λa b=>a.lt b=true)/\Xl c bs≠[]:=by
 unfold over at h;split at h
 case isFalse=>cases h
 case isTrue hc=>
  let⟨k,D,P⟩:=hc;let C:(Zx c bs).length=bs.length:=zX _;rw[C] at k D;let n:=XM.mpr P;unfold Mj at n;rw[C] at n;let x:Ol c bs:=Gs λj O=>(n j O).2;let⟨B,y⟩:=FF u x;let N:∀ i,i<bs.length->((Zx c bs).getD i .d).h=((Zx c bs).getD 0 .d).h:=λi g=>by
   cases i with
   | zero=>rfl
   | succ i=>exact(n i g).1
  let f:∀ i,i<bs.length->bs.getD i 0∈bs:=λi g=>by rw[zV,zW g];exact yJ _
  let E:=u _ (f 0 ∅)
  let R:=u _ (f (bs.length-1) ∅)
  let w:∀ b∈bs,(gd c b).h+1=(YQ c bs).h:=λb v=>by
   let⟨i,g,e⟩:=uR v;have:=N i g;rw[Of g,Of ∅] at this
   let p:bs.getD i 0=b:=by rw[zV,zW g,e];rfl
   rw[p] at this;have:=Int.ofNat.inj this;show (gd c b).h+1=(gd c (bs.getD 0 0)).h+1
   lia
  let A:Xl c bs≠[]:=λz=>by
   let⟨r,o,e,_⟩:=Nk E.ne;have:r∈Xl c bs:=wZ.mpr ⟨_,f 0 ∅,by rw[e];simp⟩
   rw[z] at this;simp at this
  refine⟨?_,y,k,D,w,B,A⟩;rw[<-zB.inj h];let t:((Zx c bs).getD 0 .d).lo=(Zu (YQ c bs)).lo:=by
   rw[Of ∅]
   let⟨r,o,e,s⟩:=Nk E.ne;rw[s]
   cases bs with
   | nil=>simp at k
   | cons b bs=>
    unfold Zu YQ Xl;let G:(gd c b).rows=r::o:=e;simp only[xN,G];rfl
  let q:((Zx c bs).getD ((Zx c bs).length-1) .d).hi=(Zu (YQ c bs)).hi:=by
   rw[C,Of ∅]
   let⟨o,r,e,s⟩:=Kl R.ne;rw[s];rcases tU bs with z | ⟨F,b,z⟩
   ·rw[z] at k;simp at k
   ·rw[tV] at z;let I:bs.getD (bs.length-1) 0=b:=by rw[z];simp[zV]
    rw[I] at e;let M:Xl c bs=Xl c F++o++[r]:=by rw[z];simp[Xl,e]
    unfold Zu YQ;simp only[M];simp[zV]
  let K:((Zx c bs).map YN.m).sum=(Zu (YQ c bs)).m:=by
   have:∀ l:jo,((Zx c l).map YN.m).sum=((Xl c l).length:Int):=λl=>by
    induction l with
    | nil=>rfl
    | cons b l Q=>
     let H:Zx c (b::l)=Zu (gd c b)::Zx c l:=rfl;let p:Xl c (b::l)=(gd c b).rows++Xl c l:=by simp[Xl]
     rw[H,p,yT,tH,Q,zH];show ((gd c b).rows.length:Int)+_=_
     lia
   exact this bs
  let J:((Zx c bs).getD 0 .d).h+1=(Zu (YQ c bs)).h:=by
   rw[Of ∅]
   show ((gd c (bs.getD 0 0)).h:Int)+1=(((gd c (bs.getD 0 0)).h+1:Nat):Int)
   lia
  rw[t,q,K,J]
def MG{gt:jp}{c:jq}(f:WF gt c){bs:jo}(e:∀ b∈bs,b<c.length){L:YN}(h:over (Zx c bs)=some L):
  L=Zu (YQ c bs)/\bs.Nodup/\2<=bs.length/\bs.length<=4/\(∀ b∈bs,(gd c b).h+1=(YQ c bs).h)/\((Xl c bs).map (·.1)).Pairwise (λa b=>a.lt b=true)/\Xl c bs≠[]:=IT (λb d=>f b _ (Ym (e b d))) h
def Zt.ext{gt:jp}{a:jq}{t:ZK}{i:Nat}{u:ZK}(h:Zt gt a i u):Zt gt (a++[t]) i u:=by
 exists h.ne,h.up,h.inn,h.leaf;intro z;let⟨g,j,f,k⟩:=h.stem z;let e:∀ b∈u.bs,gd (a++[t]) b=gd a b:=λb d=>Pc (f b d).1;exists g,j,λb d=>⟨by rw[zH,xU];have:=(f b d).1;lia,by rw[e b d];exact(f b d).2⟩
 rw[k];clear g j f k;have:∀ l:jo,(∀ b∈l,gd (a++[t]) b=gd a b)->(l.flatMap λb=>(gd a b).rows)=l.flatMap λb=>(gd (a++[t]) b).rows:=λl m=>by
  induction l with
  | nil=>rfl
  | cons b l o=>rw[xN,xN,m b (by simp),o λc n=>m c (zI _ n)]
 exact this _ e
def WF.push{gt:jp}{a:jq}{t:ZK}(d:WF gt a)(h:Zt gt a a.length t):WF gt (a++[t]):=λi u e=>by
 rcases yH i a.length with b | b
 ·rw[wO b] at e;exact(d i u e).ext
 ·rw[wM b] at e;let c:i-a.length=0:=by
   rcases Nat.eq_zero_or_pos (i-a.length) with z | z
   ·exact z
   ·rw[uT (by simp;lia)] at e;cases e
  rw[c] at e;simp at e;subst e;have:i=a.length:=∅
  rw[this];exact h.ext
def Ia{gt:jp}{c:jq}(i:WF gt c){bs:jo}(d:∀ b∈bs,b<c.length){L:YN}(h:over (Zx c bs)=some L):Zt gt c c.length (YQ c bs):=by
 let⟨_,_,j,k,l,g,e⟩:=MG i d h;refine⟨e,g,λr m=>?_,λz=>absurd z (by show (gd c (bs.getD 0 0)).h+1≠0;lia),λ_=>⟨j,k,λb a=>⟨d b a,l b a⟩,Z⟩⟩
 let⟨b,a,f⟩:=wZ.mp m;exact(i b _ (Ym (d b a))).inn r f
abbrev Jw:Stmt:=XE (top 35) 2
structure Uj(P:al)(w:ar)(K:zZ)(mg:jb)(kf:aC)(k:Nat)(x:Str)(ps:jr)(sp:Sp):Prop where
 ex:∃ f fd,ZN P w K mg kf (YB P w) k f fd ps sp/\Z7 K fd ps []/\yQ K (.ref f)=true/\mg x=some (.ref f)
inductive XU(gt:jp)(jZ kd CS CT CH:aj)(r:jf)(H:Hp)(Q:VK)(E:XK):Prop
 |mk(S d p l:aj)(e:jq)(g:jo)(n:Nat->jo)(k:Nat->Nat)(j:ju)(i:List (ZR×V))(q:jf)(m:jA)(_:r=[.ref S,.ref l])(_:YD jZ kd H S d p e g n k j i q)(_:WF gt e)(_:g.length<=800)(_:∀ b,b∈g->(n b).length<=800)(_:H l=some (.lst (m.map V.int)))(_:m.length<=100)(_:∀ x,m.find? (λx=>!Yf g x)=some x->Vj CT x E H)(_:∀ bs:jo,m=bs.map (λb:Nat=>(b:Int))->(∀ b∈bs,b∈g)->(over (Zx e bs)=none->∀ h,ZC H h->E (.ref CS) none h)/\(over (Zx e bs)≠none->∀ b,bs.find? (λb=>decide (k b=0))=some b->Vj CH (b:Nat) E H)/\(over (Zx e bs)≠none->bs.find? (λb=>decide (k b=0))=none->∀(h:Hp)(a:YE),H a.x=none->H a.th=none->H a.ab=none->(∀ c o,c≠S->c≠d->(∀ b:Nat,b∈g->c≠(j.getD b .d).x/\c≠(j.getD b .d).ab)->H c=some o->h c=some o)->YD jZ kd h S d p (e++[YQ e bs]) (g++[e.length]) (Wt bs e.length (WR e.length n)) (Y2 bs (Xb e.length k)) (j++[a]) (Zq i (.inl (e.length:Int)) (.ref a.x)) q->Q (.int (e.length:Nat)) h))
abbrev ZLM:jr:=["self","numbers","branches","label","number"]
def Wg:ZB ZLM zEe (Zf Jw):=Z4
def Lz{gt:jp}{c:jq}{bs:jo}(e:∀ b∈bs,Zt gt c b (gd c b))(i:Nat):((Zx c bs).getD i .d).fit:=by
 rcases yH i bs.length with a | a
 ·rw[Of a];refine KR (e _ ?_);rw[zV,zW a];exact yJ _
 ·rw[zV,uT (by unfold Zx;rw[zX];exact a)]
  exact Bj
def Ll{X:Cx}{E:XK}{k:Nat}{x:Str}{r:jr}{i:Sp}{e:Expr}{a:jy}{t:TA}{p c:aH}(D:Uj X.prog X.w X.K X.mg X.base k x r i)(n:ZZ k X.A)(o:VH (YB X.prog X.w) X E)(j:PA X (e::a) t)(l:Gl X x:=by rfl)(d:(x==("__debug__" : Str))=false:=by decide)(h:aq (e::a) X.env=(false,aF e X.env)::aq a X.env:=by rfl)(g:(aE c (aq a X.env)).any (·.1)=false:=by rfl):PE X (.Call (.Name x p) (e::a) [] c) (KK i [] E t):=by
 let⟨f,fd,F,b,q,m⟩:=D.ex;exact GB F n l m q b .nil o j d h g
def Bo{gt:jp}(F:Zn K "put_stem" "Shelf.put_stem" Jw f fd)(T:YR mg)(L:Yd K mg jZ kd)(DL:ZA P w K mg kf (YB P w) 5 jZ "labels_of" zEe (Yo jZ kd CT))(DO:Uj P w K mg kf 9 "label_over" zFb (X9 CS))(DC:ZA P w K mg kf (YB P w) 3 jZ "check_held" zEe (YM jZ kd CH))(DT:ZA P w K mg kf ZY 3 jZ "put_twig" zEv (Y1 jZ kd))(DK:ZA P w K mg kf ZY 2 jZ "take_over" zEj (Yp jZ kd)):
  ZN P w K mg kf (YB P w) 10 f fd zEe (XU gt jZ kd CS CT CH):=by
 refine F.kD Wg λc8 A c5 s H vs Q E hr h=>?_;let⟨S,d,lk,l,i,lv,av,W,u,q,ls,ns,rfl,R,hw,c7,C,hl,I,k1,k2⟩:=h;let nd:=Wg.nd;let c3:=hr.mono (show 5<=9 by lia)
 let Y:=hr.mono (show 3<=9 by lia)
 let c2:=hr.mono (show 2<=9 by lia)
 intro Xc;refine⟨_,ZQ (Zs 2 nd (WQ Ue rfl T.list Vw (ZV (pv 1))))
  (ZQ (Zs 3 nd (Ll (E:=E) DO hr (Ud WY λ_ _ _ h=>h) (ZV (YS (E:=E) (pv 0) L.cS DL c3 (Ud WY λ_ _ _ h=>h) (ZV (pv 2))))))
  (ZQ (XF (YS (E:=E) (pv 0) L.cS DC Y (Ud WY λ_ _ _ h=>h) (ZV (pv 2))))
  (ZQ (Zs 4 nd (YS (E:=E0) (pv 0) L.cS DT Y YY (Zj (pv 2) (pv 3))))
  (ZQ (XF (YS (E:=E0) (pv 0) L.cS DK c2 YY (Zj (pv 4) (pv 2))))
  (ZW (Zr (pv 4))))))),?_⟩
 exists _,Z,l,ns.map V.int,Z,.inl (ZG.of hl);intro D nD;let⟨H1,eU,g1,J⟩:=Wc nD (.lst (ns.map V.int));rw[eU];let R1:=R.same g1;let⟨a2,a8⟩:=R1.sh.self;exists _,Z,S,a2,_,Z,a8,Z,_,Z,S,d,lk,D,i,lv,av,W,u,q,ls,ns,Z,R1,J,I,λx hx=>(k1 x hx).mono g1;intro bs eb y D2 us H2 s2 e7 a7 U;let⟨q1,q2,q3⟩:=k2 bs eb y;let p:∀ b∈bs,b<i.length:=λb h=>R.lt b (y b h);let e5:ns.length=bs.length:=by rw[eb,zX]
 let e6:us.length=bs.length:=by rw[U.1];exact zX _
 let a0:=g1.trans s2;refine⟨D2,us,Zx i bs,Z,a7,U,Lz (λb a=>hw b _ (Ym (p b a))),∅,λH3 s3=>⟨λm=>q1 m H3 (a0.trans s3),λLb v m kv=>?_⟩⟩
 let X:over (Zx i bs)≠none:=by rw[m];exact λz=>nomatch z
 let⟨eL,c1,c9,e0,e1,e4,e2⟩:=MG hw p m;subst eL;let r:=a0.trans s3;let R3:=R.same r;let⟨a3,a9⟩:=R3.sh.self;let eI:ns.map V.int=iN bs:=by rw[eb,yZ];rfl
 let M:H3 D=some (.lst (iN bs)):=by rw[<-eI];exact s3 _ _ (s2 _ _ J)
 exists _,Z,S,a3,_,Z,a9,Z,_,Z,S,d,lk,D,i,lv,av,W,u,q,ls,bs,Z,R3,M,y,λb hf=>(q2 X b hf).mono r;intro hf H4 s4;let g:=r.trans s4;let R4:=R.same g;let⟨a4,n⟩:=R4.sh.self;let kl:=NL kv;let⟨B,i0,e9,rfl,e3,_,_⟩:=kl;let c4:=(NL kv).mono (ZC.tups s4);let j:=s4 _ _ M;exists _,Z,S,a4,_,Z,n,Z,_,Z,_,Z,S,d,lk,i.length,q,ls,.ref D,.ref B,Z,R4.sh,by rw[JR R];lia
 intro H5 x G nx k fr R5 W5;let a1:YC H4 H5:=λb ys e=>fr b _ (ZI e n) (ZI e R4.sh.kept) e;let N:H5 D=some (.lst (iN bs)):=fr _ _ (ZI j n) (ZI j R4.sh.kept) j;let PP:=FT (t:=YQ i bs) (x:=x) (th:=D) (tg:=B) (ab:=G) R (H':=H5) (λb o n1 n2 e=>fr b o n1 n2 (g b o e)) (g.free nx) nD (g.free k) (Za j k).symm R5 W5
  ⟨iN bs,N,λz=>absurd z (by show (gd i (bs.getD 0 0)).h+1≠0;lia),λ_=>rfl⟩ (c4.mono a1)
 let⟨a5,c0⟩:=R5.self;let el:u.length=i.length:=R.len;let aL:∀ b,b∈lv->(u++[(⟨x,D,B,G⟩:YE)]).getD b .d=u.getD b .d:=λb y=>Kv (by have:=R.lt b y;lia)
 let aN:(u++[(⟨x,D,B,G⟩:YE)]).getD i.length .d=⟨x,D,B,G⟩:=by rw[<-el];exact Lr
 let en:(i++[YQ i bs]).length=i.length+1:=by simp
 refine⟨_,Z,S,a5,_,Z,c0,Z,_,Z,_,Z,S,d,lk,D,_,_,_,_,_,_,ls,bs,i.length,Z,PP,N,c1,λb a=>?_,λb a=>?_,λH6 a6 e8 R6=>⟨_,Z,?_⟩⟩
 ·let O:=y b a;let c6:=p b a;let nb:b≠i.length:=∅
  let h0:W b≠0:=by
   have:=vN.mp hf b a;simpa using this
  exists yC _ O,?_
  ·rw[show Xb i.length W b=W b from aK nb];lia
  ·rw[show WR i.length av b=av b from aK nb];have:=C b O;lia
 ·rcases zJ.mp a with c | c
  ·rw[aL b c];exact(Za (R.tw b c).tw.above nD).symm
  ·rw[zM.mp c,aN];exact Za j k
 ·refine q3 X hf H6 ⟨x,D,B,G⟩ (g.free nx) nD (g.free k) (λc o n1 n2 n3 e=>?_) R6;refine a6 c o (λb a=>?_) (fr c o n1 n2 (g c o e));rcases zJ.mp a with z | z
  ·rw[aL b z];exact n3 b z
  ·rw[zM.mp z,aN];exact⟨Za e (g.free nx),Za e (g.free k)⟩
abbrev JZ:Stmt:=XE (top 35) 15
def LH{g h:aj}{H l:Hp}{S d n:aj}{w:jq}{v:jo}{r:Nat->jo}{u:Nat->Nat}{q:ju}{j:List (ZR×V)}{A k:jf}(R:YD g h H S d n w v r u q j A)(f:∀ b o,b≠n->H b=some o->l b=some o)(y:l n=some (.lst k)):YD g h l S d n w v r u q j k:=by
 let⟨⟨x,s⟩,t,a⟩:=R.sh;let m:YC H l:=λc C e=>f c _ (ZI e a) e;refine⟨⟨⟨x,f _ _ (ZI s a) s⟩,f _ _ (ZI t a) t,y⟩,R.keys,R.val,R.lt,R.len,λi p=>?_,R.own,R.two⟩;let W:=R.tw i p;let⟨B,z⟩:=W.tw.self;exact W.frame m (λo e=>f _ _ (ZI z a) e) (λo e=>f _ _ (R.own i p).2.2.1 e) (λo e=>f _ _ (R.own i p).2.1 e)
structure Xz(gt:jp)(jZ kd:aj)(H:Hp)(S d lk:aj)(ts:jq)(lv:jo)(av:Nat->jo)(ho:Nat->Nat)(as:ju)(kvs:List (ZR×V))(ls:jf):Prop where
 sh:YD jZ kd H S d lk ts lv av ho as kvs ls
 wf:WF gt ts
 vl:Lv ts lv
 av:∀ i,i∈lv->(av i).Perm (abv ts lv i)
 live:∀ i,i∈lv->1<=(abv ts lv i).length+ho i
 l800:ts.length<=800
inductive WP(gt:jp)(jZ kd CD:aj)(o:jf)(H:Hp)(Q:VK)(E:XK):Prop
 |mk(S d m:aj)(g:jq)(a:jo)(k:Nat->jo)(c:Nat->Nat)(h:ju)(e:List (ZR×V))(n:jf)(i:Nat)(_:o=[.ref S,.int (i:Nat)])(_:Xz gt jZ kd H S d m g a k c h e n)(_:i∈a)(_:∀(r:aj)(l:jo) b,ZC H b->H r=none->b r=some (.lst (iN l))->Zo g a c i l->Q (.ref r) b)(_:∀ j,Sh g a c i (some j)->Vj CD (j:Nat) E H)
abbrev Df:jr:=["self","number","road","above"]
def QB:ZB Df zEa (Zf Kw):=Z4
def Ky(l:jo)(b:Nat):Xr (iN (l++[b])) (-1)=some (.int (b:Nat)):=by
 have:iN (l++[b])=iN l++[.int (b:Nat)]:=by simp[iN]
 rw[this];exact LZ _ _
def Cp{gt:jp}(F:Zn K "road_up" "Shelf.road_up" Kw f fd)(L:Yd K mg jZ kd)(N:XN P w K mg kf "Shared" CD)(DT:ZA P w K mg kf ZY 1 jZ "twig_of" zEa (Ze jZ))(DH:ZA P w K mg kf ZY 2 jZ "holders" zEa (XG jZ kd λ_ k us=>.int ((us.length:Nat)+(k:Nat):Int))):ZN P w K mg kf (YB P w) 3 f fd zEa (WP gt jZ kd CD):=by
 refine F.kD QB λa4 A a3 s H vs Q E O h=>?_;let⟨S,d,lk,a,n,R,k,y,D,ls,i,rfl,U,hi,k1,k2⟩:=h;let nd:=QB.nd;let a2:=O.mono (show 1<=2 by lia)
 intro Xc;refine⟨_,ZQ (Zs 2 nd (XH (ZV (pv 1)))) (ZW (NX MS (Yg V9)
  (ZQ (Z1 (YI Vr (YS (E:=E0) (pv 0) L.cS DH O YY (ZV (Zi K (pv 2) (OI P4 ZO)))) ZO (Z0 _)) (ZW (LT WY N O (ZV (Zi K (pv 2) (OI P4 ZO))) rfl)) Z6)
  (ZQ (Zs 3 nd (Xg (YS (E:=E0) (pv 0) L.cS DT a2 YY (ZV (Zi K (pv 2) (OI P4 ZO)))) rfl))
  (ZQ (Z1 (YI (Nw O.units0) (pv 3) (XH Zw) (Z0 _)) (ZW (Zr (pv 2))) Z6)
  (ZW (XF (Vs yF xP xO UF (pv 2) (ZV (Zi K (pv 3) ZO)))))))))),?_⟩
 exists _,Z,YX;intro r nr;refine⟨λm σ H'=>∃(b:Nat)(G:jo)(k3:jg),m=Wz a (gd a b).h/\σ=[some (.ref S),some (.int (i:Nat)),some (.ref r),k3]/\ZC H H'/\H' r=some (.lst (iN (G++[b])))/\G.length+Wz a (gd a b).h<=a.length/\b∈n/\(∀ o,Sh a n k b o->Sh a n k i o)/\∀ l,Zo a n k b l->Zo a n k i (G++l),
  ⟨_,i,[],none,Z,Z,Zc nr _,ZP,by have:=Kg a (gd a i).h;simp;lia,hi,λ_ z=>z,λ_ z=>z⟩,?_⟩
 rintro m σ H1 ⟨b,G,k3,rfl,rfl,s1,J,rl,B,up,I⟩;refine⟨_,Z,YJ ⟨_,λ_ _ z=>z,?_⟩⟩;let u:=U.sh.same s1;let⟨dx,hS⟩:=u.sh.self;let W:=u.tw b B;let⟨dt,hx⟩:=W.tw.self;let C:=U.av b B;let lI:(iN (R b)).length=(abv a n b).length:=(zX _).trans C.length_eq;refine⟨_,Z,S,dx,_,Z,hS,Z,_,Z,1,Z,.inl ⟨r,_,_,.int (b:Nat),Z,Z,ZG.of J,Ky _ _,S,d,lk,a.length,D,ls,(b:Int),_,_,_,_,_,_,Z,⟨u.sh,u.val b B,W.tw⟩,?_⟩⟩;exists _,_,Z,Z,_,Z;refine Yz (λc=>?_) (λc=>?_)
 ·let v:(abv a n b).length+k b≠1:=λz=>by
   have:=of_decide_eq_true c;rw[lI] at this
   lia
  refine⟨_,Z,1,Z,.inl ⟨r,_,_,.int (b:Nat),Z,Z,ZG.of J,Ky _ _,_,Z,λdd Y=>(k2 b (up _ (.here v))).go s1 Y⟩⟩
 ·let v:(abv a n b).length+k b=1:=by
   have:¬ ((1:Int)<((iN (R b)).length:Nat)+(k b:Nat)):=λz=>c (aJ z);rw[lI] at this;have:=U.live b B
   lia
  refine⟨_,Z,S,dx,_,Z,hS,Z,_,Z,1,Z,.inl ⟨r,_,_,.int (b:Nat),Z,Z,ZG.of J,Ky _ _,S,d,lk,a.length,D,ls,(b:Int),.ref (y.getD b .d).x,Z,u.sh,u.val b B,(y.getD b .d).x,kd,dt,_,.ref (y.getD b .d).ab,Z,hx,L.cT,L.nab,Z,?_⟩⟩;exists _,Z,YX;intro e0 a0;let M:=Zc a0 (.lst []);let e:=M _ _ W.tw.above;let g:=M _ _ J;let t:=s1.trans M;exists (y.getD b .d).ab,e0,_,Z,Z,ZG.of e,ZG.of ZP,_,Z;generalize upd H1 e0 (.lst [])=H3 at M e g t⊢
  cases p:abv a n b with
  | nil=>
   rw[p] at C;rw[C.eq_nil,show (iN ([]:jo)).isEmpty=true from rfl];exact YJ ⟨_,Z,k1 r _ H3 t nr g (I _ (.top v p))⟩
  | cons j q=>
   let X:q=[]:=by
    rw[p,yV] at v;exact rK.mp ∅
   subst X;rw[p] at C;let T:R b=[j]:=List.perm_singleton.mp C;rw[T] at e⊢;rw[show (iN [j]).isEmpty=false from rfl];let jl:=Ph U.wf U.vl (i:=b) (j:=j) (by rw[p];exact zT)
   let jt:=U.vl.lt j jl.2;let l8:=U.l800;let jm:=Nx jt jl.1;refine Zp ⟨_,Z,.inl ⟨Z,_,ZG.of g⟩,_,Z,.inl ⟨(y.getD b .d).ab,_,0,.int (j:Nat),Z,Z,ZG.of e,Xk (j:=0) Z,r,_,.int (j:Nat),Z,Z,g,YL (by simp[iN];lia),?_⟩⟩
   refine⟨Wz a (gd a j).h,jm,j,G++[b],_,Z,Z,VJ t nr,?_,by simp;lia,jl.2,λo a1=>up o (.up v p a1),λl hl=>by rw[uF];exact I _ (.up v p hl)⟩
   rw[ZP];simp[iN]
structure XD(K:zZ)(mg:jb)(CD:aj):Prop where
 at_:mg "Shared" = some (.ref CD)
 ty:yE K (.ref CD)=some (.type "type")
 mB:yR K CD (.type "BaseException")=some true
 self:yR K CD (.ref CD)=some true
inductive Ws(gt:jp)(jZ kd:aj)(m:jf)(H:Hp)(Q:VK)(_:XK):Prop
 |mk(S d k:aj)(g:jq)(b:jo)(j:Nat->jo)(e:Nat->Nat)(h:ju)(a:List (ZR×V))(l:jf)(i:Nat)(o:jO)(_:m=[.ref S,.int (i:Nat)])(_:Xz gt jZ kd H S d k g b j e h a l)(_:i∈b)(_:Sh g b e i o)(_:∀ c,ZC H c->Q (.bl o.isNone) c)
def ZNM:ZB zEa zEa (Zf JG):=Z4
def BJ{gt:jp}(F:Zn K "alone" "Shelf.alone" JG f fd)(L:Yd K mg jZ kd)(N:XD K mg CD)(m:ZA P w K mg kf (YB P w) 3 jZ "road_up" zEa (WP gt jZ kd CD)):ZN P w K mg kf ZY 4 f fd zEa (Ws gt jZ kd):=by
 refine F.ko ZNM λu A c s H vs Q E I h=>?_;let⟨S,d,J,R,O,r,G,q,b,M,i,o,rfl,U,C,l,k⟩:=h;let⟨Y,y,p,n,t⟩:=m.ex;intro V;exists _,ZQ (Ah (λ_=>pv 0) L.cS p n I t (λ_=>ZV (pv 1)) Z Z Z N.at_ N.ty N.mB (λX T=>ZW (Zr V9))) (ZW (Zr V9));let⟨x,B⟩:=U.sh.sh.self;refine⟨_,Z,S,x,_,Z,B,Z,_,Z,S,d,J,R,O,r,G,q,b,M,i,Z,U,C,λv _ a g _ _ z=>?_,λj D W a g e=>?_⟩
 ·cases l.uniq z.sh;exact k a g
 ·cases l.uniq D;exact⟨CD,Z,N.self,k a g⟩
inductive WO(jZ kd:aj)(n:jf)(H:Hp)(Q:VK)(_:XK):Prop
 |mk(S d l:aj)(k:jq)(j:jo)(h:Nat->jo)(i:Nat->Nat)(g:ju)(a:List (ZR×V))(m:jf)(_:n=[.ref S])(_:YD jZ kd H S d l k j h i g a m)(_:∀(e:Hp)(c:aj),H c=none->(∀ b o,b≠S->H b=some o->e b=some o)->YD jZ kd e S d c k j h i g a []->Q .non e)
def ZLA:ZB zEl zEl (Zf JZ):=Z4
def ZJU(F:Zn K "forget" "Shelf.forget" JZ f fd)(L:Yd K mg jZ kd):ZN P w K mg kf ZY 1 f fd zEl (WO jZ kd):=by
 refine F.ko ZLA λG A u s H vs Q E X h=>?_;let⟨S,d,y,B,lv,T,V,O,J,Y,rfl,R,k⟩:=h;intro N;exists _,ZW (Ub (pv 0) (XH Zw) Z);exists YX;intro p g;let v:=Zc g (.lst []);let C:=R.same v;let⟨q,t⟩:=C.sh.self;exists _,Z,S,jZ,q,_,Z,t,L.cS,L.nl,yU Z;let D:S≠p:=λz=>by rw[z,ZP] at t;cases t
 let l:∀ b o,b≠S->H b=some o->upd (upd H p (.lst [])) S (.ins jZ q (Ye "looks" (.ref p) (Qg d y B.length))) b=some o:=λb o n e=>by rw[ZM n];exact v _ _ e
 let⟨⟨U,a⟩,x,I⟩:=R.sh;let m:YC H (upd (upd H p (.lst [])) S (.ins jZ q (Ye "looks" (.ref p) (Qg d y B.length)))):=λc xs e=>l c _ (ZI e a) e;refine k _ p g l ⟨⟨⟨q,ZP⟩,l _ _ (ZI x a) x,(by rw[ZM (Ne.symm D)];exact ZP)⟩,R.keys,R.val,R.lt,R.len,λi j=>?_,λi j=>?_,R.two⟩
 ·let W:=R.tw i j;let⟨M,r,_⟩:=W.things;exact W.frame m (λo e=>l _ _ (R.own i j).1 e) (λo e=>l _ _ (ZI r a) e) (λo e=>l _ _ (ZI W.tw.above a) e)
 ·let⟨M,r,_⟩:=(R.tw i j).things;exact⟨(R.own i j).1,Za (R.tw i j).tw.above g,Za r g,(R.own i j).2.2.2⟩
end Tw
namespace L2
open PySem PySem.Spec PyProof.Rows
def ZIw(G:X.calm=true):VL X (.builtin "max") (λC H Q=>∃(p:aj)(d:jA),C=[.ref p]/\ZG X.K H p (d.map V.int)/\d≠[]/\∀ m,m∈d->(∀ x∈d,x<=m)->Q (.int m) H):=by
 intro B s Y H C W Q I r h;let⟨p,d,rfl,L,t,q⟩:=h;let⟨u,rfl,P⟩:=VO r;cases P;let⟨N,R,O,U⟩:=I.list L;let b:=JA R;let⟨a,e⟩:=b.allInts.items;let z:=O.isList;rw[e] at z;let y:a.toList.map (·.1)=d:=by
  rw[<-nums_intItems,<-e];exact b.numsOf
 let g:a.size=d.length:=by rw[<-y];simp
 let k:0<a.size:=by
  rw[g];exact wC.mpr t
 refine max_intList (I.ok.hd G) z k λv T S A J=>?_;let⟨D,w⟩:=argBest_gt (numAt a) (a.size-1);generalize argBest (λi j=>decide (numAt a i > numAt a j)) (a.size-1)=j at A D w;let o:j<a.size:=∅
 let f:∀ i (b:i<a.size),numAt a i=a[i].1:=λi b=>by unfold numAt;simp[b]
 let F:v=.int (numAt a j) a[j].2:=by
  have:=A;unfold intItems at this;simp[o] at this;rw[f j o];exact this.symm
 let c:∀ i (b:i<a.size),d[i]? = some (numAt a i):=λi b=>by rw[<-y,f i b];simp[b]
 refine⟨.int (numAt a j),H,I.kept (t':=S) J,⟨_,F⟩,q _ (zG (c j o)) λx M=>?_⟩;let⟨i,l,E⟩:=uR M;let n:i<a.size:=∅
 have:=c i n;rw[zW l,E] at this;rw[zB.inj this];exact w i ∅
end L2
namespace Tw
open PySem PySem.Spec L2 PyProof.Rows
inductive UG(x:V)(c:jf)(H:Hp)(Q:VK):Prop
 |mk(l:aj)(b:jf)(a:jp)(v:V)(t:KT)(j:Nat)(_:x=.ref l)(_:c=[v])(_:H l=some (.lst b))(_:jU H a b)(_:ZF H t v)(_:∀ k∈a,k.depth<=100)(_:a[j]? = some t)(_:∀ i k,i<j->a[i]? = some k->k.eqb t=false)(_:j<1000)(_:Q (.int (j:Nat)) H)
open Classical in
def Cs{k:Nat}(V:ZZ (k+3) X.A):NY X "list.index" UG:=by
 intro N s σ H x vs v us Q I rx rv h;let⟨l,ws,L,v0,t,j,rfl,rfl,S,U,W,T,K,G,B,q⟩:=h;cases rx;let⟨u,rfl,ru⟩:=rv.one;let⟨z,b,n,r,hl,e⟩:=I.lstM S;let kt:=Me I t v0 u W ru;let M:=kvals_of I L ws b U r;let lk:=M.length;let C:j<b.length:=by have:=(yN.mp K).1;lia (splits:=8)
 let p:j<b.toArray.size:=by simpa using C
 let f:∀ m (i:m<b.toArray.size),∃ k,L[m]? = some k/\ZX s.heap k b.toArray[m]:=λm i=>by
  let E:m<b.length:=by simpa using i
  let⟨a,d,g⟩:=M.get (zW E);exact⟨a,d,by simpa using g⟩
 let o:∀(y:ai)(a:KT),ZX s.heap a y->decide (∃ k,ZX s.heap k y/\k.eqb t=true)=a.eqb t:=λy a w=>by
  cases c:a.eqb t with
  | true=>exact aJ ⟨a,w,c⟩
  | false=>
   refine aI ?_;rintro⟨Y,P,R⟩;let d:=Mx _ _ (ZX.inj a Y y w P);rw[d,R] at c;cases c
 refine call_meets F.slot_list_index ⟨_,e,Z⟩ F.entry_list_index (F.args_list_index_2 _ _) (PySem.SeqAt.list_indexAt l _ n none #[] u (λy=>decide (∃ k,ZX s.heap k y/\k.eqb t=true)) j p nofun ?_ (λm i D=>?_)) ⟨e,λy w=>?_,?_⟩
 ·let⟨a,d,g⟩:=f j p;rw[K] at d;cases d;exact aJ ⟨t,g,NT t⟩
 ·let⟨a,d,g⟩:=f m i;rw[o _ a g];exact G m a D d
 ·let⟨m,i,O⟩:=uR (List.mem_toArray.mp w);let⟨a,d,g⟩:=f m (by simpa using i)
  let J:ZX s.heap a y:=by rw[<-O];simpa using g
  rw[o y a J];exact Ko a.depth a t _ y u (zY _) J kt ((ZZ.key V.in1) (zL (T a (zG d)) nofun))
 ·exact⟨.int (j:Nat),H,I.tok _,⟨_,Z⟩,q⟩
end Tw
namespace Srt
open PySem PySem.W PyProof.Rows
structure Ux(lt:Nat->Nat->Bool):Prop where
 asym:∀ i j,lt i j=true->lt j i=false
 trans:∀ i j k,lt j i=false->lt k j=false->lt k i=false
def gt(p:jz)(i:Nat):Nat:=p.getD i 0
def Pb(p:jz)(i:Nat):gt p i=(p[i]?).getD 0:=by unfold gt;rw[Array.getD_eq_getD_getElem?]
def Mc{p:jz}{i j:Nat}(a:j<=p.size)(k:Nat):gt (kas_rev p i j) k=if i<=k/\k<j then gt p (i+j-1-k) else gt p k:=by
 rw[Pb,Pb,Pb];unfold kas_rev;rw[getElem?_mirror_all a];split <;> rfl
def ZOv{p:jz}{k l:Nat}(a:k<p.size)(b:l<=k)(x:Nat):gt (bubble p k (k-l)) x=if x=l then gt p k else if l<x/\x<=k then gt p (x-1) else gt p x:=by
 rw[Pb,Pb,Pb,Pb,getElem?_bubble a (k-l) ∅]
 let e:k-(k-l)=l:=∅
 rw[e];split
 ·rfl
 ·split <;> rfl
def PB(n:Nat)(p:jz):Prop:=p.Perm (yK (zN n))
def PB.size{n:Nat}{p:jz}(h:PB n p):p.size=n:=by rw[h.size_eq];simp
def PB.lt{n:Nat}{p:jz}(h:PB n p){i:Nat}(a:i<n):gt p i<n:=by
 let b:=h.size;rw[Pb,qX ∅]
 have:p[i]'∅∈(yK (zN n)):=h.mem_iff.mp (Array.getElem_mem _)
 simpa using this
def PB.rev{n:Nat}{p:jz}(h:PB n p)(i j:Nat):PB n (kas_rev p i j):=(mirror_perm _ _ _ _).trans h
def PB.bub{n:Nat}{p:jz}(h:PB n p)(i j:Nat):PB n (bubble p i j):=(bubble_perm _ _ _).trans h
section
variable{lt:Nat->Nat->Bool}{n:Nat}{cmp:Nat->Nat->(Bool->ak->Prop)->ak->Prop}
def QU(lt:Nat->Nat->Bool)(p:jz)(k:Nat):Prop:=∀ i j,i<=j->j<k->lt (gt p j) (gt p i)=false
def Q3(lt:Nat->Nat->Bool)(p:jz)(k:Nat):Prop:=∀ i j,i<=j->j<k->lt (gt p i) (gt p j)=false
def Ux.irr(O:Ux lt)(i:Nat):lt i i=false:=by
 cases h:lt i i with
 | false=>rfl
 | true=>exact absurd (O.asym i i h) (by rw[h];decide)
def Pe(lt:Nat->Nat->Bool)(n:Nat)(cmp:Nat->Nat->(Bool->ak->Prop)->ak->Prop)(s:ak):Prop:=∀ i j,i<n->j<n->∀ C:Bool->ak->Prop,C (lt i j) s->cmp i j C s
def Kd(O:Ux lt)(k:Pe lt n cmp s){p:jz}(e:PB n p):∀(f m N:Nat)(Q:Nat->ak->Prop),f+m=N->N<=n->1<=m->QU lt p m ->
  (∀ a,m<=a->a<=N->QU lt p a->(a=N\/lt (gt p a) (gt p (a-1))=true)->Q a s)->(kas_asc p f m).kasWp cmp Q s
 | 0,m,N,Q,v,g,w,b,c=>c m (zY _) ∅ b (.inl ∅)
 | f+1,m,N,Q,v,g,w,b,c=>by
  refine k _ _ (e.lt (i:=m) ∅) (e.lt (i:=m-1) ∅) _ ?_
  show (if lt (gt p m) (gt p (m-1))=true then KasT.ret m else kas_asc p f (m+1)).kasWp cmp Q s
  cases l:lt (gt p m) (gt p (m-1)) with
  | true=>rw[aM rfl];exact c m (zY _) ∅ b (.inr l)
  | false=>
   rw[aK zR];refine Kd O k e f (m+1) N Q ∅ g ∅ (λi j d y=>?_) λa x q r t=>c a ∅ q r t
   rcases yH j m with h | h
   ·exact b i j d h
   ·let o:j=m:=∅
    subst o;rcases yH i j with u | u
    ·exact O.trans _ _ _ (b i (j-1) ∅ ∅) l
    ·have:i=j:=∅
     rw[this];exact O.irr _
def Ka(lt:Nat->Nat->Bool)(p:jz)(m q:Nat):Prop:=q+1<=m/\∀ i j,m-(q+1)<=i->i<m->m-(q+1)<=j->j<m->lt (gt p i) (gt p j)=false
def Fq(O:Ux lt){p:jz}{m q:Nat}(h:m<=p.size)(e:Ka lt p m q)(b:Q3 lt p m):Q3 lt (kas_rev p (m-(q+1)) m) m:=by
 let⟨l,d⟩:=e;let g (k:Nat):=Mc (p:=p) (i:=m-(q+1)) h k;intro i j a f;rw[g i,g j];split
 ·rename_i c
  rw[aM ⟨∅,∅⟩]
  exact d _ _ ∅ ∅ ∅ ∅
 ·rename_i c
  split
  ·exact b _ _ ∅ ∅
  ·exact b _ _ a f
def LE(O:Ux lt)(D:Pe lt n cmp s):∀(f:Nat)(p:jz)(m q N:Nat)(Q:jz×Nat×Nat->ak->Prop),PB n p->f+m=N->N<=n->Q3 lt p m->Ka lt p m q ->
  (∀ a c u,PB n a->m<=c->c<=N->Q3 lt a c->Ka lt a c u->Q (a,c,u) s)->(kas_desc f p m q).kasWp cmp Q s
 | 0,p,m,q,N,Q,b,P,F,r,o,x=>x p m q b (zY _) ∅ r o
 | f+1,p,m,q,N,Q,b,P,F,r,o,x=>by
  let S:=o.1;let V:=b.size;refine D _ _ (b.lt (i:=m) ∅) (b.lt (i:=m-1) ∅) _ ?_
  show (if lt (gt p m) (gt p (m-1))=true then (if q > 0 then kas_desc f (kas_rev p (m-(q+1)) m) (m+1) 0 else kas_desc f p (m+1) 0) else .ask (p.getD (m-1) 0) (p.getD m 0) λd=>if d=true then .ret (p,m,q) else kas_desc f p (m+1) (q+1):KasT _).kasWp cmp Q s
  let t:∀ a:jz,PB n a->Q3 lt a m->gt a m=gt p m->lt (gt p m) (gt p (m-1))=true->(∀ i,i<m->lt (gt a i) (gt p (m-1))=false)->Q3 lt a (m+1):=λa _ w e E R i j v U=>by
   rcases yH j m with h | h
   ·exact w i j v h
   ·let C:j=m:=∅
    subst C;rcases yH i j with l | l
    ·rw[e];exact O.trans _ _ _ (O.asym _ _ E) (R i l)
    ·have:i=j:=∅
     rw[this];exact O.irr _
  cases E:lt (gt p m) (gt p (m-1)) with
  | true=>
   rw[aM rfl];split
   ·let w:=Fq O ∅ o r
    let g (k:Nat):=Mc (p:=p) (i:=m-(q+1)) (j:=m) ∅ k
    refine LE O D f _ (m+1) 0 N Q (b.rev _ _) ∅ F (t _ (b.rev _ _) w (by rw[g m,aK ∅]) E λi T=>?_) ⟨∅,λi j G H I J=>?_⟩ λa c u y K z A B=>x a c u y ∅ z A B
    ·rw[g i];split
     ·exact o.2 _ _ ∅ ∅ ∅ ∅
     ·exact r _ _ ∅ ∅
    ·have:i=j:=∅
     rw[this];exact O.irr _
   ·refine LE O D f _ (m+1) 0 N Q b ∅ F (t _ b r Z E λi T=>r _ _ ∅ ∅) ⟨∅,λi j G H I J=>?_⟩ λa c u y K z A B=>x a c u y ∅ z A B
    have:i=j:=∅
    rw[this];exact O.irr _
  | false=>
   rw[aK zR];refine D _ _ (b.lt (i:=m-1) ∅) (b.lt (i:=m) ∅) _ ?_
   show (if lt (gt p (m-1)) (gt p m)=true then KasT.ret (p,m,q) else kas_desc f p (m+1) (q+1)).kasWp cmp Q s
   cases L:lt (gt p (m-1)) (gt p m) with
   | true=>rw[aM rfl];exact x p m q b (zY _) ∅ r o
   | false=>
    rw[aK zR];refine LE O D f _ (m+1) (q+1) N Q b ∅ F (λi j v U=>?_) ⟨∅,λi j G H I J=>?_⟩ λa c u y K z A B=>x a c u y ∅ z A B
    ·rcases yH j m with h | h
     ·exact r i j v h
     ·let C:j=m:=∅
      subst C;rcases yH i j with l | l
      ·exact O.trans _ _ _ L (r i (j-1) ∅ ∅)
      ·have:i=j:=∅
       rw[this];exact O.irr _
    ·rcases yH i m with h | h
     ·rcases yH j m with l | l
      ·exact o.2 i j ∅ h ∅ l
      ·let C:j=m:=∅
       subst C;exact O.trans _ _ _ L (o.2 i (j-1) ∅ h ∅ ∅)
     ·let M:i=m:=∅
      subst M;rcases yH j i with l | l
      ·exact O.trans _ _ _ (o.2 (i-1) j ∅ ∅ ∅ l) E
      ·have:i=j:=∅
       rw[this];exact O.irr _
def Dk{p:jz}{m:Nat}(b:m<=p.size)(c:Q3 lt p m):QU lt (kas_rev p 0 m) m:=λi j a d=>by
 let g (k:Nat):=Mc (p:=p) (i:=0) b k;rw[g i,g j,aM ⟨∅,∅⟩,aM ⟨∅,∅⟩]
 exact c _ _ ∅ ∅
def GO(O:Ux lt)(h:Pe lt n cmp s){p:jz}(b:PB n p){m N:Nat}{Q:Nat×jz->ak->Prop}(f:1<=m)(l:m<=N)(g:N<=n)(i:Q3 lt p m)(j:∀ a c,PB n c->1<=a->a<=N->QU lt c a->Q (a,c) s):(kas_tail3 m N p).kasWp cmp Q s:=by
 unfold kas_tail3;rw[KasT.kasWp_bind];exact Kd O h (b.rev 0 m) (N-m) m N _ ∅ g f (Dk (by have:=b.size;lia) i) λa k d e _=>j a _ (b.rev 0 m) ∅ d e
def Ir(O:Ux lt)(e:Pe lt n cmp s){p:jz}(q:PB n p){m N:Nat}{Q:Nat×jz->ak->Prop}(x:m+1<=N)(d:N<=n)(o:Q3 lt p (m+1))(h:∀ a b,PB n b->1<=a->a<=N->QU lt b a->Q (a,b) s):(kas_descPart m N p).kasWp cmp Q s:=by
 unfold kas_descPart;rw[KasT.kasWp_bind];refine LE O e (N-(m+1)) p (m+1) 0 N _ q ∅ d o ⟨∅,λi j r t u v=>?_⟩ λb a k c w f g l=>?_
 ·have:i=j:=∅
  rw[this];exact O.irr _
 ·let y:=c.size;show (if k > 0 then kas_tail3 a N (kas_rev b (a-(k+1)) a) else kas_tail3 a N b).kasWp cmp Q s
  split
  ·exact GO O e (c.rev _ _) ∅ f d (Fq O ∅ l g) h
  ·exact GO O e c ∅ f d g h
def Cb(O:Ux lt)(l:Pe lt n cmp s){p:jz}(a:PB n p){Q:Nat×jz->ak->Prop}(F:1<=n)(o:∀ q v,PB n v->1<=q->q<=n->QU lt v q->Q (q,v) s):(kas_count n p).kasWp cmp Q s:=by
 unfold kas_count;rw[KasT.kasWp_bind];let H:=a.size;refine Kd O l a (n-1) 1 n _ ∅ (zY _) (zY _) (λi j b t=>?_) λm x y c d=>?_
 ·have:i=j:=∅
  rw[this];exact O.irr _
 ·split
  ·exact o m p a x y c
  ·rename_i u
   let G:m<n:=by have:m≠n:=λe=>u (by rw[e];simp);lia
   let z:lt (gt p m) (gt p (m-1))=true:=by
    rcases d with d | d
    ·lia
    ·exact d
   split
   ·rename_i D
    refine l _ _ (a.lt (i:=0) ∅) (a.lt (i:=m-1) ∅) _ ?_
    show (if lt (gt p 0) (gt p (m-1))=true then KasT.ret (m,p) else kas_descPart m n (kas_rev p 0 m)).kasWp cmp Q s
    cases C:lt (gt p 0) (gt p (m-1)) with
    | true=>rw[aM rfl];exact o m p a x y c
    | false=>
     rw[aK zR];let w:∀ i j,i<m->j<m->lt (gt p i) (gt p j)=false:=λi j E t=>
      O.trans _ _ _ (c j (m-1) ∅ ∅) (O.trans _ _ _ C (c 0 i ∅ E))
     let g (k:Nat):=Mc (p:=p) (i:=0) (j:=m) ∅ k
     refine Ir O l (a.rev 0 m) ∅ (zY _) (λi j b t=>?_) o
     rw[g i,g j];rcases yH j m with h | h
     ·rw[aM ⟨∅,∅⟩,aM ⟨∅,∅⟩]
      exact w _ _ ∅ ∅
     ·let r:j=m:=∅
      subst r;rcases yH i j with f | f
      ·rw[aM ⟨∅,f⟩,aK ∅]
       exact O.trans _ _ _ (O.asym _ _ z) (w _ _ ∅ ∅)
      ·have:i=j:=∅
       rw[this,aK ∅];exact O.irr _
   ·let B:m=1:=∅
    subst B;refine Ir O l a ∅ (zY _) (λi j b t=>?_) o
    rcases yH i j with f | f
    ·let A:i=0:=∅
     let r:j=1:=∅
     subst A r;exact O.asym _ _ z
    ·have:i=j:=∅
     rw[this];exact O.irr _
def Km(O:Ux lt)(m:Pe lt n cmp s){p:jz}(e:PB n p){k:Nat}(q:k<n)(g:QU lt p k):∀(f l r:Nat)(Q:Nat->ak->Prop),l<=r->r<=k->r-l<=f->(∀ i,i<l->lt (gt p k) (gt p i)=false)->(∀ i,r<=i->i<k->lt (gt p k) (gt p i)=true) ->
  (∀ j,j<=k->(∀ i,i<j->lt (gt p k) (gt p i)=false)->(∀ i,j<=i->i<k->lt (gt p k) (gt p i)=true)->Q j s)->(kas_place p k f l r).kasWp cmp Q s
 | 0,l,r,Q,v,t,w,a,b,c=>c l ∅ a λi d=>b i ∅
 | f+1,l,r,Q,v,t,w,a,b,c=>by
  unfold kas_place;split
  ·exact c l ∅ a λi d=>b i ∅
  ·rename_i x
   refine m _ _ (e.lt (i:=k) q) (e.lt (i:=(l+r) / 2) ∅) _ ?_
   show (if lt (gt p k) (gt p ((l+r) / 2))=true then kas_place p k f l ((l+r) / 2) else kas_place p k f ((l+r) / 2+1) r).kasWp cmp Q s
   cases u:lt (gt p k) (gt p ((l+r) / 2)) with
   | true=>
    rw[aM rfl];refine Km O m e q g f l ((l+r) / 2) Q ∅ ∅ ∅ a (λi d o=>?_) c
    cases h:lt (gt p k) (gt p i) with
    | true=>rfl
    | false=>
     have:=O.trans _ _ _ (g ((l+r) / 2) i d o) h;rw[u] at this;cases this
   | false=>
    rw[aK zR];refine Km O m e q g f ((l+r) / 2+1) r Q ∅ t ∅ (λi d=>?_) b c
    exact O.trans _ _ _ (g i ((l+r) / 2) ∅ ∅) u
def ED(O:Ux lt)(v:Pe lt n cmp s):∀(f:Nat)(p:jz)(k:Nat)(Q:jz->ak->Prop),PB n p->f+k=n->1<=k->QU lt p k->(∀ o,PB n o->QU lt o n->Q o s)->(kas_bin f p k).kasWp cmp Q s
 | 0,p,k,Q,e,u,y,c,m=>m p e (by rw[<-u,Nat.zero_add];exact c)
 | f+1,p,k,Q,e,u,y,c,m=>by
  unfold kas_bin;rw[KasT.kasWp_bind];let C:=e.size;refine Km O v e ∅ c k 0 k _ (zF _) (zY _) ∅ (λi w=>absurd w ∅) (λi w z=>absurd z ∅) λl A a b=>?_
  let g (x:Nat):=ZOv (p:=p) (k:=k) (l:=l) ∅ A x
  refine ED O v f _ (k+1) Q (e.bub _ _) ∅ ∅ (λi j h B=>?_) m
  rw[g i,g j];by_cases t:i=l
  ·rw[aM t];by_cases d:j=l
   ·rw[aM d];exact O.irr _
   ·rw[aK d,aM ⟨∅,∅⟩]
    exact O.asym _ _ (b (j-1) ∅ ∅)
  ·rw[aK t];by_cases d:j=l
   ·rw[aM d,aK ∅]
    exact a i ∅
   ·rw[aK d];by_cases q:l<i/\i<=k
    ·rw[aM q,aM ⟨∅,∅⟩]
     exact c _ _ ∅ ∅
    ·rw[aK q];by_cases r:l<j/\j<=k
     ·rw[aM r];exact c _ _ ∅ ∅
     ·rw[aK r];exact c _ _ h ∅
def sort_ok(O:Ux lt)(b:Pe lt n cmp s)(g:1<=n){Q:jz->ak->Prop}(d:∀ p,PB n p->QU lt p n->Q p s):(kas_sort n).kasWp cmp Q s:=by
 unfold kas_sort;rw[KasT.kasWp_bind];refine Cb O b (p:=yK (zN n)) (Array.Perm.refl _) g λm p c f h a=>?_;show (if m<n then kas_bin (n-max m 1) p (max m 1) else .ret p:KasT _).kasWp cmp Q s
 split
 ·let e:max m 1=m:=∅
  rw[e];exact ED O b (n-m) p m Q c ∅ f a d
 ·let e:m=n:=∅
  subst e;exact d p c a
end
end Srt
namespace Tw
open PySem PySem.Spec L2 PyProof.Rows
section
variable{ke:js}{σ:L2.St}
def IP{H:Hp}{s:ak}{b:aj}(I:ZE X ke σ H s)(h:s.heap.objs.size<=b):b∉frs X.stack:=λz=>by
 let⟨_,o,e,_⟩:=I.stack.mem z;exact absurd (zU e) (vG.mpr h)
end
section
variable{ke:js}{σ:L2.St}{H:Hp}
def Fw{a:aj}{o:HO}(I:ZE X ke σ H s)(l:X.s₀.heap.get? a=none)(t:a≠X.env.locals)(m:∀ x c,X.env.cells.lookup x=some c->c≠a)(y:∀ p∈X.pn++ke,p.1≠a)(v:H a=none)(h:Zd X.prog X.w (upd H a o) s.heap a o):ZE X ke σ (upd H a o) s:=by
 let g:∀{b:aj}{u:HO},H b=some u->b≠a:=fun{b u} e z=>by rw[z,v] at e;cases e
 refine⟨I.ok,I.os,I.bare,⟨I.base.keep,I.base.slot,λb i q n A=>?_,I.base.there,λb k q=>?_,λb i u q=>?_,λb B q=>?_⟩,I.loc,I.cell,?_,λx c e=>?_,λp d=>?_,λb u e=>?_,I.len⟩
 ·rw[ZM (λz=>by rw[z,l] at q;cases q)];exact I.base.free b i q n A
 ·let e:=I.base.tups b k q;rw[ZM (g e)];exact e
 ·let e:=I.base.frzs b i u q;rw[ZM (g e)];exact e
 ·let⟨f,e⟩:=I.base.tbls b B q;exact⟨f,by rw[ZM (g e)];exact e⟩
 ·rw[ZM (Ne.symm t)];exact I.free
 ·rw[ZM (m x c e)];exact I.freeC x c e
 ·let⟨e,n,r⟩:=I.pin p d;exact⟨e,by rw[ZM (y p d)];exact n,r⟩
 ·by_cases j:b=a
  ·subst j;rw[ZP] at e;cases e;exact h
  ·rw[ZM j] at e;exact(I.hok b u e).stay (λ_ _ _ q=>q) (λc q=>by rw[ZM (g q)];exact q) λc k q=>by rw[ZM (g q)];exact q
def ZT.getD{b:jf}{a:je}(r:ZT b a){i:Nat}(h:i<b.length):ZU (b.getD i .non) (a.getD i Value.none):=by
 let⟨u,c,d⟩:=r.get (i:=i) (x:=b[i]) (by simp[h])
 rw[zV,zV,c,zW h];exact d
def JO{b:jf}{a:je}(r:ZT b a):∀(l:jo),(∀ i∈l,i<b.length)->ZT (l.map λi=>b.getD i .non) (l.map λi=>a.getD i Value.none)
 | [],_=>.nil
 | i::l,h=>.cons (ZT.getD r (h i zT)) (JO r l λj c=>h j (zI _ c))
def JN{b:jp}{a:jf}(d:jU H b a):∀(l:jo),(∀ i∈l,i<a.length)->jU H (l.map λi=>b.getD i (.int 0)) (l.map λi=>a.getD i .non)
 | [],_=>.nil
 | i::l,h=>by
  let c:=h i zT;let⟨t,e,g⟩:=d.get (i:=i) (v:=a[i]) (by simp[c])
  refine .cons (show ZF H (b.getD i (.int 0)) (a.getD i .non) from ?_) (JN d l λj f=>h j (zI _ f));rw[zV,zV,e,zW c];exact g
def range_getD{a:Type}(l:List a)(d:a):(zN l.length).map (λi=>l.getD i d)=l:=by
 apply List.ext_getElem
 ·simp
 ·intro i c b;simp[b]
end
def XX(t:Int×Int×Int):KT:=.tup [.int t.1,.int t.2.1,.int t.2.2]
def Bw(t u:Int×Int×Int):(XX t).plt (XX u)=(XX t).lt (XX u):=by
 let⟨a,b,c⟩:=t;let⟨d,e,f⟩:=u;unfold XX;simp only[KT.plt,pltL,KT.lt,ltL,KT.eqb]
def O2(h:aC)(a:jM)(b:je):Prop:=jV h (a.map XX) b
def IG{h:aC}{t:Int×Int×Int}{v:ai}(x:ZX h (XX t) v):∃(a:aj)(c d e:Tok),v=.ref a/\IsTup h a #[.int t.1 c,.int t.2.1 d,.int t.2.2 e]:=by
 unfold XX at x;rw[ZX] at x;let⟨a,n,rfl,f,b⟩:=x;rw[jV] at b;let⟨o,k,rfl,c,b⟩:=b;rw[jV] at b;let⟨p,l,rfl,d,b⟩:=b;rw[jV] at b;let⟨q,m,rfl,e,b⟩:=b;rw[jV] at b;subst b;rw[ZX] at c d e;let⟨g,rfl⟩:=c;let⟨i,rfl⟩:=d;let⟨j,rfl⟩:=e;exact⟨a,g,i,j,Z,f⟩
def ZOZ{t u:Int×Int×Int}{x y:ai}{Q:Bool->ak->Prop}(S:ZX s.heap (XX t) x)(T:ZX s.heap (XX u) y)(hu:A.units+2<cLine)(h:Q ((XX t).lt (XX u)) s):aA (az prog w) A (keyLt' (tuples' true) x y) Q E s:=by
 let⟨a,m,o,r,rfl,U⟩:=IG S;let⟨c,v,z,B,rfl,V⟩:=IG T;let⟨C,D,F⟩:=t;let⟨G,H,I⟩:=u;rw[<-Bw] at h;unfold XX at h;rw[KT.plt,pltL,pltL,pltL,pltL] at h;let⟨⟨Y,dd,K,sl⟩,P,N,n,O⟩:=U;let⟨⟨J,M,L,X⟩,i,l,n2,g⟩:=V;refine PySem.W.kat_lt P O i g ?_;show PySem.W.KatLex prog w A true _ Q [(.int C m,.int G v),(.int D o,.int H z),(.int F r,.int I B)] 0 s;let d:∀(p q:Int)(j k:Tok)(f:Bool->ak->Prop),f ((KT.int p).plt (KT.int q)) s->aA (az prog w) A (oneLt' false (.int p j) (.int q k)) f (λ_ _=>False) s:=λp q j k f R=>by
  refine PySem.W.kat_one _ _ (KB 0 (.int p) (.int q) A _ _ (by simp[KT.depth]) ⟨j,Z⟩ ⟨k,Z⟩ (by simp[KT.cmp]) (by simp[KT.depth];lia) prog w _ _ ?_)
  exact R
 let b:∀ p q:Int,(KT.int p).eqb (KT.int q)=(p==q):=λp q=>by rw[KT.eqb]
 refine vA (SeqAt.EqAt.int_int C m G v prog w _ _ ?_);refine vE (λe=>vB ?_) (λe=>vD ?_)
 ·rw[b,e,aM rfl] at h;refine vA (SeqAt.EqAt.int_int D o H z prog w _ _ ?_);refine vE (λe=>vB ?_) (λe=>vD ?_)
  ·rw[b,e,aM rfl] at h;refine vA (SeqAt.EqAt.int_int F r I B prog w _ _ ?_);refine vE (λe=>vB (PySem.W.kat_nil ?_)) (λe=>vD ?_)
   ·rw[b,e,aM rfl] at h;exact h
   ·rw[b,e,aK zR] at h;exact d _ _ _ _ _ h
  ·rw[b,e,aK zR] at h;exact d _ _ _ _ _ h
 ·rw[b,e,aK zR,KT.plt] at h;exact oneLt_int h
def GD{h:aC}:∀{ts:jM}{vs:je},O2 h ts vs->∃ b,PySem.W.KatTups h vs b/\b.length=vs.length/\∀ v∈b,∃ k t,v=Value.int k t
 | [],vs,x=>by
  unfold O2 at x;rw[wI,jV] at x;subst x;exact⟨[],.nil,Z,λv c=>absurd c (by simp)⟩
 | t::ts,vs,x=>by
  unfold O2 at x;rw[yT,jV] at x;let⟨v,r,rfl,m,x⟩:=x;let⟨b,d,e,f⟩:=GD (ts:=ts) (vs:=r) x;let⟨a,l,q,u,rfl,p⟩:=IG m;let⟨o,j,g,n,i⟩:=p;exists .int t.1 l::b,.cons j g i Z d,by simp[e]
  intro v c;rcases zC.mp c with rfl | c
  ·exact⟨_,_,Z⟩
  ·exact f v c
def ZLN{f:jM}{a:je}{Q:PyProof.Rows.SortKind->ak->Prop}(j:0<a.length)(h:O2 s.heap f a)(d:Q (tuples' true) s):aA (az prog w) A (keyKind' a.toArray) Q E s:=by
 let⟨g,b,i,c⟩:=GD h;refine PySem.W.kat_kind (T:=.type "int") b ∅ (λv e=>?_) (by decide) d
 let⟨k,t,rfl⟩:=c v e;exact xS.of_pure Z
def ZNb{c:jM}{a:je}{Q:jT->ak->Prop}(z:2<=a.length)(l:a.length<64)(h:O2 s.heap c a)(I:A.units+2<cLine)(H:∀ (p:jz) (b:jT),Srt.PB a.length p->jS b=p.map (uE (a.toArray.zip a.toArray))->failedOf b=none->Q b s):
  aA (az prog w) A ((sortRuns').run (SortSt.mk' (tuples' true) (a.toArray.zip a.toArray) #[] 7 none)) (λr e=>Q r.2 e) E s:=by
 let F:c.length=a.length:=by have:=jV.length h;rwa [zX] at this
 refine PySem.W.kat_run (G:=λp e=>e=s/\Srt.PB a.length p) Z z l (λp b e M n o q=>?_) ?_
 ·let⟨rfl,f⟩:=q;exact H p b f n o
 ·refine Srt.sort_ok (lt:=λi j=>((c.map XX).getD i (.int 0)).lt ((c.map XX).getD j (.int 0))) ⟨λi j=>P7 _ _,λi j k=>le_trans'⟩ (λi j d D C B=>?_) ∅ λp f N=>⟨Z,f⟩
  unfold PySem.W.kas_ask;let g:∀ i,i<a.length->∃ t,(c.map XX).getD i (.int 0)=XX t/\ZX s.heap (XX t) (a.getD i Value.none):=λi d=>by
   let⟨t,m,v⟩:=jV.get h (zW d);rw[zS] at m;let⟨L,u,rfl⟩:=yO.mp m;exists L,by rw[zV,zS,u];rfl
   rw[zV,zW d];exact v
  let⟨O,x,J⟩:=g i d;let⟨P,y,K⟩:=g j D;refine ZOZ J K I ?_;rw[<-x,<-y];exact B
section
variable{ke:js}{σ:L2.St}{H:Hp}
def Bv{k:Nat}{l:aj}{L:jf}{C:jM}{Q:VK}(hr:ZZ (k+2) X.A)(I:ZE X ke σ H s)(hl:ZG X.K H l L)(hk:jU H (C.map XX) L)(c1:L.length<64)(q:∀ (D:aj) (ws:jf) (rs:jM) (U:Hp),ZC H U->H D=none->U D=some (.lst ws)->jU U (rs.map XX) ws->rs.Perm C->Q (.ref D) U):
  aA (az X.prog X.w) X.A (call (.builtin "sorted") [.ref l]) (EP X ke σ Q) X.xe s:=by
 let⟨c,rv,pl,hz⟩:=I.list hl;let c0:=rv.length;let a4:=hk.length;rw[zX] at a4;let a9:ZZ k X.A.in1.in1:=(ZZ.in1 (k:=k+1) hr).in1;refine Calls.call_function_entry kind_sorted plain_sorted entry_sorted (args_sorted1 _) ?_;unfold Builtin.«sorted»;refine aa (m:=checkCount "sorted" 1 1 _) (ad ?_);refine aa (collect_list pl.isList ?_ (by rw[sizeLine_eq];lia))
 refine aa (wpAny_newList ?_ (by rw[sizeLine_eq];lia))
 let y:((s.heap.push (seqObj "list" #[] 0)).update s.heap.objs.size (Obj.mapSeq (· ++ c.toArray))).objs.size=s.heap.objs.size+1:=by rw[Heap.size_update,size_push']
 obtain⟨f,x⟩:∃ f,((s.heap.push (seqObj "list" #[] 0)).update s.heap.objs.size (Obj.mapSeq (· ++ c.toArray))).push (seqObj "list" c.toArray 0)=f:=⟨_,Z⟩;let u:f.get? (s.heap.objs.size+1)=some (seqObj "list" c.toArray 0):=by rw[<-x,<-y];exact yS _ Z
 let P:∀ b o,s.heap.get? b=some o->f.get? b=some o:=λb o z=>by
  let G:b<s.heap.objs.size:=zU z;rw[<-x,uG _ _ _ (by rw[y];exact zK (wG G)),uB _ _ _ _ (zK G),uG _ _ _ (zK G)]
  exact z
 let c4:f.objs.size=s.heap.objs.size+2:=by rw[<-x,size_push',y]
 obtain⟨D,eD⟩:∃ D,s.heap.objs.size+1=D:=⟨_,Z⟩;rw[eD] at u;let F:s.heap.objs.size<=D:=∅
 let j:H D=none:=I.hok.fresh F;let d:Wm X ke H D:=I.fpOk F j;let a1:X.s₀.heap.get? D=none:=uX (zL I.sz F);let I1:ZE X ke σ H { s with heap:=f }:=I.kept (t':=s.toks) P;let a0:((s.heap.push (seqObj "list" #[] 0)).update s.heap.objs.size (Obj.mapSeq (· ++ c.toArray))).objs.size=D:=y.trans eD;show aA _ _ _ _ _ { s with heap:=((s.heap.push (seqObj "list" #[] 0)).update s.heap.objs.size (Obj.mapSeq (· ++ c.toArray))).push (seqObj "list" c.toArray 0) };rw[x,a0];refine aa (af (wpAny_call_entry slot_list_sort ⟨_,u,rfl⟩ entry_list_sort ?body (args_list_sort _)));rw[list_sort_plain];refine aa (listItems_at u Z ?_);refine aa (listUpdate_at u Z ?_ (by rw[zQ,sizeLine_eq];lia) (zF _))
 let T:=xB.update f D (Obj.mapSeq λ_=>(#[]:jv));obtain⟨e1,J⟩:∃ e1,(f.update D (Obj.mapSeq λ_=>(#[]:jv))).get? D=some (seqObj "list" #[] e1):=⟨_,get?_update_seq u λ_=>#[]⟩;obtain⟨h,M⟩:∃ h,f.update D (Obj.mapSeq λ_=>(#[]:jv))=h:=⟨_,Z⟩;rw[M] at J T;show aA _ _ _ _ _ { s with heap:=f.update D (Obj.mapSeq λ_=>(#[]:jv)) };rw[M];let I2:ZE X ke σ H { s with heap:=h }:=ZE.turned (s:={ s with heap:=f }) (t':=s.toks) (it:=D) I1 (λb o n z=>(T.2 b n).trans z) d.1 d.2.1 d.2.2.2.1 d.2.2.2.2.1 d.2.2.2.2.2;refine aa (seqEpoch_at J Z ?_);refine aa (wpAny_newTuple ?_ (by show c.length<=_;rw[sizeLine_eq];lia))
 refine aa (wpAny_newList ?_ (zF _));refine af ?_;obtain⟨e,N⟩:∃ e,(h.push (seqObj "tuple" c.toArray 0)).push (seqObj "list" #[] 0)=e:=⟨_,Z⟩;let v:∀ b o,h.get? b=some o->e.get? b=some o:=λb o z=>by rw[<-N];exact zP _ (zP _ z)
 let I3:ZE X ke σ H { s with heap:=e }:=I2.kept (t':=s.toks) v;let R:e.get? D=some (seqObj "list" #[] e1):=v _ _ J;let sv:O2 e C c:=kvals_of I3 _ _ _ hk rv;show aA _ _ _ _ _ { s with heap:=(h.push (seqObj "tuple" c.toArray 0)).push (seqObj "list" #[] 0) };rw[N];dsimp only;let E:∀(p:jz),Srt.PB c.length p->EP X ke σ Q (.ref D) { s with heap:=e.update D (Obj.mapSeq λ_=>yK (p.toList.map λi=>c.getD i Value.none)) }:=by
  intro p hp;let a7:=hp.size;let t:∀ i∈p.toList,i<L.length:=λi hi=>by
   have:i∈(yK (zN c.length)):=hp.mem_iff.mp (sJ.mp hi);have:=(xG.mp (by simpa using this):i<c.length)
   lia
  let a5:p.toList.length=c.length:=by rw[wR,a7]
  let s2:=xB.update e D (Obj.mapSeq λ_=>yK (p.toList.map λi=>c.getD i Value.none));obtain⟨c2,a2⟩:∃ c2,(e.update D (Obj.mapSeq λ_=>yK (p.toList.map λi=>c.getD i Value.none))).get? D=some (seqObj "list" (yK (p.toList.map λi=>c.getD i Value.none)) c2):=⟨_,get?_update_seq R λ_=>yK (p.toList.map λi=>c.getD i Value.none)⟩;let J2:ZE X ke σ H { s with heap:=e.update D (Obj.mapSeq λ_=>yK (p.toList.map λi=>c.getD i Value.none)) }:=ZE.turned (s:={ s with heap:=e }) (t':=s.toks) (it:=D) I3 (λb o n z=>(s2.2 b n).trans z) j d.2.1 d.2.2.2.1 d.2.2.2.2.1 d.2.2.2.2.2;let J3:=Fw (a:=D) (o:=.lst (p.toList.map λi=>L.getD i .non)) J2 a1 d.2.1 d.2.2.2.2.1 d.2.2.2.2.2 j ⟨by rw[zX,a5,sizeLine_eq];lia,_,c2,JO rv _ t,a2⟩
  let g:=Zc j (.lst (p.toList.map λi=>L.getD i .non));refine⟨.ref D,_,J3,Z,q D _ (p.toList.map λi=>C.getD i (0,0,0)) _ g j ZP ?_ ?_⟩
  ·have:=JN (hk.sm g) _ t;let e2:(p.toList.map λi=>(C.map XX).getD i (.int 0))=(p.toList.map λi=>C.getD i (0,0,0)).map XX:=by
    rw[yZ];refine tZ λi hi=>?_;let c3:=t i hi;let a3:i<C.length:=∅
    simp[zV,zW a3]
   rw[e2] at this;exact this
  ·let a6:p.toList.Perm (zN c.length):=by simpa using qK.mp hp
   have:=a6.map (λi=>C.getD i (0,0,0));rw[show c.length=C.length by lia,range_getD] at this
   exact this
 by_cases h:c.length<2
 ·rw[aM (by rw[zQ];exact h),aM (by rw[zQ];exact h)]
  refine aa (ad (aa (ad ?_)));dsimp only;let e0:((jS (SortSt.mk' general' (c.toArray.zip c.toArray) #[] 7 none)).map (·.2))=yK ((yK (zN c.length)).toList.map λi=>c.getD i Value.none):=by
   show ((c.toArray.zip c.toArray).map (·.2))=_;apply sN.mp;rw[Array.toList_map,ksk_zip];simp only[tY];rw[range_getD,List.map_snd_zip ∅]
  rw[e0];refine aa (seqEpoch_at R Z ?_);refine aa (listUpdate_at R Z ?_ (zF _) (by rw[zQ,zX,tY,rS,sizeLine_eq];lia))
  simp only[bne_self_eq_false,wS,if_false];exact ad ⟨.none,Z,ad ⟨_,Z,E _ (Array.Perm.refl _)⟩⟩
 ·rw[aK (by rw[zQ];exact h),aK (by rw[zQ];exact h)]
  refine aa (ZLN ∅ sv ?_)
  refine aa (Zz (ZNb (Q:=λB S=>S={ s with heap:=e }/\∃ p:jz,Srt.PB c.length p/\jS B=p.map (uE (c.toArray.zip c.toArray))/\failedOf B=none)
   ∅ ∅ sv (by let a:=a9.un;lia) λp B Y b3 b4=>⟨Z,p,Y,b3,b4⟩) λr S a8=>?_)
  let⟨⟨⟩,B⟩:=r;let⟨rfl,p,Y,b3,b4⟩:=a8;let O:=PySem.W.kat_snds Z b3;dsimp only;rw[O];refine aa (seqEpoch_at R Z ?_);refine aa (listUpdate_at R Z ?_ (zF _) (by rw[zQ,zX,wR,Y.size,sizeLine_eq];lia))
  rw[b4];simp only[bne_self_eq_false,wS,if_false];exact ad ⟨.none,Z,ad ⟨_,Z,E p Y⟩⟩
end
end Tw
namespace L2
open PySem PySem.Spec PyProof.Rows
section
variable{σ:St}{H:Hp}
def C6{J:It}{K:zZ}{r:jo}{z:TT}{w:TE}{Q:VK}{n:Nat}(h:Nat->V->Prop)(g:aj->Nat->jf->Hp->Prop)(S:n<ap)(q:∀ D i b H,i<n->g D i b H->J.go i H)(I:∀ D i b H x k,i<n->g D i b H->J.yld i H x k->k=H/\h i x)(j:∀ D b H,g D n b H->J.stop n H)(B:∀ D,H D=none->g D 0 [] (upd H D (.lst [])))(step:∀ D i b H x,H D=some (.lst b)->b.length<=i->i<n->h i x->g D i b H->∃ a u v,x=.ref a/\Zb K H a [u,v]/\∀ (R:VK) (N:Hp->Prop),(∀ y f,f D=some (.lst b)->g D (i+1) (b++[y]) (upd f D (.lst (b++[y])))->R y f)->(∀ f,f D=some (.lst b)->g D (i+1) b f->N f) ->
   z ([some u,some v]++r.map λi=>(σ[i]?).join) H λc t=>if c=true then w ([some u,some v]++r.map λi=>(σ[i]?).join) t R else N t)(o:∀ D b H,H D=some (.lst b)->g D n b H->Q (.ref D) H):O9 J 2 (P0 K) σ r z w H Q:=by
 intro D C;exists λi m H=>m=n-i/\i<=n/\∃ b,H D=some (.lst b)/\b.length<=i/\g D i b H,⟨n,rfl,zF _,[],ZP,zY _,B D C⟩;rintro i m H ⟨rfl,P,b,e,E,p⟩;by_cases d:i<n
 ·refine .inr ⟨q D i b H d p,λx k y M F=>?_⟩;let⟨rfl,L⟩:=I D i b H x k d p y;let⟨a,u,v,rfl,G,O⟩:=step D i b _ x e E d L p
  match M,F with
  | [T,U],_=>
   exists a,_,Z,G,Z,u,_,Z,v,_,Z,Z,⟨[some u,some v],Z,Z⟩;refine O _ _ (λy f l s=>?_) (λf l s=>?_)
   ·exact⟨b,n-(i+1),l,∅,∅,Z,d,b++[y],ZP,by rw[zH,xU];lia,s⟩
   ·exact⟨n-(i+1),∅,Z,d,b,l,∅,s⟩
 ·let A:i=n:=∅
  subst A;exact .inl ⟨j D b H p,o D b H e p⟩
end
end L2
namespace Tw
open PySem PySem.Spec L2 PyProof.Rows
variable{jZ kd CS CT CH CK CP CB:aj}
def PN{X:Cx}{K:zZ}{k:Nat}{o e:Expr}{h:TE}{t:TA}{c a:aH}(m:ZZ (k+3) X.A)(l:PE X o h)(j:PA X [e] t)(d:attributeBase o "index" X.env (aF o X.env)=aF o X.env:=by rfl)(g:((aE a (aq [e] X.env)).all (λx=>!x.1)&&(backToKw a (keywordEach [] X.env)).all (λx=>x.1.isSome)
   && decide (([e]:jy).length+([]:List Keyword).length+(if ([]:List Keyword).isEmpty then 0 else 1)<30))=true:=by rfl)(f:(c.endLine==a.line)=true:=by rfl)(n:aq [e] X.env=(false,aF e X.env)::aq [] X.env:=by rfl)(b:(aE a (aq [] X.env)).any (·.1)=false:=by rfl)(i:X.K=K:=by rfl):
  PE X (.Call (.Attribute o "index" c) [e] [] a) (GH K "list" UG h t):=by
 subst i;exact Vs yF PySem.F.slot_list_index PySem.F.type_list_index (Cs m) l j d g f n b
inductive OW(f:jf)(H:Hp)(Q:VK):Prop
 |mk(l:aj)(b:jf)(d:jM)(_:f=[.ref l])(_:H l=some (.lst b))(_:jU H (d.map XX) b)(_:b.length<64)(_:∀(D:aj)(e:jf)(c:jM)(a:Hp),ZC H a->H D=none->a D=some (.lst e)->jU a (c.map XX) e->c.Perm d->Q (.ref D) a)
def Bn{X:Cx}{k:Nat}(e:ZZ (k+2) X.A):VL X (.builtin "sorted") OW:=by
 intro b s n H m i Q I r h;let⟨l,j,g,rfl,d,c,a,q⟩:=h;let⟨u,rfl,f⟩:=VO r;cases f;exact Bv e I (ZG.of d) c a q
def B6{H:Hp}{k:jM}{l:jf}{i:Nat}{u:V}(h:jU H (k.map XX) l)(e:l[i]? = some u):∃ t a,t∈k/\u=.ref a/\H a=some (.tup [.int t.1,.int t.2.1,.int t.2.2]):=by
 let⟨t,d,c⟩:=h.get e;rw[zS] at d;let⟨r,m,rfl⟩:=yO.mp d;unfold XX at c;rw[ZF] at c;let⟨a,x,rfl,n,b⟩:=c;rw[jU] at b;let⟨s,o,rfl,f,b⟩:=b;rw[jU] at b;let⟨v,p,rfl,g,b⟩:=b;rw[jU] at b;let⟨w,q,rfl,j,b⟩:=b;rw[jU] at b;subst b;rw[ZF] at f g j;subst f g j;exact⟨r,a,zG m,Z,n⟩
structure XI(H:Hp)(dT:aj)(ts:jq)(lv:jo)(bs:jw)(kvs:List (ZR×V)):Prop where
 dict:H dT=some (.dK kvs)
 vl:Lv ts lv
 keys:kvs.map (·.1)=lv.map (λi:Nat=>(Sum.inl (i:Int):ZR))
 len:bs.length=ts.length
 tw:∀ i:Nat,i∈lv->∃ tp us,Z5 kvs (Sum.inl (i:Int))=some (.ref tp)/\H tp=some (.tup [.str (kindOf (gd ts i)),.ref (bs.getD i 0)])/\H (bs.getD i 0)=some (.lst us)/\((gd ts i).h=0->jU H (Yk (gd ts i).rows) us)/\((gd ts i).h≠0->us=iN (gd ts i).bs)
def XI.at{H:Hp}{d:aj}{c:jq}{b:jo}{bs:jw}{a:List (ZR×V)}(h:XI H d c b bs a):Ve H c b a:=⟨h.keys,λi l=>by
 let⟨m,n,e,f,g,j,k⟩:=h.tw i l;exact⟨_,e,m,_,n,Z,f,g,j,k⟩⟩
def XI.frame{H H':Hp}{b:aj}{e:jq}{c:jo}{bs:jw}{a:List (ZR×V)}(h:XI H b e c bs a)(m:YC H H')(p:H' b=some (.dK a))(n:∀ i:Nat,i∈c->∀ o,H (bs.getD i 0)=some o->H' (bs.getD i 0)=some o):XI H' b e c bs a:=by
 exists p,h.vl,h.keys,h.len;intro i d;let⟨q,r,f,g,j,k,l⟩:=h.tw i d;exact⟨q,r,f,m _ _ g,n i d _ j,λz=>(k z).mono m _ _,l⟩
def XI.same{H b:Hp}{c:aj}{f:jq}{d:jo}{bs:jw}{a:List (ZR×V)}(h:XI H c f d bs a)(s:ZC H b):XI b c f d bs a:=h.frame (ZC.tups s) (s _ _ h.dict) λi g o e=>s _ _ e
def XI.sx{H c:Hp}{p d:aj}{f:jq}{b:jo}{bs:jw}{a:List (ZR×V)}(h:XI H d f b bs a)(W:ZJ H p)(k:∀ i:Nat,i∈b->bs.getD i 0≠p)(s:ZH p H c):XI c d f b bs a:=by
 let⟨l,e⟩:=W.some;exact h.frame (s.tupsW W) (s _ _ h.dict (ZI h.dict e)) λi j o g=>s _ _ g (k i j)
def XI.lawT{gt:jp}{H:Hp}{e:aj}{d:jq}{f:jo}{bs:jw}{c:List (ZR×V)}(h:XI H e d f bs c)(i:WF gt d)(g:gt.length=64)(j:gt.Pairwise λa b=>a.lt b=true):XY gt H e d f c:=⟨h.dict,h.at,h.vl,i,g,j⟩
def Pg{gt:jp}(n:gt.Pairwise λa b=>a.lt b=true){t:KT}(h:t∈gt):∃ j,j<gt.length/\gt[j]? = some t/\∀ i k,i<j->gt[i]? = some k->k.eqb t=false:=by
 let⟨j,f,e⟩:=uR h;let d:gt[j]? = some t:=by rw[zW f,e]
 exists j,f,d;intro i k l m;have:=Jy n l m d
 cases c:k.eqb t with
 | false=>rfl
 | true=>
  let g:=Mx _ _ c;subst g;rw[NO] at this;cases this
def PF{gt:jp}{g:jq}{i:Nat}{t:ZK}(h:Zt gt g i t):(Zu t).lo∈gt/\(Zu t).hi∈gt:=by
 let⟨r,j,e,c⟩:=Nk h.ne;let⟨f,d,a,b⟩:=Kl h.ne;rw[c,b];exact⟨(h.inn r (by rw[e];simp)).1,(h.inn d (by rw[a];simp)).1⟩
structure Vn(gt:jp)(H:Hp)(gl:aj)(gs:jf):Prop where
 at_:H gl=some (.lst gs)
 keys:jU H gt gs
 fit:∀ t∈gt,t.fits 3=true
 len:gt.length=64
 up:gt.Pairwise λa b=>a.lt b=true
def Vn.frame{gt:jp}{H H':Hp}{a:aj}{b:jf}(g:Vn gt H a b)(m:YC H H')(k:H' a=some (.lst b)):Vn gt H' a b:=⟨k,g.keys.mono m _ _,g.fit,g.len,g.up⟩
def Vn.same{gt:jp}{H a:Hp}{b:aj}{c:jf}(g:Vn gt H b c)(s:ZC H a):Vn gt a b c:=g.frame (ZC.tups s) (s _ _ g.at_)
def Vn.sx{gt:jp}{H b:Hp}{p a:aj}{c:jf}(g:Vn gt H a c)(W:ZJ H p)(n:a≠p)(s:ZH p H b):Vn gt b a c:=g.frame (s.tupsW W) (s _ _ g.at_ n)
inductive QE(gt:jp)(o:jf)(H:Hp)(Q:VK)(_:XK):Prop
 |mk(p k j e:aj)(l:jq)(a:jo)(bs:jw)(g c:List (ZR×V))(n:Nat->Nat)(m:jf)(_:o=[.ref p,.ref k,.ref j,.ref e])(_:ZJ H p)(_:XI H k l a bs g)(_:∀ i:Nat,i∈a->bs.getD i 0≠p)(_:WF gt l)(_:H j=some (.dK c))(_:WT c a n)(_:Vn gt H e m)(_:e≠p)(_:0<a.length)(_:a.length<64)(_:∀(d:Hp)(D:aj)(h:jo),ZH p H d->ZJ d p->H D=none->d D=some (.lst (iN h))->(∀ b∈h,b∈a)->h.length<=4->Q (.ref D) d)
abbrev Az:jr:=["_law_well_here","_law_twigs","_law_holds","_law_grid_here","_law_some","_law_run_here","_law_last","_law_at","_law_most","_law_labels","_law_low","_law_top","_law_number"]
def Q8:ZB Az zEh (Zf J4):=Z4
def IB:(["_law_label_here","_law_number","_law_grid_here","_law_last"]:jr).Nodup:=by decide +kernel
def B5{gt:jp}(F:Zn K "_law_run" "_law_run" J4 f fd)(T:YR mg)(DP:ZD P w K mg kf 1 "_law_pull" zEd Yb)(DK:ZD P w K mg kf 2 "_law_picked" zEq Yy)(DL:ZD P w K mg kf 2 "_law_label" zEb (YG gt)):
  ZN P w K mg kf ZY 4 f fd zEh (QE gt):=by
 refine F.ko Q8 λt8 A t4 s H vs Q E hr h=>?_;let⟨p,dT,dH,gl,ts,d,bs,a8,hvs,ho,gs,rfl,W,Y,bp,hw,r6,hH,G,m2,l0,a0,k⟩:=h;let nd:=Q8.nd;let hu:=WZ hr;let m8:=hr.mono (show 1<=3 by lia)
 let c4:=hr.mono (show 2<=3 by lia)
 intro Xc;refine⟨_,ZQ (Og (i:=4) [2] ["_law_holds"] nd rfl rfl rfl (Y9 (Zy (Pd rfl) rfl T.sorted Qb (ZV (pv 1)))) (λ_ _ _ _ _=>Q6 (YI Vr (Xt hu (pv 1) (pv 0)) ZO (Z0 _))) (λ_ _ _ _ _=>pv 0) ⟨rfl,.inl rfl,rfl,trivial⟩)
  (ZQ (Z1 (PW.pt (VU (YI Wp (Zm DP m8 (Zj (pv 0) ZO)) ZO (Z0 _)) (Uh (YI (Nw hr.units0) (pv 4) (XH Zw) (Z0 _))))) (ZW (Zs 4 nd (Zy (Pd rfl) rfl T.sorted Qb (ZV (pv 1))))) Z6)
  (ZQ (Zs 5 nd (XH (ZV (Zm DK c4 (Zj (pv 0) (pv 4))))))
  (ZQ (Ni (i:=6) nd rfl (Or.inr rfl) (Zm DL c4 (Zj (pv 1) (Zi K (pv 5) ZO))))
  (ZQ (Zs 7 nd (PN (K:=K) hr (pv 3) (ZV (Zi K (pv 6) ZO))))
  (ZQ (Zs 8 nd (Z2 Wl ZO (Zm DP m8 (Zj (pv 0) ZO))))
  (ZQ (Og (i:=9) [1] ["_law_twigs"] nd rfl rfl rfl (Y9 (pv 4)) (λ_ _ _ _ _=>Vh) (λ_ _ _ _ _=>XB (Zj (Zm DL c4 (Zj (pv 1) (pv 0))) (pv 0))) ⟨rfl,.inl rfl,rfl,trivial⟩)
  (ZQ (Jk (g:=P0 K) ["_law_label_here","_law_number"] "_law_label_here" (i:=4) [3,6] ["_law_grid_here","_law_last"] nd rfl rfl rfl (λ_ _ _ _ _=>Lg Z IB Z Z Z Z) (Y9 (pv 9))
   (λ_ _ _ _ _=>Q6 (YI Wp (Zi K (pv 0) ZO) (Zi K (pv 3) ZO) (Z0 _)))
   (λ_ _ _ _ _=>XB (Pi (PN (K:=K) hr (pv 2) (ZV (Zi K (pv 0) ZO))) (PN (K:=K) hr (pv 2) (ZV (Zi K (pv 0) ZO))) (pv 1)))
   ⟨rfl,.inl rfl,rfl,rfl,.inl rfl,rfl,trivial⟩)
  (ZQ (Wu PassesOwn.never rfl (Y9 (Zy (Bn c4) rfl T.sorted Qb (ZV (pv 4)))) (Qd rfl (Y7 (YZ 10 nd) (Y7 (YZ 11 nd) (Y7 (YZ 12 nd) QV))))
   (ZW (Z1 (PW.pt (Pk (YI Vr (pv 10) (pv 7) (Z0 _)) (NA (YI Qj (Zy WH rfl T.len Xh (ZV (pv 5))) (pv 8) (Z0 _)))))
    (ZQ (XF (Vs yF xP xO UF (pv 5) (ZV (pv 12)))) (ZW (Zs 7 nd (pv 11)))) Z6)))
  (ZW (Zr (pv 5))))))))))),?_⟩
 let eI:(d.map λi:Nat=>(i:Int)).map V.int=iN d:=by rw[yZ];rfl
 let⟨xsP,r9⟩:=W.some;let M:∀ c,H c=none->c≠p:=λc e=>(Za r9 e).symm;let i0:∀ t∈gt,t.depth<=100:=λt ht=>zL (QO t 3 (G.fit t ht)) ∅
 exists _,Z,dT,a8,d.map λi:Nat=>(i:Int),Z,Y.dict,(by rw[Y.keys,yZ];rfl),Qa Y.vl.up,by simpa using a0
 intro q nq;rw[eI];let⟨H1,eU,g1,hq⟩:=Wc nq (.lst (iN d));rw[eU];refine⟨q,Z,⟨_,ZG.of hq⟩,No d (λj=>decide (0<ho j)) ∅ (λi H3 s3 hi=>⟨_,.int (d[i]:Nat),ZG.of (s3 _ _ hq),by simp[iN,zW hi]⟩) (λi H3 x H4 s3 hi hy=>⟨hy.1,hy.2 _ (ZG.of (s3 _ _ hq))⟩) (λH3 s3=>⟨_,ZG.of (s3 _ _ hq),by simp[iN]⟩) (λH2 j R hj s2 hR=>?_) (λD5 H2 s2 i6 e5=>?_)⟩
 ·let jl:j∈d:=hj;let hg:Zg H2 dH (.int (j:Nat)) (some (.int (ho j:Nat))):=hH.2 j jl ▸ Zg.k (k:=Sum.inl (j:Int)) ((g1.trans s2) _ _ r6);let ed:decide (((ho j:Nat):Int) > 0)=decide (0<ho j):=by rw[decide_eq_decide];lia
  exists _,Z,_,Z,dH,.int (ho j:Nat),Z,hg,_,_,Z,Z,_,Z;rw[ed];exact hR
 let i9:=g1.trans s2;let W2:=W.same i9;let n5:H D5=none:=ZC.free g1 i6;let b5:∀ b∈d.filter (λj=>decide (0<ho j)),b∈d:=λb hb=>(yW.mp hb).1;let l5:(d.filter (λj=>decide (0<ho j))).length<64:=xJ (vJ _ _) a0;generalize d.filter (λj=>decide (0<ho j))=l at e5 b5 l5;clear hq i6;exists _,Z,p,8,Z,W2,VZ (by decide) (by decide)
 intro r H5 r0 r1 W5 s3;let U:ZH p H H5:=(ZH.of i9).trans s3
 replace e5:=s3 _ _ e5 (M _ n5)
 clear s3 i9 W2 g1 s2;exists Z,_,Z;let L:∀(H6:Hp)(q:aj),ZH p H H6->ZJ H6 p->H6 q=none->H q=none:=λH6 q x6 W6 e=>by
  cases z:H q with
  | none=>rfl
  | some o=>
   by_cases y:q=p
   ·subst y;let⟨xs,e'⟩:=W6.some;rw[e'] at e;cases e
   ·rw[x6 _ _ z y] at e;cases e
 refine Yz (λc=>?gT) (λc=>?gE)
 case' gE=>
  exists _,Z,YX;intro e0 m4;let g0:=Zc m4 (.lst []);exists D5,e0,iN l,Z,Z,ZG.of (g0 _ _ e5),ZG.of ZP,_,Z
  replace e5:=g0 _ _ e5
  replace W5:=W5.same g0
  replace U:=U.trans (ZH.of g0)
  generalize upd H5 e0 (.lst [])=H6 at g0 e5 W5 U⊢;clear g0 m4;refine Yz (λc2=>?gT2) (λc2=>?gF)
 case' gF=>
  let p5:0<l.length:=by
   cases l with
   | nil=>exact absurd Z c2
   | cons _ _=>simp
 case' gT=>
  exists _,Z,dT,a8,d.map λi:Nat=>(i:Int),Z,(Y.sx W bp U).dict,(by rw[Y.keys,yZ];rfl),Qa Y.vl.up,by simpa using a0
  intro D5 nq;rw[eI];let i4:H D5=none:=L _ D5 U W5 nq;let g:=Zc nq (.lst (iN d))
  replace U:=U.trans (ZH.of g)
  replace W5:=W5.same g
  clear n5;let n5:=i4
  replace e5:=ZP (H:=H5) (a:=D5) (o:=HO.lst (iN d))
  replace l5:d.length<64:=by simpa using a0
  let p5:0<d.length:=by simpa using l0
  generalize i2:d=l at l5 p5 W5 U e5 g⊢
  replace b5:∀ b∈l,b∈d:=λb hb=>by rw[i2];exact hb
 case' gT2=>
  exists _,Z,dT,a8,d.map λi:Nat=>(i:Int),Z,(Y.sx W bp U).dict,(by rw[Y.keys,yZ];rfl),Qa Y.vl.up,by simpa using a0
  intro D5 nq;rw[eI];let i4:H D5=none:=L _ D5 U W5 nq;let g:=Zc nq (.lst (iN d))
  replace U:=U.trans (ZH.of g)
  replace W5:=W5.same g
  clear n5;let n5:=i4
  replace e5:=ZP (H:=H6) (a:=D5) (o:=HO.lst (iN d))
  replace l5:d.length<64:=by simpa using a0
  let p5:0<d.length:=by simpa using l0
  generalize i2:d=l at l5 p5 W5 U e5 g⊢
  replace b5:∀ b∈l,b∈d:=λb hb=>by rw[i2];exact hb
 all_goals
  let a5:=M _ n5;exists _,Z,_,Z,p,D5,iN l,Z,W5,a5,e5,by simpa [iN] using p5,by simp[iN];lia
  intro x H7 x7 W7 hx;let⟨b0,r5,rfl⟩:=zE.mp hx;let o2:=U.trans x7;let p3:=x7 _ _ e5 a5;exists YX;intro X n6;let g8:=Zc n6 (.lst [.int (b0:Nat)]);let h6:upd H7 X (.lst [.int (b0:Nat)]) X=some (.lst [.int (b0:Nat)]):=ZP;let i5:H X=none:=L _ X o2 W7 n6;generalize upd H7 X (.lst [.int (b0:Nat)])=H8 at g8 h6⊢;let o3:=o2.trans (ZH.of g8);let W8:=W7.same g8;let p4:=g8 _ _ p3;let e9:=b5 b0 r5;refine⟨_,Z,_,Z,.inl ⟨X,_,0,.int (b0:Nat),Z,Z,ZG.of h6,Z,dT,b0,ts,d,a8,Z,((Y.sx W bp o3).lawT hw G.len G.up).g,e9,λH9 v s9 hv=>?_⟩⟩;let⟨ta,vlo,o5,rfl,c5,t6,n3⟩:=hv;let o4:=o3.trans (ZH.of s9);let W9:=W8.same s9;let t3:=hw b0 _ (Ym (Y.vl.lt b0 e9));let⟨j0,t9,p6,t0⟩:=Pg G.up (PF t3).2;let G9:=G.sx W m2 o4;let t7:=G.len;refine⟨_,Z,.inl ⟨Z,_,ZG.of G9.at_⟩,_,Z,.inr (.inl ⟨ta,_,2,o5,rfl,rfl,Zb.of c5,rfl,gl,gs,gt,o5,_,j0,rfl,rfl,G9.at_,G9.keys,n3,i0,p6,t0,∅,?_⟩)⟩
  refine⟨_,Z,p,3,Z,W9,VZ (by decide) (by decide),λr2 l8 r20 r21 o8 c8=>⟨_,_,Z,Z,?_⟩⟩
  let e3:=o4.trans c8;let S:=c8 _ _ (s9 _ _ p4) a5;let e2:=M _ i5;let c9:=c8 _ _ (s9 _ _ h6) e2;let t5:ta≠p:=λz=>by
   let⟨xs,q⟩:=W9.some;rw[z,q] at c5;cases c5
  let m9:=c8 _ _ c5 t5;exists _,Z,D5,Z,⟨_,ZG.of S⟩;refine UH (n:=l.length) (λi z=>(iN l)[i]? = some z) (λD i ys I=>ZC l8 I/\l8 D=none/\jU I ((l.take i).map λb:Nat=>KT.tup [(Zu (gd ts b)).kt,.int (b:Nat)]) ys) (YL ∅)
   (λD i ys I hi C=>⟨_,.int (l[i]:Nat),ZG.of (C.1 _ _ S),by simp[iN,hi]⟩) (λD i ys I z o6 hi C hy=>⟨hy.1,hy.2 _ (ZG.of (C.1 _ _ S))⟩) (λD ys I C=>⟨_,ZG.of (C.1 _ _ S),by simp[iN]⟩)
   (λD hD=>⟨Zc hD _,hD,.nil⟩) (λD i ys I z eD r7 hi hz C R hR=>?_) (λD9 a3 l9 c0 C=>?_)
  ·let⟨s',nD,s6⟩:=C;let s7:z=.int (l[i]:Nat):=by
    unfold iN at hz;rw[zS,zW hi] at hz;exact(zB.inj hz).symm
   subst s7;let mi:l[i]∈l:=yJ _;let i8:=e3.trans (ZH.of s');refine⟨_,Z,_,Z,dT,l[i],ts,d,a8,Z,((Y.sx W bp i8).lawT hw G.len G.up).g,b5 _ mi,λe6 v a2 hv=>⟨_,Z,YX,λtq i7=>?_⟩⟩;let g:=Zc i7 (.tup [v,.int (l[i]:Nat)]);let sA:=a2.trans g;let a4:=sA _ _ eD;let tD:YC (upd e6 tq (.tup [v,.int (l[i]:Nat)])) (upd (upd e6 tq (.tup [v,.int (l[i]:Nat)])) D (.lst (ys++[.ref tq]))):=λb xs e=>by rw[ZM (ZI e a4)];exact e
   refine hR _ _ a4 ⟨VJ (s'.trans sA) nD,nD,?_⟩;rw[yP,zW hi,yX];exact((s6.sm sA).mono tD _ _).append (.cons (.tup (tD _ _ ZP) (.cons (((hv.key).sm g).mono tD _ _) (.cons (.int _) .nil))) .nil)
  let⟨a9,nD9,a7⟩:=C;rw[yM (zY _)] at a7;let s8:=a7.length;rw[zX] at s8;let e4:=e3.trans (ZH.of a9);let o9:=o8.same a9;let n0:=a9 _ _ m9;exists _,Z,D9,Z,⟨_,ZG.of c0⟩;refine C6 (K:=K) (n:=l.length) (λi z=>a3[i]? = some z) (λD i zs I=>ZC l9 I/\l9 D=none/\∃ O:jM,jU I (O.map XX) zs/\(∀ t∈O,∃ b:Nat,b∈d/\t.2.2=(b:Int))/\zs.length<=i) (YL ∅)
   (λD i ys I hi C=>⟨a3,a3[i],ZG.of (C.1 _ _ c0),by simp[show i<a3.length by lia]⟩) (λD i ys I z o6 hi C hy=>⟨hy.1,hy.2 a3 (ZG.of (C.1 _ _ c0))⟩) (λD ys I C=>⟨a3,ZG.of (C.1 _ _ c0),∅⟩)
   (λD hD=>⟨Zc hD _,hD,[],.nil,λt ht=>absurd ht (by simp),zY _⟩) (λD i zs I z eD r7 hi hz C=>?_) (λD4 zs e6 p9 C=>?_)
  ·let⟨s',nD,O,c7,c6,r8⟩:=C;let⟨kt,m0,m6⟩:=a7.get hz;rw[zS,zW hi] at m0;let m1:=(zB.inj m0).symm;subst m1;let mi:l[i]∈l:=yJ _;rw[ZF] at m6;let⟨pa,us2,rfl,c3,J⟩:=m6;rw[jU] at J;let⟨v1,r1,rfl,k1,J⟩:=J;rw[jU] at J;let⟨v2,r3,rfl,k2,J⟩:=J;rw[jU] at J;subst J;rw[ZF] at k2;subst k2;let lb:=(NL k1).mono (ZC.tups s');let⟨tb,n7,m5,rfl,i3,n4,n2⟩:=lb;let i8:=e4.trans (ZH.of s');let G':=G.sx W m2 i8;let s0:=s' _ _ n0;let n9:=hw _ _ (Ym (Y.vl.lt _ (b5 _ mi)));let⟨j1,hj1,p7,t1⟩:=Pg G.up (PF n9).1;let⟨j2,hj2,p8,t2⟩:=Pg G.up (PF n9).2;exists pa,_,_,Z,Zb.of (s' _ _ c3);intro R N hR hN;refine⟨_,Z,.inr (.inl ⟨tb,_,0,_,rfl,rfl,Zb.of i3,rfl,_,rfl,.inr (.inl ⟨ta,_,0,_,rfl,rfl,Zb.of s0,rfl,rfl,_,rfl,?_⟩)⟩)⟩;refine Yz (λc=>?_) (λc=>hN _ eD ⟨s',nD,O,c7,c6,∅⟩)
   refine⟨_,Z,.inl ⟨Z,_,ZG.of G'.at_⟩,_,Z,.inr (.inl ⟨tb,_,1,n7,rfl,rfl,Zb.of i3,rfl,gl,gs,gt,n7,_,j1,rfl,rfl,G'.at_,G'.keys,n4,i0,p7,t1,∅,?_⟩)⟩
   refine⟨_,Z,.inl ⟨Z,_,ZG.of G'.at_⟩,_,Z,.inr (.inl ⟨tb,_,2,m5,rfl,rfl,Zb.of i3,rfl,gl,gs,gt,m5,_,j2,rfl,rfl,G'.at_,G'.keys,n2,i0,p8,t2,∅,?_⟩)⟩
   exists _,Z,YX;intro tq i7;let g:=Zc i7 (.tup [.int (j1:Nat),.int (j2:Nat),.int (l[i]:Nat)]);let a4:=g _ _ eD;let tD:YC (upd I tq (.tup [.int (j1:Nat),.int (j2:Nat),.int (l[i]:Nat)])) (upd (upd I tq (.tup [.int (j1:Nat),.int (j2:Nat),.int (l[i]:Nat)])) D (.lst (zs++[.ref tq]))):=λb xs e=>by rw[ZM (ZI e a4)];exact e
   refine hR _ _ a4 ⟨VJ (s'.trans g) nD,nD,O++[((j1:Int),(j2:Int),(l[i]:Int))],?_,λt ht=>?_,by simp;lia⟩
   ·rw[yX];exact((c7.sm g).mono tD _ _).append (.cons (.tup (tD _ _ ZP) (.cons (.int _) (.cons (.int _) (.cons (.int _) .nil)))) .nil)
   ·rcases zJ.mp ht with h | h
    ·exact c6 t h
    ·rw[zM.mp h];exact⟨l[i],b5 _ mi,Z⟩
  let⟨a2,i6,O,c7,c6,r8⟩:=C;let o0:=e4.trans (ZH.of a2);let p0:=o9.same a2;exists _,Z,D4,zs,O,Z,p9,c7,by lia
  intro Ds ws rs o7 l1 n8 m3 s4 i1;let o1:=o0.trans (ZH.of l1);let p1:=p0.same l1;let e1:=l1 _ _ (a2 _ _ (a9 _ _ c9));let l7:Ds≠X:=λz=>by
   rw[z,a2 _ _ (a9 _ _ c9)] at n8;cases n8
  refine⟨Ds,Z,⟨_,ZG.of m3⟩,UT (K:=K) (a:=Ds) (xs:=ws) (λi σ I=>∃(l2 l3 l6:jg)(e8:Int)(ns:jo),σ=[some (.ref p),some (.ref dT),some (.ref dH),some (.ref gl),some (.ref D4),some (.ref X),some (.ref ta),some (.int e8),some (.int (2+r2)),some (.ref D9),l2,l3,l6]/\(∀ c o,c≠X->o7 c=some o->I c=some o)/\I X=some (.lst (iN ns))/\(∀ b∈ns,b∈d)/\ns.length<=4)
   ⟨_,_,_,_,[b0],Z,λc o _ e=>e,e1,λb hb=>by rw[zM.mp hb];exact e9,by simp⟩ (λi σ I _ C=>?_) ?_ ?_⟩
  ·let⟨_,_,_,_,_,_,k',_⟩:=C;exact ZG.of (k' _ _ l7 m3)
  ·rintro i u σ e7 n1 ⟨l2,l3,l6,e8,ns,rfl,m,B,a6,l4⟩;let⟨t,pa,mt,rfl,c3⟩:=B6 s4 n1;let⟨b,hb,eb⟩:=c6 t (i1.subset mt);let m7:=m _ _ (ZI c3 e1) c3;exists pa,_,Z,Zb.of m7,Z,_,_,Z,_,_,Z,_,_,Z,Z;refine⟨_,Z,_,Z,_,_,Z,Z,_,Z,Yz (λc1=>?_) (λc1=>?_)⟩
   ·refine⟨_,Z,X,_,Z,.inl (ZG.of B),_,Z,_,_,Z,Z,_,Z,Yz (λc2=>?_) (λc2=>?_)⟩
    ·let hlt:ns.length<4:=by
      have:=of_decide_eq_true c2;simp[iN] at this
      lia
     exists _,Z,.inl ⟨Z,_,ZG.of B⟩,_,Z,X,_,_,Z,Z,B,YL (by simp[iN];lia)
     refine⟨_,Z,_,_,_,_,ns++[b],Z,λc o n e=>by rw[ZM n];exact m _ _ n e,?_,λb' r4=>?_,by simp;lia⟩
     ·rw[ZP,eb];simp[iN]
     ·rcases zJ.mp r4 with h | h
      ·exact a6 b' h
      ·rw[zM.mp h];exact hb
    ·exact⟨_,_,_,_,ns,Z,m,B,a6,l4⟩
   ·exact⟨_,_,_,_,ns,Z,m,B,a6,l4⟩
  ·rintro σ e7 ⟨l2,l3,l6,e8,ns,rfl,m,B,a6,l4⟩;let p2:ZJ e7 p:=by
    let⟨a1,b1,c1,d1,s1,rr⟩:=p1.ex;exact⟨a1,b1,c1,d1,m _ _ (Ne.symm e2) s1,rr⟩
   exact⟨_,Z,k e7 X ns (λc o e n=>m _ _ (Za e i5) (o1 _ _ e n)) p2 i5 B a6 l4⟩
def Gj{a:jq}{b:jo}(d:Lv a b)(t:ZK)(i:Nat):abv (a++[t]) (b++[a.length]) i=abv a b i++(if i∈t.bs then [a.length] else []):=by
 unfold abv;rw[vO]
 congr 1
 ·refine vR λj c=>?_;rw[Pc (d.lt j c)]
 ·by_cases h:i∈t.bs
  ·simp[Pn,h]
  ·simp[Pn,h]
def Gc{gt:jp}{a:jq}{b:jo}(d:WF gt a)(c:Lv a b){i:Nat}(h:a.length<=i):abv a b i=[]:=by
 cases e:abv a b i with
 | nil=>rfl
 | cons j r=>
  let g:=Ph d c (i:=i) (j:=j) (by rw[e];exact zT)
  let l:=d j _ (Ym (c.lt j g.2));let k:i∈(gd a j).bs:=by
   have:j∈abv a b i:=by rw[e];exact zT
   unfold abv at this;exact of_decide_eq_true (yW.mp this).2
  let f:(gd a j).h≠0:=∅
  have:=((l.stem f).2.2.1 i k).1
  lia
def Lv.push{g:jq}{f:jo}{t:ZK}(h:Lv g f)(d:∀ b∈t.bs,b∈f):Lv (g++[t]) (f++[g.length]):=by
 refine⟨λi e=>?_,λi e b c=>?_,uV.mpr ⟨h.up,rJ _ _,λa j b d=>by rw[zM.mp d];exact h.lt a j⟩⟩
 ·rw[zH,xU];rcases zJ.mp e with z | z
  ·have:=h.lt i z
   lia
  ·rw[zM.mp z]
   lia
 ·rcases zJ.mp e with z | z
  ·rw[Pc (h.lt i z)] at c;exact yC _ (h.cl i z b c)
  ·rw[zM.mp z,Pn] at c;exact yC _ (d b c)
def FW{gt:jp}{ts:jq}{a:jE}(g:OA a)(h:(a.map (·.1)).Sublist gt):Zt gt ts ts.length (Y3 a):=by
 let⟨f,c,e,b⟩:=g;refine⟨λz=>?_,b,λr d=>⟨h.subset (zE.mpr ⟨r,d,rfl⟩),f r d⟩,λ_=>⟨Z,e⟩,λz=>absurd Z z⟩;let i:a=[]:=z;rw[i] at c;simp at c
def FI{gt:jp}{c:jE}(h:gt.Pairwise λa b=>a.lt b=true)(f:∀ r∈c,r.fit)(g:(c.map (·.1)).Sublist gt)(d:0<c.length)(e:c.length<=4):OA c:=⟨f,d,e,h.sublist g⟩
def Ak{gt:jp}{f g:aj}{H r:Hp}{S d q:aj}{a:jq}{e:jo}{h:Nat->jo}{j:Nat->Nat}{t l:ju}{p c:List (ZR×V)}{w n:jf}{k:jE}(U:Xz gt f g H S d q a e h j t p w)(A:a.length<=700)(x:Zt gt a a.length (Y3 k))(R:YD f g r S d q (a++[Y3 k]) (e++[a.length]) (WR a.length h) (Xb a.length j) l c n):Xz gt f g r S d q (a++[Y3 k]) (e++[a.length]) (WR a.length h) (Xb a.length j) l c n:=by
 let W:=U.wf.push x;let u:(a++[Y3 k]).length=a.length+1:=by simp
 let s:Lv (a++[Y3 k]) (e++[a.length]):=U.vl.push λb v=>by cases v
 let o:∀ i,abv (a++[Y3 k]) (e++[a.length]) i=abv a e i:=λi=>by
  rw[Gj U.vl,aK (by show i∉([]:jo);simp),vH]
 let inl:∀ i,i∈e++[a.length]->i≠a.length->i∈e:=λi m z=>(zJ.mp m).elim id λy=>absurd (zM.mp y) z;refine⟨R,W,s,λi m=>?_,λi m=>?_,by rw[u];lia⟩
 ·by_cases z:i=a.length
  ·subst z;rw[show WR a.length h a.length=[] from aM rfl];rw[o];rw[Gc U.wf U.vl (zY _)]
  ·rw[show WR a.length h i=h i from aK z,o];exact U.av i (inl i m z)
 ·by_cases z:i=a.length
  ·subst z;rw[show Xb a.length j a.length=1 from aM rfl]
   lia
  ·rw[show Xb a.length j i=j i from aK z,o];exact U.live i (inl i m z)
def Aw{gt:jp}{j k:aj}{H v:Hp}{S d u:aj}{a:jq}{f:jo}{e:Nat->jo}{c:Nat->Nat}{x m:ju}{t g:List (ZR×V)}{C o:jf}{bs:jo}(U:Xz gt j k H S d u a f e c x t C)(D:a.length<=700)(p:∀ b∈bs,b∈f){L:YN}(s:over (Zx a bs)=some L)(B:∀ b∈bs,1<=c b)(R:YD j k v S d u (a++[YQ a bs]) (f++[a.length]) (Wt bs a.length (WR a.length e)) (Y2 bs (Xb a.length c)) m g o):Xz gt j k v S d u (a++[YQ a bs]) (f++[a.length]) (Wt bs a.length (WR a.length e)) (Y2 bs (Xb a.length c)) m g o:=by
 let W:=U.wf.push (Ia U.wf (λb h=>U.vl.lt b (p b h)) s);let A:(a++[YQ a bs]).length=a.length+1:=by simp
 let w:Lv (a++[YQ a bs]) (f++[a.length]):=U.vl.push p;let r:∀ i,abv (a++[YQ a bs]) (f++[a.length]) i=abv a f i++(if i∈bs then [a.length] else []):=λi=>Gj U.vl (YQ a bs) i
 let inl:∀ i,i∈f++[a.length]->i≠a.length->i∈f:=λi l z=>(zJ.mp l).elim id λy=>absurd (zM.mp y) z;refine⟨R,W,w,λi l=>?_,λi l=>?_,by rw[A];lia⟩
 ·by_cases z:i=a.length
  ·subst z;let q:a.length∉bs:=λy=>by have:=U.vl.lt _ (p _ y);lia
   rw[show Wt bs a.length (WR a.length e) a.length=WR a.length e a.length from aK q,show WR a.length e a.length=[] from aM rfl];rw[r];rw[Gc U.wf U.vl (zY _)];rw[aK q];exact vX.refl _
  ·rw[r];let n:WR a.length e i=e i:=aK z;by_cases y:i∈bs
   ·rw[show Wt bs a.length (WR a.length e) i=WR a.length e i++[a.length] from aM y,n,aM y];exact(U.av i (inl i l z)).append_right _
   ·rw[show Wt bs a.length (WR a.length e) i=WR a.length e i from aK y,n,aK y,vH];exact U.av i (inl i l z)
 ·by_cases z:i=a.length
  ·subst z;let q:a.length∉bs:=λy=>by have:=U.vl.lt _ (p _ y);lia
   rw[show Y2 bs (Xb a.length c) a.length=Xb a.length c a.length from aK q,show Xb a.length c a.length=1 from aM rfl]
   lia
  ·rw[r];let n:Xb a.length c i=c i:=aK z;let f:=U.live i (inl i l z);by_cases y:i∈bs
   ·rw[show Y2 bs (Xb a.length c) i=Xb a.length c i-1 from aM y,n,aM y,zH,xU];have:=B i y
    lia
   ·rw[show Y2 bs (Xb a.length c) i=Xb a.length c i from aK y,n,aK y,vH];exact f
structure Pl where
 S:aj
 d:aj
 lk:aj
 dT:aj
 dH:aj
 gl:aj
 tl:aj
 as:ju
 bs:jw
structure Md where
 ts:jq
 lv:jo
 av:Nat->jo
 ho:Nat->Nat
def Pl.ab(p:Pl)(i:Nat):Addr:=(p.as.getD i .d).ab
def Pl.th(p:Pl)(i:Nat):Addr:=(p.as.getD i .d).th
def Pl.x(p:Pl)(i:Nat):Addr:=(p.as.getD i .d).x
def Pl.b(p:Pl)(i:Nat):Addr:=p.bs.getD i 0
structure LS(gt:jp)(jZ kd:aj)(H:Hp)(a:Pl)(m:Md):Prop where
 sh:∃ kvs ls,Xz gt jZ kd H a.S a.d a.lk m.ts m.lv m.av m.ho a.as kvs ls/\ls.length<=100
 lw:∃ kvs,XI H a.dT m.ts m.lv a.bs kvs
 hd:∃ hvs,H a.dH=some (.dK hvs)/\WT hvs m.lv m.ho
 gr:∃ gs,Vn gt H a.gl gs
 told:H a.tl=some (.lst (iN (zN m.ts.length)))
 dd:a.dT≠a.d/\a.dH≠a.d/\a.dT≠a.dH
 tt:a.tl≠a.lk/\a.tl≠a.gl/\a.lk≠a.gl
 t2:∀ i:Nat,i∈m.lv->a.tl≠a.ab i/\a.tl≠a.th i/\a.gl≠a.ab i
 t3:∀ i:Nat,i∈m.lv->a.b i≠a.tl/\a.b i≠a.lk/\∀ j:Nat,j∈m.lv->a.b i≠a.ab j
 l64:m.lv.length<64
 l700:m.ts.length<=700
structure X2(a:Pl)(m:Md)(p:aj):Prop where
 lk:a.lk≠p
 gl:a.gl≠p
 tl:a.tl≠p
 tw:∀ i:Nat,i∈m.lv->a.ab i≠p/\a.th i≠p/\a.b i≠p
section
variable{gt:jp}{jZ kd:aj}{H H':Hp}{a:Pl}{m:Md}{p:aj}
def LS.shp(h:LS gt jZ kd H a m):∃ b c,YD jZ kd H a.S a.d a.lk m.ts m.lv m.av m.ho a.as b c:=by
 let⟨b,c,U,_⟩:=h.sh;exact⟨b,c,U.sh⟩
def LS.wf(h:LS gt jZ kd H a m):WF gt m.ts:=by
 let⟨b,c,U,_⟩:=h.sh;exact U.wf
def LS.off(h:LS gt jZ kd H a m)(n:H p=none):X2 a m p:=by
 let⟨c,g,U,_⟩:=h.sh;let⟨Yt,L⟩:=h.lw;let⟨f,G⟩:=h.gr;refine⟨Za U.sh.sh.looks n,Za G.at_ n,Za h.told n,λi b=>⟨Za (U.sh.tw i b).tw.above n,?_,?_⟩⟩
 ·let⟨d,e,_⟩:=(U.sh.tw i b).things;exact Za e n
 ·let⟨j,d,_,_,e,_⟩:=L.tw i b;exact Za e n
def LS.sx{A:jf}(h:LS gt jZ kd H a m)(o:X2 a m p)(c:H p=some (.lst A))(s:ZH p H H'):LS gt jZ kd H' a m:=by
 let⟨j,z,U,f⟩:=h.sh;let⟨Yt,L⟩:=h.lw;let⟨g,r,w⟩:=h.hd;let⟨v,G⟩:=h.gr;let l:YC H H':=λb C e=>s b _ e (ZI e c);let R:=U.sh;let⟨⟨u,q⟩,t,x⟩:=R.sh;refine⟨⟨j,z,⟨⟨⟨⟨u,s _ _ q (ZI q c)⟩,s _ _ t (ZI t c),s _ _ x o.lk⟩,R.keys,R.val,R.lt,R.len,λi d=>?_,R.own,R.two⟩,U.wf,U.vl,U.av,U.live,U.l800⟩,f⟩,
  ⟨Yt,L.frame l (s _ _ L.dict (ZI L.dict c)) λi d k e=>s _ _ e (o.tw i d).2.2⟩,⟨g,s _ _ r (ZI r c),w⟩,⟨v,G.frame l (s _ _ G.at_ o.gl)⟩,s _ _ h.told o.tl,h.dd,h.tt,h.t2,h.t3,h.l64,h.l700⟩
 let n:=R.tw i d;let⟨B,y⟩:=n.tw.self;exact n.frame l (λk e=>s _ _ e (ZI y c)) (λk e=>s _ _ e (o.tw i d).2.1) (λk e=>s _ _ e (o.tw i d).1)
def LS.same(h:LS gt jZ kd H a m)(s:ZC H H'):LS gt jZ kd H' a m:=by
 let⟨d,i,U,b⟩:=h.sh;let⟨Yt,L⟩:=h.lw;let⟨c,g,f⟩:=h.hd;let⟨e,G⟩:=h.gr;exact⟨⟨d,i,⟨U.sh.same s,U.wf,U.vl,U.av,U.live,U.l800⟩,b⟩,⟨Yt,L.same s⟩,⟨c,s _ _ g,f⟩,⟨e,G.same s⟩,s _ _ h.told,h.dd,h.tt,h.t2,h.t3,h.l64,h.l700⟩
end
structure LO(gt:jp)(H:Hp)(a:Pl)(m:Md):Prop where
 lw:∃ kvs,XI H a.dT m.ts m.lv a.bs kvs
 hd:∃ hvs,H a.dH=some (.dK hvs)/\WT hvs m.lv m.ho
 gr:∃ gs,Vn gt H a.gl gs
 told:H a.tl=some (.lst (iN (zN m.ts.length)))
def LS.lo{gt:jp}{s q:aj}{H H':Hp}{a:Pl}{m:Md}(h:LS gt s q H a m)(t:∀ c o,c≠a.S->c≠a.d->c≠a.lk->(∀ i:Nat,i∈m.lv->c≠a.x i/\c≠a.ab i)->H c=some o->H' c=some o):LO gt H' a m:=by
 let⟨J,N,U,B⟩:=h.sh;let⟨Yt,L⟩:=h.lw;let⟨v,F,E⟩:=h.hd;let⟨D,G⟩:=h.gr;let R:=U.sh;let⟨⟨M,u⟩,z,A⟩:=R.sh;let w:∀ i:Nat,i∈m.lv->∃ n p,H (a.x i)=some (.ins q n p):=λi f=>by
  let⟨n,e⟩:=(R.tw i f).tw.self;exact⟨n,_,e⟩
 let r:∀ i:Nat,i∈m.lv->H (a.ab i)=some (.lst (iN (m.av i))):=λi f=>(R.tw i f).tw.above;let C:YC H H':=λb P e=>t b _ (ZI e u) (ZI e z) (ZI e A) (λi f=>by
  let⟨n,p,k⟩:=w i f;exact⟨ZI e k,ZI e (r i f)⟩) e
 let g:∀(c:aj)(l:jf),H c=some (.lst l)->c≠a.lk->(∀ i:Nat,i∈m.lv->c≠a.ab i)->H' c=some (.lst l):=λc l e y K=>t c _ (ZI e u) (ZI e z) y (λi f=>by
  let⟨n,p,k⟩:=w i f;exact⟨ZI e k,K i f⟩) e
 let dict:∀(c:aj)(l:List (ZR×V)),H c=some (.dK l)->c≠a.d->H' c=some (.dK l):=λc l e y=>t c _ (ZI e u) y (ZI e A) (λi f=>by
  let⟨n,p,k⟩:=w i f;exact⟨ZI e k,ZI e (r i f)⟩) e
 refine⟨⟨Yt,L.frame C (dict _ _ L.dict h.dd.1) λi f o e=>?_⟩,⟨v,dict _ _ F h.dd.2.1,E⟩,⟨D,G.frame C (g _ _ G.at_ h.tt.2.2.symm λi f=>(h.t2 i f).2.2)⟩,g _ _ h.told h.tt.1 λi f=>(h.t2 i f).1⟩;let⟨O,p,_,_,k,_⟩:=L.tw i f;have:o=.lst p:=by have:=e.symm.trans k;exact zB.inj this
 subst this;exact g _ _ e (h.t3 i f).2.1 λj I=>(h.t3 i f).2.2 j I
def Ya{i j:Nat}:((Sum.inl ((i:Nat):Int):ZR)=Sum.inl ((j:Nat):Int)) ↔ i=j:=⟨λz=>by have:=Sum.inl.inj z;lia,λz=>by rw[z]⟩
def VT{a:jo}{n i:Nat}(h:i∈a++[n])(z:i≠n):i∈a:=(zJ.mp h).elim id λy=>absurd (zM.mp y) z
def ZLB{a:List (ZR×V)}{b:jo}{n:Nat}(e:∀ i∈b,i<n)(h:a.map (·.1)=b.map (λi:Nat=>(Sum.inl (i:Int):ZR))):Z5 a (Sum.inl (n:Int))=none:=by
 cases z:Z5 a (Sum.inl (n:Int)) with
 | none=>rfl
 | some v=>
  have:=N3 z;rw[h] at this;let⟨i,d,c⟩:=zE.mp this;let f:=Ya.mp c;let g:=e i d
  lia
def FD{a:List (ZR×V)}{b:jo}{n:Nat}{v:V}(c:∀ i∈b,i<n)(h:a.map (·.1)=b.map (λi:Nat=>(Sum.inl (i:Int):ZR))):(Zq a (.inl (n:Int)) v).map (·.1)=(b++[n]).map (λi:Nat=>(Sum.inl (i:Int):ZR)):=by
 rw[LY v (ZLB c h),yX,h,yX];rfl
def Fi{b:List (ZR×V)}{c:jo}{n:Nat}{a:Nat->Nat}(e:∀ i∈c,i<n)(h:WT b c a):WT (Zq b (.inl (n:Int)) (.int 1)) (c++[n]) (Xb n a):=by
 exists FD e h.1;intro i d;rw[QZ];by_cases z:i=n
 ·subst z;rw[aM rfl,show Xb i a i=1 from aM rfl];rfl
 ·rw[aK (λy=>z (Ya.mp y)),show Xb n a i=a i from aK z];exact h.2 i (VT d z)
def MJ{a:List (ZR×V)}{k:ZR}{v w:V}(h:Z5 a k=some w):(Zq a k v).map (·.1)=a.map (·.1):=by
 let d:=N3 h;unfold Zq;split
 ·rw[yZ];refine tZ λp _=>?_;show (if p.1=k then (p.1,v) else p).1=p.1
  split <;> rfl
 ·rename_i c
  exfalso
  apply c;let⟨p,b,e⟩:=zE.mp d;simp
  first | exact⟨p.2,by rw[<-e];exact b⟩ | exact⟨p.1,p.2,b,e⟩
def Fm{c:List (ZR×V)}{d:jo}{b:Nat}{a:Nat->Nat}(h:WT c d a)(e:b∈d):WT (Zq c (.inl (b:Int)) (.int ((a b-1:Nat):Int))) d (Wx a b):=by
 exists by rw[MJ (h.2 b e)];exact h.1
 intro i f;rw[QZ];by_cases z:i=b
 ·subst z;rw[aM rfl,show Wx a i i=a i-1 from aM rfl]
 ·rw[aK (λy=>z (Ya.mp y)),show Wx a b i=a i from aK z];exact h.2 i f
def EF{bs:jw}{D:aj}{i:Nat}(h:i<bs.length):(bs++[D]).getD i 0=bs.getD i 0:=by
 rw[zV,wO h,<-zV]
def F4{bs:jw}{D:aj}:(bs++[D]).getD bs.length 0=D:=by
 rw[zV,wM (zY _)];simp
def Gr{H c:Hp}{k:aj}{a:jq}{g:jo}{bs:jw}{f:List (ZR×V)}{t:ZK}{tp D:aj}{us:jf}(L:XI H k a g bs f)(l:∀ b∈t.bs,b∈g)(m:YC H c)(F:∀ i:Nat,i∈g->∀ o,H (bs.getD i 0)=some o->c (bs.getD i 0)=some o)(B:c k=some (.dK (Zq f (.inl (a.length:Int)) (.ref tp))))(E:c tp=some (.tup [.str (kindOf t),.ref D]))(A:c D=some (.lst us))(w:t.h=0->jU c (Yk t.rows) us)(x:t.h≠0->us=iN t.bs):XI c k (a++[t]) (g++[a.length]) (bs++[D]) (Zq f (.inl (a.length:Int)) (.ref tp)):=by
 let G:(a++[t]).length=a.length+1:=by simp
 exists B,L.vl.push l,FD L.vl.lt L.keys,by simp[L.len]
 intro i C;by_cases z:i=a.length
 ·subst z;let j:(bs++[D]).getD a.length 0=D:=by rw[<-L.len];exact F4
  exists tp,us,by rw[QZ,aM rfl],?_,?_,?_
  ·rw[Pn,j];exact E
  ·rw[j];exact A
  ·rw[Pn];exact w
  ·rw[Pn];exact x
 ·let d:i∈g:=VT C z;let e:=L.vl.lt i d;let⟨n,p,j,r,s,u,v⟩:=L.tw i d;let q:(bs++[D]).getD i 0=bs.getD i 0:=EF (by have:=L.len;lia)
  exists n,p,by rw[QZ,aK (λy=>z (Ya.mp y))];exact j,?_,?_,?_
  ·rw[Pc e,q];exact m _ _ r
  ·rw[q];exact F i d _ s
  ·rw[Pc e];exact λy=>(u y).mono m _ _
  ·rw[Pc e];exact v
def Pl.push(a:Pl)(b:YE)(D:aj):Pl:={ a with as:=a.as++[b],bs:=a.bs++[D] }
section
variable{gt:jp}{jZ kd:aj}{H H':Hp}{a:Pl}{m:Md}{p:aj}{new:YE}{D:aj}
def LS.asl(h:LS gt jZ kd H a m):a.as.length=m.ts.length/\a.bs.length=m.ts.length:=by
 let⟨b,c,R⟩:=h.shp;let⟨Yt,L⟩:=h.lw;exact⟨R.len,L.len⟩
def LS.lt(h:LS gt jZ kd H a m){i:Nat}(b:i∈m.lv):i<m.ts.length:=by
 let⟨c,d,R⟩:=h.shp;exact R.lt i b
def Q7(h:LS gt jZ kd H a m){i:Nat}(c:i∈m.lv):(a.push new D).ab i=a.ab i/\(a.push new D).th i=a.th i/\(a.push new D).x i=a.x i/\(a.push new D).b i=a.b i:=by
 let⟨g,j⟩:=h.asl;let f:=h.lt c;let e:(a.as++[new]).getD i .d=a.as.getD i .d:=Kv ∅
 unfold Pl.ab Pl.th Pl.x Pl.b Pl.push;dsimp only;rw[e,EF ∅]
 exact⟨Z,Z,Z,Z⟩
def PD(h:LS gt jZ kd H a m):(a.push new D).ab m.ts.length=new.ab/\(a.push new D).th m.ts.length=new.th/\(a.push new D).x m.ts.length=new.x/\(a.push new D).b m.ts.length=D:=by
 let⟨f,g⟩:=h.asl;let e:(a.as++[new]).getD m.ts.length .d=new:=by rw[<-f];exact Lr
 let c:(a.bs++[D]).getD m.ts.length 0=D:=by rw[<-g];exact F4
 unfold Pl.ab Pl.th Pl.x Pl.b Pl.push;dsimp only;rw[e,c];exact⟨Z,Z,Z,Z⟩
def FA(h:LS gt jZ kd H a m){t:ZK}{s:Nat->jo}{k:Nat->Nat}(U:H new.th=none)(K:H new.ab=none)(L:H D=none)(x:D≠new.ab)(P:∃ c I,Xz gt jZ kd H' a.S a.d a.lk (m.ts++[t]) (m.lv++[m.ts.length]) s k (a.as++[new]) c I/\I.length<=100)(J:∃ c,XI H' a.dT (m.ts++[t]) (m.lv++[m.ts.length]) (a.bs++[D]) c)(F:∃ u,H' a.dH=some (.dK u)/\WT u (m.lv++[m.ts.length]) k)(C:∃ N,Vn gt H' a.gl N)(n:H' a.tl=some (.lst (iN (zN (m.ts.length+1)))))(l:m.lv.length+1<64)(T:m.ts.length+1<=700):LS gt jZ kd H' (a.push new D) ⟨m.ts++[t],m.lv++[m.ts.length],s,k⟩:=by
 let M:(m.ts++[t]).length=m.ts.length+1:=by simp
 let⟨N,G⟩:=h.gr;let⟨c,I,R⟩:=h.shp;let E:∀ i:Nat,i∈m.lv->H (a.ab i)=some (.lst (iN (m.av i))):=λi f=>(R.tw i f).tw.above;let⟨Yt,O⟩:=h.lw;let Q:∀ i:Nat,i∈m.lv->∃ w,H (a.b i)=some (.lst w):=λi f=>by
  let⟨Y,w,_,_,e,_⟩:=O.tw i f;exact⟨w,e⟩
 refine⟨P,J,F,C,by rw[M];exact n,h.dd,h.tt,λi f=>?_,λi f=>?_,by simpa using l,by rw[M];exact T⟩
 ·by_cases z:i=m.ts.length
  ·subst z;let⟨A,B,_,_⟩:=PD (new:=new) (D:=D) h;rw[A,B];exact⟨Za h.told K,Za h.told U,Za G.at_ K⟩
  ·let⟨A,B,_,_⟩:=Q7 (new:=new) (D:=D) h (i:=i) (VT f z);rw[A,B];exact h.t2 i (VT f z)
 ·let r:∀ j:Nat,j∈m.lv++[m.ts.length]->(j∈m.lv/\(a.push new D).ab j=a.ab j)\/(j=m.ts.length/\(a.push new D).ab j=new.ab):=λj q=>by
   by_cases y:j=m.ts.length
   ·subst y;exact .inr ⟨Z,(PD h).1⟩
   ·exact .inl ⟨VT q y,(Q7 h (VT q y)).1⟩
  by_cases z:i=m.ts.length
  ·subst z;rw[(PD (new:=new) (D:=D) h).2.2.2];exists (Za h.told L).symm,(Za R.sh.looks L).symm;intro j q;rcases r j q with ⟨v,o⟩ | ⟨v,o⟩
   ·rw[o];exact(Za (E j v) L).symm
   ·rw[o];exact x
  ·let g:i∈m.lv:=VT f z;rw[(Q7 (new:=new) (D:=D) h g).2.2.2];let⟨V,W,X⟩:=h.t3 i g;exists V,W;intro j q;rcases r j q with ⟨v,o⟩ | ⟨v,o⟩
   ·rw[o];exact X j v
   ·let⟨w,e⟩:=Q i g;rw[o];exact Za e K
def X2.push(h:LS gt jZ kd H a m)(o:X2 a m p){t:ZK}{b:Nat->jo}{f:Nat->Nat}(j:new.th≠p)(k:new.ab≠p)(l:D≠p):X2 (a.push new D) ⟨m.ts++[t],m.lv++[m.ts.length],b,f⟩ p:=by
 exists o.lk,o.gl,o.tl;intro i g;let n:(m.ts++[t]).length=m.ts.length+1:=by simp
 by_cases z:i=m.ts.length
 ·subst z;let⟨c,d,_,e⟩:=PD (new:=new) (D:=D) h;rw[c,d,e];exact⟨k,j,l⟩
 ·let⟨c,d,_,e⟩:=Q7 (new:=new) (D:=D) h (i:=i) (VT g z);rw[c,d,e];exact o.tw i (VT g z)
def Z3(a:Pl)(m:Md)(c:aj):Prop:=c≠a.S/\c≠a.d/\c≠a.lk/\c≠a.dT/\c≠a.dH/\c≠a.tl/\∀ i:Nat,i∈m.lv->c≠a.x i/\c≠a.ab i
def Z3.push(h:LS gt jZ kd H a m){c:aj}(v:Z3 a m c){t:ZK}{b:Nat->jo}{f:Nat->Nat}(j:c≠new.x)(k:c≠new.ab):Z3 (a.push new D) ⟨m.ts++[t],m.lv++[m.ts.length],b,f⟩ c:=by
 let⟨l,n,o,q,r,s,u⟩:=v;exists l,n,o,q,r,s;intro i g;let w:(m.ts++[t]).length=m.ts.length+1:=by simp
 by_cases z:i=m.ts.length
 ·subst z;let⟨d,_,e,_⟩:=PD (new:=new) (D:=D) h;rw[d,e];exact⟨j,k⟩
 ·let⟨d,_,e,_⟩:=Q7 (new:=new) (D:=D) h (i:=i) (VT g z);rw[d,e];exact u i (VT g z)
def VM(a:Pl)(d:jo)(c:aj):Prop:=∀ i:Nat,i∈d->c≠a.th i/\c≠a.b i
def VM.push(h:LS gt jZ kd H a m){c:aj}(v:VM a m.lv c)(f:c≠new.th)(g:c≠D):VM (a.push new D) (m.lv++[m.ts.length]) c:=λi e=>by
 by_cases z:i=m.ts.length
 ·subst z;let⟨_,b,_,d⟩:=PD (new:=new) (D:=D) h;rw[b,d];exact⟨f,g⟩
 ·let⟨_,b,_,d⟩:=Q7 (new:=new) (D:=D) h (i:=i) (VT e z);rw[b,d];exact v i (VT e z)
def LS.tup(h:LS gt jZ kd H a m){c:aj}{o:jf}(e:H c=some (.tup o)):Z3 a m c:=by
 let⟨n,s,R⟩:=h.shp;let⟨Yt,L⟩:=h.lw;let⟨k,f,_⟩:=h.hd;let⟨⟨q,d⟩,g,j⟩:=R.sh;exists ZI e d,ZI e g,ZI e j,ZI e L.dict,ZI e f,ZI e h.told;intro i b;let⟨r,l⟩:=(R.tw i b).tw.self;exact⟨ZI e l,ZI e (R.tw i b).tw.above⟩
end
def YD.frame{b c:aj}{H H':Hp}{S d g:aj}{p:jq}{j:jo}{k:Nat->jo}{l:Nat->Nat}{a:ju}{e:List (ZR×V)}{n:jf}(R:YD b c H S d g p j k l a e n)(m:YC H H')(u:∀ o,H S=some o->H' S=some o)(v:∀ o,H d=some o->H' d=some o)(w:∀ o,H g=some o->H' g=some o)(h:∀ i:Nat,i∈j->(∀ o,H (a.getD i .d).x=some o->H' (a.getD i .d).x=some o)/\(∀ o,H (a.getD i .d).th=some o->H' (a.getD i .d).th=some o)/\(∀ o,H (a.getD i .d).ab=some o->H' (a.getD i .d).ab=some o)):YD b c H' S d g p j k l a e n:=by
 let⟨⟨q,r⟩,s,t⟩:=R.sh;exact⟨⟨⟨q,u _ r⟩,v _ s,w _ t⟩,R.keys,R.val,R.lt,R.len,λi f=>(R.tw i f).frame m (h i f).1 (h i f).2.1 (h i f).2.2,R.own,R.two⟩
def Xz.frame{gt:jp}{a b:aj}{H H':Hp}{S d h:aj}{k:jq}{j:jo}{f:Nat->jo}{g:Nat->Nat}{e:ju}{c:List (ZR×V)}{i:jf}(U:Xz gt a b H S d h k j f g e c i)(R:YD a b H' S d h k j f g e c i):Xz gt a b H' S d h k j f g e c i:=⟨R,U.wf,U.vl,U.av,U.live,U.l800⟩
def IZ{f g:aj}{H:Hp}{S d m:aj}{u:jq}{p:jo}{q:Nat->jo}{r:Nat->Nat}{j:ju}{h:List (ZR×V)}{s z:jf}{c:aj}{o':HO}(R:YD f g H S d m u p q r j h s)(e:H c=some (.lst z))(y:m≠c)(t:∀ i:Nat,i∈p->(j.getD i .d).ab≠c/\(j.getD i .d).th≠c):YD f g (upd H c o') S d m u p q r j h s:=by
 let⟨⟨A,v⟩,w,C⟩:=id R.sh;let k:∀ b o,b≠c->H b=some o->upd H c o' b=some o:=λb o n e=>by rw[ZM n];exact e
 refine R.frame (λb D a=>k _ _ (ZI a e) a) (λo a=>k _ _ (ZI v e) a) (λo a=>k _ _ (ZI w e) a) (λo a=>k _ _ y a) λi l=>?_;let⟨B,x⟩:=(R.tw i l).tw.self;exact⟨λo a=>k _ _ (ZI x e) a,λo a=>k _ _ (t i l).2 a,λo a=>k _ _ (t i l).1 a⟩
def ON{f g:aj}{H:Hp}{S d q:aj}{t:jq}{s:jo}{m:Nat->jo}{p:Nat->Nat}{l:ju}{h z:List (ZR×V)}{r:jf}{c:aj}{o':HO}(R:YD f g H S d q t s m p l h r)(e:H c=some (.dK z))(y:d≠c):YD f g (upd H c o') S d q t s m p l h r:=by
 let⟨⟨A,u⟩,C,v⟩:=id R.sh;let k:∀ b o,b≠c->H b=some o->upd H c o' b=some o:=λb o n e=>by rw[ZM n];exact e
 refine R.frame (λb E a=>k _ _ (ZI a e) a) (λo a=>k _ _ (ZI u e) a) (λo a=>k _ _ y a) (λo a=>k _ _ (ZI v e) a) λi j=>?_;let⟨B,x⟩:=(R.tw i j).tw.self;let⟨D,w,_⟩:=(R.tw i j).things;exact⟨λo a=>k _ _ (ZI x e) a,λo a=>k _ _ (ZI w e) a,λo a=>k _ _ (ZI (R.tw i j).tw.above e) a⟩
def NK{H a:Hp}{p:aj}(W:ZJ H p)(k:∀ o,H p=some o->a p=some o):ZJ a p:=by
 let⟨b,c,d,e,f,g⟩:=W.ex;exact⟨b,c,d,e,k _ f,g⟩
def VB(a:Pl):jf:=[.ref a.S,.ref a.dT,.ref a.dH,.ref a.gl,.ref a.tl]
inductive YK(gt:jp)(jZ kd:aj)(i:jf)(H:Hp)(Q:VK)(_:XK):Prop
 |mk(p h:aj)(b:Int)(a:Pl)(m:Md)(_:i=[.ref p,.ref h,.int b])(_:ZJ H p)(_:H h=some (.tup (VB a)))(_:LS gt jZ kd H a m)(_:X2 a m p)(_:0<=b)(_:b<16)(_:m.lv.length<=62)(_:m.ts.length<=600)(_:∀(g:Hp)(e:Pl)(d:Md),(∀ c o,H c=some o->Z3 a m c->Z3 e d c/\(c≠p->g c=some o))->(∀ c o,H c=some o->VM a m.lv c->VM e d.lv c)->ZJ g p->LS gt jZ kd g e d->X2 e d p->VB e=VB a->d.ts.length=m.ts.length+1->d.lv=m.lv++[m.ts.length]->Q (.bl true) g)
abbrev ZIT:jr:=["_law_well_here","_law_state","_law_block","_law_shelf","_law_twigs","_law_holds","_law_grid_here","_law_told","_law_rows","_law_number"]
def WM:ZB ZIT zEg (Zf K0):=Z4
def Ih(n:Nat):iN (zN n)++[.int (n:Nat)]=iN (zN (n+1)):=by rw[List.range_succ];simp[iN]
def Ci{e:jo}{n:Nat}(h:∀ b∈e,b<n):NR (-1) (e.map λb:Nat=>(b:Int))<(n:Int):=by
 let i:∀(l:jA)(x:Int),x<(n:Int)->(∀ y∈l,y<(n:Int))->Uk x l<(n:Int):=λl=>by
  induction l with
  | nil=>intro x a _;exact a
  | cons c l k=>
   intro x a g;unfold Uk;rw[sZ];refine k _ ?_ λy d=>g y (zI _ d);split
   ·exact g c zT
   ·exact a
 cases e with
 | nil=>show (-1:Int)<_;lia
 | cons b r=>
  show Uk _ _<_;refine i _ _ (show ((b:Nat):Int)<(n:Int) by have:=h b zT;lia) λy d=>?_
  let⟨z,j,rfl⟩:=zE.mp d;have:=h z (zI _ j);show ((z:Nat):Int)<(n:Int)
  lia
def G0{gt:jp}(F:Zn K "_law_put_leaf" "_law_put_leaf" K0 f fd)(T:YR mg)(L:Yd K mg jZ kd)(DR:ZD P w K mg kf 2 "_law_leaf_rows" zEn XC)(DM:ZA P w K mg kf ZY 10 jZ "put_leaf" zE9 (XW jZ kd)):
  ZN P w K mg kf ZY 11 f fd zEg (YK gt jZ kd):=by
 refine F.ko WM λi6 A i1 s H vs Q E hr h=>?_;let⟨p,st,b,a,m,rfl,W,e6,q,O,b0,b1,l2,i5,k⟩:=h;let nd:=WM.nd;let hu:=WZ hr;let e5:=hr.mono (show 2<=10 by lia)
 intro Xc;refine⟨_,ZQ (Qc (pv 1) (Qd rfl (Y7 (YZ 3 nd) (Y7 (YZ 4 nd) (Y7 (YZ 5 nd) (Y7 (YZ 6 nd) (Y7 (YZ 7 nd) QV)))))))
  (ZQ (Zs 8 nd (Zm DR e5 (Oa (pv 0) (Zj (pv 6) (pv 2)))))
  (ZQ (Zs 9 nd (YS (E:=E0) (pv 3) L.cS DM hr YY (ZV (WQ Ue rfl T.list Vw (ZV (pv 8))))))
  (ZQ (Z1 (PW.pt (VU (Xv (Yg (Zy X3 rfl T.isi X8 (Zj (pv 9) (X6 (v:=.ty "int") rfl T.int Uy rfl))))) (VU (Yg (Zy X3 rfl T.isi X8 (Zj (pv 9) (X6 (v:=.ty "bool") rfl T.bool NF rfl))))
   (Uh (YI Uf (pv 9) (Ee rfl rfl T.max (ZV (pv 7)) (Da (OI P4 ZO) ZOF)) (Z0 _)))))) VI Z6)
  (ZQ (XF (Vs yF xP xO UF (pv 7) (ZV (pv 9))))
  (ZQ (UM hu (pv 4) (pv 9) (XB (Zj X0 (pv 8))) rfl)
  (ZQ (UM hu (pv 5) (pv 9) ZO rfl)
  (ZW (Zr V9)))))))),?_⟩
 let⟨l7,c1⟩:=W.some;let⟨gs,G⟩:=q.gr;let e8:gs.length=64:=by rw[<-G.keys.length,G.len]
 exists _,Z,st,_,Z,Zb.of e6,Z,_,_,Z,_,_,Z,_,_,Z,_,_,Z,_,_,Z,Z;exists _,Z,_,Z,_,Z,p,a.gl,b,gs,gt,Z,W,O.gl,G.at_,G.keys,G.fit,e8,b0,b1;intro D us rs H1 s1 W1 nD a2 a3 e3 c2 i7 i8;let S1:=q.sx O c1 s1;let l6:us.length=rs.length:=by have:=a3.length;rw[<-this];exact zX _
 let Gd:=FI G.up e3 c2 ∅ ∅
 let⟨e7,ls,U1,c4⟩:=S1.sh;let⟨dx,e0⟩:=U1.sh.sh.self;exists _,Z,a.S,dx,_,Z,e0,Z,_,Z,D,us,Z,.inl (ZG.of a2);intro l9 n9;let⟨H2,eU,X,e9⟩:=Wc n9 (.lst us);rw[eU];let S2:=S1.same X;let U2:=U1.sh.same X;let l3:=q.l64;exists a.S,a.d,a.lk,l9,m.ts,m.lv,m.av,m.ho,a.as,e7,ls,us,rs,Z,U2,∅,e9,a3.sm X,Gd
 intro R u nx Y M fr R3;let i0:∀ y∈(zN m.ts.length),y<m.ts.length:=λy hy=>xG.mp hy;let U3:=Ak (U1.frame U1.sh) ∅ (FW Gd c2) R3
 let U:=S2.lo (H':=R) λc o n1 n2 n3 n4 e=>fr c o n1 n2 e;let j:=U.told;let c0:(iN (zN m.ts.length))=((zN m.ts.length).map λb:Nat=>(b:Int)).map V.int:=by rw[yZ];rfl
 refine⟨_,Z,_,_,_,_,Z,.int _,Oe,_,Z,Zp ?_⟩;refine⟨_,Z,_,_,_,_,Z,.int _,Nu,_,Z,Zp ?_⟩;exists _,Z,_,Z,1,Z,a.tl,(zN m.ts.length).map (λb:Nat=>(b:Int)),-1,Z,Z,ZG.of (by rw[<-c0];exact j),_,_,Z,Z,_,Z
 rw[aI (by have:=Ci i0;lia)]
 refine Zp ?_;exists _,Z,.inl ⟨Z,_,ZG.of j⟩,_,Z,a.tl,_,.int (m.ts.length:Nat),Z,Z,j,YL (by simp[iN];lia)
 let i9:=U2.sh.looks;let⟨x,r,hH⟩:=U.hd;let⟨Yt,l⟩:=U.lw;let⟨c8,G3⟩:=U.gr;let c9:R D=some (.lst us):=by
  let e:=X _ _ a2;let⟨⟨dS,hS⟩,hk,_⟩:=U2.sh;exact fr _ _ (ZI e hS) (ZI e hk) e
 let i3:YC H1 R:=λc ys e=>by
  let⟨⟨dS,hS⟩,hk,_⟩:=U2.sh;let C:=X _ _ e;exact fr _ _ (ZI C hS) (ZI C hk) C
 let e4:=a3.mono i3 _ _;let g:∀ c,H2 c=none->H c=none:=λc e=>by
  cases z:H c with
  | none=>rfl
  | some o=>
   by_cases y:c=p
   ·subst y;let⟨xs,C⟩:=W1.some;rw[X _ _ C] at e;cases e
   ·rw[X _ _ (s1 _ _ z y)] at e;cases e
 let N:a.tl≠u.ab/\a.tl≠u.th:=⟨Za S2.told M,Za S2.told Y⟩;let c5:∀ i:Nat,i∈m.lv++[m.ts.length]->((a.as++[u]).getD i .d).ab≠a.tl/\((a.as++[u]).getD i .d).th≠a.tl:=λi hi=>by
  by_cases z:i=m.ts.length
  ·subst z;let⟨e1,e2,_,_⟩:=PD (new:=u) (D:=D) q;exact⟨λy=>N.1 (by rw[<-e1];exact y.symm),λy=>N.2 (by rw[<-e2];exact y.symm)⟩
  ·let⟨e1,e2,_,_⟩:=Q7 (new:=u) (D:=D) q (i:=i) (VT hi z);let t2:=q.t2 i (VT hi z);exact⟨λy=>t2.1 (by rw[<-e1];exact y.symm),λy=>t2.2.1 (by rw[<-e2];exact y.symm)⟩
 let R4:=IZ (o':=.lst (iN (zN m.ts.length)++[.int (m.ts.length:Nat)])) R3 j q.tt.1.symm c5;let B:∀ c o,c≠a.tl->R c=some o->upd R a.tl (.lst (iN (zN m.ts.length)++[.int (m.ts.length:Nat)])) c=some o:=λc o n e=>by rw[ZM n];exact e
 let a0:upd R a.tl (.lst (iN (zN m.ts.length)++[.int (m.ts.length:Nat)])) a.tl=some (.lst (iN (zN (m.ts.length+1)))):=by rw[ZP,Ih]
 generalize upd R a.tl (.lst (iN (zN m.ts.length)++[.int (m.ts.length:Nat)]))=H4 at R4 B a0⊢;exists _,Z,YX;intro t nt;let⟨H5,eU,g5,t5⟩:=Wc nt (.tup [.str "leaf",.ref D]);rw[eU];let R5:=R4.same g5;let a1:H5 a.dT=some (.dK Yt):=g5 _ _ (B _ _ (ZI l.dict j) l.dict);let l5:Yt.length=m.lv.length:=by have:=congrArg yD l.keys;simpa using this
 let l4:x.length=m.lv.length:=by have:=congrArg yD hH.1;simpa using this
 exists _,Z,_,Z,a.dT,_,Z,Yr.k (k:=Sum.inl (m.ts.length:Int)) a1 (YL ∅)
 let R6:=ON (o':=.dK (Zq Yt (.inl (m.ts.length:Int)) (.ref t))) R5 a1 q.dd.1.symm;let I:∀ c o,c≠a.dT->H5 c=some o->upd H5 a.dT (.dK (Zq Yt (.inl (m.ts.length:Int)) (.ref t))) c=some o:=λc o n e=>by rw[ZM n];exact e
 let a9:upd H5 a.dT (.dK (Zq Yt (.inl (m.ts.length:Int)) (.ref t))) a.dT=some (.dK (Zq Yt (.inl (m.ts.length:Int)) (.ref t))):=ZP;generalize upd H5 a.dT (.dK (Zq Yt (.inl (m.ts.length:Int)) (.ref t)))=H6 at R6 I a9⊢;let a7:H6 a.dH=some (.dK x):=I _ _ q.dd.2.2.symm (g5 _ _ (B _ _ (ZI r j) r));exists _,Z,_,Z,a.dH,_,Z,Yr.k (k:=Sum.inl (m.ts.length:Int)) a7 (YL ∅)
 let R7:=ON (o':=.dK (Zq x (.inl (m.ts.length:Int)) (.int 1))) R6 a7 q.dd.2.1.symm;let J:∀ c o,c≠a.dH->H6 c=some o->upd H6 a.dH (.dK (Zq x (.inl (m.ts.length:Int)) (.int 1))) c=some o:=λc o n e=>by rw[ZM n];exact e
 let a8:upd H6 a.dH (.dK (Zq x (.inl (m.ts.length:Int)) (.int 1))) a.dH=some (.dK (Zq x (.inl (m.ts.length:Int)) (.int 1))):=ZP;generalize upd H6 a.dH (.dK (Zq x (.inl (m.ts.length:Int)) (.int 1)))=H7 at R7 J a8⊢;let a4:∀ c o,c≠a.tl->c≠a.dT->c≠a.dH->R c=some o->H7 c=some o:=λc o n1 n2 n3 e=>J _ _ n3 (I _ _ n2 (g5 _ _ (B _ _ n1 e)));let a6:YC R H7:=λc ys e=>a4 _ _ (ZI e j) (ZI e l.dict) (ZI e r) e;let a5:∀ c xs,c≠a.tl->R c=some (.lst xs)->H7 c=some (.lst xs):=λc xs n e=>a4 _ _ n (ZI e l.dict) (ZI e r) e;let tD:a.tl≠D:=Za q.told nD;let c6:D≠u.ab:=Za (X _ _ a2) M;let i2:H7 t=some (.tup [.str "leaf",.ref D]):=J _ _ (ZI t5 (g5 _ _ (B _ _ (ZI r j) r))) (I _ _ (ZI t5 a1) t5);let c7:LS gt jZ kd H7 (a.push u D) ⟨m.ts++[Y3 rs],m.lv++[m.ts.length],WR m.ts.length m.av,Xb m.ts.length m.ho⟩:=by
  refine FA q (g _ Y) (g _ M) nD c6 ⟨_,ls,U3.frame R7,c4⟩ ⟨_,Gr (tp:=t) l (λb hb=>by cases hb) a6 (λi hi o e=>?_) ?_ ?_ (a5 _ _ tD.symm c9) (λ_=>e4.mono a6 _ _) (λz=>absurd Z z)⟩ ⟨_,a8,Fi (λi hi=>q.lt hi) hH⟩ ⟨c8,G3.frame a6 (a5 _ _ q.tt.2.1.symm G3.at_)⟩ ?_ ∅ ∅
  ·let⟨tp,i4,_,_,C,_⟩:=l.tw i hi;have:o=.lst i4:=by have:=e.symm.trans C;exact zB.inj this
   subst this;exact a5 _ _ (q.t3 i hi).1 e
  ·exact J _ _ q.dd.2.2 a9
  ·exact i2
  ·exact J _ _ (ZI a0 (B _ _ (ZI r j) r)) (I _ _ (ZI a0 (B _ _ (ZI l.dict j) l.dict)) (g5 _ _ a0))
 let c3:∀ c o,c≠a.S->c≠a.d->c≠a.tl->c≠a.dT->c≠a.dH->H1 c=some o->H7 c=some o:=λc o n1 n2 n3 n4 n5 e=>a4 _ _ n3 n4 n5 (fr _ _ n1 n2 (X _ _ e));let W7:ZJ H7 p:=NK W1 λo e=>by
  let⟨xs,C⟩:=W1.some;let eo:o=.lst xs:=by have:=e.symm.trans C;exact zB.inj this
  subst eo;let⟨⟨dS,hS⟩,hk,_⟩:=U1.sh.sh;let⟨l1,LA⟩:=S1.lw;let⟨l0,hA,_⟩:=S1.hd;exact c3 _ _ (ZI C hS) (ZI C hk) O.tl.symm (ZI C LA.dict) (ZI C hA) C
 let pn:∀ c,H c=none->c≠p:=λc e=>(Za c1 e).symm;refine k H7 _ _ (λc o e v=>?_) (λc o e v=>v.push q (Za e (g _ Y)) (Za e nD)) W7 c7 (O.push q (pn _ (g _ Y)) (pn _ (g _ M)) (pn _ nD)) Z (by simp) Z
 let⟨v1,v2,v3,v4,v5,v6,v7⟩:=id v;exact⟨v.push q (Za e (g _ nx)) (Za e (g _ M)),λcp=>c3 _ _ v1 v2 v6 v4 v5 (s1 _ _ e cp)⟩
end Tw
namespace L2
open PySem PySem.Spec PyProof.Rows
section
variable{cs:jw}{HL Hc H' H3:Hp}
end
end L2
namespace Tw
open PySem PySem.Spec L2 PyProof.Rows
variable{jZ kd CS CT CH CK CP CB:aj}
def IM{K:zZ}:xX K (.type "list") (.type "list")=some true:=by kernel_rfl
def Hn{gt:jp}{a:jq}{b:jo}{ho:Nat->Nat}(k:WF gt a)(f:Lv a b):∀(n j:Nat),j∈b->Wz a (gd a j).h<n->∃ o,Sh a b ho j o
 | 0,j,l,h=>absurd h (tF _)
 | n+1,j,l,h=>by
  by_cases c:(abv a b j).length+ho j=1
  ·cases e:abv a b j with
   | nil=>exact⟨none,.top c e⟩
   | cons i r=>
    let d:=Ph k f (i:=j) (j:=i) (by rw[e];exact zT)
    let m:=f.lt i d.2;let⟨o,g⟩:=Hn k f n i d.2 (by have:=Nx m d.1;lia)
    exact⟨o,.up c e g⟩
  ·exact⟨some j,.here c⟩
def OG(t:ZK):jp:=if t.h=0 then Yk t.rows else t.bs.map λb:Nat=>KT.int (b:Nat)
def Mu{H:Hp}:∀(l:jo),jU H (l.map λb:Nat=>KT.int (b:Nat)) (iN l)
 | []=>.nil
 | b::l=>.cons (.int _) (Mu l)
def Fd{H:Hp}{t:ZK}{a:jf}(b:t.h=0->jU H (Yk t.rows) a)(d:t.h≠0->a=iN t.bs):jU H (OG t) a:=by
 unfold OG;by_cases c:t.h=0
 ·rw[aM c];exact b c
 ·rw[aK c,d c];exact Mu _
def FO(l:jo)(h:l.length<=100):(KT.tup (l.map λb:Nat=>KT.int (b:Nat))).wide 5=true:=by
 rw[KT.wide,O4];have:(l.map λb:Nat=>KT.int (b:Nat)).all (·.wide (5-1))=true:=by
  rw[wJ];exact yY.mpr λ_ _=>by simp[KT.wide]
 rw[this,zX,aJ h];rfl
def ZNf{gt:jp}{f:jq}{i:Nat}{t:ZK}(a:Zt gt f i t):(KT.tup (OG t)).wide 5=true:=by
 unfold OG;by_cases c:t.h=0
 ·rw[aM c];let g:=(a.leaf c).2;rw[KT.wide,O4];have:(Yk t.rows).all (·.wide (5-1))=true:=by
   unfold Yk;rw[wJ];refine yY.mpr λr e=>?_;let⟨b,d⟩:=(a.inn r e).2;show (KT.tup [r.1,r.2]).wide 4=true;rw[KT.wide,O4];simp[ME _ 3 b,ME _ 3 d]
  rw[this,show (Yk t.rows).length=t.rows.length from zX _,aJ (show t.rows.length<=100 by lia)]
  rfl
 ·rw[aK c];have:=(a.stem c).2.1;exact FO _ ∅
def AS{L:YN}(h:L.fit):L.kt.wide 5=true:=by
 unfold YN.kt;let a:=ME _ 4 (Lf _ 3 4 h.1 (wH (QO _ 3 h.1)));let b:=ME _ 4 (Lf _ 3 4 h.2 (wH (QO _ 3 h.2)));rw[KT.wide,O4];simp[KT.wide,a,b]
inductive Xy(gt:jp)(jZ kd:aj)(e:jf)(H:Hp)(Q:VK)(_:XK):Prop
 |mk(a:Pl)(m:Md)(_:e=[.ref a.S,.ref a.dT,.ref a.dH])(_:LS gt jZ kd H a m)(_:∀(d:Hp)(b:Pl),(∀ c o,H c=some o->Z3 a m c->Z3 b m c/\d c=some o)->(∀ c,VM a m.lv c->VM b m.lv c)->LS gt jZ kd d b m->VB b=VB a->Q (.bl true) d)
abbrev ZOS:jr:=["_law_shelf","_law_twigs","_law_holds","_law_numbers","_law_number","_law_kind","_law_what","_law_seen","_law_found"]
def UQ:ZB ZOS zEr (Zf Jg):=Z4
def CU{gt:jp}(F:Zn K "_law_exact" "_law_exact" Jg f fd)(T:YR mg)(L:Yd K mg jZ kd)(DN:ZA P w K mg kf ZY 1 jZ "numbers" zEl (Y5 jZ))(DY:ZA P w K mg kf ZY 1 jZ "many" zEl (Wy jZ))(n6:ZA P w K mg kf ZY 2 jZ "look" zEa (V8 jZ kd))(n5:ZA P w K mg kf ZY 2 jZ "label" zEa (XG jZ kd λtg _ _=>tg))(n7:ZA P w K mg kf ZY 2 jZ "outside" zEa (XG jZ kd λ_ ho _=>.int ho))(m9:ZA P w K mg kf ZY 2 jZ "holders" zEa (XG jZ kd λ_ ho us=>.int ((us.length:Nat)+(ho:Nat):Int)))(m7:ZA P w K mg kf ZY 4 jZ "alone" zEa (Ws gt jZ kd))(m8:ZA P w K mg kf ZY 1 jZ "forget" zEl (WO jZ kd))(c0:ZD P w K mg kf 7 "_law_alike" zEc (XL 6))(c1:ZD P w K mg kf 1 "_law_count" zEc VC)(n0:ZD P w K mg kf 2 "_law_label" zEb (YG gt))(m6:ZD P w K mg kf 1 "_law_above" zEb (X5 gt))(n8:ZD P w K mg kf 2 "_law_shared" zEi (Yx gt)):
  ZN P w K mg kf ZY 8 f fd zEr (Xy gt jZ kd):=by
 refine F.ko UQ λt5 A r1 s H vs Q E hr h=>?_;let⟨a,m,rfl,z,k⟩:=h;let nd:=UQ.nd;let hu:=WZ hr;let M:=hr.mono (show 1<=7 by lia)
 let Y:=hr.mono (show 2<=7 by lia)
 let p2:=hr.mono (show 4<=7 by lia)
 intro Xc;refine⟨_,ZQ (Zs 3 nd (OB (E:=E0) (pv 0) L.cS DN M YY))
  (ZQ (Z1 (PW.pt (VU (Xv (Yg (Zy X3 rfl T.isi X8 (Zj (pv 3) (X6 (v:=.ty "list") rfl T.list Vw rfl))))) (Uh (Xv (Yg (Zm c0 hr (Zj (WQ Ov rfl T.tuple QW (ZV (pv 3))) (WQ Ov rfl T.tuple QW (ZV (Zy (Pd rfl) rfl T.sorted Qb (ZV (pv 1)))))))))))) VI Z6)
  (ZQ (Z1 (Xv (Yg (Zm c1 M (Zj (OB (E:=E0) (pv 0) L.cS DY M YY) (Zy Kk rfl T.len Xh (ZV (pv 1))))))) VI Z6)
  (ZQ (Wu PassesOwn.never rfl (Y9 (pv 3)) (YZ 4 nd)
   (ZQ (Qc (Xt hu (pv 1) (pv 4)) (Qd rfl (Y7 (YZ 5 nd) (Y7 (YZ 6 nd) QV))))
   (ZQ (Zs 7 nd (YS (E:=E0) (pv 0) L.cS n6 Y YY (ZV (pv 4))))
   (ZQ (Z1 (PW.pt (VU (Xv (Yg (Zy X3 rfl T.isi X8 (Zj (pv 7) (X6 (v:=.ty "tuple") rfl T.tuple QW rfl))))) (VU (YI PZ (Zy WH rfl T.len Xh (ZV (pv 7))) ZO (Z0 _)) (VU (YI PZ (Zi K (pv 7) ZO) (pv 5) (Z0 _))
    (Uh (Xv (Yg (Zy X3 rfl T.isi X8 (Zj (Zi K (pv 7) ZO) (X6 (v:=.ty "list") rfl T.list Vw rfl)))))))))) VI Z6)
   (ZQ (Z1 (Xv (Yg (Zm c0 hr (Zj (WQ Ov rfl T.tuple QW (ZV (Zi K (pv 7) ZO))) (WQ Ov rfl T.tuple QW (ZV (pv 6))))))) VI Z6)
   (ZQ (Z1 (Xv (Yg (Zm c0 hr (Zj (YS (E:=E0) (pv 0) L.cS n5 Y YY (ZV (pv 4))) (Zm n0 Y (Zj (pv 1) (pv 4))))))) VI Z6)
   (ZQ (XF (LF yF qP qN GG (Zi K (pv 7) ZO)))
   (ZQ (Z1 (Xv (Yg (Zm c1 M (Zj (YS (E:=E0) (pv 0) L.cS n7 Y YY (ZV (pv 4))) (Xt hu (pv 2) (pv 4)))))) VI Z6)
   (ZQ (Z1 (Xv (Yg (Zm c1 M (Zj (YS (E:=E0) (pv 0) L.cS m9 Y YY (ZV (pv 4))) (Z2 Wl (Xt hu (pv 2) (pv 4)) (Zy WH rfl T.len Xh (ZV (Zm m6 M (Zj (pv 1) (pv 4)))))))))) VI Z6)
   (ZQ (Zs 8 nd (YS (E:=E0) (pv 0) L.cS m7 p2 YY (ZV (pv 4))))
   (ZW (Z1 (PW.pt (VU (Xv (Yg (Zy X3 rfl T.isi X8 (Zj (pv 8) (X6 (v:=.ty "bool") rfl T.bool NF rfl))))) (Uh (YI PZ (pv 8) (MD (Oh (Zm n8 Y (Oa (pv 1) (Zj (pv 2) (pv 4)))))) (Z0 _))))) VI Z6))))))))))))
  (ZQ (XF (LF yF qP qN GG (pv 3)))
  (ZQ (XF (OB (E:=E0) (pv 0) L.cS m8 M YY))
  (ZW (Zr (VA Wp (Zy WH rfl T.len Xh (ZV (OB (E:=E0) (pv 0) L.cS DN M YY))) (Zy Kk rfl T.len Xh (ZV (pv 1))) (Z0 _))))))))),?_⟩
 let⟨l,ls,U,s0⟩:=z.sh;let⟨x,Lw⟩:=z.lw;let⟨c8,p0,hH⟩:=z.hd;let⟨gs,G⟩:=z.gr;let a1:=z.l64;let eI:(m.lv.map λi:Nat=>(i:Int)).map V.int=iN m.lv:=by rw[yZ];rfl
 let wN:=FO m.lv ∅
 let p5:l.length=m.lv.length:=JR U.sh;let p6:x.length=m.lv.length:=by have:=congrArg yD Lw.keys;simpa using this
 exists _,Z,a.S,_,_,Z,U.sh.sh.self.choose_spec,Z,a.S,a.d,a.lk,m.ts.length,l,ls,m.lv.map (λi:Nat=>(i:Int)),Z,U.sh.sh,(by rw[U.sh.keys,yZ];rfl),Qa Lw.vl.up,by simpa using a1
 intro q nq;rw[eI];let⟨H1,eU,g1,hq⟩:=Wc nq (.lst (iN m.lv));rw[eU];refine⟨_,Z,_,_,_,_,Z,.lst hq,IM,_,Z,Zp ?_⟩;refine⟨_,Z,q,_,Z,.inl ⟨ZG.of hq,λt1 p9=>?_⟩⟩;let ga:=Zc p9 (.tup (iN m.lv));exists _,Z,a.dT,x,m.lv.map (λi:Nat=>(i:Int)),Z,(g1.trans ga) _ _ Lw.dict,(by rw[Lw.keys,yZ];rfl),Qa Lw.vl.up,by simpa using a1
 intro q2 p7;rw[eI];let gb:=Zc p7 (.lst (iN m.lv));refine⟨q2,_,Z,.inl ⟨ZG.of ZP,λt2 r0=>?_⟩⟩;let gc:=Zc r0 (.tup (iN m.lv));refine⟨.ref t1,.ref t2,.tup (m.lv.map λb:Nat=>KT.int (b:Nat)),5,Z,.tup ((gb.trans gc) _ _ ZP) (Mu _),.tup ZP (Mu _),wN,by decide,λH2 s2=>⟨_,Z,Zp ?_⟩⟩
 let a3:=((ga.trans gb).trans gc).trans s2;let a5:=g1.trans a3;let l1:=a3 _ _ hq;clear s2;let U2:=U.frame (U.sh.same a5);exists _,Z,a.S,_,_,Z,U2.sh.sh.self.choose_spec,Z,a.S,a.d,a.lk,m.ts.length,l,ls,Z,U2.sh.sh;refine⟨_,Z,a.dT,x,Z,a5 _ _ Lw.dict,(l.length:Int),by rw[p5,p6];rfl,λH3 s3=>⟨_,Z,Zp ?_⟩⟩
 let a6:=a5.trans s3;let c6:=s3 _ _ l1;let U3:=U.frame (U.sh.same a6);let c2:=Lw.same a6;let i6:=a6 _ _ p0;let W:=U3.sh.sh.looks;let e7:q≠a.lk:=(Za U.sh.sh.looks nq).symm;clear s3 l1 U2 a3 a5;refine⟨_,Z,q,Z,⟨_,ZG.of c6⟩,UT (K:=K) (a:=q) (xs:=iN m.lv) (λi σ H'=>∃(x4 x5 x6 x7 x8:jg)(l8:jf),σ=[some (.ref a.S),some (.ref a.dT),some (.ref a.dH),some (.ref q),x4,x5,x6,x7,x8]/\(∀ c o,c≠a.lk->H3 c=some o->H' c=some o)/\H' a.lk=some (.lst l8)/\l8.length<=100+i)
  ⟨_,_,_,_,_,ls,Z,λc o _ e=>e,W,∅⟩ (λi σ H' _ hP=>?_) ?_ ?_⟩
 ·let⟨_,_,_,_,_,_,_,k',_⟩:=hP;exact ZG.of (k' _ _ e7 c6)
 ·rintro i u σ N c7 ⟨x4,x5,x6,x7,x8,r,rfl,B,C,l4⟩;unfold iN at c7;rw[zS] at c7;let⟨j,ej,rfl⟩:=yO.mp c7;let D:j∈m.lv:=zG ej;let ii:i<m.lv.length:=(yN.mp ej).1;let J:Xz gt jZ kd N a.S a.d a.lk m.ts m.lv m.av m.ho a.as l r:=⟨LH U3.sh B C,U3.wf,U3.vl,U3.av,U3.live,U3.l800⟩;let r6:YC H3 N:=λb ys e=>B b _ (ZI e W) e;let I:XI N a.dT m.ts m.lv a.bs x:=c2.frame r6 (B _ _ (ZI c2.dict W) c2.dict) λb hb o e=>B _ _ (z.t3 b hb).2.1 e;let i7:N a.dH=some (.dK c8):=B _ _ (ZI i6 W) i6;let⟨tp,us,e1,e2,e3,e4,e5⟩:=I.tw j D;let m2:=U.wf j _ (Ym (U.vl.lt j D));let p1:Zg N a.dT (.int (j:Nat)) (some (.ref tp)):=e1 ▸ Zg.k (k:=Sum.inl (j:Int)) I.dict;exists _,Z,_,Z,a.dT,.ref tp,Z,p1,tp,_,Z,Zb.of e2,Z,_,_,Z,_,_,Z,Z;let W4:=J.sh.tw j D;let⟨vs,w1,w2,w3⟩:=W4.things;let⟨ta,vlo,vhi,o8,p4,klo,t9⟩:=W4.tag;cases o8;let⟨o1,o2,o3,o4⟩:=J.sh.own j D;exists _,Z,a.S,_,_,Z,J.sh.sh.self.choose_spec,Z,_,Z,a.S,a.d,a.lk,m.ts.length,l,r,(j:Int),_,_,_,_,_,_,vs,_,_,Z,⟨J.sh.sh,J.sh.val j D,W4.tw⟩,w1,p4,Ne.symm o3,Ne.symm o2,by lia
  intro H5 l' t p a2 l9 c5 R;let eK:(if (Zu (gd m.ts j)).h > 0 then ("stem" : Str) else "leaf")=kindOf (gd m.ts j):=by
   unfold kindOf;show (if (((gd m.ts j).h:Nat):Int) > 0 then ("stem" : Str) else "leaf")=_
   by_cases c:(gd m.ts j).h=0
   ·rw[aM c,aK ∅]
   ·rw[aK c,aM ∅]
  rw[eK] at R;refine⟨_,Z,_,_,_,_,Z,.tup R,Mt,_,Z,Zp ?_⟩;refine⟨_,Z,t,_,Z,.inr (Zb.of R),Z,_,Z,LC Z ?_⟩;refine⟨_,Z,.inr (.inl ⟨t,_,0,_,rfl,rfl,Zb.of R,rfl,_,rfl,rfl,_,rfl,LC rfl ?_⟩)⟩;refine⟨_,Z,.inr (.inl ⟨t,_,1,_,rfl,rfl,Zb.of R,rfl,_,_,_,_,rfl,.lst c5,IM,_,rfl,Zp ?_⟩)⟩;let r8:∀ c o,c≠a.lk->N c=some o->H5 c=some o:=p;let e9:YC N H5:=λb ys e=>p b _ (ZI e C) e;refine⟨_,Z,.inr (.inl ⟨t,_,1,_,rfl,rfl,Zb.of R,rfl,l',vs,rfl,.inl ⟨ZG.of c5,λr4 m0=>?_⟩⟩)⟩;let i3:=Zc m0 (.tup vs);let o0:XI H5 a.dT m.ts m.lv a.bs x:=I.frame e9 (p _ _ (ZI I.dict C) I.dict) λb hb o e=>p _ _ (z.t3 b hb).2.1 e;let o7:=p _ _ (z.t3 j D).2.1 e3;refine⟨_,Z,a.b j,us,Z,.inl ⟨ZG.of (i3 _ _ o7),λr5 m1=>?_⟩⟩;let i4:=Zc m1 (.tup us);let c4:=i3.trans i4;let kV:jU N (OG (gd m.ts j)) vs:=Fd w2 w3;let kU:jU N (OG (gd m.ts j)) us:=Fd e4 e5;refine⟨.ref r4,.ref r5,.tup (OG (gd m.ts j)),5,Z,.tup (i4 _ _ ZP) ((kV.mono e9 _ _).sm c4),.tup ZP ((kU.mono e9 _ _).sm c4),ZNf m2,by decide,λH6 s6=>⟨_,Z,Zp ?_⟩⟩
  let e8:=c4.trans s6;let U5:Xz gt jZ kd H5 a.S a.d a.lk m.ts m.lv m.av m.ho a.as l (r++[.int (j:Nat)]):=⟨LH J.sh p a2,J.wf,J.vl,J.av,J.live,J.l800⟩;let U6:=U5.frame (U5.sh.same e8);let W6:=U6.sh.tw j D;exists _,Z,a.S,_,_,Z,U6.sh.sh.self.choose_spec,Z,_,Z,a.S,a.d,a.lk,m.ts.length,l,_,(j:Int),_,_,_,_,_,_,Z,⟨U6.sh.sh,U6.sh.val j D,W6.tw⟩;let o5:=o0.same e8;let n9:XY gt H6 a.dT m.ts m.lv x:=o5.lawT U.wf G.len G.up;exists _,Z,_,Z,a.dT,j,m.ts,m.lv,x,Z,n9.g,D;intro H7 v7 s7 l6;refine⟨_,v7,(Zu (gd m.ts j)).kt,5,Z,(W6.tag.mono (ZC.tups s7)).key,l6.key,AS (KR m2),by decide,λH8 s8=>⟨_,Z,Zp ?_⟩⟩
  let a8:=(e8.trans s7).trans s8;let p3:=a8 _ _ R;let l0:=a8 _ _ c5;refine⟨_,Z,.inr (.inl ⟨t,_,1,_,rfl,rfl,Zb.of p3,rfl,.inl ⟨rfl,_,ZG.of l0⟩,l',vs,rfl,rfl,l0,?_⟩)⟩;let O:∀ c o,c≠a.lk->N c=some o->upd H8 l' (.lst []) c=some o:=λc o n e=>by rw[ZM (Za e l9)];exact a8 _ _ (p _ _ n e)
  let e6:upd H8 l' (.lst []) a.lk=some (.lst (r++[.int (j:Nat)])):=by rw[ZM (Za C l9)];exact a8 _ _ a2
  generalize upd H8 l' (.lst [])=H9 at O e6⊢;let r7:YC N H9:=λb ys e=>O b _ (ZI e C) e;let U9:Xz gt jZ kd H9 a.S a.d a.lk m.ts m.lv m.av m.ho a.as l (r++[.int (j:Nat)]):=⟨LH J.sh O e6,J.wf,J.vl,J.av,J.live,J.l800⟩;let i1:XI H9 a.dT m.ts m.lv a.bs x:=I.frame r7 (O _ _ (ZI I.dict C) I.dict) λb hb o e=>O _ _ (z.t3 b hb).2.1 e;let i8:H9 a.dH=some (.dK c8):=O _ _ (ZI i7 C) i7;let W9:=U9.sh.tw j D;let i9:∀ H',ZC H9 H'->Zg H' a.dH (.int (j:Nat)) (some (.int (m.ho j:Nat))):=λH' s'=>hH.2 j D ▸ Zg.k (k:=Sum.inl (j:Int)) (s' _ _ i8);exists _,Z,a.S,_,_,Z,U9.sh.sh.self.choose_spec,Z,_,Z,a.S,a.d,a.lk,m.ts.length,l,_,(j:Int),_,_,_,_,_,_,Z,⟨U9.sh.sh,U9.sh.val j D,W9.tw⟩;refine⟨_,Z,_,Z,a.dH,.int (m.ho j:Nat),Z,i9 _ (ZC.refl _),(m.ho j:Nat),Z,λs4 a7=>⟨_,Z,Zp ?_⟩⟩;let a4:=U9.frame (U9.sh.same a7);let o6:=a4.sh.tw j D;exists _,Z,a.S,_,_,Z,a4.sh.sh.self.choose_spec,Z,_,Z,a.S,a.d,a.lk,m.ts.length,l,_,(j:Int),_,_,_,_,_,_,Z,⟨a4.sh.sh,a4.sh.val j D,o6.tw⟩;exists _,Z,_,Z,a.dH,.int (m.ho j:Nat),Z,i9 _ a7,_,Z,_,Z,a.dT,j,m.ts,m.lv,x,Z,(i1.same a7).lawT U.wf G.len G.up,a1;intro s5 m5 r2 s1 i5;refine⟨m5,_,Z,.inl (ZG.of i5),_,_,Z,Z,((iN (m.av j)).length:Nat)+(m.ho j:Nat),?_,λs9 a3=>⟨_,Z,Zp ?_⟩⟩
  ·let el:(iN (m.av j)).length=(iN (abv m.ts m.lv j)).length:=by rw[zX,zX];exact(U.av j D).length_eq
   show [V.int _,V.int _]++[]=_;rw[Int.add_comm (m.ho j:Int),el];rfl
  let m4:=(a7.trans r2).trans a3;let i2:=U9.frame (U9.sh.same m4);let⟨o,l3⟩:=Hn (ho:=m.ho) U.wf U.vl _ j D (xT _);exists _,Z,a.S,_,_,Z,i2.sh.sh.self.choose_spec,Z,_,Z,a.S,a.d,a.lk,m.ts,m.lv,m.av,m.ho,a.as,l,_,j,o,Z,i2,D,l3;intro t0 r3;let a9:=m4.trans r3;refine⟨_,Z,_,_,_,_,Z,.bl _,Cn,_,Z,Zp ?_⟩;exists _,Z,_,Z,_,Z,_,Z,a.dT,a.dH,j,m.ts,m.lv,x,c8,m.ho,Z,(i1.same a9).lawT U.wf G.len G.up,a1,D,a9 _ _ i8,hH;intro t4 o' m3 l5;cases l3.uniq l5;let eo:V.bl o.isNone=V.bl (decide (oV o=V.non)):=by
   cases o with
   | none=>rfl
   | some k=>rfl
  refine⟨Z,_,Z,LC eo ?_⟩;refine⟨_,_,_,_,_,r++[.int (j:Nat)],Z,λc o' n e=>(a9.trans m3) _ _ (O _ _ n (B _ _ n e)),(a9.trans m3) _ _ e6,by rw[zH,xU];lia⟩
 ·rintro σ N ⟨x4,x5,x6,x7,x8,r,rfl,B,C,l4⟩;let l2:=B _ _ e7 c6;exists _,Z,.inl ⟨Z,_,ZG.of l2⟩,q,_,Z,Z,l2;let p:∀ c o,c≠a.lk->c≠q->H3 c=some o->upd N q (.lst []) c=some o:=λc o n1 n2 e=>by rw[ZM n2];exact B _ _ n1 e
  let a2:upd N q (.lst []) a.lk=some (.lst r):=by rw[ZM (Ne.symm e7)];exact C
  generalize upd N q (.lst [])=H5 at p a2⊢;let y:∀ c o,c≠a.lk->H c=some o->H5 c=some o:=λc o n e=>p _ _ n (Za e nq) (a6 _ _ e);let U5:Xz gt jZ kd H5 a.S a.d a.lk m.ts m.lv m.av m.ho a.as l r:=⟨LH U.sh y a2,U.wf,U.vl,U.av,U.live,U.l800⟩;exists _,Z,a.S,_,_,Z,U5.sh.sh.self.choose_spec,Z,a.S,a.d,a.lk,m.ts,m.lv,m.av,m.ho,a.as,l,r,Z,U5.sh;intro H6 e0 X o9 R6;exists _,Z,a.S,_,_,Z,R6.sh.self.choose_spec,Z,a.S,a.d,e0,m.ts.length,l,[],m.lv.map (λi:Nat=>(i:Int)),Z,R6.sh,(by rw[U.sh.keys,yZ];rfl),Qa Lw.vl.up,by simpa using a1
  intro q7 p8;rw[eI];let g7:=Zc p8 (.lst (iN m.lv));let c3:∀ c o,c≠a.lk->c≠a.S->H c=some o->upd H6 q7 (.lst (iN m.lv)) c=some o:=λc o n1 n2 e=>g7 _ _ (o9 _ _ n2 (y _ _ n1 e));let U7:Xz gt jZ kd (upd H6 q7 (.lst (iN m.lv))) a.S a.d e0 m.ts m.lv m.av m.ho a.as l []:=⟨R6.same g7,U.wf,U.vl,U.av,U.live,U.l800⟩;exists q7,_,Z,.inl (ZG.of ZP);generalize upd H6 q7 (.lst (iN m.lv))=H7 at c3 U7⊢;let a0:=z.lo (H':=H7) λc o n1 n2 n3 n4 e=>c3 c o n3 n1 e;let⟨c9,i0⟩:=a0.lw;let l7:c9.length=m.lv.length:=by have:=congrArg yD i0.keys;simpa using this
  exists _,Z,a.dT,c9,Z,i0.dict,Z;let ed:decide (V.int ((iN m.lv).length:Nat)=V.int (c9.length:Nat))=true:=aJ (by rw[l7];simp[iN])
  rw[ed];let⟨⟨t6,t7⟩,t8,r9⟩:=U.sh.sh;refine k H7 { a with lk:=e0 } (λc o e v=>?_) (λc v=>v) ⟨⟨l,[],U7,by simp⟩,a0.lw,a0.hd,a0.gr,a0.told,z.dd,?_,z.t2,λi hi=>?_,z.l64,z.l700⟩ Z
  ·let⟨v1,v2,v3,v4,v5,v6,v7⟩:=v;exact⟨⟨v1,v2,Za (y _ _ v3 e) X,v4,v5,v6,v7⟩,c3 _ _ v3 v1 e⟩
  ·exact⟨Za (y _ _ z.tt.1 z.told) X,z.tt.2.1,(Za (y _ _ z.tt.2.2.symm G.at_) X).symm⟩
  ·let⟨t1,t2,t3⟩:=z.t3 i hi;let⟨tp,us,_,_,e,_⟩:=Lw.tw i hi;exact⟨t1,Za (y _ _ t2 e) X,t3⟩
inductive WG(gt:jp)(h:jf)(H:Hp)(Q:VK)(_:XK):Prop
 |mk(d l:aj)(bs:jo)(g:jq)(e:jo)(a:List (ZR×V))(_:h=[.ref d,.ref l])(_:Xu gt H d g e a)(_:∀ b∈bs,b∈e)(_:H l=some (.lst (iN bs)))(_:bs.length<=100)(_:∀ c:Hp,ZC H c->Q (.bl (over (Zx g bs)).isSome) c)
abbrev ZQd:jr:=["_law_twigs","_law_numbers","_law_labels","_law_j"]
def Pj:ZB ZQd zEm (Zf Ku):=Z4
def B0{gt:jp}(F:Zn K "_law_fits" "_law_fits" Ku f fd)(T:YR mg)(DL:ZD P w K mg kf 2 "_law_label" zEb (YG gt))(DS:ZD P w K mg kf 7 "_law_less" zEu Yn):
  ZN P w K mg kf ZY 8 f fd zEm (WG gt):=by
 refine F.ko Pj λe2 A c2 s H vs Q E hr h=>?_;let⟨d,l,bs,S,gv,c1,rfl,L,a1,hl,c3,q⟩:=h;let nd:=Pj.nd;let hu:=WZ hr;let c0:=hr.mono (show 2<=7 from nofun)
 intro Xc;refine⟨_,ZQ (Og (i:=2) [0] ["_law_twigs"] nd rfl rfl rfl (Y9 (pv 1)) (λ_ _ _ _ _=>Vh) (λ_ _ _ _ _=>Zm DL c0 (Zj (pv 1) (pv 0))) ⟨rfl,.inl rfl,rfl,trivial⟩)
  (ZQ (Wu PassesOwn.never rfl (Mf rfl T.range (Zj ZO (Zy WH rfl T.len Xh (ZV (pv 2))))) (YZ 3 nd)
   (ZW (Z1 (PW.pt (VU (YI PZ (Zi K (Zi K (pv 2) (pv 3)) ZO) (Zi K (Zi K (pv 2) ZO) ZO) (Z0 _))
     (Uh (Xv (Yg (Zm DS hr (Zj (Zi K (Zi K (pv 2) (Z2 Qf (pv 3) ZO)) ZO) (Zi K (Zi K (pv 2) (pv 3)) ZO))))))))
    (ZW (Zr V9)) Z6)))
  (ZW (Zr (EB Uf Uf ZO (Zy WH rfl T.len Xh (ZV (pv 2))) ZO)))),?_⟩
 exists _,Z,l,Z,⟨_,ZG.of hl⟩;refine UH (n:=bs.length) (λi z=>(iN bs)[i]? = some z) (λD i X t=>ZC H t/\H D=none/\YV t ((Zx S bs).take i) X) (YL nofun)
  (λD i X t B x=>⟨_,.int (bs[i]:Nat),ZG.of (x.1 _ _ hl),by simp[iN,B]⟩) (λD i X t z k B x hy=>⟨hy.1,hy.2 _ (ZG.of (x.1 _ _ hl))⟩) (λD X t x=>⟨_,ZG.of (x.1 _ _ hl),by simp[iN]⟩)
  (λD hD=>⟨Zc hD _,hD,Z,λi u e=>by simp at e⟩) (λD i X t z eD e5 B hz x R hR=>?_) (λD p t eD x=>?_)
 ·let⟨O,nD,W⟩:=x;let ez:z=.int (bs[i]:Nat):=by
   unfold iN at hz;rw[zS,zW B] at hz;exact(zB.inj hz).symm
  subst ez;exists _,Z,_,Z,d,bs[i],S,gv,c1,Z,L.same O,a1 _ (yJ _);intro k v r hv;let o:=r _ _ eD;let tD:YC k (upd k D (.lst (X++[v]))):=λb xs e=>by rw[ZM (ZI e o)];exact e
  refine hR _ k o ⟨VJ (O.trans r) nD,nD,?_⟩;let et:(Zx S bs)[i]? = some (Zu (gd S bs[i])):=by unfold Zx;rw[zS,zW B];rfl
  rw[yP,et];exact((W.mono (ZC.tups r)).snoc hv).mono tD
 let⟨O,nD,W⟩:=x;let ll:(Zx S bs).length=bs.length:=zX _;rw[yM nofun] at W
 let e6:p.length=bs.length:=by rw[W.1,ll]
 generalize a6:Zx S bs=g at W ll q;let I:∀ i,i<g.length->(g.getD i .d).fit:=λi B=>by
  let a8:i<bs.length:=nofun
  let U:g.getD i .d=Zu (gd S bs[i]):=by rw[zV,<-a6];unfold Zx;rw[zS,zW a8];rfl
  rw[U];exact KR (L.at_ _ (a1 _ (yJ _)))
 let J:∀ k:Hp,over g=none->ZC H k->Q (.bl false) k:=λk z r=>by have:=q k r;rw[z] at this;exact this
 let N:∀(Y:Hp)(i:Nat),ZC t Y->i<p.length->∃(a:aj)(G C:V),p[i]? = some (.ref a)/\Y a=some (.tup [.int (g.getD i .d).h,G,C,.int (g.getD i .d).m])/\ZF Y (g.getD i .d).lo G/\ZF Y (g.getD i .d).hi C:=λY i s' B=>by
  let hu:p[i]? = some p[i]:=zW B;let⟨a,G,C,e,U,k1,k2⟩:=(W.2 i _ hu).mono (ZC.tups s');exact⟨a,G,C,by rw[hu,e],U,k1,k2⟩
 exists _,Z,D,p,Z,.inl (ZG.of eD),1,(p.length:Int),Z,⟨nofun,nofun,nofun,nofun⟩
 refine NN (lo:=1) (n:=((p.length:Int)-1).toNat) (λi σ k=>∃ y:jg,σ=[some (.ref d),some (.ref l),some (.ref D),y]/\ZC t k/\∀ j,j<i->(g.getD (j+1) .d).h=(g.getD 0 .d).h/\(g.getD j .d).hi.lt (g.getD (j+1) .d).lo=true) ⟨_,Z,ZC.refl t,λj hj=>absurd hj nofun⟩ ?_ ?_
 ·rintro i σ k B ⟨y,rfl,r,M⟩;let a9:i+1<p.length:=nofun
  let U:(1:Int)+(i:Int)=((i+1:Nat):Int):=nofun
  let e0:(1:Int)+(i:Int)-1=((i:Nat):Int):=nofun
  let⟨a,c8,a4,ua,ta,c4,a2⟩:=N k i r nofun
  let⟨b,a5,c9,ub,tb,a3,c5⟩:=N k (i+1) r a9;let⟨c,e4,e3,uc,tc,c7,c6⟩:=N k 0 r nofun
  let no:¬ ((g.getD (i+1) .d).h=(g.getD 0 .d).h/\(g.getD i .d).hi.lt (g.getD (i+1) .d).lo=true)->over g=none:=λz=>by
   unfold over;rw[aK λy=>z (XM.mpr y.2.2 i nofun)]
  let o:=r _ _ eD;refine⟨_,Z,_,Z,.inl ⟨D,p,_,.ref b,Z,Z,ZG.of o,by rw[U];exact Xk ub,.inr (.inl ⟨b,_,0,_,rfl,rfl,Zb.of tb,rfl,?_⟩)⟩⟩
  refine⟨_,Z,.inl ⟨D,p,0,.ref c,Z,Z,ZG.of o,Xk (j:=0) uc,.inr (.inl ⟨c,_,0,_,rfl,rfl,Zb.of tc,rfl,rfl,_,rfl,?_⟩)⟩⟩;let a7:(!decide (V.int (g.getD (i+1) .d).h=V.int (g.getD 0 .d).h)) = !decide ((g.getD (i+1) .d).h=(g.getD 0 .d).h):=by simp
  rw[a7];by_cases hh:(g.getD (i+1) .d).h=(g.getD 0 .d).h
  ·rw[aJ hh];refine Zp ?_;refine⟨_,Z,_,Z,_,_,Z,Z,.inl ⟨D,p,_,.ref a,Z,Z,ZG.of o,by rw[e0];exact Xk ua,.inr (.inl ⟨a,_,2,_,rfl,rfl,Zb.of ta,rfl,?_⟩)⟩⟩
   refine⟨_,Z,_,Z,.inl ⟨D,p,_,.ref b,Z,Z,ZG.of o,by rw[U];exact Xk ub,.inr (.inl ⟨b,_,1,_,rfl,rfl,Zb.of tb,rfl,?_⟩)⟩⟩
   refine⟨a4,a5,_,_,Z,a2,a3,(I i nofun).2,(I (i+1) nofun).1,λH5 s5=>⟨_,Z,?_⟩⟩
   cases hc:(g.getD i .d).hi.lt (g.getD (i+1) .d).lo with
   | false=>
    refine YJ ?_;exact J H5 (no λz=>by rw[hc] at z;cases z.2) ((O.trans r).trans s5)
   | true=>
    refine Zp ⟨_,Z,r.trans s5,λj hj=>?_⟩;rcases yH j i with z | z
    ·exact M j z
    ·have:j=i:=nofun
     subst this;exact⟨hh,hc⟩
  ·rw[aI hh];refine YJ (YJ ?_);exact J k (no λz=>hh z.1) (O.trans r)
 ·rintro σ k ⟨y,rfl,r,M⟩;let hc:MT g=true:=XM.mp λj hj=>M j nofun
  let o:=r _ _ eD;let a0:=q k (O.trans r);exists _,Z,D,p,Z,.inl (ZG.of o),_,_,Z,Z,_,Z;rcases yH p.length 2 with h2 | h2
  ·rw[aI (show ¬ (2:Int)<=(p.length:Int) from nofun)]
   refine Zp ?_;exact J k (by unfold over;rw[aK nofun]) (O.trans r)
  rw[aJ (show (2:Int)<=(p.length:Int) from nofun)]
  refine YJ ⟨_,_,Z,Z,?_⟩;let e:(over g).isSome=decide ((p.length:Int)<=4):=by
   unfold over;by_cases z:p.length<=4
   ·rw[aM ⟨nofun,nofun,hc⟩,aJ nofun];rfl
   ·rw[aK nofun,aI nofun];rfl
  rw[e] at a0;exact a0
def AE{bs:jo}{n:Nat}{a:Nat->Nat}(h:n∉bs):Xb n (Y2 bs a)=Y2 bs (Xb n a):=by
 funext i
 by_cases z:i=n
 ·subst z;show (if i=i then 1 else Y2 bs a i)=(if i∈bs then (if i=i then 1 else a i)-1 else (if i=i then 1 else a i))
  rw[aM rfl,aK h];simp
 ·show (if i=n then 1 else (if i∈bs then a i-1 else a i))=(if i∈bs then (if i=n then 1 else a i)-1 else (if i=n then 1 else a i))
  rw[aK z,aK z]
def X2.av{gt:jp}{b c:aj}{H:Hp}{a:Pl}{m:Md}{p:aj}{q:jf}(o:X2 a m p)(h:LS gt b c H a m)(e:H p=some (.lst q)):Z3 a m p:=by
 let⟨n,u,R⟩:=h.shp;let⟨Yt,L⟩:=h.lw;let⟨k,g,_⟩:=h.hd;let⟨⟨r,f⟩,j,t⟩:=R.sh;exists ZI e f,ZI e j,o.lk.symm,ZI e L.dict,ZI e g,o.tl.symm;intro i d;let⟨s,l⟩:=(R.tw i d).tw.self;exact⟨ZI e l,(o.tw i d).1.symm⟩
def Ml{X:Cx}:VH (YB P w) X E0:=λ_ _ _ _ _ _ _ h=>by
 let⟨_,_,_,_,_,_,h⟩:=h;exact h.elim
def Xi(gt:jp)(jZ kd:aj)(H:Hp)(p:aj)(a:Pl)(m:Md)(Q:VK):Prop:=
 ∀(e:Hp)(d:Pl)(b:Md),(∀ c o,H c=some o->Z3 a m c->Z3 d b c/\(c≠p->e c=some o))->(∀ c o,H c=some o->VM a m.lv c->VM d b.lv c)->LS gt jZ kd e d b->ZJ e p->X2 d b p->VB d=VB a->b.ts.length<=m.ts.length+1->b.lv.length<=m.lv.length+1->Q (.bl true) e
inductive Y8(gt:jp)(jZ kd:aj)(c:jf)(H:Hp)(Q:VK)(_:XK):Prop
 |mk(p b:aj)(a:Pl)(m:Md)(_:c=[.ref p,.ref b])(_:ZJ H p)(_:H b=some (.tup (VB a)))(_:LS gt jZ kd H a m)(_:X2 a m p)(_:0<m.lv.length)(_:m.lv.length<=62)(_:m.ts.length<=600)(_:Xi gt jZ kd H p a m Q)
abbrev Av:jr:=["_law_well_here","_law_state","_law_shelf","_law_twigs","_law_holds","_law_grid_here","_law_told","_law_numbers","_law_number","_law_one"]
def WN:ZB Av zEf (Zf KO):=Z4
def ZGU{gt:jp}{CS CT CH:aj}(F:Zn K "_law_put_stem" "_law_put_stem" KO f fd)(X:YR mg)(L:Yd K mg jZ kd)(DM:ZA P w K mg kf (YB P w) 10 jZ "put_stem" zEe (XU gt jZ kd CS CT CH))(DR:ZD P w K mg kf 4 "_law_run" zEh (QE gt))(DF:ZD P w K mg kf 8 "_law_fits" zEm (WG gt)):
  ZN P w K mg kf ZY 11 f fd zEf (Y8 gt jZ kd):=by
 refine F.ko WN λs5 A r6 s H vs Q E hr h=>?_;let⟨p,st,a,m,rfl,W,p8,l,O,l0,t1,s4,k⟩:=h;let nd:=WN.nd;let hu:=WZ hr;let p6:=hr.mono (show 4<=10 by lia)
 let p7:=hr.mono (show 8<=10 by lia)
 intro Xc;refine⟨_,ZQ (Qc (pv 1) (Qd rfl (Y7 (YZ 2 nd) (Y7 (YZ 3 nd) (Y7 (Qo (i:=4) nd rfl (Or.inr rfl)) (Y7 (YZ 5 nd) (Y7 (YZ 6 nd) QV)))))))
  (ZQ (Og (i:=7) [4] ["_law_holds"] nd rfl rfl rfl (Y9 (Zm DR p6 (Oa (pv 0) (Oa (pv 3) (Zj (pv 4) (pv 5)))))) (λ_ _ _ _ _=>Q6 (YI Vr (Xt hu (pv 1) (pv 0)) ZO (Z0 _))) (λ_ _ _ _ _=>pv 0) ⟨rfl,.inl rfl,rfl,trivial⟩)
  (ZQ (Z1 (Xv (Yg (Zm DF p7 (Zj (pv 3) (pv 7))))) (ZW (Zr V9)) Z6)
  (ZQ (Zs 8 nd (YS (E:=E0) (pv 2) L.cS DM hr Ml (ZV (WQ Ue rfl X.list Vw (ZV (pv 7))))))
  (ZQ (Z1 (PW.pt (VU (Xv (Yg (Zy X3 rfl X.isi X8 (Zj (pv 8) (X6 (v:=.ty "int") rfl X.int Uy rfl)))))
   (VU (Yg (Zy X3 rfl X.isi X8 (Zj (pv 8) (X6 (v:=.ty "bool") rfl X.bool NF rfl)))) (Uh (YI Uf (pv 8) (Zy (ZIw rfl) rfl X.max My (ZV (pv 6))) (Z0 _)))))) VI Z6)
  (ZQ (XF (Vs yF xP xO UF (pv 6) (ZV (pv 8))))
  (ZQ (Wu PassesOwn.never rfl (Y9 (pv 7)) (YZ 9 nd) (ZW (UM hu (pv 4) (pv 9) (Z2 Qf (Xt hu (pv 4) (pv 9)) ZO) rfl)))
  (ZQ (UM hu (pv 3) (pv 8) (XB (Zj X0 (pv 7))) rfl)
  (ZQ (UM hu (pv 4) (pv 8) ZO rfl)
  (ZW (Zr V9)))))))))),?_⟩
 let⟨t7,e5⟩:=W.some;let⟨t0,ls,U,s0⟩:=l.sh;let⟨r7,Lw⟩:=l.lw;let⟨p9,i9,hH⟩:=l.hd;let⟨gs,G⟩:=l.gr;let bp:∀ i:Nat,i∈m.lv->a.bs.getD i 0≠p:=λi r=>(O.tw i r).2.2;let r0:=l.l64;let eI:((zN m.ts.length).map λi:Nat=>(i:Int)).map V.int=iN (zN m.ts.length):=by rw[yZ];rfl
 let r3:0<m.ts.length:=by
  let⟨i,r⟩:=rX l0;have:=l.lt r
  lia
 let l9:∀ b,b∈m.lv->(m.av b).length<=800:=λb hb=>by
  rw[(U.av b hb).length_eq];have:=Gy m.ts m.lv b
  lia
 exists _,Z,st,_,Z,Zb.of p8,Z,_,_,Z,_,_,Z,_,_,Z,_,_,Z,_,_,Z,Z;exists _,Z,_,Z,_,Z,_,Z,p,a.dT,a.dH,a.gl,m.ts,m.lv,a.bs,r7,p9,m.ho,gs,Z,W,Lw,bp,l.wf,i9,hH,G,O.gl,l0,r0;intro H1 q a8 s1 W1 nq hq i3 m8;let m3:=s1 _ _ i9 (ZI i9 e5);refine⟨q,Z,⟨_,ZG.of hq⟩,No a8 (λj=>decide (0<m.ho j)) ∅ (λi H3 s3 r=>⟨_,.int (a8[i]:Nat),ZG.of (s3 _ _ hq),by simp[iN,zW r]⟩) (λi H3 x H4 s3 r hy=>⟨hy.1,hy.2 _ (ZG.of (s3 _ _ hq))⟩) (λH3 s3=>⟨_,ZG.of (s3 _ _ hq),by simp[iN]⟩) (λH2 j R hj s2 hR=>?_) (λLN H3 s2 n5 a5=>?_)⟩
 ·let jl:j∈m.lv:=i3 j hj;let hg:Zg H2 a.dH (.int (j:Nat)) (some (.int (m.ho j:Nat))):=hH.2 j jl ▸ Zg.k (k:=Sum.inl (j:Int)) (s2 _ _ m3);let ed:decide (((m.ho j:Nat):Int) > 0)=decide (0<m.ho j):=by rw[decide_eq_decide];lia
  exists _,Z,_,Z,a.dH,.int (m.ho j:Nat),Z,hg,_,_,Z,Z,_,Z;rw[ed];exact hR
 let x3:ZH p H H3:=s1.trans (ZH.of s2);let W3:=W1.same s2;let e7:H LN=none:=by
  cases z:H LN with
  | none=>rfl
  | some o=>
   let e1:H1 LN=none:=n5;by_cases y:LN=p
   ·subst y;let⟨xs,e'⟩:=W1.some;rw[e'] at e1;cases e1
   ·rw[s1 _ _ z y] at e1;cases e1
 let hb:∀ b∈a8.filter (λj=>decide (0<m.ho j)),b∈m.lv:=λb h=>i3 b (yW.mp h).1;let h1:∀ b∈a8.filter (λj=>decide (0<m.ho j)),1<=m.ho b:=λb h=>by
  have:=(yW.mp h).2;exact of_decide_eq_true this
 let r1:(a8.filter (λj=>decide (0<m.ho j))).length<=4:=zL (vJ _ _) m8;generalize a8.filter (λj=>decide (0<m.ho j))=bs at a5 hb h1 r1;clear n5 hq s1 s2 W1 m3;let S3:=l.sx O e5 x3;let⟨m7,m9,U3,l3⟩:=S3.sh;let⟨n7,n9⟩:=S3.lw;let OL:=l.off e7;let⟨t6,m5⟩:=W3.some;refine⟨_,Z,_,Z,a.dT,LN,bs,m.ts,m.lv,n7,Z,(n9.lawT l.wf G.len G.up).g,hb,a5,∅,λH4 c4=>⟨_,Z,?_⟩⟩
 let S4:=S3.same c4
 cases l1:over (Zx m.ts bs) with
 | none=>
  refine YJ ?_;exact k H4 a m (λc o e v=>⟨v,λn1=>c4 _ _ (x3 _ _ e n1)⟩) (λ_ _ _ v=>v) S4 (W3.same c4) O Z ∅ ∅
 | some Lb=>
  refine Zp ?_;let⟨s9,t4,R4⟩:=S4.shp;let⟨o3,o8⟩:=R4.sh.self;exists _,Z,a.S,o3,_,Z,o8,Z,_,Z,LN,_,Z,.inl (ZG.of (c4 _ _ a5));intro hd r5;let⟨H5,eU,g5,p2⟩:=Wc r5 (.lst (iN bs));rw[eU];let N:=c4.trans g5;let S5:=S3.same N;let R5:=U3.sh.same N;let o5:(bs.map λb:Nat=>(b:Int)).map V.int=iN bs:=by rw[yZ];rfl
  let p1:bs.find? (λb=>decide (m.ho b=0))=none:=vN.mpr λb e0=>by
   have:=h1 b e0;simp
   lia
  let⟨_,p5,_,_,_,_,_⟩:=MG l.wf (λb h=>l.lt (hb b h)) l1;refine⟨a.S,a.d,a.lk,hd,m.ts,m.lv,m.av,m.ho,a.as,m7,m9,bs.map (λb:Nat=>(b:Int)),Z,R5,l.wf,∅,l9,by rw[o5];exact p2,by rw[zX];lia,λx hx=>?_,λo2 o4 e0=>?_⟩
  ·exfalso
   let y1:=sB hx;let y2:=tE hx;let⟨b,e0,rfl⟩:=zE.mp y1;have:=hb b e0;unfold Yf at y2;simp at y2;exact y2 this
  obtain rfl:bs=o2:=by
   have:=congrArg (List.map vT) o4;simpa [yZ,Function.comp_def] using this
  exists λz=>by(rw[l1] at z;cases z),λ_ b z=>by(rw[p1] at z;cases z)
  intro _ _ H6 a9 nx e8 c3 c8 R6;let a1:=S5.lo (H':=H6) λc o n1 n2 n3 n4 e=>c8 c o n1 n2 n4 e;let⟨⟨s6,o9⟩,p3,s8⟩:=id R5.sh;let n0:∀(c:aj)(xs:jf),H5 c=some (.lst xs)->(∀ i:Nat,i∈m.lv->c≠a.ab i)->H6 c=some (.lst xs):=λc xs e n4=>c8 _ _ (ZI e o9) (ZI e p3) (λi r=>by
   let⟨dx,hx⟩:=(R5.tw i r).tw.self;exact⟨ZI e hx,n4 i r⟩) e
  let m1:=N _ _ a5;let m2:=n0 _ _ m1 λi r=>(OL.tw i r).1.symm;let T:=a1.told;refine⟨_,Z,_,_,_,_,Z,.int _,Oe,_,Z,Zp ?_⟩;refine⟨_,Z,_,_,_,_,Z,.int _,Nu,_,Z,Zp ?_⟩;refine⟨_,Z,_,Z,a.tl,(zN m.ts.length).map (λi:Nat=>(i:Int)),Z,ZG.of (by rw[eI];exact T),List.ne_nil_of_length_pos (by rw[zX,rS];exact r3),λmx p4 r9=>⟨_,_,Z,Z,_,Z,?_⟩⟩
  let r4:¬ ((m.ts.length:Int)<=mx):=by
   let⟨i,r,rfl⟩:=zE.mp p4;have:=xG.mp r;show ¬ ((m.ts.length:Int)<=((i:Nat):Int))
   lia
  rw[aI r4];refine Zp ?_;exists _,Z,.inl ⟨Z,_,ZG.of T⟩,_,Z,a.tl,_,.int (m.ts.length:Nat),Z,Z,T,YL (by simp[iN];lia)
  let n6:∀ i:Nat,i∈m.lv++[m.ts.length]->((a.as++[a9]).getD i .d).ab≠a.tl/\((a.as++[a9]).getD i .d).th≠a.tl:=λi r=>by
   by_cases z:i=m.ts.length
   ·subst z;let⟨e1,e2,_,_⟩:=PD (new:=a9) (D:=LN) l;exact⟨λy=>(Za S5.told c3) (by rw[<-e1];exact y.symm),λy=>(Za S5.told e8) (by rw[<-e2];exact y.symm)⟩
   ·let⟨e1,e2,_,_⟩:=Q7 (new:=a9) (D:=LN) l (i:=i) (VT r z);let t2:=l.t2 i (VT r z);exact⟨λy=>t2.1 (by rw[<-e1];exact y.symm),λy=>t2.2.1 (by rw[<-e2];exact y.symm)⟩
  let R8:=IZ (o':=.lst (iN (zN m.ts.length)++[.int (m.ts.length:Nat)])) R6 T l.tt.1.symm n6;let e6:∀ c o,c≠a.tl->H6 c=some o->upd H6 a.tl (.lst (iN (zN m.ts.length)++[.int (m.ts.length:Nat)])) c=some o:=λc o n e=>by rw[ZM n];exact e
  let l5:upd H6 a.tl (.lst (iN (zN m.ts.length)++[.int (m.ts.length:Nat)])) a.tl=some (.lst (iN (zN (m.ts.length+1)))):=by rw[ZP,Ih]
  generalize upd H6 a.tl (.lst (iN (zN m.ts.length)++[.int (m.ts.length:Nat)]))=H8 at R8 e6 l5⊢;let⟨m6,e4,o7⟩:=a1.hd;let⟨J,a2⟩:=a1.lw;let⟨o6,G6⟩:=a1.gr;let M:=e6 _ _ (ZI e4 a1.told) e4;let e9:LN≠a.tl:=OL.tl.symm;let i7:=e6 _ _ e9 m2;refine⟨_,Z,LN,Z,⟨_,ZG.of i7⟩,UT (K:=K) (a:=LN) (xs:=iN bs) (λi σ H'=>∃(x9:jg)(B:List (ZR×V)),σ=[some (.ref p),some (.ref st),some (.ref a.S),some (.ref a.dT),some (.ref a.dH),some (.ref a.gl),some (.ref a.tl),some (.ref LN),some (.int (m.ts.length:Nat)),x9]/\(∀ c o,c≠a.dH->H8 c=some o->H' c=some o)/\H' a.dH=some (.dK B)/\WT B m.lv (Y2 (bs.take i) m.ho))
   ⟨_,m6,Z,λc o _ e=>e,M,(by
    let e2:Y2 [] m.ho=m.ho:=funext λi=>aK (by simp)
    rw[show bs.take 0=[] from rfl,e2];exact o7)⟩ (λi σ H' _ hP=>?_) ?_ ?_⟩
  ·let⟨_,_,_,k',_⟩:=hP;exact ZG.of (k' _ _ (ZI i7 M) i7)
  ·rintro i u σ H9 l2 ⟨x9,B,rfl,C,c7,a3⟩;unfold iN at l2;rw[zS] at l2;let⟨b,i8,rfl⟩:=yO.mp l2;let mb:=zG i8;let bl:=hb b mb;let m4:b∉bs.take i:=λz=>by
    let hs:bs=bs.take i++b::bs.drop (i+1):=by
     let⟨r,e⟩:=yN.mp i8;rw[<-e,<-xI r,wB]
    let i4:=p5;rw[hs,vQ] at i4;exact i4.2.2 b z b (by simp) Z
   let m0:Y2 (bs.take i) m.ho b=m.ho b:=aK m4;let hg:Zg H9 a.dH (.int (b:Nat)) (some (.int (m.ho b:Nat))):=by
    have:=a3.2 b bl;rw[m0] at this;exact this ▸ Zg.k (k:=Sum.inl (b:Int)) c7
   let r2:B.length=m.lv.length:=by have:=congrArg yD a3.1;simpa using this
   exists _,Z,_,Z,a.dH,.int (m.ho b:Nat),Z,hg,_,_,Z,Z,_,Z,_,Z,a.dH,_,Z,Yr.k (k:=Sum.inl (b:Int)) c7 (YL ∅)
   let e1:((m.ho b:Nat):Int)-1=((Y2 (bs.take i) m.ho b-1:Nat):Int):=by
    rw[m0];have:=h1 b mb
    lia
   exists _,_,Z,λc o n e=>by rw[ZM n];exact C _ _ n e,ZP
   let et:bs.take (i+1)=bs.take i++[b]:=by rw[yP,i8];rfl
   rw[et,<-Hb m4];show WT (Zq B (.inl (b:Int)) (.int (((m.ho b:Nat):Int)-1))) _ _;rw[e1];exact Fm a3 bl
  ·rintro σ H9 ⟨x9,B,rfl,C,c7,a3⟩;rw[show (iN bs).length=bs.length by simp[iN],yM (zY _)] at a3
   let R9:=R8.frame (H':=H9) (λc ys e=>C _ _ (ZI e M) e) (λo e=>C _ _ (by let⟨⟨s7,p0⟩,_,_⟩:=R8.sh;exact ZI p0 M) e) (λo e=>C _ _ l.dd.2.1.symm e) (λo e=>C _ _ (ZI R8.sh.looks M) e) λi r=>by
    let⟨dx,hx⟩:=(R8.tw i r).tw.self;let⟨us,ht,_⟩:=(R8.tw i r).things;exact⟨λo e=>C _ _ (ZI hx M) e,λo e=>C _ _ (ZI ht M) e,λo e=>C _ _ (ZI (R8.tw i r).tw.above M) e⟩
   exists _,Z,YX;intro t nt;let⟨c0,eU,c9,l4⟩:=Wc nt (.tup [.str "stem",.ref LN]);rw[eU];let o0:=R9.same c9;let i5:∀ c o,c≠a.tl->c≠a.dH->H6 c=some o->c0 c=some o:=λc o n2 n3 e=>c9 _ _ (C _ _ n3 (e6 _ _ n2 e));let a4:=i5 _ _ (ZI a2.dict a1.told) l.dd.2.2 a2.dict;let c1:=c9 _ _ c7;let c5:=c9 _ _ (C _ _ (ZI l5 M) l5);let t5:J.length=m.lv.length:=by have:=congrArg yD a2.keys;simpa using this
   let r2:B.length=m.lv.length:=by have:=congrArg yD a3.1;simpa using this
   exists _,Z,_,Z,a.dT,_,Z,Yr.k (k:=Sum.inl (m.ts.length:Int)) a4 (YL ∅)
   let l7:=ON (o':=.dK (Zq J (.inl (m.ts.length:Int)) (.ref t))) o0 a4 l.dd.1.symm;let Y:∀ c o,c≠a.dT->c0 c=some o->upd c0 a.dT (.dK (Zq J (.inl (m.ts.length:Int)) (.ref t))) c=some o:=λc o n e=>by rw[ZM n];exact e
   let i2:upd c0 a.dT (.dK (Zq J (.inl (m.ts.length:Int)) (.ref t))) a.dT=some (.dK (Zq J (.inl (m.ts.length:Int)) (.ref t))):=ZP;generalize upd c0 a.dT (.dK (Zq J (.inl (m.ts.length:Int)) (.ref t)))=c6 at l7 Y i2⊢;let i0:=Y _ _ l.dd.2.2.symm c1;exists _,Z,_,Z,a.dH,_,Z,Yr.k (k:=Sum.inl (m.ts.length:Int)) i0 (YL ∅)
   let l8:=ON (o':=.dK (Zq B (.inl (m.ts.length:Int)) (.int 1))) l7 i0 l.dd.2.1.symm;let a0:∀ c o,c≠a.dH->c6 c=some o->upd c6 a.dH (.dK (Zq B (.inl (m.ts.length:Int)) (.int 1))) c=some o:=λc o n e=>by rw[ZM n];exact e
   let i1:upd c6 a.dH (.dK (Zq B (.inl (m.ts.length:Int)) (.int 1))) a.dH=some (.dK (Zq B (.inl (m.ts.length:Int)) (.int 1))):=ZP;generalize upd c6 a.dH (.dK (Zq B (.inl (m.ts.length:Int)) (.int 1)))=a7 at l8 a0 i1⊢;let a6:∀ c o,c≠a.tl->c≠a.dH->c≠a.dT->H6 c=some o->a7 c=some o:=λc o n2 n3 n4 e=>a0 _ _ n3 (Y _ _ n4 (i5 _ _ n2 n3 e));let i6:YC H6 a7:=λc ys e=>a6 _ _ (ZI e a1.told) (ZI e e4) (ZI e a2.dict) e;let c2:∀ c xs,c≠a.tl->H6 c=some (.lst xs)->a7 c=some (.lst xs):=λc xs n2 e=>a6 _ _ n2 (ZI e e4) (ZI e a2.dict) e;let I:∀ c,H5 c=none->H c=none:=λc e=>by
    cases z:H c with
    | none=>rfl
    | some o=>
     by_cases y:c=p
     ·subst y;let⟨xs,e'⟩:=W3.some;rw[N _ _ e'] at e;cases e
     ·rw[N _ _ (x3 _ _ z y)] at e;cases e
   let ek:kindOf (YQ m.ts bs) = "stem" :=aK (by show (gd m.ts (bs.getD 0 0)).h+1≠0;lia)
   let n8:LN≠a9.ab:=Za m1 c3;let nn':m.ts.length∉bs:=λz=>by have:=l.lt (hb _ z);lia
   let l6:LS gt jZ kd a7 (a.push a9 LN) ⟨m.ts++[YQ m.ts bs],m.lv++[m.ts.length],Wt bs m.ts.length (WR m.ts.length m.av),Y2 bs (Xb m.ts.length m.ho)⟩:=by
    refine FA l (I _ e8) (I _ c3) e7 n8 ⟨_,m9,Aw U3 ∅ hb l1 h1 l8,l3⟩ ⟨_,Gr (tp:=t) (us:=iN bs) a2 hb i6 (λi r o e=>?_) ?_ ?_ ?_ (λz=>absurd z (by show (gd m.ts (bs.getD 0 0)).h+1≠0;lia)) (λ_=>rfl)⟩ ⟨_,i1,by rw[<-AE nn'];exact Fi (λi r=>l.lt r) a3⟩ ⟨o6,G6.frame i6 (c2 _ _ l.tt.2.1.symm G6.at_)⟩ ?_ ∅ ∅
    ·let⟨tp,r8,_,_,e',_⟩:=a2.tw i r;have:o=.lst r8:=by have:=e.symm.trans e';exact zB.inj this
     subst this;exact c2 _ _ (l.t3 i r).1 e
    ·exact a0 _ _ l.dd.2.2 i2
    ·rw[ek];exact a0 _ _ (ZI l4 c1) (Y _ _ (ZI l4 a4) l4)
    ·exact c2 _ _ e9 m2
    ·exact a0 _ _ (ZI c5 c1) (Y _ _ (ZI c5 a4) c5)
   let vp:=O.av l e5;let o1:ZJ a7 p:=NK W3 λo e=>a6 _ _ vp.2.2.2.2.2.1 vp.2.2.2.2.1 vp.2.2.2.1 (c8 _ _ vp.1 vp.2.1 vp.2.2.2.2.2.2 (N _ _ e));refine k a7 _ _ (λc o e v=>?_) (λc o e v=>v.push l (Za e (I _ e8)) (Za e e7)) l6 o1 (O.push l (Za (N _ _ m5) e8).symm (Za (N _ _ m5) c3).symm (Za e5 e7).symm) Z (by simp) (by simp)
   let⟨v1,v2,v3,v4,v5,v6,v7⟩:=id v;exists v.push l (Za e (I _ nx)) (Za e (I _ c3));intro cp;let e3:=x3 _ _ e cp;exact a6 _ _ v6 v5 v4 (c8 _ _ v1 v2 v7 (N _ _ e3))
structure Dg(ts:jq)(lv:jo)(av:Nat->jo)(ho:Nat->Nat)(pd:List (Nat×Nat))(ex:Nat->Prop):Prop where
 vl:Lv ts lv
 srt:∀ b∈lv,(av b).Nodup
 mem:∀ b∈lv,∀ j,j∈av b ↔ j<ts.length/\b∈(gd ts j).bs/\(j∈lv\/(b,j)∈pd)
 pl:∀ x∈pd,x.1∈lv/\x.1∈(gd ts x.2).bs/\x.2∉lv/\x.2<ts.length
 live:∀ b∈lv,¬ ex b->1<=(av b).length+ho b
def Pp{l:jo}(h:l.Pairwise (· < ·)):l.Nodup:=h.imp λh=>zK h
def M9{l:jo}(h:l.Pairwise (· < ·)){a b:Nat}:a∈l.erase b ↔ a≠b/\a∈l:=(Pp h).mem_erase_iff
section
variable{ts:jq}{lv:jo}{av:Nat->jo}{ho:Nat->Nat}{pd:List (Nat×Nat)}{ex:Nat->Prop}{i b:Nat}{r:jo}
def Dg.start(h:Dg ts lv av ho pd (· = i))(o:i∈lv)(e:av i=[])(s:∀ b∈(gd ts i).bs,b≠i):Dg ts (lv.erase i) av ho ((gd ts i).bs.map (λb=>(b,i))++pd) λ_=>False:=by
 let d:∀{a:Nat},a∈lv.erase i ↔ a≠i/\a∈lv:=M9 h.vl.up;let B:∀ j∈lv,i∉(gd ts j).bs:=λj m z=>by
  have:=(h.mem i o j).mpr ⟨h.vl.lt j m,z,.inl m⟩;rw[e] at this;cases this
 let q:=h.vl.lt i o;refine⟨⟨λj m=>h.vl.lt j (d.mp m).2,λj m b f=>?_,h.vl.up.sublist uD⟩,λb f=>h.srt b (d.mp f).2,λb f j=>?_,λx A=>?_,λb f _=>h.live b (d.mp f).2 (d.mp f).1⟩
 ·let n:=(d.mp m).2;exact d.mpr ⟨λz=>B j n (z ▸ f),h.vl.cl j n b f⟩
 ·rw[h.mem b (d.mp f).2 j];constructor
  ·rintro⟨k,g,l | l⟩
   ·by_cases z:j=i
    ·subst z;exact⟨k,g,.inr (yC _ (zE.mpr ⟨b,g,rfl⟩))⟩
    ·exact⟨k,g,.inl (d.mpr ⟨z,l⟩)⟩
   ·exact⟨k,g,.inr (yI _ l)⟩
  ·rintro⟨k,g,l | l⟩
   ·exact⟨k,g,.inl (d.mp l).2⟩
   ·rcases zJ.mp l with z | z
    ·let⟨c,_,w⟩:=zE.mp z;cases w;exact⟨k,g,.inl o⟩
    ·exact⟨k,g,.inr z⟩
 ·rcases zJ.mp A with z | z
  ·let⟨c,p,rfl⟩:=zE.mp z;have:=s c p;exact⟨d.mpr ⟨this,h.vl.cl i o c p⟩,p,λy=>(d.mp y).1 Z,q⟩
  ·let⟨t,u,C,v⟩:=h.pl x z;refine⟨d.mpr ⟨λy=>?_,t⟩,u,λy=>C (d.mp y).2,v⟩;have:=(h.mem x.1 t x.2).mpr ⟨v,u,.inr z⟩;rw[y,e] at this;cases this
def NC(av:Nat->jo)(b i:Nat):Nat->jo:=λc=>if c=b then (av c).erase i else av c
def Dg.cut(h:Dg ts lv av ho ((b::r).map (λb=>(b,i))++pd) λ_=>False)(v:(b::r).Nodup)(t:∀ x∈pd,x.2≠i):b∈lv/\i∈av b/\Dg ts lv (NC av b i) ho (r.map (λb=>(b,i))++pd) (· = b):=by
 let g:(b,i)∈(b::r).map (λb=>(b,i))++pd:=yC _ (zE.mpr ⟨b,zT,Z⟩);let⟨m,o,p,q⟩:=h.pl _ g;let Ol:=(xR.mp v).1;let a:∀{c j:Nat},(c,j)≠(b,i)->((c,j)∈(b::r).map (λb=>(b,i))++pd ↔ (c,j)∈r.map (λb=>(b,i))++pd):=fun{c j} n=>by
  rw[yT,uJ,zC];exact⟨λz=>z.resolve_left n,.inr⟩
 let w:(b,i)∉r.map (λb=>(b,i))++pd:=λz=>by
  rcases zJ.mp z with y | y
  ·let⟨c,d,e⟩:=zE.mp y;cases e;exact Ol d
  ·exact t _ y Z
 let s:i∈av b:=(h.mem b m i).mpr ⟨q,o,.inr g⟩;refine⟨m,s,h.vl,λc d=>?_,λc d j=>?_,λx u=>?_,λc d z=>?_⟩
 ·unfold NC;split
  ·exact(h.srt c d).sublist uD
  ·exact h.srt c d
 ·unfold NC;by_cases z:c=b
  ·subst z;rw[aM rfl,(h.srt c d).mem_erase_iff,h.mem c d j];constructor
   ·rintro⟨n,k,l,f | f⟩
    ·exact⟨k,l,.inl f⟩
    ·exact⟨k,l,.inr ((a λy=>n (Prod.mk.inj y).2).mp f)⟩
   ·rintro⟨k,l,f⟩;let n:j≠i:=λy=>by
     subst y;exact f.elim p w
    exact⟨n,k,l,f.imp id λy=>(a λy=>n (Prod.mk.inj y).2).mpr y⟩
  ·rw[aK z,h.mem c d j];let n:(c,j)≠(b,i):=λy=>z (Prod.mk.inj y).1;rw[a n]
 ·exact h.pl x (zJ.mp u |>.elim (λy=>yC _ (by rw[yT];exact zI _ y)) λy=>yI _ y)
 ·rw[show NC av b i c=av c from aK z];exact h.live c d id
def Dg.abv(h:Dg ts lv av ho [] ex)(e:b∈lv):(av b).Perm (abv ts lv b):=by
 let f:(Tw.abv ts lv b).Pairwise (· < ·):=h.vl.up.sublist vK;refine(qW (h.srt b e) (Pp f)).mpr λj=>?_;rw[h.mem b e j];unfold Tw.abv;rw[yW,decide_eq_true_iff];constructor
 ·rintro⟨_,a,c | c⟩
  ·exact⟨c,a⟩
  ·cases c
 ·rintro⟨d,a⟩;exact⟨h.vl.lt j d,a,.inl d⟩
end
def EN{d:jq}:∀{l:jo},(∀ b∈l,(gd d b).rows≠[])->((l.flatMap λb=>(gd d b).rows).map (·.1)).Pairwise (λa b=>a.lt b=true)->l.Nodup
 | [],_,_=>List.nodup_nil
 | b::l,h,hp=>by
  rw[xN,yX,uV] at hp;refine xR.mpr ⟨λz=>?_,EN (λc f=>h c (zI _ f)) hp.2.1⟩;let⟨r,j,e⟩:=List.exists_cons_of_ne_nil (h b zT);let g:r.1∈(gd d b).rows.map (·.1):=by rw[e];simp
  let i:r.1∈(l.flatMap λb=>(gd d b).rows).map (·.1):=zE.mpr ⟨r,wZ.mpr ⟨b,z,by rw[e];simp⟩,Z⟩
  have:=hp.2.2 _ g _ i;rw[NO] at this;cases this
def Mn{gt:jp}{a:jq}(c:WF gt a){i:Nat}(l:i<a.length)(f:(gd a i).h≠0):(gd a i).bs.Nodup:=by
 let d:=c i _ (Ym l);let⟨_,_,g,j⟩:=d.stem f;let e:=d.up;rw[j] at e;exact EN (λb k=>(c b _ (Ym (g b k).1)).ne) e
def Ke{gt:jp}{c:jq}(e:WF gt c):∀(n i:Nat),(gd c i).h<n->i<c.length->(gd c i).h<(gd c i).rows.length
 | 0,i,h,_=>absurd h (tF _)
 | n+1,i,h,j=>by
  let k:=e i _ (Ym j);by_cases f:(gd c i).h=0
  ·rw[f];exact wC.mpr k.ne
  let⟨g,u,d,m⟩:=k.stem f;let q:=Mn e j f;rw[m];generalize (gd c i).bs=l at g d q
  match l,g,d with
  | a::b::r,_,d=>
   let o:=d a zT;let p:=d b (zI _ zT);let s:=Ke e n a ∅ o.1
   let t:=Ke e n b ∅ p.1
   rw[xN,xN,zH,zH]
   lia
inductive VE(ts:jq)(A:Nat->Prop):Nat->Prop
 | held {i:Nat}:A i->VE ts A i
 | step {i b:Nat}:VE ts A i->b∈(gd ts i).bs->VE ts A b
def VE.sub{c:jq}{A:Nat->Prop}{b:jo}(e:Lv c b)(h:∀ i,A i->i∈b){i:Nat}(r:VE c A i):i∈b:=by
 induction r with
 | held a=>exact h _ a
 | step _ d f=>exact e.cl _ f _ d
def VE.all{a:jq}{d:jo}{l:Nat->Nat}(g:∀ j∈d,∀ b∈(gd a j).bs,(gd a b).h<(gd a j).h)(m:Lv a d)(c:∀ i,i∈d->1<=(abv a d i).length+l i):∀(n i:Nat),Wz a (gd a i).h<n->i∈d->VE a (λj=>j∈d/\0<l j) i
 | 0,i,h,k=>absurd h (tF _)
 | n+1,i,h,k=>by
  by_cases o:0<l i
  ·exact .held ⟨k,o⟩
  ·cases e:abv a d i with
   | nil=>
    have:=c i k;rw[e] at this;exact absurd this (by simp;lia)
   | cons j r=>
    let f:j∈abv a d i:=by rw[e];exact zT
    unfold abv at f;rw[yW,decide_eq_true_iff] at f;have:=Nx (m.lt j f.1) (g j f.1 i f.2);exact .step (VE.all g m c n j ∅ f.1) f.2
end Tw
namespace L2
open PySem PySem.Spec PyProof.Rows
def DX{a:jA}{b:je}(h:ZT (a.map V.int) b):PySem.W.kf_ints b=true/\∀(i:Nat)(n:Int),a[i]? = some n->∃ t,b[i]? = some (.int n t):=by
 refine⟨?_,λi n e=>?_⟩
 ·induction a generalizing b with
  | nil=>cases h;rfl
  | cons n a d=>
   cases h with
   | cons r t=>
    let⟨f,rfl⟩:=r;rw[PySem.W.kf_ints];exact d t
 ·let⟨u,c,t,rfl⟩:=h.get (x:=.int n) (i:=i) (by rw[zS,e];rfl)
  exact⟨t,c⟩
inductive Qm(x:V)(c:jf)(H:Hp)(Q:VK):Prop
 |mk(l:aj)(a:jA)(b:Int)(_:x=.ref l)(_:c=[.int b])(_:H l=some (.lst (a.map V.int)))(_:b∈a)(_:Q .non (upd H l (.lst ((a.erase b).map V.int))))
def Fs:NY X "list.remove" Qm:=by
 intro D s Y H x V v U Q I R P h;let⟨l,d,b,rfl,rfl,C,J,q⟩:=h;cases R;let⟨u,rfl,O⟩:=P.one;let⟨S,rfl⟩:=O;let⟨z,c,n,r,T,e⟩:=I.lstM C;let⟨N,o⟩:=DX r;let B:=List.idxOf_lt_length_of_mem J;let g:c.length=d.length:=by have:=r.length;rw[zX] at this;exact this.symm
 let IH:∀(m:Nat)(j:m<c.toArray.size)(k:Int),d[m]? = some k->isInt b c.toArray[m]=decide (k=b):=λm j k K=>by
  let⟨t,G⟩:=o m k K;have:c.toArray[m]? = some (Value.int k t):=by simpa using G
  rw[qX j] at this;rw[zB.inj this];show (k==b)=_;rw[xD];simp
 let f:d.idxOf b<c.toArray.size:=by rw[zQ,g];exact B
 let M:c.toArray.size<=sizeLine:=by
  rw[zQ,g];have:=z;rw[zX] at this;exact this
 refine call_meets F.slot_list_remove ⟨_,e,Z⟩ F.entry_list_remove (F.args_list_remove_2 _ _) (MeetsSeq.list_remove l c.toArray n (.int b S) (isInt b) (λy L=>PySem.W.kf_eq N y (by simpa using L)) (d.idxOf b) f ?_ (λm j w=>?_) M) ⟨e,?_⟩
 ·rw[IH _ f b (by rw[zW B,List.getElem_idxOf B])]
  exact aJ Z
 ·let A:m<d.length:=∅
  rw[IH m j d[m] (zW A)];have:=List.not_of_lt_findIdx (p:=(· == b)) (xs:=d) (i:=m) w;exact aI λz=>by rw[z] at this;simp at this
 ·let E:d.erase b=d.take (d.idxOf b)++d.drop (d.idxOf b+1):=by rw[List.erase_eq_eraseIdx_of_idxOf rfl,pZ]
  refine⟨.non,_,I.lset (its':=c.take (d.idxOf b)++c.drop (d.idxOf b+1)) C e ?_ ?_ ?_,Z,q⟩
  ·apply sN.mp;rw[Array.toList_eraseIdxIfInBounds,pZ]
  ·rw[E,yX,List.map_take,List.map_drop];exact(r.take _).append (r.drop _)
  ·rw[zX];have:=List.length_erase_le (l:=d) (a:=b);rw[zX] at z
   lia
end L2
namespace Tw
open PySem PySem.Spec L2 PyProof.Rows
variable{jZ kd CS CT CH CK CP CB:aj}
abbrev LU:Stmt:=XE (top 35) 4
abbrev LQ:Stmt:=XE (top 35) 5
abbrev MK:Stmt:=XE (top 35) 6
structure Zk(K:zZ)(C:aj)(m q:Str)(st:aB)(ps:jr):Prop where
 ex:∃ f fd,Vl K C m f/\Zn K m q st f fd/\Z7 K fd ps []
def Zk.of{P:al}{w:ar}{K:zZ}{g:jb}{a:aC}{e:Wn}{C:aj}{m q:Str}{j:aB}{d:jr}{k:Nat}{i:Sp}(L:Zk K C m q j d)(h:∀ f c,Zn K m q j f c->ZN P w K g a e k f c d i):ZA P w K g a e k C m d i:=by
 let⟨f,c,M,F,b⟩:=L.ex;exact⟨f,c,M,h f c F,b⟩
def Kj{a:List (ZR×V)}{b:jo}{i:Nat}(d:b.Nodup)(h:a.map (·.1)=b.map (λi:Nat=>(Sum.inl (i:Int):ZR))):(WS a (.inl (i:Int))).map (·.1)=(b.erase i).map (λi:Nat=>(Sum.inl (i:Int):ZR)):=by
 let c:(WS a (.inl (i:Int))).map (·.1)=(a.map (·.1)).filter λk=>decide (k≠.inl (i:Int)):=by
  unfold WS;rw[List.filter_map];rfl
 rw[c,h,List.filter_map,d.erase_eq_filter]
 congr 1
 refine vR λj _=>?_;show decide ((Sum.inl (j:Int):ZR)≠Sum.inl (i:Int))=(j != i);rw[xD];simp
 lia
def ZOi(l:jo)(i:Nat):(l.map λn:Nat=>(n:Int)).erase (i:Int)=(l.erase i).map λn:Nat=>(n:Int):=by
 induction l with
 | nil=>rfl
 | cons a l b=>
  rw[yT,List.erase_cons,List.erase_cons];by_cases z:a=i
  ·rw[aM (by rw[z];exact beq_self_eq_true _),aM (by rw[z];exact beq_self_eq_true _)]
  ·let c:¬ ((a:Int)==(i:Int))=true:=λy=>z (by have:=eq_of_beq y;lia)
   rw[aK c,aK (λy=>z (eq_of_beq y)),b];rfl
def Kr{a:List (ZR×V)}{k j:ZR}(h:j≠k):Z5 (WS a k) j=Z5 a j:=by
 induction a with
 | nil=>rfl
 | cons p r b=>
  by_cases z:p.1=k
  ·rw[ZIi z,b,UK (by rw[z];exact Ne.symm h)]
  ·rw[Dt z];by_cases y:p.1=j
   ·rw[UI y,UI y]
   ·rw[UK y,UK y,b]
section
variable{jZ kd:aj}{H H':Hp}{S d lk:aj}{ts:jq}{lv:jo}{av:Nat->jo}{ho:Nat->Nat}{as:ju}{kvs:List (ZR×V)}{ls:jf}{b i:Nat}
def YD.gone(R:YD jZ kd H S d lk ts lv av ho as kvs ls)(r:lv.Pairwise (· < ·)):YD jZ kd (upd H d (.dK (WS kvs (.inl (i:Int))))) S d lk ts (lv.erase i) av ho as (WS kvs (.inl (i:Int))) ls:=by
 let⟨⟨s,q⟩,h,p⟩:=R.sh;let g:∀{a:Nat},a∈lv.erase i ↔ a≠i/\a∈lv:=M9 r;let k:∀ c o,c≠d->H c=some o->upd H d (.dK (WS kvs (.inl (i:Int)))) c=some o:=λc o n e=>by rw[ZM n];exact e
 let m:YC H (upd H d (.dK (WS kvs (.inl (i:Int))))):=λc x e=>k c _ (ZI e h) e;refine⟨⟨⟨s,k _ _ (ZI q h) q⟩,ZP,k _ _ (ZI p h) p⟩,Kj (Pp r) R.keys,λj f=>?_,λj f=>R.lt j (g.mp f).2,R.len,λj f=>?_,λj f=>R.own j (g.mp f).2,λj l f p=>R.two j l (g.mp f).2 (g.mp p).2⟩
 ·rw[Kr (λz=>(g.mp f).1 (Ya.mp z))];exact R.val j (g.mp f).2
 ·let W:=R.tw j (g.mp f).2;let⟨v,u⟩:=W.tw.self;let⟨w,t,_⟩:=W.things;exact W.frame m (λo e=>k _ _ (ZI u h) e) (λo e=>k _ _ (ZI t h) e) (λo e=>k _ _ (ZI W.tw.above h) e)
def YD.set1(R:YD jZ kd H S d lk ts lv av ho as kvs ls)(g:b∈lv){av':Nat->jo}{ho':Nat->Nat}(A:∀ c,c≠b->av' c=av c)(B:∀ c,c≠b->ho' c=ho c)(E:∃ t,H' (as.getD b .d).x=some (.ins kd t (Xp (.ref (as.getD b .d).th) (.ref (as.getD b .d).tg) (as.getD b .d).ab (ho' b))))(D:H' (as.getD b .d).ab=some (.lst (iN (av' b))))(k:∀ c o,c≠(as.getD b .d).x->c≠(as.getD b .d).ab->H c=some o->H' c=some o):YD jZ kd H' S d lk ts lv av' ho' as kvs ls:=by
 let⟨⟨s,q⟩,l,r⟩:=R.sh;let h:=R.tw b g;let⟨u,a⟩:=h.tw.self;let f:=h.tw.above;let⟨K,p,w,y⟩:=h.things;let m:YC H H':=λc T e=>k c _ (ZI e a) (ZI e f) e;refine⟨⟨⟨s,k _ _ (R.own b g).1.symm (ZI q f) q⟩,k _ _ (ZI l a) (ZI l f) l,k _ _ (ZI r a) (R.own b g).2.1.symm r⟩,R.keys,R.val,R.lt,R.len,λi j=>?_,R.own,R.two⟩;by_cases z:i=b
 ·subst z;exact⟨⟨E,D⟩,⟨K,k _ _ (ZI p a) (R.own i j).2.2.2.symm p,λz=>(w z).mono m _ _,y⟩,h.tag.mono m⟩
 ·let Wi:=R.tw i j;let⟨I,J,O,P⟩:=R.two i b j g z;let⟨L,M,F,N⟩:=R.two b i g j (Ne.symm z);let⟨v,n⟩:=Wi.tw.self;let⟨Q,C,_⟩:=Wi.things;let G:=Wi.frame m (λo e=>k _ _ I (ZI n f) e) (λo e=>k _ _ (ZI C a) F.symm e) (λo e=>k _ _ (ZI Wi.tw.above a) J e);refine⟨?_,G.things,G.tag⟩;rw[A i z,B i z];exact G.tw
end
def P6(a:Nat->Nat)(b:Nat):Nat->Nat:=λi=>if i=b then a i+1 else a i
inductive V6(jZ kd:aj)(n:jf)(H:Hp)(Q:VK)(_:XK):Prop
 |mk(S d k:aj)(m:jq)(h:jo)(i:Nat->jo)(j:Nat->Nat)(g:ju)(a:List (ZR×V))(l:jf)(b:Nat)(_:n=[.ref S,.int (b:Nat)])(_:YD jZ kd H S d k m h i j g a l)(_:b∈h)(_:∀ e:Hp,(∀ c o,c≠(g.getD b .d).x->H c=some o->e c=some o)->YD jZ kd e S d k m h i (P6 j b) g a l->Q .non e)
def Um:ZB zE7 zEa (Zf LU):=Z4
def De(F:Zn K "hold" "Shelf.hold" LU f fd)(L:Yd K mg jZ kd)(u:ZA P w K mg kf ZY 1 jZ "twig_of" zEa (Ze jZ)):ZN P w K mg kf ZY 2 f fd zEa (V6 jZ kd):=by
 refine F.ko Um λy A q s H T Q E C h=>?_;let⟨S,d,D,M,O,v,i,g,p,G,b,rfl,R,l,k⟩:=h;let J:=Um.nd;intro N;refine⟨_,ZQ (Zs 2 J (YS (E:=E0) (pv 0) L.cS u C YY (ZV (pv 1))))
  (ZW (MN (pv 2) ZO Fj)),?_⟩
 let⟨z,B⟩:=R.sh.self;let t:=R.tw b l;let⟨j,m⟩:=t.tw.self;let a:=t.tw.above;exists _,Z,S,z,_,Z,B,Z,_,Z,S,d,D,M.length,p,G,(b:Int),.ref (g.getD b .d).x,Z,R.sh,R.val b l;exists _,Z,(g.getD b .d).x,kd,j,_,.int (i b:Nat),Z,m,L.cT,L.nho,Z,_,_,Z,Z,j,_,m,yU Z;let r:(g.getD b .d).ab≠(g.getD b .d).x:=ZI a m;refine k _ (λc o n e=>by rw[ZM n];exact e) (R.set1 l (av':=v) (ho':=P6 i b) (λ_ _=>rfl) (λc n=>aK n) ⟨j,?_⟩ ?_ λc o I _ e=>by rw[ZM I];exact e)
 ·rw[ZP,show P6 i b b=i b+1 from aM rfl];rfl
 ·rw[ZM r];exact a
inductive WE(gt:jp)(n:Nat)(jZ kd:aj)(v:jf)(H:Hp)(Q:VK)(_:XK):Prop
 |mk(S d s:aj)(g:jq)(e:jo)(r:Nat->jo)(k:Nat->Nat)(p:ju)(q:List (ZR×V))(t:jf)(u:List (Nat×Nat))(i:Nat)(_:v=[.ref S,.int (i:Nat)])(_:YD jZ kd H S d s g e r k p q t)(_:WF gt g)(_:Dg g e r k u (· = i))(_:i∈e)(_:(gd g i).h<=n)(_:∀(m:Hp)(a:jo)(j:Nat->jo)(l:List (ZR×V)),(∀ c o,c≠d->(∀ b:Nat,b∈e->c≠(p.getD b .d).ab)->H c=some o->m c=some o)->YD jZ kd m S d s g a j k p l t->Dg g a j k u (λ_=>False)->a.Sublist e->(∀ b∈e,0<k b->b∈a)->Q .non m)
def Uw:ZB ["self","number","twig","branch"] zEa (Zf MK):=Z4
def AF{gt:jp}{n:Nat}(F:Zn K "drop_unheld" "Shelf.drop_unheld" MK f fd)(L:Yd K mg jZ kd)(DH:ZA P w K mg kf ZY 2 jZ "holders" zEa (XG jZ kd λ_ v us=>.int ((us.length:Nat)+(v:Nat):Int)))(DT:ZA P w K mg kf ZY 1 jZ "twig_of" zEa (Ze jZ))(DS:ZD P w K mg kf 1 "is_stem" zE8 (XA kd))(DR:ZA P w K mg kf ZY (n+3) jZ "drop_unheld" zEa (λvs H Q E=>∃ m,m<n/\WE gt m jZ kd vs H Q E)):ZN P w K mg kf ZY (n+4) f fd zEa (WE gt n jZ kd):=by
 refine F.ko Uw λi1 A e5 s H vs Q E hr h=>?_;let⟨S,d,lk,r,M,U,v,l,B,ls,pd,i,rfl,R,hw,G,O,hn,k⟩:=h;let nd:=Uw.nd;let a5:=hr.mono (show 1<=n+3 by lia)
 let e0:=hr.mono (show 2<=n+3 by lia)
 intro Xc;refine⟨_,ZQ (Z1 (YI Vr (YS (E:=E0) (pv 0) L.cS DH e0 YY (ZV (pv 1))) ZO (Z0 _)) (ZW Bp) Z6)
  (ZQ (Zs 2 nd (IE (Xg (pv 0) rfl) (pv 1) ⟨rfl,rfl,rfl,rfl⟩))
  (ZW (Z1 (Yg (Zm DS a5 (ZV (pv 2))))
   (ZW (Wu PassesOwn.never rfl (Y9 (Xg (pv 2) rfl)) (YZ 3 nd)
    (ZQ (XF (Vs yF qG qE Fs (Xg (YS (E:=E0) (pv 0) L.cS DT a5 YY (ZV (pv 3))) rfl) (ZV (pv 1))))
    (ZW (XF (YS (E:=E0) (pv 0) L.cS DR hr YY (ZV (pv 3)))))))) Z6))),?_⟩
 let⟨dx,hS⟩:=R.sh.self;let W:=R.tw i O;let⟨dt,hx⟩:=W.tw.self;let lI:(iN (U i)).length=(U i).length:=zX _;exists _,Z,S,dx,_,Z,hS,Z,_,Z,S,d,lk,r.length,B,ls,(i:Int),_,_,_,_,_,_,Z,⟨R.sh,R.val i O,W.tw⟩;exists _,_,Z,Z,_,Z;refine Yz (λc=>?_) (λc=>?_)
 ·let hc:1<=(U i).length+v i:=by
   have:=of_decide_eq_true c;rw[lI] at this
   lia
  refine k H M U B (λc o _ _ e=>e) R ⟨G.vl,G.srt,G.mem,G.pl,λb D _=>?_⟩ (wP.refl _) λb D _=>D;by_cases z:b=i
  ·rw[z];exact hc
  ·exact G.live b D z
 ·let hc:(U i).length+v i=0:=by
   have:¬ ((0:Int)<((iN (U i)).length:Nat)+(v i:Nat)):=λz=>c (aJ z);rw[lI] at this
   lia
  let ea:U i=[]:=wL ∅
  let h0:v i=0:=∅
  let hd:=R.sh.kept;let a4:=R.lt i O;let ok:=hw i _ (Ym a4);exists _,Z,S,jZ,dx,_,.ref d,Z,hS,L.cS,L.nk,Z,d,Z,.inl ⟨B,Rd.of hd⟩,_,Z,B,.inl (i:Int),.ref (l.getD i .d).x,hd,Z,R.val i O;let X:∀ b o,b≠d->H b=some o->upd H d (.dK (WS B (.inl (i:Int)))) b=some o:=λb o n e=>by rw[ZM n];exact e
  let R1:=R.gone (i:=i) G.vl.up;let⟨us,N,i3,e8⟩:=W.things;let⟨q,k0,k1,eq,a8,_,_⟩:=W.tag;cases eq;let c3:∀ b∈(gd r i).bs,b≠i:=λb D=>by
   by_cases z:(gd r i).h=0
   ·rw[(ok.leaf z).1] at D;cases D
   ·intro y;have:=((ok.stem z).2.2.1 b D).2;rw[y] at this
    lia
  let G1:=G.start O ea c3;let pi:∀ x∈pd,x.2≠i:=λx hx z=>(G.pl x hx).2.2.1 (by rw[z];exact O)
  let T:∀ b∈M,0<v b->b∈M.erase i:=λb D hp=>(M9 G.vl.up).mpr ⟨λz=>(by rw[z,h0] at hp;cases hp),D⟩
  generalize upd H d (.dK (WS B (.inl (i:Int))))=H1 at X R1⊢;let a6:=X _ _ (ZI hx hd) hx;let c0:=X _ _ (ZI W.tw.above hd) W.tw.above;let e7:=X _ _ (ZI a8 hd) a8;exists _,Z,(l.getD i .d).x,.ref (l.getD i .d).th,_,(l.getD i .d).ab,v i,_,_,_,Z,⟨⟨dt,a6⟩,c0⟩,e7,_,Z;by_cases hz:(gd r i).h=0
  ·let eb:=(ok.leaf hz).1;rw[eb] at G1;rw[aI (show ¬ (Zu (gd r i)).h > 0 by show ¬ ((gd r i).h:Int) > 0;lia)]
   refine Zp (k H1 _ _ _ (λc o n _ e=>X c o n e) R1 G1 uD T)
  ·rw[aJ (show (Zu (gd r i)).h > 0 by show ((gd r i).h:Int) > 0;lia)]
   let ew:=e8 hz;subst ew;let e3:=Mn hw a4 hz;let⟨b2,b4,bh,_⟩:=ok.stem hz;let e9:=X _ _ (ZI N hd) N;refine YJ ⟨_,Z,(l.getD i .d).x,kd,dt,_,.ref (l.getD i .d).th,Z,a6,L.cT,L.nth,Z,_,Z,⟨_,ZG.of e9⟩,?_⟩;let a9:∀ b:Nat,b∈M->(l.getD i .d).th≠(l.getD b .d).ab:=λb D=>by
    by_cases z:b=i
    ·rw[z];exact(R.own i O).2.2.2.symm
    ·exact(R.two b i D O z).2.2.1.symm
   refine UT (K:=K) (a:=(l.getD i .d).th) (xs:=iN (gd r i).bs) (λj σ J=>∃(x3:jg)(t:jo)(g:Nat->jo)(p:List (ZR×V)),σ=[some (.ref S),some (.int (i:Nat)),some (.ref (l.getD i .d).x),x3]/\(∀ c o,c≠d->(∀ b:Nat,b∈M->c≠(l.getD b .d).ab)->H c=some o->J c=some o)/\YD jZ kd J S d lk r t g v l p ls/\Dg r t g v (((gd r i).bs.drop j).map (λb=>(b,i))++pd) (λ_=>False)/\t.Sublist (M.erase i)/\∀ b∈M,0<v b->b∈t)
    ⟨_,_,_,_,rfl,λc o n _ e=>X c o n e,R1,G1,wP.refl _,T⟩ ?_ ?_ ?_
   ·rintro j σ J _ ⟨x3,t,g,p,rfl,C,_⟩;exact ZG.of (C _ _ (ZI N hd) a9 N)
   ·rintro j u σ J a0 ⟨x3,t,g,p,rfl,C,R2,G2,I,a2⟩;unfold iN at a0;rw[zS] at a0;let⟨b,eb,rfl⟩:=yO.mp a0;let⟨jl,ej⟩:=yN.mp eb;let ed:(gd r i).bs.drop j=b::(gd r i).bs.drop (j+1):=by rw[<-ej];exact xI jl
    rw[ed] at G2;let e4:(b::(gd r i).bs.drop (j+1)).Nodup:=by rw[<-ed];exact e3.sublist (List.drop_sublist _ _)
    let⟨bl,ib,G3⟩:=G2.cut e4 pi;let⟨c4,c7⟩:=R2.sh.self;let Wb:=R2.tw b bl;let⟨db,a1⟩:=Wb.tw.self;let Y:=Wb.tw.above;let eI:iN (g b)=((g b).map λn:Nat=>(n:Int)).map V.int:=by rw[yZ];rfl
    let eE:((g b).map λn:Nat=>(n:Int)).erase (i:Int)=((g b).erase i).map λn:Nat=>(n:Int):=ZOi _ _;exists _,Z,S,c4,_,Z,c7,Z,_,Z,S,d,lk,r.length,p,ls,(b:Int),.ref (l.getD b .d).x,Z,R2.sh,R2.val b bl,(l.getD b .d).x,kd,db,_,.ref (l.getD b .d).ab,Z,a1,L.cT,L.nab,Z,.inl ⟨Z,_,ZG.of Y⟩,_,Z,(l.getD b .d).ab,(g b).map (λn:Nat=>(n:Int)),(i:Int),Z,Z,by rw[<-eI];exact Y,zE.mpr ⟨i,ib,Z⟩
    rw[eE];let i0:(l.getD b .d).x≠(l.getD b .d).ab:=ZI a1 Y;let R3:=R2.set1 (H':=upd J (l.getD b .d).ab (.lst ((((g b).erase i).map λn:Nat=>(n:Int)).map V.int))) bl (av':=NC g b i) (ho':=v) (λc n=>aK n) (λ_ _=>rfl) ⟨db,by rw[ZM i0];exact a1⟩ (by rw[ZP,show NC g b i b=(g b).erase i from aM rfl,yZ];rfl) λc o _ n2 e=>by rw[ZM n2];exact e
    let c2:b∈M:=qA (I.subset bl);let a3:∀ c o,c≠d->(∀ b:Nat,b∈M->c≠(l.getD b .d).ab)->H c=some o->upd J (l.getD b .d).ab (.lst ((((g b).erase i).map λn:Nat=>(n:Int)).map V.int)) c=some o:=λc o n1 n2 e=>by rw[ZM (n2 b c2)];exact C c o n1 n2 e
    generalize upd J (l.getD b .d).ab (.lst ((((g b).erase i).map λn:Nat=>(n:Int)).map V.int))=H3 at R3 a3⊢;let⟨c5,c8⟩:=R3.sh.self;let i2:=bh b (zG eb);exists _,Z,S,c5,_,Z,c8,Z,_,Z,(gd r b).h,∅,S,d,lk,r,t,_,v,l,p,ls,_,b,Z,R3,hw,G3,bl,zY _
    intro H4 e2 c1 a7 c6 R4 G4 e6 e1;exact⟨_,e2,c1,a7,Z,λc o n1 n2 e=>c6 c o n1 (λc' c9=>n2 c' (qA (I.subset c9))) (a3 c o n1 n2 e),R4,G4,e6.trans I,λc hc hp=>e1 c (a2 c hc hp) hp⟩
   ·rintro σ J ⟨x3,t,g,p,rfl,C,R2,G2,I,a2⟩;rw[show (iN (gd r i).bs).length=(gd r i).bs.length from zX _,rN (zY _)] at G2;exact k J t g p C R2 G2 (I.trans uD) a2
def Gv{gt:jp}(a:Zk K jZ "drop_unheld" "Shelf.drop_unheld" MK zEa)(L:Yd K mg jZ kd)(j:ZA P w K mg kf ZY 2 jZ "holders" zEa (XG jZ kd λ_ b A=>.int ((A.length:Nat)+(b:Nat):Int)))(o:ZA P w K mg kf ZY 1 jZ "twig_of" zEa (Ze jZ))(l:ZD P w K mg kf 1 "is_stem" zE8 (XA kd)):∀ n:Nat,ZA P w K mg kf ZY (n+3) jZ "drop_unheld" zEa (λg H Q E=>∃ m,m<n/\WE gt m jZ kd g H Q E)
 | 0=>a.of λ_ _ _=>Jv λg H Q E h=>by let⟨m,s,_⟩:=h;lia
 | n+1=>a.of λ_ _ F=>(AF F L j o l (Gv a L j o l n)).imp λg H Q E h=>by
  let⟨m,s,S,d,u,z,x,q,b,p,c,v,y,i,e,R,t,G,r,B,k⟩:=h;exact⟨S,d,u,z,x,q,b,p,c,v,y,i,e,R,t,G,r,∅,k⟩
def Xz.dg{gt:jp}{f g:aj}{H:Hp}{S d o:aj}{l:jq}{k:jo}{i:Nat->jo}{e:Nat->Nat}{m:ju}{h:List (ZR×V)}{p:jf}{b:Nat}(U:Xz gt f g H S d o l k i e m h p):Dg l k i (Wx e b) [] (· = b):=by
 refine⟨U.vl,λc a=>?_,λc a j=>?_,λx n=>(by cases n),λc a z=>?_⟩
 ·exact(U.av c a).nodup_iff.mpr (Pp (U.vl.up.sublist vK))
 ·rw[(U.av c a).mem_iff];unfold abv;rw[yW,decide_eq_true_iff];exact⟨λz=>⟨U.vl.lt j z.1,z.2,.inl z.1⟩,λz=>⟨z.2.2.elim id (λy=>by cases y),z.2.1⟩⟩
 ·rw[(U.av c a).length_eq,show Wx e b c=e c from aK z];exact U.live c a
inductive VG(gt:jp)(jZ kd CH:aj)(t:jf)(H:Hp)(Q:VK)(E:XK):Prop
 |mk(S d p:aj)(r:jq)(i:jo)(s:Nat->jo)(g:Nat->Nat)(k:ju)(n:List (ZR×V))(q:jf)(b:Nat)(_:t=[.ref S,.int (b:Nat)])(_:Xz gt jZ kd H S d p r i s g k n q)(_:gt.length=64)(_:gt.Pairwise (λa b=>a.lt b=true))(_:b∈i)(_:g b=0->Vj CH (b:Nat) E H)(_:0<g b->∀(l:Hp)(e:jo)(m:Nat->jo)(h:List (ZR×V)),(∀ c o,c≠d->c≠(k.getD b .d).x->(∀ j:Nat,j∈i->c≠(k.getD j .d).ab)->H c=some o->l c=some o)->Xz gt jZ kd l S d p r e m (Wx g b) k h q->e.Sublist i->(∀ c∈i,0<Wx g b c->c∈e)->Q .non l)
def UP:ZB zE7 zEa (Zf LQ):=Z4
def Bc{gt:jp}(F:Zn K "let_go" "Shelf.let_go" LQ f fd)(L:Yd K mg jZ kd)(DC:ZA P w K mg kf (YB P w) 3 jZ "check_held" zEe (YM jZ kd CH))(DT:ZA P w K mg kf ZY 1 jZ "twig_of" zEa (Ze jZ))(DD:ZA P w K mg kf ZY 67 jZ "drop_unheld" zEa (λvs H Q E=>∃ m,m<64/\WE gt m jZ kd vs H Q E)):
  ZN P w K mg kf (YB P w) 68 f fd zEa (VG gt jZ kd CH):=by
 refine F.kD UP λa6 A a3 s H vs Q E V h=>?_;let⟨S,d,lk,D,lv,I,j,i,p,ls,b,rfl,U,lg,up,r,k1,k2⟩:=h;let nd:=UP.nd;let W:=V.mono (show 1<=67 by lia)
 let X:=V.mono (show 3<=67 by lia)
 intro Xc;refine⟨_,ZQ (XF (YS (E:=E) (pv 0) L.cS DC X (Ud WY λ_ _ _ h=>h) (ZV (XH (ZV (pv 1))))))
  (ZQ (Zs 2 nd (YS (E:=E0) (pv 0) L.cS DT W YY (ZV (pv 1))))
  (ZQ (MN (pv 2) ZO EC)
  (ZW (XF (YS (E:=E0) (pv 0) L.cS DD V YY (ZV (pv 1))))))),?_⟩
 let⟨dx,hS⟩:=U.sh.sh.self;exists _,Z,S,dx,_,Z,hS,Z,_,Z,YX;intro l nl;let g:=Zc nl (.lst [.int (b:Nat)]);let hl:=ZP (H:=H) (a:=l) (o:=.lst [.int (b:Nat)]);generalize upd H l (.lst [.int (b:Nat)])=H1 at g hl⊢;let R1:=U.sh.same g;refine⟨S,d,lk,l,D,lv,I,j,i,p,ls,[b],Z,R1,hl,λc k=>by rw[zM.mp k];exact r,λc k=>?_,λk C s2=>?_⟩
 ·let h1:=zM.mp (sB k);let h2:=tE k;subst h1;exact(k1 (of_decide_eq_true h2)).mono g
 let hp:0<j b:=by
  have:=vN.mp k b zT;simp at this
  lia
 let z:=g.trans s2;let R2:=U.sh.same z;let⟨M,R⟩:=R2.sh.self;let Wb:=R2.tw b r;let⟨q,Y⟩:=Wb.tw.self;let u:=Wb.tw.above;exists _,Z,S,M,_,Z,R,Z,_,Z,S,d,lk,D.length,p,ls,(b:Int),.ref (i.getD b .d).x,Z,R2.sh,R2.val b r;exists _,Z,(i.getD b .d).x,kd,q,_,.int (j b:Nat),Z,Y,L.cT,L.nho,Z,_,_,Z,Z,q,_,Y,yU Z;let a5:(i.getD b .d).ab≠(i.getD b .d).x:=ZI u Y;let eh:((j b:Nat):Int)-1=((j b-1:Nat):Int):=∅
 let G:=R2.set1 (H':=upd C (i.getD b .d).x (.ins kd q (Ye "holds" (.int (((j b:Nat):Int)-1)) (Xp (.ref (i.getD b .d).th) (.ref (i.getD b .d).tg) (i.getD b .d).ab (j b))))) r (av':=I) (ho':=Wx j b) (λ_ _=>rfl) (λc n=>aK n) ⟨q,by
  rw[ZP,show Wx j b b=j b-1 from aM rfl,eh];rfl⟩ (by rw[ZM a5];exact u) λc o n1 _ e=>by rw[ZM n1];exact e
 let t:∀ c o,c≠(i.getD b .d).x->C c=some o->upd C (i.getD b .d).x (.ins kd q (Ye "holds" (.int (((j b:Nat):Int)-1)) (Xp (.ref (i.getD b .d).th) (.ref (i.getD b .d).tg) (i.getD b .d).ab (j b)))) c=some o:=λc o n e=>by rw[ZM n];exact e
 generalize upd C (i.getD b .d).x (.ins kd q (Ye "holds" (.int (((j b:Nat):Int)-1)) (Xp (.ref (i.getD b .d).th) (.ref (i.getD b .d).tg) (i.getD b .d).ab (j b))))=H3 at G t⊢;let⟨N,T⟩:=G.sh.self;let v:=U.sh.lt b r;let a7:=Ke U.wf _ b (xT _) v;let a1:=(U.wf b _ (Ym v)).len up;rw[lg] at a1;exists _,Z,S,N,_,Z,T,Z,_,Z,(gd D b).h,∅,S,d,lk,D,lv,I,_,i,p,ls,[],b,Z,G,U.wf,U.dg,r,zY _
 intro H4 a2 J y O R4 B a4 a0;refine k2 hp H4 a2 J y (λc o n1 n2 n3 e=>O c o n1 n3 (t c o n2 (z c o e))) ⟨R4,U.wf,B.vl,λc k=>B.abv k,λc k=>?_,U.l800⟩ a4 a0;rw[<-(B.abv k).length_eq];exact B.live c k id
end Tw
namespace L2
open PySem PySem.Spec PyProof.Rows
section
variable{ke:js}{σ:St}{H:Hp}
def ZQb:HO->Prop
 | .dK _=>True
 | .frz _ (.dK _)=>True
 | _=>False
def ZE.re{d:aj}{v u:HO}(I:ZE X ke σ H s)(e:H d=some v)(h:ZQb v)(B:∀ o x,X.H₀ d≠some (.frz o x))(g:Zd X.prog X.w H s.heap d u):ZE X ke σ (upd H d u) s:=by
 let f:∀{b:aj},H b=none->b≠d:=fun{b} q z=>by rw[z,e] at q;cases q
 let C:∀{b y:aj},H b=some (.own y)->b≠d:=fun{b y} q z=>by rw[z,e] at q;cases q;exact h
 let j:∀{b:aj}{a:jf},H b=some (.tup a)->b≠d:=fun{b a} q z=>by rw[z,e] at q;cases q;exact h
 let A:∀{b:aj}{a:jv},H b=some (.tbl a)->b≠d:=fun{b a} q z=>by rw[z,e] at q;cases q;exact h
 refine⟨I.ok,I.os,I.bare,⟨I.base.keep,I.base.slot,λb o q n t=>?_,I.base.there,λb a q=>?_,λb o x q=>?_,λb D q=>?_⟩,I.loc,I.cell,?_,λx c q=>?_,λp r=>?_,λb o q=>?_,I.len⟩
 ·let z:=I.base.free b o q n t;rw[ZM (f z)];exact z
 ·let z:=I.base.tups b a q;rw[ZM (j z)];exact z
 ·let z:=I.base.frzs b o x q;rw[ZM (show b≠d from λy=>B o x (y ▸ q))];exact z
 ·let⟨m,z⟩:=I.base.tbls b D q;exact⟨m,by rw[ZM (A z)];exact z⟩
 ·rw[ZM (f I.free)];exact I.free
 ·rw[ZM (f (I.freeC x c q))];exact I.freeC x c q
 ·let⟨E,l,F⟩:=I.pin p r;exact⟨E,by rw[ZM (f l)];exact l,F⟩
 ·let k:∀{b o},Zd X.prog X.w H s.heap b o->Zd X.prog X.w (upd H d u) s.heap b o:=λx=>x.stay (λ_ _ _ q=>q) (λc q=>by rw[ZM (C q)];exact q) λc a q=>by rw[ZM (j q)];exact q
  by_cases i:b=d
  ·subst i;rw[ZP] at q;cases q;exact k g
  ·rw[ZM i] at q;exact k (I.hok b o q)
def ZE.nofrz{d:aj}{a:List (ZR×V)}(I:ZE X ke σ H s)(e:H d=some (.dK a)):∀ o x,X.H₀ d≠some (.frz o x):=λo x q=>by
 have:=I.base.frzs d o x q;rw[e] at this;cases this
inductive Nr(t:TS)(D:Yc)(σ:L2.St)(H:Hp):Prop
 |mk(d a:_)(_:H d=some (.dK a))(_:t ⟨λb c=>∃ o u,c d=some (.frz o (.dK u))/\D.nx b (upd c d (.dK u)),λ_ _=>False,λ_ _=>False,λ_ _=>False⟩ σ H)
def HI{g:aB}{t:TS}(h:PS X g t):PS X g (Nr t):=by
 rintro ke s σ H D I ⟨d,i,e,q⟩;refine Zz (h ke s σ H _ I q) λf m z=>?_;let j:=I.nofrz e
 cases f with
 | next=>
  let⟨a,l,b,o,u,c,k⟩:=z;exact⟨a,_,b.re c trivial j (b.hok d _ c).2,k⟩
 | brk=>let⟨_,_,_,z⟩:=z;exact z.elim
 | cont=>let⟨_,_,_,z⟩:=z;exact z.elim
 | ret u=>let⟨_,_,_,_,_,z⟩:=z;exact z.elim
def MA(d:aj)(o:aG)(a:List (ZR×V)):It:=
 ⟨λi H=>H d=some (.frz o (.dK a))/\i<a.length,λi H x b=>b=H/\∃ p,a[i]? = some p/\x=kV p.1,λi H=>H d=some (.frz o (.dK a))/\a.length<=i⟩
def EO{a:Type}:∀{c:List (a×V)}{d:List (a×ai)}{i:Nat}{p:a×V},KV c d->c[i]? = some p->∃ u,d[i]? = some (p.1,u)
 | _,_,_,_,.nil,e=>by simp at e
 | _,_,0,p,.cons (b:=b) r _,e=>by simp at e;subst e;exact⟨b.2,by rw[r.1];rfl⟩
 | _,_,i+1,p,.cons _ t,e=>by
  let⟨u,h⟩:=EO (i:=i) (p:=p) t (by simpa using e)
  exact⟨u,by simpa using h⟩
def CO{k:ZR}{v:ai}(h:PV k v=true):ZU (kV k) v:=by
 rcases QN h with ⟨i,t,rfl,rfl⟩ | ⟨x,t,rfl,rfl⟩
 ·exact⟨t,Z⟩
 ·exact⟨t,Z⟩
def Ik{P:al}{w:ar}{h:aC}{d:aj}{o:aG}{a:List (ZR×V)}{j:Array DictEntry}{i:Nat}(k:o.data=.dict j i)(x:Zd P w H h d (.frz o (.dK a))):∃ b,KV a b/\h.DictAt (We P w) d b i:=by
 let⟨e,_,_,b,r,n,m,l,g,c,f,q⟩:=x;rw[e] at g;cases g;rw[k] at f;cases f;exact⟨b,r,o,j,e,c,k,q⟩
def Kb{c:Type}{a:List (c×V)}{b:List (c×ai)}(h:KV a b):a.length=b.length:=Paired.length h
def ZJo{P:al}{w:ar}{K:zZ}{tg:Expr}{d:aj}{o:aG}{j:List (ZR×V)}{U:Array DictEntry}{N:Nat}(Q:o.data=.dict U N)(g:aj):VQ P w K tg (MA d o j) [g] g (λi h=>h.IsKeyIter g d i j.length N) where
 mem:=by simp
 obj:=λi h a b f=>by
  let e:b=g:=by simpa using f
  subst e;let⟨o,e,c,d⟩:=a;exact⟨o,e,λv z=>by rw[d] at z;cases z⟩
 keep:=λi h m a k=>a.at λo e=>k g (by simp) o e
 item:=by
  intro X F L D O i ke s σ H E I n a G;subst F L D;let⟨J,q⟩:=G;let⟨vs,r,t⟩:=Ik Q (I.hok d _ J);obtain⟨p,R⟩:∃ p,j[i]? = some p:=⟨_,zW q⟩;let⟨u,hu⟩:=EO r R;let⟨x,y,Y,A,B,C⟩:=n g (by simp)
  rw[Kb r] at a⊢;refine wpAny_pyNext_dict_item a t hu λM m hk l sb=>?_;let S:ZE X ke σ H { s with heap:=m }:=I.turned (t':=s.toks) (λb o f e=>(sb.2 b f).trans e) x y A B C;exact⟨M,Z,letGo_keyiter (s':={ s with heap:=m }) l ⟨_,H,S,CO hk,⟨Z,p,R,Z⟩,l,λb f=>(n b f).1⟩⟩
 done:=by
  intro X F L D O i ke s σ H E I n a G;subst F L D;let⟨J,q⟩:=G;let⟨vs,r,t⟩:=Ik Q (I.hok d _ J);let⟨x,y,Y,A,B,C⟩:=n g (by simp)
  rw[Kb r] at a q;exact wpAny_pyNext_dict_end (I.ok.hd O) a t (List.getElem?_eq_none_iff.mpr q) λm T=>⟨Z,I.turned (t':=s.toks) (λb o f e=>T b o f e) x y A B C⟩
 self:=λ_ _ _ _ _ a h=>wpAny_pyIter_keyiter a h
inductive Pt(R:It->Hp->Prop)(x:V)(b:Hp):Prop
 |mk(d a:_)(_:x=.ref d)(_:b d=some (.dK a))(_:∀ o,R (MA d o a) (upd b d (.frz o (.dK a))))
def ZP5(b:TE):TI:=λσ H R=>b σ H λx a=>Pt R x a
def Ip{C l:Expr}{m:TE}(z:PE X l m):PI X C l (ZP5 m):=by
 intro ke s σ H R I h;refine YH (z ke s σ H _ I h) λv a x F f B A=>?_;let⟨d,j,rfl,e,q⟩:=A;cases B;let⟨G,E,D,r,o,t,p,g,c,k,rest⟩:=id (f.hok d _ e);let n:a.heap.DictAt (We X.prog X.w) d D p:=⟨o,t,g,c,k,rest⟩;refine wpAny_pyIter_dict E n ?_;rw[<-Kb r];let i:=f.re (u:=.frz o (.dK j)) e trivial (f.nofrz e) ⟨g,f.hok d _ e⟩;refine⟨a.heap.objs.size,[a.heap.objs.size],_,_,_,Z,i.kept (t':=a.toks) λb o e=>zP _ e,ZJo k _,⟨_,yS _ Z,Z,Z⟩,λb y=>?_,q o⟩;let e:b=a.heap.objs.size:=by simpa using y
 subst e;exact i.fpOk (zY _) (i.hok.fresh (zY _))
end
end L2
namespace Tw
open PySem PySem.Spec L2 PyProof.Rows
variable{jZ kd CS CT CH CK CP CB:aj}
def US(b a:jo):jo:=b.filter λi=>decide (i∉a)
def Hr(b:jo):US b []=b:=List.filter_eq_self.mpr λa _=>aJ (List.not_mem_nil)
def Er{c a:jo}{b:Nat}(d:b∈c)(f:b∉a):(US c (a++[b])).length<(US c a).length:=by
 let e:US c (a++[b])=(US c a).filter λi=>decide (i≠b):=by
  unfold US;rw[List.filter_filter];refine vR λi _=>?_;rw[<-Bool.decide_and,decide_eq_decide];simp;exact And.comm
 rw[e,List.length_filter_lt_length_iff_exists];exact⟨b,yW.mpr ⟨d,aJ f⟩,by simp⟩
def cur(a b:jo)(n:Nat):jo:=(a.take n).filter (λi=>decide (i∈b))++a.drop n
def IV(a b:jo)(n:Nat):(cur a b n).Sublist a:=by
 have:=wP.append_right (l:=a.drop n) (vK (p:=λi=>decide (i∈b)) (l:=a.take n))
 rwa [wB] at this
def BN{a c:jo}{n b:Nat}(e:a[n]? = some b):b∈cur a c n:=by
 let⟨h,rfl⟩:=yN.mp e;exact yI _ (by rw[xI h];exact zT)
def Ek{c a:jo}{n b:Nat}(e:c[n]? = some b)(d:b∈a):cur c a (n+1)=cur c a n:=by
 let⟨h,rfl⟩:=yN.mp e;unfold cur;rw[pY h,vO,xI h,uF];simp[d]
def ZNH{a c:jo}{n b:Nat}(f:a.Pairwise (· < ·))(e:a[n]? = some b)(d:b∉c):cur a c (n+1)=(cur a c n).erase b:=by
 let⟨h,rfl⟩:=yN.mp e;unfold cur;rw[pY h,vO,xI h,List.erase_append_right (l₁:=(a.take n).filter λi=>decide (i∈c)) _ (λz=>d (by simpa using (yW.mp z).2)),List.erase_cons_head]
 simp[d]
def Hy{a b:jo}(d:a.Pairwise (· < ·))(e:b.Pairwise (· < ·))(h:∀ i,i∈a ↔ i∈b):a=b:=
 vX.eq_of_pairwise (le:=(· < ·)) (λa c _ _ f g=>absurd f (Nat.lt_asymm g)) d e ((qW (Pp d) (Pp e)).mpr h)
def BP{g:jq}{e d f:jo}{l:Nat->Nat}(w:Lv g e)(k:Lv g d)(o:d.Sublist e)(v:∀ c∈e,0<l c->c∈d)(m:∀ i∈d,VE g (λj=>j∈d/\0<l j) i)(p:∀ i∈f,VE g (λj=>j∈e/\0<l j) i)(q:∀ c∈e,0<l c->c∈f)(s:∀ i∈f,∀ b∈(gd g i).bs,b∈f):cur e f e.length=d:=by
 refine Hy (w.up.sublist (IV _ _ _)) k.up λi=>?_;unfold cur;rw[List.drop_length,vH,List.take_length,yW,decide_eq_true_iff];constructor
 ·rintro⟨_,h⟩;exact(p i h).sub k λj n=>v j n.1 n.2
 ·intro h;exists o.subset h;let r:=m i h;clear h
  induction r with
  | held a=>exact q _ (o.subset a.1) a.2
  | step _ t u=>exact s _ u _ t
def VN(a:jo):List (ZR×V):=a.map λb:Nat=>((Sum.inl (b:Int):ZR),V.bl true)
def Kx{c:jo}{b:Nat}(h:b∉c):Z5 (VN c) (Sum.inl (b:Int))=none:=by
 cases z:Z5 (VN c) (Sum.inl (b:Int)) with
 | none=>rfl
 | some v=>
  have:=N3 z;unfold VN at this;rw[yZ] at this;let⟨i,d,a⟩:=zE.mp this;let a:((i:Nat):Int)=(b:Nat):=Sum.inl.inj a;exact absurd (by rw[<-Int.ofNat.inj a];exact d) h
def IQ{a:jo}{b:Nat}(h:b∈a):(Z5 (VN a) (Sum.inl (b:Int))).isSome=true:=by
 cases z:Z5 (VN a) (Sum.inl (b:Int)) with
 | some v=>rfl
 | none=>
  refine absurd ?_ (ZLE z);unfold VN;rw[yZ];exact zE.mpr ⟨b,h,Z⟩
def ZOa{a:jo}{b:Nat}(h:b∉a):Zq (VN a) (Sum.inl (b:Int)) (.bl true)=VN (a++[b]):=by
 unfold Zq;rw[Pf,Kx h];show _=VN (a++[b]);unfold VN;rw[yX];rfl
structure Qz(ts:jq)(lv:jo)(ho:Nat->Nat)(todo fs:jo):Prop where
 t:∀ i∈todo,VE ts (λj=>j∈lv/\0<ho j) i
 f:∀ i∈fs,VE ts (λj=>j∈lv/\0<ho j) i
 h:∀ c∈lv,0<ho c->c∈fs\/c∈todo
 c:∀ i∈fs,∀ b∈(gd ts i).bs,b∈fs\/b∈todo
 n:fs.length+(US lv fs).length<=lv.length
 m:todo.length+5 * (US lv fs).length<=6 * lv.length
section
variable{ts:jq}{lv:jo}{ho:Nat->Nat}{todo fs r:jo}{b:Nat}
def Qz.start:Qz ts lv ho (lv.filter λj=>decide (0<ho j)) []:=by
 exists λi f=>.held ?_,λ_ h=>(by cases h),λc e z=>.inr (yW.mpr ⟨e,aJ z⟩),λ_ h=>(by cases h),?_
 ·let⟨a,d⟩:=yW.mp f;exact⟨a,of_decide_eq_true d⟩
 ·rw[Hr];simp
 ·rw[Hr];have:=vJ (λj=>decide (0<ho j)) lv
  lia
def Qz.old(s:Qz ts lv ho (r++[b]) fs)(e:b∈fs):Qz ts lv ho r fs:=by
 let m:∀{i},i∈r++[b]->i∈fs\/i∈r:=fun{i} h=>by
  rcases zJ.mp h with h | h
  ·exact .inr h
  ·rw[zM.mp h];exact .inl e
 exists λi d=>s.t i (yC _ d),s.f,λc a z=>(s.h c a z).elim .inl m,λi d c a=>(s.c i d c a).elim .inl m,s.n;have:=s.m;rw[zH] at this;exact zL (Nat.add_le_add_right (sV _ _) _) this
def Qz.new(s:Qz ts lv ho (r++[b]) fs)(j:b∉fs)(k:b∈lv)(l:(gd ts b).bs.length<=4):Qz ts lv ho (r++(gd ts b).bs) (fs++[b])/\(r++(gd ts b).bs).length+5 * (US lv (fs++[b])).length<(r++[b]).length+5 * (US lv fs).length:=by
 let o:=Er k j;let g:=s.t b (yI _ zT);let m:∀{i},i∈r++[b]->i∈fs++[b]\/i∈r++(gd ts b).bs:=fun{i} h=>by
  rcases zJ.mp h with h | h
  ·exact .inr (yC _ h)
  ·exact .inl (yI _ h)
 let e:(r++(gd ts b).bs).length+5 * (US lv (fs++[b])).length<(r++[b]).length+5 * (US lv fs).length:=by
  rw[zH,zH,xU]
  lia
 refine⟨⟨λi d=>?_,λi d=>?_,λc a z=>(s.h c a z).elim (λy=>.inl (yC _ y)) m,λi d c a=>?_,?_,zL (xV e) s.m⟩,e⟩
 ·rcases zJ.mp d with h | h
  ·exact s.t i (yC _ h)
  ·exact .step g h
 ·rcases zJ.mp d with h | h
  ·exact s.f i h
  ·rw[zM.mp h];exact g
 ·rcases zJ.mp d with h | h
  ·exact(s.c i h c a).elim (λy=>.inl (yC _ y)) m
  ·rw[zM.mp h] at a;exact .inr (yI _ a)
 ·have:=s.n;rw[zH,xU]
  lia
end
abbrev kN(l:jo):jC:=l.map λi:Nat=>(Sum.inl (i:Int):ZR)
inductive VF(gt:jp)(q:jf)(H:Hp)(Q:VK)(_:XK):Prop
 |mk(e d:aj)(l:jq)(k a:jo)(bs:jw)(p g:List (ZR×V))(n:Nat->Nat)(_:q=[.ref e,.ref d])(_:XI H e l k bs p)(_:WF gt l)(_:H d=some (.dK g))(_:WT g k n)(_:e≠d)(_:k.length<64)(_:Lv l a)(_:a.Sublist k)(_:∀ c∈k,0<n c->c∈a)(_:∀ i∈a,VE l (λj=>j∈a/\0<n j) i)(_:∀(m:Hp)(h b:List (ZR×V)),(∀ c o,c≠e->c≠d->H c=some o->m c=some o)->XI m e l a bs h->m d=some (.dK b)->WT b a n->Q .non m)
abbrev ZNy:jr:=["_law_twigs","_law_holds","_law_todo","_law_found","_law_here","_law_number"]
def UJ:ZB ZNy zEz (Zf LX):=Z4
inductive Gw(H:Hp)(dT dH fa:aj)(ts:jq)(lv:jo)(ho:Nat->Nat):Nat->L2.St->Hp->Prop
 |mk{ta:aj}{todo fs:jo}{k4:jg}{H':Hp}:ZC H H'->H ta=none->H' ta=some (.lst (iN todo))->H' fa=some (.dK (VN fs))->Qz ts lv ho todo fs->Gw H dT dH fa ts lv ho (todo.length+5 * (US lv fs).length) [some (.ref dT),some (.ref dH),some (.ref ta),some (.ref fa),k4,none] H'
inductive Gx(H:Hp)(dT dH ta fa:aj)(k4:jg)(kvs hvs:List (ZR×V))(lv fs:jo):Nat->L2.St->Hp->Prop
 |mk{i:Nat}{k5:jg}{H':Hp}{kt kh:List (ZR×V)}:(∀ c o,c≠dT->c≠dH->H c=some o->H' c=some o)->H' dT=some (.dK kt)->H' dH=some (.dK kh)->kt.map (·.1)=kN (cur lv fs i)->kh.map (·.1)=kN (cur lv fs i)->(∀ j∈cur lv fs i,Z5 kt (Sum.inl (j:Int))=Z5 kvs (Sum.inl (j:Int)))->(∀ j∈cur lv fs i,Z5 kh (Sum.inl (j:Int))=Z5 hvs (Sum.inl (j:Int))) ->
  Gx H dT dH ta fa k4 kvs hvs lv fs i [some (.ref dT),some (.ref dH),some (.ref ta),some (.ref fa),k4,k5] H'
def BM{a:jq}{gt:jp}(d:WF gt a){i:Nat}(c:i<a.length):(gd a i).bs.length<=4:=by
 by_cases b:(gd a i).h=0
 ·rw[((d i _ (Ym c)).leaf b).1];exact zF _
 ·exact((d i _ (Ym c)).stem b).2.1
def EV{gt:jp}(F:Zn K "_law_swept" "_law_swept" LX f fd)(T:YR mg):ZN P w K mg kf ZY 2 f fd zEz (VF gt):=by
 refine F.ko UJ λi4 A i3 s H vs Q E hr h=>?_;let⟨g,dH,ts,B,e7,bs,d,c8,ho,rfl,r,hw,S,hH,dd,c9,c5,sl,kp,c6,k⟩:=h;let nd:=UJ.nd;let hu:=WZ hr;intro Xc;refine⟨_,ZQ (HI (Og (i:=2) [1] ["_law_holds"] nd rfl rfl rfl (Ip (pv 0)) (λ_ _ _ _ _=>Q6 (YI Vr (Xt hu (pv 1) (pv 0)) ZO (Z0 _))) (λ_ _ _ _ _=>pv 0) ⟨rfl,.inl rfl,rfl,trivial⟩))
  (ZQ (Zs 3 nd OH)
  (ZQ (NX PassesOwn.never (YI (Ms hr.units0) (pv 2) (XH Zw) (Z0 _))
   (ZQ (Zs 4 nd (LF yF rE rD Iw (pv 2)))
   (ZW (Z1 (O0 (M4 hu (pv 4) (pv 3)))
    (ZQ (UM hu (pv 3) (pv 4) V9 rfl)
    (ZW (Z1 (YI Wp (Zi K (Xt hu (pv 0) (pv 4)) ZO) X0 (Z0 _))
     (ZW (Zs 2 nd (Z2 NE (pv 2) (WQ Ue rfl T.list Vw (ZV (Zi K (Xt hu (pv 0) (pv 4)) ZO)))))) Z6))) Z6))))
  (ZW (Wu PassesOwn.never rfl (Y9 (Zy (Pd rfl) rfl T.sorted Qb (ZV (pv 0)))) (YZ 5 nd)
   (ZW (Z1 (O0 (M4 hu (pv 5) (pv 3))) (ZQ (XF (IE (pv 0) (pv 5) ⟨rfl,rfl,rfl,rfl⟩)) (ZW (XF (IE (pv 1) (pv 5) ⟨rfl,rfl,rfl,rfl⟩)))) Z6)))))),?_⟩
 let lk:d.length=B.length:=by have:=congrArg yD r.keys;simpa using this
 exists g,d,r.dict,_,Z,g,d,Z,r.dict;intro o;let hf:upd H g (.frz o (.dK d)) g=some (.frz o (.dK d)):=ZP;let hn:∀ c u,c≠g->H c=some u->upd H g (.frz o (.dK d)) c=some u:=λc u n e=>by rw[ZM n];exact e
 let hb:∀ c,upd H g (.frz o (.dK d)) c=none->H c=none:=λc e=>by
  by_cases z:c=g
  ·rw[z,ZP] at e;cases e
  ·rwa [ZM z] at e
 generalize upd H g (.frz o (.dK d))=H1 at hf hn hb⊢;refine No B (λj=>decide (0<ho j)) ∅ (λi H3 C hi=>⟨C _ _ hf,∅⟩) (λi H3 x H4 C hi hy=>⟨hy.1,?_⟩) (λH3 C=>⟨C _ _ hf,∅⟩) (λN j R hj s2 hR=>?_) (λD5 N s2 nD e5=>?_)
 ·let⟨p,ep,rfl⟩:=hy.2;have:=congrArg (λl=>l[i]?) r.keys;simp only[zS,ep] at this;let⟨b,e1,e2⟩:=yO.mp this.symm;let e2:(Sum.inl (b:Int):ZR)=p.1:=e2;rw[zS,e1,<-e2];rfl
 ·let hg:Zg N dH (.int (j:Nat)) (some (.int (ho j:Nat))):=hH.2 j hj ▸ Zg.k (k:=Sum.inl (j:Int)) (s2 _ _ (hn _ _ dd.symm S));let ed:decide (((ho j:Nat):Int) > 0)=decide (0<ho j):=by rw[decide_eq_decide];lia
  exists _,Z,_,Z,dH,.int (ho j:Nat),Z,hg,_,_,Z,Z,_,Z;rw[ed];exact hR
 let n5:=hb _ nD;let d5:D5≠g:=λz=>by rw[z,hf] at nD;cases nD
 exists o,d,s2 _ _ hf;let C:ZC H (upd N g (.dK d)):=λc u e=>by
  by_cases z:c=g
  ·rw[z,ZP,<-r.dict,<-z];exact e
  ·rw[ZM z];exact s2 _ _ (hn _ _ z e)
 let e6:upd N g (.dK d) D5=some (.lst (iN (B.filter λj=>decide (0<ho j)))):=by rw[ZM d5];exact e5
 generalize upd N g (.dK d)=H3 at C e6⊢;clear hf hn hb s2 nD e5 d5;intro G a1;let D:=ZC.free C a1;exists Gw H g dH G ts B ho,⟨_,.mk (C.trans (Zc a1 _)) n5 (Zc a1 _ _ _ e6) ZP .start⟩;clear e6 C a1 n5;rintro m σ H1 ⟨s1,a5,a4,c1,I⟩;rename_i Y a2 J k4
 exists _,Z,YX;intro e0 c0;let g0:=Zc c0 (.lst []);exists Y,e0,iN a2,Z,Z,ZG.of (g0 _ _ a4),ZG.of ZP,_,Z;let M:=g0 _ _ a4;let L:=g0 _ _ c1;let s2:=s1.trans g0;generalize upd H1 e0 (.lst [])=N at M L s2⊢;clear g0 c0 a4 c1 s1;rcases tU a2 with z | ⟨rest,b,z⟩
 ·subst z;refine Zp ?_;let eI:(B.map λi:Nat=>(i:Int)).map V.int=iN B:=by rw[yZ];rfl
  exists _,Z,g,d,B.map λi:Nat=>(i:Int),Z,s2 _ _ r.dict,(by rw[r.keys,yZ];rfl),Qa r.vl.up,by simpa using c9
  intro q nq;rw[eI];let g1:=Zc nq (.lst (iN B));let hq:upd N q (.lst (iN B)) q=some (.lst (iN B)):=ZP;let C:=s2.trans g1;let v:=g1 _ _ L;generalize upd N q (.lst (iN B))=H3 at g1 hq C v⊢;let a7:=C _ _ r.dict;let a6:=C _ _ S;let i2:q≠g:=ZI hq a7;let i1:q≠dH:=ZI hq a6;let e9:G≠g:=λz=>by rw[z,r.dict] at D;cases D
  let e8:G≠dH:=λz=>by rw[z,S] at D;cases D
  refine⟨q,Z,⟨_,ZG.of hq⟩,UT (K:=K) (a:=q) (xs:=iN B) (Gx H3 g dH Y G k4 d c8 B J) (.mk (λ_ _ _ _ e=>e) a7 a6 r.keys hH.1 (λ_ _=>rfl) λ_ _=>rfl) (λi σ H4 _ hP=>by let⟨fr,_⟩:=hP;exact ZG.of (fr _ _ i2 i1 hq)) ?_ ?_⟩
  ·rintro i u σ H4 c3 ⟨fr,eT,eH,k1,k2,v1,v2⟩;rename_i k5 kt kh
   rw[zS] at c3;let⟨n,en,rfl⟩:=yO.mp c3;exists _,Z,_,Z,G,_,Z,Zg.k (k:=Sum.inl (n:Int)) (fr _ _ e9 e8 v),_,Z;by_cases a0:n∈J
   ·rw[IQ a0];let ec:=Ek en a0;exact Zp (.mk fr eT eH (ec ▸ k1) (ec ▸ k2) (ec ▸ v1) (ec ▸ v2))
   ·rw[Kx a0];let ec:=ZNH r.vl.up en a0;let c2:n∈cur B J i:=BN en;let cu:(cur B J i).Pairwise (· < ·):=r.vl.up.sublist (IV _ _ _);let⟨tp,us,x1,_⟩:=r.tw n (zG en);let x2:=hH.2 n (zG en);let me:∀{j:Nat},j∈cur B J (i+1)->j∈cur B J i/\(Sum.inl (j:Int):ZR)≠Sum.inl (n:Int):=fun{j} h=>by
     rw[ec] at h;let⟨h1,h2⟩:=(M9 cu).mp h;exact⟨h2,λz=>h1 (by have:=Sum.inl.inj z;lia)⟩
    refine YJ ⟨_,Z,g,Z,.inl ⟨kt,Rd.of eT⟩,_,Z,kt,Sum.inl (n:Int),_,eT,Z,(v1 n c2).trans x1,?_⟩;let a8:upd H4 g (.dK (WS kt (Sum.inl (n:Int)))) dH=some (.dK kh):=by rw[ZM dd.symm];exact eH
    exists _,Z,dH,Z,.inl ⟨kh,Rd.of a8⟩,_,Z,kh,Sum.inl (n:Int),_,a8,Z,(v2 n c2).trans x2;refine .mk (λc o n1 n2 e=>by rw[ZM n2,ZM n1];exact fr c o n1 n2 e) (by rw[ZM dd,ZP]) ZP ?_ ?_ (λj hj=>?_) λj hj=>?_
    ·rw[ec];exact Kj (Pp cu) k1
    ·rw[ec];exact Kj (Pp cu) k2
    ·rw[Kr (me hj).2];exact v1 j (me hj).1
    ·rw[Kr (me hj).2];exact v2 j (me hj).1
  ·rintro σ H4 ⟨fr,eT,eH,k1,k2,v1,v2⟩;rename_i k5 kt kh
   let el:(iN B).length=B.length:=zX _;let ec:cur B J (iN B).length=e7:=by
    rw[el];exact BP r.vl c5 sl kp c6 I.f (λc hc z=>(I.h c hc z).elim id λy=>(by cases y)) λi hi b hb=>(I.c i hi b hb).elim id λy=>(by cases y)
   rw[ec] at k1 k2 v1 v2;let a3:∀ c o,c≠g->c≠dH->H c=some o->H4 c=some o:=λc o n1 n2 e=>fr c o n1 n2 (C c o e);let tu:YC H H4:=λc xs e=>a3 c _ (ZI e r.dict) (ZI e S) e;refine k H4 kt kh a3 ⟨eT,c5,k1,r.len,λi hi=>?_⟩ eH ⟨k2,λi hi=>(v2 i hi).trans (hH.2 i (sl.subset hi))⟩;let⟨tp,us,e1,e2,e3,e4,e5⟩:=r.tw i (sl.subset hi);exact⟨tp,us,(v1 i hi).trans e1,tu _ _ e2,a3 _ _ (ZI e3 r.dict) (ZI e3 S) e3,λz=>(e4 z).mono tu _ _,e5⟩
 ·rw[tV] at z;subst z;let c7:(!(iN (rest++[b])).isEmpty)=true:=by simp[iN]
  rw[c7];refine YJ ⟨_,λ_ _ z=>z,?_⟩;let rb:=I.t b (by simp)
  let bl:b∈B:=rb.sub r.vl λi h=>h.1;let eI:iN (rest++[b])=iN rest++[.int (b:Nat)]:=by simp[iN]
  exists _,Z,.inl ⟨Z,_,ZG.of M⟩,Y,iN (rest++[b]),.int (b:Nat),Z,Z,M,by rw[eI];simp
  let c4:G≠Y:=ZI L M;let W:upd N Y (.lst (iN (rest++[b])).dropLast) Y=some (.lst (iN rest)):=by rw[ZP,eI,List.dropLast_concat]
  let v:upd N Y (.lst (iN (rest++[b])).dropLast) G=some (.dK (VN J)):=by rw[ZM c4];exact L
  let C:ZC H (upd N Y (.lst (iN (rest++[b])).dropLast)):=VJ s2 a5;generalize upd N Y (.lst (iN (rest++[b])).dropLast)=H3 at W v C⊢;exists _,Z,_,Z,G,_,Z,Zg.k (k:=Sum.inl (b:Int)) v,_,Z;by_cases O:b∈J
  ·rw[IQ O];exact Zp ⟨_,by rw[zH];exact Nat.add_lt_add_right (xT _) _,.mk C a5 W v (I.old O)⟩
  ·rw[Kx O];let lf:=I.n;let lm:=I.m;let lr:(rest++[b]).length=rest.length+1:=zH;refine YJ ⟨_,Z,_,Z,G,_,Z,Yr.k (k:=Sum.inl (b:Int)) v (YL (by unfold VN;rw[zX];lia)),?_⟩
   rw[ZOa O];let X:upd H3 G (.dK (VN (J++[b]))) Y=some (.lst (iN rest)):=by rw[ZM c4.symm];exact W
   let U:upd H3 G (.dK (VN (J++[b]))) G=some (.dK (VN (J++[b]))):=ZP;let s4:ZC H (upd H3 G (.dK (VN (J++[b])))):=VJ C D;generalize upd H3 G (.dK (VN (J++[b])))=H4 at X U s4⊢;let⟨tp,us,e1,e2,e3,e4,e5⟩:=(r.same s4).tw b bl;let g1:Zg H4 g (.int (b:Nat)) (some (.ref tp)):=e1 ▸ Zg.k (k:=Sum.inl (b:Int)) (s4 _ _ r.dict);let bt:=r.vl.lt b bl;let⟨I2,mm⟩:=I.new O bl (BM hw bt);refine⟨_,Z,_,Z,g,.ref tp,Z,g1,.inr (.inl ⟨tp,_,0,_,rfl,rfl,Zb.of e2,rfl,?_⟩)⟩;exists Z,_,Z;by_cases h0:(gd ts b).h=0
   ·let ek:decide (V.str (kindOf (gd ts b))=V.str "stem")=false:=aI (by unfold kindOf;rw[aM h0];decide)
    rw[ek];rw[((hw b _ (Ym bt)).leaf h0).1,vH] at I2 mm;exact Zp ⟨_,mm,.mk s4 a5 X U I2⟩
   ·let ek:decide (V.str (kindOf (gd ts b))=V.str "stem")=true:=aJ (by unfold kindOf;rw[aK h0])
    rw[ek];let ew:=e5 h0;subst ew;let i5:=I2.m;refine YJ ⟨_,Z,_,Z,_,Z,g,.ref tp,Z,g1,.inr (.inl ⟨tp,_,1,_,rfl,rfl,Zb.of e2,rfl,_,_,rfl,.inl (ZG.of e3),λq1 n1=>?_⟩)⟩;let g4:=Zc n1 (.lst (iN (gd ts b).bs));exists Y,q1,iN rest,_,Z,Z,g4 _ _ X,ZP,xV (YL (by rw[zX,zX,<-zH];lia))
    intro q2 n2;let g5:=Zc n2 (.lst (iN rest++iN (gd ts b).bs));let a9:=g4.trans g5;let i0:=ZC.free (s4.trans g4) n2;exact⟨_,mm,.mk (s4.trans a9) i0 (by rw[ZP,<-yX]) (a9 _ _ U) I2⟩
def BH{c:List (ZR×V)}{d:jo}{b:Nat}{a:Nat->Nat}(h:WT c d a)(e:b∈d):WT (Zq c (.inl (b:Int)) (.int (((a b:Nat):Int)+1))) d (P6 a b):=by
 exists by rw[MJ (h.2 b e)];exact h.1
 intro i f;rw[QZ];by_cases z:i=b
 ·subst z;rw[aM rfl,show P6 a i i=a i+1 from aM rfl];rfl
 ·rw[aK (λy=>z (Ya.mp y)),show P6 a b i=a i from aK z];exact h.2 i f
def IR{f g:aj}{H j:Hp}{S d u m l:aj}{x:jq}{w:jo}{r:Nat->jo}{t:Nat->Nat}{q:ju}{h I J:List (ZR×V)}{v:jf}(R:YD f g H S d u x w r t q h v)(A:H m=some (.dK I))(a:H l=some (.dK J))(F:d≠m)(G:d≠l)(s:∀ c o,c≠m->c≠l->H c=some o->j c=some o):YD f g j S d u x w r t q h v:=by
 let⟨⟨K,B⟩,M,C⟩:=id R.sh;let k:∀ c o,(∀ y,o≠.dK y)->H c=some o->j c=some o:=λc o n e=>s c o (ZI e A (n _)) (ZI e a (n _)) e;refine R.frame (λb N e=>k _ _ (by intro _ z;cases z) e) (λo e=>k _ _ (by let a:=e.symm.trans B;cases a;intro _ z;cases z) e) (λo e=>s _ _ F G e) (λo e=>k _ _ (by let a:=e.symm.trans C;cases a;intro _ z;cases z) e) λi p=>?_
 let⟨L,E⟩:=(R.tw i p).tw.self;let⟨y,D,_⟩:=(R.tw i p).things;exact⟨λo e=>k _ _ (by let a:=e.symm.trans E;cases a;intro _ z;cases z) e,λo e=>k _ _ (by let a:=e.symm.trans D;cases a;intro _ z;cases z) e,λo e=>k _ _ (by let a:=e.symm.trans (R.tw i p).tw.above;cases a;intro _ z;cases z) e⟩
def Xz.all{gt:jp}{a c:aj}{H:Hp}{S d r:aj}{k:jq}{g:jo}{o:Nat->jo}{l:Nat->Nat}{n:ju}{f:List (ZR×V)}{s:jf}(U:Xz gt a c H S d r k g o l n f s):∀ i∈g,VE k (λj=>j∈g/\0<l j) i:=λi p=>by
 refine VE.all (λj q b e=>?_) U.vl U.live _ i (xT _) p;let m:=U.wf j _ (Ym (U.vl.lt j q));by_cases z:(gd k j).h=0
 ·rw[(m.leaf z).1] at e;cases e
 ·have:=((m.stem z).2.2.1 b e).2
  lia
structure UL(ts:jq)(lv:jo)(ho:Nat->Nat)(lv':jo):Prop where
 vl:Lv ts lv'
 sl:lv'.Sublist lv
 kp:∀ c∈lv,0<ho c->c∈lv'
 all:∀ i∈lv',VE ts (λj=>j∈lv'/\0<ho j) i
def ZLC{g:jq}{e:jo}(n:Lv g e)(o:Nat->Nat):∃ l,UL g e o l:=by
 classical
 let' A:Nat->Prop:=λj=>j∈e/\0<o j
 let f:∀ i,i∈e.filter (λi=>decide (VE g A i)) ↔ VE g A i:=λi=>by
  rw[yW,decide_eq_true_iff];exact⟨λh=>h.2,λh=>⟨h.sub n λj q=>q.1,h⟩⟩
 let m:(e.filter λi=>decide (VE g A i)).Sublist e:=vK;exists _,⟨λi d=>n.lt i (m.subset d),λi d b k=>(f b).mpr (.step ((f i).mp d) k),n.up.sublist m⟩,m,λc p z=>(f c).mpr (.held ⟨p,z⟩);intro i d;let r:=(f i).mp d;clear d
 induction r with
 | held a=>exact .held ⟨(f _).mpr (.held a),a.2⟩
 | step r k s=>exact .step s k
def UL.one{k:jq}{g e f:jo}{d:Nat->Nat}(a:UL k g d e)(b:UL k g d f):e=f:=
 Hy a.vl.up b.vl.up λi=>⟨λh=>(a.all i h).sub b.vl λj c=>b.kp j (a.sl.subset c.1) c.2,λh=>(b.all i h).sub a.vl λj c=>a.kp j (b.sl.subset c.1) c.2⟩
def Z3.sub{a:Pl}{m m':Md}{c:aj}(v:Z3 a m c)(s:∀ i∈m'.lv,i∈m.lv):Z3 a m' c:=⟨v.1,v.2.1,v.2.2.1,v.2.2.2.1,v.2.2.2.2.1,v.2.2.2.2.2.1,λi b=>v.2.2.2.2.2.2 i (s i b)⟩
def X2.sub{a:Pl}{m m':Md}{p:aj}(o:X2 a m p)(s:∀ i∈m'.lv,i∈m.lv):X2 a m' p:=⟨o.lk,o.gl,o.tl,λi b=>o.tw i (s i b)⟩
inductive UA(gt:jp)(jZ kd:aj)(d:jf)(H:Hp)(Q:VK)(_:XK):Prop
 |mk(p c:aj)(b:Nat)(e:Int)(a:Pl)(m:Md)(_:d=[.ref p,.ref c,.int (b:Nat),.int e])(_:ZJ H p)(_:H c=some (.tup (VB a)))(_:LS gt jZ kd H a m)(_:X2 a m p)(_:b∈m.lv)(_:Xi gt jZ kd H p a m Q)
abbrev ZP3:jr:=["_law_well_here","_law_state","_law_number","_law_way","_law_shelf","_law_twigs","_law_holds","_law_grid_here","_law_told"]
def Uo:ZB ZP3 zEk (Zf JC):=Z4
def C9{gt:jp}{CH:aj}(F:Zn K "_law_held" "_law_held" JC f fd)(T:YR mg)(L:Yd K mg jZ kd)(DM:ZA P w K mg kf ZY 2 jZ "hold" zEa (V6 jZ kd))(DG:ZA P w K mg kf (YB P w) 68 jZ "let_go" zEa (VG gt jZ kd CH))(DS:ZD P w K mg kf 2 "_law_swept" zEz (VF gt)):
  ZN P w K mg kf ZY 69 f fd zEk (UA gt jZ kd):=by
 refine F.ko Uo λi2 A e8 s H vs Q E hr h=>?_;let⟨p,st,b,wy,a,m,rfl,W,e0,g,O,B,k⟩:=h;let nd:=Uo.nd;let hu:=WZ hr;let c0:=hr.mono (show 2<=68 by lia)
 intro Xc;refine⟨_,ZQ (Qc (pv 1) (Qd rfl (Y7 (YZ 4 nd) (Y7 (YZ 5 nd) (Y7 (YZ 6 nd) (Y7 (YZ 7 nd) (Y7 (YZ 8 nd) QV)))))))
  (ZQ (Z1 (YI Wp (pv 3) ZO (Z0 _))
   (ZQ (UM hu (pv 6) (pv 2) (Z2 Wl (Xt hu (pv 6) (pv 2)) ZO) rfl)
   (ZW (Zr (MD (Oh (YS (E:=E0) (pv 4) L.cS DM c0 YY (ZV (pv 2)))))))) Z6)
  (ZQ (Z1 (YI Wp (Xt hu (pv 6) (pv 2)) ZO (Z0 _)) (ZW (Zr V9)) Z6)
  (ZQ (UM hu (pv 6) (pv 2) (Z2 Qf (Xt hu (pv 6) (pv 2)) ZO) rfl)
  (ZQ (XF (Zm DS c0 (Zj (pv 5) (pv 6))))
  (ZW (Zr (MD (Oh (YS (E:=E0) (pv 4) L.cS DG hr Ml (ZV (pv 2))))))))))),?_⟩
 let⟨i4,c9⟩:=W.some;let⟨a7,ls,U,X⟩:=g.sh;let⟨Yt,u⟩:=g.lw;let⟨q,l,hH⟩:=g.hd;let⟨gs,G⟩:=g.gr;let c5:=g.l64;let lh:q.length=m.lv.length:=by have:=congrArg yD hH.1;simpa using this
 let hg:Zg H a.dH (.int (b:Nat)) (some (.int (m.ho b:Nat))):=hH.2 b B ▸ Zg.k (k:=Sum.inl (b:Int)) l;exists _,Z,st,_,Z,Zb.of e0,Z,_,_,Z,_,_,Z,_,_,Z,_,_,Z,_,_,Z,Z;exists _,Z,Z,_,Z;let vp:=O.av g c9;refine Yz (λc=>?_) (λc=>?_)
 ·exists _,Z,_,Z,a.dH,.int (m.ho b:Nat),Z,hg,_,_,Z,Z,_,Z,_,Z,a.dH,_,Z,Yr.k (k:=Sum.inl (b:Int)) l (YL ∅)
  let R3:=ON (o':=.dK (Zq q (.inl (b:Int)) (.int (((m.ho b:Nat):Int)+1)))) U.sh l g.dd.2.1.symm;let J:∀ c o,c≠a.dH->H c=some o->upd H a.dH (.dK (Zq q (.inl (b:Int)) (.int (((m.ho b:Nat):Int)+1)))) c=some o:=λc o n e=>by rw[ZM n];exact e
  let a2:upd H a.dH (.dK (Zq q (.inl (b:Int)) (.int (((m.ho b:Nat):Int)+1)))) a.dH=some (.dK (Zq q (.inl (b:Int)) (.int (((m.ho b:Nat):Int)+1)))):=ZP;generalize upd H a.dH (.dK (Zq q (.inl (b:Int)) (.int (((m.ho b:Nat):Int)+1))))=H3 at R3 J a2⊢;let⟨dS,hS⟩:=R3.sh.self;let⟨dx,c2⟩:=(R3.tw b B).tw.self;exists _,Z,a.S,dS,_,Z,hS,Z,_,Z,a.S,a.d,a.lk,m.ts,m.lv,m.av,m.ho,a.as,a7,ls,b,Z,R3,B;intro H4 fr R4;let I:∀ c o,c≠a.dH->(∀ C dx fs,o≠.ins C dx fs)->H c=some o->H4 c=some o:=λc o n ni e=>fr _ _ (ZI (J c o n e) c2 (ni _ _ _)) (J c o n e);let tu:YC H H4:=λc ys e=>I c _ (ZI e l) (by intro _ _ _ z;cases z) e
  let c7:=fr _ _ (ZI a2 c2) a2;let a4:=k H4 a ⟨m.ts,m.lv,m.av,P6 m.ho b⟩ (λc o e v=>⟨v,λ_=>fr _ _ (v.2.2.2.2.2.2 b B).1 (J c o v.2.2.2.2.1 e)⟩) (λ_ _ _ v=>v) ⟨⟨a7,ls,⟨R4,U.wf,U.vl,U.av,λi t=>zL (U.live i t) (Nat.add_le_add_left (show m.ho i<=(if i=b then m.ho i+1 else m.ho i) by split <;> lia) _),U.l800⟩,X⟩,⟨Yt,u.frame tu (I _ _ g.dd.2.2 (by intro _ _ _ z;cases z) u.dict) λi t o e=>(by
    let⟨tp,us,_,_,e3,_⟩:=u.tw i t;have:=e.symm.trans e3;cases this;exact I _ _ (ZI e l) (by intro _ _ _ z;cases z) e)⟩,⟨_,c7,BH hH B⟩,⟨gs,G.frame tu (I _ _ (ZI G.at_ l) (by intro _ _ _ z;cases z) G.at_)⟩,I _ _ (ZI g.told l) (by intro _ _ _ z;cases z) g.told,g.dd,g.tt,g.t2,g.t3,g.l64,g.l700⟩ (NK W λo e=>fr _ _ (vp.2.2.2.2.2.2 b B).1 (J _ o vp.2.2.2.2.1 e)) ⟨O.lk,O.gl,O.tl,O.tw⟩ Z (yB _) (yB _)
  exact a4
 exists _,Z,_,Z,a.dH,.int (m.ho b:Nat),Z,hg,Z,_,Z;by_cases h0:m.ho b=0
 ·rw[show decide (V.int ((m.ho b:Nat):Int)=V.int 0)=true from by rw[h0];rfl]
  refine YJ ?_;exact k H a m (λc o e v=>⟨v,λ_=>e⟩) (λ_ _ _ v=>v) g W O Z (yB _) (yB _)
 rw[show decide (V.int ((m.ho b:Nat):Int)=V.int 0)=false from aI (by intro z;have:=V.int.inj z;lia)]
 refine Zp ⟨_,Z,_,Z,a.dH,.int (m.ho b:Nat),Z,hg,_,_,Z,Z,_,Z,_,Z,a.dH,_,Z,Yr.k (k:=Sum.inl (b:Int)) l (YL ∅),?_⟩
 let e1:((m.ho b:Nat):Int)-1=((m.ho b-1:Nat):Int):=∅
 let R6:=ON (o':=.dK (Zq q (.inl (b:Int)) (.int (((m.ho b:Nat):Int)-1)))) U.sh l g.dd.2.1.symm;let J:∀ c o,c≠a.dH->H c=some o->upd H a.dH (.dK (Zq q (.inl (b:Int)) (.int (((m.ho b:Nat):Int)-1)))) c=some o:=λc o n e=>by rw[ZM n];exact e
 let a3:upd H a.dH (.dK (Zq q (.inl (b:Int)) (.int (((m.ho b:Nat):Int)-1)))) a.dH=some (.dK (Zq q (.inl (b:Int)) (.int ((m.ho b-1:Nat):Int)))):=by rw[ZP,e1]
 generalize upd H a.dH (.dK (Zq q (.inl (b:Int)) (.int (((m.ho b:Nat):Int)-1))))=H6 at R6 J a3⊢;let k6:∀ c o,(∀ us,o≠.dK us)->H c=some o->H6 c=some o:=λc o n e=>J c o (ZI e l (n _)) e;let i0:YC H H6:=λc ys e=>k6 c _ (by intro _ z;cases z) e
 let a8:XI H6 a.dT m.ts m.lv a.bs Yt:=u.frame i0 (J _ _ g.dd.2.2 u.dict) λi t o e=>by
  let⟨tp,us,_,_,e3,_⟩:=u.tw i t;exact k6 _ _ (by let e2:=e.symm.trans e3;cases e2;intro _ z;cases z) e
 let⟨N,St⟩:=ZLC U.vl (Wx m.ho b);exists _,Z,_,Z,a.dT,a.dH,m.ts,m.lv,N,a.bs,Yt,_,Wx m.ho b,Z,a8,U.wf,a3,Fm hH B,g.dd.2.2,c5,St.vl,St.sl,St.kp,St.all;intro H7 c3 c1 R a0 c8 c6;let k7:∀ c o,(∀ us,o≠.dK us)->H c=some o->H7 c=some o:=λc o n e=>R c o (ZI e u.dict (n _)) (ZI e l (n _)) (k6 c o n e);let R7:=IR R6 a8.dict a3 g.dd.1.symm g.dd.2.1.symm R;let U7:=U.frame R7;let⟨dS,hS⟩:=R7.sh.self;exists _,Z,a.S,dS,_,Z,hS,Z,_,Z,a.S,a.d,a.lk,m.ts,m.lv,m.av,m.ho,a.as,a7,ls,b,Z,U7,G.len,G.up,B,λz=>absurd z h0;intro hp H8 e6 a1 c4 a5 U8 r e5;obtain rfl:N=e6:=St.one ⟨U8.vl,r,e5,U8.all⟩;let⟨i3,e4⟩:=(R7.tw b B).tw.self;let a6:=R7.sh.kept;let k8:∀ c o,c≠a.d->(∀ C dx fs,o≠.ins C dx fs)->(∀ j:Nat,j∈m.lv->c≠a.ab j)->H7 c=some o->H8 c=some o:=λc o n1 ni n2 e=>a5 _ _ n1 (ZI e e4 (ni _ _ _)) n2 e;let a9:∀(c:aj)(o:HO),(∀ us,o≠.lst us)->H7 c=some o->∀ j:Nat,j∈m.lv->c≠a.ab j:=λc o n e j y=>ZI e (R7.tw j y).tw.above (n _);let D:∀(c:aj)(x:List (ZR×V)),c≠a.d->H7 c=some (.dK x)->H8 c=some (.dK x):=λc x n e=>k8 c _ n (by intro _ _ _ z;cases z) (a9 c _ (by intro _ z;cases z) e) e
 let M:∀(c:aj)(x:jf),(∀ j:Nat,j∈m.lv->c≠a.ab j)->H c=some (.lst x)->H8 c=some (.lst x):=λc x n e=>by
  let e7:=k7 c _ (by intro _ z;cases z) e
  exact k8 c _ (ZI e7 a6) (by intro _ _ _ z;cases z) n e7
 let Y:YC H7 H8:=λc ys e=>k8 c _ (ZI e a6) (by intro _ _ _ z;cases z) (a9 c _ (by intro _ z;cases z) e) e
 let i1:YC H H8:=λc ys e=>Y _ _ (k7 c _ (by intro _ z;cases z) e)
 let a4:=k H8 a ⟨m.ts,N,a1,Wx m.ho b⟩ (λc o e v=>?_) (λc o e v i t=>v i (r.subset t)) ⟨⟨c4,ls,U8,X⟩,⟨c3,a0.frame Y (D _ _ g.dd.1 a0.dict) λi t o e=>?_⟩,⟨c1,D _ _ g.dd.2.1 c8,c6⟩,⟨gs,G.frame i1 (M _ _ (λj y=>(g.t2 j y).2.2) G.at_)⟩,M _ _ (λj y=>(g.t2 j y).1) g.told,g.dd,g.tt,λi t=>g.t2 i (r.subset t),λi t=>?_,xJ r.length_le c5,g.l700⟩ ?_ (O.sub (m':=⟨m.ts,N,a1,Wx m.ho b⟩) λi t=>r.subset t) Z (yB _) (wH r.length_le)
 ·exact a4
 ·let⟨_,v2,_,v4,v5,_,v7⟩:=id v;exact⟨v.sub (m':=⟨m.ts,N,a1,Wx m.ho b⟩) λi t=>r.subset t,λ_=>a5 c o v2 (v7 b B).1 (λj y=>(v7 j y).2) (R c o v4 v5 (J c o v5 e))⟩
 ·let⟨tp,us,_,_,e3,_⟩:=a0.tw i t;let e2:=e.symm.trans e3;cases e2;exact k8 _ _ (ZI e a6) (by intro _ _ _ z;cases z) (λj y=>(g.t3 i (r.subset t)).2.2 j y) e
 ·let⟨t1,e9,t3⟩:=g.t3 i (r.subset t);exact⟨t1,e9,λj y=>t3 j (r.subset y)⟩
 ·exact NK W λo e=>a5 _ o vp.2.1 (vp.2.2.2.2.2.2 b B).1 (λj y=>(vp.2.2.2.2.2.2 j y).2) (R _ o vp.2.2.2.1 vp.2.2.2.2.1 (J _ o vp.2.2.2.2.1 e))
def QL{a:jq}{s i:Nat}{t:ZK}(h:s<a.length):gd (a.set s t) i=if i=s then t else gd a i:=by
 unfold gd;rw[zV,zV];by_cases z:i=s
 ·subst z;rw[aM rfl,tR h];rfl
 ·rw[aK z,uW (Ne.symm z)]
def Xx(a:jq):jo->Option (jq)
 | []=>some a
 | s::r=>if over (Zx a (gd a s).bs)=none then none else Xx (a.set s (YQ a (gd a s).bs)) r
def Zt.like{gt:jp}{a ts':jq}{i:Nat}{t:ZK}(h:Zt gt a i t)(d:ts'.length=a.length)(e:∀ b∈t.bs,gd ts' b=gd a b):Zt gt ts' i t:=by
 exists h.ne,h.up,h.inn,h.leaf;intro z;let⟨j,k,f,m⟩:=h.stem z;exists j,k,λb g=>⟨by rw[d];exact(f b g).1,by rw[e b g];exact(f b g).2⟩
 rw[m];clear j k f m;have:∀ l:jo,(∀ b∈l,gd ts' b=gd a b)->(l.flatMap λb=>(gd a b).rows)=l.flatMap λb=>(gd ts' b).rows:=λl d=>by
  induction l with
  | nil=>rfl
  | cons b l o=>rw[xN,xN,d b (by simp),o λc n=>d c (zI _ n)]
 exact this _ e
section
variable{gt:jp}{ts:jq}{lv:jo}{ho:Nat->Nat}
def KN{i j:Nat}(a:j∈lv)(h:i∈(gd ts j).bs):j∈abv ts lv i:=by
 unfold abv;exact yW.mpr ⟨a,aJ h⟩
def Zo.ne{i:Nat}{l:jo}(h:Zo ts lv ho i l):∃ r,l=i::r:=by
 cases h with
 | top=>exact⟨_,Z⟩
 | up=>exact⟨_,Z⟩
def ZMo{i j:Nat}{r:jo}(h:(abv ts lv i).length+ho i=1)(e:abv ts lv i=j::r):abv ts lv i=[j]:=by
 rw[e] at h⊢;rw[yV] at h;have:r=[]:=rK.mp ∅
 rw[this]
def Zo.facts(t:WF gt ts)(w:Lv ts lv){i:Nat}{l:jo}(h:Zo ts lv ho i l)(o:i∈lv):(∀ j∈l,j∈lv/\(gd ts i).h<=(gd ts j).h)/\(∀ j∈l.tail,(gd ts i).h<(gd ts j).h)/\l.Nodup/\∀ b∈l,∀ j∈lv,b∈(gd ts j).bs->j∈l.tail:=by
 induction h with
 | top a b=>
  exists λj g=>by rw[zM.mp g];exact⟨o,zY _⟩,λj g=>(by cases g),by simp
  intro c f j g k;rw[zM.mp f] at k;have:=KN g k;rw[b] at this;cases this
 | up a b p u=>
  rename_i i j l r
  let g:=Ph t w (i:=i) (j:=j) (by rw[b];exact zT)
  let⟨m,x,q,s⟩:=u g.2;refine⟨λc f=>?_,λc f=>?_,xR.mpr ⟨λz=>?_,q⟩,λc f d n k=>?_⟩
  ·rcases zC.mp f with z | z
   ·rw[z];exact⟨o,zY _⟩
   ·have:=m c z;exact⟨this.1,∅⟩
  ·have:=(m c f).2
   lia
  ·have:=(m i z).2
   lia
  ·rcases zC.mp f with z | z
   ·rw[z] at k;have:=KN n k;rw[ZMo a b] at this;rw[zM.mp this];let⟨v,e⟩:=p.ne;rw[e];exact zT
   ·let⟨v,e⟩:=p.ne;have:=s c z d n k;rw[e] at this⊢;exact zI _ this
structure Va(gt:jp)(ts:jq)(lv:jo)(n:Nat)(cur:jq)(done rest:jo):Prop where
 len:cur.length=ts.length
 hh:∀ i,(gd cur i).h=(gd ts i).h
 sh:∀ i,i≠n->(gd cur i).bs=(gd ts i).bs
 nb:∀ b∈(gd cur n).bs,b∈lv/\(gd ts b).h<(gd ts n).h
 up:∀ j∈rest,j≠n/\(gd ts n).h<(gd ts j).h
 ok:∀ i∈lv,i∉rest->Zt gt cur i (gd cur i)
 old:∀ i,i∉done->gd cur i=gd ts i
def Oo(m:WF gt ts)(f:Lv ts lv){n:Nat}{rest:jo}(r:Zo ts lv ho n (n::rest))(l:n∈lv){t:ZK}(v:t.h=(gd ts n).h)(u:∀ b∈t.bs,b∈lv)(e:Zt gt ts n t):Va gt ts lv n (ts.set n t) [n] rest:=by
 let d:=f.lt n l;let g:∀ i,gd (ts.set n t) i=if i=n then t else gd ts i:=λi=>QL d
 let⟨A,p,q,s⟩:=r.facts m f l;let o:∀ b∈t.bs,(gd ts b).h<(gd ts n).h:=λb z=>by
  by_cases y:t.h=0
  ·rw[(e.leaf y).1] at z;cases z
  ·have:=((e.stem y).2.2.1 b z).2
   lia
 let x:n∉t.bs:=λz=>by have:=o n z;lia
 refine⟨wV,λi=>?_,λi z=>by rw[g,aK z],λb a=>?_,λj k=>⟨λz=>(xR.mp q).1 (z ▸ k),p j k⟩,λi c w=>?_,λi c=>?_⟩
 ·rw[g];by_cases z:i=n
  ·rw[aM z,z];exact v
  ·rw[aK z]
 ·rw[g,aM rfl] at a;exact⟨u b a,o b a⟩
 ·rw[g];by_cases z:i=n
  ·rw[aM z,z];exact e.like wV λb a=>by rw[g,aK (show ¬ b=n from λy=>x (y ▸ a))]
  ·rw[aK z];refine(m i _ (Ym (f.lt i c))).like wV λb a=>?_;rw[g,aK];intro y;exact w (s n zT i c (y ▸ a))
 ·rw[g,aK (λz=>c (by rw[z];exact zT))]
def Va.branches(g:WF gt ts)(e:Lv ts lv){n:Nat}{cur:jq}{a rest:jo}{s:Nat}(p:Va gt ts lv n cur a (s::rest))(r:Zo ts lv ho s (s::rest))(d:s∈lv)(k:(gd ts s).h≠0):∀ b∈(gd cur s).bs,b∈lv/\b∉s::rest/\Zt gt cur b (gd cur b):=λb c=>by
 rw[p.sh s (p.up s zT).1] at c;let f:=e.cl s d b c;let⟨j,_,_,_⟩:=r.facts g e d;let l:=((g s _ (Ym (e.lt s d))).stem k).2.2.1 b c;let i:b∉s::rest:=λz=>by
  have:=(j b z).2
  lia
 exact⟨f,i,p.ok b f i⟩
def Va.over(h:WF gt ts)(j:Lv ts lv){n:Nat}{cur:jq}{a rest:jo}{s:Nat}(p:Va gt ts lv n cur a (s::rest))(r:Zo ts lv ho s (s::rest))(g:s∈lv):∀ b∈s::rest,∀ i∈lv,b∈(gd cur i).bs->i∈rest:=λb c i f d=>by
 let⟨k,l,m,e⟩:=r.facts h j g;by_cases z:i=n
 ·rw[z] at d;have:=(p.nb b d).2;have:=(p.up b c).2
  lia
 ·rw[p.sh i z] at d;exact e b c i f d
def Lx(q:WF gt ts)(f:Lv ts lv){n:Nat}{cur:jq}{d rest:jo}{s:Nat}(p:Va gt ts lv n cur d (s::rest))(r:Zo ts lv ho s (s::rest))(m:s∈lv)(t:(gd ts s).h≠0){L:YN}(M:over (Zx cur (gd cur s).bs)=some L):
  L=Zu (YQ cur (gd cur s).bs)/\Va gt ts lv n (cur.set s (YQ cur (gd cur s).bs)) (d++[s]) rest:=by
 let o:=p.branches q f r m t;let B:=(p.up s zT).1;let⟨I,X,J,K,D,A,v⟩:=IT (λb a=>(o b a).2.2) M;let R:s<cur.length:=by rw[p.len];exact f.lt s m
 let g:∀ i,gd (cur.set s (YQ cur (gd cur s).bs)) i=if i=s then YQ cur (gd cur s).bs else gd cur i:=λi=>QL R
 let⟨T,U,V,W⟩:=r.facts q f m;let C:(YQ cur (gd cur s).bs).h=(gd ts s).h:=by
  obtain⟨b,a⟩:∃ b,b∈(gd cur s).bs:=rX ∅
  let H:=D b a;rw[p.hh b] at H;rw[p.sh s B] at a;let S:=(((q s _ (Ym (f.lt s m))).stem t).2.2.1 b a).2
  lia
 refine⟨I,(wV).trans p.len,λi=>?_,λi y=>?_,λb a=>?_,λj O=>p.up j (zI _ O),λi k F=>?_,λi k=>?_⟩
 ·rw[g];by_cases z:i=s
  ·rw[aM z,z];exact C
  ·rw[aK z];exact p.hh i
 ·rw[g];by_cases z:i=s
  ·rw[aM z,z];exact p.sh s B
  ·rw[aK z];exact p.sh i y
 ·rw[g,aK (Ne.symm B)] at a;exact p.nb b a
 ·let e:∀ b,b≠s->gd (cur.set s (YQ cur (gd cur s).bs)) b=gd cur b:=λb n=>by rw[g,aK n]
  let G:∀ b∈(gd cur s).bs,b≠s:=λb a z=>(o b a).2.1 (by rw[z];exact zT)
  rw[g];by_cases z:i=s
  ·rw[aM z];refine⟨v,A,λQ w=>?_,λy=>absurd y (by rw[C];exact t),λ_=>⟨J,K,λb a=>⟨?_,?_⟩,?_⟩⟩
   ·let⟨b,u,x⟩:=wZ.mp w;exact(o b u).2.2.inn Q x
   ·rw[wV,p.len];exact f.lt b (o b a).1
   ·rw[e b (G b a)];exact D b a
   ·show Xl cur (gd cur s).bs=_;unfold Xl;have:∀ l:jo,(∀ b∈l,b≠s)->(l.flatMap λb=>(gd cur b).rows)=l.flatMap λb=>(gd (cur.set s (YQ cur (gd cur s).bs)) b).rows:=λl E=>by
     induction l with
     | nil=>rfl
     | cons b l P=>rw[xN,xN,e b (E b (by simp)),P λc N=>E c (zI _ N)]
    exact this _ G
  ·rw[aK z];refine(p.ok i k (λy=>(zC.mp y).elim z F)).like (wV) λb a=>e b λy=>?_;rw[y] at a;exact F (p.over q f r m s zT i k a)
 ·rw[g,aK (λz=>k (by rw[z];simp))]
  exact p.old i λz=>k (yC _ z)
def Xo(lv:jo)(t:ZK)(ts:jq):jq:=(zN ts.length).map λi=>if i∈lv then gd ts i else t
def YW{t:ZK}:(Xo lv t ts).length=ts.length:=by unfold Xo;simp
def F2{t:ZK}{i:Nat}(h:i<ts.length):gd (Xo lv t ts) i=if i∈lv then gd ts i else t:=by
 unfold gd Xo;rw[zV,zS,List.getElem?_range h];rfl
def MX{t:ZK}{i:Nat}(h:i<ts.length)(a:i∈lv):gd (Xo lv t ts) i=gd ts i:=by rw[F2 h,aM a]
def IW{t:ZK}(c:Lv ts lv)(j:∀ i∈lv,Zt gt ts i (gd ts i))(h:∀ a i,Zt gt a i t):WF gt (Xo lv t ts):=λi u e=>by
 let g:i<(Xo lv t ts).length:=(yN.mp e).1;let d:=ZPB e;rw[YW] at g;rw[F2 g] at d;rw[<-d];by_cases z:i∈lv
 ·rw[aM z];exact(j i z).like YW λb f=>MX (c.lt b (c.cl i z b f)) (c.cl i z b f)
 ·rw[aK z];exact h _ _
def Mv{t:ZK}(c:Lv ts lv):Lv (Xo lv t ts) lv:=⟨λi a=>by rw[YW];exact c.lt i a,λi a b d=>by rw[MX (c.lt i a) a] at d;exact c.cl i a b d,c.up⟩
def Fr{a:jq}(e:∀ i∈lv,(gd a i).bs=(gd ts i).bs)(i:Nat):abv a lv i=abv ts lv i:=by
 unfold abv;exact vR λj b=>by rw[e j b]
def Va.vl(d:Lv ts lv){n:Nat}{cur:jq}{a rest:jo}(p:Va gt ts lv n cur a rest):Lv cur lv:=⟨λi c=>by rw[p.len];exact d.lt i c,λi c b e=>by
 by_cases y:i=n
 ·exact(p.nb b (y ▸ e)).1
 ·exact d.cl i c b (by rw[<-p.sh i y];exact e),d.up⟩
def Gf{h:jE}(g:OA h)(j:(h.map (·.1)).Sublist gt):∀ f i,Zt gt f i (Y3 h):=λf i=>by
 let⟨a,b,c,d,e⟩:=FW (ts:=f) g j;exact⟨a,b,c,d,e⟩
def Nq(g:WF gt ts)(k:Lv ts lv):∀{n:Nat}{rest f:jo}{cur d:jq}{s:Nat},Zo ts lv ho s (s::rest)->s∈lv->(gd ts s).h≠0->Va gt ts lv n cur f (s::rest)->Xx cur (s::rest)=some d->Va gt ts lv n d (f++s::rest) []
 | n,rest,f,cur,d,s,r,w,u,p,e=>by
  rw[Xx] at e;split at e
  ·cases e
  ·rename_i c
   cases l:over (Zx cur (gd cur s).bs) with
   | none=>exact absurd l c
   | some L=>
    let⟨_,o⟩:=Lx g k p r w u l
    cases r with
    | top a b=>
     rw[Xx] at e;cases e;exact o
    | up a b m=>
     rename_i j q
     let⟨x,t⟩:=m.ne;subst t;let v:=Ph g k (i:=s) (j:=j) (by rw[b];exact zT)
     have:=Nq g k m v.2 ∅ o e
     rw[uF] at this;exact this
end
abbrev Lj:Stmt:=XE (top 35) 24
abbrev J9:Stmt:=XE (top 35) 25
abbrev kI(i:Nat):ZR:=Sum.inl (i:Int)
def ZPQ{i j:Nat}(h:i≠j):kI i≠kI j:=λz=>h (by have:=Sum.inl.inj z;lia)
def Zo.drop{f:jq}{d:jo}{c:Nat->Nat}{i:Nat}{l:jo}(h:Zo f d c i l):∀(k s:Nat),l[k]? = some s->Zo f d c s (l.drop k):=by
 induction h with
 | top a b=>
  intro k s e
  cases k with
  | zero=>cases e;exact .top a b
  | succ k=>simp at e
 | up a b g j=>
  intro k s e
  cases k with
  | zero=>cases e;exact .up a b g
  | succ k=>exact j k s (by simpa using e)
structure Qe(H:Hp)(cur:jq)(done:jo)(lkv:List (ZR×V)):Prop where
 keys:lkv.map (·.1)=done.map kI
 at_:∀ i∈done,∃ v,Z5 lkv (kI i)=some v/\Z8 H (Zu (gd cur i)) v
def Qe.no{H:Hp}{cur:jq}{a:jo}{c:List (ZR×V)}(h:Qe H cur a c){b:Nat}(d:b∉a):Z5 c (kI b)=none:=by
 cases z:Z5 c (kI b) with
 | none=>rfl
 | some v=>
  have:=N3 z;rw[h.keys] at this;let⟨i,f,e⟩:=zE.mp this;exact absurd (show b∈a by
   have:i=b:=by have:=Sum.inl.inj e;lia
   rw[<-this];exact f) d
def Qe.mono{H c:Hp}{cur:jq}{a:jo}{b:List (ZR×V)}(h:Qe H cur a b)(m:YC H c):Qe c cur a b:=⟨h.keys,λi d=>by
 let⟨v,e,k⟩:=h.at_ i d;exact⟨v,e,k.mono m⟩⟩
def Qe.push{H:Hp}{cur b:jq}{a:jo}{d:List (ZR×V)}{s:Nat}{v:V}(h:Qe H cur a d)(g:s∉a)(e:∀ i∈a,gd b i=gd cur i)(j:Z8 H (Zu (gd b s)) v):Qe H b (a++[s]) (Zq d (kI s) v):=by
 exists by rw[LY v (h.no g),yX,h.keys,yX];rfl
 intro i f;rw[QZ];by_cases z:i=s
 ·subst z;rw[aM rfl];exact⟨v,Z,j⟩
 ·rw[aK (ZPQ z)];let c:i∈a:=(zJ.mp f).elim id λy=>absurd (zM.mp y) z;rw[e i c];exact h.at_ i c
inductive XJ(gt:jp)(jZ kd CS:aj):Sp
 |mk{S d lk r:aj}{ts:jq}{lv:jo}{av:Nat->jo}{ho:Nat->Nat}{as:ju}{kvs:List (ZR×V)}{ls:jf}{n:Nat}{rest:jo}{v:V}{t:ZK}{H:Hp}{Q:VK}{E:XK}:
  YD jZ kd H S d lk ts lv av ho as kvs ls->WF gt ts->Lv ts lv->n∈lv->Zo ts lv ho n (n::rest)->rest.length<=800->H r=some (.lst (iN (n::rest)))->t.h=(gd ts n).h->(∀ b∈t.bs,b∈lv)->Zt gt ts n t->Z8 H (Zu t) v ->
  (Xx (ts.set n t) rest=none->∀ H',ZC H H'->E (.ref CS) none H') ->
  (∀ cur,Xx (ts.set n t) rest=some cur->∀(H':Hp)(D:aj)(lkv:List (ZR×V)),ZC H H'->H D=none->H' D=some (.dK lkv)->Qe H' cur (n::rest) lkv->Q (.ref D) H')->XJ gt jZ kd CS [.ref S,.ref r,v] H Q E
abbrev ZN7:jr:=["self","road","label","labels","stem","branches"]
def UC:ZB ZN7 zEy (Zf Lj):=Z4
inductive Ii(gt:jp)(S r D q:aj)(n:Nat)(v:V)(ts:jq)(lv rest:jo)(t:ZK)(H:Hp):Nat->L2.St->Hp->Prop
 |mk{k:Nat}{H2:Hp}{x y:jg}{cur:jq}{lkv:List (ZR×V)}:ZC H H2->H2 q=some (.lst (iN rest))->H2 D=some (.dK lkv)->Va gt ts lv n cur (n::rest.take k) (rest.drop k)->Xx (ts.set n t) rest=Xx cur (rest.drop k)->Qe H2 cur (n::rest.take k) lkv ->
  Ii gt S r D q n v ts lv rest t H k [some (.ref S),some (.ref r),some v,some (.ref D),x,y] H2
def ZKP{gt:jp}(F:Zn K "labels_up" "Shelf.labels_up" Lj f fd)(L:Yd K mg jZ kd)(DT:ZA P w K mg kf ZY 1 jZ "twig_of" zEa (Ze jZ))(DL:ZA P w K mg kf ZY 2 jZ "label" zEa (XG jZ kd λtg _ _=>tg))(DO:Uj P w K mg kf 9 "label_over" zFb (X9 CS)):
  ZN P w K mg kf (YB P w) 10 f fd zEy (XJ gt jZ kd CS):=by
 refine F.kD UC λi0 A e7 s H vs Q E hr h=>?_;let⟨R,hw,vl,hn,rd,e9,c0,th,tb,e8,hv,k1,k2⟩:=h;rename_i S d lk r l lv av ho as c2 ls n rest v t
 let nd:=UC.nd;let hu:=WZ hr;let e3:=hr.mono (show 1<=9 by lia)
 let e4:=hr.mono (show 2<=9 by lia)
 intro Xc;refine⟨_,ZQ (Ni (i:=3) nd rfl (Or.inr rfl) (ZML (ZKG (Zi K (pv 1) ZO) (pv 2) ZMk) rfl rfl (by intro z;cases z) (by decide)))
  (ZQ (Wu MS rfl (Y9 (Ha F1 (pv 1) (FY ZO) Iv)) (YZ 4 nd)
   (ZQ (Zs 5 nd (Xg (YS (E:=E0) (pv 0) L.cS DT e3 YY (ZV (pv 4))) rfl))
   (ZW (UM hu (pv 3) (pv 4) (Ll (E:=E) DO hr (Ud WY λ_ _ _ h=>h) (ZV (UD [3,0] ["labels","self"] rfl (Y9 (pv 5)) (λ_ _ _ _ _=>Vh) (λ_ _ _ _ _=>ZKH hu (pv 1) (pv 0) (YS (E:=E0) (pv 2) L.cS DL e4 YY (ZV (pv 0))) ⟨Z,Z,Z,Z⟩) ⟨rfl,.inl rfl,rfl,rfl,.inl rfl,rfl,trivial⟩))) rfl))))
  (ZW (Zr (pv 3)))),?_⟩
 intro D nD;let g1:=Zc nD (.dK []);refine⟨_,Z,.inl ⟨r,_,0,.int (n:Nat),Z,Z,ZG.of (g1 _ _ c0),Xk (j:=0) Z,_,Z,?_⟩⟩;exists ZP,[(kI n,v)],Z,(by show 1<=15;lia)
 let e0:NJ [] [(kI n,v)]=[(kI n,v)]:=rfl;rw[e0,N7];let s0:ZC H (upd H D (.dK [(kI n,v)])):=Zc nD _;let a0:upd H D (.dK [(kI n,v)]) D=some (.dK [(kI n,v)]):=ZP;generalize upd H D (.dK [(kI n,v)])=H1 at s0 a0⊢;exists _,Z,_,Z,r,_,Z,ZG.of (s0 _ _ c0);intro q nq;let a3:Pa (iN (n::rest)) (some 1) none=iN rest:=by
  unfold Pa;let e1:HT.sIx (iN (n::rest)).length 0 (some 1)=1:=by
   unfold HT.sIx;simp[iN]
   try lia
  let e2:HT.sIx (iN (n::rest)).length (iN (n::rest)).length none=(iN (n::rest)).length:=rfl;rw[e1,e2];simp[iN];exact yM (by simp)
 rw[a3];let g2:=Zc nq (.lst (iN rest));let hq:upd H1 q (.lst (iN rest)) q=some (.lst (iN rest)):=ZP;let a5:=g2 _ _ a0;let s1:=s0.trans g2;let qD:q≠D:=λz=>by rw[z,a0] at nq;cases nq
 let c1:=hv.mono (ZC.tups s1);generalize upd H1 q (.lst (iN rest))=H2 at g2 hq a5 s1 c1⊢;let⟨f1,f2,f3,f4⟩:=rd.facts hw vl hn;let p0:=Oo hw vl rd hn th tb e8;let gn:gd (l.set n t) n=t:=by rw[QL (vl.lt n hn),aM rfl]
 refine⟨q,Z,⟨_,ZG.of hq⟩,UT (K:=K) (a:=q) (xs:=iN rest) (Ii gt S r D q n v l lv rest t H) (.mk s1 hq a5 p0 rfl ⟨rfl,λi U=>?_⟩) (λi σ H3 _ C=>by let⟨_,V,_⟩:=C;exact ZG.of V) ?_ ?_⟩
 ·rw[zM.mp U,gn];exact⟨v,by rw[UI rfl],c1⟩
 ·rintro k u σ H3 a1 ⟨s3,V,T,p,ec,hb⟩;unfold iN at a1;rw[zS] at a1;let⟨g,es,rfl⟩:=yO.mp a1;rename_i x y cur m
  let hk:k<rest.length:=(yN.mp es).1;let eg:rest[k]=g:=(yN.mp es).2;let ed:rest.drop k=g::rest.drop (k+1):=by rw[xI hk,eg]
  let et:rest.take (k+1)=rest.take k++[g]:=by rw[yP,es];rfl
  let c4:Zo l lv ho g (g::rest.drop (k+1)):=by
   have:=rd.drop (k+1) g (by simpa using es)
   rw[List.drop_succ_cons,ed] at this;exact this
  let sm:g∈rest:=zG es;let o:=(f1 g (zI _ sm)).1;let h0:(gd l g).h≠0:=by have:=f2 g sm;lia
  rw[ed] at p ec;let R3:=R.same s3;let⟨dS,hS⟩:=R3.sh.self;let W:=R3.tw g o;let⟨dt,hx⟩:=W.tw.self;let⟨us,O,_,Y⟩:=W.things;let Y:=Y h0;subst Y;let N:(gd l g).bs=(gd cur g).bs:=(p.sh g (p.up g zT).1).symm;let br:=p.branches hw vl c4 o h0;let b4:(gd l g).bs.length<=4:=((hw g _ (Ym (vl.lt g o))).stem h0).2.1;exists _,Z,S,dS,_,Z,hS,Z,_,Z,S,d,lk,l.length,c2,ls,(g:Int),.ref (as.getD g .d).x,Z,R3.sh,R3.val g o,(as.getD g .d).x,kd,dt,_,.ref (as.getD g .d).th,Z,hx,L.cT,L.nth,Z;exists _,Z,(as.getD g .d).th,Z,⟨_,ZG.of O⟩;refine UH (n:=(gd l g).bs.length) (λi z=>(iN (gd l g).bs)[i]? = some z) (λJ i ys B=>ZC H3 B/\H3 J=none/\YV B ((Zx cur (gd l g).bs).take i) ys) (YL ∅)
   (λJ i ys B U C=>⟨_,.int ((gd l g).bs[i]:Nat),ZG.of (C.1 _ _ O),by simp[iN,U]⟩) (λJ i ys B z H5 U C hy=>⟨hy.1,hy.2 _ (ZG.of (C.1 _ _ O))⟩) (λJ ys B C=>⟨_,ZG.of (C.1 _ _ O),by simp[iN]⟩)
   (λJ a6=>⟨Zc a6 _,a6,Z,λi u e=>by simp at e⟩) (λJ i ys B z M i1 U hz C RR c6=>?_) (λJ us B M C=>?_)
  ·let⟨s4,a2,G⟩:=C;let ez:z=.int ((gd l g).bs[i]:Nat):=by
    unfold iN at hz;rw[zS,zW U] at hz;exact(zB.inj hz).symm
   subst ez;let a9:(gd l g).bs[i]∈(gd l g).bs:=yJ _;let a4:(Zx cur (gd l g).bs)[i]? = some (Zu (gd cur (gd l g).bs[i])):=by unfold Zx;rw[zS,zW U];rfl
   generalize (gd l g).bs[i]=b at a9 a4⊢;let⟨bl,i3,_⟩:=br b (N ▸ a9);let R4:=R3.same s4;let⟨c5,c7⟩:=R4.sh.self;let Wb:=R4.tw b bl;let a7:=s4 _ _ T;exists _,Z,D,Z,.inl ⟨_,.inl a7⟩,_,Z,_,Z,S,c5,_,Z,c7,Z,_,Z,S,d,lk,l.length,c2,ls,(b:Int),_,_,_,_,_,_,Z,⟨R4.sh,R4.val b bl,Wb.tw⟩,Z5 m (kI b),Zg.k (k:=kI b) a7;let tD:∀ vv,YC B (upd B J (.lst (ys++[vv]))):=λvv c xs e=>by rw[ZM (ZI e M)];exact e
   let e6:Z8 B (Zu (gd cur b)) ((Z5 m (kI b)).getD (.ref (as.getD b .d).tg)):=by
    by_cases c:b∈n::rest.take k
    ·let⟨v',e',k'⟩:=hb.at_ b c;rw[e'];exact k'.mono (ZC.tups s4)
    ·rw[hb.no c,p.old b c];exact Wb.tag
   refine c6 _ B M ⟨VJ s4 a2,a2,?_⟩;rw[yP,a4];exact(G.snoc e6).mono (tD _)
  let⟨s4,a2,G⟩:=C;let ll:(Zx cur (gd l g).bs).length=(gd l g).bs.length:=zX _;rw[yM ∅] at G
  refine⟨J,us,_,Z,M,G,?_,by rw[G.1,ll];lia,λH5 s5=>⟨λI=>?_,λLb vv I c9=>?_⟩⟩
  ·rw[N];exact Lz λb c8=>(br b c8).2.2
  ·refine k1 ?_ H5 ((s3.trans s4).trans s5);rw[ec,Xx,aM (by rw[<-N];exact I)]
  ·rw[N] at I;let⟨eL,p2⟩:=Lx hw vl p c4 o h0 I;let X:=s4.trans s5;let a8:=X _ _ T;let e5:g<cur.length:=by rw[p.len];exact vl.lt g o
   let i2:m.length<=801:=by
    have:=congrArg yD hb.keys;rw[zX,zX,yV,sQ] at this
    lia
   exists _,Z,_,Z,D,_,Z,Yr.k (k:=kI g) a8 (YL ∅)
   let sD:ZC H (upd H5 D (.dK (Zq m (kI g) vv))):=VJ (s3.trans X) nD;let tD:YC H5 (upd H5 D (.dK (Zq m (kI g) vv))):=λc xs e=>by rw[ZM (ZI e a8)];exact e
   let c3:g∉n::rest.take k:=λz=>by
    let nn':=f3;let e2:n::rest=(n::rest.take k)++g::rest.drop (k+1):=by
     show n::rest=n::(rest.take k++g::rest.drop (k+1));rw[<-ed,wB]
    rw[e2,vQ] at nn';exact nn'.2.2 g z g zT Z
   let gs:∀ i,gd (cur.set g (YQ cur (gd cur g).bs)) i=if i=g then YQ cur (gd cur g).bs else gd cur i:=λi=>QL e5
   refine .mk sD (by rw[ZM qD];exact X _ _ V) ZP (cur:=cur.set g (YQ cur (gd cur g).bs)) ?_ ?_ ?_
   ·rw[et,<-uJ];exact p2
   ·rw[ec,Xx,aK (by rw[I];exact λz=>nomatch z)]
   ·rw[et,<-uJ];refine((hb.mono (ZC.tups X)).mono tD).push c3 (λi U=>?_) ?_
    ·rw[gs,aK (show ¬ i=g from λz=>c3 (z ▸ U))]
    ·rw[gs,aM rfl,<-eL];exact(Gh c9).mono tD
 ·rintro σ H3 ⟨s3,V,T,p,ec,hb⟩;rename_i x y cur m
  rw[show (iN rest).length=rest.length from zX _,yM (zY _)] at hb;rw[show (iN rest).length=rest.length from zX _,rN (zY _),Xx] at ec;exact⟨_,Z,k2 cur ec H3 D m s3 nD T hb⟩
end Tw
namespace L2
open PySem PySem.Spec PyProof.Rows
def Ez{d:aj}{o:aG}{a:List (ZR×V)}{g:TG}{r:TS}{D:Yc}{b:St}{H:Hp}(c:Nat->St->Hp->Prop)(u:c 0 b H)(z:∀ i b H,i<=a.length->c i b H->H d=some (.frz o (.dK a)))(A:∀ i p b H,a[i]? = some p->c i b H->g (kV p.1) b H λj l=>r { D with nx:=c (i+1),ct:=c (i+1),bk:=D.nx } j l)(v:∀ b H,c a.length b H->D.nx b H):
  ∃ W:Nat->Nat->St->Hp->Prop,(∃ m,W 0 m b H)/\∀ i m b H,W i m b H ->
   ((MA d o a).stop i H/\D.nx b H)\/((MA d o a).go i H/\∃ N:St->Hp->Prop,(∀ h f,N h f->∃ n,n<m/\W (i+1) n h f)/\∀ x f,(MA d o a).yld i H x f->g x b f λj l=>r { D with nx:=N,ct:=N,bk:=D.nx } j l):=by
 exists λi m b H=>m=a.length-i/\i<=a.length/\c i b H,⟨a.length,by simp,zF _,u⟩
 rintro i m b H ⟨rfl,w,p⟩;let q:=z i b H w p;by_cases k:i<a.length
 ·refine .inr ⟨⟨q,k⟩,c (i+1),λh f B=>⟨a.length-(i+1),∅,Z,k,B⟩,λx f y=>?_⟩
  let⟨e,C,s,t⟩:=y;subst e t;exact A i C b _ s p
 ·let e:i=a.length:=∅
  subst e;exact .inl ⟨⟨q,zY _⟩,v b H p⟩
end L2
namespace Tw
open PySem PySem.Spec L2 PyProof.Rows
variable{jZ kd CS CT CH CK CP CB:aj}
inductive Nz(kd:aj)(H:Hp)(x:Nat->aj)(e d:Nat->V)(a:Nat->aj)(c:Nat->Nat)(i:Nat):Prop
 |mk(b:_)(_:H (x i)=some (.ins kd b (Xp (e i) (d i) (a i) (c i))))
inductive WC(jZ kd:aj):Sp
 |mk{S d lk D:aj}{N:Nat}{kvs lkv:List (ZR×V)}{ls:jf}{rd:jo}{x ab:Nat->aj}{th tg vl:Nat->V}{ho:Nat->Nat}{H:Hp}{Q:VK}{E:XK}:
  Yh jZ H S d lk N kvs ls->(∀ i∈rd,Z5 kvs (kI i)=some (.ref (x i))/\x i≠S)->(∀ i∈rd,Nz kd H x th tg ab ho i)->H D=some (.dK lkv)->D≠d->lkv.map (·.1)=rd.map kI->rd.Nodup->(∀ i∈rd,Z5 lkv (kI i)=some (vl i))->(∀ i∈rd,∀ j∈rd,i≠j->x i≠x j) ->
  (∀ H',(∀ c o,(∀ i∈rd,c≠x i)->H c=some o->H' c=some o)->(∀ i∈rd,Nz kd H' x th vl ab ho i)->Q .non H')->WC jZ kd [.ref S,.ref D] H Q E
abbrev ZPP:jr:=["self","labels","number","twig"]
def QC:ZB ZPP zE5 (Zf J9):=Z4
inductive GF(kd S D:aj)(o:aG)(lkv:List (ZR×V))(rd:jo)(x ab:Nat->aj)(th tg vl:Nat->V)(ho:Nat->Nat)(H:Hp):Nat->L2.St->Hp->Prop
 |mk{k:Nat}{y z:jg}{H2:Hp}:(∀ c o,(∀ i∈rd,c≠x i)->c≠D->H c=some o->H2 c=some o)->H2 D=some (.frz o (.dK lkv))->(∀ i∈rd.take k,Nz kd H2 x th vl ab ho i)->(∀ i∈rd.drop k,Nz kd H2 x th tg ab ho i) ->
  GF kd S D o lkv rd x ab th tg vl ho H k [some (.ref S),some (.ref D),y,z] H2
def BQ(F:Zn K "give_labels" "Shelf.give_labels" J9 f fd)(L:Yd K mg jZ kd)(DT:ZA P w K mg kf ZY 1 jZ "twig_of" zEa (Ze jZ)):ZN P w K mg kf ZY 2 f fd zE5 (WC jZ kd):=by
 refine F.ko QC λa9 A a8 s H vs Q E hr h=>?_;let⟨R,hv,hl,I,a6,hk,a7,a3,hx,k⟩:=h;rename_i S d lk D N a5 m ls rd x ab th tg vl ho
 let nd:=QC.nd;let hu:=WZ hr;let ll:m.length=rd.length:=by have:=congrArg yD hk;simpa using this
 intro Xc;refine⟨_,ZW (HI (Wu PassesOwn.never rfl (Ip (pv 1)) (YZ 2 nd)
  (ZQ (Zs 3 nd (YS (E:=E0) (pv 0) L.cS DT hr YY (ZV (pv 2))))
  (ZW (Ub (pv 3) (Xt hu (pv 1) (pv 2)) rfl))))),?_⟩
 let⟨⟨dS,hS⟩,hd,u⟩:=R;let T:∀ i∈rd,∃ g W,H (x i)=some (.ins kd g W):=λi a=>by
  let⟨g,e⟩:=hl i a;exact⟨g,_,e⟩
 let nD:∀ i∈rd,x i≠D:=λi a=>by
  let⟨g,W,e⟩:=T i a;exact ZI e I
 exists D,m,I,_,Z,D,m,Z,I;intro o;refine Ez (GF kd S D o m rd x ab th tg vl ho H) (.mk (λc Y _ n e=>by rw[ZM n];exact e) ZP (λi a=>by simp at a) (λi a=>?_)) (λi σ H2 _ hP=>by let⟨_,h2,_,_⟩:=hP;exact h2) ?_ ?_
 ·let⟨g,e⟩:=hl i a;exact⟨g,by rw[ZM (nD i a)];exact e⟩
 ·rintro i p σ H2 hp ⟨G,r,t,B⟩;let a:i<rd.length:=by rw[<-ll];exact(yN.mp hp).1
  let ep:p.1=kI rd[i]:=by
   have:=congrArg (λl=>l[i]?) hk;simp only[zS,hp,zW a] at this;exact zB.inj this
  let er:rd[i]? = some rd[i]:=zW a;let X:rd.drop i=rd[i]::rd.drop (i+1):=xI a;let et:rd.take (i+1)=rd.take i++[rd[i]]:=by rw[yP,er];rfl
  let V:rd=rd.take i++rd[i]::rd.drop (i+1):=by rw[<-X,wB]
  let J:rd[i]∈rd:=yJ _;let v:=a7;rw[V,vQ,xR] at v;rw[ep];generalize rd[i]=b at X et V J v⊢;let nS:∀ j∈rd,S≠x j:=λj q=>(hv j q).2.symm;let U:∀(c:aj)(o:HO),H c=some o->(∀ C g W,o≠.ins C g W)->∀ j∈rd,c≠x j:=λc o e n j q=>by
   let⟨g,W,e2⟩:=T j q;exact ZI e e2 (n _ _ _)
  let M:=G _ _ nS (ZI hS I) hS;let a0:=G _ _ (U _ _ hd (by intro _ _ _ z;cases z)) a6.symm hd
  let a2:=G _ _ (U _ _ u (by intro _ _ _ z;cases z)) (ZI u I) u
  let⟨g,a4⟩:=B b (by rw[X];exact zT)
  let a1:Zg H2 D (.int (b:Nat)) (some (vl b)):=.inl ⟨m,kI b,.inr ⟨o,r⟩,Z,(a3 b J).symm⟩;exists _,Z,S,dS,_,Z,M,Z,_,Z,S,d,lk,N,a5,ls,(b:Int),.ref (x b),Z,⟨⟨dS,M⟩,a0,a2⟩,(hv b J).1;exists _,Z,_,Z,D,vl b,Z,a1,_,Z,x b,kd,g,_,Z,a4,L.cT,L.ntg,yU Z;let ne:∀ j∈rd,j≠b->x j≠x b:=λj q n=>hx j q b J n;refine .mk (λc Y n1 n2 e=>by rw[ZM (n1 b J)];exact G c Y n1 n2 e) (by rw[ZM (nD b J).symm];exact r) (λj q=>?_) (λj q=>?_)
  ·rw[et] at q;by_cases z:j=b
   ·subst z;exact⟨g,ZP⟩
   ·let O:j∈rd.take i:=(zJ.mp q).elim id λy=>absurd (zM.mp y) z;let⟨dj,ej⟩:=t j O;exact⟨dj,by rw[ZM (ne j (List.mem_of_mem_take O) z)];exact ej⟩
  ·let z:j≠b:=λz=>v.2.1.1 (z ▸ q);let⟨dj,ej⟩:=B j (by rw[X];exact zI _ q)
   exact⟨dj,by rw[ZM (ne j (List.mem_of_mem_drop q) z)];exact ej⟩
 ·rintro σ H2 ⟨G,r,t,B⟩;rw[ll,yM (zY _)] at t;refine⟨o,m,r,k _ (λc Y n e=>?_) λi a=>?_⟩
  ·by_cases z:c=D
   ·subst z;rw[ZP,<-e,I]
   ·rw[ZM z];exact G c Y n z e
  ·let⟨g,e⟩:=t i a;exact⟨g,by rw[ZM (nD i a)];exact e⟩
def Zo.short{gt:jp}{c:jq}{e:jo}{g:Nat->Nat}(k:WF gt c)(f:Lv c e){i:Nat}{l:jo}(h:Zo c e g i l):l.length<=Wz c (gd c i).h+1:=by
 induction h with
 | top a b=>exact Nat.le_add_left _ _
 | up a b m n=>
  rename_i i j l r
  let d:=Ph k f (i:=i) (j:=j) (by rw[b];exact zT)
  have:=Nx (f.lt j d.2) d.1;rw[yV]
  lia
def Nh:∀{l:jo}{b a:jq}{i:Nat},Xx b l=some a->i∉l->gd a i=gd b i
 | [],b,a,i,h,_=>by rw[Xx] at h;cases h;rfl
 | s::l,b,a,i,h,hi=>by
  rw[Xx] at h;split at h
  ·cases h
  ·rw[Nh h λz=>hi (zI _ z)];unfold gd;rw[zV,uW (λz=>hi (by rw[z];exact zT)),<-zV]
def Qp(a:ju)(rd:jo)(n b:Nat)(c:Nat->aj):ju:=(zN a.length).map λi=>if i∈rd then ⟨(a.getD i .d).x,if i=n then b else (a.getD i .d).th,c i,(a.getD i .d).ab⟩ else a.getD i .d
def N6{a:ju}{rd:jo}{n own:Nat}{tg:Nat->aj}{i:Nat}(h:i<a.length):(Qp a rd n own tg).getD i .d=if i∈rd then ⟨(a.getD i .d).x,if i=n then own else (a.getD i .d).th,tg i,(a.getD i .d).ab⟩ else a.getD i .d:=by
 unfold Qp;rw[zV,zS,List.getElem?_range h];rfl
structure JF(H:Hp)(lv:jo)(as as':ju):Prop where
 x:∀ i∈lv,(as'.getD i .d).x=(as.getD i .d).x
 ab:∀ i∈lv,(as'.getD i .d).ab=(as.getD i .d).ab
 th:∀ i∈lv,(as'.getD i .d).th=(as.getD i .d).th\/H (as'.getD i .d).th=none
section
variable{jZ kd:aj}{H H':Hp}{S d lk:aj}{ts cur:jq}{lv rd:jo}{av:Nat->jo}{ho:Nat->Nat}{as:ju}{kvs:List (ZR×V)}{ls us:jf}{n own:aj}{tg:Nat->aj}
def Gu(R:YD jZ kd H S d lk ts lv av ho as kvs ls)(t:cur.length=ts.length)(hn:n∈rd)(s:∀ i∈rd,i∈lv)(J:H own=none)(L:∀ c o,(∀ i∈rd,c≠(as.getD i .d).x)->H c=some o->H' c=some o)(sh:∀ i,i≠n->(gd cur i).bs=(gd ts i).bs)(hh:∀ i,(gd cur i).h=(gd ts i).h)(E:∀ i,i∉rd->gd cur i=gd ts i)(D:∀ i∈rd,i≠n->(gd ts i).h≠0)(A:∀ i∈rd,Nz kd H' (λi=>(as.getD i .d).x) (λi=>.ref (if i=n then own else (as.getD i .d).th)) (λi=>.ref (tg i)) (λi=>(as.getD i .d).ab) ho i)(N:∀ i∈rd,Z8 H' (Zu (gd cur i)) (.ref (tg i)))(B:H' own=some (.lst us))(h0:(gd cur n).h=0->jU H' (Yk (gd cur n).rows) us)(h1:(gd cur n).h≠0->us=iN (gd cur n).bs):
  YD jZ kd H' S d lk cur lv av ho (Qp as rd n own tg) kvs ls/\JF H lv as (Qp as rd n own tg):=by
 let⟨⟨dS,hS⟩,hd,X⟩:=R.sh;let O:∀ i∈lv,∃ g us,H (as.getD i .d).x=some (.ins kd g us):=λi a=>by
  let⟨g,e⟩:=(R.tw i a).tw.self;exact⟨g,_,e⟩
 let k:∀ c o,(∀ C g fs,o≠.ins C g fs)->H c=some o->H' c=some o:=λc o n e=>L c o (λi a=>by
  let⟨g,us,I⟩:=O i (s i a);exact ZI e I (n _ _ _)) e
 let m:YC H H':=λc xs e=>k c _ (by intro _ _ _ z;cases z) e
 let u:∀ i∈lv,i<as.length:=λi a=>by rw[R.len];exact R.lt i a
 let F:∀ i∈lv,∃ us,H (as.getD i .d).th=some (.lst us):=λi a=>by
  let⟨us,e,_⟩:=(R.tw i a).things;exact⟨us,e⟩
 let r:∀ i∈lv,H (as.getD i .d).ab=some (.lst (iN (av i))):=λi a=>(R.tw i a).tw.above;let v:∀ i∈lv,((Qp as rd n own tg).getD i .d).x=(as.getD i .d).x:=λi a=>by rw[N6 (u i a)];split <;> rfl
 let b:∀ i∈lv,((Qp as rd n own tg).getD i .d).ab=(as.getD i .d).ab:=λi a=>by rw[N6 (u i a)];split <;> rfl
 let f:∀ i∈lv,((Qp as rd n own tg).getD i .d).th=if i=n then own else (as.getD i .d).th:=λi a=>by
  rw[N6 (u i a)];by_cases z:i∈rd
  ·rw[aM z]
  ·rw[aK z,aK (λy=>z (by rw[y];exact hn))]
 let l:∀ i∈lv,own≠(as.getD i .d).th/\own≠(as.getD i .d).ab:=λi a=>by
  let⟨us,e⟩:=F i a;exact⟨(Za e J).symm,(Za (r i a) J).symm⟩
 let P:own≠lk:=(Za X J).symm;refine⟨⟨⟨⟨dS,by rw[t];exact L _ _ (λi a=>(R.own i (s i a)).1.symm) hS⟩,k _ _ (by intro _ _ _ z;cases z) hd,k _ _ (by intro _ _ _ z;cases z) X⟩,R.keys,λi a=>by rw[v i a];exact R.val i a,λi a=>by rw[t];exact R.lt i a,by unfold Qp;simp[R.len,t],λi a=>?_,λi a=>?_,λi j a p w=>?_⟩,v,b,λi a=>?_⟩
 ·let W:=R.tw i a;by_cases z:i∈rd
  ·let e:=N6 (rd:=rd) (n:=n) (own:=own) (tg:=tg) (u i a);rw[aM z] at e;let⟨g,V⟩:=A i z;exists ?_,?_
   ·rw[e];exact⟨⟨g,V⟩,k _ _ (by intro _ _ _ z;cases z) (r i a)⟩
   ·rw[e];by_cases y:i=n
    ·subst y;rw[aM rfl];exact⟨us,B,h0,h1⟩
    ·rw[aK y];let⟨U,e1,I,e3⟩:=W.things;let M:=D i z y;rw[hh i,sh i y];exact⟨U,k _ _ (by intro _ _ _ z;cases z) e1,λq=>absurd q M,e3⟩
   ·rw[e];exact N i z
  ·let e:=N6 (rd:=rd) (n:=n) (own:=own) (tg:=tg) (u i a);rw[aK z] at e;rw[e];let⟨g,V⟩:=W.tw.self;let G:=W.frame m (λo e=>L _ _ (λj p=>(R.two i j a (s j p) λy=>z (by rw[y];exact p)).1) e) (λo e=>k _ _ (by let⟨us,I⟩:=F i a;have:=e.symm.trans I;cases this;intro _ _ _ z;cases z) e) (λo e=>k _ _ (by have:=e.symm.trans (r i a);cases this;intro _ _ _ z;cases z) e)
   exists G.tw,?_
   ·rw[E i z];exact G.things
   ·rw[E i z];exact G.tag
 ·rw[v i a,b i a,f i a];let⟨Y,o2,o3,o4⟩:=R.own i a;by_cases y:i=n
  ·rw[aM y];exact⟨Y,o2,P,(l i a).2.symm⟩
  ·rw[aK y];exact⟨Y,o2,o3,o4⟩
 ·rw[v i a,b i a,f i a,v j p,b j p,f j p];let⟨Q,T,t3,t4⟩:=R.two i j a p w;by_cases y:i=n
  ·let K:j≠n:=λz=>w (y.trans z.symm);rw[aM y,aK K];exact⟨Q,T,t3,(l j p).1⟩
  ·rw[aK y];by_cases K:j=n
   ·rw[aM K];exact⟨Q,T,(l i a).2.symm,(l i a).1.symm⟩
   ·rw[aK K];exact⟨Q,T,t3,t4⟩
 ·rw[f i a];by_cases y:i=n
  ·rw[aM y];exact .inr J
  ·rw[aK y];exact .inl Z
end
abbrev JY:Stmt:=XE (top 35) 22
def Fp(l:jo):iN l=(l.map λb:Nat=>(b:Int)).map V.int:=by rw[yZ];rfl
def C1(l:jo)(b:Nat):(l.map λb:Nat=>(b:Int)).erase (b:Int)=(l.erase b).map λb:Nat=>(b:Int):=by
 induction l with
 | nil=>rfl
 | cons a l c=>
  by_cases z:a=b
  ·subst z;simp
  ·let d:¬ ((a:Int)=(b:Int)):=∅
   rw[yT,List.erase_cons_tail (by simpa using d),List.erase_cons_tail (by simpa using z),c]
   rfl
def QQ(bs:jo)(b:Nat)(a:Nat->jo):Nat->jo:=λi=>if i∈bs then (a i).erase b else a i
def Xa(bs:jo)(a:Nat->Nat):Nat->Nat:=λi=>if i∈bs then a i+1 else a i
inductive Yq(jZ kd:aj):Sp
 |mk{S d m l:aj}{p:jq}{g:jo}{i:Nat->jo}{k:Nat->Nat}{a:ju}{e:List (ZR×V)}{n:jf}{bs:jo}{j:Nat}{H:Hp}{Q:VK}{E:XK}:
  YD jZ kd H S d m p g i k a e n->H l=some (.lst (iN bs))->bs.Nodup->(∀ b∈bs,b∈g/\j∈i b)->(∀ b:Nat,b∈g->l≠(a.getD b .d).ab) ->
  (∀ h:Hp,(∀ c o,(∀ b:Nat,b∈g->c≠(a.getD b .d).x/\c≠(a.getD b .d).ab)->H c=some o->h c=some o)->YD jZ kd h S d m p g (QQ bs j i) (Xa bs k) a e n->Q .non h)->Yq jZ kd [.ref S,.int (j:Nat),.ref l] H Q E
def WJ:ZB G8 zEj (Zf JY):=Z4
inductive Hw(jZ kd S d lk l:aj)(ts:jq)(lv:jo)(av:Nat->jo)(ho:Nat->Nat)(as:ju)(kvs:List (ZR×V))(ls:jf)(bs:jo)(st:Nat)(H:Hp):Nat->L2.St->Hp->Prop
 |mk{i:Nat}{x y:jg}{H2:Hp}:(∀ c o,(∀ b:Nat,b∈lv->c≠(as.getD b .d).x/\c≠(as.getD b .d).ab)->H c=some o->H2 c=some o)->YD jZ kd H2 S d lk ts lv (QQ (bs.take i) st av) (Xa (bs.take i) ho) as kvs ls ->
  Hw jZ kd S d lk l ts lv av ho as kvs ls bs st H i [some (.ref S),some (.int (st:Nat)),some (.ref l),x,y] H2
def Bg(F:Zn K "give_back" "Shelf.give_back" JY f fd)(L:Yd K mg jZ kd)(DT:ZA P w K mg kf ZY 1 jZ "twig_of" zEa (Ze jZ)):ZN P w K mg kf ZY 2 f fd zEj (Yq jZ kd):=by
 refine F.ko WJ λa3 A a2 s H vs Q E hr h=>?_;let⟨R,hl,M,V,a0,k⟩:=h;rename_i S d lk l ts lv p j g O ls bs G
 let nd:=WJ.nd;intro Xc;refine⟨_,ZW (Wu PassesOwn.never rfl (Y9 (pv 2)) (YZ 3 nd)
  (ZQ (Zs 4 nd (YS (E:=E0) (pv 0) L.cS DT hr YY (ZV (pv 3))))
  (ZQ (MN (pv 4) ZO Fj)
  (ZW (XF (Vs yF qG qE Fs (Xg (pv 4) rfl) (ZV (pv 1)))))))),?_⟩
 refine⟨_,Z,l,Z,⟨_,ZG.of hl⟩,UT (K:=K) (a:=l) (xs:=iN bs) (Hw jZ kd S d lk l ts lv p j g O ls bs G H)
  (.mk (λc o _ e=>e) (by
   let e1:QQ [] G p=p:=funext λi=>aK (by simp)
   let e2:Xa [] j=j:=funext λi=>aK (by simp)
   rw[show bs.take 0=[] from rfl,e1,e2];exact R)) ?_ ?_ ?_⟩
 ·rintro i σ t _ ⟨N,R2⟩;refine ZG.of (N _ _ (λb V=>⟨?_,a0 b V⟩) hl);let⟨dx,I⟩:=(R.tw b V).tw.self;exact ZI hl I
 ·rintro i u σ t B ⟨N,R2⟩;unfold iN at B;rw[zS] at B;let⟨b,X,rfl⟩:=yO.mp B;let⟨r,a1⟩:=V b (zG X);let J:b∉bs.take i:=λz=>by
   let hs:bs=bs.take i++b::bs.drop (i+1):=by
    let⟨hi,e⟩:=yN.mp X;rw[<-e,<-xI hi,wB]
   rw[hs,vQ] at M;exact M.2.2 b z b (by simp) Z
  let Y:Xa (bs.take i) j b=j b:=aK J;let W:QQ (bs.take i) G p b=p b:=aK J;let⟨dS,hS⟩:=R2.sh.self;let Wb:=R2.tw b r;let⟨q,I⟩:=Wb.tw.self;let v:=Wb.tw.above;rw[Y] at I;rw[W] at v;exists _,Z,S,dS,_,Z,hS,Z,_,Z,S,d,lk,ts.length,O,ls,(b:Int),.ref (g.getD b .d).x,Z,R2.sh,R2.val b r;exists _,Z,(g.getD b .d).x,kd,q,_,.int (j b:Nat),Z,I,L.cT,L.nho,Z,_,_,Z,Z,q,_,I,yU Z;let C:upd t (g.getD b .d).x (.ins kd q (Ye "holds" (.int (((j b:Nat):Int)+1)) (Xp (.ref (g.getD b .d).th) (.ref (g.getD b .d).tg) (g.getD b .d).ab (j b)))) (g.getD b .d).x=some (.ins kd q (Xp (.ref (g.getD b .d).th) (.ref (g.getD b .d).tg) (g.getD b .d).ab (j b+1))):=by rw[ZP];rfl
  let T:(g.getD b .d).ab≠(g.getD b .d).x:=ZI v I;let m:upd t (g.getD b .d).x (.ins kd q (Ye "holds" (.int (((j b:Nat):Int)+1)) (Xp (.ref (g.getD b .d).th) (.ref (g.getD b .d).tg) (g.getD b .d).ab (j b)))) (g.getD b .d).ab=some (.lst (iN (p b))):=by rw[ZM T];exact v
  let D:∀ c o,c≠(g.getD b .d).x->t c=some o->upd t (g.getD b .d).x (.ins kd q (Ye "holds" (.int (((j b:Nat):Int)+1)) (Xp (.ref (g.getD b .d).th) (.ref (g.getD b .d).tg) (g.getD b .d).ab (j b)))) c=some o:=λc o n e=>by rw[ZM n];exact e
  generalize upd t (g.getD b .d).x (.ins kd q (Ye "holds" (.int (((j b:Nat):Int)+1)) (Xp (.ref (g.getD b .d).th) (.ref (g.getD b .d).tg) (g.getD b .d).ab (j b))))=H3 at C m D⊢;exists _,Z,(g.getD b .d).x,kd,q,_,.ref (g.getD b .d).ab,Z,C,L.cT,L.nab,Z,.inl ⟨Z,_,ZG.of m⟩,_,Z,(g.getD b .d).ab,(p b).map λb:Nat=>(b:Int),(G:Nat),Z,Z,by rw[<-Fp];exact m,zE.mpr ⟨G,a1,Z⟩
  rw[C1,<-Fp];let U:bs.take (i+1)=bs.take i++[b]:=by rw[yP,X];rfl
  refine .mk (λc o hc e=>?_) ?_
  ·let⟨n1,n2⟩:=hc b r;rw[ZM n2];exact D _ _ n1 (N c o hc e)
  ·refine R2.set1 r (λc n=>?_) (λc n=>?_) ⟨q,?_⟩ ?_ λc o n1 n2 e=>?_
   ·unfold QQ;rw[U];by_cases z:c∈bs.take i
    ·rw[aM z,aM (yC _ z)]
    ·rw[aK z,aK (λy=>(zJ.mp y).elim z λy=>n (zM.mp y))]
   ·unfold Xa;rw[U];by_cases z:c∈bs.take i
    ·rw[aM z,aM (yC _ z)]
    ·rw[aK z,aK (λy=>(zJ.mp y).elim z λy=>n (zM.mp y))]
   ·rw[ZM (Ne.symm T),show Xa (bs.take (i+1)) j b=j b+1 from aM (by rw[U];simp)];exact C
   ·rw[ZP,show QQ (bs.take (i+1)) G p b=(p b).erase G from aM (by rw[U];simp)]
   ·rw[ZM n2];exact D _ _ n1 e
 ·rintro σ t ⟨N,R2⟩;rw[show (iN bs).length=bs.length from zX _,yM (zY _)] at R2;exact k t N R2
def Wk(a:jq)(n:Nat)(bs:jo):jo:=bs.filter λb=>decide (b∉(gd a n).bs)
def Vi(a:jq)(n:Nat)(bs:jo):jo:=(gd a n).bs.filter λb=>decide (b∉bs)
def Up(a:jq)(n:Nat)(bs:jo)(b:Nat->jo):Nat->jo:=QQ (Vi a n bs) n (Wt (Wk a n bs) n b)
def Pv(a:jq)(n:Nat)(bs:jo)(b:Nat->Nat):Nat->Nat:=Xa (Vi a n bs) (Y2 (Wk a n bs) b)
structure QY(ts:jq)(lv:jo)(ho:Nat->Nat)(n:Nat)(ns:jA)(bs rest:jo):Prop where
 h0:(gd ts n).h≠0
 rd:Zo ts lv ho n (n::rest)
 eb:ns=bs.map (λb:Nat=>(b:Int))
 hb:∀ b∈bs,b∈lv
inductive Ui(ts:jq)(lv:jo)(ho:Nat->Nat)(n:Nat)(ns:jA):jf->Prop
 | leaf:(gd ts n).h=0->Ui ts lv ho n ns [.str "stem"]
 | shared {j:Nat}:(gd ts n).h≠0->Sh ts lv ho n (some j)->Ui ts lv ho n ns [.str "shared",.int (j:Nat)]
 | twig {rest:jo} {x:Int}:(gd ts n).h≠0->Zo ts lv ho n (n::rest)->ns.find? (λx=>!Yf lv x)=some x->Ui ts lv ho n ns [.str "twig",.int x]
 | stem {bs rest:jo}:QY ts lv ho n ns bs rest->¬ PJ (Zx ts bs) (some ((gd ts n).h:Nat))->Ui ts lv ho n ns [.str "stem"]
 | up {bs rest:jo}:QY ts lv ho n ns bs rest->PJ (Zx ts bs) (some ((gd ts n).h:Nat))->Xx (ts.set n (YQ ts bs)) rest=none->Ui ts lv ho n ns [.str "stem"]
 | held {bs rest:jo} {cur:jq} {b:Nat}:QY ts lv ho n ns bs rest->PJ (Zx ts bs) (some ((gd ts n).h:Nat))->Xx (ts.set n (YQ ts bs)) rest=some cur->(Wk ts n bs).find? (λb=>decide (ho b=0))=some b->Ui ts lv ho n ns [.str "held",.int (b:Nat)]
inductive Nt(a:jq)(d:jo)(c:Nat->Nat)(n:Nat)(e:jA)(bs rest:jo)(cur:jq):Prop
 | mk:QY a d c n e bs rest->PJ (Zx a bs) (some ((gd a n).h:Nat))->Xx (a.set n (YQ a bs)) rest=some cur->(Wk a n bs).find? (λb=>decide (c b=0))=none->Nt a d c n e bs rest cur
def F0{bs a:jo}{ns:jA}(c:ns=bs.map (λb:Nat=>(b:Int)))(d:ns=a.map (λb:Nat=>(b:Int))):bs=a:=by
 let e:=c.symm.trans d;have:=congrArg (List.map vT) e;simpa [yZ,Function.comp_def] using this
def ZMw{bs f:jo}{g:jA}{x:Int}(h:g=bs.map (λb:Nat=>(b:Int)))(i:∀ b∈bs,b∈f)(e:g.find? (λx=>!Yf f x)=some x):False:=by
 let d:=sB e;let a:=tE e;rw[h] at d;let⟨b,c,rfl⟩:=zE.mp d;have:=i b c;unfold Yf at a;simp at a;exact a this
section
variable{ts:jq}{lv:jo}{ho:Nat->Nat}{n:Nat}{ns:jA}
def QY.uniq{bs b rest a:jo}(h:QY ts lv ho n ns bs rest)(g:QY ts lv ho n ns b a):bs=b/\rest=a:=⟨F0 h.eb g.eb,by cases h.rd.uniq g.rd;rfl⟩
def QY.no{bs rest:jo}(h:QY ts lv ho n ns bs rest){j:Nat}(g:Sh ts lv ho n (some j)):False:=by cases g.uniq h.rd.sh
def Ui.no{k:jf}{bs rest:jo}{cur:jq}(h:Ui ts lv ho n ns k)(g:Nt ts lv ho n ns bs rest cur):False:=by
 let⟨a,b,c,e⟩:=g
 cases h with
 | leaf d=>exact a.h0 d
 | shared _ d=>exact a.no d
 | twig _ _ d=>exact ZMw a.eb a.hb d
 | stem d f=>
  cases(a.uniq d).1;exact f b
 | up d _ f=>
  let⟨i,j⟩:=a.uniq d;subst i j;rw[c] at f;cases f
 | held d _ _ f=>
  cases(a.uniq d).1;cases e.symm.trans f
end
section
variable{gt:jp}{ts:jq}{lv:jo}{ho:Nat->Nat}{n:Nat}{bs:jo}
def FG{L:YN}(h:over (Zx ts bs)=some L):((Zx ts bs).getD 0 .d).h=((gd ts (bs.getD 0 0)).h:Nat):=by
 let a:0<bs.length:=by
  unfold over at h;split at h
  ·rename_i c
   have:=c.1;unfold Zx at this;rw[zX] at this
   lia
  ·cases h
 rw[Of a];rfl
def FV(j:WF gt ts)(v:Lv ts lv)(r:∀ b∈bs,b∈lv)(h:PJ (Zx ts bs) (some ((gd ts n).h:Nat))):∃ L,over (Zx ts bs)=some L/\L=Zu (YQ ts bs)/\bs.Nodup/\bs.length<=4/\(YQ ts bs).h=(gd ts n).h/\Zt gt ts n (YQ ts bs):=by
 let⟨m,o⟩:=h;let⟨L,g⟩:=Option.ne_none_iff_exists'.mp m;let f:∀ b∈bs,b<ts.length:=λb h=>v.lt b (r b h);let⟨k,i,p,q,s,u,t⟩:=MG j f g;let l:=o _ Z;rw[FG g] at l;let⟨a,b,c,d,e⟩:=Ia j f g;refine⟨L,g,k,i,q,?_,⟨a,b,c,d,e⟩⟩;show (gd ts (bs.getD 0 0)).h+1=(gd ts n).h
 lia
def MM(b:Lv ts lv)(a:n∈lv)(i:Nat):(abv ts lv i).Perm ((if i∈(gd ts n).bs then [n] else [])++(lv.erase n).filter λj=>decide (i∈(gd ts j).bs)):=by
 let p:(lv.filter λj=>decide (i∈(gd ts j).bs)).Perm ((n::lv.erase n).filter λj=>decide (i∈(gd ts j).bs)):=(List.perm_cons_erase a).filter _;unfold abv;refine p.trans ?_;rw[wT];by_cases z:i∈(gd ts n).bs
 ·rw[aM z,aM (aJ z)];exact vX.refl _
 ·rw[aK z,aK (by simpa using z)]
  exact vX.refl _
def At{cur:jq}(p:Lv ts lv)(z:Lv cur lv)(m:n∈lv)(x:∀ j∈lv,j≠n->(gd cur j).bs=(gd ts j).bs)(s:(gd cur n).bs=bs)(a:Nat->jo)(r:∀ i∈lv,(a i).Perm (abv ts lv i))(i:Nat)(t:i∈lv):(Up ts n bs a i).Perm (abv cur lv i):=by
 let w:lv.Nodup:=p.up.imp λh=>zK h;let c:=(r i t).trans (MM p m i);let k:=MM (i:=i) z m;let q:((lv.erase n).filter λj=>decide (i∈(gd cur j).bs))=(lv.erase n).filter λj=>decide (i∈(gd ts j).bs):=vR λj u=>by
  let e:=(List.Nodup.mem_erase_iff w).mp u;rw[x j e.2 e.1]
 rw[q,s] at k;generalize ((lv.erase n).filter λj=>decide (i∈(gd ts j).bs))=F at c k;let g:i∈Wk ts n bs ↔ i∈bs/\i∉(gd ts n).bs:=by unfold Wk;simp
 let f:i∈Vi ts n bs ↔ i∈(gd ts n).bs/\i∉bs:=by unfold Vi;simp
 refine vX.trans ?_ k.symm;by_cases d:i∈(gd ts n).bs
 ·rw[aM d] at c;let v:i∉Wk ts n bs:=λy=>(g.mp y).2 d;let l:Wt (Wk ts n bs) n a i=a i:=aK v;by_cases b:i∈bs
  ·rw[aM b];have:Up ts n bs a i=a i:=by
    unfold Up QQ;rw[aK (λy=>(f.mp y).2 b),l]
   rw[this];exact c
  ·rw[aK b];have:Up ts n bs a i=(a i).erase n:=by
    unfold Up QQ;rw[aM (f.mpr ⟨d,b⟩),l]
   rw[this];have:=c.erase n;simpa using this
 ·rw[aK d] at c;let o:i∉Vi ts n bs:=λy=>d (f.mp y).1;by_cases b:i∈bs
  ·rw[aM b];have:Up ts n bs a i=a i++[n]:=by
    unfold Up QQ Wt;rw[aK o,aM (g.mpr ⟨b,d⟩)]
   rw[this];exact(List.perm_append_comm).trans (c.append_left [n])
  ·rw[aK b];have:Up ts n bs a i=a i:=by
    unfold Up QQ Wt;rw[aK o,aK (λy=>b (g.mp y).1)]
   rw[this];exact c
def ZKM{cur:jq}(m:Lv ts lv)(u:Lv cur lv)(l:n∈lv)(t:∀ j∈lv,j≠n->(gd cur j).bs=(gd ts j).bs)(q:(gd cur n).bs=bs)(p:∀ b∈Wk ts n bs,1<=ho b)(i:Nat)(v:i∈lv):(abv cur lv i).length+Pv ts n bs ho i=(abv ts lv i).length+ho i:=by
 let s:lv.Nodup:=m.up.imp λh=>zK h;let e:=(MM (i:=i) m l).length_eq;let d:=(MM (i:=i) u l).length_eq;let o:((lv.erase n).filter λj=>decide (i∈(gd cur j).bs))=(lv.erase n).filter λj=>decide (i∈(gd ts j).bs):=vR λj r=>by
  let f:=(List.Nodup.mem_erase_iff s).mp r;rw[t j f.2 f.1]
 rw[o,q,zH] at d;rw[zH] at e;generalize ((lv.erase n).filter λj=>decide (i∈(gd ts j).bs))=F at e d;let g:i∈Wk ts n bs ↔ i∈bs/\i∉(gd ts n).bs:=by unfold Wk;simp
 let k:i∈Vi ts n bs ↔ i∈(gd ts n).bs/\i∉bs:=by unfold Vi;simp
 unfold Pv Xa Y2;by_cases c:i∈(gd ts n).bs
 ·rw[aM c] at e;by_cases a:i∈bs
  ·rw[aM a] at d;rw[aK (λy=>(k.mp y).2 a),aK (λy=>(g.mp y).2 c)]
   lia
  ·rw[aK a] at d;rw[aM (k.mpr ⟨c,a⟩),aK (λy=>(g.mp y).2 c)];simp at e d
   lia
 ·rw[aK c] at e;by_cases a:i∈bs
  ·rw[aM a] at d;rw[aK (λy=>c (k.mp y).1),aM (g.mpr ⟨a,c⟩)];have:=p i (g.mpr ⟨a,c⟩);simp at e d
   lia
  ·rw[aK a] at d;rw[aK (λy=>c (k.mp y).1),aK (λy=>a (g.mp y).1)]
   lia
end
abbrev Jf:Stmt:=XE (top 35) 11
structure XZ(K:zZ)(mg:jb)(nm:Str)(C:aj):Prop where
 at_:mg nm=some (.ref C)
 exk:vV K C QX "ValueError.__new__" = true
 kp:yQ K (.ref C)=true
 mB:yR K C (.type "BaseException")=some true
 ty:yE K (.ref C)=some (.type "type")
def IX{K:zZ}{p:aj}{bs cs:jo}{n:L2.St}{l:jo}{H:Hp}{m:TT}{Q:VK}(o:bs.length<=900)(e:H p=some (.lst (iN bs)))(d:∀ (a:Hp) (j:Nat) (R:Bool->Hp->Prop),j∈bs->ZC H a->R (decide (j∉cs)) a->m (Q2 n l (.int (j:Nat))) a R)(k:∀ (D:aj) (a:Hp),ZC H a->H D=none->a D=some (.lst (iN (bs.filter λb=>decide (b∉cs))))->Q (.ref D) a):Xs (OO K p) n l m (VY 0) H Q:=
 No bs (λj=>decide (j∉cs)) o (λi f c g=>⟨_,.int (bs[i]:Nat),ZG.of (c _ _ e),by simp[iN,zW g]⟩) (λi f x q c g h=>⟨h.1,h.2 _ (ZG.of (c _ _ e))⟩) (λf c=>⟨_,ZG.of (c _ _ e),by simp[iN]⟩) d k
def N0(x:Nat)(l:jo):(if true=true then !ND (.int (x:Nat)) (iN l) else ND (.int (x:Nat)) (iN l))=decide (x∉l):=by
 rw[aM rfl,Gn,decide_not]
inductive YT(gt:jp)(jZ kd CS CT CH CD:aj):Sp
 |mk{S d lk l:aj}{ts:jq}{lv:jo}{av:Nat->jo}{ho:Nat->Nat}{as:ju}{kvs:List (ZR×V)}{ls:jf}{n:Nat}{ns:jA}{H:Hp}{Q:VK}{E:XK}:
  Xz gt jZ kd H S d lk ts lv av ho as kvs ls->n∈lv->lv.length<=800->H l=some (.lst (ns.map V.int))->ns.length<=100 ->
  (Ui ts lv ho n ns [.str "stem"]->∀ H',ZC H H'->E (.ref CS) none H') ->
  (∀ j:Nat,Ui ts lv ho n ns [.str "shared",.int (j:Nat)]->Vj CD (j:Nat) E H) ->
  (∀ x:Int,Ui ts lv ho n ns [.str "twig",.int x]->Vj CT x E H) ->
  (∀ b:Nat,Ui ts lv ho n ns [.str "held",.int (b:Nat)]->Vj CH (b:Nat) E H) ->
  (∀ bs rest cur,Nt ts lv ho n ns bs rest cur->∀(H':Hp)(as':ju),(∀ c o,(∀ i:Nat,i∈lv->c≠(as.getD i .d).x/\c≠(as.getD i .d).ab)->H c=some o->H' c=some o)->YD jZ kd H' S d lk cur lv (Up ts n bs av) (Pv ts n bs ho) as' kvs ls->JF H lv as as'->Q .non H') ->
  YT gt jZ kd CS CT CH CD [.ref S,.int (n:Nat),.ref l] H Q E
abbrev Cl:jr:=["self","number","numbers","twig","road","old","branches","label","labels","new"]
def VW:ZB Cl zEp (Zf Jf):=Z4
def AZ{gt:jp}(F:Zn K "change_stem" "Shelf.change_stem" Jf f fd)(m2:K.In kf)(T:YR mg)(L:Yd K mg jZ kd)(ZS:XZ K mg "NoStem" CS)(DT:ZA P w K mg kf ZY 1 jZ "twig_of" zEa (Ze jZ))(DI:ZD P w K mg kf 1 "is_stem" zE8 (XA kd))(DR:ZA P w K mg kf (YB P w) 3 jZ "road_up" zEa (WP gt jZ kd CD))(DL:ZA P w K mg kf (YB P w) 5 jZ "labels_of" zEe (Yo jZ kd CT))(DO:Uj P w K mg kf 9 "label_over" zFb (X9 CS))(DU:ZA P w K mg kf (YB P w) 10 jZ "labels_up" zEy (XJ gt jZ kd CS))(DC:ZA P w K mg kf (YB P w) 3 jZ "check_held" zEe (YM jZ kd CH))(DG:ZA P w K mg kf ZY 2 jZ "give_labels" zE5 (WC jZ kd))(DK:ZA P w K mg kf ZY 2 jZ "take_over" zEj (Yp jZ kd))(DB:ZA P w K mg kf ZY 2 jZ "give_back" zEj (Yq jZ kd)):
  ZN P w K mg kf (YB P w) 11 f fd zEp (YT gt jZ kd CS CT CH CD):=by
 refine F.kD VW λt5 A r9 s H vs Q E hr h=>?_;let⟨U,u,t2,hl,i0,kS,kD,kT,kH,kY⟩:=h;rename_i S d lk l m J av N k a5 ls n ns
 let nd:=VW.nd;let⟨t0,m0⟩:=T.height;let l0:=hr.mono (show 1<=10 by lia)
 let e0:=hr.mono (show 2<=10 by lia)
 let l1:=hr.mono (show 3<=10 by lia)
 let r0:=hr.mono (show 5<=10 by lia)
 let r1:=hr.mono (show 9<=10 by lia)
 intro Xc;refine⟨_,ZQ (Zs 3 nd (YS (E:=E0) (pv 0) L.cS DT l0 YY (ZV (pv 1))))
  (ZQ (Z1 (Xv (Yg (Zm DI l0 (ZV (pv 3))))) (ZW (MR WY (N9 m2 ZS.at_ ZS.exk) ZS.kp ZS.mB ZS.ty rfl)) Z6)
  (ZQ (Zs 4 nd (YS (E:=E) (pv 0) L.cS DR l1 (Ud WY λ_ _ _ h=>h) (ZV (pv 1))))
  (ZQ (Ni (i:=5) nd rfl (Or.inr rfl) (Xg (pv 3) rfl))
  (ZQ (Ni (i:=6) nd rfl (Or.inr rfl) (WQ Ue rfl T.list Vw (ZV (pv 2))))
  (ZQ (Zs 7 nd (Ll (E:=E) DO r1 (Ud WY λ_ _ _ h=>h) (ZV (YS (E:=E) (pv 0) L.cS DL r0 (Ud WY λ_ _ _ h=>h) (ZV (pv 6))))))
  (ZQ (Z1 (YI PZ (Zi K (pv 7) (VS (v:=.int 0) rfl m0 ⟨_,rfl⟩)) (Zi K (Xg (pv 3) rfl) (VS (v:=.int 0) rfl m0 ⟨_,rfl⟩)) (Z0 _)) (ZW (MR WY (N9 m2 ZS.at_ ZS.exk) ZS.kp ZS.mB ZS.ty rfl)) Z6)
  (ZQ (Zs 8 nd (YS (E:=E) (pv 0) L.cS DU hr (Ud WY λ_ _ _ h=>h) (Zj (pv 4) (pv 7))))
  (ZQ (Og (i:=9) [5] ["old"] nd rfl rfl rfl (Y9 (pv 6)) (λ_ _ _ _ _=>Q6 (YI (r:=PM K true) Nd (pv 0) (pv 1) Z)) (λ_ _ _ _ _=>pv 0) ⟨rfl,.inl rfl,rfl,trivial⟩)
  (ZQ (XF (YS (E:=E) (pv 0) L.cS DC l1 (Ud WY λ_ _ _ h=>h) (ZV (pv 9))))
  (ZQ (Ub (pv 3) (pv 6) rfl)
  (ZQ (XF (YS (E:=E0) (pv 0) L.cS DG e0 YY (ZV (pv 8))))
  (ZQ (XF (YS (E:=E0) (pv 0) L.cS DK e0 YY (Zj (pv 1) (pv 9))))
  (ZW (XF (YS (E:=E0) (pv 0) L.cS DB e0 YY (Zj (pv 1) (UD [6] ["branches"] rfl (Y9 (pv 5)) (λ_ _ _ _ _=>Q6 (YI (r:=PM K true) Nd (pv 0) (pv 1) Z)) (λ_ _ _ _ _=>pv 0) ⟨rfl,.inl rfl,rfl,trivial⟩))))))))))))))))),?_⟩
 let R:=U.sh;let⟨dS,hS⟩:=R.sh.self;let W:=R.tw n u;let⟨dt,hx⟩:=W.tw.self;let⟨s9,vlo,vhi,c0,l2,_,_⟩:=id W.tag;let c0:(k.getD n .d).tg=s9:=V.ref.inj c0;exists _,Z,S,dS,_,Z,hS,Z,_,Z,S,d,lk,m.length,a5,ls,(n:Int),.ref (k.getD n .d).x,Z,R.sh,R.val n u;exists _,Z,(k.getD n .d).x,_,(k.getD n .d).tg,_,_,_,_,_,Z,W.tw,by rw[c0];exact l2,_,Z
 by_cases h0:(gd m n).h=0
 case pos=>
  rw[aI (show ¬ (Zu (gd m n)).h > 0 by show ¬ ((gd m n).h:Int) > 0;lia)]
  exact YJ (kS (.leaf h0) H (ZC.refl H))
 rw[aJ (show (Zu (gd m n)).h > 0 by show ((gd m n).h:Int) > 0;lia)]
 refine Zp ?_;refine⟨_,Z,S,dS,_,Z,hS,Z,_,Z,S,d,lk,m,J,av,N,k,a5,ls,n,Z,U,u,λr l' H1 s1 nr p8 rd=>?_,λj hj=>kD j (.shared h0 hj)⟩;let⟨rest,el⟩:=rd.ne;subst el;let R1:=R.same s1;let⟨n9,r4⟩:=(R1.tw n u).tw.self;exists _,Z,(k.getD n .d).x,kd,n9,_,.ref (k.getD n .d).th,Z,r4,L.cT,L.nth,Z;exists _,Z,l,ns.map V.int,Z,.inl (ZG.of (s1 _ _ hl));intro q c6;let⟨H2,eU,g2,a1⟩:=Wc c6 (.lst (ns.map V.int));rw[eU];let s2:=s1.trans g2;let a7:H q=none:=s1.free c6;let R2:=R.same s2;let⟨n5,o9⟩:=R2.sh.self;exists _,Z,S,n5,_,Z,o9,Z,_,Z,S,d,lk,q,m,J,av,N,k,a5,ls,ns,Z,R2,a1,i0,λx hx=>(kT x (.twig h0 rd hx)).mono s2;intro bs eb hb D2 us H3 s3 nD2 o5 i8;let B:QY m J N n ns bs rest:=⟨h0,rd,eb,hb⟩;let i7:∀ b∈bs,b<m.length:=λb h=>U.vl.lt b (hb b h);let t9:ns.length=bs.length:=by rw[eb,zX]
 let lus:us.length=bs.length:=by rw[i8.1];exact zX _
 let m4:=s2.trans s3;refine⟨D2,us,Zx m bs,Z,o5,i8,Lz (λb g=>U.wf b _ (Ym (i7 b g))),∅,λH4 s4=>⟨λO=>kS (.stem B λy=>y.1 O) H4 (m4.trans s4),λLb v O kv=>?_⟩⟩
 let X:=m4.trans s4;let R4:=R.same X;let kl:=NL kv;let⟨tl,tlo,thi,rfl,r2,t8,t7⟩:=id kl;let⟨o0,r5⟩:=(R4.tw n u).tw.self;let l3:=X _ _ l2;refine⟨_,Z,.inr (.inl ⟨tl,_,_,.int Lb.h,rfl,rfl,Zb.of r2,Xk (j:=0) rfl,_,rfl,(k.getD n .d).x,kd,o0,_,.ref (k.getD n .d).tg,rfl,r5,L.cT,L.ntg,rfl,.inr (.inl ⟨(k.getD n .d).tg,_,_,.int (Zu (gd m n)).h,rfl,rfl,Zb.of (by rw[c0];exact l3),Xk (j:=0) rfl,rfl,_,rfl,?_⟩)⟩)⟩
 let⟨o2,_,_,_,t6,_,_⟩:=MG U.wf i7 O;let e8:Lb.h=((Zx m bs).getD 0 .d).h+1:=by
  rw[o2,FG O];rfl
 by_cases hh:Lb.h=(Zu (gd m n)).h
 case neg=>
  let e:(!decide (V.int Lb.h=V.int (Zu (gd m n)).h))=true:=by rw[aI (λy=>hh (V.int.inj y))];rfl
  rw[e];exact YJ (kS (.stem B λy=>hh (by rw[e8];exact y.2 _ Z)) H4 X)
 let e:(!decide (V.int Lb.h=V.int (Zu (gd m n)).h))=false:=by rw[aJ (congrArg V.int hh)];rfl
 rw[e];refine Zp ?_;let ov:PJ (Zx m bs) (some ((gd m n).h:Nat)):=⟨(by rw[O];intro z;cases z),λh' z=>by cases z;rw[<-e8];exact hh⟩
 let⟨L',o7,o1,n4,b4,th,m7⟩:=FV U.wf U.vl hb ov;cases O.symm.trans o7;subst o1;let l8:=U.l800;let s8:=rd.short U.wf U.vl;let ral:=Kg m (gd m n).h;let rl:rest.length<=800:=by
  rw[yV] at s8
  lia
 let⟨f1,f2,f3,f4⟩:=rd.facts U.wf U.vl u;let⟨n6,p1⟩:=R4.sh.self;let p9:=((g2.trans s3).trans s4) _ _ p8;refine⟨_,Z,S,n6,_,Z,p1,Z,_,Z,_,Z,.mk R4 U.wf U.vl u rd rl p9 th hb m7 kl (λec H' s'=>kS (.up B ov ec) H' (X.trans s')) λcur ec H5 D e1 s5 nD hD i9=>?_⟩;let c3:=X.trans s5;let R5:=R.same c3;let eI:ns.map V.int=iN bs:=by rw[eb,yZ];rfl
 rw[eI] at a1;let I:=((s3.trans s4).trans s5) _ _ a1;let⟨ws,l4,_,c8⟩:=W.things;let c8:=c8 h0;subst c8;let l5:=c3 _ _ l4;let t4:(gd m n).bs.length<=4:=((U.wf n _ (Ym (U.vl.lt n u))).stem h0).2.1;refine⟨_,Z,q,Z,⟨_,ZG.of I⟩,IX (cs:=(gd m n).bs) ∅ I (λHq j Rq hj sq hR=>⟨_,Z,_,Z,(k.getD n .d).th,_,Z,.inl (ZG.of (sq _ _ l5)),Z,Oj _,_,Z,by rw[N0];exact hR⟩) λLW H6 s6 r8 i2=>?_⟩
 let e4:=c3.trans s6;let m3:H LW=none:=c3.free r8;let R6:=R.same e4;let⟨n7,p2⟩:=R6.sh.self;let e3:∀ b∈Wk m n bs,b∈J:=λb h=>hb b (yW.mp h).1;exists _,Z,S,n7,_,Z,p2,Z,_,Z,S,d,lk,LW,m,J,av,N,k,a5,ls,Wk m n bs,Z,R6,i2,e3,λb hf=>(kH b (.held B ov ec hf)).mono e4;intro hf H7 s7;let Y:Nt m J N n ns bs rest cur:=⟨B,ov,ec,hf⟩;let c4:=e4.trans s7;let R7:=R.same c4;let⟨e7,p3⟩:=R7.sh.self;let⟨M,c2⟩:=(R7.tw n u).tw.self;let e5:=s6.trans s7;let a2:=e5 _ _ I;let i1:=e5 _ _ hD;exists _,Z,_,Z,(k.getD n .d).x,kd,M,_,Z,c2,L.cT,L.nth,yU Z;let G:∀ c o,c≠(k.getD n .d).x->H7 c=some o->upd H7 (k.getD n .d).x (.ins kd M (Ye "things" (.ref q) (Xp (.ref (k.getD n .d).th) (.ref (k.getD n .d).tg) (k.getD n .d).ab (N n)))) c=some o:=λc o n e=>by rw[ZM n];exact e
 let l9:upd H7 (k.getD n .d).x (.ins kd M (Ye "things" (.ref q) (Xp (.ref (k.getD n .d).th) (.ref (k.getD n .d).tg) (k.getD n .d).ab (N n)))) (k.getD n .d).x=some (.ins kd M (Xp (.ref q) (.ref (k.getD n .d).tg) (k.getD n .d).ab (N n))):=ZP;generalize upd H7 (k.getD n .d).x (.ins kd M (Ye "things" (.ref q) (Xp (.ref (k.getD n .d).th) (.ref (k.getD n .d).tg) (k.getD n .d).ab (N n))))=H8 at G l9⊢;let nl:∀ i∈n::rest,i∈J:=λi p=>(f1 i p).1;let p0:=Oo U.wf U.vl rd u (t:=YQ m bs) th hb m7;let pp:Va gt m J n cur (n::rest) []:=by
  cases rest with
  | nil=>rw[Xx] at ec;cases ec;exact p0
  | cons s rest=>
   let s0:Zo m J N s (s::rest):=rd.drop 1 s Z;exact Nq U.wf U.vl s0 (nl s (by simp)) (by have:=f2 s (by simp);lia) p0 ec
 let' tgv:Nat->Addr:=λi=>match Z5 e1 (kI i) with | some (.ref a)=>a | _=>0
 let l7:∀ i∈n::rest,Z5 e1 (kI i)=some (.ref (tgv i))/\Z8 H5 (Zu (gd cur i)) (.ref (tgv i)):=λi p=>by
  let⟨v',e',k'⟩:=i9.at_ i p;let⟨a,b1,b2,rfl,b3⟩:=id k';have:tgv i=a:=by show (match Z5 e1 (kI i) with | some (.ref a)=>a | _=>0)=a;rw[e']
  rw[this];exact⟨e',k'⟩
 let nS:∀ i∈n::rest,(k.getD i .d).x≠S:=λi p=>(R.own i (nl i p)).1;let i6:=G _ _ (nS n zT).symm p3;let p5:=G _ _ (ZI R7.sh.kept c2) R7.sh.kept;let p6:=G _ _ (ZI R7.sh.looks c2) R7.sh.looks;let o6:=G _ _ (ZI i1 c2) i1;refine⟨_,Z,S,e7,_,Z,i6,Z,_,Z,.mk (rd:=n::rest) (x:=λi=>(k.getD i .d).x) (ab:=λi=>(k.getD i .d).ab) (th:=λi=>.ref (if i=n then q else (k.getD i .d).th)) (tg:=λi=>.ref (k.getD i .d).tg) (vl:=λi=>.ref (tgv i)) (ho:=N) ⟨⟨e7,i6⟩,p5,p6⟩ (λi p=>⟨R.val i (nl i p),nS i p⟩) (λi p=>?_) o6 (Za (X _ _ R.sh.kept) nD).symm i9.keys f3 (λi p=>(l7 i p).1) (λi p j hj n'=>(R.two i j (nl i p) (nl j hj) n').1) λH9 o3 p7=>?_⟩
 ·by_cases z:i=n
  ·subst z;exact⟨M,by(try dsimp only);rw[aM rfl];exact l9⟩
  ·let⟨dx,e⟩:=(R7.tw i (nl i p)).tw.self;exact⟨dx,by(try dsimp only);rw[aK z];exact G _ _ (R.two i n (nl i p) u z).1 e⟩
 let a0:∀ c o,(∀ i∈n::rest,c≠(k.getD i .d).x)->H7 c=some o->H9 c=some o:=λc o n1 e=>o3 c o n1 (G c o (n1 n zT) e);let m1:∀ i∈n::rest,∃ dx us,H7 (k.getD i .d).x=some (.ins kd dx us):=λi p=>by
  let⟨dx,e⟩:=(R7.tw i (nl i p)).tw.self;exact⟨dx,_,e⟩
 let a4:∀ c o,(∀ C dx fs,o≠.ins C dx fs)->H7 c=some o->H9 c=some o:=λc o n1 e=>a0 c o (λi p=>by
  let⟨dx,us,e2⟩:=m1 i p;exact ZI e e2 (n1 _ _ _)) e
 let r6:YC H7 H9:=λc xs e=>a4 c _ (by intro _ _ _ z;cases z) e
 let o4:gd cur n=YQ m bs:=by
  rw[Nh ec (xR.mp f3).1,QL (U.vl.lt n u),aM rfl]
 let⟨R9,A9⟩:=Gu (cur:=cur) (rd:=n::rest) (n:=n) (own:=q) (tg:=tgv) (us:=iN bs) (H':=H9) R pp.len zT nl a7 (λc o n1 e=>a0 c o n1 (c4 _ _ e)) pp.sh pp.hh pp.old (λi p z=>by have:=f2 i ((zC.mp p).resolve_left z);lia) p7 (λi p=>((l7 i p).2.mono (ZC.tups e5)).mono r6) (a4 _ _ (by intro _ _ _ z;cases z) a2) (λz=>absurd z (by rw[pp.hh n];exact h0)) (λ_=>by rw[o4];rfl)
 let i3:=s7 _ _ i2;let i4:=a4 _ _ (by intro _ _ _ z;cases z) i3
 let h1:∀ b∈Wk m n bs,1<=N b:=λb g=>by
  have:=vN.mp hf b g;simp at this
  lia
 let a8:∀ b∈J,(av b).length<=900:=λb g=>by
  rw[(U.av b g).length_eq];have:=Gy m J b
  lia
 let⟨n8,p4⟩:=R9.sh.self;generalize Qp k (n::rest) n q tgv=a9 at R9 A9;refine⟨_,Z,S,n8,_,Z,p4,Z,_,Z,_,Z,S,d,lk,LW,cur,J,av,N,a9,a5,ls,Wk m n bs,n,Z,R9,i4,n4.sublist vK,λb g=>⟨e3 b g,h1 b g,a8 b (e3 b g)⟩,λb g=>?_,λm8 c5 t1 c7=>?_⟩
 ·rw[A9.ab b g];exact(Za (R.tw b g).tw.above m3).symm
 let l6:=a4 _ _ (by intro _ _ _ z;cases z) (c4 _ _ l4)
 let c9:=a4 _ _ (by intro _ _ _ z;cases z) a2
 let a6:∀(c:aj)(xs:jf),(∀ b∈J,c≠(k.getD b .d).ab)->H9 c=some (.lst xs)->m8 c=some (.lst xs):=λc xs n1 e=>c5 c _ (λb g=>by
  let⟨dx,r3⟩:=(R9.tw b g).tw.self;exact⟨ZI e r3,by rw[A9.ab b g];exact n1 b g⟩) e
 let m6:∀ b∈J,(k.getD n .d).th≠(k.getD b .d).ab:=λb g=>by
  by_cases z:b=n
  ·subst z;exact(R.own b g).2.2.2.symm
  ·exact(R.two b n g u z).2.2.1.symm
 let a3:=a6 _ _ m6 l6;let c1:=a6 _ _ (λb g=>(Za (R.tw b g).tw.above a7).symm) c9;let⟨e6,i5⟩:=c7.sh.self;refine⟨_,Z,S,e6,_,Z,i5,Z,_,Z,_,Z,(k.getD n .d).th,Z,⟨_,ZG.of a3⟩,IX (cs:=bs) ∅ a3 (λHq j Rq hj sq hR=>⟨_,Z,_,Z,q,_,Z,.inl (ZG.of (sq _ _ c1)),Z,Oj _,_,Z,by rw[N0];exact hR⟩) λLG t3 m5 r7 o8=>?_⟩
 let n0:=c7.same m5;refine .mk n0 o8 ((Mn U.wf (U.vl.lt n u) h0).sublist vK) (λb g=>?_) (λb g=>(Za (c7.tw b g).tw.above r7).symm) λm9 e9 n3=>?_
 ·let⟨q1,q2⟩:=yW.mp g;let q2:=of_decide_eq_true q2;let bl:=U.vl.cl n u b q1;exists bl;rw[show Wt (Wk m n bs) n av b=av b from aK (λy=>q2 (yW.mp y).1)];exact(U.av b bl).symm.subset (KN u q1)
 ·refine kY bs rest cur Y m9 a9 (λc o n1 e=>?_) n3 A9;let n2:∀ b:Nat,b∈J->c≠(a9.getD b .d).x/\c≠(a9.getD b .d).ab:=λb g=>by rw[A9.x b g,A9.ab b g];exact n1 b g
  exact e9 c o n2 (m5 _ _ (c5 c o n2 (a0 c o (λi p=>(n1 i (nl i p)).1) (c4 _ _ e))))
def Vx(a b:KT):Prop:=a=b\/a.lt b=true
def Vx.refl(a:KT):Vx a a:=.inl Z
def Vx.trans{a b c:KT}(h:Vx a b)(g:Vx b c):Vx a c:=by
 rcases h with rfl | h
 ·exact g
 ·rcases g with rfl | g
  ·exact .inr h
  ·exact .inr (lt_trans' _ _ _ h g)
def Vx.lt{a b c d:KT}(h:Vx a b)(g:b.lt c=true)(k:Vx c d):a.lt d=true:=by
 let e:a.lt c=true:=by
  rcases h with rfl | h
  ·exact g
  ·exact lt_trans' _ _ _ h g
 rcases k with rfl | k
 ·exact e
 ·exact lt_trans' _ _ _ e k
def Wi(t a:ZK):Prop:=∀ r∈a.rows,Vx (Zu t).lo r.1/\Vx r.1 (Zu t).hi
def PU{t:ZK}(j:(t.rows.map (·.1)).Pairwise λa b=>a.lt b=true):Wi t t:=λr g=>by
 let⟨i,c,rfl⟩:=uR g;let d:∀ a b:Nat,a<=b->b<t.rows.length->Vx (t.rows.getD a rd).1 (t.rows.getD b rd).1:=λa b h f=>by
  rcases Nat.eq_or_lt_of_le h with z | z
  ·rw[z];exact .refl _
  ·have:=tN.mp j a b (by rw[zX];lia) (by rw[zX];lia) z
   rw[List.getElem_map,List.getElem_map] at this;rw[zV,zV,zW (show a<t.rows.length by lia),zW f]
   exact .inr this
 let e:t.rows[i]=t.rows.getD i rd:=by rw[zV,zW c];rfl
 rw[e];exact⟨d 0 i (zF _) c,d i (t.rows.length-1) ∅ ∅⟩
section
variable{gt:jp}{ts:jq}{lv:jo}{ho:Nat->Nat}
def O7{t:ZK}(h:t.rows≠[]):(∃ r∈t.rows,r.1=(Zu t).lo)/\∃ r∈t.rows,r.1=(Zu t).hi:=by
 let a:0<t.rows.length:=wC.mpr h;refine⟨⟨t.rows.getD 0 rd,?_,Z⟩,⟨t.rows.getD (t.rows.length-1) rd,?_,Z⟩⟩
 ·rw[zV,zW a];exact yJ _
 ·rw[zV,zW (show t.rows.length-1<t.rows.length by lia)];exact yJ _
def ZMH{cur:jq}{s:Nat}(n:Zt gt ts s (gd ts s))(x:(gd ts s).h≠0)(l:∀ b∈(gd ts s).bs,(gd ts b).rows≠[]/\(gd cur b).rows≠[]/\(gd cur b).h=(gd ts b).h/\Wi (gd ts b) (gd cur b)):over (Zx cur (gd ts s).bs)≠none:=by
 let⟨M,N,m,r⟩:=n.stem x;let q:=n.up;rw[r,List.map_flatMap,List.pairwise_flatMap] at q;let I:=tN.mp q.2;generalize (gd ts s).bs=bs at *;let A:(Zx cur bs).length=bs.length:=zX _;let e:∀ j (h:j<bs.length),(Zx cur bs).getD j .d=Zu (gd cur bs[j]):=λj h=>by
  rw[zV];unfold Zx;rw[zS,zW h];rfl
 suffices y:Mj (Zx cur bs) by
  unfold over;rw[aM ⟨∅,∅,XM.mp y⟩]
  exact λz=>nomatch z
 intro j c;rw[A] at c;let a:j<bs.length:=∅
 rw[e (j+1) c,e 0 ∅,e j a]
 let⟨F,G,Q,H⟩:=l _ (yJ a);let⟨B,C,D,E⟩:=l _ (yJ c);let⟨R,S,L,T⟩:=l _ (yJ (show 0<bs.length by lia))
 constructor
 ·show (((gd cur bs[j+1]).h:Nat):Int)=(((gd cur bs[0]).h:Nat):Int);rw[D,L];let O:=(m _ (yJ c)).2;let P:=(m _ (yJ (show 0<bs.length by lia))).2
  lia
 let⟨_,J,i,t⟩:=O7 G;let⟨⟨K,k,u⟩,_⟩:=O7 C;let⟨_,o,f,v⟩:=O7 F;let⟨⟨p,g,w⟩,_⟩:=O7 B;rw[<-t,<-u];have:=I j (j+1) a c (xT _) o.1 (zE.mpr ⟨o,f,Z⟩) p.1 (zE.mpr ⟨p,g,Z⟩);rw[v,w] at this;exact(H J i).2.lt this (E K k).1
def Jc(f:WF gt ts)(e:Lv ts lv):∀{n:Nat}{rest d:jo}{cur:jq}{s:Nat},Zo ts lv ho s (s::rest)->s∈lv->(gd ts s).h≠0->Va gt ts lv n cur d (s::rest)->(∀ i∈lv,Wi (gd ts i) (gd cur i))->∃ l,Xx cur (s::rest)=some l
 | n,rest,d,cur,s,r,u,t,p,F=>by
  let v:=f s _ (Ym (e.lt s u));let w:=p.branches f e r u t;let A:=p.sh s (p.up s zT).1;let c:over (Zx cur (gd cur s).bs)≠none:=by
   rw[A];rw[A] at w;refine ZMH v t λb S=>?_;let⟨k,O,G⟩:=w b S;exact⟨(f b _ (Ym (e.lt b k))).ne,G.ne,p.hh b,F b k⟩
  rw[Xx,aK c]
  cases H:over (Zx cur (gd cur s).bs) with
  | none=>exact absurd H c
  | some L=>
   let⟨_,W⟩:=Lx f e p r u t H
   cases r with
   | top a b=>exact⟨_,Z⟩
   | up a b I=>
    rename_i j q
    let⟨r',P⟩:=I.ne;subst P;let U:=Ph f e (i:=s) (j:=j) (by rw[b];exact zT)
    refine Jc f e I U.2 ∅ W λi T=>?_
    rw[QL (by rw[p.len];exact e.lt s u)]
    by_cases z:i=s
    ·rw[aM z,z];intro x D;let D:x∈(gd cur s).bs.flatMap λb=>(gd cur b).rows:=D;let⟨g,m,E⟩:=wZ.mp D;let⟨k,O,G⟩:=w g m;let⟨X,Y⟩:=F g k x E;let⟨⟨J,B,Q⟩,K,C,R⟩:=O7 (f g _ (Ym (e.lt g k))).ne;let o:∀ y∈(gd ts g).rows,y∈(gd ts s).rows:=λy V=>by
      rw[(v.stem t).2.2.2];exact wZ.mpr ⟨g,A ▸ m,V⟩
     let M:=(PU v.up J (o J B)).1;let N:=(PU v.up K (o K C)).2;rw[Q] at M;rw[R] at N;exact⟨M.trans X,Y.trans N⟩
    ·rw[aK z];exact F i T
end
end Tw
namespace L2
open PySem PySem.Spec PyProof.Rows
def ZEv:PySem.entryFor PySem.table "proto.unchain" = some Builtin.«proto.unchain» :=entryFor_of_fast (by kernel_rfl)
def ZPw:jv->Prop:=λa=>a[1]? = some .none
section
variable{ke:js}{σ:St}{H:Hp}{E:XK}
def ZE.newg{g:jv->Prop}{C:aj}{h':aC}{ea:aj}(I:ZE X ke σ H s)(d:∀ b o,s.heap.get? b=some o->h'.get? b=some o)(n:s.heap.get? ea=none)(j:WI g ea C none h'):ZE X ke σ (upd H ea (XO g ea C none)) { s with heap:=h' }:=by
 let i:H ea=none:=by
  cases z:H ea with
  | none=>rfl
  | some o=>
   let⟨m,q⟩:=I.hok.there (a:=ea) (by rw[z];exact λy=>nomatch y)
   rw[n] at q;cases q
 let f:∀{b:aj}{o:HO},H b=some o->b≠ea:=fun{b o} q z=>by rw[z,i] at q;cases q
 refine I.call' (s':={ s with heap:=h' }) (ch:=[]) Z ⟨λb o q _ _ _=>d b o q,λb o q _ _ _=>⟨o.slots,d b o q⟩,λb o q z _=>?_,λb o q _=>⟨o,d b o q⟩,λb l q=>?_,λb o u q=>?_,λb p q=>⟨#[],?_⟩⟩ (λb k q=>?_) I.bare (λb h=>absurd h (by simp))
 ·rw[ZM (λy=>by rw[y,n] at q;cases q)];exact z
 ·rw[ZM (f q)];exact q
 ·rw[ZM (f q)];exact q
 ·rw[ZM (f q),q];simp
 ·by_cases z:b=ea
  ·rw[z,ZP] at q;cases q;rw[z];exact Lh j
  ·rw[ZM z] at q;exact(I.hok b k q).stay (λc u _ r=>d c u r) (λc e=>by rw[ZM (f e)];exact e) (λc l e=>by rw[ZM (f e)];exact e)
def ZNl{a C:aj}{j:jx}{h:aC}(F:Wr X E)(J:ZE X ke σ H s)(d:X.s₀.heap.get? a=none)(l:H a=none)(g:Xq (xQ s.heap (a::L2.frs X.stack)) X.outer a (.ref C) j .none h)(t:s.heap.UpToSlots h)(p:E (.ref C) j H):
  YB X.prog X.w X.outer X.H₀ X.s₀ E (.ref a) { s with heap:=h }:=by
 let c:∀ b o,b≠a->s.heap.get? b=some o->b∉L2.frs X.stack->(xQ s.heap (a::L2.frs X.stack)).get? b=some o:=λb o n q e=>tW _ q (λz=>by
  rcases zC.mp z with z | z
  ·exact n z
  ·exact e z)
 let Yf:∀ b o,s.heap.get? b=some o->H b≠none->(xQ s.heap (a::L2.frs X.stack)).get? b=some o:=λb o q n=>c b o (λz=>n (by rw[z];exact l)) q λz=>n (J.stkFree b z)
 refine⟨a,_,j,H,Z,⟨⟨_,g,λb o q n=>?_,λb o q n e=>?_,λb o q e=>?_⟩,J.os,J.bare,Go F J g.1 c t d,J.hok.keptT λb o q n=>g.1 b o (Yf b o q n),d,l⟩,p⟩
 ·let⟨f,i⟩:=J.hok.there n;let r:=g.1 b f (Yf b f i n);let m:h.get? b=some o:=q;rw[r] at m;rw[<-zB.inj m];exact Yf b f i n
 ·let k:=J.base;rw[F.ex] at k;exact c b o (λz=>by rw[z,d] at q;cases q) (k.keep b o q n e (by simp)) (F.off J q e)
 ·let⟨f,i⟩:=J.base.there b o q (by rw[F.ex];simp)
  exact⟨f,c b f (λz=>by rw[z,d] at q;cases q) i (F.off J q e)⟩
end
def E7{a:al}{w:ar}{A:aw}{E:ja}{s:ak}{K:zZ}{C e:aj}{j:jv}{c:String}{Q:ja}(n:yR K C (.type "BaseException")=some true)(k:K.In s.heap)(f:s.heap.get? e=some ⟨.ref C,none,.fields j,#[]⟩)(h:Q (.ref e) s):aA (az a w) A (excFromValue (.ref e) c) Q E s:=by
 let⟨i,g,d,p,o⟩:=s;let l:xS (az a w) i (typeOf (.ref e)) (.ref C):=Vq.ty ⟨_,f,Z⟩ _;let m:=uY (M:=az a w) k n;let b:i.get? e=some ⟨.ref C,none,.fields j,#[]⟩:=f;unfold excFromValue isExcClass isInstance isType
 repeat (first | with_reducible refine wpAny_loadPart_at b ?_ | with_reducible refine m.at ?_ | with_reducible refine l.at ?_ | wp_step)
 all_goals exact h
def ZH4{a:al}{w:ar}{A:aw}{E:ja}{s:ak}{C e:aj}{c:jv}{Q:Bool->ak->Prop}(b:s.heap.get? e=some ⟨.ref C,none,.fields c,#[]⟩)(h:Q false s):aA (az a w) A (isType (.ref e)) Q E s:=by
 unfold isType
 repeat (first | with_reducible refine wpAny_loadPart_at b ?_ | wp_step)
 all_goals exact h
def Dy{a:al}{w:ar}{A:aw}{E:ja}{s:ak}{K:zZ}{C e:aj}{l:jv}{Q:ja}(k:yE K (.ref C)=some (.type "type"))(b:K.In s.heap)(i:s.heap.get? e=some ⟨.ref C,none,.fields l,#[]⟩)(h:Q (.ref e) s):aA (az a w) A (raisedInstance (.ref e)) Q E s:=by
 let⟨j,g,d,n,m⟩:=s;let c:xS (az a w) j (typeOf (.ref e)) (.ref C):=Vq.ty ⟨_,i,Z⟩ _;let f:=sF (M:=az a w) b k;unfold raisedInstance
 repeat (first | with_reducible refine c.at ?_ | with_reducible refine f.at ?_ | wp_step)
 all_goals exact h
def Ev{f:al}{w:ar}{A:aw}{E:ja}{s:ak}{t:Env}{K:zZ}{C h:aj}{x c:Sem ai}{Q:Flow->ak->Prop}(V:A.handled=some (.ref h))(mB:yR K C (.type "BaseException")=some true)(X:yE K (.ref C)=some (.type "type"))(U:∀ (a:ak) (R:ja),R .none a->aA (az f w) A c R E a)(Y:aA (az f w) A x (λv a=>∃ e g q F,v=.ref e/\(∀ l:aC,(∀ b,b≠e->l.get? b=a.heap.get? b)->K.In l)/\a.heap.get? e=some ⟨.ref C,none,.fields g,#[]⟩/\4<g.size/\g[1]? = some .none/\h≠e/\a.heap.get? h=some q/\q.data=.fields F/\F[2]? = some .none /\
   ∀ l:aC,(∀ b,b≠e->l.get? b=a.heap.get? b)->WI ZPw e C none l->E (.ref e) { a with heap:=l }) E s):aA (az f w) A (raiseStmt t (some x) (some c)) Q E s:=by
 unfold raiseStmt;refine aa (ae Y (λv a S=>?_) λ_ _ z=>z);let⟨e,g,q,F,rfl,G,u,n4,v1,J,P,O,w2,T⟩:=S;refine aa (af (U a _ (aa (ad ?_))));refine aa (af (E7 mB (G _ λ_ _=>rfl) u ?_));let I:(Value.none==Value.none)=true:=rfl;dsimp only;rw[aM I];refine aa (ad ?_);let step:∀(m:aC)(D:jv)(i:Nat)(y:ai),(∀ b,b≠e->m.get? b=a.heap.get? b)->m.get? e=some ⟨.ref C,none,.fields D,#[]⟩->(∀ b,b≠e->(m.update e (Obj.mapFields (·.setIfInBounds i y))).get? b=a.heap.get? b)/\(m.update e (Obj.mapFields (·.setIfInBounds i y))).get? e=some ⟨.ref C,none,.fields (D.setIfInBounds i y),#[]⟩:=λm D i y k1 k2=>
  ⟨λb n=>(xZ _ _ n.symm).trans (k1 b n),wX _ k2 rfl⟩
 refine aa (wpAny_setField u Z ∅ ?_)
 let⟨H,r⟩:=step a.heap g 3 .none (λ_ _=>rfl) u;generalize a.heap.update e (Obj.mapFields (·.setIfInBounds 3 .none))=j at H r⊢;refine aa (wpAny_setField (s:={ a with heap:=j }) r Z (by simp;lia) ?_)
 let⟨p,k⟩:=step j _ 4 (.bool true) H r;dsimp only;generalize j.update e (Obj.mapFields (·.setIfInBounds 4 (.bool true)))=d at p k⊢;refine aa (ZH4 (s:={ a with heap:=d }) k ?_);rw[aK zR];refine aa (Dy (s:={ a with heap:=d }) X (G _ p) k ?_);let o:((g.setIfInBounds 3 Value.none).setIfInBounds 4 (Value.bool true))[1]? = some Value.none:=by
  rw[tQ (by decide),tQ (by decide)];exact v1
 unfold setFlight;refine aa (aa (wpAny_field (s:={ a with heap:=d }) k rfl o ?_));rw[aK (by decide)]
 refine ad ?_;unfold raiseNew;refine aa (wpAny_handled ?_);rw[V];dsimp only;let nb:(Value.ref h != Value.ref e)=true:=by simp[J]
 rw[aM nb];refine aa (af (wpAny_runValue (codeAny_builtin ZEv ?_)));let B:d.get? h=some q:=(p h J).trans P;unfold Builtin.«proto.unchain»;dsimp only;refine aa (wpAny_field (s:={ a with heap:=d }) B O w2 ?_);rw[aM I];refine aa (ad (ad ?_));dsimp only;let L:2<((g.setIfInBounds 3 Value.none).setIfInBounds 4 (Value.bool true)).size:=by simp;lia
 let⟨M,N⟩:=step d _ 2 (.ref h) p k;refine aa (wpAny_setField (s:={ a with heap:=d }) k Z L ?_);refine wpAny_throw (T _ M ⟨_,_,N,Z,Z,Z,?_⟩);show (((g.setIfInBounds 3 Value.none).setIfInBounds 4 (Value.bool true)).setIfInBounds 2 (Value.ref h))[1]? = some Value.none;rw[tQ (by decide)]
 exact o
def GV(a b:aj)(E:XK):XK:=λcls d c=>cls=.ref a/\E (.ref b) none c
inductive OR(e f C:aj)(E:XK)(m:Str)(k:Sp)(t:TA)(j:Nat)(D:Yc)(d:L2.St)(x:V)(b:Hp):Prop
 |mk(a i c:_)(_:x=.ref a)(_:b a=some (.ins C i c))(_:c.lookup m=none)(_:t d b λl g=>k (x::(l++[])) g (λv h=>D.nx (d.set j (some v)) h) (GV e f E))
def C2(b c C:aj)(E:XK)(m:Str)(e:Sp)(f:TE)(t:TA)(j:Nat):TS:=λD a H=>f a H λx d=>OR b c C E m e t j D a x d
def PX(K:zZ)(C:aj)(n:Str):Bool:=match uN K C with
 | some a=>a.name==n
 | none=>false
def Ho{K:zZ}{C:aj}{n:Str}(h:PX K C n=true):∃ o a,K.lookup C=some o/\o.data=.cls a/\a.name=n:=by
 unfold PX at h;split at h
 ·rename_i a e
  unfold uN at e;split at e
  ·rename_i b
   cases e;exact⟨_,_,b,Z,eq_of_beq h⟩
  ·cases e
 ·cases h
def A1{X:Cx}{E:XK}{k:Nat}{f C CB CZ:aj}{fd:am}{ps:jr}{sp:Sp}{m y z n0:Str}{p0 ji jh epos py pz zpos npos rpos ph pos:aH}{kc:Nat}{o e:Expr}{es:jy}{ta:TE}{t:TA}{j:Nat}{pl:Sem Bool}(FX:Wr X E)(he:∀ E',PE (X.wish E') o ta)(c:Vb X.K C)(hm:Vl X.K C m f)(F:ZN X.prog X.w X.K X.mg X.base (YB X.prog X.w) k f fd ps sp)(hr:ZZ k X.A)(hb:Z7 X.K fd ps [])(ha:∀ E',PA (X.wish E') (e::es) t)(hN:X.N.Nodup)(hj:X.N[j]? = some n0)(hn0:X.env.scope.names.lookup n0=some .local)(hy:Gl X y)(hyC:X.mg y=some (.ref CB))(ht:yE X.K (.ref CB)=some (.type "type"))(hB:yR X.K CB (.type "BaseException")=some true)(hBB:yR X.K CB (.ref CB)=some true)(hnm:PX X.K CB "NoStem" = true)(hz:Gl X z)(O:OwnCls z CZ [.type "ValueError",.type "Exception",.type "BaseException",.type "object"] "ValueError.__new__" X.mg X.base)(kp:yQ X.K (.ref CZ)=true)(mBZ:yR X.K CZ (.type "BaseException")=some true)(htZ:yE X.K (.ref CZ)=some (.type "type"))(hnz:PX X.K CZ "NoLeaf" = true)(hdy:(y==("__debug__" : Str))=false:=by decide)(hdz:(z==("__debug__" : Str))=false:=by decide)(hse:aq (e::es) X.env=(false,aF e X.env)::aq es X.env:=by rfl)(hpl:(aE jh (aq es X.env)).any (·.1)=false:=by rfl)(hev:aF (.Call (.Attribute o m ji) (e::es) [] jh) X.env=(do
   let ov<-aF o X.env
   standAt ji.atName
   let (f,first)<-holding [ov] (getMethod ov m pl)
   callWith jh f first (aE jh (aq (e::es) X.env)) (backToKw jh (keywordEach [] X.env))):=by rfl)(hsw:swapsWith (.Call (.Attribute o m ji) (e::es) [] jh) (some (.Name n0 p0)) epos.line X.env=pure false:=by rfl):
  PS X (.Try [.Assign [.Name n0 p0] (.Call (.Attribute o m ji) (e::es) [] jh) epos] [.ExceptHandler (some (.Name y py)) none [.Raise (some (.Call (.Name z pz) [] [] zpos)) (some (.Constant .none kc npos)) rpos] ph] [] [] pos) (C2 CB CZ C E m sp ta t j):=by
 intro d s σ H D I h;refine wpAny_Try_except ?_;let a6:=FX.stack;let a4:=FX.frame;let a5:X.A.frames=some (X.env::X.outer):=by rw[I.ok.frames,a6]
 let a8:∀(H1:Hp)(s1:ak)(G:ai)(i:ak),ZE X d σ H1 s1->YB X.prog X.w X.stack H1 s1 (GV CB CZ E) G i ->
   aA (az X.prog X.w) X.A (noteFrame G X.env) (λ_ M=>aA (az X.prog X.w) X.A (setFlight G none) (λ_ P=>aA (az X.prog X.w) X.A (handleBy G X.env [.ExceptHandler (some (.Name y py)) none [.Raise (some (.Call (.Name z pz) [] [] zpos)) (some (.Constant .none kc npos)) rpos] ph]) (SP X d D) X.xe P) X.xe M) X.xe i:=by
  intro H1 s1 G i U hx;let⟨Y,cls,od,H',rfl,W,rfl,q⟩:=hx;let⟨B,fl,Yf,a9,a7⟩:=W.ex;let c9:Xq B (X.env::X.outer) Y (.ref CB) od .none i.heap:=by rw[<-a6];exact fl
  refine LB a5 a4 c9 λh4 a3 c3=>?_;refine PY (s:={ i with heap:=h4 }) a3 λh5 a0 c4=>?_;let J5:ZE X d σ H' { i with heap:=h5 }:=MP U W Yf a9 a7 a0.1 (c3.trans c4);refine wpAny_handleBy_cons (codeAny_handlers_test ?_) (by intro q;cases q)
  refine Ql (J5.held Y (λ_ _=>False)) hy hyC ?_ hdy;refine GL (s:={ i with heap:=h5 }) J5.kIn a0.at.is ht hB hBB ?_;refine codeAny_handlers_suite ?_;refine PY (s:={ i with heap:=h5 }) a0 λh6 a1 i1=>?_;let Q:ZE X d σ H' { i with heap:=h6 }:=MP U W Yf a9 a7 a1.1 ((c3.trans c4).trans i1);let⟨oB,c5,lB,dB,nB⟩:=Ho hnm;let IP:CB∉frs X.stack:=λz=>by
   let g0:=(U.stack.mem z).1;rw[U.ok.mod.kin _ _ lB] at g0;cases g0
  let⟨S,gB⟩:=a7 CB oB (U.kIn _ _ lB) IP;let eo:S=oB:=by
   let e1:=a1.1 CB S gB;let g:=Q.kIn CB oB lB;exact zB.inj (e1.symm.trans g)
  let⟨_,_,_,oe,vs,T,oT,ts,⟨ge,c1,c2,dd,v1⟩,TB,Te,gT,dT,t3,cx⟩:=id a1;let w2:vs[2]? = some .none:=cx.elim id λz=>absurd nB (z CB S c5 Z gB (by rw[eo];exact dB))
  refine wpAny_execs_cons ?_;rw[arm_exec_Raise];refine aa (ah ?_);let I6:=Q.held Y (λ_ _=>False);refine Ev (K:=X.K) (C:=CZ) (h:=Y) Z mBZ htZ (λs2 R hR=>aa (Constant_none (aa (ah (ad hR))))) (aa (ae ?_ (λv s3 n=>aa (ah (ad n))) λ_ _ z=>z));let FB:=rY;let⟨tl,N,nm,q',bs,i6,sn,l3,ab,i9,l0,k0,k1,k2,k3,k5,mN,hC,e8,e9,T'⟩:=O.obj;refine ag (Ql I6 hz O.bound ?_ hdz);refine tX Q.kIn kp ?_;refine wpAny_call_exc_subU (rest:=[]) FB FB.hasB FB (T'.keeps Q.bk) (Q.bk _ _ hC) (e8.keeps Q.bk) e9 (λh' g p=>?_) (zF _);let⟨tt,e1,_,_⟩:=p.there;let i0:Y≠g:=λz=>by
   have:=p.new;rw[<-z,ge] at this;cases this
  let L:∀ n:aC,(∀ b,b≠g->n.get? b=h'.get? b)->∀ b o,h6.get? b=some o->n.get? b=some o:=λn k b o q=>(k b λz=>by
   have:=p.new;rw[<-z,q] at this;cases this).trans (p.keeps b o q)
  exists g,_,oe,vs,Z,λn k=>Q.kIn.keeps (L n k),e1,(by show 4<6;lia),Z,i0,p.keeps _ _ ge,dd,w2
  intro n k hx;let nw:h6.get? g=none:=p.new;let J:=Q.newg (C:=CZ) (ea:=g) (h':=n) (L n k) nw hx;let hn:H' g=none:=by
   cases z:H' g with
   | none=>rfl
   | some o=>
    let⟨S,q'⟩:=Q.hok.there (a:=g) (by rw[z];exact λy=>nomatch y)
    rw[show h6.get? g=some S from q'] at nw;cases nw
  let c0:X.s₀.heap.get? g=none:=by
   cases z:X.s₀.heap.get? g with
   | none=>rfl
   | some o=>
    let⟨S,q'⟩:=Q.base.there g o z (by rw[FX.ex];simp)
    rw[show h6.get? g=some S from q'] at nw;cases nw
  let J3:=J.untrack hn;let⟨oz,vz,gz,z1,z2,z3,zg⟩:=hx;let ff:n.FunFrames (xQ n (g::L2.frs X.stack)) (X.env::X.outer):=by
   have:=qY (as:=g::L2.frs X.stack) J3.stack (λc8 he a ha=>zI _ (wE.mpr ⟨c8,he,ha⟩));rw[a6] at this⊢;exact this
  let eB:(xQ n (g::L2.frs X.stack)).get? g=none:=tS _ (by simp)
  let⟨oZ,i8,lZ,dZ,nZ⟩:=Ho hnz;let c6:NH (xQ n (g::L2.frs X.stack)) oz.cls vz:=.inr λC' S i7 y1 y2 y3 y4=>by
   rw[z1] at y1;cases y1;let e5:=vL _ y2;let e6:=J3.kIn CZ oZ lZ;let e7:S=oZ:=zB.inj (e5.symm.trans e6);rw[e7,dZ] at y3;cases y3;rw[nZ] at y4;exact absurd y4 (by decide)
  refine Iq (s:={ i with heap:=n }) (A:=X.A.mark (some (.ref Y))) a5 ff a4 gz (λb o q=>vL _ q) eB z2 zg c6 λh7 a2 i2=>?_;rw[z1,z3] at a2;let⟨_,_,_,l2,l5,T7,l1,l4,⟨e4,_,_,c7,i5⟩,_⟩:=id a2;show cameBackBy (az X.prog X.w) X.A X.env X.xe (.ref g) { i with heap:=h7 };unfold cameBackBy;refine aa (wpAny_field e4 c7 i5 ?_);rw[aK (show ¬ ((Value.ref T7==Value.none)=true) from by simp)]
  refine Hg (s:={ i with heap:=h7 }) a2 λh8 e0 i3=>?_;refine FX.xe _ _ ?_;refine Fe (s:={ i with heap:=h8 }) a5 a4 e0 λh9 e3 i4=>?_;exact ZNl (s:={ i with heap:=n }) FX J3 c0 hn e3 ((i2.trans i3).trans i4) q
 let I':=I.wish (λG i=>aA (az X.prog X.w) X.A (noteFrame G X.env) (λ_ M=>aA (az X.prog X.w) X.A (setFlight G none) (λ_ P=>aA (az X.prog X.w) X.A (handleBy G X.env [.ExceptHandler (some (.Name y py)) none [.Raise (some (.Call (.Name z pz) [] [] zpos)) (some (.Constant .none kc npos)) rpos] ph]) (SP X d D) X.xe P) X.xe M) X.xe i);refine wpAny_execs_cons (wpAny_Assign_Name ?_ hsw);refine tP (pl:=pl) (Zz (he _ d s σ H _ I' h) λu s1 ⟨x,H1,U,rx,a,dx,fs,ex,Y,l,q⟩=>?_) hev;subst ex;obtain rfl:u=Value.ref a:=rx;refine Mm U.unwish Y c hm l ?_;refine vM (first:=[.ref a]) (h₀:=X.base) I.ok.mod.kin hm.kp (YH (ha _ jh d s1 σ H1 _ U q) λus s2 vs H2 I2 r q2=>⟨I2.kIn,?_⟩) hse hpl
 let r2:ZT (V.ref a::(vs++[])) (Value.ref a::(us++[])):=.cons Z (r.append .nil);let hl:(Value.ref a::us++[]).length=ps.length:=by rw[show Value.ref a::us++[]=Value.ref a::(us++[]) from rfl,<-r2.length];exact F.len _ _ _ _ q2
 refine wpAny_call (codeAny_mono (F.run X.A X.stack s2 H2 ⟨.ref a::us,[]⟩ (.ref a::us++[]) (.ref a::(vs++[])) _ _ hr I2.unwish.env0 (hb s2 (.ref a::us) I2.kIn hl) r2 q2) λrr i hq=>?_)
 cases rr with
 | error G=>exact a8 H2 s2 G i I2.unwish hq
 | ok fl=>
  cases fl with
  | ret u=>
   let⟨v,H3,J,rv,q3⟩:=I2.unwish.after hq;exact Kh J hN hj (.inl hn0) rv (λs4 I4=>wpAny_execs_nil (wpAny_execs_nil ⟨_,H3,I4,q3⟩)) (.inr hn0)
  | next=>exact False.elim hq
  | brk=>exact False.elim hq
  | cont=>exact False.elim hq
end L2
namespace Tw
open PySem PySem.Spec L2 PyProof.Rows
variable{jZ kd CS CT CH CK CP CB:aj}
abbrev Lk:Stmt:=XE (top 35) 10
inductive Yi(gt:jp)(jZ kd:aj):Sp
 |mk{S d r l:aj}{j:jq}{a:jo}{q:Nat->jo}{p:Nat->Nat}{m:ju}{e:List (ZR×V)}{s t:jf}{n:Nat}{g:jE}{rest:jo}{cur:jq}{H:Hp}{Q:VK}{E:XK}:
  Xz gt jZ kd H S d r j a q p m e s->n∈a->H l=some (.lst t)->jU H (Yk g) t->OA g->(g.map (·.1)).Sublist gt->(gd j n).h=0->Zo j a p n (n::rest)->Xx (j.set n (Y3 g)) rest=some cur ->
  (∀(k:Hp)(b:ju),(∀ c o,(∀ i∈a,c≠(m.getD i .d).x)->H c=some o->k c=some o)->YD jZ kd k S d r cur a q p b e s->JF H a m b->Q .non k) ->
  Yi gt jZ kd [.ref S,.int (n:Nat),.ref l] H Q E
abbrev A3:jr:=["self","number","rows","twig","road","own","labels"]
def Vg:ZB A3 zEs (Zf Lk):=Z4
def BS{gt:jp}(F:Zn K "change_leaf" "Shelf.change_leaf" Lk f fd)(kin:K.In kf)(L:Yd K mg jZ kd)(ZL:XZ K mg "NoLeaf" CL)(ZS:XZ K mg "NoStem" CS)(sS:yR K CS (.ref CS)=some true)(nS:PX K CS "NoStem" = true)(nL:PX K CL "NoLeaf" = true)(DT:ZA P w K mg kf ZY 1 jZ "twig_of" zEa (Ze jZ))(DI:ZD P w K mg kf 1 "is_stem" zE8 (XA kd))(DR:ZA P w K mg kf (YB P w) 3 jZ "road_up" zEa (WP gt jZ kd CD))(DC:ZD P w K mg kf 9 "checked_rows" zEt XQ)(DU:ZA P w K mg kf (YB P w) 10 jZ "labels_up" zEy (XJ gt jZ kd CS))(DL:ZD P w K mg kf 1 "label_of_rows" zEt Y0)(DG:ZA P w K mg kf ZY 2 jZ "give_labels" zE5 (WC jZ kd)):
  ZN P w K mg kf (YB P w) 11 f fd zEs (Yi gt jZ kd):=by
 refine F.kD Vg λcdv A outer s H vs Q E hr h=>?_;let⟨U,hn,hl,hk0,G,hsb,h0,rd,ec0,kyes⟩:=h;rename_i S d lk l ts lv av ho as kvs ls us n rr rest cur
 let nd:=Vg.nd;let hr1:=hr.mono (show 1<=10 from nofun)
 let hr2:=hr.mono (show 2<=10 from nofun)
 let hr3:=hr.mono (show 3<=10 from nofun)
 let hr9:=hr.mono (show 9<=10 from nofun)
 let⟨fU,fdU,MU,FU,bU⟩:=DU.ex;intro Xc;refine⟨_,ZQ (Zs 3 nd (YS (E:=E0) (pv 0) L.cS DT hr1 YY (ZV (pv 1))))
  (ZQ (Z1 (Yg (Zm DI hr1 (ZV (pv 3)))) VI Z6)
  (ZQ (Zs 4 nd (YS (E:=E) (pv 0) L.cS DR hr3 (Ud WY λ_ _ _ h=>h) (ZV (pv 1))))
  (ZQ (Zs 5 nd (Zm DC hr9 (ZV (pv 2))))
  (ZQ (A1 (E:=E) (j:=6) WY (λ_=>pv 0) L.cS MU FU hr bU (λ_=>Zj (pv 4) (Zm DL hr1 (ZV (pv 5)))) nd rfl rfl rfl ZS.at_ ZS.ty ZS.mB sS nS rfl (N9 kin ZL.at_ ZL.exk) ZL.kp ZL.mB ZL.ty nL)
  (ZQ (Ub (pv 3) (pv 5) rfl)
  (ZW (XF (YS (E:=E0) (pv 0) L.cS DG hr2 YY (ZV (pv 6)))))))))),?_⟩
 let R:=U.sh;let⟨dS,hS⟩:=R.sh.self;let W:=R.tw n hn;let⟨dt,hx⟩:=W.tw.self;let⟨tga,vlo,vhi,etg,htg,_,_⟩:=id W.tag;let etg:(as.getD n .d).tg=tga:=V.ref.inj etg;exists _,Z,S,dS,_,Z,hS,Z,_,Z,S,d,lk,ts.length,kvs,ls,(n:Int),.ref (as.getD n .d).x,Z,R.sh,R.val n hn;exists _,Z,(as.getD n .d).x,_,(as.getD n .d).tg,_,_,_,_,_,Z,W.tw,by rw[etg];exact htg,_,Z
 rw[aI (show ¬ (Zu (gd ts n)).h > 0 by show ¬ ((gd ts n).h:Int) > 0;lia (splits:=8))]
 refine Zp ?_;refine⟨_,Z,S,dS,_,Z,hS,Z,_,Z,S,d,lk,ts,lv,av,ho,as,kvs,ls,n,Z,U,hn,λr l' H1 s1 nr hr' rd'=>?_,λj hj=>by cases hj.uniq rd.sh⟩
 let el:=rd'.uniq rd;subst el;exists _,Z,l,us,rr,Z,s1 _ _ hl,hk0.sm s1,G;intro H2 own us' s2 nown hown hk;let s12:=s1.trans s2;let R2:=R.same s12;let⟨dS2,hS2⟩:=R2.sh.self;let lu:us'.length=rr.length:=by have:=hk.length;rw[<-this];exact zX _
 let lks:(rr.map (·.1)).length=rr.length:=zX _;exists _,Z,S,dS2,_,Z,hS2,Z,_,Z,_,Z,own,us',rr.map (·.1),Z,hown,HD hk,by rw[lu];exact G.2.1
 intro H3 v s3 kv;let eLab:(Zu (Y3 rr)).kt=Op (rr.map (·.1)):=by
  let e0:(rr.map (·.1)).getD 0 (.int 0)=(rr.getD 0 Tw.rd).1:=by
   rw[zV,zV,zS];cases rr[0]? <;> rfl
  let e1:(rr.map (·.1)).getD (rr.length-1) (.int 0)=(rr.getD (rr.length-1) Tw.rd).1:=by
   rw[zV,zV,zS];cases rr[rr.length-1]? <;> rfl
  unfold Op Zu Y3 YN.kt;rw[lks,e0,e1];rfl
 rw[<-eLab] at kv;let s13:=s12.trans s3;let hb0:(gd ts n).bs=[]:=((U.wf n _ (Ym (U.vl.lt n hn))).leaf h0).1;let tok:Zt gt ts n (Y3 rr):=Gf G hsb _ _;let l8:=U.l800;let rsh:=rd.short U.wf U.vl;let ral:=Kg ts (gd ts n).h;let rl:rest.length<=800:=by
  rw[yV] at rsh
  lia (splits:=8)
 let⟨f1,f2,f3,f4⟩:=rd.facts U.wf U.vl hn;refine .mk (R.same s13) U.wf U.vl hn rd rl ((s2.trans s3) _ _ hr') h0.symm (λb hb=>by cases hb) tok (Gh kv) (λec H' s'=>by rw[ec] at ec0;cases ec0) λcur' ec H4 D lkv s4 nD hD hb=>?_
 cases ec0.symm.trans ec;let s14:=s13.trans s4;let R4:=R.same s14;let⟨dS4,hS4⟩:=R4.sh.self;let W4:=R4.tw n hn;let⟨dt4,hx4⟩:=W4.tw.self;let hown4:=(s3.trans s4) _ _ hown;exists _,Z,_,Z,(as.getD n .d).x,kd,dt4,_,Z,hx4,L.cT,L.nth,yU Z;let fr5:∀ c o,c≠(as.getD n .d).x->H4 c=some o->upd H4 (as.getD n .d).x (.ins kd dt4 (Ye "things" (.ref own) (Xp (.ref (as.getD n .d).th) (.ref (as.getD n .d).tg) (as.getD n .d).ab (ho n)))) c=some o:=λc o n e=>by rw[ZM n];exact e
 let hx5:upd H4 (as.getD n .d).x (.ins kd dt4 (Ye "things" (.ref own) (Xp (.ref (as.getD n .d).th) (.ref (as.getD n .d).tg) (as.getD n .d).ab (ho n)))) (as.getD n .d).x=some (.ins kd dt4 (Xp (.ref own) (.ref (as.getD n .d).tg) (as.getD n .d).ab (ho n))):=ZP;generalize upd H4 (as.getD n .d).x (.ins kd dt4 (Ye "things" (.ref own) (Xp (.ref (as.getD n .d).th) (.ref (as.getD n .d).tg) (as.getD n .d).ab (ho n))))=H5 at fr5 hx5⊢;let nl:∀ i∈n::rest,i∈lv:=λi hi=>(f1 i hi).1;let p0:=Oo U.wf U.vl rd hn (t:=Y3 rr) h0.symm (λb hb=>by cases hb) tok
 let pp:Va gt ts lv n cur (n::rest) []:=by
  cases rest with
  | nil=>rw[Xx] at ec;cases ec;exact p0
  | cons s rest=>
   let rd2:Zo ts lv ho s (s::rest):=rd.drop 1 s Z;have:=Nq U.wf U.vl rd2 (nl s (by simp)) (by have:=f2 s (by simp);lia (splits:=8)) p0 ec
   exact this
 let' tgv:Nat->Addr:=λi=>match Z5 lkv (kI i) with | some (.ref a)=>a | _=>0
 let htv:∀ i∈n::rest,Z5 lkv (kI i)=some (.ref (tgv i))/\Z8 H4 (Zu (gd cur i)) (.ref (tgv i)):=λi hi=>by
  let⟨v',e',k'⟩:=hb.at_ i hi;let⟨a,b1,b2,rfl,b3⟩:=id k';have:tgv i=a:=by show (match Z5 lkv (kI i) with | some (.ref a)=>a | _=>0)=a;rw[e']
  rw[this];exact⟨e',k'⟩
 let nS5:∀ i∈n::rest,(as.getD i .d).x≠S:=λi hi=>(R.own i (nl i hi)).1;let hS5:=fr5 _ _ (nS5 n zT).symm hS4;let hd5:=fr5 _ _ (ZI R4.sh.kept hx4) R4.sh.kept;let hl5:=fr5 _ _ (ZI R4.sh.looks hx4) R4.sh.looks;let hD5:=fr5 _ _ (ZI hD hx4) hD;refine⟨_,Z,S,dS4,_,Z,hS5,Z,_,Z,.mk (rd:=n::rest) (x:=λi=>(as.getD i .d).x) (ab:=λi=>(as.getD i .d).ab) (th:=λi=>.ref (if i=n then own else (as.getD i .d).th)) (tg:=λi=>.ref (as.getD i .d).tg) (vl:=λi=>.ref (tgv i)) (ho:=ho) ⟨⟨dS4,hS5⟩,hd5,hl5⟩ (λi hi=>⟨R.val i (nl i hi),nS5 i hi⟩) (λi hi=>?_) hD5 (Za (s13 _ _ R.sh.kept) nD).symm hb.keys f3 (λi hi=>(htv i hi).1) (λi hi j hj n'=>(R.two i j (nl i hi) (nl j hj) n').1) λH6 fr6 hl6=>?_⟩
 ·by_cases z:i=n
  ·subst z;exact⟨dt4,by(try dsimp only);rw[aM rfl];exact hx5⟩
  ·let⟨dx,e⟩:=(R4.tw i (nl i hi)).tw.self;exact⟨dx,by(try dsimp only);rw[aK z];exact fr5 _ _ (R.two i n (nl i hi) hn z).1 e⟩
 let fr46:∀ c o,(∀ i∈n::rest,c≠(as.getD i .d).x)->H4 c=some o->H6 c=some o:=λc o n1 e=>fr6 c o n1 (fr5 c o (n1 n zT) e);let insx:∀ i∈n::rest,∃ dx us,H4 (as.getD i .d).x=some (.ins kd dx us):=λi hi=>by
  let⟨dx,e⟩:=(R4.tw i (nl i hi)).tw.self;exact⟨dx,_,e⟩
 let k46:∀ c o,(∀ C dx fs,o≠.ins C dx fs)->H4 c=some o->H6 c=some o:=λc o n1 e=>fr46 c o (λi hi=>by
  let⟨dx,us,e2⟩:=insx i hi;exact ZI e e2 (n1 _ _ _)) e
 let m46:YC H4 H6:=λc xs e=>k46 c _ (by intro _ _ _ z;cases z) e
 let gcn:gd cur n=Y3 rr:=by
  rw[Nh ec (xR.mp f3).1,QL (U.vl.lt n hn),aM rfl]
 let⟨R6,A6⟩:=Gu (cur:=cur) (rd:=n::rest) (n:=n) (own:=own) (tg:=tgv) (us:=us') (H':=H6) R pp.len zT nl (s1.free nown) (λc o n1 e=>fr46 c o n1 (s14 _ _ e)) pp.sh pp.hh pp.old (λi hi z=>by have:=f2 i ((zC.mp hi).resolve_left z);lia (splits:=8)) hl6 (λi hi=>(htv i hi).2.mono m46) (k46 _ _ (by intro _ _ _ z;cases z) hown4) (λ_=>by rw[gcn];exact((hk.sm (s3.trans s4)).mono m46 _ _)) (λz=>absurd z (by rw[pp.hh n,h0];exact λy=>y Z))
 exact kyes H6 _ (λc o n1 e=>fr46 c o (λi hi=>n1 i (nl i hi)) (s14 _ _ e)) R6 A6
def YD.like{b c:aj}{H:Hp}{S d n:aj}{j ts':jq}{h:jo}{l:Nat->jo}{m:Nat->Nat}{k:ju}{f:List (ZR×V)}{o:jf}(R:YD b c H S d n j h l m k f o)(g:ts'.length=j.length)(e:∀ i∈h,gd ts' i=gd j i):YD b c H S d n ts' h l m k f o:=
 ⟨by rw[g];exact R.sh,R.keys,R.val,λi a=>by rw[g];exact R.lt i a,by rw[g];exact R.len,λi a=>⟨(R.tw i a).tw,by rw[e i a];exact(R.tw i a).things,by rw[e i a];exact(R.tw i a).tag⟩,R.own,R.two⟩
def O1{bs:jw}{n i:Nat}{D:aj}(h:n<bs.length):(bs.set n D).getD i 0=if i=n then D else bs.getD i 0:=by
 rw[zV,zV];by_cases z:i=n
 ·subst z;rw[aM rfl,tR h];rfl
 ·rw[aK z,uW (Ne.symm z)]
def Fv{H b:Hp}{g f D:aj}{e ts':jq}{d:jo}{bs:jw}{c:List (ZR×V)}{us:jf}{n:Nat}(L:XI H g e d bs c)(s:n∈d)(q:Lv ts' d)(A:ts'.length=e.length)(m:YC H b)(I:∀ i:Nat,i∈d->∀ o,H (bs.getD i 0)=some o->b (bs.getD i 0)=some o)(F:b g=some (.dK (Zq c (.inl (n:Int)) (.ref f))))(G:b f=some (.tup [.str (kindOf (gd ts' n)),.ref D]))(E:b D=some (.lst us))(B:(gd ts' n).h=0->jU b (Yk (gd ts' n).rows) us)(C:(gd ts' n).h≠0->us=iN (gd ts' n).bs)(M:∀ i∈d,i≠n->(gd ts' i).h=(gd e i).h/\(gd ts' i).bs=(gd e i).bs/\((gd e i).h=0->(gd ts' i).rows=(gd e i).rows)):XI b g ts' d (bs.set n D) (Zq c (.inl (n:Int)) (.ref f)):=by
 let a:n<bs.length:=by rw[L.len];exact L.vl.lt n s
 let⟨N,O,t,_⟩:=L.tw n s;exists F,q,by rw[MJ t];exact L.keys,by rw[wV,L.len,A]
 intro i j;by_cases z:i=n
 ·subst z;refine⟨f,us,by rw[QZ,aM rfl],?_,?_,B,C⟩
  ·rw[O1 a,aM rfl];exact G
  ·rw[O1 a,aM rfl];exact E
 ·let⟨l,p,u,r,v,w,x⟩:=L.tw i j;let⟨k,J,K⟩:=M i j z;refine⟨l,p,by rw[QZ,aK (λy=>z (Ya.mp y))];exact u,?_,?_,λy=>?_,λy=>?_⟩
  ·rw[O1 a,aK z];unfold kindOf at r⊢;rw[k];exact m _ _ r
  ·rw[O1 a,aK z];exact I i j _ v
  ·rw[k] at y;rw[K y];exact(w y).mono m _ _
  ·rw[k] at y;rw[J];exact x y
def El:aB->jK
 | .If _ b _ _=>b
 | _=>[]
abbrev OP:jr:=["_law_well_here","_law_state","_law_number","_law_shelf","_law_twigs","_law_holds","_law_grid_here","_law_told","_law_kind","_law_what","_law_rows","_law_key","_law_value","_law_low","_law_top","_law_numbers","_law_one","_law_label_here","_law_inside","_law_more"]
def Xm:ZB OP zEo (Zf Wf):=Z4
def PH:List Stmt:=El ((X7 Wf).getD 3 (.Pass ⟨0,0,0,0⟩))
def ZKQ{A:aw}{outer:jB}{s:ak}{Hs:Hp}{E:XK}{gt:jp}{a9:ai}(X:YR mg)(L:Yd K mg jZ kd)(DM:ZA P w K mg kf (YB P w) 11 jZ "change_leaf" zEs (Yi gt jZ kd))(hr:ZZ 11 (A.deeper (envOfC "_law_changed" (Zf Wf) s.heap.objs.size f a9))):
  ∃ t,X4 (WW ZY P w K mg kf OP "_law_changed" (Zf Wf) f a9 A outer s Hs E).nox (PH.drop 3) t /\
   ∀(H F:Hp)(En:Yc)(p st B:aj)(a:Pl)(m:Md)(n:Nat)(J:jf)(u:jE)(rest:jo)(x8 x9 e4 e5:jg),ZJ H p->LS gt jZ kd H a m->X2 a m p->ZH p H F->ZJ F p->H B=none->F B=some (.lst J)->jU F (Yk u) J->OA u->(u.map (·.1)).Sublist gt->n∈m.lv->(gd m.ts n).h=0->Zo m.ts m.lv m.ho n (n::rest)->Wi (gd m.ts n) (Y3 u)->Xi gt jZ kd H p a m En.rt ->
    t En [some (.ref p),some (.ref st),some (.int (n:Nat)),some (.ref a.S),some (.ref a.dT),some (.ref a.dH),some (.ref a.gl),some (.ref a.tl),x8,x9,some (.ref B),e4,e5,none,none,none,none,none,none,none] F:=by
 let nd:=Xm.nd;let hu:=WZ hr;refine⟨_,ZQ (UM hu (pv 4) (pv 2) (XB (Zj X0 (pv 10))) rfl)
  (ZW (Zr (MD (Oh (YS (E:=E0) (pv 3) L.cS DM hr Ml (Zj (pv 2) (WQ Ue rfl X.list Vw (ZV (pv 10))))))))),λH F En p st B a m n J u rest x8 x9 e4 e5 W q O x3 W3 i8 a5 kk G c5 N h0 rd wi k=>?_⟩
 let⟨m0,a6⟩:=W.some;let S3:=q.sx O a6 x3;let⟨i7,ls,U3,c9⟩:=S3.sh;let⟨I,l⟩:=S3.lw;let⟨c7,c2,i1⟩:=S3.hd;let⟨gs,G3⟩:=S3.gr;let l5:=q.l64;let⟨f1,f2,f3,f4⟩:=rd.facts q.wf l.vl N;let i4:(gd m.ts n).bs=[]:=((q.wf n _ (Ym (l.vl.lt n N))).leaf h0).1;let e1:∀ l1 i,Zt gt l1 i (Y3 u):=Gf G c5;let p0:=Oo q.wf l.vl rd N (t:=Y3 u) h0.symm (λb hb=>nomatch hb) (e1 _ _);let nl:∀ i∈n::rest,i∈m.lv:=λi g=>(f1 i g).1;let l3:∀ i∈m.lv,Wi (gd m.ts i) (gd (m.ts.set n (Y3 u)) i):=λi g=>by
  rw[QL (l.vl.lt n N)];by_cases z:i=n
  ·rw[aM z,z];exact wi
  ·rw[aK z];exact PU (q.wf i _ (Ym (l.vl.lt i g))).up
 obtain⟨cur,ec,pp⟩:∃ cur,Xx (m.ts.set n (Y3 u)) rest=some cur/\Va gt m.ts m.lv n cur (n::rest) []:=by
  cases rest with
  | nil=>exact⟨_,Z,p0⟩
  | cons s' rest=>
   let e0:Zo m.ts m.lv m.ho s' (s'::rest):=rd.drop 1 s' Z;let c4:(gd m.ts s').h≠0:=by have:=f2 s' (by simp);lia
   let⟨cur,ec⟩:=Jc q.wf l.vl e0 (nl s' (by simp)) c4 p0 l3
   exact⟨cur,ec,Nq q.wf l.vl e0 (nl s' (by simp)) c4 p0 ec⟩
 let U:gd cur n=Y3 u:=by
  rw[Nh ec (xR.mp f3).1,QL (l.vl.lt n N),aM rfl]
 let vc:=pp.vl l.vl;let gf:∀ i∈m.lv,gd (Xo m.lv (Y3 u) cur) i=gd cur i:=λi g=>MX (vc.lt i g) g;let fl:(Xo m.lv (Y3 u) cur).length=m.ts.length:=YW.trans pp.len;let l2:WF gt (Xo m.lv (Y3 u) cur):=IW vc (λi g=>pp.ok i g (by simp)) e1
 let e8:∀ j∈m.lv,(gd cur j).bs=(gd m.ts j).bs:=λj Y=>by
  by_cases z:j=n
  ·rw[z,U,i4];rfl
  ·exact pp.sh j z
 let c0:∀ i,abv (Xo m.lv (Y3 u) cur) m.lv i=abv m.ts m.lv i:=λi=>Fr (λj Y=>by rw[gf j Y];exact e8 j Y) i
 let lk:I.length<64:=by have:=congrArg yD l.keys;simp at this;lia
 exists _,Z,YX;intro tp l0;let⟨H4,eU,g4,c6⟩:=Wc l0 (.tup [.str "leaf",.ref B]);rw[eU];let a2:=g4 _ _ l.dict;exists _,Z,_,Z,a.dT,_,Z,Yr.k (k:=Sum.inl (n:Int)) a2 (YL ∅)
 let R5:=ON (o':=.dK (Zq I (.inl (n:Int)) (.ref tp))) (U3.sh.same g4) a2 q.dd.1.symm;let a8:∀ c o,c≠a.dT->H4 c=some o->upd H4 a.dT (.dK (Zq I (.inl (n:Int)) (.ref tp))) c=some o:=λc o n e=>by rw[ZM n];exact e
 let a3:upd H4 a.dT (.dK (Zq I (.inl (n:Int)) (.ref tp))) a.dT=some (.dK (Zq I (.inl (n:Int)) (.ref tp))):=ZP;generalize upd H4 a.dT (.dK (Zq I (.inl (n:Int)) (.ref tp)))=H5 at R5 a8 a3⊢;let c8:∀ c o,c≠a.dT->F c=some o->H5 c=some o:=λc o n e=>a8 _ _ n (g4 _ _ e);let i2:=c8 _ _ (ZI a5 l.dict) a5;let⟨dS,hS⟩:=R5.sh.self;exists _,Z,a.S,dS,_,Z,hS,Z,_,Z,_,Z,B,J,Z,.inl (ZG.of i2);intro hd i9;let⟨H6,eU,g6,i6⟩:=Wc i9 (.lst J);rw[eU];let Q:∀ c o,c≠a.dT->F c=some o->H6 c=some o:=λc o n e=>g6 _ _ (c8 _ _ n e);let e2:YC F H6:=λc xs e=>Q _ _ (ZI e l.dict) e;let U6:=U3.frame (R5.same g6);refine .mk U6 N i6 (kk.mono e2 _ _) G c5 h0 rd ec λH7 r c1 R7 A7=>?_;let a0:∀ i∈m.lv,∃ T fs,H6 (a.x i)=some (.ins kd T fs):=λi g=>by
  let⟨T,e⟩:=(U6.sh.tw i g).tw.self;exact⟨T,_,e⟩
 let a7:∀ c o,(∀ C T J,o≠.ins C T J)->H6 c=some o->H7 c=some o:=λc o n2 e=>c1 c o (λi g=>by
  let⟨T,fs,e'⟩:=a0 i g;exact ZI e e' (n2 _ _ _)) e
 let R:∀ c o,(∀ C T J,o≠.ins C T J)->(∀ J,o≠.dK J)->F c=some o->H7 c=some o:=λc o n2 n3 e=>a7 c o n2 (Q _ _ (ZI e l.dict (n3 _)) e);let fr:∀ c o,(∀ i∈m.lv,c≠a.x i)->c≠a.dT->F c=some o->H7 c=some o:=λc o n2 n3 e=>c1 c o n2 (Q _ _ n3 e);let tu:YC F H7:=λc xs e=>R c _ (by intro _ _ _ z;cases z) (by intro _ z;cases z) e
 let i3:H7 B=some (.lst J):=R _ _ (by intro _ _ _ z;cases z) (by intro _ z;cases z) a5
 let e7:=R7.like (ts':=Xo m.lv (Y3 u) cur) YW gf;let l7:=q.l700;let a4:∀ c,H6 c=none->F c=none:=λc e=>by
  cases z:F c with
  | none=>rfl
  | some o=>
   by_cases y:c=a.dT
   ·rw[y,g6 _ _ a3] at e;cases e
   ·rw[Q _ _ y z] at e;cases e
 let a1:∀ i∈m.lv,(r.getD i .d).th=(a.as.getD i .d).th\/F (r.getD i .d).th=none:=λi g=>(A7.th i g).imp id λz=>a4 _ z;let i5:∀ i∈m.lv,∃ J,F (a.b i)=some (.lst J):=λi g=>by
  let⟨l8,e3,_,_,e,_⟩:=l.tw i g;exact⟨e3,e⟩
 let nb:n<a.bs.length:=by rw[l.len];exact l.vl.lt n N
 let M:∀ i,(a.bs.set n B).getD i 0=if i=n then B else a.b i:=λi=>O1 nb
 let e6:XI H7 a.dT (Xo m.lv (Y3 u) cur) m.lv (a.bs.set n B) (Zq I (.inl (n:Int)) (.ref tp)):=by
  refine Fv (us:=J) (ts':=Xo m.lv (Y3 u) cur) l N (Mv vc) fl tu (λi g o e=>?_) (a7 _ _ (by intro _ _ _ z;cases z) (g6 _ _ a3)) ?_ i3 (λ_=>?_) (λz=>?_) λi g z=>?_
  ·let⟨e3,e'⟩:=i5 i g;have:=e.symm.trans e';cases this;exact R _ _ (by intro _ _ _ z;cases z) (by intro _ z;cases z) e
  ·rw[gf n N,U];exact a7 _ _ (by intro _ _ _ z;cases z) (g6 _ _ (a8 _ _ (ZI c6 a2) c6))
  ·rw[gf n N,U];exact kk.mono tu _ _
  ·rw[gf n N,U] at z;exact absurd Z z
  ·rw[gf i g];exists pp.hh i,pp.sh i z;intro h;rw[pp.old i λy=>by have:=f2 i ((zC.mp y).resolve_left z);lia]
 let D:∀ c o,H c=some o->c≠B:=λc o e=>Za e i8;let⟨l4,l6,R0⟩:=q.shp;let vp:=O.av q a6;let⟨l9,c3⟩:=W3.some;let e9:∀ c o,H c=some o->VM a m.lv c->VM { a with as:=r,bs:=a.bs.set n B } m.lv c:=λc o e v i g=>by
  show c≠(r.getD i .d).th/\c≠(a.bs.set n B).getD i 0;rw[M];exists λy=>?_
  ·rcases a1 i g with z | z
   ·exact(v i g).1 (y.trans z)
   ·rw[<-y] at z;by_cases cp:c=p
    ·rw[cp,c3] at z;cases z
    ·rw[x3 _ _ e cp] at z;cases z
  ·by_cases z:i=n
   ·rw[aM z];exact D _ _ e
   ·rw[aK z];exact(v i g).2
 let i0:=k H7 { a with as:=r,bs:=a.bs.set n B } ⟨Xo m.lv (Y3 u) cur,m.lv,m.av,m.ho⟩ (λc o e v=>⟨?_,λnp=>?_⟩) e9
  ⟨⟨i7,ls,⟨e7,l2,Mv vc,λi g=>by rw[c0];exact U3.av i g,λi g=>by rw[c0];exact U3.live i g,by rw[fl];lia⟩,c9⟩,⟨_,e6⟩,⟨c7,fr _ _ (λi g=>by
   let⟨T,fs,e'⟩:=a0 i g;exact ZI (Q _ _ q.dd.2.2.symm c2) e') q.dd.2.2.symm c2,i1⟩,⟨gs,G3.frame tu (R _ _ (by intro _ _ _ z;cases z) (by intro _ z;cases z) G3.at_)⟩,?_,q.dd,q.tt,λi g=>?_,λi g=>?_,q.l64,by rw[fl];exact l7⟩ (NK W3 λo e=>fr _ o (λi g=>(vp.2.2.2.2.2.2 i g).1) vp.2.2.2.1 e) ⟨O.lk,O.gl,O.tl,λi g=>?_⟩ rfl (by rw[fl];exact yB _) (yB _)
 ·exact i0
 ·let⟨v1,v2,v3,v4,v5,v6,v7⟩:=v;exists v1,v2,v3,v4,v5,v6;intro i g;let⟨q1,q2⟩:=v7 i g;exact⟨λy=>q1 (y.trans (A7.x i g)),λy=>q2 (y.trans (A7.ab i g))⟩
 ·exact fr c o (λi g=>(v.2.2.2.2.2.2 i g).1) v.2.2.2.1 (x3 _ _ e np)
 ·show H7 a.tl=some (.lst (iN (zN (Xo m.lv (Y3 u) cur).length)));rw[fl];exact R _ _ (by intro _ _ _ z;cases z) (by intro _ z;cases z) S3.told
 ·let⟨q1,q2,q3⟩:=q.t2 i g;refine⟨λy=>q1 (y.trans (A7.ab i g)),λy=>?_,λy=>q3 (y.trans (A7.ab i g))⟩;let y:a.tl=(r.getD i .d).th:=y;rcases a1 i g with z | z
  ·exact q2 (y.trans z)
  ·rw[<-y,S3.told] at z;cases z
 ·show (a.bs.set n B).getD i 0≠a.tl/\(a.bs.set n B).getD i 0≠a.lk/\∀ j:Nat,j∈m.lv->(a.bs.set n B).getD i 0≠(r.getD j .d).ab;rw[M];by_cases z:i=n
  ·rw[aM z];exact⟨(D _ _ q.told).symm,(D _ _ R0.sh.looks).symm,λj Y=>by rw[A7.ab j Y];exact(D _ _ (R0.tw j Y).tw.above).symm⟩
  ·rw[aK z];let⟨q1,q2,q3⟩:=q.t3 i g;exact⟨q1,q2,λj Y=>by rw[A7.ab j Y];exact q3 j Y⟩
 ·show (r.getD i .d).ab≠p/\(r.getD i .d).th≠p/\(a.bs.set n B).getD i 0≠p;let⟨o1,o2,o3⟩:=O.tw i g;exists by rw[A7.ab i g];exact o1,λy=>?_
  ·rcases a1 i g with z | z
   ·exact o2 (z.symm.trans y)
   ·rw[y,c3] at z;cases z
  ·rw[M];by_cases z:i=n
   ·rw[aM z];exact(D _ _ a6).symm
   ·rw[aK z];exact o3
def KF:∀{gt l:jp},gt.Pairwise (λa b=>a.lt b=true)->l.Pairwise (λa b=>a.lt b=true)->(∀ x∈l,x∈gt)->l.Sublist gt
 | [],[],_,_,_=>wP.refl _
 | [],x::_,_,_,h=>absurd (h x zT) (by simp)
 | g::gt,l,hg,hl,h=>by
  let c:=wD.mp hg;by_cases j:g∈l
  ·cases l with
   | nil=>simp at j
   | cons x l=>
    let d:=wD.mp hl;let n:x=g:=by
     rcases zC.mp j with e | e
     ·exact e.symm
     ·rcases zC.mp (h x zT) with i | i
      ·exact i
      ·let k:=d.1 g e;let m:=c.1 x i;have:=P7 _ _ k;rw[m] at this;cases this
    subst n;refine wP.cons₂ _ (KF c.2 d.2 λy f=>?_);rcases zC.mp (h y (zI _ f)) with e | e
    ·have:=d.1 y f;rw[e,NO] at this;cases this
    ·exact e
  ·exact wP.cons _ (KF c.2 hl λy f=>(zC.mp (h y f)).resolve_left λe=>j (e ▸ f))
def D0{A:aw}{outer:jB}{s:ak}{Hs:Hp}{E:XK}{gt:jp}{c4:ai}(X:YR mg)(L:Yd K mg jZ kd)(DM:ZA P w K mg kf (YB P w) 11 jZ "change_leaf" zEs (Yi gt jZ kd))(DP:ZD P w K mg kf 1 "_law_pull" zEd Yb)(hr:ZZ 11 (A.deeper (envOfC "_law_changed" (Zf Wf) s.heap.objs.size f c4))):
  ∃ t,X4 (WW ZY P w K mg kf OP "_law_changed" (Zf Wf) f c4 A outer s Hs E).nox PH t /\
   ∀(H M:Hp)(En:Yc)(p st:aj)(a:Pl)(m:Md)(n:Nat)(rest:jo)(x8:jg),ZJ H p->LS gt jZ kd H a m->X2 a m p->ZC H M->n∈m.lv->(gd m.ts n).h=0->Zo m.ts m.lv m.ho n (n::rest)->Xi gt jZ kd H p a m En.rt ->
    t En [some (.ref p),some (.ref st),some (.int (n:Nat)),some (.ref a.S),some (.ref a.dT),some (.ref a.dH),some (.ref a.gl),some (.ref a.tl),x8,some (.ref (a.b n)),none,none,none,none,none,none,none,none,none,none] M:=by
 let⟨tT,hT,qT⟩:=ZKQ (Hs:=Hs) (outer:=outer) (E:=E) X L DM hr;let nd:=Xm.nd;let e9:=hr.units0;let a8:=hr.mono (show 1<=11 by lia)
 refine⟨_,ZQ (Zs 10 nd (XH Zw))
  (ZQ (Wu PassesOwn.never rfl (Y9 (pv 9)) (Qd rfl (Y7 (YZ 11 nd) (Y7 (YZ 12 nd) QV)))
   (ZW (Z1 (YI Vr (Zm DP a8 (Zj (pv 0) ZO)) ZO (Z0 _))
    (ZW (XF (Vs yF xP xO UF (pv 10) (ZV (XB (Oa (pv 11)
     (ZV (Zi K (XH (Zj (pv 12) (Zm DP a8 (Zj (pv 0) ZO)))) (Zm DP a8 (Zj (pv 0) ZO)))))))))) Z6)))
  (ZQ (Z1 (YI (Nw e9) (pv 10) (XH Zw) (Z0 _))
   (ZW (Zs 10 nd (XH (ZV (XB (Zj (Zi K (Zi K (pv 9) ZO) ZO) X0)))))) Z6) hT)),λH M En p st a m n rest x8 W S0 O T hn h0 i5 k=>?_⟩
 let⟨l5,e5⟩:=W.some;let S3:=S0.same T;let W3:=W.same T;let⟨l3,c3⟩:=S3.lw;let⟨gs,G3⟩:=S3.gr;let⟨tp,ws,_,_,a2,i1,_⟩:=c3.tw n hn;let kw:=i1 h0;let ok:=S0.wf n _ (Ym (c3.vl.lt n hn));let i7:ws.length=(gd m.ts n).rows.length:=by have:=kw.length;rw[<-this];exact zX _
 let l4:=(ok.leaf h0).2;let l0:0<(gd m.ts n).rows.length:=wC.mpr ok.ne;let bp:a.b n≠p:=(O.tw n hn).2.2;let pn:∀ c,M c=none->c≠p:=λc e=>(Za (T _ _ e5) e).symm;let c2:∀{H5:Hp}{D:aj}{o:HO},ZJ H5 p->D≠p->ZJ (upd H5 D o) p:=fun{H5 D o} W5 n=>by
  let⟨a1,b1,c1,d1,hw,rr⟩:=W5.ex;exact⟨a1,b1,c1,d1,by rw[ZM (Ne.symm n)];exact hw,rr⟩
 let a5:∀(D:aj)(C:Hp)(B:jf)(v:jE)(G I:jg),ZH p M C->ZJ C p->M D=none->C D=some (.lst B)->jU C (Yk v) B->(∀ r∈v,r.fit)->(v.map (·.1)).Sublist ((gd m.ts n).rows.map (·.1))->0<v.length ->
   tT En [some (.ref p),some (.ref st),some (.int (n:Nat)),some (.ref a.S),some (.ref a.dT),some (.ref a.dH),some (.ref a.gl),some (.ref a.tl),x8,some (.ref (a.b n)),some (.ref D),G,I,none,none,none,none,none,none,none] C:=λD C B v G I x4 W4 nD hD kU fU sU pU=>by
  let sg:((gd m.ts n).rows.map (·.1)).Sublist gt:=KF G3.up ok.up λx hx=>by
   let⟨r,g,rfl⟩:=zE.mp hx;exact(ok.inn r g).1
  let l:=sU.length_le;rw[zX,zX] at l;refine qT H C En p st D a m n B v rest _ _ _ _ W S0 O ((ZH.of T).trans x4) W4 (T.free nD) hD kU (FI G3.up fU (sU.trans sg) pU ∅) (sU.trans sg) hn h0 i5 (λr g=>?_) k
  let g:r∈v:=g;let⟨U,e6,e⟩:=zE.mp (sU.subset (zE.mpr ⟨r,g,rfl⟩));have:=PU ok.up U e6;rw[e] at this;exact this
 exists (by show 0<=ap;decide)
 intro D nD;let g0:=Zc nD (.lst []);let a7:D≠p:=pn D nD;let i6:a.b n≠D:=Za a2 nD;refine⟨_,Z,a.b n,Z,⟨_,ZG.of (g0 _ _ a2)⟩,UT (K:=K) (a:=a.b n) (xs:=ws) (λi σ C=>∃(G I:jg)(B:jf)(v:jE),σ=[some (.ref p),some (.ref st),some (.int (n:Nat)),some (.ref a.S),some (.ref a.dT),some (.ref a.dH),some (.ref a.gl),some (.ref a.tl),x8,some (.ref (a.b n)),some (.ref D),G,I,none,none,none,none,none,none,none]/\ZH p M C/\ZJ C p/\C D=some (.lst B)/\jU C (Yk v) B/\(∀ r∈v,r.fit)/\(v.map (·.1)).Sublist (((gd m.ts n).rows.map (·.1)).take i)/\B.length<=i)
  ⟨none,none,[],[],Z,ZH.of g0,W3.same g0,ZP,.nil,(λt ht=>absurd ht (by simp)),List.nil_sublist _,zY _⟩ (λi σ H' _ hP=>?_) ?_ ?_⟩
 ·let⟨_,_,_,_,_,x',_⟩:=hP;exact ZG.of (x' _ _ a2 bp)
 ·rintro i u σ C c8 ⟨G,I,B,v,rfl,s4,W4,a0,kU,fU,sU,lU⟩;let hi:i<ws.length:=(yN.mp c8).1;let⟨ta,vk,vv,er,rfl,a9,Q,a4⟩:=P1 kw c8;let e7:=s4.tupsW W3 _ _ a9;let g:=zG er;let fr:=(ok.inn _ g).2;generalize (gd m.ts n).rows.getD i rd=U at er Q a4 fr;exists ta,_,Z,Zb.of e7,Z,_,_,Z,_,_,Z,Z;refine⟨_,Z,p,3,Z,W4,VZ (by decide) (by decide),λr H5 i8 i9 W5 Y=>⟨_,_,Z,Z,_,Z,?_⟩⟩
  let c0:=s4.trans Y;let N:=Y D _ a0 a7;let a3:=kU.mono (Y.tupsW W4) _ _;refine Yz (λc=>?_) (λc=>?_)
  ·refine⟨_,Z,.inl ⟨Z,_,ZG.of N⟩,_,Z,_,Z,_,Z,p,9,Z,W5,VZ (by decide) (by decide),λJ H6 l1 l2 W6 s6=>⟨YX,λLL nL=>?_⟩⟩
   let g7:=Zc nL (.lst [vv,.int J]);let i3:LL≠p:=by let⟨xs,e⟩:=W6.some;exact(Za e nL).symm
   exists _,Z,p,2,Z,W6.same g7,VZ (by decide) (by decide)
   intro q H8 q0 q1 W8 s8;let⟨v2,ev,mv⟩:=Nv (xs:=[vv,.int J]) q0 q1;refine .inl ⟨LL,_,_,v2,Z,Z,ZG.of (s8 LL _ ZP i3),ev,YX,λR nR=>?_⟩;let g9:=Zc nR (.tup [vk,v2]);let c7:∀ b o,H5 b=some o->b≠p->upd H8 R (.tup [vk,v2]) b=some o:=λb o e n=>g9 b o (s8 b o (g7 b o (s6 b o e n)) n);let e3:YC H5 (upd H8 R (.tup [vk,v2])):=λb ys e=>ZC.tups g9 b ys (s8.tupsW (W6.same g7) b ys (ZC.tups g7 b ys (s6.tupsW W5 b ys e)));let e0:YC M (upd H8 R (.tup [vk,v2])):=λb ys e=>e3 _ _ (c0.tupsW W3 b ys e);let c5:=c7 D _ N a7;obtain⟨tv,i0,e4⟩:∃ tv:KT,ZF (upd H8 R (.tup [vk,v2])) tv v2/\tv.fits 3=true:=by
    rcases zC.mp mv with z | z
    ·exact⟨U.2,by have:=a4.mono e0 _ _;rw[<-z] at this;exact this,fr.2⟩
    ·let z:=zM.mp z;rw[z];let c9:J=0\/J=1\/J=2\/J=3\/J=4\/J=5\/J=6\/J=7\/J=8:=∅
     exists .int J,.int _;rcases c9 with z | z | z | z | z | z | z | z | z <;> rw[z] <;> decide +kernel
   exists D,B,_,Z,Z,c5,YL ∅
   let tD:YC (upd H8 R (.tup [vk,v2])) (upd (upd H8 R (.tup [vk,v2])) D (.lst (B++[.ref R]))):=(ZH.refl D _).upd.tups c5;refine⟨_,_,B++[.ref R],v++[(U.1,tv)],Z,λb o e n=>?_,c2 (W8.same g9) a7,ZP,?_,λz hz=>?_,?_,by simp;lia⟩
   ·rw[ZM (Za e nD)];exact c7 b o (c0 b o e n) n
   ·let e1:Yk (v++[(U.1,tv)])=Yk v++[LD (U.1,tv)]:=by unfold Yk;rw[yX];rfl
    rw[e1];exact((a3.mono e3 _ _).mono tD _ _).append (.cons (.tup (tD _ _ ZP) (.cons ((Q.mono e0 _ _).mono tD _ _) (.cons (i0.mono tD _ _) .nil))) .nil)
   ·rcases zJ.mp hz with h | h
    ·exact fU z h
    ·rw[zM.mp h];exact⟨fr.1,e4⟩
   ·let e2:((gd m.ts n).rows.map (·.1))[i]? = some U.1:=by rw[zS,er];rfl
    rw[yX,yP,e2];exact sU.append (wP.refl _)
  ·exact⟨_,_,B,v,Z,c0,W5,N,a3,fU,sU.trans (by rw[yP];exact rH _ _),∅⟩
 ·rintro σ C ⟨G,I,B,v,rfl,s4,W4,a0,kU,fU,sU,lU⟩;exists _,Z,(by show 0<=ap;decide)
  intro d i4;let g1:=Zc i4 (.lst []);exists D,d,B,Z,Z,ZG.of (g1 _ _ a0),ZG.of ZP,_,Z;let W5:=W4.same g1;let Y:ZH p M (upd C d (.lst [])):=s4.trans (ZH.of g1);let N:=g1 _ _ a0;let a3:=kU.sm g1
  cases B with
  | cons u ur=>
   refine Zp ?_;let lr:v.length=(u::ur).length:=by have:=kU.length;rw[<-this];exact(zX _).symm
   exact a5 D _ _ v _ _ Y W5 nD N a3 fU (sU.trans (rR _ _)) (by rw[lr];simp)
  | nil=>
   refine YJ ?_;obtain⟨w0,c6⟩:∃ w0,ws[0]? = some w0:=⟨_,zW ∅⟩
   let⟨ta,vk,vv,er,rfl,a9,Q,a4⟩:=P1 kw c6;let e8:=Y.tupsW W3 _ _ a9;let g:=zG er;let fr:=(ok.inn _ g).2;generalize (gd m.ts n).rows.getD 0 rd=U at er Q a4 fr g;refine⟨_,Z,.inl ⟨a.b n,ws,0,.ref ta,Z,Z,ZG.of (Y _ _ a2 bp),Xk (j:=0) c6,.inr (.inl ⟨ta,_,0,vk,rfl,rfl,Zb.of e8,rfl,?_⟩)⟩⟩;exists YX;intro R nR;let g6:=Zc nR (.tup [vk,.str "z"]);exists YX;intro LL nL;let g7:=Zc nL (.lst [.ref R]);let a6:=g6.trans g7;let i2:M LL=none:=by
    cases z:M LL with
    | none=>rfl
    | some o=>
     by_cases y:LL=p
     ·subst y;let⟨xs,e⟩:=(W5.same g6).some;rw[e] at nL;cases nL
     ·rw[g6 _ _ (Y _ _ z y)] at nL;cases nL
   refine a5 LL _ [.ref R] [(U.1,.str "z")] _ _ (Y.trans (ZH.of a6)) (W5.same a6) i2 ZP ?_ (λz hz=>?_) (rM.mpr (zE.mpr ⟨U,g,rfl⟩)) (by simp)
   ·exact .cons (.tup (g7 _ _ ZP) (.cons ((Q.mono (Y.tupsW W3) _ _).sm a6) (.cons (.str _) .nil))) .nil
   ·rw[zM.mp hz];exact⟨fr.1,show (KT.str "z").fits 3=true by decide +kernel⟩
def AU{a:jq}{bs:jo}:kindOf (YQ a bs) = "stem" :=aK (by show (gd a (bs.getD 0 0)).h+1≠0;lia)
def Dw{gt:jp}{c:jq}{i:Nat}{t:ZK}(h:Zt gt c i t)(b:t.h=0):∀ a j,Zt gt a j t:=λa j=>⟨h.ne,h.up,h.inn,h.leaf,λz=>absurd b z⟩
def Fb{gt:jp}{a:jq}(d:WF gt a):∀(k n:Nat),n<a.length->(gd a n).h=k->∃ t:ZK,∀ f j,Zt gt f j t
 | 0,n,c,e=>⟨gd a n,Dw (d n _ (Ym c)) e⟩
 | k+1,n,c,e=>by
  let⟨o,_,i,_⟩:=(d n _ (Ym c)).stem ∅
  obtain⟨b,l⟩:∃ b,b∈(gd a n).bs:=rX ∅
  let⟨g,m⟩:=i b l;exact Fb d k b g ∅
def IU{d:List (ZR×V)}{f:jo}{b:Nat}{g a:Nat->Nat}{x:Int}(h:WT d f g)(k:b∈f)(e:∀ c,c≠b->a c=g c)(j:x=((a b:Nat):Int)):WT (Zq d (.inl (b:Int)) (.int x)) f a:=by
 subst j;exists by rw[MJ (h.2 b k)];exact h.1
 intro i l;rw[QZ];by_cases z:i=b
 ·subst z;rw[aM rfl]
 ·rw[aK (λy=>z (Ya.mp y)),e i z];exact h.2 i l
def ZJC{l:jo}{i b:Nat}(a:l.Nodup)(e:l[i]? = some b):l.take (i+1)=l.take i++[b]/\b∉l.take i:=by
 exists by rw[yP,e];rfl
 intro z;let d:l=l.take i++b::l.drop (i+1):=by
  let⟨c,e⟩:=yN.mp e;rw[<-e,<-xI c,wB]
 rw[d,vQ] at a;exact a.2.2 b z b (by simp) Z
def Id{bs old:jo}{i b:Nat}(a:bs.Nodup)(e:bs[i]? = some b):b∉((bs.take i).filter λb=>decide (b∉old))/\(∀ c,c≠b->(c∈((bs.take (i+1)).filter λb=>decide (b∉old)) ↔ c∈((bs.take i).filter λb=>decide (b∉old))))/\(b∈((bs.take (i+1)).filter λb=>decide (b∉old)) ↔ b∉old):=by
 let⟨f,d⟩:=ZJC a e;rw[f,vO];exists λz=>d (yW.mp z).1,λc n=>?_
 ·rw[zJ];exact⟨λy=>y.elim id λy=>absurd (zM.mp (yW.mp y).1) n,.inl⟩
 ·rw[zJ,yW,yW];simp[d]
def ZOr{bs old:jo}{ho:Nat->Nat}{i b:Nat}(a:bs.Nodup)(e:bs[i]? = some b)(h:b∉old->1<=ho b):Y2 ((bs.take i).filter λb=>decide (b∉old)) ho b=ho b/\(∀ c,c≠b->Y2 ((bs.take (i+1)).filter λb=>decide (b∉old)) ho c=Y2 ((bs.take i).filter λb=>decide (b∉old)) ho c)/\((ho b:Nat):Int)-(if decide (b∉old)=true then 1 else 0)=((Y2 ((bs.take (i+1)).filter λb=>decide (b∉old)) ho b:Nat):Int):=by
 let⟨f,g,d⟩:=Id (old:=old) a e;exists aK f,λc n=>by unfold Y2;simp only[g c n]
 unfold Y2;by_cases z:b∈old
 ·rw[aK (λy=>d.mp y z),aI (λy=>y z),aK zR]
  lia
 ·have:=h z;rw[aM (d.mpr z),aJ z,aM rfl]
  lia
def Eo{bs old:jo}{ho:Nat->Nat}{i b:Nat}(a:bs.Nodup)(e:bs[i]? = some b):Xa ((bs.take i).filter λb=>decide (b∉old)) ho b=ho b/\(∀ c,c≠b->Xa ((bs.take (i+1)).filter λb=>decide (b∉old)) ho c=Xa ((bs.take i).filter λb=>decide (b∉old)) ho c)/\((ho b:Nat):Int)+(if decide (b∉old)=true then 1 else 0)=((Xa ((bs.take (i+1)).filter λb=>decide (b∉old)) ho b:Nat):Int):=by
 let⟨f,g,d⟩:=Id (old:=old) a e;exists aK f,λc n=>by unfold Xa;simp only[g c n]
 unfold Xa;by_cases z:b∈old
 ·rw[aK (λy=>d.mp y z),aI (λy=>y z),aK zR]
  lia
 ·rw[aM (d.mpr z),aJ z,aM rfl]
  lia
def ZMN{a:jq}{n:Nat}{bs:jo}{b:Nat->Nat}:Y2 (Wk a n bs) (Xa (Vi a n bs) b)=Pv a n bs b:=by
 funext i
 unfold Pv Y2 Xa;by_cases z:i∈Wk a n bs
 ·let g:i∉Vi a n bs:=λy=>of_decide_eq_true (yW.mp z).2 (yW.mp y).1;simp only[aM z,aK g]
 ·simp only[aK z]
inductive JL(a:Pl)(p st LR:aj)(n:Nat)(x8 x13 x14 x17 x18 x19:jg)(lv:jo)(h:Nat->Nat->Nat)(H:Hp):Nat->L2.St->Hp->Prop
 |mk{i:Nat}{x:jg}{hv:List (ZR×V)}{H':Hp}:(∀ c o,c≠a.dH->H c=some o->H' c=some o)->H' a.dH=some (.dK hv)->WT hv lv (h i) ->
  JL a p st LR n x8 x13 x14 x17 x18 x19 lv h H i [some (.ref p),some (.ref st),some (.int (n:Nat)),some (.ref a.S),some (.ref a.dT),some (.ref a.dH),some (.ref a.gl),some (.ref a.tl),x8,some (.ref (a.b n)),none,none,none,x13,x14,some (.ref LR),x,x17,x18,x19] H'
def Ba{A:aw}{outer:jB}{s:ak}{Hs:Hp}{E:XK}{gt:jp}{i5:ai}{CS CT CH CD:aj}(X:YR mg)(L:Yd K mg jZ kd)(DM:ZA P w K mg kf (YB P w) 11 jZ "change_stem" zEp (YT gt jZ kd CS CT CH CD))(hr:ZZ 11 (A.deeper (envOfC "_law_changed" (Zf Wf) s.heap.objs.size f i5))):
  ∃ t,X4 (WW ZY P w K mg kf OP "_law_changed" (Zf Wf) f i5 A outer s Hs E).nox ((X7 Wf).drop 9) t /\
   ∀(H N:Hp)(Q:VK)(p st D:aj)(a:Pl)(m:Md)(n:Nat)(bs rest:jo)(x8 c4 c5 n5 c6 c7 c8:jg),ZJ H p->LS gt jZ kd H a m->X2 a m p->ZH p H N->ZJ N p->H D=none->N D=some (.lst (iN bs))->bs.length<=8->n∈m.lv->(gd m.ts n).h≠0->Zo m.ts m.lv m.ho n (n::rest)->(∀ b∈bs,b∈m.lv)->PJ (Zx m.ts bs) (some ((gd m.ts n).h:Nat))->(∀ b∈bs,b∉(gd m.ts n).bs->1<=m.ho b)->Wi (gd m.ts n) (YQ m.ts bs)->Xi gt jZ kd H p a m Q ->
    t { nx:=λ_ H'=>Q .non H',rt:=Q } [some (.ref p),some (.ref st),some (.int (n:Nat)),some (.ref a.S),some (.ref a.dT),some (.ref a.dH),some (.ref a.gl),some (.ref a.tl),x8,some (.ref (a.b n)),none,none,none,c4,c5,some (.ref D),n5,c6,c7,c8] N:=by
 let nd:=Xm.nd;let hu:=WZ hr;refine⟨_,ZQ (Wu PassesOwn.never rfl (Y9 (pv 9)) (YZ 16 nd) (ZW (UM hu (pv 5) (pv 16) (Z2 Wl (Xt hu (pv 5) (pv 16)) (WQ M7 rfl X.int Uy (ZV (VA (r:=PM K true) Nd (pv 16) (pv 15) rfl)))) rfl)))
  (ZQ (Wu PassesOwn.never rfl (Y9 (pv 15)) (YZ 16 nd) (ZW (UM hu (pv 5) (pv 16) (Z2 Qf (Xt hu (pv 5) (pv 16)) (WQ M7 rfl X.int Uy (ZV (VA (r:=PM K true) Nd (pv 16) (pv 9) rfl)))) rfl)))
  (ZQ (UM hu (pv 4) (pv 2) (XB (Zj X0 (pv 15))) rfl)
  (ZW (Zr (MD (Oh (YS (E:=E0) (pv 3) L.cS DM hr Ml (Zj (pv 2) (WQ Ue rfl X.list Vw (ZV (pv 15))))))))))),λH N Q p st D a m n bs rest x8 c4 c5 n5 c6 c7 c8 W q O x3 W3 r3 R l8 M h0 c3 hb l3 h1 wi k=>?_⟩
 let⟨s9,i0⟩:=W.some;let S3:=q.sx O i0 x3;let⟨r1,ls,U3,m3⟩:=S3.sh;let⟨Y,l⟩:=S3.lw;let⟨m2,J,p4⟩:=S3.hd;let⟨gs,G3⟩:=S3.gr;let s3:=q.l64;let⟨L',s2,s1,o0,b4,th,m8⟩:=FV q.wf l.vl hb l3;let⟨f1,f2,f3,f4⟩:=c3.facts q.wf l.vl M;let p0:=Oo q.wf l.vl c3 M (t:=YQ m.ts bs) th hb m8;let nl:∀ i∈n::rest,i∈m.lv:=λi g=>(f1 i g).1;let r8:∀ i∈m.lv,Wi (gd m.ts i) (gd (m.ts.set n (YQ m.ts bs)) i):=λi g=>by
  rw[QL (l.vl.lt n M)];by_cases z:i=n
  ·rw[aM z,z];exact wi
  ·rw[aK z];exact PU (q.wf i _ (Ym (l.vl.lt i g))).up
 obtain⟨i6,o7⟩:∃ cur,Xx (m.ts.set n (YQ m.ts bs)) rest=some cur:=by
  cases rest with
  | nil=>exact⟨_,Z⟩
  | cons s' rest=>
   let i3:Zo m.ts m.lv m.ho s' (s'::rest):=c3.drop 1 s' Z;exact Jc q.wf l.vl i3 (nl s' (by simp)) (by have:=f2 s' (by simp);lia) p0 r8
 let p7:(Wk m.ts n bs).find? (λb=>decide (m.ho b=0))=none:=vN.mpr λb a2=>by
  have:=h1 b (yW.mp a2).1 (of_decide_eq_true (yW.mp a2).2);simp
  lia
 let a8:Nt m.ts m.lv m.ho n (bs.map λb:Nat=>(b:Int)) bs rest i6:=.mk ⟨h0,c3,Z,hb⟩ l3 o7 p7;let m7:a.dT≠a.dH:=q.dd.2.2;let⟨s6,s7,q1,q2,q3,q4,q5⟩:=l.tw n M;let o8:=q5 h0;subst o8;let q3:N (a.b n)=some (.lst (iN (gd m.ts n).bs)):=q3;let m4:∀ hv:List (ZR×V),(∀ h,WT hv m.lv h->hv.length=m.lv.length):=λhv h z=>by have:=congrArg yD z.1;simpa using this
 let r6:(gd m.ts n).bs.Nodup:=Mn q.wf (l.vl.lt n M) h0;refine⟨_,Z,a.b n,Z,⟨_,ZG.of q3⟩,UT (K:=K) (a:=a.b n) (xs:=iN (gd m.ts n).bs) (JL a p st D n x8 c4 c5 c6 c7 c8 m.lv (λi=>Xa (((gd m.ts n).bs.take i).filter λb=>decide (b∉bs)) m.ho) N) (.mk (λc o _ e=>e) J ?_) (λi σ H' _ hP=>?_) ?_ ?_⟩
 ·let e2:Xa [] m.ho=m.ho:=funext λi=>aK (by simp)
  show WT m2 m.lv (Xa [] m.ho);rw[e2];exact p4
 ·let⟨k',_⟩:=hP;exact ZG.of (k' _ _ (ZI q3 J) q3)
 ·rintro i u σ n6 a3 ⟨e0,c9,a1⟩;rename_i x2 p9
  unfold iN at a3;rw[zS] at a3;let⟨b,T,rfl⟩:=yO.mp a3;let mb:=zG T;let bl:=l.vl.cl n M b mb;let⟨g1,g2,g3⟩:=Eo (ho:=m.ho) (old:=bs) r6 T;let hg:Zg n6 a.dH (.int (b:Nat)) (some (.int (m.ho b:Nat))):=by
   have:=a1.2 b bl;rw[g1] at this;exact this ▸ Zg.k (k:=Sum.inl (b:Int)) c9
  let lh:=m4 p9 _ a1;refine⟨_,Z,_,Z,a.dH,.int (m.ho b:Nat),Z,hg,_,Z,_,Z,D,_,Z,.inl (ZG.of (e0 _ _ (ZI R J) R)),Z,Oj _,.inr ⟨_,Z,?_⟩⟩;rw[N0];exists _,_,Z,Z,_,Z,_,Z,a.dH,_,Z,Yr.k (k:=Sum.inl (b:Int)) c9 (YL ∅)
  exact .mk (λc o n e=>by rw[ZM n];exact e0 _ _ n e) ZP (IU a1 bl g2 g3)
 rintro σ H4 ⟨e6,e4,l2⟩;rename_i x4 r0
 rw[show (iN (gd m.ts n).bs).length=(gd m.ts n).bs.length from zX _,yM (zY _)] at l2;let e9:=e6 _ _ (ZI R J) R;let m5:=e6 _ _ (ZI q3 J) q3;refine⟨_,Z,D,Z,⟨_,ZG.of e9⟩,UT (K:=K) (a:=D) (xs:=iN bs) (JL a p st D n x8 c4 c5 c6 c7 c8 m.lv (λi=>Y2 ((bs.take i).filter λb=>decide (b∉(gd m.ts n).bs)) (Xa (Vi m.ts n bs) m.ho)) H4) (.mk (λc o _ e=>e) e4 ?_) (λi σ H' _ hP=>?_) ?_ ?_⟩
 ·let e2:Y2 [] (Xa (Vi m.ts n bs) m.ho)=Xa (Vi m.ts n bs) m.ho:=funext λi=>aK (by simp)
  show WT r0 m.lv (Y2 [] (Xa (Vi m.ts n bs) m.ho));rw[e2];exact l2
 ·let⟨k',_⟩:=hP;exact ZG.of (k' _ _ (ZI e9 e4) e9)
 ·rintro i u σ H9 i1 ⟨U,a5,e8⟩;rename_i x hv
  unfold iN at i1;rw[zS] at i1;let⟨b,T,rfl⟩:=yO.mp i1;let mb:=zG T;let bl:=hb b mb;let⟨g1,g2,g3⟩:=ZOr (ho:=Xa (Vi m.ts n bs) m.ho) (old:=(gd m.ts n).bs) o0 T (λz=>zL (h1 b mb z) (by unfold Xa;split <;> lia))
  let hg:Zg H9 a.dH (.int (b:Nat)) (some (.int (Xa (Vi m.ts n bs) m.ho b:Nat))):=by
   have:=e8.2 b bl;rw[g1] at this;exact this ▸ Zg.k (k:=Sum.inl (b:Int)) a5
  let lh:=m4 hv _ e8;refine⟨_,Z,_,Z,a.dH,.int (Xa (Vi m.ts n bs) m.ho b:Nat),Z,hg,_,Z,_,Z,a.b n,_,Z,.inl (ZG.of (U _ _ (ZI m5 e4) m5)),Z,Oj _,.inr ⟨_,Z,?_⟩⟩;rw[N0];exists _,_,Z,Z,_,Z,_,Z,a.dH,_,Z,Yr.k (k:=Sum.inl (b:Int)) a5 (YL ∅)
  exact .mk (λc o n e=>by rw[ZM n];exact U _ _ n e) ZP (IU e8 bl g2 g3)
 rintro σ H5 ⟨p2,o4,a7⟩;rename_i x5 m1
 rw[show (iN bs).length=bs.length from zX _,yM (zY _)] at a7;let a7:WT m1 m.lv (Pv m.ts n bs m.ho):=by rw[<-ZMN];exact a7
 let k5:∀ c o,c≠a.dH->N c=some o->H5 c=some o:=λc o n e=>p2 c o n (e6 c o n e);let o5:=k5 _ _ m7 l.dict;exists _,Z,YX;intro tp r5;let⟨H6,eU,g6,l6⟩:=Wc r5 (.tup [.str "stem",.ref D]);rw[eU];let lk:Y.length<64:=by have:=congrArg yD l.keys;simp at this;lia
 let i8:=g6 _ _ o5;exists _,Z,_,Z,a.dT,_,Z,Yr.k (k:=Sum.inl (n:Int)) i8 (YL ∅)
 let c1:∀ c o,c≠a.dT->H6 c=some o->upd H6 a.dT (.dK (Zq Y (.inl (n:Int)) (.ref tp))) c=some o:=λc o n e=>by rw[ZM n];exact e
 let e5:upd H6 a.dT (.dK (Zq Y (.inl (n:Int)) (.ref tp))) a.dT=some (.dK (Zq Y (.inl (n:Int)) (.ref tp))):=ZP;generalize upd H6 a.dT (.dK (Zq Y (.inl (n:Int)) (.ref tp)))=H7 at c1 e5⊢;let i7:=c1 _ _ m7.symm (g6 _ _ o4);let l9:=c1 _ _ (ZI l6 i8) l6;let i2:∀ c o,c≠a.dT->c≠a.dH->N c=some o->H7 c=some o:=λc o n1 n2 e=>c1 _ _ n1 (g6 _ _ (k5 _ _ n2 e));let R7:=IR U3.sh l.dict J q.dd.1.symm q.dd.2.1.symm i2;let p5:=i2 _ _ (ZI R l.dict) (ZI R J) R;let⟨dS,hS⟩:=R7.sh.self;exists _,Z,a.S,dS,_,Z,hS,Z,_,Z,_,Z,D,_,Z,.inl (ZG.of p5);intro hd r4;let⟨H8,eU,g8,p8⟩:=Wc r4 (.lst (iN bs));rw[eU];let eI:(bs.map λb:Nat=>(b:Int)).map V.int=iN bs:=by rw[yZ];rfl
 let U8:=U3.frame (R7.same g8);refine .mk (ns:=bs.map λb:Nat=>(b:Int)) U8 M ∅ (by rw[eI];exact p8) (by rw[zX];lia) (λhc=>(hc.no a8).elim) (λj hc=>(hc.no a8).elim) (λj hc=>(hc.no a8).elim) (λj hc=>(hc.no a8).elim) λs0 F cur hy H9 I U R9 A9=>?_
 let⟨B,l4,ec,hf⟩:=hy;let⟨_,a4,l0,_⟩:=B;obtain rfl:=F0 (ns:=bs.map λb:Nat=>(b:Int)) Z l0;clear l4 l0;let a9:∀ c o,c≠a.dT->c≠a.dH->N c=some o->H8 c=some o:=λc o n1 n2 e=>g8 _ _ (i2 _ _ n1 n2 e);let e1:∀ i∈m.lv,∃ dx fs,H8 (a.x i)=some (.ins kd dx fs):=λi g=>by
  let⟨dx,e⟩:=(U8.sh.tw i g).tw.self;exact⟨dx,_,e⟩
 let n9:∀ i∈m.lv,H8 (a.ab i)=some (.lst (iN (m.av i))):=λi g=>(U8.sh.tw i g).tw.above;let c0:∀ c o,(∀ C dx us,o≠.ins C dx us)->(∀ us,o≠.lst us)->H8 c=some o->H9 c=some o:=λc o n2 n3 e=>U _ _ (λi g=>by
  let⟨dx,fs,hx⟩:=e1 i g;exact⟨ZI e hx (n2 _ _ _),ZI e (n9 i g) (n3 _)⟩) e
 let r2:∀ c xs,(∀ i∈m.lv,c≠a.ab i)->H8 c=some (.lst xs)->H9 c=some (.lst xs):=λc xs n1 e=>U _ _ (λi g=>by
  let⟨dx,fs,hx⟩:=e1 i g;exact⟨ZI e hx,n1 i g⟩) e
 let fr:∀ c o,(∀ i:Nat,i∈m.lv->c≠a.x i/\c≠a.ab i)->c≠a.dT->c≠a.dH->N c=some o->H9 c=some o:=λc o n2 n3 n4 e=>U c o n2 (a9 _ _ n3 n4 e);let tu:YC N H9:=λc xs e=>c0 _ _ (by intro _ _ _ z;cases z) (by intro _ z;cases z) (a9 _ _ (ZI e l.dict) (ZI e J) e)
 let c2:∀ c xs,(∀ i∈m.lv,c≠a.ab i)->N c=some (.lst xs)->H9 c=some (.lst xs):=λc xs n1 e=>r2 _ _ n1 (a9 _ _ (ZI e l.dict) (ZI e J) e);let G:∀ c o,H c=some o->c≠D:=λc o e=>Za e r3;let⟨r9,s4,R0⟩:=q.shp;let i4:∀ i∈m.lv,D≠a.ab i:=λi g=>(G _ _ (R0.tw i g).tw.above).symm;let p6:=c2 _ _ i4 R;let o6:=c0 _ _ (by intro _ _ _ z;cases z) (by intro _ z;cases z) (g8 _ _ e5)
 let a5:=c0 _ _ (by intro _ _ _ z;cases z) (by intro _ z;cases z) (g8 _ _ i7)
 let m0:=c0 _ _ (by intro _ _ _ z;cases z) (by intro _ z;cases z) (g8 _ _ l9)
 clear f1 f2 f3 f4 p0 nl;let⟨f1,f2,f3,f4⟩:=a4.facts q.wf l.vl M;let p0:=Oo q.wf l.vl a4 M (t:=YQ m.ts bs) th hb m8;let nl:∀ i∈n::F,i∈m.lv:=λi g=>(f1 i g).1;let pp:Va gt m.ts m.lv n cur (n::F) []:=by
  cases F with
  | nil=>rw[Xx] at ec;cases ec;exact p0
  | cons s' F=>
   let i3:Zo m.ts m.lv m.ho s' (s'::F):=a4.drop 1 s' Z;exact Nq q.wf l.vl i3 (nl s' (by simp)) (by have:=f2 s' (by simp);lia) p0 ec
 let a6:gd cur n=YQ m.ts bs:=by
  rw[Nh ec (xR.mp f3).1,QL (l.vl.lt n M),aM rfl]
 let vc:=pp.vl l.vl;let⟨tf,m9⟩:=Fb q.wf _ n (l.vl.lt n M) Z;let gf:∀ i∈m.lv,gd (Xo m.lv tf cur) i=gd cur i:=λi g=>MX (vc.lt i g) g;let fl:(Xo m.lv tf cur).length=m.ts.length:=YW.trans pp.len;let r7:WF gt (Xo m.lv tf cur):=IW vc (λi g=>pp.ok i g (by simp)) m9
 let i9:∀ i,abv (Xo m.lv tf cur) m.lv i=abv cur m.lv i:=λi=>Fr (λj hj=>by rw[gf j hj]) i
 let m6:∀ j∈m.lv,j≠n->(gd cur j).bs=(gd m.ts j).bs:=λj _ z=>pp.sh j z;let l1:(gd cur n).bs=bs:=by rw[a6];rfl
 let p3:∀ b∈Wk m.ts n bs,1<=m.ho b:=λb a2=>h1 b (yW.mp a2).1 (of_decide_eq_true (yW.mp a2).2);let n8:=R9.like (ts':=Xo m.lv tf cur) YW gf;let l7:=q.l700;let e7:∀ c,H8 c=none->N c=none:=λc e=>by
  cases z:N c with
  | none=>rfl
  | some o=>
   by_cases y:c=a.dT
   ·rw[y,g8 _ _ e5] at e;cases e
   ·by_cases y2:c=a.dH
    ·rw[y2,g8 _ _ i7] at e;cases e
    ·rw[a9 _ _ y y2 z] at e;cases e
 let e3:∀ i∈m.lv,(I.getD i .d).th=(a.as.getD i .d).th\/N (I.getD i .d).th=none:=λi g=>(A9.th i g).imp id λz=>e7 _ z;let T:∀ i∈m.lv,∃ us,N (a.b i)=some (.lst us):=λi g=>by
  let⟨s5,n0,_,_,e,_⟩:=l.tw i g;exact⟨n0,e⟩
 let nb:n<a.bs.length:=by rw[l.len];exact l.vl.lt n M
 let a0:∀ i,(a.bs.set n D).getD i 0=if i=n then D else a.b i:=λi=>O1 nb
 let n7:XI H9 a.dT (Xo m.lv tf cur) m.lv (a.bs.set n D) (Zq Y (.inl (n:Int)) (.ref tp)):=by
  refine Fv (us:=iN bs) (ts':=Xo m.lv tf cur) l M (Mv vc) fl tu (λi g o e=>?_) o6 ?_ p6 (λz=>?_) (λz=>?_) λi g z=>?_
  ·let⟨n0,e'⟩:=T i g;have:=e.symm.trans e';cases this;exact c2 _ _ (λj hj=>(q.t3 i g).2.2 j hj) e
  ·rw[gf n M,a6,AU];exact m0
  ·rw[gf n M,a6] at z;rw[th] at z;exact absurd z h0
  ·rw[gf n M,a6];rfl
  ·rw[gf i g];exists pp.hh i,pp.sh i z;intro h;rw[pp.old i λy=>by have:=f2 i ((zC.mp y).resolve_left z);lia]
 let vp:=O.av q i0;let⟨s8,l5⟩:=W3.some;let o9:∀ c o,H c=some o->VM a m.lv c->VM { a with as:=I,bs:=a.bs.set n D } m.lv c:=λc o e v i g=>by
  show c≠(I.getD i .d).th/\c≠(a.bs.set n D).getD i 0;rw[a0];exists λy=>?_
  ·rcases e3 i g with z | z
   ·exact(v i g).1 (y.trans z)
   ·rw[<-y] at z;by_cases cp:c=p
    ·rw[cp,l5] at z;cases z
    ·rw[x3 _ _ e cp] at z;cases z
  ·by_cases z:i=n
   ·rw[aM z];exact G _ _ e
   ·rw[aK z];exact(v i g).2
 let p1:=k H9 { a with as:=I,bs:=a.bs.set n D } ⟨Xo m.lv tf cur,m.lv,Up m.ts n bs m.av,Pv m.ts n bs m.ho⟩ (λc o e v=>⟨?_,λnp=>?_⟩) o9
  ⟨⟨r1,ls,⟨n8,r7,Mv vc,λi g=>by rw[i9];exact At l.vl vc M m6 l1 m.av U3.av i g,λi g=>by rw[i9,ZKM l.vl vc M m6 l1 p3 i g];exact U3.live i g,by rw[fl];lia⟩,m3⟩,⟨_,n7⟩,⟨m1,a5,a7⟩,⟨gs,G3.frame tu (c2 _ _ (λi g=>(q.t2 i g).2.2) G3.at_)⟩,?_,q.dd,q.tt,λi g=>?_,λi g=>?_,q.l64,by rw[fl];exact l7⟩ (NK W3 λo e=>fr _ o vp.2.2.2.2.2.2 vp.2.2.2.1 vp.2.2.2.2.1 e) ⟨O.lk,O.gl,O.tl,λi g=>?_⟩ rfl (by rw[fl];exact yB _) (yB _)
 ·exact p1
 ·let⟨v1,v2,v3,v4,v5,v6,v7⟩:=v;exists v1,v2,v3,v4,v5,v6;intro i g;let⟨q1,q2⟩:=v7 i g;exact⟨λy=>q1 (y.trans (A9.x i g)),λy=>q2 (y.trans (A9.ab i g))⟩
 ·exact fr c o v.2.2.2.2.2.2 v.2.2.2.1 v.2.2.2.2.1 (x3 _ _ e np)
 ·show H9 a.tl=some (.lst (iN (zN (Xo m.lv tf cur).length)));rw[fl];exact c2 _ _ (λi g=>(q.t2 i g).1) S3.told
 ·let⟨q1,q2,q3⟩:=q.t2 i g;refine⟨λy=>q1 (y.trans (A9.ab i g)),λy=>?_,λy=>q3 (y.trans (A9.ab i g))⟩;let y:a.tl=(I.getD i .d).th:=y;rcases e3 i g with z | z
  ·exact q2 (y.trans z)
  ·rw[<-y,S3.told] at z;cases z
 ·show (a.bs.set n D).getD i 0≠a.tl/\(a.bs.set n D).getD i 0≠a.lk/\∀ j:Nat,j∈m.lv->(a.bs.set n D).getD i 0≠(I.getD j .d).ab;rw[a0];by_cases z:i=n
  ·rw[aM z];exact⟨(G _ _ q.told).symm,(G _ _ R0.sh.looks).symm,λj hj=>by rw[A9.ab j hj];exact(G _ _ (R0.tw j hj).tw.above).symm⟩
  ·rw[aK z];let⟨q1,q2,q3⟩:=q.t3 i g;exact⟨q1,q2,λj hj=>by rw[A9.ab j hj];exact q3 j hj⟩
 ·show (I.getD i .d).ab≠p/\(I.getD i .d).th≠p/\(a.bs.set n D).getD i 0≠p;let⟨o1,o2,o3⟩:=O.tw i g;exists by rw[A9.ab i g];exact o1,λy=>?_
  ·rcases e3 i g with z | z
   ·exact o2 (z.symm.trans y)
   ·rw[y,l5] at z;cases z
  ·rw[a0];by_cases z:i=n
   ·rw[aM z];exact(G _ _ i0).symm
   ·rw[aK z];exact o3
inductive N5(K:zZ)(x y:V)(H:Hp)(Q:VK):Prop
 |mk(a b:aj)(c:List (ZR×V))(_:x=.ref a)(_:y=.ref b)(_:H a=some (.dK c))(_:H b=some (.dK []))(_:Q (.bl c.isEmpty) H)
def CV{X:Cx}(f:X.A.units<cLine):Yv X (ay .Eq) (N5 X.K):=by
 intro k s J H x y v u Q I E F h;let⟨a,b,c,rfl,rfl,o,t,q⟩:=h;cases E;cases F;let⟨_,i,l,C,d⟩:=NG I.hok o;let⟨_,j,G,D,e⟩:=NG I.hok t;let g:=C.length;let w:=D.length;let n:G=[]:=wL (by rw[<-w];rfl)
 subst n
 cases c with
 | nil=>
  let m:l=[]:=wL (by rw[<-g];rfl)
  subst m;exact PySem.W.keq_eq i j d e f (λ_=>.nil) (Ys I q Z)
 | cons p r=>
  let B:l.length≠0:=by rw[<-g];simp
  refine PySem.W.keq_eq (r:=false) i j d e f (λz=>absurd z B) (Ys I q ?_);simp
def Dm{J:It}{A:jo}{C:L2.St}{H:Hp}{B:TT}{Q:VK}(c:jo)(L:c.length<=900)(r:∀ i a,ZC H a->i<c.length->J.go i a)(I:∀ i a x h,ZC H a->i<c.length->J.yld i a x h->h=a/\(iN c)[i]? = some x)(f:∀ a,ZC H a->J.stop c.length a)(k:∀ a n (R:Bool->Hp->Prop),n∈c->ZC H a->(∀ b h,ZC a h->R b h)->B (Q2 C A (.int (n:Nat))) a R)(o:∀ (D:aj) (a:Hp) (l:jo),ZC H a->H D=none->a D=some (.lst (iN l))->(∀ b∈l,b∈c)->l.length<=c.length->Q (.ref D) a):Xs J C A B (VY 0) H Q:=by
 intro D p;exists λi m a=>m=c.length-i/\i<=c.length/\∃ l:jo,a D=some (.lst (iN l))/\l.length<=i/\(∀ b∈l,b∈c)/\ZC H a,⟨c.length,rfl,zF _,[],ZP,zY _,λb j=>(by cases j),Zc p _⟩
 rintro i m a ⟨rfl,K,l,e,v,j,g⟩;by_cases d:i<c.length
 ·refine .inr ⟨r i a g d,λx E y=>?_⟩;let⟨rfl,s⟩:=I i a x E g d y;unfold iN at s;rw[zS] at s;let⟨n,G,rfl⟩:=yO.mp s;let w:=zG G;refine k _ n _ w g λb h t=>?_;let u:=t _ _ e
  cases b with
  | true=>
   refine YJ ⟨_,Z,iN l,c.length-(i+1),u,YL (by rw[zX];lia),∅,Z,d,l++[n],by rw[ZP];simp[iN],by rw[zH,xU];lia,λb q=>?_,VJ (g.trans t) p⟩
   rcases zJ.mp q with z | z
   ·exact j b z
   ·rw[zM.mp z];exact w
  | false=>exact Zp ⟨c.length-(i+1),∅,Z,d,l,u,wH v,j,g.trans t⟩
 ·let F:i=c.length:=∅
  subst F;exact .inl ⟨f a g,o D a l g p e j v⟩
def Xi.pre{gt:jp}{H d:Hp}{p:aj}{a:Pl}{m:Md}{Q:VK}(k:Xi gt jZ kd H p a m Q)(x:ZH p H d)(h:ZJ d p):Xi gt jZ kd d p a m Q:=λj l n i b=>k j l n (λc o e v=>by
 by_cases y:c=p
 ·let⟨q,g⟩:=h.some;rw[y] at v⊢;exact⟨(i _ _ g v).1,λz=>absurd Z z⟩
 ·exact i c o (x _ _ e y) v) λc o e v=>by
 by_cases y:c=p
 ·let⟨q,g⟩:=h.some;rw[y] at v⊢;exact b _ _ g v
 ·exact b c o (x _ _ e y) v
inductive Xe(gt:jp)(jZ kd:aj)(c:jf)(H:Hp)(Q:VK)(_:XK):Prop
 |mk(p b:aj)(n:Nat)(a:Pl)(m:Md)(_:c=[.ref p,.ref b,.int (n:Nat)])(_:ZJ H p)(_:H b=some (.tup (VB a)))(_:LS gt jZ kd H a m)(_:X2 a m p)(_:n∈m.lv)(_:Xi gt jZ kd H p a m Q)
inductive V5(gt:jp)(jZ kd:aj)(c:jf)(H:Hp)(Q:VK)(_:XK):Prop
 |mk(p b:aj)(a:Pl)(m:Md)(_:c=[.ref p,.ref b])(_:ZJ H p)(_:H b=some (.tup (VB a)))(_:LS gt jZ kd H a m)(_:X2 a m p)(_:m.lv.length<=62)(_:m.ts.length<=600)(_:Xi gt jZ kd H p a m Q)
abbrev Bq:jr:=["_law_well_here","_law_state","_law_way","_law_some","_law_number"]
def U4:ZB Bq zEf (Zf Jz):=Z4
def E5{gt:jp}(F:Zn K "_law_deed" "_law_deed" Jz f fd)(X:YR mg)(DP:ZD P w K mg kf 1 "_law_pull" zEd Yb)(DK:ZD P w K mg kf 2 "_law_picked" zEq Yy)(DS:ZD P w K mg kf 2 "_law_shared" zEi (Yx gt))(DL:ZD P w K mg kf 11 "_law_put_leaf" zEg (YK gt jZ kd))(DT:ZD P w K mg kf 11 "_law_put_stem" zEf (Y8 gt jZ kd))(DH:ZD P w K mg kf 69 "_law_held" zEk (UA gt jZ kd))(DC:ZD P w K mg kf 12 "_law_changed" zEo (Xe gt jZ kd)):
  ZN P w K mg kf ZY 70 f fd zEf (V5 gt jZ kd):=by
 refine F.ko U4 λi4 A i3 s H vs Q E hr h=>?_;let⟨p,g,a,m,rfl,W,a9,S0,O,c1,a1,k⟩:=h;let nd:=U4.nd;let hu:=WZ hr;let a3:=hr.mono (show 1<=69 by lia)
 let a8:=hr.mono (show 2<=69 by lia)
 let T:=hr.mono (show 11<=69 by lia)
 let a7:=hr.mono (show 12<=69 by lia)
 intro Xc;refine⟨_,ZQ (Zs 2 nd (Zm DP a3 (Zj (pv 0) ZO)))
  (ZQ (Z1 (PW.pt (VU (YI (CV hr.units0) (Zi K (pv 1) ZO) OH (Z0 _)) (Uh (YI Qj (pv 2) ZO (Z0 _))))) (ZW (Zr (Zm DL T (Oa (pv 0) (Zj (pv 1) (Zm DP a3 (Zj (pv 0) ZO))))))) Z6)
  (ZQ (Z1 (YI Qj (pv 2) ZO (Z0 _)) (ZW (Zr (Zm DT T (Zj (pv 0) (pv 1))))) Z6)
  (ZQ (Zs 3 nd (Zy (Pd rfl) rfl X.sorted Qb (ZV (Zi K (pv 1) ZO))))
  (ZQ (Z1 (PW.pt (Pk (YI Vr (pv 2) ZO (Z0 _)) (NA (YI Vr (Zm DP a3 (Zj (pv 0) ZO)) ZO (Z0 _)))))
   (ZW (Zs 3 nd (Z2 NE (UD [1] ["_law_state"] rfl (Y9 (pv 3)) (λ_ _ _ _ _=>Q6 (O0 (Oh (Zm DS a8 (Pi (Zi K (pv 1) ZO) (Zi K (pv 1) ZO) (pv 0)))))) (λ_ _ _ _ _=>pv 0) ⟨rfl,.inl rfl,rfl,trivial⟩) (Ha F1 (pv 3) Iv (FY ZO))))) Z6)
  (ZQ (Zs 4 nd (Zm DK a8 (Zj (pv 0) (pv 3))))
  (ZQ (Z1 (YI Qj (pv 2) ZO (Z0 _)) (ZW (Zr (Zm DH hr (OF (pv 0) (pv 1) (pv 4) (pv 2))))) Z6)
  (ZW (Zr (Zm DC a7 (Pi (pv 0) (pv 1) (pv 4))))))))))),?_⟩
 let⟨i6,u⟩:=W.some;let c6:=S0.l64;exists _,Z,p,10,Z,W,VZ (by decide) (by decide)
 intro a4 H1 w0 w1 W1 x1;let S1:=S0.sx O u x1;let N:g≠p:=ZI a9 u;let U:=x1 _ _ a9 N;let⟨I,B⟩:=S1.lw;let i0:I.length=m.lv.length:=by have:=congrArg yD B.keys;simpa using this
 refine⟨_,Z,.inr (.inl ⟨g,_,1,.ref a.dT,rfl,rfl,Zb.of U,rfl,λe0 i2=>?_⟩)⟩;let g0:=Zc i2 (.dK []);exists a.dT,e0,I,Z,Z,g0 _ _ B.dict,ZP,_,Z;let x2:=x1.trans (ZH.of g0);let W2:=W1.same g0;let d:=g0 _ _ U;generalize upd H1 e0 (.dK [])=H2 at g0 x2 W2 d⊢;let S2:=S0.sx O u x2;let k2:=k.pre x2 W2;let a2:∀(y:Hp),ZH p H2 y->ZJ y p->∀ b:Int,0<=b->b<16->(YK gt jZ kd) [.ref p,.ref g,.int b] y Q E0:=λy J L b b0 b1=>by
  let k3:=k2.pre J L;exists p,g,b,a,m,Z,L,J _ _ d N,S0.sx O u (x2.trans J),O,b0,b1,c1,a1;intro H' a' m' fr e4 W' S' O' eS et el;exact k3 H' a' m' fr e4 S' W' O' eS ∅ (by rw[el];simp)
 cases hv:I.isEmpty with
 | true=>
  refine YJ (YJ ⟨_,Z,_,Z,_,Z,p,16,Z,W2,VZ (by decide) (by decide),λb y b0 b1 L J=>a2 y J L b b0 b1⟩)
 | false=>
  refine Zp ⟨_,Z,_,_,Z,Z,_,Z,Yz (λc=>?_) (λc=>?_)⟩
  ·exact⟨_,Z,_,Z,_,Z,p,16,Z,W2,VZ (by decide) (by decide),λb y b0 b1 L J=>a2 y J L b b0 b1⟩
  let l0:0<m.lv.length:=by
   rw[<-i0]
   cases I with
   | nil=>cases hv
   | cons _ _=>simp
  refine⟨_,Z,_,_,Z,Z,_,Z,Yz (λc2=>?_) (λc2=>?_)⟩
  ·exact⟨_,Z,_,Z,p,g,a,m,Z,W2,d,S2,O,l0,c1,a1,k2⟩
  let eL:(m.lv.map λi:Nat=>(i:Int)).map V.int=iN m.lv:=by rw[yZ];rfl
  refine⟨_,Z,.inr (.inl ⟨g,_,1,.ref a.dT,rfl,rfl,Zb.of d,rfl,a.dT,I,m.lv.map λi:Nat=>(i:Int),rfl,g0 _ _ B.dict,(by rw[B.keys,yZ];rfl),Qa B.vl.up,by simpa using c6,λq nq=>?_⟩)⟩
  rw[eL];let⟨y,eU,g3,hq⟩:=Wc nq (.lst (iN m.lv));rw[eU];let J:=x2.trans (ZH.of g3);let L:=W2.same g3;let Y:=g3 _ _ d;let M:q≠p:=by let⟨xs,e⟩:=W2.some;exact(Za e nq).symm
  let G:∀(q:aj)(H4:Hp)(ns:jo)(Q':VK),ZH p y H4->ZJ H4 p->q≠p->H4 q=some (.lst (iN ns))->0<ns.length->ns.length<=900->(∀ b∈ns,b∈m.lv)->(∀(n:Nat)(j:Hp),n∈m.lv->ZJ j p->j g=some (.tup (VB a))->LS gt jZ kd j a m->Xi gt jZ kd j p a m Q->Q' (.int (n:Nat)) j)->Yy [.ref p,.ref q] H4 Q' E0:=λq H4 ns Q' x4 W4 nq hq l0 l9 v go=>by
   exists p,q,iN ns,Z,W4,nq,hq,by simpa [iN] using l0,by simpa [iN] using l9
   intro x j x5 S hx;let⟨b,hb,rfl⟩:=zE.mp hx;let a5:=x4.trans x5;exact go b j (v b hb) S (a5 _ _ Y N) (S0.sx O u (J.trans a5)) (k.pre (J.trans a5) S)
  refine⟨_,Z,_,_,Z,Z,_,Z,Yz (λc3=>⟨_,Z,p,4,Z,L,VZ (by decide) (by decide),λr H4 r0 r1 W4 x4=>⟨_,_,Z,Z,_,Z,Yz (λc4=>?gC) (λc4=>?gB)⟩⟩) (λc3=>Zp ?gA)⟩
  case gA=>
   refine⟨_,Z,_,Z,G q y m.lv _ (ZH.of (ZC.refl _)) L M hq l0 ∅ (λb hb=>hb) λn j v S h5 S5 k5=>?_⟩
   refine⟨_,Z,_,_,Z,Z,_,Z,Yz (λc5=>?_) (λc5=>?_)⟩
   ·exact⟨_,Z,_,Z,_,Z,_,Z,p,g,n,a4,a,m,Z,S,h5,S5,O,v,k5⟩
   ·exact⟨_,Z,_,Z,_,Z,p,g,n,a,m,Z,S,h5,S5,O,v,k5⟩
  case gB=>
   refine⟨_,Z,_,Z,G q H4 m.lv _ x4 W4 M (x4 _ _ hq M) l0 ∅ (λb hb=>hb) λn j v S h5 S5 k5=>?_⟩
   refine⟨_,Z,_,_,Z,Z,_,Z,Yz (λc5=>?_) (λc5=>?_)⟩
   ·exact⟨_,Z,_,Z,_,Z,_,Z,p,g,n,a4,a,m,Z,S,h5,S5,O,v,k5⟩
   ·exact⟨_,Z,_,Z,_,Z,p,g,n,a,m,Z,S,h5,S5,O,v,k5⟩
  case gC=>
   let C:=x4 _ _ hq M;let a0:=x4 _ _ Y N;let S4:=S0.sx O u (J.trans x4);let⟨e1,e2⟩:=S4.lw;let⟨c0,e8,e7⟩:=S4.hd;let⟨gs,G4⟩:=S4.gr;refine⟨_,Z,q,Z,⟨_,ZG.of C⟩,Dm m.lv ∅ (λi j t hi=>⟨_,.int (m.lv[i]:Nat),ZG.of (t _ _ C),by simp[iN,zW hi]⟩) (λi j x H6 t hi hy=>⟨hy.1,hy.2 _ (ZG.of (t _ _ C))⟩) (λj t=>⟨_,ZG.of (t _ _ C),by simp[iN]⟩) (λj n R v t hR=>?_) (λD j l t nD hD hl ll=>?_)⟩
   ·refine⟨_,Z,.inr (.inl ⟨g,_,1,.ref a.dT,rfl,rfl,Zb.of (t _ _ a0),rfl,_,rfl,.inr (.inl ⟨g,_,2,.ref a.dH,rfl,rfl,Zb.of (t _ _ a0),rfl,_,rfl,a.dT,a.dH,n,m.ts,m.lv,e1,c0,m.ho,rfl,(e2.same t).lawT S0.wf G4.len G4.up,c6,v,t _ _ e8,e7,λH6 o s6 i5=>⟨_,rfl,hR _ _ s6⟩⟩)⟩)⟩
   let e9:=t _ _ C;exists _,Z,1,Z,q,iN m.lv,Z,ZG.of e9;intro D2 i1;let ec:Pa (iN m.lv) none (some 1)=iN (m.lv.take 1):=by
    unfold Pa iN;rw[zX];show ((m.lv.map λb:Nat=>V.int (b:Nat)).drop 0).take (min (1:Int).toNat m.lv.length-0)=_;rw[List.drop_zero,<-List.map_take]
    congr 1
    show m.lv.take (min 1 m.lv.length-0)=_;rw[Nat.min_eq_left l0]
   rw[ec];let⟨H6,eU,g6,e5⟩:=Wc i1 (.lst (iN (m.lv.take 1)));rw[eU];let e6:=g6 _ _ hD;exists D,D2,_,_,Z,Z,e6,e5,xV (YL (by simp[iN];lia))
   intro D3 c7;let⟨H7,eU,g7,a6⟩:=Wc c7 (.lst (iN l++iN (m.lv.take 1)));rw[eU];let e3:iN l++iN (m.lv.take 1)=iN (l++m.lv.take 1):=by unfold iN;rw[yX]
   rw[e3] at a6;let c9:=(t.trans g6).trans g7;let W7:=W4.same c9;let c8:D3≠p:=by let⟨xs,e⟩:=(W4.same (t.trans g6)).some;exact(Za e c7).symm
   refine⟨_,Z,_,Z,G D3 H7 (l++m.lv.take 1) _ (x4.trans (ZH.of c9)) W7 c8 a6 (by simp;lia) (by simp;lia) (λb hb=>?_) λn H8 v W8 h8 S8 k8=>?_⟩
   ·rcases zJ.mp hb with z | z
    ·exact hl b z
    ·exact List.mem_of_mem_take z
   refine⟨_,Z,_,_,Z,Z,_,Z,Yz (λc5=>?_) (λc5=>?_)⟩
   ·exact⟨_,Z,_,Z,_,Z,_,Z,p,g,n,a4,a,m,Z,W8,h8,S8,O,v,k8⟩
   ·exact⟨_,Z,_,Z,_,Z,p,g,n,a,m,Z,W8,h8,S8,O,v,k8⟩
def XT(t:Int×Int):KT:=.tup [.int t.1,.int t.2]
def E6(t u:Int×Int):(XT t).plt (XT u)=(XT t).lt (XT u):=by
 let⟨a,b⟩:=t;let⟨d,e⟩:=u;unfold XT;simp only[KT.plt,pltL,KT.lt,ltL,KT.eqb]
def Om(h:aC)(a:jL)(b:je):Prop:=jV h (a.map XT) b
def Jr{h:aC}{t:Int×Int}{v:ai}(x:ZX h (XT t) v):∃(a:aj)(c d:Tok),v=.ref a/\IsTup h a #[.int t.1 c,.int t.2 d]:=by
 unfold XT at x;rw[ZX] at x;let⟨a,k,rfl,e,b⟩:=x;rw[jV] at b;let⟨l,i,rfl,c,b⟩:=b;rw[jV] at b;let⟨m,j,rfl,d,b⟩:=b;rw[jV] at b;subst b;rw[ZX] at c d;let⟨f,rfl⟩:=c;let⟨g,rfl⟩:=d;exact⟨a,f,g,Z,e⟩
def ZOp{t u:Int×Int}{x y:ai}{Q:Bool->ak->Prop}(N:ZX s.heap (XT t) x)(O:ZX s.heap (XT u) y)(V:A.units+2<cLine)(h:Q ((XT t).lt (XT u)) s):aA (az prog w) A (keyLt' (tuples' true) x y) Q E s:=by
 let⟨a,m,o,rfl,P⟩:=Jr N;let⟨c,r,v,rfl,R⟩:=Jr O;let⟨z,B⟩:=t;let⟨C,D⟩:=u;rw[<-E6] at h;unfold XT at h;rw[KT.plt,pltL,pltL,pltL] at h;let⟨⟨T,U,G,Y⟩,L,J,n,K⟩:=P;let⟨⟨F,I,H,S⟩,g,l,X,f⟩:=R;refine PySem.W.kat_lt L K g f ?_;show PySem.W.KatLex prog w A true _ Q [(.int z m,.int C r),(.int B o,.int D v)] 0 s;let i:∀(p q:Int)(j k:Tok)(d:Bool->ak->Prop),d ((KT.int p).plt (KT.int q)) s->aA (az prog w) A (oneLt' false (.int p j) (.int q k)) d (λ_ _=>False) s:=λp q j k d M=>by
  refine PySem.W.kat_one _ _ (KB 0 (.int p) (.int q) A _ _ (by simp[KT.depth]) ⟨j,Z⟩ ⟨k,Z⟩ (by simp[KT.cmp]) (by simp[KT.depth];lia) prog w _ _ ?_)
  exact M
 let b:∀ p q:Int,(KT.int p).eqb (KT.int q)=(p==q):=λp q=>by rw[KT.eqb]
 refine vA (SeqAt.EqAt.int_int z m C r prog w _ _ ?_);refine vE (λe=>vB ?_) (λe=>vD ?_)
 ·rw[b,e,aM rfl] at h;refine vA (SeqAt.EqAt.int_int B o D v prog w _ _ ?_);refine vE (λe=>vB (PySem.W.kat_nil ?_)) (λe=>vD ?_)
  ·rw[b,e,aM rfl] at h;exact h
  ·rw[b,e,aK zR] at h;exact i _ _ _ _ _ h
 ·rw[b,e,aK zR,KT.plt] at h;exact oneLt_int h
def EJ{h:aC}:∀{ts:jL}{vs:je},Om h ts vs->∃ b,PySem.W.KatTups h vs b/\b.length=vs.length/\∀ v∈b,∃ k t,v=Value.int k t
 | [],vs,x=>by
  unfold Om at x;rw[wI,jV] at x;subst x;exact⟨[],.nil,Z,λv c=>absurd c (by simp)⟩
 | t::ts,vs,x=>by
  unfold Om at x;rw[yT,jV] at x;let⟨v,r,rfl,m,x⟩:=x;let⟨b,d,e,f⟩:=EJ (ts:=ts) (vs:=r) x;let⟨a,l,q,rfl,p⟩:=Jr m;let⟨o,j,g,n,i⟩:=p;exists .int t.1 l::b,.cons j g i Z d,by simp[e]
  intro v c;rcases zC.mp c with rfl | c
  ·exact⟨_,_,Z⟩
  ·exact f v c
def ZKj{f:jL}{a:je}{Q:PyProof.Rows.SortKind->ak->Prop}(j:0<a.length)(h:Om s.heap f a)(d:Q (tuples' true) s):aA (az prog w) A (keyKind' a.toArray) Q E s:=by
 let⟨g,b,i,c⟩:=EJ h;refine PySem.W.kat_kind (T:=.type "int") b ∅ (λv e=>?_) (by decide) d
 let⟨k,t,rfl⟩:=c v e;exact xS.of_pure Z
def ZMF{c:jL}{a:je}{Q:jT->ak->Prop}(z:2<=a.length)(l:a.length<64)(h:Om s.heap c a)(I:A.units+2<cLine)(H:∀ (p:jz) (b:jT),Srt.PB a.length p->jS b=p.map (uE (a.toArray.zip a.toArray))->failedOf b=none->Q b s):
  aA (az prog w) A ((sortRuns').run (SortSt.mk' (tuples' true) (a.toArray.zip a.toArray) #[] 7 none)) (λr e=>Q r.2 e) E s:=by
 let F:c.length=a.length:=by have:=jV.length h;rwa [zX] at this
 refine PySem.W.kat_run (G:=λp e=>e=s/\Srt.PB a.length p) Z z l (λp b e M n o q=>?_) ?_
 ·let⟨rfl,f⟩:=q;exact H p b f n o
 ·refine Srt.sort_ok (lt:=λi j=>((c.map XT).getD i (.int 0)).lt ((c.map XT).getD j (.int 0))) ⟨λi j=>P7 _ _,λi j k=>le_trans'⟩ (λi j d D C B=>?_) ∅ λp f N=>⟨Z,f⟩
  unfold PySem.W.kas_ask;let g:∀ i,i<a.length->∃ t,(c.map XT).getD i (.int 0)=XT t/\ZX s.heap (XT t) (a.getD i Value.none):=λi d=>by
   let⟨t,m,v⟩:=jV.get h (zW d);rw[zS] at m;let⟨L,u,rfl⟩:=yO.mp m;exists L,by rw[zV,zS,u];rfl
   rw[zV,zW d];exact v
  let⟨O,x,J⟩:=g i d;let⟨P,y,K⟩:=g j D;refine ZOp J K I ?_;rw[<-x,<-y];exact B
section
variable{ke:js}{σ:L2.St}{H:Hp}
def ZH0{k:Nat}{l:aj}{L:jf}{C:jL}{Q:VK}(hr:ZZ (k+2) X.A)(I:ZE X ke σ H s)(hl:ZG X.K H l L)(hk:jU H (C.map XT) L)(c1:L.length<64)(q:∀ (D:aj) (ws:jf) (rs:jL) (U:Hp),ZC H U->H D=none->U D=some (.lst ws)->jU U (rs.map XT) ws->rs.Perm C->Q (.ref D) U):
  aA (az X.prog X.w) X.A (call (.builtin "sorted") [.ref l]) (EP X ke σ Q) X.xe s:=by
 let⟨c,rv,pl,hz⟩:=I.list hl;let c0:=rv.length;let a4:=hk.length;rw[zX] at a4;let a9:ZZ k X.A.in1.in1:=(ZZ.in1 (k:=k+1) hr).in1;refine Calls.call_function_entry kind_sorted plain_sorted entry_sorted (args_sorted1 _) ?_;unfold Builtin.«sorted»;refine aa (m:=checkCount "sorted" 1 1 _) (ad ?_);refine aa (collect_list pl.isList ?_ (by rw[sizeLine_eq];lia))
 refine aa (wpAny_newList ?_ (by rw[sizeLine_eq];lia))
 let y:((s.heap.push (seqObj "list" #[] 0)).update s.heap.objs.size (Obj.mapSeq (· ++ c.toArray))).objs.size=s.heap.objs.size+1:=by rw[Heap.size_update,size_push']
 obtain⟨f,x⟩:∃ f,((s.heap.push (seqObj "list" #[] 0)).update s.heap.objs.size (Obj.mapSeq (· ++ c.toArray))).push (seqObj "list" c.toArray 0)=f:=⟨_,Z⟩;let u:f.get? (s.heap.objs.size+1)=some (seqObj "list" c.toArray 0):=by rw[<-x,<-y];exact yS _ Z
 let P:∀ b o,s.heap.get? b=some o->f.get? b=some o:=λb o z=>by
  let G:b<s.heap.objs.size:=zU z;rw[<-x,uG _ _ _ (by rw[y];exact zK (wG G)),uB _ _ _ _ (zK G),uG _ _ _ (zK G)]
  exact z
 let c4:f.objs.size=s.heap.objs.size+2:=by rw[<-x,size_push',y]
 obtain⟨D,eD⟩:∃ D,s.heap.objs.size+1=D:=⟨_,Z⟩;rw[eD] at u;let F:s.heap.objs.size<=D:=∅
 let j:H D=none:=I.hok.fresh F;let d:Wm X ke H D:=I.fpOk F j;let a1:X.s₀.heap.get? D=none:=uX (zL I.sz F);let I1:ZE X ke σ H { s with heap:=f }:=I.kept (t':=s.toks) P;let a0:((s.heap.push (seqObj "list" #[] 0)).update s.heap.objs.size (Obj.mapSeq (· ++ c.toArray))).objs.size=D:=y.trans eD;show aA _ _ _ _ _ { s with heap:=((s.heap.push (seqObj "list" #[] 0)).update s.heap.objs.size (Obj.mapSeq (· ++ c.toArray))).push (seqObj "list" c.toArray 0) };rw[x,a0];refine aa (af (wpAny_call_entry slot_list_sort ⟨_,u,rfl⟩ entry_list_sort ?body (args_list_sort _)));rw[list_sort_plain];refine aa (listItems_at u Z ?_);refine aa (listUpdate_at u Z ?_ (by rw[zQ,sizeLine_eq];lia) (zF _))
 let T:=xB.update f D (Obj.mapSeq λ_=>(#[]:jv));obtain⟨e1,J⟩:∃ e1,(f.update D (Obj.mapSeq λ_=>(#[]:jv))).get? D=some (seqObj "list" #[] e1):=⟨_,get?_update_seq u λ_=>#[]⟩;obtain⟨h,M⟩:∃ h,f.update D (Obj.mapSeq λ_=>(#[]:jv))=h:=⟨_,Z⟩;rw[M] at J T;show aA _ _ _ _ _ { s with heap:=f.update D (Obj.mapSeq λ_=>(#[]:jv)) };rw[M];let I2:ZE X ke σ H { s with heap:=h }:=ZE.turned (s:={ s with heap:=f }) (t':=s.toks) (it:=D) I1 (λb o n z=>(T.2 b n).trans z) d.1 d.2.1 d.2.2.2.1 d.2.2.2.2.1 d.2.2.2.2.2;refine aa (seqEpoch_at J Z ?_);refine aa (wpAny_newTuple ?_ (by show c.length<=_;rw[sizeLine_eq];lia))
 refine aa (wpAny_newList ?_ (zF _));refine af ?_;obtain⟨e,N⟩:∃ e,(h.push (seqObj "tuple" c.toArray 0)).push (seqObj "list" #[] 0)=e:=⟨_,Z⟩;let v:∀ b o,h.get? b=some o->e.get? b=some o:=λb o z=>by rw[<-N];exact zP _ (zP _ z)
 let I3:ZE X ke σ H { s with heap:=e }:=I2.kept (t':=s.toks) v;let R:e.get? D=some (seqObj "list" #[] e1):=v _ _ J;let sv:Om e C c:=kvals_of I3 _ _ _ hk rv;show aA _ _ _ _ _ { s with heap:=(h.push (seqObj "tuple" c.toArray 0)).push (seqObj "list" #[] 0) };rw[N];dsimp only;let E:∀(p:jz),Srt.PB c.length p->EP X ke σ Q (.ref D) { s with heap:=e.update D (Obj.mapSeq λ_=>yK (p.toList.map λi=>c.getD i Value.none)) }:=by
  intro p hp;let a7:=hp.size;let t:∀ i∈p.toList,i<L.length:=λi hi=>by
   have:i∈(yK (zN c.length)):=hp.mem_iff.mp (sJ.mp hi);have:=(xG.mp (by simpa using this):i<c.length)
   lia
  let a5:p.toList.length=c.length:=by rw[wR,a7]
  let s2:=xB.update e D (Obj.mapSeq λ_=>yK (p.toList.map λi=>c.getD i Value.none));obtain⟨c2,a2⟩:∃ c2,(e.update D (Obj.mapSeq λ_=>yK (p.toList.map λi=>c.getD i Value.none))).get? D=some (seqObj "list" (yK (p.toList.map λi=>c.getD i Value.none)) c2):=⟨_,get?_update_seq R λ_=>yK (p.toList.map λi=>c.getD i Value.none)⟩;let J2:ZE X ke σ H { s with heap:=e.update D (Obj.mapSeq λ_=>yK (p.toList.map λi=>c.getD i Value.none)) }:=ZE.turned (s:={ s with heap:=e }) (t':=s.toks) (it:=D) I3 (λb o n z=>(s2.2 b n).trans z) j d.2.1 d.2.2.2.1 d.2.2.2.2.1 d.2.2.2.2.2;let J3:=Fw (a:=D) (o:=.lst (p.toList.map λi=>L.getD i .non)) J2 a1 d.2.1 d.2.2.2.2.1 d.2.2.2.2.2 j ⟨by rw[zX,a5,sizeLine_eq];lia,_,c2,JO rv _ t,a2⟩
  let g:=Zc j (.lst (p.toList.map λi=>L.getD i .non));refine⟨.ref D,_,J3,Z,q D _ (p.toList.map λi=>C.getD i (0,0)) _ g j ZP ?_ ?_⟩
  ·have:=JN (hk.sm g) _ t;let e2:(p.toList.map λi=>(C.map XT).getD i (.int 0))=(p.toList.map λi=>C.getD i (0,0)).map XT:=by
    rw[yZ];refine tZ λi hi=>?_;let c3:=t i hi;let a3:i<C.length:=∅
    simp[zV,zW a3]
   rw[e2] at this;exact this
  ·let a6:p.toList.Perm (zN c.length):=by simpa using qK.mp hp
   have:=a6.map (λi=>C.getD i (0,0));rw[show c.length=C.length by lia,range_getD] at this
   exact this
 by_cases h:c.length<2
 ·rw[aM (by rw[zQ];exact h),aM (by rw[zQ];exact h)]
  refine aa (ad (aa (ad ?_)));dsimp only;let e0:((jS (SortSt.mk' general' (c.toArray.zip c.toArray) #[] 7 none)).map (·.2))=yK ((yK (zN c.length)).toList.map λi=>c.getD i Value.none):=by
   show ((c.toArray.zip c.toArray).map (·.2))=_;apply sN.mp;rw[Array.toList_map,ksk_zip];simp only[tY];rw[range_getD,List.map_snd_zip ∅]
  rw[e0];refine aa (seqEpoch_at R Z ?_);refine aa (listUpdate_at R Z ?_ (zF _) (by rw[zQ,zX,tY,rS,sizeLine_eq];lia))
  simp only[bne_self_eq_false,wS,if_false];exact ad ⟨.none,Z,ad ⟨_,Z,E _ (Array.Perm.refl _)⟩⟩
 ·rw[aK (by rw[zQ];exact h),aK (by rw[zQ];exact h)]
  refine aa (ZKj ∅ sv ?_)
  refine aa (Zz (ZMF (Q:=λB S=>S={ s with heap:=e }/\∃ p:jz,Srt.PB c.length p/\jS B=p.map (uE (c.toArray.zip c.toArray))/\failedOf B=none)
   ∅ ∅ sv (by let a:=a9.un;lia) λp B Y b3 b4=>⟨Z,p,Y,b3,b4⟩) λr S a8=>?_)
  let⟨⟨⟩,B⟩:=r;let⟨rfl,p,Y,b3,b4⟩:=a8;let O:=PySem.W.kat_snds Z b3;dsimp only;rw[O];refine aa (seqEpoch_at R Z ?_);refine aa (listUpdate_at R Z ?_ (zF _) (by rw[zQ,zX,wR,Y.size,sizeLine_eq];lia))
  rw[b4];simp only[bne_self_eq_false,wS,if_false];exact ad ⟨.none,Z,ad ⟨_,Z,E p Y⟩⟩
end
inductive OU(f:jf)(H:Hp)(Q:VK):Prop
 |mk(l:aj)(b:jf)(d:jL)(_:f=[.ref l])(_:H l=some (.lst b))(_:jU H (d.map XT) b)(_:b.length<64)(_:∀(D:aj)(e:jf)(c:jL)(a:Hp),ZC H a->H D=none->a D=some (.lst e)->jU a (c.map XT) e->c.Perm d->Q (.ref D) a)
def Cd{X:Cx}{k:Nat}(e:ZZ (k+2) X.A):VL X (.builtin "sorted") OU:=by
 intro b s n H m i Q I r h;let⟨l,j,g,rfl,d,c,a,q⟩:=h;let⟨u,rfl,f⟩:=VO r;cases f;exact ZH0 e I (ZG.of d) c a q
def Ac{H:Hp}{j:jL}{k:jf}{i:Nat}{u:V}(h:jU H (j.map XT) k)(e:k[i]? = some u):∃ t a,j[i]? = some t/\u=.ref a/\H a=some (.tup [.int t.1,.int t.2]):=by
 let⟨t,d,c⟩:=h.get e;rw[zS] at d;let⟨r,l,rfl⟩:=yO.mp d;unfold XT at c;rw[ZF] at c;let⟨a,s,rfl,m,b⟩:=c;rw[jU] at b;let⟨p,n,rfl,f,b⟩:=b;rw[jU] at b;let⟨q,o,rfl,g,b⟩:=b;rw[jU] at b;subst b;rw[ZF] at f g;subst f g;exact⟨r,a,l,Z,m⟩
def ER{gt:jp}(g:gt.Pairwise λa b=>a.lt b=true){i j:Nat}{x y:KT}(c:gt[i]? = some x)(d:gt[j]? = some y)(h:i<=j):Vx x y:=by
 let⟨e,rfl⟩:=yN.mp c;let⟨f,rfl⟩:=yN.mp d;rcases Nat.eq_or_lt_of_le h with z | z
 ·subst z;exact .refl _
 ·exact .inr (tN.mp g i j e f z)
def MZ(a b:YN):Prop:=Vx b.lo a.lo/\Vx a.hi b.hi
def Eu{gt:jp}{a:jq}{n b:Nat}(k:WF gt a)(s:n<a.length)(i:(gd a n).h≠0)(j:b∈(gd a n).bs):MZ (Zu (gd a b)) (Zu (gd a n)):=by
 let d:=k n _ (Ym s);let g:=k b _ (Ym ((d.stem i).2.2.1 b j).1);let c:∀ y∈(gd a b).rows,y∈(gd a n).rows:=λy t=>by
  rw[(d.stem i).2.2.2];exact wZ.mpr ⟨b,j,t⟩
 let⟨⟨l,e,q⟩,m,f,r⟩:=O7 g.ne;let o:=(PU d.up l (c l e)).1;let p:=(PU d.up m (c m f)).2;rw[q] at o;rw[r] at p;exact⟨o,p⟩
def Dh{gt:jp}{a:jq}{n:Nat}{bs:jo}(j:WF gt a)(i:∀ b∈bs,b<a.length/\MZ (Zu (gd a b)) (Zu (gd a n))):Wi (gd a n) (YQ a bs):=λr d=>by
 let d:r∈bs.flatMap λb=>(gd a b).rows:=d;let⟨b,c,e⟩:=wZ.mp d;let⟨f,g,h⟩:=i b c;let⟨k,l⟩:=PU (j b _ (Ym f)).up r e;exact⟨g.trans k,l.trans h⟩
def ZN9{a:jq}{n:Nat}{bs:jo}(h:over (Zx a bs)≠none)(g:∀ b∈bs,(gd a b).h+1=(gd a n).h):PJ (Zx a bs) (some ((gd a n).h:Nat)):=by
 exists h;intro i e;cases e;let c:0<bs.length:=by
  cases bs with
  | nil=>exact absurd (show over (Zx a [])=none from aK λz=>absurd z.1 (show ¬ 2<=0 by decide)) h
  | cons _ _=>simp
 let f:(Zx a bs).getD 0 .d=Zu (gd a bs[0]):=by
  rw[zV];unfold Zx;rw[zS,zW c];rfl
 rw[f];have:=g _ (yJ c);show (((gd a bs[0]).h:Nat):Int)+1=(((gd a n).h:Nat):Int)
 lia
def CJ:aB->jK
 | .For _ _ b _ _=>b
 | _=>[]
structure Vm(m:Md)(n b:Nat):Prop where
 lv:b∈m.lv
 hh:(gd m.ts b).h+1=(gd m.ts n).h
 ho:b∉(gd m.ts n).bs->1<=m.ho b
 lin:MZ (Zu (gd m.ts b)) (Zu (gd m.ts n))
def ZKe{a:jI}(h:(over a).isSome=true):a.length<=4:=by
 unfold over at h;split at h
 ·rename_i c;exact c.2.1
 ·cases h
def Ja{K:zZ}{B:jo}{E:L2.St}{H:Hp}{Q:VK}{a:aj}{d:jf}{f:jL}(l:H a=some (.lst d))(s:jU H (f.map XT) d)(F:f.length<=300)(x:∀ t∈f,0<=t.2)(k:∀ D b,ZC H b->H D=none->b D=some (.lst (iN (f.map λt=>t.2.toNat)))->Q (.ref D) b):O9 (OO K a) 2 (P0 K) E B O8 (VY 1) H Q:=by
 let C:=s.length;rw[zX] at C;refine AV (K:=K) (n:=d.length) (λi z=>d[i]? = some z) (λD i e b=>ZC H b/\H D=none/\e=iN ((f.take i).map λt=>t.2.toNat)) (YL ∅)
  (λD i e b m c=>⟨d,d[i],ZG.of (c.1 _ _ l),by simp[m]⟩) (λD i e b z u m c r=>⟨r.1,r.2 d (ZG.of (c.1 _ _ l))⟩) (λD e b c=>⟨d,ZG.of (c.1 _ _ l),zY _⟩)
  (λD p=>⟨Zc p _,p,Z⟩) (λD i e b z g w m A c=>?_) (λD e b g c=>?_)
 ·let⟨j,h,rfl⟩:=c;let⟨t,q,o,rfl,y⟩:=Ac s A;refine⟨q,_,_,Z,Zb.of (j _ _ y),λR v=>⟨_,Z,v _ _ g ⟨VJ j h,h,?_⟩⟩⟩;have:=x t (zG o);rw[yP,o,yX];unfold iN;rw[yX];show _++[V.int t.2]=_++[V.int ((t.2.toNat:Nat):Int)];rw[Int.toNat_of_nonneg this]
 ·let⟨j,h,rfl⟩:=c;rw[yM ∅] at g
  exact k D b j h g
def Lm:List Stmt:=CJ ((X7 Wf).getD 7 (.Pass ⟨0,0,0,0⟩))
def HW:(zFd:jr).Nodup:=by decide +kernel
abbrev NB(a:Pl)(p k h:aj)(n:Nat)(l:jg)(i j:Nat)(c d e g:jg):L2.St:=[some (.ref p),some (.ref k),some (.int (n:Nat)),some (.ref a.S),some (.ref a.dT),some (.ref a.dH),some (.ref a.gl),some (.ref a.tl),l,some (.ref (a.b n)),none,none,none,some (.int (i:Nat)),some (.int (j:Nat)),some (.ref h),c,d,e,g]
def ZOo{A:aw}{outer:jB}{s:ak}{Hs:Hp}{E:XK}{gt:jp}{a4:ai}(X:YR mg)(DL:ZD P w K mg kf 2 "_law_label" zEb (YG gt))(DF:ZD P w K mg kf 8 "_law_fits" zEm (WG gt))(hr:ZZ 11 (A.deeper (envOfC "_law_changed" (Zf Wf) s.heap.objs.size f a4))):
  ∃ t,X4 (WW ZY P w K mg kf OP "_law_changed" (Zf Wf) f a4 A outer s Hs E).nox (Lm.drop 2) t /\
   ∀(D:Yc)(H:Hp)(p st Y tb:aj)(a:Pl)(m:Md)(n b:Nat)(bs:jo)(x8 e5:jg)(j1 j2:Nat)(e4 e3:V)(I:Bool),LS gt jZ kd H a m->n∈m.lv->(gd m.ts n).h≠0->b∈m.lv->H Y=some (.lst (iN bs))->bs.length<=4->(∀ c∈bs,Vm m n c) ->
    H tb=some (.tup [.int (Zu (gd m.ts b)).h,e4,e3,.int (Zu (gd m.ts b)).m])->(I=true->MZ (Zu (gd m.ts b)) (Zu (gd m.ts n))) ->
    (∀(d:Hp)(L:aj)(a0:jo)(e6:jg),ZC H d->(L=Y\/H L=none)->d L=some (.lst (iN a0))->a0.length<=4->(∀ c∈a0,Vm m n c)->D.nx (NB a p st L n x8 j1 j2 (some (.int (b:Nat))) (some (.ref tb)) (some (.bl I)) e6) d) ->
    t D (NB a p st Y n x8 j1 j2 (some (.int (b:Nat))) (some (.ref tb)) (some (.bl I)) e5) H:=by
 let nd:=Xm.nd;let hu:=WZ hr;let a2:=hr.mono (show 2<=11 by lia)
 let i7:=hr.mono (show 8<=11 by lia)
 refine⟨_,ZW (Z1 (PW.pt (Pk (YI Wp (Z2 Wl (Zi K (pv 17) ZO) ZO) (Zi K (Zm DL a2 (Zj (pv 4) (pv 2))) ZO) (Z0 _))
   (Pk (YI (r:=PM K true) Nd (pv 16) (pv 9) rfl) (Pk (YI Vr (Xt hu (pv 5) (pv 16)) ZO (Z0 _)) (NA (Yg (pv 18)))))))
  (ZQ (Zs 19 nd (Zy (Cd a2) rfl X.sorted Qb (ZV (UD [6,4] ["_law_grid_here","_law_twigs"] rfl (Y9 (Z2 NE (pv 15) (XH (ZV (pv 16))))) (λ_ _ _ _ _=>Vh)
    (λ_ _ _ _ _=>XB (Zj (PN (K:=K) hr (pv 1) (ZV (Zi K (Zm DL a2 (Zj (pv 2) (pv 0))) ZO))) (pv 0))) ⟨rfl,.inl rfl,rfl,rfl,.inl rfl,rfl,trivial⟩))))
   (ZW (Z1 (PW.pt (VU (YI Qj (Zy WH rfl X.len Xh (ZV (pv 19))) ZO (Z0 _)) (Uh (Yg (Zm DF i7 (Zj (pv 4) (Hm (g:=P0 K) zFd "_law_at" [] [] rfl (λ_ _ _ _ _=>Lg Z HW Z Z Z Z) (Y9 (pv 19)) (λ_ _ _ _ _=>Vh) (λ_ _ _ _ _=>pv 1) trivial)))))))
    (ZW (Jk (g:=P0 K) zFd "_law_at" (i:=15) [] [] nd rfl rfl rfl (λ_ _ _ _ _=>Lg Z HW Z Z Z Z) (Y9 (pv 19)) (λ_ _ _ _ _=>Vh) (λ_ _ _ _ _=>pv 1) trivial)) Z6)))
  Z6),λD H p st Y tb a m n b bs x8 e5 j1 j2 e4 e3 I S hn h0 hb a8 l4 U i8 i5 k=>?_⟩
 let⟨T,Lw⟩:=S.lw;let⟨m9,hd,hH⟩:=S.hd;let⟨gs,G⟩:=S.gr;let n0:=S.l64;let n1:=G.len;let e9:∀ t∈gt,t.depth<=100:=λt F=>zL (QO t 3 (G.fit t F)) ∅
 let l:∀ d x,ZC H d->D.nx (NB a p st Y n x8 j1 j2 (some (.int (b:Nat))) (some (.ref tb)) (some (.bl I)) x) d:=λd x s=>k d Y bs x s (.inl rfl) (s _ _ a8) l4 U;let LG:∀ d,ZC H d->Xu gt d a.dT m.ts m.lv T:=λd s=>((Lw.same s).lawT S.wf G.len G.up).g;refine⟨_,Z,.inr (.inl ⟨tb,_,0,.int (Zu (gd m.ts b)).h,rfl,rfl,Zb.of i8,rfl,_,_,rfl,rfl,_,rfl,_,rfl,a.dT,n,m.ts,m.lv,T,rfl,LG H (ZC.refl _),hn,λH1 v s1 hv=>?_⟩)⟩;let⟨tn,n6,n5,rfl,l0,_,_⟩:=hv;refine .inr (.inl ⟨tn,_,0,.int (Zu (gd m.ts n)).h,rfl,rfl,Zb.of l0,rfl,rfl,_,rfl,Yz (λc1=>?_) (λc1=>Zp (l _ _ s1))⟩);let e1:(((gd m.ts b).h:Nat):Int)+1=((gd m.ts n).h:Nat):=V.int.inj (of_decide_eq_true c1);let⟨n7,n8,q1,q2,q3,q4,q5⟩:=Lw.tw n hn;let i1:=q5 h0;subst i1;let q3:H (a.b n)=some (.lst (iN (gd m.ts n).bs)):=q3;refine⟨_,Z,_,Z,_,_,Z,.inl (ZG.of (s1 _ _ q3)),Z,Oj _,_,Z,Yz (λc2=>?_) (λc2=>Zp (l _ _ s1))⟩;rw[N0] at c2;let hg:Zg H1 a.dH (.int (b:Nat)) (some (.int (m.ho b:Nat))):=hH.2 b hb ▸ Zg.k (k:=Sum.inl (b:Int)) (s1 _ _ hd);refine⟨_,Z,_,Z,a.dH,.int (m.ho b:Nat),Z,hg,_,_,Z,Z,_,Z,Yz (λc3=>?_) (λc3=>Zp (l _ _ s1))⟩;refine⟨_,Z,_,Z,Yz (λc4=>?_) (λc4=>l _ _ s1)⟩;let h1:((m.ho b:Nat):Int) > 0:=of_decide_eq_true c3;let cb:Vm m n b:=⟨hb,∅,λ_=>by lia,i5 c4⟩
 let o:∀ c∈bs++[b],Vm m n c:=λc hc=>(zJ.mp hc).elim (U c) λz=>by rw[zM.mp z];exact cb
 let l5:(bs++[b]).length<=5:=by rw[zH,xU];lia
 exists _,Z,_,Z,YX;intro L1 l6;let⟨H2,eU,g2,i3⟩:=Wc l6 (.lst [.int (b:Nat)]);rw[eU];let s2:=s1.trans g2;exists Y,L1,_,_,Z,Z,s2 _ _ a8,i3,xV (YL (by simp[iN];lia))
 intro L2 l7;let a6:iN bs++[.int (b:Nat)]=iN (bs++[b]):=by unfold iN;rw[yX];rfl
 rw[a6];let⟨H3,eU,g3,B⟩:=Wc l7 (.lst (iN (bs++[b])));rw[eU];let s3:=s2.trans g3;generalize bs++[b]=u at B o l5;exists L2,Z,⟨_,ZG.of B⟩;refine UH (n:=u.length) (λi z=>(iN u)[i]? = some z) (λD i ys d=>ZC H3 d/\H3 D=none/\∃ y:jL,jU d (y.map XT) ys/\(∀ t∈y,∃ c∈u,t.2=((c:Nat):Int))/\ys.length<=i) (YL ∅)
  (λD i ys d hi N=>⟨_,.int (u[i]:Nat),ZG.of (N.1 _ _ B),by simp[iN,hi]⟩) (λD i ys d z m5 hi N hy=>⟨hy.1,hy.2 _ (ZG.of (N.1 _ _ B))⟩) (λD ys d N=>⟨_,ZG.of (N.1 _ _ B),by simp[iN]⟩)
  (λD hD=>⟨Zc hD _,hD,[],.nil,λt F=>absurd F (by simp),zY _⟩) (λD i ys d z eD m8 hi hz N R hR=>?_) (λD4 zs H6 i2 N=>?_)
 ·let⟨s',nD,y,Q,a3,i6⟩:=N;let l1:z=.int (u[i]:Nat):=by
   unfold iN at hz;rw[zS,zW hi] at hz;exact(zB.inj hz).symm
  subst l1;let mi:u[i]∈u:=yJ _;let cl:=(o _ mi).lv;let s4:=s3.trans s';exists _,Z,.inl ⟨Z,_,ZG.of (G.same s4).at_⟩,_,Z,_,Z,a.dT,u[i],m.ts,m.lv,T,Z,LG _ s4,cl;intro H5 v s5 hv;let⟨tc,c8,m6,rfl,i9,a9,m4⟩:=hv;let m0:=S.wf _ _ (Ym (Lw.vl.lt _ cl));let⟨jc,m7,i0,l8⟩:=Pg G.up (PF m0).1;let G5:=G.same (s4.trans s5);refine .inr (.inl ⟨tc,_,1,c8,rfl,rfl,Zb.of i9,rfl,a.gl,gs,gt,c8,_,jc,rfl,rfl,G5.at_,G5.keys,a9,e9,i0,l8,∅,?_⟩)
  exists _,Z,YX;intro tq l9;let g:=Zc l9 (.tup [.int (jc:Nat),.int (u[i]:Nat)]);let sA:=s5.trans g;let a5:=sA _ _ eD;let tD:YC (upd H5 tq (.tup [.int (jc:Nat),.int (u[i]:Nat)])) (upd (upd H5 tq (.tup [.int (jc:Nat),.int (u[i]:Nat)])) D (.lst (ys++[.ref tq]))):=λb xs e=>by rw[ZM (ZI e a5)];exact e
  refine hR _ _ a5 ⟨VJ (s'.trans sA) nD,nD,y++[((jc:Int),(u[i]:Int))],?_,λt F=>?_,by simp;lia⟩
  ·rw[yX];exact((Q.sm sA).mono tD _ _).append (.cons (.tup (tD _ _ ZP) (.cons (.int _) (.cons (.int _) .nil))) .nil)
  ·rcases zJ.mp F with h | h
   ·exact a3 t h
   ·rw[zM.mp h];exact⟨u[i],mi,Z⟩
 let⟨m2,n3,y,Q,a3,i6⟩:=N;let s6:=s3.trans m2;exists D4,zs,y,Z,i2,Q,by lia
 intro Ds ws rs H7 m3 n4 q O C;let s7:=s6.trans m3;let W:∀ t∈rs,∃ c∈u,t.2=((c:Nat):Int):=λt F=>a3 t (C.subset F);let n2:rs.length<=5:=by
  have:=Q.length;rw[zX] at this;rw[C.length_eq];lia
 let hp:∀ t∈rs,0<=t.2:=λt F=>by
  let⟨c,_,e⟩:=W t F;rw[e];lia
 let l3:=O.length;rw[zX] at l3;let j:∀ c∈rs.map λt=>t.2.toNat,Vm m n c:=λc hc=>by
  let⟨t,F,rfl⟩:=zE.mp hc;let⟨c,i4,e⟩:=W t F;rw[e];exact o c i4
 let c7:(rs.map λt=>t.2.toNat).length=rs.length:=zX _;generalize a1:(rs.map λt=>t.2.toNat)=ds at j c7;refine⟨_,Z,Ds,_,Z,.inl (ZG.of q),_,_,Z,Z,_,Z,Yz (λc5=>?_) (λc5=>?_)⟩
 ·let l2:(ws.length:Int)<2:=of_decide_eq_true c5;exact YJ ⟨_,Z,Ds,Z,⟨_,ZG.of q⟩,Ja q O ∅ hp λLN H9 s9 c9 M=>k H9 LN ds _ (s7.trans s9) (.inr (s7.free c9)) (by rw[<-a1];exact M) ∅ j⟩
 ·refine⟨_,Z,_,Z,Ds,Z,⟨_,ZG.of q⟩,Ja q O ∅ hp λLN H8 s8 c9 M=>?_⟩
  rw[a1] at M;let e2:=s7.trans s8;refine⟨a.dT,LN,ds,m.ts,m.lv,T,Z,LG _ e2,λc hc=>(j c hc).lv,M,∅,λH9 s9=>⟨_,Z,Yz (λc6=>?_) (λc6=>l _ _ (e2.trans s9))⟩⟩
  let c0:=ZKe c6;rw[show (Zx m.ts ds).length=ds.length from zX _] at c0;let J:=s8.trans s9;exact⟨_,Z,Ds,Z,⟨_,ZG.of (J _ _ q)⟩,Ja (J _ _ q) (O.sm J) ∅ hp λe8 e7 m1 e0 a7=>k e7 e8 ds _ ((s7.trans J).trans m1) (.inr ((s7.trans J).free e0)) (by rw[<-a1];exact a7) c0 j⟩
def A2{J:It}{K:jo}{M:L2.St}{H:Hp}{p:aj}{L:TT}{Q:VK}(d:jo)(hn:d.length<=900)(W:ZJ H p)(u:∀ i a,ZH p H a->i<d.length->J.go i a)(hy:∀ i a x g,ZH p H a->i<d.length->J.yld i a x g->g=a/\(iN d)[i]? = some x)(h:∀ a,ZH p H a->J.stop d.length a)(r:∀ a n (R:Bool->Hp->Prop),n∈d->ZH p H a->ZJ a p->(∀ b g,ZH p a g->ZJ g p->R b g)->L (Q2 M K (.int (n:Nat))) a R)(s:∀ (D:aj) (a:Hp) (l:jo),ZH p H a->ZJ a p->H D=none->a D=some (.lst (iN l))->(∀ b∈l,b∈d)->l.length<=d.length->Q (.ref D) a):Xs J M K L (VY 0) H Q:=by
 intro D k;let⟨a0,X⟩:=W.some;let A:D≠p:=(Za X k).symm;exists λi m a=>m=d.length-i/\i<=d.length/\∃ l:jo,a D=some (.lst (iN l))/\l.length<=i/\(∀ b∈l,b∈d)/\ZH p H a/\ZJ a p,⟨d.length,rfl,zF _,[],ZP,zY _,λb q=>(by cases q),ZH.of (Zc k _),W.same (Zc k _)⟩
 rintro i m a ⟨rfl,hi,l,e,G,q,j,B⟩;by_cases f:i<d.length
 ·refine .inr ⟨u i a j f,λx N y=>?_⟩;let⟨rfl,v⟩:=hy i a x N j f y;unfold iN at v;rw[zS] at v;let⟨n,V,rfl⟩:=yO.mp v;let I:=zG V;refine r _ n _ I j B λb g w C=>?_;let E:=w _ _ e A
  cases b with
  | true=>
   refine YJ ⟨_,Z,iN l,d.length-(i+1),E,YL (by rw[zX];lia),∅,Z,f,l++[n],by rw[ZP];simp[iN],by rw[zH,xU];lia,λb t=>?_,λc o F n=>?_,?_⟩
   ·rcases zJ.mp t with z | z
    ·exact q b z
    ·rw[zM.mp z];exact I
   ·rw[ZM (Za F k)];exact w _ _ (j _ _ F n) n
   ·let⟨O,P,S,T,Y,rr⟩:=C.ex;exact⟨O,P,S,T,by rw[ZM (Ne.symm A)];exact Y,rr⟩
  | false=>exact Zp ⟨d.length-(i+1),∅,Z,f,l,E,wH G,q,j.trans w,C⟩
 ·let U:i=d.length:=∅
  subst U;exact .inl ⟨h a j,s D a l j B k e q G⟩
inductive Jx(a:Pl)(p st:aj)(n:Nat)(x8:jg)(j1 j2:Nat)(m:Md)(H Hq:Hp):Nat->L2.St->Hp->Prop
 |mk{i:Nat}{LR:aj}{bs:jo}{x16 x17 x18 x19:jg}{H':Hp}:ZC Hq H'->H LR=none->H' LR=some (.lst (iN bs))->bs.length<=4->(∀ c∈bs,Vm m n c)->Jx a p st n x8 j1 j2 m H Hq i (NB a p st LR n x8 j1 j2 x16 x17 x18 x19) H'
def ZKO{A:aw}{outer:jB}{s:ak}{Hs:Hp}{E:XK}{gt:jp}{a6:ai}{CS CT CH CD:aj}(X:YR mg)(L:Yd K mg jZ kd)(DM:ZA P w K mg kf (YB P w) 11 jZ "change_stem" zEp (YT gt jZ kd CS CT CH CD))(DL:ZD P w K mg kf 2 "_law_label" zEb (YG gt))(DF:ZD P w K mg kf 8 "_law_fits" zEm (WG gt))(hr:ZZ 11 (A.deeper (envOfC "_law_changed" (Zf Wf) s.heap.objs.size f a6))):
  ∃ t,X4 (WW ZY P w K mg kf OP "_law_changed" (Zf Wf) f a6 A outer s Hs E).nox ((X7 Wf).drop 7) t /\
   ∀(H Y:Hp)(Q:VK)(p st LR:aj)(a:Pl)(m:Md)(n:Nat)(bs rest:jo)(x8:jg)(R S:Nat),ZJ H p->LS gt jZ kd H a m->X2 a m p->ZH p H Y->ZJ Y p->H LR=none->Y LR=some (.lst (iN bs))->bs.length<=4->n∈m.lv->(gd m.ts n).h≠0->Zo m.ts m.lv m.ho n (n::rest)->(∀ b∈bs,Vm m n b)->gt[R]? = some (Zu (gd m.ts n)).lo->gt[S]? = some (Zu (gd m.ts n)).hi->Xi gt jZ kd H p a m Q ->
    t { nx:=λ_ I=>Q .non I,rt:=Q } (NB a p st LR n x8 R S none none none none) Y:=by
 let⟨tI,hI,qI⟩:=ZOo (jZ:=jZ) (kd:=kd) (Hs:=Hs) (outer:=outer) (E:=E) X DL DF hr;let⟨tT,hT,qT⟩:=Ba (Hs:=Hs) (outer:=outer) (E:=E) X L DM hr;let nd:=Xm.nd;let e2:=hr.mono (show 2<=11 by lia)
 let e3:=hr.mono (show 8<=11 by lia)
 refine⟨_,ZQ (Wu PassesOwn.never rfl (Y9 (Zy (Pd rfl) rfl X.sorted Qb (ZV (pv 4)))) (YZ 16 nd)
   (ZQ (Zs 17 nd (Zm DL e2 (Zj (pv 4) (pv 16))))
   (ZQ (Zs 18 nd (Ug (VA Uf (pv 13) (PN (K:=K) hr (pv 6) (ZV (Zi K (pv 17) ZO))) (Z0 _))
    (Qn (VA Uf (PN (K:=K) hr (pv 6) (ZV (Zi K (pv 17) ZO))) (pv 14) (Z0 _))))) hI)))
  (ZQ (Z1 (Xv (Yg (Zm DF e3 (Zj (pv 4) (pv 15))))) (ZW (Zr V9)) Z6) hT),λH Y Q p st LR a m n bs rest x8 R S W S0 O x3 W3 e7 c9 l4 hn h0 i0 a5 c7 c8 k=>?_⟩
 let⟨l3,e1⟩:=W.some;let S3:=S0.sx O e1 x3;let⟨U,Lw⟩:=S3.lw;let⟨gs,G⟩:=S3.gr;let e6:=S0.l64;let l2:=G.len;let a7:∀ t∈gt,t.depth<=100:=λt ht=>zL (QO t 3 (G.fit t ht)) ∅
 let eL:(m.lv.map λi:Nat=>(i:Int)).map V.int=iN m.lv:=by rw[yZ];rfl
 let LG:∀ I,ZC Y I->Xu gt I a.dT m.ts m.lv U:=λI s=>((Lw.same s).lawT S0.wf G.len G.up).g;let a0:∀(J:Hp)(q:aj),ZC Y J->J q=none->H q=none:=λJ q C e=>by
  cases z:H q with
  | none=>rfl
  | some o=>
   by_cases y:q=p
   ·subst y;let⟨xs,e'⟩:=(W3.same C).some;rw[e'] at e;cases e
   ·rw[C _ _ (x3 _ _ z y)] at e;cases e
 exists _,Z,a.dT,U,m.lv.map λi:Nat=>(i:Int),Z,Lw.dict,(by rw[Lw.keys,yZ];rfl),Qa Lw.vl.up,by simpa using e6
 intro q nq;rw[eL];let⟨H4,eU,g4,hq⟩:=Wc nq (.lst (iN m.lv));rw[eU];refine⟨q,Z,⟨_,ZG.of hq⟩,UT (K:=K) (a:=q) (xs:=iN m.lv) (Jx a p st n x8 R S m H H4) (.mk (ZC.refl _) e7 (g4 _ _ c9) l4 a5) (λi σ I _ hP=>?_) (λi u σ H5 a3 hP=>?_) (λσ H5 hP=>?_)⟩
 ·let⟨s',_⟩:=hP;exact ZG.of (s' _ _ hq)
 ·let⟨T,B,j,c3,d⟩:=hP;rename_i r x i4 i5 i6 a4
  unfold iN at a3;rw[zS] at a3;let⟨b,eb,rfl⟩:=yO.mp a3;let bl:=zG eb;let s5:=g4.trans T;exists _,Z,_,Z,a.dT,b,m.ts,m.lv,U,Z,LG _ s5,bl;intro J v l hv;let⟨tb,lo,hi,rfl,a2,e5,e4⟩:=hv;let C:=s5.trans l;let G6:=G.same C;let c5:=S0.wf _ _ (Ym (Lw.vl.lt _ bl));let⟨i1,l0,a8,e8⟩:=Pg G.up (PF c5).1;let⟨i2,l1,a9,e9⟩:=Pg G.up (PF c5).2;let go:∀(D:Yc)(N:Bool),(∀ c6 I,Jx a p st n x8 R S m H H4 (i+1) c6 I->D.nx c6 I)->(N=true->R<=i1/\i2<=S)->tI D (NB a p st r n x8 R S (some (.int (b:Nat))) (some (.ref tb)) (some (.bl N)) a4) J:=λD N hD c0=>
   qI _ J p st r tb a m n b x x8 a4 R S lo hi N (S3.same C) hn h0 bl (l _ _ j) c3 d a2 (λz=>⟨ER G.up c7 a8 (c0 z).1,ER G.up a9 c8 (c0 z).2⟩) λH7 i7 i8 i9 i3 c2 a1 c4 M=>
    hD _ _ (.mk ((T.trans l).trans i3) (c2.elim (λz=>z ▸ B) λz=>a0 _ _ C z) a1 c4 M)
  refine⟨_,Z,_,Z,.inl ⟨Z,_,ZG.of G6.at_⟩,_,Z,.inr (.inl ⟨tb,_,1,lo,rfl,rfl,Zb.of a2,rfl,a.gl,gs,gt,lo,_,i1,rfl,rfl,G6.at_,G6.keys,e5,a7,a8,e8,∅,_,_,rfl,rfl,_,rfl,Yz (λc1=>?_) (λc1=>go _ false (λ_ _ z=>z) λz=>by cases z)⟩)⟩
  let z1:((R:Nat):Int)<=((i1:Nat):Int):=of_decide_eq_true c1;refine⟨_,Z,.inl ⟨Z,_,ZG.of G6.at_⟩,_,Z,.inr (.inl ⟨tb,_,2,hi,rfl,rfl,Zb.of a2,rfl,a.gl,gs,gt,hi,_,i2,rfl,rfl,G6.at_,G6.keys,e4,a7,a9,e9,∅,_,rfl,_,_,rfl,rfl,go _ _ (λ_ _ z=>z) λz=>?_⟩)⟩
  let z2:((i2:Nat):Int)<=((S:Nat):Int):=of_decide_eq_true z
  lia
 ·let⟨T,B,j,c3,d⟩:=hP;rename_i r x i4 i5 i6 a4
  let s5:=g4.trans T;refine⟨_,Z,_,Z,a.dT,r,x,m.ts,m.lv,U,Z,LG _ s5,λc F=>(d c F).lv,j,∅,λJ l=>⟨_,Z,?_⟩⟩
  let C:=s5.trans l;let x6:=x3.trans (ZH.of C)
  cases e0:over (Zx m.ts x) with
  | none=>
   refine YJ ?_;exact k J a m (λc o e v=>⟨v,λn1=>x6 _ _ e n1⟩) (λ_ _ _ v=>v) (S3.same C) (W3.same C) O Z ∅ ∅
  | some Lb=>
   refine Zp ?_;exact qT H J Q p st r a m n x rest _ _ _ _ _ _ _ W S0 O x6 (W3.same C) B (l _ _ j) ∅ hn h0 i0 (λc F=>(d c F).lv) (ZN9 (by rw[e0];intro z;cases z) λc F=>(d c F).hh) (λc F=>(d c F).ho) (Dh S0.wf λc F=>⟨Lw.vl.lt c (d c F).lv,(d c F).lin⟩) k
def CN{A:aw}{outer:jB}{s:ak}{Hs:Hp}{E:XK}{gt:jp}{J:ai}{CS CT CH CD:aj}(X:YR mg)(L:Yd K mg jZ kd)(DM:ZA P w K mg kf (YB P w) 11 jZ "change_stem" zEp (YT gt jZ kd CS CT CH CD))(DP:ZD P w K mg kf 1 "_law_pull" zEd Yb)(DL:ZD P w K mg kf 2 "_law_label" zEb (YG gt))(DF:ZD P w K mg kf 8 "_law_fits" zEm (WG gt))(Y:ZZ 11 (A.deeper (envOfC "_law_changed" (Zf Wf) s.heap.objs.size f J))):
  ∃ t,X4 (WW ZY P w K mg kf OP "_law_changed" (Zf Wf) f J A outer s Hs E).nox ((X7 Wf).drop 4) t /\
   ∀(H C:Hp)(Q:VK)(p st:aj)(a:Pl)(m:Md)(n:Nat)(rest:jo)(x8:jg),ZJ H p->LS gt jZ kd H a m->X2 a m p->ZC H C->n∈m.lv->(gd m.ts n).h≠0->Zo m.ts m.lv m.ho n (n::rest)->Xi gt jZ kd H p a m Q ->
    t { nx:=λ_ B=>Q .non B,rt:=Q } [some (.ref p),some (.ref st),some (.int (n:Nat)),some (.ref a.S),some (.ref a.dT),some (.ref a.dH),some (.ref a.gl),some (.ref a.tl),x8,some (.ref (a.b n)),none,none,none,none,none,none,none,none,none,none] C:=by
 let⟨tL,hL,qL⟩:=ZKO (Hs:=Hs) (outer:=outer) (E:=E) X L DM DL DF Y;let nd:=Xm.nd;let a4:=Y.mono (show 1<=11 by lia)
 let a0:=Y.mono (show 2<=11 by lia)
 refine⟨_,ZQ (Zs 13 nd (PN (K:=K) Y (pv 6) (ZV (Zi K (Zm DL a0 (Zj (pv 4) (pv 2))) ZO))))
  (ZQ (Zs 14 nd (PN (K:=K) Y (pv 6) (ZV (Zi K (Zm DL a0 (Zj (pv 4) (pv 2))) ZO))))
  (ZQ (Og (i:=15) [0] zE2 nd rfl rfl rfl (Y9 (pv 9)) (λ_ _ _ _ _=>Q6 (YI Vr (Zm DP a4 (Zj (pv 1) ZO)) ZO (Z0 _))) (λ_ _ _ _ _=>pv 0) ⟨rfl,.inl rfl,rfl,trivial⟩) hL)),λH C Q p st a m n rest x8 W I O s3 j h0 a8 k=>?_⟩
 let⟨c7,c1⟩:=W.some;let S3:=I.same s3;let W3:=W.same s3;let⟨u,F⟩:=S3.lw;let⟨gs,G⟩:=S3.gr;let c3:=G.len;let M:∀ t∈gt,t.depth<=100:=λt y=>zL (QO t 3 (G.fit t y)) ∅
 let LG:∀ B,ZC C B->Xu gt B a.dT m.ts m.lv u:=λB s=>((F.same s).lawT I.wf G.len G.up).g;let ok:=I.wf n _ (Ym (F.vl.lt n j));let⟨i1,a9,N,a6⟩:=Pg G.up (PF ok).1;let⟨i2,c0,T,a7⟩:=Pg G.up (PF ok).2;exists _,Z,.inl ⟨Z,_,ZG.of G.at_⟩,_,Z,_,Z,a.dT,n,m.ts,m.lv,u,Z,LG _ (ZC.refl _),j;intro H4 v s4 hv;let⟨ta,lo,hi,rfl,y,q,o⟩:=hv;let G4:=G.same s4;refine .inr (.inl ⟨ta,_,1,lo,rfl,rfl,Zb.of y,rfl,a.gl,gs,gt,lo,_,i1,rfl,rfl,G4.at_,G4.keys,q,M,N,a6,∅,?_⟩)
 exists _,Z,.inl ⟨Z,_,ZG.of G4.at_⟩,_,Z,_,Z,a.dT,n,m.ts,m.lv,u,Z,LG _ s4,j;intro H5 v s5 hv;clear y q o;let⟨tb,c4,U,rfl,y,q,o⟩:=hv;let c:=s4.trans s5;let G5:=G.same c;refine .inr (.inl ⟨tb,_,2,U,rfl,rfl,Zb.of y,rfl,a.gl,gs,gt,U,_,i2,rfl,rfl,G5.at_,G5.keys,o,M,T,a7,∅,?_⟩)
 let⟨c5,c6,q1,q2,q3,q4,q5⟩:=F.tw n j;let a1:=q5 h0;subst a1;let q3:C (a.b n)=some (.lst (iN (gd m.ts n).bs)):=q3;let e:=c _ _ q3;let bp:a.b n≠p:=(O.tw n j).2.2;let⟨k2,k4,kb,_⟩:=ok.stem h0;let x5:ZH p H H5:=ZH.of (s3.trans c);refine⟨_,Z,a.b n,Z,⟨_,ZG.of e⟩,A2 (p:=p) (gd m.ts n).bs ∅ (W3.same c) (λi D l hi=>⟨_,.int ((gd m.ts n).bs[i]:Nat),ZG.of (l _ _ e bp),by simp[iN,zW hi]⟩) (λi D x H7 l hi hy=>⟨hy.1,hy.2 _ (ZG.of (l _ _ e bp))⟩) (λD l=>⟨_,ZG.of (l _ _ e bp),by simp[iN]⟩) (λD b R hb l W6 hR=>?_) (λLR D bs l W6 a5 a2 a3 c2=>?_)⟩
 ·exact⟨_,Z,p,4,Z,W6,VZ (by decide) (by decide),λr H7 r0 r1 W7 x7=>⟨_,_,Z,Z,_,Z,hR _ _ x7 W7⟩⟩
 ·refine qL H D Q p st LR a m n bs rest x8 i1 i2 W I O (x5.trans l) W6 ((s3.trans c).free a5) a2 ∅ j h0 a8 (λb hb=>?_) N T k
  let d:=a3 b hb;exact⟨F.vl.cl n j b d,(kb b d).2,λz=>absurd d z,Eu I.wf (F.vl.lt n j) h0 d⟩
def BV{gt:jp}{Y CT V U:aj}(F:Zn K "_law_changed" "_law_changed" Wf f fd)(X:YR mg)(L:Yd K mg jZ kd)(DM:ZA P w K mg kf (YB P w) 11 jZ "change_stem" zEp (YT gt jZ kd Y CT V U))(DN:ZA P w K mg kf (YB P w) 11 jZ "change_leaf" zEs (Yi gt jZ kd))(T:ZD P w K mg kf 1 "_law_pull" zEd Yb)(DL:ZD P w K mg kf 2 "_law_label" zEb (YG gt))(DF:ZD P w K mg kf 8 "_law_fits" zEm (WG gt))(DS:ZD P w K mg kf 2 "_law_shared" zEi (Yx gt)):
  ZN P w K mg kf ZY 12 f fd zEo (Xe gt jZ kd):=by
 refine F.ko Xm λa0 A b s H vs Q E y h=>?_;let⟨p,R,n,a,m,rfl,W,J,d,O,x,k⟩:=h;let⟨tM,hM,qM⟩:=CN (Hs:=H) (outer:=b) (E:=E) X L DM T DL DF y;let⟨tL,hL,qL⟩:=D0 (Hs:=H) (outer:=b) (E:=E) X L DN T y;let g:=Xm.nd;let hu:=WZ y;let D:=y.mono (show 2<=11 by lia)
 intro Xc;refine⟨_,ZQ (Qc (pv 1) (Qd rfl (Y7 (YZ 3 g) (Y7 (Qo (i:=4) g rfl (Or.inr rfl)) (Y7 (YZ 5 g) (Y7 (Qo (i:=6) g rfl (Or.inr rfl)) (Y7 (YZ 7 g) QV)))))))
  (ZQ (Qc (Xt hu (pv 4) (pv 2)) (Qd rfl (Y7 (YZ 8 g) (Y7 (YZ 9 g) QV))))
  (ZQ (Z1 (O0 (ZNp (Zm DS D (Pi (pv 4) (pv 5) (pv 2))))) (ZW (Zr V9)) Z6)
  (ZQ (Z1 (YI Wp (pv 8) X0 (Z0 _)) hL Z6) hM))),?_⟩
 let⟨a3,a1⟩:=W.some;let⟨S,B⟩:=d.lw;let⟨M,hd,hH⟩:=d.hd;let⟨gs,G⟩:=d.gr;let N:=d.l64;exists _,Z,R,_,Z,Zb.of J,Z,_,_,Z,_,_,Z,_,_,Z,_,_,Z,_,_,Z,Z;let⟨t,a2,q1,q2,q3,q4,q5⟩:=B.tw n x;exists _,Z,_,Z,a.dT,.ref t,Z,q1 ▸ Zg.k (k:=Sum.inl (n:Int)) B.dict,t,_,Z,Zb.of q2,Z,_,_,Z,_,_,Z,Z;exists _,Z,_,Z,_,Z,a.dT,a.dH,n,m.ts,m.lv,S,M,m.ho,Z,B.lawT d.wf G.len G.up,N,x,hd,hH;intro z o r I
 cases o with
 | some j=>
  refine⟨_,Z,YJ ?_⟩;exact k z a m (λc o e v=>⟨v,λn1=>r _ _ e⟩) (λ_ _ _ v=>v) (d.same r) (W.same r) O Z ∅ ∅
 | none=>
  refine⟨_,Z,Zp ?_⟩;let⟨l,q⟩:=I.road Z;let⟨rest,rfl⟩:=q.ne;by_cases u:(gd m.ts n).h=0
  ·let C:kindOf (gd m.ts n) = "leaf" :=aM u;rw[C];exact⟨_,Z,Z,_,Z,YJ (qL H z _ p R a m n rest _ W d O r x u q k)⟩
  ·let C:kindOf (gd m.ts n) = "stem" :=aK u;rw[C];exact⟨_,Z,Z,_,Z,Zp (qM H z Q p R a m n rest _ W d O r x u q k)⟩
def OM(a:Pl)(m:Md)(c:aj):Prop:=Z3 a m c/\VM a m.lv c
section
variable{gt:jp}{jZ kd:aj}{H H':Hp}{a b a':Pl}{m mb m':Md}{p:aj}
def LS.free(h:LS gt jZ kd H a m){c:aj}(n:H c=none):OM a m c:=by
 let⟨s,w,R⟩:=h.shp;let⟨Yt,L⟩:=h.lw;let⟨q,j,_⟩:=h.hd;let⟨⟨u,g⟩,k,l⟩:=R.sh;let d:∀{x:aj}{o:HO},H x=some o->c≠x:=λe=>(Za e n).symm;refine⟨⟨d g,d k,d l,d L.dict,d j,d h.told,λi f=>?_⟩,λi f=>⟨?_,?_⟩⟩
 ·let⟨v,r⟩:=(R.tw i f).tw.self;exact⟨d r,d (R.tw i f).tw.above⟩
 ·let⟨t,e,_⟩:=(R.tw i f).things;exact d e
 ·let⟨y,t,_,_,e,_⟩:=L.tw i f;exact d e
def LS.frame(h:LS gt jZ kd H a m)(k:YC H H')(r:∀ o,H a.gl=some o->H' a.gl=some o)(d:∀ c o,¬ OM a m c->H c=some o->H' c=some o):LS gt jZ kd H' a m:=by
 let⟨j,s,U,f⟩:=h.sh;let⟨Yt,L⟩:=h.lw;let⟨g,q,n⟩:=h.hd;let⟨l,G⟩:=h.gr;exact⟨⟨j,s,U.frame (U.sh.frame k (λo=>d _ o λz=>z.1.1 Z) (λo=>d _ o λz=>z.1.2.1 Z) (λo=>d _ o λz=>z.1.2.2.1 Z) λi e=>⟨λo=>d _ o λz=>(z.1.2.2.2.2.2.2 i e).1 Z,λo=>d _ o λz=>(z.2 i e).1 Z,λo=>d _ o λz=>(z.1.2.2.2.2.2.2 i e).2 Z⟩),f⟩,
  ⟨Yt,L.frame k (d _ _ (λz=>z.1.2.2.2.1 Z) L.dict) λi e o=>d _ o λz=>(z.2 i e).2 Z⟩,⟨g,d _ _ (λz=>z.1.2.2.2.2.1 Z) q,n⟩,⟨l,G.frame k (r _ G.at_)⟩,d _ _ (λz=>z.1.2.2.2.2.2.1 Z) h.told,h.dd,h.tt,h.t2,h.t3,h.l64,h.l700⟩
def LS.gl(h:LS gt jZ kd H a m):Z3 a m a.gl:=by
 let⟨l,s,R⟩:=h.shp;let⟨Yt,L⟩:=h.lw;let⟨j,f,_⟩:=h.hd;let⟨q,G⟩:=h.gr;let⟨⟨n,d⟩,g,r⟩:=R.sh;let e:=G.at_;exists ZI e d,ZI e g,h.tt.2.2.symm,ZI e L.dict,ZI e f,h.tt.2.1.symm;intro i c;let⟨o,k⟩:=(R.tw i c).tw.self;exact⟨ZI e k,(h.t2 i c).2.2⟩
structure VX(gt:jp)(jZ kd:aj)(H0 H:Hp)(st sb:aj)(a:Pl)(m:Md)(b:Pl)(mb:Md):Prop where
 ht:H st=some (.tup (VB a))
 hb:H sb=some (.tup (VB b))
 la:LS gt jZ kd H a m
 lb:LS gt jZ kd H b mb
 sep:∀ c,OM a m c\/OM b mb c
 gl:b.gl=a.gl
 old:∀ c o,H0 c=some o->Z3 a m c/\Z3 b mb c/\H c=some o
def VX.swap{d:Hp}{g f:aj}(t:VX gt jZ kd d H g f a m b mb):VX gt jZ kd d H f g b mb a m:=⟨t.hb,t.ht,t.lb,t.la,λc=>(t.sep c).symm,t.gl.symm,λc o e=>⟨(t.old c o e).2.1,(t.old c o e).1,(t.old c o e).2.2⟩⟩
def VX.same{d:Hp}{g f:aj}(t:VX gt jZ kd d H g f a m b mb)(s:ZC H H'):VX gt jZ kd d H' g f a m b mb:=⟨s _ _ t.ht,s _ _ t.hb,t.la.same s,t.lb.same s,t.sep,t.gl,λc o e=>⟨(t.old c o e).1,(t.old c o e).2.1,s _ _ (t.old c o e).2.2⟩⟩
def VX.stepN{h:Hp}{r q:aj}(N:aj->Prop)(t:VX gt jZ kd h H r q a m b mb)(f:∀ c,N c->OM b mb c/\b.gl≠c/\h c=none/\∀ u,H c≠some (.tup u))(d:∀ c o,H c=some o->Z3 a m c->Z3 a' m' c/\(¬ N c->H' c=some o))(j:∀ c o,H c=some o->VM a m.lv c->VM a' m'.lv c)(k:LS gt jZ kd H' a' m')(i:VB a'=VB a):VX gt jZ kd h H' r q a' m' b mb:=by
 let l:YC H H':=λc u e=>(d c _ e (t.la.tup e)).2 λz=>(f c z).2.2.2 _ e;let v:a'.gl=a.gl:=by
  unfold VB at i;injection i with _ e;injection e with _ e;injection e with _ e;injection e with e _;exact V.ref.inj e
 refine⟨by rw[i];exact l _ _ t.ht,l _ _ t.hb,k,t.lb.frame l (λo e=>?_) λc o z e=>?_,λc=>?_,t.gl.trans v.symm,λc o e=>?_⟩
 ·rw[t.gl] at e⊢;exact(d _ _ e t.la.gl).2 λz=>(f _ z).2.1 t.gl
 ·exact(d _ _ e ((t.sep c).resolve_right z).1).2 λy=>z (f c y).1
 ·by_cases z:OM b mb c
  ·exact .inr z
  ·let⟨g,n⟩:=(t.sep c).resolve_right z
   cases e:H c with
   | none=>exact .inr (t.lb.free e)
   | some o=>exact .inl ⟨(d _ _ e g).1,j _ _ e n⟩
 ·let⟨g,n,s⟩:=t.old c o e;exact⟨(d _ _ s g).1,n,(d _ _ s g).2 λz=>by have:=(f c z).2.2.1;rw[e] at this;cases this⟩
def VX.step{d:Hp}{l k:aj}{s:jf}(t:VX gt jZ kd d H l k a m b mb)(j:H p=some (.lst s))(O:X2 b mb p)(r:d p=none)(q:∀ c o,H c=some o->Z3 a m c->Z3 a' m' c/\(c≠p->H' c=some o))(f:∀ c o,H c=some o->VM a m.lv c->VM a' m'.lv c)(g:LS gt jZ kd H' a' m')(n:VB a'=VB a):VX gt jZ kd d H' l k a' m' b mb:=
 t.stepN (λc=>c=p) (λc z=>by rw[z];exact⟨⟨O.av t.lb j,λi h=>⟨((O.tw i h).2.1).symm,((O.tw i h).2.2).symm⟩⟩,O.gl,r,λu e=>by rw[j] at e;cases e⟩) q f g n
def Im{n r:Hp}{S d A u s gl B:aj}{K:jf}(G:Vn gt H gl K)(l:ZC H n)(P:H S=none)(Q:H d=none)(y:H A=none)(M:Yh jZ n S d A 0 [] [])(x:n u=none)(w:n s=none)(C:u≠s)(k:n B=none)(g:ZC n r)(F:r u=some (.dK []))(E:r s=some (.dK []))(I:r B=some (.lst [])):
  LS gt jZ kd r ⟨S,d,A,u,s,gl,B,[],[]⟩ ⟨[],[],λ_=>[],λ_=>0⟩/\∀ c o,H c=some o->OM ⟨S,d,A,u,s,gl,B,[],[]⟩ ⟨[],[],λ_=>[],λ_=>0⟩ c:=by
 let⟨⟨N,O⟩,J,v⟩:=M;let z:Lv [] []:=⟨λi h=>(by cases h),λi h=>(by cases h),.nil⟩
 let L:=G.same (l.trans g);refine⟨⟨⟨[],[],⟨⟨⟨⟨N,g _ _ O⟩,g _ _ J,g _ _ v⟩,Z,λi f=>absurd f (by simp),λi f=>absurd f (by simp),Z,λi f=>absurd f (by simp),λi f=>absurd f (by simp),λi j f=>absurd f (by simp)⟩,λi t q=>by simp at q,z,λi f=>absurd f (by simp),λi f=>absurd f (by simp),by simp⟩,by simp⟩,
   ⟨[],F,z,Z,Z,λi f=>absurd f (by simp)⟩,⟨[],E,Z,λi f=>absurd f (by simp)⟩,⟨K,L⟩,I,⟨(Za J x).symm,(Za J w).symm,C⟩,⟨(Za v k).symm,(Za (l _ _ G.at_) k).symm,(Za G.at_ y).symm⟩,λi f=>absurd f (by simp),λi f=>absurd f (by simp),by simp,by simp⟩,λc o e=>?_⟩
 let D:=l _ _ e;exact⟨⟨Za e P,Za e Q,Za e y,Za D x,Za D w,Za D k,λi f=>absurd f (by simp)⟩,λi f=>absurd f (by simp)⟩
end
abbrev LP:Stmt:=XE (top 35) 14
inductive XR(jZ:aj):Sp
 |mk{S d c:aj}{n:Nat}{a:List (ZR×V)}{b:jf}{H:Hp}{Q:VK}{E:XK}:Yh jZ H S d c n a b->(∀ p,H p=none->Q (.ref p) (upd H p (.lst b)))->XR jZ [.ref S] H Q E
def ZK9:ZB zEl zEl (Zf LP):=Z4
def AY(F:Zn K "looked" "Shelf.looked" LP f fd)(T:YR mg)(L:Yd K mg jZ kd):ZN P w K mg kf ZY 1 f fd zEl (XR jZ):=by
 refine F.ko ZK9 λb A a s H g Q E e h=>?_;let⟨R,k⟩:=h;let⟨c,d⟩:=R.self;exact⟨_,ZW (Zr (WQ Ue rfl T.list Vw (ZV (Xg (pv 0) rfl)))),_,Z,_,jZ,c,_,.ref _,Z,d,L.cS,L.nl,Z,_,_,Z,.inl (ZG.of R.looks),k⟩
def ZNe{K:zZ}{H c:Hp}{a:aj}{d:jf}(m:∀ b o,H b=some o->c b=some o)(h:ZG K H a d):ZG K c a d:=by
 rcases h with (h | ⟨o,h⟩) | h
 ·exact .inl (.inl (m _ _ h))
 ·exact .inl (.inr ⟨o,m _ _ h⟩)
 ·exact .inr h
def PL(a:jp->Sp):Sp:=λb H Q E=>∃ g,a g b H Q E
def LJ{P:al}{w:ar}{K:zZ}{n:jb}{e:aC}{l:Wn}{k:Nat}{f:aj}{m:am}{o:jr}{p:jp->Sp}(h:∀ g,ZN P w K n e l k f m o (p g)):ZN P w K n e l k f m o (PL p):=
 ⟨λj H Q E ⟨g,x⟩=>(h g).len j H Q E x,λA i s H args q j Q E a b c d ⟨g,x⟩=>(h g).run A i s H args q j Q E a b c d x⟩
def BO(A:Hp->Prop){R:Hp->Prop}{G:Prop}(h:(∀ H,A H->R H)->G)(r:∀ H,A H->R H):G:=h r
abbrev Ay:jr:=["_law_script","_law_grid_here","_law_state","_law_beside","_law_k","_law_well_here"]
def Po:ZB Ay zFe (Zf Q1):=Z4
inductive Fl(gt:jp)(jZ kd:aj)(H:Hp)(z g st sb:aj):Nat->L2.St->Hp->Prop
 |mk{i:Nat}{x y:jg}{a b:Pl}{m mb:Md}{H':Hp}:VX gt jZ kd H H' st sb a m b mb->m.ts.length<=i->m.lv.length<=i->mb.ts.length<=i->mb.lv.length<=i->Fl gt jZ kd H z g st sb i [some (.ref z),some (.ref g),some (.ref st),some (.ref sb),x,y] H'
def Ar(F:Zn K "law" "law" Q1 f fd)(X:YR mg)(L:Yd K mg jZ kd)(DI:UZ P w K mg kf 1 jZ zEl (QM jZ))(DY:ZA P w K mg kf ZY 1 jZ "many" zEl (Wy jZ))(DO:ZA P w K mg kf ZY 1 jZ "looked" zEl (XR jZ))(DN:ZA P w K mg kf ZY 1 jZ "numbers" zEl (Y5 jZ))(DW:ZD P w K mg kf 1 "_law_well" zE1 (Vv K))(DG:ZD P w K mg kf 2 "_law_grid" zE2 Vp)(DD:ZD P w K mg kf 70 "_law_deed" zEf (PL λgt=>V5 gt jZ kd))(DL:ZD P w K mg kf 11 "_law_put_leaf" zEg (PL λgt=>YK gt jZ kd))(DE:ZD P w K mg kf 8 "_law_exact" zEr (PL λgt=>Xy gt jZ kd)):ZN P w K mg kf ZY 80 f fd zFe (UN K):=by
 refine F.ko Po λp3 A p1 s H vs Q E hr h=>?_;let⟨z,ns,rfl,i5,hn,k⟩:=h;let nd:=Po.nd;let G:=hr.to 1;let c2:=hr.to 2;let c3:=hr.to 8;let i9:=hr.to 11;let l0:=hr.to 70;intro Xc;refine⟨_,ZQ (Zs 1 nd (Zm DG c2 (ZV (Zm DW G (Zj (pv 0) ZO)))))
  (ZQ (Zs 2 nd (XB (Gg (FP DI c2 rfl L.shelf) OH OH (pv 1) (XH Zw))))
  (ZQ (Zs 3 nd (XB (Gg (FP DI c2 rfl L.shelf) OH OH (pv 1) (XH Zw))))
  (ZQ (Z1 (PW.pt (VU (YI PZ (OB (E:=E0) (Zi K (pv 2) ZO) L.cS DY G YY) ZO (Z0 _)) (VU (YI (Ms hr.units0) (OB (E:=E0) (Zi K (pv 2) ZO) L.cS DO G YY) (XH Zw) (Z0 _)) (Uh (YI (Ms hr.units0) (OB (E:=E0) (Zi K (pv 2) ZO) L.cS DN G YY) (XH Zw) (Z0 _)))))) VI Z6)
  (ZQ (Wu PassesOwn.never rfl (Mf rfl X.range (Zj ZO (Zy (Ij rfl) rfl X.max My (Zj ZO (Zy (ZIb rfl) rfl X.min D1 (Zj (Zy WH rfl X.len Xh (ZV (pv 0))) ZO)))))) (YZ 4 nd)
   (ZQ (Zs 5 nd (Zm DW G (Zj (pv 0) (pv 4))))
   (ZQ (Z1 (Xv (Yg (Zm DD l0 (Zj (pv 5) (pv 2))))) VI Z6)
   (ZQ (Z1 (PW.pt (Pk (YI Wp (Z2 UV (pv 4) ZO) ZO (Z0 _)) (NA (Xv (Yg (Zm DL i9 (Pi (pv 5) (pv 3) (Z2 UV (pv 4) ZO)))))))) VI Z6)
   (ZW (Z1 (PW.pt (Pk (YI Wp (Z2 UV (pv 4) ZO) ZO (Z0 _)) (NA (Xv (Yg (Zm DE c3 (Pi (Zi K (pv 2) ZO) (Zi K (pv 2) ZO) (Zi K (pv 2) ZO)))))))) VI Z6))))))
  (ZW (Zr (Ug (Zm DE c3 (Pi (Zi K (pv 2) ZO) (Zi K (pv 2) ZO) (Zi K (pv 2) ZO))) (Qn (Zm DE c3 (Pi (Zi K (pv 3) ZO) (Zi K (pv 3) ZO) (Zi K (pv 3) ZO))))))))))),?_⟩
 obtain⟨M,eM,M3,p2⟩:∃ M:Int,(if (if (63:Int)<((ns.map V.int).length:Int) then (63:Int) else ((ns.map V.int).length:Int)) > 13 then (if (63:Int)<((ns.map V.int).length:Int) then (63:Int) else ((ns.map V.int).length:Int)) else 13)=M/\13<=M/\M<=63:=by
  exists _,Z,?_
  ·(repeat' split) <;> lia
  ·(repeat' split) <;> lia
 refine⟨_,Z,z,ns,0,Z,i5,hn,∅,∅,λp H1 np s1 W1=>⟨p,Z,W1,λg gs gt H2 s2 W2 ng hg c0 i6 i7 m0=>?_⟩⟩
 let G2:Vn gt H2 g gs:=⟨hg,c0,i6,by rw[c0.length,i7],m0⟩
 let N:∀ c o,H c=some o->H2 c=some o:=λc o e=>s2 _ _ (s1 _ _ e) (Za e np);clear c0 i6 i7 m0 hg ng;intro l e1 c5 o5 z1;let i1:∀ b o,H2 b=some o->upd (upd H2 e1 (.own l)) l (.ins jZ e1 []) b=some o:=λb o q=>by
  rw[ZM (Za q c5),ZM (Za q o5)];exact q
 let f1:∀ b,upd (upd H2 e1 (.own l)) l (.ins jZ e1 []) b=none->H2 b=none:=λb q=>by
  cases z:H2 b with
  | none=>rfl
  | some o=>rw[i1 b o z] at q;cases q
 refine⟨l,e1,Z,ZP,λn2 d1 u n7 o4 m1 p4 R1=>⟨Z,?_⟩⟩;let s1:ZC H2 n2:=λb o q=>n7 b o (Za q c5) (i1 b o q);intro e5 a2;let e7:=Zc a2 (.dK []);intro c9 I;let e9:=Zc I (.dK []);exists _,Z,YX;intro n0 a4;let n9:=Zc a4 (.lst []);exists YX;intro d m7;let⟨K1,n5,i3,l7⟩:=Wc m7 (.tup [.ref l,.ref e5,.ref c9,.ref g,.ref n0]);rw[n5];let a0:=e7.trans e9;let C:=n9.trans i3;let r:=a0.trans C;let⟨c8,p0⟩:=Im (kd:=kd) (gl:=g) G2 s1 c5 (f1 _ o4) (f1 _ m1) R1 a2 (e7.free I) (Za ZP I) (a0.free a4) r (C _ _ (e9 _ _ ZP)) (C _ _ ZP) (i3 _ _ ZP);let c7:=s1.trans r;intro SB e2 c6 o6 z2;let i2:∀ b o,K1 b=some o->upd (upd K1 e2 (.own SB)) SB (.ins jZ e2 []) b=some o:=λb o q=>by
  rw[ZM (Za q c6),ZM (Za q o6)];exact q
 let f2:∀ b,upd (upd K1 e2 (.own SB)) SB (.ins jZ e2 []) b=none->K1 b=none:=λb q=>by
  cases z:K1 b with
  | none=>rfl
  | some o=>rw[i2 b o z] at q;cases q
 refine⟨SB,e2,Z,ZP,λn3 d2 o3 n8 IB m2 p5 R2=>⟨Z,?_⟩⟩;let s2:ZC K1 n3:=λb o q=>n8 b o (Za q c6) (i2 b o q);intro e6 a3;let e8:=Zc a3 (.dK []);intro e0 J;let i0:=Zc J (.dK []);exists _,Z,YX;intro n1 a8;let o0:=Zc a8 (.lst []);exists YX;intro j m8;let⟨K2,n6,i4,l8⟩:=Wc m8 (.tup [.ref SB,.ref e6,.ref e0,.ref g,.ref n1]);rw[n6];let a1:=e8.trans i0;let D:=o0.trans i4;let B:=a1.trans D;let⟨n4,m9⟩:=Im (kd:=kd) (gl:=g) (G2.same c7) s2 c6 (f2 _ IB) (f2 _ m2) R2 a3 (e8.free J) (Za ZP J) (a1.free a8) B (D _ _ (i0 _ _ ZP)) (D _ _ ZP) (i4 _ _ ZP);let Y:=s2.trans B;let T0:VX gt jZ kd H K2 d j ⟨l,d1,u,e5,c9,g,n0,[],[]⟩ ⟨[],[],λ_=>[],λ_=>0⟩ ⟨SB,d2,o3,e6,e0,g,n1,[],[]⟩ ⟨[],[],λ_=>[],λ_=>0⟩:=by
  refine⟨Y _ _ l7,l8,c8.same Y,n4,λc=>?_,Z,λc o e=>⟨(p0 c o (N _ _ e)).1,(m9 c o (c7 _ _ (N _ _ e))).1,Y _ _ (c7 _ _ (N _ _ e))⟩⟩
  cases e:K1 c with
  | none=>exact .inl (c8.free e)
  | some o=>exact .inr (m9 c o e)
 let RA:Yh jZ K2 l d1 u 0 [] []:=by
  let⟨⟨dS,hS⟩,hd,hl⟩:=R1;let s:=r.trans Y;exact⟨⟨dS,s _ _ hS⟩,s _ _ hd,s _ _ hl⟩
 let l9:=T0.ht;refine⟨_,Z,.inr (.inl ⟨d,_,0,.ref l,rfl,rfl,Zb.of l9,rfl,l,_,_,rfl,RA.self.choose_spec,rfl,l,d1,u,0,[],[],rfl,RA,rfl,_,rfl,Zp ?_⟩)⟩;refine⟨_,Z,.inr (.inl ⟨d,_,0,.ref l,rfl,rfl,Zb.of l9,rfl,l,_,_,rfl,RA.self.choose_spec,rfl,.mk RA λq1 o7=>?_⟩)⟩;let k1:=Zc o7 (.lst []);let T1:=T0.same k1;let c1:upd K2 q1 (.lst []) q1=some (.lst []):=ZP;let RB:Yh jZ (upd K2 q1 (.lst [])) l d1 u 0 [] []:=by
  let⟨⟨dS,hS⟩,hd,hl⟩:=RA;exact⟨⟨dS,k1 _ _ hS⟩,k1 _ _ hd,k1 _ _ hl⟩
 generalize upd K2 q1 (.lst [])=K3 at T1 c1 RB⊢;refine⟨YX,λq2 m4=>⟨q1,q2,[],Z,Z,ZG.of (Zc m4 (.lst []) _ _ c1),ZG.of ZP,_,Z,Zp ?_⟩⟩;let k2:=Zc m4 (.lst []);let T2:=T1.same k2;let RC:Yh jZ (upd K3 q2 (.lst [])) l d1 u 0 [] []:=by
  let⟨⟨dS,hS⟩,hd,hl⟩:=RB;exact⟨⟨dS,k2 _ _ hS⟩,k2 _ _ hd,k2 _ _ hl⟩
 generalize upd K3 q2 (.lst [])=K4 at T2 RC⊢;refine⟨_,Z,.inr (.inl ⟨d,_,0,.ref l,rfl,rfl,Zb.of T2.ht,rfl,l,_,_,rfl,RC.self.choose_spec,rfl,l,d1,u,0,[],[],[],rfl,RC,rfl,.nil,by simp,λq3 o8=>?_⟩)⟩
 let T3:=T2.same (Zc o8 (.lst []));let i8:upd K4 q3 (.lst []) q3=some (.lst []):=ZP;refine⟨YX,λq4 m6=>⟨q3,q4,[],Z,Z,ZG.of (Zc m6 (.lst []) _ _ i8),ZG.of ZP,_,Z,Zp ?_⟩⟩;let T4:=T3.same (Zc m6 (.lst []));generalize upd (upd K4 q3 (.lst (([]:jA).map V.int))) q4 (.lst [])=K5 at T4⊢;clear T0 T1 T2 T3 RA RB RC c1 i8;let sq:∀(H3:Hp),(∀ c o,H c=some o->H3 c=some o)->ZG K H3 z (ns.map V.int):=λH3 o9=>ZNe o9 i5;let a9:∀(H3:Hp)(st sb:aj)(a b:Pl)(m R:Md)(Q':VK),VX gt jZ kd H H3 st sb a m b R->(∀(H4:Hp)(a':Pl),VX gt jZ kd H H4 st sb a' m b R->Q' (.bl true) H4) ->
   (PL λgt=>Xy gt jZ kd) [.ref a.S,.ref a.dT,.ref a.dH] H3 Q' E0:=λH3 st sb a b m R Q' T h3=>⟨gt,a,m,Z,T.la,λH4 a' kp t la eS=>h3 H4 a' (T.stepN (λ_=>False) (λ_ z=>z.elim) (λc o e v=>⟨(kp c o e v).1,λ_=>(kp c o e v).2⟩) (λc o _ v=>t c v) la eS)⟩
 exists _,Z,z,ns.map V.int,Z,.inl (sq _ λc o e=>(T4.old c o e).2.2),_,_,Z,_,_,Z,1,M,congrArg (λz=>[V.int 1,V.int z]) eM,⟨∅,∅,∅,∅⟩
 clear eM;refine NN (lo:=1) (n:=(M-1).toNat) (Fl gt jZ kd H z g d j) (.mk T4 (by simp) (by simp) (by simp) (by simp)) ?_ ?_
 ·intro i σ H3 hi hP;let⟨T,l1,l2,l3,l4⟩:=hP;rename_i x y a b m R
  exists _,Z,_,Z,z,ns,_,Z,sq _ λc o e=>(T.old c o e).2.2,hn,∅,by lia
  intro p' H4 W s4 W4;let T4:=T.same s4;let m3:H p'=none:=by
   cases e:H p' with
   | none=>rfl
   | some o=>rw[(T.old _ _ e).2.2] at W;cases W
  let⟨p6,o1⟩:=W4.some;refine⟨_,Z,_,Z,gt,p',d,a,m,Z,W4,T4.ht,T4.la,T.la.off W,∅,∅,λH5 a5 m5 kp t la W5 O5 eS e1 e2=>⟨_,Z,Zp ?_⟩⟩
  let Ob:=T.lb.off W;let T5:=T4.step o1 Ob m3 kp t la eS;clear kp t la eS;apply BO (λH'=>∃ b' U,ZJ H' p'/\X2 b' U p'/\VX gt jZ kd H H' d j a5 m5 b' U/\U.ts.length<=i+1/\U.lv.length<=i+1)
  ·intro rest;refine⟨_,Z,_,_,Z,Z,(by show (0:Int)<7;decide),Z,_,Z,Yz (λc=>?_) (λc=>?_)⟩
   ·let⟨p7,o2⟩:=W5.some;refine⟨_,Z,_,Z,_,Z,_,_,Z,Z,(by show (0:Int)<16;decide),gt,p',j,_,b,R,Z,W5,T5.hb,T5.lb,Ob,vI _ (by decide),vP _ (by decide),∅,∅,λH6 b6 c4 kp t W6 lb O6 eS e3 e4=>⟨_,Z,Zp (rest H6 ⟨b6,c4,W6,O6,(T5.swap.step o2 O5 m3 kp t lb eS).swap,∅,by rw[e4];simp;lia⟩)⟩⟩
   ·exact Zp (rest H5 ⟨b,R,W5,Ob,T5,∅,∅⟩)
  ·rintro H6 ⟨b6,c4,W6,O6,O,l5,l6⟩;refine⟨_,Z,_,_,Z,Z,(by show (0:Int)<4;decide),Z,_,Z,Yz (λc=>?_) (λc=>Zp (.mk O ∅ ∅ l5 l6))⟩
   exact⟨_,Z,.inr (.inl ⟨d,_,0,.ref a5.S,rfl,rfl,Zb.of O.ht,rfl,_,rfl,.inr (.inl ⟨d,_,1,.ref a5.dT,rfl,rfl,Zb.of O.ht,rfl,_,rfl,.inr (.inl ⟨d,_,2,.ref a5.dH,rfl,rfl,Zb.of O.ht,rfl,a9 H6 d j a5 b6 m5 c4 _ O λH7 a7 T7=>⟨_,rfl,Zp (.mk T7 ∅ ∅ l5 l6)⟩⟩)⟩)⟩)⟩
 ·intro σ H5 hP;let⟨T,l1,l2,l3,l4⟩:=hP;rename_i x y a b m R
  refine⟨_,Z,.inr (.inl ⟨d,_,0,.ref a.S,rfl,rfl,Zb.of T.ht,rfl,_,rfl,.inr (.inl ⟨d,_,1,.ref a.dT,rfl,rfl,Zb.of T.ht,rfl,_,rfl,.inr (.inl ⟨d,_,2,.ref a.dH,rfl,rfl,Zb.of T.ht,rfl,a9 H5 d j a b m R _ T λH6 a6 O=>⟨_,rfl,YJ ?_⟩⟩)⟩)⟩)⟩;exact⟨_,Z,.inr (.inl ⟨j,_,0,.ref b.S,rfl,rfl,Zb.of O.hb,rfl,_,rfl,.inr (.inl ⟨j,_,1,.ref b.dT,rfl,rfl,Zb.of O.hb,rfl,_,rfl,.inr (.inl ⟨j,_,2,.ref b.dH,rfl,rfl,Zb.of O.hb,rfl,a9 H6 j d b a6 R m _ O.swap λH7 b7 T7=>k H7⟩)⟩)⟩)⟩
end Tw
namespace L2
open PySem PySem.Spec
def xC(K:zZ)(C:aj):Bool:=
 (zA K (.ref C) "__getattribute__" == some (some (.builtin "BaseException.__getattribute__")))&&((zA K (.ref C) "__getattr__" == some none)&&((yR K C (.type "BaseException")==some true)&&((yR K C (.type "object")==some true) &&
 ((zA K (.ref C) "__class__" == some (some (.builtin "object.__class__")))&&((PySem.W.specialIn K (.builtin "object.__class__") "__get__" == some (some (.builtin "getset_descriptor.__get__")))&&(PySem.W.takesIn K (.builtin "object.__class__")==some true))))))
def ZPv{K:zZ}{C:aj}(h:xC K C=true):Nf K C:=by
 unfold xC at h;simp only[zO,beq_iff_eq] at h;let⟨a,b,c,d,e,f,g⟩:=h;exact⟨a,b,c,d,e,f,g⟩
def xF(K:zZ)(C a:aj)(f:Str):Bool:=
 xC K C&&(GM K C&&((zA K (.ref C) "__init__" == some (some (.ref a)))&&(wW K (.ref a)&&(yQ K (.ref C)&&((zA K (.ref C) "__setattr__" == some (some (.builtin "object.__setattr__"))) &&
 ((zA K (.ref C) f==some none)&&(wF K C&&EI K C)))))))
def JK{K:zZ}{C k:aj}{f:Str}(h:xF K C k f=true):UB K C k f:=by
 unfold xF at h;simp only[zO,beq_iff_eq] at h;let⟨a,b,c,d,e,f,g,i,j⟩:=h;exact⟨ZPv a,b,c,d,e,f,g,i,j⟩
end L2
namespace Tw
open PySem PySem.Spec L2 PyProof.Rows
variable{jZ kd CS CT CH CK CP CB:aj}
abbrev P2:Stmt:=XE (top 5) 0
def B9:ZB zEa zEa (Zf P2):=Z4
def ZH9{C:aj}(F:Zn K "__init__" "NoTwig.__init__" P2 f fd):ZN P w K mg kf ZY 1 f fd zEa (On K C f "number"):=by
 refine F.ok B9 (λg H Q E h=>(by let⟨_,_,_,rfl,_⟩:=h;rfl)) (λb A a s H g Q E i h=>?_)
 let⟨c,d,y,rfl,e,k⟩:=h;exact⟨_,ZW (Lu (pv 0) (pv 1) rfl),⟨_,Z,_,Z,QH,d,_,_,Z,e,c,k⟩⟩
abbrev OY:Stmt:=XE (top 6) 0
def ZHc:ZB zEa zEa (Zf OY):=Z4
def ZGD{C:aj}(F:Zn K "__init__" "NotHeld.__init__" OY f fd):ZN P w K mg kf ZY 1 f fd zEa (On K C f "number"):=by
 refine F.ok ZHc (λg H Q E h=>(by let⟨_,_,_,rfl,_⟩:=h;rfl)) (λb A a s H g Q E i h=>?_)
 let⟨c,d,y,rfl,e,k⟩:=h;exact⟨_,ZW (Lu (pv 0) (pv 1) rfl),⟨_,Z,_,Z,QH,d,_,_,Z,e,c,k⟩⟩
abbrev OT:Stmt:=XE (top 7) 0
def Ch:ZB zEa zEa (Zf OT):=Z4
def ZHh{C:aj}(F:Zn K "__init__" "Shared.__init__" OT f fd):ZN P w K mg kf ZY 1 f fd zEa (On K C f "number"):=by
 refine F.ok Ch (λg H Q E h=>(by let⟨_,_,_,rfl,_⟩:=h;rfl)) (λb A a s H g Q E i h=>?_)
 let⟨c,d,y,rfl,e,k⟩:=h;exact⟨_,ZW (Lu (pv 0) (pv 1) rfl),⟨_,Z,_,Z,QH,d,_,_,Z,e,c,k⟩⟩
def Ng{K:zZ}{C f:aj}{m q:Str}{d:aB}{j:jr}{t e:jx}{u:Array (jd)}{s kV o i n ct:ai}(v:zA K (.ref C) m=some (some (.ref f)))(l:K.lookup f=some ⟨s,t,.func (yA m q (V3 d) (X7 d) (Zf d) .none kV o i e n ct),u⟩)(p:wW K (.ref f)=true)(c:xE K n q=true)(k:yQ K (.ref f)=true)(r:∀ (kV h i:ai) (e:jx) (g ct:ai) (a:je),a.length=j.length->bindArgs (yA m q (V3 d) (X7 d) (Zf d) .none kV h i e g ct) ⟨a,[]⟩=pure (j.zip a):=by first | exact(λ_ _ _ _ _ _ a b=>match a,b with | [_],_=>rfl) | exact(λ_ _ _ _ _ _ a b=>match a,b with | [_,_],_=>rfl) | exact(λ_ _ _ _ _ _ a b=>match a,b with | [_,_,_],_=>rfl) | exact(λ_ _ _ _ _ _ a b=>match a,b with | [_,_,_,_],_=>rfl) | exact(λ_ _ _ _ _ _ a b=>match a,b with | [_,_,_,_,_],_=>rfl)):Zk K C m q d j:=
 ⟨f,_,⟨v,p,k⟩,UU (st:=d) l c k,(UU (st:=d) l c k).binds r⟩
structure Ut(K:zZ)(C:aj)(q:Str)(st:aB)(ps:jr):Prop where
 ex:∃ f fd,zA K (.ref C) "__init__" = some (some (.ref f))/\wW K (.ref f)=true/\Zn K "__init__" q st f fd/\Z7 K fd ps []
def MF{K:zZ}{C f:aj}{q:Str}{d:aB}{j:jr}{s e:jx}{t:Array (jd)}{r kV n i m ct:ai}(v:zA K (.ref C) "__init__" = some (some (.ref f)))(l:K.lookup f=some ⟨r,s,.func (yA "__init__" q (V3 d) (X7 d) (Zf d) .none kV n i e m ct),t⟩)(o:wW K (.ref f)=true)(c:xE K m q=true)(k:yQ K (.ref f)=true)(p:∀ (kV h i:ai) (e:jx) (g ct:ai) (a:je),a.length=j.length->bindArgs (yA "__init__" q (V3 d) (X7 d) (Zf d) .none kV h i e g ct) ⟨a,[]⟩=pure (j.zip a):=by first | exact(λ_ _ _ _ _ _ a b=>match a,b with | [_],_=>rfl) | exact(λ_ _ _ _ _ _ a b=>match a,b with | [_,_],_=>rfl) | exact(λ_ _ _ _ _ _ a b=>match a,b with | [_,_,_],_=>rfl) | exact(λ_ _ _ _ _ _ a b=>match a,b with | [_,_,_,_],_=>rfl) | exact(λ_ _ _ _ _ _ a b=>match a,b with | [_,_,_,_,_],_=>rfl)):Ut K C q d j:=
 ⟨f,_,v,o,UU (st:=d) l c k,(UU (st:=d) l c k).binds p⟩
def Je{l:rW}{w:ar}{K:zZ}{h:aC}{mg:jb}{fa f37 CL CS CT CH CD jZ kd jN jH jD:aj}(X:K.In h)(G:h.Ns ao mg)(hfa:mg "law" = some (.ref fa)){od37 an37:jx}{sl37:Array (jd)}{oc37 kV37 dc37 pm37 cd37 ct37:ai}{t1 t2 t3 t4 t5 t6 t7 t8 t9 t10:Tok}(L1:Zl K mg "is_key" Ks zE3)(L2:Zl K mg "checked" J8 zE3)(L3:Zl K mg "fits" M6 zEw)(L4:Zl K mg "has_few_figures" IC zFc)(L5:Zl K mg "is_sign" Jb ["sign"])(L6:Zl K mg "ahead" Kc zE4)(L7:Zl K mg "standing" MW zFa)(L8:Zl K mg "checked_rows" JS zEt)(L9:Zl K mg "own_rows" Jt zEt)(L10:Zl K mg "rise" K8 ["keys"])(L11:Zl K mg "label_of_rows" JT zEt)(L12:Zl K mg "label_over" LV zFb)(L13:Zl K mg "stand_side_by_side" JE zE0)(L14:Zl K mg "is_stem" Ju zE8)(L15:Zl K mg "_law_well" KG zE1)(L16:Zl K mg "_law_pull" Ln zEd)(L17:Zl K mg "_law_rank" MY zE6)(L18:Zl K mg "_law_less" JX zEu)(L19:Zl K mg "_law_alike" Mh zEc)(L20:Zl K mg "_law_grid" Ji zE2)(L21:Zl K mg "_law_leaf_rows" La zEn)(L22:Zl K mg "_law_rows_of" K6 zEb)(L23:Zl K mg "_law_label" J1 zEb)(L24:Zl K mg "_law_above" KL zEb)(L25:Zl K mg "_law_shared" JQ zEi)(L26:Zl K mg "_law_swept" LX zEz)(L27:Zl K mg "_law_count" J0 zEc)(L28:Zl K mg "_law_exact" Jg zEr)(L29:Zl K mg "_law_picked" KP zEq)(L30:Zl K mg "_law_run" J4 zEh)(L31:Zl K mg "_law_put_leaf" K0 zEg)(L32:Zl K mg "_law_fits" Ku zEm)(L33:Zl K mg "_law_put_stem" KO zEf)(L34:Zl K mg "_law_held" JC zEk)(L35:Zl K mg "_law_changed" Wf zEo)(L36:Zl K mg "_law_deed" Jz zEf)(a37:zD K ao "law" = some (some (.ref f37)))(l37:K.lookup f37=some ⟨oc37,od37,.func (yA "law" "law" (V3 Q1) (X7 Q1) (Zf Q1) .none kV37 dc37 pm37 an37 cd37 ct37),sl37⟩)(c37:xE K cd37 "law" = true)(k37:yQ K (.ref f37)=true)(z1:zD K ao "isinstance" = some none)(z2:zD K ao "bool" = some none)(z3:zD K ao "int" = some none)(z4:zD K ao "str" = some none)(z5:zD K ao "tuple" = some none)(z6:zD K ao "list" = some none)(z7:zD K ao "len" = some none)(z8:zD K ao "all" = some none)(z9:zD K ao "abs" = some none)(z10:zD K ao "max" = some none)(z11:zD K ao "min" = some none)(z12:zD K ao "range" = some none)(z13:zD K ao "sorted" = some none)(z14:zD K ao "ValueError" = some none)(z15:zD K ao "sum" = some none)(z16:zD K ao "reversed" = some none)(m1_:zD K ao "MOST_SIGNS" = some (some (.int 40 t1)))(m2_:zD K ao "MOST_THINGS" = some (some (.int 4 t2)))(m3_:zD K ao "MOST_DEEP" = some (some (.int 3 t3)))(m4_:zD K ao "MOST_ROWS" = some (some (.int 4 t4)))(m5_:zD K ao "FEWEST_BRANCHES" = some (some (.int 2 t5)))(m6_:zD K ao "MOST_BRANCHES" = some (some (.int 4 t6)))(m7_:zD K ao "HEIGHT" = some (some (.int 0 t7)))(m8_:zD K ao "LEAST" = some (some (.int 1 t8)))(m9_:zD K ao "GREATEST" = some (some (.int 2 t9)))(m10_:zD K ao "MANY" = some (some (.int 3 t10)))(IjS:Ut K jZ "Shelf.__init__" Jh zEl)(IjT:Ut K kd "Twig.__init__" KW zEx){ocjN kVjN dcjN pmjN cdjN ctjN:ai}{odjN anjN:jx}{sljN:Array (jd)}(iljN:K.lookup jN=some ⟨ocjN,odjN,.func (yA "__init__" "NoTwig.__init__" (V3 P2) (X7 P2) (Zf P2) .none kVjN dcjN pmjN anjN cdjN ctjN),sljN⟩)(icjN:xE K cdjN "NoTwig.__init__" = true)(ikjN:yQ K (.ref jN)=true){ocjH kVjH dcjH pmjH cdjH ctjH:ai}{odjH anjH:jx}{sljH:Array (jd)}(iljH:K.lookup jH=some ⟨ocjH,odjH,.func (yA "__init__" "NotHeld.__init__" (V3 OY) (X7 OY) (Zf OY) .none kVjH dcjH pmjH anjH cdjH ctjH),sljH⟩)(icjH:xE K cdjH "NotHeld.__init__" = true)(ikjH:yQ K (.ref jH)=true){ocjD kVjD dcjD pmjD cdjD ctjD:ai}{odjD anjD:jx}{sljD:Array (jd)}(iljD:K.lookup jD=some ⟨ocjD,odjD,.func (yA "__init__" "Shared.__init__" (V3 OT) (X7 OT) (Zf OT) .none kVjD dcjD pmjD anjD cdjD ctjD),sljD⟩)(icjD:xE K cdjD "Shared.__init__" = true)(ikjD:yQ K (.ref jD)=true)(Mm1:Zk K jZ "put_leaf" "Shelf.put_leaf" KA zE9)(Mm2:Zk K jZ "put_stem" "Shelf.put_stem" Jw zEe)(Mm3:Zk K jZ "put_twig" "Shelf.put_twig" JV zEv)(Mm4:Zk K jZ "holders" "Shelf.holders" Le zEa)(Mm5:Zk K jZ "outside" "Shelf.outside" ID zEa)(Mm6:Zk K jZ "alone" "Shelf.alone" JG zEa)(Mm7:Zk K jZ "look" "Shelf.look" Li zEa)(Mm8:Zk K jZ "label" "Shelf.label" M5 zEa)(Mm9:Zk K jZ "forget" "Shelf.forget" JZ zEl)(Mm10:Zk K jZ "numbers" "Shelf.numbers" L0 zEl)(Mm11:Zk K jZ "many" "Shelf.many" Kp zEl)(Mm12:Zk K jZ "twig_of" "Shelf.twig_of" Mw zEa)(Mm13:Zk K jZ "labels_of" "Shelf.labels_of" JD zEe)(Mm14:Zk K jZ "check_held" "Shelf.check_held" Lp zEe)(Mm15:Zk K jZ "take_over" "Shelf.take_over" Jm zEj)(Mm16:Zk K jZ "road_up" "Shelf.road_up" Kw zEa)(Mm17:Zk K jZ "hold" "Shelf.hold" LU zEa)(Mm18:Zk K jZ "change_stem" "Shelf.change_stem" Jf zEp)(Mm19:Zk K jZ "labels_up" "Shelf.labels_up" Lj zEy)(Mm20:Zk K jZ "give_labels" "Shelf.give_labels" J9 zE5)(Mm21:Zk K jZ "give_back" "Shelf.give_back" JY zEj)(Mm22:Zk K jZ "let_go" "Shelf.let_go" LQ zEa)(Mm23:Zk K jZ "drop_unheld" "Shelf.drop_unheld" MK zEa)(Mm24:Zk K jZ "change_leaf" "Shelf.change_leaf" Lk zEs)(Mm25:Zk K jZ "looked" "Shelf.looked" LP zEl)(xCL:zD K ao "NoLeaf" = some (some (.ref CL)))(xCS:zD K ao "NoStem" = some (some (.ref CS)))(xCT:zD K ao "NoTwig" = some (some (.ref CT)))(xCH:zD K ao "NotHeld" = some (some (.ref CH)))(xCD:zD K ao "Shared" = some (some (.ref CD)))(xCSh:zD K ao "Shelf" = some (some (.ref jZ)))(xCTw:zD K ao "Twig" = some (some (.ref kd)))(vjN:zA K (.ref CT) "__init__" = some (some (.ref jN)))(vjH:zA K (.ref CH) "__init__" = some (some (.ref jH)))(vjD:zA K (.ref CD) "__init__" = some (some (.ref jD)))(mkCSh:uI K jZ=true)(kpCSh:yQ K (.ref jZ)=true)(pgCSh:vS K jZ Str.empty=true)(hdCSh:wF K jZ=true)(poCSh:uC K jZ=true)(saCSh:zA K (.ref jZ) "__setattr__" = some (some (.builtin "object.__setattr__")))(mkCTw:uI K kd=true)(kpCTw:yQ K (.ref kd)=true)(pgCTw:vS K kd Str.empty=true)(hdCTw:wF K kd=true)(poCTw:uC K kd=true)(saCTw:zA K (.ref kd) "__setattr__" = some (some (.builtin "object.__setattr__")))(na_kept:zA K (.ref jZ) "kept" = some none)(na_following:zA K (.ref jZ) "following" = some none)(na_looks:zA K (.ref jZ) "looks" = some none)(na_things:zA K (.ref kd) "things" = some none)(na_tag:zA K (.ref kd) "tag" = some none)(na_above:zA K (.ref kd) "above" = some none)(na_holds:zA K (.ref kd) "holds" = some none)(slCS:yR K CS (.ref CS)=some true)(nmCS:PX K CS "NoStem" = true)(nmCL:PX K CL "NoLeaf" = true)(exCL:vV K CL QX "ValueError.__new__" = true)(kpCL:yQ K (.ref CL)=true)(mBCL:yR K CL (.type "BaseException")=some true)(tyCL:yE K (.ref CL)=some (.type "type"))(wCT:xF K CT jN "number" = true)(tyCT:yE K (.ref CT)=some (.type "type"))(wCH:xF K CH jH "number" = true)(tyCH:yE K (.ref CH)=some (.type "type"))(wCD:xF K CD jD "number" = true)(tyCD:yE K (.ref CD)=some (.type "type"))(exCS:vV K CS QX "ValueError.__new__" = true)(kpCS:yQ K (.ref CS)=true)(mBCS:yR K CS (.type "BaseException")=some true)(tyCS:yE K (.ref CS)=some (.type "type"))(mBCD:yR K CD (.type "BaseException")=some true)(slCD:yR K CD (.ref CD)=some true):
  ∃ j:am,(∀(s:ak)(v:ai),BindsTo s j ⟨[v],[]⟩ [("_law_script",v)])/\∀ a:aC,K.In a->a.Ns ao mg->ZN l.prog w K mg a ZY 80 fa j zFe (UN K):=by
 let e:=hfa.symm.trans (yL X G a37);cases e;let T:YR mg:=⟨xY X G z1,xY X G z2,xY X G z3,xY X G z4,xY X G z5,xY X G z6,xY X G z7,xY X G z8,xY X G z9,xY X G z10,xY X G z11,xY X G z12,xY X G z13,xY X G z14,xY X G z15,⟨_,yL X G m1_⟩,⟨_,yL X G m2_⟩,⟨_,yL X G m3_⟩,⟨_,yL X G m4_⟩,⟨_,yL X G m5_⟩,⟨_,yL X G m6_⟩,⟨_,yL X G m7_⟩,⟨_,yL X G m8_⟩,⟨_,yL X G m9_⟩,⟨_,yL X G m10_⟩⟩;exists yA "law" "law" (V3 Q1) (X7 Q1) (Zf Q1) .none kV37 dc37 pm37 an37 cd37 ct37,λs v=>.of_eq Z;intro a kb _;let Tr:mg "reversed" = none:=xY X G z16;let c:Yd K mg jZ kd:=⟨yL X G xCSh,yL X G xCTw,⟨pgCSh,hdCSh,poCSh,saCSh⟩,⟨pgCTw,hdCTw,poCTw,saCTw⟩,na_kept,na_following,na_looks,na_things,na_tag,na_above,na_holds⟩;let i5:XN l.prog w K mg a "NoTwig" CT:=⟨⟨jN,_,JK wCT,ZH9 (UU (st:=P2) iljN icjN ikjN),(UU (st:=P2) iljN icjN ikjN).binds λ_ _ _ _ _ _ r V=>match r,V with | [_,_],_=>rfl⟩,yL X G xCT,tyCT⟩
 let i3:XN l.prog w K mg a "NotHeld" CH:=⟨⟨jH,_,JK wCH,ZGD (UU (st:=OY) iljH icjH ikjH),(UU (st:=OY) iljH icjH ikjH).binds λ_ _ _ _ _ _ r V=>match r,V with | [_,_],_=>rfl⟩,yL X G xCH,tyCH⟩
 let i4:XN l.prog w K mg a "Shared" CD:=⟨⟨jD,_,JK wCD,ZHh (UU (st:=OT) iljD icjD ikjD),(UU (st:=OT) iljD icjD ikjD).binds λ_ _ _ _ _ _ r V=>match r,V with | [_,_],_=>rfl⟩,yL X G xCD,tyCD⟩
 let i7:XS l.prog w K mg a CS:=⟨yL X G xCS,exCS,kpCS,mBCS,tyCS⟩;let i6:XD K mg CD:=⟨yL X G xCD,tyCD,mBCD,slCD⟩;let a8:UZ l.prog w K mg a 1 jZ zEl (QM jZ):=by let⟨f,j,v,fn,F,b⟩:=IjS.ex;exact⟨f,j,⟨mkCSh,v,fn,kpCSh⟩,ZO4 F c,b⟩
 let a9:UZ l.prog w K mg a 1 kd zEx (QP kd):=by let⟨f,j,v,fn,F,b⟩:=IjT.ex;exact⟨f,j,⟨mkCTw,v,fn,kpCTw⟩,ZN0 F c,b⟩
 let d:ZA l.prog w K mg a ZY 1 jZ "twig_of" zEa (Ze jZ):=Mm12.of λ_ _ F=>AD F c;let P:ZA l.prog w K mg a ZY 2 jZ "outside" zEa (XG jZ kd λ_ ho _=>.int ho):=Mm5.of λ_ _ F=>ZHi F c d;let J:ZA l.prog w K mg a ZY 2 jZ "label" zEa (XG jZ kd λtg _ _=>tg):=Mm8.of λ_ _ F=>ZKT F c d;let p:ZA l.prog w K mg a ZY 2 jZ "holders" zEa (XG jZ kd λ_ ho r=>.int ((r.length:Nat)+(ho:Nat):Int)):=Mm4.of λ_ _ F=>Ap F T c d;let q:∀ gt,ZA l.prog w K mg a (YB l.prog w) 3 jZ "road_up" zEa (WP gt jZ kd CD):=λgt=>Mm16.of λ_ _ F=>Cp F c i4 d p;let e0:∀ gt,ZA l.prog w K mg a ZY 4 jZ "alone" zEa (Ws gt jZ kd):=λgt=>Mm6.of λ_ _ F=>BJ F c i6 (q gt);let e4:ZA l.prog w K mg a ZY 1 jZ "forget" zEl (WO jZ kd):=Mm9.of λ_ _ F=>ZJU F c;let g:ZD l.prog w K mg a 1 "is_stem" zE8 (XA kd):=L14.of λ_ _ F=>ZMb F T c;let i0:ZA l.prog w K mg a ZY 2 jZ "look" zEa (V8 jZ kd):=Mm7.of λ_ _ F=>Dl F T c d g;let N:ZA l.prog w K mg a ZY 1 jZ "many" zEl (Wy jZ):=Mm11.of λ_ _ F=>ZMQ F T c;let O:ZA l.prog w K mg a ZY 1 jZ "numbers" zEl (Y5 jZ):=Mm10.of λ_ _ F=>B1 F T c;let S:ZA l.prog w K mg a ZY 3 jZ "put_twig" zEv (Y1 jZ kd):=Mm3.of λ_ _ F=>ZHa F c a9;let U:ZA l.prog w K mg a ZY 2 jZ "take_over" zEj (Yp jZ kd):=Mm15.of λ_ _ F=>EW F c d;let i2:ZA l.prog w K mg a (YB l.prog w) 3 jZ "twig_of" zEa (Xd jZ CT):=Mm12.of λ_ _ F=>E4 F c i5;let e7:ZA l.prog w K mg a (YB l.prog w) 4 jZ "label" zEa (WB jZ kd CT):=Mm8.of λ_ _ F=>Ep F c i2;let L:ZA l.prog w K mg a (YB l.prog w) 5 jZ "labels_of" zEe (Yo jZ kd CT):=Mm13.of λ_ _ F=>ZGY F c e7;let o:ZA l.prog w K mg a (YB l.prog w) 3 jZ "check_held" zEe (YM jZ kd CH):=Mm14.of λ_ _ F=>DV F c i3 P;let t:ZD l.prog w K mg a 1 "_law_pull" zEd (Yb):=L16.of λ_ _ F=>Ai F;let DW:ZD l.prog w K mg a 1 "_law_well" zE1 (Vv K):=L15.of λ_ _ F=>ZNd F T;let DN:ZD l.prog w K mg a 1 "has_few_figures" zFc (UE):=L4.of λ_ _ F=>Du F T;let c6:ZD l.prog w K mg a 1 "is_sign" ["sign"] (Wq):=L5.of λ_ _ F=>A0 F;let a6:ZD l.prog w K mg a 6 "is_key" zE3 (VD):=L1.of λ_ _ F=>ES F T (Gm T L3 DN c6 4);let DC:ZD l.prog w K mg a 7 "checked" zE3 (Ul):=L2.of λ_ _ F=>AC F a6;let c8:ZD l.prog w K mg a 6 "standing" zFa (V0 5):=GY T L7 5;let x:ZD l.prog w K mg a 7 "ahead" zE4 (Yn):=L6.of λ_ _ F=>Ag F c8;let c3:ZD l.prog w K mg a 8 "rise" ["keys"] (Ww):=L10.of λ_ _ F=>B2 F T x;let c0:ZD l.prog w K mg a 8 "own_rows" zEt (Xf):=L9.of λ_ _ F=>B8 F DC;let y:ZD l.prog w K mg a 9 "checked_rows" zEt (XQ):=L8.of λ_ _ F=>Cc F T c0 c3;let A:ZD l.prog w K mg a 1 "label_of_rows" zEt (Y0):=L11.of λ_ _ F=>ZHm F T;let R:ZA l.prog w K mg a ZY 10 jZ "put_leaf" zE9 (XW jZ kd):=Mm1.of λ_ _ F=>ET F c y A S;let c7:ZD l.prog w K mg a 8 "stand_side_by_side" zE0 (V7):=L13.of λ_ _ F=>Eb F T x;let k:Uj l.prog w K mg a 9 "label_over" zFb (X9 CS):=by let⟨f,j,F,b,m⟩:=(L12).ex;exact⟨f,j,C7 F kb T i7 c7,b,F.kp,m⟩
 let i1:∀ gt,ZA l.prog w K mg a (YB l.prog w) 10 jZ "put_stem" zEe (XU gt jZ kd CS CT CH):=λgt=>Mm2.of λ_ _ F=>Bo F T c L k o S U;let a7:ZD l.prog w K mg a 7 "_law_less" zEu (Yn):=L18.of λ_ _ F=>Ce F (F9 T L17 5);let Y:ZD l.prog w K mg a 7 "_law_alike" zEc (XL 6):=Fz T L19 6;let a4:ZD l.prog w K mg a 2 "_law_grid" zE2 (Vp):=L20.of λ_ _ F=>ZMd F T t;let B:ZD l.prog w K mg a 2 "_law_leaf_rows" zEn (XC):=L21.of λ_ _ F=>EY F T t;let c5:∀ gt,ZD l.prog w K mg a 1 "_law_rows_of" zEb (WA gt):=λgt=>L22.of λ_ _ F=>Ck F T Tr;let i:∀ gt,ZD l.prog w K mg a 2 "_law_label" zEb (YG gt):=λgt=>L23.of λ_ _ F=>Bh F T (c5 gt);let u:∀ gt,ZD l.prog w K mg a 1 "_law_above" zEb (X5 gt):=λgt=>L24.of λ_ _ F=>A8 F T;let n:∀ gt,ZD l.prog w K mg a 2 "_law_shared" zEi (Yx gt):=λgt=>L25.of λ_ _ F=>ZJ0 F T (u gt);let a1:ZD l.prog w K mg a 1 "_law_count" zEc (VC):=L27.of λ_ _ F=>ZKs F T;let D:ZD l.prog w K mg a 2 "_law_picked" zEq (Yy):=L29.of λ_ _ F=>AL F T t;let c4:∀ gt,ZD l.prog w K mg a 4 "_law_run" zEh (QE gt):=λgt=>L30.of λ_ _ F=>B5 F T t D (i gt);let a3:ZD l.prog w K mg a 8 "_law_exact" zEr (PL λgt=>Xy gt jZ kd):=L28.of λ_ _ F=>LJ λgt=>CU F T c O N i0 J P p (e0 gt) e4 Y a1 (i gt) (u gt) (n gt);let C:∀ gt,ZD l.prog w K mg a 11 "_law_put_leaf" zEg (YK gt jZ kd):=λgt=>L31.of λ_ _ F=>G0 F T c B R;let c1:ZD l.prog w K mg a 11 "_law_put_leaf" zEg (PL λgt=>YK gt jZ kd):=L31.of λ_ _ F=>LJ λgt=>G0 F T c B R;let e6:ZA l.prog w K mg a ZY 2 jZ "hold" zEa (V6 jZ kd):=Mm17.of λ_ _ F=>De F c d;let ZL:XZ K mg "NoLeaf" CL:=⟨yL X G xCL,exCL,kpCL,mBCL,tyCL⟩;let ZS:XZ K mg "NoStem" CS:=⟨yL X G xCS,exCS,kpCS,mBCS,tyCS⟩;let e3:∀ gt,ZA l.prog w K mg a ZY 67 jZ "drop_unheld" zEa (λvs H Q E=>∃ m,m<64/\WE gt m jZ kd vs H Q E):=λgt=>Gv Mm23 c p d g 64;let e8:∀ gt,ZA l.prog w K mg a (YB l.prog w) 68 jZ "let_go" zEa (VG gt jZ kd CH):=λgt=>Mm22.of λ_ _ F=>Bc F c o d (e3 gt);let c9:∀ gt,ZD l.prog w K mg a 2 "_law_swept" zEz (VF gt):=λgt=>L26.of λ_ _ F=>EV F T;let e5:ZA l.prog w K mg a ZY 2 jZ "give_back" zEj (Yq jZ kd):=Mm21.of λ_ _ F=>Bg F c d;let M:∀ gt,ZA l.prog w K mg a (YB l.prog w) 10 jZ "labels_up" zEy (XJ gt jZ kd CS):=λgt=>Mm19.of λ_ _ F=>ZKP F c d J k;let I:ZA l.prog w K mg a ZY 2 jZ "give_labels" zE5 (WC jZ kd):=Mm20.of λ_ _ F=>BQ F c d;let e2:∀ gt,ZA l.prog w K mg a (YB l.prog w) 11 jZ "change_stem" zEp (YT gt jZ kd CS CT CH CD):=λgt=>Mm18.of λ_ _ F=>AZ F kb T c ZS d g (q gt) L k (M gt) o I U e5;let e1:∀ gt,ZA l.prog w K mg a (YB l.prog w) 11 jZ "change_leaf" zEs (Yi gt jZ kd):=λgt=>Mm24.of λ_ _ F=>BS F kb c ZL ZS slCS nmCS nmCL d g (q gt) y (M gt) A I;let e9:ZA l.prog w K mg a ZY 1 jZ "looked" zEl (XR jZ):=Mm25.of λ_ _ F=>AY F T c;let z:∀ gt,ZD l.prog w K mg a 8 "_law_fits" zEm (WG gt):=λgt=>L32.of λ_ _ F=>B0 F T (i gt) a7;let c2:∀ gt,ZD l.prog w K mg a 11 "_law_put_stem" zEf (Y8 gt jZ kd):=λgt=>L33.of λ_ _ F=>ZGU F T c (i1 gt) (c4 gt) (z gt);let a5:∀ gt,ZD l.prog w K mg a 69 "_law_held" zEk (UA gt jZ kd):=λgt=>L34.of λ_ _ F=>C9 F T c e6 (e8 gt) (c9 gt);let a0:∀ gt,ZD l.prog w K mg a 12 "_law_changed" zEo (Xe gt jZ kd):=λgt=>L35.of λ_ _ F=>BV F T c (e2 gt) (e1 gt) t (i gt) (z gt) (n gt);let a2:ZD l.prog w K mg a 70 "_law_deed" zEf (PL λgt=>V5 gt jZ kd):=L36.of λ_ _ F=>LJ λgt=>E5 F T t D (n gt) (C gt) (c2 gt) (a5 gt) (a0 gt);exact Ar (UU (st:=Q1) l37 c37 k37) T c a8 N e9 O DW a4 a2 c1 a3
def walk{l:rW}{q:al}{c:jr}{o:(jb)->aC->Prop}{i:ar->aC->Prop}{d:DefRec}{K:Params->zZ}(v:l.most=some 63)(g:d.params.defaults=[])(r:∀ (w:ar) (h:aC),i w h->(K w.params).In h)(F:∀ (w:ar) (e:jb) (j:aj) (h:aC),(K w.params).In h->h.Ns ao e->e d.name=some (.ref j) ->
   ∃ m:am,(∀ (s:ak) (u:ai),BindsTo s m ⟨[u],[]⟩ [("_law_script",u)])/\∀ b:aC,(K w.params).In b->b.Ns ao e->ZN l.prog w (K w.params) e b ZY 80 j m zFe (UN (K w.params))):
  PySem.W.WalkO q c o i l.row.toRowW d [] (λf A=>PySem.call f A):=
 L2.Ma (n:=63) (k:=80) (x:= "_law_script") (CX:=λ_=>ZY) (sp:=λw=>UN (K w.params)) v (by decide) g ⟨rfl,by decide,by decide⟩ r F (λ_ _ a y t _ p=>⟨a,y,Z,p,t,λ_=>rfl⟩) λ_ _ _ _ _ z=>z
end Tw
open PySem PySem.W PyProof.Rows
namespace PySem.W.Fast
local macro_rules|`(universe $x*)=>return .node .none `null (←x.mapM λi=>`(def $i:ident:=0))
universe tw10003766812926706801 tw1000902719979197459 tw10018052410742033367 tw10035704867416136706 tw1006982969574148927 tw10136876420389107867 tw10163861215159829125 tw10175312017068992962 tw10210108393807700558 tw10247297337094950465 tw10272913465229379932 tw10279570380534517940 tw10327513417629615064 tw10329931268367735664 tw1033378119339566951 tw10341697034833691603 tw10364362389050880444 tw10375772554756434879 tw10380736137895380925 tw10393291007336620273 tw10436153529819942777 tw10473822998107420206 tw10480044021972938537 tw10494562557597168853 tw10543492564505414142 tw10595745278615102434 tw10625774430164877860 tw10626369080126735043 tw10660555259200726470 tw10670771236603046808 tw10681288178066490221 tw10701729313780873209 tw1074530758521815964 tw10759729838776899094 tw10764751748965942766 tw10774638143982705283 tw10813825279919663801 tw10823906352724786276 tw10837398359855800522 tw10872015150146368137 tw10885957129080809776 tw1091453225770144447 tw10922833396978463231 tw10975875104247295180 tw10979692196552214305 tw11003634936328245896 tw11008901949325046318 tw11017661084912712502 tw11037636157148649956 tw11038312016719199297 tw11051293837837079964 tw11191685375269457438 tw11214232694511604274 tw11219323822076260379 tw11230991170080959591 tw11241504724646160525 tw11246647497696365651 tw11249698000485165475 tw11266377050524508880 tw11306920142684359007 tw11311874553691685068 tw11335674103660297643 tw11422787135067786270 tw11488573352908299242 tw11521063660738988860 tw11562119982802229556 tw1164164693108216812 tw11642983749127272228 tw11660332475560532853 tw11665244920432203172 tw11673676329653915423 tw1176401003670826812 tw11782483135261583916 tw11794796416305597335 tw11811624482310724870 tw11859271601176695261 tw11907105060289884424 tw11936766515529240291 tw11958767056813597430 tw11987291414365683148 tw11998665933574253419 tw11999843733960268696 tw1202995275352752498 tw12034217793292553907 tw12061920016744723398 tw12083514208420427760 tw12107427809948719023 tw12120762386940998479 tw12179556228751899751 tw12201036794388391335 tw12208400441047135324 tw12223559967822185690 tw1224084396233602029 tw12242903088543890638 tw12258743569825931890 tw12303030475384353415 tw12315549264814009188 tw12329469933783493469 tw12410184393851408227 tw12453892788104798252 tw12464901782576339553 tw12466348309115811576 tw12473313677490975450 tw12485528223096897468 tw12495534895070042911 tw12511868798683774129 tw12567460828855562759 tw12603717185290497121 tw12673292523873202569 tw12712833765884567924 tw12728980230519033298 tw12737286145612739953 tw12754476254988060025 tw12761603067861908877 tw12775281086304571146 tw12776238996787310951 tw12781766701499108912 tw12798970595833149380 tw12799874512172994420 tw12849119237809579552 tw12879350624644228817 tw12879916726661347229 tw12916370898638337894 tw12964079428074700748 tw12998382108443131759 tw13035178912216806744 tw13041291482073123018 tw13056921284191846485 tw13060020055907731380 tw13066979229282594005 tw13094597059039718740 tw13131274009934654072 tw13142587251019366617 tw13165114978794861718 tw13199759130921009122 tw13207527024570901692 tw13215148422529056246 tw13235348355682777826 tw13257454712071847559 tw13270899777527539896 tw13289014092720883543 tw13340633910114469474 tw13341018960440389277 tw13345485376369683372 tw13375544178125273280 tw13413833795012201855 tw13479985294470068516 tw13511562455502457590 tw13541973233017378072 tw13575706751045561433 tw13605908824271415003 tw13606419582951614462 tw13624115997416845262 tw13629513664204284763 tw13650100633977941786 tw13764024789594437296 tw13775157400909087414 tw13808925280109987715 tw13882301880538538892 tw13931341106167508854 tw1394822362438349823 tw13952898116416133845 tw13979972579614307300 tw13986987271237331992 tw13992140400010967617 tw14076851626641621927 tw14228947727949095303 tw14249718075267956162 tw14284421240713057586 tw14295115219825746772 tw14305216849111295756 tw14450889615804599714 tw14455102000575609987 tw14473444372168689974 tw14483025375232482278 tw14488499500689218625 tw14488891360903452374 tw14497999855483694035 tw14505830162567241341 tw14507759353157617836 tw14529131700832240634 tw14543421452168335817 tw14560851493192726777 tw14597673439444611188 tw14603355220313720056 tw14612487589936133886 tw14627904371126865631 tw14647047987784103673 tw14681797712877717521 tw14734389357019122326 tw14768155264173111620 tw14785533957005601240 tw14789357861845215010 tw14822937442380593127 tw14842597959332827385 tw14918861266501717944 tw14921084397659380641 tw14933936502971075805 tw14965857407274433585 tw15015698275219765517 tw15096821679669908128 tw15124493525604673287 tw15142052242586901856 tw15147335262622983153 tw15161403704466926746 tw15186937905356448160 tw15200485934642280499 tw15204971961436105896 tw15221603800641612177 tw15251372078650916478 tw1525279904316627251 tw15273902554373746584 tw15292724011903128891 tw1535512610524036627 tw15361517841431380433 tw15368394913140776881 tw15379975010244805999 tw15388464966916836190 tw15390913852466161988 tw15420382280164279929 tw15451860955621207554 tw15465846107016735715 tw15476056988702104191 tw15519745637574870171 tw15531190637145877066 tw15611386841823461481 tw15618015914918271309 tw15721619610887376810 tw1573761022529220499 tw15745316501886072087 tw15789078014406845147 tw15804832388880454931 tw15808268781236648991 tw15839499688786502587 tw15842192400562678018 tw15866234067063603428 tw15866339505984429527 tw15927383621386749911 tw15944268252891306292 tw15950334738612273769 tw15991757578549578896 tw15995151971048370147 tw16006890097745121635 tw16011057601041751255 tw16017054493766358938 tw16032362554126779849 tw16060601371069196582 tw16093959195125247819 tw16099978717932767604 tw16150223773119515022 tw16169612439840928190 tw16206487137725509075 tw16215896725345013966 tw16244860207669698657 tw16298226856043774491 tw16320065050119284699 tw16340203312809275277 tw16340523089406358715 tw16370529492059102338 tw16469020163346672842 tw16500265517797574408 tw16503595376364787518 tw16595910555359888387 tw16619410298691809885 tw1670715981305086026 tw16728490300414305198 tw16731116830032617467 tw16756392511936052241 tw16759103722610590892 tw16793037016419842110 tw16795278511786373231 tw16812259992586130500 tw16812272055045507115 tw16886953992386835005 tw16892943995305640887 tw16902140007813091796 tw16931872697674635633 tw16937710084297150738 tw16985278684081803757 tw16986706786722510947 tw17001552426487170885 tw17049315883079000311 tw17060356760982172670 tw17096337222590371369 tw17107384488453763415 tw17164814502090274287 tw17196530002865538967 tw17227209551883208177 tw17241988924676822737 tw1727425658684441330 tw17311497498263917965 tw17376372636415851969 tw1738611792308670997 tw17415150171335737548 tw17433266600392787155 tw17450797324144914100 tw17480821451775772235 tw17512894368860689862 tw17521211190919022195 tw1753379179405906385 tw17537526230499326921 tw17559022522458182541 tw17571498609228078883 tw17593623586771627581 tw17597889390710396777 tw17633601632004947634 tw17639197062225684257 tw17639686370953025504 tw176412458356340309 tw17649476082596020584 tw1765706427930364835 tw17663139225849878265 tw17697282420659342360 tw17716106343383036527 tw17775058100769512534 tw177775745951458790 tw17778826822548077676 tw1779605779286122628 tw17805061309537956496 tw17807119966438428765 tw1783393810851434548 tw17853626236924273986 tw17863769272847003436 tw17894813975411233566 tw17897013215619911841 tw17914407496118766929 tw17914437437071786016 tw17950340657787057919 tw17952678387389834739 tw17967235598817376285 tw18003666837387563387 tw18038141465263482366 tw18039089689495531488 tw18049757941279954897 tw1805237057000254627 tw18078237244013742662 tw18149366421052299549 tw18169593646664385529 tw18197973142098023095 tw18238522068116279263 tw18244859169566706981 tw18287566354151168618 tw18310233285997735498 tw18339768187726722682 tw18396731426443064531 tw18406422179244989059 tw18440994367949917115 tw1919741453258645728 tw1952190793906672767 tw1959149149197342356 tw1967781590406999560 tw2046083417240300237 tw2048288524208984780 tw2067784688737751388 tw2082311042464142533 tw2115521150431469588 tw214952008004762885 tw2208154431398807532 tw2225835912995329807 tw2228025354831510745 tw2290869210920620721 tw2292793594167278538 tw231634370221106743 tw2324756295582969335 tw2335306186401527789 tw2357913155391567405 tw2416449449875243826 tw2437178213711539281 tw244293019018187302 tw2483654106832315073 tw24906221626570037 tw2496032971467715020 tw252021119702942767 tw2525190491516473180 tw2580590956278496283 tw2620185543779285198 tw2638311487674644929 tw2643246529678123930 tw2679025888210521888 tw2709867325117028349 tw2712775521569173370 tw2729726550431186183 tw2734286317572191304 tw2768383798792603733 tw2786185106766982030 tw2791059935385048229 tw2902263916168346880 tw2925740271634113836 tw2937210448590170821 tw29403918159431902 tw2957239393574490676 tw2958978496916820369 tw2963729034037373655 tw3008709894657446401 tw3014706245547906517 tw3040667657139843906 tw3040824108707755884 tw3047839359182795482 tw3069862038156604706 tw3089284047210540076 tw3094696446775732804 tw3180441294117304163 tw3193708194262573322 tw3210867057634751745 tw3250815032706140246 tw3253282395825586340 tw3255364254282277057 tw3264640957422437028 tw3358594472645594248 tw3459396397216379587 tw3470801718519951247 tw3485168353141622950 tw3486900542862259766 tw3520813013551339795 tw3539312514693855795 tw3544638781165094688 tw3572953555749124118 tw3691956404874913823 tw3710782335090217860 tw3730820892519266099 tw3771165292958804506 tw3808200650629429515 tw3822634357736496312 tw383288540788658370 tw3875926700782436571 tw3898821049981141455 tw3900265977333051329 tw3906611919597882131 tw3915083330929531017 tw3917766608195099014 tw3921601617662607698 tw4062449790932159695 tw4079354548679567213 tw4121594940521254282 tw4193671708564653958 tw4255196109740094420 tw4281393543546704370 tw4307621611918507538 tw4308039738575879946 tw44590816778832028 tw4469923094409187921 tw4481781961399948170 tw44941940727020311 tw4501326939607316046 tw4525486481918894932 tw4525512130796627319 tw4559697954577300085 tw4589602154028671777 tw4608565925509923541 tw4709265259665672458 tw4710698841255192579 tw4720695532310706240 tw4737043487973850038 tw4760722561725247604 tw4771718949320057608 tw4788211487994389725 tw4791559611582396506 tw4856344522774600288 tw4861504679663121745 tw488460689190255785 tw4884953969021490889 tw4912711323860151387 tw4924330479679503365 tw4964269349976553173 tw4968013250769000235 tw4977296131820740056 tw4999712428212361138 tw5006821750245375884 tw5060903782711238759 tw5107295101983763632 tw5114438361395095869 tw5128557133042677604 tw5146032615337922645 tw5187898893221932414 tw5193307840482756041 tw5228587403506762658 tw5233551704296430069 tw5285209906370923422 tw5286513760102006859 tw532053651901653476 tw5359127434534738288 tw5370155040050288302 tw5382874537808956460 tw5397897014855582164 tw5416325423193966438 tw5417929653671573956 tw5435272626848693504 tw5451767963421270850 tw5461364901233756983 tw5472878574689311079 tw5480651510212889477 tw5510257781835231101 tw5524616026414731188 tw5588816837222279728 tw5597466256049184669 tw5624512603566887706 tw5641577383779238861 tw5695294738230966970 tw5704190215045468128 tw5718491056265253121 tw5737349042314642290 tw5739742689588315894 tw5763447051880131521 tw5824666572858089055 tw5855524251050053540 tw5856226749573510318 tw5916539227581089634 tw5923543936095106849 tw5993137005079524767 tw6013494161990865460 tw6077362898652857117 tw6147339598502763035 tw6156255546325759645 tw6184749388366916215 tw6200831917394363173 tw6239681760259001648 tw6248926223774876886 tw6258008493292116705 tw6271918572391624516 tw6302311282868969407 tw6339014651636282539 tw6339778504678019038 tw64070272137066841 tw6449187063585011897 tw6473474688686629396 tw6514098712977146956 tw6523545861669951752 tw6536631858588403642 tw6564618610148285834 tw6631722238007823010 tw6639792030157134056 tw6654467037680652802 tw6681729469303315841 tw6739675301852984457 tw6741558666490041461 tw677115885418260994 tw6773604012836841893 tw6797390489721698604 tw6847353779892482184 tw6864097146919348673 tw6886714881831702079 tw6914400814738513324 tw6928145747120883371 tw6935185131408343777 tw6947319564580568640 tw6975134573096428692 tw7049215465082474697 tw7072538233328812907 tw7082526839889046639 tw7093192287199720892 tw7109965904296351948 tw7122223950555665080 tw7143594036956522412 tw7213424123442293752 tw7256703370565930189 tw7260584293190494942 tw7268424735742997701 tw7279745536270905851 tw7302213125512860719 tw7304309135762385975 tw7317182886797315925 tw7336588151846350709 tw7340294791934280238 tw7344532220144275053 tw7359965945063287788 tw7373447188366230967 tw7374142499671266861 tw7378507392716609579 tw7390518097552260749 tw7439928794805453727 tw7455117975834561251 tw7526081123326536813 tw7564314854420900098 tw7594315653871643193 tw7596790842694618862 tw7605074665838696007 tw7608410611438341897 tw7613165144179702705 tw7632275920005329172 tw7643456507050977661 tw7647959336392533415 tw7777490118014210366 tw7816748446322242778 tw7878756610025405714 tw7922153846523863472 tw7963132086891834526 tw796340681718064540 tw8005538881294227929 tw8007068877133230834 tw8012274294770845963 tw8026442326422440565 tw8033185606497448740 tw8043587054829284672 tw8073485575728098462 tw807420311795856023 tw8076022580557446836 tw8145618809652391256 tw8191072466883198592 tw8236409888446121185 tw8239169587837283971 tw8245757520802491090 tw8250855473899795241 tw8264199422295197575 tw828635512442211967 tw8320492202915288362 tw8369234318514211555 tw8371808329475388981 tw838577439970408589 tw838992727832212130 tw8408024757579711070 tw8412155509094872766 tw8424231375287644551 tw8424362486940470825 tw8436008827877150875 tw855183162436545125 tw8591549431734682037 tw8638523640435811399 tw8644913280103952092 tw8694049285564727127 tw8726825961182917876 tw8735369077979316996 tw8766560940877532978 tw8846068540322586983 tw8849872462244562174 tw8874364113732961275 tw8875652296548082930 tw8920598083315408607 tw8931325597639458579 tw8938211710420784013 tw8976009526796366733 tw9012075496961616933 tw9030159874707970743 tw9036897421856492302 tw9042235725434456513 tw9063027194857228305 tw9082737784802036810 tw9098587973854318262 tw914723211091059390 tw9183687547601751170 tw9225357442878553457 tw9235255592211876448 tw9255381805147164184 tw9258641129123237644 tw9295728998025152655 tw9404999111309682810 tw9425340699060610966 tw9427364823274809450 tw9479715900888319905 tw953370236789457206 tw958067872619080204 tw9583691649695901407 tw9592354544147290190 tw9628895910608595582 tw9665087137321398012 tw9668561466469170078 tw9711968977018070202 tw9736161476998133180 tw9748568542016040219 tw9772776459540179997 tw9811594861249280002 tw9856215336061225484 tw9889931244486930445 tw9911433965468139987 tw9928192877570542473 tw9937788864860802162 tw99650139597563544 tw9966590621596837868 tw9973865038457291908
end PySem.W.Fast
set_option maxRecDepth 100000 in
set_option maxHeartbeats 0 in
theorem PySem.Challenge.cw_twigmap_k28_whole_shelf_exact_holds : PySem.Challenge.rw_twigmap_k28_whole_shelf_exact.Holds := by
 w_on;o_law;k_head;(case hw=>w_witness2)
 k_fill
 refine Tw.walk (l:=PySem.Challenge.rw_twigmap_k28_whole_shelf_exact) Z Z (λw h Y=>PySem.W.kIn_of Y) ?qFun
 case qFun=>
  intro w mg fa h KX G hmg;refine' Tw.Je KX G hmg (Tw.Mi KX G ?a1 ?l1 ?c1 ?k1) (Tw.Mi KX G ?a2 ?l2 ?c2 ?k2) (Tw.Mi KX G ?a3 ?l3 ?c3 ?k3) (Tw.Mi KX G ?a4 ?l4 ?c4 ?k4) (Tw.Mi KX G ?a5 ?l5 ?c5 ?k5) (Tw.Mi KX G ?a6 ?l6 ?c6 ?k6) (Tw.Mi KX G ?a7 ?l7 ?c7 ?k7) (Tw.Mi KX G ?a8 ?l8 ?c8 ?k8) (Tw.Mi KX G ?a9 ?l9 ?c9 ?k9) (Tw.Mi KX G ?A0 ?A1 ?A2 ?A3) (Tw.Mi KX G ?A4 ?A5 ?A6 ?A7) (Tw.Mi KX G ?A8 ?A9 ?Aa ?Ab) (Tw.Mi KX G ?Ac ?Ad ?Ae ?Af) (Tw.Mi KX G ?Ag ?Ah ?Ai ?Aj) (Tw.Mi KX G ?Ak ?Al ?Am ?An) (Tw.Mi KX G ?Ao ?Ap ?Aq ?Ar) (Tw.Mi KX G ?As ?At ?Au ?Av) (Tw.Mi KX G ?Aw ?Ax ?Ay ?Az) (Tw.Mi KX G ?B0 ?B1 ?B2 ?B3) (Tw.Mi KX G ?B4 ?B5 ?B6 ?B7) (Tw.Mi KX G ?B8 ?B9 ?Ba ?Bb) (Tw.Mi KX G ?Bc ?Bd ?Be ?Bf) (Tw.Mi KX G ?Bg ?Bh ?Bi ?Bj) (Tw.Mi KX G ?Bk ?Bl ?Bm ?Bn) (Tw.Mi KX G ?Bo ?Bp ?Bq ?Br) (Tw.Mi KX G ?Bs ?Bt ?Bu ?Bv) (Tw.Mi KX G ?Bw ?Bx ?By ?Bz) (Tw.Mi KX G ?C0 ?C1 ?C2 ?C3) (Tw.Mi KX G ?C4 ?C5 ?C6 ?C7) (Tw.Mi KX G ?C8 ?C9 ?Ca ?Cb) (Tw.Mi KX G ?Cc ?Cd ?Ce ?Cf) (Tw.Mi KX G ?Cg ?Ch ?Ci ?Cj) (Tw.Mi KX G ?Ck ?Cl ?Cm ?Cn) (Tw.Mi KX G ?Co ?Cp ?Cq ?Cr) (Tw.Mi KX G ?Cs ?Ct ?Cu ?Cv) (Tw.Mi KX G ?Cw ?Cx ?Cy ?Cz) ?D0 ?D1 ?D2 ?D3 ?z1 ?z2 ?z3 ?z4 ?z5 ?z6 ?z7 ?z8 ?z9 ?D4 ?D5 ?D6 ?D7 ?D8 ?D9 ?Da ?Db ?Dc ?Dd ?De ?Df ?Dg ?Dh ?Di ?Dj ?Dk (Tw.MF ?Dl ?Dm ?Dn ?Do ?Dp) (Tw.MF ?Dq ?Dr ?Ds ?Dt ?Du) ?Dv ?Dw ?Dx ?Dy ?Dz ?E0 ?E1 ?E2 ?E3 (Tw.Ng ?E4 ?E5 ?E6 ?E7 ?E8) (Tw.Ng ?E9 ?Ea ?Eb ?Ec ?Ed) (Tw.Ng ?Ee ?Ef ?Eg ?Eh ?Ei) (Tw.Ng ?Ej ?Ek ?El ?Em ?En) (Tw.Ng ?Eo ?Ep ?Eq ?Er ?Es) (Tw.Ng ?Et ?Eu ?Ev ?Ew ?Ex) (Tw.Ng ?Ey ?Ez ?F0 ?F1 ?F2) (Tw.Ng ?F3 ?F4 ?F5 ?F6 ?F7) (Tw.Ng ?F8 ?F9 ?Fa ?Fb ?Fc) (Tw.Ng ?Fd ?Fe ?Ff ?Fg ?Fh) (Tw.Ng ?Fi ?Fj ?Fk ?Fl ?Fm) (Tw.Ng ?Fn ?Fo ?Fp ?Fq ?Fr) (Tw.Ng ?Fs ?Ft ?Fu ?Fv ?Fw) (Tw.Ng ?Fx ?Fy ?Fz ?G0 ?G1) (Tw.Ng ?G2 ?G3 ?G4 ?G5 ?G6) (Tw.Ng ?G7 ?G8 ?G9 ?Ga ?Gb) (Tw.Ng ?Gc ?Gd ?Ge ?Gf ?Gg) (Tw.Ng ?Gh ?Gi ?Gj ?Gk ?Gl) (Tw.Ng ?Gm ?Gn ?Go ?Gp ?Gq) (Tw.Ng ?Gr ?Gs ?Gt ?Gu ?Gv) (Tw.Ng ?Gw ?Gx ?Gy ?Gz ?H0) (Tw.Ng ?H1 ?H2 ?H3 ?H4 ?H5) (Tw.Ng ?H6 ?H7 ?H8 ?H9 ?Ha) (Tw.Ng ?Hb ?Hc ?Hd ?He ?Hf) (Tw.Ng ?Hg ?Hh ?Hi ?Hj ?Hk) ?Hl ?Hm ?Hn ?Ho ?Hp ?Hq ?Hr ?Hs ?Ht ?Hu ?Hv ?Hw ?Hx ?Hy ?Hz ?I0 ?I1 ?I2 ?I3 ?I4 ?I5 ?I6 ?I7 ?I8 ?I9 ?Ia ?Ib ?Ic ?Id ?Ie ?If ?Ig ?Ih ?Ii ?Ij ?Ik ?Il ?Im ?In ?Io ?Ip ?Iq ?Ir ?Is ?It ?Iu ?Iv ?Iw
  (case Hl|Hm|Hn|Ho|Hp|Hq|Hr|Dl|Dq|Hs|Ht|Hu|E4|E9|Ee|Ej|Eo|Et|Ey|F3|F8|Fd|Fi|Fn|Fs|Fx|G2|G7|Gc|Gh|Gm|Gr|Gw|H1|H6|Hb|Hg|a1|l1|c1|k1|a2|l2|c2|k2|a3|l3|c3|k3|a4|l4|c4|k4|a5|l5|c5|k5|a6|l6|c6|k6|a7|l7|c7|k7|a8|l8|c8|k8|a9|l9|c9|k9|A0|A1|A2|A3|A4|A5|A6|A7|A8|A9|Aa|Ab|Ac|Ad|Ae|Af|Ag|Ah|Ai|Aj|Ak|Al|Am|An|Ao|Ap|Aq|Ar|As|At|Au|Av|Aw|Ax|Ay|Az|B0|B1|B2|B3|B4|B5|B6|B7|B8|B9|Ba|Bb|Bc|Bd|Be|Bf|Bg|Bh|Bi|Bj|Bk|Bl|Bm|Bn|Bo|Bp|Bq|Br|Bs|Bt|Bu|Bv|Bw|Bx|By|Bz|C0|C1|C2|C3|C4|C5|C6|C7|C8|C9|Ca|Cb|Cc|Cd|Ce|Cf|Cg|Ch|Ci|Cj|Ck|Cl|Cm|Cn|Co|Cp|Cq|Cr|Cs|Ct|Cu|Cv|Cw|Cx|Cy|Cz|D0|D1|D2|D3|z1|z2|z3|z4|z5|z6|z7|z8|z9|D4|D5|D6|D7|D8|D9|Da|Db|Dc|Dd|De|Df|Dg|Dh|Di|Dj|Dk|Dm|Do|Dp|Dr|Dt|Du|Dv|Dw|Dx|Dy|Dz|E0|E1|E2|E3|E5|E7|E8|Ea|Ec|Ed|Ef|Eh|Ei|Ek|Em|En|Ep|Er|Es|Eu|Ew|Ex|Ez|F1|F2|F4|F6|F7|F9|Fb|Fc|Fe|Fg|Fh|Fj|Fl|Fm|Fo|Fq|Fr|Ft|Fv|Fw|Fy|G0|G1|G3|G5|G6|G8|Ga|Gb|Gd|Gf|Gg|Gi|Gk|Gl|Gn|Gp|Gq|Gs|Gu|Gv|Gx|Gz|H0|H2|H4|H5|H7|H9|Ha|Hc|He|Hf|Hh|Hj|Hk|Dn|Ds|E6|Eb|Eg|El|Eq|Ev|F0|F5|Fa|Ff|Fk|Fp|Fu|Fz|G4|G9|Ge|Gj|Go|Gt|Gy|H3|H8|Hd|Hi|Hv|Hw|Hx|Hy|Hz|I0|I1|I2|I3|I4|I5|I6|I7|I8|I9|Ia|Ib|Ic|Id|Ie=>k_is)
  (case If|Ig=>kernel_rfl)
  (case Ih=>k_exc)
  (case Ii|Ij|Ik=>k_is)
  (case Il=>kernel_rfl)
  (case Im=>k_is)
  (case In=>kernel_rfl)
  (case Io=>k_is)
  (case Ip=>kernel_rfl)
  (case Iq=>k_is)
  (case Ir=>k_exc)
  (case Is|It|Iu|Iv|Iw=>k_is)
