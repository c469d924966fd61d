import PyProof.Rows.All
import Wide.All
import OpenK.AllK
import Wide.FinOn
import Lean
import PyProof.EqAt
import PyProof.EqKinds
import PyProof.TupleCall
import PyProof.NeKinds
import PyProof.TupleKey
import PyProof.DictFindH
import PyProof.NsDelKeeps
import PyProof.ExcBaseAll.ValueError
import KE.KIsAll
import PyProof.ExcArgsOwn
import PyProof.ExcAttrAll.ValueError
import KE.KSortTup
import KE.KDictList
import PyProof.Rows.SortWalk
import KE.KEqDict
import KE.KLam
import KE.KRevIter
import PyProof.InstStoreFacts
import PyProof.ExcClass3
import PyProof.Rows.SumAny
import KE.KFind
import PyProof.Rows.Range3
import PySem.Challenge.RW_twigmap_k44_forks_stand
open PySem renaming wpAny_bind→aa,wpAny_pure→ae,wpAny_mono→af,wpAny_holding→ag,wpAny_Call_Name_kw→ah,Value→ai,Addr→aj,Shared→ak,Program→am,FuncData→ao,mainGlobals→ap,sizeLine→aq,starEach→ar,World→aw,Around→ax,bootBuiltins→ay,compareOp→az,model→aA,wpAny→aB,Stmt→aC,Heap→aD,Scope→aE,backTo→aF,eval→aG,Obj→aH
universe u
local macro_rules(kind:=Lean.Parser.Command.declaration)|d=>if d.getPos?.isSome then return d.rewriteBottomUp (·.setInfo .none) else Lean.Macro.throwUnsupported
noncomputable section
set_option compiler.extract_closed false
theorem aI[Decidable p](h:¬p):decide p=false:=decide_eq_false h
theorem aJ[Decidable p](h:p):decide p=true:=decide_eq_true h
theorem aK{h:Decidable c}(n:¬c):(ite c t e)=e:=if_neg n
theorem aM{h:Decidable c}(n:c):(ite c t e)=t:=if_pos n
set_option Elab.async false
set_option linter.all false
set_option maxRecDepth 100000
set_option maxHeartbeats 8000000
open List renaming mem_cons_self->zX,getElem?_eq_getElem->zT,getD_eq_getElem?_getD->zO,length_map->zW,mem_singleton->zV,mem_cons_of_mem->zS,length_append->zR,mem_cons->zU,length_cons->zN,mem_append_left->zL,mem_of_getElem?->zG,getElem?_eq_some_iff->yW,mem_append->zM,take_of_length_le->zA,getElem?_map->zK,mem_append_right->yZ,size_toArray->zF,mem_map->zQ,map_append->zH,append_nil->zC,sublist_append_right->yF,sublist_append_left->yG,append_assoc->yT,take_add_one->yR,nodup_append->yO,map_cons->yX,all_eq_true->yM,nodup_cons->yQ,length_drop->yJ,getElem?_append_right->xJ,length_singleton->xV,filter_append->yB,mem_filter->yH,drop_eq_getElem_cons->xH,eq_nil_of_length_eq_zero->wP,length_take->yA,Sublist->yN,filter_eq_nil_iff->wX,mem_flatMap->xT,take_append_drop->wY,getElem?_append_left->wG,pairwise_append->xA,filter_sublist->xB,getElem_mem->xK,filter_cons->xL,pairwise_cons->xD,Perm->yP,count_pos_iff->wR,filter_eq_self->wI,flatMap_cons->wT,perm_ext_iff_of_nodup->vN,lookup_cons->wU,toArray->xP,range->yD,Pairwise->xI,count_cons_self->vV,length_pos_iff->vW,eq_nil_iff_forall_not_mem->uA,getElem?_of_mem->vP,length_eq_zero_iff->uY,filter_cons_of_pos->uZ,mem_range->wL,drop_of_length_le->vA,eq_nil_or_concat->vC,concat_eq_append->vD,length->xG,reverse_cons->vQ,length_set->vT,count_append->vL,lookup->wQ,nodup_nil->vU,length_filter_le->tZ,find?_cons->vR,cons_lt_cons_iff->uG,any_cons->wA,exists_cons_of_ne_nil->sR,mem_of_mem_drop->uH,replicate->vS,take_sublist->uK,mem_iff_getElem?->sT,any_eq_true->uM,mem_of_mem_take->sV,reverse_append->sZ,not_lt_nil->uP,nil_append->uQ,flatMap_append->tF,filterMap_cons->tG,mem_filterMap->tI,map_map->vH,pairwise_iff_getElem->qY,map_take->uR,map_drop->uS,getElem?_cons_succ->qZ,filter_cons_of_neg->rA,take_length->tL,perm_middle->tM,cons_append->tN,length_pos_of_mem->rD,getElem?_set_self->rE,perm_append_comm->qR,map_nil->uC,length_nil->sQ,getElem?_eq_none->qS,count_cons_of_ne->qT,all_map->uD,getElem?_set_ne->rJ,take_zero->tS,take_succ_cons->rO,perm_singleton->rP,mem_map_of_mem->rQ,head?_reverse->rT,all_cons->tU,getElem?_inj->rW,eraseIdx_eq_take_drop_succ->pY,drop_sublist->rX,nil_lt_cons->sG,dropLast_concat_getLast->qB,of_mem_zip->sI,forIn_cons->sJ,filter_map->sL,filter->tX,cons->uV,perm_append_singleton->qL,take_left->sM,getLastD_eq_getLast?->qP,drop_zero->sO,drop_left->sP,length_erase_of_mem->pR,getElem?_take_of_lt->pS,pairwise_singleton->pV,getLast_eq_getElem->pW,length_eq_one_iff->gO,head?_eq_getElem?->gM,pairwise_flatMap->gL
open PySem.W renaming Frag->zZ,findIn->zB,nsIn->yU,mg_none_of->xO,keepIn->xX,mg_of->xY,fnOf->xZ,kitOne->xM,kia_one->wV,emptyDict->wB,mroIn->xE,Looks->wW,codeIn->wK,hasDictIn->vX,typeIn->wE,instObj->vY,isFn->wM,plainGet->vM,callWith_K->uI,plainOver->uJ,makesIn->uN,looks_mroIn->sU,hideAll->uO,methodCall_KW->rB,looks_findIn->rF,lookIn->tQ,KdlSrc->tR,plainGet_of->qU,looks_clsIn->qV,of_hideAll->rM,methodObj->rR,any_some->rV,takerIn->rZ,OpenLaw->sC,cellsFrom_some->qM,looks_typeIn->pT,hideAll_none->pU,hideAll_get->pX,callWith_K0->gP
open Nat renaming le_refl->zY,le_of_ble_eq_true->yS,le_trans->zJ,zero_le->yY,lt_of_lt_of_le->yC,ne_of_lt->yK,lt_or_ge->yL,le_of_lt->yE,lt_irrefl->xW,lt_of_le_of_lt->wJ,lt_succ_self->wC,succ->xR,succ_le_succ->vE,min_eq_left->vF,sub_lt_sub_left->tH,le_of_eq->vI,add_sub_cancel->tJ,le_succ->vK,le_of_not_lt->tO,le_add_right->tP,sub_self->uE,ne_of_gt->uF,sub_le->uU,le_succ_of_le->sE,min_le_right->sH,exists_eq_succ_of_ne_zero->qA
open Bool renaming false_ne_true->zP,and_eq_true->zI,false_eq_true->wS,eq_iff_iff->wD,or_eq_false_iff->rL,false_and->tT,true_and->tV,not_true->tW,and_true->rH,and_eq_false_iff->gK
open PySem.Heap renaming get?_push_of_some->zD,lt_size->zE,get?_push_size->yI,SameBut->xN,get?_update_self->vO,get?_update_other->vB,get?_none_of_le->sW,size_push->rG
open Option renaming map_eq_some_iff->xU,some->yV,map_some->vZ,isSome_iff_exists->qX,none->uT
open PySem.F renaming plainAttrs_list->xQ,type_list_append->wN,slot_list_append->wO,slot_dict_keyiterator_next->qW,slot_tuple_hash->sS,slot_dict_get->rC,slot_dict_getitem->pZ,type_list_remove->qC,type_list_insert->qE,store_ValueError->qF,slot_list_remove->qG,slot_list_insert->qH,plain_list_iadd->qI,plainAttrs_dict->qJ,args_dict_get_3->qK,slot_dict_iter->qN,entry_dict_get->qO,slot_dict_pop->pQ
open Array renaming getElem?_eq_getElem->wZ,getElem?_toList->wH,getElem?_eq_some_iff->uB,length_toList->uW,forIn_toList->rS,toList_inj->sF,toList->gQ,toArray_toList->gJ,mem_toList_iff->gI
open PySem.Str renaming ofString->wF
open Int renaming emod_lt_of_pos->uX,emod_nonneg->vG,toNat_natCast->uL,zero_add->vJ,le_refl->tY,fdiv_eq_ediv_of_nonneg->qQ
open PyProof.Rows renaming wpS_bind->jI,wpS_pure->jJ,arrOf->jK,SortSt->jL,pendingOf->jM,wpS_forRange->jN
local macro_rules|`(tactic|exists $e,*)=>`(tactic|refine #[$e,*, ?_])
def Z{α:Sort u}{a:α}:a=a:=rfl
local macro_rules|`(())=>`(by lia)
local macro_rules|`(nofun)=>`(by lia (splits:=8))
local macro_rules|`(tactic|let $d:letDecl)=>let n:=d.raw[0];let l(s:Lean.Syntax)k:Lean.Syntax:=.node .none `Lean.Parser.Tactic.rcasesPatLo #[.node .none `Lean.Parser.Tactic.rcasesPatMed #[Lean.mkNullNode #[.node .none k s.getArgs]],Lean.mkNullNode];if n.getKind== ``Lean.Parser.Term.letPatDecl then let m:Lean.TSyntax `Lean.Parser.Tactic.rcasesPatMed:=⟨(n[0].rewriteBottomUp λs=>match s.getKind with|`ident=>l (Lean.mkNullNode #[s]) `Lean.Parser.Tactic.rcasesPat.one|`Lean.Parser.Term.hole=>l s `Lean.Parser.Tactic.rcasesPat.ignore|`Lean.Parser.Term.anonymousCtor=>l s `Lean.Parser.Tactic.rcasesPat.tuple|`«term#[_,]»=>l s `Lean.Parser.Tactic.rcasesPat.tuple|_=>s)[0]⟩;`(tactic|obtain $m:rcasesPatMed:=$(⟨n[4]⟩)) else `(tactic|have $d:letDecl)
local macro_rules|`(#[$x,*])=>do let r←`(rfl);let h←`(_);let y:=x.getElems.flatMap λe=>match e.raw.isNatLit? with|some n=>(Array.replicate n #[h,r]).flatten|_=>#[e];`(⟨$y,*⟩)
local macro_rules|`($x\$y)=>`($x=some $y)
local macro_rules|`(tactic|rwa[$r,*])=>let a:=r.getElems;`(tactic|(rw[$(a.pop),*];exact $(⟨a.back!.raw[1]⟩)))
local macro_rules|`(tactic|erw[$r,*] at $h:ident)=>`(tactic|(rw[$r,*] at $h:ident;cases $h:ident))
local macro_rules|`(↑$x)=>`(($x).length)
local macro_rules|`(⇑$x)=>`(($x).toArray)
open Option renaming some->Z',none->Y'
open Bool renaming true->V'
local macro_rules|`($x[$i]!)=>`(($x).getD ($i) .d)
local macro_rules|`(#v[$x,*])=>let a:=x.getElems;if a.size==1 then `(by simpa using $(a.back!)) else `(by rw[$[$(a.pop):term],*];exact $(a.back!))
local macro_rules|`(⋯)=>`(by simp)
local macro_rules|`(↥$x)=>if x.raw.isIdent then `(aA ($x).prog ($x).w) else `(aA $(Lean.mkIdent `prog) $(Lean.mkIdent `w))
local macro_rules|`(tactic|show $t)=>`(tactic|refine $t)
local macro_rules|`(-$f:ident $a*)=>`($f $(Lean.mkIdent `P) $(Lean.mkIdent `w) $(Lean.mkIdent `K) $(Lean.mkIdent `mg) $(Lean.mkIdent `jW) $a*)
local macro_rules|`(‹$x:ident›)=>`($(Lean.mkIdent (x.getId++`heap.objs.size)))
local macro_rules|`(#[])=>`(by intro _ z;cases z)
local macro_rules|`(#v[])=>`(by intro _ _ _ z;cases z)
local macro_rules|`(!$x:ident)=>`(.ref $x)
local macro_rules|`($x|||$y)=>`(($x).trans $y)
open Decidable renaming decide->gU
open Sum renaming inl->gR
def gS{a:Prop}{b:Sort u}(h:a)(n:¬a):b:=absurd h n
local macro_rules|`(-$x:ident)=>`(.int $x)
local macro_rules|`(!$f:ident $a*)=>if f.getId== `ZA||f.getId== `ZB then `($f $(Lean.mkIdent `l.prog) $(Lean.mkIdent `w) $(Lean.mkIdent `K) $(Lean.mkIdent `mg) $(Lean.mkIdent `a) $a*) else `(not ($f $a*))
abbrev ja:=PySem.Value->PySem.Shared->Prop
abbrev jb:=PySem.Str->Option PySem.Value
abbrev jc:=Option PySem.Value
abbrev jd:=List PySem.Value
abbrev U':List PySem.Str:=["self","number"]
abbrev TZ:List PySem.Str:=["_law_well_here","_law_many"]
abbrev T3:List PySem.Str:=["shelf","root","key"]
abbrev T4:List PySem.Str:=["self","numbers"]
abbrev TN:List PySem.Str:=["shelf","stem","heir","steps"]
abbrev TV:List PySem.Str:=["_law_found","_law_due"]
abbrev Th:List PySem.Str:=["_law_shelf","_law_tables_here","_law_pins","_law_at"]
abbrev TR:List PySem.Str:=["shelf","stem","number"]
abbrev TH:List PySem.Str:=["_law_well_here","_law_room"]
abbrev TJ:List PySem.Str:=["self","number","numbers"]
abbrev Ti:List PySem.Str:=["_law_well_here","_law_table","_law_known"]
abbrev TW:List PySem.Str:=["shelf","steps"]
abbrev TD:List PySem.Str:=["self","stem","branches"]
abbrev TL:List PySem.Str:=["_law_well_here"]
abbrev TQ:List PySem.Str:=["shelf","root"]
abbrev SK:List PySem.Str:=["_law_well_here","_law_shelf","_law_model"]
abbrev SL:List PySem.Str:=["_law_well_here","_law_shelf","_law_rows"]
abbrev SM:List PySem.Str:=["_law_shelf","_law_root","_law_found"]
abbrev SX:List PySem.Str:=["_law_well_here","_law_bound"]
abbrev Tt:List PySem.Str:=["self","shelf","root"]
abbrev TM:List PySem.Str:=["self","key"]
abbrev T2:List PySem.Str:=["step"]
abbrev Tj:List PySem.Str:=["shelf","steps","place"]
abbrev SN:List PySem.Str:=["shelf","stems","places","added"]
abbrev Tl:List PySem.Str:=["_law_script","_law_k"]
abbrev Tn:List PySem.Str:=["self","number","rows"]
abbrev Tg:List PySem.Str:=["shelf","one","other"]
abbrev TY:List PySem.Str:=["self"]
abbrev SH:List PySem.Str:=["shelf","stem","left","lender"]
abbrev TF:List PySem.Str:=["_law_spot"]
abbrev SI:List PySem.Str:=["_law_well_here","_law_known"]
abbrev TX:List PySem.Str:=["rows"]
abbrev TB:List PySem.Str:=["one","other"]
abbrev SW:List PySem.Str:=["self","things","label"]
abbrev TC:List PySem.Str:=["self","rows"]
abbrev SJ:List PySem.Str:=["shelf","stem","at","number"]
abbrev SO:List PySem.Str:=["shelf","root","key","value"]
abbrev SQ:List PySem.Str:=["_law_well_here","_law_most"]
abbrev Ty:List PySem.Str:=["thing","room"]
abbrev SY:List PySem.Str:=["shelf","root","added"]
abbrev SZ:List PySem.Str:=["self","things","tag"]
abbrev S':List PySem.Str:=["self","road","label"]
abbrev Ta:List PySem.Str:=["shelf","leaf","rows"]
abbrev TU:List PySem.Str:=["thing"]
abbrev Tb:List PySem.Str:=["label","following"]
abbrev SR:List PySem.Str:=["shelf","found","key"]
abbrev Tc:List PySem.Str:=["rows","row","at"]
abbrev SS:List PySem.Str:=["self","key","value"]
abbrev Td:List PySem.Str:=["self","labels"]
abbrev To:List PySem.Str:=["_law_model"]
abbrev SF:List PySem.Str:=["self","number","twig"]
abbrev Te:List PySem.Str:=["shelf","stem"]
abbrev SU:List PySem.Str:=["shelf","number"]
abbrev TK:List PySem.Str:=["key"]
abbrev Tf:List PySem.Str:=["found","at"]
abbrev Tz:List PySem.Str:=["twig"]
abbrev Tu:List PySem.Str:=["found"]
abbrev Tq:List PySem.Str:=["number"]
abbrev Tr:List PySem.Str:=["labels"]
abbrev SV:List PySem.Str:=["keys","key"]
abbrev SG:List PySem.Str:=["_law_script"]
abbrev jj:=List Nat
abbrev jn:=List PySem.Str
abbrev jo:=List (aj×aH)
abbrev jp:=Option Nat
abbrev jq:=List (Nat×Nat)
abbrev js:=Array ai
abbrev jt:=List PySem.Env
abbrev ju:=Option aj
abbrev jv:=List PySem.Expr
abbrev jw:=Array Nat
abbrev jy:=List Int
abbrev jz:=List aj
abbrev jA:=Option Int
abbrev jB:=List (PySem.Str×aj)
abbrev jC:=List aC
abbrev jE:=List (PySem.Str×ai)
abbrev jG:=Option PySem.Expr
def jx(a b:Lean.Term)(s:String):Lean.Term:=((s.splitOn " ").foldl (λk w=>if w="a" then a::k else if w="b" then b::k else let n:=w.front.toNat-48;let u:=(w.drop 1).toString;let v:=(u.drop 1).toString;let c:=u.front;(if c='-'||c='!' then id else (Lean.Syntax.mkApp · (k.take n).reverse.toArray)) (if c='.' then ⟨.node .none `Lean.Parser.Term.dotIdent [Lean.mkAtom ".",Lean.mkIdent v.toName].toArray⟩ else if c='-' then ⟨.node .none `«term-_» [Lean.mkAtom "-",k.headD a].toArray⟩ else if c='!' then ⟨.node .none `«term!_» [Lean.mkAtom "!",k.headD a].toArray⟩ else if c='\'' then ⟨Lean.Syntax.mkCharLit v.front⟩ else if c='~' then Lean.Syntax.mkStrLit v else if c.isDigit then Lean.Syntax.mkNumLit u else Lean.mkIdent u.toName)::k.drop n) []).headD a
local macro_rules|`($c:char)=>do
 let a<-`(‹_›);let b<-`(_)
 if c.getChar='a' then `(λ_ _ _ _ h=>by induction h;rfl) else if c.getChar='b' then `(by decide) else match ("c0X 0jV 0σ 0H 0s 5ZH|d0K 0mg 0jT 0jU 4YJ|e0ZJ 01 0jT 0~twig_of 0U' 0jT 1Zj 6ZB 1-|f01 1pv 1ZQ|g01 0~_law_pull 0TZ 0Z0 4ZA 1-|h0~object.__class__ 1.builtin|i0~object.__setattr__ 1.builtin 1Z'|j0ZJ 02 0jT 0~look 0U' 0jT 0jU 2Ya 6ZB 1-|k0ZJ 02 0jT 0~hold 0U' 0jT 0jU 2Ye 6ZB 1-|l0lv 0ts 0av 0ho 0U 0g 0o 7Dg|m0XG 0Z 0T.len 0XE 04 1pv 1ZQ 5YA|n0Va 0ZM 2VZ|o02 1pv 1ZQ|p0j 00 1.int 2m.getD|q00 1pv 0Zt 2Zi|r0ZJ 03 0jT 0~check_held 0T4 0jT 0jU 2Zz 6ZB 1-|s00 1pv 0Z 2XS|t00 1pv 1ZQ|u0ZJ 010 0jT 0~put_stem 0T4 0jT 0jU 2YC 6ZB 1-|v01 0~branches_of 0T2 0Yl 4ZA 1-|w0~tuple 1.type|x0~BaseException 1.type|y02 1pv 1Zh 1ZR|z03 1pv 1ZQ|A0ZJ 011 0jT 0~change_stem 0TJ 0jT 0jU 2VA 6ZB 1-|B0K 00 1pv 0ZM 3XL|C00 1pv 0ZM 2Zu|D0K 01 1pv 0Vg 02 1pv 0ZM 3Z5 3Zy 1ZQ|E00 1pv 0ZM 0Zt 2Zi 2Zi|F0ZJ 010 0jT 0~put_leaf 0TC 0jT 0jU 2Yr 6ZB 1-|G0o 0m 0jh 3.Attribute|H03 1j.take|I0H 1ZE.refl 1Go.same|J0~int 1.type|K00 1pv 01 1pv 02 1pv 3Wf|L0ZJ 05 0jT 0~let_go 0U' 0jT 0jU 2WP 6ZB 1-|M0~getset_descriptor.__get__ 1.builtin 1Z'|Nb 1yN.refl|O0~str 1.type|P0~sorted 1.builtin|Q0K 03 1pv 0ZM 3Zy|R0K 02 1pv 0'n 3Zy 1ZQ|S013 0~own_way 0TW 0jT 0jU 2YQ 4ZA 1-|T02 0~neighbour 0T2 0Ua 4ZA 1-|U0XG 0Z 0T.len 0XE 0't 5YA|V0XG 0Z 0T.len 0XE 0'f 5YA|W0w.params 1K|X0x 0p 2.Name|Y0K 03 1pv 0'n 3Zy|Z0x 0pos 2.Name|00X.K 0fd 0ps 0ds 4Zx|103 1pv 1Zh 1ZR|20ZJ 011 0jT 0~change_stem 0TJ 0jT 0jU 2Y0 6ZB 1-|30ZJ 011 0jT 0~change_leaf 0Tn 0jT 0jU 2Yv 6ZB 1-|40o 0i 0pos 3.Subscript|50lt 0n 0cmp 0s 4Ou|60jT 0jU 0CTb 0H 0X 0lk 0ls 0Ts 0jV 9Gs|701 0~is_stem 0Tz 0jU 1WO 4ZA 1-|80Vn 0ZM 0DP 0hr1 00 1pv 0K 0ZM 0ZM 0ZM 0ZM 4Uv 1Yy 03 1pv 3Zy 2Zu 3Zd 3Z5|9012 0~own 0TR 0jT 0jU 2XX 4ZA 1-|!0e 1zE 0x 0c 0L 0t 4I.ok.cab 2yC 1yK|#0X.ts 0r 2Yw|$0h1.objs.size 1Value.ref|%0ZJ 012 0CTb 0~side 0TM 0jT 0jU 0CTb 3Yz 6ZB 1-|&04 0~_law_others 0Th 0jT 0jU 0CTb 3Yt 4ZA 1-|*0id 1.builtin|+038 0~_law_deed 0Ti 0jT 0jU 0CTb 3WT 4ZA 1-|,0es 0X.env 2ar|-0Q5 0Nv 0Z 0T.list 0OU 02 1pv 0Z 2XS 1ZQ 5UZ 2Zu 1UF 1Zh 1ZR|.07 0~ahead 0TB 0Y5 4ZA 1-|/033 0~hand_down 0TN 020 0jT 0jU 3YR 4ZA 1-|:0e 1zE 0I.ok.above 2yC|;0H0 0H 0X 0p 0lk 0c 0us 7Vv|<0true 1.bl|=0Vn 05 1pv 06 1pv 3Z5|>0XG 0Z 0T.len 0XE 0'q 5YA|?0true 1.bool|@0a 0H 0Q 0E 4c|^b 1zY 1I.hok.fresh|_04 0~check_root 0TQ 0jT 0jU 2YD 4ZA 1-|`0h 1xR.inj 1xR.inj 1xR.inj|~0K 00 1pv 0ZM 3Zy|à0I.units0 1MC 03 1pv 0Zt 1Yy b 1Z9 4YO 0'y 0Z6 3Z4|á010 0~steps_to 0T3 0jT 0jU 2Xf 4ZA 1-|â0~BaseException.__getattribute__ 1.builtin 1Z'|ã0X.env.scope 0x 2Nr|ä07 0~checked 0TU 0VM 4ZA 1-|å04 1pv 1ZQ|æ012 0~adopt 0TR 0jT 0jU 2Yu 4ZA 1-|ç03 1j.drop|è0s 1ZE.tups|é0b 0o 0e 3I.ok.bs|ê01 0~_law_well 0Tl 0K 1VO 4ZA 1-|ë0i 0t 2.int 0j 0u 2.int 2f|ì0OI 1Zh 1ZR|í0~list 1.type|î0~bool 1.type|ï0jT 0jU 0H 0X 0lk 0c 0ls 7Wh|ð0y 1zV.mp|ñ0H 0a 0o 3upd|ò0o 0m 0a 3.Attribute|ó06 0~_law_key 0TH 04 1Xg 4ZA 1-|ô0DO 0e7 03 1pv 04 1pv 06 1pv 09 1pv 4Uv 3Zd|õ0~isinstance 1.builtin|ö04 1pv 1Zh 1ZR|ø0xQ 0wO 0wN 0PU 02 1pv 0'Q 1ZQ 6QG 1YF 1ZR|ù0ZM 0ZM 0Zt 2Zi 2Zi 1Yy|ú0K 0~drop_unheld 0~Shelf.drop_unheld 0Ka 0f 0fd 6Zl|û0Z 1zV.mpr|ü0b 0b 0o 0q 0d 4c 2a|ý04 1pv 1WJ|þ0b 0d 0~root 0r 1YS 0X.S 0r0 2P3 3YW 3.ins|ÿ0e 1.error|Ā0H 1ZE.refl|ā0i 0hi 2O.keep|Ăb b 0oD 0hD 4G.fr|ă09 0~label_over 0Tr 0X9 4ZA 1-|Ą0b 0o 0e 0n 0a 5I.base.free|ą0OF 1Zh 1ZR|Ć0y 0c 0h 1PySem.mem_of_lookup 3x.above|ć0P 0w 2Ve 1tupleKind|Ĉ0c 0o 0n 0f 0e 5F.fr|ĉ0K 0~__init__ 0~Table.__init__ 0Nu 0f 0fd 6Qd|Ċ0scope 0cl 0H2.objs.size 0X.env 4compEnvC|ċ0o 0X.env 2aG|Č0Vm 00 1pv 01 1pv b 1Z9 4V4 1O2|čb 1I.tok|Ď0x 0c 0e 3I.freeC|ďb b 0Za 3r 0.nil 2.tup 0.nil 2.cons|Đ0j 00 1.int 2l.getD|đ01 1pv 0Zt 2Zi|Ē0Z 1Or.inr|ē0l 1KT.tup|Ĕ0w 1KT.str|ĕ0i 1KT.int|Ė0r 1ForInStep.yield|ė0a 0b 0pos 3.Subscript|Ę0e 0f 0pos 3.Attribute|ę0K 0~road_up 0~Shelf.road_up 0Ll 0f 0fd 6Zl|Ě0lv 0ts 0cur 0r 0n 0up 0t 0T 8Ow|ě0P 0w 2Um 03 0jT 0~road_up 0U' 0jT 0jU 2Ys 6ZB 1-|Ĝ0i 0hi 2nl|ĝ01 1pv 02 1pv 2Zu|Ğ0X 0a 0b 0Q 4EP|ğ01 0~is_leaf 0Tu 0XQ 4ZA 1-|Ġ0.NotEq 1az|ġ0K 0~let_go 0~Shelf.let_go 0KK 0f 0fd 6Zl|Ģ0K 0~hand_down 0~hand_down 0Q6 0f 0fd 6Zl|ģ0ZJ 03 0jT 0~drop_unheld 0U' 0jT 0jU 2VC 6ZB 1-|Ĥ0ZJ 02 0jT 0~give_labels 0Td 0jT 0jU 2WM 6ZB 1-|ĥ0n 1sY.subset|Ħ0V.int 1a.map|ħ0y 1V.int.inj|Ĩ0todo' 1UL 1.lst|ĩ0ZJ 010 0jT 0~labels_up 0S' 0jT 0jU 2WB 6ZB 1-|Ī0i 0v 1Z' 2σ.set|ī0i 00 2p.getD 00 1.int 2b.getD|Ĭ04 0nd 0K 0K 0'Y 0ZM 3XL 0ZM 3XL 3Zf|ĭ01 1pv 1Zh 1ZR|Į0y 0py 2.Name 1Z'|į0Kq 0Z 0T.abs 0Jm 03 1pv 0Zt 2Zi 5YA|İ0i 00 2p.getD 00 1.int 2C.getD|ı0~range 0p 2.Name|Ĳ0X.prog 0X.w 0H' 0h' 4XJ|ĳ0ZJ 03 0jT 0~labels_of 0T4 0jT 0jU 2Yg 6ZB 1-|Ĵ0ZJ 02 0jT 0~take_over 0TD 0jT 0jU 2Y6 6ZB 1-|ĵ0c 0o 0e 3l.old|Ķ0ZM 0'q 2Zi 1UF 1Zh 1ZR|ķ0KJ 0ZM 0ZM 3Z5|ĸ00 1pv 0ZM 0Hr 3GK|Ĺ0~object 1.type|ĺ0~len 1.builtin|Ļ0s.heap 0x 0dx 0C 0mA 5QW|ļ0ZJ 03 0jT 0~put_twig 0SW 0jT 0jU 2XZ 6ZB 1-|Ľ08 0~stands_ahead 0Tg 0jT 0jU 2Ug 4ZA 1-|ľb 1Classical.propDecidable|Ŀ0~method_descriptor 1.type|ŀ0X 0value 0tv 3PE|Ł0P 0w 0K 0mg 0jW 05 0CTb 0Tt 0jT 0jU 0CTb 3Y3 9KP|ł0ZJ 01 0jT 0~numbers 0TY 0jT 0jU 2Yx 6ZB 1-|Ń0j 00 2p.getD|ń0e 0X.env 2aG|Ņ0K 02 1pv 0ZM 3XL|ņ0K 01 1pv 0ZM 3XL|Ň0.Add 1binaryOp|ň06 1pv 1ZQ|ŉ0K 0K 05 1pv 0'n 3Zy 0ZM 3XL|Ŋ00 1pv 06 1pv 04 1pv 3Wf|ŋ00 1pv 05 1pv 02 1pv 3Wf|Ō02 1pv 1WJ|ō01 1pv 1WJ|Ŏ02 1pv 1Ue|ŏ0σ 0ix 0x 3OE|Ő0r 0ta 0tb 3MD|ő0d 0es 0ep 0s.heap 4UB|Œ0ZJ 02 0jT 0~label 0U' 0jT 0jU 2VW 6ZB 1-|œ0b 0b 0hb 2S1.dg.u.inn 2kp2|Ŕ0y 0n 2.Name 0X.env 2assign|ŕ0o 0f 0pos' 3.Attribute 1Z'|Ŗ0X.prog 0X.w 2Ve|ŗ0Z 0T.range 0ZM 0'U 2Zu 3Jv|Ř0B 1I.ok.hd|ř0false 1.bl|Śb 0zX 2zS|śb b 0hb 0e 2KD 2yZ 2yZ|Ŝ0z 0b 2x.key|ŝ0true 1tuples'|Ş0Vm 02 1pv 0ZM b 1Z9 4YO|ş0NM 02 1pv 0ZM b 1Z9 4YO|Š0QY 03 1pv 0ZM 1Ue 0Q1 4QZ|š0hr.units0 1IM|Ţ01 0~has_few_figures 0Tq 0Qq 4ZA 1-|ţb b 0p 0e 2KD 2yZ 2yZ|Ť0x 0hx 2wf|ť0i 0i 0p 2N 2ne|Ŧ0X 0lk 0H 0ts0 4XU|ŧ05 0nd 2VG|Ũ03 0nd 2VG|ũ0ts 0k 0i 3Uu|Ū0lv 0av 0ho 0c 0ch 5Rd|ū06 0~_law_rank 0TF 05 1WL 4ZA 1-|Ŭ0L 1rawInt|ŭb 1zY 1f.hok.fresh|Ů0h 1eq_of_beq|ůb 1zY 1d.hok.fresh|Ű0n 1a.drop|ű0hl 1ZF.of|Ų02 1pv 0Z 2XS|ų0'# 0k 2WZ|Ŵ0j 1W.take|ŵ0V.int 1N.map|Ŷ0b 0o 0e 0a 4A|ŷb 1.int 0.nil 2.cons".splitOn "|").find? (·.front=c.getChar) with
 |some s=>return jx a b (s.drop 1).toString
 |_=>Lean.Macro.throwUnsupported
namespace _T
open PySem PySem.Spec PyProof.Rows
abbrev ZY:=Sum Int Str
abbrev jx:=List ZY
abbrev jF:=List (ZY×ai)
def NE:ZY->ai->Bool
 |.inl k,v=>Value.isInt k v
 |.inr x,v=>Value.isStrOf x v
def EN(w:aw):ZY->Int
 |.inl k=>hashInt k
 |.inr x=>hashStr w x
theorem Pd:∀{k:ZY}{v:ai},NE k v=V'->(∃ i t,k=gR i/\v=Value.int i t)\/(∃ x t,k=Sum.inr x/\v=Value.str x t)
 |.inl i,v,h=>by
  let#[t,e]:=Value.isInt_shape (k:=i) (v:=v) h;show .inl #[i,t,Z,e]
 |.inr x,v,h=>by
  let#[t,e]:=Value.isStrOf_shape (x:=x) (v:=v) h;show .inr #[x,t,Z,e]
theorem nL(i)(t):NE (.inl i) (.int i t)=V':=by simp[NE,Value.isInt]
theorem mi(x)(t):NE (.inr x) (.str x t)=V':=by simp[NE,Value.isStrOf]
theorem yt(a b):gU ((gR a:ZY)=gR b)=(a==b):=by
 by_cases e:a=b
 .subst e;simp
 .let h:¬ (gR a:ZY)=gR b:=λq=>e (Sum.inl.inj q);rwa[aI h,(beq_eq_false_iff_ne.mpr e).symm]
theorem zo(a b):gU ((Sum.inr a:ZY)=Sum.inr b)=gU (a=b):=by
 by_cases e:a=b
 .subst e;simp
 .let h:¬ (Sum.inr a:ZY)=Sum.inr b:=λq=>e (Sum.inr.inj q);rw[aI h,aI e]
theorem xu(a)(b):gU ((gR a:ZY)=Sum.inr b)=false:=aI (λq=>nomatch q)
theorem yr(a)(b):gU ((Sum.inr a:ZY)=gR b)=false:=aI (λq=>nomatch q)
def Ve(c:am)(w:aw):PySem.KeyKind c w ZY where
 is:=NE
 hash:=EN w
 inj:=λv a b g f=>by
  rcases Pd g with ⟨i,t,rfl,rfl⟩|⟨x,t,rfl,rfl⟩
  .rcases Pd f with ⟨j,u,rfl,e⟩|⟨y,u,rfl,e⟩
   .injection e with e1 _;rw[e1]
   .show nomatch e
  .rcases Pd f with ⟨j,u,rfl,e⟩|⟨y,u,rfl,e⟩
   .show nomatch e
   .injection e with e1 _;rw[e1]
 byValue:=λk v h=>by
  rcases Pd h with ⟨i,t,rfl,rfl⟩|⟨x,t,rfl,rfl⟩ <;> rfl
 pyHash:=λd h=>by
  rcases Pd d with ⟨i,t,rfl,rfl⟩|⟨x,t,rfl,rfl⟩
  .show wpAny_pyHash_int h
  .show wpAny_pyHash_str h
 eqBool:=λl d h=>by
  rcases Pd l with ⟨i,t,rfl,rfl⟩|⟨x,t,rfl,rfl⟩
  .rcases Pd d with ⟨j,u,rfl,rfl⟩|⟨y,u,rfl,rfl⟩
   .rw[yt] at h;show wpAny_eqBool_int h
   .rw[xu] at h;show SeqAt.EqAt.int_str i t y u _ _ _ _ h
  .rcases Pd d with ⟨j,u,rfl,rfl⟩|⟨y,u,rfl,rfl⟩
   .rw[yr] at h;show SeqAt.EqAt.str_int x t j u _ _ _ _ h
   .rw[zo] at h;show wpAny_eqBool_str h
 «strs» :=λk x t v h=>by
  rcases Pd h with ⟨i,u,rfl,e⟩|⟨y,u,rfl,e⟩
  .show nomatch e
  .injection e with e1 _;subst e1;cases v<;>rfl
theorem kC(a)(w)(i)(t):(Ve a w).is (.inl i) (.int i t)=V':=nL i t
theorem kQ(a)(w)(x)(t):(Ve a w).is (.inr x) (.str x t)=V':=mi x t
inductive V where
 |non|bl (b:Bool)|int (i:Int)|str (x:Str)|byt (b:Array UInt8)|flt (b:UInt64)|ref (a:aj)|ty (n:String)
 deriving DecidableEq
abbrev je:=List V
abbrev jf:=Option V
def ZT:V->ai->Prop
 |.non,u=>u=Value.none
 |.bl b,u=>u=Value.bool b
 |.int i,u=>∃ t,u=Value.int i t
 |.str x,u=>∃ t,u=Value.str x t
 |.byt b,u=>∃ t,u=Value.bytes b t
 |.flt b,u=>∃ t,u=Value.float b t
 |.ref a,u=>u=Value.ref a
 |.ty n,u=>u=Value.type n
abbrev ZS:je->jd->Prop:=Paired ZT
theorem ZS.length(r:ZS b a):↑b=↑a:=Paired.length r
theorem ZS.get:∀{b:je}{a:jd}{i:Nat}{x:V},ZS b a->b[i]?\x->∃ u,a[i]?\u/\ZT x u
 |_,_,_,_,.nil,e=>by simp at e
 |_,_,0,_,.cons r _,e=>by simp at e;subst e;show#[1,r]
 |_,_,i+1,x,.cons _ t,e=>by
  let#[u,c,d]:=ZS.get (i:=i) (x:=x) t #v[e]
  show#[u,#v[c],d]
theorem ZS.set(r:ZT x u):∀{b:je}{a:jd} i ,ZS b a->ZS (b.set i x) (a.set i u)
 |_,_,_,.nil=>.nil
 |_,_,0,.cons _ t=>.cons r t
 |_,_,i+1,.cons q t=>.cons q (ZS.set r i t)
theorem ZS.append:∀{c d:je}{a b:jd},ZS c a->ZS d b->ZS (c++d) (a++b):=by intro _ _ _ _ h g;induction h with
 |nil=>show g
 |cons r _ e=>show .cons r e
theorem ZS.take:∀{b:je}{a:jd}(n:Nat),ZS b a->ZS (b.take n) (a.take n)
 |_,_,0,_=>.nil
 |_,_,_+1,.nil=>.nil
 |_,_,n+1,.cons r t=>.cons r (ZS.take n t)
theorem ZS.drop:∀{b:je}{a:jd} n ,ZS b a->ZS (b.drop n) 'Ű'
 |_,_,0,r=>r
 |_,_,_+1,.nil=>.nil
 |_,_,n+1,.cons _ t=>ZS.drop n t
def Yp:jf->jc->Prop
 |some v,Z' u=>ZT v u
 |none,Y'=>True
 |_,_=>False
def KV{a:Type}:List (a×V)->List (a×ai)->Prop:=Paired fun(p:a×V)(q:a×ai)=>p.1=q.1/\ZT p.2 q.2
noncomputable def kV:ZY->V
 |.inl i=>.int i
 |.inr x=>.str x
inductive HO where
 |lst (xs:je)
 |tup (xs:je)
 |dK (kvs:List (ZY×V))|dT (kvs:List (jx×V))
 |set (S:Int->Bool) (n:Nat)
 |ins (C dx:aj) (fs:List (Str×V))
 |own (x:aj)
 |xd (fs:List (Str×V))
 |met (f x:aj)
 |rng (lo hi:Int)
 |frz (o:aH) (u:HO)
 |tbl (ps:js)
 |ext (φ:aD->Prop)
abbrev Hp:=aj->Option HO
noncomputable def upd(H:Hp)(a:aj)(o:HO):Hp:=λb=>if b=a then Z' o else H b
theorem Za{H:Hp}{a:aj}{o:HO}:upd H a o a\o:=by unfold upd;rw[aM rfl]
theorem ZU(h:b≠a):upd H a o b=H b:=by unfold upd;rw[aK h]
theorem MW:upd (upd H a o) a u=upd H a u:=by
 funext b;unfold upd;split<;>rfl
theorem ZZ{H:Hp}(h:H a\o)(c:H b\u)(d:o≠u:=by intro z;cases z):a≠b:=by
 intro e;subst e;rw[h] at c;show d (yV.inj c)
theorem Zg{H:Hp}(h:H a\o)(c:H b=Y'):a≠b:=by
 intro e;subst e;erw[h] at c
section
variable(P:am)(w:aw)
def Zk(H:Hp)(h:aD)(a:aj):HO->Prop
 |.lst c=>↑c<=aq/\∃(b:jd)(n:Nat),ZS c b/\h.get? a\{ cls:=.type "list",data:=.seq ⇑b n }
 |.tup c=>↑c<=aq/\∃ b:jd,ZS c b/\IsTup h a ⇑b
 |.dK kvs=>↑kvs<=aq/\(a==sysModules)=false/\∃ l,KV kvs l/\h.DictOf (Ve P w) a l
 |.dT kvs=>↑kvs<=aq/\(a==sysModules)=false/\∃ c:List (jx×aj×ai),
   Paired (fun(p:jx×V)(q:jx×aj×ai)=>p.1=q.1/\H q.2.1\.tup (p.1.map kV)/\ZT p.2 q.2.2) kvs c /\
   ∃ o i m,h.get? a\o/\o.ExactDict/\o.data=.dict i m/\i.toList=c.map (entryOfKey 'ć')/\(c.map (·.1)).Nodup
 |.set S n=>h.SetOf (intKind P w) a S n
 |.ins C g e=>H g\.own a/\↑e<=1000/\g≠a/\h.get? a=Z' (vY C g) /\
   ∃ d,h.Ns1 g d/\(∀ f,Yp (e.lookup f) (d f))/\PySem.Within d (e.map (·.1))
 |.own _=>∃ o,h.get? a\o
 |.xd e=>∃ d,h.Ns1 a d/\∀ f,Yp (e.lookup f) (d f)
 |.rng lo r=>∃ t u v,h.get? a\{ cls:=.type "range",data:=.fields ⇑[.int lo t,.int r u,.int 1 v] }
 |.frz o u=>h.get? a\o/\Zk H h a u
 |.tbl ps=>h.get? a\{ cls:=.none,data:=.fields ps }
 |.met f x=>h.get? a\rR (!f) !x
 |.ext φ=>φ h/\(∃ o,h.get? a\o)/\∀ j k:aD,φ j->(∀ o,j.get? a\o->k.get? a\o)->φ k
def XJ(H:Hp)(h:aD):=∀ a o,H a\o->Zk P w H h a o
end
section
variable{P:am}{w:aw}{H H':Hp}{h h':aD}{a:aj}{o:HO}
theorem Zk.lt(x:Zk P w H h a o):a<h.objs.size:=by
 cases o with
 |lst d=>let#[_,_,_,_,e]:=x;show zE e
 |tup d=>let#[_,_,_,p]:=x;show p.lt
 |dK b=>let#[_,_,_,_,o,_,_,e,_]:=x;show zE e
 |dT b=>let#[_,_,_,_,o,_,_,e,_]:=x;show zE e
 |set S n=>let#[o,_,_,_,e,_]:=x;show zE e
 |ins C g c=>let#[_,_,_,e,_]:=x;show zE e
 |own y=>let#[_,e]:=x;show zE e
 |xd c=>let#[_,#[_,_,_,e,_],_]:=x;show zE e
 |rng j i=>let#[_,_,_,e]:=x;show zE e
 |frz k u=>let#[e,_]:=x;show zE e
 |tbl l=>show zE (show h.get? a\_ from x)
 |met f y=>show zE (show h.get? a\_ from x)
 |ext m=>let#[_,#[_,e],_]:=x;show zE e
theorem Paired.mapP{e g:Type}{F G:e->g->Prop}:∀{c:List e}{d:List g},Paired F c d->(∀ a b,F a b->G a b)->Paired G c d:=by intro _ _ h f;induction h with
 |nil=>show .nil
 |cons r _ i=>show .cons (f _ _ r) i
theorem Zk.stay(x:Zk P w H h a o)(k:∀ b u,(b=a\/H b\.own a)->h.get? b\u->h'.get? b\u)(I:∀ b,H b\.own a->H' b\.own a)(J:∀ b m,H b\.tup m->H' b\.tup m):Zk P w H' h' a o:=by
 induction o with
 |lst m=>let#[z,l,n,r,e]:=x;show#[z,l,n,r,k _ _ (.inl Z) e]
 |tup m=>let#[z,l,r,g,e,c]:=x;show#[z,l,r,g,k _ _ (.inl Z) e,c]
 |dK s=>let#[z,y,M,r,g,j,i,e,c]:=x;show#[z,y,M,r,g,j,i,k _ _ (.inl Z) e,c]
 |dT s=>
  let#[z,y,m,r,g,j,i,e,c]:=x;show#[z,y,m,Paired.mapP r λp q z=>#[z.1,J _ _ z.2.1,z.2.2],g,j,i,k _ _ (.inl Z) e,c]
 |set S n=>let#[g,j,i,t,e,c]:=x;show#[g,j,i,t,k _ _ (.inl Z) e,c]
 |ins C N G=>
  let#[d,z,L,e,A,#[B,j,i,F,c],r]:=x;show#[I _ d,z,L,k _ _ (.inl Z) e,A,#[B,j,i,k _ _ (.inr d) F,c],r]
 |own y=>let#[g,e]:=x;show#[g,k _ _ (.inl Z) e]
 |xd G=>let#[A,#[B,j,i,e,c],r]:=x;show#[A,#[B,j,i,k _ _ (.inl Z) e,c],r]
 |rng Q O=>let#[t,u,v,e]:=x;show#[t,u,v,k _ _ (.inl Z) e]
 |frz g u K=>let#[e,q]:=x;show#[k _ _ (.inl Z) e,K q]
 |tbl D=>
  let e:h.get? a\{ cls:=.none,data:=.fields D }:=x;change h'.get? a\{ cls:=.none,data:=.fields D };show k a _ (.inl Z) e
 |met f y=>
  let e:h.get? a\rR (!f) (!y):=x;change h'.get? a\rR (!f) !y;show k a _ (.inl Z) e
 |ext R=>let#[p,#[o,e],E]:=x;show#[E _ _ p λo q=>k _ _ (.inl Z) q,#[o,k _ _ (.inl Z) e],E]
theorem XJ.lt(x:XJ P w H h)(e:H a\o):a<h.objs.size:=(x a o e).lt
theorem XJ.fresh(x:XJ P w H h)(e:h.objs.size<=a):H a=Y':=by
 cases q:H a with
 |none=>rfl
 |some u=>show gS (yC (x.lt q) e) (xW _)
theorem XJ.kept(x:XJ P w H h)(k:∀ b u,h.get? b\u->h'.get? b\u):XJ P w H h':=λa o e=>
 (x a o e).stay (λb u _ q=>k b u q) (λ_ q=>q) λ_ _ q=>q
theorem XJ.laid(x:XJ P w H h)(k:∀ b u,h.get? b\u->h'.get? b\u)(i:h.objs.size<=a)(d:Zk P w 'ñ' h' a o):XJ P w 'ñ' h':=λb u e=>by
 let g:=x.fresh i;by_cases f:b=a
 .subst f;erw[Za] at e;show d
 .rw[ZU f] at e;show(x b u e).stay (λc v _ q=>k c v q) (λc q=>#v[ZU (Zg q g),q]) λc j q=>#v[ZU (Zg q g),q]
end
def hX(H:Hp)(a:aj)(u:HO):Prop:=H a\u\/∃ o,H a\.frz o u
theorem hX.of(h:H a\u):hX H a u:=.inl h
theorem hX.ok(r:hX H a u)(x:XJ P w H h):Zk P w H h a u:=by
 rcases r with r|⟨o,r⟩
 .show x a u r
 .let#[_,q]:=x a _ r;show q
def MU:Option HO->Prop
 |some (.lst _)=>True
 |some (.dK _)=>True
 |some (.dT _)=>True
 |some (.set _ _)=>True
 |some (.ins _ _ _)=>True
 |some (.ext _)=>True
 |_=>False
section
variable{P:am}{w:aw}{H:Hp}{h h':aD}{x e:aj}{o':HO}
theorem XJ.write(t:XJ P w H h)(j:MU (H x))(o:e=x\/H e\.own x)(k:∀ b u,b≠e->h.get? b\u->h'.get? b\u)(m:∃ u,h'.get? e\u)(n:Zk P w (upd H x o') h' x o'):XJ P w (upd H x o') h':=λb u q=>by
 let d:∀ c y,H c\.own y->c≠x:=λc y r z=>by subst z;rw[r] at j;show j
 let f:∀ c l,H c\.tup l->c≠x:=λc l r z=>by subst z;rw[r] at j;show j
 by_cases g:b=x
 .subst g;erw[Za] at q;show n
 .rw[ZU g] at q;by_cases a:b=e
  .let p:H b\.own x:=by
    rcases o with z|z
    .show gS (a|||z) g
    .rwa[a,z]
   erw[q] at p;let#[v,s]:=m;show#[v,#v[a,s]]
  .show(t b u q).stay (λc v i r=>k c v ?_ r) (λc r=>#v[ZU (d c b r),r]) λc l r=>#v[ZU (f c l r),r]
   rcases i with rfl|i
   .show a
   .rintro rfl;rcases o with z|z
    .show d c b i z
    .erw[i] at z;show g Z
end
structure Un(fs ex:jz)(H H':Hp)(h h':aD):Prop where
 keep:∀ b o,h.get? b\o->H b=Y'->b∉fs->b∉ex->h'.get? b\o
 slot:∀ b o,h.get? b\o->H b=Y'->b∈fs->b∉ex->∃ sl,h'.get? b\{ o with slots:=sl }
 free:∀ b o,h.get? b\o->H b=Y'->b∉ex->H' b=Y'
 there:∀ b o,h.get? b\o->b∉ex->∃ o',h'.get? b\o'
 tups:∀ b xs,H b\.tup xs->H' b\.tup xs
 frzs:∀ b o u,H b\.frz o u->H' b\.frz o u
 tbls:∀ b ps,H b\.tbl ps->∃ more,H' b\.tbl (ps++more)
section
variable{fs fs' ex ex':jz}{H H1 H2:Hp}{h h1 h2 h':aD}{a x e:aj}{o:HO}
theorem Un.any(u:Un fs ex H H1 h h1)(q:h.get? b\c)(n:H b=Y')(f:b∉ex):∃ g,h1.get? b\{ c with slots:=g }:=by
 by_cases d:b∈fs
 .show u.slot b c q n d f
 .show#[c.slots,u.keep b c q n d f]
theorem Un.kept(k:∀ b u,h.get? b\u->h'.get? b\u):Un fs ex H H h h':=
 #[λb c q _ _ _=>k b c q,λb c q _ _ _=>#[c.slots,k b c q],λ_ _ _ n _=>n,λb c q _=>#[c,k b c q],λ_ _ q=>q,λ_ _ _ q=>q,λ_ d q=>#[⇑[],by rw[q];simp]]
theorem Un.refl:Un fs ex H H h h:=Un.kept λ_ _ q=>q
theorem Un.laid(k:∀ b u,h.get? b\u->h'.get? b\u)(d:h.objs.size<=a)(c:H a=Y'):Un fs ex H 'ñ' h h' where
 keep:=λb u q _ _ _=>k b u q
 slot:=λb u q _ _ _=>#[u.slots,k b u q]
 free:=λb u q n _=>#v[ZU (yK (yC (zE q) d)),n]
 there:=λb u q _=>#[u,k b u q]
 tups:=λb f q=>#v[ZU (Zg q c),q]
 frzs:=λb u f q=>#v[ZU (Zg q c),q]
 tbls:=λb g q=>#[⇑[],by rw[ZU (Zg q c),q];simp]
theorem Un.write(d:MU (H x))(l:e=x\/H e\.own x)(k:∀ b u,b≠e->h.get? b\u->h'.get? b\u)(f:∃ u,h'.get? e\u):Un fs ex H (upd H x o) h h':=by
 let j:∀ b,H b=Y'->b≠x:=λb n z=>by subst z;rw[n] at d;show d
 let i:∀ b,H b=Y'->b≠e:=λb n z=>by
  subst z;rcases l with r|r
  .show j b n r
  .erw[n] at r
 let g:∀ b u,H b\u->¬ MU (Z' u)->b≠x:=λb u q m z=>by subst z;rw[q] at d;show m d
 show#[λb u q n _ _=>k b u (i b n) q,λb u q n _ _=>#[u.slots,k b u (i b n) q],λb u q n _=>#v[ZU (j b n),n],λb u q _=>?_,
  λb p q=>#v[ZU (g b _ q λz=>z),q],λb u p q=>#v[ZU (g b _ q λz=>z),q],λb s q=>#[⇑[],by rw[ZU (g b _ q λz=>z),q];simp]]
 by_cases c:b=e
 .subst c;show f
 .show#[u,k b u c q]
end
def Lz(h:aD)(H:Hp):List Addr:=(yD h.objs.size).filter λa=>(H a).isSome
def Op(h:aD)(H:Hp):Heap:=uO h (Lz h H)
theorem oR(h)(H):(Op h H).objs.size=h.objs.size:=PySem.W.hideAll_size _ _
theorem qt(e:h.get? b\o)(n:H b=Y'):(Op h H).get? b\o:=
 pX _ e λa=>by
  let q:(H b).isSome=V':=(yH.mp a).2;rw[n] at q;simp at q
theorem xi(e:(Op h H).get? b\o):h.get? b\o/\H b=Y':=by
 let a:h.get? b\o:=rM (Lz h H) e;exists a
 cases q:H b with
 |none=>rfl
 |some x=>
  let c:b∈Lz h H:=yH.mpr #[wL.mpr (zE a),by simp[q]]
  let z:(Op h H).get? b=Y':=pU (Lz h H) c;erw[z] at e
def q5(g h:aD)(L:aj):jo:=(yD h.objs.size).filterMap λa=>if a=L\/(g.get? a).isSome=V' then Y' else (h.get? a).map λo=>(a,o)
def rest(g h:aD)(L d:aj):jo:=(q5 g h L).filter λp=>gU (p.1≠d)
structure Mod(K:zZ)(mg:jb)(jW:aD):Prop where
 kin:K.In jW
 glob:jW.Ns ap mg
 blt:∃ mb,jW.Ns builtinsNs mb/\∀ x:Str,x≠"__name__"->mb x=ay x
 nolimit:jW.NoLimit
structure Cx where
 prog:am
 w:aw
 K:zZ
 mg:jb
 base:aD
 A:ax
 N:jn
 s₀:ak
 H₀:Hp
 env:Env
 outer:jt
 stack:jt
 ex:jz
 fn:Str->Bool
 calm:Bool
 pn:jo
 xe:ja
noncomputable def frs(l:jt):List Addr:=l.filterMap (·.frame)
abbrev Cx.fs(X:Cx):List Addr:=frs X.outer
def Kj(a:aE)(x:Str):Prop:=a.names.lookup x\.local\/a.names.lookup x\.cell\/a.names.lookup x\.free
def Nr(a:aE)(x:Str):Prop:=a.names.lookup x\.local\/a.names.lookup x\.cell
def RT(a:Env)(h:aD)(m:jb)(x:Str)(u:ai):Prop:=
 (a.kindOf x\.local/\m x\u)\/((a.kindOf x\.cell\/a.kindOf x\.free)/\∃ c,a.cells.lookup x\c/\h.IsCell c (Z' u))
structure Cx.Ok(X:Cx):Prop where
 mod:Mod X.K X.mg X.base
 kind:X.env.scope.kind=.function
 glob:X.env.globals=ap
 blt:X.env.builtins=builtinsNs
 above:X.s₀.heap.objs.size<=X.env.locals
 inj:∀ x y c,X.env.cells.lookup x\c->X.env.cells.lookup y\c->x=y
 has:∀ x,(X.env.kindOf x\.cell\/X.env.kindOf x\.free)->∃ c,X.env.cells.lookup x\c
 cab:∀ x c,X.fn x=V'->X.env.cells.lookup x\c->X.s₀.heap.objs.size<=c
 hd:X.calm=V'->X.A.handled=Y'
 frames:X.A.frames\X.stack
 stk:X.stack=X.outer\/(X.stack=X.env::X.outer/\X.env.frame\X.env.locals)
 exf:∀ b∈X.ex,b≠X.env.locals/\∀ x c,X.env.cells.lookup x\c->c≠b
 bs:∀ b o,X.base.get? b\o->X.s₀.heap.get? b\o/\X.H₀ b=Y'
 bsz:X.base.objs.size<=X.s₀.heap.objs.size
 noex:∀ b o,X.base.get? b\o->b∉X.ex
 exfs:∀ b∈X.ex,b∉X.fs
 funs:X.s₀.heap.FunFrames X.base X.outer
 frf:∀ b∈X.fs,X.H₀ b=Y'
structure ZH(X:Cx)(jV:jo)(σ:List (jf))(H:Hp)(s:ak):Prop where
 ok:X.Ok
 os:s.os=X.s₀.os
 bare:AllBare s.gens
 base:Un X.fs X.ex X.H₀ H X.s₀.heap s.heap
 loc:∃ m,s.heap.Ns X.env.locals m/\∀(i:Nat)(x:Str)(v:V),X.N[i]?\x->σ[i]?\Z' v->Kj X.env.scope x->∃ u,ZT v u/\RT X.env s.heap m x u
 cell:∀ x c,X.env.cells.lookup x\c->∃ v,s.heap.IsCell c v
 free:H X.env.locals=Y'
 freeC:∀ x c,X.env.cells.lookup x\c->H c=Y'
 pin:∀ p∈X.pn++jV,s.heap.get? p.1\p.2/\H p.1=Y'/\p.1≠X.env.locals/\p.1∉X.fs/\∀ v,p.2.data≠.cell v
 hok:XJ X.prog X.w H s.heap
 len:↑σ=↑X.N
section
variable{X:Cx}{jV:jo}{σ:List (jf)}{H H':Hp}{s:ak}{h':aD}
theorem Cx.Ok.nofr(c:X.Ok)(e:X.base.get? b\o):b∉X.fs:=λa=>by
 have:=(c.funs.mem a).1;erw[e] at this
theorem ZH.bs(I:'c'):∀ b o,X.base.get? b\o->s.heap.get? b\o/\H b=Y':=λb o e=>
 #[I.base.keep b o 'é'.1 'é'.2 (I.ok.nofr e) (I.ok.noex b o e),I.base.free b o 'é'.1 'é'.2 (I.ok.noex b o e)]
theorem ZH.bk(I:'c'):∀ b o,X.base.get? b\o->s.heap.get? b\o:=λb o e=>(I.bs b o e).1
theorem ZH.mod(I:'c'):Mod X.K X.mg X.base:=I.ok.mod
theorem ZH.kIn(I:'c'):X.K.In s.heap:=I.ok.mod.kin.keeps I.bk
theorem ZH.lt(I:'c'):X.env.locals<‹s›:=let #[_,hn,_]:=I.loc;hn.lt
theorem ZH.sz(I:'c'):X.s₀.heap.objs.size<=‹s›:=zJ I.ok.above (yE I.lt)
theorem ZH.nofs(I:'c'){a:aj}(h:‹s›<=a):a∉X.fs:=λb=>by
 let#[_,o,c,_]:=I.ok.funs.mem b;show gS (yC (zE c) (zJ I.sz h)) (xW _)
theorem ZH.cne(I:'c'):∀ x c,X.env.cells.lookup x\c->c≠X.env.locals:=λx c e z=>by
 let#[v,o,f,d]:=I.cell x c e;let#[m,#[i,h,g,b,a,_],_]:=I.loc;erw[z,b] at f;erw[a] at d
theorem ZH.funs(I:'c'):s.heap.FunFrames X.base X.outer:=by
 let a:∀(l:jt),(∀ b∈frs l,b∈X.fs)->X.s₀.heap.FunFrames X.base l->s.heap.FunFrames X.base l:=by
  intro l
  induction l with
  |nil=>intro _ _;trivial
  |cons h r q=>
   intro g k;let#[j,#[L,o,f,m,n,i],p]:=k;let c:L∈X.fs:=g L (by unfold frs;rwa[tG,f,zX])
   let#[t,e]:=I.base.slot L o n (I.ok.frf L c) c λz=>I.ok.exfs L z c;show#[j,#[L,_,f,m,e,i],q (λb d=>g b (by unfold frs;rwa[tG,f,zS _ d])) p]
 show a X.outer (λ_ d=>d) I.ok.funs
theorem ZH.stack(I:'c'):s.heap.FunFrames X.base X.stack:=by
 rcases I.ok.stk with e|⟨e,a⟩
 .rwa[e,I.funs]
 .rw[e];let#[m,b,_]:=I.loc;show .cons (by rw[I.ok.kind];decide) a b ?_ I.funs
  show sW (zJ I.ok.bsz I.ok.above)
theorem ZH.stkSub(I:'c'):∀ b∈frs X.stack,b∈X.env.locals::X.fs:=λb a=>by
 rcases I.ok.stk with e|⟨e,c⟩
 .rw[e] at a;show zS _ a
 .rw[e] at a;unfold frs at a;rw[tG,c] at a;show a
theorem ZH.stkFree(I:'c'):∀ b∈frs X.stack,H b=Y':=λb a=>by
 rcases zU.mp (I.stkSub b a) with e|a
 .rwa[e,I.free]
 .let#[_,o,c,_]:=I.ok.funs.mem a;show I.base.free b o c (I.ok.frf b a) λz=>I.ok.exfs b z a
theorem ZH.step{g':Array GenState}{t':Nat}{d':Drawn}{ch:jz}(I:'c')(h:∀ b∈ch,(b∈X.ex\/X.s₀.heap.objs.size<=b)/\b≠X.env.locals/\(∀ x c,X.env.cells.lookup x\c->c≠b)/\∀ p∈X.pn++jV,p.1≠b)(j:∀ b o,b≠X.env.locals->b∉X.fs->b∉ch->s.heap.get? b\o->H b=Y'->h'.get? b\o)(B:∀ b o,b≠X.env.locals->b∈X.fs->b∉ch->s.heap.get? b\o->H b=Y'->∃ S,h'.get? b\{ o with slots:=S })(f:∀ b o,b∉ch->s.heap.get? b\o->H b=Y'->H' b=Y')(E:∀ b o,b∉ch->s.heap.get? b\o->∃ M,h'.get? b\M)(O:∀ b C,H b\.tup C->H' b\.tup C)(J:∀ b o u,H b\.frz o u->H' b\.frz o u)(N:∀ b P,H b\.tbl P->∃ K,H' b\.tbl (P++K))(ns:∀ m,s.heap.Ns X.env.locals m->h'.Ns X.env.locals m)(R:'Ĳ')(hg:AllBare g'):
  ZH X jV σ H' { s with heap:=h',gens:=g',drawn:=d',toks:=t' }:=by
 let L:∀ b o,X.s₀.heap.get? b\o->b≠X.env.locals:=λb o e=>yK ':';let A:∀ b o,X.s₀.heap.get? b\o->b∉X.ex->b∉ch:=λb o e a D=>by
  rcases(h b D).1 with z|z
  .show a z
  .show gS (yC (zE e) z) (xW _)
 let g:∀ x c,X.env.cells.lookup x\c->∀ v,s.heap.IsCell c v->h'.IsCell c v:=λx c e v ⟨o,F,Q⟩=>by
  let t:c∉ch:=λz=>(h c z).2.2.1 x c e Z;by_cases U:c∈X.fs
  .let#[S,q]:=B c o (I.cne x c e) U t F 'Ď';show#[_,q,Q]
  .show#[o,j c o (I.cne x c e) U t F 'Ď',Q]
 show#[I.ok,I.os,hg,#[λb o e n D a=>?_,λb o e n D a=>?_,λb o e n a=>?_,λb o e a=>?_,λb C e=>O b C (I.base.tups b C e),λb o C e=>J b o C (I.base.frzs b o C e),λb P e=>?_],?_,λx c e=>?_,?_,λx c e=>?_,λp V=>?_,R,I.len]
 .show j b o (L b o e) D 'Ŷ' (I.base.keep b o e n D a) 'Ą'
 .let#[S,y]:=I.base.slot b o e n D a;let#[T,G]:=B b _ (L b o e) D 'Ŷ' y 'Ą';show#[T,G]
 .let#[M,y]:=I.base.there b o e a;show f b M 'Ŷ' y 'Ą'
 .let#[M,y]:=I.base.there b o e a;show E b M 'Ŷ' y
 .let#[m1,y]:=I.base.tbls b P e;let#[m2,G]:=N b _ y;show#[m1++m2,by rw[G,Array.append_assoc]]
 .let#[m,hn,hl]:=I.loc;exists m,ns m hn;intro i x v y G e3;let#[u,r,l]:=hl i x v y G e3;exists u,r;rcases l with l|⟨k,c,e,z⟩
  .show .inl l
  .show .inr #[k,c,e,g x c e _ z]
 .let#[v,z]:=I.cell x c e;show#[v,g x c e v z]
 .let#[m,#[o,_,_,F,_],_]:=I.loc;show f _ o (λz=>(h _ z).2.1 Z) F I.free
 .let#[v,o,F,Q]:=I.cell x c e;show f c o (λz=>(h c z).2.2.1 x c e Z) F 'Ď'
 .let#[e,n,W,Y,d]:=I.pin p V;let t:p.1∉ch:=λz=>(h p.1 z).2.2.2 p V Z;show#[j p.1 p.2 W Y t e n,f p.1 p.2 t e n,W,Y,d]
theorem ZH.un(I:'c')(u:Un X.fs [] H H' s.heap h')(g:'Ĳ'):ZH X jV σ H' { s with heap:=h',toks:=t' }:=by
 let#[m,#[o,p,l,h,r],_]:=id I.loc;let#[v,i]:=u.any h I.free ⋯
 show I.step (g':=s.gens) (d':=s.drawn) (ch:=[]) (λ_ z=>nomatch z) (λb o _ f _ e n=>u.keep b o e n f ⋯) (λb o _ f _ e n=>u.slot b o e n f ⋯) (λb o _ e n=>u.free b o e n ⋯) (λb o _ e=>u.there b o e ⋯) u.tups u.frzs u.tbls (λq j=>by
  let#[t,d,c,a,k]:=j;erw[h] at a;show#[_,d,c,i,k]) g I.bare
theorem ZH.call{g':Array GenState}{t':Nat}{d':Drawn}{ch:jz}(I:'c')(u:Un (frs X.stack) ch H H' s.heap h')(j:'Ĳ')(q:AllBare g')(d:∀ b∈ch,(b∈X.ex\/X.s₀.heap.objs.size<=b)/\b≠X.env.locals/\(∀ x c,X.env.cells.lookup x\c->c≠b)/\∀ p∈X.pn++jV,p.1≠b):
  ZH X jV σ H' { s with heap:=h',gens:=g',drawn:=d',toks:=t' }:=by
 let#[m,#[o,A,y,k,r],_]:=id I.loc;let#[D,i]:=u.any k I.free λz=>(d _ z).2.1 Z;show I.step (ch:=ch) d (λb o i l a e n=>u.keep b o e n (λz=>(zU.mp (I.stkSub b z)).elim i l) a) (λb o _ _ a e n=>u.any e n a) (λb o a e n=>u.free b o e n a) (λb o a e=>u.there b o e a) u.tups u.frzs u.tbls (λB t=>by
  let#[C,h,g,f,v]:=t;erw[k] at f;show#[_,h,g,i,v]) j q
theorem ZH.turned{t':Nat}{it:aj}(I:'c')(k:∀ b o,b≠it->s.heap.get? b\o->h'.get? b\o)(y:H it=Y')(f:it≠X.env.locals)(i:it∈X.ex\/X.s₀.heap.objs.size<=it)(j:∀ x c,X.env.cells.lookup x\c->c≠it)(l:∀ p∈X.pn++jV,p.1≠it):ZH X jV σ H { s with heap:=h',toks:=t' }:=by
 let d:∀ b u,H b\u->b≠it:=λb u e z=>by erw[z,y] at e
 show I.step (g':=s.gens) (d':=s.drawn) (ch:=[it]) (λb t=>?_) (λb o _ _ a e _=>k b o (λz=>a (by simp[z])) e) (λb o _ _ a e _=>#[o.slots,k b o (λz=>a (by simp[z])) e]) (λ_ _ _ _ n=>n)
  (λb o a e=>#[o,k b o (λz=>a (by simp[z])) e]) (λ_ _ e=>e) (λ_ _ _ e=>e) (λb B e=>#[⇑[],by rw[e];simp]) (λm w=>?_) (λb u e=>?_) I.bare
 .let e:b=it:=#v[t]
  subst e;show#[i,f,j,l]
 .let#[o,h,g,A,r]:=w;show#[o,h,g,k _ o (Ne.symm f) A,r]
 .show(I.hok b u e).stay (λc v a q=>k c v ?_ q) (λ_ q=>q) λ_ _ q=>q;rcases a with z|z
  .rwa[z,d b u e]
  .show d c _ z
theorem ZH.tok(I:'c')(t):ZH X jV σ H { s with toks:=t }:=I.un (h':=s.heap) (t':=t) Un.refl I.hok
theorem ZH.kept(I:'c')(k:∀ b u,s.heap.get? b\u->h'.get? b\u):ZH X jV σ H { s with heap:=h',toks:=t' }:=I.un (Un.kept k) (I.hok.kept k)
theorem ZH.laid{a:aj}{o:HO}{t':Nat}(I:'c')(k:∀ b u,s.heap.get? b\u->h'.get? b\u)(c:‹s›<=a)(d:Zk X.prog X.w 'ñ' h' a o):
  ZH X jV σ 'ñ' { s with heap:=h',toks:=t' }:=I.un (Un.laid k c (I.hok.fresh c)) (I.hok.laid k c d)
theorem ZH.write{x e:aj}{o:HO}{g:Nat}(I:'c')(f:MU (H x))(d:e=x\/H e\.own x)(k:∀ b u,b≠e->s.heap.get? b\u->h'.get? b\u)(a:∃ u,h'.get? e\u)(c:Zk X.prog X.w (upd H x o) h' x o):ZH X jV σ (upd H x o) { s with heap:=h',toks:=g }:=I.un (Un.write f d k a) (I.hok.write f d k a c)
theorem ZH.pins_of(I:'c')(h:∀ p∈a,s.heap.get? p.1\p.2/\H p.1=Y'/\p.1≠X.env.locals/\p.1∉X.fs/\∀ v,p.2.data≠.cell v):ZH X a σ H s:=
 #[I.ok,I.os,I.bare,I.base,I.loc,I.cell,I.free,I.freeC,λp b=>(zM.mp b).elim (λz=>I.pin p (zL _ z)) (h p),I.hok,I.len]
theorem BP{N:jn}(e:N.Nodup){i j:Nat}(a:N[i]?\x)(b:N[j]?\x):i=j:=by
 let#[f,c]:=yW.mp a;let#[g,d]:=yW.mp b;show(List.getElem_inj e).mp (c|||d.symm)
theorem E9{M:Model}{A:ax}{E:ja}{i:Nat}{x:Str}{v:V}{u:ai}{Q:Unit->ak->Prop}(I:'c')(hN:X.N.Nodup)(T:X.N[i]?\x)(B:'ã')(r:ZT v u)(h:∀ s',ZH X jV 'Ī' H s'->(∃ a,xN a s.heap s'.heap/\(a=X.env.locals\/X.env.cells.lookup x\a))->Q .unit s')(hf:X.fn x=V'\/X.env.scope.names.lookup x\.local:=by first|show .inl rfl|show .inr rfl|assumption):aB M A (storeName X.env x u) Q E s:=by
 let#[m,hn,hl]:=id I.loc;let S:(X.env.scope.kind==.class||(X.env.scope.kind==.module&&X.env.locals != X.env.globals))=false:=by rw[I.ok.kind];rfl
 let F:i<↑σ:=#v[I.len,(yW.mp T).1]
 let J:=I.cne;let l:∀{a:aj}{h':aD},(∃ o,s.heap.get? a\o/\H a=Y')->xN a s.heap h'->XJ X.prog X.w H h':=fun{a h'} ha f b ob e=>by
  let#[_,_,C]:=ha;show(I.hok b ob e).stay (λc w' t q=>(f.2 c ?_)|||q) (λ_ q=>q) λ_ _ q=>q;rintro rfl;rcases t with rfl|t
  .erw[C] at e
  .erw[C] at t
 rcases B with G|G
 .show wpAny_storeName_local G hn (λh' a0 f=>?_) S;let#[oL,_,_,a1,_]:=id hn;show h _ #[I.ok,I.os,I.bare,#[λb o e n K B=>?_,λb o e n K B=>?_,I.base.free,λb o e B=>?_,I.base.tups,I.base.frzs,I.base.tbls],#[_,a0,λj y v' g D e3=>?_],λy c e=>?_,I.free,I.freeC,λp hp=>?_,l #[oL,a1,I.free] f,#v[I.len]] #[_,f,.inl Z]
  .show(f.2 b (yK ':')).trans (I.base.keep b o e n K B)
  .let#[sl,g]:=I.base.slot b o e n K B;show#[sl,(f.2 b (yK ':'))|||g]
  .let#[o',g]:=I.base.there b o e B;show#[o',(f.2 b (yK ':'))|||g]
  .by_cases O:j=i
   .subst O;erw[T] at g;erw[rE F] at D;show#[u,r,.inl #[G,by simp]]
   .rw[rJ (Ne.symm O)] at D;let#[u',r',q]:=hl j y v' g D e3;exists u',r';rcases q with ⟨k,e⟩|⟨k,c,e,z⟩
    .show .inl #[k,?_];have:y≠x:=λe=>O (BP hN g (e▸T));simp[this,e]
    .show .inr #[k,c,e,z.sameBut f (J y c e)]
  .let#[w',z]:=I.cell y c e;show#[w',z.sameBut f (J y c e)]
  .let#[e,n,ne,nf,d]:=I.pin p hp;show#[(f.2 p.1 ne)|||e,n,ne,nf,d]
 .let L:X.fn x=V':=by
   rcases hf with z|z
   .show z
   .erw[z] at G
  let#[c,t]:=I.ok.has x (.inl G);let#[w',z]:=I.cell x c t;show wpAny_storeName_cell I.ok.kind G t z (λh' P f=>?_);let#[oc,U,W]:=id z;show h { s with heap:=h' } #[I.ok,I.os,I.bare,#[λb o e n K B=>?_,λb o e n K B=>?_,I.base.free,λb o e B=>?_,I.base.tups,I.base.frzs,I.base.tbls],#[m,hn.sameBut f (Ne.symm (J x c t)),λj y v' g D e3=>?_],λy Y e=>?_,I.free,I.freeC,λp hp=>?_,l #[oc,U,I.freeC x c t] f,#v[I.len]] #[c,f,.inr t]
  .show(f.2 b '!').trans (I.base.keep b o e n K B)
  .let#[sl,g]:=I.base.slot b o e n K B;show#[sl,(f.2 b '!')|||g]
  .let#[o',g]:=I.base.there b o e B;show#[o',(f.2 b '!')|||g]
  .by_cases O:j=i
   .subst O;erw[T] at g;erw[rE F] at D;show#[u,r,.inr #[.inl G,c,t,P]]
   .rw[rJ (Ne.symm O)] at D;let#[u',r',q]:=hl j y v' g D e3;exists u',r';rcases q with q|⟨k,Y,e,z'⟩
    .show .inl q
    .show .inr #[k,Y,e,z'.sameBut f ?_];rintro rfl;show O (BP hN g (I.ok.inj _ _ _ e t▸T))
  .by_cases R:Y=c
   .subst R;show#[_,P]
   .let#[w2,z2]:=I.cell y Y e;show#[w2,z2.sameBut f R]
  .let#[e,n,ne,nf,d]:=I.pin p hp;show#[(f.2 p.1 ?_)|||e,n,ne,nf,d];intro q;rw[q,U] at e;let q':oc=p.2:=yV.inj e;show d w' (by rwa[<-q',W])
theorem Ia{E:ja}(I:'c')(c:X.N.Nodup)(e:X.N[i]?\x)(f:'ã')(r:ZT v u)(h:∀ a,ZH X jV 'Ī' H a->Q .unit a)(d:X.fn x=V'\/X.env.scope.names.lookup x\.local:=by first|show .inl rfl|show .inr rfl|assumption):aB M A (storeName X.env x u) Q E s:=
 E9 I c e f r (λa b _=>h a b) d
theorem ZH.call'{s':ak}{ch:jz}(I:'c')(i:s'.os=s.os)(u:Un (frs X.stack) ch H H' s.heap s'.heap)(d:XJ X.prog X.w H' s'.heap)(h:AllBare s'.gens)(a:∀ b∈ch,(b∈X.ex\/X.s₀.heap.objs.size<=b)/\b≠X.env.locals/\(∀ x c,X.env.cells.lookup x\c->c≠b)/\∀ p∈X.pn++jV,p.1≠b):ZH X jV σ H' s':=by
 let#[h',g,f,k,j]:=s';let e:j=s.os:=i;subst e;show I.call (g':=g) (t':=k) (d':=f) u d h a
end
abbrev XK:=ai->ju->Hp->Prop
abbrev St:=List (jf)
abbrev VK:=V->Hp->Prop
abbrev TE:=St->Hp->VK->Prop
abbrev jH:=List (TE×TE)
abbrev TT:=St->Hp->(Bool->Hp->Prop)->Prop
abbrev TA:=St->Hp->(je->Hp->Prop)->Prop
structure YK where
 nx:St->Hp->Prop
 rt:VK
 bk:St->Hp->Prop:=λ_ _=>False
 ct:St->Hp->Prop:=λ_ _=>False
abbrev TS:=YK->St->Hp->Prop
def EP(X:Cx)(a:jo)(d:St)(Q:VK)(u:ai)(c:ak):=∃ v b,ZH X a d b c/\ZT v u/\Q v b
def TP(X:Cx)(a:jo)(e:St)(Q:Bool->Hp->Prop)(b:Bool)(d:ak):=∃ c,ZH X a e c d/\Q b c
def AP(X:Cx)(a:jo)(f:St)(Q:je->Hp->Prop)(e:jd)(d:ak):=∃ c b,ZH X a f b d/\ZS c e/\Q c b
def SP(X:Cx)(b:jo)(D:YK)(f:Flow)(d:ak):Prop:=
 match f with
 |.next=>∃ a c,ZH X b a c d/\D.nx a c
 |.brk=>∃ a c,ZH X b a c d/\D.bk a c
 |.cont=>∃ a c,ZH X b a c d/\D.ct a c
 |.ret u=>∃ v a c,ZH X b a c d/\ZT v u/\D.rt v c
def PE(X:Cx)(e:Expr)(t:TE):Prop:=
 ∀(a:jo)(s:ak)(b:St)(H:Hp)(Q:VK),ZH X a b H s->t b H Q->aB ↥X X.A 'ń' 'Ğ' X.xe s
def PT(X:Cx)(e:Expr)(t:TT):Prop:=
 ∀(a:jo)(s:ak)(b:St)(H:Hp)(Q:Bool->Hp->Prop),ZH X a b H s->t b H Q->aB ↥X X.A (isTrue e X.env 'ń') (TP X a b Q) X.xe s
def PW(X:Cx)(e:Expr)(t:TT):Prop:=
 ∀(b:Sem ai)(a:jo)(s:ak)(c:St)(H:Hp)(Q:Bool->Hp->Prop),ZH X a c H s->t c H Q->aB ↥X X.A (isTrue e X.env b) (TP X a c Q) X.xe s
theorem PW.pt(h:PW X e t):PT X e t:=h _
def PA(X:Cx)(c:jv)(t:TA):Prop:=
 ∀(pos:Pos)(a:jo)(s:ak)(b:St)(H:Hp)(Q:je->Hp->Prop),ZH X a b H s->t b H Q->aB ↥X X.A (spliced (aF pos (ar c X.env))) (AP X a b Q) X.xe s
def PS(X:Cx)(c:aC)(t:TS):Prop:=
 ∀(a:jo)(s:ak)(b:St)(H:Hp)(D:YK),ZH X a b H s->t D b H->aB ↥X X.A (exec c X.env) (SP X a D) X.xe s
def WG(X:Cx)(c:jC)(t:TS):Prop:=
 ∀(a:jo)(s:ak)(b:St)(H:Hp)(D:YK),ZH X a b H s->t D b H->aB ↥X X.A (execs c X.env) (SP X a D) X.xe s
theorem Z7{E:ja}(h:aB M A t Q E s)(d:∀ a s,Q a s->b a s):aB M A t b E s:=af h d λ_ _ x=>x
theorem YG{d g i:Type}{t:Sem d}{a b c:d->ak->g->i->Prop}{e:d->ak->Prop}{E:ja}(h:aB M A t (λv s=>∃ x H,a v s x H/\b v s x H/\c v s x H) E s)(f:∀ v s x H,a v s x H->b v s x H->c v s x H->e v s):aB M A t e E s:=Z7 h (by rintro v s ⟨x,H,p,q,r⟩;show f v s x H p q r)
variable{X:Cx}
section
inductive QX(i:Nat)(a:_T.St)(H:Hp)(Q:VK):Prop
 |mk(v:_)(_:a[i]?\Z' v)(_:Q v H)
def tC(v:V):TE:=λ_ H Q=>Q v H
theorem vz{pos:Pos}(n:X.N[i]?\x)(t:Kj X.env.scope x)(j:(x==("__debug__":Str))=false:=by decide)(g:(x==("__classdict__":Str))=false:=by decide):PE X 'Z' (QX i):=by
 intro f s w H Q I h;let#[v,e,h]:=h;let#[m,q,o]:=I.loc;let#[u,r,l]:=o i x v n e t;let b:EP X f w Q u s:=#[v,H,I,r,h];rcases l with ⟨d,p⟩|⟨d,c,k,a⟩
 .show wpAny_Name (wpAny_loadName_local I.ok.kind d q p b) j
 .rcases d with d|d
  .show wpAny_Name (wpAny_loadName_cell I.ok.kind d k a b) j
  .show wpAny_Name (wpAny_loadName_free I.ok.kind d k a b g) j
theorem ZM:PE X (.Constant (-i) j pos) (tC (-i)):=λ_ _ _ H _ I h=>wpAny_Constant_int #[-i,H,I.tok _,#[1],h]
theorem OI:PE X (.Constant (.bool b) j pos) (tC (.bl b)):=λ_ _ _ H _ I h=>Constant_bool #[.bl b,H,I,Z,h]
theorem OF:PE X (.Constant .none j pos) (tC .non):=λ_ _ _ H _ I h=>Constant_none #[.non,H,I,Z,h]
theorem Q5:PE X (.Constant (.str x) j pos) (tC (.str x)):=λ_ _ _ H _ I h=>Calls.Constant_str #[.str x,H,I.tok _,#[1],h]
def Gl(X:Cx)(x:Str):Prop:=X.env.kindOf x\.globalImplicit
theorem MH{E:ja}{e:St}{Q:ja}(I:ZH X a e H s)(c:Gl X x)(d:X.mg x\u)(h:Q u s)(b:(x==("__debug__":Str))=false:=by decide):aB ↥X X.A (aG 'Z' X.env) Q E s:=
 Calls.Name_function_global I.ok.kind c (Calls.loadGlobal_global #v[I.ok.glob,I.mod.glob.keeps I.bk] d h) b
theorem Nc{E:ja}{j:St}{pos:Pos}{Q:ja}(I:ZH X a j H s)(e:Gl X x)(f:X.mg x=Y')(i:ay x\u)(h:Q u s)(g:x≠"__name__" :=by decide)(d:(x==("__debug__":Str))=false:=by decide):aB ↥X X.A (aG 'Z' X.env) Q E s:=by
 let#[k,b,c]:=I.mod.blt;show Calls.Name_function_global I.ok.kind e (Calls.loadGlobal_builtin #v[I.ok.glob,I.mod.glob.keeps I.bk] f #v[I.ok.blt,b.keeps I.bk] ((c x g)|||i) h) d
theorem Xp{x:Str}{v:V}{u:ai}{pos:Pos}(b:Gl X x)(c:X.mg x\u)(r:ZT v u)(a:(x==("__debug__":Str))=false:=by decide):PE X 'Z' (tC v):=
 λ_ _ _ H _ I h=>MH I b c #[v,H,I,r,h] a
theorem QH{x:Str}{v:V}{u:ai}{pos:Pos}(b:Gl X x)(c:X.mg x=Y')(e:ay x\u)(r:ZT v u)(d:x≠"__name__" :=by decide)(a:(x==("__debug__":Str))=false:=by decide):PE X 'Z' (tC v):=
 λ_ _ _ H _ I h=>Nc I b c e #[v,H,I,r,h] d a
variable{a b:Expr}{ta tb:TE}{pos:Pos}
def PC(X:Cx)(g:CmpOp)(a b:Expr)(t:TE):Prop:=
 ∀(c:jo)(s:ak)(f:St)(H:Hp)(Q:VK),ZH X c f H s->t f H Q ->
  aB ↥X X.A (aG a X.env) (λv d=>aB ↥X X.A (aG b X.env) (λu e=>aB ↥X X.A (az g v u) (EP X c f Q) X.xe e) X.xe d) X.xe s
theorem qw(b)(h:c≠.In)(f:c≠.NotIn):behindInMarks c b=false:=by
 let d:∀ k l:Bool,(k&&(c==CmpOp.In||c==CmpOp.NotIn)&&l)=false:=λk l=>by cases c<;>first|show gS rfl h|show gS rfl f|(cases k<;>rfl)
 cases b<;>first|rfl|show d _ _
def RZ(ta:TE):TE:=λd H Q=>ta d H λx c=>Q (.bl (gU (x=.non))) c
def zu(ta:TE):TE:=λd H Q=>ta d H λx c=>Q (.bl (!gU (x=.non))) c
theorem ZT.none_iff(r:ZT x v):(v==Value.none)=gU (x=.non):=by
 cases x with
 |non=>cases r;rfl
 |bl _=>cases r;rfl
 |int _=>let#[t,rfl]:=r;rfl
 |str _=>let#[t,rfl]:=r;rfl
 |byt _=>let#[t,rfl]:=r;rfl
 |flt _=>let#[t,rfl]:=r;rfl
 |ref _=>cases r;rfl
 |ty _=>cases r;rfl
theorem M4(g:PE X a ta):PC X .Is a (.Constant .none j d) (RZ ta):=by
 intro c s l H Q I h;show YG (g c s l H _ I h) λv m x e f k i=>?_;show Constant_none (is_none_gen #[.bl _,e,f,by rw[k.none_iff];rfl,i])
theorem ME(g:PE X a ta):PC X .IsNot a (.Constant .none j d) (zu ta):=by
 intro c s l H Q I h;show YG (g c s l H _ I h) λv m x e f k i=>?_;show Constant_none (isnot_none_gen #[.bl _,e,f,by rw[k.none_iff];rfl,i])
def tB(t:TE):TT:=λe H Q=>t e H λx d=>∃ c,x=.bl c/\Q c d
theorem Q0(h:PC X g a b t)(f:behindInMarks g b=false:=by first|show qw _ 'b' 'b'|rfl):PT X (.Compare a [g] [b] pos) (tB t):=by
 intro e s o H Q I l;show wpAny_isTrue_Compare1 (Z7 (h e s o H _ I l) λv p f=>Z7 f λu r k=>YG k λc w x i j n m=>?_) f;let#[d,rfl,q]:=m;cases n;show wpAny_truthy_bool #[i,j,q]
theorem Xk(h:PE X e t)(j:∀ c,isTrue e X.env c=(do let v<-c;standAt e.pos;holding [v] (truthy v)):=by intro _;rfl):PT X e (tB t):=by
 intro f s n H Q I k;show isTrue_plain (YG (h f s n H _ I k) λv o x g i m l=>?_) (j _);let#[d,rfl,q]:=l;cases m;show wpAny_truthy_bool #[g,i,q]
variable{tA tB':TT}{rest:jv}
def RD(t u:TT):TT:=λe H Q=>t e H λc d=>if c=V' then u e d Q else Q false d
def SA(t u:TT):TT:=λe H Q=>t e H λc d=>if c=V' then Q true d else u e d Q
def Sn(t:TT):TT:=λe H Q=>t e H λc d=>Q (not c) d
theorem KR(f:PT X a tA):PW X (.BoolOp .And [a] pos) tA:=by
 intro j d s g H Q I h;show isTrue_and (Z7 (f d s g H Q I h) λc i e=>?_)
 cases c with
 |true=>show isTrue_and_nil e
 |false=>show e
theorem Lg(f:PT X a tA):PW X (.BoolOp .Or [a] pos) tA:=by
 intro j d s g H Q I h;show isTrue_or (Z7 (f d s g H Q I h) λc i e=>?_)
 cases c with
 |false=>show isTrue_or_nil e
 |true=>show e
theorem Kd(j:PT X a tA)(k:PW X (.BoolOp .And (b::rest) pos) tB'):PW X (.BoolOp .And (a::b::rest) pos) (RD tA tB'):=by
 intro m d s i H Q I h;show isTrue_and (Z7 (j d s i H _ I h) ?_);rintro c l ⟨e,f,g⟩
 cases c with
 |true=>show k m d l i e Q f g
 |false=>show#[e,f,g]
theorem Kl(j:PT X a tA)(k:PW X (.BoolOp .Or (b::rest) pos) tB'):PW X (.BoolOp .Or (a::b::rest) pos) (SA tA tB'):=by
 intro m d s i H Q I h;show isTrue_or (Z7 (j d s i H _ I h) ?_);rintro c l ⟨e,f,g⟩
 cases c with
 |true=>show#[e,f,g]
 |false=>show k m d l i e Q f g
theorem OA(f:PT X a tA):PT X (.UnaryOp .Not a pos) (Sn tA):=by
 intro d s g H Q I h;show isTrue_not (f d s g H (λc e=>Q (not c) e) I h)
inductive Nm(tb:TE)(e:_T.St)(Q:VK)(x:V)(d:Hp):Prop
 |mk(c:_)(_:x=.bl c)(_:if c=V' then tb e d Q else Q 'ř' d)
def Rj(ta tb:TE):TE:=λc H Q=>ta c H λx d=>Nm tb c Q x d
inductive Nk(Q:VK)(x:V)(d:Hp):Prop
 |mk(c:_)(_:x=.bl c)(_:Q (.bl (not c)) d)
def Bx(ta:TE):TE:=λd H Q=>ta d H λx c=>Nk Q x c
theorem O2(h:PE X a t):PE X (.BoolOp e [a] pos) t:=λc s f H Q I d=>BoolOp_one (h c s f H Q I d)
theorem OH(j:PE X a ta)(k:PE X (.BoolOp .And (b::rest) pos) tb):PE X (.BoolOp .And (a::b::rest) pos) (Rj ta tb):=by
 intro d s i H Q I h;show BoolOp_and (YG (j d s i H _ I h) λv m x f g l e=>?_);let#[c,rfl,e]:=e;cases l;show wpAny_truthy_bool ?_
 cases c with
 |true=>show k d m i f Q g e
 |false=>show#[.bl false,f,g,Z,e]
theorem B'(i:PE X a ta):PE X (.UnaryOp .Not a pos) (Bx ta):=by
 intro d s k H Q I h;show UnaryOp_ (YG (i d s k H _ I h) λv l x f g j e=>?_);let#[c,rfl,e]:=e;cases j;show not_of (wpAny_truthy_bool #[.bl (not c),f,g,Z,e])
def Sz(t:TT)(ta tb:TE):TE:=λd H Q=>t d H λc e=>if c=V' then ta d e Q else tb d e Q
theorem Mw(n:PT X c tA)(l:PE X a ta)(m:PE X b tb):PE X (.IfExp c a b pos) (Sz tA ta tb):=by
 intro e s f H Q I h;show wpAny_IfExp (Z7 (n e s f H _ I h) ?_);rintro d k ⟨g,i,j⟩
 cases d with
 |true=>show l e k f g Q i j
 |false=>show m e k f g Q i j
end
def ZF(K:zZ)(H:Hp)(a:aj)(c:je):Prop:=
 hX H a (.lst c) \/
  ∃(o:aH)(b:js)(n:Nat),K.lookup a\o/\o.cls=.type "list"/\o.dict=Y'/\o.data=.seq b n/\b.size<=aq/\ZS c b.toList
def Zp(K:zZ)(H:Hp)(a:aj)(c:je):Prop:=
 hX H a (.tup c) \/
  ∃(o:aH)(b:js)(n:Nat),K.lookup a\o/\o.cls=.type "tuple"/\o.data=.seq b n/\b.size<=aq/\ZS c b.toList
def RY:ai->jf
 |.none=>Z' .non
 |.bool b=>Z' (.bl b)
 |.int i _=>Z' (-i)
 |.str x _=>Z' (.str x)
 |.bytes b _=>Z' (.byt b)
 |.float b _=>Z' (.flt b)
 |.ref a=>Z' !a
 |.type n=>Z' (.ty n)
 |_=>Y'
theorem ZT.abs(r:ZT x u):RY u\x:=by
 cases x with
 |non=>cases r;rfl
 |bl _=>cases r;rfl
 |int _=>let#[t,rfl]:=r;rfl
 |str _=>let#[t,rfl]:=r;rfl
 |byt _=>let#[t,rfl]:=r;rfl
 |flt _=>let#[t,rfl]:=r;rfl
 |ref _=>cases r;rfl
 |ty _=>cases r;rfl
theorem ZT.inj(r:ZT x u)(q:ZT y u):x=y:=yV.inj (r.abs.symm|||q.abs)
theorem ZS.inj:∀{c a:je}{b:jd},ZS c b->ZS a b->c=a:=by intro _ a _ h g;induction h generalizing a with
 |nil=>cases g;rfl
 |cons r _ d=>cases g with
  |cons e f=>rw[r.inj e,d f]
section
variable{jV:jo}{σ:St}{H:Hp}{s:ak}{a:aj}{xs ys:je}
theorem ZF.of{K:zZ}(h:H a\.lst xs):ZF K H a xs:=.inl (.inl h)
theorem Zp.of{K:zZ}(h:H a\.tup xs):Zp K H a xs:=.inl (.inl h)
theorem ZH.list(I:'c')(h:ZF X.K H a xs):∃ b:jd,ZS xs b/\PlainL s.heap a ⇑b/\↑xs<=sizeLine:=by
 rcases h with h|⟨o,b,n,f,c,d,g,i,r⟩
 .let#[z,b,n,r,e]:=h.ok I.hok;show#[b,r,#[_,n,e,Z,Z,Z],z]
 .exists b.toList,r,#[o,n,I.kIn a o f,c,d,#v[g]]
  let e:=↑r;simp only[uW] at e
  lia
theorem ZH.tuple(I:'c')(h:Zp X.K H a xs):∃ b,ZS xs b/\IsTup s.heap a ⇑b/\↑xs<=sizeLine:=by
 rcases h with h|⟨o,b,n,d,c,f,g,r⟩
 .let#[z,b,r,p]:=h.ok I.hok;show#[b,r,p,z]
 .exists b.toList,r,#[o,I.kIn a o d,c,n,#v[f]]
  let e:=↑r;simp only[uW] at e
  lia
theorem ZH.list_inj(I:'c')(h:ZF X.K H a xs)(i:ZF X.K H a ys):xs=ys:=by
 let#[c,r,#[o,n,e,_,_,d],_]:=I.list h;let#[b,j,#[l,k,g,_,_,f],_]:=I.list i;erw[e] at g;rw[d] at f;injection f with d1 _;have:c=b:=by simpa using congrArg gQ d1
 subst this;show r.inj j
theorem ZH.tuple_inj(I:'c')(h:Zp X.K H a xs)(i:Zp X.K H a ys):xs=ys:=by
 let#[c,r,#[o,e,_,n,d],_]:=I.tuple h;let#[b,j,#[l,g,_,k,f],_]:=I.tuple i;erw[e] at g;rw[d] at f;injection f with d1 _;have:c=b:=by simpa using congrArg gQ d1
 subst this;show r.inj j
end
abbrev Cx.wish(X:Cx)(E:ja):Cx:={ X with xe:=E }
abbrev Cx.nox(X:Cx):Cx:=X.wish λ_ _=>False
theorem Cx.Ok.wish(a:X.Ok)(E):(X.wish E).Ok:=
 #[a.mod,a.kind,a.glob,a.blt,a.above,a.inj,a.has,a.cab,a.hd,a.frames,a.stk,a.exf,a.bs,a.bsz,a.noex,a.exfs,a.funs,a.frf]
theorem Cx.Ok.unwish(a:(X.wish E).Ok):X.Ok:=
 #[a.mod,a.kind,a.glob,a.blt,a.above,a.inj,a.has,a.cab,a.hd,a.frames,a.stk,a.exf,a.bs,a.bsz,a.noex,a.exfs,a.funs,a.frf]
section
variable{jV:jo}{σ:St}{H:Hp}{s:ak}{E:ja}
theorem ZH.wish(I:'c')(E):ZH (X.wish E) jV σ H s:=#[I.ok.wish E,I.os,I.bare,I.base,I.loc,I.cell,I.free,I.freeC,I.pin,I.hok,I.len]
theorem ZH.unwish(I:ZH (X.wish E) jV σ H s):ZH X jV σ H s:=#[I.ok.unwish,I.os,I.bare,I.base,I.loc,I.cell,I.free,I.freeC,I.pin,I.hok,I.len]
theorem SP.unwish(h:SP (X.wish E) jV D f c):SP X jV D f c:=by
 cases f with
 |next=>let#[a,b,I,q]:=h;show#[a,b,I.unwish,q]
 |brk=>let#[a,b,I,q]:=h;show#[a,b,I.unwish,q]
 |cont=>let#[a,b,I,q]:=h;show#[a,b,I.unwish,q]
 |ret u=>let#[v,a,b,I,r,q]:=h;show#[v,a,b,I.unwish,r,q]
theorem WG.nox(h:WG X.nox a t):WG X a t:=λjV s σ H D I b=>
 af (h jV s σ H D (I.wish _) b) (λ_ _ q=>q.unwish) λ_ _ z=>False.elim z
end
section
variable{st:aC}{rest:jC}{t u:TS}{e:Expr}{te:TE}{pos:Pos}
def Ro:TS:=λD a H=>D.nx a H
def Sj(t u:TS):TS:=λD a H=>t { D with nx:=u D } a H
theorem Z6:WG X [] Ro:=λ_ _ a H _ I h=>wpAny_execs_nil #[a,H,I,h]
theorem ZK(g:PS X st t)(i:WG X rest u):WG X (st::rest) (Sj t u):=by
 intro a s k H D I h;show wpAny_execs_cons (Z7 (g a s k H { D with nx:=u D } I h) λf j q=>?_)
 cases f with
 |next=>
  let#[b,c,d,q]:=q;show i a j b c D d q
 |ret v=>show q
 |brk=>show q
 |cont=>show q
theorem ZR(b:PS X st t):WG X [st] t:=by
 intro a s c H D I h;show wpAny_execs_cons (Z7 (b a s c H D I h) λf d q=>?_)
 cases f with
 |next=>show wpAny_execs_nil q
 |ret v=>show q
 |brk=>show q
 |cont=>show q
theorem ZH.quiet{b:St}(I:ZH X a b H s):interactive X.env=false:=by simp[interactive,I.ok.kind]
def Rn(te:TE):TS:=λD a H=>te a H λ_ b=>D.nx a b
theorem YF(f:PE X e te)(g:swapsWith e Y' pos.line X.env=pure false:=by rfl):PS X (.Expr e pos) (Rn te):=by
 intro a s b H D I h;show wpAny_Expr_any (YG (f a s b H _ I h) λv k x c d j i=>#[b,c,d,i]) I.quiet g
def Ax(te:TE):TS:=λD a H=>te a H D.rt
theorem Zh(f:PE X e te):PS X (.Return (Z' e) pos) (Ax te):=by
 intro a s b H D I h;show wpAny_Return_some (YG (f a s b H _ I h) λv j x c d i g=>#[x,b,c,d,i,g])
def RL:TS:=λD _ H=>D.rt .non H
theorem wv:PS X (.Return Y' pos) RL:=λ_ _ a H _ I h=>wpAny_Return_none #[.non,a,H,I,Z,h]
def Su(c:TT)(t u:TS):TS:=λD a H=>c a H λb d=>if b=V' then t D a d else u D a d
theorem Z4(p:PT X c m)(n:WG X a t)(o:WG X b u):PS X (.If c a b pos) (Su m t u):=by
 intro f s g H D I h;show wpAny_If (Z7 (p f s g H _ I h) ?_);rintro d l ⟨i,j,k⟩
 cases d with
 |true=>show n f l g i D j k
 |false=>show o f l g i D j k
def Ao:TS:=λ_ _ _=>False
theorem U4:WG X a Ao:=λ_ _ _ _ _ _ h=>h.elim
end
abbrev hW:=V->St->Hp->(St->Hp->Prop)->Prop
abbrev MO:=je->St->Hp->(St->Hp->Prop)->Prop
def PG(X:Cx)(a:Expr)(t:hW):Prop:=
 ∀(b:jo)(s:ak)(e:St)(H:Hp)(v:V)(u:ai)(Q:St->Hp->Prop),ZH X b e H s->ZT v u->t v e H Q ->
  aB ↥X X.A (assign a X.env u) (λ_ f=>∃ c d,ZH X b c d f/\Q c d) X.xe s
def Kn(X:Cx)(h:jv)(t:MO):Prop:=
 ∀(a:jo)(s:ak)(f:St)(H:Hp)(e:je)(d:jd)(Q:St->Hp->Prop),ZH X a f H s->ZS e d->t e f H Q ->
  aB ↥X X.A (assignInOrder ((assignEach h X.env).map (·.2)) d) (λ_ g=>∃ b c,ZH X a b c g/\Q b c) X.xe s
abbrev IB:=V->V->V->Hp->(Hp->Prop)->Prop
noncomputable def C8(X:Cx)(t:IB):Prop:=
 ∀(a:jo)(s:ak)(e:St)(H:Hp)(o i v:V)(d c u:ai)(Q:Hp->Prop),ZH X a e H s->ZT o d->ZT i c->ZT v u->t o i v H Q ->
  aB ↥X X.A (setItem d c u) (λ_ f=>∃ b,ZH X a e b f/\Q b) X.xe s
abbrev JJ:=V->V->Hp->VK->Prop
def kc(X:Cx)(c:Operator)(t:JJ):Prop:=
 ∀(a:jo)(s:ak)(b:St)(H:Hp)(x y:V)(v u:ai)(Q:VK),ZH X a b H s->ZT x v->ZT y u->t x y H Q ->
  aB ↥X X.A (inplaceOp c v u) 'Ğ' X.xe s
section
variable{pos:Pos}
def NC(i:Nat):hW:=λv a H Q=>Q (a.set i (Z' v)) H
theorem JP{i:Nat}{x:Str}(c:X.N.Nodup)(e:X.N[i]?\x)(f:'ã')(d:X.fn x=V'\/X.env.scope.names.lookup x\.local:=by first|show .inl rfl|show .inr rfl|assumption):PG X 'Z' (NC i):=by
 intro a s j H v u Q I r h;show wpAny_assign_Name (Ia I c e f r (λg b=>#[_,H,b,h]) d)
theorem VG(i)(a:X.N.Nodup)(c:X.N[i]?\x:=by rfl)(d:Nr X.env.scope x:=by show Or.inl Z)(b:X.fn x=V'\/X.env.scope.names.lookup x\.local:=by first|show .inl rfl|show .inr rfl|assumption):PG X 'Z' (NC i):=JP a c d b
def Sh:MO:=λa b H Q=>a=[]/\Q b H
inductive Mo(t:hW)(u:MO)(c:je)(d:_T.St)(H:Hp)(Q:_T.St->Hp->Prop):Prop
 |mk(v r:_)(_:c=v::r)(_:t v d H λa b=>u r a b Q)
theorem uk:Kn X [] Sh:=by
 intro a s b H d c Q I r h;let#[e,h]:=h;subst e;cases r;show assignInOrder_nil #[b,H,I,h]
theorem Ed(i:PG X e t)(j:Kn X b u)(k:(assignEach (e::b) X.env).map (·.2)=assign e X.env::(assignEach b X.env).map (·.2):=by rfl):Kn X (e::b) (Mo t u):=by
 intro a s o H w p Q I r h;let#[v,q,g,h]:=h;subst g
 cases r with
 |cons r m=>
  rw[k];show assignInOrder_cons (Z7 (i a s o H _ _ _ I r h) ?_);rintro _ n ⟨c,d,f,l⟩;show j a n c d _ _ Q f m l
inductive HQ(K:zZ)(n:Nat)(t:MO)(v:V)(c:_T.St)(H:Hp)(Q:_T.St->Hp->Prop):Prop
 |mk(a b:_)(_:v=!a)(_:Zp K H a b)(_:↑b=n)(_:t b c H Q)
theorem wc{k:Nat}(q:X.calm=V')(h:Kn X d t)(x:↑(assignEach d X.env)=n:=by rfl)(f:(assignEach d X.env).findIdx? (·.1)=Y':=by rfl):PG X (.Tuple d k pos) (HQ X.K n t):=by
 intro c s j H v u Q I r g;let#[a,C,m,y,w,g]:=g;subst m;cases r;let#[B,i,z,D]:=I.tuple y;show assign_Tuple_tuple (I.ok.hd q) z (by simp[x,<-w,i.length]) f λp A=>?_
 let l:ZH X c j H { s with heap:=p }:=I.kept (t':=s.toks) λb o e=>A b o (yK (zE e)) e;show h c _ j H C _ Q l (by simpa using i) g
def Sr(f e:TE)(t:IB):hW:=λv a H Q=>f a H λo b=>e a b λi c=>t o i v c λd=>Q a d
theorem GK(w:PE X o f)(q:PE X i e)(z:C8 X t)(p:∀ v,assign '4' X.env v=(do
   let b<-holding [v] 'ċ'
   let c<-holding [v,b] (aG i X.env)
   standAt pos
   holding [v,b,c] (setItem b c v)
   release [v,b,c] []):=by intro _;rfl):PG X '4' (Sr f e t):=by
 intro a s d H v u Q I r h;rw[p];show aa (ag (YG (w a s d H _ I h) λb F x g l D A=>?_));show aa (ag (YG (q a F d g _ l A) λc G y j m E B=>?_));show aa (wpAny_standAt (aa (ag (Z7 (z a G d j x y v b c u _ m D E r B) ?_))));rintro _ J ⟨k,n,C⟩;show wpAny_release #[d,k,n,C]
def Ky(c:TE)(g:hW):TS:=λD a H=>c a H λx b=>g x a b D.nx
theorem Ko(k:PE X e c)(l:PG X b g)(m:swapsWithSole [b] e pos.line X.env=pure false:=by rfl)(n:swappedStores [b] e X.env=pure Y':=by rfl)(j:(assignEach [b] X.env).map (·.2)=[assign b X.env]:=by rfl):PS X (.Assign [b] e pos) (Ky c g):=by
 intro a s d H D I h;show wpAny_Assign_stores (YG (k a s d H _ I h) λv r x f i p o=>?_) m n;rwa[j,Z7 (l a r d f x v _ i p o) λ_ t q=>q]
theorem Na{i:Nat}{x:Str}{e:Expr}{c:TE}{a:Pos}(j:X.N.Nodup)(m:X.N[i]?\x)(o:'ã')(k:PE X e c)(n:swapsWith e (Z' (.Name x a)) pos.line X.env=pure false:=by rfl)(l:X.fn x=V'\/X.env.scope.names.lookup x\.local:=by first|show .inl rfl|show .inr rfl|assumption):
  PS X (.Assign [.Name x a] e pos) (Ky c (NC i)):=by
 intro b s r H D I h;show wpAny_Assign_Name (YG (k b s r H _ I h) λv t y d f q p=>?_) n;show Ia f j m o q (λu g=>#[_,d,g,p]) l
theorem Zf(i){a:Pos}(c:X.N.Nodup)(d:PE X e b)(g:X.N[i]?\x:=by rfl)(j:Nr X.env.scope x:=by show Or.inl Z)(h:swapsWith e (Z' (.Name x a)) pos.line X.env=pure false:=by rfl)(f:X.fn x=V'\/X.env.scope.names.lookup x\.local:=by first|show .inl rfl|show .inr rfl|assumption):
  PS X (.Assign [.Name x a] e pos) (Ky b (NC i)):=Na c g j d h f
inductive IF(i:Nat)(d:TE)(e:JJ)(D:YK)(a:_T.St)(H:Hp):Prop
 |mk(x:_)(_:a[i]?\Z' x)(_:d a H λy b=>e x y b λz c=>D.nx (a.set i (Z' z)) c)
theorem yi{i:Nat}{x:Str}{e:Expr}{B:TE}{o:Operator}{C:JJ}{f:Pos}(O:X.N.Nodup)(t:X.N[i]?\x)(n:'ã')(Q:PE X e B)(V:kc X o C)(R:X.fn x=V'\/X.env.scope.names.lookup x\.local:=by first|show .inl rfl|show .inr rfl|assumption):
  PS X (.AugAssign (.Name x f) o e pos) (IF i B C):=by
 intro a s E H D I h;let#[v,M,h]:=h;let#[m,U,S]:=I.loc;let p:Kj X.env.scope x:=by rcases n with k|k;show .inl k;show .inr (.inl k)
 let#[u,r,l]:=S i x v t M p;show wpAny_AugAssign_Name ?_;let q:aB ↥X X.A (aG e X.env) (λw g=>aB ↥X X.A (inplaceOp o u w) (λr j=>aB ↥X X.A (storeName X.env x r) (λ_=>SP X a D .next) X.xe j) X.xe g) X.xe s:=by
  show YG (Q a s E H _ I h) λw s1 y F J r1 W=>?_;show YG (V a s1 E F v y u w _ J r r1 W) λz s2 zv G K r2 Y=>?_;show Ia K O t n r2 (λs3 L=>#[_,G,L,Y]) R
 rcases l with ⟨b,T⟩|⟨b,c,P,d⟩
 .show wpAny_loadName_local I.ok.kind b U T q
 .rcases b with b|b
  .show wpAny_loadName_cell I.ok.kind b P d q
  .rcases n with k|k
   .have:X.env.scope.names.lookup x\.free:=b;erw[k] at this
   .have:X.env.scope.names.lookup x\.free:=b;erw[k] at this
inductive No(c:TT)(h:TS)(D:YK)(a:_T.St)(H:Hp):Prop
 |mk(W:Nat->St->Hp->Prop)(_:∃ m,W m a H)(_:∀ m a H,W m a H->c a H λb f=>if b=V' then ∃ N:St->Hp->Prop,(∀ d e,N d e->∃ g,g<m/\W g d e)/\h { D with nx:=N,ct:=N,bk:=D.nx } a f else D.nx a f)
theorem Oh(C:PassesOwn ↥X X.A X.env X.xe)(K:PT X c F)(J:WG X g E):PS X (.While c g [] pos) (No F E):=by
 intro a s S H D I h;let#[W,#[L,Q],j]:=h;show wpAny_While (codeAny_whileLoop (λn M=>∃ k u,ZH X a k u M/\W n k u) ?_ L #[S,H,I,Q]);rintro n O ⟨e,x,G,R⟩;show wpAny_passesOwn C (Z7 (K a O e x _ G (j n e x R)) ?_);rintro b P ⟨y,z,l⟩
 cases b with
 |true=>
  let#[N,B,l]:=l;rw[aM rfl];show wpAny_passesOwn C (Z7 (J a P e y _ z l) λf T m=>?_)
  cases f with
  |next=>
   let#[d,i,o,r]:=m;let#[q,p,t]:=B d i r;show#[q,p,d,i,o,t]
  |cont=>
   let#[d,i,o,r]:=m;let#[q,p,t]:=B d i r;show#[q,p,d,i,o,t]
  |brk=>show m
  |ret v=>show m
 |false=>
  rwa[aK zP,wpAny_execs_nil #[e,y,z,l]]
end
structure It where
 go:Nat->Hp->Prop
 yld:Nat->Hp->V->Hp->Prop
 stop:Nat->Hp->Prop
def V9(X:Cx)(a:jo)(H:Hp)(b:aj):Prop:=
 H b=Y'/\b≠X.env.locals/\b∉X.fs/\(b∈X.ex\/X.s₀.heap.objs.size<=b)/\(∀ x c,X.env.cells.lookup x\c->c≠b)/\∀ p∈X.pn++a,p.1≠b
theorem ZH.fpOk{i:St}{b:aj}(I:ZH X a i H s)(d:‹s›<=b)(g:f b=Y'):V9 X a f b:=by
 show#[g,uF (yC I.lt d),I.nofs d,.inr (zJ I.sz d),λx c e z=>?_,λp h z=>?_]
 .let#[v,q]:=I.cell x c e;show gS (yC q.lt #v[z,d]) (xW _)
 .show gS (yC (zE (I.pin p h).1) #v[z,d]) (xW _)
structure Uf(P:am)(w:aw)(K:zZ)(tg:Expr)(J:It)(fp:jz)(it:aj)(tn:Nat->aD->Prop):Prop where
 mem:it∈fp
 obj:∀ i h,tn i h->∀ b∈fp,∃ o,h.get? b\o/\∀ v,o.data≠.cell v
 keep:∀ i h h',tn i h->(∀ b∈fp,∀ o,h.get? b\o->h'.get? b\o)->tn i h'
 item:∀(X:Cx),X.prog=P->X.w=w->X.K=K->X.calm=V'->∀(i:Nat)(jV:jo)(s:ak)(σ:St)(H:Hp)(E:ja),ZH X jV σ H s->(∀ b∈fp,V9 X jV H b)->tn i s.heap->J.go i H ->
  aB (aA P w) X.A (pyNext !it) (λr s1=>∃ u,r=Z' u /\
   aB (aA P w) X.A (letOwnedTupleGo tg (!it) u) (λ_ s2=>∃ x H',ZH X jV σ H' s2/\ZT x u/\J.yld i H x H'/\tn (i+1) s2.heap/\∀ b∈fp,H' b=Y') E s1) E s
 done:∀(X:Cx),X.prog=P->X.w=w->X.K=K->X.calm=V'->∀(i:Nat)(jV:jo)(s:ak)(σ:St)(H:Hp)(E:ja),ZH X jV σ H s->(∀ b∈fp,V9 X jV H b)->tn i s.heap->J.stop i H ->
  aB (aA P w) X.A (pyNext !it) (λr s1=>r=Y'/\ZH X jV σ H s1) E s
 self:∀(A:ax)(i:Nat)(s:ak)(Q:ja)(E:ja),tn i s.heap->Q (!it) s->aB (aA P w) A (pyIter !it) Q E s
abbrev TI:=St->Hp->(It->Hp->Prop)->Prop
def GR(X:Cx)(a:jo)(j:St)(i:Expr)(R:It->Hp->Prop)(d:ai)(g:ak):Prop:=
 ∃(f:aj)(e:jz)(h:Nat->aD->Prop)(J:It)(c:Hp),d=.ref f/\ZH X a j c g/\Uf X.prog X.w X.K i J e f h/\h 0 g.heap/\(∀ b∈e,V9 X a c b)/\R J c
def PI(X:Cx)(e b:Expr)(f:TI):Prop:=
 ∀(a:jo)(s:ak)(c:St)(H:Hp)(R:It->Hp->Prop),ZH X a c H s->f c H R ->
  aB ↥X X.A (aG b X.env) (λv d=>aB ↥X X.A (pyIter v) (GR X a c e R) X.xe d) X.xe s
theorem M8{M:Model}{A:ax}{E:ja}{s:ak}{c:Expr}{b:aj}{u:ai}{o:aH}{n:String}{d:js}{Q:Unit->ak->Prop}(i:s.heap.get? b\o)(e:o.cls=.type n)(f:o.data=.fields d)(g:["enumerate","zip","dict_itemiterator","dict_reverseitemiterator","odict_iterator","itertools.zip_longest","itertools.pairwise"].contains n=false)(a:Q .unit s):aB M A (letOwnedTupleGo c (!b) u) Q E s:=by
 unfold letOwnedTupleGo;cases c<;>first
  |show ae a
  |(cases u<;>first
    |show ae a
    |(show aa (wpAny_load i ?_);rw[e,f];change aB M A (if (["enumerate","zip","dict_itemiterator","dict_reverseitemiterator","odict_iterator","itertools.zip_longest","itertools.pairwise"].contains n&&d[0]? == Z' (rawInt _))=V' then _ else _) Q E s;rwa[aK (by intro h;erw[g,tT] at h),ae a]))
def Os(K:zZ)(a:aj):It:=
 #[λi H=>∃ b x,ZF K H a b/\b[i]?\x,λi H x c=>c=H/\∀ b,ZF K H a b->b[i]?\x,λi H=>∃ b,ZF K H a b/\↑b<=i]
def Fe(K:zZ)(a:aj):It:=
 #[λi H=>∃ b x,Zp K H a b/\b[i]?\x,λi H x c=>c=H/\∀ b,Zp K H a b->b[i]?\x,λi H=>∃ b,Zp K H a b/\↑b<=i]
def NV(b:Int)(n:Nat):It:=#[λi _=>i<n,λi H x a=>a=H/\x=.int (b+i),λi _=>n<=i]
theorem nQ{K:zZ}(a l):Uf P w K tg (Os K a) [l] l (λi h=>h.IsListIter l a i) where
 mem:=by simp
 obj:=λi h f b j=>by
  let e:b=l:=by simpa using j
  subst e;let#[o,e,c,d]:=f;show#[o,e,λv z=>by erw[d] at z]
 keep:=λi h n f k=>f.at λo e=>k l ⋯ o e
 item:=by
  intro X F J D O i g s Q H E I q f G;subst F J D;let#[xs,x,r,L]:=G;let#[M,N,p,Y]:=I.list r;let#[u,U,ru]:=N.get L;let#[t,y,T,A,B,C]:=q l ⋯
  show wpAny_pyNext_list_item f p.isList (x:=u) #v[U] λn m sb=>?_
  let R:ZH X g Q H { s with heap:=n }:=I.turned (t':=s.toks) (λb o j e=>(sb.2 b j)|||e) t y A B C;let#[o,e,c,d]:=id m;show#[u,Z,M8 (s:={ s with heap:=n }) e c d 'b' #[x,H,R,ru,#[Z,λys V=>#v[I.list_inj V r,L]],m,λb j=>(q b j).1]]
 done:=by
  intro X F J D O i g s Q H E I q f G;subst F J D;let#[xs,r,L]:=G;let#[M,N,p,Y]:=I.list r;let#[t,y,T,A,B,C]:=q l ⋯
  let hl:=↑N;show wpAny_pyNext_list_end (I.ok.hd O) f p.isList (by simp;lia) λn S=>#[Z,I.turned (t':=s.toks) (λb o j e=>S b o j e) t y A B C]
 self:=λ_ _ _ _ _ f h=>wpAny_pyIter_listiter f h
theorem lL{K:zZ}(a l):Uf P w K tg (Fe K a) [l] l (λi h=>h.IsTupleIter l a i) where
 mem:=by simp
 obj:=λi h f b j=>by
  let e:b=l:=by simpa using j
  subst e;let#[o,e,c,d]:=f;show#[o,e,λv z=>by erw[d] at z]
 keep:=λi h q f k=>f.at λo e=>k l ⋯ o e
 item:=by
  intro X G L F O i g s Q H E I r f J;subst G L F;let#[xs,x,t,M]:=J;let#[m,N,p,Y]:=I.tuple t;let#[u,U,ru]:=N.get M;let#[y,A,T,B,C,D]:=r l ⋯
  show wpAny_pyNext_tuple_item f (show s.heap.IsTuple a ⇑m from p) (x:=u) #v[U] λq n sb=>?_
  let R:ZH X g Q H { s with heap:=q }:=I.turned (t':=s.toks) (λb o j e=>(sb.2 b j)|||e) y A B C D;let#[o,e,c,d]:=id n;show#[u,Z,M8 (s:={ s with heap:=q }) e c d 'b' #[x,H,R,ru,#[Z,λys V=>#v[I.tuple_inj V t,M]],n,λb j=>(r b j).1]]
 done:=by
  intro X G L F O i g s Q H E I r f J;subst G L F;let#[xs,t,M]:=J;let#[m,N,p,Y]:=I.tuple t;let#[y,A,T,B,C,D]:=r l ⋯
  let hl:=↑N;show wpAny_pyNext_tuple_end (I.ok.hd O) f (show s.heap.IsTuple a ⇑m from p) (by simp;lia) λq S=>#[Z,I.turned (t':=s.toks) (λb o j e=>S b o j e) y A B C D]
 self:=λ_ _ _ _ _ f h=>wpAny_pyIter_tupleiter f h
theorem mr{K:zZ}(c)(m)(n):Uf P w K Q (NV m n) [c] c (λi h=>IsRangeIter h c (m+(i:Nat)*1) ((n:Int)-(i:Nat)) 1) where
 mem:=by simp
 obj:=λi h a b f=>by
  let e:b=c:=by simpa using f
  subst e;show#[_,a,λv z=>by
   let R:Data.fields _=Data.cell v:=z;cases R]
 keep:=λi h j a k=>k c ⋯ _ a
 item:=by
  intro X A D y B i d s G H E I l a C;subst A D y;let#[p,q,M,r,u,x]:=l c ⋯
  let W:=Walks.range (prog:=X.prog) (w:=X.w) 'Ř' c m 1 n;show W.item i s _ _ C a λv j F N g O=>?_;let#[t,rfl]:=N;let J:ZH X d G H { s with heap:=j,toks:=F }:=I.turned (λb o f e=>O b o #v[f] e) p q r u x
  show#[1,M8 (s:={ s with heap:=j,toks:=F }) (n:= "range_iterator") g Z Z 'b' #[.int (m+i),H,J,#[t,?_],#[Z,Z],g,λb f=>(l b f).1]]
  rw[Int.mul_one]
 done:=by
  intro X A D y B i d s G H E I l a C;subst A D y;let#[p,q,M,r,u,x]:=l c ⋯
  show wpAny_pyNext_range_end 'Ř' a (by have:n<=i:=C;lia) λj L=>#[Z,I.turned (t':=s.toks) (λb o f e=>L b o f e) p q r u x]
 self:=λ_ _ _ _ _ a h=>wpAny_pyIter_rangeiter a h
section
variable{tg:Expr}
inductive NZ(K:zZ)(R:It->Hp->Prop)(x:V)(b:Hp):Prop
 |mk(a:_)(_:x=!a)(_:∃ c,ZF K b a c)(_:R (Os K a) b)
def J'(K:zZ)(b:TE):TI:=λc H R=>b c H λx a=>NZ K R x a
inductive Mh(K:zZ)(R:It->Hp->Prop)(x:V)(b:Hp):Prop
 |mk(a:_)(_:x=!a)(_:∃ c,Zp K b a c)(_:R (Fe K a) b)
def Si(K:zZ)(b:TE):TI:=λc H R=>b c H λx a=>Mh K R x a
theorem WJ(k:PE X l g):PI X tg l (J' X.K g):=by
 intro c s u H R I h;show YG (k c s u H _ I h) λv f x i d t r=>?_;let#[a,e,#[z,m],q]:=r;subst e;cases t;let#[n,y,p,w]:=d.list m;show wpAny_pyIter_list p.isList ?_;show#[‹f›,[‹f›],_,_,i,Z,d.kept (t':=f.toks) λb o e=>zD _ e,nQ a _,#[_,yI _ Z,Z,Z],λb j=>?_,q];let e:b=‹f›:=by simpa using j
 subst e;show d.fpOk (zY _) 'ů'
theorem ID(m:PE X l i):PI X tg l (Si X.K i):=by
 intro c s u H R I h;show YG (m c s u H _ I h) λv d x j f t r=>?_;let#[a,e,#[z,n],q]:=r;subst e;cases t;let#[g,y,p,w]:=f.tuple n;show wpAny_pyIter_tuple (show d.heap.IsTuple a ⇑g from p) ?_;show#[‹d›,[‹d›],_,_,j,Z,f.kept (t':=d.toks) λb o e=>zD _ e,lL a _,#[_,yI _ Z,Z,Z],λb k=>?_,q];let e:b=‹d›:=by simpa using k
 subst e;show f.fpOk (zY _) 'ŭ'
theorem Dx{h:St}{E:ja}(I:ZH X d h H s)(k : -(2^62)<=a)(l:a<2^62)(m : -(2^62)<=c)(n:c<2^62)(q:R (NV a (c-a).toNat) H):aB ↥X X.A (pyIter (.ref ‹s›)) (GR X d h tg R) E { s with heap:=s.heap.push { cls:=.type "range",data:=.fields ⇑[.int a t,.int c u,.int 1 v] },toks:=g }:=by
 show wpAny_pyIter_range (IsRange.new ..) (small_one k l m n) ?_;let f:ZH X d h H { s with heap:=s.heap.push { cls:=.type "range",data:=.fields ⇑[.int a t,.int c u,.int 1 v] },toks:=g }:=I.kept λb o e=>zD _ e;show#[(s.heap.push { cls:=.type "range",data:=.fields ⇑[.int a t,.int c u,.int 1 v] }).objs.size,[(s.heap.push { cls:=.type "range",data:=.fields ⇑[.int a t,.int c u,.int 1 v] }).objs.size],_,_,H,Z,
  f.kept (t':=g) λb o e=>zD _ e,mr _ a (c-a).toNat,?_,λb p=>?_,q]
 .let i:a+((0:Nat):Int)*1=a:=by simp
  let j:(((c-a).toNat:Nat):Int)-((0:Nat):Int)=Builtin.Range.rangeSize a c 1:=by rw[rangeSize_one];split<;>lia
  change IsRangeIter _ _ (a+((0:Nat):Int)*1) ((((c-a).toNat:Nat):Int)-((0:Nat):Int)) 1;rwa[i,j,yI _ Z]
 .let e:b=(s.heap.push { cls:=.type "range",data:=.fields ⇑[.int a t,.int c u,.int 1 v] }).objs.size:=#v[p]
  subst e;show f.fpOk (zY _) 'ŭ'
inductive NP(R:It->Hp->Prop)(b:je)(a:Hp):Prop
 |mk(j:Int)(_:b=[-j])(_ : -(2^62)<=j)(_:j<2^62)(_:R (NV 0 j.toNat) a)
def Rl(b:TA):TI:=λd H R=>b d H λc a=>NP R c a
inductive Nd(R:It->Hp->Prop)(b:je)(a:Hp):Prop
 |mk(i j:Int)(_:b=[-i,-j])(_ : -(2^62)<=i/\i<2^62 /\ -(2^62)<=j/\j<2^62)(_:R (NV i (j-i).toNat) a)
def RC(b:TA):TI:=λd H R=>b d H λc a=>Nd R c a
theorem OZ(i:Gl X "range")(k:X.mg "range"=Y')(g:PA X [a] d)(l:ar [a] X.env=[(false,aG a X.env)]:=by rfl):PI X tg (.Call 'ı' [a] [] pos) (Rl d):=by
 intro b s u H R I h;show Call_ (Nc I i k boot_range (PyProof.Rows.callWith_type1 (YG (g pos b s u H _ I h) λx w y v f n c=>?_) l Z));let#[j,e,c,m,q]:=c;subst e
 cases n with
 |cons r o=>
  cases o;let#[t,rfl]:=r;show call_range_1 (Dx f () () c m #v[q])
theorem Jv{p pos:Pos}(n:Gl X "range")(o:X.mg "range"=Y')(m:PA X [a,b] k)(u:ar [a,b] X.env=[(false,aG a X.env),(false,aG b X.env)]:=by rfl)(c:ar [b] X.env=[(false,aG b X.env)]:=by rfl):
  PI X tg (.Call 'ı' [a,b] [] pos) (RC k):=by
 intro d s A H R I h;show Call_ (Nc I n o boot_range (PyProof.Rows.callWith_type1 (YG (m pos d s A H _ I h) λE C F B l z f=>?_) (by rw[u,c]) (by rw[c];rfl)))
 let#[i,j,e,#[f,v,w,x],q]:=f;subst e
 cases z with
 |cons r g=>
  cases g with
  |cons y g=>
   cases g;let#[t,rfl]:=r;let#[D,rfl]:=y;show call_range_2 (Dx l f v w x q)
def Ss(k:TI)(g:hW)(j:TS):TS:=λD a H=>k a H λJ f=>∃ W:Nat->Nat->St->Hp->Prop,(∃ m,W 0 m a f)/\∀ i m a H,W i m a H ->
 (J.stop i H/\D.nx a H)\/(J.go i H/\∃ N:St->Hp->Prop,(∀ c b,N c b->∃ e,e<m/\W (i+1) e c b)/\∀ x b,J.yld i H x b->g x a b λd h=>j { D with nx:=N,ct:=N,bk:=D.nx } d h)
def M0(a:jz)(h:aD):jo:=a.filterMap λb=>(h.get? b).map λo=>(b,o)
theorem KD(c:b∈a)(e:h.get? b\o):(b,o)∈M0 a h:=tI.mpr #[b,c,by rw[e];rfl]
theorem AO(f:p∈M0 a h):p.1∈a/\h.get? p.1\p.2:=by
 let#[b,d,e]:=tI.mp f
 cases q:h.get? b with
 |none=>erw[q] at e
 |some o=>
  rw[q] at e;let c:(b,o)=p:=yV.inj e;subst c;show#[d,q]
theorem ZH.pinned{h:St}(I:ZH X a h H s)(l:∀ b∈c,V9 X a H b)(m:∀ b∈c,∃ o,s.heap.get? b\o/\∀ v,o.data≠.cell v):ZH X (a++M0 c s.heap) h H s:=
 I.pins_of λp n=>(zM.mp n).elim (λz=>I.pin p (yZ _ z)) λz=>by
  let#[g,e]:=AO z;let#[i,j,k,_]:=l p.1 g;let#[o,f,d]:=m p.1 g;erw[e] at f;show#[e,i,j,k,d]
theorem ZH.unpinned{b:St}(I:ZH X (a++d) b H s):ZH X a b H s:=I.pins_of λp c=>I.pin p (yZ _ (zL _ c))
theorem Vi(L:PassesOwn ↥X X.A X.env X.xe)(hc:X.calm=V')(hi:PI X tg q wi)(hg:PG X tg g)(p:WG X C tb)(hs:∀ x,foldedSetIterable q X.env x=pure x:=by intro _;rfl):PS X (.For tg q C [] pos) (Ss wi g tb):=by
 intro a s σ H D I h;show wpAny_For (Z7 (hi a s σ H _ I h) λv s1 h1=>Z7 h1 λa2 s2 h2=>?_) hs;let#[it,G,tn,J,H2,e,I2,T,a0,f2,W,#[m0,w0],Q]:=h2;subst e;let t:∀{B:Hp},(∀ b∈G,B b=Y')->∀ b∈G,V9 X a B b:=λhn b p=>#[hn b p,(f2 b p).2];show codeAny_forLoop_any (λn s'=>∃ i y B,ZH X a y B s'/\tn i s'.heap/\(∀ b∈G,B b=Y')/\W i n y B) ?_ m0 #[(0),σ,H2,I2,a0,λb p=>(f2 b p).1,w0];rintro n s3 ⟨i,z,R,I3,O,K,w3⟩;rcases Q i n z R w3 with ⟨P,qn⟩|⟨go,N,hN,step⟩
 .show wpAny_passesOwn L (Z7 (T.done X Z Z Z hc i a s3 z R X.xe I3 (t K) O P) ?_);rintro r s4 ⟨V,I4⟩;subst V;show wpAny_execs_nil #[z,R,I4,qn]
 .show wpAny_passesOwn L (Z7 (T.item X Z Z Z hc i a s3 z R X.xe I3 (t K) O go) ?_);rintro r s4 ⟨u,V,h4⟩;subst V;show wpAny_passesOwn L (Z7 h4 ?_);rintro _ s5 ⟨x,H5,I5,r5,y5,F,U⟩;let S:=I5.pinned (t U) (T.obj _ _ F);show wpAny_passesOwn L (Z7 (hg _ s5 z H5 x u _ S r5 (step x H5 y5)) ?_);rintro _ s6 ⟨a1,H6,I6,q6⟩;show wpAny_passesOwn L (Z7 (p _ s6 a1 H6 _ I6 q6) λf Y E=>?_);let l:∀{c:St}{j:Hp},ZH X (a++M0 G s5.heap) c j Y->N c j->∃ m,m<n/\∃ i y B,ZH X a y B Y/\tn i Y.heap/\(∀ b∈G,B b=Y')/\W i m y B:=fun{c j} k M=>by
   let#[m',hm,w7]:=hN c j M;show#[m',hm,i+1,c,j,k.unpinned,T.keep _ _ _ F λb p o e=>(k.pin (b,o) 'ţ').1,λb p=>?_,w7];let#[o,e,d]:=T.obj _ _ F b p;show(k.pin (b,o) 'ţ').2.1
  cases f with
  |next=>let#[c,j,k,M]:=E;show l k M
  |cont=>let#[c,j,k,M]:=E;show l k M
  |brk=>let#[c,j,k,E]:=E;show#[c,j,k.unpinned,E]
  |ret v=>let#[x7,c,j,k,r7,E]:=E;show#[x7,c,j,k.unpinned,r7,E]
end
theorem OB{K:zZ}{a:aj}{xs:je}{g:hW}{n:TS}{D:YK}{b:St}{H:Hp}(c:Nat->St->Hp->Prop)(o:c 0 b H)(t:∀ i b H,i<=↑xs->c i b H->ZF K H a xs)(u:∀ i x b H,xs[i]?\x->c i b H->g x b H λh k=>n { D with nx:=c (i+1),ct:=c (i+1),bk:=D.nx } h k)(r:∀ b H,c ↑xs b H->D.nx b H):
  ∃ W:Nat->Nat->St->Hp->Prop,(∃ m,W 0 m b H)/\∀ i m b H,W i m b H ->
   ((Os K a).stop i H/\D.nx b H)\/((Os K a).go i H/\∃ N:St->Hp->Prop,(∀ f d,N f d->∃ l,l<m/\W (i+1) l f d)/\∀ x d,(Os K a).yld i H x d->g x b d λh k=>n { D with nx:=N,ct:=N,bk:=D.nx } h k):=by
 exists λi m b H=>m=↑xs-i/\i<=↑xs/\c i b H,#[↑xs,by simp,yY _,o]
 rintro i m b H ⟨rfl,s,p⟩;let q:=t i b H s p;by_cases j:i<↑xs
 .show .inr #[#[xs,xs[i],q,by simp[j]],c (i+1),λf d v=>#[↑xs-(i+1),by show tH ‹_› (wC _),Z,j,v],λx d y=>?_]
  let#[e,y]:=y;subst e;show u i x b _ (y xs q) p
 .let e:i=↑xs:=()
  subst e;show .inl #[#[xs,q,zY _],r b H p]
theorem OS{lo:Int}{n:Nat}{g:hW}{l:TS}{D:YK}{a:St}{H:Hp}(c:Nat->St->Hp->Prop)(o:c 0 a H)(r:∀ i a H,i<n->c i a H->g (.int (lo+i)) a H λh j=>l { D with nx:=c (i+1),ct:=c (i+1),bk:=D.nx } h j)(q:∀ a H,c n a H->D.nx a H):
  ∃ W:Nat->Nat->St->Hp->Prop,(∃ m,W 0 m a H)/\∀ i m a H,W i m a H ->
   ((NV lo n).stop i H/\D.nx a H)\/((NV lo n).go i H/\∃ N:St->Hp->Prop,(∀ f b,N f b->∃ k,k<m/\W (i+1) k f b)/\∀ x b,(NV lo n).yld i H x b->g x a b λh j=>l { D with nx:=N,ct:=N,bk:=D.nx } h j):=by
 exists λi m a H=>m=n-i/\i<=n/\c i a H,#[n,by simp,yY _,o]
 rintro i m a H ⟨rfl,t,p⟩;by_cases d:i<n
 .show .inr #[d,c (i+1),λf b s=>#[n-(i+1),by show tH ‹_› (wC _),Z,d,s],λx b y=>?_]
  let#[e,y]:=y;subst e y;show r i a _ d p
 .let e:i=n:=()
  subst e;show .inl #[zY _,q a H p]
abbrev R2:=V->V->Hp->VK->Prop
def XF(X:Cx)(f:ai->ai->Sem ai)(r:R2):Prop:=
 ∀(a:jo)(s:ak)(b:St)(H:Hp)(x y:V)(v u:ai)(Q:VK),ZH X a b H s->ZT x v->ZT y u->r x y H Q ->
  aB ↥X X.A (f v u) 'Ğ' X.xe s
def K4(X:Cx)(f:ai->Sem ai)(r:V->Hp->VK->Prop):Prop:=
 ∀(a:jo)(s:ak)(b:St)(H:Hp)(x:V)(v:ai)(Q:VK),ZH X a b H s->ZT x v->r x H Q ->
  aB ↥X X.A (f v) 'Ğ' X.xe s
def QL(X:Cx)(f:ai)(r:je->Hp->VK->Prop):Prop:=
 ∀(a:jo)(s:ak)(d:St)(H:Hp)(c:je)(b:jd)(Q:VK),ZH X a d H s->ZS c b->r c H Q ->
  aB ↥X X.A (call f b) (EP X a d Q) X.xe s
def MD(r:R2)(d e:TE):TE:=λa H Q=>d a H λx b=>e a b λy c=>r x y c Q
def SC(r:V->Hp->VK->Prop)(b:TE):TE:=λc H Q=>b c H λx a=>r x a Q
inductive rI(C:Int->Int->Prop)(g:Int->Int->V)(x y:V)(H:Hp)(Q:VK):Prop
 |mk(i j:_)(_:x=.int i)(_:y=.int j)(_:C i j)(_:Q (g i j) H)
inductive O5(g:Int->Int->V)(x y:V)(H:Hp)(Q:VK):Prop
 |mk(i j:_)(_:x=.int i)(_:y=.int j)(_:Q (g i j) H)
inductive rU(g:Int->V)(x:V)(H:Hp)(Q:VK):Prop
 |mk(i:_)(_:x=.int i)(_:Q (g i) H)
section
variable{a b c:Expr}{ta tb tc:TE}{pos:Pos}
theorem Hv(o:PE X a ta)(p:PE X b tb){g:St}{R:V->V->Hp->Prop}(I:ZH X d g H s)(h:ta g H λx l=>tb g l λy e=>R x y e){Q:ja}{f:ai->ai->Sem ai}(q:∀ v u k x y e,ZH X d g e k->ZT x v->ZT y u->R x y e->aB ↥X X.A (f v u) Q X.xe k):
  aB ↥X X.A (aG a X.env) (λv i=>aB ↥X X.A (aG b X.env) (λu j=>aB ↥X X.A (f v u) Q X.xe j) X.xe i) X.xe s:=by
 show YG (o d s g H _ I h) λv C x l m z r=>?_;show YG (p d C g l _ m r) λu k y e n B t=>?_;show q v u k x y e n z B t
theorem Z5(k:XF X (binaryOp e) r)(i:PE X a ta)(j:PE X b tb):PE X (.BinOp a e b pos) 'Ő':=by
 intro d s o H Q I h;show wpAny_BinOp (Hv i j I h λv u n x y f g l m q=>k d n o f x y v u Q g l m q)
theorem VZ(k:K4 X (unaryOp e) r)(j:PE X a ta):PE X (.UnaryOp e a pos) (SC r ta):=by
 intro d s f H Q I h;show UnaryOp_ (YG (j d s f H _ I h) λv n x g i m l=>k d n f g x v Q i m l)
theorem LI{g:Int->Int->Int}(d:∀  i j   t u   s  (Q:ja) (E:ja),C i j->Q (.int (g i j) s.toks) { s with toks:=s.toks+1 }->aB ↥X X.A 'ë' Q E s):
  XF X f (rI C λi j=>.int (g i j)):=by
 intro e s o H x y v u Q I l m h;let#[i,j,rfl,rfl,k,q]:=h;let#[t,rfl]:=l;let#[n,rfl]:=m;show d i j t n s _ _ k #[.int (g i j),H,I.tok _,#[1],q]
theorem E7{g:Int->Int->Int}(d:∀  i j   t u   s  (Q:ja) (E:ja),Q (.int (g i j) s.toks) { s with toks:=s.toks+1 }->aB ↥X X.A 'ë' Q E s):
  XF X f (O5 λi j=>.int (g i j)):=by
 intro e s n H x y v u Q I k l h;let#[i,j,rfl,rfl,q]:=h;let#[t,rfl]:=k;let#[m,rfl]:=l;show d i j t m s _ _ #[.int (g i j),H,I.tok _,#[1],q]
theorem KC{g:Int->Int->Bool}(d:∀  i j   t u   s  (Q:ja) (E:ja),Q (.bool (g i j)) s->aB ↥X X.A 'ë' Q E s):
  XF X f (O5 λi j=>.bl (g i j)):=by
 intro e s n H x y v u Q I k l h;let#[i,j,rfl,rfl,q]:=h;let#[t,rfl]:=k;let#[m,rfl]:=l;show d i j t m s _ _ #[.bl (g i j),H,I,Z,q]
def AT(i j:Int):Prop:=0<j/\j<1073741824
def Sa(i j:Int):Prop:=0<=j/\j<=1000000/\i.natAbs<2^64
def OW(i j:Int):Prop:=(-(2^64)<i/\i<2^64)\/(-(2^64)<j/\j<2^64)
theorem OW.ok(h:OW i j):IntMulOk i j:=by
 rcases h with ⟨d,e⟩|⟨d,e⟩
 .show .of_left (intBits_le_64 d e)
 .show .of_right (intBits_le_64 d e)
theorem Vn:XF X 'Ň' (O5 λi j=>.int (i+j)):=E7 λ_ _ _ _ _ _ _ q=>add_int q
theorem Vg:XF X (binaryOp .Sub) (O5 λi j=>.int (i-j)):=E7 λ_ _ _ _ _ _ _ q=>sub_int q
theorem NH:XF X (binaryOp .Mult) (rI OW λi j=>.int (i*j)):=LI λ_ _ _ _ _ _ _ d q=>mul_int q d.ok
theorem KF:XF X (binaryOp .FloorDiv) (rI AT λi j=>.int (i/j)):=LI λi j _ _ _ _ _ d q=>by
 let e:(0:Int)<j:=d.1;let f:j<1073741824:=d.2;show floordiv_int () #v[qQ i (),q] (.inl (PyProof.noPylong_small ()))
theorem O9:XF X (binaryOp .Mod) (rI (λ_ j=>0<j) λi j=>.int (i%j)):=LI λi j _ _ _ _ _ d q=>by
 show mod_int' () #v[Int.fmod_eq_emod_of_nonneg i (),q]
theorem KJ:XF X (binaryOp .Pow) (rI Sa λi j=>.int ((i)^j.toNat)):=LI λ_ _ _ _ _ _ _ d q=>pow_int_small d.1 d.2.1 d.2.2 q
theorem SE{g:Int->Int}(d:∀  i   t   s  (Q:ja) (E:ja),Q (.int (g i) s.toks) { s with toks:=s.toks+1 }->aB ↥X X.A (f (.int i t)) Q E s):
  K4 X f (rU λi=>.int (g i)):=by
 intro e s k H x v Q I j h;let#[i,rfl,q]:=h;let#[t,rfl]:=j;show d i t s _ _ #[.int (g i),H,I.tok _,#[1],q]
theorem Va:K4 X (unaryOp .USub) (rU λi=>.int (-(i))):=SE λ_ _ _ _ _ q=>neg_int q
end
def Ey:V->V->Bool
 |.non,.non=>true|.non,.int _=>true|.int _,.non=>true|.non,.bl _=>true|.bl _,.non=>true|.non,.str _=>true|.str _,.non=>true
 |.int _,.int _=>true|.bl _,.bl _=>true|.str _,.str _=>true|.byt _,.byt _=>true
 |.int _,.str _=>true|.str _,.int _=>true|.bl _,.str _=>true|.str _,.bl _=>true
 |_,_=>false
def Br:R2:=λx y H Q=>Ey x y=V'/\Q (.bl (gU (x=y))) H
def Sx:R2:=λx y H Q=>Ey x y=V'/\Q (.bl (!gU (x=y))) H
theorem GT:gU (V.int i=V.int j)=(i==j):=by
 rw[wD];simp
theorem Fv:gU (V.bl i=V.bl j)=(i==j):=by
 rw[wD];simp
theorem Fi:gU (V.str i=V.str j)=(i==j):=by
 rw[wD];simp
theorem Fy:gU (V.byt i=V.byt j)=(i.toList==j.toList):=by
 rw[wD];cases i;cases j;simp
section
variable{a b c:Expr}{ta tb tc:TE}{pos:Pos}
theorem XI{g:St}(I:ZH X d g H s)(q:Q (.bl k) H)(e:k=f):EP X d g Q (.bool f) s:=by
 subst e;show#[.bl k,H,I,Z,q]
theorem Vm:XF X (az .Eq) Br:=by
 intro k s l H x y v u Q I g d h;let#[f,q]:=h
 cases x with
 |non=>
  cases g
  cases y with
  |non=>cases d;show PySem.EqNone.eq_none_none (XI I q ⋯)
  |bl j=>cases d;show PySem.EqNone.eq_none_bool (XI I q ⋯)
  |int j=>let#[e,rfl]:=d;show PySem.EqNone.eq_none_int (XI I q ⋯)
  |str j=>let#[e,rfl]:=d;show PySem.EqNone.eq_none_str (XI I q ⋯)
  |_=>show gS (show false=V' from f) zP
 |bl i=>
  cases g
  cases y with
  |non=>cases d;show PySem.EqNone.eq_bool_none (XI I q ⋯)
  |bl j=>cases d;show eq_bool (XI I q Fv)
  |str j=>let#[e,rfl]:=d;show PySem.EqMixed.eq_bool_str (XI I q ⋯)
  |_=>show gS (show false=V' from f) zP
 |int i=>
  let#[t,rfl]:=g
  cases y with
  |non=>cases d;show PySem.EqNone.eq_int_none (XI I q ⋯)
  |int j=>let#[e,rfl]:=d;show eq_int (XI I q GT)
  |str j=>let#[e,rfl]:=d;show PySem.EqMixed.eq_int_str (XI I q ⋯)
  |_=>show gS (show false=V' from f) zP
 |str i=>
  let#[t,rfl]:=g
  cases y with
  |non=>cases d;show PySem.EqNone.eq_str_none (XI I q ⋯)
  |bl j=>cases d;show PySem.EqMixed.eq_str_bool (XI I q ⋯)
  |int j=>let#[e,rfl]:=d;show PySem.EqMixed.eq_str_int (XI I q ⋯)
  |str j=>let#[e,rfl]:=d;show eq_str (XI I q Fi)
  |_=>show gS (show false=V' from f) zP
 |byt i=>
  let#[t,rfl]:=g
  cases y with
  |byt j=>let#[e,rfl]:=d;show PySem.W.eq_bytes (XI I q Fy)
  |_=>show gS (show false=V' from f) zP
 |_=>cases y<;>show gS (show false=V' from f) zP
theorem Nh:XF X 'Ġ' Sx:=by
 intro k s l H x y v u Q I g d h;let#[f,q]:=h
 cases x with
 |non=>
  cases g
  cases y with
  |non=>cases d;show PySem.EqNone.ne_none_none (XI I q ⋯)
  |bl j=>cases d;show PySem.EqNone.ne_none_bool (XI I q ⋯)
  |int j=>let#[e,rfl]:=d;show PySem.EqNone.ne_none_int (XI I q ⋯)
  |str j=>let#[e,rfl]:=d;show PySem.EqNone.ne_none_str (XI I q ⋯)
  |_=>show gS (show false=V' from f) zP
 |bl i=>
  cases g
  cases y with
  |non=>cases d;show PySem.EqNone.ne_bool_none (XI I q ⋯)
  |bl j=>cases d;show ne_bool (XI I q (congrArg not Fv))
  |str j=>let#[e,rfl]:=d;show PySem.EqMixed.ne_bool_str (XI I q ⋯)
  |_=>show gS (show false=V' from f) zP
 |int i=>
  let#[t,rfl]:=g
  cases y with
  |non=>cases d;show PySem.EqNone.ne_int_none (XI I q ⋯)
  |int j=>let#[e,rfl]:=d;show ne_int (XI I q (congrArg not GT))
  |str j=>let#[e,rfl]:=d;show PySem.EqMixed.ne_int_str (XI I q ⋯)
  |_=>show gS (show false=V' from f) zP
 |str i=>
  let#[t,rfl]:=g
  cases y with
  |non=>cases d;show PySem.EqNone.ne_str_none (XI I q ⋯)
  |bl j=>cases d;show PySem.EqMixed.ne_str_bool (XI I q ⋯)
  |int j=>let#[e,rfl]:=d;show PySem.EqMixed.ne_str_int (XI I q ⋯)
  |str j=>let#[e,rfl]:=d;show ne_str (XI I q (congrArg not Fi))
  |_=>show gS (show false=V' from f) zP
 |byt i=>
  let#[t,rfl]:=g
  cases y with
  |byt j=>let#[e,rfl]:=d;show PySem.W.ne_bytes (XI I q (congrArg not Fy))
  |_=>show gS (show false=V' from f) zP
 |_=>cases y<;>show gS (show false=V' from f) zP
theorem NM:XF X (az .Lt) (O5 λi j=>.bl (gU (i<j))):=KC λ_ _ _ _ _ _ _ q=>lt_int q
theorem NI:XF X (az .LtE) (O5 λi j=>.bl (gU (i<=j))):=KC λ_ _ _ _ _ _ _ q=>le_int q
theorem U9:XF X (az .Gt) (O5 λi j=>.bl (gU (j<i))):=KC λ_ _ _ _ _ _ _ q=>gt_int q
theorem Rv:XF X (az .GtE) (O5 λi j=>.bl (gU (j<=i))):=KC λ_ _ _ _ _ _ _ q=>ge_int q
theorem Z9(b)(h:d≠.In:=by decide)(g:d≠.NotIn:=by decide):behindInMarks d b=false:=qw b h g
theorem V4(l:XF X (az e) r)(i:PE X a ta)(j:PE X b tb)(k:behindInMarks e b=false):PE X (.Compare a [e] [b] pos) 'Ő':=by
 intro d s p H Q I h;show wpAny_Compare1 (Hv i j I h λv u o x y f g m n q=>l d o p f x y v u Q g m n q) k
inductive Nx(Q:Bool->Hp->Prop)(x:V)(d:Hp):Prop
 |mk(k:_)(_:x=.bl k)(_:Q k d)
def BL(t:TE):TT:=λe H Q=>t e H λx d=>Nx Q x d
theorem YO{f:CmpOp}{r:R2}(w:XF X (az f) r)(p:PE X a ta)(q:PE X b tb)(t:behindInMarks f b=false):PT X (.Compare a [f] [b] pos) (BL 'Ő'):=by
 intro d s g H Q I h;show wpAny_isTrue_Compare1 (YG (p d s g H _ I h) λv G x i m D A=>YG (q d G g i _ m A) λu J y j n E B=>
  Z7 (w d J g j x y v u _ n D E B) λc K ⟨z,l,o,F,k,e,C⟩=>?_) t
 subst e;cases F;show wpAny_truthy_bool #[l,o,C]
inductive OP(f:R2)(tc:TE)(h:_T.St)(Q:VK)(y z:V)(d:Hp):Prop
 |mk(k:_)(_:z=.bl k)(_:if k=V' then tc h d λg e=>f y g e Q else Q 'ř' d)
def E5(r h:R2)(ta tb tc:TE):TE:=λd H Q=>ta d H λx e=>tb d e λy f=>r x y f λz g=>OP h tc d Q y z g
theorem pe(K:XF X (az l) r)(j:XF X (az g) p)(E:PE X a ta)(F:PE X b tb)(G:PE X c tc)(J:lastMarks [l,g] [b,c]=false:=by with_unfolding_all rfl):PE X (.Compare a [l,g] [b,c] pos) (E5 r p ta tb tc):=by
 intro f s i H Q I h;show Compare_chain (YG (E f s i H _ I h) λv S x t B O L=>chain_link (YG (F f S i t _ B L) λu T y w C q M=>
  Z7 (K f T i w x y v u _ C O q M) λd U ⟨z,m,n,P,k,e,o⟩=>?_)) J
 subst e;cases P;show wpAny_truthy_bool ?_
 cases k with
 |false=>show ite_ff #[.bl false,m,n,Z,o]
 |true=>show ite_tt (chain_last (YG (G f U i m _ n o) λW V Y A D R N=>j f V i A y Y u W Q D q R N))
theorem Ff(O:XF X (az l) r)(j:XF X (az g) p)(K:PE X a ta)(L:PE X b tb)(M:PE X c tc)(N:lastMarks [l,g] [b,c]=false:=by with_unfolding_all rfl):PT X (.Compare a [l,g] [b,c] pos) (BL (E5 r p ta tb tc)):=by
 intro f s i H Q I h;show isTrue_chain (YG (K f s i H _ I h) λv s1 x t C V R=>test_link (YG (L f s1 i t _ C R) λu s2 y w D q S=>
  Z7 (O f s2 i w x y v u _ D V q S) λd s3 ⟨z,m,n,W,k,e,o⟩=>?_)) N
 subst e;cases W;show wpAny_truthy_bool ?_
 cases k with
 |false=>
  let#[k',G,P]:=o;cases G;show ite_ff #[m,n,P]
 |true=>
  show ite_tt (test_last (YG (M f s3 i m _ n o) λw' s4 z' A E Y T=>Z7 (j f s4 i A y z' u w' _ E q Y T) λd' s5 ⟨z2,B,F,r5,k2,J,U⟩=>?_));subst J;cases r5;show wpAny_truthy_bool #[B,F,U]
theorem NX:(aq:Nat)<2^63:=by rw[sizeLine_eq];decide
inductive Uc(x y:V)(H:Hp)(Q:VK):Prop
 |mk(i j:_)(_:x=.str i)(_:y=.str j)(_:↑i+↑j<=aq)(_:Q (.str (i++j)) H)
theorem lR:XF X 'Ň' (Uc):=by
 intro d s m H x y v u Q I f g h;let#[i,j,rfl,rfl,e,q]:=h;let#[t,rfl]:=f;let#[k,rfl]:=g;show add_str (λk l=>#[.str (i++j),H,I.tok _,#[1],q]) e
theorem Qy(r:ZS [x] d):∃ u,d=[u]/\ZT x u:=by
 cases r with
 |cons e f=>cases f;show#[1,e]
theorem Jn(r:ZS [x,y] d):∃ u e,d=[u,e]/\ZT x u/\ZT y e:=by
 cases r with
 |cons f g=>
  cases g with
  |cons h i=>cases i;show#[_,1,f,h]
inductive Q2(d:je)(H:Hp)(Q:VK):Prop
 |mk(i:_)(_:d=[-i])(_:Q (.int (if i<0 then -(i) else i)) H)
theorem Kq:QL X (.builtin "abs") (Q2):=by
 intro d s j H g f Q I r h;let#[i,rfl,q]:=h;let#[u,rfl,t,rfl]:=Qy r;show call_abs_int λu e=>#[.int (if i<0 then -(i) else i),H,I.tok _,#[1],q]
inductive QT(d:je)(H:Hp)(Q:VK):Prop
 |mk(i j:_)(_:d=[-i,-j])(_:Q (.int (if j>i then j else i)) H)
theorem GF(f:X.calm=V'):QL X (.builtin "max") (QT):=by
 intro e s v H p n Q I r h;let#[i,j,rfl,q]:=h;let#[u,o,rfl,#[t,rfl],#[l,rfl]]:=Jn r;show max_two_ints (I.ok.hd f) λg m k=>#[_,H,I.kept k,?_,q];by_cases d:j>i
 .rwa[aM d,aM d,#[1]]
 .rwa[aK d,aK d,#[1]]
inductive QP(d:je)(H:Hp)(Q:VK):Prop
 |mk(i j:_)(_:d=[-i,-j])(_:Q (.int (if j<i then j else i)) H)
theorem EM(f:X.calm=V'):QL X (.builtin "min") (QP):=by
 intro e s v H p n Q I r h;let#[i,j,rfl,q]:=h;let#[u,o,rfl,#[t,rfl],#[l,rfl]]:=Jn r;show min_two_ints (I.ok.hd f) λg m k=>#[_,H,I.kept k,?_,q];by_cases d:j<i
 .rwa[aM d,aM d,#[1]]
 .rwa[aK d,aK d,#[1]]
theorem KO:QL X 'J' (λd H Q=>(∃ i,d=[-i]/\Q (-i) H)\/∃ k,d=[.bl k]/\Q (.int (if k then 1 else 0)) H):=by
 intro e s j H d g Q I r h;rcases h with ⟨i,rfl,q⟩|⟨k,rfl,q⟩
 .let#[u,rfl,t,rfl]:=Qy r;show call_int_int #[-i,H,I,#[1],q]
 .let#[u,rfl,f]:=Qy r;cases f;show call_int_bool #[.int (if k then 1 else 0),H,I.tok _,#[1],q]
end
structure QW(h:aD)(x dx C:aj)(mA:jb):Prop where
 obj:h.get? x\vY C dx
 ns:h.Ns1 dx mA
 ne:dx≠x
theorem oC{h:aD}{g:jb}(n:h.Ns1 d g):∃ i,h.get? d\i/\∀ b,tQ b i\g b:=by
 let#[o,f,s,p,k,l,_,m]:=n;exists o,p;intro b;let e:=m b;unfold nsFind findBy at e;rw[<-Array.find?_toList] at e;unfold tQ;rw[k];dsimp only;split
 .rename_i y q
  rw[q] at e;show congrArg Z' e
 .rename_i q
  rw[q] at e;let a:f.toList.any (·.refKey)=false:=by
   rw[List.any_eq_false];intro y r;let#[z,t,c]:=l y (gI.mp r);simp[DictEntry.refKey,c]
  let j:¬ f.toList.any (·.refKey)=V':=#v[a,zP]
  rwa[aK j,congrArg Z' e]
theorem QW.look(I:QW h x c C d):∃ b,PySem.W.InstAt h x (vY C c) C (Z' b)/\∀ a,tQ a b\d a:=
 let #[b,ho,hl]:=oC I.ns
 #[b,#[I.obj,Z,Z,ho],hl]
section
variable{prog:am}{w:aw}{A:ax}{E:ja}{s:ak}{K:zZ}{x dx C f:aj}{mA:jb}{name:Str}{v:ai}
theorem u5{Q:ja}(X:K.In s.heap)(I:'Ļ')(d:vM K C name=V')(e:vX K C=V')(c:zB K (!C) name\Y')(i:mA name\v)(b:PySem.W.handedIn v=V')(h:Q v { s with toks:=s.toks+1 }):
  aB ↥_ A (getAttr (!x) name a) Q E s:=by
 let#[j,J,g]:=I.look;show PySem.W.get_value X J (qU d).1 (PySem.W.findObj_own e c Z (by rw[g,i])) b h
theorem sf{Q:ai×jd->ak->Prop}(X:K.In s.heap)(I:'Ļ')(a:vM K C name=V')(b:zB K (!C) name\Z' !f)(d:wM K (!f)=V')(e:mA name=Y')(h:Q (!f,[!x]) s):
  aB ↥_ A (getMethod (!x) name i) Q E s:=by
 let#[g,J,c]:=I.look;show PySem.W.method_fn X J (qU a).1 (qU a).2 b (beq_iff_eq.mp d) (by change (tQ name g).map (·.isSome)\false;rw[c,e];rfl) h
theorem uy{l:jn}(X:K.In s.heap)(I:'Ļ')(t:zB K (!C) "__setattr__"=Z' 'i')(q:uJ K C=V')(z:rZ K C name\Y')(p:vX K C=V')(B:PySem.Within mA l)(u:↑l<=aq)(h:∀ e,QW e x dx C (λy=>if y=name then Z' v else mA y)->xN dx s.heap e->Q .unit { s with heap:=e,toks:=s.toks+2 }):
  aB ↥_ A (setAttr (!x) name v) Q E s:=by
 let#[L,J,G]:=I.look;show PySem.W.set_plain X J t (PySem.W.osa_open (s:={ s with toks:=s.toks+1 }) (r:=Y') X J q z λb=>?_);let#[F,o,i]:=rV p;let D:s.heap.get? x\#[!C,Z' dx,.plain,⇑[]]:=I.obj;show aa (ae (aa (aa (wpAny_loadPart D (aa (wW.here (s:={ s with toks:=s.toks+1 }) (qV X o) ?_))))));rw[i];show ae (a:=Z' dx) (aa (ae (aa ?_)));show wpAny_nsSet1 (s:={ s with toks:=s.toks+1 }) I.ns λe c d=>?_;let#[H,n,m,k,j,g]:=c.count (PySem.Within.cons name v B);show aa (wpAny_lookBehind k #v[j,pastItsLine_dict (zJ g (by rw[zN];lia))] ?_)
 show ae (h _ #[(d.2 _ (Ne.symm I.ne))|||I.obj,c,I.ne] d)
theorem pz{R:Result->ak->Prop}{c:jd}{b:jE}(X:K.In s.heap)(j:uN K C=V')(i:zB K (!C) "__init__"=Z' (Z' !f))(e:wE K (!f)\.type "function")(h:codeAny ↥_ (A.under (.builtin "type.__call__" #[.ref C::c,b])) (.call (!f) #[.ref (‹s›+1)::c,b]) (PySem.W.InitBack (‹s›+1) R)
   { s with heap:=(s.heap.push wB).push (vY C ‹s›) }):
  codeAny ↥_ A (.call (!C) #[c,b]) R s:=by
 let#[k,g,d,t,l]:=s;show PySem.W.make_core (PySem.W.makes_of X j) (rF X i) (λa=>PySem.W.bind_fn X a e) (.inl Z) h
end
noncomputable def YW(f:Str)(v:V):List (Str×V)->List (Str×V)
 |[]=>[(f,v)]
 |(g,x)::r=>if g=f then (g,v)::r else (g,x)::YW f v r
theorem BY(f g)(v):∀ c,(YW f v c).lookup g=if g=f then Z' v else c.lookup g
 |[]=>by
  change wQ g [(f,v)]=_;by_cases h:g=f
  .let a:(g==f)=V':=beq_iff_eq.mpr h;simp only[wQ,a,aM h]
  .let a:(g==f)=false:=beq_eq_false_iff_ne.mpr h;simp only[wQ,a,aK h]
 |(k,x)::r=>by
  let d:=BY f g v r;rw[show YW f v ((k,x)::r)=(if k=f then (k,v)::r else (k,x)::YW f v r) from rfl]
  by_cases b:k=f
  .rw[aM b];by_cases h:g=k
   .let a:(g==k)=V':=beq_iff_eq.mpr h;simp only[wQ,a,aM (h|||b)]
   .let a:(g==k)=false:=beq_eq_false_iff_ne.mpr h;simp only[wQ,a,aK (λe:g=f=>h (e|||b.symm))]
  .rw[aK b];by_cases h:g=k
   .let a:(g==k)=V':=beq_iff_eq.mpr h;simp only[wQ,a,aK (λe:g=f=>b (h.symm|||e))]
   .let a:(g==k)=false:=beq_eq_false_iff_ne.mpr h;simp only[wQ,a];show d
theorem Kv(f)(v):∀ a,f∈(YW f v a).map (·.1)/\∀ g,g∈a.map (·.1)->g∈(YW f v a).map (·.1)
 |[]=>#[by simp[YW],λg h=>by simp at h]
 |(k,x)::r=>by
  let#[c,d]:=Kv f v r;rw[show YW f v ((k,x)::r)=(if k=f then (k,v)::r else (k,x)::YW f v r) from rfl]
  by_cases b:k=f
  .rw[aM b];subst b;show#[by simp,λg h=>#v[h]]
  .rw[aK b];show#[?_,λg h=>?_]
   .rwa[yX,zS _ c]
   .rw[yX] at h⊢;rcases zU.mp h with e|e
    .show zU.mpr (.inl e)
    .show zS _ (d g e)
theorem D9(f)(v):∀ a,↑(YW f v a)<=↑a+1
 |[]=>by simp[YW]
 |(k,x)::r=>by
  let c:=D9 f v r;rw[show YW f v ((k,x)::r)=(if k=f then (k,v)::r else (k,x)::YW f v r) from rfl]
  by_cases b:k=f
  .rw[aM b,zN,zN];lia
  .rw[aK b,zN,zN];lia
theorem Yp.some_of{v:V}{o:jc}(r:Yp (Z' v) o):∃ u,o\u/\ZT v u:=by
 cases o with
 |none=>show(show False from r).elim
 |some u=>show#[u,Z,r]
theorem Yp.none_of(r:Yp Y' o):o=Y':=by
 cases o with
 |none=>rfl
 |some u=>show(show False from r).elim
theorem oN(r:ZT v u):PySem.W.handedIn u=V':=by
 cases v with
 |non=>cases(show u=Value.none from r);rfl
 |bl b=>cases(show u=Value.bool b from r);rfl
 |int i=>let#[t,e]:=(show ∃ t,u=Value.int i t from r);cases e;rfl
 |str x=>let#[t,e]:=(show ∃ t,u=Value.str x t from r);cases e;rfl
 |byt b=>let#[t,e]:=(show ∃ t,u=Value.bytes b t from r);cases e;rfl
 |flt b=>let#[t,e]:=(show ∃ t,u=Value.float b t from r);cases e;rfl
 |ref a=>cases(show u=Value.ref a from r);rfl
 |ty n=>cases(show u=Value.type n from r);rfl
section
variable{P:am}{w:aw}{H H':Hp}{h h':aD}{a C dx:aj}{fs fs':List (Str×V)}
theorem Lh(c:XJ P w H h)(e:H a\.ins C dx fs):∃ b,QW h a dx C b/\(∀ f,Yp (fs.lookup f) (b f))/\PySem.Within b (fs.map (·.1))/\↑fs<=1000/\H dx\.own a:=by
 let#[d,z,g,i,b,n,r,q]:=(show Zk P w H h a (.ins C dx fs) from c a _ e);show#[b,#[i,n,g],r,q,z,d]
end
structure U5(K:zZ)(C:aj):Prop where
 pg:vM K C Str.empty=V'
 hd:vX K C=V'
 po:uJ K C=V'
 sa:zB K (!C) "__setattr__"=Z' 'i'
theorem U5.get{K:zZ}{C:aj}(c:U5 K C)(f:Str):vM K C f=V':=c.pg
def Z8(K:zZ)(C:aj)(f:Str):Prop:=zB K (!C) f\Y'
theorem Z8.taker{K:zZ}(n:Z8 K C f):rZ K C f\Y':=by
 unfold rZ;rw[show zB K (!C) f\Y' from n];rfl
structure Q7(K:zZ)(C:aj)(m:Str)(f:aj):Prop where
 at_:zB K (!C) m\Z' !f
 fn:wM K (!f)=V'
 kp:xX K (!f)=V'
section
variable{jV:jo}{σ:St}{H:Hp}{s:ak}{a C dx:aj}{fs:List (Str×V)}{f:Str}{v:V}{A:ax}{E:ja}
theorem FE{Q:ja}(I:'c')(e:H a\.ins C dx fs)(c:U5 X.K C)(n:Z8 X.K C f)(l:fs.lookup f\v)(h:∀ u g,ZH X jV σ H g->ZT v u->Q u g):aB ↥X A (getAttr (!a) f b) Q E s:=by
 let#[j,O,r,_,_,_]:=Lh I.hok e;let#[u,i,d]:=Yp.some_of (v:=v) (o:=j f) (by rwa[<-l,r f])
 show u5 I.kIn O (c.get f) c.hd n i (oN d) (h u _ 'č' d)
theorem Im{Q:ai×jd->ak->Prop}(I:'c')(e:H a\.ins C dx fs)(c:U5 X.K C)(k:Q7 X.K C m g)(l:fs.lookup m=Y')(h:Q (!g,[!a]) s):aB ↥X A (getMethod (!a) m i) Q E s:=by
 let#[d,O,r,_,_,_]:=Lh I.hok e;let b:d m=Y':=Yp.none_of (by rwa[<-l,r m])
 show sf I.kIn O (c.get m) k.at_ k.fn b h
theorem Dt(I:'c')(e:H a\.ins C dx fs)(c:U5 X.K C)(n:Z8 X.K C f)(J:↑fs<1000)(F:ZT y u)(h:∀ k,ZH X jV σ (upd H a (.ins C dx (YW f y fs))) k->Q .unit k):aB ↥X A (setAttr (!a) f u) Q E s:=by
 let#[j,O,r,l,_,i]:=Lh I.hok e;let D:↑(fs.map (·.1))<=sizeLine:=by rw[zW,sizeLine_eq];lia
 show uy I.kIn O c.sa c.po n.taker c.hd l D λm d G=>h _ ?_;let t:∃ o,m.get? dx\o:=let #[o,_,_,e',_]:=d.ns;#[o,e'];show I.write (x:=a) (e:=dx) #v[e,True.intro] (.inr i) (λb q p z=>(G.2 b p)|||z) t ?_
 show#[#v[ZU O.ne,i],?_,O.ne,d.obj,_,d.ns,λg=>?_,λg B=>?_]
 .have:=D9 f y fs;lia
 .change Yp ((YW f y fs).lookup g) (if g=f then Z' u else j g)
  rw[BY];by_cases q:g=f
  .rwa[aM q,aM q,F]
  .rwa[aK q,aK q,r g]
 .by_cases q:g=f
  .rwa[q,(Kv f y fs).1]
  .show(Kv f y fs).2 g (l g λz=>B ?_);change (if g=f then Z' u else j g)=Y'
   rwa[aK q,z]
theorem ZH.made(I:'c'):ZH X jV σ (upd (upd H ‹s› (.own (‹s›+1))) (‹s›+1) (.ins C ‹s› []))
  { s with heap:=(s.heap.push wB).push (vY C ‹s›) }:=by
 let c:(s.heap.push wB).get? ‹s›\wB:=yI s.heap Z;let h:((s.heap.push wB).push (vY C ‹s›)).get? (‹s›+1)\vY C ‹s›:=by
  have:=yI (s.heap.push wB) (o:=vY C ‹s›) Z
  rw[rG] at this;assumption
 let i:(s.heap.push wB).Ns ‹s› (λ_=>Y'):=#[wB,⇑[],_,c,Z,(λe j=>gS j ⋯),λ_=>rfl]
 let g:=I.laid (a:=‹s›) (o:=.own (‹s›+1)) (h':=s.heap.push wB) (t':=s.toks) (λb u q=>zD _ q) (zY _) #[_,c];show g.laid (a:=‹s›+1) (o:=.ins C ‹s› []) (t':=s.toks) (λb u q=>zD _ q) (vI (rG _ _)) ?_;let d:‹s›≠‹s›+1:=yK (wC _);show#[by rw[ZU d,Za],yY _,d,h,λ_=>Y',(Heap.Ns1.of_empty i).at λo q=>zD _ q,λ_=>True.intro,λy k=>gS Z k]
theorem va{Q:ja}(g:attributeBase e f b (aG e b)=aG e b)(h:aB (aA c w) A (aG e b) (λo d=>aB (aA c w) A (getAttr o f true) Q E d) E s):aB (aA c w) A (aG 'Ę' b) Q E s:=
 Attribute_any_ h (by rw[arm_eval_Attribute,g])
end
inductive Mx(K:zZ)(f:Str)(Q:VK)(x:V)(b:Hp):Prop
 |mk(a C d c v:_)(_:x=!a)(_:b a\.ins C d c)(_:U5 K C)(_:Z8 K C f)(_:c.lookup f\v)(_:Q v b)
def DQ(K:zZ)(b:TE)(f:Str):TE:=λc H Q=>b c H λx a=>Mx K f Q x a
inductive LD(K:zZ)(f:Str)(D:YK)(e:_T.St)(y x:V)(c:Hp):Prop
 |mk(a C d b:_)(_:x=!a)(_:c a\.ins C d b)(_:U5 K C)(_:Z8 K C f)(_:↑b<1000)(_:D.nx e (upd c a (.ins C d (YW f y b))))
def Sm(K:zZ)(d e:TE)(f:Str):TS:=λD a H=>e a H λy b=>d a b λx c=>LD K f D a y x c
def K2(X:Cx)(c:Operator)(rd:V->V->Hp->VK->Prop):Prop:=
 ∀(a:jo)(s:ak)(b:St)(H:Hp)(x y:V)(u v:ai)(Q:VK),ZH X a b H s->ZT x u->ZT y v->rd x y H Q->aB ↥X X.A (inplaceOp c u v) 'Ğ' X.xe s
inductive Pj(K:zZ)(k:TE)(rd:V->V->Hp->VK->Prop)(f:Str)(D:YK)(h:_T.St)(x:V)(d:Hp):Prop
 |mk(a C j g v:_)(_:x=!a)(_:d a\.ins C j g)(_:U5 K C)(_:Z8 K C f)(_:g.lookup f\v)(_:k h d λy i=>rd v y i λz e=>∃ c b,e a\.ins C c b/\↑b<1000/\D.nx h (upd e a (.ins C c (YW f z b))))
def um(K:zZ)(c d:TE)(rd:V->V->Hp->VK->Prop)(f:Str):TS:=λD a H=>c a H λx b=>Pj K d rd f D a x b
section
variable{o e value:Expr}{f:Str}{pos pos' tpos:Pos}{ta tv:TE}
theorem XS(p:PE X e ta)(m:attributeBase e f X.env 'ń'=aG e X.env):PE X 'Ę' (DQ X.K ta f):=by
 intro b s w H Q I h;show va m (Z7 (p b s w H _ I h) ?_);rintro u A ⟨x,d,g,t,a,C,y,z,v,k,j,c,n,l,q⟩;subst k;obtain rfl:u=Value.ref a:=t;show FE g j c n l λD B i r=>#[v,d,i,r,q]
theorem QK(r:PE X o ta)(v:'ŀ')(t:swapsWith value 'ŕ' pos.line X.env=pure false):PS X (.Assign [.Attribute o f pos'] value pos) (Sm X.K ta tv f):=by
 intro b s d H D I h;show plainObj_wpAny_Assign_Attribute (YG (v b s d H _ I h) λu E y g i B q=>Z7 (r b E d g _ i q) λw L ⟨x,F,j,A,a,C,G,J,p,m,c,n,l,z⟩=>?_) t;subst p;obtain rfl:w=Value.ref a:=A;show Dt j m c n l B λM k=>#[d,_,k,z]
theorem Mp(J:PE X o ta)(L:'ŀ')(i:K2 X j rd):PS X (.AugAssign (.Attribute o f tpos) j value pos) (um X.K ta tv rd f):=by
 intro b s d H D I h;show wpAny_AugAssign_AttributeAny (Z7 (J b s d H _ I h) ?_);rintro N s1 ⟨x,k,p,R,a,C,dx,fs,v,F,E,c,n,l,q⟩;subst F;obtain rfl:N=Value.ref a:=R;show FE p E c n l λu U r Q=>YG (L b U d k _ r q) λY W y m t S O=>Z7 (i b W d m v y u Y _ t Q S O) ?_;rintro w4 s4 ⟨z,H3,w,T,B,G,g,M,P⟩;show Dt w g c n M T λs5 A=>#[d,_,A,P]
inductive Hn(x y:V)(H:Hp)(Q:VK):Prop
 |mk(i j:_)(_:x=.int i)(_:y=.int j)(_:Q (.int (i+j)) H)
inductive Hx(x y:V)(H:Hp)(Q:VK):Prop
 |mk(i j:_)(_:x=.int i)(_:y=.int j)(_:Q (.int (i-j)) H)
theorem Fq:K2 X .Add Hn:=by
 rintro a s g H x y u v Q I c d ⟨i,j,rfl,rfl,q⟩;let#[t,rfl]:=(show ∃ t,u=Value.int i t from c);let#[b,rfl]:=(show ∃ b,v=Value.int j b from d);show PyProof.Rows.iadd_int #[.int (i+j),H,I.tok _,#[1],q]
theorem Lc:K2 X .Sub Hx:=by
 rintro a s g H x y u v Q I c d ⟨i,j,rfl,rfl,q⟩;let#[t,rfl]:=(show ∃ t,u=Value.int i t from c);let#[b,rfl]:=(show ∃ b,v=Value.int j b from d);show PyProof.Rows.isub_int #[.int (i-j),H,I.tok _,#[1],q]
end
section
variable{jV:jo}{σ:St}{H:Hp}{s:ak}{A:ax}{E Q:ja}{c:ai}{b:Bool}
inductive Xu(K:zZ)(H:Hp):V->ai->Prop where
 |non:Xu K H .non (.type "NoneType")
 |bl (x:Bool):Xu K H (.bl x) 'î'
 |int (i:Int):Xu K H (.int i) 'J'
 |str (x:Str):Xu K H (.str x) 'O'
 |flt (x:UInt64):Xu K H (.flt x) (.type "float")
 |lst {a:aj} {xs:je} (e:H a\.lst xs):Xu K H (.ref a) 'í'
 |frz {a:aj} {o:aH} {xs:je} (e:H a\.frz o (.lst xs)):Xu K H (.ref a) 'í'
 |tup {a:aj} {xs:je} (e:H a\.tup xs):Xu K H (.ref a) 'w'
 |dK {a:aj} {kvs:List (ZY×V)} (e:H a\.dK kvs):Xu K H (.ref a) (.type "dict")
 |dT {a:aj} {kvs:List (jx×V)} (e:H a\.dT kvs):Xu K H (.ref a) (.type "dict")
 |ins {a C dx:aj} {fs:List (Str×V)} (e:H a\.ins C dx fs) (cl:U5 K C) (ha:zB K (.ref C) "__class__"=Z' (Z' 'h'))
   (hn:PySem.W.specialIn K 'h' "__get__"=Z' 'M') (htk:PySem.W.takesIn K 'h'\true)
   (hm:xE K C 'Ĺ'\true):Xu K H (!a) !C
theorem ox(I:'c')(f:ZT x u)(N:Xu X.K H x t)(e:xM X.K t c\b)(h:∀ M,Q (.bool b) { s with toks:=M }):
  aB ↥X A (call 'õ' [u,c]) Q E s:=by
 cases N with
 |non=>cases(show u=Value.none from f);show wV PySem.W.kitx_none I.kIn True.intro e (λz=>nomatch z) h
 |bl y=>cases(show u=Value.bool y from f);show wV PySem.W.kitx_bool I.kIn True.intro e (λz=>nomatch z) h
 |int i=>let#[t,q]:=(show ∃ t,u=Value.int i t from f);cases q;show wV PySem.W.kitx_int I.kIn True.intro e (λz=>nomatch z) h
 |str y=>let#[t,q]:=(show ∃ t,u=Value.str y t from f);cases q;show wV PySem.W.kitx_str I.kIn True.intro e (λz=>nomatch z) h
 |flt y=>let#[t,q]:=(show ∃ t,u=Value.float y t from f);cases q;show wV PySem.W.kitx_float I.kIn True.intro e (λz=>nomatch z) h
 |@lst a k d=>
  cases(show u=Value.ref a from f);let#[_,_,n,_,g]:=(show Zk X.prog X.w H s.heap a (.lst k) from I.hok a _ d);show wV PySem.W.kitx_list I.kIn #[_,g,Z] e (λz=>nomatch z) h
 |@frz a L k d=>
  cases(show u=Value.ref a from f);let#[_,_,_,n,_,g]:=(show Zk X.prog X.w H s.heap a (.frz L (.lst k)) from I.hok a _ d);show wV PySem.W.kitx_list I.kIn #[_,g,Z] e (λz=>nomatch z) h
 |@tup a k d=>
  cases(show u=Value.ref a from f);let#[_,_,_,p]:=(show Zk X.prog X.w H s.heap a (.tup k) from I.hok a _ d);let#[o,g,l,_]:=p;show wV PySem.W.kitx_tuple I.kIn #[o,g,l] e (λz=>nomatch z) h
 |@dK a j d=>
  cases(show u=Value.ref a from f);let#[_,_,U,_,p]:=(show Zk X.prog X.w H s.heap a (.dK j) from I.hok a _ d);let#[o,B,v,g,l,_]:=p;show wV PySem.W.kitx_dict I.kIn #[o,g,l.1] e (λz=>nomatch z) h
 |@dT a j d=>
  cases(show u=Value.ref a from f);let#[_,_,k,_,o,B,v,g,l,_]:=(show Zk X.prog X.w H s.heap a (.dT j) from I.hok a _ d);show wV PySem.W.kitx_dict I.kIn #[o,g,l.1] e (λz=>nomatch z) h
 |@ins a C P R d r D G m F=>
  cases(show u=Value.ref a from f);let#[S,O,_]:=Lh I.hok d;let#[T,J,_]:=O.look;show wV (PySem.W.kitx_own (r.get _) r.hd D G m F) I.kIn J e (λz=>nomatch z) h
end
structure ZX(k:Nat)(A:ax):Prop where
 hd:A.handled=Y'
 dp:A.depth+3*k+5<recursionLimit
 un:A.units+16*k+200<cLine
theorem ZX.mono(r:ZX k A)(h:j<=k):ZX j A:=#[r.hd,by have:=r.dp;lia,by have:=r.un;lia]
theorem ZX.to(r:ZX j A)(k)(h:k<=j:=by decide):ZX k A:=r.mono h
theorem ZX.deeper(r:ZX (k+1) A)(a):ZX k (A.deeper a):=
 #[r.hd,by have:=r.dp;change A.depth+1+3*k+5<_;lia,by have:=r.un;change A.units+3+16*k+200<_;lia]
theorem ZX.in1{k:Nat}{A:ax}(r:ZX (k+1) A):ZX k A.in1:=
 #[r.hd,by have:=r.dp;change A.depth+3*k+5<_;lia,by have:=r.un;change A.units+1+16*k+200<_;lia]
theorem lM{A:ax}{b:jd}{a:jE}:(A.under (.builtin "type.__call__" #[.ref C::b,a])).depth=A.depth+1:=by
 first|rfl|simp[Around.under,Code.weight,Code.isCreation,Code.isGuard,Code.isCaller,Code.frames,Code.isFrame,guardIds]
theorem lJ{A:ax}{b:jd}{a:jE}:(A.under (.builtin "type.__call__" #[.ref C::b,a])).units=A.units+1:=by
 first|rfl|simp[Around.under,Code.cUnits,Code.frames,Code.isFrame]
theorem ZX.make(r:ZX (k+1) A)(C)(b:jd)(a:jE):ZX k (A.under (.builtin "type.__call__" #[.ref C::b,a])):=
 #[r.hd,by have:=r.dp;rw[lM];lia,by have:=r.un;rw[lJ];lia]
theorem ZX.depth(r:ZX k A):A.depth<recursionLimit:=by have:=r.dp;lia
theorem ZX.units(r:ZX k A):A.units+64<cLine:=by have:=r.un;lia
theorem ZX.units0(r:ZX k A):A.units<cLine:=by have:=r.un;lia
noncomputable def PM:TA:=λ_ H Q=>Q [] H
def Vw(d:TE)(e:TA):TA:=λa H Q=>d a H λx b=>e a b λf c=>Q (x::f) c
section
variable{e:Expr}{es:jv}{te:TE}{t:TA}{pos:Pos}
theorem Zt:PA X [] PM:=λ_ _ _ _ H Q I h=>Calls.spliced_nil #[[],H,I,.nil,h]
theorem Zi(i:PE X e te)(j:PA X es t)(k:ar (e::es) X.env=(false,aG e X.env)::ar es X.env:=by rfl):PA X (e::es) (Vw te t):=by
 intro pos a s b H Q I h;rw[k];change aB _ _ (spliced ((false,aG e X.env)::aF pos (ar es X.env))) _ _ s;show Calls.spliced_cons (YG (i a s b H _ I h) λu p x c f n l=>?_);show YG (j pos a p b c _ f l) λv r q d g o m=>#[x::q,d,g,.cons n o,m]
def Sq(t:TA):TE:=λc H Q=>t c H λb a=>↑b<=aq/\∀ p,a p=Y'->Q (!p) (upd a p (.tup b))
def So(t:TA):TE:=λc H Q=>t c H λb a=>↑b<=aq/\∀ p,a p=Y'->Q (!p) (upd a p (.lst b))
theorem UF(h:PA X es t):PE X (.Tuple es k pos) (Sq t):=by
 intro a s m H Q I i;show wpAny_Tuple_spliced (Z7 (h pos a s m H _ I i) λj c ⟨l,d,f,r,z,q⟩=>#[by rwa[<-↑r,z],?_])
 let g:d ‹c›=Y':=f.hok.fresh (zY _);show#[.ref ‹c›,upd d ‹c› (.tup l),f.laid (t':=c.toks) (λb u e=>zD _ e) (zY _) ?_,Z,q _ g];show#[z,j,r,#[_,yI _ Z,Z,1]]
theorem Yy(h:PA X es t):PE X (.List es pos) (So t):=by
 intro a s l H Q I i;show wpAny_List_spliced (Z7 (h pos a s l H _ I i) λj c ⟨k,d,f,r,z,q⟩=>#[by rwa[<-↑r,z],?_])
 let g:d ‹c›=Y':=f.hok.fresh (zY _);show#[.ref ‹c›,upd d ‹c› (.lst k),f.laid (t':=c.toks) (λb u e=>zD _ e) (zY _) ?_,Z,q _ g];show#[z,j,(0),r,yI _ Z]
end
abbrev Sp:=je->Hp->VK->XK->Prop
abbrev UV:=jt->Hp->ak->XK->ja
structure U7(P:am)(w:aw)(K:zZ)(mg:jb)(jW:aD)(A:ax)(outer:jt)(s:ak)(H:Hp):Prop where
 frames:A.frames\outer
 mod:Mod K mg jW
 bs:∀ b o,jW.get? b\o->s.heap.get? b\o/\H b=Y'
 bsz:jW.objs.size<=‹s›
 funs:s.heap.FunFrames jW outer
 frf:∀ b∈frs outer,H b=Y'
 hok:XJ P w H s.heap
 bare:AllBare s.gens
def CE(a:jt)(P:am)(w:aw)(H:Hp)(s:ak)(Q:VK)(u:ai)(b:ak):Prop:=
 ∃ v c,b.os=s.os/\AllBare b.gens/\Un (frs a) [] H c s.heap b.heap/\XJ P w c b.heap/\ZT v u/\Q v c
def CR(c:UV)(a:jt)(P:am)(w:aw)(H:Hp)(s:ak)(Q:VK)(E:XK)(r:Result)(b:ak):Prop:=
 match r with
 |.ok (.ret u)=>CE a P w H s Q u b
 |.ok _=>False
 |.error e=>c a H s E e b
structure ZI(P:am)(w:aw)(K:zZ)(mg:jb)(jW:aD)(CX:UV)(k:Nat)(f:aj)(fd:ao)(ps:jn)(sp:Sp):Prop where
 len:∀ vs H Q E,sp vs H Q E->↑vs=↑ps
 run:∀(A:ax)(outer:jt)(s:ak)(H:Hp)(args:Args)(us:jd)(vs:je)(Q:VK)(E:XK),ZX k A->U7 P w K mg jW A outer s H->BindsTo s fd args (ps.zip us)->ZS vs us->sp vs H Q E ->
  codeAny (aA P w) A (.call (!f) args) (CR CX outer P w H s Q E) s
theorem ZI.imp{K:zZ}(F:ZI P w K i a e k f g j l)(h:∀ c H Q E,d c H Q E->l c H Q E):ZI P w K i a e k f g j d:=
 #[λc H Q E q=>F.len c H Q E (h _ _ _ _ q),λA b s H args t c Q E o n m r p=>F.run A b s H args t c Q E o n m r (h _ _ _ _ p)]
theorem U7.make{K:zZ}(e:U7 P w K c b A a s H)(C)(f:jd)(d:jE):
  U7 P w K c b (A.under (.builtin "type.__call__" #[.ref C::f,d])) a s H:=#[by first|show e.frames|(simpa [Around.under,Code.envs,Code.isFrame,pushEnvs] using e.frames),e.mod,e.bs,e.bsz,e.funs,e.frf,e.hok,e.bare]
section
variable{jV:jo}{σ:St}{H:Hp}{s s':ak}
theorem ZH.env0(I:'c'):U7 X.prog X.w X.K X.mg X.base X.A X.stack s H:=
 #[I.ok.frames,I.ok.mod,I.bs,zJ I.ok.bsz I.sz,I.stack,I.stkFree,I.hok,I.bare]
theorem ZH.after(I:'c')(h:CE X.stack X.prog X.w H s Q u s'):EP X jV σ Q u s':=by
 let#[v,f,j,a,k,c,r,q]:=h;let#[i,g,d,t,e]:=s';obtain rfl:e=s.os:=j;show#[v,f,I.call (h':=i) (g':=g) (d':=d) (t':=t) (ch:=[]) k c a (λb z=>gS z ⋯),r,q]
end
def Fz(c:Sp)(a:je)(E:XK)(t:TA):TE:=λe H Q=>t e H λd b=>c (d++a) b Q E
inductive Nf(C:aj)(m:Str)(g:Sp)(b:je)(E:XK)(t:TA)(i:_T.St)(Q:VK)(x:V)(c:Hp):Prop
 |mk(a f d:_)(_:x=!a)(_:c a\.ins C f d)(_:d.lookup m=Y')(_:t i c λh e=>g (x::(h++b)) e Q E)
def Lw(C:aj)(m:Str)(d:Sp)(a:je)(E:XK)(e:TE)(t:TA):TE:=λb H Q=>e b H λx c=>Nf C m d a E t b Q x c
def Mr(C:aj)(e:Sp)(c:je)(E:XK)(t:TA):TE:=λg H Q=>t g H λf b=>∀ x a,b x=Y'->b a=Y'->a≠x ->
 e (.ref x::(f++c)) (upd (upd b a (.own x)) x (.ins C a [])) (λv d=>v=.non/\Q (!x) d) E
def Zx(K:zZ)(d:ao)(c:jn)(b:jd):Prop:=
 ∀(s:ak)(a:jd),K.In s.heap->↑(a++b)=↑c->BindsTo s d #[a,[]] (c.zip (a++b))
theorem Zx.all{K:zZ}(h:∀ a:jd,↑a=↑b->bindArgs c #[a,[]]=pure (b.zip a)):Zx K c b []:=λs a _ d=>by
 rw[zC] at d⊢;show .of_eq (h a d)
def Pa(c:UV)(X:Cx)(E:XK):=∀(a:jo)(d:St)(H:Hp)(s:ak)(e:ai)(b:ak),ZH X a d H s->c X.stack H s E e b->X.xe e b
section
variable{CX:UV}{k:Nat}{f C:aj}{fd:ao}{ps:jn}{sp:Sp}{ji:je}{ds:jd}{E:XK}{x m:Str}{p pos jh:Pos}{e o:Expr}{es:jv}{ta:TE}{t:TA}
theorem JD{a:jo}{c:St}{H:Hp}{s:ak}{Q:VK}{us:jd}{vs:je}(F:ZI X.prog X.w X.K X.mg X.base CX k f fd ps sp)(n:ZX k X.A)(i:'0')(j:ZS ji ds)(q:Pa CX X E)(I:ZH X a c H s)(r:ZS vs us)(h:sp (vs++ji) H Q E):aB ↥X X.A (call (!f) us) (EP X a c Q) X.xe s:=by
 let d:ZS (vs++ji) (us++ds):=r.append j;let l:↑(us++ds)=↑ps:=by rwa[<-↑d,F.len _ _ _ _ h]
 show wpAny_call (codeAny_mono (F.run X.A X.stack s H #[us,[]] (us++ds) (vs++ji) Q E n I.env0 (i s us I.kIn l) d h) λr v b=>?_)
 cases r with
 |error e=>show q a c H s e v I b
 |ok g=>
  cases g with
  |ret u=>show I.after b
  |next=>show False.elim b
  |brk=>show False.elim b
  |cont=>show False.elim b
theorem u4(F:ZI X.prog X.w X.K X.mg X.base CX k f fd ps sp)(y:ZX k X.A)(n:Gl X x)(v:X.mg x\!f)(u:xX X.K (!f)=V')(i:'0')(j:ZS ji ds)(z:Pa CX X E)(g:PA X (e::es) t)(b:(x==("__debug__":Str))=false:=by decide)(l:ar (e::es) X.env=(false,aG e X.env)::ar es X.env:=by rfl)(c:(aF pos ',').any (·.1)=false:=by rfl):
  PE X (.Call 'X' (e::es) [] pos) (Fz sp ji E t):=by
 intro a s B H Q I h;show ah (MH I n v ?_ b);show uI (h₀:=X.base) I.ok.mod.kin u (YG (g pos a s B H _ I h) λJ G L D d r q=>#[d.kIn,?_]) l c;show JD F y i j z d r q
theorem wm{v:Sem Bool}(M:PE X o ta)(c:U5 X.K C)(n:Q7 X.K C m f)(F:ZI X.prog X.w X.K X.mg X.base CX k f fd ps sp)(N:ZX k X.A)(J:'0')(L:ZS ji ds)(P:Pa CX X E)(G:PA X (e::es) t)(g:ar (e::es) X.env=(false,aG e X.env)::ar es X.env:=by rfl)(d:(aF pos ',').any (·.1)=false:=by rfl)(O:aG (.Call 'G' (e::es) [] pos) X.env=(do
   let ov<-aG o X.env
   standAt jh.atName
   let (f,first)<-holding [ov] (getMethod ov m v)
   callWith pos f first (aF pos (ar (e::es) X.env)) (backToKw pos (keywordEach [] X.env))):=by rfl):
  PE X (.Call 'G' (e::es) [] pos) (Lw C m sp ji E ta t):=by
 intro b s y H Q I h;show rB (pl:=v) (Z7 (M b s y H _ I h) λu T ⟨x,z,i,S,a,dx,fs,D,B,l,q⟩=>?_) O;subst D;obtain rfl:u=Value.ref a:=S;show Im i B c n l ?_;show uI (first:=[!a]) (h₀:=X.base) I.ok.mod.kin n.kp (YG (G pos b T y z _ i q) λU s2 V Y j r R=>#[j.kIn,?_]) g d
 show JD (us:=.ref a::U) (vs:=.ref a::V) F N J L P j (.cons Z r) R
theorem rh(y:PE X o ta)(c:U5 X.K C)(g:Q7 X.K C m f)(F:ZI X.prog X.w X.K X.mg X.base CX k f fd ps sp)(z:ZX k X.A)(r:'0')(v:ZS ji ds)(D:Pa CX X E)(B:aG (.Call 'G' [] [] pos) X.env=(do
   let ov<-aG o X.env
   standAt jh.atName
   let (f,first)<-holding [ov] (getMethod ov m i)
   callWith pos f first (aF pos (ar [] X.env)) (backToKw pos (keywordEach [] X.env))):=by rfl):
  PE X (.Call 'G' [] [] pos) (Lw C m sp ji E ta PM):=by
 intro b s J H Q I h;show rB (pl:=i) (Z7 (y b s J H _ I h) λu O ⟨x,L,d,G,a,M,N,n,j,l,q⟩=>?_) B;subst n;obtain rfl:u=Value.ref a:=G;show Im d j c g l ?_;show gP (first:=[!a]) d.kIn g.kp (JD (us:=[!a]) (vs:=[!a]) F z r v D d (.cons Z .nil) q)
structure Mk(K:zZ)(C f:aj):Prop where
 makes:uN K C=V'
 init:zB K (!C) "__init__"=Z' (Z' !f)
 fn:wM K (!f)=V'
 kp:xX K (!C)=V'
theorem CZ{b:jo}{i:St}{H:Hp}{s:ak}{Q:VK}{us:jd}{g:je}(M:Mk X.K C f)(F:ZI X.prog X.w X.K X.mg X.base CX k f fd ps sp)(L:ZX (k+1) X.A)(D:'0')(G:ZS ji ds)(N:Pa CX X E)(I:ZH X b i H s)(r:ZS g us)(h:∀ x d,H x=Y'->H d=Y'->d≠x->sp (.ref x::(g++ji)) (upd (upd H d (.own x)) x (.ins C d [])) (λv q=>v=.non/\Q (!x) q) E):
  aB ↥X X.A (call (!C) us) (EP X b i Q) X.xe s:=by
 let j:=h (‹s›+1) ‹s› (I.hok.fresh (vK _)) '^' (yK (wC _));let c:=ZH.made (C:=C) I;let l:ZS (V.ref (‹s›+1)::(g++ji)) (Value.ref (‹s›+1)::(us++ds)):=.cons Z (r.append G);let J:↑(Value.ref (‹s›+1)::us++ds)=↑ps:=by
  let e:=↑l;rw[F.len _ _ _ _ j] at e;show e.symm
 show wpAny_call (pz (f:=f) I.kIn M.makes M.init (beq_iff_eq.mp M.fn) (codeAny_mono (F.run _ X.stack _ _ #[Value.ref (‹s›+1)::us,[]] (Value.ref (‹s›+1)::(us++ds)) _ _ E (L.make C us [])
  (c.env0.make C us []) (D _ (Value.ref (‹s›+1)::us) c.kIn J) l j) λr R a=>?_))
 cases r with
 |error e=>show N b i _ _ e R c a
 |ok B=>
  cases B with
  |ret u=>
   let#[v,n,y,P,z,O]:=c.after a;subst z;show#[P,#[V.ref (‹s›+1),n,y,Z,O]]
  |next=>show False.elim a
  |brk=>show False.elim a
  |cont=>show False.elim a
theorem Fx(M:Mk X.K C f)(F:ZI X.prog X.w X.K X.mg X.base CX k f fd ps sp)(v:ZX (k+1) X.A)(n:Gl X x)(u:X.mg x\!C)(i:'0')(j:ZS ji ds)(y:Pa CX X E)(g:PA X (e::es) t)(b:(x==("__debug__":Str))=false:=by decide)(l:ar (e::es) X.env=(false,aG e X.env)::ar es X.env:=by rfl)(c:(aF pos ',').any (·.1)=false:=by rfl):
  PE X (.Call 'X' (e::es) [] pos) (Mr C sp ji E t):=by
 intro a s z H Q I h;show ah (MH I n u ?_ b);show uI (h₀:=X.base) I.ok.mod.kin M.kp (YG (g pos a s z H _ I h) λG D J B d r q=>#[d.kIn,?_]) l c;show CZ M F v i j y d r q
theorem oq(M:Mk X.K C f)(F:ZI X.prog X.w X.K X.mg X.base CX k f fd ps sp)(j:ZX (k+1) X.A)(g:Gl X x)(i:X.mg x\!C)(c:'0')(d:ZS ji ds)(l:Pa CX X E)(a:(x==("__debug__":Str))=false:=by decide):PE X (.Call 'X' [] [] pos) (Mr C sp ji E PM):=by
 intro b s n H Q I h;show ah (MH I g i ?_ a);show gP I.kIn M.kp (CZ (us:=[]) M F j c d l I .nil h)
end
def PK(X:Cx)(b:List Keyword)(t:TA):Prop:=
 ∀(pos:Pos)(a:jo)(s:ak)(c:St)(H:Hp)(Q:je->Hp->Prop),ZH X a c H s->t c H Q->aB ↥X X.A (evalAll ((backToKw pos (keywordEach b X.env)).map (·.2))) (AP X a c Q) X.xe s
section
variable{CX:UV}{k:Nat}{f C:aj}{fd:ao}{ps ks:jn}{sp:Sp}{E:XK}{x m:Str}{p pos jh kpos:Pos}{e o:Expr}{es:jv}{kws:List Keyword}{te ta:TE}{t tk:TA}{nm:Option Str}
theorem wg:PK X [] PM:=λ_ _ _ _ H Q I h=>wpAny_evalAll_nil #[[],H,I,.nil,h]
theorem xh(j:PE X e te)(l:PK X kws t):PK X (#[nm,e,kpos]::kws) (Vw te t):=by
 intro pos a s b H Q I h;change aB _ _ (evalAll ((do let v<-aG e X.env;standAt pos;pure v)::(backToKw pos (keywordEach kws X.env)).map (·.2))) _ _ s
 show wpAny_evalAll_cons (aa (YG (j a s b H _ I h) λu y x c g r n=>aa (wpAny_standAt (ae ?_))));show YG (l pos a y b c _ g n) λB A z d i w q=>#[x::z,d,i,.cons r w,q]
variable{g:jd->jd->jd}{gV:je->je->je}
end
structure ZC(N P:jn)(sc:aE):Prop where
 kind:sc.kind=.function
 co:sc.isCoroutine=false
 gen:sc.isGenerator=false
 nd:N.Nodup
 pre:N.take ↑P=P
 par:∀ x∈P,sc.names.lookup x\.local\/sc.names.lookup x\.cell
 nofree:∀ y∈sc.names,y.2≠.free
theorem Zo{N P:jn}{a:aE}(b:a.kind=.function:=by rfl)(c:a.isCoroutine=false:=by rfl)(d:a.isGenerator=false:=by rfl)(e:N.Nodup:=by decide +kernel)(f:N.take ↑P=P:=by rfl)(g:∀ x∈P,a.names.lookup x\.local\/a.names.lookup x\.cell:=by decide +kernel)(h:∀ y∈a.names,y.2≠.free:=by decide +kernel):ZC N P a:=#[b,c,d,e,f,g,h]
theorem FS{kindOf:Str->Option NameKind}:∀{a:jE}{m:jb},(∀ v,(x,v)∉a)->bindL kindOf a m x=m x
 |[],_,_=>rfl
 |(n,v)::r,m,h=>by
  unfold bindL;rw[FS λw b=>h w (zS _ b)];split
  .have:x≠n:=by rintro rfl;show h v zX
   simp[this]
  .rfl
theorem Ep{kindOf:Str->Option NameKind}:∀{a:jE}{m:jb},(∀ v,(x,v)∉a)->bindC kindOf a m x=m x
 |[],_,_=>rfl
 |(n,v)::r,m,h=>by
  unfold bindC;rw[Ep λw b=>h w (zS _ b)];split
  .rfl
  .have:x≠n:=by rintro rfl;show h v zX
   simp[this]
theorem EI{kindOf:Str->Option NameKind}{x:Str}{v:ai}:∀{P:jn}{a:jd}{i:Nat}{m:jb},P.Nodup->P[i]?\x->a[i]?\v->kindOf x=Z' .local ->
  bindL kindOf (P.zip a) m x\v
 |[],_,_,_,_,h,_,_=>by simp at h
 |_::_,[],_,_,_,_,h,_=>by simp at h
 |p::P,w::a,0,m,nd,h1,h2,hk=>by
  simp at h1 h2;subst h1;subst h2;change bindL kindOf ((p,w)::P.zip a) m p=_;unfold bindL;rw[FS λv b=>(yQ.mp nd).1 (sI b).1,aM hk];simp
 |p::P,w::a,i+1,m,nd,h1,h2,hk=>by
  change bindL kindOf ((p,w)::P.zip a) m x=_;unfold bindL;show EI (i:=i) (yQ.mp nd).2 #v[h1] #v[h2] hk
theorem EW{kindOf:Str->Option NameKind}{x:Str}{v:ai}:∀{P:jn}{a:jd}{i:Nat}{m:jb},P.Nodup->P[i]?\x->a[i]?\v->kindOf x≠Z' .local ->
  bindC kindOf (P.zip a) m x\v
 |[],_,_,_,_,h,_,_=>by simp at h
 |_::_,[],_,_,_,_,h,_=>by simp at h
 |p::P,w::a,0,m,nd,h1,h2,hk=>by
  simp at h1 h2;subst h1;subst h2;change bindC kindOf ((p,w)::P.zip a) m p=_;unfold bindC;rw[Ep λv b=>(yQ.mp nd).1 (sI b).1,aK hk];simp
 |p::P,w::a,i+1,m,nd,h1,h2,hk=>by
  change bindC kindOf ((p,w)::P.zip a) m x=_;unfold bindC;show EW (i:=i) (yQ.mp nd).2 #v[h1] #v[h2] hk
def PF(N:jn)(a:je):St:=a.map Z'++vS (↑N-↑a) Y'
def Wk(CX:UV)(P:am)(w:aw)(K:zZ)(mg:jb)(jW:aD)(N:jn)(qual:Str)(scope:aE)(f:aj)(cd:ai)(A:ax)(outer:jt)(s:ak)(H:Hp)(E:XK):Cx where
 prog:=P
 w:=w
 K:=K
 mg:=mg
 base:=jW
 A:=A.deeper (envOfC qual scope ‹s› f cd)
 N:=N
 s₀:=s
 H₀:=H
 env:=envOfC qual scope ‹s› f cd
 outer:=outer
 stack:=envOfC qual scope ‹s› f cd::outer
 ex:=[]
 calm:=true
 fn:=λ_=>true
 pn:=[]
 xe:=λe s'=>aB (aA P w) (A.deeper (envOfC qual scope ‹s› f cd)) (leaving (envOfC qual scope ‹s› f cd) e) (λ_ s''=>CX outer H s E e s'') (λe' s''=>CX outer H s E e' s'') s'
theorem Fs{a:aE}{n:Nat}{x:Str}(h:a.names.lookup x\.cell):∃ c,(cellsFrom n a.names []).lookup x\c:=by
 let q:=qM a.names n [] (.inl h);show qX.mp q
theorem AW{K:zZ}(S:ZC N C d)(Y:A.handled=Y')(o:U7 P w K M m A g s H)(hl:↑D=↑C)(r:ZS D O)(x:InCallC s ‹s› (bindL (envOfC j d ‹s› f I).kindOf (C.zip O) λ_=>Y') (cellsFrom (‹s›+1) d.names []) (bindC (envOfC j d ‹s› f I).kindOf (C.zip O) λ_=>Y') U):
  ZH (Wk Q P w K M m N j d f I A g s H E) [] (PF N D) H U:=by
 let a0:↑C<=↑N:=by have:=congrArg xG S.pre;rw[yA] at this;lia
 let#[J,tk,rfl,R]:=x.done;let B:∀ b:aj,b∉(Wk Q P w K M m N j d f I A g s H E).ex:=λb z=>gS (show b∈([]:jz) from z) ⋯
 show#[#[o.mod,S.kind,Z,Z,zY _,λy z c J l=>?_,λy t=>?_,λy c _ h=>?_,λ_=>Y,Around.frames_deeper o.frames,.inr #[Z,Z],λb z=>gS z (B b),o.bs,o.bsz,λb _ _=>B b,λb z=>gS z (B b),o.funs,o.frf],
  Z,o.bare,Un.kept R,#[_,x.toInCall.ns,λi y v J l h3=>?_],λy c h=>#[_,x.cell y c h],o.hok.fresh (zY _),λy c h=>?_,λp F=>gS (show p∈([]:jo) from F) ⋯,o.hok.kept R,?_]
 .show name_of_addr x.apart (PySem.mem_of_lookup J) (PySem.mem_of_lookup l)
 .let t:d.names.lookup y\.cell\/d.names.lookup y\.free:=t;rcases t with t|t
  .show Fs t
  .show gS Z (S.nofree _ (PySem.mem_of_lookup t))
 .show yE 'Ć'
 .let L:i<↑D:=by
   unfold PF at l;by_cases L:i<↑D
   .show L
   .rw[xJ #v[L]] at l
    rw[List.getElem?_replicate] at l;split at l<;>cases l
  let X:D[i]?\v:=by
   unfold PF at l;rw[wG #v[L],zK] at l
   cases e:D[i]? with
   |none=>erw[e] at l
   |some a=>erw[e] at l;rfl
  let#[u,T,rv]:=r.get X;let F:C[i]?\y:=by
   rwa[<-S.pre,pS (),J]
  let G:C.Nodup:=by rwa[<-S.pre,S.nd.sublist (uK _ _)]
  exists u,rv;rcases S.par y (zG F) with k|k
  .show .inl #[k,EI G F T k]
  .let#[c,e]:=Fs (n:=‹s›+1) k;show .inr #[.inl k,c,e,?_];let q:=x.cell y c e;rw[EW G F T (by change d.names.lookup y≠_;rw[k];decide)] at q
   show q
 .show o.hok.fresh (yE 'Ć')
 .unfold PF;change _=↑N;rw[zR,zW,List.length_replicate]
  lia
theorem HY{K:zZ}{j:jC}{dV kV F pm g ct oc:ai}{an od:ju}{a1:Array (jc)}(lk:K.lookup f\#[oc,od,.func (xZ z d i j a dV kV F pm an g ct),a1])(X:wK K g d=V')(S:ZC N U a)(O:∀ l H Q E,sp l H Q E->↑l=↑U)(B:∀  A   c   s   H   l   Q   E ,ZX k (A.deeper (envOfC d a ‹s› f g))->sp l H Q E ->
   ∃ t,WG (Wk R P w K T h N d a f g A c s H E) j t/\t { nx:=λ_ p=>Q .non p,rt:=Q } (PF N l) H):
  ZI P w K T h R (k+1) f (xZ z d i j a dV kV F pm an g ct) U sp:=by
 exists O;intro A c s H args us l Q E Y G hb r M;let hl:=O _ _ _ _ M;let KX:K.In s.heap:=G.mod.kin.keeps λb o e=>(G.bs b o e).1;let a0:s.heap.NoLimit:=G.mod.nolimit.keeps λb o e=>(G.bs b o e).1;let C:∀ y∈U.zip us,a.names.lookup y.1\.local\/(a.names.lookup y.1\.cell/\((cellsFrom (‹s›+1) a.names []).lookup y.1).isSome=V'):=λ⟨n,v⟩ hy=>by
  rcases S.par n (sI hy).1 with q|q
  .show .inl q
  .show .inr #[q,qM _ _ _ (.inl q)]
 show codeAny_call_function Y.depth (KX _ _ lk) Z S.co S.gen Z (PySem.W.codeRec_of KX X) (hb _ _ _ _ ?_);show wpAny_newFunctionEnv_cells S.kind C λa2 he s1 x=>?_;subst he;show#[a0.keeps x.toInCall.keep,codeAny_func ?_];let#[t,ht,hq]:=B A c s H l Q E (Y.deeper _) M;let I:ZH (Wk R P w K T h N d a f g A c s H E) [] (PF N l) H s1:=AW S Y.hd G hl r x;show af (ht [] s1 (PF N l) H _ I hq) (λfl s' D=>?_) λe s' D=>D;let L:∀{m:St}{p:Hp}{v:V}{u:ai},ZH (Wk R P w K T h N d a f g A c s H E) [] m p s'->ZT v u->Q v p->CE c P w H s Q u s':=
  fun{m p v u} J rv q=>#[v,p,J.os,J.bare,J.base,J.hok,rv,q]
 cases fl with
 |ret u=>
  let#[v,m,p,J,rv,q]:=D;show L J rv q
 |next=>
  let#[m,p,J,q]:=D;show L (v:=V.non) (u:=Value.none) J Z q
 |brk=>
  let#[_,_,_,q]:=D;show False.elim q
 |cont=>
  let#[_,_,_,q]:=D;show False.elim q
section
variable{x:Str}{p pos:Pos}{e:Expr}{es:jv}{t:TA}{id T:String}{r:je->Hp->VK->Prop}
def El(r:je->Hp->VK->Prop)(t:TA):TE:=λc H Q=>t c H λb a=>r b a Q
theorem YA(j:QL X '*' r)(l:Gl X x)(m:X.mg x=Y')(o:ay x\.builtin id)(i:PA X (e::es) t)(n:x≠"__name__" :=by decide)(b:(x==("__debug__":Str))=false:=by decide)(k:ar (e::es) X.env=(false,aG e X.env)::ar es X.env:=by rfl)(c:(aF pos ',').any (·.1)=false:=by rfl):PE X (.Call 'X' (e::es) [] pos) (El r t):=by
 intro a s d H Q I h;show ah (Nc I l m o ?_ n b);show PyProof.Rows.callWith_builtin1 (YG (i pos a s d H _ I h) λw v y f g u q=>j a v d f y w Q g u q) k c
theorem UZ(j:QL X (.type T) r)(l:Gl X x)(m:X.mg x=Y')(o:ay x\.type T)(i:PA X (e::es) t)(n:x≠"__name__" :=by decide)(b:(x==("__debug__":Str))=false:=by decide)(k:ar (e::es) X.env=(false,aG e X.env)::ar es X.env:=by rfl)(c:(aF pos ',').any (·.1)=false:=by rfl):PE X (.Call 'X' (e::es) [] pos) (El r t):=by
 intro a s d H Q I h;show ah (Nc I l m o ?_ n b);show PyProof.Rows.callWith_type1 (YG (i pos a s d H _ I h) λw v y f g u q=>j a v d f y w Q g u q) k c
end
end _T
variable{X:_T.Cx}{prog P:am}{w:aw}{A:ax}{E:ja}{s:ak}{K:zZ}{mg:jb}{f:aj}{fd:ao}{jW:aD}
namespace HT
open PySem PySem.Spec PyProof.Rows
theorem rcLt_int(A)(s)(a)(t)(c)(u)(b)(w)(E Q:ja)(h:Q (.bool (gU (a<c))) s):
  aB (aA b w) A (richCompare .Lt (.int a t) (.int c u)) Q E s:=
 (PyProof.Rows.lt_int h:aB (aA b w) A (az .Lt (.int a t) (.int c u)) Q E s)
section
open PySem.SeqAt
open PySem.AutoSeq1 (wpAny_loadPart')
open PySem.MeetsSeq PySem.MeetsSeq2 PySem.MeetsSeq3
end
def sIx(n d:Nat):jA->Nat
 |none=>d
 |some v=>if v<0 then (v+(n:Int)).toNat else min v.toNat n
theorem sIx_none(n d):sIx n d Y'=d:=rfl
theorem sIx_nat(n d k:Nat):sIx n d (Z' (k:Int))=min k n:=by
 change (if (k:Int)<0 then ((k:Int)+(n:Int)).toNat else min (k:Int).toNat n)=min k n
 rw[aK (),uL]
end HT
namespace _T
open PySem PySem.Spec PyProof.Rows
abbrev TO:=St->Hp->(jA->Hp->Prop)->Prop
def PO(X:Cx)(e:jG)(t:TO):Prop:=
 ∀(a:jo)(s:ak)(b:St)(H:Hp)(Q:jA->Hp->Prop),ZH X a b H s->t b H Q ->
  aB ↥X X.A (evalPart e X.env) (λu d=>∃ o c,ZH X a b c d/\IsPart u o/\Q o c) X.xe s
def uz:TO:=λ_ H Q=>Q Y' H
inductive Nt(Q:jA->Hp->Prop)(x:V)(a:Hp):Prop
 |mk(i:_)(_:x=.int i)(_:Q (Z' i) a)
def RH(t:TE):TO:=λb H Q=>t b H λx a=>Nt Q x a
theorem A8{a:jy}:∀{b:jd},ZS (a.map V.int) b->IntsAre b a:=by
 induction a with
 |nil=>intro b r;erw[uC] at r;show .nil
 |cons n a c=>
  intro b r;rw[yX] at r
  cases r with
  |cons d f=>
   let#[t,e]:=d;subst e;show .cons n t (c f)
section
variable{e:Expr}{te:TE}{lo hi:jG}{tl th:TO}{pos p2:Pos}
theorem Q1:PO X Y' uz:=by
 intro a s b H Q I h;rwa[evalPart_none,ae #[Y',H,I,.none,h]]
theorem Ue(h:PE X e te):PO X (Z' e) (RH te):=by
 intro a s j H Q I d;rw[evalPart_some];show YG (h a s j H _ I d) λu k x b c g f=>?_;let#[i,rfl,q]:=f;let#[t,rfl]:=g;show#[Z' i,b,c,.int i t,q]
def BF(X:Cx)(r:V->jA->jA->Hp->VK->Prop):Prop:=
 ∀(a:jo)(s:ak)(f:St)(H:Hp)(x:V)(v c d:ai)(lo hi:jA)(b:aj)(Q:VK),ZH X a f H s->ZT x v->s.heap.IsSliceOf b c d .none->IsPart c lo->IsPart d hi->r x lo hi H Q ->
  ∃ T id,typeLookup (.type T) "__getitem__"=pure (Z' '*')/\s.TypeIs v T/\aB ↥X X.A (getItem v !b) (EP X a f Q) X.xe s
def SB(r:V->jA->jA->Hp->VK->Prop)(te:TE)(tl th:TO):TE:=λa H Q=>te a H λx b=>tl a b λl c=>th a c λu d=>r x l u d Q
theorem QZ(C:BF X r)(y:PE X e te)(B:PO X lo tl)(E:PO X hi th):PE X (.Subscript e (.Slice lo hi Y' p2) pos) (SB r te tl th):=by
 intro a s d H Q I h;show Subscript_ (YG (y a s d H _ I h) λv N x j m M J=>?_);show wpAny_Slice (YG (B a N d j _ m J) λf O l k n F K=>YG (E a O d k _ n K) λg c u i o G L=>?_);rw[evalPart_none];show ae ?_;let p:ZH X a d i { c with heap:=c.heap.push { cls:=.type "slice",data:=.fields ⇑[f,g,.none] } }:=o.kept (t':=c.toks) λb P q=>zD _ q;let#[T,id,t,D,z]:=C a { c with heap:=c.heap.push { cls:=.type "slice",data:=.fields ⇑[f,g,.none] } } d i x v f g l u ‹c› Q p M (Heap.IsSliceOf.new ..) F G L;change aB ↥X X.A (subscriptTail e (.Slice lo hi Y' p2) v (.ref ‹c›)) (EP X a d Q) X.xe { c with heap:=c.heap.push { cls:=.type "slice",data:=.fields ⇑[f,g,.none] } };show tail_any (ops:=[.ref ‹c›,v]) D t z (by with_unfolding_all rfl)
def WX(a:je)(lo hi:jA):je:=(a.drop (HT.sIx ↑a 0 lo)).take (HT.sIx ↑a ↑a hi-HT.sIx ↑a 0 lo)
theorem kZ(a)(lo hi):↑(WX a lo hi)<=↑a:=by
 unfold WX;rwa[yA,yJ,zJ (sH _ _) (uU _ _)]
end
def PY(n:Nat)(i:Int):jp:=if 0<=i then (if i<n then Z' i.toNat else Y') else if -(n:Int)<=i then Z' (i+n).toNat else Y'
def Xi{b:Type}(a:List b)(i:Int):Option b:=(PY ↑a i).bind λj=>a[j]?
theorem C2(h:PY n i\j):seqIndex? i n\j/\j<n /\ -(n:Int)<=i/\i<n:=by
 unfold PY at h;by_cases b:0<=i
 .rw[aM b] at h;by_cases a:i<n
  .rw[aM a] at h;let e:i.toNat=j:=yV.inj h;show#[by rw[seqIndex_of b a,e],(),(),a]
  .erw[aK a] at h
 .rw[aK b] at h;by_cases a : -(n:Int)<=i
  .rw[aM a] at h;let e:(i+n).toNat=j:=yV.inj h;show#[by rw[seqIndex_neg () a,e],(),a,()]
  .erw[aK a] at h
theorem Jk(h:Xi a i\v):∃ j,seqIndex? i ↑a\j/\a[j]?\v/\j<↑a /\ -(↑a:Int)<=i/\i<↑a:=by
 unfold Xi at h
 cases e:PY ↑a i with
 |none=>erw[e] at h
 |some j=>
  rw[e] at h;let#[c,d,f,g]:=C2 e;show#[j,c,h,d,f,g]
theorem Yf{b:Type}{a:List b}{j:Nat}{v:b}(h:a[j]?\v):Xi a (j:Int)\v:=by
 let c:j<↑a:=(yW.mp h).1;let e:PY ↑a (j:Int)\j:=by
  unfold PY;rw[aM (),aM ()];simp
 unfold Xi;rwa[e,h]
theorem C9(a)(v:b):Xi (a++[v]) (-1)\v:=by
 let c:↑(a++[v])=↑a+1:=by simp
 let e:PY ↑(a++[v]) (-1)\↑a:=by
  unfold PY;rw[c,aK 'b',aM ()]
  congr 1
  lia
 unfold Xi;rw[e];change (a++[v])[a.length]?\v;simp
def JH(b:Expr):=∀ o i,subscripted b false o i=operate [o,i] (getItem o i)
def P5(X:Cx)(r:R2):Prop:=
 ∀(c a:Expr)(b:jo)(s:ak)(d:St)(H:Hp)(x y:V)(v u:ai)(Q:VK),ZH X b d H s->ZT x v->ZT y u->r x y H Q ->
  subscripted a false v u=operate [v,u] (getItem v u)->aB ↥X X.A (subscriptTail c a v u) (EP X b d Q) X.xe s
def Eb(X:Cx)(id:String)(r:V->je->Hp->VK->Prop):Prop:=
 ∀(a:jo)(s:ak)(d:St)(H:Hp)(x:V)(c:je)(v:ai)(b:jd)(Q:VK),ZH X a d H s->ZT x v->ZS c b->r x c H Q ->
  aB ↥X X.A (call '*' (v::b)) (EP X a d Q) X.xe s
section
variable{a b:Expr}{ta tb:TE}{pos:Pos}
theorem P5.or(h:P5 X r)(l:P5 X g):P5 X (λx y H Q=>r x y H Q\/g x y H Q):=by
 intro d c e s k H x y v u Q I i j q f;rcases q with q|q
 .show h d c e s k H x y v u Q I i j q f
 .show l d c e s k H x y v u Q I i j q f
theorem QD(i:P5 X r)(f:PE X a ta)(g:PE X b tb)(j:JH b):PE X 'ė' 'Ő':=by
 intro c s n H Q I h;show Subscript_ (Hv f g I h λv u m x y d e k l q=>i a b c m n d x y v u Q e k l q (j _ _))
inductive LE(K:zZ)(x y:V)(H:Hp)(Q:VK):Prop
 |mk(p c i v:_)(_:x=!p)(_:y=.int i)(_:ZF K H p c)(_:Xi c i\v)(_:Q v H)
inductive OJ(K:zZ)(x y:V)(H:Hp)(Q:VK):Prop
 |mk(p c i v:_)(_:x=!p)(_:y=.int i)(_:Zp K H p c)(_:Xi c i\v)(_:Q v H)
inductive LS(x y:V)(H:Hp)(Q:VK):Prop
 |mk(z i c:_)(_:x=.str z)(_:y=.int i)(_:↑z<=aq)(_:Xi z.cps.toList i\c)(_:Q (.str ⟨⇑[c]⟩) H)
theorem Z3:P5 X (LE X.K):=by
 intro n m c s C H x y v u Q I M N h B;let#[p,T,i,z,rfl,rfl,L,G,q]:=h;cases M;let#[t,rfl]:=N;let#[g,r,k,S]:=I.list L;let#[j,e,D,P,E,F]:=Jk G;let#[w,o,l]:=r.get D;let J:=↑r;let R:=NX;let d:EP X c C Q w s:=#[z,H,I,l,q];by_cases A:0<=i
 .let f:i.toNat=j:=by
   rw[seqIndex_of A F] at e;show yV.inj e
  show item_listR k.isList A () (by rw[f];simpa using o) d B
 .let f:(i+(g.toArray.size:Int)).toNat=j:=by
   rw[seqIndex_neg () E] at e
   rwa[zF,<-J,yV.inj e]
  show subscriptTail_builtinR (x:=w) k.isList.typeIs slot_list_getitem.lookup
   (wpAny_getItem_list_neg (Q:=λr O=>r=w/\EP X c C Q r O) k.isList () (by rw[zF]<;>lia) () (by rw[f];simpa using o) #[Z,d]) B
theorem Pg:P5 X (OJ X.K):=by
 intro g f c s l H x y v u Q I F G h D;let#[p,R,i,z,rfl,rfl,C,A,q]:=h;cases F;let#[t,rfl]:=G;let#[E,r,k,P]:=I.tuple C;let#[j,n,o,L,M,N]:=Jk A;let#[w,m,e]:=r.get o;let B:=↑r;let O:=NX;let d:EP X c l Q w s:=#[z,H,I,e,q];show subscriptTail_builtinR (x:=w) k.typeIs slot_tuple_getitem.lookup
  (getItem_tuple (j:=j) (Q:=λr J=>r=w/\EP X c l Q r J) k () () (by rwa[zF,<-B,n]) #v[m] #[Z,d]) D
theorem DJ:P5 X LS:=by
 intro e d g s G H x y v u Q I A B h w;let#[z,i,c,rfl,rfl,E,p,q]:=h;let#[t,rfl]:=A;let#[F,rfl]:=B;let#[j,f,m,C,n,o]:=Jk p;let r:↑z.cps.toList=↑z:=by simp[Str.length]
 rw[r] at f n o;let D:=NX;show tail_any (typeIs_str s z t) slot_str_getitem.lookup (getItem_str (c:=c) (by
  let k:gU (i < -(2^63:Int))=false:=aI ()
  let l:gU (i≥2^63)=false:=aI ()
  rw[k,l,Bool.or_false]) (by rw[f];simpa using m) #[.str #[⇑[c]],H,I.tok _,#[1],q]) w
def Jy(K:zZ):R2:=λx y H Q=>LE K x y H Q\/OJ K x y H Q\/LS x y H Q
theorem yc:P5 X (Jy X.K):=Z3.or (Pg.or DJ)
theorem XL(K)(c:PE X a ta)(d:PE X b tb)(f:JH b:=by show λ_ _=>rfl)(e:P5 X (OJ K):=by show Pg):PE X 'ė' (MD (OJ K) ta tb):=QD e c d f
theorem Zy(K)(c:PE X a ta)(d:PE X b tb)(f:JH b:=by show λ_ _=>rfl)(e:P5 X (Jy K):=by show yc):PE X 'ė' (MD (Jy K) ta tb):=QD e c d f
theorem lO(c:jd)(n j)(u):Obj.mapSeq (·.setIfInBounds j u) { cls:=.type "list",data:=.seq ⇑c n }={ cls:=.type "list",data:=.seq ⇑(c.set j u) n }:=by
 simp[Obj.mapSeq]
theorem ZH.lst{d:jo}{g:St}{H:Hp}{s:ak}{p:aj}{f:je}(I:ZH X d g H s)(h:H p\.lst f):
  ∃(c:jd)(n:Nat),ZS f c/\s.heap.get? p\{ cls:=.type "list",data:=.seq ⇑c n }/\↑f<=sizeLine:=by
 let#[z,c,n,r,e]:=I.hok p _ h;show#[c,n,r,e,z]
theorem ZH.lstUpd{l:St}{w j:je}{g c:jd}{f:aH->aH}(I:ZH X d l H s)(h:H p\.lst w)(o:s.heap.get? p\{ cls:=.type "list",data:=.seq ⇑g n })(k:f { cls:=.type "list",data:=.seq ⇑g n }={ cls:=.type "list",data:=.seq ⇑c i })(r:ZS j c)(v:↑j<=aq)(t):
  ZH X d l (upd H p (.lst j)) { s with heap:=s.heap.update p f,toks:=t }:=by
 let e:(s.heap.update p f).get? p\{ cls:=.type "list",data:=.seq ⇑c i }:=by
  rw[vO f o (by rw[k]<;>rfl),k]
 show I.write (x:=p) (e:=p) (by rw[h];trivial) (.inl Z) (λb u m q=>(vB _ _ (Ne.symm m))|||q) #[_,e] ?_
 show#[v,c,i,r,e]
inductive LB(o i v:V)(H:Hp)(Q:Hp->Prop):Prop
 |mk(p c k j:_)(_:o=!p)(_:i=.int k)(_:H p\.lst c)(_:PY ↑c k\j)(_:Q (upd H p (.lst (c.set j v))))
theorem Hr:C8 X LB:=by
 intro d s G H o i v M L u Q I D C E h;let#[p,F,k,j,rfl,rfl,z,A,q]:=h;cases D;let#[t,rfl]:=C;let#[c,n,r,l,B]:=I.lst z;let#[e,J,x,y]:=C2 A;let g:=↑r;let K:=NX;let m:ZH X d G (upd H p (.lst (F.set j v))) { s with heap:=s.heap.update p (Obj.mapSeq (·.setIfInBounds j u)) }:=
  I.lstUpd z l (lO c n j u) (r.set E j) #v[vT,B] s.toks
 by_cases w:0<=k
 .let f:k.toNat=j:=by
   rw[seqIndex_of w y] at e;show yV.inj e
  show PySem.W.ki_setAt l w () (by rwa[zF,<-g,y]) #v[f,#[_,m,q]]
 .let f:(k+(c.toArray.size:Int)).toNat=j:=by
   rw[seqIndex_neg () x] at e
   rwa[zF,<-g,yV.inj e]
  show PySem.W.ki_setBack l () (by rwa[zF,<-g,x]) () #v[f,#[_,m,q]]
theorem ki(d c:jA)(n):(sliceBounds d c Y' n).1=((HT.sIx n 0 d:Nat):Int)/\(sliceBounds d c Y' n).2.1=((HT.sIx n n c:Nat):Int)/\(sliceBounds d c Y' n).2.2=1:=by
 show#[?_,?_,Z]
 .cases d with
  |none=>simp[sliceBounds,HT.sIx]
  |some i=>
   simp only[sliceBounds,HT.sIx,Option.getD_none,show (1:Int)>0 by decide,if_true]
   by_cases h:i<0
   .simp only[h,if_true]<;>lia
   .simp only[h,if_false]<;>lia
 .cases c with
  |none=>simp[sliceBounds,HT.sIx]
  |some i=>
   simp only[sliceBounds,HT.sIx,Option.getD_none,show (1:Int)>0 by decide,if_true]
   by_cases h:i<0
   .simp only[h,if_true]<;>lia
   .simp only[h,if_false]<;>lia
theorem ku(c:jd)(d e:jA):slicePick ⇑c d e Y'=⇑((c.drop (HT.sIx ↑c 0 d)).take (HT.sIx ↑c ↑c e-HT.sIx ↑c 0 d)):=by
 let#[f,g,h]:=ki d e c.toArray.size;unfold slicePick;rw[f,g,h];simp only[sliceRange_one,pick_run,zF]<;>rfl
inductive Jr(K:zZ)(x:V)(e d:jA)(H:Hp)(Q:VK):Prop
 |mk(a c:_)(_:x=!a)(_:ZF K H a c)(_:∀ p,H p=Y'->Q (!p) (upd H p (.lst (WX c e d))))
theorem QY:BF X (Jr X.K):=by
 intro i s A H x v y z e f w Q I t j n p h;let#[a,c,rfl,k,q]:=h;cases t;let#[m,r,g,l]:=I.list k;let d:=↑r;exists "list",_,slot_list_getitem.lookup,g.isList.typeIs;show wpAny_getItem_list_slice g.isList j n p .none ⋯ ?_ (by rw[zF]<;>lia)
 rw[ku,<-d];show#[.ref ‹s›,_,I.laid (t':=s.toks) (o:=.lst (WX c e f)) (λb u q=>zD _ q) (zY _) ?_,Z,q _ '^'];show#[zJ (kZ c e f) l,_,(0),(r.drop (HT.sIx ↑c 0 e)).take (HT.sIx ↑c ↑c f-HT.sIx ↑c 0 e),yI _ Z]
def Oq:V->Bool
 |.non=>true
 |.bl _=>true
 |.int _=>true
 |.str _=>true
 |_=>false
def P2:V->V->Bool
 |.non,.non=>true
 |.bl a,.bl b=>a==b
 |.bl a,.int b=>(if a then 1 else 0)==b
 |.int a,.bl b=>a==(if b then 1 else 0)
 |.int a,.int b=>a==b
 |.str a,.str b=>a==b
 |_,_=>false
theorem yx(f:ZT y u)(c:ZT x v)(g:Oq y=V')(e:Oq x=V'):SeqAt.EqAt A s u v (P2 y x):=by
 cases y with
 |non=>
  cases f
  cases x with
  |non=>cases c;show SeqAt.EqAt.same _
  |bl b=>cases c;show SeqAt.EqAt.none_bool b
  |int b=>let#[t,rfl]:=c;show SeqAt.EqAt.none_int b t
  |str b=>let#[t,rfl]:=c;show SeqAt.EqAt.none_str b t
  |_=>show gS (show false=V' from e) zP
 |bl a=>
  cases f
  cases x with
  |non=>cases c;show SeqAt.EqAt.bool_none a
  |bl b=>cases c;show SeqAt.EqAt.bool_bool a b
  |int b=>let#[t,rfl]:=c;show SeqAt.EqAt.bool_int a b t
  |str b=>let#[t,rfl]:=c;show SeqAt.EqAt.bool_str a b t
  |_=>show gS (show false=V' from e) zP
 |int a=>
  let#[d,rfl]:=f
  cases x with
  |non=>cases c;show SeqAt.EqAt.int_none a d
  |bl b=>cases c;show SeqAt.EqAt.int_bool a d b
  |int b=>let#[t,rfl]:=c;show SeqAt.EqAt.int_int a d b t
  |str b=>let#[t,rfl]:=c;show SeqAt.EqAt.int_str a d b t
  |_=>show gS (show false=V' from e) zP
 |str a=>
  let#[d,rfl]:=f
  cases x with
  |non=>cases c;show SeqAt.EqAt.str_none a d
  |bl b=>cases c;show SeqAt.EqAt.str_bool a d b
  |int b=>let#[t,rfl]:=c;show SeqAt.EqAt.str_int a d b t
  |str b=>let#[t,rfl]:=c;show SeqAt.EqAt.str_str a d b t
  |_=>show gS (show false=V' from e) zP
 |_=>show gS (show false=V' from g) zP
def OL(x:V)(u:ai):Bool:=match u with
 |.none=>P2 .non x
 |.bool b=>P2 (.bl b) x
 |.int i _=>P2 (-i) x
 |.str z _=>P2 (.str z) x
 |_=>false
theorem Ce(r:ZT y u)(f:Oq y=V'):OL x u=P2 y x:=by
 cases y with
 |non=>cases r;rfl
 |bl b=>cases r;rfl
 |int i=>let#[t,rfl]:=r;rfl
 |str z=>let#[t,rfl]:=r;rfl
 |_=>show gS (show false=V' from f) zP
theorem JS:∀{c:je}{d:jd},ZS c d->c.all Oq=V'->d.any (OL x)=c.any λy=>P2 y x
 |_,_,.nil,_=>rfl
 |y::c,u::d,.cons r t,f=>by
  rw[tU,zI] at f;rw[wA,wA,Ce r f.1,JS t f.2]
theorem Jj(h:ZT x v)(g:Oq x=V'):∀{e:je}{d:jd},ZS e d->e.all Oq=V'->∀ u∈d,SeqAt.EqAt A s u v (OL x u)
 |_,_,.nil,_=>λu c=>by cases c
 |y::e,u::d,.cons r t,f=>λi c=>by
  rw[tU,zI] at f;rcases zU.mp c with rfl|c
  .rwa[Ce r f.1,yx r h f.1 g]
  .show Jj h g t f.2 i c
def MP(x:V)(c:je):Bool:=c.any λy=>P2 y x
inductive Iu(K:zZ)(d:Bool)(x y:V)(H:Hp)(Q:VK):Prop
 |mk(p c:_)(_:y=!p)(_:ZF K H p c\/Zp K H p c)(_:Oq x=V')(_:c.all Oq=V')(_:Q (.bl (if d then !MP x c else MP x c)) H)
theorem CW:XF X (az .NotIn) (Iu X.K true):=by
 intro j s o H x y v u Q I k m h;let#[p,n,rfl,d,i,e,q]:=h;cases m;rcases d with d|d
 .let#[c,r,g,l]:=I.list d;show SeqAt.notIn_listAt (OL x) g.isList (λw f=>Jj k i r e w #v[f]) #[.bl _,H,I,Z,?_]
  rw[show c.toArray.any (OL x)=c.any (OL x) by simp,JS r e]
  show q
 .let#[c,r,g,l]:=I.tuple d;show SeqAt.notIn_tupleAt (OL x) g (λw f=>Jj k i r e w #v[f]) #[.bl _,H,I,Z,?_]
  rw[show c.toArray.any (OL x)=c.any (OL x) by simp,JS r e]
  show q
inductive Vf(d:zZ)(e:je)(H:Hp)(Q:VK):Prop
 |mk(p c:_)(_:e=[!p])(_:ZF d H p c\/Zp d H p c)(_:Q (.int ↑c) H)
theorem XG:QL X 'ĺ' (Vf X.K):=by
 intro i s t H o n Q I r h;let#[p,j,rfl,d,q]:=h;let#[u,rfl,l]:=Qy r;cases l;let m:=NX;rcases d with d|d
 .let#[e,g,f,k]:=I.list d;let c:=↑g;show Calls.call_len_list f.isList (by simp only[zF]<;>lia) #[.int ↑j,H,I.tok _,#[s.toks+1,by rw[zF,c]],q]
 .let#[e,g,f,k]:=I.tuple d;let c:=↑g;show len_tuple f (by simp only[zF]<;>lia) #[.int ↑j,H,I.tok _,#[s.toks+1,by rw[zF,c]],q]
inductive Vj(c:je)(H:Hp)(Q:VK):Prop
 |mk(z:_)(_:c=[.str z])(_:↑z<=aq)(_:Q (.int ↑z) H)
theorem kG:QL X 'ĺ' (Vj):=by
 intro c s i H g f Q I r h;let#[z,rfl,e,q]:=h;let#[u,rfl,t,rfl]:=Qy r;let d:=NX;show len_str () #[.int ↑z,H,I.tok _,#[1],q]
inductive Vd(d:zZ)(e:je)(H:Hp)(Q:VK):Prop
 |mk(p c:_)(_:e=[!p])(_:ZF d H p c\/Zp d H p c)(_:∀ l,H l=Y'->Q (!l) (upd H l (.lst c)))
theorem Nv:QL X 'í' (Vd X.K):=by
 intro t s D H F E Q I r h;let#[p,A,rfl,k,q]:=h;let#[u,rfl,C]:=Qy r;cases C;let i:∀(c:jd),ZS A c->↑A<=aq->∀(d:aD)(f:Nat),(∀ b B,s.heap.get? b\B->d.get? b\B) ->
   d.get? ‹s›\{ cls:=.type "list",dict:=Y',data:=.seq ⇑c f,slots:=⇑[] }->EP X t D Q (.ref ‹s›) { s with heap:=d }:=λc g l d f m e=>
  #[.ref ‹s›,_,I.laid (t':=s.toks) m (zY _) (show Zk X.prog X.w _ d _ (.lst A) from #[l,c,f,g,e]),Z,q _ '^']
 rcases k with k|k
 .let#[c,g,z,l]:=I.list k;let j:=↑g;let#[o,y,v,n,x]:=z.isList;show call_list_seq p (.inl Z) y v x (λd f m e=>i c g l d f m e) (by simp only[zF]<;>lia)
 .let#[c,g,z,l]:=I.tuple k;let j:=↑g;let#[o,y,v,n,x]:=z;show call_list_seq p (.inr Z) y v x (λd f m e=>i c g l d f m e) (by simp only[zF]<;>lia)
inductive VS(d:zZ)(e:je)(H:Hp)(Q:VK):Prop
 |mk(p c:_)(_:e=[!p])(_:(ZF d H p c/\∀ l,H l=Y'->Q (!l) (upd H l (.tup c)))\/(Zp d H p c/\Q (!p) H))
theorem N2:QL X 'w' (VS X.K):=by
 intro c s t H A z Q I r h;let#[p,n,rfl,h]:=h;let#[u,rfl,y]:=Qy r;cases y;rcases h with ⟨g,q⟩|⟨g,q⟩
 .let#[d,j,i,m]:=I.list g;let l:=↑j;show call_tuple_list i.isList (λf x=>?_) (by simp only[zF]<;>lia)
  let k:ZH X c t H { s with heap:=f }:=I.kept (t':=s.toks) x;let v:ZH X c t (upd H f.objs.size (.tup n)) { s with heap:=f.push { cls:=.type "tuple",data:=.seq ⇑d } }:=
   k.laid (t':=s.toks) (λb o e=>zD _ e) (zY _) (show Zk X.prog X.w _ _ _ (.tup n) from #[m,d,j,IsTup.new _ _])
  show#[!f.objs.size,_,v,Z,q _ (k.hok.fresh (zY _))]
 .let#[d,j,i,m]:=I.tuple g;show call_tuple_same i #[!p,H,I,Z,q]
def Hk(K:zZ)(T:String)(x:V)(H:Hp):Prop:=match x with
 |.str _=>T="str"
 |.int _=>T="int"
 |.ref p=>(T="list" /\ ∃ d,ZF K H p d)\/(T="tuple" /\ ∃ o,K.lookup p\o/\o.cls=.type "tuple"/\o.dict=Y') \/
   (T="dict"/\((∃ c,H p\.dK c)\/∃ c,H p\.dT c))\/(T="set" /\ ∃ S n,H p\.set S n)
 |_=>False
theorem FO{A:St}(I:ZH X g A H s)(r:ZT x v)(h:Hk X.K T x H):
  s.TypeIs v T/\∀ a,v=.ref a->∃ m,s.heap.get? a\m/\m.dict=Y':=by
 cases x with
 |str z=>
  let#[t,rfl]:=r;cases(show T="str" from h);show#[typeIs_str s z t,λ_ e=>nomatch e]
 |int i=>
  let#[t,rfl]:=r;cases(show T="int" from h);show#[typeIs_int s i t,λ_ e=>nomatch e]
 |ref p=>
  cases r;rcases h with ⟨rfl,B,w⟩|⟨rfl,o,d,u,k⟩|⟨rfl,d⟩|⟨rfl,S,n,d⟩
  .let#[y,_,q,_]:=I.list w;exists q.isList.typeIs;intro a e;cases e;let#[o,n,e,c,k,_]:=q;show#[o,e,k]
  .exists #[o,I.kIn p o d,u];intro a e;cases e;show#[o,I.kIn _ o d,k]
  .let z:∃ o,s.heap.get? p\o/\o.ExactDict:=by
    rcases d with ⟨l,d⟩|⟨l,d⟩
    .let#[_,_,_,_,o,_,_,e,f,_]:=I.hok p _ d;show#[o,e,f]
    .let#[_,_,_,_,o,_,_,e,f,_]:=I.hok p _ d;show#[o,e,f]
   let#[o,e,f]:=z;exists #[o,e,f.1];intro a j;cases j;show#[o,e,f.2.1]
  .let#[o,_,_,_,e,f,_]:=I.hok p _ d;exists #[o,e,f.1];intro a j;cases j;show#[o,e,f.2.1]
 |_=>show False.elim h
def Sv(K:zZ)(T:String)(r:V->je->Hp->VK->Prop)(d:TE):TE:=λe H Q=>d e H λx c=>Hk K T x c/\r x [] c Q
def Sy(K:zZ)(T:String)(r:V->je->Hp->VK->Prop)(f:TE)(t:TA):TE:=λd H Q=>f d H λx c=>Hk K T x c/\t d c λg e=>r x g e Q
variable{o e:Expr}{es:jv}{to:TE}{t:TA}{name:Str}{jh jg:Pos}{T id:String}{r:V->je->Hp->VK->Prop}
theorem AF(w:PlainAttrs T)(g:Slot T name id)(i:typeOf '*'=pure 'Ŀ')(q:Eb X id r)(u:PE X o to)(d:attributeBase o name X.env 'ċ'=aG o X.env:=by rfl)(f:(jh.endLine==jg.line)=V':=by rfl):PE X (.Call (.Attribute o name jh) [] [] jg) (Sv X.K T r to):=by
 intro c s l H Q I h;show wpAny_Call_method0_late d f (Z7 (u c s l H _ I h) ?_);rintro v z ⟨x,m,j,k,A,y⟩;let#[n,p]:=FO j k A;show#[T,id,w,g,i,n,p,Calls.callWith_builtin Z (PySem.evalArgs_none (q c z l m x [] v [] Q j k .nil y))]
theorem QG(E:PlainAttrs T)(j:Slot T name id)(k:typeOf '*'=pure 'Ŀ')(B:Eb X id r)(C:PE X o to)(A:PA X (e::es) t)(f:attributeBase o name X.env 'ċ'=aG o X.env:=by rfl)(i:((aF jg (ar (e::es) X.env)).all (λx=>not x.1)&&(backToKw jg (keywordEach [] X.env)).all (λx=>x.1.isSome)
   && gU (↑(e::es)+↑([]:List Keyword)+(if ([]:List Keyword).isEmpty then 0 else 1)<30))=V':=by rfl)(g:(jh.endLine==jg.line)=V':=by rfl)(D:ar (e::es) X.env=(false,aG e X.env)::ar es X.env:=by rfl)(d:(aF jg ',').any (·.1)=false:=by rfl):
  PE X (.Call (.Attribute o name jh) (e::es) [] jg) (Sy X.K T r to t):=by
 intro c s l H Q I h;show wpAny_Call_method_late f i g Z (Z7 (C c s l H _ I h) ?_);rintro v L ⟨x,q,m,p,N,F⟩;let#[y,z]:=FO m p N;exists T,id,E,j,k,y,z;let n:=A jg c L l q _ m F;rw[D] at n⊢;show Calls.callWith_builtin (by change (false||(aF jg (ar es X.env)).any (·.1))=false;rw[d]<;>rfl) (Calls.evalArgs_plain ?_)
 show YG n λO M P u w J G=>B c M l u x P v O Q w p J G
end
def KI(X:Cx)(id:String)(r:V->je->Hp->VK->Prop):Prop:=
 ∀(a:jo)(s:ak)(d:St)(H:Hp)(x:V)(c:je)(v:ai)(b:jd)(Q:VK),ZH X a d H s->ZT x v->ZS c b->r x c H Q ->
  aB ↥X X.A (call '*' (v::b)) (EP X a d Q) X.xe s
theorem ZS.one:∀{x:V}{a:jd},ZS [x] a->∃ u,a=[u]/\ZT x u:=λh=>by cases h with|cons r n=>cases n;show#[1,r]
theorem ZS.two:∀{x y:V}{a:jd},ZS [x,y] a->∃ u v,a=[u,v]/\ZT x u/\ZT y v
 :=λh=>by
 cases h with
 |cons r h=>cases h with
  |cons q h=>cases h;show#[_,1,r,q]
theorem ZS.zero:∀{a:jd},ZS [] a->a=[]
 |_,.nil=>rfl
theorem ZS.dropLast(h:ZS b a):ZS b.dropLast a.dropLast:=by
 induction h with
 |nil=>show .nil
 |cons r t c=>
  cases t with
  |nil=>show .nil
  |cons q d=>show .cons r c
theorem md{d:Type}(l:List d):l.eraseIdx (↑l-1)=l.dropLast:=by
 induction l with
 |nil=>rfl
 |cons a r c=>
  cases r with
  |nil=>rfl
  |cons b r=>
   let e:↑(a::b::r)-1=(↑(b::r)-1)+1:=by
    let f:↑(a::b::r)=↑r+2:=rfl;let g:↑(b::r)=↑r+1:=rfl
    lia
   rw[e,List.eraseIdx_cons_succ,c]
   all_goals rfl
section
variable{jV:jo}{σ:St}{H:Hp}{l b:aj}{xs ys zs:je}
theorem ZH.lset{a its':jd}{f:js->js}(I:'c')(c:H l\.lst xs)(e:s.heap.get? l\{ cls:=.type "list",data:=.seq ⇑a n })(g:f ⇑a=⇑its')(i:ZS ys its')(j:↑ys<=aq):
  ZH X jV σ (upd H l (.lst ys)) { s with heap:=s.heap.update l (Obj.mapSeq f),toks:=k }:=by
 let q:=PySem.IsL.update e f;rw[g] at q;show I.write (x:=l) (e:=l) #v[c,trivial] (.inl Z) (λm u d h=>(vB s.heap (Obj.mapSeq f) (Ne.symm d))|||h) #[_,q] ?_
 show#[j,its',_,i,q]
theorem ZH.lnew(I:'c')(c:ZS ys a)(d:↑ys<=aq):
  ZH X jV σ (upd H ‹s› (.lst ys)) { s with heap:=s.heap.push { cls:=.type "list",data:=.seq ⇑a },toks:=t' }:=
 I.laid (λ_ _ q=>zD _ q) (zY _) #[d,a,(0),c,yI _ Z]
theorem ZH.fresh(I:'c'):H ‹s›=Y':=I.hok.fresh (zY _)
theorem ZH.lstM(I:'c')(c:H l\.lst xs):↑xs<=aq/\∃(a:jd)(n:Nat),ZS xs a/\↑xs=↑a/\s.heap.get? l\{ cls:=.type "list",data:=.seq ⇑a n }:=by
 let#[z,a,n,r,e]:=I.hok l _ c;show#[z,a,n,r,↑r,e]
end
inductive OR(x:V)(b:je)(H:Hp)(Q:VK):Prop
 |mk(l a y:_)(_:x=!l)(_:b=[y])(_:H l\.lst a)(_:↑a<aq)(_:Q .non (upd H l (.lst (a++[y]))))
theorem PU:KI X "list.append" OR:=by
 intro c s p H x m v k Q I g f h;let#[l,o,y,rfl,rfl,b,j,q]:=h;cases g;let#[u,rfl,d]:=f.one;let#[z,a,n,r,i,e]:=I.lstM b;show call_meets F.slot_list_append #[_,e,Z] F.entry_list_append (F.args_list_append_2 _ _) (PySem.list_append l ⇑a n u (by rw[zF];lia)) #[e,?_]
 show#[.non,_,I.lset (its':=a++[u]) b e ⋯ (r.append (.cons d .nil)) ?_,Z,q]
 rw[zR,xV]
 lia
inductive Jx(x:V)(b:je)(H:Hp)(Q:VK):Prop
 |mk(l a y:_)(_:x=!l)(_:b=[])(_:H l\.lst a)(_:a[↑a-1]?\y)(_:Q y (upd H l (.lst a.dropLast)))
theorem we:KI X "list.pop" Jx:=by
 intro f s A H x t v p Q I o m h;let#[l,w,y,rfl,rfl,d,j,q]:=h;cases o;let b:=m.zero;subst b;let#[z,a,n,r,g,e]:=I.lstM d;let#[u,i,k]:=r.get j;let c:a.toArray[a.toArray.size-1]?\u:=by
  change a.toArray[↑a-1]?\u;rwa[<-wH,<-g,i]
 show call_meets F.slot_list_pop #[_,e,Z] F.entry_list_pop (F.args_list_pop_1 _) (MeetsSeq.list_pop_last l ⇑a n u c (by rw[zF];lia)) #[e,?_]
 show#[y,_,I.lset (its':=a.dropLast) d e ?_ r.dropLast ?_,k,q]
 .change a.toArray.eraseIdxIfInBounds (a.toArray.size-1)=⇑a.dropLast;rw[zF,List.eraseIdxIfInBounds_toArray,md]
 .rw[List.length_dropLast]
  lia
inductive Jg(x y:V)(H:Hp)(Q:VK):Prop
 |mk(l b a c:_)(_:x=!l)(_:y=!b)(_:H l\.lst a)(_:H b\.lst c)(_:↑a+↑c<=aq)(_:∀ p,H p=Y'->Q (!p) (upd H p (.lst (a++c))))
theorem LV:XF X 'Ň' Jg:=by
 intro d s E H x y v u Q I o p h;let#[l,b,B,D,rfl,rfl,j,i,w,q]:=h;cases o;cases p;let#[z,c,n,r,t,e]:=I.lstM j;let#[C,a,A,m,k,f]:=I.lstM i;show PySem.P.add_list e f ?_ (by rw[zF,zF];lia)
 let g:⇑c++⇑a=⇑(c++a):=by simp
 rwa[g,#[.ref _,_,I.lnew (t':=s.toks) (r.append m) (by rw[zR];lia),Z,q _ I.fresh]]
end _T
namespace Att
open PySem PySem.W PySem.Calls PyProof.Rows
theorem ke{P:Params}:∀(c:jy)(d:jd),WellAll P h d (c.map WData.int)->IntsAre d c:=by
 intro c
 induction c with
 |nil=>
  intro d w;erw[uC] at w;show .nil
 |cons n c e=>
  intro d w;rw[yX] at w
  cases w with
  |cons a b=>
   cases a;show .cons _ _ (e _ b)
theorem Bu{l:OpenLaw}(v:l.most\n){P:Params}{e:jd}(c:l.row.toRowW.claim.pre args=V')(m:WellAll P h e args):
  ∃ a p b,e=[Value.ref a]/\args=[WData.list (b.map WData.int)]/\h.get? a\{ cls:=.type "list",data:=.seq ⇑p }/\IntsAre p b/\↑b<=n:=by
 let k:WShape.hasAll [] args [.list .int]=V':=(pre_splitW c).1;let o:l.pre.holds [] { args:=args }=V':=(pre_splitW c).2;let#[d,r,rfl,s,t]:=hasAllW_cons k;obtain rfl:=hasAllW_nil t;let#[A,rfl,u]:=hasW_list s;let#[b,rfl]:=items_int u;let g:↑b<=n:=by
  unfold OpenLaw.pre at o;let i:(WTm.not (.lt (.lit (.int (n:Int))) (.len (.arg 0)))).holds [] { args:=[.list (b.map .int)] }=V':=by
   let i:=(holds_andW o).1;rw[v] at i;show i
  let j:=condW_of i (w_not (w_lt w_lit (w_len_list (w_arg Z))));rw[zW] at j;show tO λq=>?_;let x:(n:Int)<((↑b:Nat):Int):=()
  first
   |(rw[aJ x] at j;show gS j 'b')
   |(simp at j;lia)
 cases m with
 |cons y z=>
  cases z
  cases y with
  |list w f=>show#[_,_,b,Z,Z,w,ke b _ f,g]
theorem nI(l:OpenLaw)(args:List WData):l.row.toRowW.claim.post args '?' args=V':=
 postW_of (r:=l.row.toRowW) (X:=(true==true))
  (show WShape.has [] '?' .bool=V' by first|rfl|decide|simp[WShape.has,WShape.arms,WShape.armsAll])
  (show (WTm.eq .res (.lit '?')).value [] { args:=args,res:=Z' '?',after:=args }\.bool (true==true) from w_eq_bool (w_res Z) w_lit) Z
theorem attach_call{l:OpenLaw}{c:jn}{E:(jb)->aD->Prop}(S:l.most\n)(z:d.params.defaults=[])(j:∀  w   e b  (u C:jb)  k   o   D t g   a  (i:jd) (v:jy),
   Ground q c [] E w e u C b.heap->F w b.heap ->
   b.heap.get? k\o->o.data=.func (docDef d.name d.params d.body d.scope D t g)->b.heap.CodeRec t d.name->u d.name=Z' (!k) ->
   b.heap.get? a\{ cls:=.type "list",data:=.seq ⇑i }->IntsAre i v->↑v<=n->b.gens=⇑[] ->
   codeAny (aA l.prog w) callerA (.call (!k) #[[!a],[]]) (λr x=>r=.ok (.ret '?')/\OldK b.heap x.heap/\x.os=b.os/\AllBare x.gens) b):
  WalkO q c E F l.row.toRowW d [] (λf i=>PySem.call f i):=by
 intro w e b u C G Y k o D t g K kV T O y H A P args J W s I V B Q;obtain rfl:K=.none:=Dflts.none H z;obtain rfl:kV=.none:=Dflts.noKw H;let#[a,i,v,rfl,rfl,p,h,m]:=Bu S s B;show enter_call (codeAny_mono (j w e b u C k o D t g a i v G Y T (fd_plain O) y A p h m P) λr x U=>?_);let#[rfl,L,M,N]:=U;show#[.inl #[.bool true,.bool true,[],Z,λ_=>rfl,.bool true,nI l _,λ_=>#[xI.nil,λ_ R=>(nomatch R)]],L,M,N]
section
variable{K:Frag}
def j'(h:aD)(L d:aj):jo:=(yD h.objs.size).filterMap λa=>if a=L\/a=d then Y' else (h.get? a).map λo=>(a,o)
end
end Att
namespace _T
open PySem PySem.Spec PyProof.Rows
theorem BU:∀{b:jd}{a:jy},IntsAre b a->ZS 'Ħ' b:=by intro _ _ h;induction h with
 |nil=>show .nil
 |cons n t _ c=>show .cons #[t,Z] c
def HW(H:Hp):=∀ b,H b=Y'\/∃ o a,H b\.frz o (.lst a)
theorem pP{M mb:jb}{y:jd}{N:jy}(KX:K.In c.heap)(G:c.heap.Ns ap M)(g:c.heap.Ns builtinsNs mb)(U:∀ x:Str,x≠"__name__"->mb x=ay x)(E:c.heap.NoLimit)(hg:c.gens=⇑[])(Q:c.heap.get? a\{ cls:=.type "list",data:=.seq ⇑y })(hi:IntsAre y N)(hl:↑N<=aq)(hr:ZX k callerA)(F:∀ i,K.In i->i.Ns ap M->ZI P w K M i CX k S fd [x] sp)(t:∀  s   u ,BindsTo s fd #[[u],[]] [(x,u)])(Y:∀ H,HW H->ZF K H a 'ŵ'->sp [!a] H (λv _=>v=.bl true) λ_ _ _=>False)(T:∀ H e j,CX [] H c (λ_ _ _=>False) e j->False):
  codeAny (aA P w) callerA (.call (!S) #[[!a],[]]) (λr j=>r=.ok (.ret '?')/\OldK c.heap j.heap/\j.os=c.os/\AllBare j.gens) c:=by
 let rv:=BU hi;let L:=↑hi;let p:∀ H:Hp,HW H->ZF K H a 'ŵ'->XJ P w H c.heap->(∀ b,H b≠Y'->b=a)->(H a≠Y'->K.lookup a=Y') ->
   codeAny (aA P w) callerA (.call (!S) #[[!a],[]]) (λr j=>r=.ok (.ret '?')/\OldK c.heap j.heap/\j.os=c.os/\AllBare j.gens) c:=by
  intro H hO hS I hA hK;let f:∀{b:aj}{o:aH},c.heap.get? b\o->H b=Y'->(Op c.heap H).get? b\o:=λe n=>qt e n;let a0:∀{b:aj}{o:aH}{C:Array DictEntry}{B:Nat},c.heap.get? b\o->o.data=.dict C B->H b=Y':=fun{b o C B} e d=>by
   cases q:H b with
   |none=>rfl
   |some u=>
    let R:b=a:=hA b (by rw[q];simp)
    subst R;erw[Q] at e;let d':Data.seq ⇑y _=Data.dict C B:=d;cases d'
  let l:∀{b:aj}{m:jb},c.heap.Ns b m->(Op c.heap H).Ns b m:=fun{b m} ⟨o,C,B,e,d,r⟩=>#[o,C,B,f e (a0 e d),d,r];let D:K.In (Op c.heap H):=λb o e=>f (KX b o e) (by
   cases q:H b with
   |none=>rfl
   |some u=>
    let R:b=a:=hA b (by rw[q];simp)
    subst R;erw[hK (by rw[q];simp)] at e)
  let hM:Mod K M (Op c.heap H):=#[D,l G,#[mb,l g,U],let #[mc,h1,h2]:=E;#[mc,l h1,h2]];let e0:U7 P w K M (Op c.heap H) callerA [] c H:=#[Z,hM,λb o e=>xi e,vI (oR _ _),trivial,λb g=>gS (show b∈([]:jz) from g) ⋯,I,.of_eq hg]
  show codeAny_mono ((F _ D (l G)).run callerA [] c H #[[!a],[]] [!a] [!a] _ _ hr e0 (t c !a) (.cons Z .nil) (Y H hO hS)) λr j h=>?_
  cases r with
  |error e=>show(T H e j h).elim
  |ok fl=>
   cases fl with
   |next=>show False.elim h
   |brk=>show False.elim h
   |cont=>show False.elim h
   |ret u=>
    let#[v,H',os,A,un,J,r',q]:=h;let q':v=.bl true:=q;subst q';obtain rfl:u=Value.bool true:=r';show#[Z,OldK.of_keep λb o e=>?_,os,A]
    cases q:H b with
    |none=>show un.keep b o e q (by intro z;show gS (show b∈([]:jz) from z) ⋯) ⋯
    |some u=>
     rcases hO b with z|⟨ob,xs,z⟩
     .erw[q] at z
     .let z2:=un.frzs b ob _ z;let#[e1,_]:=I b _ z;let#[e2,_]:=J b _ z2;erw[e] at e1;show e2
 cases X:K.lookup a with
 |some o=>
  let e:=KX a o X;erw[Q] at e;show p (λ_=>Y') (λ_=>.inl Z) (.inr #[_,⇑y,_,X,Z,Z,Z,#v[zF,L,hl],#v[rv]]) (λb u z=>by let O:(Y':Option HO)\u:=z;cases O) (λb z=>gS Z z) λz=>gS Z z
 |none=>
  show p (λb=>if b=a then Z' (.frz { cls:=.type "list",data:=.seq ⇑y } (.lst 'ŵ')) else Y') (λb=>?_) (.inl (.inr #[{ cls:=.type "list",data:=.seq ⇑y },aM Z])) (λb u z=>?_) (λb z=>?_) λ_=>X
  .by_cases g:b=a
   .show .inr #[_,_,aM g]
   .show .inl (aK g)
  .by_cases g:b=a
   .let O:=(aM g).symm|||z;cases O;subst g;show#[Q,#v[zW,hl],y,_,rv,Q]
   .let O:=(aK g).symm|||z;cases O
  .by_cases g:b=a
   .show g
   .show gS (aK g) z
abbrev j8{K:zZ}{h:aD}(_:K.In h):zZ:=K
theorem Li{l:sC}{n k:Nat}{q:am}{loose:jn}{XP:(jb)->aD->Prop}{YP:aw->aD->Prop}{d:DefRec}{K:Params->zZ}{CX:aw->UV}{sp:aw->Sp}{x:Str}(hn:l.most\n)(hn2:n<=aq)(hdf:d.params.defaults=[])(hr:ZX k callerA)(hY:∀ (w:aw) (h:aD),YP w h->(K w.params).In h)(F:∀ (w:aw) (m:jb) (t:aj) (h:aD),'W'.In h->h.Ns ap m->m d.name=Z' (!t) ->
   ∃ z:ao,(∀ (s:ak) (u:ai),BindsTo s z #[[u],[]] [(x,u)]) /\
    ∀ c:aD,'W'.In c->c.Ns ap m->ZI l.prog w 'W' m c (CX w) k t z [x] (sp w))(hsp:∀ (w:aw) (H:Hp) (a:aj) (y:jy),↑y<=n->HW H->ZF 'W' H a (y.map V.int)->sp w [!a] H (λv _=>v=.bl true) λ_ _ _=>False)(hCX:∀ (w:aw) (H:Hp) (s:ak) (e:ai) (B:ak),CX w [] H s (λ_ _ _=>False) e B->False):
  PySem.W.WalkO q loose XP YP l.row.toRowW d [] (λf E=>PySem.call f E):=by
 show Att.attach_call hn hdf λw D r m U t o X Q I a E y G Y S R O A p j i P=>?_;let C:=hY w _ Y;let#[z,N,J]:=F w m t _ C G.T.g A;show pP C G.T.g G.T.b G.T.builtins G.T.nolimit P p j (zJ i hn2) hr J N (λH L M=>hsp w H a y i L M) λH e B=>hCX w H r e B
noncomputable def Xr(s:aC)(j:Nat):Stmt:=match s with
 |.ClassDef _ _ _ a _ _ _ _ _ _ _=>a.getD j (.Pass #[(0),(0),(0),(0)])
 |_=>.Pass #[(0),(0),(0),(0)]
def QC(s:aC):Arguments:=match s with
 |.FunctionDef _ a _ _ _ _ _ _ _ _=>a
 |_=>{ posonlyargs:=[],args:=[],vararg:=Y',kwonlyargs:=[],kw_defaults:=[],kwarg:=Y',defaults:=[] }
def Xs(s:aC):List Stmt:=match s with
 |.FunctionDef _ _ b _ _ _ _ _ _ _=>b
 |_=>[]
noncomputable def Zc(s:aC):Scope:=match s with
 |.FunctionDef _ _ _ _ _ _ a _ _ _=>a
 |_=>{ kind:=.function,names:=[],isGenerator:=false,isCoroutine:=false }
abbrev ZJ:UV:=λ_ _ _ _ _ _=>False
abbrev E0:XK:=λ_ _ _=>False
theorem Zn:Pa ZJ X E0:=λ_ _ _ _ _ _ _ h=>h.elim
structure Zl(K:zZ)(x qual:Str)(st:aC)(f:aj)(fd:ao):Prop where
 ex:∃(oc:ai)(od:ju)(kV doc pm:ai)(an:ju)(cdv ct:ai)(osl:Array (jc)),
  fd=xZ x qual (QC st) (Xs st) (Zc st) .none kV doc pm an cdv ct/\K.lookup f\#[oc,od,.func fd,osl]/\wK K cdv qual=V'
 kp:xX K (!f)=V'
theorem Zl.ok(F:Zl K x b g f o)(S:ZC N m (Zc g))(l:∀ e H Q E,n e H Q E->↑e=↑m)(d:∀  c   A   a   s   H   e   Q   E ,ZX k (A.deeper (envOfC b (Zc g) ‹s› f c))->n e H Q E ->
   let X:=(Wk ZJ P w K mg jW N b (Zc g) f c A a s H E).nox;∃ t,WG X (Xs g) t/\t { nx:=λ_ p=>Q .non p,rt:=Q } (PF N e) H):-ZI ZJ (k+1) f o m n:=by
 let#[B,C,kV,r,D,z,c,ct,y,rfl,v,i]:=F.ex;show HY v i S l λA a s H e Q E u j=>?_;let#[t,h,q]:=d c A a s H e Q E u j;show#[t,h.nox,q]
theorem Zl.ko(F:Zl K x a g f m)(S:ZC N j (Zc g))(b:∀  e   A   c   s   H   d   Q   E ,ZX k (A.deeper (envOfC a (Zc g) ‹s› f e))->l d H Q E ->
   let X:=(Wk ZJ P w K mg jW N a (Zc g) f e A c s H E).nox;∃ t,WG X (Xs g) t/\t { nx:=λ_ n=>Q .non n,rt:=Q } (PF N d) H)(i:∀ d H Q E,l d H Q E->↑d=↑j:=by intro d _ _ _ h;cases h;(try subst d);rfl):-ZI ZJ (k+1) f m j l:=F.ok S i b
theorem Zl.binds(F:Zl K x a d f k)(h:∀  kV c g  (e:ju)  b ct  (j:jd),↑j=↑i->bindArgs (xZ x a (QC d) (Xs d) (Zc d) .none kV c g e b ct) #[j,[]]=pure (i.zip j)):Zx K k i []:=by
 let#[o,p,kV,c,g,e,b,ct,m,rfl,n,l]:=F.ex;show .all (h kV c g e b ct)
theorem Om{x a:Str}{st:aC}{f:aj}{i:ai}{j g:ju}{e:Array (jc)}{kV d h b ct:ai}(l:K.lookup f\#[i,j,.func (xZ x a (QC st) (Xs st) (Zc st) .none kV d h g b ct),e])(c:wK K b a=V')(k:xX K (!f)=V'):Zl K x a st f (xZ x a (QC st) (Xs st) (Zc st) .none kV d h g b ct):=#[#[i,j,kV,d,h,g,b,ct,e,Z,l,c],k]
theorem LC(a:ZX k A):A.units+1<cLine:=wJ (Nat.add_le_add_left (by decide:1<=64) _) a.units
theorem Yq(h:n<=1000):n<sizeLine:=wJ h 'b'
theorem pv(i){pos:Pos}(b:X.N[i]?\x:=by rfl)(d:Kj X.env.scope x:=by first|show Or.inl rfl|show Or.inr (Or.inl Z)|show Or.inr 'Ē')(c:(x==("__debug__":Str))=false:=by decide)(a:(x==("__classdict__":Str))=false:=by decide):PE X 'Z' (QX i):=vz b d c a
theorem Zq{A B:Prop}(h:B):if false=V' then A else B:=by
 rwa[aK zP,h]
theorem Z2{A B:Prop}(h:A):if true=V' then A else B:=by
 rwa[aM Z,h]
theorem UX{c A B:Prop}[Decidable c](a:c->A)(b:¬ c->B):if c then A else B:=by
 by_cases h:c
 .rwa[aM h,a h]
 .rwa[aK h,b h]
theorem Rx{c A B:Prop}[Decidable c](a:c)(h:B):if (!gU c)=V' then A else B:=by
 rwa[aJ a,Zq h]
def ZE(H a:Hp):=∀ b o,H b\o->a b\o
theorem ZE.refl(H):ZE H H:=λ_ _ h=>h
theorem ZE.trans(a:ZE H d)(b:ZE d e):ZE H e:=λc o h=>b c o (a c o h)
theorem ZE.free(e:ZE H a)(h:a l=uT):H l=uT:=by
 cases q:H l with
 |none=>rfl
 |some o=>
  erw[e l o q] at h
theorem ZE.seq(e:ZE H b)(h:ZF K H a c):ZF K b a c:=by
 rcases h with (h|⟨o,h⟩)|h
 .show .inl (.inl (e _ _ h))
 .show .inl (.inr #[o,e _ _ h])
 .show .inr h
section
variable{R:Result->ak->Prop}
theorem lj{ifs:jv}(I:Nat->ak->Prop)(turn:∀ n s,I n s->aB ↥_ A (pyNext it) (λr d=>match r with
   |none=>R (.ok .next) d
   |some v=>aB ↥_ A (letOwnedTupleGo target it v) (λ_ j=>aB ↥_ A (assign target env v) (λ_ k=>
     aB ↥_ A (forIn ifs true λc r=>if r=V' then do let y<-isTrue c env (aG c env);pure (ForInStep.yield y) else pure 'Ė') (λy f=>
      if y=V' then aB ↥_ A (aG elt env) (λx l=>
       aB ↥_ A (call (.builtin "list.append") [acc,x]) (λ_ o=>∃ m,m<n/\I m o) (notedBy ↥_ A env λe b=>R 'ÿ' b) l) (notedBy ↥_ A env λe b=>R 'ÿ' b) f
      else ∃ m,m<n/\I m f) (notedBy ↥_ A env λe b=>R 'ÿ' b) k) (notedBy ↥_ A env λe b=>R 'ÿ' b) j) (notedBy ↥_ A env λe b=>R 'ÿ' b) d) (notedBy ↥_ A env λe b=>R 'ÿ' b) s)(n)(h:I n s):
  codeAny ↥_ A (.compLoop (.ListComp elt [#[target,iter,ifs,(0)]] scope pos) 0 it acc env) R s:=by
 show codeAny_loop Z I (λn s z=>?_) n h;change aB _ A ((compTurn (.ListComp elt [#[target,iter,ifs,(0)]] scope pos) 0 it acc env).onRaise (λx=>do noteFrame x env;theTreesLotGoes x)) _ _ s
 show wpAny_noted ?_;rw[compTurn_list];show aa (wpAny_standAt (aa (af (turn n s z) (λr d g=>?_) λ_ _ a=>a)))
 cases r with
 |none=>show ae g
 |some v=>
  show aa (af g (λ_ j p=>?_) λ_ _ a=>a);show aa (af p (λ_ k q=>aa (af q (λy f i=>?_) λ_ _ a=>a)) λ_ _ a=>a)
  cases y with
  |false=>show ae #[Z,i]
  |true=>
   show aa (aa (af i (λx l t=>aa (af t (λ_ o u=>ae (ae #[Z,u])) λ_ _ a=>a)) λ_ _ a=>a))
end
def Vc(b:Env)(l:List (Str×NameKind)):jB->jB:=λa=>l.foldl (λa p=>if p.2==.free then (p.1,(b.cells.lookup p.1).getD 0)::a else a) a
def LF(a:Env)(l:List (Str×NameKind)):=∀ p∈l,p.2=.free->∃ c,a.cells.lookup p.1\c
theorem BI(h:LF b d.names):closureFor d b=pure (Vc b d.names []):=by
 let i:∀(l:List (Str×NameKind))(f:jB),LF b l->(forIn l f λx r=>if (x.2==.free)=V' then do let a<-cellOf b x.1;pure (ForInStep.yield ((x.1,a)::r)) else pure 'Ė':Sem (jB))=pure (Vc b l f):=by
  intro l
  induction l with
  |nil=>intro f _;rfl
  |cons p r n=>
   intro f j;let e:Vc b (p::r) f=Vc b r (if p.2==.free then (p.1,(b.cells.lookup p.1).getD 0)::f else f):=rfl
   rw[sJ,e]
   cases o:(p.2==NameKind.free) with
   |true=>
    let#[c,m]:=j p zX (eq_of_beq o);let g:cellOf b p.1=pure c:=by unfold cellOf;rw[m]
    simp only[if_true,g,pure_bind];rw[n _ λq k=>j q (zS _ k),m];rfl
   |false=>
    simp only[wS,if_false,pure_bind];show n _ λq k=>j q (zS _ k)
 have:=i d.names [] h;simpa [closureFor] using this
theorem Fk:∀{l:List (Str×NameKind)}{b:jB}{x:Str}{c:aj},LF a l->(Vc a l b).lookup x\c->b.lookup x\c\/a.cells.lookup x\c
 |[],_,_,_,_,h=>.inl h
 |p::r,b,x,c,hf,h=>by
  let i:(Vc a r (if p.2==.free then (p.1,(a.cells.lookup p.1).getD 0)::b else b)).lookup x\c:=h
  rcases Fk (λq j=>hf q (zS _ j)) i with q|q
  .cases f:(p.2==NameKind.free) with
   |true=>
    rw[f,aM rfl,wU] at q
    cases e:x==p.1 with
    |true=>
     rw[e] at q;let#[d,g]:=hf p zX (eq_of_beq f);show .inr ?_;rw[eq_of_beq e,g];rw[g] at q;show q
    |false=>
     rw[e] at q;show .inl q
   |false=>
    rw[f,aK zP] at q;show .inl q
  .show .inr q
theorem Gr:∀{l:List (Str×NameKind)}{b:jB},(b.lookup x).isSome=V'->((Vc a l b).lookup x).isSome=V'
 |[],_,h=>h
 |p::r,b,h=>by
  change ((Vc a r (if p.2==.free then (p.1,(a.cells.lookup p.1).getD 0)::b else b)).lookup x).isSome=V'
  show Gr ?_
  cases c:(p.2==NameKind.free) with
  |true=>
   rw[aM rfl,wU]
   cases e:x==p.1 with
   |true=>rfl
   |false=>show h
  |false=>rwa[aK zP,h]
theorem EC:∀{l:List (Str×NameKind)}{b:jB},(x,NameKind.free)∈l->((Vc a l b).lookup x).isSome=V'
 |[],_,h=>by cases h
 |p::r,b,h=>by
  change ((Vc a r (if p.2==.free then (p.1,(a.cells.lookup p.1).getD 0)::b else b)).lookup x).isSome=V'
  rcases zU.mp h with e|h
  .subst e;show Gr ?_;change (wQ x ((x,(a.cells.lookup x).getD 0)::b)).isSome=V';rw[wU,beq_self_eq_true];rfl
  .show EC h
def XR(a:Env)(b:jB):=∀ x c,b.lookup x\c->a.cells.lookup x\c
theorem XR.get{a:Env}{b:jB}{x:Str}{c:aj}(h:XR a b)(e:b.lookup x\c):a.cells.lookup x\c:=h x c e
theorem Fa(h:LF a l):XR a (Vc a l []):=λx c e=>by
 rcases Fk h e with q|q
 .cases q
 .show q
theorem D1{env:Env}:∀{names:List (Str×NameKind)}{x:Str},names.lookup x=Z' .free ->
  (names.map fun(n,k)=>if (k==NameKind.free&&env.scope.kind==.function&&env.kindOf n==Z' .cell) then (n,NameKind.cell) else (n,k)).lookup x=Z' .cell \/
  (names.map fun(n,k)=>if (k==NameKind.free&&env.scope.kind==.function&&env.kindOf n==Z' .cell) then (n,NameKind.cell) else (n,k)).lookup x\.free
 |[],_,h=>by simp at h
 |(n,k)::r,x,h=>by
  rw[wU] at h;simp only[yX]
  cases a:x==n with
  |true=>
   erw[a] at h;split
   .show .inl (by rw[wU,a])
   .show .inr (by rw[wU,a])
  |false=>
   rw[a] at h;let b:=D1 (env:=env) h;split
   .rwa[wU,a,b]
   .rwa[wU,a,b]
theorem CU{env:Env}:∀{names:List (Str×NameKind)}{x:Str},(∀ y∈names,y.2≠.cell) ->
  ((names.map fun(n,k)=>if (k==NameKind.free&&env.scope.kind==.function&&env.kindOf n==Z' .cell) then (n,NameKind.cell) else (n,k)).lookup x=Z' .cell \/
  (names.map fun(n,k)=>if (k==NameKind.free&&env.scope.kind==.function&&env.kindOf n==Z' .cell) then (n,NameKind.cell) else (n,k)).lookup x\.free)->(x,NameKind.free)∈names
 |[],_,_,h=>by simp at h
 |(n,k)::r,x,hc,h=>by
  let e:∀ y∈r,y.2≠.cell:=λy f=>hc y (zS _ f);simp only[yX] at h
  cases b:x==n with
  |true=>
   let c:=eq_of_beq b;subst c;by_cases a:k=.free
   .subst a;show zX
   .let d:(k==NameKind.free)=false:=#v[a]
    simp only[d,tT,wS,if_false,wU,beq_self_eq_true] at h;rcases h with h|h
    .show gS (yV.inj h) (hc _ zX)
    .show gS (yV.inj h) a
  |false=>
   show zS _ (CU (env:=env) e ?_);split at h
   .simpa only [wU,b] using h
   .simpa only [wU,b] using h
def YT(X:Cx)(a:aE):jj->jn->Prop
 |[],[]=>True
 |i::is,y::ys=>X.N[i]?\y/\(X.env.kindOf y\.cell\/X.env.kindOf y\.free)/\a.names.lookup y\.free/\YT X a is ys
 |_,_=>False
theorem YT.len:∀{b:jj}{c:jn},YT X a b c->↑b=↑c
 |[],[],_=>rfl
 |_::_,_::_,h=>congrArg (· + 1) h.2.2.2.len
theorem YT.get{X:Cx}{a:aE}:∀{b:jj}{c:jn}{j:Nat}{y:Str},YT X a b c->c[j]?=Z' y ->
  ∃ i,b[j]?\i/\X.N[i]?\y/\(X.env.kindOf y\.cell\/X.env.kindOf y\.free)/\a.names.lookup y\.free
 |[],[],_,_,_,h=>by simp at h
 |i::_,z::_,0,y,f,h=>by
  simp at h;subst h;show#[i,Z,f.1,f.2.1,f.2.2.1]
 |_::b,_::c,j+1,y,f,h=>by
  let#[i,e,r]:=YT.get (j:=j) f.2.2.2 #v[h]
  show#[i,#v[e],r]
noncomputable def Vb(X:Cx)(N:jn)(a:aE)(b:jB)(C:aj)(s:ak)(H:Hp)(c:jz)(E:ja):Cx where
 prog:=X.prog
 w:=X.w
 K:=X.K
 mg:=X.mg
 base:=X.base
 A:=X.A
 N:=N
 s₀:=s
 H₀:=H
 env:=compEnvC a b C X.env
 outer:=X.stack
 stack:=X.stack
 ex:=c
 fn:=λ_=>false
 calm:=X.calm
 pn:=[]
 xe:=E
def OE(b:St)(a:jj)(x:V):St:=Z' x::a.map λi=>(b[i]?).join
def NT(X:Cx)(b:jv)(e:TT):Prop:=
 ∀(a:jo)(s:ak)(d:St)(H:Hp)(Q:Bool->Hp->Prop),ZH X a d H s->e d H Q ->
  aB ↥X X.A (forIn b true λc r=>if r=V' then do let ok<-isTrue c X.env (aG c X.env);pure (ForInStep.yield ok) else pure 'Ė') (TP X a d Q) X.xe s
def Jt:TT:=λ_ H Q=>Q true H
theorem Ut:NT X [] Jt:=λ_ _ _ H _ I h=>wpAny_tests_nil #[H,I,h]
theorem Oy(h:PT X c t):NT X [c] t:=λa s d H Q I b=>wpAny_tests_one (h a s d H Q I b)
def Wj(J:It)(j:St)(h:jj)(l:TT)(k:TE)(e:Hp)(Q:VK):Prop:=
 ∀ D,e D=Y'->∃ W:Nat->Nat->Hp->Prop,(∃ m,W 0 m (upd e D (.lst [])))/\∀ i m H,W i m H ->
  (J.stop i H/\Q (!D) H)\/(J.go i H/\∀ x d,J.yld i H x d->l (OE j h x) d λc f=>
   if c=V' then k (OE j h x) f λy g=>∃ b a,g D\.lst b/\↑b<aq/\a<m/\W (i+1) a (upd g D (.lst (b++[y])))
   else ∃ a,a<m/\W (i+1) a f)
def Ei(f:TI)(c:jj)(e:TT)(d:TE):TE:=λa H Q=>f a H λJ b=>Wj J a c e d b Q
section
variable{jV:jo}{σ:St}{H:Hp}
theorem nO{b:jj}{j:Nat}(h:(b.map λi=>(σ[i]?).join)[j]?\Z' v):∃ i,b[j]?\i/\σ[i]?\Z' v:=by
 rw[zK] at h
 cases e:b[j]? with
 |none=>erw[e] at h
 |some i=>
  rw[e] at h;let a:(σ[i]?).join\v:=yV.inj h;exists i,Z
  cases q:σ[i]? with
  |none=>erw[q] at a
  |some o=>
   rw[q] at a
   cases o with
   |none=>cases a
   |some z=>cases a;rfl
def Mq(a:Env)(l:List (Str×NameKind)):Bool:=l.all λp=>!(p.2==.free)||a.kindOf p.1==Z' .cell||a.kindOf p.1==Z' .free
theorem Em(a:X.Ok)(h:Mq X.env l=V'):LF X.env l:=λp c b=>by
 let q:=yM.mp h p c;rw[b] at q;let d:(X.env.kindOf p.1==Z' .cell||X.env.kindOf p.1==Z' .free)=V':=#v[q]
 rcases Bool.or_eq_true_iff.mp d with q|q
 .show a.has p.1 (.inl (eq_of_beq q))
 .show a.has p.1 (.inr (eq_of_beq q))
def MV(a:aE)(x:Str):Bool:=a.kind==.function&&a.names.lookup x==Z' .local&&a.names.all (λp=>!(p.2==.cell))&&a.names.all (λp=>!(p.2==.local)||a.names.lookup p.1==Z' .local)
structure Ol(scope:aE)(x:Str):Prop where
 kind:scope.kind=.function
 own:scope.names.lookup x\.local
 cell:∀ y∈scope.names,y.2≠.cell
 names:∀ y∈scope.names,y.2=.local->scope.names.lookup y.1\.local
theorem Kc(h:MV a x=V'):Ol a x:=by
 unfold MV at h;rw[zI,zI,zI] at h;let#[#[#[c,d],e],f]:=h;show#[eq_of_beq c,eq_of_beq d,λy b z=>?_,λy b z=>?_]
 .have:=yM.mp e y b;erw[z] at this
 .have:=yM.mp f y b;rw[z] at this;let q:(a.names.lookup y.1==Z' NameKind.local)=V':=#v[this]
  show eq_of_beq q
theorem BD(d:∀ y∈a.names,y.2≠.cell)(y)(h:(relabel a b).names.lookup y\.cell\/(relabel a b).names.lookup y\.free):∃ c,(Vc b a.names []).lookup y\c:=
 qX.mp (EC (CU d h))
def Ew(i:Nat)(t:TE):TS:=λD σ H=>t σ H λv a=>D.nx 'Ī' a
end
def Lp(b:jn)(c:St)(a:jj):St:=b.map (λ_=>(Y':jf))++a.map λi=>(c[i]?).join
def Iv(J:It)(k:Nat)(g:hW)(p:St)(n:jj)(s:TT)(r:TE)(h:Hp)(Q:VK):Prop:=
 ∀ D,h D=Y'->∃ W:Nat->Nat->Hp->Prop,(∃ m,W 0 m (upd h D (.lst [])))/\∀ i m H,W i m H ->
  (J.stop i H/\Q (!D) H)\/(J.go i H/\∀ x f,J.yld i H x f->∀ o:St,↑o=k->g x (o++n.map λi=>(p[i]?).join) f λa q=>(∃ d:St,↑d=k/\a=d++n.map λi=>(p[i]?).join)/\s a q λc j=>
   if c=V' then r a j λy l=>∃ e b,l D\.lst e/\↑e<aq/\b<m/\W (i+1) b (upd l D (.lst (e++[y])))
   else ∃ b,b<m/\W (i+1) b j)
def BJ(k:Nat)(g:hW)(f:TI)(c:jj)(e:TT)(d:TE):TE:=λa H Q=>f a H λJ b=>Iv J k g a c e d b Q
section
variable{jV:jo}{σ:St}{H:Hp}
theorem mF{t K:jn}{m:jb}(I:'c')(N:∀ b∈fp,V9 X jV H b/\b<‹s›)(f:XR X.env L)(B:a.kind=.function)(w:∀ y,((relabel a X.env).names.lookup y\.cell\/(relabel a X.env).names.lookup y\.free)->∃ c,L.lookup y\c)(fo:YT X a J K)(M:‹s›<=D)(R:‹s›<=C)(S:D≠C)(T:g.Ns C m)(k:∀ b o,s.heap.get? b\o->g.get? b\o)(hd:g.get? D\{ cls:=.type "list",data:=.seq ⇑([]:jd) n }):
  ZH (Vb X (t++K) a L C s H fp E) [] (Lp t σ J) (upd H D (.lst [])) { s with heap:=g,toks:=tk }:=by
 let d:∀ y c,L.lookup y\c->c<‹s›:=λy c e=>by
  let#[v,q]:=I.cell y c (f.get e);show q.lt
 show#[#[I.ok.mod,B,I.ok.glob,I.ok.blt,R,λy z c h1 h2=>I.ok.inj y z c (f.get h1) (f.get h2),w,λy c h _=>gS h (by simp[Vb]),I.ok.hd,I.ok.frames,.inl Z,λb G=>#[?_,λy c e=>?_],I.bs,zJ I.ok.bsz I.sz,λb o e G=>?_,λb G z=>?_,I.stack,I.stkFree],
  Z,I.bare,Un.laid k M (I.hok.fresh M),#[m,T,λj y v e1 e2 F=>?_],λy c e=>?_,?_,λy c e=>?_,λp hp=>gS (show p∈([]:jo) from hp) ⋯,I.hok.laid k M ?_,?_]
 .show yK (yC (N b G).2 R)
 .show(N b G).1.2.2.2.2.1 y c (f.get e)
 .let#[_,_,_,z,_]:=(N b G).1;rcases z with z|z
  .show I.ok.noex b o e z
  .show gS (yC (zE 'é'.1) z) (xW _)
 .let#[_,z1,z2,_]:=(N b G).1;rcases zU.mp (I.stkSub b z) with q|q
  .show z1 q
  .show z2 q
 .by_cases O:j<↑t
  .exfalso
   let F:(t.map (λ_=>(Y':jf))++J.map λi=>(σ[i]?).join)[j]?\Z' v:=e2;rw[wG #v[zW,O],zK,zT O] at F
   cases F
  .let Y:(t++K)[j]?\y:=e1;let P:K[j-↑t]?\y:=by rw[xJ (tO O)] at Y;show Y
   let F:(t.map (λ_=>(Y':jf))++J.map λi=>(σ[i]?).join)[j]?\Z' v:=e2;let Q:(J.map λi=>(σ[i]?).join)[j-↑t]?\Z' v:=by
    rw[xJ #v[zW,tO O],zW] at F
    show F
   let#[i,q1,q2]:=nO Q;let#[i',p1,p2,x,W]:=fo.get P;erw[q1] at p1;let p4:(relabel a X.env).names.lookup y\.cell\/(relabel a X.env).names.lookup y\.free:=D1 W;let#[c,p5]:=w y p4;let#[m0,a0,hl]:=I.loc;let#[u,r,l]:=hl i y v p2 q2 (.inr x);show#[u,r,.inr #[p4,c,p5,?_]];rcases l with ⟨l1,_⟩|⟨_,c',l2,l3⟩
   .rcases x with x|x
    .erw[l1] at x
    .erw[l1] at x
   .erw[f.get p5] at l2;let#[o,U,A]:=l3;show#[o,k _ _ U,A]
 .let#[v,o,U,A]:=I.cell y c (f.get e);show#[v,o,k _ _ U,A]
 .change upd H D (.lst []) C=Y';rwa[ZU (Ne.symm S),I.hok.fresh R]
 .change upd H D (.lst []) c=Y';rwa[ZU (yK (yC (d y c e) M)),I.freeC y c (f.get e)]
 .show#[yY _,[],n,.nil,hd]
 .change ↑(Lp t σ J)=↑(t++K);unfold Lp;rw[zR,zW,zW,fo.len,zR]
def DZ(k:Nat)(c:jj)(σ a:St):=∃ b:St,↑b=k/\a=b++c.map λi=>(σ[i]?).join
inductive IR(Y:Cx)(k:Nat)(f:jj)(σ:St)(g:Nat->aD->Prop)(e:jz)(W:Nat->Nat->Hp->Prop)(n:Nat)(d:ak):Prop
 |mk(i:Nat)(a:St)(c:Hp):ZH Y [] a c d->DZ k f σ a->g i d.heap->(∀ b∈e,c b=Y')->W i n c->IR Y k f σ g e W n d
theorem GY{elt iter tg:Expr}{xs:jn}{g:hW}{ifs:jv}{scope:aE}{cl:jB}{pos:Pos}{ix:jj}{ys:jn}{tt:TT}{te:TE}{it:aj}{fp:jz}{tn:Nat->aD->Prop}{J:It}{Q:VK}{E:ja}{RR:ai->aj->Result->ak->Prop}(hc:X.calm=V')(hg:∀ C s H fp E,PG (Vb X (xs++ys) scope cl C s H fp E) tg g)(ht:∀ C s H fp E,NT (Vb X (xs++ys) scope cl C s H fp E) ifs tt)(he:∀ C s H fp E,PE (Vb X (xs++ys) scope cl C s H fp E) elt te)(sub:XR X.env cl)(hkind:scope.kind=.function)(hcell:∀ y∈scope.names,y.2≠.cell)(hhas:∀ y,((relabel scope X.env).names.lookup y\.cell\/(relabel scope X.env).names.lookup y\.free)->∃ c,cl.lookup y\c)(fo:YT X scope ix ys)(I:'c')(T:Uf X.prog X.w X.K tg J fp it tn)(st:tn 0 s.heap)(hf:∀ b∈fp,V9 X jV H b)(q:Iv J ↑xs g σ ix tt te H Q)(hRR:∀ D C s' H' m,‹s›<=C->ZH X jV σ H' s'->V9 X jV H' C->s'.heap.Ns C m->Q (!D) H'->RR (!D) C (.ok .next) s'):
  aB ↥X X.A (newList []) (λacc s₃=>aB ↥X X.A (newFunctionEnv scope X.env.globals cl [] X.env.qual Y' .none (Z' X.env)) (λcenv s₄=>
   codeAny ↥X X.A (.compStart (.ListComp elt [#[tg,iter,ifs,(0)]] scope pos) 0 (!it) acc { cenv with scope:=relabel scope X.env }) (RR acc cenv.locals) s₄) E s₃) E s:=by
 show wpAny_newObj_type (wpAny_newFunctionEnv hcell (by intro y hy;simp at hy) (λh₁ hns₁ hsb₁=>?_) hkind)
 dsimp only at hns₁ hsb₁⊢;generalize hH2:s.heap.push { cls:=.type "list",dict:=Y',data:=.seq ⇑([]:jd) }=H2 at hns₁ hsb₁⊢;let hC:H2.objs.size=‹s›+1:=by rw[<-hH2,rG]
 let hDC:‹s›≠H2.objs.size:=#v[hC,yK (wC _)]
 let hCle:‹s›<=H2.objs.size:=#v[hC,vK _]
 let below:∀ b,b<‹s›->b≠H2.objs.size/\b≠‹s›:=λb hb=>#[#v[hC,yK (Nat.lt_succ_of_lt hb)],yK hb]
 let old:∀ b o,s.heap.get? b\o->h₁.get? b\o:=λb o e=>hsb₁.extBut b o (below b (zE e)).1 (zD _ (hH2▸zD _ e));let hacc:∃ n,h₁.get? ‹s›\{ cls:=.type "list",data:=.seq ⇑([]:jd) n }:=#[_,hsb₁.extBut _ _ hDC (zD _ (hH2▸yI _ Z))];let#[nD,hacc]:=hacc;let hf':∀ b∈fp,V9 X jV H b/\b<‹s›:=λb hb=>#[hf b hb,by let#[o,e,_]:=T.obj 0 _ st b hb;show zE e]
 let hDn:H ‹s›=Y':=I.hok.fresh (zY _);let#[W,#[m0,w0],turn]:=q _ hDn;generalize hE:notedBy ↥X X.A 'Ċ' (λe s'=>RR (.ref ‹s›) H2.objs.size 'ÿ' s')=EE;let I0:ZH (Vb X (xs++ys) scope cl H2.objs.size s H fp EE) [] (Lp xs σ ix) (upd H ‹s› (.lst [])) { s with heap:=h₁,toks:=s.toks+↑([]:jE) }:=
  mF I hf' sub hkind hhas fo (zY _) hCle hDC hns₁ old hacc
 let st1:tn 0 h₁:=T.keep _ _ _ st λb _ o e=>old b o e;let fr1:∀ b∈fp,upd H ‹s› (.lst []) b=Y':=λb hb=>#v[ZU (below b (hf' b hb).2).2,(hf b hb).1]
 let stat:∀{H':Hp},(∀ b∈fp,H' b=Y')->∀ b∈fp,V9 (Vb X (xs++ys) scope cl H2.objs.size s H fp EE) [] H' b:=λhn b hb=>
  #[hn b hb,(I0.ok.exf b hb).1,I0.ok.exfs b hb,.inl hb,(I0.ok.exf b hb).2,λp hp=>gS (show p∈([]:jo) from hp) ⋯]
 let loop:∀ s₃:ak,s₃={ s with heap:=h₁,toks:=s.toks+↑([]:jE) } ->
   codeAny ↥X X.A (.compLoop (.ListComp elt [#[tg,iter,ifs,(0)]] scope pos) 0 (!it) (.ref ‹s›) 'Ċ') (RR (.ref ‹s›) H2.objs.size) s₃:=by
  rintro s₃ rfl;show lj (IR (Vb X (xs++ys) scope cl H2.objs.size s H fp EE) ↑xs ix σ tn fp W) ?_ m0 #[(0),_,_,I0,#[_,zW _,Z],st1,fr1,w0];rintro n s3 ⟨i,σ3,H3,I3,⟨o3,ho3,hσ3⟩,st3,fr3,w3⟩;rw[hE];rcases turn i n H3 w3 with ⟨stop,qn⟩|⟨go,step⟩
  .show Z7 (T.done (Vb X (xs++ys) scope cl H2.objs.size s H fp EE) Z Z Z hc i [] s3 σ3 H3 EE I3 (stat fr3) st3 stop) ?_;rintro r s4 ⟨hr,I4⟩;subst hr;let#[m4,hn4,_]:=I4.loc;let Ix:ZH X jV σ H3 s4:=I.call' (s':=s4) (ch:=fp) I4.os I4.base I4.hok I4.bare λb hb=>by
    let#[_,z1,_,z3,z4,z5]:=hf b hb;show#[z3,z1,z4,z5]
   show hRR _ _ s4 H3 m4 hCle Ix (I.fpOk hCle I4.free) hn4 qn
  .show Z7 (T.item (Vb X (xs++ys) scope cl H2.objs.size s H fp EE) Z Z Z hc i [] s3 σ3 H3 EE I3 (stat fr3) st3 go) ?_;rintro r s4 ⟨u,hr,h4⟩;subst hr;show Z7 h4 ?_;rintro _ s5 ⟨xv,H5,I5,r5,y5,st5,fr5⟩;let I5':=I5.pinned (stat fr5) (T.obj _ _ st5);let again:∀{σ7:St}{H7:Hp}{s7:ak}{m':Nat},ZH (Vb X (xs++ys) scope cl H2.objs.size s H fp EE) ([]++M0 fp s5.heap) σ7 H7 s7->DZ ↑xs ix σ σ7->m'<n->W (i+1) m' H7 ->
     ∃ m,m<n/\IR (Vb X (xs++ys) scope cl H2.objs.size s H fp EE) ↑xs ix σ tn fp W m s7:=fun{σ7 H7 s7 m'} I7 e7 hm w7=>by
    show#[m',hm,.mk (i+1) σ7 H7 I7.unpinned e7 (T.keep _ _ _ st5 λb hb o e=>(I7.pin (b,o) 'ś').1) (λb hb=>?_) w7];let#[o,e,d]:=T.obj _ _ st5 b hb;show(I7.pin (b,o) 'ś').2.1
   let stp:=step xv _ y5 o3 ho3;rw[<-hσ3] at stp;show Z7 (hg _ _ _ _ _ _ s5 σ3 H5 xv u _ I5' r5 stp) ?_;rintro _ s6 ⟨σ6,H6,I6,e6,q6⟩;show Z7 (ht _ _ _ _ _ _ s6 _ _ _ I6 q6) ?_;rintro ok s7 ⟨H7,I7,q7⟩
   cases ok with
   |false=>
    rw[aK zP] at q7⊢;let#[m',hm,w7]:=q7;show again I7 e6 hm w7
   |true=>
    rw[aM rfl] at q7⊢;show Z7 (he _ _ _ _ _ _ s7 _ _ _ I7 q7) ?_;rintro y s8 ⟨yv,H8,I8,r8,ys8,m',e8,z8,hm,w8⟩;show Z7 (PU _ s8 _ H8 (.ref ‹s›) [yv] (.ref ‹s›) [y] (λ_ H9=>W (i+1) m' H9) I8 Z (.cons r8 .nil) #[_,ys8,yv,Z,Z,e8,z8,w8]) ?_;rintro _ s9 ⟨_,H9,I9,_,w9⟩;show again I9 e6 hm w9
 show codeAny_compStart_list (loop _ Z) (T.self _ 0 _ _ _ st1 (loop _ Z))
theorem qm{f c r:Expr}(j:jn)(x:Str){g:hW}{i:jv}{a:aE}{pos:Pos}{z:TI}{y:TT}{u:TE}(t:jj)(k:jn)(hc:X.calm=V')(hg:∀ C s H d E,PG (Vb X (j++k) a (Vc X.env a.names []) C s H d E) r g)(hi:PI X r c z)(ht:∀ C s H d E,NT (Vb X (j++k) a (Vc X.env a.names []) C s H d E) i y)(he:∀ C s H d E,PE (Vb X (j++k) a (Vc X.env a.names []) C s H d E) f u)(V:YT X a t k)(hk:Mq X.env a.names=V':=by rfl)(n:MV a x=V':=by rfl)(hs:∀ x,foldedSetIterable c X.env x=pure x:=by intro _;rfl):
  PE X (.ListComp f [#[r,c,i,(0)]] a pos) (BJ ↑j g z t y u):=by
 intro jV s σ H Q I h;let B:=Kc n;let F:=Em I.ok hk;rw[eval_ListComp];show wpAny_comprehension_free (use:=Y') Z hs (BI F) B.kind B.names (Z7 (hi jV s σ H _ I h) λv s1 W=>Z7 W λa0 s2 Y=>?_);let#[it,d,tn,J,H2,e,K,T,p,O,q2]:=Y;subst e;show GY (RR:=λl C=>compPost ↥X X.A X.xe Y' (EP X jV σ Q) l C) hc hg ht he (Fa F) B.kind B.cell (BD B.cell) V K T p O q2 ?_;intro D C s' G m hC L U hn q;show#[m,hn,λh' sb=>#[!D,G,?_,Z,q]];let#[M,N,_,P,R,S]:=U;show L.turned (t':=s'.toks) (λb o n e=>(sb.2 b n)|||e) M N P R S
theorem kO{f d t:Expr}(u:jn)(x:Str){g:hW}{y:Str}{n:Pos}{j:jv}{c:aE}{pos k:Pos}{wi:TI}{tt:TT}{te:TE}{i:Nat}(Y:jj)(G:jn)(hN:X.N.Nodup)(M:X.N[i]?\y)(W:X.env.scope.names.lookup y\.local)(hc:X.calm=V')(hg:∀ C s H l E,PG (Vb X (u++G) c (Vc X.env c.names []) C s H l E) t g)(hi:PI X t d wi)(ht:∀ C s H l E,NT (Vb X (u++G) c (Vc X.env c.names []) C s H l E) j tt)(he:∀ C s H l E,PE (Vb X (u++G) c (Vc X.env c.names []) C s H l E) f te)(fo:YT X c Y G)(O:swapsWith (.ListComp f [#[t,d,j,(0)]] c pos) (Z' (.Name y n)) k.line X.env=pure true:=by rfl)(hk:Mq X.env c.names=V':=by rfl)(L:MV c x=V':=by rfl)(hs:∀ x,foldedSetIterable d X.env x=pure x:=by intro _;rfl):
  PS X (.Assign [.Name y n] (.ListComp f [#[t,d,j,(0)]] c pos) k) (Ew i (BJ ↑u g wi Y tt te)):=by
 intro jV s σ H D I h;let B:=Kc L;let F:=Em I.ok hk;rw[exec_Assign_Name_used _ _ _ _ O];show aa (wpAny_standAt (aa ?_));change aB _ X.A (do let _<-comprehension (.ListComp f [#[t,d,j,(0)]] c pos) c X.env _ (newList []) false (aG d X.env) (Z' (assign (.Name y n) X.env))) _ _ s
 show aa (af (wpAny_comprehension_free (use:=Z' 'Ŕ') (Q:=λ_ r=>SP X jV D .next r) Z hs (BI F) B.kind B.names
  (Z7 (hi jV s σ H _ I h) λv s1 h1=>Z7 h1 λa0 s2 h2=>?_)) (λ_ r hq=>ae (ae hq)) λ_ _ e=>e)
 let#[it,l,tn,J,H2,e,I2,T,R,f2,q2]:=h2;subst e;show GY (RR:=λK C=>compPost ↥X X.A X.xe (Z' 'Ŕ') (λ_ r=>SP X jV D .next r) K C) hc hg ht he (Fa F) B.kind B.cell (BD B.cell) fo I2 T R f2 q2 ?_;intro S C r H' m hC Ix fC hn q;let#[f0,U,_,f3,V,f5]:=fC;change aB _ X.A (assign (.Name y n) X.env !S) _ _ _;show wpAny_assign_Name (E9 Ix hN M (.inl W) (v:=!S) Z (λs3 I3 ⟨a,sb,p⟩=>?_) (.inr W));let ne:C≠a:=by
  rcases p with p|p
  .rwa[p,U]
  .show λz=>V y a p z.symm
 show#[m,hn.sameBut sb ne,λh' P=>#[_,H',?_,q]];show I3.turned (t':=s3.toks) (λb o L e=>(P.2 b L)|||e) f0 U f3 V f5
theorem Wj.toT(h:Wj J σ a c b H Q):Iv J 1 (NC 0) σ a c b H Q:=λD f=>by
 let#[W,e,j]:=h D f;show#[W,e,λi m H k=>(j i m H k).imp id λq=>#[q.1,λx d y l g=>?_]];let#[_,rfl]:=gO.mp g;show#[#[[Z' x],Z,Z],q.2 x d y]
inductive LQ(c:TI)(σ:_T.St)(H:Hp)(K:It->Hp->Prop):Prop
 |mk(b:It->Hp->Prop)(_:c σ H b)(_:∀ J a,b J a->K J a)
theorem PI.more(h:PI X i g j):PI X i g (LQ j):=λjV s σ H R I ⟨l,n,f⟩=>
 af (h jV s σ H l I n) (λ_ _ z=>af z (by rintro _ _ ⟨o,m,p,J,k,a,b,c,d,e,r⟩;show#[o,m,p,J,k,a,b,c,d,e,f _ _ r]) λ_ _ z=>z) λ_ _ z=>z
theorem Vt{pos:Pos}(k)(e:jn)(t:X.calm=V')(v:PI X (.Name x n) b q)(A:∀ C s H f E,NT (Vb X (x::e) a (Vc X.env a.names []) C s H f E) d p)(u:∀ C s H f E,PE (Vb X (x::e) a (Vc X.env a.names []) C s H f E) c o)(r:YT X a k e)(w:Mq X.env a.names=V':=by rfl)(l:MV a x=V':=by rfl)(j:(x::e).Nodup:=by decide +kernel)(y:∀ x,foldedSetIterable b X.env x=pure x:=by intro _;rfl):
  PE X (.ListComp c [#[.Name x n,b,d,(0)]] a pos) (Ei q k p o):=by
 intro jV s σ H Q I h;let m:(relabel a X.env).names.lookup x\.local:=lookup_relabel_local (Kc l).own;show qm [x] x (g:=NC 0) k e t (λ_ _ _ _ _=>JP (i:=0) j Z (Or.inl m) (Or.inr m)) (PI.more v) A u r w l y jV s σ H Q I #[_,h,λ_ _ z=>Wj.toT z]
theorem Me{d b:Expr}{x y:Str}{o r:Pos}{e:jv}{a:aE}{pos c:Pos}{v:TI}{u:TT}{t:TE}{i:Nat}(n:jj)(f:jn)(A:X.N.Nodup)(k:X.N[i]?\y)(M:X.env.scope.names.lookup y\.local)(B:X.calm=V')(G:PI X (.Name x o) b v)(L:∀ C s H j E,NT (Vb X (x::f) a (Vc X.env a.names []) C s H j E) e u)(F:∀ C s H j E,PE (Vb X (x::f) a (Vc X.env a.names []) C s H j E) d t)(w:YT X a n f)(m:swapsWith (.ListComp d [#[.Name x o,b,e,(0)]] a pos) (Z' (.Name y r)) c.line X.env=pure true:=by rfl)(J:Mq X.env a.names=V':=by rfl)(p:MV a x=V':=by rfl)(l:(x::f).Nodup:=by decide +kernel)(K:∀ x,foldedSetIterable b X.env x=pure x:=by intro _;rfl):
  PS X (.Assign [.Name y r] (.ListComp d [#[.Name x o,b,e,(0)]] a pos) c) (Ew i (Ei v n u t)):=by
 intro jV s σ H D I h;let q:(relabel a X.env).names.lookup x\.local:=lookup_relabel_local (Kc p).own;show kO [x] x (g:=NC 0) n f A k M B (λ_ _ _ _ _=>JP (i:=0) l Z (Or.inl q) (Or.inr q)) (PI.more G) L F w m J p K jV s σ H D I #[_,h,λ_ _ z=>Wj.toT z]
end
end _T
local macro_rules|`(tactic|lia)=>do
 let a<-`(‹_›);let b<-`(_);let t:=("a a 2wJ|a a 2yC|a a 2zJ|a 0Z 1yS 2zJ|a 0Z 1yS 2yC|a 0Z 1yS 2wJ|a a 2zJ 0Z 1yS 2zJ|a 1vI a 0Z 1yS 2zJ 2zJ|a 1Eq.symm 1vI a 0Z 1yS 2zJ 2zJ|a 1yE|a 1Nat.pos_of_ne_zero|a 1sE|a 1vE|0rfl 1yS|b 1zY|b b 2tP|b b 2Nat.le_add_left|b b 2uU|b 1Int.natCast_nonneg|a 1Nat.lt_of_not_le|a 1tO|a 1Int.lt_of_not_ge|a 1Int.not_lt.mp|a b 1wC 2tH|a a 1Eq.symm 2Nat.lt_of_lt_of_eq|a a 2Nat.lt_of_lt_of_eq|a 1Nat.succ_pred_eq_of_ne_zero 1Eq.symm|a 1Nat.add_sub_of_le|a 1Nat.add_lt_of_lt_sub'|a 1Int.ofNat_lt.mpr|b b 2tP a 2wJ|b b 2sH b b 2uU 2zJ|b b 2sH b b 2uU a 2zJ 2zJ|b b 2uU a 2zJ|a 1Nat.le_sub_of_add_le'|a 1Nat.le_sub_of_add_le|a a 2Int.le_trans|a 1vI a 2wJ".splitOn "|").toArray.map (jx a b)
 let x0:=Lean.mkIdent `q
 let x1:=Lean.mkIdent `k
 let x2:=Lean.mkIdent `ht
 let x3:=Lean.mkIdent `hk
 let x4:=Lean.mkIdent `ht6
 let x5:=Lean.mkIdent `hk6
 `(tactic|first|assumption $[|show $t]*|((try clear $x0);(try clear $x1);(try clear $x2);(try clear $x3);(try clear $x4);(try clear $x5);lia (splits:=8))|lia (splits:=8))
namespace _T
open PySem PySem.Spec PyProof.Rows
inductive IU(K:zZ)(a:je)(H:Hp)(Q:VK):Prop
 |mk(x n t b:_)(_:a=[x,.ty n])(_:Xu K H x t)(_:xM K t (.type n)\b)(_:Q (.bl b) H)
theorem QE:QL X 'õ' (IU X.K):=by
 intro a s l H k j Q I r h;let#[x,n,t,b,rfl,g,e,q]:=h;let#[u,i,rfl,d,c]:=Jn r;cases(show i=Value.type n from c);show ox I d g e λf=>#[.bl b,H,I.tok f,Z,q]
theorem EG:xM K 'J' 'î'\false:=by kernel_rfl
theorem za:xM K 'O' 'î'\false:=by kernel_rfl
theorem xy:xM K 'w' 'î'\false:=by kernel_rfl
theorem Kk:xM K 'J' 'J'\true:=by kernel_rfl
theorem K1:xM K 'O' 'J'\false:=by kernel_rfl
theorem IC:xM K 'w' 'J'\false:=by kernel_rfl
theorem Tx:xM K 'J' 'O'\false:=by kernel_rfl
theorem LR:xM K 'O' 'O'\true:=by kernel_rfl
theorem HU:xM K 'w' 'O'\false:=by kernel_rfl
theorem zi:xM K 'J' 'w'\false:=by kernel_rfl
theorem xr:xM K 'O' 'w'\false:=by kernel_rfl
theorem Iw:xM K 'w' 'w'\true:=by kernel_rfl
theorem Qa:ay "isinstance"=Z' 'õ':=by decide +kernel
theorem Kh:ay "all"=Z' (.builtin "all"):=by decide +kernel
theorem Ji:ay "max"=Z' (.builtin "max"):=by decide +kernel
theorem BS:ay "min"=Z' (.builtin "min"):=by decide +kernel
theorem Jm:ay "abs"=Z' (.builtin "abs"):=by decide +kernel
theorem XE:ay "len"=Z' 'ĺ':=by decide +kernel
theorem Fp:ay "bool"=Z' 'î':=by decide +kernel
theorem O8:ay "int"=Z' 'J':=by decide +kernel
theorem Mv:ay "str"=Z' 'O':=by decide +kernel
theorem OX:ay "tuple"=Z' 'w':=by decide +kernel
theorem OU:ay "list"=Z' 'í':=by decide +kernel
inductive QU(x y:V)(H:Hp)(Q:VK):Prop
 |mk(i j:_)(_:x=.str i)(_:y=.str j)(_:Q (.bl (!gU (j.cps.toList<i.cps.toList))) H)
theorem Er:XF X (az .LtE) (QU):=by
 intro a s e H x y v u Q I b c h;let#[i,j,rfl,rfl,q]:=h;let#[t,rfl]:=b;let#[d,rfl]:=c;show PySem.P.le_str (XI I q ⋯)
inductive QM(a:zZ)(x y:V)(H:Hp)(Q:VK):Prop
 |mk(p b c:_)(_:x=!p)(_:y=!b)(_:ZF a H p c)(_:ZF a H b [])(_:Q (.bl c.isEmpty) H)
theorem MC(f:X.A.units<cLine):XF X (az .Eq) (QM X.K):=by
 intro l s G H x y v u Q I B C h;let#[p,b,D,rfl,rfl,c,o,q]:=h;cases B;cases C;let#[d,w,i,E]:=I.list c;let#[a,z,k,F]:=I.list o;let g:=↑w;let t:=↑z;let n:a=[]:=wP (by rw[<-t];rfl)
 subst n
 cases D with
 |nil=>
  let m:d=[]:=wP (by rw[<-g];rfl)
  subst m;show PySem.SeqAt.eq_listAt (e:=λ_=>true) i.isList k.isList Z f (λj c _=>gS c ⋯) (XI I q ⋯)
 |cons x r=>show PySem.SeqAt.eq_list_lengthsAt i.isList k.isList (by simp;intro e;subst e;simp at g) f (XI I q Z)
def RK(i j:Int):Prop:=0<j/\j.natAbs.log2<9000
theorem sr:XF X (binaryOp .FloorDiv) (rI RK λi j=>.int (i/j)):=LI λi j _ _ _ _ _ a q=>by
 let b:(0:Int)<j:=a.1;show floordiv_int () #v[qQ i (),q] (.inl (PyProof.noPylong_of_log2 a.2))
inductive ON(x:V)(b:je)(H:Hp)(Q:VK):Prop
 |mk(l:aj)(a:je)(i:Nat)(y:V)(_:x=!l)(_:b=[.int (i:Int),y])(_:H l\.lst a)(_:i<=↑a)(_:↑a<aq)(_:Q .non (upd H l (.lst (a.take i++y::a.drop i))))
theorem kH{a:jd}{Q:ja}(e:s.heap.get? l\{ cls:=.type "list",data:=.seq ⇑a n })(c:Builtin.List.listFitsIndex x=V')(d:↑a<=aq)(j:0<=x)(k:x.toNat<=↑a)(h:∀ g:js->js,g ⇑a=⇑(a.take x.toNat++u::a.drop x.toNat)->Q .none { s with heap:=s.heap.update l (Obj.mapSeq g) }):aB (aA b w) A (call (.builtin "list.insert") [!l,.int x t,u]) Q E s:=by
 show call_meets F.slot_list_insert #[_,e,Z] F.entry_list_insert (F.args_list_insert_3 _ _ _) (PySem.AutoSeq1.list_insert_list_int_val_1 l ⇑a n x t u #v[c,zP] #v[zF,d]) #[e,h _ ?_]
 let f:¬ (x<0):=()
 let i:min x.toNat ↑a=x.toNat:=()
 simp only[zF,f,if_false,i];apply sF.mp;simp;show zA #v[yJ,zY _]
theorem E6:KI X "list.insert" ON:=by
 intro k s K H x G v F Q I B A h;let#[l,J,i,y,rfl,rfl,d,u,D,q]:=h;cases B;let#[E,C,rfl,#[t,rfl],w]:=A.two;let#[z,b,n,r,j,e]:=I.lstM d;let p:=NX;let c:(i:Int).toNat=i:=uL i;let a:Builtin.List.listFitsIndex (i:Int)=V':=by
  unfold Builtin.List.listFitsIndex;let m:(-(2^63:Int)<=(i:Int)):=nofun
  let o:((i:Int)<2^63):=nofun
  show Bool.and_eq_true_iff.mpr #[aJ m,aJ o]
 show kH e a (by rwa[<-j,z]) nofun (by rwa[c,<-j,u]) λg f=>?_
 rw[c] at f;show#[.non,_,I.lset (its':=b.take i++C::b.drop i) d e f ((r.take i).append (.cons w (r.drop i))) ?_,Z,q];rw[zR,zN,yA,yJ]
 lia (splits:=8)
inductive OM(b:zZ)(c:je)(H:Hp)(Q:VK):Prop
 |mk(p:aj)(a:List Bool)(_:c=[!p])(_:ZF b H p (a.map V.bl))(_:Q (.bl (a.all id)) H)
theorem Ld(C:X.calm=V'):QL X (.builtin "all") (OM X.K):=by
 intro w s Y H W V Q I r h;let#[p,a,rfl,G,q]:=h;let#[u,rfl,L]:=Qy r;cases L;let#[c,y,k,T]:=I.list G;let t:=↑y;let g:p<‹s›:=by let#[_,e,_]:=k.isList;show zE e
 let j:p≠‹s›:=yK g;let D:=I.ok.hd C;let N:∀(i:Nat)(v:ai),c.toArray[i]?\v->v=.bool (a.getD i true):=λi v J=>by
  let d:c[i]?\v:=#v[J]
  let S:i<↑c:=(yW.mp d).1;let n:i<↑a:=by rw[zW] at t;lia
  let#[u,l,f]:=y.get (i:=i) (x:=.bl a[i]) (by rw[zK,zT n];rfl)
  erw[d] at l;rw[show v=Value.bool a[i] from f,zO,zT n];rfl
 show call_all_walk (wpAny_pyIter_list k.isList ?_);show#[_,_,_,_,_,_,(λi=>a.getD i true),Z,Walks.list (A:=X.A.in1) D ‹s› p j ⇑c,#[#[_,yI _ Z,Z,Z],k.isList.push _],λi v U P O z B=>?_,λR M E=>?_]
 .rwa[N i v z,wpAny_truthy_bool B]
 .let e:(yD c.toArray.size).all (λi=>a.getD i true)=a.all id:=by
   rw[zF,<-t,zW];let f:a.all id=((yD ↑a).map λi=>a.getD i true).all id:=by rw[range_getD]
   rw[f,uD];rfl
  rw[e];show#[.bl (a.all id),H,I.kept (t':=M) λb o m=>E b o ?_ (zD _ m),Z,q];intro F;show gS (zE m) #v[zV.mp F,xW _]
section
variable{R:Result->ak->Prop}
end
def Cd(x:Str):It:=#[λi _=>i<x.cps.size,λi H v a=>a=H/\∃ c,x.cps[i]?\c/\v=.str #[⇑[c]],λi _=>i=x.cps.size]
theorem BW(ty)(hty:["enumerate","zip","dict_itemiterator","dict_reverseitemiterator","odict_iterator","itertools.zip_longest","itertools.pairwise"].contains ty=false)(x)(t)(it)(W:∀ A,A.handled=Y'->Walks P w A it [it] [it] x.cps.size (SignAt x) (λi h=>h.IsStrIter it ty x t i))(self:∀  A   i   s  (Q:ja) (E:ja),s.heap.IsStrIter it ty x t i->Q (!it) s->aB (aA P w) A (pyIter !it) Q E s):
  Uf P w K tg (Cd x) [it] it (λi h=>h.IsStrIter it ty x t i) where
 mem:=by simp
 obj:=λi h st b hb=>by
  let e:b=it:=by simpa using hb
  subst e;let#[o,e,c,d]:=st;show#[o,e,λv z=>by erw[d] at z]
 keep:=λi h h' ⟨o,e,r⟩ k=>#[o,k it ⋯ o e,r]
 item:=by
  intro X hP hw hK hc i jV s σ H E I hf st hg;subst hP hw hK;let#[f0,f1,f2,f3,f4,f5]:=hf it ⋯
  show(W X.A (I.ok.hd hc)).item i s _ _ hg st λv h' tk hv st' kk=>?_;let#[c,u,hx,rfl]:=hv;let I1:ZH X jV σ H { s with heap:=h',toks:=tk }:=I.turned (λb o hb e=>kk b o #v[hb] e) f0 f1 f3 f4 f5
  let#[o,e,cl,d]:=id st';show#[1,M8 (s:={ s with heap:=h',toks:=tk }) e cl d hty #[.str #[⇑[c]],H,I1,#[u,Z],#[Z,c,hx,Z],st',λb hb=>(hf b hb).1]]
 done:=by
  intro X hP hw hK hc i jV s σ H E I hf st hg;subst hP hw hK;let#[f0,f1,f2,f3,f4,f5]:=hf it ⋯
  let hi:i=x.cps.size:=hg;subst hi;show(W X.A (I.ok.hd hc)).done s _ _ st λh' tk kk=>#[Z,I.turned (λb o hb e=>kk b o #v[hb] e) f0 f1 f3 f4 f5]
 self:=self
section
variable{tg:Expr}
inductive Mg(R:It->Hp->Prop)(v:V)(a:Hp):Prop
 |mk(x:_)(_:v=.str x)(_:R (Cd x) a)
def Se(b:TE):TI:=λc H R=>b c H λv a=>Mg R v a
theorem yo(r:PE X l n):PI X tg l (Se n):=by
 intro a s w H R I h;show Z7 (r a s w H _ I h) ?_;rintro v c ⟨z,f,d,u,x,e,q⟩;subst e;let#[t,rfl]:=u;let k:∀ b∈[‹c›],V9 X a f b:=λb p=>by
  rwa[zV.mp p,d.fpOk (zY _) 'ů']
 cases m:x.cps.all (· < 128)
 .show wpAny_pyIter_wide m #[‹c›,[‹c›],_,_,f,Z,d.kept (t':=c.toks) λb o e=>zD _ e,
   BW "str_iterator" 'b' x t _ (λA g=>Walks.strWide g _ x t) (λA i s Q E j h=>wpAny_pyIter_striter_wide j h),#[_,yI _ Z,Z,Z],k,q]
 .show wpAny_pyIter_ascii m #[‹c›,[‹c›],_,_,f,Z,d.kept (t':=c.toks) λb o e=>zD _ e,
   BW "str_ascii_iterator" 'b' x t _ (λA g=>Walks.strAscii g _ x t) (λA i s Q E j h=>wpAny_pyIter_striter_ascii j h),#[_,yI _ Z,Z,Z],k,q]
end
section
variable{σ:St}{H:Hp}{ix:jj}{te:TE}{Q:VK}
theorem Ul{J:It}{n:Nat}(d:Nat->V->Prop)(c:aj->Nat->je->Hp->Prop)(z:n<aq)(k:∀ D i a H,i<n->c D i a H->J.go i H)(t:∀ D i a H x g,i<n->c D i a H->J.yld i H x g->g=H/\d i x)(f:∀ D a H,c D n a H->J.stop n H)(q:∀ D,H D=Y'->c D 0 [] (upd H D (.lst [])))(step:∀ D i a H x,H D\.lst a->↑a<=i->i<n->d i x->c D i a H->∀ R:VK,(∀ y h,h D\.lst a->c D (i+1) (a++[y]) (upd h D (.lst (a++[y])))->R y h)->te 'ŏ' H R)(j:∀ D a H,H D\.lst a->c D n a H->Q (!D) H):Wj J σ ix Jt te H Q:=by
 intro D r;exists λi m H=>m=n-i/\i<=n/\∃ a,H D\.lst a/\↑a<=i/\c D i a H,#[n,Z,yY _,[],Za,zY _,q D r];rintro i m H ⟨rfl,w,a,e,s,p⟩;by_cases b:i<n
 .show .inr #[k D i a H b p,λx g y=>?_];let#[rfl,u]:=t D i a H x g b p y;unfold Jt;dsimp only;rw[aM rfl];show step D i a _ x e s b u p _ λy h o v=>?_;show#[a,n-(i+1),o,(),(),Z,b,a++[y],Za,by rw[zR,xV];lia,v]
 .let l:i=n:=()
  subst l;show .inl #[f D a H p,j D a H e p]
theorem kP{J:It}{n:Nat}{s:TT}(c:Nat->V->Prop)(d:V->Bool)(f:aj->Nat->je->Hp->Prop)(C:n<aq)(l:∀ D i a H,i<n->f D i a H->J.go i H)(z:∀ D i a H x j,i<n->f D i a H->J.yld i H x j->j=H/\c i x)(g:∀ D a H,f D n a H->J.stop n H)(u:∀ D,H D=Y'->f D 0 [] (upd H D (.lst [])))(h:∀ D i a H x,i<n->c i x->f D i a H->∀ R:Bool->Hp->Prop,R (d x) H->s 'ŏ' H R)(q:∀ D i a H x,H D\.lst a->i<n->c i x->d x=V'->f D i a H->f D (i+1) (a++[x]) (upd H D (.lst (a++[x]))))(A:∀ D i a H x,H D\.lst a->i<n->c i x->d x=false->f D i a H->f D (i+1) a H)(k:∀ D a H,H D\.lst a->f D n a H->Q (!D) H):Wj J σ ix s (QX 0) H Q:=by
 intro D v;exists λi m H=>m=n-i/\i<=n/\∃ a,H D\.lst a/\↑a<=i/\f D i a H,#[n,Z,yY _,[],Za,zY _,u D v];rintro i m H ⟨rfl,B,a,e,w,p⟩;by_cases b:i<n
 .show .inr #[l D i a H b p,λx j y=>?_];let#[rfl,o]:=z D i a H x j b p y;show h D i a _ x b o p _ ?_
  cases r:d x with
  |true=>
   rwa[aM Z,#[x,Z,a,n-(i+1),e,(),(),Z,b,a++[x],Za,by rw[zR,xV];lia,q D i a _ x e b o r p]]
  |false=>
   rwa[aK zP,#[n-(i+1),(),Z,b,a,e,sE w,A D i a _ x e b o r p]]
 .let t:i=n:=()
  subst t;show .inl #[g D a H p,k D a H e p]
end
inductive KT where
 |int (i:Int)
 |str (x:Str)
 |tup (l:List KT)
abbrev jm:=List KT
mutual
noncomputable def KT.depth:KT->Nat
 |.int _=>0
 |.str _=>0
 |.tup l=>1+jR l
noncomputable def jR:jm->Nat
 |[]=>0
 |t::r=>max t.depth (jR r)
end
mutual
noncomputable def KT.size:KT->Nat
 |.int _=>1
 |.str _=>1
 |.tup l=>1+sizeL l
noncomputable def sizeL:jm->Nat
 |[]=>0
 |t::r=>t.size+sizeL r
end
def Ph(c:Nat):Bool:=gU (32<=c)&&gU (c<=126)
def Nq(x:Str):Bool:=gU (↑x<=40)&&x.cps.toList.all Ph
mutual
def KT.fits:KT->Nat->Bool
 |.int i,_=>gU (i.natAbs<10^60)
 |.str x,_=>Nq x
 |.tup l,r=>gU (0<r)&&(gU (↑l<=4)&&fitsL l (r-1))
def fitsL:jm->Nat->Bool
 |[],_=>true
 |t::l,r=>t.fits r&&fitsL l r
end
theorem MI(r):∀ l,fitsL l r=l.all λt=>t.fits r
 |[]=>by simp[fitsL]
 |t::l=>by rw[fitsL,tU,MI r l]
mutual
theorem Vo:∀(t:KT)(r:Nat),t.fits r=V'->t.depth<=r
 |.int _,r,_=>#v[KT.depth,yY _]
 |.str _,r,_=>#v[KT.depth,yY _]
 |.tup l,r,h=>by
  rw[KT.fits,zI,zI] at h;let#[h1,_,h3]:=h;let h1':0<r:=of_decide_eq_true h1;have:=fitsL_depth l (r-1) h3;rw[KT.depth]
  lia
theorem fitsL_depth:∀(l:jm)(r:Nat),fitsL l r=V'->jR l<=r
 |[],r,_=>#v[jR,yY _]
 |t::l,r,h=>by
  rw[fitsL,zI] at h;let a:=Vo t r h.1;let b:=fitsL_depth l r h.2;rw[jR]
  lia
end
noncomputable def KT.things:KT->jm
 |.tup l=>l
 |_=>[]
def hQ(l:jm):jm:=l.flatMap KT.things
structure ZA(P:am)(w:aw)(K:zZ)(mg:jb)(jW:aD)(k:Nat)(x:Str)(ps:jn)(sp:Sp):Prop where
 ex:∃ f fd,ZI P w K mg jW ZJ k f fd ps sp/\Zx K fd ps []/\xX K (!f)=V'/\mg x\!f
theorem Zd{a:jv}{p pos:Pos}(D:ZA X.prog X.w X.K X.mg X.base k x o g)(l:ZX k X.A)(h:PA X (e::a) t)(j:Gl X x:=by rfl)(c:(x==("__debug__":Str))=false:=by decide)(i:ar (e::a) X.env=(false,aG e X.env)::ar a X.env:=by rfl)(d:(aF pos (ar a X.env)).any (·.1)=false:=by rfl):
  PE X (.Call 'X' (e::a) [] pos) (Fz g [] E0 t):=by
 let#[f,q,F,b,n,m]:=D.ex;show u4 F l j m n b .nil Zn h c i d
mutual
def ZD(H:Hp):KT->V->Prop
 |.int i,v=>v=.int i
 |.str x,v=>v=.str x
 |.tup l,v=>∃ a vs,v=.ref a/\H a\.tup vs/\jO H l vs
def jO(H:Hp):jm->je->Prop
 |[],vs=>vs=[]
 |t::l,vs=>∃ v r,vs=v::r/\ZD H t v/\jO H l r
end
def Z1(H c:Hp):=∀ b a,H b\.tup a->c b\.tup a
mutual
theorem ZD.mono{H H':Hp}(m:Z1 H H'):∀(t:KT)(v:V),ZD H t v->ZD H' t v
 |.int _,_,h=>by rw[ZD] at h⊢;show h
 |.str _,_,h=>by rw[ZD] at h⊢;show h
 |.tup l,_,h=>by
  rw[ZD] at h⊢;let#[a,vs,e,h1,h2]:=h;show#[a,vs,e,m a vs h1,jO.mono m l vs h2]
theorem jO.mono{H H':Hp}(m:Z1 H H'):∀(l:jm)(vs:je),jO H l vs->jO H' l vs
 |[],_,h=>by rw[jO] at h⊢;show h
 |t::l,_,h=>by
  rw[jO] at h⊢;let#[v,r,e,h1,h2]:=h;show#[v,r,e,ZD.mono m t v h1,jO.mono m l r h2]
end
def jO.nil{H:Hp}:jO H [] []:=by rw[jO]
def jO.cons{H:Hp}{t:KT}{l:jm}{v:V}{r:je}(h:ZD H t v)(a:jO H l r):jO H (t::l) (v::r):=by
 rwa[jO,#[v,r,Z,h,a]]
theorem ZD.tup{H:Hp}{a:aj}{b:je}{l:jm}(e:H a\.tup b)(h:jO H l b):ZD H (.tup l) (!a):=by
 rwa[ZD,#[a,b,Z,e,h]]
theorem ZD.int(i):ZD H (-i) (-i):=by rw[ZD]
theorem ZD.str(x):ZD H (.str x) (.str x):=by rw[ZD]
def jO.append{H:Hp}:∀{l m:jm}{a b:je},jO H l a->jO H m b->jO H (l++m) (a++b)
 |[],m,a,b,h,g=>by rw[jO] at h;subst h;show g
 |t::l,m,a,b,h,g=>by
  rw[jO] at h;let#[v,r,rfl,c,d]:=h;show .cons c (d.append g)
def jO.length{H:Hp}:∀{l:jm}{a:je},jO H l a->↑l=↑a
 |[],a,h=>by rw[jO] at h;subst h;rfl
 |t::l,a,h=>by
  rw[jO] at h;let#[v,r,rfl,_,b]:=h;rw[zN,zN,↑b]
def jO.get{H:Hp}:∀{l:jm}{a:je}{i:Nat}{v:V},jO H l a->a[i]?\v->∃ t,l[i]?\t/\ZD H t v
 |[],a,i,v,h,e=>by rw[jO] at h;subst h;simp at e
 |t::l,a,0,v,h,e=>by
  rw[jO] at h;let#[j,r,rfl,d,_]:=h;simp at e;subst e;show#[t,Z,d]
 |t::l,a,i+1,v,h,e=>by
  rw[jO] at h;let#[j,r,rfl,_,f]:=h;let#[g,b,c]:=f.get (i:=i) #v[e]
  show#[g,#v[b],c]
def jO.take{H:Hp}:∀{l:jm}{a:je}(n:Nat),jO H l a->jO H (l.take n) (a.take n)
 |l,a,0,_=>by simp only[tS];show .nil
 |[],a,n+1,h=>by rw[jO] at h;subst h;show .nil
 |t::l,a,n+1,h=>by
  rw[jO] at h;let#[d,r,rfl,b,c]:=h;show .cons b (c.take n)
def jO.drop{H:Hp}:∀{l:jm}{a:je}(n:Nat),jO H l a->jO H (l.drop n) 'Ű'
 |l,a,0,h=>h
 |[],a,n+1,h=>by rw[jO] at h;subst h;show .nil
 |t::l,a,n+1,h=>by
  rw[jO] at h;let#[d,r,rfl,c,b]:=h;show b.drop n
noncomputable def KT.ty:KT->ai
 |.int _=>.type "int"
 |.str _=>.type "str"
 |.tup _=>.type "tuple"
theorem ZD.ty{H:Hp}{K:zZ}{t:KT}{v:V}(h:ZD H t v):Xu K H v t.ty:=by
 cases t with
 |int i=>rw[ZD] at h;subst h;show .int i
 |str x=>rw[ZD] at h;subst h;show .str x
 |tup l=>rw[ZD] at h;let#[a,b,rfl,e,_]:=h;show .tup e
def ZG(p:aj)(H a:Hp):=∀ b o,H b\o->b≠p->a b\o
theorem ZG.refl(p)(H):ZG p H H:=λ_ _ h _=>h
theorem ZG.trans(a:ZG p H d)(b:ZG p d e):ZG p H e:=λc o h n=>b c o (a c o h n) n
theorem ZG.upd(a:ZG p H b):ZG p H (_T.upd b p o):=λc u h n=>#v[ZU n,a c u h n]
theorem ZG.of(a:ZE H b):ZG p H b:=λc o h _=>a c o h
theorem ZG.tups(a:ZG p H c)(h:H p\.lst d):Z1 H c:=λb f e=>a b _ e (ZZ e h)
theorem ZE.tups(a:ZE H c):Z1 H c:=λb d e=>a b _ e
theorem ZD.sm(h:ZD H t v)(s:ZE H a):ZD a t v:=h.mono 'è' _ _
def jO.sm{H a:Hp}{t:jm}{v:je}(h:jO H t v)(s:ZE H a):jO a t v:=h.mono 'è' _ _
theorem Zv(h:H p=Y')(o):ZE H (_T.upd H p o):=λb u q=>#v[ZU (Zg q h),q]
structure ZN(H:Hp)(p:aj):Prop where
 ex:∃ a b c d:Int,H p\.lst [-a,-b,-c,-d]/\0<=a/\a<2147483647/\0<=c/\0<=d
theorem ZN.stay{H f:Hp}(w:ZN H p)(s:ZG q H f)(n:p≠q):ZN f p:=by
 let#[a,b,c,d,e,r]:=w.ex;show#[a,b,c,d,s p _ e n,r]
theorem ZN.same{H f:Hp}{p:aj}(w:ZN H p)(s:ZE H f):ZN f p:=by
 let#[a,b,c,d,e,r]:=w.ex;show#[a,b,c,d,s p _ e,r]
theorem ZN.some(w:ZN H p):∃ f,H p=yV (.lst f):=by
 let#[a,b,c,d,e,r]:=w.ex;show#[_,e]
theorem ZG.tupsW(a:ZG p H b)(w:ZN H p):Z1 H b:=by
 let#[c,e]:=w.some;show a.tups e
def small(m:Int):Prop:=0<m/\m.natAbs.log2<9000
inductive VO(K:zZ)(d:je)(H:Hp)(Q:VK)(_:XK):Prop
 |mk(a:aj)(c:jy)(k:Int)(_:d=[!a,-k])(_:ZF K H a (c.map V.int))(_:↑c<=63)(_:0<=k)(_:k<=1000)(_:∀(p:aj)(b:Hp),H p=Y'->ZE H b->ZN b p->Q (!p) b)
inductive Z0(b:je)(H:Hp)(Q:VK)(_:XK):Prop
 |mk(p:aj)(m:Int)(_:b=[!p,-m])(_:ZN H p)(_:small m)(_:∀(r:Int)(a:Hp),0<=r->r<m->ZN a p->ZG p H a->Q (-r) a)
inductive VJ(b:je)(H:Hp)(Q:VK)(_:XK):Prop
 |mk(p:aj)(_:b=[!p])(_:ZN H p)(_:∀(x:Str)(a:Hp),Nq x=V'->ZN a p->ZG p H a->Q (.str x) a)
inductive Xg(n:Nat)(b:je)(H:Hp)(Q:VK)(_:XK):Prop
 |mk(p:aj)(r:Nat)(_:b=[!p,.int (r:Int)])(_:ZN H p)(_:r<n)(_:∀(v:V)(t:KT)(a:Hp),ZD a t v->t.fits r=V'->ZN a p->ZG p H a->Q v a)
inductive WR(n:Nat)(b:je)(H:Hp)(Q:VK)(_:XK):Prop
 |mk(v:V)(t:KT)(r q:Nat)(_:b=[v,.int (r:Int)])(_:ZD H t v)(_:t.fits q=V')(_:r<n)(_:∀ a,ZE H a->Q (.bl (t.fits r)) a)
inductive Qq(a:je)(H:Hp)(Q:VK)(_:XK):Prop
 |mk(i:Int)(_:a=[-i])(_:Q (.bl (gU (i.natAbs<10^60))) H)
inductive UO(a:je)(H:Hp)(Q:VK)(_:XK):Prop
 |mk(c:Nat)(_:a=[.str ⟨⇑[c]⟩])(_:Q (.bl (Ph c)) H)
inductive UP(b:je)(H:Hp)(Q:VK)(_:XK):Prop
 |mk(v:V)(t:KT)(q:Nat)(_:b=[v])(_:ZD H t v)(_:t.fits q=V')(_:∀ a,ZE H a->Q (.bl (t.fits 3)) a)
inductive Qs(K:zZ)(d:je)(H:Hp)(Q:VK)(_:XK):Prop
 |mk(a:aj)(b:jy)(_:d=[!a])(_:ZF K H a (b.map V.int))(_:↑b<=63)(_:∀ c,Q '<' c)
theorem nn(h:n<=1000):n<=sizeLine:=yE (Yq h)
theorem Yc(h:Nat.ble n 1000=V':=by rfl):n<=sizeLine:=nn (yS h)
theorem hU{x y:V}{i:Int}(a:0<=i)(b:i<2):∃ v,Xi [x,y] i\v/\(v=x\/v=y):=by
 rcases(show i=0\/i=1 by lia) with e|e
 .subst e;show#[x,Z,.inl Z]
 .subst e;show#[y,Z,.inr Z]
theorem NN{b:Type}{xs:List b}{i:Int}(c:0<=i)(d:i<(↑xs:Int)):∃ v,Xi xs i\v/\v∈xs:=by
 let a:i.toNat<↑xs:=()
 let e:i=((i.toNat:Nat):Int):=()
 rwa[e,#[xs[i.toNat],Yf (zT a),xK a]]
theorem Wl(a:0<m)(b:m.natAbs<2^250):small m:=by
 exists a;have:m.natAbs.log2<250:=(Nat.log2_lt ()).mpr b
 lia
theorem Lj(h:V.int i=V.int j):i=j:=by injection h
theorem pp(c):((!gU ([c]<[32]))&&!gU ([126]<[c]))=Ph c:=by
 unfold Ph;let a:([c]<[32])↔c<32:=by simp[uG]
 let b:([126]<[c])↔126<c:=by simp[uG]
 rw[wD];simp only[zI,Bool.not_eq_true',decide_eq_false_iff_not,decide_eq_true_eq,a,b]
 lia
theorem xz(i):gU ((if i<0 then -(i) else i)<10^(60:Int).toNat)=gU (i.natAbs<10^60):=by
 let e:((10:Int)^(60:Int).toNat)=((10^60:Nat):Int):=by decide +kernel
 rw[e];generalize (10^60:Nat)=N;apply decide_eq_decide.mpr;split<;>lia
mutual
noncomputable def KT.eqb:KT->KT->Bool
 |.int i,.int j=>i==j
 |.str x,.str y=>x==y
 |.tup l,.tup m=>jQ l m
 |_,_=>false
noncomputable def jQ:jm->jm->Bool
 |[],[]=>true
 |a::l,b::m=>a.eqb b&&jQ l m
 |_,_=>false
end
mutual
def KT.plt:KT->KT->Bool
 |.int i,.int j=>gU (i<j)
 |.str x,.str y=>gU (x.cps.toList<y.cps.toList)
 |.tup l,.tup m=>pltL l m
 |_,_=>false
def pltL:jm->jm->Bool
 |[],[]=>false
 |[],_::_=>true
 |_::_,[]=>false
 |a::l,b::m=>if a.eqb b=V' then pltL l m else a.plt b
end
mutual
def KT.cmp:KT->KT->Bool
 |.int _,.int _=>true
 |.str _,.str _=>true
 |.tup l,.tup m=>cmpL l m
 |_,_=>false
def cmpL:jm->jm->Bool
 |[],_=>true
 |_::_,[]=>true
 |a::l,b::m=>if a.eqb b=V' then cmpL l m else a.cmp b
end
noncomputable def KT.kind:KT->Nat
 |.int _=>0
 |.str _=>1
 |.tup _=>2
mutual
def KT.lt:KT->KT->Bool
 |.int i,.int j=>gU (i<j)
 |.int _,.str _=>true
 |.int _,.tup _=>true
 |.str _,.int _=>false
 |.str x,.str y=>gU (x.cps.toList<y.cps.toList)
 |.str _,.tup _=>true
 |.tup _,.int _=>false
 |.tup _,.str _=>false
 |.tup l,.tup m=>ltL l m
def ltL:jm->jm->Bool
 |[],[]=>false
 |[],_::_=>true
 |_::_,[]=>false
 |a::l,b::m=>if a.eqb b=V' then ltL l m else a.lt b
end
mutual
noncomputable def KT.st:KT->KT
 |.int i=>.tup [.int 0,-i]
 |.str x=>.tup [.int 1,.str x]
 |.tup l=>.tup [.int 2,.tup (stL l)]
noncomputable def stL:jm->jm
 |[]=>[]
 |t::l=>t.st::stL l
end
theorem CL:∀ l,stL l=l.map KT.st
 |[]=>by rw[stL];rfl
 |t::l=>by rw[stL,CL l];rfl
mutual
theorem Uk:∀(a b:KT),a.eqb b=V'->a=b
 |.int i,.int j,h=>by rw[KT.eqb] at h;rw[eq_of_beq h]
 |.str x,.str y,h=>by rw[KT.eqb] at h;rw[eq_of_beq h]
 |.tup l,.tup m,h=>by rw[KT.eqb] at h;rw[eqbL_eq l m h]
 |.int _,.str _,h=>by simp[KT.eqb] at h
 |.int _,.tup _,h=>by simp[KT.eqb] at h
 |.str _,.int _,h=>by simp[KT.eqb] at h
 |.str _,.tup _,h=>by simp[KT.eqb] at h
 |.tup _,.int _,h=>by simp[KT.eqb] at h
 |.tup _,.str _,h=>by simp[KT.eqb] at h
theorem eqbL_eq:∀(l m:jm),jQ l m=V'->l=m
 |[],[],_=>rfl
 |a::l,b::m,h=>by
  rw[jQ,zI] at h;rw[Uk a b h.1,eqbL_eq l m h.2]
 |[],_::_,h=>by simp[jQ] at h
 |_::_,[],h=>by simp[jQ] at h
end
mutual
theorem QV:∀ a:KT,a.eqb a=V'
 |.int i=>#v[KT.eqb,beq_self_eq_true i]
 |.str x=>#v[KT.eqb,beq_self_eq_true x]
 |.tup l=>#v[KT.eqb,eqbL_self l]
theorem eqbL_self:∀ l:jm,jQ l l=V'
 |[]=>by rw[jQ]
 |a::l=>by rw[jQ,QV a,eqbL_self l];rfl
end
theorem Xa{a b:KT}:a.eqb b=V'↔a=b:=#[Uk a b,λe=>#v[e,QV b]]
mutual
theorem De:∀ a b:KT,a.st.eqb b.st=a.eqb b
 |.int i,.int j=>by simp[KT.st,KT.eqb,jQ]
 |.str x,.str y=>by simp[KT.st,KT.eqb,jQ]
 |.tup l,.tup m=>by simp[KT.st,KT.eqb,jQ,eqbL_st l m]
 |.int _,.str _=>by simp[KT.st,KT.eqb,jQ]
 |.int _,.tup _=>by simp[KT.st,KT.eqb,jQ]
 |.str _,.int _=>by simp[KT.st,KT.eqb,jQ]
 |.str _,.tup _=>by simp[KT.st,KT.eqb,jQ]
 |.tup _,.int _=>by simp[KT.st,KT.eqb,jQ]
 |.tup _,.str _=>by simp[KT.st,KT.eqb,jQ]
theorem eqbL_st:∀ l m:jm,jQ (stL l) (stL m)=jQ l m
 |[],[]=>by simp[stL,jQ]
 |a::l,b::m=>by simp[stL,jQ,De a b,eqbL_st l m]
 |[],_::_=>by simp[stL,jQ]
 |_::_,[]=>by simp[stL,jQ]
end
theorem BT:∀ l,ltL l l=false
 |[]=>by rw[ltL]
 |a::l=>by rw[ltL,QV a,aM rfl,BT l]
theorem FX(h:jQ l m=V'):ltL l m=false:=by
 rwa[eqbL_eq l m h,BT m]
mutual
theorem FY:∀ a b:KT,a.st.cmp b.st=V'
 |.int i,.int j=>by simp[KT.st,KT.eqb,KT.cmp,cmpL]
 |.str x,.str y=>by simp[KT.st,KT.eqb,KT.cmp,cmpL]
 |.tup l,.tup m=>by simp[KT.st,KT.eqb,KT.cmp,cmpL,cmpL_st l m]
 |.int _,.str _=>by simp[KT.st,KT.eqb,KT.cmp,cmpL]
 |.int _,.tup _=>by simp[KT.st,KT.eqb,KT.cmp,cmpL]
 |.str _,.int _=>by simp[KT.st,KT.eqb,KT.cmp,cmpL]
 |.str _,.tup _=>by simp[KT.st,KT.eqb,KT.cmp,cmpL]
 |.tup _,.int _=>by simp[KT.st,KT.eqb,KT.cmp,cmpL]
 |.tup _,.str _=>by simp[KT.st,KT.eqb,KT.cmp,cmpL]
theorem cmpL_st:∀ l m:jm,cmpL (stL l) (stL m)=V'
 |[],_=>by simp[stL,cmpL]
 |_::_,[]=>by simp[stL,cmpL]
 |a::l,b::m=>by
  rw[stL,stL,cmpL,cmpL_st l m,FY a b];split<;>rfl
end
mutual
theorem EL:∀ a b:KT,a.st.plt b.st=a.lt b
 |.int i,.int j=>by
  simp only[KT.st,KT.eqb,KT.plt,pltL,KT.lt,beq_self_eq_true,if_true];by_cases h:i=j
  .subst h;simp
  .simp[h]
 |.str x,.str y=>by
  simp only[KT.st,KT.eqb,KT.plt,pltL,KT.lt,beq_self_eq_true,if_true];by_cases h:x=y
  .subst h;simp
  .simp[h]
 |.tup l,.tup m=>by
  simp only[KT.st,KT.eqb,KT.plt,pltL,KT.lt,beq_self_eq_true,if_true,eqbL_st,pltL_st l m]
  cases h:jQ l m with
  |true=>rw[aM rfl,FX h]
  |false=>rw[aK zP]
 |.int _,.str _=>by simp[KT.st,KT.eqb,KT.plt,pltL,KT.lt]
 |.int _,.tup _=>by simp[KT.st,KT.eqb,KT.plt,pltL,KT.lt]
 |.str _,.int _=>by simp[KT.st,KT.eqb,KT.plt,pltL,KT.lt]
 |.str _,.tup _=>by simp[KT.st,KT.eqb,KT.plt,pltL,KT.lt]
 |.tup _,.int _=>by simp[KT.st,KT.eqb,KT.plt,pltL,KT.lt]
 |.tup _,.str _=>by simp[KT.st,KT.eqb,KT.plt,pltL,KT.lt]
theorem pltL_st:∀ l m:jm,pltL (stL l) (stL m)=ltL l m
 |[],[]=>by simp[stL,pltL,ltL]
 |[],_::_=>by simp[stL,pltL,ltL]
 |_::_,[]=>by simp[stL,pltL,ltL]
 |a::l,b::m=>by rw[stL,stL,pltL,ltL,De a b,pltL_st l m,EL a b]
end
mutual
theorem Cq:∀ t:KT,t.st.depth<=2*t.depth+1
 |.int i=>by simp[KT.st,KT.depth,jR]
 |.str x=>by simp[KT.st,KT.depth,jR]
 |.tup l=>by
  have:=depthL_st l;simp only[KT.st,KT.depth,jR]
  lia
theorem depthL_st:∀ l:jm,jR (stL l)<=2*jR l+1
 |[]=>by simp[stL,jR]
 |t::l=>by
  let a:=Cq t;let b:=depthL_st l;rw[stL,jR,jR]
  lia
end
theorem Gf:∀(l m:jj),l<m->¬ m<l
 |[],[],h,_=>gS h (uP _)
 |[],_::_,_,h=>gS h (uP _)
 |_::_,[],h,_=>gS h (uP _)
 |a::l,b::m,h,c=>by
  rw[uG] at h c;rcases h with h|⟨rfl,h⟩
  .rcases c with c|⟨rfl,c⟩
   .lia
   .lia
  .rcases c with c|⟨_,c⟩
   .lia
   .show Gf l m h c
theorem DY:∀(l m:jj),¬ l<m->¬ m<l->l=m
 |[],[],_,_=>rfl
 |[],_::_,h,_=>gS (sG _ _) h
 |_::_,[],_,h=>gS (sG _ _) h
 |a::l,b::m,h,h'=>by
  rw[uG] at h h';let e:a=b:=by
   rcases Nat.lt_trichotomy a b with c|c|c
   .show gS (.inl c) h
   .show c
   .show gS (.inl c) h'
  subst e;rw[DY l m (λz=>h (.inr #[Z,z])) λz=>h' (.inr #[Z,z])]
theorem Fl:∀(l m k:jj),l<m->m<k->l<k
 |_,_,[],_,h=>gS h (uP _)
 |[],_,_::_,_,_=>sG _ _
 |_::_,[],_,h,_=>gS h (uP _)
 |a::l,b::m,c::k,h,d=>by
  rw[uG] at h d⊢;rcases h with h|⟨rfl,h⟩
  .rcases d with d|⟨rfl,d⟩
   .show .inl (Nat.lt_trans h d)
   .show .inl h
  .rcases d with d|⟨rfl,d⟩
   .show .inl d
   .show .inr #[Z,Fl l m k h d]
theorem T6(a b:KT):a.eqb b=b.eqb a:=by
 rwa[wD,Xa,Xa,eq_comm]
mutual
theorem Q9:∀(a b:KT),a.lt b=V'->b.lt a=false
 |.int i,.int j,h=>by rw[KT.lt] at h⊢;have:=of_decide_eq_true h;show aI ()
 |.int _,.str _,_=>by rw[KT.lt]
 |.int _,.tup _,_=>by rw[KT.lt]
 |.str _,.int _,h=>by erw[KT.lt] at h
 |.str x,.str y,h=>by rw[KT.lt] at h⊢;show aI (Gf _ _ (of_decide_eq_true h))
 |.str _,.tup _,_=>by rw[KT.lt]
 |.tup _,.int _,h=>by erw[KT.lt] at h
 |.tup _,.str _,h=>by erw[KT.lt] at h
 |.tup l,.tup m,h=>by rw[KT.lt] at h⊢;show ltL_asym l m h
theorem ltL_asym:∀(l m:jm),ltL l m=V'->ltL m l=false
 |[],[],h=>by erw[ltL] at h
 |[],_::_,_=>by rw[ltL]
 |_::_,[],h=>by erw[ltL] at h
 |a::l,b::m,h=>by
  rw[ltL] at h⊢;rw[T6 b a]
  cases e:a.eqb b with
  |true=>rw[e,aM rfl] at h;rwa[aM Z,ltL_asym l m h]
  |false=>rw[e,aK zP] at h;rwa[aK zP,Q9 a b h]
end
mutual
theorem Mb:∀(a b:KT),a.lt b=false->b.lt a=false->a=b
 |.int i,.int j,h,h'=>by rw[KT.lt] at h h';have:=of_decide_eq_false h;have:=of_decide_eq_false h';rw[show i=j by lia]
 |.int _,.str _,h,_=>by erw[KT.lt] at h
 |.int _,.tup _,h,_=>by erw[KT.lt] at h
 |.str _,.int _,_,h=>by erw[KT.lt] at h
 |.str x,.str y,h,h'=>by
  rw[KT.lt] at h h';let e:=DY _ _ (of_decide_eq_false h) (of_decide_eq_false h');let#[#[x]]:=x;let#[#[y]]:=y;dsimp only at e;rw[e]
 |.str _,.tup _,h,_=>by erw[KT.lt] at h
 |.tup _,.int _,_,h=>by erw[KT.lt] at h
 |.tup _,.str _,_,h=>by erw[KT.lt] at h
 |.tup l,.tup m,h,h'=>by rw[KT.lt] at h h';rw[ltL_total l m h h']
theorem ltL_total:∀(l m:jm),ltL l m=false->ltL m l=false->l=m
 |[],[],_,_=>rfl
 |[],_::_,h,_=>by erw[ltL] at h
 |_::_,[],_,h=>by erw[ltL] at h
 |a::l,b::m,h,h'=>by
  rw[ltL] at h h';rw[T6 b a] at h'
  cases e:a.eqb b with
  |true=>rw[e,aM rfl] at h h';rw[Xa.mp e,ltL_total l m h h']
  |false=>
   rw[e,aK zP] at h h';have:=Mb a b h h';erw[this,QV] at e
end
theorem UI(a:KT):a.lt a=false:=by
 cases h:a.lt a with
 |false=>rfl
 |true=>have:=Q9 a a h;erw[h] at this
mutual
theorem T9:∀(a b c:KT),a.lt b=V'->b.lt c=V'->a.lt c=V'
 |.int i,.int j,.int k,h,h'=>by rw[KT.lt] at h h'⊢;have:=of_decide_eq_true h;have:=of_decide_eq_true h';show aJ ()
 |.int _,_,.str _,_,_=>by rw[KT.lt]
 |.int _,_,.tup _,_,_=>by rw[KT.lt]
 |.str _,_,.tup _,_,_=>by rw[KT.lt]
 |.int _,.str _,.int _,_,h=>by erw[KT.lt] at h
 |.int _,.tup _,.int _,_,h=>by erw[KT.lt] at h
 |.str _,.int _,_,h,_=>by erw[KT.lt] at h
 |.str x,.str y,.str z,h,h'=>by rw[KT.lt] at h h'⊢;show aJ (Fl _ _ _ (of_decide_eq_true h) (of_decide_eq_true h'))
 |.str _,.str _,.int _,_,h=>by erw[KT.lt] at h
 |.str _,.tup _,.str _,_,h=>by erw[KT.lt] at h
 |.str _,.tup _,.int _,_,h=>by erw[KT.lt] at h
 |.tup _,.int _,_,h,_=>by erw[KT.lt] at h
 |.tup _,.str _,_,h,_=>by erw[KT.lt] at h
 |.tup l,.tup m,.tup k,h,h'=>by rw[KT.lt] at h h'⊢;show ltL_trans l m k h h'
 |.tup _,.tup _,.int _,_,h=>by erw[KT.lt] at h
 |.tup _,.tup _,.str _,_,h=>by erw[KT.lt] at h
theorem ltL_trans:∀(l m k:jm),ltL l m=V'->ltL m k=V'->ltL l k=V'
 |_,[],[],_,h=>by erw[ltL] at h
 |_,_::_,[],_,h=>by erw[ltL] at h
 |[],_,_::_,_,_=>by rw[ltL]
 |_::_,[],_::_,h,_=>by erw[ltL] at h
 |a::l,b::m,c::k,h,h'=>by
  rw[ltL] at h h'⊢
  cases e:a.eqb b with
  |true=>
   rw[e,aM rfl] at h;let ab:=Xa.mp e;subst ab
   cases e2:a.eqb c with
   |true=>rw[e2,aM rfl] at h';rwa[aM Z,ltL_trans l m k h h']
   |false=>rw[e2,aK zP] at h';rwa[aK zP,h']
  |false=>
   rw[e,aK zP] at h
   cases e2:b.eqb c with
   |true=>
    let bc:=Xa.mp e2;subst bc;rwa[e,aK zP,h]
   |false=>
    rw[e2,aK zP] at h';let ac:=T9 a b c h h'
    cases e3:a.eqb c with
    |true=>
     have:=Xa.mp e3;subst this;erw[UI] at ac
    |false=>rwa[aK zP,ac]
end
theorem T7{a b c:KT}(f:b.lt a=false)(d:c.lt b=false):c.lt a=false:=by
 cases h:c.lt a with
 |false=>rfl
 |true=>
  cases e:a.lt b with
  |true=>erw[T9 c a b h e] at d
  |false=>erw[Mb a b e f,d] at h
theorem LU{a b c:KT}(e:b.lt a=false)(d:b.lt c=V'):a.lt c=V':=by
 cases h:a.lt c with
 |true=>rfl
 |false=>erw[T7 h e] at d
mutual
def ZL(h:aD):KT->ai->Prop
 |.int i,v=>∃ t,v=.int i t
 |.str x,v=>∃ t,v=.str x t
 |.tup l,v=>∃(a:aj)(its:jd),v=.ref a/\IsTup h a ⇑its/\jP h l its
def jP(h:aD):jm->jd->Prop
 |[],vs=>vs=[]
 |t::l,vs=>∃ v r,vs=v::r/\ZL h t v/\jP h l r
end
section
variable{jV:jo}{σ:_T.St}{H:Hp}
mutual
theorem VY(I:'c'):∀(t:KT)(x:V)(v:ai),ZD H t x->ZT x v->ZL s.heap t v
 |.int i,x,v,h,r=>by
  rw[ZD] at h;subst h;rwa[ZL,r]
 |.str y,x,v,h,r=>by
  rw[ZD] at h;subst h;rwa[ZL,r]
 |.tup l,x,v,h,r=>by
  rw[ZD] at h;let#[a,vs,rfl,e,hk]:=h;let#[its,rv,pl,_]:=I.tuple (Zp.of e);rwa[ZL,#[a,its,r,pl,kvals_of I l vs its hk rv]]
theorem kvals_of(I:'c'):∀(l:jm)(vs:je)(us:jd),jO H l vs->ZS vs us->jP s.heap l us
 |[],vs,us,h,r=>by
  rw[jO] at h;subst h;rw[jP];cases r;rfl
 |t::l,vs,us,h,r=>by
  rw[jO] at h;let#[v,q,rfl,h1,h2]:=h
  cases r with
  |cons r1 r2=>
   rwa[jP,#[_,1,VY I t v _ h1 r1,kvals_of I l q _ h2 r2]]
end
end
theorem oI{c b:jd}(x:IsTup h a ⇑c)(y:IsTup h a ⇑b):c=b:=by
 let#[o,e,_,n,d]:=x;let#[j,g,_,i,f]:=y;erw[e] at g;rw[d] at f;injection f with d1 _;simpa using congrArg gQ d1
mutual
theorem ZL.inj{h:aD}:∀(a b:KT)(v:ai),ZL h a v->ZL h b v->a.eqb b=V'
 |.int i,b,v,x,y=>by
  rw[ZL] at x;let#[t,rfl]:=x
  cases b with
  |int j=>rw[ZL] at y;let#[u,e]:=y;injection e with e _;rwa[KT.eqb,e,beq_self_eq_true j]
  |str z=>rw[ZL] at y;let#[u,e]:=y;cases e
  |tup m=>rw[ZL] at y;let#[_,_,e,_]:=y;cases e
 |.str w,b,v,x,y=>by
  rw[ZL] at x;let#[t,rfl]:=x
  cases b with
  |int j=>rw[ZL] at y;let#[u,e]:=y;cases e
  |str z=>rw[ZL] at y;let#[u,e]:=y;injection e with e _;rwa[KT.eqb,e,beq_self_eq_true z]
  |tup m=>rw[ZL] at y;let#[_,_,e,_]:=y;cases e
 |.tup l,b,v,x,y=>by
  rw[ZL] at x;let#[p,its,rfl,px,kx]:=x
  cases b with
  |int j=>rw[ZL] at y;let#[u,e]:=y;cases e
  |str z=>rw[ZL] at y;let#[u,e]:=y;cases e
  |tup m=>
   rw[ZL] at y;let#[q,its',e,py,ky]:=y;cases e;cases oI px py;rwa[KT.eqb,jP.inj l m its kx ky]
theorem jP.inj{h:aD}:∀(l m:jm)(us:jd),jP h l us->jP h m us->jQ l m=V'
 |[],m,us,x,y=>by
  rw[jP] at x;subst x
  cases m with
  |nil=>rw[jQ]
  |cons b m=>rw[jP] at y;let#[_,_,e,_]:=y;cases e
 |a::l,m,us,x,y=>by
  rw[jP] at x;let#[v,r,rfl,x1,x2]:=x
  cases m with
  |nil=>erw[jP] at y
  |cons b m=>
   rw[jP] at y;let#[v',r',e,y1,y2]:=y;injection e with e1 e2;subst e1 e2;rw[jQ,ZL.inj a b v x1 y1,jP.inj l m r x2 y2];rfl
end
def jP.length{h:aD}:∀{l:jm}{b:jd},jP h l b->↑l=↑b
 |[],b,x=>by rw[jP] at x;subst x;rfl
 |a::l,b,x=>by
  rw[jP] at x;let#[v,r,rfl,_,c]:=x;rw[zN,zN,↑c]
def jP.get{h:aD}:∀{l:jm}{b:jd}{j:Nat}{u:ai},jP h l b->b[j]?\u->∃ t,l[j]?\t/\ZL h t u
 |[],b,j,u,x,e=>by rw[jP] at x;subst x;simp at e
 |a::l,b,0,u,x,e=>by
  rw[jP] at x;let#[v,r,rfl,f,_]:=x;simp at e;subst e;show#[a,Z,f]
 |a::l,b,j+1,u,x,e=>by
  rw[jP] at x;let#[v,r,rfl,_,g]:=x;let#[t,c,d]:=g.get (j:=j) #v[e]
  show#[t,#v[c],d]
theorem OY:∀{l:jm}{t:KT},t∈l->t.depth<=jR l
 |[],_,h=>by cases h
 |u::l,t,h=>by
  rw[jR];rcases zU.mp h with e|h
  .subst e;lia
  .have:=OY h;lia
theorem NJ:∀ l m ,((yD (min ↑l ↑m)).all (λj=>(l.getD j (.int 0)).eqb 'p')&&↑l==↑m)=jQ l m
 |[],[]=>by simp[jQ]
 |[],_::_=>by simp[jQ]
 |_::_,[]=>by simp[jQ]
 |a::l,b::m=>by
  let c:=NJ l m;let e:min ↑(a::l) ↑(b::m)=min ↑l ↑m+1:=by simp only[zN];lia
  rw[e,List.range_succ_eq_map,tU,uD,jQ,<-c,Bool.and_assoc];simp[Function.comp_def]
theorem Pq:∀ n  a b  A  v u ,a.depth<=n->ZL s.heap a v->ZL s.heap b u->A.units+a.depth<cLine->SeqAt.EqAt A s v u (a.eqb b)
 |n,.int i,b,A,v,u,_,x,y,o=>by
  rw[ZL] at x;let#[t,rfl]:=x;let d:A.units<cLine:=()
  cases b with
  |int j=>rw[ZL] at y;let#[g,rfl]:=y;rwa[KT.eqb,SeqAt.EqAt.int_int i t j g]
  |str z=>rw[ZL] at y;let#[g,rfl]:=y;rwa[show 'ĕ'.eqb (.str z)=false by simp[KT.eqb],SeqAt.EqAt.int_str i t z g]
  |tup m=>rw[ZL] at y;let#[p,f,rfl,k,_]:=y;rwa[show 'ĕ'.eqb (.tup m)=false by simp[KT.eqb],SeqAt.EqAt.int_tuple i t k d]
 |n,.str w,b,A,v,u,_,x,y,o=>by
  rw[ZL] at x;let#[t,rfl]:=x;let d:A.units<cLine:=()
  cases b with
  |int j=>rw[ZL] at y;let#[g,rfl]:=y;rwa[show 'Ĕ'.eqb (-j)=false by simp[KT.eqb],SeqAt.EqAt.str_int w t j g]
  |str z=>rw[ZL] at y;let#[g,rfl]:=y;rwa[KT.eqb,SeqAt.EqAt.str_str w t z g]
  |tup m=>rw[ZL] at y;let#[p,f,rfl,k,_]:=y;rwa[show 'Ĕ'.eqb (.tup m)=false by simp[KT.eqb],SeqAt.EqAt.str_tuple w t k d]
 |0,.tup l,b,A,v,u,C,x,y,o=>by
  rw[KT.depth] at C
  lia
 |n+1,.tup l,b,A,v,u,C,x,y,o=>by
  let U:=x;rw[ZL] at x;let#[p,f,rfl,D,G]:=x;rw[KT.depth] at C o;let d:A.units<cLine:=()
  cases b with
  |int j=>rw[ZL] at y;let#[g,rfl]:=y;rwa[show 'ē'.eqb (-j)=false by simp[KT.eqb],SeqAt.EqAt.tuple_int j g D d]
  |str z=>rw[ZL] at y;let#[g,rfl]:=y;rwa[show 'ē'.eqb (.str z)=false by simp[KT.eqb],SeqAt.EqAt.tuple_str z g D d]
  |tup m=>
   let V:=y;rw[ZL] at y;let#[q,c,rfl,k,H]:=y;by_cases h:p=q
   .subst h;rwa[ZL.inj _ _ _ U V,SeqAt.EqAt.same _]
   .let S:=↑G;let T:=↑H;let I:=SeqAt.RcAt.tuples (A:=A) (s:=s) (e:=λj=>(l.getD j (.int 0)).eqb 'p') D k d (λj O P=>by
     let r:j<↑f:=by simpa using O
     let B:j<↑c:=by simpa using P
     let#[E,F,Q]:=G.get (j:=j) (u:=f[j]) (by simp[r])
     let#[J,K,R]:=H.get (j:=j) (u:=c[j]) (by simp[B])
     let W:=OY (zG F);let M:l.getD j (.int 0)=E:=by rw[zO,F];rfl
     let N:m.getD j (.int 0)=J:=by rw[zO,K];rfl
     have:=Pq n E J A.in1 f[j] c[j] () Q R (by change A.units+1+E.depth<cLine;lia)
     change SeqAt.EqAt A.in1 s _ _ ('Đ'.eqb 'p');rw[M,N];simpa using this)
    let L:((yD (min f.toArray.size c.toArray.size)).all (λj=>(l.getD j (.int 0)).eqb 'p')&&f.toArray.size==c.toArray.size)=(KT.tup l).eqb (.tup m):=by
     rwa[zF,zF,<-S,<-T,KT.eqb,NJ l m]
    rw[L] at I;show .of_refs h I
theorem pE(a b)(A)(v u)(x:ZL s.heap a v)(y:ZL s.heap b u)(M:A.units+a.depth<cLine):SeqAt.RcNeAt A s v u (!a.eqb b):=by
 let f:A.units<cLine:=()
 cases a with
 |int i=>
  rw[ZL] at x;let#[t,rfl]:=x
  cases b with
  |int j=>rw[ZL] at y;let#[g,rfl]:=y;rwa[KT.eqb,SeqAt.RcNeAt.int_int i t j g]
  |str z=>rw[ZL] at y;let#[g,rfl]:=y;rwa[show 'ĕ'.eqb (.str z)=false by simp[KT.eqb],SeqAt.RcNeAt.int_str i t z g]
  |tup m=>rw[ZL] at y;let#[p,d,rfl,h,_]:=y;rwa[show 'ĕ'.eqb (.tup m)=false by simp[KT.eqb],SeqAt.RcNeAt.int_tuple i t h f]
 |str w=>
  rw[ZL] at x;let#[t,rfl]:=x
  cases b with
  |int j=>rw[ZL] at y;let#[g,rfl]:=y;rwa[show 'Ĕ'.eqb (-j)=false by simp[KT.eqb],SeqAt.RcNeAt.str_int w t j g]
  |str z=>rw[ZL] at y;let#[g,rfl]:=y;rwa[KT.eqb,SeqAt.RcNeAt.str_str w t z g]
  |tup m=>rw[ZL] at y;let#[p,d,rfl,h,_]:=y;rwa[show 'Ĕ'.eqb (.tup m)=false by simp[KT.eqb],SeqAt.RcNeAt.str_tuple w t h f]
 |tup l=>
  rw[ZL] at x;let#[p,d,rfl,r,C]:=x;rw[KT.depth] at M
  cases b with
  |int j=>rw[ZL] at y;let#[g,rfl]:=y;rwa[show 'ē'.eqb (-j)=false by simp[KT.eqb],SeqAt.RcNeAt.tuple_int j g r f]
  |str z=>rw[ZL] at y;let#[g,rfl]:=y;rwa[show 'ē'.eqb (.str z)=false by simp[KT.eqb],SeqAt.RcNeAt.tuple_str z g r f]
  |tup m=>
   rw[ZL] at y;let#[q,c,rfl,h,D]:=y;let P:=↑C;let Q:=↑D;let E:=SeqAt.RcNeAt.tuples (A:=A) (s:=s) (e:=λj=>(l.getD j (.int 0)).eqb 'p') r h f (λj K L=>by
    let n:j<↑d:=by simpa using K
    let o:j<↑c:=by simpa using L
    let#[k,B,N]:=C.get (j:=j) (u:=d[j]) (by simp[n])
    let#[F,G,O]:=D.get (j:=j) (u:=c[j]) (by simp[o])
    let R:=OY (zG B);let I:l.getD j (.int 0)=k:=by rw[zO,B];rfl
    let J:m.getD j (.int 0)=F:=by rw[zO,G];rfl
    have:=Pq k.depth k F A.in1 d[j] c[j] (zY _) N O (by change A.units+1+k.depth<cLine;lia)
    change SeqAt.EqAt A.in1 s _ _ ('Đ'.eqb 'p');rw[I,J];simpa using this)
   let H:((yD (min d.toArray.size c.toArray.size)).all (λj=>(l.getD j (.int 0)).eqb 'p')&&d.toArray.size==c.toArray.size)=(KT.tup l).eqb (.tup m):=by
    rwa[zF,zF,<-P,<-Q,KT.eqb,NJ l m]
   rw[H] at E;show E
theorem oj{a c:KT}{l m:jm}:pltL (a::l) (c::m)=if a.eqb c=V' then pltL l m else a.plt c:=by rw[pltL]
theorem AN{l m:jm}{i j:Nat}(h:l=[]\/m=[])(e:↑l+j=↑m+i):pltL l m=gU (i<j):=by
 rcases h with rfl|rfl
 .cases m<;>simp[pltL] at e⊢ <;> lia
 .cases l<;>simp[pltL] at e⊢ <;> lia
def KW(A:ax)(s:ak)(v u:ai)(b:Bool):Prop:=
 ∀(a:am)(w:aw)(E:ja)(Q:ja),Q (.bool b) s->aB (aA a w) A (richCompare .Lt v u) Q E s
section
open PySem.SeqAt
open PySem.AutoSeq1 (wpAny_loadPart')
open PySem.MeetsSeq PySem.MeetsSeq2 PySem.MeetsSeq3
inductive EX(c:aD)(d:jm)(n m:Nat)(G:jm->jm->Prop)(rest:List (ai×ai)):Prop
 |mk(e f:jd)(a b:jm):rest=e.zip f->jP c a e->jP c b f->(∀ x∈a,x∈d)->cmpL a b=V'->↑a+m=↑b+n->G a b->EX c d n m G rest
theorem kg(l b)(f e:js)(n n2)(dd K:ju)(sl O:Array (jc))(D J):
  Meets (Builtin.«tuple.__lt__» #[[!l,!b],[]])
   (λA R s=>s.heap.get? l\{ cls:=.type "tuple",dict:=dd,data:=.seq f n,slots:=sl }/\s.heap.get? b=Z' { cls:=.type "tuple",dict:=K,data:=.seq e n2,slots:=O } /\
    jP s.heap D f.toList/\jP s.heap J e.toList/\cmpL D J=V' /\
    (∀ x y v u,x∈D->ZL s.heap x v->ZL s.heap y u->EqAt A.in1 s v u (x.eqb y))/\(∀ x y v u,x∈D->ZL s.heap x v->ZL s.heap y u->x.cmp y=V'->KW A.in1 s v u (x.plt y)) /\
    R (.ok (.ret (.bool (pltL D J)))) s):=by
 let P:=@oj;let Q:=@AN;generalize pltL=F at P Q⊢;show .of_wp λC w A R s h=>?_;let#[L,g,d,Y,X]:=s;let#[hl,hb,S,T,hc,hE,hL,h]:=h;let f2:=AutoSeq1.sub_tuple_tuple;let z1:f.size=↑D:=by rw[↑S];simp
 let z2:e.size=↑J:=by rw[↑T];simp
 wp_walk using wpAny_loadPart' hl,wpAny_loadPart' hb,wpAny_forIn_list _ (λrest b N=>b.1=Y'/\N=#[L,g,d,Y,X]/\EX L D f.size e.size (λa b=>R (.ok (.ret (.bool (F a b)))) #[L,g,d,Y,X]) rest) _
 case turn=>
  rintro⟨y,x⟩ rest b N ⟨E,rfl,vs,ws,q,r,p,i,j,t,k,m,B⟩
  cases q with
  |nil=>rw[jP] at i;subst i;erw[List.zip_nil_left] at p
  |cons a q=>
   cases r with
   |nil=>rw[jP] at j;subst j;erw[List.zip_nil_right] at p
   |cons c r=>
    rw[jP] at i j;let#[v,vr,rfl,V,H]:=i;let#[u,ur,rfl,W,I]:=j;rw[List.zip_cons_cons] at p;injection p with hyx hrest;injection hyx with hy M;subst hy M;rw[P] at B;rw[cmpL] at k;simp only[zN] at m;let he:=hE a c y x (t a zX) V W;show aa (he C w _ _ ?_)
    cases U:a.eqb c with
    |true=>
     rw[U,aM rfl] at B k
     wp_walk
     show#[Z,Z,_,_,_,_,hrest,H,I,λz p=>t z (zS _ p),k,(),B]
    |false=>
     rw[U,aK zP] at B k;let G:=hL a c y x (t a zX) V W k C w
     wp_walk using G
     show#[1,#v[B]]
 case fin=>
  rintro⟨b1,b2⟩ N ⟨E,rfl,vs,ws,q,r,p,i,j,t,k,m,B⟩;simp only at E;subst E;rw[Q (by
   cases q with
   |nil=>show .inl Z
   |cons a q=>
    cases r with
    |nil=>show .inr Z
    |cons c r=>
     rw[jP] at i j;let#[v,vr,rfl,_,_]:=i;let#[u,ur,rfl,_,_]:=j;erw[List.zip_cons_cons] at p) m] at B
  wp_walk
  show#[1,by simpa [Builtin.Tuple.tupleCompareSizes] using B]
 case h=>
  show#[Z,Z,f.toList,e.toList,D,J,Z,S,T,λ_ M=>M,hc,(),h]
end
theorem Dc:∀ n  a b  A  v u ,a.depth<=n->ZL s.heap a v->ZL s.heap b u->a.cmp b=V'->A.units+a.depth<cLine->KW A s v u (a.plt b)
 |n,.int i,b,A,v,u,_,x,y,d,H=>by
  rw[ZL] at x;let#[t,rfl]:=x
  cases b with
  |int j=>
   rw[ZL] at y;let#[D,rfl]:=y;rw[KT.plt];intro c w E Q h
   show HT.rcLt_int A s i t j D c w E Q h
  |str z=>simp[KT.cmp] at d
  |tup m=>simp[KT.cmp] at d
 |n,.str w,b,A,v,u,_,x,y,d,H=>by
  rw[ZL] at x;let#[t,rfl]:=x
  cases b with
  |int j=>simp[KT.cmp] at d
  |str z=>
   rw[ZL] at y;let#[D,rfl]:=y;rw[KT.plt];intro c w' E Q h
   show(lt_str h:aB (aA c w') A (az .Lt (.str w t) (.str z D)) Q E s)
  |tup m=>simp[KT.cmp] at d
 |0,.tup l,b,A,v,u,K,x,y,d,H=>by
  rw[KT.depth] at K
  lia
 |n+1,.tup l,b,A,v,u,K,x,y,d,H=>by
  rw[ZL] at x;let#[p,M,rfl,px,kx]:=x;rw[KT.depth] at K H;let B:A.units<cLine:=()
  cases b with
  |int j=>simp[KT.cmp] at d
  |str z=>simp[KT.cmp] at d
  |tup m=>
   rw[ZL] at y;let#[q,C,rfl,py,ky]:=y;rw[KT.cmp] at d;rw[show KT.plt (.tup l) (.tup m)=pltL l m by rw[KT.plt]];intro c w E Q h;let#[#[cls,dd,data,sl],G,k,R,Y]:=id px;let#[#[V,J,I,U],f,g,S,r]:=id py;simp only at k Y g r;subst k Y g r;let W:∀ x y v u,x∈l->ZL s.heap x v->ZL s.heap y u->SeqAt.EqAt A.in1 s v u (x.eqb y):=λx y v u L N O=>by
    let d1:=OY L;show Pq x.depth x y A.in1 v u (zY _) N O (by change A.units+1+x.depth<cLine;lia)
   let X:∀ x y v u,x∈l->ZL s.heap x v->ZL s.heap y u->x.cmp y=V'->KW A.in1 s v u (x.plt y):=λx y v u L N O k3=>by
    let d1:=OY L;show Dc n x y A.in1 v u () N O k3 (by change A.units+1+x.depth<cLine;lia)
   let T:=kg p q ⇑M ⇑C R S dd J sl U l m
   show richCompare_meets_room (op:=.Lt) #[_,G,Z] #[_,f,Z] PySem.F.slot_tuple_lt PySem.F.entry_tuple_lt (PySem.F.args_tuple_lt_2 _ _) T #[G,f,kx,ky,d,W,X,(λx=>nomatch x),h] B
theorem C0(n)(a b)(A)(v u):a.depth<=n->ZL s.heap a v->ZL s.heap b u->a.cmp b=V'->A.units+a.depth<cLine->KW A s v u (a.plt b):=Dc n a b A v u
theorem ZX.key{k:Nat}{A:ax}(r:ZX k A){n:Nat}(h:n<=200):A.units+n<cLine:=by have:=r.un;lia
inductive Iz(x y:V)(H:Hp)(Q:VK):Prop
 |mk(a b:_)(_:ZD H a x)(_:ZD H b y)(_:a.depth<=200)(_:Q (.bl (!a.eqb b)) H)
inductive HA(x y:V)(H:Hp)(Q:VK):Prop
 |mk(a b:_)(_:ZD H a x)(_:ZD H b y)(_:a.cmp b=V')(_:a.depth<=200)(_:Q (.bl (a.plt b)) H)
theorem BR(g:ZX k X.A):XF X 'Ġ' Iz:=by
 intro c s l H x y v u Q I i j h;let#[a,b,d,e,f,q]:=h;show pE a b X.A v u (VY I a x v d i) (VY I b y u e j) (ZX.key g f) X.prog X.w X.xe _ #[.bl _,H,I,Z,q]
theorem y'(i:ZX k X.A):XF X (az .Lt) HA:=by
 intro c s m H x y v u Q I j l h;let#[a,b,d,e,f,g,q]:=h;show C0 a.depth a b X.A v u (zY _) (VY I a x v d j) (VY I b y u e l) f (ZX.key i g) X.prog X.w X.xe _ #[.bl _,H,I,Z,q]
mutual
def VQ(w:aw):KT->Int
 |.int i=>hashInt i
 |.str x=>EN w (.inr x)
 |.tup l=>reduceHash (Builtin.Tuple.tupleHashOf (hashL w l))
def hashL(w:aw):jm->jy
 |[]=>[]
 |t::l=>VQ w t::hashL w l
end
theorem Di(w):∀ l m ,hashL w (l++m)=hashL w l++hashL w m
 |[],m=>by rw[hashL];rfl
 |t::l,m=>by rw[tN,hashL,hashL,Di w l m];rfl
theorem IZ:∀(n:Nat)(t:KT){A:ax}{E:ja}{s:ak}{v:ai}{Q:Int->ak->Prop},t.depth<=n->ZL s.heap t v->A.units+t.depth<cLine->(∀ d,s.toks<=d->Q (VQ w t) { s with toks:=d })->aB ↥_ A (pyHash v) Q E s
 |n,.int i,A,E,s,v,Q,_,x,B,q=>by
  rw[ZL] at x;let#[t,rfl]:=x;rw[VQ] at q;show wpAny_pyHash_int (q _ (vK _))
 |n,.str i,A,E,s,v,Q,_,x,B,q=>by
  rw[ZL] at x;let#[t,rfl]:=x;rw[VQ] at q;show wpAny_pyHash_str (q _ (vK _))
 |0,.tup l,A,E,s,v,Q,D,x,B,q=>by rw[KT.depth] at D;lia
 |n+1,.tup l,A,E,s,v,Q,D,x,B,q=>by
  rw[KT.depth] at D B;rw[ZL] at x;let#[a,N,rfl,I,R]:=x;let z:=I.typeIs;let#[o,M,S,nn,K]:=I;unfold pyHash
  first|unfold pyHashByItsType|skip
  first|show aa (wpAny_cRoomFor_or (.inr ()) ?_)|skip
  show aa (wpAny_specialOf z sS.lookup ?_);change aB _ _ (if (Z' (Value.builtin "tuple.__hash__")==Z' Value.none)=V' then _ else _) Q E s
  rw[aK #v[beq_builtin_none,zP]]
  show aa (wpAny_specialOf z sS.lookup ?_);change aB _ _ (callSpecialIfBoundUnlessNone? (!a) "__hash__" _>>=_) Q E s;show aa (wpAny_callSpecialIfBoundUnlessNone?_slot z sS (wpAny_call_entry sS z PySem.F.entry_tuple_hash ?_ (PySem.F.args_tuple_hash_1 _)));change aB _ _ (Builtin.Tuple.tupleItemsOf (!a)>>=_) _ _ s;show aa (wpAny_tupleItemsOf M K (aa ?_));rw[<-rS];show wpAny_forIn_list _ (λrest (b:Array Int) H=>∃ h c d,l=h++c/\jP s.heap c rest/\b.toList=hashL w h/\H={ s with toks:=d }/\s.toks<=d) _ ?_ ?_ _ _ #[[],l,s.toks,Z,R,by rw[hashL],Z,zY _]
  .rintro x rest b H ⟨h,c,d,k,f,C,rfl,p⟩
   cases c with
   |nil=>erw[jP] at f
   |cons t c=>
    rw[jP] at f;let#[U,T,e,O,P]:=f;injection e with e1 e2;subst e1 e2;let L:t.depth<=jR l:=#v[k,OY ⋯]
    show aa (IZ n t (s:={ s with toks:=d }) () O (by change A.units+1+_<_;lia) λy J=>?_)
    let m:∃ j r u,l=j++r/\jP s.heap r rest/\(b.push (VQ w t)).toList=hashL w j/\({ s with toks:=y }:ak)={ s with toks:=u }/\s.toks<=u:=
     #[h++[t],c,y,by rw[k];simp,P,by rw[Array.toList_push,C,Di,hashL,hashL],Z,zJ p J]
    first|show ae m|show aa (ae (ae m))
  .rintro b H ⟨h,c,d,k,f,C,rfl,p⟩
   cases c with
   |cons t c=>rw[jP] at f;let#[_,_,e,_]:=f;cases e
   |nil=>
    rw[zC] at k;subst k;change aB _ _ (retInt (Builtin.Tuple.tupleHashOf b.toList)) _ _ _;rw[C];show wpAny_ret_mkInt ?_;change aB _ _ (if (gU (-(2:Int)^63<=Builtin.Tuple.tupleHashOf (hashL w l))&&gU (Builtin.Tuple.tupleHashOf (hashL w l)<2^63))=V' then _ else _) Q E _
    let g:=q (d+1) ()
    rw[VQ] at g;unfold reduceHash at g;split
    .rename_i G
     rw[aM G] at g;show ae g
    .rename_i G
     rw[aK G] at g;show aa (wpAny_rule (ae g))
theorem IP:∀ n  t {A:ax}{E:ja}{s:ak}{v:ai}{Q:Bool->ak->Prop},t.depth<=n->ZL s.heap t v->Q true s->aB ↥_ A (eqIsQuiet n v) Q E s
 |n,.int i,A,E,s,v,Q,_,x,q=>by
  rw[ZL] at x;let#[t,rfl]:=x;rwa[eqIsQuiet_byValue n Z,ae q]
 |n,.str i,A,E,s,v,Q,_,x,q=>by
  rw[ZL] at x;let#[t,rfl]:=x;rwa[eqIsQuiet_byValue n Z,ae q]
 |0,.tup l,A,E,s,v,Q,f,x,q=>by rw[KT.depth] at f;lia
 |n+1,.tup l,A,E,s,v,Q,f,x,q=>by
  rw[KT.depth] at f;rw[ZL] at x;let#[a,h,rfl,m,B]:=x;let k:=m.typeIs;let#[o,u,C,nn,p]:=m;unfold eqIsQuiet;show aa (wpAny_specialOf k PySem.F.slot_tuple_eq.lookup ?_);change aB _ _ (isInstance (!a) 'w'>>=_) _ _ s;show aa (wpAny_isInstance k isSubtype_tuple_tuple ?_);simp only[tW,wS,if_false];show aa (wpAny_seqItems u p (aa ?_));change aB _ _ (forIn ⇑h _ _) _ _ s;rw[<-rS];show wpAny_forIn_list _ (λrest r j=>r.1=Y'/\j=s/\∃ b,jP s.heap b rest/\jR b<=n) _ ?_ ?_ _ _ #[Z,Z,l,B,()]
  .rintro x rest r j ⟨g,rfl,b,c,d⟩
   cases b with
   |nil=>erw[jP] at c
   |cons t b=>
    rw[jP] at c;let#[I,D,e,y,z]:=c;injection e with e1 e2;subst e1 e2;rw[jR] at d;show aa (IP n t () y ?_)
    simp only[tW,wS,if_false];show ae #[Z,Z,b,z,()]
  .rintro⟨G,H⟩ j ⟨g,rfl,_⟩;dsimp only at g;subst g;show ae q
structure MZ(w:aw)(h:aD)(ks:jm)(es:Array DictEntry):Prop where
 len:es.size=↑ks
 ent:∀(i:Nat)(e:DictEntry),es[i]?\e->∃ t,ks[i]?\t/\e.hash=VQ w t/\ZL h t e.key/\t.depth<=3
 nd:ks.Nodup
theorem MZ.uniq(x:MZ w h b d){i j:Nat}(c:b[i]?\t)(e:b[j]?\t):i=j:=by
 let#[a,f]:=yW.mp c;show(rW a x.nd).mp (c|||e.symm)
theorem MZ.get{h:aD}{f:jm}{b:Array DictEntry}(x:MZ w h f b){j:Nat}{t:KT}(d:f[j]?\t):∃ e,b[j]?\e/\e.hash=VQ w t/\ZL h t e.key/\t.depth<=3:=by
 let#[a,_]:=yW.mp d;let l:j<b.size:=by have:=x.len;lia
 let e:b[j]?\b[j]:=wZ l;let#[m,c,g,i,k]:=x.ent j _ e;erw[d] at c;show#[_,e,g,i,k]
theorem K7{a:jd}(i:∃ t,ZL s.heap t v/\t.depth<=8)(f:∀ u∈a,∃ t,ZL s.heap t u/\t.depth<=8)(h:Q false s):aB ↥_ A (tableMayTell v a) Q E s:=by
 unfold tableMayTell;show wpAny_ite_split (λ_=>ae h) (λ_=>?_);let#[t,j,e]:=i;show aa (IP 8 t e j ?_);simp only[tW,wS,if_false];show aa ?_;show wpAny_forIn_list _ (λrest r c=>c=s/\r=(Y',.unit)/\∀ u∈rest,u∈a) _ ?_ ?_ _ _ #[Z,Z,λ_ z=>z]
 .rintro u rest r c ⟨rfl,rfl,d⟩;let#[k,QB,b]:=f u (d u (zX ..));show aa (IP 8 k b QB ?_);simp only[tW,wS,if_false];show ae #[Z,Z,λu g=>d u (zS _ g)]
 .rintro r c ⟨rfl,rfl,_⟩;show ae h
theorem wl{X:jm}{Q:jp->ak->Prop}(M:ZL s.heap t v)(dt:t.depth<=3)(hu:A.units+3<cLine)(U:s.heap.get? d\o)(T:o.data=.dict c ep)(x:MZ w s.heap X c)(a2:t∉X->Q Y' s)(F:∀ j,X[j]?\t->Q (Z' j) s):aB ↥_ A (dictFind d v (VQ w t)) Q E s:=by
 let N:∀ j,X[j]?\t->j∈placesWithHash c.size (λi=>c[i]?.map (·.hash)) (VQ w t):=λj k=>by
  let#[e,n,B,_]:=x.get k;let#[lt,_]:=uB.mp n;unfold placesWithHash;rwa[yH,wL,#[lt,by change (Option.map _ c[j]? == _)=V';rw[n,vZ,B];simp]]
 let G:∀ i,i∈placesWithHash c.size (λi=>c[i]?.map (·.hash)) (VQ w t)->∃ e u,c[i]?\e/\e.hash=VQ w t/\X[i]?\u/\ZL s.heap u e.key/\u.depth<=3:=λi K=>by
  unfold placesWithHash at K;rw[yH,wL] at K;let n:c[i]?\c[i]:=wZ K.1;let#[u,B,_,C,D]:=x.ent i _ n;have:(Option.map (·.hash) c[i]? == Z' (VQ w t))=V':=K.2;rw[n,vZ] at this;show#[_,u,n,#v[this],B,C,D]
 let a5:(placesWithHash c.size (λi=>c[i]?.map (·.hash)) (VQ w t)).Nodup:=by
  unfold placesWithHash;show List.nodup_range.filter _
 let p:∀(u:KT)(e:DictEntry),ZL s.heap u e.key->u.depth<=3->SeqAt.EqAt A s e.key v (u.eqb t):=λu e k1 d1=>Pq u.depth u t A e.key v (zY _) k1 M ()
 let m:∀ u∈(placesWithHash c.size (λi=>c[i]?.map (·.hash)) (VQ w t)).filterMap (λi=>c[i]?.map (·.key)),∃ t,ZL s.heap t u/\t.depth<=8:=λu hu=>by
  let#[i,K,e]:=tI.mp hu;let#[en,z,n,_,_,C,D]:=G i K;erw[n,vZ] at e;show#[z,C,()]
 unfold dictFind
 try with_reducible show ag ?_
 show aa (wpAny_dictEntries U T ?_);generalize hP:placesWithHash c.size (λi=>c[i]?.map (·.hash)) (VQ w t)=pl at N G a5 m;let O:aB ↥_ A (dictWalkPlain d v (VQ w t) c pl) Q E s:=by
  unfold dictWalkPlain;show aa ?_;show wpAny_forIn_list _ (λrest b s'=>s'=s/\b=(Y',.unit)/\(∀ i∈rest,i∈pl)/\∀ i∈pl,i∈rest\/X[i]? ≠ Z' t) _ ?_ ?_ _ _ #[Z,Z,λ_ z=>z,λ_ z=>.inl z]
  .rintro i rest b s' ⟨rfl,rfl,h1,H⟩;let#[e,u,n,B,J,C,D]:=G i (h1 i (zX ..));rw[n];dsimp only;rw[B,aM ⋯]
   show aa (wpAny_dictEpoch U T (aa (p u e C D prog w _ _ (aa (wpAny_dictEpoch U T ?_)))));rw[aK ⋯]
   cases I:u.eqb t with
   |true=>
    have:u=t:=Uk u t I;subst this;rwa[aM Z,aa (wpAny_rule (ae (ae (F i J))))]
   |false=>
    rw[aK zP];show aa (wpAny_rule (ae #[Z,Z,λj k=>h1 j (zS _ k),λj k=>?_]));rcases H j k with z|z
    .rcases zU.mp z with z|z
     .subst z;show .inr λz=>?_;erw[J] at z;erw[QV] at I
     .show .inl z
    .show .inr z
  .rintro b s' ⟨rfl,rfl,_,H⟩;show ae (a2 λz=>?_);let#[j,k]:=sT.mp z;rcases H j (N j k) with q|q
   .cases q
   .show q k
 let L:∀(f:Nat->Option (jp)×jp->Sem (ForInStep (Option (jp)×jp)))(g:Option (jp)×jp->Sem (jp)),(∀ r,g (Z' r,Y')=pure r)->(∀ h,g (Y',h)=pure h) ->
   (∀ i u e (R:ForInStep (Option (jp)×jp)->ak->Prop),c[i]?\e->e.hash=VQ w t->ZL s.heap u e.key->u.depth<=3->u=t->R (.done (Z' (Z' i),Y')) s->R (.yield (Y',Z' i)) s->aB ↥_ A (f i (Y',Y')) R E s) ->
   (∀ i u e a1 (R:ForInStep (Option (jp)×jp)->ak->Prop),c[i]?\e->e.hash=VQ w t->ZL s.heap u e.key->u.depth<=3->u≠t->R (.yield (Y',a1)) s->aB ↥_ A (f i (Y',a1)) R E s) ->
   aB ↥_ A (forIn pl (Y',Y') f>>=g) Q E s:=λf g g1 g2 f1 f2=>by
  show aa ?_;show wpAny_forIn_list _ (λrest b s'=>s'=s/\rest.Nodup/\(∀ i∈rest,i∈pl)/\((b=(Y',Y')/\∀ i∈pl,i∈rest\/X[i]? ≠ Z' t)\/∃ j,b=(Y',Z' j)/\X[j]?\t/\j∉rest)) _ ?_ ?_ _ _ #[Z,a5,λ_ z=>z,.inl #[Z,λ_ z=>.inl z]]
  .rintro i rest b s' ⟨rfl,nd,h1,H⟩;let#[e,u,n,B,J,C,D]:=G i (h1 i (zX ..));let V:=yQ.mp nd;let a0:∀ j∈rest,j∈pl:=λj k=>h1 j (zS _ k);by_cases I:u=t
   .let S:=J;rw[I] at S;rcases H with ⟨rfl,H⟩|⟨j,rfl,k,hn⟩
    .show f1 i u e _ n B C D I ?_ ?_
     .change aB _ _ (g (Z' (Z' i),Y')) _ _ _;rwa[g1,ae (F i S)]
     .show#[Z,V.2,a0,.inr #[i,Z,S,V.1]]
    .have:i=j:=x.uniq S k;show gS (this▸zX ..) hn
   .rcases H with ⟨rfl,H⟩|⟨j,rfl,k,hn⟩
    .show f2 i u e Y' _ n B C D I #[Z,V.2,a0,.inl #[Z,λj k=>?_]];rcases H j k with z|z
     .rcases zU.mp z with z|z
      .subst z;show .inr λz=>I (by rw[J] at z;show yV.inj z)
      .show .inl z
     .show .inr z
    .show f2 i u e (Z' j) _ n B C D I #[Z,V.2,a0,.inr #[j,Z,k,λz=>hn (zS _ z)]]
  .rintro b s' ⟨rfl,_,_,H⟩;rcases H with ⟨rfl,H⟩|⟨j,rfl,k,hn⟩
   .rw[g2];show ae (a2 λz=>?_);let#[j,k]:=sT.mp z;rcases H j (N j k) with q|q
    .cases q
    .show q k
   .rwa[g2,ae (F j k)]
 let vs:(∃ a,v=!a)\/(∃ i P,v=.int i P)\/∃ y P,v=.str y P/\t=.str y:=by
  cases t with
  |int i=>rw[ZL] at M;let#[P,e]:=M;show .inr (.inl #[i,P,e])
  |str y=>rw[ZL] at M;let#[P,e]:=M;show .inr (.inr #[y,P,e,Z])
  |tup l=>rw[ZL] at M;let#[a,_,e,_]:=M;show .inl #[a,e]
 rcases vs with ⟨a,rfl⟩|⟨i,P,rfl⟩|⟨y,P,rfl,ht⟩
 case' inl=>
  dsimp only;rw[aK (by simp[carriedByValue])]
  let a3:¬ (c.any λe=>e.key==Value.ref a&&e.hash != VQ w t)=V':=by
   rw[<-Array.any_toList,uM];rintro⟨e,a6,hc⟩;let#[j,k]:=sT.mp a6;rw[wH] at k;let#[u,_,B,J,_]:=x.ent j e k;rw[zI] at hc;rw[eq_of_beq hc.1] at J;have:u=t:=Uk _ _ (ZL.inj _ _ _ J M);rw[B,this] at hc;simp at hc
  rw[aK a3];show wpAny_ite_split (λ_=>aa (ae ?_)) (λ_=>aa (K7 #[t,M,()] m ?_))
 case' inr.inl=>
  dsimp only;show wpAny_ite_split (λ_=>O) (λ_=>?_);show wpAny_ite_split (λ_=>aa (ae ?_)) (λ_=>aa (K7 #[t,M,()] m ?_))
 case' inr.inr=>
  let Y:aB ↥_ A (foundByValue d (.str y P) c y) Q E s:=by
   unfold foundByValue
   cases hf:c.findIdx? (λe=>e.key.isStr y) with
   |none=>
    show ae (a2 λz=>?_);let#[j,k]:=sT.mp z;let#[e,n,B,J,_]:=x.get k;have:=Array.findIdx?_eq_none_iff.mp hf e (Array.mem_of_getElem? n);rw[ht,ZL] at J;let#[W,ek]:=J;rw[ek] at this;simp[Value.isStr] at this
   |some i=>
    let#[a7,K,_]:=Array.findIdx?_eq_some_iff_getElem.mp hf;let n:c[i]?\c[i]:=wZ a7;let#[u,B,J,C,D]:=x.ent i _ n;let a4:u=t:=by
     let hs:∃ W,c[i].key=.str y W:=by
      cases q:c[i].key with
      |str z tz=>rw[q] at K;simp[Value.isStr] at K;show#[tz,by rw[K]]
      |_=>rw[q] at K;simp[Value.isStr] at K
     let#[W,ek]:=hs;let hk:ZL s.heap (.str y) c[i].key:=#v[ZL,#[W,ek]]
     rwa[ht,Uk _ _ (ZL.inj _ _ _ C hk)]
    dsimp only;rw[n];dsimp only;show aa (wpAny_dictEpoch U T (aa (p u _ C D prog w _ _ (aa (wpAny_dictEpoch U T ?_)))));rw[aK ⋯,a4,QV,aM rfl]
    show aa (wpAny_rule (ae (F i (by rw[B,a4]))))
  dsimp only;show wpAny_ite_split (λ_=>Y) (λ_=>?_);show wpAny_ite_split (λ_=>O) (λ_=>?_);show wpAny_ite_split (λ_=>aa (ae ?_)) (λ_=>aa (K7 #[t,M,()] m ?_))
 all_goals
  rw[aK ⋯]
  show L _ _ (λr=>rfl) (λh=>rfl) (λi u e R n B C D I r1 r2=>?_) (λi u e a1 R n B C D I r1=>?_)
  .rw[n];dsimp only;rw[B,aM ⋯]
   show aa (wpAny_dictEpoch U T (aa (p u e C D prog w _ _ (aa (wpAny_dictEpoch U T ?_)))));rw[aK ⋯,I,QV,aM rfl]
   simp only[Option.isSome_none,wS,if_false];show aa (wpAny_rule (wpAny_ite_split (λ_=>ae r1) (λ_=>ae r2)))
  .rw[n];dsimp only;rw[B,aM ⋯]
   show aa (wpAny_dictEpoch U T (aa (p u e C D prog w _ _ (aa (wpAny_dictEpoch U T ?_)))));let hf:u.eqb t=false:=by
    cases q:u.eqb t with
    |false=>rfl
    |true=>show gS (Uk _ _ q) I
   rw[aK ⋯,hf,aK zP]
   show aa (wpAny_rule ?_);rw[aK ⋯]
   show ae r1
end _T
namespace _T
open PySem PySem.Spec PyProof.Rows
theorem Zk.there{P:am}{w:aw}{H:Hp}{h:aD}{a:aj}:∀{o:HO},Zk P w H h a o->∃ b,h.get? a\b:=by
 intro o x
 induction o with
 |lst l=>let#[z,j,n,r,e]:=x;show#[_,e]
 |tup l=>let#[z,j,r,b,e,c]:=x;show#[_,e]
 |dK k=>let#[z,y,G,r,b,i,g,e,c]:=x;show#[_,e]
 |dT k=>let#[z,y,l,r,b,i,g,e,c]:=x;show#[_,e]
 |set S n=>let#[b,i,g,t,e,c]:=x;show#[_,e]
 |ins C p m=>let#[d,z,D,e,_]:=x;show#[_,e]
 |own y=>show x
 |xd m=>let#[B,#[E,i,g,e,c],r]:=x;show#[_,e]
 |rng A q=>let#[t,u,v,e]:=x;show#[_,e]
 |frz b u s=>show#[_,x.1]
 |tbl F=>show#[_,x]
 |met f y=>show#[_,x]
 |ext I=>show x.2.1
theorem XJ.there{P:am}{w:aw}{H:Hp}{h:aD}{a:aj}(x:XJ P w H h)(n:H a≠Y'):∃ b,h.get? a\b:=by
 cases e:H a with
 |none=>show gS e n
 |some o=>show Zk.there (x a o e)
theorem XJ.keptT(x:XJ P w H h)(k:∀ b u,h.get? b\u->H b≠Y'->d.get? b\u):XJ P w H d:=λa o e=>
 (x a o e).stay (λb u c q=>k b u q (by
  rcases c with rfl|c
  .rwa[e,λz=>nomatch z]
  .rwa[c,λz=>nomatch z])) (λ_ q=>q) λ_ _ q=>q
section
variable{jV:jo}{σ:St}{H H':Hp}{s':ak}{E:XK}
theorem ZH.noloc(I:'c'):X.s₀.heap.get? X.env.locals=Y':=sW I.ok.above
theorem E2(I:'c'):∀ b∈frs X.stack,∀ o,s.heap.get? b\o->∀ a,o.data≠.fields a:=λb c o q a z=>by
 let#[_,f,e,d]:=I.stack.mem c;erw[q] at e;show d a z
end
end _T
namespace _T
open PySem PySem.Spec PySem.W PyProof.Rows
def PZ(x C:aj)(h:aD):=∃ o,h.get? x\o/\o.cls=!C
theorem PZ.ty{x C:aj}{h:aD}(I:PZ x C h)(M:Model):Looks M h (typeOf !x) (!C):=by
 let#[o,e,c]:=I;rwa[<-c,Looks.andThen (Looks.ld e) Looks.now]
structure My(K:Frag)(C:aj):Prop where
 ga:findIn K (!C) "__getattribute__"=Z' 'â'
 hk:findIn K (!C) "__getattr__"=Z' Y'
 mB:mroIn K C 'x'\true
 mO:mroIn K C 'Ĺ'\true
 ca:findIn K (!C) "__class__"=Z' (Z' 'h')
 hn:specialIn K 'h' "__get__"=Z' 'M'
 tk:takesIn K 'h'\true
section
variable{K:Frag}{x C:aj}
end
end _T
namespace _T
open PySem PySem.Spec PyProof.Rows
noncomputable def Cx.held(X:Cx)(a:aj)(E:ja):Cx:={ X with A:=X.A.mark (Z' !a),calm:=false,xe:=E }
section
variable{jV:jo}{σ:St}{H H':Hp}{s':ak}{ea:aj}
theorem ZH.held(I:'c')(ea)(E):ZH (X.held ea E) jV σ H s:=
 #[#[I.ok.mod,I.ok.kind,I.ok.glob,I.ok.blt,I.ok.above,I.ok.inj,I.ok.has,I.ok.cab,λz=>gS z zP,I.ok.frames,I.ok.stk,I.ok.exf,I.ok.bs,I.ok.bsz,I.ok.noex,I.ok.exfs,I.ok.funs,I.ok.frf],
  I.os,I.bare,I.base,I.loc,I.cell,I.free,I.freeC,I.pin,I.hok,I.len]
theorem ZH.unheld(a:X.Ok)(I:ZH (X.held ea E) jV σ H s):ZH X jV σ H s:=#[a,I.os,I.bare,I.base,I.loc,I.cell,I.free,I.freeC,I.pin,I.hok,I.len]
end
section
variable{x C CB:aj}
theorem kU{b:Bool}{Q:Bool->ak->Prop}(X:K.In s.heap)(I:PZ x C s.heap)(o:wE K (!CB)\.type "type")(c:xE K CB 'x'\true)(l:xE K C (!CB)\b)(h:Q b s):aB ↥_ A (excMatches (!x) !CB) Q E s:=by
 let#[m,g,d,t,H]:=s;let v:=I.ty ↥_;let y:=sU (M:=aA prog w) X c;let z:=sU (M:=aA prog w) X l;let e:=pT (M:=aA prog w) X o;let f:=tc_notTuple;let B:wW ↥_ m (isType !CB) true:=by
  let#[j,a,_]:=Option.bind_eq_some_iff.mp c;unfold PySem.W.clsIn at a;split at a
  .rename_i F G i p n
   intro r D u J k q;unfold isType loadHead;show aa (wpAny_loadPart (k _ _ (X _ _ n)) (ae q))
  .cases a
 unfold excMatches isInstance isExcClass;show aa (aa (e.at ?_));rw[f];show ae ?_;rw[aK zP];show aa (ae ?_);simp only[sJ,List.forIn_nil]
 cases b with
 |true=>
  repeat (first|lk|wp_step)
  all_goals first|show h|trace_state
 |false=>
  repeat (first|lk|wp_step)
  all_goals first|show h|trace_state
end
inductive TG where
 |int (i:Int)
 |str (x:Str)
 |tup (l:List TG)
 |odd (n:String)
mutual
def TG.fits:TG->Nat->Bool
 |.int i,_=>gU (i.natAbs<10^60)
 |.str x,_=>Nq x
 |.tup l,r=>gU (0<r)&&(gU (↑l<=4)&&gfitsL l (r-1))
 |.odd _,_=>false
def gfitsL:List TG->Nat->Bool
 |[],_=>true
 |t::l,r=>t.fits r&&gfitsL l r
end
theorem ZH.big{b:St}(I:ZH X a b H s):sysModules<‹s›:=by
 let h:ap<‹s›:=(I.mod.glob.keeps I.bk).lt;show Nat.lt_trans 'b' h
theorem E8(h:aD)(a:sysModules<h.objs.size):Zk P w H (h.push { cls:=.type "dict",data:=.dict ⇑[] }) h.objs.size (.dK []):=
 #[yY _,beq_eq_false_iff_ne.mpr (Ne.symm (yK a)),[],.nil,Heap.DictOf.new h]
def v7:TE:=λ_ H Q=>∀ p,H p=Y'->Q (!p) (upd H p (.dK []))
theorem EU:PE X (.Dict [] [] pos) v7:=λb s c H Q I h=>
 wpAny_Dict_empty #[.ref ‹s›,_,I.laid (a:=‹s›) (o:=.dK []) (t':=s.toks) (λ_ _ q=>zD _ q) (zY _) (E8 s.heap I.big),Z,h _ '^']
section
variable{κ:Type}[DecidableEq κ]
def YU(a:List (κ×V))(k:κ):jf:=(a.find? λb=>gU (b.1=k)).map (·.2)
def Yh(a:List (κ×V))(k:κ)(v:V):List (κ×V):=
 if (a.any λb=>gU (b.1=k))=V' then a.map (λb=>if b.1=k then (b.1,v) else b) else a++[(k,v)]
def VR(a:List (κ×V))(k:κ):List (κ×V):=a.filter λb=>gU (b.1≠k)
theorem Qg{p:κ×V}{r:List (κ×V)}{k:κ}(e:p.1=k):YU (p::r) k\p.2:=by simp[YU,vR,e]
theorem Qc{p:κ×V}{r:List (κ×V)}{k:κ}(e:¬ p.1=k):YU (p::r) k=YU r k:=by simp[YU,vR,e]
theorem N7(k):∀ a:List (κ×V),(a.any λb=>gU (b.1=k))=(YU a k).isSome
 |[]=>rfl
 |p::r=>by
  rw[wA];by_cases e:p.1=k
  .simp only[Qg e,aJ e,Bool.true_or,Option.isSome_some]
  .rwa[Qc e,aI e,Bool.false_or,N7 k r]
theorem Cf(k j)(y):∀ a:List (κ×V),YU (a.map λb=>if b.1=k then (b.1,y) else b) j=(YU a j).map λx=>if j=k then y else x
 |[]=>rfl
 |p::r=>by
  let c:=Cf k j y r;rw[yX];by_cases h:p.1=k
  .rw[aM h];by_cases e:p.1=j
   .rw[Qg (p:=(p.1,y)) e,Qg e,vZ,aM (e.symm|||h)]
   .rw[Qc (p:=(p.1,y)) e,Qc e,c]
  .rw[aK h];by_cases e:p.1=j
   .rw[Qg (p:=p) e,Qg e,vZ,aK (λz=>h (e|||z))]
   .rw[Qc (p:=p) e,Qc e,c]
theorem GQ(k j)(y):∀ a:List (κ×V),YU a k=Y'->YU (a++[(k,y)]) j=if j=k then Z' y else YU a j
 |[],_=>by
  by_cases e:k=j
  .rwa[aM e.symm,Qg (p:=(k,y)) e]
  .rwa[aK (λz=>e z.symm),Qc (p:=(k,y)) e]
 |p::r,hn=>by
  rw[tN];let b:¬ p.1=k:=λz=>by erw[Qg z] at hn
  rw[Qc b] at hn;let c:=GQ k j y r hn;by_cases e:p.1=j
  .rw[Qg e,Qg e,aK (λz=>b (e|||z))]
  .rw[Qc e,Qc e,c]
theorem II(b:List (κ×V))(k j)(y):YU (Yh b k y) j=if j=k then Z' y else YU b j:=by
 unfold Yh;by_cases a:(b.any λd=>gU (d.1=k))=V'
 .rw[aM a,Cf];rw[N7] at a;by_cases e:j=k
  .let#[x,c]:=qX.mp a;rw[aM e,e,c,vZ,aM rfl]
  .rw[aK e]
   cases YU b j with
   |none=>rfl
   |some x=>rw[vZ,aK e]
 .rw[aK a];show GQ k j y b ?_;rw[N7] at a
  cases q:YU b k with
  |none=>rfl
  |some x=>rw[q] at a;show(a Z).elim
theorem JW(a:List (κ×V))(k)(v):↑(Yh a k v)<=↑a+1:=by
 unfold Yh;split
 .rw[zW];lia
 .rw[zR,zN,sQ];lia
theorem HP{k:κ}(v)(h:YU a k=Y'):Yh a k v=a++[(k,v)]:=by
 unfold Yh;rwa[N7,h,aK 'b']
theorem Yp.isSome_eq(r:Yp o u):o.isSome=u.isSome:=by
 cases o with
 |none=>cases u with
  |none=>rfl
  |some _=>show(show False from r).elim
 |some _=>cases u with
  |none=>show(show False from r).elim
  |some _=>rfl
theorem Yp.getD(r:Yp o u)(rd:ZT d a):ZT (o.getD d) (u.getD a):=by
 cases o with
 |none=>cases u with
  |none=>show rd
  |some _=>show(show False from r).elim
 |some _=>cases u with
  |none=>show(show False from r).elim
  |some _=>show r
theorem KV.val(r:KV a g)(k:κ):Yp (YU a k) (valueAt g k):=by
 unfold KV at r
 induction r with
 |nil=>show True.intro
 |@cons p q l d h t j=>
  let#[f,i]:=h;by_cases e:p.1=k
  .let c:q.1=k:=f.symm|||e;let b:valueAt (q::d) k\q.2:=by simp[valueAt,vR,c]
   rwa[Qg e,b,i]
  .let c:¬ q.1=k:=λz=>e (f|||z);let b:valueAt (q::d) k=valueAt d k:=by simp[valueAt,vR,c]
   rwa[Qc e,b,j]
theorem KV.any(r:KV a c)(k:κ):(a.any λb=>gU (b.1=k))=c.any λb=>gU (b.1=k):=by
 unfold KV at r
 induction r with
 |nil=>rfl
 |cons h t d=>rw[wA,wA,d,h.1]
theorem KV.repl(r:KV b d)(k:κ)(i:ZT y u):
  KV (b.map λa=>if a.1=k then (a.1,y) else a) (d.map λa=>if a.1=k then (a.1,u) else a):=by
 unfold KV at r⊢
 induction r with
 |nil=>show .nil
 |@cons p q j l h t g=>
  rw[yX,yX];show .cons ?_ g;let#[c,f]:=h;by_cases e:p.1=k
  .rwa[aM e,aM (c.symm|||e),#[c,i]]
  .rwa[aK e,aK (λz=>e (c|||z)),#[c,f]]
theorem KV.put{a:List (κ×V)}{b:List (κ×ai)}(r:KV a b)(k:κ){y:V}{u:ai}(c:ZT y u):KV (Yh a k y) (stored b k u):=by
 unfold Yh stored;rw[r.any k];by_cases e:(b.any λd=>gU (d.1=k))=V'
 .rwa[aM e,aM e,r.repl k c]
 .rwa[aK e,aK e,Paired.snoc r #[Z,c]]
theorem KV.drop(r:KV c g)(k:κ):KV (VR c k) (without g k):=by
 unfold KV at r⊢;unfold VR without
 induction r with
 |nil=>show .nil
 |@cons p q l m h t f=>
  let#[d,j]:=h;rw[xL,xL];by_cases e:p.1=k
  .let a:¬ gU (p.1≠k)=V':=by simp[e]
   let b:¬ gU (q.1≠k)=V':=by simp[d.symm|||e]
   rwa[aK a,aK b,f]
  .let i:¬ q.1=k:=λz=>e (d|||z);let a:gU (p.1≠k)=V':=by simp[e]
   let b:gU (q.1≠k)=V':=by simp[i]
   rwa[aM a,aM b,.cons #[d,j] f]
theorem KV.keys{b:List (κ×ai)}(r:KV a b):a.map (·.1)=b.map (·.1):=by
 unfold KV at r
 induction r with
 |nil=>rfl
 |cons h t c=>rw[yX,yX,c,h.1]
theorem KV.length{b:List (κ×ai)}(r:KV a b):↑a=↑b:=Paired.length r
theorem AQ(a:List (κ×V))(k):↑(VR a k)<=↑a:=tZ _ _
end
theorem NL(r:ZT (kV k) u):(Ve P w).is k u=V':=by
 cases k with
 |inl i=>let#[t,e]:=(show ∃ t,u=Value.int i t from r);subst e;show kC P w i t
 |inr x=>let#[t,e]:=(show ∃ t,u=Value.str x t from r);subst e;show kQ P w x t
theorem Fu:∀{a:jx}{b:jd},ZS (a.map kV) b->ItemsAre (Ve P w) a b
 |[],_,r=>by erw[uC] at r;show .nil
 |k::a,_,r=>by
  rw[yX] at r
  cases r with
  |cons h t=>show .cons (NL h) (Fu t)
abbrev hZ(H:Hp):List (jx×V)->List (jx×aj×ai)->Prop:=Paired λp q=>p.1=q.1/\H q.2.1\.tup (p.1.map kV)/\ZT p.2 q.2.2
theorem hZ.val(r:hZ H a g)(k):Yp (YU a k) ((atKey g k).map (·.2)):=by
 induction r with
 |nil=>show True.intro
 |@cons p q l d h t j=>
  let#[f,_,i]:=h;by_cases e:p.1=k
  .let c:q.1=k:=f.symm|||e;let b:atKey (q::d) k\q.2:=by simp[atKey,vR,c]
   rwa[Qg e,b,i]
  .let c:¬ q.1=k:=λz=>e (f|||z);let b:atKey (q::d) k=atKey d k:=by simp[atKey,vR,c]
   rwa[Qc e,b,j]
theorem hZ.repl{f:List (jx×aj×ai)}(r:hZ H a f)(k)(j:ZT y u):
  hZ H (a.map λc=>if c.1=k then (c.1,y) else c) (f.map (putAt k u)):=by
 induction r with
 |nil=>show .nil
 |@cons p q l m h t i=>
  rw[yX,yX];show .cons ?_ i;let#[b,d,g]:=h;unfold putAt;by_cases e:p.1=k
  .rwa[aM e,aM (b.symm|||e),#[b,d,j]]
  .rwa[aK e,aK (λz=>e (b|||z)),#[b,d,g]]
theorem hZ.put{H:Hp}{a:List (jx×V)}{c:List (jx×aj×ai)}(r:hZ H a c)(k:jx){b:aj}{y:V}{u:ai}(f:H b\.tup (k.map kV))(d:ZT y u):
  hZ H (Yh a k y) (storedH c k b u):=by
 let e:(a.any λg=>gU (g.1=k))=(atKey c k).isSome:=by
  rw[N7,(r.val k).isSome_eq,Option.isSome_map]
 unfold Yh storedH;rw[e];by_cases q:(atKey c k).isSome=V'
 .rwa[aM q,aM q,r.repl k d]
 .rwa[aK q,aK q,Paired.snoc r #[Z,f,d]]
theorem hZ.keeps(r:hZ H a d)(f:∀ b e,H b\.tup e->c b\.tup e):hZ c a d:=
 Paired.mapP r λ_ _ z=>#[z.1,f _ _ z.2.1,z.2.2]
section
variable{H:Hp}{h:aD}{a:aj}
theorem ES(b:XJ P w H h)(e:hX H a u):Zk P w H h a u:=e.ok b
theorem MJ(d:XJ P w H h)(e:hX H a (.dK b)):↑b<=aq/\(a==sysModules)=false/\∃ c,KV b c/\h.DictOf (Ve P w) a c:=
 show Zk P w H h a (.dK b) from ES d e
theorem MS(d:XJ P w H h)(e:H a\.dK b):↑b<=aq/\(a==sysModules)=false/\∃ c,KV b c/\h.DictOf (Ve P w) a c:=MJ d (.inl e)
theorem Ms{c:jx}(i:XJ P w H h)(e:H a\.tup (c.map kV)):(tupleKind (Ve P w)).is h c a:=by
 let#[_,b,r,o,d,f,n,g]:=(show Zk P w H h a (.tup (c.map kV)) from i a _ e);show#[o,⇑b,n,d,f,g,#v[Fu r]]
theorem MG(i:XJ P w H h)(e:hX H a (.dT b)):↑b<=aq/\(a==sysModules)=false /\
  ∃ d,hZ H b d/\h.DictOfH 'ć' a d:=by
 let#[z,y,d,r,o,k,j,n,s,u,v,A]:=(show Zk P w H h a (.dT b) from ES i e);show#[z,y,d,r,o,k,j,n,s,u,v,λx c=>?_,A];let f:∀{l:List (jx×V)}{m:List (jx×aj×ai)},hZ H l m->∀ x∈m,(tupleKind (Ve P w)).is h x.1 x.2.1:=by
  intro l m q
  induction q with
  |nil=>intro x c;show nomatch c
  |@cons p q C D g t B=>
   intro x c;rcases zU.mp c with e|c
   .subst e;show Ms i (by rwa[<-g.1,g.2.1])
   .show B x c
 show f r x c
theorem Ry(d:XJ P w H h)(e:H a\.dT b):↑b<=aq/\(a==sysModules)=false /\
  ∃ c,hZ H b c/\h.DictOfH 'ć' a c:=MG d (.inl e)
end
def XV(H:Hp)(a:aj)(y:V)(r:jf):Prop:=
 (∃ c k,hX H a (.dK c)/\y=kV k/\r=YU c k)\/∃ c k b,hX H a (.dT c)/\y=.ref b/\H b\.tup (k.map kV)/\r=YU c k
def Qb(H:Hp)(a:aj)(y v:V)(d:Hp):Prop:=
 (∃ c k,H a\.dK c/\y=kV k/\↑c<aq/\d=upd H a (.dK (Yh c k v))) \/
 ∃ c k b,H a\.dT c/\y=.ref b/\H b\.tup (k.map kV)/\↑c<aq/\d=upd H a (.dT (Yh c k v))
theorem XV.k{H:Hp}{a:aj}{b:List (ZY×V)}{k:ZY}(e:H a\.dK b):XV H a (kV k) (YU b k):=.inl #[b,k,.inl e,Z,Z]
theorem Qb.k{H:Hp}{a:aj}{b:List (ZY×V)}{k:ZY}{v:V}(e:H a\.dK b)(c:↑b<aq):Qb H a (kV k) v (upd H a (.dK (Yh b k v))):=.inl #[b,k,e,Z,c,Z]
section
variable{jV:jo}{σ:St}{H:Hp}{a:aj}{y v:V}{u r:ai}{o:jf}
theorem oU{Q:ja}(F:A.units+1<cLine)(I:'c')(g:XV H a y (Z' v))(t:ZT y u)(h:∀ f x,ZH X jV σ H x->ZT v f->Q f x):
  aB ↥X A (getItem (!a) u) Q E s:=by
 rcases g with ⟨q,k,e,j,l⟩|⟨q,k,b,e,j,B,l⟩
 .subst j;let#[z,C,G,c,i]:=MJ I.hok e;let#[f,n,d]:=Yp.some_of (v:=v) (o:=valueAt G k) #v[l,c.val k]
  show wpAny_getItem_of (NL t) i.mapOf n (h f _ 'č' d)
 .subst j;cases(show u=Value.ref b from t);let#[z,C,J,c,i]:=MG I.hok e;let#[f,n,d]:=Yp.some_of (v:=v) (o:=(atKey J k).map (·.2)) #v[l,c.val k]
  let#[p,D,m]:=xU.mp n;show wpAny_getItem_heap (tupleKind_room_in1 F) (Ms I.hok B) i D ?_;rwa[m,h f _ 'č' d]
theorem vp{Q:ja}(t:A.units+1<cLine)(I:'c')(g:XV H a y o)(m:ZT y u)(h:∀ n,ZH X jV σ H n->Q (.bool (not o.isSome)) n):
  aB ↥X A (az .NotIn u !a) Q E s:=by
 rcases g with ⟨j,k,e,f,l⟩|⟨j,k,b,e,f,p,l⟩
 .subst f;let#[z,i,x,c,d]:=MJ I.hok e;show wpAny_notIn_of (NL m) i d.mapOf ?_;rwa[<-(c.val k).isSome_eq,<-l,h _ 'č']
 .subst f;cases(show u=Value.ref b from m);let#[z,i,B,c,d]:=MG I.hok e;show wpAny_notIn_heap (tupleKind_room_in1 t) (Ms I.hok p) i d ?_;let q:=(c.val k).isSome_eq;rw[Option.isSome_map] at q;rwa[<-q,<-l,h _ 'č']
theorem Mf{f:HO}(I:'c')(j:MU (H a))(i:xN a s.heap c)(h:∃ q,c.get? a\q)(d:Zk X.prog X.w (upd H a f) c a f):
  ZH X jV σ (upd H a f) { s with heap:=c,toks:=k }:=
 I.write (x:=a) (e:=a) j (.inl Z) (λb q g z=>(i.2 b g)|||z) h d
theorem GB{f:Hp}{d:jF}(z:↑b<=aq)(h:(a==sysModules)=false)(c:KV b d)(g:e.DictOf (Ve P w) a d):
  Zk P w f e a (.dK b):=#[z,h,d,c,g]
theorem mR(V:A.units+1<cLine)(I:'c')(g:Qb H a y v D)(L:ZT y u)(K:ZT v r)(h:∀ M,ZH X jV σ D M->Q .unit M):
  aB ↥X A (setItem (!a) u r) Q E s:=by
 rcases g with ⟨d,k,e,p,l,n⟩|⟨d,k,b,e,p,F,l,n⟩
 .subst p n;let#[z,t,W,f,m]:=MS I.hok e;let C:↑W<=sizeLine:=by rwa[<-↑f,z]
  let x:↑(Yh d k v)<=sizeLine:=by have:=JW d k v;lia
  show wpAny_setItem_pairs (hsz:=C) (NL L) m λJ i B=>h _ ?_;let U:∃ q,J.get? a\q:=let #[q,_,_,j,_]:=i;#[q,j];show Mf I #v[e,True.intro] B U (GB x t (f.put k K) i)
 .subst p n;cases(show u=Value.ref b from L);let#[z,t,Y,f,m]:=Ry I.hok e;let C:↑Y<=sizeLine:=by rwa[<-Paired.length f,z]
  let x:↑(Yh d k v)<=sizeLine:=by have:=JW d k v;lia
  show wpAny_setItem_heap (hsz:=C) (tupleKind_room_in1 V) (Ms I.hok F) m λJ i B=>h _ ?_;let#[q,O,N,j,P,R,S,_,T]:=i;show Mf I #v[e,True.intro] B #[q,j] #[x,t,_,(f.put k F K).keeps λc ys G=>?_,q,O,N,j,P,R,S,T]
  rwa[ZU (ZZ G e (λz=>nomatch z)),G]
end
section
variable{jV:jo}{σ:St}{H:Hp}{a:aj}{kvs:List (ZY×V)}{k:ZY}{u:ai}
theorem zt{b:jd}{Q:ja}(I:'c')(e:H a\.dK kvs)(j:ZT (kV k) u)(l:YU kvs k\v)(n:b=[]\/∃ x,b=[x])(h:∀ f p,ZH X jV σ (upd H a (.dK (VR kvs k))) p->ZT v f->Q f p):aB ↥X A (call (.builtin "dict.pop") (.ref a::u::b)) Q E s:=by
 let#[z,C,r,c,m]:=MS I.hok e;let#[f,K,g]:=Yp.some_of (v:=v) (o:=valueAt r k) (by rwa[<-l,c.val k])
 let G:(keyPart u).isSome=V':=by
  cases k with
  |inl i=>let#[t,q]:=(show ∃ t,u=Value.int i t from j);subst q;rfl
  |inr x=>let#[t,q]:=(show ∃ t,u=Value.str x t from j);subst q;rfl
 let B:argsOk "dict.pop" #[.ref a::u::b,[]]:=by
  rcases n with q|⟨x,q⟩
  .subst q;show PySem.F.args_dict_pop_2 _ _
  .subst q;show PySem.F.args_dict_pop_3 _ _ _
 show call_meetsIn pQ m.typeIs PySem.F.entry_dict_pop B (meets_dict_pop_there 'Ŗ' a (NL j) b n G)
  #[r,f,m,by rwa[<-↑c,z],K,λy d J=>h f _ ?_ g]
 let D:∃ q,y.get? a\q:=let #[q,_,_,hq,_]:=d;#[q,hq];show Mf I #v[e,True.intro] J D (GB (zJ (AQ kvs k) z) C (c.drop k) d)
end
def KL(i:Expr):=∀ b a,subscripted i false b a=operate [b,a] (getItem b a)
theorem Gz{T id:String}{Q:ja}(p:typeLookup (.type T) "__getitem__"=pure (Z' '*'))(q:KL b)(h:aB (aA a w) A (aG c j) (λo f=>aB (aA a w) A (aG b j) (λi d=>d.TypeIs o T/\aB (aA a w) A (getItem o i) Q E d) E f) E s):
  aB (aA a w) A (aG (.Subscript c b pos) j) Q E s:=by
 show Subscript_ (af h (λo f l=>af l (λi d e=>?_) λ_ _ x=>x) λ_ _ x=>x);let#[n,e]:=e;unfold subscriptTail;show aa ?_;rw[getitemInPython_of_ne n.not_modules];show aa (wpAny_specialOf n p ?_);let k:aB (aA a w) A (subscripted b false o i) (λr g=>aB (aA a w) A (letTemporaryGo c o r>>=λ_=>pure r) Q E g) E d:=by
  rwa[q o i,wpAny_operating (af e (λr g m=>aa (wpAny_letTemporaryGo (ae m))) λ_ _ x=>x)]
 first
  |show ae (aa k)
  |show aa (ae (aa k))
  |show aa k
theorem kE{h:St}(I:ZH X c h H s)(g:XV H a y o):s.TypeIs (!a) "dict" :=by
 rcases g with ⟨f,k,e,_,_⟩|⟨f,k,b,e,_,_,_⟩
 .let#[_,_,i,_,d]:=MJ I.hok e;show d.typeIs
 .let#[_,_,j,_,d]:=MG I.hok e;show d.typeIs
inductive Nz(Q:VK)(x y:V)(b:Hp):Prop
 |mk(a v:_)(_:x=!a)(_:XV b a y (Z' v))(_:Q v b)
def Rt(d e:TE):TE:=λa H Q=>d a H λx b=>e a b λy c=>Nz Q x y c
inductive Pw(Q:VK)(y x:V)(b:Hp):Prop
 |mk(a o:_)(_:x=!a)(_:XV b a y o)(_:Q (.bl (not o.isSome)) b)
def Bk(e d:TE):TE:=λa H Q=>e a H λy b=>d a b λx c=>Pw Q y x c
inductive Nl(D:YK)(d:_T.St)(v x y:V)(c:Hp):Prop
 |mk(a b:_)(_:x=!a)(_:Qb c a y v b)(_:D.nx d b)
def zr(e g f:TE):TS:=λD a H=>f a H λv b=>e a b λx c=>g a c λy d=>Nl D a v x y d
section
variable{o i e value:Expr}{pos pos' tpos:Pos}{td ty tv:TE}
theorem Et(t:X.A.units+1<cLine)(q:PE X o td)(p:PE X i ty)(r:KL i:=by show λ_ _=>rfl):PE X '4' (Rt td ty):=by
 intro b s f H Q I h;show Gz pZ.lookup r (YG (q b s f H _ I h) λu D x j l B w=>Z7 (p b D f j _ l w) ?_);rintro E G ⟨y,k,d,C,a,v,n,g,z⟩;subst n;obtain rfl:u=Value.ref a:=B;show#[kE d g,oU t d g C λK J m c=>#[v,k,m,c,z]]
theorem BX(q:X.A.units+1<cLine)(n:PE X i ty)(p:PE X o td):PC X .NotIn i o (Bk ty td):=by
 intro b s c H Q I h;show YG (n b s c H _ I h) λC B y d j z t=>Z7 (p b B c d _ j t) ?_;rintro u D ⟨x,f,k,w,a,r,m,g,v⟩;subst m;obtain rfl:u=Value.ref a:=w;show vp q k g z λE l=>#[.bl (not r.isSome),f,l,Z,v]
theorem Je(z:X.A.units+1<cLine)(t:PE X o td)(q:PE X i ty)(B:'ŀ')(w:swapsWith value (Z' (.Subscript o i pos')) pos.line X.env=pure false):
  PS X (.Assign [.Subscript o i pos'] value pos) (zr td ty tv):=by
 intro b s c H D I h;show wpAny_Assign_Subscript (YG (B b s c H _ I h) λr L v d k G C=>YG (t b L c d _ k C) λu M x f l J E=>Z7 (q b M c f _ l E) λO P ⟨y,N,m,K,a,j,p,g,F⟩=>?_) w;subst p;obtain rfl:u=Value.ref a:=J;show mR z m g K G λQ n=>#[c,j,n,F]
end
section
variable{pos:Pos}
end
def Hy:jH->St->Hp->(List (V×V)->Hp->Prop)->Prop
 |[],_,H,Q=>Q [] H
 |(e,f)::r,σ,H,Q=>e σ H λx a=>f σ a λy b=>Hy r σ b λd c=>Q ((x,y)::d) c
abbrev VV:List (V×V)->List (ai×ai)->Prop:=Paired λp q=>ZT p.1 q.1/\ZT p.2 q.2
def Ln(X:Cx)(pos:Pos)(c:List (jG))(a:jv)(d:jH):Prop:=
 ∀(b:jo)(s:ak)(e:St)(H:Hp)(Q:List (V×V)->Hp->Prop),ZH X b e H s->Hy d e H Q ->
  aB ↥X X.A (evalPairs (pairTrees c a X.env pos)) (λi h=>∃ g f,ZH X b e f h/\VV g i/\Q g f) X.xe s
theorem vg:Ln X pos [] [] []:=λa s b H Q I h=>pairTrees_nil_walk #[[],H,I,.nil,h]
theorem pI{f g:TE}(q:PE X k f)(t:PE X v g)(r:Ln X pos e i b):
  Ln X pos (Z' k::e) (v::i) ((f,g)::b):=λa s d H Q I h=>
 pairTrees_cons_walk (YG (q a s d H _ I h) λu E x j n C z=>YG (t a E d j _ n z) λJ F y l o D A=>
  YG (r a F d l _ o A) λK G w m p c B=>#[(x,y)::w,m,p,.cons #[C,D] c,B])
def MQ(c a:List (ZY×V)):List (ZY×V):=a.foldl (λb d=>Yh b d.1 d.2) c
theorem KV.merge:∀{b:List (ZY×V)}{d:jF}{a:List (ZY×V)}{c:jF},KV b d->KV a c->KV (MQ a b) (merged c d):=by
 intro b d a c r;unfold KV at r
 induction r generalizing a c with
 |nil=>intro q;show q
 |@cons p q i j h t f=>
  intro g;let e:KV (Yh a p.1 p.2) (stored c q.1 q.2):=by
   have:=g.put p.1 h.2;rwa[<-h.1,this]
  show f e
theorem FK:∀ b a ,↑(MQ a b)<=↑a+↑b
 |[],a=>by change ↑a<=↑a+0;lia
 |p::r,a=>by
  let c:=FK r (Yh a p.1 p.2);let d:=JW a p.1 p.2;change ↑(MQ (Yh a p.1 p.2) r)<=_;rw[zN];lia
theorem Fr{P:am}{w:aw}:∀{d:List (ZY×V)}{g:List (ai×ai)},VV (d.map λf=>(kV f.1,f.2)) g->∃ e,Carries (Ve P w) g e/\KV d e
 |[],_,r=>by erw[uC] at r;show#[[],True.intro,.nil]
 |p::d,_,r=>by
  rw[yX] at r
  cases r with
  |@cons a b j l h t=>
   let#[e,c,q]:=Fr (P:=P) (w:=w) t;let#[k,i]:=b;show#[(p.1,i)::e,#[NL h.1,Z,c],.cons #[Z,h.2] q]
def zx(b:jH):TE:=λf H Q=>∀ p,H p=Y'->Hy b f (upd H p (.dK [])) λe c=>c p\.dK []/\∃ a:List (ZY×V),e=a.map (λd=>(kV d.1,d.2))/\↑a<=15/\Q (!p) (upd c p (.dK (MQ [] a)))
theorem Bz(h:Ln X pos b d k)(g:b.all (·.isSome)=V')(B:↑b=↑d)(v:b≠[])(l:↑b<=15):PE X (.Dict b d pos) (zx k):=by
 intro j s M H Q I q;let C:=I.hok.fresh (zY ‹s›);let p:=I.laid (a:=‹s›) (o:=.dK []) (h':=s.heap.push { cls:=.type "dict",data:=.dict ⇑[] }) (t':=s.toks) (λ_ _ q=>zD _ q) (zY _) (E8 s.heap I.big);show wpAny_Dict_walk (knd:=Ve X.prog X.w) g B v l (Z7 (h j _ M _ _ p (q _ C)) ?_);rintro T S ⟨R,N,n,m,e,i,t,O,F⟩;subst t;let#[K,c,J]:=Fr (P:=X.prog) (w:=X.w) m;let#[z,y,L,G,r]:=MS n.hok e;cases G;show#[K,c,r,λu f D=>#[.ref ‹s›,_,?_,Z,F]];let E:↑(MQ [] i)<=sizeLine:=by
  let x:=FK i [];rw[sQ] at x;rw[sizeLine_eq];lia
 let A:∃ q,u.get? ‹s›\q:=let #[q,_,_,hq,_]:=f;#[q,hq];show Mf n #v[e,True.intro] D A (GB E y (J.merge .nil) f)
structure M1(X:Cx)(o:Expr)(m:Str)(jh:Pos)(e:Expr)(jg:Pos):Prop where
 base:attributeBase o m X.env 'ċ'=aG o X.env
 few:((aF jg (ar [e] X.env)).all (λx=>not x.1)&&(backToKw jg (keywordEach [] X.env)).all (λx=>x.1.isSome)
  && gU (↑([e]:jv)+↑([]:List Keyword)+(if ([]:List Keyword).isEmpty then 0 else 1)<30))=V'
 line:(jh.endLine==jg.line)=V'
 trees:aF jg (ar [e] X.env)=[(false,aG e X.env)]
structure M2(X:Cx)(o:Expr)(m:Str)(jh:Pos)(e f:Expr)(jg:Pos):Prop where
 base:attributeBase o m X.env 'ċ'=aG o X.env
 few:((aF jg (ar [e,f] X.env)).all (λx=>not x.1)&&(backToKw jg (keywordEach [] X.env)).all (λx=>x.1.isSome)
  && gU (↑([e,f]:jv)+↑([]:List Keyword)+(if ([]:List Keyword).isEmpty then 0 else 1)<30))=V'
 line:(jh.endLine==jg.line)=V'
 trees:aF jg (ar [e,f] X.env)=[(false,aG e X.env),(false,aG f X.env)]
def Il(H:Hp)(a:aj):=(∃ b,hX H a (.dK b))\/∃ b,hX H a (.dT b)
theorem Cw{l:St}(I:ZH X g l H s)(d:Il H a):
  s.TypeIs (!a) "dict"/\(∀ b,Value.ref a=.ref b->∃ c,s.heap.get? b\c/\c.dict=Y')/\(a==sysModules)=false:=by
 rcases d with ⟨k,e⟩|⟨k,e⟩
 .let#[_,j,m,_,f]:=MJ I.hok e;show#[f.typeIs,λb q=>?_,j];cases q;let#[c,_,_,h,i,_]:=f;show#[c,h,i.2.1]
 .let#[_,j,n,_,f]:=MG I.hok e;show#[f.typeIs,λb q=>?_,j];cases q;let#[c,_,_,h,i,_]:=f;show#[c,h,i.2.1]
section
variable{jV:jo}{σ:St}{H:Hp}{a:aj}{y d:V}{u r:ai}{o:jf}
theorem ym{Q:ja}(v:A.units+1<cLine)(I:'c')(g:XV H a y o)(n:ZT y u)(rd:ZT d r)(h:∀ q p,ZH X jV σ H p->ZT (o.getD d) q->Q q p):
  aB ↥X A (call (.builtin "dict.get") [!a,u,r]) Q E s:=by
 rcases g with ⟨m,k,e,i,l⟩|⟨m,k,b,e,i,t,l⟩
 .subst i;let#[z,j,B,c,f]:=MJ I.hok e;show call_meetsIn rC f.typeIs qO (qK _ _ _) (meets_dict_get_default 'Ŗ' a (NL n) j r) #[_,f.mapOf,h _ _ 'č' ?_];rwa[l,(c.val k).getD rd]
 .subst i;cases(show u=Value.ref b from n);let#[z,j,x,c,f]:=MG I.hok e;show call_meetsIn rC f.typeIs qO (qK _ _ _) (meetsH_dict_get_default (tupleKind 'Ŗ') a b j r) #[tupleKind_room_in1 v,k,x,Ms I.hok t,f,h _ _ 'č' ?_];rwa[l,(c.val k).getD rd]
end
inductive Of(g f:TE)(d:_T.St)(Q:VK)(x:V)(b:Hp):Prop
 |mk(a:_)(_:x=!a)(_:Il b a)(_:g d b λy e=>f d e λz c=>∃ o,XV c a y o/\Q (o.getD z) c)
def v9(c e d:TE):TE:=λa H Q=>c a H λx b=>Of e d a Q x b
inductive Oi(e:TE)(f:_T.St)(Q:VK)(x:V)(c:Hp):Prop
 |mk(a:_)(_:x=!a)(_:Il c a)(_:e f c λy d=>∃ b k v,d a\.dK b/\y=kV k/\YU b k\v/\Q v (upd d a (.dK (VR b k))))
def Bm(c d:TE):TE:=λa H Q=>c a H λx b=>Oi d a Q x b
section
variable{o e f:Expr}{jh jg:Pos}{td ty tx:TE}
theorem qy(C:X.A.units+1<cLine)(B:PE X o td)(v:PE X e ty)(w:PE X f tx)(m:M2 X o "get" jh e f jg):PE X (.Call (.Attribute o "get" jh) [e,f] [] jg) (v9 td ty tx):=by
 intro b s i H Q I h;show wpAny_Call_method m.base m.few m.line qJ rC PySem.F.type_dict_get (Z7 (B b s i H _ I h) ?_);rintro u M ⟨x,k,j,J,a,t,d,D⟩;subst t;obtain rfl:u=Value.ref a:=J;let#[O,P,_]:=Cw j d;exists O,P;rw[m.trees];show Calls.callWith_builtin Z (Calls.evalArgs_plain (Calls.spliced_cons (YG (v b M i k _ j D) λS N y l p K E=>
  Calls.spliced_cons (Z7 (w b N i l _ p E) λR U ⟨z,n,q,L,T,g,G⟩=>Calls.spliced_nil ?_))))
 show ym C q g K L λW V r c=>#[_,n,r,c,G]
theorem qx(z:PE X o td)(w:PE X e ty)(m:M1 X o "pop" jh e jg):PE X (.Call (.Attribute o "pop" jh) [e] [] jg) (Bm td ty):=by
 intro b s i H Q I h;show wpAny_Call_method m.base m.few m.line qJ pQ PySem.F.type_dict_pop (Z7 (z b s i H _ I h) ?_);rintro u G ⟨x,j,g,D,a,r,d,B⟩;subst r;obtain rfl:u=Value.ref a:=D;let#[J,K,_]:=Cw g d;exists J,K;rw[m.trees];show Calls.callWith_builtin Z (Calls.evalArgs_plain (Calls.spliced_cons (Z7 (w b G i j _ g B) λM N ⟨y,L,n,E,A,k,v,q,t,l,C⟩=>Calls.spliced_nil ?_)));subst t;show zt n q E l (.inl Z) λP O p c=>#[v,_,p,c,C]
end
section
variable{jV:jo}{σ:St}{H:Hp}{a:aj}{kvs:List (ZY×V)}
end
section
variable{jV:jo}{σ:St}{H:Hp}{a:aj}{y:V}{u:ai}
end
section
variable{κ:Type}[DecidableEq κ]
theorem GL{k:κ}(h:YU a k\v):k∈a.map (·.1):=by
 let q:(a.any λc=>gU (c.1=k))=V':=by
  rw[N7,h]
  all_goals rfl
 let#[p,b,e]:=uM.mp q;show zQ.mpr #[p,b,of_decide_eq_true e]
theorem AZ{k:κ}(e:p.1=k):VR (p::r) k=VR r k:=by
 unfold VR;rw[xL,aK (by simp[e])]
theorem mM{k:κ}(e:¬ p.1=k):VR (p::r) k=p::VR r k:=by
 unfold VR;rw[xL,aM (by simp[e])]
end
def Ny(d:aj)(a:Array DictEntry):HO:=.ext λh=>(d==sysModules)=false/\a.size<=aq/\∃ o b,h.get? d\o/\o.ExactDict/\o.data=.dict a b
abbrev N8(w:aw)(x:KT×V×V)(e:DictEntry):Prop:=e.hash=VQ w x.1/\ZT x.2.1 e.key/\ZT x.2.2 e.val
structure YY(w:aw)(H:Hp)(d:aj)(xs:List (KT×V×V)):Prop where
 ex:∃ es,H d\Ny d es/\Paired (N8 w) xs es.toList
 key:∀ x∈xs,ZD H x.1 x.2.1/\x.1.depth<=3
 nd:(xs.map (·.1)).Nodup
theorem Gm(i:(d==sysModules)=false)(j:e.size<=aq)(f:∃ o c,h.get? d\o/\o.ExactDict/\o.data=.dict e c):Zk P w H h d (Ny d e):=by
 exists #[i,j,f],?_
 .let#[o,c,g,_]:=f;show#[o,g]
 .rintro a b ⟨l,m,o,c,g,r⟩ k;show#[l,m,o,c,k o g,r]
theorem NU{d c:Type}{F:d->c->Prop}:∀{l:List d}{m:List c}{i:Nat}{b:c},Paired F l m->m[i]?\b->∃ a,l[i]?\a/\F a b
 |_,_,_,_,.nil,e=>by simp at e
 |_,_,0,_,.cons r _,e=>by simp at e;subst e;show#[1,r]
 |_,_,i+1,b,.cons _ t,e=>by
  let#[a,f,g]:=NU (i:=i) (b:=b) t #v[e]
  show#[a,#v[f],g]
theorem Ik:∀{l:List c}{m:List d},↑l=↑m->(∀(i:Nat) a b,l[i]?\a->m[i]?\b->F a b)->Paired F l m
 |[],[],_,_=>.nil
 |[],_::_,h,_=>by simp at h
 |_::_,[],h,_=>by simp at h
 |a::l,b::m,h,f=>.cons (f 0 a b Z Z) (Ik #v[h] λi x y e g=>f (i+1) x y #v[e] #v[g])
theorem J4{c d:Type}{F:c->d->Prop}{a:c}{b:d}(h:F a b){l:List c}{m:List d}(g:Paired F l m):Paired F (l++[a]) (m++[b]):=by
 induction g with
 |nil=>show .cons h .nil
 |cons r _ e=>show .cons r e
def OQ(a:List (KT×V×V))(t:KT):jf:=(a.find? λx=>x.1.eqb t).map (·.2.2)
def MY(t:KT)(v:V)(x:KT×V×V):KT×V×V:=if x.1.eqb t=V' then (x.1,x.2.1,v) else x
def PH(a:List (KT×V×V))(t:KT)(y v:V):List (KT×V×V):=if (a.any λx=>x.1.eqb t)=V' then a.map (MY t v) else a++[(t,y,v)]
theorem Wu{b:List (KT×V×V)}:(b.any λx=>x.1.eqb t)=V'↔t∈b.map (·.1):=by
 rw[uM,zQ];constructor
 .rintro⟨x,a,e⟩;show#[x,a,Uk _ _ e]
 .rintro⟨x,a,e⟩;show#[x,a,#v[e,QV _]]
theorem J8(t)(v)(x):(MY t v x).1=x.1/\(MY t v x).2.1=x.2.1:=by
 unfold MY;split<;>show#[Z,Z]
theorem Jp(a:List (KT×V×V))(t)(y v):(PH a t y v).map (·.1)=if (a.any λx=>x.1.eqb t)=V' then a.map (·.1) else a.map (·.1)++[t]:=by
 unfold PH;split
 .rwa[vH,List.map_congr_left λx _=>(J8 t v x).1]
 .rw[zH];rfl
theorem pA(a:List (KT×V×V))(t)(y v):↑(PH a t y v)<=↑a+1:=by
 have:=congrArg xG (Jp a t y v);rw[zW] at this;rw[this];split
 .rw[zW];lia
 .rw[zR,zW];simp
theorem Gj(c:(a.map (·.1)).Nodup){j:Nat}(e:a[j]?\x):OQ a x.1\x.2.2:=by
 induction a generalizing j with
 |nil=>simp at e
 |cons z a f=>
  rw[yX,yQ] at c
  cases j with
  |zero=>
   simp at e;subst e;simp[OQ,QV]
  |succ j=>
   let d:a[j]?\x:=#v[e]
   let b:z.1.eqb x.1=false:=by
    cases q:z.1.eqb x.1 with
    |false=>rfl
    |true=>show gS (zQ.mpr #[x,zG d,(Uk _ _ q).symm]) c.1
   have:=f c.2 d;simpa [OQ,vR,b] using this
theorem nV(h:t∉a.map (·.1)):OQ a t=Y':=by
 unfold OQ;rw[Option.map_eq_none_iff,List.find?_eq_none];intro x b z;show h (zQ.mpr #[x,b,Uk _ _ z])
theorem YY.same{w:aw}{H a:Hp}{d:aj}{c:List (KT×V×V)}(x:YY w H d c)(s:ZE H a):YY w a d c:=by
 let#[e,f,g]:=x.ex;show#[#[e,s _ _ f,g],λz b=>#['Ŝ'.1.mono 'è','Ŝ'.2],x.nd]
theorem YY.but(x:YY w H d c)(s:ZG p H a)(t:Z1 H a)(n:d≠p):YY w a d c:=by
 let#[e,f,g]:=x.ex;show#[#[e,s _ _ f n,g],λz b=>#['Ŝ'.1.mono t,'Ŝ'.2],x.nd]
section
variable{jV:jo}{σ:_T.St}{H:Hp}
theorem YY.es(I:'c')(x:YY X.w H d a)(r:Paired (N8 X.w) a c.toList):MZ X.w s.heap (a.map (·.1)) c:=by
 show#[by have:=Paired.length r;simpa using this.symm,λi e f=>?_,x.nd]
 rw[<-wH] at f;let#[z,b,h,j,k]:=NU r f;let g:=x.key z (zG b);show#[z.1,by rw[zK,b];rfl,h,VY I _ _ _ g.1 j,g.2]
theorem FM{d:aj}{f:List (KT×V×V)}{b:Array DictEntry}{o:aH}{q:Nat}{t:KT}{y:V}{u:ai}{Q:jp->ak->Prop}(I:'c')(x:YY X.w H d f)(r:Paired (N8 X.w) f b.toList)(B:s.heap.get? d\o)(v:o.data=.dict b q)(D:ZD H t y)(m:t.depth<=3)(G:ZT y u)(C:A.units+3<cLine)(h:t∉f.map (·.1)->Q Y' s)(c:∀ j z e,f[j]?\z->z.1=t->b[j]?\e->N8 X.w z e->Q (Z' j) s):aB ↥X A (dictFind d u (VQ X.w t)) Q E s:=by
 show wl (VY I t y u D G) m C B v (x.es I r) h λj l=>?_;rw[zK] at l;let#[z,g,n]:=xU.mp l;let F:j<b.size:=by
  have:=Paired.length r;let#[a,_]:=yW.mp g;simp at this
  lia
 let i:b[j]?\b[j]:=wZ F;let#[J,k,p]:=NU r #v[wH,i]
 erw[g] at k;show c j z _ g n i p
theorem RN(hu:A.units+4<cLine)(I:'c')(x:YY X.w H d l)(hl:↑l<1000)(hy:ZD H t y)(dt:t.depth<=3)(ry:ZT y u)(rv:ZT v r)(h:∀ s' H',ZH X jV σ H' s'->ZG d H H'->YY X.w H' d (PH l t y v)->Q .unit s'):aB ↥X A (setItem (!d) u r) Q E s:=by
 let#[p,hH,k]:=x.ex;let#[#[O,P,o,W,F,hx,B],_]:=I.hok d _ hH;let S:p.size=↑l:=by have:=Paired.length k;simpa using this.symm
 let hT:s.TypeIs (!d) "dict" :=#[o,F,hx.1];unfold setItem
 try with_reducible show ag ?_
 show aa (wpAny_sequenceKey hT 'b' ?_)
 show aa (wpAny_callSpecial?_slot (name:=wF "__setitem__") hT slot_dict_setitem (wpAny_call_entry slot_dict_setitem hT entry_dict_setitem ?_ (args_dict_setitem _ _ _)));change aB _ _ (Builtin.Dict.notOrdered "__setitem__" #[[!d,u,r],[]]>>=_) _ _ s;show aa (wpAny_notOrdered_dict hT ?_);change aB _ _ (dictSet d u r>>=_) _ _ s;show aa ?_;unfold dictSet
 try with_reducible show ag ?_
 show aa (IZ t.depth t (zY _) (VY I t y u hy ry) (by change A.units+1+_<_;lia) λT a1=>?_)
 unfold dictSetHashed
 try with_reducible show ag ?_
 let I1:ZH X jV σ H { s with toks:=T }:=I.tok T;let mu:MU (H d):=#v[hH,True.intro]
 let f:∀ c,Z1 H (upd H d (Ny d c)):=λc b ws e=>#v[ZU (ZZ e hH),e]
 let L:∀(c:Array DictEntry)(Y:aD),c.size<=aq->xN d s.heap Y->(∃ o W,Y.get? d\o/\o.ExactDict/\o.data=.dict c W)->Paired (N8 X.w) (PH l t y v) c.toList->Q .unit { s with heap:=Y,toks:=T }:=λc Y G hs N hp=>by
  show h _ (upd H d (Ny d c)) (Mf I mu hs (by let#[o,_,g,_]:=N;show#[o,g]) (Gm O G N)) (λb o e n=>#v[ZU n,e]) #[#[c,Za,hp],λz G=>?_,?_]
  .unfold PH at G;split at G
   .let#[z',R,rfl]:=zQ.mp G;rwa[(J8 t v z').1,(J8 t v z').2,#[(x.key z' R).1.mono (f c),(x.key z' R).2]]
   .rcases zM.mp G with q|q
    .show#[(x.key z q).1.mono (f c),(x.key z q).2]
    .rwa[zV.mp q,#[hy.mono (f c),dt]]
  .rw[Jp];split
   .show x.nd
   .rename_i hn
    rwa[yO,#[x.nd,by simp,λa ha b m=>by rw[zV.mp m];show λz=>hn (Wu.mpr (z▸ha))]]
 show aa (FM (A:=A.in1) I1 x k F B hy dt ry (by change A.units+1+3<_;lia) (λhn=>?_) λj z e e1 U e3 e4=>?_)
 .let D:¬ (l.any λx=>x.1.eqb t)=V':=λq=>hn (Wu.mp q);show aa (wpAny_rule (wpAny_updateDictKeys (s:={ s with toks:=T }) (hz:=P) F B ?_));show ae #[.none,Z,ae (L (p.push #[VQ X.w t,u,r]) _ #v[Array.size_push,S,yE (Yq ())] (xN.update ..) #[_,W+1,vO _ F (Obj.isFreed_of_dict (Obj.data_mapDictKeys B _)),hx.mapDictKeys _,Obj.data_mapDictKeys B _] ?_)]
  unfold PH;rwa[aK D,Array.toList_push,J4 #[Z,ry,rv] k]
 .let D:(l.any λx=>x.1.eqb t)=V':=Wu.mpr (zQ.mpr #[z,zG e1,U]);show aa (wpAny_rule (aa (wpAny_updateDict (s:={ s with toks:=T }) F B (wpAny_point ?_))));show ae #[.none,Z,ae (L (p.modify j λe=>{ e with val:=r }) _ #v[Array.size_modify,P] (xN.update ..) #[_,W,vO _ F (Obj.isFreed_of_dict (Obj.data_mapDict B _)),hx.mapDict _,Obj.data_mapDict B _] ?_)]
  unfold PH;rw[aM D];let lm:↑(p.modify j λe=>{ e with val:=r }).toList=p.size:=#v[uW,Array.size_modify]
  show Ik (by rw[lm,zW,S]) λi a b ha m=>?_
  rw[zK] at ha;let#[a',J,rfl]:=xU.mp ha;rw[wH,Array.getElem?_modify] at m;let M:p[i]?\p[i]'(by let#[l1,_]:=yW.mp J;lia):=wZ _
  let#[a2,K,r1,r2,r3]:=NU k #v[wH,M]
  erw[J] at K;rw[M] at m;by_cases C:j=i
  .subst C;erw[aM rfl,vZ] at m;erw[e1] at J;unfold MY;rw[U,QV,aM rfl];rw[U] at r1;show#[r1,r2,rv]
  .erw[aK C] at m;let a0:a'.1.eqb t=false:=by
    cases q:a'.1.eqb t with
    |false=>rfl
    |true=>
     let q1:(l.map (·.1))[i]?\t:=#v[zK,J,congrArg Z' (Uk _ _ q)]
     let q2:(l.map (·.1))[j]?\t:=#v[zK,e1,congrArg Z' U]
     let#[l1,_]:=yW.mp q2;show gS ((rW l1 x.nd).mp (q2|||q1.symm)) C
   unfold MY;rwa[a0,aK zP,#[r1,r2,r3]]
end
end _T
namespace Srt
open PySem PySem.W PyProof.Rows
structure Pc(lt:Nat->Nat->Bool):Prop where
 asym:∀ i j,lt i j=V'->lt j i=false
 trans:∀ i j k,lt j i=false->lt k j=false->lt k i=false
def gt(p:jw)(i:Nat):Nat:=p.getD i 0
theorem Ox(p)(i):gt p i=(p[i]?).getD 0:=by unfold gt;rw[Array.getD_eq_getD_getElem?]
theorem KS{p:jw}{i j:Nat}(a:j<=p.size)(k:Nat):gt (kas_rev p i j) k=if i<=k/\k<j then gt p (i+j-1-k) else gt p k:=by
 rw[Ox,Ox,Ox];unfold kas_rev;rw[getElem?_mirror_all a];split<;>rfl
theorem zc{p:jw}{k l:Nat}(a:k<p.size)(b:l<=k)(x:Nat):gt (bubble p k (k-l)) x=if x=l then gt p k else if l<x/\x<=k then gt p (x-1) else gt p x:=by
 rw[Ox,Ox,Ox,Ox,getElem?_bubble a (k-l) ()]
 let e:k-(k-l)=l:=()
 rw[e];split
 .rfl
 .split<;>rfl
def PB(n:Nat)(p:jw):Prop:=p.Perm (xP (yD n))
theorem PB.size(h:PB n p):p.size=n:=by rw[h.size_eq];simp
theorem PB.lt{n:Nat}{p:jw}(h:PB n p){i:Nat}(a:i<n):gt p i<n:=by
 let b:=h.size;rw[Ox,wZ ()]
 have:p[i]'()∈(xP (yD n)):=h.mem_iff.mp (Array.getElem_mem _)
 simpa using this
theorem PB.rev(h:PB n p)(i j):PB n (kas_rev p i j):=(mirror_perm _ _ _ _)|||h
theorem PB.bub(h:PB n p)(i j):PB n (bubble p i j):=(bubble_perm _ _ _)|||h
section
variable{lt:Nat->Nat->Bool}{n:Nat}{cmp:Nat->Nat->(Bool->ak->Prop)->ak->Prop}
def SortedTo(lt:Nat->Nat->Bool)(p:jw)(k:Nat):=∀ i j,i<=j->j<k->lt (gt p j) (gt p i)=false
def Oc(lt:Nat->Nat->Bool)(p:jw)(k:Nat):=∀ i j,i<=j->j<k->lt (gt p i) (gt p j)=false
theorem Pc.irr(O:Pc lt)(i):lt i i=false:=by
 cases h:lt i i with
 |false=>rfl
 |true=>show gS (O.asym i i h) (by rw[h];decide)
def Ou(lt:Nat->Nat->Bool)(n:Nat)(cmp:Nat->Nat->(Bool->ak->Prop)->ak->Prop)(s:ak):=∀ i j,i<n->j<n->∀ C:Bool->ak->Prop,C (lt i j) s->cmp i j C s
theorem HE(O:Pc lt)(k:'5')(e:PB n p):∀ f m N  Q ,f+m=N->N<=n->1<=m->SortedTo lt p m ->
  (∀ a,m<=a->a<=N->SortedTo lt p a->(a=N\/lt (gt p a) (gt p (a-1))=V')->Q a s)->(kas_asc p f m).kasWp cmp Q s
 |0,m,N,Q,v,g,w,b,c=>c m (zY _) () b (.inl ())
 |f+1,m,N,Q,v,g,w,b,c=>by
  show k _ _ (e.lt (i:=m) ()) (e.lt (i:=m-1) ()) _ ?_
  change (if lt (gt p m) (gt p (m-1))=V' then KasT.ret m else kas_asc p f (m+1)).kasWp cmp Q s
  cases l:lt (gt p m) (gt p (m-1)) with
  |true=>rwa[aM Z,c m (zY _) () b (.inr l)]
  |false=>
   rw[aK zP];show HE O k e f (m+1) N Q () g () (λi j d y=>?_) λa x q r t=>c a () q r t
   rcases yL j m with h|h
   .show b i j d h
   .let o:j=m:=()
    subst o;rcases yL i j with u|u
    .show O.trans _ _ _ (b i (j-1) () ()) l
    .have:i=j:=()
     rwa[this,O.irr _]
def HX(lt:Nat->Nat->Bool)(p:jw)(m q:Nat):Prop:=q+1<=m/\∀ i j,m-(q+1)<=i->i<m->m-(q+1)<=j->j<m->lt (gt p i) (gt p j)=false
theorem CF(O:Pc lt)(h:m<=p.size)(e:HX lt p m q)(b:Oc lt p m):Oc lt (kas_rev p (m-(q+1)) m) m:=by
 let#[l,d]:=e;let g (k:Nat):=KS (p:=p) (i:=m-(q+1)) h k;intro i j a f;rw[g i,g j];split
 .rename_i c
  rw[aM #[(),()]]
  show d _ _ () () () ()
 .rename_i c
  split
  .show b _ _ () ()
  .show b _ _ a f
theorem Ke(O:Pc lt)(D:'5'):∀ f  p  m q N (Q:jw×Nat×Nat->ak->Prop),PB n p->f+m=N->N<=n->Oc lt p m->HX lt p m q ->
  (∀ a c u,PB n a->m<=c->c<=N->Oc lt a c->HX lt a c u->Q (a,c,u) s)->(kas_desc f p m q).kasWp cmp Q s
 |0,p,m,q,N,Q,b,P,F,r,o,x=>x p m q b (zY _) () r o
 |f+1,p,m,q,N,Q,b,P,F,r,o,x=>by
  let S:=o.1;let V:=b.size;show D _ _ (b.lt (i:=m) ()) (b.lt (i:=m-1) ()) _ ?_
  change (if lt (gt p m) (gt p (m-1))=V' then (if q>0 then kas_desc f (kas_rev p (m-(q+1)) m) (m+1) 0 else kas_desc f p (m+1) 0) else .ask (p.getD (m-1) 0) (p.getD m 0) λd=>if d=V' then .ret (p,m,q) else kas_desc f p (m+1) (q+1):KasT _).kasWp cmp Q s
  let t:∀ a:jw,PB n a->Oc lt a m->gt a m=gt p m->lt (gt p m) (gt p (m-1))=V'->(∀ i,i<m->lt (gt a i) (gt p (m-1))=false)->Oc lt a (m+1):=λa _ w e E R i j v U=>by
   rcases yL j m with h|h
   .show w i j v h
   .let C:j=m:=()
    subst C;rcases yL i j with l|l
    .rwa[e,O.trans _ _ _ (O.asym _ _ E) (R i l)]
    .have:i=j:=()
     rwa[this,O.irr _]
  cases E:lt (gt p m) (gt p (m-1)) with
  |true=>
   rw[aM rfl];split
   .let w:=CF O () o r
    let g (k:Nat):=KS (p:=p) (i:=m-(q+1)) (j:=m) () k
    show Ke O D f _ (m+1) 0 N Q (b.rev _ _) () F (t _ (b.rev _ _) w (by rw[g m,aK ()]) E λi T=>?_) #[(),λi j G H I J=>?_] λa c u y K z A B=>x a c u y () z A B
    .rw[g i];split
     .show o.2 _ _ () () () ()
     .show r _ _ () ()
    .have:i=j:=()
     rwa[this,O.irr _]
   .show Ke O D f _ (m+1) 0 N Q b () F (t _ b r Z E λi T=>r _ _ () ()) #[(),λi j G H I J=>?_] λa c u y K z A B=>x a c u y () z A B
    have:i=j:=()
    rwa[this,O.irr _]
  |false=>
   rw[aK zP];show D _ _ (b.lt (i:=m-1) ()) (b.lt (i:=m) ()) _ ?_
   change (if lt (gt p (m-1)) (gt p m)=V' then KasT.ret (p,m,q) else kas_desc f p (m+1) (q+1)).kasWp cmp Q s
   cases L:lt (gt p (m-1)) (gt p m) with
   |true=>rwa[aM Z,x p m q b (zY _) () r o]
   |false=>
    rw[aK zP];show Ke O D f _ (m+1) (q+1) N Q b () F (λi j v U=>?_) #[(),λi j G H I J=>?_] λa c u y K z A B=>x a c u y () z A B
    .rcases yL j m with h|h
     .show r i j v h
     .let C:j=m:=()
      subst C;rcases yL i j with l|l
      .show O.trans _ _ _ L (r i (j-1) () ())
      .have:i=j:=()
       rwa[this,O.irr _]
    .rcases yL i m with h|h
     .rcases yL j m with l|l
      .show o.2 i j () h () l
      .let C:j=m:=()
       subst C;show O.trans _ _ _ L (o.2 i (j-1) () h () ())
     .let M:i=m:=()
      subst M;rcases yL j i with l|l
      .show O.trans _ _ _ (o.2 (i-1) j () () () l) E
      .have:i=j:=()
       rwa[this,O.irr _]
theorem lQ(b:m<=p.size)(c:Oc lt p m):SortedTo lt (kas_rev p 0 m) m:=λi j a d=>by
 let g (k:Nat):=KS (p:=p) (i:=0) b k;rw[g i,g j,aM #[(),()],aM #[(),()]]
 show c _ _ () ()
theorem Ci(O:Pc lt)(h:'5')(b:PB n p){Q:Nat×jw->ak->Prop}(f:1<=m)(l:m<=N)(g:N<=n)(i:Oc lt p m)(j:∀ a c,PB n c->1<=a->a<=N->SortedTo lt c a->Q (a,c) s):(kas_tail3 m N p).kasWp cmp Q s:=by
 unfold kas_tail3;rwa[KasT.kasWp_bind,HE O h (b.rev 0 m) (N-m) m N _ () g f (lQ (by have:=b.size;lia) i) λa k d e _=>j a _ (b.rev 0 m) () d e]
theorem Dz(O:Pc lt)(e:'5')(q:PB n p){Q:Nat×jw->ak->Prop}(x:m+1<=N)(d:N<=n)(o:Oc lt p (m+1))(h:∀ a b,PB n b->1<=a->a<=N->SortedTo lt b a->Q (a,b) s):(kas_descPart m N p).kasWp cmp Q s:=by
 unfold kas_descPart;rw[KasT.kasWp_bind];show Ke O e (N-(m+1)) p (m+1) 0 N _ q () d o #[(),λi j r t u v=>?_] λb a k c w f g l=>?_
 .have:i=j:=()
  rwa[this,O.irr _]
 .let y:=c.size;change (if k>0 then kas_tail3 a N (kas_rev b (a-(k+1)) a) else kas_tail3 a N b).kasWp cmp Q s
  split
  .show Ci O e (c.rev _ _) () f d (CF O () l g) h
  .show Ci O e c () f d g h
theorem Ak(O:Pc lt)(l:'5'){p:jw}(a:PB n p){Q:Nat×jw->ak->Prop}(F:1<=n)(o:∀ q v,PB n v->1<=q->q<=n->SortedTo lt v q->Q (q,v) s):(kas_count n p).kasWp cmp Q s:=by
 unfold kas_count;rw[KasT.kasWp_bind];let H:=a.size;show HE O l a (n-1) 1 n _ () (zY _) (zY _) (λi j b t=>?_) λm x y c d=>?_
 .have:i=j:=()
  rwa[this,O.irr _]
 .split
  .show o m p a x y c
  .rename_i u
   let G:m<n:=by have:m≠n:=λe=>u (by rw[e];simp);lia
   let z:lt (gt p m) (gt p (m-1))=V':=by
    rcases d with d|d
    .lia
    .show d
   split
   .rename_i D
    show l _ _ (a.lt (i:=0) ()) (a.lt (i:=m-1) ()) _ ?_
    change (if lt (gt p 0) (gt p (m-1))=V' then KasT.ret (m,p) else kas_descPart m n (kas_rev p 0 m)).kasWp cmp Q s
    cases C:lt (gt p 0) (gt p (m-1)) with
    |true=>rwa[aM Z,o m p a x y c]
    |false=>
     rw[aK zP];let w:∀ i j,i<m->j<m->lt (gt p i) (gt p j)=false:=λi j E t=>
      O.trans _ _ _ (c j (m-1) () ()) (O.trans _ _ _ C (c 0 i () E))
     let g (k:Nat):=KS (p:=p) (i:=0) (j:=m) () k
     show Dz O l (a.rev 0 m) () (zY _) (λi j b t=>?_) o
     rw[g i,g j];rcases yL j m with h|h
     .rw[aM #[(),()],aM #[(),()]]
      show w _ _ () ()
     .let r:j=m:=()
      subst r;rcases yL i j with f|f
      .rw[aM #[(),f],aK ()]
       show O.trans _ _ _ (O.asym _ _ z) (w _ _ () ())
      .have:i=j:=()
       rwa[this,aK (),O.irr _]
   .let B:m=1:=()
    subst B;show Dz O l a () (zY _) (λi j b t=>?_) o
    rcases yL i j with f|f
    .let A:i=0:=()
     let r:j=1:=()
     subst A r;show O.asym _ _ z
    .have:i=j:=()
     rwa[this,O.irr _]
theorem IA(O:Pc lt)(m:'5')(e:PB n p)(q:k<n)(g:SortedTo lt p k):∀ f l r  Q ,l<=r->r<=k->r-l<=f->(∀ i,i<l->lt (gt p k) (gt p i)=false)->(∀ i,r<=i->i<k->lt (gt p k) (gt p i)=V') ->
  (∀ j,j<=k->(∀ i,i<j->lt (gt p k) (gt p i)=false)->(∀ i,j<=i->i<k->lt (gt p k) (gt p i)=V')->Q j s)->(kas_place p k f l r).kasWp cmp Q s
 |0,l,r,Q,v,t,w,a,b,c=>c l () a λi d=>b i ()
 |f+1,l,r,Q,v,t,w,a,b,c=>by
  unfold kas_place;split
  .show c l () a λi d=>b i ()
  .rename_i x
   show m _ _ (e.lt (i:=k) q) (e.lt (i:=(l+r)/2) ()) _ ?_
   change (if lt (gt p k) (gt p ((l+r)/2))=V' then kas_place p k f l ((l+r)/2) else kas_place p k f ((l+r)/2+1) r).kasWp cmp Q s
   cases u:lt (gt p k) (gt p ((l+r)/2)) with
   |true=>
    rw[aM rfl];show IA O m e q g f l ((l+r)/2) Q () () () a (λi d o=>?_) c
    cases h:lt (gt p k) (gt p i) with
    |true=>rfl
    |false=>
     have:=O.trans _ _ _ (g ((l+r)/2) i d o) h;erw[u] at this
   |false=>
    rw[aK zP];show IA O m e q g f ((l+r)/2+1) r Q () t () (λi d=>?_) b c
    show O.trans _ _ _ (g i ((l+r)/2) () ()) u
theorem FB(O:Pc lt)(v:'5'):∀ f  p  k (Q:jw->ak->Prop),PB n p->f+k=n->1<=k->SortedTo lt p k->(∀ o,PB n o->SortedTo lt o n->Q o s)->(kas_bin f p k).kasWp cmp Q s
 |0,p,k,Q,e,u,y,c,m=>m p e (by rwa[<-u,Nat.zero_add,c])
 |f+1,p,k,Q,e,u,y,c,m=>by
  unfold kas_bin;rw[KasT.kasWp_bind];let C:=e.size;show IA O v e () c k 0 k _ (yY _) (zY _) () (λi w=>gS w ()) (λi w z=>gS z ()) λl A a b=>?_
  let g (x:Nat):=zc (p:=p) (k:=k) (l:=l) () A x
  show FB O v f _ (k+1) Q (e.bub _ _) () () (λi j h B=>?_) m
  rw[g i,g j];by_cases t:i=l
  .rw[aM t];by_cases d:j=l
   .rwa[aM d,O.irr _]
   .rw[aK d,aM #[(),()]]
    show O.asym _ _ (b (j-1) () ())
  .rw[aK t];by_cases d:j=l
   .rw[aM d,aK ()]
    show a i ()
   .rw[aK d];by_cases q:l<i/\i<=k
    .rw[aM q,aM #[(),()]]
     show c _ _ () ()
    .rw[aK q];by_cases r:l<j/\j<=k
     .rwa[aM r,c _ _ () ()]
     .rwa[aK r,c _ _ h ()]
theorem sort_ok(O:Pc lt)(b:'5')(g:1<=n){Q:jw->ak->Prop}(d:∀ p,PB n p->SortedTo lt p n->Q p s):(kas_sort n).kasWp cmp Q s:=by
 unfold kas_sort;rw[KasT.kasWp_bind];show Ak O b (p:=xP (yD n)) (Array.Perm.refl _) g λm p c f h a=>?_;change (if m<n then kas_bin (n-max m 1) p (max m 1) else .ret p:KasT _).kasWp cmp Q s
 split
 .let e:max m 1=m:=()
  rwa[e,FB O b (n-m) p m Q c () f a d]
 .let e:m=n:=()
  subst e;show d p c a
end
end Srt
namespace _T
open PySem PySem.Spec PyProof.Rows
structure Kg(g:KT->KT):Prop where
 plt:∀ t u,(g t).plt (g u)=t.lt u
 cmp:∀ t u,(g t).cmp (g u)=V'
 shape:∃ n:Nat,∀ t,∃(k:Int)(r:jm),g t=.tup (.int k::r)/\↑r=n
def MK(g:KT->KT)(h:aD)(t:KT)(v:ai):Prop:=ZL h (g t) v
section
variable{g:KT->KT}
theorem Fc:∀{l m:jm}{f d:jd}{i:Nat}{Q:Bool->ak->Prop},↑l=↑m->jP s.heap l f->jP s.heap m d->cmpL l m=V'->A.units+jR l<cLine->Q (pltL l m) s->PySem.W.KatLex prog w A true false Q (f.zip d) (i+1) s
 |[],m,f,d,i,Q,c,x,y,_,_,h=>by
  rw[jP] at x;subst x
  cases m with
  |nil=>rw[pltL] at h;show PySem.W.kat_nil h
  |cons _ _=>simp at c
 |a::l,m,f,d,i,Q,c,x,y,hc,hu,h=>by
  cases m with
  |nil=>simp at c
  |cons b m=>
   rw[jP] at x y;let#[v,r,rfl,k,o]:=x;let#[j,q,rfl,n,p]:=y;rw[jR] at hu;rw[pltL] at h;rw[cmpL] at hc;show PySem.W.kat_cons (Pq a.depth a b A v j (zY _) k n () prog w _ _ ?_)
   show PySem.W.kat_go (λe=>PySem.W.kat_yes ?_) (λe=>PySem.W.kat_no ?_)
   .rw[e,aM rfl] at h hc;show Fc (by simpa using c) o p hc () h
   .rw[e,aK zP] at h hc;show PySem.W.kat_one v j (C0 a.depth a b A v j (zY _) k n hc () prog w _ _ h)
theorem RV(z:Kg g)(l:MK g s.heap t x)(o:MK g s.heap u y)(G:A.units+(g t).depth<cLine)(h:Q (t.lt u) s):aB ↥_ A (keyLt' 'ŝ' x y) Q E s:=by
 let#[n,M]:=z.shape;let#[k,r,S,la]:=M t;let#[m,q,T,lc]:=M u;let b:=z.plt t u;let d:=z.cmp t u;unfold MK at l o;rw[S] at b d l G;rw[T] at b d o;rw[ZL] at l o;let#[a,Y,rfl,#[#[cl,dd,O,sl],X,U,n1,V],i]:=l;let#[c,H,rfl,#[#[N,R,P,a0],B,F,n2,v],j]:=o;let l1:=↑i;let l2:=↑j;rw[jP] at i j;let#[v1,K,rfl,I,i]:=i;let#[v2,L,rfl,J,j]:=j;rw[ZL] at I J;let#[C,rfl]:=I;let#[D,rfl]:=J;rw[KT.plt,pltL] at b;rw[KT.cmp,cmpL] at d;rw[KT.depth,jR] at G;show PySem.W.kat_lt X V B v ?_;let f:gU ((Value.int k C::K).toArray.size<(Value.int m D::L).toArray.size)=false:=by
  simp only[zN] at l1 l2;simp only[zF,zN,decide_eq_false_iff_not]
  lia
 rw[f];change PySem.W.KatLex prog w A true false Q ((.int k C,.int m D)::K.zip L) 0 s;show PySem.W.kat_cons (SeqAt.EqAt.int_int k C m D prog w _ _ ?_);show PySem.W.kat_go (λe=>PySem.W.kat_yes ?_) (λe=>PySem.W.kat_no ?_)
 .let p:(KT.int k).eqb (KT.int m)=V':=#v[KT.eqb,e]
  rw[p,aM rfl] at b d;show Fc (by rw[la,lc]) i j d () ?_
  rwa[b,h]
 .let p:(KT.int k).eqb (KT.int m)=false:=#v[KT.eqb,e]
  rw[p,aK zP,KT.plt] at b;show oneLt_int ?_;rwa[b,h]
end
def XA(g:KT->KT)(h:aD):jm->jd->Prop
 |[],[]=>True
 |t::ts,v::vs=>MK g h t v/\XA g h ts vs
 |_,_=>False
theorem XA.len:∀{a:jm}{b:jd},XA g h a b->↑a=↑b
 |[],[],_=>rfl
 |_::_,_::_,x=>congrArg (· + 1) x.2.len
 |[],_::_,x=>x.elim
 |_::_,[],x=>x.elim
theorem XA.get{g:KT->KT}{h:aD}:∀{c:jm}{b:jd},XA g h c b->∀ i,i<↑b->MK g h (c.getD i (.int 0)) (b.getD i Value.none)
 |_::_,_::_,x,0,_=>x.1
 |_::_,_::_,x,i+1,a=>x.2.get i #v[a]
 |[],[],_,_,a=>gS a ⋯
 |[],_::_,x,_,_=>x.elim
 |_::_,[],x,_,_=>x.elim
theorem XA.firsts(i:Kg g):∀{m:jm}{d:jd},XA g h m d->∃ b,PySem.W.KatTups h d b/\↑b=↑d/\∀ v∈b,∃ k t,v=Value.int k t
 |[],[],_=>#[[],.nil,Z,λv c=>gS c ⋯]
 |t::m,v::d,x=>by
  let#[b,q,s,u]:=XA.firsts i x.2;let#[_,B]:=i.shape;let#[k,r,p,_]:=B t;let f:=x.1;unfold MK at f;rw[p,ZL] at f;let#[a,A,rfl,#[o,z,w,n,y],e]:=f;rw[jP] at e;let#[D,C,rfl,j,e]:=e;rw[ZL] at j;let#[l,rfl]:=j;exists .int k l::b,.cons z w y Z q,by simp[s]
  intro v c;rcases zU.mp c with rfl|c
  .show#[k,l,Z]
  .show u v c
 |[],_::_,x=>x.elim
 |_::_,[],x=>x.elim
section
variable{g:KT->KT}
theorem zg(d:Kg g)(m:0<↑a)(h:XA g s.heap i a)(e:Q 'ŝ' s):aB ↥_ A (keyKind' ⇑a) Q E s:=by
 let#[j,b,l,c]:=h.firsts d;show PySem.W.kat_kind (T:=.type "int") b () (λv f=>?_) 'b' e
 let#[k,t,rfl]:=c v f;show wW.of_pure Z
theorem P'(B:Kg g){b:jm}{d c:jd}{Q:jL->ak->Prop}(D:↑d=↑c)(y:2<=↑c)(m:↑c<64)(h:XA g s.heap b d)(I:∀ t∈b,A.units+(g t).depth<cLine)(H:∀ (p:jw) (a:jL),Srt.PB ↑c p->(∀ i j,i<=j->j<↑c->(b.getD 'Ń' (.int 0)).lt 'ī'=false)->jK a=p.map (PySem.W.kas_item (d.toArray.zip ⇑c))->failedOf a=Y'->Q a s):
  aB ↥_ A ((sortRuns').run (SortSt.mk' 'ŝ' (d.toArray.zip ⇑c) ⇑[] 7 Y')) (λr e=>Q r.2 e) E s:=by
 let F:=h.len;show PySem.W.kat_run (G:=λp e=>e=s/\Srt.PB ↑c p/\∀ i j,i<=j->j<↑c->(b.getD 'Ń' (.int 0)).lt 'ī'=false) D y m (λp a e J u v x=>?_) ?_
 .let#[rfl,f,l]:=x;show H p a f l u v
 .show Srt.sort_ok (lt:=λi j=>(b.getD i (.int 0)).lt (b.getD j (.int 0))) #[λi j=>Q9 _ _,λi j k=>T7] (λi j K q C z=>?_) () λp f l=>#[Z,f,λi j o q=>l i j o q]
  unfold PySem.W.kas_ask;show RV B (h.get i ()) (h.get j ()) (I _ ?_) z
  let n:i<↑b:=()
  rwa[zO,zT n,xK _]
end
inductive Od(g:KT->KT)(c:je)(H:Hp)(Q:VK)(_:XK):Prop
 |mk(v:V)(t:KT)(_:c=[v])(_:ZD H t v)(_:t.fits 3=V')(_:∀(b:V)(a:Hp),ZD a (g t) b->ZE H a->Q b a)
theorem Cs{k:_T.St}(I:ZH X b k H s):∀{d:jm}{a:je}{c:jd},jO H (d.map g) a->ZS a c->XA g s.heap d c
 |[],a,c,h,r=>by
  rw[uC,jO] at h;subst h;cases r;trivial
 |t::d,a,c,h,r=>by
  rw[yX,jO] at h;let#[v,l,rfl,e,f]:=h
  cases r with
  |cons i j=>show#[VY I _ _ _ e i,Cs I f j]
section
variable{jV:jo}{σ:_T.St}
theorem FP{b:aj}(I:'c')(h:‹s›<=b):b∉frs X.stack:=λz=>by
 let#[_,o,e,_]:=I.stack.mem z;show gS (zE e) (Nat.not_lt.mpr h)
theorem Eo{g:KT->KT}{T:Hp->KT->V->Prop}{sp:Sp}{x0:Str}{k:Nat}{f D kS:aj}{fd:ao}{oD:aH}{H0:Hp}{A:ax}{E:ja}{p:ai->PUnit->Sem (ForInStep PUnit)}{all:jm}(hI:∀ (H c:Hp) (t:KT) (u:V),ZE H c->T H t u->T c t u)(hS:∀ (H:Hp) (u:V) (t:KT) (Q:VK),ZE H0 H->T H t u->(∀ (S:V) (c:Hp),ZD c (g t) S->ZE H c->Q S c)->sp [u] H Q E0)(F:ZI X.prog X.w X.K X.mg X.base ZJ k f fd [x0] sp)(hb:Zx X.K fd [x0] [])(hr:ZX k A)(hA:A.frames=X.A.frames)(nD:D∉frs X.stack)(nS:kS∉frs X.stack)(a0:D≠kS)(a4:H0 D=Y')(v:∀ x (s:ak) (R:ak->Prop),aB ↥X A (call (!f) [x]) (λy h=>∃ (l:jd) (e:Nat),↑l<64/\h.heap.get? kS\seqObj "list" ⇑l e/\R { h with heap:=h.heap.update kS (Obj.mapSeq (·.push y)) }) (λ_ _=>False) s ->
   aB ↥X A (p x ⟨⟩) (λr h=>r=.yield ⟨⟩/\R h) E s):
  ∀(r:jd)(rU:je)(P C:jm)(H:Hp)(s:ak)(l:jd)(m:je)(e:Nat),all=C++P->↑all<64->ZH X jV σ H s->ZE H0 H->V9 X jV H kS->H D=Y'->ZS rU r->Paired (T H) P rU ->
   s.heap.get? D\oD->s.heap.get? kS\seqObj "list" ⇑l e->jO H (C.map g) m->ZS m l ->
   aB ↥X A (forIn r PUnit.unit p) (λ_ h=>∃(c:Hp)(j:jd)(d:je)(W:Nat),ZH X jV σ c h/\ZE H0 c/\V9 X jV c kS/\c D=Y'/\h.heap.get? D\oD/\h.heap.get? kS\seqObj "list" ⇑j W/\jO c (all.map g) d/\ZS d j) E s
 |[],rU,P,C,H,s,l,m,e,ha,hl,I,s0,Y,hD,r,hk,oo,os,B,rk=>by
  cases r;cases hk;rw[zC] at ha;subst ha;rwa[List.forIn_nil,ae #[H,l,m,e,I,s0,Y,hD,oo,os,B,rk]]
 |x::r,rU,P,C,H,s,l,m,e,ha,hl,I,s0,Y,hD,rr,hk,oo,os,B,rk=>by
  cases rr with
  |cons ra rb=>
  rename_i u ur
  cases hk with
  |cons a7 a8=>
  rename_i t P
  rw[sJ];let c5:↑l=↑C:=by
   let a:=↑B;let b:=↑rk;rw[zW] at a
   lia
  let a9:↑C+(↑P+1)<64:=by rw[ha,zR,zN] at hl;lia
  show aa (Z7 (v x s (λh=>∃(c:Hp)(j:jd)(d:je)(W:Nat),ZH X jV σ c h/\ZE H0 c/\ZE H c/\V9 X jV c kS/\c D=Y'/\h.heap.get? D\oD/\h.heap.get? kS\seqObj "list" ⇑j W/\jO c ((C++[t]).map g) d/\ZS d j) ?_) λq h M=>?_)
  .let a3:U7 X.prog X.w X.K X.mg X.base A X.stack s H:=#[#v[hA,I.ok.frames],I.env0.mod,I.env0.bs,I.env0.bsz,I.env0.funs,I.env0.frf,I.env0.hok,I.env0.bare]
   let c1:sp [u] H (λS c=>ZD c (g t) S/\ZE H c) E0:=hS H u t _ s0 a7 λS c a b=>#[a,b];let r2:ZS [u] [x]:=.cons ra .nil;show wpAny_call (codeAny_mono (F.run A X.stack s H #[[x],[]] [x] [u] _ E0 hr a3 (hb s [x] I.kIn Z) r2 c1) λrr h M=>?_)
   cases rr with
   |error ev=>show M.elim
   |ok fl=>
    cases fl with
    |next=>show False.elim M
    |brk=>show False.elim M
    |cont=>show False.elim M
    |ret y=>
     let#[S,c,O,U,un,c0,rv,kt,sm]:=M;let J:ZH X jV σ c h:=I.call' O un c0 U (λb hb=>gS hb ⋯)
     let N:=un.keep D oD oo hD nD ⋯
     let a2:=un.keep kS _ os Y.1 nS ⋯
     let a5:c kS=Y':=un.free kS _ os Y.1 ⋯
     let L:c D=Y':=un.free D _ oo hD ⋯
     exists l,e,(),a2
     let i:V9 X jV c kS:=#[a5,Y.2];let ea:(xP l).push y=xP (l++[y]):=by simp
     obtain⟨c2,a6⟩:∃ c2,(h.heap.update kS (Obj.mapSeq (·.push y))).get? kS\seqObj "list" (xP (l++[y])) c2:=#[_,by rwa[<-ea,get?_update_seq a2 (·.push y)]]
     let sb:=xN.update h.heap kS (Obj.mapSeq (·.push y));let J2:ZH X jV σ c { h with heap:=h.heap.update kS (Obj.mapSeq (·.push y)) }:=J.turned (t':=h.toks) (it:=kS) (λb o n q=>(sb.2 b n)|||q) i.1 i.2.1 i.2.2.2.1 i.2.2.2.2.1 i.2.2.2.2.2;show#[c,l++[y],m++[S],c2,J2,s0|||sm,sm,i,L,(sb.2 D a0)|||N,a6,?_,rk.append (.cons rv .nil)];rwa[zH,(B.sm sm).append (.cons kt .nil)]
  .let#[rfl,c,j,d,W,J,c4,sm,i,L,N,O,a1,c3]:=M;change aB ↥X A (forIn r PUnit.unit p) _ E h;show Eo hI hS F hb hr hA nD nS a0 a4 v r _ P (C++[t]) c h j d W (by rw[ha];simp) hl J c4 i L rb (Paired.mapP (G:=T c) a8 λ_ _ z=>hI _ _ _ _ sm z) N O a1 c3
end
section
variable{jV:jo}{σ:_T.St}{H:Hp}
theorem yj{a:aj}{o:HO}(I:'c')(l:X.s₀.heap.get? a=Y')(t:a≠X.env.locals)(m:∀ x c,X.env.cells.lookup x\c->c≠a)(y:∀ p∈X.pn++jV,p.1≠a)(v:H a=Y')(h:Zk X.prog X.w 'ñ' s.heap a o):ZH X jV σ 'ñ' s:=by
 let g:∀{b:aj}{u:HO},H b\u->b≠a:=fun{b u} e z=>by erw[z,v] at e
 show#[I.ok,I.os,I.bare,#[I.base.keep,I.base.slot,λb i q n A=>?_,I.base.there,λb k q=>?_,λb i u q=>?_,λb B q=>?_],I.loc,I.cell,?_,λx c e=>?_,λp d=>?_,λb u e=>?_,I.len]
 .rwa[ZU (λz=>by erw[z,l] at q),I.base.free b i q n A]
 .let e:=I.base.tups b k q;rwa[ZU (g e),e]
 .let e:=I.base.frzs b i u q;rwa[ZU (g e),e]
 .let#[f,e]:=I.base.tbls b B q;show#[f,#v[ZU (g e),e]]
 .rwa[ZU (Ne.symm t),I.free]
 .rwa[ZU (m x c e),I.freeC x c e]
 .let#[e,n,r]:=I.pin p d;show#[e,#v[ZU (y p d),n],r]
 .by_cases j:b=a
  .subst j;erw[Za] at e;show h
  .rw[ZU j] at e;show(I.hok b u e).stay (λ_ _ _ q=>q) (λc q=>#v[ZU (g q),q]) λc k q=>#v[ZU (g q),q]
theorem ZS.getD(r:ZS b a)(h:i<↑b):ZT (b.getD i .non) (a.getD i Value.none):=by
 let e:=↑r;let#[u,c,d]:=r.get (i:=i) (x:=b[i]) (by simp[h])
 rwa[zO,zO,c,zT h,d]
theorem E4(r:ZS b a):∀(l:jj),(∀ i∈l,i<↑b)->ZS (l.map λi=>b.getD i .non) (l.map λi=>a.getD i Value.none)
 |[],_=>.nil
 |i::l,h=>.cons (ZS.getD r (h i zX)) (E4 r l λj c=>h j (zS _ c))
theorem CC{c:jm}{a:je}(e:Paired F c a):∀(l:jj),(∀ i∈l,i<↑a)->Paired F (l.map λi=>c.getD i (.int 0)) (l.map λi=>a.getD i .non)
 |[],_=>.nil
 |i::l,h=>by
  let d:=h i zX;let#[t,f,k]:=NU e (i:=i) (b:=a[i]) (by simp[d])
  show .cons (show F (c.getD i (.int 0)) (a.getD i .non) from ?_) (CC e l λj g=>h j (zS _ g));rwa[zO,zO,f,zT d,k]
theorem gW{a:Type}(l)(d:a):(yD ↑l).map (λi=>l.getD i d)=l:=by
 apply List.ext_getElem
 .simp
 .intro i c b;simp[b]
theorem kW{g:KT->KT}{IT:Hp->KT->V->Prop}{sp:Sp}(hg:Kg g)(dg:∀ t,(g t).depth<=2*t.depth+2){x0:Str}{k:Nat}{f:aj}{lv:ai}{fd:ao}{us:je}{C:jm}{Q:VK}(hr:ZX (k+2) X.A)(F:ZI X.prog X.w X.K X.mg X.base ZJ k f fd [x0] sp)(hb:Zx X.K fd [x0] [])(I0:'c')(hI:∀ (H h:Hp) (t:KT) (u:V),ZE H h->IT H t u->IT h t u)(hS:∀ (h:Hp) (u:V) (t:KT) (Q:VK),ZE H h->IT h t u->(∀ (v':V) (H2:Hp),ZD H2 (g t) v'->ZE h H2->Q v' H2)->sp [u] h Q E0)(hk:Paired (IT H) C us)(hf:∀ t∈C,t.fits 3=V')(i5:↑us<64)(c6:∀ (Q':jd->ak->Prop),(∀ (s1:ak) (c:jd),ZH X jV σ H s1->ZS us c->Q' c s1)->aB ↥X X.A.in1 (collect lv) Q' X.xe s)(q:∀ (D:aj) (ws:je) (rs:jm) (h:Hp),ZE H h->H D=Y'->h D\.lst ws->Paired (IT h) rs ws->rs.Perm C->rs.Pairwise (λa b=>b.lt a=false)->Q (!D) h):
  aB ↥X X.A (call 'P' [lv] [(wF "key",!f)]) (EP X jV σ Q) X.xe s:=by
 let i6:=Paired.length hk;let e2:ZX k X.A.in1.in1:=(ZX.in1 (k:=k+1) hr).in1;show call_function_entry_kw kind_sorted plain_sorted entry_sorted (ksk_s1 _ _) ?_;unfold Builtin.«sorted»;show aa (m:=checkCount "sorted" 1 1 _) (ae ?_);show aa (c6 _ λs c I rv=>?_);let i4:=↑rv;show aa (wpAny_newList ?_ (by rw[sizeLine_eq];lia))
 obtain⟨L,U⟩:∃ L,s.heap.push (seqObj "list" ⇑c 0)=L:=#[1];let N:L.get? ‹s›\seqObj "list" ⇑c 0:=by rwa[<-U,yI _ Z]
 let e3:∀ b o,s.heap.get? b\o->L.get? b\o:=λb o z=>by rwa[<-U,zD _ z]
 let i2:L.objs.size=‹s›+1:=by rw[<-U,size_push']
 obtain⟨D,eD⟩:∃ D,‹s›=D:=#[1];rw[eD] at N;let Y:‹s›<=D:=()
 let a0:H D=Y':=I.hok.fresh Y;let E:V9 X jV H D:=I.fpOk Y a0;let nD:D∉frs X.stack:=FP I Y;let e6:X.s₀.heap.get? D=Y':=sW (zJ I.sz Y);let I1:ZH X jV σ H { s with heap:=L }:=I.kept (t':=s.toks) e3;change aB _ _ _ _ _ { s with heap:=s.heap.push (seqObj "list" ⇑c 0) };rw[U,eD];show aa (ag (wpAny_call_entry_kw slot_list_sort #[_,N,Z] entry_list_sort ?body (ksk_l1 _ _)));rw[ksk_t1];unfold ksk_tree;show aa (listItems_at N Z ?_);show aa (listUpdate_at N Z ?_ (by rw[zF,sizeLine_eq];lia) (yY _))
 let e5:=xN.update L D (Obj.mapSeq λ_=>(⇑[]:js));obtain⟨e1,c0⟩:∃ e1,(L.update D (Obj.mapSeq λ_=>(⇑[]:js))).get? D\seqObj "list" ⇑[] e1:=#[_,get?_update_seq N λ_=>⇑[]];obtain⟨B,a5⟩:∃ B,L.update D (Obj.mapSeq λ_=>(⇑[]:js))=B:=#[1];rw[a5] at c0 e5;change aB _ _ _ _ _ { s with heap:=L.update D (Obj.mapSeq λ_=>(⇑[]:js)) };rw[a5];let I2:ZH X jV σ H { s with heap:=B }:=ZH.turned (s:={ s with heap:=L }) (t':=s.toks) (it:=D) I1 (λb o n z=>(e5.2 b n)|||z) E.1 E.2.1 E.2.2.2.1 E.2.2.2.2.1 E.2.2.2.2.2;show aa (seqEpoch_at c0 Z ?_);show aa (wpAny_newTuple ?_ (by change ↑c<=_;rw[sizeLine_eq];lia))
 show aa (wpAny_newList ?_ (yY _));show ag ?_;let i3:B.objs.size=‹s›+1:=by rw[<-a5,Heap.size_update,i2]
 obtain⟨h3,a6⟩:∃ h3,(B.push (seqObj "tuple" ⇑c 0)).push (seqObj "list" ⇑[] 0)=h3:=#[1];let a7:(B.push (seqObj "tuple" ⇑c 0)).objs.size=‹s›+2:=by rw[size_push',i3]
 let O:∀ b o,B.get? b\o->h3.get? b\o:=λb o z=>by rwa[<-a6,zD _ (zD _ z)]
 let c8:h3.get? (‹s›+2)\seqObj "list" (xP []) 0:=by rwa[<-a6,<-a7,yI _ Z]
 obtain⟨l,c4⟩:∃ l,‹s›+2=l:=#[1];rw[c4] at c8 a7;let a8:‹s›<=l:=()
 let c5:D≠l:=()
 let e8:H l=Y':=I.hok.fresh a8;let fS:V9 X jV H l:=I.fpOk a8 e8;let nS:l∉frs X.stack:=FP I a8;let I3:ZH X jV σ H { s with heap:=h3 }:=I2.kept (t':=s.toks) O;change aB _ _ (ksk_rest D (!f) false ⇑c e1 (.ref (B.push (seqObj "tuple" ⇑c 0)).objs.size)) _ _ { s with heap:=(B.push (seqObj "tuple" ⇑c 0)).push (seqObj "list" ⇑[] 0) };rw[a6,a7];let y:∀(h:Hp)(d:ak)(P:jd)(S:je)(e:Nat),ZH X jV σ h d->ZE H h->V9 X jV h l->h D=Y'->d.heap.get? D\seqObj "list" ⇑[] e1->d.heap.get? l\seqObj "list" ⇑P e->jO h (C.map g) S->ZS S P ->
   aB ↥X X.A.in1.in1 (ksk_end D false ⇑c e1 (!l) ⇑P) (λy d=>∃ v,y=.done (.ret v)/\aB ↥X X.A.in1 (ret !D) (λy d=>∃ v,y=.done (.ret v)/\EP X jV σ Q v d) X.xe d) X.xe d:=by
  intro h d P S e J sm fp M oo os a1 rk;let a2:↑P=↑c:=by
   let a:=↑a1;let b:=↑rk;rw[zW] at a
   lia
  let sv:XA g d.heap C P:=Cs J a1 rk;let a4:∀(st:jL)(p:jw),Srt.PB ↑c p->(∀ i j,i<=j->j<↑c->(C.getD 'Ń' (.int 0)).lt 'İ'=false)->(jK st).map (·.2)=xP (p.toList.map λi=>c.getD i Value.none)->failedOf st=Y' ->
    aB ↥X X.A.in1.in1 (ksk_tail D false e1 (!l) st) (λy d=>∃ v,y=.done (.ret v)/\aB ↥X X.A.in1 (ret !D) (λy d=>∃ v,y=.done (.ret v)/\EP X jV σ Q v d) X.xe d) X.xe d:=by
   intro st p hp hs c9 a9;let e0:=hp.size;let a3:∀ i∈p.toList,i<↑us:=λi hi=>by
    have:i∈(xP (yD ↑c)):=hp.mem_iff.mp (gI.mp hi);have:=(wL.mp #v[this]:i<↑c)
    lia
   let c1:↑p.toList=↑c:=by rw[uW,e0]
   let s1:=xN.update d.heap l (Obj.mapSeq λ_=>(⇑[]:js));let e7:D≠l:=()
   let c3:=(s1.2 D e7)|||oo;let s2:=xN.update (d.heap.update l (Obj.mapSeq λ_=>(⇑[]:js))) D (Obj.mapSeq λ_=>xP (p.toList.map λi=>c.getD i Value.none));obtain⟨c2,e9⟩:∃ c2,((d.heap.update l (Obj.mapSeq λ_=>(⇑[]:js))).update D (Obj.mapSeq λ_=>xP (p.toList.map λi=>c.getD i Value.none))).get? D\seqObj "list" (xP (p.toList.map λi=>c.getD i Value.none)) c2:=#[_,get?_update_seq c3 λ_=>xP (p.toList.map λi=>c.getD i Value.none)];unfold ksk_tail;dsimp only;rw[c9,aK zP];show aa (listUpdate_at os Z ?_ (by rw[zF,sizeLine_eq];lia) (yY _))
   show aa (wpAny_letGo ?_);show aa (seqEpoch_at c3 Z ?_);show aa (listUpdate_at c3 Z ?_ (yY _) (by rw[zF,zW,c1,sizeLine_eq];lia))
   rw[a9];simp only[bne_self_eq_false,wS,if_false];let J1:ZH X jV σ h { d with heap:=d.heap.update l (Obj.mapSeq λ_=>(⇑[]:js)) }:=J.turned (t':=d.toks) (it:=l) (λb o n z=>(s1.2 b n)|||z) fp.1 fp.2.1 fp.2.2.2.1 fp.2.2.2.2.1 fp.2.2.2.2.2;let J2:ZH X jV σ h { d with heap:=(d.heap.update l (Obj.mapSeq λ_=>(⇑[]:js))).update D (Obj.mapSeq λ_=>xP (p.toList.map λi=>c.getD i Value.none)) }:=ZH.turned (s:={ d with heap:=d.heap.update l (Obj.mapSeq λ_=>(⇑[]:js)) }) (t':=d.toks) (it:=D) J1 (λb o n z=>(s2.2 b n)|||z) M E.2.1 E.2.2.2.1 E.2.2.2.2.1 E.2.2.2.2.2;let J3:=yj (a:=D) (o:=.lst (p.toList.map λi=>us.getD i .non)) J2 e6 E.2.1 E.2.2.2.2.1 E.2.2.2.2.2 M #[by rw[zW,c1,sizeLine_eq];lia,_,c2,E4 rv _ a3,e9]
   let g:=Zv M (.lst (p.toList.map λi=>us.getD i .non));show ae #[.none,Z,ae #[1,!D,_,J3,Z,q D _ (p.toList.map λi=>C.getD i (.int 0)) _ (sm|||g) a0 Za (CC (Paired.mapP (G:=IT _) hk λ_ _ z=>hI _ _ _ _ (sm|||g) z) _ a3) ?_ ?_]]
   .let i0:p.toList.Perm (yD ↑c):=#v[Array.perm_iff_toList_perm.mp hp]
    have:=i0.map (λi=>C.getD i (KT.int 0));rw[show ↑c=↑C by lia,gW] at this
    show this
   .rw[qY];intro i j hi hj c7;rw[zW,c1] at hi hj;simp only[List.getElem_map];have:=hs i j (yE c7) hj;let e (x:Nat) (hx:x<↑c):p.getD x 0=p.toList[x]'():=by simp[Array.getD,e0,hx]
    rw[e i hi,e j hj] at this;show this
  unfold ksk_end;dsimp only;rw[aK zP,aK zP];by_cases B:↑c<2
  .rw[aM #v[zF,B],aM #v[zF,B]]
   show aa (ae (aa (ae ?_)));show a4 _ (xP (yD ↑c)) (Array.Perm.refl _) (λi j c7 hj=>?_) ?_ Z
   .have:i=j:=()
    rwa[this,UI _]
   .change ((P.toArray.zip ⇑c).map (·.2))=_;apply sF.mp;rw[Array.toList_map,ksk_zip];simp only[List.toList_toArray];rw[gW,List.map_snd_zip ()]
  .rw[aK #v[zF,B],aK #v[zF,B]]
   show aa (zg hg () sv ?_)
   show aa (Z7 (P' hg (Q:=λT e4=>e4=d/\∃ p:jw,Srt.PB ↑c p/\(∀ i j,i<=j->j<↑c->(C.getD 'Ń' (.int 0)).lt 'İ'=false)/\jK T=p.map (PySem.W.kas_item (P.toArray.zip ⇑c))/\failedOf T=Y')
    a2 () () sv (λt ht=>?_) λp T b1 b2 b3 b4=>#[Z,p,b1,b2,b3,b4]) λr e4 i1=>?_)
   .let a:=e2.un;let d1:=dg t;let d2:=Vo t 3 (hf t ht)
    lia
   .let#[⟨⟩,T]:=r;let#[rfl,p,b1,b2,b3,b4]:=i1;show a4 T p b1 b2 (PySem.W.kat_snds a2 b3) b4
 unfold ksk_rest;show aa (wpAny_rule ?_)
 first
  |rw[List.forIn_toArray]
  |(rw[<-rS];simp only[List.toList_toArray])
 show aa (Z7 (Eo (all:=C) (H0:=H) (D:=D) (kS:=l) hI hS F hb e2 Z nD nS c5 a0 (λx s4 R hx=>?_) c us C [] H { s with heap:=h3 } [] [] 0 Z () I3 'Ā' fS a0 rv hk (O _ _ c0) c8 .nil .nil) λ_ s4 h4=>?_)
 .show aa (wpAny_attempt (af hx (λkv s5 h5=>?_) λ_ _ z=>z.elim));let#[P,e,i7,o5,R5]:=h5
  try dsimp only
  show aa (listUpdate_at o5 Z ?_ (by rw[zF,sizeLine_eq];lia) (zJ (vI (Array.size_push ..)) (by rw[zF,sizeLine_eq];lia)))
  show ae #[Z,R5]
 .let#[h,P,S,e,J,sm,fp,M,oo,os,a1,rk]:=h4
  try dsimp only
  show aa (listItems_at os Z (y h s4 P S e J sm fp M oo os a1 rk))
theorem Fj:∀{a:jm}{b:je},jO H a b->(∀ t∈a,t.fits 3=V')->Paired (λt u=>ZD H t u/\t.fits 3=V') a b
 |[],b,h,_=>by rw[jO] at h;subst h;show .nil
 |t::a,b,h,hf=>by
  rw[jO] at h;let#[v,r,rfl,c,d]:=h;show .cons #[c,hf t zX] (Fj d λt e=>hf t (zS _ e))
theorem Gu{G:KT->Prop}:∀{a:jm}{b:je},Paired (λt u=>ZD H t u/\G t) a b->jO H a b
 |_,_,.nil=>.nil
 |_,_,.cons h r=>.cons h.1 (Gu r)
theorem kF(G:Kg g)(B:∀ t,(g t).depth<=2*t.depth+2)(L:ZX (k+2) X.A)(F:ZI X.prog X.w X.K X.mg X.base ZJ k f p [y] (Od g))(E:Zx X.K p [y] [])(z:'c')(I:jO H m n)(r:∀ t∈m,t.fits 3=V')(l:↑n<64)(d:∀ (o:jd->ak->Prop),(∀  x   e ,ZH X jV σ H x->ZS n e->o e x)->aB ↥X X.A.in1 (collect v) o X.xe s)(q:∀  D   j   i   c ,ZE H c->H D=Y'->c D\.lst j->jO c i j->i.Perm m->i.Pairwise (λa b=>b.lt a=false)->Q (!D) c):
  aB ↥X X.A (call 'P' [v] [(wF "key",!f)]) (EP X jV σ Q) X.xe s:=
 kW (IT:=λH t u=>ZD H t u/\t.fits 3=V') G B L F E z (λ_ _ _ _ P h=>#[h.1.sm P,h.2]) (λc u t Q _ h k=>#[u,t,Z,h.1,h.2,k]) (Fj I r) r l d λD j i c O M C J N R=>q D j i c O M C (Gu J) N R
end
section
variable{T:String}{r d:aj}{n:Nat}{P:Nat->ai->Prop}{OK:aD->Prop}
theorem pC{R:Result->ak->Prop}(K:tR prog w T r d n P OK)(l:A.handled=Y')(h:OK s.heap)(S:aj)(g:S≠r)(f:S≠d)(c:Nat)(k:s.heap.get? S\{ cls:=.type "list",data:=.seq ⇑[] c })(j:∀ e p a i,(∀ b o,b≠S->s.heap.get? b\o->e.get? b\o)->e.get? S\{ cls:=.type "list",dict:=Y',data:=.seq a i,slots:=⇑[] }->ItemsOf P a n->R (.ok (.ret !S)) { s with heap:=e,toks:=p })(m:n<=aq):
  codeAny ↥_ A (.builtin "list.__iadd__" #[[!S,!r],[]]) R s:=by
 show codeAny_builtin PySem.F.entry_list_iadd ?_;rwa[Around.under_plainId qI _,PySem.W.kdl_extend (R:=R) K l h S g f (!S) c k j m]
theorem C3{Q:jd->ak->Prop}(K:tR prog w T r d n P OK)(q:A.handled=Y')(j:OK s.heap)(u:n<=aq)(m:∀ f k a,(∀ b o,s.heap.get? b\o->f.get? b\o)->‹s›<f.objs.size->ItemsOf P a n->Q a.toList { s with heap:=f,toks:=k }):aB ↥_ A (collect !r) Q E s:=by
 let i:=K.there _ j;unfold collect;show aa (wpAny_runValue (codeAny_builtin PySem.F.entry_proto_collect ?_));rw[Around.under_plainId PySem.F.plain_proto_collect _];change aB _ A.in1 (newList []>>=λl=>again (.builtin "list.__iadd__" #[[l,!r],[]])) _ _ s;show aa (wpAny_newObj_type ?_);let p:(s.heap.push { cls:=.type "list",data:=.seq ⇑([]:jd) }).get? ‹s›\{ cls:=.type "list",data:=.seq ⇑[] 0 }:=yI _ Z;show ae #[plainId_quiet qI _,pC (s:={ s with heap:=s.heap.push { cls:=.type "list",data:=.seq ⇑([]:jd) } }) K q (K.keep _ _ j λb _ o e=>zD _ e) ‹s› (uF i.1) (uF i.2) _ p (λf k c v t g h=>?_) u];change aB _ A (load ‹s› >>= _) _ _ _;show aa (wpAny_load g ?_);show ae (m f k c (λb o e=>t b o (yK (zE e)) (zD _ e)) (zE g) h)
end
theorem nH:∀{c:List (ZY×V)}{g:jF}{d:jy},KV c g->c.map (·.1)=d.map gR->∀ b:jd,↑b=↑g->(∀(i:Nat) v ,b[i]?\v->∃(k:ZY)(x:ai),g[i]?\(k,x)/\NE k v=V')->IntsAre b d:=by
 intro c g d h e b l p;let f:=KV.keys h;rw[e] at f;clear e h
 induction g generalizing d b with
 |nil=>
  cases b with
  |nil=>
   cases d with
   |nil=>show .nil
   |cons _ _=>simp at f
  |cons _ _=>simp at l
 |cons q r y=>
  cases b with
  |nil=>simp at l
  |cons a b=>
   cases d with
   |nil=>simp at f
   |cons n d=>
    simp only[yX,uV.injEq] at f;let#[k,x,o,u]:=p 0 a Z;simp only[List.getElem?_cons_zero,yV.injEq] at o;subst o;let j:gR n=k:=f.1;subst j;obtain⟨i,t,m,s⟩|⟨i,t,m,s⟩:=Pd u
    .cases m;subst s;show .cons _ _ (y b #v[l] (λi v w=>#v[p (i+1) v (by simpa using w)]) f.2)
    .cases m
theorem kJ:∀{b:jd}{a:jy},IntsAre b a->ZS 'Ħ' b:=λh=>BU h
theorem nn'(h:n<64):n<=sizeLine:=yE (Yq ())
theorem nA:ay "sorted"=Z' 'P':=by decide +kernel
def UB(d:aj)(b:Array DictEntry)(a:Nat)(h:aD):=∃ o,h.get? d\o/\o.ExactDict/\o.data=.dict b a
section
variable{d:aj}{es:Array DictEntry}{ep:Nat}
theorem UB.type(x:'ő'):s.TypeIs (!d) "dict" :=let #[o,g,hx,_]:=x;#[o,g,hx.1]
theorem UB.at(x:UB d es ep h)(k:∀ o,h.get? d\o->a.get? d\o):UB d es ep a:=let #[o,g,r]:=x;#[o,k o g,r]
theorem pB{Q:ja}(f:(d==sysModules)=false)(x:'ő')(e:Q (.ref ‹s›) { s with heap:=s.heap.push { cls:=.type "dict_keyiterator",data:=.fields ⇑[!d,.int 0 0,.int es.size 0,.int ep 0] } }):
  aB ↥_ A (pyIter !d) Q E s:=by
 let b:=x.type;let#[o,c,g,a]:=x;show wpAny_pyIter_slot b qN (wpAny_call_entry qN b PySem.F.entry_dict_iter ?_ (PySem.F.args_dict_iter_1 _));unfold Builtin.«dict.__iter__»;show aa ?_;unfold Builtin.Dict.dictSlotNone;show aa (wpAny_notOrdered_dict b (ae ?_));change aB _ _ (Builtin.Dict.showsAll d>>=_) _ _ s;unfold Builtin.Dict.showsAll;rw[aK #v[f,zP]]
 show aa (ae (aa (wpAny_dictEntries c a (aa (wpAny_dictEpoch c a ?_)))));show aa (wpAny_newObj_type (ae #[_,Z,"dict_keyiterator",_,#[_,yI _ Z,Z],qW.lookup,e]))
theorem Ft{Q:jc->ak->Prop}(v:A.handled=Y')(c:s.heap.IsKeyIter f d i es.size ep)(x:'ő')(t:∀ e h,es[i]?\e->h.IsKeyIter f d (i+1) es.size ep->xN f s.heap h->Q (Z' e.key) { s with heap:=h })(r:∀ h,es[i]?=Y'->Heap.ExtBut f s.heap h->Q Y' { s with heap:=h }):aB ↥_ A (pyNext !f) Q E s:=by
 let#[o,p,u,j]:=id c;let#[z,l,y,k]:=x;unfold pyNext;show aa (wpAny_attempt (wpAny_callSpecial?_slot (name:=wF "__next__") c.typeIs qW (wpAny_call_entry qW c.typeIs PySem.F.entry_dict_keyiterator_next ?_ (PySem.F.args_dict_keyiterator_next_1 _))));show aa (ae (aa (aa ?_)))
 first|show aa (wpAny_typeNameOfWhole_keyiter c.typeIs (ae ?_))|show aa (wpAny_typeNameOf_keyiter c.typeIs (ae ?_))
 show aa (wpAny_fieldsOf p j ?_);let n:Builtin.Dict_items.ownsTuple "dict_keyiterator"=false:=by decide
 simp only[n,wS,if_false];change aB _ _ (if (Value.ref d==Value.none)=V' then _ else _) _ _ s
 rw[aK (show ¬ ((Value.ref d==Value.none)=V') from zP)];show aa (ae (aa (wpAny_dictEntries l k ?_)));rw[aK ⋯]
 show aa (ae (aa (wpAny_dictEpoch l k ?_)));rw[aK ⋯]
 show ae ?_;simp only[show ¬ ((i:Int)<0) from by lia,if_false,uL]
 cases q:es[i]? with
 |some e=>
  show aa ?_
  first|show aa (wpAny_typeNameOfWhole_keyiter c.typeIs (ae ?_))|show aa (wpAny_typeNameOf_keyiter c.typeIs (ae ?_))
  show aa (wpAny_isOneOf_keyiter c.typeIs ?_);change aB _ _ (setField (!f) 1 (rawInt ((i:Int)+1))>>=_) _ _ s;show aa (wpAny_setField p j ⋯ ?_)
  let g:(s.heap.update f (Obj.mapFields (·.setIfInBounds 1 (rawInt ((i:Int)+1))))).IsKeyIter f d (i+1) es.size ep:=
   #[_,vO _ p (Obj.isFreed_of_fields (Obj.data_mapFields j _)),(Obj.cls_mapFields ..)|||u,by rw[Obj.data_mapFields j];simp[rawInt]]
  show aa (ag (aa (wpAny_isOneOf_keyiter (s:={ s with heap:=s.heap.update f (Obj.mapFields (·.setIfInBounds 1 (rawInt ((i:Int)+1)))) }) g.typeIs ?_)));change aB _ _ (pure e.key) _ _ _;show ae (ae #[1,ae (t e _ q g (xN.update ..))])
 |none=>
  show aa ?_
  first|show aa (wpAny_typeNameOfWhole_keyiter c.typeIs (ae ?_))|show aa (wpAny_typeNameOf_keyiter c.typeIs (ae ?_))
  change aB _ _ (setField (!f) 0 .none>>=_) _ _ s;show aa (wpAny_setField p j ⋯ ?_)
  change aB _ _ (newExc (.type "StopIteration") []>>=_) _ _ _;show aa ?_;simp only[newExc,newTuple];show aa (wpAny_newObj_type ?_ (by size_fits))
  show aa (m:=firstArgMember _ _) (wpAny_of_eq (a:=Value.none) (by first|rfl|(simp only[firstArgMember];rfl)) (wpAny_newObj_type ?_ (by size_fits)))
  simp only[raiseNew];show aa (wpAny_handled ?_);rw[show A.in1.handled=Y' from v];show aa (ae (wpAny_throw ?_));show aa (wpAny_isInstance (T:= "StopIteration") (b:=true) #[_,yI _ Z,Z] isSubtype_stop ?_);show ae (r _ q (((xN.update ..).extBut.push _).push _))
theorem oH(m:A.handled=Y')(I)(l:d≠I):Walks prog w A I [I,d] [I] es.size (λi v=>(es[i]?).map (·.key)\v) (λi h=>h.IsKeyIter I d i es.size ep/\UB d es ep h) where
 sub:=λb f=>by simp at f;simp[f]
 frame:=λ_ _ _ a n=>#[a.1.at λo e=>n I ⋯ o e,a.2.at λo e=>n d ⋯ o e]
 item:=λi s Q E r a j=>by
  show Ft m a.1 a.2 (λe g c k p=>?_) (λg c=>by erw[wZ r] at c)
  show j e.key g s.toks (by rw[c];rfl) #[k,a.2.at λo z=>(p.2 d l)|||z] λb o f e=>(p.2 b (λh=>f (by simp[h])))|||e
 done:=λs Q E a j=>by
  show Ft m a.1 a.2 (λe g c=>by erw[Array.getElem?_eq_none (zY _)] at c) (λg _ q=>?_)
  show j g s.toks λb o f e=>q b o (λh=>f (by simp[h])) e
 self:=λ_ _ _ _ a j=>wpAny_pyIter_keyiter a.1 j
theorem FR(f:(d==sysModules)=false):tR prog w "dict" d d es.size (λi v=>(es[i]?).map (·.key)\v) (UB d es ep) where
 type:=λ_ x=>x.type
 there:=λ_ x=>by let#[o,g,_]:=x;show#[zE g,zE g]
 keep:=λ_ _ x c=>x.at λo e=>c d (.inl Z) o e
 notList:=by decide
 notTuple:=by decide
 hint:=λ_ _ _ _ x a=>PySem.W.kdl_hint_dict x.type a
 iter:=λ_ s b x=>#[_,_,(λ_ _ a=>pB f x a),oH b _ (by let#[o,g,_]:=x;show yK (zE g)),#[#[_,yI _ Z,Z,Z],x.at λo e=>zD _ e]]
end
section
variable{jV:jo}{σ:_T.St}{H:Hp}
theorem Cl{d:Array DictEntry}{c:js}(r:Paired (N8 w) k d.toList)(h:ItemsOf (λi v=>(d[i]?).map (·.key)\v) c d.size):ZS (k.map (·.2.1)) c.toList:=by
 let p:=Paired.length r;let o:↑c.toList=d.size:=by have:=h.1;simpa using this
 show Ik (by rw[zW,o,p];simp) λi a b g j=>?_
 rw[zK] at g;let#[z,n,rfl]:=xU.mp g;rw[wH] at j;have:=h.2 i b j;let#[e,m,rfl]:=xU.mp this;let#[q,f,l]:=NU r #v[wH,m]
 erw[n] at f;show l.2.1
theorem nG{Q:jd->ak->Prop}(n:A.handled=Y')(I:'c')(x:YY X.w H d i)(l:∀  h   c ,ZH X jV σ H h->ZS (i.map (·.2.1)) c->Q c h):aB ↥X A (collect !d) Q E s:=by
 let#[u,k,g]:=x.ex;let#[#[b,f,o,j,p,q,m],_]:=I.hok d _ k;show C3 (FR (ep:=j) b) n #[o,p,q,m] f λv t e r _ a=>?_;show l _ e.toList (I.kept (t':=t) r) (Cl g a)
end
theorem lY:ay "sorted"=Z' 'P':=by decide +kernel
def RM:TE:=λ_ H Q=>∀(p:aj)(a:Hp),H p=Y'->ZG p H a->ZE H a->YY X.w a p []->Q (!p) a
theorem Eu:PE X (.Dict [] [] pos) (RM (X:=X)):=λd s g H Q I h=>by
 let c:=I.hok.fresh (zY ‹s›);show wpAny_Dict_empty #[.ref ‹s›,_,I.laid (a:=‹s›) (o:=Ny ‹s› ⇑[]) (t':=s.toks) (λ_ _ q=>zD _ q) (zY _) (Gm (beq_eq_false_iff_ne.mpr (Ne.symm (yK I.big))) (yY _) #[_,(0),yI _ Z,#[Z,Z,Z],Z]),Z,?_];show h _ _ c (λb o e n=>#v[ZU n,e]) (Zv c _) #[#[⇑[],Za,.nil],λz f=>by simp at f,.nil]
inductive NR(w:aw)(D:YK)(e:_T.St)(v x y:V)(b:Hp):Prop
 |mk(a:aj)(d:List (KT×V×V))(t:KT)(_:x=!a)(_:YY w b a d)(_:↑d<1000)(_:ZD b t y)(_:t.depth<=3)(_:∀ c,ZG a b c->YY w c a (PH d t y v)->D.nx e c)
def Rr(w:aw)(e g f:TE):TS:=λD a H=>f a H λv b=>e a b λx c=>g a c λy d=>NR w D a v x y d
theorem Fm(L:X.A.units+4<cLine)(J:PE X o j)(G:PE X i l)(M:PE X b k)(K:swapsWith b (Z' (.Subscript o i d)) pos.line X.env=pure false):
  PS X (.Assign [.Subscript o i d] b pos) (Rr X.w j l k):=by
 intro c s e H D I h;show wpAny_Assign_Subscript (YG (M c s e H _ I h) λr V v m p S P=>YG (J c V e m _ p P) λu W x n q T Q=>Z7 (G c W e n _ q Q) λiv s3 ⟨y,H3,z,U,a,xs,t,F,C,O,N,E,R⟩=>?_) K;subst F;obtain rfl:u=Value.ref a:=T;show RN L z C O N E U S λs4 g B Y f=>#[e,g,B,R g Y f]
def RI(g:jm)(e:Hp)(Q:VK):=∀(D:aj)(f:je)(d:jm)(c:Hp),ZE e c->e D=Y'->c D\.lst f->jO c d f->d.Perm g->d.Pairwise (λa b=>b.lt a=false)->Q (!D) c
inductive Og(w:aw)(Q:VK)(c:je)(b:Hp):Prop
 |mk(d:aj)(a:List (KT×V×V))(_:c=[!d])(_:YY w b d a)(_:∀ x∈a,x.1.fits 3=V')(_:↑a<64)(_:RI (a.map (·.1)) b Q)
def xx(w:aw)(t:TA):TE:=λc H Q=>t c H λb a=>Og w Q b a
theorem Gx(hg:Kg g)(T:∀ t,(g t).depth<=2*t.depth+2){p pos N D:Pos}(R:ZA X.prog X.w X.K X.mg X.base k x [x0] (Od g))(M:ZX (k+2) X.A)(y:Gl X "sorted")(hm:X.mg "sorted"=Y')(B:Gl X x)(Y:PA X [e] t)(o:(x==("__debug__":Str))=false:=by decide)(he:aF pos (ar [e] X.env)=(false,aG e X.env)::aF pos (ar [] X.env):=by rfl)(a:(aF pos (ar [e] X.env)).any (·.1)=false:=by rfl):
  PE X (.Call (.Name "sorted" p) [e] [#[Z' (wF "key"),.Name x D,N]] pos) (xx X.w t):=by
 intro c s P H Q I h;let#[f,fd,F,b,a0,m]:=R.ex;show ah (Nc I y hm lY (callWith_kw (Z7 (Y pos c s P H _ I h) λus s1 ⟨vs,G,S,r,d,j,U,n,L,i,q⟩=>?_) he a));let pk:PK X [#[Z' (wF "key"),.Name x D,N]] (Vw (tC !f) PM):=xh (Xp (v:=!f) (pos:=D) B m Z o) wg;show Z7 (pk pos c s1 P G (λO l=>O=[!f]/\l=G) S #[Z,Z]) ?_;rintro O s2 ⟨zv,l,J,rz,W,V⟩;subst U W V;let#[u,rfl,ru]:=Qy r;let#[u2,rfl,E]:=Qy rz;cases ru;cases E;let ka:jO l (j.map (·.1)) (j.map (·.2.1)):=by
  have:=n.key;clear q i L n
  induction j with
  |nil=>show .nil
  |cons z j ih=>show .cons (this z (zX ..)).1 (ih λz C=>this z (zS _ C))
 show kF hg T M F b J ka (λt ht=>by let#[z,C,rfl]:=zQ.mp ht;show L z C) #v[zW,i] (λQ' hq=>nG M.hd J n hq) q
section
variable{jV:jo}{σ:St}{H:Hp}
end
def QO:jf->jc->Prop
 |some v,Z' r=>ZT v r
 |none,Y'=>True
 |_,_=>False
mutual
theorem ZL.keep{h h':aD}(k:∀ b o,h.get? b\o->h'.get? b\o):∀(t:KT)(v:ai),ZL h t v->ZL h' t v
 |.int i,v,x=>by rw[ZL] at x⊢;show x
 |.str i,v,x=>by rw[ZL] at x⊢;show x
 |.tup l,v,x=>by
  rw[ZL] at x⊢;let#[a,its,e,#[o,g,r],e2]:=x;show#[a,its,e,#[o,k _ _ g,r],jP.keep k l its e2]
theorem jP.keep{h h':aD}(k:∀ b o,h.get? b\o->h'.get? b\o):∀(l:jm)(vs:jd),jP h l vs->jP h' l vs
 |[],vs,x=>by rw[jP] at x⊢;show x
 |t::l,vs,x=>by
  rw[jP] at x⊢;let#[v,r,e,e1,e2]:=x;show#[v,r,e,ZL.keep k t v e1,jP.keep k l r e2]
end
section
variable{jV:jo}{σ:_T.St}{H:Hp}
theorem FH(I:'c')(x:YY X.w H d j):(d==sysModules)=false/\s.TypeIs (!d) "dict" /\ ∀ b,Value.ref d=.ref b->∃ f,s.heap.get? b\f/\f.dict=Y':=by
 let#[l,g,i]:=x.ex;let#[#[a,h,o,k,c,e,m],_]:=I.hok d _ g;exists a,#[o,c,e.1];intro b q;cases q;show#[o,c,e.2.1]
theorem mJ{Q:jc->ak->Prop}(O:A.units+4<cLine)(I:'c')(x:YY X.w H d q)(m:ZD H t y)(v:t.depth<=3)(p:ZT y u)(h:∀ f r,ZH X jV σ H f->(∀ b n,s.heap.get? b\n->f.heap.get? b\n)->QO (OQ q t) r->Q r f):aB ↥X A (dictGet d u) Q E s:=by
 let#[N,G,c]:=x.ex;let#[#[l,K,o,M,k,P,i],_]:=I.hok d _ G;unfold dictGet
 try with_reducible show ag ?_
 show aa (IZ t.depth t (zY _) (VY I t y u m p) () λg L=>?_)
 let a:ZH X jV σ H { s with toks:=g }:=I.tok g;show aa (FM (A:=A) a x c k i m v p () (λJ=>?_) λj z e B C D F=>?_)
 .show ae (h _ Y' a (λ_ _ e=>e) ?_);rw[nV J];trivial
 .show aa (wpAny_dictEntries (s:={ s with toks:=g }) k i ?_);rw[D];show ae (h _ (Z' e.val) a (λ_ _ e=>e) ?_);rwa[<-C,Gj x.nd B,F.2.2]
theorem mS{Q:ja}(n:A.units+5<cLine)(I:'c')(x:YY X.w H d g)(l:ZD H t y)(j:t.depth<=3)(m:ZT y u)(k:OQ g t\v)(h:∀ f a,ZH X jV σ H a->ZT v f->Q f a):aB ↥X A (getItem (!d) u) Q E s:=by
 let#[e,b,_]:=FH I x;unfold getItem
 try with_reducible show ag ?_
 show aa (wpAny_sequenceKey b 'b' ?_)
 show aa (wpAny_callSpecial?_slot (name:=wF "__getitem__") b slot_dict_getitem (wpAny_call_entry slot_dict_getitem b entry_dict_getitem ?_ (args_dict_getitem _ _)));change aB _ _ (dictGet d u>>=_) _ _ s;show aa (mJ (by change A.units+1+4<_;lia) I x l j m λa r i _ c=>?_)
 rw[k] at c
 cases r with
 |none=>show c.elim
 |some r=>show ae #[r,Z,ae (h r a i c)]
end
section
variable{o i e f:Expr}{pos jh jg:Pos}{td ty tx:TE}
inductive NK(w:aw)(Q:VK)(x y:V)(b:Hp):Prop
 |mk(a:aj)(c:List (KT×V×V))(t:KT)(v:V)(_:x=!a)(_:YY w b a c)(_:ZD b t y)(_:t.depth<=3)(_:OQ c t\v)(_:Q v b)
def GS(w:aw)(td ty:TE):TE:=λa H Q=>td a H λx b=>ty a b λy c=>NK w Q x y c
theorem rg(C:X.A.units+5<cLine)(z:PE X o td)(r:PE X i ty)(B:KL i):PE X '4' (GS X.w td ty):=by
 intro b s j H Q I h;show Gz pZ.lookup B (YG (z b s j H _ I h) λu M x k m K G=>Z7 (r b M j k _ m G) ?_);rintro N O ⟨y,l,d,L,a,S,t,v,q,g,E,p,D,J⟩;subst q;obtain rfl:u=Value.ref a:=K;show#[(FH d g).2.1,mS C d g E p L D λR P n c=>#[v,l,n,c,J]]
inductive NQ(w:aw)(c:je)(H:Hp)(Q:VK):Prop
 |mk(a:aj)(b:List (KT×V×V))(_:c=[!a])(_:YY w H a b)(_:↑b<=900)(_:∀ p,H p=Y'->Q (!p) (upd H p (.lst (b.map (·.2.1)))))
theorem lE(v:X.calm=V'):QL X 'í' (NQ X.w):=by
 intro m s L H K J Q I r h;let#[a,E,rfl,n,l,q]:=h;let#[u,rfl,C]:=Qy r;cases C;let#[F,t,k]:=n.ex;let#[#[d,j,o,p,z,A,x],_]:=I.hok a _ t;show PySem.W.kdl_call (FR (ep:=p) d) (I.ok.hd v) #[o,z,A,x] j λG D g c B y b=>?_;show#[.ref ‹s›,_,I.laid (a:=‹s›) (o:=.lst (E.map (·.2.1))) (t':=D) B (zY _) #[#v[zW,yE (Yq ())],g.toList,c,Cl k b,#v[gJ,y]],Z,q _ (I.hok.fresh (zY _))]
end
theorem Paired.ixR{i:Nat}(h:Paired F l m)(e:m[i]?\u):∃ r,l[i]?\r/\F r u:=NU h e
section
variable{jV:jo}{σ:_T.St}{H:Hp}{s0:ak}
end
def Rh(N:aj->Prop)(H:Hp)(n:String)(v:V):Prop:=
 (n="bool" /\ ∃ b,v=.bl b)\/(n="NoneType"/\v=.non)\/(n="list" /\ ∃ a d,v=.ref a/\H a\.lst d/\¬ N a)\/(n="dict" /\ ∃ a c,v=.ref a/\H a\.dK c/\¬ N a)
mutual
def XT(N:aj->Prop)(H:Hp):TG->V->Prop
 |.int i,v=>v=.int i
 |.str x,v=>v=.str x
 |.tup l,v=>∃ a vs,v=.ref a/\H a\.tup vs/\jS N H l vs
 |.odd n,v=>Rh N H n v
def jS(N:aj->Prop)(H:Hp):List TG->je->Prop
 |[],vs=>vs=[]
 |t::l,vs=>∃ v r,vs=v::r/\XT N H t v/\jS N H l r
end
structure Ov(N:aj->Prop)(H H':Hp):Prop where
 tup:Z1 H H'
 rest:∀ b o,H b\o->¬ N b->H' b\o
mutual
theorem XT.mono{N:aj->Prop}{H H':Hp}(m:Ov N H H'):∀(t:TG)(v:V),XT N H t v->XT N H' t v
 |.int _,_,h=>by rw[XT] at h⊢;show h
 |.str _,_,h=>by rw[XT] at h⊢;show h
 |.tup l,_,h=>by
  rw[XT] at h⊢;let#[a,vs,e,h1,h2]:=h;show#[a,vs,e,m.tup a vs h1,jS.mono m l vs h2]
 |.odd n,_,h=>by
  rw[XT] at h⊢;rcases h with h|h|⟨e,a,xs,e1,e2,e3⟩|⟨e,a,xs,e1,e2,e3⟩
  .show .inl h
  .show .inr (.inl h)
  .show .inr (.inr (.inl #[e,a,xs,e1,m.rest _ _ e2 e3,e3]))
  .show .inr (.inr (.inr #[e,a,xs,e1,m.rest _ _ e2 e3,e3]))
theorem jS.mono{N:aj->Prop}{H H':Hp}(m:Ov N H H'):∀(l:List TG)(vs:je),jS N H l vs->jS N H' l vs
 |[],_,h=>by rw[jS] at h⊢;show h
 |t::l,_,h=>by
  rw[jS] at h⊢;let#[v,r,e,h1,h2]:=h;show#[v,r,e,XT.mono m t v h1,jS.mono m l r h2]
end
mutual
theorem XT.less{N N':aj->Prop}{H:Hp}(m:∀ b,N' b->N b):∀(t:TG)(v:V),XT N H t v->XT N' H t v
 |.int _,_,h=>by rw[XT] at h⊢;show h
 |.str _,_,h=>by rw[XT] at h⊢;show h
 |.tup l,_,h=>by
  rw[XT] at h⊢;let#[a,vs,e,h1,h2]:=h;show#[a,vs,e,h1,jS.less m l vs h2]
 |.odd n,_,h=>by
  rw[XT] at h⊢;rcases h with h|h|⟨e,a,xs,e1,e2,e3⟩|⟨e,a,xs,e1,e2,e3⟩
  .show .inl h
  .show .inr (.inl h)
  .show .inr (.inr (.inl #[e,a,xs,e1,e2,λz=>e3 (m a z)]))
  .show .inr (.inr (.inr #[e,a,xs,e1,e2,λz=>e3 (m a z)]))
theorem jS.less{N N':aj->Prop}{H:Hp}(m:∀ b,N' b->N b):∀(l:List TG)(vs:je),jS N H l vs->jS N' H l vs
 |[],_,h=>by rw[jS] at h⊢;show h
 |t::l,_,h=>by
  rw[jS] at h⊢;let#[v,r,e,h1,h2]:=h;show#[v,r,e,XT.less m t v h1,jS.less m l r h2]
end
abbrev RF(a:aj)(o:aH):HO:=.ext λh=>h.get? a\o
section
variable{H H2:Hp}{h h':aD}{cs fs ex:jz}
end
inductive NS(o:aH)(q:Str):Prop
 |mk(a t:_)(_:o.data=.fields a)(_:a[1]?\.str q t)
def Ri(H:Hp)(q:Str)(d:js):Prop:=TriplesOk d.toList/\∀ pos c,PySem.codeAmong pos d.toList\c->∃ a b,c=.ref a/\H a\RF a b/\NS b q
inductive hV(H:Hp)(P:aj)(q:Str):Prop
 |mk(a:_)(_:H P\.tbl a)(_:Ri H q a)
section
variable{cs:jz}{HL Hc H' H3:Hp}
end
theorem Dv{E:XK}:
  PassesOwn (aA (Wk g P w K h d N c a f e A b s H E).prog (Wk g P w K h d N c a f e A b s H E).w) (Wk g P w K h d N c a f e A b s H E).A (Wk g P w K h d N c a f e A b s H E).env (Wk g P w K h d N c a f e A b s H E).xe:=by
 change PassesOwn (aA P w) (A.deeper (envOfC c a ‹s› f e)) (envOfC c a ‹s› f e) _
 passes_own
def Oz:Expr->Bool
 |.Starred _ _=>false
 |_=>true
theorem QA{b:jv}(h:Oz e=V'):ar (e::b) a=(false,aG e a)::ar b a:=by
 cases e<;>first|rfl|cases h
theorem j9(c:PE X e b)(d:PA X a t)(h:Oz e=V':=by rfl):PA X (e::a) (Vw b t):=Zi c d (QA h)
theorem ZQ(b:PE X e a)(h:Oz e=V':=by rfl):PA X [e] (Vw a PM):=Zi b Zt (QA h)
theorem Zu(f:PE X e b)(g:PE X d a)(h:Oz e=V':=by rfl)(c:Oz d=V':=by rfl):PA X [e,d] (Vw b (Vw a PM)):=Zi f (ZQ g c) (QA h)
theorem Wf{d e f:TE}(g:PE X a d)(i:PE X b e)(j:PE X c f)(h:[a,b,c].all Oz=V':=by rfl):PA X [a,b,c] (Vw d (Vw e (Vw f PM))):=
 (Zi g (Zi i (Zi j Zt (QA (yM.mp h c ⋯))) (QA (yM.mp h b ⋯))) (QA (yM.mp h a ⋯)))
theorem Uv{e f g i:TE}(j:PE X a e)(k:PE X b f)(l:PE X c g)(m:PE X d i)(h:[a,b,c,d].all Oz=V':=by rfl):PA X [a,b,c,d] (Vw e (Vw f (Vw g (Vw i PM)))):=
 (Zi j (Zi k (Zi l (Zi m Zt (QA (yM.mp h d ⋯))) (QA (yM.mp h c ⋯))) (QA (yM.mp h b ⋯))) (QA (yM.mp h a ⋯)))
theorem Sw{a b c d e f:Expr}(n:PE X a g)(o:PE X b i)(p:PE X c j)(q:PE X d k)(r:PE X e l)(s:PE X f m)(h:[a,b,c,d,e,f].all Oz=V':=by rfl):PA X [a,b,c,d,e,f] (Vw g (Vw i (Vw j (Vw k (Vw l (Vw m PM)))))):=
 (Zi n (Zi o (Zi p (Zi q (Zi r (Zi s Zt (QA (yM.mp h f ⋯))) (QA (yM.mp h e ⋯))) (QA (yM.mp h d ⋯))) (QA (yM.mp h c ⋯))) (QA (yM.mp h b ⋯))) (QA (yM.mp h a ⋯)))
def UH(g:js->Prop)(x C:aj)(b:ju)(h:aD):=∃ o a,h.get? x\o/\o.cls=.ref C/\o.data=.fields a/\o.dict=b/\g a
def OV:js->Prop:=λa=>a[1]?\.none/\a[2]?\.none
def RU:js->Prop:=λ_=>True
noncomputable def XO(g:js->Prop)(x C:aj)(a:ju):HO:=.ext (UH g x C a)
theorem UH.is(e:UH g x C c h):PZ x C h:=let #[o,_,a,b,_]:=e;#[o,a,b]
theorem Cr(e:UH g x C j h):Zk P w H h x (XO g x C j):=by
 let#[o,s,a,b,c,d]:=id e;show#[e,#[o,a],λq r ⟨i,f,l,m,n,p⟩ k=>#[i,f,k i l,m,n,p]]
abbrev M9:jd:=[.type "ValueError",.type "Exception",.type "BaseException",.type "object"]
def JB:jd->Bool
 |.ref _::r=>JB r
 |l=>l==M9
theorem Fn(a:ai):∀{l:jd},JB l=V'->PySem.refuseLoop a "__setattr__" l=pure .unit
 |.ref c::r,e=>(refuseLoop_ref _ _ _ _)|||Fn a (l:=r) e
 |.type n::r,e=>#v[show (Value.type n::r)=M9 from beq_iff_eq.mp e,qF.passes a]
 |[],e=>by cases e
 |.none::r,e|.bool _::r,e|.int _ _::r,e|.str _ _::r,e|.bytes _ _::r,e|.float _ _::r,e|.builtin _::r,e=>by cases(beq_iff_eq.mp e)
def Ev(K:zZ)(C:aj):Bool:=(PySem.W.clsIn K C).any λa=>JB a.mro
def EK:ai->Bool
 |.type t=>t=="type"
 |_=>false
theorem xj(h:EK v=V'):v=.type "type" :=by
 cases v with
 |type t=>show congrArg Value.type 'Ů'
 |_=>cases h
def Ge:Data->Option ClassData
 |.cls c=>Z' c
 |_=>Y'
theorem qq(h:Ge d\c):d=.cls c:=by
 cases d with
 |cls c=>cases h;rfl
 |_=>cases h
def CJ:jc->Bool
 |some (.builtin m)=>m=="ValueError.__new__"
 |_=>false
theorem xq(h:CJ v=V'):v\.builtin "ValueError.__new__":=by
 cases v with
 |none=>cases h
 |some v=>
  cases v with
  |builtin m=>show congrArg (Z' <| Value.builtin ·) 'Ů'
  |_=>cases h
def Cb(C:aj):jd->Bool
 |.ref D::_=>D==C
 |_=>false
theorem yy(h:Cb C l=V'):l=.ref C::l.tail:=by
 cases l with
 |nil=>cases h
 |cons v r=>
  cases v with
  |ref D=>show congrArg (Value.ref ·::r) 'Ů'
  |_=>cases h
theorem MM{b:Type}{l:List b}(h:↑l=n+1):∃ a m,l=a::m:=by
 cases l with
 |nil=>cases h
 |cons a m=>show#[a,m,Z]
theorem G'{l:List (jc)}(h:↑l=6):∃ a b c d e f,l=[a,b,c,d,e,f]:=by
 let#[a,l,rfl]:=MM h;let#[b,l,rfl]:=MM (xR.inj h);let#[c,l,rfl]:=MM (xR.inj (xR.inj h));let#[d,l,rfl]:=MM '`';let#[e,l,rfl]:=MM (xR.inj '`');let#[f,l,rfl]:=MM (xR.inj (xR.inj '`'))
 cases l with
 |nil=>show#[a,b,c,d,e,f,Z]
 |cons _ _=>cases h
theorem EH{b:Type}{p:b->Bool}{o:Option b}(h:o.any p=V'):∃ a,o\a/\p a=V':=by
 cases o with
 |none=>cases h
 |some a=>show#[a,Z,h]
def FN(K:zZ)(C:aj)(f:ClassData->Bool):Bool:=(K.lookup C).any λo=>EK o.cls&&(↑o.slots.toList==6&&(CJ (o.slots.toList.getD 4 Y')&&(Ge o.data).any λc=>Cb C c.mro&&(PySem.W.tailIn K M9 c.mro.tail&&(not c.hasDel&&f c))))
inductive O4(K:zZ)(C:aj)(f:ClassData->Bool):Prop
 |mk(h e i j g k b d a l m n o p q:_)(c:jd):K.lookup C\excClassObj h j C i e c g k b d a l m n o p q "ValueError.__new__"->PySem.W.tailIn K M9 c=V'->f ⟨h,e,.ref C::c,i,j,g,k,b,d,a,false⟩=V'->O4 K C f
theorem AS{f:ClassData->Bool}(h:FN K C f=V'):O4 K C f:=by
 let#[#[H,l,I,#[J]],e,h]:=EH h;rw[zI,zI,zI] at h;let#[n,o,p,q]:=h;let#[#[B,k,g,D,E,t,F,i,j,b,c],m,h]:=EH q;rw[zI,zI,zI] at h;let#[a,d,r,s]:=h;cases xj n;cases qq m;let#[u,w,x,y,z,A,rfl]:=G' (eq_of_beq o);cases xq (v:=z) p;let a:=yy a;dsimp only at a d;generalize g.tail=G at a d;subst a
 cases c with
 |true=>cases r
 |false=>show#[B,k,D,E,t,F,i,j,b,l,u,w,x,y,A,G,e,d,s]
def Dy(K:zZ)(C:aj):Bool:=FN K C λ_=>true
structure QJ(K:zZ)(C fI:aj)(f:Str):Prop where
 exc:My K C
 made:Dy K C=V'
 init:zB K (!C) "__init__"=Z' (Z' !fI)
 fn:wM K (!fI)=V'
 kp:xX K (!C)=V'
 sa:zB K (!C) "__setattr__"=Z' 'i'
 no:zB K (!C) f\Y'
 hd:vX K C=V'
 over:Ev K C=V'
section
variable{g:js->Prop}{jV:jo}{σ:St}{H:Hp}{a C fI:aj}{f:Str}{v:V}
theorem mh(I:'c')(e:H a\XO g a C Y')(c:QJ X.K C fI f)(ry:ZT y u)(h:∀ L s',H L=Y'->L≠a->ZH X jV σ (upd (upd H L (.xd [(f,y)])) a (XO g a C (Z' L))) s'->Q .unit s'):aB ↥X A (setAttr (!a) f u) Q E s:=by
 let#[o,vs,N,d,i,x,a0]:=(I.hok a _ e).1;let#[oc,od,a7,k]:=o;dsimp only at d i x;subst d i x;let J:PySem.W.InstAt s.heap a #[!C,Y',.fields vs,k] C Y':=#[N,Z,Z,True.intro];show PySem.W.set_plain I.kIn J c.sa ?_;let l:=qF;let#[cd,S,ho]:=rV c.over;let a3:wW ↥X s.heap (isInstance (!a) (.type "object")) true:=J.type.andThen (sU I.kIn c.exc.mO);show codeAny_call_builtin l.slot.plain l.entry (@PySem.W.check_slot ↥X _ _ { s with toks:=s.toks+1 } "object.__setattr__" "object" "__setattr__" (!a) [.str f s.toks,u] [] _ l.kind l.split a3 (l.args (!a) (.str f s.toks) u) ?_);let hm:wW ↥X s.heap (mroOf !C) cd.mro:=(qV I.kIn S).andThen .now;rw[PySem.W.osa_eq,PySem.refuse_eq];show aa (aa (wW.here (s:={ s with toks:=s.toks+1 }) J.type (aa (wW.here (s:={ s with toks:=s.toks+1 }) hm ?_))));rw[Fn _ ho];show ae (aa (wW.here (s:={ s with toks:=s.toks+1 }) J.type (aa (wW.here (s:={ s with toks:=s.toks+1 }) (rF I.kIn c.no) (aa (ae ?_))))));let#[a4,t,T]:=rV c.hd;show aa (ae (aa (aa (wpAny_loadPart N (aa (wW.here (s:={ s with toks:=s.toks+1 }) (qV I.kIn t) ?_))))));rw[T];dsimp only;let i:a≠‹s›:=yK (zE N);let p:H ‹s›=Y':=I.hok.fresh (zY _);rw[aK ⋯,aK (by simp[typeHasDict])]
 let D:=zD { cls:=.type "dict",data:=.dict ⇑[] } N;show aa (wpAny_alloc' (aa (wpAny_update' D (ae ?_))));generalize O:((s.heap.push { cls:=.type "dict",data:=.dict ⇑[] }).update a λo=>{ cls:=o.cls,dict:=Z' ‹s›,data:=o.data,slots:=o.slots })=M;let ga:M.get? a\#[!C,Z' ‹s›,.fields vs,k]:=by
  rwa[<-O,vO _ D Z]
 let gd:M.get? ‹s›\{ cls:=.type "dict",data:=.dict ⇑[] }:=by
  rwa[<-O,(Heap.get?_update_ne _ _ _ _ i.symm)|||Heap.get?_push_at Z Z]
 let go:∀ b o,b≠a->s.heap.get? b\o->M.get? b\o:=λb o n q=>by
  rwa[<-O,(Heap.get?_update_ne _ _ _ _ n)|||zD _ q]
 let a1:M.Ns ‹s› (λ_=>Y'):=#[_,⇑[],_,gd,Z,λe he=>gS he ⋯,λ_=>rfl]
 change aB _ _ (Builtin.ObjectAttr.storeInDict ‹s› (.str f s.toks) f u) _ _ _;unfold Builtin.ObjectAttr.storeInDict Builtin.ObjectAttr.newKeyGuard;show aa (ae (aa (wpAny_nsSet1 (Heap.Ns1.of_empty a1) λP B hs=>?_)));let#[oD,a6,a5,a2,U,R]:=B.count (Within.cons f u Within.nil);show aa (wpAny_lookBehind a2 #v[U,pastItsLine_dict (zJ R (by rw[zN,sQ,sizeLine_eq];lia))] ?_)
 let m:P.get? a\#[!C,Z' ‹s›,.fields vs,k]:=(hs.2 a i)|||ga;let j:∀ b o,b≠a->s.heap.get? b\o->P.get? b\o:=λb o n q=>(hs.2 b (yK (zE q)))|||go b o n q;let G:∀{b:aj}{o:HO},H b\o->b≠‹s›:=fun{b o} q z=>by erw[z,p] at q
 let na:∀{b:aj},H b=Y'->b≠a:=fun{b} q z=>by erw[z,e] at q
 show ae (h ‹s› _ p i.symm (I.call' (s':={ s with heap:=P,toks:=_ }) (ch:=[]) Z #[λb o q n _ _=>j b o (na n) q,λb o q n _ _=>#[o.slots,j b o (na n) q],λb o q n _=>?_,λb o q _=>?_,λb xs q=>?_,λb o u q=>?_,λb ps q=>?_] (λb ob q=>?_) I.bare (λb hb=>gS hb ⋯)))
 .rwa[ZU (na n),ZU (yK (zE q)),n]
 .by_cases z:b=a
  .rwa[z,#[_,m]]
  .show#[o,j b o z q]
 .rwa[ZU (λz=>by erw[z,e] at q),ZU (G q),q]
 .rwa[ZU (λz=>by erw[z,e] at q),ZU (G q),q]
 .show#[⇑[],by rw[ZU (λz=>by erw[z,e] at q),ZU (G q),q];simp]
 .by_cases z:b=a
  .erw[z,Za] at q;rwa[z,Cr #[_,_,m,Z,Z,Z,a0]]
  .rw[ZU z] at q;by_cases z2:b=‹s›
   .erw[z2,Za] at q;rw[z2];exists _,B;intro g;change Yp (wQ g [(f,y)]) (if g=f then Z' u else Y')
    by_cases Y:g=f
    .rw[Y,aM rfl];simp only[wQ,beq_self_eq_true];show ry
    .rw[aK Y];simp only[wQ,beq_eq_false_iff_ne.mpr Y];show True.intro
   .rw[ZU z2] at q;let oc:∀{c:aj},H c\.own b->c≠a:=fun{c} d z=>by erw[z,e] at d
    show(I.hok b ob q).stay (λc u d r=>j c u ?_ r) (λc d=>?_) (λc xs d=>?_)
    .rcases d with rfl|d
     .show z
     .show oc d
    .rwa[ZU (oc d),ZU (G d),d]
    .rwa[ZU (λz=>by erw[z,e] at d),ZU (G d),d]
end
section
variable{C fI:aj}{f:Str}
abbrev Oa(h:aD)(C:aj)(a:jd):Heap:=(h.push { cls:=.type "tuple",data:=.seq ⇑a }).push { cls:=!C,data:=.fields ⇑[!h.objs.size,.none,.none,.none,.bool false,.none] }
theorem sk{e:jd}{Q:ja}(X:K.In s.heap)(c:QJ K C fI f)(p:↑e<=aq)(h:aB ↥_ (A.under (.builtin "type.__call__" #[.ref C::e,[]])) (call (!fI) (.ref (‹s›+1)::e)) (λr D=>r=.none/\Q (.ref (‹s›+1)) D) E { s with heap:=Oa s.heap C e }):
  aB ↥_ A (call (!C) e) Q E s:=by
 let#[a,g,d,t,B]:=s;let n:=c.made;let#[nm,H,ns,qn,M,sn,u,G,k,I,R,S,U,V,Y,v,N,P,_]:=AS n;let i:a.get? C\excClassObj nm qn C ns H v M sn u G k I R S U V Y "ValueError.__new__":=X _ _ N;let T:OwnTail a M9 v:=PySem.W.tail_of_in X P;let j:=PySem.F.excBase_ValueError;let f1:=tc_lookup;let f2:=tc_bind !C;let hT:(#[a,g,d,t,B]:ak).TypeIs (!C) "type" :=#[_,i,Z];show wpAny_call (codeAny_of_tree (show aB _ _ (callAny (!C) _) _ _ _ from ?_))
 repeat (any_goals (first|assumption|with_reducible show wpAny_loadPart_at i ?_|wp_step))
 show#[Z,codeAny_call_builtin_at (Code.quiet_builtin _ (by decide +kernel)) entry_typeCall (wpAny_check_type_call_sub i ?_)]
 repeat (first|with_reducible show wpAny_loadPart_at i ?_|with_reducible show wpAny_madeBy_exc i ?_|wp_step)
 show codeAny_call_builtin_code (Code.quiet_builtin _ j.quiet) (wpAny_check_new_subU j j.hasB T i (codeAny_exc_new_subU j j.hasB j T i ?_ p));change aB _ _ _ _ _ _;let J:(Oa a C e).get? (a.objs.size+1)\{ cls:=!C,data:=.fields ⇑[!a.objs.size,.none,.none,.none,.bool false,.none] }:=by heap_get
 let y:∀ b o,a.get? b\o->(Oa a C e).get? b\o:=λb o q=>zD _ (zD _ q);let l:=y _ _ i;let m:(Value.ref C::v).contains (!C)=V':=by simp
 unfold isInstance;change aB _ _ _ _ _ #[Oa a C e,g,d,t,B]
 repeat (first|with_reducible show wpAny_loadPart_at J ?_|wp_step)
 show wpAny_isSubtype_exc (C:=C) (h:=Oa a C e) l ?_;rw[m]
 repeat wp_step
 let x:K.In (Oa a C e):=λb o q=>y b o (X b o q);change aB _ _ (typeLookup (!C) _) _ _ _;show(rF x c.init).at ?_;show ag (aa ((PySem.W.bind_fn x _ (beq_iff_eq.mp c.fn)).at ?_));show aa (af h (λr D O=>?_) λ_ _ z=>z);let#[rfl,L]:=O
 wp_walk
 show L
end
inductive Nj(K:zZ)(f:Str)(D:YK)(e:_T.St)(y x:V)(c:Hp):Prop
 |mk(g a C d:_)(_:x=!a)(_:c a\XO g a C Y')(_:QJ K C d f)(_:∀ b,c b=Y'->b≠a->D.nx e (upd (upd c b (.xd [(f,y)])) a (XO g a C (Z' b))))
def Rm(K:zZ)(d e:TE)(f:Str):TS:=λD a H=>e a H λy b=>d a b λx c=>Nj K f D a y x c
def KB(K:zZ)(C c:aj)(f:Str):Sp:=λd H Q _=>QJ K C c f/\∃ a y,d=[!a,y]/\H a\XO OV a C Y'/\∀ b,H b=Y'->b≠a->Q .non (upd (upd H b (.xd [(f,y)])) a (XO OV a C (Z' b)))
section
variable{C fI:aj}{f:Str}{e o value:Expr}{es:jv}{ta tv:TE}{t:TA}{pos pos' p:Pos}{x:Str}
theorem vi(v:PE X o ta)(B:'ŀ')(A:swapsWith value 'ŕ' pos.line X.env=pure false):PS X (.Assign [.Attribute o f pos'] value pos) (Rm X.K ta tv f):=by
 intro b s d H D I h;show plainObj_wpAny_Assign_Attribute (YG (B b s d H _ I h) λu L y i j J q=>Z7 (v b L d i _ j q) λE O ⟨x,M,k,G,g,a,C,fI,r,n,c,F⟩=>?_) A;subst r;obtain rfl:E=Value.ref a:=G;show mh k n c J λm N w z l=>#[d,_,l,F m w z]
theorem ZH.newx{g:jo}{j:St}{H:Hp}{s:ak}{h':aD}{ea:aj}(I:ZH X g j H s)(d:∀ b o,s.heap.get? b\o->h'.get? b\o)(n:s.heap.get? ea=Y')(m:UH OV ea C Y' h'):ZH X g j (upd H ea (XO OV ea C Y')) { s with heap:=h' }:=by
 let l:H ea=Y':=by
  cases z:H ea with
  |none=>rfl
  |some o=>
   let#[A,q]:=I.hok.there (a:=ea) #v[z,λy=>nomatch y]
   erw[n] at q
 let i:∀{b:aj}{o:HO},H b\o->b≠ea:=fun{b o} q z=>by erw[z,l] at q
 show I.call' (s':={ s with heap:=h' }) (ch:=[]) Z #[λb o q _ _ _=>d b o q,λb o q _ _ _=>#[o.slots,d b o q],λb o q z _=>?_,λb o q _=>#[o,d b o q],λb w q=>?_,λb o u q=>?_,λb B q=>#[⇑[],?_]] (λb v q=>?_) I.bare (λb k=>gS k ⋯)
 .rwa[ZU (λy=>by erw[y,n] at q),z]
 .rwa[ZU (i q),q]
 .rwa[ZU (i q),q]
 .rw[ZU (i q),q];simp
 .by_cases z:b=ea
  .erw[z,Za] at q;rwa[z,Cr m]
  .rw[ZU z] at q;show(I.hok b v q).stay (λc u _ r=>d c u r) (λc h=>#v[ZU (i h),h]) (λc w h=>#v[ZU (i h),h])
end
theorem mQ(f:js->js)(o):(Obj.mapFields f o).dict=o.dict:=by
 let#[c,d,a,b]:=o;cases a<;>rfl
def M7(B:aD)(cls:ai)(b:js):Prop:=b[2]?\.none\/∀ C o a,cls=.ref C->B.get? C\o->o.data=.cls a->a.name≠"NoStem"
def RQ(h B:aD)(e:aj)(cls:ai)(g:ju)(f:ai):Prop:=
 ∃ a b T c d,(h.get? e\a/\a.cls=cls/\a.dict=g/\a.data=.fields b/\b[1]?\!T)/\B.get? T=Y'/\T≠e/\h.get? T\c/\c.data=.fields d/\d[3]?\f/\M7 B cls b
def Qt(B:aD)(l:jt)(e:aj)(cls:ai)(b:ju)(a:ai)(h:aD):Prop:=B.StaysIn h/\B.get? e=Y'/\h.FunFrames B l/\RQ h B e cls b a
theorem Qt.at{f:ju}(x:Qt B l e (!C) f g h):UH RU e C f h:=by
 let#[_,_,_,i,j,T,k,m,#[a,b,c,d,_],_]:=x;show#[i,j,a,b,d,c,trivial]
section
variable{M:Model}{B:aD}{env:Env}{outer l:jt}{L e:aj}{cls:ai}{od:ju}{Q:Unit->ak->Prop}
theorem D8{oe:aH}{vs:js}{first:ai}{nx:Bool}(fr:A.frames\(env::outer))(ff:s.heap.FunFrames B (env::outer))(eL:env.frame\L)(ge:s.heap.get? e\oe)(sb:B.StaysIn s.heap)(eB:B.get? e=Y')(dd:oe.data=.fields vs)(two:1<vs.size)(cx:M7 B oe.cls vs)(h:∀ h',Qt B (env::outer) e oe.cls oe.dict 'Ŭ' h'->s.heap.UpToSlots h'->Q .unit { s with heap:=h' }):
  aB M A (frameOf env>>=λa=>entryPlaceOf L nx>>=λpl=>EntryCells.newEntry first a .none 'Ŭ' .none pl>>=λb=>setField (!e) 1 b) Q E s:=by
 let en:e∉(env::outer).filterMap (·.frame):=λz=>by
  let#[_,o,g1,g2]:=ff.mem z;erw[ge] at g1;show g2 vs dd
 show aa (wpAny_frameOf_fun fr ff eL λh1 k1=>aa (wpAny_entryPlaceOf λpl kp=>?_));unfold EntryCells.newEntry newFields;show aa (wpAny_newObj_type ?_ (kp.sizeOk5 _ _ _ _ _));let t3:([first,Value.ref L,.none,rawInt L,.none]++(if pl.isEmpty then vS 6 Value.none else pl)).toArray[3]?\rawInt L:=by
  first|(simp;done)|(rcases kp with rfl|⟨_,_,_,_,_,_,_,rfl⟩ <;> simp)
 generalize ⇑([first,Value.ref L,.none,rawInt L,.none]++(if pl.isEmpty then vS 6 Value.none else pl))=ts at t3⊢;let g1:h1.get? e\oe:=(k1.2.1 e en)|||ge;let sb1:B.StaysIn h1:=λb o q=>(k1.2.1 b λz=>by erw[(ff.mem z).1] at q)|||sb b o q
 let eT:h1.objs.size≠e:=λz=>xW _ (by have:=zE g1;rw[<-z] at this;show this)
 let g2:=zD (h:=h1) ({ cls:=.type "traceback",dict:=Y',data:=.fields ts }:aH) g1;let d3:=Obj.data_mapFields dd (·.setIfInBounds 1 '$');let g3:=vO (Obj.mapFields (·.setIfInBounds 1 '$')) g2 (Obj.isFreed_of_fields d3);let gT:=(vB (h1.push ({ cls:=.type "traceback",dict:=Y',data:=.fields ts }:aH)) (Obj.mapFields (·.setIfInBounds 1 '$')) eT.symm)|||yI h1 Z;let stay:∀ b o,b≠e->h1.get? b\o->((h1.push ({ cls:=.type "traceback",dict:=Y',data:=.fields ts }:aH)).update e (Obj.mapFields (·.setIfInBounds 1 '$'))).get? b\o:=λb o n q=>
  (vB _ _ n.symm).trans (zD _ q)
 let notE:∀ b o,s.heap.get? b\o->(∀ ws,o.data≠.fields ws)->b≠e:=λb o q nf z=>by
  erw[z,ge] at q;show nf vs dd
 show wpAny_setField g2 dd two (h _ #[λb o q=>stay b o (λz=>by erw[z,eB] at q) (sb1 b o q),eB,ff.of_keeps λb o q nf=>?_,_,_,h1.objs.size,_,_,#[g3,Obj.cls_mapFields _ _,mQ _ _,d3,by simp[two]],sb1.fresh,eT,gT,Z,t3,cx.imp (λz=>#v[Array.getElem?_setIfInBounds_ne 'b',z]) id] λb o q nf=>?_)
 .let#[sl,z]:=k1.2.2 b o q;show#[_,stay b _ (notE b o q nf) z,Z]
 .let#[sl,z]:=k1.2.2 b o q;show#[sl,stay b _ (notE b o q nf) z]
theorem Ju{G:ai}(x:Qt B l e cls od G s.heap)(h:∀ j,Qt B l e cls od .none j->s.heap.UpToSlots j->Q .unit { s with heap:=j }):aB M A (setFlight (!e) Y') Q E s:=by
 let#[I,D,F,H,K,T,O,u,#[r,w,y,p,v],k,m,i,g,J,C]:=x;let t:3<u.size:=(uB.mp J).1;let a:∀ b,b≠T->(s.heap.update T (Obj.mapFields (·.setIfInBounds 3 ((Y':ju).elim Value.none λf=>rawInt f)))).get? b=s.heap.get? b:=λb n=>vB _ _ n.symm;let c:∀ b o,s.heap.get? b\o->(∀ N,o.data≠.fields N)->b≠T:=λb o q d z=>by
  erw[z,i] at q;show d u g
 unfold setFlight;show aa (wpAny_field r p v ?_);rw[aM (show (Value.ref T != Value.none)=V' by simp)]
 show wpAny_setField i g t (h _ #[λb o q=>(a b λz=>by erw[z,k] at q)|||I b o q,D,F.of_keeps λb o q d=>#[o,'ü'|||q,Z],?_] λb o q d=>#[o.slots,'ü'|||q])
 show#[H,K,T,_,_,#[(a e m.symm)|||r,w,y,p,v],k,m,vO _ i (Obj.isFreed_of_fields (Obj.data_mapFields g _)),Obj.data_mapFields g _,by simp[t],C]
theorem nY{c:js}(n:A.frames\(env::outer))(m:s.heap.FunFrames B (env::outer))(f:env.frame\L)(g:s.heap.get? e\a)(o:B.StaysIn s.heap)(k:B.get? e=Y')(d:a.data=.fields c)(i:c[1]?\.none)(j:M7 B a.cls c)(h:∀ b,Qt B (env::outer) e a.cls a.dict 'Ŭ' b->s.heap.UpToSlots b->Q .unit { s with heap:=b }):aB M A (noteFrame (!e) env) Q E s:=by
 unfold noteFrame;simp only[f];show aa (wpAny_field g d i ?_);rw[aK 'b']
 show D8 n m f g o k d (uB.mp i).1 j h
theorem oW(H:A.frames\(env::outer))(k:env.frame\L)(x:Qt B (env::outer) e cls od .none s.heap)(h:∀ f,Qt B (env::outer) e cls od 'Ŭ' f->s.heap.UpToSlots f->Q .unit { s with heap:=f }):
  aB M A (noteFrame (!e) env) Q E s:=by
 let#[J,D,G,P,R,T,O,r,#[m,w,y,j,t],u,v,i,g,p,C]:=x;subst w y;let I:3<r.size:=(uB.mp p).1;let a:∀ b,b≠T->(s.heap.update T (Obj.mapFields (·.setIfInBounds 3 Value.none))).get? b=s.heap.get? b:=λb n=>vB _ _ n.symm;let c:∀ b o,s.heap.get? b\o->(∀ N,o.data≠.fields N)->b≠T:=λb o q d z=>by
  erw[z,i] at q;show d r g
 unfold noteFrame;simp only[k];show aa (wpAny_field m j t ?_);rw[aM (show (Value.ref T != Value.none)=V' by simp)]
 show aa (wpAny_field i g p ?_);rw[aK (show ¬ ((Value.none==rawInt L)=V') by simp[rawInt])]
 show aa (wpAny_setField i g I ?_);show D8 (s:={ s with heap:=_ }) H (G.of_keeps λb o q d=>#[o,'ü'|||q,Z]) k ((a e v.symm)|||m) (λb o q=>(a b λz=>by erw[z,u] at q)|||J b o q) D j (uB.mp t).1 C λf F K=>h f F λb o q d=>?_
 show K b o ('ü'|||q) d
theorem Qt.less{f:ai}(x:Qt B (env::outer) e cls od f h):Qt B outer e cls od f h:=by
 let#[a,b,#[_,_,c],d]:=x;show#[a,b,c,d]
theorem AG{c:js}(n:A.frames\(env::outer))(m:s.heap.FunFrames B (env::outer))(i:env.frame\L)(o:s.heap.get? e\a)(r:B.StaysIn s.heap)(g:B.get? e=Y')(f:a.data=.fields c)(v:c[1]?\.none)(d:M7 B a.cls c)(h:∀ b,Qt B outer e a.cls a.dict .none b->s.heap.UpToSlots b->Q .unit { s with heap:=b }):aB M A (leaving env !e) Q E s:=by
 unfold leaving;show aa (nY n m i o r g f v d λp j t=>Ju (s:={ s with heap:=p }) j λq k u=>h q k.less (t|||u))
end
theorem lU(F:A.handled=Y')(H:xE K C 'x'\true)(G:wE K (!C)\.type "type")(h:aB (aA a w) A x (λv b=>∃ e q,v=.ref e/\K.In b.heap/\UH OV e C q b.heap/\E (!e) b) E s):aB (aA a w) A (raiseStmt c (Z' x) Y') Q E s:=by
 unfold raiseStmt;show aa (af h (λv b B=>?_) λ_ _ z=>z);let#[e,q,rfl,k,#[#[L,i,I,j],r,o,l,m,n,J,P],D]:=B;dsimp only at l m n;subst l m n;let#[p,g,d,O,N]:=b;let t:wW (aA a w) p (typeOf !e) (!C):=PZ.ty #[_,o,Z] _;let u:=sU (M:=aA a w) k H;let y:=pT (M:=aA a w) k G;let f:p.get? e\#[!C,i,.fields r,j]:=o;unfold excFromValue isExcClass isInstance isType raisedInstance setFlight
 repeat (first|with_reducible show wpAny_loadPart_at f ?_|with_reducible show u.at ?_|with_reducible show t.at ?_|with_reducible show y.at ?_|wp_step)
 rw[show r[1]?\Value.none from J]
 repeat wp_step
 all_goals first|show wpAny_raiseNew_none F D|trace_state
structure P4(P:am)(w:aw)(outer:jt)(H:Hp)(s:ak)(ea:aj)(cls:ai)(od:ju)(H':Hp)(s':ak):Prop where
 ex:∃ B:aD,Qt B outer ea cls od .none s'.heap/\(∀ b o,s'.heap.get? b\o->H' b≠Y'->B.get? b\o)/\(∀ b o,s.heap.get? b\o->H b=Y'->b∉frs outer->B.get? b\o)/\(∀ b o,s.heap.get? b\o->b∉frs outer->∃ o',B.get? b\o')
 os:s'.os=s.os
 bare:AllBare s'.gens
 un:Un (frs outer) [] H H' s.heap s'.heap
 hok:XJ P w H' s'.heap
 new:s.heap.get? ea=Y'
 free:H' ea=Y'
def Um(P:am)(w:aw):UV:=λa H s E e f=>∃ c cls d b,e=.ref c/\P4 P w a H s c cls d b f/\E cls d b
structure PJ(X:Cx)(E:XK):Prop where
 stack:X.stack=X.env::X.outer
 frame:X.env.frame\X.env.locals
 ex:X.ex=[]
 calm:X.calm=V'
 xe:∀ e s',aB ↥X X.A (leaving X.env e) (λ_ s''=>Um X.prog X.w X.outer X.H₀ X.s₀ E e s'') (λe' s''=>Um X.prog X.w X.outer X.H₀ X.s₀ E e' s'') s'->X.xe e s'
theorem yd{E:XK}:
  PJ (Wk (Um P w) P w K g c N d b f e A a s H E) E:=#[Z,Z,Z,Z,λ_ _ h=>h]
section
variable{jV:jo}{σ:St}{H H':Hp}{s':ak}{E:XK}
theorem PJ.frs(F:PJ X E):frs X.stack=X.env.locals::X.fs:=by
 rw[F.stack];change List.filterMap _ (X.env::X.outer)=_;rw[tG,F.frame];rfl
theorem PJ.off(F:PJ X E)(I:'c')(q:X.s₀.heap.get? b\o)(n:b∉_T.frs X.outer):b∉_T.frs X.stack:=λz=>by
 rw[F.frs] at z;rcases zU.mp z with z|z
 .erw[z,I.noloc] at q
 .show n z
theorem PJ.on(F:PJ X E)(n:b∈_T.frs X.outer):b∈_T.frs X.stack:=by
 rwa[F.frs,zS _ n]
theorem ze{B h:aD}(F:PJ X E)(J:'c')(r:B.StaysIn h)(d:∀ b o,b≠g->s.heap.get? b\o->b∉_T.frs X.stack->B.get? b\o)(p:s.heap.UpToSlots h)(i:X.s₀.heap.get? g=Y'):
  Un (_T.frs X.outer) [] X.H₀ H X.s₀.heap h:=by
 let c:=J.base;rw[F.ex] at c;let l:∀{b:aj}{o:aH},X.s₀.heap.get? b\o->b≠g:=λq z=>by erw[z,i] at q
 let m:∀{b:aj}{o:aH},b∈_T.frs X.stack->s.heap.get? b\o->∀ v,o.data≠.fields v:=λa q=>E2 J _ a _ q;show#[λb o q n a _=>r b o (d b o (l q) (c.keep b o q n a ⋯) (F.off J q a)),λb o q n a _=>?_,c.free,λb o q _=>?_,c.tups,c.frzs,c.tbls]
 .let#[u,e]:=c.slot b o q n a ⋯
  let#[k,t]:=p b _ e (m (F.on a) e);show#[k,t]
 .let#[f,j]:=c.there b o q ⋯
  by_cases a:b∈_T.frs X.stack
  .let#[u,e]:=p b f j (m a j);show#[_,e]
  .show#[f,r b f (d b f (l q) j a)]
theorem ZH.untrack(I:ZH X jV σ (upd H a (.ext g)) s)(l:H a=Y'):ZH X jV σ H s:=by
 let v:∀{b:aj}{u:HO},H b\u->b≠a:=fun{b u} e z=>by erw[z,l] at e
 let h:∀{b:aj},upd H a (.ext g) b=Y'->H b=Y':=fun{b} e=>by
  by_cases z:b=a
  .rwa[z,l]
  .rw[ZU z] at e;show e
 let d:∀{b:aj}{u:HO},upd H a (.ext g) b\u->(∀ y,u≠.ext y)->H b\u:=fun{b u} e k=>by
  by_cases z:b=a
  .rw[z,Za] at e;show gS (yV.inj e).symm (k g)
  .rw[ZU z] at e;show e
 show#[I.ok,I.os,I.bare,#[I.base.keep,I.base.slot,λb j q n t=>h (I.base.free b j q n t),I.base.there,λb m q=>d (I.base.tups b m q) (λ_ z=>nomatch z),λb j u q=>d (I.base.frzs b j u q) (λ_ z=>nomatch z),λb w q=>?_],I.loc,I.cell,h I.free,λx c e=>h 'Ď',λp i=>?_,λb u e=>?_,I.len]
 .let#[f,e]:=I.base.tbls b w q;show#[f,d e (λ_ z=>nomatch z)]
 .let#[e,n,r]:=I.pin p i;show#[e,h n,r]
 .let o:upd H a (.ext g) b\u:=#v[ZU (v e),e]
  show(I.hok b u o).stay (λ_ _ _ q=>q) (λc q=>d q (λ_ z=>nomatch z)) λc m q=>d q (λ_ z=>nomatch z)
theorem pO(F:PJ X E)(J:'c')(e:X.s₀.heap.get? c=Y')(u:H c=Y')(Q:UH g c C m s.heap)(K:∀ f,g f->f[1]?\.none)(L:∀ f B,g f->(∀ b o,B.get? b\o->s.heap.get? b\o)->M7 B (!C) f)(N:E (!C) m H):X.xe (!c) s:=by
 let#[U,f,I,r,w,x,t]:=Q;let T:=K f t;let G:X.A.frames\(X.env::X.outer):=by rw[J.ok.frames,F.stack]
 let D:s.heap.FunFrames (uO s.heap (c::_T.frs X.stack)) (X.env::X.outer):=by
  have:=PySem.W.funFrames_hide (as:=c::_T.frs X.stack) J.stack (λl P a O=>zS _ (tI.mpr #[l,P,O]));rw[F.stack] at this⊢;show this
 let d:∀ b o,b≠c->s.heap.get? b\o->b∉_T.frs X.stack->(uO s.heap (c::_T.frs X.stack)).get? b\o:=λb o n q h=>pX _ q (λz=>by
  rcases zU.mp z with z|z
  .show n z
  .show h z)
 let inT:∀ b o,s.heap.get? b\o->H b≠Y'->(uO s.heap (c::_T.frs X.stack)).get? b\o:=λb o q n=>d b o (λz=>n #v[z,u]) q λz=>n (J.stkFree b z)
 let y:(uO s.heap (c::_T.frs X.stack)).get? c=Y':=pU _ ⋯
 show F.xe _ _ (AG G D F.frame I (λb o q=>rM _ q) y w T #v[r,L f _ t λb o q=>rM _ q] λM j S=>?_)
 rw[r,x] at j;show#[c,_,m,H,Z,#[#[_,j,λb o q n=>?_,λb o q n h=>?_,λb o q h=>?_],J.os,J.bare,ze F J j.1 d S e,J.hok.keptT λb o q n=>j.1 b o (inT b o q n),e,u],N]
 .let#[i,k]:=J.hok.there n;let R:=j.1 b i (inT b i k n);let v:M.get? b\o:=q;rw[R] at v;rwa[<-yV.inj v,inT b i k n]
 .let p:=J.base;rw[F.ex] at p;show d b o (λz=>by erw[z,e] at q) (p.keep b o q n h ⋯) (F.off J q h)
 .let#[i,k]:=J.base.there b o q (by rw[F.ex];simp)
  show#[i,d b i (λz=>by erw[z,e] at q) k (F.off J q h)]
theorem vu(F:PJ X E)(J:'c')(b:X.s₀.heap.get? a=Y')(e:H a=Y')(f:UH OV a C c s.heap)(d:E (!C) c H):X.xe (!a) s:=pO F J b e f (λ_ z=>z.1) (λ_ _ z _=>.inl z.2) d
inductive P8(C:aj)(f:Str)(E:XK)(c:je)(b:Hp):Prop
 |mk(y:_)(_:c=[y])(_:∀ a,b a=Y'->E (!C) (Z' a) (upd b a (.xd [(f,y)])))
def Db(C:aj)(f:Str)(E:XK)(t:TA):TS:=λ_ σ H=>t σ H λb a=>P8 C f E b a
theorem mV{f x:Str}{n:jv}{p g pos:Pos}(F:PJ X E)(c:QJ X.K C N f)(ht:wE X.K (!C)\.type "type")(T:ZI X.prog X.w X.K X.mg X.base ZJ k N Y Q (KB X.K C N f))(hr:ZX (k+1) X.A)(hg:Gl X x)(hm:X.mg x\!C)(hb:Zx X.K Y Q [])(ha:PA X (e::n) t)(O:(x==("__debug__":Str))=false:=by decide)(he:ar (e::n) X.env=(false,aG e X.env)::ar n X.env:=by rfl)(P:(aF g (ar n X.env)).any (·.1)=false:=by rfl):
  PS X (.Raise (Z' (.Call 'X' (e::n) [] g)) Y' pos) (Db C f E t):=by
 intro jV s σ H D I h;let hh:=I.ok.hd F.calm;rw[arm_exec_Raise];show aa (wpAny_standAt ?_);show lU hh c.exc.mB ht (aa (af ?_ (λv s3 h3=>aa (wpAny_standAt (ae h3))) λ_ _ z=>z));show ah (MH I hg hm ?_ O);show uI (h₀:=X.base) I.ok.mod.kin c.kp (Z7 (ha g jV s σ H _ I h) λus d ⟨vs,l,m,r,y,ey,q⟩=>#[m.kIn,?_]) he P;subst ey;obtain⟨u,rfl,R⟩:∃ u,us=[u]/\ZT y u:=by
  cases r with
  |cons R r0=>cases r0;show#[1,R]
 show sk m.kIn c (by change 1<=aq;rw[sizeLine_eq];lia) ?_
 let kk:∀ b o,d.heap.get? b\o->(Oa d.heap C [u]).get? b\o:=λb o q=>zD _ (zD _ q);let e1:(Oa d.heap C [u]).get? (‹d›+1)\{ cls:=!C,data:=.fields ⇑[.ref ‹d›,.none,.none,.none,.bool false,.none] }:=by heap_get
 let U:d.heap.get? (‹d›+1)=Y':=sW (vK _);let h0:l (‹d›+1)=Y':=m.hok.fresh (vK _);let L:X.s₀.heap.get? (‹d›+1)=Y':=by
  cases z:X.s₀.heap.get? (‹d›+1) with
  |none=>rfl
  |some o=>
   let#[o',q']:=m.base.there _ o z (by rw[F.ex];simp)
   erw[U] at q'
 let J:=m.newx (C:=C) (ea:=‹d›+1) (h':=Oa d.heap C [u]) kk U #[_,_,e1,Z,Z,Z,Z,Z];generalize a0:‹d›+1=a at *;let r2:ZS [V.ref a,y] [Value.ref a,u]:=.cons Z (.cons R .nil);let G:KB X.K C N f [V.ref a,y] (upd l a (XO OV a C Y')) (λv H2=>v=.non/\∃ i,H2=upd (upd l i (.xd [(f,y)])) a (XO OV a C (Z' i))/\l i=Y'/\i≠a) E0:=by
  show#[c,_,y,Z,Za,λi hd B=>#[Z,i,?_,?_,B]]
  .funext b
   by_cases z:b=a
   .rw[z,Za,Za]
   .rw[ZU z,ZU z];by_cases S:b=i
    .rw[S,Za,Za]
    .rw[ZU S,ZU S,ZU z]
  .rw[ZU B] at hd;show hd
 let hl:↑([Value.ref a,u]++([]:jd))=↑Q:=by
  let e:=↑r2;rw[T.len _ _ _ _ G] at e;show e.symm
 show wpAny_call (codeAny_mono (T.run _ X.stack _ _ #[[Value.ref a,u],[]] _ _ _ E0 (hr.make C [u] []) (J.env0.make C [u] []) (hb _ [Value.ref a,u] J.kIn hl) r2 G) λr s' j=>?_)
 cases r with
 |error e=>show(Zn jV σ _ _ e s' J j)
 |ok fl=>
  cases fl with
  |ret u2=>
   let#[v,H',M,rv,ev,i,eH,nd,ne]:=J.after j;subst ev eH;exists rv,a,Z' i,Z,M.kIn,(M.hok a _ Za).1;let hn:upd l i (.xd [(f,y)]) a=Y':=#v[ZU (Ne.symm ne),h0]
   show vu F (M.untrack hn) L hn (M.hok a _ Za).1 (q i nd)
  |next=>show False.elim j
  |brk=>show False.elim j
  |cont=>show False.elim j
end
theorem EA{p:St}{B f:aD}(I:ZH X d p H s)(W:P4 X.prog X.w X.stack H s t cls u i g)(inT:∀ b o,g.heap.get? b\o->i b≠Y'->B.get? b\o)(k:∀ b o,s.heap.get? b\o->H b=Y'->b∉frs X.stack->B.get? b\o)(j:∀ b o,s.heap.get? b\o->b∉frs X.stack->∃ h,B.get? b\h)(m:B.StaysIn f)(v:g.heap.UpToSlots f):
  ZH X d p i { g with heap:=f }:=by
 let c:∀ b o,s.heap.get? b\o->b∈frs X.stack->∃ l,f.get? b\{ o with slots:=l }:=λb o q a=>by
  let#[l,e]:=W.un.slot b o q (I.stkFree b a) a ⋯
  let#[c,r]:=v b _ e (λx z=>E2 I b a o q x z);show#[c,r]
 show I.call' (s':={ g with heap:=f }) W.os #[λb o q n a _=>m b o (k b o q n a),λb o q n a _=>c b o q a,W.un.free,λb o q _=>?_,W.un.tups,W.un.frzs,W.un.tbls] (W.hok.keptT λb o q n=>m b o (inT b o q n)) W.bare (λb a=>gS a ⋯)
 by_cases a:b∈frs X.stack
 .let#[l,e]:=c b o q a;show#[_,e]
 .let#[h,e]:=j b o q a;show#[h,m b h e]
theorem Zl.okD(F:Zl K x b g f n)(S:ZC N l (Zc g))(j:∀ e H Q E,m e H Q E->↑e=↑l)(d:∀  c   A   a   s   H   e   Q   E ,ZX k (A.deeper (envOfC b (Zc g) ‹s› f c))->m e H Q E ->
   let X:=(Wk (Um P w) P w K mg jW N b (Zc g) f c A a s H E);∃ t,WG X (Xs g) t/\t { nx:=λ_ o=>Q .non o,rt:=Q } (PF N e) H):-ZI (Um P w) (k+1) f n l m:=by
 let#[y,z,kV,p,B,v,c,ct,u,rfl,r,h]:=F.ex;show HY r h S j λA a s H e Q E q i=>d c A a s H e Q E q i
theorem Zl.kD(F:Zl K x a g f m)(S:ZC N j (Zc g))(b:∀  e   A   c   s   H   d   Q   E ,ZX k (A.deeper (envOfC a (Zc g) ‹s› f e))->l d H Q E ->
   let X:=(Wk (Um P w) P w K mg jW N a (Zc g) f e A c s H E);∃ t,WG X (Xs g) t/\t { nx:=λ_ n=>Q .non n,rt:=Q } (PF N d) H)(i:∀ d H Q E,l d H Q E->↑d=↑j:=by intro d _ _ _ h;cases h;(try subst d);rfl):-ZI (Um P w) (k+1) f m j l:=F.okD S i b
inductive PD(a:zZ)(x y:V)(H:Hp)(Q:VK):Prop
 |mk(p b c:_)(_:x=!p)(_:y=!b)(_:ZF a H p c)(_:ZF a H b [])(_:Q (.bl (not c.isEmpty)) H)
theorem IM(f:X.A.units<cLine):XF X 'Ġ' (PD X.K):=by
 intro l s J H x y v u Q I C D h;let#[p,b,E,rfl,rfl,c,o,q]:=h;cases C;cases D;let#[d,z,i,F]:=I.list c;let#[a,B,k,G]:=I.list o;let g:=↑z;let t:=↑B;let n:a=[]:=wP (by rw[<-t];rfl)
 subst n
 cases E with
 |nil=>
  let m:d=[]:=wP (by rw[<-g];rfl)
  subst m;show PySem.SeqAt.RcNeAt.lists (e:=λ_=>true) i.isList k.isList Z f (λj c _=>gS c ⋯) X.prog X.w X.xe _ (XI I q ⋯)
 |cons x r=>show PySem.SeqAt.RcNeAt.lists_lengths i.isList k.isList (by simp;intro e;subst e;simp at g) f X.prog X.w X.xe _ (XI I q Z)
variable{jT jU CS CT CH CK CP CB:aj}
noncomputable def top(i:Nat):Stmt:=PySem.Challenge.pw_twigmap_k44_forks_stand.main.body.getD i (.Pass #[(0),(0),(0),(0)])
abbrev Hj:Stmt:=top 13
abbrev HS:Stmt:=top 14
abbrev Lq:Stmt:=top 15
abbrev Ig:Stmt:=top 16
abbrev JG:Stmt:=top 17
abbrev Kp:Stmt:=top 18
abbrev Id:Stmt:=top 19
abbrev Lx:Stmt:=top 20
abbrev Kx:Stmt:=top 30
abbrev Ku:Stmt:=top 31
abbrev Jw:Stmt:=top 32
abbrev Iy:Stmt:=top 33
abbrev JF:Stmt:=top 34
abbrev JE:Stmt:=top 35
abbrev JQ:Stmt:=top 37
abbrev HF:Stmt:=top 40
abbrev Ii:Stmt:=top 41
abbrev K6:Stmt:=top 42
abbrev JK:Stmt:=top 43
abbrev HN:Stmt:=top 44
abbrev Jd:Stmt:=top 47
abbrev GI:Stmt:=top 48
abbrev Hh:Stmt:=top 49
abbrev Jb:Stmt:=top 50
abbrev GC:Stmt:=top 51
abbrev JR:Stmt:=top 54
abbrev JZ:Stmt:=top 55
abbrev HJ:Stmt:=top 56
abbrev Kw:Stmt:=top 57
abbrev Hm:Stmt:=top 58
abbrev Hi:Stmt:=top 59
abbrev N4:Stmt:=top 61
abbrev MR:Stmt:=top 62
abbrev IV:Stmt:=top 63
abbrev K0:Stmt:=top 64
abbrev GA:Stmt:=top 65
abbrev Jz:Stmt:=top 66
abbrev Ip:Stmt:=top 67
abbrev JN:Stmt:=top 68
abbrev Q6:Stmt:=top 69
abbrev MT:Stmt:=top 70
abbrev HZ:Stmt:=top 71
abbrev GJ:Stmt:=top 76
abbrev HB:Stmt:=top 78
abbrev GD:Stmt:=top 79
abbrev HD:Stmt:=top 80
abbrev HK:Stmt:=top 81
abbrev KM:Stmt:=top 82
abbrev KG:Stmt:=top 83
abbrev Hl:Stmt:=top 84
abbrev JT:Stmt:=top 85
abbrev MN:Stmt:=top 86
abbrev HR:Stmt:=top 87
abbrev Lu:Stmt:=top 88
abbrev JV:Stmt:=top 89
abbrev Jh:Stmt:=top 90
abbrev IK:Stmt:=top 91
abbrev J7:Stmt:=top 92
abbrev K5:Stmt:=top 93
abbrev JL:Stmt:=top 94
abbrev HI:Stmt:=top 95
abbrev QN:Stmt:=top 96
structure YM(mg:jb):Prop where
 isi:mg "isinstance"=Y'
 bool:mg "bool"=Y'
 int:mg "int"=Y'
 str:mg "str"=Y'
 tuple:mg "tuple"=Y'
 list:mg "list"=Y'
 len:mg "len"=Y'
 all:mg "all"=Y'
 abs:mg "abs"=Y'
 max:mg "max"=Y'
 min:mg "min"=Y'
 range:mg "range"=Y'
 sorted:mg "sorted"=Y'
 ValueError:mg "ValueError"=Y'
 sum:mg "sum"=Y'
 signs:∃ t,mg "MOST_SIGNS"=Z' (.int 40 t)
 things:∃ t,mg "MOST_THINGS"=Z' (.int 4 t)
 deep:∃ t,mg "MOST_DEEP"=Z' (.int 3 t)
 rows:∃ t,mg "MOST_ROWS"=Z' (.int 4 t)
 few:∃ t,mg "FEWEST_BRANCHES"=Z' (.int 2 t)
 most:∃ t,mg "MOST_BRANCHES"=Z' (.int 4 t)
 height:∃ t,mg "HEIGHT"=Z' (.int 0 t)
 least:∃ t,mg "LEAST"=Z' (.int 1 t)
 greatest:∃ t,mg "GREATEST"=Z' (.int 2 t)
 many:∃ t,mg "MANY"=Z' (.int 3 t)
 kept:∃ t,mg "KEPT"=Z' (.int 3 t)
theorem Py:ZC ["_law_well_here","_law_many","_law_found","_law_first","_law_second"] TZ (Zc GD):=Zo
theorem uo(F:Zl K "_law_pull" "_law_pull" GD f fd):-ZI ZJ 1 f fd TZ Z0:=by
 show F.ok Py (λz H Q E h=>?_) (λy A q s H z Q E G h=>?_)
 .let#[p,m,rfl,_]:=h;rfl
 let#[p,m,rfl,W,#[g,l],k]:=h;let#[a,b,c,d,n,i,j,r,D]:=W.ex;let o:=Py.nd;intro B;show#[_,ZK (Z4 (YO Vm (QD Z3 (pv 0) ZM (λ_ _=>rfl)) ZM (Z9 _)) (ZR (Zh ZM)) Z6)
  (ZK (Ko (Z5 Vg (QD Z3 (pv 0) ZM (λ_ _=>rfl)) ZM) 'ĸ')
  (ZK (Z4 (YO U9 (QD Z3 (pv 0) ZM (λ_ _=>rfl)) ZM (Z9 _))
   (ZK (Zf 2 o (Z5 O9 (QD Z3 (pv 0) ZM (λ_ _=>rfl)) (pv 1)))
   (ZK (Ko (Z5 sr (QD Z3 (pv 0) ZM (λ_ _=>rfl)) (pv 1)) 'ĸ')
   'y')) Z6)
  (ZK (Ko (Z5 Vn (QD Z3 (pv 0) ZM (λ_ _=>rfl)) ZM) 'ĸ')
  (ZK (Zf 3 o (Z5 O9 (Z5 NH (Z5 Vn (QD Z3 (pv 0) ZM (λ_ _=>rfl)) ZM) (Z5 Vn ZM (Z5 NH ZM (QD Z3 (pv 0) ZM (λ_ _=>rfl))))) ZM))
  (ZK (Zf 4 o (Z5 O9 (Z5 NH (Z5 Vn (Z5 KF (pv 3) ZM) ZM) (Z5 Vn (Z5 O9 (pv 3) ZM) ZM)) ZM))
  (ZR (Zh (Z5 O9 (Z5 KF (pv 4) ZM) (pv 1))))))))),?_]
 exists 1,p,_,_,1,Z,ZF.of n,Z,Z,_,Z;show UX (λ_=>?_) (λu=>?_)
 .show k 0 H (tY 0) g W (ZG.refl p H)
 let C:d≠0:=λe=>u (aJ (by rw[e]))
 exists 1,p,_,_,1,Z,ZF.of n,Z,_,1,Z,1,p,_,_,1,Z,n,Z;exists 1,p,_,_,1,Z,ZF.of Za,Z,_,1,Z,_,Z;show UX (λv=>?_) (λv=>?_)
 .exists 1,p,_,_,1,Z,ZF.of Za,Z,1,_,1,Z,g;exists 1,p,_,_,1,Z,ZF.of Za,Z,1,_,1,Z,#[g,l],1,p,_,_,1,Z,Za,Z;exists _,Z;show k (c%m) _ (vG _ ()) (uX _ g) #[a,b,c/m,d-1,Za,i,j,Int.ediv_nonneg r (),()] (ZG.refl p H).upd.upd
 .exists 1,p,_,_,1,Z,ZF.of Za,Z,_,1,Z,1,p,_,_,1,Z,Za,Z;exists 1,p,_,_,1,Z,ZF.of Za,Z,_,1,Z,1,p,_,_,1,Z,ZF.of Za,Z,_,1,Z,.inl #[by decide,by decide],_,1,Z,_,1,Z,.inl #[(),()],_,1,Z,(by change (0:Int)<2147483629;decide)
  generalize t:(a+1)*(48271+7919*(b+1))%2147483629=x;let I:0<=x:=by rwa[<-t,vG _ 'b']
  let J:x<2147483629:=by rwa[<-t,uX _ 'b']
  exists 1,_,1,Z,#[by decide,by decide],_,1,Z,1,_,1,Z,(by change (0:Int)<1009;decide),_,1,Z,_,1,Z,.inl #[(),()],_,1,Z,(by change (0:Int)<1000000007;decide)
  exists 1,_,1,Z,#[by decide,by decide],1,_,1,Z,g
  show k _ _ (vG _ ()) (uX _ g) #[a,b+1,c,d-1,Za,i,j,r,()] (ZG.refl p H).upd.upd
theorem Qm:ZC ["_law_well_here","_law_bound","_law_found","_law_j"] SX (Zc HD):=Zo
theorem B8(F:Zl K "_law_great" "_law_great" HD f fd)(T:YM mg)(v:'g'):-ZI ZJ 2 f fd SX Z0:=by
 show F.ok Qm (λG H Q E h=>?_) (λB A q s H G Q E x h=>?_)
 .let#[p,m,rfl,_]:=h;rfl
 let#[p,m,rfl,W,g,k]:=h;let#[a,b,c,d,C,_]:=W.ex;let o:=Qm.nd;intro J;show#[_,ZK (Z4 (YO U9 (QD Z3 (pv 0) ZM (λ_ _=>rfl)) ZM (Z9 _)) (ZR (Zh (Zd v x (Zi (pv 0) 'đ')))) Z6)
  (ZK (Zf 2 o ZM)
  (ZK (Vi PassesOwn.never Z (OZ Z T.range (Zi ZM Zt)) (VG 3 o)
   (ZR (Zf 2 o (Z5 Vn (Z5 NH (pv 2) ZM) (Zd v x 'E')))))
  (ZR (Zh (Z5 O9 (pv 2) (pv 1)))))),?_]
 exists 1,p,_,_,1,Z,ZF.of C,Z,_,1,Z,_,Z;show UX (λ_=>?_) (λ_=>?_)
 .show#[2,p,m,Z,W,g,k]
 show#[(8),Z,'b','b',OS (n:=8) (λi u e=>∃(z:Int)(j:jf),u=[Z' !p,Z' (-m),Z' (-z),j]/\ZN e p/\ZG p H e) #[(0),Y',Z,W,ZG.refl p H] ?_ ?_]
 .rintro i u e L ⟨z,j,rfl,l,t⟩;exists 1,_,1,Z,.inr #[by decide,by decide],1,p,(62500000),Z,l,Wl 'b' 'b'
  intro r I _ _ y D;show#[_,1,Z,_,1,y,t|||D]
 .rintro u e ⟨z,j,rfl,l,t⟩;exists 2,_,1,Z,g.1;show k _ _ (vG _ (by have:=g.1;lia)) (uX _ g.1) l t
def Yn:Str:= " \"\\~!#$&'()*+,-./0123456789:;<=>?@ABCDEFGHIJKLMNOPQRSTUVWXYZ[]^_`abcdefghijklmnopqrstuvwxyz{|}"
theorem oK:↑Yn.cps.toList=94:=by decide +kernel
theorem Fg:Yn.length=94:=by decide +kernel
theorem pj:Yn.cps.toList.all Ph=V':=by decide +kernel
theorem EY(a:0<=i)(b:i<94):∃ c,Xi Yn.cps.toList i\c/\Ph c=V':=by
 let#[c,e,m]:=NN (xs:=Yn.cps.toList) a #v[oK,b]
 show#[c,e,yM.mp pj c m]
noncomputable def VH(x:Str)(i:Nat):Prop:=x.cps.size<=i/\x.cps.toList.all Ph=V'
theorem VH.ok(h:VH x i)(a:i<=40):Nq x=V':=by
 unfold Nq;rwa[zI,#[aJ (zJ h.1 a),h.2]]
theorem VH.more(h:VH x i)(a:Ph c=V'):VH (x++(#[⇑[c]]:Str)) (i+1):=by
 let e:(x++(#[⇑[c]]:Str)).cps=x.cps++⇑[c]:=rfl;exists ?_
 .rwa[e,Array.size_append,vE h.1]
 .rw[e,Array.toList_append,List.all_append,h.2];simp[a]
abbrev Rp:jn:=["_law_well_here","_law_signs","_law_text_here","_law_few","_law_j","_law_sign"]
theorem Pl:ZC Rp TL (Zc HK):=Zo
theorem wk(F:Zl K "_law_text" "_law_text" HK f fd)(T:YM mg)(B:'g'):-ZI ZJ 2 f fd TL VJ:=by
 show F.ok Pl (λvs H Q E h=>?_) (λa2 A a1 s H vs Q E I h=>?_)
 .let#[p,rfl,_]:=h;rfl
 let#[p,rfl,W,k]:=h;let o:=Pl.nd;intro Xc;show#[_,ZK (Zf 1 o Q5) (ZK (Zf 2 o Q5)
  (ZK (Zf 3 o (Zd B I 'E'))
  (ZK (Vi PassesOwn.never Z (OZ Z T.range (Zi (Zd B I (Zi (pv 0) (Zi (QD Z3 'ù' (Zd B I 'E') (λ_ _=>rfl)) Zt))) Zt)) (VG 4 o)
   (ZK (Zf 5 o Q5)
   (ZK (Z4 (Kl (YO U9 (pv 3) ZM (Z9 _)) (Lg (YO Vm (Zd B I 'E') ZM (Z9 _)))).pt
    (ZR (Zf 5 o (QD DJ (pv 1) (Zd B I (Zi (pv 0) (Zi (QD Z3 'ù' (Z5 KF (pv 3) ZM) (λ_ _=>rfl)) Zt))) (λ_ _=>rfl)))) Z6)
   (ZR (Zf 2 o (Z5 lR (pv 2) (pv 5)))))))
  'y'))),?_]
 exists 1,p,(3),Z,W,Wl 'b' 'b'
 intro J H1 a3 a4 W1 s1;exists 1,(by change 2<=aq;decide)
 intro l X;let O:ZN (upd H1 l (.lst [.int 4,.int 41])) p:=W1.same (Zv X _);exists 1,p,(2),Z,O,Wl 'b' 'b'
 intro r H2 r0 r1 W2 s2;let a0:l≠p:=by
  let#[xs,e]:=W1.some;show(Zg e X).symm
 let a:H2 l\.lst [.int 4,.int 41]:=s2 l _ Za a0;let#[v,hv,Y]:=hU (x:=V.int 4) (y:=V.int 41) r0 r1;let hb:∃ z:Int,v=.int z/\0<z/\z<=41:=by
  rcases Y with e|e
  .show#[(4),e,'b',by decide]
  .show#[(41),e,'b',by decide]
 let#[z,rfl,z0,z1]:=hb;exists l,_,_,1,Z,ZF.of a,hv,p,z,Z,W2,Wl z0 ()
 intro n H3 n0 n1 W3 s3;let sA:ZG p H H3:=(s1|||ZG.of (Zv X _))|||s2.trans s3;show#[n,Z,(),(),OS (n:=n.toNat) (λi σ t=>∃(x:Str)(j g:jf),σ=[Z' !p,Z' (.str Yn),Z' (.str x),Z' (-J),j,g]/\VH x i/\ZN t p/\ZG p H t)
  #["",Y',Y',Z,#[by decide,by decide],W3,sA] ?_ ?_]
 .rintro i σ t hi ⟨x,j,g,rfl,N,C,q⟩;let m:∀(c:Nat)(b:Hp),Ph c=V'->ZN b p->ZG p H b->∃(y:Str)(j g:jf),[Z' (V.ref p),Z' (.str Yn),Z' (.str (x++(#[⇑[c]]:Str))),Z' (-J),Z' (.int (0+(i:Int))),Z' (.str #[⇑[c]])]=[Z' !p,Z' (.str Yn),Z' (.str y),Z' (-J),j,g]/\VH y (i+1)/\ZN b p/\ZG p H b:=
   λc b G D L=>#[_,_,1,N.more G,D,L]
  let d:∀ c:Nat,↑x+↑(#[⇑[c]]:Str)<=sizeLine:=λc=>by
   let h1:↑x<=i:=N.1;let h2:↑(#[⇑[c]]:Str)=1:=rfl;rwa[h2,nn ()]
  let M:∀ b,ZN b p->ZG p H b->∃(v:Int),0<v/\v<=94/\Xi [V.int 94,V.int 5] (J/2)\.int v:=λb _ _=>by
   let#[v,e,h]:=hU (x:=V.int 94) (y:=V.int 5) (i:=J/2) () ()
   rcases h with rfl|rfl
   .show#[(94),'b','b',e]
   .show#[(5),'b','b',e]
  exists 1,_,1,Z,_,Z;show UX (λ_=>?_) (λ_=>?_)
  .show Z2 ?_;exists 2,(by change 2<=aq;decide)
   intro l2 a;let#[v,v0,v1,U]:=M t C q;exists 1,_,1,Z,#[by decide,by decide],l2,_,_,1,Z,ZF.of Za,U,p,v,Z,C.same (Zv a _),Wl v0 ()
   intro u b u0 u1 D L;let#[c,S,G]:=EY u0 ()
   exists Yn,_,c,Z,Z,#v[Fg,nn 'b'],S
   show#[2,_,1,Z,d c,m c b G D ((q|||ZG.of (Zv a _))|||L)]
  .show#[1,p,(8),Z,C,Wl 'b' 'b',λy H6 _ _ R s6=>#[Z,1,?_]]
   show UX (λ_=>?_) (λ_=>?_)
   .exists 2,(by change 2<=aq;decide)
    intro l2 a;let#[v,v0,v1,U]:=M H6 R (q|||s6);exists 1,_,1,Z,#[by decide,by decide],l2,_,_,1,Z,ZF.of Za,U,p,v,Z,R.same (Zv a _),Wl v0 ()
    intro u b u0 u1 D L;let#[c,S,G]:=EY u0 ()
    exists Yn,_,c,Z,Z,#v[Fg,nn 'b'],S
    show#[2,_,1,Z,d c,m c b G D (((q|||s6)|||ZG.of (Zv a _))|||L)]
   .show#[2,_,1,Z,d 97,m 97 H6 'b' R (q|||s6)]
 .rintro σ t ⟨x,j,g,rfl,N,C,q⟩;show#[1,k x t (N.ok ()) C q]
theorem NB:ZC ["_law_well_here","_law_room","_law_way"] TH (Zc KM):=Zo
theorem qo:-ZI ZJ k f fd TH (Xg 0):=by
 let c:∀ a H Q E,¬ Xg 0 a H Q E:=λa H Q E h=>by
  let#[p,r,_,_,d,_]:=h
  lia
 show#[λa H Q E h=>gS h '@',λA b s H args e a Q E _ _ _ _ h=>gS h '@']
theorem yb(F:Zl K "_law_key" "_law_key" KM f fd)(T:YM mg)(DP:'g')(DG:-ZA 2 "_law_great" SX Z0)(DT:-ZA 2 "_law_text" TL VJ)(DK:-ZA (n+2) "_law_key" TH (Xg n)):-ZI ZJ (n+3) f fd TH (Xg (n+1)):=by
 show F.ok NB (λvs H Q E h=>?_) (λa1 A a0 s H vs Q E hr h=>?_)
 .let#[p,r,rfl,_]:=h;rfl
 let#[p,r,rfl,W,hn,k]:=h;let nd:=NB.nd;let q:=hr.mono (show 1<=n+2 by lia)
 let L:=hr.mono (show 2<=n+2 by lia)
 intro Xc;show#[_,ZK (Zf 2 nd (Zd DP q (Zi (pv 0) (Zi ZM Zt))))
  (ZK (Z4 'ş' (ZR (Zh (Z5 Vg (Zd DP q 'E') ZM))) Z6)
  (ZK (Z4 'Ş' (ZR (Zh (Z5 Vn (Z5 Vg (Zd DG L (Zi (pv 0) (Zi (Z5 Vg (Z5 NH ZM 'ķ') ZM) Zt))) 'ķ') ZM))) Z6)
  (ZK (Z4 (Kl 'ş' (Lg (YO Vm (pv 1) ZM (Z9 _)))).pt (ZR (Zh (Zd DT L 'q'))) Z6)
  (ZR (Zh (UZ N2 Z T.tuple OX (Zi (Vt [0,1] TH Z (OZ Z T.range (Zi (Zd DP q 'E') Zt)) (λ_ _ _ _ _=>Ut)
   (λ_ _ _ _ _=>Zd DK hr (Zi (pv 1) (Zi (Z5 Vg (pv 2) ZM) Zt))) #[Z,.inl Z,Z,Z,.inl Z,Z,trivial]) Zt))))))),?_]
 exists 1,p,(8),Z,W,Wl 'b' 'b'
 intro y H1 y0 y1 S Y;exists 1,_,1,Z,_,Z;show UX (λ_=>?_) (λc1=>?_)
 .show#[1,p,(41),Z,S,Wl 'b' 'b',λu j u0 u1 d C=>#[_,1,Z,?_]]
  show k (.int (u-20)) (.int (u-20)) j (ZD.int _) ?_ d (Y|||C);rw[KT.fits];let e:(10:Nat)^60>1000:=by decide
  show aJ ()
 exists 1,Z,_,Z;show UX (λ_=>?_) (λc2=>?_)
 .exists 1,_,1,Z,#[by decide,'b',by decide],_,1,Z,.inl #[by decide,by decide],_,1,Z,p,1,S,Wl (by decide +kernel) (by decide +kernel)
  intro u j u0 u1 d C;exists _,1,Z,#[by decide,'b',by decide],_,1,Z,_,1,Z
  show k _ (.int _) j (ZD.int _) ?_ d (Y|||C);let e:((10:Int)^(60:Int).toNat)=((10^60:Nat):Int):=by decide +kernel
  rw[e] at u1;rw[KT.fits,e];generalize (10^60:Nat)=N at *;show aJ ()
 let O:VJ ([!p]++[]) H1 Q E0:=#[p,Z,S,λx j hx d C=>k (.str x) (.str x) j (ZD.str x) #v[KT.fits,hx] d (Y|||C)]
 exists 1,_,1,Z,_,Z;show UX (λ_=>?_) (λ_=>?_)
 .show Z2 #[1,O]
 exists 1,Z,_,Z;show UX (λ_=>?_) (λc3=>?_)
 .show#[1,O]
 let r0:r≠0:=λe=>c3 (aJ (by rw[e];rfl))
 show#[1,p,(5),Z,S,Wl 'b' 'b',λu j u0 u1 d C=>#[u,Z,(),(),?_]]
 let sB:ZG p H j:=Y|||C;show Ul (n:=u.toNat) (λi x=>x=.int (0+(i:Int))) (λD i a c=>ZN c p/\ZG p H c/\D≠p/\H D=Y'/\∃ G,jO c G a/\↑G=i/\fitsL G (r-1)=V') (Yq ())
  (λD i a c hi _=>hi) (λD i a c x m hi _ hy=>hy) (λD a c _=>zY _) (λD J=>?_) (λD i a c x eD hl hi hx hP R hR=>?_) (λD a c eD hP=>?_)
 .let B:D≠p:=by
   let#[xs,e]:=d.some;show(Zg e J).symm
  let M:H D=Y':=by
   cases e:H D with
   |none=>rfl
   |some o=>erw[sB D o e B] at J
  show#[d.same (Zv J _),sB|||ZG.of (Zv J _),B,M,[],.nil,Z,by rw[fitsL]]
 .let#[U,s3,B,M,G,hk,g,X]:=hP;let er:(r:Int)-1=((r-1:Nat):Int):=()
  exists 2,_,1,Z,p,r-1,congrArg (λz=>[V.ref p,V.int z]) er,U,by lia
  intro v t m hv ht W4 s4;let I:=s4 D _ eD B;let sD:ZG D m (upd m D (.lst (a++[v]))):=(ZG.refl D m).upd;let tD:Z1 m (upd m D (.lst (a++[v]))):=sD.tups I;show hR v m I #[W4.stay sD B.symm,λb o e n=>?_,B,M,G++[t],((jO.mono (s4.tupsW U) _ _ hk).append (.cons hv .nil)).mono tD _ _,by simp[g],?_]
  .rwa[ZU (Zg e M),(s3|||s4) b o e n]
  .rw[MI] at X⊢;rw[List.all_append,X];simp[ht]
 .let#[U,s3,B,M,G,hk,g,X]:=hP;show#[D,a,Z,.inl #[ZF.of eD,λl hl=>?_]];let sl:=Zv hl (.tup a);show k (!l) (.tup G) _ (.tup Za (hk.sm sl)) ?_ (U.same sl) (s3|||ZG.of sl);rwa[KT.fits,X,rH,zI,#[aJ (),aJ ()]]
abbrev Rb:jn:=["_law_script","_law_k","_law_left","_law_cell","_law_digits"]
theorem Pt:ZC Rb Tl (Zc HB):=Zo
theorem wq(F:Zl K "_law_well" "_law_well" HB f fd)(T:YM mg):-ZI ZJ 1 f fd Tl (VO K):=by
 show F.ok Pt (λvs H Q E h=>?_) (λX A L s H vs Q E hr h=>?_)
 .let#[a,g,k,rfl,_]:=h;rfl
 let#[a,g,k,rfl,u,hn,k0,k1,q]:=h;let J:=Pt.nd;intro Xc;show#[_,ZK (Zf 2 J (QD Z3 'ù' (UZ KO Z T.int O8 (Zi (V4 Vm (pv 1) ZM (Z9 _)) Zt)) (λ_ _=>rfl)))
  (ZK (Zf 3 J (QD Z3 (Z5 LV (UZ Nv Z T.list OU 'q') (Yy (Zi ZM Zt))) (Z5 O9 (pv 1) (YA (GF Z) Z T.max Ji (Zi ZM (Zi '>' Zt)))) (λ_ _=>rfl)))
  (ZK (Zf 4 J (Z5 NH 'į' (UZ KO Z T.int O8 (Zi (OH (V4 Rv 'į' 'ķ' (Z9 _)) (O2 (V4 NM (pv 1) '>' (Z9 _)))) Zt))))
  (ZR (Zh (Yy (Zi (Z5 O9 (pv 3) ZM) (Zi (Z5 NH ZM (pv 1)) (Zi (pv 4) (Zi (pv 2) Zt))))))))),?_]
 exists (by change 2<=aq;decide)
 intro l1 v;let O:=Zv v (.lst [V.int 240,V.int 2400]);show#[1,Z,.inr #[1,?_]];obtain⟨lv,t,D⟩:∃ z:Int,Xi [V.int 240,V.int 2400] (if gU (V.int k=V.int 0)=V' then 1 else 0)\.int z/\0<=z:=by
  split
  .show#[(2400),Z,by decide]
  .show#[(240),Z,by decide]
 exists l1,_,_,1,Z,ZF.of Za,t;exists 1,a,1,.inl (O.seq u);intro S y;let g2:=O|||Zv y (.lst (g.map V.int));exists (by change 1<=aq;decide)
 intro U n;let g3:=g2|||Zv n (.lst [V.int 0]);let I:S≠U:=Zg Za n;exists S,U,_,1,Z,#v[ZU I,Za],Za,#v[zW,nn (by change ↑g+1<=1000;lia)]
 intro l4 B;let p:=g3|||Zv B (.lst (g.map V.int++[V.int 0]));exists 2,a,1,.inl (p.seq u),_,_,Z;let C:↑(g.map V.int)=↑g:=zW _;generalize R:(if ((↑(g.map V.int):Nat):Int)>1 then ((↑(g.map V.int):Nat):Int) else 1)=M
 let M1:1<=M/\M<=(↑g:Int)+1:=by
  rw[C] at R;rw[<-R];split<;>lia
 exists _,1,Z,by lia
 let i0:0<=k%M:=vG _ ()
 let i1:k%M<M:=uX _ ()
 let#[Y,r,G]:=NN (xs:=g.map V.int++[V.int 0]) i0 (by rw[zR,zW,xV];lia)
 obtain⟨c,rfl⟩:∃ z:Int,Y=.int z:=by
  rcases zM.mp G with m|m
  .let#[z,_,e]:=zQ.mp m;show#[z,e.symm]
  .show#[(0),zV.mp m]
 exists l4,_,_,1,Z,ZF.of Za,r;let l:∀ b:Bool,0<=(if c<0 then -(c) else c)*(if b=V' then 1 else 0):=λb=>by
  cases b
  .simp
  .simp;split<;>lia
 let N:∀(x:Int)(b:Bool),OW x (if b=V' then 1 else 0):=λx b=>.inr (by cases b<;>show#[by decide,by decide])
 let j:∀(z:Int)(o:Hp),0<=z->ZE H o->∀ i,o i=Y'->Q (!i) (upd o i (.lst [.int (c%2147483647),.int (1000*k),-z,-lv])):=λz o z0 W i d=>
  q i _ (W.free d) (W|||Zv d _) #[_,_,_,_,Za,vG _ 'b',uX _ 'b',z0,D]
 exists 4,_,1,Z,#[by decide,'b',by decide],_,1,Z,_,Z
 show UX (λ_=>?_) (λ_=>?_)
 .show#[2,a,1,.inl (p.seq u),_,1,Z,.inr #[1,_,1,Z,N _ _,?_]];exists 1,_,1,Z,(by change (0:Int)<2147483647;decide),1,_,1,Z,.inl #[by decide,by decide],2,(by change 4<=aq;decide)
  intro i d;show j _ _ (l _) p i d
 .show .inr #[1,_,1,Z,N _ false,?_];exists 1,_,1,Z,(by change (0:Int)<2147483647;decide),1,_,1,Z,.inl #[by decide,by decide],2,(by change 4<=aq;decide)
  intro i d;show j _ _ (l false) p i d
theorem zy:ZC Tq Tq (Zc Ig):=Zo
theorem As(F:Zl K "has_few_figures" "has_few_figures" Ig f fd)(T:YM mg):-ZI ZJ 1 f fd Tq Qq:=by
 show F.ok zy (λc H Q E h=>?_) (λb A a s H c Q E g h=>?_)
 .let#[i,rfl,_]:=h;rfl
 let#[i,rfl,q]:=h;intro d;exists _,ZR (Zh (V4 NM (YA Kq Z T.abs Jm 'q') 'ķ' (Z9 _)));exists 2,_,1,Z,#[by decide,'b',by decide],_,1,Z
 let e:=xz i;rw[<-e] at q;show q
theorem zd:ZC ["sign"] ["sign"] (Zc JG):=Zo
theorem tr(F:Zl K "is_sign" "is_sign" JG f fd):-ZI ZJ 1 f fd ["sign"] UO:=by
 show F.ok zd (λk H Q E h=>?_) (λi A d s H k Q E m h=>?_)
 .let#[c,rfl,_]:=h;rfl
 let#[c,rfl,q]:=h;intro l;exists _,ZR (Zh (pe Er Er Q5 (pv 0) Q5));let g:(wF " ").cps.toList=[32]:=by decide +kernel
 let j:(wF "~").cps.toList=[126]:=by decide +kernel
 let e:=pp c;exists 1,_,1,Z,_,Z;show UX (λb=>?_) (λb=>?_)
 .exists _,1,Z;let a:(!gU ([c]<[32]))=V':=by rwa[<-g,b]
  rw[a,tV] at e;rw[<-e,<-j] at q;show q
 .let a:(!gU ([c]<[32]))=false:=by rwa[<-g,Bool.eq_false_iff.mpr b]
  rw[a,tT] at e;rw[<-e] at q;show q
structure Zb(K:zZ)(mg:jb)(x:Str)(st:aC)(ps:jn):Prop where
 ex:∃ f fd,Zl K x x st f fd/\Zx K fd ps []/\mg x\!f
theorem Zb.of(L:Zb K d x i e)(h:∀ f c,Zl K x x i f c->ZI P w K d a ZJ k f c e g):ZA P w K d a k x e g:=by
 let#[f,c,F,b,m]:=L.ex;show#[f,c,h f c F,b,F.kp,m]
def Cj:jn->(jd->Prop)->Prop
 |[],p=>p []
 |_::j,p=>∀ a,Cj j λl=>p (a::l)
theorem LY(j):∀ p ,Cj j p->∀ a,↑a=↑j->p a:=by
 induction j with
 |nil=>intro p h a e;cases a;show h;cases e
 |cons x j b=>intro p h a e;cases a;cases e;show b _ (h _) _ (xR.inj e)
theorem Kf{o:jb}{s d:ju}{t:Array (jc)}{r kV p i n ct:ai}(X:K.In h)(G:h.Ns ap o)(a:yU K ap x\Z' !f)(l:K.lookup f\#[r,s,.func (xZ x x (QC b) (Xs b) (Zc b) .none kV p i d n ct),t])(c:wK K n x=V')(k:xX K (!f)=V')(q:∀  kV g i  (d:ju)  e ct  (m:jd),↑m=↑j->bindArgs (xZ x x (QC b) (Xs b) (Zc b) .none kV g i d e ct) #[m,[]]=pure (j.zip m):=by show λ_ _ _ _ _ _=>LY _ _ (by(repeat intro _);show Z)):Zb K o x b j:=
 #[f,_,Om (st:=b) l c k,(Om (st:=b) l c k).binds q,xY X G a]
theorem C5(T:YM mg)(L:Zb K mg "_law_key" KM TH)(b:'g')(a:-ZA 2 "_law_great" SX Z0)(c:-ZA 2 "_law_text" TL VJ):∀ n,ZA P w K mg jW (n+2) "_law_key" TH (Xg n)
 |0=>L.of λ_ _ _=>qo
 |n+1=>L.of λ_ _ F=>yb F T b a c (C5 T L b a c n)
theorem vy:ZC Ty Ty (Zc Lq):=Zo
theorem mL:-ZI ZJ k f fd Ty (WR 0):=by
 let c:∀ a H Q E,¬ WR 0 a H Q E:=λa H Q E h=>by
  let#[v,t,r,q,_,_,_,d,_]:=h
  lia
 show#[λa H Q E h=>gS h '@',λA b s H args e a Q E _ _ _ _ h=>gS h '@']
theorem Bo(F:Zl K "fits" "fits" Lq f fd)(T:YM mg)(DW:'Ţ')(DS:-ZA 1 "is_sign" ["sign"] UO)(DF:-ZA (n+1) "fits" Ty (WR n)):-ZI ZJ (n+2) f fd Ty (WR (n+1)):=by
 show F.ok vy (λp H Q E h=>?_) (λa3 A a2 s H p Q E hr h=>?_)
 .let#[v,t,r,q,rfl,_]:=h;rfl
 let#[v,t,r,q,rfl,g,hq,hn,k]:=h;let W:=hr.mono (show 1<=n+1 by lia)
 let#[t1,m1]:=T.signs;let#[t2,m2]:=T.things;intro Xc;show#[_,ZK (Z4 (Xk (YA QE Z T.isi Qa (Zi (pv 0) (Zi (QH (v:=.ty "bool") Z T.bool Fp Z) Zt)))) 'ì' Z6)
  (ZK (Z4 (Xk (YA QE Z T.isi Qa (Zi (pv 0) (Zi (QH (v:=.ty "int") Z T.int O8 Z) Zt)))) (ZR (Zh (Zd DW W 'q'))) Z6)
  (ZK (Z4 (Xk (YA QE Z T.isi Qa (Zi (pv 0) (Zi (QH (v:=.ty "str") Z T.str Mv Z) Zt))))
   (ZR (Zh (OH (V4 NI (YA kG Z T.len XE 'q') (Xp (v:=.int 40) Z m1 #[_,Z]) (Z9 _))
    (O2 (YA (Ld Z) Z T.all Kh (Zi (Vt [] [] Z (yo (pv 0)) (λ_ _ _ _ _=>Ut) (λ_ _ _ _ _=>Zd DS W 'q') trivial) Zt)))))) Z6)
  (ZK (Z4 (Xk (YA QE Z T.isi Qa (Zi (pv 0) (Zi (QH (v:=.ty "tuple") Z T.tuple OX Z) Zt))))
   (ZR (Zh (OH (V4 U9 (pv 1) ZM (Z9 _)) (OH (V4 NI '>' (Xp (v:=.int 4) Z m2 #[_,Z]) (Z9 _))
    (O2 (YA (Ld Z) Z T.all Kh (Zi (Vt [1] ["room"] Z (ID (pv 0)) (λ_ _ _ _ _=>Ut) (λ_ _ _ _ _=>Zd DF hr (Zi (pv 0) (Zi (Z5 Vg (pv 1) ZM) Zt))) #[Z,.inl Z,Z,trivial]) Zt))))))) Z6)
  'ì'))),?_]
 cases t with
 |int i=>
  let ev:v=.int i:=by rw[ZD] at g;show g
  subst ev;show#[1,_,_,_,1,g.ty,EG,1,Zq ?_];show#[1,_,_,_,1,g.ty,Kk,1,Z2 ?_];let u:=k H 'Ā';rw[KT.fits] at u;show#[1,i,Z,u]
 |str x=>
  let ev:v=.str x:=by rw[ZD] at g;show g
  subst ev;let hx:Nq x=V':=by rw[KT.fits] at hq;show hq
  let B:=hx;unfold Nq at B;rw[zI] at B;let O:↑x<=40:=of_decide_eq_true B.1;show#[1,_,_,_,1,g.ty,za,1,Zq ?_];show#[1,_,_,_,1,g.ty,K1,1,Zq ?_];show#[1,_,_,_,1,g.ty,LR,1,Z2 ?_];exists 1,x,Z,nn (),_,1,Z,_,Z
  rw[aM (aJ (show (↑x:Int)<=40 by lia))]
  exists 1,x,Z;let a7:x.cps.size<=40:=O;show Ul (n:=x.cps.size) (λi z=>∃ c,x.cps[i]?\c/\z=.str #[⇑[c]]) (λD i m d=>ZE H d/\H D=Y'/\m=((x.cps.toList.take i).map Ph).map V.bl) (Yq ())
   (λD i m d J _=>J) (λD i m d z H4 J _ hy=>hy) (λD m d _=>rfl) (λD N=>#[Zv N _,N,Z]) (λD i m d z G hl J hz j R hR=>?_) (λD m d G j=>?_)
  .let#[c,hc,rfl]:=hz;let#[C,L,rfl]:=j;exists 1,c,Z;show hR _ d G #[λb o e=>#v[ZU (Zg e L),C b o e],L,?_]
   let a0:x.cps.toList[i]?\c:=#v[hc]
   rw[yR,a0];simp
  .let#[C,L,rfl]:=j;exists D,1,ZF.of G;let u:=k d C;rw[KT.fits,hx] at u;let M:(x.cps.toList.take x.cps.size)=x.cps.toList:=zA ⋯
   rw[M];let I:(x.cps.toList.map Ph).all id=V':=#v[uD,B.2]
   rwa[I,u]
 |tup l=>
  let X:=g;rw[ZD] at X;let#[a,p,rfl,I,Y]:=X;let hl:=↑Y;rw[KT.fits,zI,zI] at hq;let#[a6,S,U]:=hq;let a5:↑l<=4:=of_decide_eq_true S;show#[1,_,_,_,1,g.ty,xy,1,Zq ?_];show#[1,_,_,_,1,g.ty,IC,1,Zq ?_];show#[1,_,_,_,1,g.ty,HU,1,Zq ?_];show#[1,_,_,_,1,g.ty,Iw,1,Z2 ?_];exists 1,_,1,Z,_,Z;show UX (λc1=>?_) (λc1=>?_)
  .let r0:0<r:=by
    have:=of_decide_eq_true c1
    lia
   exists 1,a,p,Z,.inr (Zp.of I),_,1,Z,_,Z;rw[aM (aJ (show ((↑p:Nat):Int)<=4 by lia))]
   exists 1,a,Z,#[p,Zp.of I];show Ul (n:=↑p) (λi z=>p[i]?\z) (λD i m d=>ZE H d/\H D=Y'/\m=((l.take i).map λt=>t.fits (r-1)).map V.bl) (Yq ())
    (λD i m d J j=>#[p,p[i],Zp.of (j.1 _ _ I),by simp[J]]) (λD i m d z H4 J j hy=>#[hy.1,hy.2 p (Zp.of (j.1 _ _ I))]) (λD m d j=>#[p,Zp.of (j.1 _ _ I),zY _])
    (λD N=>#[Zv N _,N,Z]) (λD i m d z G a4 J hz j R hR=>?_) (λD m d G j=>?_)
   .let#[C,L,rfl]:=j;let#[t,M,kt]:=Y.get hz;let er:(r:Int)-1=((r-1:Nat):Int):=()
    let a1:t.fits (q-1)=V':=by
     rw[MI] at U;show yM.mp U t (zG M)
    exists 2,_,1,Z,z,t,r-1,q-1,congrArg (λy=>[z,V.int y]) er,kt.sm C,a1,by lia
    intro H4 s4;show hR _ H4 (s4 D _ G) #[λb o e=>#v[ZU (Zg e L),s4 b o (C b o e)],L,?_]
    rw[yR,M];simp
   .let#[C,L,rfl]:=j;exists D,1,ZF.of G;let u:=k d C;rw[KT.fits,aJ r0,tV,S,tV,MI] at u;let M:l.take ↑p=l:=zA ()
    rwa[M,uD,u]
  .let r0:r=0:=by
    have:¬ ((0:Int)<(r:Int)):=λz=>c1 (aJ z)
    lia
   subst r0;let u:=k H 'Ā';rw[KT.fits] at u;show u
theorem u3:ZC TU TU (Zc Hj):=Zo
theorem pM(F:Zl K "is_key" "is_key" Hj f fd)(T:YM mg)(b:-ZA 5 "fits" Ty (WR 4)):-ZI ZJ 6 f fd TU UP:=by
 show F.ok u3 (λj H Q E h=>?_) (λc A a s H j Q E e h=>?_)
 .let#[v,t,q,rfl,_]:=h;rfl
 let#[v,t,q,rfl,g,d,k]:=h;let#[m,i]:=T.deep;intro l;exists _,ZR (Zh (Zd b e (Zi (pv 0) (Zi (Xp (v:=.int 3) Z i #[_,Z]) Zt))));show#[1,v,t,(3),q,Z,g,d,'b',k]
theorem Gq(T:YM mg)(L:Zb K mg "fits" Lq Ty)(b:'Ţ')(a:-ZA 1 "is_sign" ["sign"] UO):∀ n,ZA P w K mg jW (n+1) "fits" Ty (WR n)
 |0=>L.of λ_ _ _=>mL
 |n+1=>L.of λ_ _ F=>Bo F T b a (Gq T L b a n)
inductive Qe(n:Nat)(c:je)(H:Hp)(Q:VK)(_:XK):Prop
 |mk(v:V)(t:KT)(q:Nat)(_:c=[v])(_:ZD H t v)(_:t.fits q=V')(_:t.depth<n)(_:∀(b:V)(a:Hp),ZD a t.st b->ZE H a->Q b a)
inductive Y5(d:je)(H:Hp)(Q:VK)(_:XK):Prop
 |mk(v u:V)(a b:KT)(_:d=[v,u])(_:ZD H a v)(_:ZD H b u)(_:a.fits 3=V')(_:b.fits 3=V')(_:∀ c,ZE H c->Q (.bl (a.lt b)) c)
theorem lF:ZC TK TK (Zc Lx):=Zo
theorem xa:-ZI ZJ k f fd TK (Qe 0):=by
 let c:∀ a H Q E,¬ Qe 0 a H Q E:=λa H Q E h=>by
  let#[v,t,q,_,_,_,d,_]:=h
  lia
 show#[λa H Q E h=>gS h '@',λA b s H args e a Q E _ _ _ _ h=>gS h '@']
theorem kX(F:Zl K "standing" "standing" Lx f fd)(T:YM mg)(DS:-ZA (n+1) "standing" TK (Qe n)):-ZI ZJ (n+2) f fd TK (Qe (n+1)):=by
 show F.ok lF (λg H Q E h=>?_) (λa2 A a1 s H g Q E hr h=>?_)
 .let#[v,t,q,rfl,_]:=h;rfl
 let#[v,t,q,rfl,d,hq,hn,k]:=h;intro Xc;show#[_,ZK (Z4 (Xk (YA QE Z T.isi Qa (Zi (pv 0) (Zi (QH (v:=.ty "int") Z T.int O8 Z) Zt)))) 'Ķ' Z6)
  (ZK (Z4 (Xk (YA QE Z T.isi Qa (Zi (pv 0) (Zi (QH (v:=.ty "str") Z T.str Mv Z) Zt)))) 'Ķ' Z6)
  (ZR (Zh (UF (Zi ZM (Zi (UZ N2 Z T.tuple OX (Zi (Vt [] [] Z (ID (pv 0)) (λ_ _ _ _ _=>Ut) (λ_ _ _ _ _=>Zd DS hr 'q') trivial) Zt)) Zt)))))),?_]
 cases t with
 |int i=>
  let N:v=.int i:=by rw[ZD] at d;show d
  subst N;show#[1,_,_,_,1,d.ty,Kk,1,Z2 ?_];exists 1,(by change 2<=aq;decide)
  intro p U;show k _ _ ?_ (Zv U _);rwa[KT.st,.tup Za (.cons (.int 0) (.cons (-i) .nil))]
 |str x=>
  let N:v=.str x:=by rw[ZD] at d;show d
  subst N;show#[1,_,_,_,1,d.ty,K1,1,Zq ?_];show#[1,_,_,_,1,d.ty,LR,1,Z2 ?_];exists 1,(by change 2<=aq;decide)
  intro p U;show k _ _ ?_ (Zv U _);rwa[KT.st,.tup Za (.cons (.int 1) (.cons (.str x) .nil))]
 |tup l=>
  let C:=d;rw[ZD] at C;let#[a,g,rfl,I,G]:=C;let hl:=↑G;rw[KT.fits,zI,zI] at hq;let#[a6,X,B]:=hq;let a5:↑l<=4:=of_decide_eq_true X;rw[KT.depth] at hn;show#[1,_,_,_,1,d.ty,IC,1,Zq ?_];show#[1,_,_,_,1,d.ty,HU,1,Zq ?_];exists 1,a,Z,#[g,Zp.of I];show Ul (n:=↑g) (λi z=>g[i]?\z) (λD i m r=>ZE H r/\H D=Y'/\jO r ((l.take i).map KT.st) m) (Yq ())
   (λD i m r S j=>#[g,g[i],Zp.of (j.1 _ _ I),by simp[S]]) (λD i m r z u S j hy=>#[hy.1,hy.2 g (Zp.of (j.1 _ _ I))]) (λD m r j=>#[g,Zp.of (j.1 _ _ I),zY _])
   (λD hD=>#[Zv hD _,hD,.nil]) (λD i m r z M a4 S hz j R hR=>?_) (λD m r M j=>?_)
  .let#[L,nD,c]:=j;let#[t,J,kt]:=G.get hz;let mt:=zG J;let Y:t.fits (q-1)=V':=by
    rw[MI] at B;show yM.mp B t mt
   let a3:=OY mt;exists 1,z,t,q-1,Z,kt.sm L,Y,by lia
   intro v' u k4 s4;let y:=s4 D _ M;let tD:Z1 u (upd u D (.lst (m++[v']))):=(ZG.refl D u).upd.tups y;show hR v' u y #[λb o e=>#v[ZU (Zg e nD),s4 b o (L b o e)],nD,?_]
   rwa[yR,J,zH,((c.sm s4).append (.cons k4 .nil)).mono tD _ _]
  .let#[L,nD,c]:=j;let J:l.take ↑g=l:=zA ()
   rw[J] at c;let a0:=↑c;rw[zW] at a0;show#[D,m,Z,.inl #[ZF.of M,λp1 V=>?_]];let g1:=Zv V (.tup m);exists (by change 2<=aq;decide)
   intro p2 W;let O:=Zv W (.tup [.int 2,!p1]);show k _ _ ?_ ((L|||g1)|||O);rwa[KT.st,CL,.tup Za (.cons (.int 2) (.cons (.tup (O _ _ Za) (c.sm (g1|||O))) .nil))]
theorem ET(T:YM mg)(L:Zb K mg "standing" Lx TK):∀ n,ZA P w K mg jW (n+1) "standing" TK (Qe n)
 |0=>L.of λ_ _ _=>xa
 |n+1=>L.of λ_ _ F=>kX F T (ET T L n)
theorem ug:ZC TB TB (Zc Kp):=Zo
theorem qg(F:Zl K "ahead" "ahead" Kp f fd)(e:-ZA 6 "standing" TK (Qe 5)):-ZI ZJ 7 f fd TB Y5:=by
 show F.ok ug (λt H Q E h=>?_) (λn A d s H t Q E c h=>?_)
 .let#[v,u,a,b,rfl,_]:=h;rfl
 let#[v,u,a,b,rfl,o,p,g,i,k]:=h;intro y;exists _,ZR (Zh (V4 (y' c) (Zd e c 'q') (Zd e c 'đ') (Z9 _)));let z:=Vo a 3 g;let B:=Vo b 3 i;let C:=Cq a;exists 1,v,a,(3),Z,o,g,by lia
 intro D x q j;exists 1,u,b,(3),Z,p.sm j,i,by lia
 intro G m r l;exists a.st,b.st,q.sm l,r,FY a b,by lia
 rwa[EL,k m (j|||l)]
mutual
noncomputable def KT.wide:KT->Nat->Bool
 |.int _,_=>true
 |.str _,_=>true
 |.tup l,r=>gU (0<r)&&(gU (↑l<=400)&&wideL l (r-1))
noncomputable def wideL:jm->Nat->Bool
 |[],_=>true
 |t::l,r=>t.wide r&&wideL l r
end
theorem Ir:∀ l  r ,wideL l r=l.all (·.wide r)
 |[],r=>by rw[wideL];rfl
 |t::l,r=>by rw[wideL,Ir l r];rfl
mutual
theorem Cp:∀(t:KT)(r:Nat),t.fits r=V'->t.wide r=V'
 |.int _,_,_=>by rw[KT.wide]
 |.str _,_,_=>by rw[KT.wide]
 |.tup l,r,h=>by
  rw[KT.fits,zI,zI] at h;rw[KT.wide,zI,zI];have:=of_decide_eq_true h.2.1;show#[h.1,aJ (),wideL_of l (r-1) h.2.2]
theorem wideL_of:∀(l:jm)(r:Nat),fitsL l r=V'->wideL l r=V'
 |[],_,_=>by rw[wideL]
 |t::l,r,h=>by
  rw[fitsL,zI] at h;rwa[wideL,zI,#[Cp t r h.1,wideL_of l r h.2]]
end
theorem Ij(c:∀ a H Q E,¬ d a H Q E):-ZI ZJ k f fd e d:=
 #[λa H Q E h=>gS h '@',λA b s H args g a Q E _ _ _ _ h=>gS h '@']
theorem w5:ZC TV TV (Zc Lu):=Zo
mutual
noncomputable def KT.rk:KT->KT
 |.int i=>.tup [.int 0,-i,.str "",.tup []]
 |.str x=>.tup [.int 1,.int 0,.str x,.tup []]
 |.tup l=>.tup [.int 2,.int 0,.str "",.tup (rkL l)]
noncomputable def rkL:jm->jm
 |[]=>[]
 |t::l=>t.rk::rkL l
end
theorem GZ:∀ l,rkL l=l.map KT.rk
 |[]=>by rw[rkL];rfl
 |t::l=>by rw[rkL,GZ l];rfl
mutual
theorem Ea:∀ a b:KT,a.rk.eqb b.rk=a.eqb b
 |.int i,.int j=>by simp[KT.rk,KT.eqb,jQ]
 |.str x,.str y=>by simp[KT.rk,KT.eqb,jQ]
 |.tup l,.tup m=>by simp[KT.rk,KT.eqb,jQ,eqbL_rk l m]
 |.int _,.str _=>by simp[KT.rk,KT.eqb,jQ]
 |.int _,.tup _=>by simp[KT.rk,KT.eqb,jQ]
 |.str _,.int _=>by simp[KT.rk,KT.eqb,jQ]
 |.str _,.tup _=>by simp[KT.rk,KT.eqb,jQ]
 |.tup _,.int _=>by simp[KT.rk,KT.eqb,jQ]
 |.tup _,.str _=>by simp[KT.rk,KT.eqb,jQ]
theorem eqbL_rk:∀ l m:jm,jQ (rkL l) (rkL m)=jQ l m
 |[],[]=>by simp[rkL,jQ]
 |a::l,b::m=>by simp[rkL,jQ,Ea a b,eqbL_rk l m]
 |[],_::_=>by simp[rkL,jQ]
 |_::_,[]=>by simp[rkL,jQ]
end
mutual
theorem CY:∀ a b:KT,a.rk.cmp b.rk=V'
 |.int i,.int j=>by simp[KT.rk,KT.eqb,KT.cmp,cmpL,jQ]
 |.str x,.str y=>by simp[KT.rk,KT.eqb,KT.cmp,cmpL,jQ]
 |.tup l,.tup m=>by simp[KT.rk,KT.eqb,KT.cmp,cmpL,cmpL_rk l m]
 |.int _,.str _=>by simp[KT.rk,KT.eqb,KT.cmp,cmpL]
 |.int _,.tup _=>by simp[KT.rk,KT.eqb,KT.cmp,cmpL]
 |.str _,.int _=>by simp[KT.rk,KT.eqb,KT.cmp,cmpL]
 |.str _,.tup _=>by simp[KT.rk,KT.eqb,KT.cmp,cmpL]
 |.tup _,.int _=>by simp[KT.rk,KT.eqb,KT.cmp,cmpL]
 |.tup _,.str _=>by simp[KT.rk,KT.eqb,KT.cmp,cmpL]
theorem cmpL_rk:∀ l m:jm,cmpL (rkL l) (rkL m)=V'
 |[],_=>by simp[rkL,cmpL]
 |_::_,[]=>by simp[rkL,cmpL]
 |a::l,b::m=>by
  rw[rkL,rkL,cmpL,cmpL_rk l m,CY a b];split<;>rfl
end
mutual
theorem Gk:∀ a b:KT,a.rk.plt b.rk=a.lt b
 |.int i,.int j=>by
  simp only[KT.rk,KT.eqb,KT.plt,pltL,jQ,KT.lt,beq_self_eq_true,if_true];by_cases h:i=j
  .subst h;simp
  .simp[h]
 |.str x,.str y=>by
  simp only[KT.rk,KT.eqb,KT.plt,pltL,jQ,KT.lt,beq_self_eq_true,if_true];by_cases h:x=y
  .subst h;simp
  .simp[h]
 |.tup l,.tup m=>by
  simp only[KT.rk,KT.eqb,KT.plt,pltL,KT.lt,beq_self_eq_true,if_true,eqbL_rk,pltL_rk l m]
  cases h:jQ l m with
  |true=>rw[aM rfl,FX h]
  |false=>rw[aK zP]
 |.int _,.str _=>by simp[KT.rk,KT.eqb,KT.plt,pltL,KT.lt]
 |.int _,.tup _=>by simp[KT.rk,KT.eqb,KT.plt,pltL,KT.lt]
 |.str _,.int _=>by simp[KT.rk,KT.eqb,KT.plt,pltL,KT.lt]
 |.str _,.tup _=>by simp[KT.rk,KT.eqb,KT.plt,pltL,KT.lt]
 |.tup _,.int _=>by simp[KT.rk,KT.eqb,KT.plt,pltL,KT.lt]
 |.tup _,.str _=>by simp[KT.rk,KT.eqb,KT.plt,pltL,KT.lt]
theorem pltL_rk:∀ l m:jm,pltL (rkL l) (rkL m)=ltL l m
 |[],[]=>by simp[rkL,pltL,ltL]
 |[],_::_=>by simp[rkL,pltL,ltL]
 |_::_,[]=>by simp[rkL,pltL,ltL]
 |a::l,b::m=>by rw[rkL,rkL,pltL,ltL,Ea a b,pltL_rk l m,Gk a b]
end
mutual
theorem Jq:∀ t:KT,t.rk.depth<=2*t.depth+2
 |.int i=>by simp[KT.rk,KT.depth,jR]
 |.str x=>by simp[KT.rk,KT.depth,jR]
 |.tup l=>by
  have:=depthL_rk l;simp only[KT.rk,KT.depth,jR]
  lia
theorem depthL_rk:∀ l:jm,jR (rkL l)<=2*jR l+2
 |[]=>by simp[rkL,jR]
 |t::l=>by
  let a:=Jq t;let b:=depthL_rk l;rw[rkL,jR,jR]
  lia
end
inductive WL(n:Nat)(c:je)(H:Hp)(Q:VK)(_:XK):Prop
 |mk(v:V)(t:KT)(q:Nat)(_:c=[v])(_:ZD H t v)(_:t.fits q=V')(_:t.depth<n)(_:∀(b:V)(a:Hp),ZD a t.rk b->ZE H a->Q b a)
theorem yh:ZC TF TF (Zc KG):=Zo
theorem ve(F:Zl K "_law_rank" "_law_rank" KG f fd)(T:YM mg)(DS:-ZA (n+1) "_law_rank" TF (WL n)):-ZI ZJ (n+2) f fd TF (WL (n+1)):=by
 show F.ko yh λa5 A a4 s H j Q E hr h=>?_;let#[v,t,q,rfl,d,hq,hn,k]:=h;intro Xc;show#[_,ZK (Z4 (Xk (YA QE Z T.isi Qa (Zu (pv 0) (QH (v:=.ty "int") Z T.int O8 Z)))) (ZR (Zh (UF (Uv ZM (pv 0) Q5 (UF Zt))))) Z6)
  (ZK (Z4 (Xk (YA QE Z T.isi Qa (Zu (pv 0) (QH (v:=.ty "str") Z T.str Mv Z)))) (ZR (Zh (UF (Uv ZM ZM (pv 0) (UF Zt))))) Z6)
  (ZR (Zh (UF (Uv ZM ZM Q5 (UZ N2 Z T.tuple OX (ZQ (Vt [] [] Z (ID (pv 0)) (λ_ _ _ _ _=>Ut) (λ_ _ _ _ _=>Zd DS hr 't') trivial)))))))),?_]
 cases t with
 |int i=>
  let O:v=.int i:=by rw[ZD] at d;show d
  subst O;show#[1,_,_,_,1,d.ty,Kk,1,Z2 ?_];show#[1,(by change 0<=aq;decide),λp0 V=>#[(by change 4<=aq;decide),λp X=>?_]]
  let S:=Zv V (.tup []);let r:=Zv X (.tup [.int 0,-i,.str "",!p0]);show k _ _ ?_ (S|||r);rwa[KT.rk,.tup Za (.cons (.int 0) (.cons (-i) (.cons (.str _) 'ď')))]
 |str x=>
  let O:v=.str x:=by rw[ZD] at d;show d
  subst O;show#[1,_,_,_,1,d.ty,K1,1,Zq ?_];show#[1,_,_,_,1,d.ty,LR,1,Z2 ?_];show#[1,(by change 0<=aq;decide),λp0 V=>#[(by change 4<=aq;decide),λp X=>?_]]
  let S:=Zv V (.tup []);let r:=Zv X (.tup [.int 1,.int 0,.str x,!p0]);show k _ _ ?_ (S|||r);rwa[KT.rk,.tup Za (.cons (.int 1) (.cons (.int 0) (.cons (.str x) 'ď')))]
 |tup l=>
  let G:=d;rw[ZD] at G;let#[a,j,rfl,J,I]:=G;let hl:=↑I;rw[KT.fits,zI,zI] at hq;let#[a9,a1,C]:=hq;let a8:↑l<=4:=of_decide_eq_true a1;rw[KT.depth] at hn;show#[1,_,_,_,1,d.ty,IC,1,Zq ?_];show#[1,_,_,_,1,d.ty,HU,1,Zq ?_];exists 1,a,Z,#[j,Zp.of J];show Ul (n:=↑j) (λi z=>j[i]?\z) (λD i m u=>ZE H u/\H D=Y'/\jO u ((l.take i).map KT.rk) m) (Yq ())
   (λD i m u W g=>#[j,j[i],Zp.of (g.1 _ _ J),by simp[W]]) (λD i m u z y W g hy=>#[hy.1,hy.2 j (Zp.of (g.1 _ _ J))]) (λD m u g=>#[j,Zp.of (g.1 _ _ J),zY _])
   (λD hD=>#[Zv hD _,hD,.nil]) (λD i m u z N a7 W hz g R hR=>?_) (λD m u N g=>?_)
  .let#[M,nD,c]:=g;let#[t,L,kt]:=I.get hz;let mt:=zG L;let a2:t.fits (q-1)=V':=by
    rw[MI] at C;show yM.mp C t mt
   let a6:=OY mt;exists 1,z,t,q-1,Z,kt.sm M,a2,by lia
   intro v' y k4 s4;let B:=s4 D _ N;let tD:Z1 y (upd y D (.lst (m++[v']))):=(ZG.refl D y).upd.tups B;show hR v' y B #[λb o e=>#v[ZU (Zg e nD),s4 b o (M b o e)],nD,?_]
   rwa[yR,L,zH,((c.sm s4).append (.cons k4 .nil)).mono tD _ _]
  .let#[M,nD,c]:=g;let L:l.take ↑j=l:=zA ()
   rw[L] at c;let a3:=↑c;rw[zW] at a3;show#[D,m,Z,.inl #[ZF.of N,λp1 Y=>?_]];let r:=Zv Y (.tup m);exists (by change 4<=aq;decide)
   intro p2 a0;let U:=Zv a0 (.tup [.int 2,.int 0,.str "",!p1]);show k _ _ ?_ ((M|||r)|||U);rwa[KT.rk,GZ,.tup Za (.cons (.int 2) (.cons (.int 0) (.cons (.str _) (.cons (.tup (U _ _ Za) (c.sm (r|||U))) .nil))))]
theorem Cu(T:YM mg)(L:Zb K mg "_law_rank" KG TF):∀ n,ZA P w K mg jW (n+1) "_law_rank" TF (WL n)
 |0=>L.of λ_ _ _=>Ij λb H Q E h=>by let#[v,t,q,_,_,_,a,_]:=h;lia
 |n+1=>L.of λ_ _ F=>ve F T (Cu T L n)
variable{jT jU CS CT CH CK CP CB:aj}
theorem D7:Kg KT.rk:=#[Gk,CY,(3),λt=>by cases t<;>(rwa[KT.rk,#[_,1,Z]])]
def Ps(c:jm):Prop:=c.Pairwise λa b=>a.lt b=V'
theorem Dj(d:c.Nodup)(h:c.Pairwise λa b=>b.lt a=false):Ps c:=by
 induction c with
 |nil=>show .nil
 |cons a c g=>
  rw[yQ] at d;rw[xD] at h;show xD.mpr #[λb f=>?_,g d.2 h.2]
  cases q:a.lt b with
  |true=>rfl
  |false=>
   let e:=Mb a b q (h.1 b f);show gS (e▸f) d.1
theorem JU(r:ZX k A):A.units+4<cLine:=by have:=r.un;lia
theorem En(s:ZG p H a)(w:ZN a p)(n:a D=Y'):H D=Y':=by
 cases e:H D with
 |none=>rfl
 |some o=>
  by_cases h:D=p
  .subst h;let#[c,b]:=w.some;erw[n] at b
  .erw[s D o e h] at n
inductive QQ(d:je)(H:Hp)(Q:VK)(_:XK):Prop
 |mk(p:aj)(n:Nat)(_:d=[!p,.int (n:Int)])(_:ZN H p)(_:n<63)(_:∀(D:aj)(c:je)(b:jm)(a:Hp),H D=Y'->a D\.lst c->jO a b c->(∀ t∈b,t.fits 3=V')->Ps b->↑b<=n->ZN a p->ZG p H a->Q (!D) a)
theorem Pz:ZC ["_law_well_here","_law_many","_law_found","_law_j"] TZ (Zc JT):=Zo
theorem xb(F:Zl K "_law_keys" "_law_keys" JT f fd)(T:YM mg)(DK:'ó')(DR:'ū'):
  ZI P w K mg jW ZJ 9 f fd TZ QQ:=by
 show F.ko Pz λa1 A a0 s H vs Q E S h=>?_;let#[p,n,rfl,hw,hn,k]:=h;let nd:=Pz.nd;let U:=S.mono (show 6<=8 from nofun)
 let DS:-ZA 6 "_law_rank" TF (Od KT.rk):=by
  let#[g,hJ,FG,b,kp,m]:=DR.ex;show#[g,hJ,FG.imp λvs H Q E h=>by
   let#[v,t,e,a,c,d]:=h;have:=Vo t 3 c;show#[v,t,(3),e,a,c,nofun,d],b,kp,m]
 intro Xc;show#[_,ZK (Zf 2 nd Eu)
  (ZK (Vi PassesOwn.never Z (OZ Z T.range 'f') 'Ũ'
   (ZR (Fm (JU S) (pv 2) (Zd DK U 'C') OI Z)))
  (ZR (Zh (Gx D7 Jq DS S Z T.sorted Z 'o')))),?_]
 intro y H1 I _ s1 N;let#[a2,Y]:=hw.some;let C:p≠y:=Zg Y I;show#[1,(n:Int),Z,nofun,nofun,OS (n:=(n:Int).toNat) (λi σ u=>∃(l:List (KT×V×V))(o:jf),σ=[Z' !p,Z' (.int (n:Int)),Z' !y,o]/\YY w u y l/\↑l<=i/\(∀ x∈l,x.1.fits 3=V')/\ZN u p/\ZG p H u)
  #[[],Y',Z,N,zY _,λx X=>by simp at X,hw.same s1,ZG.of s1] (λi σ u hi R=>?_) (λσ u R=>?_)]
 .let#[l,o,rfl,L,lx,B,j,M]:=R;exists 2,p,(3),Z,j,nofun
  intro v t H3 kv ft W r;let tu:=r.tupsW j;show#[y,l,t,Z,L.but r tu (Ne.symm C),nofun,kv,Vo t 3 ft,λH4 J O=>#[_,1,O,by have:=pA l t v (.bl true);lia (splits:=8),λx X=>?_,W.stay J C,λb ob e nb=>?_]]
  .have:x.1∈(PH l t v '<').map (·.1):=rQ X;rw[Jp] at this;split at this
   .let#[z,G,e]:=zQ.mp this;rwa[<-e,B z G]
   .rcases zM.mp this with q|q
    .let#[z,G,e]:=zQ.mp q;rwa[<-e,B z G]
    .rwa[zV.mp q,ft]
  .show J b ob (r b ob (M b ob e nb) nb) (Zg e I)
 .let#[l,o,rfl,L,lx,B,j,M]:=R;exists 1,y,l,Z,L,B,nofun
  intro D ws rs H5 s5 nD hD ka pm pw;let lr:=pm.length_eq;rw[zW] at lr;show k D ws rs H5 (En M j nD) hD ka (λt ht=>?_) (Dj (pm.nodup_iff.mpr L.nd) pw) nofun (j.same s5) (M|||ZG.of s5)
  let#[z,G,e]:=zQ.mp (pm.mem_iff.mp ht);rwa[<-e,B z G]
section
open PySem.SeqAt
open PySem.AutoSeq1 (wpAny_loadPart')
open PySem.MeetsSeq PySem.MeetsSeq2 PySem.MeetsSeq3
end
inductive XW(n:Nat)(b:je)(H:Hp)(Q:VK)(_:XK):Prop
 |mk(v u:V)(t:KT)(r:Nat)(_:b=[v,u])(_:ZD H t v)(_:ZD H t u)(_:t.wide r=V')(_:r<n)(_:∀ a,ZE H a->Q '<' a)
theorem nZ(F:Zl K "_law_alike" "_law_alike" Lu f fd)(T:YM mg)(DA:-ZA (n+1) "_law_alike" TV (XW n)):
  ZI P w K mg jW ZJ (n+2) f fd TV (XW (n+1)):=by
 show F.ok w5 (λd H Q E h=>?_) (λa0 A Y s H d Q E hr h=>?_)
 .let#[v,u,t,r,rfl,_]:=h;rfl
 let#[v,u,t,r,rfl,p,l,hf,hn,k]:=h;intro Xc;show#[_,ZK (Z4 (Xk (YA QE Z T.isi Qa (Zi (pv 1) (Zi (QH (v:=.ty "tuple") Z T.tuple OX Z) Zt))))
   (ZK (Z4 (PW.pt (Kl (OA (Xk (YA QE Z T.isi Qa (Zi (pv 0) (Zi (QH (v:=.ty "tuple") Z T.tuple OX Z) Zt)))))
    (Lg (YO Nh '>' (YA XG Z T.len XE 'đ') (Z9 _))))) 'ì' Z6)
   (ZR (Zh (YA (Ld Z) Z T.all Kh (Zi (Vt [0,1] TV Z (OZ Z T.range (Zi (YA XG Z T.len XE 'đ') Zt)) (λ_ _ _ _ _=>Ut)
    (λ_ _ _ _ _=>Zd DA hr (Zi (Zy K (pv 1) (pv 0)) (Zi (Zy K (pv 2) (pv 0)) Zt))) #[Z,.inl Z,Z,Z,.inl Z,Z,trivial]) Zt))))) Z6)
  (ZK (Z4 (Xk (YA QE Z T.isi Qa (Zi (pv 1) (Zi (QH (v:=.ty "str") Z T.str Mv Z) Zt))))
   (ZR (Zh (OH (YA QE Z T.isi Qa (Zi (pv 0) (Zi (QH (v:=.ty "str") Z T.str Mv Z) Zt))) 'Č'))) Z6)
  (ZR (Zh (OH (YA QE Z T.isi Qa (Zi (pv 0) (Zi (QH (v:=.ty "int") Z T.int O8 Z) Zt)))
   (OH (B' (YA QE Z T.isi Qa (Zi (pv 0) (Zi (QH (v:=.ty "bool") Z T.bool Fp Z) Zt)))) 'Č'))))),?_]
 let kk:=k H 'Ā'
 cases t with
 |int j=>
  rw[ZD] at l p;subst l;subst p;show#[1,_,_,_,1,-j,zi,1,Zq ?_];show#[1,_,_,_,1,-j,Tx,1,Zq ?_];show#[1,_,_,_,1,-j,Kk,1,Z2 ?_];show#[1,_,_,_,1,-j,EG,2,Z2 ?_];exists 2,Z;rwa[aJ Z,kk]
 |str y=>
  rw[ZD] at l p;subst l;subst p;show#[1,_,_,_,1,.str y,xr,1,Zq ?_];show#[1,_,_,_,1,.str y,LR,1,Z2 ?_];show#[1,_,_,_,1,.str y,LR,1,Z2 ?_];exists 2,Z;rwa[aJ Z,kk]
 |tup m=>
  let tu:=l.ty (K:=K);let tv:=p.ty (K:=K);rw[ZD] at l p;let#[b,c,rfl,N,I]:=l;let#[a,d,rfl,ea,J]:=p;let U:=↑I;let hl:=↑J;rw[KT.wide,zI,zI] at hf;let#[f0,f1,f2]:=hf;let r0:=of_decide_eq_true f0;let l4:=of_decide_eq_true f1;show#[1,_,_,_,1,tu,Iw,1,Z2 ?_];show#[1,_,_,_,1,tv,Iw,1,Zq ?_];exists 1,a,d,Z,.inr (Zp.of ea),1,b,c,Z,.inr (Zp.of N),Z,_,Z;show Rx (by rw[<-hl,U]) ?_
  exists 1,b,c,Z,.inr (Zp.of N),1,nofun,nofun
  rw[uL];show Ul (n:=↑c) (λi x=>x=.int (0+(i:Int))) (λD i z g=>ZE H g/\H D=Y'/\z=(vS i true).map V.bl) (Yq nofun)
   (λD i z g L _=>L) (λD i z g x H4 L _ hy=>hy) (λD z g _=>zY _) (λD hD=>#[Zv hD _,hD,Z]) (λD i z g x M a1 L hx O R hR=>?_) (λD z g M O=>?_)
  .subst hx;let#[q,X,rfl]:=O;let S:i<↑d:=nofun
   let G:d[i]?\d[i]:=by simp[S]
   let C:c[i]?\c[i]:=by simp[L]
   let#[t,et,kt]:=J.get G;let#[t',B,W]:=I.get C;erw[et] at B;let ft:t.wide (r-1)=V':=by rw[Ir] at f2;show yM.mp f2 t (zG et)
   let av:Xi d (0+(i:Int))\d[i]:=#v[vJ,Yf G]
   let au:Xi c (0+(i:Int))\c[i]:=#v[vJ,Yf C]
   show#[2,.inr (.inl #[a,d,_,_,Z,Z,Zp.of (q _ _ ea),av,_,Z,_,Z,.inr (.inl #[b,c,_,_,Z,Z,Zp.of (q _ _ N),au,d[i],c[i],t,r-1,Z,kt.sm q,W.sm q,ft,nofun,λH4 s4=>?_])])]
   show hR _ H4 (s4 D _ M) #[λb o e=>#v[ZU (Zg e X),s4 b o (q b o e)],X,?_]
   rw[List.replicate_succ',zH];rfl
  .let#[q,X,rfl]:=O;exists D,1,ZF.of M;rw[show (vS ↑c true).all id=V' by simp]
   show k g q
theorem EJ(T:YM mg)(L:Zb K mg "_law_alike" Lu TV):∀ n,ZA P w K mg jW (n+1) "_law_alike" TV (XW n)
 |0=>L.of λ_ _ _=>Ij λb H Q E h=>by let#[v,u,t,r,_,_,_,_,a,_]:=h;lia
 |n+1=>L.of λ_ _ F=>nZ F T (EJ T L n)
inductive VD(h:je)(H:Hp)(Q:VK)(_:XK):Prop
 |mk(a b:aj)(e g:je)(c:jm)(_:h=[!a,!b])(_:H a\.lst e)(_:H b\.lst g)(_:jO H c e)(_:jO H c g)(_:∀ t∈c,t.wide 4=V')(_:↑c<=400)(_:∀ d,ZE H d->Q '<' d)
theorem pu:ZC TV TV (Zc JV):=Zo
theorem nX(F:Zl K "_law_rows_alike" "_law_rows_alike" JV f fd)(T:YM mg)(p:-ZA 7 "_law_alike" TV (XW 6)):-ZI ZJ 8 f fd TV VD:=by
 show F.ko pu λr A i s H M Q E y h=>?_;let#[a,b,n,o,J,rfl,m,u,B,C,x,c,k]:=h;intro L;show#[_,ZR (Zh (OH (YA QE Z T.isi Qa (Zu (pv 0) (QH (v:=.ty "list") Z T.list OU Z)))
  (O2 (Zd p y (Zu (UZ N2 Z T.tuple OX 't') (UZ N2 Z T.tuple OX 'f')))))),?_]
 show#[1,_,_,_,1,.lst m,(by kernel_rfl),1,Z2 ?_]
 show#[1,a,n,Z,.inl #[ZF.of m,λD d=>?_]];let j:=Zv d (.tup n);show#[1,b,o,Z,.inl #[ZF.of (j _ _ u),λG e=>?_]];let l:=Zv e (.tup o);let g:=j|||l;show#[!D,!G,.tup J,(5),Z,.tup (l _ _ Za) (B.sm g),.tup Za (C.sm g),?_,'b',λq I=>?_]
 .rwa[KT.wide,zI,zI,Ir,#[by decide,aJ c,yM.mpr λt z=>x t z]]
 .show k q (g|||I)
theorem KN(W:ZN H p)(h:H q=Y'):q≠p:=λz=>by
 let#[a,e]:=W.some;erw[z,e] at h
inductive Wv(b:je)(H:Hp)(Q:VK)(_:XK):Prop
 |mk(p:aj)(_:b=[!p])(_:ZN H p)(_:∀(v:V)(t:KT)(a:Hp),ZD a t v->t.fits 3=V'->ZN a p->ZG p H a->Q v a)
theorem AC:ZC TL TL (Zc Jh):=Zo
theorem rj(F:Zl K "_law_value" "_law_value" Jh f fd)(z:'g')(J:'ó'):-ZI ZJ 7 f fd TL Wv:=by
 show F.ko AC λN A y s H vs Q E C h=>?_;let#[p,rfl,W,q]:=h;let g:=C.to 1;intro Xc;show#[_,@ZK _ _ _ _ _ (Z4 (YO Vm (Zd z g 'C') ZM (Z9 _)) (ZR (Zh (Zd J C 'C'))) Z6)
  (@ZR _ _ _ (@Zh _ _ _ _ (@QD _ _ _ _ _ _ (Jy K) yc (Yy (Sw ZM ZM Q5 (UF (ZQ ZM)) Q5 (UF Zt))) (Zd z g 'C') (λ_ _=>Z)))),?_]
 show#[1,p,(3),Z,W,Wl 'b' 'b',λw0 L a0 a1 k G=>#[Z,1,?_]]
 show UX (λc=>?_) (λc=>?_)
 .show#[1,p,(3),Z,k,'b',λv t a S R b j=>q v t a S R b (G|||j)]
 exists Yc;intro l X;let B:=Zv X (.tup [.int 1]);exists Yc;intro m Y;let n:=Zv Y (.tup []);exists Yc;intro d i;let o:=Zv i (.lst [.int 0,.int 1,.str "1",!l,.str "",!m]);let u:ZE L _:=(B|||n)|||o;let x:d≠p:=KN (k.same (B|||n)) i;exists 1,p,(6),Z,k.same u,Wl 'b' 'b'
 intro r a r0 r1 b j;let I:=j.tupsW (k.same u);let e:ZG p H a:=(G|||ZG.of u)|||j;let T:ZD a (.tup [.int 1]) (!l):=.tup (I _ _ (o _ _ (n _ _ Za))) (.cons (.int 1) .nil);let U:ZD a (.tup []) (!m):=.tup (I _ _ (o _ _ Za)) .nil;let O:a d\.lst [.int 0,.int 1,.str "1",!l,.str "",!m]:=j d _ Za x;let#[v,M,D]:=NN (xs:=[V.int 0,.int 1,.str "1",!l,.str "",!m]) r0 r1;show .inl #[d,_,_,v,Z,Z,ZF.of O,M,?_];simp only[zU,List.not_mem_nil,or_false] at D;rcases D with rfl|rfl|rfl|rfl|rfl|rfl
 .show q _ _ a (.int 0) (by decide +kernel) b e
 .show q _ _ a (.int 1) (by decide +kernel) b e
 .show q _ _ a (.str _) (by decide +kernel) b e
 .show q _ _ a T (by decide +kernel) b e
 .show q _ _ a (.str _) (by decide +kernel) b e
 .show q _ _ a U (by decide +kernel) b e
end _T
namespace _T
open PySem PySem.Spec PyProof.Rows
inductive Oj(b:zZ)(c:je)(H:Hp)(Q:VK):Prop
 |mk(p:aj)(a:jy)(_:c=[!p])(_:ZF b H p 'Ħ')(_:Q (-a.sum) H)
theorem y7(g:X.calm=V'):QL X (.builtin "sum") (Oj X.K):=by
 intro d s A H z y Q I r h;let#[p,c,rfl,j,q]:=h;let#[u,rfl,m]:=Qy r;cases m;let#[k,n,l,x]:=I.list j;let a:=A8 n;let#[v,e]:=a.allInts.items;let b:=l.isList;rw[e] at b;let f:v.toList.map (·.1)=c:=by
  rwa[<-nums_intItems,<-e,a.numsOf]
 show sum_intListG (I.ok.hd g) b λw t o i=>#[-c.sum,H,I.kept (t':=t) i,#[o,?_],q];rw[preSum_eq,zA ⋯,f]
variable{jT jU CS CT CH CK CP CB:aj}
theorem Bl:ay "sum"=Z' (.builtin "sum"):=by decide +kernel
structure Yd where
 h:Int
 lo:KT
 hi:KT
 m:Int
abbrev jD:=List Yd
def Yd.d:Yd:=#[(0),.int 0,.int 0,(0)]
def Yd.kt(L:Yd):KT:=.tup [-L.h,L.lo,L.hi,-L.m]
inductive YL(H:Hp)(L:Yd)(u:V):Prop
 |mk(a c b:_)(_:u=!a)(_:H a\.tup [-L.h,c,b,-L.m])(_:ZD H L.lo c)(_:ZD H L.hi b)
theorem YL.mono(x:YL H L u)(m:Z1 H d):YL d L u:=by
 let#[a,c,b,e,f,g,h]:=x;show#[a,c,b,e,m _ _ f,g.mono m _ _,h.mono m _ _]
def Ym(H:Hp)(a:jD)(b:je):Prop:=↑b=↑a/\∀ i u,b[i]?\u->YL H a[i]! u
theorem Ym.mono(x:Ym H b c)(m:Z1 H a):Ym a b c:=#[x.1,λi u e=>(x.2 i u e).mono m]
def Yd.fit(L:Yd):Prop:=L.lo.fits 3=V'/\L.hi.fits 3=V'
def P9(a b:Yd):Bool:=(a.h==b.h)&&a.hi.lt b.lo
def Lo(a:jD):Bool:=(yD (↑a-1)).all λj=>P9 a[j]! a[j+1]!
def gX(a:jD):Option Yd:=if 2<=↑a/\↑a<=4/\Lo a=V' then Z' #[a[0]!.h+1,a[0]!.lo,a[↑a-1]!.hi,(a.map Yd.m).sum] else Y'
theorem pq(b:2<=↑a)(c:↑a<=4)(h:∀ j,j<↑a-1->P9 a[j]! a[j+1]! =V'):gX a\#[a[0]!.h+1,a[0]!.lo,a[↑a-1]!.hi,(a.map Yd.m).sum]:=
 aM #[b,c,yM.mpr λj e=>h j (wL.mp e)]
inductive QS(d:je)(H:Hp)(Q:VK)(_:XK):Prop
 |mk(v u:V)(a b:Yd)(_:d=[v,u])(_:YL H a v)(_:YL H b u)(_:a.fit)(_:b.fit)(_:∀ c,ZE H c->Q (.bl (P9 a b)) c)
theorem yz:ZC Tb Tb (Zc JE):=Zo
theorem Aj(F:Zl K "stand_side_by_side" "stand_side_by_side" JE f fd)(T:YM mg)(r:'.'):-ZI ZJ 8 f fd Tb QS:=by
 show F.ko yz λB A l s H X Q E J h=>?_;let#[v,u,a,b,rfl,G,I,C,D,k]:=h;let#[U,o]:=T.height;let#[V,N]:=T.least;let#[W,O]:=T.greatest;let#[p,x,c,rfl,m,L,i]:=G;let#[q,d,y,rfl,n,j,M]:=I;intro S;show#[_,ZR (Zh (OH (V4 Vm (Zy K (pv 0) (Xp (v:=.int 0) Z o #[_,Z])) (Zy K (pv 1) (Xp (v:=.int 0) Z o #[_,Z])) (Z9 _))
  (O2 (Zd r J (Zu (Zy K (pv 0) (Xp (v:=.int 2) Z O #[_,Z])) (Zy K (pv 1) (Xp (v:=.int 1) Z N #[_,Z]))))))),?_]
 show#[1,.inr (.inl #[p,_,_,-a.h,Z,Z,Zp.of m,Z,?_])];show#[1,.inr (.inl #[q,_,_,-b.h,Z,Z,Zp.of n,Z,Z,_,Z,?_])];by_cases g:a.h=b.h
 .rw[aJ (by rw[g])]
  show Z2 ?_;show#[1,.inr (.inl #[p,_,_,c,Z,Z,Zp.of m,Z,?_])];show#[1,.inr (.inl #[q,_,_,d,Z,Z,Zp.of n,Z,c,d,a.hi,b.lo,Z,i,j,C.2,D.1,λt R=>?_])];let e:a.hi.lt b.lo=P9 a b:=by unfold P9;rw[g,beq_self_eq_true,tV]
  rwa[e,k t R]
 .rw[aI (λz=>g (Lj z))];show Zq ?_;let e:false=P9 a b:=by unfold P9;rw[beq_eq_false_iff_ne.mpr g,tT]
  rwa[e,k H 'Ā']
theorem Dm{n:Int}(h:n.natAbs<10^60)(r:Nat):(KT.int n).fits r=V':=#v[KT.fits,aJ h]
theorem Ml(h:ZD H L.kt u):YL H L u:=by
 unfold Yd.kt at h;rw[ZD] at h;let#[a,r,rfl,e,b]:=h;rw[jO] at b;let#[p,l,rfl,c,b]:=b;rw[jO] at b;let#[j,m,rfl,g,b]:=b;rw[jO] at b;let#[k,n,rfl,i,b]:=b;rw[jO] at b;let#[q,o,rfl,d,b]:=b;rw[jO] at b;subst b;rw[ZD] at c d;subst c d;show#[a,j,k,Z,e,g,i]
theorem CQ:Yd.d.fit:=#[Dm (n:=0) 'b' 3,Dm (n:=0) 'b' 3]
def BG(H:Hp)(b:jm)(c:je):Prop:=↑c=↑b/\∀ i u,c[i]?\u->∃ a d e,u=.ref a/\H a\.tup [d,e]/\ZD H (b.getD i (.int 0)) d
def KU(a:jm):KT:=.tup [.int 0,a.getD 0 (.int 0),a.getD (↑a-1) (.int 0),.int ↑a]
theorem uq{a:je}(h:a[↑a-1]?\u):Xi a (-1)\u:=by
 let b:a≠[]:=λz=>by rw[z] at h;simp at h
 let e:a=a.dropLast++[u]:=by
  let c:a.getLast b=u:=by
   rwa[pW,(yW.mp h).2]
  rw[<-c,qB]
 rwa[e,C9 _ _]
inductive Xe(d:je)(H:Hp)(Q:VK)(_:XK):Prop
 |mk(l:aj)(b:je)(c:jm)(_:d=[!l])(_:H l\.lst b)(_:BG H c b)(_:0<↑b)(_:∀(a:Hp)(v:V),ZE H a->ZD a (KU c) v->Q v a)
theorem oF:ZC TX TX (Zc Iy):=Zo
theorem Bj(F:Zl K "label_of_rows" "label_of_rows" Iy f fd)(T:YM mg):-ZI ZJ 1 f fd TX Xe:=by
 show F.ko oF λq A i s H L Q E I h=>?_;let#[l,c,J,rfl,e,d,u,k]:=h;intro C;show#[_,ZR (Zh (UF (Uv ZM (Zy K '~' ZM)
  (Zy K (Zy K (pv 0) 'n') ZM) 'U'))),?_]
 let m:c[0]?\c[0]:=zT u;let n:c[↑c-1]?\(c[↑c-1]'()):=zT ()
 let#[a,o,D,r,z,x]:=d.2 0 _ m;let#[b,bk,G,t,B,y]:=d.2 _ _ n;rw[r] at m;rw[t] at n;show#[1,.inl #[l,c,_,!a,Z,Z,ZF.of e,Yf (j:=0) m,.inr (.inl #[a,_,_,o,Z,Z,Zp.of z,Z,?_])]];show#[1,(1),Z,.inl #[l,c,_,!b,Z,Z,ZF.of e,uq n,.inr (.inl #[b,_,_,bk,Z,Z,Zp.of B,Z,?_])]];exists 1,l,c,Z,.inl (ZF.of e),Yc;intro p v;let g:=Zv v (.tup [.int 0,o,bk,.int ↑c]);show k _ _ g ?_;unfold KU;rwa[<-d.1,.tup Za (.cons (.int _) (.cons (x.sm g) (.cons (y.sm g) 'ŷ')))]
abbrev ZW:=KT×KT
abbrev jl:=List ZW
noncomputable def OC(r:ZW):KT:=.tup [r.1,r.2]
def YB(a:jl):jm:=a.map OC
def ZW.fit(r:ZW):Prop:=r.1.fits 3=V'/\r.2.fits 3=V'
structure ZO where
 h:Nat
 rows:jl
 bs:jj
abbrev jk:=List ZO
noncomputable def ZO.d:ZO:=#[(0),[],[]]
def hJ(a:jk)(i:Nat):ZO:=a[i]!
local macro_rules|`($x:ident^$y:ident)=>let n:=x.getId;`(hJ $(if n.toString.front.isUpper then Lean.mkIdent (n.str "ts") else x) $y)
structure XB(gt:jj)(ts:jk)(i:Nat)(t:ZO):Prop where
 ne:t.rows≠[]
 up:(t.rows.map (·.1)).Pairwise λa b=>a.lt b=V'
 inn:∀ r∈t.rows,r.fit
 leaf:t.h=0->t.bs=[]/\↑t.rows<=4
 stem:t.h≠0->2<=↑t.bs/\↑t.bs<=4/\(∀ b∈t.bs,b∈gt/\(ts^b).h+1=t.h)/\t.rows=t.bs.flatMap λb=>(ts^b).rows
def WF(gt:jj)(a:jk):=∀ i∈gt,XB gt a i (a^i)
def gY(t:ZO):Str:=if t.h=0 then "leaf" else "stem"
theorem UW(s:ZE H c)(n:H a=Y'):ZE H (upd c a o):=λb u e=>#v[ZU (Zg e n),s b u e]
abbrev iN(l:jj):je:=l.map λb=>V.int (b:Nat)
theorem Kb(a b):YB (a++b)=YB a++YB b:=zH
theorem Mm{a:je}{j:Nat}{v:V}(b:1<=j)(c:j<=↑a)(h:a[↑a-j]?\v):Xi a (-(j:Int))\v:=by
 unfold Xi;let e:PY ↑a (-(j:Int))\(↑a-j):=by
  unfold PY;rw[aK (),aM ()]
  congr 1
  lia
 rwa[e,h]
def rc:ZW:=(.int 0,.int 0)
def Zw(t:ZO):Yd:=#[t.h,(t.rows.getD 0 rc).1,(t.rows.getD (↑t.rows-1) rc).1,↑t.rows]
theorem OG(h:jO H (YB c) k)(e:k[i]?\u):∃ a l m,c[i]?\c.getD i rc/\u=.ref a/\H a\.tup [l,m]/\ZD H (c.getD i rc).1 l/\ZD H (c.getD i rc).2 m:=by
 let#[t,d,g]:=h.get e;unfold YB at d;rw[zK] at d;let#[r,j,rfl]:=xU.mp d;let n:c.getD i rc=r:=by rw[zO,j];rfl
 unfold OC at g;rw[ZD] at g;let#[a,z,rfl,o,b]:=g;rw[jO] at b;let#[s,x,rfl,p,b]:=b;rw[jO] at b;let#[v,y,rfl,q,b]:=b;rw[jO] at b;subst b;rwa[n,#[a,s,v,j,Z,o,p,q]]
theorem Ym.snoc(h:Ym H d a)(j:YL H L u):Ym H (d++[L]) (a++[u]):=by
 exists by rw[zR,zR,h.1];rfl
 intro i w e;rcases yL i ↑a with b|b
 .rw[wG b] at e;have:=h.2 i w e;rw[zO] at this⊢;rw[wG (by rwa[<-h.1,b])]
  show this
 .rw[xJ b] at e;let c:i-↑a=0:=by
   rcases Nat.eq_zero_or_pos (i-↑a) with z|z
   .show z
   .erw[qS (by simp;lia)] at e
  rw[c] at e;simp at e;subst e;let g:i=↑d:=by have:=h.1;lia
  rw[zO,g];simp;show j
def hG(a:jj)(x:Int):Bool:=gU (0<=x/\x.toNat∈a)
def Kr(a:jD):=∀ j,j+1<↑a->a[j+1]!.h=a[0]!.h/\a[j]!.hi.lt a[j+1]!.lo=V'
theorem P1:Kr c↔Lo c=V':=by
 unfold Kr Lo P9;rw[yM];constructor
 .intro h j e;let i:j<↑c-1:=wL.mp e;let#[a,b]:=h j ()
  rw[zI];show#[?_,b];rw[beq_iff_eq,a]
  cases j with
  |zero=>rfl
  |succ j=>show(h j ()).1
 .intro h;let g:∀ j,j<↑c->c[j]!.h=c[0]!.h:=λj=>by
   induction j with
   |zero=>intro _;rfl
   |succ j k=>
    intro e;have:=h j (wL.mpr ())
    rw[zI,beq_iff_eq] at this;rwa[<-this.1,k ()]
  intro j e;have:=h j (wL.mpr ())
  rw[zI] at this;show#[g (j+1) e,this.2]
theorem LK(h:XB gt d i t):(Zw t).fit:=by
 let a:0<↑t.rows:=vW.mpr h.ne;let b:t.rows.getD 0 rc∈t.rows:=#v[zO,zT a,xK _]
 let c:t.rows.getD (↑t.rows-1) rc∈t.rows:=#v[zO,zT (show ↑t.rows-1<↑t.rows by lia),xK _]
 show#[(h.inn _ b).1,(h.inn _ c).1]
def YI(c:jk)(a:jj):jD:=a.map λb=>Zw (c^b)
structure ZB(P:am)(w:aw)(K:zZ)(mg:jb)(jW:aD)(CX:UV)(k:Nat)(C:aj)(m:Str)(ps:jn)(sp:Sp):Prop where
 ex:∃ f fd,Q7 K C m f/\ZI P w K mg jW CX k f fd ps sp/\Zx K fd ps []
theorem Zs{X:Cx}{i:UV}{k:Nat}{C:aj}{m:Str}{v:jn}{j:Sp}{E:XK}{o e:Expr}{d:jv}{l:TE}{t:TA}{pos a:Pos}{u:Sem Bool}(p:PE X o l)(c:U5 X.K C)(D:ZB X.prog X.w X.K X.mg X.base i k C m v j)(q:ZX k X.A)(s:Pa i X E)(n:PA X (e::d) t)(h:ar (e::d) X.env=(false,aG e X.env)::ar d X.env:=by rfl)(g:(aF pos (ar d X.env)).any (·.1)=false:=by rfl)(r:aG (.Call 'ò' (e::d) [] pos) X.env=(do
   let ov<-aG o X.env
   standAt a.atName
   let (f,first)<-holding [ov] (getMethod ov m u)
   callWith pos f first (aF pos (ar (e::d) X.env)) (backToKw pos (keywordEach [] X.env))):=by rfl):
  PE X (.Call 'ò' (e::d) [] pos) (Lw C m j [] E l t):=by
 let#[f,fd,M,F,b]:=D.ex;show wm p c M F q b .nil s n h g r
theorem FQ{X:Cx}{d:UV}{k:Nat}{C:aj}{m:Str}{p:jn}{e:Sp}{E:XK}{o:Expr}{g:TE}{pos a:Pos}{n:Sem Bool}(h:PE X o g)(c:U5 X.K C)(D:ZB X.prog X.w X.K X.mg X.base d k C m p e)(i:ZX k X.A)(l:Pa d X E)(j:aG (.Call 'ò' [] [] pos) X.env=(do
   let ov<-aG o X.env
   standAt a.atName
   let (f,first)<-holding [ov] (getMethod ov m n)
   callWith pos f first (aF pos (ar [] X.env)) (backToKw pos (keywordEach [] X.env))):=by rfl):
  PE X (.Call 'ò' [] [] pos) (Lw C m e [] E g PM):=by
 let#[f,fd,M,F,b]:=D.ex;show rh h c M F i b .nil l j
abbrev JY:Stmt:=Xr (top 29) 0
abbrev Kz:Stmt:=Xr (top 75) 0
abbrev J0:Stmt:=Xr (top 75) 1
abbrev JX:Stmt:=Xr (top 75) 3
abbrev IS:Stmt:=Xr (top 75) 7
abbrev GE:Stmt:=Xr (top 75) 8
abbrev HC:Stmt:=Xr (top 75) 12
abbrev Ib:Stmt:=Xr (top 75) 13
abbrev Io:Stmt:=Xr (top 75) 18
structure YJ(K:zZ)(mg:jb)(jT jU:aj):Prop where
 shelf:mg "Shelf"=Z' !jT
 twig:mg "Twig"=Z' !jU
 cS:U5 K jT
 cT:U5 K jU
 nk:Z8 K jT "kept"
 nf:Z8 K jT "following"
 nl:Z8 K jT "looks"
 nth:Z8 K jU "things"
 ntg:Z8 K jU "tag"
 nab:Z8 K jU "above"
 nho:Z8 K jU "holds"
abbrev NA(d a:aj)(n:Nat):List (Str×V):=[("kept",!d),("following",-n),("looks",!a)]
abbrev WQ(d c:V)(a:aj)(b:Nat):List (Str×V):=[("things",d),("tag",c),("above",!a),("holds",-b)]
structure Xj(jT:aj)(H:Hp)(S d lk:aj)(n:Nat)(kvs:List (ZY×V))(ls:je):Prop where
 self:∃ dx,H S\.ins jT dx (NA d lk n)
 kept:H d\.dK kvs
 looks:H lk\.lst ls
structure Vh(jU:aj)(H:Hp)(x:aj)(th tg:V)(ab:aj)(ho:Nat)(us:je):Prop where
 self:∃ dx,H x\.ins jU dx (WQ th tg ab ho)
 above:H ab\.lst us
theorem Xj.same{jT:aj}{H b:Hp}{S d lk:aj}{n:Nat}{a:List (ZY×V)}{c:je}(h:Xj jT H S d lk n a c)(s:ZE H b):Xj jT b S d lk n a c:=by
 let#[#[g,e],i,j]:=h;show#[#[g,s _ _ e],s _ _ i,s _ _ j]
theorem Vh.same{jU:aj}{H a:Hp}{x:aj}{g d:V}{b:aj}{c:Nat}{i:je}(h:Vh jU H x g d b c i)(s:ZE H a):Vh jU a x g d b c i:=by
 let#[#[j,e],k]:=h;show#[#[j,s _ _ e],s _ _ k]
inductive Pi(jU:aj)(h:je)(H:Hp)(Q:VK)(_:XK):Prop
 |mk(x g:aj)(e d:V)(_:h=[!x,e,d])(_:H x\.ins jU g [])(_:∀(a:Hp)(c:aj),(∀ b o,b≠x->H b\o->a b\o)->H c=Y'->Vh jU a x e d c 1 []->Q .non a)
theorem AD:ZC SZ SZ (Zc JY):=Zo
theorem zf(F:Zl K "__init__" "Twig.__init__" JY f fd)(L:'d'):-ZI ZJ 1 f fd SZ (Pi jU):=by
 show F.ko AD λl A j s H u Q E q h=>?_;let#[x,d,t,r,rfl,m,k]:=h;intro p;exists _,ZK (QK (pv 0) (pv 1) Z) (ZK (QK (pv 0) (pv 2) Z) (ZK (QK (pv 0) (Yy Zt) Z) (ZR (QK (pv 0) ZM Z))));exists 2,x,jU,d,1,m,L.cT,L.nth,yS Z;exists 2,x,jU,d,1,Za,L.cT,L.ntg,yS Z;exists Yc;intro i a;rw[MW] at a⊢;let c:x≠i:=λz=>by erw[<-z,Za] at a
 let g:H i=Y':=by rw[ZU (Ne.symm c)] at a;show a
 exists 1,x,jU,d,1,#v[ZU c,Za],L.cT,L.nab,yS Z
 exists 1,x,jU,d,1,Za,L.cT,L.nho,yS Z;show k _ i (λb o n e=>?_) g #[#[d,Za],?_]
 .rwa[MW,ZU n,ZU (Zg e g),ZU n,e]
 .rwa[MW,ZU (Ne.symm c),Za]
inductive Pk(jT:aj)(g:je)(H:Hp)(Q:VK)(_:XK):Prop
 |mk(x e:aj)(_:g=[!x])(_:H x\.ins jT e [])(_:∀(a:Hp)(d c:aj),(∀ b o,b≠x->H b\o->a b\o)->H d=Y'->H c=Y'->d≠c->Xj jT a x d c 0 [] []->Q .non a)
theorem Rg:ZC TY TY (Zc Kz):=Zo
theorem yw(F:Zl K "__init__" "Shelf.__init__" Kz f fd)(L:'d'):-ZI ZJ 1 f fd TY (Pk jT):=by
 show F.ko Rg λu A p s H B Q E y h=>?_;let#[x,j,rfl,t,k]:=h;intro v;exists _,ZK (QK (pv 0) EU Z) (ZK (QK (pv 0) ZM Z) (ZR (QK (pv 0) (Yy Zt) Z)));intro d m;let q:x≠d:=Zg t m;exists 1,x,jT,j,1,#v[ZU q,t],L.cS,L.nk,yS Z
 exists 1,x,jT,j,1,Za,L.cS,L.nf,yS Z;exists Yc;intro g c;rw[MW] at c⊢;let r:x≠g:=λz=>by erw[<-z,Za] at c
 let a:upd H d (.dK []) g=Y':=by rw[ZU (Ne.symm r)] at c;show c
 let l:d≠g:=λz=>by erw[<-z,Za] at a
 let i:H g=Y':=by rw[ZU (Ne.symm l)] at a;show a
 exists 1,x,jT,j,1,#v[ZU r,Za],L.cS,L.nl,yS Z
 show k _ d g (λb o n e=>?_) m i l #[#[j,Za],?_,?_]
 .rwa[ZU n,ZU (Zg e i),ZU n,ZU (Zg e m),e]
 .rwa[ZU (Ne.symm q),ZU l,ZU (Ne.symm q),Za]
 .rwa[ZU (Ne.symm r),Za]
inductive Zj(jT:aj)(g:je)(H:Hp)(Q:VK)(_:XK):Prop
 |mk(S d c:aj)(n:Nat)(a:List (ZY×V))(e:je)(i:Int)(b:V)(_:g=[!S,-i])(_:Xj jT H S d c n a e)(_:YU a (.inl i)\b)(_:Q b H)
theorem AI:ZC U' U' (Zc Io):=Zo
theorem nh(F:Zl K "twig_of" "Shelf.twig_of" Io f fd)(L:'d'):-ZI ZJ 1 f fd U' (Zj jT):=by
 show F.ko AI λl A a s H x Q E o h=>?_;let#[S,d,u,n,q,v,i,b,rfl,#[#[c,e],m,t],p,k]:=h;let j:=LC o;intro r;exists _,ZK (Z4 (Q0 (BX j (pv 1) 's')) U4 Z6) (ZR (Zh (Et j 's' (pv 1))));let g:XV H d (-i) (Z' b):=p▸XV.k (k:=gR i) m;show#[2,S,jT,c,_,!d,Z,e,L.cS,L.nk,Z,d,Z' b,Z,g,1,Zq ?_];show#[1,S,jT,c,_,!d,Z,e,L.cS,L.nk,Z,1,d,b,Z,g,k]
structure Q8(P:am)(w:aw)(K:zZ)(mg:jb)(jW:aD)(k:Nat)(C:aj)(ps:jn)(sp:Sp):Prop where
 ex:∃ f fd,Mk K C f/\ZI P w K mg jW ZJ k f fd ps sp/\Zx K fd ps []
structure Oe(jT jU:aj)(H:Hp)(S d lk:aj)(n:Nat)(kvs:List (ZY×V))(ls:je)(i:Int)(x:aj)(th tg:V)(ab:aj)(ho:Nat)(us:je):Prop where
 sh:Xj jT H S d lk n kvs ls
 val:YU kvs (.inl i)\!x
 tw:Vh jU H x th tg ab ho us
inductive Xl(jT jU:aj)(res:V->Nat->je->V)(l:je)(H:Hp)(Q:VK)(_:XK):Prop
 |mk(S d h:aj)(n:Nat)(a:List (ZY×V))(j:je)(i:Int)(x:aj)(k c:V)(g:aj)(b:Nat)(e:je)(_:l=[!S,-i])(_:Oe jT jU H S d h n a j i x k c g b e)(_:Q (res c b e) H)
theorem oV:ZC U' U' (Zc GE):=Zo
theorem lC(F:Zl K "outside" "Shelf.outside" GE f fd)(L:'d')(e:'e'):-ZI ZJ 2 f fd U' (Xl jT jU λ_ a _=>.int a):=by
 show F.ko oV λg A c s H B Q E o h=>?_;let#[S,d,q,n,b,r,i,x,y,v,u,a,z,rfl,R,k]:=h;intro t;exists _,ZR (Zh (XS (Zs (E:=E0) (pv 0) L.cS e o Zn 'f') Z));let#[l,m]:=R.sh.self;let#[j,p]:=R.tw.self;show#[1,S,l,1,m,Z,1,S,d,q,n,b,r,i,!x,Z,R.sh,R.val,x,jU,j,_,-a,Z,p,L.cT,L.nho,Z,k]
theorem qz:ZC U' U' (Zc Ib):=Zo
theorem qk(F:Zl K "label" "Shelf.label" Ib f fd)(L:'d')(e:'e'):-ZI ZJ 2 f fd U' (Xl jT jU λc _ _=>c):=by
 show F.ko qz λg A b s H B Q E o h=>?_;let#[S,d,q,n,a,r,i,x,y,c,u,v,z,rfl,R,k]:=h;intro t;exists _,ZR (Zh (XS (Zs (E:=E0) (pv 0) L.cS e o Zn 'f') Z));let#[l,m]:=R.sh.self;let#[j,p]:=R.tw.self;show#[1,S,l,1,m,Z,1,S,d,q,n,a,r,i,!x,Z,R.sh,R.val,x,jU,j,_,c,Z,p,L.cT,L.ntg,Z,k]
theorem Vq:ZC SF U' (Zc IS):=Zo
theorem At(F:Zl K "holders" "Shelf.holders" IS f fd)(T:YM mg)(L:'d')(m:'e'):-ZI ZJ 2 f fd U' (Xl jT jU λ_ a e=>.int ((↑e:Nat)+(a:Nat):Int)):=by
 show F.ko Vq λo A c s H C Q E r h=>?_;let#[S,d,t,n,b,u,i,x,B,z,g,a,e,rfl,R,k]:=h;let v:=Vq.nd;intro y;exists _,ZK (Zf 2 v (Zs (E:=E0) (pv 0) L.cS m r Zn 'f')) (ZR (Zh (Z5 Vn (YA XG Z T.len XE (ZQ 'Ų')) 'Ų')));let#[p,q]:=R.sh.self;let#[j,l]:=R.tw.self;exists 1,S,p,1,q,Z,1,S,d,t,n,b,u,i,!x,Z,R.sh,R.val;show#[1,x,jU,j,_,!g,Z,l,L.cT,L.nab,Z,g,e,Z,.inl (ZF.of R.tw.above),1,x,jU,j,_,-a,Z,l,L.cT,L.nho,Z,_,1,Z,k]
inductive WO(jU:aj)(g:je)(H:Hp)(Q:VK)(_:XK):Prop
 |mk(x:aj)(d:V)(a b:aj)(c:Nat)(e:je)(h:Int)(i:je)(_:g=[!x])(_:Vh jU H x d (!a) b c e)(_:H a\.tup (.int h::i))(_:Q (.bl (gU (h>0))) H)
theorem C':ZC Tz Tz (Zc GJ):=Zo
theorem Ar(F:Zl K "is_stem" "is_stem" GJ f fd)(T:YM mg)(L:'d'):-ZI ZJ 1 f fd Tz (WO jU):=by
 show F.ko C' λc A a s H u Q E p h=>?_;let#[x,r,b,n,o,t,e,y,rfl,W,g,k]:=h;let#[q,l]:=T.height;let#[d,i]:=W.self;intro m;exists _,ZR (Zh (V4 U9 (Zy K 's' (Xp (v:=.int 0) Z l #[_,Z])) ZM (Z9 _)));show#[1,x,jU,d,_,!b,Z,i,L.cT,L.ntg,Z,.inr (.inl #[b,_,_,-e,Z,Z,Zp.of g,Yf (j:=0) Z,_,_,Z,Z,k])]
theorem RB(h:n<=400000):n<sizeLine:=wJ h 'b'
inductive Qh(jT jU:aj)(s:je)(H:Hp)(Q:VK)(_:XK):Prop
 |mk(S d c:aj)(n:Nat)(e:List (ZY×V))(j:je)(i:Int)(x k m l:aj)(r:Nat)(q p u:je)(h:Int)(_:s=[!S,-i])(_:Oe jT jU H S d c n e j i x (!k) (!m) l r q)(_:H k\.lst p)(_:H m\.tup (.int h::u))(_:c≠k)(_:c≠l)(_:↑j<=390000)(_:∀(a:Hp)(g t:aj),(∀ b o,b≠c->H b\o->a b\o)->a c\.lst (j++[-i])->H g=Y'->a g\.lst p->a t\.tup [.str (if h>0 then "stem" else "leaf"),!g]->Q (!t) a)
theorem Po:ZC SF U' (Zc HC):=Zo
theorem vo(F:Zl K "look" "Shelf.look" HC f fd)(T:YM mg)(L:'d')(DT:'e')(DS:'7'):-ZI ZJ 2 f fd U' (Qh jT jU):=by
 show F.ko Po λa4 A a1 s H vs Q E hr h=>?_;let#[S,d,j,n,W,p,i,x,J,tg,ab,ho,as,M,xs,U,rfl,R,V,C,Y,X,a3,k]:=h;let nd:=Po.nd;intro Xc;show#[_,ZK (Zf 2 nd (Zs (E:=E0) (pv 0) L.cS DT hr Zn 'f'))
  (ZK (YF (QG xQ wO wN PU 's' 'f'))
  (ZK (Z4 (Xk (Zd DS hr 'o')) '-' Z6)
  '-')),?_]
 let#[dx,hS]:=R.sh.self;let#[O,hx]:=R.tw.self;exists 1,S,dx,1,hS,Z,1,S,d,j,n,W,p,i,!x,Z,R.sh,R.val;let l:=R.sh.looks;exists 1,S,jT,dx,_,!j,Z,hS,L.cS,L.nl,Z,.inl #[Z,_,ZF.of l],1,j,p,-i,Z,Z,l,RB ()
 let G:∀ b o,b≠j->H b\o->upd H j (.lst (p++[-i])) b\o:=λb o n e=>#v[ZU n,e]
 let a2:x≠j:=ZZ hx l;let I:tg≠j:=ZZ C l;let q:=G _ _ a2 hx;let D:=G _ _ I C;let u:=G _ _ (Ne.symm X) R.tw.above;let m:=G _ _ (Ne.symm Y) V;let v:upd H j (.lst (p++[-i])) j\.lst (p++[-i]):=Za;let r:∀(w:Str)(c t:aj),upd H j (.lst (p++[-i])) c=Y'->upd (upd H j (.lst (p++[-i]))) c (.lst M) t=Y'->w=(if U>0 then ("stem":Str) else "leaf")->Q (!t) (upd (upd (upd H j (.lst (p++[-i]))) c (.lst M)) t (.tup [.str w,!c])):=λw c t a B ew=>by
  let g1:=Zv a (.lst M);let g2:=Zv B (.tup [.str w,!c]);let g:=g1|||g2;let a0:H c=Y':=by
   cases z:H c with
   |none=>rfl
   |some o=>
    have:c≠j:=λy=>by erw[y,Za] at a
    erw[ZU this,z] at a
  show k _ c t (λb o n e=>g _ _ (G b o n e)) (g _ _ v) a0 (g2 _ _ Za) ?_;rw[Za,ew]
 exists 1,x,!J,tg,ab,ho,as,U,xs,Z,#[#[O,q],u],D,_,Z;by_cases N:U>0
 .rw[aJ N];show Z2 #[1,x,jU,O,_,!J,Z,q,L.cT,L.nth,Z,J,M,Z,.inl (ZF.of m),λc a=>#[Yc,λt B=>?_]];show r _ c t a B (by rw[aM N])
 .rw[aI N];show Zq #[1,x,jU,O,_,!J,Z,q,L.cT,L.nth,Z,J,M,Z,.inl (ZF.of m),λc a=>#[Yc,λt B=>?_]];show r _ c t a B (by rw[aK N])
structure XN(P:am)(w:aw)(K:zZ)(mg:jb)(jW:aD)(nm:Str)(C:aj)(fl:Str):Prop where
 ex:∃ fI fd,QJ K C fI fl/\ZI P w K mg jW ZJ 1 fI fd ["self",fl] (KB K C fI fl)/\Zx K fd ["self",fl] []
 at_:mg nm\!C
 ty:wE K (!C)\.type "type"
theorem nP{E:XK}{d:jv}{p a pos:Pos}(F:PJ X E)(N:XN X.prog X.w X.K X.mg X.base g C j)(n:ZX 2 X.A)(k:PA X (e::d) t)(m:Gl X g)(h:(g==("__debug__":Str))=false:=by decide)(l:ar (e::d) X.env=(false,aG e X.env)::ar d X.env:=by rfl)(i:(aF a (ar d X.env)).any (·.1)=false:=by rfl):PS X (.Raise (Z' (.Call (.Name g p) (e::d) [] a)) Y' pos) (Db C j E t):=by
 let#[o,fd,c,G,b]:=N.ex;show mV F c N.ty G n m N.at_ b k h l i
def IX(C:aj)(x:Int)(E:XK)(H:Hp):=∀ b a,ZE H a->a b\.xd [("number",-x)]->E (!C) (Z' b) a
theorem IX.go{E:XK}(r:IX C x E H)(s:ZE H b)(h:b a=Y'):E (!C) (Z' a) (upd b a (.xd [("number",-x)])):=r a _ (s|||Zv h _) Za
theorem Gw(h:ZD H L.kt u):YL H L u:=by
 unfold Yd.kt at h;rw[ZD] at h;let#[a,r,rfl,e,b]:=h;rw[jO] at b;let#[p,l,rfl,c,b]:=b;rw[jO] at b;let#[j,m,rfl,g,b]:=b;rw[jO] at b;let#[k,n,rfl,i,b]:=b;rw[jO] at b;let#[q,o,rfl,d,b]:=b;rw[jO] at b;subst b;rw[ZD] at c d;subst c d;show#[a,j,k,Z,e,g,i]
structure YH where
 x:aj
 th:aj
 tg:aj
 ab:aj
abbrev jr:=List YH
noncomputable def YH.d:YH:=#[(0),(0),(0),(0)]
structure O1(jU:aj)(H:Hp)(ts:jk)(av:Nat->jj)(ho:Nat->Nat)(i:Nat)(a:YH):Prop where
 tw:Vh jU H a.x (!a.th) (!a.tg) a.ab (ho i) (iN (av i))
 things:∃ us,H a.th\.lst us/\((ts^i).h=0->jO H (YB (ts^i).rows) us)/\((ts^i).h≠0->us=iN (ts^i).bs)
 tag:YL H (Zw (ts^i)) !a.tg
theorem O1.same{jU:aj}{H b:Hp}{e:jk}{c:Nat->jj}{d:Nat->Nat}{i:Nat}{a:YH}(h:O1 jU H e c d i a)(s:ZE H b):O1 jU b e c d i a:=by
 let#[l,g,j,k]:=h.things;show#[h.tw.same s,#[l,s _ _ g,λz=>(j z).sm s,k],h.tag.mono 'è']
structure Zm(jT jU:aj)(H:Hp)(S d lk:aj)(lv:jj)(ts:jk)(av:Nat->jj)(ho:Nat->Nat)(as:jr)(kvs:List (ZY×V))(ls:je):Prop where
 sh:Xj jT H S d lk ↑ts kvs ls
 lt:∀ i∈lv,i<↑ts
 keys:kvs.map (·.1)=lv.map (λi:Nat=>(gR (i:Int):ZY))
 val:∀ i:Nat,i∈lv->YU kvs (gR (i:Int))\.ref as[i]!.x
 len:↑as=↑ts
 tw:∀ i:Nat,i∈lv->O1 jU H ts av ho i as[i]!
 own:∀ i:Nat,i∈lv->as[i]!.x≠S/\as[i]!.ab≠lk/\as[i]!.th≠lk/\as[i]!.ab≠as[i]!.th
 two:∀ i j:Nat,i∈lv->j∈lv->i≠j->as[i]!.x≠as[j]!.x/\as[i]!.ab≠as[j]!.ab/\as[i]!.ab≠as[j]!.th/\as[i]!.th≠as[j]!.th
theorem Zm.same{jT jU:aj}{H b:Hp}{S d lk:aj}{k:jj}{l:jk}{e:Nat->jj}{g:Nat->Nat}{c:jr}{a:List (ZY×V)}{j:je}(h:Zm jT jU H S d lk k l e g c a j)(s:ZE H b):Zm jT jU b S d lk k l e g c a j:=
 #[h.sh.same s,h.lt,h.keys,h.val,h.len,λi m=>(h.tw i m).same s,h.own,h.two]
theorem O1.frame(h:O1 jU H e c d i a)(m:Z1 H b)(r:∀ o,H a.x\o->b a.x\o)(q:∀ o,H a.th\o->b a.th\o)(p:∀ o,H a.ab\o->b a.ab\o):O1 jU b e c d i a:=by
 let#[s,j,k,l]:=h.things;let#[g,n]:=h.tw.self;show#[#[#[g,r _ n],p _ h.tw.above],#[s,q _ j,λz=>(k z).mono m _ _,l],h.tag.mono m]
theorem Zm.none(h:Zm jT jU H S d n c p g m e a o)(b:hG c x=false):YU a (gR x)=uT:=by
 cases z:YU a (gR x) with
 |none=>rfl
 |some v=>
  have:=GL z;rw[h.keys] at this;let#[i,l,k]:=zQ.mp this;let j:=Sum.inl.inj k;unfold hG at b;show gS #[(),by rwa[<-j,l]] (of_decide_eq_false b)
def LH(a:Nat->jj)(b c:Nat):Nat->jj:=λi=>if i=b then a i++[c] else a i
noncomputable def WK(a:Nat->Nat)(b:Nat):Nat->Nat:=λi=>if i=b then a i-1 else a i
theorem Zm.touch(R:Zm jT jU H S d I C L j l g r J){b s:Nat}(p:b∈C)(Y:∃ N,n g[b]!.x\.ins jU N (WQ (.ref g[b]!.th) (.ref g[b]!.tg) g[b]!.ab (l b-1)))(X:n g[b]!.ab\.lst (iN (j b++[s])))(k:∀ c o,c≠g[b]!.x->c≠g[b]!.ab->H c\o->n c\o):Zm jT jU n S d I C L (LH j b s) (WK l b) g r J:=by
 let#[#[M,E],B,F]:=R.sh;let t:=R.tw b p;let#[O,a]:=t.tw.self;let h:=t.tw.above;let#[us,D,T,U]:=t.things;let m:Z1 H n:=λc xs e=>k c _ (ZZ e a) (ZZ e h) e;show#[#[#[M,k _ _ (R.own b p).1.symm (ZZ E h) E],k _ _ (ZZ B a) (ZZ B h) B,k _ _ (ZZ F a) (R.own b p).2.1.symm F],R.lt,R.keys,R.val,R.len,λi v=>?_,R.own,R.two];by_cases z:i=b
 .subst z;let y:LH j i s i=j i++[s]:=aM Z;let A:WK l i i=l i-1:=aM Z;show#[#[?_,?_],#[us,k _ _ (ZZ D a) (R.own i v).2.2.2.symm D,λz=>(T z).mono m _ _,U],t.tag.mono m]
  .rwa[A,Y]
  .rwa[y,X]
 .let y:LH j b s i=j i:=aK z;let A:WK l b i=l i:=aK z;let u:=R.tw i v;let#[t1,t2,t3,t4]:=R.two i b v p z;let#[s1,s2,s3,s4]:=R.two b i p v (Ne.symm z);let#[Q,q]:=u.tw.self;let#[vs,W,_]:=u.things;let G:=u.frame m (λo e=>k _ _ t1 (by have:=q.symm|||e;show ZZ q h) e) (λo e=>k _ _ (ZZ W a) s3.symm e) (λo e=>k _ _ (ZZ u.tw.above a) t2 e)
  show#[?_,G.things,G.tag];rwa[y,A,G.tw]
noncomputable def Yb(b:jj)(c:Nat)(a:Nat->jj):Nat->jj:=λi=>if i∈b then a i++[c] else a i
def Wn(b:jj)(a:Nat->Nat):Nat->Nat:=λi=>if i∈b then a i-1 else a i
theorem Am(h:b∉a):LH (Yb a c d) b c=Yb (a++[b]) c d:=by
 funext i
 unfold LH Yb;by_cases z:i=b
 .subst z;rw[aM rfl,aK h,aM ⋯]
 .rw[aK z];by_cases y:i∈a
  .rw[aM y,aM (by simp[y])]
  .rw[aK y,aK (by simp[y,z])]
theorem qr(h:b∉a):WK (Wn a c) b=Wn (a++[b]) c:=by
 funext i
 unfold WK Wn;by_cases z:i=b
 .subst z;rw[aM rfl,aK h,aM ⋯]
 .rw[aK z];by_cases y:i∈a
  .rw[aM y,aM (by simp[y])]
  .rw[aK y,aK (by simp[y,z])]
abbrev IH:Stmt:=Xr (top 75) 21
inductive Y6(jT jU:aj)(r:je)(H:Hp)(Q:VK)(_:XK):Prop
 |mk(S d m l:aj)(h:jj)(q:jk)(j:Nat->jj)(k:Nat->Nat)(a:jr)(g:List (ZY×V))(n:je)(e:jj)(p:Nat)(_:r=[!S,-p,!l])(_:Zm jT jU H S d m h q j k a g n)(_:H l\.lst (iN e))(_:e.Nodup)(_:∀ b∈e,b∈h/\1<=k b/\↑(j b)<=900)(_:∀ b:Nat,b∈h->l≠a[b]!.ab)(_:∀ i:Hp,(∀ c o,(∀ b:Nat,b∈h->c≠a[b]!.x/\c≠a[b]!.ab)->H c\o->i c\o)->(∀ c,i c=Y'->H c=Y')->Zm jT jU i S d m h q (Yb e p j) (Wn e k) a g n->Q .non i)
abbrev Gi:jn:=["self","stem","branches","branch","twig"]
theorem VU:ZC Gi TD (Zc IH):=Zo
theorem lB(F:Zl K "take_over" "Shelf.take_over" IH f fd)(L:'d')(DT:'e'):-ZI ZJ 2 f fd TD (Y6 jT jU):=by
 show F.ko VU λa2 A a1 s H vs Q E hr h=>?_;let#[S,d,lk,l,lv,ts,B,j,g,U,ls,p,X,rfl,R,hl,O,hb,a0,k]:=h;let nd:=VU.nd;intro Xc;show#[_,ZR (Vi PassesOwn.never Z 'Ō' 'Ũ'
  (ZK (Zf 4 nd (Zs (E:=E0) (pv 0) L.cS DT hr Zn 'z'))
  (ZK (Mp (pv 4) ZM Lc)
  (ZR (YF (QG xQ wO wN PU (XS (pv 4) Z) 'f')))))),?_]
 show#[1,l,Z,#[_,ZF.of hl],OB (K:=K) (a:=l) (xs:=iN p) (λi σ m=>∃ x y:jf,σ=[Z' !S,Z' (-X),Z' !l,x,y]/\(∀ c o,(∀ b:Nat,b∈lv->c≠g[b]!.x/\c≠g[b]!.ab)->H c\o->m c\o)/\(∀ c,m c=Y'->H c=Y')/\Zm jT jU m S d lk lv ts (Yb (p.take i) X B) (Wn (p.take i) j) g U ls)
  #[_,1,λc o _ e=>e,λc e=>e,(by
   let e1:Yb [] X B=B:=funext λi=>aK ⋯
   let e2:Wn [] j=j:=funext λi=>aK ⋯
   rwa[show p.take 0=[] from Z,e1,e2,R])] ?_ ?_ ?_]
 .rintro i σ m _ ⟨x,y,rfl,T,_,R2⟩;show ZF.of (T _ _ (λb hb=>#[?_,a0 b hb]) hl);let#[dx,J]:=(R.tw b hb).tw.self;show ZZ hl J
 .rintro i u σ m D ⟨x,y,rfl,T,k3,R2⟩;unfold iN at D;rw[zK] at D;let#[b,eb,rfl]:=xU.mp D;let#[t,a3,a4]:=hb b (zG eb);let v:b∉p.take i:=λz=>by
   let hs:p=p.take i++b::p.drop (i+1):=by
    let hi:=(yW.mp eb);let#[hi,e]:=hi;rw[<-e,<-xH hi,wY]
   rw[hs,yO] at O;show O.2.2 b z b ⋯ Z
  let N:Wn (p.take i) j b=j b:=aK v;let M:Yb (p.take i) X B b=B b:=aK v;let#[dS,hS]:=R2.sh.self;let Wb:=R2.tw b t;let#[r,J]:=Wb.tw.self;let C:=Wb.tw.above;rw[N] at J;rw[M] at C;exists 1,S,dS,1,hS,Z,1,S,d,lk,↑ts,U,ls,(b:Int),.ref g[b]!.x,Z,R2.sh,R2.val b t;exists 1,g[b]!.x,jU,r,_,.int (j b:Nat),Z,J,L.cT,L.nho,Z,_,1,Z,r,_,J,yS Z;let eh:((j b:Nat):Int)-1=((j b-1:Nat):Int):=()
  let G:upd m g[b]!.x (.ins jU r (YW "holds" (.int (((j b:Nat):Int)-1)) (WQ (.ref g[b]!.th) (.ref g[b]!.tg) g[b]!.ab (j b)))) g[b]!.x\.ins jU r (WQ (.ref g[b]!.th) (.ref g[b]!.tg) g[b]!.ab (j b-1)):=by rw[Za,eh];rfl
  let Y:g[b]!.ab≠g[b]!.x:=ZZ C J;let q:upd m g[b]!.x (.ins jU r (YW "holds" (.int (((j b:Nat):Int)-1)) (WQ (.ref g[b]!.th) (.ref g[b]!.tg) g[b]!.ab (j b)))) g[b]!.ab\.lst (iN (B b)):=#v[ZU Y,C]
  let I:∀ c o,c≠g[b]!.x->m c\o->upd m g[b]!.x (.ins jU r (YW "holds" (.int (((j b:Nat):Int)-1)) (WQ (.ref g[b]!.th) (.ref g[b]!.tg) g[b]!.ab (j b)))) c\o:=λc o n e=>#v[ZU n,e]
  let W:∀ c,upd m g[b]!.x (.ins jU r (YW "holds" (.int (((j b:Nat):Int)-1)) (WQ (.ref g[b]!.th) (.ref g[b]!.tg) g[b]!.ab (j b)))) c=Y'->m c=Y':=λc e=>by
   by_cases z:c=g[b]!.x
   .erw[z,Za] at e
   .rw[ZU z] at e;show e
  generalize upd m g[b]!.x (.ins jU r (YW "holds" (.int (((j b:Nat):Int)-1)) (WQ (.ref g[b]!.th) (.ref g[b]!.tg) g[b]!.ab (j b))))=H3 at G q I W⊢;exists 1,g[b]!.x,jU,r,_,.ref g[b]!.ab,Z,G,L.cT,L.nab,Z,.inl #[Z,_,ZF.of q],1,g[b]!.ab,_,-X,Z,Z,q,Yq (by rw[show ↑(iN (B b))=↑(B b) from zW _];lia)
  let et:p.take (i+1)=p.take i++[b]:=by rw[yR,eb];rfl
  exists _,1,λc o hc e=>?_,λc e=>?_
  .let#[n1,n2]:=hc b t;rwa[ZU n2,I _ _ n1 (T c o hc e)]
  .by_cases z:c=g[b]!.ab
   .erw[z,Za] at e
   .rw[ZU z] at e;show k3 c (W c e)
  .rw[et,<-Am v,<-qr v];show R2.touch t #[r,?_] ?_ λc o n1 n2 e=>?_
   .rwa[ZU (Ne.symm Y),N,G]
   .rw[Za,M];simp[iN]
   .rwa[ZU n2,I _ _ n1 e]
 .rintro σ m ⟨x,y,rfl,T,k3,R2⟩;rw[show ↑(iN p)=↑p from zW _,zA (zY _)] at R2;show k m T k3 R2
theorem RG{a:jv}{p pos:Pos}(D:Q8 X.prog X.w X.K X.mg X.base k C n g)(m:ZX (k+1) X.A)(j:Gl X x)(l:X.mg x\!C)(h:PA X (e::a) t)(c:(x==("__debug__":Str))=false:=by decide)(i:ar (e::a) X.env=(false,aG e X.env)::ar a X.env:=by rfl)(d:(aF pos (ar a X.env)).any (·.1)=false:=by rfl):
  PE X (.Call 'X' (e::a) [] pos) (Mr C g [] E0 t):=by
 let#[f,fd,M,F,b]:=D.ex;show Fx M F m j l b .nil Zn h c i d
theorem yf(D:Q8 X.prog X.w X.K X.mg X.base k C h c)(g:ZX (k+1) X.A)(d:Gl X x)(e:X.mg x\!C)(a:(x==("__debug__":Str))=false:=by decide):PE X (.Call 'X' [] [] pos) (Mr C c [] E0 PM):=by
 let#[f,fd,M,F,b]:=D.ex;show oq M F g d e b .nil Zn a
noncomputable def YZ(n:Nat)(a:Nat->jj):Nat->jj:=λi=>if i=n then [] else a i
noncomputable def Yi(n:Nat)(a:Nat->Nat):Nat->Nat:=λi=>if i=n then 1 else a i
theorem Q4(h:i<↑a):hJ (a++[t]) i=hJ a i:=by
 unfold hJ;rw[zO,wG h,<-zO]
theorem Qf{t:ZO}:hJ (a++[t]) ↑a=t:=by
 unfold hJ;rw[zO,xJ (zY _)];simp
theorem GO{b:jr}(h:i<↑b):(b++[a]).getD i .d=b[i]!:=by
 rw[zO,wG h,<-zO]
theorem K3{b:jr}:(b++[a]).getD ↑b .d=a:=by
 rw[zO,xJ (zY _)];simp
theorem Dr{jT jU:aj}{H H':Hp}{S d N:aj}{D:jj}{g:jk}{B:Nat->jj}{M:Nat->Nat}{n:jr}{q:List (ZY×V)}{ls:je}(R:Zm jT jU H S d N D g B M n q ls){t:ZO}{x th tg ab:aj}(Q:∀ b o,b≠S->b≠d->H b\o->H' b\o)(nx:H x=Y')(s:H th=Y')(r:H ab=Y')(I:ab≠th)(R':Xj jT H' S d N (↑g+1) (Yh q (.inl (↑g:Int)) !x) ls)(W:Vh jU H' x (!th) (!tg) ab 1 [])(Y:∃ l,H' th\.lst l/\(t.h=0->jO H' (YB t.rows) l)/\(t.h≠0->l=iN t.bs))(X:YL H' (Zw t) !tg):
  Zm jT jU H' S d N (D++[↑g]) (g++[t]) (YZ ↑g B) (Yi ↑g M) (n++[#[x,th,tg,ab]]) (Yh q (.inl (↑g:Int)) !x) ls:=by
 let#[#[dS,T],U,hl]:=R.sh;let m:Z1 H H':=λc xs e=>Q c _ (ZZ e T) (ZZ e U) e;let en:↑(g++[t])=↑g+1:=by simp
 let nv:YU q (gR (↑g:Int))=Y':=R.none (by unfold hG;show aI (λz=>by have:=R.lt _ z.2;lia))
 let a:∀ i,i∈D++[↑g]->i∈D\/i=↑g:=λi k=>(zM.mp k).imp_right zV.mp;let el:↑n=↑g:=R.len;let A:∀ i,i∈D->(n++[(#[x,th,tg,ab]:YH)]).getD i .d=n[i]!:=λi k=>GO (by have:=R.lt i k;lia)
 let E:(n++[(#[x,th,tg,ab]:YH)]).getD ↑g .d=#[x,th,tg,ab]:=by rwa[<-el,K3]
 let y:∀ i,i∈D->∃ C l o,H n[i]!.x\.ins jU C l/\H n[i]!.th\.lst o/\H n[i]!.ab\.lst (iN (B i)):=λi k=>by
  let#[C,u]:=(R.tw i k).tw.self;let#[l,p,_]:=(R.tw i k).things;show#[C,_,l,u,p,(R.tw i k).tw.above]
 let nS:x≠S:=(Zg T nx).symm;let F:ab≠N:=(Zg hl r).symm;let O:th≠N:=(Zg hl s).symm;show#[#v[en,R'],λi k=>#v[en,(a i k).elim (λc=>by have:=R.lt i c;lia) (λc=>by lia)],?_,λi k=>?_,by simp[el],λi k=>?_,λi k=>?_,λi j k hj L=>?_]
 .rw[HP _ nv,zH,R.keys,zH];rfl
 .rw[II];rcases a i k with c|rfl
  .rw[aK (λz=>by have:=Sum.inl.inj z;have:=R.lt i c;lia),A i c]
   show R.val i c
  .rw[aM rfl,E]
 .rcases a i k with c|rfl
  .let Wi:=R.tw i c;let#[C,l,o,u,p,v]:=y i c;let il:=R.lt i c;let ni:i≠↑g:=()
   let G:=Wi.frame m (λo' e=>Q _ _ (R.own i c).1 (ZZ u U) e) (λo' e=>Q _ _ (ZZ p T) (ZZ p U) e) (λo' e=>Q _ _ (ZZ v T) (ZZ v U) e);rw[A i c];exists ?_,?_
   .rwa[show YZ ↑g B i=B i from aK ni,show Yi ↑g M i=M i from aK ni,G.tw]
   .rwa[Q4 il,G.things]
   .rwa[Q4 il,G.tag]
  .rw[E];exists ?_,?_
   .rwa[show YZ ↑g B ↑g=[] from aM Z,show Yi ↑g M ↑g=1 from aM Z,W]
   .rwa[Qf,Y]
   .rwa[Qf,X]
 .rcases a i k with c|rfl
  .rwa[A i c,R.own i c]
  .rwa[E,#[nS,F,O,I]]
 .rcases a i k with c|rfl
  .rw[A i c];rcases a j hj with J|rfl
   .rwa[A j J,R.two i j c J L]
   .rw[E];let#[C,l,o,u,p,v]:=y i c;show#[Zg u nx,Zg v r,Zg v s,Zg p s]
  .rw[E];rcases a j hj with J|rfl
   .rw[A j J];let#[C,l,o,u,p,v]:=y j J;show#[(Zg u nx).symm,(Zg v r).symm,(Zg p r).symm,(Zg p s).symm]
   .show gS Z L
inductive XZ(jT jU:aj)(k:je)(H:Hp)(Q:VK)(_:XK):Prop
 |mk(S d g:aj)(n:Nat)(a:List (ZY×V))(h:je)(j i:V)(_:k=[!S,j,i])(_:Xj jT H S d g n a h)(_:↑a<=900)(_:∀(c:Hp)(x e:aj),H x=Y'->H e=Y'->(∀ b o,b≠S->b≠d->H b\o->c b\o)->Xj jT c S d g (n+1) (Yh a (.inl (n:Int)) !x) h->Vh jU c x j i e 1 []->Q (.int (n:Int)) c)
theorem Vy:ZC ["self","things","label","number"] SW (Zc JX):=Zo
theorem mD(F:Zl K "put_twig" "Shelf.put_twig" JX f fd)(L:'d')(DM:Q8 P w K mg jW 1 jU SZ (Pi jU)):-ZI ZJ 3 f fd SW (XZ jT jU):=by
 show F.ko Vy λa1 A Y s H vs Q E hr h=>?_;let#[S,d,c,n,T,ls,th,tg,rfl,R,a0,k]:=h;let nd:=Vy.nd;let hu:=LC hr;intro Xc;show#[_,ZK (Zf 3 nd 's') (ZK (QK (pv 0) (Z5 Vn (pv 3) ZM) Z)
  (ZK (Je hu 's' (pv 3) (RG DM hr Z L.twig 'ĝ') Z) '1')),?_]
 let#[#[a,y],J,M]:=R;let Sd:S≠d:=ZZ y J;let Sl:S≠c:=ZZ y M;let dl:d≠c:=ZZ J M;exists 1,S,jT,a,_,-n,Z,y,L.cS,L.nf,Z;exists 1,_,1,Z,1,S,jT,a,1,y,L.cS,L.nf,yS Z;let l:upd H S (.ins jT a (YW "following" (.int ((n:Int)+1)) (NA d c n))) S\.ins jT a (NA d c (n+1)):=Za;let q:upd H S (.ins jT a (YW "following" (.int ((n:Int)+1)) (NA d c n))) d\.dK T:=#v[ZU (Ne.symm Sd),J]
 let r:upd H S (.ins jT a (YW "following" (.int ((n:Int)+1)) (NA d c n))) c\.lst ls:=#v[ZU (Ne.symm Sl),M]
 let u:∀ b o,b≠S->H b\o->upd H S (.ins jT a (YW "following" (.int ((n:Int)+1)) (NA d c n))) b\o:=λb o n e=>#v[ZU n,e]
 let j:∀ b,upd H S (.ins jT a (YW "following" (.int ((n:Int)+1)) (NA d c n))) b=Y'->H b=Y':=λb e=>by
  by_cases z:b=S
  .erw[z,Za] at e
  .rw[ZU z] at e;show e
 generalize upd H S (.ins jT a (YW "following" (.int ((n:Int)+1)) (NA d c n)))=B at l q r u j⊢;exists 1,_,Z;intro x G nx V ne;let g1:=Zv V (.own x);let X:upd B G (.own x) x=Y':=#v[ZU (Ne.symm ne),nx]
 let g2:=Zv X (.ins jU G []);let g:=g1|||g2;show#[x,G,th,tg,Z,Za,λH2 C O U W=>#[Z,?_]];let v:∀ b o,B b\o->H2 b\o:=λb o e=>O b o (Zg e nx) (g b o e);let m:=v _ _ l;let i:=v _ _ q;let N:=v _ _ r;let p:B C=Y':=g.free U;let#[I,t]:=W.self;let xd:x≠d:=ZZ t i;let D:C≠d:=ZZ W.above i;exists 1,S,jT,a,_,!d,Z,m,L.cS,L.nk,Z,1,d,1,Qb.k (k:=gR (n:Int)) i (Yq ())
 show#[1,k _ x C (j _ nx) (j _ p) (λb o n1 n2 e=>?_) #[#[a,?_],Za,?_] #[#[I,?_],?_]]
 .rwa[ZU n2,v b o (u b o n1 e)]
 .rwa[ZU Sd,m]
 .rwa[ZU (Ne.symm dl),N]
 .rwa[ZU xd,t]
 .rwa[ZU D,W.above]
theorem BQ(h:jO H (YB b) c):BG H (b.map (·.1)) c:=by
 let k:↑c=↑b:=by have:=↑h;rwa[<-this,zW _]
 exists #v[zW,k]
 intro i u e;let#[a,m,n,j,d,g,l,_]:=OG h e;exists a,m,n,d,g;rwa[zO,zK,j,l]
inductive VM(b:je)(H:Hp)(Q:VK)(_:XK):Prop
 |mk(v:V)(t:KT)(_:b=[v])(_:ZD H t v)(_:t.fits 3=V')(_:∀ a,ZE H a->Q v a)
theorem oG:ZC TU TU (Zc HS):=Zo
theorem mw(F:Zl K "checked" "checked" HS f fd)(c:-ZA 6 "is_key" TU UP):-ZI ZJ 7 f fd TU VM:=by
 show F.ko oG λe A a s H m Q E g h=>?_;let#[v,t,rfl,i,b,k]:=h;intro l;exists _,ZK (Z4 (OA (Xk (Zd c g 't'))) U4 Z6) (ZR (Zh (pv 0)));show#[1,v,t,(3),Z,i,b,λd j=>#[1,?_]];rwa[b,Zq #[1,k d j]]
inductive WN(g:je)(H:Hp)(Q:VK)(_:XK):Prop
 |mk(l:aj)(e:je)(d:jl)(_:g=[!l])(_:H l\.lst e)(_:jO H (YB d) e)(_:∀ r∈d,r.fit)(_:↑e<=100)(_:∀(b:Hp)(c:aj)(a:je),ZE H b->H c=Y'->b c\.lst a->jO b (YB d) a->Q (!c) b)
theorem mW:ZC TX TX (Zc Ku):=Zo
theorem me(F:Zl K "own_rows" "own_rows" Ku f fd)(M:'ä'):-ZI ZJ 8 f fd TX WN:=by
 show F.ko mW λa0 A J s H vs Q E W h=>?_;let#[l,r,rs,rfl,y,V,hf,T,k]:=h;let lk:↑r=↑rs:=by have:=V.length;rwa[<-this,zW _]
 intro Xc;show#[_,ZR (Zh (Vt [] [] Z (WJ (pv 0)) (λ_ _ _ _ _=>Ut)
   (λ_ _ _ _ _=>UF (Zu (Zd M W (ZQ '~')) (Zd M W (ZQ '~')))) trivial)),?_]
 exists 1,l,Z,#[r,ZF.of y];show Ul (n:=↑r) (λi z=>r[i]?\z) (λD i t m=>ZE H m/\H D=Y'/\jO m (YB (rs.take i)) t) (Yq ())
  (λD i t m I d=>#[r,r[i],ZF.of (d.1 _ _ y),by simp[I]]) (λD i t m z H4 I d X=>#[X.1,X.2 r (ZF.of (d.1 _ _ y))]) (λD t m d=>#[r,ZF.of (d.1 _ _ y),zY _])
  (λD U=>#[Zv U _,U,.nil]) (λD i t m z G a1 I hz d R hR=>?_) (λD t m G d=>?_)
 .let#[p,B,j]:=d;let#[a,v,x,S,rfl,e2,Y,k2]:=OG V hz;let O:=p _ _ e2;let o:=hf _ (zG S);show#[1,.inr (.inl #[a,_,_,v,Z,Z,Zp.of O,Z,v,_,Z,Y.sm p,o.1,λH4 L=>?_])];show#[1,.inr (.inl #[a,_,_,x,Z,Z,Zp.of (L _ _ O),Z,x,_,Z,k2.sm (p|||L),o.2,λN s5=>?_])];exists Yc;intro q hq;let g:=Zv hq (.tup [v,x]);let c:=(L|||s5)|||g;let u:=c _ _ G;let C:Z1 (upd N q (.tup [v,x])) (upd (upd N q (.tup [v,x])) D (.lst (t++[!q]))):=λb xs e=>#v[ZU (ZZ e u),e]
  show hR _ _ u #[UW (p|||c) B,B,?_];rw[yR,S,Kb];show((j.sm c).mono C _ _).append (.cons (.tup (C _ _ Za) (.cons ?_ (.cons ?_ .nil))) .nil)
  .show(Y.sm (p|||c)).mono C _ _
  .show(k2.sm (p|||c)).mono C _ _
 .let#[p,B,j]:=d;rw[zA ()] at j
  show k m D t p B G j
inductive UK(g:je)(H:Hp)(Q:VK)(_:XK):Prop
 |mk(l:aj)(d:je)(c:jm)(_:g=[!l])(_:H l\.lst d)(_:jO H c d)(_:∀ t∈c,t.fits 3=V')(_:↑d<=100)(_:c.Pairwise (λa b=>a.lt b=V'))(_:∀ e,ZE H e->Q '<' e)
theorem zn:ZC ["keys"] ["keys"] (Zc Jw):=Zo
theorem Kt{c:Type}{R:c->c->Prop}:∀{l:List c},l.Pairwise R->∀{i j:Nat}{a b:c},i<j->l[i]?\a->l[j]?\b->R a b
 |[],_,_,_,_,_,_,h,_=>by simp at h
 |x::l,hp,0,j+1,a,b,_,ha,hb=>by
  simp at ha hb;subst ha;show(xD.mp hp).1 b (zG hb)
 |x::l,hp,i+1,j+1,a,b,hij,ha,hb=>by
  simp at ha hb;show Kt (xD.mp hp).2 () ha hb
theorem uw(F:Zl K "rise" "rise" Jw f fd)(T:YM mg)(S:'.'):-ZI ZJ 8 f fd ["keys"] UK:=by
 show F.ko zn λU A y s H vs Q E hr h=>?_;let#[l,c,ks,rfl,L,t,J,G,u,k]:=h;let lk:=↑t;intro Xc;show#[_,ZR (Zh (YA (Ld Z) Z T.all Kh (ZQ (Vt [0] ["keys"] Z 'ŗ' (λ_ _ _ _ _=>Ut)
  (λ_ _ _ _ _=>Zd S hr (Zu (Zy K (pv 1) (Z5 Vg (pv 0) ZM)) (Zy K (pv 1) (pv 0)))) #[Z,.inl Z,Z,trivial])))),?_]
 exists 1,l,c,Z,.inl (ZF.of L),(1),(↑c:Int),Z,#[nofun,nofun,nofun,nofun]
 show Ul (n:=((↑c:Int)-1).toNat) (λi x=>x=.int (1+(i:Int))) (λD i j d=>ZE H d/\H D=Y'/\j=(vS i true).map V.bl) (Yq nofun)
  (λD i j d q _=>q) (λD i j d x z q _ hy=>hy) (λD j d _=>zY _) (λD I=>#[Zv I _,I,Z]) (λD i j d x o a0 q hx p R Y=>?_) (λD j d o p=>?_)
 .subst hx;let#[g,v,rfl]:=p;let r:i+1<↑c:=nofun
  let N:c[i]?\c[i]'nofun:=zT nofun
  let O:c[i+1]?\c[i+1]:=zT r;let X:(1:Int)+(i:Int)=((i+1:Nat):Int):=nofun
  let W:(1:Int)+(i:Int)-1=((i:Nat):Int):=nofun
  let#[a,B,ka]:=t.get N;let#[b,C,kb]:=t.get O;let m:=g _ _ L;show#[2,_,1,Z,.inl #[l,c,_,1,Z,ZF.of m,#v[W,Yf N],?_]]
  show#[2,.inl #[l,c,_,1,Z,ZF.of m,#v[X,Yf O],?_]]
  exists _,_,a,b,Z,ka.sm g,kb.sm g,J a (zG B),J b (zG C);intro z M;rw[Kt u (wC i) B C];show Y _ z (M D _ o) #[UW (g|||M) v,v,?_];rw[List.replicate_succ',zH];rfl
 .let#[g,v,rfl]:=p;exists D,1,ZF.of o;let e:(vS ((↑c:Int)-1).toNat true).all id=V':=by simp
  rwa[e,k d g]
def OT(c:jl):=(∀ r∈c,r.fit)/\0<↑c/\↑c<=4/\(c.map (·.1)).Pairwise (λa b=>a.lt b=V')
inductive Xv(g:je)(H:Hp)(Q:VK)(_:XK):Prop
 |mk(l:aj)(e:je)(d:jl)(_:g=[!l])(_:H l\.lst e)(_:jO H (YB d) e)(_:OT d)(_:∀(b:Hp)(c:aj)(a:je),ZE H b->H c=Y'->b c\.lst a->jO b (YB d) a->Q (!c) b)
theorem Uy:ZC ["rows","own"] TX (Zc Kx):=Zo
theorem oA(F:Zl K "checked_rows" "checked_rows" Kx f fd)(T:YM mg)(W:-ZA 8 "own_rows" TX WN)(X:-ZA 8 "rise" ["keys"] UK):-ZI ZJ 9 f fd TX Xv:=by
 show F.ko Uy λY A J s H vs Q E S h=>?_;let#[l,V,y,rfl,hl,O,#[N,h0,h4,I],k]:=h;let nd:=Uy.nd;let lk:V.length=↑y:=by have:=↑O;rwa[<-this,zW _]
 let#[t4,m4]:=T.rows;intro Xc;show#[_,ZK (Zf 1 nd (Zd W S 't'))
  (ZK (Z4 (PW.pt (Kl (OA (Ff NI NI ZM 'V' (Xp (v:=.int 4) Z m4 #[_,Z])))
   (Lg (OA (Xk (Zd X S (ZQ (Vt [] [] Z 'ō' (λ_ _ _ _ _=>Ut) (λ_ _ _ _ _=>Zy K (pv 0) ZM) trivial)))))))) U4 Z6)
  'ĭ'),?_]
 exists 1,l,V,y,Z,hl,O,N,by lia
 intro B D b s3 nD u m;let ly:↑b=↑y:=by have:=↑m;rwa[<-this,zW _]
 exists 1,D,b,Z,.inl (ZF.of u),_,1,Z,_,Z;rw[aJ (show (1:Int)<=(↑b:Int) by lia)]
 show Z2 #[_,1,Z,1,?_];rw[aJ (show (↑b:Int)<=4 by lia)]
 show Zq ?_;exists 1,D,Z,#[b,ZF.of u];show Ul (n:=↑b) (λi z=>b[i]?\z) (λe i q g=>ZE B g/\B e=Y'/\jO B ((y.map (·.1)).take i) q) (Yq ())
  (λe i q g C d=>#[b,b[i],ZF.of (d.1 _ _ u),by simp[C]]) (λe i q g z M C d U=>#[U.1,U.2 b (ZF.of (d.1 _ _ u))]) (λe q g d=>#[b,ZF.of (d.1 _ _ u),zY _])
  (λe x=>#[Zv x _,x,.nil]) (λe i q g z j a0 C hz d R hR=>?_) (λe q g j d=>?_)
 .let#[p,o,c]:=d;let#[a,vk,vv,er,rfl,e2,k1,_]:=OG m hz;show#[1,.inr (.inl #[a,_,_,vk,Z,Z,Zp.of (p _ _ e2),Z,?_])];show hR _ g j #[UW p o,o,?_];rwa[yR,zK,er,c.append (.cons k1 .nil)]
 .let#[p,o,c]:=d;rw[zA (by rw[zW];lia)] at c
  let lz:=↑c;rw[zW] at lz;show#[e,q,1,j,c.sm p,λt ht=>?_,(),I,λM L=>#[1,Zq #[1,k M D b ((s3|||p)|||L) nD (L _ _ (p _ _ u)) (m.sm (p|||L))]]]
  let#[r,G,rfl]:=zQ.mp ht;show(N r G).1
def Xo(a:jl):ZO:=#[(0),a,[]]
inductive Yr(jT jU:aj)(r:je)(H:Hp)(Q:VK)(_:XK):Prop
 |mk(S d n l:aj)(h:jj)(c:jk)(k:Nat->jj)(m:Nat->Nat)(j:jr)(e:List (ZY×V))(p q:je)(i:jl)(_:r=[!S,!l])(_:Zm jT jU H S d n h c k m j e p)(_:↑h<=900)(_:H l\.lst q)(_:jO H (YB i) q)(_:OT i)(_:∀(g:Hp)(a:YH),H a.x=Y'->H a.th=Y'->H a.ab=Y'->(∀ b o,b≠S->b≠d->H b\o->g b\o)->Zm jT jU g S d n (h++[↑c]) (c++[Xo i]) (YZ ↑c k) (Yi ↑c m) (j++[a]) (Yh e (.inl (↑c:Int)) !a.x) p->Q (.int (↑c:Nat)) g)
theorem Vl:ZC ["self","rows","own"] TC (Zc J0):=Zo
theorem Eg(R:Zm jT jU H S d h b j e g c a i):↑a=↑b:=by
 have:=congrArg xG R.keys;simpa using this
def ZP(c:jk)(a:jj):jl:=a.flatMap λb=>(c^b).rows
def YE(b:jk)(a:jj):ZO:=#[(hJ b (a.getD 0 0)).h+1,ZP b a,a]
def KH(c:jk):jj->Prop
 |a::b::r=>(Zw (c^a)).hi.lt (Zw (c^b)).lo=V'/\KH c (b::r)
 |_=>True
theorem E3{c:jk}:∀{bs:jj},(∀ j,j+1<↑bs->((YI c bs).getD j .d).hi.lt ((YI c bs).getD (j+1) .d).lo=V')->KH c bs
 |[],_=>trivial
 |[_],_=>trivial
 |a::b::r,h=>#[h 0 ⋯,E3 (bs:=b::r) λj e=>h (j+1) (by simp at e⊢;lia)]
theorem Qz{t:ZO}(a:t.rows≠[]):∃ r b,t.rows=r::b/\(Zw t).lo=r.1:=by
 cases e:t.rows with
 |nil=>show gS e a
 |cons r b=>show#[r,b,Z,by unfold Zw;rw[e];rfl]
theorem Le{t:ZO}(a:t.rows≠[]):∃ b r,t.rows=b++[r]/\(Zw t).hi=r.1:=by
 rcases vC t.rows with e|⟨b,r,e⟩
 .show gS e a
 .rw[vD] at e;exists b,r,e;unfold Zw;rw[e];simp[zO]
theorem Rk(h:XB gt g i t)(a:x∈t.rows.map (·.1))(b:(Zw t).hi.lt y=V'):x.lt y=V':=by
 let#[j,r,e,d]:=Le h.ne;let c:=h.up;rw[e,zH] at c a;rw[d] at b;rcases zM.mp a with a|a
 .have:=(xA.mp c).2.2 x a r.1 ⋯
  show T9 _ _ _ this b
 .simp at a;rwa[a,b]
theorem Ra{l:jm}(g:l.Pairwise λa b=>a.lt b=V')(e:l.head?\z){x:KT}(d:x.lt z=V'):∀ y∈l,x.lt y=V':=by
 cases l with
 |nil=>cases e
 |cons a l=>
  simp at e;subst e;intro y c;rcases zU.mp c with rfl|c
  .show d
  .show T9 _ _ _ d ((xD.mp g).1 y c)
theorem Gh{gt:jj}{ts:jk}(hw:WF gt ts):∀{bs:jj},(∀ b∈bs,b∈gt)->KH ts bs->((ZP ts bs).map (·.1)).Pairwise (λa b=>a.lt b=V')/\bs.Nodup
 |[],_,_=>#[xI.nil,vU]
 |[a],hb,_=>by
  show#[?_,by simp]
  have:=(hw a (hb a ⋯)).up
  simpa [ZP] using this
 |a::b::r,hb,hn=>by
  let#[h1,h2]:=Gh hw (bs:=b::r) (λc hc=>hb c (zS _ hc)) hn.2;let oa:=hw a (hb a ⋯)
  let ob:=hw b (hb b ⋯)
  let#[rb,rs,eb,el]:=Qz ob.ne;let hd:((ZP ts (b::r)).map (·.1)).head? = Z' (Zw (ts^b)).lo:=by
   rw[el];unfold ZP;rw[wT,eb];rfl
  let cross:∀ x∈(ts^a).rows.map (·.1),∀ y∈(ZP ts (b::r)).map (·.1),x.lt y=V':=λx hx=>Ra h1 hd (Rk oa hx hn.1);show#[?_,yQ.mpr #[λhm=>?_,h2]]
  .let e:ZP ts (a::b::r)=(ts^a).rows++ZP ts (b::r):=by simp[ZP]
   rwa[e,zH,xA.mpr #[oa.up,h1,cross]]
  .let#[ra,rs',ea,_]:=Qz oa.ne;let m1:ra.1∈(ts^a).rows.map (·.1):=by rw[ea];simp
   let m2:ra.1∈(ZP ts (b::r)).map (·.1):=zQ.mpr #[ra,xT.mpr #[a,hm,by rw[ea];simp],Z]
   have:=cross _ m1 _ m2;erw[UI] at this
theorem PL(b:i<↑a):(YI c a).getD i .d=Zw (hJ c (a.getD i 0)):=by
 unfold YI;rw[zO,zK,zT b,zO,zT b];rfl
theorem IE(F:WF gt g)(x:∀ b∈c,b∈gt)(h:gX (YI g c)\L):
  L=Zw (YE g c)/\c.Nodup/\2<=↑c/\↑c<=4/\(∀ b∈c,(g^b).h+1=(YE g c).h)/\((ZP g c).map (·.1)).Pairwise (λa b=>a.lt b=V')/\ZP g c≠[]:=by
 unfold gX at h;split at h
 case isFalse=>cases h
 case isTrue hc=>
  let#[o,H,V]:=hc;let G:↑(YI g c)=↑c:=zW _;rw[G] at o H;let p:=P1.mpr V;unfold Kr at p;rw[G] at p;let B:KH g c:=E3 λj U=>(p j U).2;let#[E,C]:=Gh F x B;let T:∀ i,i<↑c->((YI g c).getD i .d).h=((YI g c).getD 0 .d).h:=λi n=>by
   cases i with
   |zero=>rfl
   |succ i=>show(p i n).1
  let k:∀ i,i<↑c->c.getD i 0∈c:=λi n=>#v[zO,zT n,xK _]
  let I:=F _ (x _ (k 0 ()))
  let X:=F _ (x _ (k (↑c-1) ()))
  let A:∀ b∈c,(g^b).h+1=(YE g c).h:=λb y=>by
   let#[i,n,e]:=List.getElem_of_mem y;have:=T i n;rw[PL n,PL ()] at this
   let s:c.getD i 0=b:=by rw[zO,zT n,e];rfl
   rw[s] at this;have:=Int.ofNat.inj this;change (g^b).h+1=(hJ g (c.getD 0 0)).h+1
   lia
  let D:ZP g c≠[]:=λz=>by
   let#[r,q,e,_]:=Qz I.ne;have:r∈ZP g c:=xT.mpr #[_,k 0 (),by rw[e];simp]
   rw[z] at this;simp at this
  show#[?_,C,o,H,A,E,D];rw[<-yV.inj h];let v:((YI g c).getD 0 .d).lo=(Zw (YE g c)).lo:=by
   rw[PL ()]
   let#[r,q,e,u]:=Qz I.ne;rw[u]
   cases c with
   |nil=>simp at o
   |cons b c=>
    unfold Zw YE ZP;let M:(g^b).rows=r::q:=e;simp only[wT,M];rfl
  let t:((YI g c).getD (↑(YI g c)-1) .d).hi=(Zw (YE g c)).hi:=by
   rw[G,PL ()]
   let#[q,r,e,u]:=Le X.ne;rw[u];rcases vC c with z|⟨J,b,z⟩
   .rw[z] at o;simp at o
   .rw[vD] at z;let O:c.getD (↑c-1) 0=b:=by rw[z];simp[zO]
    rw[O] at e;let S:ZP g c=ZP g J++q++[r]:=by rw[z];simp[ZP,e]
    unfold Zw YE;simp only[S];simp[zO]
  let R:((YI g c).map Yd.m).sum=(Zw (YE g c)).m:=by
   have:∀ l:jj,((YI g l).map Yd.m).sum=(↑(ZP g l):Int):=λl=>by
    induction l with
    |nil=>rfl
    |cons b l W=>
     let N:YI g (b::l)=Zw (g^b)::YI g l:=rfl;let s:ZP g (b::l)=(g^b).rows++ZP g l:=by simp[ZP]
     rw[N,s,yX,List.sum_cons,W,zR];change (↑(g^b).rows:Int)+_=_
     lia
   show this c
  let Q:((YI g c).getD 0 .d).h+1=(Zw (YE g c)).h:=by
   rw[PL ()]
   change ((hJ g (c.getD 0 0)).h:Int)+1=(((hJ g (c.getD 0 0)).h+1:Nat):Int)
   lia
  rw[v,t,R,Q]
theorem Js(k:WF gt c)(e:∀ b∈d,b∈gt)(h:gX (YI c d)\L):XB gt c ↑c (YE c d):=by
 let#[_,_,l,m,n,j,g]:=IE k e h;show#[g,j,λr o=>?_,λz=>gS z (by change (hJ c (d.getD 0 0)).h+1≠0;lia),λ_=>#[l,m,λb a=>#[e b a,n b a],Z]]
 let#[b,a,i]:=xT.mp o;show(k b (e b a)).inn r i
theorem Dl(h:WF gt e)(g:∀ b∈c,b∈gt)(i):((YI e c).getD i .d).fit:=by
 rcases yL i ↑c with a|a
 .rw[PL a];show LK (h _ (g _ ?_));rwa[zO,zT a,xK _]
 .rw[zO,qS (by unfold YI;rwa[zW,a])]
  show CQ
abbrev RS:jn:=["labels","at","many"]
theorem P0:ZC RS Tr (Zc JF):=Zo
theorem Ay(h:gX a\L):2<=↑a/\↑a<=4/\Lo a=V'/\L=#[a[0]!.h+1,a[0]!.lo,a[↑a-1]!.hi,(a.map Yd.m).sum]:=by
 unfold gX at h;split at h
 .rename_i z
  cases h;show#[z.1,z.2.1,z.2.2,Z]
 .cases h
inductive X9(e:je)(H:Hp)(Q:VK)(_:XK):Prop
 |mk(l:aj)(c:je)(b:jD)(L:Yd)(_:e=[!l])(_:H l\.lst c)(_:Ym H b c)(_:∀ i,b[i]!.fit)(_:gX b\L)(_:∀ a v,ZE H a->ZD a L.kt v->Q v a)
theorem oh(F:Zl K "label_over" "label_over" JF f fd)(T:YM mg)(DS:-ZA 8 "stand_side_by_side" Tb QS):-ZI ZJ 9 f fd Tr X9:=by
 show F.ko P0 λc2 A a7 s H vs Q E hr h=>?_;let#[l,q,r,L,rfl,hl,hk,hf,a4,k]:=h;let#[v2,v4,vc,rfl]:=Ay a4;let nd:=P0.nd;let a0:=hk.1;let#[tf,mf]:=T.few;let#[tm,mm]:=T.most;let#[t0,m0]:=T.height;let#[t1,m1]:=T.least;let#[t2,m2]:=T.greatest;let#[t3,m3]:=T.many;intro Xc;show#[_,ZK (Z4 (OA (Ff NI NI (Xp (v:=.int 2) Z mf #[_,Z]) 'U' (Xp (v:=.int 4) Z mm #[_,Z]))) U4 Z6)
  (ZK (Vi PassesOwn.never Z 'ŗ' (VG 1 nd)
   (ZR (Z4 (OA (Xk (Zd DS hr (Zu (Zy K (pv 0) (Z5 Vg (pv 1) ZM)) (Zy K (pv 0) (pv 1)))))) U4 Z6)))
  (ZK (Zf 2 nd (YA (y7 Z) Z T.sum Bl (ZQ (Vt [] [] Z (WJ (pv 0)) (λ_ _ _ _ _=>Ut) (λ_ _ _ _ _=>Zy K (pv 0) (Xp (v:=.int 3) Z m3 #[1])) trivial))))
  (ZR (Zh (UF (Uv (Z5 Vn (Zy K '~' (Xp (v:=.int 0) Z m0 #[_,Z])) ZM)
   (Zy K '~' (Xp (v:=.int 1) Z m1 #[_,Z]))
   (Zy K (Zy K (pv 0) 'n') (Xp (v:=.int 2) Z m2 #[_,Z]))
   (pv 2))))))),?_]
 let O:∀(W:Hp)(i:Nat),ZE H W->i<↑q->∃(a:aj)(G C:V),q[i]?\.ref a/\W a\.tup [.int r[i]!.h,G,C,.int r[i]!.m]/\ZD W r[i]!.lo G/\ZD W r[i]!.hi C:=λW i s' M=>by
  let hu:q[i]?\q[i]:=zT M;let#[a,G,C,e,e1,k1,k2]:=(hk.2 i _ hu).mono (ZE.tups s');show#[a,G,C,by rw[hu,e],e1,k1,k2]
 exists 1,l,q,Z,.inl 'ű',_,1,Z,_,Z;let h2:2<=↑q:=nofun
 let h4:↑q<=4:=nofun
 rw[aJ (show (2:Int)<=(↑q:Int) from nofun)]
 show Z2 #[_,1,Z,1,?_];rw[aJ (show (↑q:Int)<=4 from nofun)]
 show Zq ?_;exists 1,l,q,Z,.inl 'ű',(1),(↑q:Int),Z,#[nofun,nofun,nofun,nofun]
 show OS (lo:=1) (n:=((↑q:Int)-1).toNat) (λi σ X=>∃ x:jf,σ=[Z' !l,x,Y']/\ZE H X/\∀ j,j<i->P9 r[j]! r[j+1]! =V') #[1,ZE.refl H,λj hj=>gS hj nofun] ?_ ?_
 .rintro i σ X M ⟨x,rfl,I,a1⟩;let a2:i+1<↑q:=nofun
  let ua:q[i]?\q[i]'nofun:=zT nofun
  let ub:q[i+1]?\q[i+1]:=zT a2;let e1:(1:Int)+(i:Int)=((i+1:Nat):Int):=nofun
  let e0:(1:Int)+(i:Int)-1=((i:Nat):Int):=nofun
  let t:=I _ _ hl;show#[2,_,1,Z,.inl #[l,q,_,1,Z,ZF.of t,#v[e0,Yf ua],?_]]
  show#[2,.inl #[l,q,_,1,Z,ZF.of t,#v[e1,Yf ub],?_]]
  show#[_,_,r[i]!,r[i+1]!,Z,(hk.2 i _ ua).mono (ZE.tups I),(hk.2 (i+1) _ ub).mono (ZE.tups I),hf i,hf (i+1),λu S=>#[1,?_]];let hc:P9 r[i]! r[i+1]! =V':=yM.mp vc i (wL.mpr nofun)
  rw[hc];show Zq #[1,I|||S,λj hj=>?_];rcases yL j i with c1|c1
  .show a1 j c1
  .have:j=i:=nofun
   rwa[this,hc]
 rintro σ X ⟨x,rfl,I,a1⟩;let t:=I _ _ hl;exists 1,l,Z,#[q,ZF.of t];show Ul (n:=↑q) (λi z=>q[i]?\z) (λD i U u=>ZE X u/\X D=Y'/\U=((r.map Yd.m).take i).map V.int) (Yq nofun)
  (λD i U u M y=>#[q,q[i],ZF.of (y.1 _ _ t),by simp[M]]) (λD i U u z H4 M y hy=>#[hy.1,hy.2 q (ZF.of (y.1 _ _ t))]) (λD U u y=>#[q,ZF.of (y.1 _ _ t),zY _])
  (λD hD=>#[Zv hD _,hD,Z]) (λD i U u z eD c4 M hz y R hR=>?_) (λD U u eD y=>?_)
 .let#[S,nD,rfl]:=y;let#[a,a9,a8,ua,ea,c5,c6]:=O u i (I|||S) M;erw[ua] at hz;show#[1,.inr (.inl #[a,_,_,.int r[i]!.m,Z,Z,Zp.of ea,Z,?_])];show hR _ u eD #[λb o e=>#v[ZU (Zg e nD),S b o e],nD,?_]
  let eg:(r.map Yd.m)[i]?=Z' r[i]!.m:=by
   rw[zK,zO,zT (show i<↑r from nofun)]
   rfl
  rw[yR,eg,zH];rfl
 .let#[S,nD,rfl]:=y;rw[zA (by rw[zW];lia (splits:=8))] at eD
  exists D,r.map Yd.m,Z,ZF.of eD;let B:=I|||S;let N:=B _ _ hl;let#[c,clo,c3,uc,ec,a6,c8]:=O u 0 B nofun
  let#[b,c0,Y,ub,eb,c7,a5]:=O u (↑q-1) B nofun
  let J:Xi q (-1)\.ref b:=by
   let e:q=q.dropLast++[!b]:=by
    let a3:q≠[]:=λz=>by rw[z] at h2;simp at h2
    let hg:q.getLast a3=.ref b:=by
     rw[pW];have:=(yW.mp ub).2;show this
    rw[<-hg,qB]
   rwa[e,C9 _ _]
  show#[1,.inl #[l,q,_,!c,Z,Z,ZF.of N,Yf (j:=0) uc,.inr (.inl #[c,_,_,.int r[0]!.h,Z,Z,Zp.of ec,Z,_,_,Z,Z,?_])]];show#[1,.inl #[l,q,_,!c,Z,Z,ZF.of N,Yf (j:=0) uc,.inr (.inl #[c,_,_,clo,Z,Z,Zp.of ec,Z,?_])]];show#[1,(1),Z,.inl #[l,q,_,!b,Z,Z,ZF.of N,J,.inr (.inl #[b,_,_,Y,Z,Z,Zp.of eb,Z,?_])]];exists 1,Yc;intro p hp;let g:=Zv hp (.tup [.int (r[0]!.h+1),clo,Y,.int (r.map Yd.m).sum]);show k _ _ (B|||g) ?_;rwa[<-a0,.tup Za (.cons (.int _) (.cons (a6.sm g) (.cons (a5.sm g) 'ŷ')))]
abbrev JI:Stmt:=Xr (top 75) 19
abbrev GM:Stmt:=Xr (top 75) 20
abbrev Ja:Stmt:=Xr (top 75) 2
inductive Yg(jT jU:aj)(p:je)(H:Hp)(Q:VK)(_:XK):Prop
 |mk(S d n l:aj)(g:jj)(h:jk)(k:Nat->jj)(m:Nat->Nat)(j:jr)(e:List (ZY×V))(o:je)(c:jj)(_:p=[!S,!l])(_:Zm jT jU H S d n g h k m j e o)(_:H l\.lst (iN c))(_:∀ b∈c,b∈g)(_:↑c<=100)(_:∀(D:aj)(i:je)(a:Hp),ZE H a->H D=Y'->a D\.lst i->Ym a (YI h c) i->Q (!D) a)
theorem lS:ZC T4 T4 (Zc JI):=Zo
theorem MF{i:Nat}(h:(iN a)[i]?\z):∃ b,a[i]?\b/\z=.int (b:Nat):=by
 unfold iN at h;rw[zK] at h;let#[b,e,rfl]:=xU.mp h;show#[b,e,Z]
theorem kM(F:Zl K "labels_of" "Shelf.labels_of" JI f fd)(L:'d')(T:-ZB ZJ 2 jT "label" U' (Xl jT jU λtg _ _=>tg)):-ZI ZJ 3 f fd T4 (Yg jT jU):=by
 show F.ko lS λV A I s H vs Q E hr h=>?_;let#[S,d,lk,l,lv,q,av,ho,U,G,ls,j,rfl,R,v,hb,M,k]:=h;let li:↑(iN j)=↑j:=zW _;intro Xc;exists _,ZR (Zh (Vt [0] TY Z 'ō' (λ_ _ _ _ _=>Ut) (λ_ _ _ _ _=>Zs (E:=E0) (pv 1) L.cS T hr Zn 't') #[Z,.inl Z,Z,trivial]));exists 1,l,Z,#[_,ZF.of v];show Ul (n:=↑(iN j)) (λi z=>(iN j)[i]?\z) (λD i o a=>ZE H a/\H D=Y'/\Ym a (YI q (j.take i)) o) (Yq ())
  (λD i o a C g=>#[_,(iN j)[i],ZF.of (g.1 _ _ v),zT C]) (λD i o a z H4 C g O=>#[O.1,O.2 _ (ZF.of (g.1 _ _ v))]) (λD o a g=>#[_,ZF.of (g.1 _ _ v),zY _])
  (λD N=>#[Zv N _,N,Z,λi u e=>by simp at e]) (λD i o a z r a0 C hz g RR B=>?_) (λD us a r g=>?_)
 .let#[y,x,t]:=g;let#[b,J,rfl]:=MF hz;let m:=hb b (zG J);let p:=R.same y;let#[W,Y]:=p.sh.self;exists 1,S,W,1,Y,Z,1,S,d,lk,↑q,G,ls,(b:Int),_,_,_,_,_,1,#[p.sh,p.val b m,(p.tw b m).tw];show B _ a r #[UW y x,x,?_];let tD:Z1 a (upd a D (.lst (o++[.ref U[b]!.tg]))):=λc xs e=>#v[ZU (ZZ e r),e]
  rw[yR,J];let X:YI q (j.take i++(Z' b).toList)=YI q (j.take i)++[Zw (q^b)]:=by unfold YI;simp
  rwa[X,(t.snoc (p.tw b m).tag).mono tD]
 .let#[y,x,t]:=g;rw[zA ()] at t
  show k D us a y x r t
inductive Zz(jT jU:aj)(q:je)(H:Hp)(Q:VK)(_:XK):Prop
 |mk(S l:aj)(e:jy)(_:q=[!S,!l])(_:H l\.lst (e.map V.int))(_:∃ h b,H S\.ins jT h b/\b.lookup (wF "outside")=Y')(_:∀ n∈e,∃(d i:aj)(m:Nat)(a:List (ZY×V))(j:je)(x:aj)(o k:V)(g:aj)(c:Nat)(p:je),Oe jT jU H S d i m a j n x o k g c p/\1<=c)(_:Q .non H)
theorem WU:ZC ["self","numbers","number"] T4 (Zc GM):=Zo
theorem kq(F:Zl K "check_held" "Shelf.check_held" GM f fd)(L:'d')(r:-ZB ZJ 2 jT "outside" U' (Xl jT jU λ_ j _=>.int j)):-ZI ZJ 3 f fd T4 (Zz jT jU):=by
 show F.ko WU λv A p s H vs Q E I h=>?_;let#[S,l,O,rfl,q,#[y,fs,D,g],G,k]:=h;let N:=WU.nd;intro Y;show#[_,ZR (Vi PassesOwn.never Z 'ō' (VG 2 N)
  (ZR (Z4 (YO Vm (Zs (E:=E0) (pv 0) L.cS r I Zn 'o') ZM (Z9 _)) U4 Z6))),?_]
 show#[1,l,Z,#[_,ZF.of q],OB (K:=K) (a:=l) (xs:=O.map V.int) (λi e c=>∃ x:jf,e=[Z' !S,Z' !l,x]/\c=H) #[1,Z] (λi e c _ C=>by let#[_,_,rfl]:=C;show ZF.of q) ?_ ?_]
 .rintro i u e c b ⟨x,rfl,rfl⟩;rw[zK] at b;let#[n,B,rfl]:=xU.mp b;let#[d,J,m,o,M,X,U,T,t,j,W,R,h1]:=G n (zG B);exists 1,S,y,1,D,g,1,S,d,J,m,o,M,n,X,U,T,t,j,W,Z,R,Z,_,Z;rw[aI (λz=>by have:=Lj z;lia)]
  show Zq #[1,Z]
 .rintro e c ⟨x,rfl,rfl⟩;show k
inductive YC(jT jU:aj)(s:je)(H:Hp)(Q:VK)(_:XK):Prop
 |mk(S d p l:aj)(h:jj)(e:jk)(m:Nat->jj)(n:Nat->Nat)(j:jr)(i:List (ZY×V))(q:je)(g:jj)(r:Yd)(_:s=[!S,!l])(_:Zm jT jU H S d p h e m n j i q)(_:WF h e)(_:↑h<=800)(_:∀ b∈g,b∈h/\1<=n b/\↑(m b)<=800)(_:H l\.lst (iN g))(_:gX (YI e g)\r)(_:∀(k:Hp)(a:YH),H a.x=Y'->H a.th=Y'->H a.ab=Y'->(∀ c o,c≠S->c≠d->(∀ b:Nat,b∈h->c≠j[b]!.x/\c≠j[b]!.ab)->H c\o->k c\o)->Zm jT jU k S d p (h++[↑e]) (e++[YE e g]) (Yb g ↑e (YZ ↑e m)) (Wn g (Yi ↑e n)) (j++[a]) (Yh i (.inl (↑e:Int)) !a.x) q->Q (.int (↑e:Nat)) k)
abbrev An:jn:=["self","numbers","branches","label","number"]
theorem Vp:ZC An T4 (Zc Ja):=Zo
theorem Ki(a):iN a=(a.map λb:Nat=>(b:Int)).map V.int:=by unfold iN;rw[vH];rfl
theorem Av(F:Zl K "put_stem" "Shelf.put_stem" Ja f fd)(T:YM mg)(L:'d')(DL:'ĳ')(DO:'ă')(DC:'r')(DT:'ļ')(DK:'Ĵ'):
  ZI P w K mg jW ZJ 10 f fd T4 (YC jT jU):=by
 show F.ko Vp λc3 A c0 s H vs Q E hr h=>?_;let#[S,d,X,l,lv,k,av,ho,M,G,Y,g,Lb,rfl,R,hw,c2,B,hl,U,q3]:=h;let O:∀ b∈g,b∈lv:=λb h=>(B b h).1;let nd:=Vp.nd;let C:=hr.mono (show 3<=9 by lia)
 let a8:=hr.mono (show 2<=9 by lia)
 let#[eL,a7,c4,c5,c6,c9,c7]:=IE hw O U;intro Xc;show#[_,ZK (Zf 2 nd (UZ Nv Z T.list OU 'f'))
  (ZK (Zf 3 nd (Zd DO hr (ZQ (Zs (E:=E0) (pv 0) L.cS DL C Zn 'o'))))
  (ZK (YF (Zs (E:=E0) (pv 0) L.cS DC C Zn 'o'))
  (ZK (Zf 4 nd (Zs (E:=E0) (pv 0) L.cS DT C Zn (Zu (pv 2) (pv 3))))
  (ZK (YF (Zs (E:=E0) (pv 0) L.cS DK a8 Zn (Zu (pv 4) (pv 2))))
  'ö')))),?_]
 exists 1,l,iN g,Z,.inl 'ű';intro D nD;let g1:=Zv nD (.lst (iN g));let y:upd H D (.lst (iN g)) D\.lst (iN g):=Za;generalize upd H D (.lst (iN g))=H1 at g1 y⊢;let R1:=R.same g1;let#[a0,a4]:=R1.sh.self;exists 1,S,a0,1,a4,Z,1,S,d,X,D,lv,k,av,ho,M,G,Y,g,Z,R1,y,O,by lia
 intro D2 us H2 s2 e0 a3 a6;let c1:=g1|||s2;exists D2,us,YI k g,Lb,Z,a3,a6,Dl hw O,U;intro H3 v s3 kv;subst eL;let a:=c1|||s3;let r:=R.same a;let#[u,p]:=r.sh.self;let m:H3 D\.lst (iN g):=s3 _ _ (s2 _ _ y);exists 1,S,u,1,p,Z,1,S,D,g.map (λb:Nat=>(b:Int)),Z,by rwa[<-Ki,m],#[u,_,p,Z],λn hn=>?_
 .let#[b,i,rfl]:=zQ.mp hn;let j:=B b i;show#[d,X,↑k,G,Y,_,_,_,_,_,_,#[r.sh,r.val b j.1,(r.tw b j.1).tw],j.2.1]
 let kl:=Ml kv;let#[I,e3,e2,rfl,c8,_,_]:=kl;let a9:=Ml kv;exists 1,S,u,1,p,Z,2,S,d,X,↑k,G,Y,!D,!I,Z,r.sh,by rw[Eg R];lia
 intro H5 x J nx q W R5 W5;let V:Z1 H3 H5:=λb ys e=>W b _ (ZZ e p) (ZZ e r.sh.kept) e;let N:H5 D\.lst (iN g):=W _ _ (ZZ m p) (ZZ m r.sh.kept) m;let PP:=Dr (t:=YE k g) (x:=x) (th:=D) (tg:=I) (ab:=J) R (H':=H5) (λb o n1 n2 e=>W b o n1 n2 (a b o e)) (a.free nx) nD (a.free q) (Zg m q).symm R5 W5
  #[iN g,N,λz=>gS z (by change (hJ k (g.getD 0 0)).h+1≠0;lia),λ_=>rfl] (a9.mono V)
 let#[a1,a5]:=R5.self;let el:↑M=↑k:=R.len;let aL:∀ b,b∈lv->(M++[(#[x,D,I,J]:YH)]).getD b .d=M[b]!:=λb O=>GO (by have:=R.lt b O;lia)
 let aN:(M++[(#[x,D,I,J]:YH)]).getD ↑k .d=#[x,D,I,J]:=by rwa[<-el,K3]
 let en:↑(k++[YE k g])=↑k+1:=by simp
 show#[1,S,a1,1,a5,Z,2,S,d,X,D,_,_,_,_,_,_,Y,g,↑k,Z,PP,N,a7,λb i=>?_,λb i=>?_,λH6 a2 e1 R6=>#[1,?_]]
 .let j:=B b i;let nb:b≠↑k:=by have:=R.lt b j.1;lia
  exists zL _ j.1,?_
  .rwa[show Yi ↑k ho b=ho b from aK nb,j.2.1]
  .rw[show YZ ↑k av b=av b from aK nb];lia
 .rcases zM.mp i with c|c
  .rwa[aL b c,(Zg (R.tw b c).tw.above nD).symm]
  .rwa[zV.mp c,aN,Zg m q]
 .show q3 H6 #[x,D,I,J] (a.free nx) nD (a.free q) (λc o n1 n2 n3 e=>?_) R6;show a2 c o (λb i=>?_) (W c o n1 n2 (a c o e));rcases zM.mp i with z|z
  .rwa[aL b z,n3 b z]
  .rwa[zV.mp z,aN,#[Zg e (a.free nx),Zg e (a.free q)]]
theorem FF(a):(Zw (Xo a)).kt=KU (a.map (·.1)):=by
 let b:↑(a.map (·.1))=↑a:=zW _;let c:(a.map (·.1)).getD 0 (.int 0)=(a.getD 0 rc).1:=by
  rw[zO,zO,zK];cases a[0]? <;> rfl
 let d:(a.map (·.1)).getD (↑a-1) (.int 0)=(a.getD (↑a-1) rc).1:=by
  rw[zO,zO,zK];cases a[↑a-1]? <;> rfl
 unfold KU Zw Xo Yd.kt;rw[b,c,d];rfl
inductive Xn(jT jU:aj)(q:je)(H:Hp)(Q:VK)(_:XK):Prop
 |mk(S d j l:aj)(n:Nat)(c:List (ZY×V))(k p:je)(g:jl)(_:q=[!S,!l])(_:Xj jT H S d j n c k)(_:↑c<=900)(_:H l\.lst p)(_:jO H (YB g) p)(_:OT g)(_:∀(a:Hp)(x h m i:aj),H x=Y'->H h=Y'->H i=Y'->i≠h->(∀ b o,b≠S->b≠d->H b\o->a b\o)->Xj jT a S d j (n+1) (Yh c (.inl (n:Int)) !x) k->Vh jU a x (!h) (!m) i 1 []->(∃ e,a h\.lst e/\jO a (YB g) e)->YL a (Zw (Xo g)) (!m)->Q (.int (n:Nat)) a)
theorem Aa(F:Zl K "put_leaf" "Shelf.put_leaf" J0 f fd)(L:'d')(X:-ZA 9 "checked_rows" TX Xv)(Y:-ZA 1 "label_of_rows" TX Xe)(DT:'ļ'):
  ZI P w K mg jW ZJ 10 f fd TC (Xn jT jU):=by
 show F.ko Vl λa0 A O s H vs Q E B h=>?_;let#[S,d,lk,l,n,M,ls,us,T,rfl,R,q,hl,hk,G,k]:=h;let nd:=Vl.nd;let C:=B.mono (show 1<=9 by lia)
 let D:=B.mono (show 3<=9 by lia)
 intro Xc;show#[_,ZK (Zf 2 nd (Zd X B (ZQ (pv 1))))
  (ZR (Zh (Zs (E:=E0) (pv 0) L.cS DT D Zn (Zu (pv 2) (Zd Y C 'o'))))),?_]
 exists 1,l,us,T,Z,hl,hk,G;intro H1 t g V N p j;let R1:=R.same V;let#[dx,hS]:=R1.self;let lu:↑g=↑T:=by have:=↑j;rwa[<-this,zW _]
 exists 1,S,dx,1,hS,Z,2,t,g,T.map (·.1),Z,p,BQ j,#v[lu,G.2.1]
 intro H2 v U J;rw[<-FF] at J;let I:=Ml J;let#[W,a4,a3,rfl,a2,_,_]:=I;let I:=Ml J;let c:=V|||U;let R2:=R.same c;exists S,d,lk,n,M,ls,!t,!W,Z,R2,q;intro u x ab nx r y R3 W3;let#[a1,m]:=R2.self;let i:Z1 H2 u:=λb ys e=>y b _ (ZZ e m) (ZZ e R2.kept) e;let a:=U _ _ p;let z:u t\.lst g:=y _ _ (ZZ a m) (ZZ a R2.kept) a;show k u x t W ab (c.free nx) N (c.free r) (Zg a r).symm (λb o n1 n2 e=>y b o n1 n2 (c b o e)) R3 W3 #[g,z,j.mono (λb xs e=>i b xs (U _ _ e)) _ _] (I.mono i)
theorem my(D:-ZB ZJ 10 jT "put_leaf" TC (Xn jT jU)):-ZB ZJ 10 jT "put_leaf" TC (Yr jT jU):=by
 let#[g,hJ,M,s,b]:=D.ex;show#[g,hJ,M,s.imp λvs H Q E h=>?_,b];let#[S,d,I,l,Y,O,V,X,U,o,J,T,r,e,R,c,F,C,G,k]:=h;exists S,d,I,l,↑O,o,J,T,r,e,R.sh,#v[Eg R,c],F,C,G
 intro u x N L y nx j i a q v W n m;let#[p,A,B]:=n;show k u #[x,N,L,y] nx j i q (Dr (t:=Xo r) R q nx j i a v W #[p,A,λ_=>B,λz=>gS Z z] m)
structure ZV where
 S:aj
 d:aj
 lv:jj
 ts:jk
 av:Nat->jj
 ho:Nat->Nat
 as:jr
 kvs:List (ZY×V)
structure Wh(jT jU:aj)(H:Hp)(X:ZV)(lk:aj)(c:Nat)(ls:je):Prop where
 sh:Xj jT H X.S X.d lk c X.kvs ls
 keys:X.kvs.map (·.1)=X.lv.map (λi:Nat=>(gR (i:Int):ZY))
 val:∀ i:Nat,i∈X.lv->YU X.kvs (gR (i:Int))\.ref X.as[i]!.x
 tw:∀ i:Nat,i∈X.lv->O1 jU H X.ts X.av X.ho i X.as[i]!
 own:∀ i:Nat,i∈X.lv->X.as[i]!.x≠X.S/\X.as[i]!.ab≠lk/\X.as[i]!.th≠lk
 le:↑X.ts<=c
section
variable{jT jU:aj}{H H':Hp}{X:ZV}{lk lk':aj}{c c':Nat}{ls ls':je}
theorem Zm.q{f:jr}(R:Zm jT jU H S d lk j e g h f a ls):Wh jT jU H #[S,d,j,e,g,h,f,a] lk ↑e ls:=
 #[R.sh,R.keys,R.val,R.tw,λi b=>#[(R.own i b).1,(R.own i b).2.1,(R.own i b).2.2.1],zY _]
theorem Wh.frame(R:'ï')(r:Xj jT H' X.S X.d lk' c' X.kvs ls')(f:∀ b o,b≠X.S->b≠X.d->b≠lk->H b\o->H' b\o)(j:∀ i,i∈X.lv->X.as[i]!.ab≠lk'/\X.as[i]!.th≠lk')(q:↑X.ts<=c'):Wh jT jU H' X lk' c' ls':=by
 let#[#[s,h],g,m]:=R.sh;show#[r,R.keys,R.val,λi a=>?_,λi a=>#[(R.own i a).1,j i a],q];let W:=R.tw i a;let#[t,n]:=W.tw.self;let#[u,k,_]:=W.things;let l:=W.tw.above;let o:=R.own i a;show W.frame (λb v e=>f b _ (ZZ e h) (ZZ e g) (ZZ e m) e)
  (λp e=>f _ _ o.1 (ZZ n g) (ZZ n m) e)
  (λp e=>f _ _ (ZZ k h) (ZZ k g) o.2.2 e)
  (λp e=>f _ _ (ZZ l h) (ZZ l g) o.2.1 e)
theorem Wh.same(R:'ï')(s:ZE H H'):Wh jT jU H' X lk c ls:=R.frame (R.sh.same s) (λb o _ _ _ e=>s b o e) (λi a=>(R.own i a).2) R.le
def FV(X:ZV)(lk b:aj):Prop:=b=X.S\/b=X.d\/b=lk
theorem Wh.but(R:'ï')(s:ZG p H H')(f:¬ FV X lk p)(a:∀ i,i∈X.lv->X.as[i]!.x≠p/\X.as[i]!.ab≠p/\X.as[i]!.th≠p)(t:Z1 H H'):Wh jT jU H' X lk c ls:=by
 let#[#[g,h],j,k]:=R.sh;show#[#[#[g,s _ _ h λz=>f (.inl z.symm)],s _ _ j λz=>f (.inr (.inl z.symm)),s _ _ k λz=>f (.inr (.inr z.symm))],R.keys,R.val,λi b=>?_,R.own,R.le];show(R.tw i b).frame t (λo e=>s _ _ e (a i b).1) (λo e=>s _ _ e (a i b).2.2) (λo e=>s _ _ e (a i b).2.1)
theorem Wh.rd(R:'ï')(a:i∈X.lv):Oe jT jU H X.S X.d lk c X.kvs ls (i:Int) X.as[i]!.x (.ref X.as[i]!.th) (.ref X.as[i]!.tg) X.as[i]!.ab (X.ho i) (iN (X.av i)):=#[R.sh,R.val i a,(R.tw i a).tw]
end
theorem AH(t):(if ((t.h:Nat):Int)>0 then ("stem":Str) else "leaf")=gY t:=by
 unfold gY;by_cases h:t.h=0
 .rw[aM h,aK ()]
 .rw[aK h,aM ()]
inductive Ya(jT jU:aj)(k:je)(H:Hp)(Q:VK)(_:XK):Prop
 |mk(X:ZV)(d:aj)(c:Nat)(e:je)(i:Nat)(_:k=[!X.S,.int (i:Int)])(_:Wh jT jU H X d c e)(_:i∈X.lv)(_:↑e<=390000)(_:∀(a:Hp)(j l:aj)(g:je),(∀ b o,b≠d->H b\o->a b\o)->Wh jT jU a X d c (e++[.int (i:Int)])->a j\.tup [.str (gY (X^i)),!l]->H l=Y'->a l\.lst g->((X^i).h=0->jO a (YB (X^i).rows) g)->((X^i).h≠0->g=iN (X^i).bs)->Q (!j) a)
theorem ut(D:-ZB ZJ 2 jT "look" U' (Qh jT jU)):-ZB ZJ 2 jT "look" U' (Ya jT jU):=by
 let#[g,r,M,F,b]:=D.ex;show#[g,r,M,F.imp λvs H Q E h=>?_,b];let#[X,V,c,Y,i,e,R,s,U,k]:=h;let W:=R.tw i s;let#[C,O,u1,u2]:=W.things;let#[a,a1,a0,I,N,k1,k2]:=W.tag;cases I;let o:=R.own i s;exists X.S,X.d,V,c,X.kvs,Y,i,_,_,_,_,_,_,C,_,_,e,R.rd s,O,N,Ne.symm o.2.2,Ne.symm o.2.1,U;intro y T t p v x u q;let l:=R.sh.looks;let m:Z1 H y:=λb xs e=>p b _ (ZZ e l) e;let#[#[G,A],B,_]:=R.sh;let J:(if (Zw (X^i)).h>0 then ("stem":Str) else "leaf")=gY (X^i):=AH _
 rw[J] at q;show k y t T C p (R.frame #[#[G,p _ _ (ZZ A l) A],p _ _ (ZZ B l) B,v] (λb o _ _ n e=>p b o n e) (λj L=>(R.own j L).2) R.le) q x u (λz=>(u1 z).mono m _ _) u2
inductive VW(jT jU:aj)(e:je)(H:Hp)(Q:VK)(_:XK):Prop
 |mk(X:ZV)(a:aj)(c:Nat)(b:je)(i:Nat)(_:e=[!X.S,.int (i:Int)])(_:Wh jT jU H X a c b)(_:i∈X.lv)(_:Q (.ref X.as[i]!.tg) H)
theorem qv(D:-ZB ZJ 2 jT "label" U' (Xl jT jU λo _ _=>o)):-ZB ZJ 2 jT "label" U' (VW jT jU):=by
 let#[g,a,M,j,b]:=D.ex;show#[g,a,M,j.imp λp H Q E h=>?_,b];let#[X,m,c,n,i,e,R,l,k]:=h;show#[X.S,X.d,m,c,X.kvs,n,i,_,_,_,_,_,_,e,R.rd l,k]
section
variable{σ:St}{H:Hp}{ix:jj}{te:TE}{Q:VK}
theorem KY{J:It}{n:Nat}{w:TT}(f:Nat->V->Prop)(c:Nat->Bool)(d:aj->Nat->je->Hp->Prop)(M:n<aq)(s:∀ D i a H,i<n->d D i a H->J.go i H)(F:∀ D i a H x k,i<n->d D i a H->J.yld i H x k->k=H/\f i x)(g:∀ D a H,d D n a H->J.stop n H)(B:∀ D,H D=Y'->d D 0 [] (upd H D (.lst [])))(j:∀ D i a H x,H D\.lst a->i<n->f i x->d D i a H->∀ R:Bool->Hp->Prop,(∀ h,h D\.lst a->d D i a h->R (c i) h)->w 'ŏ' H R)(q:∀ D i a H x,H D\.lst a->i<n->f i x->c i=V'->d D i a H->∀ R:VK,(∀ y l,l D\.lst a->d D (i+1) (a++[y]) (upd l D (.lst (a++[y])))->R y l)->te 'ŏ' H R)(G:∀ D i a H,H D\.lst a->i<n->c i=false->d D i a H->d D (i+1) a H)(r:∀ D a H,H D\.lst a->d D n a H->Q (!D) H):Wj J σ ix w te H Q:=by
 intro D C;exists λi m H=>m=n-i/\i<=n/\∃ a,H D\.lst a/\↑a<=i/\d D i a H,#[n,Z,yY _,[],Za,zY _,B D C];rintro i m H ⟨rfl,L,a,e,E,p⟩;by_cases b:i<n
 .show .inr #[s D i a H b p,λx k y=>?_];let#[rfl,u]:=F D i a H x k b p y;show j D i a _ x e b u p _ λh o v=>?_
  cases t:c i with
  |true=>
   rw[aM rfl];show q D i a h x o b u t v _ λy l A I=>?_;show#[a,n-(i+1),A,(),(),Z,b,a++[y],Za,by rw[zR,xV];lia,I]
  |false=>
   rwa[aK zP,#[n-(i+1),(),Z,b,a,o,sE E,G D i a h o b t v]]
 .let z:i=n:=()
  subst z;show .inl #[g D a H p,r D a H e p]
end
variable{jT jU CS CT CH CK CP CB:aj}
def IG(c:jm):Prop:=c.Pairwise λa b=>b.lt a=false
theorem Ds(h:IG d){i j:Nat}(l:i<=j)(e:d[i]?\a)(g:d[j]?\b):b.lt a=false:=by
 let#[k,rfl]:=yW.mp e;let#[m,rfl]:=yW.mp g;rcases yL i j with c|c
 .show qY.mp h i j k m c
 .have:i=j:=()
  subst this;show UI _
def cnt(a:jm)(t:KT):Nat:=↑(a.filter λx=>x.lt t)
theorem ya{ts:jm}{t:KT}{m:Nat}(o:m<=↑ts)(l:∀ i a,i<m->ts[i]?\a->a.lt t=V')(n:∀ i a,m<=i->ts[i]?\a->a.lt t=false):cnt ts t=m:=by
 unfold cnt;let e:ts=ts.take m++ts.drop m:=(wY m ts).symm;rw[e,yB,zR];let h:(ts.take m).filter (λx=>x.lt t)=ts.take m:=wI.mpr λa c=>by
  let#[i,d]:=vP c;let b:i<m:=by
   have:=(yW.mp d).1;rw[yA] at this
   lia
  rw[List.getElem?_take,aM b] at d;show l i a b d
 let k:(ts.drop m).filter (λx=>x.lt t)=[]:=wX.mpr λa c=>by
  let#[j,g]:=vP c;rw[List.getElem?_drop] at g;rwa[n (m+j) a (tP _ _) g,zP]
 rw[h,k,yA];simp
 lia
inductive UE(K:zZ)(d:je)(H:Hp)(Q:VK)(_:XK):Prop
 |mk(l:aj)(b:je)(a:jm)(v:V)(t:KT)(_:d=[!l,v])(_:ZF K H l b)(_:jO H a b)(_:∀ t∈a,t.fits 3=V')(_:↑b<=100)(_:IG a)(_:ZD H t v)(_:t.fits 3=V')(_:∀ c,ZE H c->Q (.int (cnt a t:Nat)) c)
abbrev Bt:jn:=["keys","key","low","high","middle"]
theorem Qw:ZC Bt SV (Zc Id):=Zo
theorem pD(F:Zl K "place_in" "place_in" Id f fd)(T:YM mg)(DA:'.'):-ZI ZJ 8 f fd SV (UE K):=by
 show F.ko Qw λa0 A J s H vs Q E hr h=>?_;let#[l,n,p,v,t,rfl,X,W,hf,R,S,hv,ht,q]:=h;let C:=Qw.nd;let Y:=↑W;intro Xc;show#[_,ZK (Zf 2 C ZM)
  (ZK (Zf 3 C 'U')
  (ZK (Oh PassesOwn.never (YO NM (pv 2) (pv 3) (Z9 _))
   (ZK (Zf 4 C (Z5 KF (Z5 Vn (pv 2) (pv 3)) ZM))
   (ZR (Z4 (Xk (Zd DA hr (Zu (Zy K (pv 0) (pv 4)) (pv 1))))
    (ZR (Zf 2 C (Z5 Vn (pv 4) ZM))) (ZR (Zf 3 C (pv 4)))))))
  'y')),?_]
 exists 1,l,n,Z,.inl X;show#[λm σ D=>∃(g e:Nat)(x:jf),σ=[Z' !l,Z' v,Z' (.int (g:Int)),Z' (.int (e:Int)),x]/\ZE H D/\g<=e/\e<=↑p/\m=e-g/\(∀ i a,i<g->p[i]?\a->a.lt t=V')/\(∀ i a,e<=i->p[i]?\a->a.lt t=false),
  #[_,(0),↑n,Y',Z,ZE.refl H,yY _,(),Z,λi a e=>gS e (),λi a e u=>?_],?_]
 .have:=(yW.mp u).1
  lia
 rintro m σ H1 ⟨g,e,x,rfl,r,h1,h2,rfl,N,O⟩;exists 2,_,1,Z,_,Z;show UX (λc=>?_) (λc=>?_)
 .let a2:(g:Int)<(e:Int):=of_decide_eq_true c;exists λM D=>∃ m',m'<e-g/\∃(k d:Nat)(x:jf),M=[Z' !l,Z' v,Z' (.int (k:Int)),Z' (.int (d:Int)),x]/\ZE H D/\k<=d/\d<=↑p/\m'=d-k/\(∀ i a,i<k->p[i]?\a->a.lt t=V')/\(∀ i a,d<=i->p[i]?\a->a.lt t=false),λ_ _ h=>h;exists 2,_,1,Z,_,1,Z,#[(),by decide]
  obtain⟨b,em,j,y⟩:∃ b:Nat,((g:Int)+(e:Int))/2=(b:Int)/\g<=b/\b<e:=#[((g+e)/2:Nat),(),(),()]
  change NC 4 (V.int (((g:Int)+(e:Int))/2)) _ _ _;rw[em];let G:b<↑n:=()
  let B:n[b]?\n[b]:=by simp[G]
  let#[L,o,I]:=W.get B;show#[2,.inl #[l,n,_,n[b],Z,Z,r.seq X,Yf B,1,n[b],v,L,t,Z,I.sm r,hv.sm r,hf L (zG o),ht,λH2 s2=>#[1,?_]]]
  cases U:L.lt t with
  |true=>
   show Z2 #[1,_,1,Z,e-(b+1),tH (wJ j y) (Nat.lt_succ_of_le j),b+1,e,1,r|||s2,(),h2,Z,λi a d u=>?_,O]
   show LU (Ds S (show i<=b by lia) u o) U
  |false=>
   show Zq #[1,b-g,Nat.sub_lt_sub_right j y,g,b,1,r|||s2,j,(),Z,N,λi a d u=>?_]
   show T7 U (Ds S d o u)
 .let a1:¬ (g:Int)<(e:Int):=λz=>c (aJ z);exists _,Z;rw[<-ya (ts:=p) (t:=t) (m:=g) () N λi a d=>O i a ()]
  show q H1 r
def WH(a:jk)(k:KT)(i:Nat):Nat:=if (a^i).h=0 then cnt ((a^i).rows.map (·.1)) k else ↑((a^i).bs.filter λb=>!k.lt (Zw (a^b)).lo)-1
def Uu(a:jk)(k:KT)(i:Nat):Nat:=(a^i).bs.getD (WH a k i) 0
def Qr(a:jk)(k:KT):Nat->Nat->jq
 |0,i=>[(i,WH a k i)]
 |n+1,i=>(i,WH a k i)::Qr a k n (Uu a k i)
theorem KA(a)(k):∀ n i,↑(Qr a k n i)=n+1
 |0,_=>rfl
 |n+1,i=>by rw[Qr,zN,KA]
theorem ER(e:WF gt a)(d:i∈gt)(c:(a^i).h≠0)(k):WH a k i<↑(a^i).bs:=by
 have:=(e i d).stem c;unfold WH;rw[aK c];let l:=tZ (λb=>!k.lt (Zw (a^b)).lo) (a^i).bs
 lia
theorem MA(d:WF gt a)(c:i∈gt)(b:(a^i).h≠0)(k):Uu a k i∈gt/\(hJ a (Uu a k i)).h+1=(a^i).h/\(a^i).bs[WH a k i]?\Uu a k i:=by
 let f:=ER d c b k;let g:=(d i c).stem b;let e:(a^i).bs[WH a k i]?\Uu a k i:=by
  unfold Uu;rw[zO,zT f];rfl
 have:=g.2.2.1 _ (zG e);show#[this.1,this.2,e]
inductive Yj(N:aj->Prop)(H:Hp)(t:ZO)(u:V):Prop
 |mk(b l a:_)(_:u=!b)(_:H b\.tup [.str (gY t),!l])(_:H l\.lst a)(_:¬ N l)(_:t.h=0->jO H (YB t.rows) a)(_:t.h≠0->a=iN t.bs)
theorem Yj.off(h:Yj N H t u)(c:∀ b o,¬ N b->H b\o->a b\o)(m:Z1 H a):Yj N a t u:=by
 let#[j,l,k,e,d,f,n,g,i]:=h;show#[j,l,k,e,m _ _ d,c _ _ n f,n,λz=>(g z).mono m _ _,i]
theorem Yj.same{N:aj->Prop}{H a:Hp}{t:ZO}{u:V}(h:Yj N H t u)(s:ZE H a):Yj N a t u:=h.off (λb o _ e=>s b o e) 'è'
theorem GP(h:t.h=0):gY t="leaf" :=aM h
theorem ED(h:t.h≠0):gY t="stem" :=aK h
theorem Ai(t):gU (V.str (gY t)=V.str "leaf")=gU (t.h=0):=by
 by_cases h:t.h=0
 .rw[GP h,aJ rfl,aJ h]
 .rw[ED h,aI h];decide +kernel
theorem xp(e:WF gt c)(d:i∈gt):IG ((c^i).rows.map (·.1)):=(e i d).up.imp fun{a b} q=>Q9 _ _ q
inductive XQ(a:je)(H:Hp)(Q:VK)(_:XK):Prop
 |mk(N:aj->Prop)(t:ZO)(u:V)(_:a=[u])(_:Yj N H t u)(_:Q (.bl (gU (t.h=0))) H)
theorem pf:ZC Tu Tu (Zc HN):=Zo
theorem Al(F:Zl K "is_leaf" "is_leaf" HN f fd):-ZI ZJ 1 f fd Tu XQ:=by
 show F.ko pf λb A a s H m Q E g h=>?_;let#[i,t,u,rfl,#[d,l,j,rfl,c,_],k]:=h;intro e;exists _,ZR (Zh (V4 Vm 'B' Q5 (Z9 _)));exists 1,d,_,_,.str (gY t),Z,Z,Zp.of c,Z,Z;rwa[Ai,k]
inductive Xm(a:je)(H:Hp)(Q:VK)(_:XK):Prop
 |mk(N:aj->Prop)(t:ZO)(u:V)(n:Nat)(_:a=[u,.int (n:Int)])(_:Yj N H t u)(_:t.h=0->Q .non H)(_:t.h≠0->∃ b,t.bs[n]?\b/\Q (.int (b:Nat)) H)
theorem lP:ZC Tf Tf (Zc JK):=Zo
theorem lg(F:Zl K "branch_at" "branch_at" JK f fd)(d:'ğ'):-ZI ZJ 2 f fd Tf Xm:=by
 show F.ko lP λe A a s H D Q E o h=>?_;let#[v,t,u,n,rfl,c,p,r]:=h;intro y;exists _,ZK (Z4 (Xk (Zd d o 't')) 'ą' Z6) (ZR (Zh (Zy K 'B' (pv 1))));exists 1,v,t,u,Z,c,_,Z;let#[x,l,C,rfl,j,k,B,z,m]:=c;by_cases h:t.h=0
 .rwa[aJ h,Z2 (p h)]
 .rw[aI h];let#[b,g,q]:=r h;let i:=m h;subst i;show Zq #[1,x,_,_,!l,Z,Z,Zp.of j,Z,1,.inl #[l,_,_,.int (b:Nat),Z,Z,ZF.of k,Yf (by unfold iN;rw[zK,g];rfl),q]]
inductive VN(jT jU:aj)(e:je)(H:Hp)(Q:VK)(_:XK):Prop
 |mk(X:ZV)(b:aj)(c:Nat)(d:je)(i:Nat)(u v:V)(k:KT)(N:aj->Prop)(_:e=[!X.S,u,v])(_:Wh jT jU H X b c d)(_:WF X.lv X.ts)(_:i∈X.lv)(_:Yj N H (X^i) u)(_:ZD H k v)(_:k.fits 3=V')(_:∀ a,ZE H a->Q (.int (WH X.ts k i:Nat)) a)
theorem Ud:ZC ["shelf","found","key","begun"] SR (Zc K6):=Zo
theorem O0{a:Type}(p){l:List a}{b:a}(e:l[i]?\b):(l.take (i+1)).filter p=(l.take i).filter p++(if p b=V' then [b] else []):=by
 rw[yR,e,Option.toList_some,yB]
 congr 1
 rw[xL];cases p b<;>rfl
theorem mY(F:Zl K "place_within" "place_within" K6 f fd)(T:YM mg)(L:'d')(DL:'ğ')(DP:-ZA 8 "place_in" SV (UE K))(DA:'.')(DB:'Œ'):
  ZI P w K mg jW ZJ 9 f fd SR (VN jT jU):=by
 show F.ko Ud λc0 A a9 s H vs Q E hr h=>?_;let#[X,lk,c,ls,i,u,v,k,N,rfl,R,hw,hi,hf,hv,fk,q]:=h;let nd:=Ud.nd;let a4:=hr.to 1;let a5:=hr.to 2;let a6:=hr.to 7;let#[t1,m1]:=T.least;intro Xc;show#[_,ZK (Z4 (Xk (Zd DL a4 'f')) (ZR (Zh (Zd DP hr (Zu (Vt [] [] Z (WJ 'ņ') (λ_ _ _ _ _=>Ut) (λ_ _ _ _ _=>XL K (pv 0) ZM) trivial) (pv 2))))) Z6)
  (ZK (Me (i:=3) [2,0] ["key","shelf"] nd Z Z Z (WJ 'ņ') (λ_ _ _ _ _=>Oy (OA (Xk (Zd DA a6 (Zu (pv 1) (XL K (Zs (E:=E0) (pv 2) L.cS DB a5 Zn 't') (Xp (v:=.int 1) Z m1 #[_,Z]))))))) (λ_ _ _ _ _=>pv 0) #[Z,.inl Z,Z,Z,.inl Z,Z,trivial])
  (ZR (Zh (YA (GF Z) Z T.max Ji (Zu (Z5 Vg (YA XG Z T.len XE 'z') ZM) ZM))))),?_]
 exists 1,N,hJ X.ts i,u,Z,hf,_,Z;let#[tp,l,p,rfl,h1,I,n1,h3,h4]:=hf;let ok:=hw i hi;by_cases h:(X^i).h=0
 .rw[aJ h];let kr:=h3 h;let lr:↑p=↑(X^i).rows:=by have:=↑kr;rwa[<-this,zW _]
  let l4:=(ok.leaf h).2;show Z2 #[1,tp,_,_,!l,Z,Z,Zp.of h1,Z,l,Z,#[p,ZF.of I],Ul (n:=↑p) (λi z=>p[i]?\z) (λD j g m=>ZE H m/\H D=Y'/\jO H (((X^i).rows.map (·.1)).take j) g) (Yq ())
   (λD j g m G d=>#[p,p[j],ZF.of (d.1 _ _ I),by simp[G]]) (λD j g m z W G d hy=>#[hy.1,hy.2 p (ZF.of (d.1 _ _ I))]) (λD g m d=>#[p,ZF.of (d.1 _ _ I),zY _])
   (λD Y=>#[Zv Y _,Y,.nil]) (λD j g m z C c1 G V d RR a1=>?_) (λD g m C d=>?_)]
  .let#[o,y,x]:=d;let#[a,vk,vv,er,rfl,ea,k1,k2]:=OG kr V;show#[1,a,_,_,vk,Z,Z,Zp.of (o _ _ ea),Z,a1 _ m C #[UW o y,y,?_]];rwa[yR,zK,er,x.append (.cons k1 .nil)]
  .let#[o,y,x]:=d;rw[zA (by rw[zW];lia)] at x
   let a7:=↑x;rw[zW] at a7;show#[1,D,g,_,v,k,Z,ZF.of C,x.sm o,λt ht=>?_,(),xp hw hi,hv.sm o,fk,λW s4=>?_]
   .let#[r,a3,rfl]:=zQ.mp ht;show(ok.inn r a3).1
   .let e:WH X.ts k i=cnt ((X^i).rows.map (·.1)) k:=aM h;rwa[<-e,q W (o|||s4)]
 .rw[aI h];let eu:=h4 h;let ob:=ok.stem h;let lu:↑p=↑(X^i).bs:=#v[eu,zW _]
  show Zq #[1,tp,_,_,!l,Z,Z,Zp.of h1,Z,l,Z,#[p,ZF.of I],KY (n:=↑p) (λi z=>p[i]?\z) (λj=>!k.lt (Zw (hJ X.ts ((X^i).bs.getD j 0))).lo) (λD j g m=>ZE H m/\H D=Y'/\↑g=↑(((X^i).bs.take j).filter λb=>!k.lt (Zw (X^b)).lo)) (Yq ())
   (λD j g m G d=>#[p,p[j],ZF.of (d.1 _ _ I),by simp[G]]) (λD j g m z W G d hy=>#[hy.1,hy.2 p (ZF.of (d.1 _ _ I))]) (λD g m d=>#[p,ZF.of (d.1 _ _ I),zY _])
   (λD Y=>#[Zv Y _,Y,Z]) (λD j g m z C G V d B hB=>?_) (λD j g m z C G V hk d B hB=>?_) (λD j g m C G hk d=>?_) (λD g m C d=>?_)]
  .let#[o,y,J]:=d;rw[eu] at V;let#[b,M,rfl]:=MF V;let O:(X^i).bs.getD j 0=b:=by rw[zO,M];rfl
   let hb:=ob.2.2.1 b (zG M);let U:b∈X.lv:=hb.1;let R3:=R.same o;let#[dx,hS]:=R3.sh.self;let#[a,a0,c2,ea,ht,k1,k2]:=(R3.tw b U).tag;cases ea;let a8:=hw b U;show#[2,X.S,dx,1,hS,Z,1,X,lk,c,ls,b,Z,R3,U,_,_,_,a0,Z,Z,Zp.of ht,Z,v,a0,k,(Zw (X^b)).lo,Z,hv.sm o,k1,fk,(LK a8).1,λW s4=>#[1,?_]];have:=hB W (s4 _ _ C) #[o|||s4,y,J];rw[O] at this;show this
  .let#[o,y,J]:=d;rw[eu] at V;let#[b,M,rfl]:=MF V;let O:(X^i).bs.getD j 0=b:=by rw[zO,M];rfl
   rw[O] at hk;show#[1,hB _ m C #[UW o y,y,?_]];rw[O0 _ M,aM hk,zR,zR,J];rfl
  .let#[o,y,J]:=d;let a2:j<↑(X^i).bs:=()
   let M:(X^i).bs[j]?\(X^i).bs.getD j 0:=by rw[zO,zT a2];rfl
   exists o,y;rw[O0 _ M,aK #v[hk,zP],zC]
   show J
  .let#[o,y,J]:=d;rw[zA ()] at J
   exists 1,D,g,Z,.inl (ZF.of C),_,1,Z,_,_,Z;let e:WH X.ts k i=↑g-1:=#v[J,aK h]
   let e2:(if (0:Int)>((↑g:Nat):Int)-1 then (0:Int) else ((↑g:Nat):Int)-1)=((WH X.ts k i:Nat):Int):=by
    rw[e];split<;>lia
   have:=q m o;rw[<-e2] at this;show this
section
variable{M:Model}
end
section
variable{jV:jo}{σ:St}{H:Hp}{E E1:XK}
end
section
variable{M:Model}{B:aD}{env:Env}{outer l:jt}{L e:aj}{cls:ai}{od:ju}{Q:Unit->ak->Prop}
end
section
variable{jV:jo}{σ:St}{H:Hp}{E E1:XK}
end
section
variable{E:XK}
end
noncomputable def C6(K:zZ)(a:aj)(c:TS)(D:YK)(d:St):XK:=λcls e b=>∃ C,cls=.ref C/\xE K C (!a)\true/\c D d b
inductive Np(K:zZ)(e C:aj)(m:Str)(i:Sp)(t:TA)(j:TS)(D:YK)(b:_T.St)(x:V)(c:Hp):Prop
 |mk(a h d:_)(_:x=!a)(_:c a\.ins C h d)(_:d.lookup m=Y')(_:t b c λk f=>i (x::(k++[])) f (λ_ g=>D.nx b g) (C6 K e j D b))
def Au(K:zZ)(b C:aj)(m:Str)(d:Sp)(e:TE)(t:TA)(f:TS):TS:=λD a H=>e a H λx c=>Np K b C m d t f D a x c
theorem Bi{jh jg epos py ph pos:Pos}{es:jv}{suite:jC}{pl:Sem Bool}(he:∀ S,PE (X.wish S) o ta)(c:U5 X.K C)(hm:Q7 X.K C m f)(F:ZI X.prog X.w X.K X.mg X.base (Um X.prog X.w) k f fd ps sp)(hr:ZX k X.A)(hb:Zx X.K fd ps [])(ha:∀ S,PA (X.wish S) (e::es) t)(hst:X.stack=X.env::X.outer)(hfm:X.env.frame\X.env.locals)(hy:Gl X y)(hyC:X.mg y\!CB)(ht:wE X.K (!CB)\.type "type")(hB:xE X.K CB 'x'\true)(hs:∀ E S,WG (X.held E S) (b₀::suite) ts)(hdy:(y==("__debug__":Str))=false:=by decide)(hse:ar (e::es) X.env=(false,aG e X.env)::ar es X.env:=by rfl)(hpl:(aF jg ',').any (·.1)=false:=by rfl)(hev:aG (.Call 'G' (e::es) [] jg) X.env=(do
   let ov<-aG o X.env
   standAt jh.atName
   let (f,first)<-holding [ov] (getMethod ov m pl)
   callWith jg f first (aF jg (ar (e::es) X.env)) (backToKw jg (keywordEach [] X.env))):=by rfl)(hsw:swapsWith (.Call 'G' (e::es) [] jg) Y' epos.line X.env=pure false:=by rfl):
  PS X (.Try [.Expr (.Call 'G' (e::es) [] jg) epos] [.ExceptHandler 'Į' Y' (b₀::suite) ph] [] [] pos) (Au X.K CB C m sp ta t ts):=by
 intro b s R H D I h;show wpAny_Try_except ?_;let a6:X.A.frames\(X.env::X.outer):=by rw[I.ok.frames,hst]
 let O:∀(T:Hp)(s1:ak)(i:ai)(g:ak),ZH X b R T s1->Um X.prog X.w X.stack T s1 (C6 X.K CB ts D R) i g ->
   aB ↥X X.A (noteFrame i X.env) (λ_ j=>aB ↥X X.A (setFlight i Y') (λ_ n=>aB ↥X X.A (handleBy i X.env [.ExceptHandler 'Į' Y' (b₀::suite) ph]) (SP X b D) X.xe n) X.xe j) X.xe g:=by
  intro T s1 i g p hx;let#[E,cls,od,H',rfl,W,C,rfl,mC,q]:=hx;let#[B,Y,inT,a1,a0]:=W.ex;let a4:Qt B (X.env::X.outer) E (!C) od .none g.heap:=by rwa[<-hst,Y]
  show oW a6 hfm a4 λh4 N a2=>?_;show Ju (s:={ g with heap:=h4 }) N λh5 M a3=>?_;let J5:ZH X b R H' { g with heap:=h5 }:=EA p W inT a1 a0 M.1 (a2|||a3);show wpAny_handleBy_cons (codeAny_handlers_test ?_) (by intro q;cases q)
  show MH (J5.held E (λ_ _=>False)) hy hyC ?_ hdy;show kU (s:={ g with heap:=h5 }) J5.kIn M.at.is ht hB mC ?_;show codeAny_handlers_suite ?_;show Ju (s:={ g with heap:=h5 }) M λh6 a5 a7=>?_;let J6:ZH X b R H' { g with heap:=h6 }:=EA p W inT a1 a0 a5.1 ((a2|||a3)|||a7);show af (hs E _ b _ _ _ _ (J6.held E _) q) (λY s8 h8=>?_) λ_ _ z=>z
  cases Y with
  |next=>
   let#[d,G,L,P]:=h8;show#[d,G,L.unheld p.ok,P]
  |brk=>
   let#[d,G,L,P]:=h8;show#[d,G,L.unheld p.ok,P]
  |cont=>
   let#[d,G,L,P]:=h8;show#[d,G,L.unheld p.ok,P]
  |ret u=>
   let#[v8,d,G,L,r8,P]:=h8;show#[v8,d,G,L.unheld p.ok,r8,P]
 let I':=I.wish (λi g=>aB ↥X X.A (noteFrame i X.env) (λ_ j=>aB ↥X X.A (setFlight i Y') (λ_ n=>aB ↥X X.A (handleBy i X.env [.ExceptHandler 'Į' Y' (b₀::suite) ph]) (SP X b D) X.xe n) X.xe j) X.xe g);show wpAny_execs_cons (wpAny_Expr_any ?_ I.quiet hsw);show rB (pl:=pl) (Z7 (he _ b s R H _ I' h) λu s1 ⟨x,T,p,rx,a,dx,fs,ex,E,l,q⟩=>?_) hev;subst ex;obtain rfl:u=Value.ref a:=rx;show Im p.unwish E c hm l ?_;show uI (first:=[!a]) (h₀:=X.base) I.ok.mod.kin hm.kp (YG (ha _ jg b s1 R T _ p q) λQ s2 vs H2 U r q2=>#[U.kIn,?_]) hse hpl
 let r2:ZS (V.ref a::(vs++[])) (Value.ref a::(Q++[])):=.cons Z (r.append .nil);let hl:↑(Value.ref a::Q++[])=↑ps:=by rwa[show Value.ref a::Q++[]=Value.ref a::(Q++[]) from Z,<-↑r2,F.len _ _ _ _ q2]
 show wpAny_call (codeAny_mono (F.run X.A X.stack s2 H2 #[.ref a::Q,[]] (.ref a::Q++[]) (.ref a::(vs++[])) _ _ hr U.unwish.env0 (hb s2 (.ref a::Q) U.kIn hl) r2 q2) λrr g hq=>?_)
 cases rr with
 |error i=>show O H2 s2 i g U.unwish hq
 |ok Y=>
  cases Y with
  |ret u=>
   let#[v,H3,J,rv,q3]:=U.unwish.after hq;show wpAny_execs_nil (wpAny_execs_nil #[R,H3,J,q3])
  |next=>show False.elim hq
  |brk=>show False.elim hq
  |cont=>show False.elim hq
variable{jT jU CS CT CH CK CP CB:aj}
noncomputable def YS:jp->V
 |none=>.non
 |some i=>.int (i:Int)
def UU(a:jk)(k:KT):jp->jq
 |none=>[]
 |some i=>Qr a k (a^i).h i
inductive Y8(N:aj->Prop)(H:Hp)(b:jk)(p:Nat×Nat)(u:V):Prop
 |mk(t a:_)(_:u=!t)(_:H t\.tup [.int (p.1:Int),.int (p.2:Int),a])(_:Yj N H (hJ b p.1) a)
theorem Y8.off(h:Y8 N H c p u)(d:∀ b o,¬ N b->H b\o->a b\o)(m:Z1 H a):Y8 N a c p u:=by
 let#[t,f,e,g,i]:=h;show#[t,f,e,m _ _ g,Yj.off i d m]
inductive YX(jT jU:aj):Sp
 |mk{X:ZV}{b:aj}{c:Nat}{d:je}{r:jp}{v:V}{k:KT}{H:Hp}{Q:VK}{E:XK}:Wh jT jU H X b c d->(∀ i,r\i->i∈X.lv)->ZD H k v->k.fits 3=V'->(∀ a,ZE H a->Q .non a)->YX jT jU [!X.S,YS r,v] H Q E
theorem kh:ZC T3 T3 (Zc Ii):=Zo
theorem km(F:Zl K "check_asked" "check_asked" Ii f fd)(L:'d')(l:'Œ')(j:'ä'):-ZI ZJ 8 f fd T3 (YX jT jU):=by
 show F.ok kh (λz H Q E h=>(by induction h;rfl)) (λn A e s H z Q E g h=>?_)
 induction h
 rename_i X x c y r v k H Q E R b u p q
 let d:=g.to 2;intro B;show#[_,ZK (Z4 (Q0 (ME (pv 1))) (ZR (YF (Zs (E:=E0) (pv 0) L.cS l d Zn 'f'))) Z6)
  (ZR (YF (Zd j g 'o'))),?_]
 let a:VM ([v]++[]) H (λ_ m=>Q .non m) E0:=#[v,k,Z,u,p,q]
 cases r with
 |none=>show#[2,Zq #[1,a]]
 |some i=>
  show#[2,Z2 ?_];let#[o,t]:=R.sh.self;show#[1,X.S,o,1,t,Z,1,X,x,c,y,i,Z,R,b i Z,1,a]
def Ze(X:ZV)(a c:aj):Prop:=c≠X.S/\c≠X.d/\c≠a/\∀ i,i∈X.lv->c≠X.as[i]!.x/\c≠X.as[i]!.ab/\c≠X.as[i]!.th
def O3(X:ZV)(a D b:aj):Prop:=b=D\/¬ Ze X a b
theorem Wh.newQ{X:ZV}(R:Wh jT jU H X d c m)(n:H b=uT):Ze X d b:=by
 let#[#[e,h],j,k]:=R.sh;exists (Zg h n).symm,(Zg j n).symm,(Zg k n).symm;intro i a;let#[e,l]:=(R.tw i a).tw.self;let#[o,g,_]:=(R.tw i a).things;show#[(Zg l n).symm,(Zg (R.tw i a).tw.above n).symm,(Zg g n).symm]
structure NW(jT jU:aj)(H:Hp)(X:ZV)(lk:aj)(c:Nat)(ls:je)(r:jp):Prop where
 sh:Wh jT jU H X lk c ls
 wf:WF X.lv X.ts
 low:∀ i,r\i->(X^i).h<=300
 few:↑ls<=380000
 hi:∀ i,r\i->i∈X.lv
noncomputable def U8(p:jq):je:=p.map λs=>V.int (s.1:Int)
inductive Xf(jT jU:aj):Sp
 |mk{X:ZV}{d:aj}{c:Nat}{e:je}{r:jp}{v:V}{k:KT}{H:Hp}{Q:VK}{E:XK}:NW jT jU H X d c e r->ZD H k v->k.fits 3=V' ->
  (∀(a:Hp)(D:aj)(g:je),(∀ b o,b≠d->H b\o->a b\o)->Wh jT jU a X d c (e++U8 (UU X.ts k r))->H D=Y'->D≠d->a D\.lst g->Paired (Y8 (O3 X d D) a X.ts) (UU X.ts k r) g->Q (!D) a) ->
  Xf jT jU [!X.S,YS r,v] H Q E
abbrev Bv:jn:=["shelf","root","key","steps","number","found","at"]
theorem Ql:ZC Bv T3 (Zc HF):=Zo
def RW(b:jk)(a:jp):Nat:=match a with|none=>0|some j=>(b^j).h+1
inductive EQ(jT jU:aj)(H:Hp)(X:ZV)(lk:aj)(c:Nat)(ls:je)(rn:jp)(v:V)(k:KT)(D:aj):Nat->_T.St->Hp->Prop
 |mk{cur:jp}{pre:jq}{us:je}{x5 x6:jf}{H':Hp}:(∀ j,cur\j->j∈X.lv)->UU X.ts k rn=pre++UU X.ts k cur->(∀ b o,b≠lk->H b\o->H' b\o)->Wh jT jU H' X lk c (ls++U8 pre)->H' D\.lst us->Paired (Y8 (O3 X lk D) H' X.ts) pre us ->
  EQ jT jU H X lk c ls rn v k D (RW X.ts cur) [Z' !X.S,Z' (YS rn),Z' v,Z' !D,Z' (YS cur),x5,x6] H'
theorem pG(F:Zl K "steps_to" "steps_to" HF f fd)(L:'d')(DC:-ZA 8 "check_asked" T3 (YX jT jU))(DL:'j')(DP:-ZA 9 "place_within" SR (VN jT jU))(DB:-ZA 2 "branch_at" Tf Xm):
  ZI P w K mg jW ZJ 10 f fd T3 (Xf jT jU):=by
 show F.ok Ql 'a' (λe0 A c8 s H vs Q E hr h=>?_)
 induction h
 rename_i X r c ls rn v k H Q E I kv fk q
 let nd:=Ql.nd;let a4:=hr.to 2;let c3:=hr.to 8;intro Xc;show#[_,ZK (YF (Zd DC c3 'K'))
  (ZK (Zf 3 nd (Yy Zt))
  (ZK (Zf 4 nd (pv 1))
  (ZK (Oh PassesOwn.never (Q0 (ME (pv 4)))
   (ZK (Zf 5 nd (Zs (E:=E0) (pv 0) L.cS DL a4 Zn 'å'))
   (ZK (Zf 6 nd (Zd DP hr 'ŋ'))
   (ZK (YF (QG xQ wO wN PU (pv 3) (ZQ (UF (Wf (pv 4) (pv 6) (pv 5))))))
   (ZR (Zf 4 nd (Zd DB a4 (Zu (pv 5) (pv 6)))))))))
  '1'))),?_]
 show#[3,.mk I.sh I.hi kv fk λH1 s1=>?_];let c4:=I.hi;let R1:=I.sh.same s1;exists Yc;intro D U;let gD:=Zv U (.lst []);let eD:=Za (H:=H1) (a:=D) (o:=.lst []);let a7:H D=Y':=s1.free U;let O:D≠r:=(Zg R1.sh.looks U).symm;let R2:=R1.same gD;let s2:=s1|||gD;generalize upd H1 D (.lst [])=H2 at gD eD R2 s2⊢;exists _,Z;let hw:=I.wf;exists EQ jT jU H X r c ls rn v k D,#[_,.mk (cur:=rn) c4 Z (λb o _ e=>s2 b o e) #v[show U8 []=[] from Z,zC,R2] eD .nil]
 rintro _ _ Y (@⟨a8,g,G,x5,x6,_,a2,p,fr,R3,R,T⟩)
 cases a8 with
 |none=>
  show#[2,Zq ?_];let e':UU X.ts k rn=g:=#v[p,zC _]
  show#[1,q Y D G fr #v[e',R3] a7 O R #v[e',T]]
 |some j=>
  let hj:=a2 j Z;let c9:↑g+((X^j).h+1)<=301:=by
   let e:=congrArg xG p;rw[zR] at e;let e1:↑(UU X.ts k (Z' j))=(X^j).h+1:=KA _ _ _ _;let e2:↑(UU X.ts k rn)<=301:=by
    cases rn with
    |none=>show yY _
    |some i=>
     have:↑(UU X.ts k (Z' i))=(X^i).h+1:=KA _ _ _ _;have:=I.low i Z
     lia
   lia
  let e3:=I.few;let lw:↑(U8 g)=↑g:=zW _;let e5:=Paired.length T;show#[2,Z2 #[_,λ_ _ z=>z,?_]];let#[dx,hS]:=R3.sh.self;exists 1,X.S,dx,1,hS,Z,1,X,r,c,_,j,Z,R3,hj,by rw[zR];lia
  intro H4 u l ws C R4 a5 nl hl w1 w2;let M:=R3.sh.looks;let a6:Z1 Y H4:=λb xs e=>C b _ (ZZ e M) e;let e4:l≠r:=(Zg M nl).symm;let lD:l≠D:=λz=>by erw[z,R] at nl
  let lN:¬ O3 X r D l:=λz=>z.elim lD λy=>y (R3.newQ nl);let c2:Yj (O3 X r D) H4 (X^j) (!u):=#[u,l,ws,Z,a5,hl,lN,w1,w2];let c6:Z1 H Y:=λb xs e=>fr b _ (ZZ e I.sh.sh.looks) e;let c5:=(kv.mono c6 _ _).mono a6 _ _;exists 3,X,r,c,_,j,!u,v,k,1,R4,hw,hj,c2,c5,fk;intro H5 s5;let a0:=s5 _ _ (C _ _ O R);exists 1,.inl #[Z,_,ZF.of a0],3,Yc;intro t nt;let g6:=Zv nt (.tup [YS (Z' j),.int ((WH X.ts k j:Nat):Int),!u]);let et:=Za (H:=H5) (a:=t) (o:=.tup [YS (Z' j),.int ((WH X.ts k j:Nat):Int),!u]);let m:=s5|||g6;generalize upd H5 t (.tup [YS (Z' j),.int ((WH X.ts k j:Nat):Int),!u])=J at g6 et m⊢;let B:=g6 _ _ a0;exists D,G,!t,Z,Z,B,nn ()
  let sD:ZG D J (upd J D (.lst (G++[!t]))):=(ZG.refl D J).upd;let tD:=sD.tups B;let R6:=R4.same m;let ND:¬ FV X r D:=by
   let#[#[dS,c0],c1,_]:=R6.sh;rintro(z|z|z)
   .show ZZ B c0 (by intro z;cases z) z
   .show ZZ B c1 (by intro z;cases z) z
   .show O z
  let oD:∀ i:Nat,i∈X.lv->X.as[i]!.x≠D/\X.as[i]!.ab≠D/\X.as[i]!.th≠D:=λi hi=>by
   let W:=R1.tw i hi;let#[dy,hy]:=W.tw.self;let#[e6,e1,_]:=W.things;show#[Zg hy U,Zg W.tw.above U,Zg e1 U]
  let R7:=R6.but sD ND oD tD;let a9:∀ b o,b≠r->Y b\o->b≠D->upd J D (.lst (G++[!t])) b\o:=λb o n e nb=>#v[ZU nb,m _ _ (C b o n e)]
  let c7:Z1 Y (upd J D (.lst (G++[!t]))):=λb xs e=>tD b xs (m _ _ (a6 b xs e));let a3:Yj (O3 X r D) (upd J D (.lst (G++[!t]))) (X^j) (!u):=by
   show#[u,l,ws,Z,tD _ _ (m _ _ a5),#v[ZU lD,m _ _ hl],lN,λz=>((w1 z).sm m).mono tD _ _,w2]
  let N:Paired (Y8 (O3 X r D) (upd J D (.lst (G++[!t]))) X.ts) (g++[(j,WH X.ts k j)]) (G++[!t]):=by
   show J4 (a:=(j,WH X.ts k j)) #[t,!u,Z,tD _ _ et,a3] (Paired.mapP T λ_ _ z=>Y8.off z (λb o n e=>a9 b o (λz=>n (.inr λy=>y.2.2.1 z)) e λz=>n (.inl z)) c7)
  let ew:ls++U8 g++[V.int (j:Int)]=ls++U8 (g++[(j,WH X.ts k j)]):=by unfold U8;simp
  rw[ew] at R7;let a1:∀ b o,b≠r->H b\o->upd J D (.lst (G++[!t])) b\o:=λb o n e=>#v[ZU (Zg e a7),m _ _ (C b o n (fr b o n e))]
  show#[2,_,hJ X.ts j,!u,WH X.ts k j,Z,a3,λh0=>?_,λh0=>?_]
  .show#[_,Nat.succ_pos _,.mk (cur:=Y') (λi z=>by cases z) ?_ a1 R7 Za N]
   rw[p];change g++Qr X.ts k (X^j).h j=_;rwa[h0,(zC _).symm]
  .let#[n1,n2,n3]:=MA hw hj h0 k;show#[Uu X.ts k j,n3,_,Nat.succ_lt_succ (),.mk (cur:=Z' (Uu X.ts k j)) (λi z=>by cases z;lia) ?_ a1 R7 Za N]
   rw[p];change g++Qr X.ts k (X^j).h j=_;rw[<-n2,yT];rfl
inductive RcAt(N:aj->Prop)(H:Hp)(b:jk)(i:Nat)(u:V):Prop
 |mk(t a:_)(_:u=!t)(_:H t\.tup [.int (i:Int),a])(_:Yj N H (b^i) a)
section
variable{gt:jj}{ts:jk}
end
theorem og(a b)(A)(v u)(x:ZL s.heap a v)(y:ZL s.heap b u)(M:A.units+a.depth<cLine):SeqAt.RcAt A s v u (a.eqb b):=by
 let f:A.units<cLine:=()
 cases a with
 |int i=>
  rw[ZL] at x;let#[t,rfl]:=x
  cases b with
  |int j=>rw[ZL] at y;let#[g,rfl]:=y;rwa[KT.eqb,SeqAt.RcAt.int_int i t j g]
  |str z=>rw[ZL] at y;let#[g,rfl]:=y;rwa[show 'ĕ'.eqb (.str z)=false by simp[KT.eqb],SeqAt.RcAt.int_str i t z g]
  |tup m=>rw[ZL] at y;let#[p,d,rfl,h,_]:=y;rwa[show 'ĕ'.eqb (.tup m)=false by simp[KT.eqb],SeqAt.RcAt.int_tuple i t h f]
 |str w=>
  rw[ZL] at x;let#[t,rfl]:=x
  cases b with
  |int j=>rw[ZL] at y;let#[g,rfl]:=y;rwa[show 'Ĕ'.eqb (-j)=false by simp[KT.eqb],SeqAt.RcAt.str_int w t j g]
  |str z=>rw[ZL] at y;let#[g,rfl]:=y;rwa[KT.eqb,SeqAt.RcAt.str_str w t z g]
  |tup m=>rw[ZL] at y;let#[p,d,rfl,h,_]:=y;rwa[show 'Ĕ'.eqb (.tup m)=false by simp[KT.eqb],SeqAt.RcAt.str_tuple w t h f]
 |tup l=>
  rw[ZL] at x;let#[p,d,rfl,r,C]:=x;rw[KT.depth] at M
  cases b with
  |int j=>rw[ZL] at y;let#[g,rfl]:=y;rwa[show 'ē'.eqb (-j)=false by simp[KT.eqb],SeqAt.RcAt.tuple_int j g r f]
  |str z=>rw[ZL] at y;let#[g,rfl]:=y;rwa[show 'ē'.eqb (.str z)=false by simp[KT.eqb],SeqAt.RcAt.tuple_str z g r f]
  |tup m=>
   rw[ZL] at y;let#[q,c,rfl,h,D]:=y;let P:=↑C;let Q:=↑D;let E:=SeqAt.RcAt.tuples (A:=A) (s:=s) (e:=λj=>(l.getD j (.int 0)).eqb 'p') r h f (λj K L=>by
    let n:j<↑d:=by simpa using K
    let o:j<↑c:=by simpa using L
    let#[k,B,N]:=C.get (j:=j) (u:=d[j]) (by simp[n])
    let#[F,G,O]:=D.get (j:=j) (u:=c[j]) (by simp[o])
    let R:=OY (zG B);let I:l.getD j (.int 0)=k:=by rw[zO,B];rfl
    let J:m.getD j (.int 0)=F:=by rw[zO,G];rfl
    have:=Pq k.depth k F A.in1 d[j] c[j] (zY _) N O (by change A.units+1+k.depth<cLine;lia)
    change SeqAt.EqAt A.in1 s _ _ ('Đ'.eqb 'p');rw[I,J];simpa using this)
   let H:((yD (min d.toArray.size c.toArray.size)).all (λj=>(l.getD j (.int 0)).eqb 'p')&&d.toArray.size==c.toArray.size)=(KT.tup l).eqb (.tup m):=by
    rwa[zF,zF,<-P,<-Q,KT.eqb,NJ l m]
   rw[H] at E;show E
inductive LN:V->V->Hp->VK->Prop
 |mk{x y:V}{H:Hp}{Q:VK}(a b:KT):ZD H a x->ZD H b y->a.depth<=200->Q (.bl (a.eqb b)) H->LN x y H Q
theorem wd(g:ZX k X.A):XF X (az .Eq) LN:=by
 intro c s l H x y v u Q I i j h;let#[a,b,d,e,f,q]:=h;show og a b X.A v u (VY I a x v d i) (VY I b y u e j) (ZX.key g f) X.prog X.w X.xe _ #[.bl _,H,I,Z,q]
def WZ(a:jl)(k:KT):jm:=(a.filter λr=>r.1.eqb k).map (·.2)
def Yw(a:jk):jp->jl
 |none=>[]
 |some i=>(a^i).rows
theorem Ck(f:WF gt c)(s:j∈gt)(p:(c^j).h≠0):(c^j).bs.Pairwise λa b=>(Zw (c^a)).lo.lt (Zw (c^b)).lo=V':=by
 let i:=f j s;let#[t,u,l,o]:=i.stem p;let k:=i.up;rw[o,List.map_flatMap,gL] at k;let g:∀ b∈(c^j).bs,(Zw (c^b)).lo∈(c^b).rows.map (·.1):=λb d=>by
  let e:b∈gt:=(l b d).1;let#[r,v,m,n]:=Qz (f b e).ne;rwa[m,n,zX ..]
 have:=k.2;show this.imp_of_mem fun{a b} q d h=>h _ (g a q) _ (g b d)
theorem ms{g:Type}{p:g->Bool}{A C:List g}{b:g}(h:↑((A++b::C).filter p)-1=↑A)(k:∀ c∈C,p c=V'->p b=V'/\∀ a∈A,p a=V'):(A≠[]->p b=V')/\∀ c∈C,p c=false:=by
 let i:∀ c∈C,p c=false:=λc d=>by
  cases e:p c with
  |false=>rfl
  |true=>
   let#[l,f]:=k c d e;rw[yB,uZ l,zR,zN,wI.mpr f] at h;have:0<↑(C.filter p):=rD (yH.mpr #[d,e])
   lia
 show#[λf=>?_,i]
 cases e:p b with
 |true=>rfl
 |false=>
  let j:C.filter p=[]:=wX.mpr λc d=>#v[i c d,zP]
  rw[yB,rA #v[e,zP],j,zC] at h
  have:=tZ p A;have:0<↑A:=vW.mpr f
  lia
theorem CI{gt:jj}{f:jk}{i j:Nat}{t:ZO}(b:XB gt f i t){y:KT}(a:y∈t.rows.map (·.1)):y.lt (Zw t).lo=false:=by
 let#[r,g,d,e]:=Qz b.ne;let c:=b.up;rw[d,yX] at c a;rw[e];rcases zU.mp a with z|z
 .rwa[z,UI _]
 .show Q9 _ _ ((xD.mp c).1 y z)
section
variable{gt:jj}{ts:jk}
theorem JC(m:WF gt ts)(l:i∈gt)(f:(ts^i).h≠0)(k):∃ A C,↑A=WH ts k i/\(ts^i).bs=A++Uu ts k i::C/\(A≠[]->k.lt (Zw (hJ ts 'ũ')).lo=false)/\∀ c∈C,k.lt (Zw (ts^c)).lo=V':=by
 let#[F,G,w]:=MA m l f k;let v:=ER m l f k;let r:=Ck m l f;let d:(ts^i).bs=(ts^i).bs.take (WH ts k i)++Uu ts k i::(ts^i).bs.drop (WH ts k i+1):=by
  let#[u,e]:=yW.mp w;show(wY (WH ts k i) _).symm.trans (by rw[xH u,e])
 let p:↑((ts^i).bs.take (WH ts k i))=WH ts k i:=by rw[yA];lia
 let j:↑((ts^i).bs.filter λb=>!k.lt (Zw (ts^b)).lo)-1=WH ts k i:=(aK f).symm;rw[d,xA] at r;rw[<-p] at j
 conv at j=>lhs;rw[d]
 let#[_,E,n]:=r;let o:=(xD.mp E).1;let s:∀{x y:Nat},(Zw (ts^x)).lo.lt (Zw (ts^y)).lo=V'->(!k.lt (Zw (ts^y)).lo)=V'->(!k.lt (Zw (ts^x)).lo)=V':=fun{x y} h q=>by
  cases e:k.lt (Zw (ts^x)).lo with
  |false=>rfl
  |true=>erw[T9 _ _ _ e h] at q
 let#[B,D]:=ms j λc g q=>#[s (o c g) q,λa t=>s (n a t c (zS _ g)) q];show#[_,_,p,d,λz=>#v[B z],λc g=>#v[D c g]]
theorem Fh(a b)(k):WZ (a++b) k=WZ a k++WZ b k:=by unfold WZ;rw[yB,zH]
theorem LL{rs:jl}{k:KT}(h:∀ r∈rs,r.1≠k):WZ rs k=[]:=by
 unfold WZ;rw[wX.mpr λr a z=>h r a (Uk _ _ z)];rfl
theorem ny(d:WF gt ts)(m:i∈gt)(g:(ts^i).h≠0)(k):WZ (ts^i).rows k=WZ (hJ ts 'ũ').rows k:=by
 let#[A,C,_,f,w,x]:=JC d m g k;let p:=d i m;let#[D,E,t,n]:=p.stem g;let s:=p.up;let B:Uu ts k i∈gt:=(MA d m g k).1;rw[n,f,tF,wT,zH,xA] at s;rw[n,f,tF,wT,Fh,Fh,LL,LL (rs:=C.flatMap _),uQ,zC]
 .intro r a z;let#[c,b,a]:=xT.mp a;let l:c∈gt:=by
   have:=(t c #v[f,yZ _ (zS _ b)]).1
   lia
  let e:=CI (j:=0) (d c l) (zQ.mpr #[r,a,Z]);erw[z,x c b] at e
 .intro r a z;let#[c,b,_]:=xT.mp a;let e:=w (λy=>by erw[y] at b)
  let#[q,F,u,v]:=Qz (d _ B).ne;let o:=s.2.2 _ (zQ.mpr #[r,a,Z]) q.1 (zQ.mpr #[q,zL _ #v[u,zX ..],Z])
  erw[z,<-v,e] at o
end
theorem FJ(c:WF gt a)(k):∀ n i ,i∈gt->(a^i).h=n->∃ j d r,Qr a k n i=r++[(j,d)]/\j∈gt/\(a^j).h=0/\WZ (a^j).rows k=WZ (a^i).rows k
 |0,i,b,f=>#[i,_,[],Z,b,f,Z]
 |n+1,i,b,f=>by
  let#[o,p,_]:=MA c b () k
  let#[j,d,r,e,g,l,m]:=FJ c k n (Uu a k i) () ()
  show#[j,d,(i,WH a k i)::r,by rw[Qr,e];rfl,g,l,by rw[m,ny c b ()]]
inductive XY(jT jU:aj):Sp
 |mk{X:ZV}{d:aj}{c:Nat}{e:je}{r:jp}{v:V}{k:KT}{H:Hp}{Q:VK}{E:XK}:NW jT jU H X d c e r->ZD H k v->k.fits 3=V' ->
  (∀(a:Hp)(D:aj)(g:je),(∀ b o,b≠d->H b\o->a b\o)->Wh jT jU a X d c (e++U8 (UU X.ts k r))->H D=Y'->D≠d->a D\.lst g->jO a 'ų' g->Q (!D) a) ->
  XY jT jU [!X.S,YS r,v] H Q E
abbrev Bh:jn:=["shelf","root","key","steps","rows"]
theorem Vx:ZC Bh T3 (Zc JQ):=Zo
theorem lG(F:Zl K "value_of" "value_of" JQ f fd)(DS:'á'):-ZI ZJ 11 f fd T3 (XY jT jU):=by
 show F.ok Vx 'a' (λa3 A a1 s H vs Q E hr h=>?_)
 induction h
 rename_i X lk c ls rn v k H Q E L kv fk q
 let nd:=Vx.nd;intro Xc;show#[_,ZK (Zf 3 nd (Zd DS hr 'K'))
  (ZK (Z4 (YO (MC hr.units0) (pv 3) (Yy Zt) (Z9 _)) (ZR (Zh (Yy Zt))) Z6)
  (ZK 'Ĭ'
  (ZR (Zh (Vt [2] TK Z 'ý' (λ_ _ _ _ _=>Oy (YO (wd hr) 'B' (pv 1) (Z9 _))) (λ_ _ _ _ _=>XL K (pv 0) ZM) #[Z,.inl Z,Z,trivial]))))),?_]
 show#[3,.mk L kv fk λU S I T V nS a2 hS y=>?_];exists 1,Yc;intro b nb;let g:=Zv nb (.lst []);let eb:=Za (H:=U) (a:=b) (o:=.lst []);generalize upd U b (.lst [])=O at g eb⊢;let G:∀{D:aj},U D=Y'->H D=Y'/\D≠lk:=fun{D} d=>by
  let z:D≠lk:=λz=>by erw[z,V.sh.looks] at d
  show#[?_,z]
  cases e:H D with
  |none=>rfl
  |some o'=>erw[T _ _ z e] at d
 exists S,b,I,Z,Z,ZF.of (g _ _ hS),ZF.of eb,_,Z
 cases rn with
 |none=>
  let e0:I=[]:=by
   cases y;rfl
  subst e0;show Z2 #[Yc,λD d=>?_];let g2:=Zv d (.lst []);let#[f1,f2]:=G (g.free d);show q _ D [] (λb o z e=>g2 _ _ (g _ _ (T b o z e))) ((V.same g).same g2) f1 f2 Za .nil
 |some i=>
  let hi:=L.hi i Z;let#[j,pl,rr,ew,hj,h0,es]:=FJ L.wf k _ i hi Z;let Y:UU X.ts k (Z' i)=rr++[(j,pl)]:=ew;rw[Y] at y;let ln:=Paired.length y;rw[zR,xV] at ln;let hu:I[↑I-1]?\(I[↑I-1]'()):=zT _
  let#[p,ep,t,fv,et,ht,FA]:=Paired.ixR y hu;let e1:p=(j,pl):=by
   rw[<-ln,tJ,xJ (zY _),uE] at ep;show(yV.inj ep).symm
  subst e1;rw[et] at hu;let ne:I.isEmpty=false:=by
   cases I with
   |nil=>simp at ln
   |cons _ _=>rfl
  rw[ne];let#[tq,lq,J,rfl,e4,R,a4,e6,e7]:=FA.same g;let kr:=e6 h0;let lv:↑J=↑(X^j).rows:=by have:=↑kr;rwa[<-this,zW _]
  let l4:=((L.wf j hj).leaf h0).2;show Zq #[2,.inl #[S,_,_,!t,Z,Z,ZF.of (g _ _ hS),Mm (j:=1) (zY _) () hu,t,_,_,!tq,Z,Z,Zp.of (g _ _ ht),Z,tq,_,_,!lq,Z,Z,Zp.of e4,Z,?_]]
  let t2:Z1 H O:=λb xs e=>g _ _ (T b _ (ZZ e L.sh.sh.looks) e);let QB:=kv.mono t2 _ _;show#[1,lq,Z,#[J,ZF.of R],KY (n:=↑J) (λi z=>J[i]?\z) (λn=>((X^j).rows.getD n rc).1.eqb k) (λD n C r=>ZE O r/\O D=Y'/\jO O (WZ ((X^j).rows.take n) k) C) (Yq ())
   (λD n C r N l=>#[J,J[n],ZF.of (l.1 _ _ R),by simp[N]]) (λD n C r z H4 N l hy=>#[hy.1,hy.2 J (ZF.of (l.1 _ _ R))]) (λD C r l=>#[J,ZF.of (l.1 _ _ R),zY _])
   (λD hD=>#[Zv hD _,hD,.nil]) (λD n C r z M N hz l B hB=>?_) (λD n C r z M N hz hk l B hB=>?_) (λD n C r M N hk l=>?_) (λD C r M l=>?_)]
  .let#[m,d,x]:=l;let#[a,vk,vv,u,rfl,W,c1,c2]:=OG kr hz;let a0:=((L.wf j hj).inn _ (zG u)).1;show#[1,a,_,_,vk,Z,Z,Zp.of (m _ _ W),Z,1,.mk _ _ (c1.sm m) (QB.sm m) (zJ (Vo _ 3 a0) 'b') #[1,hB r M #[m,d,x]]]
  .let#[m,d,x]:=l;let#[a,vk,vv,u,rfl,W,c1,c2]:=OG kr hz;show#[1,a,_,_,vv,Z,Z,Zp.of (m _ _ W),Z,hB _ r M #[UW m d,d,?_]];unfold WZ at x⊢;rwa[O0 _ u,aM hk,zH,x.append (.cons c2 .nil)]
  .let#[m,d,x]:=l;let u:(X^j).rows[n]?\(X^j).rows.getD n rc:=by rw[zO,zT ()];rfl
   exists m,d;unfold WZ at x⊢;rw[O0 _ u,aK #v[hk,zP],zC]
   show x
  .let#[m,d,x]:=l;rw[zA (),es] at x
   let#[f1,f2]:=G (g.free d);show q r D C (λb o z e=>m _ _ (g _ _ (T b o z e))) ((V.same g).same m) f1 f2 M (x.sm m)
abbrev Up(a:jl):Prop:=Ps (a.map (·.1))
theorem Lm{s i:Nat}(h:s<↑a):hJ (a.set s t) i=if i=s then t else hJ a i:=by
 unfold hJ;rw[zO,zO];by_cases z:i=s
 .subst z;rw[aM rfl,rE h];rfl
 .rw[aK z,rJ (Ne.symm z)]
theorem QI(a)(l m):ZP a (l++m)=ZP a l++ZP a m:=tF
theorem WV(a)(b)(m:jj):ZP a (b::m)=(a^b).rows++ZP a m:=wT ..
theorem US{ts ts':jk}{l:jj}(h:∀ b∈l,(ts'^b).rows=(ts^b).rows):ZP ts' l=ZP ts l:=by
 induction l with
 |nil=>rfl
 |cons b l d=>rw[WV,WV,h b zX,d λc a=>h c (zS _ a)]
theorem qe(p:∀ b∈a,(c^b).rows≠[])(g:0<↑a):(#[((YI c a).getD 0 .d).h+1,((YI c a).getD 0 .d).lo,((YI c a).getD (↑(YI c a)-1) .d).hi,((YI c a).map Yd.m).sum]:Yd)=Zw (YE c a):=by
 let B:↑(YI c a)=↑a:=zW _;let f:∀ i,i<↑a->a.getD i 0∈a:=λi y=>#v[zO,zT y,xK _]
 let n:((YI c a).getD 0 .d).lo=(Zw (YE c a)).lo:=by
  rw[PL g];let#[r,o,e,k]:=Qz (p _ (f 0 g));rw[k]
  cases a with
  |nil=>simp at g
  |cons b a=>
   unfold Zw YE ZP;let s:(c^b).rows=r::o:=e;simp only[wT,s];rfl
 let j:((YI c a).getD (↑(YI c a)-1) .d).hi=(Zw (YE c a)).hi:=by
  rw[B,PL ()]
  let#[o,r,e,k]:=Le (p _ (f (↑a-1) ()))
  rw[k];rcases vC a with z|⟨q,b,z⟩
  .rw[z] at g;simp at g
  .rw[vD] at z;let u:a.getD (↑a-1) 0=b:=by rw[z];simp[zO]
   rw[u] at e;let x:ZP c a=ZP c q++o++[r]:=by rw[z];simp[ZP,e]
   unfold Zw YE;simp only[x];simp[zO]
 let w:((YI c a).map Yd.m).sum=(Zw (YE c a)).m:=by
  have:∀ l:jj,((YI c l).map Yd.m).sum=(↑(ZP c l):Int):=λl=>by
   induction l with
   |nil=>rfl
   |cons b l A=>
    let t:YI c (b::l)=Zw (c^b)::YI c l:=rfl;rw[t,WV,yX,List.sum_cons,A,zR];change (↑(c^b).rows:Int)+_=_
    lia
  show this a
 let v:((YI c a).getD 0 .d).h+1=(Zw (YE c a)).h:=by
  rw[PL g];change ((hJ c (a.getD 0 0)).h:Int)+1=(((hJ c (a.getD 0 0)).h+1:Nat):Int)
  lia
 rw[n,j,w,v]
theorem N5{ts:jk}{bs:jj}{h:Nat}(a:∀ b∈bs,(ts^b).rows≠[]/\(ts^b).h=h)(t:2<=↑bs)(u:↑bs<=4)(p:Up (ZP ts bs)):gX (YI ts bs)\Zw (YE ts bs):=by
 let w:↑(YI ts bs)=↑bs:=zW _;let c:=p;unfold Up Ps ZP at c;rw[List.map_flatMap,gL] at c;rw[<-qe (λb h=>(a b h).1) ()]
 show pq () () λj v=>?_
 let i:j<↑bs:=()
 let k:j+1<↑bs:=()
 rw[PL i,PL k];let d:bs[j]?\bs.getD j 0:=by rw[zO,zT i];rfl
 let e:bs[j+1]?\bs.getD (j+1) 0:=by rw[zO,zT k];rfl
 let f:=a _ (zG d);let g:=a _ (zG e);let q:=Kt c.2 (wC j) d e;let#[r,x,l,n]:=Le f.1;let#[y,s,m,o]:=Qz g.1;unfold P9;rw[zI];exists ?_
 .change (((hJ ts (bs.getD j 0)).h:Int)==((hJ ts (bs.getD (j+1) 0)).h:Int))=V';rw[f.2,g.2];simp
 .rw[n,o];show q _ ?_ _ ?_
  .rwa[l,zH,yZ _ 'û']
  .rwa[m,zX ..]
theorem nJ(f:∀ b∈c,XB gt e b (e^b))(i):((YI e c).getD i .d).fit:=by
 rcases yL i ↑c with a|a
 .rw[PL a];show LK (f _ ?_);rwa[zO,zT a,xK _]
 .rw[zO,qS (by unfold YI;rwa[zW,a])]
  show CQ
theorem XB.like(h:XB gt d i t)(l:↑d<=↑a)(e:∀ b∈t.bs,hJ a b=hJ d b):XB gt a i t:=by
 exists h.ne,h.up,h.inn,h.leaf;intro z;let#[g,j,f,k]:=h.stem z;exists g,j,λb c=>#[(f b c).1,#v[e b c,(f b c).2]]
 rwa[k,(US λb c=>by rw[e b c]).symm]
inductive Q3(gt:jj):jk->jj->jk->Prop
 |nil {ts:jk}:Q3 gt ts [] ts
 |cons {ts cur:jk} {s:Nat} {r:jj}:s<↑ts->(∀ b∈(ts^s).bs,b∈gt)->↑(ts^s).bs<=4->(∀ i,((YI ts (ts^s).bs).getD i .d).fit)->gX (YI ts (ts^s).bs)\Zw (YE ts (ts^s).bs)->Q3 gt (ts.set s (YE ts (ts^s).bs)) r cur->Q3 gt ts (s::r) cur
inductive YV(ts:jk)(r:Nat):jj->jj->jl->jl->Prop
 |root:YV ts r [r] [] [] []
 |down {p c:Nat} {up ps l m:jj} {A B:jl}:YV ts r (p::up) ps A B->(ts^p).h≠0->(ts^p).bs=l++c::m->c∉l->c∉m->YV ts r (c::p::up) (↑l::ps) (A++ZP ts l) (ZP ts m++B)
section
variable{gt:jj}{ts:jk}{r:Nat}
theorem YV.facts(t:WF gt ts)(s:r∈gt):∀{b g:jj}{A B:jl},YV ts r b g A B->∀{c:Nat}{a:jj},b=c::a->c∈gt/\(∀ x∈a,x∈gt/\(ts^c).h<(ts^x).h)/\(ts^r).rows=A++(ts^c).rows++B/\(ts^c).h+↑a=(ts^r).h:=by
 intro b g A B z
 induction z with
 |root=>
  intro c a e;cases e;show#[s,λx f=>(by cases f),by simp,Z]
 |down F q i D E v=>
  intro c a e;cases e;let#[j,k,u,C]:=v Z;rename_i p c a g l m A B
  let#[_,_,n,d]:=(t p j).stem q;let#[o,w]:=n c (by rw[i];simp)
  show#[o,λx f=>?_,?_,by rw[zN];lia]
  .rcases zU.mp f with y|y
   .rwa[y,#[j,()]]
   .show#[(k x y).1,by have:=(k x y).2;lia]
  .let d:(ts^p).rows=ZP ts (ts^p).bs:=d;rw[u,d,i,QI,WV];simp only[yT]
def Ho(gt:jj)(ts:jk)(a:Nat->jj):=∀ p∈gt,∀ b∈(ts^p).bs,p∈a b
def Tp(a:Nat->jj)(b:Nat->Nat)(i:Nat):Prop:=a i=[]/\b i=1
inductive Rd(gt:jj)(av:Nat->jj)(ho:Nat->Nat):Nat->jj->Prop
 |top {i:Nat}:i∈gt->Tp av ho i->Rd gt av ho i [i]
 |up {i j:Nat} {l:jj}:i∈gt->av i=[j]->ho i=0->Rd gt av ho j l->Rd gt av ho i (i::l)
theorem Rd.lt{b:Nat->jj}{c:Nat->Nat}{i:Nat}{l:jj}(h:Rd gt b c i l):i∈gt:=by
 cases h with
 |top a=>show a
 |up a=>show a
theorem Rd.hd(h:Rd gt av ho i l):∃ up,l=i::up:=by
 cases h with
 |top a=>show#[1]
 |up a=>show#[1]
theorem Rd.over(h:Rd gt av ho c ch):∀{up:jj},ch=c::up->∀ b∈ch,∀ p,p∈av b->p∈up:=by
 induction h with
 |top _ t=>
  intro up e b hb p hp;erw[zV.mp hb,t.1] at hp
 |up _ a1 _ h ih=>
  intro up e b hb p hp;cases e;let#[u,eu]:=h.hd;rcases zU.mp hb with y|y
  .rw[y,a1] at hp;rwa[zV.mp hp,eu,zX]
  .have:=ih eu b y p hp;rwa[eu,zS _ this]
theorem ud(lt:∀ i∈gt,i<↑ts)(T:WF gt ts)(hr:r∈gt):∀{G L:jj}{A B:jl},YV ts r G L A B->∀{x:Nat}{f:jj}{cur:jk},G=x::f->↑cur=↑ts->(∀ i,(cur^i).h=(ts^i).h)->(∀ i,i≠x->(ts^x).h<=(ts^i).h->hJ cur i=hJ ts i)->(∀ b∈x::f,∀ i,i∈gt->b∈(cur^i).bs->i∈f)->(∀ i,i∈gt->i∉f->XB gt cur i (cur^i))->Up (A++(cur^x).rows++B) ->
  ∃ c,Q3 gt cur f c/\↑c=↑ts/\WF gt c/\(∀ i,i∉f->hJ c i=hJ cur i)/\(∀ i,(c^i).h=(ts^i).h)/\(∀ i,(c^i).bs=(cur^i).bs)/\(c^r).rows=A++(cur^x).rows++B:=by
 intro G L A B z
 induction z with
 |root=>
  intro x f cur e j D C J E U;cases e;show#[cur,.nil,j,λi s=>E i s ⋯,λ_ _=>rfl,D,λ_=>rfl,by simp]
 |down zp R v n1 n2 ih=>
  intro x f cur e j D C J E U;cases e;rename_i p x f L l m A B
  let#[S,Q,fr,_]:=zp.facts T hr Z;let#[O,F,u,er]:=(T p S).stem R;let Y:=(u x (by rw[v];simp)).2
  let xl:=(u x (by rw[v];simp)).1
  let k:hJ cur p=hJ ts p:=C p (λy=>by rw[y] at Y;lia) ()
  let N:∀ y∈p::f,(ts^x).h<(ts^y).h:=λy hy=>by
   rcases zU.mp hy with q|q
   .rw[q];lia
   .have:=(Q y q).2
    lia
  let w:∀ b∈l++m,hJ cur b=hJ ts b:=λb a=>by
   show C b (λy=>?_) (by have:=(u b (by rw[v];rcases zM.mp a with q|q<;>simp[q])).2;lia)
   rw[y] at a;show(zM.mp a).elim n1 n2
  let d:∀ b∈(ts^p).bs,b∈gt/\XB gt cur b (cur^b)/\(cur^b).h=(ts^x).h/\b≠p:=λb a=>by
   let#[W,q2]:=u b a;show#[W,E b W λy=>?_,by rw[D];lia,λy=>by rw[y] at q2;lia]
   have:=N b y
   lia
  let X:ZP cur (ts^p).bs=ZP ts l++(cur^x).rows++ZP ts m:=by
   rw[v,QI,WV,US (ts:=ts) (ts':=cur) (l:=l) λb a=>by rw[w b (zL _ a)],US (ts:=ts) (ts':=cur) (l:=m) λb a=>by rw[w b (yZ _ a)],yT]
  let P:A++ZP cur (ts^p).bs++B=A++ZP ts l++(cur^x).rows++(ZP ts m++B):=by rw[X];simp only[yT]
  rw[<-P] at U;let t:Up (ZP cur (ts^p).bs):=by
   show xI.sublist ?_ U;show yN.map _ ?_;show((yF A _)|||yG _ B)
  let K:=N5 (ts:=cur) (bs:=(ts^p).bs) (λb a=>#[(d b a).2.1.ne,(d b a).2.2.1]) O F t;let V:p<↑cur:=#v[j,lt p S]
  let g:∀ i,hJ (cur.set p (YE cur (ts^p).bs)) i=if i=p then YE cur (ts^p).bs else hJ cur i:=λi=>Lm V
  let M:(YE cur (ts^p).bs).h=(ts^p).h:=by
   change (hJ cur ((ts^p).bs.getD 0 0)).h+1=_;have:(ts^p).bs.getD 0 0∈(ts^p).bs:=#v[zO,zT (),xK _]
   have:=(d _ this).2.2.1
   lia
  let e2:Up (A++(hJ (cur.set p (YE cur (ts^p).bs)) p).rows++B):=#v[g,aM Z,U]
  let#[c,c1,c2,c3,c4,c5,c6,c7]:=ih (cur:=cur.set p (YE cur (ts^p).bs)) Z #v[vT,j] (λi=>by
    rw[g];split
    .rename_i y;rwa[y,M]
    .show D i) (λi n h=>#v[g,aK n,C i (λy=>by rw[y] at h;lia) ()]) (λb a i s h=>by
    rw[g] at h;let o:b∈(cur^i).bs:=by
     split at h
     .rename_i y;rwa[y,k,h]
     .show h
    rcases zU.mp (J b (zS _ a) i s o) with y|y
    .rw[y,k] at o;have:=(u b o).2;rcases zU.mp a with q|q
     .rw[q] at this;lia
     .have:=(Q b q).2;lia
    .show y) (λi s n=>by
    rw[g];split
    .show#[λy=>?_,t,λr' H=>?_,λy=>gS y #v[M,R],λ_=>#[O,F,λb a=>#[(d b a).1,?_],?_]]
     .let y:ZP cur (ts^p).bs=[]:=y;rw[X] at y;have:=(d x (by rw[v];simp)).2.1.ne
      simp at y;show this y.2.1
     .let#[b,a,I]:=xT.mp H;show(d b a).2.1.inn r' I
     .rwa[g,aK (d b a).2.2.2,M,(d b a).2.2.1,Y]
     .show(US λb a=>by rw[g,aK (d b a).2.2.2]).symm
    .rename_i y
     show(E i s λq=>(zU.mp q).elim y n).like #v[vT,zY _] λb a=>?_
     rw[g,aK];intro q;rw[q] at a;show(zU.mp (J p 'Ś' i s a)).elim y n) e2
  exists c,.cons V (λb a=>by rw[k] at a;show(d b a).1) #v[k,F] #v[k,nJ λb a=>(d b a).2.1] #v[k,K] #v[k,c1],c2,c3,λi n=>?_,c5,λi=>?_
  .rw[c4 i λy=>n (zS _ y),g,aK λy=>n #v[y,zX]]
  .rw[c6 i,g];split
   .rename_i y;rw[y,k];rfl
   .rfl
  .rw[c7,g,aM rfl,<-P];rfl
structure Ow(gt:jj)(ts cur:jk)(r c:Nat)(up:jj)(t:ZO)(T:jl):Prop where
 wf:WF gt cur
 len:↑cur=↑ts
 old:∀ i,i∉c::up->hJ cur i=hJ ts i
 at_:hJ cur c=t
 hh:∀ i,(cur^i).h=(ts^i).h
 sh:∀ i,i≠c->(cur^i).bs=(ts^i).bs
 rows:(cur^r).rows=T
theorem Ls{m:Nat->jj}{H:Nat->Nat}(u:∀ i∈gt,i<↑ts)(k:WF gt ts)(q:r∈gt)(e:Ho gt ts m){c:Nat}{f I:jj}{A B:jl}(rd:Rd gt m H c (c::f))(z:YV ts r (c::f) I A B){t:ZO}(J:t.h=(ts^c).h)(l:XB gt ts c t)(U:Up (A++t.rows++B)):
  ∃ d,Q3 gt (ts.set c t) f d/\Ow gt ts d r c f t (A++t.rows++B):=by
 let#[G,p,_,_]:=z.facts k q Z;let g:∀ i,hJ (ts.set c t) i=if i=c then t else hJ ts i:=λi=>Lm (u c G)
 let s:∀ b∈t.bs,(ts^b).h<(ts^c).h:=λb a=>by
  by_cases y:t.h=0
  .erw[(l.leaf y).1] at a
  .have:=((l.stem y).2.2.1 b a).2
   lia
 let F:c∉f:=λy=>by have:=(p c y).2;lia
 let#[d,v,w,x,o,C,D,E]:=ud u k q z (cur:=ts.set c t) Z (by rw[vT]) (λi=>by
   rw[g];split
   .rename_i y;rwa[y,J]
   .rfl) (λi n _=>by rw[g,aK n]) (λb a i j h=>by
   rw[g] at h;split at h
   .have:=s b h;rcases zU.mp a with y|y
    .rw[y] at this;lia
    .have:=(p b y).2;lia
   .show rd.over Z b a i (e i j b h)) (λi j n=>by
   rw[g];split
   .rename_i K
    rw[K];show(l.like #v[vT,zY _] λb a=>?_)
    rw[g,aK (show ¬ b=c from λy=>by have:=s b a;rw[y] at this;lia)]
   .show(k i j).like #v[vT,zY _] λb a=>?_
    rw[g,aK (show ¬ b=c from λy=>n (rd.over Z c zX i (e i j c (y▸a))))]) #v[g,aM Z,U]
 exists d,v,x,w,λi n=>?_,?_,C,λi n=>?_
 .rw[o i λy=>n (zS _ y),g,aK λy=>n #v[y,zX]]
 .rw[o c F,g,aM rfl]
 .rw[D i,g,aK n]
 .rw[E,g,aM rfl]
theorem YV.keep(v:WF gt ts)(I:r∈gt){A B:jl}(z:YV ts r g k A B):∀{p:Nat}{f:jj},g=p::f->(∀ i∈f,(a^i).h=(ts^i).h/\(a^i).bs=(ts^i).bs)->(∀ b,b∈gt->(ts^p).h<=(ts^b).h->b∉p::f->(a^b).rows=(ts^b).rows)->YV a r g k A B:=by
 induction z with
 |root=>show λ_ _ _=>.root
 |down M s j x C J=>
  intro c f e t u;cases e;rename_i q c f k l m A B
  let#[H,F,_,_]:=M.facts v I Z;let#[_,_,o,_]:=(v q H).stem s;let N:=(o c (by rw[j];simp)).2
  let#[K,L]:=t q zX;let w:∀ b∈l++m,(a^b).rows=(ts^b).rows:=λb d=>by
   let#[D,E]:=o b (by rw[j];rcases zM.mp d with y|y<;>simp[y])
   show u b D () λy=>?_
   rcases zU.mp y with y|y
   .rw[y] at d;show(zM.mp d).elim x C
   .rcases zU.mp y with y|y
    .rw[y] at E;lia
    .have:=(F b y).2;lia
  have:=YV.down (J Z (λi G=>t i (zS _ G)) λb d h n=>u b d () λy=>(zU.mp y).elim (λy=>by rw[y] at h;lia) n) #v[K,s] (L|||j) x C
  rw[US (l:=l) λb d=>w b (zL _ d),US (l:=m) λb d=>w b (yZ _ d)] at this;show this
end
section
variable{jV:jo}{σ:St}{H:Hp}
def Bg:HO->Prop
 |.dK _=>True
 |.frz _ (.dK _)=>True
 |_=>False
theorem ZH.re{d:aj}{v u:HO}(I:'c')(e:H d\v)(h:Bg v)(B:∀ o x,X.H₀ d≠Z' (.frz o x))(g:Zk X.prog X.w H s.heap d u):ZH X jV σ (upd H d u) s:=by
 let f:∀{b:aj},H b=Y'->b≠d:=fun{b} q z=>by erw[z,e] at q
 let C:∀{b y:aj},H b\.own y->b≠d:=fun{b y} q z=>by erw[z,e] at q;show h
 let j:∀{b:aj}{a:je},H b\.tup a->b≠d:=fun{b a} q z=>by erw[z,e] at q;show h
 let A:∀{b:aj}{a:js},H b\.tbl a->b≠d:=fun{b a} q z=>by erw[z,e] at q;show h
 show#[I.ok,I.os,I.bare,#[I.base.keep,I.base.slot,λb o q n t=>?_,I.base.there,λb a q=>?_,λb o x q=>?_,λb D q=>?_],I.loc,I.cell,?_,λx c q=>?_,λp r=>?_,λb o q=>?_,I.len]
 .let z:=I.base.free b o q n t;rwa[ZU (f z),z]
 .let z:=I.base.tups b a q;rwa[ZU (j z),z]
 .let z:=I.base.frzs b o x q;rwa[ZU (show b≠d from λy=>B o x (y▸q)),z]
 .let#[m,z]:=I.base.tbls b D q;show#[m,#v[ZU (A z),z]]
 .rwa[ZU (f I.free),I.free]
 .rwa[ZU (f (I.freeC x c q)),I.freeC x c q]
 .let#[E,l,F]:=I.pin p r;show#[E,#v[ZU (f l),l],F]
 .let k:∀{b o},Zk X.prog X.w H s.heap b o->Zk X.prog X.w (upd H d u) s.heap b o:=λx=>x.stay (λ_ _ _ q=>q) (λc q=>#v[ZU (C q),q]) λc a q=>#v[ZU (j q),q]
  by_cases i:b=d
  .subst i;erw[Za] at q;show k g
  .rw[ZU i] at q;show k (I.hok b o q)
theorem ZH.nofrz(I:'c')(e:H d\.dK a):∀ o x,X.H₀ d≠Z' (.frz o x):=λo x q=>by
 have:=I.base.frzs d o x q;erw[e] at this
inductive M6(t:TS)(D:YK)(σ:_T.St)(H:Hp):Prop
 |mk(d a:_)(_:H d\.dK a)(_:t ⟨λb c=>∃ o u,c d\.frz o (.dK u)/\D.nx b (upd c d (.dK u)),λ_ _=>False,λ_ _=>False,λ_ _=>False⟩ σ H)
theorem u9(h:PS X g t):PS X g (M6 t):=by
 rintro jV s σ H D I ⟨d,i,e,q⟩;show Z7 (h jV s σ H _ I q) λf m z=>?_;let j:=I.nofrz e
 cases f with
 |next=>
  let#[a,l,b,o,u,c,k]:=z;show#[a,_,b.re c trivial j (b.hok d _ c).2,k]
 |brk=>let#[_,_,_,z]:=z;show z.elim
 |cont=>let#[_,_,_,z]:=z;show z.elim
 |ret u=>let#[_,_,_,_,_,z]:=z;show z.elim
def Mn(d:aj)(o:aH)(a:List (ZY×V)):It:=
 #[λi H=>H d\.frz o (.dK a)/\i<↑a,λi H x b=>b=H/\∃ p,a[i]?\p/\x=kV p.1,λi H=>H d\.frz o (.dK a)/\↑a<=i]
theorem BM{a:Type}:∀{c:List (a×V)}{d:List (a×ai)}{i:Nat}{p:a×V},KV c d->c[i]?\p->∃ u,d[i]?\(p.1,u)
 |_,_,_,_,.nil,e=>by simp at e
 |_,_,0,p,.cons (b:=b) r _,e=>by simp at e;subst e;show#[b.2,by rw[r.1];rfl]
 |_,_,i+1,p,.cons _ t,e=>by
  let#[u,h]:=BM (i:=i) (p:=p) t #v[e]
  show#[u,#v[h]]
theorem Sk(h:NE k v=V'):ZT (kV k) v:=by
 rcases Pd h with ⟨i,t,rfl,rfl⟩|⟨x,t,rfl,rfl⟩
 .show#[t,Z]
 .show#[t,Z]
theorem Dd(k:o.data=.dict j i)(x:Zk P w H h d (.frz o (.dK a))):∃ b,KV a b/\h.DictAt (Ve P w) d b i:=by
 let#[e,_,_,b,r,n,m,l,g,c,f,q]:=x;erw[e] at g;erw[k] at f;show#[b,r,o,j,e,c,k,q]
theorem JO(h:KV a b):↑a=↑b:=Paired.length h
theorem mK(Q:o.data=.dict U N)(g):Uf P w K tg (Mn d o j) [g] g (λi h=>h.IsKeyIter g d i ↑j N) where
 mem:=by simp
 obj:=λi h a b f=>by
  let e:b=g:=by simpa using f
  subst e;let#[o,e,c,d]:=a;show#[o,e,λv z=>by erw[d] at z]
 keep:=λi h m a k=>a.at λo e=>k g ⋯ o e
 item:=by
  intro X F L D O i jV s σ H E I n a G;subst F L D;let#[J,q]:=G;let#[vs,r,t]:=Dd Q (I.hok d _ J);obtain⟨p,R⟩:∃ p,j[i]?\p:=#[_,zT q];let#[u,hu]:=BM r R;let#[x,y,Y,A,B,C]:=n g ⋯
  rw[JO r] at a⊢;show wpAny_pyNext_dict_item a t hu λM m hk l sb=>?_;let S:ZH X jV σ H { s with heap:=m }:=I.turned (t':=s.toks) (λb o f e=>(sb.2 b f)|||e) x y A B C;show#[M,Z,letGo_keyiter (s':={ s with heap:=m }) l #[_,H,S,Sk hk,#[Z,p,R,Z],l,λb f=>(n b f).1]]
 done:=by
  intro X F L D O i jV s σ H E I n a G;subst F L D;let#[J,q]:=G;let#[vs,r,t]:=Dd Q (I.hok d _ J);let#[x,y,Y,A,B,C]:=n g ⋯
  rw[JO r] at a q;show wpAny_pyNext_dict_end (I.ok.hd O) a t (List.getElem?_eq_none_iff.mpr q) λm T=>#[Z,I.turned (t':=s.toks) (λb o f e=>T b o f e) x y A B C]
 self:=λ_ _ _ _ _ a h=>wpAny_pyIter_keyiter a h
inductive Nw(R:It->Hp->Prop)(x:V)(b:Hp):Prop
 |mk(d a:_)(_:x=!d)(_:b d\.dK a)(_:∀ o,R (Mn d o a) (upd b d (.frz o (.dK a))))
def RJ(b:TE):TI:=λσ H R=>b σ H λx a=>Nw R x a
theorem sy(z:PE X l m):PI X C l (RJ m):=by
 intro jV s σ H R I h;show YG (z jV s σ H _ I h) λv a x F f B A=>?_;let#[d,j,rfl,e,q]:=A;cases B;let#[G,E,D,r,o,t,p,g,c,k,rest]:=id (f.hok d _ e);let n:a.heap.DictAt (Ve X.prog X.w) d D p:=#[o,t,g,c,k,rest];show wpAny_pyIter_dict E n ?_;rw[<-JO r];let i:=f.re (u:=.frz o (.dK j)) e trivial (f.nofrz e) #[g,f.hok d _ e];show#[‹a›,[‹a›],_,_,1,i.kept (t':=a.toks) λb o e=>zD _ e,mK k _,#[_,yI _ Z,Z,Z],λb y=>?_,q o];let e:b=‹a›:=by simpa using y
 subst e;show i.fpOk (zY _) (i.hok.fresh (zY _))
end
theorem AL(h:WG X.nox a t):PS X (.Try a (b::d) [] [] pos) t:=by
 intro c s g H D I e;show wpAny_Try_except ?_;show af (h c s g H D (I.wish _) e) (λf i q=>by
  cases f with
  |next=>show wpAny_execs_nil q.unwish
  |brk=>show q.unwish
  |cont=>show q.unwish
  |ret u=>show q.unwish) λ_ _ z=>False.elim z
variable{jT jU CS CT CH CK CP CB:aj}
theorem PN(l)(b:Nat):Xi (iN (l++[b])) (-1)\V.int (b:Nat):=by
 show Mm (j:=1) (zY _) (by simp[iN]) ?_
 simp[iN]
abbrev Ll:Stmt:=Xr (top 75) 23
abbrev IQ:Stmt:=Xr (top 75) 9
inductive Ys(jT jU:aj):Sp
 |mk{S d j:aj}{g:jj}{m:jk}{c:Nat->jj}{e:Nat->Nat}{h:jr}{b:List (ZY×V)}{k:je}{i:Nat}{l:jj}{H:Hp}{Q:VK}{E:XK}:Zm jT jU H S d j g m c e h b k->Rd g c e i l->↑l<=900->(∀(r:aj)(a:Hp),ZE H a->H r=Y'->a r\.lst (iN l)->Q (!r) a)->Ys jT jU [!S,.int (i:Nat)] H Q E
theorem Xz:ZC ["self","number","road","above"] U' (Zc Ll):=Zo
inductive Ih(S:aj)(n:jj)(av:Nat->jj)(ho:Nat->Nat)(l:jj)(i:Nat)(H:Hp)(r:aj):Nat->_T.St->Hp->Prop
 |mk{j:Nat}{rr lr:jj}{x3:jf}{H':Hp}:Rd n av ho j lr->l=rr++lr->ZE H H'->H r=Y'->H' r\.lst (iN (rr++[j]))->Ih S n av ho l i H r ↑lr [Z' !S,Z' (.int (i:Int)),Z' !r,x3] H'
theorem oM(F:'ę')(L:'d')(DH:-ZB ZJ 2 jT "holders" U' (Xl jT jU λ_ q us=>.int ((↑us:Nat)+(q:Nat):Int)))(DT:'e'):-ZI (Um P w) 3 f fd U' (Ys jT jU):=by
 show F.okD Xz 'a' (λa4 A M s H vs Q E I h=>?_)
 induction h
 rename_i S d V lv ts p q o u X i l H Q E R rd l9 k
 let Y:=Xz.nd;let J:=I.to 1;intro Xc;show#[_,ZK (Zf 2 Y (Yy 'f')) (ZR (Oh Dv (Xk OI)
  (ZK (Z4 (YO U9 (Zs (E:=E0) (pv 0) L.cS DH I Zn 'R') ZM (Z9 _)) U4 Z6)
  (ZK (Zf 3 Y (XS (Zs (E:=E0) (pv 0) L.cS DT J Zn 'R') Z))
  (ZK 'à'
  'ø'))))),?_]
 exists 1,Yc;intro r n;exists Ih S lv p q l i H r,#[_,.mk (rr:=[]) (x3:=Y') rd Z (Zv n _) n Za];rintro _ _ H1 (@⟨b,rr,lr,x3,_,e,C,s1,n,D⟩);show#[1,Z2 #[_,λ_ _ z=>z,?_]];let B:=e.lt;let m:=R.same s1;let#[O,U]:=m.sh.self;let W:=m.tw b B;let#[dt,hx]:=W.tw.self;let o1:↑(p b)+q b=1:=by
  cases e with
  |top _ t=>rw[t.1,t.2];rfl
  |up _ y N=>rw[y,N];rfl
 let lI:↑(iN (p b))=↑(p b):=zW _;show#[1,S,O,1,U,Z,1,(1),Z,.inl #[r,_,_,.int (b:Nat),Z,Z,ZF.of D,PN _ _,S,d,V,↑ts,u,X,(b:Int),_,_,_,_,_,1,#[m.sh,m.val b B,W.tw],?_]];exists _,1,Z,_,Z;rw[show gU ((↑(iN (p b)):Nat)+(q b:Nat)>(1:Int))=false from aI (by rw[lI];lia)]
 show Zq #[1,S,O,1,U,Z,1,(1),Z,.inl #[r,_,_,.int (b:Nat),Z,Z,ZF.of D,PN _ _,S,d,V,↑ts,u,X,(b:Int),.ref o[b]!.x,Z,m.sh,m.val b B,o[b]!.x,jU,dt,_,.ref o[b]!.ab,Z,hx,L.cT,L.nab,Z,?_]];exists 1,Yc;intro T G;let v:=Zv G (.lst []);let a:=v _ _ W.tw.above;let c:=v _ _ D;let g:=s1|||v;exists o[b]!.ab,T,1,Z,ZF.of a,ZF.of Za,_,Z;generalize upd H1 T (.lst [])=H3 at v a c g⊢
 cases e with
 |top _ t=>
  rwa[t.1,show (iN ([]:jj)).isEmpty=V' from Z,Z2 #[1,k _ H3 g n (by rw[C];show c)]]
 |up a0 y N a3=>
  rename_i j lq
  rw[y] at a⊢;let ll:=congrArg xG C;rw[zR,zN] at ll;rw[show (iN [j]).isEmpty=false from rfl];show Zq #[1,.inl #[Z,_,ZF.of c],1,.inl #[o[b]!.ab,_,(0),.int (j:Nat),Z,Z,ZF.of a,Yf (j:=0) Z,r,_,.int (j:Nat),Z,Z,c,Yq (by simp[iN];lia),?_]]
  show#[↑lq,by simp,.mk (rr:=rr++[b]) a3 (by rw[C,yT];rfl) (UW g n) n ?_]
  rw[Za];simp[iN]
inductive Uj(jT jU:aj):Sp
 |mk{S d j:aj}{g:jj}{m:jk}{c:Nat->jj}{e:Nat->Nat}{h:jr}{a:List (ZY×V)}{k:je}{i:Nat}{l:jj}{H:Hp}{Q:VK}{E:XK}:Zm jT jU H S d j g m c e h a k->Rd g c e i l->↑l<=900->(∀(b:Hp),ZE H b->Q '<' b)->Uj jT jU [!S,.int (i:Nat)] H Q E
theorem xc:ZC U' U' (Zc IQ):=Zo
theorem Dh:Pa (Um P w) X E0:=λ_ _ _ _ _ _ _ h=>by
 let#[_,_,_,_,_,_,h]:=h;show h.elim
abbrev Hw:Stmt:=Xr (top 75) 24
abbrev GN:Stmt:=Xr (top 75) 25
abbrev kI(i:Nat):ZY:=gR (i:Int)
theorem AA(h:i≠j):kI i≠kI j:=λz=>h (by have:=Sum.inl.inj z;lia)
structure Pb(H:Hp)(cur:jk)(done:jj)(lkv:List (ZY×V)):Prop where
 keys:lkv.map (·.1)=done.map kI
 at_:∀ i∈done,∃ v,YU lkv (kI i)\v/\YL H (Zw (cur^i)) v
theorem Pb.no{H:Hp}{d:jk}{a:jj}{c:List (ZY×V)}(h:Pb H d a c){b:Nat}(f:b∉a):YU c (kI b)=Y':=by
 cases z:YU c (kI b) with
 |none=>rfl
 |some v=>
  have:=GL z;rw[h.keys] at this;let#[i,g,e]:=zQ.mp this;show gS (show b∈a by
   have:i=b:=by have:=Sum.inl.inj e;lia
   rwa[<-this,g]) f
theorem Pb.mono(h:Pb H b a c)(m:Z1 H d):Pb d b a c:=#[h.keys,λi f=>by
 let#[v,e,k]:=h.at_ i f;show#[v,e,k.mono m]]
theorem Pb.push{f:List (ZY×V)}{s:Nat}(h:Pb H c a f)(j:s∉a)(e:∀ i∈a,hJ b i=hJ c i)(k:YL H (Zw (b^s)) v):Pb H b (a++[s]) (Yh f (kI s) v):=by
 exists by rw[HP v (h.no j),zH,h.keys,zH];rfl
 intro i g;rw[II];by_cases z:i=s
 .subst z;rwa[aM Z,#[v,Z,k]]
 .rw[aK (AA z)];let d:i∈a:=(zM.mp g).elim id λy=>gS 'ð' z;rwa[e i d,h.at_ i d]
theorem Q3.inv{s:Nat}{r:jj}(h:Q3 gt g (s::r) j):s<↑g/\(∀ b∈(g^s).bs,b∈gt)/\↑(g^s).bs<=4/\(∀ i,((YI g (g^s).bs).getD i .d).fit)/\gX (YI g (g^s).bs)\Zw (YE g (g^s).bs)/\Q3 gt (g.set s (YE g (g^s).bs)) r j:=by
 cases h with|cons a b c d e f=>show#[a,b,c,d,e,f]
inductive WB(jT jU:aj):Sp
 |mk{S d o r:aj}{e:jj}{j:jk}{l:Nat->jj}{m:Nat->Nat}{k:jr}{g:List (ZY×V)}{p:je}{n:Nat}{rest:jj}{v:V}{t:ZO}{a:jk}{H:Hp}{Q:VK}{E:XK}:
  Zm jT jU H S d o e j l m k g p->n∈e->(n::rest).Nodup->(∀ i∈rest,i∈e/\(j^i).h≠0)->rest.length<=800->H r\.lst (iN (n::rest))->Q3 e (j.set n t) rest a->YL H (Zw t) v ->
  (∀(c:Hp)(D:aj)(b:List (ZY×V)),ZE H c->H D=Y'->c D\.dK b->Pb c a (n::rest) b->Q (!D) c)->WB jT jU [!S,!r,v] H Q E
abbrev zz:jn:=["self","road","label","labels","stem","branches"]
theorem Qn:ZC zz S' (Zc Hw):=Zo
inductive Dq(S r D q:aj)(n:Nat)(v:V)(lv:jj)(ts:jk)(rest:jj)(cur:jk)(H:Hp):Nat->_T.St->Hp->Prop
 |mk{k:Nat}{H2:Hp}{x y:jf}{c2:jk}{lkv:List (ZY×V)}:ZE H H2->H2 q\.lst (iN rest)->H2 D\.dK lkv->Q3 lv c2 (rest.drop k) cur->↑c2=↑ts->(∀ i,i∉n::rest.take k->hJ c2 i=hJ ts i)->Pb H2 c2 (n::rest.take k) lkv ->
  Dq S r D q n v lv ts rest cur H k [Z' !S,Z' !r,Z' v,Z' !D,x,y] H2
theorem B5(F:Zl K "labels_up" "Shelf.labels_up" Hw f fd)(L:'d')(DT:'e')(DL:-ZB ZJ 2 jT "label" U' (Xl jT jU λtg _ _=>tg))(DO:'ă'):
  ZI P w K mg jW ZJ 10 f fd S' (WB jT jU):=by
 show F.ok Qn 'a' (λi7 A i5 s H vs Q E hr h=>?_)
 induction h
 rename_i S d lk r lv l av ho as c8 ls n rest v t e4 H Q E R hn i4 i2 i6 c0 ch hv k2
 let nd:=Qn.nd;let hu:=LC hr;let i0:=hr.mono (show 1<=9 by lia)
 let i1:=hr.mono (show 2<=9 by lia)
 intro Xc;show#[_,ZK (Na (i:=3) nd Z (Or.inr Z) (Bz (pI (Zy K (pv 1) ZM) (pv 2) vg) Z Z (by intro z;cases z) 'b'))
  (ZK (Vi PassesOwn.never Z (WJ (QZ QY (pv 1) (Ue ZM) Q1)) (VG 4 nd)
   (ZK (Zf 5 nd (XS (Zs (E:=E0) (pv 0) L.cS DT i0 Zn 'å') Z))
   (ZR (Je hu (pv 3) (pv 4) (Zd DO hr (ZQ (Vt [3,0] ["labels","self"] Z (WJ (pv 5)) (λ_ _ _ _ _=>Ut) (λ_ _ _ _ _=>qy hu (pv 1) (pv 0) (Zs (E:=E0) (pv 2) L.cS DL i1 Zn 't') #[Z,Z,Z,Z]) #[Z,.inl Z,Z,Z,.inl Z,Z,trivial]))) Z))))
  '1'),?_]
 intro D nD;let g1:=Zv nD (.dK []);show#[1,.inl #[r,_,(0),.int (n:Nat),Z,Z,ZF.of (g1 _ _ c0),Yf (j:=0) Z,1,?_]];exists Za,[(kI n,v)],Z,(by change 1<=15;lia)
 let e0:MQ [] [(kI n,v)]=[(kI n,v)]:=rfl;rw[e0,MW];let s0:ZE H (upd H D (.dK [(kI n,v)])):=Zv nD _;let X:upd H D (.dK [(kI n,v)]) D\.dK [(kI n,v)]:=Za;generalize upd H D (.dK [(kI n,v)])=H1 at s0 X⊢;exists 2,r,1,ZF.of (s0 _ _ c0);intro q nq;let a3:WX (iN (n::rest)) (Z' 1) Y'=iN rest:=by
  unfold WX;let e1:HT.sIx ↑(iN (n::rest)) 0 (Z' 1)=1:=by
   unfold HT.sIx;simp[iN]
   try lia
  let e2:HT.sIx ↑(iN (n::rest)) ↑(iN (n::rest)) Y'=↑(iN (n::rest)):=rfl;rw[e1,e2];simp[iN];show zA ⋯
 rw[a3];let g2:=Zv nq (.lst (iN rest));let hq:upd H1 q (.lst (iN rest)) q\.lst (iN rest):=Za;let a5:=g2 _ _ X;let s1:=s0|||g2;let qD:q≠D:=λz=>by erw[z,X] at nq
 let c4:=hv.mono (ZE.tups s1);generalize upd H1 q (.lst (iN rest))=H2 at g2 hq a5 s1 c4⊢;let gn:∀ i,hJ (l.set n t) i=if i=n then t else hJ l i:=λi=>Lm (R.lt n hn)
 show#[q,Z,#[_,ZF.of hq],OB (K:=K) (a:=q) (xs:=iN rest) (Dq S r D q n v lv l rest e4 H) (.mk s1 hq a5 ch (by rw[vT]) (λi m=>by rw[gn,aK λz=>m #v[z,zX]]) #[Z,λi m=>?_]) (λi σ H3 _ B=>by let#[_,O,_]:=B;show ZF.of O) ?_ ?_]
 .rwa[zV.mp m,gn,aM Z,#[v,by rw[Qg rfl],c4]]
 .rintro k u σ H3 a0 ⟨s3,O,M,ec,c9,T,Y⟩;unfold iN at a0;rw[zK] at a0;let#[g,es,rfl]:=xU.mp a0;rename_i x y C o
  let hk:k<rest.length:=(yW.mp es).1;let eg:rest[k]=g:=(yW.mp es).2;let ed:rest.drop k=g::rest.drop (k+1):=by rw[xH hk,eg]
  let et:rest.take (k+1)=rest.take k++[g]:=by rw[yR,es];rfl
  let#[e3,h0]:=i2 g (zG es);let a2:g∉n::rest.take k:=λz=>by
   let nn':=i4;let e2:n::rest=(n::rest.take k)++g::rest.drop (k+1):=by
    change n::rest=n::(rest.take k++g::rest.drop (k+1));rw[<-ed,wY]
   rw[e2,yO] at nn';show nn'.2.2 g z g zX Z
  let e6:=T g a2;rw[ed] at ec;let#[c1,c3,b4,c5,c6,c7]:=ec.inv;rw[e6] at c3 b4 c5 c6 c7;let R3:=R.same s3;let#[dS,hS]:=R3.sh.self;let W:=R3.tw g e3;let#[dt,hx]:=W.tw.self;let#[us,J,_,V]:=W.things;let V:=V h0;subst V;exists 1,S,dS,1,hS,Z,1,S,d,lk,↑l,c8,ls,(g:Int),.ref as[g]!.x,Z,R3.sh,R3.val g e3,as[g]!.x,jU,dt,_,.ref as[g]!.th,Z,hx,L.cT,L.nth,Z;exists 1,as[g]!.th,Z,#[_,ZF.of J];show Ul (n:=↑(l^g).bs) (λi z=>(iN (l^g).bs)[i]?\z) (λG i ys p=>ZE H3 p/\H3 G=Y'/\Ym p ((YI C (l^g).bs).take i) ys) (Yq ())
   (λG i ys p m B=>#[_,.int ((l^g).bs[i]:Nat),ZF.of (B.1 _ _ J),by simp[iN,m]]) (λG i ys p z H5 m B hy=>#[hy.1,hy.2 _ (ZF.of (B.1 _ _ J))]) (λG ys p B=>#[_,ZF.of (B.1 _ _ J),by simp[iN]])
   (λG a6=>#[Zv a6 _,a6,Z,λi u e=>by simp at e]) (λG i ys p z I i8 m hz B RR e7=>?_) (λG us p I B=>?_)
  .let#[s4,a1,N]:=B;let ez:z=.int ((l^g).bs[i]:Nat):=by
    unfold iN at hz;rw[zK,zT m] at hz;show(yV.inj hz).symm
   subst ez;let a9:(l^g).bs[i]∈(l^g).bs:=xK _;let a4:(YI C (l^g).bs)[i]?\Zw (hJ C (l^g).bs[i]):=by unfold YI;rw[zK,zT m];rfl
   generalize (l^g).bs[i]=b at a9 a4⊢;let bl:b∈lv:=c3 b a9;let R4:=R3.same s4;let#[e5,e8]:=R4.sh.self;let Wb:=R4.tw b bl;let a7:=s4 _ _ M;exists 1,D,Z,.inl #[_,.inl a7],2,S,e5,1,e8,Z,1,S,d,lk,↑l,c8,ls,(b:Int),_,_,_,_,_,1,#[R4.sh,R4.val b bl,Wb.tw],YU o (kI b),XV.k (k:=kI b) a7;let tD:∀ vv,Z1 p (upd p G (.lst (ys++[vv]))):=λvv c xs e=>#v[ZU (ZZ e I),e]
   let i3:YL p (Zw (hJ C b)) ((YU o (kI b)).getD (.ref as[b]!.tg)):=by
    by_cases c:b∈n::rest.take k
    .let#[v',e',k']:=Y.at_ b c;rwa[e',k'.mono (ZE.tups s4)]
    .rwa[Y.no c,T b c,Wb.tag]
   show e7 _ p I #[UW s4 a1,a1,?_];rwa[yR,a4,(N.snoc i3).mono (tD _)]
  let#[s4,a1,N]:=B;let ll:↑(YI C (l^g).bs)=↑(l^g).bs:=zW _;rw[zA ()] at N
  exists G,us,_,1,I,N,c5,c6;intro H5 vv s5 e9;let U:=s4|||s5;let a8:=U _ _ M;let i9:↑o<=801:=by
   have:=congrArg xG Y.keys;rw[zW,zW,zN,yA] at this
   lia
  exists 2,D,1,Qb.k (k:=kI g) a8 (Yq ())
  let sD:ZE H (upd H5 D (.dK (Yh o (kI g) vv))):=UW (s3|||U) nD;let tD:Z1 H5 (upd H5 D (.dK (Yh o (kI g) vv))):=λc xs e=>#v[ZU (ZZ e a8),e]
  let gs:∀ i,hJ (C.set g (YE C (l^g).bs)) i=if i=g then YE C (l^g).bs else hJ C i:=λi=>Lm c1
  show .mk sD #v[ZU qD,U _ _ O] Za c7 #v[vT,c9] (λi m=>?_) ?_
  .rw[et,<-tN] at m;rw[gs,aK λz=>m (by rw[z];simp)]
   show T i λz=>m (zL _ z)
  .rw[et,<-tN];show((Y.mono (ZE.tups U)).mono tD).push a2 (λi m=>?_) ?_
   .rw[gs,aK (show ¬ i=g from λz=>a2 (z▸m))]
   .rwa[gs,aM Z,(Gw e9).mono tD]
 .rintro σ H3 ⟨s3,O,M,ec,c9,T,Y⟩;rename_i x y C o
  rw[show ↑(iN rest)=rest.length from zW _,zA (zY _)] at Y;erw[show ↑(iN rest)=rest.length from zW _,vA (zY _)] at ec;show#[1,k2 H3 D o s3 nD M Y]
theorem si{g:hW}{r:TS}{D:YK}(c:Nat->St->Hp->Prop)(u:c 0 b H)(z:∀ i b H,i<=↑a->c i b H->H d\.frz o (.dK a))(A:∀ i p b H,a[i]?\p->c i b H->g (kV p.1) b H λj l=>r { D with nx:=c (i+1),ct:=c (i+1),bk:=D.nx } j l)(v:∀ b H,c ↑a b H->D.nx b H):
  ∃ W:Nat->Nat->St->Hp->Prop,(∃ m,W 0 m b H)/\∀ i m b H,W i m b H ->
   ((Mn d o a).stop i H/\D.nx b H)\/((Mn d o a).go i H/\∃ N,(∀ h f,N h f->∃ n,n<m/\W (i+1) n h f)/\∀ x f,(Mn d o a).yld i H x f->g x b f λj l=>r { D with nx:=N,ct:=N,bk:=D.nx } j l):=by
 exists λi m b H=>m=↑a-i/\i<=↑a/\c i b H,#[↑a,by simp,yY _,u]
 rintro i m b H ⟨rfl,w,p⟩;let q:=z i b H w p;by_cases k:i<↑a
 .show .inr #[#[q,k],c (i+1),λh f B=>#[↑a-(i+1),(),Z,k,B],λx f y=>?_]
  let#[e,C,s,t]:=y;subst e t;show A i C b _ s p
 .let e:i=↑a:=()
  subst e;show .inl #[#[q,zY _],v b H p]
variable{jT jU CS CT CH CK CP CB:aj}
inductive Mc(jU:aj)(H:Hp)(x:Nat->aj)(e d:Nat->V)(a:Nat->aj)(c:Nat->Nat)(i:Nat):Prop
 |mk(b:_)(_:H (x i)\.ins jU b (WQ (e i) (d i) (a i) (c i)))
inductive WM(jT jU:aj):Sp
 |mk{S d lk D:aj}{N:Nat}{kvs lkv:List (ZY×V)}{ls:je}{rd:jj}{x ab:Nat->aj}{th tg vl:Nat->V}{ho:Nat->Nat}{H:Hp}{Q:VK}{E:XK}:
  Xj jT H S d lk N kvs ls->(∀ i∈rd,YU kvs (kI i)\.ref (x i)/\x i≠S)->(∀ i∈rd,Mc jU H x th tg ab ho i)->H D\.dK lkv->D≠d->lkv.map (·.1)=rd.map kI->rd.Nodup->(∀ i∈rd,YU lkv (kI i)\vl i)->(∀ i∈rd,∀ j∈rd,i≠j->x i≠x j) ->
  (∀ H',(∀ c o,(∀ i∈rd,c≠x i)->H c\o->H' c\o)->(∀ i∈rd,Mc jU H' x th vl ab ho i)->Q .non H')->WM jT jU [!S,!D] H Q E
abbrev O':jn:=["self","labels","number","twig"]
theorem Pv:ZC O' Td (Zc GN):=Zo
inductive CM(jU S D:aj)(o:aH)(lkv:List (ZY×V))(rd:jj)(x ab:Nat->aj)(th tg vl:Nat->V)(ho:Nat->Nat)(H:Hp):Nat->_T.St->Hp->Prop
 |mk{k:Nat}{y z:jf}{H2:Hp}:(∀ c o,(∀ i∈rd,c≠x i)->c≠D->H c\o->H2 c\o)->H2 D\.frz o (.dK lkv)->(∀ i∈rd.take k,Mc jU H2 x th vl ab ho i)->(∀ i∈rd.drop k,Mc jU H2 x th tg ab ho i) ->
  CM jU S D o lkv rd x ab th tg vl ho H k [Z' !S,Z' !D,y,z] H2
theorem w6(F:Zl K "give_labels" "Shelf.give_labels" GN f fd)(L:'d')(DT:'e'):-ZI ZJ 2 f fd Td (WM jT jU):=by
 show F.ko Pv λa9 A a8 s H vs Q E hr h=>?_;let#[R,hv,hl,I,a6,hk,a7,a3,hx,k]:=h;rename_i S d lk D N a5 m ls rd x ab th tg vl ho
 let nd:=Pv.nd;let hu:=LC hr;let ll:↑m=↑rd:=by have:=congrArg xG hk;simpa using this
 intro Xc;show#[_,ZR (u9 (Vi PassesOwn.never Z (sy (pv 1)) (VG 2 nd)
  (ZK (Zf 3 nd (Zs (E:=E0) (pv 0) L.cS DT hr Zn 'o'))
  (ZR (QK (pv 3) (Et hu (pv 1) (pv 2)) Z))))),?_]
 let#[#[dS,hS],hd,u]:=R;let gZ:∀ i∈rd,∃ g V,H (x i)\.ins jU g V:=λi a=>by
  let#[g,e]:=hl i a;show#[g,_,e]
 let nD:∀ i∈rd,x i≠D:=λi a=>by
  let#[g,V,e]:=gZ i a;show ZZ e I
 exists D,m,I,1,D,m,Z,I;intro o;show si (CM jU S D o m rd x ab th tg vl ho H) (.mk (λc X _ n e=>#v[ZU n,e]) Za (λi a=>by simp at a) (λi a=>?_)) (λi σ Y _ hP=>by let#[_,h2,_,_]:=hP;show h2) ?_ ?_
 .let#[g,e]:=hl i a;show#[g,#v[ZU (nD i a),e]]
 .rintro i p σ Y hp ⟨G,r,t,B⟩;let a:i<↑rd:=by rwa[<-ll,(yW.mp hp).1]
  let ep:p.1=kI rd[i]:=by
   have:=congrArg (λl=>l[i]?) hk;simp only[zK,hp,zT a] at this;show yV.inj this
  let er:rd[i]?\rd[i]:=zT a;let W:rd.drop i=rd[i]::rd.drop (i+1):=xH a;let et:rd.take (i+1)=rd.take i++[rd[i]]:=by rw[yR,er];rfl
  let U:rd=rd.take i++rd[i]::rd.drop (i+1):=by rw[<-W,wY]
  let J:rd[i]∈rd:=xK _;let v:=a7;rw[U,yO,yQ] at v;rw[ep];generalize rd[i]=b at W et U J v⊢;let nS:∀ j∈rd,S≠x j:=λj q=>(hv j q).2.symm;let T:∀(c:aj)(o:HO),H c\o->(∀ C g V,o≠.ins C g V)->∀ j∈rd,c≠x j:=λc o e n j q=>by
   let#[g,V,e2]:=gZ j q;show ZZ e e2 (n _ _ _)
  let M:=G _ _ nS (ZZ hS I) hS;let a0:=G _ _ (T _ _ hd #v[]) a6.symm hd
  let a2:=G _ _ (T _ _ u #v[]) (ZZ u I) u
  let#[g,a4]:=B b #v[W,zX]
  let a1:XV Y D (.int (b:Nat)) (Z' (vl b)):=.inl #[m,kI b,.inr #[o,r],Z,(a3 b J).symm];exists 1,S,dS,1,M,Z,1,S,d,lk,N,a5,ls,(b:Int),.ref (x b),Z,#[#[dS,M],a0,a2],(hv b J).1;exists 2,D,vl b,Z,a1,1,x b,jU,g,1,a4,L.cT,L.ntg,yS Z;let ne:∀ j∈rd,j≠b->x j≠x b:=λj q n=>hx j q b J n;show .mk (λc X n1 n2 e=>#v[ZU (n1 b J),G c X n1 n2 e]) #v[ZU (nD b J).symm,r] (λj q=>?_) (λj q=>?_)
  .rw[et] at q;by_cases z:j=b
   .subst z;show#[g,Za]
   .let O:j∈rd.take i:=(zM.mp q).elim id λy=>gS 'ð' z;let#[dj,ej]:=t j O;show#[dj,#v[ZU (ne j (sV O) z),ej]]
  .let z:j≠b:=λz=>v.2.1.1 (z▸q);let#[dj,ej]:=B j #v[W,zS _ q]
   show#[dj,#v[ZU (ne j (uH q) z),ej]]
 .rintro σ Y ⟨G,r,t,B⟩;rw[ll,zA (zY _)] at t;show#[o,m,r,k _ (λc X n e=>?_) λi a=>?_]
  .by_cases z:c=D
   .subst z;rw[Za,<-e,I]
   .rwa[ZU z,G c X n z e]
  .let#[g,e]:=t i a;show#[g,#v[ZU (nD i a),e]]
def O7(a:jr)(rd:jj)(n b:Nat)(c:Nat->aj):jr:=(yD ↑a).map λi=>if i∈rd then #[a[i]!.x,if i=n then b else a[i]!.th,c i,a[i]!.ab] else a[i]!
theorem Mz{a:jr}{rd:jj}{n own:Nat}{tg:Nat->aj}{i:Nat}(h:i<↑a):(O7 a rd n own tg).getD i .d=if i∈rd then #[a[i]!.x,if i=n then own else a[i]!.th,tg i,a[i]!.ab] else a[i]!:=by
 unfold O7;rw[zO,zK,List.getElem?_range h];rfl
structure LO(H:Hp)(lv:jj)(as as':jr):Prop where
 x:∀ i∈lv,as'[i]!.x=as[i]!.x
 ab:∀ i∈lv,as'[i]!.ab=as[i]!.ab
 th:∀ i∈lv,as'[i]!.th=as[i]!.th\/H as'[i]!.th=Y'
section
variable{jT jU:aj}{H H':Hp}{S d lk:aj}{lv:jj}{ts cur:jk}{rd:jj}{av:Nat->jj}{ho:Nat->Nat}{as:jr}{kvs:List (ZY×V)}{ls us:je}{n own:aj}{tg:Nat->aj}
theorem wo(R:Zm jT jU H S d lk lv ts av ho as kvs ls)(t:↑cur=↑ts)(hn:n∈rd)(s:∀ i∈rd,i∈lv)(J:H own=Y')(L:∀ c o,(∀ i∈rd,c≠as[i]!.x)->H c\o->H' c\o)(sh:∀ i,i≠n->(cur^i).bs=(ts^i).bs)(hh:∀ i,(cur^i).h=(ts^i).h)(E:∀ i,i∉rd->hJ cur i=hJ ts i)(D:∀ i∈rd,i≠n->(ts^i).h≠0)(A:∀ i∈rd,Mc jU H' (λi=>as[i]!.x) (λi=>.ref (if i=n then own else as[i]!.th)) (λi=>.ref (tg i)) (λi=>as[i]!.ab) ho i)(N:∀ i∈rd,YL H' (Zw (cur^i)) (.ref (tg i)))(B:H' own\.lst us)(h0:(cur^n).h=0->jO H' (YB (cur^n).rows) us)(h1:(cur^n).h≠0->us=iN (cur^n).bs):
  Zm jT jU H' S d lk lv cur av ho (O7 as rd n own tg) kvs ls/\LO H lv as (O7 as rd n own tg):=by
 let#[#[dS,hS],hd,V]:=R.sh;let gZ:∀ i:Nat,i∈lv->∃ g us,H as[i]!.x\.ins jU g us:=λi a=>by
  let#[g,e]:=(R.tw i a).tw.self;show#[g,_,e]
 let k:∀ c o,(∀ C g fs,o≠.ins C g fs)->H c\o->H' c\o:=λc o n e=>L c o (λi a=>by
  let#[g,us,I]:=gZ i (s i a);show ZZ e I (n _ _ _)) e
 let m:Z1 H H':=λc xs e=>k c _ #v[] e
 let u:∀ i:Nat,i∈lv->i<↑as:=λi a=>#v[R.len,R.lt i a]
 let F:∀ i:Nat,i∈lv->∃ us,H as[i]!.th\.lst us:=λi a=>by
  let#[us,e,_]:=(R.tw i a).things;show#[us,e]
 let r:∀ i:Nat,i∈lv->H as[i]!.ab\.lst (iN (av i)):=λi a=>(R.tw i a).tw.above;let v:∀ i:Nat,i∈lv->((O7 as rd n own tg).getD i .d).x=as[i]!.x:=λi a=>by rw[Mz (u i a)];split<;>rfl
 let b:∀ i:Nat,i∈lv->((O7 as rd n own tg).getD i .d).ab=as[i]!.ab:=λi a=>by rw[Mz (u i a)];split<;>rfl
 let f:∀ i:Nat,i∈lv->((O7 as rd n own tg).getD i .d).th=if i=n then own else as[i]!.th:=λi a=>by
  rw[Mz (u i a)];by_cases z:i∈rd
  .rw[aM z]
  .rw[aK z,aK (λy=>z #v[y,hn])]
 let l:∀ i:Nat,i∈lv->own≠as[i]!.th/\own≠as[i]!.ab:=λi a=>by
  let#[us,e]:=F i a;show#[(Zg e J).symm,(Zg (r i a) J).symm]
 let O:own≠lk:=(Zg V J).symm;show#[#[#[#[dS,#v[t,L _ _ (λi a=>(R.own i (s i a)).1.symm) hS]],k _ _ #v[] hd,k _ _ #v[] V],#v[t,R.lt],R.keys,λi a=>#v[v i a,R.val i a],by unfold O7;simp[R.len,t],λi a=>?_,λi a=>?_,λi j a p w=>?_],v,b,λi a=>?_]
 .let W:=R.tw i a;by_cases z:i∈rd
  .let e:=Mz (rd:=rd) (n:=n) (own:=own) (tg:=tg) (u i a);rw[aM z] at e;let#[g,U]:=A i z;exists ?_,?_
   .rwa[e,#[#[g,U],k _ _ #v[] (r i a)]]
   .rw[e];by_cases y:i=n
    .subst y;rwa[aM Z,#[us,B,h0,h1]]
    .rw[aK y];let#[T,e1,I,e3]:=W.things;let M:=D i z y;rwa[hh i,sh i y,#[T,k _ _ #v[] e1,λq=>gS q M,e3]]
   .rwa[e,N i z]
  .let e:=Mz (rd:=rd) (n:=n) (own:=own) (tg:=tg) (u i a);rw[aK z] at e;rw[e];let#[g,U]:=W.tw.self;let G:=W.frame m (λo e=>L _ _ (λj p=>(R.two i j a (s j p) λy=>z #v[y,p]).1) e) (λo e=>k _ _ (by let#[us,I]:=F i a;have:=e.symm|||I;cases this;intro _ _ _ z;cases z) e) (λo e=>k _ _ (by have:=e.symm|||r i a;cases this;intro _ _ _ z;cases z) e)
   exists G.tw,?_
   .rwa[E i z,G.things]
   .rwa[E i z,G.tag]
 .rw[v i a,b i a,f i a];let#[X,Y,o3,o4]:=R.own i a;by_cases y:i=n
  .rwa[aM y,#[X,Y,O,(l i a).2.symm]]
  .rwa[aK y,#[X,Y,o3,o4]]
 .rw[v i a,b i a,f i a,v j p,b j p,f j p];let#[P,Q,t3,t4]:=R.two i j a p w;by_cases y:i=n
  .let K:j≠n:=λz=>w (y|||z.symm);rwa[aM y,aK K,#[P,Q,t3,(l j p).1]]
  .rw[aK y];by_cases K:j=n
   .rwa[aM K,#[P,Q,(l i a).2.symm,(l i a).1.symm]]
   .rwa[aK K,#[P,Q,t3,t4]]
 .rw[f i a];by_cases y:i=n
  .rwa[aM y,.inr J]
  .rwa[aK y,.inl Z]
end
theorem vn{a:jy}(h:ZS (a.map V.int) b):PySem.W.kf_ints b=V'/\∀(i:Nat) n ,a[i]?\n->∃ t,b[i]?\.int n t:=by
 show#[?_,λi n e=>?_]
 .induction a generalizing b with
  |nil=>cases h;rfl
  |cons n a d=>
   cases h with
   |cons r t=>
    let#[f,rfl]:=r;rwa[PySem.W.kf_ints,d t]
 .let#[u,c,t,rfl]:=h.get (x:=.int n) (i:=i) (by rw[zK,e];rfl)
  show#[t,c]
inductive Oo(x:V)(c:je)(H:Hp)(Q:VK):Prop
 |mk(l:aj)(a:jy)(b:Int)(_:x=!l)(_:c=[-b])(_:H l\.lst 'Ħ')(_:b∈a)(_:Q .non (upd H l (.lst ((a.erase b).map V.int))))
theorem Gp:KI X "list.remove" Oo:=by
 intro D s Y H x V v U Q I R P h;let#[l,d,b,rfl,rfl,C,J,q]:=h;cases R;let#[u,rfl,O]:=P.one;let#[S,rfl]:=O;let#[z,c,n,r,T,e]:=I.lstM C;let#[N,o]:=vn r;let B:=List.idxOf_lt_length_of_mem J;let g:↑c=↑d:=by have:=↑r;rw[zW] at this;show this.symm
 let LJ:∀(m:Nat)(j:m<c.toArray.size)(k:Int),d[m]?\k->isInt b c.toArray[m]=gU (k=b):=λm j k K=>by
  let#[t,G]:=o m k K;have:c.toArray[m]?\Value.int k t:=#v[G]
  rw[wZ j] at this;rw[yV.inj this];change (k==b)=_;rw[wD];simp
 let f:d.idxOf b<c.toArray.size:=#v[zF,g,B]
 let M:c.toArray.size<=sizeLine:=by
  rw[zF,g];have:=z;rw[zW] at this;show this
 show call_meets F.slot_list_remove #[_,e,Z] F.entry_list_remove (F.args_list_remove_2 _ _) (MeetsSeq.list_remove l ⇑c n (.int b S) (isInt b) (λy L=>PySem.W.kf_eq N y #v[L]) (d.idxOf b) f ?_ (λm j w=>?_) M) #[e,?_]
 .rw[LJ _ f b (by rw[zT B,List.getElem_idxOf B])]
  show aJ Z
 .let A:m<↑d:=()
  rw[LJ m j d[m] (zT A)];have:=List.not_of_lt_findIdx (p:=(· == b)) (xs:=d) (i:=m) w;show aI λz=>by rw[z] at this;simp at this
 .let E:d.erase b=d.take (d.idxOf b)++d.drop (d.idxOf b+1):=by rw[List.erase_eq_eraseIdx_of_idxOf rfl,pY]
  show#[.non,_,I.lset (its':=c.take (d.idxOf b)++c.drop (d.idxOf b+1)) C e ?_ ?_ ?_,Z,q]
  .apply sF.mp;rw[Array.toList_eraseIdxIfInBounds,pY]
  .rwa[E,zH,uR,uS,(r.take _).append (r.drop _)]
  .rw[zW];have:=List.length_erase_le (l:=d) (a:=b);rw[zW] at z
   lia
variable{jT jU CS CT CH CK CP CB:aj}
section
variable{jT jU:aj}{H H':Hp}{S d lk:aj}{lv:jj}{ts:jk}{av:Nat->jj}{ho:Nat->Nat}{as:jr}{kvs:List (ZY×V)}{ls:je}{b:Nat}
theorem Zm.set1(R:Zm jT jU H S d lk lv ts av ho as kvs ls)(g:b∈lv)(B:∀ c,c≠b->av' c=av c)(C:∀ c,c≠b->ho' c=ho c)(F:∃ u,H' as[b]!.x\.ins jU u (WQ (.ref as[b]!.th) (.ref as[b]!.tg) as[b]!.ab (ho' b)))(E:H' as[b]!.ab\.lst (iN (av' b)))(k:∀ c o,c≠as[b]!.x->c≠as[b]!.ab->H c\o->H' c\o):Zm jT jU H' S d lk lv ts av' ho' as kvs ls:=by
 let#[#[t,r],n,s]:=R.sh;let h:=R.tw b g;let#[v,a]:=h.tw.self;let f:=h.tw.above;let#[L,q,y,A]:=h.things;let m:Z1 H H':=λc U e=>k c _ (ZZ e a) (ZZ e f) e;show#[#[#[t,k _ _ (R.own b g).1.symm (ZZ r f) r],k _ _ (ZZ n a) (ZZ n f) n,k _ _ (ZZ s a) (R.own b g).2.1.symm s],R.lt,R.keys,R.val,R.len,λi l=>?_,R.own,R.two];by_cases z:i=b
 .subst z;show#[#[F,E],#[L,k _ _ (ZZ q a) (R.own i l).2.2.2.symm q,λz=>(y z).mono m _ _,A],h.tag.mono m]
 .let j:=R.tw i l;let#[J,K,P,Q]:=R.two i b l g z;let#[M,N,I,O]:=R.two b i g l (Ne.symm z);let#[w,p]:=j.tw.self;let#[T,D,_]:=j.things;let G:=j.frame m (λo e=>k _ _ J (ZZ p f) e) (λo e=>k _ _ (ZZ D a) I.symm e) (λo e=>k _ _ (ZZ j.tw.above a) K e);show#[?_,G.things,G.tag];rwa[B i z,C i z,G.tw]
end
abbrev Iq:Stmt:=Xr (top 75) 22
theorem EO(l:jj)(b:Nat):(l.map λb:Nat=>(b:Int)).erase (b:Int)=(l.erase b).map λb:Nat=>(b:Int):=by
 induction l with
 |nil=>rfl
 |cons a l c=>
  by_cases z:a=b
  .subst z;simp
  .let d:¬ ((a:Int)=(b:Int)):=()
   rw[yX,List.erase_cons_tail #v[d],List.erase_cons_tail #v[z],c]
   rfl
noncomputable def WI(b:jj)(c:Nat)(a:Nat->jj):Nat->jj:=λi=>if i∈b then (a i).erase c else a i
noncomputable def Xq(b:jj)(a:Nat->Nat):Nat->Nat:=λi=>if i∈b then a i+1 else a i
inductive Y9(jT jU:aj):Sp
 |mk{S d n l:aj}{h:jj}{q:jk}{j:Nat->jj}{m:Nat->Nat}{a:jr}{g:List (ZY×V)}{p:je}{e:jj}{k:Nat}{H:Hp}{Q:VK}{E:XK}:
  Zm jT jU H S d n h q j m a g p->H l\.lst (iN e)->e.Nodup->(∀ b∈e,b∈h/\k∈j b)->(∀ b:Nat,b∈h->l≠a[b]!.ab) ->
  (∀ i:Hp,(∀ c o,(∀ b:Nat,b∈h->c≠a[b]!.x/\c≠a[b]!.ab)->H c\o->i c\o)->Zm jT jU i S d n h q (WI e k j) (Xq e m) a g p->Q .non i)->Y9 jT jU [!S,.int (k:Nat),!l] H Q E
theorem VL:ZC Gi TD (Zc Iq):=Zo
inductive FU(jT jU S d lk l:aj)(lv:jj)(ts:jk)(av:Nat->jj)(ho:Nat->Nat)(as:jr)(kvs:List (ZY×V))(ls:je)(bs:jj)(st:Nat)(H:Hp):Nat->_T.St->Hp->Prop
 |mk{i:Nat}{x y:jf}{H2:Hp}:(∀ c o,(∀ b:Nat,b∈lv->c≠as[b]!.x/\c≠as[b]!.ab)->H c\o->H2 c\o)->Zm jT jU H2 S d lk lv ts (WI (bs.take i) st av) (Xq (bs.take i) ho) as kvs ls ->
  FU jT jU S d lk l lv ts av ho as kvs ls bs st H i [Z' !S,Z' (.int (st:Nat)),Z' !l,x,y] H2
theorem kB(F:Zl K "give_back" "Shelf.give_back" Iq f fd)(L:'d')(DT:'e'):-ZI ZJ 2 f fd TD (Y9 jT jU):=by
 show F.ko VL λa4 A a3 s H vs Q E hr h=>?_;let#[R,hl,N,W,a1,k]:=h;rename_i S d lk l lv ts q m g T ls j I
 let nd:=VL.nd;intro Xc;show#[_,ZR (Vi PassesOwn.never Z 'Ō' 'Ũ'
  (ZK (Zf 4 nd (Zs (E:=E0) (pv 0) L.cS DT hr Zn 'z'))
  (ZK (Mp (pv 4) ZM Fq)
  (ZR (YF (QG xQ qG qC Gp (XS (pv 4) Z) 'f')))))),?_]
 show#[1,l,Z,#[_,ZF.of hl],OB (K:=K) (a:=l) (xs:=iN j) (FU jT jU S d lk l lv ts q m g T ls j I H)
  (.mk (λc o _ e=>e) (by
   let e1:WI [] I q=q:=funext λi=>aK ⋯
   let e2:Xq [] m=m:=funext λi=>aK ⋯
   rwa[show j.take 0=[] from Z,e1,e2,R])) ?_ ?_ ?_]
 .rintro i σ v _ ⟨O,R2⟩;show ZF.of (O _ _ (λb W=>#[?_,a1 b W]) hl);let#[dx,J]:=(R.tw b W).tw.self;show ZZ hl J
 .rintro i u σ v C ⟨O,R2⟩;unfold iN at C;rw[zK] at C;let#[b,Y,rfl]:=xU.mp C;let#[t,a2]:=W b (zG Y);let M:b∉j.take i:=λz=>by
   let hs:j=j.take i++b::j.drop (i+1):=by
    let#[hi,e]:=yW.mp Y;rw[<-e,<-xH hi,wY]
   rw[hs,yO] at N;show N.2.2 b z b ⋯ Z
  let a0:Xq (j.take i) m b=m b:=aK M;let X:WI (j.take i) I q b=q b:=aK M;let#[dS,hS]:=R2.sh.self;let Wb:=R2.tw b t;let#[r,J]:=Wb.tw.self;let B:=Wb.tw.above;rw[a0] at J;rw[X] at B;exists 1,S,dS,1,hS,Z,1,S,d,lk,↑ts,T,ls,(b:Int),.ref g[b]!.x,Z,R2.sh,R2.val b t;exists 1,g[b]!.x,jU,r,_,.int (m b:Nat),Z,J,L.cT,L.nho,Z,_,1,Z,r,_,J,yS Z;let D:upd v g[b]!.x (.ins jU r (YW "holds" (.int (((m b:Nat):Int)+1)) (WQ (.ref g[b]!.th) (.ref g[b]!.tg) g[b]!.ab (m b)))) g[b]!.x\.ins jU r (WQ (.ref g[b]!.th) (.ref g[b]!.tg) g[b]!.ab (m b+1)):=by rw[Za];rfl
  let U:g[b]!.ab≠g[b]!.x:=ZZ B J;let p:upd v g[b]!.x (.ins jU r (YW "holds" (.int (((m b:Nat):Int)+1)) (WQ (.ref g[b]!.th) (.ref g[b]!.tg) g[b]!.ab (m b)))) g[b]!.ab\.lst (iN (q b)):=#v[ZU U,B]
  let G:∀ c o,c≠g[b]!.x->v c\o->upd v g[b]!.x (.ins jU r (YW "holds" (.int (((m b:Nat):Int)+1)) (WQ (.ref g[b]!.th) (.ref g[b]!.tg) g[b]!.ab (m b)))) c\o:=λc o n e=>#v[ZU n,e]
  generalize upd v g[b]!.x (.ins jU r (YW "holds" (.int (((m b:Nat):Int)+1)) (WQ (.ref g[b]!.th) (.ref g[b]!.tg) g[b]!.ab (m b))))=H3 at D p G⊢;exists 1,g[b]!.x,jU,r,_,.ref g[b]!.ab,Z,D,L.cT,L.nab,Z,.inl #[Z,_,ZF.of p],1,g[b]!.ab,(q b).map λb:Nat=>(b:Int),(I:Nat),Z,Z,by rwa[<-Ki,p],zQ.mpr #[I,a2,Z]
  rw[EO,<-Ki];let V:j.take (i+1)=j.take i++[b]:=by rw[yR,Y];rfl
  show .mk (λc o hc e=>?_) ?_
  .let#[n1,n2]:=hc b t;rwa[ZU n2,G _ _ n1 (O c o hc e)]
  .show R2.set1 t (λc n=>?_) (λc n=>?_) #[r,?_] ?_ λc o n1 n2 e=>?_
   .unfold WI;rw[V];by_cases z:c∈j.take i
    .rw[aM z,aM (zL _ z)]
    .rw[aK z,aK (λy=>(zM.mp y).elim z λy=>n 'ð')]
   .unfold Xq;rw[V];by_cases z:c∈j.take i
    .rw[aM z,aM (zL _ z)]
    .rw[aK z,aK (λy=>(zM.mp y).elim z λy=>n 'ð')]
   .rwa[ZU (Ne.symm U),show Xq (j.take (i+1)) m b=m b+1 from aM (by rw[V];simp),D]
   .rw[Za,show WI (j.take (i+1)) I q b=(q b).erase I from aM (by rw[V];simp)]
   .rwa[ZU n2,G _ _ n1 e]
 .rintro σ v ⟨O,R2⟩;rw[show ↑(iN j)=↑j from zW _,zA (zY _)] at R2;show k v O R2
theorem YV.nodup(f:WF gt b)(e:r∈gt){A B:jl}(z:YV b r a j A B):a.Nodup:=by
 induction z with
 |root=>simp
 |down k d c h i g=>
  show yQ.mpr #[λy=>?_,g];have:=((k.down d c h i).facts f e Z).2.1 _ y
  lia
structure On(jT jU:aj)(H:Hp)(S d lk:aj)(lv:jj)(ts:jk)(av:Nat->jj)(ho:Nat->Nat)(as:jr)(kvs:List (ZY×V))(ls:je)(r:Nat):Prop where
 sh:Zm jT jU H S d lk lv ts av ho as kvs ls
 wf:WF lv ts
 hr:r∈lv
 avk:Ho lv ts av
section
variable{jT jU:aj}{lv:jj}{H H7:Hp}{S d lk:aj}{ts cur:jk}{av:Nat->jj}{ho:Nat->Nat}{as:jr}{kvs lkv:List (ZY×V)}{ls us:je}{r n:Nat}{up ps:jj}{A B T:jl}{t:ZO}{own D dt:aj}
theorem Fb(O:On jT jU H S d lk lv ts av ho as kvs ls r)(z:YV ts r (n::up) ps A B)(C:'Ě')(s7:ZE H H7)(hx7:H7 as[n]!.x\.ins jU dt (WQ (.ref as[n]!.th) (.ref as[n]!.tg) as[n]!.ab (ho n)))(hD7:H7 D\.dK lkv)(nD:H D=Y')(hlb:Pb H7 cur (n::up) lkv)(no:H own=Y')(hown:H7 own\.lst us)(h0:t.h=0->jO H7 (YB t.rows) us)(h1:t.h≠0->us=iN t.bs){E:XK}(k:∀  H9   as' ,(∀ c o,(∀ i,i∈lv->c≠as[i]!.x)->H7 c\o->H9 c\o)->Zm jT jU H9 S d lk lv cur av ho as' kvs ls->LO H lv as as'->Q .non H9):
  WM jT jU [!S,!D] (upd H7 as[n]!.x (.ins jU dt (YW "things" (!own) (WQ (.ref as[n]!.th) (.ref as[n]!.tg) as[n]!.ab (ho n))))) Q E:=by
 let R:=O.sh;let R7:=R.same s7;let#[dS7,hS7]:=R7.sh.self;let#[hn,fu,_,_]:=z.facts O.wf O.hr Z;let f3:=z.nodup O.wf O.hr;let nl:∀ i∈n::up,i∈lv:=λi hi=>(zU.mp hi).elim (λy=>y▸hn) λy=>(fu i y).1;let fr8:∀ c o,c≠as[n]!.x->H7 c\o->upd H7 as[n]!.x (.ins jU dt (YW "things" (!own) (WQ (.ref as[n]!.th) (.ref as[n]!.tg) as[n]!.ab (ho n)))) c\o:=λc o n e=>#v[ZU n,e]
 let hx8:upd H7 as[n]!.x (.ins jU dt (YW "things" (!own) (WQ (.ref as[n]!.th) (.ref as[n]!.tg) as[n]!.ab (ho n)))) as[n]!.x\.ins jU dt (WQ (!own) (.ref as[n]!.tg) as[n]!.ab (ho n)):=Za;generalize upd H7 as[n]!.x (.ins jU dt (YW "things" (!own) (WQ (.ref as[n]!.th) (.ref as[n]!.tg) as[n]!.ab (ho n))))=H8 at fr8 hx8⊢
 let' tgv:Nat->Addr:=λi=>match YU lkv (kI i) with|some (!a)=>a|_=>0
 let htv:∀ i∈n::up,YU lkv (kI i)\.ref (tgv i)/\YL H7 (Zw (cur^i)) (.ref (tgv i)):=λi hi=>by
  let#[v',e',k']:=hlb.at_ i hi;let#[a,b1,b2,rfl,b3]:=id k';have:tgv i=a:=by change (match YU lkv (kI i) with|some (!a)=>a|_=>0)=a;rw[e']
  rwa[this,#[e',k']]
 let nS:∀ i∈n::up,as[i]!.x≠S:=λi hi=>(R.own i 'Ĝ').1;let hS8:=fr8 _ _ (nS n zX).symm hS7;let hd8:=fr8 _ _ (ZZ R7.sh.kept hx7) R7.sh.kept;let hl8:=fr8 _ _ (ZZ R7.sh.looks hx7) R7.sh.looks;let hD8:=fr8 _ _ (ZZ hD7 hx7) hD7;show .mk (rd:=n::up) (x:=λi=>as[i]!.x) (ab:=λi=>as[i]!.ab) (th:=λi=>.ref (if i=n then own else as[i]!.th)) (tg:=λi=>.ref as[i]!.tg) (vl:=λi=>.ref (tgv i)) (ho:=ho) #[#[dS7,hS8],hd8,hl8] (λi hi=>#[R.val i 'Ĝ',nS i hi]) (λi hi=>?_) hD8 (Zg R.sh.kept nD).symm hlb.keys f3 (λi hi=>(htv i hi).1) (λi hi j hj n'=>(R.two i j 'Ĝ' (nl j hj) n').1) λH9 fr9 hl9=>?_
 .by_cases z:i=n
  .subst z;show#[dt,by(try dsimp only);rwa[aM Z,hx8]]
  .let#[dx,e]:=(R7.tw i 'Ĝ').tw.self;show#[dx,by(try dsimp only);rwa[aK z,fr8 _ _ (R.two i n 'Ĝ' hn z).1 e]]
 let fr79:∀ c o,(∀ i∈n::up,c≠as[i]!.x)->H7 c\o->H9 c\o:=λc o n1 e=>fr9 c o n1 (fr8 c o (n1 n zX) e);let k79:∀ c o,(∀ C dx fs,o≠.ins C dx fs)->H7 c\o->H9 c\o:=λc o n1 e=>fr79 c o (λi hi=>by
  let#[dx,e2]:=(R7.tw i 'Ĝ').tw.self;show ZZ e e2 (n1 _ _ _)) e
 let m79:Z1 H7 H9:=λc xs e=>k79 c _ #v[] e
 let#[R9,A9]:=wo (cur:=cur) (rd:=n::up) (n:=n) (own:=own) (tg:=tgv) (us:=us) (H':=H9) R C.len zX nl no (λc o n1 e=>fr79 c o n1 (s7 _ _ e)) C.sh C.hh C.old (λi hi z=>by have:=(fu i ((zU.mp hi).resolve_left z)).2;lia (splits:=8)) hl9 (λi hi=>(htv i hi).2.mono m79) (k79 _ _ #v[] hown) (λy=>by rw[C.at_] at y⊢;show(h0 y).mono m79 _ _) (λy=>by rw[C.at_] at y⊢;show h1 y)
 show k H9 _ (λc o n1 e=>fr79 c o (λi hi=>n1 i 'Ĝ') e) R9 A9
end
abbrev Jf:Stmt:=Xr (top 75) 10
inductive Yv(jT jU:aj):Sp
 |mk{S d lk l:aj}{lv:jj}{ts:jk}{av:Nat->jj}{ho:Nat->Nat}{as:jr}{kvs:List (ZY×V)}{ls us:je}{r n:Nat}{rr:jl}{up ps:jj}{A B T:jl}{cur:jk}{H:Hp}{Q:VK}{E:XK}:
  On jT jU H S d lk lv ts av ho as kvs ls r->YV ts r (n::up) ps A B->Rd lv av ho n (n::up)->↑up<=800->H l\.lst us->jO H (YB rr) us->OT rr->(ts^n).h=0->Q3 lv (ts.set n (Xo rr)) up cur->Ow lv ts cur r n up (Xo rr) T ->
  (∀(H':Hp)(as':jr),(∀ c o,(∀ i:Nat,i∈lv->c≠as[i]!.x)->H c\o->H' c\o)->Zm jT jU H' S d lk lv cur av ho as' kvs ls->LO H lv as as'->Q .non H') ->
  Yv jT jU [!S,.int (n:Nat),!l] H Q E
abbrev vb:jn:=["self","number","rows","twig","road","own","labels"]
theorem Uw:ZC vb Tn (Zc Jf):=Zo
theorem Be(F:Zl K "change_leaf" "Shelf.change_leaf" Jf f fd)(L:'d')(DT:'e')(DI:'7')(DR:'ě')(DC:-ZA 9 "checked_rows" TX Xv)(DU:'ĩ')(DL:-ZA 1 "label_of_rows" TX Xe)(DG:'Ĥ'):
  ZI P w K mg jW ZJ 11 f fd Tn (Yv jT jU):=by
 show F.ok Uw 'a' (λc6 A c2 s H vs Q E u h=>?_)
 induction h
 rename_i S d lk l lv ts av ho p c1 ls us r n rr up ps A B T c7 H Q E O z c4 u8 hl a6 G h0 ch C J
 let X:=Uw.nd;let j:=u.mono (show 1<=10 by lia)
 let a7:=u.mono (show 2<=10 by lia)
 let a8:=u.mono (show 3<=10 by lia)
 let a9:=u.mono (show 9<=10 by lia)
 intro Xc;show#[_,ZK (Zf 3 X (Zs (E:=E0) (pv 0) L.cS DT j Zn (ZQ (pv 1))))
  (ZK (Z4 (Xk (Zd DI j 'z')) U4 Z6)
  (ZK (Zf 4 X (Zs (E:=E0) (pv 0) L.cS DR a8 Dh 'f'))
  (ZK (Zf 5 X (Zd DC a9 'o'))
  (ZK (AL (ZR (Zf 6 X (Zs (E:=E0) (pv 0) L.cS DU u Zn (Zu (pv 4) (Zd DL j (ZQ (pv 5))))))))
  (ZK (QK (pv 3) (pv 5) Z)
  (ZR (YF (Zs (E:=E0) (pv 0) L.cS DG a7 Zn 'ň')))))))),?_]
 let R:=O.sh;let#[t,fu,_,_]:=z.facts O.wf O.hr Z;let#[dS,hS]:=R.sh.self;let W:=R.tw n t;let#[c5,e0,c9,b,c0,_,_]:=id W.tag;let b:p[n]!.tg=c5:=V.ref.inj b;exists 1,S,dS,1,hS,Z,1,S,d,lk,↑ts,c1,ls,(n:Int),.ref p[n]!.x,Z,R.sh,R.val n t;exists 1,p[n]!.x,_,p[n]!.tg,_,_,_,_,1,W.tw,#v[b,c0],_,Z
 rw[aI (show ¬ (Zw (ts^n)).h>0 by change ¬ ((ts^n).h:Int)>0;lia)]
 show Zq ?_;show#[1,S,dS,1,hS,Z,1,.mk R (c4) (by rw[zN];lia) λq H1 Y nq hq=>?_]
 exists 1,l,us,rr,Z,Y _ _ hl,a6.sm Y,G;intro H2 c3 U s2 M a hk;let N:=Y|||s2;let R2:=R.same N;let#[a1,a4]:=R2.sh.self;let lu:↑U=↑rr:=by have:=↑hk;rwa[<-this,zW _]
 exists 1,S,a1,1,a4,Z,2,c3,U,rr.map (·.1),Z,a,BQ hk,#v[lu,G.2.1]
 intro H3 v s3 kv;rw[<-FF] at kv;let k:=N|||s3;show .mk (R.same k) t (z.nodup O.wf O.hr) (λi hi=>#[(fu i hi).1,by have:=(fu i hi).2;lia]) u8 ((s2|||s3) _ _ hq) ch (Gw kv) λH4 D c8 s4 nD hD hb=>?_
 let m:=k|||s4;let R4:=R.same m;let#[a2,a5]:=R4.sh.self;let#[a3,I]:=(R4.tw n t).tw.self;let g:=(s3|||s4) _ _ a;exists 2,p[n]!.x,jU,a3,1,I,L.cT,L.nth,yS Z;show#[1,S,a2,1,#v[ZU (R.own n t).1.symm,a5],Z,1,Fb O z C m I hD (k.free nD) hb (Y.free M) g (λ_=>hk.sm (s3|||s4)) (λy=>gS Z y) λH9 a0 fr R9 A9=>?_]
 show J H9 a0 (λc o n1 e=>fr c o n1 (m _ _ e)) R9 A9
theorem Rc(x)(l):MP (.int (x:Nat)) (iN l)=gU (x∈l):=by
 unfold MP iN;rw[List.any_map]
 induction l with
 |nil=>rfl
 |cons n l a=>
  rw[wA,a];let e:((λy=>P2 y (V.int (x:Nat))) ∘ λb:Nat=>V.int (b:Nat)) n=gU (n=x):=by
   change P2 (.int (n:Nat)) (.int (x:Nat))=_;rw[wD];simp[P2]
   lia
  rw[e];by_cases h:n=x
  .subst h;simp
  .have:¬ x=n:=λz=>h z.symm;simp[h,this]
theorem Dk(l):(iN l).all Oq=V':=by
 unfold iN;rwa[uD,yM.mpr λ_ _=>rfl]
theorem GV{w:jj}{A:_T.St}(e)(p:Nat->Bool)(F:↑e<=900)(s:∀ i a,ZE H a->i<↑e->J.go i a)(E:∀ i a x b,ZE H a->i<↑e->J.yld i a x b->b=a/\(iN e)[i]?\x)(h:∀ a,ZE H a->J.stop ↑e a)(o:∀ a n  R ,n∈e->ZE H a->R (p n) a->y (OE A w (.int (n:Nat))) a R)(r:∀  D   a ,ZE H a->H D=Y'->a D\.lst (iN (e.filter p))->Q (!D) a):Wj J A w y (QX 0) H Q:=by
 show kP (n:=↑e) (λi z=>(iN e)[i]?\z) (λz=>match z with|.int n=>p n.toNat|_=>false) (λD i f b=>ZE H b/\H D=Y'/\f=iN ((e.take i).filter p)) (Yq ())
  (λD i f b j c=>s i b c.1 j) (λD i f b z B j c u=>E i b z B c.1 j u) (λD f b c=>h b c.1)
  (λD v=>#[Zv v _,v,Z]) (λD i f b z j d c R C=>?_) (λD i f b z q j d t c=>?_) (λD i f b z q j d t c=>?_) (λD f b q c=>?_)
 .unfold iN at d;rw[zK] at d;let#[n,l,rfl]:=xU.mp d;show o b n R (zG l) c.1 C
 .let#[m,k,rfl]:=c;unfold iN at d;rw[zK] at d;let#[n,l,rfl]:=xU.mp d;exists UW m k,k;let g:p n=V':=t;rw[yR,l,yB];simp[g,iN]
 .let#[m,k,rfl]:=c;unfold iN at d;rw[zK] at d;let#[n,l,rfl]:=xU.mp d;exists m,k;let g:p n=false:=t;rw[yR,l,yB];simp[g]
 .let#[m,k,rfl]:=c;rw[zA (zY _)] at q;show r D b m k q
theorem FW{K:zZ}{p:aj}{c cs:jj}{o:_T.St}{m:jj}{H:Hp}{n:TT}{Q:VK}(q:↑c<=900)(f:H p\.lst (iN c))(e:∀ (a:Hp) (j:Nat) (R:Bool->Hp->Prop),j∈c->ZE H a->R (gU (j∉cs)) a->n (OE o m (.int (j:Nat))) a R)(k:∀ (D:aj) (a:Hp),ZE H a->H D=Y'->a D\.lst (iN (c.filter λb=>gU (b∉cs)))->Q (!D) a):Wj (Os K p) o m n (QX 0) H Q:=
 GV c (λj=>gU (j∉cs)) q (λi g d h=>#[_,.int (c[i]:Nat),ZF.of (d _ _ f),by simp[iN,zT h]]) (λi g x r d h l=>#[l.1,l.2 _ (ZF.of (d _ _ f))]) (λg d=>#[_,ZF.of (d _ _ f),by simp[iN]]) e k
theorem Co(x)(l):(if true=V' then !MP (.int (x:Nat)) (iN l) else MP (.int (x:Nat)) (iN l))=gU (x∉l):=by
 rw[aM rfl,Rc,decide_not]
def Y1(c:jk)(n:Nat)(a:jj):jj:=a.filter λb=>gU (b∉(c^n).bs)
def XH(c:jk)(n:Nat)(a:jj):jj:=(c^n).bs.filter λb=>gU (b∉a)
def Vr(b:jk)(n:Nat)(a:jj)(c:Nat->jj):Nat->jj:=WI (XH b n a) n (Yb (Y1 b n a) n c)
def Vu(b:jk)(n:Nat)(a:jj)(c:Nat->Nat):Nat->Nat:=Xq (XH b n a) (Wn (Y1 b n a) c)
theorem Yo(h:H p=Y')(o):∃ a,_T.upd H p o=a/\ZE H a/\a p\o:=#[1,Zv h o,Za]
theorem UN(g:WF gt c)(f:j∈gt)(d:(c^j).h≠0):(c^j).bs.Nodup:=(Ck g f d).imp fun{a b} h e=>by erw[e,UI] at h
abbrev JM:Stmt:=Xr (top 75) 11
inductive Y0(jT jU:aj):Sp
 |mk{S d v l:aj}{g:jj}{a:jk}{s:Nat->jj}{t:Nat->Nat}{q:jr}{m:List (ZY×V)}{y:je}{r n:Nat}{e p z:jj}{A B T:jl}{j:jk}{H:Hp}{Q:VK}{E:XK}:
  On jT jU H S d v g a s t q m y r->YV a r (n::p) z A B->Rd g s t n (n::p)->↑p<=800->H l\.lst (iN e)->(∀ b∈e,b∈g)->↑e<=4->gX (YI a e)\Zw (YE a e)->(YE a e).h=(a^n).h->e.Nodup->(∀ b∈Y1 a n e,1<=t b/\↑(s b)<=800)->Q3 g (a.set n (YE a e)) p j->Ow g a j r n p (YE a e) T ->
  (∀(u:Hp)(k:jr),(∀ c o,(∀ i:Nat,i∈g->c≠q[i]!.x/\c≠q[i]!.ab)->H c\o->u c\o)->Zm jT jU u S d v g j (Vr a n e s) (Vu a n e t) k m y->LO H g q k->Q .non u) ->
  Y0 jT jU [!S,.int (n:Nat),!l] H Q E
abbrev uu:jn:=["self","number","numbers","twig","road","old","branches","label","labels","new"]
theorem Uq:ZC uu TJ (Zc JM):=Zo
theorem Ah(F:Zl K "change_stem" "Shelf.change_stem" JM f fd)(T:YM mg)(L:'d')(DT:'e')(DI:'7')(DR:'ě')(DL:'ĳ')(DO:'ă')(DU:'ĩ')(DC:'r')(DG:'Ĥ')(DK:'Ĵ')(DB:-ZB ZJ 2 jT "give_back" TD (Y9 jT jU)):
  ZI P w K mg jW ZJ 11 f fd TJ (Y0 jT jU):=by
 show F.ok Uq 'a' (λo3 A n6 s H vs Q E hr h=>?_)
 induction h
 rename_i S d lk l lv g av ho k Y ls r n t up ps A B T0 i9 H Q E O z n7 u8 hl hb b4 m5 c5 i8 tp ch C kY
 let nd:=Uq.nd;let#[t0,m0]:=T.height;let e4:=hr.mono (show 1<=10 by lia)
 let c3:=hr.mono (show 2<=10 by lia)
 let c4:=hr.mono (show 3<=10 by lia)
 let m7:=hr.mono (show 9<=10 by lia)
 intro Xc;show#[_,ZK (Zf 3 nd (Zs (E:=E0) (pv 0) L.cS DT e4 Zn (ZQ (pv 1))))
  (ZK (Z4 (OA (Xk (Zd DI e4 'z'))) U4 Z6)
  (ZK (Zf 4 nd (Zs (E:=E0) (pv 0) L.cS DR c4 Dh 'f'))
  (ZK (Na (i:=5) nd Z 'Ē' (XS (pv 3) Z))
  (ZK (Na (i:=6) nd Z 'Ē' (UZ Nv Z T.list OU 'o'))
  (ZK (Zf 7 nd (Zd DO m7 (ZQ (Zs (E:=E0) (pv 0) L.cS DL c4 Zn 'ň'))))
  (ZK (Z4 (YO Nh (Zy K (pv 7) (Xp (v:=.int 0) Z m0 #[_,Z])) (Zy K (XS (pv 3) Z) (Xp (v:=.int 0) Z m0 #[_,Z])) (Z9 _)) U4 Z6)
  (ZK (Zf 8 nd (Zs (E:=E0) (pv 0) L.cS DU hr Zn (Zu (pv 4) (pv 7))))
  (ZK (Me (i:=9) [5] ["old"] nd Z Z Z (WJ (pv 6)) (λ_ _ _ _ _=>Oy (YO (r:=Iu K true) CW (pv 0) (pv 1) Z)) (λ_ _ _ _ _=>pv 0) #[Z,.inl Z,Z,trivial])
  (ZK (YF (Zs (E:=E0) (pv 0) L.cS DC c4 Zn (ZQ (pv 9))))
  (ZK (QK (pv 3) (pv 6) Z)
  (ZK (YF (Zs (E:=E0) (pv 0) L.cS DG c3 Zn (ZQ (pv 8))))
  (ZK (YF (Zs (E:=E0) (pv 0) L.cS DK c3 Zn (Zu (pv 1) (pv 9))))
  (ZR (YF (Zs (E:=E0) (pv 0) L.cS DB c3 Zn (Zu (pv 1) (Vt [6] ["branches"] Z (WJ (pv 5)) (λ_ _ _ _ _=>Oy (YO (r:=Iu K true) CW (pv 0) (pv 1) Z)) (λ_ _ _ _ _=>pv 0) #[Z,.inl Z,Z,trivial]))))))))))))))))),?_]
 let R:=O.sh;let#[u,fu,_,_]:=z.facts O.wf O.hr Z;let h0:(g^n).h≠0:=by rwa[<-c5,Nat.succ_ne_zero _]
 let#[dS,hS]:=R.sh.self;let W:=R.tw n u;let#[n9,p1,p0,U,e5,_,_]:=id W.tag;let U:k[n]!.tg=n9:=V.ref.inj U;exists 1,S,dS,1,hS,Z,1,S,d,lk,↑g,Y,ls,(n:Int),.ref k[n]!.x,Z,R.sh,R.val n u;exists 1,k[n]!.x,_,k[n]!.tg,_,_,_,_,1,W.tw,#v[U,e5],_,Z
 rw[aJ (show (Zw (g^n)).h>0 by change ((g^n).h:Int)>0;lia)]
 show Zq ?_;show#[1,S,dS,1,hS,Z,1,.mk R (n7) (by rw[zN];lia) λq H1 s1 nq hq=>?_]
 let R1:=R.same s1;let#[l3,n0]:=(R1.tw n u).tw.self;exists 1,k[n]!.x,jU,l3,_,.ref k[n]!.th,Z,n0,L.cT,L.nth,Z;exists 1,l,iN t,Z,.inl (ZF.of (s1 _ _ hl));intro a0 a7;let#[H2,eU,g2,a5]:=Yo a7 (.lst (iN t));rw[eU];let s2:=s1|||g2;let M:H a0=Y':=s1.free a7;let R2:=R.same s2;let#[l0,l9]:=R2.sh.self;exists 1,S,l0,1,l9,Z,1,S,d,lk,a0,lv,g,av,ho,k,Y,ls,t,Z,R2,a5,hb,by lia
 intro D2 us H3 s3 o7 l6 m3;let n8:=s2|||s3;exists D2,us,YI g t,1,l6,m3,Dl O.wf hb,m5;intro H4 v s4 kv;let a1:=n8|||s4;let R4:=R.same a1;let kl:=Ml kv;let#[tl,o9,o8,rfl,m8,o5,o4]:=id kl;let#[l4,n3]:=(R4.tw n u).tw.self;let e6:=a1 _ _ e5;show#[1,.inr (.inl #[tl,_,_,.int (Zw (YE g t)).h,Z,Z,Zp.of m8,Yf (j:=0) Z,_,Z,k[n]!.x,jU,l4,_,.ref k[n]!.tg,Z,n3,L.cT,L.ntg,Z,.inr (.inl #[k[n]!.tg,_,_,.int (Zw (g^n)).h,Z,Z,Zp.of #v[U,e6],Yf (j:=0) Z,Z,_,Z,?_])])]
 let hh:(Zw (YE g t)).h=(Zw (g^n)).h:=by change (((YE g t).h:Nat):Int)=(((g^n).h:Nat):Int);rw[c5]
 let e:(!gU (V.int (Zw (YE g t)).h=V.int (Zw (g^n)).h))=false:=by rw[aJ (congrArg V.int hh)];rfl
 rw[e];show Zq ?_;let#[l1,m1]:=R4.sh.self;let m6:=((g2|||s3)|||s4) _ _ hq;show#[1,S,l1,1,m1,Z,2,.mk R4 u (z.nodup O.wf O.hr) (λi hi=>#[(fu i hi).1,by have:=(fu i hi).2;lia]) u8 m6 ch kl λH5 D o6 s5 nD hD m4=>?_]
 let a2:=a1|||s5;let R5:=R.same a2;let p:=((s3|||s4)|||s5) _ _ a5;let#[ws,a6,_,c0]:=W.things;let c0:=c0 h0;subst c0;let e7:=a2 _ _ a6;let o2:↑(g^n).bs<=4:=((O.wf n u).stem h0).2.1;show#[1,a0,Z,#[_,ZF.of p],FW (cs:=(g^n).bs) () p (λHq j Rq hj sq hR=>#[2,k[n]!.th,1,.inl (ZF.of (sq _ _ e7)),Z,Dk _,1,#v[Co,hR]]) λLW H7 s6 n5 c9=>?_]
 let a3:=a2|||s6;let i0:H LW=Y':=a2.free n5;let R7:=R.same a3;let#[a9,c1]:=R7.sh.self;let i1:∀ b∈Y1 g n t,b∈lv:=λb h=>hb b (yH.mp h).1;exists 1,S,a9,1,c1,Z,1,S,LW,(Y1 g n t).map (λb:Nat=>(b:Int)),Z,by rwa[<-Ki,c9],#[a9,_,c1,Z],λm hm=>?_
 .let#[b,a,rfl]:=zQ.mp hm;let e3:=i1 b a;show#[d,lk,↑g,Y,ls,_,_,_,_,_,_,#[R7.sh,R7.val b e3,(R7.tw b e3).tw],(tp b a).1]
 let#[l5,e9]:=(R7.tw n u).tw.self;let G:=s6 _ _ p;let l7:=s6 _ _ hD;exists 2,k[n]!.x,jU,l5,1,e9,L.cT,L.nth,yS Z;show#[1,S,a9,1,#v[ZU (R.own n u).1.symm,c1],Z,1,Fb O z C a3 e9 l7 (a1.free nD) (m4.mono (ZE.tups s6)) M G (λy=>gS y #v[c5,h0]) (λ_=>rfl) λH9 N fr R9 A9=>?_]
 let c6:∀ c o,(∀ C dx fs,o≠.ins C dx fs)->H7 c\o->H9 c\o:=λc o n1 e=>fr c o (λi hi=>by
  let#[dx,e2]:=(R7.tw i hi).tw.self;show ZZ e e2 (n1 _ _ _)) e
 let e0:=c6 _ _ #v[] c9
 let#[l2,m2]:=R9.sh.self;show#[1,S,l2,1,m2,Z,2,S,d,lk,LW,lv,i9,av,ho,N,Y,ls,Y1 g n t,n,Z,R9,e0,i8.sublist xB,λb a=>#[i1 b a,(tp b a).1,by have:=(tp b a).2;lia],λb a=>?_,λi4 a4 o0 a8=>?_]
 .rwa[A9.ab b a,(Zg (R.tw b a).tw.above i0).symm]
 let e8:=c6 _ _ #v[] (a3 _ _ a6)
 let c2:=c6 _ _ #v[] G
 let J:∀(c:aj)(xs:je),(∀ b:Nat,b∈lv->c≠k[b]!.ab)->H9 c\.lst xs->i4 c\.lst xs:=λc xs n1 e=>a4 c _ (λb a=>by
  let#[dx,m9]:=(R9.tw b a).tw.self;show#[ZZ e m9,#v[A9.ab b a,n1 b a]]) e
 let i3:∀ b:Nat,b∈lv->k[n]!.th≠k[b]!.ab:=λb a=>by
  by_cases z:b=n
  .subst z;show(R.own b a).2.2.2.symm
  .show(R.two b n a u z).2.2.1.symm
 let I:=J _ _ i3 e8;let X:=J _ _ (λb a=>(Zg (R.tw b a).tw.above M).symm) c2;let#[c7,e1]:=a8.sh.self;show#[1,S,c7,1,e1,Z,2,k[n]!.th,Z,#[_,ZF.of I],FW (cs:=t) () I (λHq j Rq hj sq hR=>#[2,a0,1,.inl (ZF.of (sq _ _ X)),Z,Dk _,1,#v[Co,hR]]) λLG o1 i2 n4 l8=>?_]
 let i6:=a8.same i2;show .mk i6 l8 ((UN O.wf u h0).sublist xB) (λb a=>?_) (λb a=>(Zg (a8.tw b a).tw.above n4).symm) λi5 c8 i7=>?_
 .let#[q1,q2]:=yH.mp a;let q2:=of_decide_eq_true q2;exists (((O.wf n u).stem h0).2.2.1 b q1).1;rwa[show Yb (Y1 g n t) n av b=av b from aK (λy=>q2 (yH.mp y).1),O.avk n u b q1]
 .show kY i5 N (λc o n1 e=>?_) i7 A9;let n2:∀ b:Nat,b∈lv->c≠N[b]!.x/\c≠N[b]!.ab:=λb a=>#v[A9.x b a,A9.ab b a,n1 b a]
  show c8 c o n2 (i2 _ _ (a4 c o n2 (fr c o (λi hi=>(n1 i hi).1) (a3 _ _ e))))
abbrev Ie:Stmt:=Xr (top 75) 4
abbrev KK:Stmt:=Xr (top 75) 5
abbrev Ka:Stmt:=Xr (top 75) 6
theorem Ad{a:List (ZY×V)}{b:jj}{i:Nat}(d:b.Nodup)(h:a.map (·.1)=b.map (λi:Nat=>(gR (i:Int):ZY))):(VR a (.inl (i:Int))).map (·.1)=(b.erase i).map (λi:Nat=>(gR (i:Int):ZY)):=by
 let c:(VR a (.inl (i:Int))).map (·.1)=(a.map (·.1)).filter λk=>gU (k≠.inl (i:Int)):=by
  unfold VR;rw[sL];rfl
 rw[c,h,sL,d.erase_eq_filter]
 congr 1
 show List.filter_congr λj _=>?_;change gU ((gR (j:Int):ZY)≠gR (i:Int))=(j != i);rw[wD];simp
 lia
theorem pF{k j:ZY}(h:j≠k):YU (VR a k) j=YU a j:=by
 induction a with
 |nil=>rfl
 |cons p r b=>
  by_cases z:p.1=k
  .rw[AZ z,b,Qc #v[z,Ne.symm h]]
  .rw[mM z];by_cases y:p.1=j
   .rw[Qg y,Qg y]
   .rw[Qc y,Qc y,b]
section
variable{jT jU:aj}{H H':Hp}{S d lk:aj}{lv:jj}{ts:jk}{av:Nat->jj}{ho:Nat->Nat}{as:jr}{kvs:List (ZY×V)}{ls:je}{b i:Nat}
theorem Zm.gone(R:Zm jT jU H S d lk lv ts av ho as kvs ls)(r:lv.Nodup):Zm jT jU (upd H d (.dK (VR kvs (.inl (i:Int))))) S d lk (lv.erase i) ts av ho as (VR kvs (.inl (i:Int))) ls:=by
 let#[#[s,q],h,p]:=R.sh;let g:∀{a:Nat},a∈lv.erase i↔a≠i/\a∈lv:=r.mem_erase_iff;let k:∀ c o,c≠d->H c\o->upd H d (.dK (VR kvs (.inl (i:Int)))) c\o:=λc o n e=>#v[ZU n,e]
 let m:Z1 H (upd H d (.dK (VR kvs (.inl (i:Int))))):=λc x e=>k c _ (ZZ e h) e;show#[#[#[s,k _ _ (ZZ q h) q],Za,k _ _ (ZZ p h) p],λj f=>R.lt j (g.mp f).2,Ad r R.keys,λj f=>?_,R.len,λj f=>?_,λj f=>R.own j (g.mp f).2,λj l f p=>R.two j l (g.mp f).2 (g.mp p).2]
 .rw[pF (λz=>(g.mp f).1 (by have:=Sum.inl.inj z;lia))]
  show R.val j (g.mp f).2
 .let W:=R.tw j (g.mp f).2;let#[v,u]:=W.tw.self;let#[w,t,_]:=W.things;show W.frame m (λo e=>k _ _ (ZZ u h) e) (λo e=>k _ _ (ZZ t h) e) (λo e=>k _ _ (ZZ W.tw.above h) e)
end
def NF(a:Nat->Nat)(b:Nat):Nat->Nat:=λi=>if i=b then a i+1 else a i
inductive Ye(jT jU:aj):Sp
 |mk{S d k:aj}{h:jj}{m:jk}{i:Nat->jj}{j:Nat->Nat}{g:jr}{a:List (ZY×V)}{l:je}{b:Nat}{H:Hp}{Q:VK}{E:XK}:Zm jT jU H S d k h m i j g a l->b∈h ->
  (∀ e:Hp,(∀ c o,c≠g[b]!.x->H c\o->e c\o)->Zm jT jU e S d k h m i (NF j b) g a l->Q .non e)->Ye jT jU [!S,.int (b:Nat)] H Q E
theorem Pp:ZC SF U' (Zc Ie):=Zo
theorem vm(F:Zl K "hold" "Shelf.hold" Ie f fd)(L:'d')(u:'e'):-ZI ZJ 2 f fd U' (Ye jT jU):=by
 show F.ok Pp (λN H Q E h=>(by induction h;rfl)) (λy A q s H N Q E C h=>?_)
 induction h
 rename_i S d D T M v i g p G b H Q E R l k
 let J:=Pp.nd;intro O;show#[_,ZK (Zf 2 J (Zs (E:=E0) (pv 0) L.cS u C Zn 'f'))
  (ZR (Mp (pv 2) ZM Fq)),?_]
 let#[z,B]:=R.sh.self;let t:=R.tw b l;let#[j,m]:=t.tw.self;let a:=t.tw.above;exists 1,S,z,1,B,Z,1,S,d,D,↑M,p,G,(b:Int),.ref g[b]!.x,Z,R.sh,R.val b l;exists 1,g[b]!.x,jU,j,_,.int (i b:Nat),Z,m,L.cT,L.nho,Z,_,1,Z,j,_,m,yS Z;let r:g[b]!.ab≠g[b]!.x:=ZZ a m;show k _ (λc o n e=>#v[ZU n,e]) (R.set1 l (av':=v) (ho':=NF i b) (λ_ _=>rfl) (λc n=>aK n) #[j,?_] ?_ λc o I _ e=>#v[ZU I,e])
 .rw[Za,show NF i b b=i b+1 from aM rfl];rfl
 .rwa[ZU r,a]
inductive VC(jT jU:aj):Sp
 |mk{S d h:aj}{e:jj}{k:jk}{b:Nat->jj}{c:Nat->Nat}{g:jr}{a:List (ZY×V)}{j:je}{i:Nat}{H:Hp}{Q:VK}{E:XK}:Zm jT jU H S d h e k b c g a j->i∈e->1<=↑(b i)+c i->Q .non H->VC jT jU [!S,.int (i:Nat)] H Q E
theorem QF:ZC ["self","number","twig","branch"] U' (Zc Ka):=Zo
theorem Ag(F:'ú')(L:'d')(j:-ZB ZJ 2 jT "holders" U' (Xl jT jU λ_ b u=>.int ((↑u:Nat)+(b:Nat):Int))):-ZI ZJ 3 f fd U' (VC jT jU):=by
 show F.ok QF (λv H Q E h=>(by induction h;rfl)) (λl A e s H v Q E o h=>?_)
 induction h
 rename_i S d q B t a b y c r i H Q E R g z k
 intro x;exists _,ZK (Z4 (YO U9 (Zs (E:=E0) (pv 0) L.cS j o Zn (ZQ (pv 1))) ZM (Z9 _)) (ZR wv) Z6) U4;let#[m,n]:=R.sh.self;let W:=R.tw i g;let p:↑(iN (a i))=↑(a i):=zW _;exists 1,S,m,1,n,Z,1,S,d,q,↑t,c,r,(i:Int),_,_,_,_,_,1,#[R.sh,R.val i g,W.tw];exists _,1,Z,_,Z;rw[aJ (show ((↑(iN (a i)):Nat)+(b i:Nat):Int)>0 by rw[p];lia)]
 show Z2 k
inductive V6(jT jU:aj):Sp
 |mk{S d p:aj}{e:jj}{a:jk}{j:Nat->jj}{k:Nat->Nat}{m:jr}{n:List (ZY×V)}{q:je}{i:Nat}{H:Hp}{Q:VK}{E:XK}:Zm jT jU H S d p e a j k m n q->e.Nodup->i∈e->j i=[]->k i=0->((a^i).h=0->(a^i).bs=[])->(a^i).bs.Nodup->(∀ b∈(a^i).bs,b∈e/\b≠i/\1<=k b/\i∈j b) ->
  (∀(l:Hp)(g:List (ZY×V)),(∀ c o,c≠d->(∀ b∈e,c≠m[b]!.ab)->H c\o->l c\o)->Zm jT jU l S d p (e.erase i) a (WI (a^i).bs i j) k m g q->Q .non l)->V6 jT jU [!S,.int (i:Nat)] H Q E
inductive Du(jT jU S d lk:aj)(lv:jj)(ts:jk)(av:Nat->jj)(ho:Nat->Nat)(as:jr)(kvs:List (ZY×V))(ls:je)(i:Nat)(H:Hp):Nat->_T.St->Hp->Prop
 |mk{j:Nat}{x3:jf}{H2:Hp}:(∀ c o,c≠d->(∀ b∈lv,c≠as[b]!.ab)->H c\o->H2 c\o)->Zm jT jU H2 S d lk (lv.erase i) ts (WI ((ts^i).bs.take j) i av) ho as kvs ls->Du jT jU S d lk lv ts av ho as kvs ls i H j [Z' (.ref S),Z' (.int (i:Nat)),Z' (.ref as[i]!.x),x3] H2
theorem AM(F:'ú')(L:'d')(DH:-ZB ZJ 2 jT "holders" U' (Xl jT jU λ_ M us=>.int ((↑us:Nat)+(M:Nat):Int)))(DT:'e')(DS:'7')(DR:'ģ'):-ZI ZJ 4 f fd U' (V6 jT jU):=by
 show F.ok QF 'a' (λc6 A c1 s H vs Q E hr h=>?_)
 induction h
 rename_i S d lk lv l m M g p ls i H Q E R U G ea h0 lf X hb k
 let nd:=QF.nd;let O:=hr.mono (show 1<=3 by lia)
 let a9:=hr.mono (show 2<=3 by lia)
 intro Xc;show#[_,ZK (Z4 (YO U9 (Zs (E:=E0) (pv 0) L.cS DH a9 Zn (ZQ (pv 1))) ZM (Z9 _)) U4 Z6)
  (ZK (Zf 2 nd (qx 's' (pv 1) #[Z,Z,Z,Z]))
  (ZR (Z4 (Xk (Zd DS O 'o'))
   (ZR (Vi PassesOwn.never Z (WJ 'Ų') 'Ũ'
    (ZK (YF (QG xQ qG qC Gp (XS (Zs (E:=E0) (pv 0) L.cS DT O Zn 'z') Z) 'f'))
    (ZR (YF (Zs (E:=E0) (pv 0) L.cS DR hr Zn 'z')))))) Z6))),?_]
 let#[dx,hS]:=R.sh.self;let W:=R.tw i G;let#[dt,hx]:=W.tw.self;let lI:↑(iN (m i))=↑(m i):=zW _;exists 1,S,dx,1,hS,Z,1,S,d,lk,↑l,p,ls,(i:Int),_,_,_,_,_,1,#[R.sh,R.val i G,W.tw];exists _,1,Z,_,Z;rw[aI (show ¬ ((↑(iN (m i)):Nat)+(M i:Nat):Int)>0 by rw[lI,ea,h0];simp)]
 show Zq ?_;let D:=R.sh.kept;exists 1,S,jT,dx,_,!d,Z,hS,L.cS,L.nk,Z,d,Z,.inl #[p,_T.hX.of D],1,p,.inl (i:Int),.ref g[i]!.x,D,Z,R.val i G;let C:∀ b o,b≠d->H b\o->upd H d (.dK (VR p (.inl (i:Int)))) b\o:=λb o n e=>#v[ZU n,e]
 let R1:=R.gone (i:=i) U;let#[us,y,c7,c3]:=W.things;let#[q,k0,k1,eq,Y,_,_]:=W.tag;let eq:g[i]!.tg=q:=V.ref.inj eq;generalize upd H d (.dK (VR p (.inl (i:Int))))=H1 at C R1⊢;let T:=C _ _ (ZZ hx D) hx;let a2:=C _ _ (ZZ W.tw.above D) W.tw.above;let c2:=C _ _ (ZZ Y D) Y;let a0:WI [] i m=m:=funext λc=>aK ⋯
 exists 1,g[i]!.x,.ref g[i]!.th,g[i]!.tg,g[i]!.ab,M i,_,_,1,#[#[dt,T],a2],#v[eq,c2],_,Z
 by_cases hz:(l^i).h=0
 .let eb:=lf hz;rw[aI (show ¬ (Zw (l^i)).h>0 by change ¬ ((l^i).h:Int)>0;lia)]
  show Zq (k H1 (VR p (.inl (i:Int))) (λc o n _ e=>C c o n e) ?_);rwa[eb,a0,R1]
 .rw[aJ (show (Zw (l^i)).h>0 by change ((l^i).h:Int)>0;lia)]
  let ew:=c3 hz;subst ew;let c4:=C _ _ (ZZ y D) y;show Z2 #[1,g[i]!.x,jU,dt,_,.ref g[i]!.th,Z,T,L.cT,L.nth,Z,1,#[_,ZF.of c4],?_];let a1:∀ b∈lv,g[i]!.th≠g[b]!.ab:=λb hb=>by
   by_cases z:b=i
   .rwa[z,(R.own i G).2.2.2.symm]
   .show(R.two b i hb G z).2.2.1.symm
  show OB (K:=K) (a:=g[i]!.th) (xs:=iN (l^i).bs) (Du jT jU S d lk lv l m M g (VR p (.inl (i:Int))) ls i H) (.mk (λc o n _ e=>C c o n e) #v[show (l^i).bs.take 0=[] from Z,a0,R1]) ?_ ?_ ?_
  .rintro j _ J _ ⟨r,_⟩;show ZF.of (r _ _ (ZZ y D) a1 y)
  .rintro j u _ J c0 ⟨r,R2⟩;rename_i x3
   let#[b,B,rfl]:=MF c0;let#[bl,bi,b1,ib]:=hb b (zG B);let t:b∈lv.erase i:=U.mem_erase_iff.mpr #[bi,bl];let a8:b∉(l^i).bs.take j:=λz=>by
    let hs:(l^i).bs=(l^i).bs.take j++b::(l^i).bs.drop (j+1):=by
     let#[G,e]:=yW.mp B;rw[<-e,<-xH G,wY]
    rw[hs,yO] at X;show X.2.2 b z b ⋯ Z
   let a5:WI ((l^i).bs.take j) i m b=m b:=aK a8;let#[a3,a6]:=R2.sh.self;let Wb:=R2.tw b t;let#[db,I]:=Wb.tw.self;let v:=Wb.tw.above;rw[a5] at v;let eI:iN (m b)=((m b).map λn:Nat=>(n:Int)).map V.int:=by rw[vH];rfl
   exists 1,S,a3,1,a6,Z,1,S,d,lk,↑l,_,ls,(b:Int),.ref g[b]!.x,Z,R2.sh,R2.val b t,g[b]!.x,jU,db,_,.ref g[b]!.ab,Z,I,L.cT,L.nab,Z,.inl #[Z,_,ZF.of v],1,g[b]!.ab,(m b).map (λn:Nat=>(n:Int)),(i:Int),Z,Z,by rwa[<-eI,v],zQ.mpr #[i,ib,Z]
   rw[EO];let c5:g[b]!.x≠g[b]!.ab:=ZZ I v;let et:(l^i).bs.take (j+1)=(l^i).bs.take j++[b]:=by rw[yR,B];rfl
   let eB:WI ((l^i).bs.take (j+1)) i m b=(m b).erase i:=aM (by rw[et];simp)
   let R3:=R2.set1 (H':=upd J g[b]!.ab (.lst ((((m b).erase i).map λn:Nat=>(n:Int)).map V.int))) t (av':=WI ((l^i).bs.take (j+1)) i m) (ho':=M) (λc n=>by unfold WI;rw[et];simp[n]) (λ_ _=>rfl) #[db,#v[ZU c5,I]] (by rw[Za,eB,vH];rfl) λc o _ n2 e=>#v[ZU n2,e]
   let N:∀ c o,c≠d->(∀ b∈lv,c≠g[b]!.ab)->H c\o->upd J g[b]!.ab (.lst ((((m b).erase i).map λn:Nat=>(n:Int)).map V.int)) c\o:=λc o n1 n2 e=>#v[ZU (n2 b bl),r c o n1 n2 e]
   generalize upd J g[b]!.ab (.lst ((((m b).erase i).map λn:Nat=>(n:Int)).map V.int))=H3 at R3 N⊢;let#[a4,a7]:=R3.sh.self;show#[1,S,a4,1,a7,Z,1,.mk R3 t () (.mk N R3)]
  .rintro _ J ⟨r,R2⟩;rw[show ↑(iN (l^i).bs)=↑(l^i).bs from zW _,zA (zY _)] at R2;show k J _ r R2
inductive UC(jT jU:aj):Sp
 |mk{S d p:aj}{e:jj}{a:jk}{k:Nat->jj}{l:Nat->Nat}{j:jr}{n:List (ZY×V)}{q:je}{i:Nat}{H:Hp}{Q:VK}{E:XK}:Zm jT jU H S d p e a k l j n q->e.Nodup->i∈e->k i=[]->l i=1->((a^i).h=0->(a^i).bs=[])->(a^i).bs.Nodup->(∀ b∈(a^i).bs,b∈e/\b≠i/\1<=l b/\i∈k b) ->
  (∀(m:Hp)(g:List (ZY×V)),(∀ c o,c≠d->(∀ b∈e,c≠j[b]!.x/\c≠j[b]!.ab)->H c\o->m c\o)->Zm jT jU m S d p (e.erase i) a (WI (a^i).bs i k) (WK l i) j g q->Q .non m)->UC jT jU [!S,.int (i:Nat)] H Q E
theorem Wy:ZC SF U' (Zc KK):=Zo
theorem rq(F:'ġ')(L:'d')(DC:'r')(DT:'e')(DD:-ZB ZJ 4 jT "drop_unheld" U' (V6 jT jU)):
  ZI P w K mg jW ZJ 5 f fd U' (UC jT jU):=by
 show F.ok Wy 'a' (λa1 A Y s H vs Q E N h=>?_)
 induction h
 rename_i S d lk lv ts av j a z ls i H Q E R V r ea h1 lf X hb k
 let nd:=Wy.nd;let O:=N.mono (show 1<=4 by lia)
 let T:=N.mono (show 3<=4 by lia)
 intro Xc;show#[_,ZK (YF (Zs (E:=E0) (pv 0) L.cS DC T Zn (ZQ (Yy (ZQ (pv 1))))))
  (ZK (Zf 2 nd (Zs (E:=E0) (pv 0) L.cS DT O Zn 'f'))
  (ZK (Mp (pv 2) ZM Lc)
  (ZR (YF (Zs (E:=E0) (pv 0) L.cS DD N Zn 'f'))))),?_]
 let#[dx,hS]:=R.sh.self;exists 1,S,dx,1,hS,Z,1,Yc;intro l nl;let#[C,eU,g,hl]:=Yo nl (.lst [.int (i:Nat)]);rw[eU];let m:=R.same g;let#[t,v]:=m.sh.self;let G:=m.tw i r;let#[q,U]:=G.tw.self;let y:=G.tw.above;exists S,l,[(i:Int)],Z,hl,#[t,_,v,Z],λn hn=>?_
 .rwa[zV.mp hn,#[d,lk,↑ts,z,ls,_,_,_,_,_,_,#[m.sh,m.val i r,G.tw],()]]
 exists 1,S,t,1,v,Z,1,S,d,lk,↑ts,z,ls,(i:Int),.ref a[i]!.x,Z,m.sh,m.val i r;exists 1,a[i]!.x,jU,q,_,.int (j i:Nat),Z,U,L.cT,L.nho,Z,_,1,Z,q,_,U,yS Z;let a0:a[i]!.ab≠a[i]!.x:=ZZ y U;let eh:((j i:Nat):Int)-1=((j i-1:Nat):Int):=()
 let e1:WK j i i=j i-1:=aM Z;let D:=m.set1 (H':=upd C a[i]!.x (.ins jU q (YW "holds" (.int (((j i:Nat):Int)-1)) (WQ (.ref a[i]!.th) (.ref a[i]!.tg) a[i]!.ab (j i))))) r (av':=av) (ho':=WK j i) (λ_ _=>rfl) (λc n=>aK n) #[q,by
  rw[Za,e1,eh];rfl] #v[ZU a0,y] λc o W _ e=>#v[ZU W,e]
 let u:∀ c o,c≠a[i]!.x->C c\o->upd C a[i]!.x (.ins jU q (YW "holds" (.int (((j i:Nat):Int)-1)) (WQ (.ref a[i]!.th) (.ref a[i]!.tg) a[i]!.ab (j i)))) c\o:=λc o n e=>#v[ZU n,e]
 generalize upd C a[i]!.x (.ins jU q (YW "holds" (.int (((j i:Nat):Int)-1)) (WQ (.ref a[i]!.th) (.ref a[i]!.tg) a[i]!.ab (j i))))=H3 at D u⊢;let#[I,M]:=D.sh.self;show#[1,S,I,1,M,Z,1,.mk D V r ea (by rw[e1,h1]) lf X (λb p=>?_) λH4 B J R4=>?_]
 .let#[b1,b2,b3,b4]:=hb b p;show#[b1,b2,#v[show WK j i b=j b from aK b2,b3],b4]
 .show k H4 B (λc o W n2 e=>J c o W (λb p=>(n2 b p).2) (u c o (n2 i r).1 (g _ _ e))) R4
structure Go(lk:aj)(H H':Hp)(X X':ZV):Prop where
 S:X'.S=X.S
 d:X'.d=X.d
 fr:∀ c o,Ze X lk c->H c\o->H' c\o
 off:∀ c o,Ze X lk c->H c\o->Ze X' lk c
theorem Go.trans{X i j:ZV}(a:Go f H g X i)(b:Go f g h i j):Go f H h X j:=#[b.S|||a.S,b.d|||a.d,λc o n e=>b.fr c o (a.off c o n e) (a.fr c o n e),λc o n e=>b.off c o (a.off c o n e) (a.fr c o n e)]
theorem Go.same{lk:aj}{H a:Hp}{X:ZV}(s:ZE H a):Go lk H a X X:=#[Z,Z,λc o _ e=>s c o e,λc o n _=>n]
theorem Go.looks{d:aj}{X:ZV}(s:∀ b o,b≠d->H b\o->a b\o):Go d H a X X:=#[Z,Z,λc o n e=>s c o n.2.2.1 e,λc o n _=>n]
section
variable{jT jU:aj}{H H':Hp}{X:ZV}{lk:aj}{ls:je}{r:Nat}
theorem Zm.off(R:Zm jT jU H X.S X.d lk X.lv X.ts X.av X.ho X.as X.kvs ls)(e:H c\o)(g:∀ C a j,o≠.ins C a j)(q:∀ k,o≠.dK k)(f:∀ s,o≠.lst s):Ze X lk c:=by
 let#[#[a,l],m,n]:=R.sh;exists ZZ e l (g _ _ _),ZZ e m (q _),ZZ e n (f _);intro i b;let#[a,p]:=(R.tw i b).tw.self;let#[t,h,_]:=(R.tw i b).things;show#[ZZ e p (g _ _ _),ZZ e (R.tw i b).tw.above (f _),ZZ e h (f _)]
theorem Go.tups(g:Go lk H H' X a)(R:Zm jT jU H X.S X.d lk X.lv X.ts X.av X.ho X.as X.kvs ls):Z1 H H':=λc b e=>g.fr c _ (R.off e #v[] #[] #[]) e
theorem Zm.new(R:Zm jT jU H X.S X.d lk X.lv X.ts X.av X.ho X.as X.kvs ls){c:aj}(n:H c=uT):Ze X lk c:=by
 let#[#[b,f],g,h]:=R.sh;exists (Zg f n).symm,(Zg g n).symm,(Zg h n).symm;intro i a;let#[b,j]:=(R.tw i a).tw.self;let#[k,e,_]:=(R.tw i a).things;show#[(Zg j n).symm,(Zg (R.tw i a).tw.above n).symm,(Zg e n).symm]
theorem Ni{cur:jk}{av':Nat->jj}{ho':Nat->Nat}{as':jr}{kvs':List (ZY×V)}(b:∀ c o,(∀ i:Nat,i∈X.lv->c≠X.as[i]!.x/\c≠X.as[i]!.ab)->H c\o->H' c\o)(A:LO H X.lv X.as as'):Go lk H H' X #[X.S,X.d,X.lv,cur,av',ho',as',kvs']:=
 #[Z,Z,λc o n e=>b c o (λi a=>#[(n.2.2.2 i a).1,(n.2.2.2 i a).2.1]) e,λc o n e=>#[n.1,n.2.1,n.2.2.1,λi a=>by
  let a:i∈X.lv:=a;let#[f,g,h]:=n.2.2.2 i a;exists #v[A.x i a,f],#v[A.ab i a,g]
  rcases A.th i a with z|z
  .rwa[z,h]
  .show Zg e z]]
theorem N0{t:ZO}{av':Nat->jj}{ho':Nat->Nat}{a:YH}{kvs':List (ZY×V)}(l:↑X.as=↑X.ts)(h:∀ i∈X.lv,i<↑X.ts)(g:∀ c o,c≠X.S->c≠X.d->(∀ i:Nat,i∈X.lv->c≠X.as[i]!.x/\c≠X.as[i]!.ab)->H c\o->H' c\o)(nx:H a.x=Y')(k:H a.th=Y')(j:H a.ab=Y'):Go lk H H' X #[X.S,X.d,X.lv++[↑X.ts],X.ts++[t],av',ho',X.as++[a],kvs']:=
 #[Z,Z,λc o n e=>g c o n.1 n.2.1 (λi b=>#[(n.2.2.2 i b).1,(n.2.2.2 i b).2.1]) e,λc o n e=>#[n.1,n.2.1,n.2.2.1,λi b=>by
  change c≠((X.as++[a]).getD i .d).x/\c≠((X.as++[a]).getD i .d).ab/\c≠((X.as++[a]).getD i .d).th;rcases zM.mp b with q|q
  .rw[GO (by have:=h i q;lia)]
   show n.2.2.2 i q
  .let f:i=↑X.as:=by have:=zV.mp q;lia
   rwa[f,K3,#[Zg e nx,Zg e j,Zg e k]]]]
end
section
variable{gt:jj}{ts cur:jk}{r n:Nat}{up ps:jj}{A B T:jl}{t:ZO}
theorem YV.chd(c:WF gt ts)(a:r∈gt)(z:YV ts r (n::up) ps A B)(C:Ow gt ts cur r n up t T):YV cur r (n::up) ps A B:=by
 let d:=yQ.mp (z.nodup c a);show z.keep c a Z (λi e=>#[C.hh i,C.sh i λy=>d.1 (y▸e)]) λb _ _ f=>by rw[C.old b f]
end
theorem FZ:∀{a b:jl},Up a->Up b->(∀ x,x∈a↔x∈b)->a=b
 |[],[],_,_,_=>rfl
 |[],y::b,_,_,h=>by have:=(h y).mpr zX;cases this
 |x::a,[],_,_,h=>by have:=(h x).mp zX;cases this
 |x::a,y::b,ha,hb,h=>by
  let c:=xD.mp ha;let d:=xD.mp hb;let e:x=y:=by
   rcases zU.mp ((h x).mp zX) with z|z
   .show z
   .rcases zU.mp ((h y).mpr zX) with q|q
    .show q.symm
    .let g:=d.1 _ (zQ.mpr #[x,z,Z]);let f:=c.1 _ (zQ.mpr #[y,q,Z]);erw[Q9 _ _ g] at f
  subst e;let nx:∀{l:jl},(∀ z∈l.map (·.1),x.1.lt z=V')->x∉l:=λi z=>by
   have:=i _ (zQ.mpr #[x,z,Z]);erw[UI] at this
  rw[FZ c.2 d.2 λz=>#[λq=>by
   rcases zU.mp ((h z).mp (zS _ q)) with y|y
   .show gS q (y▸nx c.1)
   .show y,λq=>by
   rcases zU.mp ((h z).mpr (zS _ q)) with y|y
   .show gS q (y▸nx d.1)
   .show y]]
theorem yu(h:Up c):∀{x y:ZW},x∈c->y∈c->x.1=y.1->x=y:=by
 intro x y f j e
 induction c with
 |nil=>cases f
 |cons z l k=>
  let d:=xD.mp h;let g:∀ q∈l,q.1≠z.1:=λq i y=>by
   have:=d.1 _ (zQ.mpr #[q,i,Z]);erw[y,UI] at this
  rcases zU.mp f with a|a<;>rcases zU.mp j with b|b
  .rw[a,b]
  .show gS (by rw[<-e,a]) (g y b)
  .show gS (by rw[e,b]) (g x a)
  .show k d.2 a b
section
variable{gt:jj}{ts:jk}{r:Nat}{k:KT}
theorem K9(a:WF gt ts)(M:r∈gt):∀(n i:Nat){v t:jj}{A B:jl},YV ts r (i::v) t A B->(ts^i).h=n->(∀ x∈A,x.1.lt k=V')->(∀ x∈B,k.lt x.1=V') ->
  ∃(W:jq)(j:Nat)(f g:jl),Qr ts k n i=W++[(j,cnt ((ts^j).rows.map (·.1)) k)]/\↑W=n/\(ts^j).h=0/\YV ts r (j::((W.map (·.1)).reverse++v)) ((W.map (·.2)).reverse++t) f g/\(∀ x∈f,x.1.lt k=V')/\∀ x∈g,k.lt x.1=V'
 |0,i,v,t,A,B,z,G,D,E=>#[[],i,A,B,by rw[Qr];unfold WH;rw[aM G];rfl,Z,G,z,D,E]
 |n+1,i,v,t,A,B,z,G,D,E=>by
  let s:=(z.facts a M Z).1;let b:(ts^i).h≠0:=()
  let#[l,m,S,o,U,V]:=JC a s b k;let#[X,n2,_]:=MA a s b k;let J:=UN a s b;let K:=a i s;let T:(ts^i).rows=ZP ts (ts^i).bs:=(K.stem b).2.2.2;let N:=(K.stem b).2.2.1;let e:=K.up;rw[o,yO,yQ] at J;let Y:Uu ts k i∉l:=λy=>J.2.2 _ y _ zX Z;let z2:=z.down b o Y J.2.1.1;let#[W,j,f,g,O,w,C,P,Q,R]:=K9 a M n 'ũ' z2 () (λx I=>by
   rcases zM.mp I with y|y
   .show D x y
   .let d:=U (λq=>by erw[q] at y)
    let#[q,qs,w,C]:=Qz (a _ X).ne;rw[T,o,QI,WV,zH,xA] at e;let p:=e.2.2 _ (zQ.mpr #[x,y,Z]) q.1 (zQ.mpr #[q,zL _ #v[w,zX],Z])
    rw[C] at d
    cases u:x.1.lt k with
    |true=>rfl
    |false=>
     have:=LU u p;erw[LU u p] at d) (λx I=>by
   rcases zM.mp I with y|y
   .let#[c,L,H]:=xT.mp y;let d:=V c L;let F:=(N c #v[o,yZ _ (zS _ L)]).1
    let p:=CI (j:=0) (a c F) (zQ.mpr #[x,H,Z])
    cases u:k.lt x.1 with
    |true=>rfl
    |false=>
     have:=LU u d;erw[p] at this
   .show E x y)
  show#[(i,WH ts k i)::W,j,f,g,by rw[Qr,O];rfl,by rw[zN,w],C,?_,Q,R]
  rwa[yX,yX,vQ,vQ,yT,yT,<-S,P]
theorem Jc(d:WF gt ts):∀ n i ,i∈gt->(ts^i).h=n->2^n<=↑(ts^i).rows
 |0,i,a,_=>vW.mpr (d i a).ne
 |n+1,i,a,v=>by
  let#[f,_,g,m]:=(d i a).stem ()
  let o:∀ l:jj,(∀ b∈l,b∈(ts^i).bs)->↑l*2^n<=↑(l.flatMap λb=>(ts^b).rows):=λl e=>by
   induction l with
   |nil=>simp
   |cons b l q=>
    let t:=q λc p=>e c (zS _ p);let#[j,s]:=g b (e b zX);let u:=Jc d n b j ()
    rw[wT,zR,zN,Nat.add_mul]
    lia
  let h:=o _ λb h=>h;rw[m,Nat.pow_succ];have:2*2^n<=↑(ts^i).bs*2^n:=Nat.mul_le_mul_right _ f
  lia
end
inductive P6(H:Hp)(p:Nat×Nat)(u:V):Prop
 |mk(t a:_)(_:u=!t)(_:H t\.tup [.int (p.1:Int),.int (p.2:Int),a])
theorem Ot:ZC ["shelf","stem","number","stead","branches"] TR (Zc Jb):=Zo
abbrev vf:jn:=["shelf","steps","owned","stem","step"]
theorem Uz:ZC vf TW (Zc Hh):=Zo
inductive YD(jT jU:aj):Sp
 |mk{X:ZV}{b:aj}{c:je}{r:jp}{H:Hp}{Q:VK}{E:XK}:Zm jT jU H X.S X.d b X.lv X.ts X.av X.ho X.as X.kvs c->(∀ i,r\i->i∈X.lv/\1<=X.ho i)->(∀ a,ZE H a->Q .non a)->YD jT jU [!X.S,YS r] H Q E
theorem lA:ZC TQ TQ (Zc Jd):=Zo
theorem kL(F:Zl K "check_root" "check_root" Jd f fd)(L:'d')(l:'r'):-ZI ZJ 4 f fd TQ (YD jT jU):=by
 show F.ok lA (λC H Q E h=>(by induction h;rfl)) (λm A g s H C Q E v h=>?_)
 induction h
 rename_i X x y r H Q E R e q
 intro D;exists _,ZR (Z4 (Q0 (ME (pv 1))) (ZR (YF (Zs (E:=E0) (pv 0) L.cS l v Zn (ZQ (Yy (ZQ (pv 1))))))) Z6)
 cases r with
 |none=>show#[2,Zq (q H 'Ā')]
 |some i=>
  let#[k,p]:=e i Z;let#[o,t]:=R.sh.self;show#[2,Z2 #[1,X.S,o,1,t,Z,1,Yc,λB z=>?_]];let j:=Zv z (.lst [.int (i:Int)]);let a:=R.same j;let#[b,c]:=a.sh.self;show#[X.S,B,[(i:Int)],Z,Za,#[b,_,c,Z],λn u=>by
   rwa[zV.mp u,#[X.d,x,↑X.ts,X.kvs,y,_,_,_,_,_,_,#[a.sh,a.val i k,(a.tw i k).tw],p]],q _ j]
theorem UD(h:Up b)(s:a.Sublist b):Up a:=xI.sublist (s.map _) h
theorem N3:∀{l:jj},(∀ b∈l,(d^b).rows≠[])->Up (ZP d l)->l.Nodup
 |[],_,_=>vU
 |b::l,h,hp=>by
  let a:=hp;rw[WV] at a;unfold Up Ps at a;rw[zH,xA] at a;show yQ.mpr #[λz=>?_,N3 (λc f=>h c (zS _ f)) a.2.1];let#[r,j,e]:=sR (h b zX);let g:r.1∈(d^b).rows.map (·.1):=by rw[e];simp
  let i:r.1∈(ZP d l).map (·.1):=zQ.mpr #[r,xT.mpr #[b,z,by rw[e];simp],Z]
  have:=a.2.2 _ g _ i;erw[UI] at this
section
variable{lv:jj}{ts:jk}{av:Nat->jj}{ho:Nat->Nat}{r n x:Nat}{up ps bs:jj}{A B:jl}
end
inductive VT(ts:jk):Nat->jq->jj->jl->jl->Prop
 |leaf {x pl:Nat}:(ts^x).h=0->VT ts x [(x,pl)] [x] [] []
 |stem {sd:Bool} {x c l:Nat} {W:jq} {N:jj} {L R:jl}:(ts^x).h≠0->(ts^x).bs=(if sd=V' then [l,c] else [c,l])->((ts^c).h≠0->↑(ts^l).bs<=3)->VT ts c W N L R->VT ts x ((x,if sd=V' then 1 else 0)::W) (x::l::N) (if sd=V' then (ts^l).rows++L else L) (if sd=V' then R else R++(ts^l).rows)
theorem VT.rows(p:WF g b)(h:VT b x W N L R):x∈g->(b^x).rows=L++(hJ b (W.getLastD (0,0)).1).rows++R:=by
 induction h with
 |leaf k=>show λ_=>by simp
 |stem k j f h s=>
  intro r;rename_i i x c l W N L R
  let#[_,_,n,d]:=(p x r).stem k;let o:c∈g:=(n c (by rw[j];cases i<;>simp)).1
  let e:=s o;let d:(b^x).rows=ZP b (b^x).bs:=d;let t:W≠[]:=by cases h<;>simp
  let m:(((x,if i=V' then 1 else 0)::W:jq).getLastD (0,0))=W.getLastD (0,0):=by
   cases W with
   |nil=>show gS Z t
   |cons a l=>simp[List.getLastD]
  rw[d,j,m];generalize (W.getLastD (0,0)).1=q at e⊢;cases i
  .change ZP b [c,l]=L++(b^q).rows++(R++(b^l).rows);rw[WV,WV,e];simp[ZP]
  .change ZP b [l,c]=((b^l).rows++L)++(b^q).rows++R;rw[WV,WV,e];simp[ZP]
theorem VT.like(h:VT j x W N L R):(∀ b∈N,hJ a b=hJ j b)->VT a x W N L R:=by
 induction h with
 |leaf d=>
  intro e;show .leaf #v[e _ zX,d]
 |stem d k f h p=>
  intro e;rename_i q x c l W N L R
  let i:=e x zX;let g:=e l 'Ś';let o:c∈N:=by cases h<;>show zX
  let m:=e c (zS _ (zS _ o));have:=VT.stem (ts:=a) (sd:=q) (x:=x) (c:=c) (l:=l) #v[i,d] #v[i,k] #v[m,g,f] (p λb n=>e b (zS _ (zS _ n)))
  rw[g] at this;show this
theorem VT.wn(h:VT d x W N L R):∀ p∈W,p.1∈N:=by
 induction h with
 |leaf b=>
  intro p a;rwa[zV.mp a,zX]
 |stem b e f h c=>
  intro p a;rcases zU.mp a with y|y
  .rwa[y,zX]
  .show zS _ (zS _ (c p y))
theorem VT.hd(h:VT a x W N L R):x∈N/\W.map (·.1)≠[]:=by
 cases h
 .show#[zX,by simp]
 .show#[zX,by simp]
structure Lk(lv:jj)(ts:jk)(U:Nat->Prop)(g:Nat->Nat):Prop where
 gu:∀ b,0<g b->U b
 inn:∀ b,U b->b∈lv
 cl:∀ b,U b->∀ c∈(ts^b).bs,U c
 hd:∀ b,U b->0<g b\/∃ p,U p/\b∈(ts^p).bs
structure Dg(lv:jj)(ts:jk)(av:Nat->jj)(ho:Nat->Nat)(U:Nat->Prop)(g:Nat->Nat)(o:jj):Prop where
 wf:WF lv ts
 nd:lv.Nodup
 avn:∀ b∈lv,(av b).Nodup
 ave:∀ b∈lv,∀ p,p∈av b↔p∈lv/\b∈(ts^p).bs
 hs:∀ b∈lv,ho b=g b+o.count b
 own:∀ b∈o,b∈lv
 u:Lk lv ts U g
theorem Lk.keep(h:Lk l j U g)(k:∀ b,U b->b∈d/\hJ e b=hJ j b):Lk d e U g:=
 #[h.gu,λb a=>(k b a).1,λb a c f=>h.cl b a c (by rwa[<-(k b a).2,f]),λb a=>(h.hd b a).imp id λ⟨p,i,f⟩=>#[p,i,#v[(k p i).2,f]]]
theorem Xh{g:jj}{a:jk}(f:WF g a){p b:Nat}(e:p∈g)(c:b∈(a^p).bs):b∈g/\(a^b).h+1=(a^p).h/\(a^p).h≠0:=by
 let d:(a^p).h≠0:=λy=>by erw[((f p e).leaf y).1] at c
 show#[(((f p e).stem d).2.2.1 b c).1,(((f p e).stem d).2.2.1 b c).2,d]
theorem Km{l:jj}(h:l.Nodup)(b):l.count b=if b∈l then 1 else 0:=by
 split
 .next y=>show Nat.le_antisymm (List.nodup_iff_count.mp h b) (wR.mpr y)
 .next y=>show List.count_eq_zero.mpr y
section
variable{lv:jj}{ts cur:jk}{av:Nat->jj}{ho:Nat->Nat}{U:Nat->Prop}{g:Nat->Nat}{o rest bs up:jj}{r n x c:Nat}
theorem Dg.avk(D:'l'):Ho lv ts av:=λp d b a=>(D.ave b (Xh D.wf d a).1 p).mpr #[d,a]
theorem Dg.perm(D:'l'){d:jj}(p:o.Perm d):Dg lv ts av ho U g d:=#[D.wf,D.nd,D.avn,D.ave,λb a=>by rwa[<-p.count_eq,D.hs b a],λb a=>D.own b (p.mem_iff.mpr a),D.u]
theorem Dg.free(D:'l')(rd:'Ū'):(∀ i∈ch,av i=[]->i∈o)->∀ x∈ch,¬ U x:=by
 induction rd with
 |top hi t=>
  intro ro x hx u;rename_i i
  cases zV.mp hx;let ic:=wR.mpr (ro i zX t.1);have:=D.hs i hi;rw[t.2] at this;rcases D.u.hd i u with y|⟨p,hp,y⟩
  .lia
  .have:=(D.ave i hi p).mpr #[D.u.inn p hp,y];erw[t.1] at this
 |up hi a1 a2 rd ih=>
  intro ro x hx;rename_i i j l
  let ihl:=ih λi hi=>ro i (zS _ hi);rcases zU.mp hx with y|y
  .intro u;cases y;have:=D.hs i hi;rw[a2] at this;rcases D.u.hd i u with y|⟨p,hp,y⟩
   .lia
   .have:=(D.ave i hi p).mpr #[D.u.inn p hp,y];rw[a1] at this;cases zV.mp this;let#[u2,e]:=rd.hd;show ihl j #v[e,zX] hp
  .show ihl x y
theorem Dg.put(D:'l')(N:∀ i∈lv,i<↑ts){t:ZO}(V:XB lv ts ↑ts t)(Q:t.bs.Nodup)(K:o.Perm (t.bs++rest)):
  Dg (lv++[↑ts]) (ts++[t]) (Yb t.bs ↑ts (YZ ↑ts av)) (Wn t.bs (Yi ↑ts ho)) U g (↑ts::rest):=by
 let P:∀ b∈t.bs,b∈lv:=λb d=>D.own b (K.mem_iff.mpr (zL _ d));let v:↑ts∉lv:=λy=>xW _ (N _ y);let I:↑ts∉t.bs:=λy=>v (P _ y);let s:∀ i∈lv,hJ (ts++[t]) i=hJ ts i:=λi B=>Q4 (N i B);let F:hJ (ts++[t]) ↑ts=t:=Qf;let J:∀ i∈lv,i≠↑ts:=λi B y=>v (y▸B);let R:g ↑ts=0:=Nat.eq_zero_of_not_pos λy=>v (D.u.inn _ (D.u.gu _ y));let O:∀ b∈rest,b∈lv:=λb d=>D.own b (K.mem_iff.mpr (yZ _ d));let A:∀ b∈lv,Yb t.bs ↑ts (YZ ↑ts av) b=if b∈t.bs then av b++[↑ts] else av b:=λb d=>by
  unfold Yb YZ;rw[aK (J b d)]
 let w:Yb t.bs ↑ts (YZ ↑ts av) ↑ts=[]:=by
  unfold Yb YZ;rw[aK I,aM rfl]
 show#[λi B=>?_,?_,λb d=>?_,λb d p=>?_,λb d=>?_,λb d=>?_,D.u.keep λb d=>#[zL _ (D.u.inn b d),s b (D.u.inn b d)]]
 .let C:∀{j M:Nat}{u:ZO},XB lv ts j u->XB (lv++[↑ts]) (ts++[t]) M u:=fun{j M u} k=>#[k.ne,k.up,k.inn,k.leaf,λz=>by
   let#[m,f,G,S]:=k.stem z;exists m,f,λb d=>#[zL _ (G b d).1,#v[s b (G b d).1,(G b d).2]]
   rwa[S,(US (l:=u.bs) λb d=>(by rw[s b (G b d).1])).symm]]
  rcases zM.mp B with y|y
  .rwa[s i y,C (D.wf i y)]
  .rwa[zV.mp y,F,C V]
 .rwa[yO,#[D.nd,by simp,λa H b d e=>v (by rw[<-zV.mp d,<-e];show H)]]
 .rcases zM.mp d with y|y
  .rw[A b y];split
   .rwa[yO,#[D.avn b y,by simp,λa H c T e=>v (by rw[<-zV.mp T,<-e];show((D.ave b y a).mp H).1)]]
   .show D.avn b y
  .rwa[zV.mp y,w,vU]
 .rcases zM.mp d with y|y
  .rw[A b y];constructor
   .intro h;split at h
    .next z=>
     rcases zM.mp h with q|q
     .let#[E,L]:=(D.ave b y p).mp q;show#[zL _ E,#v[s p E,L]]
     .rwa[zV.mp q,#[yZ _ 'û',by rw[F];show z]]
    .let#[E,L]:=(D.ave b y p).mp h;show#[zL _ E,#v[s p E,L]]
   .rintro⟨m,f⟩;rcases zM.mp m with q|q
    .rw[s p q] at f;have:=(D.ave b y p).mpr #[q,f];split
     .show zL _ this
     .show this
    .rw[zV.mp q,F] at f;rwa[aM f,zV.mp q,yZ _ 'û']
  .rw[zV.mp y,w];show#[λh=>(by cases h),λ⟨m,f⟩=>?_]
   rcases zM.mp m with q|q
   .rw[s p q] at f;show gS (Xh D.wf q f).1 v
   .rw[zV.mp q,F] at f;show gS f I
 .unfold Wn Yi;rcases zM.mp d with y|y
  .let m:=D.hs b y;rw[K.count_eq,vL,Km Q] at m;rw[aK (J b y),qT (J b y).symm];split
   .next z=>rw[aM z] at m;lia
   .next z=>rw[aK z] at m;lia
  .rw[zV.mp y,aK I,aM rfl,R,vV,List.count_eq_zero.mpr λz=>v (O _ z)]
 .rcases zU.mp d with y|y
  .rwa[y,yZ _ 'û']
  .show zL _ (O b y)
theorem Dg.hold(D:'l')(d:x∈lv):Dg lv ts av (NF ho x) U g (x::o):=by
 show#[D.wf,D.nd,D.avn,D.ave,λb a=>?_,λb a=>?_,D.u]
 .have:=D.hs b a;unfold NF;by_cases y:b=x
  .rw[aM y,y,vV];rw[y] at this;lia
  .rwa[aK y,qT (λz=>y z.symm),this]
 .rcases zU.mp a with y|y
  .rwa[y,d]
  .show D.own b y
theorem Dg.less(D:Dg lv ts av ho U g (x::o)):Dg lv ts av (WK ho x) U g o:=by
 show#[D.wf,D.nd,D.avn,D.ave,λb a=>?_,λb a=>D.own b (zS _ a),D.u];have:=D.hs b a;unfold WK;by_cases y:b=x
 .rw[y,vV] at this;rw[aM y,y];lia
 .rw[qT (λz=>y z.symm)] at this;rwa[aK y,this]
theorem Dg.drop(D:Dg lv ts av ho U g (x::o))(m:Tp av ho x):Dg (lv.erase x) ts (WI (ts^x).bs x av) (WK ho x) U g o:=by
 let l:=D.own x zX;let e:∀{a:Nat},a∈lv.erase x↔a≠x/\a∈lv:=D.nd.mem_erase_iff;let s:∀ p∈lv,x∉(ts^p).bs:=λp A y=>by
  have:=(D.ave x l p).mpr #[A,y];erw[m.1] at this
 let B:=D.free (.top l m) (λi j _=>#v[zV.mp j,zX]) x zX
 let k:=D.hs x l;rw[m.2,vV] at k;let L:=D.less;show#[λi j=>?_,D.nd.erase _,λb d=>?_,λb d p=>?_,λb d=>L.hs b (e.mp d).2,λb d=>e.mpr #[λy=>?_,L.own b d],D.u.keep λb d=>#[e.mpr #[λy=>B (y▸d),D.u.inn b d],Z]]
 .let f:=D.wf i (e.mp j).2;exists f.ne,f.up,f.inn,f.leaf;intro z;let#[t,v,q,w]:=f.stem z;show#[t,v,λb d=>#[e.mpr #[λy=>s i (e.mp j).2 (y▸d),(q b d).1],(q b d).2],w]
 .unfold WI;split
  .show(D.avn b (e.mp d).2).erase _
  .show D.avn b (e.mp d).2
 .let h:=D.ave b (e.mp d).2 p;unfold WI;split
  .rw[(D.avn b (e.mp d).2).mem_erase_iff,h,e,and_assoc]
  .next z=>
   rwa[h,e,#[λ⟨a,b⟩=>#[#[λy=>z (y▸b),a],b],λ⟨a,b⟩=>#[a.2,b]]]
 .have:=wR.mpr (y▸d)
  lia
theorem Dg.chl(D:'l')(rd:Rd lv av ho n (n::up))(h:∀ i∈n::up,av i=[]->i∈o)(C:'Ě')(e:t.bs=(ts^n).bs):Dg lv cur av ho U g o:=by
 let f:=D.free rd h;let d:∀ i,(cur^i).bs=(ts^i).bs:=λi=>by
  by_cases y:i=n
  .rw[y,C.at_,e]
  .show C.sh i y
 show#[C.wf,D.nd,D.avn,λb a p=>#v[d,D.ave b a p],D.hs,D.own,D.u.keep λb a=>#[D.u.inn b a,C.old b λy=>f b y a]]
theorem Dg.chs(D:'l')(rd:Rd lv av ho n (n::up))(J:∀ i∈n::up,av i=[]->i∈o)(C:'Ě')(e:t.bs=bs)(B:bs.Nodup)(I:(ts^n).bs.Nodup)(A:o.Perm (Y1 ts n bs++rest)):
  Dg lv cur (Vr ts n bs av) (Vu ts n bs ho) U g (XH ts n bs++rest):=by
 let E:=D.free rd J;let l:=rd.lt;let k:∀ i,i∈Y1 ts n bs↔i∈bs/\i∉(ts^n).bs:=λi=>by unfold Y1;simp
 let j:∀ i,i∈XH ts n bs↔i∈(ts^n).bs/\i∉bs:=λi=>by unfold XH;simp
 let H:(Y1 ts n bs).Nodup:=B.sublist xB;let G:(XH ts n bs).Nodup:=I.sublist xB;let m:(cur^n).bs=bs:=by rw[C.at_,e]
 let s:∀ b,Vr ts n bs av b=if b∈XH ts n bs then (av b).erase n else if b∈Y1 ts n bs then av b++[n] else av b:=λb=>by
  unfold Vr WI Yb;by_cases y:b∈XH ts n bs
  .rw[aM y,aM y,aK λz=>((j b).mp y).2 ((k b).mp z).1]
  .rw[aK y,aK y]
 show#[C.wf,D.nd,λb d=>?_,λb d p=>?_,λb d=>?_,λb d=>?_,D.u.keep λb d=>#[D.u.inn b d,C.old b λy=>E b y d]]
 .rw[s];split
  .show(D.avn b d).erase _
  .split
   .next z=>
    rwa[yO,#[D.avn b d,by simp,λa v c F q=>((k b).mp z).2 (by
     rw[zV.mp F] at q;rw[q] at v;show((D.ave b d n).mp v).2)]]
   .show D.avn b d
 .let h:=D.ave b d p;rw[s];by_cases z:p=n
  .cases z;rw[m];split
   .next y=>
    rwa[(D.avn b d).mem_erase_iff,#[λq=>gS Z q.1,λq=>gS q.2 ((j b).mp y).2]]
   .next y=>
    split
    .next f=>show#[λ_=>#[l,((k b).mp f).1],λ_=>yZ _ 'û']
    .next f=>
     rwa[h,#[λq=>#[l,Classical.byContradiction λw=>y ((j b).mpr #[q.2,w])],λq=>#[l,Classical.byContradiction λw=>f ((k b).mpr #[q.2,w])]]]
  .rw[C.sh p z,<-h];split
   .rwa[(D.avn b d).mem_erase_iff,#[λq=>q.2,λq=>#[z,q]]]
   .split
    .rwa[zM,zV,#[λq=>q.resolve_right z,.inl]]
    .show Iff.rfl
 .let h:=D.hs b d;rw[A.count_eq,vL,Km H] at h;rw[vL,Km G];unfold Vu Xq Wn;by_cases y:b∈XH ts n bs
  .let f:b∉Y1 ts n bs:=λz=>((j b).mp y).2 ((k b).mp z).1;rw[aK f] at h;rw[aM y,aK f,aM y]
   lia
  .rw[aK y,aK y];by_cases f:b∈Y1 ts n bs
   .rw[aM f] at h⊢;lia
   .rw[aK f] at h⊢;lia
 .rcases zM.mp d with y|y
  .show(Xh D.wf l ((j b).mp y).1).1
  .show D.own b (A.mem_iff.mpr (yZ _ y))
end
inductive WC(jT jU CD:aj):Sp
 |told {vs:je} {H:Hp} {Q:VK} {E:XK}:Ys jT jU vs H Q E->WC jT jU CD vs H Q E
 |shared {S d lk:aj} {lv:jj} {ts:jk} {av:Nat->jj} {ho:Nat->Nat} {as:jr} {kvs:List (ZY×V)} {ls:je} {i:Nat} {H:Hp} {Q:VK} {E:XK}:Zm jT jU H S d lk lv ts av ho as kvs ls->i∈lv->1<↑(av i)+ho i->IX CD (i:Nat) E H->WC jT jU CD [.ref S,.int (i:Nat)] H Q E
theorem B9(F:'ę')(L:'d')(N:XN P w K mg jW "Shared" CD "number")(DH:-ZB ZJ 2 jT "holders" U' (Xl jT jU λ_ p us=>.int ((↑us:Nat)+(p:Nat):Int)))(DT:'e'):-ZI (Um P w) 3 f fd U' (WC jT jU CD):=by
 show F.okD Xz (λvs H Q E h=>(by rcases h with ⟨h⟩|_<;>first|(cases h;rfl)|rfl)) (λa6 A a5 s H vs Q E I h=>?_)
 let nd:=Xz.nd;let a4:=I.to 1;intro Xc;show#[_,ZK (Zf 2 nd (Yy 'f')) (ZR (Oh Dv (Xk OI)
  (ZK (Z4 (YO U9 (Zs (E:=E0) (pv 0) L.cS DH I Zn 'R') ZM (Z9 _)) (ZR (nP yd N I 'R' Z)) Z6)
  (ZK (Zf 3 nd (XS (Zs (E:=E0) (pv 0) L.cS DT a4 Zn 'R') Z))
  (ZK 'à'
  'ø'))))),?_]
 rcases h with ⟨h⟩|⟨R,hi,h2,k⟩
 .let#[R,rd,l9,k]:=h;rename_i S d J lv O e p y n M i l
  exists 1,Yc;intro r o;exists Ih S lv e p l i H r,#[_,.mk (rr:=[]) (x3:=Y') rd Z (Zv o _) o Za];rintro _ _ H1 (@⟨b,rr,lr,x3,_,q,V,u,o,B⟩);show#[1,Z2 #[_,λ_ _ z=>z,?_]];let U:=q.lt;let c:=R.same u;let#[C,G]:=c.sh.self;let W:=c.tw b U;let#[dt,hx]:=W.tw.self;let o1:↑(e b)+p b=1:=by
   cases q with
   |top _ t=>rw[t.1,t.2];rfl
   |up _ T a2=>rw[T,a2];rfl
  let lI:↑(iN (e b))=↑(e b):=zW _;show#[1,S,C,1,G,Z,1,(1),Z,.inl #[r,_,_,.int (b:Nat),Z,Z,ZF.of B,PN _ _,S,d,J,↑O,n,M,(b:Int),_,_,_,_,_,1,#[c.sh,c.val b U,W.tw],?_]];exists _,1,Z,_,Z;rw[show gU ((↑(iN (e b)):Nat)+(p b:Nat)>(1:Int))=false from aI (by rw[lI];lia)]
  show Zq #[1,S,C,1,G,Z,1,(1),Z,.inl #[r,_,_,.int (b:Nat),Z,Z,ZF.of B,PN _ _,S,d,J,↑O,n,M,(b:Int),.ref y[b]!.x,Z,c.sh,c.val b U,y[b]!.x,jU,dt,_,.ref y[b]!.ab,Z,hx,L.cT,L.nab,Z,?_]];exists 1,Yc;intro e0 Y;let D:=Zv Y (.lst []);let a:=D _ _ W.tw.above;let g:=D _ _ B;let v:=u|||D;exists y[b]!.ab,e0,1,Z,ZF.of a,ZF.of Za,_,Z;generalize upd H1 e0 (.lst [])=H3 at D a g v⊢
  cases q with
  |top _ t=>
   rwa[t.1,show (iN ([]:jj)).isEmpty=V' from Z,Z2 #[1,k _ H3 v o (by rw[V];show g)]]
  |up a0 T a2 a3=>
   rename_i j lq
   rw[T] at a⊢;let ll:=congrArg xG V;rw[zR,zN] at ll;rw[show (iN [j]).isEmpty=false from rfl];show Zq #[1,.inl #[Z,_,ZF.of g],1,.inl #[y[b]!.ab,_,(0),.int (j:Nat),Z,Z,ZF.of a,Yf (j:=0) Z,r,_,.int (j:Nat),Z,Z,g,Yq (by simp[iN];lia),?_]]
   show#[↑lq,by simp,.mk (rr:=rr++[b]) a3 (by rw[V,yT];rfl) (UW v o) o ?_]
   rw[Za];simp[iN]
 .rename_i S d J lv O e p y n M i
  exists 1,Yc;intro r o;let u:=Zv o (.lst (iN [i]));exists λm σ H'=>m=0/\σ=[Z' !S,Z' (.int (i:Int)),Z' !r,Y']/\ZE H H'/\H' r\.lst (iN [i]),#[(0),Z,Z,u,Za];rintro _ _ H1 ⟨rfl,rfl,u,B⟩;show#[1,Z2 #[_,λ_ _ z=>z,?_]];let c:=R.same u;let#[C,G]:=c.sh.self;let W:=c.tw i hi;let lI:↑(iN (e i))=↑(e i):=zW _;show#[1,S,C,1,G,Z,1,(1),Z,.inl #[r,_,_,.int (i:Nat),Z,Z,ZF.of B,PN [] _,S,d,J,↑O,n,M,(i:Int),_,_,_,_,_,1,#[c.sh,c.val i hi,W.tw],?_]];exists _,1,Z,_,Z;rw[show gU ((↑(iN (e i)):Nat)+(p i:Nat)>(1:Int))=V' from aJ (by rw[lI];lia)]
  show Z2 #[1,(1),Z,.inl #[r,_,_,.int (i:Nat),Z,Z,ZF.of B,PN [] _,1,λdd X=>k.go u X]]
structure XD(K:zZ)(mg:jb)(CD:aj):Prop where
 at_:mg "Shared"=Z' !CD
 ty:wE K (!CD)\.type "type"
 mB:xE K CD 'x'\true
 self:xE K CD (!CD)\true
inductive XM(jT jU:aj):Sp
 |told {vs:je} {H:Hp} {Q:VK} {E:XK}:Uj jT jU vs H Q E->XM jT jU vs H Q E
 |shared {S d lk:aj} {lv:jj} {ts:jk} {av:Nat->jj} {ho:Nat->Nat} {as:jr} {kvs:List (ZY×V)} {ls:je} {i:Nat} {H:Hp} {Q:VK} {E:XK}:Zm jT jU H S d lk lv ts av ho as kvs ls->i∈lv->1<↑(av i)+ho i->(∀(H':Hp),ZE H H'->Q 'ř' H')->XM jT jU [.ref S,.int (i:Nat)] H Q E
theorem oO(F:Zl K "alone" "Shelf.alone" IQ f fd)(L:'d')(N:XD K mg CD)(l:-ZB (Um P w) 3 jT "road_up" U' (WC jT jU CD)):-ZI ZJ 4 f fd U' (XM jT jU):=by
 show F.ok xc (λz H Q E h=>(by rcases h with ⟨h⟩|_<;>first|(cases h;rfl)|rfl)) (λp A g s H z Q E v h=>?_)
 let#[M,q,n,m,o]:=l.ex;intro C;exists _,ZK (Bi (λ_=>pv 0) L.cS n m v o (λ_=>ZQ (pv 1)) Z Z Z N.at_ N.ty N.mB (λJ B=>ZR (Zh OI))) 'ì';rcases h with ⟨h⟩|⟨R,u,t,k⟩
 .let#[R,rd,y,k]:=h;let#[b,c]:=R.sh.self;show#[1,_,b,1,c,Z,1,.told (.mk R rd y λr a j _ _=>k a j)]
 .rename_i S d T V W G O D x U i
  let#[b,c]:=R.sh.self;show#[1,S,b,1,c,Z,1,.shared R u t λI a j e=>#[CD,Z,N.self,k a j]]
section
variable{jT jU:aj}{H H':Hp}{X:ZV}{lk:aj}{ls:je}
theorem Zm.but(R:Zm jT jU H X.S X.d lk X.lv X.ts X.av X.ho X.as X.kvs ls)(s:ZG c H H')(a:H c\.lst o)(h:Ze X lk c):Zm jT jU H' X.S X.d lk X.lv X.ts X.av X.ho X.as X.kvs ls:=by
 let t:=s.tups a;let#[#[j,f],g,k]:=R.sh;show#[#[#[j,s _ _ f (ZZ f a)],s _ _ g (ZZ g a),s _ _ k h.2.2.1.symm],R.lt,R.keys,R.val,R.len,λi b=>?_,R.own,R.two];let#[p,l]:=(R.tw i b).tw.self;let#[_,m,n]:=h.2.2.2 i b;show(R.tw i b).frame t (λo e=>s _ _ e (ZZ l a)) (λo e=>s _ _ e n.symm) (λo e=>s _ _ e m.symm)
end
inductive LP(H:Hp)(p:Nat×Nat)(bs:jj)(l:aj):V->Prop
 |mk{t fv:aj}{kd:Str}:H t\.tup [.int (p.1:Int),.int (p.2:Int),.ref fv]->H fv\.tup [.str kd,.ref l]->H l\.lst (iN bs)->LP H p bs l (.ref t)
inductive Yl:Sp
 |mk{p:Nat×Nat}{a:jj}{l:aj}{u:V}{H:Hp}{Q:VK}{E:XK}:LP H p a l u->Q (.ref l) H->Yl [u] H Q E
theorem xw:ZC T2 T2 (Zc Jz):=Zo
theorem ui(F:Zl K "branches_of" "branches_of" Jz f fd):-ZI ZJ 1 f fd T2 Yl:=by
 show F.ok xw (λe H Q E h=>(by cases h;rfl)) (λb A a s H e Q E j h=>?_)
 let#[#[c,d,i],q]:=h;intro g;exists _,ZR (Zh (XL K 'B' ZM));show#[1,_,_,_,1,Z,Zp.of c,Z,_,_,_,1,Z,Zp.of d,Z,q]
inductive Ua:Sp
 |mk{p:Nat×Nat}{a:jj}{l:aj}{u:V}{b:Nat}{H:Hp}{Q:VK}{E:XK}:LP H p a l u->a[if 0<p.2 then p.2-1 else 1]?\b->Q (.int (b:Nat)) H->Ua [u] H Q E
theorem Sg:ZC T2 T2 (Zc Ip):=Zo
theorem K'(F:Zl K "neighbour" "neighbour" Ip f fd)(i:'v'):-ZI ZJ 2 f fd T2 Ua:=by
 show F.ok Sg (λr H Q E h=>(by cases h;rfl)) (λm A c s H r Q E o h=>?_)
 let#[g,n,q]:=h;rename_i p k l u b
 let#[d,v,e]:=id g;intro t;exists _,ZR (Zh (Zy K (Zd i o 't') (Mw (YO U9 'B' ZM (Z9 _)) (Z5 Vg 'B' ZM) ZM)));let a:(iN k)[if 0<p.2 then p.2-1 else 1]?\.int (b:Nat):=by unfold iN;rw[zK,n];rfl
 show#[1,.mk g #[1,_,_,_,1,Z,Zp.of d,Z,_,1,Z,1,?_]];by_cases z:0<p.2
 .rw[aJ (show ((p.2:Nat):Int)>0 by lia)]
  rw[aM z] at a;show Z2 #[1,_,_,_,1,Z,Zp.of d,Z,_,1,Z,?_];show .inl #[l,_,((p.2:Nat):Int)-1,1,Z,ZF.of e,#v[show ((p.2:Nat):Int)-1=((p.2-1:Nat):Int) by lia,Yf a],q]
 .rw[aI (show ¬ ((p.2:Nat):Int)>0 by lia)]
  rw[aK z] at a;show Zq (.inl #[l,_,_,_,Z,Z,ZF.of e,Yf (j:=1) a,q])
inductive Ug(jT jU:aj):Sp
 |mk{X:ZV}{e:aj}{g:je}{a b:Nat}{H:Hp}{Q:VK}{E:XK}:Zm jT jU H X.S X.d e X.lv X.ts X.av X.ho X.as X.kvs g->WF X.lv X.ts->a∈X.lv->b∈X.lv->(∀ c,ZE H c->Q (.bl ((Zw (X^a)).lo.lt (Zw (X^b)).lo)) c)->Ug jT jU [.ref X.S,.int (a:Nat),.int (b:Nat)] H Q E
theorem Rf:ZC Tg Tg (Zc HZ):=Zo
theorem zm(F:Zl K "stands_ahead" "stands_ahead" HZ f fd)(T:YM mg)(L:'d')(o:-ZB ZJ 2 jT "label" U' (Xl jT jU λO _ _=>O))(D:'.'):-ZI ZJ 8 f fd Tg (Ug jT jU):=by
 show F.ok Rf (λU H Q E h=>(by induction h;rfl)) (λG A n s H U Q E t h=>?_)
 induction h
 rename_i X x y a b H Q E R u e g q
 let c:=t.mono (show 2<=7 by lia)
 let#[Y,z]:=T.least;intro W;exists _,ZR (Zh (Zd D t (Zu (Zy K (Zs (E:=E0) (pv 0) L.cS o c Zn 'f') (Xp (v:=.int 1) Z z #[_,Z])) (Zy K (Zs (E:=E0) (pv 0) L.cS o c Zn 'o') (Xp (v:=.int 1) Z z #[_,Z])))));let#[p,r]:=R.sh.self;let#[M,B,wa,i,l,I,_]:=(R.tw a e).tag;let#[N,C,wb,k,m,J,_]:=(R.tw b g).tag;exists 1,X.S,p,1,r,Z,1,X.S,X.d,x,↑X.ts,X.kvs,y,(a:Int),_,_,_,_,_,1,#[R.sh,R.val a e,(R.tw a e).tw];let i:X.as[a]!.tg=M:=V.ref.inj i;let k:X.as[b]!.tg=N:=V.ref.inj k;show .inr (.inl #[X.as[a]!.tg,_,(1),B,Z,Z,Zp.of #v[i,l],Yf (j:=1) Z,?_])
 exists 1,X.S,p,1,r,Z,1,X.S,X.d,x,↑X.ts,X.kvs,y,(b:Int),_,_,_,_,_,1,#[R.sh,R.val b g,(R.tw b g).tw];show .inr (.inl #[X.as[b]!.tg,_,(1),C,Z,Z,Zp.of #v[k,m],Yf (j:=1) Z,B,C,_,_,Z,I,J,(LK (u a e)).1,(LK (u b g)).1,q])
abbrev Ch:jn:=["shelf","stem","number","branches","at"]
theorem Qo:ZC Ch TR (Zc MT):=Zo
theorem MX{a b:ZO}(h:a.rows≠[])(i:b.rows≠[])(U:Up (a.rows++b.rows)):(Zw a).lo.lt (Zw b).lo=V':=by
 let#[x,j,c,d]:=Qz h;let#[y,k,e,g]:=Qz i;rw[d,g];unfold Up Ps at U;rw[zH,xA] at U;show U.2.2 x.1 (by rw[c];simp) y.1 (by rw[e];simp)
inductive XU(X:ZV)(e:aj)(H:Hp)(c:jk)(p:Nat×Nat)(u:V):Prop
 |mk(t a:_)(_:u=!t)(_:H t\.tup [.int (p.1:Int),.int (p.2:Int),a])(_:(hJ c p.1).h≠0->∃ b l d,a=.ref b/\H b\.tup [.str d,!l]/\H l\.lst (iN (hJ c p.1).bs)/\Ze X e l)
theorem XU.go{X c:ZV}{f:jk}(h:XU X b H f p u)(G:Go b H a X c)(m:Z1 H a):XU c b a f p u:=by
 let#[t,i,e,j,k]:=h;exists t,i,e,m _ _ j;intro z;let#[r,l,q,g,n,d,o]:=k z;show#[r,l,q,g,m _ _ n,G.fr _ _ o d,G.off _ _ o d]
theorem XU.sp{X:ZV}(h:XU X b H a p u)(z:(hJ a p.1).h≠0):∃ l,LP H p (hJ a p.1).bs l u/\Ze X b l:=by
 let#[t,g,rfl,c,d]:=h;let#[j,l,i,rfl,e,f,o]:=d z;show#[l,.mk c e f,o]
theorem EV(h:b∉a):NF (Xq a c) b=Xq (a++[b]) c:=by
 funext i
 unfold NF Xq;by_cases z:i=b
 .subst z;rw[aM rfl,aK h,aM ⋯]
 .rw[aK z];by_cases y:i∈a
  .rw[aM y,aM (by simp[y])]
  .rw[aK y,aK (by simp[y,z])]
theorem FI{l:jj}(a:l.Nodup)(e:l[i]?\b):l.take (i+1)=l.take i++[b]/\b∉l.take i:=by
 exists by rw[yR,e];rfl
 intro z;let d:l=l.take i++b::l.drop (i+1):=by
  let#[c,e]:=yW.mp e;rw[<-e,<-xH c,wY]
 rw[d,yO] at a;show a.2.2 b z b ⋯ Z
theorem GU(u)(a:je):WX (u::a) (Z' 1) Y'=a:=by
 unfold WX;rw[show (Z' (1:Int))\((1:Nat):Int) from rfl,HT.sIx_nat,HT.sIx_none,zN,vF ()]
 simp
theorem vx{X:ZV}{f:Nat->jj}(k:∀ c o,c≠X.d->(∀ b∈X.lv,c≠X.as[b]!.x/\c≠X.as[b]!.ab)->H c\o->h c\o):Go m H h X #[X.S,X.d,X.lv.erase x,X.ts,f,g,X.as,a]:=
 #[Z,Z,λc o n e=>k c o n.2.1 (λb j=>#[(n.2.2.2 b j).1,(n.2.2.2 b j).2.1]) e,λc o n e=>#[n.1,n.2.1,n.2.2.1,λi l=>n.2.2.2 i (List.mem_of_mem_erase l)]]
abbrev Lf:jn:=["shelf","stem","heir","steps","left","branch","owner"]
theorem VX:ZC Lf TN (Zc Q6):=Zo
inductive CO(jT jU:aj)(X:ZV)(lk:aj)(ls:je)(bs:jj)(H:Hp)(v0 v1 v2 v3 v4:jf):Nat->_T.St->Hp->Prop
 |mk{j:Nat}{x5:jf}{H2:Hp}:(∀ c o,(∀ b∈X.lv,c≠X.as[b]!.x)->H c\o->H2 c\o)->Zm jT jU H2 X.S X.d lk X.lv X.ts X.av (Xq (bs.take j) X.ho) X.as X.kvs ls->CO jT jU X lk ls bs H v0 v1 v2 v3 v4 j [v0,v1,v2,v3,v4,x5,Y'] H2
theorem BH(n:N∉a):Wn a (Yi N (Xq a b))=Yi N b:=by
 funext i
 unfold Wn Yi Xq;by_cases y:i∈a
 .have:i≠N:=λz=>n (z▸y);rw[aM y,aK this,aK this,aM y]
  lia
 .rw[aK y,aK y]
inductive V1(jT jU:aj):Sp
 |mk{X:ZV}{lk:aj}{ls:je}{n:Nat}{H:Hp}{Q:VK}{E:XK}:Zm jT jU H X.S X.d lk X.lv X.ts X.av X.ho X.as X.kvs ls->WF X.lv X.ts->↑X.lv<=800->(∀ b∈X.lv,↑(X.av b)<=800)->n∈X.lv->↑ls<=380000 ->
  (∀(H':Hp)(a:YH)(kvs':List (ZY×V)),Go lk H H' X #[X.S,X.d,X.lv++[↑X.ts],X.ts++[hJ X.ts n],Yb (X^n).bs ↑X.ts (YZ ↑X.ts X.av),Yi ↑X.ts X.ho,X.as++[a],kvs']->Zm jT jU H' X.S X.d lk (X.lv++[↑X.ts]) (X.ts++[hJ X.ts n]) (Yb (X^n).bs ↑X.ts (YZ ↑X.ts X.av)) (Yi ↑X.ts X.ho) (X.as++[a]) kvs' (ls++[.int (n:Int)])->Q (.int (↑X.ts:Nat)) H') ->
  V1 jT jU [!X.S,.int (n:Nat)] H Q E
abbrev Bd:jn:=["shelf","number","found","branch"]
theorem Px:ZC Bd SU (Zc GC):=Zo
inductive Es(jT jU:aj)(X:ZV)(lk:aj)(ls:je)(bs:jj)(H:Hp)(v0 v1 v2:jf):Nat->_T.St->Hp->Prop
 |mk{j:Nat}{x:jf}{H2:Hp}:(∀ c o,(∀ b∈X.lv,c≠X.as[b]!.x)->H c\o->H2 c\o)->Zm jT jU H2 X.S X.d lk X.lv X.ts X.av (Xq (bs.take j) X.ho) X.as X.kvs ls->Es jT jU X lk ls bs H v0 v1 v2 j [v0,v1,v2,x] H2
theorem uj(F0:Zl K "put_copy" "put_copy" GC f fd)(L:'d')(DL:'j')(DI:'ğ')(DH:'k')(DP:'F')(DS:'u'):-ZI ZJ 11 f fd SU (V1 jT jU):=by
 show F0.ok Px 'a' (λc0 A a9 s H vs Q E V h=>?_)
 induction h
 rename_i X B ls n H Q E R T l8 a8 U c1 q
 let nd:=Px.nd;let a6:=V.mono (show 1<=10 by lia)
 let N:=V.mono (show 2<=10 by lia)
 intro Xc;show#[_,ZK (Zf 2 nd (Zs (E:=E0) (pv 0) L.cS DL N Zn (ZQ (pv 1))))
  (ZK (Z4 (Xk (Zd DI a6 'o')) (ZR (Zh (Zs (E:=E0) (pv 0) L.cS DP V Zn (ZQ 'Ņ')))) Z6)
  (ZK (Vi PassesOwn.never Z (WJ 'Ņ') 'Ũ' (ZR (YF (Zs (E:=E0) (pv 0) L.cS DH N Zn 'z'))))
  (ZR (Zh (Zs (E:=E0) (pv 0) L.cS DS V Zn (ZQ 'Ņ')))))),?_]
 let#[dS,hS]:=R.sh.self;exists 1,X.S,dS,1,hS,Z,1,X,B,↑X.ts,ls,n,Z,R.q,U,by lia
 intro F Y l us a2 R1 O nl M k1 W;let p:Zm jT jU F X.S X.d B X.lv X.ts X.av X.ho X.as X.kvs (ls++[.int (n:Int)]):=#[R1.sh,R.lt,R.keys,R.val,R.len,R1.tw,R.own,R.two];let G1:Go B H F X X:=.looks a2;let ol:Ze X B l:=R.new nl;let nN:↑X.ts∉X.lv:=λy=>xW _ (R.lt _ y);exists 1,λ_=>False,hJ X.ts n,1,#[Y,l,us,Z,O,M,λz=>z,k1,W],_,Z;let#[a1,a4]:=p.sh.self;let C:=T n U;by_cases r:(X^n).h=0
 .let eb:=(C.leaf r).1;let J:Xo (X^n).rows=hJ X.ts n:=by
   change (#[(0),(X^n).rows,[]]:ZO)=hJ X.ts n;rw[<-eb,<-r]
  rw[aJ r];show Z2 #[1,X.S,a1,1,a4,Z,1,Y,_,_,1,Z,Zp.of O,Z,X.S,X.d,B,l,X.lv,X.ts,X.av,X.ho,X.as,X.kvs,_,us,(X^n).rows,Z,p,(),M,k1 r,#[C.inn,vW.mpr C.ne,(C.leaf r).2,C.up],λH' a nx nt na u D=>?_]
  rw[J] at D;let ea:Yb (X^n).bs ↑X.ts (YZ ↑X.ts X.av)=YZ ↑X.ts X.av:=by
   rwa[eb,funext λi=>aK ⋯]
  rw[<-ea] at D;show q H' a _ (G1|||N0 R.len R.lt (λc o n1 n2 _ e=>u c o n1 n2 e) nx nt na) D
 .rw[aI r];let W:=W r;subst W;let G:∀ b∈(X^n).bs,b∈X.lv:=λb g=>(Xh T U g).1;let a0:=UN T U r;let#[b2,b4,b3,er]:=C.stem r;show Zq #[1,Y,_,_,1,Z,Zp.of O,Z,l,Z,#[_,ZF.of M],OB (K:=K) (a:=l) (xs:=iN (X^n).bs) (Es jT jU X B _ (X^n).bs F _ _ _) (.mk (λc o _ e=>e) #v[show (X^n).bs.take 0=[] from Z,show Xq [] X.ho=X.ho from funext λi=>aK ⋯,p]) ?_ ?_ ?_]
  .rintro j _ H2 _ ⟨k,_⟩;show ZF.of (k _ _ (λb g=>(ol.2.2.2 b g).1) M)
  .rintro j y _ H2 hy ⟨k,R2⟩;let#[b,I,rfl]:=MF hy;let#[J,nb]:=FI a0 I;let#[t,v]:=R2.sh.self;let g:=G b (zG I);show#[1,X.S,t,1,v,Z,1,.mk R2 g λH3 a3 R3=>.mk (λc o n e=>a3 c o (n b g) (k c o n e)) (by rwa[J,<-EV nb,R3])]
  .rintro _ H2 ⟨k,R2⟩;rw[show ↑(iN (X^n).bs)=↑(X^n).bs from zW _,zA (zY _)] at R2;let#[t,v]:=R2.sh.self;let a7:=k _ _ (λb g=>by
    let#[dx,e]:=(p.tw b g).tw.self;show ZZ O e) O
   let a5:=k _ _ (λb g=>(ol.2.2.2 b g).1) M;let ov:=N5 (ts:=X.ts) (bs:=(X^n).bs) (h:=(X^n).h-1) (λb g=>#[(T b (G b g)).ne,by have:=(b3 b g).2;lia]) b2 b4 (by rwa[<-show (X^n).rows=ZP X.ts (X^n).bs from er,C.up])
   let J:YE X.ts (X^n).bs=hJ X.ts n:=by
    let m0:(X^n).bs.getD 0 0∈(X^n).bs:=#v[zO,zT (),xK _]
    change (#[(hJ X.ts ((X^n).bs.getD 0 0)).h+1,ZP X.ts (X^n).bs,(X^n).bs]:ZO)=hJ X.ts n;rw[(b3 _ m0).2,<-show (X^n).rows=ZP X.ts (X^n).bs from er]
   exists 1,X.S,t,1,v,Z,1,Y,_,_,1,Z,Zp.of a7,Z,X.S,X.d,B,l,X.lv,X.ts,X.av,Xq (X^n).bs X.ho,X.as,X.kvs,_,(X^n).bs,1,R2,T,l8,λb g=>#[G b g,by rw[show Xq (X^n).bs X.ho b=X.ho b+1 from aM g];lia,a8 b (G b g)],a5,ov
   intro H' a nx nt na u D;rw[J,BH λy=>nN (G _ y)] at D;let m:∀{z:aj},H2 z=Y'->F z=Y':=fun{z} e=>by
    cases y:F z with
    |none=>rfl
    |some o=>
     by_cases c:∀ b∈X.lv,z≠X.as[b]!.x
     .erw[k z o c y] at e
     .show gS (λb g w=>?_) c;let#[dx,e2]:=(R2.tw b g).tw.self;erw[<-w,e] at e2
   show q H' a _ (G1|||N0 R.len R.lt (λc o n1 n2 n3 e=>u c o n1 n2 n3 (k c o (λb g=>(n3 b g).1) e)) (m nx) (m nt) (m na)) D
inductive VF(jT jU:aj):Sp
 |mk{S d l:aj}{g:jj}{n:jk}{k:Nat->jj}{e:Nat->Nat}{j:jr}{a:List (ZY×V)}{m:je}{i:Nat}{H:Hp}{Q:VK}{E:XK}:Zm jT jU H S d l g n k e j a m->i∈g->1<=e i->2<=↑(k i)+e i ->
  (∀ h:Hp,(∀ c o,(∀ b∈g,c≠j[b]!.x)->H c\o->h c\o)->Zm jT jU h S d l g n k (WK e i) j a m->Q .non h)->VF jT jU [!S,.int (i:Nat)] H Q E
theorem Ez(F:'ġ')(L:'d')(X:'r')(DT:'e')(Y:'ģ'):
  ZI P w K mg jW ZJ 5 f fd U' (VF jT jU):=by
 show F.ok Wy 'a' (λa0 A M s H vs Q E T h=>?_)
 induction h
 rename_i S d U lv W av b a y V i H Q E R p h1 h2 k
 let nd:=Wy.nd;let I:=T.mono (show 1<=4 by lia)
 let v:=T.mono (show 3<=4 by lia)
 intro Xc;show#[_,ZK (YF (Zs (E:=E0) (pv 0) L.cS X v Zn (ZQ (Yy (ZQ (pv 1))))))
  (ZK (Zf 2 nd (Zs (E:=E0) (pv 0) L.cS DT I Zn 'f'))
  (ZK (Mp (pv 2) ZM Lc)
  (ZR (YF (Zs (E:=E0) (pv 0) L.cS Y v Zn 'f'))))),?_]
 let#[dx,hS]:=R.sh.self;exists 1,S,dx,1,hS,Z,1,Yc;intro l nl;let#[z,eU,g,hl]:=Yo nl (.lst [.int (i:Nat)]);rw[eU];let j:=R.same g;let#[q,t]:=j.sh.self;let C:=j.tw i p;let#[m,J]:=C.tw.self;let u:=C.tw.above;exists S,l,[(i:Int)],Z,hl,#[q,_,t,Z],λn hn=>?_
 .rwa[zV.mp hn,#[d,U,↑W,y,V,_,_,_,_,_,_,#[j.sh,j.val i p,C.tw],()]]
 exists 1,S,q,1,t,Z,1,S,d,U,↑W,y,V,(i:Int),.ref a[i]!.x,Z,j.sh,j.val i p;exists 1,a[i]!.x,jU,m,_,.int (b i:Nat),Z,J,L.cT,L.nho,Z,_,1,Z,m,_,J,yS Z;let N:a[i]!.ab≠a[i]!.x:=ZZ u J;let eh:((b i:Nat):Int)-1=((b i-1:Nat):Int):=()
 let O:WK b i i=b i-1:=aM Z;let B:=j.set1 (H':=upd z a[i]!.x (.ins jU m (YW "holds" (.int (((b i:Nat):Int)-1)) (WQ (.ref a[i]!.th) (.ref a[i]!.tg) a[i]!.ab (b i))))) p (av':=av) (ho':=WK b i) (λ_ _=>rfl) (λc n=>aK n) #[m,by
  rw[Za,O,eh];rfl] #v[ZU N,u] λc o n1 _ e=>#v[ZU n1,e]
 let r:∀ c o,c≠a[i]!.x->z c\o->upd z a[i]!.x (.ins jU m (YW "holds" (.int (((b i:Nat):Int)-1)) (WQ (.ref a[i]!.th) (.ref a[i]!.tg) a[i]!.ab (b i)))) c\o:=λc o n e=>#v[ZU n,e]
 generalize upd z a[i]!.x (.ins jU m (YW "holds" (.int (((b i:Nat):Int)-1)) (WQ (.ref a[i]!.th) (.ref a[i]!.tg) a[i]!.ab (b i))))=H3 at B r⊢;let#[D,G]:=B.sh.self;show#[1,S,D,1,G,Z,1,.mk B p (by rw[O];lia) (k H3 (λc o n e=>r c o (n i p) (g _ _ e)) B)]
theorem Rd.keep(rd:'Ū'):(∀ i∈ch,i∈lv'/\av' i=av i/\ho' i=ho i)->Rd lv' av' ho' c ch:=by
 induction rd with
 |top _ t=>show λk=>.top (k _ zX).1 #[(k _ zX).2.1|||t.1,(k _ zX).2.2|||t.2]
 |up _ a1 a2 _ ih=>show λk=>.up (k _ zX).1 ((k _ zX).2.1|||a1) ((k _ zX).2.2|||a2) (ih λi hi=>k i (zS _ hi))
theorem Rd.inn(rd:'Ū'):∀ i∈ch,i∈lv:=by
 induction rd with
 |top h _=>show λi hi=>#v[zV.mp hi,h]
 |up h _ _ _ ih=>show λi hi=>(zU.mp hi).elim (λy=>y▸h) (ih i)
theorem MB:∀{l m:jj},l.Nodup->(∀ x∈l,x∈m)->↑l<=↑m
 |[],_,_,_=>yY _
 |a::l,m,b,hs=>by
  let b:=yQ.mp b;let c:=hs a zX;have:=MB (l:=l) (m:=m.erase a) b.2 λx d=>(List.mem_erase_of_ne (show x≠a from λy=>b.1 (by rwa[<-y,d]))).mpr (hs x (zS _ d))
  let e:=pR c;have:=rD c;rw[zN]
  lia
section
variable{lv:jj}{ts cur:jk}{av:Nat->jj}{ho:Nat->Nat}{U:Nat->Prop}{g:Nat->Nat}{o rest bs up ps:jj}{r n x c:Nat}{A B:jl}
theorem Dg.avl(D:'l')(a:b∈lv):↑(av b)<=↑lv:=MB (D.avn b a) λp d=>((D.ave b a p).mp d).1
theorem Dg.holds(D:'l')(e:bs.Nodup)(d:∀ b∈bs,b∈lv):Dg lv ts av (Xq bs ho) U g (bs++o):=by
 show#[D.wf,D.nd,D.avn,D.ave,λb a=>?_,λb a=>(zM.mp a).elim (d b) (D.own b),D.u];have:=D.hs b a;rw[vL,Km e];unfold Xq;split<;>lia
theorem Dg.copy(D:'l')(j:∀ i∈lv,i<↑ts)(a:n∈lv):Dg (lv++[↑ts]) (ts++[hJ ts n]) (Yb (ts^n).bs ↑ts (YZ ↑ts av)) (Yi ↑ts ho) U g (↑ts::o):=by
 let d:∀ b∈(ts^n).bs,b∈lv:=λb l=>(Xh D.wf a l).1;let e:(ts^n).bs.Nodup:=by
  by_cases f:(ts^n).h=0
  .rwa[((D.wf n a).leaf f).1,vU]
  .show UN D.wf a f
 let k:=D.wf n a;have:=(D.holds e d).put j (t:=hJ ts n) #[k.ne,k.up,k.inn,k.leaf,k.stem] e (yP.refl _);rw[BH λy=>xW _ (j _ (d _ y))] at this;show this
theorem Dg.change(K:∀ i∈lv,i<↑ts)(D:'l')(u:r∈lv)(rd:Rd lv av ho n (n::up))(O:∀ i∈n::up,av i=[]->i∈o)(z:YV ts r (n::up) ps A B)(s:(ts^n).h≠0)(a:∀ b∈bs,b∈lv/\(ts^b).h+1=(ts^n).h)(v:2<=↑bs)(w:↑bs<=4)(N:o.Perm (Y1 ts n bs++rest))(W:Up (A++ZP ts bs++B)):
  gX (YI ts bs)\Zw (YE ts bs)/\(YE ts bs).h=(ts^n).h/\bs.Nodup/\∃ cur,Q3 lv (ts.set n (YE ts bs)) up cur/\Ow lv ts cur r n up (YE ts bs) (A++ZP ts bs++B)/\Dg lv cur (Vr ts n bs av) (Vu ts n bs ho) U g (XH ts n bs++rest)/\YV cur r (n::up) ps A B/\(∀ i,(ts^n).h<=(ts^i).h->Vr ts n bs av i=av i/\Vu ts n bs ho i=ho i):=by
 let t:=rd.lt;let m:∀ b∈bs,(ts^b).rows≠[]:=λb h=>(D.wf b (a b h).1).ne;let j:Up (ZP ts bs):=UD W ((yF A _)|||yG _ B);let d:=N3 m j;let l:bs.getD 0 0∈bs:=#v[zO,zT (),xK _]
 let f:(YE ts bs).h=(ts^n).h:=(a _ l).2;let M:=N5 (ts:=ts) (bs:=bs) (h:=(ts^n).h-1) (λb h=>#[m b h,by have:=(a b h).2;lia]) v w j
 let p:ZP ts bs≠[]:=λy=>by
  let#[q,Q,e,_]:=Qz (m _ l);have:q∈ZP ts bs:=xT.mpr #[_,l,#v[e,zX]]
  erw[y] at this
 let k:∀ q∈ZP ts bs,q.fit:=λq J=>by
  let#[b,H,I]:=xT.mp J;show(D.wf b (a b H).1).inn q I
 let L:XB lv ts n (YE ts bs):=#[p,j,k,λy=>gS y #v[f,s],λ_=>#[v,w,λb h=>#[(a b h).1,#v[f,(a b h).2]],Z]]
 let#[cur,G,C]:=Ls K D.wf u D.avk rd z f L W;exists M,f,d,cur,G,C,D.chs rd O C Z d (UN D.wf t s) N,z.chd D.wf u C;intro i P;let E:i∉Y1 ts n bs:=λy=>by
  have:=(a i (by unfold Y1 at y;show(yH.mp y).1)).2
  lia
 let F:i∉XH ts n bs:=λy=>by
  have:=(Xh D.wf t (by unfold XH at y;show(yH.mp y).1)).2.1
  lia
 unfold Vr Vu WI Xq Yb Wn;rwa[aK F,aK F,aK E,aK E,#[Z,Z]]
end
structure Sd(jT jU:aj)(H:Hp)(X:ZV)(lk:aj)(ls:je)(U:Nat->Prop)(g:Nat->Nat)(o:jj):Prop where
 sh:Zm jT jU H X.S X.d lk X.lv X.ts X.av X.ho X.as X.kvs ls
 dg:Dg X.lv X.ts X.av X.ho U g o
theorem Sd.same{a b:aj}{H c:Hp}{X:ZV}{lk:aj}{d:je}{U:Nat->Prop}{g:Nat->Nat}{o:jj}(h:Sd a b H X lk d U g o)(s:ZE H c):Sd a b c X lk d U g o:=#[h.sh.same s,h.dg]
theorem Sd.all{X:ZV}(h:Sd a b H X d e U g o):↑X.lv<=↑X.ts:=by
 have:=MB (m:=yD ↑X.ts) h.dg.nd λx c=>wL.mpr (h.sh.lt x c);rw[List.length_range] at this;show this
theorem oY{ts:jk}{p n N:Nat}{l m:jj}(j:(ts^p).bs=l++n::m)(g:(ts^p).bs.Nodup)(c:N∉(ts^p).bs):Y1 ts p (l++N::m)=[N]/\XH ts p (l++N::m)=[n]:=by
 unfold Y1 XH;rw[j] at g c⊢;let d:=yO.mp g;let i:=yQ.mp d.2.1;let o:∀ b∈l,b≠n:=λb a y=>d.2.2 b a n zX y;let r:∀ b∈m,b≠n:=λb a y=>i.1 (y▸a);let e:∀(k:jj),(∀ b∈k,b∈l++n::m)->k.filter (λb=>gU (b∉l++n::m))=[]:=λk h=>wX.mpr λb a=>by simp only[decide_eq_true_eq];show λy=>y (h b a)
 let f:∀(k:jj),(∀ b∈k,b∈l++N::m)->k.filter (λb=>gU (b∉l++N::m))=[]:=λk h=>wX.mpr λb a=>by simp only[decide_eq_true_eq];show λy=>y (h b a)
 let nn:n∉l++N::m:=λy=>by
  rcases zM.mp y with q|q
  .show o n q Z
  .rcases zU.mp q with q|q
   .show c (by rw[<-q];simp)
   .show r n q Z
 constructor
 .rw[yB,uZ #v[c],e l (λb a=>by simp[a]),e m (λb a=>by simp[a])]
  rfl
 .rw[yB,uZ #v[nn],f l (λb a=>by simp[a]),f m (λb a=>by simp[a])]
  rfl
theorem K8{n N:Nat}:∀{k:jj},n∉k->(k.map λb=>if b=n then N else b)=k
 |[],_=>rfl
 |a::k,h=>by
  rw[yX,K8 (k:=k) λy=>h (zS _ y),aK λy=>h #v[y,zX]]
inductive XX(jT jU:aj):Sp
 |root {X:ZV} {lk:aj} {ls:je} {U:Nat->Prop} {g:Nat->Nat} {o:jj} {r:Nat} {H:Hp} {Q:VK} {E:XK}:Sd jT jU H X lk ls U g (r::o)->↑X.ts<=790->↑ls<=370000 ->
  (∀(H':Hp)(X':ZV)(ls':je)(r':Nat),Go lk H H' X X'->Sd jT jU H' X' lk ls' U g (r'::o)->Tp X'.av X'.ho r'->hJ X'.ts r'=hJ X.ts r->(∀ i∈X.lv,i∈X'.lv/\hJ X'.ts i=hJ X.ts i)->↑X'.ts<=↑X.ts+1->↑ls'<=↑ls+1->Q (.int (r':Nat)) H') ->
  XX jT jU [!X.S,.non,.int (r:Nat)] H Q E
 |stem {X:ZV} {lk:aj} {ls:je} {U:Nat->Prop} {g:Nat->Nat} {o:jj} {r p n:Nat} {up ps l m:jj} {A B:jl} {H:Hp} {Q:VK} {E:XK}:Sd jT jU H X lk ls U g o->↑X.ts<=790->↑ls<=370000->r∈X.lv->Rd X.lv X.av X.ho p (p::up)->(∀ i∈p::up,X.av i=[]->i∈o)->↑up<=700->YV X.ts r (p::up) ps A B->(X^p).h≠0->(X^p).bs=l++n::m ->
  (∀(H':Hp)(X':ZV)(ls':je)(n':Nat),Go lk H H' X X'->Sd jT jU H' X' lk ls' U g o->Rd X'.lv X'.av X'.ho n' (n'::p::up)->(∀ i∈p::up,X'.av i=X.av i)->(∀ i∈X.lv,(X^n).h<=(X^i).h->i≠n->X'.av i=X.av i/\X'.ho i=X.ho i)->YV X'.ts r (p::up) ps A B->(X'^p).bs=l++n'::m->hJ X'.ts n'=hJ X.ts n->(X'^r).rows=(X^r).rows->(∀ i∈X.lv,i∈X'.lv/\(X'^i).h=(X^i).h/\(i∉p::up->hJ X'.ts i=hJ X.ts i))->↑X'.ts<=↑X.ts+1->↑ls'<=↑ls+2->Q (.int (n':Nat)) H') ->
  XX jT jU [!X.S,.int (p:Nat),.int (n:Nat)] H Q E
theorem Aq(F0:Zl K "own" "own" Jb f fd)(L:'d')(DA:-ZB ZJ 4 jT "alone" U' (XM jT jU))(DC:-ZA 11 "put_copy" SU (V1 jT jU))(DL:'j')(DS:'2')(DG:-ZB ZJ 5 jT "let_go" U' (VF jT jU)):
  ZI P w K mg jW ZJ 12 f fd TR (XX jT jU):=by
 show F0.ok Ot (λvs H Q E h=>(by cases h<;>rfl)) (λl9 A l5 s H vs Q E hr h=>?_)
 let nd:=Ot.nd;let i9:=hr.mono (show 2<=11 by lia)
 let l0:=hr.mono (show 4<=11 by lia)
 let l1:=hr.mono (show 5<=11 by lia)
 intro Xc;show#[_,ZK (Z4 (Xk (Zs (E:=E0) (pv 0) L.cS DA l0 Zn (ZQ (pv 2)))) (ZR (Zh (pv 2))) Z6)
  (ZK (Na (i:=3) nd Z 'Ē' (Zd DC hr (Zu (pv 0) (pv 2))))
  (ZK (Z4 (Q0 (ME (pv 1)))
   (ZK (Zf 4 nd (XL K (Zs (E:=E0) (pv 0) L.cS DL i9 Zn 'f') ZM))
   (ZR (YF (Zs (E:=E0) (pv 0) L.cS DS hr Zn (Zu (pv 1) (Vt [2,3] ["number","stead"] Z 'ý' (λ_ _ _ _ _=>Ut) (λ_ _ _ _ _=>Mw (YO Vm (pv 0) (pv 1) Z) (pv 2) (pv 0)) #[Z,.inl Z,Z,Z,.inl Z,Z,trivial])))))) Z6)
  (ZK (YF (Zs (E:=E0) (pv 0) L.cS DG l1 Zn 'o'))
  '1'))),?_]
 rcases h with ⟨D,t8,i0,q⟩|⟨D,t8,i0,t,rd,ro,u7,z,h0,O,q⟩
 .rename_i X lk ls U g o r
  let R:=D.sh;let t:=D.dg.own r zX;let hs:=D.dg.hs r t;rw[vV] at hs;let e5:=D.all;let#[dS,hS]:=R.sh.self;by_cases al:Tp X.av X.ho r
  .show#[1,X.S,dS,1,hS,Z,1,.told (.mk R (.top t al) ⋯ λH1 M=>#[1,Z2 #[1,q H1 X ls r (.same M) (D.same M) al Z (λi j=>#[j,Z]) () ()]])]
  let h2:1<↑(X.av r)+X.ho r:=by
   by_cases y:X.av r=[]
   .have:X.ho r≠1:=λw=>al #[y,w]
    lia
   .have:=vW.mpr y
    lia
  show#[1,X.S,dS,1,hS,Z,1,.shared R t h2 λH1 M=>#[1,Zq #[2,.mk (R.same M) D.dg.wf () (λb v=>zJ (D.dg.avl v) ()) t () λH2 a u G2 R2=>#[2,Zq ?_]]]]
  let nN:↑X.ts∉X.lv:=λy=>xW _ (R.lt _ y);let rN:r≠↑X.ts:=λy=>nN (y▸t);let rb:r∉(X^r).bs:=λy=>by have:=(Xh D.dg.wf t y).2.1;lia
  let Nb:↑X.ts∉(X^r).bs:=λy=>nN (Xh D.dg.wf t y).1;let e1:Yi ↑X.ts X.ho r=X.ho r:=aK rN;let e2:Yb (X^r).bs ↑X.ts (YZ ↑X.ts X.av) r=X.av r:=by
   unfold Yb YZ;rw[aK rb,aK rN]
  let#[a7,a9]:=R2.sh.self;let D2:=((D.dg.copy R.lt t).perm (yP.swap _ _ _)).less;show#[1,X.S,a7,1,a9,Z,1,.mk R2 (zL _ t) (by rw[e1];lia) (by rw[e1,e2];lia) λH3 a8 R3=>#[1,?_]]
  show q H3 #[X.S,X.d,X.lv++[↑X.ts],X.ts++[hJ X.ts r],Yb (X^r).bs ↑X.ts (YZ ↑X.ts X.av),WK (Yi ↑X.ts X.ho) r,X.as++[a],u] _ _ (((Go.same M)|||G2)|||#[Z,Z,λc o n e=>a8 c o (λb v=>(n.2.2.2 b v).1) e,λc o n _=>n]) #[R3,D2] #[?_,?_] Qf (λi j=>#[zL _ j,Q4 (R.lt i j)]) (by change ↑(X.ts++[_])<=_;simp) ⋯
  .change Yb _ _ _ _=_;unfold Yb YZ;rw[aK Nb,aM rfl]
  .change WK _ _ _=_;unfold WK Yi;rw[aK rN.symm,aM rfl]
 .rename_i X lk ls U g o r p n up ps l m A0 B0
  let R:=D.sh;let G:=D.dg.wf;let Y:=rd.lt;let nb:n∈(X^p).bs:=by rw[O];simp
  let#[B,i8,_]:=Xh G Y nb;let pn:p∈X.av n:=(D.dg.ave n B p).mpr #[Y,nb];let e5:=D.all;let pl:=rD pn;let#[_,fu,er,_]:=z.facts G t Z;let J:∀ i∈p::up,(X^p).h<=(X^i).h:=λi j=>by
   rcases zU.mp j with y|y
   .rwa[y,zY _]
   .show yE (fu i y).2
  let#[dS,hS]:=R.sh.self;by_cases al:X.av n=[p]/\X.ho n=0
  .show#[1,X.S,dS,1,hS,Z,1,.told (.mk R (.up B al.1 al.2 rd) (by simp;lia) λH1 M=>#[1,Z2 #[1,q H1 X ls n (.same M) (D.same M) (.up B al.1 al.2 rd) (λi _=>rfl) (λi _ _ _=>#[Z,Z]) z O Z Z (λi j=>#[j,Z,λ_=>rfl]) () ()]])]
  let h2:1<↑(X.av n)+X.ho n:=by
   by_cases y:↑(X.av n)=1
   .let#[a,ea]:=gO.mp y;rw[ea] at pn;have:X.ho n≠0:=λw=>al #[by rw[ea,zV.mp pn],w]
    lia
   .lia
  show#[1,X.S,dS,1,hS,Z,1,.shared R B h2 λH1 M=>#[1,Zq #[2,.mk (R.same M) G () (λb v=>zJ (D.dg.avl v) ()) B () λH2 a u G2 R2=>#[2,Z2 ?_]]]]
  let nN:↑X.ts∉X.lv:=λy=>xW _ (R.lt _ y);let F:∀ i∈X.lv,i≠↑X.ts:=λi j y=>nN (y▸j);let Nb:↑X.ts∉(X^n).bs:=λy=>nN (Xh G B y).1;let gl:∀ i∈X.lv,hJ (X.ts++[hJ X.ts n]) i=hJ X.ts i:=λi j=>Q4 (R.lt i j);let gN:hJ (X.ts++[hJ X.ts n]) ↑X.ts=hJ X.ts n:=Qf;let I:∀ i∈X.lv,(X^n).h<=(X^i).h->Yb (X^n).bs ↑X.ts (YZ ↑X.ts X.av) i=X.av i/\Yi ↑X.ts X.ho i=X.ho i:=λi j hh=>by
   have:i∉(X^n).bs:=λy=>by have:=(Xh G B y).2.1;lia
   unfold Yb YZ Yi;rwa[aK this,aK (F i j),aK (F i j),#[Z,Z]]
  let D2:=D.dg.copy R.lt B;let x:∀ i∈p::up,i∈X.lv:=rd.inn;let c9:Rd (X.lv++[↑X.ts]) (Yb (X^n).bs ↑X.ts (YZ ↑X.ts X.av)) (Yi ↑X.ts X.ho) p (p::up):=rd.keep λi j=>#[zL _ (x i j),I i (x i j) (by have:=J i j;lia)]
  let z2:YV (X.ts++[hJ X.ts n]) r (p::up) ps A0 B0:=z.keep G t Z (λi j=>#v[gl i (fu i j).1,#[Z,Z]]) λb v _ _=>by rw[gl b v]
  let#[a7,a9]:=R2.sh.self;let l2:=R2.lt;let gp:hJ (X.ts++[hJ X.ts n]) p=hJ X.ts p:=gl p Y;exists 1,X.S,a7,1,a9,Z,1,#[X.S,X.d,X.lv++[↑X.ts],X.ts++[hJ X.ts n],Yb (X^n).bs ↑X.ts (YZ ↑X.ts X.av),Yi ↑X.ts X.ho,X.as++[a],u],lk,_,_,p,Z,R2.q,zL _ Y,by simp;lia
  intro H3 tp l3 us a8 R3 ht nl hl _ k2;let k2:us=iN (hJ (X.ts++[hJ X.ts n]) p).bs:=k2 (by change (hJ (X.ts++[hJ X.ts n]) p).h≠0;rwa[gp,h0])
  rw[gp] at k2;subst k2;exists tp,_,_,1,Z,Zp.of ht,Z;let a5:Zm jT jU H3 X.S X.d lk (X.lv++[↑X.ts]) (X.ts++[hJ X.ts n]) (Yb (X^n).bs ↑X.ts (YZ ↑X.ts X.av)) (Yi ↑X.ts X.ho) (X.as++[a]) u _:=#[R3.sh,R2.lt,R2.keys,R2.val,R2.len,R3.tw,R2.own,R2.two];let D3:Sd jT jU H3 #[X.S,X.d,X.lv++[↑X.ts],X.ts++[hJ X.ts n],Yb (X^n).bs ↑X.ts (YZ ↑X.ts X.av),Yi ↑X.ts X.ho,X.as++[a],u] lk _ U g (↑X.ts::o):=#[a5,D2];let#[e7,i6]:=a5.sh.self;let a6:=UN G Y h0;let#[b2,b4,b3,e9]:=(G p Y).stem h0;let l4:↑X.ts∉(X^p).bs:=λy=>nN (Xh G Y y).1;let#[nB,gB]:=oY (ts:=X.ts++[hJ X.ts n]) (p:=p) (N:=↑X.ts) #v[gp,O] #v[gp,a6] #v[gp,l4]
  let c7:n∉l/\n∉m:=by
   rw[O] at a6;let a1:=yO.mp a6;show#[λy=>a1.2.2 n y n zX Z,(yQ.mp a1.2.1).1]
  let mp:((X^p).bs.map λb=>if b=n then ↑X.ts else b)=l++↑X.ts::m:=by
   rw[O,zH,yX,aM rfl];rw[K8 c7.1,K8 c7.2]
  show#[1,X.S,e7,1,i6,Z,2,l3,Z,#[_,ZF.of hl],Ul (n:=↑(X^p).bs) (λi z=>(iN (X^p).bs)[i]?\z) (λD i ys H4=>ZE H3 H4/\H3 D=Y'/\ys=iN (((X^p).bs.take i).map λb=>if b=n then ↑X.ts else b)) (Yq ())
   (λD i ys H4 j hP=>#[_,.int ((X^p).bs[i]:Nat),ZF.of (hP.1 _ _ hl),by simp[iN,j]]) (λD i ys H4 z H5 j hP hy=>#[hy.1,hy.2 _ (ZF.of (hP.1 _ _ hl))]) (λD ys H4 hP=>#[_,ZF.of (hP.1 _ _ hl),by simp[iN]])
   (λD hD=>#[Zv hD _,hD,Z]) (λD i ys H4 z eD m0 j hz hP RR i5=>?_) (λD4 ys H4 c3 hP=>?_)]
  .let#[s4,nD,rfl]:=hP;let ez:z=.int ((X^p).bs[i]:Nat):=by
    unfold iN at hz;rw[zK,zT j] at hz;show(yV.inj hz).symm
   subst ez;let et:((X^p).bs.take (i+1))=(X^p).bs.take i++[(X^p).bs[i]]:=by rw[yR,zT j];rfl
   let go:∀ y:Nat,(if (X^p).bs[i]=n then ↑X.ts else (X^p).bs[i])=y->RR (.int (y:Nat)) H4:=λy ey=>i5 _ _ eD #[UW s4 nD,nD,by rw[et,zH,yX,ey];simp[iN]]
   show#[2,Z,1,UX (λc=>#[1,go _ (aM ?_)]) (λc=>#[1,go _ (aK ?_)])]
   .have:=V.int.inj (of_decide_eq_true c)
    lia
   .show λy=>c (aJ (by rw[y]))
  .let#[s4,m1,rfl]:=hP;rw[zA (zY _),mp] at c3;let R4:=a5.same s4;let a4:ZP (X.ts++[hJ X.ts n]) (l++↑X.ts::m)=(X^p).rows:=by
    let f:∀ k:jj,(∀ b∈k,b∈X.lv)->ZP (X.ts++[hJ X.ts n]) k=ZP X.ts k:=λk h=>US λb v=>by rw[gl b (h b v)]
    rw[show (X^p).rows=ZP X.ts (X^p).bs from e9,O,QI,QI,WV,WV,gN,f l λb v=>(Xh G Y (by rw[O];simp[v])).1,f m λb v=>(Xh G Y (by rw[O];simp[v])).1]
   let a3:r∈X.lv++[↑X.ts]:=zL _ t;let c5:∀ b∈l++↑X.ts::m,b∈X.lv++[↑X.ts]/\(hJ (X.ts++[hJ X.ts n]) b).h+1=(hJ (X.ts++[hJ X.ts n]) p).h:=λb v=>by
    by_cases y:b=↑X.ts
    .rwa[y,gN,gp,#[by simp,i8]]
    .have:b∈(X^p).bs:=by
      rw[O];rcases zM.mp v with w|w
      .simp[w]
      .rcases zU.mp w with w|w
       .show gS w y
       .simp[w]
     let#[w1,w2,_]:=Xh G Y this;rwa[gl b w1,gp,#[zL _ w1,w2]]
   let lb:↑(l++↑X.ts::m)=↑(X^p).bs:=by rw[O];simp
   let W:Up (A0++ZP (X.ts++[hJ X.ts n]) (l++↑X.ts::m)++B0):=by
    rwa[a4,<-er,(G r t).up]
   let l6:∀ i∈p::up,Yb (X^n).bs ↑X.ts (YZ ↑X.ts X.av) i=[]->i∈↑X.ts::o:=λi j e=>zS _ (ro i j (by rwa[<-(I i (x i j) (by have:=J i j;lia)).1,e]))
   let#[ov,th,c0,c2,ch,C,D5,z5,l8]:=Dg.change (rest:=o) l2 D2 a3 c9 l6 z2 #v[gp,h0] c5 () () #v[nB,yP.refl _] W
   let a0:Yb (X^n).bs ↑X.ts (YZ ↑X.ts X.av) ↑X.ts=[]:=by
    unfold Yb YZ;rw[aK Nb,aM rfl]
   let a2:Yi ↑X.ts X.ho ↑X.ts=1:=aM Z;show .mk (T:=_) #[R4,D2.wf,a3,D2.avk] z2 c9 () c3 (λb v=>(c5 b v).1) () ov th c0 (λb v=>?_) ch C λH5 e6 i1 R5 A5=>?_
   .rw[nB] at v;rwa[zV.mp v,a0,a2,#[zY _,yY _]]
   let#[e8,i7]:=R5.sh.self;let#[e0,i3]:=I n B (zY _);let ng:n∈XH (X.ts++[hJ X.ts n]) p (l++↑X.ts::m):=#v[gB,zV.mpr Z]
   let c8:n∉Y1 (X.ts++[hJ X.ts n]) p (l++↑X.ts::m):=#v[nB,λy=>F n B 'ð']
   let e4:Vr (X.ts++[hJ X.ts n]) p (l++↑X.ts::m) (Yb (X^n).bs ↑X.ts (YZ ↑X.ts X.av)) n=(X.av n).erase p:=by
    change WI _ _ _ _=_;unfold WI;rw[aM ng];change (if _ then _ else _:jj).erase p=_
    rw[aK c8,e0]
   let c4:Vu (X.ts++[hJ X.ts n]) p (l++↑X.ts::m) (Yi ↑X.ts X.ho) n=X.ho n+1:=by
    change Xq _ _ _=_;unfold Xq;rw[aM ng];change (if _ then _ else _:Nat)+1=_
    rw[aK c8,i3]
   let Ng:↑X.ts∉XH (X.ts++[hJ X.ts n]) p (l++↑X.ts::m):=#v[gB,λy=>F n B 'ð'.symm]
   let Nn:↑X.ts∈Y1 (X.ts++[hJ X.ts n]) p (l++↑X.ts::m):=#v[nB,zV.mpr Z]
   let e3:Vr (X.ts++[hJ X.ts n]) p (l++↑X.ts::m) (Yb (X^n).bs ↑X.ts (YZ ↑X.ts X.av)) ↑X.ts=[p]:=by
    change WI _ _ _ _=_;unfold WI;rw[aK Ng];change (if _ then _ else _:jj)=_
    rw[aM Nn,a0];rfl
   let i4:Vu (X.ts++[hJ X.ts n]) p (l++↑X.ts::m) (Yi ↑X.ts X.ho) ↑X.ts=0:=by
    change Xq _ _ _=_;unfold Xq;rw[aK Ng];change (if _ then _ else _:Nat)=_
    rw[aM Nn,a2]
   rw[gB] at D5;show#[1,X.S,e8,1,i7,Z,1,.mk R5 (zL _ B) (by rw[c4];lia) (by rw[c4,e4,pR pn];lia) λH6 i2 R6=>#[1,?_]]
   let c1:∀ i∈p::up,Vr (X.ts++[hJ X.ts n]) p (l++↑X.ts::m) (Yb (X^n).bs ↑X.ts (YZ ↑X.ts X.av)) i=X.av i/\WK (Vu (X.ts++[hJ X.ts n]) p (l++↑X.ts::m) (Yi ↑X.ts X.ho)) n i=X.ho i:=λi j=>by
    let#[y1,y2]:=l8 i #v[gp,gl i (x i j),J i j]
    let#[w1,w2]:=I i (x i j) (by have:=J i j;lia)
    have:i≠n:=λy=>by have:=J i j;rw[y] at this;lia
    show#[y1|||w1,by unfold WK;rw[aK this,y2,w2]]
   let l7:∀ i∈X.lv,(X^n).h<=(X^i).h->i≠n->Vr (X.ts++[hJ X.ts n]) p (l++↑X.ts::m) (Yb (X^n).bs ↑X.ts (YZ ↑X.ts X.av)) i=X.av i/\WK (Vu (X.ts++[hJ X.ts n]) p (l++↑X.ts::m) (Yi ↑X.ts X.ho)) n i=X.ho i:=λi j hh c6=>by
    let#[w1,w2]:=I i j hh;let g1:i∉XH (X.ts++[hJ X.ts n]) p (l++↑X.ts::m):=#v[gB,λy=>c6 'ð']
    let g2:i∉Y1 (X.ts++[hJ X.ts n]) p (l++↑X.ts::m):=#v[nB,λy=>F i j 'ð']
    unfold Vr Vu WK WI Xq;rw[aK g1,aK c6,aK g1];exists ?_
    .change (if _ then _ else _:jj)=_
     rw[aK g2,w1]
    .change (if _ then _ else _:Nat)=_
     rw[aK g2,w2]
   show q H6 #[X.S,X.d,X.lv++[↑X.ts],c2,_,WK (Vu (X.ts++[hJ X.ts n]) p (l++↑X.ts::m) (Yi ↑X.ts X.ho)) n,e6,u] _ ↑X.ts ?_ #[R6,D5.less] (.up ⋯ e3 (by change WK _ _ _=_;unfold WK;rwa[aK (F n B).symm,i4]) (rd.keep λi j=>#[zL _ (x i j),c1 i j])) (λi j=>(c1 i j).1) l7 z5 (by rw[C.at_];rfl) ?_ (by rw[C.rows,a4,er]) (λi j=>#[zL _ j,by rw[C.hh i,gl i j],λw=>by rw[C.old i w,gl i j]]) (by rw[C.len];simp) ⋯
   .let G3:=(Go.same (lk:=lk) (X:=X) M)|||G2;let G4:=(G3|||Go.looks a8)|||Go.same s4;let G5:=G4|||Ni i1 A5 (cur:=c2) (av':=Vr (X.ts++[hJ X.ts n]) p (l++↑X.ts::m) (Yb (X^n).bs ↑X.ts (YZ ↑X.ts X.av))) (ho':=Vu (X.ts++[hJ X.ts n]) p (l++↑X.ts::m) (Yi ↑X.ts X.ho)) (kvs':=u);show G5|||#[Z,Z,λc o n e=>i2 c o (λb v=>(n.2.2.2 b v).1) e,λc o n _=>n]
   .rw[C.old _ λy=>nN (x _ y),gN]
abbrev sN(W:jq)(p:Nat):Nat×Nat:=W.getD p (0,0)
def UQ(a:jk)(s:Nat×Nat):Nat:=(hJ a s.1).bs.getD (if 0<s.2 then s.2-1 else 1) 0
def clo(a:jk)(W:jq)(p:Nat):Bool:=gU (2<↑(hJ a (sN W p).1).bs)||(gU (0<p)&&gU (↑(hJ a (UQ a (sN W (p-1)))).bs=4))
theorem Zm.lkd{H f:Hp}{X:ZV}(R:Zm a b H X.S X.d e X.lv X.ts X.av X.ho X.as X.kvs h)(g:Wh a b f X e ↑X.ts c):Zm a b f X.S X.d e X.lv X.ts X.av X.ho X.as X.kvs c:=#[g.sh,R.lt,R.keys,R.val,R.len,g.tw,R.own,R.two]
structure Lr(X:ZV)(W:jq):Prop where
 lv:∀ p∈W,p.1∈X.lv
 st:∀ p,p+1<↑W->(hJ X.ts (sN W p).1).h≠0/\(sN W p).2<↑(hJ X.ts (sN W p).1).bs
 nb:∀ p,p+2<↑W->(hJ X.ts (UQ X.ts (sN W p))).h≠0
inductive Xw(jT jU:aj):Sp
 |mk{X:ZV}{b:aj}{c:je}{i:Nat}{H:Hp}{Q:VK}{E:XK}:Zm jT jU H X.S X.d b X.lv X.ts X.av X.ho X.as X.kvs c->i∈X.lv->(X^i).h≠0->↑c<=380000->(∀ a,Go b H a X X->Zm jT jU a X.S X.d b X.lv X.ts X.av X.ho X.as X.kvs (c++[.int (i:Int)])->Q (.bl (gU (↑(X^i).bs=4))) a)->Xw jT jU [!X.S,.int (i:Nat)] H Q E
theorem qb:ZC Te Te (Zc GA):=Zo
theorem oB(F:Zl K "is_full" "is_full" GA f fd)(T:YM mg)(L:'d')(j:'j'):-ZI ZJ 3 f fd Te (Xw jT jU):=by
 show F.ok qb (λM H Q E h=>(by induction h;rfl)) (λm A d s H M Q E x h=>?_)
 induction h
 rename_i X C D i H Q E R u r p q
 let#[O,G]:=T.most;intro N;exists _,ZR (Zh (V4 Vm (YA XG Z T.len XE (ZQ (XL K (Zs (E:=E0) (pv 0) L.cS j x Zn 'f') ZM))) (Xp (v:=.int 4) Z G #[_,Z]) (Z9 _)));let#[n,t]:=R.sh.self;exists 1,X.S,n,1,t,Z,1,X,C,↑X.ts,D,i,Z,R.q,u,by lia
 intro k e z J a l c I b _ g;let g:=g r;subst g;let B:↑(iN (X^i).bs)=↑(X^i).bs:=zW _;exists e,_,_,1,Z,Zp.of c,Z,z,1,.inl (ZF.of b),Z;let o:gU (V.int (↑(iN (X^i).bs):Nat)=V.int 4)=gU (↑(X^i).bs=4):=by
  rwa[B,decide_eq_decide.mpr #[λy=>by have:=V.int.inj y;lia,λy=>by rw[y];rfl]]
 rwa[o,q k (.looks a) (R.lkd l)]
inductive Xb(jT jU:aj):Sp
 |mk{X:ZV}{a D:aj}{e g:je}{W:jq}{p:Nat}{H:Hp}{Q:VK}{E:XK}:Zm jT jU H X.S X.d a X.lv X.ts X.av X.ho X.as X.kvs e->WF X.lv X.ts->H D\.lst g->Ze X a D->Paired (XU X a H X.ts) W g->Lr X W->p+1<↑W->↑e<=380000->(∀ c b,Go a H c X X->Zm jT jU c X.S X.d a X.lv X.ts X.av X.ho X.as X.kvs b->↑b<=↑e+1->Q (.bl (clo X.ts W p)) c)->Xb jT jU [!X.S,!D,.int (p:Nat)] H Q E
theorem nM:ZC Tj Tj (Zc K0):=Zo
theorem N6{W:jq}{p:Nat}(h:p<↑W):W[p]?\sN W p:=by
 change _\W.getD p (0,0);rw[zO,zT h];rfl
theorem XU.at_{X:ZV}{W:jq}{a:je}(h:Paired (XU X d H g) W a)(c:p<↑W):∃ u,a[p]?\u/\XU X d H g (sN W p) u:=by
 let b:p<↑a:=by rwa[<-Paired.length h,c]
 let#[r,e,s]:=Paired.ixR h (zT b);erw[N6 c] at e;show#[_,zT b,s]
theorem Bc{X:ZV}(h:WF X.lv X.ts)(a:Lr X W)(g:p+1<↑W):(hJ X.ts (sN W p).1).bs[if 0<(sN W p).2 then (sN W p).2-1 else 1]?\UQ X.ts (sN W p)/\UQ X.ts (sN W p)∈X.lv:=by
 let#[c,j]:=a.st p g;let#[i,_,b,_]:=(h _ (a.lv _ (zG (N6 ())))).stem c
 let d:(if 0<(sN W p).2 then (sN W p).2-1 else 1)<↑(hJ X.ts (sN W p).1).bs:=by split<;>lia
 let e:(hJ X.ts (sN W p).1).bs[if 0<(sN W p).2 then (sN W p).2-1 else 1]?\UQ X.ts (sN W p):=by
  unfold UQ;rw[zO,zT d];rfl
 show#[e,(b _ (zG e)).1]
theorem AB(F:Zl K "can_lose_one" "can_lose_one" K0 f fd)(T:YM mg)(C:'v')(I:'T')(G:-ZA 3 "is_full" Te (Xw jT jU)):-ZI ZJ 4 f fd Tj (Xb jT jU):=by
 show F.ok nM 'a' (λN A o s H vs Q E k h=>?_)
 induction h
 rename_i X lk D x B W p H Q E R wf t oD b e hp i q
 let m:=k.mono (show 1<=3 by lia)
 let n:=k.mono (show 2<=3 by lia)
 let#[t0,m0]:=T.few;intro Xc;show#[_,ZK (Z4 (YO U9 (YA XG Z T.len XE (ZQ (Zd C m (ZQ (Zy K (pv 1) (pv 2)))))) (Xp (v:=.int 2) Z m0 #[_,Z]) (Z9 _)) 'ì' Z6)
  (ZR (Zh (OH (V4 U9 (pv 2) ZM (Z9 _)) (O2 (Zd G k (Zu (pv 0) (Zd I n 'D'))))))),?_]
 let#[u,S,su]:=XU.at_ b (show p<↑W by lia)
 let#[U,hl]:=e.st p hp;let#[l,c,ol]:=su.sp U;let#[h1,h2,V]:=id c;let lI:↑(iN (hJ X.ts (sN W p).1).bs)=↑(hJ X.ts (sN W p).1).bs:=zW _;show#[2,.inl #[D,B,(p:Int),1,Z,ZF.of t,Yf S,.mk c #[l,1,.inl (ZF.of V),_,1,Z,1,?_]]];by_cases z:2<↑(hJ X.ts (sN W p).1).bs
 .let a:clo X.ts W p=V':=by unfold clo;rw[aJ z];rfl
  rw[aJ (show ((↑(iN (hJ X.ts (sN W p).1).bs):Nat):Int)>2 by lia)]
  rw[a] at q;show Z2 (q H x 'I' R ())
 .rw[aI (show ¬ ((↑(iN (hJ X.ts (sN W p).1).bs):Nat):Int)>2 by lia)]
  show Zq #[1,_,1,Z,1,?_];by_cases y:0<p
  .rw[aJ (show ((p:Nat):Int)>0 by lia)]
   let#[u',g,r]:=XU.at_ b (show p-1<↑W by lia)
   let#[j,Y]:=e.st (p-1) ()
   let#[l',d,a0]:=r.sp j;let#[O,ln]:=Bc wf e (show p-1+1<↑W by lia)
   let a:clo X.ts W p=gU (↑(hJ X.ts (UQ X.ts (sN W (p-1)))).bs=4):=by unfold clo;rw[aI z,aJ y];rfl
   rw[a] at q;show Z2 #[3,_,1,Z,.inl #[D,B,((p:Nat):Int)-1,1,Z,ZF.of t,#v[show ((p:Nat):Int)-1=((p-1:Nat):Int) by lia,Yf g],.mk d O (.mk R ln (e.nb (p-1) ()) i λL J M=>q L _ J M ⋯)]]
  .rw[aI (show ¬ ((p:Nat):Int)>0 by lia)]
   let a:clo X.ts W p=false:=by unfold clo;rw[aI z,aI y];rfl
   rw[a] at q;show Zq (q H x 'I' R ())
def Eh(b:jk)(W:jq)(a:Nat):Prop:=a<↑W/\(∀ j,a<=j->j+1<↑W->clo b W j=false)/\(0<a->clo b W (a-1)=V')
inductive Wq(jT jU:aj):Sp
 |mk{X:ZV}{a D:aj}{e h:je}{W:jq}{H:Hp}{Q:VK}{E:XK}:Zm jT jU H X.S X.d a X.lv X.ts X.av X.ho X.as X.kvs e->WF X.lv X.ts->H D\.lst h->Ze X a D->Paired (XU X a H X.ts) W h->Lr X W->1<=↑W->↑e+↑W<=380000->(∀ c b g,Go a H c X X->Zm jT jU c X.S X.d a X.lv X.ts X.av X.ho X.as X.kvs b->↑b<=↑e+↑W->Eh X.ts W g->Q (.int (g:Nat)) c)->Wq jT jU [!X.S,!D] H Q E
theorem Qx:ZC Tj TW (Zc IV):=Zo
inductive JA(jT jU:aj)(X:ZV)(lk D:aj)(ls:je)(W:jq)(H:Hp):Nat->_T.St->Hp->Prop
 |mk{p:Nat}{H':Hp}{ls':je}:p<↑W->Go lk H H' X X->Zm jT jU H' X.S X.d lk X.lv X.ts X.av X.ho X.as X.kvs ls'->↑ls'+p<=↑ls+↑W->(∀ j,p<=j->j+1<↑W->clo X.ts W j=false)->JA jT jU X lk D ls W H p [Z' !X.S,Z' !D,Z' (.int (p:Nat))] H'
theorem AR(F:Zl K "first_that_goes" "first_that_goes" IV f fd)(T:YM mg)(J:-ZA 4 "can_lose_one" Tj (Xb jT jU)):-ZI ZJ 5 f fd TW (Wq jT jU):=by
 show F.ok Qx 'a' (λM A l s H vs Q E U h=>?_)
 induction h
 rename_i X B D C m W H Q E R wf v I b wy w1 N q
 let G:=Qx.nd;intro Xc;show#[_,ZK (Zf 2 G (Z5 Vg 'V' ZM))
  (ZK (Oh PassesOwn.never (PW.pt (Kd (YO U9 (pv 2) ZM (Z9 _)) (KR (OA (Xk (Zd J U (Wf (pv 0) (pv 1) (Z5 Vg (pv 2) ZM)))))))) (ZR (yi (i:=2) G Z (Or.inl Z) ZM Lc)))
  'y'),?_]
 let lw:=Paired.length b;exists 1,D,m,Z,.inl (ZF.of v),_,1,Z;let e:((↑m:Nat):Int)-1=((↑W-1:Nat):Int):=()
 first|rw[show (λi j:Int=>_T.V.int (i-j)) ((↑m:Nat):Int) 1=_T.V.int ((↑W-1:Nat):Int) from congrArg _T.V.int e]|rw[e]
 exists JA jT jU X B D C W H,#[_,.mk () 'I' R () λj O u=>by lia]
 rintro _ _ L ⟨x,a,r,f1,k⟩;rename_i p d
 exists 1,_,1,Z,_,Z;by_cases y:0<p
 .rw[aJ (show (0:Int)<((p:Nat):Int) by lia)]
  let Y:=a.tups R;show Z2 #[3,_,1,Z,?_];let c:((p:Nat):Int)-1=((p-1:Nat):Int):=()
  first|rw[show (λi j:Int=>_T.V.int (i-j)) ((p:Nat):Int) 1=_T.V.int ((p-1:Nat):Int) from congrArg _T.V.int c]|rw[c]
  show .mk r wf (a.fr _ _ I v) I (Paired.mapP b λ_ _ z=>z.go a Y) wy () () λo g n R2 f2=>#[1,?_]
  cases t:clo X.ts W (p-1) with
  |true=>show Zq #[1,q o g p (a|||n) R2 () #[x,k,λ_=>t]]
  |false=>
   show Z2 #[_,λ_ _ z=>z,1,_,1,Z,?_];exists p-1,by lia
   have:JA jT jU X B D C W H (p-1) [Z' !X.S,Z' !D,Z' (.int ((p-1:Nat):Int))] o:=.mk () (a|||n) R2 () λj O u=>by
    by_cases z:j=p-1
    .rwa[z,t]
    .show k j () u
   rw[<-c] at this;show this
 .rw[aI (show ¬ (0:Int)<((p:Nat):Int) by lia)]
  show Zq (Zq #[1,q L d p a r () #[x,k,λz=>gS z y]])
inductive Dn(ts:jk):Nat->jq->Prop
 |leaf {j pl:Nat}:(ts^j).h=0->Dn ts j [(j,pl)]
 |stem {x c:Nat} {l m:jj} {W:jq}:(ts^x).h≠0->(ts^x).bs=l++c::m->c∉l->c∉m->Dn ts c W->Dn ts x ((x,↑l)::W)
section
variable{lv:jj}{ts:jk}
theorem HH(c:WF lv ts)(k):∀ n i ,i∈lv->(ts^i).h=n->Dn ts i (Qr ts k n i)
 |0,i,b,f=>#v[Qr,.leaf f]
 |n+1,i,b,f=>by
  let a:(ts^i).h≠0:=()
  let#[l,m,g,e,_,_]:=JC c b a k;let#[j,o,_]:=MA c b a k;let d:=UN c b a;rw[e,yO,yQ] at d;have:=Dn.stem a e (λy=>d.2.2 _ y _ zX Z) d.2.1.1 (HH c k n 'ũ' j ())
  rw[g] at this;rwa[Qr,this]
theorem Dn.ne(h:Dn ts x W):∃ b a,W=(x,b)::a:=by
 cases h
 .show#[_,1]
 .show#[_,1]
theorem Dn.one(h:Dn ts x W):(ts^x).h≠0->2<=↑W:=by
 cases h with
 |leaf a=>show λy=>gS a y
 |stem _ _ _ _ d=>
  intro _;let#[c,b,rfl]:=d.ne;simp
theorem Dn.two(h:Dn ts x W):2<=↑W->(ts^x).h≠0:=by
 cases h with
 |leaf a=>show λy=>gS y ⋯
 |stem a=>show λ_=>a
theorem Dn.br(d:WF lv ts){l m:jj}(e:x∈lv)(b:(ts^x).h≠0)(a:(ts^x).bs=l++c::m):c∈lv/\(ts^c).h+1=(ts^x).h:=((d x e).stem b).2.2.1 c (by rw[a];simp)
theorem Dn.lvs(f:WF lv ts)(h:Dn ts x W):x∈lv->∀ p∈W,p.1∈lv:=by
 induction h with
 |leaf c=>
  intro a p b;rwa[zV.mp b,a]
 |stem c e i j d g=>
  intro a p b;rcases zU.mp b with y|y
  .rwa[y,a]
  .show g (Dn.br f a c e).1 p y
theorem Hu(f:WF lv ts)(g:x∈lv)(c:(ts^x).h≠0)(j:a<↑(ts^x).bs):(ts^x).bs[if 0<a then a-1 else 1]?\UQ ts (x,a)/\UQ ts (x,a)∈lv/\(hJ ts (UQ ts (x,a))).h+1=(ts^x).h:=by
 let#[i,_,b,_]:=(f x g).stem c;let d:(if 0<a then a-1 else 1)<↑(ts^x).bs:=by split<;>lia
 let e:(ts^x).bs[if 0<a then a-1 else 1]?\UQ ts (x,a):=by
  unfold UQ;dsimp only;rw[zO,zT d];rfl
 show#[e,b _ (zG e)]
theorem Dn.st(g:WF lv ts)(h:Dn ts x W):x∈lv->∀ p,p+1<↑W->(hJ ts (sN W p).1).h≠0/\(sN W p).2<↑(hJ ts (sN W p).1).bs/\(p+2<↑W->(hJ ts (UQ ts (sN W p))).h≠0):=by
 induction h with
 |leaf a=>show λ_ p b=>gS b ⋯
 |stem a e q r d k=>
  intro i p b;rename_i x c l m W
  let j:=Dn.br g i a e
  cases p with
  |zero=>
   let f:↑l<↑(ts^x).bs:=by rw[e];simp
   exists a,f;intro y;let o:=(Hu g i a f).2.2;let n:=d.two (by rw[zN] at y;lia)
   change (hJ ts (UQ ts (x,↑l))).h≠0
   lia
  |succ p=>
   rw[zN] at b;have:=k j.1 p ()
   show#[this.1,this.2.1,λy=>this.2.2 (by rw[zN] at y;lia)]
theorem Dn.cut(C:WF lv ts)(y:r∈lv):∀{x:Nat}{W:jq},Dn ts x W->∀{g p:jj}{A B:jl},YV ts r (x::g) p A B->∀ n,n<↑W->∃ i a b j k,Dn ts i (W.drop n)/\YV ts r (i::a) b j k/\a=((W.take n).map (·.1)).reverse++g:=by
 intro x W h
 induction h with
 |leaf f=>
  intro g p A B z n o;have:n=0:=by simpa using o
  subst this;show#[_,_,_,_,_,.leaf f,z,Z]
 |stem f q s t d v=>
  intro g p A B z n o;rename_i x c l m W
  cases n with
  |zero=>show#[_,_,_,_,_,.stem f q s t d,z,Z]
  |succ n=>
   rw[zN] at o;let#[i,a,b,j,k,u,w,e]:=v (z.down f q s t) n ()
   show#[i,a,b,j,k,u,w,by rw[e];simp]
theorem AX(r:WF lv ts)(h:Dn ts x W):x∈lv->(∀ j,j+1<↑W->↑(hJ ts (sN W j).1).bs<=2)->(∀ j,j+2<↑W->↑(hJ ts (UQ ts (sN W j))).bs≠4)->∃ N L R,VT ts x W N L R/\N.Nodup/\(∀ b∈N,b=x\/(ts^b).h<(ts^x).h):=by
 induction h with
 |leaf f=>show λ_ _ _=>#[_,_,_,.leaf f,by simp,λb s=>.inl (zV.mp s)]
 |stem f q S T d J=>
  intro u A B;rename_i x c l m W
  let#[E,H]:=Dn.br r u f q;let U:1<=↑W:=by let#[_,_,e]:=d.ne;rw[e];simp
  let#[N,L,R,p,K,t]:=J E (λj I=>A (j+1) (by rw[zN];lia)) (λj I=>B (j+1) (by rw[zN];lia))
  let#[w,Q,z,_]:=(r x u).stem f;let C:↑(ts^x).bs<=2:=A 0 (by rw[zN];lia)
  let v:↑l+↑m=1:=by rw[q] at C w;simp at C w;lia
  let n:=UN r u f;obtain⟨g,o,a,k⟩:∃(g:Bool)(o:Nat),(ts^x).bs=(if g=V' then [o,c] else [c,o])/\↑l=(if g=V' then 1 else 0):=by
   cases l with
   |nil=>
    match m,v with
    |[o],_=>show#[false,o,q,Z]
   |cons o l=>
    cases l with
    |nil=>
     cases m with
     |nil=>show#[true,o,q,Z]
     |cons=>simp at v
    |cons=>simp at v;lia
  let D:o∈(ts^x).bs:=by rw[a];cases g<;>simp
  let O:o≠c:=λy=>by rw[a,y] at n;cases g<;>simp at n
  let F:UQ ts (x,↑l)=o:=by
   unfold UQ;dsimp only;rw[a,k];cases g<;>rfl
  let P:=(z o D).2;let G:(ts^c).h≠0->↑(ts^o).bs<=3:=λy=>by
   let V:=d.one y;have:=B 0 (by rw[zN];lia)
   rw[show sN ((x,↑l)::W) 0=(x,↑l) from rfl,F] at this;have:=((r o (z o D).1).stem ()).2.1
   lia
  show#[_,_,_,#v[k,VT.stem f a G p],?_,λb s=>?_]
  .let M:o∉N:=λy=>by
    rcases t o y with e|e
    .show O e
    .lia
   show yQ.mpr #[λy=>?_,yQ.mpr #[M,K]];rcases zU.mp y with e|e
   .rw[e] at P;lia
   .rcases t x e with i|i
    .rw[<-i] at H;lia
    .lia
  .rcases zU.mp s with e|e
   .show .inl e
   .show .inr ?_;rcases zU.mp e with e|e
    .rw[e];lia
    .rcases t b e with i|i
     .rw[i];lia
     .lia
end
inductive Pr(ts:jk):Nat->jq->Prop
 |one {x pl:Nat}:Pr ts x [(x,pl)]
 |cons {x c:Nat} {l m:jj} {W:jq}:(ts^x).h≠0->(ts^x).bs=l++c::m->c∉l->c∉m->Pr ts c W->Pr ts x ((x,↑l)::W)
theorem Pr.hd(h:Pr c x W):∃ b a,W=(x,b)::a:=by
 cases h with
 |one=>show#[_,1]
 |cons=>show#[_,1]
theorem Dn.pr{b:jk}{x:Nat}{W:jq}(h:Dn b x W):∀{k:Nat},0<k->Pr b x (W.take k):=by
 induction h with
 |leaf h=>
  intro k a;let#[k,rfl]:=qA (uF a);rwa[rO,List.take_nil,.one]
 |stem d c f g _ e=>
  intro k a;let#[k,rfl]:=qA (uF a);rw[rO];rcases Nat.eq_zero_or_pos k with y|y
  .rwa[y,tS,.one]
  .show .cons d c f g (e y)
structure Do(X X':ZV)(r r' n c:Nat)(ws up ps:jj)(A B:jl):Prop where
 rd:Rd X'.lv X'.av X'.ho c (c::up)
 top:∀ i∈c::up,X'.av i=[]->i=r'
 z:YV X'.ts r' (c::up) ps A B
 at_:hJ X'.ts c=hJ X.ts n
 rr:(X'^r').rows=(X^r).rows
 keep:∀ i∈X.lv,i∈X'.lv/\(X'^i).h=(X^i).h/\(i∉c::up->hJ X'.ts i=hJ X.ts i)
 sib:∀ p0 ws' c0 up',ws=p0::ws'->up=c0::up'->∃ l m,(X^p0).bs=l++n::m/\(X'^c0).bs=l++c::m
theorem Go.wr{X b:ZV}(G:Go g H a X b)(n:H D=Y'):Go g H (upd a D v) X b:=#[G.S,G.d,λc o f e=>#v[ZU (Zg e n),G.fr c o f e],G.off]
inductive YQ(jT jU:aj):Sp
 |mk{X:ZV}{b D:aj}{i l:je}{U:Nat->Prop}{g:Nat->Nat}{o:jj}{r:Nat}{W:jq}{H:Hp}{Q:VK}{E:XK}:Sd jT jU H X b i U g (r::o)->Pr X.ts r W->↑W<=20->↑X.ts<=770->↑i<=360000->H D\.lst l->Ze X b D->Paired (P6 H) W l ->
  (∀(h:Hp)(a:ZV)(d:je)(e:aj)(k n c m:Nat)(j:jj)(A B:jl),W.drop (↑W-1)=[(n,m)]->YV X.ts r (n::((W.take (↑W-1)).map (·.1)).reverse) ((W.take (↑W-1)).map (·.2)).reverse A B->Do X a r k n c ((W.take (↑W-1)).map (·.1)).reverse j ((W.take (↑W-1)).map (·.2)).reverse A B->Sd jT jU h a b d U g (k::o)->Go b H h X a->H e=Y'->Ze a b e->h e\.lst (iN (c::j).reverse)->↑j+1=↑W->↑a.ts<=↑X.ts+↑W->↑d<=↑i+2*↑W->Q (!e) h) ->
  YQ jT jU [!X.S,!D] H Q E
inductive Ks(jT jU:aj)(X:ZV)(lk D D':aj)(ls:je)(U:Nat->Prop)(g:Nat->Nat)(o:jj)(r:Nat)(W:jq)(H:Hp):Nat->_T.St->Hp->Prop
 |zero {x4:jf} {H2:Hp}:Go lk H H2 X X->Sd jT jU H2 X lk ls U g (r::o)->H2 D'\.lst []->Ks jT jU X lk D D' ls U g o r W H 0 [Z' (.ref X.S),Z' (.ref D),Z' (.ref D'),Z' .non,x4] H2
 |succ {j:Nat} {X':ZV} {ls':je} {r' n c pl:Nat} {up:jj} {Wr:jq} {A B:jl} {x4:jf} {H2:Hp}:W.drop j=(n,pl)::Wr->Pr X.ts n ((n,pl)::Wr)->YV X.ts r (n::('Ŵ'.map (·.1)).reverse) ('Ŵ'.map (·.2)).reverse A B->Do X X' r r' n c ('Ŵ'.map (·.1)).reverse up ('Ŵ'.map (·.2)).reverse A B->Sd jT jU H2 X' lk ls' U g (r'::o)->Go lk H H2 X X'->Ze X' lk D'->H2 D'\.lst (iN (c::up).reverse)->↑up=j->↑X'.ts<=↑X.ts+(j+1)->↑ls'<=↑ls+2*(j+1) ->
  Ks jT jU X lk D D' ls U g o r W H (j+1) [Z' !X.S,Z' !D,Z' !D',Z' (.int (c:Nat)),x4] H2
theorem lV(F:Zl K "own_way" "own_way" Hh f fd)(DO:'9'):-ZI ZJ 13 f fd TW (YQ jT jU):=by
 show F.ok Uz 'a' (λcdv A outer s H vs Q E hr h=>?_)
 induction h
 rename_i X lk D ls us U g o r W H Q E S0 pr w2 t7 few hD oD hst q
 let nd:=Uz.nd;intro Xc;show#[_,ZK (Zf 2 nd (Yy Zt))
  (ZK (Zf 3 nd OF)
  (ZK (Vi PassesOwn.never Z 'ō' (VG 4 nd)
   (ZK (Zf 3 nd (Zd DO hr (Wf (pv 0) (pv 3) (XL K (pv 4) ZM))))
   (ZR (YF (QG xQ wO wN PU (pv 2) 'z')))))
  'y')),?_]
 exists Yc;intro D' nD';let g0:=Zv nD' (.lst []);let eD':=Za (H:=H) (a:=D') (o:=.lst []);generalize upd H D' (.lst [])=H1 at g0 eD'⊢;let lw:=Paired.length hst;let wf:=S0.dg.wf;let hr0:=S0.dg.own r zX;let#[pl0,W0,eW]:=pr.hd;let R0:=S0.sh;let oD':Ze X lk D':=R0.new nD';show#[1,D,Z,#[_,ZF.of (g0 _ _ hD)],OB (K:=K) (a:=D) (xs:=us) (Ks jT jU X lk D D' ls U g o r W H) (.zero (.same g0) (S0.same g0) eD') ?_ ?_ ?_]
 .rintro i σ H2 _ (⟨G,_,_⟩|⟨_,_,_,_,_,G,_⟩)
  .show ZF.of 'Ă'
  .show ZF.of 'Ă'
 .rintro i u σ H2 hu hP;let#[p,ep,t,fv,rfl,ht]:=Paired.ixR hst hu;let hi:i<↑W:=(yW.mp ep).1;let edp:W.drop i=p::W.drop (i+1):=by
   let#[h1,h2]:=yW.mp ep;rw[<-h2,xH h1]
  rcases hP with ⟨G,S2,e2⟩|⟨ed,pn,z,O,S2,G,o2,e2,lu,tl,ll⟩
  .rename_i x4
   obtain rfl:p=(r,pl0):=by rw[eW] at ep;show(yV.inj ep).symm
   let ht2:=G.tups R0 _ _ ht;show#[3,t,_,_,.int (r:Int),Z,Z,Zp.of ht2,Z,.root S2 nofun nofun λH3 X3 ls3 r' G3 S3 tp3 gr kp tl3 ll3=>?_]
   let e3:=G3.fr _ _ oD' e2;let o3:=G3.off _ _ oD' e2;exists 1,.inl #[Z,_,ZF.of e3],1,D',_,1,Z,e3,Yq ⋯
   let hr3:=S3.dg.own r' zX;show .succ (n:=r) (pl:=pl0) (Wr:=W0) (up:=[]) (A:=[]) (B:=[]) #v[sO,eW] (by rwa[<-eW,pr]) .root #[.top hr3 tp3,λi hi _=>zV.mp hi,.root,gr,by rw[gr],λi hi=>#[(kp i hi).1,by rw[(kp i hi).2],λ_=>(kp i hi).2],λ_ _ _ _ _ e=>nomatch e] #[S3.sh.but (ZG.refl D' H3).upd e3 o3,S3.dg] ((G|||G3).wr nD') o3 ?_ Z nofun nofun
   rw[Za];rfl
  .rename_i j X2 ls2 r' n c pl up Wr A0 B0 x4
   let eWr:Wr=p::W.drop (j+1+1):=by
    rw[<-edp,<-List.tail_drop,ed];rfl
   let ewj:W[j]?\(n,pl):=by
    have:=congrArg List.head? ed;rw[List.head?_drop] at this;show this
   let etk:W.take (j+1)=W.take j++[(n,pl)]:=by rw[yR,ewj];rfl
   cases pn with
   |one=>cases eWr
   |cons h0 eb n1 n2 pc=>
    rename_i nc l m
    let#[pl',W',ec]:=pc.hd;obtain⟨rfl,-⟩:p=(nc,pl')/\True:=#[by rw[ec] at eWr;injection eWr with a _;show a.symm,trivial]
    let ht2:=G.tups R0 _ _ ht;let hr2:=S2.dg.own r' zX;let#[hc2,fu,_,_]:=O.z.facts S2.dg.wf hr2 Z;let hn:n∈X.lv:=(z.facts wf hr0 Z).1;let low:∀ b∈X.lv,(X^b).h<(X^n).h->b∉c::up:=λb hb hh y=>by
     let e1:=(O.keep b hb).2.1;let e2:(X2^c).h=(X^n).h:=by rw[O.at_]
     rcases zU.mp y with q|q
     .rw[q,e2,<-q] at e1;lia (splits:=8)
     .have:=(fu b q).2;lia (splits:=8)
    let sub:∀ b∈l++nc::m,b∈X.lv/\b∉c::up:=λb hb=>by
     let#[y1,y2,_]:=Xh wf hn (b:=b) #v[eb,hb]
     show#[y1,low b y1 nofun]
    exists 3,t,_,_,.int (nc:Int),Z,Z,Zp.of ht2,Z;rw[<-G.S];show .stem S2 nofun nofun hr2 O.rd (λi hi e=>#v[O.top i hi e,zX]) nofun O.z #v[O.at_,h0] #v[O.at_,eb] λH3 X3 ls3 n' G3 S3 rd3 av3 _ z3 eb3 gn rr3 kp3 tl3 ll3=>?_
    rw[G.S];let e3:=G3.fr _ _ o2 e2;let o3:=G3.off _ _ o2 e2;exists 1,.inl #[Z,_,ZF.of e3],1,D',_,1,Z,e3,Yq (by simp[iN];lia (splits:=8))
    let hr3:=S3.dg.own r' zX;let hc3:=(z3.facts S3.dg.wf hr3 Z).1;let h03:(X3^c).h≠0:=#v[(kp3 c hc2).2.1,O.at_,h0]
    let nd3:=UN S3.dg.wf hc3 h03;rw[eb3] at nd3;let a1:=yO.mp nd3;let g3:∀ b∈l++nc::m,hJ X3.ts b=hJ X.ts b:=λb hb=>by
     let#[y1,y2]:=sub b hb;rw[(kp3 b (O.keep b y1).1).2.2 y2,(O.keep b y1).2.2 y2]
    let z4:=z3.down h03 eb3 (λy=>a1.2.2 n' y n' zX Z) (yQ.mp a1.2.1).1;rw[US (ts':=X3.ts) (ts:=X.ts) (l:=l) λb hb=>by rw[g3 b (by simp[hb])],US (ts':=X3.ts) (ts:=X.ts) (l:=m) λb hb=>by rw[g3 b (by simp[hb])]] at z4
    let z5:=z.down h0 eb n1 n2;let gnc:hJ X2.ts nc=hJ X.ts nc:=(O.keep nc (sub nc ⋯).1).2.2 (sub nc ⋯).2
    let tp3:∀ i∈n'::c::up,X3.av i=[]->i=r':=λi hi e=>by
     rcases zU.mp hi with y|y
     .cases rd3 with
      |up _ a _ _=>erw[y,a] at e
     .show O.top i y (by rwa[<-av3 i y,e])
    show .succ (n:=nc) (pl:=pl') (Wr:=W') (up:=c::up) (A:=A0++ZP X.ts l) (B:=ZP X.ts m++B0) (by rw[edp,<-ec,eWr]) (by rwa[<-ec,pc]) ?_ #[rd3,tp3,?_,by rw[gn,gnc],rr3|||O.rr,λi hi=>#[(kp3 i 'ā'.1).1,(kp3 i 'ā'.1).2.1.trans 'ā'.2.1,λy=>by
     let y2:i∉c::up:=λw=>y (zS _ w);rw[(kp3 i 'ā'.1).2.2 y2,'ā'.2.2 y2]],λp0 ws' c0 up' e1 e2=>by
     erw[etk,zH,sZ] at e1;cases e2;show#[l,m,eb,eb3]] #[S3.sh.but (ZG.refl D' H3).upd e3 o3,S3.dg] ((G|||G3).wr nD') o3 ?_ (by simp;lia (splits:=8)) nofun nofun
    .rwa[etk,zH,zH,sZ,sZ,z5]
    .rwa[etk,zH,sZ,z4]
    .rw[Za];simp[iN]
 .rintro σ H2 hP;generalize hk:↑us=k at hP;rcases hP with ⟨G,S2,e2⟩|⟨ed,pn,z,O,S2,G,o2,e2,lu,tl,ll⟩
  .exfalso
   have:=congrArg xG eW;rw[lw,hk] at this;simp at this
  .rename_i j X2 ls2 r' n c pl up Wr A0 B0 x4
   let ej:↑W-1=j:=nofun
   let eWr:Wr=[]:=by
    have:=congrArg xG ed;rw[yJ,zN] at this;show uY.mp nofun
   subst eWr;show#[1,q H2 X2 ls2 D' r' n c pl up A0 B0 #v[ej,ed] #v[ej,z] #v[ej,O] S2 G nD' o2 e2 nofun nofun nofun]
section
variable{X X1 X2:ZV}{r p0 p q g x t:Nat}{up0 ps0 l1 m1 bq:jj}{A0 B0:jl}{sq sx:Bool}
end
theorem Cv{K:zZ}{p:aj}{c:jj}{n:Nat}{r:_T.St}{o:jj}{H:Hp}{q:TT}{Q:VK}(s:↑c<=900)(g:H p\.lst (iN c))(e:∀ (a:Hp) (j:Nat) (R:Bool->Hp->Prop),j∈c->ZE H a->R (!gU (V.int (j:Nat)=V.int (n:Nat))) a->q (OE r o (.int (j:Nat))) a R)(k:∀ (D:aj) (a:Hp),ZE H a->H D=Y'->a D\.lst (iN (c.filter λb=>gU (b≠n)))->Q (!D) a):Wj (Os K p) r o q (QX 0) H Q:=
 GV c (λj=>gU (j≠n)) s (λi h d l=>#[_,.int (c[i]:Nat),ZF.of (d _ _ g),by simp[iN,zT l]]) (λi h x z d l m=>#[m.1,m.2 _ (ZF.of (d _ _ g))]) (λh d=>#[_,ZF.of (d _ _ g),by simp[iN]]) (λa j R u v t=>e a j R u v (by
  rw[show (!gU (V.int (j:Nat)=V.int (n:Nat)))=gU (j≠n) by
   rw[decide_not]
   congr 1
   show decide_eq_decide.mpr #[λy=>by have:=V.int.inj y;lia,λy=>by rw[y]]]
  show t)) k
theorem RE{R G:Prop}(h:R->G)(r:R):G:=h r
abbrev By:jn:=["shelf","stem","left","lender","branches","lent"]
theorem Pm:ZC By SH (Zc JN):=Zo
theorem mH(a)(n:Nat)(h:n<=↑a):WX a (Z' (n:Int)) Y'=a.drop n:=by
 unfold WX;rwa[HT.sIx_nat,HT.sIx_none,vF h,zA (by rw[yJ];show zY _)]
theorem uv(a)(n:Nat)(h:n<=↑a):WX a Y' (Z' (n:Int))=a.take n:=by
 unfold WX;rw[HT.sIx_nat,HT.sIx_none,vF h];rfl
theorem Paired.drop':∀{l:List a}{m:List b} n ,Paired F l m->Paired F (l.drop n) (m.drop n)
 |_,_,0,h=>h
 |_,_,n+1,.nil=>.nil
 |_,_,n+1,.cons _ h=>Paired.drop' n h
theorem Paired.take':∀{l:List b}{m:List c} n ,Paired F l m->Paired F (l.take n) (m.take n)
 |_,_,0,h=>.nil
 |_,_,n+1,.nil=>.nil
 |_,_,n+1,.cons a h=>.cons a (Paired.take' n h)
abbrev Df:jn:=["shelf","steps","first","owned","branches","heir","lender"]
theorem NG:ZC Df TW (Zc MR):=Zo
theorem zw{X:ZV}(F:WF X.lv X.ts)(b:r∈X.lv)(d:Dn X.ts r W):Lr X W:=#[d.lvs F b,λp a=>#[(d.st F b p a).1,(d.st F b p a).2.1],λp a=>(d.st F b p ()).2.2 a]
theorem IL{W:jq}{n j:Nat}:sN (W.drop n) j=sN W (n+j):=by
 change (W.drop n).getD j (0,0)=W.getD (n+j) (0,0);rw[zO,zO,List.getElem?_drop]
theorem BV{l m:jj}(h:(l++x::m)[if 0<↑l then ↑l-1 else 1]?\g):(∃ a,l=a++[g])\/(l=[]/\∃ d,m=g::d):=by
 rcases vC l with z|⟨a,b,z⟩
 .subst z;show .inr #[Z,?_]
  cases m with
  |nil=>simp at h
  |cons c d=>simp at h;show#[d,by rw[h]]
 .rw[vD] at z;subst z;show .inl #[a,?_];rw[aM ⋯,yT,xJ ⋯] at h
  simp at h;rw[h]
theorem FD{X:ZV}(F:WF X.lv X.ts)(g:x∈X.lv)(e:Eh X.ts W a)(d:Dn X.ts x (W.drop a)):∃ N L R,VT X.ts x (W.drop a) N L R/\N.Nodup/\(∀ b∈N,b=x\/(X^b).h<(X^x).h):=by
 show AX F d g (λj c=>?_) (λj c=>?_)
 .rw[yJ] at c;have:=e.2.1 (a+j) () ()
  unfold clo at this;rw[rL] at this;rw[IL];have:=of_decide_eq_false this.1
  lia
 .rw[yJ] at c;have:=e.2.1 (a+j+1) () ()
  unfold clo at this;rw[rL,gK] at this;rw[IL];rcases this.2 with y|y
  .show gS (of_decide_eq_false y) ()
  .show of_decide_eq_false y
theorem oQ{W:jq}(h:n<↑W):(W.drop n).getLastD (0,0)=W.getLastD (0,0):=by
 rw[qP,qP,List.getLast?_drop,aK ()]
inductive Pf(d:zZ)(x y:V)(H:Hp)(Q:VK):Prop
 |mk(a b:aj)(f g:je)(c e:jm)(_:x=!a)(_:y=!b)(_:ZF d H a f)(_:ZF d H b g)(_:jO H c f)(_:jO H e g)(_:∀ t∈c,t.depth<=100)(_:Q (.bl (jQ c e)) H)
theorem uf(Y:ZX k X.A):XF X (az .Eq) (Pf X.K):=by
 intro E s σ H x y v u Q I rx ry h;let#[a,b,xs,ys,f,g,rfl,rfl,U,V,z,B,W,q]:=h;cases rx;cases ry;let#[d,F,C,z1]:=I.list U;let#[c,G,D,z2]:=I.list V;let l1:=↑F;let l2:=↑G;let m1:=↑z;let m2:=↑B;let un:=Y.un;by_cases p:↑d=↑c
 .show PySem.SeqAt.RcAt.lists (e:=λj=>(f.getD j (.int 0)).eqb (g.getD j (.int 0))) C.isList D.isList #v[p] () (λj n o=>?_) X.prog X.w X.xe _ #[.bl _,H,I,Z,?_]
  .let r:j<↑xs:=by simp at n;lia
   let t:j<↑ys:=by simp at o;lia
   let#[l,m,M]:=z.get (zT r);let#[t2,R,N]:=B.get (zT t);let#[J,S,O]:=F.get (zT r);let#[L,T,P]:=G.get (zT t);let q1:d.toArray[j]=J:=by
    have:d.toArray[j]?\J:=#v[S]
    rw[wZ n] at this;show yV.inj this
   let q2:c.toArray[j]=L:=by
    have:c.toArray[j]?\L:=#v[T]
    rw[wZ o] at this;show yV.inj this
   rw[q1,q2,zO,zO,m,R];let dp:=W l (zG m);show Pq l.depth l t2 _ _ _ (zY _) (VY I _ _ _ M O) (VY I _ _ _ N P) (by change X.A.units+1+_<_;lia)
  .let e:=NJ f g;let i:min ↑f ↑g=d.toArray.size:=by simp;lia
   rw[i,show (↑f==↑g)=V' by simp;lia,rH] at e
   rwa[e,q]
 .show PySem.SeqAt.RcAt.lists_lengths C.isList D.isList #v[p] () X.prog X.w X.xe _ #[.bl _,H,I,Z,?_]
  let e:=NJ f g;rw[show (↑f==↑g)=false by simp;lia,Bool.and_false] at e
  rw[<-e] at q;show q
def Wg(k:KT)(a:jl):jl:=a.filter λr=>!r.1.eqb k
theorem C1(k)(a b):Wg k (a++b)=Wg k a++Wg k b:=yB ..
theorem Ef{k:KT}{rs:jl}(h:∀ x∈rs,x.1≠k):Wg k rs=rs:=wI.mpr λx a=>by
 cases e:x.1.eqb k with
 |false=>rfl
 |true=>show gS (Uk _ _ e) (h x a)
theorem CV{a b:KT}(h:a.lt b=V'):a≠b:=λz=>by erw[z,UI] at h
theorem GW{A M B:jl}(b:∀ x∈A,x.1.lt k=V')(c:∀ x∈B,k.lt x.1=V'):Wg k (A++M++B)=A++Wg k M++B:=by
 rw[C1,C1,Ef λx a=>CV (b x a),Ef (rs:=B) λx a=>(CV (c x a)).symm]
theorem Af{A M B:jl}(U:Up (A++M++B))(d:M≠[])(e:Wg k M=[]):Wg k (A++M++B)=A++B:=by
 let#[x,g,b]:=sR d;let f:x.1=k:=by
  have:=wX.mp e x (by rw[b];simp)
  simp at this;show Uk _ _ this
 unfold Up Ps at U;rw[zH,zH,xA,xA] at U;let c:k∈M.map (·.1):=by rw[b,<-f];simp
 rw[GW (λy a=>U.1.2.2 _ (zQ.mpr #[y,a,Z]) k c) (λy a=>U.2.2 k (yZ _ c) _ (zQ.mpr #[y,a,Z])),e,zC]
theorem GX:∀{a b:jl},YB a=YB b->a=b
 |[],[],_=>rfl
 |[],_::_,h=>by cases h
 |_::_,[],h=>by cases h
 |x::a,y::b,h=>by
  injection h with h1 h2;unfold OC at h1;injection h1 with h1;injection h1 with a1 b1;injection b1 with b1;rw[GX h2,show x=y from Prod.ext a1 b1]
theorem mP(h:jQ (YB a) (YB b)=V'):a=b:=GX (eqbL_eq _ _ h)
theorem Fw(h:2^n<=m)(a:m<=200):n<=7:=by
 rcases yL n 8 with z|z
 .lia
 .have:2^8<=2^n:=Nat.pow_le_pow_right 'b' z
  have:(2:Nat)^8=256:=by decide
  lia
theorem M5(f:∀ r∈a,r.fit)(u:Up a)(b:0<↑a)(c:↑a<=4):OT a:=#[f,b,c,u]
theorem N9(g:OT a):XB gt b i (Xo a):=
 #[λz=>by have:=g.2.1;rw[show (Xo a).rows=a from rfl] at z;rw[z] at this;simp at this,g.2.2.2,g.1,λ_=>#[Z,g.2.2.1],λz=>gS Z z]
section
variable{jT jU:aj}{H H':Hp}{X:ZV}{lk:aj}{ls ls':je}{r:jp}
theorem xo(h:Y8 (O3 X lk D) H a p u):XU X lk H a p u:=by
 let#[t,c,e,d,j,l,k,b,f,g,n,_,i]:=h;show#[t,c,e,d,λz=>#[j,l,_,b,f,by rwa[<-i z,g],Classical.byContradiction λy=>n (.inr y)]]
end
theorem Ba{p:aj}{m:je}{rs:jl}{k:KT}{S:_T.St}{N:jj}{H:Hp}{O:TT}{Q:VK}(U:↑rs<=900)(F:H p\.lst m)(I:jO H (YB rs) m)(t:∀ (j:Hp) (a:aj) (u v:V) (r:ZW) (R:Bool->Hp->Prop),r∈rs->ZE H j->j a\.tup [u,v]->ZD j r.1 u->R (!r.1.eqb k) j->O (OE S N !a) j R)(A:∀ (D:aj) (e:je) (j:Hp),ZE H j->H D=Y'->j D\.lst e->jO j (YB (Wg k rs)) e->Q (!D) j):Wj (Os K p) S N O (QX 0) H Q:=by
 let W:↑m=↑rs:=by have:=↑I;rwa[<-this,zW _]
 show KY (n:=↑m) (λi z=>m[i]?\z) (λn=>!(rs.getD n rc).1.eqb k) (λD n e d=>ZE H d/\H D=Y'/\jO H (YB (Wg k (rs.take n))) e) (Yq ())
  (λD n e d s c=>#[m,m[n],ZF.of (c.1 _ _ F),by simp[s]]) (λD n e d z T s c M=>#[M.1,M.2 m (ZF.of (c.1 _ _ F))]) (λD e d c=>#[m,ZF.of (c.1 _ _ F),zY _])
  (λD L=>#[Zv L _,L,.nil]) (λD n e d z q s G c B C=>?_) (λD n e d z q s G E c B C=>?_) (λD n e d q s E c=>?_) (λD e d q c=>?_)
 .let#[h,o,l]:=c;let#[a,u,v,g,rfl,y,x,J]:=OG I G;show t d a u v _ _ (zG g) h (h _ _ y) (x.sm h) (C d q #[h,o,l])
 .let#[h,o,l]:=c;let#[a,u,v,g,rfl,y,x,J]:=OG I G;show#[1,C _ d q #[UW h o,o,?_]];unfold Wg at l⊢;rwa[O0 _ g,aM E,show ∀ a b,YB (a++b)=YB a++YB b from λ_ _=>zH ..,l.append (.cons (.tup y (.cons x (.cons J .nil))) .nil)]
 .let#[h,o,l]:=c;let g:rs[n]?\rs.getD n rc:=by rw[zO,zT ()];rfl
  exists h,o;unfold Wg at l⊢;rw[O0 _ g,aK #v[E,zP],zC]
  show l
 .let#[h,o,l]:=c;rw[zA ()] at l
  show A D e d h o q (l.sm h)
abbrev Cy:jn:=["shelf","root","key","steps","rows","left","owned"]
theorem Vz:ZC Cy T3 (Zc N4):=Zo
noncomputable def LX(b:Int)(n:Nat):It:=#[λi _=>i<n,λi H x a=>a=H/\x=.int (b-i),λi _=>n<=i]
theorem oJ(c)(g)(n):Uf P w K Q (LX g n) [c] c (λi h=>IsRangeIter h c (g+(i:Nat)*(-1)) ((n:Int)-(i:Nat)) (-1)) where
 mem:=by simp
 obj:=λi h a b f=>by
  let e:b=c:=by simpa using f
  subst e;show#[_,a,λv z=>by
   let R:Data.fields _=Data.cell v:=z;cases R]
 keep:=λi h l a k=>k c ⋯ _ a
 item:=by
  intro X A D y B i d s G H E I m a C;subst A D y;let#[p,q,M,r,u,x]:=m c ⋯
  let W:=Walks.range (prog:=X.prog) (w:=X.w) 'Ř' c g (-1) n;show W.item i s _ _ C a λv l F N j O=>?_;let#[t,rfl]:=N;let J:ZH X d G H { s with heap:=l,toks:=F }:=I.turned (λb o f e=>O b o #v[f] e) p q r u x
  show#[1,M8 (s:={ s with heap:=l,toks:=F }) (n:= "range_iterator") j Z Z 'b' #[.int (g-i),H,J,#[t,?_],#[Z,Z],j,λb f=>(m b f).1]]
  rw[show g+(i:Int)*(-1)=g-i by lia]
 done:=by
  intro X A D y B i d s G H E I m a C;subst A D y;let#[p,q,M,r,u,x]:=m c ⋯
  show wpAny_pyNext_range_end 'Ř' a (by have:n<=i:=C;lia) λl L=>#[Z,I.turned (t':=s.toks) (λb o f e=>L b o f e) p q r u x]
 self:=λ_ _ _ _ _ a h=>wpAny_pyIter_rangeiter a h
section
variable{tg:Expr}
inductive Ma(R:It->Hp->Prop)(b:je)(a:Hp):Prop
 |mk(n:Nat)(_:b=[.int ((n:Int)-1),.int (-1),.int (-1)])(_:n<=1000)(_:R (LX ((n:Int)-1) n) a)
def Sf(b:TA):TI:=λd H R=>b d H λc a=>Ma R c a
theorem Ej(n:Nat):Builtin.Range.rangeSize ((n:Int)-1) (-1) (-1)=n:=by
 unfold Builtin.Range.rangeSize;rw[aK 'b']
 split
 .rw[show -(-1:Int)=1 from rfl,Int.ediv_one];lia
 .lia
theorem Bq{p pos:Pos}(B:Gl X "range")(C:X.mg "range"=Y')(z:PA X [a,b,c] l)(D:ar [a,b,c] X.env=[(false,aG a X.env),(false,aG b X.env),(false,aG c X.env)]:=by rfl)(g:ar [b,c] X.env=[(false,aG b X.env),(false,aG c X.env)]:=by rfl):
  PI X tg (.Call 'ı' [a,b,c] [] pos) (Sf l):=by
 intro d s m H R I h;show Call_ (Nc I B C boot_range (PyProof.Rows.callWith_type1 (YG (z pos d s m H _ I h) λL f M k w G E=>?_) (by rw[D,g]) (by rw[g];rfl)))
 let#[n,e,K,q]:=E;subst e
 cases G with
 |cons r i=>
  cases i with
  |cons F i=>
   cases i with
   |cons J i=>
    cases i;let#[t,rfl]:=r;let#[u,rfl]:=F;let#[v,rfl]:=J;show call_range_3 'b' ?_ (.inl (PyProof.noPylong_small ()))
    show wpAny_pyIter_range (IsRange.new ..) ?_ ?_
    .unfold Builtin.Range.small;rw[Ej];simp only[Builtin.Range.rangeFitsLong,zI,Bool.or_eq_true,decide_eq_true_eq,beq_iff_eq,show ¬ (-1:Int)>0 by decide,if_false]
     lia
    .let j:ZH X d m k { f with heap:=f.heap.push { cls:=.type "range",data:=.fields ⇑[.int ((n:Int)-1) t,.int (-1) u,.int (-1) v] },toks:=f.toks }:=w.kept λb o e=>zD _ e;show#[(f.heap.push { cls:=.type "range",data:=.fields ⇑[.int ((n:Int)-1) t,.int (-1) u,.int (-1) v] }).objs.size,[(f.heap.push { cls:=.type "range",data:=.fields ⇑[.int ((n:Int)-1) t,.int (-1) u,.int (-1) v] }).objs.size],_,_,k,Z,
      j.kept (t':=f.toks) λb o e=>zD _ e,oJ _ ((n:Int)-1) n,?_,λb A=>?_,q]
     .let x:(n:Int)-1+((0:Nat):Int)*(-1)=(n:Int)-1:=by simp
      let y:((n:Nat):Int)-((0:Nat):Int)=Builtin.Range.rangeSize ((n:Int)-1) (-1) (-1):=by rw[Ej];lia
      change IsRangeIter _ _ ((n:Int)-1+((0:Nat):Int)*(-1)) (((n:Nat):Int)-((0:Nat):Int)) (-1);rwa[x,y,yI _ Z]
     .let e:b=(f.heap.push { cls:=.type "range",data:=.fields ⇑[.int ((n:Int)-1) t,.int (-1) u,.int (-1) v] }).objs.size:=#v[A]
      subst e;show j.fpOk (zY _) (j.hok.fresh (zY _))
theorem qi{g:hW}{o:TS}{D:YK}(c:Nat->St->Hp->Prop)(q:c 0 a H)(s:∀ i a H,i<n->c i a H->g (.int (j-i)) a H λh k=>o { D with nx:=c (i+1),ct:=c (i+1),bk:=D.nx } h k)(r:∀ a H,c n a H->D.nx a H):
  ∃ W:Nat->Nat->St->Hp->Prop,(∃ m,W 0 m a H)/\∀ i m a H,W i m a H ->
   ((LX j n).stop i H/\D.nx a H)\/((LX j n).go i H/\∃ N,(∀ f b,N f b->∃ l,l<m/\W (i+1) l f b)/\∀ x b,(LX j n).yld i H x b->g x a b λh k=>o { D with nx:=N,ct:=N,bk:=D.nx } h k):=by
 exists λi m a H=>m=n-i/\i<=n/\c i a H,#[n,by simp,yY _,q]
 rintro i m a H ⟨rfl,j,p⟩;by_cases d:i<n
 .show .inr #[d,c (i+1),λf b t=>#[n-(i+1),(),Z,d,t],λx b y=>?_]
  let#[e,y]:=y;subst e y;show s i a _ d p
 .let e:i=n:=()
  subst e;show .inl #[zY _,r a H p]
end
variable{jT jU CS CT CH CK CP CB:aj}
theorem Jo(n:Nat):WX a Y' (Z' (n:Int))=a.take n:=by
 unfold WX;rw[HT.sIx_none,HT.sIx_nat];simp only[sO,Nat.sub_zero];rcases Nat.le_total n ↑a with h|h
 .rw[vF h]
 .rw[Nat.min_eq_right h,zA (zY _),zA h]
theorem J9(n:Nat):WX a (Z' (n:Int)) Y'=a.drop n:=by
 unfold WX;rw[HT.sIx_none,HT.sIx_nat];rcases Nat.le_total n ↑a with h|h
 .rwa[vF h,zA ⋯]
 .rw[Nat.min_eq_right h,uE,vA (zY _),vA h];rfl
theorem KZ(a)(n):YB (a.take n)=(YB a).take n/\YB 'Ű'=(YB a).drop n:=#[uR,uS]
structure Cn(X:ZV)(r c:Nat)(up ps:jj)(A B:jl):Prop where
 rd:Rd X.lv X.av X.ho c (c::up)
 top:∀ i∈c::up,X.av i=[]->i=r
 z:YV X.ts r (c::up) ps A B
inductive U6(ts:jk)(r c:Nat)(A B T:jl):jp->Prop
 |none:(ts^r).rows=T->U6 ts r c A B T Y'
 |some {N:Nat}:(ts^N).h=(ts^c).h->A++(ts^c).rows++(ts^N).rows++B=T->U6 ts r c A B T (Z' N)
theorem Cn.ro{X:ZV}{r c:Nat}{a d:jj}{A B:jl}{o:jj}(h:Cn X r c a d A B)(m:r∈o):∀ i∈c::a,X.av i=[]->i∈o:=λi b e=>#v[h.top i b e,m]
inductive Ww(jT jU:aj):Sp
 |mk{X:ZV}{lk l:aj}{ls us:je}{U:Nat->Prop}{g:Nat->Nat}{o:jj}{r n:Nat}{rr:jl}{up ps:jj}{A B:jl}{H:Hp}{Q:VK}{E:XK}:
  Sd jT jU H X lk ls U g (r::o)->Cn X r n up ps A B->↑up<=700->↑X.ts<=790->(X^n).h=0->H l\.lst us->Ze X lk l->jO H (YB rr) us->(∀ x∈rr,x.fit)->0<↑rr->↑rr<=5->Up (A++rr++B) ->
  (∀(H':Hp)(X':ZV)(N:jp),Go lk H H' X X'->Sd jT jU H' X' lk ls U g (N.toList++r::o)->Cn X' r n up ps A B->U6 X'.ts r n A B (A++rr++B) N->(∀ b,U b->hJ X'.ts b=hJ X.ts b)->↑X'.ts<=↑X.ts+1->Q (YS N) H')->Ww jT jU [!X.S,.int (n:Nat),!l] H Q E
theorem lH:ZC Ta Ta (Zc HJ):=Zo
theorem Bw(F:Zl K "give_rows" "give_rows" HJ f fd)(T:YM mg)(L:'d')(DC:'3')(DP:'F'):-ZI ZJ 12 f fd Ta (Ww jT jU):=by
 show F.ok lH 'a' (λa7 A a5 s H vs Q E hr h=>?_)
 induction h
 rename_i X lk l ls I U g o r n k up ps A B H Q E D J u8 t7 h0 hl ol kr rf r1 r5 W q
 let a0:=hr.mono (show 10<=11 by lia)
 let#[t0,m0]:=T.rows;let#[t1,m1]:=T.kept;intro Xc;show#[_,ZK (Z4 (YO NI (YA XG Z T.len XE 'o') (Xp (v:=.int 4) Z m0 #[_,Z]) (Z9 _)) (ZK (YF (Zs (E:=E0) (pv 0) L.cS DC hr Zn 'ĝ')) 'ą') Z6)
  (ZK (YF (Zs (E:=E0) (pv 0) L.cS DC hr Zn (Zu (pv 1) (QZ QY (pv 2) Q1 (Ue (Xp (v:=.int 3) Z m1 #[_,Z]))))))
  (ZR (Zh (Zs (E:=E0) (pv 0) L.cS DP a0 Zn (ZQ (QZ QY (pv 2) (Ue (Xp (v:=.int 3) Z m1 #[_,Z])) Q1)))))),?_]
 let R:=D.sh;let O:=D.dg.wf;let m:=D.dg.own r zX;let z:=J.z;let ro:=J.ro (o:=r::o) zX;let Y:=D.dg.free J.rd ro;let a6:=D.all;let#[dS,hS]:=R.sh.self;let lu:↑I=↑k:=by have:=↑kr;rwa[<-this,zW _]
 let Ur:Up k:=xI.sublist (yN.map _ ((yF A _)|||yG _ B)) W;let#[hn,fu,_,_]:=z.facts O m Z;let eb:=((O n hn).leaf h0).1;let N:=J.rd.inn;exists 1,l,I,Z,.inl 'ű',_,1,Z,_,Z;by_cases c4:↑k<=4
 .rw[aJ (show ((↑I:Nat):Int)<=4 by lia)]
  let G:=M5 rf Ur r1 c4;let#[j,ch,C]:=Ls (t:=Xo k) R.lt O m D.dg.avk J.rd z h0.symm (N9 G) W;show Z2 #[1,X.S,dS,1,hS,Z,2,.mk #[R,O,m,D.dg.avk] z J.rd () hl kr G h0 ch C λH1 M fr R1 A1=>?_]
  show q H1 #[X.S,X.d,X.lv,j,X.av,X.ho,M,X.kvs] Y' (Ni (λc o n e=>fr c o (λi p=>(n i p).1) e) A1) #[R1,D.dg.chl J.rd ro C eb.symm] #[J.rd,J.top,z.chd O m C] (.none C.rows) (λb V=>C.old b λy=>Y b y V) (by change ↑j<=_;rw[C.len];lia)
 rw[aI (show ¬ ((↑I:Nat):Int)<=4 by lia)]
 show Zq ?_;let sp:k.take 3++k.drop 3=k:=wY 3 k;let l3:↑(k.take 3)=3:=by rw[yA];lia
 let l2:↑(k.drop 3)=2:=by rw[yJ];lia
 let G3:=M5 (λx h=>rf x (sV h)) (xI.sublist ((uK 3 k).map _) Ur) () ()
 let G2:=M5 (λx h=>rf x (uH h)) (xI.sublist ((rX 3 k).map _) Ur) () ()
 let U3:Up (A++(Xo (k.take 3)).rows++B):=by
  show xI.sublist (yN.map _ ?_) W;show(((uK 3 k).append_left A).append_right B)
 let#[j,ch,C]:=Ls (t:=Xo (k.take 3)) R.lt O m D.dg.avk J.rd z h0.symm (N9 G3) U3;exists 1,X.S,dS,1,hS,Z,3,l,I,Z,ZF.of hl;intro p1 n1;rw[show WX I Y' (Z' (3:Int))=I.take 3 from Jo 3];let#[H1,eU,g1,h1]:=Yo n1 (.lst (I.take 3));rw[eU];let k3:jO H1 (YB (k.take 3)) (I.take 3):=#v[(KZ k 3).1,(kr.take 3).sm g1]
 show .mk #[R.same g1,O,m,D.dg.avk] z J.rd () h1 k3 G3 h0 ch C λH2 M fr R2 A2=>?_
 let D2:=D.dg.chl J.rd ro C eb.symm;let gA:Go lk H1 H2 X #[X.S,X.d,X.lv,j,X.av,X.ho,M,X.kvs]:=Ni (λc o n e=>fr c o (λi p=>(n i p).1) e) A2;let gB:=(Go.same (X:=X) (lk:=lk) g1)|||gA;let#[a1,a3]:=R2.sh.self;let a4:H2 l\.lst I:=gB.fr _ _ ol hl;let t2:Z1 H H2:=gB.tups R;exists 1,X.S,a1,1,a3,Z,2,l,I,Z,ZF.of a4;intro p3 n3;rw[show WX I (Z' (3:Int)) Y'=I.drop 3 from J9 3];let#[H3,eU,g3,h3]:=Yo n3 (.lst (I.drop 3));rw[eU];let k2:jO H3 (YB (k.drop 3)) (I.drop 3):=#v[(KZ k 3).2,((kr.drop 3).mono t2 _ _).sm g3]
 exists X.S,X.d,lk,p3,X.lv,j,X.av,X.ho,M,X.kvs,ls,I.drop 3,k.drop 3,Z,R2.same g3,(),h3,k2,G2
 intro H4 a nx nt na a2 R4;let gC:=N0 (lk:=lk) (H:=H3) (H':=H4) (X:=#[X.S,X.d,X.lv,j,X.av,X.ho,M,X.kvs]) (t:=Xo (k.drop 3)) (a:=a) (av':=YZ ↑j X.av) (ho':=Yi ↑j X.ho) (kvs':=Yh X.kvs (.inl (↑j:Int)) !a.x) R2.len R2.lt (λc o n1 n2 _ e=>a2 c o n1 n2 e) nx nt na;let D4:=D2.put (t:=Xo (k.drop 3)) (rest:=r::o) R2.lt (N9 G2) vU (yP.refl _);rw[show Yb (Xo (k.drop 3)).bs ↑j (YZ ↑j X.av)=YZ ↑j X.av from funext λi=>aK (by simp[Xo]),show Wn (Xo (k.drop 3)).bs (Yi ↑j X.ho)=Yi ↑j X.ho from funext λi=>aK (by simp[Xo])] at D4
 let nN:↑j∉X.lv:=λy=>xW _ (R2.lt _ y);let ne:∀ i∈X.lv,i≠↑j:=λi p y=>nN (y▸p);let gl:∀ i∈X.lv,hJ (j++[Xo (k.drop 3)]) i=hJ j i:=λi p=>Q4 (R2.lt i p);show q H4 #[X.S,X.d,X.lv++[↑j],j++[Xo (k.drop 3)],YZ ↑j X.av,Yi ↑j X.ho,M++[a],Yh X.kvs (.inl (↑j:Int)) !a.x] (Z' ↑j) ((gB|||Go.same g3)|||gC) #[R4,D4] #[J.rd.keep λi p=>#[zL _ (N i p),aK 'ť',aK 'ť'],λi p e=>J.top i p (by rwa[<-show YZ ↑j X.av i=X.av i from aK 'ť',e]),?_] (.some ?_ ?_) (λb V=>by
  have:=D.dg.u.inn b V;change hJ (j++[_]) b=_;rwa[gl b this,C.old b λy=>Y b y V]) (by change ↑(j++[_])<=_;rw[zR,C.len];simp)
 .show(z.chd O m C).keep C.wf m Z (λi p=>#v[gl i (fu i p).1,#[Z,Z]]) λb V _ _=>by rw[gl b V]
 .change (hJ (j++[_]) ↑j).h=(hJ (j++[_]) n).h;rw[Qf,gl n hn,C.at_];rfl
 .change A++(hJ (j++[_]) n).rows++(hJ (j++[_]) ↑j).rows++B=_;rw[Qf,gl n hn,C.at_];change A++k.take 3++k.drop 3++B=_;rw[yT A,sp]
theorem zb(l m)(N):(iN (l++m)).take ↑l++V.int (N:Nat)::(iN (l++m)).drop ↑l=iN (l++N::m):=by
 let e:↑(iN l)=↑l:=zW _;rw[show iN (l++m)=iN l++iN m from zH,<-e,sM,sP];simp[iN]
theorem nE(h:Y.Sublist c):(ZP d Y).Sublist (ZP d c):=by
 unfold ZP
 induction h with
 |slnil=>show .slnil
 |cons a _ b=>rwa[wT,b|||yF _ _]
 |cons_cons a _ b=>rwa[wT,wT,b.append_left _]
inductive WA(jT jU:aj):Sp
 |mk{X:ZV}{lk:aj}{ls:je}{U:Nat->Prop}{g:Nat->Nat}{o:jj}{r p N:Nat}{up ps l m:jj}{A B T:jl}{H:Hp}{Q:VK}{E:XK}:
  Sd jT jU H X lk ls U g (N::r::o)->Cn X r p up ps A B->↑up<=700->↑X.ts<=790->↑ls<=380000->(X^p).h≠0->(X^p).bs=l++m->(X^N).h+1=(X^p).h->A++ZP X.ts (l++N::m)++B=T->Up T ->
  (∀(H':Hp)(X':ZV)(M:jp),Go lk H H' X X'->Sd jT jU H' X' lk (ls++[.int (p:Int)]) U g (M.toList++r::o)->Cn X' r p up ps A B->U6 X'.ts r p A B T M->(∀ b,U b->hJ X'.ts b=hJ X.ts b)->↑X'.ts<=↑X.ts+1->Q (YS M) H')->WA jT jU [!X.S,.int (p:Nat),.int (↑l:Nat),.int (N:Nat)] H Q E
theorem WW:ZC ["shelf","stem","at","number","branches"] SJ (Zc Kw):=Zo
theorem nz(F:Zl K "add_branch" "add_branch" Kw f fd)(T:YM mg)(L:'d')(DL:'j')(DC:'2')(DP:'u'):-ZI ZJ 12 f fd SJ (WA jT jU):=by
 show F.ok WW 'a' (λi9 A i3 s H vs Q E hr h=>?_)
 induction h
 rename_i X lk ls U g o r p N up ps l m A B T0 H Q E D cn u8 t7 l1 h0 eb e8 eT UT q
 let nd:=WW.nd;let c9:=hr.mono (show 10<=11 by lia)
 let i1:=hr.mono (show 2<=11 by lia)
 let#[t0,m0]:=T.most;let#[t1,m1]:=T.kept;intro Xc;show#[_,ZK (Zf 4 nd (XL K (Zs (E:=E0) (pv 0) L.cS DL i1 Zn 'f') ZM))
  (ZK (YF (QG xQ qH qE E6 (pv 4) (Zu (pv 2) (pv 3))))
  (ZK (Z4 (YO NI 'm' (Xp (v:=.int 4) Z m0 #[_,Z]) (Z9 _)) (ZK (YF (Zs (E:=E0) (pv 0) L.cS DC hr Zn (Zu (pv 1) (pv 4)))) 'ą') Z6)
  (ZK (YF (Zs (E:=E0) (pv 0) L.cS DC hr Zn (Zu (pv 1) (QZ QY (pv 4) Q1 (Ue (Xp (v:=.int 3) Z m1 #[_,Z]))))))
  (ZR (Zh (Zs (E:=E0) (pv 0) L.cS DP c9 Zn (ZQ (QZ QY (pv 4) (Ue (Xp (v:=.int 3) Z m1 #[_,Z])) Q1)))))))),?_]
 let R:=D.sh;let wf:=D.dg.wf;let hN:=D.dg.own N zX;let O:=D.dg.own r 'Ś';let z:=cn.z;let ro:=cn.ro (o:=N::r::o) 'Ś';let c7:=D.dg.free cn.rd ro;let a6:=cn.rd.inn;let i7:=D.all;let#[dS,hS]:=R.sh.self;let#[hp,fu,_,_]:=z.facts wf O Z;let#[b2,b4,b3,er]:=(wf p hp).stem h0;let e4:=UN wf hp h0;exists 1,X.S,dS,1,hS,Z,1,X,lk,↑X.ts,ls,p,Z,R.q,hp,by lia
 intro H1 tp M l6 e6 R1 i2 nl hl _ k2;let k2:=k2 h0;subst k2;let e3:Zm jT jU H1 X.S X.d lk X.lv X.ts X.av X.ho X.as X.kvs (ls++[.int (p:Int)]):=#[R1.sh,R.lt,R.keys,R.val,R.len,R1.tw,R.own,R.two];let G1:Go lk H H1 X X:=Go.looks e6;let c3:Ze X lk M:=R.new nl;exists tp,_,_,!M,Z,Z,Zp.of i2,Z;let lb:↑(iN (X^p).bs)=↑(X^p).bs:=zW _;let l5:↑(X^p).bs=↑l+↑m:=by rw[eb,zR]
 exists 1,.inl #[Z,_,ZF.of hl],2,M,_,↑l,.int (N:Nat),Z,Z,hl,(),Yq ()
 let eI:(iN (X^p).bs).take ↑l++V.int (N:Nat)::(iN (X^p).bs).drop ↑l=iN (l++N::m):=#v[eb,zb l m N]
 rw[eI];let sX:ZG M H1 (upd H1 M (.lst (iN (l++N::m)))):=(ZG.refl M H1).upd;let R2:=e3.but sX hl c3;let a3:upd H1 M (.lst (iN (l++N::m))) M\.lst (iN (l++N::m)):=Za;let G2:Go lk H (upd H1 M (.lst (iN (l++N::m)))) X X:=G1.wr nl;generalize upd H1 M (.lst (iN (l++N::m)))=H2 at sX R2 a3 G2⊢;let#[c6,c8]:=R2.sh.self;let i8:↑(l++N::m)=↑l+(↑m+1):=by rw[zR,zN]
 let I:∀ b,b∈l++N::m↔b=N\/b∈(X^p).bs:=λb=>by
  rw[eb];simp only[zM,zU];constructor
  .rintro(y|y|y)
   .show .inr (.inl y)
   .show .inl y
   .show .inr (.inr y)
  .rintro(y|y|y)
   .show .inr (.inl y)
   .show .inl y
   .show .inr (.inr y)
 let J:∀ b∈l++N::m,b∈X.lv/\(X^b).h+1=(X^p).h:=λb n=>by
  rcases(I b).mp n with y|y
  .rwa[y,#[hN,e8]]
  .show b3 b y
 let W:(l++N::m).Nodup:=N3 (λb n=>(wf b (J b n).1).ne) (UD UT (by rwa[<-eT,(yF A _)|||yG _ B]))
 let c1:N∉(X^p).bs:=λy=>by
  rw[eb] at y;let a1:=yO.mp W;let a2:=yQ.mp a1.2.1;rcases zM.mp y with q|q
  .show a1.2.2 N q N zX Z
  .show a2.1 q
 generalize l4:l++N::m=j at *;let mN:∀(Y:jj)(i:Nat),i∈Y1 X.ts p Y↔i∈Y/\i∉(X^p).bs:=λY i=>by unfold Y1;simp
 let mG:∀(Y:jj)(i:Nat),i∈XH X.ts p Y↔i∈(X^p).bs/\i∉Y:=λY i=>by unfold XH;simp
 let e1:∀{Y:jj},(∀ b∈Y,b∈j)->∀ b∈Y1 X.ts p Y,1<=X.ho b/\↑(X.av b)<=800:=fun{Y} h b n=>by
  let#[y1,y2]:=(mN Y b).mp n;have:b=N:=((I b).mp (h b y1)).resolve_right y2;rwa[this,D.dg.hs N hN,vV,#[(),zJ (D.dg.avl hN) ()]]
 let a4:∀ i∈p::up,(X^p).h<=(X^i).h:=λi G=>by
  rcases zU.mp G with y|y
  .rwa[y,zY _]
  .show yE (fu i y).2
 exists 1,M,1,.inl (ZF.of a3),_,1,Z,_,Z;let lI:↑(iN j)=↑j:=zW _;by_cases c4:↑j<=4
 .rw[aJ (show ((↑(iN j):Nat):Int)<=4 by lia)]
  let nB:Y1 X.ts p j=[N]:=by
   let hs:∀ b∈Y1 X.ts p j,b=N:=λb n=>((I b).mp ((mN j b).mp n).1).resolve_right ((mN j b).mp n).2;let hm:N∈Y1 X.ts p j:=(mN j N).mpr #[(I N).mpr (.inl Z),c1];show rP.mp ((vN (W.sublist xB) ⋯).mpr λb=>#[λh=>zV.mpr (hs b h),λh=>#v[zV.mp h,hm]])
  let gB:XH X.ts p j=[]:=uA.mpr λb n=>((mG j b).mp n).2 ((I b).mpr (.inr ((mG j b).mp n).1));let#[ov,th,a8,k,ch,C,D3,z3,un]:=Dg.change (rest:=r::o) R.lt D.dg O cn.rd ro z h0 J () c4 #v[nB,yP.refl _] #v[eT,UT]
  rw[gB] at D3;show Z2 #[1,X.S,c6,1,c8,Z,2,.mk (T:=_) #[R2,wf,O,D.dg.avk] z cn.rd () a3 (λb n=>(J b n).1) c4 ov th a8 (e1 λb n=>n) ch C λH3 a0 fr R3 A3=>?_]
  show q H3 #[X.S,X.d,X.lv,k,Vr X.ts p j X.av,Vu X.ts p j X.ho,a0,X.kvs] Y' (G2|||Ni fr A3) #[R3,D3] #[cn.rd.keep λi G=>#[a6 i G,un i (a4 i G)],λi G e=>cn.top i G (by rwa[<-(un i (a4 i G)).1,e]),z3] (.none #v[C.rows,eT]) (λb n=>C.old b λy=>c7 b y n) (by change ↑k<=_;rw[C.len];lia)
 rw[aI (show ¬ ((↑(iN j):Nat):Int)<=4 by lia)]
 show Zq ?_;let s3:=uK 3 j;let sY:=rX 3 j;let l3:↑(j.take 3)=3:=by rw[yA];lia
 let l2:↑(j.drop 3)=2:=by rw[yJ];lia
 let sp:j.take 3++j.drop 3=j:=wY 3 j;let a9:∀ b∈j.drop 3,b∉j.take 3:=λb n y=>by
  rw[<-sp] at W;show(yO.mp W).2.2 b y b n Z
 let eR:ZP X.ts j=ZP X.ts 'H'++ZP X.ts 'ç':=by rw[<-QI,sp]
 let c2:(j.drop 3).Nodup:=W.sublist sY;let e0:(XH X.ts p (j.take 3)).Nodup:=e4.sublist xB;let c0:∀ b,b∈j↔b∈j.take 3\/b∈j.drop 3:=λb=>by rw[<-zM,sp]
 let i4:∃ rest,(N::r::o).Perm (Y1 X.ts p (j.take 3)++rest)/\(XH X.ts p (j.take 3)++rest).Perm (j.drop 3++r::o):=by
  by_cases c:N∈j.take 3
  .exists r::o,?_
   .have:Y1 X.ts p 'H'=[N]:=rP.mp ((vN ((W.sublist s3).sublist xB) ⋯).mpr λb=>(mN 'H' b)|||(by
     rwa[zV,#[λh=>((I b).mp (s3.subset h.1)).resolve_right h.2,λh=>by rw[h];show#[c,c1]]]))
    rwa[this,yP.refl _]
   .show yP.append_right _ ((vN e0 c2).mpr λb=>?_);rwa[mG,#[λh=>((c0 b).mp ((I b).mpr (.inr h.1))).resolve_left h.2,λh=>#[((I b).mp (sY.subset h)).resolve_left λy=>a9 b h (y▸c),a9 b h]]]
  .exists N::r::o,?_
   .have:Y1 X.ts p 'H'=[]:=uA.mpr λb n=>by
     let#[y1,y2]:=(mN _ b).mp n;have:=((I b).mp (s3.subset y1)).resolve_right y2;show c (this▸y1)
    rwa[this,yP.refl _]
   .have:(XH X.ts p 'H'++[N]).Perm 'ç':=(vN (by
     rwa[yO,#[e0,by simp,λa ha b n e=>c1 (by rw[<-zV.mp n,<-e];show((mG _ a).mp ha).1)]]) c2).mpr λb=>by
      rw[zM,mG,zV];constructor
      .rintro(h|h)
       .show((c0 b).mp ((I b).mpr (.inr h.1))).resolve_left h.2
       .rwa[h,((c0 N).mp ((I N).mpr (.inl Z))).resolve_left c]
      .intro h;rcases(I b).mp (sY.subset h) with y|y
       .show .inr y
       .show .inl #[y,a9 b h]
    rw[show XH X.ts p 'H'++N::r::o=(XH X.ts p 'H'++[N])++r::o by simp]
    show this.append_right _
 let#[rest,i5,i6]:=i4;let U3:Up (A++ZP X.ts (j.take 3)++B):=by
  show UD UT ?_;rwa[<-eT,eR,((yG _ _).append_left A).append_right B]
 let#[ov,th,a8,k,ch,C,D4,z4,un]:=Dg.change (rest:=rest) R.lt D.dg O cn.rd ro z h0 (λb n=>J b (s3.subset n)) () () i5 U3
 let D4:=D4.perm i6;exists 1,X.S,c6,1,c8,Z,3,M,1,ZF.of a3;intro p1 n1;rw[show WX (iN j) Y' (Z' (3:Int))=iN 'H' from (Jo 3).trans (by simp[iN])]
 let#[H3,eU,g3,h3]:=Yo n1 (.lst (iN 'H'));rw[eU];show .mk (T:=_) #[R2.same g3,wf,O,D.dg.avk] z cn.rd () h3 (λb n=>(J b (s3.subset n)).1) () ov th a8 (e1 λb n=>s3.subset n) ch C λH4 a0 fr R4 A4=>?_
 let G4:=(G2|||Go.same g3)|||Ni (X:=X) (lk:=lk) (cur:=k) (av':=Vr X.ts p 'H' X.av) (ho':=Vu X.ts p 'H' X.ho) (kvs':=X.kvs) fr A4;let#[e5,e9]:=R4.sh.self;let i0:H4 M\.lst (iN j):=fr _ _ (λi G=>#[(c3.2.2.2 i G).1,(c3.2.2.2 i G).2.1]) (g3 _ _ a3);exists 1,X.S,e5,1,e9,Z,2,M,1,ZF.of i0;intro p3 n3;rw[show WX (iN j) (Z' (3:Int)) Y'=iN 'ç' from (J9 3).trans (by simp[iN])]
 let#[H5,eU,g5,h5]:=Yo n3 (.lst (iN 'ç'));rw[eU];let a5:∀ b∈j.drop 3,hJ k b=hJ X.ts b:=λb n=>C.old b λy=>by
  have:=(J b 'ĥ').2;have:=a4 b y
  lia
 let rY:ZP k (j.drop 3)=ZP X.ts 'ç':=US λb n=>by rw[a5 b n]
 let UY:Up (ZP k (j.drop 3)):=by
  rw[rY];show UD UT ?_;rwa[<-eT,(nE sY)|||(yF A _).trans (yG _ B)]
 let e2:gX (YI k (j.drop 3))\Zw (YE k (j.drop 3)):=N5 (h:=(X^p).h-1) (λb n=>#v[a5 b n,#[(wf b (J b 'ĥ').1).ne,by have:=(J b 'ĥ').2;lia]]) () () UY
 let a7:∀ b∈j.drop 3,b∈X.lv:=λb n=>(J b 'ĥ').1;exists X.S,X.d,lk,p3,X.lv,k,Vr X.ts p 'H' X.av,Vu X.ts p 'H' X.ho,a0,X.kvs,_,j.drop 3,1,R4.same g5,C.wf,(),λb n=>#[a7 b n,by rw[D4.hs b (a7 b n),vL];have:=wR.mpr n;lia,zJ (D4.avl (a7 b n)) ()],h5,e2
 intro H6 a nx nt na e7 R6;let gC:=N0 (lk:=lk) (H:=H5) (H':=H6) (X:=#[X.S,X.d,X.lv,k,Vr X.ts p (j.take 3) X.av,Vu X.ts p (j.take 3) X.ho,a0,X.kvs]) (t:=YE k (j.drop 3)) (a:=a) (av':=Yb (j.drop 3) ↑k (YZ ↑k (Vr X.ts p (j.take 3) X.av))) (ho':=Wn (j.drop 3) (Yi ↑k (Vu X.ts p (j.take 3) X.ho))) (kvs':=Yh X.kvs (.inl (↑k:Int)) !a.x) R4.len R4.lt e7 nx nt na;let D6:=D4.put (t:=YE k (j.drop 3)) (rest:=r::o) R4.lt (Js C.wf a7 e2) c2 (yP.refl _);let nN:↑k∉X.lv:=λy=>xW _ (R4.lt _ y);let ne:∀ i∈X.lv,i≠↑k:=λi G y=>nN (y▸G);let gl:∀ i∈X.lv,hJ (k++[YE k (j.drop 3)]) i=hJ k i:=λi G=>Q4 (R4.lt i G);let c5:∀ i∈p::up,Yb (j.drop 3) ↑k (YZ ↑k (Vr X.ts p (j.take 3) X.av)) i=X.av i/\Wn (j.drop 3) (Yi ↑k (Vu X.ts p (j.take 3) X.ho)) i=X.ho i:=λi G=>by
  have:i∉j.drop 3:=λy=>by
   have:=(J i (sY.subset y)).2;have:=a4 i G
   lia
  let#[u1,u2]:=un i (a4 i G);unfold Yb Wn YZ Yi;rwa[aK this,aK this,aK (ne i (a6 i G)),aK (ne i (a6 i G)),u1,u2,#[Z,Z]]
 let hM:(YE k (j.drop 3)).h=(X^p).h:=by
  let m0:(j.drop 3).getD 0 0∈j.drop 3:=#v[zO,zT (),xK _]
  change (hJ k ('ç'.getD 0 0)).h+1=_;rwa[a5 _ m0,(J _ (sY.subset m0)).2]
 show q H6 #[X.S,X.d,X.lv++[↑k],k++[YE k 'ç'],_,_,a0++[a],Yh X.kvs (.inl (↑k:Int)) !a.x] (Z' ↑k) ((G4|||Go.same g5)|||gC) #[R6,D6] #[cn.rd.keep λi G=>#[zL _ (a6 i G),c5 i G],λi G e=>cn.top i G (by rwa[<-(c5 i G).1,e]),?_] (.some ?_ ?_) (λb n=>by
  have:=D.dg.u.inn b n;change hJ (k++[_]) b=_;rwa[gl b this,C.old b λy=>c7 b y n]) (by change ↑(k++[_])<=_;rw[zR,C.len];simp)
 .show z4.keep C.wf O Z (λi G=>#v[gl i (fu i G).1,#[Z,Z]]) λb n _ _=>by rw[gl b n]
 .change (hJ (k++[_]) ↑k).h=(hJ (k++[_]) p).h;rw[Qf,gl p hp,C.hh,hM]
 .change A++(hJ (k++[_]) p).rows++(hJ (k++[_]) ↑k).rows++B=_;rw[Qf,gl p hp,C.at_];change A++ZP X.ts 'H'++ZP k 'ç'++B=_;rw[rY,yT A,<-eR,eT]
theorem YV.inv{g f:jj}{A B:jl}(z:YV a r (c::p::g) f A B):∃ b l m d e,f=↑l::b/\YV a r (p::g) b d e/\(a^p).h≠0/\(a^p).bs=l++c::m/\A=d++ZP a l/\B=ZP a m++e:=by
 cases z with
 |down z j i _ _=>show#[_,_,_,_,1,z,j,i,Z,Z]
theorem YV.top{A B:jl}(z:YV b r [c] a A B):c=r/\A=[]/\B=[]:=by
 cases z with
 |root=>show#[Z,Z,Z]
theorem YV.len{A B:jl}(z:YV d r a b A B):↑a=↑b+1:=by
 induction z with
 |root=>rfl
 |down _ _ _ _ _ c=>show congrArg (· + 1) c
theorem BE{b:Type}{l:List b}{a:b}(h:l[i]?\a):l.reverse[↑l-1-i]?\a:=by
 let c:=(yW.mp h).1;rw[List.getElem?_reverse (),show ↑l-1-(↑l-1-i)=i by lia]
 show h
theorem Rd.tail{up:jj}(rd:Rd lv av ho c (c::p::up)):Rd lv av ho p (p::up):=by
 cases rd with
 |up _ _ _ rd=>
  let#[u,e]:=rd.hd;cases e;show rd
noncomputable def Mi(a:jj):je:=a.map λp=>V.int ((p:Nat)+1:Int)
inductive WD(jT jU:aj):Sp
 |mk{X:ZV}{lk st pl:aj}{ls:je}{U:Nat->Prop}{g:Nat->Nat}{o:jj}{r c:Nat}{N:jp}{up ps:jj}{A B T:jl}{H:Hp}{Q:VK}{E:XK}:
  Sd jT jU H X lk ls U g (N.toList++r::o)->Cn X r c up ps A B->U6 X.ts r c A B T N->Up T->↑up<=100->↑X.ts+↑up<=790->↑ls+↑up<=380000->H st\.lst (iN up.reverse)->H pl\.lst (Mi ps.reverse)->Ze X lk st->Ze X lk pl ->
  (∀(H':Hp)(X':ZV)(ls':je)(M:jp),Go lk H H' X X'->Sd jT jU H' X' lk ls' U g (M.toList++r::o)->U6 X'.ts r r [] [] T M->(∀ b,U b->hJ X'.ts b=hJ X.ts b)->↑X'.ts<=↑X.ts+↑up->↑ls'<=↑ls+↑up->Q (YS M) H')->WD jT jU [!X.S,!st,!pl,YS N] H Q E
abbrev yq:jn:=["shelf","stems","places","added","over","at"]
theorem Qv:ZC yq SN (Zc Hm):=Zo
inductive Ex(jT jU:aj)(X:ZV)(lk st pl:aj)(ls:je)(U:Nat->Prop)(g:Nat->Nat)(o:jj)(r:Nat)(N:jp)(up ps:jj)(T:jl)(H:Hp):Nat->_T.St->Hp->Prop
 |mk{i c:Nat}{X':ZV}{ls':je}{M:jp}{A B:jl}{x5:jf}{H':Hp}:Go lk H H' X X'->Sd jT jU H' X' lk ls' U g (M.toList++r::o)->Cn X' r c (up.drop i) (ps.drop i) A B->U6 X'.ts r c A B T M->(∀ b,U b->hJ X'.ts b=hJ X.ts b)->↑X'.ts<=↑X.ts+i->↑ls'<=↑ls+i ->
  Ex jT jU X lk st pl ls U g o r N up ps T H i [Z' !X.S,Z' !st,Z' !pl,Z' (YS N),Z' (YS M),x5] H'
theorem mI(F:Zl K "add_up" "add_up" Hm f fd)(T:YM mg)(DB:-ZA 12 "add_branch" SJ (WA jT jU)):-ZI ZJ 13 f fd SN (WD jT jU):=by
 show F.ok Qv 'a' (λa5 A a4 s H vs Q E hr h=>?_)
 induction h
 rename_i X lk st pl ls U g o r c N a j A B T0 H Q E D cn ad UT u1 t7 a6 J a3 oS oP q
 let nd:=Qv.nd;intro Xc;show#[_,ZK (Zf 4 nd (pv 3))
  (ZK (Vi PassesOwn.never Z (Bq Z T.range (Wf (Z5 Vg 'V' ZM) 'n' 'n')) 'ŧ'
   (ZK (Z4 (Q0 (M4 (pv 4))) 'ą' Z6)
   (ZR (Zf 4 nd (Zd DB hr (Uv (pv 0) (Zy K (pv 1) (pv 5)) (Zy K (pv 2) (pv 5)) (pv 4)))))))
  'ö'),?_]
 let lu:↑(iN a.reverse)=↑a:=by simp[iN]
 let lz:=cn.z.len;rw[zN] at lz;exists 2,st,1,.inl (ZF.of J),_,1,Z,2,↑a,by rw[lu],by lia
 show qi (Ex jT jU X lk st pl ls U g o r N a j T0 H) (.mk 'I' D cn ad (λ_ _=>rfl) (zY _) (zY _)) ?_ ?_
 .rintro i σ Y W ⟨n,v,d,k,V,t1,l1⟩;rename_i R O t M A1 B1 x5
  let L:=n.fr _ _ oS J;let I:=n.fr _ _ oP a3
  cases M with
  |none=>
   show#[2,Z2 ?_]
   cases k with
   |none e=>show q Y O t Y' n v (.none e) V () ()
  |some N1=>
   show#[2,Zq ?_]
   cases k with
   |some hh eT=>
    let ed:a.drop i=a[i]::a.drop (i+1):=xH W;let eu:a[i]?\a[i]:=zT W;let G:i<↑j:=()
    let ep:j.drop i=j[i]::j.drop (i+1):=xH G;let C:j[i]?\j[i]:=zT G;rw[ed] at d;generalize a[i]=p at ed eu d;let#[a7,l,m,A2,B2,u,z2,h0,eb,eA,eB]:=d.z.inv;rw[ep] at u;generalize j[i]=pi at ep C u;let e2:=(uV.inj u).2;let e3:=(uV.inj u).1;subst e2;subst e3;let x:Cn O r p (a.drop (i+1)) (j.drop (i+1)) A2 B2:=#[d.rd.tail,λi W=>d.top i (zS _ W),z2];let y:((↑a:Nat):Int)-1-(i:Nat)=((↑a-1-i:Nat):Int):=()
    let i1:Xi (iN a.reverse) (((↑a:Nat):Int)-1-(i:Nat))\.int (p:Nat):=by
     rw[y];show Yf ?_;unfold iN;rw[zK,BE eu];rfl
    let i2:Xi (Mi j.reverse) (((↑a:Nat):Int)-1-(i:Nat))\.int ((↑(l++[R]):Nat):Int):=by
     rw[y];show Yf ?_;unfold Mi;rw[zK,show ↑a-1-i=↑j-1-i by lia,BE C]
     simp
    let us:↑(a.drop (i+1))<=100:=by rw[yJ];lia
    let hp:=x.rd.lt;let a2:=(Xh v.dg.wf hp (b:=R) (by rw[eb];simp)).2.1
    show#[3,.inl #[st,_,_,.int (p:Nat),Z,Z,ZF.of L,i1,2,.inl #[pl,_,_,1,Z,ZF.of I,i2,1,?_]]];rw[<-n.S];show .mk (l:=l++[R]) (m:=m) v x () () () h0 (by rw[eb];simp) #v[hh,a2] ?_ UT λH2 X2 M2 G2 D2 a1 a0 f2 t2=>?_
    .rw[<-eT,eA,eB,yT l,QI,List.singleton_append,WV,WV];simp only[yT]
    .rwa[n.S,.mk (n|||G2) D2 a1 a0 (λb hb=>by rw[f2 b hb,V b hb]) () (by rw[zR];simp;lia)]
 .rintro σ Y ⟨n,v,d,k,V,t1,l1⟩;rename_i R O t M A1 B1 x5
  let z1:=d.z;rw[vA (zY _)] at z1;let#[u,e2,e3]:=z1.top;subst u e2 e3;show#[1,q Y O t M n v k V t1 l1]
inductive Wz(jT jU:aj):Sp
 |mk{X:ZV}{lk:aj}{ls:je}{U:Nat->Prop}{g:Nat->Nat}{o:jj}{r:Nat}{N:jp}{T:jl}{H:Hp}{Q:VK}{E:XK}:Sd jT jU H X lk ls U g (N.toList++r::o)->U6 X.ts r r [] [] T N->Up T->↑X.ts<=790 ->
  (∀(H':Hp)(X':ZV)(r':Nat),Go lk H H' X X'->Sd jT jU H' X' lk ls U g (r'::o)->(X'^r').rows=T->(∀ b,U b->hJ X'.ts b=hJ X.ts b)->↑X'.ts<=↑X.ts+1->Q (.int (r':Nat)) H')->Wz jT jU [!X.S,.int (r:Nat),YS N] H Q E
theorem lZ:ZC SY SY (Zc Hi):=Zo
theorem oi(F:Zl K "root_with" "root_with" Hi f fd)(L:'d')(T:'u'):-ZI ZJ 11 f fd SY (Wz jT jU):=by
 show F.ok lZ 'a' (λa1 A p s H vs Q E hr h=>?_)
 induction h
 rename_i X m I U g o r N B H Q E D Y C t7 q
 intro Xc;exists _,ZK (Z4 (Q0 (M4 (pv 2))) (ZR (Zh (pv 1))) Z6) (ZR (Zh (Zs (E:=E0) (pv 0) L.cS T hr Zn (ZQ (Yy (Zu (pv 1) (pv 2)))))))
 cases Y with
 |none e=>show#[2,Z2 #[1,q H X r 'I' D e (λ_ _=>rfl) ()]]
 |some hh eT=>
  rename_i N
  let D:Sd jT jU H X m I U g (N::r::o):=D;let R:=D.sh;let a0:=D.all;show#[2,Zq ?_];let#[dS,hS]:=R.sh.self;exists 1,X.S,dS,1,hS,Z,2,Yc;intro v n1;let#[z,k,G,l]:=Yo n1 (.lst [.int (r:Nat),.int (N:Nat)]);let k:upd H v (.lst [.int (r:Nat),YS (Z' N)])=z:=k;rw[k];let l:z v\.lst (iN [r,N]):=l;let i:∀ b∈[r,N],b∈X.lv/\b∈N::r::o:=λb i=>by
   have:b∈N::r::o:=by
    rcases zU.mp i with y|y
    .rw[y];simp
    .rw[zV.mp y];simp
   show#[D.dg.own b this,this]
  let j:ZP X.ts [r,N]=B:=by rw[<-eT];simp[ZP]
  let J:∀ b∈[r,N],(X^b).rows≠[]:=λb h=>(D.dg.wf b (i b h).1).ne;let n:[r,N].Nodup:=N3 J #v[j,C]
  let M:gX (YI X.ts [r,N])\Zw (YE X.ts [r,N]):=N5 (h:=(X^r).h) (λb c=>#[J b c,by
   rcases zU.mp c with y|y
   .rw[y]
   .rwa[zV.mp y,hh]]) (zY _) (by change 2<=4;lia) #v[j,C]
  exists X.S,X.d,m,v,X.lv,X.ts,X.av,X.ho,X.as,X.kvs,I,[r,N],1,R.same G,D.dg.wf,(),λb c=>#[(i b c).1,by rw[D.dg.hs b (i b c).1];have:=wR.mpr (i b c).2;lia,zJ (D.dg.avl (i b c).1) ()],l,M
  intro W a nx nt na fr R2;let V:=(Go.same G)|||N0 (lk:=m) (X:=X) (t:=YE X.ts [r,N]) (av':=Yb [r,N] ↑X.ts (YZ ↑X.ts X.av)) (ho':=Wn [r,N] (Yi ↑X.ts X.ho)) (kvs':=Yh X.kvs (.inl (↑X.ts:Int)) !a.x) R.len R.lt fr nx nt na;let O:=D.dg.put (t:=YE X.ts [r,N]) (rest:=o) R.lt (Js D.dg.wf (λb h=>(i b h).1) M) n (yP.swap _ _ _);show q W _ ↑X.ts V #[R2,O] ?_ (λb i=>Q4 (R.lt b (D.dg.u.inn b i))) (by change ↑(X.ts++[_])<=_;simp)
  change (hJ (X.ts++[_]) ↑X.ts).rows=B;rwa[Qf,j]
inductive Ob(c:zZ)(x y:V)(H:Hp)(Q:VK):Prop
 |mk(p:aj)(b:je)(a:jm)(k:KT)(_:y=!p)(_:ZF c H p b)(_:jO H a b)(_:ZD H k x)(_:∀ t∈a,t.depth<=100)(_:Q (.bl (a.any λt=>t.eqb k)) H)
theorem yk(U:ZX Y X.A):XF X (az .In) (Ob X.K):=by
 intro M s σ H x y v u Q I rx ry h;let#[p,N,w,k,rfl,T,L,kx,S,q]:=h;cases ry;let#[a,r,pl,J]:=I.list T;let un:=U.un;let c:∀ j y,a[j]?\y->∃ t,w[j]?\t/\ZL s.heap t y:=λj y d=>by
  let lr:=↑r;let hl:=(yW.mp d).1;let G:N[j]?\(N[j]'()):=zT ()
  let#[u1,b,O]:=r.get G;erw[d] at b;let#[t,i,g]:=L.get G;show#[t,i,VY I _ _ _ g O]
 let' e:ai->Bool:=λy=>@ite _ (∃ t,ZL s.heap t y/\t.eqb k=V') 'ľ' true false
 let B:∀ y t,ZL s.heap t y->e y=t.eqb k:=λy t F=>by
  by_cases h:∃ t,ZL s.heap t y/\t.eqb k=V'
  .let#[o,C,D]:=h;rwa[Uk _ _ (ZL.inj _ _ _ F C),D,aM #[o,C,D]]
  .rw[show e y=false from aK h]
   cases z:t.eqb k with
   |true=>show gS #[t,F,z] h
   |false=>rfl
 let R:a.toArray.any e=w.any λt=>t.eqb k:=by
  let lr:=↑r;let lk:=↑L;rw[List.any_toArray];have:∀(l:jd)(m:jm),↑l=↑m->(∀ j y,l[j]?\y->∃ t,m[j]?\t/\ZL s.heap t y)->l.any e=m.any λt=>t.eqb k:=λl=>by
   induction l with
   |nil=>
    intro m f _
    cases m with
    |nil=>rfl
    |cons _ _=>simp at f
   |cons y l W=>
    intro m f E
    cases m with
    |nil=>simp at f
    |cons t m=>
     let#[o,b,P]:=E 0 y Z;let b:Z' t\o:=b;cases b;rw[wA,wA,B y t P,W m #v[f] λj z J=>E (j+1) z J]
  show this a w () c
 show PySem.SeqAt.in_listAt e pl.isList (λy V=>?_) #[.bl _,H,I,Z,#v[R,q]]
 let n:y∈a:=by simpa using V
 let#[j,d]:=vP n;let#[t,i,g]:=c j y d;rw[B y t g];have:=S t (zG i);show Pq t.depth t k X.A.in1 y v (zY _) g (VY I _ _ _ kx rx) (by change X.A.units+1+_<_;lia)
def gZ(k v:KT)(a:jl):jl:=a.filter (λr=>r.1.lt k)++(k,v)::a.filter λr=>k.lt r.1
theorem Qp:x∈gZ k v a↔x=(k,v)\/(x∈a/\x.1≠k):=by
 unfold gZ;rw[zM,zU,yH,yH];constructor
 .rintro(⟨h,l⟩|h|⟨h,l⟩)
  .show .inr #[h,λz=>by erw[z,UI] at l]
  .show .inl h
  .show .inr #[h,λz=>by erw[z,UI] at l]
 .rintro(h|⟨h,n⟩)
  .show .inr (.inl h)
  .cases b:x.1.lt k with
   |true=>show .inl #[h,Z]
   |false=>
    cases c:k.lt x.1 with
    |true=>show .inr (.inr #[h,Z])
    |false=>show gS (Mb _ _ b c) n
theorem G0(h:Up d):Up (gZ k v d):=by
 unfold Up gZ Ps at *;rw[zH,yX,xA,xD];show#[h.sublist (xB.map _),#[λy b=>?_,h.sublist (xB.map _)],λx f y b=>?_]
 .let#[r,a,rfl]:=zQ.mp b;show(yH.mp a).2
 .let#[r,a,rfl]:=zQ.mp f;let c:=(yH.mp a).2;rcases zU.mp b with z|z
  .rwa[z,c]
  .let#[q,e,rfl]:=zQ.mp z;show T9 _ _ _ c (yH.mp e).2
theorem q0{A L B:jl}(b:∀ x∈A,x.1.lt k=V')(c:∀ x∈B,k.lt x.1=V'):gZ k v (A++L++B)=A++gZ k v L++B:=by
 let d:A.filter (λr=>r.1.lt k)=A:=wI.mpr b;let e:A.filter (λr=>k.lt r.1)=[]:=wX.mpr λx a=>#v[Q9 _ _ (b x a),zP]
 let f:B.filter (λr=>k.lt r.1)=B:=wI.mpr c;let g:B.filter (λr=>r.1.lt k)=[]:=wX.mpr λx a=>#v[Q9 _ _ (c x a),zP]
 unfold gZ;rw[yB,yB,yB,yB,d,e,f,g];simp
theorem AV:0<↑(gZ k v a):=by
 unfold gZ;rw[zR,zN]
 lia
theorem FC(a):WX a Y' (Z' (-1))=a.take (↑a-1):=by
 let e:HT.sIx ↑a ↑a (Z' (-1))=↑a-1:=by
  change (if (-1:Int)<0 then ((-1:Int)+(↑a:Int)).toNat else min (-1:Int).toNat ↑a)=_
  rw[aM 'b']
  lia
 unfold WX;rw[HT.sIx_none,e];rfl
theorem CA{k v:KT}:∀{rs:jl},↑(gZ k v rs)<=↑rs+1:=by
 intro rs;unfold gZ;rw[zR,zN];have:∀ l:jl,↑(l.filter λr=>r.1.lt k)+↑(l.filter λr=>k.lt r.1)<=↑l:=λl=>by
  induction l with
  |nil=>show zY _
  |cons x l a=>
   rw[xL,xL,zN];by_cases h:x.1.lt k=V'
   .rw[aM h,aK #v[Q9 _ _ h,zP],zN];lia
   .rw[aK h];split
    .rw[zN];lia
    .lia
 show vE (this rs)
theorem pJ(h:Up a)(b:(k,v)∈a):gZ k v a=a:=
 FZ (G0 h) h λx=>Qp|||#[λz=>z.elim (λy=>y▸b) λy=>y.1,λc=>by
  by_cases z:x.1=k
  .show .inl (yu h c b z)
  .show .inr #[c,z]]
theorem ss{k v:KT}{b:jl}(h:Up b):b.take (cnt (b.map (·.1)) k)++[(k,v)]++(b.drop (cnt (b.map (·.1)) k)).filter (λr=>!r.1.eqb k)=gZ k v b:=by
 let j:∀ l:jl,Up l->∃ n,cnt (l.map (·.1)) k=n/\l.take n=l.filter (λr=>r.1.lt k)/\(l.drop n).filter (λr=>!r.1.eqb k)=l.filter λr=>k.lt r.1:=λl=>by
  induction l with
  |nil=>show λ_=>#[(0),Z,Z,Z]
  |cons x l s=>
   intro p;let d:=xD.mp p;let c:∀ y∈l,x.1.lt y.1=V':=λy a=>d.1 _ (zQ.mpr #[y,a,Z]);let#[n,f,g,i]:=s d.2;by_cases z:x.1.lt k=V'
   .exists n+1,?_,?_
    .change ↑(((x::l).map (·.1)).filter λy=>y.lt k)=_;rw[yX,xL,aM z,zN];rw[<-f];rfl
    .rw[rO,g,xL,aM z]
    .rw[List.drop_succ_cons,i,xL,aK #v[Q9 _ _ z,zP]]
   .let o:x.1.lt k=false:=by cases q:x.1.lt k with|true=>show gS q z|false=>rfl
    let m:l.filter (λr=>r.1.lt k)=[]:=wX.mpr λy a q=>z (T9 _ _ _ (c y a) q);let gt:∀ y∈l,k.lt y.1=V':=λy a=>LU o (c y a);let e:l.filter (λr=>k.lt r.1)=l:=wI.mpr gt;let t:l.filter (λr=>!r.1.eqb k)=l:=wI.mpr λy a=>by
     cases q:y.1.eqb k with
     |false=>rfl
     |true=>
      have:=gt y a;erw[Uk _ _ q,UI] at this
    exists (0),?_,?_
    .change ↑(((x::l).map (·.1)).filter λy=>y.lt k)=0;rw[yX,xL,aK z,uY,sL];rw[show l.filter ((λy=>y.lt k) ∘ λx=>x.1)=[] from m];rfl
    .rw[xL,aK z,m];rfl
    .rw[sO,xL,xL,t,e]
     cases q:x.1.eqb k with
     |true=>
      rw[Uk _ _ q,UI];rfl
     |false=>
      have:k.lt x.1=V':=by
       cases y:k.lt x.1 with
       |true=>rfl
       |false=>
        have:=Mb _ _ o y;erw[this,QV] at q
      rw[this];rfl
 let#[n,f,g,i]:=j b h;rw[f,g,i];unfold gZ;simp
section
variable{jT jU CTb CK:aj}
inductive Y7:Sp
 |mk{l q:aj}{c:je}{a:jl}{d e:V}{k v:KT}{H:Hp}{Q:VK}{E:XK}:H l\.lst c->jO H (YB a) c->H q\.tup [d,e]->ZD H k d->ZD H v e->↑a<=4->(∀ r∈a,r.fit)->Up a ->
  (∀(b:Hp)(D:aj)(g:je),ZE H b->H D=Y'->b D\.lst g->jO b (YB (gZ k v a)) g->Q (!D) b)->Y7 [!l,!q,.int (cnt (a.map (·.1)) k:Nat)] H Q E
theorem VE:ZC Tc Tc (Zc JZ):=Zo
theorem kA(F:Zl K "rows_with" "rows_with" JZ f fd):-ZI ZJ 1 f fd Tc Y7:=by
 show F.ok VE (λvs H Q E h=>(by cases h;rfl)) (λa3 A a1 s H vs Q E hr h=>?_)
 let#[hl,kr,hq,kk,kv,r4,rf,ru,q]:=h;rename_i l O d o vk vv k v
 let nd:=VE.nd;intro Xc;show#[_,ZR (Zh (Z5 LV (Z5 LV (QZ QY (pv 0) Q1 'Ŏ') (Yy 'f'))
  (Vt [1] ["row"] Z (WJ (QZ QY (pv 0) 'Ŏ' Q1)) (λ_ _ _ _ _=>Oy (YO (BR hr) 'B' 'ņ' (Z9 _))) (λ_ _ _ _ _=>pv 0) #[Z,.inl Z,Z,trivial]))),?_]
 generalize hn:cnt (o.map (·.1)) k=n;let lu:↑d=↑o:=by have:=↑kr;rwa[<-this,zW _]
 let S:=ss (k:=k) (v:=v) ru;rw[hn] at S;exists 3,l,d,Z,ZF.of hl;intro p1 n1;rw[Jo];let#[H1,t,g1,h1]:=Yo n1 (.lst (d.take n));rw[t];exists 1,Yc;intro p2 n2;let#[H2,t,g2,h2]:=Yo n2 (.lst [!O]);rw[t];exists p1,p2,d.take n,1,Z,g2 _ _ h1,h2,nn (by rw[yA];simp;lia)
 intro p3 n3;let#[H3,t,g3,h3]:=Yo n3 (.lst (d.take n++[!O]));rw[t];let s3:=(g1|||g2)|||g3;exists 3,l,d,Z,ZF.of (s3 _ _ hl);intro p4 n4;rw[J9];let#[M,t,g4,C]:=Yo n4 (.lst (d.drop n));rw[t];let I:=s3|||g4;let N:jO M (YB (o.drop n)) (d.drop n):=#v[(KZ o n).2,(kr.drop n).sm I]
 let W:=I _ _ hq;let Y:=kk.sm I;let ld:↑(d.drop n)=↑(o.drop n):=by rw[yJ,yJ,lu]
 let df:∀ r∈o.drop n,r.fit:=λr h=>rf r (uH h);let l4:↑(d.drop n)<=4:=by rw[yJ];lia
 generalize o.drop n=p at N ld S df;generalize d.drop n=y at N ld l4 C;show#[p4,Z,#[_,ZF.of C],KY (n:=↑y) (λi z=>y[i]?\z) (λi=>!(p.getD i rc).1.eqb k) (λD i m g=>ZE M g/\M D=Y'/\jO M (YB ((p.take i).filter λr=>!r.1.eqb k)) m) (Yq ())
  (λD i m g G c=>#[y,y[i],ZF.of (c.1 _ _ C),by simp[G]]) (λD i m g z H6 G c hy=>#[hy.1,hy.2 y (ZF.of (c.1 _ _ C))]) (λD m g c=>#[y,ZF.of (c.1 _ _ C),zY _])
  (λD hD=>#[Zv hD _,hD,.nil]) (λD i m g z x G X c B U=>?_) (λD i m g z x G X V c B U=>?_) (λD i m g x G V c=>?_) (λD m g x c=>?_)]
 .let#[b,u,j]:=c;let#[a,L,a2,e,rfl,T,R,c2]:=OG N X;let a0:=(df _ (zG e)).1;show#[1,a,_,_,L,Z,Z,Zp.of (b _ _ T),Z,1,O,_,_,vk,Z,Z,Zp.of (b _ _ W),Z,_,_,R.sm b,Y.sm b,zJ (Vo _ 3 a0) 'b',#[1,U g x #[b,u,j]]]
 .let#[b,u,j]:=c;let#[a,L,a2,e,rfl,T,R,c2]:=OG N X;show#[1,U _ g x #[UW b u,u,?_]];rwa[O0 _ e,aM V,Kb,j.append (.cons (.tup T (.cons R (.cons c2 .nil))) .nil)]
 .let#[b,u,j]:=c;let e:p[i]?\p.getD i rc:=by rw[zO,zT ()];rfl
  exists b,u;rw[O0 _ e,aK #v[V,zP],zC]
  show j
 .let#[b,u,j]:=c;rw[zA ()] at j
  let ll:=↑j;let lf:=tZ (λr:ZW=>!r.1.eqb k) p;let e3:↑(YB (p.filter λr=>!r.1.eqb k))=↑(p.filter λr=>!r.1.eqb k):=zW _;exists p3,D,_,1,Z,b _ _ (g4 _ _ h3),x,nn (by rw[zR,yA];simp;lia)
  intro p6 n6;let g6:=Zv n6 (.lst (d.take n++[!O]++m));let J:=(I|||b)|||g6;show q _ p6 _ J ((I|||b).free n6) Za ?_;rw[<-S,Kb,Kb,(KZ o n).1];show(((kr.take n).sm J).append (.cons (.tup (J _ _ hq) (.cons (kk.sm J) (.cons (kv.sm J) .nil))) .nil)).append ?_;show j.sm (b|||g6)
end
theorem YV.uniq{A B:jl}(z:YV h r g d A B):∀{a b:jl},YV h r g d a b->A=a/\B=b:=by
 induction z with
 |root=>
  intro a b e;cases e;show#[Z,Z]
 |down z y t D E v=>
  intro a b e;rename_i p c F d l m A B
  generalize u:↑l::d=w at e
  cases e with
  |down x C f _ _=>
   let#[i,j]:=uV.inj u;subst j;let#[k,n]:=v x;let#[o,q]:=List.append_inj (t.symm|||f) i;let s:=(uV.inj q).2;subst k n o s;show#[Z,Z]
theorem YV.last{A B:jl}(z:YV d r a c A B):a.getLast?\r:=by
 induction z with
 |root=>rfl
 |down _ _ _ _ _ b=>rwa[List.getLast?_cons_cons,b]
inductive UR(jT jU:aj):Sp
 |mk{X:ZV}{lk:aj}{ls:je}{U:Nat->Prop}{g:Nat->Nat}{o:jj}{r:jp}{vk vv:V}{k v:KT}{H:Hp}{Q:VK}{E:XK}:Sd jT jU H X lk ls U g (r.toList++o)->↑(Yw X.ts r)<=150->↑X.ts<=740->↑ls<=350000->ZD H k vk->k.fits 3=V'->ZD H v vv->v.fits 3=V' ->
  (∀(H':Hp)(X':ZV)(ls':je)(r':Nat),Go lk H H' X X'->Sd jT jU H' X' lk ls' U g (r'::o)->(X'^r').rows=gZ k v '#'->(∀ b,U b->hJ X'.ts b=hJ X.ts b)->↑X'.ts<=↑X.ts+17->↑ls'<=↑ls+40->Q (.int (r':Nat)) H')->UR jT jU [!X.S,YS r,vk,vv] H Q E
abbrev RA:jn:=["shelf","root","key","value","row","steps","rows","owned","added","places"]
theorem PV:ZC RA SO (Zc JR):=Zo
theorem tj(F:Zl K "put_in" "put_in" JR f fd)(T:YM mg)(L:'d')(i9:'_')(DC:'ä')(DL:'F')(DS:'á')(DW:'S')(DR:-ZA 1 "rows_with" Tc Y7)(DG:-ZA 12 "give_rows" Ta (Ww jT jU))(DU:-ZA 13 "add_up" SN (WD jT jU))(l0:-ZA 11 "root_with" SY (Wz jT jU)):
  ZI P w K mg jW ZJ 14 f fd SO (UR jT jU):=by
 show F.ok PV 'a' (λo5 A n9 s H vs Q E hr h=>?_)
 induction h
 rename_i X lk ls U g o r vk vv k v H Q E t o0 t7 o6 kk fk kv fv q
 let nd:=PV.nd;let m4:=hr.mono (show 1<=13 by lia)
 let m5:=hr.mono (show 4<=13 by lia)
 let i1:=hr.mono (show 7<=13 by lia)
 let a6:=hr.mono (show 10<=13 by lia)
 let e8:=hr.mono (show 11<=13 by lia)
 let e9:=hr.mono (show 12<=13 by lia)
 intro Xc;show#[_,ZK (YF (Zd i9 m5 (Zu (pv 0) (pv 1))))
  (ZK (Zf 4 nd (UF (Zu (Zd DC i1 'o') (Zd DC i1 'z'))))
  (ZK (Z4 (Q0 (M4 (pv 1))) (ZR (Zh (Zs (E:=E0) (pv 0) L.cS DL a6 Zn (ZQ (Yy 'å'))))) Z6)
  (ZK (Zf 5 nd (Zd DS a6 'K'))
  (ZK (Zf 6 nd (XL K 'ŉ' ZM))
  (ZK (Z4 (YO (yk hr) (pv 4) (pv 6) Z) 'ĭ' Z6)
  (ZK (Zf 7 nd (Zd DW hr (Zu (pv 0) (pv 5))))
  (ZK (Zf 8 nd (Zd DG e9 (Wf (pv 0) (Zy K (pv 7) 'n') (Zd DR m4 (Wf (pv 6) (pv 4) 'ŉ')))))
  (ZK (Me (i:=9) [] [] nd Z Z Z (WJ (QZ QY (pv 5) Q1 (Ue 'n'))) (λ_ _ _ _ _=>Ut) (λ_ _ _ _ _=>Z5 Vn 'B' ZM) trivial)
  (ZR (Zh (Zd l0 e8 (Wf (pv 0) (Zy K (pv 7) ZM) (Zd DU hr (Uv (pv 0) (QZ QY (pv 7) Q1 (Ue 'n')) (pv 9) (pv 8))))))))))))))),?_]
 let R:=t.sh;let wf:=t.dg.wf;let i8:∀ i,r\i->i∈X.lv/\1<=X.ho i:=λi e=>by
  subst e;let B:=t.dg.own i zX;have:=t.dg.hs i B;rw[show (Z' i).toList++o=i::o from rfl,vV] at this;show#[B,()]
 let o4:=t.all;show#[2,.mk R i8 λH1 s1=>?_];exists 1,vk,k,Z,kk.sm s1,fk;intro H2 s2;exists 1,vv,v,Z,(kv.sm (s1|||s2)),fv;intro H3 s3;exists Yc;intro qa nq;let#[H4,eU,g4,hq]:=Yo nq (.tup [vk,vv]);rw[eU];let s4:=((s1|||s2)|||s3)|||g4;let t4:=t.same s4;let c2:=kk.sm s4;let i3:=kv.sm s4;let#[dS,hS]:=t4.sh.sh.self
 cases r with
 |none=>
  show#[2,Z2 #[1,X.S,dS,1,hS,Z,1,Yc,λp1 n1=>?_]];let#[H5,eU,g5,h5]:=Yo n1 (.lst [!qa]);rw[eU];let G:OT [(k,v)]:=#[λx C=>#v[zV.mp C,#[fk,fv]],wC 0,by change 1<=4;lia,pV _ _]
  exists X.S,X.d,lk,p1,X.lv,X.ts,X.av,X.ho,X.as,X.kvs,ls,_,[(k,v)],Z,t4.sh.same g5,(),h5,.cons (.tup (g5 _ _ hq) (.cons (c2.sm g5) (.cons (i3.sm g5) .nil))) .nil,G
  intro H6 a nx nt na fr R6;let G6:=(Go.same (s4|||g5))|||N0 (lk:=lk) (X:=X) (t:=Xo [(k,v)]) (av':=YZ ↑X.ts X.av) (ho':=Yi ↑X.ts X.ho) (kvs':=Yh X.kvs (.inl (↑X.ts:Int)) !a.x) R.len R.lt (λc o n1 n2 _ e=>fr c o n1 n2 e) nx nt na;let D6:=t.dg.put (t:=Xo [(k,v)]) (rest:=o) R.lt (N9 G) vU (yP.refl _);rw[show Yb (Xo [(k,v)]).bs ↑X.ts (YZ ↑X.ts X.av)=YZ ↑X.ts X.av from funext λi=>aK (by simp[Xo]),show Wn (Xo [(k,v)]).bs (Yi ↑X.ts X.ho)=Yi ↑X.ts X.ho from funext λi=>aK (by simp[Xo])] at D6
  show q H6 _ ls ↑X.ts G6 #[R6,D6] ?_ (λb N=>Q4 (R.lt b (t.dg.u.inn b N))) (by change ↑(X.ts++[_])<=_;simp) ()
  change (hJ (X.ts++[_]) ↑X.ts).rows=_;rw[Qf];rfl
 |some i=>
 let t:Sd jT jU H X lk ls U g (i::o):=t;let t4:Sd jT jU H4 X lk ls U g (i::o):=t4;let B:=(i8 i Z).1;let m7:(X^i).h<=7:=Fw (Jc wf _ i B Z) (zJ o0 'b')
 show#[2,Zq #[3,.mk #[t4.sh.q,wf,λj e=>by cases e;show zJ m7 'b',(),λj e=>by cases e;show B] c2 fk λH5 D m c8 R5 nD o3 hD Y=>?_]]
 let t5:Sd jT jU H5 X lk _ U g (i::o):=#[#[R5.sh,R.lt,R.keys,R.val,R.len,R5.tw,R.own,R.two],t.dg];let G5:Go lk H H5 X X:=(Go.same s4)|||Go.looks c8;let#[W,j,A1,B1,ew,lw,j0,z,hA,hB]:=K9 (k:=k) wf B _ i .root Z (λx C=>by cases C) (λx C=>by cases C)
 rw[zC,zC] at z;let dn:=HH wf k _ i B Z;let eW:UU X.ts k (Z' i)=W++[(j,cnt ((X^j).rows.map (·.1)) k)]:=ew;rw[eW] at Y;let ll:↑(ls++U8 (UU X.ts k (Z' i)))<=↑ls+8:=by
  rw[eW,zR];unfold U8;simp
  lia
 generalize ls++U8 (UU X.ts k (Z' i))=m9 at t5 R5 ll;let#[hj,fu,er,_]:=z.facts wf B Z;rw[ew] at dn;generalize hn:cnt ((X^j).rows.map (·.1)) k=n at *;let ln:=Paired.length Y;rw[zR,xV] at ln;let hu:m[↑m-1]?\(m[↑m-1]'()):=zT _
 let#[p,ep,ta,fa,et,ht,FA]:=Paired.ixR Y hu;let e1:p=(j,n):=by
  rw[<-ln,tJ,xJ (zY _),uE] at ep;show(yV.inj ep).symm
 subst e1;rw[et] at hu;let#[tq,lq,vq,rfl,e4,e5,n7,e6,_]:=FA;let kr:=e6 j0;let tl:=Mm (j:=1) (zY _) () hu
 let c4:Z1 H4 H5:=λb xs e=>c8 b _ (ZZ e t4.sh.sh.looks) e;let e7:=c4 _ _ hq;let i2:=c2.mono c4 _ _;let i4:=i3.mono c4 _ _;show#[2,.inl #[D,_,_,!ta,Z,Z,ZF.of hD,tl,ta,_,_,!tq,Z,Z,Zp.of ht,Z,tq,_,_,!lq,Z,Z,Zp.of e4,Z,?_]];let a1:=wf j hj;let l4:=(a1.leaf j0).2;exists 2,lq,vq,YB (X^j).rows,OC (k,v),Z,ZF.of e5,kr,.tup e7 (.cons i2 (.cons i4 .nil)),λx C=>?_
 .let#[y,hy,rfl]:=zQ.mp C;let f:=a1.inn y hy;let d1:=Vo _ 3 f.1;let d2:=Vo _ 3 f.2;change KT.depth (.tup [y.1,y.2])<=100;simp only[KT.depth,jR]
  lia
 exists _,Z;by_cases hm:(k,v)∈(X^j).rows
 .let ea:((YB (X^j).rows).any λt=>t.eqb (OC (k,v)))=V':=uM.mpr #[OC (k,v),zQ.mpr #[_,hm,Z],QV _];rw[ea];show Z2 #[1,q H5 X m9 i G5 t5 ?_ (λ_ _=>rfl) () ()]
  show(pJ (wf i B).up (by rw[er];simp[hm])).symm
 let ea:((YB (X^j).rows).any λt=>t.eqb (OC (k,v)))=false:=by
  cases z:(YB (X^j).rows).any λt=>t.eqb (OC (k,v)) with
  |false=>rfl
  |true=>
   let#[x,C,ex]:=uM.mp z;let#[y,hy,rfl]:=zQ.mp C;have:=Uk _ _ ex;unfold OC at this;injection this with this;injection this with a b;injection b with b;show gS (show (k,v)∈(X^j).rows by rwa[<-show y=(k,v) from Prod.ext a b,hy]) hm
 rw[ea];show Zq ?_;let oD:Ze X lk D:=t4.sh.new nD;let n8:Ze X lk lq:=Classical.byContradiction λy=>n7 (.inr y);let pr:Pr X.ts i (W++[(j,n)]):=by
  have:=dn.pr (k:=↑(W++[(j,n)])) ⋯
  rw[tL] at this;show this
 show#[2,.mk t5 pr (by rw[zR];simp;lia) () () hD oD (Paired.mapP Y λ_ _ ⟨t,fv,e,h1,_⟩=>#[t,fv,e,h1]) λH6 X6 p0 Dw r' nn' c pl up A2 B2 ed z2 O S6 G6 p2 i7 a2 n4 c5 m6=>?_]
 rw[show ↑(W++[(j,n)])-1=↑W by simp] at ed z2 O
 rw[sP] at ed;rw[sM] at z2 O;cases ed;let#[eA,eB]:=z.uniq z2;subst eA eB;rw[zR,xV] at n4 c5 m6;let#[S0,d6,i6,l,c7,e3,c6,a7]:=X6;let eS:S0=X.S:=G6.S;subst eS;let I:Z1 H5 H6:=G6.tups t5.sh;let o9:=S6.dg.own r' zX;let f6:∀ b,U b->hJ l b=hJ X.ts b:=λb N=>(O.keep b (t.dg.u.inn b N)).2.2 λy=>S6.dg.free O.rd (λx C e=>#v[O.top x C e,zX]) b y N
 let eI:iN (c::up).reverse=iN (up.reverse++[c]):=by rw[vQ]
 rw[eI] at a2;let e0:=G6.fr _ _ oD hD;show#[2,(1),Z,.inl #[Dw,_,_,.int (c:Nat),Z,Z,ZF.of a2,PN _ _,?_]];show#[3,(1),Z,.inl #[D,_,_,!ta,Z,Z,ZF.of e0,tl,ta,_,_,.int (n:Nat),Z,Z,Zp.of (I _ _ ht),Z,?_]];rw[<-hn];show .mk (G6.fr _ _ n8 e5) (kr.mono I _ _) (I _ _ e7) (i2.mono I _ _) (i4.mono I _ _) l4 a1.inn a1.up λH7 Dn ws s7 n6 m1 kn=>?_;let S7:=S6.same s7;let eT:gZ k v (Yw X.ts (Z' i))=A1++gZ k v (X^j).rows++B1:=by change gZ k v (X^i).rows=_;rwa[er,q0 hA hB]
 let UT:Up (A1++gZ k v (X^j).rows++B1):=by rwa[<-eT,G0 (wf i B).up]
 let il:=CA (k:=k) (v:=v) (rs:=(X^j).rows);show .mk (X:=#[X.S,d6,i6,l,c7,e3,c6,a7]) S7 #[O.rd,O.top,O.z] () (by change ↑l<=790;have:↑l<=_:=c5;lia) (by change (l^c).h=0;rwa[show hJ l c=hJ X.ts j from O.at_,j0]) m1 (S6.sh.new (X:=#[X.S,d6,i6,l,c7,e3,c6,a7]) n6) kn (λx C=>?_) AV () UT λH8 X8 o8 G8 S8 l8 l2 f8 t8=>?_
 .rcases Qp.mp C with y|y
  .rwa[y,#[fk,fv]]
  .show a1.inn x y.1
 let#[S0,d8,c3,J,a9,c1,a8,a0]:=X8;let eS:S0=X.S:=G8.S;subst eS;let m0:=G8.fr _ _ (G6.off _ _ oD hD) (s7 _ _ e0);let e2:=G8.fr _ _ i7 (s7 _ _ a2);let o2:=G8.off _ _ i7 (s7 _ _ a2);let m8:Z1 H5 H8:=λb xs e=>(G8.tups S7.sh) b xs (s7 _ _ (I _ _ e));exists 1,(1),Z,1,D,m,Z,ZF.of m0;intro p1 n1;rw[show WX m Y' (Z' (-1))=m.take ↑W from (FC m).trans (by congr 1;lia)]
 let#[H9,eU,g9,h9]:=Yo n1 (.lst (m.take ↑W));rw[eU];let lW:↑(m.take ↑W)=↑W:=by rw[yA];lia
 let l6:∀(i:Nat)(z:V),(m.take ↑W)[i]?\z->∃(p:Nat×Nat)(ta:aj)(fa:V),W[i]?\p/\z=.ref ta/\H9 ta\.tup [.int (p.1:Int),.int (p.2:Int),fa]:=λi' z hz=>by
  let c0:i'<↑W:=by have:=(yW.mp hz).1;lia
  rw[pS c0] at hz;let#[p,ep,ta,fa,e,ht,_]:=Paired.ixR Y hz;rw[wG c0] at ep;show#[p,ta,fa,ep,e,g9 _ _ (m8 _ _ ht)]
 show#[p1,Z,#[_,ZF.of h9],Ul (n:=↑(m.take ↑W)) (λi z=>(m.take ↑W)[i]?\z) (λD2 i ys H4=>ZE H9 H4/\H9 D2=Y'/\ys=Mi ((W.take i).map (·.2))) (Yq ())
  (λD2 i ys H4 B hP=>#[_,(m.take ↑W)[i],ZF.of (hP.1 _ _ h9),zT B]) (λD2 i ys H4 z H5 B hP hy=>#[hy.1,hy.2 _ (ZF.of (hP.1 _ _ h9))]) (λD2 ys H4 hP=>#[_,ZF.of (hP.1 _ _ h9),zY _])
  (λD2 c9=>#[Zv c9 _,c9,Z]) (λD2 i' ys Ha z M o7 c0 hz hP RR m2=>?_) (λD2 ys Ha M hP=>?_)]
 .let#[sa,a3,rfl]:=hP;let#[p,ta,fa,ep,rfl,ht]:=l6 i' z hz;show#[1,ta,_,_,.int (p.2:Int),Z,Z,Zp.of (sa _ _ ht),Z,_,1,Z,m2 _ Ha M #[UW sa a3,a3,?_]];rw[yR,ep];simp[Mi]
 let#[sa,a3,rfl]:=hP;rw[lW,tL] at M;let S9:=S8.same (g9|||sa);let a5:=sa _ _ (g9 _ _ e2);let i0:Xi (iN (up.reverse++[c])) 0\.int (r':Nat):=by
  show Yf (j:=0) ?_;unfold iN;rw[zK,<-vQ,<-gM,rT,O.z.last];rfl
 show#[2,.inl #[Dw,_,(0),.int (r':Nat),Z,Z,ZF.of a5,i0,2,(1),Z,1,Dw,1,ZF.of a5,λp3 n3=>?_]];let ec:WX (iN (up.reverse++[c])) Y' (Z' (-1))=iN up.reverse:=by
  rw[FC];let e:iN (up.reverse++[c])=iN up.reverse++[.int (c:Nat)]:=by unfold iN;rw[zH];rfl
  rwa[e,zR,xV,tJ,List.take_left' Z]
 rw[ec];let#[Hb,eU,gb,N]:=Yo n3 (.lst (iN up.reverse));rw[eU];let Sb:=S9.same gb;let ep:W.map (·.2)=((W.map (·.2)).reverse).reverse:=(List.reverse_reverse _).symm;rw[ep] at M;let p4:↑l<=↑X.ts+(↑W+1):=c5;let p5:↑J<=↑l+1:=t8;show#[2,.mk (X:=#[X.S,d8,c3,J,a9,c1,a8,a0]) Sb l8 l2 UT () (by change ↑J+_<=790;lia) () N (gb _ _ M) (S9.sh.new (X:=#[X.S,d8,c3,J,a9,c1,a8,a0]) n3) (S8.sh.new (X:=#[X.S,d8,c3,J,a9,c1,a8,a0]) (g9.free a3)) λHc Xc n0 oc Gc Sc l3 fc tc lc=>?_]
 let Gt:=((((G5|||G6)|||Go.same s7)|||G8)|||Go.same ((g9.trans sa).trans gb))|||Gc;let#[S0,dc,n5,a4,l7,m3,l5,i5]:=Xc;let eS:S0=X.S:=Gc.S;subst eS;let p6:↑a4<=↑J+_:=tc;show .mk (X:=#[X.S,dc,n5,a4,l7,m3,l5,i5]) Sc l3 UT (by change ↑a4<=790;lia) λHd Xd o1 Gd l1 ed l9 td=>?_
 let p7:↑Xd.ts<=↑a4+1:=td;show q Hd Xd n0 o1 (Gt|||Gd) l1 (by rw[ed,<-eT]) (λb N=>(l9 b N)|||(fc b N).trans ((f8 b N).trans (f6 b N))) () ()
theorem x'(F:-ZI ZJ j f fd d m)(G:-ZI ZJ k f fd d c)(h:j<=k):-ZI ZJ k f fd d (λb H Q E=>m b H Q E\/c b H Q E):=by
 exists λb H Q E z=>z.elim (F.len b H Q E) (G.len b H Q E);intro A a s H args n b Q E i g e l z;rcases z with z|z
 .show F.run A a s H args n b Q E (i.mono h) g e l z
 .show G.run A a s H args n b Q E i g e l z
inductive WP(jT jU:aj):Sp
 |mk{X:ZV}{h:aj}{j:je}{U:Nat->Prop}{g:Nat->Nat}{o:jj}{x:Nat}{H:Hp}{Q:VK}{E:XK}:Sd jT jU H X h j U g (x::o)->(∀ b∈(X^x).bs,b∈o) ->
  (∀(e:Hp)(a:ZV),Go h H e X a->Sd jT jU e a h j U g o->a.ts=X.ts->(∀ i∈X.lv,i≠x->i∈a.lv)->(∀ i∈a.lv,i∈X.lv)->(∀ c d,Rd X.lv X.av X.ho c d->x∉d->Rd a.lv a.av a.ho c d/\∀ i∈d,a.av i=X.av i)->Q .non e)->WP jT jU [!X.S,.int (x:Nat)] H Q E
theorem q8(D:-ZB ZJ 5 jT "let_go" U' (λv H Q E=>VF jT jU v H Q E\/UC jT jU v H Q E)):-ZB ZJ 5 jT "let_go" U' (WP jT jU):=by
 let#[f,fd,M,G,b]:=D.ex;show#[f,fd,M,G.imp λv H Q E h=>?_,b];let#[S,L,q]:=h;rename_i X V W U g o x
 let R:=S.sh;let k:=S.dg.own x zX;let O:=S.dg.hs x k;rw[vV] at O;by_cases p:Tp X.av X.ho x
 .right
  let I:=S.dg.less;let J:(X^x).bs.Nodup:=by
   by_cases C:(X^x).h=0
   .rwa[((S.dg.wf x k).leaf C).1,vU]
   .show UN S.dg.wf k C
  let u:∀{a:Nat},a∈X.lv.erase x↔a≠x/\a∈X.lv:=S.dg.nd.mem_erase_iff;show .mk R S.dg.nd k p.1 p.2 (λh=>((S.dg.wf x k).leaf h).1) J (λb l=>?_) λr m t s=>?_
  .let#[A,T,_]:=Xh S.dg.wf k l;let nx:b≠x:=λy=>by rw[y] at T;lia
   have:=I.hs b A;rw[show WK X.ho x b=X.ho b from aK nx] at this;have:=wR.mpr (L b l);show#[A,nx,(),(S.dg.ave b A x).mpr #[k,l]]
  .show q r #[X.S,X.d,X.lv.erase x,X.ts,WI (X^x).bs x X.av,WK X.ho x,X.as,m] (vx t) #[s,S.dg.drop p] Z (λi j n=>u.mpr #[n,j]) (λi j=>(u.mp j).2) λc B rd nx=>?_;let F:∀ i∈B,WI (X^x).bs x X.av i=X.av i:=λi j=>by
    unfold WI;split
    .next y=>
     show List.erase_of_not_mem λz=>?_;let#[Y,e]:=rd.hd;show nx #v[e,zS _ (rd.over e i j x z)]
    .rfl
   show#[rd.keep λi j=>#[u.mpr #[λy=>nx (y▸j),rd.inn i j],F i j,aK (show ¬ i=x from λy=>nx (y▸j))],F]
 .left
  let N:2<=↑(X.av x)+X.ho x:=by
   by_cases y:X.av x=[]
   .have:X.ho x≠1:=λw=>p #[y,w]
    lia
   .have:=vW.mpr y
    lia
  show .mk R k () N λr t s=>q r #[X.S,X.d,X.lv,X.ts,X.av,WK X.ho x,X.as,X.kvs] #[Z,Z,λc o n e=>t c o (λb l=>(n.2.2.2 b l).1) e,λc o n _=>n] #[s,S.dg.less] Z (λi j _=>j) (λi j=>j) λc B rd nx=>#[rd.keep λi j=>#[rd.inn i j,Z,aK (show ¬ i=x from λy=>nx (y▸j))],λi j=>rfl]
theorem Cm{cdv:ai}{A:ax}{outer:jt}{s:ak}{Hs:Hp}{E:XK}{tt:TS}(L:'d')(DB:'v')(DH:'k')(DG:'L')(T:ZX 5 (A.deeper (envOfC "hand_down" (Zc Q6) ‹s› f cdv)))(ht:WG (Wk ZJ P w K mg jW Lf "hand_down" (Zc Q6) f cdv A outer s Hs E).nox ((Xs Q6).drop 4) tt):
  ∃ t,WG (Wk ZJ P w K mg jW Lf "hand_down" (Zc Q6) f cdv A outer s Hs E).nox ((Xs Q6).drop 2) t/\∀(M:YK)(H:Hp)(X:ZV)(r D l:aj)(G I:je)(U:Nat->Prop)(g:Nat->Nat)(o:jj)(x pl:Nat)(u v1 v2 v4:V),
   Sd jT jU H X r G U g (x::o)->(X^x).h≠0->H D\.lst I->I[0]?\u->LP H (x,pl) (X^x).bs l u->Ze X r D->Ze X r l ->
   (∀(N:Hp)(p:ZV),Go r H N X p->Sd jT jU N p r G U g ((X^x).bs++o)->p.ts=X.ts->(∀ i∈X.lv,i≠x->i∈p.lv)->(∀ i∈p.lv,i∈X.lv)->(∀ c v,Rd X.lv X.av X.ho c v->x∉v->(∀ b∈(X^x).bs,b∉v)->Rd p.lv p.av p.ho c v/\∀ i∈v,p.av i=X.av i)->∀ x5:jf,tt M [Z' !X.S,Z' v1,Z' v2,Z' !D,Z' v4,x5,Y'] N) ->
   t M [Z' !X.S,Z' v1,Z' v2,Z' !D,Z' v4,Y',Y'] H:=by
 let nd:=VX.nd;let W:=T.mono (show 1<=5 by lia)
 let Y:=T.mono (show 2<=5 by lia)
 show#[_,ZK (Vi PassesOwn.never Z (WJ (Zd DB W (ZQ 'Q'))) 'ŧ'
   (ZR (YF (Zs (E:=E0) (pv 0) L.cS DH Y Zn (ZQ (pv 5))))))
  (ZK (YF (Zs (E:=E0) (pv 0) L.cS DG T Zn (ZQ (XL K 'Q' ZM)))) ht),
  λM H X r D l G I U g o x pl u v1 v2 v4 S h0 hD hu sp oD ol q=>?_]
 let R:=S.sh;let wf:=S.dg.wf;let hx:=S.dg.own x zX;let#[h1,h2,h3]:=id sp;let bl:∀ b∈(X^x).bs,b∈X.lv:=λb m=>(Xh wf hx m).1;let C:=UN wf hx h0;show#[1,.inl #[D,I,(0),1,Z,ZF.of hD,Yf (j:=0) hu,.mk sp #[l,Z,#[_,ZF.of h3],OB (K:=K) (a:=l) (xs:=iN (X^x).bs) (CO jT jU X r G (X^x).bs H _ _ _ _ _) (.mk (λc o _ e=>e) #v[show (X^x).bs.take 0=[] from Z,show Xq [] X.ho=X.ho from funext λi=>aK ⋯,R]) ?_ ?_ ?_]]]
 .rintro j _ J _ ⟨k,_⟩;show ZF.of (k _ _ (λb m=>(ol.2.2.2 b m).1) h3)
 .rintro j y _ J hy ⟨k,R2⟩;let#[b,F,rfl]:=MF hy;let#[et,nb]:=FI C F;let#[z,B]:=R2.sh.self;let m:=bl b (zG F);show#[1,X.S,z,1,B,Z,1,.mk R2 m λH3 O R3=>.mk (λc o n e=>O c o (n b m) (k c o n e)) (by rwa[et,<-EV nb,R3])]
 .rintro _ J ⟨k,R2⟩;rename_i x5
  rw[show ↑(iN (X^x).bs)=↑(X^x).bs from zW _,zA (zY _)] at R2;let#[z,B]:=R2.sh.self;let Q:=k _ _ (λb m=>(oD.2.2.2 b m).1) hD;let a0:=k _ _ (λb m=>by
   let#[dx,e]:=(R.tw b m).tw.self;show ZZ h1 e) h1
  let S2:Sd jT jU J #[X.S,X.d,X.lv,X.ts,X.av,Xq (X^x).bs X.ho,X.as,X.kvs] r G U g (x::((X^x).bs++o)):=#[R2,(S.dg.holds C bl).perm (tM)];show#[1,X.S,z,1,B,Z,1,.inl #[D,I,(0),1,Z,ZF.of Q,Yf (j:=0) hu,_,_,_,1,Z,Zp.of a0,Z,.mk (X:=#[X.S,X.d,X.lv,X.ts,X.av,Xq (X^x).bs X.ho,X.as,X.kvs]) S2 (λb m=>zL _ m) λH3 X3 G3 S3 e3 k3 l3 r3=>?_]];show q H3 X3 ((show Go r H J X #[X.S,X.d,X.lv,X.ts,X.av,Xq (X^x).bs X.ho,X.as,X.kvs] from #[Z,Z,λc o n e=>k c o (λb m=>(n.2.2.2 b m).1) e,λc o n _=>n])|||G3) S3 e3 k3 l3 (λc v rd nx nb=>?_) x5;show r3 c v (rd.keep λi hi=>#[rd.inn i hi,Z,aK λy=>nb i y hi]) nx
structure KQ(X X':ZV)(r n:Nat)(up bs:jj)(T:jl):Prop where
 S:X'.S=X.S
 d:X'.d=X.d
 lv:X'.lv=X.lv
 len:↑X'.ts=↑X.ts
 old:∀ i,i∉n::up->hJ X'.ts i=hJ X.ts i
 at_:hJ X'.ts n=YE X.ts bs
 hh:∀ i,(X'^i).h=(X^i).h
 sh:∀ i,i≠n->(X'^i).bs=(X^i).bs
 rows:(X'^r).rows=T
 hi:∀ i,(X^n).h<=(X^i).h->X'.av i=X.av i/\X'.ho i=X.ho i
inductive VA(jT jU:aj):Sp
 |mk{X:ZV}{lk l:aj}{ls:je}{U:Nat->Prop}{g:Nat->Nat}{o rest:jj}{r n:Nat}{up ps bs:jj}{A B:jl}{H:Hp}{Q:VK}{E:XK}:Sd jT jU H X lk ls U g o->r∈o->Cn X r n up ps A B->↑up<=790->↑X.ts<=795->(X^n).h≠0->H l\.lst (iN bs)->(∀ b∈bs,b∈X.lv/\(X^b).h+1=(X^n).h)->2<=↑bs->↑bs<=4->o.Perm (Y1 X.ts n bs++rest)->Up (A++ZP X.ts bs++B) ->
  (∀(H':Hp)(X':ZV),Go lk H H' X X'->Sd jT jU H' X' lk ls U g (XH X.ts n bs++rest)->KQ X X' r n up bs (A++ZP X.ts bs++B)->Cn X' r n up ps A B->(∀ b,U b->hJ X'.ts b=hJ X.ts b)->Q .non H')->VA jT jU [!X.S,.int (n:Nat),!l] H Q E
theorem A'(D:'2'):-ZB ZJ 11 jT "change_stem" TJ (VA jT jU):=by
 let#[f,fd,M,O,b]:=D.ex;show#[f,fd,M,O.imp λvs H Q E h=>?_,b];let#[S,x,a,u8,t8,h0,hl,c,l2,I,J,W,q]:=h;rename_i X lk l ls U g o rest r n up ps s A B
 let v:=S.dg.own r x;let Y:=S.all;let u:=S.dg.free a.rd (a.ro x);let#[_,fu,_,_]:=a.z.facts S.dg.wf v Z;let#[ov,th,p,t,ch,C,N,z',F]:=Dg.change (rest:=rest) S.sh.lt S.dg v a.rd (a.ro x) a.z h0 c l2 I J W;show .mk (T:=A++ZP X.ts s++B) #[S.sh,S.dg.wf,v,S.dg.avk] a.z a.rd () hl (λb h=>(c b h).1) I ov th p (λb h=>?_) ch C λR m fr V L=>?_
 .let G:b∈o:=J.mem_iff.mpr (zL _ h);let c:=S.dg.own b G;rw[S.dg.hs b c];have:=wR.mpr G;show#[(),zJ (S.dg.avl c) ()]
 .let k:∀ i∈n::up,(X^n).h<=(X^i).h:=λi j=>by
   rcases zU.mp j with y|y
   .rwa[y,zY _]
   .show yE (fu i y).2
  show q R #[X.S,X.d,X.lv,t,Vr X.ts n s X.av,Vu X.ts n s X.ho,m,X.kvs] (Ni fr L) #[V,N] #[Z,Z,Z,C.len,C.old,C.at_,C.hh,C.sh,C.rows,F] #[a.rd.keep λi j=>#[a.rd.inn i j,F i (k i j)],λi j e=>a.top i j (by rwa[<-(F i (k i j)).1,e]),z'] λb c=>C.old b λy=>u b y c
theorem wx(j:l∉(a^n).bs)(g:Y.Nodup)(m:∀ b,b∈Y↔b=l\/b∈(a^n).bs):Y1 a n Y=[l]/\XH a n Y=[]:=by
 let e:∀ i,i∈Y1 a n Y↔i∈Y/\i∉(a^n).bs:=λi=>by unfold Y1;simp
 let d:∀ i,i∈XH a n Y↔i∈(a^n).bs/\i∉Y:=λi=>by unfold XH;simp
 show#[rP.mp ((vN (g.sublist xB) ⋯).mpr λb=>(e b)|||(by
  rwa[zV,m,#[λh=>h.1.resolve_right h.2,λh=>#[.inl h,by rw[h];show j]]])),uA.mpr λb c=>((d b).mp c).2 ((m b).mpr (.inr ((d b).mp c).1))]
inductive Yu(jT jU:aj):Sp
 |mk{X:ZV}{lk:aj}{ls:je}{U:Nat->Prop}{gg:Nat->Nat}{o:jj}{r g l:Nat}{up ps:jj}{A B:jl}{sd:Bool}{H:Hp}{Q:VK}{E:XK}:Sd jT jU H X lk ls U gg (l::o)->r∈o->Cn X r g up ps A B->↑up<=790->↑X.ts<=795->(X^g).h≠0->(X^l).h+1=(X^g).h->↑(X^g).bs<=3->↑ls<=380000 ->
  Up (A++(if sd=V' then (X^g).rows++(X^l).rows else (X^l).rows++(X^g).rows)++B) ->
  (∀(H':Hp)(X':ZV)(ls':je),Go lk H H' X X'->Sd jT jU H' X' lk ls' U gg o->KQ X X' r g up (if sd=V' then (X^g).bs++[l] else l::(X^g).bs) (A++(if sd=V' then (X^g).rows++(X^l).rows else (X^l).rows++(X^g).rows)++B)->Cn X' r g up ps A B->(∀ b,U b->hJ X'.ts b=hJ X.ts b)->↑ls'<=↑ls+1->Q .non H')->Yu jT jU [!X.S,.int (g:Nat),.int (l:Nat)] H Q E
theorem qj{cdv:ai}{A:ax}{outer:jt}{s:ak}{Hs:Hp}{E:XK}(L:'d')(R:'A')(hr:ZX 11 (A.deeper (envOfC "adopt" (Zc MT) ‹s› f cdv))):
  ∃ t,WG (Wk ZJ P w K mg jW Ch "adopt" (Zc MT) f cdv A outer s Hs E).nox ((Xs MT).drop 2) t/\∀(p:YK)(H:Hp)(X:ZV)(d a:aj)(I:je)(U:Nat->Prop)(D:Nat->Nat)(o:jj)(r g l i:Nat)(k M Y:jj)(A B:jl),
   Sd jT jU H X d I U D (l::o)->r∈o->Cn X r g k M A B->↑k<=790->↑X.ts<=795->(X^g).h≠0->↑(X^g).bs<=3->H a\.lst (iN (X^g).bs)->Ze X d a->i<=↑(X^g).bs->(X^g).bs.take i++l::(X^g).bs.drop i=Y->(∀ b∈Y,b∈X.lv/\(X^b).h+1=(X^g).h)->2<=↑Y->↑Y<=4->Y1 X.ts g Y=[l]->XH X.ts g Y=[]->Up (A++ZP X.ts Y++B) ->
   (∀(v:Hp)(j:ZV),(∀ c o,c≠a->Ze X d c->H c\o->v c\o)->(∀ c o,Ze X d c->H c\o->Ze j d c)->Sd jT jU v j d I U D o->KQ X j r g k Y (A++ZP X.ts Y++B)->Cn j r g k M A B->(∀ b,U b->hJ j.ts b=hJ X.ts b)->p.nx [Z' !X.S,Z' (.int (g:Int)),Z' (.int (l:Int)),Z' !a,Z' (.int (i:Int))] v) ->
   t p [Z' !X.S,Z' (.int (g:Int)),Z' (.int (l:Int)),Z' !a,Z' (.int (i:Int))] H:=by
 show#[_,ZK (YF (QG xQ qH qE E6 (pv 3) (Zu (pv 4) (pv 2))))
  (ZR (YF (Zs (E:=E0) (pv 0) L.cS R hr Zn (Zu (pv 1) (pv 3))))),λp H X d a I U D o r g l i k M Y A B S ro cn u8 t8 h0 b3 G O hi eY x l2 l4 nB gB W q=>?_]
 let lI:↑(iN (X^g).bs)=↑(X^g).bs:=zW _;exists 1,.inl #[Z,_,ZF.of G],2,a,iN (X^g).bs,i,.int (l:Nat),Z,Z,G,(),#v[lI,wJ b3 (yS Z)]
 let eI:(iN (X^g).bs).take i++V.int (l:Nat)::(iN (X^g).bs).drop i=iN Y:=by rw[<-eY];unfold iN;rw[zH,yX,uR,uS]
 rw[eI];let m:ZG a H (upd H a (.lst (iN Y))):=(ZG.refl a H).upd;let C:upd H a (.lst (iN Y)) a\.lst (iN Y):=Za;generalize upd H a (.lst (iN Y))=H2 at m C⊢;let R2:=S.sh.but m G O;let#[dS,hS]:=R2.sh.self;show#[1,X.S,dS,1,hS,Z,2,.mk (rest:=o) #[R2,S.dg] (zS _ ro) cn u8 t8 h0 C x l2 l4 #v[nB,yP.refl _] W λT X3 u N Q z f3=>?_]
 rw[gB] at N;show q T X3 (λc o n J e=>u.fr c o J (m _ _ e n)) (λc o J e=>by
   by_cases y:c=a
   .rwa[y,u.off a _ O C]
   .show u.off c o J (m _ _ e y)) N Q z f3
theorem nR(F0:Zl K "adopt" "adopt" MT f fd)(T:YM mg)(L:'d')(DL:'j')(DA:'Ľ')(DC:'A'):-ZI ZJ 12 f fd TR (Yu jT jU):=by
 show F0.ok Qo 'a' (λO A t s H vs Q E hr h=>?_)
 induction h
 rename_i X z ls U gg o r g l up ps j k a H Q E S ro cn u8 t8 h0 hh b3 a7 W q
 let nd:=Qo.nd;let a1:=hr.mono (show 2<=11 by lia)
 let a2:=hr.mono (show 8<=11 by lia)
 let#[tt,ht,hk]:=qj (jT:=jT) (jU:=jU) (P:=P) (w:=w) (K:=K) (jW:=jW) (f:=f) (cdv:=O) (A:=A) (outer:=t) (s:=s) (Hs:=H) (E:=E) L DC hr;intro Xc;show#[_,ZK (Zf 3 nd (XL K (Zs (E:=E0) (pv 0) L.cS DL a1 Zn 'f') ZM))
  (ZK (Zf 4 nd (Mw (Xk (Zd DA a2 (Wf (pv 0) (pv 2) (pv 1)))) ZM (YA XG Z T.len XE 'z')))
  ht),?_]
 let R:=S.sh;let D:=S.dg.wf;let hl:=S.dg.own l zX;let a8:=S.dg.own r (zS _ ro);let I:=cn.rd.lt;let#[b2,_,bb,G]:=(D g I).stem h0;let G:(X^g).rows=ZP X.ts (X^g).bs:=G;let#[dS,hS]:=R.sh.self;let ng:=(D g I).ne;let nl:=(D l hl).ne;exists 1,X.S,dS,1,hS,Z,1,X,z,↑X.ts,ls,g,Z,R.q,I,by lia
 intro M a6 J a9 Y R1 a3 B x _ w1;let w1:=w1 h0;subst w1;let S1:Sd jT jU M X z (ls++[.int (g:Int)]) U gg (l::o):=#[#[R1.sh,R.lt,R.keys,R.val,R.len,R1.tw,R.own,R.two],S.dg];let o1:Ze X z J:=R.new B;let G1:Go z H M X X:=.looks Y;exists a6,_,_,1,Z,Zp.of a3,Z;let lI:↑(iN (X^g).bs)=↑(X^g).bs:=zW _;let eT:j++ZP X.ts (if a=V' then (X^g).bs++[l] else l::(X^g).bs)++k=j++(if a=V' then (X^g).rows++(X^l).rows else (X^l).rows++(X^g).rows)++k:=by
  cases a
  .change j++ZP X.ts (l::(X^g).bs)++k=j++((X^l).rows++(X^g).rows)++k;rw[WV,<-G]
  .change j++ZP X.ts ((X^g).bs++[l])++k=j++((X^g).rows++(X^l).rows)++k;rw[QI,WV,<-G];simp[ZP]
 let mm:∀ b,b∈(if a=V' then (X^g).bs++[l] else l::(X^g).bs)↔b=l\/b∈(X^g).bs:=λb=>by
  cases a
  .show zU
  .change b∈(X^g).bs++[l]↔_;rwa[zM,zV,Or.comm]
 let u:∀ b∈(if a=V' then (X^g).bs++[l] else l::(X^g).bs),b∈X.lv/\(X^b).h+1=(X^g).h:=λb hb=>by
  rcases(mm b).mp hb with y|y
  .rwa[y,#[hl,hh]]
  .show bb b y
 let W':Up (j++ZP X.ts (if a=V' then (X^g).bs++[l] else l::(X^g).bs)++k):=#v[eT,W]
 let p:=N3 (λb hb=>(D b (u b hb).1).ne) (UD W' ((yF j _)|||yG _ k));let a4:l∉(X^g).bs:=λy=>by
  cases a
  .show(yQ.mp p).1 y
  .show(yO.mp p).2.2 l y l 'û' Z
 let#[nB,gB]:=wx a4 p mm;let ly:↑(if a=V' then (X^g).bs++[l] else l::(X^g).bs)=↑(X^g).bs+1:=by cases a<;>simp
 let v:∀(i:Nat)(n:Hp),ZE M n->i<=↑(X^g).bs->(X^g).bs.take i++l::(X^g).bs.drop i=(if a=V' then (X^g).bs++[l] else l::(X^g).bs)->tt { nx:=λ_ H'=>Q .non H',rt:=Q } [Z' !X.S,Z' (.int (g:Int)),Z' (.int (l:Int)),Z' !J,Z' (.int (i:Int))] n:=λi n m hi ei=>by
  show hk _ n X z J _ U gg o r g l i up ps _ j k (S1.same m) ro cn u8 t8 h0 b3 (m _ _ x) o1 hi ei u () () nB gB W' λH3 X3 a0 a5 S3 F V f3=>?_
  rw[eT] at F;show q H3 X3 _ #[F.S,F.d,λc o C e=>a0 c o (Zg e B) C (m _ _ (G1.fr c o C e)),λc o C e=>a5 c o C (m _ _ (G1.fr c o C e))] S3 F V f3 ⋯
 show#[3,.mk S1.sh D hl I λn m=>?_];cases a
 .let N:Up ((X^l).rows++(X^g).rows):=UD W ((yF j _)|||yG _ k);rwa[MX nl ng N,#[1,Z2 (v 0 n m (yY _) Z)]]
 .let N:Up ((X^g).rows++(X^l).rows):=UD W ((yF j _)|||yG _ k);rw[Q9 _ _ (MX ng nl N)];show#[1,Zq #[1,J,1,.inl (ZF.of (m _ _ x)),?_]];rwa[lI,v _ n m (zY _) (by rw[tL,List.drop_length];rfl)]
theorem VT.low{f:jj}(i:WF f a)(h:VT a x W N L R):x∈f->∀ b∈N,b∈f/\(a^b).h<=(a^x).h:=by
 induction h with
 |leaf _=>show λd b e=>#v[zV.mp e,#[d,zY _]]
 |stem s g r u m=>
  rename_i j x c l W N L R
  intro d b e;let o:c∈(a^x).bs:=by rw[g];cases j<;>simp
  let p:l∈(a^x).bs:=by rw[g];cases j<;>simp
  let#[k,q,_]:=Xh i d o;let#[n,t,_]:=Xh i d p;rcases zU.mp e with y|y
  .rwa[y,#[d,zY _]]
  .rcases zU.mp y with y|y
   .rwa[y,#[n,()]]
   .have:=m k b y;show#[this.1,()]
abbrev XC(c:Bool)(a b:jl):jl:=if c=V' then a++b else b++a
inductive YR(n:Nat)(jT jU:aj):Sp
 |stem {X:ZV} {lk D:aj} {ls us:je} {U:Nat->Prop} {g:Nat->Nat} {o:jj} {r p q x:Nat} {up ps l m N:jj} {A B L R:jl} {sd:Bool} {W:jq} {ts0:jk} {H:Hp} {Q:VK} {E:XK}:↑W<=n->Sd jT jU H X lk ls U g (x::r::o)->Cn X r p up ps A B->↑up+↑W<=600->↑X.ts+↑W<=780->(X^p).h≠0->(X^p).bs=l++q::m->(X^x).h=(X^q).h->VT X.ts x W N L R->((X^x).h≠0->↑(X^q).bs<=3) ->
  Up (A++ZP X.ts l++XC sd (X^q).rows (X^x).rows++(ZP X.ts m++B))->H D\.lst us->Ze X lk D->Paired 'Ŧ' W us->(∀ p∈W,hJ ts0 p.1=hJ X.ts p.1)->↑ls+3*↑W<=360000 ->
  (∀(H':Hp)(X':ZV)(ls':je)(v:V),Go lk H H' X X'->Sd jT jU H' X' lk ls' U g (r::o)->(X'^r).rows=A++ZP X.ts l++XC sd (X^q).rows (L++R)++(ZP X.ts m++B)->(∀ b,U b->hJ X'.ts b=hJ X.ts b)->↑X'.ts<=↑X.ts+↑W->↑ls'<=↑ls+3*↑W->Q v H') ->
  YR n jT jU [!X.S,.int (p:Nat),.int (q:Nat),!D] H Q E
 |root {X:ZV} {lk D:aj} {ls us:je} {U:Nat->Prop} {g:Nat->Nat} {o:jj} {q x:Nat} {N:jj} {L R:jl} {sd:Bool} {W:jq} {ts0:jk} {H:Hp} {Q:VK} {E:XK}:↑W<=n->Sd jT jU H X lk ls U g (x::q::o)->↑W<=600->↑X.ts+↑W<=780->(X^x).h=(X^q).h->VT X.ts x W N L R->((X^x).h≠0->↑(X^q).bs<=3) ->
  Up (XC sd (X^q).rows (X^x).rows)->H D\.lst us->Ze X lk D->Paired 'Ŧ' W us->(∀ p∈W,hJ ts0 p.1=hJ X.ts p.1)->↑ls+3*↑W<=360000 ->
  (∀(H':Hp)(X':ZV)(ls':je)(r':Nat),Go lk H H' X X'->Sd jT jU H' X' lk ls' U g (r'::o)->(X'^r').rows=XC sd (X^q).rows (L++R)->(∀ b,U b->hJ X'.ts b=hJ X.ts b)->↑X'.ts<=↑X.ts+↑W->↑ls'<=↑ls+3*↑W->Q (.int (r':Nat)) H') ->
  YR n jT jU [!X.S,.non,.int (q:Nat),!D] H Q E
theorem Aw{n:Nat}{cdv:ai}{A:ax}{outer:jt}{s:ak}{Hs:Hp}{E:XK}(DA:'æ')(DR:-ZA (n+13) "hand_down" TN (YR n jT jU))(hr:ZX (n+13) (A.deeper (envOfC "hand_down" (Zc Q6) ‹s› f cdv))):
  ∃ t,WG (Wk ZJ P w K mg jW Lf "hand_down" (Zc Q6) f cdv A outer s Hs E).nox ((Xs Q6).drop 6) t/\∀(D0:YK)(H:Hp)(X:ZV)(I D:aj)(ls us:je)(u:V)(U:Nat->Prop)(g:Nat->Nat)(o:jj)(r q l c:Nat)(up ps N:jj)(A B L R:jl)(F d:Bool)(W:jq)(G:jk)(v1 v2:V)(x5:jf),
   Sd jT jU H X I ls U g (l::c::r::o)->Cn X r q up ps A B->↑up+↑W<=600->↑X.ts+↑W<=780->(X^q).h≠0->↑(X^q).bs<=3->(X^l).h+1=(X^q).h->(X^c).h+1=(X^q).h->VT X.ts c W N L R->((X^c).h≠0->↑(X^l).bs<=3)->↑W<=n ->
   Up (A++XC F (X^q).rows (XC d (X^l).rows (X^c).rows)++B)->H D\.lst (u::us)->Ze X I D->Paired (XU X I H G) W us->(∀ p∈W,hJ G p.1=hJ X.ts p.1)->↑ls+3*↑W<=359999 ->
   (∀(H':Hp)(O:ZV)(a0:je),Go I H H' X O->Sd jT jU H' O I a0 U g (r::o)->(O^r).rows=A++XC F (X^q).rows (XC d (X^l).rows (L++R))++B->(∀ b,U b->hJ O.ts b=hJ X.ts b)->↑O.ts<=↑X.ts+↑W->↑a0<=↑ls+3*↑W+1->D0.rt (.int (q:Nat)) H') ->
   t D0 [Z' !X.S,Z' v1,Z' v2,Z' !D,Z' (.int (l:Nat)),x5,Z' (.int (q:Nat))] H:=by
 let Y:=hr.mono (show 12<=n+13 by lia)
 show#[_,ZK (YF (Zd DA Y 'Ŋ'))
  (ZK (YF (Zd DR hr (Uv (pv 0) (pv 6) (pv 4) 'Š')))
  (ZR (Zh (pv 6)))),λD0 H X I D ls us u U g o r q l c up ps N A B L R F d W G v1 v2 x5 S cn u6 t7 h0 b3 hl hc pt f0 wn W0 hD oD a7 e0 a9 k=>?_]
 let wf:=S.dg.wf;let a5:=S.dg.own c 'Ś';let c0:=S.dg.own l zX;let hq:=cn.rd.lt;let a6:=S.dg.own r ⋯
 let#[_,fu,_,_]:=cn.z.facts wf a6 Z;let sl:((X^l).rows).Sublist (XC d (X^l).rows (X^c).rows):=by
  cases d
  .show yF _ _
  .show yG _ _
 let U2:Up (A++(if F=V' then (X^q).rows++(X^l).rows else (X^l).rows++(X^q).rows)++B):=by
  show UD W0 ?_;cases F
  .show((yN.refl A).append (sl.append 'N')).append (yN.refl B)
  .show((yN.refl A).append ('N'.append sl)).append (yN.refl B)
 show#[3,.mk (sd:=F) S ⋯ cn () () h0 hl b3 () U2 λH3 i c3 J S3 j a1 f3 c1=>?_]
 let m:Z1 H H3:=J.tups S.sh;let a3:=J.fr _ _ oD hD;rw[show X.S=i.S from J.S.symm];exists 5,D,1,ZF.of a3;intro D4 n4;rw[GU];let#[H4,eU,g4,a4]:=Yo n4 (.lst us);rw[eU];let C:∀ b,(X^b).h<(X^q).h->b∉q::up:=λb h y=>by
  rcases zU.mp y with y|y
  .rw[y] at h;lia
  .have:=(fu b y).2;lia
 let ch:∀ b,b∈(X^q).bs->hJ i.ts b=hJ X.ts b:=λb h=>j.old b (C b (by have:=(Xh wf hq h).2.1;lia))
 let nN:∀ b∈N,hJ i.ts b=hJ X.ts b:=λb h=>j.old b (C b (by have:=(pt.low wf a5 b h).2;lia))
 let el:hJ i.ts l=hJ X.ts l:=j.old l (C l ())
 let ec:hJ i.ts c=hJ X.ts c:=j.old c (C c ())
 let T:ZP i.ts (X^q).bs=(X^q).rows:=by
  rw[US (ts:=X.ts) (ts':=i.ts) λb h=>by rw[ch b h]]
  show(((wf q hq).stem h0).2.2.2).symm
 let Q:(hJ i.ts q).bs=(if F=V' then (X^q).bs++[l] else l::(X^q).bs):=by rw[j.at_];rfl
 obtain⟨l3,m3,e3,eA⟩:∃ l3 m3,(hJ i.ts q).bs=l3++l::m3/\∀ M:jl,A++ZP i.ts l3++M++(ZP i.ts m3++B)=A++XC F (X^q).rows M++B:=by
  cases F
  .exists [],(X^q).bs,Q;intro M;rw[T];simp[ZP,XC]
  .exists (X^q).bs,[],Q;intro M;rw[T];simp[ZP,XC]
 let t3:=j.len;show .stem (X:=i) (l:=l3) (m:=m3) (x:=c) (sd:=d) (ts0:=G) wn (S3.same g4) a1 u6 () #v[j.hh,h0] e3 (by rw[j.hh,j.hh];lia) (pt.like nN) #v[ec,el,f0] #v[eA,ec,el,W0] a4 (S3.sh.new n4) (Paired.mapP a7 λp v y=>y.go (J|||Go.same g4) λa ys e=>g4 _ _ (m a ys e)) (λp hp=>?_) () λH5 X5 a8 v G5 S5 a2 f5 c4 c2=>#[1,?_]
 .rwa[e0 p hp,(nN _ (pt.wn p hp)).symm]
 .show k H5 X5 a8 ((J|||Go.same g4)|||G5) S5 ?_ (λb hb=>(f5 b hb)|||f3 b hb) () ()
  rw[a2,eA,el]
theorem Ly(h:Up (a++b))(c:r∈a)(d:r∈b):False:=by
 unfold Up Ps at h;rw[zH,xA] at h;have:=h.2.2 _ (zQ.mpr #[r,c,Z]) _ (zQ.mpr #[r,d,Z]);erw[UI] at this
theorem Gn(h:r∈b):r∈XC c a b:=by cases c<;>simp[XC,h]
theorem IW:(if b=V' then a++L else L)++(if b=V' then R else R++a)=XC b a (L++R):=by cases b<;>simp[XC]
theorem qp(F0:'Ģ')(T:YM mg)(L:'d')(DB:'v')(DN:'T')(DH:'k')(DG:'L')(DO:'9')(DA:'æ')(DR:-ZA (n+13) "hand_down" TN (YR n jT jU)):-ZI ZJ (n+14) f fd TN (YR (n+1) jT jU):=by
 show F0.ok VX (λvs H Q E h=>(by cases h<;>rfl)) (λcdv A outer s H vs Q E hr h=>?_)
 let nd:=VX.nd;let hr1:=hr.mono (show 1<=n+13 by lia)
 let hr2:=hr.mono (show 2<=n+13 by lia)
 let hr5:=hr.mono (show 5<=n+13 by lia)
 let hr12:=hr.mono (show 12<=n+13 by lia)
 let#[t6,ht6,hk6]:=Aw (n:=n) (jT:=jT) (jU:=jU) (P:=P) (w:=w) (K:=K) (jW:=jW) (f:=f) (cdv:=cdv) (A:=A) (outer:=outer) (s:=s) (Hs:=H) (E:=E) DA DR hr;let#[tt,ht,hk]:=Cm (jT:=jT) (jU:=jU) (P:=P) (w:=w) (K:=K) (jW:=jW) (f:=f) (cdv:=cdv) (A:=A) (outer:=outer) (s:=s) (Hs:=H) (E:=E) L DB DH DG hr5
  (ZK (Z4 (Q0 (M4 (pv 2))) U4 Z6)
  (ZK (Zf 6 nd (Zd DO hr12 'K')) ht6))
 intro Xc;show#[_,ZK (Z4 (YO Vm (YA XG Z T.len XE (ZQ (pv 3))) ZM (Z9 _)) (ZK (YF (Zs (E:=E0) (pv 0) L.cS DG hr5 Zn (ZQ (XL K (Zy K (pv 3) ZM) ZM)))) (ZR (Zh (pv 2)))) Z6)
  (ZK (Zf 4 nd (Zd DN hr2 (ZQ 'Q'))) ht),?_]
 rcases h with ⟨wn,S,cn,u6,t7,p0,ebp,hxq,pt,b3,U0,hD,oD,hst,e0,few,k⟩|⟨wn,S,u6,t7,hxq,pt,b3,U0,hD,oD,hst,e0,few,k⟩
 .rename_i X lk D ls us U g o r p q x up ps l m N A0 B0 L0 R0 sd W ts0
  let lw:=Paired.length hst;let wf:=S.dg.wf;let hx:=S.dg.own x zX;let hr0:=S.dg.own r ⋯
  let hp:=cn.rd.lt;let#[hq,hqp,_]:=Xh wf hp (b:=q) (by rw[ebp];simp)
  let#[_,fu,er0,_]:=cn.z.facts wf hr0 Z;let hup:∀ i∈p::up,(X^p).h<=(X^i).h:=λi hi=>by
   rcases zU.mp hi with y|y
   .rwa[y,zY _]
   .show yE (fu i y).2
  let rp:(X^p).rows=ZP X.ts l++(X^q).rows++ZP X.ts m:=by
   rw[show (X^p).rows=ZP X.ts (X^p).bs from ((wf p hp).stem p0).2.2.2,ebp,QI,WV];simp
  let xch:x∉p::up:=λy=>by have:=hup x y;lia
  exists 1,D,us,Z,.inl (ZF.of hD),Z,_,Z;let#[dS,hS]:=S.sh.sh.self;obtain⟨u,us',eu⟩:∃ u us',us=u::us':=by
   cases us with
   |nil=>show gS (wP lw) (λy=>pt.hd.2 (by rw[y];rfl))
   |cons u us'=>show#[u,us',Z]
  subst eu
  cases pt with
  |leaf h0=>
   rename_i pl
   let l1:us'=[]:=uY.mp #v[lw.symm]
   subst l1;rw[aJ (congrArg V.int (by rfl))]
   obtain⟨t,fv,rfl,ht1,_⟩:XU X lk H ts0 (x,pl) u:=by cases hst with|cons a b=>show a
   let eb:=('Ť'.leaf h0).1;show Z2 #[1,X.S,dS,1,hS,Z,1,.inl #[D,_,(0),1,Z,ZF.of hD,Yf (j:=0) Z,_,_,_,1,Z,Zp.of ht1,Z,.mk S (λb hb=>by erw[eb] at hb) λH1 X1 G1 S1 e1 k1 l1 r1=>#[1,k H1 X1 ls _ G1 S1 ?_ (λb _=>by rw[e1]) (by rw[e1];lia) ()]]]
   rw[e1,er0,rp];cases sd<;>simp[XC]
  |stem h0 eb f0 pc=>
   rename_i sd' c l' W' N' L' R'
   let w1:1<=↑W':=by
    have:=pc.hd.2
    cases W' with
    |nil=>show gS Z this
    |cons=>show vE (yY _)
   rw[zN] at lw wn u6 t7 few;let l2:((↑(u::us'):Nat):Int)≠1:=by rw[zN] at lw⊢;lia
   rw[aI (λy=>l2 'ħ')];obtain⟨su,st'⟩:XU X lk H ts0 (x,if sd'=V' then 1 else 0) u/\Paired (XU X lk H ts0) W' us':=by cases hst with|cons a b=>show#[a,b]
   let ex:=e0 _ zX;let#[bl,spx,obl]:=su.sp #v[ex,h0]
   rw[ex] at spx;show Zq #[1,.inl #[D,_,(0),1,Z,ZF.of hD,Yf (j:=0) Z,.mk (b:=l') spx ?_ ?_]]
   .change (X^x).bs[_]?\l';rw[eb];cases sd'<;>rfl
   show hk _ H X lk D bl ls _ U g (r::o) x (if sd'=V' then 1 else 0) u (.int (p:Nat)) (.int (q:Nat)) (.int (l':Nat)) S h0 hD Z spx oD obl λH1 X1 G1 S1 e1 k1 l1 r1 x5=>?_
   let mc:c∈(X^x).bs:=by rw[eb];cases sd'<;>simp
   let ml:l'∈(X^x).bs:=by rw[eb];cases sd'<;>simp
   let#[c1,c2,_]:=Xh wf hx mc;let#[m1,m2,_]:=Xh wf hx ml;let rx:(X^x).rows=XC sd' (X^l').rows (X^c).rows:=by
    rw[show (X^x).rows=ZP X.ts (X^x).bs from ('Ť'.stem h0).2.2.2,eb];cases sd'<;>simp[ZP,XC]
   let S1:Sd jT jU H1 X1 lk ls U g (l'::c::r::o):=#[S1.sh,S1.dg.perm (by
    rw[eb];cases sd'
    .show yP.swap _ _ _
    .show yP.refl _)]
   let#[rd1,av1]:=r1 p (p::up) cn.rd xch λb hb y=>by
    have:=(Xh wf hx hb).2.1;have:=hup b y
    lia
   let z1:YV X1.ts r (p::up) ps A0 B0:=#v[e1,cn.z]
   let cn1:Cn X1 r p up ps A0 B0:=#[rd1,λi hi e=>cn.top i hi (by rwa[<-av1 i hi,e]),z1]
   show#[2,Zq ?_];rw[<-G1.S];show#[3,.stem (l:=l) (m:=m) S1 (by rw[e1];lia) () (S1.dg.own r ⋯) rd1 (cn1.ro ⋯) () z1 #v[e1,p0] #v[e1,ebp] λH2 X2 ls2 q' G2 S2 rd2 av2 _ z2 eb2 gq rr2 kp2 tl2 ll2=>?_]
   rw[<-G2.S];rw[e1] at gq rr2 tl2;let lvb:∀ b∈X.lv,(X^b).h<(X^p).h->b≠x->hJ X2.ts b=hJ X.ts b/\b∈X2.lv:=λb hb hh hn=>by
    let b1:=k1 b hb hn;rw[(kp2 b b1).2.2 λy=>by have:=hup b y;lia,e1]
    show#[Z,(kp2 b b1).1]
   let hc2:=lvb c c1 () (λy=>by rw[y] at c2;lia)
   let hl2:=lvb l' m1 () (λy=>by rw[y] at m2;lia)
   let sub:∀ b∈l++m,hJ X2.ts b=hJ X.ts b:=λb hb=>by
    let hbp:b∈(X^p).bs:=by rw[ebp];rcases zM.mp hb with y|y<;>simp[y]
    let#[w1,w2,_]:=Xh wf hp hbp;show(lvb b w1 () λy=>?_).1
    let#[ρ,ρs,eρ]:=sR 'Ť'.ne;let m0:ρ∈(X^x).rows:=#v[eρ,zX]
    rcases zM.mp hb with w|w
    .let hm:ρ∈ZP X.ts l:=xT.mpr #[b,w,#v[y,m0]]
     show Ly (UD U0 (yG _ _)) (yZ _ hm) (Gn m0)
    .let hm:ρ∈ZP X.ts m:=xT.mpr #[b,w,#v[y,m0]]
     show Ly U0 (yZ _ (Gn m0)) (zL _ hm)
   let rl:ZP X2.ts l=ZP X.ts l:=US λb hb=>by rw[sub b (zL _ hb)]
   let rm:ZP X2.ts m=ZP X.ts m:=US λb hb=>by rw[sub b (yZ _ hb)]
   let hr2':=S2.dg.own r ⋯
   let hp2:=(z2.facts S2.dg.wf hr2' Z).1;let p02:(X2^p).h≠0:=#v[(kp2 p (rd1.lt)).2.1,e1,p0]
   let nd2:=UN S2.dg.wf hp2 p02;rw[eb2] at nd2;let a1:=yO.mp nd2;let z3:=z2.down p02 eb2 (λy=>a1.2.2 q' y q' zX Z) (yQ.mp a1.2.1).1;rw[rl,rm] at z3;let cn2:Cn X2 r q' (p::up) (↑l::ps) (A0++ZP X.ts l) (ZP X.ts m++B0):=#[rd2,λi hi e=>by
    rcases zU.mp hi with y|y
    .cases rd2 with
     |up _ a _ _=>erw[y,a] at e
    .show cn1.top i y (by rwa[<-av2 i y,e]),z3]
   let f2:∀ b,U b->hJ X2.ts b=hJ X.ts b:=λb hb=>by
    rw['œ'.2.2 λy=>S1.dg.free rd1 (cn1.ro ⋯) b y hb,e1]
   let nN:∀ b∈N',hJ X2.ts b=hJ X.ts b:=λb hb=>by
    let#[y1,y2]:=pc.low wf c1 b hb;show(lvb b y1 () λy=>by rw[y] at y2;lia).1
   let G:=G1|||G2;let mt:Z1 H H2:=G.tups S.sh;show hk6 _ H2 X2 lk D ls2 us' u U g o r q' l' c (p::up) (↑l::ps) N' (A0++ZP X.ts l) (ZP X.ts m++B0) L' R' sd sd' W' ts0 _ _ x5 S2 cn2 (by rw[zN];lia) () (by rwa[gq,<-hxq,h0]) #v[gq,b3 h0] (by rwa[hl2.1,gq,<-hxq,m2]) (by rwa[hc2.1,gq,<-hxq,c2]) (pc.like nN) #v[hc2.1,hl2.1,f0] () (by rwa[gq,hl2.1,hc2.1,<-rx,U0]) 'Ă' (G.off _ _ oD hD) (Paired.mapP st' λp v y=>y.go G mt) (λp hp=>?_) () λH3 X3 ls3 G3 S3 er3 f3 tl3 ll3=>?_
   .rwa[e0 p (zS _ hp),(nN _ (pc.wn p hp)).symm]
   .show k H3 X3 ls3 _ (G|||G3) S3 ?_ (λb hb=>(f3 b hb)|||f2 b hb) (by rw[zN];lia) (by rw[zN];lia)
    rw[er3,gq,hl2.1,IW]
 .rename_i X lk D ls us U g o q x N L0 R0 sd W ts0
  let lw:=Paired.length hst;let wf:=S.dg.wf;let hx:=S.dg.own x zX;let hq:=S.dg.own q ⋯
  exists 1,D,us,Z,.inl (ZF.of hD),Z,_,Z;let#[dS,hS]:=S.sh.sh.self;obtain⟨u,us',eu⟩:∃ u us',us=u::us':=by
   cases us with
   |nil=>show gS (wP lw) (λy=>pt.hd.2 (by rw[y];rfl))
   |cons u us'=>show#[u,us',Z]
  subst eu
  cases pt with
  |leaf h0=>
   rename_i pl
   let l1:us'=[]:=uY.mp #v[lw.symm]
   subst l1;rw[aJ (congrArg V.int (by rfl))]
   obtain⟨t,fv,rfl,ht1,_⟩:XU X lk H ts0 (x,pl) u:=by cases hst with|cons a b=>show a
   let eb:=('Ť'.leaf h0).1;show Z2 #[1,X.S,dS,1,hS,Z,1,.inl #[D,_,(0),1,Z,ZF.of hD,Yf (j:=0) Z,_,_,_,1,Z,Zp.of ht1,Z,.mk S (λb hb=>by erw[eb] at hb) λH1 X1 G1 S1 e1 k1 l1 r1=>#[1,k H1 X1 ls _ G1 S1 ?_ (λb _=>by rw[e1]) (by rw[e1];lia) ()]]]
   rw[e1];cases sd<;>simp[XC]
  |stem h0 eb f0 pc=>
   rename_i sd' c l' W' N' L' R'
   let w1:1<=↑W':=by
    have:=pc.hd.2
    cases W' with
    |nil=>show gS Z this
    |cons=>show vE (yY _)
   rw[zN] at lw wn u6 t7 few;let l2:((↑(u::us'):Nat):Int)≠1:=by rw[zN] at lw⊢;lia
   rw[aI (λy=>l2 'ħ')];obtain⟨su,st'⟩:XU X lk H ts0 (x,if sd'=V' then 1 else 0) u/\Paired (XU X lk H ts0) W' us':=by cases hst with|cons a b=>show#[a,b]
   let ex:=e0 _ zX;let#[bl,spx,obl]:=su.sp #v[ex,h0]
   rw[ex] at spx;show Zq #[1,.inl #[D,_,(0),1,Z,ZF.of hD,Yf (j:=0) Z,.mk (b:=l') spx ?_ ?_]]
   .change (X^x).bs[_]?\l';rw[eb];cases sd'<;>rfl
   show hk _ H X lk D bl ls _ U g (q::o) x (if sd'=V' then 1 else 0) u .non (.int (q:Nat)) (.int (l':Nat)) S h0 hD Z spx oD obl λH1 X1 G1 S1 e1 k1 l1 r1 x5=>?_
   let mc:c∈(X^x).bs:=by rw[eb];cases sd'<;>simp
   let ml:l'∈(X^x).bs:=by rw[eb];cases sd'<;>simp
   let#[c1,c2,_]:=Xh wf hx mc;let#[m1,m2,_]:=Xh wf hx ml;let rx:(X^x).rows=XC sd' (X^l').rows (X^c).rows:=by
    rw[show (X^x).rows=ZP X.ts (X^x).bs from ('Ť'.stem h0).2.2.2,eb];cases sd'<;>simp[ZP,XC]
   let S1:Sd jT jU H1 X1 lk ls U g (q::l'::c::o):=#[S1.sh,S1.dg.perm (by
    let pm:((X^x).bs++q::o).Perm (q::((X^x).bs++o)):=tM;show pm|||yP.cons _ ?_;rw[eb];cases sd'
    .show yP.swap _ _ _
    .show yP.refl _)]
   show#[2,Zq ?_];rw[<-G1.S];show#[3,.root S1 (by rw[e1];lia) () λH2 X2 ls2 q' G2 S2 tp2 gq kp2 tl2 ll2=>?_]
   rw[<-G2.S];rw[e1] at gq tl2;let S2:Sd jT jU H2 X2 lk ls2 U g (l'::c::q'::o):=#[S2.sh,S2.dg.perm (show (q'::([l',c]++o)).Perm ([l',c]++q'::o) from tM.symm)];let lvb:∀ b∈X.lv,b≠x->hJ X2.ts b=hJ X.ts b/\b∈X2.lv:=λb hb hn=>by
    let b1:=k1 b hb hn;rwa[(kp2 b b1).2,e1,#[Z,(kp2 b b1).1]]
   let hc2:=lvb c c1 (λy=>by rw[y] at c2;lia)
   let hl2:=lvb l' m1 (λy=>by rw[y] at m2;lia)
   let cn2:Cn X2 q' q' [] [] [] []:=#[.top (S2.dg.own q' ⋯) tp2,λi hi _=>zV.mp hi,.root]
   let f2:∀ b,U b->hJ X2.ts b=hJ X.ts b:=λb hb=>by
    rw['œ'.2,e1]
   let nN:∀ b∈N',hJ X2.ts b=hJ X.ts b:=λb hb=>by
    let#[y1,y2]:=pc.low wf c1 b hb;show(lvb b y1 λy=>by rw[y] at y2;lia).1
   let G:=G1|||G2;let mt:Z1 H H2:=G.tups S.sh;show hk6 _ H2 X2 lk D ls2 us' u U g o q' q' l' c [] [] N' [] [] L' R' sd sd' W' ts0 _ _ x5 S2 cn2 (by rw[sQ];lia) () (by rwa[gq,<-hxq,h0]) #v[gq,b3 h0] (by rwa[hl2.1,gq,<-hxq,m2]) (by rwa[hc2.1,gq,<-hxq,c2]) (pc.like nN) #v[hc2.1,hl2.1,f0] () (by rwa[gq,hl2.1,hc2.1,<-rx,uQ,zC,U0]) 'Ă' (G.off _ _ oD hD) (Paired.mapP st' λp v y=>y.go G mt) (λp hp=>?_) () λH3 X3 ls3 G3 S3 er3 f3 tl3 ll3=>?_
   .rwa[e0 p (zS _ hp),(nN _ (pc.wn p hp)).symm]
   .show k H3 X3 ls3 _ (G|||G3) S3 ?_ (λb hb=>(f3 b hb)|||f2 b hb) (by rw[zN];lia) (by rw[zN];lia)
    rw[er3,gq,hl2.1,IW,uQ,zC]
theorem BN(a:Zb K mg "hand_down" Q6 TN)(T:YM mg)(L:'d')(e:'v')(j:'T')(i:'k')(g:'L')(k:'9')(d:'æ'):∀ n,ZA P w K mg jW (n+13) "hand_down" TN (YR n jT jU)
 |0=>a.of λ_ _ _=>Ij λl H Q E h=>by
  cases h with
  |stem c _ _ _ _ _ _ _ b=>
   have:=b.hd.2;rw[wP (Nat.le_zero.mp c)] at this;show this Z
  |root c _ _ _ _ b=>
   have:=b.hd.2;rw[wP (Nat.le_zero.mp c)] at this;show this Z
 |n+1=>a.of λ_ _ F=>qp F T L e j i g k d (BN a T L e j i g k d n)
inductive Wm(jT jU:aj):Sp
 |mk{X:ZV}{lk D:aj}{ls us:je}{U:Nat->Prop}{g:Nat->Nat}{o:jj}{x:Nat}{N:jj}{L R:jl}{W:jq}{ts0:jk}{H:Hp}{Q:VK}{E:XK}:↑W<=20->Sd jT jU H X lk ls U g (x::o)->↑X.ts+↑W<=780->VT X.ts x W N L R->H D\.lst us->Ze X lk D->Paired 'Ŧ' W us->(∀ p∈W,hJ ts0 p.1=hJ X.ts p.1)->↑ls+3*↑W<=360000 ->
  (∀(H':Hp)(X':ZV)(ls':je)(r':jp),Go lk H H' X X'->Sd jT jU H' X' lk ls' U g (r'.toList++o)->Yw X'.ts r'=L++R->(∀ b,U b->hJ X'.ts b=hJ X.ts b)->↑X'.ts<=↑X.ts+↑W->↑ls'<=↑ls+3*↑W->Q (YS r') H') ->
  Wm jT jU [!X.S,.non,.non,!D] H Q E
theorem Bf(F0:'Ģ')(T:YM mg)(L:'d')(DB:'v')(DN:'T')(DH:'k')(DG:'L')(DR:'/'):-ZI ZJ 34 f fd TN (Wm jT jU):=by
 show F0.ok VX (λvs H Q E h=>(by cases h;rfl)) (λa0 A B s H vs Q E hr h=>?_)
 let nd:=VX.nd;let c0:=hr.mono (show 1<=33 by lia)
 let a4:=hr.mono (show 2<=33 by lia)
 let M:=hr.mono (show 5<=33 by lia)
 let#[tt,ht,hk]:=Cm (jT:=jT) (jU:=jU) (P:=P) (w:=w) (K:=K) (jW:=jW) (f:=f) (cdv:=a0) (A:=A) (outer:=B) (s:=s) (Hs:=H) (E:=E) L DB DH DG M
  (ZK (Z4 (Q0 (M4 (pv 2))) (ZR (Zh (Zd DR hr (Uv (pv 0) OF (pv 4) 'Š')))) Z6) U4)
 intro Xc;show#[_,ZK (Z4 (YO Vm (YA XG Z T.len XE (ZQ (pv 3))) ZM (Z9 _)) (ZK (YF (Zs (E:=E0) (pv 0) L.cS DG M Zn (ZQ (XL K (Zy K (pv 3) ZM) ZM)))) (ZR (Zh (pv 2)))) Z6)
  (ZK (Zf 4 nd (Zd DN a4 (ZQ 'Q'))) ht),?_]
 let#[wn,S,t7,pt,J,oD,z,e0,a1,k]:=h;rename_i X R D ls us U g o x N L0 R0 W m
 let lw:=Paired.length z;let Y:=S.dg.wf;let O:=S.dg.own x zX;exists 1,D,us,Z,.inl (ZF.of J),Z,_,Z;let#[dS,hS]:=S.sh.sh.self;obtain⟨u,i,eu⟩:∃ u i,us=u::i:=by
  cases us with
  |nil=>show gS (wP lw) (λy=>pt.hd.2 (by rw[y];rfl))
  |cons u i=>show#[u,i,Z]
 subst eu
 cases pt with
 |leaf I=>
  rename_i pl
  let l1:i=[]:=uY.mp #v[lw.symm]
  subst l1;rw[aJ (congrArg V.int (by rfl))]
  obtain⟨t,fv,rfl,a5,_⟩:XU X R H m (x,pl) u:=by cases z with|cons a b=>show a
  let r:=((Y x O).leaf I).1;show Z2 #[1,X.S,dS,1,hS,Z,1,.inl #[D,_,(0),1,Z,ZF.of J,Yf (j:=0) Z,_,_,_,1,Z,Zp.of a5,Z,.mk S (λb hb=>by erw[r] at hb) λH1 X1 n q l k1 l1 r1=>#[1,k H1 X1 ls Y' n q Z (λb _=>by rw[l]) (by rw[l];lia) ()]]]
 |stem I r f0 pc=>
  rename_i d c F W' N' L' R'
  let w1:1<=↑W':=by
   have:=pc.hd.2
   cases W' with
   |nil=>show gS Z this
   |cons=>show vE (yY _)
  rw[zN] at lw wn t7 a1;let l2:((↑(u::i):Nat):Int)≠1:=by rw[zN] at lw⊢;lia
  rw[aI (λy=>l2 'ħ')];obtain⟨su,a8⟩:XU X R H m (x,if d=V' then 1 else 0) u/\Paired (XU X R H m) W' i:=by cases z with|cons a b=>show#[a,b]
  let ex:=e0 _ zX;let#[bl,C,a7]:=su.sp #v[ex,I]
  rw[ex] at C;show Zq #[1,.inl #[D,_,(0),1,Z,ZF.of J,Yf (j:=0) Z,.mk (b:=F) C ?_ ?_]]
  .change (X^x).bs[_]?\F;rw[r];cases d<;>rfl
  show hk _ H X R D bl ls _ U g o x (if d=V' then 1 else 0) u .non .non (.int (F:Nat)) S I J Z C oD a7 λH1 X1 n q l k1 l1 r1 x5=>?_
  let mc:c∈(X^x).bs:=by rw[r];cases d<;>simp
  let ml:F∈(X^x).bs:=by rw[r];cases d<;>simp
  let#[c1,c2,_]:=Xh Y O mc;let#[m1,m2,_]:=Xh Y O ml;let rx:(X^x).rows=XC d (X^F).rows (X^c).rows:=by
   rw[show (X^x).rows=ZP X.ts (X^x).bs from ((Y x O).stem I).2.2.2,r];cases d<;>simp[ZP,XC]
  let q:Sd jT jU H1 X1 R ls U g (c::F::o):=#[q.sh,q.dg.perm (by
   rw[r];cases d
   .show yP.refl _
   .show yP.swap _ _ _)]
  let a2:=n.fr _ _ oD J;let mt:Z1 H H1:=n.tups S.sh;show#[2,Z2 #[4,D,1,ZF.of a2,λD4 n4=>?_]];rw[GU];let#[H4,eU,g4,a3]:=Yo n4 (.lst i);rw[eU,<-n.S];show .root (sd:=d) (ts0:=m) () (q.same g4) () (by rw[l];lia) (by rw[l];lia) #v[l,pc] #v[l,f0] (by rwa[l,<-rx,(Y x O).up]) a3 (q.sh.new n4) (Paired.mapP a8 λp v y=>y.go (n|||Go.same g4) λa ys e=>g4 _ _ (mt a ys e)) (λp hp=>#v[l,e0 p (zS _ hp)]) () λH5 X5 a6 r5 G5 S5 G f5 a9 c3=>?_
  rw[l] at G a9;show k H5 X5 a6 (Z' r5) ((n|||Go.same g4)|||G5) S5 ?_ (λb hb=>by rw[f5 b hb,l]) (by rw[zN];lia) (by rw[zN];lia)
  change (X5^r5).rows=_;rw[G,IW]
section
variable{X X1 X2:ZV}{r p0 p q g x t:Nat}{up0 ps0 l1 m1 bq:jj}{A0 B0:jl}{sq sx:Bool}
structure PR(X:ZV)(r p0 p q g x t:Nat)(up0 ps0 l1 m1 bq:jj)(A0 B0:jl)(sq sx:Bool):Prop where
 wf:WF X.lv X.ts
 hr:r∈X.lv
 z0:YV X.ts r (p0::up0) ps0 A0 B0
 h0:(X^p0).h≠0
 eb:(X^p0).bs=l1++(if sq=V' then [q,p] else [p,q])++m1
 hp:(X^p).h≠0
 ep:(X^p).bs=(if sx=V' then [g,x] else [x,g])
 eq:(X^q).bs=(if sq=V' then bq++[t] else t::bq)
 l3:↑bq=3
theorem PR.nums(e:PR X r p0 p q g x t up0 ps0 l1 m1 bq A0 B0 sq sx):p0∈X.lv/\p∈X.lv/\q∈X.lv/\(X^p).h+1=(X^p0).h/\(X^q).h+1=(X^p0).h/\q∉l1/\p∉l1/\q∉m1/\p∉m1/\p≠q:=by
 let a:=(e.z0.facts e.wf e.hr Z).1;let f:=UN e.wf a e.h0;let b:=((e.wf p0 a).stem e.h0).2.2.1;let c:p∈(X^p0).bs:=by rw[e.eb];cases sq<;>simp
 let d:q∈(X^p0).bs:=by rw[e.eb];cases sq<;>simp
 rw[e.eb] at f;exists a,(b p c).1,(b q d).1,(b p c).2,(b q d).2;cases sq<;>simp[yO,yQ] at f<;>grind
theorem PR.one(e:PR X r p0 p q g x t up0 ps0 l1 m1 bq A0 B0 sq sx):(∃ h A B,YV X.ts r (q::p0::up0) h A B/\(X^r).rows=A++(X^q).rows++B/\A=A0++ZP X.ts (if sq=V' then l1 else l1++[p])/\B=ZP X.ts (if sq=V' then p::m1 else m1)++B0):=by
 let#[f,i,j,_,_,b,k,c,l,d]:=e.nums;cases sq
 .let a:(X^p0).bs=(l1++[p])++q::m1:=by rw[e.eb];simp
  let z:=e.z0.down e.h0 a (by simp[b];show Ne.symm d) c
  show#[_,_,_,z,(z.facts e.wf e.hr Z).2.2.1,Z,Z]
 .let a:(X^p0).bs=l1++q::(p::m1):=by rw[e.eb];simp
  let z:=e.z0.down e.h0 a b (by simp[c];show Ne.symm d)
  show#[_,_,_,z,(z.facts e.wf e.hr Z).2.2.1,Z,Z]
theorem PR.upn(e:PR X r p0 p q g x t up0 ps0 l1 m1 bq A0 B0 sq sx):∀ b∈p0::up0,(X^p0).h<=(X^b).h:=λb a=>by
 rcases zU.mp a with y|y
 .rwa[y,zY _]
 .show yE ((e.z0.facts e.wf e.hr Z).2.1 b y).2
theorem PR.all(e:PR X r p0 p q g x t up0 ps0 l1 m1 bq A0 B0 sq sx):(X^p).rows=(if sx=V' then (X^g).rows++(X^x).rows else (X^x).rows++(X^g).rows)/\(X^q).rows=(if sq=V' then ZP X.ts bq++(X^t).rows else (X^t).rows++ZP X.ts bq)/\(X^r).rows=A0++(ZP X.ts l1++(if sq=V' then (X^q).rows++(X^p).rows else (X^p).rows++(X^q).rows)++ZP X.ts m1)++B0:=by
 let#[a,c,d,l,m,_]:=e.nums;let f:(X^p).rows=ZP X.ts (X^p).bs:=((e.wf p c).stem e.hp).2.2.2;let b:(X^q).h≠0:=by have:=e.hp;lia
 let i:(X^q).rows=ZP X.ts (X^q).bs:=((e.wf q d).stem b).2.2.2;let j:(X^p0).rows=ZP X.ts (X^p0).bs:=((e.wf p0 a).stem e.h0).2.2.2;let k:=(e.z0.facts e.wf e.hr Z).2.2.1;exists ?_,?_
 .rw[f,e.ep];cases sx<;>simp[ZP]
 .rw[i,e.eq];cases sq<;>simp[ZP]
 .rw[k,j,e.eb];cases sq<;>simp[ZP]
theorem PR.two(e:PR X r p0 p q g x t up0 ps0 l1 m1 bq A0 B0 sq sx)(C:KQ X X1 r q (p0::up0) bq D):∃ I,YV X1.ts r (p::p0::up0) I (A0++(ZP X.ts l1++(if sq=V' then ZP X.ts bq else []))) ((if sq=V' then [] else ZP X.ts bq)++ZP X.ts m1++B0):=by
 let#[l,L,M,J,K,G,n,H,o,s]:=e.nums;let B:=e.upn;let u:q∉p0::up0:=λy=>by have:=B q y;lia
 let j:YV X1.ts r (p0::up0) ps0 A0 B0:=e.z0.keep e.wf e.hr Z (λi F=>#[C.hh i,C.sh i λy=>u (y▸zS _ F)]) λb _ a m=>by
  rw[C.old b λy=>?_];rcases zU.mp y with y|y
  .rw[y] at a;lia
  .show m y
 let c:(X1^p0).bs=(X^p0).bs:=C.sh p0 λy=>u (y▸zX);let d:(X1^p0).h≠0:=#v[C.hh,e.h0]
 let E:=((e.wf p0 l).stem e.h0).2.2.1;let f:∀ b∈(X^p0).bs,b≠q->(X1^b).rows=(X^b).rows:=λb a m=>by
  rw[C.old b λy=>?_];rcases zU.mp y with y|y
  .show m y
  .have:=B b y;have:=(E b a).2;lia
 let v:ZP X1.ts l1=ZP X.ts l1:=US λb a=>f b (by rw[e.eb];simp[a]) λy=>G (y▸a)
 let w:ZP X1.ts m1=ZP X.ts m1:=US λb a=>f b (by rw[e.eb];simp[a]) λy=>H (y▸a)
 let A:(X1^q).rows=ZP X.ts bq:=by rw[C.at_];rfl
 cases sq
 .let k:(X1^p0).bs=l1++p::(q::m1):=by rw[c,e.eb];simp
  let z:=j.down d k n (by simp[o];show s)
  exists ↑l1::ps0;rw[WV,v,w,A] at z;simpa using z
 .let k:(X1^p0).bs=(l1++[q])++p::m1:=by rw[c,e.eb];simp
  let z:=j.down d k (by simp[n];show s) o
  exists ↑(l1++[q])::ps0;rw[QI,WV,v,w,A] at z;simpa [ZP] using z
end
inductive Wo(jT jU:aj):Sp
 |mk{X:ZV}{lk:aj}{ls:je}{U:Nat->Prop}{g0:Nat->Nat}{o:jj}{r p0 p q g x t:Nat}{up0 ps0 l1 m1 bq:jj}{A0 B0:jl}{sq sx:Bool}{H:Hp}{Q:VK}{E:XK}:Sd jT jU H X lk ls U g0 (r::o)->PR X r p0 p q g x t up0 ps0 l1 m1 bq A0 B0 sq sx->Rd X.lv X.av X.ho p (p::p0::up0)->Rd X.lv X.av X.ho q (q::p0::up0)->(∀ i∈p0::up0,X.av i=[]->i=r)->↑up0<=600->↑X.ts<=790->↑ls<=370000 ->
  (∀(H':Hp)(X':ZV)(ls':je)(ps:jj)(A B:jl)(l m:jj),Go lk H H' X X'->Sd jT jU H' X' lk ls' U g0 (x::r::o)->Cn X' r p (p0::up0) ps A B->(X'^p).bs=l++g::m->(∀ b,(X^b).h<=(X^x).h->hJ X'.ts b=hJ X.ts b)->(∀ b,(X'^b).h=(X^b).h)->(X^r).rows=A++ZP X'.ts l++XC sx (X^g).rows (X^x).rows++(ZP X'.ts m++B)->X'.lv=X.lv->↑X'.ts=↑X.ts->(∀ b,U b->hJ X'.ts b=hJ X.ts b)->↑ls'<=↑ls+1->Q .non H') ->
  Wo jT jU [!X.S,.int (p:Nat),.int (g:Nat),.int (q:Nat)] H Q E
theorem oX(F0:Zl K "exchange" "exchange" JN f fd)(L:'d')(DL:'j')(DA:'Ľ')(DC:'A'):-ZI ZJ 12 f fd SH (Wo jT jU):=by
 show F0.ok Pm 'a' (λcdv A outer s H vs Q E hr h=>?_)
 induction h
 rename_i X lk ls U g0 o r p0 p q g x t up0 ps0 l1 m1 bq A0 B0 sq sx H Q E S e rdp rdq top u7 t7 few k
 let nd:=Pm.nd;let hr2:=hr.mono (show 2<=11 by lia)
 let hr8:=hr.mono (show 8<=11 by lia)
 intro Xc;show#[_,ZK (Zf 4 nd (XL K (Zs (E:=E0) (pv 0) L.cS DL hr2 Zn (ZQ (pv 3))) ZM))
  (ZK (Na (i:=5) nd Z 'Ē' (Mw (Xk (Zd DA hr8 (Wf (pv 0) (pv 3) (pv 1)))) (Zy K (pv 4) 'n') (Zy K (pv 4) ZM)))
  (ZK (YF (Zs (E:=E0) (pv 0) L.cS DC hr Zn (Zu (pv 3) (Vt [5] ["lent"] Z 'ý' (λ_ _ _ _ _=>Oy (YO Nh (pv 0) (pv 1) Z)) (λ_ _ _ _ _=>pv 0) #[Z,.inl Z,Z,trivial]))))
  (ZR (YF (Zs (E:=E0) (pv 0) L.cS DC hr Zn (Zu (pv 1) (Mw (Xk (Zd DA hr8 'ŋ')) (Yy (Zu (pv 5) (pv 2))) (Yy (Zu (pv 2) (pv 5)))))))))),?_]
 let#[hp0,hp,hq,e1,e2,n1,n2,n3,n4,n5]:=e.nums;let#[a1,a2,a3]:=e.all;let#[ps1,A1,B1,z1,er1,eA1,eB1]:=e.one;let R:=S.sh;let wf:=e.wf;let hq0:(X^q).h≠0:=by have:=e.hp;lia
 let lq:↑(X^q).bs=4:=by rw[e.eq];have:=e.l3;cases sq<;>simp[this]
 let ndq:=UN wf hq hq0;let tb:t∉bq:=λy=>by rw[e.eq] at ndq;cases sq<;>simp[yO] at ndq<;>grind
 let fl:(X^q).bs.filter (λb=>gU (b≠t))=bq:=by
  let fb:bq.filter (λb=>gU (b≠t))=bq:=wI.mpr λb hb=>aJ λy=>tb (y▸hb);rw[e.eq];cases sq
  .change tX _ (t::bq)=bq;rw[rA ⋯,fb]
  .change tX _ (bq++[t])=bq;rw[yB,fb];simp
 let Ur:Up (X^r).rows:=(wf r e.hr).up;let#[dS,hS]:=R.sh.self;exists 1,X.S,dS,1,hS,Z,1,X,lk,↑X.ts,ls,q,Z,R.q,hq,by lia
 intro H1 tp1 bl us1 fr1 R1 ht1 nl1 hl1 _ w1;let w1:=w1 hq0;subst w1;let S1:Sd jT jU H1 X lk (ls++[.int (q:Int)]) U g0 (r::o):=#[#[R1.sh,R.lt,R.keys,R.val,R.len,R1.tw,R.own,R.two],S.dg];let R1':=S1.sh;let G1:Go lk H H1 X X:=.looks fr1;exists tp1,_,_,1,Z,Zp.of ht1,Z;let sqe:(Zw (X^q)).lo.lt (Zw (X^p)).lo=sq:=by
  let nq:=(wf q hq).ne;let np:=(wf p hp).ne;rw[a3] at Ur;cases sq
  .show Q9 _ _ (MX np nq (UD Ur ((('N'|||yF _ _)|||yG _ _)|||(yF A0 _).trans (yG _ B0))))
  .show MX nq np (UD Ur ((('N'|||yF _ _)|||yG _ _)|||(yF A0 _).trans (yG _ B0)))
 show#[3,.mk R1' wf hq hp λH2 s2=>#[sq,by rw[sqe],?_]]
 apply RE
 .intro go;show UX (λc=>?_) (λc=>?_)
  .let eq:=e.eq;rw[aM c] at eq;show#[1,(1),Z,.inl #[bl,_,-1,.int (t:Nat),Z,Z,ZF.of (s2 _ _ hl1),#v[eq,PN bq t],go]]
  .let eq:=e.eq;rw[aK c] at eq;show#[1,.inl #[bl,_,(0),.int (t:Nat),Z,Z,ZF.of (s2 _ _ hl1),#v[eq,Yf (j:=0) Z],go]]
 let R2:=R1'.same s2;let hl2:=s2 _ _ hl1;let#[dS2,hS2]:=R2.sh.self;show#[1,X.S,dS2,1,hS2,Z,2,bl,Z,#[_,ZF.of hl2],Cv (n:=t) () hl2 (λHq j Rq hj sq' hR=>#[2,Z,1,hR]) λD3 H3 s3 nD3 hD3=>?_]
 rw[fl] at hD3;let S3:=(S1.same s2).same s3;let U1:Up (A1++ZP X.ts bq++B1):=by
  rw[er1] at Ur;show UD Ur (((yN.refl A1).append ?_).append (yN.refl B1));rw[a2];cases sq
  .show yF _ _
  .show yG _ _
 let bqm:∀ b∈bq,b∈(X^q).bs:=λb hb=>by rw[e.eq];cases sq<;>simp[hb]
 let b3q:=((wf q hq).stem hq0).2.2.1;let nBq:Y1 X.ts q bq=[]:=uA.mpr λb hb=>gS (bqm b (yH.mp hb).1) (of_decide_eq_true (yH.mp hb).2);let gBq:XH X.ts q bq=[t]:=by
  unfold XH;rw[e.eq];let fb:bq.filter (λb=>gU (b∉bq))=[]:=wX.mpr λb hb=>by simp[hb]
  cases sq
  .change tX _ (t::bq)=[t];rw[uZ #v[tb],fb]
  .change tX _ (bq++[t])=[t];rw[yB,fb,uZ #v[tb]]
   rfl
 let topq:∀ i∈q::p0::up0,X.av i=[]->i=r:=λi hi ei=>by
  rcases zU.mp hi with y|y
  .cases rdq with
   |up _ a _ _=>erw[y,a] at ei
  .show top i y ei
 show .mk (X:=X) (rest:=r::o) S3 zX #[rdq,topq,z1] (by rw[zN];lia) () hq0 hD3 (λb hb=>b3q b (bqm b hb)) (by rw[e.l3];lia) (by rw[e.l3];lia) #v[nBq,yP.refl _] U1 λH4 X4 G4 S4 C4 cn4 f4=>?_
 rw[gBq] at S4;let R4:=S4.sh;let G14:Go lk H H4 X X4:=((G1|||Go.same s2)|||Go.same s3)|||G4;let#[ps5,z5]:=e.two C4;let un:=e.upn;let mg:g∈(X^p).bs:=by rw[e.ep];cases sx<;>simp
 let mx:x∈(X^p).bs:=by rw[e.ep];cases sx<;>simp
 let mt:t∈(X^q).bs:=by rw[e.eq];cases sq<;>simp
 let b3p:=((wf p hp).stem e.hp).2.2.1;let pn:p∉q::p0::up0:=λy=>by
  rcases zU.mp y with y|y
  .show n5 y
  .have:=un p y;lia
 let lowN:∀ b,(X^b).h+1=(X^p).h->hJ X4.ts b=hJ X.ts b:=λb hb=>C4.old b λy=>by
  rcases zU.mp y with y|y
  .rw[y] at hb;lia
  .have:=un b y;lia
 let ht':=(b3q t mt).2;let eg:=lowN g (b3p g mg).2;let et:=lowN t ()
 let ep:=C4.old p pn;let dj:∀{ρ:ZW},ρ∈(X^q).rows->ρ∈(X^p).rows->False:=fun{ρ} h1 h2=>by
  let W:=Ur;rw[a3] at W;let W2:=UD W ((yF A0 _)|||yG _ B0);let W3:=UD W2 ((yF (ZP X.ts l1) _)|||yG _ (ZP X.ts m1));cases sq
  .show Ly W3 h2 h1
  .show Ly W3 h1 h2
 let inq:∀ ρ∈(X^t).rows,ρ∈(X^q).rows:=λρ h=>by rw[a2];cases sq<;>simp[h]
 let inp:∀ b∈(X^p).bs,∀ ρ∈(X^b).rows,ρ∈(X^p).rows:=λb hb ρ h=>by
  rwa[show (X^p).rows=ZP X.ts (X^p).bs from ((wf p hp).stem e.hp).2.2.2,xT.mpr #[b,hb,h]]
 let#[ρ,ρs,eρ]:=sR (wf t (b3q t mt).1).ne;let mρ:ρ∈(X^t).rows:=#v[eρ,zX]
 let tg:t≠g:=λy=>dj (inq ρ mρ) (inp g mg ρ (by rwa[<-y,mρ]))
 let xt:x≠t:=λy=>dj (inq ρ mρ) (inp x mx ρ #v[y,mρ])
 let xg:x≠g:=λy=>by
  have:=UN wf hp e.hp;rw[e.ep,y] at this;cases sx<;>simp at this
 let#[dS4,hS4]:=R4.sh.self;rw[show X.S=X4.S from G4.S.symm];let wf4:=S4.dg.wf;let p4:p∈X4.lv:=#v[C4.lv,hp]
 let g4:g∈X4.lv:=#v[C4.lv,(b3p g mg).1]
 let t4:t∈X4.lv:=#v[C4.lv,(b3q t mt).1]
 let U2:Up ((A0++(ZP X.ts l1++(if sq=V' then ZP X.ts bq else [])))++ZP X4.ts (if sq=V' then [t,g] else [g,t])++((if sq=V' then [] else ZP X.ts bq)++ZP X.ts m1++B0)):=by
  rw[a3,a2,a1] at Ur;show UD Ur ?_;let sg:(X^g).rows.Sublist (if sx=V' then (X^g).rows++(X^x).rows else (X^x).rows++(X^g).rows):=by
   cases sx
   .show yF _ _
   .show yG _ _
  cases sq
  .simp only[wS,if_false,WV,et,eg,show ZP X4.ts []=[] from Z,zC,yT,uQ];show(yN.refl _).append ('N'.append (sg.append 'N'))
  .simp only[if_true,WV,et,eg,show ZP X4.ts []=[] from Z,zC,yT,uQ];show(yN.refl _).append ('N'.append ('N'.append ('N'.append (sg.append 'N'))))
 let sq2:(Zw (X4^t)).lo.lt (Zw (X4^g)).lo=sq:=by
  let nt:=(wf4 t t4).ne;let ng:=(wf4 g g4).ne;let U3:=UD U2 ((yF _ _)|||yG _ _);cases sq
  .show Q9 _ _ (MX ng nt (by simpa [ZP] using U3))
  .show MX nt ng (by simpa [ZP] using U3)
 show#[1,X4.S,dS4,1,hS4,Z,4,.mk R4 wf4 t4 g4 λH5 s5=>#[sq,by rw[sq2],?_]]
 let lvh:∀ b∈(if sq=V' then [t,g] else [g,t]),b=t\/b=g:=λb hb=>by cases sq<;>simp at hb<;>lia
 let fin:∀(D6:aj)(H6:Hp),ZE H5 H6->H6 D6\.lst (iN (if sq=V' then [t,g] else [g,t]))->VA jT jU [!X4.S,.int (p:Nat),!D6] H6 (λ_ H'=>Q .non H') E0:=λD6 H6 s6 hD6=>by
  let hpq:(X^p).h=(X^q).h:=()
  let rd4:Rd X4.lv X4.av X4.ho p (p::p0::up0):=rdp.keep λi hi=>#[#v[C4.lv,rdp.inn i hi],C4.hi i (by
   rcases zU.mp hi with y|y
   .rw[y];lia
   .have:=un i y;lia)]
  let av4:∀ i∈p::p0::up0,X4.av i=[]->i=r:=λi hi ei=>by
   rcases zU.mp hi with y|y
   .cases rd4 with
    |up _ a _ _=>erw[y,a] at ei
   .show top i y (by rwa[<-(C4.hi i (by have:=un i y;lia)).1,ei])
  let nB4:Y1 X4.ts p (if sq=V' then [t,g] else [g,t])=[t]:=by
   unfold Y1;rw[ep,e.ep];cases sq<;>cases sx<;>simp[tg,Ne.symm xt,xg]
  let gB4:XH X4.ts p (if sq=V' then [t,g] else [g,t])=[x]:=by
   unfold XH;rw[ep,e.ep];cases sq<;>cases sx<;>simp[Ne.symm tg,xt,xg]
  show .mk (X:=X4) (rest:=r::o) ((S4.same s5).same s6) ⋯ #[rd4,av4,z5] (by rw[zN];lia) (by rw[C4.len];lia) #v[C4.hh,e.hp] hD6 (λb hb=>?_) (by cases sq<;>show zY _) (by cases sq<;>simp) (by rw[nB4]<;>show yP.refl _) U2 λH7 X7 G7 S7 C7 cn7 f7=>?_
  .rcases lvh b hb with y|y
   .rwa[y,#[t4,by rw[C4.hh,C4.hh];lia]]
   .rwa[y,#[g4,by rw[C4.hh,C4.hh];show(b3p g mg).2]]
  .rw[gB4] at S7;let hx:=(b3p x mx).2;let low1:∀ b,(X^b).h<=(X^x).h->hJ X4.ts b=hJ X.ts b:=λb hb=>C4.old b λy=>by
    rcases zU.mp y with y|y
    .rw[y] at hb;lia
    .have:=un b y;lia
   let low2:∀ b,(X^b).h<=(X^x).h->hJ X7.ts b=hJ X.ts b:=λb hb=>by
    rw[C7.old b λy=>?_]
    .show low1 b hb
    .rcases zU.mp y with y|y
     .rw[y] at hb;lia
     .have:=un b y;lia
   let eb7:(X7^p).bs=(if sq=V' then [t,g] else [g,t]):=by rw[C7.at_];rfl
   let rt:(X7^t).rows=(X^t).rows:=by rw[low2 t ()]
   obtain⟨l7,m7,e7,er7⟩:∃ l7 m7,(X7^p).bs=l7++g::m7/\(X^r).rows=(A0++(ZP X.ts l1++(if sq=V' then ZP X.ts bq else [])))++ZP X7.ts l7++XC sx (X^g).rows (X^x).rows++(ZP X7.ts m7++((if sq=V' then [] else ZP X.ts bq)++ZP X.ts m1++B0)):=by
    cases sq
    .exists [],[t],eb7;rw[a3,a1,a2];simp[ZP,rt,XC]
    .exists [t],[],eb7;rw[a3,a1,a2];simp[ZP,rt,XC]
   show k H7 X7 _ _ _ _ l7 m7 ((G14|||Go.same (s5.trans s6))|||G7) S7 cn7 e7 low2 (λb=>(C7.hh b)|||C4.hh b) er7 (C7.lv|||C4.lv) (C7.len|||C4.len) (λb hb=>(f7 b hb)|||f4 b hb) ⋯
 show UX (λc=>?_) (λc=>?_)
 .exists 2,Yc;intro D6 n6;let#[H6,eU,g6,hD6]:=Yo n6 (.lst [.int (t:Nat),.int (g:Nat)]);rwa[eU,fin D6 H6 g6 (by rw[aM c];show hD6)]
 .exists 2,Yc;intro D6 n6;let#[H6,eU,g6,hD6]:=Yo n6 (.lst [.int (g:Nat),.int (t:Nat)]);rwa[eU,fin D6 H6 g6 (by rw[aK c];show hD6)]
theorem pL{cdv:ai}{A:ax}{outer:jt}{s:ak}{Hs:Hp}{E:XK}(DH:'/')(hr:ZX 34 (A.deeper (envOfC "without_leaf" (Zc MR) ‹s› f cdv))):
  ∃ t,WG (Wk ZJ P w K mg jW Df "without_leaf" (Zc MR) f cdv A outer s Hs E).nox ((Xs MR).drop 6) t/\∀(Q:YK)(H:Hp)(X:ZV)(i D n:aj)(M u:je)(U:Nat->Prop)(g:Nat->Nat)(o:jj)(r p q x d:Nat)(c nl up ps l m N:jj)(A B L R:jl)(O:Bool)(W:jq)(e:jk)(v4 v6:jf),
   Sd jT jU H X i M U g (x::r::o)->Cn X r p up ps A B->(X^p).h≠0->(X^p).bs=l++q::m->(X^x).h=(X^q).h->((X^x).h≠0->↑(X^q).bs<=3)->d<=↑W->↑up+↑W<=600->↑W<=20->↑X.ts+↑W<=780->↑M<=359900 ->
   VT X.ts x (W.drop d) N L R->Up (A++ZP X.ts l++XC O (X^q).rows (X^x).rows++(ZP X.ts m++B))->H D\.lst u->Ze X i D->Paired (XU X i H e) W u->(∀ p∈W.drop d,hJ e p.1=hJ X.ts p.1)->H n\.lst (iN c)->Ze X i n->c.head?\r->c=nl++[p] ->
   (∀(T:Hp)(z:ZV)(J:je),Go i H T X z->Sd jT jU T z i J U g (r::o)->(hJ z.ts r).rows=A++ZP X.ts l++XC O (X^q).rows (L++R)++(ZP X.ts m++B)->(∀ b,U b->hJ z.ts b=hJ X.ts b)->↑z.ts<=↑X.ts+↑W->↑J<=↑M+60->Q.rt (.int (r:Nat)) T) ->
   t Q [Z' !X.S,Z' !D,Z' (.int (d:Int)),Z' !n,v4,Z' (.int (q:Int)),v6] H:=by
 let G:=hr.mono (show 33<=34 by lia)
 show#[_,ZK (YF (Zd DH G (Uv (pv 0) 'Y' (pv 5) (QZ QY (pv 1) 'Ŏ' Q1))))
  (ZR (Zh 'Q')),λQ H X i D n M u U g o r p q x d c nl up ps l m N A0 B0 L0 R0 O W e v4 v6 S cn p0 eb a3 b3 a9 u6 c0 t7 a8 pt U0 hD oD I e0 F a6 hn en k=>?_]
 obtain⟨ns,Y⟩:∃ ns,c=r::ns:=by
  cases c with
  |nil=>cases hn
  |cons a l=>cases hn;show#[l,Z]
 let lw:=Paired.length I;show#[2,(1),Z,.inl #[n,_,-1,.int (p:Nat),Z,Z,ZF.of F,#v[en,PN nl p],4,D,u,Z,ZF.of hD,λD6 n6=>?_]]
 rw[mH u d ()]
 let#[H6,eU,C,a1]:=Yo n6 (.lst (u.drop d));rw[eU];show .stem (ts0:=e) (sd:=O) (W:=W.drop d) (by rw[yJ];lia) (S.same C) cn (by rw[yJ];lia) (by rw[yJ];lia) p0 eb a3 pt b3 U0 a1 (S.sh.new n6) (Paired.drop' d (Paired.mapP I λp v y=>y.go (Go.same C) (ZE.tups C))) e0 (by rw[yJ];lia) λH7 X7 a5 v G7 S7 a0 f7 a7 a4=>?_
 rw[yJ] at a7 a4;let a2:=G7.fr _ _ a6 (C _ _ F);show#[1,.inl #[n,_,(0),.int (r:Nat),Z,Z,ZF.of a2,#v[Y,Yf (j:=0) Z],k H7 X7 a5 ((Go.same C)|||G7) S7 a0 f7 () ()]]
theorem BO:∀{l c m d:jj},l++p::m=c++p::d->p∉l->p∉c->l=c/\m=d
 |[],[],_,_,h,_,_=>#[Z,by injection h]
 |[],a::c,_,_,h,_,n=>by injection h with h1 h2;show gS #v[h1,zX] n
 |a::l,[],_,_,h,n,_=>by injection h with h1 h2;show gS #v[h1,zX] n
 |a::l,b::c,_,_,h,n1,n2=>by
  injection h with h1 h2;let#[e,f]:=BO h2 (λy=>n1 (zS _ y)) (λy=>n2 (zS _ y));show#[by rw[h1,e],f]
inductive UG(jT jU:aj):Sp
 |mk{X:ZV}{lk D:aj}{ls us:je}{U:Nat->Prop}{g:Nat->Nat}{o:jj}{r:Nat}{W:jq}{H:Hp}{Q:VK}{E:XK}:Sd jT jU H X lk ls U g (r::o)->Dn X.ts r W->↑W<=20->↑X.ts+2*↑W<=770->↑ls<=358000->H D\.lst us->Ze X lk D->Paired (XU X lk H X.ts) W us ->
  (∀(H':Hp)(X':ZV)(ls':je)(r':jp)(A B:jl),Go lk H H' X X'->Sd jT jU H' X' lk ls' U g (r'.toList++o)->(X^r).rows=A++(hJ X.ts (W.getLastD (0,0)).1).rows++B->Yw X'.ts r'=A++B->(∀ b,U b->hJ X'.ts b=hJ X.ts b)->↑X'.ts<=↑X.ts+2*↑W->↑ls'<=↑ls+130->Q (YS r') H') ->
  UG jT jU [!X.S,!D] H Q E
theorem BZ(F0:Zl K "without_leaf" "without_leaf" MR f fd)(T:YM mg)(L:'d')(DF:-ZA 5 "first_that_goes" TW (Wq jT jU))(DR:-ZA 34 "hand_down" TN (Wm jT jU))(DH:'/')(DW:'S')(DB:'v')(DN:'T')(DC:'A')(DO:'9')(DX:-ZA 12 "exchange" SH (Wo jT jU)):-ZI ZJ 35 f fd TW (UG jT jU):=by
 show F0.ok NG 'a' (λcdv A o7 s H vs Q E hr h=>?_)
 induction h
 rename_i X lk D ls us U g0 o r W H Q E S d t8 t7 few hD oD o2 q
 let nd:=NG.nd;let hr1:=hr.mono (show 1<=34 by lia)
 let s7:=hr.mono (show 2<=34 by lia)
 let hr5:=hr.mono (show 5<=34 by lia)
 let s5:=hr.mono (show 13<=34 by lia)
 let s4:=hr.mono (show 11<=34 by lia)
 let i9:=hr.mono (show 12<=34 by lia)
 let#[t0,m0]:=T.few;let#[tt,ht,hk]:=pL (jT:=jT) (jU:=jU) (P:=P) (w:=w) (K:=K) (jW:=jW) (f:=f) (cdv:=cdv) (A:=A) (outer:=o7) (s:=s) (Hs:=H) (E:=E) DH hr;intro Xc;show#[_,ZK (Na (i:=2) nd Z 'Ē' (Zd DF hr5 (Zu (pv 0) (pv 1))))
  (ZK (Z4 'Ş' (ZR (Zh (Zd DR hr (Uv (pv 0) OF OF (pv 1))))) Z6)
  (ZK (Zf 3 nd (Zd DW s5 (Zu (pv 0) (QZ QY (pv 1) Q1 'Ŏ'))))
  (ZK (Zf 4 nd (Zd DB hr1 'D'))
  (ZK (Zf 5 nd (Zd DN s7 'D'))
  (ZK (Z4 (YO U9 'm' (Xp (v:=.int 2) Z m0 #[_,Z]) (Z9 _))
   (ZR (YF (Zs (E:=E0) (pv 0) L.cS DC s4 Zn (Zu 'Y' (Vt [1,2] ["steps","first"] Z 'ý' (λ_ _ _ _ _=>Oy (YO Nh (pv 0) (XL K (Zy K (pv 1) (pv 2)) ZM) Z)) (λ_ _ _ _ _=>pv 0) #[Z,.inl Z,Z,Z,.inl Z,Z,trivial])))))
   (ZK (Zf 6 nd (Zd DO i9 (Wf (pv 0) 'Y' (Zd DN s7 'D'))))
   (ZR (YF (Zd DX i9 (Uv (pv 0) 'Y' (pv 5) (pv 6))))))) ht))))),?_]
 let lw:=Paired.length o2;let J:=S.dg.wf;let R:=S.sh;let a0:=S.dg.own r zX;let w1:1<=↑W:=by let#[_,_,e]:=d.ne;rw[e];simp
 let wy:=zw J a0 d;show#[2,.mk R J hD oD o2 wy w1 () λH1 ls1 B G1 R1 f1 fr=>#[1,Z,1,?_]]
 let m1:=G1.tups R;let S1:Sd jT jU H1 X lk ls1 U g0 (r::o):=#[R1,S.dg];let i1:=G1.fr _ _ oD hD;let c7:=Paired.mapP o2 λ_ _ z=>XU.go z G1 m1;by_cases f0:B=0
 .subst f0;let#[N,L0,R0,pt,ndN,hN]:=FD J a0 fr (by show d)
  let er:=pt.rows J a0;let e0:↑(W.drop 0)=↑W:=rfl;show Z2 #[2,.mk t8 S1 () pt i1 oD c7 (λ_ _=>rfl) () λH2 X2 ls2 r2 G2 S2 er2 f2 tl2 ll2=>?_]
  show q H2 X2 ls2 r2 L0 R0 (G1|||G2) S2 er er2 f2 () ()
 .rw[aI (λy=>f0 (by have:=V.int.inj y;lia))]
  let s2:=fr.1;let#[p,up,ps,Ap,Bp,dp,zp,eup]:=d.cut J a0 .root (B-1) ()
  rw[zC] at eup;let#[hp,fup,_,_]:=zp.facts J a0 Z;let M:=dp.two (by rw[yJ];lia)
  obtain⟨x,l,m,eb,xl,xm,dx,ew⟩:∃ x l m,(X^p).bs=l++x::m/\x∉l/\x∉m/\Dn X.ts x (W.drop B)/\sN W (B-1)=(p,↑l):=by
   let e1:W.drop (B-1)=sN W (B-1)::W.drop B:=by
    have:=xH (l:=W) (i:=B-1) ()
    rw[this,show B-1+1=B by lia]
    congr 1
    have:=N6 (W:=W) (p:=B-1) ()
    rw[zT ()] at this
    show yV.inj this
   rw[e1] at dp;generalize W.drop B=W2 at dp;generalize hs:sN W (B-1)=sp at dp
   cases dp with
   |leaf h=>show gS h M
   |stem _ eb n1 n2 d2=>show#[_,_,_,eb,n1,n2,d2,Z]
  let#[hx,hxh]:=Dn.br J hp M eb;let#[b2,b4,b3,rp]:=(J p hp).stem M;let hpl:↑l<↑(X^p).bs:=by rw[eb];simp
  let#[N,L0,R0,pt,ndN,hN]:=FD J hx fr dx;let er:=pt.rows J hx;rw[oQ s2] at er;let#[en,gl,gh]:=Hu J hp M hpl;generalize hg:UQ X.ts (p,↑l)=g at en gl gh;let ndb:=UN J hp M;let sp:=BV (by rwa[<-eb,en])
  let gx:g≠x:=λy=>by
   rcases sp with ⟨l',e⟩|⟨_,m',e⟩
   .show xl (by rw[e,y];simp)
   .show xm (by rw[e,y];simp)
  let b3g:(X^x).h≠0->↑(X^g).bs<=3:=λy=>by
   let l2:=dx.one y;rw[yJ] at l2;have:=fr.2.1 B (zY _) ()
   unfold clo at this;rw[rL,gK,ew,hg] at this;let h4:=((J g gl).stem ()).2.1
   rcases this.2 with z|z
   .show gS (of_decide_eq_false z) ()
   .have:=of_decide_eq_false z
    lia
  show Zq #[3,(B:Int),Z,D,us,Z,ZF.of i1,λD2 n2=>?_];rw[uv us B ()]
  let#[H2,eU,g2,hD2]:=Yo n2 (.lst (us.take B));rw[eU];let s8:Paired (P6 H2) (W.take B) (us.take B):=Paired.take' B (Paired.mapP c7 λa u z=>by
   let#[t,fv,e,h,_]:=z;show#[t,fv,e,g2 _ _ h])
  let lt:↑(W.take B)=B:=by rw[yA];lia
  show .mk (S1.same g2) (d.pr (k:=B) ()) () () () hD2 (R1.new n2) s8 λH3 I o3 D5 r' n c pl a3 A3 B3 m8 z3 O S3 t9 nD5 o6 c6 o4 tl3 ll3=>?_
  rw[lt] at m8 z3 O o4 tl3 ll3;let p9:W.take B=W.take (B-1)++[sN W (B-1)]:=by
   have:=yR (l:=W) (i:=B-1);rw[N6 (),show B-1+1=B by lia] at this
   show this
  let lt1:↑(W.take (B-1))=B-1:=by rw[yA];lia
  let ett:(W.take B).take (B-1)=W.take (B-1):=by rw[p9,List.take_append_of_le_length (),zA ()]
  obtain⟨rfl,rfl⟩:p=n/\↑l=pl:=by
   rw[p9,List.drop_append_of_le_length (),vA (),ew] at m8
   injection m8 with e1 e2;injection e1 with e1 e3;show#[e1,e3]
  rw[ett] at z3 O;let G:Go lk H1 H3 X I:=(Go.same g2)|||t9;let m13:=G.tups R1;let c3:=G.fr _ _ oD i1;let t2:=G.off _ _ oD i1;let a6:Paired (XU I lk H3 X.ts) W us:=Paired.mapP c7 λ_ _ z=>XU.go z G m13;let R3:=S3.sh;let o1:=S3.dg.own r' zX;let m5:Cn I r' c a3 _ A3 B3:=#[O.rd,O.top,O.z];let i6:=S3.dg.free m5.rd (m5.ro zX);let i7:∀ b,U b->hJ I.ts b=hJ X.ts b:=λb C=>(O.keep b (S.dg.u.inn b C)).2.2 λy=>i6 b y C;let#[hc3,i0,_,_]:=O.z.facts S3.dg.wf o1 Z;let Y:(I^c).h=(X^p).h:=by rw[O.at_]
  let l3:∀ b∈X.lv,(X^b).h<(X^p).h->hJ I.ts b=hJ X.ts b:=λb C hh=>(O.keep b C).2.2 λy=>by
   let e1:=(O.keep b C).2.1;rcases zU.mp y with q|q
   .rw[q,Y,<-q] at e1;lia
   .have:=(i0 b q).2;lia
  let n8:=(z3.facts J a0 Z).2.2.1;let#[u,eu,su]:=XU.at_ a6 (show B-1<↑W by lia)
  rw[ew] at su;let#[bl,o9,obl]:=su.sp M;let#[h1,h2,h3]:=id o9;rename_i tu fvu kdu
  let e1:((B:Nat):Int)-1=((B-1:Nat):Int):=()
  let p2:Xi us (((B:Nat):Int)-1)\V.ref tu:=#v[e1,Yf eu]
  show#[2,_,1,Z,.inl #[D,us,((B:Nat):Int)-1,1,Z,ZF.of c3,p2,.mk o9 ?_]];show#[2,_,1,Z,.inl #[D,us,((B:Nat):Int)-1,1,Z,ZF.of c3,p2,.mk (b:=g) o9 en ?_]];let lI:↑(iN (X^p).bs)=↑(X^p).bs:=zW _;exists 1,bl,1,.inl (ZF.of h3),_,1,Z,_,Z;let hdr:((c::a3).reverse).head?\r':=by
   have:=O.z.last;rw[<-this,rT]
  let n0:(c::a3).reverse=a3.reverse++[c]:=vQ;let rp:(X^p).rows=ZP X.ts (X^p).bs:=rp;let e4:∀ b∈X.lv,(X^b).h<=(X^x).h->hJ I.ts b=hJ X.ts b:=λb C hh=>l3 b C ()
  let i2:∀ b∈N,b∈X.lv/\(X^b).h<=(X^x).h:=λb C=>pt.low J hx b C;let n7:∀(H4:Hp)(X4:ZV)(i3:je)(F e5 l4 m4:jj)(A4 B4:jl)(sd:Bool)(x6:jf),Go lk H3 H4 I X4->Sd jT jU H4 X4 lk i3 U g0 (x::r'::o)->Cn X4 r' c F e5 A4 B4->(X4^c).h≠0->(X4^c).bs=l4++g::m4->(∀ b∈X.lv,(X^b).h<=(X^x).h->hJ X4.ts b=hJ X.ts b)->(X^r).rows=A4++ZP X4.ts l4++XC sd (X^g).rows (X^x).rows++(ZP X4.ts m4++B4)->(∀ b,U b->hJ X4.ts b=hJ X.ts b)->↑F<=500->↑X4.ts<=↑X.ts+(B+1)->↑i3<=↑o3+5->tt { nx:=λ_ H'=>Q .non H',rt:=Q } [Z' !X.S,Z' !D,Z' (.int (B:Int)),Z' !D5,Z' !bl,Z' (.int (g:Int)),x6] H4:=λH4 X4 i3 F e5 l4 m4 A4 B4 sd x6 G4 S4 cn4 c5 eb4 a7 e9 r7 l5 tl4 ll4=>by
   let m4':=G4.tups R3;rw[show X.S=X4.S from ((G|||G4).S).symm];let c1:=a7 x hx (zY _);let a9:=a7 g gl ()
   let Ur:Up (X^r).rows:=(J r a0).up;rw[e9] at Ur;show hk _ H4 X4 lk D D5 i3 us U g0 o r' c g x B _ _ F e5 l4 m4 N A4 B4 L0 R0 sd W X.ts _ x6 S4 cn4 c5 eb4 (by rw[c1,a9];lia) #v[c1,a9,b3g] () () t8 () () (pt.like λb C=>a7 b (i2 b C).1 (i2 b C).2) #v[c1,a9,Ur] (G4.fr _ _ t2 c3) (G4.off _ _ t2 c3) (Paired.mapP a6 λ_ _ z=>XU.go z G4 m4') (λy hy=>(a7 _ (i2 _ (pt.wn y hy)).1 (i2 _ (pt.wn y hy)).2).symm) (G4.fr _ _ o6 c6) (G4.off _ _ o6 c6) hdr n0 λH5 X5 s9 G5 S5 n4 f5 tl5 ll5=>?_
   rw[a9] at n4;rw[er] at e9;let F5:∀ b,U b->hJ X5.ts b=hJ X.ts b:=λb C=>(f5 b C)|||r7 b C;let GG:=((G1|||G)|||G4)|||G5;cases sd
   .show q H5 X5 s9 (Z' r') (A4++ZP X4.ts l4++L0) (R0++(X^g).rows++(ZP X4.ts m4++B4)) GG S5 (by rw[e9];simp[XC]) (by change (X5^r').rows=_;rw[n4];simp[XC]) F5 () ()
   .show q H5 X5 s9 (Z' r') (A4++ZP X4.ts l4++(X^g).rows++L0) (R0++(ZP X4.ts m4++B4)) GG S5 (by rw[e9];simp[XC]) (by change (X5^r').rows=_;rw[n4];simp[XC]) F5 () ()
  let#[dS3,s0]:=R3.sh.self;rw[G.S] at s0;by_cases c2:2<↑(X^p).bs
  .rw[aJ (show (2:Int)<((↑(iN (X^p).bs):Nat):Int) by lia)]
   show Z2 ?_;let#[ux,eux,t5]:=XU.at_ a6 (show B<↑W from s2);let#[plx,Wx,ewx]:=dx.ne;let esx:sN W B=(x,plx):=by
    have:=IL (W:=W) (n:=B) (j:=0);rw[ewx] at this;show this.symm
   rw[esx] at t5;let#[tx,fvx,rfl,htx,_]:=t5;let r6:(X^p).bs.filter (λb=>gU (b≠x))=l++m:=by
    let f1:l.filter (λb=>gU (b≠x))=l:=wI.mpr λb C=>aJ λy=>xl (y▸C);let f2:m.filter (λb=>gU (b≠x))=m:=wI.mpr λb C=>aJ λy=>xm (y▸C);rw[eb,yB,rA ⋯,f1,f2]
   show#[1,X.S,dS3,1,s0,Z,1,(1),Z,.inl #[D5,_,-1,.int (c:Nat),Z,Z,ZF.of c6,#v[n0,PN _ c],1,bl,Z,#[_,ZF.of h3],Cv (n:=x) (by change ↑(X^p).bs<=900;lia) h3 (λHq j Rq hj sq hR=>#[3,.inl #[D,us,(B:Int),1,Z,ZF.of (sq _ _ c3),Yf eux,tx,_,(0),.int (x:Int),Z,Z,Zp.of (sq _ _ htx),Z,Z,1,hR]]) λD6 H6 s6 n6 r9=>?_]]
   rw[show (hJ X.ts (p,↑l).1).bs=(X^p).bs from rfl,r6] at r9;let i4:∀ b∈l++m,b∈(X^p).bs:=λb C=>by rw[eb];rcases zM.mp C with y|y<;>simp[y]
   let lbs:↑(X^p).bs=↑(l++m)+1:=by rw[eb];simp;lia
   let nlm:(l++m).Nodup:=by rwa[<-r6,ndb.sublist xB]
   let l9:∀ b∈(X^p).bs,hJ I.ts b=hJ X.ts b:=λb C=>l3 b (b3 b C).1 (by have:=(b3 b C).2;lia)
   let rl3:∀ k:jj,(∀ b∈k,b∈(X^p).bs)->ZP I.ts k=ZP X.ts k:=λk hk=>US λb C=>by rw[l9 b (hk b C)]
   let p5:(I^c).bs=l++x::m:=#v[O.at_,eb]
   let nw:Y1 I.ts c (l++m)=[]:=uA.mpr λb C=>by
    unfold Y1 at C;have:=yH.mp C;rw[p5] at this;let h5:=this.2;rcases zM.mp this.1 with y|y<;>simp[y] at h5
   let gn:XH I.ts c (l++m)=[x]:=by
    unfold XH;rw[p5];let f1:l.filter (λb=>gU (b∉l++m))=[]:=wX.mpr λb C=>by simp[C]
    let f2:m.filter (λb=>gU (b∉l++m))=[]:=wX.mpr λb C=>by simp[C]
    rw[yB,uZ (by simp[xl,xm]),f1,f2]
    rfl
   let Up1:Up (A3++ZP I.ts (l++m)++B3):=by
    let Ur:Up (X^r).rows:=(J r a0).up;rw[rl3 _ i4];rw[n8,rp,eb] at Ur;show UD Ur (((yN.refl A3).append ?_).append (yN.refl B3));rwa[QI,QI,WV,'N'.append (yF _ _)]
   rw[<-G.S];show .mk (rest:=r'::o) (S3.same s6) zX m5 () () #v[Y,M] r9 (λb C=>#[(O.keep b (b3 b (i4 b C)).1).1,#v[l9 b (i4 b C),Y,(b3 b (i4 b C)).2]]) () () #v[nw,yP.refl _] Up1 λH7 X7 G7 S7 C7 e8 f7=>?_
   rw[gn] at S7;rw[G.S];let up7:∀ b∈c::a3,(X^p).h<=(I^b).h:=λb C=>by
    rcases zU.mp C with y|y
    .rwa[y,Y,zY _]
    .have:=(i0 b y).2;lia
   let a4:∀ b∈X.lv,(X^b).h<=(X^x).h->hJ X7.ts b=hJ X.ts b:=λb C hh=>by
    rw[C7.old b λy=>?_,e4 b C hh];have:=up7 b y;rw[e4 b C hh] at this
    lia
   let e7:(X7^c).bs=l++m:=by rw[C7.at_];rfl
   let h7:(X7^c).h≠0:=#v[C7.hh,Y,M]
   let i5:∀ k:jj,(∀ b∈k,b∈(X^p).bs)->ZP X7.ts k=ZP X.ts k:=λk hk=>US λb C=>by rw[a4 b (b3 b (hk b C)).1 (by have:=(b3 b (hk b C)).2;lia)]
   let i8:∀ b,U b->hJ X7.ts b=hJ X.ts b:=λb C=>(f7 b C)|||i7 b C;let t6:↑X7.ts<=↑X.ts+(B+1):=by rw[C7.len];lia
   rcases sp with ⟨l',e⟩|⟨e,m',e'⟩
   .show n7 H7 X7 o3 a3 _ l' m A3 B3 true _ ((Go.same s6)|||G7) S7 e8 h7 (by rw[e7,e];simp) a4 ?_ i8 () t6 ()
    rw[i5 l' (λb C=>by rw[eb,e];simp[C]),i5 m (λb C=>by rw[eb];simp[C]),n8,rp,eb,e]
    simp[ZP,XC]
   .show n7 H7 X7 o3 a3 _ [] m' A3 B3 false _ ((Go.same s6)|||G7) S7 e8 h7 (by rw[e7,e,e']<;>rfl) a4 ?_ i8 () t6 ()
    rw[i5 [] (λb C=>by cases C),i5 m' (λb C=>by rw[eb,e'];simp[C]),n8,rp,eb,e,e']
    simp[ZP,XC]
  .rw[aI (show ¬ (2:Int)<((↑(iN (X^p).bs):Nat):Int) by lia)]
   show Zq ?_;let cl:=fr.2.2 ()
   unfold clo at cl;rw[ew,Bool.or_eq_true,zI] at cl;let#[r5,q4]:=cl.resolve_left λy=>c2 (of_decide_eq_true y);let r5:=of_decide_eq_true r5;let q4:=of_decide_eq_true q4;rw[show B-1-1=B-2 by lia] at q4
   let#[p0,up0,ps0,A0,B0,d0,z0,r1]:=d.cut J a0 .root (B-2) ()
   rw[zC] at r1;let c4:=d0.two (by rw[yJ];lia)
   obtain⟨l0,a5,a8,pl0,pm0,n5⟩:∃ l0 a5,(X^p0).bs=l0++p::a5/\p∉l0/\p∉a5/\sN W (B-2)=(p0,↑l0):=by
    let e1:W.drop (B-2)=sN W (B-2)::W.drop (B-1):=by
     have:=xH (l:=W) (i:=B-2) ()
     rw[this,show B-2+1=B-1 by lia]
     congr 1
     have:=N6 (W:=W) (p:=B-2) ()
     rw[zT ()] at this
     show yV.inj this
    rw[e1] at d0;let#[plp,Wp,r4]:=dp.ne;generalize hs:sN W (B-2)=o8 at d0;generalize hw2:W.drop (B-1)=W2 at d0 r4
    cases d0 with
    |leaf h=>show gS h c4
    |stem _ a8 n1 n2 d2=>
     let#[pl2,W3,e3]:=d2.ne;erw[r4] at e3;show#[_,_,a8,n1,n2,Z]
   rw[n5] at q4;let#[o0,_,_,_]:=z0.facts J a0 Z;let s3:↑l0<↑(X^p0).bs:=by rw[a8];simp
   let#[m9,ql,qh]:=Hu J o0 c4 s3;generalize hq:UQ X.ts (p0,↑l0)=q' at m9 ql qh q4;let o8:=BV (by rwa[<-a8,m9])
   let#[u0,eu0,t4]:=XU.at_ a6 (show B-2<↑W by lia)
   rw[n5] at t4;let#[bl0,m2,obl0]:=t4.sp c4;let#[k1,k2,k3]:=id m2;rename_i tu0 fvu0 kdu0
   let e2:((B:Nat):Int)-2=((B-2:Nat):Int):=()
   let p3:Xi us (((B:Nat):Int)-2)\V.ref tu0:=#v[e2,Yf eu0]
   obtain⟨sx,ebx⟩:∃ sx:Bool,(X^p).bs=(if sx=V' then [g,x] else [x,g]):=by
    let l2:↑(X^p).bs=2:=()
    rw[eb] at l2;simp at l2;rcases sp with ⟨l',e⟩|⟨e,m',e'⟩
    .exists true;rw[e] at l2;simp at l2;let a1:l'=[]:=wP ()
     let a2:m=[]:=wP ()
     rw[eb,e,a1,a2];rfl
    .exists false;rw[e,e'] at l2;simp at l2;rw[eb,e,e',l2];rfl
   obtain⟨sq,tq,bq,hsq,ebq,lbq⟩:∃(sq:Bool)(tq:Nat)(bq:jj),((sq=V'/\∃ l',l0=l'++[q'])\/(sq=false/\l0=[]/\∃ m',a5=q'::m'))/\(X^q').bs=(if sq=V' then bq++[tq] else tq::bq)/\↑bq=3:=by
    rcases o8 with ⟨l',e⟩|⟨e,m',e'⟩
    .rcases vC (X^q').bs with z|⟨bq,tq,z⟩
     .erw[z] at q4
     .rw[vD] at z;exists true,tq,bq,.inl #[Z,l',e],z;rw[z] at q4;simpa using q4
    .cases z:(X^q').bs with
     |nil=>erw[z] at q4
     |cons tq bq=>
      exists false,tq,bq,.inr #[Z,e,m',e'],Z;rw[z] at q4;simpa using q4
   obtain⟨c0,F,r3⟩:∃ c0 F,a3=c0::F:=by
    cases a3 with
    |nil=>show gS o4 (by simp;lia)
    |cons a k=>show#[a,k,Z]
   subst r3;let r0:W.take (B-1)=W.take (B-2)++[(p0,↑l0)]:=by
    have:=yR (l:=W) (i:=B-2);rw[N6 (),show B-2+1=B-1 by lia,n5] at this
    show this
   let#[la,ma,ea,m6]:=O.sib p0 ((W.take (B-2)).map (·.1)).reverse c0 F (by rw[r0];simp) Z
   let#[e5,lz,mz,A4,B4,eps,z4,c5,ebz,eA4,eB4]:=O.z.inv;let t1:=UN J o0 c4;obtain⟨rfl,rfl⟩:l0=la/\a5=ma:=by
    rw[ea] at t1;let n3:=yO.mp t1;show BO (a8.symm|||ea) pl0 (λy=>n3.2.2 p y p zX Z)
   let#[s1,_,_,_]:=z4.facts S3.dg.wf o1 Z;let l6:=UN S3.dg.wf s1 c5;let hph:=(((J p0 o0).stem c4).2.2.1 p (by rw[a8];simp)).2
   let qc:q'≠c:=λy=>by
    rw[m6,<-y] at l6;let n3:=yO.mp l6;rcases o8 with ⟨l',e⟩|⟨e,m',e'⟩
    .show n3.2.2 q' (by rw[e];simp) q' zX Z
    .show(yQ.mp n3.2.1).1 #v[e',zX]
   let q3:=O.keep q' ql;let qn:q'∉c::c0::F:=λy=>by
    rcases zU.mp y with y|y
    .show qc y
    .have:=(i0 q' y).2;rw[q3.2.1,Y] at this;lia
   let gq3:=q3.2.2 qn;let p1:Xi (iN (c::c0::F).reverse) (-2)\V.int (c0:Nat):=by
    show Mm (j:=2) () (by simp[iN]) ?_
    simp[iN]
   obtain⟨lq,mq,p7,l1,o5,p6⟩:∃ lq mq,(I^c0).bs=lq++q'::mq/\∃ l1 o5,∀ n':Nat,lq++n'::mq=l1++(if sq=V' then [n',c] else [c,n'])++o5:=by
    rcases hsq with ⟨rfl,l',e⟩|⟨rfl,e,m',e'⟩
    .show#[l',c::a5,by rw[m6,e];simp,l',a5,λn'=>by simp]
    .show#[[c],m',by rw[m6,e,e'];simp,[],m',λn'=>by simp]
   let m3:∀ i∈c0::F,I.av i=[]->i=r':=λi hi=>O.top i (zS _ hi);let lu4:↑(c0::F)=B-1:=by have:=o4;lia
   let lu5:↑F+1=B-1:=by simpa using lu4
   rw[<-G.S];show#[2,(2),Z,.inl #[D5,_,-2,.int (c0:Nat),Z,Z,ZF.of c6,p1,2,_,1,Z,.inl #[D,us,((B:Nat):Int)-2,1,Z,ZF.of c3,p3,.mk (b:=q') m2 m9 (.stem S3 () () o1 O.rd.tail (λi hi e=>#v[m3 i hi e,zX]) () z4 c5 p7 λH6 X6 ls6 n' G6 S6 rd6 av6 t3 z6 p4 gn6 rr6 c8 tl6 ll6=>?_)]]]
   rw[p6] at p4;let hr6:=S6.dg.own r' zX;let r8:∀ b∈c0::F,(I^c).h<(I^b).h:=λb C=>(i0 b C).2;let l8:∀ b,(I^b).h<=(I^c).h->b∉c0::F:=λb hh y=>by have:=r8 b y;lia
   let n9:hJ X6.ts c=hJ I.ts c:=(c8 c hc3).2.2 (l8 c (zY _));let c9:∀ b∈X.lv,(X^b).h<=(X^x).h->hJ X6.ts b=hJ X.ts b:=λb C hh=>by
    let e3:=e4 b C hh;rw[(c8 b (O.keep b C).1).2.2 (l8 b (by rw[e3,Y];lia)),e3]
   let EB:PR X6 r' c0 c n' g x tq F e5 l1 o5 bq A4 B4 sq sx:=#[S6.dg.wf,hr6,z6,#v[(c8 c0 s1).2.1,c5],p4,#v[n9,Y,M],#v[n9,O.at_,ebx],#v[gn6,gq3,ebq],lbq]
   let rdc:Rd X6.lv X6.av X6.ho c (c::c0::F):=O.rd.keep λi hi=>#[(c8 i (O.rd.inn i hi)).1,t3 i (O.rd.inn i hi) (by
    rw[q3.2.1];rcases zU.mp hi with y|y
    .rw[y,Y];lia
    .have:=r8 i y;lia) λy=>qn (y▸hi)]
   rw[<-G6.S];show#[2,(1),Z,.inl #[D5,_,-1,.int (c:Nat),Z,Z,ZF.of (G6.fr _ _ o6 c6),#v[n0,PN _ c],2,.mk S6 EB rdc rd6 (λi hi e=>m3 i hi (by rwa[<-av6 i hi,e])) () () () λH7 X7 ls7 ps7 A7 B7 l7 m7 G7 S7 e8 eb7 a4 hh7 p8 lv7 len7 f7 ll7=>?_]]
   rw[G6.S,G.S];let c1:=c9 x hx (zY _);let a9:=c9 g gl ()
   show n7 H7 X7 ls7 (c0::F) ps7 l7 m7 A7 B7 sx _ (G6|||G7) S7 e8 #v[hh7,n9,Y,M] eb7 (λb C hh=>?_) ?_ (λb C=>?_) () () ()
   .let e6:=c9 b C hh;rw[a4 b #v[e6,c1,hh],e6]
   .rw[a9,c1,rr6,O.rr] at p8;show p8
   .rw[f7 b C,(c8 b (S3.dg.u.inn b C)).2.2 (λy=>i6 b (zS _ y) C),i7 b C]
inductive Pn(d:zZ)(x y:V)(H:Hp)(Q:VK):Prop
 |mk(a b:aj)(f g:je)(c e:jm)(_:x=!a)(_:y=!b)(_:ZF d H a f)(_:ZF d H b g)(_:jO H c f)(_:jO H e g)(_:∀ t∈c,t.fits 3=V')(_:Q (.bl (!jQ c e)) H)
theorem wj(Y:ZX k X.A):XF X 'Ġ' (Pn X.K):=by
 intro E s σ H x y v u Q I rx ry h;let#[a,b,xs,ys,f,g,rfl,rfl,U,V,z,B,W,q]:=h;cases rx;cases ry;let#[d,F,C,z1]:=I.list U;let#[c,G,D,z2]:=I.list V;let l1:=↑F;let l2:=↑G;let m1:=↑z;let m2:=↑B;let un:=Y.un;by_cases p:↑d=↑c
 .show PySem.SeqAt.RcNeAt.lists (e:=λj=>(f.getD j (.int 0)).eqb (g.getD j (.int 0))) C.isList D.isList #v[p] () (λj n o=>?_) X.prog X.w X.xe _ #[.bl _,H,I,Z,?_]
  .let r:j<↑xs:=by simp at n;lia
   let t:j<↑ys:=by simp at o;lia
   let#[l,m,M]:=z.get (zT r);let#[t2,R,N]:=B.get (zT t);let#[J,S,O]:=F.get (zT r);let#[L,T,P]:=G.get (zT t);let q1:d.toArray[j]=J:=by
    have:d.toArray[j]?\J:=#v[S]
    rw[wZ n] at this;show yV.inj this
   let q2:c.toArray[j]=L:=by
    have:c.toArray[j]?\L:=#v[T]
    rw[wZ o] at this;show yV.inj this
   rw[q1,q2,zO,zO,m,R];let dp:=Vo l 3 (W l (zG m));show Pq l.depth l t2 _ _ _ (zY _) (VY I _ _ _ M O) (VY I _ _ _ N P) (by change X.A.units+1+_<_;lia)
  .let e:=NJ f g;let i:min ↑f ↑g=d.toArray.size:=by simp;lia
   rw[i,show (↑f==↑g)=V' by simp;lia,rH] at e
   rwa[e,q]
 .show PySem.SeqAt.RcNeAt.lists_lengths C.isList D.isList #v[p] () X.prog X.w X.xe _ #[.bl _,H,I,Z,?_]
  let e:=NJ f g;rw[show (↑f==↑g)=false by simp;lia,Bool.and_false] at e
  rw[<-e] at q;show q
structure Qd(K:zZ)(x qual:Str)(st:aC)(f:aj)(fd:ao):Prop where
 ex:∃(oc:ai)(od:ju)(dT:aj)(kV doc pm:ai)(an:ju)(cdv ct:ai)(osl:Array (jc))(o:aH)(n:Nat),
  fd=xZ x qual (QC st) (Xs st) (Zc st) (!dT) kV doc pm an cdv ct/\K.lookup f\#[oc,od,.func fd,osl]/\wK K cdv qual=V'/\K.lookup dT\o/\o.data=.seq ⇑[.none] n
 kp:xX K (!f)=V'
section
variable{jT jU CTb CK:aj}
theorem Qd.go(F:Qd K x b g f fd)(S:ZC N m (Zc g))(l:∀ e H Q E,p e H Q E->↑e=↑m)(d:∀  c   A   a   s   H   e   Q   E ,ZX k (A.deeper (envOfC b (Zc g) ‹s› f c))->p e H Q E ->
   ∃ t,WG (Wk ZJ P w K mg jW N b (Zc g) f c A a s H E).nox (Xs g) t/\t { nx:=λ_ r=>Q .non r,rt:=Q } (PF N e) H):-ZI ZJ (k+1) f fd m p:=by
 let#[D,G,C,kV,u,I,B,c,ct,z,o,n,rfl,y,i,_]:=F.ex;show HY y i S l λA a s H e Q E v j=>?_;let#[t,h,q]:=d c A a s H e Q E v j;show#[t,h.nox,q]
abbrev Nu:Stmt:=Xr (top 73) 0
abbrev GH:Stmt:=Xr (top 73) 1
abbrev HM:Stmt:=Xr (top 73) 3
theorem Qd.binds(F:'ĉ'):Zx K fd Tt []/\Zx K fd Tt [.none]:=by
 let#[t,u,q,kV,j,v,p,i,ct,m,o,n,rfl,r,l,g,h]:=F.ex;show#[λs e X d=>?_,λs e X d=>?_]
 .let k:↑e=3:=#v[d]
  clear d
  revert e
  show LY ["","",""] _ λa b c=>PySem.W.binds_K X Z g h Z Z
 .let k:↑e=2:=#v[d]
  clear d
  revert e
  show LY ["",""] _ λa b=>PySem.W.binds_K X Z g h Z Z
structure PQ(K:zZ)(mg:jb)(CTb:aj):Prop where
 tab:mg "Table"=Z' !CTb
 cT:U5 K CTb
 ns:Z8 K CTb "shelf"
 nr:Z8 K CTb "root"
abbrev P3(S:aj)(r:jp):List (Str×V):=[("shelf",!S),("root",YS r)]
inductive YN(CTb:aj)(H:Hp)(T S:aj)(r:jp):Prop
 |mk(a:_)(_:H T\.ins CTb a (P3 S r))
structure KP(P:am)(w:aw)(K:zZ)(mg:jb)(jW:aD)(k:Nat)(C:aj)(ps:jn)(sp:Sp):Prop where
 ex:∃ f fd,Mk K C f/\ZI P w K mg jW ZJ k f fd ps sp/\Zx K fd ps []/\Zx K fd ps [.none]
inductive Y3(jT jU CTb:aj):Sp
 |mk{x dx:aj}{X:ZV}{lk:aj}{ls:je}{r:jp}{H:Hp}{Q:VK}{E:XK}:H x\.ins CTb dx []->x≠X.S->Zm jT jU H X.S X.d lk X.lv X.ts X.av X.ho X.as X.kvs ls->(∀ i,r\i->i∈X.lv/\1<=X.ho i) ->
  (∀ H',(∀ b o,b≠x->H b\o->H' b\o)->YN CTb H' x X.S r->Q .non H')->Y3 jT jU CTb [!x,!X.S,YS r] H Q E
theorem v5:ZC Tt Tt (Zc Nu):=Zo
theorem vd(F:'ĉ')(L:PQ K mg CTb)(DC:'_'):-ZI ZJ 5 f fd Tt (Y3 jT jU CTb):=by
 show Qd.go F v5 'a' (λcdv A outer s H vs Q E hr h=>?_)
 induction h
 rename_i x dx X lk ls r H Q E hx xS R hr0 q
 exists _,ZK (YF (Zd DC hr 'ĝ')) (ZK (QK (pv 0) (pv 1) Z) (ZR (QK (pv 0) (pv 2) Z)));show#[2,.mk R hr0 λH1 s1=>?_];exists 2,x,CTb,dx,1,s1 _ _ hx,L.cT,L.ns,yS Z;exists 2,x,CTb,dx,1,Za,L.cT,L.nr,yS Z;rwa[MW,q _ (λb o n e=>by rw[ZU n];show s1 _ _ e) #[dx,Za]]
theorem Ek{a:jv}{p pos:Pos}(D:KP X.prog X.w X.K X.mg X.base k C n g)(m:ZX (k+1) X.A)(j:Gl X x)(l:X.mg x\!C)(h:PA X (e::a) t)(c:(x==("__debug__":Str))=false:=by decide)(i:ar (e::a) X.env=(false,aG e X.env)::ar a X.env:=by rfl)(d:(aF pos (ar a X.env)).any (·.1)=false:=by rfl):
  PE X (.Call 'X' (e::a) [] pos) (Mr C g [] E0 t):=by
 let#[f,fd,M,F,b,_]:=D.ex;show Fx M F m j l b .nil Zn h c i d
theorem vh:ZC TM TM (Zc HM):=Zo
theorem ue(n)(a):Yb [] n a=a:=funext λi=>aK ⋯
theorem ti(a):Wn [] a=a:=funext λi=>aK ⋯
abbrev Jl:Stmt:=Xr (top 73) 2
theorem Qj:ZC ["self","key","taken"] TM (Zc Jl):=Zo
end
section
variable{jT jU:aj}{H H':Hp}{X:ZV}{lk:aj}{ls ls':je}{U:Nat->Prop}{g:Nat->Nat}{o:jj}{r:jp}
theorem Sd.hi(t:Sd jT jU H X lk ls U g (r.toList++o)):∀ i,r\i->i∈X.lv:=λi e=>t.dg.own i (by rw[e];simp)
theorem Sd.low(t:Sd jT jU H X lk ls U g (r.toList++o))(b:↑(Yw X.ts r)<=200):∀ i,r\i->(X^i).h<=7:=λi e=>by
 let a:=t.hi i e;subst e;show Fw (Jc t.dg.wf _ i a Z) b
theorem Sd.askd(t:Sd jT jU H X lk ls U g (r.toList++o))(b:↑(Yw X.ts r)<=200)(a:↑ls<=380000):NW jT jU H X lk ↑X.ts ls r:=#[t.sh.q,t.dg.wf,λi e=>zJ (t.low b i e) 'b',a,t.hi]
theorem Sd.of(t:Sd jT jU H X lk ls U g o)(R:Wh jT jU H' X lk ↑X.ts ls'):Sd jT jU H' X lk ls' U g o:=#[#[R.sh,t.sh.lt,t.sh.keys,t.sh.val,t.sh.len,R.tw,t.sh.own,t.sh.two],t.dg]
theorem Sd.fit(t:Sd jT jU H X lk ls U g (r.toList++o)):∀ x∈Yw X.ts r,x.fit:=by
 cases r with
 |none=>intro x a;cases a
 |some i=>show(t.dg.wf i (t.hi i Z)).inn
end
section
variable{jT jU CTb CK:aj}
inductive Yz(jT jU CTb:aj):Sp
 |mk{T:aj}{X:ZV}{lk:aj}{ls:je}{U:Nat->Prop}{g:Nat->Nat}{oo:jj}{r:jp}{v:V}{k:KT}{H:Hp}{Q:VK}{E:XK}:YN CTb H T X.S r->Sd jT jU H X lk ls U g (r.toList++oo)->↑(Yw X.ts r)<=200->↑ls<=379000->ZD H k v->k.fits 3=V' ->
  (∀(H':Hp)(D:aj)(ys ls':je),(∀ b o,b≠lk->H b\o->H' b\o)->Sd jT jU H' X lk ls' U g (r.toList++oo)->↑ls'<=↑ls+8->H D=Y'->H' D\.lst ys->jO H' 'ų' ys->Q (!D) H') ->
  Yz jT jU CTb [!T,v] H Q E
theorem mU(F:Zl K "side" "Table.side" HM f fd)(L:PQ K mg CTb)(l:-ZA 11 "value_of" T3 (XY jT jU)):-ZI ZJ 12 f fd TM (Yz jT jU CTb):=by
 show F.ok vh (λJ H Q E h=>(by induction h;rfl)) (λo A a s H J Q E z h=>?_)
 induction h
 rename_i T X O e U g R r v k H Q E b t j p C u q
 let#[c,d]:=b;intro N;exists _,ZR (Zh (Zd l z (Wf 's' 's' (pv 1))));show#[1,T,CTb,c,_,!X.S,Z,d,L.cT,L.ns,Z,1,T,CTb,c,_,YS r,Z,d,L.cT,L.nr,Z,1,.mk (t.askd j ()) C u λm D M x n I _ y B=>?_]
 let G:↑(e++U8 (UU X.ts k r))<=↑e+8:=by
  rw[zR];unfold U8;rw[zW]
  cases r with
  |none=>show tP _ _
  |some i=>
   have:=t.low j i Z;have:↑(UU X.ts k (Z' i))=(X^i).h+1:=KA _ _ _ _
   lia
 show q m D M _ x (t.of n) G I y B
inductive Ws(jT jU CTb:aj):Sp
 |mk{T:aj}{X:ZV}{lk:aj}{ls:je}{U:Nat->Prop}{g:Nat->Nat}{oo:jj}{r:jp}{vk vv:V}{k v:KT}{H:Hp}{Q:VK}{E:XK}:YN CTb H T X.S r->Sd jT jU H X lk ls U g (r.toList++oo)->↑(Yw X.ts r)<=150->↑X.ts<=740->↑ls<=349000->Ze X lk T->ZD H k vk->k.fits 3=V'->ZD H v vv->v.fits 3=V' ->
  (∀(H':Hp)(X':ZV)(ls':je)(r':Nat),X'.S=X.S->(∀ c o,c≠T->Ze X lk c->H c\o->H' c\o/\Ze X' lk c)->Ze X' lk T->Sd jT jU H' X' lk ls' U g (r'::oo)->YN CTb H' T X'.S (Z' r')->Yw X'.ts (Z' r')=gZ k v '#'->(∀ b,U b->hJ X'.ts b=hJ X.ts b)->↑X'.ts<=↑X.ts+17->↑ls'<=↑ls+50->Q (.bl (!jQ 'ų' [v])) H') ->
  Ws jT jU CTb [!T,vk,vv] H Q E
theorem Qk:ZC ["self","key","value","changed"] SS (Zc GH):=Zo
theorem se(F:Zl K "put" "Table.put" GH f fd)(L:PQ K mg CTb)(DS:'%')(DC:'ä')(DP:-ZA 14 "put_in" SO (UR jT jU)):-ZI ZJ 15 f fd SS (Ws jT jU CTb):=by
 show F.ok Qk 'a' (λa4 A a2 s H vs Q E hr h=>?_)
 induction h
 rename_i T X lk ls U g oo r vk vv k v H Q E I t a3 t7 a5 oT kk fk kv fv q
 let nd:=Qk.nd;let M:=hr.mono (show 12<=14 by lia)
 let a0:=hr.mono (show 7<=14 by lia)
 intro Xc;show#[_,ZK (Zf 3 nd (V4 (wj hr) (Zs (E:=E0) (pv 0) L.cT DS M Zn (ZQ (pv 1))) (Yy (ZQ (Zd DC a0 (ZQ (pv 2))))) (Z9 _)))
  (ZK (QK (pv 0) (Zd DP hr (Uv 's' 's' (pv 1) (pv 2))) Z)
  '1'),?_]
 let#[m,hT]:=id I;show#[1,T,m,1,hT,Z,1,.mk I t () () kk fk λH1 D ys a7 G t1 l1 nD hD ks=>?_]
 let m1:Z1 H H1:=λb xs e=>G b _ (ZZ e t.sh.sh.looks) e;exists 1,vv,v,Z,kv.mono m1 _ _,fv;intro H2 s2;exists Yc;intro p1 V;let#[H3,eU,g3,h3]:=Yo V (.lst [vv]);rw[eU];let Y:=s2|||g3;let t3:=t1.same Y;let u:∀ b o,b≠lk->H b\o->H3 b\o:=λb o n e=>Y _ _ (G b o n e);let m3:Z1 H H3:=λb xs e=>Y _ _ (m1 b xs e);let a1:=kk.mono m3 _ _;let N:=kv.mono m3 _ _;exists D,p1,ys,[vv],WZ '#' k,[v],Z,Z,ZF.of (Y _ _ hD),ZF.of h3,ks.sm Y,.cons N .nil,λx hx=>?_
 .let#[y,hy,rfl]:=zQ.mp hx;show(t.fit y (yH.mp hy).1).2
 let p:=u _ _ oT.2.2.1 hT;show#[1,T,CTb,m,_,!X.S,Z,p,L.cT,L.ns,Z,1,T,CTb,m,_,YS r,Z,p,L.cT,L.nr,Z,2,.mk t3 a3 t7 () a1 fk N fv λC l O W z t4 e4 f4 l4 a6=>?_]
 let J:=z.fr _ _ oT p;let j:=z.off _ _ oT p;exists 1,T,CTb,m,1,J,L.cT,L.nr,yS Z;let a:∀ c o,c≠T->C c\o->upd C T (.ins CTb m (YW "root" (.int (W:Nat)) (P3 X.S r))) c\o:=λc o n e=>#v[ZU n,e]
 let eT:upd C T (.ins CTb m (YW "root" (.int (W:Nat)) (P3 X.S r))) T\.ins CTb m (P3 X.S (Z' W)):=Za;generalize upd C T (.ins CTb m (YW "root" (.int (W:Nat)) (P3 X.S r)))=H5 at a eT⊢;let mT:Z1 C H5:=λc xs e=>a c _ (ZZ e J) e;let R5:Zm jT jU H5 l.S l.d lk l.lv l.ts l.av l.ho l.as l.kvs O:=by
  let R:=t4.sh;let#[#[dS,hS],hd,hl]:=R.sh;show#[#[#[dS,a _ _ j.1.symm hS],a _ _ j.2.1.symm hd,a _ _ j.2.2.1.symm hl],R.lt,R.keys,R.val,R.len,λi hi=>?_,R.own,R.two];let#[V,B,n3]:=j.2.2.2 i hi;show(R.tw i hi).frame mT (λo e=>a _ _ V.symm e) (λo e=>a _ _ n3.symm e) (λo e=>a _ _ B.symm e)
 show#[1,q H5 l O W z.S (λc o V B e=>#[a c o V (z.fr c o B (u c o B.2.2.1 e)),z.off c o B (u c o B.2.2.1 e)]) j #[R5,t4.dg] #[m,#v[z.S,eT]] e4 f4 l4 ()]
end
theorem Sd.held{X:ZV}{r:jp}(t:Sd a b H X c d U g (r.toList++o)):∀ i,r\i->1<=X.ho i:=λi e=>by
 let m:i∈r.toList++o:=by rw[e];simp
 rw[t.dg.hs i (t.dg.own i m)];have:=wR.mpr m
 lia
theorem Sd.tab{f h b T d:aj}{H:Hp}{X:ZV}{l:aj}{q:je}{U:Nat->Prop}{g:Nat->Nat}{o:jj}(t:Sd f h H X l q U g o)(k:Ze X l T){r0 r:jp}(w:H T\.ins b d (P3 X.S r0)):∃ j,upd H T 'þ'=j/\(∀ c o,c≠T->H c\o->j c\o)/\Sd f h j X l q U g o/\YN b j T X.S r:=by
 let a:∀ c o,c≠T->H c\o->upd H T (.ins b d (YW "root" (YS r) (P3 X.S r0))) c\o:=λc o n e=>#v[ZU n,e]
 let m:upd H T (.ins b d (YW "root" (YS r) (P3 X.S r0))) T\.ins b d (P3 X.S r):=Za;show#[1,a,?_,d,m];generalize upd H T 'þ'=s at a m⊢;let z:Z1 H s:=λc D e=>a c _ (ZZ e w) e;let R:=t.sh;let#[#[u,v],x,y]:=R.sh;show#[#[#[#[u,a _ _ k.1.symm v],a _ _ k.2.1.symm x,a _ _ k.2.2.1.symm y],R.lt,R.keys,R.val,R.len,λi p=>?_,R.own,R.two],t.dg];let#[A,B,C]:=k.2.2.2 i p;show(R.tw i p).frame z (λo e=>a _ _ A.symm e) (λo e=>a _ _ C.symm e) (λo e=>a _ _ B.symm e)
section
variable{jT jU CTb CK:aj}
inductive WE(jT jU:aj):Sp
 |mk{X:ZV}{lk:aj}{ls:je}{U:Nat->Prop}{g:Nat->Nat}{oo:jj}{r:jp}{v:V}{k:KT}{H:Hp}{Q:VK}{E:XK}:Sd jT jU H X lk ls U g (r.toList++oo)->↑(Yw X.ts r)<=200->↑X.ts<=750->↑ls<=357000->ZD H k v->k.fits 3=V' ->
  (∀(H':Hp)(X':ZV)(ls':je)(r':jp),Go lk H H' X X'->Sd jT jU H' X' lk ls' U g (r'.toList++oo)->Yw X'.ts r'=Wg k '#'->(∀ b,U b->hJ X'.ts b=hJ X.ts b)->↑X'.ts<=↑X.ts+17->↑ls'<=↑ls+150->Q (YS r') H')->WE jT jU [!X.S,YS r,v] H Q E
theorem ot{cdv:ai}{A:ax}{outer:jt}{s:ak}{Hs:Hp}{E:XK}(L:'d')(DW:'S')(DC:'3')(hr:ZX 35 (A.deeper (envOfC "taken_from" (Zc N4) ‹s› f cdv))):
  ∃ t,WG (Wk ZJ P w K mg jW Cy "taken_from" (Zc N4) f cdv A outer s Hs E).nox ((Xs N4).drop 7) t/\∀(D0:YK)(H:Hp)(X:ZV)(F D l:aj)(ls us ws:je)(U:Nat->Prop)(g:Nat->Nat)(o:jj)(i j n:Nat)(W:jq)(A B I:jl)(v1 v2 v4 v6:jf),
   Sd jT jU H X F ls U g (i::o)->H D\.lst us->Ze X F D->Paired (P6 H) (W++[(j,n)]) us->↑W<=7->Pr X.ts i (W++[(j,n)])->YV X.ts i (j::(W.map (·.1)).reverse) (W.map (·.2)).reverse A B->↑X.ts<=750->↑ls<=358000->(X^j).h=0->H l\.lst ws->Ze X F l->jO H (YB I) ws->OT I->Up (A++I++B) ->
   (∀(H':Hp)(J:ZV)(a0:je)(m:Nat),Go F H H' X J->Sd jT jU H' J F a0 U g (m::o)->(J^m).rows=A++I++B->(∀ b,U b->hJ J.ts b=hJ X.ts b)->↑J.ts<=↑X.ts+8->↑a0<=↑ls+16->D0.rt (.int (m:Nat)) H') ->
   t D0 [Z' !X.S,v1,v2,Z' !D,v4,Z' !l,v6] H:=by
 let nd:=Vz.nd;let Y:=hr.mono (show 13<=35 by lia)
 let T:=hr.mono (show 11<=35 by lia)
 show#[_,ZK (Zf 6 nd (Zd DW Y (Zu (pv 0) (pv 3))))
  (ZK (YF (Zs (E:=E0) (pv 0) L.cS DC T Zn (Zu (Zy K (pv 6) 'n') (pv 5))))
  (ZR (Zh (Zy K (pv 6) ZM)))),λD0 H X F D l ls us ws U g o i j n W A B I v1 v2 v4 v6 t hD oD a1 a9 pr z t7 a7 j0 hl ol kr G U0 q=>?_]
 show#[2,.mk t pr (by rw[zR];simp;lia) () () hD oD a1 λH6 a a3 Dw m nn' c pl up A2 B2 ed z2 O k G6 a8 a5 r a4 a6 a2=>?_]
 rw[show ↑(W++[(j,n)])-1=↑W by simp] at ed z2 O
 rw[sP] at ed;rw[sM] at z2 O;cases ed;let#[eA,eB]:=z.uniq z2;subst eA eB;rw[zR,xV] at a4 a6 a2;rw[<-G6.S];let v:=k.dg.own m zX;let N:=k.dg.free O.rd (λx hx e=>#v[O.top x hx e,zX])
 let f6:∀ b,U b->hJ a.ts b=hJ X.ts b:=λb R=>(O.keep b (t.dg.u.inn b R)).2.2 λy=>N b y R;rw[vQ] at r;let#[dS,hS]:=k.sh.sh.self;let c0:(hJ a.ts c).h=0:=#v[O.at_,j0]
 let hc:=(O.z.facts k.dg.wf v Z).1;let#[p,ch,C]:=Ls (t:=Xo I) k.sh.lt k.dg.wf v k.dg.avk O.rd O.z c0.symm (N9 G) U0;show#[1,a.S,dS,1,hS,Z,1,(1),Z,.inl #[Dw,_,-1,.int (c:Nat),Z,Z,ZF.of r,PN _ _,1,?_]];show .mk #[k.sh,k.dg.wf,v,k.dg.avk] O.z O.rd () (G6.fr _ _ ol hl) (kr.mono (G6.tups t.sh) _ _) G c0 ch C λH7 M fr R7 A7=>?_
 let G7:=Ni (lk:=F) (H:=H6) (H':=H7) (X:=a) (cur:=p) (av':=a.av) (ho':=a.ho) (as':=M) (kvs':=a.kvs) (λc o n e=>fr c o (λi hi=>(n i hi).1) e) A7;let Q:=G7.fr _ _ a5 r;let i0:Xi (iN (up.reverse++[c])) 0\.int (m:Nat):=by
  show Yf (j:=0) ?_;unfold iN;rw[zK,<-vQ,<-gM,rT,O.z.last];rfl
 show#[1,.inl #[Dw,_,(0),.int (m:Nat),Z,Z,ZF.of Q,i0,q H7 #[a.S,a.d,a.lv,p,a.av,a.ho,M,a.kvs] a3 m (G6|||G7) #[R7,k.dg.chl O.rd (λx hx e=>#v[O.top x hx e,zX]) C ((k.dg.wf c hc).leaf c0).1.symm] C.rows (λb R=>(C.old b λy=>N b y R)|||f6 b R) (by change ↑p<=_;rw[C.len];lia) ()]]
theorem mj(F0:Zl K "taken_from" "taken_from" N4 f fd)(T:YM mg)(L:'d')(a9:'_')(DS:'á')(c0:-ZA 35 "without_leaf" TW (UG jT jU))(DW:'S')(DC:'3'):-ZI ZJ 36 f fd T3 (WE jT jU):=by
 show F0.ok Vz 'a' (λc1 A O s H vs Q E F h=>?_)
 induction h
 rename_i X lk ls U g oo r v k H Q E t a7 t7 i0 kk fk q
 let nd:=Vz.nd;let c5:=F.mono (show 4<=35 by lia)
 let a4:=F.mono (show 10<=35 by lia)
 let#[tt,ht,hk]:=ot (jT:=jT) (jU:=jU) (P:=P) (w:=w) (K:=K) (jW:=jW) (f:=f) (cdv:=c1) (A:=A) (outer:=O) (s:=s) (Hs:=H) (E:=E) L DW DC F;intro Xc;show#[_,ZK (YF (Zd a9 c5 (Zu (pv 0) (pv 1))))
  (ZK (Zf 3 nd (Zd DS a4 'K'))
  (ZK (Z4 (YO (MC F.units0) (pv 3) (Yy Zt) (Z9 _)) 'ą' Z6)
  (ZK 'Ĭ'
  (ZK (Me (i:=5) [2] TK nd Z Z Z 'ý' (λ_ _ _ _ _=>Oy (YO (BR F) 'B' (pv 1) Z)) (λ_ _ _ _ _=>pv 0) #[Z,.inl Z,Z,trivial])
  (ZK (Z4 (YO (uf F) (pv 5) (pv 4) Z) 'ĭ' Z6)
  (ZK (Z4 (YO (MC F.units0) (pv 5) (Yy Zt) (Z9 _)) (ZR (Zh (Zd c0 F (Zu (pv 0) (pv 3))))) Z6) ht)))))),?_]
 show#[2,.mk t.sh (λi e=>#[t.hi i e,t.held i e]) λH1 s1=>?_];let t1:=t.same s1;show#[3,.mk (t1.askd a7 ()) (kk.sm s1) fk λH2 D m a0 R2 nD e9 hD l=>?_]
 let t2:=t1.of R2;let G2:Go lk H H2 X X:=(Go.same s1)|||Go.looks a0;let e3:Z1 H1 H2:=λb xs e=>a0 b _ (ZZ e t1.sh.sh.looks) e;let c7:=(kk.sm s1).mono e3 _ _;exists 1,Yc;intro b nb;let#[H3,eU,d,eb]:=Yo nb (.lst []);rw[eU];let a1:=d _ _ hD;exists D,b,m,Z,Z,ZF.of a1,ZF.of eb,_,Z;let oD:Ze X lk D:=t1.sh.new nD
 cases r with
 |none=>
  let e0:m=[]:=by
   cases l;rfl
  subst e0;show Z2 (q H3 X _ Y' (G2|||Go.same d) (t2.same d) Z (λ_ _=>rfl) () ?_)
  change ↑(ls++[])<=_;rw[zC]
  lia
 |some i=>
 let hi:=t.hi i Z;let#[W,j,Y,B1,ew,lw,j0,z,hA,hB]:=K9 (k:=k) t.dg.wf hi _ i .root Z (λx u=>by cases u) (λx u=>by cases u)
 rw[zC,zC] at z;let i1:=t.low a7 i Z;let eW:UU X.ts k (Z' i)=W++[(j,cnt ((X^j).rows.map (·.1)) k)]:=ew;let dn:Dn X.ts i (W++[(j,cnt ((X^j).rows.map (·.1)) k)]):=by rwa[<-ew,HH t.dg.wf k _ i hi Z]
 let ll:↑(ls++U8 (UU X.ts k (Z' i)))<=↑ls+8:=by
  rw[eW,zR];unfold U8;simp
  lia
 rw[eW] at l;generalize ls++U8 (UU X.ts k (Z' i))=a6 at t2 R2 ll;let#[hj,fu,er,_]:=z.facts t.dg.wf hi Z;generalize hn:cnt ((X^j).rows.map (·.1)) k=n at *;let ln:=Paired.length l;rw[zR,xV] at ln;let hu:m[↑m-1]?\(m[↑m-1]'()):=zT _
 let#[p,ep,ta,fa,et,c6,FA]:=Paired.ixR l hu;let e1:p=(j,n):=by
  rw[<-ln,tJ,xJ (zY _),uE] at ep;show(yV.inj ep).symm
 subst e1;rw[et] at hu;let#[tq,lq,vq,rfl,e4,e5,i2,e6,_]:=FA;let kr:=e6 j0;let ne:m.isEmpty=false:=by
  cases m with
  |nil=>simp at ln
  |cons _ _=>rfl
 rw[ne];let tl:=Mm (j:=1) (zY _) () hu
 show Zq #[2,.inl #[D,_,_,!ta,Z,Z,ZF.of a1,tl,ta,_,_,!tq,Z,Z,Zp.of (d _ _ c6),Z,tq,_,_,!lq,Z,Z,Zp.of (d _ _ e4),Z,?_]];let c:=t.dg.wf j hj;let l4:=(c.leaf j0).2;let c2:∀ x∈(X^j).rows,(OC x).depth<=100:=λy hy=>by
  let f:=c.inn y hy;let d1:=Vo _ 3 f.1;let d2:=Vo _ 3 f.2;change KT.depth (.tup [y.1,y.2])<=100;simp only[KT.depth,jR]
  lia
 let a5:=kr.sm d;let c8:=c7.sm d;show#[1,lq,Z,#[vq,ZF.of (d _ _ e5)],Ba (k:=k) (rs:=(X^j).rows) () (d _ _ e5) a5 (λH4 a vk vv x R u s4 ha ck hR=>?_) λD4 I H4 s4 e7 M ky=>?_]
 .show#[1,a,_,_,vk,Z,Z,Zp.of ha,Z,1,x.1,k,ck,c8.sm s4,zJ (Vo _ 3 (c.inn x u).1) 'b',#[1,hR]]
 let B:=d|||s4;let c9:=a5.sm s4;let a3:=B _ _ e5;exists 2,D4,lq,I,vq,_,1,Z,ZF.of M,ZF.of a3,ky,c9,λx u=>?_,_,Z
 .let#[y,hy,rfl]:=zQ.mp u;show c2 y (yH.mp hy).1
 let t4:=t2.same B;let G4:=G2|||Go.same B;let eT:Wg k (Yw X.ts (Z' i))=Y++Wg k (X^j).rows++B1:=by change Wg k (X^i).rows=_;rwa[er,GW hA hB]
 by_cases es:Wg k (X^j).rows=(X^j).rows
 .rw[es,eqbL_self];show Z2 #[1,q H4 X a6 (Z' i) G4 t4 ?_ (λ_ _=>rfl) () ()]
  rw[eT,es,<-er];rfl
 let en:jQ (YB (Wg k (X^j).rows)) (YB (X^j).rows)=false:=by
  cases y:jQ (YB (Wg k (X^j).rows)) (YB (X^j).rows) with
  |false=>rfl
  |true=>show gS (mP y) es
 rw[en];show Zq #[1,Yc,λb5 e8=>?_];let#[H5,eU,V,c3]:=Yo e8 (.lst []);rw[eU];let S:=B|||V;let t5:=t4.same V;let G5:=G4|||Go.same V;let a2:=S _ _ hD;let ly:↑I=↑(Wg k (X^j).rows):=by have:=↑ky;rwa[<-this,zW _]
 exists D4,b5,I,Z,Z,ZF.of (V _ _ M),ZF.of c3,_,Z;let G:Paired (Y8 (O3 X lk D) H5 X.ts) (W++[(j,n)]) m:=Paired.mapP l λ_ _ y=>y.off (λb o _ e=>S b o e) (ZE.tups S);by_cases ez:Wg k (X^j).rows=[]
 .let ey:I.isEmpty=V':=by
   rw[ez] at ly
   cases I with
   |nil=>rfl
   |cons _ _=>cases ly
  rw[ey];show Z2 #[2,.mk t5 dn (by rw[zR];simp;lia) (by rw[zR];simp;lia) () a2 oD (Paired.mapP G λ_ _ y=>xo y) λH6 X6 N r6 A6 B6 G6 S6 J e6 f6 a8 e2=>?_]
  rw[zR,xV] at a8;rw[show ((W++[(j,n)]).getLastD (0,0)).1=j by rw[List.getLastD_concat]] at J
  show q H6 X6 N r6 (G5|||G6) S6 ?_ f6 () ()
  rw[e6];change _=Wg k (X^i).rows;rw[J];let U:=(t.dg.wf i hi).up;rw[J] at U;show(Af U c.ne ez).symm
 let ey:I.isEmpty=false:=by
  cases I with
  |nil=>show gS (uY.mp ly.symm) ez
  |cons _ _=>rfl
 rw[ey];let C:(Wg k (X^j).rows).Sublist (X^j).rows:=xB;let UA:Up (Y++(X^j).rows++B1):=by rwa[<-er,(t.dg.wf i hi).up]
 let UT:Up (Y++Wg k (X^j).rows++B1):=UD UA (((yN.refl Y).append C).append (yN.refl B1));let pr:Pr X.ts i (W++[(j,n)]):=by
  have:=dn.pr (k:=↑(W++[(j,n)])) ⋯
  rw[tL] at this;show this
 let c4:=M5 (λx u=>c.inn x (C.subset u)) (UD c.up C) (vW.mpr ez) (zJ C.length_le l4);show Zq (hk _ H5 X lk D D4 a6 m I U g oo i j n W Y B1 _ _ _ _ _ t5 a2 oD (Paired.mapP G λ_ _ y=>by let#[t,fv,e,h,_]:=y;show#[t,fv,e,h]) () pr z () () j0 (V _ _ M) (t2.sh.new (d.free e7)) (ky.sm V) c4 UT λH6 X6 N r6 G6 t6 e6 f6 a8 e2=>?_)
 show q H6 X6 N (Z' r6) (G5|||G6) t6 (e6|||eT.symm) f6 () ()
inductive Xy(jT jU CTb:aj):Sp
 |mk{T:aj}{X:ZV}{lk:aj}{ls:je}{U:Nat->Prop}{g:Nat->Nat}{oo:jj}{r:jp}{vk:V}{k:KT}{H:Hp}{Q:VK}{E:XK}:YN CTb H T X.S r->Sd jT jU H X lk ls U g (r.toList++oo)->↑(Yw X.ts r)<=200->↑X.ts<=750->↑ls<=356000->Ze X lk T->ZD H k vk->k.fits 3=V' ->
  (∀(H':Hp)(X':ZV)(ls' ys:je)(r':jp)(D:aj),X'.S=X.S->(∀ c o,c≠T->Ze X lk c->H c\o->H' c\o/\Ze X' lk c)->Ze X' lk T->Sd jT jU H' X' lk ls' U g (r'.toList++oo)->YN CTb H' T X'.S r'->Yw X'.ts r'=Wg k '#'->(∀ b,U b->hJ X'.ts b=hJ X.ts b)->↑X'.ts<=↑X.ts+17->↑ls'<=↑ls+160->H D=Y'->H' D\.lst ys->Ze X' lk D->D≠T->jO H' 'ų' ys->Q (!D) H') ->
  Xy jT jU CTb [!T,vk] H Q E
theorem nW(F:Zl K "take" "Table.take" Jl f fd)(L:PQ K mg CTb)(DS:'%')(DT:-ZA 36 "taken_from" T3 (WE jT jU)):-ZI ZJ 37 f fd TM (Xy jT jU CTb):=by
 show F.ok Qj 'a' (λa0 A O s H vs Q E hr h=>?_)
 induction h
 rename_i T X lk ls U g oo r vk k H Q E m t r2 t7 a1 N kk Y q
 let nd:=Qj.nd;let p:=hr.mono (show 12<=36 by lia)
 intro Xc;show#[_,ZK (Zf 2 nd (Zs (E:=E0) (pv 0) L.cT DS p Zn (ZQ (pv 1))))
  (ZK (QK (pv 0) (Zd DT hr (Wf 's' 's' (pv 1))) Z)
  'y'),?_]
 let#[v,C]:=id m;show#[1,T,v,1,C,Z,1,.mk m t r2 () kk Y λR D ys a2 i t1 l1 y hD ks=>?_]
 let m1:Z1 H R:=λb xs e=>i b _ (ZZ e t.sh.sh.looks) e;let G:=kk.mono m1 _ _;let a:=i _ _ N.2.2.1 C;let oD:Ze X lk D:=t.sh.new y;show#[1,T,CTb,v,_,!X.S,Z,a,L.cT,L.ns,Z,1,T,CTb,v,_,YS r,Z,a,L.cT,L.nr,Z,1,.mk t1 r2 t7 () G Y λH4 X4 I r4 d t4 e4 f4 l4 v4=>?_]
 let n:=d.fr _ _ N a;let u:=d.off _ _ N a;let B:=d.fr _ _ oD hD;let M:=d.off _ _ oD hD;let l:D≠T:=λz=>by erw[z,C] at y
 exists 1,T,CTb,v,1,n,L.cT,L.nr,yS Z;let#[V,W,j,t5,T5]:=t4.tab (r:=r4) u (r0:=r) #v[d.S,n]
 rw[d.S] at W;rw[W];let J:Z1 R V:=λb xs e=>j b _ (ZZ e a) (d.tups t1.sh b xs e);show#[1,q V X4 I ys r4 D d.S (λc o n1 x e=>#[j c o n1 (d.fr c o x (i c o x.2.2.1 e)),d.off c o x (i c o x.2.2.1 e)]) u t5 T5 e4 f4 l4 () y (j D _ l B) M l (ks.mono J _ _)]
end
inductive Y2(ts:jk)(b:jj):Nat->Prop
 |root {x:Nat}:x∈b->Y2 ts b x
 |br {p x:Nat}:Y2 ts b p->x∈(ts^p).bs->Y2 ts b x
theorem Y2.mono(s:∀ x∈a,x∈b)(h:Y2 c a x):Y2 c b x:=by
 induction h with
 |root h=>show .root (s _ h)
 |br _ d e=>show .br e d
theorem Y2.app:Y2 c (a++b) x↔Y2 c a x\/Y2 c b x:=by
 show#[λh=>?_,λh=>h.elim (Y2.mono λ_ h=>zL _ h) (Y2.mono λ_ h=>yZ _ h)]
 induction h with
 |root h=>show(zM.mp h).imp .root .root
 |br _ d e=>show e.imp (λy=>.br y d) λy=>.br y d
theorem Y2.to(s:∀ x,Y2 e b x->hJ a x=hJ e x):Y2 a b x↔Y2 e b x:=by
 constructor
 .intro h
  induction h with
  |root h=>show .root h
  |br _ d c=>show .br c (by rwa[<-s _ c,d])
 .intro h
  induction h with
  |root h=>show .root h
  |br f d c=>show .br c #v[s _ f,d]
theorem Y2.inn(d:WF a c)(o:∀ x∈b,x∈a)(h:Y2 c b x):x∈a:=by
 induction h with
 |root h=>show o _ h
 |br _ e f=>show(Xh d f e).1
abbrev U0:Nat->Prop:=λ_=>False
abbrev NY:Nat->Nat:=λ_=>0
section
variable{lv:jj}{ts ts0:jk}{av:Nat->jj}{ho:Nat->Nat}{o a b:jj}
theorem Dg.split(D:Dg lv ts av ho U0 NY o)(e:o.Perm (a++b)):Dg lv ts av ho (Y2 ts b) (λx=>b.count x) a:=by
 show#[D.wf,D.nd,D.avn,D.ave,λx d=>?_,λx d=>D.own x (e.mem_iff.mpr (zL _ d)),#[λx h=>.root (wR.mp h),λx h=>h.inn D.wf λy g=>D.own y (e.mem_iff.mpr (yZ _ g)),λx h c f=>.br h f,λx h=>?_]]
 .rw[D.hs x d,e.count_eq,vL];change 0+_=_
  lia
 .cases h with
  |root h=>show .inl (wR.mpr h)
  |br h d=>show .inr #[_,h,d]
theorem Dg.join(D:Dg lv ts av ho (Y2 ts0 b) (λx=>b.count x) a):Dg lv ts av ho U0 NY (a++b):=
 #[D.wf,D.nd,D.avn,D.ave,λx c=>by
  rw[D.hs x c,vL];change _=0+_
  lia,λx c=>(zM.mp c).elim (D.own x) λh=>D.u.inn x (.root h),#[λ_ h=>gS h (xW _),λ_ h=>h.elim,λ_ h=>h.elim,λ_ h=>h.elim]]
end
abbrev ZV.held(X:ZV)(b:Nat):ZV:=#[X.S,X.d,X.lv,X.ts,X.av,NF X.ho b,X.as,X.kvs]
theorem wt{X:ZV}(h:b∈X.lv)(g:∀ c o,c≠X.as[b]!.x->H c\o->a c\o):Go i H a X (X.held b):=#[Z,Z,λc o f e=>g c o (f.2.2.2 b h).1 e,λc o f _=>f]
section
variable{jT jU CTb:aj}
inductive UJ(jT jU:aj):Sp
 |mk{X:ZV}{lk:aj}{ls:je}{U:Nat->Prop}{g:Nat->Nat}{o:jj}{r:jp}{H:Hp}{Q:VK}{E:XK}:Sd jT jU H X lk ls U g o->(∀ i,r\i->i∈X.lv) ->
  (∀(H':Hp)(X':ZV),Go lk H H' X X'->Sd jT jU H' X' lk ls U g (r.toList++o)->X'.ts=X.ts->X'.lv=X.lv->Q (YS r) H')->UJ jT jU [!X.S,YS r] H Q E
theorem ye:ZC TQ TQ (Zc GI):=Zo
theorem so(F:Zl K "held" "held" GI f fd)(L:'d')(d:'k'):-ZI ZJ 3 f fd TQ (UJ jT jU):=by
 show F.ok ye (λt H Q E h=>(by induction h;rfl)) (λj A c s H t Q E p h=>?_)
 induction h
 rename_i X v x U g o r H Q E S n q
 intro u;exists _,ZK (Z4 (Q0 (ME (pv 1))) (ZR (YF (Zs (E:=E0) (pv 0) L.cS d p Zn (ZQ (pv 1))))) Z6) (ZR (Zh (pv 1)))
 cases r with
 |none=>show#[2,Zq #[1,q H X 'I' S Z Z]]
 |some b=>
  let a:=n b Z;let#[k,m]:=S.sh.sh.self;show#[2,Z2 #[1,X.S,k,1,m,Z,1,.mk S.sh a λe l i=>#[1,q e (X.held b) (wt a l) #[i,S.dg.hold a] Z Z]]]
abbrev Hz:Stmt:=Xr (top 73) 7
theorem Ae{X:ZV}{s:aj}{r:jp}{Q:VK}(R:Zm jT jU H X.S X.d s X.lv X.ts X.av X.ho X.as X.kvs t)(p:∀ i,r\i->i∈X.lv/\1<=X.ho i)(k:∀  c   T ,ZE H c->H T=Y'->YN CTb c T X.S r->Q (!T) c):
  ∀ x a,H x=Y'->H a=Y'->a≠x->Y3 jT jU CTb [!x,!X.S,YS r] (upd (upd H a (.own x)) x (.ins CTb a [])) (λv c=>v=.non/\Q (!x) c) E0:=λT a e j y=>by
 let l:ZE H (upd (upd H a (.own T)) T (.ins CTb a [])):=λb o q=>by
  rwa[ZU (Zg q e),ZU (Zg q j),q]
 let#[u,n]:=R.sh.self;show Y3.mk (X:=X) (dx:=a) Za (Zg n e).symm (R.same l) p λm g h=>#[Z,?_];show k m T (λb o q=>g b o (Zg q e) (l b o q)) e h
inductive Wt(jT jU CTb:aj):Sp
 |mk{T:aj}{X:ZV}{lk:aj}{ls:je}{U:Nat->Prop}{g:Nat->Nat}{o:jj}{r:jp}{H:Hp}{Q:VK}{E:XK}:YN CTb H T X.S r->Ze X lk T->Sd jT jU H X lk ls U g o->(∀ i,r\i->i∈X.lv) ->
  (∀(H':Hp)(X':ZV)(T':aj),Go lk H H' X X'->Sd jT jU H' X' lk ls U g (r.toList++o)->X'.ts=X.ts->X'.lv=X.lv->(∀ c o,Ze X lk c->H c\o->c≠T')->YN CTb H' T' X'.S r->Ze X' lk T'->Q (!T') H')->Wt jT jU CTb [!T] H Q E
theorem vj:ZC TY TY (Zc Hz):=Zo
theorem qd(F:Zl K "fork" "Table.fork" Hz f fd)(a:PQ K mg CTb)(B:'Ł')(z:-ZA 3 "held" TQ (UJ jT jU)):-ZI ZJ 7 f fd TY (Wt jT jU CTb):=by
 show F.ok vj (λL H Q E h=>(by induction h;rfl)) (λI A p s H L Q E v h=>?_)
 induction h
 rename_i T X O R U g o r H Q E t V S u q
 let#[k,l]:=t;let n:=v.mono (show 3<=6 by lia)
 intro N;exists _,ZR (Zh (Ek B v Z a.tab (Zu (XS (pv 0) Z) (Zd z n (Zu (XS (pv 0) Z) (XS (pv 0) Z))))));show#[1,T,CTb,k,_,!X.S,Z,l,a.cT,a.ns,Z,1,T,CTb,k,_,!X.S,Z,l,a.cT,a.ns,Z,1,T,CTb,k,_,YS r,Z,l,a.cT,a.nr,Z,.mk S u λM G j d J y=>?_];rw[<-j.S];show Ae d.sh (λi e=>#[#v[y,u i e],d.held i e]) λC D x b m=>?_
 show q C G D (j|||Go.same x) (d.same x) J y (λc o f e=>Zg (j.fr c o f e) b) m (d.sh.new b)
end
abbrev kN(l:jj):jx:=l.map λi:Nat=>(gR (i:Int):ZY)
def ML(t:ZO):KT:=.tup [.str (gY t),.tup (if t.h=0 then YB t.rows else t.bs.map λb:Nat=>.int (b:Int))]
structure Uo(H:Hp)(ts:jk)(d:aj)(kvs:List (ZY×V))(F:jj):Prop where
 at_:H d\.dK kvs
 keys:kvs.map (·.1)=kN F
 yes:∀ j:Nat,j∈F->∃ v,YU kvs (gR (j:Int))\v/\ZD H (ML (ts^j)) v
theorem Uo.no{H:Hp}{f:jk}{d:aj}{a:List (ZY×V)}{F:jj}(h:Uo H f d a F){j:Nat}(e:j∉F):YU a (gR (j:Int))=Y':=by
 cases z:YU a (gR (j:Int)) with
 |none=>rfl
 |some v=>
  have:=GL z;rw[h.keys] at this;let#[i,c,b]:=zQ.mp this;have:i=j:=by have:=Sum.inl.inj b;lia
  show gS (this▸c) e
theorem Uo.len(h:Uo H b d a F):↑a=↑F:=by
 have:=congrArg xG h.keys;simpa using this
theorem Uo.to(h:Uo H c d a F)(m:Z1 H b)(e:∀ o,H d\o->b d\o):Uo b c d a F:=#[e _ h.at_,h.keys,λj f=>by
 let#[v,e,r]:=h.yes j f;show#[v,e,r.mono m _ _]]
theorem Uo.put{H:Hp}{c:jk}{d:aj}{a:List (ZY×V)}{F:jj}(h:Uo H c d a F){j:Nat}(g:j∉F){v:V}(k:ZD H (ML (c^j)) v):Uo (upd H d (.dK (Yh a (gR (j:Int)) v))) c d (Yh a (gR (j:Int)) v) (F++[j]):=by
 let m:Z1 H (upd H d (.dK (Yh a (gR (j:Int)) v))):=λb n e=>#v[ZU (ZZ e h.at_),e]
 show#[Za,?_,λi f=>?_]
 .rw[HP v (h.no g),zH,h.keys];unfold kN;rw[zH];rfl
 .rw[II];by_cases z:i=j
  .subst z;show#[v,aM Z,k.mono m _ _]
  .rw[aK λy=>z (by have:=Sum.inl.inj y;lia)]
   let#[l,e,r]:=h.yes i ((zM.mp f).elim id λy=>gS 'ð' z);show#[l,e,r.mono m _ _]
abbrev UL(l:List (jp)):je:=l.map YS
theorem Zm.fr{X:ZV}(R:Zm c f H X.S X.d j X.lv X.ts X.av X.ho X.as X.kvs k)(m:Z1 H h)(a:∀ b o,¬ Ze X j b->H b\o->h b\o):Zm c f h X.S X.d j X.lv X.ts X.av X.ho X.as X.kvs k:=by
 let#[#[l,n],p,q]:=R.sh;show#[#[#[l,a _ _ (λz=>z.1 Z) n],a _ _ (λz=>z.2.1 Z) p,a _ _ (λz=>z.2.2.1 Z) q],R.lt,R.keys,R.val,R.len,λi g=>?_,R.own,R.two];show(R.tw i g).frame m (λo e=>a _ _ (λz=>(z.2.2.2 i g).1 Z) e) (λo e=>a _ _ (λz=>(z.2.2.2 i g).2.2 Z) e) (λo e=>a _ _ (λz=>(z.2.2.2 i g).2.1 Z) e)
theorem qu(t):gU (V.str (gY t)=V.str "stem")=gU (t.h≠0):=by
 by_cases h:t.h=0
 .rw[GP h,aI (show ¬ t.h≠0 from λz=>z h)];decide +kernel
 .rw[ED h,aJ rfl,aJ h]
theorem Ca:∀ l ,jO H (l.map λb:Nat=>KT.int (b:Int)) (iN l)
 |[]=>.nil
 |b::l=>.cons (.int _) (Ca l)
theorem nB(h:n<=9000):n<=sizeLine:=yE (wJ h 'b')
inductive Y4(jT jU:aj):Sp
 |mk{X:ZV}{lk d:aj}{ls:je}{r:jp}{kvs:List (ZY×V)}{F rs:jj}{H:Hp}{Q:VK}{E:XK}:Zm jT jU H X.S X.d lk X.lv X.ts X.av X.ho X.as X.kvs ls->WF X.lv X.ts->↑X.lv<=800->(∀ i∈rs++r.toList,i∈X.lv)->Uo H X.ts d kvs F->Ze X lk d->F.Nodup->(∀ x,x∈F↔Y2 X.ts rs x)->↑ls<=380000 ->
  (∀(H':Hp)(kvs':List (ZY×V))(F':jj)(ls':je),(∀ b o,b≠lk->b≠d->H b\o->H' b\o)->Zm jT jU H' X.S X.d lk X.lv X.ts X.av X.ho X.as X.kvs ls'->Uo H' X.ts d kvs' F'->F'.Nodup->(∀ x,x∈F'↔Y2 X.ts (rs++r.toList) x)->↑ls'+↑F=↑ls+↑F'->Q (!d) H')->Y4 jT jU [!X.S,YS r,!d] H Q E
abbrev pH:jn:=["_law_shelf","_law_root","_law_found","_law_todo","_law_number","_law_kind","_law_what"]
theorem Vk:ZC pH SM (Zc HR):=Zo
structure WS(jT jU:aj)(H H':Hp)(X:ZV)(lk:aj)(ls:je)(d ta:aj)(todo:List (jp))(F Vs:jj)(kvs:List (ZY×V))(ls':je):Prop where
 fr:∀ b o,b≠lk->b≠d->H b\o->H' b\o
 sh:Zm jT jU H' X.S X.d lk X.lv X.ts X.av X.ho X.as X.kvs ls'
 len:↑ls'=↑ls+↑Vs
 fnd:Uo H' X.ts d kvs (F++Vs)
 hta:H' ta\.lst (UL todo)
 nta:∀ b o,b≠lk->b≠d->H b\o->b≠ta
 ota:Ze X lk ta
section
variable{H H' H'':Hp}{X:ZV}{lk:aj}{ls ls':je}{d ta:aj}{todo todo':List (jp)}{F Vs:jj}{kvs:List (ZY×V)}
theorem WS.same(r:WS jT jU H H' X lk ls d ta todo F Vs kvs ls')(s:ZE H' H''):WS jT jU H H'' X lk ls d ta todo F Vs kvs ls':=
 #[λb o a c e=>s b o (r.fr b o a c e),r.sh.same s,r.len,r.fnd.to 'è' λo e=>s _ _ e,s _ _ r.hta,r.nta,r.ota]
theorem WS.pop(r:WS jT jU H H' X lk ls d ta todo F Vs kvs ls'):WS jT jU H (upd H' ta 'Ĩ') X lk ls d ta todo' F Vs kvs ls':=by
 let s:ZG ta H' (upd H' ta (.lst (UL todo'))):=(ZG.refl ta H').upd;show#[λb o a c e=>s _ _ (r.fr b o a c e) (r.nta b o a c e),r.sh.but s r.hta r.ota,r.len,r.fnd.to (s.tups r.hta) λo e=>s _ _ e (ZZ r.fnd.at_ r.hta),Za,r.nta,r.ota]
theorem WS.anew(r:WS jT jU H H' X lk ls d ta todo F Vs kvs ls')(c:H' q=Y'):WS jT jU H (upd H' q 'Ĩ') X lk ls d q todo' F Vs kvs ls':=by
 let a:=r.same (Zv c 'Ĩ');show#[a.fr,a.sh,a.len,a.fnd,Za,λb o g h e=>Zg (r.fr b o g h e) c,r.sh.new c]
end
inductive IJ(X:ZV)(r:jp)(d jT jU:aj)(H:Hp)(lk:aj)(ls:je)(F rs:jj):Nat->_T.St->Hp->Prop
 |mk{ta:aj}{todo:List (jp)}{Vs:jj}{kvs:List (ZY×V)}{ls':je}{x4 x5 x6:jf}{H':Hp}{n:Nat}:WS jT jU H H' X lk ls d ta todo F Vs kvs ls'->(F++Vs).Nodup->(∀ j∈F++Vs,Y2 X.ts (rs++r.toList) j)->(∀ i,Z' i∈todo->Y2 X.ts (rs++r.toList) i)->(∀ j∈F++Vs,∀ c∈(X^j).bs,c∈F++Vs\/Z' c∈todo)->(∀ i,r\i->i∈F++Vs\/Z' i∈todo)->n=5*(↑X.lv-↑(F++Vs))+↑todo->n<=4001->IJ X r d jT jU H lk ls F rs n [Z' !X.S,Z' (YS r),Z' !d,Z' !ta,x4,x5,x6] H'
theorem mo(F0:Zl K "_law_reached" "_law_reached" HR f fd)(T:YM mg)(L:'d')(DL:'j'):-ZI ZJ 3 f fd SM (Y4 jT jU):=by
 show F0.ok Vk 'a' (λi8 A i5 s H vs Q E hr h=>?_)
 induction h
 rename_i X lk d ls r e1 F rs H Q E R0 wf v8 c9 e6 od i4 C i7 k
 let nd:=Vk.nd;let hu:=LC hr;intro Xc;show#[_,ZK (Zf 3 nd (Yy 'f'))
  (ZK (Oh PassesOwn.never (YO 'š' (pv 3) (Yy Zt) (Z9 _))
   (ZK (Zf 4 nd (AF xQ PySem.F.slot_list_pop PySem.F.type_list_pop we (pv 3)))
   (ZR (Z4 (PW.pt (Kd (Q0 (ME (pv 4))) (KR (Q0 (BX hu (pv 4) (pv 2))))))
    (ZK (Ko (Zs (E:=E0) (pv 0) L.cS DL hr Zn 'å') (wc Z (Ed 'ŧ' (Ed (VG 6 nd) uk))))
    (ZK (Je hu (pv 2) (pv 4) (UF (Zu (pv 5) (UZ N2 Z T.tuple OX 'ň'))) Z)
    (ZR (Z4 (YO Vm (pv 5) Q5 (Z9 _)) (ZR (Zf 3 nd (Z5 LV (pv 3) (UZ Nv Z T.list OU 'ň')))) Z6)))) Z6))))
  'y'),?_]
 let e4:∀ j∈F,∀ c∈(X^j).bs,c∈F:=λj G c B=>(C c).mpr (.br ((C j).mp G) B);let c1:∀ x,Y2 X.ts (rs++r.toList) x->x∈X.lv:=λx h=>h.inn wf c9;exists 1,Yc;intro R c3;let g0:=Zv c3 (.lst [YS r]);let I0:WS jT jU H (upd H R (.lst [YS r])) X lk ls d R [r] F [] e1 ls:=#[λb o _ _ e=>g0 b o e,R0.same g0,Z,#v[zC,e6.to (ZE.tups g0) λo e=>g0 _ _ e],Za,λb o _ _ e=>Zg e c3,R0.new c3]
 exists IJ X r d jT jU H lk ls F rs,#[_,.mk I0 #v[zC,i4] (λj G=>?_) (λi J=>?_) (λj G c B=>?_) (λi e=>.inr #v[e,zV.mpr Z]) Z ?_]
 .rw[zC] at G;show Y2.app.mpr (.inl ((C j).mp G))
 .let e:=zV.mp J;show .root (yZ _ (by rw[<-e];simp))
 .rw[zC] at G⊢;show .inl (e4 j G c B)
 .simp only[xV]
  lia
 rintro n0 _ H1 (@⟨R,a7,p,I,M,x4,x5,x6,_,_,r1,a0,a2,a1,a8,a3,en,n4⟩);let vl:↑(F++p)<=↑X.lv:=MB a0 λx hx=>c1 x (a2 x hx);let l2:↑(F++p)=↑F+↑p:=zR;exists 1,Yc;intro e0 e8;let ge:=Zv e8 (.lst []);let r2:=r1.same ge;exists R,e0,UL a7,Z,Z,ZF.of r2.hta,ZF.of Za,_,Z;generalize upd H1 e0 (.lst [])=H2 at r2⊢;rcases vC a7 with z|⟨rest,x,z⟩
 .subst z;show Zq #[1,k H2 I (F++p) M r2.fr r2.sh r2.fnd a0 (λx=>#[λh=>a2 x h,λh=>?_]) (by have:=r2.len;rw[zR];lia)]
  induction h with
  |root h=>
   rcases zM.mp h with h|h
   .show zL _ ((C _).mpr (.root h))
   .show(a3 _ #v[h]).resolve_right ⋯
  |br _ hx ih=>show(a8 _ ih _ hx).resolve_right ⋯
 rw[vD] at z;subst z;let e5:(!(UL (rest++[x])).isEmpty)=V':=by simp[UL]
 rw[e5];let eT:UL (rest++[x])=UL rest++[YS x]:=by simp[UL]
 show Z2 #[_,λ_ _ z=>z,?_];exists 1,.inl #[Z,_,ZF.of r2.hta],R,UL (rest++[x]),YS x,Z,Z,r2.hta,by rw[eT];simp
 let g:WS jT jU H (upd H2 R (.lst (UL (rest++[x])).dropLast)) X lk ls d R rest F p I M:=by
  rwa[eT,List.dropLast_concat,r2.pop]
 generalize upd H2 R (.lst (UL (rest++[x])).dropLast)=H3 at g⊢;rw[zR (bs:=[x]),xV] at en;let O:∀ i,Z' i∈rest->Y2 X.ts (rs++r.toList) i:=λi J=>a1 i (zL _ J);let a6:∀ x5 x6,(∀ i,x\i->i∈F++p)->∃ m,m<n0/\IJ X r d jT jU H lk ls F rs m [Z' !X.S,Z' (YS r),Z' !d,Z' !R,Z' (YS x),x5,x6] H3:=λx5 x6 hx=>by
  let e3:∀ c,c∈F++p\/Z' c∈rest++[x]->c∈F++p\/Z' c∈rest:=λc h=>by
   rcases h with h|h
   .show .inl h
   .rcases zM.mp h with h|h
    .show .inr h
    .show .inl (hx c (zV.mp h).symm)
  show#[_,(),.mk g a0 a2 O (λj G c B=>e3 c (a8 j G c B)) (λi e=>e3 i (a3 i e)) Z ()]
 cases x with
 |none=>
  show#[2,Zq (Zq (a6 _ _ λi e=>by cases e))]
 |some j=>
  let G:=c1 j (a1 j ⋯)
  by_cases nF:j∈F++p
  .let#[v0,ev,_]:=g.fnd.yes j nF;let hg:XV H3 d (.int (j:Int)) (Z' v0):=ev▸XV.k (k:=gR (j:Int)) g.fnd.at_;show#[2,Z2 #[2,d,Z' v0,Z,hg,1,Zq (a6 _ _ λi e=>by cases e;show nF)]]
  show#[2,Z2 ?_];let hg:XV H3 d (.int (j:Int)) Y':=g.fnd.no nF▸XV.k (k:=gR (j:Int)) g.fnd.at_;show#[2,d,Y',Z,hg,1,Z2 ?_];let#[dx,hS]:=g.sh.sh.self;let ll:=g.len;exists 1,X.S,dx,1,hS,Z,1,X,lk,↑X.ts,M,j,Z,g.sh.q,G,by lia
  intro H4 tp l V W R4 i1 nl hl w1 w2;let R4:Zm jT jU H4 X.S X.d lk X.lv X.ts X.av X.ho X.as X.kvs (M++[.int (j:Int)]):=#[R4.sh,g.sh.lt,g.sh.keys,g.sh.val,g.sh.len,R4.tw,g.sh.own,g.sh.two];let i9:=g.fnd.at_;let i3:Z1 H3 H4:=λb xs e=>W b _ (ZZ e g.sh.sh.looks) e;let e7:=g.fnd.to i3 λo e=>W _ _ od.2.2.1 e;let c8:=W _ _ g.ota.2.2.1 g.hta;exists tp,1,Zp.of i1,Z,_,1,_,1,Z;show#[2,l,V,Z,.inl #[ZF.of hl,λu nu=>#[Yc,λtt nt=>?_]]];let g5:=Zv nu (.tup V);let g6:=Zv nt (.tup [.str (gY (X^j)),!u]);let t:=g5|||g6;let eu:=g6 _ _ (Za (H:=H4) (a:=u) (o:=.tup V));let et:=Za (H:=upd H4 u (.tup V)) (a:=tt) (o:=.tup [.str (gY (X^j)),!u]);generalize upd (upd H4 u (.tup V)) tt (.tup [.str (gY (X^j)),!u])=H6 at t eu et⊢;let a9:=e7.to (ZE.tups t) λo e=>t _ _ e;let Y:=a9.at_;let a5:=t _ _ c8;let c7:=t _ _ hl;let R6:=R4.same t;let i2:=a9.len;rw[zR] at i2;exists 2,d,1,Qb.k (k:=gR (j:Int)) Y (Yq ())
  let i6:ZD H6 (ML (X^j)) (!tt):=by
   show .tup et (.cons (.str _) (.cons (.tup eu ?_) .nil));by_cases U:(X^j).h=0
   .rwa[aM U,(w1 U).sm t]
   .rwa[aK U,w2 U,Ca _]
  let c0:=a9.put nF (v:=!tt) i6;let sx:ZG d H6 (upd H6 d (.dK (Yh I (gR (j:Int)) !tt))):=(ZG.refl d H6).upd;let e2:Z1 H6 (upd H6 d (.dK (Yh I (gR (j:Int)) !tt))):=λb xs e=>sx b _ e (ZZ e Y);generalize upd H6 d (.dK (Yh I (gR (j:Int)) !tt))=H7 at sx e2 c0⊢;rw[yT] at c0;let r7:WS jT jU H H7 X lk ls d R rest F (p++[j]) (Yh I (gR (j:Int)) !tt) (M++[.int (j:Int)]):=
   #[λb o n1 n2 e=>sx b o (t b o (W b o n1 (g.fr b o n1 n2 e))) n2,R6.fr e2 λb o n e=>sx b o e λz=>n (z▸od),by rw[zR,zR,ll];rfl,c0,sx _ _ a5 (ZZ a5 Y),g.nta,g.ota]
  let i0:=sx _ _ c7 (ZZ c7 Y);let ok:=wf j G;let c2:(F++(p++[j])).Nodup:=by
   rwa[<-yT,yO.mpr #[a0,by simp,λa ha b hb y=>nF (by rw[<-zV.mp hb,<-y];show ha)]]
  let c4:∀ i∈F++(p++[j]),Y2 X.ts (rs++r.toList) i:=λi J=>by
   rw[<-yT] at J;rcases zM.mp J with y|y
   .show a2 i y
   .rwa[zV.mp y,a1 j ⋯]
  let a4:↑(F++(p++[j]))<=↑X.lv:=MB c2 λx hx=>c1 x (c4 x hx);let D:↑(F++(p++[j]))=↑(F++p)+1:=by rw[<-yT,zR,xV]
  let N:∀ td:List (jp),(∀ c,Z' c∈rest->Z' c∈td)->∀ c,c∈F++p\/Z' c∈rest++[Z' j]->c∈F++(p++[j])\/Z' c∈td:=λtd s c h=>by
   rw[<-yT];rcases h with h|h
   .show .inl (zL _ h)
   .rcases zM.mp h with h|h
    .show .inr (s c h)
    .cases zV.mp h;show .inl (yZ _ 'û')
  let c5:∀ td:List (jp),(∀ c,Z' c∈rest->Z' c∈td)->(∀ c∈(X^j).bs,Z' c∈td)->∀ i∈F++(p++[j]),∀ c∈(X^i).bs,c∈F++(p++[j])\/Z' c∈td:=λtd s sj i J c B=>by
   rw[<-yT] at J;rcases zM.mp J with y|y
   .show N td s c (a8 i y c B)
   .rw[zV.mp y] at B;show .inr (sj c B)
  exists 1,Z,_,Z;rw[qu];by_cases U:(X^j).h=0
  .rw[aI (show ¬ (X^j).h≠0 from λz=>z U)];let b0:∀ c∈(X^j).bs,Z' c∈rest:=λc B=>by erw[((wf j G).leaf U).1] at B
   show Zq #[_,by rw[D] at a4;lia,.mk r7 c2 c4 O (c5 rest (λc h=>h) b0) (λi e=>N rest (λc h=>h) i (a3 i e)) Z (by rw[D] at a4⊢;lia)]
  .rw[aJ (show (X^j).h≠0 from U)];let#[b2,b4,b3,_]:=ok.stem U;let c6:=w2 U;let l1:V.length=↑(X^j).bs:=#v[c6,zW _]
   let l0:↑(UL rest)=rest.length:=zW _;show Z2 #[2,l,V,Z,.inl (ZF.of i0),λq1 n1=>?_];let g8:=Zv n1 (.lst V);let r8:=r7.same g8;exists R,q1,UL rest,V,Z,Z,r8.hta,Za,nB ()
   intro q2 n2;let e9:UL rest++V=UL (rest++(X^j).bs.map Z'):=by
    rw[c6];simp[UL,iN,YS]
   rw[e9];let lm:↑(rest++(X^j).bs.map Z')=rest.length+↑(X^j).bs:=by rw[zR,zW]
   show#[_,?_,.mk (todo:=rest++(X^j).bs.map Z') (r8.anew n2) c2 c4 (λi J=>?_) (c5 _ (λc h=>zL _ h) λc B=>yZ _ (zQ.mpr #[c,B,Z])) (λi e=>N _ (λc h=>zL _ h) i (a3 i e)) Z ?_]
   .rw[lm,D];rw[D] at a4;lia
   .rcases zM.mp J with z|z
    .show O i z
    .let#[b,hb,e]:=zQ.mp z;cases e;show .br (a1 j ⋯) hb
   .rw[lm,D];rw[D] at a4;lia
abbrev We(l:List (aj×jp)):jj:=l.flatMap λp=>p.2.toList
abbrev WY(l:List (aj×jp)):je:=l.map λp=>V.ref p.1
theorem IY(l:List (aj×jp))(y:aj×jp):We (l++[y])=We l++y.2.toList:=by simp[We]
abbrev but(a n:Nat):Nat:=if n<=a then n else n-1
theorem pN{a:Type}{L M:List a}{x y:a}(h:(L++x::M)[k]?\y)(n:k≠↑L):(L++M).take (but ↑L (k+1))=(L++M).take (but ↑L k)++[y]:=by
 let b:=(yW.mp h).1;rw[zR,zN] at b;let e:(L++M)[but ↑L k]?\y:=by
  unfold but;split
  .rw[wG ()] at h⊢
   show h
  .rw[xJ ()] at h⊢
   rw[show k-↑L=(k-1-↑L)+1 by lia,qZ] at h
   show h
 have:but ↑L (k+1)=but ↑L k+1:=by
  unfold but;split<;>split<;>lia
 rw[this,yR,e];rfl
section
variable{jT jU CTb:aj}
inductive Yt(jT jU CTb:aj):Sp
 |mk{X:ZV}{lk tl pl:aj}{ls:je}{L M:List (aj×jp)}{x:aj×jp}{jV:jj}{H:Hp}{Q:VK}{E:XK}:Zm jT jU H X.S X.d lk X.lv X.ts X.av X.ho X.as X.kvs ls->WF X.lv X.ts->↑X.lv<=800->(∀ p∈L++x::M,YN CTb H p.1 X.S p.2)->(∀ i∈We (L++M)++jV,i∈X.lv)->H tl\.lst (WY (L++x::M))->H pl\.lst (iN jV)->tl≠lk->pl≠lk->↑(L++x::M)<=20->↑ls<=370000 ->
  (∀(H':Hp)(d:aj)(kvs:List (ZY×V))(F:jj)(ls':je),(∀ b o,b≠lk->H b\o->H' b\o)->Zm jT jU H' X.S X.d lk X.lv X.ts X.av X.ho X.as X.kvs ls'->H d=Y'->Uo H' X.ts d kvs F->F.Nodup->(∀ x,x∈F↔Y2 X.ts (We (L++M)++jV) x)->↑ls'<=↑ls+800->Q (!d) H')->Yt jT jU CTb [!X.S,!tl,!pl,.int (↑L:Nat)] H Q E
abbrev wz:jn:=["_law_shelf","_law_tables_here","_law_pins","_law_at","_law_found","_law_k","_law_number"]
theorem Ui:ZC wz Th (Zc JL):=Zo
inductive HV(jT jU:aj)(X:ZV)(lk d:aj)(σ0:jf->jf->_T.St)(ls:je)(rs:Nat->jj)(H1:Hp):Nat->_T.St->Hp->Prop
 |mk{i:Nat}{x5 x6:jf}{kvs:List (ZY×V)}{F:jj}{ls':je}{H:Hp}:(∀ b o,b≠lk->b≠d->H1 b\o->H b\o)->Zm jT jU H X.S X.d lk X.lv X.ts X.av X.ho X.as X.kvs ls'->Uo H X.ts d kvs F->F.Nodup->(∀ x,x∈F↔Y2 X.ts (rs i) x)->↑ls'=↑ls+↑F->HV jT jU X lk d σ0 ls rs H1 i (σ0 x5 x6) H
theorem nj(F0:Zl K "_law_others" "_law_others" JL f fd)(T:YM mg)(LT:PQ K mg CTb)(DR:-ZA 3 "_law_reached" SM (Y4 jT jU)):-ZI ZJ 4 f fd Th (Yt jT jU CTb):=by
 show F0.ok Ui 'a' (λe2 A c8 s H vs Q E hr h=>?_)
 induction h
 rename_i X lk tl pl ls L M x g H Q E R0 wf v8 a7 R a2 a0 c7 a6 e6 e3 k
 let nd:=Ui.nd;intro Xc;show#[_,ZK (Zf 4 nd EU)
  (ZK (Vi PassesOwn.never Z (OZ Z T.range (ZQ 'V')) 'ŧ'
   (ZR (Z4 (YO Nh (pv 5) (pv 3) (Z9 _)) (ZR (YF (Zd DR hr (Wf (pv 0) (XS (Zy K (pv 1) (pv 5)) Z) (pv 4))))) Z6)))
  (ZK (Vi PassesOwn.never Z 'Ō' (VG 6 nd) (ZR (YF (Zd DR hr 'Ŋ'))))
  'ö')),?_]
 intro d W;let#[H1,eU,g1,e1]:=Yo W (.dK []);rw[eU];let od:Ze X lk d:=R0.new W;let I:=g1 _ _ a2;let c6:tl≠d:=Zg a2 W;let a5:pl≠d:=Zg a0 W;let fl:∀{F n:jj},F.Nodup->(∀ i∈n,i∈X.lv)->(∀ x,x∈F↔Y2 X.ts n x)->↑F<=800:=λY hn D=>zJ (MB Y λx hx=>((D x).mp hx).inn wf hn) v8;let J:∀ n,∀ i∈We ((L++M).take n),i∈X.lv:=λn i hi=>R i (zL _ (by
  let#[p,hp,h]:=xT.mp hi;show xT.mpr #[p,sV hp,h]))
 let lT:↑(WY (L++x::M))=↑(L++x::M):=zW _;show#[1,tl,1,.inl (ZF.of I),1,nofun,nofun,OS (n:=((↑(WY (L++x::M)):Nat):Int).toNat) (HV jT jU X lk d (λx5 x6=>[Z' !X.S,Z' !tl,Z' !pl,Z' (.int (↑L:Nat)),Z' !d,x5,x6]) ls (λn=>We ((L++M).take (but ↑L n))) H1)
  (.mk (kvs:=[]) (F:=[]) (λb o _ _ e=>e) (R0.same g1) #[e1,Z,λj O=>by cases O] .nil (λy=>#[λh=>(by cases h),λh=>?_]) Z) (λi σ H2 hi C=>?_) (λσ H2 C=>?_)]
 .exfalso
  let e0:We ((L++M).take (but ↑L 0))=[]:=by rw[show but ↑L 0=0 from aM (yY _),tS];rfl
  rw[e0] at h
  induction h with
  |root h=>cases h
  |br _ _ ih=>show ih
 .let#[N,R2,B,Y,D,ll]:=C;rename_i x5 x6 c2 F c3
  let hi:i<↑(L++x::M):=nofun
  let ei:(L++x::M)[i]?\(L++x::M)[i]:=zT hi;generalize (L++x::M)[i]=y at ei;exists 2,Z,_,Z;by_cases c:i=↑L
  .rw[aJ (show V.int (0+(i:Int))=V.int ((↑L:Nat):Int) by rw[c];simp)]
   show Zq (.mk N R2 B Y (λx=>?_) ll);rw[D,c];have:but ↑L (↑L+1)=but ↑L ↑L:=by unfold but;rw[aM (zY _),aK nofun];lia (splits:=8)
   rw[this]
  .rw[aI (show ¬ V.int (0+(i:Int))=V.int ((↑L:Nat):Int) from λz=>c (by have:=V.int.inj z;lia (splits:=8)))]
   let#[dx,hT]:=a7 y (zG ei);let c0:=g1 _ _ hT;let nT:y.1≠lk:=ZZ hT R0.sh.looks;let c4:y.1≠d:=Zg hT W;let ex:=pN ei c;let ff:=fl Y (J _) D;show Z2 #[3,.inl #[tl,_,_,.ref y.1,Z,Z,ZF.of (N _ _ c7 c6 I),?_,y.1,CTb,dx,_,YS y.2,Z,N _ _ nT c4 c0,LT.cT,LT.nr,Z,1,?_]]
   .rw[vJ];show Yf ?_;rw[zK,ei];rfl
   .show .mk (rs:=We ((L++M).take (but ↑L i))) R2 wf v8 (λj O=>?_) B od Y D nofun λH3 v F3 U m R3 t q l a4=>?_
    .show J (but ↑L (i+1)) j ?_;rwa[ex,IY,O]
    .show .mk (λb o z1 z2 e=>m b o z1 z2 (N b o z1 z2 e)) R3 t q (λz=>?_) nofun
     rw[l];change _↔Y2 X.ts (We ((L++M).take (but ↑L (i+1)))) z;rw[ex,IY]
 .let#[N,R2,B,Y,D,ll]:=C;rename_i x5 x6 c2 F c3
  let ea:(L++M).take (but ↑L ((↑(WY (L++x::M)):Nat):Int).toNat)=L++M:=zA (by
   rw[lT,zR,zR,zN,uL];unfold but;split<;>lia (splits:=8))
  rw[ea] at D;let G:=g1 _ _ a0;let a1:=N _ _ a6 a5 G;show#[1,pl,Z,#[_,ZF.of a1],OB (K:=K) (a:=pl) (xs:=iN g) (HV jT jU X lk d (λx5 x6=>[Z' !X.S,Z' !tl,Z' !pl,Z' (.int (↑L:Nat)),Z' !d,x5,x6]) ls (λn=>We (L++M)++g.take n) H1)
   (.mk N R2 B Y #v[tS,zC,D] ll) (λi σ H3 _ C=>?_) (λi u σ H3 hu C=>?_) (λσ H3 C=>?_)]
  .let#[m,_]:=C;show ZF.of (m _ _ a6 a5 G)
  .let#[m,R3,t,q,l,a4]:=C;rename_i y5 y6 v F3 U
   unfold iN at hu;rw[zK] at hu;let#[b,eb,rfl]:=xU.mp hu;let ex:g.take (i+1)=g.take i++[b]:=by rw[yR,eb];rfl
   let a3:∀ n,∀ j∈We (L++M)++g.take n,j∈X.lv:=λn j O=>R j (by
    rcases zM.mp O with y|y
    .show zL _ y
    .show yZ _ (sV y))
   let ff:=fl q (a3 i) l;show#[3,.mk (r:=Z' b) (rs:=We (L++M)++g.take i) R3 wf v8 (λj O=>?_) t od q l nofun λH4 c9 F4 e5 a9 R4 a8 c5 c1 e4=>?_]
   .show a3 (i+1) j ?_;rwa[ex,<-yT,O]
   .show .mk (λb o z1 z2 e=>a9 b o z1 z2 (m b o z1 z2 e)) R4 a8 c5 (λz=>?_) nofun
    rw[c1,ex,<-yT];rfl
  .let#[m,R3,t,q,l,a4]:=C;rename_i y5 y6 v F3 U
   rw[zA (by unfold iN;rwa[zW,zY _])] at l
   let ff:=fl q R l;show#[1,k H3 d v F3 U (λb o z e=>m b o z (Zg e W) (g1 _ _ e)) R3 W t q l nofun]
end
theorem oZ{X:Cx}{w:aw}{o i:Expr}{pos:Pos}{a b:TE}(g:X.A.units+5<cLine)(d:PE X o a)(c:PE X i b)(e:KL i)(h:X.w=w:=by rfl):PE X '4' (GS w a b):=by
 subst h;show rg g d c e
theorem E'(h:Ps c):c.Nodup:=h.imp fun{a b} q e=>by erw[e,UI] at q
structure Yk(w:aw)(H:Hp)(D:aj)(rs:jl)(xs:List (KT×V×V)):Prop where
 dk:YY w H D xs
 rows:Paired (fun(r:ZW)(x:KT×V×V)=>x.1=r.1/\ZD H r.2 x.2.2) rs xs
theorem Yk.keys(h:Yk w H D b c):c.map (·.1)=b.map (·.1):=by
 have:=h.rows;clear h
 induction this with
 |nil=>rfl
 |cons a t d=>rw[yX,yX,a.1,d]
theorem Yk.but(h:Yk w H D b c)(s:ZG p H a)(t:Z1 H a)(n:D≠p):Yk w a D b c:=#[h.dk.but s t n,Paired.mapP h.rows λ_ _ z=>#[z.1,z.2.mono t _ _]]
theorem Yk.same{w:aw}{H a:Hp}{D:aj}{b:jl}{c:List (KT×V×V)}(h:Yk w H D b c)(s:ZE H a):Yk w a D b c:=#[h.dk.same s,Paired.mapP h.rows λ_ _ z=>#[z.1,z.2.sm s]]
theorem ww{f:List (KT×V×V)}(c:YY w H d f)(s:ZG d H a):Z1 H a:=λb i e=>by
 let#[g,h,_]:=c.ex;show s b _ e (ZZ e h (by unfold Ny;intro z;cases z))
inductive VP(w:aw)(c:je)(H:Hp)(Q:VK)(_:XK):Prop
 |mk(p:aj)(m:Int)(_:c=[!p,-m])(_:ZN H p)(_:0<m)(_:m<=62)(_:∀(D:aj)(b:jl)(d:List (KT×V×V))(a:Hp),H D=Y'->Yk w a D b d->(∀ r∈b,r.fit)->Ps (b.map (·.1))->((↑b:Nat):Int)<m->ZN a p->ZG p H a->Q (!D) a)
abbrev wh:jn:=["_law_well_here","_law_most","_law_keys_here","_law_model","_law_spot"]
theorem Us:ZC wh SQ (Zc J7):=Zo
inductive AJ(p:aj)(m:Int)(c D:aj)(w:aw)(d:jm)(H:Hp)(e:je)(i:Nat)(j:_T.St)(a:Hp):Prop
 |mk(b:jl)(h:List (KT×V×V))(g:jf)(_:j=[Z' !p,Z' (-m),Z' !c,Z' !D,g])(_:Yk w a D b h)(_:b.map (·.1)=d.take i)(_:∀ r∈b,r.fit)(_:ZN a p)(_:ZG p H a)(_:a c\.lst e)(_:jO a d e)
theorem mX(F:Zl K "_law_ground" "_law_ground" J7 f fd)(DP:'g')(DK:-ZA 9 "_law_keys" TZ QQ)(DV:-ZA 7 "_law_value" TL Wv):-ZI ZJ 10 f fd SQ (VP w):=by
 show F.ko Us λa7 A a5 s H N Q E q h=>?_;let#[p,m,rfl,W,m0,a8,k]:=h;let nd:=Us.nd;let a3:=q.to 1;let a4:=q.to 7;let JU:=ZX.key q (n:=4) 'b'
 intro Xc;show#[_,ZK (Zf 2 nd (Zd DK q (Zu (pv 0) (Zd DP a3 (Zu (pv 0) (pv 1))))))
  (ZK (Zf 3 nd Eu)
  (ZK (Vi PassesOwn.never Z 'Ō' (VG 4 nd)
   (ZR (Fm JU (pv 3) (pv 4) (Zd DV a4 't') Z)))
  '1')),?_]
 exists 3,p,m,Z,W,Wl () ()
 intro n H1 n0 n1 W1 s1;let en:n=((n.toNat:Nat):Int):=()
 exists p,n.toNat,congrArg (λy=>[V.ref p,V.int y]) en,W1,by lia
 intro x N ts H2 nK hK kK fK rK lK W2 s2;let pK:x≠p:=KN W1 nK;let M:=s1|||s2;intro D H3 T a9 U a1;let W3:=W2.same U;let C:=U _ _ hK;let Dp:D≠p:=KN W2 T;let a0:D≠x:=λz=>by erw[z,hK] at T
 let J:H D=Y':=En M W2 T;let a6:=M|||ZG.of U;let lv:=↑kK;show#[1,x,Z,#[N,ZF.of C],OB (K:=K) (a:=x) (xs:=N) (AJ p m x D w ts H N)
  #[[],[],1,#[a1,.nil],Z,λr q=>by simp at q,W3,a6,C,kK.sm U] (λi σ H' _ hP=>by let#[_,_,_,_,_,_,_,_,_,h,_]:=hP;show ZF.of h) ?_ ?_]
 .rintro i u σ H4 hu ⟨L,l,x4,rfl,dr,d,fr,O,s4,G,g⟩;let hi:i<↑N:=(yW.mp hu).1;let#[t,R,kt]:=g.get hu;exists 1,p,Z,O;intro v vt H5 kv fv W5 X;let t5:=X.tupsW O;let c:=dr.but X t5 Dp;let lx:=Paired.length c.rows;let I:↑L=↑(ts.take i):=by rw[<-d,zW]
  rw[yA] at I;exists 2,D,l,t,Z,c.dk,(),kt.mono t5 _ _,Vo _ 3 (fK t (zG R))
  intro H6 Y B;let t6:=ww c.dk Y;let hn:t∉l.map (·.1):=by
   rw[c.keys,d];intro z;let#[j,S]:=vP z;rw[List.getElem?_take] at S;split at S
   .have:=(rW () (E' rK)).mp (S|||R.symm)
    lia
   .cases S
  let ep:PH l t u v=l++[(t,u,v)]:=by
   unfold PH;rw[aK λz=>hn (Wu.mp z)]
  rw[ep] at B;show#[L++[(t,vt)],l++[(t,u,v)],1,#[B,J4 (a:=((t,vt):ZW)) #[Z,kv.mono t6 _ _] (Paired.mapP c.rows λ_ _ z=>#[z.1,z.2.mono t6 _ _])],?_,λr a2=>?_,W5.stay Y (Ne.symm Dp),λb o e n=>Y b o (X b o (s4 b o e n) n) (Zg e J),Y _ _ (X _ _ G pK) (Ne.symm a0),(g.mono t5 _ _).mono t6 _ _]
  .rw[zH,d,yR,R];rfl
  .rcases zM.mp a2 with z|z
   .show fr r z
   .rwa[zV.mp z,#[fK t (zG R),fv]]
 .rintro σ H4 ⟨L,l,x4,rfl,dr,d,fr,O,s4,G,g⟩;rw[zA ()] at d
  let I:↑L=↑ts:=by rw[<-d,zW]
  show#[1,k D L l H4 J dr fr #v[d,rK] () O s4]
variable{jT jU CS CT CH CK CP CB:aj}
inductive UM(d:zZ)(x y:V)(H:Hp)(Q:VK):Prop
 |mk(p:aj)(c:je)(a:jm)(k:KT)(_:y=!p)(_:ZF d H p c)(_:jO H a c)(_:ZD H k x)(_:∀ t∈a,t.fits 3=V')(_:∀ b,Q (.bl b) H)
theorem lh(C:ZX D X.A):XF X (az .NotIn) (UM X.K):=by
 intro l s V H x y v u Q I L M h;let#[p,m,S,k,rfl,B,E,G,z,q]:=h;cases M;let#[a,r,J,P]:=I.list B;let U:=C.un;let w:∀ y,y∈⇑a->∃ b,PySem.SeqAt.EqAt X.A.in1 s y v b:=λy c=>by
  let d:y∈a:=by simpa using c
  let#[j,g]:=vP d;let R:=↑r;let O:=(yW.mp g).1;let i:m[j]?\(m[j]'()):=zT ()
  let#[T,e,n]:=r.get i;erw[g] at e;let#[t,o,F]:=E.get i;let N:=Vo t 3 (z t (zG o));show#[_,Pq t.depth t k X.A.in1 y v (zY _) (VY I _ _ _ F n) (VY I _ _ _ G L) (by change X.A.units+1+_<_;lia)]
 show PySem.SeqAt.notIn_listAt (λy=>@ite _ (PySem.SeqAt.EqAt X.A.in1 s y v true) 'ľ' true false) J.isList (λy c=>?_) #[.bl _,H,I,Z,q _];let#[b,f]:=w y c;by_cases h:PySem.SeqAt.EqAt X.A.in1 s y v true
 .rwa[aM h,h]
 .rw[aK h]
  cases b with
  |true=>show gS f h
  |false=>show f
inductive VI(i:je)(H:Hp)(Q:VK)(_:XK):Prop
 |mk(p d:aj)(g:je)(h:jm)(_:i=[!p,!d])(_:ZN H p)(_:H d\.lst g)(_:jO H h g)(_:∀ t∈h,t.fits 3=V')(_:d≠p)(_:↑g<=800)(_:∀(v:V)(t:KT)(a:je)(e:jm)(c:Hp),ZD c t v->t.fits 3=V'->c d\.lst a->jO c e a->(∀ t∈e,t.fits 3=V')->↑a<=↑g+1->ZN c p->(∀ b o,b≠p->b≠d->H b\o->c b\o)->Q v c)
theorem Uh:ZC ["_law_well_here","_law_known","_law_spot"] SI (Zc IK):=Zo
theorem AE(F0:Zl K "_law_any_key" "_law_any_key" IK f fd)(T:YM mg)(DP:'g')(DK:'ó'):-ZI ZJ 7 f fd SI VI:=by
 show F0.ko Uh λa9 A a6 s H vs Q E hr h=>?_;let#[p,l,x,X,rfl,W,hk,kk,J,O,a8,q]:=h;let nd:=Uh.nd;let M:=hr.to 1;intro Xc;show#[_,ZK (Z4 (PW.pt (Kd (YO 'š' (pv 1) (Yy Zt) (Z9 _)) (KR (YO U9 (Zd DP M 'C') ZM (Z9 _))))) (ZR (Zh (Zy K (pv 1) (Zd DP M (Zu (pv 0) 'V'))))) Z6)
  (ZK (Zf 2 nd (Zd DK hr 'C'))
  (ZK (Z4 (YO (lh hr) (pv 2) (pv 1) Z) (ZR (YF (QG xQ wO wN PU (pv 1) 'o'))) Z6)
  'y')),?_]
 exists 1,Yc;intro e0 a5;let n:=Zv a5 (.lst []);exists l,e0,x,Z,Z,ZF.of (n _ _ hk),ZF.of Za,_,Z;let r:=n _ _ hk;let I:=W.same n;generalize upd H e0 (.lst [])=Y at n r I⊢;let C:∀{H1:Hp},ZG p Y H1->ZN H1 p->∀(R:V->Hp->Prop),(∀ v t a,ZD a t v->t.fits 3=V'->ZN a p->ZG p Y a->R v a)->Xg 4 [V.ref p,V.int 3] H1 R E0:=λU W1 R hR=>#[p,(3),Z,W1,'b',λv t a g m k d=>hR v t a g m k (U|||d)]
 let B:∀{v:V}{t:KT}{a:Hp},ZD a t v->t.fits 3=V'->ZN a p->ZG p Y a->Q v a:=fun{v t a} g m k d=>q v t x X a g m (d _ _ r O) ((kk.sm n).mono (d.tupsW I) _ _) J () k λb o n1 _ e=>d b o (n b o e) n1
 let D:∀{v:V}{t:KT}{a:Hp},ZD a t v->t.fits 3=V'->ZN a p->ZG p Y a->a l\.lst x/\jO a X x/\(Q v a)/\Q v (upd a l (.lst (x++[v]))):=fun{v t a} g m k d=>by
  let u:=d _ _ r O;let N:=(kk.sm n).mono (d.tupsW I) _ _;let sK:ZG l a (upd a l (.lst (x++[v]))):=(ZG.refl l a).upd;let tK:=sK.tups u;show#[u,N,B g m k d,q v t (x++[v]) (X++[t]) _ (g.mono tK _ _) m Za ((N.mono tK _ _).append (.cons (g.mono tK _ _) .nil)) (λz hz=>?_) ⋯ (k.stay sK (Ne.symm O)) λb o n1 n2 e=>#v[ZU n2,d b o (n b o e) n1]]
  rcases zM.mp hz with y|y
  .show J z y
  .rwa[zV.mp y,m]
 let a0:↑x<1000:=()
 cases x with
 |nil=>
  show Zq (Zq #[1,C (ZG.refl _ _) I _ λv t a g m k d=>?_]);let#[G,a2,a3,a4]:=D g m k d;show#[2,l,_,X,t,Z,ZF.of G,a2,g,J,λb=>#[1,?_]]
  cases b with
  |true=>show Z2 #[1,.inl #[Z,_,ZF.of G],1,l,_,v,Z,Z,G,nn (),1,a4]
  |false=>show Zq #[1,a3]
 |cons u0 a7=>
  show Z2 #[1,p,(3),Z,I,Wl 'b' 'b',λz H1 z0 z1 W1 U=>#[_,1,Z,1,UX (λc=>?_) (λc=>?_)]]
  .let L:=U _ _ r O;exists 3,l,1,.inl (ZF.of L),p,1,W1,Wl (by simp<;>lia) (by simp at a0⊢ <;> lia)
   intro j a j0 j1 k d;let#[v,av,mv]:=NN (xs:=u0::a7) j0 j1;let u:=d _ _ L O;let#[i,hi]:=vP mv;let S:=U|||d;let#[t,et,kt]:=((kk.sm n).mono (S.tupsW I) _ _).get hi;show .inl #[l,_,_,v,Z,Z,ZF.of u,av,B kt (J t (zG et)) k S]
  .show#[1,C U W1 _ λv t a g m k d=>?_];let#[G,a2,a3,a4]:=D g m k d;show#[2,l,_,X,t,Z,ZF.of G,a2,g,J,λb=>#[1,?_]]
   cases b with
   |true=>show Z2 #[1,.inl #[Z,_,ZF.of G],1,l,_,v,Z,Z,G,nn (),1,a4]
   |false=>show Zq #[1,a3]
abbrev Da(a:jl):Prop:=(a.map (·.1)).Nodup
theorem BA:∀{d:jl},Da d->∀{x y:ZW},x∈d->y∈d->x.1=y.1->x=y
 |z::l,h,x,y,hx,hy,e=>by
  let c:=yQ.mp h;rcases zU.mp hx with a|a<;>rcases zU.mp hy with b|b
  .rw[a,b]
  .show gS (zQ.mpr #[y,b,by rw[<-e,a]]) c.1
  .show gS (zQ.mpr #[x,a,by rw[e,b]]) c.1
  .show BA c.2 a b e
theorem Ee{rs:jl}:∀(b:jm),(∀ t∈b,t∈rs.map (·.1))->∃ a:jl,a.map (·.1)=b/\∀ x∈a,x∈rs
 |[],_=>#[[],Z,λx h=>by cases h]
 |t::b,h=>by
  let#[r,g,e]:=zQ.mp (h t zX);let#[a,c,d]:=Ee b λj f=>h j (zS _ f);show#[r::a,by rw[yX,c,e],λx i=>(zU.mp i).elim (λz=>z▸g) (d x)]
theorem Yk.at_(h:Yk w H D d a)(j:r∈d):∃ v,OQ a r.1\v/\ZD H r.2 v:=by
 let#[i,b]:=vP j;let l:=Paired.length h.rows;let k:=(yW.mp b).1;let c:a[i]?\(a[i]'()):=zT ()
 let#[m,e,f,g]:=Paired.ixR h.rows c;erw[b] at e;have:=Gj h.dk.nd c;rw[f] at this;show#[_,this,g]
theorem Yk.nd(h:Yk w H D a b):Da a:=by
 change (a.map (·.1)).Nodup;rwa[<-h.keys,h.dk.nd]
inductive Xt(w:aw):Sp
 |mk{D:aj}{c:jl}{e:List (KT×V×V)}{H:Hp}{Q:VK}{E:XK}:Yk w H D c e->(∀ r∈c,r.fit)->↑c<=63->(∀(l:aj)(d:je)(a:jl)(b:Hp),ZE H b->H l=Y'->b l\.lst d->jO b (YB a) d->Up a->(∀ x,x∈a↔x∈c)->Q (!l) b)->Xt w [!D] H Q E
theorem AU:ZC To To (Zc Hl):=Zo
theorem mZ(F:Zl K "_law_sorted" "_law_sorted" Hl f fd)(T:YM mg)(DR:'ū'):-ZI ZJ 9 f fd To (Xt w):=by
 show F.ok AU (λvs H Q E h=>(by cases h;rfl)) (λa7 A a5 s H vs Q E hr h=>?_)
 let#[I,fr,a9,k]:=h;rename_i D C xs
 let a3:=ZX.key hr (n:=5) 'b'
 let DS:-ZA 6 "_law_rank" TF (Od KT.rk):=by
  let#[g,hJ,FG,b,kp,m]:=DR.ex;show#[g,hJ,FG.imp λvs H Q E h=>by
   let#[v,t,e,a,c,d]:=h;have:=Vo t 3 c;show#[v,t,(3),e,a,c,(),d],b,kp,m]
 intro Xc;exists _,ZR (Zh (Vt [0] To Z (WJ (Gx D7 Jq DS hr Z T.sorted Z (ZQ (pv 0)))) (λ_ _ _ _ _=>Ut) (λ_ _ _ _ _=>UF (Zu (pv 0) (oZ (w:=w) a3 (pv 1) (pv 0) (λ_ _=>rfl)))) #[Z,.inl Z,Z,trivial]));let lx:=Paired.length I.rows;let ek:=I.keys;let kf:∀ x∈xs,x.1.fits 3=V':=λx V=>by
  have:x.1∈C.map (·.1):=by rwa[<-ek,zQ.mpr #[x,V,Z]]
  let#[r,a2,e]:=zQ.mp this;rwa[<-e,(fr r a2).1]
 exists 1,D,xs,Z,I.dk,kf,by lia
 intro S G ts H1 s1 nS U ka X pw;let a6:=Dj (X.nodup_iff.mpr I.dk.nd) pw;let#[Y,R,B]:=Ee (rs:=C) ts λt ht=>by rwa[<-ek,X.mem_iff.mp ht]
 subst R;let a0:=I.same s1;let lw:=↑ka;rw[zW] at lw;let lp:=X.length_eq;rw[zW,zW] at lp;let a4:∀ x,x∈Y↔x∈C:=λx=>#[B x,λV=>by
  have:x.1∈Y.map (·.1):=X.mem_iff.mpr #v[ek,zQ.mpr #[x,V,Z]]
  let#[y,O,e]:=zQ.mp this;rwa[<-BA I.nd (B y O) V e,O]]
 show#[S,Z,#[G,ZF.of U],Ul (n:=↑G) (λi z=>G[i]?\z) (λE i u j=>ZE H1 j/\H1 E=Y'/\jO j ((YB Y).take i) u) (Yq ())
  (λE i u j hi l=>#[G,G[i],ZF.of (l.1 _ _ U),by simp[hi]]) (λE i u j z H4 hi l O=>#[O.1,O.2 G (ZF.of (l.1 _ _ U))]) (λE u j l=>#[G,ZF.of (l.1 _ _ U),zY _])
  (λE hE=>#[Zv hE _,hE,.nil]) (λE i u j z eE a8 hi hz l RR a1=>?_) (λE u j eE l=>?_)]
 .let#[J,W,p]:=l;let#[t,R,kt]:=ka.get hz;rw[zK] at R;let#[r,er,rfl]:=xU.mp R;let L:=a0.same J;let N:=B r (zG er);let#[v,hv,e2]:=L.at_ N;let ff:=(fr r N).1;exists 3,D,xs,r.1,1,L.dk,kt.sm J,Vo _ 3 ff,hv,Yc;intro q nq;let g:=Zv nq (.tup [z,v]);let eq:=Za (H:=j) (a:=q) (o:=.tup [z,v]);let M:=g _ _ eE;show a1 _ _ M #[UW (J|||g) W,W,?_];let tE:Z1 (upd j q (.tup [z,v])) (upd (upd j q (.tup [z,v])) E (.lst (u++[!q]))):=(ZG.refl E _).upd.tups M;unfold YB;rw[yR,zK,er];show((p.sm g).mono tE _ _).append (.cons (.tup (tE _ _ eq) (.cons ?_ (.cons ?_ .nil))) .nil)
  .show(kt.sm (J|||g)).mono tE _ _
  .show(e2.sm g).mono tE _ _
 .let#[J,W,p]:=l;rw[zA (by unfold YB;rw[zW];lia)] at p
  show k E u Y j (s1|||J) (s1.free W) eE p a6 a4
theorem Gg(a)(n s:Nat)(b:n<=↑a):WX a (Z' (n:Int)) (Z' ((n:Int)+(s:Int)))=(a.drop n).take s:=by
 unfold WX;let e:((n:Int)+(s:Int))=((n+s:Nat):Int):=()
 rw[e,HT.sIx_nat,HT.sIx_nat,vF b,List.take_eq_take_min (i:=s),yJ];rw[<-Nat.sub_min_sub_right,Nat.add_sub_cancel_left]
theorem Gy{q:aj}{a b c d h:Int}(j:0<=h)(k:h<4)(f e:Int)(l:f<=a/\a<=e)(n:f<=b/\b<=e)(o:f<=c/\c<=e)(p:f<=d/\d<=e):∃ m:Int,Xi [V.int a,-b,-c,-d] h\.int m/\f<=m/\m<=e:=by
 let#[v,g,i]:=NN (xs:=[V.int a,-b,-c,-d]) j k;simp only[zU,List.not_mem_nil,or_false] at i;rcases i with rfl|rfl|rfl|rfl
 .show#[a,g,l]
 .show#[b,g,n]
 .show#[c,g,o]
 .show#[d,g,p]
theorem yg{a b c:Int}(h:c<=a)(g:c<=b):c<=if a<b then a else b:=by split<;>assumption
theorem yp{a b c:Int}(g:b<=c):(if a<b then a else b)<=c:=by
 split
 .show Int.le_trans (Int.le_of_lt ‹_›) g
 .show g
theorem Tv{a b:Int}:(if a<b then a else b)<=a:=by
 split
 .show tY _
 .show Int.not_lt.mp ‹_›
structure Fo(jT jU:aj)(H0 H:Hp)(X0 X:ZV)(p lk:aj)(ls:je)(lev:jj):Prop where
 w:ZN H p
 sd:Sd jT jU H X lk ls U0 NY lev
 S:X.S=X0.S
 d:X.d=X0.d
 fr:∀ c o,c≠p->Ze X0 lk c->H0 c\o->H c\o/\Ze X lk c
 op:Ze X lk p
 up:X.lv.Pairwise (·<·)
theorem Fo.sh{f H:Hp}{g X:ZV}(F:Fo a b f H g X p c e l):Zm a b H X.S X.d c X.lv X.ts X.av X.ho X.as X.kvs e:=F.sd.sh
structure Vv(H0 H:Hp)(X:ZV)(p lk c:aj)(us:je):Prop where
 at_:H c\.lst us
 off:Ze X lk c
 new:H0 c=Y'
 ne:c≠p
section
variable{jT jU:aj}{H0 H H':Hp}{X0 X:ZV}{p lk:aj}{ls:je}{lev:jj}{c:aj}{us us':je}
theorem Fo.same(F:Fo jT jU H0 H X0 X p lk ls lev)(s:ZE H H'):Fo jT jU H0 H' X0 X p lk ls lev:=#[F.w.same s,F.sd.same s,F.S,F.d,λc o n f e=>#[s _ _ 'Ĉ'.1,'Ĉ'.2],F.op,F.up]
theorem Fo.wr(F:Fo jT jU H0 H X0 X p lk ls lev)(w:ZN H' p)(s:ZG q H H')(e:H q\.lst us)(o:Ze X lk q)(k:∀ c o,c≠p->H0 c\o->c≠q):Fo jT jU H0 H' X0 X p lk ls lev:=
 #[w,#[F.sh.but s e o,F.sd.dg],F.S,F.d,λc o n f e=>#[s _ _ 'Ĉ'.1 (k c o n e),'Ĉ'.2],F.op,F.up]
theorem Fo.pull(F:Fo jT jU H0 H X0 X p lk ls lev)(s:ZG p H H')(w:ZN H' p):Fo jT jU H0 H' X0 X p lk ls lev:=by
 let#[_,e]:=F.w.some;show F.wr w s e F.op λc _ n _=>n
theorem Fo.write(F:Fo jT jU H0 H X0 X p lk ls lev)(l:';')(s:ZG c H H'):Fo jT jU H0 H' X0 X p lk ls lev:=F.wr (F.w.stay s l.ne.symm) s l.at_ l.off λc o n e=>Zg e l.new
theorem Vv.same(l:';')(s:ZE H H'):Vv H0 H' X p lk c us:=#[s _ _ l.at_,l.off,l.new,l.ne]
theorem Vv.pull(l:';')(s:ZG p H H'):Vv H0 H' X p lk c us:=#[s _ _ l.at_ l.ne,l.off,l.new,l.ne]
theorem Vv.but(l:';')(s:ZG b H H')(n:c≠b):Vv H0 H' X p lk c us:=#[s _ _ l.at_ n,l.off,l.new,l.ne]
theorem Fo.fresh(F:Fo jT jU H0 H X0 X p lk ls lev)(n:H c=Y')(a:H0 c=Y')(e:H' c\.lst us):Vv H0 H' X p lk c us:=#[e,F.sh.new n,a,(KN F.w n)]
theorem Fo.put(F:Fo jT jU H0 H X0 X p lk ls lev){t:ZO}{a:YH}{kvs':List (ZY×V)}{X':ZV}(u:XB X.lv X.ts ↑X.ts t)(j:t.bs.Nodup){rest lev':jj}(v:lev.Perm (t.bs++rest))(b:lev'.Perm (↑X.ts::rest))(k:X'=#[X.S,X.d,X.lv++[↑X.ts],X.ts++[t],Yb t.bs ↑X.ts (YZ ↑X.ts X.av),Wn t.bs (Yi ↑X.ts X.ho),X.as++[a],kvs'])(l:∀ c o,c≠X.S->c≠X.d->(∀ i:Nat,i∈X.lv->c≠X.as[i]!.x/\c≠X.as[i]!.ab)->H c\o->H' c\o)(nx:H a.x=Y')(s:H a.th=Y')(r:H a.ab=Y')(R:Zm jT jU H' X'.S X'.d lk X'.lv X'.ts X'.av X'.ho X'.as X'.kvs ls):
  Fo jT jU H0 H' X0 X' p lk ls lev'/\Go lk H H' X X':=by
 subst k;let G:=N0 (lk:=lk) (X:=X) (t:=t) (av':=Yb t.bs ↑X.ts (YZ ↑X.ts X.av)) (ho':=Wn t.bs (Yi ↑X.ts X.ho)) (kvs':=kvs') F.sh.len F.sh.lt l nx s r;let#[A,B,C,D,e,z]:=F.w.ex;show#[#[#[A,B,C,D,G.fr _ _ F.op e,z],#[R,(F.sd.dg.put F.sh.lt u j v).perm b.symm],F.S,F.d,λc o n f e=>?_,G.off _ _ F.op e,?_],G]
 .let#[g,h]:=F.fr c o n f e;show#[G.fr _ _ h g,G.off _ _ h g]
 .change (X.lv++[↑X.ts]).Pairwise (·<·);rwa[xA,#[F.up,pV _ _,λx m y q=>by rw[zV.mp q];show F.sh.lt x m]]
theorem Vv.go(l:';')(G:Go lk H H' X a):Vv H0 H' a p lk c us:=#[G.fr _ _ l.off l.at_,G.off _ _ l.off l.at_,l.new,l.ne]
end
theorem BC(a)(n):YB (a.take n)=(YB a).take n/\YB 'Ű'=(YB a).drop n:=#[uR,uS]
theorem Ic(h:∀ b∈l,b<↑a):ZP (a++[t]) l=ZP a l:=US λb c=>by rw[Q4 (h b c)]
def Cg:Option aC->jC
 |some (.While _ b _ _)=>b
 |_=>[]
abbrev Cc:jn:=["_law_well_here","_law_shelf","_law_rows","_law_few","_law_level","_law_at","_law_size","_law_above"]
theorem QR:ZC Cc SL (Zc MN):=Zo
def Mt:List Stmt:=Cg ((Cg ((Xs MN)[4]?))[2]?)
structure NO(jT jU:aj)(H0 H:Hp)(X0 X:ZV)(p lk:aj)(ls:je)(Lv Ab:aj)(lev ab:jj)(h n m0:Nat)(rs:jl):Prop where
 fo:Fo jT jU H0 H X0 X p lk ls (ab++lev.drop n)
 lv:Vv H0 H X p lk Lv (iN lev)
 av:Vv H0 H X p lk Ab (iN ab)
 ne:Lv≠Ab
 hl:∀ b∈lev,b∈X.lv/\(X^b).h=h
 ha:∀ b∈ab,(X^b).h=h+1
 rows:ZP X.ts ab++ZP X.ts (lev.drop n)=rs
 few:2*↑ab<=n
 le:n<=↑lev
 cnt:↑X.ts=m0+↑ab
theorem SD{cdv:ai}{A:ax}{outer:jt}{s:ak}{Hs:Hp}{E:XK}(T:YM mg)(L:'d')(DS:'u')(hr:ZX 10 (A.deeper (envOfC "_law_tree" (Zc MN) ‹s› f cdv))):
  ∃ t,WG (Wk ZJ P w K mg jW Cc "_law_tree" (Zc MN) f cdv A outer s Hs E).nox (Mt.drop 2) t/\∀(I:YK)(W H:Hp)(u X:ZV)(p M l q o:aj)(O:je)(J:Int)(c j:jj)(h n Q g:Nat)(D:jl),
   NO jT jU W H u X p M O q o c j h n Q D->Up D->2<=g->g<=4->n+g<=↑c->↑c<=200->↑X.ts<=300 ->
    (∀(H':Hp)(X':ZV)(N:Nat),NO jT jU W H' u X' p M O q o c (j++[N]) h (n+g) Q D->I.nx [Z' !p,Z' !u.S,Z' !l,Z' (-J),Z' !q,Z' (.int ((n+g:Nat):Int)),Z' (.int (g:Int)),Z' !o] H') ->
     t I [Z' !p,Z' !u.S,Z' !l,Z' (-J),Z' !q,Z' (.int (n:Int)),Z' (.int (g:Int)),Z' !o] H:=by
 let nd:=QR.nd;show#[_,ZK (YF (QG xQ wO wN PU (pv 7) (ZQ (Zs (E:=E0) (pv 1) L.cS DS hr Zn (ZQ (QZ QY (pv 4) (Ue (pv 5)) (Ue '=')))))))
  (ZR (Zf 5 nd '=')),λI W H u X p M l q o O J c j h n Q g D r U z2 z4 zl a7 t3 a0=>?_]
 let F:=r.fo;let#[dS,hS]:=F.sh.sh.self;rw[F.S] at hS;exists 1,.inl #[Z,_,ZF.of r.av.at_],1,u.S,dS,1,hS,Z,5,_,1,Z,1,q,iN c,Z,ZF.of r.lv.at_;intro R n1;let lI:↑(iN c)=↑c:=zW _;rw[Gg (iN c) n g ()] at *
 let eq:((iN c).drop n).take g=iN ((c.drop n).take g):=by unfold iN;rw[uR,uS]
 rw[eq] at *;let#[H1,eU,g1,h1]:=Yo n1 (.lst (iN ((c.drop n).take g)));rw[eU];let F1:=F.same g1;let ld:↑(c.drop n)=↑c-n:=yJ;let lb:↑((c.drop n).take g)=g:=by rw[yA];lia
 let sp:(c.drop n).take g++c.drop (n+g)=c.drop n:=by rwa[<-List.drop_drop,wY g _]
 generalize a6:(c.drop n).take g=m at *;let mb:∀ b∈m,b∈c.drop n:=λb i=>by rwa[<-sp,zL _ i]
 let ml:∀ b∈m,b∈c:=λb i=>uH (mb b i);let bo:∀ b∈m,b∈j++c.drop n:=λb i=>yZ _ (mb b i);let G:=F.sd.dg.wf;let v:∀ b∈m,b∈X.lv:=λb i=>F.sd.dg.own b (bo b i);let a5:ZP X.ts (c.drop n)=ZP X.ts m++ZP X.ts (c.drop (n+g)):=by rw[<-QI,sp]
 let er:=r.rows;rw[a5] at er;let Ub:Up (ZP X.ts m):=by
  show xI.sublist (yN.map _ ?_) U;rwa[<-er,((yG _ _)|||yF _ _)]
 let ov:gX (YI X.ts m)\Zw (YE X.ts m):=N5 (h:=h) (λb i=>#[(G b (v b i)).ne,(r.hl b (ml b i)).2]) () () Ub
 let#[_,_,_,_,a2,_,_]:=IE G v ov;rw[<-F.S];exists X.S,X.d,M,R,X.lv,X.ts,X.av,X.ho,X.as,X.kvs,O,m,1,F1.sh,G,by have:=F.sd.all;lia,λb i=>#[v b i,#v[F.sd.dg.hs b (v b i),Nat.le_add_left_of_le (wR.mpr (bo b i))],zJ (F.sd.dg.avl (v b i)) (by have:=F.sd.all;lia)],h1,ov
 intro B a nx nt na a1 R2;let a3:(j++c.drop n).Perm ((YE X.ts m).bs++(j++c.drop (n+g))):=by
  change (j++c.drop n).Perm (m++(j++c.drop (n+g)));rwa[<-sp,<-yT,<-yT,(qR).append_right _]
 let a4:(j++[↑X.ts]++c.drop (n+g)).Perm (↑X.ts::(j++c.drop (n+g))):=by
  rwa[yT,tM]
 let#[F2,G2]:=F1.put (t:=YE X.ts m) (a:=a) (kvs':=Yh X.kvs (.inl (↑X.ts:Int)) !a.x) (Js G v ov) (N3 (λb i=>(G b (v b i)).ne) Ub) a3 a4 Z a1 nx nt na R2;let y:=(r.av.same g1).go G2;let V2:=(r.lv.same g1).go G2;let a8:=r.few;exists o,_,.int (↑X.ts:Nat),Z,Z,y.at_,Yq (by unfold iN;rw[zW];lia)
 let sX:ZG o B (upd B o (.lst (iN j++[.int (↑X.ts:Nat)]))):=(ZG.refl o B).upd;let F3:=F2.write y sX;let eI:iN j++[.int (↑X.ts:Nat)]=iN (j++[↑X.ts]):=by unfold iN;rw[zH];rfl
 let e3:upd B o (.lst (iN j++[.int (↑X.ts:Nat)])) o\.lst (iN (j++[↑X.ts])):=by rw[Za,eI]
 let V3:=V2.but sX r.ne;generalize upd B o (.lst (iN j++[.int (↑X.ts:Nat)]))=H3 at sX F3 e3 V3⊢;exists 2,_,1,Z;let e:((n:Int)+(g:Int))=((n+g:Nat):Int):=()
 suffices k:I.nx [Z' !p,Z' !u.S,Z' !l,Z' (-J),Z' !q,Z' (.int ((n+g:Nat):Int)),Z' (.int (g:Int)),Z' !o] H3 by
  rw[<-e,<-F.S] at k;show k
 let C:∀ b∈j,b<↑X.ts:=λb i=>F.sh.lt b (F.sd.dg.own b (zL _ i));let Y:∀ b∈c.drop (n+g),b<↑X.ts:=λb i=>F.sh.lt b (r.hl b (uH i)).1;show a0 H3 _ ↑X.ts #[F3,V3,#[e3,y.off,y.new,y.ne],r.ne,λb i=>?_,λb i=>?_,?_,?_,zl,?_]
 .let#[R,q2]:=r.hl b i;show#[zL _ R,by change (hJ (X.ts++[_]) b).h=h;rwa[Q4 (F.sh.lt b R),q2]]
 .change (hJ (X.ts++[_]) b).h=h+1;rcases zM.mp i with z|z
  .rwa[Q4 (C b z),r.ha b z]
  .rw[zV.mp z,Qf];let#[x,hx]:=List.exists_mem_of_length_pos (show 0<↑m by lia)
   have:=a2 x hx;have:=(r.hl x (ml x hx)).2
   lia
 .change ZP (X.ts++[_]) (j++[↑X.ts])++ZP (X.ts++[_]) (c.drop (n+g))=D;rw[QI,Ic C,Ic Y,WV,Qf];rw[<-er];change ZP X.ts j++(ZP X.ts m++[])++_=_;rw[zC,yT]
 .rw[zR,xV];lia
 .change ↑(X.ts++[_])=Q+↑(j++[↑X.ts]);rw[zR,zR,r.cnt];simp
  lia
theorem Fo.tups{a X:ZV}(F:Fo b f g H a X p j n h)(k:Zm b f g a.S a.d j a.lv a.ts a.av a.ho a.as a.kvs i)(l:ZN g p):Z1 g H:=λc o e=>by
 let#[_,_,_,_,m,_]:=l.ex;show(F.fr c _ (ZZ e m) (k.off e #v[] #[] #[]) e).1
theorem Bs{a:jj}(e:a=[]):Dg a d b c U0 NY []:=by
 subst e;show#[λ_ h=>(by cases h),.nil,λ_ h=>(by cases h),λ_ h=>(by cases h),λ_ h=>(by cases h),λ_ h=>(by cases h),#[λ_ h=>gS h (xW _),λ_ h=>h.elim,λ_ h=>h.elim,λ_ h=>h.elim]]
inductive VB(jT jU:aj):Sp
 |mk{X:ZV}{lk p l:aj}{ls us:je}{rs:jl}{H:Hp}{Q:VK}{E:XK}:ZN H p->Zm jT jU H X.S X.d lk X.lv X.ts X.av X.ho X.as X.kvs ls->X.ts=[]->X.lv=[]->Ze X lk p->Ze X lk l->H l\.lst us->jO H (YB rs) us->Up rs->(∀ x∈rs,x.fit)->↑rs<=61->l≠p ->
  (∀(H':Hp)(X':ZV)(r:jp),ZN H' p->X'.S=X.S->(∀ c o,c≠p->Ze X lk c->H c\o->H' c\o/\Ze X' lk c)->Ze X' lk p->Sd jT jU H' X' lk ls U0 NY r.toList->Yw X'.ts r=rs->↑X'.ts<=2*↑rs->X'.lv.Pairwise (·<·)->Q (YS r) H')->VB jT jU [!p,!X.S,!l] H Q E
inductive IN(jT jU:aj)(H0:Hp)(X0:ZV)(p lk l:aj)(ls:je)(Lv:aj)(fw:Int)(rs:jl):Nat->_T.St->Hp->Prop
 |mk{n:Nat}{lev:jj}{X:ZV}{x6 x7:jf}{H':Hp}:Fo jT jU H0 H' X0 X p lk ls lev->Vv H0 H' X p lk Lv (iN lev)->(∀ b∈lev,(X^b).h=0)->ZP X.ts lev=rs.take n->↑X.ts=↑lev->↑lev<=↑(rs.take n) ->
  IN jT jU H0 X0 p lk l ls Lv fw rs (↑rs-n) [Z' !p,Z' !X0.S,Z' !l,Z' (-fw),Z' !Lv,Z' (.int (n:Int)),x6,x7] H'
inductive CN(jT jU:aj)(H0:Hp)(X0:ZV)(p lk l:aj)(ls:je)(fw:Int)(rs:jl):Nat->_T.St->Hp->Prop
 |mk{h:Nat}{lev:jj}{X:ZV}{Lv:aj}{x5 x6 x7:jf}{H':Hp}:Fo jT jU H0 H' X0 X p lk ls lev->Vv H0 H' X p lk Lv (iN lev)->(∀ b∈lev,(X^b).h=h)->ZP X.ts lev=rs->↑X.ts+↑lev<=2*↑rs ->
  CN jT jU H0 X0 p lk l ls fw rs ↑lev [Z' !p,Z' !X0.S,Z' !l,Z' (-fw),Z' !Lv,x5,x6,x7] H'
inductive Hf(jT jU:aj)(H0:Hp)(X0:ZV)(p lk l:aj)(ls:je)(Lv Ab:aj)(fw:Int)(lev:jj)(h m0:Nat)(rs:jl):Nat->_T.St->Hp->Prop
 |mk{n:Nat}{ab:jj}{X:ZV}{x6:jf}{H':Hp}:NO jT jU H0 H' X0 X p lk ls Lv Ab lev ab h n m0 rs->↑lev-n≠1 ->
  Hf jT jU H0 X0 p lk l ls Lv Ab fw lev h m0 rs (↑lev-n) [Z' !p,Z' !X0.S,Z' !l,Z' (-fw),Z' !Lv,Z' (.int (n:Int)),x6,Z' !Ab] H'
theorem uh(F0:Zl K "_law_tree" "_law_tree" MN f fd)(T:YM mg)(L:'d')(DP:'g')(DL:'F')(DS:'u'):-ZI ZJ 11 f fd SL (VB jT jU):=by
 show F0.ok QR 'a' (λcdv A outer s H vs Q E hr h=>?_)
 induction h
 rename_i X0 lk p l ls us rs H Q E W R t0 v0 oP oL hl kr U rf r40 lp q
 let nd:=QR.nd;let hr1:=hr.mono (show 1<=10 from nofun)
 let#[tt,ht,hk]:=SD (jT:=jT) (jU:=jU) (P:=P) (w:=w) (K:=K) (jW:=jW) (f:=f) (cdv:=cdv) (A:=A) (outer:=outer) (s:=s) (Hs:=H) (E:=E) T L DS hr;intro Xc;show#[_,ZK (Zf 3 nd (Zd DP hr1 'C'))
  (ZK (Zf 4 nd (Yy Zt))
  (ZK (Zf 5 nd ZM)
  (ZK (Oh PassesOwn.never (YO NM (pv 5) (YA XG Z T.len XE 'o') (Z9 _))
   (ZK (Zf 6 nd '8')
   (ZK (YF (QG xQ wO wN PU (pv 4) (ZQ (Zs (E:=E0) (pv 1) L.cS DL hr Zn (ZQ (UZ Nv Z T.list OU (ZQ (QZ QY (pv 2) (Ue (pv 5)) (Ue '=')))))))))
   (ZR (Zf 5 nd '=')))))
  (ZK (Oh PassesOwn.never (YO U9 'm' ZM (Z9 _))
   (ZK (Zf 7 nd (Yy Zt))
   (ZK (Zf 5 nd ZM)
   (ZK (Oh PassesOwn.never (YO NM (pv 5) 'm' (Z9 _))
    (ZK (Zf 6 nd (YA (EM Z) Z T.min BS (Zu '8' (Z5 Vg 'm' (pv 5)))))
    (ZK (Z4 (YO Vm (Z5 Vg (Z5 Vg 'm' (pv 5)) (pv 6)) ZM (Z9 _))
     (ZR (Zf 6 nd (Zy K (Yy (Zu (Z5 Vg (pv 6) ZM) (Z5 Vn (pv 6) ZM))) (UZ KO Z T.int O8 (ZQ (V4 Vm (pv 6) ZM (Z9 _))))))) Z6) ht)))
   (ZR (Zf 4 nd (pv 7)))))))
  (ZR (Zh (Zy K (Z5 LV (pv 4) (Yy (ZQ OF))) ZM))))))),?_]
 exists 1,p,(4),Z,W,Wl 'b' 'b'
 intro fw H1 f0 f4 W1 s1;exists Yc;intro Lv nLv;let F0':Fo jT jU H H X0 X0 p lk ls []:=#[W,#[R,Bs v0],Z,Z,λc o _ f e=>#[e,f],oP,#v[v0,.nil]]
 let F1:=F0'.pull s1 W1;let#[H2,eU,g2,h2]:=Yo nLv (.lst []);rw[eU];let F2:=F1.same g2;let nLv0:H Lv=Y':=by
  cases z:H Lv with
  |none=>rfl
  |some o=>
   let#[_,_,_,_,ep,_]:=W1.ex;rw[s1 _ _ z (λy=>by erw[y,ep] at nLv)] at nLv
   cases nLv
 let V2:Vv H H2 X0 p lk Lv (iN []):=F1.fresh nLv nLv0 h2;let kT:∀{H':Hp}{X':ZV}{lev:jj},Fo jT jU H H' X0 X' p lk ls lev->H' l\.lst us/\jO H' (YB rs) us:=λF=>#[(F.fr l _ lp oL hl).1,kr.mono (F.tups R W) _ _];let lu:↑us=↑rs:=by have:=↑kr;rwa[<-this,zW _]
 exists IN jT jU H X0 p lk l ls Lv fw rs,#[_,.mk (n:=0) (lev:=[]) (x6:=Y') (x7:=Y') F2 V2 (λb hb=>by cases hb) Z (by rw[t0];rfl) (yY _)]
 rintro _ _ H3 (@⟨n,lev,X,x6,x7,_,F,V,h0,er,el,le⟩);let#[hl3,k3]:=kT F;exists 2,l,us,Z,.inl (ZF.of hl3),_,1,Z,_,Z;rcases yL n ↑us with hn|hn
 .rw[aJ (show (n:Int)<(↑us:Int) from nofun)]
  show Z2 #[_,λ_ _ z=>z,?_];exists 1,Yc;intro q1 nq;let#[H4,eU,g4,e4]:=Yo nq (.lst [.int 4,.int 1,.int 2,.int 4]);rw[eU];let F4:=F.same g4;let#[m1,am1,m10,m14]:=Gy (q:=q1) (a:=4) (b:=1) (c:=2) (d:=4) f0 f4 1 4 'b' 'b' 'b' 'b'
  show#[1,.inl #[q1,_,_,1,Z,ZF.of e4,am1,p,m1,Z,F4.w,Wl nofun nofun,λz1 H5 z10 z11 W5 s5=>#[_,1,Z,?_]]]
  let F5:=F4.pull s5 W5;let V5:=(V.same g4).pull s5;obtain⟨sz,hsz⟩:∃ sz:Nat,1+z1=(sz:Int):=#[(1+z1).toNat,nofun]
  first|rw[show (λi j:Int=>_T.V.int (i+j)) 1 z1=_T.V.int (sz:Int) from congrArg _T.V.int hsz]|rw[hsz]
  let#[hl5,k5]:=kT F5;let#[dS,hS]:=F5.sh.sh.self;rw[F5.S] at hS;exists 1,.inl #[Z,_,ZF.of V5.at_],1,X0.S,dS,1,hS,Z,5,_,1,Z,1,l,us,Z,ZF.of hl5;intro q2 n2;rw[Gg us n sz nofun] at *
  let#[H6,eU,g6,e6]:=Yo n2 (.lst ((us.drop n).take sz));rw[eU];exists q2,1,.inl (ZF.of e6);intro q3 n3;let#[H7,eU,g7,e7]:=Yo n3 (.lst ((us.drop n).take sz));rw[eU];let F7:=(F5.same g6).same g7;let V7:=(V5.same g6).same g7;let k7:jO H7 (YB ((rs.drop n).take sz)) ((us.drop n).take sz):=by
   rwa[(BC _ sz).1,(BC rs n).2,((k5.drop n).take sz).sm (g6|||g7)]
  let lq:↑((rs.drop n).take sz)=min sz (↑rs-n):=by rw[yA,yJ]
  let lt1:1<=min sz (↑rs-n):=Nat.le_min.mpr #[nofun,nofun]
  let lt4:min sz (↑rs-n)<=4:=zJ (Nat.min_le_left _ _) nofun
  let sb:((rs.drop n).take sz).Sublist rs:=(uK _ _)|||rX _ _;let G:OT ((rs.drop n).take sz):=M5 (λx hx=>rf x (sb.subset hx)) (xI.sublist (sb.map _) U) nofun nofun
  let ltk:↑(rs.take n)<=61:=by rw[yA];lia (splits:=8)
  rw[<-F7.S];exists X.S,X.d,lk,q3,X.lv,X.ts,X.av,X.ho,X.as,X.kvs,ls,_,(rs.drop n).take sz,Z,F7.sh,by have:=F7.sd.all;lia (splits:=8),e7,k7,G
  intro H8 a nx nt na fr8 R8;let#[F8,G8]:=F7.put (t:=Xo ((rs.drop n).take sz)) (a:=a) (kvs':=Yh X.kvs (.inl (↑X.ts:Int)) !a.x) (X':=#[X.S,X.d,X.lv++[↑X.ts],X.ts++[Xo ((rs.drop n).take sz)],YZ ↑X.ts X.av,Yi ↑X.ts X.ho,X.as++[a],Yh X.kvs (.inl (↑X.ts:Int)) !a.x]) (lev':=lev++[↑X.ts]) (rest:=lev) (N9 G) vU (yP.refl _) (qL _ _) (by rw[show (Xo ((rs.drop n).take sz)).bs=[] from rfl,ue,ti]) (λc o n1 n2 _ e=>fr8 c o n1 n2 e) nx nt na R8
  let V8:=V7.go G8;exists Lv,_,.int (↑X.ts:Nat),Z,Z,V8.at_,Yq (by unfold iN;rw[zW];lia (splits:=8))
  let sX:ZG Lv H8 (upd H8 Lv (.lst (iN lev++[.int (↑X.ts:Nat)]))):=(ZG.refl Lv H8).upd;let F9:=F8.write V8 sX;let eI:iN lev++[.int (↑X.ts:Nat)]=iN (lev++[↑X.ts]):=by unfold iN;rw[zH];rfl
  let e9:upd H8 Lv (.lst (iN lev++[.int (↑X.ts:Nat)])) Lv\.lst (iN (lev++[↑X.ts])):=by rw[Za,eI]
  generalize upd H8 Lv (.lst (iN lev++[.int (↑X.ts:Nat)]))=H9 at sX F9 e9⊢;exists 2,_,1,Z;let e:((n:Int)+(sz:Int))=((n+sz:Nat):Int):=nofun
  let alt:∀ b∈lev,b<↑X.ts:=λb hb=>F.sh.lt b (F.sd.dg.own b hb);exists ↑rs-(n+sz),nofun
  suffices k:IN jT jU H X0 p lk l ls Lv fw rs (↑rs-(n+sz)) [Z' !p,Z' !X0.S,Z' !l,Z' (-fw),Z' !Lv,Z' (.int ((n+sz:Nat):Int)),Z' (.int (sz:Int)),x7] H9 by
   rw[<-e,<-F7.S] at k;show k
  show .mk F9 #[e9,V8.off,V8.new,V8.ne] (λb hb=>?_) ?_ ?_ ?_
  .change (hJ (X.ts++[_]) b).h=0;rcases zM.mp hb with z|z
   .rwa[Q4 (alt b z),h0 b z]
   .rw[zV.mp z,Qf];rfl
  .change ZP (X.ts++[_]) (lev++[↑X.ts])=rs.take (n+sz);rw[QI,Ic alt,WV,Qf,er,List.take_add];change _++((rs.drop n).take sz++[])=_;rw[zC]
  .change ↑(X.ts++[_])=↑(lev++[↑X.ts]);rw[zR,zR,el];rfl
  .rw[zR,xV,List.take_add,zR,lq]
   lia (splits:=8)
 rw[aI (show ¬ (n:Int)<(↑us:Int) from nofun)]
 rw[zA nofun] at er le
 show Zq ?_;exists CN jT jU H X0 p lk l ls fw rs,#[_,.mk F V h0 er nofun]
 clear h0 er el le;rintro _ _ H4 (@⟨h,lev,X,Lv,x5,x6,x7,_,F,V,hh,er,l80⟩);let lI:↑(iN lev)=↑lev:=zW _;exists 1,Lv,1,.inl (ZF.of V.at_),_,1,Z,_,Z;rcases yL 1 ↑lev with h1|h1
 .rw[aJ (show ((↑(iN lev):Nat):Int)>1 from nofun)]
  show Z2 #[_,λ_ _ z=>z,?_];exists Yc;intro Ab nAb;let#[H5,eU,g5,e5]:=Yo nAb (.lst []);rw[eU];let nAb0:H Ab=Y':=by
   cases z:H Ab with
   |none=>rfl
   |some o=>
    let#[_,_,_,_,ep,_]:=F.w.ex;let#[#[dS,hS],hd,hlk]:=F.sh.sh;let n1:Ab≠p:=λy=>by erw[y,ep] at nAb
    let n2:Ab≠X0.S:=λy=>by erw[y,<-F.S,hS] at nAb
    let n3:Ab≠X0.d:=λy=>by erw[y,<-F.d,hd] at nAb
    let n4:Ab≠lk:=λy=>by erw[y,hlk] at nAb
    have:=(F.fr Ab o n1 #[n2,n3,n4,λi hi=>by erw[v0] at hi] z).1
    erw[nAb] at this
  let A5:Vv H H5 X p lk Ab (iN []):=F.fresh nAb nAb0 e5;let LA:Lv≠Ab:=λy=>by have:=V.at_;erw[y,nAb] at this
  exists Hf jT jU H X0 p lk l ls Lv Ab fw lev h ↑X.ts rs,#[_,.mk (n:=0) (ab:=[]) (x6:=x6) #[F.same g5,V.same g5,A5,LA,λb hb=>#[F.sd.dg.own b hb,hh b hb],(λb hb=>by cases hb),er,yY _,yY _,Z] nofun]
  generalize hm0:↑X.ts=m0 at l80;let V0:=V;clear V F hh er A5 hm0;rintro _ _ H6 (@⟨n,ab,X,x6,_,r,hre⟩);let F:=r.fo;exists 2,Lv,1,.inl (ZF.of r.lv.at_),_,1,Z,_,Z;let lef:=r.le;let fewf:=r.few;let cntf:=r.cnt;rcases yL n ↑lev with hn|hn
  .rw[aJ (show (n:Int)<((↑(iN lev):Nat):Int) from nofun)]
   show Z2 #[_,λ_ _ z=>z,?_];let R2:(2:Int)<=((↑(iN lev):Nat):Int)-(n:Int):=nofun
   let go:∀{D0:YK}{H7:Hp}(y:Int),NO jT jU H H7 X0 X p lk ls Lv Ab lev ab h n m0 rs->2<=y->y<=4->y<=(↑lev:Int)-n->(↑lev:Int)-n-y≠1->(∀ σ' H',(∃ m',m'<↑lev-n/\Hf jT jU H X0 p lk l ls Lv Ab fw lev h m0 rs m' σ' H')->D0.nx σ' H') ->
     tt D0 [Z' !p,Z' !X0.S,Z' !l,Z' (-fw),Z' !Lv,Z' (.int (n:Int)),Z' (-y),Z' !Ab] H7:=fun{D0 H7} y r7 y2 y4 yl yn fin=>by
    obtain⟨sz,rfl⟩:∃ sz:Nat,y=(sz:Int):=#[y.toNat,nofun]
    show hk D0 H H7 X0 X p lk l Lv Ab ls fw lev ab h n m0 sz rs r7 U nofun nofun nofun nofun nofun λH8 X8 N r8=>fin _ _ #[↑lev-(n+sz),nofun,.mk r8 nofun]
   exists 1,Yc;intro q2 nq2;let#[H7,eU,g7,e7]:=Yo nq2 (.lst [.int 3,.int 1,.int 3,.int 2]);rw[eU];let#[m2,am2,m20,m24]:=Gy (q:=q2) (a:=3) (b:=1) (c:=3) (d:=2) f0 f4 1 3 'b' 'b' 'b' 'b'
   let gr:∀{H8:Hp},ZE H7 H8->NO jT jU H H8 X0 X p lk ls Lv Ab lev ab h n m0 rs:=λs=>#[(r.fo.same g7).same s,(r.lv.same g7).same s,(r.av.same g7).same s,r.ne,r.hl,r.ha,r.rows,r.few,r.le,r.cnt];show#[1,.inl #[q2,_,_,1,Z,ZF.of e7,am2,p,m2,Z,(F.same g7).w,Wl nofun nofun,λz2 H8 z20 z21 W8 s8=>#[_,1,Z,?_]]]
   let r8:NO jT jU H H8 X0 X p lk ls Lv Ab lev ab h n m0 rs:=#[(r.fo.same g7).pull s8 W8,(r.lv.same g7).pull s8,(r.av.same g7).pull s8,r.ne,r.hl,r.ha,r.rows,r.few,r.le,r.cnt];exists 1,Lv,1,.inl (ZF.of r8.lv.at_),1,_,1,Z,_,_,Z;obtain⟨y,ey,y1,y2,y3⟩:∃ y:Int,(if ((↑(iN lev):Nat):Int)-(n:Int)<2+z2 then ((↑(iN lev):Nat):Int)-(n:Int) else 2+z2)=y/\2<=y/\y<=4/\y<=((↑(iN lev):Nat):Int)-(n:Int):=#[1,yg R2 nofun,yp nofun,Tv]
   rw[ey];exists 1,Lv,1,.inl (ZF.of r8.lv.at_),1,_,1,Z,1,_,1,Z,Z,_,Z;by_cases hy:((↑(iN lev):Nat):Int)-(n:Int)-y=1
   .rw[aJ (congrArg _T.V.int hy)];show Z2 #[1,_,1,Z,1,_,1,Z,Yc,λq3 nq3=>?_];let#[H9,eU,g9,e9]:=Yo nq3 (.lst [.int (y-1),.int (y+1)]);let eU:upd H8 q3 (.lst [(λi j:Int=>_T.V.int (i-j)) y 1,(λi j:Int=>_T.V.int (i+j)) y 1])=H9:=eU;rw[eU];let r9:NO jT jU H H9 X0 X p lk ls Lv Ab lev ab h n m0 rs:=#[r8.fo.same g9,r8.lv.same g9,r8.av.same g9,r.ne,r.hl,r.ha,r.rows,r.few,r.le,r.cnt];show#[1,Z,.inr #[1,?_]];by_cases h2:y=2
    .subst h2;show .inl #[q3,_,_,.int (2+1),Z,Z,ZF.of e9,Z,?_];show go (2+1) r9 nofun nofun nofun nofun λ_ _ z=>z
    .let ed:gU (_T.V.int y=_T.V.int 2)=false:=aI λz=>h2 (Lj z);rw[ed];show .inl #[q3,_,_,.int (y-1),Z,Z,ZF.of e9,Z,?_];show go (y-1) r9 nofun nofun nofun nofun λ_ _ z=>z
   .rwa[aI (λz=>hy (Lj z)),Zq (go y r8 nofun nofun nofun nofun λ_ _ z=>z)]
  .rw[aI (show ¬ (n:Int)<((↑(iN lev):Nat):Int) from nofun)]
   show Zq #[1,?_];let ed:lev.drop n=[]:=vA nofun
   let F':=r.fo;let er:=r.rows;rw[ed,zC] at F';rw[ed,show ZP X.ts []=[] from rfl,zC] at er;show#[↑ab,nofun,.mk F' r.av r.ha er nofun]
 .rw[aI (show ¬ ((↑(iN lev):Nat):Int)>1 from nofun)]
  show Zq #[1,Yc,λq1 n1=>?_];let#[H5,eU,g5,e5]:=Yo n1 (.lst [.non]);rw[eU];exists Lv,q1,_,1,Z,g5 _ _ V.at_,e5,nn (by rw[lI];simp;lia (splits:=8))
  intro q2 n2;let#[H6,eU,g6,e6]:=Yo n2 (.lst (iN lev++[.non]));rw[eU];let F6:=(F.same g5).same g6;let fin:∀ r:jp,lev=r.toList->Yw X.ts r=rs->Q (YS r) H6:=λr h1 h2=>by
   show q H6 X r F6.w F6.S F6.fr F6.op (by rwa[<-h1,F6.sd]) h2 nofun F6.up
  cases lev with
  |nil=>show .inl #[q2,_,(0),.non,Z,Z,ZF.of e6,Z,fin Y' Z er]
  |cons b lev'=>
   cases lev' with
   |nil=>
    show .inl #[q2,_,(0),.int (b:Nat),Z,Z,ZF.of e6,Z,fin (Z' b) Z ?_];rwa[<-er,WV,(zC _).symm]
   |cons c m=>simp at h1
structure Gs(jT jU CTb:aj)(H:Hp)(X:ZV)(lk:aj)(ls:je)(Ts:List (aj×jp))(jV:jj):Prop where
 sd:Sd jT jU H X lk ls U0 NY (We Ts++jV)
 tab:∀ p∈Ts,YN CTb H p.1 X.S p.2/\Ze X lk p.1
 nd:(Ts.map (·.1)).Nodup
section
variable{jT jU CTb:aj}{H H':Hp}{X:ZV}{lk:aj}{ls:je}{Ts:List (aj×jp)}{jV:jj}
theorem Gs.fr(G:'6')(m:Z1 H H')(a:∀ b o,¬ Ze X lk b\/b∈Ts.map (·.1)->H b\o->H' b\o):Gs jT jU CTb H' X lk ls Ts jV:=
 #[#[G.sd.sh.fr m λb o n e=>a b o (.inl n) e,G.sd.dg],λp c=>by
  let#[#[d,e],o]:=G.tab p c;show#[#[d,a _ _ (.inr (zQ.mpr #[p,c,Z])) e],o],G.nd]
theorem Gs.same(G:'6')(s:ZE H H'):Gs jT jU CTb H' X lk ls Ts jV:=G.fr 'è' λb o _ e=>s b o e
theorem Gs.inn(G:'6')(a:p∈Ts):∀ i,p.2\i->i∈X.lv:=λi e=>G.sd.dg.own i (zL _ (xT.mpr #[p,a,by rw[e];simp]))
theorem Gs.but(G:'6')(s:ZG p H H')(e:H p\.lst d)(o:Ze X lk p):Gs jT jU CTb H' X lk ls Ts jV:=by
 show G.fr (s.tups e) λb x h q=>s b x q λz=>?_;subst z;rcases h with h|h
 .show h o
 .let#[y,c,rfl]:=zQ.mp h;let#[#[f,a],_]:=G.tab y c;erw[a] at e
end
section
variable{jT jU CTb:aj}
theorem nU{X:ZV}{s T a:aj}{t:je}{r:jp}{H:Hp}{Q:Hp->Prop}(R:Zm jT jU H X.S X.d s X.lv X.ts X.av X.ho X.as X.kvs t)(p:∀ i,r\i->i∈X.lv/\1<=X.ho i)(h:H T=Y')(j:H a=Y')(k:∀ c,ZE H c->YN CTb c T X.S r->Q c):Y3 jT jU CTb [!T,!X.S,YS r] (upd (upd H a (.own T)) T (.ins CTb a [])) (λv c=>v=.non/\Q c) E0:=by
 let l:ZE H (upd (upd H a (.own T)) T (.ins CTb a [])):=λb o q=>by
  rwa[ZU (Zg q h),ZU (Zg q j),q]
 let#[u,n]:=R.sh.self;show Y3.mk (X:=X) (dx:=a) Za (Zg n h).symm (R.same l) p λm e g=>#[Z,?_];show k m (λb o q=>e b o (Zg q h) (l b o q)) g
inductive Xx(jT jU CTb:aj)(w:aw):Sp
 |mk{X:ZV}{b p D:aj}{i:jl}{j:List (KT×V×V)}{H:Hp}{Q:VK}{E:XK}:ZN H p->Zm jT jU H X.S X.d b X.lv X.ts X.av X.ho X.as X.kvs []->X.ts=[]->X.lv=[]->Ze X b p->Yk w H D i j->(∀ r∈i,r.fit)->↑i<=40 ->
  (∀(g:Hp)(a:ZV)(h:aj)(e:List (aj×jp)),ZN g p->a.S=X.S->(∀ c o,c≠p->Ze X b c->H c\o->g c\o/\Ze a b c)->Ze a b p->Gs jT jU CTb g a b [] e []->a.lv.Pairwise (·<·)->↑a.ts<=80->(∀ q∈e,↑(Yw a.ts q.2)<=40)->0<↑e->↑e<=4->g h\.lst (WY e)->Ze a b h->(∀ c o,Ze X b c->H c\o->c≠h/\c∉e.map (·.1))->Q (!h) g)->Xx jT jU CTb w [!p,!X.S,!D] H Q E
abbrev xf:jn:=["_law_well_here","_law_shelf","_law_model","_law_first","_law_tables_here","_law_k"]
theorem Ux:ZC xf SK (Zc K5):=Zo
inductive EZ(jT jU CTb:aj)(H:Hp)(X:ZV)(lk p D fi tl:aj)(X1:ZV):Nat->_T.St->Hp->Prop
 |mk{n:Nat}{X':ZV}{Ts:List (aj×jp)}{x5:jf}{H':Hp}:ZN H' p->X'.S=X.S->(∀ c o,c≠p->Ze X lk c->H c\o->H' c\o/\Ze X' lk c)->Ze X' lk p->Gs jT jU CTb H' X' lk [] Ts []->X'.lv=X1.lv->X'.ts=X1.ts->(∀ q∈Ts,↑(Yw X1.ts q.2)<=40)->↑Ts=n+1->H' tl\.lst (WY Ts)->Ze X' lk tl->(∀ c o,Ze X lk c->H c\o->c≠tl/\c∉Ts.map (·.1))->EZ jT jU CTb H X lk p D fi tl X1 n [Z' !p,Z' !X.S,Z' !D,Z' !fi,Z' !tl,x5] H'
theorem AY(F:Zl K "_law_tables" "_law_tables" K5 f fd)(T:YM mg)(LT:PQ K mg CTb)(DP:'g')(DO:-ZA 9 "_law_sorted" To (Xt w))(DE:-ZA 11 "_law_tree" SL (VB jT jU))(DT:'Ł')(DF:-ZB ZJ 7 CTb "fork" TY (Wt jT jU CTb)):-ZI ZJ 12 f fd SK (Xx jT jU CTb w):=by
 show F.ok Ux 'a' (λl7 A l3 s H vs Q E hr h=>?_)
 induction h
 rename_i X J p D rs xs H Q E W R et ev op dr rf l5 q
 let nd:=Ux.nd;let c0:=hr.mono (show 1<=11 by lia)
 let i3:=hr.mono (show 6<=11 by lia)
 let i4:=hr.mono (show 7<=11 by lia)
 let i5:=hr.mono (show 9<=11 by lia)
 intro Xc;show#[_,ZK (Zf 3 nd (Ek DT i3 Z LT.tab (Zu (pv 1) (Zd DE hr (Wf (pv 0) (pv 1) (Zd DO i5 (ZQ (pv 2))))))))
  (ZK (Zf 4 nd (Yy 'z'))
  (ZK (Vi PassesOwn.never Z (OZ Z T.range (ZQ (Zd DP c0 'C'))) 'ŧ'
   (ZR (YF (QG xQ wO wN PU (pv 4) (ZQ (FQ (E:=E0) (Zy K (pv 4) (Zd DP c0 (Zu (pv 0) 'm'))) LT.cT DF i4 Zn))))))
  'ö')),?_]
 let#[l8,a9]:=W.some;show#[4,.mk dr rf () λl m0 c7 H1 s1 nl hl kl U1 c1=>?_]
 let lp:l≠p:=(Zg a9 nl).symm;let l6:↑c7=↑rs:=by
  let n1:c7.Nodup:=xI.imp (λh=>λe=>by rw[e] at h;erw[UI] at h) (List.pairwise_map.mp U1)
  let n2:rs.Nodup:=xI.of_map (·.1) (λa b h e=>h (by rw[e])) dr.nd
  show yP.length_eq ((vN n1 n2).mpr c1)
 show VB.mk (X:=X) (W.same s1) (R.same s1) et ev op (R.new nl) hl kl U1 (λx hx=>rf x ((c1 x).mp hx)) () lp λH2 X2 r2 W2 a4 i0 c5 B e4 l9 i1=>?_
 let a3:∀ c o,c≠p->Ze X J c->H c\o->H2 c\o/\Ze X2 J c:=λc o n f e=>i0 c o n f (s1 _ _ e);rw[<-a4];intro T1 dx O i7 _;let e0:Sd jT jU H2 X2 J [] U0 NY (r2.toList++[]):=#v[zC,B]
 show nU (X:=X2) B.sh (λi e=>#[e0.hi i e,e0.held i e]) O i7 λH3 s3 i2=>?_;rw[a4];exists 1,Yc;intro k U;let#[H4,eU,g4,h4]:=Yo U (.lst [!T1]);rw[eU];let W4:=(W2.same s3).same g4;let c8:=s3|||g4;let i9:Ze X2 J T1:=B.sh.new O;let l2:Ze X2 J k:=(B.sh.same s3).new U;let G4:Gs jT jU CTb H4 X2 J [] [(T1,r2)] []:=by
  show#[#[B.sh.same c8,?_],λy M=>?_,by simp]
  .have:We [(T1,r2)]++[]=r2.toList:=by simp[We]
   rwa[this,B.dg]
  .cases zV.mp M;let#[dx,e]:=i2;show#[#[dx,g4 _ _ e],i9]
 let i8:∀ c o,Ze X J c->H c\o->c≠p->c≠k/\c∉[(T1,r2)].map (·.1):=λc o f e n=>by
  let e2:=(a3 c o n f e).1;show#[Zg (s3 _ _ e2) U,λz=>Zg e2 O (zV.mp z)]
 let c4:p≠k/\p∉[(T1,r2)].map (·.1):=by
  let#[o2,e2]:=W2.some;show#[Zg (s3 _ _ e2) U,λz=>Zg e2 O (zV.mp z)]
 show#[1,p,(4),Z,W4,Wl 'b' 'b',λj H5 j0 j1 W5 s5=>#[j,Z,(),(),?_]]
 let#[o4,e3]:=W4.some;show OS (n:=j.toNat) (EZ jT jU CTb H X J p D T1 k X2) (.mk W5 a4 (λc o n f e=>?_) c5 (G4.but s5 e3 c5) Z Z (λy M=>?_) Z (s5 _ _ h4 c4.1.symm) l2 λc o f e=>?_) (λi σ H6 hi hP=>?_) (λσ H6 hP=>?_)
 .let#[a,b]:=a3 c o n f e;show#[s5 _ _ (c8 _ _ a) n,b]
 .cases zV.mp M;rwa[e4,l6,l5]
 .by_cases z:c=p
  .rwa[z,c4]
  .show i8 c o f e z
 .let#[W6,a5,G,t,G6,a6,L,a2,c2,h6,Y,m]:=hP;rename_i X6 C x5
  let e1:k≠p:=by
   let#[o6,e6]:=W6.some;show λz=>(m p _ op a9).1 z.symm
  let l4:↑(WY C)=↑C:=zW _;exists 1,.inl #[Z,_,ZF.of h6],3,k,1,.inl (ZF.of h6),p,1,W6,Wl () (by rw[l4];lia)
  intro a H7 a0 a1 W7 s7;let#[o6,e6]:=W6.some;let G7:=G6.but s7 e6 t;let h7:=s7 _ _ h6 e1;let#[v,av,mv]:=NN (xs:=WY C) a0 ()
  let#[y,M,rfl]:=zQ.mp mv;let#[#[dy,a8],oy]:=G7.tab y M;show .inl #[k,_,_,1,Z,ZF.of h7,av,y.1,dy,1,a8,Z,.mk #[dy,a8] oy G7.sd (G7.inn M) λH8 X8 T8 g S8 e5 e8 c3 c9 l0=>?_];let h8:=g.fr _ _ Y h7;let c6:=g.off _ _ Y h7;let#[o7,e7]:=W7.some;exists k,_,1,Z,h8,Yq (by rw[l4];lia)
  let e9:WY C++[V.ref T8]=WY (C++[(T8,y.2)]):=by simp[WY]
  rw[e9];let s9:ZG k H8 (upd H8 k (.lst (WY (C++[(T8,y.2)])))):=(ZG.refl k H8).upd;let h9:=Za (H:=H8) (a:=k) (o:=.lst (WY (C++[(T8,y.2)])));generalize upd H8 k (.lst (WY (C++[(T8,y.2)])))=H9 at s9 h9⊢;let l1:∀ c o,Ze X J c->H c\o->∃ o',H7 c\o'/\Ze X6 J c:=λc o f e=>by
   by_cases z:c=p
   .rwa[z,#[_,e7,t]]
   .show#[_,s7 _ _ (G c o z f e).1 z,(G c o z f e).2]
  show .mk (Ts:=C++[(T8,y.2)]) ?_ (g.S|||a5) (λc o n f e=>?_) (g.off _ _ t e7) #[#[S8.sh.but s9 h8 c6,S8.dg.perm ?_],λz N=>?_,?_] (e8|||a6) (e5|||L) (λz N=>?_) (by rw[zR,c2];rfl) h9 c6 λc o f e=>#[(m c o f e).1,λz=>?_]
  .let#[a,b,c,d,e,r]:=W7.ex;show#[a,b,c,d,s9 _ _ (g.fr _ _ t e) e1.symm,r]
  .let#[a,b]:=G c o n f e;let a7:=s7 _ _ a n;show#[s9 _ _ (g.fr _ _ b a7) (m c o f e).1,g.off _ _ b a7]
  .rwa[IY,zC,zC,qR]
  .rcases zM.mp N with I|I
   .let#[#[dz,N],oz]:=G7.tab z I;let h:=g.fr _ _ oz N;show#[#[dz,#v[g.S,s9 _ _ h (ZZ h h8)]],g.off _ _ oz N]
   .cases zV.mp I;let#[dz,N]:=c9;show#[#[dz,s9 _ _ N (ZZ N h8)],l0]
  .rw[zH];show yO.mpr #[G7.nd,by simp,λa ha b hb z=>?_]
   let#[u,hu,rfl]:=zQ.mp ha;let#[#[du,i6],ou]:=G7.tab u hu;show c3 _ _ ou i6 (z|||#v[hb])
  .rcases zM.mp N with I|I
   .show a2 z I
   .rwa[zV.mp I,a2 y M]
  .rw[zH] at z;rcases zM.mp z with I|I
   .show(m c o f e).2 I
   .let#[o',h',oc]:=l1 c o f e;show c3 _ _ oc h' (by simpa using I)
 .let#[W6,a5,G,t,G6,a6,L,a2,c2,h6,Y,m]:=hP;rename_i X6 C x5
  show#[1,q H6 X6 k C W6 a5 G t G6 #v[a6,i1] (by rw[L];lia) (λy M=>#v[L,a2 y M]) () () h6 Y m]
end
mutual
theorem FL:∀(t:KT)(r:Nat),t.wide r=V'->t.wide (r+1)=V'
 |.int _,_,_=>rfl
 |.str _,_,_=>rfl
 |.tup l,r,h=>by
  rw[KT.wide,zI,zI] at h⊢;let h0:=of_decide_eq_true h.1;exists aJ (Nat.succ_pos _),h.2.1;have:=wideL_mono l (r-1) h.2.2;rw[show r-1+1=r+1-1 by lia] at this
  show this
theorem wideL_mono:∀(l:jm)(r:Nat),wideL l r=V'->wideL l (r+1)=V'
 |[],_,_=>rfl
 |t::l,r,h=>by
  rw[wideL,zI] at h⊢;show#[FL t r h.1,wideL_mono l r h.2]
end
theorem RO{v:KT}(h:v.fits 3=V'):v.wide 4=V':=FL _ _ (Cp _ _ h)
theorem pd:WZ (gZ k v d) k=[v]:=by
 let e:∀ a b:jl,WZ (a++b) k=WZ a k++WZ b k:=λa b=>by unfold WZ;rw[yB,zH]
 unfold gZ;rw[e,LL λr c z=>?_]
 .change WZ ([(k,v)]++d.filter λr=>k.lt r.1) k=[v];rw[e,LL (rs:=d.filter _) λr c z=>?_]
  .unfold WZ;simp[QV]
  .have:=(yH.mp c).2;erw[z,UI] at this
 .have:=(yH.mp c).2;erw[z,UI] at this
theorem qf(W:ZN H p):∃ o,H p\.lst o:=by
 let#[_,_,_,_,a,_]:=W.ex;show#[_,a]
theorem Sd.fr{X:ZV}{f:je}(S:Sd a c H X e f U g o)(m:Z1 H d)(h:∀ b o,¬ Ze X e b->H b\o->d b\o):Sd a c d X e f U g o:=#[S.sh.fr m h,S.dg]
section
variable{jT jU CTb CK:aj}
abbrev M'(jT jU CTb:aj)(H:Hp)(p T k:aj)(X:ZV)(h:aj)(m:je)(U:Nat->Prop)(g:Nat->Nat)(n:jj)(r:jp)(q:je)(Q:Hp->Prop):Prop:=
 ∀(e:Hp)(a:ZV)(i:je)(l:jp)(d:je)(j:jm),a.S=X.S->(∀ c o,c≠p->c≠T->c≠k->Ze X h c->H c\o->e c\o/\Ze a h c)->Sd jT jU e a h i U g (l.toList++n)->YN CTb e T a.S l->Ze a h T->Ze a h k->↑(Yw a.ts l)<=↑(Yw X.ts r)+1->(∀ b,U b->hJ a.ts b=hJ X.ts b)->↑a.ts<=↑X.ts+17->↑i<=↑m+200->e k\.lst d->jO e j d->(∀ t∈j,t.fits 3=V')->↑d<=↑q+1->Q e
inductive WT(jT jU CTb:aj):Sp
 |mk{X:ZV}{b p T a:aj}{d c:je}{U:Nat->Prop}{g:Nat->Nat}{e:jj}{r:jp}{h:jm}{H:Hp}{Q:VK}{E:XK}:ZN H p->Ze X b p->YN CTb H T X.S r->Ze X b T->Sd jT jU H X b d U g (r.toList++e)->↑(Yw X.ts r)<=140->↑X.ts<=740->↑d<=340000->H a\.lst c->jO H h c->(∀ t∈h,t.fits 3=V')->a≠p->↑c<=700->Ze X b a ->
  M' jT jU CTb H p T a X b d U g e r c (Q '<')->WT jT jU CTb [!p,!T,!a] H Q E
abbrev zq:jn:=["_law_well_here","_law_table","_law_known","_law_spot","_law_value_here"]
theorem P7:ZC zq Ti (Zc HI):=Zo
theorem xk(F:Zl K "_law_deed" "_law_deed" HI f fd)(T0:YM mg)(LT:PQ K mg CTb)(e3:'g')(DK:-ZA 7 "_law_any_key" SI VI)(DV:-ZA 7 "_law_value" TL Wv)(DU:-ZB ZJ 37 CTb "take" TM (Xy jT jU CTb))(DP:-ZB ZJ 15 CTb "put" SS (Ws jT jU CTb))(DS:'%')(DR:-ZA 8 "_law_rows_alike" TV VD):-ZI ZJ 38 f fd Ti (WT jT jU CTb):=by
 show F.ok P7 'a' (λl0 A i6 s H vs Q E N h=>?_)
 induction h
 rename_i X lk p T kn ls us U g oo r ts H Q E W op i7 oT S m1 t7 l1 M ks kf kp u7 a2 q
 let nd:=P7.nd;let e9:=N.mono (show 1<=37 by lia)
 let c3:=N.mono (show 7<=37 by lia)
 let i0:=N.mono (show 8<=37 by lia)
 let D:=N.mono (show 12<=37 by lia)
 let c1:=N.mono (show 15<=37 by lia)
 intro Xc;show#[_,ZK (Zf 3 nd (Zd DK c3 (Zu (pv 0) (pv 2))))
  (ZK (Z4 (YO Vm (Zd e3 e9 'C') ZM (Z9 _))
   (ZK (YF (Zs (E:=E0) (pv 1) LT.cT DU N Zn 'z'))
   (ZR (Zh (V4 (MC N.units0) (Zs (E:=E0) (pv 1) LT.cT DS D Zn 'z') (Yy Zt) (Z9 _))))) Z6)
  (ZK (Zf 4 nd (Zd DV c3 't'))
  (ZK (YF (Zs (E:=E0) (pv 1) LT.cT DP c1 Zn (Zu (pv 3) (pv 4))))
  (ZR (Zh (Zd DR i0 (Zu (Zs (E:=E0) (pv 1) LT.cT DS D Zn 'z') (Yy 'å')))))))),?_]
 let#[dx,hT]:=id i7;let#[m0,c0]:=qf W;let Tp:T≠p:=ZZ hT c0;let Tk:T≠kn:=ZZ hT M;exists 2,p,kn,us,ts,Z,W,M,ks,kf,kp,by lia
 intro vk k e2 e0 H1 i1 fk e7 i2 c4 e1 W1 e4;show#[1,p,(2),Z,W1,Wl 'b' 'b',λj H2 j0 j1 W2 s2=>#[Z,1,?_]]
 let i:∀ b o,b≠p->b≠kn->H b\o->H2 b\o:=λb o t n2 e=>s2 _ _ (e4 b o t n2 e) t;let m2:Z1 H H2:=λb xs e=>i b _ (ZZ e c0) (ZZ e M) e;let S2:Sd jT jU H2 X lk ls U g (r.toList++oo):=S.fr m2 λb o n e=>i b o (λz=>n (z▸op)) (λz=>n (z▸a2)) e;let O:=i1.mono (s2.tupsW W1) _ _;let c6:=i2.mono (s2.tupsW W1) _ _;let a9:=s2 _ _ e7 kp;let C:=i _ _ Tp Tk hT;by_cases zj:j=0
 .rw[zj];show Z2 ?_;show#[1,T,dx,1,C,Z,1,.mk #[dx,C] S2 () () () oT O fk λH3 X3 l5 ys r3 Fd eS J c8 S3 G a6 f3 i8 l3 l7 l2 l9 FT ky=>?_]
  let m3:Z1 H2 H3:=λb ys e=>(J b _ (ZZ e C) (S2.sh.off e #v[] #[] #[]) e).1
  let#[a4,d]:=id G;let rl:↑(Yw X3.ts r3)<=↑(Yw X.ts r):=#v[a6,tZ _ _]
  show#[1,T,a4,1,d,Z,1,.mk G S3 () () (O.mono m3 _ _) fk λH5 S5 y5 a0 a a3 f5 l8 e6 m=>?_]
  let e5:WZ (Yw X3.ts r3) k=[]:=LL λx hx z=>by
   rw[a6] at hx;have:=(yH.mp hx).2;erw[z,QV] at this
  rw[e5] at m;let y0:y5=[]:=by cases m;rfl
  subst y0;exists Yc;intro p1 t;let#[H6,eU,l,h6]:=Yo t (.lst []);rw[eU];exists S5,p1,[],Z,Z,ZF.of (l _ _ e6),ZF.of h6;let R:=J kn _ Tk.symm a2 a9;let i5:Z1 H3 H5:=λb xs e=>a b _ (ZZ e S3.sh.sh.looks) e;show q H6 X3 a0 r3 e2 e0 eS (λc o t n2 n3 oc e=>?_) (a3.same l) #[a4,l _ _ (a _ _ c8.2.2.1 d)] c8 R.2 () f3 i8 () (l _ _ (a _ _ R.2.2.2.1 R.1)) (((c6.mono m3 _ _).mono i5 _ _).sm l) c4 e1
  let#[c2,u]:=J c o n2 oc (i c o t n3 e);show#[l _ _ (a _ _ u.2.2.1 c2),u]
 .rw[aI (λy=>zj 'ħ')];show Zq ?_;exists 1,p,Z,W2;intro vv v H3 kv fv W3 s3;let a1:=s3.tupsW W2;let S3:Sd jT jU H3 X lk ls U g (r.toList++oo):=S2.fr a1 λb o n e=>s3 _ _ e λz=>n (z▸op);let c5:=O.mono a1 _ _;let i3:=c6.mono a1 _ _;let e8:=s3 _ _ a9 kp;let d:=s3 _ _ C Tp;show#[1,T,dx,1,d,Z,2,.mk #[dx,d] S3 () () () oT c5 fk kv fv λH4 X4 l6 r4 eS L c9 S4 I a7 f4 i9 l4=>?_]
  let m4:Z1 H3 H4:=λb ys e=>(L b _ (ZZ e d) (S3.sh.off e #v[] #[] #[]) e).1
  let#[a5,a8]:=id I;let rl:↑(Yw X4.ts (Z' r4))<=↑(Yw X.ts r)+1:=#v[a7,CA]
  show#[1,T,a5,1,a8,Z,1,.mk I S4 () () (c5.mono m4 _ _) fk λH5 Fd y5 a0 a a3 f5 nF hF m=>?_]
  let c7:Z1 H4 H5:=λb xs e=>a b _ (ZZ e S4.sh.sh.looks) e;rw[a7,pd] at m;exists 1,Yc;intro p1 t;let#[H6,eU,l,h6]:=Yo t (.lst [vv]);rw[eU];let i4:=((kv.mono m4 _ _).mono c7 _ _).sm l;exists Fd,p1,y5,[vv],1,l _ _ hF,h6,m.sm l,.cons i4 .nil,λx hx=>#v[zV.mp hx,RO fv],yS Z
  intro H7 s7;let B:=l|||s7;let Y:=L kn _ Tk.symm a2 e8;show q H7 X4 a0 (Z' r4) e2 e0 eS (λc o t n2 n3 oc e=>?_) (a3.same B) #[a5,B _ _ (a _ _ c9.2.2.1 a8)] c9 Y.2 rl f4 i9 () (B _ _ (a _ _ Y.2.2.2.1 Y.1)) (((i3.mono m4 _ _).mono c7 _ _).sm B) c4 e1
  let#[c2,u]:=L c o n2 oc (s3 _ _ (i c o t n3 e) t);show#[B _ _ (a _ _ u.2.2.1 c2),u]
end
section
variable{jV:jo}{σ:_T.St}{H:Hp}
theorem Ct(I:'c')(A)(n:A.units+100<cLine){g:jF}(l:KV k g):∀{c:List (ZY×V)}{b:jF},KV c b->(∀ p∈c,∃(t:KT)(u:V),YU k p.1\u/\ZD H t p.2/\ZD H t u/\t.depth<=100)->PySem.W.KeqHits A s g b true
 |[],_,d,_=>by
  cases d;show .nil
 |p::c,_,d,h=>by
  cases d with
  |@cons _ a _ D i f=>
   let#[t,u,e,w,x,E]:=h p zX;let#[B,b]:=a;let#[y,j,C]:=Yp.some_of (v:=u) (o:=valueAt g p.1) (by rwa[<-e,l.val p.1])
   let m:p.1=B:=i.1;rw[m] at j;let q:=Pq t.depth t t A b y (zY _) (VY I _ _ _ w i.2) (VY I _ _ _ x C) ()
   rw[QV] at q;show PySem.W.KeqHits.hit j q (Ct I A n l f λz r=>h z (zS _ r))
inductive Pe(x y:V)(H:Hp)(Q:VK):Prop
 |mk(a b:aj)(c d:List (ZY×V))(_:x=!a)(_:y=!b)(_:H a\.dK c)(_:H b\.dK d)(_:↑c=↑d)(_:∀ p∈c,∃(t:KT)(u:V),YU d p.1\u/\ZD H t p.2/\ZD H t u/\t.depth<=100)(_:Q 'ř' H)
theorem wu(m:ZX k X.A):XF X 'Ġ' (Pe):=by
 intro jV s σ H x y v u Q I n o h;let#[a,b,w,C,rfl,rfl,i,j,t,l,q]:=h;cases n;cases o;let#[E,f,p,c,d]:=MS I.hok i;let#[F,g,r,QB,e]:=MS I.hok j;let z:=KV.length c;let B:=KV.length QB;let D:=m.un;show PySem.W.keq_ne f g d e () (λ_=>Ct I X.A.in1 (by change X.A.units+1+100<cLine;lia) QB c l) ?_
 show XI I q (by rw[show (↑p==↑r)=V' by simp;lia];rfl)
end
theorem EF(l m):We (l++m)=We l++We m:=tF
theorem HG(L M)(x)(a):(We (L++x::M)++a).Perm ((x.2.toList++[])++(We (L++M)++a)):=by
 let e:We (x::M)=x.2.toList++We M:=wT;rw[EF,EF,e,zC,<-yT (x.2.toList),<-yT (We L)];show yP.append_right _ ?_;rwa[<-yT,qR.append_right _]
theorem Cz[DecidableEq c]:∀{a:List (c×V)}{p:c×V},(a.map (·.1)).Nodup->p∈a->YU a p.1\p.2
 |q::a,p,b,h=>by
  let b:=yQ.mp b;rcases zU.mp h with e|e
  .rwa[e,Qg Z]
  .rw[Qc λz=>b.1 (by change q.1∈_;rwa[show q.1=p.1 from z,rQ e])]
   show Cz b.2 e
theorem Bb(h:F.Nodup):(kN F).Nodup:=xI.map _ (λa b n e=>n (by have:=Sum.inl.inj e;lia)) h
theorem om(f:Uo H g d c F)(k:Uo H e B a i)(n:F.Nodup)(z:i.Nodup)(h:∀ x,x∈F↔Y2 g b x)(E:∀ x,x∈i↔Y2 e b x)(s:∀ x,Y2 g b x->hJ e x=hJ g x)(I:∀ x,Y2 g b x->(ML (g^x)).depth<=100):
  ↑a=↑c/\∀ p∈a,∃(t:KT)(u:V),YU c p.1\u/\ZD H t p.2/\ZD H t u/\t.depth<=100:=by
 let m:∀ x,x∈i↔x∈F:=λx=>#v[E,h,Y2.to s]
 show#[?_,λp w=>?_]
 .rwa[f.len,k.len,yP.length_eq ((vN z n).mpr m)]
 .let r:p.1∈a.map (·.1):=rQ w;rw[k.keys] at r;let#[j,l,q]:=zQ.mp r;let#[v,D,y]:=k.yes j l;let#[u,C,G]:=f.yes j ((m j).mp l);let A:=(h j).mp ((m j).mp l);let o:=Cz #v[k.keys,Bb z] w
  erw[<-q,D] at o;rw[s j A] at y;show#[_,u,by rwa[<-q,C],y,G,I j A]
theorem Ac(k:WF g d)(i:j∈g):(ML (d^j)).depth<=100:=by
 let e:∀ l:jm,(∀ t∈l,t.depth<=10)->jR l<=10:=λl=>by
  induction l with
  |nil=>show λ_=>by rw[jR];lia
  |cons a l n=>
   intro h;let o:=h a zX;let p:=n λt c=>h t (zS _ c);rw[jR]
   lia
 let s:jR (if (d^j).h=0 then YB (d^j).rows else (d^j).bs.map λb:Nat=>KT.int (b:Int))<=10:=by
  show e _ λt c=>?_;split at c
  .let#[y,m,rfl]:=zQ.mp c;let f:=(k j i).inn y m;let q:=Vo _ 3 f.1;let r:=Vo _ 3 f.2;change KT.depth (.tup [y.1,y.2])<=10;simp only[KT.depth,jR]
   lia
  .let#[b,_,rfl]:=zQ.mp c;simp only[KT.depth]
   lia
 unfold ML;simp only[KT.depth,jR]
 lia
section
variable{jT jU CTb:aj}{H H':Hp}{X X':ZV}{lk:aj}{ls ls':je}{L M:List (aj×jp)}{x:aj×jp}{jV:jj}
abbrev LM(L M:List (aj×jp))(jV:jj):jj:=We (L++M)++jV
theorem Gs.part(G:Gs jT jU CTb H X lk ls (L++x::M) jV):Sd jT jU H X lk ls (Y2 X.ts (LM L M jV)) (λy=>(LM L M jV).count y) (x.2.toList++[]):=#[G.sd.sh,G.sd.dg.split (HG L M x jV)]
theorem Gs.oth(G:Gs jT jU CTb H X lk ls (L++x::M) jV):∀ i∈LM L M jV,i∈X.lv:=λi a=>G.sd.dg.own i ((HG L M x jV).mem_iff.mpr (yZ _ a))
theorem Gs.whole(G:Gs jT jU CTb H X lk ls (L++x::M) jV)(S:Sd jT jU H' X' lk ls' (Y2 X.ts (LM L M jV)) (λy=>(LM L M jV).count y) (r.toList++[]))(i:X'.S=X.S)(t:YN CTb H' x.1 X'.S r)(o:Ze X' lk x.1)(j:∀ c o,c≠x.1->c∈(L++x::M).map (·.1)->Ze X lk c->H c\o->H' c\o/\Ze X' lk c):Gs jT jU CTb H' X' lk ls' (L++(x.1,r)::M) jV:=by
 let l:((L++(x.1,r)::M).map (·.1))=(L++x::M).map (·.1):=by simp
 show#[#[S.sh,S.dg.join.perm (HG L M (x.1,r) jV).symm],λp f=>?_,#v[l,G.nd]]
 by_cases z:p=(x.1,r)
 .rwa[z,#[t,o]]
 let b:p∈L++x::M:=by
  rcases zM.mp f with y|y
  .show zL _ y
  .show yZ _ (zS _ ((zU.mp y).resolve_left z))
 let k:p.1≠x.1:=λe=>by
  let d:=G.nd;rw[zH,yX] at d;let a:=yO.mp d;rcases zM.mp f with y|y
  .show a.2.2 _ (zQ.mpr #[p,y,Z]) _ zX e
  .show(yQ.mp a.2.1).1 (by rwa[<-e,zQ.mpr #[p,(zU.mp y).resolve_left z,Z]])
 let#[#[g,e],n]:=G.tab p b;let#[h,m]:=j p.1 _ k (zQ.mpr #[p,b,Z]) n e;show#[#[g,#v[i,h]],m]
theorem mE{r:jp}(s:∀ y,Y2 X.ts b y->hJ X'.ts y=hJ X.ts y)(h:∀ i,r\i->i∈b):Yw X'.ts r=Yw X.ts r:=by
 cases r with
 |none=>rfl
 |some i=>change (X'^i).rows=(X^i).rows;rw[s i (.root (h i Z))]
end
theorem q9{X:Cx}{K:zZ}{e:Expr}{f:Str}{pos:Pos}{a:TE}(d:PE X e a)(c:attributeBase e f X.env 'ń'=aG e X.env)(b:X.K=K:=by rfl):PE X 'Ę' (DQ K a f):=by
 subst b;show XS d c
theorem BB{K:zZ}{H c:Hp}{a:aj}{d:je}(m:∀ b o,H b\o->c b\o)(h:ZF K H a d):ZF K c a d:=by
 rcases h with (h|⟨o,h⟩)|h
 .show .inl (.inl (m _ _ h))
 .show .inl (.inr #[o,m _ _ h])
 .show .inr h
theorem Az{a:Type}{l:List a}{n:Nat}(h:n<↑l):∃ L x M,l=L++x::M/\↑L=n:=#[l.take n,l[n],l.drop (n+1),by rw[<-xH h,wY],by rw[yA];lia]
section
variable{jT jU CTb CK:aj}
abbrev IO:jn:=["_law_script","_law_well_here","_law_model","_law_shelf","_law_tables_here","_law_known","_law_pins","_law_numbers","_law_k","_law_at","_law_roots","_law_before","_law_j"]
theorem Qu:ZC IO SG (Zc QN):=Zo
structure La(jT jU CTb:aj)(H H3:Hp)(X:ZV)(lk:aj)(ls:je)(tl pl kn:aj)(Ts:List (aj×jp))(jV:jj)(us:je)(ts:jm)(n:Nat):Prop where
 gs:Gs jT jU CTb H3 X lk ls Ts jV
 old:∀ c o,H c\o->H3 c\o/\Ze X lk c
 htl:H3 tl\.lst (WY Ts)
 otl:Ze X lk tl
 hpl:H3 pl\.lst (iN jV)
 opl:Ze X lk pl
 hkn:H3 kn\.lst us
 okn:Ze X lk kn
 ks:jO H3 ts us
 kf:∀ t∈ts,t.fits 3=V'
 ul:↑us<=41+n
 rl:∀ q∈Ts,↑(Yw X.ts q.2)<=40+n
 tn:↑X.ts<=80+17*n
 ln:↑ls<=2000*n
 t0:0<↑Ts
 t4:↑Ts<=4
 nt:tl≠pl/\kn≠tl/\kn≠pl
 new:∀ c o,H c\o->c≠kn/\c∉Ts.map (·.1)
theorem La.same{H b d:Hp}{X:ZV}{lk:aj}{i:je}{k j h:aj}{g:List (aj×jp)}{a:jj}{p:je}{m:jm}{n:Nat}(l:La jT jU CTb H b X lk i k j h g a p m n)(s:ZE b d):La jT jU CTb H d X lk i k j h g a p m n:=
 #[l.gs.same s,λc o e=>#[s _ _ 'ĵ'.1,'ĵ'.2],s _ _ l.htl,l.otl,s _ _ l.hpl,l.opl,s _ _ l.hkn,l.okn,l.ks.sm s,l.kf,l.ul,l.rl,l.tn,l.ln,l.t0,l.t4,l.nt,l.new]
theorem La.pull{X:ZV}(l:La jT jU CTb H b X g m i h d k a r q n)(W:ZN b p)(y:Ze X g p)(t:i≠p)(u:h≠p)(v:d≠p)(x:∀ c o,H c\o->c≠p)(s:ZG p b j):La jT jU CTb H j X g m i h d k a r q n:=by
 let#[o,e]:=W.some;show#[l.gs.but s e y,λc o e=>#[s _ _ 'ĵ'.1 (x c o e),'ĵ'.2],s _ _ l.htl t,l.otl,s _ _ l.hpl u,l.opl,s _ _ l.hkn v,l.okn,l.ks.mono (s.tupsW W) _ _,l.kf,l.ul,l.rl,l.tn,l.ln,l.t0,l.t4,l.nt,l.new]
inductive Ec(jT jU CTb:aj)(H:Hp)(z D S lk tl pl kn nu:aj)(jV:jj):Nat->_T.St->Hp->Prop
 |mk{i:Nat}{X:ZV}{ls:je}{Ts:List (aj×jp)}{us:je}{ts:jm}{x1 x8 x9 x10 x11 x12:jf}{H3:Hp}:La jT jU CTb H H3 X lk ls tl pl kn Ts jV us ts i->X.S=S->Ec jT jU CTb H z D S lk tl pl kn nu jV i [Z' !z,x1,Z' !D,Z' !S,Z' !tl,Z' !kn,Z' !pl,Z' !nu,x8,x9,x10,x11,x12] H3
theorem vw{cdv:ai}{A:ax}{outer:jt}{s:ak}{Hs:Hp}{E:XK}(T0:YM mg)(LT:PQ K mg CTb)(DW:'ê')(DP:'g')(DO:'&')(DD:'+')(hr:ZX 39 (A.deeper (envOfC "law" (Zc QN) ‹s› f cdv))):
  ∃ t,WG (Wk ZJ P w K mg jW IO "law" (Zc QN) f cdv A outer s Hs E).nox ((Xs QN).drop 8) t/\∀(D0:YK)(H H5:Hp)(z D nu:aj)(ns:jy)(X:ZV)(lk:aj)(ls:je)(G pl W:aj)(Ts:List (aj×jp))(h:jj)(us:je)(ts:jm)(x1 x8 x9 l3 l7 I:jf),
   ZF K H z (ns.map V.int)->↑ns<=63->La jT jU CTb H H5 X lk ls G pl W Ts h us ts 0->(∀ H',D0.rt '<' H') ->
   t D0 [Z' !z,x1,Z' !D,Z' !X.S,Z' !G,Z' !W,Z' !pl,Z' !nu,x8,x9,l3,l7,I] H5:=by
 let nd:=Qu.nd;let e5:=hr.mono (show 1<=39 from nofun)
 let e7:=hr.mono (show 4<=39 from nofun)
 let e6:=hr.mono (show 38<=39 from nofun)
 show#[_,ZK (Vi PassesOwn.never Z (Jv Z T0.range (Zu ZM (YA (GF Z) Z T0.max Ji (Zu ZM (YA (EM Z) Z T0.min BS (Zu (YA XG Z T0.len XE 't') ZM)))))) (VG 8 nd)
   (ZK (Zf 1 nd (Zd DW e5 (Zu (pv 0) (pv 8))))
   (ZK (Zf 9 nd (Zd DP e5 (Zu (pv 1) (YA XG Z T0.len XE 'å'))))
   (ZK (Me (i:=10) [] [] nd Z Z Z 'ý' (λ_ _ _ _ _=>Ut) (λ_ _ _ _ _=>q9 (K:=K) (pv 0) Z) trivial)
   (ZK (Zf 11 nd 'ô')
   (ZK (Z4 (OA (Xk (Zd DD e6 (Wf (pv 1) (Zy K (pv 4) (pv 9)) (pv 5))))) U4 Z6)
   (ZK (Z4 (YO (wu hr) 'ô' (pv 11) (Z9 _)) U4 Z6)
   (ZR (Vi PassesOwn.never Z (OZ Z T0.range (ZQ (YA XG Z T0.len XE 'å'))) (VG 12 nd)
    (ZR (Z4 (PW.pt (Kd (YO Nh (pv 12) (pv 9) (Z9 _)) (KR (YO Nh (XS (Zy K (pv 4) (pv 12)) Z) (Zy K (pv 10) (pv 12)) (Z9 _))))) U4 Z6)))))))))))
  'ì',λD0 H H5 z D nu ns X0 lk r0 G pl W p1 h s2 s0 x1 x8 x9 l3 l7 I e3 hn l0 m2=>?_]
 obtain⟨M,eM,M3,p0⟩:∃ M:Int,(if (if (40:Int)<(↑(ns.map V.int):Int) then (40:Int) else (↑(ns.map V.int):Int))>4 then (if (40:Int)<(↑(ns.map V.int):Int) then (40:Int) else (↑(ns.map V.int):Int)) else 4)=M/\4<=M/\M<=40:=by
  exists 1,?_
  ·(repeat' split)<;>lia (splits:=8)
  ·(repeat' split)<;>lia (splits:=8)
 let o6:=BB (K:=K) (λb o e=>(l0.old b o e).1) e3;exists 1,z,ns.map V.int,Z,.inl o6,_,1,_,1,(1),M,congrArg (λz=>[V.int 1,V.int z]) eM,#[nofun,nofun,nofun,nofun]
 clear eM;show OS (lo:=1) (n:=(M-1).toNat) (Ec jT jU CTb H z D X0.S lk G pl W nu h) (.mk l0 Z) ?_ ?_
 .intro i σ H3 hi B;let#[l,eS]:=B;rename_i X ls Ts us ts y1 y8 y9 s7 s8 s9
  rw[<-eS];exists 2,z,ns,1,BB (λb o e=>(l.old b o e).1) e3,hn,nofun,nofun
  intro p H4 np s4 W4;let l4:=l.same s4;let op:=l.gs.sd.sh.new np;let n1:G≠p:=Zg l.htl np;let n2:pl≠p:=Zg l.hpl np;let n3:W≠p:=Zg l.hkn np;let n4:∀ c o,H c\o->c≠p:=λc o e=>Zg (l.old c o e).1 np;let lT:↑(WY Ts)=↑Ts:=zW _;let t0:=l.t0;let t4:=l.t4;exists 2,G,1,.inl (ZF.of l4.htl),p,1,W4,Wl nofun (by rw[lT];lia (splits:=8))
  intro a c3 a0 a1 W5 s5;let l5:=l4.pull W4 op n1 n2 n3 n4 s5;clear l4 l s5;show#[1,G,Z,#[_,ZF.of l5.htl],Ul (n:=↑Ts) (λi z=>(WY Ts)[i]?\z) (λD i ys H3=>ZE c3 H3/\c3 D=Y'/\ys=((Ts.map (·.2)).take i).map YS) (Yq nofun)
   (λD i ys H3 hi B=>#[_,(WY Ts)[i]'#v[lT,hi],ZF.of (B.1 _ _ l5.htl),zT _]) (λD i ys H3 z H4 hi B hy=>#[hy.1,hy.2 _ (ZF.of (B.1 _ _ l5.htl))]) (λD ys H3 B=>#[_,ZF.of (B.1 _ _ l5.htl),#v[lT,zY _]])
   (λD hD=>#[Zv hD _,hD,Z]) (λD i ys H3 z eD p3 hi hz B RR m3=>?_) (λrl ys H6 eD B=>?_)]
  .let#[s3,nD,rfl]:=B;rw[zK] at hz;let#[q,eq,rfl]:=xU.mp hz;let#[#[dx,hT],oT]:=l5.gs.tab q (zG eq);show#[1,q.1,CTb,dx,_,YS q.2,Z,s3 _ _ hT,LT.cT,LT.nr,Z,m3 _ H3 eD #[UW s3 nD,nD,?_]];rw[yR,zK,eq,zH];rfl
  let#[s6,c1,rfl]:=B;rw[zA #v[zW,zY _]] at eD
  let i9:Ze X lk rl:=l5.gs.sd.sh.new c1;let d:=l5.same s6;let W6:=W5.same s6;let o2:p≠rl:=by let#[o,e]:=W5.some;show Zg e c1
  let o1:W≠rl:=Zg l5.hkn c1;clear l5;let#[L,x,g,eT,eL]:=Az (l:=Ts) (n:=a.toNat) nofun
  obtain rfl:a=((↑L:Nat):Int):=nofun
  subst eT;clear eL;let J:=d.gs;let R6:=J.sd.sh;let v8:↑X.lv<=800:=zJ J.sd.all (by have:=d.tn;lia (splits:=8))
  let c2:∀ q∈L++x::g,YN CTb H6 q.1 X.S q.2:=λq F=>(J.tab q F).1;let p9:=d.ln;let r9:=d.tn;show#[4,.mk R6 J.sd.dg.wf v8 c2 J.oth d.htl d.hpl d.otl.2.2.1 d.opl.2.2.1 nofun nofun λH7 d1 i0 F1 n6 m R7 n7 N n9 m4 p6=>?_]
  let i7:Ze X lk d1:=R6.new n7;let i3:Z1 H6 H7:=λb xs e=>m b _ (ZZ e R6.sh.looks) e;let G7:Gs jT jU CTb H7 X lk n6 (L++x::g) h:=#[#[R7,J.sd.dg],λq F=>by
   let#[#[dx,e],o]:=J.tab q F;show#[#[dx,m _ _ o.2.2.1 e],o],J.nd]
  let W7:ZN H7 p:=by
   let#[b1,b2,b3,b4,e,r]:=W6.ex;show#[b1,b2,b3,b4,m _ _ op.2.2.1 e,r]
  let O:=m _ _ d.otl.2.2.1 d.htl;let a3:=m _ _ d.opl.2.2.1 d.hpl;let C:=m _ _ d.okn.2.2.1 d.hkn;let a5:=m _ _ i9.2.2.1 eD;let mx:x∈L++x::g:=by simp
  let#[a6,o3]:=G7.tab x mx;let#[p2,a7]:=id a6;let m0:Xi (WY (L++x::g)) ((↑L:Nat):Int)\V.ref x.1:=Yf (by simp[WY])
  let r5:=d.rl x mx;show#[3,.inl #[G,_,_,.ref x.1,Z,Z,ZF.of O,m0,1,.mk W7 op a6 o3 G7.part nofun nofun nofun C (d.ks.mono i3 _ _) d.kf n3 (by have:=d.ul;lia (splits:=8)) d.okn λH8 X8 r1 Y o8 o7 a2 u S8 l2 o4 i8 r6 f8 r7 p7 m7 n0 m9 s1=>#[1,Zq ?_]]]
  let c0:∀{c:aj}{xs:je},H7 c\.lst xs->c≠x.1:=λe=>ZZ e a7;let#[r4,a8]:=W7.some;let n8:∀ q∈(L++x::g).map (·.1),q≠p/\q≠W:=λq F=>by
   let#[y,hy,rfl]:=zQ.mp F;let#[#[dy,ey],_]:=G7.tab y hy;show#[ZZ ey a8,ZZ ey C]
  let G8:=G7.whole S8 a2 l2 o4 λc o z1 z2 z3 e=>u c o (n8 c z2).1 z1 (n8 c z2).2 z3 e;let R8:=G8.sd.sh;let#[Q,U]:=u G _ n1 (c0 O) d.nt.2.1.symm d.otl O;let#[a4,T]:=u pl _ n2 (c0 a3) d.nt.2.2.symm d.opl a3;let#[e8,l1]:=u rl _ o2.symm (c0 a5) o1.symm i9 a5;let c4:d1≠x.1:=ZZ N.at_ a7;let c7:d1≠p:=ZZ N.at_ a8;let c5:d1≠W:=ZZ N.at_ C;let i4:Z1 H7 H8:=λb ys e=>(u b _ (ZZ e a8) (ZZ e a7) (ZZ e C) (G7.sd.sh.off e #v[] #[] #[]) e).1
  let o5:=(u d1 _ c7 c4 c5 i7 N.at_).2;let m1:=N.to i4 λo e=>(u d1 _ c7 c4 c5 i7 e).1;let eV:WY (L++(x.1,Y)::g)=WY (L++x::g):=by simp[WY]
  rw[<-eV] at Q;let p5:↑(L++(x.1,Y)::g)=↑(L++x::g):=by simp
  let o9:↑X8.lv<=800:=zJ G8.sd.all nofun
  rw[<-a2];show#[4,.mk R8 G8.sd.dg.wf o9 (λq F=>(G8.tab q F).1) G8.oth Q a4 U.2.2.1 T.2.2.1 nofun nofun λH9 d2 i1 F2 i2 v R9 r3 c9 o0 m5 p8=>?_]
  rw[a2];let a9:Z1 H8 H9:=λb xs e=>v b _ (ZZ e R8.sh.looks) e;let e0:=m1.to a9 λo e=>v _ _ o5.2.2.1 e;let#[n5,l8]:=om e0 c9 n9 o0 m4 m5 f8 λy hy=>Ac J.sd.dg.wf (hy.inn J.sd.dg.wf J.oth);show#[1,d2,d1,i1,i0,Z,Z,c9.at_,e0.at_,n5,l8,1,Zq ?_];let R:=v _ _ U.2.2.1 Q;let e9:=v _ _ l1.2.2.1 e8;let G9:Gs jT jU CTb H9 X8 lk i2 (L++(x.1,Y)::g) h:=#[#[R9,G8.sd.dg],λq F=>by
   let#[#[dx,e],o]:=G8.tab q F;show#[#[dx,v _ _ o.2.2.1 e],o],G8.nd]
  let r2:Z1 H6 H9:=λb xs e=>a9 _ _ (i4 _ _ (i3 _ _ e));let l9:La jT jU CTb H H9 X8 lk i2 G pl W (L++(x.1,Y)::g) h o8 o7 (i+1):=by
   show#[G9,λc o e=>?_,R,U,v _ _ T.2.2.1 a4,T,v _ _ i8.2.2.1 m7,i8,n0.mono a9 _ _,m9,by have:=d.ul;lia (splits:=8),λq F=>?_,nofun,nofun,nofun,nofun,d.nt,λc o e=>?_]
   .let#[c6,i5]:=d.old c o e;let#[c8,i6]:=u c o (n4 c o e) (λz=>(d.new c o e).2 #v[z,zQ.mpr #[x,mx,Z]]) (d.new c o e).1 i5 (m _ _ i5.2.2.1 c6)
    show#[v _ _ i6.2.2.1 c8,i6]
   .by_cases z:q=(x.1,Y)
    .rw[z];change ↑(Yw X8.ts Y)<=_
     lia (splits:=8)
    .let e4:q∈L++g:=by
      rcases zM.mp F with y|y
      .show zL _ y
      .show yZ _ ((zU.mp y).resolve_left z)
     let m8:q∈L++x::g:=by
      rcases zM.mp e4 with y|y
      .show zL _ y
      .show yZ _ (zS _ y)
     rw[mE f8 λi e=>zL _ (xT.mpr #[q,e4,by rw[e];simp])]
     have:=d.rl q m8
     lia (splits:=8)
   .have:=d.new c o e;exists this.1;let e2:(L++(x.1,Y)::g).map (·.1)=(L++x::g).map (·.1):=by simp
    rwa[e2,this.2]
  let p4:↑(WY (L++(x.1,Y)::g))=↑(L++x::g):=#v[eV,zW _]
  show#[1,G,1,.inl (ZF.of R),1,nofun,nofun,OS (n:=((↑(WY (L++(x.1,Y)::g)):Nat):Int).toNat) (λ_ σ H'=>H'=H9/\∃ I,σ=[Z' !z,Z' !p,Z' !D,Z' !X.S,Z' !G,Z' !W,Z' !pl,Z' !nu,Z' (.int (1+(i:Int))),Z' (.int ((↑L:Nat):Int)),Z' !rl,Z' !d1,I]) #[Z,1] (λj σ H' hj B=>?_) (λσ H' B=>?_)]
  .let#[rfl,I,rfl]:=B;exists 2,Z,_,Z;by_cases c:j=↑L
   .rw[aJ (show V.int (0+(j:Int))=V.int ((↑L:Nat):Int) by rw[c];simp)]
    show Zq (Zq #[Z,1])
   .rw[aI (show ¬ V.int (0+(j:Int))=V.int ((↑L:Nat):Int) from λz=>c (by have:=V.int.inj z;lia (splits:=8)))]
    let m6:j<↑(L++x::g):=nofun
    obtain⟨q,e1,e2⟩:∃ q,(L++x::g)[j]?\q/\(L++(x.1,Y)::g)[j]?\q:=by
     rcases yL j ↑L with y|y
     .show#[L[j],by rw[wG y,zT y],by rw[wG y,zT y]]
     .obtain⟨k,hk⟩:∃ k,j-↑L=k+1:=#[j-↑L-1,nofun]
      let hm:k<↑g:=by rw[zR,zN] at m6;lia (splits:=8)
      show#[g[k],by rw[xJ y,hk,qZ,zT hm],by rw[xJ y,hk,qZ,zT hm]]
    let#[#[dq,F],_]:=G9.tab q (zG e2);show Z2 #[2,.inl #[G,_,_,.ref q.1,Z,Z,ZF.of R,?_,q.1,CTb,dq,_,YS q.2,Z,F,LT.cT,LT.nr,Z,2,.inl #[rl,_,_,YS q.2,Z,Z,ZF.of e9,?_,?_,1,?_]]]
    .rw[vJ];show Yf ?_;rw[zK,e2];rfl
    .rw[vJ];show Yf ?_;rw[zK,zK,e1];rfl
    .cases q.2<;>rfl
    .rwa[aJ Z,Zq #[Z,1]]
  .let#[rfl,I,rfl]:=B;show .mk l9 a2
 .intro σ H3 B;show m2 _
end
def Rz(a:Array Keyed)(b:jL):Prop:=(jK b).Perm a/\failedOf b=Y'/\(jM b).size=1/\PyProof.Rows.SortedTo (jK b) a.size
theorem p'{Q:jp->jL->Prop}(g:PyProof.Rows.IntKeys a)(b:SBase a d)(f:1<=a.size)(l:PyProof.Rows.SortedTo (jK d) a.size)(h:Q (Z' a.size) d):wpS ↥_ A E s (countRun' 0 a.size) Q d:=by
 rw[countRun0_eq];show jI (wpS_ascLoop g (zY _) (zY _) f b (λi j (m:i<=j) (o:j<1)=>#v[show i=j by lia,tY _]) λn p q r k=>?_)
 let e:n=a.size:=by
  rcases k with z|z
  .show z
  .rcases yL n a.size with c|c
   .have:=l (n-1) n () c
    lia
   .lia
 subst e;change wpS _ _ _ _ (if (a.size==a.size)=V' then pure (Z' a.size) else _) _ _
 rw[aM ⋯]
 show jJ h
theorem oE:∀ n,n<1000->minRun' n n 0<=n:=by decide +kernel
theorem mn{a₀:Array Keyed}{st:jL}{Q:Unit->jL->Prop}(m:PyProof.Rows.IntKeys a₀)(b:SBase a₀ st)(l:1<=a₀.size)(f:a₀.size<1000)(h:jM st=⇑[])(j:PyProof.Rows.SortedTo (jK st) a₀.size)(g:∀ a,(jK a).Perm a₀->failedOf a=Y'->PyProof.Rows.SortedTo (jK a) a₀.size->Q .unit a):wpS ↥_ A E s sortRuns' Q st:=by
 rw[sortRuns'_eq];let k:(jK st).size=a₀.size:=b.perm.size_eq;show jI (wpS_get ?_);dsimp only;rw[k];show jI (jN (I:=λi c a=>(i=0/\c=(Y',0)/\a=st)\/(1<=i/\c=(Y',a₀.size)/\Rz a₀ a)) ?_ ?_ (.inl #[Z,Z,Z]))
 .rintro i c a _ e (⟨rfl,rfl,rfl⟩|⟨n,rfl,u⟩)
  .dsimp only;rw[aK ()]
   show jI ?_;rw[Nat.sub_zero];show p' m b l j ?_;dsimp only;rw[aK (Nat.not_lt.mpr (oE _ f))];show jI (wpS_get ?_);rw[h];show jI (wpS_modify ?_);show jJ ?_;show .inr #[zY _,by rw[Nat.zero_add],b.perm,b.failed,?_,j]
   change ((jM a).push _).size=1;rw[h];rfl
  .dsimp only;rw[aM (zY _)];show jJ ?_;dsimp only;show jI (jN (I:=λi c d=>c=(Y',.unit)/\d=a) (λi c d _ _ e=>?_) (λc d e=>?_) #[Z,Z])
   .let#[rfl,rfl]:=e;show jI (wpS_get ?_);rw[aM #v[u.2.2.1,zY _]]
    show jJ ?_;show jJ (g _ u.1 u.2.1 u.2.2.2)
   .let#[rfl,rfl]:=e;show jJ (g _ u.1 u.2.1 u.2.2.2)
 .rintro c a (⟨z,_,_⟩|⟨_,rfl,u⟩)
  .lia
  .dsimp only;show jI (jN (I:=λi c d=>c=(Y',.unit)/\d=a) (λi c d _ _ e=>?_) (λc d e=>?_) #[Z,Z])
   .let#[rfl,rfl]:=e;show jI (wpS_get ?_);rw[aM #v[u.2.2.1,zY _]]
    show jJ ?_;show jJ (g _ u.1 u.2.1 u.2.2.2)
   .let#[rfl,rfl]:=e;show jJ (g _ u.1 u.2.1 u.2.2.2)
theorem CG:∀{b:jd}{a:jy}{i:Nat}{n:Int},IntsAre b a->a[i]?\n->∃ t,b[i]?\.int n t
 |_,_,0,_,.cons m t h,e=>#[t,by simp at e;rw[<-e];rfl]
 |_,_,i+1,_,.cons m t h,e=>by
  let#[t,r]:=CG (i:=i) h #v[e]
  show#[t,#v[r]]
theorem ow{f:jd}{d:jy}(m:IntsAre f d)(z:d.Pairwise (·<=·)):PyProof.Rows.SortedTo (pairsOf f) (pairsOf f).size:=λi j v o=>by
 rw[pairsOf_size] at o;let C:=↑m;let q:∀ i,i<↑f->∃ n,d[i]?\n/\PyProof.Rows.K (pairsOf f) i=n:=λi B=>by
  let p:i<↑d:=()
  let#[t,e]:=CG m (zT p);exists _,zT p;unfold PyProof.Rows.K;have:(pairsOf f)[i]?\(.int d[i] t,.int d[i] t):=by
   rwa[<-wH,pairsOf_toList,List.getElem?_zip_eq_some,#[e,e]]
  rw[this];rfl
 let#[a,l,x]:=q i ()
 let#[b,g,y]:=q j o;rw[x,y];rcases yL i j with c|c
 .let#[h,r]:=yW.mp l;let#[k,u]:=yW.mp g;have:=qY.mp z i j h k c;rw[r,u] at this;show this
 .have:i=j:=()
  subst this;erw[l] at g;show tY _
theorem kj{b:jd}{p:jy}{P:PySem.Fin->ak->Prop}(j:s.heap.get? a\seqObj "list" ⇑b n)(f:IntsAre b p)(I:↑b<1000)(H:p.Pairwise (·<=·))(h:∀ (i:js) (d:jy),IntsAre i.toList d->d.Perm p->d.Pairwise (·<=·)->P (.done (.ret .none)) { s with heap:=sortedHeap s.heap a b i }):aB ↥_ A (Builtin.«list.sort» { pos:=[!a] }) P E s:=by
 rcases yL ↑b 64 with c|c
 .show list_sort_tree j f c h
 let u:↑b<=sizeLine:=yE (Yq ())
 rw[list_sort_plain];show aa (listItems_at j Z ?_);show aa (listUpdate_at j Z ?_ #v[zF,u] (yY _))
 obtain⟨o,g⟩:∃ o,(s.heap.update a (Obj.mapSeq λ_=>(⇑[]:js))).get? a\seqObj "list" ⇑[] o:=#[_,get?_update_seq j λ_=>⇑[]];show aa (seqEpoch_at g Z ?_);show aa (wpAny_newTuple ?_ (by change ↑b<=_;show u))
 show aa (wpAny_newList ?_ (yY _));show ag ?_;let v:(((s.heap.update a (Obj.mapSeq λ_=>(⇑[]:js))).push (seqObj "tuple" ⇑b 0)).push (seqObj "list" ⇑[] 0)).get? a\seqObj "list" ⇑[] o:=zD _ (zD _ g);dsimp only;rw[aK (by rw[zF];lia),aK (by rw[zF];lia)]
 obtain⟨l,m,rest,x⟩:∃ l m rest,b=l::m::rest:=by
  match b,c with
  |l::m::rest,_=>show#[l,m,rest,Z]
 let D:keyKind' ⇑b=pure oneType':=by
  subst x;show keyKind_ints f
 rw[D];show aa (ae ?_);let F:(pairsOf b).size=↑b:=pairsOf_size b;show aa (Z7 (mn (a₀:=pairsOf b) (st:=SortSt.mk' oneType' (pairsOf b) ⇑[] 7 Y') (Q:=λ_ e=>(jK e).Perm (pairsOf b)/\failedOf e=Y'/\PyProof.Rows.SortedTo (jK e) (pairsOf b).size) f.intKeys #[Array.Perm.refl _,Z,Z,Z] () () Z (ow f H) λe k q t=>#[k,q,t]) λr G y=>?_)
 let#[⟨⟩,e]:=r;let#[rfl,k,q,t]:=y;let#[d,z,B,C]:=sorted_out f k t;dsimp only;show aa (seqEpoch_at v Z ?_);show aa (listUpdate_at v Z ?_ (yY _) (by rw[Array.size_map,k.size_eq,F];lia))
 rw[q];simp only[bne_self_eq_false,wS,if_false];show ae (h _ d z B C)
section
variable{T:String}{r d:aj}{n:Nat}{P:Nat->ai->Prop}{OK:aD->Prop}
theorem kR{Q:ja}{ns:jy}(K:tR prog w T r d n P OK)(J:A.handled=Y')(t:OK s.heap)(L:n<=aq)(G:∀ f,ItemsOf P f n->IntsAre f.toList ns)(q:n<1000)(y:ns.Pairwise (·<=·))(H:∀ p x a g c,(∀ b o,s.heap.get? b\o->p.get? b\o)->‹s›<=a->IntsAre g ns->p.get? a\{ cls:=.type "list",data:=.seq ⇑g c }->Q (!a) { s with heap:=p,toks:=x }):
  aB ↥_ A (call 'P' [!r]) Q E s:=by
 show Calls.call_function_entry kind_sorted plain_sorted entry_sorted (args_sorted1 _) ?_;unfold Builtin.«sorted»;show aa (m:=checkCount "sorted" 1 1 _) (ae ?_);show aa (C3 K J t L λj x f M u h=>?_);let F:=G f h;let k:↑f.toList<1000:=#v[uW,h.1,q]
 show aa (wpAny_newList ?_ (hsz:=yE (Yq ())))
 let i:(j.push (seqObj "list" ⇑f.toList 0)).get? j.objs.size\seqObj "list" ⇑f.toList 0:=yI _ Z;show aa (ag (wpAny_call_entry slot_list_sort #[_,i,Z] entry_list_sort (kj i F k y λg v z B C=>#[1,?_]) (args_list_sort _)));show ae #[1,?_];let e:v=ns:=yP.eq_of_pairwise (le:=(·<=·)) (λa b _ _ j D=>Int.le_antisymm j D) C y B;subst e;let#[c,I]:=sortedHeap_at (vs:=f.toList) (out:=g) i;show H _ x j.objs.size g.toList c (λb o e=>?_) (yE u) z #v[gJ,I]
 let l:=M b o e;rw[sortedHeap_old (yK (zE l)) #v[size_push',Nat.lt_succ_of_lt (zE l)]]
 show zD _ l
end
inductive OO(d:je)(H:Hp)(Q:VK):Prop
 |mk(a:aj)(b:List (ZY×V))(c:jy)(_:d=[!a])(_:H a\.dK b)(_:b.map (·.1)=c.map gR)(_:c.Pairwise (·<=·))(_:↑c<1000)(_:∀ p,H p=Y'->Q (!p) (upd H p (.lst (c.map V.int))))
theorem kz(D:X.calm=V'):QL X 'P' OO:=by
 intro t s T H S R Q I r h;let#[a,g,j,rfl,C,l,F,f,q]:=h;let#[u,rfl,K]:=Qy r;cases K;let#[z,J,M,n,A]:=MS I.hok C;let O:↑j=↑g:=by have:=congrArg xG l;simpa using this.symm
 let P:=KV.length n;let#[x,y]:=A.dictAt;show kR (ns:=j) (PySem.W.kdl_dict (knd:=Ve X.prog X.w) (kvs:=M) (ep:=x) J) (I.ok.hd D) y () (λd b=>nH n l d.toList #v[uW,b.1] λi v e=>?_) () F λN L p k c G m B E=>?_
 .show b.2 i v (by rwa[<-wH,e])
 .show#[!p,_,I.laid (a:=p) (o:=.lst (j.map V.int)) (t':=L) G m #[#v[zW,yE (Yq (yE f))],k,c,kJ B,E],Z,q p (I.hok.fresh m)]
section
variable{jT jU CTb:aj}
abbrev Hg:Stmt:=Xr (top 75) 16
inductive Yx(jT jU:aj):Sp
 |mk{X:ZV}{a:aj}{b:je}{H:Hp}{Q:VK}{E:XK}:Zm jT jU H X.S X.d a X.lv X.ts X.av X.ho X.as X.kvs b->X.lv.Pairwise (·<·)->↑X.lv<1000->(∀ p,H p=Y'->Q (!p) (upd H p (.lst (iN X.lv))))->Yx jT jU [!X.S] H Q E
theorem nC:ZC TY TY (Zc Hg):=Zo
theorem AK(F:Zl K "numbers" "Shelf.numbers" Hg f fd)(T:YM mg)(L:'d'):-ZI ZJ 1 f fd TY (Yx jT jU):=by
 show F.ok nC (λn H Q E h=>(by induction h;rfl)) (λe A c s H n Q E q h=>?_)
 induction h
 rename_i X r t H Q E R u l k
 let#[g,j]:=R.sh.self;intro o;show#[_,ZR (Zh (YA (kz Z) Z T.sorted nA (ZQ 's'))),1,X.S,jT,g,_,!X.d,Z,j,L.cS,L.nk,Z,X.d,X.kvs,X.lv.map λi:Nat=>(i:Int),Z,R.sh.kept,by rw[R.keys,vH];rfl,?_,#v[zW,l],λp m=>?_]
 .rw[List.pairwise_map];show u.imp fun{a b} h=>by change (a:Int)<=(b:Int);lia
 .rw[show (X.lv.map λi:Nat=>(i:Int)).map V.int=iN X.lv by unfold iN;rw[vH];rfl]
  show k p m
end
theorem Gv:∀{a:List (KT×V×V)},(∀ x∈a,ZD H x.1 x.2.1)->jO H (a.map (·.1)) (a.map (·.2.1))
 |[],_=>.nil
 |x::a,h=>.cons (h x zX) (Gv λy b=>h y (zS _ b))
theorem Yk.to(h:Yk w H D c d)(t:Z1 H a)(e:∀ o,H D\o->a D\o):Yk w a D c d:=by
 let#[f,g,i]:=h.dk.ex;show#[#[#[f,e _ g,i],λz b=>#[(h.dk.key z b).1.mono t,(h.dk.key z b).2],h.dk.nd],Paired.mapP h.rows λ_ _ z=>#[z.1,z.2.mono t _ _]]
section
variable{jT jU CTb CK:aj}
inductive BK(jT jU CTb:aj)(X:ZV)(lk p z D tl kn pl nu:aj)(Ts:List (aj×jp))(H7:Hp):Nat->_T.St->Hp->Prop
 |mk{n:Nat}{X':ZV}{ps:jj}{x8 x9 x10 x11 x12:jf}{H':Hp}:X'.S=X.S->X'.lv=X.lv->X'.ts=X.ts->Gs jT jU CTb H' X' lk [] Ts ps->(∀ c o,c≠p->c≠pl->Ze X lk c->H7 c\o->H' c\o)->(∀ c o,Ze X lk c->H7 c\o->Ze X' lk c)->ZN H' p->↑ps=n->H' pl\.lst (iN ps)->BK jT jU CTb X lk p z D tl kn pl nu Ts H7 n [Z' !z,Z' !p,Z' !D,Z' !X.S,Z' !tl,Z' !kn,Z' !pl,Z' !nu,x8,x9,x10,x11,x12] H'
theorem zk{cdv:ai}{A:ax}{outer:jt}{s:ak}{Hs:Hp}{E:XK}(T0:YM mg)(L:'d')(LT:PQ K mg CTb)(DW:'ê')(DP:'g')(DO:'&')(DD:'+')(DN:'ł')(DH:'k')(hr:ZX 39 (A.deeper (envOfC "law" (Zc QN) ‹s› f cdv))):
  ∃ t,WG (Wk ZJ P w K mg jW IO "law" (Zc QN) f cdv A outer s Hs E).nox ((Xs QN).drop 4) t/\∀(D0:YK)(H M:Hp)(z p D I:aj)(ns:jy)(X:ZV)(l:aj)(N:List (aj×jp))(rs:jl)(J:List (KT×V×V))(x5 x6 x7 x8 x9 e8 e9 i0:jf),
   ZF K H z (ns.map V.int)->↑ns<=63->Gs jT jU CTb M X l [] N []->(∀ c o,H c\o->M c\o/\Ze X l c)->(∀ c o,H c\o->c≠p/\c∉N.map (·.1))->ZN M p->Ze X l p->Yk w M D rs J->(∀ x∈rs,x.fit)->↑rs<=40->X.lv.Pairwise (·<·)->↑X.ts<=80->(∀ q∈N,↑(Yw X.ts q.2)<=40)->0<↑N->↑N<=4->M I\.lst (WY N)->Ze X l I->I≠p->(∀ H',D0.rt '<' H') ->
   t D0 [Z' !z,Z' !p,Z' !D,Z' !X.S,Z' !I,x5,x6,x7,x8,x9,e8,e9,i0] M:=by
 let nd:=Qu.nd;let a9:=hr.mono (show 1<=39 by lia)
 let i8:=hr.mono (show 2<=39 by lia)
 let#[tt,ht,hk]:=vw (jT:=jT) (jU:=jU) (P:=P) (w:=w) (K:=K) (jW:=jW) (f:=f) (cdv:=cdv) (A:=A) (outer:=outer) (s:=s) (Hs:=Hs) (E:=E) T0 LT DW DP DO DD hr;show#[_,ZK (Zf 5 nd (UZ (lE Z) Z T0.list OU 'o'))
  (ZK (Zf 6 nd (Yy Zt))
  (ZK (Zf 7 nd (FQ (E:=E0) (pv 3) L.cS DN a9 Zn))
  (ZK (Vi PassesOwn.never Z (OZ Z T0.range (ZQ (Z5 NH (Zd DP a9 (Zu (pv 1) ZM)) (UZ KO Z T0.int O8 (ZQ (V4 'š' (pv 7) (Yy Zt) (Z9 _))))))) (VG 8 nd)
   (ZK (YF (QG xQ wO wN PU (pv 6) (ZQ (Zy K (pv 7) (Zd DP a9 (Zu (pv 1) (YA XG Z T0.len XE (ZQ (pv 7)))))))))
   (ZR (YF (Zs (E:=E0) (pv 3) L.cS DH i8 Zn (ZQ (Zy K (pv 6) (pv 8)))))))) ht))),
  λD0 H M z p D I ns X l N rs J x5 x6 x7 x8 x9 e8 e9 i0 i6 hn G5 U e1 W op dr rf m5 up l8 rl t0 t4 c0 l6 l4 i4=>?_]
 let lx:=Paired.length dr.rows;exists 1,D,J,Z,dr.dk,by lia
 intro kn G;let#[H6,eU,g6,h6]:=Yo G (.lst (J.map (·.2.1)));rw[eU];let m4:↑(J.map (·.2.1))=↑rs:=#v[zW,lx.symm]
 let i9:jO H6 (J.map (·.1)) (J.map (·.2.1)):=Gv λx hx=>((dr.dk.key x hx).1).mono (ZE.tups g6);let kf:∀ t∈J.map (·.1),t.fits 3=V':=λt ht=>by
  rw[dr.keys] at ht;let#[x,hx,e]:=zQ.mp ht;rwa[<-e,(rf x hx).1]
 let e2:Ze X l kn:=G5.sd.sh.new G;exists Yc;intro g m;let#[H7,eU,g7,h7]:=Yo m (.lst []);rw[eU];let c4:=g6|||g7;let R7:=G5.sd.sh.same c4;let e4:Ze X l g:=(G5.sd.sh.same g6).new m;let c5:=g7 _ _ h6;let#[dS,hS]:=R7.sh.self;let vl:↑X.lv<=80:=zJ G5.sd.all l8;show#[1,X.S,dS,1,hS,Z,.mk R7 up () λT R=>?_]
 let#[H8,eU,g8,h8]:=Yo R (.lst (iN X.lv));rw[eU];let Y:=c4|||g8;let W8:=W.same Y;let l5:Ze X l T:=R7.new R;let#[pw,C]:=W.some;let kp:kn≠p:=(Zg C G).symm;let c3:g≠p:=(Zg (g6 _ _ C) m).symm;let c1:T≠p:=(Zg (c4 _ _ C) R).symm;let l7:g≠T:=Zg h7 R;let c9:kn≠g:=Zg h6 m;let e7:I≠g:=Zg (g6 _ _ c0) m;let l0:kn≠I:=(Zg c0 G).symm;exists 1,p,(3),Z,W8,Wl 'b' 'b'
 intro j H9 j0 j1 W9 s9;let G9:=(G5.same Y).but s9 (Y _ _ C) op;exists 1,Yc;intro e0 l3;let#[Ha,eU,ga,ha]:=Yo l3 (.lst []);rw[eU];let a3:=s9 _ _ h8 c1;show#[T,e0,iN X.lv,Z,Z,ZF.of (ga _ _ a3),ZF.of ha,.inr #[1,?_]];let Ga:=G9.same ga;let Wa:=W9.same ga;let k:=ga _ _ (s9 _ _ (g8 _ _ h7) c3);let c7:=ga _ _ a3;obtain⟨c,hc,c2,i2⟩:∃ c:Int,j*(if (!(iN X.lv).isEmpty)=V' then 1 else 0)=c/\(0<=c/\c<=2)/\(0<c->X.lv≠[]):=by
  show#[1,?_,λh y=>?_]
  .split<;>lia
  .rw[y] at h;simp[iN] at h
 exists _,1,Z,.inl #[(),()]
 show#[c,congrArg (λz=>[V.int z]) hc,(),(),OS (n:=c.toNat) (BK jT jU CTb X l p z D I kn g T N Ha) (.mk Z Z Z Ga (λc o _ _ _ e=>e) (λc o f _=>f) Wa Z k) (λi σ Hb hi hP=>?_) (λσ Hb hP=>?_)]
 .let#[eS,ev,et,Gb,fr,of,Wb,lp,Q]:=hP;rename_i X' u y8 y9 l9 m0 m1
  let l1:=i2 ()
  let c6:=fr T _ c1 l7.symm l5 c7;let a6:=of g _ e4 k;let#[pa,a8]:=Wa.some;let e3:=of p _ op a8;let m3:0<↑X.lv:=vW.mpr l1;let lI:↑(iN X.lv)=↑X.lv:=zW _;exists 1,.inl #[Z,_,ZF.of Q],3,T,1,.inl (ZF.of c6),p,1,Wb,Wl () ()
  intro a Hc a0 a1 Wc sc;let#[pb,i7]:=Wb.some;let Gc:=Gb.but sc i7 e3;let a4:=sc _ _ Q c3;let#[v,av,mv]:=NN (xs:=iN X.lv) a0 ()
  let#[b,hb,rfl]:=zQ.mp mv;let m2:↑(iN u)=↑u:=zW _;show .inl #[T,_,_,1,Z,ZF.of (sc _ _ c6 c1),av,g,_,1,Z,a4,Yq (),?_]
  let ep:iN u++[V.int (b:Int)]=iN (u++[b]):=by simp[iN]
  rw[show iN u++[(λn:Nat=>V.int (n:Int)) b]=iN (u++[b]) from ep];let sd:ZG g Hc (upd Hc g (.lst (iN (u++[b])))):=(ZG.refl g Hc).upd;let B:=Za (H:=Hc) (a:=g) (o:=.lst (iN (u++[b])));generalize upd Hc g (.lst (iN (u++[b])))=Hd at sd B⊢;let Gd:=Gc.but sd a4 a6;let Wd:=Wc.stay sd c3.symm;let a7:b∈X'.lv:=#v[ev,hb]
  let#[i3,i5]:=Gd.sd.sh.sh.self;let i1:Xi (iN (u++[b])) (0+(i:Int))\V.int (b:Int):=by
   rw[vJ];show Yf ?_;unfold iN;rw[zK,xJ (),lp,uE]
   rfl
  rw[<-eS];show#[1,X'.S,i3,1,i5,Z,2,.inl #[g,_,_,1,Z,ZF.of B,i1,.mk Gd.sd.sh a7 λHe O Re=>?_]];rw[eS];let nx:∀ c,Ze X' l c->c≠X'.as[b]!.x:=λc f=>(f.2.2.2 b a7).1;show .mk (X':=X'.held b) eS ev et #[#[Re,(Gd.sd.dg.hold a7).perm ?_],λq hq=>?_,Gd.nd] (λc o n1 n2 f e=>O _ _ (nx c (of c o f e)) (sd _ _ (sc _ _ (fr c o n1 n2 f e) n1) n2)) (λc o f e=>of c o f e) ?_ (by rw[zR,lp];rfl) (O _ _ (nx g a6) B)
  .rwa[<-yT,(qL _ _).symm]
  .let#[#[dq,e],o]:=Gd.tab q hq;show#[#[dq,O _ _ (nx _ o) e],o]
  .let#[b1,b2,b3,b4,e,r]:=Wd.ex;show#[b1,b2,b3,b4,O _ _ (nx p e3) e,r]
 .let#[eS,ev,et,Gb,fr,of,Wb,lp,Q]:=hP;rename_i X' u y8 y9 l9 m0 m1
  rw[<-eS];let e6:∀ c o,c≠p->M c\o->Ha c\o:=λc o n e=>ga _ _ (s9 _ _ (Y _ _ e) n);let a5:∀ c o,c≠p->c≠g->Ze X l c->M c\o->Hb c\o/\Ze X' l c:=λc o n1 n2 f e=>#[fr c o n1 n2 f (e6 c o n1 e),of c o f (e6 c o n1 e)];let a2:=ga _ _ (s9 _ _ (g8 _ _ c5) kp);let#[c8,e5]:=a5 I _ l4 e7 l6 c0;let mb:Z1 Ha Hb:=λc J e=>by
   let#[pa,a8]:=Wa.some;show fr c _ (ZZ e a8) (ZZ e k) (Ga.sd.sh.off e #v[] #[] #[]) e
  let l2:Z1 H6 Ha:=λc J e=>ga _ _ (s9 _ _ (g8 _ _ (g7 _ _ e)) (ZZ e (g6 _ _ C)));show hk D0 H Hb z D T ns X' l [] I g kn N u _ _ _ _ _ _ _ _ i6 hn #[Gb,λc o e=>a5 c o (e1 c o e).1 (Zg (g6 _ _ (U c o e).1) m) (U c o e).2 (U c o e).1,c8,e5,Q,of g _ e4 k,fr kn _ kp c9 e2 a2,of kn _ e2 a2,(i9.mono l2 _ _).mono mb _ _,kf,(),λq hq=>#v[et,rl q hq],by rw[et];lia,yY _,t0,t4,#[e7,l0,c9],λc o e=>#[Zg (U c o e).1 G,(e1 c o e).2]] i4
theorem zh(F:Zl K "law" "law" QN f fd)(T0:YM mg)(L:'d')(LT:PQ K mg CTb)(DI:Q8 P w K mg jW 1 jT TY (Pk jT))(DW:'ê')(DG:-ZA 10 "_law_ground" SQ (VP w))(N:-ZA 12 "_law_tables" SK (Xx jT jU CTb w))(DP:'g')(DO:'&')(DD:'+')(DN:'ł')(DH:'k'):-ZI ZJ 40 f fd SG (Qs K):=by
 show F.ko Qu λT A t s H vs Q E x h=>?_;let#[z,ns,rfl,v,hn,a3]:=h;let M:=Qu.nd;let a6:=x.mono (show 1<=39 by lia)
 let a7:=x.mono (show 2<=39 by lia)
 let y:=x.mono (show 10<=39 by lia)
 let B:=x.mono (show 12<=39 by lia)
 let#[tt,ht,hk]:=zk (jT:=jT) (jU:=jU) (P:=P) (w:=w) (K:=K) (jW:=jW) (f:=f) (cdv:=T) (A:=A) (outer:=t) (s:=s) (Hs:=H) (E:=E) T0 L LT DW DP DO DD DN DH x;intro Xc;show#[_,ZK (Zf 1 M (Zd DW a6 'C'))
  (ZK (Zf 2 M (Zd DG y (Zu (pv 1) ZM)))
  (ZK (Zf 3 M (yf DI a7 Z L.shelf))
  (ZK (Zf 4 M (Zd N B (Wf (pv 1) (pv 3) (pv 2)))) ht))),?_]
 exists 1,z,ns,(0),Z,v,hn,(),by lia
 intro p H1 np s1 W1;exists 1,p,(41),Z,W1,(),by lia
 intro D rs xs n nD U rf ri c7 W2 s2;intro S e nS ne z1;let i3:ZE n (upd (upd n e (.own S)) S (.ins jT e [])):=λb o q=>by
  rwa[ZU (Zg q nS),ZU (Zg q ne),q]
 show#[S,e,Z,Za,λO d C a4 c0 G c6 R3=>#[Z,?_]];let u:ZE n O:=λb o q=>a4 b o (Zg q nS) (i3 b o q);let RP:Zm jT jU O S d C [] [] (λ_=>[]) (λ_=>0) [] [] []:=#[R3,λi l=>(by cases l),Z,λi l=>(by cases l),Z,λi l=>(by cases l),λi l=>(by cases l),λi _ l=>(by cases l)]
 let J:∀ c o,n c\o->Ze #[S,d,[],[],λ_=>[],λ_=>0,[],[]] C c:=λc o q=>#[Zg q nS,Zg q (i3.free c0),Zg q (i3.free G),λi l=>(by cases l)]
 let W3:=W2.same u;let V:=U.same u;obtain⟨k,g⟩:∃ X:ZV,X=⟨S,d,[],[],λ_=>[],λ_=>0,[],[]⟩:=#[1];let RX:Zm jT jU O k.S k.d C k.lv k.ts k.av k.ho k.as k.kvs []:=#v[g,RP]
 let j:∀ c o,n c\o->Ze k C c:=#v[g,J]
 let Y:k.S=S:=by rw[g]
 let a1:k.ts=[]:=by rw[g]
 let a2:k.lv=[]:=by rw[g]
 clear g J RP;subst Y;let#[o2,m]:=W2.some;show#[3,.mk W3 RX a1 a2 (j _ _ m) V rf () λR X5 tl Ts W5 a0 r c1 G5 c5 c4 c3 t0 t4 a8 c2 I=>?_]
 let#[es,a5,_]:=U.dk.ex;let Dp:D≠p:=ZZ a5 m (by unfold Ny;intro z;cases z)
 let a9:Z1 n R:=λb ys e=>(r b _ (ZZ e m) (j _ _ e) (u _ _ e)).1;let W:Yk w R D rs xs:=U.to a9 λo e=>(r D _ Dp (j _ _ e) (u _ _ e)).1;let a:∀ c o,H c\o->n c\o:=λc o q=>s2 _ _ (s1 _ _ q) (Zg q np);rwa[<-a0,hk _ H R z p D tl ns X5 C Ts rs xs _ _ _ _ _ _ _ _ v hn G5 (λc o q=>r c o (Zg q np) (j _ _ (a c o q)) (u _ _ (a c o q))) (λc o q=>#[Zg q np,(I c o (j _ _ (a c o q)) (u _ _ (a c o q))).2]) W5 c1 W rf () c5 c4 c3 t0 t4 a8 c2 (I p _ (j _ _ m) (u _ _ m)).1.symm a3]
end
noncomputable def xC(K:zZ)(C:aj):Bool:=
 (zB K (!C) "__getattribute__"==Z' 'â')&&((zB K (!C) "__getattr__"==Z' Y')&&((xE K C 'x'==Z' true)&&((xE K C 'Ĺ'==Z' true) &&
 ((zB K (!C) "__class__"==Z' (Z' 'h'))&&((PySem.W.specialIn K 'h' "__get__"==Z' 'M')&&(PySem.W.takesIn K 'h'==Z' true))))))
theorem Ru(h:xC K C=V'):My K C:=by
 unfold xC at h;simp only[zI,beq_iff_eq] at h;let#[a,b,c,d,e,f,g]:=h;show#[a,b,c,d,e,f,g]
def xF(K:zZ)(C a:aj)(f:Str):Bool:=
 xC K C&&(Dy K C&&((zB K (!C) "__init__"==Z' (Z' !a))&&(wM K (!a)&&(xX K (!C)&&((zB K (!C) "__setattr__"==Z' 'i') &&
 ((zB K (!C) f==Z' Y')&&(vX K C&&Ev K C)))))))
theorem Rw{f:Str}(h:xF K C k f=V'):QJ K C k f:=by
 unfold xF at h;simp only[zI,beq_iff_eq] at h;let#[a,b,c,d,e,f,g,i,j]:=h;show#[Ru a,b,c,d,e,f,g,i,j]
variable{jT jU CS CT CH CK CP CB:aj}
abbrev Pu:Stmt:=Xr (top 8) 0
theorem Bn:ZC U' U' (Zc Pu):=Zo
theorem lX(F:Zl K "__init__" "Shared.__init__" Pu f fd):-ZI ZJ 1 f fd U' (KB K C f "number"):=by
 show F.ok Bn (λg H Q E h=>(by let#[_,_,_,rfl,_]:=h;rfl)) (λb A a s H g Q E i h=>?_)
 let#[c,d,y,rfl,e,k]:=h;show#[_,ZR (vi (pv 0) (pv 1) Z),#[2,OV,d,_,1,e,c,k]]
structure Qi(K:zZ)(C:aj):Prop where
 ex:∃ f fd,xF K C f "number"=true/\Zl K "__init__" "Shared.__init__" Pu f fd/\Zx K fd U' []
theorem Md{n a:ju}{o:Array (jc)}{m kV i e h ct:ai}(_:zB K (!C) "__init__"=Z' (Z' !f))(w:xF K C f "number"=true)(l:K.lookup f\#[m,n,.func (xZ "__init__" "Shared.__init__" (QC Pu) (Xs Pu) (Zc Pu) .none kV i e a h ct),o])(c:wK K h "Shared.__init__"=true)(k:xX K (!f)=V')(j:∀  kV d e  (a:ju)  b ct  (g:jd),↑g=2->bindArgs (xZ "__init__" "Shared.__init__" (QC Pu) (Xs Pu) (Zc Pu) .none kV d e a b ct) #[g,[]]=pure ((U':jn).zip g)):Qi K C:=
 #[f,_,w,Om (st:=Pu) l c k,(Om (st:=Pu) l c k).binds j]
theorem Qi.xn(L:Qi K C)(m:c "Shared"=Z' !C)(t:wE K (!C)\.type "type"):XN P w K c a "Shared" C "number" :=by
 let#[f,d,x,F,b]:=L.ex;show#[#[f,d,Rw x,lX F,b],m,t]
structure O6(K:zZ)(C:aj):Prop where
 ex:∃ f fd,zB K (!C) "__init__"=Z' (Z' !f)/\wM K (!f)=V'/\Qd K "__init__" "Table.__init__" Nu f fd
theorem Mj{m h e:ju}{p g:Array (jc)}{j kV i o a ct d:ai}(v:zB K (!C) "__init__"=Z' (Z' !f))(l:K.lookup f\#[j,m,.func (xZ "__init__" "Table.__init__" (QC Nu) (Xs Nu) (Zc Nu) (!b) kV i o h a ct),p])(r:K.lookup b\#[d,e,.seq ⇑[.none] n,g])(q:wM K (!f)=V')(c:wK K a "Table.__init__"=true)(k:xX K (!f)=V'):O6 K C:=
 #[f,_,v,q,#[j,m,b,kV,i,o,h,a,ct,p,_,n,Z,l,c,r,Z],k]
structure Zr(K:zZ)(C:aj)(m q:Str)(st:aC)(ps:jn):Prop where
 ex:∃ f fd,Q7 K C m f/\Zl K m q st f fd/\Zx K fd ps []
theorem Zr.of(L:Zr K C m q j d)(h:∀ f c,Zl K m q j f c->ZI P w K g a e k f c d i):ZB P w K g a e k C m d i:=by
 let#[f,c,M,F,b]:=L.ex;show#[f,c,M,h f c F,b]
theorem LZ{s b:ju}{t:Array (jc)}{r kV n g j ct:ai}(v:zB K (!C) m\Z' !f)(l:K.lookup f\#[r,s,.func (xZ m q (QC a) (Xs a) (Zc a) .none kV n g b j ct),t])(o:wM K (!f)=V')(c:wK K j q=V')(k:xX K (!f)=V')(p:∀  kV e g  (b:ju)  d ct  (i:jd),↑i=↑h->bindArgs (xZ m q (QC a) (Xs a) (Zc a) .none kV e g b d ct) #[i,[]]=pure (h.zip i):=by show λ_ _ _ _ _ _=>LY _ _ (by(repeat intro _);show Z)):Zr K C m q a h:=
 #[f,_,#[v,o,k],Om (st:=a) l c k,(Om (st:=a) l c k).binds p]
structure PX(K:zZ)(C:aj)(q:Str)(st:aC)(ps:jn):Prop where
 ex:∃ f fd,zB K (!C) "__init__"=Z' (Z' !f)/\wM K (!f)=V'/\Zl K "__init__" q st f fd/\Zx K fd ps []
theorem Mu{r b:ju}{s:Array (jc)}{p kV m g j ct:ai}(v:zB K (!C) "__init__"=Z' (Z' !f))(l:K.lookup f\#[p,r,.func (xZ "__init__" q (QC a) (Xs a) (Zc a) .none kV m g b j ct),s])(n:wM K (!f)=V')(c:wK K j q=V')(k:xX K (!f)=V')(o:∀  kV e g  (b:ju)  d ct  (i:jd),↑i=↑h->bindArgs (xZ "__init__" q (QC a) (Xs a) (Zc a) .none kV e g b d ct) #[i,[]]=pure (h.zip i)):PX K C q a h:=
 #[f,_,v,n,Om (st:=a) l c k,(Om (st:=a) l c k).binds o]
theorem Ht{l:sC}(X:K.In h)(G:h.Ns ap mg)(hfa:mg "law"=Z' !fa){od62 an62:ju}{sl62:Array (jc)}(L1:Zb K mg "is_key" Hj TU)(L2:Zb K mg "checked" HS TU)(L3:Zb K mg "fits" Lq Ty)(L4:Zb K mg "has_few_figures" Ig Tq)(L5:Zb K mg "is_sign" JG ["sign"])(L6:Zb K mg "ahead" Kp TB)(L7:Zb K mg "place_in" Id SV)(L8:Zb K mg "standing" Lx TK)(L9:Zb K mg "checked_rows" Kx TX)(L10:Zb K mg "own_rows" Ku TX)(L11:Zb K mg "rise" Jw ["keys"])(L12:Zb K mg "label_of_rows" Iy TX)(L13:Zb K mg "label_over" JF Tr)(L14:Zb K mg "stand_side_by_side" JE Tb)(L15:Zb K mg "value_of" JQ T3)(L16:Zb K mg "steps_to" HF T3)(L17:Zb K mg "check_asked" Ii T3)(L18:Zb K mg "place_within" K6 SR)(L19:Zb K mg "branch_at" JK Tf)(L20:Zb K mg "is_leaf" HN Tu)(L21:Zb K mg "check_root" Jd TQ)(L22:Zb K mg "held" GI TQ)(L23:Zb K mg "own_way" Hh TW)(L24:Zb K mg "own" Jb TR)(L25:Zb K mg "put_copy" GC SU)(L26:Zb K mg "put_in" JR SO)(L27:Zb K mg "rows_with" JZ Tc)(L28:Zb K mg "give_rows" HJ Ta)(L29:Zb K mg "add_branch" Kw SJ)(L30:Zb K mg "add_up" Hm SN)(L31:Zb K mg "root_with" Hi SY)(L32:Zb K mg "taken_from" N4 T3)(L33:Zb K mg "without_leaf" MR TW)(L34:Zb K mg "first_that_goes" IV TW)(L35:Zb K mg "can_lose_one" K0 Tj)(L36:Zb K mg "is_full" GA Te)(L37:Zb K mg "branches_of" Jz T2)(L38:Zb K mg "neighbour" Ip T2)(L39:Zb K mg "exchange" JN SH)(L40:Zb K mg "hand_down" Q6 TN)(L41:Zb K mg "adopt" MT TR)(L42:Zb K mg "stands_ahead" HZ Tg)(L43:Zb K mg "is_stem" GJ Tz)(L44:Zb K mg "_law_well" HB Tl)(L45:Zb K mg "_law_pull" GD TZ)(L46:Zb K mg "_law_great" HD SX)(L47:Zb K mg "_law_text" HK TL)(L48:Zb K mg "_law_key" KM TH)(L49:Zb K mg "_law_rank" KG TF)(L50:Zb K mg "_law_sorted" Hl To)(L51:Zb K mg "_law_keys" JT TZ)(L52:Zb K mg "_law_tree" MN SL)(L53:Zb K mg "_law_reached" HR SM)(L54:Zb K mg "_law_alike" Lu TV)(L55:Zb K mg "_law_rows_alike" JV TV)(L56:Zb K mg "_law_value" Jh TL)(L57:Zb K mg "_law_any_key" IK SI)(L58:Zb K mg "_law_ground" J7 SQ)(L59:Zb K mg "_law_tables" K5 SK)(L60:Zb K mg "_law_others" JL Th)(L61:Zb K mg "_law_deed" HI Ti)(a62:yU K ap "law"=Z' (Z' !f62))(l62:K.lookup f62\#[oc62,od62,.func (xZ "law" "law" (QC QN) (Xs QN) (Zc QN) .none kV62 dc62 pm62 an62 cd62 ct62),sl62])(c62:wK K cd62 "law"=true)(k62:xX K (!f62)=V')(z1:yU K ap "isinstance"=Z' Y')(z2:yU K ap "bool"=Z' Y')(z3:yU K ap "int"=Z' Y')(z4:yU K ap "str"=Z' Y')(z5:yU K ap "tuple"=Z' Y')(z6:yU K ap "list"=Z' Y')(z7:yU K ap "len"=Z' Y')(z8:yU K ap "all"=Z' Y')(z9:yU K ap "abs"=Z' Y')(z10:yU K ap "max"=Z' Y')(z11:yU K ap "min"=Z' Y')(z12:yU K ap "range"=Z' Y')(z13:yU K ap "sorted"=Z' Y')(z14:yU K ap "ValueError"=Z' Y')(z15:yU K ap "sum"=Z' Y')(m1_:yU K ap "MOST_SIGNS"=Z' (Z' (.int 40 t1)))(m2_:yU K ap "MOST_THINGS"=Z' (Z' (.int 4 t2)))(m3_:yU K ap "MOST_DEEP"=Z' (Z' (.int 3 t3)))(m4_:yU K ap "MOST_ROWS"=Z' (Z' (.int 4 t4)))(m5_:yU K ap "FEWEST_BRANCHES"=Z' (Z' (.int 2 t5)))(m6_:yU K ap "MOST_BRANCHES"=Z' (Z' (.int 4 t6)))(m7_:yU K ap "HEIGHT"=Z' (Z' (.int 0 t7)))(m8_:yU K ap "LEAST"=Z' (Z' (.int 1 t8)))(m9_:yU K ap "GREATEST"=Z' (Z' (.int 2 t9)))(m10_:yU K ap "MANY"=Z' (Z' (.int 3 t10)))(m11_:yU K ap "KEPT"=Z' (Z' (.int 3 t11)))(IjS:PX K jT "Shelf.__init__" Kz TY)(IjT:PX K jU "Twig.__init__" JY SZ)(IjB:O6 K CTb)(IjD:Qi K CD)(Mm1:Zr K jT "put_leaf" "Shelf.put_leaf" J0 TC)(Mm2:Zr K jT "put_stem" "Shelf.put_stem" Ja T4)(Mm3:Zr K jT "put_twig" "Shelf.put_twig" JX SW)(Mm4:Zr K jT "holders" "Shelf.holders" IS U')(Mm5:Zr K jT "outside" "Shelf.outside" GE U')(Mm7:Zr K jT "look" "Shelf.look" HC U')(Mm8:Zr K jT "label" "Shelf.label" Ib U')(Mm12:Zr K jT "twig_of" "Shelf.twig_of" Io U')(Mm13:Zr K jT "labels_of" "Shelf.labels_of" JI T4)(Mm14:Zr K jT "check_held" "Shelf.check_held" GM T4)(Mm15:Zr K jT "take_over" "Shelf.take_over" IH TD)(Mm18:Zr K jT "road_up" "Shelf.road_up" Ll U')(Mm19:Zr K jT "alone" "Shelf.alone" IQ U')(Mm20:Zr K jT "change_leaf" "Shelf.change_leaf" Jf Tn)(Mm21:Zr K jT "change_stem" "Shelf.change_stem" JM TJ)(Mm22:Zr K jT "labels_up" "Shelf.labels_up" Hw S')(Mm23:Zr K jT "give_labels" "Shelf.give_labels" GN Td)(Mm24:Zr K jT "give_back" "Shelf.give_back" Iq TD)(Mm25:Zr K jT "hold" "Shelf.hold" Ie U')(Mm26:Zr K jT "let_go" "Shelf.let_go" KK U')(Mm27:Zr K jT "drop_unheld" "Shelf.drop_unheld" Ka U')(Mm28:Zr K jT "numbers" "Shelf.numbers" Hg TY)(Mt1:Zr K CTb "put" "Table.put" GH SS)(Mt5:Zr K CTb "take" "Table.take" Jl TM)(Mt2:Zr K CTb "side" "Table.side" HM TM)(Mt6:Zr K CTb "fork" "Table.fork" Hz TY)(xCD:yU K ap "Shared"=Z' (Z' !CD))(xCSh:yU K ap "Shelf"=Z' (Z' !jT))(xCTw:yU K ap "Twig"=Z' (Z' !jU))(xCTb:yU K ap "Table"=Z' (Z' !CTb))(mkCSh:uN K jT=V')(kpCSh:xX K (!jT)=V')(pgCSh:vM K jT Str.empty=V')(hdCSh:vX K jT=V')(poCSh:uJ K jT=V')(saCSh:zB K (!jT) "__setattr__"=Z' 'i')(mkCTw:uN K jU=V')(kpCTw:xX K (!jU)=V')(pgCTw:vM K jU Str.empty=V')(hdCTw:vX K jU=V')(poCTw:uJ K jU=V')(saCTw:zB K (!jU) "__setattr__"=Z' 'i')(mkCTb:uN K CTb=V')(kpCTb:xX K (!CTb)=V')(pgCTb:vM K CTb Str.empty=V')(hdCTb:vX K CTb=V')(poCTb:uJ K CTb=V')(saCTb:zB K (!CTb) "__setattr__"=Z' 'i')(na_kept:zB K (!jT) "kept"=Z' Y')(na_following:zB K (!jT) "following"=Z' Y')(na_looks:zB K (!jT) "looks"=Z' Y')(na_things:zB K (!jU) "things"=Z' Y')(na_tag:zB K (!jU) "tag"=Z' Y')(na_above:zB K (!jU) "above"=Z' Y')(na_holds:zB K (!jU) "holds"=Z' Y')(na_shelf:zB K (!CTb) "shelf"=Z' Y')(na_root:zB K (!CTb) "root"=Z' Y')(tyCD:wE K (!CD)\.type "type")(mBCD:xE K CD 'x'\true)(sbDD:xE K CD (!CD)\true):
  ∃ y,(∀ s  v ,BindsTo s y #[[v],[]] [("_law_script",v)])/\∀ a,K.In a->a.Ns ap mg->ZI l.prog w K mg a ZJ 40 fa y SG (Qs K):=by
 let e:=hfa.symm|||xY X G a62;cases e;let T:YM mg:=#[xO X G z1,xO X G z2,xO X G z3,xO X G z4,xO X G z5,xO X G z6,xO X G z7,xO X G z8,xO X G z9,xO X G z10,xO X G z11,xO X G z12,xO X G z13,xO X G z14,xO X G z15,#[_,xY X G m1_],#[_,xY X G m2_],#[_,xY X G m3_],#[_,xY X G m4_],#[_,xY X G m5_],#[_,xY X G m6_],#[_,xY X G m7_],#[_,xY X G m8_],#[_,xY X G m9_],#[_,xY X G m10_],#[_,xY X G m11_]];exists xZ "law" "law" (QC QN) (Xs QN) (Zc QN) .none kV62 dc62 pm62 an62 cd62 ct62,λs v=>.of_eq Z;intro a kb _;let c:YJ K mg jT jU:=#[(xY X G xCSh),(xY X G xCTw),#[pgCSh,hdCSh,poCSh,saCSh],#[pgCTw,hdCTw,poCTw,saCTw],na_kept,na_following,na_looks,na_things,na_tag,na_above,na_holds];let g:PQ K mg CTb:=#[(xY X G xCTb),#[pgCTb,hdCTb,poCTb,saCTb],na_shelf,na_root];let m8:XN l.prog w K mg a "Shared" CD "number" :=IjD.xn (xY X G xCD) tyCD;let m7:XD K mg CD:=#[(xY X G xCD),tyCD,mBCD,sbDD];let e6:Q8 l.prog w K mg a 1 jT TY (Pk jT):=by let#[f,y,v,fn,F,b]:=IjS.ex;show#[f,y,#[mkCSh,v,fn,kpCSh],yw F c,b]
 let e7:Q8 l.prog w K mg a 1 jU SZ (Pi jU):=by let#[f,y,v,fn,F,b]:=IjT.ex;show#[f,y,#[mkCTw,v,fn,kpCTw],zf F c,b]
 let d:!ZB ZJ 1 jT "twig_of" U' (Zj jT):=Mm12.of λ_ _ F=>nh F c;let m1:!ZB ZJ 2 jT "outside" U' (Xl jT jU λ_ ho _=>.int ho):=Mm5.of λ_ _ F=>lC F c d;let t:!ZB ZJ 2 jT "label" U' (Xl jT jU λtg _ _=>tg):=Mm8.of λ_ _ F=>qk F c d;let r:!ZB ZJ 2 jT "holders" U' (Xl jT jU λ_ ho us=>.int ((↑us:Nat)+(ho:Nat):Int)):=Mm4.of λ_ _ F=>At F T c d;let p:!ZA 1 "is_stem" Tz (WO jU):=L43.of λ_ _ F=>Ar F T c;let l9:!ZB ZJ 2 jT "look" U' (Qh jT jU):=Mm7.of λ_ _ F=>vo F T c d p;let i:=ut l9;let S:=qv t;let a2:!ZB (Um l.prog w) 3 jT "road_up" U' (Ys jT jU):=Mm18.of λ_ _ F=>oM F c r d;let m3:!ZB (Um l.prog w) 3 jT "road_up" U' (WC jT jU CD):=Mm18.of λ_ _ F=>B9 F c m8 r d;let l5:!ZB ZJ 4 jT "alone" U' (XM jT jU):=Mm19.of λ_ _ F=>oO F c m7 m3;let a1:!ZB ZJ 3 jT "put_twig" SW (XZ jT jU):=Mm3.of λ_ _ F=>mD F c e7;let a3:!ZB ZJ 2 jT "take_over" TD (Y6 jT jU):=Mm15.of λ_ _ F=>lB F c d;let a0:!ZB ZJ 3 jT "labels_of" T4 (Yg jT jU):=Mm13.of λ_ _ F=>kM F c t;let j:!ZB ZJ 3 jT "check_held" T4 (Zz jT jU):=Mm14.of λ_ _ F=>kq F c m1;let o:!ZA 1 "_law_pull" TZ (Z0):=L45.of λ_ _ F=>uo F;let DW:!ZA 1 "_law_well" Tl (VO K):=L44.of λ_ _ F=>wq F T;let DG:!ZA 2 "_law_great" SX (Z0):=L46.of λ_ _ F=>B8 F T o;let DT:!ZA 2 "_law_text" TL (VJ):=L47.of λ_ _ F=>wk F T o;let DN:!ZA 1 "has_few_figures" Tq (Qq):=L4.of λ_ _ F=>As F T;let i7:!ZA 1 "is_sign" ["sign"] (UO):=L5.of λ_ _ F=>tr F;let e0:!ZA 6 "is_key" TU (UP):=L1.of λ_ _ F=>pM F T (Gq T L3 DN i7 4);let DC:!ZA 7 "checked" TU (VM):=L2.of λ_ _ F=>mw F e0;let l0:!ZA 6 "standing" TK (Qe 5):=ET T L8 5;let k:!ZA 7 "ahead" TB (Y5):=L6.of λ_ _ F=>qg F l0;let i3:!ZA 8 "rise" ["keys"] (UK):=L11.of λ_ _ F=>uw F T k;let e8:!ZA 8 "own_rows" TX (WN):=L10.of λ_ _ F=>me F DC;let M:!ZA 9 "checked_rows" TX (Xv):=L9.of λ_ _ F=>oA F T e8 i3;let O:!ZA 1 "label_of_rows" TX (Xe):=L12.of λ_ _ F=>Bj F T;let m2:!ZB ZJ 10 jT "put_leaf" TC (Xn jT jU):=Mm1.of λ_ _ F=>Aa F c M O a1;let u:=my m2;let i8:!ZA 8 "stand_side_by_side" Tb (QS):=L14.of λ_ _ F=>Aj F T k;let C:!ZA 9 "label_over" Tr (X9):=L13.of λ_ _ F=>oh F T i8;let x:!ZB ZJ 10 jT "put_stem" T4 (YC jT jU):=Mm2.of λ_ _ F=>Av F T c a0 C j a1 a3;let i0:!ZA 8 "place_in" SV (UE K):=L7.of λ_ _ F=>pD F T k;let A:!ZA 1 "is_leaf" Tu (XQ):=L20.of λ_ _ F=>Al F;let c0:!ZA 2 "branch_at" Tf (Xm):=L19.of λ_ _ F=>lg F A;let i2:!ZA 9 "place_within" SR (VN jT jU):=L18.of λ_ _ F=>mY F T c A i0 k S;let c1:!ZA 8 "check_asked" T3 (YX jT jU):=L17.of λ_ _ F=>km F c S DC;let E:!ZA 10 "steps_to" T3 (Xf jT jU):=L16.of λ_ _ F=>pG F c c1 i i2 c0;let l3:!ZA 11 "value_of" T3 (XY jT jU):=L15.of λ_ _ F=>lG F E;let a4:!ZB ZJ 10 jT "labels_up" S' (WB jT jU):=Mm22.of λ_ _ F=>B5 F c d t C;let V:!ZB ZJ 2 jT "give_labels" Td (WM jT jU):=Mm23.of λ_ _ F=>w6 F c d;let l7:!ZB ZJ 2 jT "give_back" TD (Y9 jT jU):=Mm24.of λ_ _ F=>kB F c d;let U:!ZB ZJ 11 jT "change_leaf" Tn (Yv jT jU):=Mm20.of λ_ _ F=>Be F c d p a2 M a4 O V;let I:!ZB ZJ 11 jT "change_stem" TJ (Y0 jT jU):=Mm21.of λ_ _ F=>Ah F T c d p a2 a0 C a4 j V a3 l7;let z:!ZA 4 "check_root" TQ (YD jT jU):=L21.of λ_ _ F=>kL F c j;let n:!ZB ZJ 2 jT "hold" U' (Ye jT jU):=Mm25.of λ_ _ F=>vm F c d;let J:!ZB ZJ 3 jT "drop_unheld" U' (VC jT jU):=Mm27.of λ_ _ F=>Ag F c r;let l6:!ZB ZJ 4 jT "drop_unheld" U' (V6 jT jU):=Mm27.of λ_ _ F=>AM F c r d p J;let l8:!ZB ZJ 5 jT "let_go" U' (VF jT jU):=Mm26.of λ_ _ F=>Ez F c j d J;let Y:=q8 (jT:=jT) (jU:=jU) (Mm26.of λ_ _ F=>x' (Ez F c j d J) (rq F c j d l6) (zY _));let H:=A' I;let e9:!ZA 11 "put_copy" SU (V1 jT jU):=L25.of λ_ _ F=>uj F c i A n u x;let B:!ZA 12 "own" TR (XX jT jU):=L24.of λ_ _ F=>Aq F c l5 e9 i I l8;let D:!ZA 13 "own_way" TW (YQ jT jU):=L23.of λ_ _ F=>lV F B;let c5:!ZA 12 "give_rows" Ta (Ww jT jU):=L28.of λ_ _ F=>Bw F T c U u;let a5:!ZA 12 "add_branch" SJ (WA jT jU):=L29.of λ_ _ F=>nz F T c i I x;let a9:!ZA 13 "add_up" SN (WD jT jU):=L30.of λ_ _ F=>mI F T a5;let i6:!ZA 11 "root_with" SY (Wz jT jU):=L31.of λ_ _ F=>oi F c x;let i5:!ZA 1 "rows_with" Tc (Y7):=L27.of λ_ _ F=>kA F;let i1:!ZA 14 "put_in" SO (UR jT jU):=L26.of λ_ _ F=>tj F T c z DC u E D i5 c5 a9 i6;let m:!ZA 1 "branches_of" T2 (Yl):=L37.of λ_ _ F=>ui F;let q:!ZA 2 "neighbour" T2 (Ua):=L38.of λ_ _ F=>K' F m;let R:!ZA 8 "stands_ahead" Tg (Ug jT jU):=L42.of λ_ _ F=>zm F T c t k;let a6:!ZA 12 "adopt" TR (Yu jT jU):=L41.of λ_ _ F=>nR F T c i R H;let N:!ZA 33 "hand_down" TN (YR 20 jT jU):=BN L40 T c m q n Y B a6 20;let c8:!ZA 34 "hand_down" TN (Wm jT jU):=L40.of λ_ _ F=>Bf F T c m q n Y N;let c9:!ZA 3 "is_full" Te (Xw jT jU):=L36.of λ_ _ F=>oB F T c i;let c2:!ZA 4 "can_lose_one" Tj (Xb jT jU):=L35.of λ_ _ F=>AB F T m q c9;let c4:!ZA 5 "first_that_goes" TW (Wq jT jU):=L34.of λ_ _ F=>AR F T c2;let c3:!ZA 12 "exchange" SH (Wo jT jU):=L39.of λ_ _ F=>oX F c i R H;let l4:!ZA 35 "without_leaf" TW (UG jT jU):=L33.of λ_ _ F=>BZ F T c c4 c8 N D m q H B c3;let l2:!ZA 36 "taken_from" T3 (WE jT jU):=L32.of λ_ _ F=>mj F T c z E l4 D U;let P:KP l.prog w K mg a 5 CTb Tt (Y3 jT jU CTb):=by let#[f,y,v,fn,F]:=IjB.ex;show#[f,y,#[mkCTb,v,fn,kpCTb],vd F g z,F.binds.1,F.binds.2]
 let L:!ZB ZJ 12 CTb "side" TM (Yz jT jU CTb):=Mt2.of λ_ _ F=>mU F g l3;let m5:!ZB ZJ 15 CTb "put" SS (Ws jT jU CTb):=Mt1.of λ_ _ F=>se F g L DC i1;let m6:!ZB ZJ 37 CTb "take" TM (Xy jT jU CTb):=Mt5.of λ_ _ F=>nW F g L l2;let c7:!ZA 3 "held" TQ (UJ jT jU):=L22.of λ_ _ F=>so F c n;let m4:!ZB ZJ 7 CTb "fork" TY (Wt jT jU CTb):=Mt6.of λ_ _ F=>qd F g P c7;let m0:!ZB ZJ 1 jT "numbers" TY (Yx jT jU):=Mm28.of λ_ _ F=>AK F T c;let DK:!ZA 6 "_law_key" TH (Xg 4):=C5 T L48 o DG DT 4;let Q:!ZA 6 "_law_rank" TF (WL 5):=Cu T L49 5;let i9:!ZA 9 "_law_sorted" To (Xt w):=L50.of λ_ _ F=>mZ F T Q;let e1:!ZA 9 "_law_keys" TZ (QQ):=L51.of λ_ _ F=>xb F T DK Q;let l1:!ZA 11 "_law_tree" SL (VB jT jU):=L52.of λ_ _ F=>uh F T c o u x;let DV:!ZA 7 "_law_value" TL (Wv):=L56.of λ_ _ F=>rj F o DK;let a7:!ZA 7 "_law_any_key" SI (VI):=L57.of λ_ _ F=>AE F T o DK;let c6:!ZA 10 "_law_ground" SQ (VP w):=L58.of λ_ _ F=>mX F o e1 DV;let a8:!ZA 7 "_law_alike" TV (XW 6):=EJ T L54 6;let i4:!ZA 8 "_law_rows_alike" TV (VD):=L55.of λ_ _ F=>nX F T a8;let e4:!ZA 3 "_law_reached" SM (Y4 jT jU):=L53.of λ_ _ F=>mo F T c i;let e3:!ZA 4 "_law_others" Th (Yt jT jU CTb):=L60.of λ_ _ F=>nj F T g e4;let e2:!ZA 38 "_law_deed" Ti (WT jT jU CTb):=L61.of λ_ _ F=>xk F T g o a7 DV m6 m5 L i4;let e5:!ZA 12 "_law_tables" SK (Xx jT jU CTb w):=L59.of λ_ _ F=>AY F T g o i9 l1 P m4;show zh (Om (st:=QN) l62 c62 k62) T c g e6 DW c6 e5 o e3 e2 m0 n
theorem walk{l:sC}{q:am}{c:jn}{o:(jb)->aD->Prop}{i:aw->aD->Prop}{d:DefRec}{K:Params->zZ}(v:l.most\63)(g:d.params.defaults=[])(r:∀ (w:aw) (h:aD),i w h->(K w.params).In h)(F:∀ (w:aw) (e:jb) (j:aj) (h:aD),'W'.In h->h.Ns ap e->e d.name=Z' (!j) ->
   ∃ m:ao,(∀ (s:ak) (u:ai),BindsTo s m #[[u],[]] [("_law_script",u)])/\∀ b:aD,'W'.In b->b.Ns ap e->ZI l.prog w 'W' e b ZJ 40 j m SG (Qs 'W')):
  PySem.W.WalkO q c o i l.row.toRowW d [] (λf A=>PySem.call f A):=
 _T.Li (n:=63) (k:=40) (x:= "_law_script") (CX:=λ_=>ZJ) (sp:=λw=>Qs 'W') v 'b' g #[Z,'b',by decide] r F (λ_ _ a y t _ p=>#[a,y,Z,p,t,λ_=>rfl]) λ_ _ _ _ _ z=>z
end _T
open PySem PySem.W PyProof.Rows
namespace PySem.W.Fast
local macro_rules|`(universe $x*)=>Lean.MonadRef.withRef .missing do return .node .none `null (←(x++(Array.range 1081).map λi=>Lean.mkIdent (.mkSimple s!"tw{((`PySem.Challenge).str "cw_twigmap_k44_forks_stand_holds"|>.str s!"o_{i}").hash}")).mapM λi=>`(noncomputable def $i:ident:=0))
universe tw10174126438835439381 tw10447601649336163728 tw11366309302335651843 tw12062916140938721824 tw13934206428091634284 tw14275550793038083054 tw14279431907191322949 tw1430454285601485898 tw14434102434919876995 tw14578643905545637968 tw1501123162593868684 tw15093596462623787230 tw15416860479204659183 tw15864257777307927729 tw15933331897583985765 tw16237807693361817634 tw16510840166978504685 tw16655027596837214336 tw1699089752240942923 tw17227850569409227024 tw1772343654319980020 tw17927656906623416403 tw18027089039711022731 tw18256866700314452773 tw2621794148068183863 tw2657659827200606266 tw3923458768174954858 tw4344241952669150311 tw499744752386906800 tw5274285586174663937 tw557227840514611667 tw5683840262019952990 tw5814182362520341083 tw601299605222827794 tw6818386470330772460 tw701761463676390039 tw7132271722214997722 tw7726463787998663660 tw8519768537785496001 tw8675622122494712194 tw8701085244999367562 tw9997767092697197843
end PySem.W.Fast
open _T(LY)
set_option maxRecDepth 100000 in
set_option maxHeartbeats 0 in
theorem PySem.Challenge.cw_twigmap_k44_forks_stand_holds : PySem.Challenge.rw_twigmap_k44_forks_stand.Holds := by
 w_on;o_law;k_head;(case hw=>w_witness2)
 k_fill
 show _T.walk (l:=PySem.Challenge.rw_twigmap_k44_forks_stand) Z Z (λw h Y=>PySem.W.kIn_of Y) ?qFun
 case qFun=>
  intro w mg fa h KX G hmg;refine' _T.Ht KX G hmg (_T.Kf KX G ?a1 ?l1 ?c1 ?k1) (_T.Kf KX G ?a2 ?l2 ?c2 ?k2) (_T.Kf KX G ?a3 ?l3 ?c3 ?k3) (_T.Kf KX G ?a4 ?l4 ?c4 ?k4) (_T.Kf KX G ?a5 ?l5 ?c5 ?k5) (_T.Kf KX G ?a6 ?l6 ?c6 ?k6) (_T.Kf KX G ?a7 ?l7 ?c7 ?k7) (_T.Kf KX G ?a8 ?l8 ?c8 ?k8) (_T.Kf KX G ?a9 ?l9 ?c9 ?k9) (_T.Kf KX G ?A0 ?A1 ?A2 ?A3) (_T.Kf KX G ?A4 ?A5 ?A6 ?A7) (_T.Kf KX G ?A8 ?A9 ?Aa ?Ab) (_T.Kf KX G ?Ac ?Ad ?Ae ?Af) (_T.Kf KX G ?Ag ?Ah ?Ai ?Aj) (_T.Kf KX G ?Ak ?Al ?Am ?An) (_T.Kf KX G ?Ao ?Ap ?Aq ?Ar) (_T.Kf KX G ?As ?At ?Au ?Av) (_T.Kf KX G ?Aw ?Ax ?Ay ?Az) (_T.Kf KX G ?B0 ?B1 ?B2 ?B3) (_T.Kf KX G ?B4 ?B5 ?B6 ?B7) (_T.Kf KX G ?B8 ?B9 ?Ba ?Bb) (_T.Kf KX G ?Bc ?Bd ?Be ?Bf) (_T.Kf KX G ?Bg ?Bh ?Bi ?Bj) (_T.Kf KX G ?Bk ?Bl ?Bm ?Bn) (_T.Kf KX G ?Bo ?Bp ?Bq ?Br) (_T.Kf KX G ?Bs ?Bt ?Bu ?Bv) (_T.Kf KX G ?Bw ?Bx ?By ?Bz) (_T.Kf KX G ?C0 ?C1 ?C2 ?C3) (_T.Kf KX G ?C4 ?C5 ?C6 ?C7) (_T.Kf KX G ?C8 ?C9 ?Ca ?Cb) (_T.Kf KX G ?Cc ?Cd ?Ce ?Cf) (_T.Kf KX G ?Cg ?Ch ?Ci ?Cj) (_T.Kf KX G ?Ck ?Cl ?Cm ?Cn) (_T.Kf KX G ?Co ?Cp ?Cq ?Cr) (_T.Kf KX G ?Cs ?Ct ?Cu ?Cv) (_T.Kf KX G ?Cw ?Cx ?Cy ?Cz) (_T.Kf KX G ?D0 ?D1 ?D2 ?D3) (_T.Kf KX G ?D4 ?D5 ?D6 ?D7) (_T.Kf KX G ?D8 ?D9 ?Da ?Db) (_T.Kf KX G ?Dc ?Dd ?De ?Df) (_T.Kf KX G ?Dg ?Dh ?Di ?Dj) (_T.Kf KX G ?Dk ?Dl ?Dm ?Dn) (_T.Kf KX G ?Do ?Dp ?Dq ?Dr) (_T.Kf KX G ?Ds ?Dt ?Du ?Dv) (_T.Kf KX G ?Dw ?Dx ?Dy ?Dz) (_T.Kf KX G ?E0 ?E1 ?E2 ?E3) (_T.Kf KX G ?E4 ?E5 ?E6 ?E7) (_T.Kf KX G ?E8 ?E9 ?Ea ?Eb) (_T.Kf KX G ?Ec ?Ed ?Ee ?Ef) (_T.Kf KX G ?Eg ?Eh ?Ei ?Ej) (_T.Kf KX G ?Ek ?El ?Em ?En) (_T.Kf KX G ?Eo ?Ep ?Eq ?Er) (_T.Kf KX G ?Es ?Et ?Eu ?Ev) (_T.Kf KX G ?Ew ?Ex ?Ey ?Ez) (_T.Kf KX G ?F0 ?F1 ?F2 ?F3) (_T.Kf KX G ?F4 ?F5 ?F6 ?F7) (_T.Kf KX G ?F8 ?F9 ?Fa ?Fb) (_T.Kf KX G ?Fc ?Fd ?Fe ?Ff) (_T.Kf KX G ?Fg ?Fh ?Fi ?Fj) (_T.Kf KX G ?Fk ?Fl ?Fm ?Fn) (_T.Kf KX G ?Fo ?Fp ?Fq ?Fr) ?Fs ?Ft ?Fu ?Fv ?z1 ?z2 ?z3 ?z4 ?z5 ?z6 ?z7 ?z8 ?z9 ?Fw ?Fx ?Fy ?Fz ?G0 ?G1 ?G2 ?G3 ?G4 ?G5 ?G6 ?G7 ?G8 ?G9 ?Ga ?Gb ?Gc (_T.Mu ?Gd ?Ge ?Gf ?Gg ?Gh (by exact λ_ _ _ _ _ _=>_T.LY _ _ (by(repeat intro _);rfl))) (_T.Mu ?Gi ?Gj ?Gk ?Gl ?Gm (by exact λ_ _ _ _ _ _=>_T.LY _ _ (by(repeat intro _);rfl))) (_T.Mj ?Gn ?Go ?Gp ?Gq ?Gr ?Gs) (_T.Md ?Gt ?Gu ?Gv ?Gw ?Gx (by exact λ_ _ _ _ _ _=>_T.LY U' _ (by(repeat intro _);rfl))) (_T.LZ ?Gy ?Gz ?H0 ?H1 ?H2) (_T.LZ ?H3 ?H4 ?H5 ?H6 ?H7) (_T.LZ ?H8 ?H9 ?Ha ?Hb ?Hc) (_T.LZ ?Hd ?He ?Hf ?Hg ?Hh) (_T.LZ ?Hi ?Hj ?Hk ?Hl ?Hm) (_T.LZ ?Hn ?Ho ?Hp ?Hq ?Hr) (_T.LZ ?Hs ?Ht ?Hu ?Hv ?Hw) (_T.LZ ?Hx ?Hy ?Hz ?I0 ?I1) (_T.LZ ?I2 ?I3 ?I4 ?I5 ?I6) (_T.LZ ?I7 ?I8 ?I9 ?Ia ?Ib) (_T.LZ ?Ic ?Id ?Ie ?If ?Ig) (_T.LZ ?Ih ?Ii ?Ij ?Ik ?Il) (_T.LZ ?Im ?In ?Io ?Ip ?Iq) (_T.LZ ?Ir ?Is ?It ?Iu ?Iv) (_T.LZ ?Iw ?Ix ?Iy ?Iz ?J0) (_T.LZ ?J1 ?J2 ?J3 ?J4 ?J5) (_T.LZ ?J6 ?J7 ?J8 ?J9 ?Ja) (_T.LZ ?Jb ?Jc ?Jd ?Je ?Jf) (_T.LZ ?Jg ?Jh ?Ji ?Jj ?Jk) (_T.LZ ?Jl ?Jm ?Jn ?Jo ?Jp) (_T.LZ ?Jq ?Jr ?Js ?Jt ?Ju) (_T.LZ ?Jv ?Jw ?Jx ?Jy ?Jz) (_T.LZ ?K0 ?K1 ?K2 ?K3 ?K4) (_T.LZ ?K5 ?K6 ?K7 ?K8 ?K9) (_T.LZ ?Ka ?Kb ?Kc ?Kd ?Ke) (_T.LZ ?Kf ?Kg ?Kh ?Ki ?Kj) ?Kk ?Kl ?Km ?Kn ?Ko ?Kp ?Kq ?Kr ?Ks ?Kt ?Ku ?Kv ?Kw ?Kx ?Ky ?Kz ?L0 ?L1 ?L2 ?L3 ?L4 ?L5 ?L6 ?L7 ?L8 ?L9 ?La ?Lb ?Lc ?Ld ?Le ?Lf ?Lg ?Lh
  (case Kk|Kl|Km|Kn|Gd|Gi|Gn|Gt|Gy|H3|H8|Hd|Hi|Hn|Hs|Hx|I2|I7|Ic|Ih|Im|Ir|Iw|J1|J6|Jb|Jg|Jl|Jq|Jv|K0|K5|Ka|Kf=>k_is)
  (case Gu=>kernel_rfl)
  all_goals try k_is
  all_goals try k_is
