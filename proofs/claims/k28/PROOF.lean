import PyProof.Rows.All
import Wide.All
import OpenK.AllK
import PySem.Challenge.RW_taglook_k28_refused_in_order
set_option Elab.async false
set_option compiler.extract_closed false
set_option bootstrap.genMatcherCode false
set_option genSizeOfSpec false
set_option linter.all false
set_option maxRecDepth 100000
set_option maxHeartbeats 4000000
open PySem renaming Addr->b',Value->f',Shared->j',model->l',wpAny->nc,Expr->pd,wpAny_bind->p',starEach->x',Heap->y',Stmt->D',sizeLine->K',FuncData->N',World->O',Scope->T',wpAny_pure->U',Program->X',backTo->ZP,Env->ZR,cLine->ZU,Around->ZW,mainGlobals->ZY,Tok->È,compareOp->Ë,wpAny_mono->Í,codeAny->Ñ,Paired->Ö,Sem->Ø,swapsWith->Ù,CmpOp->Ú,standAt->Þ,holding->ß,backToKw->â,keywordEach->ã,sysModules->æ,getMethod->ê,attributeBase->ì,bootBuiltins->ò,BindsTo->ô,callWith->õ,assignEach->ü,foldedSetIterable->ý,sizeLine_eq->þ,codeAny_mono->ÿ,wpAny_holding->ā,wpAny_call->ą,wpAny_Call_Name_kw->Ć,relabel->ċ,wpAny_truthy_bool->č,atKey->Đ,execs->ė,wpAny_execs_nil->Ę,wpAny_passesOwn->ę,pyIter->Ě,Operator->ě,binaryOp->Ĝ,bindL->Ġ,bindC->ġ,call_meets->Ģ,callerA->ĥ,plainId_quiet->ħ,isTrue->į,again->İ,bindArgs->ı,getItem->Ĵ,valueAt->ĵ,stored->Ķ,excClassObj->ķ,setFlight->ĸ,codeAny_builtin->ĺ,wpAny_rule->Ļ,tupleKind->Ņ,Flow->ň,PassesOwn->Ŋ,truthy->ŋ,behindInMarks->Ō,lastMarks->ō,getAttr->ŏ,NameKind->Ŕ,mem_of_lookup->ŗ,sliceBounds->ř,DictEntry->ś,OwnTail->Ŝ,Builtin->ŝ,wpAny_field->ş,BoolOp->ŧ,wpAny_execs_cons->ū,assign->Ŭ,setAttr->Ű,Result->Ų,leaving->ŷ,Arguments->Ź,IsPart->ź,typeLookup->Ż,PlainAttrs->ż,Slot->Ž,typeOf->ž,Keyword->ϊ,tupleKind_room_in1->ό,Params->ύ,getAttr?->Ϗ,wpAny_setField->ϐ,noteFrame->ϑ,wpAny_standAt->ϒ,wpAny_typeOf->ϓ,wpAny_pyIter_list->ϔ,slicePicked->ϖ,Within->ϡ,builtinsNs->Ϣ,GenState->ϣ,wpAny_Name->Ϥ,pyNext->ϥ,letOwnedTupleGo->Ϧ,wpAny_loadPart->ϫ,codeAny_call_function->Ϸ,wpAny_newFunctionEnv_cells->Ϲ,codeAny_func->Ϻ,seqIndex_of->aab,seqIndex_neg->aac,subscripted->aad,typeIs_str->aae,evalArgs_none->aaf,call->aai,ExcBaseFacts->aaj,codeAny_call_builtin->aak,ExceptHandler->aap,handleBy->aaq,wpAny_updateSeq->aat,wpAny_letGo->aau,wpAny_ite_split->aaw,Comprehension->aaE,boot_len->aaL,lookup_relabel_local->aaM,wpAny_Expr_any->aa7,wpAny_assign_Name->aa8,wpAny_pyNext_list_item->aa9,wpAny_pyNext_list_end->aa',intBits_le_64->abb,wpAny_truthy_list->abg,wpAny_lookBehind->abk,pastItsLine_dict->abl,plainObj_wpAny_Assign_Attribute->abr,slot_list_getitem->aby,call_list_seq->abA,wpAny_Call_method0_late->abB,wpAny_specialOf->abH,wpAny_Dict_empty->abI,wpAny_loadPart_at->abM,wpAny_isSubtype_exc->abO,wpAny_newObj_type->abY,wpAny_Try_except->ab2,wpAny_pyIter_dict->ab3,getattributeRaised->ab4,callType_codes->ab5,call_function_tree->acm,wpAny_pyIter_enum->aco,methodCallForm->acy
open PySem.W renaming Frag->A',mg_of->F',keepIn->Z_,fnOf->Á,findIn->Ä,nsIn->Î,kitOne->à,kia_one->á,codeIn->ö,notCls->đ,hasDictIn->ĝ,specialIn->Ğ,callWith_K->ğ,instObj->ĭ,exmOne->Ĺ,takesIn->Ő,mroIn->ő,methodCall_KW->œ,lookIn->ů,any_some->ű,emptyDict->ų,looks_findIn->Ŵ,isFn->ŵ,cellsFrom_some->Ÿ,Looks->ώ,InstAt->Ϩ,plainOver->ϩ,takerIn->Ϫ,looks_clsIn->Ϭ,makesIn->ϭ,typeIn->Ϯ,InitBack->ϯ,plainGet->ϰ,plainGet_of->ϱ,findObj_own->ϲ,kitx_tuple->ϳ,callWith_K0->ϴ,codeRec_of->ϸ,clsIn->aal,binds_K->aaY,set_plain->abh,bind_fn->abm,handedIn->abn,kitx_list->abt,kitx_dict->abu,OpenLaw->abK,WalkO->abL,looks_mroIn->abP,findObj->abU,looks_find->abV,readsIn->abW,findCls->abX,mg_none_of->acs
open Nat renaming le_trans->B',le_refl->M',ne_of_lt->Q',lt_of_lt_of_le->R',le_of_eq->V',lt_irrefl->Ã,ne_of_gt->É,zero_le->Ì,lt_of_le_of_lt->Ý,le_succ->ä,le_of_lt->é,lt_trans->Ā,le_add_right->ģ,le_of_not_lt->Ľ,sub_le->ŀ,lt_succ_self->Ť,lt_succ_of_lt->ϕ,succ_le_succ->Ϛ,zero_add->ϛ,min_le_left->ϟ,le_succ_of_le->aag,le_total->aaH,min_eq_left->aaI,le_of_lt_succ->aaO,lt_or_eq_of_le->acz,le_add_left->acG,min_le_right->acM
open PySem.Heap renaming lt_size->I',get?_push_of_some->ZQ,get?_push_size->Ê,get?_update_other->ø,get?_update_self->Ď,SameBut->ņ,size_push->abp,get?_update_ne->abQ,get?_push_at->abR,update_setField_same->ab_
open List renaming mem_singleton->W',range->Y',getElem?_eq_some_iff->ZS,mem_of_getElem?->ZV,length_map->ZZ,map_map->Â,mem_cons->Æ,take_succ->Ï,size_toArray->Ð,mem_iff_getElem?->Ó,mem_append->Ô,all_eq_true->Õ,getElem?_append_left->Û,map_append->Ü,getElem?_map->å,getElem?_eq_getElem->ç,mem_map->è,append_nil->í,length_take->î,length_cons->ï,take_length->ð,map_cons->ù,filter_eq_self->ú,lookup_cons->Ă,getElem?_set_ne->ă,mem_append_right->Ą,replicate->ć,getElem?_append_right->Ĉ,map_congr_left->Ċ,find?_cons->ď,getElem?_inj->Ē,nodup_append->Ĕ,forall_mem_cons->ĕ,any_cons->Ĥ,mem_of_mem_take->Ī,mem_range->Į,nodup_cons->Ĳ,getElem?_take_of_lt->ĳ,all_cons->ļ,length_append->ľ,getElem?_eq_none->Ŀ,map_id'->Ł,getElem?_set_self->Ň,lookup->Ŏ,of_mem_zip->ŕ,length->Ŗ,take_sublist->Ř,take_of_length_le->Š,drop_eq_getElem_cons->š,drop_length->Ũ,filterMap_cons->ũ,mem_cons_of_mem->Ū,reverse_cons->ϋ,not_mem_nil->Ϟ,getElem?_replicate->ϵ,length_set->aan,getElem?_set->aao,range_succ_eq_map->aax,find?_some->aaF,ext_getElem?->aaJ,exists_of_findSome?_eq_some->aaK,getElem?_mapIdx->aaN,map_nil->aaP,nil_append->aaQ,map_take->aaR,filter_map->aaS,map_inj_right->aaT,zip->aaX,mem_filter->aa3,getElem_inj->aa4,mem_filterMap->aba,length_drop->abw,drop_zero->ab6,mem_map_of_mem->ab',drop_of_length_le->acf,all_map->acj,any_map->ack,findIdx?_eq_some_iff_getElem->acq,mem_iff_getElem->acr,filter_nil->acA,map_drop->acB,take_append_of_le_length->acD,length_pos_iff->acE,findSome?_cons->acF,pairwise_map->acI,nodup_range->acK,length_reverse->acN,getElem_map->acP,countP_map->acQ,mem_zipIdx_iff_getElem?->acT
open Ne renaming symm->ZT
open PyProof.Rows renaming envOfC->ZX,AllBare->ó,IsTup->Ĭ,IntsAre->Ś,boot_dict->ϙ,callWith_type1->ϧ,callWith_builtin1->ϻ,Subscript_->aaa,boot_isinstance->aar,Constant_none->aa5,subscriptTail_builtinR->abx,len_mul->aeq
open PySem.Value renaming ref->À,none->Ė,type->Ń,bool->Ϡ,isInt->aaZ,isStrOf->aa_,int->aa0,str->aa1,builtin->abT
open Option renaming map_eq_some_iff->Å,bind_eq_some_iff->Ħ,map_some->ţ,isSome_map->aah,isSome_iff_exists->abv,getD_none->abz,isSome_some->abF
open Bool renaming and_eq_true->Ç,and_eq_true_iff->ñ,not_eq_true'->ť,false_eq_true->aav,false_ne_true->aaC,eq_iff_iff->acS
open False renaming elim->Ò
open True renaming intro->ë
open Int renaming natCast_nonneg->û,ne_of_gt->ŭ,emod_nonneg->Ϝ,emod_lt_of_pos->ϝ,toNat_natCast->aaz,zero_add->aaU,natCast_add->aaV,le_of_lt->abd,eq_ofNat_of_zero_le->acO
open PySem.Obj renaming mapSeq->ĉ,data_mapFields->Ş,mapFields->aam,isFreed_of_fields->abZ,cls_mapFields->ab0
open Prod renaming mk->Č
open PySem.SeqAt renaming EqAt->ē,RcAt->aca
open PySem.Expr renaming Name->Ĩ
open PySem.F renaming plainAttrs_list->ĩ,slot_list_getattribute->aas,slot_list_index->aaD,slot_dict_items->aaG,slot_list_append->abC,slot_list_extend->abD,slot_list_reverse->abE,attr_ValueError->abS,excBase_ValueError->ab9,entry_all_loop->ace,plain_all_loop->acg,entry_any_loop->ach,plain_any_loop->aci,slot_list_insert->acp,slot_dict_itemiterator_iter->acu,plainAttrs_dict->acv,type_dict_items->acw,type_list_index->acx,slot_list_count->acR
open Sum renaming inr->ī,inl->ł
open PySem.Paired renaming length->ń,snoc->abG
open Option.some renaming inj->ŉ,injEq->aei
open PySem.Calls renaming spliced_cons->Œ,spliced_nil->Ŷ,callWith_builtin->ſ,Name_function_global->aa6
open PySem.NameKind renaming free->Ţ,cell->aaB
open PySem.Txt renaming mul->Ŧ
open PySem.Builtin.Str renaming occurrences->Ů,strSliceIndices->aaA,tooLong->aek
open PySem.Str renaming length->ϗ,empty->abo,cps_append->acL
open ForInStep renaming yield->Ϙ
open Classical renaming propDecidable->aay
open Nat.succ renaming inj->aaW
open Array renaming append_assoc->aa2,getElem?_eq_some_iff->ab1
open PySem.P renaming truthy_int->abe,truthy_str->abf
open PySem.W.Looks renaming here->abi
open PySem.Within renaming cons->abj
open PySem.Heap.Ns1 renaming of_empty->abq
open PySem.Heap.DictOf renaming new->abJ
open PySem.Code renaming quiet_builtin->abN
open PySem.Builtin.List renaming listExtendWith->ab7,listSameRef->ab8,listTooLong->ac_,listLengthHint->ac2,listItems->ac5
open PySem.SeqAt.EqAt renaming same->acb,int_str->acU,str_int->acV
open PySem.SeqAt.RcAt renaming tuples->acd,none_none->ac7,none_bool->ac8,none_int->ac9,none_str->ac',none_list->ada,none_tuple->adb,bool_none->ade,bool_bool->adf,bool_int->adg,bool_str->adh,bool_list->adi,bool_tuple->adj,int_none->adk,int_bool->adl,int_int->adm,int_str->adn,int_list->ado,int_tuple->adp,str_none->adq,str_bool->ads,str_int->adt,str_str->adu,str_list->adv,str_tuple->adw,list_none->adx,list_bool->ady,list_int->adz,list_str->adA,lists->adB,lists_lengths->adC,list_tuple->adD,tuple_none->adE,tuple_bool->adF,tuple_int->adG,tuple_str->adH,tuple_list->adI
open PySem.Walks renaming list->acn
open PySem.PassesOwn renaming never->acC,leaving->aep
open List.Nodup renaming idxOf_getElem->acH
open List.Pairwise renaming imp_of_mem->acJ,map->aem,imp->aen
open PySem.Builtin.Range renaming rangeSize->acW
open PySem.DictEntry renaming refKey->acX
open PySem.Heap.IsSliceOf renaming new->acY
open PySem.IsL renaming update->acZ
open PySem.Value.ref renaming inj->ac0
open PySem.EntryCells renaming newEntry->ac1
open PySem.Builtin.Dict renaming pairItems->ac3,updateFrom->ac4
open List.cons renaming inj->ac6,injEq->aeo
open PySem.SeqAt.RcNeAt renaming none_none->adJ,none_bool->adK,none_int->adL,none_str->adM,none_list->adN,none_tuple->adO,bool_none->adP,bool_bool->adQ,bool_int->adR,bool_str->adS,bool_list->adT,bool_tuple->adU,int_none->adV,int_bool->adW,int_int->adX,int_str->adY,int_list->adZ,int_tuple->ad_,str_none->ad0,str_bool->ad1,str_int->ad2,str_str->ad3,str_list->ad4,str_tuple->ad5,list_none->ad6,list_bool->ad7,list_int->ad8,list_str->ad9,lists->ad',lists_lengths->aea,list_tuple->aeb,tuple_none->aec,tuple_bool->aed,tuple_int->aee,tuple_str->aef,tuple_list->aeg,tuples->aeh
open PySem.AutoListH renaming list_insert_list_int_val_1->aej
open PySem.ScopeKind renaming function->ael
noncomputable section
set_option autoImplicit true
namespace L2
theorem nq{A0:Sort _}{A1:Sort _}{b:Sort _}{p3:A0->A1->b->Prop}{p4:A0->A1->b->Prop}{p5:A0->A1->b->Prop}{p6:A0->A1->b->Prop}{c:A0->A1->b->Prop}{G:Prop}(h:∃a,∃v1,∃v2,p3 a v1 v2/\p4 a v1 v2/\p5 a v1 v2/\p6 a v1 v2/\c a v1 v2)(k:∀a,∀v1,∀v2,p3 a v1 v2->p4 a v1 v2->p5 a v1 v2->p6 a v1 v2->c a v1 v2->G):G:=
 h.elim λa d=>d.elim λv1 e=>e.elim λv2 f=>f.elim λg i=>i.elim λj l=>l.elim λm n=>n.elim λo p=>k a v1 v2 g j m o p
variable{o6:Prop}
theorem uy{A0:Sort _}{A1:Sort _}{b:Sort _}{p3:A0->A1->b->Prop}{p4:A0->A1->b->Prop}{p5:A0->A1->b->Prop}{p6:A0->A1->b->Prop}{c:A0->A1->b->Prop}{d:A0->A1->b->Prop}{e:A0->A1->b->Prop}(h:∃a,∃v1,∃v2,p3 a v1 v2/\p4 a v1 v2/\p5 a v1 v2/\p6 a v1 v2/\c a v1 v2/\d a v1 v2/\e a v1 v2)(k:∀a,∀v1,∀v2,p3 a v1 v2->p4 a v1 v2->p5 a v1 v2->p6 a v1 v2->c a v1 v2->d a v1 v2->e a v1 v2->o6):o6:=
 h.elim λa f=>f.elim λv1 g=>g.elim λv2 i=>i.elim λj l=>l.elim λm n=>n.elim λo p=>p.elim λq r=>r.elim λs t=>t.elim λu w=>k a v1 v2 j m o q s u w
variable{C P1:Bool}
theorem bL(h:(C&&P1)=true):C=true:=(ñ.mp h).1
theorem bR(h:(C&&P1)=true):P1=true:=(ñ.mp h).2
theorem bQ{a:Type _}{z:a}(h:none=some z):o6:=nomatch h
theorem zi{α:Type _}{l:List α}{i:Nat}{a:α}(h:l[i]?=some a):i<l.length:=(ZS.mp h).1
theorem eV{a b c:Nat}(h:a<=b)(d:b<=c:=by decide):a<=c:=B' h d
theorem zr{a b c:Nat}(h:a<=b)(d:b<c:=by decide):a<c:=Ý h d
theorem LI{a b c:Nat}(h:a<b)(d:b<=c+1:=by decide):a<=c:=by omega
theorem HF{a b:Nat}{c:Int}(h:a<=b)(d:(b:Int)<c:=by decide):(a:Int)<c:=by omega
theorem Sa{a b:Nat}{c:Int}(h:a<b)(d:(b:Int)<=c:=by decide):(a:Int)<c:=by omega
theorem xa{G:Prop}{p q:Prop}(h:p/\q)(k:p->q->G):G:=k h.1 h.2
theorem xe{A:Sort _}{G:Prop}{p:A->Prop}(h:∃a,p a)(k:∀a,p a->G):G:=h.elim λa h=>k a h
theorem ur{G:Prop}{p q r:Prop}(h:p/\q/\r)(k:p->q->r->G):G:=k h.1 h.2.1 h.2.2
theorem bV{A:Sort _}{G:Prop}{p q:A->Prop}(h:∃a,p a/\q a)(k:∀a,p a->q a->G):G:=h.elim λa h=>k a h.1 h.2
theorem bF{A:Sort _}{G:Prop}{p q r:A->Prop}(h:∃a,p a/\q a/\r a)(k:∀a,p a->q a->r a->G):G:=h.elim λa h=>k a h.1 h.2.1 h.2.2
theorem cF{A B:Sort _}{G:Prop}{p q:A->B->Prop}(h:∃a b,p a b/\q a b)(k:∀a b,p a b->q a b->G):G:=h.elim λa h=>h.elim λb h=>k a b h.1 h.2
theorem iF{G:Prop}{p q r s t:Prop}(h:p/\q/\r/\s/\t)(k:p->q->r->s->t->G):G:=k h.1 h.2.1 h.2.2.1 h.2.2.2.1 h.2.2.2.2
theorem iG{A:Sort _}{G:Prop}{p q:Prop}{r s:A->Prop}(h:p/\q/\∃a,r a/\s a)(k:p->q->∀a,r a->s a->G):G:=by obtain⟨l,m,a,n,e⟩:=h;exact k l m a n e
theorem eE{A:Sort _}{G:Prop}{p q r s:A->Prop}(h:∃a,p a/\q a/\r a/\s a)(k:∀a,p a->q a->r a->s a->G):G:=h.elim λa h=>k a h.1 h.2.1 h.2.2.1 h.2.2.2
theorem aW{A B:Sort _}{G:Prop}{p q r:A->B->Prop}(h:∃a b,p a b/\q a b/\r a b)(k:∀a b,p a b->q a b->r a b->G):G:=h.elim λa h=>h.elim λb h=>k a b h.1 h.2.1 h.2.2
theorem fo{A B C:Sort _}{G:Prop}{p q:A->B->C->Prop}(h:∃a b c,p a b c/\q a b c)(k:∀a b c,p a b c->q a b c->G):G:=h.elim λa h=>h.elim λb h=>h.elim λc h=>k a b c h.1 h.2
theorem dv{G:Prop}{p q r s t u:Prop}(h:p/\q/\r/\s/\t/\u)(k:p->q->r->s->t->u->G):G:=k h.1 h.2.1 h.2.2.1 h.2.2.2.1 h.2.2.2.2.1 h.2.2.2.2.2
theorem bS{A B:Sort _}{G:Prop}{p q r s:A->B->Prop}(h:∃a b,p a b/\q a b/\r a b/\s a b)(k:∀a b,p a b->q a b->r a b->s a b->G):G:=h.elim λa h=>h.elim λb h=>k a b h.1 h.2.1 h.2.2.1 h.2.2.2
theorem cB{A B C:Sort _}{G:Prop}{p q r:A->B->C->Prop}(h:∃a b c,p a b c/\q a b c/\r a b c)(k:∀a b c,p a b c->q a b c->r a b c->G):G:=h.elim λa h=>h.elim λb h=>h.elim λc h=>k a b c h.1 h.2.1 h.2.2
theorem iH{A B C D:Sort _}{G:Prop}{p q:A->B->C->D->Prop}(h:∃a b c d,p a b c d/\q a b c d)(k:∀a b c d,p a b c d->q a b c d->G):G:=h.elim λa h=>h.elim λb h=>h.elim λc h=>h.elim λd h=>k a b c d h.1 h.2
theorem gi{A B:Sort _}{G:Prop}{p q r s t:A->B->Prop}(h:∃a b,p a b/\q a b/\r a b/\s a b/\t a b)(k:∀a b,p a b->q a b->r a b->s a b->t a b->G):G:=h.elim λa h=>h.elim λb h=>k a b h.1 h.2.1 h.2.2.1 h.2.2.2.1 h.2.2.2.2
theorem dI{A B C:Sort _}{G:Prop}{p q r s:A->B->C->Prop}(h:∃a b c,p a b c/\q a b c/\r a b c/\s a b c)(k:∀a b c,p a b c->q a b c->r a b c->s a b c->G):G:=h.elim λa h=>h.elim λb h=>h.elim λc h=>k a b c h.1 h.2.1 h.2.2.1 h.2.2.2
theorem bp{A B C D:Sort _}{G:Prop}{p q r:A->B->C->D->Prop}(h:∃a b c d,p a b c d/\q a b c d/\r a b c d)(k:∀a b c d,p a b c d->q a b c d->r a b c d->G):G:=h.elim λa h=>h.elim λb h=>h.elim λc h=>h.elim λd h=>k a b c d h.1 h.2.1 h.2.2
theorem k_{A B C:Sort _}{G:Prop}{p q r s t u:A->B->C->Prop}(h:∃a b c,p a b c/\q a b c/\r a b c/\s a b c/\t a b c/\u a b c)(k:∀a b c,p a b c->q a b c->r a b c->s a b c->t a b c->u a b c->G):G:=h.elim λa h=>h.elim λb h=>h.elim λc h=>k a b c h.1 h.2.1 h.2.2.1 h.2.2.2.1 h.2.2.2.2.1 h.2.2.2.2.2
theorem bD{A B C D:Sort _}{G:Prop}{p q r s t:A->B->C->D->Prop}(h:∃a b c d,p a b c d/\q a b c d/\r a b c d/\s a b c d/\t a b c d)(k:∀a b c d,p a b c d->q a b c d->r a b c d->s a b c d->t a b c d->G):G:=h.elim λa h=>h.elim λb h=>h.elim λc h=>h.elim λd h=>k a b c d h.1 h.2.1 h.2.2.1 h.2.2.2.1 h.2.2.2.2
theorem bz{A B C D:Sort _}{G:Prop}{p q r s t u:A->B->C->D->Prop}(h:∃a b c d,p a b c d/\q a b c d/\r a b c d/\s a b c d/\t a b c d/\u a b c d)(k:∀a b c d,p a b c d->q a b c d->r a b c d->s a b c d->t a b c d->u a b c d->G):G:=h.elim λa h=>h.elim λb h=>h.elim λc h=>h.elim λd h=>k a b c d h.1 h.2.1 h.2.2.1 h.2.2.2.1 h.2.2.2.2.1 h.2.2.2.2.2
open PySem PySem.Spec PyProof.Rows
abbrev Key:=Sum Int Str
noncomputable def ph:Key->f'->Bool
 |.inl k,v=>aaZ k v
 |.inr x,v=>aa_ x v
noncomputable def Sb(w:O'):Key->Int
 |.inl k=>hashInt k
 |.inr x=>hashStr w x
theorem cg:∀{k:Key}{v:f'},ph k v=true->(∃i t,k=ł i/\v=aa0 i t)\/(∃x t,k=ī x/\v=aa1 x t)
 |.inl i,v,h=>by
  obtain⟨t,e⟩:=Value.isInt_shape h
  simp_all
 |.inr x,v,h=>by
  obtain⟨t,e⟩:=Value.isStrOf_shape h
  simp_all
theorem xQ(i:Int)(t:È):ph (.inl i) (.int i t)=true:=by simp[ph,aaZ]
theorem xR(x:Str)(t:È):ph (.inr x) (.str x t)=true:=by simp[ph,aa_]
theorem HG(a b:Int):decide ((ł a:Key)=ł b)=(a==b):=by
 grind
theorem HH(a b:Str):decide ((ī a:Key)=ī b)=decide (a=b):=by
 simp
theorem HI(a:Int)(b:Str):decide ((ł a:Key)=ī b)=false:=rfl
theorem HJ(a:Str)(b:Int):decide ((ī a:Key)=ł b)=false:=rfl
def cR(prog:X')(w:O'):PySem.KeyKind prog w Key where
 is:=ph
 hash:=Sb w
 inj:=λv a b g f=>by
  rcases cg g with ⟨i,t,rfl,rfl⟩|⟨x,t,rfl,rfl⟩
  .rcases cg f with ⟨j,u,rfl,e⟩|⟨y,u,rfl,e⟩
   .injection e with c _;rw[c]
   .exact nomatch e
  .rcases cg f with ⟨j,u,rfl,e⟩|⟨y,u,rfl,e⟩
   .exact nomatch e
   .injection e with c _;rw[c]
 byValue:=λk v h=>by
  rcases cg h with ⟨i,t,rfl,rfl⟩|⟨x,t,rfl,rfl⟩<;>rfl
 pyHash:=λd h=>by
  rcases cg d with ⟨i,t,rfl,rfl⟩|⟨x,t,rfl,rfl⟩
  .exact wpAny_pyHash_int h
  .exact wpAny_pyHash_str h
 eqBool:=λl d h=>by
  rcases cg l with ⟨i,t,rfl,rfl⟩|⟨x,t,rfl,rfl⟩
  .rcases cg d with ⟨j,u,rfl,rfl⟩|⟨y,u,rfl,rfl⟩
   .rw[HG]at h;exact wpAny_eqBool_int h
   .rw[HI]at h;exact acU i t y u _ _ _ _ h
  .rcases cg d with ⟨j,u,rfl,rfl⟩|⟨y,u,rfl,rfl⟩
   .rw[HJ]at h;exact acV x t j u _ _ _ _ h
   .rw[HH]at h;exact wpAny_eqBool_str h
 «strs» := λk x t v h=>by
  rcases cg h with ⟨i,u,rfl,e⟩|⟨y,u,rfl,e⟩
  .exact nomatch e
  .injection e with c _
   subst c;cases v<;>rfl
inductive V where
 |non|bl (b:Bool)|int (i:Int)|str (x:Str)|Li (b:Array UInt8)|flt (b:UInt64)|ref (a:b')|ty (n:String)
 deriving DecidableEq
def RelV:V->f'->Prop
 |.non,u=>u=Ė
 |.bl b,u=>u=Ϡ b
 |.int i,u=>∃t,u=aa0 i t
 |.str x,u=>∃t,u=aa1 x t
 |.Li b,u=>∃t,u=Value.bytes b t
 |.flt b,u=>∃t,u=Value.float b t
 |.ref a,u=>u=À a
 |.ty n,u=>u=Ń n
abbrev Vals:List V->List f'->Prop:=Ö RelV
theorem Vals.length{xs:List V}{a:List f'}(r:Vals xs a):xs.length=a.length:=ń r
theorem Vals.get:∀{xs:List V}{a:List f'}{i:Nat}{x:V},Vals xs a->xs[i]?=some x->∃u,a[i]?=some u/\RelV x u
 |_,_,_,_,.nil,e=>by simp at e
 |_,_,0,_,.cons r _,e=>by simp_all
 |_,_,i+1,x,.cons _ t,e=>by
  obtain⟨u,b,c⟩:=Vals.get t (by simpa using e)
  simp_all
theorem Vals.set{x:V}{u:f'}(r:RelV x u):∀{xs:List V}{a:List f'} (i:Nat),Vals xs a->Vals (xs.set i x) (a.set i u)
 |_,_,_,.nil=>.nil
 |_,_,0,.cons _ t=>.cons r t
 |_,_,i+1,.cons q t=>.cons q (Vals.set r i t)
theorem Vals.append:∀{xs a:List V}{b c:List f'},Vals xs b->Vals a c->Vals (xs++a) (b++c)
 |_,_,_,_,.nil,s=>s
 |_,_,_,_,.cons r t,s=>.cons r (Vals.append t s)
theorem Vals.take:∀{xs:List V}{a:List f'} (n:Nat),Vals xs a->Vals (xs.take n) (a.take n)
 |_,_,0,_=>.nil
 |_,_,_+1,.nil=>.nil
 |_,_,n+1,.cons r t=>.cons r (Vals.take n t)
theorem Vals.drop:∀{xs:List V}{a:List f'} (n:Nat),Vals xs a->Vals (xs.drop n) (a.drop n)
 |_,_,0,r=>r
 |_,_,_+1,.nil=>.nil
 |_,_,n+1,.cons _ t=>Vals.drop n t
def iI:Option V->Option f'->Prop
 |some v,some u=>RelV v u
 |none,none=>True
 |_,_=>False
def KV{κ:Type}:List (κ×V)->List (κ×f')->Prop:=Ö λ(p:κ×V) (q:κ×f')=>p.1=q.1/\RelV p.2 q.2
noncomputable def kV:Key->V
 |.inl i=>.int i
 |.inr x=>.str x
inductive HO where
 |lst (xs:List V)
 |tup (xs:List V)
 |dK (kvs:List (Key×V))|dT (kvs:List (List Key×V))
 |set (S:Int->Bool) (n:Nat)
 |ins (C dx:b') (fs:List (Str×V))
 |own (x:b')
 |xd (fs:List (Str×V))
 |met (f x:b')
 |Sd (lo hi:Int)
 |cZ (o:Obj) (u:HO)
 |HK (ps:Array f')
 |ext (φ:y'->Prop)
abbrev Hp:=b'->Option HO
noncomputable def upd(H:Hp)(a:b')(o:HO):Hp:=λb=>if b=a then some o else H b
variable{B1:HO}{d:Hp}{h:b'}
theorem aR:upd d h B1 h=some B1:=by unfold upd;simp_all
variable{I:b'}
theorem ax(a:I≠h):upd d h B1 I=d I:=by unfold upd;rw[if_neg a]
theorem aZ(a:d h=some B1)(h':d I=none):h≠I:=by
 grind
section
variable(P:X')(w:O')
def cV(H:Hp)(h:y')(a:b'):HO->Prop
 |.lst xs=>xs.length<=K'/\∃(b:List f') (n:Nat),Vals xs b/\h.get? a=some {cls:=.type "list",data:=.seq b.toArray n}
 |.tup xs=>xs.length<=K'/\∃b:List f',Vals xs b/\Ĭ h a b.toArray
 |.dK c=>c.length<=K'/\(a==æ)=false/\∃i,KV c i/\h.DictOf (cR P w) a i
 |.dT c=>c.length<=K'/\(a==æ)=false/\∃xs:List (List Key×b'×f'),
   Ö (λ(p:List Key×V) (q:List Key×b'×f')=>p.1=q.1/\H q.2.1=some (.tup (p.1.map kV))/\RelV p.2 q.2.2) c xs /\
   ∃o j m,h.get? a=some o/\o.ExactDict/\o.data=.dict j m/\j.toList=xs.map (entryOfKey (Ņ (cR P w)))/\(xs.map (·.1)).Nodup
 |.set S n=>h.SetOf (intKind P w) a S n
 |.ins C e fs=>H e=some (.own a)/\fs.length<=1000/\e≠a/\h.get? a=some (ĭ C e) /\
   ∃d,h.Ns1 e d/\(∀f,iI (fs.lookup f) (d f))/\ϡ d (fs.map (·.1))
 |.own _=>∃o,h.get? a=some o
 |.xd fs=>∃d,h.Ns1 a d/\∀f,iI (fs.lookup f) (d f)
 |.Sd r s=>∃t u v,h.get? a=some {cls:=.type "range",data:=.fields #[.int r t,.int s u,.int 1 v]}
 |.cZ o u=>h.get? a=some o/\cV H h a u
 |.HK y=>h.get? a=some {cls:=.none,data:=.fields y}
 |.met f x=>h.get? a=some (PySem.W.methodObj (.ref f) (.ref x))
 |.ext g=>g h/\(∃o,h.get? a=some o)/\∀k l:y',g k->(∀o,k.get? a=some o->l.get? a=some o)->g l
def iE(H:Hp)(h:y'):Prop:=∀a o,H a=some o->cV P w H h a o
end
theorem cV.lt{P:X'}{w:O'}{H:Hp}{h:y'}{a:b'}{o:HO}(x:cV P w H h a o):a<h.objs.size:=by
 cases o with
 |lst g=>refine xa x λ_ b=>cF b λ_ _ _ e=>I' e
 |tup g=>obtain⟨_,_,_,p⟩:=x;exact p.lt
 |dK c=>refine iG x λ_ _ _ _ b=>fo b λo _ _ e _=>I' e
 |dT c=>refine iG x λ_ _ _ _ b=>fo b λo _ _ e _=>I' e
 |set S n=>refine iH x λo _ _ _ e _=>I' e
 |ins C j i=>refine iF x λ_ _ _ e _=>I' e
 |own y=>obtain⟨_,e⟩:=x;exact I' e
 |xd i=>obtain⟨_,⟨_,_,_,e,_⟩,_⟩:=x;exact I' e
 |Sd k l=>refine xe x λ_ b=>xe b λ_ d=>xe d λ_ e=>I' e
 |cZ m u=>obtain⟨e,_⟩:=x;exact I' e
 |HK q=>exact I' (x)
 |met f y=>exact I' (x)
 |ext r=>obtain⟨_,⟨_,e⟩,_⟩:=x;exact I' e
theorem Paired.Du{α β:Type}{F G:α->β->Prop}:∀{l₁:List α}{l₂:List β},Ö F l₁ l₂->(∀a b,F a b->G a b)->Ö G l₁ l₂
 |_,_,.nil,_=>.nil
 |_,_,.cons r t,f=>.cons (f _ _ r) (Paired.Du t f)
variable{B:X'}{B4 z:y'}{G:O'}{ο:Hp}
theorem cV.stay(x:cV B G d z h B1)(k:∀b u,(b=h\/d b=some (.own h))->z.get? b=some u->B4.get? b=some u)(E:∀b,d b=some (.own h)->ο b=some (.own h))(F:∀b xs,d b=some (.tup xs)->ο b=some (.tup xs)):cV B G ο B4 h B1:=by
 induction B1 with
 |lst xs=>obtain⟨a,s,n,r,e⟩:=x;exact⟨a,_,n,r,k _ _ (.inl rfl) e⟩
 |tup xs=>refine xa x λa g=>bV g λs r m=>bV m λi e c=>⟨a,_,r,i,k _ _ (.inl rfl) e,c⟩
 |dK w=>refine iG x λa y H r g=>fo g λi j l e c=>⟨a,y,H,r,i,j,l,k _ _ (.inl rfl) e,c⟩
 |dT w=>
  refine iG x λa y xs r g=>fo g λi j l e c=>⟨a,y,xs,Paired.Du r λp q a=>⟨a.1,F _ _ a.2.1,a.2.2⟩,i,j,l,k _ _ (.inl rfl) e,c⟩
 |set S n=>refine iH x λi j l t e c=>⟨i,j,l,t,k _ _ (.inl rfl) e,c⟩
 |ins C M I=>
  obtain⟨o,a,ne,e,A,⟨D,j,l,J,c⟩,r⟩:=x;exact⟨E _ o,a,ne,k _ _ (.inl rfl) e,A,⟨D,j,l,k _ _ (.inr o) J,c⟩,r⟩
 |own y=>obtain⟨i,e⟩:=x;exact⟨i,k _ _ (.inl rfl) e⟩
 |xd I=>obtain⟨A,⟨D,j,l,e,c⟩,r⟩:=x;exact⟨A,⟨D,j,l,k _ _ (.inl rfl) e,c⟩,r⟩
 |Sd N O=>refine xe x λt g=>xe g λu m=>xe m λv e=>⟨t,u,v,k _ _ (.inl rfl) e⟩
 |cZ i u K=>obtain⟨e,q⟩:=x;exact⟨k _ _ (.inl rfl) e,K q⟩
 |HK P=>
  exact k h _ (.inl rfl) x
 |met f y=>
  exact k h _ (.inl rfl) x
 |ext Q=>obtain⟨p,⟨B1,e⟩,L⟩:=x;exact⟨by grind,⟨B1,k _ _ (.inl rfl) e⟩,L⟩
theorem iE.lt{P:X'}{w:O'}{H:Hp}{h:y'}{a:b'}{o:HO}(x:iE P w H h)(e:H a=some o):a<h.objs.size:=(x a o e).lt
theorem iE.fresh(x:iE B G d z)(e:z.objs.size<=h):d h=none:=by
 cases q:d h with
 |none=>rfl
 |some u=>exact absurd (R' (x.lt q) e) (by simp)
theorem iE.kept(x:iE B G d z)(k:∀b u,z.get? b=some u->B4.get? b=some u):iE B G d B4:=λa o e=>
 (x a o e).stay (λb u _ q=>k b u q) (λ_ q=>q) λ_ _ q=>q
theorem iE.laid{o:HO}(x:iE B G d z)(k:∀b u,z.get? b=some u->B4.get? b=some u)(g:z.objs.size<=h)(i:cV B G (upd d h o) B4 h o):iE B G (upd d h o) B4:=λb u e=>by
 have a:=x.fresh g
 by_cases f:b=h
 .subst f;rw[aR]at e;simp_all
 .rw[ax f]at e
  exact(x b u e).stay (λc v _ q=>k c v q) (λc q=>by rwa[ax (aZ q a)]) λc j q=>by rwa[ax (aZ q a)]
def Rd(H:Hp)(a:b')(u:HO):Prop:=H a=some u\/∃o,H a=some (.cZ o u)
theorem Rd.ok(r:Rd d h B1)(x:iE B G d z):cV B G d z h B1:=by
 rcases r with r|⟨o,r⟩
 .exact x h B1 r
 .obtain⟨_,q⟩:=x h _ r
  exact q
def Pz:Option HO->Prop
 |some (.lst _)=>True
 |some (.dK _)=>True
 |some (.dT _)=>True
 |some (.set _ _)=>True
 |some (.ins _ _ _)=>True
 |some (.ext _)=>True
 |_=>False
theorem iE.write(ok:iE B G d z)(g:Pz (d h))(o:I=h\/d I=some (.own h))(k:∀b u,b≠I->z.get? b=some u->B4.get? b=some u)(f:∃u,B4.get? I=some u)(m:cV B G (upd d h B1) B4 h B1):iE B G (upd d h B1) B4:=λb u q=>by
 have e:∀c y,d c=some (.own y)->c≠h:=λc y r a=>by subst a;rwa[r]at g
 by_cases i:b=h
 .subst i;rw[aR]at q;simp_all
 .rw[ax i]at q
  by_cases n:b=I
  .have j:d b=some (.own h):=by
    simp_all
   rw[q]at j;cases j
   obtain⟨v,p⟩:=f;exact⟨v,by simp_all⟩
  .refine(ok b u q).stay (λc v s r=>k c v ?_ r) (λc r=>by rwa[ax (e c b r)]) λc l r=>by rwa[ax ((λc l r a=>by subst a;rwa[r]at g) c l r)]
   grind
structure Un(fs ex:List b')(H H':Hp)(h h':y'):Prop where
 keep:∀b o,h.get? b=some o->H b=none->b∉fs->b∉ex->h'.get? b=some o
 slot:∀b o,h.get? b=some o->H b=none->b∈fs->b∉ex->∃sl,h'.get? b=some {o with slots:=sl}
 free:∀b o,h.get? b=some o->H b=none->b∉ex->H' b=none
 there:∀b o,h.get? b=some o->b∉ex->∃o',h'.get? b=some o'
 tups:∀b xs,H b=some (.tup xs)->H' b=some (.tup xs)
 fB:∀b o u,H b=some (.cZ o u)->H' b=some (.cZ o u)
 gC:∀b ps,H b=some (.HK ps)->∃more,H' b=some (.HK (ps++more))
variable{J0 v:List b'}
theorem Un.any(u:Un v J0 d ο z B4){ob:Obj}(q:z.get? h=some ob)(n:d h=none)(a:h∉J0):∃c,B4.get? h=some {ob with slots:=c}:=by
 by_cases b:h∈v
 .exact u.slot h ob q n b a
 .exact⟨_,u.keep h ob q n b a⟩
variable{d8:Hp}
theorem Un.trans{m:y'}(a:Un v J0 d ο z B4)(b:Un v J0 ο d8 B4 m):Un v J0 d d8 z m where
 keep:=λc e q n h f=>b.keep c e (a.keep c e q n h f) (a.free c e q n f) h f
 slot:=λc e q n h f=>by
  obtain⟨p,g⟩:=a.slot c e q n h f;obtain⟨j,k⟩:=b.slot c _ g (a.free c e q n f) h f;exact⟨j,k⟩
 free:=λc e q n f=>by
  obtain⟨l,g⟩:=a.there c e q f;exact b.free c l g (a.free c e q n f) f
 there:=λc e q f=>by
  obtain⟨l,g⟩:=a.there c e q f;exact b.there c l g f
 tups:=λc i q=>b.tups c i (a.tups c i q)
 fB:=λc e i q=>b.fB c e i (a.fB c e i q)
 gC:=λc o q=>by
  obtain⟨m1,g⟩:=a.gC c o q;obtain⟨m2,k⟩:=b.gC c _ g;exact⟨m1++m2,by rw[k,aa2]⟩
theorem Un.kept(k:∀b u,z.get? b=some u->B4.get? b=some u):Un v J0 d d z B4:=
 ⟨by simp_all,λb a q _ _ _=>⟨_,k b a q⟩,by simp_all,by simp_all,by simp,by simp,λ_ c q=>⟨#[],by simp_all⟩⟩
theorem Un.laid{o:HO}(k:∀b u,z.get? b=some u->B4.get? b=some u)(c:z.objs.size<=h)(a:d h=none):Un v J0 d (upd d h o) z B4 where
 keep:=λb u q _ _ _=>k b u q
 slot:=λb u q _ _ _=>⟨_,k b u q⟩
 free:=λb u q n _=>by rwa[ax (Q' (R' (I' q) c))]
 there:=λb u q _=>⟨u,k b u q⟩
 tups:=λb e q=>by rwa[ax (aZ q a)]
 fB:=λb u e q=>by rwa[ax (aZ q a)]
 gC:=λb f q=>⟨#[],by rw[ax (aZ q a),q];simp⟩
variable{Z8:List b'}
theorem Un.mono{a:List b'}(u:Un v Z8 d ο z B4)(g:∀b∈v,b∈J0)(i:∀b∈Z8,b∈a):Un J0 a d ο z B4:=
 ⟨λb c q n h e=>u.keep b c q n (λf=>h (g b f)) (by grind),λ_ _ q n _ e=>u.any q n (by grind),λb c q n e=>u.free b c q n (by grind),λb c q e=>u.there b c q (by grind),u.tups,u.fB,u.gC⟩
noncomputable def Yo(h:y')(H:Hp):List b':=(Y' h.objs.size).filter λa=>(H a).isSome
def uz(h:y')(H:Hp):y':=PySem.W.hideAll h (Yo h H)
variable{Ξ:Obj}
theorem Dv(e:(uz z d).get? h=some Ξ):z.get? h=some Ξ/\d h=none:=by
 have a:=PySem.W.of_hideAll _ e;refine⟨a,?_⟩;cases q:d h with
 |none=>rfl
 |some x=>
  have b:(uz z d).get? h=none:=PySem.W.hideAll_none _ (aa3.mpr ⟨Į.mpr (I' a),by simp[q]⟩)
  simp_all
noncomputable def Dw(g h:y')(L:b'):List (b'×Obj):=(Y' h.objs.size).filterMap λa=>if a=L\/(g.get? a).isSome=true then none else (h.get? a).map λo=>(a,o)
def rest(g h:y')(L d:b'):List (b'×Obj):=(Dw g h L).filter λp=>decide (p.1≠d)
structure Mod(K:A')(mg:Str->Option f')(base:y'):Prop where
 zt:K.In base
 glob:base.Ns ZY mg
 blt:∃mb,base.Ns Ϣ mb/\∀x:Str,x≠"__name__"->mb x=ò x
 nolimit:base.NoLimit
structure Cx where
 prog:X'
 w:O'
 K:A'
 mg:Str->Option f'
 base:y'
 A:ZW
 N:List Str
 s₀:j'
 H₀:Hp
 env:ZR
 outer:List ZR
 stack:List ZR
 ex:List b'
 fn:Str->Bool
 calm:Bool
 pn:List (b'×Obj)
 xe:f'->j'->Prop
noncomputable def frs(l:List ZR):List b':=l.filterMap (·.frame)
abbrev Cx.fs(X:Cx):List b':=frs X.outer
def zj(a:T')(x:Str):Prop:=a.names.lookup x=some .local\/a.names.lookup x=some .cell\/a.names.lookup x=some .free
def Loc(a:T')(x:Str):Prop:=a.names.lookup x=some .local\/a.names.lookup x=some .cell
def Look(a:ZR)(h:y')(m:Str->Option f')(x:Str)(u:f'):Prop:=
 (a.kindOf x=some .local/\m x=some u)\/((a.kindOf x=some .cell\/a.kindOf x=some .free)/\∃c,a.cells.lookup x=some c/\h.IsCell c (some u))
structure Cx.Ok(X:Cx):Prop where
 mod:Mod X.K X.mg X.base
 kind:X.env.scope.kind=.function
 glob:X.env.globals=ZY
 blt:X.env.builtins=Ϣ
 above:X.s₀.heap.objs.size<=X.env.locals
 inj:∀x y c,X.env.cells.lookup x=some c->X.env.cells.lookup y=some c->x=y
 has:∀x,(X.env.kindOf x=some .cell\/X.env.kindOf x=some .free)->∃c,X.env.cells.lookup x=some c
 cab:∀x c,X.fn x=true->X.env.cells.lookup x=some c->X.s₀.heap.objs.size<=c
 hd:X.calm=true->X.A.handled=none
 frames:X.A.frames=some X.stack
 GJ:X.stack=X.outer\/(X.stack=X.env::X.outer/\X.env.frame=some X.env.locals)
 HL:∀b∈X.ex,b≠X.env.locals/\∀x c,X.env.cells.lookup x=some c->c≠b
 bs:∀b o,X.base.get? b=some o->X.s₀.heap.get? b=some o/\X.H₀ b=none
 vF:X.base.objs.size<=X.s₀.heap.objs.size
 su:∀b o,X.base.get? b=some o->b∉X.ex
 sv:∀b∈X.ex,b∉X.fs
 iz:X.s₀.heap.FunFrames X.base X.outer
 zk:∀b∈X.fs,X.H₀ b=none
structure Inv(X:Cx)(pins:List (b'×Obj))(σ:List (Option V))(H:Hp)(s:j'):Prop where
 ok:X.Ok
 os:s.os=X.s₀.os
 bare:ó s.gens
 base:Un X.fs X.ex X.H₀ H X.s₀.heap s.heap
 loc:∃m,s.heap.Ns X.env.locals m/\∀(i:Nat) (x:Str) (v:V),X.N[i]?=some x->σ[i]?=some (some v)->zj X.env.scope x->∃u,RelV v u/\Look X.env s.heap m x u
 cell:∀x c,X.env.cells.lookup x=some c->∃v,s.heap.IsCell c v
 free:H X.env.locals=none
 dX:∀x c,X.env.cells.lookup x=some c->(H c=none\/∃o u,H c=some (.cZ o u))/\(X.fn x=true->H c=none)
 pin:∀p∈X.pn++pins,s.heap.get? p.1=some p.2/\H p.1=none/\p.1≠X.env.locals/\p.1∉X.fs/\∀v,p.2.data≠.cell v
 hok:iE X.prog X.w H s.heap
 len:σ.length=X.N.length
variable{c:Cx}
theorem Cx.Ok.Se(ok:c.Ok)(e:c.base.get? h=some Ξ):h∉c.fs:=λa=>by
 have:=(ok.iz.mem a).1
 grind
theorem Inv.bs{X:Cx}{pins:List (b'×Obj)}{a:List (Option V)}{H:Hp}{s:j'}(I:Inv X pins a H s):∀b o,X.base.get? b=some o->s.heap.get? b=some o/\H b=none:=λb o e=>
 ⟨I.base.keep b o (I.ok.bs b o e).1 (I.ok.bs b o e).2 (I.ok.Se e) (I.ok.su b o e),I.base.free b o (I.ok.bs b o e).1 (I.ok.bs b o e).2 (I.ok.su b o e)⟩
variable{E:List (b'×Obj)}{m3:List (Option V)}{s:j'}
theorem Inv.bk(I:Inv c E m3 d s):∀b o,c.base.get? b=some o->s.heap.get? b=some o:=λb o e=>(I.bs b o e).1
theorem Inv.mod{X:Cx}{pins:List (b'×Obj)}{a:List (Option V)}{H:Hp}{s:j'}(I:Inv X pins a H s):Mod X.K X.mg X.base:=I.ok.mod
theorem Inv.fg(I:Inv c E m3 d s):c.K.In s.heap:=I.ok.mod.zt.keeps I.bk
theorem Inv.lt{X:Cx}{pins:List (b'×Obj)}{a:List (Option V)}{H:Hp}{s:j'}(I:Inv X pins a H s):X.env.locals<s.heap.objs.size:=bV (I.loc) λ_ b _=>b.lt
theorem Inv.sz(I:Inv c E m3 d s):c.s₀.heap.objs.size<=s.heap.objs.size:=B' I.ok.above (é I.lt)
theorem Inv.Sf(I:Inv c E m3 d s)(a:s.heap.objs.size<=h):h∉c.fs:=λb=>by
 obtain⟨_,o,e,_⟩:=I.ok.iz.mem b;exact absurd (R' (I' e) (B' I.sz a)) (by simp)
theorem Inv.LJ(I:Inv c E m3 d s):∀x a,c.env.cells.lookup x=some a->a≠c.env.locals:=λx a e z=>by
 obtain⟨v,o,g,h⟩:=I.cell x a e;obtain⟨m,⟨i,j,k,b,f,_⟩,_⟩:=I.loc
 simp_all
theorem Inv.iz{X:Cx}{pins:List (b'×Obj)}{h:List (Option V)}{H:Hp}{s:j'}(I:Inv X pins h H s):s.heap.FunFrames X.base X.outer:=by
 have a:∀(l:List _),(∀b∈frs l,b∈X.fs)->X.s₀.heap.FunFrames X.base l->s.heap.FunFrames X.base l:=by
  intro l
  induction l with
  |nil=>intro _ _;trivial
  |cons i r j=>
   intro f k;obtain⟨m,⟨L,o,g,n,p,q⟩,t⟩:=k;have c:=f L (by unfold frs;simp_all)
   obtain⟨u,e⟩:=I.base.slot L o p (I.ok.zk L c) c λz=>I.ok.sv L z c
   exact⟨m,⟨L,_,g,n,e,q⟩,j (λb d=>f b (by unfold frs;rw[ũ,g];exact Ū _ d)) t⟩
 exact a _ (λ_ d=>d) I.ok.iz
theorem Inv.stack{X:Cx}{pins:List (b'×Obj)}{a:List (Option V)}{H:Hp}{s:j'}(I:Inv X pins a H s):s.heap.FunFrames X.base X.stack:=by
 rcases I.ok.GJ with e|⟨e,b⟩
 .rw[e];exact I.iz
 .rw[e]
  refine bV I.loc λm c _=>?_
  refine .cons (by rw[I.ok.kind];decide) b c (Heap.get?_none_of_le (B' I.ok.vF I.ok.above)) I.iz
theorem Inv.qm(I:Inv c E m3 d s):∀b∈frs c.stack,b∈c.env.locals::c.fs:=λb a=>by
 rcases I.ok.GJ with e|⟨e,f⟩
 .simp_all
 .rw[e]at a
  unfold frs at a;rwa[ũ,f]at a
theorem Inv.kh(I:Inv c E m3 d s):∀b∈frs c.stack,d b=none:=λb hb=>by
 rcases Æ.mp (I.qm b hb)with e|hb
 .rw[e];exact I.free
 .obtain⟨_,o,a,_⟩:=I.ok.iz.mem hb
  exact I.base.free b o a (I.ok.zk b hb) λz=>I.ok.sv b z hb
theorem Inv.step{X:Cx}{pins:List (b'×Obj)}{Q:List (Option V)}{H C:Hp}{s:j'}{h':y'}{g':Array ϣ}{t':Nat}{d':Drawn}{ch:List b'}(I:Inv X pins Q H s)(h:∀b∈ch,(b∈X.ex\/X.s₀.heap.objs.size<=b)/\b≠X.env.locals/\(∀x c,X.env.cells.lookup x=some c->c≠b)/\∀p∈X.pn++pins,p.1≠b)(keep:∀b o,b≠X.env.locals->b∉X.fs->b∉ch->s.heap.get? b=some o->H b=none->h'.get? b=some o)(slot:∀b o,b≠X.env.locals->b∈X.fs->b∉ch->s.heap.get? b=some o->H b=none->∃O,h'.get? b=some {o with slots:=O})(free:∀b o,b∉ch->s.heap.get? b=some o->H b=none->C b=none)(there:∀b o,b∉ch->s.heap.get? b=some o->∃F,h'.get? b=some F)(tups:∀b xs,H b=some (.tup xs)->C b=some (.tup xs))(fB:∀b o u,H b=some (.cZ o u)->C b=some (.cZ o u))(gC:∀b K,H b=some (.HK K)->∃more,C b=some (.HK (K++more)))(U:∀m,s.heap.Ns X.env.locals m->h'.Ns X.env.locals m)(G:iE X.prog X.w C h')(Y:ó g'):
  Inv X pins Q C {s with heap:=h',gens:=g',drawn:=d',toks:=t' }:=by
 have J:∀b o,X.s₀.heap.get? b=some o->b≠X.env.locals:=λb o e=>Q' (R' (I' e) I.ok.above)
 have t:∀b o,X.s₀.heap.get? b=some o->b∉X.ex->b∉ch:=λb o e f A=>by
  rcases(h b A).1 with z|z
  .exact f z
  .exact absurd (R' (I' e) z) (Ã _)
 have j:∀x c,X.env.cells.lookup x=some c->∀v,s.heap.IsCell c v->h'.IsCell c v:=λx c e v  Z =>bV Z λo y L=>by
  have a:c∉ch:=λz=>(h c z).2.2.1 x c e rfl
  rcases(I.dX x c e).1 with D|⟨E,M,N⟩
  .by_cases R:c∈X.fs
   .obtain⟨O,q⟩:=slot c o (I.LJ x c e) R a y D
    exact⟨_,q,L⟩
   .exact⟨o,keep c o (I.LJ x c e) R a y D,L⟩
  .have g:s.heap.get? c=some E:=(I.hok c _ N).1
   have B:h'.get? c=some E:=(G c _ (fB c E M N)).1;rw[y]at g;cases g
   exact⟨o,B,L⟩
 refine⟨I.ok,I.os,Y,⟨λb o e n A f=>?_,λb o e n A f=>?_,λb o e n f=>?_,λb o e f=>?_,λb xs e=>tups b xs (I.base.tups b xs e),λb o xs e=>fB b o xs (I.base.fB b o xs e),λb K e=>?_⟩,?_,λx c e=>?_,?_,λx c e=>?_,λp S=>?_,G,I.len⟩
 .exact keep b o (J b o e) A (t b o e f) (I.base.keep b o e n A f) (I.base.free b o e n f)
 .obtain⟨O,g⟩:=I.base.slot b o e n A f
  obtain⟨P,B⟩:=slot b _ (J b o e) A (t b o e f) g (I.base.free b o e n f);exact⟨P,B⟩
 .obtain⟨F,g⟩:=I.base.there b o e f
  exact free b F (t b o e f) g (I.base.free b o e n f)
 .obtain⟨F,g⟩:=I.base.there b o e f
  exact there b F (t b o e f) g
 .obtain⟨m1,g⟩:=I.base.gC b K e
  obtain⟨m2,B⟩:=gC b _ g;exact⟨m1++m2,by rw[B,aa2]⟩
 .refine bV I.loc λm D hl=>?_
  refine⟨m,U m D,λi x v g B e3=>?_⟩
  obtain⟨u,r,l⟩:=hl i x v g B e3;refine⟨u,r,?_⟩;rcases l with l|⟨k,c,e,z⟩
  .exact .inl l
  .exact .inr ⟨k,c,e,j x c e _ z⟩
 .obtain⟨v,z⟩:=I.cell x c e
  exact⟨v,j x c e v z⟩
 .obtain⟨m,⟨o,_,_,y,_⟩,_⟩:=I.loc
  exact free _ o (λz=>(h _ z).2.1 rfl) y I.free
 .refine cF (I.cell x c e) λv o y L=>?_
  have a:c∉ch:=λz=>(h c z).2.2.1 x c e rfl
  refine⟨?_,λhf=>free c o a y ((I.dX x c e).2 hf)⟩
  rcases(I.dX x c e).1 with D|⟨E,M,N⟩
  .exact .inl (free c o a y D)
  .exact .inr ⟨E,M,fB c E M N⟩
 .refine iF (I.pin p S) λe n ne T d=>?_
  have a:p.1∉ch:=λz=>(h p.1 z).2.2.2 p S rfl
  exact⟨keep p.1 p.2 ne T a e n,free p.1 p.2 a e n,ne,T,d⟩
variable{b:Nat}
theorem Inv.un{s:j'}(I:Inv c E m3 d s)(u:Un c.fs [] d ο s.heap z)(h:iE c.prog c.w ο z):Inv c E m3 ο {s with heap:=z,toks:=b}:=by
 obtain⟨m,⟨o,x,y,j,r⟩,_⟩:=id I.loc;obtain⟨A,k⟩:=u.any j I.free (by simp)
 exact I.step (ch:=[]) (λ_ f=>nomatch f) (λa o _ i _ e n=>u.keep a o e n i (by simp)) (λa o _ i _ e n=>u.slot a o e n i (by simp)) (λa o _ e n=>u.free a o e n (by simp)) (λa o _ e=>u.there a o e (by simp)) u.tups u.fB u.gC (λB l=>by
  refine fo l λC p q g t=>?_
  rw[j]at g;cases g
  exact⟨_,_,_,k,t⟩) h I.bare
variable{P5:Drawn}{S5:Array ϣ}
theorem Inv.call{s:j'}(I:Inv c E m3 d s)(u:Un (frs c.stack) v d ο s.heap z)(k:iE c.prog c.w ο z)(t:ó S5)(i:∀a∈v,(a∈c.ex\/c.s₀.heap.objs.size<=a)/\a≠c.env.locals/\(∀x g,c.env.cells.lookup x=some g->g≠a)/\∀p∈c.pn++E,p.1≠a):
  Inv c E m3 ο {s with heap:=z,gens:=S5,drawn:=P5,toks:=b}:=by
 obtain⟨m,⟨o,F,G,q,r⟩,_⟩:=id I.loc;obtain⟨H,l⟩:=u.any q I.free λf=>(i _ f).2.1 rfl
 exact I.step i (λa o l y h e n=>u.keep a o e n (λf=>(Æ.mp (I.qm a f)).elim l y) h) (λa o _ _ h e n=>u.any e n h) (λa o h e n=>u.free a o e n h) (λa o h e=>u.there a o e h) u.tups u.fB u.gC (λJ A=>by
  refine fo A λK B C j D=>?_
  rw[q]at j;cases j
  exact⟨_,_,_,l,D⟩) k t
theorem Inv.turned{s:j'}(I:Inv c E m3 d s)(k:∀a o,a≠h->s.heap.get? a=some o->z.get? a=some o)(G:d h=none)(j:h≠c.env.locals)(l:h∈c.ex\/c.s₀.heap.objs.size<=h)(t:∀x f,c.env.cells.lookup x=some f->f≠h)(w:∀p∈c.pn++E,p.1≠h):Inv c E m3 d {s with heap:=z,toks:=b}:=by
 have y:∀a u,d a=some u->a≠h:=λa u e g=>by simp_all
 refine I.step (ch:=[h]) (λa A=>?_) (λa o _ _ i e _=>k a o (λg=>i (by simp[g])) e) (λa o _ _ i e _=>⟨_,k a o (λg=>i (by simp[g])) e⟩) (λ_ _ _ _ n=>n)
  (λa o i e=>⟨o,by simp_all⟩) (λ_ _ e=>e) (λ_ _ _ e=>e) (λa H e=>⟨#[],by simp_all⟩) (λm B=>?_) (λa u e=>?_) I.bare
 .have e:=by simpa using A
  subst e;exact⟨l,j,t,w⟩
 .refine fo B λo C D F r=>⟨o,C,D,k _ o (ZT j) F,r⟩
 .refine(I.hok a u e).stay (λf v i q=>k f v ?_ q) (λ_ q=>q) λ_ _ q=>q
  grind
theorem Inv.tok{s:j'}(I:Inv c E m3 d s)(t:Nat):Inv c E m3 d {s with toks:=t}:=I.un (Un.kept λ_ _ q=>q) I.hok
theorem Inv.kept{X:Cx}{pins:List (b'×Obj)}{a:List (Option V)}{H:Hp}{s:j'}{h':y'}{t':Nat}(I:Inv X pins a H s)(k:∀b u,s.heap.get? b=some u->h'.get? b=some u):Inv X pins a H {s with heap:=h',toks:=t' }:=I.un (Un.kept k) (I.hok.kept k)
theorem Inv.laid{X:Cx}{pins:List (b'×Obj)}{e:List (Option V)}{H:Hp}{s:j'}{h':y'}{a:b'}{o:HO}{t':Nat}(I:Inv X pins e H s)(k:∀b u,s.heap.get? b=some u->h'.get? b=some u)(c:s.heap.objs.size<=a)(d:cV X.prog X.w (upd H a o) h' a o):
  Inv X pins e (upd H a o) {s with heap:=h',toks:=t' }:=I.un (Un.laid k c (I.hok.fresh c)) (I.hok.laid k c d)
theorem Inv.write{X:Cx}{pins:List (b'×Obj)}{f:List (Option V)}{H:Hp}{s:j'}{h':y'}{x e:b'}{o:HO}{t':Nat}(I:Inv X pins f H s)(g:Pz (H x))(i:e=x\/H e=some (.own x))(k:∀b u,b≠e->s.heap.get? b=some u->h'.get? b=some u)(a:∃u,h'.get? e=some u)(c:cV X.prog X.w (upd H x o) h' x o):Inv X pins f (upd H x o) {s with heap:=h',toks:=t' }:=I.un (by
    have j:∀b,H b=none->b≠x:=λb n z=>by subst z;rwa[n]at g
    have h:∀b,H b=none->b≠e:=λb n z=>by
     grind
    have d:∀b u,H b=some u->¬ Pz (some u)->b≠x:=λb u q m z=>by simp_all
    refine⟨λb u q n _ _=>k b u (h b n) q,λb u q n _ _=>⟨_,k b u (h b n) q⟩,λb u q n _=>by rwa[ax (j b n)],λb u q _=>?_,
     λb l q=>by rwa[ax (d b _ q λz=>z)],λb u l q=>by rwa[ax (d b _ q λz=>z)],λb p q=>⟨#[],by rw[ax (d b _ q λz=>z),q];simp⟩⟩
    grind) (I.hok.write g i k a c)
theorem Inv.weak{a:List (Option V)}(I:Inv c E m3 d s)(e:a.length=m3.length)(w:∀(i:Nat) v,a[i]?=some (some v)->m3[i]?=some (some v)):Inv c E a d s:=
 ⟨I.ok,I.os,I.bare,I.base,let ⟨m,f,b⟩:=I.loc;⟨m,f,λi x v g h j=>b i x v g (w i v h) j⟩,I.cell,I.free,I.dX,I.pin,I.hok,e.trans I.len⟩
theorem Inv.vG{a:List (b'×Obj)}(I:Inv c E m3 d s)(h:∀p∈a,s.heap.get? p.1=some p.2/\d p.1=none/\p.1≠c.env.locals/\p.1∉c.fs/\∀v,p.2.data≠.cell v):Inv c a m3 d s:=
 ⟨I.ok,I.os,I.bare,I.base,I.loc,I.cell,I.free,I.dX,λp b=>(Ô.mp b).elim (λz=>I.pin p (List.mem_append_left _ z)) (h p),I.hok,I.len⟩
variable{e:Str}{l:List Str}{w:Nat}
theorem sy(d:l.Nodup)(a:l[b]?=some e)(c:l[w]?=some e):b=w:=by
 obtain⟨h,f⟩:=ZS.mp a;obtain⟨i,g⟩:=ZS.mp c;exact(aa4 d).mp (f.trans g.symm)
variable{A3:Unit->j'->Prop}{N:f'}{X:ZW}{u5:Model}{x:V}{ζ:f'->j'->Prop}
theorem pj{s:j'}(I:Inv c E m3 d s)(hN:c.N.Nodup)(M:c.N[b]?=some e)(A:Loc c.env.scope e)(r:RelV x N)(h:∀R,Inv c E (m3.set b (some x)) d R->(∃a,ņ a s.heap R.heap/\(a=c.env.locals\/c.env.cells.lookup e=some a))->A3 () R)(hf:c.fn e=true\/c.env.scope.names.lookup e=some .local:=by first|exact .inl rfl|exact .inr rfl|assumption):nc u5 X (storeName c.env e N) A3 ζ s:=by
 obtain⟨m,S,hl⟩:=id I.loc;have G:b<m3.length:=by rw[I.len];exact(ZS.mp M).1
 have H:=I.LJ
 have t:∀{a:b'}{L:y'},(∃o,s.heap.get? a=some o/\d a=none)->ņ a s.heap L->iE c.prog c.w d L:=λ{a L} ha l g ob f=>by
  obtain⟨_,_,T⟩:=ha;refine(I.hok g ob f).stay (λi U B q=>(l.2 i ?_).trans q) (λ_ q=>q) λ_ _ q=>q
  grind
 rcases A with hk|hk
 .refine wpAny_storeName_local hk S (λL V l=>?_) (by rw[I.ok.kind];rfl)
  obtain⟨oL,_,_,Y,_⟩:=id S;refine h _ ⟨I.ok,I.os,I.bare,⟨λg o f n J A=>?_,λg o f n J A=>?_,I.base.free,λg o f A=>?_,I.base.tups,I.base.fB,I.base.gC⟩,⟨_,V,λj y Z u D e3=>?_⟩,λy i f=>?_,I.free,I.dX,λp hp=>?_,t ⟨oL,Y,I.free⟩ l,by simpa using I.len⟩ ⟨_,l,.inl rfl⟩
  .exact(l.2 g (Q' (R' (I' f) I.ok.above))).trans (I.base.keep g o f n J A)
  .obtain⟨sl,u⟩:=I.base.slot g o f n J A
   exact⟨sl,(l.2 g (Q' (R' (I' f) I.ok.above))).trans u⟩
  .obtain⟨o',u⟩:=I.base.there g o f A
   exact⟨o',(l.2 g (Q' (R' (I' f) I.ok.above))).trans u⟩
  .by_cases K:j=b
   .subst K
    rw[M]at u;cases u
    rw[Ň G]at D;cases D;exact⟨N,r,.inl ⟨hk,by simp⟩⟩
   .rw[ă (ZT K)]at D
    obtain⟨u',r',q⟩:=hl j y Z u D e3;refine⟨u',r',?_⟩;rcases q with ⟨k,f⟩|⟨k,i,f,z⟩
    .refine .inl ⟨k,?_⟩
     have:y≠e:=λf=>K (sy hN u (f▸M))
     simp[this,f]
    .exact .inr ⟨k,i,f,z.sameBut l (H y i f)⟩
  .obtain⟨U,z⟩:=I.cell y i f
   exact⟨U,z.sameBut l (H y i f)⟩
  .refine iF (I.pin p hp) λf n ne nf C=>?_
   exact⟨(l.2 p.1 ne).trans f,n,ne,nf,C⟩
 .have F:c.fn e=true:=by
   rcases hf with z|z
   .exact z
   .rw[z]at hk;cases hk
  obtain⟨i,B⟩:=I.ok.has e (.inl hk);obtain⟨U,z⟩:=I.cell e i B;refine wpAny_storeName_cell I.ok.kind hk B z (λL O l=>?_)
  refine bV (id z) λoc a0 b0=>?_
  refine h {s with heap:=L} ⟨I.ok,I.os,I.bare,⟨λg o f n J A=>?_,λg o f n J A=>?_,I.base.free,λg o f A=>?_,I.base.tups,I.base.fB,I.base.gC⟩,⟨m,S.sameBut l (ZT (H e i B)),λj y Z u D e3=>?_⟩,λy Q f=>?_,I.free,I.dX,λp hp=>?_,t ⟨oc,a0,(I.dX e i B).2 F⟩ l,by simpa using I.len⟩ ⟨i,l,.inr B⟩
  .exact(l.2 g (Q' (R' (I' f) (I.ok.cab e i F B)))).trans (I.base.keep g o f n J A)
  .obtain⟨sl,u⟩:=I.base.slot g o f n J A
   exact⟨sl,(l.2 g (Q' (R' (I' f) (I.ok.cab e i F B)))).trans u⟩
  .obtain⟨o',u⟩:=I.base.there g o f A
   exact⟨o',(l.2 g (Q' (R' (I' f) (I.ok.cab e i F B)))).trans u⟩
  .by_cases K:j=b
   .subst K
    rw[M]at u;cases u
    rw[Ň G]at D;cases D;exact⟨N,r,.inr ⟨.inl hk,i,B,O⟩⟩
   .rw[ă (ZT K)]at D
    obtain⟨u',r',q⟩:=hl j y Z u D e3;refine⟨u',r',?_⟩;rcases q with q|⟨k,Q,f,z'⟩
    .exact .inl q
    .refine .inr ⟨k,Q,f,z'.sameBut l ?_⟩
     rintro rfl;exact K (sy hN u (I.ok.inj _ _ _ f B▸M))
  .by_cases P:Q=i
   .subst P;exact⟨_,O⟩
   .obtain⟨w2,z2⟩:=I.cell y Q f
    exact⟨w2,z2.sameBut l P⟩
  .refine iF (I.pin p hp) λf n ne nf C=>?_
   refine⟨(l.2 p.1 ?_).trans f,n,ne,nf,C⟩
   grind
theorem nr(I:Inv c E m3 d s)(f:c.N.Nodup)(g:c.N[b]?=some e)(i:Loc c.env.scope e)(r:RelV x N)(h:∀a,Inv c E (m3.set b (some x)) d a->A3 () a)(j:c.fn e=true\/c.env.scope.names.lookup e=some .local:=by first|exact .inl rfl|exact .inr rfl|assumption):nc u5 X (storeName c.env e N) A3 ζ s:=
 pj I f g i r (λa k _=>h a k) j
variable{T6:j'}
theorem Inv.call'(I:Inv c E m3 d s)(g:T6.os=s.os)(u:Un (frs c.stack) v d ο s.heap T6.heap)(e:iE c.prog c.w ο T6.heap)(h:ó T6.gens)(f:∀b∈v,(b∈c.ex\/c.s₀.heap.objs.size<=b)/\b≠c.env.locals/\(∀x a,c.env.cells.lookup x=some a->a≠b)/\∀p∈c.pn++E,p.1≠b):Inv c E m3 ο T6:=by
 obtain⟨i,j,k,l,m⟩:=T6;subst g;exact I.call u e h f
abbrev XK:=f'->Option b'->Hp->Prop
abbrev St:=List (Option V)
abbrev VK:=V->Hp->Prop
abbrev TE:=St->Hp->VK->Prop
abbrev TT:=St->Hp->(Bool->Hp->Prop)->Prop
abbrev TA:=St->Hp->(List V->Hp->Prop)->Prop
structure Ends where
 nx:St->Hp->Prop
 rt:VK
 bk:St->Hp->Prop:=λ_ _=>False
 ct:St->Hp->Prop:=λ_ _=>False
abbrev TS:=Ends->St->Hp->Prop
def EP(X:Cx)(pins:List (b'×Obj))(b:St)(Q:VK)(u:f')(c:j'):Prop:=∃v a,Inv X pins b a c/\RelV v u/\Q v a
def TP(X:Cx)(pins:List (b'×Obj))(c:St)(Q:Bool->Hp->Prop)(b:Bool)(d:j'):Prop:=∃a,Inv X pins c a d/\Q b a
def AP(X:Cx)(pins:List (b'×Obj))(c:St)(Q:List V->Hp->Prop)(d:List f')(e:j'):Prop:=∃a b,Inv X pins c b e/\Vals a d/\Q a b
def SP(X:Cx)(pins:List (b'×Obj))(D:Ends)(f:ň)(c:j'):Prop:=
 match f with
 |.next=>∃a b,Inv X pins a b c/\D.nx a b
 |.brk=>∃a b,Inv X pins a b c/\D.bk a b
 |.cont=>∃a b,Inv X pins a b c/\D.ct a b
 |.ret u=>∃v a b,Inv X pins a b c/\RelV v u/\D.rt v b
def PE(X:Cx)(e:pd)(t:TE):Prop:=
 ∀(pins:List (b'×Obj)) (s:j') (a:St) (H:Hp) (Q:VK),Inv X pins a H s->t a H Q->nc (l' X.prog X.w) X.A (eval e X.env) (EP X pins a Q) X.xe s
def PT(X:Cx)(e:pd)(t:TT):Prop:=
 ∀(pins:List (b'×Obj)) (s:j') (a:St) (H:Hp) (Q:Bool->Hp->Prop),Inv X pins a H s->t a H Q->nc (l' X.prog X.w) X.A (į e X.env (eval e X.env)) (TP X pins a Q) X.xe s
def PW(X:Cx)(e:pd)(t:TT):Prop:=
 ∀(a:Ø f') (pins:List (b'×Obj)) (s:j') (b:St) (H:Hp) (Q:Bool->Hp->Prop),Inv X pins b H s->t b H Q->nc (l' X.prog X.w) X.A (į e X.env a) (TP X pins b Q) X.xe s
variable{W3:TT}{m:pd}
theorem PW.pt(h:PW c m W3):PT c m W3:=h _
def PA(X:Cx)(c:List pd)(t:TA):Prop:=
 ∀(a:Pos) (pins:List (b'×Obj)) (s:j') (b:St) (H:Hp) (Q:List V->Hp->Prop),Inv X pins b H s->t b H Q->nc (l' X.prog X.w) X.A (spliced (ZP a (x' c X.env))) (AP X pins b Q) X.xe s
def PS(X:Cx)(st:D')(t:TS):Prop:=
 ∀(pins:List (b'×Obj)) (s:j') (a:St) (H:Hp) (D:Ends),Inv X pins a H s->t D a H->nc (l' X.prog X.w) X.A (exec st X.env) (SP X pins D) X.xe s
def jD(X:Cx)(st:List D')(t:TS):Prop:=
 ∀(pins:List (b'×Obj)) (s:j') (a:St) (H:Hp) (D:Ends),Inv X pins a H s->t D a H->nc (l' X.prog X.w) X.A (ė st X.env) (SP X pins D) X.xe s
theorem cj{α:Type}{t:Ø α}{Q b:α->j'->Prop}(h:nc u5 X t Q ζ s)(c:∀a s,Q a s->b a s):nc u5 X t b ζ s:=Í h c λ_ _ x=>x
noncomputable def Sg(i:Nat):TE:=λa H Q=>∃v,a[i]?=some (some v)/\Q v H
noncomputable def tC(v:V):TE:=λ_ H Q=>Q v H
variable{n:Pos}
theorem qo(o:c.N[b]?=some e)(p:zj c.env.scope e)(g:(e==("__debug__":Str))=false:=by decide)(i:(e==("__classdict__":Str))=false:=by decide):PE c (.Name e n) (Sg b):=by
 intro pins s q H Q I h;obtain⟨v,f,h⟩:=h;refine bV I.loc λm t w=>?_
 obtain⟨u,r,l⟩:=w b e v o f p;have d:EP c _ q Q u s:=⟨v,H,I,r,h⟩;rcases l with ⟨hk,x⟩|⟨hk,j,k,a⟩
 .exact Ϥ (wpAny_loadName_local I.ok.kind hk t x d) g
 .rcases hk with hk|hk
  .exact Ϥ (wpAny_loadName_cell I.ok.kind hk k a d) g
  .exact Ϥ (wpAny_loadName_free I.ok.kind hk k a d i) g
theorem qq{i j pos}:PE c (.Constant (.int i) j pos) (tC (.int i)):=λ_ _ _ H _ I h=>wpAny_Constant_int ⟨.int i,H,I.tok _,⟨_,rfl⟩,h⟩
theorem GK{b j pos}:PE c (.Constant (.bool b) j pos) (tC (.bl b)):=λ_ _ _ H _ I h=>Constant_bool ⟨.bl b,H,I,rfl,h⟩
theorem zu{j pos}:PE c (.Constant .none j pos) (tC .non):=λ_ _ _ H _ I h=>aa5 ⟨.non,H,I,rfl,h⟩
theorem fC{x j pos}:PE c (.Constant (.str x) j pos) (tC (.str x)):=λ_ _ _ H _ I h=>Calls.Constant_str ⟨.str x,H,I.tok _,⟨_,rfl⟩,h⟩
def Gl(X:Cx)(x:Str):Prop:=X.env.kindOf x=some .globalImplicit
variable{Q:St}{v3:f'->j'->Prop}
theorem eW(I:Inv c E Q d s)(a:Gl c e)(b:c.mg e=some N)(h:v3 N s)(f:(e==("__debug__":Str))=false:=by decide):nc (l' c.prog c.w) c.A (eval (.Name e n) c.env) v3 ζ s:=
 aa6 I.ok.kind a (Calls.loadGlobal_global (by rw[I.ok.glob];exact I.mod.glob.keeps I.bk) b h) f
theorem jQ(I:Inv c E Q d s)(a:Gl c e)(b:c.mg e=none)(f:ò e=some N)(h:v3 N s)(g:e≠"__name__":=by decide)(i:(e==("__debug__":Str))=false:=by decide):nc (l' c.prog c.w) c.A (eval (.Name e n) c.env) v3 ζ s:=by
 obtain⟨l,j,k⟩:=I.mod.blt;exact aa6 I.ok.kind a (Calls.loadGlobal_builtin (by rw[I.ok.glob];exact I.mod.glob.keeps I.bk) b (by rw[I.ok.blt];exact j.keeps I.bk) ((k e g).trans f) h) i
theorem Dx(a:Gl c e)(b:c.mg e=some N)(r:RelV x N)(d:(e==("__debug__":Str))=false:=by decide):PE c (.Name e n) (tC x):=
 λ_ _ _ H _ I h=>eW I a b ⟨x,H,I,r,h⟩ d
theorem Dy(a:Gl c e)(b:c.mg e=none)(d:ò e=some N)(r:RelV x N)(f:e≠"__name__":=by decide)(g:(e==("__debug__":Str))=false:=by decide):PE c (.Name e n) (tC x):=
 λ_ _ _ H _ I h=>jQ I a b d ⟨x,H,I,r,h⟩ f g
noncomputable def Sh(t u:TT):TT:=λa H Q=>t a H λc b=>if c=true then u a b Q else Q false b
noncomputable def Yp(t u:TT):TT:=λa H Q=>t a H λc b=>if c=true then Q true b else u a b Q
variable{L:List pd}{R:pd}{R6:TT}
theorem pw_and(g:PT c m W3)(i:PW c (.BoolOp .And (R::L) n) R6):PW c (.BoolOp .And (m::R::L) n) (Sh W3 R6):=by
 intro j pins s b H Q I h;refine isTrue_and (cj (g _ s b H _ I h) λa k  l =>bV l λd e f=>?_)
 cases a with
 |true=>exact i j _ k b d Q e f
 |false=>exact⟨d,e,f⟩
theorem pw_or(g:PT c m W3)(i:PW c (.BoolOp .Or (R::L) n) R6):PW c (.BoolOp .Or (m::R::L) n) (Yp W3 R6):=by
 intro j pins s b H Q I h;refine isTrue_or (cj (g _ s b H _ I h) λa k  l =>bV l λd e f=>?_)
 cases a with
 |true=>exact⟨d,e,f⟩
 |false=>exact i j _ k b d Q e f
variable{υ:TE}
theorem HM{op}(h:PE c m υ):PE c (.BoolOp op [m] n) υ:=λpins s a H Q I b=>BoolOp_one (h _ s a H Q I b)
noncomputable def Lj(t:TT)(d tb:TE):TE:=λa H Q=>t a H λc b=>if c=true then d a b Q else tb a b Q
variable{B3:TE}{G2:pd}
theorem zv(i:PT c G2 W3)(j:PE c m υ)(k:PE c R B3):PE c (.IfExp G2 m R n) (Lj W3 υ B3):=by
 intro pins s a H Q I h;refine wpAny_IfExp (cj (i _ s a H _ I h) λd b l=>?_);obtain⟨e,f,g⟩:=l
 cases d with
 |true=>exact j _ b a e Q f g
 |false=>exact k _ b a e Q f g
def mI(K:A')(H:Hp)(a:b')(xs:List V):Prop:=
 Rd H a (.lst xs) \/
  ∃(o:Obj) (b:Array f') (n:Nat),K.lookup a=some o/\o.cls=.type "list"/\o.dict=none/\o.data=.seq b n/\b.size<=K'/\Vals xs b.toList
def uA(K:A')(H:Hp)(a:b')(xs:List V):Prop:=
 Rd H a (.tup xs) \/
  ∃(o:Obj) (b:Array f') (n:Nat),K.lookup a=some o/\o.cls=.type "tuple"/\o.data=.seq b n/\b.size<=K'/\Vals xs b.toList
noncomputable def Si:f'->Option V
 |.none=>some .non
 |.bool b=>some (.bl b)
 |.int i _=>some (.int i)
 |.str x _=>some (.str x)
 |.bytes b _=>some (.Li b)
 |.float b _=>some (.flt b)
 |.ref a=>some (.ref a)
 |.type n=>some (.ty n)
 |_=>none
theorem RelV.abs(r:RelV x N):Si N=some x:=by
 cases x with
 |non=>cases r;rfl
 |bl _=>cases r;rfl
 |int _=>obtain⟨t,rfl⟩:=r;rfl
 |str _=>obtain⟨t,rfl⟩:=r;rfl
 |Li _=>obtain⟨t,rfl⟩:=r;rfl
 |flt _=>obtain⟨t,rfl⟩:=r;rfl
 |ref _=>cases r;rfl
 |ty _=>cases r;rfl
theorem RelV.inj{x y:V}{u:f'}(r:RelV x u)(q:RelV y u):x=y:=ŉ (r.abs.symm.trans q.abs)
theorem Vals.inj:∀{xs a:List V}{b:List f'},Vals xs b->Vals a b->xs=a
 |_,_,_,.nil,.nil=>rfl
 |_,_,_,.cons r t,.cons c d=>by rw[r.inj c,Vals.inj t d]
variable{O:List V}
theorem Inv.list(I:Inv c E Q d s)(a:mI c.K d h O):∃b:List f',Vals O b/\PlainL s.heap h b.toArray/\O.length<=K':=by
 rcases a with a|⟨o,b,n,g,i,j,k,l,r⟩
 .refine xa (a.ok I.hok) λz f=>cF f λb n r e=>⟨_,r,⟨_,n,e,rfl,rfl,rfl⟩,z⟩
 .refine⟨_,r,⟨o,n,I.fg h o g,i,j,by omega⟩,?_⟩
  have e:=r.length
  simp_all
theorem Inv.tuple(I:Inv c E Q d s)(a:uA c.K d h O):∃b:List f',Vals O b/\Ĭ s.heap h b.toArray/\O.length<=K':=by
 rcases a with a|⟨o,b,n,f,g,i,j,r⟩
 .obtain⟨z,b,r,p⟩:=a.ok I.hok
  exact⟨_,r,p,z⟩
 .refine⟨_,r,⟨o,I.fg h o f,g,n,by omega⟩,?_⟩
  have e:=r.length
  simp_all
variable{F4:List V}
theorem Inv.sD(I:Inv c E Q d s)(a:mI c.K d h O)(h':mI c.K d h F4):O=F4:=by
 obtain⟨f,r,⟨o,n,e,_,_,g⟩,_⟩:=I.list a;obtain⟨b,i,⟨j,k,l,_,_,m⟩,_⟩:=I.list h';have:f=b:=by simp_all
 subst this;exact r.inj i
theorem Inv.xS(I:Inv c E Q d s)(a:uA c.K d h O)(h':uA c.K d h F4):O=F4:=by
 obtain⟨f,r,⟨o,e,_,n,g⟩,_⟩:=I.tuple a;obtain⟨b,i,⟨j,k,_,l,m⟩,_⟩:=I.tuple h';have:f=b:=by simp_all
 subst this;exact r.inj i
abbrev Cx.wish(X:Cx)(E:f'->j'->Prop):Cx:={X with xe:=E}
abbrev Cx.kY(X:Cx):Cx:=X.wish λ_ _=>False
theorem Cx.Ok.wish{X:Cx}(ok:X.Ok)(E:f'->j'->Prop):(X.wish E).Ok:=
 ⟨ok.mod,ok.kind,ok.glob,ok.blt,ok.above,ok.inj,ok.has,ok.cab,ok.hd,ok.frames,ok.GJ,ok.HL,ok.bs,ok.vF,ok.su,ok.sv,ok.iz,ok.zk⟩
theorem Cx.Ok.fD(ok:(c.wish ζ).Ok):c.Ok:=
 ⟨ok.mod,ok.kind,ok.glob,ok.blt,ok.above,ok.inj,ok.has,ok.cab,ok.hd,ok.frames,ok.GJ,ok.HL,ok.bs,ok.vF,ok.su,ok.sv,ok.iz,ok.zk⟩
theorem Inv.wish{X:Cx}{pins:List (b'×Obj)}{a:St}{H:Hp}{s:j'}(I:Inv X pins a H s)(E:f'->j'->Prop):Inv (X.wish E) pins a H s:=⟨I.ok.wish E,I.os,I.bare,I.base,I.loc,I.cell,I.free,I.dX,I.pin,I.hok,I.len⟩
theorem Inv.fD{X:Cx}{pins:List (b'×Obj)}{a:St}{H:Hp}{s:j'}{E:f'->j'->Prop}(I:Inv (X.wish E) pins a H s):Inv X pins a H s:=⟨I.ok.fD,I.os,I.bare,I.base,I.loc,I.cell,I.free,I.dX,I.pin,I.hok,I.len⟩
theorem SP.fD{X:Cx}{pins:List (b'×Obj)}{E:f'->j'->Prop}{D:Ends}{f:ň}{c:j'}(h:SP (X.wish E) pins D f c):SP X pins D f c:=by
 cases f with
 |next=>obtain⟨a,b,I,q⟩:=h;exact⟨_,b,I.fD,q⟩
 |brk=>obtain⟨a,b,I,q⟩:=h;exact⟨_,b,I.fD,q⟩
 |cont=>obtain⟨a,b,I,q⟩:=h;exact⟨_,b,I.fD,q⟩
 |ret u=>refine cB h λv a b I r q=>⟨v,_,b,I.fD,r,q⟩
theorem jD.kY{X:Cx}{st:List D'}{t:TS}(h:jD X.kY st t):jD X st t:=λpins s a H D I b=>
 Í (h _ s a H D (I.wish _) b) (λ_ _ q=>q.fD) (by simp)
noncomputable def Sj(t u:TS):TS:=λD a H=>t {D with nx:=u D} a H
variable{W1:List D'}{m6 x8:TS}{ν:D'}
theorem zw(a:PS c ν m6)(b:jD c W1 x8):jD c (ν::W1) (Sj m6 x8):=by
 intro pins s d H D I h;refine ū (cj (a _ s d H _ I h) λf e q=>?_)
 cases f with
 |next=>
  refine cF q λg i j q=>b _ e _ i D j q
 |ret v=>exact q
 |brk=>exact q
 |cont=>exact q
theorem vH(a:PS c ν m6):jD c [ν] m6:=by
 intro pins s b H D I h;refine ū (cj (a _ s b H D I h) λf d q=>?_)
 cases f with
 |next=>exact Ę q
 |ret v=>exact q
 |brk=>exact q
 |cont=>exact q
theorem Inv.quiet(I:Inv c E Q d s):interactive c.env=false:=by simp[interactive,I.ok.kind]
noncomputable def LK(b:TE):TS:=λD a H=>b a H λ_ c=>D.nx a c
theorem vI(b:PE c m υ)(d:Ù m none n.line c.env=pure false:=by rfl):PS c (.Expr m n) (LK υ):=by
 intro pins s a H D I h;exact aa7 (cj (b _ s a H _ I h) λv j  e =>aW e λx f g k i=>⟨a,f,g,i⟩) I.quiet d
noncomputable def LM:TS:=λD _ H=>D.rt .non H
theorem Dz:PS c (.Return none n) LM:=λ_ _ a H _ I h=>wpAny_Return_none ⟨.non,a,H,I,rfl,h⟩
noncomputable def Sk(c:TT)(t u:TS):TS:=λD a H=>c a H λb d=>if b=true then t D a d else u D a d
variable{Y7:List D'}
theorem GL(i:PT c m W3)(j:jD c W1 m6)(k:jD c Y7 x8):PS c (.If m W1 Y7 n) (Sk W3 m6 x8):=by
 intro pins s a H D I h;refine wpAny_If (cj (i _ s a H _ I h) λd b l=>?_);obtain⟨e,f,g⟩:=l
 cases d with
 |true=>exact j _ b a e D f g
 |false=>exact k _ b a e D f g
abbrev TG:=V->St->Hp->(St->Hp->Prop)->Prop
abbrev GN:=List V->St->Hp->(St->Hp->Prop)->Prop
def PG(X:Cx)(a:pd)(t:TG):Prop:=
 ∀(pins:List (b'×Obj)) (s:j') (c:St) (H:Hp) (v:V) (u:f') (Q:St->Hp->Prop),Inv X pins c H s->RelV v u->t v c H Q ->
  nc (l' X.prog X.w) X.A (Ŭ a X.env u) (λ_ e=>∃b d,Inv X pins b d e/\Q b d) X.xe s
def LN(X:Cx)(f:List pd)(t:GN):Prop:=
 ∀(pins:List (b'×Obj)) (s:j') (b:St) (H:Hp) (c:List V) (d:List f') (Q:St->Hp->Prop),Inv X pins b H s->Vals c d->t c b H Q ->
  nc (l' X.prog X.w) X.A (assignInOrder ((ü f X.env).map (·.2)) d) (λ_ g=>∃a e,Inv X pins a e g/\Q a e) X.xe s
abbrev Sl:=V->V->V->Hp->(Hp->Prop)->Prop
def Sm(X:Cx)(t:Sl):Prop:=
 ∀(pins:List (b'×Obj)) (s:j') (a:St) (H:Hp) (o i v:V) (b c u:f') (Q:Hp->Prop),Inv X pins a H s->RelV o b->RelV i c->RelV v u->t o i v H Q ->
  nc (l' X.prog X.w) X.A (setItem b c u) (λ_ e=>∃d,Inv X pins a d e/\Q d) X.xe s
noncomputable def ki(i:Nat):TG:=λv a H Q=>Q (a.set i (some v)) H
theorem kj(a:c.N.Nodup)(d:c.N[b]?=some e)(f:Loc c.env.scope e)(g:c.fn e=true\/c.env.scope.names.lookup e=some .local:=by first|exact .inl rfl|exact .inr rfl|assumption):PG c (.Name e n) (ki b):=by
 intro pins s j H v u Q I r h;exact aa8 (nr I a d f r (λk i=>⟨_,H,i,h⟩) g)
noncomputable def LO:GN:=λa b H Q=>a=[]/\Q b H
noncomputable def GO(t:TG)(u:GN):GN:=λb c H Q=>∃v r,b=v::r/\t v c H λa d=>u r a d Q
theorem vJ:LN c [] LO:=by
 intro pins s a H b d Q I r h;obtain⟨e,h⟩:=h;exact assignInOrder_nil ⟨a,H,I,h⟩
variable{m5:TG}
theorem nt{u:GN}(a:PG c m m5)(b:LN c L u)(d:(ü (m::L) c.env).map (·.2)=Ŭ m c.env::(ü L c.env).map (·.2):=by rfl):LN c (m::L) (GO m5 u):=by
 intro pins s e H o p Q I r h;obtain⟨v,vr,f,h⟩:=h;subst f;cases r with
 |cons r g=>
  rw[d];refine assignInOrder_cons (cj (a _ s e H _ _ _ I r h) λ_ i  j =>cF j λ_ k l n=>b _ i _ k _ _ Q l g n)
noncomputable def uB(K:A')(n:Nat)(t:GN):TG:=λv c H Q=>∃a b,v=.ref a/\uA K H a b/\b.length=n/\t b c H Q
theorem zx{t:GN}(i:c.calm=true)(h:LN c L t)(j:(ü L c.env).length=w:=by rfl)(f:(ü L c.env).findIdx? (·.1)=none:=by rfl):PG c (.Tuple L b n) (uB c.K w t):=by
 intro pins s k H v u Q I r g;obtain⟨a,l,m,p,q,g⟩:=g;subst m;cases r;refine bF (I.tuple p) λx y z B=>?_
 refine assign_Tuple_tuple (I.ok.hd i) z (by simp[j,←q,y.length]) f λC A=>?_
 exact h _ _ k H l _ Q (I.kept λd o e=>A d o (Q' (I' e)) e) (by omega) g
noncomputable def HN(b:TE)(g:TG):TS:=λD a H=>b a H λx c=>g x a c D.nx
theorem HP(b:PE c R υ)(d:PG c m m5)(e:swapsWithSole [m] R n.line c.env=pure false:=by rfl)(f:swappedStores [m] R c.env=pure none:=by rfl)(g:(ü [m] c.env).map (·.2)=[Ŭ m c.env]:=by rfl):PS c (.Assign [m] R n) (HN υ m5):=by
 intro pins s a H D I h;refine wpAny_Assign_stores (cj (b _ s a H _ I h) λv i j=>?_) e f;refine aW j λx k l o p=>?_
 rw[g];exact cj (d _ i a k x v _ l o p) λ_ r q=>q
variable{J:Pos}
theorem HQ(a:c.N.Nodup)(d:c.N[b]?=some e)(f:Loc c.env.scope e)(g:PE c m υ)(i:Ù m (some (.Name e J)) n.line c.env=pure false:=by rfl)(j:c.fn e=true\/c.env.scope.names.lookup e=some .local:=by first|exact .inl rfl|exact .inr rfl|assumption):
  PS c (.Assign [.Name e J] m n) (HN υ (ki b)):=by
 intro pins s k H D I h;refine wpAny_Assign_Name (cj (g _ s k H _ I h) λv u  l =>aW l λy o p q r=>nr p a d f q (λw t=>⟨_,o,t,r⟩) j) i
noncomputable def HR(c:TT)(tb:TS):TS:=λD a H=>∃W:Nat->St->Hp->Prop,(∃m,W m a H)/\∀m a H,W m a H ->
 c a H λb e=>if b=true then ∃N:St->Hp->Prop,(∀d f,N d f->∃g,g<m/\W g d f)/\tb {D with nx:=N,ct:=N,bk:=D.nx} a e else D.nx a e
theorem zy(r:Ŋ (l' c.prog c.w) c.A c.env c.xe)(B:PT c m W3)(C:jD c W1 m6):PS c (.While m W1 [] n) (HR W3 m6):=by
 intro pins s E H D I h;obtain⟨W,⟨F,G⟩,turn⟩:=h;refine wpAny_While (codeAny_whileLoop (λa J=>∃d t,Inv c _ d t J/\W a d t) ?_ F ⟨E,H,I,G⟩)
 rintro a K ⟨L,u,M,O⟩;refine ę r (cj (B _ K _ u _ M (turn a _ u O)) λb P Q=>?_);refine bV Q λx y g=>?_
 cases b with
 |true=>
  refine bV g λN z g=>?_
  refine ę r (cj (C _ P _ x _ y g) λf R i=>?_)
  cases f with
  |next=>
   obtain⟨j,e,k,l⟩:=i;obtain⟨o,p,q⟩:=z _ e l;exact⟨o,p,_,e,k,q⟩
  |cont=>
   obtain⟨j,e,k,l⟩:=i;obtain⟨o,p,q⟩:=z _ e l;exact⟨o,p,_,e,k,q⟩
  |brk=>exact i
  |ret v=>exact i
 |false=>
  exact Ę ⟨_,x,y,g⟩
structure It where
 go:Nat->Hp->Prop
 PB:Nat->Hp->V->Hp->Prop
 stop:Nat->Hp->Prop
def oQ(X:Cx)(pins:List (b'×Obj))(H:Hp)(b:b'):Prop:=
 H b=none/\b≠X.env.locals/\b∉X.fs/\(b∈X.ex\/X.s₀.heap.objs.size<=b)/\(∀x c,X.env.cells.lookup x=some c->c≠b)/\∀p∈X.pn++pins,p.1≠b
theorem Inv.zz(I:Inv c E Q d s)(b:s.heap.objs.size<=h)(f:ο h=none):oQ c E ο h:=by
 refine⟨f,É (R' I.lt b),I.Sf b,.inr (B' I.sz b),λx a e z=>?_,λp g z=>?_⟩
 .obtain⟨v,q⟩:=I.cell x a e
  exact absurd (R' q.lt (by rwa[z])) (Ã _)
 .exact absurd (R' (I' (I.pin p g).1) (by rwa[z])) (Ã _)
structure Turn(P:X')(w:O')(K:A')(tg:pd)(J:It)(fp:List b')(it:b')(tn:Nat->y'->Prop):Prop where
 mem:it∈fp
 obj:∀i h,tn i h->∀b∈fp,∃o,h.get? b=some o/\∀v,o.data≠.cell v
 keep:∀i h h',tn i h->(∀b∈fp,∀o,h.get? b=some o->h'.get? b=some o)->tn i h'
 item:∀(X:Cx),X.prog=P->X.w=w->X.K=K->X.calm=true->∀(i:Nat) (pins:List (b'×Obj)) (s:j') (σ:St) (H:Hp) (E:f'->j'->Prop),Inv X pins σ H s->(∀b∈fp,oQ X pins H b)->tn i s.heap->J.go i H ->
  nc (l' P w) X.A (ϥ (.ref it)) (λr s1=>∃u,r=some u /\
   nc (l' P w) X.A (Ϧ tg (.ref it) u) (λ_ s2=>∃x H',Inv X pins σ H' s2/\RelV x u/\J.PB i H x H'/\tn (i+1) s2.heap/\∀b∈fp,H' b=none) E s1) E s
 done:∀(X:Cx),X.prog=P->X.w=w->X.K=K->X.calm=true->∀(i:Nat) (pins:List (b'×Obj)) (s:j') (σ:St) (H:Hp) (E:f'->j'->Prop),Inv X pins σ H s->(∀b∈fp,oQ X pins H b)->tn i s.heap->J.stop i H ->
  nc (l' P w) X.A (ϥ (.ref it)) (λr s1=>r=none/\Inv X pins σ H s1) E s
 self:∀(A:ZW) (i:Nat) (s:j') (Q:f'->j'->Prop) (E:f'->j'->Prop),tn i s.heap->Q (.ref it) s->nc (l' P w) A (Ě (.ref it)) Q E s
abbrev TI:=St->Hp->(It->Hp->Prop)->Prop
def PIE(X:Cx)(pins:List (b'×Obj))(h:St)(i:pd)(R:It->Hp->Prop)(a:f')(d:j'):Prop:=
 ∃(e:b') (f:List b') (g:Nat->y'->Prop) (J:It) (c:Hp),a=.ref e/\Inv X pins h c d/\Turn X.prog X.w X.K i J f e g/\g 0 d.heap/\(∀b∈f,oQ X pins c b)/\R J c
def PI(X:Cx)(b iter:pd)(c:TI):Prop:=
 ∀(pins:List (b'×Obj)) (s:j') (a:St) (H:Hp) (R:It->Hp->Prop),Inv X pins a H s->c a H R ->
  nc (l' X.prog X.w) X.A (eval iter X.env) (λv d=>nc (l' X.prog X.w) X.A (Ě v) (PIE X pins a b R) X.xe d) X.xe s
variable{B5:Array f'}{C3:String}
theorem sE(b:s.heap.get? h=some Ξ)(c:Ξ.cls=.type C3)(d:Ξ.data=.fields B5)(e:["enumerate","zip","dict_itemiterator","dict_reverseitemiterator","odict_iterator","itertools.zip_longest","itertools.pairwise"].contains C3=false)(a:A3 () s):nc u5 X (Ϧ m (.ref h) N) A3 ζ s:=by
  cases m<;>first
    |exact U' a
    | (cases N<;>first
        |exact U' a
        | (refine p' (wpAny_load b ?_)
           rw[c,d]
           show nc u5 X (if (["enumerate","zip","dict_itemiterator","dict_reverseitemiterator","odict_iterator","itertools.zip_longest","itertools.pairwise"].contains C3&&B5[0]?==some _)=true then _ else _) A3 ζ s
           rw[if_neg (by grind)]
           exact U' a))
noncomputable def Sn(K:A')(a:b'):It:=
 ⟨λi H=>∃b x,mI K H a b/\b[i]?=some x,λi H x c=>c=H/\∀b,mI K H a b->b[i]?=some x,λi H=>∃b,mI K H a b/\b.length<=i⟩
noncomputable def WX(K:A')(a:b'):It:=
 ⟨λi H=>∃b x,uA K H a b/\b[i]?=some x,λi H x c=>c=H/\∀b,uA K H a b->b[i]?=some x,λi H=>∃b,uA K H a b/\b.length<=i⟩
noncomputable def So(a:Int)(n:Nat):It:=⟨λi _=>i<n,λi H x b=>b=H/\x=.int (a+i),λi _=>n<=i⟩
variable{A:A'}
theorem xT(a g:b'):Turn B G A m (Sn A a) [g] g (λi h=>h.IsListIter g a i) where
 mem:=by simp
 obj:=λi h f b j=>by
  refine bF f λo e c d=>?_
  simp_all
 keep:=λi h N f k=>f.at λo e=>k g (by simp) o e
 item:=by
  intro X r t w O i pins s P H E I n f y;subst r t w;refine cF y λQ x q z=>?_
  refine bF (I.list q) λC D p R=>?_
  refine bV (D.get z) λu S T=>?_
  refine dv (n g (by simp)) λF J U K L M=>?_
  refine aa9 f p.isList (by simpa using S) λN l V=>?_
  refine bF (id l) λo e c d=>?_
  exact⟨u,rfl,sE e c d (by decide) ⟨x,H,(I.turned (λb o j e=>(V.2 b j).trans e) F J K L M),T,⟨rfl,λys Y=>by rwa[I.sD Y q]⟩,l,λb j=>(n b j).1⟩⟩
 done:=by
  intro X r t w O i pins s P H E I n f y;subst r t w;refine bV y λQ q z=>?_
  refine bF (I.list q) λC D p R=>?_
  refine dv (n g (by simp)) λF J U K L M=>?_
  have Z:=D.length;exact aa' (I.ok.hd O) f p.isList (by simp;exact B' (V' Z.symm) z) λN eb=>⟨rfl,I.turned (λb o j e=>eb b o j e) F J K L M⟩
 self:=λ_ _ _ _ _ f h=>wpAny_pyIter_listiter f h
theorem uC(a g:b'):Turn B G A m (WX A a) [g] g (λi h=>h.IsTupleIter g a i) where
 mem:=by simp
 obj:=λi h f b l=>by
  refine bF f λo e c d=>?_
  simp_all
 keep:=λi h N f k=>f.at (by simp_all)
 item:=by
  intro X q r t O i pins s P H E I w f y;subst q r t;refine cF y λQ x n z=>?_
  refine bF (I.tuple n) λC D p R=>?_
  refine bV (D.get z) λu S T=>?_
  refine dv (w g (by simp)) λF J U K L M=>?_
  refine wpAny_pyNext_tuple_item f (p) (by simpa using S) λN j V=>?_
  refine bF (id j) λo e c d=>?_
  exact⟨u,rfl,sE e c d (by decide) ⟨x,H,(I.turned (b:=s.toks) (λb o l e=>(V.2 b l).trans e) F J K L M),T,⟨rfl,λys Y=>by rwa[I.xS Y n]⟩,j,by simp_all⟩⟩
 done:=by
  intro X q r t O i pins s P H E I w f y;subst q r t;refine bV y λQ n z=>?_
  refine bF (I.tuple n) λC D p R=>?_
  refine dv (w g (by simp)) λF J U K L M=>?_
  have Z:=D.length;exact wpAny_pyNext_tuple_end (I.ok.hd O) f (p) (by simp;exact B' (V' Z.symm) z) λN eb=>⟨rfl,I.turned (λb o l e=>eb b o l e) F J K L M⟩
 self:=λ_ _ _ _ _ f h=>wpAny_pyIter_tupleiter f h
theorem uD{w:O'}(c:b')(f:Int)(n:Nat):Turn B w A m (So f n) [c] c (λi h=>IsRangeIter h c (f+(i:Nat)*1) ((n:Int) - (i:Nat)) 1) where
 mem:=by simp
 obj:=λi h a b g=>by
  simp_all
 keep:=λi h z a k=>k c (by simp) _ a
 item:=by
  intro X C D F j i pins s G H E I l a p;subst C D F;refine dv (l c (by simp)) λq r J u x y=>?_
  have W:=Walks.range (prog:=X.prog) (w:=X.w) (I.ok.hd j) c f 1 n;refine W.item i s _ _ p a λv z N K d L=>?_
  obtain⟨t,rfl⟩:=K;refine⟨_,rfl,sE d rfl rfl (by decide) ⟨.int _,H,(I.turned (λb o g e=>L b o (by simp_all) e) q r u x y),⟨t,?_⟩,⟨rfl,rfl⟩,d,by simp_all⟩⟩
  simp
 done:=by
  intro X C D F j i pins s G H E I l a p;refine dv (l c (by simp)) λq r J u x y=>?_
  exact wpAny_pyNext_range_end (I.ok.hd j) a (by have:n<=i:=p;omega) λz M=>⟨rfl,I.turned (λb o g e=>M b o g e) q r u x y⟩
 self:=λ_ _ _ _ _ a h=>wpAny_pyIter_rangeiter a h
variable{Q0 T:Int}{c8:It->Hp->Prop}{w8:È}
theorem zA{s:j'}{u v:È}(I:Inv c E Q d s)(g : -(2 ^ 62)<=T)(h:T<2 ^ 62)(i : -(2 ^ 62)<=Q0)(j:Q0<2 ^ 62)(q:c8 (So T (Q0 - T).toNat) d):nc (l' c.prog c.w) c.A (Ě (.ref s.heap.objs.size)) (PIE c E Q m c8) ζ {s with heap:=s.heap.push {cls:=.type "range",data:=.fields #[.int T w8,.int Q0 u,.int 1 v]},toks:=b}:=by
 refine wpAny_pyIter_range (IsRange.new ..) (small_one g h i j) ?_;have f:Inv c _ Q d {s with heap:=s.heap.push {cls:=.type "range",data:=.fields #[.int T w8,.int Q0 u,.int 1 v]},toks:=b}:=I.kept λa o e=>ZQ _ e
 refine⟨_,_,_,_,d,rfl,
  f.kept λa o e=>ZQ _ e,uD _ T _,?_,λa n=>?_,q⟩
 .have k:T+((0:Nat))*1=T:=by simp
  have l:(((Q0 - T).toNat)) - ((0:Nat))=acW T Q0 1:=by rw[rangeSize_one];grind
  rw[k,l];exact Ê _ rfl
 .have e:a=(s.heap.push {cls:=.type "range",data:=.fields #[.int T w8,.int Q0 u,.int 1 v]}).objs.size:=by simp_all
  subst e;exact f.zz (M' _) (f.hok.fresh (M' _))
def LP(a:TA):TI:=λb H R=>a b H λc d=>∃j:Int,c=[.int j] /\ -(2 ^ 62)<=j/\j<2 ^ 62/\R (So 0 j.toNat) d
variable{Q2:TA}
theorem xU(d:Gl c "range")(f:c.mg "range"=none)(g:PA c [R] Q2)(i:x' [R] c.env=[(false,eval R c.env)]:=by rfl):PI c m (.Call (.Name "range" n) [R] [] J) (LP Q2):=by
 intro pins s k H b I h;refine Call_ (jQ I d f boot_range (ϧ (cj (g _ _ s k H _ I h) λx y l=>?_) i rfl));refine aW l λz A o p a=>?_
 obtain⟨j,e,a,u,q⟩:=a;subst e;cases p with
 |cons r w=>
  cases w;obtain⟨t,rfl⟩:=r;exact call_range_1 (zA o (by decide) (by decide) a u (by simp_all))
noncomputable def Sq(f:TI)(g:TG)(tb:TS):TS:=λD a H=>f a H λJ h=>∃W:Nat->Nat->St->Hp->Prop,(∃m,W 0 m a h)/\∀i m a H,W i m a H ->
 (J.stop i H/\D.nx a H)\/(J.go i H/\∃N:St->Hp->Prop,(∀b c,N b c->∃e,e<m/\W (i+1) e b c)/\∀x c,J.PB i H x c->g x a c λd j=>tb {D with nx:=N,ct:=N,bk:=D.nx} d j)
noncomputable def qr(fp:List b')(h:y'):List (b'×Obj):=fp.filterMap λb=>(h.get? b).map λo=>(b,o)
theorem gT(a:h∈v)(e:z.get? h=some Ξ):(h,Ξ)∈qr v z:=aba.mpr ⟨h,a,by rw[e];rfl⟩
theorem xW{p:b'×Obj}(a:p∈qr v z):p.1∈v/\z.get? p.1=some p.2:=by
 obtain⟨b,c,e⟩:=aba.mp a;cases q:z.get? b with
 |none=>simp_all
 |some o=>
  grind
theorem Inv.pinned(I:Inv c E Q d s)(g:∀b∈v,oQ c E d b)(j:∀b∈v,∃o,s.heap.get? b=some o/\∀a,o.data≠.cell a):Inv c (E++qr v s.heap) Q d s:=
 I.vG λp h=>(Ô.mp h).elim (λz=>I.pin p (Ą _ z)) λz=>by
  obtain⟨i,e⟩:=xW z;refine ur (g _ i) λk l f=>xa f λm _=>?_
  grind
theorem Inv.kk{pl:List (b'×Obj)}(I:Inv c (E++pl) Q d s):Inv c E Q d s:=I.vG λp a=>I.pin p (by simp_all)
variable{S6:TI}
theorem HS(E:Ŋ (l' c.prog c.w) c.A c.env c.xe)(X:c.calm=true)(hi:PI c m R S6)(hg:PG c m m5)(j:jD c W1 m6)(hs:∀x,ý R c.env x=pure x:=by intro _;rfl):PS c (.For m R W1 [] n) (Sq S6 m5 m6):=by
 intro pins s Y H D I h;refine wpAny_For (cj (hi pins s Y H _ I h) λv s1 h1=>cj h1 λa0 s2 h2=>?_) hs
 obtain⟨it,L,Z,J,H2,e,I2,T,O,f2,W,⟨m0,w0⟩,turn⟩:=h2;subst e;have k:∀{y:Hp},(∀b∈L,y b=none)->∀b∈L,oQ c pins y b:=λhn b j=>⟨hn b j,(f2 b j).2⟩
 refine codeAny_forLoop_any (λg s'=>∃i l y,Inv c pins l y s'/\Z i s'.heap/\(∀b∈L,y b=none)/\W i g l y) ?_ m0 ⟨0,Y,H2,I2,O,λb j=>(f2 b j).1,w0⟩
 rintro g s3 ⟨i,p,M,I3,F,G,w3⟩;rcases turn i g p M w3 with ⟨stop,qn⟩|⟨go,N,hN,step⟩
 .refine ę E (cj (T.done c rfl rfl rfl X i pins s3 p M _ I3 (k G) F stop) λr s4  P =>xa P λQ I4=>?_)
  subst Q;exact Ę ⟨p,M,I4,qn⟩
 .refine ę E (cj (T.item c rfl rfl rfl X i _ s3 p M _ I3 (k G) F go) λr s4 S=>?_);refine bV S λu Q h4=>?_
  subst Q;refine ę E (cj h4 λ_ s5 S=>?_);refine gi S λx H5 I5 r5 y5 C U=>?_
  refine ę E (cj (hg _ s5 p H5 x u _ (I5.pinned (k U) (T.obj _ _ C)) r5 (step x H5 y5)) λ_ s6  P =>cF P λV H6 I6 q6=>?_)
  refine ę E (cj (j _ s6 V H6 _ I6 q6) λf s7 z=>?_)
  have İ:∀{a:St}{q:Hp},Inv c _ a q s7->N a q->∃B,B<g/\∃i l y,Inv c pins l y s7/\Z i _/\(∀b∈L,y b=none)/\W i B l y:=λ{a q} t K=>by
   obtain⟨m',hm,w7⟩:=hN a q K;refine⟨m',hm,_,a,q,t.kk,T.keep _ _ _ C λb j o e=>(t.pin _ (Ą _ (Ą _ (gT j e)))).1,λb j=>?_,w7⟩
   obtain⟨o,e,d⟩:=T.obj _ _ C b j;exact(t.pin _ (Ą _ (Ą _ (gT j e)))).2.1
  cases f with
  |next=>obtain⟨a,q,t,K⟩:=z;exact İ t K
  |cont=>obtain⟨a,q,t,K⟩:=z;exact İ t K
  |brk=>obtain⟨a,q,t,z⟩:=z;exact⟨a,q,t.kk,z⟩
  |ret v=>refine cB z λx7 a q t r7 z=>?_;exact⟨x7,a,q,t.kk,r7,z⟩
abbrev R2:=V->V->Hp->VK->Prop
def kg(X:Cx)(f:f'->f'->Ø f')(r:R2):Prop:=
 ∀(pins:List (b'×Obj)) (s:j') (a:St) (H:Hp) (x y:V) (v u:f') (Q:VK),Inv X pins a H s->RelV x v->RelV y u->r x y H Q ->
  nc (l' X.prog X.w) X.A (f v u) (EP X pins a Q) X.xe s
def fq(X:Cx)(f:f')(r:List V->Hp->VK->Prop):Prop:=
 ∀(pins:List (b'×Obj)) (s:j') (a:St) (H:Hp) (b:List V) (c:List f') (Q:VK),Inv X pins a H s->Vals b c->r b H Q ->
  nc (l' X.prog X.w) X.A (call f c) (EP X pins a Q) X.xe s
def Sr(X:Cx)(r:V->Hp->(Bool->Hp->Prop)->Prop):Prop:=
 ∀(pins:List (b'×Obj)) (s:j') (a:St) (H:Hp) (x:V) (v:f') (Q:Bool->Hp->Prop),Inv X pins a H s->RelV x v->r x H Q ->
  nc (l' X.prog X.w) X.A (ŋ v) (TP X pins a Q) X.xe s
noncomputable def Lk(r:R2)(b tb:TE):TE:=λa H Q=>b a H λx c=>tb a c λy d=>r x y d Q
noncomputable def rI(C:Int->Int->Prop)(g:Int->Int->V):R2:=λx y H Q=>∃i j,x=.int i/\y=.int j/\C i j/\Q (g i j) H
noncomputable def PC(g:Int->Int->V):R2:=λx y H Q=>∃i j,x=.int i/\y=.int j/\Q (g i j) H
variable{Q6:f'->f'->Ø f'}
theorem HU(j:PE c m υ)(k:PE c R B3){a:V->V->Hp->Prop}(I:Inv c E Q d s)(h:υ Q d λx i=>B3 Q i λy b=>a x y b)(l:∀v u g x y b,Inv c E Q b g->RelV x v->RelV y u->a x y b->nc (l' c.prog c.w) c.A (Q6 v u) ζ c.xe g):
  nc (l' c.prog c.w) c.A (eval m c.env) (λv e=>nc (l' c.prog c.w) c.A (eval R c.env) (λu f=>nc (l' c.prog c.w) c.A (Q6 v u) ζ c.xe f) c.xe e) c.xe s:=by
 refine cj (j _ s Q d _ I h) λv n ⟨x,i,I1,r1,q1⟩=>?_
 refine cj (k _ n Q i _ I1 q1) λu g ⟨y,b,I2,r2,q2⟩=>l v u g x y b I2 r1 r2 q2
variable{E4:R2}{F9:ě}
theorem zB(a:kg c (Ĝ F9) E4)(b:PE c m υ)(d:PE c R B3):PE c (.BinOp m F9 R n) (Lk E4 υ B3):=by
 intro pins s e H Q I h;exact wpAny_BinOp (HU b d I h λv u f x y g i j k q=>a _ f e g x y v u Q i j k q)
theorem PD{C:Int->Int->Prop}{g:Int->Int->Int}(rule:∀(i j:Int) (t u:È) (s:j') (Q:f'->j'->Prop) (E:f'->j'->Prop),C i j->Q (.int (g i j) s.toks) {s with toks:=s.toks+1}->nc (l' c.prog c.w) c.A (Q6 (.int i t) (.int j u)) Q E s):
  kg c Q6 (rI C λi j=>.int (g i j)):=by
 intro pins s f H x y v u Q I a b h;obtain⟨i,j,rfl,rfl,d,q⟩:=h;obtain⟨t,rfl⟩:=a;obtain⟨e,rfl⟩:=b;exact rule i j t e s _ _ d ⟨.int _,H,I.tok _,⟨_,rfl⟩,q⟩
theorem LQ{g:Int->Int->Int}(rule:∀(i j:Int) (t u:È) (s:j') (Q:f'->j'->Prop) (E:f'->j'->Prop),Q (.int (g i j) s.toks) {s with toks:=s.toks+1}->nc (l' c.prog c.w) c.A (Q6 (.int i t) (.int j u)) Q E s):
  kg c Q6 (PC λi j=>.int (g i j)):=by
 intro pins s e H x y v u Q I a b h;obtain⟨i,j,rfl,rfl,q⟩:=h;obtain⟨t,rfl⟩:=a;obtain⟨d,rfl⟩:=b;exact rule i j t d s _ _ ⟨.int _,H,I.tok _,⟨_,rfl⟩,q⟩
theorem DA{g:Int->Int->Bool}(rule:∀(i j:Int) (t u:È) (s:j') (Q:f'->j'->Prop) (E:f'->j'->Prop),Q (.bool (g i j)) s->nc (l' c.prog c.w) c.A (Q6 (.int i t) (.int j u)) Q E s):
  kg c Q6 (PC λi j=>.bl (g i j)):=by
 intro pins s e H x y v u Q I a b h;obtain⟨i,j,rfl,rfl,q⟩:=h;obtain⟨t,rfl⟩:=a;obtain⟨d,rfl⟩:=b;exact rule i j t d s _ _ ⟨.bl _,H,I,rfl,q⟩
def LR(i j:Int):Prop:=0<j/\j<1073741824
def Ss(i j:Int):Prop:=0<=j/\j<=1000000/\i.natAbs<2 ^ 64
def HV(i j:Int):Prop:=(-(2 ^ 64)<i/\i<2 ^ 64)\/(-(2 ^ 64)<j/\j<2 ^ 64)
theorem HV.ok(h:HV T Q0):IntMulOk T Q0:=by
 rcases h with ⟨a,b⟩|⟨a,b⟩
 .exact .of_left (abb a b)
 .exact .of_right (abb a b)
theorem HW:kg c (Ĝ .Add) (PC λi j=>.int (i+j)):=LQ λ_ _ _ _ _ _ _ q=>add_int q
theorem DB:kg c (Ĝ .FloorDiv) (rI LR λi j=>.int (i / j)):=PD λi j _ _ _ _ _ a q=>by
 have b:=a.1;have d:=a.2;exact floordiv_int (ŭ b) (by rwa[Int.fdiv_eq_ediv_of_nonneg i (abd b)]) (.inl (PyProof.noPylong_small (by omega)))
theorem HX:kg c (Ĝ .Mod) (rI (λ_ j=>0<j) λi j=>.int (i%j)):=PD λi j _ _ _ _ _ a q=>mod_int' (ŭ a) (by rwa[Int.fmod_eq_emod_of_nonneg i (abd a)])
variable{η:VK}
theorem qu(I:Inv c E Q d s)(q:η (.bl C) d)(e:C=P1):EP c E Q η (.bool P1) s:=by
 subst e;exact⟨.bl C,d,I,rfl,q⟩
theorem xX:kg c (Ë .In) (λx y H Q=>∃i j,x=.str i/\y=.str j/\Q (.bl (!(Ů j i 0 j.length 1).isEmpty)) H):=by
 intro pins s d H x y v u Q I a b h;obtain⟨i,j,rfl,rfl,q⟩:=h;obtain⟨t,rfl⟩:=a;obtain⟨e,rfl⟩:=b;exact in_str (qu I q rfl)
theorem HY:kg c (Ë .Is) (λx y H Q=>y=.non/\Q (.bl (decide (x=.non))) H):=by
 intro pins s d H x y v u Q I a b h;obtain⟨rfl,q⟩:=h;cases b;refine is_none_gen (qu I q ?_)
 cases x<;>first
  | (obtain⟨t,rfl⟩:=a;rfl)
theorem DC:kg c (Ë .IsNot) (λx y H Q=>y=.non/\Q (.bl (!decide (x=.non))) H):=by
 intro pins s d H x y v u Q I a b h;obtain⟨rfl,q⟩:=h;cases b;refine isnot_none_gen (qu I q ?_)
 cases x<;>first
  | (obtain⟨t,rfl⟩:=a;rfl)
theorem qv:kg c (Ë .NotIn) (λx y H Q=>∃i j,x=.str i/\y=.str j/\Q (.bl (!(!(Ů j i 0 j.length 1).isEmpty))) H):=by
 intro pins s d H x y v u Q I a b h;obtain⟨i,j,rfl,rfl,q⟩:=h;obtain⟨t,rfl⟩:=a;obtain⟨e,rfl⟩:=b;exact notIn_str (qu I q rfl)
variable{C8:R2}
theorem kg.or(h:kg c Q6 E4)(h':kg c Q6 C8):kg c Q6 (λx y H Q=>E4 x y H Q\/C8 x y H Q):=by
 intro pins s a H x y v u Q I b d q;rcases q with q|q
 .exact h _ s a H x y v u Q I b d q
 .exact h' _ s a H x y v u Q I b d q
variable{M2:Ú}
theorem DD(a:kg c (Ë M2) E4)(b:PE c m υ)(d:PE c R B3)(e:Ō M2 R=false):PE c (.Compare m [M2] [R] n) (Lk E4 υ B3):=by
 intro pins s f H Q I h;exact wpAny_Compare1 (HU b d I h λv u g x y i j k l q=>a _ g f i x y v u Q j k l q) e
noncomputable def zC(t:TE):TT:=λa H Q=>t a H λx b=>∃k,x=.bl k/\Q k b
theorem DE(g:kg c (Ë M2) E4)(i:PE c m υ)(j:PE c R B3)(l:Ō M2 R=false):PT c (.Compare m [M2] [R] n) (zC (Lk E4 υ B3)):=by
 intro pins s a H Q I h
 refine wpAny_isTrue_Compare1 (cj (i _ s a H _ I h) λv o  b =>aW b λx p q r t=>cj (j _ o a p _ q t) λu w  b  =>
  aW b λy A B C D=>cj (g _ w a A x y v u _ B r C D) λf L E=>?_) l;refine aW E λz F G J d=>bV d λk e K=>?_
 subst e;cases J;exact č ⟨F,G,K⟩
noncomputable def uE(r c:R2)(d tb e:TE):TE:=λa H Q=>d a H λx f=>tb a f λy g=>r x y g λz b=>∃k,z=.bl k /\
 (if k=true then e a b λh i=>c y h i Q else Q (.bl false) b)
variable{P6:Ú}{u9:TE}
theorem zD(p:kg c (Ë M2) E4)(f:kg c (Ë P6) C8)(q:PE c m υ)(r:PE c R B3)(t:PE c G2 u9)(w:ō [M2,P6] [R,G2]=false:=by with_unfolding_all rfl):PE c (.Compare m [M2,P6] [R,G2] n) (uE E4 C8 υ B3 u9):=by
 intro pins s a H Q I h
 refine Compare_chain (cj (q _ s a H _ I h) λv A b=>?_) w;refine aW b λx B C D E=>?_;refine chain_link (cj (r _ A a B _ C E) λu F b=>
  ?_);refine aW b λy G J i K=>?_;refine cj (p _ F a G x y v u _ J D i K) λd L b=>?_;refine aW b λz j l M g=>bV g λk e o=>?_
 subst e;cases M;refine č ?_;cases k with
 |false=>exact ite_ff ⟨.bl _,j,l,rfl,o⟩
 |true=>exact ite_tt (chain_last (cj (t _ L a j _ l o) λN O  P =>aW P λS T U V X=>f _ O a T y S u N Q U i V X))
theorem zE(p:kg c (Ë M2) E4)(g:kg c (Ë P6) C8)(q:PE c m υ)(r:PE c R B3)(t:PE c G2 u9)(w:ō [M2,P6] [R,G2]=false:=by with_unfolding_all rfl):PT c (.Compare m [M2,P6] [R,G2] n) (zC (uE E4 C8 υ B3 u9)):=by
 intro pins s f H Q I h
 refine isTrue_chain (cj (q _ s f H _ I h) λv A a=>?_) w;refine aW a λx B C D E=>?_;refine test_link (cj (r _ A f B _ C E) λu F a=>
  ?_);refine aW a λy G J i K=>?_;refine cj (p _ F f G x y v u _ J D i K) λd L a=>?_;refine aW a λz j l M b=>bV b λk e o=>?_
 subst e;cases M;refine č ?_;cases k with
 |false=>
  refine bV o λk' N O=>?_
  cases N;exact ite_ff ⟨j,l,O⟩
 |true=>
  refine ite_tt (test_last (cj (t _ L f j _ l o) λP S ⟨T,H4,I4,r4,q4⟩=>cj (g _ S f H4 y T u P _ I4 i r4 q4) λd' s5 a=>?_));refine aW a λz2 U V X b=>bV b λk2 Y Z=>?_
  subst Y;cases X;exact č ⟨U,V,Z⟩
def sF(K:A')(x:V)(H:Hp)(k:Bool):Prop:=
 match x with
 |.non=>k=false
 |.bl b=>k=b
 |.int i=>k=(i != 0)
 |.str y=>y.length<=K'/\k=((y.length:Int) != 0)
 |.Li y=>y.size<=K'/\k=((y.size:Int) != 0)
 |.ref p=>(∃a,mI K H p a/\k=!a.isEmpty)\/(∃a,uA K H p a/\k=!a.isEmpty)\/∃c,H p=some (.dK c)/\k=!c.isEmpty
 |_=>False
theorem uF{κ:Type}{kvs:List (κ×V)}{a:List (κ×f')}(r:KV kvs a):(!a.isEmpty)=!kvs.isEmpty:=by
 cases r<;>rfl
variable{χ:List f'}
theorem nu(r:Vals O χ):(!χ.toArray.isEmpty)=!O.isEmpty:=by
 cases r<;>simp
theorem iJ:(K':Nat)<2 ^ 63:=by decide
theorem qw:Sr c (λx H Q=>∃k,sF c.K x H k/\Q k H):=by
 intro pins s C H x v Q I j h;obtain⟨k,e,q⟩:=h;have D:=iJ;have E:K'=16777216:=þ;cases x with
 |non=>
  cases j;have a:k=false:=e;subst a;exact truthy_none ⟨H,I,q⟩
 |bl b=>
  cases j;have a:k=b:=e;subst a;exact č ⟨H,I,q⟩
 |int i=>
  obtain⟨t,rfl⟩:=j;have a:k=(i != 0):=e;subst a;exact abe ⟨H,I,q⟩
 |str y=>
  obtain⟨t,rfl⟩:=j;obtain⟨A,a⟩:y.length<=K'/\k=((y.length:Int) != 0):=e;subst a;exact abf (by omega) ⟨H,I.tok _,q⟩
 |Li y=>
  obtain⟨t,rfl⟩:=j;obtain⟨A,a⟩:y.size<=K'/\k=((y.size:Int) != 0):=e;subst a;exact PySem.W.truthy_bytes (eV A) ⟨H,I.tok _,q⟩
 |ref p=>
  cases j;have a:(∃g,mI c.K H p g/\k=!g.isEmpty)\/(∃g,uA c.K H p g/\k=!g.isEmpty)\/∃d,H p=some (.dK d)/\k=!d.isEmpty:=e;rcases a with ⟨g,l,a⟩|⟨g,l,a⟩|⟨d,l,a⟩
  .subst a
   obtain⟨o,r,u,z⟩:=I.list l;have f:=r.length;exact abg u.isList (by simp only[Ð];omega) ⟨H,I.tok _,by rw[nu r];exact q⟩
  .subst a
   obtain⟨o,r,u,z⟩:=I.tuple l;have f:=r.length;exact truthy_tuple u (by simp only[Ð];omega) ⟨H,I.tok _,by rw[nu r];exact q⟩
  .subst a
   obtain⟨z,B,n,r,m⟩:d.length<=K'/\(p==æ)=false/\∃n,KV d n/\s.heap.DictOf (cR c.prog c.w) p n:=I.hok p _ l;have f:d.length=n.length:=ń r;exact wpAny_truthy_dict B m (HF (B' (V' f.symm) z)) ⟨H,I.tok _,by rw[uF r];exact q⟩
 |_=>exact(show False from e).elim
theorem sG(e:PE c m υ)(f:∀a,į m c.env a=(do let v ←a;Þ m.pos;ß [v] (ŋ v))):
  PT c m (λb H Q=>υ b H λx d=>∃k,sF c.K x d k/\Q k d):=by
 intro pins s b H Q I h;exact isTrue_plain (cj (e _ s b H _ I h) λv g  i =>aW i λx j l n o=>qw _ g b j x v Q l n o) (f _)
theorem uG:kg c (Ĝ .Add) (λx y H Q=>∃i j,x=.str i/\y=.str j/\i.length+j.length<=K'/\Q (.str (i++j)) H):=by
 intro pins s f H x y v u Q I a b h;obtain⟨i,j,rfl,rfl,d,q⟩:=h;obtain⟨t,rfl⟩:=a;obtain⟨e,rfl⟩:=b;exact add_str (λe g=>⟨.str _,H,I.tok _,⟨_,rfl⟩,q⟩) d
theorem vals1(r:Vals [x] χ):∃u,χ=[u]/\RelV x u:=by
 cases r with
 |cons b a=>cases a;simp_all
variable{M1:V}
theorem vals2(r:Vals [x,M1] χ):∃u a,χ=[u,a]/\RelV x u/\RelV M1 a:=by
 cases r with
 |cons d b=>
  cases b with
  |cons e c=>cases c;grind
structure zF(h:y')(x dx C:b')(mA:Str->Option f'):Prop where
 obj:h.get? x=some (ĭ C dx)
 ns:h.Ns1 dx mA
 ne:dx≠x
variable{Y:Str->Option f'}
theorem gD(n:z.Ns1 h Y):∃od,z.get? h=some od/\∀name,ů name od=some (Y name):=by
 refine dI n λo f l g i j b=>xa b λ_ k=>?_
 refine⟨o,g,λname=>?_⟩
 have e:=k name;unfold nsFind findBy at e;unfold ů;rw[i];dsimp only;split
 .simp_all
 .have a:f.toList.any (·.refKey)=false:=by
   rw[List.any_eq_false];intro y m;refine xe (j y (by simp_all)) λd b=>xe b λt c=>?_
   simp[acX,c]
  grind
variable{Δ:b'}
theorem zF.look(a:zF z h I Δ Y):∃od,Ϩ z h (ĭ Δ I) Δ (some od)/\∀name,ů name od=some (Y name):=
 bV (gD a.ns) λod b c=>⟨od,⟨a.obj,rfl,rfl,b⟩,c⟩
theorem DF{s:j'}(c:A.In s.heap)(a:zF s.heap h I Δ Y)(m:Ä A (.ref Δ) "__setattr__"=some (some (.builtin "object.__setattr__")))(n:ϩ A Δ=true)(o:Ϫ A Δ e=some none)(p:ĝ A Δ=true)(q:ϡ Y l)(r:l.length<=K')(d:∀h',zF h' h I Δ (λy=>if y=e then some N else Y y)->ņ I s.heap h'->A3 () {s with heap:=h',toks:=s.toks+2}):
  nc (l' B G) X (Ű (.ref h) e N) A3 ζ s:=by
 refine bV a.look λz J C=>?_
 refine abh c J m (PySem.W.osa_open c J n o λb=>?_)
 refine bV (ű p) λD t i=>?_
 refine p' (U' (p' (p' (ϫ a.obj (p' (abi (Ϭ c t) ?_))))));rw[i];refine U' (p' (U' (p' ?_)));refine wpAny_nsSet1 a.ns λh' f g=>?_
 refine cB (f.count (abj _ N q)) λE u w j k x=>?_
 refine p' (abk j (by rw[k];exact abl (by grind)) ?_)
 exact U' (d _ ⟨(g.2 _ (ZT a.ne)).trans a.obj,f,a.ne⟩ g)
variable{P9:List (Str×f')}{n5:Ų->j'->Prop}
theorem zG{s:j'}(a:A.In s.heap)(c:ϭ A h=true)(d:Ä A (.ref h) "__init__"=some (some (.ref I)))(e:Ϯ A (.ref I)=some (.type "function"))(b:Ñ (l' B G) (X.under (.builtin "type.__call__" ⟨.ref h::χ,P9⟩)) (.call (.ref I) ⟨.ref (s.heap.objs.size+1)::χ,P9⟩) (ϯ (s.heap.objs.size+1) n5)
   {s with heap:=(s.heap.push ų).push (ĭ h s.heap.objs.size)}):
  Ñ (l' B G) X (.call (.ref h) ⟨χ,P9⟩) n5 s:=PySem.W.make_core (PySem.W.makes_of a c) (Ŵ a d) (λself=>abm a _ e) (.inl rfl) b
noncomputable def iK(f:Str)(v:V):List (Str×V)->List (Str×V)
 |[]=>[(f,v)]
 | (g,x)::r=>if g=f then (g,v)::r else (g,x)::iK f v r
theorem lS(f g:Str)(v:V):∀a:List (Str×V),(iK f v a).lookup g=if g=f then some v else a.lookup g
 |[]=>by
  show Ŏ g [(f,v)]=_
  grind
 | (k,x)::r=>by
  have b:=lS f g v r;rw[show iK f v _=(if k=f then (k,v)::r else (k,x)::iK f v r)from rfl]
  grind
theorem la(f:Str)(v:V):∀a:List (Str×V),f∈(iK f v a).map (·.1)/\∀g,g∈a.map (·.1)->g∈(iK f v a).map (·.1)
 |[]=>⟨by simp[iK],by simp⟩
 | (k,x)::r=>by
  obtain⟨b,i2⟩:=la f v r;rw[show iK f v _=(if k=f then (k,v)::r else (k,x)::iK f v r)from rfl]
  grind
theorem lT(f:Str)(v:V):∀a:List (Str×V),(iK f v a).length<=a.length+1
 |[]=>by simp[iK]
 | (k,x)::r=>by
  have b:=lT f v r;rw[show iK f v _=(if k=f then (k,v)::r else (k,x)::iK f v r)from rfl]
  grind
variable{T4:Option f'}
theorem iI.some_of(r:iI (some x) T4):∃u,T4=some u/\RelV x u:=by
 cases T4 with
 |none=>exact(r).elim
 |some u=>exact⟨u,rfl,r⟩
theorem iI.none_of(r:iI none T4):T4=none:=by
 cases T4 with
 |none=>rfl
 |some u=>exact(r).elim
theorem lb(r:RelV x N):abn N=true:=by
 cases x with
 |non=>cases (r);rfl
 |bl b=>cases (r);rfl
 |int i=>obtain⟨t,e⟩:=(r);cases e;rfl
 |str c=>obtain⟨t,e⟩:=(r);cases e;rfl
 |Li b=>obtain⟨t,e⟩:=(r);cases e;rfl
 |flt b=>obtain⟨t,e⟩:=(r);cases e;rfl
 |ref a=>cases (r);rfl
 |ty n=>cases (r);rfl
variable{i4:List (Str×V)}
theorem mJ(g:iE B G d z)(e:d h=some (.ins I Δ i4)):∃a,zF z h Δ I a/\(∀f,iI (i4.lookup f) (a f))/\ϡ a (i4.map (·.1))/\i4.length<=1000/\d Δ=some (.own h):=by
 refine iF (g h _ e) λb c ne j i=>bF i λa n r q=>⟨a,⟨j,n,ne⟩,r,q,c,b⟩
structure lg(K:A')(C:b'):Prop where
 pg:ϰ K C abo=true
 hd:ĝ K C=true
 po:ϩ K C=true
 sa:Ä K (.ref C) "__setattr__"=some (some (.builtin "object.__setattr__"))
theorem lg.get(c:lg A h)(f:Str):ϰ A h f=true:=c.pg
def dw(K:A')(C:b')(f:Str):Prop:=Ä K (.ref C) f=some none
theorem dw.taker(n:dw A h e):Ϫ A h e=some none:=by
 unfold Ϫ;rw[n];rfl
structure Meth(K:A')(C:b')(m:Str)(f:b'):Prop where
 at_:Ä K (.ref C) m=some (some (.ref f))
 fn:ŵ K (.ref f)=true
 kp:Z_ K (.ref f)=true
theorem uH(a:Inv c E Q d s)(f:d h=some (.ins I Δ i4))(b:lg c.K I)(n:dw c.K I e)(l:i4.lookup e=some x)(g:∀u j,Inv c E Q d j->RelV x u->v3 u j):nc (l' c.prog c.w) X (ŏ (.ref h) e C) v3 ζ s:=by
 refine eE (mJ a.hok f) λm O r _ i=>xa i λ_ _=>?_
 obtain⟨u,o,k⟩:=iI.some_of (x:=x) (T4:=m e) (by grind)
 obtain⟨q,J,p⟩:=O.look;exact PySem.W.get_value a.fg J (ϱ (b.get e)).1 (ϲ b.hd n rfl (by rw[p,o])) (lb k) (g u _ (a.tok _) k)
variable{E1:b'}
theorem gU{pl:Ø Bool}{a:f'×List f'->j'->Prop}(b:Inv c E Q d s)(g:d h=some (.ins I Δ i4))(f:lg c.K I)(k:Meth c.K I e E1)(l:i4.lookup e=none)(i:a (.ref E1,[.ref h]) s):nc (l' c.prog c.w) X (ê (.ref h) e pl) a ζ s:=by
 refine eE (mJ b.hok g) λm O r _ j=>xa j λ_ _=>?_
 have o:m e=none:=iI.none_of (by grind)
 refine bV O.look λn J p=>PySem.W.method_fn b.fg J (ϱ (f.get e)).1 (ϱ (f.get e)).2 k.at_ (beq_iff_eq.mp k.fn) (by show(ů _ n).map _=some _;simp_all) i
theorem uI(a:Inv c E Q d s)(i:d h=some (.ins I Δ i4))(f:lg c.K I)(n:dw c.K I e)(m:i4.length<1000)(y:RelV x N)(j:∀p,Inv c E Q (upd d h (.ins I Δ (iK e x i4))) p->A3 () p):nc (l' c.prog c.w) X (Ű (.ref h) e N) A3 ζ s:=by
 refine eE (mJ a.hok i) λJ O r t k=>xa k λ_ u=>?_
 have A:(i4.map (·.1)).length<=K':=by rw[ZZ,þ];exact LI m
 refine DF a.fg O f.sa f.po n.taker f.hd t A λB l C=>j _ ?_
 have D:∃o,B.get? Δ=some o:=fo (l.ns) λo _ _ F _=>⟨o,F⟩
 refine a.write (by rw[i];exact ë) (.inr u) (λb q G z=>(C.2 b G).trans z) D ?_
 refine⟨by rw[ax O.ne];exact u,?_,O.ne,l.obj,_,l.ns,λg=>?_,λg H=>?_⟩
 .have:=lT e x i4;exact B' this m
 .rw[lS]
  by_cases q:g=e
  .rw[if_pos q,if_pos q];exact y
  simp_all
 .by_cases q:g=e
  .rw[q];exact(la e x i4).1
  .refine(la e x i4).2 g (t g λz=>H ?_)
   simp_all
theorem Inv.made{s:j'}(I:Inv c E Q d s):Inv c E Q (upd (upd d s.heap.objs.size (.own (s.heap.objs.size+1))) (s.heap.objs.size+1) (.ins h s.heap.objs.size []))
  {s with heap:=(s.heap.push ų).push (ĭ h s.heap.objs.size)}:=by
 have a:(s.heap.push _).get? _=some ų:=Ê _ rfl;have f:=I.laid (o:=.own (s.heap.objs.size+1)) (t':=s.toks) (λb u q=>ZQ _ q) (M' _) ⟨_,a⟩
 refine f.laid (λb u q=>ZQ _ q) (by simp) ?_
 have ne:s.heap.objs.size≠s.heap.objs.size+1:=Q' (by simp)
 refine⟨by rw[ax ne,aR],Ì _,ne,(by
  have:=Ê (s.heap.push ų) (o:=ĭ h s.heap.objs.size) rfl;rwa[abp]at this),_,(abq ⟨_,_,_,a,rfl,(λe g=>absurd g (by simp)),λ_=>rfl⟩).at λo q=>ZQ _ q,λ_=>ë,λy i=>absurd rfl i⟩
variable{m4:ZR}
theorem qx(b:ì m e m4 (eval m m4)=eval m m4)(h:nc (l' B G) X (eval m m4) (λo a=>nc (l' B G) X (ŏ o e true) v3 ζ a) ζ s):nc (l' B G) X (eval (.Attribute m e n) m4) v3 ζ s:=
 Attribute_any_ h (by rw[arm_eval_Attribute,b])
noncomputable def Su(K:A')(d:TE)(f:Str):TE:=λe H Q=>d e H λx b=>∃a C g c v,x=.ref a/\b a=some (.ins C g c)/\lg K C/\dw K C f/\c.lookup f=some v/\Q v b
def Sv(K:A')(g h:TE)(f:Str):TS:=λD b H=>h b H λy i=>g b i λx d=>∃a C e c,x=.ref a/\d a=some (.ins C e c)/\lg K C/\dw K C f/\c.length<1000 /\
 D.nx b (upd d a (.ins C e (iK f y c)))
theorem HZ(f:PE c m υ)(g:ì m e c.env (eval m c.env)=eval m c.env):PE c (.Attribute m e n) (Su c.K υ e):=by
 intro pins s i H Q I h;refine qx g (cj (f _ s i H _ I h) λu z j=>?_);obtain⟨x,k,o,p,a,C,A,B,v,r,t,b,d,l,q⟩:=j
 subst r;obtain rfl:u=À a:=p;exact uH o t b d l λD E w y=>⟨v,k,w,y,q⟩
theorem H_(i:PE c m υ)(j:PE c R B3)(k:Ù R (some (.Attribute m e J)) n.line c.env=pure false):PS c (.Assign [.Attribute m e J] R n) (Sv c.K υ B3 e):=by
 intro pins s f H D I h;refine abr (cj (j _ s f H _ I h) λu o g=>?_) k;refine aW g λy p r t q=>?_;refine cj (i _ o f p _ r q) λw L g=>?_;obtain⟨x,M,z,A,a,C,N,O,B,E,b,d,l,F⟩:=g
 subst B;obtain rfl:w=À a:=A;exact uI z E b d l t λP G=>⟨f,_,G,F⟩
inductive mr (K:A') (H:Hp):V->f'->Prop where
 |non:mr K H .non (.type "NoneType")
 |bl (x:Bool):mr K H (.bl x) (.type "bool")
 |int (i:Int):mr K H (.int i) (.type "int")
 |str (x:Str):mr K H (.str x) (.type "str")
 |flt (x:UInt64):mr K H (.flt x) (.type "float")
 |lst {a:b'}{xs:List V} (e:H a=some (.lst xs)):mr K H (.ref a) (.type "list")
 |cZ {a:b'}{o:Obj}{xs:List V} (e:H a=some (.cZ o (.lst xs))):mr K H (.ref a) (.type "list")
 |tup {a:b'}{xs:List V} (e:H a=some (.tup xs)):mr K H (.ref a) (.type "tuple")
 |dK {a:b'}{kvs:List (Key×V)} (e:H a=some (.dK kvs)):mr K H (.ref a) (.type "dict")
 |dT {a:b'}{kvs:List (List Key×V)} (e:H a=some (.dT kvs)):mr K H (.ref a) (.type "dict")
 |ins {a C dx:b'}{fs:List (Str×V)} (e:H a=some (.ins C dx fs)) (cl:lg K C) (ha:Ä K (.ref C) "__class__"=some (some (.builtin "object.__class__")))
   (hn:Ğ K (.builtin "object.__class__") "__get__"=some (some (.builtin "getset_descriptor.__get__"))) (htk:Ő K (.builtin "object.__class__")=some true)
   (hm:ő K C (.type "object")=some true):mr K H (.ref a) (.ref C)
variable{D5 N2:f'}
theorem cX{s:j'}(I:Inv c E Q d s)(f:RelV x N2)(A:mr c.K d x D5)(e:à c.K D5 N=some C)(h:∀B,v3 (.bool C) {s with toks:=B}):
  nc (l' c.prog c.w) X (call (.builtin "isinstance") [N2,N]) v3 ζ s:=by
 cases A with
 |non=>cases (f);exact á PySem.W.kitx_none I.fg ë e (λz=>nomatch z) h
 |bl y=>cases (f);exact á PySem.W.kitx_bool I.fg ë e (λz=>nomatch z) h
 |int i=>obtain⟨D5,q⟩:=(f);cases q;exact á PySem.W.kitx_int I.fg ë e (λz=>nomatch z) h
 |str y=>obtain⟨D5,q⟩:=(f);cases q;exact á PySem.W.kitx_str I.fg ë e (λz=>nomatch z) h
 |flt y=>obtain⟨D5,q⟩:=(f);cases q;exact á PySem.W.kitx_float I.fg ë e (λz=>nomatch z) h
 |@lst a l g=>
  cases (f);refine xa (I.hok a _ g) λ_ b=>cF b λ_ n _ j=>?_
  exact á abt I.fg ⟨_,j,rfl⟩ e (λz=>nomatch z) h
 |@cZ a M l g=>
  cases (f);refine ur (I.hok a _ g) λ_ _ b=>cF b λ_ n _ j=>?_
  exact á abt I.fg ⟨_,j,rfl⟩ e (λz=>nomatch z) h
 |@tup a l g=>
  cases (f);refine xa (I.hok a _ g) λ_ b=>bV b λ_ _ p=>?_
  refine bF p λo j k _=>?_
  exact á ϳ I.fg ⟨o,j,k⟩ e (λz=>nomatch z) h
 |@dK a m g=>
  cases (f);refine iG (I.hok a _ g) λ_ _ P _ p=>?_
  refine cB p λo D F j k _=>?_
  exact á abu I.fg ⟨o,j,k.1⟩ e (λz=>nomatch z) h
 |@dT a m g=>
  cases (f);refine iG (I.hok a _ g) λ_ _ l _ b=>cB b λo D F j k _=>?_
  exact á abu I.fg ⟨o,j,k.1⟩ e (λz=>nomatch z) h
 |@ins a t R S g u G H r L=>
  cases (f);refine bV (mJ I.hok g) λT O _=>?_
  refine bV O.look λU J _=>?_
  exact á (PySem.W.kitx_own (u.get _) u.hd G H r L) I.fg J e (λz=>nomatch z) h
structure bA(k:Nat)(A:ZW):Prop where
 hd:A.handled=none
 dp:A.depth+3*k+5<recursionLimit
 un:A.units+16*k+200<ZU
theorem bA.mono(r:bA w X)(h:b<=w):bA b X:=⟨r.hd,by have:=r.dp;omega,by have:=r.un;omega⟩
theorem bA.deeper{k:Nat}{A:ZW}(r:bA (k+1) A)(a:ZR):bA k (A.deeper a):=
 ⟨r.hd,by have:=r.dp;show A.depth+1+3*k+5<_;omega,by have:=r.un;show A.units+3+16*k+200<_;omega⟩
theorem uJ:(X.under (.builtin "type.__call__" ⟨.ref h::χ,P9⟩)).depth=X.depth+1:=by
 rfl
theorem uK:(X.under (.builtin "type.__call__" ⟨.ref h::χ,P9⟩)).units=X.units+1:=by
 rfl
theorem bA.make(r:bA (b+1) X)(C:b')(a:List f')(c:List (Str×f')):bA b (X.under (.builtin "type.__call__" ⟨.ref C::a,c⟩)):=
 ⟨r.hd,by have:=r.dp;rw[uJ];omega,by have:=r.un;rw[uK];omega⟩
theorem bA.depth{k:Nat}{A:ZW}(r:bA k A):A.depth<recursionLimit:=by have:=r.dp;omega
theorem bA.units{k:Nat}{A:ZW}(r:bA k A):A.units+64<ZU:=by have:=r.un;omega
noncomputable def LS:TA:=λ_ H Q=>Q [] H
noncomputable def LU(b:TE)(c:TA):TA:=λa H Q=>b a H λx d=>c a d λe f=>Q (x::e) f
theorem qy:PA c [] LS:=λ_ _ _ _ H Q I h=>Ŷ ⟨[],H,I,.nil,h⟩
theorem gj(d:PE c m υ)(e:PA c L Q2)(f:x' (m::L) c.env=(false,eval m c.env)::x' L c.env:=by rfl):PA c (m::L) (LU υ Q2):=by
 intro g pins s b H Q I h;rw[f];refine Œ (cj (d _ s b H _ I h) λu i  a =>aW a λx j k l n=>cj (e _ _ i b j _ k n) λt w  a =>aW a λy o p q r=>⟨_,o,p,.cons l q,r⟩)
def Sw(t:TA):TE:=λc H Q=>t c H λa b=>a.length<=K'/\∀p,b p=none->Q (.ref p) (upd b p (.tup a))
def Sx(t:TA):TE:=λc H Q=>t c H λa b=>a.length<=K'/\∀p,b p=none->Q (.ref p) (upd b p (.lst a))
theorem Ia{x1}(h:PA c L Q2):PE c (.Tuple L x1 n) (Sw Q2):=by
 intro pins s d H Q I f;refine wpAny_Tuple_spliced (cj (h _ _ s d H _ I f) λg j  i =>bS i λk l a r z q=>⟨by rwa[←r.length],?_⟩)
 refine⟨.ref _,_,a.laid (λb u e=>ZQ _ e) (M' _) ?_,rfl,q _ (a.hok.fresh (M' _))⟩
 exact⟨z,g,r,⟨_,Ê _ rfl,rfl,_,rfl⟩⟩
theorem Ib(h:PA c L Q2):PE c (.List L n) (Sx Q2):=by
 intro pins s d H Q I f;refine wpAny_List_spliced (cj (h _ _ s d H _ I f) λg j  i =>bS i λk l a r z q=>⟨by rwa[←r.length],?_⟩)
 refine⟨.ref _,_,a.laid (λb u e=>ZQ _ e) (M' _) ?_,rfl,q _ (a.hok.fresh (M' _))⟩
 exact⟨z,g,0,r,Ê _ rfl⟩
abbrev Sp:=List V->Hp->VK->XK->Prop
abbrev zl:=List ZR->Hp->j'->XK->f'->j'->Prop
structure qz(P:X')(w:O')(K:A')(mg:Str->Option f')(base:y')(A:ZW)(outer:List ZR)(s:j')(H:Hp):Prop where
 frames:A.frames=some outer
 mod:Mod K mg base
 bs:∀b o,base.get? b=some o->s.heap.get? b=some o/\H b=none
 vF:base.objs.size<=s.heap.objs.size
 iz:s.heap.FunFrames base outer
 zk:∀b∈frs outer,H b=none
 hok:iE P w H s.heap
 bare:ó s.gens
def CE(outer:List ZR)(P:X')(w:O')(H:Hp)(s:j')(Q:VK)(u:f')(a:j'):Prop:=
 ∃v b,a.os=s.os/\ó a.gens/\Un (frs outer) [] H b s.heap a.heap/\iE P w b a.heap/\RelV v u/\Q v b
def CR(CX:zl)(outer:List ZR)(P:X')(w:O')(H:Hp)(s:j')(Q:VK)(E:XK)(r:Ų)(a:j'):Prop:=
 match r with
 |.ok (.ret u)=>CE outer P w H s Q u a
 |.ok _=>False
 |.error e=>CX outer H s E e a
structure bq(P:X')(w:O')(K:A')(mg:Str->Option f')(base:y')(CX:zl)(k:Nat)(f:b')(fd:N')(ps:List Str)(sp:Sp):Prop where
 len:∀vs H Q E,sp vs H Q E->vs.length=ps.length
 run:∀(A:ZW) (outer:List ZR) (s:j') (H:Hp) (args:Args) (us:List f') (vs:List V) (Q:VK) (E:XK),bA k A->qz P w K mg base A outer s H->ô s fd args (ps.zip us)->Vals vs us->sp vs H Q E ->
  Ñ (l' P w) A (.call (.ref f) args) (CR CX outer P w H s Q E) s
theorem bq.mono{P:X'}{w:O'}{K:A'}{a:Str->Option f'}{base:y'}{CX:zl}{j k:Nat}{f:b'}{b:N'}{c:List Str}{sp:Sp}(F:bq P w K a base CX j f b c sp)(h:j<=k):
  bq P w K a base CX k f b c sp:=⟨F.len,λA outer s H args d e Q E g=>F.run A _ s H _ d e Q E (g.mono h)⟩
variable{Q4:zl}{T2:Sp}{θ:N'}
theorem bq.imp{d:Sp}(F:bq B G A Y z Q4 b h θ l T2)(a:∀c H Q E,d c H Q E->T2 c H Q E):bq B G A Y z Q4 b h θ l d:=
 ⟨λc H Q E q=>F.len c H Q E (a _ _ _ _ q),λe outer s H args f c Q E g i j k m=>F.run e _ s H _ f c Q E g i j k (a _ _ _ _ m)⟩
variable{Y4:List ZR}
theorem qz.make(e:qz B G A Y z X Y4 s d)(C:b')(a:List f')(b:List (Str×f')):
  qz B G A Y z (X.under (.builtin "type.__call__" ⟨.ref C::a,b⟩)) Y4 s d:=⟨by first|exact e.frames,e.mod,e.bs,e.vF,e.iz,e.zk,e.hok,e.bare⟩
theorem Inv.env0(I:Inv c E Q d s):qz c.prog c.w c.K c.mg c.base c.A c.stack s d:=
 ⟨I.ok.frames,I.ok.mod,I.bs,B' I.ok.vF I.sz,I.stack,I.kh,I.hok,I.bare⟩
theorem Inv.after(I:Inv c E Q d s)(h:CE c.stack c.prog c.w d s η N T6):EP c E Q η N T6:=by
 refine gi h λv j k bare l a e=>xa e λr q=>?_
 obtain⟨m,g,i,t,f⟩:=T6;obtain rfl:f=s.os:=k;exact⟨v,j,I.call l a bare (λb z=>absurd z (by simp)),r,q⟩
noncomputable def LV(sp:Sp)(a:List V)(E:XK)(t:TA):TE:=λb H Q=>t b H λc d=>sp (c++a) d Q E
noncomputable def GP(C:b')(m:Str)(sp:Sp)(b:List V)(E:XK)(f:TE)(t:TA):TE:=λc H Q=>f c H λx d=>∃a g e,x=.ref a/\d a=some (.ins C g e)/\e.lookup m=none /\
 t c d λh i=>sp (x::(h++b)) i Q E
def LW(C:b')(sp:Sp)(b:List V)(E:XK)(t:TA):TE:=λd H Q=>t d H λe c=>∀x a,c x=none->c a=none->a≠x ->
 sp (.ref x::(e++b)) (upd (upd c a (.own x)) x (.ins C a [])) (λv f=>v=.non/\Q (.ref x) f) E
def Binds(K:A')(d:N')(b:List Str)(c:List f'):Prop:=
 ∀(s:j') (a:List f'),K.In s.heap->(a++c).length=b.length->ô s d ⟨a,[]⟩ (b.zip (a++c))
theorem Binds.all(h:∀a:List f',a.length=l.length->ı θ ⟨a,[]⟩=pure (l.zip a)):Binds A θ l []:=λs a _ b=>by
 rw[í]at b ⊢;exact .of_eq (h a b)
def Passes(CX:zl)(X:Cx)(E:XK):Prop:=∀(pins:List (b'×Obj)) (b:St) (H:Hp) (s:j') (e:f') (a:j'),Inv X pins b H s->CX X.stack H s E e a->X.xe e a
variable{S0:XK}{W4:List f'}
theorem qC(F:bq c.prog c.w c.K c.mg c.base Q4 b h θ l T2)(i:bA b c.A)(j:Binds c.K θ l χ)(k:Vals O χ)(m:Passes Q4 c S0)(I:Inv c E Q d s)(r:Vals F4 W4)(a:T2 (F4++O) d η S0):nc (l' c.prog c.w) c.A (call (.ref h) W4) (EP c E Q η) c.xe s:=by
 have g:=r.append k;refine ą (ÿ (F.run _ _ s d ⟨W4,[]⟩ _ _ η S0 i I.env0 (j s W4 I.fg (by rw[←g.length];exact F.len _ _ _ _ a)) g a) λr n f=>?_)
 cases r with
 |error e=>exact m _ Q d s e n I f
 |ok fl=>
  cases fl with
  |ret u=>exact I.after f
  |next=>exact Ò f
  |brk=>exact Ò f
  |cont=>exact Ò f
theorem qD(F:bq c.prog c.w c.K c.mg c.base Q4 b h θ l T2)(i:bA b c.A)(j:Gl c e)(k:c.mg e=some (.ref h))(o:Z_ c.K (.ref h)=true)(p:Binds c.K θ l χ)(t:Vals O χ)(u:Passes Q4 c S0)(x:PA c (m::L) Q2)(d:(e==("__debug__":Str))=false:=by decide)(y:x' (m::L) c.env=(false,eval m c.env)::x' L c.env:=by rfl)(f:(ZP J (x' L c.env)).any (·.1)=false:=by rfl):
  PE c (.Call (.Name e n) (m::L) [] J) (LV T2 O S0 Q2):=by
 intro pins s z H Q I a;refine Ć (eW I j k ?_ d);refine ğ I.ok.mod.zt o (cj (x _ _ s z H _ I a) λC D  B =>aW B λE G g r q=>⟨g.fg,qC F i p t u g r q⟩) y f
theorem DG{pl:Ø Bool}(C:PE c R υ)(f:lg c.K I)(p:Meth c.K I e h)(F:bq c.prog c.w c.K c.mg c.base Q4 b h θ l T2)(D:bA b c.A)(E:Binds c.K θ l χ)(G:Vals O χ)(M:Passes Q4 c S0)(N:PA c (m::L) Q2)(j:x' (m::L) c.env=(false,eval m c.env)::x' L c.env:=by rfl)(k:(ZP n (x' L c.env)).any (·.1)=false:=by rfl)(P:eval (.Call (.Attribute R e J) (m::L) [] n) c.env=(do
   let t ←eval R c.env
   Þ J.atName
   let (h,first) ←ß [t] (ê t e pl)
   õ n h first (ZP n (x' (m::L) c.env)) (â n (ã [] c.env))):=by rfl):
  PE c (.Call (.Attribute R e J) (m::L) [] n) (GP I e T2 O S0 υ Q2):=by
 intro pins s y H Q d g;refine œ (cj (C _ s y H _ d g) λu S T=>?_) P;refine aW T λx U z V o=>dI o λa dx fs X Y i q=>?_
 subst X;obtain rfl:u=À a:=V;refine gU z Y f p i ?_;refine ğ d.ok.mod.zt p.kp (cj (N _ _ S y U _ z q) λus s2  Z =>aW Z λvs H2 B r q2=>⟨B.fg,?_⟩) j k
 exact qC (F4:=.ref a::vs) F D E G M B (.cons rfl r) q2
theorem zH{pl:Ø Bool}(r:PE c m υ)(d:lg c.K I)(o:Meth c.K I e h)(F:bq c.prog c.w c.K c.mg c.base Q4 b h θ l T2)(t:bA b c.A)(y:Binds c.K θ l χ)(z:Vals O χ)(B:Passes Q4 c S0)(C:eval (.Call (.Attribute m e J) [] [] n) c.env=(do
   let p ←eval m c.env
   Þ J.atName
   let (h,first) ←ß [p] (ê p e pl)
   õ n h first (ZP n (x' [] c.env)) (â n (ã [] c.env))):=by rfl):
  PE c (.Call (.Attribute m e J) [] [] n) (GP I e T2 O S0 υ LS):=by
 intro pins s D H Q f g;refine œ (cj (r _ s D H _ f g) λu N E=>?_) C;refine aW E λx P j G k=>dI k λa R S L M i q=>?_
 subst L;obtain rfl:u=À a:=G;refine gU j M d o i (ϴ j.fg o.kp (qC (F4:=[.ref a]) F t y z B j (.cons rfl .nil) q))
structure Mk(K:A')(C f:b'):Prop where
 makes:ϭ K C=true
 init:Ä K (.ref C) "__init__"=some (some (.ref f))
 fn:ŵ K (.ref f)=true
 kp:Z_ K (.ref C)=true
theorem sH(M:Mk c.K I h)(F:bq c.prog c.w c.K c.mg c.base Q4 b h θ l T2)(n:bA (b+1) c.A)(o:Binds c.K θ l χ)(p:Vals O χ)(q:Passes Q4 c S0)(a:Inv c E Q d s)(r:Vals F4 W4)(g:∀x i,d x=none->d i=none->i≠x->T2 (.ref x::(F4++O)) (upd (upd d i (.own x)) x (.ins I i [])) (λv t=>v=.non/\η (.ref x) t) S0):
  nc (l' c.prog c.w) c.A (call (.ref I) W4) (EP c E Q η) c.xe s:=by
 have k:=g _ _ (a.hok.fresh (ä _)) (a.hok.fresh (M' _)) (by simp)
 have j:=Inv.made (h:=I) a;have m:Vals (V.ref (s.heap.objs.size+1)::(F4++O)) _:=.cons rfl (r.append p)
 refine ą (zG a.fg M.makes M.init (beq_iff_eq.mp M.fn) (ÿ (F.run _ _ _ _ ⟨_,[]⟩ _ _ _ S0 (n.make I W4 [])
  (j.env0.make I W4 []) (o _ _ j.fg (by
  have e:=m.length;rw[F.len _ _ _ _ k]at e;exact e.symm)) m k) λr y f=>?_))
 cases r with
 |error e=>exact q _ Q _ _ e y j f
 |ok fl=>
  cases fl with
  |ret u=>
   refine bS (j.after f) λv z B C D G=>?_
   subst D;exact⟨C,⟨V.ref _,z,B,rfl,G⟩⟩
  |next=>exact Ò f
  |brk=>exact Ò f
  |cont=>exact Ò f
theorem DH(M:Mk c.K I h)(F:bq c.prog c.w c.K c.mg c.base Q4 b h θ l T2)(j:bA (b+1) c.A)(k:Gl c e)(o:c.mg e=some (.ref I))(p:Binds c.K θ l χ)(t:Vals O χ)(u:Passes Q4 c S0)(x:PA c (m::L) Q2)(f:(e==("__debug__":Str))=false:=by decide)(y:x' (m::L) c.env=(false,eval m c.env)::x' L c.env:=by rfl)(g:(ZP J (x' L c.env)).any (·.1)=false:=by rfl):
  PE c (.Call (.Name e n) (m::L) [] J) (LW I T2 O S0 Q2):=by
 intro pins s z H Q a d;refine Ć (eW a k o ?_ f);refine ğ a.ok.mod.zt M.kp (cj (x _ _ s z H _ a d) λC D B=>?_) y g;refine aW B λE G i r q=>?_;refine⟨i.fg,sH M F j p t u i r q⟩
structure gV(N P:List Str)(sc:T'):Prop where
 kind:sc.kind=.function
 co:sc.isCoroutine=false
 gen:sc.isGenerator=false
 nd:N.Nodup
 pre:N.take P.length=P
 par:∀x∈P,sc.names.lookup x=some .local\/sc.names.lookup x=some .cell
 Ic:∀y∈sc.names,y.2≠.free
theorem pk{kindOf:Str->Option Ŕ}{x:Str}:∀{binds:List (Str×f')}{m:Str->Option f'},(∀v,(x,v)∉binds)->Ġ kindOf binds m x=m x
 |[],_,_=>rfl
 | (n,v)::r,m,h=>by
  unfold Ġ;rw[pk (by grind)]
  split
  .grind
  .rfl
theorem pq{kindOf:Str->Option Ŕ}{x:Str}:∀{binds:List (Str×f')}{m:Str->Option f'},(∀v,(x,v)∉binds)->ġ kindOf binds m x=m x
 |[],_,_=>rfl
 | (n,v)::r,m,h=>by
  unfold ġ;rw[pq (by grind)]
  split
  .rfl
  grind
theorem pv{kindOf:Str->Option Ŕ}{x:Str}{v:f'}:∀{P:List Str}{a:List f'}{i:Nat}{m:Str->Option f'},P.Nodup->P[i]?=some x->a[i]?=some v->kindOf x=some .local ->
  Ġ kindOf (P.zip a) m x=some v
 |[],_,_,_,_,h,_,_=>by simp at h
 |_::_,[],_,_,_,_,h,_=>by simp at h
 |p::P,w::a,0,m,c,b,d,e=>by
  simp at b d;subst b;subst d
  show Ġ _ ((p,w)::P.zip a) m p=_
  unfold Ġ;rw[pk λv f=>(Ĳ.mp c).1 (ŕ f).1,if_pos e]
  simp
 |p::P,w::a,i+1,m,c,b,d,e=>by
  unfold Ġ;exact pv (Ĳ.mp c).2 (by simpa using b) (by simp_all) e
theorem pw{kindOf:Str->Option Ŕ}{x:Str}{v:f'}:∀{P:List Str}{a:List f'}{i:Nat}{m:Str->Option f'},P.Nodup->P[i]?=some x->a[i]?=some v->kindOf x≠some .local ->
  ġ kindOf (P.zip a) m x=some v
 |[],_,_,_,_,h,_,_=>by simp at h
 |_::_,[],_,_,_,_,h,_=>by simp at h
 |p::P,w::a,0,m,e,b,c,d=>by
  simp at b c;subst b;subst c
  show ġ _ ((p,w)::P.zip a) m p=_
  unfold ġ;rw[pq λv f=>(Ĳ.mp e).1 (ŕ f).1,if_neg d]
  simp
 |p::P,w::a,i+1,m,e,b,c,d=>by
  unfold ġ;exact pw (by simp_all) (by simpa using b) (by simp_all) d
noncomputable def start(N:List Str)(a:List V):St:=a.map some++ć (N.length - a.length) none
noncomputable def cG(CX:zl)(P:X')(w:O')(K:A')(mg:Str->Option f')(base:y')(N:List Str)(qual:Str)(scope:T')(f:b')(b:f')(A:ZW)(outer:List ZR)(s:j')(H:Hp)(E:XK):Cx where
 prog:=P
 w:=w
 K:=K
 mg:=mg
 base:=base
 A:=A.deeper (ZX qual scope s.heap.objs.size f b)
 N:=N
 s₀:=s
 H₀:=H
 env:=ZX qual scope s.heap.objs.size f b
 outer:=outer
 stack:=ZX qual scope s.heap.objs.size f b::outer
 ex:=[]
 calm:=true
 fn:=λ_=>true
 pn:=[]
 xe:=λe c=>nc (l' P w) (A.deeper (ZX qual scope s.heap.objs.size f b)) (ŷ (ZX qual scope s.heap.objs.size f b) e) (λ_ a=>CX outer H s E e a) (λd a=>CX outer H s E d a) c
variable{π:T'}
theorem sI(h:π.names.lookup e=some .cell):∃c,(cellsFrom b π.names []).lookup e=some c:=abv.mp (Ÿ _ b [] (.inl h))
variable{ω:List Str}
theorem lh(S:gV l ω π)(H:X.handled=none)(g:qz B G A Y z X Y4 s d)(I:O.length=ω.length)(r:Vals O χ)(x:InCallC s s.heap.objs.size (Ġ (ZX e π s.heap.objs.size h N).kindOf (ω.zip χ) λ_=>none) (cellsFrom (s.heap.objs.size+1) π.names []) (ġ (ZX e π s.heap.objs.size h N).kindOf (ω.zip χ) λ_=>none) T6):
  Inv (cG Q4 B G A Y z l e π h N X Y4 s d S0) [] (start l O) d T6:=by
 have J:ω.length<=l.length:=by have:=congrArg Ŗ S.pre;grind
 obtain⟨C,M,rfl,D⟩:=x.done;have m:∀b:b',b∉(cG Q4 B G A Y z l e π h N X Y4 s d S0).ex:=λb a=>absurd (show b∈([]:List b')from a) (by simp)
 refine⟨⟨g.mod,S.kind,rfl,rfl,M' _,λy a c C n=>?_,λy hy=>?_,λy c _ f=>?_,λ_=>H,Around.frames_deeper g.frames,.inr ⟨rfl,rfl⟩,λb a=>absurd a (m b),g.bs,g.vF,λb _ _=>m b,λb a=>absurd a (m b),g.iz,g.zk⟩,
  rfl,g.bare,Un.kept D,⟨_,x.toInCall.ns,λi y v C n P=>?_⟩,λy c f=>⟨_,x.cell y c f⟩,g.hok.fresh (M' _),λy c f=>?_,λp o=>absurd (show p∈([])from o) (by simp),g.hok.kept D,?_⟩
 .exact name_of_addr x.apart (ŗ C) (ŗ n)
 .rcases hy with hy|hy
  .exact sI hy
  .exact absurd rfl (S.Ic _ (ŗ hy))
 .exact é (x.above y c (ŗ f))
 .have t:i<O.length:=by
   unfold start at n
   by_cases t:i<O.length
   .exact t
   .rw[Ĉ (by simpa using t)]at n
    rw[ϵ]at n
    simp_all
  have K:O[i]?=some v:=by
   unfold start at n;rw[Û (by simpa using t)]at n
   simp_all
  obtain⟨u,E,L⟩:=r.get K
  have o:ω[i]?=some y:=by
   rw[←S.pre,ĳ (R' t (V' I))];exact C
  have w:ω.Nodup:=by rw[←S.pre];exact S.nd.sublist (Ř _ _)
  refine⟨u,L,?_⟩;rcases S.par y (ZV o)with k|k
  .exact .inl ⟨k,pv w o E k⟩
  .obtain⟨c,j⟩:=sI k
   refine .inr ⟨.inl k,c,j,?_⟩;have q:=x.cell y c j;rwa[pw w o E (by show π.names.lookup y≠_;rw[k];decide)]at q
 .have F:=g.hok.fresh (é (x.above y c (ŗ f)))
  exact⟨.inl F,λ_=>F⟩
 .unfold start
  show _=l.length
  simp_all
variable{A4 G5:Option b'}{C5:Array (Option f')}{C6 Y5 i6 o9:f'}{M:Str}
theorem zI{params:Ź}(O:A.lookup h=some ⟨o9,G5,.func (Á e M params W1 π N N2 D5 Y5 A4 i6 C6),C5⟩)(C:ö A i6 M=true)(S:gV l ω π)(m:∀i H Q E,T2 i H Q E->i.length=ω.length)(j:∀(a:ZW) (outer:List ZR) (s:j') (H:Hp) (i:List V) (Q:VK) (E:XK),bA b (a.deeper (ZX M π s.heap.objs.size h i6))->T2 i H Q E ->
   ∃t,jD (cG Q4 B G A Y z l M π h i6 a outer s H E) W1 t/\t {nx:=λ_ g=>Q .non g,rt:=Q} (start l i) H):
  bq B G A Y z Q4 (b+1) h (Á e M params W1 π N N2 D5 Y5 A4 i6 C6) ω T2:=by
 refine⟨m,λa outer s H args us i Q E D p P r w=>?_⟩
 have L:=p.mod.zt.keeps λd o c=>(p.bs d o c).1
 have F:=p.mod.nolimit.keeps λd o c=>(p.bs d o c).1
 refine Ϸ D.depth (L _ _ O) rfl S.co S.gen rfl (ϸ L C) (P _ _ _ _ ?_)
 refine Ϲ S.kind (λ⟨n,v⟩ R=>by
  rcases S.par n (ŕ R).1 with q|q
  .exact .inl q
  .exact .inr ⟨q,Ÿ _ _ _ (.inl q)⟩) λT U X x=>?_
 subst U;refine⟨F.keeps x.toInCall.keep,Ϻ ?_⟩;obtain⟨t,Z,hq⟩:=j a _ s H i Q E (D.deeper _) w;refine Í (Z [] X _ H _ (lh S D.hd p (m _ _ _ _ w) r x) hq) (λfl I k=>?_) λc I k=>k
 have y:∀{f:St}{g:Hp}{v:V}{u:f'},Inv (cG Q4 B G A Y z l M π h i6 a _ s H E) [] f g I->RelV v u->Q v g->CE outer B G H s Q u I:=
  λ{f g v u} J K q=>⟨v,g,J.os,J.bare,J.base,J.hok,K,q⟩
 cases fl with
 |ret u=>
  refine cB k λv f g J K q=>y J K q
 |next=>
  obtain⟨f,g,J,q⟩:=k;exact y (v:=V.non) J rfl q
 |brk=>
  obtain⟨_,_,_,q⟩:=k
  simp_all
 |cont=>
  obtain⟨_,_,_,q⟩:=k
  simp_all
noncomputable def WY(r:List V->Hp->VK->Prop)(t:TA):TE:=λa H Q=>t a H λb c=>r b c Q
variable{R8:List V->Hp->VK->Prop}
theorem nv(f:fq c (.builtin C3) R8)(g:Gl c e)(i:c.mg e=none)(j:ò e=some (.builtin C3))(k:PA c (m::L) Q2)(l:e≠"__name__":=by decide)(a:(e==("__debug__":Str))=false:=by decide)(o:x' (m::L) c.env=(false,eval m c.env)::x' L c.env:=by rfl)(b:(ZP J (x' L c.env)).any (·.1)=false:=by rfl):PE c (.Call (.Name e n) (m::L) [] J) (WY R8 Q2):=by
 intro pins s d H Q I h;refine Ć (jQ I g i j (ϻ (cj (k _ _ s d H _ I h) λp q  r =>aW r λt u w x y=>f _ q d u t p Q w x y) o b) l a)
theorem xY(f:fq c (.type C3) R8)(g:Gl c e)(i:c.mg e=none)(j:ò e=some (.type C3))(k:PA c (m::L) Q2)(l:e≠"__name__":=by decide)(a:(e==("__debug__":Str))=false:=by decide)(o:x' (m::L) c.env=(false,eval m c.env)::x' L c.env:=by rfl)(b:(ZP J (x' L c.env)).any (·.1)=false:=by rfl):PE c (.Call (.Name e n) (m::L) [] J) (WY R8 Q2):=by
 intro pins s d H Q I h;refine Ć (jQ I g i j (ϧ (cj (k _ _ s d H _ I h) λp q ⟨r,H1,I1,r1,q1⟩=>f _ q d H1 r p Q I1 r1 q1) o b) l a)
end L2
namespace HT
open PySem PyProof.Rows
noncomputable def kl(n d:Nat):Option Int->Nat
 |none=>d
 |some v=>if v<0 then (v+(n:Int)).toNat else min v.toNat n
theorem sJ(n d:Nat):kl n d none=d:=rfl
theorem mK(n d k:Nat):kl n d (some (k:Int))=min k n:=by
 rfl
theorem zJ(n d:Nat)(a:d<=n)(o:Option Int):kl n d o<=n:=by
 cases o with
 |none=>exact a
 |some v=>
  show(if v<0 then (v+(n)).toNat else min _ n)<=n
  grind
end HT
namespace L2
open PySem PySem.Spec PyProof.Rows
abbrev TO:=St->Hp->(Option Int->Hp->Prop)->Prop
def PO(X:Cx)(e:Option pd)(t:TO):Prop:=
 ∀(pins:List (b'×Obj)) (s:j') (a:St) (H:Hp) (Q:Option Int->Hp->Prop),Inv X pins a H s->t a H Q ->
  nc (l' X.prog X.w) X.A (evalPart e X.env) (λu c=>∃o b,Inv X pins a b c/\ź u o/\Q o b) X.xe s
noncomputable def LX(t:TE):TO:=λa H Q=>t a H λx b=>∃i,x=.int i/\Q (some i) b
variable{c:Cx}{m:pd}{υ:TE}
theorem DI(h:PE c m υ):PO c (some m) (LX υ):=by
 intro pins s a H Q I b;refine cj (h _ s a H _ I b) λu k d=>?_;refine aW d λx e f g j=>?_
 obtain⟨i,rfl,q⟩:=j;obtain⟨t,rfl⟩:=g;exact⟨_,e,f,.int i t,q⟩
def Ie(X:Cx)(r:V->Option Int->Option Int->Hp->VK->Prop):Prop:=
 ∀(pins:List (b'×Obj)) (s:j') (a:St) (H:Hp) (x:V) (v b c:f') (d e:Option Int) (f:b') (Q:VK),Inv X pins a H s->RelV x v->s.heap.IsSliceOf f b c .none->ź b d->ź c e->r x d e H Q ->
  ∃T id,Ż (.type T) "__getitem__"=pure (some (.builtin id))/\s.TypeIs v T/\nc (l' X.prog X.w) X.A (Ĵ v (.ref f)) (EP X pins a Q) X.xe s
theorem Ie.or{r d:V->Option Int->Option Int->Hp->VK->Prop}(h:Ie c r)(h':Ie c d):Ie c (λx a b H Q=>r x a b H Q\/d x a b H Q):=by
 intro pins s e H x v f g a b i Q I j k l m q;rcases q with q|q
 .exact h _ s e H x v f g a b i Q I j k l m q
 .exact h' _ s e H x v f g a b i Q I j k l m q
noncomputable def Yq(r:V->Option Int->Option Int->Hp->VK->Prop)(b:TE)(tl c:TO):TE:=λa H Q=>b a H λx d=>tl a d λl e=>c a e λu f=>r x l u f Q
variable{J n:Pos}{M7:Option pd}
theorem iL{e:Option pd}{tl f:TO}{r:V->Option Int->Option Int->Hp->VK->Prop}(g:Ie c r)(i:PE c m υ)(j:PO c M7 tl)(k:PO c e f):PE c (.Subscript m (.Slice M7 e none J) n) (Yq r υ tl f):=by
 intro pins s a H Q I h;refine aaa (cj (i _ s a H _ I h) λv o d=>?_);refine aW d λx p t w y=>?_
 refine wpAny_Slice (cj (j _ o a p _ t y) λz A  B =>aW B λl C D E F=>cj (k _ A a C _ D F) λG S d=>?_);refine aW d λu K L M N=>?_
 refine U' ?_;obtain⟨T,id,O,P,R⟩:=g _ _ a K x v z G l u _ Q (L.kept λb U q=>ZQ _ q) w (acY ..) E M N
 exact tail_any P O R (by rfl)
def DJ(xs:List V)(a b:Option Int):List V:=(xs.drop (HT.kl xs.length 0 a)).take (HT.kl xs.length xs.length b - HT.kl xs.length 0 a)
theorem sL(xs:List V)(a b:Option Int):(DJ xs a b).length<=xs.length:=by
 unfold DJ;rw[î,abw];omega
noncomputable def zK(n:Nat)(i:Int):Option Nat:=if 0<=i then (if i<n then some i.toNat else none)else if -(n:Int)<=i then some (i+n).toNat else none
def mu{α:Type}(xs:List α)(i:Int):Option α:=(zK xs.length i).bind λj=>xs[j]?
variable{T:Int}{b w:Nat}
theorem vK(h:zK b T=some w):seqIndex? T b=some w/\w<b /\ -(b:Int)<=T/\T<b:=by
 unfold zK at h
 by_cases c:0<=T
 .rw[if_pos c]at h
  by_cases a:T<b
  .rw[if_pos a]at h
   have e:=ŉ h;exact⟨by rw[aab c a,e],by omega,by omega,a⟩
  simp_all
 .rw[if_neg c]at h
  by_cases a : -(b)<=T
  .rw[if_pos a]at h
   have e:=ŉ h;exact⟨by rw[aac (by omega) a,e],by omega,a,by omega⟩
  simp_all
theorem qF{α:Type}{xs:List α}{v:α}(h:mu xs T=some v):∃j,seqIndex? T xs.length=some j/\xs[j]?=some v/\j<xs.length /\ -(xs.length:Int)<=T/\T<xs.length:=by
 unfold mu at h;cases e:zK xs.length T with
 |none=>simp_all
 |some j=>
  refine ur (vK e) λb c a=>xa a λd f=>?_
  simp_all
theorem cf{α:Type}{xs:List α}{v:α}(h:xs[b]?=some v):mu xs (b:Int)=some v:=by
 have a:=(ZS.mp h).1
 have e:zK xs.length (b)=some b:=by
  unfold zK
  simp_all
 unfold mu;rwa[e]
def vL(b:pd):Prop:=∀o i,aad b false o i=operate [o,i] (Ĵ o i)
def GQ(X:Cx)(r:R2):Prop:=
 ∀(b a:pd) (pins:List (b'×Obj)) (s:j') (c:St) (H:Hp) (x y:V) (v u:f') (Q:VK),Inv X pins c H s->RelV x v->RelV y u->r x y H Q ->
  aad a false v u=operate [v,u] (Ĵ v u)->nc (l' X.prog X.w) X.A (subscriptTail b a v u) (EP X pins c Q) X.xe s
def Ig(X:Cx)(id:String)(r:V->List V->Hp->VK->Prop):Prop:=
 ∀(pins:List (b'×Obj)) (s:j') (a:St) (H:Hp) (x:V) (b:List V) (v:f') (c:List f') (Q:VK),Inv X pins a H s->RelV x v->Vals b c->r x b H Q ->
  nc (l' X.prog X.w) X.A (call (.builtin id) (v::c)) (EP X pins a Q) X.xe s
variable{C8 E4:R2}
theorem GQ.or(h:GQ c E4)(h':GQ c C8):GQ c (λx y H Q=>E4 x y H Q\/C8 x y H Q):=by
 intro a b pins s d H x y v u Q I e f q g;rcases q with q|q
 .exact h _ _ _ s d H x y v u Q I e f q g
 .exact h' _ _ _ s d H x y v u Q I e f q g
variable{B3:TE}{R:pd}
theorem GR(a:GQ c E4)(b:PE c m υ)(d:PE c R B3)(e:vL R):PE c (.Subscript m R n) (Lk E4 υ B3):=by
 intro pins s f H Q I h;exact aaa (HU b d I h λv u g x y i j k l q=>a m R _ g f i x y v u Q j k l q (e _ _))
def LY(K:A'):R2:=λx y H Q=>∃p a i v,x=.ref p/\y=.int i/\mI K H p a/\mu a i=some v/\Q v H
def LZ(K:A'):R2:=λx y H Q=>∃p a i v,x=.ref p/\y=.int i/\uA K H p a/\mu a i=some v/\Q v H
def Sy:R2:=λx y H Q=>∃z i c,x=.str z/\y=.int i/\z.length<=K'/\mu z.cps.toList i=some c/\Q (.str ⟨#[c]⟩) H
theorem DK:GQ c (LY c.K):=by
 intro b d pins s o H x y v u Q I A B h l;obtain⟨p,L,i,z,rfl,rfl,C,D,q⟩:=h;cases A;obtain⟨t,rfl⟩:=B;refine bF (I.list C) λe r f M=>?_
 refine eE (qF D) λj m E N g=>xa g λF G=>?_
 obtain⟨w,O,k⟩:=r.get E;have P:=r.length;have R:=iJ;have a:EP c _ o Q w s:=⟨z,H,I,k,q⟩
 by_cases n:0<=i
 .have J:i.toNat=j:=by
   rw[aab n G]at m
   simp_all
  exact item_listR f.isList n (by omega) (by simp_all) a l
 .have J:(i+(e.toArray.size)).toNat=j:=by
   rw[aac (by omega) F]at m
   simp_all
  exact abx f.isList.typeIs aby.lookup
   (wpAny_getItem_list_neg f.isList (by omega) (by simp_all) (by omega) (by simp_all) ⟨rfl,a⟩) l
theorem Ih:GQ c (LZ c.K):=by
 intro a b pins s B H x y v u Q I g k h l;obtain⟨p,C,i,z,rfl,rfl,m,n,q⟩:=h;cases g;obtain⟨t,rfl⟩:=k;refine bF (I.tuple m) λo r f D=>?_
 refine eE (qF n) λj E A F d=>xa d λG J=>?_
 obtain⟨w,L,e⟩:=r.get A;have M:=r.length;have N:=iJ
 exact abx f.typeIs slot_tuple_getitem.lookup
  (getItem_tuple (j:=j) f (by omega) (by omega) (by simp_all) (by simp_all) ⟨rfl,⟨z,H,I,e,q⟩⟩) l
def WZ(K:A'):R2:=λx y H Q=>LY K x y H Q\/LZ K x y H Q\/Sy x y H Q
theorem zL:GQ c (WZ c.K):=DK.or (Ih.or (by
  intro a b pins s r H x y v u Q I f g h k;obtain⟨z,i,e,rfl,rfl,w,l,q⟩:=h;obtain⟨t,rfl⟩:=f;obtain⟨A,rfl⟩:=g;refine eE (qF l) λj m B C d=>xa d λn o=>?_
  have p:z.cps.toList.length=z.length:=by rfl
  rw[p]at m n o;have D:=iJ
  exact tail_any (aae s z t) slot_str_getitem.lookup (getItem_str (by
   grind) (by grind) ⟨.str ⟨_⟩,H,I.tok _,⟨_,rfl⟩,q⟩) k))
theorem uL(a:List f')(n j:Nat)(u:f'):ĉ (·.setIfInBounds j u) {cls:=.type "list",data:=.seq a.toArray n}={cls:=.type "list",data:=.seq (a.set j u).toArray n}:=by
 simp[ĉ]
theorem Inv.lst{X:Cx}{pins:List (b'×Obj)}{b:St}{H:Hp}{s:j'}{p:b'}{xs:List V}(I:Inv X pins b H s)(h:H p=some (.lst xs)):
  ∃(a:List f') (n:Nat),Vals xs a/\s.heap.get? p=some {cls:=.type "list",data:=.seq a.toArray n}/\xs.length<=K':=by
 obtain⟨z,a,n,r,e⟩:=I.hok p _ h;exact⟨_,n,r,e,z⟩
variable{E:List (b'×Obj)}{F4 O:List V}{Q:St}{W4 χ:List f'}{d:Hp}{h:b'}
theorem Inv.Ii{s:j'}{f:Obj->Obj}(I:Inv c E Q d s)(a:d h=some (.lst O))(j:s.heap.get? h=some {cls:=.type "list",data:=.seq χ.toArray b})(g:f {cls:=.type "list",data:=.seq χ.toArray b}={cls:=.type "list",data:=.seq W4.toArray w})(r:Vals F4 W4)(hz:F4.length<=K')(t:Nat):
  Inv c E Q (upd d h (.lst F4)) {s with heap:=s.heap.update h f,toks:=t}:=by
 have e:(s.heap.update h f).get? h=some {cls:=.type "list",data:=.seq W4.toArray w}:=by
  rw[Ď f j (by rw[g]<;>rfl),g]
 refine I.write (by rw[a];trivial) (.inl rfl) (λi u k q=>(ø _ _ (ZT k)).trans q) ⟨_,e⟩ ⟨hz,_,w,r,e⟩
def L_:V->V->V->Hp->(Hp->Prop)->Prop:=λo i v H Q=>∃p a k j,o=.ref p/\i=.int k/\H p=some (.lst a)/\zK a.length k=some j/\Q (upd H p (.lst (a.set j v)))
theorem set_list:Sm c L_:=by
 intro pins s B H o i v C D u Q I m w x h;obtain⟨p,E,k,j,rfl,rfl,e,y,q⟩:=h;cases m;obtain⟨t,rfl⟩:=w;obtain⟨a,n,r,b,F⟩:=I.lst e;obtain⟨f,G,z,A⟩:=vK y;have J:=r.length;have K:=iJ
 have g:=
  I.Ii e b (uL _ n j u) (r.set x j) (by simp_all) s.toks
 by_cases l:0<=k
 .have d:k.toNat=j:=by
   rw[aab l A]at f
   simp_all
  exact PySem.W.ki_setAt b l (by omega) (by simp_all) (by rw[d];exact⟨_,g,q⟩)
 .have d:(k+(a.toArray.size)).toNat=j:=by
   rw[aac (by omega) z]at f
   simp_all
  exact PySem.W.ki_setBack b (by omega) (by simp_all) (by omega) (by rw[d];exact⟨_,g,q⟩)
theorem qG(a b:Option Int)(n:Nat):(ř a b none n).1=((HT.kl n 0 a:Nat):Int)/\(ř a b none n).2.1=((HT.kl n n b:Nat):Int)/\(ř a b none n).2.2=1:=by
 refine⟨?_,?_,rfl⟩
 .cases a with
  |none=>rfl
  |some i=>
   simp only[ř,HT.kl,abz,show(1)>0 by decide,if_true]
   grind
 .cases b with
  |none=>rfl
  |some i=>
   simp only[ř,HT.kl,abz,show(1)>0 by decide,if_true]
   grind
theorem oU(a:List f')(b c:Option Int):slicePick a.toArray b c none=((a.drop (HT.kl a.length 0 b)).take (HT.kl a.length a.length c - HT.kl a.length 0 b)).toArray:=by
 obtain⟨d,e,f⟩:=qG b c _;unfold slicePick;rw[d,e,f];simp only[sliceRange_one,pick_run,Ð]
def Ma(K:A'):V->Option Int->Option Int->Hp->VK->Prop:=λx c d H Q=>∃a b,x=.ref a/\mI K H a b/\∀p,H p=none->Q (.ref p) (upd H p (.lst (DJ b c d)))
theorem km:Ie c (Ma c.K):=by
 intro pins s t H x v u w f g y Q I i j k l h;obtain⟨a,m,rfl,n,q⟩:=h;cases i;obtain⟨o,r,e,p⟩:=I.list n;have d:=r.length;refine⟨_,_,aby.lookup,e.isList.typeIs,?_⟩;refine wpAny_getItem_list_slice e.isList j k l .none (by simp) ?_ (by simp_all)
 rw[oU,←d];refine⟨.ref _,_,I.laid (λb z q=>ZQ _ q) (M' _) ?_,rfl,q _ (I.hok.fresh (M' _))⟩
 exact⟨B' (sL m f g) p,_,0,(r.drop _).take _,Ê _ rfl⟩
theorem qH:fq c (.builtin "len") (λxs H Q=>∃p b,xs=[.ref p]/\(mI c.K H p b\/uA c.K H p b)/\Q (.int b.length) H):=by
 intro pins s j H xs k Q I r h;obtain⟨p,b,rfl,hq,q⟩:=h;obtain⟨u,rfl,g⟩:=vals1 r;cases g;have l:=iJ;rcases hq with hq|hq
 .obtain⟨d,e,f,i⟩:=I.list hq
  have a:=e.length;exact Calls.call_len_list f.isList (by grind) ⟨.int _,H,I.tok _,⟨s.toks+1,by grind⟩,q⟩
 .obtain⟨d,e,f,i⟩:=I.tuple hq
  have a:=e.length;exact len_tuple f (by grind) ⟨.int _,H,I.tok _,⟨s.toks+1,by grind⟩,q⟩
theorem qI:fq c (.builtin "len") (λxs H Q=>∃z,xs=[.str z]/\z.length<=K'/\Q (.int z.length) H):=by
 intro pins s a H xs b Q I r h;obtain⟨z,rfl,d,q⟩:=h;obtain⟨u,rfl,t,rfl⟩:=vals1 r;have e:=iJ;exact len_str (by omega) ⟨.int _,H,I.tok _,⟨_,rfl⟩,q⟩
theorem qJ:fq c (.type "list") (λxs H Q=>∃p f,xs=[.ref p]/\(mI c.K H p f\/uA c.K H p f)/\∀l,H l=none->Q (.ref l) (upd H l (.lst f))):=by
 intro pins s B H xs D Q I r h;obtain⟨p,f,rfl,hq,q⟩:=h;obtain⟨u,rfl,C⟩:=vals1 r;cases C
 have j:∀(a:List _),Vals f _->f.length<=K'->∀(d:y') (i:Nat),(∀b A,s.heap.get? b=some A->d.get? b=some A) ->
   d.get? _=some _->EP c _ B Q _ _:=λa g k d i m e=>
  ⟨.ref _,_,I.laid (t':=s.toks) m (M' _) (show cV _ _ _ d _ (.lst f)from⟨k,a,i,g,e⟩),rfl,q _ (I.hok.fresh (M' _))⟩
 rcases hq with hq|hq
 .obtain⟨a,g,w,k⟩:=I.list hq
  have t:=g.length;obtain⟨o,x,y,n,z⟩:=w.isList;exact abA p (.inl rfl) x y z (λd i m e=>j _ g k d i m e) (by grind)
 .obtain⟨a,g,w,k⟩:=I.tuple hq
  have t:=g.length;obtain⟨o,x,y,n,z⟩:=w;exact abA p (.inr rfl) x y z (λd i m e=>j _ g k d i m e) (by grind)
theorem oV:fq c (.type "tuple") (λxs H Q=>∃p a,xs=[.ref p]/\((mI c.K H p a/\∀l,H l=none->Q (.ref l) (upd H l (.tup a)))\/(uA c.K H p a/\Q (.ref p) H))):=by
 intro pins s w H xs x Q I r h;obtain⟨p,a,rfl,h⟩:=h;obtain⟨u,rfl,n⟩:=vals1 r;cases n;rcases h with ⟨d,q⟩|⟨d,q⟩
 .obtain⟨f,g,i,j⟩:=I.list d
  have k:=g.length;refine call_tuple_list i.isList (λy t=>?_) (by grind)
  have m:=I.kept (t':=s.toks) t;exact⟨.ref _,_,(m.laid (λb o e=>ZQ _ e) (M' _) (show cV _ _ _ _ _ (.tup a)from⟨j,_,g,IsTup.new _ _⟩)),rfl,q _ (m.hok.fresh (M' _))⟩
 .obtain⟨f,g,i,j⟩:=I.tuple d
  exact call_tuple_same i ⟨.ref p,H,I,rfl,q⟩
def Ij(K:A')(T:String)(x:V)(H:Hp):Prop:=match x with
 |.str _=>T="str"
 |.int _=>T="int"
 |.ref p=>(T="list"/\∃b,mI K H p b)\/(T="tuple"/\∃o,K.lookup p=some o/\o.cls=.type "tuple"/\o.dict=none) \/
   (T="dict"/\((∃a,H p=some (.dK a))\/∃a,H p=some (.dT a)))\/(T="set"/\∃S n,H p=some (.set S n))
 |_=>False
variable{C3:String}{N:f'}{s:j'}{x:V}
theorem zM(I:Inv c E Q d s)(r:RelV x N)(h:Ij c.K C3 x d):
  s.TypeIs N C3/\∀a,N=.ref a->∃m,s.heap.get? a=some m/\m.dict=none:=by
 cases x with
 |str z=>
  obtain⟨t,rfl⟩:=r;cases (h);exact⟨aae s z t,by simp⟩
 |int i=>
  obtain⟨t,rfl⟩:=r;cases (h);exact⟨typeIs_int s i t,by simp⟩
 |ref p=>
  cases r;rcases h with ⟨rfl,B,w⟩|⟨rfl,o,b,y,q⟩|⟨rfl,b⟩|⟨rfl,S,n,b⟩
  .refine bF (I.list w) λA _ u _=>?_
   refine⟨u.isList.typeIs,λa e=>?_⟩
   refine bS u λo n e j q _=>?_
   simp_all
  .refine⟨⟨o,I.fg p o b,y⟩,λa e=>?_⟩
   cases e;exact⟨o,I.fg _ o b,q⟩
  .have z:∃o,s.heap.get? p=some o/\o.ExactDict:=by
    rcases b with ⟨k,b⟩|⟨k,b⟩
    .refine iG (I.hok p _ b) λ_ _ _ _ f=>cB f λo _ _ e g _=>?_
     grind
    .refine iG (I.hok p _ b) λ_ _ _ _ f=>cB f λo _ _ e g _=>?_
     grind
   refine bV z λo e g=>?_
   refine⟨⟨o,e,g.1⟩,λa l=>?_⟩
   cases l;exact⟨o,e,g.2.1⟩
  .refine bp (I.hok p _ b) λo _ _ _ e g _=>?_
   refine⟨⟨o,e,g.1⟩,λa l=>?_⟩
   cases l;exact⟨o,e,g.2.1⟩
 |_=>exact Ò h
noncomputable def Sz(K:A')(T:String)(r:V->List V->Hp->VK->Prop)(b:TE):TE:=λc H Q=>b c H λx a=>Ij K T x a/\r x [] a Q
noncomputable def Yr(K:A')(T:String)(r:V->List V->Hp->VK->Prop)(c:TE)(t:TA):TE:=λa H Q=>c a H λx b=>Ij K T x b/\t a b λd e=>r x d e Q
variable{E5:String}{e:Str}{u8:V->List V->Hp->VK->Prop}
theorem Ik(j:ż C3)(slot:Ž C3 e E5)(d:ž (.builtin E5)=pure (.type "method_descriptor"))(k:Ig c E5 u8)(l:PE c m υ)(a:ì m e c.env (eval m c.env)=eval m c.env:=by rfl)(b:(n.endLine==J.line)=true:=by rfl):PE c (.Call (.Attribute m e n) [] [] J) (Sz c.K C3 u8 υ):=by
 intro pins s f H Q I h;refine abB a b (cj (l _ s f H _ I h) λv o p=>?_);refine bS p λx q g i r t=>?_
 obtain⟨u,w⟩:=zM g i r;exact⟨C3,E5,j,slot,d,u,w,ſ rfl (aaf (k _ o f q x [] v [] Q g i .nil t))⟩
variable{L:List pd}{Q2:TA}
theorem Mb(o:ż C3)(slot:Ž C3 e E5)(g:ž (.builtin E5)=pure (.type "method_descriptor"))(p:Ig c E5 u8)(q:PE c m υ)(r:PA c (R::L) Q2)(a:ì m e c.env (eval m c.env)=eval m c.env:=by rfl)(d:((ZP J (x' (R::L) c.env)).all (λx=>!x.1)&&(â J (ã [] c.env)).all (λx=>x.1.isSome)
   && decide ((R::L).length+([]:List ϊ).length+(if ([]:List ϊ).isEmpty then 0 else 1)<30))=true:=by rfl)(b:(n.endLine==J.line)=true:=by rfl)(t:x' (R::L) c.env=(false,eval R c.env)::x' L c.env:=by rfl)(f:(ZP J (x' L c.env)).any (·.1)=false:=by rfl):
  PE c (.Call (.Attribute m e n) (R::L) [] J) (Yr c.K C3 u8 υ Q2):=by
 intro pins s i H Q I h;refine wpAny_Call_method_late a d b rfl (cj (q _ s i H _ I h) λv u w=>?_);refine bS w λx y j k z A=>?_
 obtain⟨B,C⟩:=zM j k z;refine⟨C3,E5,o,slot,g,B,C,?_⟩;have l:=r J _ u i y _ j A;rw[t]at l ⊢;refine ſ (by simp_all) (Calls.evalArgs_plain (cj l λD E  F =>aW F λG M N O P=>p _ E i M x G v D Q N k O P))
def PF(X:Cx)(id:String)(r:V->List V->Hp->VK->Prop):Prop:=
 ∀(pins:List (b'×Obj)) (s:j') (a:St) (H:Hp) (x:V) (b:List V) (v:f') (c:List f') (Q:VK),Inv X pins a H s->RelV x v->Vals b c->r x b H Q ->
  nc (l' X.prog X.w) X.A (call (.builtin id) (v::c)) (EP X pins a Q) X.xe s
theorem Vals.one(h:Vals [x] χ):∃u,χ=[u]/\RelV x u:=vals1 h
variable{M1:V}
theorem Vals.two(h:Vals [x,M1] χ):∃u v,χ=[u,v]/\RelV x u/\RelV M1 v:=vals2 h
theorem Vals.zero:∀{a:List f'},Vals [] a->a=[]
 |_,.nil=>rfl
theorem Vals.reverse{xs:List V}{a:List f'}(h:Vals xs a):Vals xs.reverse a.reverse:=by
 induction h with
 |nil=>exact .nil
 |cons r t b=>rw[ϋ,ϋ];exact Vals.append b (.cons r .nil)
theorem Inv.DL{s:j'}{f:Array f'->Array f'}(I:Inv c E Q d s)(a:d h=some (.lst O))(e:s.heap.get? h=some {cls:=.type "list",data:=.seq χ.toArray b})(g:f χ.toArray=W4.toArray)(i:Vals F4 W4)(hz:F4.length<=K'):
  Inv c E Q (upd d h (.lst F4)) {s with heap:=s.heap.update h (ĉ f),toks:=w}:=by
 have q:=acZ e f;rw[g]at q;refine I.write (by rw[a];exact trivial) (.inl rfl) (λl u j k=>(ø _ _ (ZT j)).trans k) ⟨_,q⟩ ⟨hz,_,_,i,q⟩
theorem Inv.SA{s:j'}(I:Inv c E Q d s)(a:Vals O χ)(hz:O.length<=K'):
  Inv c E Q (upd d s.heap.objs.size (.lst O)) {s with heap:=s.heap.push {cls:=.type "list",data:=.seq χ.toArray},toks:=b}:=
 I.laid (λ_ _ q=>ZQ _ q) (M' _) ⟨hz,_,0,a,Ê _ rfl⟩
theorem Inv.fresh{X:Cx}{pins:List (b'×Obj)}{a:St}{H:Hp}{s:j'}(I:Inv X pins a H s):H s.heap.objs.size=none:=I.hok.fresh (M' _)
theorem Inv.zN(I:Inv c E Q d s)(f:d h=some (.lst O)):O.length<=K'/\∃(a:List f') (n:Nat),Vals O a/\O.length=a.length/\s.heap.get? h=some {cls:=.type "list",data:=.seq a.toArray n}:=by
 refine xa (I.hok h _ f) λz b=>cF b λa n r e=>⟨z,_,n,r,r.length,e⟩
theorem zO(h:b<=K'):ac_ b=false:=decide_eq_false (Nat.not_lt_of_le h)
def vM:V->List V->Hp->VK->Prop:=λx b H Q=>∃l a y,x=.ref l/\b=[y]/\H l=some (.lst a)/\a.length<K'/\Q .non (upd H l (.lst (a++[y])))
theorem pz:PF c "list.append" vM:=by
 intro pins s j H x k v m Q I d f h;obtain⟨l,o,y,rfl,rfl,b,p,q⟩:=h;cases d;obtain⟨u,rfl,g⟩:=f.one;refine xa (I.zN b) λz a=>aW a λi n r t e=>?_
 refine Ģ abC ⟨_,e,rfl⟩ F.entry_list_append (F.args_list_append_2 _ _) (PySem.list_append l _ n u (by simp_all)) ⟨e,?_⟩
 refine⟨.non,_,I.DL b e (by simp) (r.append (.cons g .nil)) ?_,rfl,q⟩
 grind
def vO:V->List V->Hp->VK->Prop:=λx d H Q=>∃l b a c,x=.ref l/\d=[.ref b]/\H l=some (.lst a)/\H b=some (.lst c)/\a.length+c.length<=K'/\Q .non (upd H l (.lst (a++c)))
theorem xZ:PF c "list.extend" vO:=by
 intro pins s C H x D v E Q I m o h;refine bz h λl b G J g i k p K q=>?_;subst g;subst i
 cases m;obtain⟨u,rfl,t⟩:=o.one;cases t;refine xa (I.zN k) λz a=>aW a λj n r L e=>?_
 refine xa (I.zN p) λM a=>aW a λf w y A B=>?_
 have d:j.toArray.size+f.toArray.size<=K':=by simp_all
 refine Ģ abD ⟨_,e,rfl⟩ F.entry_list_extend (F.args_list_extend_2 _ _)
  (AutoSeq1.list_extend_list_list_0 l _ n b _ w (by
  rw[zO d];simp) (B' (ģ _ _) d) (aag d)) ⟨e,B,?_⟩
 refine⟨.non,_,I.DL k e (by simp) (r.append y) ?_,rfl,q⟩
 grind
def sM:V->List V->Hp->VK->Prop:=λx b H Q=>∃l a,x=.ref l/\b=[]/\H l=some (.lst a)/\Q .non (upd H l (.lst a.reverse))
theorem uM:PF c "list.reverse" sM:=by
 intro pins s i H x j v k Q I d f h;obtain⟨l,m,rfl,rfl,b,q⟩:=h;cases d;have a:=f.zero;subst a;obtain⟨z,g,n,r,o,e⟩:=I.zN b;refine Ģ abE ⟨_,e,rfl⟩ F.entry_list_reverse (F.args_list_reverse_1 _) (AutoSeq1.list_reverse_list_0 l _ n (by simp_all)) ⟨e,?_⟩
 refine⟨.non,_,I.DL b e (by simp) r.reverse ?_,rfl,q⟩
 simp_all
variable{D6:Option V}{T4:Option f'}
section
variable{κ:Type}[DecidableEq κ]
noncomputable def kn(kvs:List (κ×V))(k:κ):Option V:=(kvs.find? λa=>decide (a.1=k)).map (·.2)
noncomputable def putK(kvs:List (κ×V))(k:κ)(v:V):List (κ×V):=
 if (kvs.any λa=>decide (a.1=k))=true then kvs.map (λa=>if a.1=k then (a.1,v)else a)else kvs++[(k,v)]
theorem ko{p:κ×V}{r:List (κ×V)}{k:κ}(e:p.1=k):kn (p::r) k=some p.2:=by simp[kn,ď,e]
theorem kq{p:κ×V}{r:List (κ×V)}{k:κ}(e:¬ p.1=k):kn (p::r) k=kn r k:=by simp[kn,ď,e]
theorem sN(k:κ):∀kvs:List (κ×V),(kvs.any λa=>decide (a.1=k))=(kn kvs k).isSome
 |[]=>rfl
 |p::r=>by
  rw[Ĥ]
  by_cases e:p.1=k
  .simp only[ko e,decide_eq_true e,Bool.true_or,abF]
  .rw[kq e,decide_eq_false e];exact sN k r
theorem iM(kvs:List (κ×V))(k:κ)(v:V):(putK kvs k v).length<=kvs.length+1:=by
 unfold putK
 grind
theorem iI.gE(r:iI D6 T4):D6.isSome=T4.isSome:=by
 cases D6 with
 |none=>cases T4 with
  |none=>rfl
  |some _=>exact(r).elim
 |some _=>cases T4 with
  |none=>exact(r).elim
  |some _=>rfl
theorem KV.val{kvs:List (κ×V)}{c:List (κ×f')}(r:KV kvs c)(k:κ):iI (kn kvs k) (ĵ c k):=by
 induction r with
 |nil=>exact ë
 |@cons p q g a h t i=>
  obtain⟨d,j⟩:=h
  by_cases e:p.1=k
  .have b:ĵ (q::a) k=some q.2:=by simp[ĵ,ď,(d.symm.trans e)]
   rwa[ko e,b]
  .have f:¬ q.1=k:=λz=>e (d.trans z)
   have b:ĵ (q::a) k=ĵ a k:=by simp[ĵ,ď,f]
   rwa[kq e,b]
theorem KV.any{kvs:List (κ×V)}{b:List (κ×f')}(r:KV kvs b)(k:κ):(kvs.any λa=>decide (a.1=k))=b.any λa=>decide (a.1=k):=by
 induction r with
 |nil=>rfl
 |cons h t c=>simp_all
theorem KV.repl{kvs:List (κ×V)}{b:List (κ×f')}(r:KV kvs b)(k:κ)(d:RelV x N):
  KV (kvs.map λa=>if a.1=k then (a.1,x)else a) (b.map λa=>if a.1=k then (a.1,N)else a):=by
 induction r with
 |nil=>exact .nil
 |@cons p q e f h t c=>
  refine .cons ?_ c
  grind
theorem KV.put{kvs:List (κ×V)}{a:List (κ×f')}(r:KV kvs a)(k:κ)(b:RelV x N):KV (putK kvs k x) (Ķ a k N):=by
 unfold putK Ķ;rw[r.any k]
 by_cases e:(a.any λc=>decide (c.1=k))=true
 .rw[if_pos e,if_pos e];exact r.repl k b
 .rw[if_neg e,if_neg e];exact abG r ⟨rfl,b⟩
theorem KV.length{kvs:List (κ×V)}{a:List (κ×f')}(r:KV kvs a):kvs.length=a.length:=ń r
end
variable{B:X'}{G:O'}{Z7:Key}
theorem pA(r:RelV (kV Z7) N):(cR B G).is Z7 N=true:=by
 cases Z7 with
 |inl i=>obtain⟨t,e⟩:=(r);subst e;exact xQ i t
 |inr x=>obtain⟨t,e⟩:=(r);subst e;exact xR x t
theorem pB{P:X'}{w:O'}:∀{ks:List Key}{a:List f'},Vals (ks.map kV) a->ItemsAre (cR P w) ks a
 |[],_,r=>by cases r;exact .nil
 |k::ks,_,r=>by
  cases r with
  |cons h t=>exact .cons (pA h) (pB t)
abbrev KT(H:Hp):List (List Key×V)->List (List Key×b'×f')->Prop:=Ö λp q=>p.1=q.1/\H q.2.1=some (.tup (p.1.map kV))/\RelV p.2 q.2.2
variable{M5:List (List Key×V)}{c9:List (List Key×b'×f')}
theorem KT.val(r:KT d M5 c9)(k:List Key):iI (kn M5 k) ((Đ c9 k).map (·.2)):=by
 induction r with
 |nil=>exact ë
 |@cons p q g a h t i=>
  obtain⟨c,_,j⟩:=h
  by_cases e:p.1=k
  .have b:Đ (q::a) k=some q.2:=by simp[Đ,ď,(c.symm.trans e)]
   rwa[ko e,b]
  .have f:¬ q.1=k:=λz=>e (c.trans z)
   have b:Đ (q::a) k=Đ a k:=by simp[Đ,ď,f]
   rwa[kq e,b]
theorem KT.repl(r:KT d M5 c9)(k:List Key)(c:RelV x N):
  KT d (M5.map λa=>if a.1=k then (a.1,x)else a) (c9.map (putAt k N)):=by
 induction r with
 |nil=>exact .nil
 |@cons p q f g h t b=>
  refine .cons ?_ b;unfold putAt
  by_cases e:p.1=k
  .simp_all
  simp_all
theorem KT.put(r:KT d M5 c9)(k:List Key)(b:d h=some (.tup (k.map kV)))(a:RelV x N):
  KT d (putK M5 k x) (storedH c9 k h N):=by
 have e:(M5.any λc=>decide (c.1=k))=(Đ c9 k).isSome:=by
  rw[sN,(r.val k).gE,aah]
 unfold putK storedH;rw[e]
 by_cases q:(Đ c9 k).isSome=true
 .rw[if_pos q,if_pos q];exact r.repl k a
 .rw[if_neg q,if_neg q];exact abG r ⟨rfl,b,a⟩
variable{ο:Hp}
theorem KT.keeps(r:KT d M5 c9)(c:∀b a,d b=some (.tup a)->ο b=some (.tup a)):KT ο M5 c9:=
 Paired.Du r λ_ _ z=>⟨z.1,c _ _ z.2.1,z.2.2⟩
variable{B1:HO}{z:y'}
theorem zP(ok:iE B G d z)(e:Rd d h B1):cV B G d z h B1:=e.ok ok
variable{v5:List (Key×V)}
theorem iN(ok:iE B G d z)(e:Rd d h (.dK v5)):v5.length<=K'/\(h==æ)=false/\∃a,KV v5 a/\z.DictOf (cR B G) h a:=
 zP ok e
theorem Mc(ok:iE B G d z)(e:d h=some (.dK v5)):v5.length<=K'/\(h==æ)=false/\∃a,KV v5 a/\z.DictOf (cR B G) h a:=iN ok (.inl e)
variable{W8:List Key}
theorem ny(ok:iE B G d z)(e:d h=some (.tup (W8.map kV))):(Ņ (cR B G)).is z W8 h:=by
 obtain⟨_,a,r,o,b,c,n,f⟩:=(ok h _ e);exact⟨o,_,n,b,c,f,by simpa using pB r⟩
theorem pC(ok:iE B G d z)(e:Rd d h (.dT M5)):M5.length<=K'/\(h==æ)=false /\
  ∃xs,KT d M5 xs/\z.DictOfH (Ņ (cR B G)) h xs:=by
 obtain⟨a,y,xs,r,o,c,f,g,i,j,k,n⟩:=(zP ok e);refine⟨a,y,xs,r,o,c,f,g,i,j,k,λx hx=>?_,n⟩
 have b:∀{l:List _}{m:List _},KT d l m->∀x∈m,(Ņ (cR B G)).is z x.1 x.2.1:=by
  intro l m q
  induction q with
  |nil=>simp
  |@cons p q u w A t s=>
   intro x hx;rcases Æ.mp hx with e|hx
   .exact ny ok (by simp_all)
   .exact s x hx
 exact b r x hx
theorem Md(ok:iE B G d z)(e:d h=some (.dT M5)):M5.length<=K'/\(h==æ)=false /\
  ∃xs,KT d M5 xs/\z.DictOfH (Ņ (cR B G)) h xs:=pC ok (.inl e)
def ll(H:Hp)(a:b')(y:V)(r:Option V):Prop:=
 (∃c k,Rd H a (.dK c)/\y=kV k/\r=kn c k)\/∃c k b,Rd H a (.dT c)/\y=.ref b/\H b=some (.tup (k.map kV))/\r=kn c k
def sO(H:Hp)(a:b')(y v:V)(d:Hp):Prop:=
 (∃c k,H a=some (.dK c)/\y=kV k/\c.length<K'/\d=upd H a (.dK (putK c k v))) \/
 ∃c k b,H a=some (.dT c)/\y=.ref b/\H b=some (.tup (k.map kV))/\c.length<K'/\d=upd H a (.dT (putK c k v))
theorem ll.k{H:Hp}{a:b'}{kvs:List (Key×V)}{k:Key}(e:H a=some (.dK kvs)):ll H a (kV k) (kn kvs k):=.inl ⟨_,k,.inl e,rfl,rfl⟩
variable{I:b'}
theorem ll.t(e:d h=some (.dT M5))(a:d I=some (.tup (W8.map kV))):ll d h (.ref I) (kn M5 W8):=.inr ⟨_,W8,I,.inl e,rfl,a,rfl⟩
theorem sO.k{H:Hp}{a:b'}{kvs:List (Key×V)}{k:Key}{v:V}(e:H a=some (.dK kvs))(b:kvs.length<K'):sO H a (kV k) v (upd H a (.dK (putK kvs k v))):=.inl ⟨_,k,e,rfl,b,rfl⟩
theorem sO.t(e:d h=some (.dT M5))(a:d I=some (.tup (W8.map kV)))(b:M5.length<K'):
  sO d h (.ref I) x (upd d h (.dT (putK M5 W8 x))):=.inr ⟨_,W8,I,e,rfl,a,b,rfl⟩
theorem Inv.big(I:Inv c E Q d s):æ<s.heap.objs.size:=Ā (by decide) ((I.mod.glob.keeps I.bk).lt)
variable{X:ZW}{v3 ζ:f'->j'->Prop}
theorem x_(y:X.units+1<ZU)(I:Inv c E Q d s)(g:ll d h x (some M1))(t:RelV x N)(a:∀j u,Inv c E Q d u->RelV M1 j->v3 j u):
  nc (l' c.prog c.w) X (Ĵ (.ref h) N) v3 ζ s:=by
 rcases g with ⟨m,k,e,n,l⟩|⟨m,k,b,e,n,A,l⟩
 .subst n
  obtain⟨z,B,D,f,o⟩:=iN I.hok e;obtain⟨j,q,i⟩:=iI.some_of (by rw[l];exact f.val k)
  exact wpAny_getItem_of (pA t) o.mapOf q (a j _ (I.tok _) i)
 .subst n
  cases (t);obtain⟨z,B,F,f,o⟩:=pC I.hok e;obtain⟨j,q,i⟩:=iI.some_of (by rw[l];exact f.val k)
  obtain⟨p,C,r⟩:=Å.mp q;refine wpAny_getItem_heap (ό y) (ny I.hok A) o C ?_;rw[r];exact a j _ (I.tok _) i
theorem SD(r:X.units+1<ZU)(I:Inv c E Q d s)(g:ll d h x D6)(o:RelV x N)(a:∀p,Inv c E Q d p->v3 (.bool D6.isSome) p):
  nc (l' c.prog c.w) X (Ë .In N (.ref h)) v3 ζ s:=by
 rcases g with ⟨i,k,e,j,l⟩|⟨i,k,b,e,j,t,l⟩
 .subst j
  obtain⟨z,m,u,f,n⟩:=iN I.hok e;refine wpAny_in_of (pA o) m n.mapOf ?_;rw[←(f.val k).gE,←l];exact a _ (I.tok _)
 .subst j
  cases (o);obtain⟨z,m,y,f,n⟩:=pC I.hok e;refine wpAny_in_heap (ό r) (ny I.hok t) m n ?_;have q:=(f.val k).gE;rw[aah]at q;rw[←q,←l];exact a _ (I.tok _)
theorem DM(r:X.units+1<ZU)(I:Inv c E Q d s)(g:ll d h x D6)(o:RelV x N)(a:∀p,Inv c E Q d p->v3 (.bool (!D6.isSome)) p):
  nc (l' c.prog c.w) X (Ë .NotIn N (.ref h)) v3 ζ s:=by
 rcases g with ⟨i,k,e,j,l⟩|⟨i,k,b,e,j,t,l⟩
 .subst j
  obtain⟨z,m,u,f,n⟩:=iN I.hok e;refine wpAny_notIn_of (pA o) m n.mapOf ?_;rw[←(f.val k).gE,←l];exact a _ (I.tok _)
 .subst j
  cases (o);obtain⟨z,m,y,f,n⟩:=pC I.hok e;refine wpAny_notIn_heap (ό r) (ny I.hok t) m n ?_;have q:=(f.val k).gE;rw[aah]at q;rw[←q,←l];exact a _ (I.tok _)
theorem qK{s:j'}(I:Inv c E Q d s)(g:Pz (d h))(i:ņ h s.heap z)(j:∃q,z.get? h=some q)(f:cV c.prog c.w (upd d h B1) z h B1):
  Inv c E Q (upd d h B1) {s with heap:=z,toks:=b}:=
 I.write g (.inl rfl) (λa q k e=>(i.2 a k).trans e) j f
theorem uN{b:List (Key×f')}(a:v5.length<=K')(e:(h==æ)=false)(c:KV v5 b)(f:z.DictOf (cR B G) h b):
  cV B G d z h (.dK v5):=⟨a,e,b,c,f⟩
variable{A3:Unit->j'->Prop}{N2:f'}
theorem ya(C:X.units+1<ZU)(I:Inv c E Q d s)(g:sO d h x M1 ο)(u:RelV x N)(y:RelV M1 N2)(a:∀A,Inv c E Q ο A->A3 () A):
  nc (l' c.prog c.w) X (setItem (.ref h) N N2) A3 ζ s:=by
 rcases g with ⟨j,k,e,n,l,eH⟩|⟨j,k,b,e,n,B,l,eH⟩
 .subst n eH
  obtain⟨z,o,D,f,p⟩:=Mc I.hok e;have F:D.length<=K':=by rwa[←f.length]
  refine wpAny_setItem_pairs (pA u) p λG i r=>a _ ?_
  exact qK I (by rw[e];exact ë) r (let ⟨q,_,_,m,_⟩:=i;⟨q,m⟩) (uN (by have:=iM j k M1;exact B' this l) o (f.put k y) i)
 .subst n eH
  cases (u);obtain⟨z,o,H,f,p⟩:=Md I.hok e;have F:H.length<=K':=by rwa[←ń f]
  refine wpAny_setItem_heap (ό C) (ny I.hok B) p λG i r=>a _ ?_
  obtain⟨q,J,K,m,L,M,O,_,P⟩:=i;refine qK I (by rw[e];exact ë) r ⟨q,m⟩ ⟨(by have:=iM j k M1;exact B' this l),o,_,(f.put k B y).keeps λt R S=>?_,q,J,K,m,L,M,O,P⟩
  rwa[ax (by grind)]
theorem Me(I:Inv c E Q d s)(e:Rd d h (.dK v5))(a:∀t f,Inv c E Q d f->v3 (.int v5.length t) f):nc (l' c.prog c.w) X (call (.builtin "len") [.ref h]) v3 ζ s:=by
 refine iG (iN I.hok e) λz g j b i=>?_
 refine call_len_dict g i (by rw[←b.length];rw[þ]at z;exact HF z) ?_
 rw[←b.length];exact a _ _ (I.tok _)
def Mf(i:pd):Prop:=∀a b,aad i false a b=operate [a,b] (Ĵ a b)
variable{m4:ZR}
theorem DN(g:Ż (.type C3) "__getitem__"=pure (some (.builtin E5)))(j:Mf R)(h:nc (l' B G) X (eval m m4) (λo c=>nc (l' B G) X (eval R m4) (λi a=>a.TypeIs o C3/\nc (l' B G) X (Ĵ o i) v3 ζ a) ζ c) ζ s):
  nc (l' B G) X (eval (.Subscript m R n) m4) v3 ζ s:=by
 refine aaa (Í h (λo c d=>Í d (λi a b=>?_) λ_ _ x=>x) λ_ _ x=>x)
 obtain⟨k,b⟩:=b;refine p' ?_;refine p' (abH k g ?_)
 first
  |exact U' (p' (by
  rw[j o i];exact wpAny_operating (Í b (λr f e=>p' (wpAny_letTemporaryGo (U' e))) λ_ _ x=>x)))
theorem sP(I:Inv c E Q d s)(g:ll d h x D6):s.TypeIs (.ref h) "dict":=by
 rcases g with ⟨a,k,e,_,_⟩|⟨a,k,b,e,_,_,_⟩
 .obtain⟨_,_,i,_,f⟩:=iN I.hok e
  exact f.typeIs
 .obtain⟨_,_,j,_,f⟩:=pC I.hok e
  exact f.typeIs
noncomputable def Mh(td d:TE):TE:=λb H Q=>td b H λx e=>d b e λy c=>∃a v,x=.ref a/\ll c a y (some v)/\Q v c
theorem DO(f:c.A.units+1<ZU)(i:PE c m υ)(j:PE c R B3)(k:Mf R):PE c (.Subscript m R n) (Mh υ B3):=by
 intro pins s d H Q I h;refine DN PySem.F.slot_dict_getitem.lookup k (cj (i pins s d H _ I h) λu l ⟨x,H1,I1,rx,q1⟩=>cj (j pins l d H1 _ I1 q1) λz B o=>?_);obtain⟨y,p,e,q,a,v,r,g,t⟩:=o
 subst r;obtain rfl:u=À a:=rx;exact⟨sP e g,x_ f e g q λC D w b=>⟨v,p,w,b,t⟩⟩
theorem zQ(h:y')(a:æ<h.objs.size):cV B G d (h.push {cls:=.type "dict",data:=.dict #[]}) h.objs.size (.dT []):=
 ⟨Ì _,by grind,[],.nil,_,_,0,Ê _ rfl,⟨rfl,rfl,rfl⟩,rfl,rfl,by simp⟩
def Il:TE:=λ_ H Q=>∀p,H p=none->Q (.ref p) (upd H p (.dK []))
def Im:TE:=λ_ H Q=>∀p,H p=none->Q (.ref p) (upd H p (.dT []))
theorem zR:PE c (.Dict [] [] n) Il:=λpins s a H Q I h=>
 abI ⟨.ref _,_,I.laid (λ_ _ q=>ZQ _ q) (M' _) (by
   exact⟨Ì _,beq_eq_false_iff_ne.mpr (ZT (Q' I.big)),[],.nil,abJ _⟩),rfl,h _ (I.hok.fresh (M' _))⟩
theorem zS:PE c (.Dict [] [] n) Im:=λpins s a H Q I h=>
 abI ⟨.ref _,_,I.laid (λ_ _ q=>ZQ _ q) (M' _) (zQ _ I.big),rfl,h _ (I.hok.fresh (M' _))⟩
def Ys(H:Hp)(a:b'):Prop:=(∃b,Rd H a (.dK b))\/∃b,Rd H a (.dT b)
theorem zT(I:Inv c E Q d s)(a:Ys d h):
  s.TypeIs (.ref h) "dict"/\(∀b,À h=.ref b->∃f,s.heap.get? b=some f/\f.dict=none)/\(h==æ)=false:=by
 rcases a with ⟨i,e⟩|⟨i,e⟩
 .obtain⟨_,j,m,_,g⟩:=iN I.hok e
  refine⟨g.typeIs,λb q=>?_,j⟩
  cases q;obtain⟨f,_,_,k,l,_⟩:=g;exact⟨f,k,l.2.1⟩
 .obtain⟨_,j,n,_,g⟩:=pC I.hok e
  refine⟨g.typeIs,λb q=>?_,j⟩
  cases q;obtain⟨f,_,_,k,l,_⟩:=g;exact⟨f,k,l.2.1⟩
end L2
namespace W_
open PySem PySem.W PySem.Calls PyProof.Rows
variable{z:y'}
theorem mv{P:ύ}:∀(c:List Int) (d:List f'),WellAll P z d (c.map WData.int)->Ś d c:=by
 intro c
 induction c with
 |nil=>
  intro d w;cases w;exact .nil
 |cons n c e=>
  intro d w;cases w with
  |cons a b=>
   cases a;exact .cons _ _ (e _ b)
variable{b:Nat}{χ:List f'}
theorem yb{l:OpenLaw}(j:l.most=some b){P:ύ}{args:List WData}(c:l.row.toRowW.claim.pre args=true)(g:WellAll P z χ args):
  ∃a i e,χ=[À a]/\args=[WData.list (e.map WData.int)]/\z.get? a=some {cls:=.type "list",data:=.seq i.toArray}/\Ś i e/\e.length<=b:=by
 obtain⟨d,r,rfl,k,m⟩:=hasAllW_cons ((pre_splitW c).1);obtain rfl:=hasAllW_nil m;obtain⟨s,rfl,n⟩:=hasW_list k;obtain⟨e,rfl⟩:=items_int n;cases g with
 |cons o p=>
  cases p;cases o with
  |list q f=>exact⟨_,_,e,rfl,rfl,q,mv e _ f,(by
  have h:=by
   have h:=(holds_andW ((pre_splitW c).2)).1;rwa[j]at h
  have t:=condW_of h (w_not (w_lt w_lit (w_len_list (w_arg rfl))))
  simp_all)⟩
variable{B:X'}{W9:DefRec}{l:List Str}{n9:O'->y'->Prop}{oa:(Str->Option f')->y'->Prop}
theorem sQ{d:OpenLaw}(H:d.most=some b)(u:W9.params.defaults=[])(call:∀(w:O') (e c:j') (p x:Str->Option f') (i:b') (o:Obj) (y q j:f') (a:b') (h:List f') (s:List Int),
   Ground B l [] oa w e p x c.heap->n9 w c.heap ->
   c.heap.get? i=some o->o.data=.func (docDef W9.name W9.params W9.body W9.scope y q j)->c.heap.CodeRec q W9.name->p W9.name=some (.ref i) ->
   c.heap.get? a=some {cls:=.type "list",data:=.seq h.toArray}->Ś h s->s.length<=b->c.gens = #[] ->
   Ñ (l' d.prog w) ĥ (.call (.ref i) ⟨[.ref a],[]⟩) (λr t=>r=.ok (.ret (.bool true))/\OldK c.heap t.heap/\t.os=c.os/\ó t.gens) c):
  WalkO B l oa n9 d.row.toRowW W9 [] (λf h=>aai f h):=by
 intro w e c p x G Y i o y q j I kV J K z D A L args E S k F M C N;obtain rfl:I=.none:=Dflts.none D u;obtain rfl:kV=.none:=Dflts.noKw D;obtain⟨a,h,s,rfl,rfl,m,g,n⟩:=yb H k C;refine enter_call (ÿ (call w _ _ p x i o y q _ a h s G Y J (fd_plain K) z A m g n L) λr t O=>?_)
 obtain⟨rfl,P,Q,R⟩:=O
 exact⟨.inl ⟨_,_,[],rfl,λ_=>rfl,.bool _,postW_of
    (by rfl)
    (w_eq_bool (w_res rfl) w_lit) rfl,by simp⟩,P,Q,R⟩
end W_
namespace L2
open PySem PySem.Spec PyProof.Rows
theorem pD:∀{a:List f'}{b:List Int},Ś a b->Vals (b.map V.int) a
 |_,_,.nil=>.nil
 |_,_,.cons n t h=>.cons ⟨t,rfl⟩ (pD h)
def Only(H:Hp):Prop:=∀b,H b=none\/∃o a,H b=some (.cZ o (.lst a))
variable{A:A'}{B:X'}{F6:List Int}{G:O'}{I h:b'}{Q4:zl}{T2:Sp}{Y:Str->Option f'}{b:Nat}{e:Str}{s:j'}{θ:N'}{χ:List f'}
theorem zU{N:Str->Option f'}(X:A.In s.heap)(w:s.heap.Ns ZY Y)(i:s.heap.Ns Ϣ N)(O:∀e:Str,e≠"__name__"->N e=ò e)(x:s.heap.NoLimit)(hg:s.gens = #[])(M:s.heap.get? I=some {cls:=.type "list",data:=.seq χ.toArray})(Z:Ś χ F6)(hl:F6.length<=K')(hr:bA b ĥ)(F:∀base:y',A.In base->base.Ns ZY Y->bq B G A Y base Q4 b h θ [e] T2)(p:∀(t:j') (u:f'),ô t θ ⟨[u],[]⟩ [(e,u)])(P:∀H:Hp,Only H->mI A H I (F6.map V.int)->T2 [.ref I] H (λv _=>v=.bl true) λ_ _ _=>False)(Q:∀H c j,Q4 [] H s (λ_ _ _=>False) c j->False):
  Ñ (l' B G) ĥ (.call (.ref h) ⟨[.ref I],[]⟩) (λr j=>r=.ok (.ret (.bool true))/\OldK s.heap j.heap/\j.os=s.os/\ó j.gens) s:=by
 have rv:=pD Z;have y:=Z.length
 have l:∀H:Hp,Only H->mI A H I (F6.map V.int)->iE B G H s.heap->(∀a,H a≠none->a=I)->(H I≠none->A.lookup I=none) ->
   Ñ (l' B G) ĥ (.call (.ref h) ⟨[.ref I],[]⟩) (λr j=>r=.ok (.ret (.bool true))/\OldK s.heap j.heap/\j.os=s.os/\ó j.gens) s:=by
  intro H hO hS C hA hK
  have g:∀{a:b'}{o:Obj},s.heap.get? a=some o->H a=none->(uz s.heap H).get? a=some o:=λc n=>PySem.W.hideAll_get _ c λhm=>by
     have q:=(aa3.mp hm).2
     simp_all
  have R:∀{a:b'}{o:Obj}{D:Array ś}{E:Nat},s.heap.get? a=some o->o.data=.dict D E->H a=none:=λ{a o D E} c d=>by
   cases q:H a with
   |none=>rfl
   |some u=>
    have S:a=I:=hA a (by rw[q];simp)
    subst S;rw[M]at c;cases c
    have d':Data.seq χ.toArray _=Data.dict D E:=d;cases d'
  have k:∀{a:b'}{m:Str->Option f'},s.heap.Ns a m->(uz s.heap H).Ns a m:=λ{a m}  zf =>cB zf λo D E c d r=>⟨o,D,E,g c (R c d),d,r⟩
  have J:A.In (uz s.heap H):=λa o c=>g (X a o c) (by
   cases q:H a with
   |none=>rfl
   |some u=>
    have S:a=I:=hA a (by rw[q];simp)
    subst S;rw[hK (by rw[q];simp)]at c;cases c)
  have hM:Mod A Y (uz s.heap H):=⟨J,k w,⟨N,k i,O⟩,bV (x) λmc h1 h2=>⟨mc,k h1,h2⟩⟩
  have e0:qz B G A Y (uz s.heap H) ĥ [] s H:=⟨rfl,hM,λa o c=>Dv c,V' (PySem.W.hideAll_size _ _),trivial,λa i=>absurd (show a∈([]:List b')from i) (by simp),C,.of_eq hg⟩
  refine ÿ ((F _ J (k w)).run ĥ [] s H ⟨[.ref I],[]⟩ [.ref I] [.ref I] _ _ hr e0 (p s (.ref I)) (.cons rfl .nil) (P H hO hS)) λr j f=>?_
  cases r with
  |error c=>exact(Q H c j f).elim
  |ok fl=>
   cases fl with
   |next=>exact Ò f
   |brk=>exact Ò f
   |cont=>exact Ò f
   |ret u=>
    refine gi f λv H' os bare un K T=>xa T λr' q=>?_
    have q':v=.bl true:=q;subst q';obtain rfl:u=Ϡ true:=r';refine⟨rfl,OldK.of_keep λa o c=>?_,os,bare⟩
    cases q:H a with
    |none=>exact un.keep a o c q (by intro z;exact absurd (show a∈([]:List b')from z) (by simp)) (by simp)
    |some u=>
     rcases hO a with z|⟨ob,xs,z⟩
     .rw[q]at z;cases z
     .have z2:=un.fB a ob _ z
      obtain⟨e1,_⟩:=C a _ z;obtain⟨e2,_⟩:=K a _ z2;rw[c]at e1;cases e1
      exact e2
 cases U:A.lookup I with
 |some o=>
  have c:=X I o U;rw[M]at c;cases c;refine l (λ_=>none) (λ_=>.inl rfl) (.inr ⟨_,χ.toArray,_,U,rfl,rfl,rfl,by rw[Ð,y];exact hl,by simpa using rv⟩) (λa u z=>by have L:(none:Option HO)=some u:=z;cases L) (λa z=>absurd rfl z) λz=>absurd rfl z
 |none=>
  refine l (λa=>if a=I then some (.cZ {cls:=.type "list",data:=.seq χ.toArray} (.lst (F6.map V.int)))else none) (λa=>?_) (.inl (.inr ⟨{cls:=.type "list",data:=.seq χ.toArray},if_pos rfl⟩)) (λa u z=>?_) (λa z=>?_) λ_=>U
  .by_cases i:a=I
   .exact .inr ⟨_,_,if_pos i⟩
   .exact .inl (if_neg i)
  .by_cases i:a=I
   .have L:=(if_pos i).symm.trans z
    cases L;subst i;exact⟨M,by rw[ZZ];exact hl,χ,_,rv,M⟩
   .have L:=(if_neg i).symm.trans z
    cases L
  .by_cases i:a=I
   .exact i
   .exact absurd (if_neg i) z
variable{W9:DefRec}{l:List Str}{n9:O'->y'->Prop}{oa:(Str->Option f')->y'->Prop}{w:Nat}
theorem DP{d:abK}{K:ύ->A'}{CX:O'->zl}{sp:O'->Sp}(I:d.most=some b)(r:b<=K')(t:W9.params.defaults=[])(J:bA w ĥ)(L:∀(c:O') (h:y'),n9 c h->(K c.params).In h)(F:∀(c:O') (m:Str->Option f') (p:b') (h:y'),(K c.params).In h->h.Ns ZY m->m W9.name=some (.ref p) ->
   ∃x:N',(∀(s:j') (u:f'),ô s x ⟨[u],[]⟩ [(e,u)]) /\
    ∀base:y',(K c.params).In base->base.Ns ZY m->bq d.prog c (K c.params) m base (CX c) w p x [e] (sp c))(y:∀(c:O') (H:Hp) (a:b') (q:List Int),q.length<=b->Only H->mI (K c.params) H a (q.map V.int)->sp c [.ref a] H (λv _=>v=.bl true) λ_ _ _=>False)(M:∀(c:O') (H:Hp) (s:j') (j:f') (N:j'),CX c [] H s (λ_ _ _=>False) j N->False):
  abL B l oa n9 d.row.toRowW W9 [] (λf A=>aai f A):=by
 refine W_.sQ I t λc C D m Z p o pm cd O a A q G Y ho hd P z n k i Q=>?_
 have E:=L c _ Y;obtain⟨x,R,S⟩:=F c m p _ E G.T.g z;exact zU E G.T.g G.T.b G.T.builtins G.T.nolimit Q n k (B' i r) J S R (λH U X=>y c H a q i U X) (by simp_all)
noncomputable def inClass(s:D')(j:Nat):D':=match s with
 |.ClassDef _ _ _ body _ _ _ _ _ _ _=>body.getD j (.Pass ⟨0,0,0,0⟩)
 |_=>.Pass ⟨0,0,0,0⟩
noncomputable def bB(s:D'):Ź:=match s with
 |.FunctionDef _ a _ _ _ _ _ _ _ _=>a
 |_=>{posonlyargs:=[],args:=[],vararg:=none,kwonlyargs:=[],kw_defaults:=[],kwarg:=none,defaults:=[]}
noncomputable def aK(s:D'):List D':=match s with
 |.FunctionDef _ _ b _ _ _ _ _ _ _=>b
 |_=>[]
noncomputable def ag(s:D'):T':=match s with
 |.FunctionDef _ _ _ _ _ _ a _ _ _=>a
 |_=>{kind:=.function,names:=[],isGenerator:=false,isCoroutine:=false}
abbrev eA:zl:=λ_ _ _ _ _ _=>False
abbrev E0:XK:=λ_ _ _=>False
variable{c:Cx}
theorem lU:Passes eA c E0:=λ_ _ _ _ _ _ _ h=>h.elim
structure sR(K:A')(x qual:Str)(st:D')(f:b')(fd:N'):Prop where
 ex:∃(oc:f') (od:Option b') (kV doc pm:f') (an:Option b') (cdv ct:f') (osl:Array (Option f')),
  fd=Á x qual (bB st) (aK st) (ag st) .none kV doc pm an cdv ct/\K.lookup f=some ⟨oc,od,.func fd,osl⟩/\ö K cdv qual=true
 kp:Z_ K (.ref f)=true
variable{M:Str}{z:y'}{ν:D'}{ω:List Str}
theorem sR.ok(F:sR A e M ν h θ)(S:gV l ω (ag ν))(i:∀c H Q E,T2 c H Q E->c.length=ω.length)(d:∀(f:f') (a:ZW) (outer:List ZR) (s:j') (H:Hp) (c:List V) (Q:VK) (E:XK),bA b (a.deeper (ZX M (ag ν) s.heap.objs.size h f))->T2 c H Q E ->
   ∃t,jD (cG eA B G A Y z l M (ag ν) h f a outer s H E).kY (aK ν) t/\t {nx:=λ_ w=>Q .non w,rt:=Q} (start l c) H):bq B G A Y z eA (b+1) h θ ω T2:=by
 refine xe F.ex λoc j=>xe j λI k=>xe k λkV m=>xe m λx n=>xe n λJ o=>bp o λK f ct y p C r=>?_;subst p
 refine zI C r S i λa outer s H c Q E D u=>?_
 obtain⟨t,g,q⟩:=d _ a _ s H c Q E D u;exact⟨t,g.kY,q⟩
theorem sR.binds(F:sR A e M ν h θ)(a:∀(kV b d:f') (f:Option b') (c ct:f') (g:List f'),g.length=l.length->ı (Á e M (bB ν) (aK ν) (ag ν) .none kV b d f c ct) ⟨g,[]⟩=pure (l.zip g)):Binds A θ l []:=by
 refine xe F.ex λoc i=>xe i λr j=>xe j λkV k=>xe k λb m=>xe m λd n=>bp n λf c ct p o s q=>?_;subst o
 exact .all (a kV _ d f _ ct)
variable{A4 G5:Option b'}{C5:Array (Option f')}{C6 D5 N N2 Y5 i6:f'}
theorem qL(l:A.lookup h=some ⟨N,A4,.func (Á e M (bB ν) (aK ν) (ag ν) .none N2 D5 Y5 G5 i6 C6),C5⟩)(c:ö A i6 M=true)(k:Z_ A (.ref h)=true):sR A e M ν h (Á e M (bB ν) (aK ν) (ag ν) .none N2 D5 Y5 G5 i6 C6):=⟨⟨N,A4,N2,_,Y5,G5,_,C6,_,rfl,l,c⟩,k⟩
theorem yc:fq c (.builtin "len") (λxs H Q=>∃a kvs,xs=[V.ref a]/\Rd H a (.dK kvs)/\Q (.int kvs.length) H):=by
 intro pins s f H xs g Q I r h;obtain⟨a,kvs,rfl,b,q⟩:=h;obtain⟨u,rfl,d⟩:=vals1 r;cases d;exact Me I b λt i e=>⟨.int _,H,e,⟨t,rfl⟩,q⟩
variable{o6:Prop}
theorem sS{B:Prop}(h:B):if false=true then o6 else B:=by
 simp_all
theorem sT{B:Prop}(h:o6):if true=true then o6 else B:=h
def nz(H a:Hp):Prop:=∀b o,H b=some o->a b=some o
variable{d d8 ο:Hp}
theorem nz.trans(a:nz d ο)(b:nz ο d8):nz d d8:=λc o h=>b c o (a c o h)
open PySem.W
def Mi(X:Cx)(f:b')(c:List V)(a:St)(H:Hp)(Q:VK):Prop:=∀(pins:List (b'×Obj)) (s:j') (b:List f'),Inv X pins a H s->Vals c b->nc (l' X.prog X.w) X.A (call (.ref f) b) (EP X pins a Q) X.xe s
noncomputable def nB(a:b')(o:Obj):HO:=.cZ o (.ext λh=>h.get? a=some o)
variable{Ξ:Obj}
theorem DQ(e:z.get? h=some Ξ):cV B G d z h (nB h Ξ):=⟨e,e,⟨Ξ,e⟩,λa b q k=>k Ξ q⟩
noncomputable def Cx.fz(X:Cx)(xs:List Str):Cx:={X with fn:=λy=>X.fn y&&!(xs.contains y)}
theorem KT.length{H:Hp}{l:List (List Key×V)}{m:List (List Key×b'×f')}(q:KT H l m):m.length=l.length:=by
 induction q with
 |nil=>rfl
 |cons _ _ a=>simp_all
end L2
namespace HT
open PySem PyProof.Rows
end HT
namespace L2
open PySem PySem.Spec PyProof.Rows
open PySem.W
abbrev jk(h:y')(C:b')(rest:List f'):y':=(h.push {cls:=.type "tuple",data:=.seq rest.toArray}).push {cls:=.ref C,data:=.fields #[.ref h.objs.size,.none,.none,.none,.bool false,.none]}
variable{A4:Option b'}{B:X'}{C P1:Bool}{C3 E5 w9:String}{F7 G7 J7 L7 T4:Option f'}{G:O'}{I h Δ:b'}{J9 L9 T7 W4 χ:List f'}{M e:Str}{P5:Drawn}{Q7:Option Bool}{S5:Array ϣ}{X:ZW}{Y:Str->Option f'}{b:Nat}{l:List Str}{w6:OsState}{z:y'}{ζ:f'->j'->Prop}
theorem oW(F:aaj C3 E5 w9 T7)(T:Ŝ z T7 W4)(j:z.get? h=some (ķ e M h I χ W4 C l J9 P1 Q7 A4 T4 F7 G7 J7 L7 E5))(s:z.Ns I Y)(n:Y "__init__"=some (.ref Δ))(t:∀self,ώ (l' B G) z (bindSpecial (.ref Δ) self) (.ref Δ,[self]))(g:L9.length<=K'){Q:Fin->j'->Prop}(u:Ñ (l' B G) X (.call (.ref Δ) ⟨.ref (z.objs.size+1)::L9,[]⟩) (λr p=>match r with|.ok (.ret v)=>v=.none/\Q (.done (.ret (.ref (z.objs.size+1)))) p|.ok _=>False|.error a=>ζ a p) ⟨jk z h L9,S5,P5,b,w6⟩):
  nc (l' B G) X (ŝ.«type.__call__» ⟨.ref h::L9,[]⟩) Q ζ ⟨z,S5,P5,b,w6⟩:=by
 repeat (first|with_reducible refine abM j ?_|with_reducible refine wpAny_madeBy_exc j ?_|wp_step)
 refine codeAny_call_builtin_code (abN _ F.quiet) (wpAny_check_new_subT F T j ?_);refine codeAny_exc_new_subT F T j ?_ g
 show nc _ _ _ _ _ _
 have k:∀d o,z.get? d=some o->(jk z h L9).get? d=some o:=λd o a=>ZQ _ (ZQ _ a)
 have f:=k _ _ j;have i:(jk z h L9).Ns I Y:=fo (s) λo w x a r=>⟨o,w,x,k _ _ a,r⟩
 have q:(À h::W4).contains (.ref h)=true:=by simp
 have m:=T.keeps k;have y:=(t (.ref (z.objs.size+1))).keeps k;unfold isInstance
 repeat (first|with_reducible refine abM hget ?_ | (with_reducible refine abO f ?_;rw[q])|wp_step)
 show nc _ _ (Ż (.ref h) _) _ _ _
 refine wpAny_typeLookup_tail f i m F.mroIs F.init.lookup ?_;rw[n];refine ā (p' (y.at ?_));refine p' (ą (ÿ u λr p c=>?_))
 rcases r with a | (v|_|_|_)<;>first|exact c|exact c.elim|skip
 obtain⟨rfl,c⟩:=c;exact U' (U' c)
variable{n5:Ų->j'->Prop}
theorem zV(F:aaj C3 E5 w9 T7)(T:Ŝ z T7 W4)(d:z.get? h=some (ķ e M h I χ W4 C l J9 P1 Q7 A4 T4 F7 G7 J7 L7 E5))(f:z.Ns I Y)(c:Y "__init__"=some (.ref Δ))(g:∀self,ώ (l' B G) z (bindSpecial (.ref Δ) self) (.ref Δ,[self]))(a:L9.length<=K')(i:Ñ (l' B G) (X.under (.builtin "type.__call__" ⟨.ref h::L9,[]⟩)) (.call (.ref Δ) ⟨.ref (z.objs.size+1)::L9,[]⟩) (ϯ (z.objs.size+1) n5) ⟨jk z h L9,S5,P5,b,w6⟩):
  Ñ (l' B G) X (.call (.ref h) ⟨L9,[]⟩) n5 ⟨z,S5,P5,b,w6⟩:=by
 have j:=tc_lookup;have k:=tc_bind (.ref h);refine codeAny_of_tree ?_
 repeat (any_goals (first|assumption|rfl|wp_step))
 refine⟨rfl,?_⟩;refine codeAny_call_builtin_at (abN _ (by decide +kernel)) entry_typeCall (wpAny_check_type_call_sub d (oW F T d f c g a ?_))
 exact i
open PySem.W (clsIn findIn takerIn InstAt)
open PySem.Builtin PySem.Builtin.ObjectAttr PySem.Builtin.Getset_descriptor
abbrev qM:List f':=[.type "ValueError",.type "Exception",.type "BaseException",.type "object"]
noncomputable def gW:List f'->Bool
 |.ref _::r=>gW r
 |l=>l==qM
theorem pE(self:f'):∀{l:List f'},gW l=true->refuseLoop self "__setattr__" l=pure ()
 |[],e=>by rfl
 |a::r,e=>by
  cases a with
  |ref c=>rw[refuseLoop_ref];exact pE _ e
  |_=>rw[eq_of_beq (e)];exact PySem.F.store_ValueError.passes _
theorem zW:∀{l:List f'},gW l=true->l.contains (.type "object")=true
 |[],e=>by simp[gW]at e
 |a::r,e=>by
  cases a with
  |ref c=>rw[List.contains_cons,zW (l:=r) e,Bool.or_true]
  |_=>rw[eq_of_beq (e)];decide
variable{A:A'}{N:f'}{P8:Option Obj}{aa:ClassData}{s:j'}{w8:È}{Ξ:Obj}
theorem DR(c:A.In s.heap)(d:InstAt s.heap h Ξ I P8)(o:clsIn A I=some aa)(l:gW aa.mro=true)(r:takerIn A I e=some none)(j:∀b,nc (l' B G) X.in1 (storeInOwnDict (.ref h) (.ref I) (.str e w8) e N b) (λn m=>match n with|.done f=>n5 (.ok f) m|.again p=>p.quiet=true/\Ñ (l' B G) X p n5 m) (λg m=>n5 (.error g) m) s):
  Ñ (l' B G) X (.call (.builtin "object.__setattr__") ⟨[.ref h,.str e w8,N],[]⟩) n5 s:=by
 have k:=PySem.F.store_object
 have ne:aa.mro.isEmpty=false:=by cases q:aa.mro with
  |nil=>rw[q]at l;simp[gW]at l
  |cons _ _=>rfl
 refine aak k.slot.plain k.entry (@PySem.W.check_slot _ _ _ s _ _ _ _ _ [] _ k.kind k.split (d.type.andThen (abP c (by unfold ő;rw[o,Option.bind_some,if_neg (by grind),zW l]))) (k.args _ _ _) ?_)
 refine bV (Ħ.mp r) λi t u=>?_
 have w:ώ (l' B G) _ (mroOf (.ref I)) _:=(Ϭ c o).andThen .now
 have x:ώ (l' B G) s.heap (storeTaker? i) none:=by
  cases i with
  |none=>exact .now
  |some a=>
   obtain⟨b,y,g⟩:=Å.mp u;refine(PySem.W.looks_takesIn c y).andThen ?_;cases b with
   |true=>cases g
   |false=>exact .now
 rw[PySem.W.osa_eq,refuse_eq];refine p' (p' (d.type.here (p' (w.here ?_))));rw[pE _ l];refine U' (p' (d.type.here (p' ((Ŵ c t).here (p' (x.here (j _)))))))
variable{A3:Unit->j'->Prop}{B5:Array f'}{C5:Array (Option f')}
theorem DS{s:j'}(c:A.In s.heap)(l:s.heap.get? h=some ⟨.ref I,none,.fields B5,C5⟩)(q:clsIn A I=some aa)(r:gW aa.mro=true)(t:aa.hasDict=true)(u:findIn A (.ref I) "__setattr__"=some (some (.builtin "object.__setattr__")))(w:takerIn A I e=some none)(g:∀h' t',h'.get? h=some ⟨.ref I,some s.heap.objs.size,.fields B5,C5⟩->h'.Ns1 s.heap.objs.size (λy=>if y=e then some N else none)->(∀b o,b≠h->s.heap.get? b=some o->h'.get? b=some o)->A3 () {s with heap:=h',toks:=t' }):
  nc (l' B G) X (Ű (.ref h) e N) A3 ζ s:=by
 have d:InstAt _ h ⟨_,_,_,C5⟩ I none:=⟨l,rfl,rfl,trivial⟩;refine abh c d u (DR c d q r w λb=>?_)
 have f:(s.heap.push {cls:=.type "dict",data:=.dict #[]}).get? h=some ⟨_,_,_,C5⟩:=ZQ _ l;have i:=Q' (I' l);refine p' (U' (p' (p' (ϫ l (p' (abi (Ϭ c q) ?_))))));rw[t];refine p' (wpAny_alloc' (p' (wpAny_update' f (U' ?_))));refine p' (U' (p' (wpAny_nsSet1 (abq ⟨_,_,_,((abQ _ _ _ _ i.symm).trans (abR rfl rfl)),rfl,λa x=>absurd x (by simp),λ_=>rfl⟩) λh' j k=>?_)))
 refine cB (j.count (abj _ N Within.nil)) λE z C m n D=>?_
 refine p' (abk m (by rw[n];exact abl (by grind)) ?_)
 refine U' (g h' _ ((k.2 h i).trans (Ď _ f rfl)) j λb o p a=>(k.2 b (Q' (I' a))).trans ((λb o p a=>
  (abQ _ _ _ _ p).trans (ZQ _ a)) b o p a))
variable{E1 o4:b'}{G5:Option b'}
theorem oX{h:y'}(F:aaj C3 E5 w9 T7)(T:Ŝ h T7 W4)(g:h.get? I=some (ķ e M I Δ χ W4 C l J9 P1 Q7 A4 T4 F7 G7 J7 L7 E5))(c:h.get? E1=some ⟨.ref I,G5,.fields #[.ref o4,.none,.none,.none,.bool false,.none],C5⟩)(d:L9.length<=K')(i:∀h',h'.get? E1=some ⟨.ref I,G5,.fields #[.ref h.objs.size,.none,.none,.none,.bool false,.none],C5⟩->h'.get? h.objs.size=some {cls:=.type "tuple",data:=.seq L9.toArray}->(∀a o,a≠E1->h.get? a=some o->h'.get? a=some o)->n5 (.ok (.ret .none)) ⟨h',S5,P5,b,w6⟩):
  Ñ (l' B G) X (.call (.builtin w9) ⟨.ref E1::L9,[]⟩) n5 ⟨h,S5,P5,b,w6⟩:=by
 refine aak F.init.plain F.initEntry (wpAny_check_init_subT F T g c rfl ?_);have f:=ZQ (h:=h) {cls:=.type "tuple",data:=.seq L9.toArray} c
 wp_walk
 refine i _ ?_ ?_ λa o j k=>?_
 .exact Ď _ f rfl
 .rw[ø _ _ (ZT (É (I' c)))]
  exact abR rfl rfl
 .rw[ø _ _ (ZT j)]
  exact ZQ _ k
open PySem.W (clsIn findIn takerIn InstAt Looks mroIn)
structure yd(K:A')(C:b'):Prop where
 ga:findIn K (.ref C) "__getattribute__"=some (some (.builtin "BaseException.__getattribute__"))
 gn:findIn K (.ref C) "__getattr__"=some none
 be:mroIn K C (.type "BaseException")=some true
theorem zX(a:A.In z)(c:InstAt z h Ξ I P8)(d:yd A I)(e:A3 () ⟨z,S5,P5,b,w6⟩):nc (l' B G) X (checkBuiltinCall "BaseException.__getattribute__" ⟨[.ref h,N],[]⟩) A3 ζ ⟨z,S5,P5,b,w6⟩:=by
 have L:Looks (l' B G) z (isInstance _ _) _:=(c.type).andThen (abP a d.be);refine p' (L.at ?_)
 repeat (any_goals (first|assumption|wp_step))
variable{N2:f'}{v3:f'->j'->Prop}{w:Nat}
theorem GS(a:A.In z)(d:InstAt z h Ξ I P8)(c:yd A I)(e:∀(X:ZW) (v3:Fin->j'->Prop) (ζ:f'->j'->Prop),v3 (.done (.ret N2)) ⟨z,S5,P5,w,w6⟩->nc (l' B G) X (ŝ.«object.__getattribute__» ⟨[.ref h,N],[]⟩) v3 ζ ⟨z,S5,P5,b,w6⟩)(f:handedOut N2=pure N2)(g:v3 N2 ⟨z,S5,P5,w,w6⟩):nc (l' B G) X (getAttrBy (.ref h) N C P1) v3 ζ ⟨z,S5,P5,b,w6⟩:=by
 have i:=d.type (M:=l' B G);have L1:=Ŵ (M:=l' B G) a c.ga;have L2:=Ŵ (M:=l' B G) a c.gn;have k:=abS.ga.bind (.ref h);have j:(P1&&onTheHeap (abT "BaseException.__getattribute__"))=false:=by cases P1<;>rfl
 refine ā (p' (i.at (p' (L1.at ?_))));refine p' (L2.at ?_)
 repeat (any_goals (first|wp_step))
 refine(aak abS.ga.plain F.entry_bexc_ga (zX a d c ((e _) _ _ ?_)))
 show nc _ _ (handedOut N2) _ _ _
 rw[f];exact U' g
theorem vP(c:A.In z)(a:InstAt z h Ξ I P8)(d:yd A I)(f:abU A I P8 e=some (.value N))(g:abn N=true)(i:v3 N ⟨z,S5,P5,b+1,w6⟩):
  nc (l' B G) X (ŏ (.ref h) e C) v3 ζ ⟨z,S5,P5,b,w6⟩:=by
 refine p' (wpAny_mkText (GS c a d (λk l m q=>?_) (PySem.W.handedOut_of g) i))
 have j:=a.type (M:=l' B G);have L1:=abV (M:=l' B G) c a f;refine p' (U' (p' (U' (p' (j.at (p' (L1.at (U' q))))))))
theorem ye{ox:Obj}{od:Obj}{Q:Option f'->j'->Prop}(c:A.In z)(a:InstAt z h ox I (some od))(d:yd A I)(e:ĝ A I=true)(g:findIn A (.ref I) "__class__"=some (some (.builtin "object.__class__")))(i:Ğ A (.builtin "object.__class__") "__get__"=some (some (.builtin "getset_descriptor.__get__")))(f:Ő A (.builtin "object.__class__")=some true)(j:mroIn A I (.type "object")=some true)(k:Q (some (.ref I)) ⟨z,S5,P5,b+1,w6⟩):nc (l' B G) X (Ϗ (.ref h) "__class__") Q ζ ⟨z,S5,P5,b,w6⟩:=by
 have l:abU A I (some od) "__class__"=some (.bind (.builtin "getset_descriptor.__get__") (.builtin "object.__class__")):=PySem.W.findObj_data (by obtain⟨o,m,_⟩:=ű e;rw[m];rfl) g i f
 unfold Ϗ getAttrBy?;refine p' (wpAny_mkText (p' (wpAny_attempt (GS (w:=b+1) c a d (λp r t q=>?_) rfl (U' k)))))
 have n:=a.type (M:=l' B G);have L1:=abV (M:=l' B G) c a l;unfold ŝ.«object.__getattribute__»;refine p' (U' (p' (U' (p' (n.at (p' (L1.at ?_)))))))
 show nc _ _ (ß [.builtin "object.__class__"] (call (.builtin "getset_descriptor.__get__") [.builtin "object.__class__",.ref h,.ref I]) >>= ret) _ _ _
 exact p' (ā (ą (PySem.W.class_get (s:=⟨z,S5,P5,b+1,w6⟩) (ox:=ox) (od:=some od) c a j (U' q))))
variable{S7:Obj}
theorem zY(G:yd A I)(f:ĝ A I=true)(r:findIn A (.ref I) "__class__"=some (some (.builtin "object.__class__")))(u:Ğ A (.builtin "object.__class__") "__get__"=some (some (.builtin "getset_descriptor.__get__")))(i:Ő A (.builtin "object.__class__")=some true)(w:mroIn A I (.type "object")=some true):
  PySem.W.KitX A (.ref h) (.ref I) (λa=>InstAt a h Ξ I (some S7)) where
 ty:=λ_ _ _ b=>b.type
 it:=λ_ _ X _=>by
  obtain⟨j,c,_⟩:=ű f;unfold aal at c;split at c
  .rename_i x y l m o
   intro D E F H k q;unfold isType loadHead;exact p' (ϫ (k _ _ (X _ _ o)) (U' q))
  .exact bQ c
 ne:=λa B J C n K X p=>by
  obtain⟨j,c,_⟩:=ű f;refine Bool.eq_false_iff.mpr λq=>?_
  have e:I=B:=ac0 (beq_iff_eq.mp q);subst e;unfold aal at c;split at c
  .rename_i x y l m o
   have z:=(X _ _ o).symm.trans p;cases z
  .exact bQ c
 ca:=λ{_ _ _ _ _ s} X b k=>by
  obtain⟨a,g,d,t,L⟩:=s;exact ye X b G f r u i w k
structure lp(K:A')(C N fI:b'):Prop where
 ex:∃(nm q:Str) (bs bm:List f') (sn:List Str) (sub:List f') (ab:Bool) (col:Option Bool) (dd:Option b') (k0 k1 k2 k3 k5:Option f'),
  K.lookup C=some (ķ nm q C N bs bm true sn sub ab col dd k0 k1 k2 k3 k5 "ValueError.__new__")/\(∀h:y',K.In h->Ŝ h qM bm)
 cd:∃cd,clsIn K C=some cd/\gW cd.mro=true/\cd.hasDict=true
 sa:findIn K (.ref C) "__setattr__"=some (some (.builtin "object.__setattr__"))
 xg:yd K C
 hd:ĝ K C=true
 ns:∀h:y',K.In h->∃mN,h.Ns N mN/\mN "__init__"=some (.ref fI)
 kp:Z_ K (.ref C)=true
 fn:Ϯ K (.ref fI)=some (.type "function")
noncomputable def cq(C:b')(od:Option b')(t:b'):Obj:=⟨.ref C,od,.fields #[.ref t,.none,.none,.none,.bool false,.none],#[]⟩
variable{Q:St}{c:Cx}{d:Hp}
theorem Inv.DT(I:Inv c [] Q d s)(a:s.heap.get? h=some Ξ)(e:d h=none)(f:h≠c.env.locals)(g:h∉c.fs)(i:∀v,Ξ.data≠.cell v):Inv c [(h,Ξ)] Q d s:=
 ⟨I.ok,I.os,I.bare,I.base,I.loc,I.cell,I.free,I.dX,λp b=>by
  rcases Ô.mp b with q|q
  .exact I.pin p (by simp[q])
  simp_all,I.hok,I.len⟩
variable{E:List (b'×Obj)}
theorem Inv.vQ(I:Inv c E Q d s):Inv c [] Q d s:=
 ⟨I.ok,I.os,I.bare,I.base,I.loc,I.cell,I.free,I.dX,λp a=>I.pin p (by simp_all),I.hok,I.len⟩
variable{i4:List (Str×V)}{x:V}
theorem DU{s:j'}(a:Inv c E Q d s)(T:lp c.K I Δ E1)(j:dw c.K I e)(k:s.heap.get? h=some Ξ)(m:Ξ.cls=.ref I)(o:Ξ.dict=some o4)(f:đ Ξ=true)(p:d o4=some (.xd i4))(z:i4.lookup e=some x)(b:∀u,RelV x u->Inv c E Q d {s with toks:=s.toks+1}->ζ u {s with toks:=s.toks+1}):nc (l' c.prog c.w) X (ŏ (.ref h) e C) ζ v3 s:=by
 obtain⟨q,n,r⟩:=a.hok o4 _ p;obtain⟨u,t,i⟩:=iI.some_of (x:=x) (T4:=q e) (by grind)
 obtain⟨y,g,l⟩:=gD n;have J:InstAt _ h Ξ I (some y):=⟨k,m,f,by simp_all⟩
 exact vP a.fg J T.xg (ϲ T.hd j (by rfl) (by rw[l,t])) (lb i) (b u i (a.tok _))
structure yf(X:Cx)(e:b'):Prop where
 new:e∈X.ex\/X.s₀.heap.objs.size<=e
 cell:∀x c,X.env.cells.lookup x=some c->c≠e
 pn:∀p∈X.pn,p.1≠e
theorem Inv.Yt{s:j'}(I:Inv c [(h,Ξ)] Q d s)(F:yf c h)(o:z.get? h=some S7)(r:∀e k,e≠h->s.heap.get? e=some k->z.get? e=some k)(t:∀v,S7.data≠.cell v):Inv c [(h,S7)] Q d {s with heap:=z,toks:=b}:=by
 refine iF (I.pin (h,Ξ) (by simp)) λD w l x E=>?_
 have y:=I.vQ;have keep:∀e Ξ,e∉[h]->s.heap.get? e=some Ξ->z.get? e=some Ξ:=λe Ξ f q=>r e Ξ (by simp_all) q
 have J:Inv c [] Q d {s with heap:=z,toks:=b}:=by
  refine y.step (λe f=>?_) (λe Ξ _ _ f q _=>keep e Ξ f q) (λe Ξ _ _ f q _=>⟨_,keep e Ξ f q⟩) (λe Ξ f q g=>g) (λe Ξ f q=>⟨Ξ,keep e Ξ f q⟩) (λe G q=>q) (λe Ξ n q=>q) (λe H q=>⟨#[],by simp_all⟩) (λm g=>?_) ?_ I.bare
  .rw[W'.mp f]
   exact⟨F.new,l,F.cell,λp K=>F.pn p (by simp_all)⟩
  .refine fo g λΞ A B L C=>?_
   exact⟨Ξ,A,B,by grind,C⟩
  .intro a u q
   refine(I.hok a u q).stay (λe n f i=>keep e n (λj=>?_) i) (λe i=>i) (by simp)
   simp_all
 exact J.DT o w l x t
structure XBase(K:A')(mg:Str->Option f')(bn:Str)(B0:b'):Prop where
 mg:mg bn=some (.ref B0)
 ga:Ğ K (.ref B0) "__getattribute__"=some (some (.builtin "type.__getattribute__"))
 rd:abW K B0 (.type "type")=true
 ini:abX K (.ref B0) (.type "type") "__init__"=some (.val (.builtin "ValueError.__init__"))
noncomputable def Cx.mk1(X:Cx)(e:b'):Cx:={X with ex:=[e]}
theorem Inv.mk1{X:Cx}{pins:List (b'×Obj)}{d:St}{H:Hp}{s:j'}{e:b'}(I:Inv X pins d H s)(j:X.ex=[])(f:e≠X.env.locals)(g:∀x c,X.env.cells.lookup x=some c->c≠e)(i:∀o,X.base.get? e≠some o)(k:e∉X.fs):Inv (X.mk1 e) pins d H s:=
 ⟨⟨I.ok.mod,I.ok.kind,I.ok.glob,I.ok.blt,I.ok.above,I.ok.inj,I.ok.has,I.ok.cab,I.ok.hd,I.ok.frames,I.ok.GJ,λb a=>by rw[W'.mp a];exact⟨f,g⟩,I.ok.bs,I.ok.vF,λb o q a=>by rw[W'.mp a]at q;exact i o q,λb a=>by rwa[W'.mp a],I.ok.iz,I.ok.zk⟩,
  I.os,I.bare,I.base.mono (λ_ h=>h) (by simp_all),I.loc,I.cell,I.free,I.dX,I.pin,I.hok,I.len⟩
structure vR(l:List ZR)(e:b')(oe:Obj)(T:b')(h h':y'):Prop where
 keep:∀b o,b≠e->b∉frs l->h.get? b=some o->h'.get? b=some o
 slot:∀b o,b≠e->h.get? b=some o->∃sl,h'.get? b=some {o with slots:=sl}
 at_:h'.get? e=some (oe.mapFields (·.setIfInBounds 1 (.ref T)))
 tb:∃oT ts,h'.get? T=some oT/\oT.data=.fields ts/\ts[3]?=some .none
 new:h.objs.size<=T
def qO(h:y')(c:Array f'):Prop:=c[1]?=some .none\/∃d a b,c[1]?=some (.ref d)/\h.get? d=some a/\a.data=.fields b/\b[3]?=some .none
variable{Y4:List ZR}{m4:ZR}{u5:Model}
theorem vS{s:j'}{head:f'}{e:Bool}(y:X.frames=some (m4::Y4))(D:s.heap.FunFrames z (m4::Y4))(F:m4.frame=some h)(G:s.heap.get? I=some Ξ)(E:Ξ.data=.fields B5)(p:1<B5.size)(m:∀h' T,vR (m4::Y4) I Ξ T s.heap h'->A3 () {s with heap:=h' }):
  nc u5 X (do let a ←frameOf m4;let w ←entryPlaceOf h e;let b ←ac1 head a .none (rawInt h) .none w;setField (.ref I) 1 b) (λ_ H=>nc u5 X (ĸ (.ref I) none) A3 ζ H) ζ s:=by
 refine p' (wpAny_frameOf_fun y D F λc d=>?_)
 refine p' (wpAny_entryPlaceOf λw A=>?_)
 refine p' (abY ?_ (A.sizeOk5 _ _ _ _ _))
 have g:=(d.2.1 I (λJ=>by
  obtain⟨_,o,M,K⟩:=D.mem J
  simp_all)).trans G
 generalize B:({cls:=.type _,dict:=none,data:=.fields _}:Obj)=r at *;have i:r.data=.fields ([head,.ref h,.none,rawInt h,.none]++(if w.isEmpty then ć 6 Ė else w)).toArray:=by grind
 have j:=ZQ r g;have t:=É (I' g);refine ϐ j E p ?_;have k:=Ş E (·.setIfInBounds 1 (À c.objs.size));have n:=Ď _ j (abZ k);have l:((c.push r).update I (aam (·.setIfInBounds 1 (À c.objs.size)))).get? _=some r:=(ø _ _ (ZT t)).trans (Ê _ (by rw[←B];rfl))
 refine p' (ş n k (x:=.ref c.objs.size) (by simp[p]) ?_)
 refine ϐ l i (by simp) (m _ c.objs.size ?_)
 have keep:∀b o,b≠I->c.get? b=some o->(((c.push r).update I (aam (·.setIfInBounds 1 (À c.objs.size)))).update _ (aam (·.setIfInBounds 3 ((none).elim Ė λf=>rawInt f)))).get? b=some o:=λb o C u=>by
  rw[ø _ _ (É (I' u)),ø _ _ (ZT C)];exact ZQ _ u
 refine⟨λb o u L q=>keep b o u ((d.2.1 b L).trans q),λb o u q=>?_,?_,?_,by rw[d.1];exact M' _⟩
 .obtain⟨N,O⟩:=d.2.2 b o q
  simp_all
 .rwa[ø _ _ t]
 .exact⟨_,_,Ď _ l (abZ (Ş i _)),Ş i _,by simp⟩
theorem zZ{s:j'}(b:X.frames=some (m4::Y4))(j:s.heap.FunFrames z (m4::Y4))(f:m4.frame=some h)(d:s.heap.get? I=some Ξ)(e:Ξ.data=.fields B5)(c:qO s.heap B5)(a:∀h' T,vR (m4::Y4) I Ξ T s.heap h'->A3 () {s with heap:=h' }):
  nc u5 X (ϑ (.ref I) m4) (λ_ l=>nc u5 X (ĸ (.ref I) none) A3 ζ l) ζ s:=by
 unfold ϑ;simp only[f];rcases c with c|⟨m,n,o,c,g,i,k⟩
 .refine p' (ş d e c (vS b j f d e (by grind) a))
 .refine p' (ş d e c ?_)
  refine p' (ş g i k ?_);refine p' (ϐ g i (by grind) ?_)
  rw[ab_ _ m _ _ 3 _ g i k];exact vS b j f d e (by grind) a
theorem pF{s:j'}(b:X.frames=some (m4::Y4))(c:s.heap.FunFrames z (m4::Y4))(d:m4.frame=some h)(e:s.heap.get? I=some Ξ)(f:Ξ.data=.fields B5)(g:qO s.heap B5)(a:∀h' T,vR (m4::Y4) I Ξ T s.heap h'->A3 () {s with heap:=h' }):nc u5 X (ŷ m4 (.ref I)) A3 ζ s:=p' (zZ b c d e f g a)
variable{i9:ň->j'->Prop}{m:pd}{n:Pos}
theorem yg(i:W4.contains (.type "BaseException")=true)(p:X.handled=none)(f:nc u5 X (eval m m4) (λv b=>∃a od t,v=.ref a/\b.heap.get? h=some (ķ e M h I χ W4 C l T7 P1 Q7 A4 T4 F7 G7 J7 L7 C3)/\b.heap.get? a=some (cq h od t)/\ζ (.ref a) b) ζ s):
  nc u5 X (exec (.Raise (some m) none n) m4) i9 ζ s:=by
 first
  |exact p' (ϒ (by
    have j:(À h::W4).contains (.type "BaseException")=true:=by simp_all
    unfold raiseStmt;refine p' (Í (p' (Í f (λv b c=>p' (ϒ (U' c))) λ_ _ m=>m)) (λv b c=>?_) λ_ _ m=>m)
    refine dI c λa od t k q o r=>?_;subst k
    obtain⟨u,g,d,w,x⟩:=b;have o:u.get? a=some ⟨.ref h,od,_,#[]⟩:=o
    repeat (first | (with_reducible refine abO q ?_;rw[j])|wp_step)
    exact wpAny_raiseNew_none p r))
structure nE(P:X')(w:O')(outer:List ZR)(H:Hp)(s:j')(e C d:b')(H':Hp)(s':j'):Prop where
 os:s'.os=s.os
 bare:ó s'.gens
 un:Un (frs outer) [] H H' s.heap s'.heap
 hok:iE P w H' s'.heap
 new:s.heap.objs.size<=e
 free:H' e=none
 obj:∃oe vs,s'.heap.get? e=some oe/\oe.cls=.ref C/\oe.dict=some d/\oe.data=.fields vs/\qO s'.heap vs
noncomputable def jm(P:X')(w:O'):zl:=λouter H s E x b=>∃e C d a,x=.ref e/\nE P w outer H s e C d a b/\E (.ref C) (some d) a
theorem z_(e:Inv c E Q d s)(x:c.ex=[])(j:c.stack=c.env::c.outer)(k:c.env.frame=some c.env.locals)(G:s.heap.get? h=some (cq I (some Δ) E1))(y:c.s₀.heap.objs.size<=h)(H:d h=none)(f:∀B,nE c.prog c.w c.outer c.H₀ c.s₀ h I Δ d B->A3 () B):nc (l' c.prog c.w) c.A (ŷ c.env (.ref h)) A3 ζ s:=by
 have l:=e.ok.frames;rw[j]at l;have C:=e.stack;rw[j]at C;refine pF l C k G rfl (.inl rfl) λO T F=>f _ ?_
 have p:∀b u,d b=some u->b∉frs _:=λb u q z=>by
  have:=e.kh b (by omega)
  grind
 have g:∀b o,c.s₀.heap.get? b=some o->b≠h/\b≠c.env.locals:=λb o q=>⟨λz=>by rw[z]at q;exact absurd (R' (I' q) y) (by simp),λz=>by rw[z]at q;exact absurd (R' (I' q) e.ok.above) (by simp)⟩
 refine⟨e.os,e.bare,⟨λb o q n i _=>?_,λb o q n i _=>?_,λb o q n _=>e.base.free b o q n (by simp_all),λb o q _=>?_,e.base.tups,e.base.fB,e.base.gC⟩,λa u q=>?_,y,H,?_⟩
 .exact F.keep b o (g b o q).1 ((λb o q i z=>by
  unfold frs at z;rw[ũ,k]at z;rcases Æ.mp z with z|z
  .grind
  .exact i z) b o q i) (e.base.keep b o q n i (by rw[x];simp))
 .obtain⟨P,r⟩:=e.base.slot b o q n i (by rw[x];simp)
  obtain⟨t,D⟩:=F.slot b _ (g b o q).1 r
  simp_all
 .obtain⟨R,r⟩:=e.base.there b o q (by simp_all)
  obtain⟨t,D⟩:=F.slot b _ (g b o q).1 r;exact⟨_,D⟩
 .refine(e.hok a u q).stay (λb J i m=>F.keep b J (λz=>?_) ?_ m) (λb m=>m) λb S m=>m
  .simp_all
  grind
 .refine aW F.tb λoT K L M N=>?_
  exact⟨_,_,F.at_,rfl,rfl,rfl,.inr ⟨T,oT,K,by simp,L,M,N⟩⟩
noncomputable def Cx.jI(X:Cx)(e:b'):Cx:={X with A:=X.A.mark (some (.ref e)),calm:=false,xe:=λ_ _=>False}
theorem Inv.jI{X:Cx}{pins:List (b'×Obj)}{a:St}{H:Hp}{s:j'}{e:b'}(I:Inv X pins a H s):Inv (X.jI e) pins a H s:=
 ⟨⟨I.ok.mod,I.ok.kind,I.ok.glob,I.ok.blt,I.ok.above,I.ok.inj,I.ok.has,I.ok.cab,(λz=>nomatch (z)),I.ok.frames,I.ok.GJ,I.ok.HL,I.ok.bs,I.ok.vF,I.ok.su,I.ok.sv,I.ok.iz,I.ok.zk⟩,
  I.os,I.bare,I.base,I.loc,I.cell,I.free,I.dX,I.pin,I.hok,I.len⟩
theorem Inv.flown{s:j'}(f:Inv c [] Q d s)(F:vR c.stack h Ξ I s.heap z)(i:yf c h)(k:h≠c.env.locals)(G:d h=none):Inv c [] Q d {s with heap:=z}:=by
 refine f.step (ch:=[h]) (λb g=>?_) (λb o t g l q n=>F.keep b o (by grind) (λe=>((λb e=>Æ.mp (f.qm b e)) b e).elim t g) q) (λb o _ _ l q _=>F.slot b o (by grind) q) (λ_ _ _ _ n=>n) (λb o l q=>?_) (λ_ _ q=>q) (λ_ _ _ q=>q) (λb H q=>⟨#[],by simp_all⟩) (λm w=>?_) (λa u q=>?_) f.bare
 .rw[W'.mp g]
  exact⟨i.new,k,i.cell,λp J=>i.pn p (by simp_all)⟩
 .obtain⟨x,r⟩:=F.slot b o (by grind) q
  simp_all
 .refine cB w λo y A B C D=>?_
  obtain⟨x,r⟩:=F.slot _ o (ZT k) B;exact⟨_,y,A,r,C,D⟩
 .refine(f.hok a u q).stay (λb E g j=>F.keep b E (λe=>?_) (λe=>?_) j) (λ_ j=>j) (by simp)
  .simp_all
  .have K:=f.kh b e
   simp_all
theorem nF{b:Array f'}(e:s.heap.get? h=some Ξ)(f:Ξ.data=.fields B5)(g:B5[1]?=some (.ref I))(d:s.heap.get? I=some S7)(a:S7.data=.fields b)(i:b[3]?=some .none)(c:A3 () s):
  nc u5 X (ĸ (.ref h) none) A3 ζ s:=by
 refine p' (ş e f g ?_);refine ϐ d a (by grind) ?_
 have:=ab_ _ I S7 b 3 _ d a i
 simp_all
structure PH(K:A')(C:b'):Prop where
 ha:Ä K (.ref C) "__class__"=some (some (.builtin "object.__class__"))
 hn:Ğ K (.builtin "object.__class__") "__get__"=some (some (.builtin "getset_descriptor.__get__"))
 ht:Ő K (.builtin "object.__class__")=some true
 hm:ő K C (.type "object")=some true
def nG(X:Cx)(z:Str×Pos)(a:f'):Prop:=∀(E:f'->j'->Prop) (pins:List (b'×Obj)) (s:j') (b:St) (H:Hp) (Q:f'->j'->Prop),Inv X pins b H s->Q a s->nc (l' X.prog X.w) X.A (eval (.Name z.1 z.2) X.env) Q E s
theorem uO(a:Gl c e)(b:c.mg e=some N)(d:(e==("__debug__":Str))=false):nG c (e,n) N:=λE pins s f H Q I q=>eW I a b q d
theorem uP(a:Gl c e)(b:c.mg e=none)(d:ò e=some N)(f:e≠"__name__")(g:(e==("__debug__":Str))=false):nG c (e,n) N:=λE pins s h H Q I q=>jQ I a b d q f g
theorem Inv.gone{s:j'}(ok:c.Ok)(I:Inv (c.jI h) E Q d s)(G:c.N.Nodup)(H:c.N[w]?=some e)(J:∀(j:Nat) (x:Str) (v:V),c.N[j]?=some x->Q[j]?=some (some v)->zj c.env.scope x->∃u,RelV v u/\Look c.env s.heap Y x u)(K:z.Ns c.env.locals (λx=>if x=e then T4 else Y x))(L:ņ c.env.locals s.heap z):Inv c [] (Q.set w none) d {s with heap:=z,toks:=b}:=by
 have k:∀f o,f≠c.env.locals->s.heap.get? f=some o->z.get? f=some o:=λf o l q=>(L.2 f l).trans q
 have t:∀f o,c.s₀.heap.get? f=some o->f≠c.env.locals:=λf o q=>Q' (R' (I' q) I.ok.above)
 refine⟨ok,I.os,I.bare,⟨λf o q e l m=>k f o (t f o q) (I.base.keep f o q e l m),λf o q e l m=>?_,I.base.free,λf o q m=>?_,I.base.tups,I.base.fB,I.base.gC⟩,⟨_,K,λj x v y i M=>?_⟩,λx g q=>?_,I.free,I.dX,λp D=>?_,λa u q=>?_,by rw[aan];exact I.len⟩
 .obtain⟨sl,A⟩:=I.base.slot f o q e l m
  simp_all
 .obtain⟨o',A⟩:=I.base.there f o q m
  simp_all
 .by_cases n:j=w
  .rw[aao]at i
   simp_all
  .rw[ă (ZT n)]at i
   obtain⟨u,O,P⟩:=J j x v y i M;refine⟨u,O,?_⟩;rcases P with ⟨B,C⟩|⟨B,g,C,o,R,l4⟩
   .exact .inl ⟨B,by dsimp only;rwa[if_neg (λS=>by
    subst S;exact n ((Ē (ZS.mp y).1 G).mp (y.trans H.symm)))]⟩
   .exact .inr ⟨B,g,C,o,k g o (I.LJ x g C) R,l4⟩
 .obtain⟨v,o,A,T⟩:=I.cell x g q
  exact⟨v,o,k g o (I.LJ x g q) A,T⟩
 .rw[í]at D
  refine iF (I.pin p (by simp[show p∈(c.jI h).pn from D])) λU X F Z a5=>?_
  exact⟨k _ _ F U,X,F,Z,a5⟩
 .refine(I.hok a u q).stay (λf u' l r=>k f u' (λi=>?_) r) (λ_ r=>r) λ_ _ r=>r
  have hf:d c.env.locals=none:=I.free
  simp_all
variable{ο:Hp}
theorem DV{s':j'}{S:List aap}(a:Inv c [] Q d s)(f:nE c.prog c.w c.stack d s h I Δ ο s')(j:c.stack=c.env::c.outer)(E:c.env.frame=some c.env.locals)(G:ο Δ=some (.xd i4))(K:∀(h':y') (g:Obj) (od:Option Obj),Inv c [] Q ο {s' with heap:=h' }->Ϩ h' h g I od->(∀{M:Model}{A:ZW}{ζ:f'->j'->Prop}{i9:Unit->j'->Prop},i9 () {s' with heap:=h' }->nc M A (ĸ (.ref h) none) i9 ζ {s' with heap:=h' }) ->
   g.cls=.ref I->g.dict=some Δ->đ g=true->Inv (c.jI h) [(h,g)] Q ο {s' with heap:=h' }->nc (l' c.prog c.w) c.A (aaq (.ref h) c.env S) i9 ζ {s' with heap:=h' }):
  nc (l' c.prog c.w) c.A (ϑ (.ref h) c.env) (λ_ t=>nc (l' c.prog c.w) c.A (ĸ (.ref h) none) (λ_ u=>nc (l' c.prog c.w) c.A (aaq (.ref h) c.env S) i9 ζ u) ζ t) ζ s':=by
 have H:Inv c [] Q ο s':=a.call' (v:=[]) f.os f.un f.hok f.bare (by simp)
 obtain⟨g,Y,Z,g2,g3,U,V⟩:=f.obj;have y:=H.ok.frames;rw[j]at y;have X:=H.stack;rw[j]at X;have k:∀b o,s.heap.get? b=some o->b≠h:=λb o q z=>by rw[z]at q;exact absurd (R' (I' q) f.new) (Ã _)
 have i:h≠c.env.locals:=λz=>by
  obtain⟨m,⟨o,_,_,L,_⟩,_⟩:=a.loc;exact k _ _ L z.symm
 have fr:yf c h:=⟨.inr (B' a.sz f.new),λx l q=>by
  obtain⟨v,o,N,_⟩:=a.cell x l q;exact k _ _ N,λp hp=>by
  obtain⟨N,_⟩:=a.pin p (by simp[hp])
  exact k _ _ N⟩
 have O:h∉c.fs:=λz=>by
  obtain⟨_,o,L,_⟩:=a.ok.iz.mem z;exact absurd (R' (I' L) (B' a.sz f.new)) (Ã _)
 refine zZ y X E Z U V λh' T F=>?_
 have J:Inv c [] Q ο {s' with heap:=h' }:=H.flown (by rw[j];exact F) fr i f.free
 have n:=F.at_;obtain⟨oT,ts,t1,t2,t3⟩:=F.tb;have B:(g.mapFields (·.setIfInBounds 1 (.ref T))).cls=.ref I:=by rw[ab0];exact g2
 have e:=Ş U (·.setIfInBounds 1 (À T))
 have C:(g.mapFields (·.setIfInBounds 1 (.ref T))).dict=some Δ:=by
  obtain⟨oc,od,dt,sl⟩:=g;cases dt<;>exact g3
 have P:1<Y.size:=by
  rcases V with z|⟨_,_,_,z,_⟩<;>exact(ab1.mp z).1
 generalize (g.mapFields (·.setIfInBounds 1 (.ref T)))=r at *;have D:đ r=true:=by unfold đ;rw[e]
 obtain⟨mA,nA,_⟩:=J.hok Δ _ G;obtain⟨od,gd,_⟩:=gD nA;have R:Ϩ h' h r I (some od):=⟨n,B,D,by rw[C];exact gd⟩
 exact K h' r _ J R (λz=>nF n e (by simp[P]) t1 t2 t3 z) B C D (J.jI.DT n f.free i O (λv=>by rw[e];simp))
noncomputable def Cx.rZ(X:Cx)(a:List (b'×Obj)):Cx:={X with pn:=X.pn++a}
theorem Inv.rZ{X:Cx}{pins:List (b'×Obj)}{a:St}{H:Hp}{s:j'}(I:Inv X pins a H s):Inv (X.rZ pins) [] a H s:=
 ⟨⟨I.ok.mod,I.ok.kind,I.ok.glob,I.ok.blt,I.ok.above,I.ok.inj,I.ok.has,I.ok.cab,I.ok.hd,I.ok.frames,I.ok.GJ,I.ok.HL,I.ok.bs,I.ok.vF,I.ok.su,I.ok.sv,I.ok.iz,I.ok.zk⟩,
  I.os,I.bare,I.base,I.loc,I.cell,I.free,I.dX,λp b=>I.pin p (by simpa[Cx.rZ]using b),I.hok,I.len⟩
theorem Inv.vT(I:Inv (c.rZ E) [] Q d s):Inv c E Q d s:=
 ⟨⟨I.ok.mod,I.ok.kind,I.ok.glob,I.ok.blt,I.ok.above,I.ok.inj,I.ok.has,I.ok.cab,I.ok.hd,I.ok.frames,I.ok.GJ,I.ok.HL,I.ok.bs,I.ok.vF,I.ok.su,I.ok.sv,I.ok.iz,I.ok.zk⟩,
  I.os,I.bare,I.base,I.loc,I.cell,I.free,I.dX,λp a=>I.pin p (by simpa[Cx.rZ]using a),I.hok,I.len⟩
def eY(X:Cx)(b:St)(E:XK):Prop:=∀(pins:List (b'×Obj)) (H:Hp) (s:j') (e:f') (a:j'),Inv X pins b H s->jm X.prog X.w X.stack H s E e a->X.xe e a
variable{L6:Ends}
theorem GU{f:ň}(z:SP ((c.rZ E).wish ζ) [] L6 f s):SP c E L6 f s:=by
 cases f with
 |ret u=>
  refine cB z λv a b J r q=>?_
  exact⟨v,_,b,J.fD.vT,r,q⟩
 |_=>refine cF z λa b J q=>?_;exact⟨_,b,J.fD.vT,q⟩
variable{B1:HO}
theorem Inv.fix(I:Inv c E Q d s)(t:s.heap.get? h=some Ξ)(u:cV c.prog c.w (upd d h (.cZ Ξ B1)) s.heap h B1)(i:d h=none\/∃r,d h=some (.xd r))(j:c.s₀.heap.objs.size<=h)(y:h≠c.env.locals)(l:∀x a,c.env.cells.lookup x=some a->a≠h)(k:∀p∈c.pn++E,p.1≠h):
  Inv c E Q (upd d h (.cZ Ξ B1)) s:=by
 have ne:∀{b:b'}{n:HO},d b=some n->(∀f,n≠.xd f)->b≠h:=λ{b n} q A z=>by
  rw[z]at q;rcases i with i|⟨r,i⟩
  .rw[i]at q;cases q
  .rw[i]at q;cases q;exact A _ rfl
 refine I.step (h':=s.heap) (g':=s.gens) (t':=s.toks) (d':=s.drawn) (ch:=[h]) (λb g=>?_) (λb Ξ _ _ _ q _=>q) (λb Ξ _ _ _ q _=>⟨Ξ.slots,q⟩) (λb Ξ g q o=>?_) (λb Ξ _ q=>⟨Ξ,q⟩) (λb B q=>?_) (λb Ξ C q=>?_) (λb F q=>?_) (λm o=>o) ?_ I.bare
 .rw[W'.mp g]
  exact⟨.inr j,y,l,k⟩
 .rw[ax (by simpa using g)];exact o
 .rw[ax (ne q λ_ z=>nomatch z)];exact q
 .rw[ax (ne q λ_ z=>nomatch z)];exact q
 .exact⟨#[],by rw[ax (ne q λ_ z=>nomatch z),q];simp⟩
 .intro b D q
  by_cases g:b=h
  .subst g
   rw[aR]at q;cases q;exact⟨t,u⟩
  .rw[ax g]at q
   refine(I.hok b D q).stay (λa C _ e=>e) (λa e=>?_) λa B e=>?_
   .rw[ax (ne e λ_ z=>nomatch z)];exact e
   .rw[ax (ne e λ_ z=>nomatch z)];exact e
theorem Inv.SE(J:Inv c [(h,Ξ)] Q d s)(g:c.s₀.heap.objs.size<=h)(i:∀p∈c.pn,p.1≠h):Inv c [] Q (upd d h (nB h Ξ)) s:=by
 obtain⟨e,j,k,n,l⟩:=J.pin (h,Ξ) (by simp)
 refine J.vQ.fix e (DQ (B:=c.prog) (G:=c.w) e).2 (.inl j) g k (λx a q z=>?_) λp b=>i p (by simpa using b)
 subst z;obtain⟨v,o,f,m⟩:=J.cell x a q;rw[e]at f;cases f;exact l v m
def DW(H:Hp)(e:b')(a:Obj):Hp:=upd H e (nB e a)
variable{J:Pos}{T6:j'}{W1:List D'}{ν:D'}
theorem Aa(g:Inv c [] Q d s)(B:nE c.prog c.w c.stack d s h I Δ ο T6)(E:c.stack=c.env::c.outer)(G:c.env.frame=some c.env.locals)(t:ο Δ=some (.xd i4))(hg:Gl c e)(hm:c.mg e=some (.ref E1))(H:Ĺ c.K (.ref I) (.ref E1)=some true)(hN:c.N.Nodup)(hi:c.N[b]?=some M)(L:c.env.scope.names.lookup M=some .local)(l:∀C D,C.cls=.ref I->C.dict=some Δ->đ C=true->Δ≠h->Inv (c.jI h) [] (Q.set b (some (.ref h))) (DW ο h C) D ->
   nc (l' c.prog c.w) (c.A.mark (some (.ref h))) (ė (ν::W1) c.env) (λf s5=>∃r O,Inv (c.jI h) [] r O s5/\∀s6,Inv c [] (r.set b none) O s6->i9 f s6) (λ_ _=>False) D)(P:(e==("__debug__":Str))=false:=by decide):
  nc (l' c.prog c.w) c.A (ϑ (.ref h) c.env) (λ_ u=>nc (l' c.prog c.w) c.A (ĸ (.ref h) none) (λ_ y=>nc (l' c.prog c.w) c.A (aaq (.ref h) c.env [.ExceptHandler (some (.Name e n)) (some M) (ν::W1) J]) i9 ζ y) ζ u) ζ T6:=by
 have R:∀{a j:b'}{o:Obj},s.heap.objs.size<=a->s.heap.get? j=some o->j≠a:=λi q z=>by
  rw[z]at q;exact absurd (R' (I' q) i) (Ã _)
 have S:∀p∈c.pn,p.1≠h:=λp i=>R B.new (g.pin p (by simpa using i)).1
 have T:Δ≠h:=λz=>by
  have:=B.free;rw[←z,t]at this;cases this
 refine DV g B E G t λh' U od k V F X Y Z J'=>?_
 refine wpAny_handleBy_cons (codeAny_handlers_test ?_) (by intro q;cases q)
 refine eW k.jI hg hm ?_ P;refine(PySem.W.exm_one (K:=c.K) k.fg V.type H).here ?_;refine codeAny_handlers_suite_as (F ?_);refine nr (c:=c.jI h) J' hN hi (.inl L) (x:=.ref h) rfl (λD J4=>?_) (.inr L)
 refine Í (l U D X Y Z T (J4.SE (B' g.sz B.new) S)) (λf s5 zq=>?_) (λ_ _ z=>z.elim);refine cF zq λr O J5 q5=>?_
 obtain⟨m,a0,b0⟩:=J5.loc;exact wpAny_nameGoes_keeps L a0 (by rw[g.ok.kind];rfl) λh6 v6 n6 c0=>q5 _ (J5.gone g.ok hN hi b0 n6 c0)
theorem Ab{g:St->St}{f:ň}(z:SP ((c.rZ E).jI h) [] {nx:=λe l=>L6.nx (g e) l,rt:=L6.rt} f s):∃a b,Inv ((c.rZ E).jI h) [] a b s/\∀d,Inv (c.rZ E) [] (g a) b d->SP c E L6 f d:=by
 cases f with
 |next=>
  refine cF z λa b i j=>?_
  exact⟨_,b,i,λd k=>⟨_,_,k.vT,j⟩⟩
 |ret u=>
  refine cB z λv a b i m j=>?_
  exact⟨_,b,i,λd k=>⟨v,_,_,k.vT,m,j⟩⟩
 |brk=>refine cF z λ_ _ _ z=>?_;exact z.elim
 |cont=>refine cF z λ_ _ _ z=>?_;exact z.elim
variable{P0:Pos}{Y7:List D'}{q:b'->Prop}
theorem Mj{W:b'->b'->List (Str×V)->Hp->Prop}(I:Inv c E Q d s)(t:c.stack=c.env::c.outer)(u:c.env.frame=some c.env.locals)(S:Gl c e)(y:c.mg e=some (.ref h))(B:∀C,q C->Ĺ c.K (.ref C) (.ref h)=some true)(T:c.N.Nodup)(U:c.N[b]?=some M)(X:c.env.scope.names.lookup M=some .local)(k:∀xe:f'->j'->Prop,eY ((c.rZ E).wish xe) Q (λD Y i=>∃C a l,D=.ref C/\q C/\Y=some a/\i a=some (.xd l)/\W C a l i)->nc (l' c.prog c.w) c.A (ė W1 c.env) (SP ((c.rZ E).wish xe) [] L6) xe s)(j:∀C g a l o i r,q C->i a=some (.xd l)->W C a l i->i g=none->o.cls=.ref C->o.dict=some a->đ o=true->a≠g->Inv ((c.rZ E).jI g) [] (Q.set b (some (.ref g))) (DW i g o) r ->
   nc (l' c.prog c.w) (c.A.mark (some (.ref g))) (ė (ν::Y7) c.env) (SP ((c.rZ E).jI g) [] {nx:=λF i=>L6.nx (F.set b none) i,rt:=L6.rt}) (λ_ _=>False) r)(G:(e==("__debug__":Str))=false):
  nc (l' c.prog c.w) c.A (exec (.Try W1 [.ExceptHandler (some (.Name e n)) (some M) (ν::Y7) J] [] [] P0) c.env) (SP c E L6) c.xe s:=by
 refine ab2 (Í (k _ ?_) (λf O z=>?_) (λg O z=>z))
 .intro H H1 O x s2 m Z
  refine bp Z λg C' a H2 L P hE=>?_;subst L
  obtain⟨C,d',l,e1,R,e2,p,hW⟩:=hE;cases e1;cases e2;refine Aa (c:=c.rZ _) m.fD.vQ P t u p S y (B _ R) T U X (λo r c1 c2 c3 c4 J4=>?_) G
  refine Í (j _ g a l o H2 r R p hW P.free c1 c2 c3 c4 J4) (λf s5 z=>?_) (λ_ _ z=>z.elim)
  exact Ab z
 .cases f<;>first|exact Ę (GU z)|exact GU z
open PySem.W (InstAt)
def Ac(H:Hp)(e C:b')(b:List (Str×V)):Prop:=∃o a,H e=some (nB e o)/\o.cls=.ref C/\đ o=true/\o.dict=some a/\H a=some (.xd b)
theorem DX(b:Ξ.cls=.ref Δ)(c:đ Ξ=true)(e:Ξ.dict=some I)(a:I≠h)(f:d I=some (.xd i4)):Ac (DW d h Ξ) h Δ i4:=
 ⟨Ξ,I,aR,b,c,e,by unfold DW;rw[ax a];exact f⟩
theorem Ac.grow(a:Ac d h I i4)(c:∀b o u,d b=some (.cZ o u)->ο b=some (.cZ o u))(h':∀b i4,d b=some (.xd i4)->ο b=some (.xd i4)):Ac ο h I i4:=by
 obtain⟨o,e,f,g,i,j,k⟩:=a;exact⟨o,e,c _ _ _ f,g,i,j,h' _ _ k⟩
theorem Ac.inst(a:Ac d h I i4)(b:Inv c E Q d s):∃ox od,InstAt s.heap h ox I (some od):=by
 obtain⟨o,e,f,g,i,j,k⟩:=a;obtain⟨m,l,_⟩:=b.hok e _ k;obtain⟨od,gd,_⟩:=gD l;exact⟨_,od,(b.hok h _ f).1,g,i,by rwa[j]⟩
theorem DY{s:j'}(b:Inv c E Q d s)(a:Ac d h I i4)(T:lp c.K I Δ E1)(i:dw c.K I e)(j:i4.lookup e=some x)(f:∀u,RelV x u->Inv c E Q d {s with toks:=s.toks+1}->ζ u {s with toks:=s.toks+1}):nc (l' c.prog c.w) X (ŏ (.ref h) e C) ζ v3 s:=by
 obtain⟨o,k,m,p,q,t,y⟩:=a;obtain⟨z,n,r⟩:=b.hok k _ y;obtain⟨u,A,g⟩:=iI.some_of (x:=x) (T4:=z e) (by rw[←j];exact r e)
 obtain⟨B,gd,l⟩:=gD n;have J:InstAt s.heap h o I (some B):=⟨(b.hok h _ m).1,p,q,by rwa[t]⟩
 have D:=f u g (b.tok _);have F:=b.fg;obtain⟨G,H,L,M,N⟩:=s;exact vP F J T.xg (ϲ T.hd i (by rfl) (by rw[l,A])) (lb g) D
noncomputable def SF(c:TE)(κ:b'->Bool->Prop):TE:=λd H Q=>c d H λv a=>∃e C f b,v=.ref e/\Ac a e C f/\κ C b/\Q (.bl b) a
variable{υ:TE}
theorem Io{κ:b'->Bool->Prop}(q:PE c m υ)(r:Gl c "isinstance")(t:c.mg "isinstance"=none)(g:nG c (e,J) N)(i:∀C b,κ C b->(∃a l,lp c.K C a l)/\PH c.K C/\à c.K (.ref C) N=some b)(o:x' [m,.Name e J] c.env=(false,eval m c.env)::x' [.Name e J] c.env):
  PE c (.Call (.Name "isinstance" n) [m,.Name e J] [] P0) (SF υ κ):=by
 intro pins s p H Q I h;refine Ć (jQ I r t aar ?_ (by decide) (by decide))
 refine ϻ ?_ o rfl;rw[o];refine Œ (cj (q pins s p H _ I h) λu x ⟨w,H1,J1,y,d,C,fs,b,hw,ha,hk,hq⟩=>?_)
 subst hw;cases (show u=À d from y)
 obtain⟨⟨a,l,T⟩,f,j⟩:=i C b hk;refine Œ (g _ pins x p H1 _ J1 (Ŷ ?_));obtain⟨D,A,k⟩:=ha.inst J1;exact á (zY (S7:=A) T.xg T.hd f.ha f.hn f.ht f.hm) J1.fg k j (λz=>nomatch z) λB=>⟨.bl b,H1,J1.tok B,rfl,hq⟩
def Ml(a:b')(o:Obj):It:=
 ⟨λi H=>∃b,H a=some (.cZ o (.dK b))/\i<b.length,λi H x d=>d=H/\∀b,H a=some (.cZ o (.dK b))->∃c,b[i]?=some c/\x=kV c.1,λi H=>∃b,H a=some (.cZ o (.dK b))/\b.length<=i⟩
theorem gX{α β:Type}{F:α->β->Prop}:∀{xs:List α}{a:List β}{i:Nat}{x:α},Ö F xs a->xs[i]?=some x->∃u,a[i]?=some u/\F x u
 |_,_,_,_,.nil,e=>by simp at e
 |_,_,0,_,.cons r _,e=>by simp_all
 |_,_,i+1,x,.cons _ t,e=>by
  refine bV (gX t (by simpa using e)) λu b c=>?_
  simp_all
variable{Z7:Key}
theorem qP(h:(cR B G).is Z7 N=true):RelV (kV Z7) N:=by
 rcases cg (h)with ⟨i,t,rfl,rfl⟩|⟨x,t,rfl,rfl⟩
 .exact⟨t,rfl⟩
 .exact⟨t,rfl⟩
variable{ba:Array ś}{v5:List (Key×V)}
theorem lr(ok:iE B G d z)(e:d h=some (.cZ Ξ (.dK v5)))(f:Ξ.data=.dict ba b):
  ∃a,KV v5 a/\z.DictAt (cR B G) h a b/\ba.size=a.length/\(h==æ)=false:=by
 obtain⟨g,_,k,a,r,q,l,m,c,n,i,o,j,p⟩:=ok h _ e;rw[g]at c;cases c
 rw[f]at i;cases i
 refine⟨a,r,⟨Ξ,ba,g,n,f,o,j,p⟩,?_,k⟩;rw[←j.length];simp
theorem yh(a j:b')(M:Ξ.data=.dict ba b):Turn B G A m (Ml a Ξ) [j] j (λi h=>h.IsKeyIter j a i ba.size b) where
 mem:=by simp
 obj:=λi h g f l=>by
  refine bF g λΞ e c d=>?_
  simp_all
 keep:=λi h N g k=>by
  refine bF g λΞ e c d=>?_
  exact⟨Ξ,k j (by simp) Ξ e,c,d⟩
 item:=by
  intro X p t u O i pins s R H E I n g w;subst p t u;refine bV w λx y P=>?_
  refine eE (lr I.hok y M) λS r z o _=>?_
  refine bV (gX r (ç P)) λq T rq=>?_
  refine dv (n j (by simp)) λC D U F J K=>?_
  rw[o]at g;refine wpAny_pyNext_dict_item g z T λV N Y L Z=>?_
  refine bF (id L) λo1 e1 c1 d1=>?_
  refine⟨_,rfl,sE e1 c1 d1 (by decide) ⟨_,H,(I.turned (λf Ξ l e=>(Z.2 f l).trans e) C D F J K),qP Y,⟨rfl,λQ a0=>?_⟩,by rwa[o],λf l=>(n f l).1⟩⟩
  simp_all
 done:=by
  intro X p t u O i pins s R H E I n g w;subst p t u;refine bV w λx y P=>?_
  refine eE (lr I.hok y M) λS r z o _=>?_
  refine dv (n j (by simp)) λC D U F J K=>?_
  have hl:=r.length;rw[o]at g;exact wpAny_pyNext_dict_end (I.ok.hd O) g z (by simp_all) λN eb=>⟨rfl,I.turned (λf Ξ l e=>eb f Ξ l e) C D F J K⟩
 self:=λ_ _ _ _ _ g h=>wpAny_pyIter_keyiter g h
theorem Inv.vU(I:Inv c E Q d s)(e:d h=some (.dK v5)):∃o a f,s.heap.get? h=some o/\o.data=.dict a f/\Inv c E Q (upd d h (.cZ o (.dK v5))) s:=by
 obtain⟨z,j,k,r,o,a,f,g,l,i,m,n,p⟩:=I.hok h _ e;refine⟨o,a,f,g,i,?_⟩;have:=qK (b:=s.toks) (B1:=.cZ o (.dK _)) I (by rw[e];exact ë) ⟨rfl,by simp⟩ ⟨o,g⟩ ⟨g,z,j,k,r,o,a,f,g,l,i,m,n,p⟩
 exact this
def Mm(R:It->Hp->Prop)(x:V)(c:Hp):Prop:=∃a b,x=.ref a/\((c a=some (.dK b)/\∀o,R (Ml a o) (upd c a (.cZ o (.dK b))))\/∃o,c a=some (.cZ o (.dK b))/\R (Ml a o) c)
variable{c8:It->Hp->Prop}
theorem DZ(p:Inv c E Q d s)(u:RelV x N)(q:Mm c8 x d):nc (l' c.prog c.w) c.A (Ě N) (PIE c E Q m c8) c.xe s:=by
 obtain⟨a,l,rfl,q⟩:=q;cases (u)
 have f:∀(o:Obj) (g:Array _) (h:Nat) (i:Hp),Inv c E Q i s->i a=some (.cZ o (.dK l))->o.data=.dict g h->c8 (Ml a o) i->nc (l' c.prog c.w) c.A (Ě (.ref a)) (PIE c E Q m c8) c.xe s:=by
  intro o g h i e y j k;refine eE (lr e.hok y j) λB r C D t=>?_
  refine ab3 t C ?_;refine⟨_,_,_,_,i,rfl,(e.kept λb o q=>ZQ _ q),yh a _ j,?_,λb F=>?_,k⟩
  .rw[D]
   exact⟨_,Ê _ rfl,rfl,rfl⟩
  .have z:=by simpa using F
   rw[z];have:=e.zz (M' _) (e.hok.fresh (M' _));exact this
 rcases q with ⟨n,k⟩|⟨o,n,k⟩
 .refine cB (p.vU n) λo g h G j e=>f o g h _ e aR j (k o)
 .obtain⟨G,_,t,B,r,I,g,h,H,J,K,L⟩:=p.hok a _ n
  grind
section
variable{prog:X'}{w:O'}{A:ZW}{E:f'->j'->Prop}{s:j'}
theorem yi{Q:Bool->j'->Prop}(b:s.TypeIs (.ref h) "dict")(a:Q false s):nc (l' prog w) A (ac2 (.ref h)) Q E s:=by
 refine p' (abH b F.slot_dict_len.lookup ?_);generalize c:("dict.__len__")=d;subst c;refine p' (wpAny_isInstance b isSubtype_dict_dict ?_);refine p' (ϓ b (U' a))
theorem qQ{Q:Option f'->j'->Prop}(n:s.heap.get? h=some Ξ)(o:Ξ.cls=.type "list")(f:Ξ.data=.seq B5 b)(p:Ξ.dict=none)(t:A.handled=none)(i:∀h' q,(∀a Ξ,s.heap.get? a=some Ξ->h'.get? a=some Ξ)->Q none {s with heap:=h',toks:=q}):nc (l' prog w) A (Ϗ (.ref h) "keys") Q E s:=by
 obtain⟨c,u,x,y⟩:=Ξ;simp only at o f p;subst o f p;obtain⟨z,g,d,q,B⟩:=s;have r:∀k,(⟨z,g,d,k,B⟩:j').TypeIs (.ref h) "list":=λ_=>⟨_,n,rfl⟩
 have C:=sub_AttributeError;have D:=aas.lookup;have G:=aas.bind (.ref h);have H:=am_list_getattr_none;have j:Ż (.type "list") "keys"=pure none:=am_miss_of_fast (by kernel_rfl)
 unfold Ϗ getAttrBy? getAttrBy
 repeat (any_goals (first|assumption|exact r _ | ((with_reducible show nc _ _ (call (abT "list.__getattribute__") _ _) _ _ _);refine Ģ aas (r _) am_entry_list_getattribute (F.args_list_getattribute_2 _ _) (meets_getattribute_miss_list h B5 b y "keys" _ j (by decide) (by decide)) ⟨n,t,λh' k e l=>?_⟩)|wp_step))
 refine xe l.there λI m=>xe m λJ K=>?_
 show nc _ _ (ab4 _ _ _ _ _ _ _) _ _ _
 unfold ab4
 repeat (any_goals (first|assumption|wp_step))
 exact i _ _ λa Ξ e=>l.keeps a Ξ e
theorem gk:plainId "dict.update.loop"=true:=by decide +kernel
theorem gm:entryFor table "dict.update.loop"=some ŝ.«dict.update.loop» := entryFor_of_fast (by kernel_rfl)
variable{K:Type}[DecidableEq K]{knd:KeyKind prog w K}
theorem uQ{α β:Type}{F G:α->β->Prop}(h:∀a b,F a b->G a b){xs:List α}{c:List β}(r:Ö F xs c):Ö G xs c:=Paired.Du r h
def nH(knd:KeyKind prog w K)(h:y')(p:K×f')(u:f'):Prop:=∃b o a n,u=.ref b/\h.get? b=some o/\o.cls=.type "tuple"/\o.data=.seq #[a,p.2] n/\knd.is p.1 a=true
theorem sU(hh:A.handled=none)(g:Δ≠I)(D:h≠Δ)(E:h≠I)(hl:z.IsList h χ.toArray)(F:f')(S:∀o,z.get? Δ=some o->o.cls≠.type "tuple")(U:∀o,z.get? I=some o->o.cls≠.type "tuple"):
  ∀(j:List (K×f')) (i:Nat) (t:È) (s:j') (c:List (K×f')),Ö (nH knd z) j (χ.drop i)->c.length+j.length<=K'->(∀b o,b≠Δ->b≠I->z.get? b=some o->s.heap.get? b=some o)->s.heap.IsListIter I h i->s.heap.DictOf knd Δ c ->
  (∀h' V,(∀b o,b≠Δ->b≠I->s.heap.get? b=some o->h'.get? b=some o)->h'.DictOf knd Δ (j.foldl (λa p=>Ķ a p.1 p.2) c)->n5 (.ok (.ret F)) {s with heap:=h',toks:=V}) ->
  Ñ (l' prog w) A (.builtin "dict.update.loop" ⟨[.ref Δ,.ref I,.int i t,F],[]⟩) n5 s:=by
 intro j
 induction j with
 |nil=>
  intro i t s c G Q H k X Y;refine ĺ gm ?_;have C:χ.drop i=[]:=by generalize χ.drop i=q at G;cases G;rfl
  refine p' (aa' hh k (let ⟨o,l,r⟩:=hl;⟨o,H h o D E l,r⟩) (by simpa using List.drop_eq_nil_iff.mp C) λh' eb=>?_)
  exact p' (U' (U' (Y h' s.toks (λb o _ R e=>eb b o R e) (X.extBut eb g))))
 |cons p j ih=>
  intro i t s c G Q H k X Y
  have C:∃u r,χ.drop i=u::r/\nH knd z p u/\Ö (nH knd z) j r:=by
   generalize χ.drop i=q at G;cases G with|cons a b=>exact⟨_,_,rfl,a,b⟩
  obtain⟨u,r,C,⟨b,o,g0,n,rfl,l,Z,J,L⟩,a0⟩:=C;have hr:χ.drop (i+1)=r:=by rw[←List.drop_drop,C];rfl
  have b0:b≠Δ:=λe=>S o (e▸l) Z
  have M:b≠I:=λe=>U o (e▸l) Z
  refine ĺ gm ?_
  refine p' (aa9 k (let ⟨o,l,r⟩:=hl;⟨o,H h o D E l,r⟩) (x:=.ref b) (by simpa using (by
   have:=congrArg (·[0]?) C;simpa using this)) λh1 N m=>?_)
  have O:h1.get? b=some o:=(m.2 b M).trans (H b o b0 M l);have c0:h1.DictOf knd Δ c:=X.extBut m.extBut g;refine p' (ā (p' (wpAny_tryCatch ?_)));unfold ac3;refine p' (ϓ (T:="tuple") ⟨o,O,Z⟩ ?_);rw[if_pos (by decide)]
  unfold seqItems?;refine p' (p' (wpAny_load O ?_));rw[J];refine U' (U' ?_);refine ā (wpAny_dictSet_pairs L c0 (λR d0 P=>?_) (by simp at Q;exact B' (ģ _ _) Q))
  refine U' ⟨ħ gk _,?_⟩;have keep:∀d f,d≠Δ->d≠I->s.heap.get? d=some f->R.get? d=some f:=λd f y B e=>(P.2 d y).trans ((m.2 d B).trans e)
  have:=ih (i+1) 0 {s with heap:=R,toks:=s.toks+1} (Ķ c p.1 p.2) (by rw[hr];exact a0) (by have:=stored_length_le c p.1 p.2;simp at Q;omega) (λd f y B e=>keep d f y B (H d f y B e)) (N.at λo e=>(P.2 I (ZT g)).trans e) d0 (λh' V e0 f0=>Y h' V (λd f y B e=>e0 d f y B (keep d f y B e)) f0)
  exact this
theorem nI{G:List (K×f')}(X:A.handled=none)(Y:s.heap.get? h=some Ξ)(M:Ξ.cls=.type "list")(f:Ξ.data=.seq χ.toArray b)(hd:Ξ.dict=none)(hp:Ö (nH knd s.heap) G χ)(N:G.length<=K')(i:∀h' O,(∀c Ξ,s.heap.get? c=some Ξ->h'.get? c=some Ξ)->h'.DictOf knd s.heap.objs.size (G.foldl (λa p=>Ķ a p.1 p.2) [])->ζ (.ref s.heap.objs.size) {s with heap:=h',toks:=O}):
  nc (l' prog w) A (call (.type "dict") [.ref h]) ζ E s:=by
 refine ab5 (Q₁:=λn g=>n=.ref s.heap.objs.size/\g={s with heap:=s.heap.push _}) F.kt_called_dict (F.kt_typeCall_dict_1 _) F.entry_dict_init (kt_code_dict_new _ ⟨rfl,rfl⟩) ?_
 rintro n g ⟨rfl,rfl⟩;have d:(s.heap.push _).DictOf knd s.heap.objs.size []:=abJ s.heap;have j:=ZQ {cls:=.type "dict",data:=.dict #[]} Y;refine⟨d.typeIs,F.args_dict_init_2 _ _,?_⟩;refine p' ?_;refine p' (wpAny_notOrdered_dict d.typeIs ?_);refine U' ?_
 show nc _ _ (ac4 "dict.__init__" s.heap.objs.size (.ref h) [] .none) _ _ _
 refine p' (ϓ (T:="list") ⟨Ξ,j,M⟩ ?_);rw[if_pos (by decide)]
 refine p' (qQ (A:=A.in1.in1) j M f hd X λm O P=>?_)
 rw[if_pos (by decide)]
 refine p' (Ļ ?_);have o:m.IsList h χ.toArray:=⟨Ξ,P h Ξ j,M,b,f⟩;refine p' (ϔ o ?_);refine U' ⟨ħ gk _,?_⟩;have Z:=λc Ξ e=>P c Ξ (ZQ _ e)
 have q:m.DictOf knd s.heap.objs.size []:=fo (d) λΞ H J e r=>⟨Ξ,H,J,P _ Ξ e,r⟩
 have k:=fo (q) λΞ _ _ e _=>I' e
 have t:h<s.heap.objs.size:=I' Y;generalize hq:m.push _=x;have L:∀c Ξ,m.get? c=some Ξ->x.get? c=some Ξ:=λc Ξ e=>by rw[←hq];exact ZQ _ e
 have y:x.IsListIter m.objs.size h 0:=by rw[←hq];exact⟨_,Ê _ rfl,rfl,rfl⟩
 have B:x.DictOf knd s.heap.objs.size []:=fo (q) λΞ H J e r=>⟨Ξ,H,J,L _ Ξ e,r⟩
 have l:=sU (A:=A.in1) (n5:=wants (λr C=>r=Ė/\ζ (À s.heap.objs.size) C) E) (knd:=knd) (z:=x) (h:=h) (I:=m.objs.size) (Δ:=s.heap.objs.size) (χ:=χ) X (Q' k) (Q' t) (Q' (Ā t k))
  (let ⟨Ξ,e,r⟩:=o;⟨Ξ,L _ Ξ e,r⟩) .none (λΞ e=>by
   refine cB B λo' H J Q D _=>?_
   rw[e]at Q;cases Q
   rw[D.1];decide) (λΞ e=>by
   refine bF y λo' Q D _=>?_
   grind) G 0 0 {s with heap:=x,toks:=O} [] (by
   rw[ab6]
   exact uQ (λp u R=>by
    refine bp R λc Ξ l b e1 e2 r=>?_
    exact⟨c,Ξ,l,b,e1,L _ _ (Z _ _ e2),r⟩) hp) (by simpa using N) (λc Ξ _ _ e=>e) y B (λh' S U V=>?_)
 .exact l
 .refine⟨rfl,i h' S (λc Ξ e=>U c Ξ ?_ ?_ (L _ _ (Z _ _ e))) V⟩
  .exact Q' (I' e)
  .exact Q' (Ā (I' e) k)
theorem nJ{kvs:List (K×f')}(hh:A.handled=none)(lo:(h==æ)=false)(da:s.heap.DictAt knd h kvs b)(hn:kvs.length<=K')(hQ:∀h' tk f N,(∀a o,s.heap.get? a=some o->h'.get? a=some o)->h'.get? s.heap.objs.size=some {cls:=.type "list",dict:=none,data:=.seq f N,slots := #[]}->ItemsOf (λi v=>∃k x,kvs[i]?=some (k,x)/\knd.is k v=true) f kvs.length->ζ (.ref s.heap.objs.size) {s with heap:=h',toks:=tk}):
  nc (l' prog w) A (call (.type "list") [.ref h]) ζ E s:=by
 refine ab5 (Q₁:=λy n=>y=.ref s.heap.objs.size/\n={s with heap:=s.heap.push {cls:=.type "list",data:=.seq #[]} }) F.called_list (F.typeCall_list_1 _) F.entry_list_init
  (code_list_new _ ⟨rfl,rfl⟩) λy n B=>?_
 obtain⟨rfl,rfl⟩:=B;generalize d:s.heap.objs.size=S;have J:(s.heap.push {cls:=.type "list",data:=.seq #[]}).get? S=some {cls:=.type "list",data:=.seq #[]}:=by rw[←d];exact Ê _ rfl
 refine⟨⟨_,J,rfl⟩,F.args_list_init_2 _ _,?_⟩;refine p' ?_;unfold ac5;refine p' (wpAny_seqItems J rfl (U' ?_));refine p' (aat J rfl ?_);have c:=Ď (ĉ (λ_=>(#[]:Array f'))) J rfl
 have p:S≠h:=λe=>by
  refine cF da λo es q _=>?_
  exact Ã _ ((e▸d)▸I' q)
 refine p' (aau ?_);generalize O:(s.heap.push {cls:=.type "list",data:=.seq #[]}).update S (ĉ (λ_=>(#[]:Array f')))=g at c
 have k1:∀a o,s.heap.get? a=some o->g.get? a=some o:=λa o e=>by
  rw[←O];exact(ø _ _ (λz=>Ã _ ((z▸d)▸I' e))).trans (ZQ _ e)
 have m:g.DictAt knd h kvs b:=da.at' λo e=>k1 h o e
 have P:({s with heap:=g}:j').TypeIs (.ref h) "dict":=let ⟨o,_,q,Q,_⟩:=m;⟨o,q,Q.1⟩
 show nc _ _ (ab7 (.ref S) (.ref h) .none) _ _ {s with heap:=g}
 unfold ab7;refine p' (ϓ P ?_);have R:ab8 (.ref S) (.ref h)=false:=by simp[ab8,p]
 have T:(Ń "dict"==Ń "list")=false:=by decide
 have U:(Ń "dict"==Ń "tuple")=false:=by decide
 simp only[R,T,U,Bool.or_false,aav,if_false];refine p' (ab3 lo m ?_);generalize C:g.push {cls:=.type "dict_keyiterator",data:=.fields #[.ref h,.int 0 0,.int kvs.length 0,.int b 0]}=r;have L:∀a o,g.get? a=some o->r.get? a=some o:=λa o e=>by rw[←C];exact ZQ _ e
 have V:r.IsKeyIter g.objs.size h 0 kvs.length b:=by rw[←C];exact⟨_,Ê _ rfl,rfl,rfl⟩
 have D:r.DictAt knd h kvs b:=m.at' λo e=>L h o e
 have X:({s with heap:=r}:j').TypeIs (.ref h) "dict":=let ⟨o,_,q,Q,_⟩:=D;⟨o,q,Q.1⟩
 refine p' (ā (yi (s:={s with heap:=r}) X ?_));refine aaw (λ_=>?_) (λY=>absurd (by decide) Y)
 refine p' (Ļ ?_);refine p' ?_
 show nc _ _ (updateSeq S (·.push .none) >>= λ_=>updateSeq S (·.pop)) _ _ _
 refine p' (aat (L _ _ c) rfl ?_);have j:=Ď (ĉ (·.push Ė)) (L _ _ c) rfl;refine aat (hz:=by decide) j rfl ?_
 have l:=Ď (ĉ (·.pop)) j rfl;refine U' ⟨ħ F.plain_extend_loop _,?_⟩;generalize Z:(r.update S (ĉ (·.push Ė))).update S (ĉ (·.pop))=h3 at l
 have k3:∀a o,a≠S->r.get? a=some o->h3.get? a=some o:=λa o t e=>by
  rw[←Z];exact(ø _ _ (ZT t)).trans ((ø _ _ (ZT t)).trans e)
 have a0:h<g.objs.size:=cF (m) λo _ q _=>I' q
 have u:S<g.objs.size:=I' c;have W:=(Walks.dictKeys (prog:=prog) (w:=w) (A:=A.in1.in1) (knd:=knd) hh g.objs.size h (Q' a0) kvs b).toS;refine codeAny_extend_loopS W hn S (λM=>?_) .none kvs.length 0 _ #[] _ rfl (Ì _) ⟨V.at λo e=>k3 _ o (ZT (Q' u)) e,D.at' λo e=>k3 _ o (ZT p) e⟩ l (ItemsOf.nil _) λs' f N M G H=>?_
 .rcases Æ.mp M with e|e
  .exact Q' u e
  .exact p (by simpa using e)
 .rw[Moved.eq_with M]at G ⊢
  refine⟨rfl,?_⟩;have:=hQ s'.heap s'.toks f N (λa o e=>M.heap a o (λI=>?_) (k3 _ _ (λz=>Ã _ ((z▸d)▸I' e)) (L _ _ (k1 _ _ e)))) (by rw[d];exact G) H
  .rw[d]at this;exact this
  .have t:=I' e
   rcases Æ.mp I with e' |e'
   .rw[e',←d]at t;exact Ã _ t
   .have e':a=g.objs.size:=by simpa using e'
    rw[e',d]at t;exact Ã _ (Ā t u)
end
variable{G9:Nat->f'->Prop}{O:List V}
theorem D_(h:ItemsOf G9 B5 O.length)(f:∀(i:Nat) (u:f') (v:V),G9 i u->O[i]?=some v->RelV v u):Vals O B5.toList:=by
 have c:∀(l:List _) (O:List V),l.length=O.length->(∀(i:Nat) (u:f') (v:V),l[i]?=some u->O[i]?=some v->RelV v u)->Vals O l:=by
  intro l
  induction l with
  |nil=>intro O h _;cases O with|nil=>exact .nil|cons a b=>simp at h
  |cons u l g=>
   intro O h d;cases O with
   |nil=>simp at h
   |cons v O=>exact .cons (d 0 u v rfl rfl) (g O (by simp_all) λi j k m e=>d (i+1) j k (by simp_all) (by simp_all))
 exact c _ _ (by rw[Array.length_toList,h.1]) λi u v m e=>f i u v (h.2 i u (by simp_all)) e
theorem uR(m:c.calm=true):fq c (.type "list") (λxs H Q=>∃a kvs,xs=[V.ref a]/\Rd H a (.dK kvs)/\∀l,H l=none->Q (.ref l) (upd H l (.lst (kvs.map λb=>kV b.1)))):=by
 intro pins s R H xs S Q I r h;obtain⟨a,kvs,rfl,n,q⟩:=h;obtain⟨u,rfl,p⟩:=vals1 r;cases p;refine iG (iN I.hok n) λz t T d w=>?_
 refine dI w λo y U A B C D=>?_
 have f:=d.length;refine nJ (I.ok.hd m) t ⟨o,y,A,B,C,D⟩ (B' (V' f.symm) z) λE X g F G e J=>?_
 exact⟨.ref _,_,I.laid G (M' _) (show cV _ _ _ E _ (.lst _)from⟨by simp_all,_,F,(D_ (by rw[ZZ,←f]at *;exact J) λi u v K Y=>by
  refine cF K λk x L M=>?_
  have N:∃b,kvs[i]?=some b/\v=kV b.1:=by
   grind
  obtain⟨b,O,rfl⟩:=N;obtain⟨Z,j,P⟩:=gX d O;rw[L]at j;cases j
  rw[P.1];exact qP M),by omega⟩),rfl,q _ (I.hok.fresh (M' _))⟩
theorem nK:fq c (.type "dict") (λxs H Q=>∃a kvs,xs=[V.ref a]/\Rd H a (.dK kvs)/\∀l,H l=none->Q (.ref l) (upd H l (.dK kvs))):=by
 intro pins s p H xs t Q I r h;obtain⟨a,kvs,rfl,g,q⟩:=h;obtain⟨u,rfl,i⟩:=vals1 r;cases i;refine iG (iN I.hok g) λz j w d k=>?_
 have m:=d.length;refine kt_call_dict j k (B' (V' m.symm) z) λx f n=>?_
 exact⟨.ref _,_,I.laid (λb o e=>(n.2 b (Q' (I' e))).trans (ZQ _ e)) (M' _) (uN z (beq_eq_false_iff_ne.mpr (ZT (Q' I.big))) d f),rfl,q _ (I.hok.fresh (M' _))⟩
theorem nL(T:c.calm=true):fq c (.type "dict") (λxs H Q=>∃a j d,xs=[V.ref a]/\Rd H a (.lst j)/\Ö (λ(p:Key×V) (y:V)=>∃b,y=.ref b/\Rd H b (.tup [kV p.1,p.2])) d j/\∀l,H l=none->Q (.ref l) (upd H l (.dK (d.foldl (λa p=>putK a p.1 p.2) [])))):=by
 intro pins s σ H xs U Q I r h;refine dI h λa j d D X x q=>?_;subst D
 obtain⟨u,rfl,E⟩:=vals1 r;cases E;obtain⟨g,k,⟨o,n,Y,F,G,m⟩,Z⟩:=I.list (.inl X)
 have J:∀{d:List (Key×V)}{j:List V}{g:List f'},Ö (λ(p) (y:V)=>∃b,y=.ref b/\Rd H b (.tup [kV p.1,p.2])) d j->Vals j g->∃i,KV d i/\Ö (nH (cR c.prog c.w) s.heap) i g:=by
  intro d j g x k
  induction x generalizing g with
  |nil=>cases k;exact⟨[],.nil,.nil⟩
  |@cons p y d j z _ A=>
   cases k with
   |@cons _ u _ U E k=>
    obtain⟨i,B,C⟩:=A k;obtain⟨b,rfl,hb⟩:=z;cases (E);refine xa (zP I.hok hb) λ_ K=>bV K λP t L=>bF L λo' e1 e2 M=>xe M λn' e3=>?_
    cases t with
    |@cons _ k' _ r1 rk t=>
     cases t with
     |@cons _ v' _ r2 N t=>
      cases t with
      |nil=>exact⟨(p.1,v')::i,.cons ⟨rfl,N⟩ B,.cons ⟨b,o',k',n',rfl,e1,e2,e3,pA rk⟩ C⟩
 obtain⟨i,B,C⟩:=J x k;have hl:=B.length;have O:=ń x;refine nI (I.ok.hd T) Y F m G C (B' (B' (V' hl.symm) (V' O)) Z) λh' tk kp dd=>?_
 have hf:∀{d:List (Key×V)}{i:List _} (e:List (Key×V)) (f:List _),KV e f->KV d i->KV (d.foldl (λa p=>putK a p.1 p.2) e) (i.foldl (λa p=>Ķ a p.1 p.2) f):=by
  intro d i e f R r
  induction r generalizing e f with
  |nil=>exact R
  |@cons p q d i z _ A=>
   simp;refine A _ _ ?_;rw[←z.1];exact R.put p.1 z.2
 have S:∀(d:List (Key×V)) (e:List (Key×V)),(d.foldl (λa p=>putK a p.1 p.2) e).length<=e.length+d.length:=by
  intro d
  induction d with
  |nil=>simp
  |cons p d A=>
   intro e;have C:=iM e p.1 p.2
   grind
 exact⟨.ref _,_,I.laid kp (M' _) (uN (by
  grind) (beq_eq_false_iff_ne.mpr (ZT (Q' I.big))) (hf _ _ .nil B) dd),rfl,q _ (I.hok.fresh (M' _))⟩
noncomputable def r_(B:b'->Prop)[DecidablePred B](H:Hp):Hp:=λb=>if B b then (match H b with|some (.cZ _ u)=>some u|x=>x)else H b
structure Mn(B:b'->Prop)(H H':Hp):Prop where
 Ad:∀b,B b->∃o kvs,H' b=some (.cZ o (.dK kvs))
 was:∀b,B b->∃kvs,H b=some (.dK kvs)
section
variable{B:b'->Prop}[DecidablePred B]{H H':Hp}{b:b'}{o:Obj}{u:HO}{P:X'}{w:O'}{h h':y'}{fs ex:List b'}
theorem uS(a:B b)(q:H b=some (.cZ o u)):r_ B H b=some u:=by unfold r_;simp_all
theorem b9(a:¬ B b):r_ B H b=H b:=by unfold r_;simp_all
theorem Ae{x:Option HO}(c:∀b,B b->∃o kvs,H b=some (.cZ o (.dK kvs)))(q:H b=x)(a:∀o kvs,x≠some (.cZ o (.dK kvs))):r_ B H b=x:=by
 rw[b9,q];intro d;obtain⟨o,kvs,z⟩:=c b d;exact a o _ (q.symm.trans z)
theorem iE.oY(x:iE P w H h)(c:∀b,B b->∃o kvs,H b=some (.cZ o (.dK kvs))):iE P w (r_ B H) h:=λa i e=>by
 have f:∀b y,H b=some (.own y)->r_ B H b=some _:=λb y q=>Ae c q (λ_ _ z=>by cases z)
 have g:∀b j,H b=some _->r_ B H b=some (.tup j):=λb y q=>Ae c q (λ_ _ z=>by cases z)
 by_cases d:B a
 .obtain⟨k,kvs,q⟩:=c a d
  rw[uS d q]at e;cases e;obtain⟨_,y⟩:=x a _ q;exact cV.stay y (λ_ _ _ z=>z) (λb q=>f b _ q) g
 .rw[b9 d]at e
  exact(x a i e).stay (λ_ _ _ z=>z) (λb q=>f b _ q) g
theorem Un.oY(a:Un fs ex H H' h h')(t:Mn B H H'):Un fs ex H (r_ B H') h h' where
 keep:=a.keep
 slot:=a.slot
 free:=λb o e n d=>by
  rw[b9,a.free b o e n d];intro c;obtain⟨_,z⟩:=t.was b c;grind
 there:=a.there
 tups:=λb f e=>by
  rw[b9,a.tups b f e];intro c;obtain⟨_,z⟩:=t.was b c;simp_all
 fB:=λb o u e=>by
  rw[b9,a.fB b o u e];intro c;obtain⟨_,z⟩:=t.was b c;simp_all
 gC:=λb g e=>by
  rw[b9]
  .exact a.gC b g e
  intro c;obtain⟨_,z⟩:=t.was b c;simp_all
end
open Classical in
def spT(sp:Sp):Sp:=λb H Q E=>sp b H (λv a=>∃B:b'->Prop,Mn B H a/\Q v (r_ B a)) E
open Classical in
theorem bq.oY{P:X'}{w:O'}{K:A'}{a:Str->Option f'}{base:y'}{CX:zl}{k:Nat}{f:b'}{b:N'}{c:List Str}{sp:Sp}(F:bq P w K a base CX k f b c sp):
  bq P w K a base CX k f b c (spT sp):=
 ⟨λd H Q E q=>F.len _ _ _ _ q,λA outer s H args g d Q E h i j l m=>ÿ (F.run A _ s H _ g d _ E h i j l m) λr C z=>by
  cases r with
  |error e=>exact z
  |ok f=>
   cases f with
   |ret u=>
    obtain⟨v,D,n,o,p,x,y,B,t,q⟩:=z;exact⟨v,_,n,o,p.oY t,x.oY t.Ad,y,q⟩
   |_=>exact z⟩
section
variable{X:Cx}{pins:List (b'×Obj)}{σ σ':St}{H H':Hp}{s s':j'}{B:b'->Prop}[DecidablePred B]
theorem Inv.oY(I:Inv X pins σ H s)(J:Inv X pins σ' H' s')(t:Mn B H H'):Inv X pins σ' (r_ B H') s' where
 ok:=J.ok
 os:=J.os
 bare:=J.bare
 base:=by
  have d:=t.was;refine⟨J.base.keep,J.base.slot,λb o e n f=>?_,J.base.there,λb g e=>?_,λb o u e=>?_,λb h e=>?_⟩
  .rw[b9,J.base.free b o e n f]
   intro a;obtain⟨_,z⟩:=d b a;rw[I.base.free b o e n f]at z;exact bQ z
  .rw[b9,J.base.tups b g e]
   intro a;obtain⟨_,z⟩:=d b a;rw[I.base.tups b g e]at z;cases z
  .rw[b9,J.base.fB b o u e]
   intro a;obtain⟨_,z⟩:=d b a;rw[I.base.fB b o u e]at z;cases z
  .rw[b9]
   .exact J.base.gC b h e
   intro a;obtain⟨_,z⟩:=d b a;obtain⟨_,y⟩:=I.base.gC b h e;simp_all
 loc:=J.loc
 cell:=J.cell
 free:=by
  rw[b9,J.free];intro a;obtain⟨_,_,z⟩:=t.Ad _ a;rw[J.free]at z;exact bQ z
 dX:=λx c e=>by
  rw[b9]
  .exact J.dX x c e
  .intro a
   obtain⟨o,i,z⟩:=t.Ad _ a;obtain⟨v,oc,q,r⟩:=J.cell x c e;obtain⟨w,_,_,A,_,C,D,E,F,_,G,_⟩:=J.hok _ _ z
   simp_all
 pin:=λp j=>by
  obtain⟨k,l,m⟩:=J.pin p j;refine⟨k,?_,m⟩;rw[b9,l];intro a;obtain⟨_,_,z⟩:=t.Ad _ a;simp_all
 hok:=J.hok.oY t.Ad
 len:=J.len
end
open Classical in
theorem PS.oY{X:Cx}{st:D'}{t:TS}(h:PS X st t):PS X st (λE b H=>t {E with nx:=λa c=>∃B:b'->Prop,Mn B H c/\E.nx a (r_ B c)} b H):=λpins s b H D I d=>cj (h _ s b H _ I d) λf e z=>by
 cases f with
 |next=>
  obtain⟨a,c,J,B,t,q⟩:=z;exact⟨_,_,I.oY J t,q⟩
 |_=>exact z
theorem Af{s:j'}(g:Inv c [(h,cq I none o4)] Q d s)(T:lp c.K I Δ E1)(O:dw c.K I e)(P:h∈c.ex\/c.s₀.heap.objs.size<=h)(y:∀k i,c.env.cells.lookup k=some i->i≠h)(A:∀p∈c.pn,p.1≠h)(r:RelV x N)(l:∀n F,d n=none->n≠h->s.heap.objs.size<=n->Inv c [(h,cq I (some n) o4)] Q (upd d n (.xd [(e,x)])) F->A3 () F):nc (l' c.prog c.w) X (Ű (.ref h) e N) A3 ζ s:=by
 refine bF T.cd λcd c1 c2 c3=>?_
 refine iF (g.pin (h,cq I none o4) (by simp)) λG R B S p5=>?_
 have C:=g.hok.fresh (M' _);have t:=É (I' G);refine DS g.fg G c1 c2 c3 T.sa O.taker λH U V Y Z=>l _ _ C t (M' _) ?_
 have I0:=g.vQ;have keep:∀b o,b∉[h]->s.heap.get? b=some o->H.get? b=some o:=λb o j q=>Z b o (by simpa using j) q
 have J:Inv c [] Q (upd d s.heap.objs.size (.xd [(e,x)])) {s with heap:=H,toks:=U}:=by
  refine I0.step (ch:=[h]) (λb j=>?_) (λb o _ _ j q _=>keep b o j q) (λb o _ _ j q _=>⟨o.slots,keep b o j q⟩) (λb o j q D=>?_) (λb o j q=>⟨o,keep b o j q⟩) (λb xs q=>?_) (λb o L q=>?_) (λb ps q=>?_) (λm D=>?_) ?_ g.bare
  .rw[W'.mp j]
   exact⟨P,B,y,λp hp=>A p (by simpa using hp)⟩
  .rw[ax (Q' (I' q))];exact D
  .rw[ax (λz=>by grind)];exact q
  .rw[ax (λz=>by simp_all)];exact q
  .exact⟨#[],by rw[ax (λz=>by simp_all),q];simp⟩
  .refine fo D λo es ep e1 e2=>?_
   exact⟨o,es,ep,keep _ o (by simp[ZT B]) e1,e2⟩
  .intro a o q
   by_cases M:a=s.heap.objs.size
   .subst M
    rw[aR]at q;cases q;refine⟨_,Y,λf=>?_⟩
    by_cases E:f=e
    .rw[E];simp[Ŏ];exact r
    .rw[if_neg E]
     have:(f==e)=false:=by simpa using E
     simp[Ŏ,this];exact trivial
   .rw[ax M]at q
    refine(g.hok a o q).stay (λb L j u=>keep b L (λz=>?_) u) (λb u=>?_) λb xs u=>?_
    .simp_all
    .rw[ax (λz=>by simp_all)];exact u
    .rw[ax (λz=>by grind)];exact u
 exact J.DT V (by rw[ax (ZT t)];exact R) B S (λx=>by simp[cq])
structure oZ where
 fld:Str
 ve:pd
 a1:Pos
 a2:Pos
 a3:Pos
noncomputable def oZ.st(a:Str)(r:oZ):D':=.Assign [.Attribute (.Name a r.a1) r.fld r.a2] r.ve r.a3
def pG(e b:b'):List (Str×TE)->Option b'->List (Str×V)->St->Hp->(Option b'->List (Str×V)->Hp->Prop)->Prop
 |[],d,fs,_,H,Q=>Q d fs H
 | (f,g)::r,none,_,σ,H,Q=>g σ H λv c=>∀a,c a=none->a≠e->b<=a->pG e b r (some a) [(f,v)] σ (upd c a (.xd [(f,v)])) Q
 |_::_,some _,_,_,_,_=>False
def Mo(X:Cx)(H:Hp):Option b'->List (Str×V)->Prop
 |none,fs=>fs=[]
 |some a,fs=>H a=some (.xd fs)/\X.s₀.heap.objs.size<=a
variable{Q8:Option b'->List (Str×V)->Hp->Prop}{W5:oZ}
theorem Ea(T:lp c.K I Δ E1)(F:yf c h)(C:c.N[b]?=some e)(D:zj c.env.scope e)(g:Q[b]?=some (some (.ref h)))(i:(e==("__debug__":Str))=false)(j:(e==("__classdict__":Str))=false)(K:∀od u f x,Inv c [(h,cq I od o4)] Q f x->Mo c f od u->Q8 od u f->nc (l' c.prog c.w) c.A (ė W1 c.env) i9 c.xe x)(E:PE c W5.ve υ)(G:dw c.K I W5.fld)(k:∀m,Ù W5.ve (some (.Attribute (.Name e W5.a1) W5.fld W5.a2)) W5.a3.line m=pure false)(a:Inv c [(h,cq I none o4)] Q d s)(q:pG h c.s₀.heap.objs.size [(W5.fld,υ)] none [] Q d Q8):nc (l' c.prog c.w) c.A (ė (W5.st e::W1) c.env) i9 c.xe s:=by
 refine ū (abr (?_) (k _));refine cj (E _ s Q d _ a q) λu1 V o=>?_;refine aW o λv y H J L=>?_
 refine cj (qo (n:=W5.a1) C D i j _ _ _ y (λz f=>z=.ref h/\f=y) H ⟨.ref h,g,rfl,rfl⟩) λu2 X o=>?_;refine bS o λz Y B M O P=>?_
 subst O P;cases (M);exact Af B T G F.new F.cell F.pn J λR S p r t U=>have l:=B' B.sz t;K _ _ _ S U ⟨aR,l⟩ (L R p r l)
noncomputable def sV(a:Str)(q:Str×Pos×Pos):pd:=.Attribute (.Name a q.2.1) q.1 q.2.2
theorem Ag{X:Cx}{f:St}{H:Hp}{e C N y t:b'}{a:Str}{i:Nat}{l:List (Str×V)}(T:lp X.K C N y)(m:X.N[i]?=some a)(n:zj X.env.scope a)(b:f[i]?=some (some (.ref e)))(c:(a==("__debug__":Str))=false)(d:(a==("__classdict__":Str))=false){pos:Pos}{g:b'}(o:H g=some (.xd l)):
  ∀(L:List (Str×Pos×Pos)) (s:j') {Q:List f'->j'->Prop},(∀q∈L,dw X.K C q.1/\∃v,l.lookup q.1=some v)->Inv X [(e,cq C (some g) t)] f H s->(∀p r,p.length=L.length->Inv X [(e,cq C (some g) t)] f H r->Q p r) ->
   nc (l' X.prog X.w) X.A (spliced (ZP pos (x' (L.map (sV a)) X.env))) Q X.xe s
 |[],s,Q,_,I,h=>Ŷ (h [] s rfl I)
 |q::L,s,Q,x,I,h=>by
  refine xa (x q (by simp)) λz j=>xe j λv B=>?_
  refine Œ (qx rfl (cj (qo m n c d _ _ f H (λw D=>w=.ref e/\D=H) I ⟨_,b,rfl,rfl⟩) λu R E=>?_));refine bS E λw S k F G J=>?_
  subst G;rw[J]at k;cases (F);refine iF (k.pin (e,cq C (some g) t) (by simp)) λM _ _ _ _=>?_
  refine DU k T z M rfl rfl rfl o B λu U O=>Ag T m n b c d o L _ (λP h'=>x P (by simp_all)) O (by simp_all)
variable{m9:b'}{o5:Pos}
theorem Eb{pl:Ø Bool}{L:List (Str×Pos×Pos)}(a:Inv c [(h,cq I A4 o4)] Q d s)(F:yf c h)(T:lp c.K I Δ E1)(B:XBase c.K c.mg M m9)(st:Mo c d A4 i4)(z:∀q∈L,dw c.K I q.1/\∃v,i4.lookup q.1=some v)(j:L.length<=900)(C:c.N[b]?=some e)(D:zj c.env.scope e)(k:Q[b]?=some (some (.ref h)))(H:Gl c M)(E:eval (.Call (.Attribute (.Name M n) "__init__" P0) (.Name e J::L.map (sV e)) [] o5) c.env=(do
   let G ←eval (.Name M n) c.env
   Þ P0.atName
   let (f,first) ←ß [G] (ê G "__init__" pl)
   õ o5 f first (ZP o5 (x' (.Name e J::L.map (sV e)) c.env)) (â o5 (ã [] c.env))))(g:∀t' i,Inv c [(h,cq I A4 t')] Q d i->ζ .none i)(r:(M==("__debug__":Str))=false)(l:(e==("__debug__":Str))=false)(m:(e==("__classdict__":Str))=false):
  nc (l' c.prog c.w) c.A (eval (.Call (.Attribute (.Name M n) "__init__" P0) (.Name e J::L.map (sV e)) [] o5) c.env) ζ c.xe s:=by
 refine œ (eW a H B.mg ?_ r) E;refine PySem.W.method_cls a.fg B.ga (PySem.W.cls_value a.fg B.rd B.ini (by rfl) ?_)
 have o:x' (.Name e J::L.map (sV e)) _=(false,eval _ c.env)::x' _ _:=rfl;refine ϻ ?_ o ?_
 .refine Œ (cj (qo C D l m _ _ Q d (λw O=>w=.ref h/\O=d) (a.tok (s.toks+1)) ⟨_,k,rfl,rfl⟩) λu s1 P=>?_);refine bS P λw R S U V X=>?_
  subst V X;cases (U)
  have t:∀x i,x.length=L.length->Inv c [(h,cq I A4 o4)] Q R i->nc (l' c.prog c.w) c.A (call _ (.ref h::x)) ζ c.xe i:=λx i y p=>by
   obtain⟨nm,q,bs,bm,sn,sub,ab,Y,Z,k0,k1,k2,k3,k5,hC,ot⟩:=T.ex;refine iF (p.pin (h,cq I A4 o4) (by simp)) λz1 _ _ _ _=>?_
   refine ą (oX ab9 (ot _ p.fg) (p.fg _ _ hC) z1 (by rw[þ];exact eV (B' (V' y) j)) λh' g1 g2 g3=>g _ _ (p.Yt F g1 g3 (λv=>by simp[cq])))
  cases A4 with
  |none=>
   cases (st);cases L with
   |nil=>exact Ŷ (by simp_all)
   |cons q L=>grind
  |some dd=>exact Ag T C D k l m st.1 L _ z S t
 .clear o E z j
  induction L with
  |nil=>rfl
  |cons q L ih=>exact ih
structure kr(K:A')(mg:Str->Option f')(C N0 f c:b')(fd:N')(st:D')(qual sf:Str)(ps:List Str)(rs:List oZ):Prop where
 fn:∃x,sR K x qual st f fd
 cv:fd.code=.ref c
 sc:gV (sf::ps) (sf::ps) (ag st)
 cls:lp K C N0 f
 bs:Binds K fd (sf::ps) []
 na:∀r∈rs,dw K C r.fld
 nd:(rs.map (·.fld)).Nodup
 sl:(ag st).names.lookup sf=some .local
 d1:(sf==("__debug__":Str))=false
 d2:(sf==("__classdict__":Str))=false
 ln:rs.length=1
 pl:ps.length<900
 body:∃(bn:Str) (B0:b') (L:List (Str×Pos×Pos)) (p1 p2 p5 apos pos:Pos) (pl:ZR->Ø Bool),XBase K mg bn B0/\(bn==("__debug__":Str))=false/\(ag st).names.lookup bn=some .globalImplicit /\
  aK st=rs.map (oZ.st sf)++[.Expr (.Call (.Attribute (.Name bn p1) "__init__" apos) (.Name sf p2::L.map (sV sf)) [] pos) p5]/\L.map (·.1)=rs.map (·.fld) /\
  (∀r∈rs,∀env,Ù r.ve (some (.Attribute (.Name sf r.a1) r.fld r.a2)) r.a3.line env=pure false) /\
  (∀env:ZR,eval (.Call (.Attribute (.Name bn p1) "__init__" apos) (.Name sf p2::L.map (sV sf)) [] pos) env=(do
   let ov ←eval (.Name bn p1) env
   Þ apos.atName
   let (f,first) ←ß [ov] (ê ov "__init__" (pl env))
   õ pos f first (ZP pos (x' (.Name sf p2::L.map (sV sf)) env)) (â pos (ã [] env))))
variable{θ:N'}
theorem Ip(D:kr A Y Δ E1 h I θ ν e M l [W5])(d0:∀E,∃te,PE ((cG eA B G A Y z (M::l) e (ag ν) h (.ref I) X Y4 s d E).kY.mk1 o4) W5.ve te /\
   pG o4 s.heap.objs.size [(W5.fld,te)] none [] (start (M::l) (.ref o4::O)) d λod c Q=>c.map (·.1)=[W5.fld]/\Q8 od c Q)(hr:bA (b+1) X)(R:qz B G A Y z X Y4 s d)(hb:ô s θ ⟨.ref o4::χ,[]⟩ ((M::l).zip (.ref o4::χ)))(U:O.length=l.length)(rv:Vals O χ)(he:s.heap.get? o4=some (cq Δ none m9))(f0:z.objs.size<=o4)(g0:d o4=none)(V:o4∉frs Y4)(u:∀od c f t' k,Q8 od c f->(od=none/\c=[]\/∃P,od=some P/\f P=some (.xd c)/\s.heap.objs.size<=P)->k.os=s.os->ó k.gens->Un (frs Y4) [o4] d f s.heap k.heap->iE B G f k.heap ->
   k.heap.get? o4=some (cq Δ od t')->f o4=none->n5 (.ok (.ret (.ref o4))) k):
  Ñ (l' B G) X (.call (.ref h) ⟨.ref o4::χ,[]⟩) (ϯ o4 n5) s:=by
 obtain⟨x,F⟩:=D.fn;have h0:=D.cv;have S:=D.sc;have T:=D.cls;obtain⟨bn,B0,L,p1,p2,p5,apos,J0,pl,g,i0,hg,j0,Z,l0,ht⟩:=D.body;refine xe F.ex λoc C=>xe C λod m0=>xe m0 λkV n0=>xe n0 λK0 o0=>xe o0 λpm p0=>bp p0 λan r0 ct L0 s0 lk t0=>?_;subst s0
 obtain rfl:r0=.ref I:=h0;have KX:A.In s.heap:=R.mod.zt.keeps λi o o4=>(R.bs i o o4).1
 have u0:s.heap.NoLimit:=R.mod.nolimit.keeps λi o o4=>(R.bs i o o4).1
 refine Ϸ hr.depth (KX _ _ lk) rfl S.co S.gen rfl (ϸ KX t0) (hb _ _ _ _ ?_)
 refine Ϲ S.kind (λ⟨n,v⟩ hy=>by
  rcases S.par n (ŕ hy).1 with q|q
  .exact .inl q
  .exact .inr ⟨q,Ÿ _ _ _ (.inl q)⟩) λM0 v0 s1 x=>?_
 subst v0;refine⟨u0.keeps x.toInCall.keep,Ϻ ?_⟩;have E:XK:=λ_ _ _=>False
 have m:Inv (cG eA B G A Y z (M::l) e (ag ν) h (.ref I) X Y4 s d E) [] (start (M::l) (.ref o4::O)) d s1:=lh (χ:=.ref o4::χ) S hr.hd R (by simp[U]) (.cons rfl rv) x
 have a0:=I' he;have t:o4≠s.heap.objs.size:=Q' a0
 have b0:∀(y:Str) (cc:b'),(ZX e (ag ν) s.heap.objs.size h (.ref I)).cells.lookup y=some cc->cc≠o4:=λy cc hy j=>by
  have:=m.ok.cab y cc rfl hy;rw[j]at this;exact absurd (R' a0 this) (Ã _)
 have I1:=(m.wish (λ_ _=>False)).mk1 (e:=o4) rfl t b0 (λo q=>absurd (R' (I' q) f0) (Ã _)) V
 have I2:=I1.DT (x.toInCall.keep _ _ he) g0 t V (λv=>by simp[cq])
 refine bV (d0 E) λte w0 x0=>?_
 have y0:nc (l' B G) (X.deeper (ZX e (ag ν) s.heap.objs.size h (.ref I))) (ė (aK ν) (ZX e (ag ν) s.heap.objs.size h (.ref I)))
   (λfl k=>fl=.next/\∃od c f t',Q8 od c f/\Mo (cG eA B G A Y z (M::l) e (ag ν) h (.ref I) X Y4 s d E) f od c/\Inv ((cG eA B G A Y z (M::l) e (ag ν) h (.ref I) X Y4 s d E).kY.mk1 o4) [(o4,cq Δ od t')] (start (M::l) (.ref o4::O)) f k) (λ_ _=>False) s1:=by
  have z0:((cG eA B G A Y z (M::l) e (ag ν) h (.ref I) X Y4 s d E).kY.mk1 o4).s₀=s:=rfl
  have C0:∀f od c,Mo ((cG eA B G A Y z (M::l) e (ag ν) h (.ref I) X Y4 s d E).kY.mk1 o4) f od c->Mo (cG eA B G A Y z (M::l) e (ag ν) h (.ref I) X Y4 s d E) f od c:=λf od c q=>by
   cases od with
   |none=>exact q
   |some P=>exact q
  generalize r:(cG eA B G A Y z (M::l) e (ag ν) h (.ref I) X Y4 s d E).kY.mk1 o4=a at *;have xe:a.env=ZX e (ag ν) s.heap.objs.size h (.ref I):=by rw[←r];rfl
  have xN:a.N=M::l:=by rw[←r];rfl
  have xA:a.A=X.deeper (ZX e (ag ν) s.heap.objs.size h (.ref I)):=by rw[←r];rfl
  have xK:a.K=A:=by rw[←r];rfl
  have xm:a.mg=Y:=by rw[←r];rfl
  have xp:a.prog=B:=by rw[←r];rfl
  have xw:a.w=G:=by rw[←r];rfl
  have xx:a.xe=λ_ _=>False:=by rw[←r];rfl
  have fr:yf a o4:=⟨.inl (by rw[←r];simp[Cx.mk1]),by rw[xe];exact b0,by rw[←r];intro p hp;cases hp⟩
  rw[←xA,←xe,←xp,←xw,←xx,j0];have na:=D.na;rw[←xK]at T g na;rw[←xm]at g;have hN:a.N[0]?=some M:=by rw[xN];rfl
  have hv:zj a.env.scope M:=.inl (by rw[xe];exact D.sl)
  have D0:Gl a bn:=by show a.env.scope.names.lookup bn=_;rw[xe];exact hg
  refine Ea (Q8:=λod c Q=>c.map (·.1)=[W5.fld]/\Q8 od c Q) T fr hN hv rfl D.d1 D.d2 (λod c Q k J c0 q=>?_) w0 (na W5 (.head _)) (l0 W5 (.head _)) I2 (by rw[z0];exact x0)
  obtain⟨q1,q2⟩:=q;refine ū (aa7 (Eb J fr T g c0 (λq' G0=>?_) ?_ hN hv rfl D0 (ht a.env) (λt' s5 J5=>?_) i0 D.d1 D.d2) J.quiet (by rfl))
  .have h1:q'.1∈[W5.fld]:=by
    rw[show [W5.fld]=L.map (·.1)from Z.symm]
    exact ab' G0
   rw[W'.mp h1];refine⟨na W5 (.head _),?_⟩;obtain⟨p,rfl⟩:=List.length_eq_one_iff.mp ((ZZ (as:=c) (·.1)).symm.trans (congrArg Ŗ q1));rw[←(ac6 q1).1];exact⟨p.2,by simp[Ŏ]⟩
  .have:=congrArg Ŗ Z
   simp at this;exact eV (V' this)
  .exact Ę ⟨rfl,od,c,Q,t',q2,C0 _ _ _ c0,J5⟩
 refine Í y0 (λfl k hs=>?_) λ_ _ j=>j.elim
 refine xa hs λI0 C=>bp C λod c f t' q2 H J=>?_;subst I0
 refine iF (J.pin (o4,cq Δ od t') (by simp)) λg1 g2 _ _ _=>?_
 refine⟨rfl,u od c f t' k q2 ?_ J.os J.bare J.base J.hok g1 g2⟩;cases od with
 |none=>exact .inl ⟨rfl,H⟩
 |some P=>exact .inr ⟨P,rfl,H.1,H.2⟩
theorem Ec(D:kr c.K c.mg h I Δ E1 θ ν e M l [W5])(g:Inv c E Q d s)(V:bA (b+2) c.A)(X:Vals O χ)(p:O.length=l.length)(a0:∀k H,¬ Q8 none k H)(J:∀(A:ZW) (m:j') (a:b') (i:XK),bA b (A.deeper (ZX e (ag ν) m.heap.objs.size Δ (.ref E1)))->d a=none->∃Y,PE ((cG eA c.prog c.w c.K c.mg c.base (M::l) e (ag ν) Δ (.ref E1) A c.stack m d i).kY.mk1 a) W5.ve Y /\
   pG a m.heap.objs.size [(W5.fld,Y)] none [] (start (M::l) (.ref a::O)) d λod k H=>k.map (·.1)=[W5.fld]/\Q8 od k H)(r:∀a y k t x m,Q8 (some y) k x->Inv c E Q x m->m.heap.get? a=some (cq h (some y) t)->s.heap.objs.size<=a->x a=none->x y=some (.xd k)->ζ (.ref a) m):
  nc (l' c.prog c.w) c.A (call (.ref h) χ) ζ c.xe s:=by
 obtain⟨nm,q,bs,bm,sn,sub,ab,b0,c0,k0,k1,k2,k3,k5,hC,ot⟩:=D.cls.ex;obtain⟨mN,hn,L⟩:=D.cls.ns _ g.fg;have B:∀f o,s.heap.get? f=some o->(jk _ h χ).get? f=some o:=λf o a=>ZQ _ (ZQ _ a)
 have Z:=g.kept (t':=s.toks) B;have C:=g.hok.fresh (ä _);have j:∀f o,s.heap.get? f=some o->f≠s.heap.objs.size+1:=λf o q=>Q' (ϕ (I' q))
 have G:=X.length.symm.trans p;refine ą ?_;refine zV ab9 (ot _ g.fg) (g.fg _ _ hC) hn L (λself=>abm g.fg _ D.cls.fn) (by have:=D.pl;rw[þ];exact LI (Ý (V' G) this)) ?_
 refine Ip D (λi=>J _ _ _ i ((V.make h χ []).deeper _) C) (V.make h χ []) (Z.env0.make h χ []) (by have:=D.bs _ (.ref (s.heap.objs.size+1)::χ) Z.fg (by simp[G]);simp_all) p X (by
  show(jk _ h χ).get? _=some ({cls:=.ref h,data:=.fields _})
  heap_get) ?_ C (λz=>by
  obtain⟨_,o,N,_⟩:=g.stack.mem z;exact j _ _ N rfl) (λod k x t' m q2 P N R u S g1 g2=>?_)
 .exact B' (B' g.ok.vF g.sz) (ä _)
 .rcases P with ⟨rfl,rfl⟩|⟨y,rfl,T,d0⟩
  .simp_all
  .exact r _ y k t' x m q2 (g.call' (v:=[]) N ⟨λf o a n U _=>u.keep f o (B f o a) n U (by simpa using j f o a),λf o a n U _=>u.slot f o (B f o a) n U (by simpa using j f o a),λf o a n _=>u.free f o (B f o a) n (by simpa using j f o a),λf o a _=>u.there f o (B f o a) (by simpa using j f o a),u.tups,u.fB,u.gC⟩ S R (by simp)) g1 (ä _) g2 T
noncomputable def Ed(f:TA)(Arg:List V->Hp->Prop)(yj:List V->Hp->Option b'->List (Str×V)->Hp->Prop)(n:Nat)(C:b')(E:XK):TS:=λ_ g H=>f g H λa d=>a.length=n/\Arg a d/\∀e b c,yj a d (some c) e b->b c=some (.xd e)->E (.ref C) (some c) b
variable{E3 F5:Str}{L:List pd}{Q2:TA}{S0:XK}{S8:List V->Hp->Prop}{π:T'}{ω:List Str}
theorem yk{yj:List V->Hp->Option b'->List (Str×V)->Hp->Prop}(D:kr A Y I Δ E1 o4 θ ν M E3 ω [W5])(hr:bA (b+2) (X.deeper (ZX e π s.heap.objs.size h N)))(hg:Gl (cG (jm B G) B G A Y z l e π h N X Y4 s d S0) F5)(hm:Y F5=some (.ref I))(p:PA (cG (jm B G) B G A Y z l e π h N X Y4 s d S0) (m::L) Q2)(w:∀i g r x,¬ yj i g none r x)(y:∀i g,S8 i g->∀(u:ZW) (E:List ZR) (o:j') (a:b') (F:XK),bA b (u.deeper (ZX M (ag ν) o.heap.objs.size E1 (.ref o4)))->g a=none->∃Z,PE ((cG eA B G A Y z (E3::ω) M (ag ν) E1 (.ref o4) u E o g F).kY.mk1 a) W5.ve Z /\
   pG a o.heap.objs.size [(W5.fld,Z)] none [] (start (E3::ω) (.ref a::i)) g λod r x=>r.map (·.1)=[W5.fld]/\yj i g od r x)(K:x' (m::L) (ZX e π s.heap.objs.size h N)=(false,eval m (ZX e π s.heap.objs.size h N))::x' L (ZX e π s.heap.objs.size h N))(O:(ZP J (x' L (ZX e π s.heap.objs.size h N))).any (·.1)=false)(P:(F5==("__debug__":Str))=false):
  PS (cG (jm B G) B G A Y z l e π h N X Y4 s d S0) (.Raise (some (.Call (.Name F5 n) (m::L) [] J)) none P0) (Ed Q2 S8 yj ω.length I S0):=by
 intro pins j σ H Dn c k;obtain⟨nm,q,bs,bm,sn,sub,ab,Q,R,k0,k1,k2,k3,k5,hC,E⟩:=D.cls.ex;refine yg (h:=I) (e:=nm) (M:=q) (I:=Δ) (χ:=bs) (C:=true) (l:=sn) (T7:=sub) (P1:=ab) (Q7:=Q) (A4:=R) (T4:=k0) (F7:=k1) (G7:=k2) (J7:=k3) (L7:=k5) (C3:="ValueError.__new__") ((E _ c.fg).hasType (by rfl)) (c.ok.hd rfl) ?_
 refine Ć (eW c hg hm ?_ P);refine ğ c.ok.mod.zt D.cls.kp (cj (p _ _ j σ H _ c k) λus s1 zq=>?_) K O;refine gi zq λi g S r1 hl ha hq=>?_;refine⟨S.fg,?_⟩
 refine Ec D S hr r1 hl (w i g) (λu o a F U he=>y i g ha u _ o a F U he) λa dd r t H2 o q2 f g1 g2 g3 g4=>⟨a,_,t,rfl,f.fg _ _ hC,g1,z_ f rfl rfl rfl g1 (B' S.sz g2) g3 λa0 T=>⟨a,I,dd,_,rfl,T,by grind⟩⟩
variable{R:pd}{T2:Sp}
theorem Ah{pl:Ø Bool}(X:PE c m υ)(i:lg c.K h)(N:Meth c.K h e I)(F:bq c.prog c.w c.K c.mg c.base (jm c.prog c.w) b I θ l T2)(Y:bA b c.A)(Z:Binds c.K θ l [])(hx:eY c Q S0)(ha:PA c (R::L) Q2)(B:x' (R::L) c.env=(false,eval R c.env)::x' L c.env)(C:(ZP J (x' L c.env)).any (·.1)=false)(ht:eval (.Call (.Attribute m e n) (R::L) [] J) c.env=(do
   let O ←eval m c.env
   Þ n.atName
   let (I,first) ←ß [O] (ê O e pl)
   õ J I first (ZP J (x' (R::L) c.env)) (â J (ã [] c.env)))):
  PE c (.Call (.Attribute m e n) (R::L) [] J) (λk H d=>k=Q/\υ k H λx y=>∃a P D,x=.ref a/\y a=some (.ins h P D)/\D.lookup e=none/\Q2 k y λE z=>T2 (x::E) z d S0):=by
 intro pins s k H d g f;obtain⟨rfl,f⟩:=f;refine œ (cj (X _ s k H _ g f) λu s1 zq=>?_) ht;refine aW zq λx y S rx G=>dI G λa P D ex ea j q=>?_
 subst ex;obtain rfl:u=À a:=rx;refine gU S ea i N j ?_;refine ğ g.ok.mod.zt N.kp (cj (ha _ _ s1 k y _ S q) λus M  zf =>aW zf λE z o r T=>⟨o.fg,?_⟩) B C
 have U:Vals (V.ref a::E) _:=.cons rfl r;have p:=Z M _ o.fg (by rw[í];exact(by rw[←U.length];exact F.len _ _ _ _ T))
 rw[í]at p;refine ą (ÿ (F.run _ _ M z ⟨_,[]⟩ _ _ d S0 Y o.env0 p U T) λr s' t=>?_)
 cases r with
 |error R=>exact hx _ z M R s' o t
 |ok fl=>
  cases fl with
  |ret u=>exact o.after t
  |next=>exact Ò t
  |brk=>exact Ò t
  |cont=>exact Ò t
structure uu(P:X')(w:O')(K:A')(mg:Str->Option f')(base:y')(k:Nat)(f:b')(fd:N')(ps:List Str)(sp:Sp):Prop where
 len:∀vs H Q E,sp vs H Q E->vs.length=ps.length
 run:∀(A:ZW) (h:b') (outer:List ZR) (s:j') (H:Hp) (args:Args) (us:List f') (vs:List V) (Q:VK) (E:XK),bA k A->qz P w K mg base A outer s H->ô s fd args (ps.zip us)->Vals vs us->sp vs H Q E ->
  Ñ (l' P w) (A.mark (some (.ref h))) (.call (.ref f) args) (CR eA outer P w H s Q E) s
theorem uu.mono{P:X'}{w:O'}{K:A'}{a:Str->Option f'}{base:y'}{j k:Nat}{f:b'}{b:N'}{c:List Str}{sp:Sp}(F:uu P w K a base j f b c sp)(h:j<=k):uu P w K a base k f b c sp:=
 ⟨F.len,λA x outer s H args d e Q E g=>F.run A x _ s H _ d e Q E (g.mono h)⟩
variable{η:VK}
theorem Ee(F:uu c.prog c.w c.K c.mg c.base b h θ l T2)(k:bA b c.A)(m:Binds c.K θ l [])(a:Inv (c.jI I) E Q d s)(r:Vals O χ)(j:T2 O d η S0):
  nc (l' c.prog c.w) (c.jI I).A (call (.ref h) χ) (EP (c.jI I) E Q η) (c.jI I).xe s:=by
 have f:=a.env0;have g:=m s χ a.fg (by rw[í,←r.length];exact F.len _ _ _ _ j)
 rw[í]at g;refine ą (ÿ (F.run c.A I c.stack s d ⟨χ,[]⟩ _ _ η S0 k ⟨f.frames,f.mod,f.bs,f.vF,f.iz,f.zk,f.hok,f.bare⟩ g r j) λr n i=>?_)
 cases r with
 |error e=>exact i.elim
 |ok fl=>
  cases fl with
  |ret u=>exact a.after i
  |next=>exact Ò i
  |brk=>exact Ò i
  |cont=>exact Ò i
theorem Ai(F:uu c.prog c.w c.K c.mg c.base b h θ l T2)(o:bA b c.A)(p:Gl c e)(t:c.mg e=some (.ref h))(u:Z_ c.K (.ref h)=true)(x:Binds c.K θ l [])(y:PA (c.jI I) (m::L) Q2)(d:(e==("__debug__":Str))=false)(z:x' (m::L) c.env=(false,eval m c.env)::x' L c.env)(f:(ZP J (x' L c.env)).any (·.1)=false):
  PE (c.jI I) (.Call (.Name e n) (m::L) [] J) (λg H Q=>Q2 g H λi j=>T2 i j Q S0):=by
 intro pins s g H Q a B;refine Ć (eW a p t ?_ d);exact ğ a.ok.mod.zt u (cj (y _ _ s g H _ a B) λD E  C =>aW C λi j k r q=>⟨k.fg,Ee (c:=c) (I:=I) F o x k r q⟩) z f
variable{C6 D5 Y5 i6 o9:f'}
theorem Iq{params:Ź}(P:A.lookup h=some ⟨o9,G5,.func (Á e M params W1 π N N2 D5 Y5 A4 i6 C6),C5⟩)(D:ö A i6 M=true)(S:gV l ω π)(p:∀j H Q E,T2 j H Q E->j.length=ω.length)(k:∀(a:ZW) (c:b') (outer:List ZR) (s:j') (H:Hp) (j:List V) (Q:VK) (E:XK),bA b (a.deeper (ZX M π s.heap.objs.size h i6))->T2 j H Q E ->
   ∃t,jD ((cG eA B G A Y z l M π h i6 a outer s H E).jI c) W1 t/\t {nx:=λ_ i=>Q .non i,rt:=Q} (start l j) H):
  uu B G A Y z (b+1) h (Á e M params W1 π N N2 D5 Y5 A4 i6 C6) ω T2:=by
 refine⟨p,λa c outer s H args us j Q E F w R r y=>?_⟩
 have O:=w.mod.zt.keeps λf o d=>(w.bs f o d).1
 have I:=w.mod.nolimit.keeps λf o d=>(w.bs f o d).1
 refine Ϸ F.depth (O _ _ P) rfl S.co S.gen rfl (ϸ O D) (R _ _ _ _ ?_)
 refine Ϲ S.kind (λ⟨n,v⟩ T=>by
  rcases S.par n (ŕ T).1 with q|q
  .exact .inl q
  .exact .inr ⟨q,Ÿ _ _ _ (.inl q)⟩) λU X Z x=>?_
 subst X;refine⟨I.keeps x.toInCall.keep,Ϻ ?_⟩;obtain⟨t,ht,hq⟩:=k a c _ s H j Q E (F.deeper _) y;refine Í (ht [] Z _ H _ (lh (Q4:=eA) S F.hd w (p _ _ _ _ y) r x).jI hq) (λfl K m=>?_) λd K m=>m.elim
 have C:∀{g:St}{i:Hp}{v:V}{u:f'},Inv ((cG eA B G A Y z l M π h i6 a _ s H E).jI c) [] g i K->RelV v u->Q v i->CE outer B G H s Q u K:=
  λ{g i v u} J L q=>⟨v,i,J.os,J.bare,J.base,J.hok,L,q⟩
 cases fl with
 |ret u=>
  refine cB m λv g i J L q=>C J L q
 |next=>
  obtain⟨g,i,J,q⟩:=m;exact C (v:=V.non) J rfl q
 |brk=>
  obtain⟨_,_,_,q⟩:=m
  simp_all
 |cont=>
  obtain⟨_,_,_,q⟩:=m
  simp_all
theorem Aj(e:Inv c E Q d s)(D:c.ex=[])(j:c.stack=c.env::c.outer)(k:c.env.frame=some c.env.locals)(L:s.heap.get? h=some Ξ)(X:Ξ.cls=.ref I)(t:Ξ.dict=some Δ)(l:Ξ.data=.fields B5)(m:qO s.heap B5)(G:c.s₀.heap.objs.size<=h)(M:d h=none)(f:∀H,nE c.prog c.w c.outer c.H₀ c.s₀ h I Δ d H->A3 () H):nc (l' c.prog c.w) c.A (ŷ c.env (.ref h)) A3 ζ s:=by
 have p:=e.ok.frames;rw[j]at p;have J:=e.stack;rw[j]at J;refine pF p J k L l m λY T F=>f _ ?_
 have x:∀b u,d b=some u->b∉frs _:=λb u q z=>by
  have:=e.kh b (by omega)
  grind
 have g:∀b o,c.s₀.heap.get? b=some o->b≠h/\b≠c.env.locals:=λb o q=>⟨λz=>by rw[z]at q;exact absurd (R' (I' q) G) (by simp),λz=>by rw[z]at q;exact absurd (R' (I' q) e.ok.above) (by simp)⟩
 refine⟨e.os,e.bare,⟨λb o q n i _=>?_,λb o q n i _=>?_,λb o q n _=>e.base.free b o q n (by simp_all),λb o q _=>?_,e.base.tups,e.base.fB,e.base.gC⟩,λa u q=>?_,G,M,?_⟩
 .exact F.keep b o (g b o q).1 ((λb o q i z=>by
  unfold frs at z;rw[ũ,k]at z;rcases Æ.mp z with z|z
  .grind
  .exact i z) b o q i) (e.base.keep b o q n i (by rw[D];simp))
 .obtain⟨N,y⟩:=e.base.slot b o q n i (by rw[D];simp)
  obtain⟨B,K⟩:=F.slot b _ (g b o q).1 y
  simp_all
 .obtain⟨Z,y⟩:=e.base.there b o q (by simp_all)
  obtain⟨B,K⟩:=F.slot b _ (g b o q).1 y;exact⟨_,K⟩
 .refine(e.hok a u q).stay (λb O i r=>F.keep b O (λz=>?_) ?_ r) (λb r=>r) λb xs r=>r
  .simp_all
  grind
 .refine aW F.tb λoT P R S U=>?_
  have C:1<B5.size:=by
   rcases m with z|⟨_,_,_,z,_⟩<;>exact(ab1.mp z).1
  refine⟨_,_,F.at_,by rwa[ab0],?_,Ş l _,.inr ⟨T,oT,P,by simp[C],R,S,U⟩⟩
  obtain⟨oc,od,V,N⟩:=Ξ;cases V<;>exact t
theorem dD:
  Passes (jm B G) (cG (jm B G) B G A Y z l e π h N X Y4 s d S0) S0:=by
 rintro pins q H f a r I ⟨a,C,b,g,rfl,c,i⟩;refine gi c.obj λt u j k m n o=>?_
 exact Aj (I.call' c.os c.un c.hok c.bare (by simp)) rfl rfl rfl j k m n o (B' I.sz c.new) c.free λp T=>⟨a,C,b,g,rfl,T,i⟩
noncomputable def Ak(e:ś):Bool:=match e.key with
 |.str _ _=>true
 |_=>false
def PJ(K:A')(N:b')(b:Str):Option (Option f'):=match K.lookup N with
 |some ⟨_,_,.dict a _,_⟩=>if a.toList.all Ak=true then some (nsFind a b)else none
 |_=>none
theorem GV(a:PJ A h e=some T4)(f:y')(X:A.In f):∃mN,f.Ns h mN/\mN e=T4:=by
 unfold PJ at a;split at a
 .rename_i c d g n k i
  split at a
  .rename_i j
   cases a;refine⟨_,⟨_,g,n,X _ _ i,rfl,λb l=>?_,λ_=>rfl⟩,rfl⟩
   have:=Õ.mp j b (by simp_all)
   unfold Ak at this
   grind
  .exact bQ a
 .exact bQ a
def sW(K:A'):List f'->Bool
 |.ref A::tl=>(match K.lookup A with
  |some ⟨_,_,.cls a,_⟩=>PJ K a.ns "__init__"==some none
  |_=>false)&&sW K tl
 |l=>l==qM
theorem vV{K:A'}:∀{l:List f'},sW K l=true->∀h:y',K.In h->Ŝ h qM l
 |[],e,h,X=>by simp[sW]at e
 |a::r,e,h,X=>by
  cases a with
  |ref A=>
   simp only[sW,Ç]at e;obtain⟨b,f⟩:=e;split at b
   .rename_i c d k m g
    obtain⟨mN,i,j⟩:=GV (eq_of_beq b) h X;exact .own (X _ _ g) i j (vV f h X)
   .cases b
  |_=>rw[eq_of_beq (e)];exact .base
end L2
namespace Mir
open PySem
inductive D where
 |non|bl (b:Bool)|int (i:Int)|str (x:Str)
 |lst (xs:List D)|tup (xs:List D)|dct (ks:List L2.Key) (vs:List D)|ref (n:Nat)
 deriving Inhabited
inductive Out (α:Type) where
 |ok (a:α)|exc (c:Str) (fs:List (Str×D))|bad
noncomputable def Out.bind{α β:Type}:Out α->(α->Out β)->Out β
 |.ok a,f=>f a
 |.exc c fs,_=>.exc c fs
 |.bad,_=>.bad
instance:Monad Out where
 pure:=.ok
 bind:=Out.bind
variable{N1 v8:Type}
@[simp] theorem PK(a:N1)(f:N1->Out v8):(Out.ok a >>= f)=f a:=rfl
@[simp] theorem Mp(f:N1->Out v8):((Out.bad:Out N1) >>= f)=.bad:=rfl
@[simp] theorem Mq(c fs)(f:N1->Out v8):((Out.exc c fs:Out N1) >>= f)=.exc c fs:=rfl
@[simp] theorem PL(a:N1):(pure a:Out N1)=.ok a:=rfl
mutual
noncomputable def eJ:D->D->Bool
 |.non,.non=>true
 |.bl a,.bl b=>a==b
 |.bl a,.int j=>(if a then 1 else 0)==j
 |.int i,.bl b=>i==(if b then 1 else 0)
 |.int i,.int j=>i==j
 |.str x,.str y=>x==y
 |.lst c,.lst d=>gg c d
 |.tup c,.tup d=>gg c d
 |_,_=>false
noncomputable def gg:List D->List D->Bool
 |[],[]=>true
 |x::a,y::b=>eJ x y&&gg a b
 |_,_=>false
end
noncomputable def aN:Nat->D->Bool
 |_,.non|_,.bl _|_,.int _|_,.str _=>true
 |n+1,.lst a|n+1,.tup a=>a.all (aN n)
 |_,_=>false
noncomputable def small(n:Nat):Bool:=decide (n<=K')
def mw:D->Option Bool
 |.non=>some false
 |.bl b=>some b
 |.int i=>some (i != 0)
 |.str x=>if small x.length then some (x.length != 0)else none
 |.lst a=>some (!a.isEmpty)
 |.tup a=>some (!a.isEmpty)
 |_=>none
abbrev Rs:=Bool×D
noncomputable def nM(i:Int):Bool:=decide (i.natAbs<18446744073709551616)
variable{T:Int}
theorem sX(h:nM T=true): -(2 ^ 64)<T/\T<2 ^ 64:=by
 have:=of_decide_eq_true h;omega
noncomputable def i2(x y:D):Option {p:Int×Int // x=.int p.1/\y=.int p.2}:=match x,y with
 |.int a,.int b=>some ⟨(a,b),rfl,rfl⟩
 |_,_=>none
def binI(a:ě)(i j:Int):Out Rs:=match a with
 |.Add=>.ok (false,.int (i+j))
 |.Sub=>.ok (false,.int (i - j))
 |.Mult=>if nM i||nM j then .ok (false,.int (i*j))else .bad
 |.FloorDiv=>if decide (0<j)&&decide (j<1073741824)then .ok (false,.int (i / j))else .bad
 |.Mod=>if decide (0<j)then .ok (false,.int (i%j))else .bad
 |.Pow=>if decide (0<=j)&&decide (j<=1000)&&decide (i.natAbs<2 ^ 64)then .ok (false,.int (i ^ j.toNat))else .bad
 |_=>.bad
def Mr(x y:D):Out Rs:=match x with
 |.str a=>(match y with
  |.str b=>if small (a.length+b.length)then .ok (false,.str (a++b))else .bad
  |_=>.bad)
 |.lst a=>(match y with
  |.lst b=>if small (a.length+b.length)then .ok (true,.lst (a++b))else .bad
  |_=>.bad)
 |_=>.bad
def fE(a:ě)(x y:D):Out Rs:=match i2 x y with
 |some p=>binI a p.1.1 p.1.2
 |none=>match a with
  |.Add=>Mr x y
  |_=>.bad
noncomputable def nN(x y:Str):Bool := !(Ů y x 0 y.length 1).isEmpty
def inD(x y:D):Out Bool:=
 match x,y with
 |x,.lst a=>if aN 8 x&&a.all (aN 8)then .ok (a.any λy=>eJ y x)else .bad
 |x,.tup a=>if aN 8 x&&a.all (aN 8)then .ok (a.any λy=>eJ y x)else .bad
 |.str x,.str y=>.ok (nN x y)
 |_,_=>.bad
noncomputable def isD(x y:D):Out Bool:=match y with
 |.non=>.ok (match x with|.non=>true|_=>false)
 |.bl b=>(match x with
  |.bl a=>.ok (a==b)
  |.dct _ _=>.bad
  |.ref _=>.bad
  |_=>.ok false)
 |_=>.bad
def fh(a:Ú)(x y:D):Out Bool:=
 match a,x,y with
 |.Eq,x,y=>if aN 8 x&&aN 8 y then .ok (eJ x y)else .bad
 |.NotEq,x,y=>if aN 8 x&&aN 8 y then .ok (!eJ x y)else .bad
 |.Lt,.int i,.int j=>.ok (decide (i<j))
 |.LtE,.int i,.int j=>.ok (decide (i<=j))
 |.Gt,.int i,.int j=>.ok (decide (j<i))
 |.GtE,.int i,.int j=>.ok (decide (j<=i))
 |.In,x,y=>inD x y
 |.NotIn,x,y=>do let b ←inD x y;.ok (!b)
 |.Is,x,y=>isD x y
 |.IsNot,x,y=>do let b ←isD x y;.ok (!b)
 |_,_,_=>.bad
noncomputable def bO(c:Nat):Str:=⟨#[c]⟩
def uT(x y:D):Out Rs:=
 match x,y with
 |.lst a,.int i=>match L2.mu a i with|some d=>.ok (false,d)|none=>.bad
 |.tup a,.int i=>match L2.mu a i with|some d=>.ok (false,d)|none=>.bad
 |.str z,.int i=>if small z.length then (match L2.mu z.cps.toList i with|some c=>.ok (false,.str (bO c))|none=>.bad)else .bad
 |_,_=>.bad
def ed{α:Type}(xs:List α)(a b:Option Int):List α:=(xs.drop (HT.kl xs.length 0 a)).take (HT.kl xs.length xs.length b - HT.kl xs.length 0 a)
def Al(x:D)(a b:Option Int):Out Rs:=
 match x with
 |.lst c=>.ok (true,.lst (ed c a b))
 |.str z=>if small z.length then .ok (false,.str ⟨(ed z.cps.toList a b).toArray⟩)else .bad
 |_=>.bad
noncomputable def intsFrom(a:Int):Nat->List D
 |0=>[]
 |n+1=>.int a::intsFrom (a+1) n
noncomputable def o_(i:Int):Bool:=decide (i.natAbs<4611686018427387904)
theorem sY(h:o_ T=true): -(2 ^ 62)<=T/\T<2 ^ 62:=by
 have:=of_decide_eq_true h;omega
noncomputable def eZ(i:Nat):List D->List D
 |[]=>[]
 |d::a=>.tup [.int i,d]::eZ (i+1) a
inductive mM where
 |len|all|any|sorted|list|tuple|int|min|max|bool
 deriving DecidableEq
def gF:List D->Option (List Bool)
 |[]=>some []
 |d::r=>match mw d,gF r with|some b,some bs=>some (b::bs)|_,_=>none
noncomputable def GW:List D->Option (List Int)
 |[]=>some []
 |.int i::r=>(GW r).map (i :: ·)
 |_=>none
noncomputable def sZ:List D->Option (List Str)
 |[]=>some []
 |.str i::r=>(sZ r).map (i :: ·)
 |_=>none
noncomputable def Ms(a b:Str):Bool := !decide (b.cps.toList<a.cps.toList)
def Eg(c:List D):Out (List D):=
 if 64<=c.length then .bad else
 match GW c with
 |some d=>.ok ((d.mergeSort λa b=>decide (a<=b)).map .int)
 |none=>match sZ c with
  |some e=>.ok ((e.mergeSort Ms).map .str)
  |none=>.bad
def jR(f:mM)(a:D):Out Rs:=
 match f,a with
 |.len,.tup [.lst b]=>.ok (false,.int b.length)
 |.len,.tup [.tup b]=>.ok (false,.int b.length)
 |.len,.tup [.str z]=>if small z.length then .ok (false,.int z.length)else .bad
 |.all,.tup [.lst b]=>match gF b with|some bs=>.ok (false,.bl (bs.all id))|none=>.bad
 |.any,.tup [.lst b]=>match gF b with|some bs=>.ok (false,.bl (bs.any id))|none=>.bad
 |.sorted,.tup [.lst b]=>do let c ←Eg b;.ok (true,.lst c)
 |.list,.tup [.lst b]=>.ok (true,.lst b)
 |.list,.tup [.tup b]=>.ok (true,.lst b)
 |.tuple,.tup [.lst b]=>.ok (false,.tup b)
 |.tuple,.tup [.tup b]=>.ok (false,.tup b)
 |.int,.tup [.int i]=>.ok (false,.int i)
 |.int,.tup [.bl k]=>.ok (false,.int (if k then 1 else 0))
 |.min,.tup [.int i,.int j]=>.ok (false,.int (if j<i then j else i))
 |.max,.tup [.int i,.int j]=>.ok (false,.int (if j>i then j else i))
 |_,_=>.bad
inductive Yu where
 |index|join
 deriving DecidableEq
def Am(m:Yu)(x:D)(a:D):Out Rs:=
 match m,x,a with
 |.index,.lst b,.tup [d]=>if aN 8 d&&b.all (aN 8)then (match b.findIdx? λy=>eJ y d with|some j=>.ok (false,.int j)|none=>.bad)else .bad
 |.index,.str z,.tup [.str y]=>match Ů z y 0 z.length 1 with|i::_=>.ok (false,.int i)|[]=>.bad
 |.join,.str z,.tup [.lst c]=>match sZ c with|some b=>if decide (z.length<=16)&&decide ((b.map (·.length)).sum+b.length<=1048576)then .ok (false,.str (Txt.join z b))else .bad|none=>.bad
 |_,_,_=>.bad
inductive Ty where
 |int|str|bool|list|tuple|dict
 deriving DecidableEq
noncomputable def An:D->Ty->Option Bool
 |.non,_=>some false
 |.bl _,t=>some (t==.bool||t==.int)
 |.int _,t=>some (t==.int)
 |.str _,t=>some (t==.str)
 |.lst _,t=>some (t==.list)
 |.tup _,t=>some (t==.tuple)
 |.dct _ _,t=>some (t==.dict)
 |.ref _,_=>none
noncomputable def iw:D->Bool
 |.non|.bl _|.int _|.str _=>true
 |_=>false
noncomputable def fuel:Nat:=100000
def jS{α:Type}(xs:List α)(i:Int)(x:α):List α:=let k:=HT.kl xs.length 0 (some i);xs.take k++x::xs.drop k
open PySem.Spec PyProof.Rows L2
mutual
noncomputable def Rep(Z:b'->Prop)(H:Hp):D->V->Prop
 |.non,v=>v=.non
 |.bl b,v=>v=.bl b
 |.int i,v=>v=.int i
 |.str x,v=>v=.str x
 |.lst d,v=>∃a c,v=.ref a/\Z a/\Rd H a (.lst c)/\bg Z H d c
 |.tup d,v=>∃a c,v=.ref a/\Z a/\Rd H a (.tup c)/\bg Z H d c
 |.dct e d,v=>∃a c,v=.ref a/\Z a/\H a=some (.dK (e.zip c))/\bg Z H d c
 |.ref _,_=>False
noncomputable def bg(Z:b'->Prop)(H:Hp):List D->List V->Prop
 |[],a=>a=[]
 |d::b,a=>∃v r,a=v::r/\Rep Z H d v/\bg Z H b r
end
variable{B1:HO}{d ο:Hp}{h:b'}
theorem qS(k:∀o,d h=some o->ο h=some o)(a:Rd d h B1):Rd ο h B1:=by
 rcases a with a|⟨o,a⟩
 .exact .inl (k _ a)
 .exact .inr ⟨o,k _ a⟩
mutual
theorem Rep.mono{Z i:b'->Prop}{H j:Hp}(k:∀a o,Z a->H a=some o->j a=some o)(z:∀a,Z a->i a):∀{d:D}{v:V},Rep Z H d v->Rep i j d v
 |.non,_,h=>by simpa only [Rep]using h
 |.bl _,_,h=>by simpa only [Rep]using h
 |.int _,_,h=>by simpa only [Rep]using h
 |.str _,_,h=>by simpa only [Rep]using h
 |.lst l,v,h=>by
  simp only[Rep]at h ⊢;obtain⟨a,c,e,b,f,g⟩:=h;exact⟨a,c,e,z a b,qS (λo=>k a o b) f,bg.mono k z g⟩
 |.tup l,v,h=>by
  simp only[Rep]at h ⊢;obtain⟨a,c,e,b,f,g⟩:=h;exact⟨a,c,e,z a b,qS (λo=>k a o b) f,bg.mono k z g⟩
 |.dct m l,v,h=>by
  simp only[Rep]at h ⊢;obtain⟨a,c,e,b,f,g⟩:=h;exact⟨a,c,e,z a b,k a _ b f,bg.mono k z g⟩
 |.ref _,_,h=>by simp only[Rep]at h
theorem bg.mono{Z f:b'->Prop}{H g:Hp}(k:∀a o,Z a->H a=some o->g a=some o)(z:∀a,Z a->f a):∀{b:List D}{c:List V},bg Z H b c->bg f g b c
 |[],_,h=>by simpa only [bg]using h
 |d::b,c,h=>by
  simp only[bg]at h ⊢;obtain⟨v,r,e,i,j⟩:=h;exact⟨v,r,e,Rep.mono k z i,bg.mono k z j⟩
end
theorem bg.length{Z:b'->Prop}{H:Hp}:∀{a:List D}{b:List V},bg Z H a b->b.length=a.length
 |[],_,h=>by rw[h];rfl
 |d::a,_,h=>by
  refine aW h λv r e _ c=>?_
  rw[e,ï,ï,bg.length c]
theorem bg.get{Z:b'->Prop}{H:Hp}:∀{a:List D}{b:List V}{i:Nat}{d:D},bg Z H a b->a[i]?=some d->∃v,b[i]?=some v/\Rep Z H d v
 |[],_,_,_,_,e=>by simp at e
 |d::a,_,0,_,h,e=>by
  obtain⟨v,r,rfl,f,_⟩:=h
  simp_all
 |d::a,_,i+1,g,h,e=>by
  obtain⟨v,r,rfl,_,c⟩:=h;obtain⟨u,j,k⟩:=bg.get c (by simpa using e)
  simp_all
theorem bg.append{Z:b'->Prop}{H:Hp}:∀{a b:List D}{c e:List V},bg Z H a c->bg Z H b e->bg Z H (a++b) (c++e)
 |[],_,_,_,h,h'=>by rwa[h]
 |d::a,_,_,_,h,h'=>by
  obtain⟨v,r,rfl,f,g⟩:=h;exact⟨v,_,rfl,f,bg.append g h'⟩
variable{q:b'->Prop}
theorem bg.nil:bg q d [] []:=by rfl
theorem bg.cons{Z:b'->Prop}{H:Hp}{d:D}{b:List D}{v:V}{a:List V}(h:Rep Z H d v)(h':bg Z H b a):bg Z H (d::b) (v::a):=⟨v,a,rfl,h,h'⟩
variable{O:List V}
theorem bg.nil_inv(h:bg q d [] O):O=[]:=by simpa only [bg]using h
variable{j:D}{o:List D}
theorem bg.cons_inv(h:bg q d (j::o) O):∃v r,O=v::r/\Rep q d j v/\bg q d o r:=by simpa only [bg]using h
def Now(Z:b'->Prop)(H:Hp)(d:D)(v:V):Prop:=
 match d with
 |.lst c=>∃a b,v=.ref a/\Rd H a (.lst b)/\bg Z H c b
 |d=>Rep Z H d v
variable{x:V}
theorem Rep.now(h:Rep q d j x):Now q d j x:=by
 cases j with
 |lst c=>
  refine aW h λa b e _ h=>⟨a,b,e,h⟩
 |_=>exact h
structure gh(Z:b'->Prop)(H:Hp)(Z':b'->Prop)(H':Hp):Prop where
 same:nz H H'
 sub:∀a,Z a->Z' a
 new:∀a,Z' a->Z a\/H a=none
 dom:∀a,Z' a->H' a≠none
theorem gh.refl(b:∀a,q a->d a≠none):gh q d q d:=⟨λ_ _ h=>h,λ_ h=>h,by grind,b⟩
theorem nz.laid{o:HO}(a:d h=none):nz d (upd d h o):=λb u e=>by rwa[ax (aZ e a)]
theorem gh.laid{Z:b'->Prop}{H:Hp}{p:b'}{o:HO}(d:∀a,Z a->H a≠none)(h:H p=none):gh Z H Z (upd H p o):=
 ⟨nz.laid h,λ_ h=>h,by grind,λa b=>by
  rw[ax (λe=>d a b (by rwa[e]))]
  exact d a b⟩
def Zp(Z:b'->Prop)(p:b'):b'->Prop:=λa=>Z a\/a=p
def fv(f b:Bool)(Z:b'->Prop)(g H:Hp)(d:D)(v:V):Prop:=
 if b=true then ∃a c e,d=.lst e/\v=.ref a/\g a=none/\¬ Z a/\H a=some (.lst c)/\bg Z H e c
 else if f=true then Now Z H d v else Rep Z H d v
variable{C:Bool}
theorem fv.own(a:d h=none)(b:¬ q h)(c:ο h=some (.lst O))(e:bg q ο o O):fv C true q d ο (.lst o) (.ref h):=⟨h,O,o,rfl,rfl,a,b,c,e⟩
theorem fv.rep(h:Rep q ο j x):fv C false q d ο j x:=by
 unfold fv;rw[if_neg (by simp)]
 split
 .exact h.now
 .exact h
theorem fv.now(h:fv true C q d ο j x):Now q ο j x:=by
 unfold fv at h;split at h
 .obtain⟨a,b,f,rfl,rfl,_,_,c,e⟩:=h
  exact⟨a,b,rfl,.inl c,e⟩
 simp_all
variable{B3 υ:TE}{c:Cx}{m:pd}
theorem PE.imp(h:PE c m υ)(i:∀a H Q,B3 a H Q->υ a H Q):PE c m B3:=λpins s a H Q I q=>h _ s a H Q I (i a H Q q)
theorem nO{α β:Type}{x:Out α}{f:α->Out β}{b:β}(h:(x >>= f)=.ok b):∃a,x=.ok a/\f a=.ok b:=by
 cases x with
 |ok a=>simp_all
 |exc c d=>cases h
 |bad=>cases h
variable{b:Nat}
theorem bE(h:small b=true):b<=K':=of_decide_eq_true h
noncomputable def ku:D->Option V
 |.non=>some .non
 |.bl b=>some (.bl b)
 |.int i=>some (.int i)
 |.str x=>some (.str x)
 |_=>none
theorem iO(h:ku j=some x):Rep q d j x:=by
 cases j<;>first|cases h;simp only[Rep]|exact bQ h
theorem gY(h:Now q d .non x):x=.non:=by simpa only [Now,Rep]using h
theorem dg(h:Now q d (.int T) x):x=.int T:=by simpa only [Now,Rep]using h
theorem jT(h:Now q d (.bl C) x):x=.bl C:=by simpa only [Now,Rep]using h
variable{e:Str}
theorem dh(h:Now q d (.str e) x):x=.str e:=by simpa only [Now,Rep]using h
theorem c7(h:Now q d (.lst o) x):∃a b,x=.ref a/\Rd d a (.lst b)/\bg q d o b:=h
theorem gZ(h:Now q d (.tup o) x):∃a b,x=.ref a/\q a/\Rd d a (.tup b)/\bg q d o b:=by simpa only [Now,Rep]using h
variable{A:A'}
theorem mO(a:Rd d h (.lst O)):mI A d h O:=.inl a
theorem uv(a:Rd d h (.tup O)):uA A d h O:=.inl a
variable{η:VK}
theorem Eh(c:∀a,q a->d a≠none)(h:bg q d o O)(k:∀v f g,gh q d g f->fv C true g d f (.lst o) v->η v f):∀p,d p=none->η (.ref p) (upd d p (.lst O)):=λp e=>
 k _ _ q (gh.laid c e) (.own e (λz=>c p z e) aR (h.mono (λa b _=>nz.laid e a b) λ_ z=>z))
def Mt:R2:=λx y H Q=>∃l b a c,x=.ref l/\y=.ref b/\Rd H l (.lst a)/\Rd H b (.lst c)/\a.length+c.length<=K'/\∀p,H p=none->Q (.ref p) (upd H p (.lst (a++c)))
def Ei(a:ě):R2:=λx y H Q=>match a with
 |.Add=>(∃i j,x=.int i/\y=.int j/\Q (.int (i+j)) H)\/(∃i j,x=.str i/\y=.str j/\i.length+j.length<=K'/\Q (.str (i++j)) H)\/Mt x y H Q
 |.Sub=>∃i j,x=.int i/\y=.int j/\Q (.int (i - j)) H
 |.Mult=>∃i j,x=.int i/\y=.int j/\HV i j/\Q (.int (i*j)) H
 |.FloorDiv=>∃i j,x=.int i/\y=.int j/\LR i j/\Q (.int (i / j)) H
 |.Mod=>∃i j,x=.int i/\y=.int j/\0<j/\Q (.int (i%j)) H
 |.Pow=>∃i j,x=.int i/\y=.int j/\Ss i j/\Q (.int (i ^ j.toNat)) H
 |_=>False
theorem Ao(g:ě):kg c (Ĝ g) (Ei g):=by
 cases g with
 |Add=>exact HW.or (uG.or (by
   intro pins s E H x y v u Q I p t h;refine bz h λl b k m i j w A F q=>?_;subst i;subst j
   cases p;cases t;obtain⟨z,a,n,r,e⟩:k.length<=K'/\∃(a:List _) (n:Nat),Vals k _/\s.heap.get? l=some _:=Rd.ok w I.hok;obtain⟨G,d,J,o,B⟩:m.length<=K'/\∃(a:List _) (n:Nat),Vals m _/\s.heap.get? b=some _:=Rd.ok A I.hok;have K:=r.length;have C:=o.length;refine PySem.P.add_list e B ?_ (by grind)
   have D:a.toArray++d.toArray=(a++d).toArray:=by simp
   rw[D];exact⟨.ref _,_,I.SA (r.append o) (by grind),rfl,q _ I.fresh⟩))
 |Sub=>exact LQ λ_ _ _ _ _ _ _ q=>sub_int q
 |Mult=>exact PD λ_ _ _ _ _ _ _ f q=>mul_int q f.ok
 |FloorDiv=>exact DB
 |Mod=>exact HX
 |Pow=>exact PD λ_ _ _ _ _ _ _ f q=>pow_int_small f.1 f.2.1 f.2.2 q
 |_=>exact λ_ _ _ _ _ _ _ _ _ _ _ _ h=>h.elim
variable{o6:Prop}
theorem sd{z:N1}(h:(Out.bad:Out N1)=.ok z):o6:=nomatch h
theorem GX{α:Type}{z:α}{y:Out α}(h:(if C=true then y else .bad)=.ok z)(K:C=true->y=.ok z->o6):o6:=by
 cases C
 .exact sd h
 .exact K rfl h
variable{F9:ě}{M1:V}{N6 U:D}{P1:Bool}
theorem Ir(n:Now q d j x)(o:Now q d U M1)(h:∀a,q a->d a≠none)(c:fE F9 j U=.ok (P1,N6))(k:∀v r t,gh q d t r->fv C P1 t d r N6 v->η v r):Ei F9 x M1 d η:=by
 have e:∀{u:D}{v:V},ku u=some v->Out.ok (false,u)=Out.ok (P1,N6)->η v d:=λA g=>by
  cases g;exact k _ d q (gh.refl h) (.rep (iO A))
 unfold fE at c;split at c
 .rename_i p _
  obtain⟨⟨i,s⟩,rfl,rfl⟩:=p;cases dg n;cases dg o;cases F9 with
  |Add=>exact .inl ⟨_,_,rfl,rfl,e rfl c⟩
  |Sub=>exact⟨_,_,rfl,rfl,e rfl c⟩
  |Mult=>exact GX c λf c=>⟨_,_,rfl,rfl,(Bool.or_eq_true_iff.mp f).imp sX sX,e rfl c⟩
  |FloorDiv=>exact GX c λf c=>⟨_,_,rfl,rfl,⟨of_decide_eq_true (bL f),of_decide_eq_true (bR f)⟩,e rfl c⟩
  |Mod=>exact GX c λf c=>⟨_,_,rfl,rfl,of_decide_eq_true f,e rfl c⟩
  |Pow=>exact GX c λf c=>⟨_,_,rfl,rfl,⟨of_decide_eq_true (bL (bL f)),Int.le_trans (of_decide_eq_true (bR (bL f))) (show(1000:Int)<=1000000 by decide),of_decide_eq_true (bR f)⟩,e rfl c⟩
  |_=>exact sd c
 .split at c
  .cases j with
   |str a=>
    cases U with
    |str b=>
     cases dh n;cases dh o;exact GX c λf c=>.inr (.inl ⟨_,_,rfl,rfl,bE f,e rfl c⟩)
    |_=>exact sd c
   |lst a=>
    cases U with
    |lst b=>
     refine xe (c7 n) λl z=>bF z λB E F w=>?_
     refine xe (c7 o) λm z=>bF z λG H I y=>?_
     refine GX c λf c=>?_
     cases c;exact .inr (.inr ⟨l,m,B,G,E,H,F,I,by rw[w.length,y.length];exact(bE f),Eh h (w.append y) k⟩)
    |_=>exact sd c
   |_=>exact sd c
  .exact sd c
theorem qV{b:HO}(f:∀o w,B1≠.cZ o w)(c:∀o w,b≠.cZ o w)(a:Rd d h B1)(h':Rd d h b):B1=b:=by
 rcases a with a|⟨o,a⟩<;>rcases h' with h' |⟨g,h'⟩<;>rw[a]at h'<;>injection h' with e
 .grind
 .grind
 grind
variable{F4:List V}
theorem uU(a:Rd d h (.lst O))(h':Rd d h (.lst F4)):O=F4:=by
 injection (qV (λ_ _ z=>by cases z) (λ_ _ z=>by cases z) a h')
theorem uV(a:Rd d h (.tup O))(h':Rd d h (.tup F4)):O=F4:=by
 injection (qV (λ_ _ z=>by cases z) (λ_ _ z=>by cases z) a h')
theorem pH(a:Rd d h (.lst O))(h':Rd d h (.tup F4)):False:=by
 cases (qV (λ_ _ z=>by cases z) (λ_ _ z=>by cases z) a h')
mutual
theorem Rep.uniq{Z:b'->Prop}{H:Hp}:∀(n:Nat) (d d':D) (v:V),aN n d=true->aN n d'=true->Rep Z H d v->Rep Z H d' v->d=d'
 |n,.lst j,d',v,o,c,h,h'=>by
  simp only[Rep]at h;obtain⟨a,k,rfl,_,g,l⟩:=h;cases d'<;>simp only[Rep]at h'
  case lst ys=>
   obtain⟨b,m,e,_,f,i⟩:=h';cases e;cases uU g f;cases n with
   |zero=>simp[aN]at o
   |succ n=>rw[bg.uniq n j ys k (by simpa[aN]using o) (by simpa[aN]using c) l i]
  case tup ys=>
   obtain⟨b,m,e,_,f,i⟩:=h';cases e;exact(pH g f).elim
  case dct ks ys=>cases n<;>simp[aN]at c
  all_goals cases h'
 |n,.tup j,d',v,o,c,h,h'=>by
  simp only[Rep]at h;obtain⟨a,k,rfl,_,g,l⟩:=h;cases d'<;>simp only[Rep]at h'
  case tup ys=>
   obtain⟨b,m,e,_,f,i⟩:=h';cases e;cases uV g f;cases n with
   |zero=>simp[aN]at o
   |succ n=>rw[bg.uniq n j ys k (by simpa[aN]using o) (by simpa[aN]using c) l i]
  case lst ys=>
   obtain⟨b,m,e,_,f,i⟩:=h';cases e;exact(pH f g).elim
  case dct ks ys=>cases n<;>simp[aN]at c
  all_goals cases h'
 |n,.dct ks j,_,_,o,_,_,_=>by cases n<;>simp[aN]at o
 |n,.ref _,_,_,_,_,h,_=>by simp only[Rep]at h
 |n,.non,d',v,_,c,h,h'=>by
  simp only[Rep]at h;subst h
  cases d'<;>simp only[Rep]at h'<;>first|rfl | (obtain⟨_,_,e,_⟩:=h';cases e;done) | (cases h';done)
 |n,.bl b,d',v,_,c,h,h'=>by
  simp only[Rep]at h;subst h
  cases d'<;>simp only[Rep]at h'<;>first | (obtain⟨_,_,e,_⟩:=h';cases e;done) | (cases h';rfl) | (cases h';done)
 |n,.int b,d',v,_,c,h,h'=>by
  simp only[Rep]at h;subst h
  cases d'<;>simp only[Rep]at h'<;>first | (obtain⟨_,_,e,_⟩:=h';cases e;done) | (cases h';rfl) | (cases h';done)
 |n,.str b,d',v,_,c,h,h'=>by
  simp only[Rep]at h;subst h
  cases d'<;>simp only[Rep]at h'<;>first | (obtain⟨_,_,e,_⟩:=h';cases e;done) | (cases h';rfl) | (cases h';done)
theorem bg.uniq{Z:b'->Prop}{H:Hp}:∀(n:Nat) (xs a:List D) (b:List V),(∀x∈xs,aN n x=true)->(∀x∈a,aN n x=true)->bg Z H xs b->bg Z H a b->xs=a
 |n,[],a,b,_,_,h,h'=>by
  rw[h.nil_inv]at h';cases a with
  |nil=>rfl
  |cons y a=>obtain⟨_,_,e,_⟩:=h'.cons_inv;cases e
 |n,x::xs,a,b,o,d,h,h'=>by
  obtain⟨v,r,rfl,f,g⟩:=h.cons_inv;cases a with
  |nil=>exact absurd h'.nil_inv (by simp)
  |cons y a=>
   obtain⟨w,k,e,i,j⟩:=h'.cons_inv;cases e;rw[Rep.uniq n x y v (o x (by simp)) (d y (by simp)) f i,bg.uniq n xs a r (λz c=>o z (by simp[c])) (λz c=>d z (by simp[c])) g j]
end
mutual
theorem iP:∀(n:Nat) (d:D),aN n d=true->eJ d d=true
 |n,.lst a,o=>by
  cases n with
  |zero=>simp[aN]at o
  |succ n=>exact gG n a (by simpa[aN]using o)
 |n,.tup a,o=>by
  cases n with
  |zero=>simp[aN]at o
  |succ n=>exact gG n a (by simpa[aN]using o)
 |n,.dct _ _,o=>by cases n<;>simp[aN]at o
 |n,.ref _,o=>by cases n<;>simp[aN]at o
 |n,.non,_=>rfl
 |n,.bl _,_=>beq_self_eq_true (α:=Bool) _
 |n,.int _,_=>beq_self_eq_true (α:=Int) _
 |n,.str _,_=>beq_self_eq_true (α:=Str) _
theorem gG:∀(n:Nat) (xs:List D),(∀x∈xs,aN n x=true)->gg xs xs=true
 |n,[],_=>rfl
 |n,x::xs,o=>by
  simp only[gg,iP n x (o x (by simp)),gG n xs λz hz=>o z (by simp[hz]),Bool.and_self]
end
theorem fF:∀(xs a:List D),((Y' (min xs.length a.length)).all (λj=>eJ (xs.getD j .non) (a.getD j .non))&&(xs.length==a.length))=gg xs a
 |[],[]=>rfl
 |[],_::_=>rfl
 |_::_,[]=>rfl
 |x::xs,y::a=>by
  have b:min (x::xs).length (y::a).length=min xs.length a.length+1:=by simp
  rw[b,aax,gg,←(fF xs a)];simp[Function.comp_def,Bool.and_assoc]
variable{N3:List D}
theorem s_(h:o.length=N3.length):(Y' o.length).all (λj=>eJ (o.getD j .non) (N3.getD j .non))=gg o N3:=by
 have e:=fF o N3
 simp_all
theorem vW(h:o.length≠N3.length):gg o N3=false:=by
 rw[←fF o N3];simp[h]
inductive Vw (s:j') (Z:b'->Prop) (H:Hp):D->f'->Prop where
 |non:Vw s Z H .non .none
 |bl (b:Bool):Vw s Z H (.bl b) (.bool b)
 |int (i:Int) (t:È):Vw s Z H (.int i) (.int i t)
 |str (x:Str) (t:È):Vw s Z H (.str x) (.str x t)
 |lst {l:b'}{its:List f'}{vs:List V}{ds:List D}:s.heap.IsList l its.toArray->Vals vs its->Rd H l (.lst vs)/\bg Z H ds vs->Vw s Z H (.lst ds) (.ref l)
 |tup {l:b'}{its:List f'}{vs:List V}{ds:List D}:s.heap.IsTuple l its.toArray->Vals vs its->Rd H l (.tup vs)/\bg Z H ds vs->Vw s Z H (.tup ds) (.ref l)
variable{E:List (b'×Obj)}{N:f'}{d0:L2.St}{s:j'}
theorem gp(I:Inv c E d0 d s)(f:Now q d j x)(r:RelV x N)(o:aN b j=true):Vw s q d j N:=by
 cases j with
 |non=>cases gY f;cases r;exact .non
 |bl e=>cases jT f;cases r;exact .bl e
 |int e=>cases dg f;obtain⟨t,rfl⟩:=r;exact .int e t
 |str e=>cases dh f;obtain⟨t,rfl⟩:=r;exact .str e t
 |lst m=>
  obtain⟨a,n,rfl,g,h⟩:=c7 f;cases r;obtain⟨i,l,p,u⟩:=I.list (mO g);exact .lst p.isList l ⟨g,h⟩
 |tup m=>
  obtain⟨a,n,rfl,_,g,h⟩:=gZ f;cases r;obtain⟨i,l,p,u⟩:=I.tuple (uv g);exact .tup p l ⟨g,h⟩
 |dct w m=>cases b<;>simp[aN]at o
 |ref k=>cases b<;>simp[aN]at o
variable{χ:List f'}
theorem qW(r:Vals O χ)(c:b<χ.length):∃v,O[b]?=some v/\RelV v χ[b]:=by
 have d:=r.length;have a:O[b]?=some O[b]:=by simp
 obtain⟨u,e,f⟩:=r.get a
 simp_all
variable{W4:List f'}{X:ZW}
theorem kx(I:Inv c E d0 d s)(y:∀(X:ZW) (f g:D) (u w:f'),X.units+b<ZU->aN b f=true->aN b g=true->Vw s q d f u->Vw s q d g w->ē X s u w (eJ f g))(ox:∀x∈o,aN b x=true)(z:∀x∈N3,aN b x=true)(H:X.units+(b+1)<ZU)(i:Vals O χ)(k:Vals F4 W4)(pl:bg q d o O)(l:bg q d N3 F4):
  ∀j (m:j<χ.toArray.size) (n:j<W4.toArray.size),ē X.in1 s χ.toArray[j] W4.toArray[j] (eJ (o.getD j .non) (N3.getD j .non)):=by
 intro j m n;have J:=i.length;have K:=k.length;have L:=pl.length;have M:=l.length;obtain⟨v,A,B⟩:=qW i m;obtain⟨w,C,h⟩:=qW k n;have p:o[j]?=some (o.getD j .non):=by grind
 have r:N3[j]?=some (N3.getD j .non):=by grind
 obtain⟨N,a,F⟩:=pl.get p;obtain⟨P,e,G⟩:=l.get r;rw[A]at a;cases a
 rw[C]at e;cases e
 have t:=ox _ (ZV p);have o2:=z _ (ZV r);exact y _ _ _ _ _ (by grind) t o2 (gp I F.now B t) (gp I G.now h o2)
variable{N2:f'}
theorem Ap(c:Vw s q d j N)(g:Vw s q d U N2)(ox:aN b j=true)(f:aN b U=true)(h:aca X s N N2 (eJ j U)):ē X s N N2 (eJ j U):=by
 by_cases e:N=N2
 .subst e
  have:eJ j U=true:=by
   cases c<;>cases g
   case lst.lst pl _ _ _ _ _ pm=>
    cases b with
    |zero=>simp[aN]at ox
    |succ b=>
     cases uU pl.1 pm.1;cases bg.uniq b _ _ _ (by simpa[aN]using ox) (by simpa[aN]using f) pl.2 pm.2
     exact gG b _ (by simpa[aN]using ox)
   case tup.tup pl _ _ _ _ _ pm=>
    cases b with
    |zero=>simp[aN]at ox
    |succ b=>
     cases uV pl.1 pm.1;cases bg.uniq b _ _ _ (by simpa[aN]using ox) (by simpa[aN]using f) pl.2 pm.2
     exact gG b _ (by simpa[aN]using ox)
   case lst.tup pl _ _ _ _ _ pm=>exact(pH pl.1 pm.1).elim
   case tup.lst pl _ _ _ _ _ pm=>exact(pH pm.1 pl.1).elim
   all_goals first|rfl|exact beq_self_eq_true _
  rw[this];exact acb _
 .intro prog i E Q k
  unfold eqBool;refine ā (aaw (λa=>absurd (eq_of_beq a) e) λ_=>?_)
  cases c<;>exact p' (h prog i E _ (č k))
theorem tf(I:Inv c E d0 d s):∀(n:Nat) (A:ZW) (j k:D) (u w:f'),A.units+n<ZU->aN n j=true->aN n k=true->Vw s q d j u->Vw s q d k w->aca A s u w (eJ j k):=by
 intro n
 induction n using Nat.strongRecOn with
 |_ n L=>
 intro A j k u w J H M N y;have e:A.units<ZU:=Ý (ģ _ _) J;cases N with
 |non=>
  cases y with
  |non=>exact ac7
  |bl=>exact ac8 _
  |int=>exact ac9 _ _
  |str=>exact ac' _ _
  |lst a=>exact ada a e
  |tup a=>exact adb a e
 |bl=>
  cases y with
  |non=>exact ade _
  |bl=>exact adf _ _
  |int=>exact adg _ _ _
  |str=>exact adh _ _ _
  |lst a=>exact adi _ a e
  |tup a=>exact adj _ a e
 |int=>
  cases y with
  |non=>exact adk _ _
  |bl=>exact adl _ _ _
  |int=>exact adm _ _ _ _
  |str=>exact adn _ _ _ _
  |lst a=>exact ado _ _ a e
  |tup a=>exact adp _ _ a e
 |str=>
  cases y with
  |non=>exact adq _ _
  |bl=>exact ads _ _ _
  |int=>exact adt _ _ _ _
  |str=>exact adu _ _ _ _
  |lst a=>exact adv _ _ a e
  |tup a=>exact adw _ _ a e
 |@lst l x O i g z B=>
  cases y with
  |non=>exact adx g e
  |bl=>exact ady _ g e
  |int=>exact adz _ _ g e
  |str=>exact adA _ _ g e
  |@lst m o K f a C F=>
   cases n with
   |zero=>simp[aN]at H
   |succ n=>
    have P:=z.length;have Q:=C.length;have R:=B.2.length;have S:=F.2.length;rw[show eJ (.lst i) (.lst f)=gg i f from rfl]
    by_cases G:i.length=f.length
    .rw[←s_ G]
     have:=adB g a (by simp only[Ð];omega) e (kx I (λA j k u w h p b r t=>Ap r t p b (L n n.lt_succ_self A j k u w h p b r t)) (by simpa[aN]using H) (by simpa[aN]using M) J z C B.2 F.2)
     rw[show x.toArray.size=i.length by simp only[Ð];omega]at this
     exact this
    .rw[vW G]
     exact adC g a (by simp only[Ð,bne_iff_ne];omega) e
  |tup a=>exact adD g a e
 |@tup l x O i g z B=>
  cases y with
  |non=>exact adE g e
  |bl=>exact adF _ g e
  |int=>exact adG _ _ g e
  |str=>exact adH _ _ g e
  |lst a=>exact adI g a e
  |@tup m o K f a C F=>
   cases n with
   |zero=>simp[aN]at H
   |succ n=>
    have P:=z.length;have Q:=C.length;have R:=B.2.length;have S:=F.2.length;rw[show eJ (.tup i) (.tup f)=gg i f from rfl,←fF i f]
    have:=acd g a e (kx I (λA j k u w h p b r t=>Ap r t p b (L n n.lt_succ_self A j k u w h p b r t)) (by simpa[aN]using H) (by simpa[aN]using M) J z C B.2 F.2)
    rw[show x.toArray.size=i.length by simp only[Ð];omega,show o.toArray.size=f.length by simp only[Ð];omega]at this
    exact this
theorem gH(I:Inv c E d0 d s)(n:Nat)(A:ZW)(a b:D)(u w:f')(h:A.units+n<ZU)(ox:aN n a=true)(e:aN n b=true)(f:Vw s q d a u)(g:Vw s q d b w):ē A s u w (eJ a b):=Ap f g ox e (tf I n A a b u w h ox e f g)
theorem uW(I:Inv c E d0 d s)(w:X.units+(b+1)<ZU)(ox:aN (b+1) j=true)(y:aN (b+1) U=true)(z:Vw s q d j N)(n:Vw s q d U N2):SeqAt.RcNeAt X s N N2 (!eJ j U):=by
 have e:X.units<ZU:=Ý (ģ _ _) w;cases z with
 |non=>
  cases n with
  |non=>exact adJ
  |bl=>exact adK _
  |int=>exact adL _ _
  |str=>exact adM _ _
  |lst a=>exact adN a e
  |tup a=>exact adO a e
 |bl=>
  cases n with
  |non=>exact adP _
  |bl=>exact adQ _ _
  |int=>exact adR _ _ _
  |str=>exact adS _ _ _
  |lst a=>exact adT _ a e
  |tup a=>exact adU _ a e
 |int=>
  cases n with
  |non=>exact adV _ _
  |bl=>exact adW _ _ _
  |int=>exact adX _ _ _ _
  |str=>exact adY _ _ _ _
  |lst a=>exact adZ _ _ a e
  |tup a=>exact ad_ _ _ a e
 |str=>
  cases n with
  |non=>exact ad0 _ _
  |bl=>exact ad1 _ _ _
  |int=>exact ad2 _ _ _ _
  |str=>exact ad3 _ _ _ _
  |lst a=>exact ad4 _ _ a e
  |tup a=>exact ad5 _ _ a e
 |@lst l k A h g o p=>
  cases n with
  |non=>exact ad6 g e
  |bl=>exact ad7 _ g e
  |int=>exact ad8 _ _ g e
  |str=>exact ad9 _ _ g e
  |@lst m i x f a r t=>
   have B:=o.length;have C:=r.length;have D:=p.2.length;have F:=t.2.length;rw[show eJ (.lst h) (.lst f)=gg h f from rfl]
   by_cases u:h.length=f.length
   .rw[←s_ u]
    have:=ad' g a (by simp only[Ð];omega) e (kx I (gH I b) (by simpa[aN]using ox) (by simpa[aN]using y) w o r p.2 t.2)
    rw[show k.toArray.size=h.length by simp only[Ð];omega]at this
    exact this
   .rw[vW u]
    exact aea g a (by simp only[Ð,bne_iff_ne];omega) e
  |tup a=>exact aeb g a e
 |@tup l k A h g o p=>
  cases n with
  |non=>exact aec g e
  |bl=>exact aed _ g e
  |int=>exact aee _ _ g e
  |str=>exact aef _ _ g e
  |lst a=>exact aeg g a e
  |@tup m i x f a r t=>
   have B:=o.length;have C:=r.length;have D:=p.2.length;have F:=t.2.length;rw[show eJ (.tup h) (.tup f)=gg h f from rfl,←fF h f]
   have:=aeh g a e (kx I (gH I b) (by simpa[aN]using ox) (by simpa[aN]using y) w o r p.2 t.2)
   rw[show k.toArray.size=h.length by simp only[Ð];omega,show i.toArray.size=f.length by simp only[Ð];omega]at this
   exact this
theorem Vw.uniq{s:j'}{Z:b'->Prop}{H:Hp}{n:Nat}{d d':D}{u:f'}(h:Vw s Z H d u)(h':Vw s Z H d' u)(o:aN n d=true)(r:aN n d'=true):d=d':=by
 cases h with
 |non=>cases h';rfl
 |bl b=>cases h';rfl
 |int i t=>cases h';rfl
 |str x t=>cases h';rfl
 |@lst l j k m w y e=>
  cases h' with
  |@lst _ a f g p q c=>
   cases uU e.1 c.1;cases n with
   |zero=>simp[aN]at o
   |succ n=>rw[bg.uniq n m _ k (by simpa[aN]using o) (by simpa[aN]using r) e.2 c.2]
  |@tup _ a f g p q c=>exact(pH e.1 c.1).elim
 |@tup l j k m w y e=>
  cases h' with
  |@tup _ a f g p q c=>
   cases uV e.1 c.1;cases n with
   |zero=>simp[aN]at o
   |succ n=>rw[bg.uniq n m _ k (by simpa[aN]using o) (by simpa[aN]using r) e.2 c.2]
  |@lst _ a f g p q c=>exact(pH c.1 e.1).elim
def Aq(s:j')(Z:b'->Prop)(H:Hp)(a:D)(u:f'):Bool:=@decide (∃d,aN 8 d=true/\Vw s Z H d u/\eJ d a=true) (aay _)
theorem vX(o:aN 8 U=true)(h:Vw s q d U N):Aq s q d j N=eJ U j:=by
 cases e:eJ U j with
 |true=>exact @decide_eq_true _ (aay _) ⟨U,o,h,e⟩
 |false=>
  refine @decide_eq_false _ (aay _) ?_;rintro⟨f,b,c,a⟩;rw[Vw.uniq c h b o,e]at a;cases a
theorem nP{X:Cx}{pins:List (b'×Obj)}{f:L2.St}{Z:b'->Prop}{H:Hp}{s:j'}(I:Inv X pins f H s){c:D}:∀{b:List D}{e:List V}{a:List f'},bg Z H b e->Vals e a->(∀d∈b,aN 8 d=true)->a.any (Aq s Z H c)=b.any λd=>eJ d c
 |[],_,_,h,r,_=>by rw[h.nil_inv]at r;cases r;rfl
 |d::b,_,_,h,r,o=>by
  obtain⟨v,vr,rfl,g,i⟩:=h.cons_inv;cases r with
  |cons j k=>
   rw[Ĥ,Ĥ,nP I i k (by simp_all),vX (o d (by simp)) (gp I g.now j (o d (by simp)))]
theorem nQ{X:Cx}{pins:List (b'×Obj)}{k:L2.St}{Z:b'->Prop}{H:Hp}{s:j'}(I:Inv X pins k H s){A:ZW}{b:D}{w:f'}(f:A.units+8<ZU)(ox:aN 8 b=true)(g:Vw s Z H b w):
  ∀{c:List D}{i:List V}{a:List f'},bg Z H c i->Vals i a->(∀d∈c,aN 8 d=true)->∀u∈a,ē A s u w (Aq s Z H b u)
 |[],_,_,h,r,_,u,hm=>by rw[h.nil_inv]at r;cases r;simp at hm
 |d::c,_,_,h,r,o,u,hm=>by
  obtain⟨v,vr,rfl,l,m⟩:=h.cons_inv;cases r with
  |cons n p=>
   rcases Æ.mp hm with e|hm
   .subst e
    have j:=gp I l.now n (o d (by simp))
    rw[vX (o d (by simp)) j]
    exact gH I 8 A d b _ w f (o d (by simp)) ox j g
   .exact nQ I f ox g m p (λz q=>o z (by simp[q])) u hm
def Ar(c:Ú):R2:=λx y H Q=>∃Z a b k,Now Z H a x/\Now Z H b y/\fh c a b=.ok k/\Q (.bl k) H
theorem th{ks:List L2.Key}(h:Now q d (.dct ks o) x):∃a,x=.ref a:=by
 refine cF h λa _ e _=>?_
 grind
theorem GY(e:Now q d j x)(l:Now q d U M1)(f:RelV x N)(m:RelV M1 N2)(h:isD j U=.ok C):plainIs N N2=true/\(N==N2)=C:=by
 have Ej:∀{g:List D}{x:V}{N:f'},Now q d (.lst g) x->RelV x N->∃a,N=.ref a:=λn r=>by
  obtain⟨a,_,rfl,_⟩:=c7 n;exact⟨a,r⟩
 have k:∀{g:List D}{x:V}{N:f'},Now q d (.tup g) x->RelV x N->∃a,N=.ref a:=λn r=>by
  obtain⟨a,_,rfl,_⟩:=gZ n;exact⟨a,r⟩
 cases U with
 |non=>
  cases gY l;cases m;cases j with
  |non=>cases gY e;cases f;cases h;exact⟨rfl,rfl⟩
  |bl b=>cases jT e;cases f;cases h;exact⟨rfl,rfl⟩
  |int i=>cases dg e;obtain⟨t,rfl⟩:=f;cases h;exact⟨rfl,rfl⟩
  |str i=>cases dh e;obtain⟨t,rfl⟩:=f;cases h;exact⟨rfl,rfl⟩
  |lst g=>obtain⟨a,rfl⟩:=Ej e f;cases h;exact⟨rfl,rfl⟩
  |tup g=>obtain⟨a,rfl⟩:=k e f;cases h;exact⟨rfl,rfl⟩
  |dct o g=>obtain⟨a,rfl⟩:=th e;cases f;cases h;exact⟨rfl,rfl⟩
  |ref n=>exact(show False by simpa only [Now,Rep]using e).elim
 |bl c=>
  cases jT l;cases m;cases j with
  |non=>cases gY e;cases f;cases h;exact⟨rfl,rfl⟩
  |bl b=>cases jT e;cases f;cases h;exact⟨rfl,by grind⟩
  |int i=>cases dg e;obtain⟨t,rfl⟩:=f;cases h;exact⟨rfl,rfl⟩
  |str i=>cases dh e;obtain⟨t,rfl⟩:=f;cases h;exact⟨rfl,rfl⟩
  |lst g=>obtain⟨a,rfl⟩:=Ej e f;cases h;exact⟨rfl,rfl⟩
  |tup g=>obtain⟨a,rfl⟩:=k e f;cases h;exact⟨rfl,rfl⟩
  |dct o g=>exact sd h
  |ref n=>exact sd h
 |_=>exact sd h
theorem GZ(G:c.A.units+64<ZU)(I:Inv c E d0 d s)(n:RelV x N)(o:RelV M1 N2)(r:Now q d j x)(t:Now q d U M1)(e:inD j U=.ok C):
  (η (.bl C) d->nc (l' c.prog c.w) c.A (Ë .In N N2) (EP c E d0 η) c.xe s)/\(η (.bl !C) d->nc (l' c.prog c.w) c.A (Ë .NotIn N N2) (EP c E d0 η) c.xe s):=by
 unfold inD at e;split at e
 .rename_i u
  split at e
  .rename_i g
   cases e;simp only[Ç]at g;obtain⟨h,f⟩:=g;have f:=Õ.mp f;obtain⟨l,z,rfl,y,i⟩:=c7 t;cases o;obtain⟨b,k,p,B⟩:=I.list (mO y);have m:∀w,w∈b.toArray->ē c.A.in1 s w N _:=λw D=>nQ I (by grind) h (gp I r n h) i k f w (by grind)
   have F:b.toArray.any (Aq s q d j)=u.any λM1=>eJ M1 j:=by
    rw[←nP I i k f];simp
   exact⟨λa=>SeqAt.in_listAt _ p.isList m ⟨.bl _,d,I,rfl,by grind⟩,λa=>SeqAt.notIn_listAt _ p.isList m ⟨.bl _,d,I,rfl,by grind⟩⟩
  .cases e
 .rename_i u
  split at e
  .rename_i g
   cases e;simp only[Ç]at g;obtain⟨h,f⟩:=g;have f:=Õ.mp f;obtain⟨l,z,rfl,_,y,i⟩:=gZ t;cases o;refine bF (I.tuple (uv y)) λb k p B=>?_
   have m:∀w,w∈b.toArray->ē c.A.in1 s w N _:=λw D=>nQ I (by grind) h (gp I r n h) i k f w (by grind)
   have F:b.toArray.any (Aq s q d j)=u.any λM1=>eJ M1 j:=by
    rw[←nP I i k f];simp
   exact⟨λa=>SeqAt.in_tupleAt _ p m ⟨.bl _,d,I,rfl,by grind⟩,λa=>SeqAt.notIn_tupleAt _ p m ⟨.bl _,d,I,rfl,by grind⟩⟩
  .cases e
 .cases e
  cases dh r;cases dh t;exact⟨λa=>xX _ s d0 d _ _ N N2 η I n o ⟨_,_,rfl,rfl,a⟩,λa=>qv _ s d0 d _ _ N N2 η I n o ⟨_,_,rfl,rfl,a⟩⟩
 .cases e
variable{M2:Ú}
theorem mP(h:fh M2 j U=.ok C)(b:M2=.Lt\/M2=.LtE\/M2=.Gt\/M2=.GtE):∃i a,j=.int i/\U=.int a:=by
 rcases b with rfl|rfl|rfl|rfl<;>cases j<;>first | (cases h) | (cases U<;>first|exact⟨_,_,rfl,rfl⟩|cases h)
theorem nR(J:c.A.units+64<ZU)(D:Ú):kg c (Ë D) (Ar D):=by
 intro pins s E H x y u v Q I n p h;refine bp h λZ d f k r t F=>xa F λe q=>?_
 have l:EP c pins E Q (.bool k) s:=⟨.bl k,H,I,rfl,q⟩
 have a:∀{i j:Int}{o:Ú}{g:Int->Int->Bool},kg c (Ë o) (PC λi j=>.bl (g i j))->d=.int i->f=.int j->k=g i j->nc (l' c.prog c.w) c.A (Ë o u v) (EP c pins E Q) c.xe s:=by
  intro i j o g z B C K;subst B C K;cases dg r;cases dg t;exact z pins s E H _ _ u v Q I n p ⟨_,_,rfl,rfl,q⟩
 cases D with
 |Eq=>
  refine GX (show(if (aN 8 d&&aN 8 f)=true then .ok (eJ d f)else Out.bad)=_ from e) λm e=>?_
  cases e;exact tf I 8 _ _ _ _ _ (by omega) (bL m) (bR m) (gp I r n (bL m)) (gp I t p (bR m)) c.prog c.w c.xe _ l
 |NotEq=>
  refine GX (show(if (aN 8 d&&aN 8 f)=true then .ok (!eJ d f)else Out.bad)=_ from e) λm e=>?_
  cases e;exact uW I (b:=7) (by omega) (bL m) (bR m) (gp I r n (bL m)) (gp I t p (bR m)) c.prog c.w c.xe _ l
 |Lt=>obtain⟨i,j,rfl,rfl⟩:=mP e (by simp);cases e;exact a (DA λ_ _ _ _ _ _ _ q=>lt_int q) rfl rfl rfl
 |LtE=>obtain⟨i,j,rfl,rfl⟩:=mP e (by simp);cases e;exact a (DA λ_ _ _ _ _ _ _ q=>le_int q) rfl rfl rfl
 |Gt=>obtain⟨i,j,rfl,rfl⟩:=mP e (by simp);cases e;exact a (DA λ_ _ _ _ _ _ _ q=>gt_int q) rfl rfl rfl
 |GtE=>obtain⟨i,j,rfl,rfl⟩:=mP e (by simp);cases e;exact a (DA λ_ _ _ _ _ _ _ q=>ge_int q) rfl rfl rfl
 |In=>
  have e:inD d f=.ok k:=e;exact(GZ J I n p r t e).1 q
 |NotIn=>
  have e:(do let b ←inD d f;Out.ok (!b))=.ok k:=e
  obtain⟨b,B,C⟩:=nO e;cases C;exact(GZ J I n p r t B).2 q
 |Is=>
  have e:isD d f=.ok k:=e;obtain⟨z,G⟩:=GY r t n p e;exact wpAny_is_plain z (by rw[G];exact l)
 |IsNot=>
  have e:(do let b ←isD d f;Out.ok (!b))=.ok k:=e
  obtain⟨b,B,C⟩:=nO e;cases C;obtain⟨z,G⟩:=GY r t n p B;exact wpAny_isNot_plain z (by rw[G];exact l)
theorem Iu(f:Now q d j x)(g:Now q d U M1)(b:∀a,q a->d a≠none)(h:(do let r ←fh M2 j U;Out.ok (false,D.bl r))=.ok (P1,N6))(k:∀v c e,gh q d e c->fv C P1 e d c N6 v->η v c):Ar M2 x M1 d η:=by
 obtain⟨r,i,l⟩:=nO h;cases l;exact⟨q,j,U,r,f,g,i,k _ d q (gh.refl b) (.rep (iO rfl))⟩
variable{R6 W3:TT}
theorem PT.imp(h:PT c m W3)(i:∀a H Q,R6 a H Q->W3 a H Q):PT c m R6:=λpins s a H Q I q=>h _ s a H Q I (i a H Q q)
theorem PW.imp(h:PW c m W3)(i:∀a H Q,R6 a H Q->W3 a H Q):PW c m R6:=λb pins s a H Q I q=>h b _ s a H Q I (i a H Q q)
theorem Iv(n:Now q d j x)(h:mw j=some C):sF A x d C:=by
 cases j with
 |non=>cases gY n;cases h;rfl
 |bl b=>cases jT n;cases h;rfl
 |int b=>cases dg n;cases h;rfl
 |str b=>
  cases dh n;simp only[mw]at h;split at h
  .rename_i i
   cases h;refine⟨bE i,?_⟩
   grind
  .exact bQ h
 |lst g=>
  obtain⟨a,c,rfl,e,f⟩:=c7 n;cases h;refine .inl ⟨c,mO e,?_⟩;have:=f.length
  grind
 |tup g=>
  obtain⟨a,c,rfl,_,e,f⟩:=gZ n;cases h;refine .inr (.inl ⟨c,uv e,?_⟩);have:=f.length
  grind
 |dct l g=>exact bQ h
 |ref k=>exact bQ h
def As(Z:b'->Prop)(H:Hp):List D->List V->Prop
 |[],a=>a=[]
 |d::b,a=>∃v r,a=v::r/\Now Z H d v/\As Z H b r
theorem As.one(h:As q d [j] O):∃x,O=[x]/\Now q d j x:=by
 refine aW h λv r e a b=>⟨v,by rw[e,b],a⟩
def Args(c:Bool)(Z:b'->Prop)(H:Hp)(a:List D)(b:List V):Prop:=if c=true then As Z H a b else bg Z H a b
variable{L:List pd}{Q2:TA}
theorem PA.imp{t':TA}(h:PA c L Q2)(i:∀a H Q,t' a H Q->Q2 a H Q):PA c L t':=λb pins s a H Q I q=>h _ _ s a H Q I (i a H Q q)
theorem Au(h:bg q d o O)(e:mu o T=some j):∃v,mu O T=some v/\Rep q d j v:=by
 unfold mu at e ⊢;rw[h.length];cases a:zK _ T with
 |none=>simp_all
 |some b=>
  rw[a]at e;exact h.get e
theorem Iw(f:Now q d j x)(g:Now q d U M1)(c:∀a,q a->d a≠none)(b:uT j U=.ok (P1,N6))(k:∀v h r,gh q d r h->fv C P1 r d h N6 v->η v h):WZ A x M1 d η:=by
 unfold uT at b;split at b
 .obtain⟨l,i,rfl,m,n⟩:=c7 f
  cases dg g;split at b
  .rename_i s e
   cases b;obtain⟨v,o,p⟩:=Au n e;exact .inl ⟨l,i,_,v,rfl,rfl,mO m,o,k v d q (gh.refl c) (.rep p)⟩
  .cases b
 .obtain⟨l,i,rfl,_,m,n⟩:=gZ f
  cases dg g;split at b
  .rename_i s e
   cases b;obtain⟨v,o,p⟩:=Au n e;exact .inr (.inl ⟨l,i,_,v,rfl,rfl,uv m,o,k v d q (gh.refl c) (.rep p)⟩)
  .cases b
 .cases dh f
  cases dg g;split at b
  .rename_i t
   split at b
   .rename_i u e
    cases b;exact .inr (.inr ⟨_,_,u,rfl,rfl,bE t,e,k _ d q (gh.refl c) (.rep (iO rfl))⟩)
   .cases b
  .cases b
 .cases b
theorem Av(xs:List N1)(a b:Option Int):(ed xs a b).length<=xs.length:=by
 unfold ed;rw[î,abw];omega
theorem vY(n d:Nat)(v:Int):max 0 (min (if v<0 then v+(n:Int)else v) (n:Int))=((HT.kl n d (some v):Nat):Int):=by
 show max 0 _=(((if v<0 then (v+(n)).toNat else min _ n):Nat):Int)
 grind
variable{Q0:Int}{w:Nat}
theorem Aw(a:T=b)(c:Q0=w):sliceRange T Q0 1=(Y' (w - b)).map λk=>b+k:=by
 subst a c;unfold sliceRange
 have e:(if (b:Int)<w then ((w:Int) - b+1 - 1) / 1 else 0).toNat=w - b:=by
  split
  .rw[Int.add_sub_cancel,Int.ediv_one,Int.toNat_sub]
  .rw[Nat.sub_eq_zero_of_le (Int.ofNat_le.mp (Int.not_lt.mp ‹_›))];rfl
 rw[if_pos (by decide)]
 show(Y' (if (b:Int)<w then ((w:Int) - b+1 - 1) / 1 else 0).toNat).map _=_
 rw[e];exact Ċ λk _=>by rw[Int.one_mul];exact aaz (b+k)
theorem nS(a b:Option Int)(n:Nat):aaA a b 1 n=(Y' (HT.kl n n b - HT.kl n 0 a)).map λk=>HT.kl n 0 a+k:=by
 refine Aw ?_ ?_
 .cases a with
  |none=>rfl
  |some v=>exact vY n 0 v
 .cases b with
  |none=>rfl
  |some v=>exact vY n n v
theorem ym:∀(n a:Nat) (l:List Nat),a+n<=l.length->((Y' n).map λk=>a+k).filterMap (λi=>l[i]?)=(l.drop a).take n:=by
 intro n
 induction n with
 |zero=>intro a l _;simp
 |succ n c=>
  intro a l h;have b:a+n<l.length:=by omega
  rw[List.range_succ,Ü,List.filterMap_append,c a l (é b),List.take_add_one,List.getElem?_drop];simp[ç b]
theorem Ax(x:Str)(b a:Option Int):(aaA b a 1 x.length).filterMap (x.cps[·]?)=ed x.cps.toList b a:=by
 have c:x.cps.toList.length=x.length:=by rfl
 have e:=HT.zJ x.length _ (M' _) a;rw[nS];unfold ed;rw[c];generalize HT.kl _ 0 b=p at *;generalize HT.kl _ _ a=q at *
 by_cases d:p<=q
 .have:=ym (q - p) p _ (by rw[c];omega)
  simp_all
 grind
def Mu:V->Option Int->Option Int->Hp->VK->Prop:=λx a b H Q=>∃z,x=.str z/\z.length<=K'/\Q (.str ⟨(ed z.cps.toList a b).toArray⟩) H
theorem nU:Ie c Mu:=by
 intro pins s L H x v M N a b O Q I k m n r h;obtain⟨z,rfl,y,q⟩:=h;obtain⟨t,rfl⟩:=k;refine⟨"str",_,F.slot_str_getitem.lookup,aae _ _ _,?_⟩
 have part:∀{w:f'}{o:Option Int},ź w o->∃p:Option (Int×È),w=partValue p/\p.map (·.1)=o:=λh=>by
  cases h with
  |none=>exact⟨none,rfl,rfl⟩
  |int i t=>exact⟨some (i,t),rfl,rfl⟩
 obtain⟨e,A,m1⟩:=part n;obtain⟨f,B,m2⟩:=part r;subst A B;refine wpAny_getItem_str_slice (l:=e) (u:=f) (st:=none) m rfl ?_
 have C:(ϖ z e f none).filterMap (z.cps[·]?)=ed z.cps.toList a b:=by
  unfold ϖ;rw[m1,m2];exact Ax z a b
 have D:(ed z.cps.toList a b).length<=z.length:=by
  have:=Av z.cps.toList a b;simpa[ϗ]using this
 unfold sliceMade;split
 .rename_i j
  have d:(ϖ z e f none).length=z.length:=by
   simp only[Ç,beq_iff_eq]at j;exact j.2
  have E:(⟨(ed z.cps.toList a b).toArray⟩:Str)=z:=by
   unfold ϖ at d;rw[m1,m2]at d;have d:(aaA a b 1 z.length).length=z.length:=d;rw[nS,ZZ,List.length_range]at d;have P:=HT.zJ z.length z.length (M' _) b;have g:z.cps.toList.length=z.length:=by simp[ϗ]
   have G:ed z.cps.toList a b=z.cps.toList:=by
    unfold ed;rw[g]
    by_cases J:z.length=0
    .have:z.cps.toList=[]:=List.eq_nil_of_length_eq_zero (by rw[g];exact J)
     rw[this];simp
    .have K:HT.kl z.length 0 a=0:=by omega
     rw[K,ab6,Š (by rw[g];omega)]
   rw[G]
  refine⟨.str z,H,I,⟨t,rfl⟩,?_⟩;rw[E]at q;exact q
 .rw[C]
  refine⟨?_,.str _,H,I.tok _,⟨_,rfl⟩,q⟩
  show(ed z.cps.toList a b).toArray.size<=K'
  rw[Ð];exact B' D y
def Mv(K:A'):V->Option Int->Option Int->Hp->VK->Prop:=λx a b H Q=>Ma K x a b H Q\/Mu x a b H Q
noncomputable def qZ(F:List D->Out Rs):Sp:=λg H Q _=>
 ∃Z e b d,(∀a,Z a->H a≠none)/\bg Z H e g/\F e=.ok (b,d)/\∀v c f,gh Z H f c->fv false b f H c d v->Q v c
theorem fv.weak(h:fv false P1 q d ο j x):fv C P1 q d ο j x:=by
 unfold fv at h ⊢;split
 .simp_all
 .rename_i a;rw[if_neg a]at h
  split
  .exact h.now
  .exact h
structure Mw(X:Cx)(k:Nat)(x:Str)(F:List D->Out Rs):Prop where
 ex:∃(f:b') (fd:N') (ps:List Str),X.mg x=some (.ref f)/\Z_ X.K (.ref f)=true/\Binds X.K fd ps []/\bq X.prog X.w X.K X.mg X.base eA k f fd ps (qZ F)
inductive fG (h:y'):f'->Bool->Prop where
 |non:fG h .none false
 |bl (b:Bool):fG h (.bool b) b
 |int (i:Int) (t:È):fG h (.int i t) (i != 0)
 |str (x:Str) (t:È):x.length<=K'->fG h (.str x t) ((x.length:Int) != 0)
 |lst {l:b'}{its:Array f'}:h.IsList l its->its.size<=K'->fG h (.ref l) (!its.isEmpty)
 |tup {l:b'}{its:Array f'}:Ĭ h l its->its.size<=K'->fG h (.ref l) (!its.isEmpty)
variable{B4 z:y'}
theorem fG.keep(k:∀b o,(N=.ref b)->z.get? b=some o->B4.get? b=some o)(x:fG z N C):fG B4 N C:=by
 cases x with
 |non=>exact .non
 |bl=>exact .bl _
 |int i C=>exact .int i C
 |str x C a=>exact .str x C a
 |lst q a=>obtain⟨o,c,d⟩:=q;exact .lst ⟨o,k _ o rfl c,d⟩ a
 |tup q a=>obtain⟨o,c,d⟩:=q;exact .tup ⟨o,k _ o rfl c,d⟩ a
variable{B:X'}{G:O'}{ζ:f'->j'->Prop}
theorem fG.run{s:j'}{Q:Bool->j'->Prop}(x:fG s.heap N C)(q:∀a,Q C {s with toks:=a}):nc (l' B G) X (ŋ N) Q ζ s:=by
 have b:=iJ;cases x with
 |non=>exact truthy_none (q _)
 |bl=>exact č (q _)
 |int i C=>exact abe (q _)
 |str x C z=>exact abf (by omega) (q _)
 |lst h z=>exact abg h (by omega) (q _)
 |tup h z=>exact truthy_tuple h (by omega) (q _)
theorem Ay(I:Inv c E d0 d s)(n:Now q d j x)(r:RelV x N)(h:mw j=some C):fG s.heap N C:=by
 cases j with
 |non=>cases gY n;cases r;cases h;exact .non
 |bl b=>cases jT n;cases r;cases h;exact .bl _
 |int b=>cases dg n;obtain⟨k,rfl⟩:=r;cases h;exact .int _ _
 |str b=>
  cases dh n;obtain⟨k,rfl⟩:=r;simp only[mw]at h;split at h
  .rename_i o
   cases h
   have e:((b.length:Int) != 0)=(b.length != 0):=by
    grind
   rw[←e];exact .str b k (bE o)
  .exact bQ h
 |lst i=>
  obtain⟨a,t,rfl,l,m⟩:=c7 n;cases r;cases h;obtain⟨f,g,p,u⟩:=I.list (mO l)
  have e:(!i.isEmpty)=!f.toArray.isEmpty:=by
   have w:=m.length;have y:=g.length
   grind
  rw[e];exact .lst p.isList (by rwa[Ð,←g.length])
 |tup i=>
  obtain⟨a,t,rfl,_,l,m⟩:=gZ n;cases r;cases h;obtain⟨f,g,p,u⟩:=I.tuple (uv l)
  have e:(!i.isEmpty)=!f.toArray.isEmpty:=by
   have w:=m.length;have y:=g.length
   grind
  rw[e];exact .tup p (by rwa[Ð,←g.length])
 |dct z i=>exact bQ h
 |ref k=>exact bQ h
variable{G9:Nat->f'->Prop}{J0 v:List b'}{n5:Ų->j'->Prop}
theorem Az{T:Nat->y'->Prop}(W:Walks B G X.in1 h v J0 b G9 T)(n:Nat->Bool)(c:y'->Prop)(A:∀d h':y',c d->(∀a o,a∉J0->d.get? a=some o->h'.get? a=some o)->c h')(C:∀i f (d:y'),G9 i f->c d->fG d f (n i)):∀(m i:Nat) (s:j'),b - i=m->i<=b->T i s.heap->c s.heap ->
  (∀h' k,(∀a o,a∉J0->s.heap.get? a=some o->h'.get? a=some o)->n5 (.ok (.ret (.bool (((Y' b).drop i).all n)))) {s with heap:=h',toks:=k}) ->
  Ñ (l' B G) X (.builtin "all.loop" ⟨[.ref h],[]⟩) n5 s:=by
 intro m
 induction m with
 |zero=>
  intro i s D E p g j;obtain rfl:i=b:=by omega
  refine ĺ ace ?_;refine p' (W.done s _ _ p λh' k l=>p' (Ļ (U' ?_)))
  have q:=j h' k l;rw[acf (by simp)]at q
  exact q
 |succ m H=>
  intro i s D E p g j;have r:i<b:=by omega
  have L:(Y' b).drop i=i::(Y' b).drop (i+1):=by
   rw[š (by simpa using r)];simp
  refine ĺ ace ?_;refine p' (W.item i s _ _ r p λf h' k I t l=>?_)
  have x:c h':=A _ _ g l;refine p' (ā ((C i f h' I x).run λJ=>?_))
  refine p' (aau ?_);cases e:n i with
  |true=>
   refine U' ⟨ħ acg _,H (i+1) _ (by omega) r t x λK u w=>?_⟩
   have q:=j K u λa o y z=>w a o y (l a o y z)
   simp_all
  |false=>
   refine p' (Ļ (U' ?_))
   simp_all
theorem AA{T:Nat->y'->Prop}(W:Walks B G X.in1 h v J0 b G9 T)(n:Nat->Bool)(c:y'->Prop)(A:∀d h':y',c d->(∀a o,a∉J0->d.get? a=some o->h'.get? a=some o)->c h')(C:∀i f (d:y'),G9 i f->c d->fG d f (n i)):∀(m i:Nat) (s:j'),b - i=m->i<=b->T i s.heap->c s.heap ->
  (∀h' k,(∀a o,a∉J0->s.heap.get? a=some o->h'.get? a=some o)->n5 (.ok (.ret (.bool (((Y' b).drop i).any n)))) {s with heap:=h',toks:=k}) ->
  Ñ (l' B G) X (.builtin "any.loop" ⟨[.ref h],[]⟩) n5 s:=by
 intro m
 induction m with
 |zero=>
  intro i s D E p g j;obtain rfl:i=b:=by omega
  refine ĺ ach ?_;refine p' (W.done s _ _ p λh' k l=>p' (Ļ (U' ?_)))
  have q:=j h' k l;rw[acf (by simp)]at q
  exact q
 |succ m H=>
  intro i s D E p g j;have r:i<b:=by omega
  have L:(Y' b).drop i=i::(Y' b).drop (i+1):=by
   rw[š (by simpa using r)];simp
  refine ĺ ach ?_;refine p' (W.item i s _ _ r p λf h' k I t l=>?_)
  have x:c h':=A _ _ g l;refine p' (ā ((C i f h' I x).run λJ=>?_))
  refine p' (aau ?_);cases e:n i with
  |false=>
   refine U' ⟨ħ aci _,H (i+1) _ (by omega) r t x λK u w=>?_⟩
   have q:=j K u λa o y z=>w a o y (l a o y z)
   simp_all
  |true=>
   refine p' (Ļ (U' ?_))
   simp_all
theorem q7:∀{a:List D}{bs:List Bool},gF a=some bs->bs.length=a.length
 |[],_,h=>by cases h;rfl
 |d::a,bs,h=>by
  simp only[gF]at h;split at h
  .rename_i b c f e
   cases h;rw[ï,ï,q7 e]
  .exact bQ h
theorem vZ:∀{a:List D}{bs:List Bool}{i:Nat}{d:D},gF a=some bs->a[i]?=some d->∃b,bs[i]?=some b/\mw d=some b
 |[],_,_,_,_,h=>by simp at h
 |d::a,bs,i,j,h,e=>by
  simp only[gF]at h;split at h
  .rename_i b f k g
   cases h;cases i with
   |zero=>simp_all
   |succ i=>
    obtain⟨c,l,m⟩:=vZ g (by simpa using e)
    simp_all
  .exact bQ h
theorem all_range:∀(bs:List Bool),((Y' bs.length).all λi=>(bs[i]?).getD true)=bs.all id
 |[]=>rfl
 |b::bs=>by
  rw[ï,aax,ļ,acj,ļ,←all_range bs];rfl
theorem any_range:∀(bs:List Bool),((Y' bs.length).any λi=>(bs[i]?).getD false)=bs.any id
 |[]=>rfl
 |b::bs=>by
  rw[ï,aax,Ĥ,ack,Ĥ,←any_range bs];rfl
def SG(K:A'):List V->Hp->VK->Prop:=λb H Q=>∃Z a bs x,b=[x]/\Now Z H (.lst a) x/\gF a=some bs/\Q (.bl (bs.all id)) H
def SH(K:A'):List V->Hp->VK->Prop:=λb H Q=>∃Z a bs x,b=[x]/\Now Z H (.lst a) x/\gF a=some bs/\Q (.bl (bs.any id)) H
variable{N9:List Bool}
theorem AB(I:Inv c E d0 d s)(a:bg q d o O)(e:Vals O χ)(j:gF o=some N9)(dflt:Bool):
  ∀(i:Nat) (v:f'),χ.toArray[i]?=some v->fG s.heap v ((N9[i]?).getD dflt):=by
 intro i v k;obtain⟨l,m⟩:=ZS.mp (by simpa using k)
 obtain⟨x,n,f⟩:=qW e l;have u:=a.length;have w:=e.length;have g:o[i]?=some o[i]:=by simp
 obtain⟨y,h,p⟩:=a.get g;rw[n]at h;cases h
 obtain⟨b,r,t⟩:=vZ j g;rw[r];rw[m]at f;exact Ay I p.now f t
theorem AD(w:c.calm=true):fq c (.builtin "all") (SG c.K):=by
 intro pins s G H J L Q I r h;refine bp h λZ M bs x a y d=>xa d λk q=>?_;subst a
 obtain⟨u,rfl,B⟩:=vals1 r;obtain⟨l,N,rfl,C,m⟩:=c7 y;cases B;refine bF (I.list (mO C)) λf n p O=>?_
 refine acm PySem.F.kind_all PySem.F.plain_all PySem.F.entry_all (PySem.F.args_all1 _) ?_;refine p' (U' (p' (ϔ p.isList ?_)))
 refine U' ⟨ħ acg _,Az (acn (A:=c.A.in1) (I.ok.hd w) _ l (Q' (by obtain⟨_,e,_⟩:=p.isList;exact I' e)) _) _
  (λh=>∀b o,b≠s.heap.objs.size->s.heap.get? b=some o->h.get? b=some o) (λh D g j b o t e=>j b o (by simp_all) (g b o t e))
  (λi v h E g=>((AB I m n k true) i v E).keep λb o e z=>g b o (Q' (I' z)) z) _ 0 _ rfl (Ì _) ⟨⟨_,Ê _ rfl,rfl,rfl⟩,p.isList.push _⟩ (λb o t e=>ZQ _ e) λD P j=>?_⟩
 have e:((Y' f.toArray.size).drop 0).all (λi=>(bs[i]?).getD true)=bs.all id:=by
  rw[Ð,←n.length,m.length,←q7 k];exact all_range bs
 rw[e]
 exact⟨.bl _,H,I.kept λb o z=>j b o (by
  have:=Q' (I' z)
  simp_all) (ZQ _ z),rfl,q⟩
theorem AE(w:c.calm=true):fq c (.builtin "any") (SH c.K):=by
 intro pins s G H J L Q I r h;refine bp h λZ M bs x a y d=>xa d λk q=>?_;subst a
 obtain⟨u,rfl,B⟩:=vals1 r;obtain⟨l,N,rfl,C,m⟩:=c7 y;cases B;refine bF (I.list (mO C)) λf n p O=>?_
 refine acm PySem.F.kind_any PySem.F.plain_any PySem.F.entry_any (PySem.F.args_any1 _) ?_;refine p' (U' (p' (ϔ p.isList ?_)))
 refine U' ⟨ħ aci _,AA (acn (A:=c.A.in1) (I.ok.hd w) _ l (Q' (by obtain⟨_,e,_⟩:=p.isList;exact I' e)) _) _
  (λh=>∀b o,b≠s.heap.objs.size->s.heap.get? b=some o->h.get? b=some o) (λh D g j b o t e=>j b o (by simp_all) (g b o t e))
  (λi v h E g=>((AB I m n k false) i v E).keep λb o e z=>g b o (Q' (I' z)) z) _ 0 _ rfl (Ì _) ⟨⟨_,Ê _ rfl,rfl,rfl⟩,p.isList.push _⟩ (λb o t e=>ZQ _ e) λD P j=>?_⟩
 have e:((Y' f.toArray.size).drop 0).any (λi=>(bs[i]?).getD false)=bs.any id:=by
  rw[Ð,←n.length,m.length,←q7 k];exact any_range bs
 rw[e]
 exact⟨.bl _,H,I.kept λb o z=>j b o (by
  have:=Q' (I' z)
  simp_all) (ZQ _ z),rfl,q⟩
noncomputable def mM.nm:mM->Str
 |.len=>"len" |.all=>"all" |.any=>"any" |.sorted=>"sorted" |.list=>"list" |.tuple=>"tuple" |.int=>"int" |.min=>"min" |.max=>"max" |.bool=>"bool"
theorem jU(b:∀a,q a->d a≠none)(k:∀x c e,gh q d e c->fv C false e d c j x->η x c)(h:ku j=some x):η x d:=
 k _ d q (gh.refl b) (.rep (iO h))
noncomputable def Ty.nm:Ty->Str
 |.int=>"int" |.str=>"str" |.bool=>"bool" |.list=>"list" |.tuple=>"tuple" |.dict=>"dict"
noncomputable def Ty.id:Ty->String
 |.int=>"int" |.str=>"str" |.bool=>"bool" |.list=>"list" |.tuple=>"tuple" |.dict=>"dict"
theorem v_(K:A')(t:Ty):à K (.type "NoneType") (.type t.id)=some false/\à K (.type "bool") (.type t.id)=some (t==.bool||t==.int)/\à K (.type "int") (.type t.id)=some (t==.int) /\
  à K (.type "str") (.type t.id)=some (t==.str)/\à K (.type "list") (.type t.id)=some (t==.list)/\à K (.type "tuple") (.type t.id)=some (t==.tuple)/\à K (.type "dict") (.type t.id)=some (t==.dict):=by
 cases t<;>refine⟨?_,?_,?_,?_,?_,?_,?_⟩<;>with_unfolding_all rfl
def Mx(K:A'):List V->Hp->VK->Prop:=λa H Q=>∃Z d x t b,a=[x,.ty (Ty.id t)]/\Now Z H d x/\An d t=some b/\Q (.bl b) H
theorem lV{K:A'}(I:Inv c E d0 d s)(a:Rd d h (.tup O)):∃o,s.heap.get? h=some o/\o.cls=.type "tuple":=by
 obtain⟨_,b,_,o,e,f,_⟩:O.length<=K'/\∃b:List _,Vals O _/\Ĭ _ h _:=Rd.ok a I.hok
 simp_all
theorem AF:fq c (.builtin "isinstance") (Mx c.K):=by
 intro pins s B H M N Q I r h;obtain⟨Z,d,x,t,b,rfl,l,i,q⟩:=h;obtain⟨u,O,rfl,j,C⟩:=vals2 r;cases (C);refine dv (v_ c.K t) λD E F G n m=>xa m λJ L=>?_
 have f:∀p,EP c _ B Q _ _:=λp=>⟨.bl b,H,I.tok p,rfl,q⟩
 cases d with
 |non=>cases gY l;cases i;exact cX I j .non D f
 |bl e=>cases jT l;cases i;exact cX I j (.bl e) E f
 |int e=>cases dg l;cases i;exact cX I j (.int e) F f
 |str e=>cases dh l;cases i;exact cX I j (.str e) G f
 |lst w=>
  obtain⟨a,y,rfl,g,A⟩:=c7 l;cases i;rcases g with g|⟨o,g⟩
  .exact cX I j (.lst g) n f
  .exact cX I j (.cZ g) n f
 |tup w=>
  obtain⟨a,y,rfl,_,g,A⟩:=gZ l;cases i;cases j;exact á ϳ I.fg (lV (K:=c.K) I g) J (λz=>nomatch z) f
 |dct P w=>
  obtain⟨a,y,rfl,_,g,A⟩:=l;cases i;exact cX I j (.dK g) L f
 |ref k=>exact bQ i
abbrev wa(b:List pd)(a:ZR):Ø Bool:=forIn b true λc r=>if r=true then do let ok ←į c a (eval c a);pure (Ϙ ok)else pure (Ϙ r)
variable{G2 R:pd}{m4:ZR}{n:Pos}{π:T'}
theorem yn(J:Nat->j'->Prop)(turn:∀a s,J a s->nc (l' B G) X (ϥ N) (λr c=>match r with
   |none=>n5 (.ok .next) c
   |some v=>nc (l' B G) X (Ϧ R N v) (λ_ e=>nc (l' B G) X (Ŭ R m4 v) (λ_ f=>nc (l' B G) X (wa L m4) (λok d=>
      if ok=true then nc (l' B G) X (eval m m4) (λx g=>nc (l' B G) X (call (.builtin "list.append") [N2,x]) (λ_ i=>∃b,b<a/\J b i) (λ_ _=>False) g) (λ_ _=>False) d
      else ∃b,b<a/\J b d) (λ_ _=>False) f) (λ_ _=>False) e) (λ_ _=>False) c) (λ_ _=>False) s)(a:Nat)(h:J a s):Ñ (l' B G) X (.compLoop (.ListComp m [⟨R,G2,L,0⟩] π n) 0 N N2 m4) n5 s:=by
 refine codeAny_loop rfl J (λa s k=>?_) a h
 refine wpAny_noted ?_;rw[compTurn_list];refine p' (ϒ (p' (Í (turn a s k) (λr c j=>?_) (by grind))))
 cases r with
 |none=>exact U' j
 |some v=>
  refine p' (Í j (λ_ e l=>p' (Í l (λ_ f o=>p' (Í o (λok d p=>?_) (by grind))) (by grind))) (by grind))
  cases ok with
  |false=>exact U' ⟨rfl,by simp_all⟩
  |true=>
   refine p' (p' (Í p (λx g q=>p' (Í q (λ_ i t=>U' (U' ⟨rfl,t⟩)) (by grind))) (by grind)))
theorem uX(h:∀y∈π.names,y.2=.free->∃c,m4.cells.lookup y.1=some c):
  ∃d,closureFor π m4=pure d/\(∀n c,(n,c)∈d->m4.cells.lookup n=some c)/\∀y∈π.names,y.2=.free->∃c,(y.1,c)∈d:=by
 have g:∀(l:List _) (b:List _),(∀y∈l,y.2=.free->∃c,m4.cells.lookup y.1=some c)->(∀n c,(n,c)∈b->m4.cells.lookup n=some c) ->
   ∃d,(forIn l b λx r=>match x with | (name,kind)=>if (kind==Ţ)=true then do let a ←cellOf m4 name;pure (Ϙ ((name,a)::r))else pure (Ϙ r))=pure d /\
    (∀n c,(n,c)∈d->m4.cells.lookup n=some c)/\(∀p∈b,p∈d)/\∀y∈l,y.2=.free->∃c,(y.1,c)∈d:=by
  intro l
  induction l with
  |nil=>intro b _ i;exact⟨_,rfl,i,by simp,by simp⟩
  |cons y l o=>
   intro b j i;obtain⟨n,k⟩:=y;cases w:(k==Ţ)with
   |false=>
    refine eE (o _ (λz f=>j z (by simp[f])) i) λd e m s q=>?_
    grind
   |true=>
    obtain⟨c,t⟩:=j (n,k) (by simp) (by simp_all)
    refine eE (o ((n,c)::b) (λz f=>j z (by simp[f])) (λA B C=>by
     grind)) λd e m s q=>?_
    refine⟨d,?_,m,by simp_all,λz f u=>?_⟩
    .have:cellOf m4 n=pure c:=by
      unfold cellOf;rw[t]
     simp_all
    grind
 refine eE (g _ [] h (λ_ _ z=>absurd z (by simp))) λd e m _ q=>?_
 unfold closureFor
 grind
noncomputable def blk(X:Cx)(scope:T')(a:List (Str×b'))(C:b')(N:List Str)(s₀:j')(H₀:Hp)(fp:List b'):Cx:=
 {X with N:=N,s₀:=s₀,H₀:=H₀,env:=compEnvC scope a C X.env,outer:=X.stack,stack:=X.stack,ex:=fp,fn:=λ_=>false,pn:=[],xe:=λ_ _=>False}
theorem lookup_mem{α β:Type}[BEq α][LawfulBEq α]:∀{l:List (α×β)}{x:α}{v:β},l.lookup x=some v->(x,v)∈l
 |[],_,_,h=>by simp at h
 | (n,k)::r,x,v,h=>by
  rw[Ă]at h;cases e:x==n with
  |true=>simp_all
  |false=>rw[e]at h;exact Ū _ (lookup_mem h)
theorem mem_lookup{α β:Type}[BEq α][LawfulBEq α]:∀{l:List (α×β)}{x:α}{v:β},(x,v)∈l->∃u,l.lookup x=some u
 |[],_,_,h=>by simp at h
 | (n,k)::r,x,v,h=>by
  rw[Ă];cases e:x==n with
  |true=>simp
  |false=>
   rcases Æ.mp h with q|q
   .simp_all
   .exact mem_lookup q
theorem fH{a:ZR}:∀(names:List (Str×Ŕ)) (x:Str),(names.map λ(n,k)=>if (k==Ţ&&a.scope.kind==.function&&a.kindOf n==some .cell)then (n,aaB)else (n,k)).lookup x =
  (names.lookup x).map λk=>if (k==Ţ&&a.scope.kind==.function&&a.kindOf x==some .cell)then aaB else k
 |[],_=>rfl
 | (n,k)::r,x=>by
  have e:∀c:Bool,(if c then (n,aaB)else (n,k))=(n,if c then .cell else k):=λc=>by cases c<;>rfl
  rw[ù];dsimp only;rw[e,Ă,Ă];cases h:x==n with
  |true=>rw[eq_of_beq h];rfl
  |false=>exact fH r x
structure jJ(X:Cx)(scope:T')(tn cn:List Str)(cap:List Nat):Prop where
 kind:scope.kind=.function
 cell:∀y∈scope.names,y.2≠.cell
 names:∀y∈scope.names,y.2=.local->scope.names.lookup y.1=some .local
 free:∀y∈scope.names,y.2=.free->X.env.kindOf y.1=some .cell\/X.env.kindOf y.1=some .free
 len:cn.length=cap.length
 at':∀(j i:Nat) (x:Str),cn[j]?=some x->cap[j]?=some i->X.N[i]?=some x/\scope.names.lookup x=some .free
noncomputable def ti(cap:List Nat)(a:L2.St):L2.St:=cap.map λi=>(a[i]?).join
def ix(a:Nat)(cap:List Nat)(b:L2.St):L2.St:=ć a none++ti cap b
variable{P:List Nat}{Y:Str->Option f'}{l ω:List Str}
theorem yo{s:j'}{G:List (Str×b')}(B:jJ c π l ω P)(I:Inv c E d0 d s)(L:∀f∈v,oQ c E d f)(O:∀f∈v,∃o,s.heap.get? f=some o)(c1:∀n a,(n,a)∈G->c.env.cells.lookup n=some a)(c2:∀y∈π.names,y.2=.free->∃a,(y.1,a)∈G)(M:∀f o,s.heap.get? f=some o->B4.get? f=some o)(w:∃n,B4.get? s.heap.objs.size=some {cls:=.type "list",data:=.seq ([]:List f').toArray n})(ns:B4.Ns (s.heap.objs.size+1) Y):
  Inv (blk c π G (s.heap.objs.size+1) (l++ω) s d v) [] (ix l.length P d0) (upd d s.heap.objs.size (.lst [])) {s with heap:=B4,toks:=b}:=by
 have Q:∀f o,s.heap.get? f=some o->f≠s.heap.objs.size:=λf o e=>Q' (I' e)
 have cell:∀x a,G.lookup x=some a->∃g,s.heap.IsCell a g:=λx a e=>I.cell x a (c1 x a (lookup_mem e))
 have R:∀x a,G.lookup x=some a->a≠s.heap.objs.size+1/\a≠s.heap.objs.size:=λx a e=>by
  obtain⟨g,o,D,_⟩:=cell x a e;exact⟨(λf o e=>Q' (ϕ (I' e))) a o D,Q a o D⟩
 have S:∀f∈v,f<s.heap.objs.size:=λf r=>xe (O f r) λo e=>I' e
 have fr:=I.hok.fresh (M' s.heap.objs.size);obtain⟨nd,w⟩:=w
 refine⟨⟨I.ok.mod,B.kind,I.ok.glob,I.ok.blt,ä _,λx y a F j=>?_,λx m=>?_,λx a e _=>absurd (show false=true from e) aaC,I.ok.hd,I.ok.frames,.inl rfl,λf r=>⟨?_,λx a e z=>?_⟩,λf o e=>I.bs f o e,B' I.ok.vF I.sz,λf o e r=>?_,λf r T=>?_,I.stack,I.kh⟩,
  rfl,I.bare,?_,⟨Y,ns,λi x g F j e3=>?_⟩,λx a e=>?_,?_,λx a e=>?_,λp hp=>absurd (show p∈([]:List (b'×Obj))from hp) (by simp),?_,?_⟩
 .exact I.ok.inj x y a (c1 x a (lookup_mem F)) (c1 y a (lookup_mem j))
 .have m:(ċ π c.env).names.lookup x=some .cell\/(ċ π c.env).names.lookup x=some .free:=m
  unfold ċ at m;simp only[fH]at m;cases q:π.names.lookup x with
  |none=>rw[q]at m;simp at m
  |some k=>
   rw[q]at m;have hm:=lookup_mem q
   have A:k=.free:=by
    by_cases A:k=.free
    .exact A
    .have U:(k==Ţ)=false:=by simpa using A
     rw[ţ]at m;simp only[U,Bool.false_and,aav,if_false,aei]at m;rcases m with z|z
     .exact absurd z (B.cell _ hm)
     .exact z
   obtain⟨a,V⟩:=c2 _ hm A;exact mem_lookup V
 .exact Q' (ϕ (S f r))
 .exact(L f r).2.2.2.2.1 x a (c1 x a (lookup_mem e)) z
 .rcases(L f r).2.2.2.1 with z|z
  .exact I.ok.su f o e z
  .exact absurd (R' (I' (I.ok.bs f o e).1) z) (Ã _)
 .rcases Æ.mp (I.qm f T)with z|z
  .exact(L f r).2.1 z
  .exact(L f r).2.2.1 z
 .exact Un.laid M (M' _) fr
 .have H:i<l.length->False:=λJ=>by
   have:(ix l.length P d0)[i]?=some none:=by
    unfold ix;rw[Û (by simpa using J),ϵ,if_pos J]
   rw[this]at j;cases j
  have J:l.length<=i:=Ľ H;have F:(l++ω)[i]?=some x:=F;rw[Ĉ J]at F
  have h:(ti P d0)[i - l.length]?=some (some g):=by
   unfold ix at j;rw[Ĉ (by simpa using J)]at j
   simpa using j
  unfold ti at h;rw[å]at h;cases q:P[i - l.length]? with
  |none=>rw[q]at h;cases h
  |some N=>
   rw[q]at h;have j:(d0[N]?).join=some g:=by simpa using h
   have e4:d0[N]?=some (some g):=by
    cases q2:d0[N]? with
    |none=>rw[q2]at j;exact bQ j
    |some z=>simp_all
   obtain⟨hN,C⟩:=B.at' _ _ _ F q;have A:=B.free _ (lookup_mem C) rfl
   have K:zj c.env.scope x:=by
    rcases A with z|z
    .exact .inr (.inl z)
    .exact .inr (.inr z)
   refine bV I.loc λm0 c0 X=>?_
   obtain⟨u,ru,Z⟩:=X N x g hN e4 K;refine⟨u,ru,.inr ⟨?_,?_⟩⟩
   .show(ċ π c.env).names.lookup x=some .cell\/(ċ π c.env).names.lookup x=some .free
    unfold ċ;simp only[fH,C,ţ];split
    .exact .inl rfl
    .exact .inr rfl
   .have Z:∃a,c.env.cells.lookup x=some a/\s.heap.IsCell a (some u):=by
     rcases Z with ⟨z,_⟩|⟨_,z⟩
     .rcases A with y|y<;>rw[y]at z<;>cases z
     .exact z
    refine bV Z λa V a0=>?_
    obtain⟨c',b0⟩:=c2 _ (lookup_mem C) rfl;obtain⟨e0,t⟩:=mem_lookup b0;have:=c1 _ _ (lookup_mem t);rw[V]at this;cases this
    obtain⟨o,D,w⟩:=a0;exact⟨a,t,o,M _ _ D,w⟩
 .obtain⟨g,o,D,w⟩:=cell x a e
  exact⟨g,o,M _ _ D,w⟩
 .show upd d s.heap.objs.size (.lst []) (s.heap.objs.size+1)=none
  rw[ax (Nat.succ_ne_self _)];exact I.hok.fresh (ä _)
 .refine⟨?_,λhz=>absurd (show false=true from hz) aaC⟩
  rw[ax (R x a e).2];exact(I.dX x a (c1 x a (lookup_mem e))).1
 .refine I.hok.laid M (M' _) ⟨Ì _,[],nd,.nil,w⟩
 .show(ix l.length P d0).length=(l++ω).length
  unfold ix ti;rw[ľ,ľ,List.length_replicate,ZZ,B.len]
def G_(X:Cx)(a:List pd)(t:TT):Prop:=∀(pins:List (b'×Obj)) (s:j') (b:L2.St) (H:Hp) (Q:Bool->Hp->Prop),Inv X pins b H s->t b H Q->nc (l' X.prog X.w) X.A (wa a X.env) (TP X pins b Q) X.xe s
theorem Ek:G_ c [] (λ_ H Q=>Q true H):=λpins s a H Q I h=>U' ⟨H,I,h⟩
theorem El(h:PT c m W3):G_ c [m] W3:=λpins s a H Q I q=>wpAny_tests_one (h _ s a H Q I q)
def pI(n:TI)(o:Nat)(cap:List Nat)(g:TG)(p:TT)(q:TE):TE:=λf H Q=>n f H λJ h=>∀D,h D=none->∃W:Nat->Nat->List V->Hp->Prop,(∃m,W 0 m [] (upd h D (.lst []))) /\
 ∀i m a c,W i m a c->c D=some (.lst a)/\((J.stop i c/\Q (.ref D) c)\/(J.go i c/\a.length<K'/\∀x j,J.PB i c x j->g x (ix o cap f) j λd r=>p d r λb k=>
  if b=true then q d k λy l=>l D=some (.lst a)/\∃e,e<m/\W (i+1) e (a++[y]) (upd l D (.lst (a++[y])))else ∃e,e<m/\W (i+1) e a k))
variable{J:Pos}{S6:TI}{m5:TG}
theorem pJ{use:Option (f'->Ø Unit)}(hc:c.calm=true)(B:jJ c π l ω P)(hi:PI c m R S6)(hs:∀x,ý R c.env x=pure x)(l0:∀v d0 d η,m5 v d0 d η->m5 v d0 d λQ k=>η Q k/\Q.length=d0.length/\∀j,l.length<=j->Q[j]?=d0[j]?)(g:∀t C F G fp,PG (blk c π t C (l++ω) F G fp) m m5/\G_ (blk c π t C (l++ω) F G fp) L W3/\PE (blk c π t C (l++ω) F G fp) G2 υ)(n0:∀(s':j') (k:Hp) (C D:b') (S:Str->Option f'),Inv c E d0 k s'->s'.heap.Ns C S->k C=none->C≠c.env.locals->c.s₀.heap.objs.size<=C->(∀x a,c.env.cells.lookup x=some a->a≠C)->(∀p∈c.pn++E,p.1≠C)->η (.ref D) k ->
   compPost (l' c.prog c.w) c.A c.xe use ζ (.ref D) C (.ok .next) s')(I:Inv c E d0 d s)(h:pI S6 l.length P m5 W3 υ d0 d η):
  nc (l' c.prog c.w) c.A (comprehension (.ListComp G2 [⟨m,R,L,0⟩] π n) π c.env J (newList []) false (eval R c.env) use) ζ c.xe s:=by
 have o0:∀y∈π.names,y.2=.free->∃a,c.env.cells.lookup y.1=some a:=λy hy hk=>I.ok.has y.1 (B.free y hy hk)
 refine bF (uX o0) λt p0 c1 c2=>?_
 refine wpAny_comprehension_free (use:=use) rfl hs p0 B.kind B.names ?_;refine cj (hi E s d0 d _ I h) λv s1 U=>cj U λC0 s2 h2=>?_
 refine xe h2 λit V=>bz V λfp X r0 H e Y T b0 f2 h=>?_
 subst e;have fr:=Y.hok.fresh (M' s2.heap.objs.size);refine bV (h s2.heap.objs.size fr) λW s0 turn=>?_;obtain⟨m0,w0⟩:=s0
 refine abY (wpAny_newFunctionEnv B.cell (λy hy=>absurd hy (by simp)) (λU ns sb=>?_) B.kind)
 dsimp only at ns sb ⊢;rw[(abp _ _)]at ns sb ⊢;have kp:∀b o,s2.heap.get? b=some o->U.get? b=some o:=λb o e=>sb.extBut b o (Q' (ϕ (I' e))) (ZQ _ (ZQ _ e))
 have hD:∃f,U.get? s2.heap.objs.size=some {cls:=.type "list",data:=.seq ([]:List f').toArray f}:=⟨0,sb.extBut _ _ (Q' (Ť _)) (ZQ _ (Ê _ rfl))⟩;have c0:∀b∈fp,∃o,s2.heap.get? b=some o:=λb g=>bV (T.obj 0 _ b0 b g) λo e _=>⟨o,e⟩
 have I4:Inv (blk c π t (s2.heap.objs.size+1) (l++ω) s2 H fp) [] (ix l.length P d0) (upd H s2.heap.objs.size (.lst [])) {s2 with heap:=U,toks:=s2.toks+([]:List (Str×f')).length}:=
  yo B Y f2 c0 c1 c2 kp hD ns
 refine ur (g t (s2.heap.objs.size+1) s2 H fp) λhg ht he=>?_
 have e0:X 0 U:=T.keep 0 _ _ b0 λb g o e=>kp b o e
 have t0:∀b∈fp,upd H s2.heap.objs.size (.lst []) b=none:=λb g=>by
  obtain⟨o,e⟩:=c0 b g;rw[ax (Q' (I' e))];exact(f2 b g).1
 have K:∀{k:Hp}{pl:List (b'×Obj)},(∀b∈fp,k b=none)->∀b∈fp,oQ (blk c π t (s2.heap.objs.size+1) (l++ω) s2 H fp) [] k b:=λhn b g=>
  ⟨hn b g,(I4.ok.HL b g).1,I4.ok.sv b g,.inl g,(I4.ok.HL b g).2,λp hp=>absurd (show p∈([]:List (b'×Obj))from hp) (by simp)⟩
 have O:Ñ (l' c.prog c.w) c.A (.compLoop (.ListComp G2 [⟨m,R,L,0⟩] π n) 0 (.ref it) (.ref s2.heap.objs.size) (compEnvC π t (s2.heap.objs.size+1) c.env))
   (compPost (l' c.prog c.w) c.A c.xe use ζ (.ref s2.heap.objs.size) (s2.heap.objs.size+1)) {s2 with heap:=U,toks:=s2.toks+([]:List (Str×f')).length}:=by
  refine yn (λf s'=>∃i Z k,Inv (blk c π t (s2.heap.objs.size+1) (l++ω) s2 H fp) [] (ix l.length P d0) k s'/\X i s'.heap/\(∀b∈fp,k b=none)/\W i f Z k) ?_ m0 ⟨0,[],_,I4,e0,t0,w0⟩
  rintro f s5 ⟨i,Z,H5,I5,g0,h0,w5⟩;obtain⟨D0,u0⟩:=turn i f Z H5 w5;rcases u0 with ⟨stop,qn⟩|⟨go,i0,step⟩
  .refine cj (T.done (blk c π t (s2.heap.objs.size+1) (l++ω) s2 H fp) rfl rfl rfl hc i [] s5 _ H5 _ I5 (K (pl:=[]) h0) g0 stop) λr s6 M=>?_;obtain⟨hr,I6⟩:=M
   subst hr;refine bV I6.loc λmC nC _=>?_
   have I7:Inv c E d0 H5 s6:=by
    refine Y.call' I6.os I6.base I6.hok I6.bare λb g=>?_
    refine dv (f2 b g) λf0 f1 f3 f4 f5 f6=>?_
    exact⟨f4,f1,f5,f6⟩
   have hC:s2.heap.objs.size<=s2.heap.objs.size+1:=ä _;refine n0 s6 H5 (s2.heap.objs.size+1) s2.heap.objs.size mC I7 nC I6.free (É (R' Y.lt hC)) (B' Y.sz hC) (λx a e z=>?_) (λp hp z=>?_) qn
   .obtain⟨v,q⟩:=Y.cell x a e
    exact absurd (R' q.lt (by rw[z];exact hC)) (Ã _)
   .exact absurd (R' (I' (Y.pin p hp).1) (by rw[z];exact hC)) (Ã _)
  .refine cj (T.item (blk c π t (s2.heap.objs.size+1) (l++ω) s2 H fp) rfl rfl rfl hc i [] s5 _ H5 _ I5 (K (pl:=[]) h0) g0 go) λr s6 M=>?_;refine bV M λu hr h6=>?_
   subst hr;refine cj h6 λ_ s7  zf =>gi zf λx H7 I7 r7 y7 a0 v0=>?_
   have x0:=I7.pinned (K (pl:=[]) v0) (T.obj _ _ a0);refine cj (hg _ s7 _ H7 x u _ x0 r7 (l0 _ _ _ _ (step x H7 y7))) λ_ s8 M=>?_;refine bS M λN H8 I8 q8 l8 k8=>?_
   refine cj (ht _ s8 N H8 _ I8 q8) λok s9 M=>?_;refine bV M λH9 I9 q9=>?_
   have İ:∀{sA:j'}{HA:Hp},Inv (blk c π t (s2.heap.objs.size+1) (l++ω) s2 H fp) ([]++qr fp s7.heap) N HA sA->Inv (blk c π t (s2.heap.objs.size+1) (l++ω) s2 H fp) [] (ix l.length P d0) HA sA/\X (i+1) sA.heap/\∀b∈fp,HA b=none:=λ{sA HA} IA=>by
    refine⟨(IA.kk (E:=[])).weak l8.symm λj v hj=>?_,T.keep _ _ _ a0 λb g o e=>(IA.pin (b,o) (Ą _ (Ą _ (gT g e)))).1,λb g=>?_⟩
    .have y0:l.length<=j:=by
      refine Ľ λj0=>?_
      have:(ix l.length P d0)[j]?=some none:=by
       unfold ix;rw[Û (by simpa using j0),ϵ,if_pos j0]
      rw[this]at hj;cases hj
     rw[k8 j y0];exact hj
    .refine bV (T.obj _ _ a0 b g) λo e _=>?_
     exact(IA.pin (b,o) (Ą _ (Ą _ (gT g e)))).2.1
   cases ok with
   |false=>
    rw[if_neg (by decide)]at q9 ⊢
    exact bV q9 λm' hm w'=>ur (İ I9) λa1 a2 a3=>⟨m',hm,i+1,Z,_,a1,a2,a3,w'⟩
   |true=>
    rw[if_pos rfl]at q9 ⊢;refine cj (he _ s9 N H9 _ I9 q9) λy sB M=>?_;refine bS M λv HB IB rB z0 V=>bV V λm' hm w'=>?_
    have hx:=pz (c:=blk c π t (s2.heap.objs.size+1) (l++ω) s2 H fp) _ sB N HB (.ref s2.heap.objs.size) [v] (.ref s2.heap.objs.size) [y] (λ_ k=>k=upd HB s2.heap.objs.size (.lst (Z++[v]))) IB rfl (.cons rB .nil)
     ⟨s2.heap.objs.size,Z,v,rfl,rfl,z0,i0,rfl⟩
    refine cj hx λ_ sC M=>?_;refine aW M λ_ HC IC _ eC=>?_
    subst eC;refine ur (İ IC) λa1 a2 a3=>?_
    exact⟨m',hm,i+1,Z++[v],_,a1,a2,a3,w'⟩
 exact codeAny_compStart_list O (T.self c.A 0 _ _ _ e0 O)
theorem wb(t:c.calm=true)(B:jJ c π l ω P)(u:PI c m R S6)(w:∀x,ý R c.env x=pure x)(k:∀v i H Q,m5 v i H Q->m5 v i H λf p=>Q f p/\f.length=i.length/\∀j,l.length<=j->f[j]?=i[j]?)(y:∀r C a d fp,PG (blk c π r C (l++ω) a d fp) m m5/\G_ (blk c π r C (l++ω) a d fp) L W3/\PE (blk c π r C (l++ω) a d fp) G2 υ):
  PE c (.ListComp G2 [⟨m,R,L,0⟩] π n) (pI S6 l.length P m5 W3 υ):=by
 intro pins s i H Q I h;refine pJ t B u w k y (λO p C D g z A E F G J K q=>⟨g,A,λS M=>⟨.ref D,p,z.turned (λb o N e=>M.extBut b o N e) E F (.inr G) J K,rfl,q⟩⟩) I h
variable{P0:Pos}
theorem uY(F:c.N.Nodup)(t:c.N[b]?=some e)(E:c.env.scope.names.lookup e=some .local)(u:Ù (.ListComp G2 [⟨m,R,L,0⟩] π n) (some (.Name e J)) P0.line c.env=pure true)(G:c.calm=true)(B:jJ c π l ω P)(K:PI c m R S6)(M:∀e,ý R c.env e=pure e)(w:∀v r H Q,m5 v r H Q->m5 v r H λg y=>Q g y/\g.length=r.length/\∀j,l.length<=j->g[j]?=r[j]?)(O:∀z C d f fp,PG (blk c π z C (l++ω) d f fp) m m5/\G_ (blk c π z C (l++ω) d f fp) L W3/\PE (blk c π z C (l++ω) d f fp) G2 υ):
  PS c (.Assign [.Name e J] (.ListComp G2 [⟨m,R,L,0⟩] π n) P0) (HN (pI S6 l.length P m5 W3 υ) (ki b)):=by
 intro pins s r H D I h;rw[exec_Assign_Name_used _ _ _ _ u];refine p' (ϒ (p' ?_));refine p' ?_;refine pJ G B K M w O (λs' y C S i T U V X Y Z h5 q=>?_) I h
 refine aa8 (pj T F t (.inl E) (x:=.ref S) rfl (λs2 I2 ch=>?_) (.inr E))
 obtain⟨a,sb,ha⟩:=ch
 refine⟨i,U.sameBut sb (by
  grind),λh' A=>U' (U' ⟨_,y,I2.turned (λk o nb p=>A.extBut k o nb p) V X (.inr Y) Z h5,q⟩)⟩
theorem PI.imp{t':TI}(h:PI c m R S6)(i:∀b H a,t' b H a->S6 b H a):PI c m R t':=λpins s b H a I q=>h _ s b H a I (i b H a q)
theorem ky:∀(n:Nat) (a:Int),(intsFrom a n).length=n
 |0,_=>rfl
 |n+1,a=>by rw[intsFrom,ï,ky n]
theorem ints_get:∀(n:Nat) (a:Int) (i:Nat) (d:D),(intsFrom a n)[i]?=some d->d=.int (a+i)
 |0,_,_,_,h=>by simp[intsFrom]at h
 |n+1,a,0,d,h=>by simp[intsFrom]at h;subst h;simp
 |n+1,a,i+1,d,h=>by
  rw[ints_get n _ i d h]
  grind
noncomputable def Xa(x:Str):It:=⟨λi _=>i<x.cps.size,λi H v a=>a=H/\∃c,x.cps[i]?=some c/\v=.str ⟨#[c]⟩,λi _=>x.cps.size<=i⟩
theorem AG(a:b')(x:Str)(t:È)(p:String)(g:p="str_ascii_iterator"\/p="str_iterator"):Turn B G A m (Xa x) [a] a (λi h=>h.IsStrIter a p x t i) where
 mem:=by simp
 obj:=λi h f b j=>by
  refine bF f λo e c d=>?_
  simp_all
 keep:=λi h K f k=>bV (f) λo e r=>⟨o,k a (by simp) o e,r⟩
 item:=by
  intro X P R S l i pins s U H E I y f L;subst P R S;refine dv (y a (by simp)) λz C V D F J=>?_
  have W:Walks X.prog X.w X.A a [a] [a] x.cps.size (SignAt x) (λi h=>h.IsStrIter a p x t i):=by
   rcases g with rfl|rfl
   .exact Walks.strAscii (I.ok.hd l) a x t
   .exact Walks.strWide (I.ok.hd l) a x t
  refine W.item i s _ _ L f λv K tk Y n Z=>?_
  refine cF Y λc u hx M=>?_;subst M
  refine bF (id n) λo e q d=>?_
  refine⟨_,rfl,sE e q d (by rcases g with rfl|rfl<;>decide) ⟨.str ⟨_⟩,H,(I.turned (λb o j e=>Z b o (by simp_all) e) z C D F J),⟨u,rfl⟩,⟨rfl,c,hx,rfl⟩,n,λb j=>(y b j).1⟩⟩
 done:=by
  intro X P R S l i pins s U H E I y f L;refine dv (y a (by simp)) λz C V D F J=>?_
  have T:x.cps.size<=i:=L;rcases g with rfl|rfl
  .exact wpAny_pyNext_ascii_end (I.ok.hd l) f (by simp[T]) λK N=>⟨rfl,I.turned (λb o j e=>N b o j e) z C D F J⟩
  .exact wpAny_pyNext_wide_end (I.ok.hd l) f (by simp[T]) λK N=>⟨rfl,I.turned (λb o j e=>N b o j e) z C D F J⟩
 self:=λO i s Q E f h=>by
  rcases g with rfl|rfl
  .exact wpAny_pyIter_striter_ascii f h
  .exact wpAny_pyIter_striter_wide f h
theorem lW(n:Nat)(d:0<n):∀v b H Q,ki 0 v b H Q->ki 0 v b H λa c=>Q a c/\a.length=b.length/\∀j,n<=j->a[j]?=b[j]?:=λv b H Q h=>⟨h,by simp,by grind⟩
variable{m6 x8:TS}{ν:D'}
theorem PS.imp(h:PS c ν m6)(i:∀D a H,x8 D a H->m6 D a H):PS c ν x8:=λpins s a H D I q=>h _ s a H D I (i D a H q)
variable{W1:List D'}
theorem jD.imp(h:jD c W1 m6)(i:∀D a H,x8 D a H->m6 D a H):jD c W1 x8:=λpins s a H D I q=>h _ s a H D I (i D a H q)
def g_:List Nat->GN
 |[]=>LO
 |i::a=>GO (ki i) (g_ a)
theorem pK{X:Cx}{nms:List (Str×Pos)}(b:X.N.Nodup):∀(a:List Nat) (nms:List (Str×Pos)),a.length=nms.length->(∀(j i:Nat) (x:Str×Pos),a[j]?=some i->nms[j]?=some x->X.N[i]?=some x.1/\Loc X.env.scope x.1/\(X.fn x.1=true\/X.env.scope.names.lookup x.1=some .local)) ->
  LN X (nms.map λx=>Ĩ x.1 x.2) (g_ a)
 |[],[],_,_=>vJ
 |[],_::_,h,_=>by cases h
 |_::_,[],h,_=>by cases h
 |i::a,(x,f)::nms,g,h=>by
  refine ur (h 0 i _ rfl rfl) λc d e=>nt (kj b c d e) (pK (nms:=nms) b a _ (by simp_all) λj i x k l=>h (j+1) i x (by simp_all) (by simp_all))
def wc:V->List V->Hp->VK->Prop:=λx b H Q=>∃l a k y,x=.ref l/\b=[.int k,y]/\H l=some (.lst a) /\ -(2 ^ 63)<=k/\k<2 ^ 63/\a.length<K'/\Q .non (upd H l (.lst (jS a k y)))
theorem lX{s:j'}(I:Inv c E d0 d s)(o:∀a∈v,oQ c E d a)(k:∀a B1,a∉v->s.heap.get? a=some B1->z.get? a=some B1)(t:s.heap.objs.size<=h)(x:cV c.prog c.w (upd d h B1) z h B1):Inv c E d0 (upd d h B1) {s with heap:=z,toks:=b}:=by
 have y:∀a u,d a=some u->a∉v:=λa u e f=>by rw[(o a f).1]at e;exact bQ e
 have p:∀a u,d a=some u->upd d h B1 a=some u:=λa u e=>by rwa[ax (aZ e (I.hok.fresh t))]
 refine I.step (λa l=>?_) (λa B1 _ _ j e _=>k a B1 j e) (λa B1 _ _ j e _=>⟨_,k a B1 j e⟩) (λa u _ e n=>?_)
  (λa B1 j e=>⟨B1,k a B1 j e⟩) (λa K e=>p a _ e) (λa u i e=>p a _ e) (λa L e=>⟨#[],by simp_all⟩) (λm A=>?_) (λa u e=>?_) I.bare
 .refine dv (o a l) λM B N C D F=>⟨C,B,D,F⟩
 .have:a≠h:=λf=>absurd (I' e) (by simp_all)
  rwa[ax this]
 .refine fo A λB1 G H J r=>⟨B1,G,H,k _ B1 (λf=>(o _ f).2.1 rfl) J,r⟩
 .by_cases l:a=h
  .subst l
   rw[aR]at e;simp_all
  .rw[ax l]at e
   refine(I.hok a u e).stay (λg i j q=>k g i ?_ q) (λg q=>p g _ q) (by simp_all)
   grind
def Xb(K:A')(a:b'):It:=
 ⟨λi H=>∃b x,mI K H a b/\b[i]?=some x,λi H x c=>∃p,x=.ref p/\H p=none/\∀b,mI K H a b->∃v,b[i]?=some v/\c=upd H p (.tup [.int i,v]),λi H=>∃b,mI K H a b/\b.length<=i⟩
theorem yp(a e r:b')(y:e≠r):
  Turn B G A (.Tuple L b n) (Xb A a) [e,r] e (λi h=>(∃j,IsEnum h e r i j)/\h.IsListIter r a i) where
 mem:=by simp
 obj:=λi h m f t=>by
  obtain⟨⟨j,g⟩,o,e2,c,d⟩:=m
  grind
 keep:=λi h U m k=>by
  obtain⟨⟨j,g⟩,l⟩:=m;exact⟨⟨j,k e (by simp) _ g⟩,l.at λo q=>k r (by simp) o q⟩
 item:=by
  intro X J K M V i pins s σ H E I D m N;subst J K M;refine cF N λxs x F O=>?_
  obtain⟨⟨j,g⟩,l⟩:=m;refine bF (I.list F) λP Q p hz=>?_
  refine bV (Q.get O) λu hu ru=>?_
  refine wpAny_pyNext_enum_item g l p.isList (by simpa using hu) y λU so si tu sz kp=>?_
  refine⟨_,rfl,wpAny_letOwnedTupleGo_enum so λY se R=>?_⟩
  have C:=I' g;refine⟨.ref _,_,?_,rfl,⟨_,rfl,I.hok.fresh (M' _),λys hy=>⟨x,by rwa[I.sD hy F],rfl⟩⟩,⟨⟨u,by grind⟩,?_⟩,λf t=>?_⟩
  .have S:Ĭ Y _ _:=⟨_,(R.extBut _ _ (É C) tu),rfl,_,rfl⟩
   have T:cV X.prog X.w (upd H s.heap.objs.size (.tup [.int i,x])) Y _ (.tup [.int i,x]):=⟨by rw[þ];simp,_,.cons ⟨_,rfl⟩ (.cons ru .nil),S⟩
   have:=lX (b:=s.toks+1) I D (λf o t q=>by
   have Z:f≠e:=λz=>t (by simp[z])
   have h3:f≠r:=λz=>t (by simp[z])
   exact R.extBut f o Z (kp f o Z h3 q)) (M' _) T
   exact this
  .exact si.extBut R.extBut (ZT y)
  .rw[ax (Q' (by
    rcases Æ.mp t with z|z
    .subst z;exact C
    .have z:f=r:=by simpa using z
     subst z;obtain⟨o,q,_⟩:=l;exact I' q))]
   exact(D f t).1
 done:=by
  intro X J K M V i pins s σ H E I D m N;subst J K M;obtain⟨xs,F,O⟩:=N;obtain⟨⟨j,g⟩,l⟩:=m;refine bF (I.list F) λP Q p hz=>?_
  refine dv (D r (by simp)) λf0 f1 f2 f3 f4 f5=>?_
  have hl:=Q.length;exact wpAny_pyNext_enum_end (I.ok.hd V) g l p.isList (by simp;exact B' (V' hl.symm) O) λU eb=>⟨rfl,I.turned (λf o t e=>eb f o t e) f0 f1 f3 f4 f5⟩
 self:=λ_ _ _ _ _ m h=>by
  obtain⟨⟨j,g⟩,_⟩:=m;exact aco g h
def SI(K:A')(c:TA):TI:=λd H R=>c d H λe b=>∃a,e=[.ref a]/\(∃f,mI K b a f)/\R (Xb K a) b
theorem Em(g:Gl c "enumerate")(i:c.mg "enumerate"=none)(j:PA c [m] Q2)(k:x' [m] c.env=[(false,eval m c.env)]):
  PI c (.Tuple L b n) (.Call (.Name "enumerate" J) [m] [] P0) (SI c.K Q2):=by
 intro pins s o H R I h;refine Call_ (jQ I g i boot_enumerate (ϧ (cj (j _ _ s o H _ I h) λE p t=>?_) k rfl));refine aW t λF u e w x=>?_
 obtain⟨l,rfl,⟨G,y⟩,q⟩:=x;cases w with
 |cons r z=>
  cases z;cases r;refine bF (e.list y) λA M B N=>?_
  refine call_enumerate_list B.isList λO f C P D=>aco f ?_
  refine⟨_,_,_,_,u,rfl,(e.kept D),yp l _ _ (by simp),⟨⟨_,f⟩,C⟩,λa Q=>?_,q⟩
  have d:p.heap.objs.size<=a:=by
   grind
  exact e.zz d (e.hok.fresh d)
theorem hF:∀(a:List D) (k:Nat),(eZ k a).length=a.length
 |[],_=>rfl
 |d::a,k=>by rw[eZ,ï,ï,hF a]
theorem kz:∀(a:List D) (k i:Nat) (d:D),(eZ k a)[i]?=some d->∃x,a[i]?=some x/\d=.tup [.int (k+i:Nat),x]
 |[],_,_,_,h=>by simp[eZ]at h
 |d::a,k,0,b,h=>by simp[eZ]at h;simp_all
 |d::a,k,i+1,b,h=>by
  obtain⟨x,c,e⟩:=kz a _ i b h;exact⟨x,by simp_all,by grind⟩
theorem we:∀{c:List D}{xs:List Str}{Z:b'->Prop}{H:Hp}{a:List V}{b:List f'},sZ c=some xs->bg Z H c a->Vals a b->StrsAre b xs
 |[],xs,Z,H,a,b,h,r,q=>by
  cases h;rw[r.nil_inv]at q;cases q;exact .nil
 |d::c,xs,Z,H,a,b,h,r,q=>by
  obtain⟨v,k,rfl,e,f⟩:=r.cons_inv;cases d with
  |str x=>
   obtain⟨l,g,rfl⟩:=Å.mp h;subst e;cases q with
   |cons i j=>
    obtain⟨t,rfl⟩:=i;exact .cons x t (we g f j)
  |_=>exact bQ h
def rJoin:V->List V->Hp->VK->Prop:=λx c H Q=>∃z Z b a y,x=.str z/\c=[y]/\Now Z H (.lst b) y/\sZ b=some a/\z.length<=16/\(a.map (·.length)).sum+a.length<=1048576/\Q (.str (Txt.join z a)) H
theorem En:Ig c "str.join" rJoin:=by
 intro pins s w H x A v B Q I b d h;obtain⟨z,Z,C,D,y,rfl,rfl,n,e,f,g,q⟩:=h;obtain⟨t,rfl⟩:=b;obtain⟨l,E,rfl,i,j⟩:=c7 n;obtain⟨u,rfl,m⟩:=d.one;cases m;obtain⟨o,a,p,F⟩:=I.list (mO i);exact join_listW p.isList (by simpa using we e j a) f g λr k=>⟨.str _,H,I.tok _,⟨r,rfl⟩,q⟩
theorem yq:PF c "list.insert" wc:=by
 intro pins s E H x G v J Q I m o h;refine bz h λl p k y d f i w A b=>xa b λK q=>?_;subst d;subst f
 cases m;obtain⟨u,j,rfl,B,g⟩:=o.two;obtain⟨t,rfl⟩:=B;refine xa (I.zN i) λz b=>aW b λa n r C e=>?_
 refine Ģ acp ⟨_,e,rfl⟩ F.entry_list_insert (F.args_list_insert_3 _ _ _) (aej l _ n k t j (by rw[fitsIndex_both w A];simp) (by simp_all)) ⟨e,?_⟩
 refine⟨.non,_,I.DL (W4:=jS a k j) i e ?_ ?_ ?_,rfl,q⟩
 .have L:(if k<0 then (k+(a.toArray.size)).toNat else min k.toNat a.toArray.size)=HT.kl a.length 0 (some k):=by rfl
  unfold jS
  grind
 .have D:HT.kl p.length 0 (some k)=HT.kl a.length 0 (some k):=by rw[C]
  unfold jS;rw[D];exact(r.take _).append (.cons g (r.drop _))
 .unfold jS
  grind
theorem wg(h:L2.RelV x N)(h':L2.RelV M1 N):x=M1:=h.inj h'
def AH:V->List V->Hp->VK->Prop:=λx b H Q=>∃Z a d y j,b=[y]/\Now Z H (.lst a) x/\Now Z H d y/\aN 8 d=true/\a.all (aN 8)=true/\a.findIdx? (λe=>eJ e d)=some j/\Q (.int j) H
theorem fy(r:bg q d o O)(a:Vals O χ)(e:b<χ.length)(f:b<o.length):∃v,Rep q d o[b] v/\L2.RelV v χ[b]:=by
 obtain⟨v,g,h⟩:=r.get (i:=b) (d:=o[b]) (by simp[f])
 obtain⟨u,c,j⟩:=a.get g;rw[ç e]at c;cases c;exact⟨v,h,j⟩
theorem tj(hu:c.A.units+64<ZU):Ig c "list.index" AH:=by
 intro pins s σ H x vs v us Q I R S h;refine xe h λZ B=>bz B λk d y j C T U M o2 D=>xa D λV q=>?_;subst C
 obtain⟨l,ws,rfl,X,z⟩:=c7 T;cases R;obtain⟨u,rfl,Y⟩:=S.one;refine bF (I.list (mO X)) λa f pl N=>?_
 obtain⟨E,he,a0⟩:=acq.mp V;have G:=f.length;have r:=z.length;refine bS pl λo n ho hc p b0=>?_
 have g:∀m (b:m<k.length),aN 8 k[m]=true:=λm b=>Õ.mp o2 _ (by simp)
 have J:j<a.length:=R' (R' E (V' r.symm)) (V' G)
 classical
 let e:=λw=>decide (∃m,∃(b:m<a.length) (p:m<k.length),a[m]=w/\eJ k[m] d=true)
 have t:∀m (b:m<a.length) (p:m<k.length),e _=eJ _ d:=λm b p=>by
  cases O:eJ _ d with
  |true=>exact decide_eq_true ⟨m,b,p,rfl,O⟩
  |false=>
   refine decide_eq_false ?_;rintro⟨m',c0,i,e1,e2⟩;obtain⟨v1,K,L⟩:=fy z f b p;obtain⟨v2,r2,P⟩:=fy z f _ i;rw[e1]at P;have:=wg L P;subst this;rw[Rep.uniq _ _ _ _ (g m p) (g m' _) K r2]at O
   simp_all
 refine Ģ aaD ⟨_,ho,hc⟩ F.entry_list_index (F.args_list_index_2 _ _)
  (SeqAt.list_indexAt l _ n none o.slots u e j (by omega) (by rw[þ]at N;exact Sa (R' (R' J (V' G.symm)) N)) ?_ ?_) ⟨?_,λw hw=>?_,?_⟩
 .show e a[j]=true
  rwa[t j _ _]
 .simp_all
 .obtain⟨c',d',dt,sl⟩:=o
  simp_all
 .obtain⟨m,b,rfl⟩:=acr.mp (by simpa using hw)
  have i:m<k.length:=R' (R' b (V' G.symm)) (V' r);rw[t m b i];obtain⟨v1,K,L⟩:=fy z f b _;exact gH I 8 _ _ _ _ _ (by grind) (g m _) M (gp I K.now L (g m _)) (gp I U Y M)
 .exact⟨.int j,H,I.tok _,⟨_,rfl⟩,q⟩
theorem Eo(o:PE c m υ)(p:PE c (.BoolOp .And (R::L) n) B3):PE c (.BoolOp .And (m::R::L) n) (λb H Q=>υ b H λx e=>∃a,sF c.K x e a/\if a=true then B3 b e Q else Q x e):=by
 intro pins s b H Q I h;refine BoolOp_and (cj (o _ s b H _ I h) λv q g=>?_);refine aW g λx e r j i=>bV i λa t k=>?_
 refine cj (qw _ q b e x v (λd f=>d=a/\f=e) r j ⟨a,t,rfl,rfl⟩) λd u g=>?_;refine bF g λf l w y=>?_
 subst w y;cases d with
 |true=>exact p _ u b f Q l k
 |false=>exact⟨x,f,l,j,k⟩
theorem Iy(o:PE c m υ)(p:PE c (.BoolOp .Or (R::L) n) B3):PE c (.BoolOp .Or (m::R::L) n) (λb H Q=>υ b H λx e=>∃a,sF c.K x e a/\if a=true then Q x e else B3 b e Q):=by
 intro pins s b H Q I h;refine BoolOp_or (cj (o _ s b H _ I h) λv q g=>?_);refine aW g λx e r j i=>bV i λa t k=>?_
 refine cj (qw _ q b e x v (λd f=>d=a/\f=e) r j ⟨a,t,rfl,rfl⟩) λd u g=>?_;refine bF g λf l w y=>?_
 subst w y;cases d with
 |false=>exact p _ u b f Q l k
 |true=>exact⟨x,f,l,j,k⟩
theorem Ep(i:PE c m υ):PE c (.UnaryOp .Not m n) (λe H Q=>υ e H λx b=>∃a,sF c.K x b a/\Q (.bl (!a)) b):=by
 intro pins s e H Q I h;refine UnaryOp_ (cj (i _ s e H _ I h) λv j k=>?_);refine aW k λx b l o f=>bV f λa p q=>?_
 refine not_of (cj (qw _ j e b x v (λd g=>d=a/\g=b) l o ⟨a,p,rfl,rfl⟩) λd y  r =>bF r λg t u w=>?_)
 subst u w;exact⟨.bl _,g,t,rfl,q⟩
theorem fv.nw(h:fv C P1 q d ο j x):Now q ο j x:=by
 cases C with
 |true=>exact h.now
 |false=>exact(h.weak).now
noncomputable def My(a:T')(x:Str):Bool:=match a.names.lookup x with
 |some .local|some .cell|some .free=>true
 |_=>false
noncomputable def AI(a:T')(x:Str):Bool:=match a.names.lookup x with
 |some .local|some .cell=>true
 |_=>false
noncomputable def Dr(a:T')(x:Str):Bool:=a.names.lookup x==some .globalImplicit
noncomputable def okN(x:Str):Bool := !(x==("__debug__":Str))&&!(x==("__classdict__":Str))&&!(x==("__name__":Str))
noncomputable def Iz(N:List Str)(x:Str):Option Nat:=N.findIdx? (· == x)
def pL(a:T')(N:List Str)(x:Str):Option Nat:=if My a x&&okN x then Iz N x else none
def Ha(x:Str):Option Ty:=[Ty.int,.str,.bool,.list,.tuple,.dict].find? (λt=>t.nm==x)
noncomputable def isStar:pd->Bool
 |.Starred _ _=>true
 |_=>false
noncomputable def isSlice:pd->Bool
 |.Slice _ _ _ _=>true
 |_=>false
noncomputable def isSet:pd->Bool
 |.Set _ _ _=>true
 |_=>false
noncomputable def Er(scope a:T'):T':={scope with names:=scope.names.map λ(n,k)=>if (k==.free&&a.kind==.function&&a.names.lookup n==some .cell)then (n,.cell)else (n,k)}
noncomputable def eG(scope:T'):List Str:=(scope.names.filter λy=>y.2==.free).map (·.1)
def uZ(a:T')(N:List Str):List Str->Option (List Nat)
 |[]=>some []
 |x::b=>do let i ←pL a N x;let c ←uZ a N b;some (i::c)
def yr(scope:T')(sc:T')(x:Str):Bool:=
 scope.kind==.function&&scope.names.all (λy=>!(y.2==.cell))&&scope.names.all (λy=>!(y.2==.local)||scope.names.lookup y.1==some .local) &&
 scope.names.all (λy=>!(y.2==.free)||(sc.names.lookup y.1==some .cell||sc.names.lookup y.1==some .free)&&scope.names.lookup y.1==some .free) &&
 scope.names.lookup x==some .local&&decide ((x::eG scope).Nodup)
noncomputable def ID(b:List aaE):Option {r:Str×Pos×pd×List pd // b=[⟨.Name r.1 r.2.1,r.2.2.1,r.2.2.2,0⟩]}:=match b with
 |[⟨.Name x p,iter,a,0⟩]=>some ⟨(x,p,iter,a),rfl⟩
 |_=>none
def pM(a:List aaE):=(ID a).map (·.1)
variable{M9:List aaE}
theorem pN(h:pM M9=some (e,n,m,L)):M9=[⟨.Name e n,m,L,0⟩]:=by
 obtain⟨⟨_,h⟩,_,a⟩:=Å.mp h;cases a;exact h
theorem AJ(h:Iz l e=some b):l[b]?=some e:=by
 obtain⟨a,c,_⟩:=acq.mp h
 simp_all
theorem wh(h:pL π l e=some b):l[b]?=some e/\zj π e/\(e==("__debug__":Str))=false/\(e==("__classdict__":Str))=false:=by
 unfold pL at h;split at h
 .rename_i a
  simp only[Ç,okN,ť]at a;refine⟨AJ h,?_,a.2.1.1,a.2.1.2⟩;have c:=a.1;unfold My at c;unfold zj
  grind
 .exact bQ h
theorem wj(h:okN e=true):(e==("__debug__":Str))=false/\(e==("__classdict__":Str))=false/\e≠"__name__":=by
 simp only[okN,Ç,ť]at h
 simp_all
noncomputable def fb:List Str:=["len","all","any","list","tuple","int","min","max","bool","isinstance","str","dict","range","sorted","enumerate","reversed","set","zip"]
theorem bW(h:isStar m=false):x' (m::L) m4=(false,eval m m4)::x' L m4:=by
 cases m<;>first|rfl | (cases h)
theorem bU{a:ZR}{pos:Pos}:∀{b:List pd},(∀e∈b,isStar e=false)->(ZP pos (x' b a)).any (·.1)=false
 |[],_=>rfl
 |e::b,h=>by
  rw[bW (h e (by simp))]
  show(false||(ZP _ _).any _)=false
  rw[bU (by grind)]
  rfl
variable{P2:Ty}
theorem Mz(h:Ha e=some P2):e=P2.nm/\P2.nm∈fb:=by
 have a:=aaF h;exact⟨(eq_of_beq a).symm,by cases P2<;>decide⟩
theorem AK{d:T'}{N:List Str}:∀{xs:List Str}{a:List Nat},uZ d N xs=some a->xs.length=a.length/\∀(j i:Nat) (x:Str),xs[j]?=some x->a[j]?=some i->N[i]?=some x
 |[],a,h=>by cases h;simp_all
 |x::xs,a,h=>by
  refine bV (Ħ.mp h) λi e h=>?_
  refine bV (Ħ.mp h) λf g h=>?_
  cases h;obtain⟨k,l⟩:=AK g;refine⟨by simp_all,λj m y b c=>?_⟩
  cases j with
  |zero=>simp at b c;subst b c;exact(wh e).1
  |succ j=>grind
theorem kB(h:isSet m=false):∀x,ý m m4 x=pure x:=by
 intro x;cases m<;>first|rfl | (simp[isSet]at h)
theorem tm(h:isSet m=false):Ō M2 m=false:=by
 cases m<;>first|rfl | (simp[isSet]at h)
def tp(a:T')(N:List Str)(x:Str):Option Nat:=if AI a x&&okN x then Iz N x else none
noncomputable def q_:pd->Bool
 |.ListComp .. |.SetComp .. |.DictComp ..=>true
 |_=>false
noncomputable def tq(a:T')(x:Str)(b:Pos)(e:pd):Bool:=match e with
 |.ListComp _ _ s _=>a.names.lookup x==some .local&&b.line==e.pos.line&&!(s.names.any λ(n,k)=>n==x&&(k==.local||k==.cell))
 |_=>false
noncomputable def gI:List pd->Option (List (Str×Pos))
 |[]=>some []
 |.Name x p::r=>(gI r).map ((x,p):: ·)
 |_=>none
def rb(a:T')(N:List Str):List (Str×Pos)->Option (List Nat)
 |[]=>some []
 |x::b=>do let i ←tp a N x.1;let c ←rb a N b;some (i::c)
noncomputable def AL:pd->Bool
 |.Call .. |.Name .. |.Subscript ..=>true
 |_=>false
theorem lY:∀{a:List pd}{nms:List (Str×Pos)},gI a=some nms->a=nms.map λx=>Ĩ x.1 x.2
 |[],_,h=>by cases h;rfl
 |e::a,nms,h=>by
  unfold gI at h;split at h
  .simp_all
  .rename_i x p r q
   cases q;obtain⟨c,b,h⟩:=Å.mp h;subst h;rw[lY b];rfl
  .exact bQ h
theorem pO(a:ZR):∀(nms:List (Str×Pos)),(ü (nms.map λx=>Ĩ x.1 x.2) a).length=nms.length/\(ü (nms.map λx=>Ĩ x.1 x.2) a).findIdx? (·.1)=none
 |[]=>⟨rfl,rfl⟩
 |x::r=>by
  obtain⟨b,c⟩:=pO _ r;refine⟨?_,?_⟩
  .show(ü _ _).length+1=_
   rw[b];rfl
  .show List.findIdx? _ ((false,_)::ü _ _)=none
   simp_all
def c_(N b:List Str)(a:T'):Bool:=
 a.kind==.function&&!a.isCoroutine&&!a.isGenerator&&decide N.Nodup&&decide (N.take b.length=b)&&b.all (AI a)&&a.names.all λy=>!(y.2==.free)
theorem ee(h:c_ l ω π=true):gV l ω π:=by
 simp only[c_,Ç,ť,decide_eq_true_eq,Õ,beq_iff_eq]at h;obtain⟨⟨⟨⟨⟨⟨a,b⟩,c⟩,d⟩,f⟩,g⟩,k⟩:=h;refine⟨a,b,c,d,f,λx i=>?_,λy m e=>?_⟩
 .have j:=g x i
  unfold AI at j
  grind
 grind
noncomputable def Es:f'->Bool
 |.type x=>x=="list"
 |_=>false
def tr(K:A'):Bool:=K.all λp=>!Es p.2.cls
theorem tv:∀{K:A'}{a:b'}{o:Obj},K.lookup a=some o->(a,o)∈K
 |[],_,_,h=>by exact bQ h
 | (b,p)::K,a,o,h=>by
  rw[Ă]at h;split at h
  .simp_all
  .exact Ū _ (tv h)
theorem MA(b:tr A=true)(a:mI A d h O):Rd d h (.lst O):=by
 rcases a with a|⟨o,c,n,e,f,_⟩
 .exact a
 .have:=Õ.mp b _ (tv e)
  rw[f]at this;exact absurd this (by decide)
noncomputable def AN(K:A')(x:Str):Bool:=match Î K ZY x with
 |some none=>true
 |_=>false
def wk(K:A'):Bool:=fb.all (AN K)
theorem AO(X:A.In z)(G:z.Ns ZY Y)(a:wk A=true):∀x∈fb,Y x=none:=λx b=>by
 have:=Õ.mp a x b;unfold AN at this;split at this
 .rename_i q;exact acs X G q
 .cases this
def MB(K:A')(tl:TE):TI:=λd H R=>tl d H λx b=>(∃a c,x=.ref a/\Rd b a (.lst c)/\R (Sn K a) b)\/(∃a c,x=.ref a/\Rd b a (.tup c)/\R (WX K a) b)\/(∃y,x=.str y/\R (Xa y) b)\/Mm R x b
theorem Et(p:PE c R υ):PI c m R (MB c.K υ):=by
 intro pins s r H g I h;refine cj (p pins s r H _ I h) λv n u=>?_;refine aW u λx e d f w=>?_
 have i:∀b∈[n.heap.objs.size],oQ c pins e b:=λb z=>by
  obtain rfl:b=n.heap.objs.size:=by simpa using z
  exact d.zz (M' _) (d.hok.fresh (M' _))
 rcases w with ⟨a,A,rfl,j,q⟩|⟨a,A,rfl,j,q⟩|⟨y,rfl,q⟩|q
 .cases f
  obtain⟨k,B,l,C⟩:=d.list (mO j);refine ϔ l.isList ?_;exact⟨_,_,_,_,e,rfl,d.kept λb o R=>ZQ _ R,xT a _,⟨_,Ê _ rfl,rfl,rfl⟩,i,q⟩
 .cases f
  obtain⟨k,B,l,C⟩:=d.tuple (uv j);refine wpAny_pyIter_tuple (l) ?_;exact⟨_,_,_,_,e,rfl,d.kept λb o R=>ZQ _ R,uC a _,⟨_,Ê _ rfl,rfl,rfl⟩,i,q⟩
 .obtain⟨t,rfl⟩:=f
  refine wpAny_pyIter_strU ?_;exact⟨_,_,_,_,e,rfl,d.kept λb o R=>ZQ _ R,AG _ y t _ (by unfold strIterType;split<;>simp),⟨_,Ê _ rfl,rfl,rfl⟩,i,q⟩
 .exact DZ d f q
def MC(a:b')(o:Obj):It:=
 ⟨λi H=>∃b,H a=some (.cZ o (.dK b))/\i<b.length,λi H x d=>∃p,x=.ref p/\H p=none/\∀b,H a=some (.cZ o (.dK b))->∃c,b[i]?=some c/\d=upd H p (.tup [kV c.1,c.2]),λi H=>∃b,H a=some (.cZ o (.dK b))/\b.length<=i⟩
theorem yt:entryFor table "dict_itemiterator.__iter__"=some ŝ.«dict_keyiterator.__iter__» :=
 entryFor_alias (id':="dict_keyiterator.__iter__") (by kernel_rfl) (by rfl) (by decide +kernel) (by kernel_rfl)
variable{I:b'}{o0:Nat}{v3:f'->j'->Prop}
theorem u_(c:IsItemIter s.heap h I b w o0 N N2)(a:v3 (.ref h) s):nc (l' B G) X (Ě (.ref h)) v3 ζ s:=by
 have d:s.TypeIs (.ref h) _:=⟨_,c,rfl⟩;refine wpAny_pyIter_slot d acu (wpAny_call_entry acu d yt (U' ⟨_,rfl,_,_,d,F.slot_dict_itemiterator_next.lookup,a⟩) (F.args_dict_itemiterator_iter_1 _))
variable{ba:Array ś}{Ξ:Obj}
theorem va(a l:b')(Q:Ξ.data=.dict ba w):
  Turn B G A (.Tuple L b n) (MC a Ξ) [l] l (λi h=>∃ok p,IsItemIter h l a i ba.size w ok p) where
 mem:=by simp
 obj:=λi h d c j=>by
  grind
 keep:=λi h R d k=>by
  grind
 item:=by
  intro X x y C S i pins s σ H E I t d D;subst x y C;refine bV D λf F T=>?_
  refine xe d λok g=>xe g λp d=>?_
  refine eE (lr I.hok F Q) λvs r J u _=>?_
  have K:=ç T;refine bV (gX r K) λq hv U=>?_
  have m:=I' d;rw[u]at d;refine wpAny_pyNext_items_item d J (k:=q.1) (v:=q.2) hv λo R hk so tu sz kp=>?_
  refine⟨_,rfl,wpAny_letOwnedTupleGo_items so λM se V=>?_⟩
  have N:=V.extBut _ _ (É m) tu;refine⟨.ref s.heap.objs.size,upd H s.heap.objs.size (.tup [kV f[i].1,f[i].2]),?_,rfl,⟨_,rfl,I.hok.fresh (M' _),λY a0=>?_⟩,⟨_,_,by rw[u];exact se⟩,λc j=>?_⟩
  .have O:Ĭ M s.heap.objs.size [o,q.2].toArray:=⟨_,N,rfl,_,rfl⟩
   have P:cV X.prog X.w (upd H s.heap.objs.size (.tup [kV f[i].1,f[i].2])) M s.heap.objs.size (.tup [kV f[i].1,f[i].2]):=⟨by rw[þ];simp,[o,q.2],.cons (by rw[U.1];exact qP hk) (.cons U.2 .nil),O⟩
   have:=lX (s:=s) (z:=M) (b:=s.toks) I t (λc Ξ j q=>by
   have Z:c≠l:=λz=>j (by simp[z])
   exact V.extBut c Ξ Z (kp c Ξ Z q)) (M' _) P
   exact this
  .simp_all
  .have e:c=l:=by simpa using j
   subst e;rw[ax (Q' m)];exact(t c j).1
 done:=by
  intro X x y C S i pins s σ H E I t d D;subst x y C;refine bV D λf F T=>?_
  refine xe d λok g=>xe g λp d=>?_
  refine eE (lr I.hok F Q) λvs r J u _=>?_
  refine dv (t l (by simp)) λf0 f1 f2 f3 f4 f5=>?_
  have hl:=r.length;rw[u]at d;exact wpAny_pyNext_items_end (I.ok.hd S) d J (by simp_all) λR eb=>⟨rfl,I.turned (b:=s.toks) (λc Ξ j e=>eb c Ξ j e) f0 f1 f3 f4 f5⟩
 self:=λ_ _ _ _ _ d h=>by
  refine xe d λok g=>xe g λp d=>?_
  exact u_ d h
def SJ(R:It->Hp->Prop)(x:V)(c:Hp):Prop:=∃a b,x=.ref a/\((c a=some (.dK b)/\∀o,R (MC a o) (upd c a (.cZ o (.dK b))))\/∃o,c a=some (.cZ o (.dK b))/\R (MC a o) c)
theorem AQ(g:ì m "items" c.env (eval m c.env)=eval m c.env)(i:(J.endLine==P0.line)=true)(o:PE c m υ):
  PI c (.Tuple L b n) (.Call (.Attribute m "items" J) [] [] P0) (λp H R=>υ p H (SJ R)):=by
 intro pins s p H R I h;refine abB g i (cj (o pins s p H _ I h) λv s1 Y=>?_);refine aW Y λx H1 C Z q1=>?_
 obtain⟨a,j,rfl,q⟩:=q1;cases (Z)
 have u:∀(f:Obj) (k:Array ś) (l:Nat) (t:Hp),Inv c pins p t s1->t a=some (.cZ f (.dK j))->f.data=.dict k l->R (MC a f) t->nc (l' c.prog c.w) c.A (call (.builtin "dict.items") [.ref a]) (λv s2=>nc (l' c.prog c.w) c.A (Ě v) (PIE c pins p (.Tuple L b n) R) c.xe s2) c.xe s1:=by
  intro f k l t D e2 E G;refine eE (lr D.hok e2 E) λK r T hz U=>?_
  have V:s1.heap.DictOf _ a K:=cF (T) λm k o r=>⟨m,k,l,o,r⟩
  refine call_meetsIn aaG V.typeIs F.entry_dict_items (F.args_dict_items_1 _) (meets_dict_items _ a U) ⟨⟨K,V⟩,?_⟩;generalize y:s1.heap.push _=M;have X:∀d m,s1.heap.get? d=some m->M.get? d=some m:=λd m e=>by rw[←y];exact ZQ _ e
  have hv:M.IsItemsView s1.heap.objs.size a:=by rw[←y];exact⟨_,Ê _ rfl,rfl,rfl⟩
  have N:=T.at' λm e=>X a m e
  have O:=D.kept (t':=s1.toks) X;refine wpAny_pyIter_items hv N ?_;have I4:Inv c pins p t {s1 with heap:=M.push {cls:=.type "dict_itemiterator",data:=.fields #[.none,.bool false,.ref a,.int 0 0,.int K.length 0,.int l 0,.none,.none]} }:=O.kept λd m q=>ZQ _ q
  refine⟨_,_,_,_,t,rfl,I4,va a _ E,?_,λd hb=>?_,G⟩
  .rw[hz]
   exact⟨_,_,Ê _ rfl⟩
  .have z:=by simpa using hb
   rw[z];exact O.zz (M' _) (O.hok.fresh (M' _))
 rcases q with ⟨B,G⟩|⟨f,B,G⟩
 .obtain⟨P,Q,t3⟩:=zT C (.inl ⟨j,.inl B⟩)
  refine cB (C.vU B) λf k l o E D=>?_
  exact⟨"dict",_,acv,aaG,acw,P,Q,ſ rfl (aaf (u f k l _ D aR E (G f)))⟩
 .obtain⟨P,Q,t3⟩:=zT C (.inl ⟨j,.inr ⟨f,B⟩⟩)
  obtain⟨o,_,U,K,r,o',k,l,S,b,x2,x3⟩:=C.hok a _ B;rw[o]at S;exact⟨"dict",_,acv,aaG,acw,P,Q,ſ rfl (aaf (by grind))⟩
@[simp] theorem MD:mw .non=some false:=rfl
@[simp] theorem PM:mw (.bl C)=some C:=rfl
@[simp] theorem ME:mw (.int T)=some (T != 0):=rfl
@[simp] theorem MF:mw (.lst o)=some (!o.isEmpty):=rfl
@[simp] theorem MG:mw (.tup o)=some (!o.isEmpty):=rfl
def Ej(o:Bool)(f:List D->D):D->Out Rs
 |.tup a=>if small a.length=true then .ok (o,f a)else .bad
 |_=>.bad
@[simp] theorem MH{f:List D->D}:Ej C f (.tup o)=if small o.length=true then .ok (C,f o)else .bad:=rfl
@[simp] theorem PN:fE .Add (.int T) (.int Q0)=.ok (false,.int (T+Q0)):=rfl
@[simp] theorem PQ:fE .Sub (.int T) (.int Q0)=.ok (false,.int (T - Q0)):=rfl
@[simp] theorem PR:fE .Mult (.int T) (.int Q0)=if (nM T||nM Q0)=true then .ok (false,.int (T*Q0))else .bad:=rfl
@[simp] theorem PU:fE .FloorDiv (.int T) (.int Q0)=if (decide (0<Q0)&&decide (Q0<1073741824))=true then .ok (false,.int (T / Q0))else .bad:=rfl
@[simp] theorem PV:fE .Mod (.int T) (.int Q0)=if decide (0<Q0)=true then .ok (false,.int (T%Q0))else .bad:=rfl
@[simp] theorem PX:fE .Pow (.int T) (.int Q0)=if (decide (0<=Q0)&&decide (Q0<=1000)&&decide (T.natAbs<2 ^ 64))=true then .ok (false,.int (T ^ Q0.toNat))else .bad:=rfl
variable{M:Str}
@[simp] theorem MI:fE .Add (.str e) (.str M)=if small (e.length+M.length)=true then .ok (false,.str (e++M))else .bad:=rfl
@[simp] theorem MJ:fE .Add (.lst o) (.lst N3)=if small (o.length+N3.length)=true then .ok (true,.lst (o++N3))else .bad:=rfl
@[simp] theorem SK:fh .Eq j U=if (aN 8 j&&aN 8 U)=true then .ok (eJ j U)else .bad:=rfl
@[simp] theorem SN:fh .NotEq j U=if (aN 8 j&&aN 8 U)=true then .ok (!eJ j U)else .bad:=rfl
@[simp] theorem SO:fh .Lt (.int T) (.int Q0)=.ok (decide (T<Q0)):=rfl
@[simp] theorem SQ:fh .LtE (.int T) (.int Q0)=.ok (decide (T<=Q0)):=rfl
@[simp] theorem cmp_gt:fh .Gt (.int T) (.int Q0)=.ok (decide (Q0<T)):=rfl
@[simp] theorem SR:fh .GtE (.int T) (.int Q0)=.ok (decide (Q0<=T)):=rfl
@[simp] theorem SS:fh .In j U=inD j U:=rfl
@[simp] theorem PY:fh .NotIn j U=inD j U >>= λb=>.ok (!b):=rfl
@[simp] theorem SU:fh .Is j U=isD j U:=rfl
@[simp] theorem PZ:fh .IsNot j U=isD j U >>= λb=>.ok (!b):=rfl
@[simp] theorem SV:aN b .non=true:=by cases b<;>rfl
@[simp] theorem Xc:aN b (.bl C)=true:=by cases b<;>rfl
@[simp] theorem SW:aN b (.int T)=true:=by cases b<;>rfl
@[simp] theorem SX:aN b (.str e)=true:=by cases b<;>rfl
@[simp] theorem SY:aN (b+1) (.lst o)=o.all (aN b):=rfl
@[simp] theorem S_:aN (b+1) (.tup o)=o.all (aN b):=rfl
@[simp] theorem eq_int:eJ (.int T) (.int Q0)=(T==Q0):=rfl
@[simp] theorem Xd:eJ (.bl C) (.bl P1)=(C==P1):=rfl
@[simp] theorem eq_str:eJ (.str e) (.str M)=(e==M):=rfl
@[simp] theorem Ta:eJ (.lst o) (.lst N3)=gg o N3:=rfl
@[simp] theorem Tb:eJ (.tup o) (.tup N3)=gg o N3:=rfl
@[simp] theorem P_:gg [] []=true:=rfl
@[simp] theorem MK:gg (j::o) (U::N3)=(eJ j U&&gg o N3):=rfl
@[simp] theorem Tc:gg [] (j::o)=false:=rfl
@[simp] theorem Td:gg (j::o) []=false:=rfl
theorem Eu(h:small e.length=true)(a:L2.mu e.cps.toList T=some b):uT (.str e) (.int T)=.ok (false,.str (bO b)):=by
 simp only[uT,h,if_pos,a]
variable{D9 E9:Option Int}
@[simp] theorem Qa:Al (.lst o) D9 E9=.ok (true,.lst (ed o D9 E9)):=rfl
@[simp] theorem Qb:Al (.str e) D9 E9=if small e.length=true then .ok (false,.str ⟨(ed e.cps.toList D9 E9).toArray⟩)else .bad:=rfl
@[simp] theorem Qc:jR .len (.tup [.lst o])=.ok (false,.int o.length):=rfl
@[simp] theorem Qd:jR .len (.tup [.tup o])=.ok (false,.int o.length):=rfl
@[simp] theorem len_str:jR .len (.tup [.str e])=if small e.length=true then .ok (false,.int e.length)else .bad:=rfl
noncomputable def AR(f:List Bool->Bool):Option (List Bool)->Out Rs
 |some bs=>.ok (false,.bl (f bs))
 |none=>.bad
@[simp] theorem Ll{f:List Bool->Bool}:AR f (some N9)=.ok (false,.bl (f N9)):=rfl
@[simp] theorem Qe:jR .all (.tup [.lst o])=AR (λbs=>bs.all id) (gF o):=rfl
@[simp] theorem Qf:jR .any (.tup [.lst o])=AR (λbs=>bs.any id) (gF o):=rfl
@[simp] theorem ML:jR .list (.tup [.lst o])=.ok (true,.lst o):=rfl
@[simp] theorem MM:jR .list (.tup [.tup o])=.ok (true,.lst o):=rfl
@[simp] theorem Lm:jR .tuple (.tup [.lst o])=.ok (false,.tup o):=rfl
@[simp] theorem Ln:jR .tuple (.tup [.tup o])=.ok (false,.tup o):=rfl
@[simp] theorem int_int:jR .int (.tup [.int T])=.ok (false,.int T):=rfl
@[simp] theorem Te:jR .int (.tup [.bl C])=.ok (false,.int (if C then 1 else 0)):=rfl
@[simp] theorem Qg:jR .min (.tup [.int T,.int Q0])=.ok (false,.int (if Q0<T then Q0 else T)):=rfl
@[simp] theorem Qh:jR .max (.tup [.int T,.int Q0])=.ok (false,.int (if Q0>T then Q0 else T)):=rfl
@[simp] theorem Tf:An .non P2=some false:=rfl
@[simp] theorem Xe{t:Ty}:An (.bl C) t=some (t==.bool||t==.int):=rfl
@[simp] theorem ty_int:An (.int T) P2=some (P2==.int):=rfl
@[simp] theorem ty_str:An (.str e) P2=some (P2==.str):=rfl
@[simp] theorem Tg:An (.lst o) P2=some (P2==.list):=rfl
@[simp] theorem Th:An (.tup o) P2=some (P2==.tuple):=rfl
@[simp] theorem Ti{ks:List L2.Key}:An (.dct ks o) P2=some (P2==.dict):=rfl
theorem a7(h:b<=100000):small b=true:=by
 unfold small;rw[decide_eq_true_eq,þ];omega
theorem kC(a : -(2 ^ 64)<T)(b:T<2 ^ 64):nM T=true:=decide_eq_true (by omega)
theorem e_(a : -(2 ^ 62)<T)(b:T<2 ^ 62):o_ T=true:=decide_eq_true (by omega)
theorem IE{α:Type}{xs:List α}(b:0<=T)(c:T<xs.length):∃x,x∈xs/\L2.mu xs T=some x:=by
 have a:T.toNat<xs.length:=by omega
 have h:=L2.cf (ç a)
 grind
@[simp] theorem in_str:inD (.str e) (.str M)=.ok (nN e M):=rfl
theorem cE(n:Nat)(a:Int):(intsFrom a n).length=n:=ky n a
theorem ef:∀{a:Int}{i:Nat}{d:D},(intsFrom a b)[i]?=some d->d=.int (a+i)/\i<b:=by
 induction b with
 |zero=>intro a i d h;simp[intsFrom]at h
 |succ b c=>
  intro a i d h;cases i with
  |zero=>simp[intsFrom]at h;simp_all
  |succ i=>
   simp[intsFrom]at h
   grind
noncomputable def L1(xs:List Str):D:=.lst (xs.map .str)
def LL(a:List (List Str)):D:=.lst (a.map L1)
theorem AS(xs:List N1)(k:Nat):ed xs (some (k:Int)) none=xs.drop k:=by
 unfold ed;rw[HT.sJ,HT.mK];rcases aaH k _ with h|h
 .rw[aaI h]
  exact Š (by simp)
 simp_all
theorem vb(xs:List N1)(k:Nat):ed xs none (some (k:Int))=xs.take k:=by
 unfold ed;rw[HT.sJ,HT.mK];simp
theorem AU(xs:List N1)(k m:Nat):ed xs (some (k:Int)) (some (m:Int))=(xs.drop k).take (m - k):=by
 unfold ed;rw[HT.mK,HT.mK];rcases aaH k _ with h|h
 .rw[aaI h]
  rcases aaH m xs.length with h' |h'
  .simp_all
  .rw[Nat.min_eq_right h',Š (by simp),Š (by simp;omega)]
 simp_all
@[simp] theorem Xf(xs:List N1):ed xs (some 1) none=xs.tail:=by rw[show(1)=((1:Nat):Int)from rfl,AS];simp
theorem Ew(n:Nat)(xs:List Str):(xs.map D.str).all (aN n)=true:=by
 simp
theorem Ex(xs:List Str)(n:Str):((xs.map D.str).any λy=>eJ y (.str n))=decide (n∈xs):=by
 induction xs with
 |nil=>rfl
 |cons x xs a=>
  simp only[ù,Ĥ,a,eq_str,Æ]
  grind
theorem Ey(xs:List Str)(n:Str):inD (.str n) (.lst (xs.map .str))=.ok (decide (n∈xs)):=by
 have:inD _ (.lst _)=if aN 8 (.str n)&&(xs.map D.str).all _ then .ok _ else .bad:=rfl
 rw[this,Ex];simp
theorem Ez(xs a:List Str):gg (xs.map .str) (a.map .str)=decide (xs=a):=by
 induction xs generalizing a with
 |nil=>cases a<;>simp
 |cons x xs b=>
  cases a with
  |nil=>simp
  |cons y a=>
   simp
   grind
theorem MN(xs a:List Str):eJ (L1 xs) (L1 a)=decide (xs=a):=Ez xs a
theorem MO(n:Nat)(xs:List Str):aN (n+1) (L1 xs)=true:=Ew n xs
noncomputable def freeOf(a:List (List Str)):List Str->Option Str
 |[]=>none
 |n::_=>if ∃t∈a,n∈t.tail then none else some n
variable{ε:List (List Str)}
theorem dR(h:∃t∈ε,e∈t.tail):freeOf ε (e::l)=none:=if_pos h
theorem dS(h:¬ ∃t∈ε,e∈t.tail):freeOf ε (e::l)=some e:=if_neg h
def free(a:List (List Str)):Option Str:=a.findSome? (freeOf a)
noncomputable def IF:Option Str->D
 |none=>.non
 |some n=>.str n
@[simp] theorem Tj:isD (.str e) .non=.ok false:=rfl
@[simp] theorem Qi:isD .non .non=.ok true:=rfl
@[simp] theorem Tn:isD (.int T) .non=.ok false:=rfl
@[simp] theorem To:isD (.lst o) .non=.ok false:=rfl
noncomputable def dG(n:Str)(r:List Str):List Str:=if r.take 1=[n]then r.tail else r
inductive Mg:List (List Str)->List Str->Prop
 |done {rs}:(∀r∈rs,r=[])->Mg rs []
 |step {rs n o}:(∃r∈rs,r≠[])->free rs=some n->Mg (rs.map (dG n)) o->Mg rs (n::o)
theorem any_rows(a:List (List Str)):gF (a.map L1)=some (a.map λr=>!r.isEmpty):=by
 induction a with
 |nil=>rfl
 |cons r a b=>
  simp only[ù,gF,b];simp[L1]
theorem any_true(h:∃r∈ε,r≠[]):(ε.map λr=>!r.isEmpty).any id=true:=by
 simp_all
theorem any_false(h:∀r∈ε,r=[]):(ε.map λr=>!r.isEmpty).any id=false:=by
 grind
abbrev Fn:=List D->Out Rs
def gJ(a:Int->Int->Int->Int)(F:Fn):Prop:=∀c t m,0<=t->t<100000->0<m->0<=a c t m/\a c t m<m/\F [.int c,.int t,.int m]=.ok (false,.int (a c t m))
noncomputable def SC(a:List Int):D:=.lst (a.map .int)
def lu(κ:List Int->Nat->Int)(F:Fn):Prop:=∀a (k:Nat),F [SC a,.int k]=.ok (false,.int (κ a k))
theorem ints_map(a:Int)(n:Nat):intsFrom a n=(Y' n).map λ(i:Nat)=>D.int (a+i):=by
 apply aaJ;intro i
 by_cases h:i<n
 .have b:i<(intsFrom a n).length:=by rwa[cE]
  have e:=(ef (ç b)).1
  simp_all
 .rw[Ŀ (by rw[cE];omega),Ŀ (by simp;omega)]
theorem jn(n:Nat):intsFrom 0 n=(Y' n).map λ(i:Nat)=>D.int i:=by
 rw[ints_map];simp
noncomputable def abc:Str:="abcdefghijklmnopqrstuvwxyz"
theorem IG:∀q:Nat,q<26->abc.cps.toList[q]?=some (97+q):=by decide
theorem wm(a:0<=T)(b:T<26):uT (.str abc) (.int T)=.ok (false,.str (bO (97+T.toNat))):=by
 refine Eu (a7 (by decide)) ?_
 have:=L2.cf (IG T.toNat (by omega))
 grind
noncomputable def bs(a:Int->Int->Int->Int)(c:Int):List D:=(Y' 8).map λ(i:Nat)=>.int (a c i 26)
theorem wo(h:free ε=some e):(∃r∈ε,∃t,r=e::t)/\∀t∈ε,e∉t.tail:=by
 obtain⟨r,c,a⟩:=aaK h;cases r with
 |nil=>cases a
 |cons x t=>
  by_cases b:∃t∈ε,x∈t.tail
  .rw[dR b]at a;cases a
  .rw[dS b]at a
   grind
theorem EA(b:free ε=some e):∀r∈ε.map (dG e),e∉r:=by
 intro r c a;obtain⟨t,d,rfl⟩:=è.mp c;have f:=(wo b).2 t d;unfold dG at a;split at a
 .simp_all
 .cases t with
  |nil=>simp at a
  |cons x t=>
   simp_all
theorem AV(M:Mg ε l):∀x∈l,∃r∈ε,x∈r:=by
 induction M with
 |done h=>simp
 |@step ε n l c d _ f=>
  intro x a;rcases Æ.mp a with e|e
  .obtain⟨⟨r,b,t,rfl⟩,_⟩:=wo d
   grind
  .obtain⟨r,b,a⟩:=f x e
   obtain⟨t,g,rfl⟩:=è.mp b
   exact⟨t,g,by
     unfold dG at a;split at a
     .exact List.mem_of_mem_tail a
     .exact a⟩
theorem AW(M:Mg ε l):l.Nodup:=by
 induction M with
 |done h=>simp
 |@step ε n l a b c d=>
  refine Ĳ.mpr ⟨λh=>?_,d⟩
  obtain⟨r,e,f⟩:=AV c n h;exact EA b r e f
noncomputable def behind(a:List (List Str)):List Str:=a.flatMap List.tail
@[simp] theorem Qj:jR .list (.tup [L1 l])=.ok (true,L1 l):=rfl
@[simp] theorem Qk:jR .list (.tup [LL ε])=.ok (true,LL ε):=rfl
@[simp] theorem Xg:inD (.str e) (L1 l)=.ok (decide (e∈l)):=Ey l e
@[simp] theorem Xh:An (L1 l) P2=some (P2==.list):=rfl
@[simp] theorem Yv:aN (b+1) (L1 l)=true:=MO b l
@[simp] theorem Yw:aN (b+2) (LL ε)=true:=by
  show(ε.map L1).all _=true
  simp_all
@[simp] theorem Yx:eJ (L1 l) (L1 ω)=decide (l=ω):=MN l ω
@[simp] theorem Yy{a:List (List Str)}:eJ (LL ε) (LL a)=decide (ε=a):=by
  show gg _ _=_
  induction ε generalizing a with
  |nil=>cases a<;>simp
  |cons x ε b=>
   cases a with
   |nil=>simp
   |cons y a=>
    simp_all
@[simp] theorem Xi:isD (.bl C) (.bl P1)=.ok (C==P1):=rfl
open AutoSeq1 (wpAny_loadPart')
structure Tp where
 name:Str
 qual:Str
 params:Ź
 body:List D'
 scope:T'
 ps:List Str
 cn:List Str
class hH where
 tab:Nat->Tp
 ta:Nat->b'
inductive Cell where
 |lst (ds:List D)
 |dK (kvs:List (Key×D))
 |dT (kvs:List (List Key×D))
 |dF (kvs:List (Key×D))
 |ins (C:Str) (fs:List (Str×D))
 |fn (j:Nat) (yu:List D)
 |tb (j:Nat) (p:Pos) (b:Bool)
 |xc (C:Str) (fs:List (Str×D))
abbrev aG:=List Cell
inductive ay (α:Type) where
 |ok (a:α) (Ω:aG)
 |exc (x:D) (Ω:aG)
 |bad
noncomputable def ay.bind{α β:Type}:ay α->(α->aG->ay β)->ay β
 |.ok a Ω,f=>f a Ω
 |.exc x Ω,_=>.exc x Ω
 |.bad,_=>.bad
abbrev bh:=List (Option D)
inductive aE {α β:Type} (R:α->β->Prop):List α->List β->Prop where
 |nil:aE R [] []
 |cons {a b as bs}:R a b->aE R as bs->aE R (a::as) (b::bs)
namespace aE
section
variable{α β:Type}{R S:α->β->Prop}
theorem length:∀{as:List α}{bs:List β},aE R as bs->bs.length=as.length
 |_,_,.nil=>rfl
 |_,_,.cons _ t=>by rw[ï,ï,length t]
theorem imp(h:∀a b,R a b->S a b):∀{as:List α}{bs:List β},aE R as bs->aE S as bs
 |_,_,.nil=>.nil
 |_,_,.cons r t=>.cons (h _ _ r) (imp h t)
theorem get:∀{as:List α}{bs:List β}{i:Nat}{a:α},aE R as bs->as[i]?=some a->∃b,bs[i]?=some b/\R a b
 |_,_,_,_,.nil,e=>by simp at e
 |_,_,0,_,.cons r _,e=>by simp_all
 |_,_,i+1,a,.cons _ t,e=>by
  refine bV (get t (by simpa using e)) λu c d=>?_
  simp_all
theorem EB:∀{as:List α}{bs:List β}{i:Nat}{b:β},aE R as bs->bs[i]?=some b->∃a,as[i]?=some a/\R a b
 |_,_,_,_,.nil,e=>by simp at e
 |_,_,0,_,.cons r _,e=>by simp_all
 |_,_,i+1,a,.cons _ t,e=>by
  refine bV (EB t (by simpa using e)) λu c d=>?_
  simp_all
theorem append:∀{as a:List α}{bs b:List β},aE R as bs->aE R a b->aE R (as++a) (bs++b)
 |_,_,_,_,.nil,h=>h
 |_,_,_,_,.cons r t,h=>.cons r (append t h)
theorem one{a:α}{b:β}(h:R a b):aE R [a] [b]:=.cons h .nil
theorem take:∀{as:List α}{bs:List β} (n:Nat),aE R as bs->aE R (as.take n) (bs.take n)
 |_,_,0,_=>.nil
 |_,_,n+1,.nil=>.nil
 |_,_,n+1,.cons r t=>.cons r (take n t)
theorem drop:∀{as:List α}{bs:List β} (n:Nat),aE R as bs->aE R (as.drop n) (bs.drop n)
 |_,_,0,h=>h
 |_,_,n+1,.nil=>.nil
 |_,_,n+1,.cons r t=>drop n t
theorem reverse:∀{as:List α}{bs:List β},aE R as bs->aE R as.reverse bs.reverse
 |_,_,.nil=>.nil
 |_,_,.cons r t=>by rw[ϋ,ϋ];exact(reverse t).append (one r)
theorem nil_inv{bs:List β}(h:aE R [] bs):bs=[]:=by cases h;rfl
theorem cons_inv{a:α}{as:List α}{bs:List β}(h:aE R (a::as) bs):∃b r,bs=b::r/\R a b/\aE R as r:=by
 cases h with
 |cons r t=>grind
end
end aE
mutual
noncomputable def aw(α:List b')(Z:b'->Prop)(H:Hp):D->V->Prop
 |.non,v=>v=.non
 |.bl b,v=>v=.bl b
 |.int i,v=>v=.int i
 |.str x,v=>v=.str x
 |.lst d,v=>∃a c,v=.ref a/\Z a/\Rd H a (.lst c)/\gK α Z H d c
 |.tup d,v=>∃a c,v=.ref a/\Z a/\H a=some (.tup c)/\gK α Z H d c
 |.dct _ _,_=>True
 |.ref n,v=>∃a,α[n]?=some a/\v=.ref a
noncomputable def gK(α:List b')(Z:b'->Prop)(H:Hp):List D->List V->Prop
 |[],a=>a=[]
 |d::b,a=>∃v r,a=v::r/\aw α Z H d v/\gK α Z H b r
end
theorem cH{α:List b'}{Z:b'->Prop}{H:Hp}:∀{b:List D}{a:List V},gK α Z H b a↔aE (aw α Z H) b a
 |[],a=>⟨λh=>by subst h;exact .nil,λh=>h.nil_inv⟩
 |d::b,a=>by
  constructor
  .rintro⟨v,r,rfl,c,e⟩
   exact .cons c (cH.mp e)
  .intro h
   obtain⟨v,r,rfl,c,e⟩:=h.cons_inv;exact⟨v,r,rfl,c,cH.mpr e⟩
mutual
theorem aw.mono{α b:List b'}{Z j:b'->Prop}{H l:Hp}(p:∀(n:Nat) (a:b'),α[n]?=some a->b[n]?=some a)(k:∀a o,Z a->H a=some o->l a=some o)(z:∀a,Z a->j a):∀{d:D}{v:V},aw α Z H d v->aw b j l d v
 |.non,_,h=>by simpa only [aw]using h
 |.bl _,_,h=>by simpa only [aw]using h
 |.int _,_,h=>by simpa only [aw]using h
 |.str _,_,h=>by simpa only [aw]using h
 |.lst m,v,h=>by
  simp only[aw]at h ⊢;obtain⟨a,f,e,c,g,i⟩:=h;exact⟨a,f,e,z a c,qS (λo=>k a o c) g,gK.mono p k z i⟩
 |.tup m,v,h=>by
  simp only[aw]at h ⊢;obtain⟨a,f,e,c,g,i⟩:=h;exact⟨a,f,e,z a c,k a _ c g,gK.mono p k z i⟩
 |.dct q m,v,h=>by simp only[aw]
 |.ref n,v,h=>by
  simp only[aw]at h ⊢;obtain⟨a,e,h⟩:=h;exact⟨a,p n a e,h⟩
theorem gK.mono{α b:List b'}{Z g:b'->Prop}{H i:Hp}(p:∀(n:Nat) (a:b'),α[n]?=some a->b[n]?=some a)(k:∀a o,Z a->H a=some o->i a=some o)(z:∀a,Z a->g a):∀{c:List D}{f:List V},gK α Z H c f->gK b g i c f
 |[],_,h=>by simpa only [gK]using h
 |d::c,f,h=>by
  simp only[gK]at h ⊢;refine aW h λv r e j l=>?_
  exact⟨v,r,e,aw.mono p k z j,gK.mono p k z l⟩
end
def jE{K:Type}(R:D->V->Prop)(kvs:List (K×D))(a:List (K×V)):Prop:=aE (λp q=>p.1=q.1/\R p.2 q.2) kvs a
variable [hH]
def hJ(κ:Str->b'->Prop)(R:D->V->Prop)(H:Hp)(a:b'):Cell->Prop
 |.lst g=>∃f,H a=some (.lst f)/\aE R g f
 |.dK c=>∃b,H a=some (.dK b)/\jE R c b
 |.dT c=>∃b,H a=some (.dT b)/\jE R c b
 |.dF c=>∃o b,H a=some (.cZ o (.dK b))/\jE R c b
 |.ins C fs=>∃e h d,κ C e/\H a=some (.ins e h d)/\jE R fs d
 |.xc C fs=>∃e d,κ C e/\Ac H a e d/\jE R fs d
 |_=>False
theorem jE.imp{K:Type}{R S:D->V->Prop}(h:∀d v,R d v->S d v){kvs:List (K×D)}{c:List (K×V)}(k:jE R kvs c):jE S kvs c:=aE.imp (λa b q=>⟨q.1,h _ _ q.2⟩) k
theorem hJ.imp{κ:Str->b'->Prop}{R S:D->V->Prop}{H m:Hp}{a:b'}{c:Cell}(h:∀d v,R d v->S d v)(e:∀o,H a=some o->m a=some o)(z:∀b o u,H b=some (.cZ o u)->m b=some (.cZ o u))(x:∀b n,H b=some (.xd n)->m b=some (.xd n))(k:hJ κ R H a c):hJ κ S m a c:=by
 cases c with
 |lst w=>obtain⟨i,f,g⟩:=k;exact⟨i,e _ f,g.imp h⟩
 |dK l=>obtain⟨i,f,g⟩:=k;exact⟨i,e _ f,g.imp h⟩
 |dT l=>obtain⟨i,f,g⟩:=k;exact⟨i,e _ f,g.imp h⟩
 |dF l=>obtain⟨o,i,f,g⟩:=k;exact⟨o,i,e _ f,g.imp h⟩
 |ins C n=>obtain⟨q,t,i,r,f,g⟩:=k;exact⟨q,t,i,r,e _ f,g.imp h⟩
 |fn j yu=>exact k.elim
 |tb j p b=>exact k.elim
 |xc C n=>obtain⟨q,s,r,f,g⟩:=k;exact⟨q,s,r,f.grow z x,g.imp h⟩
variable{C2:Cell}{Q5:D->V->Prop}{i:Str->b'->Prop}
theorem hJ.some(k:hJ i Q5 d h C2):d h≠none:=by
 cases C2 with
 |lst q=>obtain⟨e,a,f⟩:=k;rw[a];simp
 |dK c=>obtain⟨e,a,f⟩:=k;rw[a];simp
 |dT c=>obtain⟨e,a,f⟩:=k;rw[a];simp
 |dF c=>obtain⟨o,e,a,f⟩:=k;rw[a];simp
 |ins C g=>obtain⟨l,r,e,m,a,f⟩:=k;rw[a];simp
 |fn j yu=>exact k.elim
 |tb j p b=>exact k.elim
 |xc C g=>obtain⟨l,n,m,⟨o,s,a,_⟩,_⟩:=k;rw[a];simp[nB]
structure bw(κ:Str->b'->Prop)(α:List b')(Z:b'->Prop)(Ω:aG)(H:Hp):Prop where
 sh:α.Nodup
 zm:aE (λc a=>hJ κ (aw α Z H) H a c) Ω α
 sep:∀a∈α,¬ Z a
 dom:∀a,Z a->H a≠none
structure cA(α:List b')(Z:b'->Prop)(H:Hp)(α':List b')(Z':b'->Prop)(H':Hp):Prop where
 pre:∀(n:Nat) (a:b'),α[n]?=some a->α'[n]?=some a
 sub:∀a,Z a->Z' a
 new:∀a,Z' a->Z a\/H a=none
 Hb:∀a∈α',a∈α\/H a=none
 frm:∀a o,H a=some o->a∉α->H' a=some o
 has:∀a∈α,H' a≠none
 cZ:∀a o u,H a=some (.cZ o u)->H' a=some (.cZ o u)
theorem cA.refl(h:∀a∈v,d a≠none):cA v q d v q d:=⟨by simp,λ_ h=>h,by simp_all,λ_ h=>.inl h,by grind,h,by simp⟩
variable{a:aG}
theorem bw.has(S:bw i v q a d):∀b∈v,d b≠none:=λb e=>by
 obtain⟨n,f⟩:=Ó.mp e;obtain⟨c,_,h⟩:=S.zm.EB f;exact h.some
theorem hJ.kY(k:hJ i Q5 d h C2)(f:List (Str×V)):d h≠Option.some (.xd f):=by
 cases C2 with
 |lst m=>obtain⟨c,a,e⟩:=k;rw[a];simp
 |dK b=>obtain⟨c,a,e⟩:=k;rw[a];simp
 |dT b=>obtain⟨c,a,e⟩:=k;rw[a];simp
 |dF b=>obtain⟨o,c,a,e⟩:=k;rw[a];simp
 |ins C f=>obtain⟨g,n,c,j,a,e⟩:=k;rw[a];simp
 |xc C f=>obtain⟨g,l,j,⟨o,p,a,_⟩,_⟩:=k;rw[a];simp[nB]
 |_=>exact k.elim
theorem bw.kY{κ:Str->b'->Prop}{α:List b'}{Z:b'->Prop}{Ω:aG}{H:Hp}(S:bw κ α Z Ω H){a:b'}(b:a∈α):∀d,H a≠some (.xd d):=by
 obtain⟨n,e⟩:=Ó.mp b;obtain⟨c,_,h⟩:=S.zm.EB e;exact h.kY
theorem cA.none{α b:List b'}{Z e:b'->Prop}{H c:Hp}(g:cA α Z H b e c){a:b'}(h:c a=none):H a=none:=by
 cases q:H a with
 |none=>rfl
 |some o=>
  by_cases d:a∈α
  .exact absurd h (g.has a d)
  .rw[g.frm a o q d]at h;cases h
variable{Q1 ia:b'->Prop}{Z8:List b'}{d8:Hp}
theorem cA.trans(g:cA v q d J0 Q1 ο)(g':cA J0 Q1 ο Z8 ia d8):cA v q d Z8 ia d8 where
 pre:=λn a e=>g'.pre n a (g.pre n a e)
 sub:=λa h=>g'.sub a (g.sub a h)
 new:=λa h=>by
  rcases g'.new a h with h|h
  .exact g.new a h
  .exact .inr (g.none h)
 Hb:=λa h=>by
  rcases g'.Hb a h with h|h
  .exact g.Hb a h
  .exact .inr (g.none h)
 frm:=λa o e b=>g'.frm a o (g.frm a o e b) λh=>by
  rcases g.Hb a h with h|h
  .exact b h
  grind
 has:=λa b=>by
  obtain⟨n,c⟩:=Ó.mp b;exact g'.has a (ZV (g.pre n a c))
 cZ:=λa o u e=>g'.cZ a o u (g.cZ a o u e)
theorem bw.di(S:bw i v q a d)(g:cA v q d J0 Q1 ο)(h:aw v q d j x):aw J0 Q1 ο j x:=
 h.mono g.pre (λb o z e=>g.frm b o e λc=>S.sep b c z) g.sub
theorem bw.lZ(S:bw i v q a d)(g:cA v q d J0 Q1 ο)(h:aE (aw v q d) o O):aE (aw J0 Q1 ο) o O:=h.imp λ_ _ b=>S.di g b
theorem bw.cell(S:bw i v q a d)(e:a[b]?=some C2):∃c,v[b]?=some c/\hJ i (aw v q d) d c C2:=S.zm.get e
theorem bw.len(S:bw i v q a d):v.length=a.length:=S.zm.length
theorem bw.tw(S:bw i v q a d)(j:d h=none)(z:Prop)[Decidable z]:bw i v (if z then Zp q h else q) a (upd d h B1)/\cA v q d v (if z then Zp q h else q) (upd d h B1):=by
 have n:∀f∈v,f≠h:=λf k e=>S.has f k (e▸j)
 have m:∀f,q f->f≠h:=λf l e=>S.dom f l (e▸j)
 have g:cA v q d v (if z then Zp q h else q) (upd d h B1):=⟨λ_ _ e=>e,(λf k=>by
  split
  .exact .inl k
  .exact k),λf k=>by
   split at k
   .rcases k with k|rfl
    .exact .inl k
    simp_all
   simp_all,λ_ k=>.inl k,λf u e _=>by rwa[ax (aZ e j)],λf k=>by rw[ax (n f k)];exact S.has f k,λf s u e=>by rwa[ax (aZ e j)]⟩
 refine⟨⟨S.sh,?_,λf k l=>?_,λf k=>?_⟩,g⟩
 .refine S.zm.imp λc f t=>?_
  refine t.imp (λo p r=>S.di g r) (λu e=>?_) (λb s w e=>?_) λb x e=>?_
  .rwa[ax (aZ e j)]
  .rwa[ax (aZ e j)]
  .rwa[ax (aZ e j)]
 .split at l
  .rcases l with l|rfl
   .exact S.sep f k l
   grind
  .exact S.sep f k l
 .split at k
  .rcases k with k|rfl
   .rw[ax (m f k)];exact S.dom f k
   .rw[aR];simp
  .rw[ax (m f k)];exact S.dom f k
theorem bw.laid(S:bw i v q a d){o:HO}{c:Cell}(j:d h=none)(m:∀R:D->V->Prop,(∀k l,aw v q d k l->R k l)->hJ i R (upd d h o) h c):bw i (v++[h]) q (a++[c]) (upd d h o)/\cA v q d (v++[h]) q (upd d h o):=by
 have p:∀f∈v,f≠h:=λf ha e=>S.has f ha (e▸j)
 have s:∀f,q f->f≠h:=λf t e=>S.dom f t (e▸j)
 have g:cA v q d (v++[h]) q (upd d h o):=⟨λn f e=>by rwa[Û (ZS.mp e).1],λ_ j=>j,λ_ j=>.inl j,by grind,λf u e _=>by rwa[ax (aZ e j)],λf ha=>by rw[ax (p f ha)];exact S.has f ha,λf w u e=>by rwa[ax (aZ e j)]⟩
 refine⟨⟨?_,?_,λf ha t=>?_,λf ha=>by rw[ax (s f ha)];exact S.dom f ha⟩,g⟩
 .refine Ĕ.mpr ⟨S.sh,by simp,λf ha b x=>?_⟩
  simp_all
 .refine aE.append (S.zm.imp λc f m=>?_) (.one (m _ λk l r=>S.di g r))
  refine m.imp (λk l r=>S.di g r) (λu e=>?_) (λb w y e=>?_) λb z e=>?_
  .rwa[ax (aZ e j)]
  .rwa[ax (aZ e j)]
  .rwa[ax (aZ e j)]
 .rcases Ô.mp ha with ha|ha
  .exact S.sep f ha t
  simp_all
theorem bw.put(S:bw i v q a d){n:Nat}{c:Cell}(A:v[n]?=some h)(B:∀B1 u,d h≠some (.cZ B1 u))(M:∀R:D->V->Prop,(∀k l,aw v q d k l->R k l)->hJ i R (upd d h B1) h c):bw i v q (a.set n c) (upd d h B1)/\cA v q d v q (upd d h B1):=by
 have g:cA v q d v q (upd d h B1):=⟨λn j e=>e,λ_ m=>m,λ_ m=>.inl m,λj w=>.inl w,λj u e w=>by rw[ax (λ(f:j=h)=>w (by rw[f];exact(ZV A)))];exact e,λj w=>by
   by_cases f:j=h
   .subst f;rw[aR];simp
   .rw[ax f];exact S.has j w,λj x u e=>by rw[ax (λf=>B x u (by rw[←f];exact e))];exact e⟩
 have J:∀y,d h≠some (.xd y):=S.kY (ZV A);refine⟨⟨S.sh,?_,S.sep,λj w=>?_⟩,g⟩
 .have C:∀{s:List Cell}{o:List b'}{n:Nat},o.Nodup->aE (λc j=>hJ i (aw v q d) d j c) s o->o[n]?=some h->aE (λc j=>hJ i (aw v q (upd d h B1)) (upd d h B1) j c) (s.set n c) o:=by
   intro s o n E F
   induction F generalizing n with
   |nil=>intro e;simp at e
   |@cons O G s o r t H=>
    intro e;have p:=Ĳ.mp E;cases n with
    |zero=>
     simp at e;subst e;refine .cons (M _ λk l r=>S.di g r) (aE.imp (λ_ _ f=>f) ?_)
     have:∀{s:List Cell}{o:List b'},G∉o->aE (λc j=>hJ i (aw v q d) d j c) s o->aE (λc j=>hJ i (aw v q (upd d G B1)) (upd d G B1) j c) s o:=by
      intro s o z F
      induction F with
      |nil=>exact .nil
      |@cons c1 P s o r t H=>
       refine .cons (r.imp (λk l f=>S.di g f) (λu e=>?_) (λb x I e=>?_) λb y e=>by rw[ax (λf=>J y (by rw[←f];exact e))];exact e) (H λf=>z (Ū _ f))
       .rw[ax (λf=>z (by rw[f];simp))];exact e
       .rw[ax (λf=>B x I (by rw[←f];exact e))];exact e
     exact this p.1 t
    |succ n=>
     have K:=by simpa using e
     refine .cons (r.imp (λk l f=>S.di g f) (λu N=>?_) (λb x I L=>?_) λb y e=>by rw[ax (λf=>J y (by rw[←f];exact e))];exact e) (H p.2 K)
     .rw[ax (λf=>p.1 (by rw[f];exact ZV K))];exact N
     .rw[ax (λf=>B x I (by rw[←f];exact L))];exact L
  exact C S.sh S.zm A
 .by_cases f:j=h
  .subst f;rw[aR];simp
  .rw[ax f];exact S.dom j w
abbrev hX:=D->aG->List b'->(b'->Prop)->Hp->Prop
def bJ(κ:Str->b'->Prop)(f:hX)(α:List b')(Z:b'->Prop)(H:Hp)(r:ay D)(Q:VK):Prop:=match r with
 |.ok d b=>∀v c a e,cA α Z H a e c->bw κ a e b c->aw a e c d v->Q v c
 |.exc x b=>∀c a e,cA α Z H a e c->bw κ a e b c->f x b a e c
 |.bad=>False
structure cW(κ:Str->b'->Prop)(Xj:List b')(Z0:b'->Prop)(H0:Hp)(α:List b')(Z:b'->Prop)(Ω:aG)(ρ:bh)(σ:L2.St)(H:Hp):Prop where
 st:bw κ α Z Ω H
 gr:cA Xj Z0 H0 α Z H
 len:σ.length=ρ.length
 val:∀(i:Nat) (d:D),ρ[i]?=some (some d)->∃v,σ[i]?=some (some v)/\aw α Z H d v
abbrev EM:=bh->aG->ay D
noncomputable def tO(κ:Str->b'->Prop)(d:hX)(a:List b')(e:b'->Prop)(f:Hp)(m:EM)(b:bh)(Ω:aG):TE:=λg H Q=>
 ∃c Z,cW κ a e f c Z Ω b g H/\bJ κ d c Z H (m b Ω) Q
def bc(X:Cx)(κ:Str->b'->Prop)(b:hX)(e:pd)(m:EM):Prop:=∀a c d f g,PE X e (tO κ b a c d m f g)
variable{W0:ay D}{r:hX}
theorem bJ.from(g:cA v q d J0 Q1 ο)(h:bJ i r v q d W0 η):bJ i r J0 Q1 ο W0 η:=by
 cases W0 with
 |ok b c=>exact λa e f j k=>h a e _ j (g.trans k)
 |exc x c=>exact λe f j k=>h e _ j (g.trans k)
 |bad=>exact h
variable{M6:D->aG->ay D}
theorem bJ.use{m:VK}(h:bJ i r v q d (W0.bind M6) η)(k:∀a c,W0=.ok a c->∀b f e l,cA v q d e l f->bw i e l c f->aw e l f a b->bJ i r e l f (M6 a c) η->m b f):bJ i r v q d W0 m:=by
 cases W0 with
 |ok a c=>exact λb f e l g s j=>k a _ rfl b f _ l g s j (bJ.from g h)
 |exc x c=>exact h
 |bad=>exact h
theorem bJ.ret(S:bw i v q a d)(b:aw v q d j x)(h:bJ i r v q d (.ok j a) η):η x d:=h x d v q (cA.refl S.has) S b
variable{H:aG}{u:bh}
theorem cW.grow(S:cW i Z8 ia d8 v q a u d0 d)(g:cA v q d J0 Q1 ο)(s:bw i J0 Q1 H ο):cW i Z8 ia d8 J0 Q1 H u d0 ο:=
 ⟨s,S.gr.trans g,S.len,λb c e=>bV (S.val b c e) λf h j=>⟨f,h,S.st.di g j⟩⟩
theorem aP(h:ku j=some x):aw v q d j x:=by
 cases j<;>first|cases h;simp only[aw]|exact bQ h
theorem wq(h:iw j=true):∃v,ku j=some v:=by
 cases j<;>first|exact⟨_,rfl⟩|cases h
theorem eg(h:ku j=some M1)(r:Rep q d j x):x=M1:=by
 cases j<;>first | (cases h;simpa only [Rep]using r)|exact bQ h
noncomputable def bI{α β:Type}(f:α->Option β):List α->Option (List β)
 |[]=>some []
 |x::a=>match f x,bI f a with
  |some y,some b=>some (y::b)
  |_,_=>none
def fA(Ω:aG):Nat->D->Option D
 |_,.non=>some .non
 |_,.bl b=>some (.bl b)
 |_,.int i=>some (.int i)
 |_,.str x=>some (.str x)
 |0,_=>none
 |n+1,.lst a=>(bI (fA Ω n) a).map .lst
 |n+1,.tup a=>(bI (fA Ω n) a).map .tup
 |n+1,.ref k=>match Ω[k]? with
  |some (.lst a)=>(bI (fA Ω n) a).map .lst
  |_=>none
 |_+1,.dct _ _=>none
def EC(α:List b')(Z:b'->Prop):b'->Prop:=λa=>Z a\/a∈α
theorem fJ{f:D->Option D}{R:D->V->Prop}{S:D->V->Prop}(e:∀d d' v,f d=some d'->R d v->S d' v):∀{c a:List D}{b:List V},bI f c=some a->aE R c b->aE S a b
 |[],a,b,h,r=>by cases h;rw[r.nil_inv];exact .nil
 |d::c,a,b,h,r=>by
  simp only[bI]at h;split at h
  .rename_i y k l g
   cases h;obtain⟨v,i,rfl,m,j⟩:=r.cons_inv;exact .cons (by grind) (fJ e g j)
  .exact bQ h
theorem iQ{Z:b'->Prop}{H:Hp}:∀{a:List D}{b:List V},aE (Rep Z H) a b->bg Z H a b
 |_,_,.nil=>.nil
 |_,_,.cons r t=>.cons r (iQ t)
theorem mQ(S:bw i v q a d):∀(n:Nat) {b d':D}{c:V},fA a n b=some d'->aw v q d b c->Rep (EC v q) d d' c:=by
 intro n
 induction n with
 |zero=>
  intro b d' c h r;cases b<;>first | (cases h;simpa only [Rep,aw]using r)|exact bQ h
 |succ n o=>
  intro b d' c h r;cases b with
  |lst u=>
   obtain⟨w,g,rfl⟩:=Å.mp h;obtain⟨e,j,rfl,p,s,l⟩:=r;exact⟨e,j,rfl,.inl p,s,iQ (fJ (S:=Rep _ d) (λb d' c f r=>o f r) g (cH.mp l))⟩
  |tup u=>
   obtain⟨w,g,rfl⟩:=Å.mp h;obtain⟨e,j,rfl,p,s,l⟩:=r;exact⟨e,j,rfl,.inl p,.inl s,iQ (fJ (S:=Rep _ d) (λb d' c f r=>o f r) g (cH.mp l))⟩
  |ref k=>
   simp only[fA]at h;split at h
   .rename_i u x
    obtain⟨w,g,rfl⟩:=Å.mp h;refine bV (S.cell x) λe y t=>bV t λj z l=>?_
    obtain⟨A,m,rfl⟩:=r;rw[y]at m;cases m;exact⟨e,j,rfl,.inr (by grind),.inl z,iQ (fJ (S:=Rep _ d) (λb d' c f r=>o f r) g l)⟩
   .exact bQ h
  |dct _ _=>exact bQ h
  |_=>cases h;simpa only [Rep,aw]using r
theorem eh(S:bw i v q a d):∀b,EC v q b->d b≠none:=λb h=>h.elim (S.dom b) (S.has b)
theorem bw.same(S:bw i v q a d)(h:nz d ο):bw i v q a ο/\cA v q d v q ο:=by
 have g:cA v q d v q ο:=⟨by simp,λ_ z=>z,by simp_all,λ_ z=>.inl z,λf o e _=>h f o e,λf m=>by
  cases j:d f with
  |none=>exact absurd j (S.has f m)
  |some o=>rw[h f o j];simp,λf o u e=>h f _ e⟩
 refine⟨⟨S.sh,S.zm.imp λc f n=>n.imp (λk l r=>S.di g r) (λo e=>h f o e) (λb o u e=>h b _ e) λb p e=>h b _ e,S.sep,λf z=>?_⟩,g⟩
 cases j:d f with
 |none=>exact absurd j (S.dom f z)
 |some o=>rw[h f o j];simp
theorem bw.adopt(S:bw i v q a d)(j:nz d ο)(p:d h=none)(l:∀R:D->V->Prop,(∀f g,aw v q ο f g->R f g)->hJ i R ο h C2):bw i (v++[h]) q (a++[C2]) ο/\cA v q d (v++[h]) q ο:=by
 obtain⟨s,m⟩:=S.same j;have t:∀c∈v,c≠h:=λc ha e=>S.has c ha (e▸p)
 have u:∀c,q c->c≠h:=λc o e=>S.dom c o (e▸p)
 have k:∀(n:Nat) (c:b'),v[n]?=some c->(v++[h])[n]?=some c:=λn c e=>by rwa[Û (by grind)]
 have mono:∀f g,aw v q ο f g->aw _ q ο f g:=λf g r=>r.mono k (λ_ _ _ e=>e) λ_ z=>z
 refine⟨⟨?_,?_,λc ha o=>?_,s.dom⟩,⟨k,λ_ z=>z,by simp_all,λc ha=>?_,m.frm,m.has,m.cZ⟩⟩
 .refine Ĕ.mpr ⟨S.sh,by simp,λc ha b w=>?_⟩
  simp_all
 .exact aE.append (s.zm.imp λC2 c l=>l.imp mono (λ_ e=>e) (by simp) (by simp)) (.one (l _ mono))
 .rcases Ô.mp ha with ha|ha
  .exact S.sep c ha o
  simp_all
 grind
noncomputable def gM(Ω:aG)(c:Cell):ay D:=.ok (.ref Ω.length) (Ω++[c])
def iA(Ω:aG):Out Rs->ay D
 |.ok (a,d)=>if iw d then .ok d Ω else match a,d with
  |true,.lst b=>if b.all iw then gM Ω (.lst b)else .bad
  |_,_=>.bad
 |_=>.bad
theorem fK(S:bw i v q a d)(p:b'):aw (v++[p]) q ο (.ref a.length) (.ref p):=⟨p,by rw[←S.len];simp,rfl⟩
theorem pP{α:List b'}{Z e:b'->Prop}{H f:Hp}:∀{a:List D}{b:List V},a.all iw=true->bg e f a b->aE (aw α Z H) a b
 |[],b,_,r=>by rw[r.nil_inv];exact .nil
 |d::a,b,h,r=>by
  obtain⟨v,g,rfl,i,j⟩:=r.cons_inv;simp only[ļ,Ç]at h;obtain⟨w,c⟩:=wq h.1;obtain rfl:=eg c i;exact .cons (aP c) (pP h.2 j)
theorem kD{j:Out Rs}(S:bw i v q a d)(h:bJ i r v q d (iA a j) η):∃l b,j=.ok (l,b)/\∀e k y m,gh y d m k->fv C l m d k b e->η e k:=by
 cases j with
 |ok f=>
  obtain⟨l,b⟩:=f;refine⟨_,b,rfl,λe k y m g f=>?_⟩
  simp only[iA]at h;split at h
  .rename_i z
   obtain⟨w,p⟩:=wq z
   have A:=by
    have n:=f.nw;cases b with
    |non=>exact eg (q:=m) (d:=k) p n
    |bl _=>exact eg (q:=m) (d:=k) p n
    |int _=>exact eg (q:=m) (d:=k) p n
    |str _=>exact eg (q:=m) (d:=k) p n
    |_=>cases z
   subst A;obtain⟨s,t⟩:=S.same g.same;exact h e k v q t s (aP p)
  .split at h
   .rename_i B D
    split at h
    .rename_i u
     refine k_ f λo E F G x H L I J=>?_;subst x
     cases G;obtain⟨s,t⟩:=S.adopt (C2:=.lst B) g.same H (λR K=>⟨E,I,(pP u J).imp K⟩)
     exact h _ k _ q t s (fK S o)
    .exact h.elim
   .exact h.elim
 |exc c M=>exact h.elim
 |bad=>exact h.elim
noncomputable def Tq:R2:=λx y H Q=>∃z n,x=.str z/\y=.int n/\MulOk z n/\Q (.str (Ŧ z n)) H
theorem ED:kg c (Ĝ .Mult) Tq:=by
 intro pins s f H x y u v Q I a b h;obtain⟨z,n,rfl,rfl,d,q⟩:=h;obtain⟨t,rfl⟩:=a;obtain⟨g,rfl⟩:=b;exact SB.mul d λe k=>⟨.str _,H,I.tok k,⟨e,rfl⟩,q⟩
noncomputable def pQ(x y:D)(Ω:aG):ay D:=match x,y with
 |.str z,.int n=>if decide (1<=n)&&decide (n<=1000)&&decide (z.length<=1000)then .ok (.str (Ŧ z n)) Ω else .bad
 |_,_=>.bad
theorem EE(S:bw i v q a d)(b:aw v q d j x)(c:aw v q d U M1)(g:bJ i r v q d (pQ j U a) η):Tq x M1 d η:=by
 unfold pQ at g;split at g
 .rename_i z n
  simp only[aw]at b c;subst b;subst c;split at g
  .rename_i f
   simp only[Ç,decide_eq_true_eq]at f;obtain⟨⟨k,l⟩,h⟩:=f;refine⟨z,n,rfl,rfl,⟨?_,λ_ _=>?_,λ_ _=>?_⟩,bJ.ret S (aP rfl) g⟩
   .rw[decide_eq_false (by omega),decide_eq_false (by omega)];rfl
   .have:=(Int.le_ediv_iff_mul_le (show 0<n by omega)).mpr (show(1000:Int)*n<=9223372036854775807 by omega)
    show ¬ ((z.length:Int)>(2 ^ 63 - 1) / n)
    have e:((2:Int) ^ 63 - 1)=9223372036854775807:=by decide
    rw[e];omega
   .have:z.length*n.toNat<=1000*1000:=Nat.mul_le_mul h (by omega)
    unfold aek;rw[þ];simp;omega
  .exact g.elim
 .exact g.elim
def m1(f:D->aG->ay D)(a:EM):EM:=λb c=>(a b c).bind f
def m2(f:D->D->aG->ay D)(d e:EM):EM:=λc g=>(d c g).bind λx a=>(e c a).bind λy b=>f x y b
noncomputable def jK(a b:ay D):ay D:=match a with
 |.bad=>b
 |r=>r
def IH(f g:D->aG->ay D):D->aG->ay D:=λx a=>jK (f x a) (g x a)
def jV(f g:D->D->aG->ay D):D->D->aG->ay D:=λx y a=>jK (f x y a) (g x y a)
def mx(f g:EM):EM:=λa b=>jK (f a b) (g a b)
def EF(f:D->Out Rs):D->aG->ay D:=λx a=>match fA a 8 x with
 |some b=>iA a (f b)
 |none=>.bad
def fj(f:D->D->Out Rs):D->D->aG->ay D:=λx y a=>match fA a 8 x,fA a 8 y with
 |some b,some c=>iA a (f b c)
 |_,_=>.bad
def kF(Ω:aG):D->Option Bool
 |.ref k=>match Ω[k]? with
  |some (.lst b)=>some (!b.isEmpty)
  |some (.dK a)=>some (!a.isEmpty)
  |_=>none
 |d=>mw d
def df:ay D->ay Bool
 |.ok d Ω=>match kF Ω d with
  |some b=>.ok b Ω
  |none=>.bad
 |.exc x Ω=>.exc x Ω
 |.bad=>.bad
def sj(κ:Str->b'->Prop)(f:hX)(α:List b')(Z:b'->Prop)(H:Hp)(r:ay Bool)(Q:Bool->Hp->Prop):Prop:=match r with
 |.ok b c=>∀d a e,cA α Z H a e d->bw κ a e c d->Q b d
 |.exc x c=>∀d a e,cA α Z H a e d->bw κ a e c d->f x c a e d
 |.bad=>False
def Ts(κ:Str->b'->Prop)(d:hX)(a:List b')(e:b'->Prop)(f:Hp)(m:EM)(b:bh)(Ω:aG):TT:=λg H Q=>∃c Z,cW κ a e f c Z Ω b g H/\sj κ d c Z H (df (m b Ω)) Q
def jL(X:Cx)(κ:Str->b'->Prop)(b:hX)(e:pd)(m:EM):Prop:=∀a c d f g,PT X e (Ts κ b a c d m f g)
abbrev AM:=bh->aG->ay (List D)
def pa(κ:Str->b'->Prop)(f:hX)(α:List b')(Z:b'->Prop)(H:Hp)(r:ay (List D))(Q:List V->Hp->Prop):Prop:=match r with
 |.ok g b=>∀e c a d,cA α Z H a d c->bw κ a d b c->aE (aw a d c) g e->Q e c
 |.exc x b=>∀c a d,cA α Z H a d c->bw κ a d b c->f x b a d c
 |.bad=>False
noncomputable def Yz(κ:Str->b'->Prop)(d:hX)(a:List b')(e:b'->Prop)(f:Hp)(m:AM)(b:bh)(Ω:aG):TA:=λg H Q=>∃c Z,cW κ a e f c Z Ω b g H/\pa κ d c Z H (m b Ω) Q
def nV(X:Cx)(κ:Str->b'->Prop)(b:hX)(c:List pd)(m:AM):Prop:=∀a d e f g,PA X c (Yz κ b a d e m f g)
noncomputable def ak:AM:=λ_ a=>.ok [] a
def ae(a:EM)(as:AM):AM:=λd e=>(a d e).bind λx b=>(as d b).bind λf c=>.ok (x::f) c
def mN(f:List D->aG->ay D)(as:AM):EM:=λa b=>(as a b).bind f
variable{C9:ay (List D)}{S8:List V->Hp->Prop}
theorem pa.from(g:cA v q d J0 Q1 ο)(h:pa i r v q d C9 S8):pa i r J0 Q1 ο C9 S8:=by
 cases C9 with
 |ok b c=>exact λa e f j k=>h a e _ j (g.trans k)
 |exc x c=>exact λe f j k=>h e _ j (g.trans k)
 |bad=>exact h
variable{B9:ay Bool}{l9:Bool->Hp->Prop}
theorem sj.from(g:cA v q d J0 Q1 ο)(h:sj i r v q d B9 l9):sj i r J0 Q1 ο B9 l9:=by
 cases B9 with
 |ok a b=>exact λc e f j=>h c _ f (g.trans j)
 |exc x b=>exact λc e f j=>h c _ f (g.trans j)
 |bad=>exact h
variable{G6:List D->aG->ay D}
theorem pa.use(h:bJ i r v q d (C9.bind G6) η)(k:∀m a,C9=.ok m a->∀n c b l,cA v q d b l c->bw i b l a c->aE (aw b l c) m n->bJ i r b l c (G6 m a) η->S8 n c):pa i r v q d C9 S8:=by
 cases C9 with
 |ok e a=>exact λf c b l g s j=>k e _ rfl f c _ l g s j (bJ.from g h)
 |exc x a=>exact h
 |bad=>exact h
theorem PE.or(h:PE c m υ)(h':PE c m B3):PE c m (λa H Q=>υ a H Q\/B3 a H Q):=λpins s a H Q I q=>q.elim (h _ s a H Q I) (h' _ s a H Q I)
theorem PT.or(h:PT c m W3)(h':PT c m R6):PT c m (λa H Q=>W3 a H Q\/R6 a H Q):=λpins s a H Q I q=>q.elim (h _ s a H Q I) (h' _ s a H Q I)
variable{A9:ay D}
theorem pR:jK W0 A9=W0\/(W0=.bad/\jK W0 A9=A9):=by cases W0<;>simp[jK]
variable{Z p:EM}
theorem bc.alt(h:bc c i r m p)(h':bc c i r m Z):bc c i r m (mx p Z):=by
 intro b f j d e;refine PE.imp (PE.or (h b f j d e) (h' b f j d e)) ?_;rintro l H Q ⟨k,a,S,g⟩;rcases pR (W0:=p d e)with q|⟨_,q⟩
 .exact .inl ⟨k,a,S,by rwa[←q]⟩
 .exact .inr ⟨k,a,S,by rwa[←q]⟩
theorem jL.alt(h:jL c i r m p)(h':jL c i r m Z):jL c i r m (mx p Z):=by
 intro b f j d e;refine PT.imp (PT.or (h b f j d e) (h' b f j d e)) ?_;rintro l H Q ⟨k,a,S,g⟩;rcases pR (W0:=p d e)with q|⟨_,q⟩
 .exact .inl ⟨k,a,S,by rwa[←q]⟩
 .exact .inr ⟨k,a,S,by rwa[←q]⟩
variable{B6:D->D->aG->ay D}
theorem nW{g:D->D->aG->ay D}:m2 (jV B6 g) p Z=mx (m2 B6 p Z) (m2 g p Z):=by
 funext b a
 simp only[m2,mx];cases p b a with
 |ok x c=>
  simp only[ay.bind];cases Z b _ with
  |ok y d=>rfl
  |exc x a=>rfl
  |bad=>rfl
 |exc x a=>rfl
 |bad=>rfl
theorem II{g:D->aG->ay D}:m1 (IH M6 g) p=mx (m1 M6 p) (m1 g p):=by
 funext b a
 simp only[m1,mx];cases p b a with
 |ok x c=>rfl
 |exc x a=>rfl
 |bad=>rfl
theorem kG{pS:V->Hp->VK->Prop}(h:∀b,PE c m b->PE c R λd H Q=>b d H λx f=>pS x f Q)(j:bc c i r m p)(o:∀e x α Z Ω H Q,bw i α Z Ω H->aw α Z H e x->bJ i r α Z H (M6 e Ω) Q->pS x H Q):bc c i r R (m1 M6 p):=by
 intro a k l n Ω;refine PE.imp (h _ (j a k l n Ω)) ?_;rintro d H Q ⟨α,Z,S,g⟩;refine⟨α,Z,S,g.use (by grind)⟩
variable{E4:R2}
theorem hY(h:∀o tb,PE c m o->PE c R tb->PE c G2 (Lk E4 o tb))(l:bc c i r m p)(n:bc c i r R Z)(C:∀s t x y α a Ω H Q,bw i α a Ω H->aw α a H s x->aw α a H t y->bJ i r α a H (B6 s t Ω) Q->E4 x y H Q):bc c i r G2 (m2 B6 p Z):=by
 intro b f j e Ω;rcases q:p e Ω with ⟨d,k⟩|⟨x,k⟩|_
 .refine PE.imp (h _ _ (l b f j e Ω) (n b f j e k)) ?_
  rintro u H Q ⟨α,a,S,g⟩;refine⟨α,a,S,bJ.use g λV z A v X D E F B G I=>?_⟩
  rw[q]at A;cases A;refine⟨_,E,S.grow F B,I.use λJ K _ w L M N O P T U=>C d J v w _ N _ L Q P (B.di O G) T U⟩
 .refine PE.imp (h _ _ (l b f j e Ω) (n b f j e Ω)) ?_
  rintro u H Q ⟨α,a,S,g⟩;refine⟨α,a,S,?_⟩;simp only[m2,q,ay.bind]at g ⊢;exact g
 .refine PE.imp (h _ _ (l b f j e Ω) (n b f j e Ω)) ?_
  rintro u H Q ⟨α,a,S,g⟩;simp only[m2,q,ay.bind]at g;exact g.elim
variable{Y9:D->Out Rs}
theorem AX(S:bw i v q a d)(m:aw v q d j x)(h:bJ i r v q d (EF Y9 j a) η):
  ∃b f d',Now (EC v q) d b x/\Y9 b=.ok (f,d')/\∀c g l,gh (EC v q) d l g->fv C f l d g d' c->η c g:=by
 unfold EF at h;split at h
 .rename_i b n
  refine cF (kD (C:=C) S h) λf d' e k=>⟨b,_,d',(mQ S 8 n m).now,e,by grind⟩
 .exact h.elim
variable{Z9:D->D->Out Rs}
theorem gN(S:bw i v q a d)(m:aw v q d j x)(n:aw v q d U M1)(h:bJ i r v q d (fj Z9 j U a) η):
  ∃b e f d',Now (EC v q) d b x/\Now (EC v q) d e M1/\Z9 b e=.ok (f,d')/\∀c g l,gh (EC v q) d l g->fv C f l d g d' c->η c g:=by
 unfold fj at h;split at h
 .rename_i b e o p
  refine cF (kD (C:=C) S h) λf d' s k=>⟨b,e,_,d',(mQ S 8 o m).now,(mQ S 8 p n).now,s,by grind⟩
 .exact h.elim
theorem gq(j:c.N[b]?=some e)(k:zj c.env.scope e)(a:(e==("__debug__":Str))=false)(f:(e==("__classdict__":Str))=false):bc c i r (.Name e n) (λh Ω=>match h[b]? with|some (some d)=>.ok d Ω|_=>.bad):=by
 intro l p q h Ω;refine PE.imp (qo j k a f) ?_;rintro s H Q ⟨t,Z,S,g⟩;dsimp only at g;split at g
 .rename_i d a
  obtain⟨v,m,o⟩:=S.val b d a;exact⟨v,m,bJ.ret S.st o g⟩
 .exact g.elim
theorem bZ(h:PE c m (tC x))(a:ku j=some x):bc c i r m (λ_ Ω=>.ok j Ω):=by
 intro b d e f Ω;refine PE.imp h ?_;rintro k H Q ⟨l,Z,S,g⟩;exact bJ.ret S.st (aP a) g
def IJ(d:D)(v:V):Prop:=ku d=some v\/d=.dct [] []
theorem AY(h:PE c m (tC x))(a:IJ j x):bc c i r m (λ_ Ω=>.ok j Ω):=by
 intro b d e f Ω;refine PE.imp h ?_;rintro k H Q ⟨l,Z,S,g⟩;refine bJ.ret S.st ?_ g;rcases a with a|rfl
 .exact aP a
 .simp only[aw]
noncomputable def eo(Ω:aG):D->Option (List D)
 |.ref k=>match Ω[k]? with
  |some (.lst a)=>some a
  |_=>none
 |.lst a=>some a
 |_=>none
theorem bX(S:bw i v q a d)(r:aw v q d j x)(h:eo a j=some o):∃b c,x=.ref b/\Rd d b (.lst c)/\aE (aw v q d) o c:=by
 cases j with
 |ref k=>
  simp only[eo]at h;split at h
  .rename_i m n
   cases h;obtain⟨b,p,rfl⟩:=r;refine bV (S.cell n) λs e f=>bV f λc g l=>?_
   rw[p]at e;cases e;exact⟨b,c,rfl,.inl g,l⟩
  .exact bQ h
 |lst t=>
  cases h;obtain⟨b,c,rfl,_,g,l⟩:=r;exact⟨b,c,rfl,g,cH.mp l⟩
 |_=>exact bQ h
theorem er(r:aw v q d (.tup o) x):∃a b,x=.ref a/\q a/\d a=some (.tup b)/\aE (aw v q d) o b:=by
 refine bS r λa b e c f g=>⟨a,b,e,c,f,cH.mp g⟩
theorem iR(S:bw i v q a d)(b:aE (aw v q d) o O)(k:bJ i r v q d (gM a (.lst o)) η):∀p,d p=none->η (.ref p) (upd d p (.lst O)):=λp e=>by
 obtain⟨f,g⟩:=S.laid (c:=.lst o) e λR h=>⟨O,aR,b.imp h⟩
 exact k _ _ _ q g f (fK S p)
theorem tx(S:bw i v q a d)(b:aE (aw v q d) o O)(k:bJ i r v q d (.ok (.tup o) a) η):∀p,d p=none->η (.ref p) (upd d p (.tup O)):=λp e=>by
 obtain⟨f,c⟩:=S.tw e True;refine k _ _ _ _ c f ⟨p,O,rfl,.inr rfl,aR,cH.mpr (S.lZ c b)⟩
theorem cS:nV c i r [] ak:=by
 intro a d e f h;refine PA.imp qy ?_;rintro j H Q ⟨b,Z,S,g⟩;exact g [] H b Z (cA.refl S.st.has) S.st .nil
variable{Θ:AM}
theorem bo(l:bc c i r m p)(n:nV c i r L Θ)(o:x' (m::L) c.env=(false,eval m c.env)::x' L c.env):nV c i r (m::L) (ae p Θ):=by
 intro a e f b h;rcases q:p b h with ⟨d,j⟩|⟨x,j⟩|_
 .refine PA.imp (gj (l a e f b h) (n a e f b j) o) ?_
  rintro u H Q ⟨k,Z,S,g⟩;refine⟨k,Z,S,?_⟩;simp only[ae,q,ay.bind]at g ⊢;intro v G A B w y C;refine⟨_,B,S.grow w y,?_⟩;have g:=pa.from w g
  rcases s:Θ b _ with ⟨I,t⟩|⟨x,t⟩|_
  .rw[s]at g
   intro J K D M z E F;exact g _ _ _ _ z E (.cons (y.di z C) F)
  .rwa[s]at g
  .rwa[s]at g
 .refine PA.imp (gj (l a e f b h) (n a e f b h) o) ?_
  rintro u H Q ⟨k,Z,S,g⟩;refine⟨k,Z,S,?_⟩;simp only[ae,q,ay.bind]at g ⊢;exact g
 .refine PA.imp (gj (l a e f b h) (n a e f b h) o) ?_
  rintro u H Q ⟨k,Z,S,g⟩;simp only[ae,q,ay.bind]at g;exact g.elim
def bt(a:List D)(Ω:aG):ay D:=if small a.length then gM Ω (.lst a)else .bad
def hZ(a:List D)(Ω:aG):ay D:=if small a.length then .ok (.tup a) Ω else .bad
theorem kH(h:nV c i r L Θ):bc c i r (.List L n) (mN bt Θ):=by
 intro b e f j k;refine PE.imp (Ib (h b e f j k)) ?_;rintro s H Q ⟨l,Z,S,g⟩;refine⟨l,Z,S,pa.use g λt m _ u w o x y p d a=>?_⟩
 unfold bt at a;split at a
 .rename_i q
  exact⟨by rw[d.length];exact bE q,iR p d a⟩
 .exact a.elim
theorem kI{x1}(h:nV c i r L Θ):bc c i r (.Tuple L x1 n) (mN hZ Θ):=by
 intro b e f j k;refine PE.imp (Ia (h b e f j k)) ?_;rintro s H Q ⟨l,Z,S,g⟩;refine⟨l,Z,S,pa.use g λt m _ u w o x y p d a=>?_⟩
 unfold hZ at a;split at a
 .rename_i q
  exact⟨by rw[d.length];exact bE q,tx p d a⟩
 .exact a.elim
def yv(x y:D)(Ω:aG):ay D:=match eo Ω x,eo Ω y with
 |some a,some b=>if small (a.length+b.length)then gM Ω (.lst (a++b))else .bad
 |_,_=>.bad
def aY(op:ě):D->D->aG->ay D:=match op with
 |.Add=>jV yv (fj (fE .Add))
 |.Mult=>jV (fj (fE .Mult)) pQ
 |op=>fj (fE op)
theorem wt(q:bc c i r m p)(s:bc c i r R Z):bc c i r (.BinOp m F9 R n) (m2 (aY F9) p Z):=by
 have E:bc c i r (.BinOp m F9 R n) (m2 (fj (fE F9)) p Z):=hY (E4:=Ei F9) (λt tb f h=>zB (Ao F9) f h) q s λu w x y z a A H Q S j o g=>by
  obtain⟨d,e,F,U,G,I,J,k⟩:=gN (C:=false) S j o g;exact Ir (C:=false) G I (eh S) J k
 have C:F9=.Add->bc c i r (.BinOp m F9 R n) (m2 yv p Z):=λe=>by
  subst e;refine hY (E4:=Ei .Add) (λt tb f h=>zB (Ao .Add) f h) q s λu w x y z a A H Q S j o g=>?_
  unfold yv at g;split at g
  .rename_i V X K L
   obtain⟨l,M,rfl,N,B⟩:=bX S j K;obtain⟨b,O,rfl,P,D⟩:=bX S o L;split at g
   .rename_i T
    exact .inr (.inr ⟨l,b,M,O,rfl,rfl,N,P,by rw[B.length,D.length];exact bE T,iR S (B.append D) g⟩)
   .exact g.elim
  .exact g.elim
 cases F9 with
 |Add=>show bc c i r _ (m2 (jV yv (fj (fE .Add))) p Z);rw[nW];exact(C rfl).alt E
 |Mult=>
  show bc c i r _ (m2 (jV (fj (fE .Mult)) pQ) p Z)
  rw[nW];exact E.alt (hY (E4:=Tq) (λt tb f h=>zB ED f h) q s λu w x y z a A H Q S j o g=>EE S j o g)
 |_=>exact E
noncomputable def Xk:R2:=λx y H Q=>∃p q a b c d,x=.ref p/\y=.ref q/\Rd H p (.tup [.str a,.ref c])/\Rd H q (.tup [.str b,.ref d])/\Rd H c (.dK [])/\Rd H d (.dK [])/\Q (.bl (a==b)) H
theorem wu{P P':X'}{w g:O'}[DecidableEq N1][DecidableEq v8]{knd:KeyKind P w N1}{a:KeyKind P' g v8}(d:z.DictOf knd h []):z.DictOf a h []:=by
 obtain⟨o,b,i,j,k,m,n,c,p⟩:=d
 have e:b.toList=[]:=by
  generalize b.toList=l at c;cases c;rfl
 refine⟨o,b,i,j,k,m,?_,?_,.nil⟩
 .intro x f;rw[←Array.mem_toList_iff,e]at f;cases f
 .rw[e];exact .nil
theorem AZ(a:Inv c E d0 d s)(g:X.units<ZU)(i:Rd d h (.dK []))(j:Rd d I (.dK [])):ē X s (.ref h) (.ref I) true:=by
 obtain⟨_,k,u,l,m⟩:=iN a.hok i;obtain⟨_,n,w,o,p⟩:=iN a.hok j;cases l;cases o
 by_cases e:h=I
 .subst e;exact acb _
 .intro prog q b Q t
  unfold eqBool;refine ā (aaw (λf=>absurd (eq_of_beq f) λz=>e (by injection z)) λ_=>?_)
  refine p' (PySem.W.keq_eq (knd:=strKind prog q) (ka:=[]) (kb:=[]) (r:=true) k n (wu m) (wu p) g (λ_=>.nil) ?_)
  exact č t
theorem MP(L:c.A.units+64<ZU):kg c (Ë .Eq) Xk:=by
 intro pins s M H x y u v Q I i l h;obtain⟨p,q,a,b,m,n,rfl,rfl,o,r,t,w,k⟩:=h;cases (show u=À p from i)
 cases (show v=À q from l)
 obtain⟨z,f,B,_⟩:=I.tuple (uv o);obtain⟨g,d,C,_⟩:=I.tuple (uv r);cases f with
 |@cons _ u1 _ _ D f=>
 cases f with
 |@cons _ u2 _ _ E f=>
 cases f;cases d with
 |@cons _ u3 _ _ F d=>
 cases d with
 |@cons _ u4 _ _ G d=>
 cases d;obtain⟨J,rfl⟩:=D;obtain⟨tb,rfl⟩:=F;cases (show u2=À m from E)
 cases (show u4=À n from G)
 have:=acd (A:=c.A) (s:=s) B C (by omega) (e:=λj=>if j=0 then a==b else true) (λj K N=>by
  match j,K with
  |0,_=>exact gH (q:=λ_=>True) I 1 _ (.str a) (.str b) _ _ (by show c.A.units+1+1<ZU;omega) rfl rfl (.str a J) (.str b tb)
  |1,_=>exact AZ I (by show c.A.units+1<ZU;omega) t w)
 refine this _ _ _ _ ⟨.bl (a==b),H,I,?_,k⟩
 show Ϡ _=.bool _
 cases a==b<;>rfl
noncomputable def cI{κ β:Type}[DecidableEq κ](kvs:List (κ×β))(k:κ):Option β:=(kvs.find? λa=>decide (a.1=k)).map (·.2)
noncomputable def eO{κ β:Type}[DecidableEq κ](kvs:List (κ×β))(k:κ)(v:β):List (κ×β):=
 if (kvs.any λa=>decide (a.1=k))=true then kvs.map (λa=>if a.1=k then (a.1,v)else a)else kvs++[(k,v)]
section
variable{κ:Type}[DecidableEq κ]{R:D->V->Prop}
theorem jE.val{kvs:List (κ×D)}{a:List (κ×V)}(h:jE R kvs a)(k:κ):(∀d,cI kvs k=some d->∃v,kn a k=some v/\R d v)/\(cI kvs k=none->kn a k=none):=by
 induction h with
 |nil=>exact⟨λd e=>(by cases e),λ_=>rfl⟩
 |@cons p q b g r t i=>
  obtain⟨c,j⟩:=r
  by_cases e:p.1=k
  .have f:cI (p::b) k=some p.2:=by simp[cI,ď,e]
   rw[ko (c▸e)]
   simp_all
  .have f:cI (p::b) k=cI b k:=by simp[cI,ď,e]
   rwa[f,kq (λz=>e (c.trans z))]
theorem jE.any{kvs:List (κ×D)}{a:List (κ×V)}(h:jE R kvs a)(k:κ):(a.any λb=>decide (b.1=k))=kvs.any λb=>decide (b.1=k):=by
 induction h with
 |nil=>rfl
 |@cons p q c d r t e=>simp_all
theorem jE.put{kvs:List (κ×D)}{a:List (κ×V)}(h:jE R kvs a)(k:κ)(r:R j x):jE R (eO kvs k j) (putK a k x):=by
 unfold eO putK;rw[h.any];split
 .rename_i b
  clear b
  induction h with
  |nil=>exact .nil
  |@cons p q d f g t c=>
   refine .cons ?_ c
   by_cases e:p.1=k
   .simp_all
   simp_all
 .exact aE.append h (.one ⟨rfl,r⟩)
theorem jE.length{kvs:List (κ×D)}{a:List (κ×V)}(h:jE R kvs a):a.length=kvs.length:=aE.length h
end
noncomputable def rf:D->Option Key
 |.int i=>some (.inl i)
 |.str x=>some (.inr x)
 |_=>none
def A_:D->Option (List Key)
 |.tup a=>bI rf a
 |_=>none
variable{Z7:Key}
theorem iS(h:rf j=some Z7)(r:aw v q d j x):x=kV Z7:=by
 cases j with
 |int i=>cases h;exact r
 |str i=>cases h;exact r
 |_=>exact bQ h
theorem tA{α:List b'}{Z:b'->Prop}{H:Hp}:∀{b:List D}{ks:List Key}{a:List V},bI rf b=some ks->aE (aw α Z H) b a->a=ks.map kV
 |[],ks,a,h,r=>by cases h;rw[r.nil_inv];rfl
 |d::b,ks,a,h,r=>by
  simp only[bI]at h;split at h
  .rename_i y j c e
   cases h;obtain⟨v,f,rfl,g,i⟩:=r.cons_inv;rw[iS c g,tA e i];rfl
  .exact bQ h
variable{W8:List Key}
theorem pT(h:A_ j=some W8)(r:aw v q d j x):∃b,x=.ref b/\d b=some (.tup (W8.map kV)):=by
 cases j with
 |tup e=>
  obtain⟨b,f,rfl,_,a,c⟩:=er r;rw[tA h c]at a;exact⟨b,rfl,a⟩
 |_=>exact bQ h
def yw(Ω:aG)(x y:D):Option (Option D):=match x with
 |.ref k=>match Ω[k]? with
  |some (.dK a)=>(rf y).map (cI a)
  |some (.dT a)=>(A_ y).map (cI a)
  |some (.dF a)=>(rf y).map (cI a)
  |_=>none
 |_=>none
variable{C1:Option D}
theorem tB(S:bw i v q a d)(B:aw v q d j x)(y:aw v q d U M1)(h:yw a j U=some C1):∃c z,x=.ref c/\ll d c M1 z/\(∀f,C1=some f->∃u,z=some u/\aw v q d f u)/\(C1=none->z=none):=by
 cases j with
 |ref k=>
  simp only[yw]at h;simp only[aw]at B;obtain⟨c,A,rfl⟩:=B;split at h
  .rename_i m n
   obtain⟨l,o,rfl⟩:=Å.mp h;obtain⟨C,e,g,p,r⟩:=S.cell n;rw[A]at e;cases e
   obtain rfl:=iS o y;obtain⟨s,w⟩:=r.val l;exact⟨c,_,rfl,ll.k p,s,w⟩
  .rename_i m n
   obtain⟨l,o,rfl⟩:=Å.mp h;obtain⟨C,e,g,p,r⟩:=S.cell n;rw[A]at e;cases e
   obtain⟨b,rfl,D⟩:=pT o y;obtain⟨s,w⟩:=r.val l;exact⟨c,_,rfl,ll.t p D,s,w⟩
  .rename_i m n
   obtain⟨l,o,rfl⟩:=Å.mp h;obtain⟨C,e,E,g,p,r⟩:=S.cell n;rw[A]at e;cases e
   obtain rfl:=iS o y;obtain⟨s,w⟩:=r.val l;exact⟨c,_,rfl,.inl ⟨g,l,.inr ⟨E,p⟩,rfl,rfl⟩,s,w⟩
  .exact bQ h
 |_=>exact bQ h
noncomputable def tD(Ω:aG)(x:D):Option (List (Key×D)):=match x with
 |.ref k=>(match Ω[k]? with
  |some (.dK a)=>some a
  |some (.dF a)=>some a
  |_=>none)
 |_=>none
variable{ς:List (Key×D)}
theorem kJ(S:bw i v q a d)(r:aw v q d j x)(h:tD a j=some ς):∃b c,x=.ref b/\Rd d b (.dK c)/\jE (aw v q d) ς c:=by
 unfold tD at h;split at h
 .obtain⟨b,m,rfl⟩:=r
  split at h
  .rename_i f g
   cases h;obtain⟨n,e,c,k,l⟩:=S.cell g;rw[m]at e;cases e
   exact⟨b,_,rfl,.inl k,l⟩
  .rename_i f g
   cases h;obtain⟨n,e,o,c,k,l⟩:=S.cell g;rw[m]at e;cases e
   exact⟨b,_,rfl,.inr ⟨o,k⟩,l⟩
  .exact bQ h
 .exact bQ h
def dZ(a:Ú):D->D->aG->ay D:=fj λx y=>do let r ←fh a x y;Out.ok (false,D.bl r)
def pb(a:Bool)(y x:D)(Ω:aG):ay D:=match yw Ω x y with
 |some o=>.ok (.bl (if a then !o.isSome else o.isSome)) Ω
 |none=>.bad
noncomputable def lx(a:Bool)(x y:D)(Ω:aG):ay D:=match x,y with
 |.ref _,.non=>.ok (.bl a) Ω
 |_,_=>.bad
def Lo(Ω:aG)(x:D):Option Str:=match x with
 |.tup [.str a,d]=>(match tD Ω d with
  |some []=>some a
  |_=>none)
 |_=>none
def vc(x y:D)(Ω:aG):ay D:=match Lo Ω x,Lo Ω y with
 |some a,some b=>.ok (.bl (a==b)) Ω
 |_,_=>.bad
theorem wx(S:bw i v q a d)(r:aw v q d j x)(h:Lo a j=some e):∃p c,x=.ref p/\Rd d p (.tup [.str e,.ref c])/\Rd d c (.dK []):=by
 unfold Lo at h;split at h
 .split at h
  .rename_i f
   cases h;obtain⟨p,t,rfl,_,g,k⟩:=er r;obtain⟨x,_,rfl,b,l⟩:=k.cons_inv;obtain⟨w,_,rfl,m,n⟩:=l.cons_inv;cases n.nil_inv;obtain⟨c,u,rfl,o,s⟩:=kJ S m f;cases s;simp only[aw]at b;subst b;exact⟨p,c,rfl,.inl g,o⟩
  .exact bQ h
 .exact bQ h
theorem IK(S:bw i v q a d)(f:aw v q d j x)(h:aw v q d U M1)(g:bJ i r v q d (vc j U a) η):Xk x M1 d η:=by
 unfold vc at g;split at g
 .rename_i k l
  obtain⟨p,c,rfl,m,n⟩:=wx S f k;obtain⟨b,e,rfl,o,s⟩:=wx S h l;exact⟨p,b,_,_,c,e,rfl,rfl,m,o,n,s,bJ.ret S (aP rfl) g⟩
 .exact g.elim
theorem EG:∀x y Ω d az,vc x y Ω=.ok d az->∃t,d=.bl t:=λx y Ω d az h=>by
 unfold vc at h;split at h
 .cases h;exact⟨_,rfl⟩
 .cases h
def aA(op:Ú):D->D->aG->ay D:=match op with
 |.Eq=>jV (dZ .Eq) vc
 |.In=>jV (dZ .In) (pb false)
 |.NotIn=>jV (dZ .NotIn) (pb true)
 |.Is=>jV (lx false) (dZ .Is)
 |.IsNot=>jV (lx true) (dZ .IsNot)
 |op=>dZ op
variable{D6:Option V}
theorem vd(a:∀d,C1=some d->∃u,D6=some u/\Q5 d u)(b:C1=none->D6=none):D6.isSome=C1.isSome:=by
 cases C1 with
 |none=>simp_all
 |some d=>grind
theorem EH(h:∀C tb,PE c m C->PE c R tb->PT c G2 (zC (Lk E4 C tb)))(n:bc c i r m p)(o:bc c i r R Z)(s:∀x y Ω d az,B6 x y Ω=.ok d az->∃t,d=.bl t)(L:∀D E x y α a Ω H Q,bw i α a Ω H->aw α a H D x->aw α a H E y->bJ i r α a H (B6 D E Ω) Q->E4 x y H Q):jL c i r G2 (m2 B6 p Z):=by
 intro b f j e Ω;rcases q:p e Ω with ⟨d,k⟩|⟨x,k⟩|_
 .refine PT.imp (h _ _ (n b f j e Ω) (o b f j e k)) ?_
  rintro F H Q ⟨α,a,S,g⟩;refine⟨α,a,S,?_⟩;simp only[m2,q,ay.bind]at g ⊢;intro v H1 M N G I O;refine⟨_,N,S.grow G I,?_⟩;have g:=sj.from G g
  rcases z:Z e _ with ⟨J,A⟩|⟨x,A⟩|_
  .rw[z]at g
   intro w P T U K V X;refine L d J v w _ U _ P _ V (I.di K O) X ?_;have g:=sj.from K g
   dsimp only[ay.bind]at g;rcases l:B6 d J _ with ⟨d3,B⟩|⟨x,B⟩|_
   .rw[l]at g
    obtain⟨t,rfl⟩:=s _ _ _ _ _ l;intro u Y a0 Z3 g3 s3 r3;exact⟨t,r3,g Y _ Z3 g3 s3⟩
   .rwa[l]at g
   .rwa[l]at g
  .rwa[z]at g
  .rwa[z]at g
 .refine PT.imp (h _ _ (n b f j e Ω) (o b f j e Ω)) ?_
  rintro F H Q ⟨α,a,S,g⟩;refine⟨α,a,S,?_⟩;simp only[m2,q,ay.bind,df]at g ⊢;exact g
 .refine PT.imp (h _ _ (n b f j e Ω) (o b f j e Ω)) ?_
  rintro F H Q ⟨α,a,S,g⟩;simp only[m2,q,ay.bind,df]at g;exact g.elim
noncomputable def IL(b:Bool):R2:=λy x H Q=>∃a o,x=.ref a/\ll H a y o/\Q (.bl (if b then !o.isSome else o.isSome)) H
theorem IP(b:c.A.units+1<ZU):kg c (Ë .In) (IL false):=by
 intro pins s i H x y u v Q I d e h;obtain⟨a,o,rfl,g,q⟩:=h;obtain rfl:v=À a:=e;exact SD b I g d λj f=>⟨.bl _,H,f,rfl,q⟩
theorem yx(b:c.A.units+1<ZU):kg c (Ë .NotIn) (IL true):=by
 intro pins s i H x y u v Q I d e h;obtain⟨a,o,rfl,g,q⟩:=h;obtain rfl:v=À a:=e;exact DM b I g d λj f=>⟨.bl _,H,f,rfl,q⟩
theorem vf(S:bw i v q a d)(c:aw v q d j x)(f:aw v q d U M1)(g:bJ i r v q d (dZ M2 j U a) η):Ar M2 x M1 d η:=by
 obtain⟨b,e,h,o,l,m,n,k⟩:=gN S c f g;exact Iu (C:=false) l m (eh S) n k
theorem Ba(S:bw i v q a d)(c:aw v q d j x)(e:aw v q d U M1)(g:bJ i r v q d (pb C j U a) η):IL C x M1 d η:=by
 unfold pb at g;split at g
 .rename_i o f
  obtain⟨b,h,rfl,k,l,m⟩:=tB S e c f;refine⟨b,h,rfl,k,?_⟩;rw[vd l m];exact bJ.ret S (aP rfl) g
 .exact g.elim
theorem Bb(b:M2=if C then .IsNot else .Is)(S:bw i v q a d)(c:aw v q d j x)(e:aw v q d U M1)(g:bJ i r v q d (lx C j U a) η):
  (if C then (M1=.non/\η (.bl (!decide (x=.non))) d)else (M1=.non/\η (.bl (decide (x=.non))) d)):=by
 unfold lx at g;split at g
 .simp only[aw]at c e
  have:=bJ.ret S (aP rfl) g
  grind
 .exact g.elim
theorem rg:∀x y Ω d az,dZ M2 x y Ω=.ok d az->∃t,d=.bl t:=λx y Ω d az h=>by
 unfold dZ fj at h;split at h
 .rename_i a b _ _
  dsimp only at h;cases q:fh M2 a b with
  |ok t=>
   have e:(do let r ←fh M2 a b;Out.ok (false,D.bl r))=Out.ok (false,D.bl t):=by rw[q];rfl
   rw[e]at h;cases h;simp
  |exc c f=>
   have e:(do let r ←fh M2 a b;Out.ok (false,D.bl r))=Out.exc c f:=by rw[q];rfl
   rw[e]at h;cases h
  |bad=>
   have e:(do let r ←fh M2 a b;Out.ok (false,D.bl r))=Out.bad:=by rw[q];rfl
   rw[e]at h;cases h
 .cases h
theorem wy:∀x y Ω d az,pb C x y Ω=.ok d az->∃t,d=.bl t:=λx y Ω d az h=>by
 unfold pb at h
 grind
theorem wz:∀x y Ω d az,lx C x y Ω=.ok d az->∃t,d=.bl t:=λx y Ω d az h=>by
 unfold lx at h
 grind
theorem jo(b:kg c (Ë M2) E4)(h:Ō M2 R=false)(j:bc c i r m p)(k:bc c i r R Z)(e:∀x y Ω d az,B6 x y Ω=.ok d az->∃t,d=.bl t)(l:∀o q x y α a Ω H Q,bw i α a Ω H->aw α a H o x->aw α a H q y->bJ i r α a H (B6 o q Ω) Q->E4 x y H Q):bc c i r (.Compare m [M2] [R] n) (m2 B6 p Z)/\jL c i r (.Compare m [M2] [R] n) (m2 B6 p Z):=
 ⟨hY (λs tb f g=>DD b f g h) j k l,EH (λs tb f g=>DE b f g h) j k e l⟩
theorem h9(w:c.A.units+64<ZU)(j:Ō M2 R=false)(k:bc c i r m p)(l:bc c i r R Z):bc c i r (.Compare m [M2] [R] n) (m2 (aA M2) p Z)/\jL c i r (.Compare m [M2] [R] n) (m2 (aA M2) p Z):=by
 have V:=jo (n:=n) (nR w M2) j k l rg λo q x y s a t H Q S b d g=>vf S b d g
 have e:∀{f g:D->D->aG->ay D},bc c i r (.Compare m [M2] [R] n) (m2 f p Z)/\jL c i r (.Compare m [M2] [R] n) (m2 f p Z)->bc c i r (.Compare m [M2] [R] n) (m2 g p Z)/\jL c i r (.Compare m [M2] [R] n) (m2 g p Z)->bc c i r (.Compare m [M2] [R] n) (m2 (jV f g) p Z)/\jL c i r (.Compare m [M2] [R] n) (m2 (jV f g) p Z):=λh z=>by
  rw[nW];exact⟨h.1.alt z.1,h.2.alt z.2⟩
 have u:c.A.units+1<ZU:=by omega
 cases M2 with
 |Eq=>exact e V (jo (MP w) j k l EG λo q x y s a t H Q S b d g=>IK S b d g)
 |In=>exact e V (jo (IP u) j k l wy λo q x y s a t H Q S b d g=>Ba S b d g)
 |NotIn=>exact e V (jo (yx u) j k l wy λo q x y s a t H Q S b d g=>Ba S b d g)
 |Is=>exact e (jo HY j k l wz λo q x y s a t H Q S b d g=>Bb (C:=false) (M2:=.Is) rfl S b d g) V
 |IsNot=>exact e (jo DC j k l wz λo q x y s a t H Q S b d g=>Bb (C:=true) (M2:=.IsNot) rfl S b d g) V
 |_=>exact V
def iC(Ω:aG)(x:D):Option (List D):=match x with
 |.tup a=>some a
 |x=>eo Ω x
def IQ(x y:D)(Ω:aG):ay D:=match iC Ω x,y with
 |some a,.int i=>match L2.mu a i with
  |some d=>.ok d Ω
  |none=>.bad
 |_,_=>.bad
def IS(x y:D)(Ω:aG):ay D:=match yw Ω x y with
 |some (some d)=>.ok d Ω
 |_=>.bad
def aQ:D->D->aG->ay D:=jV IQ (jV IS (fj uT))
theorem nX(S:bw i v q a d)(r:aw v q d j x)(h:iC a j=some o):∃b c,x=.ref b/\(mI A d b c\/uA A d b c)/\aE (aw v q d) o c:=by
 unfold iC at h;split at h
 .cases h
  obtain⟨b,c,rfl,_,e,f⟩:=er r;exact⟨b,c,rfl,.inr (uv (.inl e)),f⟩
 .obtain⟨b,c,rfl,e,f⟩:=bX S r h
  exact⟨b,c,rfl,.inl (mO e),f⟩
theorem EI(r:aE Q5 o O)(h:L2.mu o T=some j):∃v,L2.mu O T=some v/\Q5 j v:=by
 unfold L2.mu at h ⊢;rw[r.length];cases q:L2.zK _ T with
 |none=>simp_all
 |some n=>rw[q]at h;exact r.get h
theorem mS(M:c.A.units+1<ZU)(q:vL R)(s:bc c i r m p)(t:bc c i r R Z):bc c i r (.Subscript m R n) (m2 aQ p Z):=by
 unfold aQ;rw[nW,nW];refine bc.alt ?_ (bc.alt ?_ ?_)
 .refine hY (λD tb h j=>GR zL h j q) s t λE F x y G a I H Q S l o g=>?_
  unfold IQ at g;split at g
  .rename_i U b w
   obtain⟨f,J,rfl,h2,z⟩:=nX S l w;subst o;split at g
   .rename_i d B
    obtain⟨v,K,L⟩:=EI z B;rcases h2 with h2|h2
    .exact .inl ⟨f,J,b,v,rfl,rfl,h2,K,bJ.ret S L g⟩
    .exact .inr (.inl ⟨f,J,b,v,rfl,rfl,h2,K,bJ.ret S L g⟩)
   .exact g.elim
  .exact g.elim
 .refine hY (λD tb h j=>DO M h j q) s t λE F x y G a I H Q S l o g=>?_
  unfold IS at g;split at g
  .rename_i d B
   obtain⟨m,V,rfl,w,h2,_⟩:=tB S l o B;obtain⟨u,rfl,z⟩:=h2 d rfl;exact⟨m,u,rfl,w,bJ.ret S z g⟩
  .exact g.elim
 .refine hY (λD tb h j=>GR zL h j q) s t λE F x y G a I H Q S l o g=>?_
  obtain⟨d,e,N,X,O,P,T,k⟩:=gN S l o g;exact Iw (C:=false) O P (eh S) T k
def jM(n:Bool)(m:EM):bh->aG->ay (Option Int):=λc b=>if n=true then .ok none b else (m c b).bind λd a=>match d with
 |.int i=>.ok (some i) a
 |_=>.bad
def nY(x:D)(a b:Option Int)(Ω:aG):ay D:=match x,eo Ω x with
 |_,some c=>gM Ω (.lst (ed c a b))
 |.str z,none=>iA Ω (Al (.str z) a b)
 |_,_=>.bad
def dj(e:EM)(f:Bool)(g:EM)(i:Bool)(j:EM):EM:=λa k=>(e a k).bind λx b=>(jM f g a b).bind λl c=>(jM i j a c).bind λh d=>nY x l h d
def Ql(X:Cx)(κ:Str->b'->Prop)(a:hX)(o:Option pd)(n:Bool)(m:EM):Prop:=(o=none/\n=true)\/∃e,o=some e/\n=false/\bc X κ a e m
variable{M7:Option pd}
theorem fc(h:Ql c i r M7 C p)(o:List b')(u:b'->Prop)(w:Hp)(n:bh)(Ω:aG):∃t,PO c M7 t/\∀m H α Z Q,cW i o u w α Z Ω n m H ->
  (match jM C p n Ω with
   |.ok l a=>∀f b j,cA α Z H b j f->bw i b j a f->Q l f
   |.exc x a=>∀f b j,cA α Z H b j f->bw i b j a f->r x a b j f
   |.bad=>False)->t m H Q:=by
 rcases h with ⟨rfl,rfl⟩|⟨e,rfl,rfl,y⟩
 .refine⟨_,by
   intro pins s m H Q I h;exact U' ⟨_,H,I,.none,h⟩,λm H α Z Q S k=>k H α Z (cA.refl S.st.has) S.st⟩
 .refine⟨_,DI (y _ u w n Ω),λm H α Z Q S k=>⟨α,Z,S,?_⟩⟩
  simp only[jM,aav,if_false]at k;rcases q:p n Ω with ⟨d,a⟩|⟨x,a⟩|_
  .rw[q]at k
   intro v z A B D E F;cases d with
   |int g=>exact⟨g,F,k z _ B D E⟩
   |_=>exact k.elim
  .rwa[q]at k
  .rwa[q]at k
variable{P4:EM}
theorem EJ{hi:Option pd}(E:bc c i r m p)(V:Ql c i r M7 C Z)(F:Ql c i r hi P1 P4):bc c i r (.Subscript m (.Slice M7 hi none J) n) (dj p C Z P1 P4):=by
 intro b f j e s;rcases q:p e s with ⟨d,o⟩|⟨x,o⟩|_
 .refine bV (fc V b f j e o) λtl u N=>?_
  rcases G:jM C Z e o with ⟨l,w⟩|⟨x,w⟩|_
  .obtain⟨O,t,I⟩:=fc F b f j e w
   refine PE.imp (iL (r:=Mv c.K) (km.or nU) (E b f j e s) u t) ?_;rintro y H Q ⟨z,a,S,g⟩;refine⟨z,a,S,?_⟩;simp only[dj,q,G,ay.bind]at g ⊢;intro v X A Y L P r1;have g:=bJ.from L g
   have S1:=S.grow L P;refine N y X A Y _ S1 ?_;rw[G];intro H2 B Z2 M R;have g:=bJ.from M g
   refine I y H2 B Z2 _ (S1.grow M R) ?_;rcases q3:jM P1 P4 e w with ⟨h,a0⟩|⟨x,a0⟩|_
   .rw[q3]at g
    intro H3 b0 Z3 g3 T;have g:=bJ.from g3 g
    have r3:=R.di g3 (P.di M r1);dsimp only[ay.bind]at g;unfold nY at g;split at g
    .rename_i ds hd
     obtain⟨D,vs,rfl,h1,h2⟩:=bX T r3 hd
     exact .inl ⟨D,vs,rfl,mO h1,iR T (by
       unfold ed DJ;rw[h2.length];exact(h2.drop _).take _) g⟩
    ·
     subst r3;refine cF (kD (C:=false) T g) λc0 d U k=>?_
     simp only[Al]at U;split at U
     .rename_i hs
      cases U;exact .inr ⟨_,rfl,bE hs,k _ H3 _ _ (gh.refl T.dom) (.rep (iO rfl))⟩
     .cases U
    .exact g.elim
   .rw[q3]at g;exact g
   .rw[q3]at g;exact g
  .obtain⟨O,t,I⟩:=fc F b f j e o
   refine PE.imp (iL (r:=Mv c.K) (km.or nU) (E b f j e s) u t) ?_;rintro y H Q ⟨z,a,S,g⟩;refine⟨z,a,S,?_⟩;simp only[dj,q,G,ay.bind]at g ⊢;intro v X A Y L P r1;refine N y X A Y _ (S.grow L P) ?_;rw[G];intro H2 B Z2 M R;exact g H2 B Z2 (L.trans M) R
  .obtain⟨O,t,I⟩:=fc F b f j e o
   refine PE.imp (iL (r:=Mv c.K) (km.or nU) (E b f j e s) u t) ?_;rintro y H Q ⟨z,a,S,g⟩;simp only[dj,q,G,ay.bind]at g;exact g.elim
 .obtain⟨tl,u,N⟩:=fc V b f j e s
  obtain⟨O,t,I⟩:=fc F b f j e s;refine PE.imp (iL (r:=Mv c.K) (km.or nU) (E b f j e s) u t) ?_;rintro y H Q ⟨z,a,S,g⟩;refine⟨z,a,S,?_⟩;simp only[dj,q,ay.bind]at g ⊢;exact g
 .obtain⟨tl,u,N⟩:=fc V b f j e s
  obtain⟨O,t,I⟩:=fc F b f j e s;refine PE.imp (iL (r:=Mv c.K) (km.or nU) (E b f j e s) u t) ?_;rintro y H Q ⟨z,a,S,g⟩;simp only[dj,q,ay.bind]at g;exact g.elim
theorem PE.ex{b:Type}{t:b->TE}(h:∀i,PE c m (t i)):PE c m (λa H Q=>∃i,t i a H Q):=λpins s a H Q I  d =>xe d λi q=>h i _ s a H Q I q
theorem PT.ex{b:Type}{t:b->TT}(h:∀i,PT c m (t i)):PT c m (λa H Q=>∃i,t i a H Q):=λpins s a H Q I  d =>xe d λi q=>h i _ s a H Q I q
theorem PW.ex{b:Type}{t:b->TT}(h:∀i,PW c m (t i)):PW c m (λa H Q=>∃i,t i a H Q):=λd pins s a H Q I ⟨i,q⟩=>h i d _ s a H Q I q
theorem PA.ex{b:Type}{t:b->TA}(h:∀i,PA c L (t i)):PA c L (λa H Q=>∃i,t i a H Q):=λd pins s a H Q I  e =>xe e λi q=>h i _ _ s a H Q I q
def kK(c d:EM):EM:=λb e=>(c b e).bind λx a=>match kF a x with
 |some true=>d b a
 |some false=>.ok x a
 |none=>.bad
def Bc(c d:EM):EM:=λb e=>(c b e).bind λx a=>match kF a x with
 |some false=>d b a
 |some true=>.ok x a
 |none=>.bad
def jF(b:EM):EM:=λc d=>(df (b c d)).bind λt a=>.ok (.bl (!t)) a
def Hc(c d e:EM):EM:=λb f=>(df (c b f)).bind λt a=>if t=true then d b a else e b a
theorem iT(S:bw i v q a d)(r:aw v q d j x)(h:kF a j=some C):sF A x d C:=by
 cases j with
 |non=>subst r;cases h;rfl
 |bl b=>subst r;cases h;rfl
 |int b=>subst r;cases h;rfl
 |str b=>
  subst r;have n:Now q d (.str b) (.str b):=by rfl
  exact Iv n h
 |lst m=>
  cases h;obtain⟨c,g,rfl,e,f⟩:=bX S r rfl;refine .inl ⟨g,mO e,?_⟩;have:=f.length
  grind
 |tup m=>
  cases h;obtain⟨c,g,rfl,_,e,f⟩:=er r;refine .inr (.inl ⟨g,uv (.inl e),?_⟩);have:=f.length
  grind
 |dct _ _=>exact bQ h
 |ref k=>
  simp only[kF]at h;split at h
  .rename_i m p
   cases h;obtain⟨c,g,rfl,e,f⟩:=bX (o:=m) S r (by simp only[eo,p])
   refine .inl ⟨g,mO e,?_⟩;have:=f.length
   grind
  .rename_i u p
   cases h;obtain⟨c,w,rfl⟩:=r;refine bV (S.cell p) λy l s=>bV s λt e f=>?_
   rw[w]at l;cases l
   refine .inr (.inr ⟨_,e,?_⟩);have:=f.length
   grind
  .exact bQ h
theorem sj.use{f:Bool->aG->ay D}(h:bJ i r v q d (B9.bind f) η)(k:∀t a,B9=.ok t a->∀e b j,cA v q d b j e->bw i b j a e->bJ i r b j e (f t a) η->l9 t e):sj i r v q d B9 l9:=by
 cases B9 with
 |ok c a=>exact λe b j g s=>k c _ rfl e _ j g s (bJ.from g h)
 |exc x a=>exact h
 |bad=>exact h
theorem sj.Tt(h:sj i r v q d (df W0) l9):bJ i r v q d W0 (λa c=>∃t,sF A a c t/\l9 t c):=by
 cases W0 with
 |ok e f=>
  intro a c j k g s b;simp only[df]at h;split at h
  .rename_i t l
   exact⟨t,iT s b l,h c _ k g s⟩
  .exact h.elim
 |exc x f=>exact h
 |bad=>exact h.elim
theorem EK(h:bc c i r m p)(d:∀a,į m c.env a=(do let v ←a;Þ m.pos;ß [v] (ŋ v))):jL c i r m p:=by
 intro b e f j k;refine PT.imp (sG (h b e f j k) d) ?_;rintro n H Q ⟨l,Z,S,g⟩;exact⟨l,Z,S,g.Tt⟩
theorem EL(b:bc c i r m p):bc c i r (.UnaryOp .Not m n) (jF p):=by
 intro a d e f h;refine PE.imp (Ep (b a d e f h)) ?_;rintro s H Q ⟨j,Z,S,g⟩;refine⟨j,Z,S,?_⟩;have:=sj.use g λt k _ u l w x o q=>bJ.ret o (aP rfl) q
 exact this.Tt
theorem wA(e:jL c i r m p):jL c i r (.UnaryOp .Not m n) (jF p):=by
 intro a f j k l
 refine PT.imp (by
   intro pins s d H Q I h;exact isTrue_not ((e a f j k l) _ s d H _ I h)) ?_
 rintro d H Q ⟨o,Z,S,g⟩;refine⟨o,Z,S,?_⟩;simp only[jF]at g;cases q:df _ with
 |ok t b=>rwa[q]at g
 |exc x b=>rwa[q]at g
 |bad=>rwa[q]at g
def Hd(X:Cx)(κ:Str->b'->Prop)(b:hX)(e:pd)(m:EM):Prop:=∀a c d f g,PW X e (Ts κ b a c d m f g)
theorem Hd.pt{X:Cx}{κ:Str->b'->Prop}{a:hX}{e:pd}{m:EM}(h:Hd X κ a e m):jL X κ a e m:=λb c d f g=>(h _ c d f g).pt
theorem wB{d:ŧ}(f:jL c i r m p):Hd c i r (.BoolOp d [m] n) p:=λo g j k l=>by
 cases d with
 |And=>
   intro q pins s b H Q I h;refine isTrue_and (cj ((f _ g j k l) _ s b H Q I h) λa t e=>?_)
   cases a with
   |true=>exact isTrue_and_nil e
   |false=>exact e
 |Or=>
   intro q pins s b H Q I h;refine isTrue_or (cj ((f _ g j k l) _ s b H Q I h) λa t e=>?_)
   cases a with
   |false=>exact isTrue_or_nil e
   |true=>exact e
theorem EN(w:jL c i r m p)(y:Hd c i r (.BoolOp .And (R::L) n) Z):Hd c i r (.BoolOp .And (m::R::L) n) (kK p Z):=by
 intro d o s h t;refine PW.imp (pw_and (w d o s h t) (PW.ex λa=>y d o s h a)) ?_
 rintro A H Q ⟨z,b,S,g⟩;refine⟨z,b,S,?_⟩;simp only[kK]at g;cases q:p h t with
 |ok x a=>
  rw[q]at g;dsimp only[ay.bind]at g;simp only[df];split at g
  .rename_i e
   rw[e];exact λu j k f l=>sT ⟨_,_,k,S.grow f l,sj.from f g⟩
  .rename_i e
   rw[e];simp only[df,e]at g;exact λu j k f l=>sS (g u _ k f l)
  .exact g.elim
 |exc x a=>rwa[q]at g
 |bad=>rwa[q]at g
theorem Be(w:jL c i r m p)(y:Hd c i r (.BoolOp .Or (R::L) n) Z):Hd c i r (.BoolOp .Or (m::R::L) n) (Bc p Z):=by
 intro d o s h t;refine PW.imp (pw_or (w d o s h t) (PW.ex λa=>y d o s h a)) ?_
 rintro A H Q ⟨z,b,S,g⟩;refine⟨z,b,S,?_⟩;simp only[Bc]at g;cases q:p h t with
 |ok x a=>
  rw[q]at g;dsimp only[ay.bind]at g;simp only[df];split at g
  .rename_i e
   rw[e];exact λu j k f l=>sS ⟨_,_,k,S.grow f l,sj.from f g⟩
  .rename_i e
   rw[e];simp only[df,e]at g;exact λu j k f l=>sT (g u _ k f l)
  .exact g.elim
 |exc x a=>rwa[q]at g
 |bad=>rwa[q]at g
theorem EO(q:jL c i r G2 P4)(s:bc c i r m p)(u:bc c i r R Z):bc c i r (.IfExp G2 m R n) (Hc P4 p Z):=by
 intro b e f h w;refine PE.imp (zv (q b e f h w) (PE.ex λa=>s b e f h a) (PE.ex λa=>u b e f h a)) ?_
 rintro z H Q ⟨x,d,S,g⟩;refine⟨x,d,S,sj.use g λt a _ A y j k l o=>?_⟩
 cases t with
 |true=>exact sT ⟨_,_,j,S.grow k l,o⟩
 |false=>exact sS ⟨_,_,j,S.grow k l,o⟩
theorem ER(E:jL c i r G2 P4)(F:jL c i r m p)(G:jL c i r R Z):jL c i r (.IfExp G2 m R n) (Hc P4 p Z):=by
 intro j k l b z pins s o H Q I;rintro⟨J,d,S,g⟩;simp only[Hc]at g
 have w:Ts i r j k l P4 b z o H (λt h=>∃a e f,cW i j k l e f a b o h/\sj i r e f h (df (if t=true then p b a else Z b a)) Q):=by
  refine⟨J,d,S,?_⟩;cases q:df _ with
  |ok t a=>
   rw[q]at g;exact λh e f A u=>⟨_,_,f,S.grow A u,sj.from A g⟩
  |exc x a=>rwa[q]at g
  |bad=>rwa[q]at g
 refine isTrue_IfExp (cj (E _ k l b z _ s o H _ I w) λv u K=>?_);refine bV K λh B y=>fo y λ_ _ f C D=>?_
 cases v with
 |true=>exact F _ k l b _ _ u o h Q B ⟨_,f,C,D⟩
 |false=>exact G _ k l b _ _ u o h Q B ⟨_,f,C,D⟩
def my(g b:Ú)(h i j:EM):EM:=λc k=>(h c k).bind λx d=>(i c d).bind λy e=>(df (dZ g x y e)).bind λt a=>if t=true then (j c a).bind λz f=>dZ b y z f else .ok (.bl false) a
variable{P6:Ú}
theorem Bf(S:cW i J0 Q1 ο v q a u d0 d)(g:bJ i r v q d (my M2 P6 p Z P4 u a) η):
  uE (Ar M2) (Ar P6) (tO i r J0 Q1 ο p u a) (λd0 d η=>∃c,tO i r J0 Q1 ο Z u c d0 d η) (λd0 d η=>∃c,tO i r J0 Q1 ο P4 u c d0 d η) d0 d η:=by
 refine⟨v,q,S,bJ.use g λx c _ h U D E A j F G=>?_⟩
 refine⟨_,_,E,S.grow A j,bJ.use G λy H _ w V I X B k C e=>?_⟩
 have J:=(S.grow A j).grow B k;refine vf (r:=r) k (j.di B F) C ?_;cases b:dZ M2 x y _ with
 |ok l m=>
  obtain⟨t,rfl⟩:=rg _ _ _ _ _ b;intro n Y K L o s M;refine⟨t,M,?_⟩;rw[b]at e;have f:=e;have f:=bJ.from o f
  cases t with
  |true=>
   refine⟨_,_,L,J.grow o s,bJ.use f λz N _ w' H4 O Z4 P Q R T=>vf Q (s.di P (k.di o C)) R T⟩
  |false=>
   exact bJ.ret s (aP rfl) f
 |exc x m=>rwa[b]at e
 |bad=>rwa[b]at e
theorem ES(j:c.A.units+64<ZU)(k:ō [M2,P6] [R,G2]=false)(l:bc c i r m p)(o:bc c i r R Z)(q:bc c i r G2 P4):bc c i r (.Compare m [M2,P6] [R,G2] n) (my M2 P6 p Z P4):=by
 intro a d e f s;refine PE.imp (zD (nR j M2) (nR j _) (l a d e f s) (PE.ex λb=>o a d e f b) (PE.ex λb=>q a d e f b) k) ?_
 rintro t H Q ⟨u,h,S,g⟩;exact Bf S g
theorem IT(h:my M2 P6 p Z P4 u a=.ok j H):∃t,j=.bl t:=by
 simp only[my]at h;cases b:p u a with
 |ok x c=>
  rw[b]at h;dsimp only[ay.bind]at h
  cases d:Z u _ with
  |ok y e=>
   rw[d]at h;dsimp only[ay.bind]at h
   cases f:df _ with
   |ok t g=>
    rw[f]at h;dsimp only[ay.bind]at h
    split at h
    .cases i:P4 u _ with
     |ok z k=>rw[i]at h;exact rg _ _ _ _ _ h
     |exc _ _=>simp_all
     |bad=>simp_all
    simp_all
   |exc _ _=>simp_all
   |bad=>simp_all
  |exc _ _=>simp_all
  |bad=>simp_all
 |exc _ _=>rw[b]at h;cases h
 |bad=>rw[b]at h;cases h
theorem ET(k:c.A.units+64<ZU)(o:ō [M2,P6] [R,G2]=false)(s:bc c i r m p)(u:bc c i r R Z)(w:bc c i r G2 P4):jL c i r (.Compare m [M2,P6] [R,G2] n) (my M2 P6 p Z P4):=by
 intro b f h e l;refine PT.imp (zE (nR k M2) (nR k _) (s b f h e l) (PE.ex λa=>u b f h e a) (PE.ex λa=>w b f h e a) o) ?_
 rintro F H Q ⟨G,j,S,g⟩;refine Bf S ?_;cases q:my M2 _ p Z P4 e l with
 |ok d a=>
  obtain⟨t,rfl⟩:=IT q;rw[q]at g;intro v y z B C D E;exact⟨t,E,g y _ B C D⟩
 |exc x a=>rw[q]at g;exact g
 |bad=>rw[q]at g;exact g.elim
def bY(f:List D->Out Rs):List D->aG->ay D:=λb a=>match bI (fA a 8) b with
 |some c=>iA a (f c)
 |none=>.bad
variable{E2:List D->Out Rs}
theorem kL(S:bw i v q a d)(p:aE (aw v q d) o O)(h:bJ i r v q d (bY E2 o a) η):
  ∃j c d',bg (EC v q) d j O/\E2 j=.ok (c,d')/\∀b l n,gh (EC v q) d n l->fv C c n d l d' b->η b l:=by
 unfold bY at h;split at h
 .rename_i j s
  refine cF (kD (C:=C) S h) λc d' e k=>⟨j,_,d',iQ (fJ (S:=Rep _ d) (λm d' b f g=>mQ S 8 f g) s p),e,by grind⟩
 .exact h.elim
theorem yy(F0:Mw c b e E2)(k:bA b c.A)(l:Gl c e)(a:(e==("__debug__":Str))=false)(o:x' (m::L) c.env=(false,eval m c.env)::x' L c.env)(d:(ZP n (x' L c.env)).any (·.1)=false)(p:nV c i r (m::L) Θ):
  bc c i r (.Call (.Name e J) (m::L) [] n) (mN (bY E2) Θ):=by
 refine dI F0.ex λf O P q s t F1=>?_
 intro h u w x y;refine PE.imp (qD F1 k l q s t .nil lU (p h u w x y) a o d) ?_;rintro R H Q ⟨z,Z,S,g⟩;refine⟨z,Z,S,pa.use g λT B _ U V C X Y j D E=>?_⟩
 rw[í];obtain⟨F,G,I,K,M,N⟩:=kL j D E;exact⟨_,F,_,I,eh j,K,M,N⟩
def n7(f g:List D->aG->ay D):List D->aG->ay D:=λa b=>jK (f a b) (g a b)
def yz(xs:List D)(Ω:aG):ay D:=match xs with
 |[x]=>match iC Ω x with
  |some a=>.ok (.int a.length) Ω
  |none=>.bad
 |_=>.bad
noncomputable def Bg(xs:List D)(Ω:aG):ay D:=match xs with
 |[.ref k]=>match Ω[k]? with
  |some (.dK a)=>.ok (.int a.length) Ω
  |some (.dF a)=>.ok (.int a.length) Ω
  |_=>.bad
 |_=>.bad
def n_(xs:List D)(Ω:aG):ay D:=match xs with
 |[x]=>match iC Ω x with
  |some a=>gM Ω (.lst a)
  |none=>.bad
 |_=>.bad
noncomputable def ly:Key->D
 |.inl i=>.int i
 |.inr x=>.str x
def pU(xs:List D)(Ω:aG):ay D:=match xs with
 |[x]=>match tD Ω x with
  |some a=>gM Ω (.lst (a.map λb=>ly b.1))
  |none=>.bad
 |_=>.bad
def pV(xs:List D)(Ω:aG):ay D:=match xs with
 |[x]=>match tD Ω x with
  |some a=>gM Ω (.dK a)
  |none=>.bad
 |_=>.bad
def tE:D->Option (Key×D)
 |.tup [k,v]=>(rf k).map λk=>(k,v)
 |_=>none
def jN(xs:List D)(Ω:aG):ay D:=match xs with
 |[x]=>match eo Ω x with
  |some b=>match bI tE b with
   |some c=>gM Ω (.dK (c.foldl (λa p=>eO a p.1 p.2) []))
   |none=>.bad
  |none=>.bad
 |_=>.bad
def gO:List D->aG->ay D:=n7 jN pV
def og(xs:List D)(Ω:aG):ay D:=match xs with
 |[.tup a]=>.ok (.tup a) Ω
 |[x]=>match eo Ω x with
  |some a=>.ok (.tup a) Ω
  |none=>.bad
 |_=>.bad
def IU:List D->Out Rs
 |[.str z]=>if small z.length then .ok (false,.int z.length)else .bad
 |_=>.bad
def IV:List D->Out Rs
 |[.lst a]=>match gF a with|some bs=>.ok (false,.bl (bs.all id))|none=>.bad
 |_=>.bad
def IW:List D->Out Rs
 |[.lst a]=>match gF a with|some bs=>.ok (false,.bl (bs.any id))|none=>.bad
 |_=>.bad
def Bh:mM->List D->Out Rs
 |.len=>IU
 |.all=>IV
 |.any=>IW
 |_=>λ_=>.bad
def oh(f:mM):List D->aG->ay D:=bY (Bh f)
def bb(f:mM):List D->aG->ay D:=match f with
 |.len=>n7 yz (n7 Bg (oh .len))
 |.list=>n7 n_ pU
 |.tuple=>og
 |f=>oh f
theorem oi{g:List D->aG->ay D}:mN (n7 G6 g) Θ=mx (mN G6 Θ) (mN g Θ):=by
 funext b a
 simp only[mN,mx];cases Θ b a with
 |ok x c=>rfl
 |exc x a=>rfl
 |bad=>rfl
variable{C3:String}{R8:List V->Hp->VK->Prop}
theorem iU(h:fq c (.builtin C3) R8)(j:Gl c e)(k:c.mg e=none)(l:ò e=some (.builtin C3))(o:e≠"__name__")(a:(e==("__debug__":Str))=false)(p:x' (m::L) c.env=(false,eval m c.env)::x' L c.env)(b:(ZP n (x' L c.env)).any (·.1)=false)(q:nV c i r (m::L) Θ)(w:∀xs f α Z Ω H Q,bw i α Z Ω H->aE (aw α Z H) xs f->bJ i r α Z H (G6 xs Ω) Q->R8 f H Q):bc c i r (.Call (.Name e J) (m::L) [] n) (mN G6 Θ):=by
 intro d s t u Ω;refine PE.imp (nv h j k l (q d s t u Ω) o a p b) ?_;rintro x H Q ⟨α,Z,S,g⟩;exact⟨α,Z,S,pa.use g (by grind)⟩
theorem fL(h:fq c (.type C3) R8)(j:Gl c e)(k:c.mg e=none)(l:ò e=some (.type C3))(o:e≠"__name__")(a:(e==("__debug__":Str))=false)(p:x' (m::L) c.env=(false,eval m c.env)::x' L c.env)(b:(ZP n (x' L c.env)).any (·.1)=false)(q:nV c i r (m::L) Θ)(w:∀xs f α Z Ω H Q,bw i α Z Ω H->aE (aw α Z H) xs f->bJ i r α Z H (G6 xs Ω) Q->R8 f H Q):bc c i r (.Call (.Name e J) (m::L) [] n) (mN G6 Θ):=by
 intro d s t u Ω;refine PE.imp (xY h j k l (q d s t u Ω) o a p b) ?_;rintro x H Q ⟨α,Z,S,g⟩;exact⟨α,Z,S,pa.use g (by grind)⟩
theorem jq{Z:b'->Prop}{H:Hp}:∀{b:List D}{a:List V},bg Z H b a->As Z H b a
 |[],a,h=>h.nil_inv
 |d::b,a,h=>by
  obtain⟨v,r,rfl,c,e⟩:=h.cons_inv;exact⟨v,r,rfl,c.now,jq e⟩
theorem EU(S:bw i v q a d)(k:aE (aw v q d) o O)(g:bJ i r v q d (pU o a) η):∃b kvs,O=[V.ref b]/\Rd d b (.dK kvs)/\∀l,d l=none->η (.ref l) (upd d l (.lst (kvs.map λf=>kV f.1))):=by
 unfold pU at g;split at g
 .split at g
  .rename_i kvs m
   obtain⟨h,j,rfl,n,s⟩:=k.cons_inv;rw[s.nil_inv];obtain⟨b,e,rfl,t,u⟩:=kJ S n m;refine⟨b,_,rfl,t,iR S ?_ g⟩
   have:∀{kvs:List _}{e:List _},jE (aw v q d) kvs e->aE (aw v q d) (kvs.map λf=>ly f.1) (e.map λf=>kV f.1):=λ{kvs e} c=>by
    induction c with
    |nil=>exact .nil
    |@cons p c _ _ w _ x=>
     refine .cons ?_ x
     show aw v q d (ly _) (kV _)
     rw[w.1];cases c.1<;>simp only[ly,kV,aw]
   exact this u
  .exact g.elim
 .exact g.elim
variable{v5:List (Key×V)}
theorem rh(S:bw i v q a d)(b:jE (aw v q d) ς v5)(k:bJ i r v q d (gM a (.dK ς)) η):∀p,d p=none->η (.ref p) (upd d p (.dK v5)):=λp e=>by
 obtain⟨f,g⟩:=S.laid (c:=.dK _) e λR h=>⟨_,aR,b.imp h⟩
 exact k _ _ _ _ g f (fK S p)
theorem EV(S:bw i v q a d)(h:aE (aw v q d) o O)(g:bJ i r v q d (pV o a) η):∃b kvs,O=[V.ref b]/\Rd d b (.dK kvs)/\∀l,d l=none->η (.ref l) (upd d l (.dK kvs)):=by
 unfold pV at g;split at g
 .split at g
  .rename_i kvs j
   obtain⟨c,e,rfl,k,m⟩:=h.cons_inv;rw[m.nil_inv];obtain⟨b,f,rfl,n,p⟩:=kJ S k j;exact⟨b,_,rfl,n,rh S p g⟩
  .exact g.elim
 .exact g.elim
theorem lA{α:List b'}{Z:b'->Prop}{H:Hp}:∀{k:List D}{g:List V}{i:List (Key×D)},aE (aw α Z H) k g->bI tE k=some i->∃c,jE (aw α Z H) i c/\Ö (λ(p:Key×V) (y:V)=>∃b,y=.ref b/\Rd H b (.tup [kV p.1,p.2])) c g
 |[],g,i,r,h=>by cases h;rw[r.nil_inv];exact⟨[],.nil,.nil⟩
 |d::k,g,i,r,h=>by
  simp only[bI]at h;split at h
  .rename_i y A j l
   cases h;refine aW r.cons_inv λv m e n o=>?_;subst e
   obtain⟨c,q,s⟩:=lA o l;unfold tE at j;split at j
   .obtain⟨t,u,rfl⟩:=Å.mp j
    refine bS (er n) λa B e _ w f=>?_;subst e
    obtain⟨u1,C,rfl,x,f⟩:=f.cons_inv;obtain⟨u2,E,rfl,z,f⟩:=f.cons_inv;obtain rfl:=f.nil_inv;obtain rfl:=iS u x;exact⟨(t,u2)::c,.cons ⟨rfl,z⟩ q,.cons ⟨a,rfl,.inl w⟩ s⟩
   .exact bQ j
  .exact bQ h
theorem EW(S:bw i v q a d)(w:aE (aw v q d) o O)(g:bJ i r v q d (jN o a) η):∃c m k,O=[V.ref c]/\Rd d c (.lst m)/\Ö (λ(p:Key×V) (y:V)=>∃b,y=.ref b/\Rd d b (.tup [kV p.1,p.2])) k m/\∀l,d l=none->η (.ref l) (upd d l (.dK (k.foldl (λc p=>putK c p.1 p.2) []))):=by
 unfold jN at g;split at g
 .split at g
  .rename_i H x
   split at g
   .rename_i k z
    obtain⟨n,s,rfl,A,B⟩:=w.cons_inv;rw[B.nil_inv];obtain⟨c,m,rfl,C,D⟩:=bX S A x;obtain⟨h,E,F⟩:=lA D z;refine⟨c,m,_,rfl,C,F,rh S ?_ g⟩
    have:∀{k:List _}{h:List _}{j:List _}{e:List (Key×V)},jE _ j e->jE (aw v q d) k h->jE (aw v q d) (k.foldl (λc p=>eO c p.1 p.2) j) (h.foldl (λc p=>putK c p.1 p.2) e):=λ{k h j e} t f=>by
     induction f generalizing j e with
     |nil=>exact t
     |@cons p f _ _ u _ G=>
      simp;refine G ?_;rw[u.1];exact t.put _ u.2
    exact this .nil E
   .exact g.elim
  .exact g.elim
 .exact g.elim
theorem Bi(f:c.calm=true)(x:Gl c "dict")(y:c.mg "dict"=none)(z:x' (m::L) c.env=(false,eval m c.env)::x' L c.env)(j:(ZP n (x' L c.env)).any (·.1)=false)(A:nV c i r (m::L) Θ):bc c i r (.Call (.Name "dict" J) (m::L) [] n) (mN gO Θ):=by
 show bc c i r _ (mN (n7 _ _) Θ)
 rw[oi]
 exact bc.alt (fL (nL f) x y ϙ (by decide) (by decide) z j A λE F l Z G H Q S o g=>by
   unfold jN at g;split at g
   .split at g
    .rename_i R p
     split at g
     .rename_i k I
      obtain⟨v,h,rfl,s,t⟩:=o.cons_inv;rw[t.nil_inv];obtain⟨a,K,rfl,u,w⟩:=bX S s p;obtain⟨d,M,N⟩:=lA w I;refine⟨a,K,_,rfl,u,N,rh S ?_ g⟩
      have:∀{k:List _}{d:List _}{e:List _}{b:List (Key×V)},jE _ e b->jE (aw l Z H) k d->jE (aw l Z H) (k.foldl (λa J=>eO a J.1 J.2) e) (d.foldl (λa J=>putK a J.1 J.2) b):=λ{k d e b} B q=>by
       induction q generalizing e b with
       |nil=>exact B
       |@cons J q _ _ C _ O=>
        simp;refine O ?_;rw[C.1];exact B.put _ C.2
      exact this .nil M
     .exact g.elim
    .exact g.elim
   .exact g.elim) (fL nK x y ϙ (by decide) (by decide) z j A λE F l Z G H Q S o g=>by
     unfold pV at g;split at g
     .split at g
      .rename_i P p
       obtain⟨v,h,rfl,s,t⟩:=o.cons_inv;rw[t.nil_inv];obtain⟨a,D,rfl,u,w⟩:=kJ S s p;exact⟨a,_,rfl,u,rh S w g⟩
      .exact g.elim
     .exact g.elim)
theorem fw(h:aE Q5 [j] O):∃v,O=[v]/\Q5 j v:=by
 obtain⟨v,r,rfl,b,a⟩:=h.cons_inv;rw[a.nil_inv];simp_all
theorem EX{f:mM}(o:c.calm=true)(P:f∈[mM.len,mM.all,mM.any,mM.list,mM.tuple])(D:Gl c f.nm)(E:c.mg f.nm=none)(F:x' (m::L) c.env=(false,eval m c.env)::x' L c.env)(h:(ZP n (x' L c.env)).any (·.1)=false)(p:nV c i r (m::L) Θ):
  bc c i r (.Call (.Name f.nm J) (m::L) [] n) (mN (bb f) Θ):=by
 cases f with
 |len=>
  show bc c i r _ (mN (n7 yz (n7 Bg (oh .len))) Θ)
  rw[oi,oi];refine bc.alt ?_ (bc.alt ?_ ?_)
  .refine iU qH D E aaL (by decide) (by decide) F h p ?_
   intro N Y z Z B H Q S j g;unfold yz at g;split at g
   .split at g
    .rename_i G R
     obtain⟨v,rfl,y⟩:=fw j;obtain⟨l,I,rfl,M,O⟩:=nX (A:=c.K) S y R;exact⟨l,I,rfl,M,by rw[O.length];exact bJ.ret S (aP rfl) g⟩
    .exact g.elim
   .exact g.elim
  .refine iU yc D E aaL (by decide) (by decide) F h p ?_
   intro N Y z Z B H Q S j g;unfold Bg at g;split at g
   .obtain⟨v,rfl,y⟩:=fw j
    obtain⟨a,p,rfl⟩:=y;split at g
    .rename_i a0 hk
     obtain⟨a',q,s,h1,h2⟩:=S.cell hk;rw[p]at q;cases q
     exact⟨a,s,rfl,.inl h1,by rw[h2.length];exact bJ.ret S (aP rfl) g⟩
    .rename_i a0 hk
     obtain⟨a',q,of,s,h1,h2⟩:=S.cell hk;rw[p]at q;cases q
     exact⟨a,s,rfl,.inr ⟨of,h1⟩,by rw[h2.length];exact bJ.ret S (aP rfl) g⟩
    .exact g.elim
   .exact g.elim
  .refine iU qI D E aaL (by decide) (by decide) F h p ?_
   intro T U z Z B H Q S j g;obtain⟨G,V,d,t,b,k⟩:=kL (C:=false) S j g;have t:=jq t;have u:=eh S;replace b:IU G=_:=b;unfold IU at b;split at b
   .obtain⟨x,rfl,e⟩:=t.one
    cases dh e;split at b
    .rename_i hs
     cases b;exact⟨_,rfl,bE hs,jU u k rfl⟩
    .cases b
   .cases b
 |all=>
  refine iU (AD o) D E boot_all (by decide) (by decide) F h p ?_
  intro T U z Z B H Q S j g;obtain⟨G,V,d,t,b,k⟩:=kL (C:=false) S j g;have t:=jq t;have u:=eh S;replace b:IV G=_:=b;unfold IV at b;split at b
  .obtain⟨x,rfl,e⟩:=t.one
   split at b
   .rename_i bs hb
    cases b;exact⟨_,_,bs,x,rfl,e,hb,jU u k rfl⟩
   .cases b
  .cases b
 |any=>
  refine iU (AE o) D E boot_any (by decide) (by decide) F h p ?_
  intro T U z Z B H Q S j g;obtain⟨G,V,d,t,b,k⟩:=kL (C:=false) S j g;have t:=jq t;have u:=eh S;replace b:IW G=_:=b;unfold IW at b;split at b
  .obtain⟨x,rfl,e⟩:=t.one
   split at b
   .rename_i bs hb
    cases b;exact⟨_,_,bs,x,rfl,e,hb,jU u k rfl⟩
   .cases b
  .cases b
 |int=>simp at P
 |min=>simp at P
 |max=>simp at P
 |list=>
  show bc c i r _ (mN (n7 n_ pU) Θ)
  rw[oi];refine bc.alt ?_ (fL (uR o) D E boot_list (by decide) (by decide) F h p λN Y z Z B H Q S j g=>EU S j g)
  refine fL qJ D E boot_list (by decide) (by decide) F h p ?_
  intro N Y z Z B H Q S j g;have g:bJ i r z Z H (n_ N B) Q:=g;unfold n_ at g;split at g
  .split at g
   .rename_i G R
    obtain⟨v,w,rfl,y,X⟩:=j.cons_inv;rw[X.nil_inv];obtain⟨l,I,rfl,M,O⟩:=nX (A:=c.K) S y R;exact⟨l,I,rfl,M,iR S O g⟩
   .exact g.elim
  .exact g.elim
 |tuple=>
  refine fL oV D E boot_tuple (by decide) (by decide) F h p ?_
  intro N Y z Z B H Q S j g;have g:bJ i r z Z H (og N B) Q:=g;unfold og at g;split at g
  .obtain⟨v,w,rfl,y,X⟩:=j.cons_inv
   rw[X.nil_inv];have b0:=y;obtain⟨l,I,rfl,_,M,O⟩:=er y;exact⟨l,I,rfl,.inr ⟨uv (.inl M),bJ.ret S b0 g⟩⟩
  .split at g
   .rename_i G R
    obtain⟨v,w,rfl,y,X⟩:=j.cons_inv;rw[X.nil_inv];obtain⟨l,I,rfl,M,O⟩:=bX S y R;exact⟨l,I,rfl,.inl ⟨mO M,tx S O g⟩⟩
   .exact g.elim
  .exact g.elim
 |sorted=>simp at P
 |bool=>simp at P
def Tu(t:Ty):D->aG->ay D:=EF λd=>match An d t with|some b=>.ok (false,.bl b)|none=>.bad
noncomputable def EY(t:Ty)(x:D)(Ω:aG):ay D:=match x with
 |.ref k=>match Ω[k]? with
  |some (.lst _)=>.ok (.bl (t==.list)) Ω
  |some (.dK _)=>.ok (.bl (t==.dict)) Ω
  |_=>.bad
 |.lst _=>.ok (.bl (t==.list)) Ω
 |.tup _=>.ok (.bl (t==.tuple)) Ω
 |_=>.bad
def iD(t:Ty):D->aG->ay D:=IH (EY t) (Tu t)
def He(K:A'):List V->Hp->VK->Prop:=λd H Q=>∃a c t,d=[.ref a,.ty (Ty.id t)]/\((Rd H a (.lst c)/\Q (.bl (t==.list)) H)\/(Rd H a (.tup c)/\Q (.bl (t==.tuple)) H)\/(∃b,H a=some (.dK b)/\Q (.bl (t==.dict)) H))
theorem yA:fq c (.builtin "isinstance") (He c.K):=by
 intro pins s j H p w Q I r h;obtain⟨a,x,t,rfl,h⟩:=h;obtain⟨u,y,rfl,f,k⟩:=vals2 r;cases (k);refine dv (v_ c.K t) λA B C D i g=>xa g λl m=>?_
 rcases h with ⟨b,q⟩|⟨b,q⟩|⟨n,b,q⟩
 .have e:∀d,EP c _ j Q _ _:=λd=>⟨.bl _,H,I.tok d,rfl,q⟩
  rcases b with b|⟨o,b⟩
  .exact cX I f (.lst b) i e
  .exact cX I f (.cZ b) i e
 .cases f
  exact á ϳ I.fg (lV (K:=c.K) I b) l (λz=>nomatch z) (λd=>⟨.bl _,H,I.tok d,rfl,q⟩)
 .exact cX I f (.dK b) m (λd=>⟨.bl _,H,I.tok d,rfl,q⟩)
theorem EZ(E:Gl c "isinstance")(F:c.mg "isinstance"=none)(w:Gl c P2.nm)(y:c.mg P2.nm=none)(t:x' [m,Ĩ P2.nm P0] c.env=(false,eval m c.env)::x' [Ĩ P2.nm P0] c.env)(f:(ZP n (x' [Ĩ P2.nm P0] c.env)).any (·.1)=false)(u:bc c i r m p):
  bc c i r (.Call (.Name "isinstance" J) [m,.Name P2.nm P0] [] n) (m1 (iD P2) p):=by
 have h:PE c (.Name P2.nm P0) (tC (.ty P2.id)):=Dy w y (by cases P2<;>decide +kernel) rfl (by cases P2<;>decide) (by cases P2<;>decide)
 unfold iD;rw[II];refine bc.alt ?_ ?_
 .refine kG (pS:=λx H Q=>He c.K [x,.ty P2.id] H Q) (λL z=>nv yA E F aar (gj z (gj h qy rfl) t) (by decide) (by decide) t f) u ?_
  intro M x N Z O H Q S e g;unfold EY at g;split at g
  .split at g
   .rename_i k A B
    obtain⟨m,j,rfl,a,G⟩:=bX (o:=A) S e (by simp only[eo,B])
    exact⟨m,j,P2,rfl,.inl ⟨a,bJ.ret S (aP rfl) g⟩⟩
   .rename_i k P B
    obtain⟨m,u,rfl⟩:=e;refine bV (S.cell B) λU l D=>bV D λs a _=>?_
    rw[u]at l;cases l
    exact⟨m,[],P2,rfl,.inr (.inr ⟨s,a,bJ.ret S (aP rfl) g⟩)⟩
   .exact g.elim
  .rename_i A
   obtain⟨m,j,rfl,a,G⟩:=bX (o:=A) S e rfl;exact⟨m,j,P2,rfl,.inl ⟨a,bJ.ret S (aP rfl) g⟩⟩
  .obtain⟨m,j,rfl,_,a,G⟩:=er e
   exact⟨m,j,P2,rfl,.inr (.inl ⟨.inl a,bJ.ret S (aP rfl) g⟩)⟩
  .exact g.elim
 .refine kG (pS:=λx H Q=>Mx c.K [x,.ty P2.id] H Q) (λL z=>nv AF E F aar (gj z (gj h qy rfl) t) (by decide) (by decide) t f) u ?_
  intro M x N Z O H Q S e g;refine cB (AX (C:=false) S e g) λd R V T I k=>?_
  cases q:An d P2 with
  |none=>simp_all
  |some b=>
   rw[q]at I;cases I;exact⟨_,d,x,P2,b,rfl,T,q,jU (eh S) k rfl⟩
def dU(b:aG->D->Bool)(f:D->List D->aG->ay D)(e:EM)(as:AM):EM:=λd g=>(e d g).bind λx a=>if b a x=true then (as d a).bind λh c=>f x h c else .bad
def mz(Ω:aG)(x:D):Bool:=(eo Ω x).isSome
noncomputable def IX(_:aG)(x:D):Bool:=match x with
 |.str _=>true
 |_=>false
theorem jW(S:bw i v q a d)(r:aw v q d j x)(h:mz a j=true):Ij A "list" x d:=by
 unfold mz at h;cases b:eo a j with
 |none=>simp_all
 |some g=>
  obtain⟨c,e,rfl,f,k⟩:=bX S r b;exact .inl ⟨rfl,e,mO f⟩
theorem E_(S:bw i v q a d)(r:aw v q d j x)(h:IX a j=true):Ij A "str" x d:=by
 cases j with
 |str z=>subst r;rfl
 |_=>cases h
variable{A8:aG->D->Bool}{E5:String}{j9:D->List D->aG->ay D}{u8:V->List V->Hp->VK->Prop}
theorem Fb(s:ż C3)(slot:Ž C3 e E5)(d:ž (.builtin E5)=pure (.type "method_descriptor"))(t:Ig c E5 u8)(u:∀x v α Z Ω H,bw i α Z Ω H->aw α Z H x v->A8 Ω x=true->Ij c.K C3 v H)(w:∀x v xs j α Z Ω H Q,bw i α Z Ω H->aw α Z H x v->aE (aw α Z H) xs j->bJ i r α Z H (j9 x xs Ω) Q->u8 v j H Q)(a:ì m e c.env (eval m c.env)=eval m c.env)(b:(n.endLine==J.line)=true)(y:bc c i r m p):bc c i r (.Call (.Attribute m e n) [] [] J) (dU A8 j9 p ak):=by
 intro f z A B Ω;refine PE.imp (L2.Ik s slot d t (y f z A B Ω) a b) ?_;rintro F H Q ⟨α,Z,S,g⟩;refine⟨α,Z,S,bJ.use g λx C _ v k D l G o q h=>?_⟩
 split at h
 .rename_i E
  exact⟨u x v _ l _ k o q E,w x v [] [] _ l _ k Q o q .nil h⟩
 .exact h.elim
theorem vg{a:Pos}{b:ZR}:∀{c:List pd},(∀e∈c,isStar e=false)->((ZP a (x' c b)).all (λx=>!x.1))=true
 |[],_=>rfl
 |e::c,h=>by
  rw[bW (h e (by simp))]
  show(!false&&(ZP _ _).all _)=true
  rw[vg (by grind)];rfl
theorem jX(w:ż C3)(slot:Ž C3 e E5)(j:ž (.builtin E5)=pure (.type "method_descriptor"))(y:Ig c E5 u8)(X:∀x v α Z Ω H,bw i α Z Ω H->aw α Z H x v->A8 Ω x=true->Ij c.K C3 v H)(A:∀x v xs h α Z Ω H Q,bw i α Z Ω H->aw α Z H x v->aE (aw α Z H) xs h->bJ i r α Z H (j9 x xs Ω) Q->u8 v h H Q)(a:ì R e c.env (eval R c.env)=eval R c.env)(b:(n.endLine==J.line)=true)(B:bc c i r R p)(C:nV c i r (m::L) Θ)(k:∀z∈m::L,isStar z=false)(o:(m::L).length<20):bc c i r (.Call (.Attribute R e n) (m::L) [] J) (dU A8 j9 p Θ):=by
 intro d q s t Ω
 refine PE.imp (L2.Mb w slot j y (B d q s t Ω) (PA.ex λf=>C d q s t f) a (by
  rw[vg k,decide_eq_true (by grind)];rfl) b (bW (by simp_all)) (bU (by grind))) ?_
 rintro Y H Q ⟨α,Z,S,g⟩;refine⟨α,Z,S,bJ.use g λx f _ v H1 D E F u G l=>?_⟩
 split at l
 .exact⟨by grind,_,_,E,S.grow F u,pa.use l λxs I _ h M N O P T U V=>A x v xs h _ O _ M Q T (u.di P G) U V⟩
 .exact l.elim
noncomputable def ri(Ω:aG):D->Option (Nat×List D)
 |.ref k=>match Ω[k]? with
  |some (.lst a)=>some (k,a)
  |_=>none
 |_=>none
theorem iV(S:bw i v q a d)(r:aw v q d j x)(h:ri a j=some (b,o)):∃c e,x=.ref c/\v[b]?=some c/\d c=some (.lst e)/\aE (aw v q d) o e:=by
 cases j with
 |ref n=>
  simp only[ri]at h;split at h
  .rename_i g k
   simp only[aw]at r;refine bV (S.cell k) λm l f=>bV f λe p s=>?_
   simp_all
  .exact bQ h
 |_=>exact bQ h
theorem kM(S:bw i v q a d)(l:v[b]?=some h)(s:d h=some (.lst F4))(e:aE (aw v q d) o O)(m:aw v q d j x)(g:bJ i r v q d (.ok j (a.set b (.lst o))) η):η x (upd d h (.lst O)):=by
 obtain⟨n,k⟩:=S.put (c:=.lst o) l (λf x z=>by simp_all) λR p=>⟨O,aR,e.imp p⟩
 exact g _ _ _ _ k n (S.di k m)
def cm(x:D)(xs:List D)(Ω:aG):ay D:=match ri Ω x,xs with
 |some (k,a),[y]=>if small (a.length+1)then .ok .non (Ω.set k (.lst (a++[y])))else .bad
 |_,_=>.bad
def fO(x:D)(xs:List D)(Ω:aG):ay D:=match ri Ω x,xs with
 |some (k,a),[]=>.ok .non (Ω.set k (.lst a.reverse))
 |_,_=>.bad
def fx(x:D)(xs:List D)(Ω:aG):ay D:=match ri Ω x,xs with
 |some (k,a),[.int i,y]=>if small (a.length+1)&&o_ i then .ok .non (Ω.set k (.lst (jS a i y)))else .bad
 |_,_=>.bad
def jr(x:D)(xs:List D)(Ω:aG):ay D:=match ri Ω x,xs with
 |some (k,a),[y]=>match ri Ω y with
  |some (_,b)=>if small (a.length+b.length)then .ok .non (Ω.set k (.lst (a++b)))else .bad
  |none=>.bad
 |_,_=>.bad
def gy(x:D)(xs:List D)(Ω:aG):ay D:=match xs with
 |[y]=>fj (λa b=>match a with|.lst c=>Am .index (.lst c) (.tup [b])|_=>.bad) x y Ω
 |_=>.bad
def tF(x:D)(xs:List D)(Ω:aG):ay D:=match xs with
 |[y]=>fj (λa b=>match a with
  |.str z=>(match b with
   |.lst c=>Am .join (.str z) (.tup [.lst c])
   |_=>.bad)
  |_=>.bad) x y Ω
 |_=>.bad
theorem wC(h:aE Q5 [j,U] O):∃v w,O=[v,w]/\Q5 j v/\Q5 U w:=by
 obtain⟨v,r,rfl,b,a⟩:=h.cons_inv;obtain⟨w,rfl,c⟩:=fw a
 grind
theorem yB(S:bw i v q a d)(b:aw v q d j x)(h:aE (aw v q d) o O)(g:bJ i r v q d (cm j o a) η):vM x O d η:=by
 unfold cm at g;split at g
 .rename_i k t y l
  obtain⟨c,m,rfl,n,e,f⟩:=iV S b l;obtain⟨u,rfl,p⟩:=fw h;split at g
  .rename_i s
   have:=bE s;exact⟨c,m,u,rfl,rfl,e,by rwa[f.length],kM S n e (f.append (.one p)) (aP rfl) g⟩
  .exact g.elim
 .exact g.elim
theorem vh(S:bw i v q a d)(b:aw v q d j x)(f:aE (aw v q d) o O)(g:bJ i r v q d (fO j o a) η):sM x O d η:=by
 unfold fO at g;split at g
 .rename_i k p h
  obtain⟨c,l,rfl,m,e,n⟩:=iV S b h;rw[f.nil_inv];exact⟨c,l,rfl,rfl,e,kM S m e n.reverse (aP rfl) g⟩
 .exact g.elim
theorem yC(S:bw i v q a d)(b:aw v q d j x)(m:aE (aw v q d) o O)(g:bJ i r v q d (fx j o a) η):wc x O d η:=by
 unfold fx at g;split at g
 .rename_i k A c y n
  obtain⟨e,p,rfl,s,l,f⟩:=iV S b n;obtain⟨u,w,rfl,t,z⟩:=wC m;subst t;split at g
  .rename_i h
   simp at h;have:=bE h.1;have B:=sY h.2;refine⟨e,p,c,w,rfl,rfl,l,by omega,by omega,by rwa[f.length],kM S s l ?_ (aP rfl) g⟩
   unfold jS;rw[f.length];exact(f.take _).append (.cons z (f.drop _))
  .exact g.elim
 .exact g.elim
theorem yD(S:bw i v q a d)(c:aw v q d j x)(m:aE (aw v q d) o O)(g:bJ i r v q d (jr j o a) η):vO x O d η:=by
 unfold jr at g;split at g
 .rename_i k D y p
  obtain⟨e,s,rfl,t,f,h⟩:=iV S c p;obtain⟨u,rfl,w⟩:=fw m;split at g
  .rename_i n E z
   obtain⟨b,A,rfl,F,B,l⟩:=iV S w z;split at g
   .rename_i C
    exact⟨e,b,s,A,rfl,rfl,f,B,by rw[h.length,l.length];exact bE C,kM S t f (h.append l) (aP rfl) g⟩
   .exact g.elim
  .exact g.elim
 .exact g.elim
theorem tG(S:bw i v q a d)(c:aw v q d j x)(n:aE (aw v q d) o O)(g:bJ i r v q d (gy j o a) η):AH x O d η:=by
 unfold gy at g;split at g
 .obtain⟨u,rfl,p⟩:=fw n
  refine bp (gN (C:=false) S c p g) λf e s A t w l=>xa l λb k=>?_
  cases f with
  |lst y=>
   (unfold Am at b;dsimp only at b)
   split at b
   .rename_i m
    simp only[Ç]at m;split at b
    .rename_i h z
     cases b;exact⟨_,y,e,u,h,rfl,t,w,m.1,m.2,z,jU (eh S) k rfl⟩
    .exact sd b
   .exact sd b
  |_=>exact sd b
 .exact g.elim
theorem Fc(S:bw i v q a d)(c:aw v q d j x)(m:aE (aw v q d) o O)(g:bJ i r v q d (tF j o a) η):rJoin x O d η:=by
 unfold tF at g;split at g
 .obtain⟨u,rfl,n⟩:=fw m
  refine bp (gN (C:=false) S c n g) λf e p B s t h=>xa h λb k=>?_
  cases f with
  |str z=>
   cases dh s;cases e with
   |lst w=>
    (unfold Am at b;dsimp only at b)
    split at b
    .rename_i y A
     split at b
     .rename_i l
      cases b;simp at l;exact⟨z,_,w,y,u,rfl,rfl,t,A,l.1,l.2,jU (eh S) k rfl⟩
     .exact sd b
    .exact sd b
   |_=>exact sd b
  |_=>exact sd b
 .exact g.elim
inductive Src where
 |seq (x:D)|ints (lo:Int) (n:Nat)|chars (z:Str)|MQ (x:D)|keys (k:Nat)|items (k:Nat)
def et:Src->aG->Option (List D)
 |.seq x,Ω=>iC Ω x
 |.ints d n,_=>some (intsFrom d n)
 |.chars z,_=>some (z.cps.toList.map λc=>.str (bO c))
 |.MQ x,Ω=>(eo Ω x).map (eZ 0)
 |.keys k,Ω=>match Ω[k]? with
  |some (.dF a)=>some (a.map λb=>ly b.1)
  |_=>none
 |.items k,Ω=>match Ω[k]? with
  |some (.dF a)=>some (a.map λb=>.tup [ly b.1,b.2])
  |_=>none
abbrev IM:=bh->aG->ay Src
def Fd(κ:Str->b'->Prop)(s:Src)(J:It)(α:List b')(Z:b'->Prop)(H:Hp):Prop:=∀a f b c g,cA α Z H a f c->bw κ a f b c->et s b=some g ->
 (∀(i:Nat) (d:D),g[i]?=some d->J.go i c/\∀x e,J.PB i c x e->∃h,cA a f c a h e/\bw κ a h b e/\aw a h e d x)/\∀i,g.length<=i->J.stop i c
def uw(κ:Str->b'->Prop)(e:hX)(α:List b')(Z:b'->Prop)(H:Hp)(r:ay Src)(R:It->Hp->Prop):Prop:=match r with
 |.ok s b=>∀J c a d,cA α Z H a d c->bw κ a d b c->Fd κ s J a d c->R J c
 |.exc x b=>∀c a d,cA α Z H a d c->bw κ a d b c->e x b a d c
 |.bad=>False
noncomputable def YA(κ:Str->b'->Prop)(d:hX)(a:List b')(e:b'->Prop)(f:Hp)(m:IM)(b:bh)(Ω:aG):TI:=λg H R=>∃c Z,cW κ a e f c Z Ω b g H/\uw κ d c Z H (m b Ω) R
def yE(X:Cx)(κ:Str->b'->Prop)(b:hX)(c e:pd)(m:IM):Prop:=∀a d f g h,PI X c e (YA κ b a d f m g h)
def srcOf(Ω:aG)(x:D):ay Src:=match iC Ω x,x with
 |some _,x=>.ok (.seq x) Ω
 |none,.str z=>.ok (.chars z) Ω
 |none,.ref k=>(match Ω[k]? with
  |some (.dK a)=>.ok (.keys k) (Ω.set k (.dF a))
  |some (.dF _)=>.ok (.keys k) Ω
  |_=>.bad)
 |none,_=>.bad
def bx(m:EM):IM:=λb c=>(m b c).bind λx a=>srcOf a x
noncomputable def wD(Ω:aG)(x:D):ay Src:=match x with
 |.ref k=>(match Ω[k]? with
  |some (.dK a)=>.ok (.items k) (Ω.set k (.dF a))
  |some (.dF _)=>.ok (.items k) Ω
  |_=>.bad)
 |_=>.bad
def lB(m:EM):IM:=λb c=>(m b c).bind λx a=>wD a x
def pe(m:EM):IM:=λb c=>(m b c).bind λx a=>match eo a x with
 |some _=>.ok (.MQ x) a
 |none=>.bad
def pW(xs:List D)(Ω:aG):ay Src:=match xs with
 |[.int j]=>if o_ j then .ok (.ints 0 j.toNat) Ω else .bad
 |_=>.bad
def cQ(as:AM):IM:=λa b=>(as a b).bind pW
variable{c8:It->Hp->Prop}
theorem uw.from{a:ay Src}(g:cA v q d J0 Q1 ο)(h:uw i r v q d a c8):uw i r J0 Q1 ο a c8:=by
 cases a with
 |ok c e=>exact λb f j k l=>h b f _ k (g.trans l)
 |exc x e=>exact λf j k l=>h f _ k (g.trans l)
 |bad=>exact h
theorem uw.use{f:D->aG->ay Src}(h:uw i r v q d (W0.bind f) c8)(k:∀a c,W0=.ok a c->∀b j e m,cA v q d e m j->bw i e m c j->aw e m j a b->uw i r e m j (f a c) c8->η b j):bJ i r v q d W0 η:=by
 cases W0 with
 |ok a c=>exact λb j e m g s l=>k a _ rfl b j _ m g s l (uw.from g h)
 |exc x c=>exact h
 |bad=>exact h
theorem tH(u:aw v q d j (.ref h))(S:bw i v q a d)(w:(eo a j).isSome=true):Fd i (.seq j) (Sn A h) v q d:=by
 intro x z f G B g s C;have D:∀k,j≠.tup k:=λk e=>by subst e;cases w
 have l:eo f j=some B:=by
  cases j with
  |tup k=>grind
  |_=>exact C
 obtain⟨H,m,e,n,r⟩:=bX s (S.di g u) l;cases e;refine⟨λb o E=>?_,λb I=>⟨m,mO n,by rwa[r.length]⟩⟩
 obtain⟨c,t,F⟩:=r.get E;refine⟨⟨m,c,mO n,t⟩,λy J p=>?_⟩
 obtain⟨rfl,p⟩:=p;have:=p m (mO n);rw[t]at this;cases this;exact⟨z,cA.refl s.has,s,F⟩
theorem tI(z:v[b]?=some h)(A:d h=some (.cZ Ξ (.dK v5))):Fd i (.keys b) (Ml h Ξ) v q d:=by
 intro B C D H I g s k;have a:=g.cZ h _ _ A;simp only[et]at k;split at k
 .rename_i o E
  cases k;refine bV (s.cell E) λJ f l=>cF l λK r t u=>?_
  rw[(g.pre b h z)]at f;cases f
  rw[a]at t;cases t
  have L:=u.length;refine⟨λc m w=>?_,λc M=>⟨_,a,by simp_all⟩⟩
  rw[å]at w;obtain⟨p,F,rfl⟩:=Å.mp w;obtain⟨e,y,G,_⟩:=aE.get u F;refine⟨⟨_,a,zi y⟩,λx N n=>?_⟩
  obtain⟨rfl,n⟩:=n;obtain⟨O,j,rfl⟩:=n _ a;rw[y]at j;cases j
  refine⟨C,cA.refl s.has,s,?_⟩;rw[G];cases e.1<;>simp only[ly,kV,aw]
 .exact bQ k
theorem pX(B:v[b]?=some h)(C:d h=some (.cZ Ξ (.dK v5))):Fd i (.items b) (MC h Ξ) v q d:=by
 intro D L E M N g s k;have a:=g.cZ h _ _ C;simp only[et]at k;split at k
 .rename_i r F
  cases k;refine bV (s.cell F) λO f l=>cF l λP t u w=>?_
  rw[(g.pre b h B)]at f;cases f
  rw[a]at u;cases u
  have Q:=w.length;refine⟨λc m y=>?_,λc R=>⟨_,a,by simp_all⟩⟩
  rw[å]at y;obtain⟨p,G,rfl⟩:=Å.mp y;obtain⟨e,z,H,I⟩:=aE.get w G;refine⟨⟨_,a,zi z⟩,λx S n=>?_⟩
  obtain⟨J,rfl,o,n⟩:=n;obtain⟨T,j,rfl⟩:=n _ a;rw[z]at j;cases j
  obtain⟨K,A⟩:=s.tw o True;refine⟨_,A,K,?_⟩;refine⟨J,_,rfl,.inr rfl,aR,cH.mpr (.cons ?_ (.one (s.di A I)))⟩;rw[H];cases e.1<;>simp only[ly,kV,aw]
 .exact bQ k
theorem Fe(h:bc c i r m p):yE c i r R m (bx p):=by
 intro N Z0 H0 ρ Ω;refine PI.imp (Et (h N Z0 H0 ρ Ω)) ?_;rintro σ H C ⟨α,Z,S,g⟩;refine⟨α,Z,S,uw.use g λx G _ v F f w g1 e A j=>?_⟩
 cases x with
 |tup es=>
  obtain⟨a,t,rfl,_,k,B⟩:=er A
  exact .inr (.inl ⟨a,t,rfl,.inl k,j _ F f w (cA.refl e.has) e (by
    intro f w G F V g s O;cases O;refine bS (er (e.di g A)) λX t m _ k B=>?_
    cases m;refine⟨λb d I=>?_,λb P=>⟨t,uv (.inl k),by rwa[B.length]⟩⟩
    refine bV (B.get I) λv Y rv=>?_
    refine⟨⟨t,v,uv (.inl k),Y⟩,λy H2 J=>?_⟩
    obtain⟨rfl,J⟩:=J;have:=J t (uv (.inl k));rw[Y]at this;cases this;exact⟨w,cA.refl s.has,s,rv⟩)⟩)
 |lst es=>
  obtain⟨a,t,rfl,k,B⟩:=bX e A rfl;exact .inl ⟨a,t,rfl,k,j _ F f w (cA.refl e.has) e (tH A e rfl)⟩
 |ref n=>
  cases D:eo G (.ref n)with
  |none=>
   simp only[srcOf,iC,D]at j;obtain⟨a,K,rfl⟩:=A;split at j
   .rename_i L Q
    obtain⟨X,q,l,k,B⟩:=e.cell Q;rw[K]at q;cases q
    refine .inr (.inr (.inr ⟨a,l,rfl,.inl ⟨k,λo=>?_⟩⟩))
    obtain⟨M,g2⟩:=e.put (c:=.dF L) K (λo u z=>by simp_all) λC hR=>⟨o,l,aR,B.imp hR⟩
    exact j _ _ f w g2 M (tI K aR)
   .rename_i L Q
    refine bV (e.cell Q) λX q T=>cF T λo l k B=>?_
    rw[K]at q;cases q
    exact .inr (.inr (.inr ⟨a,l,rfl,.inr ⟨o,k,j _ F f w (cA.refl e.has) e (tI K k)⟩⟩))
   .exact j.elim
  |some V=>
   simp only[srcOf,iC,D]at j;obtain⟨a,t,rfl,k,B⟩:=bX e A D;exact .inl ⟨a,t,rfl,k,j _ F f w (cA.refl e.has) e (tH A e (by simp_all))⟩
 |str z=>
  subst A;refine .inr (.inr (.inl ⟨z,rfl,j _ F f w (cA.refl e.has) e ?_⟩));intro a0 Z2 b0 H2 V g2 M O;cases O;refine⟨λb d I=>?_,λb P=>by show z.cps.size<=b;simp_all⟩
  have P:b<z.cps.size:=by
   grind
  refine⟨P,λy H3 J=>?_⟩
  obtain⟨rfl,E,hc,rfl⟩:=J;rw[å]at I;have U:z.cps.toList[b]?=some E:=by simp_all
  rw[U]at I;cases I;exact⟨Z2,cA.refl M.has,M,aP rfl⟩
 |non=>exact j.elim
 |bl _=>exact j.elim
 |int _=>exact j.elim
 |dct _ _=>exact j.elim
theorem uw.Tv{f:List D->aG->ay Src}(h:uw i r v q d (C9.bind f) c8)(k:∀n a,C9=.ok n a->∀o c b m,cA v q d b m c->bw i b m a c->aE (aw b m c) n o->uw i r b m c (f n a) c8->S8 o c):pa i r v q d C9 S8:=by
 cases C9 with
 |ok e a=>exact λj c b m g s l=>k e _ rfl j c _ m g s l (uw.from g h)
 |exc x a=>exact h
 |bad=>exact h
theorem Bj(u:Gl c "range")(w:c.mg "range"=none)(x:nV c i r [m] Θ)(f:x' [m] c.env=[(false,eval m c.env)]):yE c i r R (.Call (.Name "range" J) [m] [] n) (cQ Θ):=by
 intro h z A B C;refine PI.imp (xU u w (x h z A B C) f) ?_;rintro I H j ⟨D,Z,S,g⟩;refine⟨D,Z,S,uw.Tv g λK k _ L p l o M q E e=>?_⟩
 unfold pW at e;split at e
 .obtain⟨v,rfl,F⟩:=fw E
  subst F;split at e
  .rename_i a
   have a:=sY a
   exact⟨_,rfl,a.1,a.2,e _ p _ o (cA.refl q.has) q (by
     intro l o k p N g s f;cases f;refine⟨λb d t=>?_,λb a=>by rwa[ky]at a⟩
     have a:=(ZS.mp t).1;rw[ky]at a;refine⟨a,λy O G=>?_⟩
     obtain⟨rfl,rfl⟩:=G;rw[ints_get _ _ _ _ t];exact⟨o,cA.refl s.has,s,aP rfl⟩)⟩
  .exact e.elim
 .exact e.elim
noncomputable def tJ(n:Nat)(d:D):Option bh:=match n,d with
 |0,d=>some [some d]
 |n,.tup a=>if a.length=n then some (a.map some)else none
 |_,_=>none
noncomputable def fk(cap:List Nat)(a:bh):bh:=cap.map λi=>(a[i]?).join
def lD(a:Bool)(b:EM)(c:bh)(Ω:aG):ay Bool:=if a=true then .ok true Ω else df (b c Ω)
def ux(g:Bool)(h j:EM)(n:Nat)(e:bh)(b:Src):Nat->Nat->List D->aG->ay (List D)
 |0,_,_,_=>.bad
 |f+1,i,a,Ω=>match et b Ω with
  |none=>.bad
  |some m=>match m[i]? with
   |none=>.ok a Ω
   |some d=>match tJ n d with
    |none=>.bad
    |some l=>if small (a.length+1)then match lD g h (l++e) Ω with
     |.ok true c=>match j (l++e) c with
      |.ok y k=>ux g h j n e b f (i+1) (a++[y]) k
      |_=>.bad
     |.ok false c=>ux g h j n e b f (i+1) a c
     |_=>.bad else .bad
def cb(d:EM)(e:Bool)(f:EM)(g:IM)(n:Nat)(cap:List Nat):EM:=λc h=>match g c h with
 |.ok s a=>match ux e f d n (fk cap c) s fuel 0 [] a with
  |.ok i b=>gM b (.lst i)
  |_=>.bad
 |.exc x a=>.exc x a
 |.bad=>.bad
noncomputable def jY:hX:=λ_ _ _ _ _=>False
theorem tK(S:cW i J0 Q1 ο v q a u d0 d)(g:cA v q d Z8 ia d8)(s:bw i Z8 ia H d8)(r:aE (aw Z8 ia d8) o O):
  cW i Z8 ia d8 Z8 ia H (o.map some++fk P u) (O.map some++ti P d0) d8:=by
 have m:=r.length;refine⟨s,cA.refl s.has,?_,λb f h=>?_⟩
 .unfold ti fk
  simp_all
 .by_cases n:b<o.length
  .rw[Û (by simp_all),å]at h
   rw[Û (by simp_all)]
   cases c:o[b]? with
   |none=>simp_all
   |some p=>
    rw[c]at h;obtain⟨e,l,k⟩:=r.get c
    simp_all
  .rw[Ĉ (by simp_all)]at h
   rw[Ĉ (by simp_all)]
   unfold fk at h;unfold ti;rw[ZZ,å]at h;cases c:P[b - o.length]? with
   |none=>simp_all
   |some j=>
    obtain⟨e,l,k⟩:=S.val j f (by
     grind)
    refine⟨e,?_,S.st.di g k⟩
    simp_all
theorem cA.Hf(g:cA v Q1 d J0 ia ο)(b:h∉v)(a:d h=some B1):h∉J0:=λq=>by
 rcases g.Hb h q with q|q
 .exact b q
 grind
theorem cA.IY(g:cA v Q1 d J0 ia ο)(b:¬ Q1 h)(a:d h=some B1):¬ ia h:=λq=>by
 rcases g.new h q with q|q
 .exact b q
 grind
theorem cA.side(g:cA v q d J0 Q1 ο)(i:h∉v)(a:d h=Option.none):cA v q d J0 Q1 (upd ο h B1):=
 ⟨g.pre,g.sub,g.new,g.Hb,λb u e c=>by rw[ax (aZ e a)];exact g.frm b u e c,λb c=>by rw[ax (λ(f)=>i (by simp_all))];exact g.has b c,λb j u e=>by rw[ax (aZ e a)];exact g.cZ b j u e⟩
theorem Fg(h:tJ b j=some u):∃a:List D,u=a.map some:=by
 unfold tJ at h;split at h
 .cases h;exact⟨[j],rfl⟩
 .grind
 .exact bQ h
theorem bw.part(S:bw i v q a d)(l:d h=some (.lst O))(p:h∉v)(hz:¬ q h)(r:aE (aw v q d) o O):bw i (v++[h]) q (a++[.lst o]) d:=by
 have mono:∀g j,aw v q d g j->aw (v++[h]) q d g j:=λg j r=>r.mono (λn f e=>by rwa[Û (zi e)]) (λ_ _ _ e=>e) λ_ z=>z
 refine⟨?_,?_,λf ha k=>?_,S.dom⟩
 .refine Ĕ.mpr ⟨S.sh,by simp,λf ha b s e=>?_⟩
  simp_all
 .exact aE.append (S.zm.imp λc f m=>m.imp mono (λ_ e=>e) (λ_ _ _ e=>e) λ_ _ e=>e) (.one ⟨O,l,r.imp mono⟩)
 .rcases Ô.mp ha with ha|ha
  .exact S.sep f ha k
  simp_all
theorem bw.side(S:bw i v q a d)(w:h∉v)(hz:¬ q h)(x:∀B1 u,d h≠some (.cZ B1 u))(y:∀o,d h≠some (.xd o)):bw i v q a (upd d h B1)/\∀g j,aw v q d g j->aw v q (upd d h B1) g j:=by
 have mono:∀g j,aw v q d g j->aw v q (upd d h B1) g j:=λg j r=>r.mono (λ_ _ e=>e) (λf u z e=>by rwa[ax (λ(k)=>hz (by simp_all))]) λ_ z=>z
 have p:∀{n:List _}{m:List _},(∀f∈m,f∈v)->aE (λc f=>hJ i (aw v q d) d f c) n m->aE (λc f=>hJ i (aw v q (upd d h B1)) (upd d h B1) f c) n m:=by
  intro n m A B
  induction B with
  |nil=>exact .nil
  |@cons c f n m r t E=>
   have s:f≠h:=λk=>w (by simp_all)
   exact .cons (r.imp mono (λu e=>by rwa[ax s]) (λb C D e=>by rwa[ax (λk=>x C D (by simp_all))]) λb o e=>by rwa[ax (λk=>y o (by simp_all))]) (by simp_all)
 exact⟨⟨S.sh,p (λf l=>l) S.zm,S.sep,λf z=>by rw[ax (λ(k)=>hz (by simp_all))];exact S.dom f z⟩,mono⟩
variable{M0:IM}
theorem pY(t0:yE c i r m R M0)(u0:∀(d:D) (ds:List D) x α g Ω H (t:L2.St) (k:L2.St->Hp->Prop),tJ b d=some (ds.map some)->bw i α g Ω H->aw α g H d x->(∀vs,aE (aw α g H) ds vs->k (vs.map some++t) H)->m5 x (ć l.length none++t) H k)(hb:∀T h j n fp,PG (blk c π T h (l++ω) j n fp) m m5/\((L=[]/\C=true)\/∃G,L=[G]/\C=false/\jL (blk c π T h (l++ω) j n fp) i jY G Z)/\bc (blk c π T h (l++ω) j n fp) i jY G2 p):
  ∀c0 Z0 H0 ρ Ω,∃wi tc te,PI c m R wi/\(∀T h j n fp,PG (blk c π T h (l++ω) j n fp) m m5/\G_ (blk c π T h (l++ω) j n fp) L tc/\PE (blk c π T h (l++ω) j n fp) G2 te) /\
   ∀σ H Q,tO i r c0 Z0 H0 (cb p C Z M0 b P) ρ Ω σ H Q->pI wi l.length P m5 tc te σ H Q:=by
 intro c0 Z0 H0 ρ Ω
 let tc:TT:=λt H Q=>∃α g Ω A,cW i α g H α g Ω A t H/\sj i jY α g H (lD C Z A Ω) Q
 let te:TE:=λt H Q=>∃α g Ω A,cW i α g H α g Ω A t H/\bJ i jY α g H (p A Ω) Q
 refine⟨_,tc,te,t0 c0 Z0 H0 ρ Ω,(by
  intro T h j n fp;refine ur (hb T h j n fp) λh1 h2 h3=>?_
  refine⟨h1,?_,?_⟩
  .rcases h2 with ⟨e,hn⟩|⟨G,e,hn,h2⟩
   .subst e
    intro pins s t H Q I q;refine iH q λα g Ω A S k=>?_
    rw[lD,if_pos hn]at k;exact Ek pins s t H Q I (k H α g (cA.refl S.st.has) S.st)
   .subst e
    intro pins s t H Q I q;refine iH q λα g Ω A S k=>?_
    rw[lD,if_neg (by rw[hn];exact aaC)]at k
    exact El (h2 α g H A Ω) pins s t H Q I ⟨α,g,S,k⟩
  .intro pins s t H Q I q
   refine iH q λα g Ω A S k=>?_
   exact h3 α g H A Ω pins s t H Q I ⟨α,g,S,k⟩),?_⟩
 rintro σ H Q ⟨α,g,S,k⟩;refine⟨α,g,S,?_⟩;simp only[cb]at k;cases qi:M0 ρ Ω with
 |exc x d0=>rw[qi]at k;exact k
 |bad=>rw[qi]at k;exact k.elim
 |ok e0 d0=>
  rw[qi]at k;dsimp only at k;intro J H1 f0 Z1 g1 s1 w1 N hD;cases qg:ux C Z p b (fk P ρ) e0 fuel 0 [] d0 with
  |exc x l0=>rw[qg]at k;exact k.elim
  |bad=>rw[qg]at k;exact k.elim
  |ok ys l0=>
   rw[qg]at k;have b0:¬ Z1 N:=λz=>s1.dom N z hD
   have K:N∉f0:=λz=>s1.has N z hD
   refine⟨λw f vs H2=>∃B Z2 E M,cA f0 Z1 H1 B Z2 H2/\bw i B Z2 E H2/\N∉B/\¬ Z2 N/\H2 N=some (.lst vs)/\aE (aw B Z2 H2) M vs/\ux C Z p b (fk P ρ) e0 f w M E=.ok ys l0,
    ⟨fuel,f0,Z1,d0,[],?_,?_,K,b0,aR,.nil,qg⟩,?_⟩
   .exact⟨λ_ _ e=>e,λ_ z=>z,λ_ z=>.inl z,λ_ z=>.inl z,λa o e _=>by rw[ax (aZ e hD)];exact e,λa ha=>by rw[ax (λ(q:a=N)=>K (by rw[←q];exact ha))];exact s1.has a ha,λa o u e=>by rw[ax (aZ e hD)];exact e⟩
   .exact(s1.side K b0 (by grind) (by grind)).1
   rintro w f vs H2 ⟨B,Z2,E,M,O,s2,nD,nZ,U,r2,F⟩;refine⟨U,?_⟩;cases f with
   |zero=>cases F
   |succ f=>
    simp only[ux]at F;cases qs:et e0 E with
    |none=>simp_all
    |some ds=>
     rw[qs]at F;dsimp only at F;obtain⟨v0,w0⟩:=w1 B Z2 E H2 ds O s2 qs;cases qd:ds[w]? with
     |none=>
      rw[qd]at F;cases F;refine .inl ⟨w0 w (List.getElem?_eq_none_iff.mp qd),?_⟩
      exact k _ H2 _ Z2 (g1.trans ⟨λb a e=>by rw[Û (ZS.mp (O.pre b a e)).1];exact O.pre b a e,O.sub,O.new,λa ha=>by
       rcases Ô.mp ha with ha|ha
       .exact O.Hb a ha
       .rw[W'.mp ha];exact .inr hD,O.frm,O.has,O.cZ⟩) (s2.part U nD nZ r2) (fK s2 N)
     |some d=>
      rw[qd]at F;dsimp only at F;obtain⟨x0,y0⟩:=v0 w d qd;cases qt:tJ b d with
      |none=>simp_all
      |some ts=>
       rw[qt]at F;dsimp only at F;obtain⟨es,rfl⟩:=Fg qt
       by_cases V:small (M.length+1)=true
       .rw[if_pos V]at F
        have V:=bE V;refine .inr ⟨x0,by rw[r2.length];exact V,λx H3 yl=>?_⟩
        refine bF (y0 x H3 yl) λZ3 g3 s3 rx=>?_
        have g0:=g3.frm N _ U nD;refine u0 d es x B Z3 E H3 (ti P σ) _ qt s3 rx λws m0=>?_
        have gB:=g1.trans (O.trans g3);refine⟨B,Z3,E,_,(tK (P:=P) S gB s3 m0),?_⟩;cases qc:lD C Z _ E with
        |exc x X=>simp_all
        |bad=>simp_all
        |ok h0 X=>
         rw[qc]at F;intro H5 n0 Z5 Y s5;have i0:=Y.Hf nD g0;have o0:=Y.IY (g3.IY nZ U) g0;have a0:=Y.frm N _ g0 nD;cases h0 with
         |false=>
          exact⟨f,Ť _,n0,Z5,X,M,O.trans (g3.trans Y),s5,i0,o0,a0,s3.lZ Y (s2.lZ g3 r2),F⟩
         |true=>
          dsimp only at F;refine⟨n0,Z5,X,_,(tK (P:=P) S (gB.trans Y) s5 (s3.lZ Y m0)),?_⟩;cases qe:p _ X with
          |exc x p0=>simp_all
          |bad=>simp_all
          |ok y p0=>
           rw[qe]at F;intro v H6 z0 Z6 g6 s6 rv;have r0:=g6.Hf i0 a0;have s0:=g6.IY o0 a0;have j0:=g6.frm N _ a0 i0;obtain⟨s7,m7⟩:=s6.side r0 s0 (λo u z=>by rw[j0]at z;cases z) (λfs z=>by rw[j0]at z;cases z)
           refine⟨j0,f,Ť _,z0,Z6,p0,M++[y],((O.trans (g3.trans Y)).trans g6).side K hD,s7,r0,s0,aR,((s5.lZ g6 (s3.lZ Y (s2.lZ g3 r2))).append (.one rv)).imp m7,F⟩
       simp_all
theorem oj(q:yE c i r (.Name e n) m M0)(G:π.names.lookup e=some .local)(s:([e]++l).Nodup)(I:∀j b f g fp,((L=[]/\C=true)\/∃h,L=[h]/\C=false/\jL (blk c π j b ([e]++l) f g fp) i jY h Z)/\bc (blk c π j b ([e]++l) f g fp) i jY R p):
  ∀t J K M Ω,∃z A B,PI c (.Name e n) m z/\(∀j b f g fp,PG (blk c π j b ([e]++l) f g fp) (.Name e n) (ki 0)/\G_ (blk c π j b ([e]++l) f g fp) L A/\PE (blk c π j b ([e]++l) f g fp) R B) /\
   ∀D H Q,tO i r t J K (cb p C Z M0 0 P) M Ω D H Q->pI z [e].length P (ki 0) A B D H Q:=by
 have E:(ċ _ c.env).names.lookup e=some _:=aaM G;refine pY q (λd F y X u Ω H N k w S O T=>?_) λj b f g fp=>?_
 .have o:F=[d]:=by
   injection w with w;cases F with
   |nil=>cases w
   |cons a x=>
    simp_all
  subst o;exact T _ (.one O)
 .obtain⟨U,V⟩:=I j b _ _ fp
  exact⟨kj s rfl (.inl E) (.inr E),U,V⟩
theorem Bk(k:c.calm=true)(B:jJ c π [e] l P)(o:∀z,ý m c.env z=pure z)(g:yE c i r (.Name e J) m M0)(q:π.names.lookup e=some .local)(h:([e]++l).Nodup)(s:∀j a d f fp,((L=[]/\C=true)\/∃b,L=[b]/\C=false/\jL (blk c π j a ([e]++l) d f fp) i jY b Z)/\bc (blk c π j a ([e]++l) d f fp) i jY R p):
  bc c i r (.ListComp R [⟨.Name e J,m,L,0⟩] π n) (cb p C Z M0 0 P):=by
 intro t u w x y;obtain⟨F,G,H,A,D,E⟩:=oj g q h s _ u w x y;exact PE.imp (wb k B A o (lW 1 (by decide)) D) E
inductive gz where
 |nx (ρ:bh) (Ω:aG)|bk (ρ:bh) (Ω:aG)|ct (ρ:bh) (Ω:aG)|rt (d:D) (Ω:aG)|exc (x:D) (Ω:aG)|bad
abbrev SM:=bh->aG->gz
def eR(κ:Str->b'->Prop)(g:hX)(a:List b')(c:b'->Prop)(e:Hp)(E:Ends):gz->Prop
 |.nx f Ω=>∀b H α Z,cW κ a c e α Z Ω f b H->E.nx b H
 |.bk f Ω=>∀b H α Z,cW κ a c e α Z Ω f b H->E.bk b H
 |.ct f Ω=>∀b H α Z,cW κ a c e α Z Ω f b H->E.ct b H
 |.rt d Ω=>∀v H α Z,cA a c e α Z H->bw κ α Z Ω H->aw α Z H d v->E.rt v H
 |.exc x Ω=>∀H α Z,cA a c e α Z H->bw κ α Z Ω H->g x Ω α Z H
 |.bad=>False
noncomputable def Lp(κ:Str->b'->Prop)(f:hX)(a:List b')(b:b'->Prop)(d:Hp)(c:SM)(e:bh)(Ω:aG):TS:=λE g H=>∃h Z,cW κ a b d h Z Ω e g H/\eR κ f a b d E (c e Ω)
def jO(X:Cx)(κ:Str->b'->Prop)(b:hX)(st:D')(c:SM):Prop:=∀a d e f g,PS X st (Lp κ b a d e c f g)
def jG(X:Cx)(κ:Str->b'->Prop)(d:hX)(a:List D')(c:SM):Prop:=∀b e f g h,jD X a (Lp κ d b e f c g h)
noncomputable def cJ{β:Type}(r:ay β)(k:β->aG->gz):gz:=match r with
 |.ok a b=>k a b
 |.exc x b=>.exc x b
 |.bad=>.bad
noncomputable def ao:SM:=λa b=>.nx a b
noncomputable def aq(a b:SM):SM:=λe f=>match a e f with
 |.nx c d=>b c d
 |r=>r
def aH(i:Nat)(m:EM):SM:=λb c=>cJ (m b c) λd a=>.nx (b.set i (some d)) a
def cw(m:EM):SM:=λb c=>cJ (m b c) λ_ a=>.nx b a
def bf(m:EM):SM:=λb c=>cJ (m b c) λd a=>.rt d a
noncomputable def Bl:SM:=λ_ a=>.rt .non a
def dk(m:EM)(a b:SM):SM:=λd e=>cJ (df (m d e)) λt c=>if t=true then a d c else b d c
noncomputable def cu:SM:=λ_ _=>.bad
def iW(m:EM)(b:SM):Nat->SM
 |0,_,_=>.bad
 |f+1,d,Ω=>cJ (df (m d Ω)) λt c=>if t=true then (match b d c with
  |.nx a az=>iW m b f a az
  |.ct a az=>iW m b f a az
  |.bk a az=>.nx a az
  |r=>r)else .nx d c
def pf(m:EM)(b:SM):SM:=iW m b fuel
noncomputable def h_:List Nat->List D->bh->bh
 |i::b,d::c,a=>h_ b c (a.set i (some d))
 |_,_,a=>a
noncomputable def dH(i:Nat)(d:D)(a:bh):Option bh:=some (a.set i (some d))
def gs(a:List Nat)(d:D)(c:bh):Option bh:=match d with
 |.tup b=>if b.length=a.length then some (h_ a b c)else none
 |_=>none
def iX(c:D->bh->Option bh)(e:Src)(b:SM):Nat->Nat->SM
 |0,_,_,_=>.bad
 |f+1,i,h,Ω=>match et e Ω with
  |none=>.bad
  |some j=>match j[i]? with
   |none=>.nx h Ω
   |some d=>match c d h with
    |none=>.bad
    |some g=>match b g Ω with
     |.nx a az=>iX c e b f (i+1) a az
     |.ct a az=>iX c e b f (i+1) a az
     |.bk a az=>.nx a az
     |r=>r
def dy(a:D->bh->Option bh)(e:IM)(b:SM):SM:=λd f=>cJ (e d f) λs c=>iX a s b fuel 0 d c
def Bm(e:List Nat)(m:EM):SM:=λc f=>cJ (m c f) λd a=>match gs e d c with
 |some b=>.nx b a
 |none=>.bad
theorem cW.set{κ:Str->b'->Prop}{α a:List b'}{Z c:b'->Prop}{Ω:aG}{H e:Hp}{f:bh}{g:L2.St}(S:cW κ a c e α Z Ω f g H){d:D}{v:V}(r:aw α Z H d v)(i:Nat):cW κ a c e α Z Ω (f.set i (some d)) (g.set i (some v)) H:=by
 refine⟨S.st,S.gr,by simp[S.len],λj k h=>?_⟩
 by_cases b:i=j
 .subst b
  have l:=by
   have:=(ZS.mp h).1;simpa using this
  rw[Ň l]at h;cases h;exact⟨v,by rw[Ň (by rwa[S.len])],r⟩
 .rw[ă b]at h ⊢
  exact S.val j k h
variable{L6:Ends}
theorem eR.use{k:D->aG->gz}(S:cW i J0 Q1 ο v q a u d0 d)(f:eR i r J0 Q1 ο L6 (cJ W0 k))(h:∀b e c l j m,W0=.ok b e->cA v q d j m l->cW i J0 Q1 ο j m e u d0 l->aw j m l b c->eR i r J0 Q1 ο L6 (k b e)->η c l):bJ i r v q d W0 η:=by
 cases W0 with
 |ok b e=>exact λc l j m g s n=>h b _ c l _ m rfl g (S.grow g s) n f
 |exc x e=>exact λl j m g s=>f l _ m (S.gr.trans g) s
 |bad=>exact f
theorem eR.IZ{k:Bool->aG->gz}(S:cW i J0 Q1 ο v q a u d0 d)(f:eR i r J0 Q1 ο L6 (cJ B9 k))(h:∀t b e c l,B9=.ok t b->cA v q d c l e->cW i J0 Q1 ο c l b u d0 e->eR i r J0 Q1 ο L6 (k t b)->l9 t e):sj i r v q d B9 l9:=by
 cases B9 with
 |ok j b=>exact λe c l g s=>h j _ e _ l rfl g (S.grow g s) f
 |exc x b=>exact λe c l g s=>f e _ l (S.gr.trans g) s
 |bad=>exact f
theorem jD.ex{b:Type}{t:b->TS}(h:∀i,jD c W1 (t i)):jD c W1 (λD a H=>∃i,t i D a H):=λpins s a H D I  d =>xe d λi q=>h i _ s a H D I q
theorem dm:jG c i r [] ao:=by
 intro b e g j k;refine jD.imp (λ_ _ a H _ I h=>Ę ⟨a,H,I,h⟩) ?_
 rintro E a H ⟨d,Z,S,f⟩;exact f a H d Z S
variable{D4 S:SM}
theorem bP(m:jO c i r ν S)(n:jG c i r W1 D4):jG c i r (ν::W1) (aq S D4):=by
 intro g h j k l;refine jD.imp (zw (m g h j k l) (jD.ex λp:bh×aG=>n g h j p.1 p.2)) ?_
 rintro E y H ⟨o,Z,b,f⟩;refine⟨o,Z,b,?_⟩;simp only[aq]at f;cases q:S k l with
 |nx e a=>rw[q]at f;exact λs z t u w=>⟨(e,a),_,u,w,f⟩
 |bk e a=>rwa[q]at f
 |ct e a=>rwa[q]at f
 |rt d a=>rwa[q]at f
 |exc x a=>rwa[q]at f
 |bad=>rwa[q]at f
theorem Bn:jO c i r (.Return none n) Bl:=by
 intro a d e g h;refine PS.imp Dz ?_;rintro E j H ⟨b,Z,S,f⟩;exact f _ H b Z S.gr S.st (aP rfl)
theorem gu(h:bc c i r m p):jO c i r (.Return (some m) n) (bf p):=by
 intro b l o q t
 refine PS.imp (by
   have u:=(h b l o q t);intro pins s e H D I h;exact wpAny_Return_some (cj (u _ s e H _ I h) λv K  w =>aW w λx j y z A=>⟨x,e,j,y,z,A⟩)) ?_
 rintro E e H ⟨B,Z,S,f⟩;exact⟨B,Z,S,eR.use S f λd C v j F G _ g k a J=>J v j _ G k.gr k.st a⟩
theorem ib(k:c.N.Nodup)(l:c.N[b]?=some e)(o:Loc c.env.scope e)(q:c.fn e=true\/c.env.scope.names.lookup e=some .local)(s:Ù m (some (.Name e J)) n.line c.env=pure false)(h:bc c i r m p):
  jO c i r (.Assign [.Name e J] m n) (aH b p):=by
 intro j t u w x;refine PS.imp (HQ k l o (h j t u w x) s q) ?_;rintro E G H ⟨y,Z,S,f⟩;exact⟨y,Z,S,eR.use S f λd z v A B C _ g D a F=>F _ A _ C (D.set a b)⟩
theorem Bo(F:c.N.Nodup)(G:c.N[b]?=some e)(I:c.env.scope.names.lookup e=some .local)(K:Ù (.ListComp m [⟨G2,R,L,0⟩] π n) (some (.Name e J)) J.line c.env=pure true)(M:c.calm=true)(B:jJ c π l ω P)(O:∀e,ý R c.env e=pure e)(t:∀v k H Q,m5 v k H Q->m5 v k H λo T=>Q o T/\o.length=k.length/\∀j,l.length<=j->o[j]?=k[j]?)(h:∀s u w x Ω,∃y z A,PI c G2 R y/\(∀D C a g fp,PG (blk c π D C (l++ω) a g fp) G2 m5/\G_ (blk c π D C (l++ω) a g fp) L z/\PE (blk c π D C (l++ω) a g fp) m A) /\
   ∀k H Q,tO i r s u w p x Ω k H Q->pI y l.length P m5 z A k H Q)(U:P0.line=J.line):
  jO c i r (.Assign [.Name e J] (.ListComp m [⟨G2,R,L,0⟩] π n) P0) (aH b p):=by
 intro s u w x Ω;obtain⟨y,z,A,V,X,Y⟩:=h _ u w x Ω;refine PS.imp (uY F G I (by rwa[U]) M B V O t X) ?_
 rintro E k H ⟨α,Z,S,f⟩;exact Y k H _ ⟨α,Z,S,eR.use S f λd a0 v H1 b0 Z1 _ m5 S1 q f1=>f1 _ H1 _ Z1 (S1.set q b)⟩
theorem wF(e:Ù m none n.line c.env=pure false)(h:bc c i r m p):jO c i r (.Expr m n) (cw p):=by
 intro a j k l o;refine PS.imp (vI (h a j k l o) e) ?_;rintro E z H ⟨q,Z,S,f⟩;exact⟨q,Z,S,eR.use S f λd s v t u w _ g x b y=>y _ t _ w x⟩
variable{Y7:List D'}
theorem om(q:jL c i r m p)(s:jG c i r W1 S)(u:jG c i r Y7 D4):jO c i r (.If m W1 Y7 n) (dk p S D4):=by
 intro d e h j w;refine PS.imp (GL (q d e h j w) (jD.ex λb=>s d e h j b) (jD.ex λb=>u d e h j b)) ?_
 rintro E z H ⟨x,Z,a,f⟩;refine⟨x,Z,a,eR.IZ a f λt b A y k _ g l o=>?_⟩
 cases t with
 |true=>exact sT ⟨_,_,k,l,o⟩
 |false=>exact sS ⟨_,_,k,l,o⟩
theorem jt:jO c i r ν cu:=by rintro a b d e g pins s h H E I ⟨j,Z,S,f⟩;exact f.elim
theorem yF(O:Ŋ (l' c.prog c.w) c.A c.env c.xe)(P:jL c i r m p)(Q:jG c i r W1 S):jO c i r (.While m W1 [] n) (pf p S):=by
 intro j s u y z;refine PS.imp (zy O (PT.ex λa:bh×aG=>P j s u a.1 a.2) (jD.ex λa:bh×aG=>Q j s u a.1 a.2)) ?_
 rintro E J H ⟨B,Z,h,f⟩;refine⟨λf J H=>∃B Z y z,cW i _ s u B Z z y J H/\eR i r _ s u E (iW p S f y z),⟨_,B,Z,y,z,h,f⟩,?_⟩
 rintro f R Y ⟨T,U,k,C,K,L⟩;cases f with
 |zero=>exact L.elim
 |succ f=>
  refine⟨(k,C),_,U,K,eR.IZ K L λt D H2 V X _ g M b=>?_⟩
  cases t with
  |false=>
   exact sS (b _ _ _ _ M)
  |true=>
   refine sT ⟨_,λl N q=>⟨f,by simp,q⟩,(k,D),_,X,M,?_⟩
   cases q:S _ _ with
   |nx o e=>rw[q]at b;exact λl N F G I=>⟨_,G,_,_,I,b⟩
   |ct o e=>rw[q]at b;exact λl N F G I=>⟨_,G,_,_,I,b⟩
   |bk o e=>rwa[q]at b
   |rt d e=>rwa[q]at b
   |exc x e=>rwa[q]at b
   |bad=>rwa[q]at b
def Bp(κ:Str->b'->Prop)(e:D->bh->Option bh)(g:TG):Prop:=
 ∀(d:D) (x:V) a h i f Z j l b m H (k:L2.St->Hp->Prop),cW κ a h i f Z j l m H->aw f Z H d x->e d l=some b->(∀c,cW κ a h i f Z j b c H->k c H)->g x m H k
variable{A5:D->bh->Option bh}
theorem wG(hp:Ŋ (l' c.prog c.w) c.A c.env c.xe)(hc:c.calm=true)(hi:yE c i r R m M0)(hg:PG c R m5)(O:Bp i A5 m5)(hb:jG c i r W1 S)(hs:∀x,ý m c.env x=pure x):jO c i r (.For R m W1 [] n) (dy A5 M0 S):=by
 intro P K L F M;have Q:jD c W1 (λD G H=>∃p o t e g,Lp i r _ o t S _ _ D G H):=λpins s G H D I  zf =>xe zf λp T=>xe T λo U=>xe U λt V=>xe V λe X=>xe X λg q=>hb p o t e g _ s G H D I q
 refine PS.imp (HS hp hc (hi P K L F M) hg Q hs) ?_;rintro E G H ⟨α,Z,h,f⟩;refine⟨α,Z,h,?_⟩;simp only[dy]at f;cases Y:M0 F M with
 |exc x a0=>rw[Y]at f;exact λt p o m5 s=>f t _ o (h.gr.trans m5) s
 |bad=>rwa[Y]at f
 |ok g0 a0=>
  rw[Y]at f;intro J t p o g1 s1 w1;have S1:=h.grow g1 s1;refine⟨λb f G H=>∃z N F M,cW i _ K L z N M F G H/\cA _ o t z N H/\eR i r _ K L E (iX _ _ S f b F M),⟨_,_,o,F,_,S1,cA.refl s1.has,f⟩,?_⟩
  rintro b f h0 H2 ⟨z,N,i0,j0,S2,g2,a⟩;cases f with
  |zero=>exact a.elim
  |succ f=>
   simp only[iX]at a;cases qs:et _ _ with
   |none=>rw[qs]at a;exact a.elim
   |some ds=>
    rw[qs]at a;dsimp only at a;obtain⟨b0,l0⟩:=w1 _ N _ H2 ds g2 S2.st qs;cases qd:ds[b]? with
    |none=>
     rw[qd]at a;exact .inl ⟨by simp_all,a _ H2 _ N S2⟩
    |some d=>
     rw[qd]at a;dsimp only at a;obtain⟨c0,d0⟩:=b0 b d qd;cases qp:A5 d _ with
     |none=>rw[qp]at a;exact a.elim
     |some m0=>
      rw[qp]at a;dsimp only at a;refine .inr ⟨c0,_,λk l q=>⟨f,by simp,q⟩,λx H3 yl=>?_⟩
      refine bF (d0 x H3 yl) λZ3 g3 s3 rx=>?_
      refine O d x _ K L _ Z3 _ _ _ _ H3 _ (S2.grow g3 s3) rx qp λn0 S4=>?_
      have base:=S1.gr;have gL:=g2.trans g3;have B:∀{e0 Z4 f0 e k l},cW i _ o t _ Z4 _ _ _ l->cW i _ K L e0 Z4 f0 e k l:=λj=>⟨j.st,base.trans j.gr,j.len,j.val⟩
      refine⟨_,o,t,_,_,_,Z3,⟨S4.st,gL,S4.len,S4.val⟩,?_⟩;cases q:S _ _ with
      |nx e g=>rw[q]at a;exact λk l u y j=>⟨_,y,_,_,B j,j.gr,a⟩
      |ct e g=>rw[q]at a;exact λk l u y j=>⟨_,y,_,_,B j,j.gr,a⟩
      |bk e g=>rw[q]at a;exact λk l u y j=>a _ l _ y (B j)
      |rt d g=>rw[q]at a;exact λv l u y m5 s C=>a v l _ y (base.trans m5) s C
      |exc x g=>rw[q]at a;exact λl u y m5 s=>a l _ y (base.trans m5) s
      |bad=>rwa[q]at a
theorem I_(a:Nat):Bp i (dH a) (ki a):=λd x b f g j Z l m c n H k S r e h=>by
 cases e;exact h _ (S.set r a)
theorem oo{κ:Str->b'->Prop}{α a:List b'}{Z m:b'->Prop}{Ω:aG}{H n:Hp}:∀(b:List Nat) (c:List D) (g:List V) {j:bh}{e:L2.St},aE (aw α Z H) c g->c.length=b.length->cW κ a m n α Z Ω j e H->∀(k:L2.St->Hp->Prop),(∀f,cW κ a m n α Z Ω (h_ b c j) f H->k f H)->g_ b g e H k
 |[],[],g,j,e,r,_,S,k,h=>by rw[r.nil_inv];exact⟨rfl,h e S⟩
 |i::b,d::c,g,j,e,r,l,S,k,h=>by
  obtain⟨v,o,rfl,p,q⟩:=r.cons_inv;exact⟨v,o,rfl,oo b c o q (by simp_all) (S.set p i) k h⟩
 |[],_::_,_,_,_,_,l,_,_,_=>by simp at l
 |_::_,[],_,_,_,_,l,_,_,_=>by simp at l
theorem Bq(b:List Nat):Bp i (gs b) (uB A b.length (g_ b)):=λd x g o p q Z s t j u H k S r e h=>by
 cases d with
 |tup l=>
  simp only[gs]at e;split at e
  .rename_i m
   cases e;obtain⟨a,c,rfl,_,n,f⟩:=er r;exact⟨a,c,rfl,uv (.inl n),by rwa[f.length],oo b l c f m S k h⟩
  .exact bQ e
 |_=>exact bQ e
theorem Fh(t:PG c (.Tuple L b n) (uB c.K P.length (g_ P)))(u:AL m=true)(h:bc c i r m p):jO c i r (.Assign [.Tuple L b n] m J) (Bm P p):=by
 intro e k l o w;refine PS.imp (HP (h e k l o w) t (by cases m<;>first|rfl) (by cases m<;>first|rfl | (cases u))) ?_
 rintro E x H ⟨y,Z,S,f⟩;refine⟨y,Z,S,eR.use S f λd z v q A s _ g B a j=>?_⟩
 split at j
 .rename_i C D
  exact Bq P d v _ k l _ s _ o _ x q _ B a D λF G=>j _ q _ s G
 .exact j.elim
abbrev aV:=List D->aG->ay D
def bH(κ:Str->b'->Prop)(F:aV):Sp:=λd H Q _=>∃a Z b c,bw κ a Z b H/\aE (aw a Z H) c d/\bJ κ jY a Z H (F c b) Q
noncomputable def Hg{β:Type}(r:ay β):ay β:=match r with
 |.ok d a=>.ok d a
 |_=>.bad
def a6(F:aV):aV:=λa b=>Hg (F a b)
structure Hh(X:Cx)(κ:Str->b'->Prop)(k:Nat)(x:Str)(F:aV):Prop where
 ex:∃(f:b') (fd:N') (ps:List Str),X.mg x=some (.ref f)/\Z_ X.K (.ref f)=true/\Binds X.K fd ps []/\bq X.prog X.w X.K X.mg X.base eA k f fd ps (bH κ F)
noncomputable def rj(Ω:aG):D->Option (Nat×Str×List (Str×D))
 |.ref k=>match Ω[k]? with
  |some (.ins C fs)=>some (k,C,fs)
  |_=>none
 |_=>none
def ic(Cs:List Str)(f:Str)(x:D)(Ω:aG):ay D:=match rj Ω x with
 |some (_,C,a)=>if Cs.contains C then (match a.lookup f with
  |some d=>.ok d Ω
  |none=>.bad)else .bad
 |none=>.bad
noncomputable def tL(f:Str)(v:D):List (Str×D)->List (Str×D)
 |[]=>[(f,v)]
 | (g,x)::r=>if g=f then (g,v)::r else (g,x)::tL f v r
def cC(C m:Str)(F:aV)(d:EM)(as:AM):EM:=λc e=>(d c e).bind λx a=>match rj a x with
 |some (_,f,g)=>if f=C/\g.lookup m=none then (as c a).bind λh b=>a6 F (x::h) b else .bad
 |none=>.bad
noncomputable def rl(C:Str)(F:aV)(xs:List D)(Ω:aG):ay D:=match F (.ref Ω.length::xs) (Ω++[.ins C []])with
 |.ok .non a=>.ok (.ref Ω.length) a
 |_=>.bad
def ft(Cs:List Str)(f:Str)(e g:EM):SM:=λb h=>cJ (g b h) λy c=>cJ (e b c) λx a=>match rj a x with
 |some (k,C,d)=>if Cs.contains C&&decide (d.length<1000)then .nx b (a.set k (.ins C (tL f y d)))else .bad
 |none=>.bad
def oq(x y v:D)(Ω:aG):Option aG:=match x with
 |.ref k=>match Ω[k]? with
  |some (.dK a)=>match rf y with
   |some b=>if small (a.length+1)then some (Ω.set k (.dK (eO a b v)))else none
   |none=>none
  |some (.dT a)=>match A_ y with
   |some b=>if small (a.length+1)then some (Ω.set k (.dT (eO a b v)))else none
   |none=>none
  |some (.lst c)=>match y with
   |.int i=>match L2.zK c.length i with
    |some n=>some (Ω.set k (.lst (c.set n v)))
    |none=>none
   |_=>none
  |_=>none
 |_=>none
def iY(f g h:EM):SM:=λa i=>cJ (h a i) λv b=>cJ (f a b) λx c=>cJ (g a c) λy d=>match oq x y v d with
 |some e=>.nx a e
 |none=>.bad
theorem bJ.ok0(h:bJ i r v q d (Hg W0) η):bJ i jY v q d W0 η:=by
 cases W0 with
 |ok a b=>exact h
 |exc x b=>exact h.elim
 |bad=>exact h
variable{y:aV}
theorem yG(F0:Hh c i b e y)(d:bA b c.A)(j:Gl c e)(a:(e==("__debug__":Str))=false):bc c i r (.Call (.Name e J) [] [] n) (mN (a6 y) ak):=by
 refine dI F0.ex λf u w k l m F1=>?_
 intro o x z B p
 refine PE.imp (by
   intro pins s q H Q I h;refine Ć (eW I j k (ϴ I.fg l (qC F1 d m .nil lU I .nil h)) a)) ?_
 rintro q H Q ⟨t,Z,S,g⟩;exact⟨t,Z,p,[],S.st,.nil,bJ.ok0 g⟩
theorem eS:∀{b:List (Str×D)}{a:List (Str×V)},jE Q5 b a->(∀d,b.lookup e=some d->∃v,a.lookup e=some v/\Q5 d v)/\(b.lookup e=none->a.lookup e=none):=by
 intro b a h
 induction h with
 |nil=>simp
 |@cons p q g i r t c=>
  obtain⟨k,d⟩:=p;obtain⟨f,v⟩:=q;obtain⟨rfl,r⟩:k=f/\Q5 d v:=r;rw[Ă,Ă];cases e==k with
  |true=>exact⟨λ_ h=>by cases h;exact⟨_,rfl,r⟩,λh=>nomatch h⟩
  |false=>exact c
variable{Q3:List (Str×D)}{i4:List (Str×V)}
theorem Br(r:Q5 j x)(h:jE Q5 Q3 i4):jE Q5 (tL e j Q3) (iK e x i4):=by
 induction h with
 |nil=>exact .cons ⟨rfl,r⟩ .nil
 |@cons p q f g b t c=>
  obtain⟨b,d⟩:=b;obtain⟨k,j⟩:=p;obtain⟨i,l⟩:=q;cases b;simp only[tL,iK]
  by_cases a:k=e
  .rw[if_pos a,if_pos a];exact .cons ⟨rfl,r⟩ t
  .rw[if_neg a,if_neg a];exact .cons ⟨rfl,d⟩ c
theorem gP(S:bw i v q a d)(r:aw v q d j x)(h:rj a j=some (b,e,Q3)):∃c g l f,x=.ref c/\j=.ref b/\v[b]?=some c/\i e g/\d c=some (.ins g l f)/\jE (aw v q d) Q3 f:=by
 cases j with
 |ref n=>
  simp only[rj]at h;split at h
  .rename_i p f m
   simp only[aw]at r;refine bV (S.cell m) λs o k=>cB k λg l f t u w=>?_
   grind
  .exact bQ h
 |_=>exact bQ h
def lE(K:A')(κ:Str->b'->Prop)(Cs:List Str)(f:Str):Prop:=∀C a,Cs.contains C=true->κ C a->lg K a/\dw K a f
theorem Fi(j:lE c.K i l e)(o:ì m e c.env (eval m c.env)=eval m c.env)(q:bc c i r m p):bc c i r (.Attribute m e n) (m1 (ic l e) p):=
 kG (λG s=>HZ s o) q λf x I Z J H Q S t g=>by
  unfold ic at g;split at g
  .rename_i k C L u
   refine bz (gP S t u) λa h f w b _ _ y z A=>?_;subst b
   split at g
   .rename_i B
    obtain⟨c1,c2⟩:=j C h B y;split at g
    .rename_i d D
     refine bV ((eS A).1 d D) λv E F=>⟨a,h,f,_,v,rfl,z,c1,c2,E,bJ.ret S F g⟩
    .exact g.elim
   .exact g.elim
  .exact g.elim
def Hi(P:X')(w:O')(K:A')(i:Str->Option f')(base:y')(κ:Str->b'->Prop)(k:Nat)(C m:Str)(F:aV)(c f:b')(d:N')(e:List Str):Prop:=
 (∀a,κ C a->a=c)/\lg K c/\Meth K c m f/\∃(g:List f') (b:List V) (h:List D) (F1:aV),Binds K d e g/\Vals b g/\(∀j Z H,aE (aw j Z H) h b)/\bq P w K i base eA k f d e (bH κ F1)/\F=λl=>F1 (l++h)
structure wH(X:Cx)(κ:Str->b'->Prop)(k:Nat)(C m:Str)(F:aV):Prop where
 ex:∃(Ca f:b') (fd:N') (ps:List Str),Hi X.prog X.w X.K X.mg X.base κ k C m F Ca f fd ps
theorem Bs(d:wH c i b e M y)(G:bA b c.A)(I:bc c i r R p)(K:nV c i r (m::L) Θ){pl:Ø Bool}(l:x' (m::L) c.env=(false,eval m c.env)::x' L c.env)(o:(ZP n (x' L c.env)).any (·.1)=false)(N:eval (.Call (.Attribute R M J) (m::L) [] n) c.env=(do
   let B ←eval R c.env
   Þ J.atName
   let (f,first) ←ß [B] (ê B M pl)
   õ n f first (ZP n (x' (m::L) c.env)) (â n (ã [] c.env)))):
  bc c i r (.Call (.Attribute R M J) (m::L) [] n) (cC e M y p Θ):=by
 obtain⟨Ca,f,fd,ps,O,q,P,T,U,Dd,F0,V,s,X,F1,rfl⟩:=d.ex;intro h C D E Y;refine PE.imp (DG (I h C D E Y) q P F1 G V s lU (PA.ex λj=>K h C D E j) l o N) ?_
 rintro σ H Q ⟨α,Z,S,g⟩;refine⟨α,Z,S,bJ.use g λx j _ v H1 a0 Z1 g1 t F k=>?_⟩
 split at k
 .rename_i u C' fs hk
  split at k
  .rename_i hc
   obtain⟨rfl,hl⟩:=hc;refine bz (gP t F hk) λa b0 dx c0 w z _ q1 q2 q3=>?_;subst w;subst z
   obtain rfl:=O _ q1;refine⟨a,dx,_,rfl,q2,(eS q3).2 hl,_,_,Z1,S.grow g1 t,pa.use k λxs d0 _ vs H2 e0 Z2 g2 s2 r2 k2=>⟨_,Z2,_,_,s2,.cons (t.di g2 F) (r2.append (X _ _ _)),bJ.ok0 k2⟩⟩
  .exact k.elim
 .exact k.elim
theorem yH(d:wH c i b e M y)(w:bA b c.A)(z:bc c i r m p){pl:Ø Bool}(B:eval (.Call (.Attribute m M J) [] [] n) c.env=(do
   let s ←eval m c.env
   Þ J.atName
   let (f,first) ←ß [s] (ê s M pl)
   õ n f first (ZP n (x' [] c.env)) (â n (ã [] c.env)))):
  bc c i r (.Call (.Attribute m M J) [] [] n) (cC e M y p ak):=by
 obtain⟨Ca,f,fd,ps,C,j,D,E,F,Dd,F0,G,k,I,F1,rfl⟩:=d.ex;intro l K L N O;refine PE.imp (zH (z l K L N O) j D F1 w G k lU B) ?_;rintro σ H Q ⟨P,Z,S,g⟩;refine⟨P,Z,S,bJ.use g λx R _ v H1 T U g1 t u h=>?_⟩
 split at h
 .rename_i o C' fs V
  split at h
  .rename_i X
   obtain⟨rfl,Y⟩:=X;refine bz (gP t u V) λa a0 dx b0 q c0 _ q1 q2 q3=>?_;subst q;obtain rfl:=C _ q1
   exact⟨a,dx,_,rfl,q2,(eS q3).2 Y,_,U,_,_,t,.cons u (I _ _ _),bJ.ok0 h⟩
  .exact h.elim
 .exact h.elim
structure Hj(X:Cx)(κ:Str->b'->Prop)(k:Nat)(C:Str)(F:aV):Prop where
 ex:∃(Ca f:b') (fd:N') (ps:List Str),κ C Ca/\Mk X.K Ca f/\X.mg C=some (.ref Ca)/\Binds X.K fd ps []/\bq X.prog X.w X.K X.mg X.base eA k f fd ps (bH κ F)
variable{Δ:b'}
theorem tN(S:bw i v q a d)(j:aE (aw v q d) o O)(l:i e h)(g:bJ i r v q d (rl e y o a) η)(J:d I=none)(m:d Δ=none)(n:Δ≠I):
  bH i y (.ref I::(O++[])) (upd (upd d Δ (.own I)) I (.ins h Δ [])) (λf A=>f=.non/\η (.ref I) A) E0:=by
 rw[í];obtain⟨t,B⟩:=S.tw m False;have p:upd d Δ (.own I) I=none:=by rwa[ax (ZT n)]
 obtain⟨u,C⟩:=t.laid (c:=.ins e []) p λR K=>⟨h,Δ,[],l,aR,.nil⟩
 have w:=B.trans C;have x:aw _ q (upd (upd d Δ (.own I)) I (.ins h Δ [])) _ _:=fK t I;refine⟨_,q,_,_,u,.cons x (S.lZ w j),?_⟩;unfold rl at g;cases b:y _ _ with
 |ok k s=>
  rw[b]at g;cases k with
  |non=>
   intro f D E F z G H;exact⟨H,g _ D _ F (w.trans z) G (u.di z x)⟩
  |_=>exact g.elim
 |exc I s=>rw[b]at g;exact g.elim
 |bad=>rwa[b]at g
theorem Bt(M:Hj c i b e y)(m:bA (b+1) c.A)(o:Gl c e)(a:(e==("__debug__":Str))=false):bc c i r (.Call (.Name e J) [] [] n) (mN (rl e y) ak):=by
 refine bD M.ex λz f B C d l p q F1=>?_
 intro t D E F G
 refine PE.imp (by
   intro pins s u H Q I h;refine Ć (eW I o p (ϴ I.fg l.kp (sH l F1 m q .nil lU I .nil h)) a)) ?_
 rintro u H Q ⟨K,Z,S,g⟩;exact λx L w j k=>tN S.st .nil d g w j k
theorem Fj(L:lE c.K i l e)(M:Ù m (some (.Attribute R e J)) n.line c.env=pure false)(N:bc c i r R p)(O:bc c i r m Z):jO c i r (.Assign [.Attribute R e J] m n) (ft l e p Z):=by
 intro d A B D P;refine PS.imp (H_ (PE.ex λf=>N d A B D f) (O d A B D P) M) ?_
 rintro E Q H ⟨T,b,S,e⟩;refine⟨T,b,S,eR.use S e λy f v H1 U V _ g1 h X Y=>⟨_,_,V,h,eR.use h Y λx a0 w H2 b0 Z2 _ g2 j r2 g=>?_⟩⟩
 split at g
 .rename_i k C fs hk
  refine bz (gP j.st r2 hk) λa o F c0 q d0 h0 G h2 I=>?_;subst q;split at g
  .rename_i s
   simp only[Ç,decide_eq_true_eq]at s;obtain⟨c1,c2⟩:=L C o s.1 G;obtain⟨s3,g3⟩:=j.st.put (c:=.ins C _) h0 (λR u z=>by simp_all) λt hR=>⟨o,F,_,G,aR,(Br (h.st.di g2 X) I).imp hR⟩
   exact⟨a,o,F,_,rfl,h2,c1,c2,by rw[jE.length I];exact s.2,g Q _ _ Z2 (j.grow g3 s3)⟩
  .exact g.elim
 .exact g.elim
def Hk(H:Hp)(a:b')(y v:V)(c:Hp):Prop:=sO H a y v c\/∃b k j,y=.int k/\H a=some (.lst b)/\zK b.length k=some j/\c=upd H a (.lst (b.set j v))
noncomputable def Ja(td d e:TE):TS:=λD b H=>e b H λv f=>td b f λx g=>d b g λy h=>∃a c,x=.ref a/\Hk h a y v c/\D.nx b c
variable{u9:TE}
theorem Bu(p:c.A.units+1<ZU)(q:PE c m υ)(t:PE c R B3)(w:PE c G2 u9)(z:Ù G2 (some (.Subscript m R J)) n.line c.env=pure false):
  PS c (.Assign [.Subscript m R J] G2 n) (Ja υ B3 u9):=by
 intro pins s b H D I h;refine wpAny_Assign_Subscript (cj (w _ s b H _ I h) λr B d=>?_) z;obtain⟨v,C,E,e,F⟩:=d;refine cj (q _ B b C _ E F) λu G d=>?_;obtain⟨x,K,L,f,M⟩:=d;refine cj (t _ G b K _ L M) λZ N d=>?_;obtain⟨y,O,i,l,a,P,Q,g,o⟩:=d
 subst Q;rcases g with g|⟨S,k,j,rfl,T,U,rfl⟩
 .obtain rfl:u=À a:=f
  exact ya p i g l e λV X=>⟨b,P,X,o⟩
 .exact cj (set_list _ N b O _ _ _ _ _ _ _ i f l e ⟨a,S,k,j,rfl,rfl,T,U,o⟩) λ_ V ⟨Y,I5,q5⟩=>⟨b,Y,I5,q5⟩
theorem aE.MR{α β:Type}{R:α->β->Prop}{a:α}{b:β}:∀{as:List α}{bs:List β}{n:Nat},aE R as bs->R a b->aE R (as.set n a) (bs.set n b)
 |_,_,_,.nil,_=>.nil
 |_::_,_::_,0,.cons _ t,r=>.cons r t
 |_::_,_::_,n+1,.cons q t,r=>.cons q (aE.MR t r)
theorem Bv{u:V}(S:bw i v q a d)(K:aw v q d j x)(C:aw v q d U M1)(D:aw v q d N6 u)(h:oq j U N6 a=some H):∃e E,x=.ref e/\Hk d e M1 u E/\bw i v q H E/\cA v q d v q E:=by
 cases j with
 |ref k=>
  simp only[oq]at h;obtain⟨e,p,rfl⟩:=K;split at h
  .rename_i F r
   obtain⟨J,f,s,w,g⟩:=S.cell r;rw[p]at f;cases f
   split at h
   .rename_i G l
    obtain rfl:=iS l C;split at h
    .rename_i I
     cases h;have:=bE I;obtain⟨y,A⟩:=S.put (c:=.dK _) p (λo u z=>by simp_all) λR B=>⟨_,aR,(g.put G D).imp B⟩
     exact⟨e,_,rfl,.inl (sO.k w (by rw[g.length];exact this)),y,A⟩
    .exact bQ h
   .exact bQ h
  .rename_i F r
   obtain⟨J,f,s,w,g⟩:=S.cell r;rw[p]at f;cases f
   split at h
   .rename_i G l
    obtain⟨b,rfl,L⟩:=pT l C;split at h
    .rename_i I
     cases h;have:=bE I;obtain⟨y,A⟩:=S.put (c:=.dT _) p (λo u z=>by simp_all) λR B=>⟨_,aR,(g.put G D).imp B⟩
     exact⟨e,_,rfl,.inl (sO.t w L (by rw[g.length];exact this)),y,A⟩
    .exact bQ h
   .exact bQ h
  .rename_i N r
   obtain⟨J,f,M,w,g⟩:=S.cell r;rw[p]at f;cases f
   split at h
   .rename_i m
    split at h
    .rename_i n O
     cases h;cases (C);obtain⟨y,A⟩:=S.put (c:=.lst _) p (λo u z=>by simp_all) λR B=>⟨_,aR,(aE.MR g D).imp B⟩
     exact⟨e,_,rfl,.inr ⟨M,m,n,rfl,w,by rwa[g.length],rfl⟩,y,A⟩
    .exact bQ h
   .exact bQ h
  .exact bQ h
 |_=>exact bQ h
theorem Bw(B:c.A.units+1<ZU)(C:bc c i r R Z)(D:bc c i r G2 P4)(F:bc c i r m p)(G:Ù m (some (.Subscript R G2 J)) n.line c.env=pure false):jO c i r (.Assign [.Subscript R G2 J] m n) (iY Z P4 p):=by
 intro e j k l I;refine PS.imp (Bu B (PE.ex λb=>C e j k l b) (PE.ex λb=>D e j k l b) (F e j k l I) G) ?_
 rintro E K H ⟨L,g,S,f⟩;refine⟨L,g,S,eR.use S f λd b v H1 M N _ g1 o O P=>⟨_,_,N,o,eR.use o P λx Q w H2 T U _ V h X Y=>⟨_,_,U,h,eR.use h Y λy a0 u H3 b0 Z3 _ s t r3 q=>?_⟩⟩⟩
 split at q
 .rename_i c0 hq
  obtain⟨a,z,rfl,h1,s4,g4⟩:=Bv t.st (h.st.di s X) r3 (h.st.di s (o.st.di V O)) hq;exact⟨a,z,rfl,h1,q K z _ Z3 (t.grow g4 s4)⟩
 .exact q.elim
theorem yJ:bc c i r (.Dict [] [] n) (λ_ Ω=>gM Ω (.dK [])):=by
 intro a f h j Ω;refine PE.imp zR ?_;rintro k H Q ⟨l,Z,S,g⟩ p b;obtain⟨d,e⟩:=S.st.laid (c:=.dK []) b λR m=>⟨[],aR,.nil⟩
 exact g _ _ _ Z e d (fK S.st p)
theorem yK:bc c i r (.Dict [] [] n) (λ_ Ω=>gM Ω (.dT [])):=by
 intro a f h j Ω;refine PE.imp zS ?_;rintro k H Q ⟨l,Z,S,g⟩ p b;obtain⟨d,e⟩:=S.st.laid (c:=.dT []) b λR m=>⟨[],aR,.nil⟩
 exact g _ _ _ Z e d (fK S.st p)
noncomputable def br(n:Nat)(a:List D):bh:=a.map some++ć (n - a.length) none
noncomputable def gA:gz->ay D
 |.rt d Ω=>.ok d Ω
 |.nx _ Ω=>.ok .non Ω
 |.exc x Ω=>.exc x Ω
 |_=>.bad
def a8(n k:Nat)(c:SM):aV:=λa b=>if a.length=k then gA (c (br n a) b)else .bad
theorem ie(S:bw i v q a d)(r:aE (aw v q d) o O):cW i v q d v q a (br l.length o) (L2.start l O) d where
 st:=S
 gr:=cA.refl S.has
 len:=by simp[br,L2.start,r.length]
 val:=λb c e=>by
  unfold br at e
  by_cases h:b<o.length
  .rw[Û (by simp_all),å]at e
   obtain⟨j,g,k⟩:=Å.mp e;obtain⟨f,m,n⟩:=r.get g;unfold L2.start
   grind
  grind
structure tP(P:X')(w:O')(K:A')(mg:Str->Option f')(base:y')(κ:Str->b'->Prop)(k:Nat)(j:Nat)(F:List D->aV):Prop where
 run:∀(X:Cx) (f:b') (vs:List V) (σ:L2.St) (H:Hp) (Q:VK) (α:List b') (Z:b'->Prop) (Ω:aG) (yu ds:List D) (n:Nat),X.prog=P->X.w=w->X.K=K->X.mg=mg->X.base=base->bA k X.A ->
  bw κ α Z Ω H->α[n]?=some f->Ω[n]?=some (.fn j yu)->aE (aw α Z H) ds vs->bJ κ jY α Z H (F yu ds Ω) Q->Mi X f vs σ H Q
theorem tP.mono{P:X'}{w:O'}{K:A'}{a:Str->Option f'}{base:y'}{κ:Str->b'->Prop}{k b j:Nat}{F:List D->aV}(h:tP P w K a base κ k j F)(c:k<=b):tP P w K a base κ b j F:=
 ⟨λX f d e H Q g Z i yu l n m o p q r s=>h.run X f d e H Q g Z i _ l n m o p q r (s.mono c)⟩
noncomputable def isFn(Ω:aG)(n:Nat):Bool:=match Ω[n]? with
 |some (.fn _ _)=>true
 |_=>false
noncomputable def af(i:Nat):EM:=λa b=>match a[i]? with|some (some d)=>.ok d b|_=>.bad
noncomputable def aj(d:D):EM:=λ_ a=>.ok d a
def c6:EM:=λ_ a=>gM a (.dK [])
def Jb:EM:=λ_ a=>gM a (.dT [])
noncomputable def o2{α β c:Type}(x:Option α)(y:Option β)(k:α->β->c):Option c:=match x,y with
 |some a,some b=>some (k a b)
 |_,_=>none
theorem rm{α β c:Type}{x:Option α}{y:Option β}{k:α->β->c}{z:c}(h:o2 x y k=some z):∃a b,x=some a/\y=some b/\z=k a b:=by
 unfold o2 at h
 grind
theorem dW{α β:Type}{x:Option α}{k:α->β}{z:β}(h:x.map k=some z):∃a,x=some a/\z=k a:=by
 cases x with
 |none=>exact bQ h
 |some a=>simp_all
section
variable{α β γ:Type}{P:γ->Prop}{p:Prop}{x:Option α}{u:Option γ}{y:Option β}{z w:γ}{c:Bool}
theorem Jc{k:α->β->γ}(h:o2 x y k=some z)(K:∀a b,x=some a->y=some b->P (k a b)):P z:=
 aW (rm h) λa b c d e=>e▸K a b c d
theorem Hl{c:Type}{w:Option c}{k:α->β×c->γ}(h:o2 x (o2 y w Č) k=some z)(K:∀a b d,x=some a->y=some b->w=some d->P (k a (b,d))):P z:=
 Jc h λa _ e f=>Jc (P:=λq=>P (k a q)) f λb d g i=>K a b d e g i
theorem Qm{k:α->γ}(h:x.map k=some z)(K:∀a,x=some a->P (k a)):P z:=
 bV (dW h) λa b e=>e▸K a b
theorem Bx{f:α->Option γ}(h:x.bind f=some z)(K:∀a,x=some a->f a=some z->p):p:=
 bV (Ħ.mp h) K
theorem Jd(h:(if c=true then none else u)=some z)(K:c=false->u=some z->p):p:=by
 cases c
 .exact K rfl h
 .exact bQ h
theorem Lq(h:(if c=true then u else none)=some z)(K:c=true->u=some z->p):p:=by
 cases c
 .exact bQ h
 .exact K rfl h
theorem By(h:some w=some z)(K:P w):P z:=ŉ h▸K
end
structure aM where
 mF:List (Str×(List D->Out Rs)):=[]
 fn:List (Str×aV):=[]
 cst:List (Str×D):=[]
 met:List (Str×Str×aV):=[]
 cls:List (Str×aV):=[]
 fld:List (Str×List Str):=[]
 clo:List (List D->aV):=[]
 fz:List Str:=[]
 xt:Bool:=false
def rn(T:aM)(a:T')(N:List Str)(x:Str):Option EM:=
 match pL a N x with
 |some i=>some (af i)
 |none=>if Dr a x&&okN x then (T.cst.lookup x).map aj else none
def tQ:Const->Option EM
 |.none=>some (aj .non)
 |.bool b=>some (aj (.bl b))
 |.int i=>some (aj (.int i))
 |.str x=>some (aj (.str x))
 |_=>none
def dz(f:pd->Option EM):List pd->Option AM
 |[]=>some ak
 |e::a=>o2 (f e) (dz f a) ae
def YB(c:ŧ)(a b:EM):EM:=match c with
 |.And=>kK a b
 |.Or=>Bc a b
def mU(f:pd->Option EM)(c:ŧ):List pd->Option EM
 |[]=>none
 |[a]=>f a
 |a::b::r=>o2 (f a) (mU f c (b::r)) (YB c)
def vi(f:pd->Option EM):Option pd->Option (Bool×EM)
 |none=>some (true,aj .non)
 |some e=>(f e).map λm=>(false,m)
inductive BM where
 |append|insert|extend|index|join|reverse
noncomputable def BM.nm:BM->Str
 |.append=>"append" |.insert=>"insert" |.extend=>"extend" |.index=>"index" |.join=>"join" |.reverse=>"reverse"
noncomputable def BM.ar:BM->Nat
 |.append=>1|.insert=>2|.extend=>1|.index=>1|.join=>1|.reverse=>0
def BM.ty:BM->aG->D->Bool
 |.join=>IX
 |_=>mz
def BM.f:BM->D->List D->aG->ay D
 |.append=>cm|.insert=>fx|.extend=>jr|.index=>gy|.join=>tF|.reverse=>fO
def Je(m:Str)(n:Nat):Option BM:=[BM.append,.insert,.extend,.index,.join,.reverse].find? λb=>b.nm==m&&b.ar==n
def ju(a:EM)(as:AM)(m:Str):List (Str×Str×aV)->Option EM
 |[]=>none
 | (b,C,F)::r=>if b==m then (match ju a as m r with
  |some x=>some (mx (cC C m F a as) x)
  |none=>some (cC C m F a as))else ju a as m r
def ro(T:aM)(m:Str)(n:Nat)(a:EM)(as:AM):Option EM:=match Je m n,ju a as m T.met with
 |some b,some x=>some (mx (dU b.ty b.f a as) x)
 |some b,none=>some (dU b.ty b.f a as)
 |none,x=>x
def Bz(x:Str):Option mM:=[mM.len,mM.all,mM.any,mM.list,mM.tuple].find? (λb=>b.nm==x)
theorem Fl{b:mM}(h:Bz e=some b):e=b.nm/\b∈[mM.len,mM.all,mM.any,mM.list,mM.tuple]/\b.nm∈fb:=by
 have a:=aaF h;have c:=List.mem_of_find?_eq_some h;refine⟨(eq_of_beq a).symm,c,?_⟩;cases b<;>first|decide
def ry(T:aM)(a:T')(f:pd->Option EM)(x:Str)(args:List pd):Option EM:=
 if Dr a x&&okN x then
  match T.fn.lookup x,T.mF.lookup x,T.cls.lookup x,Bz x with
  |some F,_,_,_=>(dz f args).map (mN (a6 F))
  |none,some F,_,_=>if args.isEmpty then none else (dz f args).map (mN (bY F))
  |none,none,some F,_=>(dz f args).map (mN (rl x F))
  |none,none,none,some b=>if args.isEmpty then none else (dz f args).map (mN (bb b))
  |none,none,none,none=>(if x==("dict":Str)then (if args.isEmpty then none else (dz f args).map (mN gO))else none)
 else none
def mV(T:aM)(a:T')(N:List Str)(f:pd->Option EM)(x:Str)(args:List pd):Option EM:=match pL a N x with
 |some _=>none
 |none=>ry T a f x args
def BA(b:T'):List pd->Option (pd×Ty×Pos)
 |[a,.Name t p]=>match Ha t with
  |some c=>if Dr b t then some (a,c,p)else none
  |none=>none
 |_=>none
theorem yL(h:BA π L=some (m,P2,n)):L=[m,.Name P2.nm n]/\Dr π P2.nm=true/\P2.nm∈fb:=by
 unfold BA at h;split at h
 .split at h
  .rename_i c a
   split at h
   .obtain⟨rfl,b⟩:=Mz a
    simp_all
   .exact bQ h
  .exact bQ h
 .exact bQ h
def tR(b:T')(f:pd->Option EM)(x:Str)(args:List pd):Option EM:=if x==("isinstance":Str)&&Dr b x then match BA b args with
 |some (a,c,_)=>(f a).map (m1 (iD c))
 |none=>none else none
noncomputable def fP:pd->Bool
 |.Name .. |.Attribute .. |.Constant (.str _) .. |.Subscript .. |.Call (.Attribute ..) ..=>true
 |_=>false
noncomputable def Xl(e:pd):Option {r:Str×List pd // ∃p a,e=.Call (.Name r.1 p) r.2 [] a}:=match e with
 |.Call (.Name g _) args [] _=>some ⟨(g,args),_,_,rfl⟩
 |_=>none
noncomputable def YC(e:pd):Option {r:pd×Str×Pos×Pos // e=.Call (.Attribute r.1 r.2.1 r.2.2.1) [] [] r.2.2.2}:=match e with
 |.Call (.Attribute o m a) [] [] b=>some ⟨(o,m,a,b),rfl⟩
 |_=>none
def jP(f:pd->Option EM)(b:T')(iter:pd):Option IM:=match Xl iter with
 |some c=>if c.1.1==("range":Str)then (if Dr b c.1.1 then (match c.1.2 with
   |[a]=>(dz f [a]).map cQ
   |_=>none)else none)else (f iter).map bx
 |none=>(f iter).map bx
def BB(f:pd->Option EM):List pd->Option (Bool×EM)
 |[]=>some (true,aj .non)
 |[c]=>(f c).map λm=>(false,m)
 |_=>none
noncomputable def Tw(a:List Ú)(f:List pd):Option {r:Ú×pd×Option (Ú×pd) // a=r.1::(r.2.2.map (·.1)).toList/\f=r.2.1::(r.2.2.map (·.2)).toList}:=match a,f with
 |[d],[b]=>some ⟨(d,b,none),rfl,rfl⟩
 |[d,e],[b,c]=>some ⟨(d,b,some (e,c)),rfl,rfl⟩
 |_,_=>none
def Hm(f:pd->Option EM)(a:pd)(b:List Ú)(c:List pd):Option EM:=(Tw b c).bind λq=>match q.1.2.2 with
 |none=>if isSet q.1.2.1 then none else o2 (f a) (f q.1.2.1) (m2 (aA q.1.1))
 |some r=>if isSet r.2 then none else o2 (f a) (o2 (f q.1.2.1) (f r.2) Č) λx y=>my q.1.1 r.1 x y.1 y.2
def eT(T:aM):Nat->T'->List Str->pd->Option EM
 |0,_,_,_=>none
 |n+1,d,N,e=>match e with
  |.Name x _=>rn T d N x
  |.Constant c _ _=>tQ c
  |.BinOp a g b _=>o2 (eT T n d N a) (eT T n d N b) (m2 (aY g))
  |.UnaryOp .Not a _=>(eT T n d N a).map jF
  |.BoolOp g (a::b::r) _=>mU (eT T n d N) g (a::b::r)
  |.Compare a h p _=>Hm (eT T n d N) a h p
  |.IfExp t a b _=>o2 (eT T n d N t) (o2 (eT T n d N a) (eT T n d N b) Č) λx y=>Hc x y.1 y.2
  |.Subscript a (.Slice q s none _) _=>o2 (eT T n d N a) (o2 (vi (eT T n d N) q) (vi (eT T n d N) s) Č) λx y=>dj x y.1.1 y.1.2 y.2.1 y.2.2
  |.Subscript a b _=>if isSlice b then none else o2 (eT T n d N a) (eT T n d N b) (m2 aQ)
  |.List i _=>(dz (eT T n d N) i).map (mN bt)
  |.Tuple i _ _=>(dz (eT T n d N) i).map (mN hZ)
  |.Attribute o f _=>if fP o then o2 (T.fld.lookup f) (eT T n d N o) λCs m=>m1 (ic Cs f) m else none
  |.Call (.Name x _) args [] _=>match tR d (eT T n d N) x args with
   |some m=>some m
   |none=>mV T d N (eT T n d N) x args
  |.Call (.Attribute o m u) args [] w=>if u.endLine==w.line&&fP o&&decide (args.length<20)then (eT T n d N o).bind λz=>(dz (eT T n d N) args).bind λas=>ro T m args.length z as else none
  |.ListComp j gens scope _=>match pM gens with
   |some (x,_,iter,k)=>if yr scope d x&&!isSet iter then (match uZ d N (eG scope),jP (eT T n d N) d iter,eT T n (Er scope d) (x::eG scope) j,BB (eT T n (Er scope d) (x::eG scope)) k with
    |some l,some A,some B,some (C,D)=>some (cb B C D A 0 l)
    |_,_,_,_=>none)else none
   |none=>none
  |.Dict [] [] _=>some c6
  |_=>none
structure GoodO(X:Cx)(κ:Str->b'->Prop)(T:aM)(k:Nat)(sc:T')(N:List Str):Prop where
 scope:X.env.scope=sc
 names:X.N=N
 calm:X.calm=true
 room:bA k X.A
 eU:∀x∈fb,X.mg x=none
 mF:∀x F,T.mF.lookup x=some F->Mw X k x F
 fn:∀x F,T.fn.lookup x=some F->Hh X κ k x F
 cst:∀x d,T.cst.lookup x=some d->∃v u,X.mg x=some u/\RelV v u/\IJ d v
 met:∀m C F,(m,C,F)∈T.met->wH X κ k C m F
 cls:∀C F,T.cls.lookup C=some F->∃j,j+1<=k/\Hj X κ j C F
 fld:∀f Cs,T.fld.lookup f=some Cs->lE X.K κ Cs f
 clo:∀j F,T.clo[j]?=some F->tP X.prog X.w X.K X.mg X.base κ k j F
variable{ψ:aM}
theorem GoodO.gl(G:GoodO c i ψ b π l)(h:Dr π e=true):Gl c e:=by
 show c.env.scope.names.lookup e=some _
 rw[G.scope];exact(eq_of_beq h)
theorem GoodO.hu(G:GoodO c i ψ b π l):c.A.units+64<ZU:=G.room.units
theorem GoodO.blk{X:Cx}{κ:Str->b'->Prop}{T:aM}{k:Nat}{c:T'}{N:List Str}(G:GoodO X κ T k c N)(scope:T')(e:List (Str×b'))(C:b')(d:List Str)(a:j')(b:Hp)(fp:List b'):GoodO (blk X scope e C d a b fp) κ T k (Er scope c) d where
 scope:=by rw[←G.scope];rfl
 names:=rfl
 calm:=G.calm
 room:=G.room
 eU:=G.eU
 mF:=λx F h=>⟨(G.mF x F h).ex⟩
 fn:=λx F h=>⟨(G.fn x F h).ex⟩
 cst:=G.cst
 met:=λm C F h=>⟨(G.met m C F h).ex⟩
 cls:=λC F h=>bV (G.cls C F h) λj f g=>⟨j,f,⟨g.ex⟩⟩
 fld:=G.fld
 clo:=G.clo
def pZ(X:Cx)(κ:Str->b'->Prop)(e:pd)(m:EM):Prop:=(∀a,bc X κ a e m)/\(∀a,jL X κ a e m)/\isStar e=false
theorem cx(h:∀b,bc c i b m p)(e:isStar m=false)(f:∀a,į m c.env a=(do let v ←a;Þ m.pos;ß [v] (ŋ v))):pZ c i m p:=⟨h,λb=>by
  intro d j k l n;refine PT.imp (sG ((h b) d j k l n) f) ?_;rintro q H Q ⟨o,Z,S,g⟩;exact⟨o,Z,S,g.Tt⟩,e⟩
theorem ck{X:Cx}{κ:Str->b'->Prop}{f:pd->Option EM}(c:∀e m,f e=some m->pZ X κ e m):∀{b:List pd}{as:AM},dz f b=some as->(∀a,nV X κ a b as)/\(∀e∈b,isStar e=false)
 |[],as,h=>by cases h;exact⟨λa=>cS,by simp⟩
 |e::b,as,h=>by
  obtain⟨m,d,g,i,rfl⟩:=rm h;obtain⟨j,_,k⟩:=c e m g;obtain⟨l,n⟩:=ck c i;refine⟨λa=>bo (j a) (l a) (bW k),λz o=>?_⟩
  grind
theorem BC(G:GoodO c i ψ b π l)(h:rn ψ π l e=some p):pZ c i (.Name e n) p:=by
 unfold rn at h;split at h
 .rename_i a q
  cases h;obtain⟨j,k,f,m⟩:=wh q;exact cx (λo=>gq (by rw[G.names];exact j) (by rw[G.scope];exact k) f m) rfl (λ_=>rfl)
 .split at h
  .rename_i g
   simp only[Ç]at g;obtain⟨d,f,rfl⟩:=dW h;obtain⟨v,u,r,s,t⟩:=G.cst e d f;obtain⟨w,x,y⟩:=wj g.2;exact cx (λo=>AY (Dx (G.gl g.1) r s w) t) rfl (λ_=>rfl)
  .exact bQ h
theorem yM{q:Const}(h:tQ q=some p):pZ c i (.Constant q b n) p:=by
 cases q<;>cases h
 .exact cx (λa=>bZ (λ_ _ _ H _ I h=>aa5 ⟨.non,H,I,rfl,h⟩) rfl) rfl (λ_=>rfl)
 .exact cx (λa=>bZ GK rfl) rfl (λ_=>rfl)
 .exact cx (λa=>bZ qq rfl) rfl (λ_=>rfl)
 .exact cx (λa=>bZ fC rfl) rfl (λ_=>rfl)
theorem tS{X:Cx}{κ:Str->b'->Prop}{f:pd->Option EM}{t:ŧ}{pos:Pos}(y:∀e m,f e=some m->pZ X κ e m):∀{z:List pd}{m:EM},mU f t z=some m->(∀c,bc X κ c (.BoolOp t z pos) m)/\(∀c,Hd X κ c (.BoolOp t z pos) m)
 |[],m,h=>by exact bQ h
 |[a],m,h=>by
  obtain⟨u,w,G⟩:=y a m h;exact⟨λc=>λd l n o s=>HM ((u c) _ l n o s),λc=>wB (w c)⟩
 |a::b::r,m,h=>by
  obtain⟨I,N,J,K,rfl⟩:=rm h;obtain⟨u,w,G⟩:=y a I J;obtain⟨E,F⟩:=tS y K;cases t with
  |And=>exact⟨λc=>by
    intro d l n o s;refine PE.imp (Eo ((u c) d l n o s) (PE.ex λi=>(E c) d l n o i)) ?_
    rintro L H Q ⟨A,Z,S,g⟩;refine⟨A,Z,S,bJ.use g λx i _ v M B C D j p k=>?_⟩
    split at k
    .rename_i q
     exact⟨_,iT j p q,sT ⟨_,_,C,S.grow D j,k⟩⟩
    .rename_i q
     exact⟨_,iT j p q,sS (bJ.ret j p k)⟩
    .exact k.elim,λc=>EN (w c) (F c)⟩
  |Or=>exact⟨λc=>by
    intro d l n o s;refine PE.imp (Iy ((u c) d l n o s) (PE.ex λi=>(E c) d l n o i)) ?_
    rintro L H Q ⟨A,Z,S,g⟩;refine⟨A,Z,S,bJ.use g λx i _ v M B C D j p k=>?_⟩
    split at k
    .rename_i q
     exact⟨_,iT j p q,sS ⟨_,_,C,S.grow D j,k⟩⟩
    .rename_i q
     exact⟨_,iT j p q,sT (bJ.ret j p k)⟩
    .exact k.elim,λc=>Be (w c) (F c)⟩
variable{A6:pd->Option EM}
theorem tT(b:∀e p,A6 e=some p->pZ c i e p)(h:vi A6 M7=some (C,p)):Ql c i r M7 C p:=by
 cases M7 with
 |none=>cases h;exact .inl ⟨rfl,rfl⟩
 |some e=>
  obtain⟨a,d,f⟩:=dW h;cases f;exact .inr ⟨e,rfl,rfl,(b e p d).1 r⟩
theorem Fm{m:Str}{n:Nat}{b:BM}(h:Je m n=some b):m=b.nm/\n=b.ar:=by
 have:=aaF h
 simp_all
theorem eu(h:fP m=true):ì m e m4 (eval m m4)=eval m m4:=by
 cases m with
 |Call f a b p=>cases f<;>first|rfl | (cases h)
 |_=>rfl
theorem MS(C:c.A.units+64<ZU)(b:BM)(q:fP m=true)(s:(n.endLine==J.line)=true)(t:L.length=b.ar)(u:bc c i r m p)(B:dz A6 L=some Θ)(D:∀e d,A6 e=some d->pZ c i e d):
  bc c i r (.Call (.Attribute m b.nm n) L [] J) (dU b.ty b.f p Θ):=by
 obtain⟨o,w⟩:=ck D B;have o:=o r;cases b with
 |append=>
  match L,t with
  |[e],_=>exact jX ĩ abC PySem.F.type_list_append pz (λx v j Z k H S a h=>jW S a h) (λx v y z j Z k H Q S a l g=>yB S a l g) (eu q) s u o w (by simp)
 |insert=>
  match L,t with
  |[e,E],_=>exact jX ĩ acp PySem.F.type_list_insert yq (λx v j Z k H S a h=>jW S a h) (λx v y z j Z k H Q S a l g=>yC S a l g) (eu q) s u o w (by simp)
 |extend=>
  match L,t with
  |[e],_=>exact jX ĩ abD PySem.F.type_list_extend xZ (λx v j Z k H S a h=>jW S a h) (λx v y z j Z k H Q S a l g=>yD S a l g) (eu q) s u o w (by simp)
 |index=>
  match L,t with
  |[e],_=>exact jX ĩ aaD acx (tj C) (λx v j Z k H S a h=>jW S a h) (λx v y z j Z k H Q S a l g=>tG S a l g) (eu q) s u o w (by simp)
 |reverse=>
  match L,t with
  |[],_=>cases B;exact Fb ĩ abE PySem.F.type_list_reverse uM (λx v j Z k H S a h=>jW S a h) (λx v y z j Z k H Q S a l g=>vh S a l g) (eu q) s u
 |join=>
  match L,t with
  |[e],_=>exact jX PySem.F.plainAttrs_str PySem.F.slot_str_join PySem.F.type_str_join En (λx v j Z k H S a h=>E_ S a h) (λx v y z j Z k H Q S a l g=>Fc S a l g) (eu q) s u o w (by simp)
theorem kN(h:ì m e m4 (eval m m4)=eval m m4)(d:∀a∈L,isStar a=false)(c:L.length<20)(i:(n.endLine==J.line)=true):
  eval (.Call (.Attribute m e n) L [] J) m4=(do
   let b ←eval m m4
   Þ n.atName
   let (f,first) ←ß [b] (ê b e (do let l ←importBound m m4;pure (l.getD true)))
   õ J f first (ZP J (x' L m4)) (â J (ã [] m4))):=by
 have j:acy (L.length+([]:List ϊ).length) (ZP J (x' L m4)) (â J (ã [] m4))=true:=by
  unfold acy;rw[vg d,decide_eq_true (by grind)];rfl
 have g:eval (.Call (.Attribute m e n) L [] J) m4=(do
   let b ←ì m e m4 (eval m m4)
   Þ n.atName
   methodCall m e n J m4 b (L.length+([]:List ϊ).length) (ZP J (x' L m4)) (â J (ã [] m4))):=by rfl
 rw[g];unfold methodCall calleeOf methodCallPos
 simp_all
theorem jZ{X:Cx}{κ:Str->b'->Prop}{k:Nat}{f:pd->Option EM}(c:bA k X.A){o:pd}{m:Str}{b:List pd}{n:EM}{as:AM}{p p2:Pos}{d:hX}(g:fP o=true)(i:(p.endLine==p2.line)=true)(a:b.length<20)(j:bc X κ d o n)(l:dz f b=some as)(r:∀e m,f e=some m->pZ X κ e m):∀{s:List (Str×Str×aV)}{x:EM},(∀m C F,(m,C,F)∈s->wH X κ k C m F)->ju n as m s=some x->bc X κ d (.Call (.Attribute o m p) b [] p2) x
 |[],x,_,h=>by exact bQ h
 | (t,C,F)::s,x,u,h=>by
  obtain⟨z,w⟩:=ck r l;simp only[ju]at h;split at h
  .rename_i B
   obtain rfl:=eq_of_beq B
   have one:bc X κ d (.Call (.Attribute o t p) b [] p2) (cC C t F n as):=by
    cases b with
    |nil=>cases l;exact yH (by grind) c j (kN (eu g) w a i)
    |cons e b=>exact Bs (by grind) c j (z d) (bW (by simp_all)) (bU (by simp_all)) (kN (eu g) w a i)
   split at h
   .rename_i y D
    cases h;exact one.alt (jZ c g i a j l r (λm C F q=>u m C F (by simp[q])) D)
   simp_all
  .exact jZ c g i a j l r (λm C F q=>u m C F (by simp[q])) h
theorem BD{X:Cx}{κ:Str->b'->Prop}{T:aM}{k:Nat}{t:T'}{N:List Str}{f:pd->Option EM}(G:GoodO X κ T k t N){o:pd}{m:Str}{a:List pd}{d:EM}{as:AM}{i p2:Pos}{g:hX}{x:EM}(n:fP o=true)(p:(i.endLine==p2.line)=true)(c:a.length<20)(q:bc X κ g o d)(r:dz f a=some as)(s:∀e m,f e=some m->pZ X κ e m)(h:ro T m a.length d as=some x):bc X κ g (.Call (.Attribute o m i) a [] p2) x:=by
 have one:∀b,Je m _=some b->bc X κ g (.Call (.Attribute o m i) a [] p2) (dU b.ty b.f d as):=λb j=>by
  obtain⟨rfl,u⟩:=Fm j;exact MS G.hu b n p u q r s
 have l:∀y,ju d as m _=some y->bc X κ g _ y:=λy w=>jZ G.room n p c q r s G.met w
 unfold ro at h;split at h
 .rename_i b y z A
  cases h;exact(one b z).alt (l y A)
 .simp_all
 simp_all
theorem BE(G:GoodO c i ψ b π l)(u:∀f p,A6 f=some p->pZ c i f p)(h:ry ψ π A6 e L=some p):pZ c i (.Call (.Name e n) L [] J) p:=by
 refine cx (λr=>?_) rfl (λ_=>rfl)
 unfold ry at h;split at h
 .rename_i C
  simp at C;obtain⟨w,n2,n3⟩:=wj C.2;have q:=G.gl C.1;split at h
  .rename_i F t
   obtain⟨x,k,rfl⟩:=dW h;obtain⟨m,o⟩:=ck u k;cases L with
   |nil=>cases k;exact yG (G.fn e F t) G.room q w
   |cons a L=>
     obtain⟨A6,fd,ps,D,hk,y,F1⟩:=(G.fn e F t).ex;intro s E I K z;refine PE.imp (qD F1 G.room q D hk y .nil lU ((m r) s E I K z) w (bW (o a (by simp))) (bU (by grind))) ?_
     rintro σ H Q ⟨A,Z,S,g⟩;refine⟨A,Z,S,pa.use g λB N _ O H1 P Z1 g1 R T U=>?_⟩
     rw[í];exact⟨_,Z1,_,B,R,T,bJ.ok0 U⟩
  .rename_i F _ t
   split at h
   .exact bQ h
   .rename_i d
    obtain⟨x,k,rfl⟩:=dW h;obtain⟨m,o⟩:=ck u k;cases L with
    |nil=>exact absurd rfl d
    |cons a L=>exact yy (G.mF e F t) G.room q w (bW (o a (by simp))) (bU (by simp_all)) (m r)
  .rename_i F _ _ t
   obtain⟨x,k,rfl⟩:=dW h;obtain⟨m,o⟩:=ck u k;obtain⟨j,hj,M⟩:=G.cls e F t;cases L with
   |nil=>cases k;exact Bt M (G.room.mono hj) q w
   |cons a L=>
     obtain⟨Ca,A6,fd,ps,V,hM,D,y,F1⟩:=M.ex;intro s E I K z;refine PE.imp (DH hM F1 (G.room.mono hj) q D y .nil lU ((m r) s E I K z) w (bW (o a (by simp))) (bU (by simp_all))) ?_
     rintro σ H Q ⟨A,Z,S,g⟩;exact⟨A,Z,S,pa.use g λB N _ O H1 P Z1 g1 R T U e dx X Y d=>tN R T V U X Y d⟩
  .rename_i a0 _ _ _ y
   split at h
   .exact bQ h
   .rename_i d
    obtain⟨x,k,rfl⟩:=dW h;obtain⟨m,o⟩:=ck u k;obtain⟨rfl,b1,b2⟩:=Fl y;cases L with
    |nil=>exact absurd rfl d
    |cons a L=>exact EX G.calm b1 q (G.eU _ b2) (bW (o a (by simp))) (bU (by grind)) (m r)
  .split at h
   .rename_i X
    obtain rfl:=eq_of_beq X;split at h
    .exact bQ h
    .rename_i d
     obtain⟨x,k,rfl⟩:=dW h;obtain⟨m,o⟩:=ck u k;cases L with
     |nil=>exact absurd rfl d
     |cons a L=>
       show bc c i r _ (mN (n7 _ _) x)
       rw[oi];exact bc.alt (fL (nL G.calm) q (G.eU _ (by decide)) ϙ (by decide) (by decide) (bW (o a (by simp))) (bU (by grind)) (m r) λB O A Z z H Q S rx g=>EW S rx g) (fL nK q (G.eU _ (by decide)) ϙ (by decide) (by decide) (bW (o a (by simp))) (bU (by grind)) (m r) λB O A Z z H Q S rx g=>EV S rx g)
   .exact bQ h
 .exact bQ h
theorem BF(G:GoodO c i ψ b π l)(f:∀a p,A6 a=some p->pZ c i a p)(h:mV ψ π l A6 e L=some p):pZ c i (.Call (.Name e n) L [] J) p:=by
 unfold mV at h;cases g:pL π l e with
 |none=>rw[g]at h;exact BE G f h
 |some d=>
  simp_all
theorem Fo(G:GoodO c i ψ b π l)(j:∀d p,A6 d=some p->pZ c i d p)(h:tR π A6 e L=some p):pZ c i (.Call (.Name e n) L [] J) p:=by
 unfold tR at h;split at h
 .rename_i f
  simp at f;obtain⟨rfl,k⟩:=f;split at h
  .rename_i a x y m
   obtain⟨rfl,o,q⟩:=yL m;obtain⟨r,s,rfl⟩:=dW h;obtain⟨t,_,u⟩:=j a r s;exact cx (λw=>EZ (G.gl k) (G.eU _ (by decide)) (G.gl o) (G.eU _ q) (bW u) (bU λz g=>by simp at g;subst g;rfl) (t w)) rfl (λ_=>rfl)
  .exact bQ h
 .exact bQ h
theorem lF(G:GoodO c i ψ b π l)(n:∀e a,A6 e=some a->pZ c i e a)(h:jP A6 π m=some M0):∀f j,yE c i f j m M0:=by
 intro f j
 have dflt:∀{M0},(A6 m).map bx=some M0->yE c i f j m M0:=λ{M0} h=>by
  obtain⟨a,k,rfl⟩:=dW h;exact Fe ((n m a k).1 f)
 unfold jP at h;split at h
 .rename_i d _
  obtain⟨⟨g,args⟩,p,o,rfl⟩:=d;dsimp only at h;split at h
  .rename_i q
   obtain rfl:=eq_of_beq q;split at h
   .rename_i r
    split at h
    .obtain⟨u,k,rfl⟩:=dW h
     obtain⟨s,t⟩:=ck n k;exact Bj (G.gl r) (G.eU _ (by decide)) (s f) (by rw[bW (t _ (.head _))];rfl)
    .exact bQ h
   .exact bQ h
  .exact dflt h
 .exact dflt h
noncomputable def Fp(c:Cell)(b:Option Cell):Cell:=match c,b with
 |.dF a,some (.dK _)=>.dK a
 |c,_=>c
def iy(Ω az:aG):aG:=az.mapIdx λk c=>Fp c Ω[k]?
def p7(F:aV):aV:=λc b=>match F c b with
 |.ok d a=>.ok d (iy b a)
 |r=>r
def Jf(Ω:aG)(r:gz):gz:=match r with
 |.nx b a=>.nx b (iy Ω a)
 |r=>r
def MT(a:D->bh->Option bh)(d:IM)(b:SM):SM:=λe c=>Jf c (dy a d b e c)
theorem aE.of_get{α β:Type}{R:α->β->Prop}:∀{as:List α}{bs:List β},bs.length=as.length->(∀(i:Nat) (a:α) (b:β),as[i]?=some a->bs[i]?=some b->R a b)->aE R as bs
 |[],[],_,_=>.nil
 |a::as,b::bs,h,k=>.cons (k 0 a b rfl rfl) (aE.of_get (by simp_all) λi a b e f=>k (i+1) a b (by simp_all) (by simp_all))
 |[],_::_,h,_=>by simp at h
 |_::_,[],h,_=>by simp at h
variable{Q4:zl}{θ:N'}
section
variable{X:Cx}{κ:Str->b'->Prop}{Φ:hX}{α α' Xj:List b'}{Z Z' Z0:b'->Prop}{Ω az:aG}{H H' H0:Hp}
open Classical in
theorem tU(S:bw κ α Z Ω H)(g:cA α Z H α' Z' H')(x:bw κ α' Z' az H'):∃B:b'->Prop,Mn B H H'/\cA α Z H α' Z' (r_ B H')/\bw κ α' Z' (iy Ω az) (r_ B H')/\∀d v,aw α' Z' H' d v->aw α' Z' (r_ B H') d v:=by
 let B:b'->Prop:=λb=>∃(k:Nat) (h j:List (Key×D)),α'[k]?=some b/\Ω[k]?=some (Cell.dK h)/\az[k]?=some (Cell.dF j)
 have L:∀b,B b->b∈α/\∃h,H b=some (.dK h):=λb ⟨k,h,j,w,E,t⟩=>by
  obtain⟨a,F,l,M,_⟩:=S.cell E;have:=g.pre k a F;rw[w]at this;cases this
  exact⟨ZV F,l,M⟩
 have N:∀b,B b->∃o h,H' b=some (.cZ o (.dK h)):=λb ⟨k,h,j,w,E,t⟩=>by
  obtain⟨a,F,o,l,M,_⟩:=x.cell t;rw[w]at F;cases F
  exact⟨o,l,M⟩
 have U:∀b,Z' b->¬ B b:=by rintro b z ⟨k,_,_,w,_⟩;exact x.sep b (ZV w) z
 have y:∀d v,aw α' Z' H' d v->aw α' Z' (r_ B H') d v:=λd v r=>r.mono (λ_ _ e=>e) (λa o z e=>by rw[b9 (U a z)];exact e) λ_ z=>z
 refine⟨B,⟨N,λb s=>(L b s).2⟩,⟨g.pre,g.sub,g.new,g.Hb,λa o e I=>?_,λa I=>?_,λa o u e=>?_⟩,⟨x.sh,?_,x.sep,λa z=>by rw[b9 (U a z)];exact x.dom a z⟩,y⟩
 .rw[b9 λs=>I (L a s).1];exact g.frm a o e I
 .by_cases s:B a
  .obtain⟨o,h,e⟩:=N a s;rw[uS s e];simp
  .rw[b9 s];exact g.has a I
 .rw[b9 λs=>by obtain⟨_,_,z⟩:=L a s;rw[e]at z;cases z];exact g.cZ a o u e
 .refine aE.of_get (by unfold iy;rw[List.length_mapIdx];exact x.zm.length) λi c a e f=>?_
  unfold iy at e;rw[aaN]at e;obtain⟨A,w,rfl⟩:=Å.mp e;obtain⟨a',E,t⟩:=x.cell w;rw[f]at E;cases E
  have Y:(∀h j,Ω[i]?=some (.dK h)->A≠.dF j)->¬ B a:=λq ⟨k,h,j,m,p,J⟩=>by
   have:k=i:=by
    have l1:=(ZS.mp m);have l2:=(ZS.mp f)
    exact(aa4 x.sh).mp (l1.2.trans l2.2.symm)
   subst this;rw[w]at J;cases J
   exact q h j p rfl
  have same:¬ B a->Fp A Ω[i]?=A->hJ κ (aw α' Z' (r_ B H')) (r_ B H') a (Fp A Ω[i]?):=λn q=>by
   rw[q];cases A with
   |lst ds=>obtain⟨l,m,p⟩:=t;exact⟨l,by rw[b9 n];exact m,p.imp y⟩
   |dK h=>obtain⟨l,m,p⟩:=t;exact⟨l,by rw[b9 n];exact m,p.imp y⟩
   |dT h=>obtain⟨l,m,p⟩:=t;exact⟨l,by rw[b9 n];exact m,p.imp y⟩
   |dF h=>obtain⟨o,l,m,p⟩:=t;exact⟨o,l,by rw[b9 n];exact m,p.imp y⟩
   |ins C fs=>obtain⟨O,dx,l,P,m,p⟩:=t;exact⟨O,dx,l,P,by rw[b9 n];exact m,p.imp y⟩
   |xc C fs=>
    obtain⟨O,Q,P,⟨o,V,m,p,J,p4,X⟩,p6⟩:=t;exact⟨O,Q,P,⟨o,V,by rw[b9 n];exact m,p,J,p4,by rw[b9 λs=>by obtain⟨_,_,z⟩:=N V s;rw[X]at z;cases z];exact X⟩,p6.imp y⟩
   |_=>exact t.elim
  by_cases R:∃h j,Ω[i]?=some (.dK h)/\A=.dF j
  .obtain⟨h,j,K,rfl⟩:=R
   have s:B a:=⟨i,h,j,f,K,w⟩;obtain⟨o,l,m,p⟩:=t;rw[K];exact⟨l,uS s m,p.imp y⟩
  .refine same (Y λh j K T=>R ⟨h,j,K,T⟩) ?_
   unfold Fp;split
   .rename_i h G T
    exact absurd ⟨G,h,T,rfl⟩ R
   .rfl
theorem Fq(a:bq B G A Y z Q4 b h θ l (bH κ y)):bq B G A Y z Q4 b h θ l (bH κ (p7 y)):=
 a.oY.imp λC H Q E ⟨j,Z,f,i,S,r,g⟩=>⟨j,Z,f,i,S,r,by
  unfold p7 at g;cases q:y i f with
  |ok d e=>
   rw[q]at g;intro v D k m n o p;obtain⟨c,s,t,u,w⟩:=tU S n o;exact⟨c,s,g v _ _ m t u (w d v p)⟩
  |exc x e=>rwa[q]at g
  |bad=>rwa[q]at g⟩
theorem BG(h:jO X κ Φ ν S):jO X κ Φ ν (λm Ω=>Jf Ω (S m Ω)):=by
 intro z A C m Ω;have F:PS X ν (λD t H=>∃n u w,Lp κ Φ _ u w S m Ω D t H):=λpins s t H D I ⟨n,u,w,q⟩=>h n u w m Ω _ s t H D I q
 refine PS.imp F.oY ?_;rintro E t H ⟨y,Z,a,f⟩;replace f:eR κ Φ _ A C E (Jf Ω _):=f;refine⟨y,Z,H,y,Z,⟨a.st,cA.refl a.st.has,a.len,a.val⟩,?_⟩;cases q:S m Ω with
 |nx o c=>
  rw[q]at f;intro p l j k b;obtain⟨B,G,J,K,L⟩:=tU a.st b.gr b.st;refine⟨B,G,f _ _ _ k ⟨K,a.gr.trans J,b.len,λi d e=>?_⟩⟩
  obtain⟨v,M,N⟩:=b.val i d e
  simp_all
 |bk o c=>rw[q]at f;exact λp l j k b=>f _ l _ k ⟨b.st,a.gr.trans b.gr,b.len,b.val⟩
 |ct o c=>rw[q]at f;exact λp l j k b=>f _ l _ k ⟨b.st,a.gr.trans b.gr,b.len,b.val⟩
 |rt d c=>rw[q]at f;exact λv l j k g s r=>f v l _ k (a.gr.trans g) s r
 |exc x c=>rw[q]at f;exact λl j k g s=>f l _ k (a.gr.trans g) s
 |bad=>rwa[q]at f
end
variable{B8:T'}
theorem wJ(G:GoodO c i ψ b π l)(g:yr B8 π e=true)(h:uZ π l (eG B8)=some P):
  jJ c B8 [e] (eG B8) P/\B8.names.lookup e=some .local/\([e]++eG B8).Nodup:=by
 simp only[yr,Ç,decide_eq_true_eq,Õ,ť,beq_iff_eq,Bool.or_eq_true]at g;obtain⟨⟨⟨⟨⟨k,r⟩,s⟩,t⟩,m⟩,n⟩:=g;obtain⟨c1,c2⟩:=AK h
 have o:∀y∈B8.names,y.2=.free->(π.names.lookup y.1=some .cell\/π.names.lookup y.1=some .free)/\B8.names.lookup y.1=some .free:=λy a d=>by
  grind
 refine⟨⟨k,λy a d=>?_,λy a d=>?_,λy a d=>?_,c1,λj f z p u=>?_⟩,m,n⟩
 .grind
 .grind
 .have:=(o y a d).1
  show c.env.scope.names.lookup _=_\/c.env.scope.names.lookup _=_
  rwa[G.scope]
 .refine⟨by rw[G.names];grind,?_⟩
  have q:=ZV p;unfold eG at q
  grind
theorem ou(c:pM M9=none)(h:eT ψ (b+1) π l (.ListComp m M9 B8 n)=some p):o6:=by
 replace h:(match pM _ with
   |some (x,_,iter,a)=>if (yr _ π x&&!isSet _)=true then (match uZ π l _,jP _ π _,eT ψ b _ _ _,BB _ _ with
    |some _,some d,some e,some (f,g)=>some _
    |_,_,_,_=>none)else none
   |none=>none)=some p:=h
 simp_all
theorem l_(y:∀(c:Cx) (π:T') (l:List Str) (g:pd) (p:EM),GoodO c i ψ b π l->eT ψ w π l g=some p->pZ c i g p)(G:GoodO c i ψ b π l)(h:eT ψ (w+1) π l (.ListComp R [⟨.Name e n,m,L,0⟩] B8 J)=some p):∃k o q r cap,p=cb k o q r 0 cap/\jJ c B8 [e] (eG B8) cap/\B8.names.lookup e=some .local/\([e]++eG B8).Nodup /\
   (∀z,ý m c.env z=pure z)/\(∀u,yE c i u (.Name e n) m r) /\
   ∀t C d f fp,((L=[]/\o=true)\/∃j,L=[j]/\o=false/\jL (blk c B8 t C ([e]++eG B8) d f fp) i jY j q)/\bc (blk c B8 t C ([e]++eG B8) d f fp) i jY R k:=by
 replace h:(if (yr _ π e&&!isSet _)=true then (match uZ π l _,jP _ π _,eT ψ w _ _ _,BB _ _ with
    |some _,some r,some k,some (o,q)=>some _
    |_,_,_,_=>none)else none)=some p:=h
 split at h
 .rename_i x
  simp at x;split at h
  .rename_i cap r k o q D E F s
   cases h;obtain⟨H,I,K⟩:=wJ G x.1 D;refine⟨k,o,q,r,_,rfl,H,I,K,kB x.2,λu=>lF G (by grind) E u _,λt C d f fp=>?_⟩
   have A:=G.blk B8 t C ([e]++eG B8) d f fp;refine⟨?_,(y _ _ _ _ k A F).1 _⟩
   match L,s with
   |[],s=>cases s;simp
   |[B],s=>
    obtain⟨a,M,N⟩:=dW s;cases N;exact .inr ⟨B,rfl,rfl,(y _ _ _ B q A M).2.1 _⟩
  .exact bQ h
 .exact bQ h
theorem iZ:∀(n:Nat) (X:Cx) (y:T') (N:List Str) (e:pd) (m:EM),GoodO X i ψ b y N->eT ψ n y N e=some m->pZ X i e m:=by
 intro n
 induction n with
 |zero=>exact λ_ _ _ _ _ _ h=>nomatch h
 |succ n R=>
  intro X y N e m G h;have k:=λe m q=>R X y N e m G q
  cases e with
  |Name x pos=>exact BC G h
  |Constant c j pos=>exact yM h
  |BinOp a B d pos=>exact Jc h λA D u w=>cx (λg=>wt ((k a A u).1 g) ((k d D w).1 g)) rfl λ_=>rfl
  |UnaryOp B a pos=>
   cases B with
   |Not=>exact Qm h λA u=>⟨λg=>EL ((k a A u).1 g),λg=>wA ((k a A u).2.1 g),rfl⟩
   |_=>exact bQ h
  |BoolOp B I pos=>
   cases I with
   |nil=>exact bQ h
   |cons a r=>
   cases r with
   |nil=>exact bQ h
   |cons d r=>exact xa (tS (pos:=pos) k (show mU (eT ψ n y N) B (a::d::r)=some m from h)) λY Z=>⟨Y,λg=>(Z g).pt,rfl⟩
  |Compare a J cs pos=>
   refine bV (Bx (show Hm (eT ψ n y N) a J cs=some m from h) λq S h=>⟨q,S,h⟩) λq S h=>?_
   obtain⟨⟨B,d,r⟩,z1,z2⟩:=q;subst z1 z2;cases r with
   |none=>exact Jd h λK h=>Jc h λA D u w=>have c:=λg=>h9 G.hu (tm (M2:=B) K) ((k a A u).1 g) ((k d D w).1 g);⟨λg=>(c g).1,λg=>(c g).2,rfl⟩
   |some r=>exact Jd h λK h=>Hl h λA D mc u w C=>have T:ō [B,r.1] [d,r.2]=false:=tm (M2:=r.1) K;⟨λg=>ES G.hu T ((k _ _ u).1 g) ((k _ _ w).1 g) ((k _ _ C).1 g),λg=>ET G.hu T ((k _ _ u).1 g) ((k _ _ w).1 g) ((k _ _ C).1 g),rfl⟩
  |IfExp t a d pos=>exact Hl h λmt A D u w C=>⟨λg=>EO ((k _ _ u).2.1 g) ((k _ _ w).1 g) ((k _ _ C).1 g),λg=>ER ((k _ _ u).2.1 g) ((k _ _ w).2.1 g) ((k _ _ C).2.1 g),rfl⟩
  |Subscript a s pos=>
   have L:∀d,isSlice d=false->o2 (eT ψ n y N a) (eT ψ n y N d) (m2 aQ)=some m->pZ X i (.Subscript a d pos) m:=λd M h=>Jc h λA D u w=>cx (λg=>mS (by have:=G.hu;omega) (λo O=>by cases d<;>first|rfl | (cases M)) ((k _ _ u).1 g) ((k _ _ w).1 g)) rfl λ_=>rfl
   cases s with
   |Slice lo E st p2=>
    cases st with
    |none=>exact Hl h λA l r u w C=>cx (λg=>EJ ((k _ _ u).1 g) (tT k w) (tT k C)) rfl λ_=>rfl
    |some e=>
     cases lo with
     |none=>
      cases E with
      |none=>exact bQ h
      |some _=>exact bQ h
     |some _=>exact bQ h
   |_=>exact L _ rfl h
  |List es pos=>exact Qm h λU u=>cx (λg=>kH ((ck k u).1 g)) rfl λ_=>rfl
  |Tuple es j pos=>exact Qm h λU u=>cx (λg=>kI ((ck k u).1 g)) rfl λ_=>rfl
  |Attribute o f pos=>exact Lq h λM h=>Jc h λCs P u w=>cx (λg=>Fi (G.fld f Cs u) (eu M) ((k o P w).1 g)) rfl λ_=>rfl
  |Call f args F pos=>
   cases f with
   |Name x p=>
    cases F with
    |nil=>
     replace h:(match tR y (eT ψ n y N) x args with|some m=>some m|none=>mV ψ y N (eT ψ n y N) x args)=some m:=h
     cases E:tR y (eT ψ n y N) x args with
     |some m'=>
      rw[E]at h;exact By h (Fo G k E)
     |none=>
      rw[E]at h;exact BF G k h
    |cons _ _=>exact bQ h
   |Attribute o mm p1=>
    cases F with
    |nil=>
     refine Lq (c:=p1.endLine==pos.line&&fP o&&decide (args.length<20)) h λH h=>Bx h λP u h=>Bx h λU w h=>?_
     simp only[Ç,decide_eq_true_eq]at H;exact cx (λg=>BD G H.1.2 H.1.1 H.2 ((k o P u).1 g) w k h) rfl λ_=>rfl
    |cons _ _=>exact bQ h
   |_=>exact bQ h
  |ListComp a0 gens scope pos=>
   cases V:pM gens with
   |none=>exact ou V h
   |some q=>
    obtain⟨x,px,iter,b0⟩:=q;obtain rfl:=pN V;refine xe (l_ (λX y N e m G q=>R X y N e m G q) G h) λme Q=>bz Q λnc mc mi c0 z b1 b2 b3 b4 Q=>xa Q λb5 b6=>?_
    subst z;exact cx (λg=>Bk G.calm b1 b4 (b5 g) b2 b3 b6) rfl λ_=>rfl
  |Dict ks I pos=>
   cases ks with
   |nil=>
    cases I with
    |nil=>exact By h (cx (λg=>yJ) rfl λ_=>rfl)
    |cons _ _=>exact bQ h
   |cons _ _=>exact bQ h
  |_=>exact bQ h
structure fm(X:Cx)(κ:Str->b'->Prop)(T:aM)(k:Nat)(sc:T')(N:List Str):Prop extends GoodO X κ T k sc N where
 own:Ŋ (l' X.prog X.w) X.A X.env X.xe
 Qn:∀x,AI sc x=true->T.fz.contains x=false->(X.fn x=true\/X.env.scope.names.lookup x=some .local)
 sh:N.Nodup
 kind:sc.kind=.function
 kY:T.xt=false->∀e s,¬ X.xe e s
def eI(f:D'->Option SM):List D'->Option SM
 |[]=>some ao
 |s::r=>o2 (f s) (eI f r) aq
def rC(f:pd->Option EM)(b:T')(iter:pd):Option IM:=match Xl iter with
 |some c=>(match c.1.2 with
  |[a]=>if c.1.1==("enumerate":Str)then (if Dr b c.1.1 then (f a).map pe else none)else jP f b iter
  |_=>jP f b iter)
 |none=>match YC iter with
  |some o=>if o.1.2.1==("items":Str)&&o.1.2.2.1.endLine==o.1.2.2.2.line&&fP o.1.1 then (f o.1.1).map lB else jP f b iter
  |none=>jP f b iter
noncomputable def MU(e:pd):Option {_u:Unit // ∃p,e=.Dict [] [] p}:=match e with
 |.Dict [] [] _=>some ⟨(),_,rfl⟩
 |_=>none
def MV(e:pd):Bool:=(MU e).isSome
theorem BH(h:MV m=true):∃p,m=.Dict [] [] p:=by
 obtain⟨⟨_,h⟩,_⟩:=abv.mp h;exact h
def p8(T:aM)(a:T')(N:List Str)(x:Str):Option Nat:=if T.fz.contains x then none else tp a N x
def rD(T:aM)(a:T')(N:List Str)(nms:List (Str×Pos)):Option (List Nat):=if nms.any (λy=>T.fz.contains y.1)then none else rb a N nms
def BI(T:aM)(td:List Str)(k:Nat)(a:T')(N:List Str)(x:Str)(b:Pos)(e:pd)(pos:Pos):Option SM:=(p8 T a N x).bind λi=>
 if td.contains x&&MV e then some (aH i Jb)else (eT T k a N e).bind λm=>if tq a x b e then (if pos.line==b.line then some (aH i m)else none)else some (aH i m)
def BJ(T:aM)(k:Nat)(a:T')(N:List Str)(b:List pd)(e:pd):Option SM:=(gI b).bind λnms=>(rD T a N nms).bind λc=>(eT T k a N e).bind λm=>if AL e then some (Bm c m)else none
noncomputable def Tx:pd->Bool
 |.Call (.Attribute (.Attribute ..) m _) [] [] _=>m==("items":Str)
 |_=>false
def BK(b:Bool)(a:D->bh->Option bh)(d:IM)(c:SM):SM:=if b then MT a d c else dy a d c
theorem BL(h:jO c i r ν (dy A5 M0 S)):jO c i r ν (BK C A5 M0 S):=by
 unfold BK;split
 .exact BG h
 .exact h
def Jg(R:List D'->Option SM)(T:aM)(td:List Str)(k:Nat)(d:T')(N:List Str)(st:D'):Option SM:=match st with
  |.Return none _=>some Bl
  |.Return (some e) _=>some (match eT T k d N e with
   |some m=>bf m
   |none=>cu)
  |.Assign [.Name x l] e h=>BI T td k d N x l e h
  |.Assign [.Tuple j _ _] e _=>BJ T k d N j e
  |.Assign [.Attribute o f _] e _=>if fP o&&!q_ e then o2 (T.fld.lookup f) (o2 (eT T k d N o) (eT T k d N e) Č) λn y=>ft n f y.1 y.2 else none
  |.Assign [.Subscript o i _] e _=>if isSlice i||q_ e then none else o2 (eT T k d N o) (o2 (eT T k d N i) (eT T k d N e) Č) λx y=>iY x y.1 y.2
  |.Expr e _=>if q_ e then none else (eT T k d N e).map cw
  |.If c a b _=>o2 (eT T k d N c) (o2 (R a) (R b) Č) λx y=>dk x y.1 y.2
  |.While c b [] _=>o2 (eT T k d N c) (R b) pf
  |.For (.Name x _) g b [] _=>if isSet g then none else o2 (p8 T d N x) (o2 (jP (eT T k d N) d g) (R b) Č) λi y=>dy (dH i) y.1 y.2
  |.For (.Tuple j _ _) g b [] _=>if isSet g then none else (gI j).bind λnms=>o2 (rD T d N nms) (o2 (rC (eT T k d N) d g) (R b) Č) λp y=>BK (Tx g) (gs p) y.1 y.2
  |.Raise _ _ _=>some cu
  |.Try b (_::_) [] [] _=>if T.xt then none else R b
  |_=>none
def Jh(T:aM)(td:List Str)(k:Nat)(a:T')(N:List Str):Nat->D'->Option SM
 |0,_=>none
 |n+1,b=>Jg (eI (Jh T td k a N n)) T td k a N b
theorem Fs(hg:Gl c "enumerate")(hm:c.mg "enumerate"=none)(X:x' [m] c.env=[(false,eval m c.env)])(ha:bc c i r m p):
  yE c i r (.Tuple L b n) (.Call (.Name "enumerate" J) [m] [] P0) (pe p):=by
 intro u Z0 H0 ρ Ω;refine PI.imp (Em hg hm (gj (ha u Z0 H0 ρ Ω) qy X) X) ?_;rintro σ H R ⟨α,Z,S,g⟩;refine⟨α,Z,S,uw.use g λx z _ v H1 A Z1 g1 q Y s=>?_⟩
 have B:∀{f:List b'}{l:b'->Prop}{j:aG}{k:Hp}{a:Nat}{v:V}{t:D},bw i f l j k->aw f l k t v->∀J,k J=none->∃C,cA f l k f C (upd k J (.tup [.int a,v]))/\bw i f C j (upd k J (.tup [.int a,v]))/\aw f C (upd k J (.tup [.int a,v])) (.tup [.int (0+a:Nat),t]) (.ref J):=λ{f l j k a v t} o E J F=>by
  obtain⟨s3,G⟩:=o.tw (h:=J) (B1:=.tup [.int a,v]) F True;simp only[if_true]at s3 G;refine⟨Zp l J,G,s3,?_⟩;simp only[aw];refine⟨J,_,rfl,.inr rfl,aR,cH.mpr (.cons ?_ (.one (o.di G E)))⟩;simp only[aw];simp
 cases I:eo z x with
 |none=>simp only[I]at s;exact s.elim
 |some a0=>
  simp only[I]at s;have K:=Y;obtain⟨m,M,rfl,q1,q2⟩:=bX q Y I;refine⟨m,rfl,⟨M,mO q1⟩,?_⟩;refine s _ H1 A Z1 (cA.refl q.has) q ?_;intro f l j k ds g2 o N;obtain⟨O,h2,rfl⟩:=dW N;have r2:=q.di g2 K;obtain⟨a',P,e,Q,h4⟩:=bX o r2 h2;cases e;refine⟨λa d hd=>?_,λa hi=>by rw[hF]at hi;exact⟨P,mO Q,by rw[h4.length];exact hi⟩⟩
  obtain⟨t,T,rfl⟩:=kz O 0 a d hd;obtain⟨v,hv,E⟩:=h4.get T;refine⟨⟨P,v,mO Q,hv⟩,λy H3 U=>?_⟩
  obtain⟨J,rfl,F,U⟩:=U;obtain⟨w,hw,rfl⟩:=U P (mO Q);rw[hv]at hw;cases hw
  exact B o E J F
theorem yN(w:fP m=true)(y:(J.endLine==P0.line)=true)(d:bc c i r m p):
  yE c i r (.Tuple L b n) (.Call (.Attribute m "items" J) [] [] P0) (lB p):=by
 intro k z A B C;refine PI.imp (AQ (eu w) y (d k z A B C)) ?_;rintro P H R ⟨D,Z,S,g⟩;refine⟨D,Z,S,uw.use g λx E _ v Q F T U f G e=>?_⟩
 unfold wD at e;split at e
 .obtain⟨m,d,rfl⟩:=G
  split at e
  .rename_i l s
   obtain⟨I,a,h,j,t⟩:=f.cell s;rw[d]at a;cases a
   refine⟨m,_,rfl,.inl ⟨j,λo=>?_⟩⟩
   obtain⟨K,M⟩:=f.put (c:=.dF _) d (λo u q=>by simp_all) λR N=>⟨o,_,aR,t.imp N⟩
   exact e _ _ _ _ M K (pX d aR)
  .rename_i l s
   obtain⟨I,a,O,h,j,t⟩:=f.cell s;rw[d]at a;cases a
   exact⟨m,_,rfl,.inr ⟨O,j,e _ _ _ _ (cA.refl f.has) f (pX d j)⟩⟩
  .exact e.elim
 .exact e.elim
theorem Ft{b:aap}{d:List aap}(g:∀e s,¬ c.xe e s)(j:jG c i r W1 S):jO c i r (.Try W1 (b::d) [] [] n) S:=by
 intro k l m o p pins s t H D I h;refine ab2 (Í (j _ l m o p _ s t H D I h) (λf a q=>?_) λe a q=>absurd q (g e a))
 cases f with
 |next=>exact Ę q
 |_=>exact q
theorem wK(G:GoodO c i ψ b π l)(j:∀e a,A6 e=some a->pZ c i e a)(h:rC A6 π m=some M0):∀d,yE c i d (.Tuple L w n) m M0:=by
 intro d;unfold rC at h;split at h
 .rename_i f _
  obtain⟨⟨g,args⟩,p,s,rfl⟩:=f;dsimp only at h;split at h
  .split at h
   .rename_i t
    obtain rfl:=eq_of_beq t;split at h
    .rename_i k
     obtain⟨q,e,rfl⟩:=dW h;obtain⟨r,_,u⟩:=j _ q e;exact Fs (G.gl k) (G.eU _ (by decide)) (by rw[bW u];rfl) (r d)
    .exact bQ h
   .exact lF G j h d _
  .exact lF G j h d _
 .split at h
  .rename_i o _
   obtain⟨⟨o,z,r,A⟩,rfl⟩:=o;dsimp only at h;split at h
   .rename_i k
    simp only[Ç,beq_iff_eq]at k;obtain⟨⟨rfl,x⟩,y⟩:=k;obtain⟨q,e,rfl⟩:=dW h;exact yN y (by simpa using x) ((j o q e).1 d)
   .exact lF G j h d _
  .exact lF G j h d _
theorem yO(G:fm c i ψ b π l)(h:tp π l e=some w):c.N[w]?=some e/\Loc c.env.scope e:=by
 unfold tp at h;split at h
 .rename_i a
  simp at a;refine⟨by rw[G.names];exact AJ h,?_⟩
  rw[G.scope];have d:=a.1;unfold AI at d;unfold L2.Loc
  grind
 .exact bQ h
theorem i_{X:Cx}{κ:Str->b'->Prop}{e:hX}{f:D'->Option SM}(g:∀s c,f s=some c->jO X κ e s c):∀{d:List D'}{c:SM},eI f d=some c->jG X κ e d c
 |[],c,h=>by cases h;exact dm
 |s::d,c,h=>by
  obtain⟨a,b,i,j,rfl⟩:=rm h;exact bP (g s a i) (i_ g j)
theorem jv(G:fm c i ψ b π l)(h:p8 ψ π l e=some w):c.N[w]?=some e/\Loc c.env.scope e/\(c.fn e=true\/c.env.scope.names.lookup e=some .local):=by
 unfold p8 at h;split at h
 .exact bQ h
 .obtain⟨a,d⟩:=yO G h
  refine⟨a,d,G.Qn e ?_ (by grind)⟩
  unfold tp at h
  simp_all
theorem ow{X:Cx}{κ:Str->b'->Prop}{T:aM}{k:Nat}{b:T'}{N:List Str}(G:fm X κ T k b N):∀{nms:List (Str×Pos)}{a:List Nat},(∀y∈nms,T.fz.contains y.1=false)->rb b N nms=some a->a.length=nms.length/\∀(j i:Nat) (x:Str×Pos),a[j]?=some i->nms[j]?=some x->X.N[i]?=some x.1/\Loc X.env.scope x.1/\(X.fn x.1=true\/X.env.scope.names.lookup x.1=some .local)
 |[],a,_,h=>by cases h;simp_all
 |x::m,a,c,h=>by
  refine bV (Ħ.mp h) λi n h=>?_
  refine bV (Ħ.mp h) λd e h=>?_
  cases h;obtain⟨o,f⟩:=ow G (λy g=>c y (by simp[g])) e
  refine⟨by simp_all,λj l y p q=>?_⟩
  cases j with
  |zero=>
   exact jv G (by unfold p8;simp_all)
  |succ j=>exact f j l y (by simp_all) (by simp_all)
theorem tV(G:fm c i ψ b π l){nms:List (Str×Pos)}(e:gI L=some nms)(f:rD ψ π l nms=some P):PG c (.Tuple L w n) (uB c.K P.length (g_ P)):=by
 obtain rfl:=lY e
 have a:(∀y∈nms,ψ.fz.contains y.1=false)/\rb π l nms=some P:=by
  unfold rD at f
  grind
 obtain⟨d,g⟩:=ow G a.1 a.2;obtain⟨h,j⟩:=pO _ _;exact zx G.calm (pK (nms:=nms) (by rw[G.names];exact G.sh) P _ d g) (by rw[h,d]) j
theorem tW(G:fm c i ψ b π l):
  Ù (.ListComp m M9 B8 n) (some (.Name e J)) w c.env=pure (tq π e J (.ListComp m M9 B8 n)):=by
 have a:c.env.blockKind=.function:=by
  show(if c.env.scope.kind.isAnnotationScope=true then ael else c.env.scope.kind)=_
  rw[G.scope,G.kind];rfl
 show pure _=_
 rw[a]
 show pure (true&&c.env.scope.names.lookup e==some _&&J.line==n.line&&!(B8.names.any _))=_
 rw[G.scope];rfl
theorem wL(G:fm c i ψ b π l)(t:p8 ψ π l e=some o0)(h:eT ψ w π l m=some p)(u:tq π e n m=true->J.line=n.line):jO c i r (.Assign [.Name e n] m J) (aH o0 p):=by
 refine ur (jv G t) λk x y=>?_
 have o:c.N.Nodup:=by rw[G.names];exact G.sh
 have plain:Ù m (some (.Name e n)) J.line _=pure _->jO c i r _ _:=λq=>ib o k x y q ((iZ w c π l m p G.toGoodO h).1 r)
 cases m with
 |ListComp z gens scope d=>
  cases a:tq π e n _ with
  |false=>exact plain (by rw[tW G,a])
  |true=>
   cases w with
   |zero=>exact bQ h
   |succ w=>
   cases s:pM _ with
   |none=>exact ou s h
   |some q=>
    obtain rfl:=pN s;refine xe (l_ (λc π l m p G q=>iZ w c π l m p G q) G.toGoodO h) λI f=>bz f λK L M A g B C D E j=>xa j λF H=>?_;subst g
    exact Bo o k (by
     rw[G.scope];unfold tq at a;simp only[Ç,beq_iff_eq]at a;exact a.1.1) (by rw[tW G,a]) G.calm B E (lW 1 (by decide)) (oj (F r) C D H) (u a)
 |SetComp=>cases w<;>exact bQ h
 |DictComp=>cases w<;>exact bQ h
 |_=>exact plain rfl
theorem rE(h:q_ m=false):Ù m M7 b m4=pure false:=by
 cases m<;>first|rfl | (cases h)
theorem wM(G:fm c i ψ b π ω){R:List D'->Option SM}(B:∀Q S,R Q=some S->jG c i r Q S)(h:Jg R ψ l w π ω ν=some S):jO c i r ν S:=by
 have E:=λe m q=>iZ w c π ω e m G.toGoodO q
 have T:c.N.Nodup:=by rw[G.names];exact G.sh
 cases ν with
 |Return v k=>
  cases v with
  |none=>exact By h Bn
  |some e=>
   refine By h ?_;split
   .exact gu ((E e _ ‹_›).1 r)
   .exact jt
 |Assign ts e k=>
  cases ts with
  |nil=>exact bQ h
  |cons t s=>
  cases s with
  |cons t2 s=>cases t<;>exact bQ h
  |nil=>
  cases t with
  |Name x U=>
   refine Bx (show BI ψ l w π ω x U e k=some S from h) λg F H=>?_
   split at H
   .rename_i hd
    refine xe (BH (ñ.mp hd).2) λpd z=>?_
    subst z;exact ur (jv G F) λI J K=>By H (ib T I J K rfl yK)
   .refine Bx H λm V h=>?_
    split at h
    .exact Lq h λhl h=>By h (wL G F V λ_=>eq_of_beq hl)
    .exact By h (wL G F V λq=>absurd q ‹_›)
  |Tuple X j p=>
   exact Bx (show BJ ψ w π ω X e=some S from h) λnms L h=>Bx h λY n h=>Bx h λm M h=>Lq h λhp h=>By h (Fh (tV G L n) hp ((E e m M).1 r))
  |Attribute o f p=>exact Lq h λD h=>Hl h λCs mo O n u y=>Fj (G.fld f Cs n) (rE (by simpa using (ñ.mp D).2)) ((E o mo u).1 r) ((E e O y).1 r)
  |Subscript o g p=>exact Jd h λD h=>Hl h λmd mk O n u y=>Bw (by have:=G.hu;omega) ((E o md n).1 r) ((E g mk u).1 r) ((E e O y).1 r) (rE (Bool.or_eq_false_iff.mp D).2)
  |_=>exact bQ h
 |Expr e k=>exact Jd h λD h=>Qm h λm n=>wF (rE D) ((E e m n).1 r)
 |If P a d k=>exact Hl h λm ca A n u y=>om ((E P m n).2.1 r) (B a ca u) (B d A y)
 |While P d e k=>
  cases e with
  |nil=>exact Jc h λm A n M=>yF G.own ((E P m n).2.1 r) (B d A M)
  |cons _ _=>exact bQ h
 |For Z it d e k=>
  cases e with
  |nil=>
   cases Z with
   |Name x U=>exact Jd h λC h=>Hl h λg mi A n u y=>ur (jv G n) λI J K=>wG G.own G.calm (lF G.toGoodO E u r _) (kj T I J K) (I_ g) (B d A y) (kB C)
   |Tuple X j p=>exact Jd h λC h=>Bx h λnms L h=>Hl h λY mi A n u y=>BL (wG G.own G.calm (wK G.toGoodO E u r) (tV G L n) (Bq Y) (B d A y) (kB C))
   |_=>exact bQ h
  |cons _ _=>cases Z<;>exact bQ h
 |Raise _ _ _=>exact By h jt
 |Try d C oe fi k=>
  cases C with
  |nil=>exact bQ h
  |cons h0 C=>
  cases oe with
  |cons _ _=>exact bQ h
  |nil=>
  cases fi with
  |cons _ _=>exact bQ h
  |nil=>exact Jd h λhx h=>Ft (G.kY hx) (B d S h)
 |_=>exact bQ h
theorem wN{X:Cx}{κ:Str->b'->Prop}{d:hX}{T:aM}{td:List Str}{k:Nat}{b:T'}{N:List Str}(G:fm X κ T k b N):∀(n:Nat) (a:Nat) (st:D') (c:SM),Jh T td a b N n st=some c->jO X κ d st c
 |0,_,_,_,h=>nomatch h
 |n+1,a,_,_,h=>wM G (λ_ _ q=>i_ (wN G n a) q) h
def aS(b:Str->Option f'):Str->b'->Prop:=λC a=>b C=some (.ref a)
structure aO(P:X')(w:O')(K:A')(mg:Str->Option f')(base:y')(T:aM)(k:Nat):Prop where
 eU:∀x∈fb,mg x=none
 mF:∀x F,T.mF.lookup x=some F->∃(f:b') (fd:N') (ps:List Str),mg x=some (.ref f)/\Z_ K (.ref f)=true/\Binds K fd ps []/\bq P w K mg base eA k f fd ps (qZ F)
 fn:∀x F,T.fn.lookup x=some F->∃(f:b') (fd:N') (ps:List Str),mg x=some (.ref f)/\Z_ K (.ref f)=true/\Binds K fd ps []/\bq P w K mg base eA k f fd ps (bH (aS mg) F)
 cst:∀x d,T.cst.lookup x=some d->∃v u,mg x=some u/\RelV v u/\IJ d v
 met:∀m C F,(m,C,F)∈T.met->∃(Ca f:b') (fd:N') (ps:List Str),Hi P w K mg base (aS mg) k C m F Ca f fd ps
 cls:∀C F,T.cls.lookup C=some F->∃j,j+1<=k/\∃(Ca f:b') (fd:N') (ps:List Str),aS mg C Ca/\Mk K Ca f/\mg C=some (.ref Ca)/\Binds K fd ps []/\bq P w K mg base eA j f fd ps (bH (aS mg) F)
 fld:∀f Cs,T.fld.lookup f=some Cs->lE K (aS mg) Cs f
 clo:∀j F,T.clo[j]?=some F->tP P w K mg base (aS mg) k j F
def wO(T:aM)(td:List Str)(st:D')(N:List Str):Option SM:=eI (Jh T td 60 (ag st) N 30) (aK st)
variable{F6:List Int}
theorem Fu(f:Rd d h (.lst (F6.map V.int)))(c:y [.lst (F6.map D.int)] []=.ok (.bl true) a):bH i y [.ref h] d (λv _=>v=.bl true) E0:=by
 refine⟨[],λb=>b=h,[],[.lst (F6.map D.int)],⟨by simp,.nil,by simp,λb e=>?_⟩,.one ?_,?_⟩
 .subst e
  rcases f with e|⟨o,e⟩<;>rw[e]<;>simp
 .refine⟨h,_,rfl,rfl,f,?_⟩
  clear c f
  induction F6 with
  |nil=>rfl
  |cons n F6 j=>exact cH.mpr (.cons (by rfl) (cH.mp j))
 .rw[c]
  intro v l k m g s r;simpa only [aw]using r
theorem aO.mono{P:X'}{w:O'}{K:A'}{n:Str->Option f'}{base:y'}{T:aM}{k:Nat}(W:aO P w K n base T k){j:Nat}(h:k<=j):aO P w K n base T j:=
 ⟨W.eU,λx F q=>dI (W.mF x F q) λf i l a b c d=>⟨f,i,l,a,b,c,d.mono h⟩,λx F q=>dI (W.fn x F q) λf i l a b c d=>⟨f,i,l,a,b,c,d.mono h⟩,W.cst,
  λm C F q=>let ⟨o,f,i,l,a,b,c,p,_,r,F1,d,s,t,e,g⟩:=W.met m C F q;⟨o,f,i,l,a,b,c,p,_,r,F1,d,s,t,e.mono h,g⟩,λC F q=>let ⟨u,y,z⟩:=W.cls C F q;⟨u,B' y h,z⟩,W.fld,λj F q=>(W.clo j F q).mono h⟩
noncomputable def aM.yP(T:aM)(x:Str)(F:List D->Out Rs):aM:={T with mF:=(x,F)::T.mF}
noncomputable def aM.dB(T:aM)(x:Str)(F:aV):aM:={T with fn:=(x,F)::T.fn}
noncomputable def aM.gQ(T:aM)(C m:Str)(F:aV):aM:={T with met:=(m,C,F)::T.met}
noncomputable def aM.Fv(T:aM)(C:Str)(F:aV):aM:={T with cls:=(C,F)::T.cls}
def aM.yQ(T:aM)(f:Str)(Cs:List Str):aM:={T with fld:=(f,Cs)::T.fld}
noncomputable def aM.mG(T:aM)(x:Str)(d:D):aM:={T with cst:=(x,d)::T.cst}
theorem gR{β:Type}{F G:β}{l:List (Str×β)}(h:((e,F)::l).lookup M=some G):(M=e/\G=F)\/l.lookup M=some G:=by
 grind
theorem aO.start(a:∀x∈fb,Y x=none):aO B G A Y z {} 0:=
 ⟨a,by simp,by simp,by simp,by simp,by simp,by simp,by simp⟩
theorem aO.yP{P:X'}{w:O'}{K:A'}{a:Str->Option f'}{base:y'}{T:aM}{k:Nat}(W:aO P w K a base T k){x:Str}{F:List D->Out Rs}{f:b'}{b:N'}{c:List Str}{j:Nat}(d:a x=some (.ref f))(e:Z_ K (.ref f)=true)(g:Binds K b c [])(h:bq P w K a base eA j f b c (qZ F))(i:j<=k):
  aO P w K a base (T.yP x F) k:=
 ⟨W.eU,λy G q=>by
  rcases gR q with ⟨rfl,rfl⟩|q
  .exact⟨f,b,c,d,e,g,h.mono i⟩
  .exact W.mF y G q,W.fn,W.cst,W.met,W.cls,W.fld,W.clo⟩
theorem aO.dB{P:X'}{w:O'}{K:A'}{b:Str->Option f'}{base:y'}{T:aM}{k:Nat}(W:aO P w K b base T k){x:Str}{F:aV}{f:b'}{c:N'}{d:List Str}(e:b x=some (.ref f))(g:Z_ K (.ref f)=true)(i:Binds K c d [])(h:bq P w K b base eA (k+1) f c d (bH (aS b) F)):
  aO P w K b base (T.dB x F) (k+1):=by
 have a:=W.mono (ä k)
 exact⟨a.eU,a.mF,λy G q=>by
  rcases gR q with ⟨rfl,rfl⟩|q
  .exact⟨f,c,d,e,g,i,h⟩
  .exact a.fn y G q,a.cst,a.met,a.cls,a.fld,a.clo⟩
theorem aO.gQ{P:X'}{w:O'}{K:A'}{c:Str->Option f'}{base:y'}{T:aM}{k:Nat}(W:aO P w K c base T k){C m:Str}{F:aV}{d f:b'}{e:N'}{g:List Str}(p:c C=some (.ref d))(j:lg K d)(M:Meth K d m f)(l:Binds K e g [])(h:bq P w K c base eA (k+1) f e g (bH (aS c) F)):
  aO P w K c base (T.gQ C m F) (k+1):=by
 have b:=W.mono (ä k)
 exact⟨b.eU,b.mF,b.fn,b.cst,λn o G q=>by
  rcases Æ.mp q with q|q
  .cases q
   refine⟨d,f,e,g,λa i=>?_,j,M,[],[],[],F,l,.nil,λ_ _ _=>.nil,h,by simp⟩
   have i:c C=some _:=i
   simp_all
  .exact b.met n o G q,b.cls,b.fld,b.clo⟩
theorem aO.MW(W:aO B G A Y z ψ b)(s:Y e=some (.ref h))(j:lg A h)(d:Meth A h M I)(k:Binds A θ l χ)(m:Vals O χ)(n:∀α Z H,aE (aw α Z H) o O)(f:bq B G A Y z eA (b+1) I θ l (bH (aS Y) y)):
  aO B G A Y z (ψ.gQ e M λxs=>y (xs++o)) (b+1):=by
 have c:=W.mono (ä b)
 exact⟨c.eU,c.mF,c.fn,c.cst,λp r g q=>by
  rcases Æ.mp q with q|q
  .cases q
   refine⟨h,I,θ,l,λa i=>?_,j,d,χ,_,o,y,k,m,n,f,rfl⟩
   have i:Y e=some _:=i
   simp_all
  .exact c.met p r g q,c.cls,c.fld,c.clo⟩
theorem aO.Fv{P:X'}{w:O'}{K:A'}{b:Str->Option f'}{base:y'}{T:aM}{k:Nat}(W:aO P w K b base T k){C:Str}{F:aV}{c f:b'}{d:N'}{e:List Str}{j:Nat}(g:b C=some (.ref c))(M:Mk K c f)(i:Binds K d e [])(h:bq P w K b base eA j f d e (bH (aS b) F))(l:j<=k):
  aO P w K b base (T.Fv C F) (k+1):=by
 have a:=W.mono (ä k)
 exact⟨a.eU,a.mF,a.fn,a.cst,a.met,λy G q=>by
  rcases gR q with ⟨rfl,rfl⟩|q
  .exact⟨j,Ϛ l,c,f,d,e,g,M,g,i,h⟩
  .exact a.cls y G q,a.fld,a.clo⟩
theorem aO.yQ{P:X'}{w:O'}{K:A'}{a:Str->Option f'}{base:y'}{T:aM}{k:Nat}(W:aO P w K a base T k){f:Str}{Cs:List Str}(h:lE K (aS a) Cs f):aO P w K a base (T.yQ f Cs) k:=
 ⟨W.eU,W.mF,W.fn,W.cst,W.met,W.cls,λy G q=>by
  rcases gR q with ⟨rfl,rfl⟩|q
  .exact h
  .exact W.fld y G q,W.clo⟩
theorem aO.mG{P:X'}{w:O'}{K:A'}{a:Str->Option f'}{base:y'}{T:aM}{k:Nat}(W:aO P w K a base T k){x:Str}{d:D}{v:V}{u:f'}(b:a x=some u)(c:RelV v u)(e:ku d=some v):aO P w K a base (T.mG x d) k:=
 ⟨W.eU,W.mF,W.fn,λy G q=>by
  rcases gR q with ⟨rfl,rfl⟩|q
  .exact⟨v,u,b,c,.inl e⟩
  .exact W.cst y G q,W.met,W.cls,W.fld,W.clo⟩
theorem plain1(d:Y e=some (.ref h))(f:lg A h)(n:Ä A (.ref h) M=some none):lE A (aS Y) [e] M:=λg a c b=>by
 have c:=by simpa using c
 subst c;have b:Y g=some _:=b;rw[d]at b;cases b;exact⟨f,n⟩
def MY(F:aV):Sp:=λa H Q E=>∀b,bH b F a H Q E
end Mir
namespace Mir
open PySem L2
variable{a:aG}
@[simp] theorem aI{α β:Type}{b:α}{f:α->aG->ay β}:(ay.ok b a).bind f=f b a:=rfl
variable{N1:Type}{j:D}
@[simp] theorem Tz{β:Type}{f:N1->aG->ay β}:(ay.exc j a:ay N1).bind f=.exc j a:=rfl
@[simp] theorem TB{β:Type}{f:N1->aG->ay β}:(ay.bad:ay N1).bind f=.bad:=rfl
@[simp] theorem fu{α:Type}{b:α}{k:α->aG->gz}:cJ (.ok b a) k=k b a:=rfl
@[simp] theorem TC{k:N1->aG->gz}:cJ (.exc j a:ay N1) k=.exc j a:=rfl
@[simp] theorem TF{k:N1->aG->gz}:cJ (.bad:ay N1) k=.bad:=rfl
variable{W0:ay D}
@[simp] theorem Xm:jK (.ok j a) W0=.ok j a:=rfl
@[simp] theorem TH:jK (.exc j a) W0=.exc j a:=rfl
@[simp] theorem TJ:jK .bad W0=W0:=rfl
variable{M6:D->aG->ay D}{p:EM}{u:bh}
@[simp] theorem MZ:m1 M6 p u a=(p u a).bind M6:=rfl
variable{B6:D->D->aG->ay D}{Z:EM}
@[simp] theorem kP:m2 B6 p Z u a=(p u a).bind λx b=>(Z u b).bind λy c=>B6 x y c:=rfl
variable{G6:List D->aG->ay D}{Θ:AM}
@[simp] theorem je:mN G6 Θ u a=(Θ u a).bind G6:=rfl
@[simp] theorem cp:ak u a=.ok [] a:=rfl
@[simp] theorem cy:ae p Θ u a=(p u a).bind λx b=>(Θ u b).bind λxs c=>.ok (x::xs) c:=rfl
noncomputable def vr:Option (Option D)->aG->ay D
 |some (some d),Ω=>.ok d Ω
 |_,_=>.bad
@[simp] theorem Fw:vr (some (some j)) a=.ok j a:=rfl
variable{b:Nat}
@[simp] theorem kQ:af b u a=vr u[b]? a:=by
 unfold af;cases u[b]? with
 |none=>rfl
 |some o=>cases o<;>rfl
@[simp] theorem wQ:aj j u a=.ok j a:=rfl
variable{C2:Cell}
@[simp] theorem rF:gM a C2=.ok (.ref a.length) (a++[C2]):=rfl
noncomputable def tb(Ω:aG):Option Bool->ay Bool
 |some b=>.ok b Ω
 |none=>.bad
variable{C:Bool}
@[simp] theorem jw:tb a (some C)=.ok C a:=rfl
@[simp] theorem ig:df (.ok j a)=tb a (kF a j):=by rfl
@[simp] theorem ij:kF a (.bl C)=some C:=rfl
@[simp] theorem M_:kF a .non=some false:=rfl
variable{T:Int}
@[simp] theorem Na:kF a (.int T)=some (T != 0):=rfl
noncomputable def Lj(t:Option Bool)(a b:ay D):ay D:=match t with
 |some true=>a
 |some false=>b
 |none=>.bad
variable{A9:ay D}
@[simp] theorem Hn:Mir.Lj (some true) W0 A9=W0:=rfl
@[simp] theorem Xn:Mir.Lj (some false) W0 A9=A9:=rfl
@[simp] theorem wR:kK p Z u a=(p u a).bind λx b=>Mir.Lj (kF b x) (Z u b) (.ok x b):=by
 rfl
@[simp] theorem TK:Bc p Z u a=(p u a).bind λx b=>Mir.Lj (kF b x) (.ok x b) (Z u b):=by
 unfold Bc;cases p u a with
 |ok x b=>
  simp;cases kF _ x with
  |none=>rfl
  |some t=>cases t<;>rfl
 |exc x b=>rfl
 |bad=>rfl
@[simp] theorem Qo:jF p u a=(df (p u a)).bind λt b=>.ok (.bl (!t)) b:=rfl
variable{P4:EM}
@[simp] theorem vj:Hc P4 p Z u a=(df (P4 u a)).bind λt b=>if t=true then p u b else Z u b:=rfl
@[simp] theorem wU{g:D->aG->ay D}:IH M6 g j a=jK (M6 j a) (g j a):=rfl
variable{U:D}
@[simp] theorem rG{g:D->D->aG->ay D}:jV B6 g j U a=jK (B6 j U a) (g j U a):=rfl
variable{o:List D}
@[simp] theorem Qp{g:List D->aG->ay D}:n7 G6 g o a=jK (G6 o a) (g o a):=rfl
@[simp] theorem Qq:mx p Z u a=jK (p u a) (Z u a):=rfl
@[simp] theorem Qr:fA a b .non=some .non:=by cases b<;>rfl
@[simp] theorem Ji:fA a b (.bl C)=some (.bl C):=by cases b<;>rfl
@[simp] theorem Fx:fA a b (.int T)=some (.int T):=by cases b<;>rfl
variable{e:Str}
@[simp] theorem wV:fA a b (.str e)=some (.str e):=by cases b<;>rfl
@[simp] theorem TL{α β:Type}{f:α->Option β}:bI f []=some []:=rfl
noncomputable def oc{α:Type}:Option α->Option (List α)->Option (List α)
 |some y,some a=>some (y::a)
 |_,_=>none
@[simp] theorem Qs{α:Type}{y:α}{a:List α}:oc (some y) (some a)=some (y::a):=rfl
@[simp] theorem wW{α β:Type}{f:α->Option β}{x:α}{xs:List α}:bI f (x::xs)=oc (f x) (bI f xs):=by
 rfl
theorem lG{α β:Type}{a:Type}{f:β->Option a}{g:α->β}{h:α->a}(e:∀x,f (g x)=some (h x)):∀xs:List α,bI f (xs.map g)=some (xs.map h)
 |[]=>rfl
 |x::xs=>by rw[ù,wW,e,lG e xs];rfl
variable{l:List Str}
@[simp] theorem Fy:bI (fA a b) (l.map .str)=some (l.map .str):=lG (λ_=>wV) l
variable{F6:List Int}
@[simp] theorem Fz:bI (fA a b) (F6.map .int)=some (F6.map .int):=lG (λ_=>Fx) F6
variable{N3:List D}
theorem FA(h:bI (fA a b) o=some N3):fA a (b+1) (.lst o)=some (.lst N3):=by simp only[fA,h,ţ]
variable{w:Nat}
theorem mW(c:a[w]?=some (.lst o))(h:bI (fA a b) o=some N3):fA a (b+1) (.ref w)=some (.lst N3):=by simp only[fA,c,h,ţ]
theorem fQ(c:a[w]?=some (.lst (l.map .str))):fA a (b+1) (.ref w)=some (L1 l):=mW c Fy
@[simp] theorem TM:fA a (b+1) (SC F6)=some (SC F6):=FA Fz
@[simp] theorem Qt:iA a (.ok (C,.int T))=.ok (.int T) a:=rfl
variable{P1:Bool}
@[simp] theorem TN:iA a (.ok (C,.bl P1))=.ok (.bl P1) a:=rfl
@[simp] theorem FC:iA a (.ok (C,.str e))=.ok (.str e) a:=rfl
@[simp] theorem Qu:iA a (.ok (C,.non))=.ok .non a:=rfl
@[simp] theorem Qv:iA a .bad=.bad:=rfl
def vN(Ω:aG)(f:List D->Out Rs):Option (List D)->ay D
 |some a=>iA Ω (f a)
 |none=>.bad
variable{E2:List D->Out Rs}
@[simp] theorem FD:vN a E2 (some o)=iA a (E2 o):=rfl
@[simp] theorem FE:bY E2 o a=vN a E2 (bI (fA a 8) o):=by rfl
def v1(Ω:aG)(f:D->Out Rs):Option D->ay D
 |some d=>iA Ω (f d)
 |none=>.bad
variable{Y9:D->Out Rs}
@[simp] theorem Qw:v1 a Y9 (some j)=iA a (Y9 j):=rfl
@[simp] theorem Qx:EF Y9 j a=v1 a Y9 (fA a 8 j):=by rfl
def v2(Ω:aG)(f:D->D->Out Rs):Option D->Option D->ay D
 |some d,some e=>iA Ω (f d e)
 |_,_=>.bad
variable{Z9:D->D->Out Rs}
@[simp] theorem rH:v2 a Z9 (some j) (some U)=iA a (Z9 j U):=rfl
@[simp] theorem FF:fj Z9 j U a=v2 a Z9 (fA a 8 j) (fA a 8 U):=by rfl
@[simp] theorem Nb:Bh .len [.str e]=if small e.length=true then .ok (false,.int e.length)else .bad:=rfl
@[simp] theorem BN:Bh .all [.lst o]=AR (λbs=>bs.all id) (gF o):=rfl
@[simp] theorem Nc:Bh .any [.lst o]=AR (λbs=>bs.any id) (gF o):=rfl
variable{y:aV}
@[simp] theorem BO:a6 y o a=Hg (y o a):=rfl
@[simp] theorem Jj:Hg (.ok j a)=.ok j a:=rfl
variable{M2:Ú}
@[simp] theorem ik:dZ M2 j U a=v2 a (λj U=>do let r ←fh M2 j U;Out.ok (false,D.bl r)) (fA a 8 j) (fA a 8 U):=by rfl
@[simp] theorem mX:aA .Eq j U a=jK (dZ .Eq j U a) (vc j U a):=rfl
@[simp] theorem wX:aA .NotEq j U a=dZ .NotEq j U a:=rfl
@[simp] theorem Qy:aA .Lt j U a=dZ .Lt j U a:=rfl
@[simp] theorem Qz:aA .LtE j U a=dZ .LtE j U a:=rfl
@[simp] theorem QA:aA .Gt j U a=dZ .Gt j U a:=rfl
@[simp] theorem QB:aA .GtE j U a=dZ .GtE j U a:=rfl
@[simp] theorem rJ:aA .In j U a=jK (dZ .In j U a) (pb false j U a):=rfl
@[simp] theorem oy:aA .NotIn j U a=jK (dZ .NotIn j U a) (pb true j U a):=rfl
@[simp] theorem QC:aA .Is j U a=jK (lx false j U a) (dZ .Is j U a):=rfl
@[simp] theorem Jk:aA .IsNot j U a=jK (lx true j U a) (dZ .IsNot j U a):=rfl
@[simp] theorem Nd:lx C (.ref b) .non a=.ok (.bl C) a:=rfl
@[simp] theorem Lr:lx C (.int T) j a=.bad:=rfl
@[simp] theorem Ls:lx C .non j a=.bad:=rfl
@[simp] theorem Nf:lx C (.bl P1) j a=.bad:=rfl
@[simp] theorem Lu:lx C (.str e) j a=.bad:=rfl
@[simp] theorem tX:aY .Add j U a=jK (yv j U a) (fj (fE .Add) j U a):=rfl
@[simp] theorem Ng:aY .Sub j U a=fj (fE .Sub) j U a:=rfl
@[simp] theorem p9:aY .Mult j U a=jK (fj (fE .Mult) j U a) (pQ j U a):=rfl
@[simp] theorem Nh:aY .Mod j U a=fj (fE .Mod) j U a:=rfl
@[simp] theorem QD:aY .FloorDiv j U a=fj (fE .FloorDiv) j U a:=rfl
@[simp] theorem QE:eo a (.int T)=none:=rfl
@[simp] theorem QF:eo a (.str e)=none:=rfl
@[simp] theorem QG:eo a (.tup o)=none:=rfl
@[simp] theorem QH:eo a (.lst o)=some o:=rfl
theorem aD(h:a[b]?=some (.lst o)):eo a (.ref b)=some o:=by simp only[eo,h]
theorem jx(h:a[b]?=some (.lst o)):ri a (.ref b)=some (b,o):=by simp only[ri,h]
variable{Q3:List (Str×D)}
theorem mZ(h:a[b]?=some (.ins e Q3)):rj a (.ref b)=some (b,e,Q3):=by simp only[rj,h]
def ct(Ω:aG):Option (List D)->Option (List D)->ay D
 |some a,some b=>if small (a.length+b.length)then .ok (.ref Ω.length) (Ω++[.lst (a++b)])else .bad
 |_,_=>.bad
@[simp] theorem FG:ct a (some o) (some N3)=if small (o.length+N3.length)then .ok (.ref a.length) (a++[.lst (o++N3)])else .bad:=rfl
@[simp] theorem Xo{o:Option (List D)}:ct a none o=.bad:=rfl
@[simp] theorem FH:yv j U a=ct a (eo a j) (eo a U):=by rfl
@[simp] theorem QI:iC a (.tup o)=some o:=rfl
@[simp] theorem aJ:iC a (.ref b)=eo a (.ref b):=rfl
@[simp] theorem QJ:iC a (.lst o)=some o:=rfl
def ixs(Ω:aG):Option (List D)->D->ay D
 |some a,.int i=>match L2.mu a i with
  |some d=>.ok d Ω
  |none=>.bad
 |_,_=>.bad
theorem wY:IQ j U a=ixs a (iC a j) U:=by rfl
theorem BP(h:L2.mu o T=some j):ixs a (some o) (.int T)=.ok j a:=by simp only[ixs,h]
theorem bC(h:a[b]?=some (.lst o))(c:L2.mu o T=some j):aQ (.ref b) (.int T) a=.ok j a:=by
 unfold aQ;rw[rG,wY,aJ,aD h,BP c];rfl
@[simp] theorem gv:bt o a=if small o.length then .ok (.ref a.length) (a++[.lst o])else .bad:=rfl
@[simp] theorem rK:hZ o a=if small o.length then .ok (.tup o) a else .bad:=rfl
def fl(Ω:aG)(Cs:List Str)(f:Str):Option (Nat×Str×List (Str×D))->ay D
 |some (_,C,fs)=>if Cs.contains C then (match fs.lookup f with
  |some d=>.ok d Ω
  |none=>.bad)else .bad
 |none=>.bad
variable{M:Str}
theorem rL(h:a[b]?=some (.ins M Q3))(c:l.contains M=true)(d:Q3.lookup e=some j):ic l e (.ref b) a=.ok j a:=by
 unfold ic;rw[mZ h];simp_all
noncomputable def sq(r:gz)(b:SM):gz:=match r with
 |.nx a c=>b a c
 |r=>r
variable{S:SM}
@[simp] theorem aU:sq (.nx u a) S=S u a:=rfl
@[simp] theorem Xp:sq (.rt j a) S=.rt j a:=rfl
@[simp] theorem Xq:sq (.bk u a) S=.bk u a:=rfl
@[simp] theorem Xr:sq (.ct u a) S=.ct u a:=rfl
@[simp] theorem TQ:sq (.exc j a) S=.exc j a:=rfl
@[simp] theorem TR:sq .bad S=.bad:=rfl
variable{D4:SM}
@[simp] theorem au:aq S D4 u a=sq (S u a) D4:=by rfl
@[simp] theorem Ni:ao u a=.nx u a:=rfl
@[simp] theorem dn:aH b p u a=cJ (p u a) λd c=>.nx (u.set b (some d)) c:=rfl
@[simp] theorem dJ:cw p u a=cJ (p u a) λ_ b=>.nx u b:=rfl
@[simp] theorem kR:bf p u a=cJ (p u a) λd b=>.rt d b:=rfl
@[simp] theorem Nj:Bl u a=.rt .non a:=rfl
@[simp] theorem fS:dk p S D4 u a=cJ (df (p u a)) λt b=>if t=true then S u b else D4 u b:=rfl
variable{P:List Nat}
@[simp] theorem FI:Bm P p u a=cJ (p u a) λd b=>match gs P d u with|some c=>.nx c b|none=>.bad:=rfl
@[simp] theorem Lv:gs P (.tup o) u=if o.length=P.length then some (h_ P o u)else none:=rfl
@[simp] theorem FJ:h_ (b::P) (j::o) u=h_ P o (u.set b (some j)):=rfl
@[simp] theorem Ho:h_ [] o u=u:=by cases o<;>rfl
@[simp] theorem QL:gA (.rt j a)=.ok j a:=rfl
@[simp] theorem QO:gA (.nx u a)=.ok .non a:=rfl
theorem bu(h:o.length=w):a8 b w S o a=gA (S (br b o) a):=by unfold a8;rw[if_pos h]
@[simp] theorem dN:bx p u a=(p u a).bind λx b=>srcOf b x:=rfl
theorem bj(h:iC a j=some o):srcOf a j=.ok (.seq j) a:=by unfold srcOf;rw[h]
@[simp] theorem tY:cQ Θ u a=(Θ u a).bind pW:=rfl
@[simp] theorem wZ:pW [.int T] a=if o_ T then .ok (.ints 0 T.toNat) a else .bad:=rfl
@[simp] theorem cz:et (.seq j) a=iC a j:=rfl
@[simp] theorem Nk:et (.ints T b) a=some (intsFrom T b):=rfl
variable{A5:D->bh->Option bh}{M0:IM}
@[simp] theorem dO:dy A5 M0 S u a=cJ (M0 u a) λs b=>iX A5 s S fuel 0 u b:=rfl
def Hq(r:gz)(I:bh->aG->Prop)(R:gz->Prop):Prop:=match r with
 |.nx a b=>I a b
 |.ct a b=>I a b
 |.bk a b=>R (.nx a b)
 |r=>R r
variable{Y3:Src}
theorem cL(I:Nat->bh->aG->Prop){R:gz->Prop}(j:∀i b Ω,I i b Ω->et Y3 Ω=some o)(h:∀(i:Nat) (d:D) b Ω,o[i]?=some d->I i b Ω->∃g,A5 d b=some g/\Hq (S g Ω) (I (i+1)) R)(p:∀b Ω,I o.length b Ω->R (.nx b Ω)):
  ∀(f i:Nat) b Ω,o.length - i<f->i<=o.length->I i b Ω->R (iX A5 Y3 S f i b Ω):=by
 intro f
 induction f with
 |zero=>exact λ_ _ _ h=>absurd h (Nat.not_lt_zero _)
 |succ f m=>
  intro i b Ω r s l;simp only[iX,j i b Ω l];have z:=λa=>R' (Nat.sub_succ_lt_self _ _ a) (aaO r)
  rcases acz s with a|rfl
  .have n:=ç a
   rw[n];dsimp only;obtain⟨g,t,e⟩:=h i _ b Ω n l;rw[t];dsimp only;cases q:S _ Ω with
   |nx k c=>rw[q]at e;exact m _ _ _ (z a) a e
   |ct k c=>rw[q]at e;exact m _ _ _ (z a) a e
   |bk k c=>rwa[q]at e
   |rt d c=>rwa[q]at e
   |exc x c=>rwa[q]at e
   |bad=>rwa[q]at e
  rw[Ŀ (M' _)];exact p _ _ l
theorem Xs(h:et Y3 a=some o)(c:o[w]?=none):ux C p Z 0 u Y3 (b+1) w N3 a=.ok N3 a:=by
 rw[ux,h];dsimp only;rw[c]
variable{H:aG}
theorem YD(h:et Y3 a=some o)(c:o[w]?=some j)(d:small (N3.length+1)=true)(e:lD C p ([some j]++u) a=.ok false H):ux C p Z 0 u Y3 (b+1) w N3 a=ux C p Z 0 u Y3 b (w+1) N3 H:=by
 rw[ux,h];dsimp only;rw[c];dsimp only;rw[show tJ 0 j=some [some j]from rfl];dsimp only;rw[if_pos d,e]
variable{C4:aG}
theorem YE(h:et Y3 a=some o)(c:o[w]?=some j)(d:small (N3.length+1)=true)(e:lD C p ([some j]++u) a=.ok true H)(f:Z ([some j]++u) H=.ok U C4):ux C p Z 0 u Y3 (b+1) w N3 a=ux C p Z 0 u Y3 b (w+1) (N3++[U]) C4:=by
 rw[ux,h];dsimp only;rw[c];dsimp only;rw[show tJ 0 j=some [some j]from rfl];dsimp only;rw[if_pos d,e];dsimp only;rw[f]
theorem Nl(h:o[b]?=some j):o.drop b=j::o.drop (b+1):=by
 obtain⟨a,rfl⟩:=ZS.mp h;exact š a
theorem Jl(I:Nat->List D->aG->Prop)(A:o.length<=90000)(m:∀i a Ω,I i a Ω->et Y3 Ω=some o)(B:∀i d a Ω,o[i]?=some d->I i a Ω->∃b c,lD C p ([some d]++u) Ω=.ok b c/\(b=false/\I (i+1) a c\/b=true/\∃y g,Z ([some d]++u) c=.ok y g/\I (i+1) (a++[y]) g)):
  ∀f i a Ω,o.length<=i+f->i<=o.length->a.length<=i->I i a Ω->∃l az,ux C p Z 0 u Y3 (f+1) i a Ω=.ok l az/\I o.length l az:=by
 intro f
 induction f with
 |zero=>
  intro i a Ω q r n k;cases Nat.le_antisymm r q;exact⟨a,Ω,Xs (m _ _ _ k) (Ŀ (M' _)),k⟩
 |succ f t=>
  intro i a Ω q r n k;rcases acz r with j|rfl
  .have s:=ç j
   have z:=B' q (V' (Nat.succ_add i f).symm);have w:=a7 (B' (Ϛ n) (B' j (eV A)));refine cF (B i _ a Ω s k) λb c x h=>?_
   rcases h with ⟨rfl,h⟩|⟨rfl,h⟩
   .exact cF (t _ a c z j (aag n) h) λl az e h=>⟨l,az,(YD (m _ _ _ k) s w x).trans e,h⟩
   .exact cF h λy g E h=>cF (t _ (a++[y]) g z j (by rw[ľ];exact Ϛ n) h) λl az e h=>⟨l,az,(YE (m _ _ _ k) s w x E).trans e,h⟩
  .exact⟨a,Ω,Xs (m _ _ _ k) (Ŀ (M' _)),k⟩
theorem kS(I:Nat->List D->aG->Prop)(l:M0 u a=.ok Y3 H)(m:I 0 [] H)(n:∀i f a,I i f a->et Y3 a=some o)(q:∀i d f a,o[i]?=some d->I i f a->∃b g,lD C Z ([some d]++fk P u) a=.ok b g/\(b=false/\I (i+1) f g\/b=true/\∃y c,p ([some d]++fk P u) g=.ok y c/\I (i+1) (f++[y]) c))(k:o.length<=90000):
  ∃j c,cb p C Z M0 0 P u a=.ok (.ref c.length) (c++[.lst j])/\I o.length j c:=by
 refine cF (Jl (p:=Z) I k n q (fuel - 1) 0 [] _ (by rw[ϛ];exact eV k) (Ì _) (M' _) m) λj c e h=>⟨j,c,?_,h⟩
 unfold cb;rw[l];dsimp only
 rw[show fuel=fuel - 1+1 from rfl,e]
 rfl
theorem w_{oz:D->Bool}{g:D->D}(I:Nat->aG->Prop)(n:M0 u a=.ok Y3 H)(q:∀i a,I i a->et Y3 a=some o)(r:∀i d a,o[i]?=some d->I i a->∃H,lD C Z ([some d]++fk P u) a=.ok (oz d) H/\I (i+1) H/\(oz d=true->p ([some d]++fk P u) H=.ok (g d) H))(s:o.length<=90000)(t:I 0 H):
  ∃b,cb p C Z M0 0 P u a=.ok (.ref b.length) (b++[.lst ((o.filter oz).map g)])/\I o.length b:=by
 refine aW (kS (p:=p) (λi c a=>I i a/\c++((o.drop i).filter oz).map g=(o.filter oz).map g) n ⟨t,rfl⟩ (λi _ a h=>q i a h.1) (λi d c a k h=>bF (r i d a k h.1) λf w l x=>⟨_,f,w,?_⟩) s) λy b e h m=>⟨b,?_,h⟩
 .have z:=h.2
  rw[Nl k]at z;cases j:oz d with
  |false=>exact .inl ⟨rfl,l,by rwa[List.filter_cons_of_neg (by rw[j];decide)]at z⟩
  |true=>exact .inr ⟨rfl,_,f,x j,l,by rwa[List.filter_cons_of_pos j,ù,List.append_cons]at z⟩
 .rw[Ũ,acA,aaP,í]at m
  rw[e,m]
theorem cO{mh:D->Bool}{g:D->D}(b:M0 u a=.ok Y3 H)(c:et Y3 H=some o)(f:∀d∈o,lD C Z ([some d]++fk P u) H=.ok (mh d) H)(j:∀d∈o,mh d=true->p ([some d]++fk P u) H=.ok (g d) H)(k:o.length<=90000):
  cb p C Z M0 0 P u a=.ok (.ref H.length) (H++[.lst ((o.filter mh).map g)]):=
 bV (w_ (λ_ a=>a=H) b (λ_ _ h=>h▸c) (λi d a l h=>by subst h;exact have m:=ZV l;⟨_,f d m,rfl,j d m⟩) k rfl) λn e h=>h▸e
theorem dP(h:a[b]?=some C2):(a++H)[b]?=some C2:=by rwa[Û (ZS.mp h).1]
theorem av:(a++C2::H)[a.length]?=some C2:=by simp
variable{k9:Cell}
theorem cU(h:a[w]?=some C2)(c:w≠b):(a.set b k9)[w]?=some C2:=by rwa[ă (ZT c)]
theorem a_(h:a[b]?=some C2):(a.set b k9)[b]?=some k9:=Ň (ZS.mp h).1
theorem b_(h:a[b]?=some C2):b<a.length:=zi h
structure ai(fp:List Nat)(Ω az:aG):Prop where
 len:Ω.length<=az.length
 get:∀k c,Ω[k]?=some c->k∉fp->az[k]?=some c
theorem ai.refl:ai P a a:=⟨M' _,by grind⟩
theorem ai.trans(h:ai P a H)(h':ai P H C4):ai P a C4:=⟨B' h.len h'.len,λk c q n=>h'.get k c (h.get k c q n) n⟩
theorem ai.app:ai P a (a++H):=⟨by simp,λk c h _=>dP h⟩
theorem ai.set{Ω:aG}{fp:List Nat}{j:Nat}{c:Cell}(h:j∈fp):ai fp Ω (Ω.set j c):=⟨by simp,λk e q n=>cU q (by grind)⟩
variable{V8:List Nat}
theorem ai.sub(h:ai P a H)(b:∀k∈P,k∈V8):ai V8 a H:=⟨h.len,λk c q n=>h.get k c q (by grind)⟩
theorem dq(h:a[b]?=some (.lst o)):bb .len [.ref b] a=.ok (.int o.length) a:=by
 show jK _ _=_
 simp only[yz,aJ,aD h];rfl
theorem fT(h:a[b]?=some (.lst o))(c:o.length<=1000):cm (.ref b) [j] a=.ok .non (a.set b (.lst (o++[j]))):=by
 simp only[cm,jx h];rw[if_pos (a7 (by omega))]
theorem dc(h:a[b]?=some (.lst o)):mz a (.ref b)=true:=by simp only[mz,aD h];rfl
theorem il(h:a[b]?=some (.lst (l.map .str))):aA .In (.str e) (.ref b) a=.ok (.bl (decide (e∈l))) a:=by
 simp[fQ h]
theorem jy(h:a[b]?=some (.lst (l.map .str))):aA .NotIn (.str e) (.ref b) a=.ok (.bl (!decide (e∈l))) a:=by
 simp[fQ h]
variable{ε:List (List Str)}
theorem oA(d:a[b]?=some (.lst (P.map .ref)))(h:aE (λj c=>a[j]?=some (.lst (c.map .str))) P ε):fA a (w+2) (.ref b)=some (LL ε):=by
 refine mW d ?_;clear d
 induction h with
 |nil=>rfl
 |cons e g f=>rw[ù,wW,fQ e,f];rfl
theorem xl(d:p u a=.ok (.ref b) H)(f:H[b]?=some (.ins e Q3))(g:Q3.lookup M=none):cC e M y p Θ u a=(Θ u H).bind λxs c=>Hg (y (.ref b::xs) c):=by
 unfold cC;rw[d]
 show(match rj _ _ with|some (_,h,Q3)=>_|none=>_)=_
 rw[mZ f];simp only[g,and_self,if_true];rfl
variable{A8:aG->D->Bool}{j9:D->List D->aG->ay D}
theorem jf(c:p u a=.ok j H)(h:A8 H j=true):dU A8 j9 p Θ u a=(Θ u H).bind λxs b=>j9 j xs b:=by
 unfold dU
 simp_all
variable [hH]
theorem ai.new(h:ai [] a H)(h':ai P H C4)(b:∀j∈P,a.length<=j):ai [] a C4:=⟨B' h.len h'.len,λk c e _=>h'.get k c (h.get k c e (by simp)) (by grind)⟩
theorem gw.up(h:ai [] a H):ai P a H:=h.sub (by simp)
@[simp] theorem Nm:aQ (.str e) j a=v2 a uT (some (.str e)) (fA a 8 j):=by
 rfl
variable{D9 E9:Option Int}
@[simp] theorem Nn:nY (.str e) D9 E9 a=iA a (Al (.str e) D9 E9):=rfl
@[simp] theorem Np:dj p C Z P1 P4 u a=(p u a).bind λx b=>(jM C Z u b).bind λl c=>(jM P1 P4 u c).bind λh d=>nY x l h d:=rfl
@[simp] theorem QP:jM true p u a=.ok none a:=rfl
noncomputable def Xt(Ω:aG):D->ay (Option Int)
 |.int i=>.ok (some i) Ω
 |_=>.bad
@[simp] theorem QQ:jM false p u a=(p u a).bind λd b=>Xt b d:=by
 rfl
@[simp] theorem QR:Xt a (.int T)=.ok (some T) a:=rfl
theorem tZ(h:a[b]?=some (.lst o)):fO (.ref b) [] a=.ok .non (a.set b (.lst o.reverse)):=by
 simp only[fO,jx h]
def nC:EM:=cb (m2 aQ (af 2) (m2 (aY .Mod) (m2 (aY .Add) (af 1) (m2 (aY .Mult) (af 0) (af 3))) (aj (.int 26)))) true (aj .non) (cQ (ae (aj (.int 8)) ak)) 0 [4,3,5]
def nD:EM:=cb (dj (af 1) true (aj .non) false (m2 (aY .Add) (af 0) (aj (.int 1)))) true (aj .non) (cQ (ae (af 2) ak)) 0 [6]
def Xu(x:Str):Prop:=x.length<=17/\∃c∈x.cps.toList,97<=c
theorem Xu.ne(h:Xu e):e≠"-":=λa=>by
 obtain⟨_,c,b,d⟩:=h;subst a;have:c∈[45]:=b;simp at this;omega
section
variable{κ β:Type}[DecidableEq κ]
theorem dY{p:κ×β}{kvs:List (κ×β)}{k:κ}:cI (p::kvs) k=if p.1=k then some p.2 else cI kvs k:=by
 unfold cI
 grind
theorem t6{k a:κ}{v:β}:∀{kvs:List (κ×β)},cI (kvs.map λb=>if b.1=k then (b.1,v)else b) a=if a=k then (cI kvs k).map λ_=>v else cI kvs a
 |[]=>by simp[cI]
 |p::kvs=>by
  rw[ù,dY,dY,dY,t6]
  grind
theorem t7{k a:κ}{v:β}:∀{kvs:List (κ×β)},cI (kvs++[(k,v)]) a=match cI kvs a with|some d=>some d|none=>if a=k then some v else none
 |[]=>by
  rw[aaQ,dY]
  by_cases h:k=a
  .subst h;simp[cI]
  grind
 |p::kvs=>by
  rw[List.cons_append,dY,dY,t7]
  grind
theorem oB{k:κ}:∀{kvs:List (κ×β)},(kvs.any λa=>decide (a.1=k))=(cI kvs k).isSome
 |[]=>rfl
 |p::kvs=>by
  rw[Ĥ,dY,oB]
  by_cases h:p.1=k<;>simp[h]
theorem yR{kvs:List (κ×β)}{k a:κ}{v:β}:cI (eO kvs k v) a=if a=k then some v else cI kvs a:=by
 unfold eO;rw[oB];cases h:cI _ k with
 |none=>
  rw[if_neg (by simp),t7]
  grind
 |some d=>
  rw[abF,if_pos rfl,t6]
  simp_all
theorem BQ{kvs:List (κ×β)}{k:κ}{v:β}:(eO kvs k v).length<=kvs.length+1:=by
 unfold eO;split<;>simp
end
theorem fU(h:(l.map D.str)[b]?=some j):∃x,l[b]?=some x/\j=.str x:=by
 rw[å]at h
 grind
theorem eF(h:p u a=.ok (.ref b) H)(g:H[b]?=some (.ins e Q3))(c:Q3.lookup M=some j:=by rfl)(d:l.contains e=true:=by rfl):m1 (ic l M) p u a=.ok j H:=by
 rw[MZ,h];exact rL g d c
theorem eM{d:aG}(h:p u a=.ok (.ref b) H)(g:H[b]?=some (.ins e Q3))(f:Θ u H=.ok o C4)(c:y (.ref b::o) C4=.ok j d)(i:Q3.lookup M=none:=by rfl):cC e M y p Θ u a=.ok j d:=by
 rw[xl h g i,f,aI,c];rfl
theorem eN(b:Θ u a=.ok o H)(e:y o H=W0):mN y Θ u a=W0:=by simp_all
theorem eC(b:Θ u a=.ok o H)(e:y o H=.ok j C4):mN (a6 y) Θ u a=.ok j C4:=by simp_all
theorem eK(h:p u a=.ok j H)(b:Θ u H=.ok o C4):ae p Θ u a=.ok (j::o) C4:=by simp_all
theorem eP(h:p u a=.ok j H)(e:M6 j H=W0):m1 M6 p u a=W0:=by simp_all
theorem eQ(h:p u a=.ok j H)(h':Z u H=.ok U C4)(e:B6 j U C4=W0):m2 B6 p Z u a=W0:=by simp_all
theorem nT(h:p u a=.ok (.bl C) H):jF p u a=.ok (.bl !C) H:=by simp_all
theorem aT(h:p u a=.ok (.bl true) H)(h':Z u H=W0):kK p Z u a=W0:=by simp_all
theorem aF(h:p u a=.ok (.bl false) H):kK p Z u a=.ok (.bl false) H:=by simp_all
theorem oF(h:p u a=.ok (.bl false) H)(h':Z u H=W0):Bc p Z u a=W0:=by simp_all
theorem oT(h:p u a=.ok (.bl true) H):Bc p Z u a=.ok (.bl true) H:=by simp_all
theorem eL(h:p u a=.ok j H)(b:Θ u H=.ok o C4)(c:A8 H j=true)(e:j9 j o C4=W0):dU A8 j9 p Θ u a=W0:=by
 unfold dU;simp_all
theorem qA(h:p u a=.ok j H):aq (aH b p) S u a=S (u.set b (some j)) H:=by simp_all
theorem qE(h:p u a=.ok j H):aq (cw p) S u a=S u H:=by simp_all
theorem qR(h:p u a=.ok j H):aq (bf p) S u a=.rt j H:=by simp_all
theorem q0(h:p u a=.ok (.bl false) H):aq (dk p S ao) D4 u a=D4 u H:=by simp_all
theorem qT{c:SM}(h:p u a=.ok (.bl true) H):aq (dk p S D4) c u a=aq S c u H:=by simp_all
theorem qB(h:S u a=.rt j H):aq S D4 u a=.rt j H:=by simp_all
theorem qN{b:bh}(h:S u a=.nx b H):aq S D4 u a=D4 b H:=by simp_all
theorem fR(e:S (br w o) a=.rt j H)(h:o.length=b:=by rfl):a8 w b S o a=.ok j H:=by rw[bu h,e];rfl
theorem fZ(e:S (br w o) a=.nx u H)(h:o.length=b:=by rfl):a8 w b S o a=.ok .non H:=by rw[bu h,e];rfl
theorem ai.g(K:ai P a H)(h:a[b]?=some C2)(n:b∉P:=by simp<;>omega):H[b]?=some C2:=K.get _ _ h n
theorem ai.st(h:a[b]?=some C2):∃az,a.set b k9=az/\ai [b] a az/\az[b]?=some k9:=⟨_,rfl,ai.set (by simp),a_ h⟩
theorem aL(x:D)(h:a[b]?=some (.lst o))(c:o.length<=1000):∃az,cm (.ref b) [x] a=.ok .non az/\ai [b] a az/\az[b]?=some (.lst (o++[x])):=⟨_,fT h c,ai.set (by simp),a_ h⟩
theorem kO(z:W0=.ok j (a.set b k9))(h:a[b]?=some C2):∃az,W0=.ok j az/\ai [b] a az/\az[b]?=some k9:=⟨_,z,ai.set (by simp),a_ h⟩
theorem kA(z:W0=.ok j (a++C2::H)):∃az,W0=.ok j az/\ai [] a az/\az[a.length]?=some C2:=⟨_,z,ai.app,av⟩
theorem YF(I:Nat->bh->aG->Prop)(g:M0 u a=.ok Y3 H)(j:∀{i u a},I i u a->et Y3 a=some o)(k:∀{i d u a},o[i]?=some d->I i u a->∃c e f,A5 d u=some c/\S c a=.nx e f/\I (i+1) e f)(l:I 0 u H)(m:o.length<=1000):
  ∃b az,dy A5 M0 S u a=.nx b az/\I o.length b az:=by
 rw[dO,g]
 exact cL (R:=λr=>∃b az,r=.nx b az/\I _ b az) I (λ_ _ _ h=>j h) (λi d u a h n=>by
  obtain⟨c,e,f,p,q,s⟩:=k h n;exact⟨_,p,by rwa[q]⟩) (λu a h=>⟨u,a,rfl,h⟩) _ 0 u _ (by unfold fuel;exact zr (B' (ŀ _ _) m)) (Ì _) l
theorem Xv(I:Nat->bh->aG->Prop)(k:M0 u a=.ok Y3 H)(l:∀{i u a},I i u a->et Y3 a=some o)(m:∀{i d u a},o[i]?=some d->I i u a->∃f g j,A5 d u=some f/\S f a=.nx g j/\I (i+1) g j)(n:I 0 u H)(p:o.length<=1000):
  ∃b az,(∀c,aq (dy A5 M0 S) c u a=c b az)/\I o.length b az:=
 cF (YF I k l m n p) λb az e h=>⟨_,_,λ_=>qN e,h⟩
theorem YG(I:Nat->bh->aG->Prop)(j:M0 u a=.ok (.seq (.ref b)) H)(k:∀{i u a},I i u a->a[b]?=some (.lst (l.map .str)))(m:∀{i x u a},l[i]?=some x->I i u a->∃d e f,A5 (.str x) u=some d/\S d a=.nx e f/\I (i+1) e f)(n:I 0 u H)(q:l.length<=1000):
  ∃g az,(∀c,aq (dy A5 M0 S) c u a=c g az)/\I l.length g az:=by
 have:=Xv I j (λh=>by rw[cz,aJ,aD (k h)]) (λh o=>by obtain⟨x,p,rfl⟩:=fU h;exact m p o) n (by simp_all)
 simp_all
theorem lN(h:small o.length=true:=by rfl):bt o a=.ok (.ref a.length) (a++[.lst o]):=if_pos h
theorem al(h:p u a=.ok j H):mx p Z u a=.ok j H:=by simp_all
theorem Xw(I:Nat->bh->aG->Prop)(j:M0 u a=.ok (.ints 0 b) H)(l:∀{i u a},i<b->I i u a->∃d e f,A5 (.int i) u=some d/\S d a=.nx e f/\I (i+1) e f)(k:I 0 u H)(m:b<=1000):
  ∃g az,(∀c,aq (dy A5 M0 S) c u a=c g az)/\I b g az:=by
 have:=Xv (A5:=A5) (S:=S) I j (λ_=>rfl) (λh n=>by obtain⟨rfl,o⟩:=ef h;simp_all) k (by rwa[cE])
 rwa[cE]at this
theorem TU{g:Nat->Str}(c:M0 u a=.ok (.ints 0 b) a)(l:∀i<b,p (some (.int i)::fk P u) a=.ok (.str (g i)) a)(e:b<=1000):cb p true Z M0 0 P u a=.ok (.ref a.length) (a++[.lst (((Y' b).map g).map .str)]):=by
 rw[cO (g:=λd=>match d with|.int j=>.str (g j.toNat)|_=>.non) c rfl (λ_ _=>rfl) (λd f _=>by
  obtain⟨i,k⟩:=Ó.mp f;obtain⟨rfl,h⟩:=ef k
  simp_all) (by rw[cE];exact eV e),ú.mpr (by simp),jn,Â,Â]
 rfl
variable{Q0:Int}
theorem Lw(h:decide (T=Q0)=C):aA .Eq (.int T) (.int Q0) a=.ok (.bl C) a:=by subst h;rfl
theorem Xx(h:decide (Q0<=T)=C):aA .GtE (.int T) (.int Q0) a=.ok (.bl C) a:=by simp_all
theorem lH:aY .Add (.int T) (.int Q0) a=.ok (.int (T+Q0)) a:=by simp
theorem qX(h:p u a=.exc j H):aq (cw p) S u a=.exc j H:=by simp_all
theorem qY(h:S u a=.exc j H):aq S D4 u a=.exc j H:=by simp_all
theorem fX(e:S (br w o) a=.exc j H)(h:o.length=b:=by rfl):a8 w b S o a=.exc j H:=by rw[bu h,e];rfl
theorem sr(h:p u a=.ok (.ref b) H)(g:H[b]?=some (.lst o)):bx p u a=.ok (.seq (.ref b)) H:=by
 rw[dN,h];exact bj (by rw[aJ,aD g])
end Mir
namespace Mir
open PySem PySem.Spec PyProof.Rows L2
def Nq:D->Bool
 |.lst a=>a.all iw
 |d=>iw d
variable{Q1 q:b'->Prop}{d ο:Hp}{j:D}{v:List b'}{x:V}
theorem xn(a:iw j=true)(r:Rep q d j x):aw v Q1 ο j x:=by
 cases j with
 |lst _=>cases a
 |tup _=>cases a
 |ref _=>cases a
 |dct _ _=>cases a
 |_=>exact r
theorem yS(a:iw j=true)(r:aw v Q1 ο j x):Rep q d j x:=by
 cases j with
 |lst _=>cases a
 |tup _=>cases a
 |ref _=>cases a
 |dct _ _=>cases a
 |_=>exact r
theorem t8{α:List b'}{Z c:b'->Prop}{H f:Hp}:∀{a:List D}{b:List V},a.all iw=true->bg Z H a b->gK α c f a b
 |[],b,_,r=>r
 |d::a,b,h,r=>by
  simp only[ļ,Ç]at h;refine aW r λv g e i j=>⟨v,g,e,xn h.1 i,t8 h.2 j⟩
theorem BR{α:List b'}{Z:b'->Prop}{H:Hp}:∀{c:List D}{b:List V},c.all Nq=true->bg Z H c b->aE (aw α Z H) c b
 |[],b,_,r=>by subst r;exact .nil
 |d::c,b,h,r=>by
  simp only[ļ,Ç]at h;obtain⟨v,k,rfl,f,g⟩:=r
  exact .cons (by
    cases d with
    |lst c=>
     refine bS f λa b e z i j=>⟨a,b,e,z,i,t8 h.1 j⟩
    |tup _=>cases h.1
    |ref _=>cases h.1
    |dct _ _=>cases h.1
    |_=>exact xn rfl f) (BR h.2 g)
variable [hH]
def pureOf(O:aV):List D->Out Rs:=λa=>if a.all Nq=true then (match O a []with
  |.ok d _=>if iw d=true then .ok (false,d)else .bad
  |_=>.bad)else .bad
variable{A:A'}{B:X'}{G:O'}{Y:Str->Option f'}{b:Nat}{h:b'}{l:List Str}{y:aV}{z:y'}{θ:N'}
theorem xo(c:bq B G A Y z eA b h θ l (bH (aS Y) y)):bq B G A Y z eA b h θ l (qZ (pureOf y)):=c.imp λK H Q E q=>by
 refine bp q λZ i s d j r k=>xa k λe g=>?_
 unfold pureOf at e
 by_cases m:i.all Nq=true
 .rw[if_pos m]at e
  refine⟨[],Z,[],i,⟨by simp,.nil,by simp,j⟩,BR m r,?_⟩
  cases t:y i []with
  |exc x u=>simp_all
  |bad=>simp_all
  |ok w u=>
   rw[t]at e;dsimp only at e
   by_cases n:iw w=true
   .rw[if_pos n]at e
    cases e;intro v C D L p M F;refine g v C Z ⟨λf o I=>p.frm f o I (by simp),λ_ c=>c,by grind,λa N=>?_⟩ (.rep (yS n F))
    cases J:H a with
    |none=>simp_all
    |some o=>rw[p.frm a o J (by simp)];simp
   simp_all
 simp_all
variable{a:aG}{o:List D}
theorem p_(b:o.all Nq=true)(h:y o []=.ok j a)(c:iw j=true):pureOf y o=.ok (false,j):=by
 unfold pureOf
 simp_all
def Nr:SM:=(aq (aH 3 (m2 (aY .FloorDiv) (af 3) (aj (.int 840)))) ao)
def Nt:SM:=(dk (kK (m2 (aA .Eq) (m2 (aY .Mod) (af 0) (aj (.int 2))) (aj (.int 1))) (m2 (aA .Gt) (af 0) (m2 (aY .Pow) (aj (.int 10)) (aj (.int 18)))))
 (aq (dy (dH 4) (cQ (ae (af 1) ak)) Nr)
 (aq (bf (m2 (aY .Mod) (m2 (aY .Mod) (af 3) (aj (.int 840))) (af 2)))
 ao))
 ao)
def Xy:EM:=(mN bt (ae (aj (.int 48271)) (ae (aj (.int 69621)) (ae (aj (.int 40692)) (ae (aj (.int 39373)) (ae (aj (.int 16807)) (ae (aj (.int 30323)) (ae (aj (.int 21403)) (ae (aj (.int 62089)) (ae (aj (.int 45742)) (ae (aj (.int 37907)) (ae (aj (.int 53611)) (ae (aj (.int 28411)) (ae (aj (.int 59393)) (ae (aj (.int 33391)) ak)))))))))))))))
def Xz:SM:=(aq (aH 5 Xy)
 (aq (aH 6 (m2 (aY .Mod) (m2 (aY .Mult) (m2 (aY .Add) (m2 (aY .Mod) (af 0) (aj (.int 1000000007))) (aj (.int 11))) (m2 aQ (af 5) (m2 (aY .Mod) (af 1) (aj (.int 14))))) (aj (.int 2147483629))))
 (aq (aH 7 (m2 (aY .Mod) (m2 (aY .Mult) (af 6) (m2 (aY .Add) (af 6) (af 1))) (aj (.int 1999999973))))
 (aq (bf (m2 (aY .Mod) (m2 (aY .FloorDiv) (m2 (aY .Mod) (m2 (aY .Mult) (af 7) (aj (.int 16807))) (aj (.int 998244353))) (aj (.int 1000))) (af 2)))
 ao))))
def qa:SM:=
 (aq (aH 3 (m2 (aY .FloorDiv) (af 0) (aj (.int 2))))
 (aq Nt Xz))
variable{U:D}
@[simp] theorem Nu:aY .Pow j U a=fj (fE .Pow) j U a:=rfl
abbrev zo(c t m x:Int)(s:Option D):bh:=[some (.int c),some (.int t),some (.int m),some (.int x),s,none,none,none]
abbrev QS:List D:=[D.int 48271,.int 69621,.int 40692,.int 39373,.int 16807,.int 30323,.int 21403,.int 62089,.int 45742,.int 37907,.int 53611,.int 28411,.int 59393,.int 33391]
variable{Q0 T:Int}
theorem FK{m:Int}(C:0<=Q0)(s:Q0<100000)(b:0<m):∃r,0<=r/\r<m/\pureOf (a8 8 3 qa) [.int T,.int Q0,.int m]=.ok (false,.int r):=by
 have g:∃r c,0<=r/\r<m/\a8 8 3 qa [.int T,.int Q0,.int m] []=.ok (.int r) c:=by
  rw[bu (by rfl)]
  have t:br 8 [D.int T,.int Q0,.int m]=[some (.int T),some (.int Q0),some (.int m),none,none,none,none,none]:=rfl;rw[t];unfold qa;have u:(aH 3 (m2 (aY .FloorDiv) (af 0) (aj (.int 2)))) [some (.int T),some (.int Q0),some (.int m),none,none,none,none,none] []=.nx (zo T Q0 m (T / 2) none) []:=by simp
  rw[au,u,aU,au]
  by_cases j:T%2=1/\1000000000000000000<T
  .have k:o_ Q0=true:=e_ (by omega) (by omega)
   have l:∃x a,iX (dH 4) (.ints 0 Q0.toNat) Nr fuel 0 (zo T Q0 m (T / 2) none) []=.nx (zo T Q0 m x a) []:=by
    refine cL (R:=λr=>∃x a,r=.nx (zo T Q0 m x a) []) (o:=intsFrom 0 Q0.toNat) (λ_ n p=>∃x a,n=(zo T Q0 m x a)/\p=[]) (λ_ _ _ _=>rfl) ?_ ?_ fuel 0 _ _ (by rw[cE];unfold fuel;omega) (Ì _) ⟨_,_,rfl,rfl⟩
    .rintro i d n p q ⟨x,a,rfl,rfl⟩
     refine⟨_,rfl,?_⟩;have e:Nr (zo T Q0 m x (some d)) []=.nx (zo T Q0 m (x / 840) (some d)) []:=by simp[Nr]
     show Hq (Nr (zo T Q0 m x (some d)) []) _ _
     rw[e];exact⟨_,_,rfl,rfl⟩
    .rintro n p ⟨x,a,rfl,rfl⟩
     exact⟨x,a,rfl⟩
   obtain⟨x,a,l⟩:=l;refine⟨x%840%m,[],Ϝ _ (ŭ b),ϝ _ b,?_⟩;simp[Nt,j.1,j.2,k,l,b]
  .obtain⟨d,q,e⟩:=IE (xs:=QS) (T:=Q0%14) (Ϝ _ (by decide)) (ϝ _ (by decide))
   obtain⟨v,rfl⟩:∃v,d=.int v:=by
    simp only[Æ,Ϟ,or_false]at q;rcases q with h|h|h|h|h|h|h|h|h|h|h|h|h|h<;>exact⟨_,h⟩
   have w:([.lst QS]:aG)[0]?=some _:=rfl;have E:=bC w e;have F:nM (T%1000000007+11)=true:=kC (by omega) (by omega)
   have i2:nM ((T%1000000007+11)*v%2147483629)=true:=kC (by omega) (by omega)
   have G:nM ((T%1000000007+11)*v%2147483629*((T%1000000007+11)*v%2147483629+Q0)%1999999973)=true:=kC (by omega) (by omega)
   have rI:Nt (zo T Q0 m (T / 2) none) []=.nx (zo T Q0 m (T / 2) none) []:=by
    by_cases f:T%2=1
    .have y:¬ 1000000000000000000<T:=λz=>j ⟨f,z⟩
     simp[Nt,f,y]
    .have A:(T%2==1)=false:=by simpa using f
     simp[Nt,A]
   refine⟨(T%1000000007+11)*v%2147483629*((T%1000000007+11)*v%2147483629+Q0)%1999999973*16807%998244353 / 1000%m,([.lst QS]:aG),Ϝ _ (ŭ b),ϝ _ b,?_⟩;rw[rI,aU];have H:aH 5 Xy (zo T Q0 m (T / 2) none) []=.nx ((zo T Q0 m (T / 2) none).set 5 (some (.ref 0))) [.lst QS]:=rfl;unfold Xz
   simp_all
 refine aW g λr c B f e=>?_
 exact⟨r,B,f,p_ rfl e rfl⟩
variable{H:aG}{M0:IM}{P:List Nat}{Y3:Src}{Z p:EM}{u:bh}
theorem m_(I:Nat->List D->aG->Prop)(f:M0 u a=.ok Y3 H)(g:I 0 [] H)(j:∀i b a,I i b a->et Y3 a=some o)(k:∀i d b a,o[i]?=some d->I i b a->∃y H,p ([some d]++fk P u) a=.ok y H/\I (i+1) (b++[y]) H)(l:o.length<=90000):
  ∃e c,cb p true Z M0 0 P u a=.ok (.ref c.length) (c++[.lst e])/\I o.length e c:=
 kS I f g j (λi d b a m h=>⟨true,a,rfl,.inr ⟨rfl,k i d b a m h⟩⟩) l
def XA(Ω:aG)(j:Nat)(a:List Str):Prop:=Ω[j]?=some (.lst (a.map .str))
def lJ(Ω:aG)(a:List Nat)(b:List (List Str)):Prop:=aE (XA Ω) a b
structure Rw(Ω:aG)(k:Nat)(js:List Nat)(rs:List (List Str)):Prop where
 ce:Ω[k]?=some (.lst (js.map .ref))
 al:lJ Ω js rs
theorem lJ.keep{Ω az:aG}:∀{a:List Nat}{b:List (List Str)},lJ Ω a b->∀{fp:List Nat},ai fp Ω az->(∀j∈a,j∉fp)->lJ az a b
 |_,_,.nil,_,_,_=>.nil
 |_,_,.cons r t,fp,K,h=>.cons (K.get _ _ r (h _ (by simp))) (lJ.keep t K (by grind))
theorem Rw.keep{Ω az:aG}{k:Nat}{a:List Nat}{b:List (List Str)}(R:Rw Ω k a b)(K:ai [] Ω az):Rw az k a b:=⟨K.get _ _ R.ce (by simp),R.al.keep K (by simp)⟩
variable{V8:List Nat}{ε:List (List Str)}
theorem Rw.xq(R:Rw a b P ε)(K:ai V8 a H)(c:b∉V8)(d:∀j∈P,j∉V8):Rw H b P ε:=⟨K.get _ _ R.ce c,R.al.keep K d⟩
theorem lJ.len(h:lJ a P ε):ε.length=P.length:=aE.length h
theorem Rw.len{Ω:aG}{k:Nat}{a:List Nat}{b:List (List Str)}(R:Rw Ω k a b):b.length=a.length:=R.al.len
theorem lJ.at(h:lJ a P ε)(c:ε[b]?=some l):∃j,P[b]?=some j/\a[j]?=some (.lst (l.map .str)):=aE.EB (R:=XA a) h c
variable{w:Nat}
theorem lJ.at'(h:lJ a P ε)(d:P[b]?=some w):∃c,ε[b]?=some c/\a[w]?=some (.lst (c.map .str)):=aE.get h d
theorem lJ.lt(h:lJ a P ε):∀j∈P,j<a.length:=λj b=>by
 obtain⟨i,c⟩:=Ó.mp b;obtain⟨d,_,e⟩:=h.at' c;exact b_ e
theorem lK(h:(P.map D.ref)[b]?=some j):∃a,P[b]?=some a/\j=.ref a:=by
 rw[å]at h
 grind
def QU:SM:=(aq (dk (m2 (aA .In) (af 1) (dj (af 3) false (aj (.int 1)) true (aj .non))) (aq (bf (af 2)) ao) ao) ao)
def vk:SM:=(aq (dy (gs [2,3]) (pe (af 0)) QU) (aq (bf (aj .non)) ao))
theorem vl(h:a[b]?=some (.lst (l.map .str))):nY (.ref b) (some 1) none a=.ok (.ref a.length) (a++[.lst (l.tail.map .str)]):=by
 have e:ed (l.map D.str) (some 1) none=l.tail.map .str:=by
  simp
 simp only[nY,aD h,rF,e]
variable{e:Str}{o0:Nat}
theorem Jm(h:a[w]?=some (.lst (l.map .str))):∃az,ai [] a az/\QU [some (.ref b),some (.str e),some (.int o0),some (.ref w)] a=if e∈l.tail then .rt (.int o0) az else .nx [some (.ref b),some (.str e),some (.int o0),some (.ref w)] az:=by
 have d:=vl h;have g:(a++[Cell.lst (l.tail.map .str)])[a.length]?=some _:=av;have i:ai [] a (a++[Cell.lst (l.tail.map .str)]):=ai.app;generalize a++[Cell.lst _]=j at *;have f:=il (e:=e) g;refine⟨_,i,?_⟩
 by_cases c:e∈l.tail
 .rw[if_pos c,decide_eq_true c]at *
  simp[QU,d,f,-rJ]
 .rw[if_neg c,decide_eq_false c]at *
  simp[QU,d,f,-rJ]
theorem Jn(R:Rw a b P ε)(y:ε.length<=1000):∃d az,a8 4 2 vk [.ref b,.str e] a=.ok d az/\ai [] a az/\((d=.non/\∀r∈ε,e∉r.tail)\/∃i:Nat,d=.int i/\∃r,ε[i]?=some r/\e∈r.tail):=by
 rw[bu (by rfl)]
 have z:br 4 [D.ref b,.str e]=[some _,some _,none,none]:=rfl;rw[z];have t:=R.len
 have k:pe (af 0) [some (.ref b),some (.str e),none,none] a=.ok (.MQ (.ref b)) a:=by
  unfold pe;simp[aD R.ce]
 unfold vk;rw[au,dO,k,fu]
 refine cL (R:=λr=>∃d az,gA (sq r _)=.ok d az/\ai [] a az/\((d=.non/\∀r∈ε,e∉r.tail)\/∃i:Nat,d=.int i/\∃r,ε[i]?=some r/\e∈r.tail)) (o:=eZ 0 (P.map .ref))
  (λi h c=>∃l m,h=[some (.ref b),some _,l,m]/\(∀r∈ε.take i,e∉r.tail)/\ai [] a c) ?_ ?_ ?_ fuel 0 _ _ (by rw[hF];unfold fuel;simp;exact zr (B' (V' t.symm) y)) (Ì _) ⟨none,none,rfl,by simp,ai.refl⟩
 .rintro i h c ⟨_,_,_,_,K⟩
  show(iC c (.ref b)).map _=_
  rw[aJ,aD (R.keep K).ce];rfl
 .rintro i d h c A ⟨l,m,rfl,u,K⟩
  obtain⟨E,n,rfl⟩:=kz _ 0 i d A;obtain⟨j,B,rfl⟩:=lK n;obtain⟨p,C,g⟩:=(R.keep K).al.at' B;rw[ϛ];refine⟨[some (.ref b),some (.str e),some _,some _],rfl,?_⟩;obtain⟨q,w,f⟩:=Jm g;rw[f]
  by_cases x:e∈p.tail
  .rw[if_pos x]
   exact⟨.int i,q,rfl,K.trans w,by grind⟩
  .rw[if_neg x]
   refine⟨_,_,rfl,λr s=>?_,K.trans w⟩
   rw[Ï,C]at s
   grind
 .rintro h c ⟨l,m,rfl,u,K⟩
  rw[hF,ZZ,←t,ð]at u;exact⟨.non,c,rfl,K,by simp_all⟩
def Nv(a:aV):SM:=(aq (dk (kK (af 1) (m2 (aA .Is) (mN (a6 a) (ae (af 0) (ae (m2 aQ (af 1) (aj (.int 0))) ak))) (aj .non))) (aq (bf (m2 aQ (af 1) (aj (.int 0)))) ao) ao) ao)
def BS(a:aV):SM:=(aq (dy (dH 1) (bx (af 0)) (Nv a)) (aq (bf (aj .non)) ao))
theorem kT(h:a[b]?=some (.lst o)):kF a (.ref b)=some (!o.isEmpty):=by simp only[kF,h]
theorem Jo(R:Rw a b P ε)(o:ε.length<=1000)(h:a[w]?=some (.lst (l.map .str))):∃az,ai [] a az/\Nv (a8 4 2 vk) [some (.ref b),some (.ref w)] a=match freeOf ε l with|some m=>.rt (.str m) az|none=>.nx [some (.ref b),some (.ref w)] az:=by
 cases l with
 |nil=>
  refine⟨a,ai.refl,?_⟩;simp[Nv,freeOf,(kT h)]
 |cons m t=>
  have g:=kT h;have c:aQ _ (.int 0) a=.ok _ a:=bC h (L2.cf rfl);refine aW (Jn (e:=m) R o) λd p j k q=>?_
  have f:aQ _ (.int 0) _=.ok _ _:=bC (k.get _ _ h (by simp)) (L2.cf rfl)
  refine⟨_,k,?_⟩;rcases q with ⟨rfl,n⟩|⟨i,rfl,r,s,n⟩
  .rw[dS (by simp_all)]
   simp[Nv,g,c,j,f]
  .rw[dR ⟨r,by grind,n⟩]
   simp[Nv,g,c,j]
theorem Jp(R:Rw a b P ε)(u:ε.length<=1000):∃az,a8 2 1 (BS (a8 4 2 vk)) [.ref b] a=.ok (IF (free ε)) az/\ai [] a az:=by
 rw[bu (by rfl)]
 have w:br 2 [D.ref b]=[some _,none]:=rfl;rw[w];have x:=R.len;have l:bx (af 0) [some (.ref b),none] a=.ok (.seq (.ref b)) a:=by simp[bj (by rw[aJ,aD R.ce])]
 unfold BS;rw[au,dO,l,fu]
 refine cL (R:=λr=>∃az,gA (sq r _)=.ok _ az/\ai [] a az) (o:=P.map .ref)
  (λi h c=>∃n,h=[some _,n]/\(ε.take i).findSome? (freeOf ε)=none/\ai [] a c) ?_ ?_ ?_ _ 0 _ _ (by unfold fuel;simp;omega) (Ì _) ⟨_,rfl,rfl,ai.refl⟩
 .rintro i h c ⟨_,_,_,K⟩
  rw[cz,aJ,aD (R.keep K).ce]
 .rintro i d h c s ⟨n,rfl,p,K⟩
  obtain⟨j,y,rfl⟩:=lK s;have R2:=R.keep K;refine bV (R2.al.at' y) λf k g=>?_
  refine⟨[some _,some _],rfl,?_⟩;refine bV (Jo R2 u g) λz t e=>?_
  rw[e];have A:ε.take (i+1)=ε.take i++[f]:=by rw[Ï,k];rfl
  cases B:freeOf ε _ with
  |some m=>
   refine⟨_,?_,K.trans t⟩
   have:free ε=some m:=by
    unfold free
    have s:ε=ε.take i++(f::ε.drop (i+1)):=by
     have q:=(ZS.mp k).1;rw[ç q]at k;cases k
     simp_all
    grind
   rw[this];rfl
  |none=>
   refine⟨_,rfl,?_,K.trans t⟩
   simp_all
 .rintro h c ⟨n,rfl,p,K⟩
  rw[ZZ,←x,ð]at p;refine⟨_,?_,K⟩;unfold free;rw[p];rfl
theorem FL:ed o none (some (b:Int))=o.take b:=vb o b
theorem j_(h:a[b]?=some (.lst (l.map .str))):nY (.ref b) none (some (w:Int)) a=.ok (.ref a.length) (a++[.lst ((l.take w).map .str)]):=by
 simp only[nY,aD h,rF,FL,aaR]
variable{P2:Ty}
@[simp] theorem QV:iD P2 (.tup o) a=.ok (.bl (P2==.tuple)) a:=rfl
@[simp] theorem QW:iD P2 (.str e) a=.ok (.bl (P2==.str)) a:=rfl
@[simp] theorem QX:iD P2 .non a=.ok (.bl false) a:=rfl
@[simp] theorem Nw:bb .len [.tup o] a=.ok (.int o.length) a:=rfl
variable{ω:List Str}
theorem ng(h:a[b]?=some (.lst (l.map .str)))(h':a[w]?=some (.lst (ω.map .str))):aA .Eq (.ref b) (.ref w) a=.ok (.bl (decide (l=ω))) a:=by
 rw[mX,ik,fQ h,fQ h']
 simp_all
theorem xr(h:a[b]?=some (.lst (l.map .str)))(h':a[w]?=some (.lst (ω.map .str))):aA .NotEq (.ref b) (.ref w) a=.ok (.bl (!decide (l=ω))) a:=by
 rw[wX,ik,fQ h,fQ h']
 simp_all
theorem Jq(h:a[b]?=some (.lst (l.map .str))):nY (.ref b) (some (w:Int)) none a=.ok (.ref a.length) (a++[.lst ((l.drop w).map .str)]):=by
 simp only[nY,aD h,rF,AS,acB]
theorem lJ.snoc(h:lJ a P ε)(c:a[b]?=some (.lst (l.map .str))):lJ a (P++[b]) (ε++[l]):=aE.append h (.cons c .nil)
theorem dr(h:a[b]?=some (.lst o)):bb .list [.ref b] a=.ok (.ref a.length) (a++[.lst o]):=by
 show jK _ _=_
 simp only[n_,aJ,aD h];rfl
theorem oC{cap:List Nat}{f:List Str->List Str}{P:Nat->Prop}(z:M0 u a=.ok (.seq (.ref b)) a)(R:Rw a b V8 ε)(A:ε.length<=1000)(B:∀j l k,ai [] a k->j∈V8->l∈ε->k[j]?=some (.lst (l.map .str))->∃n c,p ([some (.ref j)]++fk cap u) k=.ok (.ref n) c/\ai [] k c/\c[n]?=some (.lst ((f l).map .str))/\P n):
  ∃g c,cb p true Z M0 0 cap u a=.ok (.ref c.length) (c++[.lst (g.map .ref)])/\ai [] a c/\lJ c g (ε.map f)/\∀j∈g,P j:=by
 have r:=R.len
 obtain⟨G,c,e,g,rfl,q,C,s⟩:=m_ (λi m c=>∃g,m=g.map .ref/\lJ c g ((ε.take i).map f)/\ai [] a c/\∀j∈g,P j) z ⟨[],rfl,.nil,ai.refl,by simp⟩
  (λi m c h=>by
   refine eE h λ_ _ _ K _=>?_
   rw[cz,aJ,aD (R.keep K).ce])
  (λi d m k D h=>by
   obtain⟨g,rfl,q,K,s⟩:=h;obtain⟨j,t,rfl⟩:=lK D;obtain⟨l,w,o⟩:=(R.keep K).al.at' t;refine bS (B j l k K (ZV t) (ZV w) o) λn c e y E H=>?_
   refine⟨_,c,e,g++[n],by simp,?_,K.trans y,?_⟩
   .rw[Ï,w,Ü]
    exact(q.keep y (by simp)).snoc E
   .intro x F
    rcases Ô.mp F with h|h
    .simp_all
    simp_all) (by simp;exact eV (B' (V' r.symm) A))
 refine⟨g,c,e,C,?_,s⟩;rwa[ZZ,←r,ð]at q
def BU(i:Nat):EM:=cb (mN (bb .list) (ae (af 0) ak)) true (aj .non) (bx (af i)) 0 []
theorem FN(l:u[w]?=some (some (.ref b)))(R:Rw a b P ε)(m:ε.length<=1000):∃c d az,BU w u a=.ok (.ref d) az/\ai [] a az/\Rw az d c ε/\(∀j∈c,a.length<=j)/\a.length<=d/\d∉c:=by
 have f:bx (af w) u a=.ok (.seq (.ref b)) a:=by
  rw[dN,kQ,l];exact bj (by rw[aJ,aD R.ce])
 obtain⟨c,n,e,K,g,o⟩:=oC (p:=mN (bb .list) (ae (af 0) ak)) f R m (λj i k K _ _ h=>by
  refine⟨_,k++[.lst (i.map _)],?_,ai.app,av,K.len⟩;have:=dr h
  simp_all)
 rw[Ł]at g;refine⟨_,_,_,e,K.trans ai.app,⟨av,g.keep (fp:=[]) ai.app (by simp)⟩,o,K.len,λh=>?_⟩
 have:=g.lt _ h
 simp_all
def stC:EM:=(Hc (m2 (aA .Eq) (dj (af 0) true (aj .non) false (aj (.int 1))) (mN bt (ae (af 1) ak))) (dj (af 0) false (aj (.int 1)) true (aj .non)) (af 0))
theorem Jr(h:a[b]?=some (.lst (l.map .str))):nY (.ref b) none (some 1) a=.ok (.ref a.length) (a++[.lst ((l.take 1).map .str)]):=j_ h
theorem Js(h:a[b]?=some (.lst (l.map .str))):∃d az,stC [some (.ref b),some (.str e)] a=.ok (.ref d) az/\ai [] a az/\az[d]?=some (.lst ((dG e l).map .str))/\(d=b\/a.length<=d):=by
 have k:=Jr h;have m:(a++[Cell.lst ((l.take 1).map .str)])[a.length]?=some _:=av;have j:ai [] a (a++[Cell.lst ((l.take 1).map .str)]):=ai.app;generalize a++[Cell.lst _]=c at *;have n:(c++[Cell.lst [.str e]])[c.length]?=some (.lst ([e].map _)):=av;have f:ai [] _ (c++[Cell.lst [.str e]]):=ai.app;have o:=f.get _ _ (j.get _ _ h (by simp)) (by simp)
 have g:=ng (f.get _ _ m (by simp)) n
 have p:(m2 (aA .Eq) (dj (af 0) true (aj .non) false (aj (.int 1))) (mN bt (ae (af 1) ak))) [some (.ref b),some (.str e)] a=.ok (.bl (decide (l.take 1=[e]))) (c++[Cell.lst [.str e]]):=by
  simp[k,a7,g,-mX]
 generalize c++[Cell.lst _]=i at *;have K:=j.trans f;unfold stC;rw[vj,p,ig,ij,jw,aI]
 by_cases g:l.take 1=[e]
 .rw[if_pos (by simp_all)]
  refine⟨_,i++[.lst (l.tail.map .str)],?_,K.trans ai.app,?_,.inr K.len⟩
  .simp[(vl o)]
  .unfold dG;rw[if_pos g];exact av
 .rw[if_neg (by simp_all)]
  refine⟨b,_,by simp,K,?_,.inl rfl⟩
  unfold dG;simp_all
def FnAt(d:aV):Prop:=∀b k e c,Rw b k e c->c.length<=1000->∃a,d [.ref k] b=.ok (IF (free c)) a/\ai [] b a
theorem Nx:FnAt (a8 2 1 (BS (a8 4 2 vk))):=λ_ _ _ _ R a=>Jp R a
def tM:EM:=(mN (bb .any) (ae (af 1) ak))
def stM:EM:=(cb stC true (aj .non) (bx (af 1)) 0 [3])
def bM(st:SM)(a:aV):SM:=(aq (aH 3 (mN (a6 a) (ae (af 1) ak)))
 (aq (dk (m2 (aA .Is) (af 3) (aj .non))
 (aq st
 ao)
 ao)
 (aq (cw (dU mz cm (af 2) (ae (af 3) ak)))
 (aq (aH 1 stM)
 ao))))
def FO(st:SM)(a:aV):SM:=
 (aq (aH 1 (BU 0))
 (aq (aH 2 (mN bt ak))
 (aq (pf tM (bM st a))
 (aq (bf (af 2))
 ao))))
theorem xu(R:Rw a b P ε):bb .any [.ref b] a=.ok (.bl ((ε.map λr=>!r.isEmpty).any id)) a:=by
 show oh _ _ a=_
 unfold oh;have:bI (fA a 8) [.ref b]=some [LL ε]:=by simp[(oA R.ce R.al)]
 have:Bh .any [LL ε]=.ok (false,.bl ((ε.map λr=>!r.isEmpty).any id)):=by simp[LL,any_rows,-ack]
 simp_all
variable{C1:Option D}{S:SM}
theorem Ny(M:FnAt y)(R:Rw a b P ε)(F:ε.length<=1000)(N:free ε=some e)(O:a[w]?=some (.lst (l.map .str)))(o:w≠b)(n:w∉P)(Q:l.length<=900):
  ∃q g az,bM S y [some j,some (.ref b),some (.ref w),C1] a=.nx [some j,some (.ref q),some (.ref w),some (.str e)] az/\Rw az q g (ε.map (dG e))/\az[w]?=some (.lst ((l++[e]).map .str))/\w≠q/\w∉g/\ai [w] a az:=by
 refine bV (M a b P ε R F) λc G r=>?_
 rw[N]at G;have s:=r.get _ _ O (by simp)
 have T:=R.keep r;have t:=fT (j:=.str e) s (by simp;exact eV Q)
 have U:=dc s;have I:ai [w] c (c.set w (.lst (l.map .str++[.str e]))):=ai.set (by simp)
 have J:(c.set w (.lst (l.map .str++[.str e])))[w]?=some (.lst ((l++[e]).map .str)):=by rw[a_ s];simp
 generalize c.set w (.lst (l.map .str++[.str e]))=i at *;have R2:Rw i b P ε:=T.xq I (by simpa using ZT o) (λd u h=>n (by rw[←W'.mp h];exact u))
 have x:bx (af 1) [some j,some (.ref b),some (.ref w),some (.str e)] i=.ok (.seq (.ref b)) i:=by
  rw[dN];exact bj (by rw[aJ,aD R2.ce])
 have L:=b_ J
 refine bS (oC (p:=stC) (Z:=aj .non) (cap:=[3]) (f:=dG e) (P:=λd=>d≠w) x R2 F (λd V k K u _ h=>by
  obtain⟨X,A,m,Y,B,h5⟩:=Js (e:=e) h;refine⟨X,A,m,Y,B,?_⟩;rcases h5 with rfl|h5
  .exact λz=>n (z▸u)
  .have:=K.len
   exact É (R' (R' L this) h5))) λg k e3 C h3 B=>?_
 have D:=C.len;refine⟨k.length,g,k++[.lst (g.map .ref)],?_,⟨av,h3.keep (fp:=[]) ai.app (by simp)⟩,dP (C.get _ _ J (by simp)),Q' (R' L D),λh=>B w h rfl,?_⟩
 .have E:stM _ i=.ok (.ref k.length) (k++[.lst (g.map .ref)]):=e3
  have r1:(aH 3 (mN (a6 y) (ae (af 1) ak))) [some j,some (.ref b),some (.ref w),C1] a=.nx [some j,some (.ref b),some (.ref w),some (.str e)] c:=by simp[G,IF]
  have r2:(dk (m2 (aA .Is) (af 3) (aj .non)) (aq S ao) ao) [some j,some (.ref b),some (.ref w),some (.str e)] c=.nx [some j,some (.ref b),some (.ref w),some (.str e)] c:=by simp
  have r3:(cw (dU mz cm (af 2) (ae (af 3) ak))) [some j,some (.ref b),some (.ref w),some (.str e)] c=.nx [some j,some (.ref b),some (.ref w),some (.str e)] i:=by
   rw[dJ,jf (j:=.ref w) (H:=c) (by simp) U]
   simp[t]
  unfold bM;rw[au,r1,aU,au,r2,aU,au,r3,aU,au,dn,E];rfl
 .exact((gw.up r).trans I).trans (gw.up (C.trans ai.app))
theorem BV(t:FnAt y)(M:Mg ε l):
  ∀(Ω:aG) (a:List Str) (q k:Nat) (d:List Nat) (b:Option D) (m:Nat),Rw Ω k d ε->Ω[q]?=some (.lst (a.map .str))->q≠k->q∉d->ε.length<=1000->a.length+l.length<=900->l.length<m ->
   ∃f c az,iW tM (bM S y) m [some j,some (.ref k),some (.ref q),b] Ω=.nx [some j,f,some (.ref q),c] az/\az[q]?=some (.lst ((a++l).map .str))/\ai [q] Ω az:=by
 induction M with
 |@done ε h=>
  intro Ω a q k d b m R r _ _ _ _ g;obtain⟨m,rfl⟩:∃k,m=k+1:=⟨m - 1,by grind⟩
  refine⟨some (.ref k),b,Ω,?_,by simp_all,ai.refl⟩
  have e:=xu R;rw[any_false h]at e;have i:tM [some j,some (.ref k),some (.ref q),b] Ω=.ok (.bl false) Ω:=by simp[tM,e]
  simp only[iW,i];rfl
 |@step ε n l h u _ w=>
  intro Ω a q k d b m R r o p x s g;obtain⟨m,rfl⟩:∃k,m=k+1:=⟨m - 1,by omega⟩
  rw[ï]at s g;refine k_ (Ny (S:=S) t (j:=j) (C1:=b) R x u r o p (B' (ģ _ _) s)) λz A B K C E F G H=>?_
  refine cB (w _ _ q z _ (some (.str n)) m C E F G (by simp_all) (by simp;omega) (aaO g)) λf c I L N J=>?_
  refine⟨f,c,_,?_,by simp_all,H.trans J⟩
  have e:=xu R;rw[any_true h]at e;have i:tM [some j,some (.ref k),some (.ref q),b] Ω=.ok (.bl true) Ω:=by simp[tM,e]
  simp only[iW,i]
  simp_all
def FP(d:aV):Prop:=∀(b:aG) (k:Nat) (e:List Nat) (c:List (List Str)) (o:List Str),Rw b k e c->Mg c o->c.length<=1000->o.length<=900->∃q a,d [.ref k] b=.ok (.ref q) a/\a[q]?=some (.lst (o.map .str))/\b.length<=q/\ai [] b a
theorem Nz(g:FnAt y):FP (a8 4 1 (FO S y)):=by
 intro i k x z o R M e j;rw[bu (by rfl)]
 have l:br 4 [D.ref k]=[some _,none,none,none]:=rfl;rw[l];refine k_ (FN (u:=[some _,none,none,none]) (w:=0) rfl R e) λm b a A c d B C E=>?_
 have n:(aH 1 (BU 0)) [some (.ref k),none,none,none] i=.nx [some (.ref k),some (.ref b),none,none] a:=by simp_all
 have f:ai [] _ (a++[Cell.lst []]):=ai.app;have p:(aH 2 (mN bt ak)) [some (.ref k),some (.ref b),none,none] a=.nx [some (.ref k),some (.ref b),some (.ref a.length),none] (a++[Cell.lst []]):=by rfl
 have F:=d.al.lt;obtain⟨G,H,q,r,s,t⟩:=BV g M _ [] _ b _ _ fuel (d.keep f) av (É (b_ d.ce)) (λh=>by grind) e (by simp_all) (by unfold fuel;exact zr j)
 refine⟨_,_,?_,s,c.len,ai.new (c.trans f) t (by simpa using c.len)⟩
 unfold FO;rw[au,n,aU,au,p,aU,au];unfold pf;rw[r];rfl
end Mir
namespace Mir
open PySem
open PySem.Spec PyProof.Rows L2
structure mj(K:A')(x:Str)(st:D')(f:b')(fd:N'):Prop where
 ns:Î K ZY x=some (some (.ref f))
 fn:sR K x x st f fd
variable{A:A'}{A4 G5:Option b'}{C5:Array (Option f')}{C6 D5 N N2 Y5 i6:f'}{e:Str}{h:b'}{ν:D'}
theorem t9(a:Î A ZY e=some (some (.ref h)))(l:A.lookup h=some ⟨N,A4,.func (Á e e (bB ν) (aK ν) (ag ν) .none N2 D5 Y5 G5 i6 C6),C5⟩)(c:ö A i6 e=true)(k:Z_ A (.ref h)=true):mj A e ν h (Á e e (bB ν) (aK ν) (ag ν) .none N2 D5 Y5 G5 i6 C6):=⟨a,qL l c k⟩
variable [hH]
structure yT(K:A')(x qual:Str)(st:D')(dV:f')(f:b')(fd:N'):Prop where
 ex:∃(oc:f') (od:Option b') (kV doc pm:f') (an:Option b') (cdv ct:f') (osl:Array (Option f')),
  fd=Á x qual (bB st) (aK st) (ag st) dV kV doc pm an cdv ct/\K.lookup f=some ⟨oc,od,.func fd,osl⟩/\ö K cdv qual=true
 kp:Z_ K (.ref f)=true
variable{B:X'}{G:O'}{M:Str}{S:SM}{W7 l ω:List Str}{Y:Str->Option f'}{b:Nat}{z:y'}{θ:N'}{ψ:aM}
theorem rM(W:aO B G A Y z ψ b)(F:yT A e M ν N h θ)(L:c_ l ω (ag ν)=true)(O:wO ψ W7 ν l=some S):
    bq B G A Y z eA (b+1) h θ ω (bH (aS Y) (a8 l.length ω.length S)):=by
  refine xe F.ex λoc p=>xe p λod t=>xe t λkV u=>xe u λP w=>xe w λpm x=>bp x λan R ct T y U D=>?_;subst y
  have I:=ee L;refine zI U D I (λV H Q E a=>?_) λi outer s H V Q E X a=>?_
  · refine bp a λn Z o ds c r g=>?_
    rw[r.length];unfold a8 at g;split at g
    · omega
    · exact g.elim
  · refine bp a λn Z o ds c r g=>?_
    have k:fm (cG eA B G A Y _ l _ _ h _ i outer s H E).kY _ ψ b _ l:=
      { scope:=rfl,names:=rfl,calm:=rfl,room:=X,eU:=W.eU,own:=acC,Qn:=λ_ _ _=>.inl rfl,sh:=I.nd,kind:=I.kind,kY:=λ_ _ _ a=>a,fld:=W.fld,cst:=W.cst
        mF:=λe F a=>⟨W.mF e F a⟩,fn:=λe F a=>⟨W.fn e F a⟩,met:=λm C F a=>⟨W.met m C F a⟩,cls:=λC F a=>bV (W.cls C F a) λj h1 h2=>⟨j,h1,⟨h2⟩⟩,clo:=W.clo }
    refine⟨Lp _ jY n Z H S _ o,(i_ (wN k 30 60) O n Z H _ o).kY,n,Z,ie c r,?_⟩;unfold a8 at g;split at g
    · cases q:S _ o with
      |rt d f=>rwa[q]at g
      |nx J f=>rw[q]at g;exact λσ H' a0 Z' K=>g _ H' _ Z' K.gr K.st (aP rfl)
      |bk J f=>rw[q]at g;exact g.elim
      |ct J f=>rw[q]at g;exact g.elim
      |exc e f=>rwa[q]at g
      |bad=>rwa[q]at g
    · exact g.elim
abbrev oR(k:Nat):Option D:=some (.ref k)
abbrev oI(i:Int):Option D:=some (.int i)
abbrev oS(x:Str):Option D:=some (.str x)
def cP(Ω:aG)(e:Nat)(kvs:List (Key×D)):Prop:=Ω[e]?=some (.dK kvs)\/Ω[e]?=some (.dF kvs)
abbrev gf:=List (Str×List Str)
noncomputable def nms(E:gf):List Str:=E.map (·.1)
noncomputable def de(E:gf)(n:Str):List Str:=(E.lookup n).getD []
def aX(P:Nat->Prop)(Ω:aG)(kvs:List (Key×D))(E:gf):Prop:=aE (λa p=>a.1=.inr p.1/\∃j,a.2=.ref j/\P j/\Ω[j]?=some (.lst (p.2.map .str))) kvs E
variable{a:aG}{ς:List (Key×D)}
theorem cP.keep{az:aG}{fp:List Nat}(h:cP a b ς)(K:ai fp a az)(c:b∉fp):cP az b ς:=h.imp (λz=>K.get _ _ z c) λz=>K.get _ _ z c
theorem cP.lt(h:cP a b ς):b<a.length:=h.elim b_ b_
theorem cP.nl(h:cP a b ς):∀c,a[b]?≠some (.lst c):=λc z=>by rcases h with h|h<;>rw[h]at z<;>cases z
theorem cP.ni(h:cP a b ς):∀C c,a[b]?≠some (.ins C c):=λC c z=>by rcases h with h|h<;>rw[h]at z<;>cases z
variable{w:Nat}
theorem Hr(h:cP a b ς):fA a (w+1) (.ref b)=none:=by rcases h with h|h<;>simp only[fA,h]
theorem t_(h:cP a b ς):eo a (.ref b)=none:=by rcases h with h|h<;>simp only[eo,h]
theorem BW(h:cP a b ς):yw a (.ref b) (.str e)=some (cI ς (.inr e)):=by rcases h with h|h<;>simp only[yw,h,rf,ţ]
theorem FQ(h:cP a b ς):aA .In (.str e) (.ref b) a=.ok (.bl (cI ς (.inr e)).isSome) a:=by
 rw[rJ,ik,Hr h];simp only[pb,BW h];rfl
theorem NA(h:cP a b ς):aA .NotIn (.str e) (.ref b) a=.ok (.bl (!(cI ς (.inr e)).isSome)) a:=by
 rw[oy,ik,Hr h];simp only[pb,BW h];rfl
variable{j:D}
theorem jg(h:cP a b ς)(c:cI ς (.inr e)=some j):aQ (.ref b) (.str e) a=.ok j a:=by
 unfold aQ;rw[rG,wY,aJ,t_ h];rw[rG];simp only[IS,BW h,c];rfl
theorem BX(h:cP a b ς):bb .len [.ref b] a=.ok (.int ς.length) a:=by
 show jK _ _=_
 have c:yz [.ref b] a=.bad:=by simp only[yz,aJ,t_ h]
 have d:Bg [.ref b] a=.ok (.int ς.length) a:=by rcases h with h|h<;>simp only[Bg,h]
 simp_all
theorem Hs(h:cP a b ς):tD a (.ref b)=some ς:=by rcases h with h|h<;>simp only[tD,h]
theorem BY(h:cP a b ς):bb .list [.ref b] a=.ok (.ref a.length) (a++[.lst (ς.map λc=>ly c.1)]):=by
 show jK _ _=_
 have d:n_ [.ref b] a=.bad:=by simp only[n_,aJ,t_ h]
 have e:pU [.ref b] a=.ok (.ref a.length) (a++[.lst (ς.map λc=>ly c.1)]):=by simp only[pU,Hs h];rfl
 simp_all
theorem BZ(h:cP a b ς):gO [.ref b] a=.ok (.ref a.length) (a++[.dK ς]):=by
 show jK _ _=_
 have c:jN [.ref b] a=.bad:=by simp only[jN,t_ h]
 have d:pV [.ref b] a=.ok (.ref a.length) (a++[.dK ς]):=by simp only[pV,Hs h];rfl
 simp_all
variable{C2:Cell}
theorem set_same(h:a[b]?=some C2):a.set b C2=a:=by
 apply aaJ;intro i;rw[aao];split
 .rename_i z;subst z;rw[if_pos (b_ h),h]
 .rfl
theorem ua(h:cP a b ς):srcOf a (.ref b)=.ok (.keys b) (a.set b (.dF ς)):=by
 unfold srcOf;rw[aJ,t_ h];rcases h with h|h
 .simp_all
 .simp only[h,set_same h]
theorem Ht(h:cP a b ς):wD a (.ref b)=.ok (.items b) (a.set b (.dF ς)):=by
 unfold wD;rcases h with h|h
 .simp_all
 .simp only[h,set_same h]
theorem qb(h:cP a b ς):(a.set b (.dF ς))[b]?=some (.dF ς):=by rcases h with h|h<;>exact a_ h
theorem oD(h:a[b]?=some (.dF ς)):et (.keys b) a=some (ς.map λc=>ly c.1):=by simp only[et,h]
theorem aX.imp{Ω:aG}{kvs:List (Key×D)}{E:gf}{P P':Nat->Prop}(h:aX P Ω kvs E)(a:∀j,P j->P' j):aX P' Ω kvs E:=aE.imp (by simp_all) h
variable{u0:Nat->Prop}{ξ:gf}
theorem aX.keep{az:aG}{fp:List Nat}(h:aX u0 a ς ξ)(K:ai fp a az)(f:∀j∈fp,¬ u0 j):aX u0 az ς ξ:=aE.imp (by rintro _ _ ⟨e,j,b,c,d⟩;exact⟨e,j,b,c,K.get _ _ d λz=>f j z c⟩) h
variable{H:aG}{P:List Nat}
theorem aX.cD(h:aX u0 a ς ξ)(K:ai P a H)(f:∀j∈P,∀g,a[j]?≠some (.lst g)):aX u0 H ς ξ:=aE.imp (by rintro _ _ ⟨e,j,b,c,d⟩;exact⟨e,j,b,c,K.get _ _ d λz=>f j z _ d⟩) h
theorem aX.lt(h:aX u0 a ς ξ):aX (λj=>u0 j/\j<a.length) a ς ξ:=aE.imp (λ_ _  g =>xa g λe f=>bF f λj b c d=>⟨e,j,b,⟨c,b_ d⟩,d⟩) h
theorem aX.len(h:aX u0 a ς ξ):ξ.length=ς.length:=aE.length h
theorem aX.keys(h:aX u0 a ς ξ):(ς.map λc=>ly c.1)=(nms ξ).map .str:=by
 induction h with
 |nil=>rfl
 |cons r _ b=>
  simp at b ⊢;rw[b,r.1];rfl
theorem aX.look(h:aX u0 a ς ξ)(n:Str):(∀r,ξ.lookup n=some r->∃j,cI ς (.inr n)=oR j/\u0 j/\a[j]?=some (.lst (r.map .str)))/\(ξ.lookup n=none->cI ς (.inr n)=none):=by
 induction h with
 |nil=>exact⟨by simp,λ_=>rfl⟩
 |@cons k p ς ξ b _ c=>
  obtain⟨m,s⟩:=p;obtain⟨d,h⟩:=b;rw[dY,d,Ă];cases e:n==m with
  |true=>
   cases eq_of_beq e;exact bF h λj f g i=>⟨λr z=>by cases z;exact⟨j,by rw[if_pos rfl,f],g,i⟩,λz=>nomatch z⟩
  |false=>
   rw[if_neg λz=>ne_of_beq_false e (Sum.inr.inj z).symm]
   exact c
theorem rN(h:ξ.lookup e=some l):(e,l)∈ξ:=by
 induction ξ with
 |nil=>simp at h
 |cons p ξ a=>
  grind
theorem lookup_some(h:e∈nms ξ):∃r,ξ.lookup e=some r:=by
 unfold nms at h
 induction ξ with
 |nil=>simp at h
 |cons p ξ a=>
  rw[Ă];split
  .simp
  grind
theorem kd(h:e∈nms ξ):ξ.lookup e=some (de ξ e):=by
 obtain⟨r,a⟩:=lookup_some h;unfold de;rw[a];rfl
theorem lookup_none(h:e∉nms ξ):ξ.lookup e=none:=by
 cases q:ξ.lookup e with
 |none=>rfl
 |some r=>exact absurd (ab' (rN q)) h
theorem aX.at{n:Str}(h:aX u0 a ς ξ)(b:n∈nms ξ):∃j,cI ς (.inr n)=oR j/\u0 j/\a[j]?=some (.lst ((de ξ n).map .str)):=(h.look n).1 _ (kd b)
theorem aX.is(h:aX u0 a ς ξ):(cI ς (.inr e)).isSome=decide (e∈nms ξ):=by
 by_cases q:e∈nms ξ
 .obtain⟨j,b,_⟩:=h.at q
  simp_all
 .rw[(h.look e).2 (lookup_none q),decide_eq_false q];rfl
variable{Z7:Key}
theorem B_(h:cI ς Z7=none):(ς.any λa=>decide (a.1=Z7))=false:=by rw[oB,h];rfl
theorem aX.put{j:Nat}{n:Str}{r:List Str}(h:aX u0 a ς ξ)(b:n∉nms ξ)(c:u0 j)(d:a[j]?=some (.lst (r.map .str))):aX u0 a (eO ς (.inr n) (.ref j)) (ξ++[(n,r)]):=by
 have:=B_ ((h.look n).2 (lookup_none b));unfold eO;rw[if_neg (by grind)]
 exact aE.append h (.cons ⟨rfl,j,rfl,c,d⟩ .nil)
def vm(E:gf)(a:List Str):List Str:=(nms E).filter λn=>!decide (n∈a)&&(de E n).all λx=>decide (x∈a)
def XC:EM:=(cb (m2 (aA .In) (af 0) (af 1)) true (aj .non) (bx (m2 aQ (af 1) (af 0))) 0 [2])
def QY:EM:=(kK (m2 (aA .NotIn) (af 0) (af 2)) (mN (bb .all) (ae XC ak)))
def QZ:SM:=(aq (bf (cb (af 0) false QY (bx (af 0)) 0 [0,1])) ao)
variable{N9:List Bool}
theorem nh(h:a[b]?=some (.lst (N9.map .bl))):bb .all [.ref b] a=.ok (.bl (N9.all id)) a:=by
 show oh _ _ a=_
 unfold oh;rw[FE];have d:bI (fA a 7) _=some (N9.map .bl):=lG (λ_=>Ji) N9
 have:bI (fA a 8) [.ref b]=some [.lst (N9.map .bl)]:=by simp[mW h d]
 rw[this,FD,BN]
 have e:gF (N9.map D.bl)=some N9:=by
  clear h d this
  induction N9 with
  |nil=>rfl
  |cons c N9 f=>simp[gF,f]
 rw[e];rfl
variable{M0:IM}{p:EM}{u:bh}
theorem Cb(c:a[b]?=some (.lst (l.map .str)))(f:M0 u a=.ok (.seq (.ref b)) a){oE:Str->Bool}(i:∀x∈l,p ([oS x]++fk P u) a=.ok (.bl (oE x)) a)(j:l.length<=90000):
  ∃az,mN (bb .all) (ae (cb p true (aj .non) M0 0 P) ak) u a=.ok (.bl (l.all oE)) az/\ai [] a az:=by
 have e:=cO (p:=p) (Z:=aj .non) (C:=true) (P:=P) (g:=λd=>match d with|.str x=>.bl (oE x)|d=>d) f (by rw[cz,aJ,aD c]) (λd _=>rfl) (λd k _=>by
  grind) (by simp_all)
 have h:((l.map D.str).filter λ_=>true).map (λd=>match d with|.str x=>D.bl (oE x)|d=>d)=(l.map oE).map .bl:=by
  rw[ú.mpr (λ_ _=>rfl),Â,Â]
  rfl
 rw[h]at e;refine⟨a++[.lst ((l.map oE).map .bl)],?_,ai.app⟩;rw[je,cy,e,aI,cp,aI,aI,nh av]
 simp_all
def FR(f:aV):Prop:=∀(c:aG) (e q:Nat) (b:List (Key×D)) (E:gf) (d:List Str) (P:Nat->Prop),cP c e b->aX P c b E->c[q]?=some (.lst (d.map .str))->(∀n∈nms E,(de E n).length<=1000)->E.length<=1000 ->
 ∃z a,f [.ref e,.ref q] c=.ok (.ref z) a/\a[z]?=some (.lst ((vm E d).map .str))/\ai [e] c a/\a[e]?=some (.dF b)/\c.length<=z
theorem NB:FR (a8 2 2 QZ):=by
 intro c e q f E b P l G H L M;rw[bu (by rfl)]
 have N:br 2 [D.ref e,.ref q]=[oR e,oR q]:=rfl;rw[N];have o:ai [e] c (c.set e (.dF f)):=ai.set (by simp)
 have r:=qb l;have s:=G.cD o (λj m=>by rw[W'.mp m];exact l.nl)
 have Y:(c.set e (.dF f)).length=c.length:=by simp
 have t:bx (af 0) [oR e,oR q] c=.ok (.keys e) (c.set e _):=ua l;generalize c.set e _=w at *
 refine bV (w_ (p:=af 0) (C:=false) (P:=[0,1]) (oz:=λd=>match d with|.str n=>!decide (n∈b)&&(de E n).all _|_=>false) (g:=λd=>d) (λ_ a=>ai [] w a) t
  (λi a K=>by rw[oD (K.get _ _ r (by simp)),G.keys])
  (λi d a y K=>by
   obtain⟨n,O,rfl⟩:=fU y;have Q:=ZV O;have I:=K.get _ _ (o.get _ _ H (by simpa using (λz=>l.nl _ (z▸H)))) (by simp)
   have R:=s.keep K (by simp)
   refine bF (R.at Q) λj S _ m=>?_
   have h:=jy (e:=n) I
   show ∃A,df (QY [oS n,oR e,oR q] a)=.ok (!decide _&&(de E n).all λx=>decide (x∈b)) A/\_
   by_cases T:n∈b
   .refine⟨a,?_,K,λ_=>rfl⟩
    rw[decide_eq_true T]at h ⊢;simp[QY,h,-oy]
   .refine bV (Cb (u:=[oS n,oR e,oR q]) (p:=m2 (aA .In) (af 0) (af 1)) (M0:=bx (m2 aQ (af 1) (af 0))) (P:=[2]) m (by
     show(aQ (.ref e) (.str n) a).bind _=_
     rw[(jg (.inr (K.get _ _ r (by simp))) S),aI]
     exact bj (by rw[aJ,aD m])) (λx _=>il I) (by grind)) λB J U=>?_
    refine⟨B,?_,K.trans U,λ_=>rfl⟩
    have J:mN _ (ae XC ak) _ a=_:=J;unfold QY
    simp_all) (by simp[nms];exact eV M) ai.refl) λk V F=>?_
 refine⟨k.length,k++[.lst _],?_,av,?_,dP (F.get _ _ r (by simp)),by have:=F.len;simp_all⟩
 .unfold QZ
  rw[au,kR,V]
  have X:(((nms E).map D.str).filter (λd=>match d with|.str n=>!decide (n∈b)&&(de E n).all λx=>decide (x∈b)|_=>false)).map (λd=>d)=(vm E b).map .str:=by
   rw[Ł,aaS];rfl
  rw[X];rfl
 .exact(o.trans (gw.up F)).trans ai.app
theorem vo{xs:List Str}:∀{o:List Str},o.Nodup->(∀x∈o,x∈xs)->o.length<=xs.length:=by
 intro o b d
 induction o generalizing xs with
 |nil=>simp
 |cons a o c=>
  have:=c (xs:=xs.erase a) (Ĳ.mp b).2 (λx e=>by
   grind)
  grind
structure Ef(E:gf)(ord:List Str):Prop where
 nd:ord.Nodup
 sub:∀n∈ord,n∈nms E
 pre:∀(i:Nat) (n:Str),ord[i]?=some n->∀x∈de E n,x∈ord.take i
structure Acy(E:gf):Prop where
 nd:(nms E).Nodup
 el:∀n∈nms E,∀x∈de E n,x∈nms E
 rk:∃rk:Str->Nat,∀n∈nms E,∀x∈de E n,rk x<rk n
theorem nj:e∈vm ξ l↔e∈nms ξ/\e∉l/\∀x∈de ξ e,x∈l:=by
 unfold vm
 simp_all
theorem Ef.step{E:gf}{c:List Str}(h:Ef E c)(g:(nms E).Nodup):Ef E (c++vm E c) where
 nd:=Ĕ.mpr ⟨h.nd,g.filter _,λa j b k z=>(nj.mp k).2.1 (z▸j)⟩
 sub:=λn l=>(Ô.mp l).elim (h.sub n) λz=>(nj.mp z).1
 pre:=λi n d x f=>by
  by_cases e:i<c.length
  .rw[Û e]at d
   rw[acD (é e)];exact h.pre i n d x f
  .rw[Ĉ (Ľ e)]at d
   have:=(nj.mp (ZV d)).2.2 x f;rw[List.take_append,Š (Ľ e)]
   simp_all
theorem Jt(A:Acy ξ)(hz:vm ξ l=[]):∀n∈nms ξ,n∈l:=by
 obtain⟨c,f⟩:=A.rk
 have b:∀(k:Nat) n,c n<k->n∈nms ξ->n∈l:=by
  intro k
  induction k with
  |zero=>simp
  |succ k d=>
   intro n g a
   by_cases q:n∈l
   .exact q
   .have:=nj.mpr ⟨a,q,λx e=>d x (by grind) (A.el n a x e)⟩
    simp_all
 exact λn a=>b _ n (Ť _) a
theorem vp(h:a[b]?=some (.lst (l.map .str)))(c:a[w]?=some (.lst (ω.map .str)))(d:l.length+ω.length<=10000):jr (.ref b) [.ref w] a=.ok .non (a.set b (.lst ((l++ω).map .str))):=by
 simp only[jr,jx h,jx c];rw[if_pos (a7 (by simp;exact eV d)),Ü]
def Q_(a:aV):SM:=(aq (cw (dU mz jr (af 1) (ae (af 2) ak)))
 (aq (aH 2 (mN (a6 a) (ae (af 0) (ae (af 1) ak))))
 ao))
def Ra(a:aV):SM:=
 (aq (aH 1 (mN bt ak))
 (aq (aH 2 (mN (a6 a) (ae (af 0) (ae (af 1) ak))))
 (aq (pf (af 2)
 (Q_ a))
 (aq (bf (af 1))
 ao))))
structure Gd(E:gf):Prop extends Acy E where
 few:E.length<=12
 short:∀n∈nms E,(de E n).length<=5
 YH:∀n∈nms E,(de E n).Nodup
variable{y:aV}
theorem Cc(T:FR y)(G:Gd ξ):
  ∀(m:Nat) (Ω:aG) (a:List Str) (q z:Nat),Ω[b]?=some (.dF ς)->aX u0 Ω ς ξ->Ef ξ a->Ω[q]?=some (.lst (a.map .str))->Ω[z]?=some (.lst ((vm ξ a).map .str))->q≠z->¬ u0 q->ξ.length - a.length<m ->
   ∃d w az,iW (af 2) (Q_ y) m [oR b,oR q,oR z] Ω=.nx [oR b,oR q,w] az/\az[q]?=some (.lst (d.map .str))/\Ef ξ d/\(∀n∈nms ξ,n∈d)/\ai [q] Ω az:=by
 intro m
 induction m with
 |zero=>intro Ω a q z _ _ _ _ _ _ _ h;omega
 |succ m U=>
  intro Ω a q z O V F l P X Q hm;have x:=kT P
  by_cases A:vm ξ a=[]
  .refine⟨a,oR z,Ω,?_,l,F,Jt G.toAcy A,ai.refl⟩
   have B:af 2 [oR b,oR q,oR z] Ω=.ok (.ref z) Ω:=rfl;rw[A]at x;simp only[iW,B,ig,x];rfl
  .have B:af 2 [oR b,oR q,oR z] Ω=.ok (.ref z) Ω:=rfl
   have C:=F.step G.nd
   have e:(a++vm ξ a).length<=ξ.length:=by
    have:=vo C.nd C.sub;simpa[nms]using this
   have o:=G.few;have hx:=vp l P (by rw[ľ]at e;exact eV (B' e o))
   have Y:=dc l;have D:ai [q] Ω (Ω.set q (.lst ((a++vm ξ a).map .str))):=ai.set (by simp)
   have f:=a_ (k9:=.lst ((a++vm ξ a).map .str)) l;have p:q≠b:=λz=>by rw[z,O]at l;cases l
   have g:=D.get _ _ O (by simpa using ZT p)
   have r:=V.keep D (λj E=>by rw[W'.mp E];exact Q)
   generalize Ω.set q (.lst ((a++vm ξ a).map .str))=s at *;refine gi (T s b q ς ξ (a++vm ξ a) u0 (.inr g) r f (λn R=>by have:=G.short n R;exact eV this) (eV o)) λS i e2 I u t Z=>?_
   have J:ai [q] s i:=⟨u.len,λk c K R=>by
    by_cases h:k=b
    .subst h;rw[g]at K;cases K;exact t
    .exact u.get k c K (by simpa using h)⟩
   have L:=r.cD u (λj E ds=>by rw[W'.mp E,g];simp)
   have M:=u.get _ _ f (by simpa using p)
   have lq:=b_ f
   refine nq (U i (a++vm ξ a) q S t L C M I (Q' (R' lq Z)) Q (by
    have:0<(vm ξ a).length:=acE.mpr A;rw[ľ]at e ⊢;omega)) λd w N e3 h3 F3 h4 K3=>?_
   refine⟨d,w,N,?_,h3,F3,h4,(D.trans J).trans K3⟩
   have r1:Q_ y [oR b,oR q,oR z] Ω=.nx [oR b,oR q,oR S] i:=by
    unfold Q_;rw[au,dJ,jf (j:=.ref q) (H:=Ω) (by rfl) Y]
    simp_all
   simp only[iW,B,ig,x,jw]
   simp_all
def FT(f:aV):Prop:=∀(d:aG) (e:Nat) (b:List (Key×D)) (E:gf) (P:Nat->Prop),cP d e b->aX P d b E->Gd E ->
 ∃c z a,f [.ref e] d=.ok (.ref z) a/\a[z]?=some (.lst (c.map .str))/\Ef E c/\(∀n∈nms E,n∈c)/\ai [e] d a/\a[e]?=some (.dF b)/\d.length<=z
theorem NC(t:FR y):FT (a8 3 1 (Ra y)):=by
 intro a e C E P u H G;rw[bu (by rfl)]
 have I:br 3 [D.ref e]=[oR e,none,none]:=rfl;rw[I];have l:(a++[Cell.lst []])[a.length]?=some _:=av;have m:ai [] a (a++[Cell.lst []]):=ai.app;have J:(aH 1 (mN bt ak)) [oR e,none,none] a=.nx [oR e,oR a.length,none] (a++[Cell.lst []]):=by rfl
 have b:=u.keep m (by simp)
 have d:=(H.lt.keep m (by simp))
 have w:=u.lt;have U:(a++[Cell.lst []]).length=a.length+1:=by simp
 generalize a++[Cell.lst []]=o at *;have f:=G.few;refine gi (t _ e _ _ E [] _ b d l (λn p=>by have:=G.short n p;exact eV this) (eV f)) λz q K r s g L=>?_
 refine nq (Cc t G fuel _ [] _ z g (d.cD s (λj M N=>by rw[W'.mp M];exact b.nl N)) ⟨by simp,by simp,λi n h=>by simp at h⟩ (s.get _ _ l (by simp;exact É w)) r (Q' (R' (zi l) L)) (λh=>Ã _ h.2) (by unfold fuel;exact zr (B' (ŀ _ _) f))) λO V Q R x F S A=>?_
 refine⟨_,_,_,?_,x,F,S,?_,A.get _ _ g (by simp;exact Q' w),M' _⟩
 .unfold Ra
  rw[au,J,aU,au];have T:(aH 2 (mN (a6 y) (ae (af 0) (ae (af 1) ak)))) [oR e,oR a.length,none] o=.nx [oR e,oR a.length,oR z] q:=by simp[K]
  rw[T,aU,au];unfold pf;rw[R];rfl
 .refine⟨é (zi x),λk c B p=>A.get k c (s.get k c (m.get k c B (by simp)) p) ?_⟩
  have:=b_ B;simp;exact Q' this
def XD:EM:=(cb (af 0) false (m2 (aA .NotIn) (af 0) (af 1)) (bx (af 0)) 0 [1])
def TV(a:aV)(rest:SM):SM:=
 (aq (aH 1 (mN (a6 a) (ae (af 0) ak)))
 (aq (aH 3 XD)
 (aq (dk (jF (af 3))
 (aq (bf (aj .non))
 ao)
 ao)
 rest)))
def Ju(d:aV):Prop:=∀(c:aG) (e:Nat) (a:List (Key×D)) (E:gf) (P:Nat->Prop),cP c e a->aX P c a E->Gd E ->
 ∃b,d [.ref e] c=.ok .non b/\ai [e] c b/\b[e]?=some (.dF a)
theorem ND(o:FT y):Ju (a8 5 1 (TV y S)):=by
 intro q e r E P i m G;rw[bu (by rfl)]
 have A:br 5 [D.ref e]=[oR e,none,none,none,none]:=rfl;refine uy (o q e _ E P i m G) λs z b B t F f u c H=>?_
 have j:=G.few
 have k:bx (af 0) [oR e,oR z,none,none,none] b=.ok (.keys e) b:=by
  show srcOf _ _=_
  rw[ua (.inr c),set_same c]
 have w:=cO (p:=af 0) (Z:=m2 (aA .NotIn) (af 0) (af 1)) (C:=false) (P:=[1]) (mh:=λ_=>false) (g:=λd=>d) k (by rw[oD c,m.keys]) (λd i=>by
  refine bV (è.mp i) λn x l=>?_;subst l
  show df (aA .NotIn _ _ _)=_
  rw[jy t,decide_eq_true (f n x)];rfl) (λd _ h=>by cases h) (by simp[nms];exact eV j)
 have I:XD [oR e,oR z,none,none,none] b=.ok (.ref b.length) (b++[.lst []]):=by
  have:(((nms E).map D.str).filter (λ_=>false)).map (λd=>d)=[]:=by simp
  rwa[this]at w
 refine⟨b++[.lst []],?_,u.trans ai.app,dP c⟩;have J:=kT (a:=b++[Cell.lst []]) av;unfold TV
 simp_all
noncomputable def eB(a:List Str)(L:Str->List Str):gf:=a.map λn=>(n,L n)
def Rb(E:gf)(L:Str->List Str):Prop:=∀n∈nms E,∃o,Mg ((de E n).map L++[de E n]) o/\L n=n::o
variable{i0:Str->List Str}
theorem gx:nms (eB l i0)=l:=by
 unfold nms eB;rw[Â];exact(Ċ λx _=>rfl).trans (List.map_id _)
theorem kU(h:e∈l):de (eB l i0) e=i0 e:=by
 unfold de eB
 induction l with
 |nil=>simp at h
 |cons a l b=>
  grind
variable{N3 o:List D}
theorem jz(h:a[b]?=some (.lst o))(c:a[w]?=some (.lst N3))(d:o.length+N3.length<=10000):aY .Add (.ref b) (.ref w) a=.ok (.ref a.length) (a++[.lst (o++N3)]):=by
 rw[tX,FH,aD h,aD c,FG,if_pos (a7 (eV d))];rfl
def XE:EM:=(cb (mN (bb .list) (ae (m2 aQ (af 1) (af 0)) ak)) true (aj .non) (bx (af 1)) 0 [0])
def TX:EM:=(mN bt (ae (mN (bb .list) (ae (af 1) ak)) ak))
def Rc:SM:=(aq (bf (m2 (aY .Add) XE TX)) ao)
def FU(h:aV):Prop:=∀(c:aG) (l a:Nat) (e:List (Key×D)) (f:gf) (P:Nat->Prop) (b:List Str),cP c l e->aX P c e f->c[a]?=some (.lst (b.map .str))->(∀x∈b,x∈nms f)->b.length<=100 ->
 ∃g k d,h [.ref l,.ref a] c=.ok (.ref k) d/\Rw d k g (b.map (de f)++[b])/\ai [] c d/\c.length<=k/\(∀j∈g,c.length<=j)/\k∉g
theorem NF:FU (a8 2 2 Rc):=by
 intro n l a V s P c X Y t hs N;rw[bu (by rfl)]
 have e0:br 2 [D.ref l,.ref a]=[oR l,oR a]:=rfl;rw[e0]
 have w:bx (af 1) [oR l,oR a] n=.ok (.seq (.ref a)) n:=by
  rw[dN];exact bj (by rw[aJ,aD t])
 refine cF (m_ (u:=[oR l,oR a]) (p:=mN (bb .list) (ae (m2 aQ (af 1) (af 0)) ak)) (Z:=aj .non) (P:=[0]) (o:=c.map .str) (λi k b=>∃g,k=g.map .ref/\lJ b g ((c.take i).map (de s))/\ai [] n b/\∀j∈g,n.length<=j) w ⟨[],rfl,.nil,ai.refl,by simp⟩
  (λi k b h=>by
   obtain⟨_,_,_,K,_⟩:=h;rw[cz,aJ,aD (K.get _ _ t (by simp))])
  (λi d k b z h=>by
   obtain⟨g,rfl,q,K,A⟩:=h;obtain⟨x,O,rfl⟩:=fU z;have B:=X.keep K (by simp)
   obtain⟨j,hv,_,hj⟩:=(Y.keep K (by simp)).at (hs x (ZV O))
   have C:=jg (e:=x) B hv;have m:=dr hj;refine⟨.ref b.length,b++[.lst ((de s x).map .str)],?_,g++[b.length],by simp,?_,K.trans ai.app,?_⟩
   .show((aQ (.ref l) (.str x) b).bind _).bind _=_
    rw[C,aI]
    show bb .list [.ref j] b=_
    exact m
   .rw[Ï,O,Ü]
    exact(q.keep (fp:=[]) ai.app (by simp)).snoc av
   .intro y E
    rcases Ô.mp E with h|h
    .exact A y h
    .rw[W'.mp h];exact K.len) (by simp;exact eV N)) λys f e1 F=>eE F λg G q Q A=>?_;subst G
 rw[ZZ,ð]at q;have H:XE [oR l,oR a] n=.ok (.ref f.length) (f++[.lst (g.map .ref)]):=e1;have g2:(f++[Cell.lst (g.map .ref)])[f.length]?=some (.lst (g.map .ref)):=av;have R:ai [] n (f++[Cell.lst (g.map .ref)]):=Q.trans ai.app;have I:lJ (f++[Cell.lst (g.map .ref)]) g (c.map (de s)):=q.keep (fp:=[]) ai.app (by simp)
 have l2:(f++[Cell.lst (g.map .ref)]).length=f.length+1:=by simp
 have jl:=q.lt;have S:=Q.len;have T:=q.len;generalize f++[Cell.lst (g.map .ref)]=b at *;have m:=dr (R.get _ _ t (by simp))
 have e3:TX [oR l,oR a] b=.ok (.ref (b.length+1)) ((b++[.lst (c.map .str)])++[.lst [.ref b.length]]):=by
  unfold TX
  have:(mN (bb .list) (ae (af 1) ak)) [oR l,oR a] b=.ok (.ref b.length) (b++[.lst (c.map .str)]):=by
   show bb .list [.ref a] b=_
   exact m
  rw[je,cy,this,aI,cp,aI,aI,gv,if_pos (a7 (by simp))]
  simp
 have J:ai [] b ((b++[Cell.lst (c.map .str)])++[Cell.lst [.ref b.length]]):=ai.app.trans ai.app
 have gb:((b++[Cell.lst (c.map .str)])++[Cell.lst [.ref b.length]])[b.length+1]?=some (.lst [.ref b.length]):=by
  simp
 have U:((b++[Cell.lst (c.map .str)])++[Cell.lst [.ref b.length]])[b.length]?=some (.lst (c.map .str)):=dP av;have l3:((b++[Cell.lst (c.map .str)])++[Cell.lst [.ref b.length]]).length=b.length+2:=by simp
 generalize (b++[Cell.lst (c.map .str)])++[Cell.lst [.ref b.length]]=r at *;have L:=J.get _ _ g2 (by simp)
 have M:=I.keep J (by simp)
 have hc:=jz L gb (by simp at T ⊢;exact eV (B' (V' T.symm) N))
 refine⟨g++[b.length],r.length,r++[.lst (g.map .ref++[.ref b.length])],?_,⟨?_,?_⟩,(R.trans J).trans ai.app,é (Ý S (zi L)),?_,?_⟩
 .unfold Rc
  rw[au,kR,kP,H,aI,e3,aI,hc];rfl
 .simp
 .exact(M.snoc U).keep (fp:=[]) ai.app (by simp)
 .intro y E
  rcases Ô.mp E with h|h
  .exact A y h
  .rw[W'.mp h];exact é (Ý S (V' l2.symm))
 .intro h
  rcases Ô.mp h with h|h
  .have:=jl _ h;exact Ã _ (Ā this (zi L))
  .have:=W'.mp h;exact Ã _ (Ý (V' this) (zi U))
theorem FV(h:Z7∉ς.map (·.1)):eO ς Z7 j=ς++[(Z7,j)]:=by
 unfold eO
 simp_all
theorem lL:∀(c b:List (Key×D)),((b++c).map (·.1)).Nodup->c.foldl (λa p=>eO a p.1 p.2) b=b++c
 |[],b,_=>by simp
 |p::c,b,h=>by
  rw[List.foldl_cons,FV (by
   grind),lL c _ (by simp_all)]
  simp
theorem Cd{f:Str->D}(h:∀n∈l,∃j,f n=.ref j/\u0 j/\a[j]?=some (.lst ((i0 n).map .str))):aX u0 a (l.map λn=>(.inr n,f n)) (eB l i0):=by
 induction l with
 |nil=>exact .nil
 |cons b l c=>exact .cons ⟨rfl,h b (by simp)⟩ (c λn d=>h n (by simp[d]))
variable{Y3:Src}
theorem vq{f:Str->D}(h:M0 u a=.ok Y3 a)(i:et Y3 a=some (l.map .str))(o:∀n∈l,p ([oS n]++fk P u) a=.ok (.tup [.str n,f n]) a)(j:l.length<=1000)(r:l.Nodup):
  ∃q az,mN gO (ae (cb p true (aj .non) M0 0 P) ak) u a=.ok (.ref q) az/\az[q]?=some (.dK (l.map λn=>(.inr n,f n)))/\ai [] a az/\a.length<=q:=by
 have e:=cO (p:=p) (Z:=aj .non) (C:=true) (P:=P) (g:=λd=>match d with|.str n=>.tup [.str n,f n]|d=>d) h i (λd _=>rfl) (λd s _=>by
  grind) (by simp;exact eV j)
 have k:((l.map D.str).filter λ_=>true).map (λd=>match d with|.str n=>D.tup [.str n,f n]|d=>d)=l.map λn=>.tup [.str n,f n]:=by
  rw[ú.mpr (λ_ _=>rfl),Â]
  rfl
 rw[k]at e;have m:(a++[Cell.lst (l.map λn=>.tup [.str n,f n])])[a.length]?=some _:=av
 have c:ai [] a (a++[Cell.lst (l.map λn=>.tup [.str n,f n])]):=ai.app
 generalize a++[Cell.lst _]=b at *;refine⟨_,b++[.dK _],?_,av,c.trans ai.app,c.len⟩;rw[je,cy,e,aI,cp,aI]
 show jK _ _=_
 simp only[jN,aD m,(lG (f:=tE) (g:=λn=>D.tup [.str n,f n]) (λn=>rfl) l),(lL (l.map λn=>((.inr n:Key),f n)) [] (by
  grind))]
 rfl
def XF:EM:=(mN (bb .all) (ae (cb (m2 (aA .In) (af 0) (af 1)) true (aj .non) (bx (m2 aQ (af 0) (af 4))) 0 [2]) ak))
def Rg(a b:aV):EM:=(m2 (aY .Add) (mN bt (ae (af 4) ak)) (mN (a6 a) (ae (mN (a6 b) (ae (af 2) (ae (m2 aQ (af 0) (af 4)) ak))) ak)))
def Rh(a b:aV):SM:=(aq (dk XF
 (aq (aq (iY (af 2) (af 4) (Rg a b))
 ao)
 ao)
 ao)
 ao)
def Ri:SM:=(aq (dk (m2 (aA .In) (af 4) (af 3))
 (aq cu
 ao)
 ao)
 ao)
def XG:EM:=(mN gO (ae (cb (mN hZ (ae (af 0) (ae (m2 aQ (af 1) (af 0)) ak))) true (aj .non) (bx (af 0)) 0 [2]) ak))
def Rj(a b c d:aV):SM:=
 (aq (aH 1 (mN (a6 a) (ae (af 0) ak)))
 (aq (dk (m2 (aA .IsNot) (af 1) (aj .non))
 (aq cu
 ao)
 ao)
 (aq (aH 2 c6)
 (aq (aH 3 c6)
 (aq (dy (dH 4) (bx (mN (a6 b) (ae (af 0) ak)))
 (Rh c d))
 (aq (dy (dH 4) (bx (af 0))
 Ri)
 (aq (bf XG)
 ao)))))))
theorem vt(h:a[b]?=some (.dK ς))(c:ς.length<=1000):oq (.ref b) (.str e) j a=some (a.set b (.dK (eO ς (.inr e) j))):=by
 simp only[oq,h,rf];rw[if_pos (a7 (by omega))]
variable{C1 G3 W2:Option D}{o3:aV}
theorem Jv{P':Nat->Prop}(hM:FP y)(hB:FU o3){f:List (Key×D)}(Y:a[b]?=some (.dF ς))(hr:aX u0 a ς ξ)(H:a[w]?=some (.dK f))(h:aX P' a f (eB l i0))(hn:e∈nms ξ)(I:e∉l)(g:∀x∈de ξ e,x∈l)(J:Mg ((de ξ e).map i0++[de ξ e]) ω)(hL:i0 e=e::ω)(A:(de ξ e).length<=100)(Z:l.length<=100)(ho:ω.length<=900)(K:∀j,a.length<=j->P' j):
  ∃m az,Rh y o3 [oR b,C1,oR w,W2,oS e,G3] a=.nx [oR b,C1,oR w,W2,oS e,G3] az/\az[w]?=some (.dK m)/\aX P' az m (eB (l++[e]) i0)/\ai [w] a az:=by
 obtain⟨o,hv,_,s⟩:=hr.at hn;have L:=jg (e:=e) (.inr Y) hv
 obtain⟨d,G,K1⟩:=Cb (u:=[oR b,C1,oR w,W2,oS e,G3]) (p:=m2 (aA .In) (af 0) (af 1)) (M0:=bx (m2 aQ (af 0) (af 4))) (P:=[2]) (oE:=λx=>true) s (by
  rw[dN]
  show(aQ (.ref b) (.str e) a).bind _=_
  rw[L,aI];exact bj (by rw[aJ,aD s])) (λx M=>by
  show aA .In (.str x) (.ref w) a=_
  rw[FQ (.inl H),h.is,gx,decide_eq_true (g x M)]) (by omega)
 have G:XF [oR b,C1,oR w,W2,oS e,G3] a=.ok (.bl true) d:=by
  have:((de ξ e).all λ_=>true)=true:=by simp
  rw[this]at G;exact G
 have g2:(d++[Cell.lst [.str e]])[d.length]?=some (.lst [.str e]):=av;have z:ai [] a (d++[Cell.lst [.str e]]):=K1.trans ai.app
 have c0:(mN bt (ae (af 4) ak)) [oR b,C1,oR w,W2,oS e,G3] d=.ok (.ref d.length) (d++[Cell.lst [.str e]]):=by
  show bt [.str e] d=_
  rw[gv,if_pos (a7 (by simp))]
 generalize d++[Cell.lst [.str e]]=N at *;have O:=z.get _ _ H (by simp)
 have B:=h.keep z (by simp)
 have Q:=z.get _ _ s (by simp)
 have a0:=jg (e:=e) (.inr (z.get _ _ Y (by simp))) hv
 obtain⟨js,k,R,e3,R3,S,h3,_,_⟩:=hB N w o f _ _ _ (.inl O) B Q (by rw[gx];exact g) A
 have C:(de ξ e).map (de (eB l i0))=(de ξ e).map i0:=Ċ λx M=>kU (g x M)
 rw[C]at R3;obtain⟨q,c,e4,T,lq,U⟩:=hM R k js _ ω R3 J (by simp;omega) ho
 have b0:=jz (U.get _ _ (S.get _ _ g2 (by simp)) (by simp)) T (by simp;omega)
 have V:ai [] a (c++[Cell.lst ([.str e]++ω.map .str)]):=((z.trans S).trans U).trans ai.app;have g5:(c++[Cell.lst ([.str e]++ω.map .str)])[c.length]?=some (.lst ((i0 e).map .str)):=by rw[hL];exact av
 have l4:a.length<=c.length:=((z.trans S).trans U).len
 have e5:Rg y o3 [oR b,C1,oR w,W2,oS e,G3] d=.ok (.ref c.length) (c++[Cell.lst ([.str e]++ω.map .str)]):=by
  unfold Rg
  simp_all
 generalize c++[Cell.lst ([.str e]++ω.map .str)]=i at *;have t:=V.get _ _ H (by simp)
 have E:=h.keep V (by simp)
 have F:=h.len;have X:f.length<=1000:=by rw[←F];simp[eB];omega
 have d0:=vt (e:=e) (j:=.ref c.length) t X;have K6:ai [w] i (i.set w (.dK (eO f (.inr e) (.ref c.length)))):=ai.set (by simp)
 refine⟨eO f (.inr e) (.ref c.length),i.set w (.dK (eO f (.inr e) (.ref c.length))),?_,a_ t,?_,(gw.up V).trans K6⟩
 .unfold Rh
  rw[au,fS,G,ig,ij,jw,fu,if_pos rfl,au,au]
  have:iY (af 2) (af 4) (Rg y o3) [oR b,C1,oR w,W2,oS e,G3] d=.nx [oR b,C1,oR w,W2,oS e,G3] (i.set w (.dK (eO f (.inr e) (.ref c.length)))):=by
   unfold iY
   simp_all
  rw[this];rfl
 .have:=E.put (n:=e) (r:=i0 e) (by rw[gx];exact I) (K _ l4) g5
  have h6:=this.cD K6 (λj hj ds=>by rw[W'.mp hj,t];simp)
  have:eB l i0++[(e,i0 e)]=eB (l++[e]) i0:=by simp[eB]
  rw[this]at h6;exact h6
def Jw(f:aV):Prop:=∀(c:aG) (e:Nat) (b:List (Key×D)) (E:gf) (P:Nat->Prop) (L:Str->List Str),cP c e b->aX P c b E->Gd E->Rb E L->(∀n∈nms E,(L n).length<=900) ->
 ∃l d a,f [.ref e] c=.ok (.ref l) a/\a[l]?=some (.dK d)/\aX (λj=>c.length<=j) a d (eB (nms E) L)/\ai [e] c a/\a[e]?=some (.dF b)/\c.length<=l
variable{N4 z5:aV}
theorem NG(hO:Ju y)(hE:FT o3)(hM:FP N4)(hB:FU z5):Jw (a8 6 1 (Rj y o3 N4 z5)):=by
 intro Ω e c0 E P L hd hr G hL t0;rw[bu (by rfl)]
 have e0:br 6 [D.ref e]=[oR e,none,none,none,none,none]:=rfl;rw[e0];have T0:=G.few;have u0:(nms E).length=E.length:=by simp[nms]
 obtain⟨a,e1,K1,v0⟩:=hO Ω e c0 E P hd hr G;have w0:=hr.cD K1 (λj S ds=>by rw[W'.mp S];exact hd.nl ds)
 have le:=hd.lt;have K2:ai [] a (a++[Cell.dK []]):=ai.app;have g2:(a++[Cell.dK []])[a.length]?=some (.dK []):=av;have l2:(a++[Cell.dK []]).length=a.length+1:=by simp
 have r2:aH 2 c6 [oR e,some .non,none,none,none,none] a=.nx [oR e,some .non,oR a.length,none,none,none] (a++[Cell.dK []]):=rfl;generalize a++[Cell.dK []]=g at *;have K3:ai [] g (g++[Cell.dK []]):=ai.app;have g3:(g++[Cell.dK []])[g.length]?=some (.dK []):=av;have l3:(g++[Cell.dK []]).length=g.length+1:=by simp
 have r3:aH 3 c6 [oR e,some .non,oR a.length,none,none,none] g=.nx [oR e,some .non,oR a.length,oR g.length,none,none] (g++[Cell.dK []]):=rfl;generalize g++[Cell.dK []]=M at *;have H:=K2.trans K3;have T:=H.get _ _ v0 (by simp)
 have d0:=w0.keep H (by simp)
 have x0:=K3.get _ _ g2 (by simp)
 obtain⟨A,z,s,e4,f0,F,Q,K4,U,lz⟩:=hE M e c0 E P (.inr T) d0 G;have V:a.length≠e:=by have:=K1.len;omega
 have g0:g.length≠e:=by have:=K1.len;omega
 have h0:=K4.get _ _ x0 (by simpa using V)
 have y0:=K4.get _ _ g3 (by simpa using g0)
 have z0:=d0.cD K4 (λj S ds=>by rw[W'.mp S,T];simp)
 have V0:A.length<=E.length:=by
  have:=vo F.nd F.sub;omega
 have R0:=K4.len;have S0:=K1.len
 have C0:ai [] M s:=⟨K4.len,λk c hk _=>by
  by_cases h:k=e
  .subst h;rw[T]at hk;cases hk;exact U
  .exact K4.get k c hk (by simpa using h)⟩
 have i0:bx (mN (a6 o3) (ae (af 0) ak)) [oR e,some .non,oR a.length,oR g.length,none,none] M=.ok (.seq (.ref z)) s:=by
  rw[dN];have:(mN (a6 o3) (ae (af 0) ak)) [oR e,some .non,oR a.length,oR g.length,none,none] M=.ok (.ref z) s:=by simp[e4]
  rw[this,aI];exact bj (by rw[aJ,aD f0])
 have j0:∃m B b,iX (dH 4) (.seq (.ref z)) (Rh N4 z5) fuel 0 [oR e,some .non,oR a.length,oR g.length,none,none] s=.nx [oR e,some .non,oR a.length,oR g.length,B,none] b/\b[a.length]?=some (.dK m)/\aX (λj=>s.length<=j) b m (eB A L)/\ai [a.length] s b:=by
  have D0:∀I,ai [a.length] s I->I[z]?=some (.lst (A.map .str)):=λI K=>K.get _ _ f0 (by simp;omega)
  refine cL (R:=λr=>∃m B b,r=.nx [oR e,some .non,oR a.length,oR g.length,B,none] b/\b[a.length]?=some (.dK m)/\aX (λj=>s.length<=j) b m (eB A L)/\ai [a.length] s b) (o:=A.map .str)
   (λi N b=>∃m B,N=[oR e,some .non,oR a.length,oR g.length,B,none]/\b[a.length]?=some (.dK m)/\aX (λj=>s.length<=j) b m (eB (A.take i) L)/\ai [a.length] s b) ?_ ?_ ?_ fuel 0 _ _ (by unfold fuel;simp;omega) (Ì _) ⟨[],none,rfl,h0,.nil,ai.refl⟩
  .rintro i N b ⟨_,_,_,_,_,K⟩
   rw[cz,aJ,aD (D0 _ K)]
  .rintro i d N b X ⟨m,B,rfl,J,Y,K⟩
   obtain⟨n,C,rfl⟩:=fU X;refine⟨[oR e,some .non,oR a.length,oR g.length,oS n,none],rfl,?_⟩;have O:=F.sub n (ZV C);obtain⟨o,G0,l0⟩:=hL n O;have ho:o.length<=900:=by have:=t0 n O;rw[l0]at this;simp at this;omega
   have w:=K.get _ _ U (by simpa using ZT V)
   have Z:=z0.cD K (λj S ds=>by rw[W'.mp S,h0];simp)
   have I0:n∉A.take i:=by
    intro hm;obtain⟨i',a0⟩:=Ó.mp hm;have J0:=(ZS.mp a0).1;rw[î]at J0;rw[ĳ (by omega)]at a0
    have:=(Ē (by omega) F.nd).mp (a0.trans C.symm)
    omega
   obtain⟨m0,x,e6,h6,h7,K6⟩:=Jv (P':=λj=>s.length<=j) hM hB (e:=n) (C1:=some .non) (W2:=oR g.length) (G3:=none) w Z J Y O I0 (F.pre i n C) G0 l0 (B' (G.short n O) (by omega)) (by rw[î];omega) ho (λj S=>B' K.len S)
   rw[e6];refine⟨m0,oS n,rfl,h6,?_,K.trans K6⟩;rw[Ï,C];exact h7
  .rintro N b ⟨m,B,rfl,J,Y,K⟩
   rw[ZZ,ð]at Y;exact⟨m,B,b,rfl,J,Y,K⟩
 obtain⟨m,B,b,e5,h5,Z,K5⟩:=j0;have w:=K5.get _ _ U (by simpa using ZT V)
 have K0:=K5.get _ _ y0 (by simp;omega)
 have n0:bx (af 0) [oR e,some .non,oR a.length,oR g.length,B,none] b=.ok (.keys e) b:=by
  rw[dN]
  show srcOf b (.ref e)=_
  rw[ua (.inr w),set_same w]
 have b0:∃t,iX (dH 4) (.keys e) Ri fuel 0 [oR e,some .non,oR a.length,oR g.length,B,none] b=.nx [oR e,some .non,oR a.length,oR g.length,t,none] b:=by
  refine cL (R:=λr=>∃t,r=.nx [oR e,some .non,oR a.length,oR g.length,t,none] b) (o:=(nms E).map .str)
   (λi N x=>x=b/\∃t,N=[oR e,some .non,oR a.length,oR g.length,t,none]) ?_ ?_ ?_ fuel 0 _ _ (by unfold fuel;simp;omega) (Ì _) ⟨rfl,B,rfl⟩
  .rintro i N x ⟨rfl,_⟩
   rw[oD w,hr.keys]
  .rintro i d N x X ⟨rfl,t,rfl⟩
   obtain⟨n,C,rfl⟩:=fU X;refine⟨[oR e,some .non,oR a.length,oR g.length,oS n,none],rfl,?_⟩;have L0:=FQ (e:=n) (.inl K0)
   have:Ri [oR e,some .non,oR a.length,oR g.length,oS n,none] x=.nx [oR e,some .non,oR a.length,oR g.length,oS n,none] x:=by
    unfold Ri;rw[au,fS]
    show sq (cJ (df (aA .In (.str n) (.ref g.length) x)) _) _=_
    rw[L0];rfl
   rw[this];exact⟨rfl,_,rfl⟩
  .rintro N x ⟨rfl,t,rfl⟩
   exact⟨t,rfl⟩
 obtain⟨t,e6⟩:=b0
 have o0:∀n∈nms E,∃j,(cI m (.inr n)).getD .non=.ref j/\s.length<=j/\b[j]?=some (.lst ((L n).map .str))/\cI m (.inr n)=oR j:=λn C=>by
  obtain⟨j,J,Y,h3⟩:=Z.at (n:=n) (by rw[gx];exact Q n C)
  rw[kU (Q n C)]at h3;exact⟨j,by rw[J];rfl,Y,h3,J⟩
 have p0:bx (af 0) [oR e,some .non,oR a.length,oR g.length,t,none] b=.ok (.keys e) b:=by
  rw[dN]
  show srcOf b (.ref e)=_
  rw[ua (.inr w),set_same w]
 obtain⟨q,r0,e7,g7,K7,lq⟩:=vq (u:=[oR e,some .non,oR a.length,oR g.length,t,none]) (p:=mN hZ (ae (af 0) (ae (m2 aQ (af 1) (af 0)) ak))) (P:=[2]) (l:=nms E) (f:=λn=>(cI m (.inr n)).getD .non) p0 (by rw[oD w,hr.keys]) (λn C=>by
  obtain⟨j,J,_,_,h4⟩:=o0 n C;have M0:=jg (e:=n) (.inl h5) h4
  show(((aQ (.ref a.length) (.str n) b).bind _).bind _).bind _=_
  rw[M0]
  show hZ [.str n,.ref j] b=_
  rw[rK,if_pos (a7 (by simp)),J]) (by omega) G.nd
 have s0:ai [] a b:=⟨by have:=H.len;have:=K5.len;omega,λk c hk _=>K5.get k c (C0.get k c (H.get k c hk (by simp)) (by simp)) (by have:=b_ hk;simp;omega)⟩
 refine⟨q,_,r0,?_,g7,?_,K1.trans (gw.up (s0.trans K7)),K7.get _ _ w (by simp),by have:=s0.len;omega⟩
 .unfold Rj
  have r1:(aH 1 (mN (a6 y) (ae (af 0) ak))) [oR e,none,none,none,none,none] Ω=.nx [oR e,some .non,none,none,none,none] a:=by simp[e1]
  have P0:(dk (m2 (aA .IsNot) (af 1) (aj .non)) (aq cu ao) ao) [oR e,some .non,none,none,none,none] a=.nx [oR e,some .non,none,none,none,none] a:=by simp
  rw[au,r1,aU,au,P0,aU,au,r2,aU,au,r3,aU,au,dO,i0,fu,e5,aU,au,dO,n0,fu,e6,aU,au,kR];have Q0:XG [oR e,some .non,oR a.length,oR g.length,t,none] b=.ok (.ref q) r0:=e7;rw[Q0];rfl
 .refine Cd λn C=>?_
  obtain⟨j,J,Y,h3,_⟩:=o0 n C;exact⟨j,J,by have:=H.len;omega,K7.get _ _ h3 (by simp)⟩
def ub(x:Str):Prop:=1<=x.length/\x.length<=8/\∀c∈x.cps.toList,97<=c/\c<=122
theorem Jx:∀c,97<=c->c<=122->nN (bO c) "abcdefghijklmnopqrstuvwxyz"=true:=by
 have:∀i,i<26->nN (bO (97+i)) "abcdefghijklmnopqrstuvwxyz"=true:=by decide +kernel
 intro c a b;have:=this (c - 97) (by omega)
 simp_all
def inC:EM:=(cb (m2 (aA .In) (af 0) (aj (.str "abcdefghijklmnopqrstuvwxyz"))) true (aj .non) (bx (af 0)) 0 [])
def uc:SM:=
 (aq (dk (jF (m1 (iD .str) (af 0)))
 (aq (bf (aj (.bl false)))
 ao)
 ao)
 (aq (bf (kK (my .LtE .LtE (aj (.int 1)) (mN (bb .len) (ae (af 0) ak)) (aj (.int 8))) (mN (bb .all) (ae inC ak))))
 ao))
def FW(c:aV):Prop:=∀(b:aG) (x:Str),ub x->∃a,c [.str x] b=.ok (.bl true) a/\ai [] b a
theorem NH:FW (a8 1 1 uc):=by
 intro e x j;obtain⟨r,k,f⟩:=j;rw[bu (by rfl)]
 have l:br 1 [D.str x]=[oS x]:=rfl;rw[l]
 have h:=cO (u:=[oS x]) (p:=m2 (aA .In) (af 0) (aj (.str "abcdefghijklmnopqrstuvwxyz"))) (Z:=aj .non) (C:=true) (M0:=bx (af 0)) (P:=[]) (g:=λd=>.bl true) rfl rfl (λd _=>rfl) (λd m _=>by
  obtain⟨c,i,rfl⟩:=è.mp m;have:=Jx c (f c i).1 (f c i).2
  show aA .In (.str (bO c)) (.str _) e=_
  simp[fh,inD,this]) (by
  have:x.cps.toList.length=x.length:=by rfl
  grind)
 have s:((x.cps.toList.map λc=>D.str (bO c)).filter λ_=>true).map (λ_=>D.bl true)=(x.cps.toList.map λ_=>true).map .bl:=by
  rw[ú.mpr (λ_ _=>rfl),Â,Â]
  rfl
 have h:inC [oS x] e=.ok _ _:=h;have t:=nh (a:=e++[.lst ((x.cps.toList.map λ_=>true).map .bl)]) av
 refine⟨e++[.lst ((x.cps.toList.map λ_=>true).map .bl)],?_,ai.app⟩
 have n:(mN (bb .all) (ae inC ak)) [oS x] e=.ok (.bl true) (e++[.lst ((x.cps.toList.map λ_=>true).map .bl)]):=by
  simp_all
 have o:(my .LtE .LtE (aj (.int 1)) (mN (bb .len) (ae (af 0) ak)) (aj (.int 8))) [oS x] e=.ok (.bl true) e:=by
  have w:bb .len [.str x] e=.ok (.int x.length) e:=by
   show oh .len [.str x] e=_
   unfold oh;simp[a7 (b:=x.length) (eV k)]
  have c1:dZ .LtE (.int 1) (.int x.length) e=.ok (.bl true) e:=by
   have:decide ((1:Int)<=x.length)=true:=by simp;omega
   simp_all
  have c2:dZ .LtE (.int x.length) (.int 8) e=.ok (.bl true) e:=by
   have:decide ((x.length:Int)<=8)=true:=by simp;omega
   simp_all
  unfold my
  simp_all
 have q:(dk (jF (m1 (iD .str) (af 0))) (aq (bf (aj (.bl false))) ao) ao) [oS x] e=.nx [oS x] e:=by rfl
 unfold uc;rw[au,q,aU,au,kR,wR,o,aI,ij,Hn,n];rfl
def bG(P:Nat->Prop)(Ω:aG)(h:Nat)(E:gf)(L:Str->List Str):Prop:=
 ∃e l a b,Ω[h]?=some (.ins "House" [("elders",.ref e),("lines",.ref l)])/\cP Ω e a/\aX P Ω a E/\cP Ω l b/\aX P Ω b (eB (nms E) L)
theorem bG.keep{Ω az:aG}{h:Nat}{E:gf}{P:Nat->Prop}{L:Str->List Str}(H:bG P Ω h E L)(K:ai [] Ω az):bG P az h E L:=by
 refine bD H λe l a b c d f g i=>⟨e,l,a,b,K.get _ _ c (by simp),d.keep K (by simp),f.keep K (by simp),g.keep K (by simp),i.keep K (by simp)⟩
theorem bG.imp{Ω:aG}{h:Nat}{E:gf}{P P':Nat->Prop}{L:Str->List Str}(H:bG P Ω h E L)(a:∀j,P j->P' j):bG P' Ω h E L:=by
 refine bD H λe l b c d f g i k=>⟨e,l,_,_,d,f,g.imp a,i,k.imp a⟩
theorem bG.lt{Ω:aG}{h:Nat}{E:gf}{P:Nat->Prop}{L:Str->List Str}(H:bG P Ω h E L):bG (λj=>P j/\j<Ω.length) Ω h E L:=by
 refine bD H λe l a b c d f g i=>⟨e,l,_,_,c,d,f.lt,g,i.lt⟩
theorem bG.Hu(c:bG u0 a w ξ i0)(K:ai [b] a H)(d:a[b]?=some (.lst o))(q:¬ u0 b):bG u0 H w ξ i0:=by
 refine bD c λe l k m f g n h p=>?_
 have i:∀j∈[b],¬ u0 j:=λj r=>by simp_all
 exact⟨e,l,_,_,K.get _ _ f (by simpa using (λz=>by rw[z,d]at f;cases f)),g.keep K (by simpa using (λz=>g.nl _ (z▸d))),n.keep K i,h.keep K (by simpa using (λz=>h.nl _ (z▸d))),p.keep K i⟩
theorem Ce(H:aX u0 a ς (eB (nms ξ) i0)):ς.length=ξ.length:=by
 have:=H.len;simp[eB,nms]at this
 simp_all
def fe:EM:=(m1 (ic ["House"] "elders") (af 0))
def Rk:EM:=(m1 (ic ["House"] "lines") (af 0))
variable{o0:Nat}
theorem ud(c:a[w]?=some (.ins "House" [("elders",.ref b),("lines",.ref o0)])):ic ["House"] "elders" (.ref w) a=.ok (.ref b) a:=rL c rfl rfl
theorem Hv(c:a[w]?=some (.ins "House" [("elders",.ref b),("lines",.ref o0)])):ic ["House"] "lines" (.ref w) a=.ok (.ref o0) a:=rL c rfl rfl
def Rl:SM:=(aq (bf (mN (bb .list) (ae fe ak))) ao)
def yU(c:aV):Prop:=∀(b:aG) (h:Nat) (E:gf) (L:Str->List Str) (P:Nat->Prop),bG P b h E L->∃k a,c [.ref h] b=.ok (.ref k) a/\a[k]?=some (.lst ((nms E).map .str))/\ai [] b a/\b.length<=k
theorem NI:yU (a8 1 1 Rl):=by
 intro a h E L P H;refine bD H λe l c d f g i j k=>?_
 rw[bu (by rfl)]
 have m:br 1 [D.ref h]=[oR h]:=rfl;have b:=BY g;rw[i.keys]at b;refine⟨_,a++[.lst _],?_,av,ai.app,M' _⟩
 have:(mN (bb .list) (ae fe ak)) [oR h] a=.ok (.ref a.length) (a++[.lst ((nms E).map .str)]):=by
  show(((ic _ _ _ a).bind _).bind _)=_
  rwa[ud f]
 unfold Rl
 simp_all
variable{Θ:AM}
theorem ke(H:bG u0 a b ξ i0)(i:u[w]?=some (oR b))(j:([("elders",D.ref 0),("lines",D.ref 0)]:List (Str×D)).lookup e=none):cC "House" e y (af w) Θ u a=(Θ u a).bind λxs c=>Hg (y (.ref b::xs) c):=by
 refine bD H λd l f g h k m n o=>?_
 refine xl (by simp_all) h ?_
 simp_all
def Rm(a:aV):SM:=
 (aq (dk (m2 (aA .NotIn) (af 1) (cC "House" "kinds" a (af 0) ak))
 (aq cu
 ao)
 ao)
 ao)
def yV(c:aV):Prop:=∀(b:aG) (h:Nat) (E:gf) (L:Str->List Str) (P:Nat->Prop) (n:Str),bG P b h E L->n∈nms E->∃a,c [.ref h,.str n] b=.ok .non a/\ai [] b a
theorem NJ(c:yU y):yV (a8 2 2 (Rm y)):=by
 intro b h E L P n H i;rw[bu (by rfl)]
 have j:br 2 [D.ref h,.str n]=[oR h,oS n]:=rfl;refine bS (c b h E L P H) λk a d f l _=>?_
 have m:cC "House" "kinds" y (af 0) ak [oR h,oS n] b=.ok (.ref k) a:=by
  rw[ke H rfl (by decide),cp,aI,d,Jj]
 have g:=jy (e:=n) f;unfold Rm
 simp_all
def TY(a:aV):SM:=(aq (cw (cC "House" "check_kind" a (af 0) (ae (af 3) ak)))
 (aq (dk (m2 (aA .In) (af 3) (dj (af 1) true (aj .non) false (af 2)))
 (aq cu
 ao)
 ao)
 ao))
def Rn(a:aV):SM:=
 (aq (dk (m2 (aA .Gt) (mN (bb .len) (ae (af 1) ak)) (aj (.int 5)))
 (aq cu
 ao)
 ao)
 (aq (dy (gs [2,3]) (pe (af 1))
 (TY a))
 ao))
def Jy(CE:aV):Prop:=∀(c:aG) (h a:Nat) (E:gf) (L:Str->List Str) (P:Nat->Prop) (r:List Str),bG P c h E L->c[a]?=some (.lst (r.map .str))->r.Nodup->r.length<=5->(∀x∈r,x∈nms E)->∃b,CE [.ref h,.ref a] c=.ok .non b/\ai [] c b
theorem Jz(h:yV y)(H:bG u0 a b ξ i0)(i:a[w]?=some (.lst (l.map .str)))(j:l[o0]?=some e)(k:l.Nodup)(m:e∈nms ξ):
  ∃az,TY y [oR b,oR w,oI o0,oS e] a=.nx [oR b,oR w,oI o0,oS e] az/\ai [] a az:=by
 obtain⟨c,s,g⟩:=h a b ξ i0 u0 e H m
 have t:cC "House" "check_kind" y (af 0) (ae (af 3) ak) [oR b,oR w,oI o0,oS e] a=.ok .non c:=by
  rw[ke H rfl (by decide)]
  simp_all
 have n:=j_ (w:=o0) (g.get _ _ i (by simp))
 have o:(c++[Cell.lst ((l.take o0).map .str)])[c.length]?=some _:=av;have u:ai [] a (c++[Cell.lst ((l.take o0).map .str)]):=g.trans ai.app;have p:=il (e:=e) o
 have q:e∉l.take o0:=by
  intro r;obtain⟨x,d⟩:=Ó.mp r;have f:=(ZS.mp d).1;rw[î]at f;rw[ĳ (R' f (ϟ _ _))]at d;have:=(Ē (zi d) k).mp (d.trans j.symm);exact Ã _ (Ý (V' this.symm) (R' f (ϟ _ _)))
 unfold TY
 simp_all
theorem NL(q:yV y):Jy (a8 4 2 (Rn y)):=by
 intro b h a E L P r H g s t u;rw[bu (by rfl)]
 have w:br 4 [D.ref h,.ref a]=[oR h,oR a,none,none]:=rfl;rw[w]
 have z:(dk (m2 (aA .Gt) (mN (bb .len) (ae (af 1) ak)) (aj (.int 5))) (aq cu ao) ao) [oR h,oR a,none,none] b=.nx [oR h,oR a,none,none] b:=by
  have e:=dq g;rw[ZZ]at e;rw[fS,kP];have:(mN (bb .len) (ae (af 1) ak)) [oR h,oR a,none,none] b=.ok _ b:=e;rw[this,aI,wQ,aI]
  have:aA .Gt (.int r.length) (.int 5) b=.ok (.bl false) b:=by
   simp[fh];omega
  rw[this];rfl
 have j:pe (af 1) [oR h,oR a,none,none] b=.ok (.MQ (.ref a)) b:=by
  unfold pe;simp[aD g]
 unfold Rn;rw[au,z,aU,au,dO,j]
 refine cL (R:=λr=>∃f,gA (sq r _)=.ok _ f/\ai [] b f) (o:=eZ 0 (r.map .str))
  (λi k c=>∃m n,k=[oR h,oR a,m,n]/\ai [] b c) ?_ ?_ ?_ _ 0 _ _ (by rw[hF];unfold fuel;simp;exact zr t) (Ì _) ⟨_,_,rfl,ai.refl⟩
 .rintro i k c ⟨_,_,_,K⟩
  show(iC _ (.ref a)).map _=_
  rw[aJ,aD (K.get _ _ g (by simp))];rfl
 .rintro i d k c A ⟨m,n,rfl,K⟩
  obtain⟨G,l,rfl⟩:=kz _ 0 i d A;obtain⟨x,p,rfl⟩:=fU l;rw[ϛ];refine⟨[oR h,oR a,oI i,oS x],rfl,?_⟩;obtain⟨B,C,F⟩:=Jz q (H.keep K) (K.get _ _ g (by simp)) p s (u x (ZV p))
  rw[C];exact⟨_,_,rfl,K.trans F⟩
 .simp
def Ro(a:aV):SM:=
 (aq (cw (cC "House" "check_kind" a (af 0) (ae (af 1) ak)))
 (aq (bf (mN (bb .list) (ae (m2 aQ Rk (af 1)) ak)))
 ao))
def JA(c:aV):Prop:=∀(b:aG) (h:Nat) (E:gf) (L:Str->List Str) (P:Nat->Prop) (n:Str),bG P b h E L->n∈nms E->∃k a,c [.ref h,.str n] b=.ok (.ref k) a/\a[k]?=some (.lst ((L n).map .str))/\ai [] b a/\b.length<=k
theorem NO(i:yV y):JA (a8 2 2 (Ro y)):=by
 intro f h E L P n H b;rw[bu (by rfl)]
 have k:br 2 [D.ref h,.str n]=[oR h,oS n]:=rfl;rw[k];refine bV (i f h E L P n H b) λa t c=>?_
 have u:cC "House" "check_kind" y (af 0) (ae (af 1) ak) [oR h,oS n] f=.ok .non a:=by
  rw[ke H rfl (by decide)]
  simp_all
 refine bD (H.keep c) λe l m o p w x q r=>?_
 refine bF (r.at (n:=n) (by rw[gx];exact b)) λj s _ g=>?_
 rw[kU b]at g;have d:=dr g;refine⟨a.length,a++[.lst _],?_,av,c.trans ai.app,c.len⟩
 have:(mN (bb .list) (ae (m2 aQ Rk (af 1)) ak)) [oR h,oS n] a=.ok (.ref a.length) (a++[.lst ((L n).map .str)]):=by
  show((((ic ["House"] "lines" (.ref h) a).bind _).bind _).bind _)=_
  rw[Hv p,aI]
  show(((aQ (.ref l) (.str n) a).bind _).bind _)=_
  rw[jg q s];exact d
 unfold Ro
 simp_all
variable{Q3:List (Str×D)}{Z:EM}
theorem jA(c:Z u a=.ok j H)(d:p u H=.ok (.ref b) H)(f:H[b]?=some (.ins "House" Q3))(g:Q3.length<1000):ft ["House"] e p Z u a=.nx u (H.set b (.ins "House" (tL e j Q3))):=by
 unfold ft;rw[c,fu,d,fu,mZ f]
 simp_all
def NP:SM:=
 (aq (ft ["House"] "elders" (af 0) c6)
 (aq (ft ["House"] "lines" (af 0) c6)
 ao))
def FX(c:aV):Prop:=∀(b:aG) (L:Str->List Str) (P:Nat->Prop),∃a,rl "House" c [] b=.ok (.ref b.length) a/\bG P a b.length [] L/\ai [] b a
theorem NQ:FX (a8 1 1 NP):=by
 intro c L P;have i:(c++[Cell.ins "House" []])[c.length]?=some _:=av;have j:ai [] c (c++[Cell.ins "House" []]):=ai.app;have k:(c++[Cell.ins "House" []]).length=c.length+1:=by simp
 unfold rl;generalize c++[Cell.ins _ []]=a at *;rw[bu (by rfl)]
 have l:br 1 [D.ref _]=[oR c.length]:=rfl;rw[l];have e:(a++[Cell.dK []])[c.length]?=some _:=dP i;have q:ft _ _ (af 0) c6 _ _=.nx [oR _] ((a++[Cell.dK []]).set _ (.ins _ [("elders",.ref _)])):=jA rfl rfl e (by simp)
 have f:=a_ (k9:=.ins "House" [("elders",.ref a.length)]) e;have m:ai [c.length] _ ((a++[Cell.dK []]).set c.length (.ins "House" [("elders",.ref a.length)])):=ai.app.trans (ai.set (by simp))
 have n:((a++[Cell.dK []]).set c.length (.ins "House" [("elders",.ref a.length)]))[a.length]?=some _:=cU av (É (V' k.symm));have r:((a++[Cell.dK []]).set c.length (.ins "House" [("elders",.ref a.length)])).length=a.length+1:=by simp
 generalize (a++[Cell.dK []]).set _ _=b at *;have g:(b++[Cell.dK []])[c.length]?=some _:=dP f;have s:ft _ "lines" (af 0) c6 _ _=.nx [oR _] ((b++[Cell.dK []]).set _ (.ins _ [("elders",.ref _),("lines",.ref _)])):=jA rfl rfl g (by simp)
 have o:=a_ (k9:=.ins "House" [("elders",.ref a.length),("lines",.ref b.length)]) g;have h:ai [c.length] _ ((b++[Cell.dK []]).set c.length (.ins "House" [("elders",.ref a.length),("lines",.ref b.length)])):=ai.app.trans (ai.set (by simp))
 have p:((b++[Cell.dK []]).set c.length (.ins "House" [("elders",.ref a.length),("lines",.ref b.length)]))[b.length]?=some _:=cU av (É (zi f));generalize (b++[Cell.dK []]).set _ _=d at *;refine⟨_,?_,⟨_,_,[],[],o,.inl (h.get _ _ n (by simp_all)),.nil,.inl p,.nil⟩,ai.new j (m.trans h) (by simp)⟩
 have:gA (NP [oR c.length] a)=.ok .non d:=by
  unfold NP
  simp_all
 rw[this]
def Rp(a:aV):SM:=
 (aq (aH 2 (mN (a6 a) (ae (af 1) ak)))
 (aq (ft ["House"] "elders" (af 0) (af 1))
 (aq (ft ["House"] "lines" (af 0) (af 2))
 ao)))
def Cf(d:aV):Prop:=∀(b:aG) (h e f g:Nat) (c:List (Key×D)) (E:gf) (P:Nat->Prop) (L:Str->List Str),b[h]?=some (.ins "House" [("elders",.ref f),("lines",.ref g)])->cP b e c->aX P b c E->Gd E->Rb E L->(∀n∈nms E,(L n).length<=900)->(∀j,b.length<=j->P j) ->
 ∃a,d [.ref h,.ref e] b=.ok .non a/\bG P a h E L/\ai [h,e] b a
theorem NR(J:Jw y):Cf (a8 3 2 (Rp y)):=by
 intro A h e K g d E P L B m C G M n N;rw[bu (by rfl)]
 have O:br 3 [D.ref h,.ref e]=[oR h,oR e,none]:=rfl;rw[O];obtain⟨l,o,a,Q,p,q,r,s,Y⟩:=J A e d E P L m C G M n;have f:h≠e:=λz=>m.ni _ _ (z▸B)
 have i:=r.get _ _ B (by simpa using f)
 have t:=C.cD r (λj u k=>by rw[W'.mp u];exact m.nl k)
 have w:l≠h:=λz=>by rw[z,i]at p;cases p
 have R:ft ["House"] "elders" (af 0) (af 1) [oR h,oR e,oR l] a=.nx [oR h,oR e,oR l] (a.set h (.ins "House" [("elders",.ref e),("lines",.ref g)])):=jA (H:=a) rfl rfl i (by simp)
 have F:=a_ (k9:=.ins "House" [("elders",.ref e),("lines",.ref g)]) i;have S:ai [h] a (a.set h (.ins "House" [("elders",.ref e),("lines",.ref g)])):=ai.set (by simp)
 generalize a.set h (.ins "House" [("elders",.ref e),("lines",.ref g)])=b at *;have T:ft ["House"] "lines" (af 0) (af 2) [oR h,oR e,oR l] b=.nx [oR h,oR e,oR l] (b.set h (.ins "House" [("elders",.ref e),("lines",.ref l)])):=jA (H:=b) rfl rfl F (by simp)
 have U:=a_ (k9:=.ins "House" [("elders",.ref e),("lines",.ref l)]) F;have V:ai [h] b (b.set h (.ins "House" [("elders",.ref e),("lines",.ref l)])):=ai.set (by simp)
 generalize b.set h (.ins "House" [("elders",.ref e),("lines",.ref l)])=x at *;have c:=S.trans V;have I:∀j∈[h],∀k,a[j]?≠some (.lst k):=λj u k=>by rw[W'.mp u,i];simp
 refine⟨x,?_,⟨e,l,d,o,U,.inr (c.get _ _ s (by simpa using ZT f)),t.cD c I,.inl (c.get _ _ p (by simpa using w)),(q.imp N).cD c I⟩,(r.sub (by simp)).trans (c.sub (by simp))⟩
 unfold Rp;have X:(aH 2 (mN (a6 y) (ae (af 1) ak))) [oR h,oR e,none] A=.nx [oR h,oR e,oR l] a:=by simp[Q]
 rw[au,X,aU,au,R,aU,au,T];rfl
def NS:EM:=(mN hZ (ae (af 0) (ae (Hc (m2 (aA .Eq) (af 0) (af 2)) (mN (bb .list) (ae (af 1) ak)) (m2 aQ (m1 (ic ["House"] "elders") (af 3)) (af 0))) ak)))
def TZ:EM:=(mN gO (ae (cb NS true (aj .non) (bx (af 4)) 0 [2,1,0]) ak))
def T_:EM:=(dU mz fx (af 4) (ae (Hc (m2 (aA .Is) (af 3) (aj .non)) (mN (bb .len) (ae (af 4) ak)) (af 3)) (ae (af 1) ak)))
def Rq(a CE b c:aV):SM:=
 (aq (dk (jF (mN (a6 a) (ae (af 1) ak)))
 (aq cu
 ao)
 ao)
 (aq (dk (m2 (aA .In) (af 1) fe)
 (aq cu
 ao)
 ao)
 (aq (dk (m2 (aA .GtE) (mN (bb .len) (ae fe ak)) (aj (.int 12)))
 (aq cu
 ao)
 ao)
 (aq (cw (cC "House" "check_elders" CE (af 0) (ae (af 2) ak)))
 (aq (aH 4 (cC "House" "kinds" b (af 0) ak))
 (aq (cw T_)
 (aq (cw (cC "House" "settle" c (af 0) (ae TZ ak)))
 ao)))))))
theorem Cg{α:Type}{xs:List α}{x:α}:jS xs xs.length x=xs++[x]:=by
 have:HT.kl xs.length 0 (some (xs.length))=xs.length:=by
  unfold HT.kl;simp
  grind
 unfold jS
 simp_all
theorem JB(H:bG u0 a b ξ i0)(X:a[w]?=some (.lst (l.map .str)))(hk:a[o0]?=some (.lst ((nms ξ++[e]).map .str)))(hn:e∉nms ξ)(L:(nms ξ).Nodup)(hl:ξ.length<=100)(hP:∀j,a.length<=j->u0 j):
  ∃q A az,TZ [oR b,oS e,oR w,C1,oR o0] a=.ok (.ref q) az/\az[q]?=some (.dK A)/\aX u0 az A (ξ++[(e,l)])/\ai [] a az/\a.length<=q:=by
 have Y:bx (af 4) [oR b,oS e,oR w,C1,oR o0] a=.ok (.seq (.ref o0)) a:=by
  rw[dN];exact bj (by rw[aJ,aD hk])
 have a0:nms (ξ++[(e,l)])=nms ξ++[e]:=by simp[nms]
 refine cF (m_ (u:=[oR b,oS e,oR w,C1,oR o0]) (p:=NS) (Z:=aj .non) (P:=[2,1,0]) (o:=(nms ξ++[e]).map .str) (λi B c=>∃k:List (Str×D),B=k.map (λp=>.tup [.str p.1,p.2])/\aX u0 c (k.map λp=>(.inr p.1,p.2)) ((ξ++[(e,l)]).take i)/\ai [] a c) Y ⟨[],rfl,.nil,ai.refl⟩
  (λi B c b=>by
   refine bF b λ_ _ _ K=>?_
   rw[cz,aJ,aD (K.get _ _ hk (by simp))])
  (λi d B c b0 hI=>by
   obtain⟨k,rfl,M,K⟩:=hI;obtain⟨x,N,rfl⟩:=fU b0;refine bD (H.keep K) λc0 d0 A r0 q1 q2 q3 q4 q5=>?_
   have e0:=K.get _ _ X (by simp)
   show ∃y az,NS [oS x,oR w,oS e,oR b] c=.ok y az/\_
   have O:∀(p:Str×List Str) (j:Nat) (r:aG),(ξ++[(e,l)])[i]?=some p->p.1=x->u0 j->r[j]?=some (.lst (p.2.map .str))->ai [] c r->∃m:List (Str×D),(k.map (λp=>D.tup [.str p.1,p.2])++[.tup [.str x,.ref j]])=m.map (λp=>.tup [.str p.1,p.2])/\aX u0 r (m.map λp=>(.inr p.1,p.2)) ((ξ++[(e,l)]).take (i+1))/\ai [] a r:=by
    intro p j r hp C E T K3;refine⟨k++[(x,.ref j)],by simp,?_,K.trans K3⟩
    rw[Ï,hp,Ü];exact aE.append (M.keep K3 (by simp)) (.cons ⟨by rw[C],j,rfl,E,T⟩ .nil)
   have U:(m2 (aA .Eq) (af 0) (af 2)) [oS x,oR w,oS e,oR b] c=.ok (.bl (decide (x=e))) c:=by
    rfl
   have hi:=(ZS.mp N).1;rw[ľ]at hi;simp only[nms,ZZ,List.length_singleton]at hi
   by_cases F:i<ξ.length
   .have t:(nms ξ)[i]?=some x:=by rw[Û (by simp[nms];exact F)]at N;exact N
    have G:x∈nms ξ:=ZV t;have I:x≠e:=λz=>hn (z▸G)
    rw[decide_eq_false I]at U;have hp:(ξ++[(e,l)])[i]?=some ξ[i]:=by rw[Û F];simp
    have C:ξ[i].1=x:=by
     simp[nms,F]at t;exact t
    have Q:de ξ x=ξ[i].2:=by
     have hm:(x,de ξ x)∈ξ:=rN (kd G);obtain⟨i',R⟩:=Ó.mp hm;have e1:(nms ξ)[i']?=some x:=by simp[nms,R]
     have f0:=(ZS.mp R).1;have:=(Ē (by simp[nms];exact f0) L).mp (e1.trans t.symm)
     simp_all
    refine bF (q3.at G) λj hv E T=>?_
    rw[Q]at T;refine bF (O ξ[i] j c hp C E T ai.refl) λm z1 z2 z3=>?_
    refine⟨.tup [.str x,.ref j],c,?_,m,z1,z2,z3⟩
    have J:(m2 aQ (m1 (ic ["House"] "elders") (af 3)) (af 0)) [oS x,oR w,oS e,oR b] c=.ok (.ref j) c:=by
     show((ic ["House"] "elders" (.ref b) c).bind _)=_
     rw[ud q1,aI];exact jg q2 hv
    unfold NS;rw[je,cy];have:af 0 [oS x,oR w,oS e,oR b] c=.ok (.str x) c:=rfl;rw[this,aI,cy,vj,U,ig,ij,jw,aI,if_neg (by simp),J,aI,cp,aI,aI,aI,rK,if_pos (a7 (by simp))]
   .have g0:i=ξ.length:=by omega
    subst g0
    have I:x=e:=by
     simp[nms]at N;exact N.symm
    subst I;rw[decide_eq_true rfl]at U;have h0:=dr e0;obtain⟨m,z1,z2,z3⟩:=O (x,l) c.length (c++[.lst (l.map .str)]) (by simp) rfl (hP _ K.len) av ai.app
    refine⟨.tup [.str x,.ref c.length],c++[.lst (l.map .str)],?_,m,z1,z2,z3⟩;have J:(mN (bb .list) (ae (af 1) ak)) [oS x,oR w,oS x,oR b] c=.ok (.ref c.length) (c++[.lst (l.map .str)]):=h0;unfold NS;rw[je,cy];have:af 0 [oS x,oR w,oS x,oR b] c=.ok (.str x) c:=rfl;rw[this,aI,cy,vj,U,ig,ij,jw,aI,if_pos rfl,J,aI,cp,aI,aI,aI,rK,if_pos (a7 (by simp))]) (by simp[nms];exact eV hl)) λys n e1 j0=>bF j0 λk l0 M K1=>?_;subst l0
 have S:((nms ξ++[e]).map D.str).length=(ξ++[(e,l)]).length:=by simp[nms]
 rw[S,ð]at M
 have m0:k.map (·.1)=nms ξ++[e]:=by
  have:=M.keys;rw[a0,Â]at this
  have V:(k.map (D.str ∘ (·.1)))=(nms ξ++[e]).map D.str:=by
   rw[←this];rfl
  rw[←Â]at V;exact(aaT (λw s z=>by cases z;rfl)).mp V
 have g2:(n++[Cell.lst (k.map λp=>.tup [.str p.1,p.2])])[n.length]?=some (.lst (k.map λp=>.tup [.str p.1,p.2])):=av
 have K2:ai [] a (n++[Cell.lst (k.map λp=>.tup [.str p.1,p.2])]):=K1.trans ai.app
 have V:aX u0 (n++[Cell.lst (k.map λp=>.tup [.str p.1,p.2])]) (k.map λp=>(.inr p.1,p.2)) (ξ++[(e,l)]):=M.keep (fp:=[]) ai.app (by simp)
 generalize n++[Cell.lst (k.map λp=>.tup [.str p.1,p.2])]=c at *
 have hf:=lL (k.map λp=>((.inr p.1:Key),p.2)) [] (by
  rw[aaQ,Â];have:(k.map ((λp:Key×D=>p.1) ∘ λp=>((.inr p.1:Key),p.2)))=(k.map (·.1)).map ī:=by rw[Â];rfl
  rw[this,m0];have n0:(nms ξ++[e]).Nodup:=Ĕ.mpr ⟨L,by simp,λw X s hb z=>hn (by rw[←W'.mp hb,←z];exact X)⟩
  exact aem _ (λw s p0 z=>p0 (by cases z;rfl)) n0)
 rw[aaQ]at hf;refine⟨c.length,_,c++[.dK (k.map λp=>(.inr p.1,p.2))],?_,av,V.keep (fp:=[]) ai.app (by simp),K2.trans ai.app,K2.len⟩
 unfold TZ;rw[je,cy,e1,aI,cp,aI,aI]
 show jK (jN [.ref n.length] c) _=_
 simp only[jN,aD g2,(lG (f:=tE) (g:=λp:Str×D=>D.tup [.str p.1,p.2]) (h:=λp=>(.inr p.1,p.2)) (λe=>rfl) k),hf]
 rfl
def FY(e:aV):Prop:=∀(c:aG) (h a:Nat) (E:gf) (L d:Str->List Str) (P:Nat->Prop) (n:Str) (r:List Str),bG P c h E L->c[a]?=some (.lst (r.map .str))->ub n->n∉nms E->E.length<12->r.Nodup->r.length<=5->(∀x∈r,x∈nms E) ->
 Gd (E++[(n,r)])->Rb (E++[(n,r)]) d->(∀m∈nms (E++[(n,r)]),(d m).length<=900)->(∀j,c.length<=j->P j)->∃b,e [.ref h,.str n,.ref a,.non] c=.ok .non b/\bG P b h (E++[(n,r)]) d/\ai [h] c b
theorem NU(hI:FW y)(hC:Jy o3)(hK:yU N4)(hS:Cf z5):FY (a8 5 4 (Rq y o3 N4 z5)):=by
 intro A h a E L L' P n r H J hv hn B K M N G O Q hP;rw[bu (by rfl)]
 have e0:br 5 [D.ref h,.str n,.ref a,.non]=[oR h,oS n,oR a,some .non,none]:=rfl;rw[e0];have R:nms (E++[(n,r)])=nms E++[n]:=by simp[nms]
 refine bV (hI A n hv) λb e1 s=>?_
 have r1:(dk (jF (mN (a6 y) (ae (af 1) ak))) (aq cu ao) ao) [oR h,oS n,oR a,some .non,none] A=.nx [oR h,oS n,oR a,some .non,none] b:=by simp[e1]
 have t:=H.keep s
 have r2:(dk (m2 (aA .In) (af 1) fe) (aq cu ao) ao) [oR h,oS n,oR a,some .non,none] b=.nx [oR h,oS n,oR a,some .non,none] b:=by
  refine bD t λe l f S u C F q4 q5=>?_
  have w:=FQ (e:=n) C;rw[F.is,decide_eq_false hn]at w;rw[fS,kP]
  show cJ (df ((ic ["House"] "elders" (.ref h) b).bind _)) _=_
  rw[ud u,aI,w];rfl
 have r3:(dk (m2 (aA .GtE) (mN (bb .len) (ae fe ak)) (aj (.int 12))) (aq cu ao) ao) [oR h,oS n,oR a,some .non,none] b=.nx [oR h,oS n,oR a,some .non,none] b:=by
  refine bD t λe l f S u C F q4 q5=>?_
  have x:=BX C;have T:=F.len
  have U:(mN (bb .len) (ae fe ak)) [oR h,oS n,oR a,some .non,none] b=.ok (.int f.length) b:=by
   show(((ic ["House"] "elders" (.ref h) b).bind _).bind _)=_
   rw[ud u,aI];exact x
  have hc:aA .GtE (.int f.length) (.int 12) b=.ok (.bl false) b:=by
   simp[fh];exact Sa (Ý (V' T.symm) B)
  rw[fS,kP,U,aI,wQ,aI,hc];rfl
 refine bV (hC b h a E L P r t (s.get _ _ J (by simp)) K M N) λi e2 I=>?_
 have r4:(cw (cC "House" "check_elders" o3 (af 0) (ae (af 2) ak))) [oR h,oS n,oR a,some .non,none] b=.nx [oR h,oS n,oR a,some .non,none] i:=by
  rw[dJ,ke t rfl (by decide)]
  simp_all
 have V:=t.keep I;refine bS (hK i h E L P V) λk d e3 p K3 X=>?_
 have r5:(aH 4 (cC "House" "kinds" N4 (af 0) ak)) [oR h,oS n,oR a,some .non,none] i=.nx [oR h,oS n,oR a,some .non,oR k] d:=by
  rw[dn,ke V rfl (by decide),cp,aI,e3]
  rfl
 have H3:bG (λj=>P j/\j≠k) d h E L:=(V.lt.keep K3).imp λj g=>⟨g.1,Q' (R' g.2 X)⟩
 have z:=(s.trans I).trans K3;have Y:=z.get _ _ J (by simp)
 have Z:a≠k:=by have:=b_ (I.get _ _ (s.get _ _ J (by simp)) (by simp));exact Q' (R' this X)
 have r6:(cw T_) [oR h,oS n,oR a,some .non,oR k] d=.nx [oR h,oS n,oR a,some .non,oR k] (d.set k (.lst ((nms E++[n]).map .str))):=by
  have O:=dc p;have x:=dq p
  have i0:fx (.ref k) [.int ((nms E).map D.str).length,.str n] d=.ok .non (d.set k (.lst ((nms E++[n]).map .str))):=by
   simp only[fx,jx p];rw[if_pos,Cg]
   .simp
   .rw[a7 (by simp[nms];exact LI B),e_ (û _) (by simp[nms];exact Sa B)];rfl
  unfold T_;rw[dJ,jf (j:=.ref k) (H:=d) rfl O]
  simp_all
 have K4:ai [k] d (d.set k (.lst ((nms E++[n]).map .str))):=ai.set (by simp)
 have g4:=a_ (k9:=.lst ((nms E++[n]).map .str)) p;have H4:=(H3.Hu K4 p (by simp)).imp λj g=>g.1
 have a0:=K4.get _ _ Y (by simpa using Z)
 have lk:=b_ p;generalize d.set k _=b0 at *
 have m:ai [] A b0:=ai.new z K4 (λj g=>by
  rw[W'.mp g];have:=(s.trans I).len;exact B' this X)
 refine nq (JB (C1:=some .non) H4 a0 g4 hn (by
  have:=G.nd;rw[R]at this;exact(Ĕ.mp this).1) (LI B) (λj g=>hP j (B' m.len g))) λq f c0 e5 g5 h5 K5 l5=>?_
 refine bD (H4.keep K5) λe l g0 h0 u C F q4 q5=>?_
 have o:=m.trans K5;refine bF (hS c0 h q e l f (E++[(n,r)]) P L' u (.inl g5) h5 G O Q (λj g=>hP j (B' o.len g))) λd0 e6 H6 K6=>?_
 have lq:A.length<=q:=B' m.len l5;refine⟨d0,?_,H6,⟨B' o.len K6.len,λk' c f0 j0=>K6.get k' c (o.get k' c f0 (by simp)) ?_⟩⟩
 .unfold Rq
  rw[au,r1,aU,au,r2,aU,au,r3,aU,au,r4,aU,au,r5,aU,au,r6,aU,au,dJ,ke H4 rfl (by decide),cy,e5,aI,cp,aI,aI,e6]
  rfl
 grind
def Rr(a:aV):SM:=
 (aq (aH 1 (mN (rl "House" a) ak))
 (aq (ft ["House"] "elders" (af 1) (mN gO (ae fe ak)))
 (aq (ft ["House"] "lines" (af 1) (mN gO (ae Rk ak)))
 (aq (bf (af 1))
 ao))))
def JC(c:aV):Prop:=∀(b:aG) (h:Nat) (E:gf) (L:Str->List Str) (P:Nat->Prop),bG P b h E L->∃k a,c [.ref h] b=.ok (.ref k) a/\bG P a k E L/\ai [] b a/\b.length<=k
theorem NV(G:FX y):JC (a8 2 1 (Rr y)):=by
 intro c h E L P H;rw[bu (by rfl)]
 have U:br 2 [D.ref h]=[oR h,none]:=rfl;refine bF (G c L P) λa V I A=>?_
 refine bD (H.keep A) λe l d f B J K C M=>?_
 refine bD I λX i _ _ p _ _ _ _=>?_
 have N:h<c.length:=by
  refine iH H λ_ _ _ _ z _=>?_
  exact b_ z
 have r:ai [] a (a++[Cell.dK d]):=ai.app
 have Y:ft ["House"] "elders" (af 1) (mN gO (ae fe ak)) [oR h,oR c.length] a=.nx [oR h,oR c.length] ((a++[Cell.dK d]).set c.length (.ins "House" [("elders",.ref a.length),("lines",.ref i)])):=by
  refine jA ?_ rfl (r.get _ _ p (by simp)) (by simp)
  show(((ic ["House"] "elders" (.ref h) a).bind _).bind _)=_
  rw[ud B,aI];exact(BZ J)
 have k:ai [c.length] a ((a++[Cell.dK d]).set c.length (.ins "House" [("elders",.ref a.length),("lines",.ref i)])):=(gw.up r).trans (ai.set (by simp))
 have F:=a_ (k9:=.ins "House" [("elders",.ref a.length),("lines",.ref i)]) (r.get _ _ p (by simp))
 have g:=b_ p;have O:((a++[Cell.dK d]).set c.length (.ins "House" [("elders",.ref a.length),("lines",.ref i)]))[a.length]?=some (.dK d):=cU av (É g);have Q:((a++[Cell.dK d]).set c.length (.ins "House" [("elders",.ref a.length),("lines",.ref i)])).length=a.length+1:=by simp
 generalize (a++[Cell.dK d]).set c.length _=b at *;have m:∀j∈[c.length],∀n,a[j]?≠some (.lst n):=λj R n=>by simp_all
 have s:=C.keep k (by simpa using (λz=>C.ni _ _ (z▸p)))
 have t:=K.cD k m;have u:=M.cD k m;have w:ai [] b (b++[Cell.dK f]):=ai.app
 have Z:ft ["House"] "lines" (af 1) (mN gO (ae Rk ak)) [oR h,oR c.length] b=.nx [oR h,oR c.length] ((b++[Cell.dK f]).set c.length (.ins "House" [("elders",.ref a.length),("lines",.ref b.length)])):=by
  refine jA ?_ rfl (w.get _ _ F (by simp)) (by simp)
  show(((ic ["House"] "lines" (.ref h) b).bind _).bind _)=_
  rw[Hv (k.get _ _ B (by simp;exact Q' N)),aI]
  exact(BZ s)
 have q:ai [c.length] b ((b++[Cell.dK f]).set c.length (.ins "House" [("elders",.ref a.length),("lines",.ref b.length)])):=(gw.up w).trans (ai.set (by simp))
 have S:=a_ (k9:=.ins "House" [("elders",.ref a.length),("lines",.ref b.length)]) (w.get _ _ F (by simp))
 have T:((b++[Cell.dK f]).set c.length (.ins "House" [("elders",.ref a.length),("lines",.ref b.length)]))[b.length]?=some (.dK f):=cU av (É (Ā g (V' Q.symm)));generalize (b++[Cell.dK f]).set c.length _=x at *;have o:∀j∈[c.length],∀n,b[j]?≠some (.lst n):=λj R n=>by simp_all
 refine⟨c.length,x,?_,⟨a.length,b.length,d,f,S,.inl (q.get _ _ O (by simp;exact É g)),t.cD q o,.inl T,u.cD q o⟩,ai.new A (k.trans q) (by simp),M' _⟩
 unfold Rr
 simp_all
noncomputable def ne(a:List (List Str)):List (List Str):=a.filter λr=>decide (r≠[])
variable{ε:List (List Str)}
theorem oG:l∈ne ε↔l∈ε/\l≠[]:=by unfold ne;simp
theorem yW:freeOf (ne ε) l=freeOf ε l:=by
 cases l with
 |nil=>rfl
 |cons m t=>
  by_cases h:∃r∈ε,m∈r.tail
  .obtain⟨r,a,b⟩:=h
   rw[dR ⟨r,a,b⟩,dR ⟨r,oG.mpr ⟨a,by grind⟩,b⟩]
  .rw[dS h,dS]
   rintro⟨r,a,b⟩;exact h ⟨r,(oG.mp a).1,b⟩
theorem FZ:free (ne ε)=free ε:=by
 have:∀b,(ne b).findSome? (freeOf (ne ε))=b.findSome? (freeOf ε):=by
  intro b
  induction b with
  |nil=>rfl
  |cons a b c=>
   by_cases d:a=[]
   .subst d
    have:ne ([]::b)=ne b:=by simp[ne]
    rw[this,c];rfl
   .have:ne (a::b)=a::ne b:=by simp[ne,d]
    rw[this,acF,acF,c,yW]
 exact this ε
theorem ue(h:e∉l.tail):l.filter (λx=>decide (x≠e))=dG e l:=by
 unfold dG;cases l with
 |nil=>simp
 |cons a t=>
  have b:t.filter (λx=>decide (x≠e))=t:=ú.mpr (by grind)
  grind
theorem F_:ne ((ne ε).map (dG e))=ne (ε.map (dG e)):=by
 unfold ne
 induction ε with
 |nil=>rfl
 |cons a ε b=>
  by_cases c:a=[]
  .subst c
   exact b
  grind
theorem yX(h:free ε=some e):∀r∈ε,e∉r.tail:=by
 obtain⟨b,d,a⟩:=aaK h;cases b with
 |nil=>cases a
 |cons m t=>
  by_cases c:∃r∈ε,m∈r.tail
  .rw[dR c]at a;cases a
  .rw[dS c]at a
   simp_all
theorem qf(h:free ε=some e):∃t,(e::t)∈ε:=by
 obtain⟨b,d,a⟩:=aaK h;cases b with
 |nil=>cases a
 |cons m t=>
  by_cases c:∃r∈ε,m∈r.tail
  .rw[dR c]at a;cases a
  .rw[dS c]at a
   grind
noncomputable def tl(a:List (List Str)):Nat:=(a.map Ŗ).sum
theorem Ga(h:∃t,(e::t)∈ε):tl (ε.map (dG e))<tl ε:=by
 obtain⟨t,d⟩:=h
 have g:∀r,(dG e r).length<=r.length:=λr=>by
  unfold dG;split
  .simp
  .simp
 have f:∀b,tl (b.map (dG e))<=tl b:=by
  intro b
  induction b with
  |nil=>simp
  |cons a b c=>
   unfold tl at c ⊢
   grind
 induction ε with
 |nil=>simp at d
 |cons a ε c=>
  unfold tl at f c ⊢;simp only[ù,List.sum_cons];rcases Æ.mp d with z|z
  .subst z
   have i:=f ε;have:(dG e (e::t)).length<(e::t).length:=by unfold dG;simp
   omega
  grind
variable{C:Bool}{V8:List Nat}
theorem qh{cap:List Nat}{f:List Str->List Str}{m:List Str->Bool}{P:Nat->Prop}(F:M0 u a=.ok (.seq (.ref b)) a)(R:Rw a b V8 ε)(G:ε.length<=1000)(H:∀j g k,ai [] a k->j∈V8->g∈ε->k[j]?=some (.lst (g.map .str))->∃c,lD C Z ([oR j]++fk cap u) k=.ok (m g) c/\ai [] k c)(I:∀j g k,ai [] a k->j∈V8->g∈ε->k[j]?=some (.lst (g.map .str))->∃r c,p ([oR j]++fk cap u) k=.ok (.ref r) c/\ai [] k c/\c[r]?=some (.lst ((f g).map .str))/\P r):
  ∃l c,cb p C Z M0 0 cap u a=.ok (.ref c.length) (c++[.lst (l.map .ref)])/\ai [] a c/\lJ c l ((ε.filter m).map f)/\∀j∈l,P j:=by
 have J:=R.len
 refine cF (kS (λi o c=>∃l,o=l.map .ref/\lJ c l (((ε.take i).filter m).map f)/\ai [] a c/\∀j∈l,P j) F ⟨[],rfl,.nil,ai.refl,by simp⟩
  (λi o c h=>by
   obtain⟨_,_,_,K,_⟩:=h;rw[cz,aJ,aD (R.keep K).ce])
  (λi d o k L h=>by
   obtain⟨l,rfl,w,K,B⟩:=h;obtain⟨j,y,rfl⟩:=lK L;obtain⟨g,s,n⟩:=(R.keep K).al.at' y;obtain⟨c,D,q⟩:=H j g k K (ZV y) (ZV s) n;cases t:m g with
   |false=>
    refine⟨_,c,D,.inl ⟨t,l,rfl,?_,K.trans q,B⟩⟩;rw[Ï,s];simp[t];exact w.keep q (by simp)
   |true=>
    obtain⟨r,z,e,E,M,Q⟩:=I j g c (K.trans q) (ZV y) (ZV s) (q.get _ _ n (by simp))
    refine⟨_,c,D,.inr ⟨t,_,z,e,l++[r],by simp,?_,(K.trans q).trans E,?_⟩⟩
    .rw[Ï,s,List.filter_append,Ü]
     simp only[Option.toList_some,List.filter_cons,t,acA,if_true,ù,aaP];exact((w.keep q (by simp)).keep E (by simp)).snoc M
    .intro x N
     rcases Ô.mp N with h|h
     .simp_all
     simp_all) (by simp;exact eV (B' (V' J.symm) G))) λS c e A=>eE A λl O w T B=>?_;grind
theorem ne_nil(c:u[w]?=some (oR b))(h:a[b]?=some (.lst (l.map .str))):∃az,m2 (aA .NotEq) (af w) (mN bt ak) u a=.ok (.bl (decide (l≠[]))) az/\ai [] a az:=by
 refine⟨a++[.lst []],?_,ai.app⟩;have e:(mN bt ak) u a=.ok (.ref a.length) (a++[.lst []]):=by rfl
 have g:(a++[Cell.lst []])[a.length]?=some (.lst (([]).map .str)):=av;rw[kP,kQ,c,Fw,aI,e,aI,xr (dP h) g];simp
theorem Gb(d:u[w]?=some (oR b))(R:Rw a b P ε):∃az,m2 (aA .NotEq) (af w) (mN bt ak) u a=.ok (.bl (decide (ε≠[]))) az/\ai [] a az:=by
 refine⟨a++[.lst []],?_,ai.app⟩;have e:(mN bt ak) u a=.ok (.ref a.length) (a++[.lst []]):=by rfl
 have g:(a++[Cell.lst []])[a.length]?=some _:=av;have c:=R.keep (az:=a++[Cell.lst []]) ai.app;have f:=oA (w:=6) c.ce c.al;have h:=oA (w:=6) g .nil
 simp_all
def Rt:SM:=(aq (dy (dH 5) (bx (dj (af 1) false (aj (.int 1)) true (aj .non)))
 (aq (iY (af 4) (af 5) (aj (.bl true)))
 ao))
 ao)
def Ua:EM:=(cb (m2 aQ (af 0) (aj (.int 0))) false (m2 (aA .NotIn) (m2 aQ (af 0) (aj (.int 0))) (af 1)) (bx (af 2)) 0 [4])
def Ub:EM:=(cb (cb (af 0) false (m2 (aA .NotEq) (af 0) (m2 aQ (af 1) (aj (.int 0)))) (bx (af 0)) 0 [1]) true (aj .non) (bx (af 2)) 0 [6])
def XH:EM:=(cb (af 0) false (m2 (aA .NotEq) (af 0) (mN bt ak)) (bx (af 2)) 0 [])
def JD:EM:=(m2 (aA .NotEq) (af 2) (mN bt ak))
def Ci:SM:=
 (aq (aH 4 c6)
 (aq (dy (dH 1) (bx (af 2))
 Rt)
 (aq (aH 6 Ua)
 (aq (dk (m2 (aA .Eq) (af 6) (mN bt ak))
 (aq (bf (aj .non))
 ao)
 ao)
 (aq (cw (dU mz cm (af 3) (ae (m2 aQ (af 6) (aj (.int 0))) ak)))
 (aq (aH 2 Ub)
 (aq (aH 2 XH)
 ao)))))))
def NW:SM:=
 (aq (aH 2 (cb (mN (bb .list) (ae (af 0) ak)) false (m2 (aA .NotEq) (af 0) (mN bt ak)) (bx (af 0)) 0 []))
 (aq (aH 3 (mN bt ak))
 (aq (pf JD
 Ci)
 (aq (bf (af 3))
 ao))))
def sk(Ω:aG)(d m:Nat)(S:Str->Prop):Prop:=∃a,Ω[d]?=some (.dK a)/\a.length<=m/\∀n,(cI a (.inr n)).isSome=true↔S n
variable{z8:Str->Prop}
theorem sk.keep{az:aG}{fp:List Nat}(h:sk a b w z8)(K:ai fp a az)(c:b∉fp):sk az b w z8:=bF (h) λ_ d e f=>⟨_,K.get _ _ d c,e,f⟩
theorem sk.imp{c:Str->Prop}(h:sk a b w z8)(d:∀n,z8 n↔c n):sk a b w c:=let ⟨_,e,f,g⟩:=h;⟨_,e,f,λn=>(g n).trans (d n)⟩
theorem sk.put{n:Str}(h:sk a b w z8)(d:w<=1000):∃az,oq (.ref b) (.str n) (.bl true) a=some az/\sk az b (w+1) (λx=>z8 x\/x=n)/\ai [b] a az:=by
 refine bF h λkvs c e f=>?_
 refine⟨_,vt c (B' e d),⟨_,a_ c,by have:=BQ (kvs:=kvs) (k:=.inr n) (v:=D.bl true);omega,λx=>?_⟩,ai.set (by simp)⟩
 rw[yR]
 by_cases z:x=n
 .simp_all
 simp_all
theorem Ge(h:a[b]?=some (.lst (l.map .str)))(c:u[w]?=some (oR b)):dj (af w) false (aj (.int 1)) true (aj .non) u a=.ok (.ref a.length) (a++[.lst (l.tail.map .str)]):=by
 have:=vl h
 simp_all
variable{v4 w4:Option D}
theorem JE(h:a[o0]?=some (.lst (l.map .str)))(s:sk a b w z8)(B:w+l.length<=900):
  ∃c az,Rt [C1,oR o0,W2,G3,oR b,v4,w4] a=.nx [C1,oR o0,W2,G3,oR b,c,w4] az/\sk az b (w+l.length) (λx=>z8 x\/x∈l.tail)/\ai [b] a az:=by
 have C:=Ge (u:=[C1,oR o0,W2,G3,oR b,v4,w4]) h (w:=1) rfl;have t:(a++[Cell.lst (l.tail.map .str)])[a.length]?=some _:=av;have D:ai [b] a (a++[Cell.lst (l.tail.map .str)]):=ai.app;have j:sk (a++[Cell.lst (l.tail.map .str)]) b w z8:=s.keep (fp:=[]) ai.app (by simp)
 have E:=bV (s) λ_ z _=>b_ z
 generalize a++[Cell.lst _]=k at *
 have m:bx (dj (af 1) false (aj (.int 1)) true (aj .non)) [C1,oR o0,W2,G3,oR b,v4,w4] a=.ok (.seq (.ref a.length)) k:=by
  rw[dN,C];exact bj (by rw[aJ,aD t])
 unfold Rt;rw[au,dO,m,fu];have F:l.tail.length<=l.length:=by simp
 refine cL (R:=λr=>∃c az,sq r _=.nx [C1,oR o0,W2,G3,oR b,c,w4] az/\sk az b _ _/\ai _ a az) (o:=l.tail.map .str)
  (λi g d=>∃c,g=[C1,oR o0,W2,G3,oR b,c,w4]/\sk d b (w+i) (λx=>z8 x\/x∈l.tail.take i)/\ai [b] _ d) ?_ ?_ ?_ _ 0 _ _ (by unfold fuel;simp;exact zr (B' (B' (ŀ _ _) (acG _ _)) B)) (Ì _) ⟨v4,rfl,j.imp (by simp),ai.refl⟩
 .rintro i g d ⟨_,_,_,K⟩
  rw[cz,aJ,aD (K.get _ _ t (by simp;exact É E))]
 .rintro i e g d G ⟨c,rfl,f,K⟩
  obtain⟨x,A,rfl⟩:=fU G;have M:=(ZS.mp A).1;refine⟨[C1,oR o0,W2,G3,oR b,oS x,w4],rfl,?_⟩;refine bF (f.put (n:=x) (by omega)) λp N q H=>?_
  have:(aq (iY (af 4) (af 5) (aj (.bl true))) ao) [C1,oR o0,W2,G3,oR b,oS x,w4] d=.nx [C1,oR o0,W2,G3,oR b,oS x,w4] p:=by
   show sq (match oq _ _ _ _ with|some _=>gz.nx _ _|none=>.bad) _=_
   simp_all
  rw[this];refine⟨_,rfl,q.imp λy=>?_,K.trans H⟩
  rw[Ï,A];simp[or_assoc]
 .rintro g d ⟨c,rfl,f,K⟩
  rw[ZZ,ð]at f;refine bF f λI J O L=>?_
  exact⟨_,_,rfl,⟨_,J,by omega,L⟩,D.trans K⟩
theorem Gf(a:ε[b]?=some l):tl (ε.take b)+l.length=tl (ε.take (b+1)):=by
 unfold tl;rw[Ï,a];simp
theorem JF(R:Rw a b P ε)(t:a[w]?=some (.dK []))(B:ε.length<=1000)(C:tl ε<=800):
  ∃f c az,dy (dH 1) (bx (af 2)) Rt [C1,W2,oR b,G3,oR w,v4,w4] a=.nx [C1,f,oR b,G3,oR w,c,w4] az/\sk az w 900 (λx=>∃r∈ε,x∈r.tail)/\ai [w] a az:=by
 have u:=R.len
 have m:∀j∈P,j∉[w]:=λj p z=>by
  obtain⟨i,D⟩:=Ó.mp p;obtain⟨q,_,E⟩:=R.al.at' D
  simp_all
 have y:∀d,ai _ a d->Rw _ b P ε:=λd K=>R.xq K (by simpa using (λz=>by have:=R.ce;rw[z,t]at this;cases this)) m
 have s:bx (af 2) [C1,W2,oR b,G3,oR w,v4,w4] a=.ok (.seq (.ref b)) a:=by
  exact bj (by rw[aJ,aD R.ce])
 rw[dO,s,fu]
 refine cL (R:=λr=>∃f c az,r=.nx [C1,f,oR b,G3,oR w,c,w4] az/\sk az w _ _/\ai _ a az) (o:=P.map .ref)
  (λi l d=>∃f c,l=[C1,f,oR b,G3,oR w,c,w4]/\sk d w (tl (ε.take i)) (λx=>∃r∈ε.take i,x∈r.tail)/\ai [w] a d) ?_ ?_ ?_ _ 0 _ _ (by unfold fuel;simp;exact zr (B' (V' u.symm) B)) (Ì _) ⟨W2,v4,rfl,⟨[],t,by simp[tl],λn=>by simp[cI]⟩,ai.refl⟩
 .rintro i l d ⟨_,_,_,_,K⟩
  rw[cz,aJ,aD (y _ K).ce]
 .rintro i e l d F ⟨f,c,rfl,g,K⟩
  obtain⟨j,p,rfl⟩:=lK F;obtain⟨q,G,h⟩:=(y _ K).al.at' p;refine⟨[C1,oR j,oR b,G3,oR w,c,w4],rfl,?_⟩;have H:=Gf G
  have E:=by
    have:tl ε=tl (ε.take (i+1))+tl (ε.drop (i+1)):=by
     unfold tl;rw[←List.sum_append,←Ü,List.take_append_drop]
    omega
  obtain⟨A,I,J,k,L⟩:=JE h g (by omega)
  rw[J];refine⟨_,_,rfl,?_,K.trans L⟩;rw[H]at k;refine k.imp λx=>?_
  rw[Ï]
  simp_all
 .rintro l d ⟨f,c,rfl,g,K⟩
  rw[ZZ,←u,ð]at g;refine bF g λM N O Q=>?_
  exact⟨_,_,_,rfl,⟨_,N,eV (B' O C),Q⟩,K⟩
theorem JG(R:Rw a b P ε)(D:sk a w 900 (λx=>∃r∈ε,x∈r.tail))(n:∀r∈ε,r≠[])(E:ε.length<=1000):
  Ua [C1,W2,oR b,G3,oR w,v4,w4] a=.ok (.ref a.length) (a++[.lst ((ε.filterMap (freeOf ε)).map .str)]):=by
 have A:=R.len;refine bF D λd F I B=>?_
 have s:bx (af 2) [C1,W2,oR b,G3,oR w,v4,w4] a=.ok (.seq (.ref b)) a:=by
  exact bj (by rw[aJ,aD R.ce])
 obtain⟨J,f,e,rfl,rfl⟩:=kS (C:=false) (p:=m2 aQ (af 0) (aj (.int 0))) (Z:=m2 (aA .NotIn) (m2 aQ (af 0) (aj (.int 0))) (af 1)) (P:=[4]) (o:=P.map .ref) (λi g f=>g=((ε.take i).filterMap (freeOf ε)).map .str/\f=a) s ⟨rfl,rfl⟩
  (λi g f h=>by
   obtain⟨_,rfl⟩:=h;rw[cz,aJ,aD R.ce])
  (λi e g c G h=>by
   obtain⟨rfl,rfl⟩:=h;obtain⟨j,H,rfl⟩:=lK G;obtain⟨u,y,k⟩:=R.al.at' H;cases u with
   |nil=>exact absurd rfl (n [] (ZV y))
   |cons x t=>
    have z:aQ (.ref j) (.int 0) c=.ok _ c:=bC k (L2.cf rfl)
    have l:lD false (m2 (aA .NotIn) (m2 aQ (af 0) (aj (.int 0))) (af 1)) ([oR j]++fk [4] [C1,W2,oR b,G3,oR w,v4,w4]) c=.ok (!(cI d (.inr x)).isSome) c:=by
     show df ((aQ _ (.int 0) c).bind _)=_
     rw[z,aI]
     show df (aA .NotIn (.str x) (.ref w) c)=_
     rw[(NA (e:=x) (.inl F))];rfl
    by_cases m:∃r∈ε,x∈r.tail
    .rw[(B x).mpr m]at l
     refine⟨_,c,l,.inl ⟨rfl,?_,rfl⟩⟩;rw[Ï,y];simp[dR m]
    .have:(cI d (.inr x)).isSome=false:=by
      cases q:(cI d (.inr x)).isSome with
      |true=>exact absurd ((B x).mp q) m
      |false=>rfl
     rw[this]at l;refine⟨_,c,l,.inr ⟨rfl,.str x,c,?_,?_,rfl⟩⟩
     .simp_all
     .rw[Ï,y]
      simp[dS m]) (by simp;exact eV (B' (V' A.symm) E))
 rwa[ZZ,←A,ð]at e
theorem JH(R:Rw a b P ε)(n:a[w]?=some (.lst ((e::l).map .str)))(o:ε.length<=1000)(q:∀r∈ε,r.length<=1000):
  ∃h f,Ub [C1,W2,oR b,G3,w4,v4,oR w] a=.ok (.ref f.length) (f++[.lst (h.map .ref)])/\ai [] a f/\lJ f h (ε.map λr=>r.filter λx=>decide (x≠e))/\∀j∈h,a.length<=j:=by
 refine oC (by
  rw[dN];exact bj (by rw[aJ,aD R.ce])) R o (λj i s K A k g=>?_)
 have m:aQ _ (.int 0) _=.ok _ _:=bC (K.get _ _ n (by simp)) (L2.cf rfl)
 have c:=cO (u:=[oR j,oR w]) (p:=af 0) (Z:=m2 (aA .NotEq) (af 0) (m2 aQ (af 1) (aj _))) (C:=false) (M0:=bx (af 0)) (P:=[1]) (mh:=λd=>match d with|.str x=>decide (x≠e)|_=>false) (by
   exact bj (by rw[aJ,aD g])) (by rw[cz,aJ,aD g]) (λd t=>by
   obtain⟨x,B,rfl⟩:=è.mp t
   show df ((aQ _ _ _).bind _)=_
   rw[m,aI]
   by_cases z:x=e<;>simp[z]) (λd _ _=>rfl) (by have:=q _ k;simp;exact eV this)
 have y:((i.map D.str).filter (λd=>match d with|.str x=>decide (x≠e)|_=>false)).map (λd=>d)=(i.filter λx=>decide (x≠e)).map .str:=by
  rw[Ł,aaS];rfl
 rw[y]at c;exact⟨_,_,c,ai.app,av,K.len⟩
variable{z6:Option D}
theorem JI(R:Rw a b P ε)(n:ε.length<=1000):
  ∃f c,XH [C1,W2,oR b,G3,v4,w4,z6] a=.ok (.ref c.length) (c++[.lst (f.map .ref)])/\ai [] a c/\lJ c f (ne ε)/\∀j∈f,j∈P:=by
 have g:bx (af 2) [C1,W2,oR b,G3,v4,w4,z6] a=.ok (.seq _) a:=bj (by rw[aJ,aD R.ce])
 refine bS (qh (C:=false) (p:=af 0) (cap:=[]) g R n (λj h i K l k d=>by
  obtain⟨c,e,o⟩:=ne_nil (u:=[oR j]) (w:=0) rfl d;refine⟨_,?_,o⟩
  show df (m2 (aA .NotEq) (af 0) (mN bt ak) [oR j] _)=_
  rw[e];rfl) (λj h i K l k d=>⟨j,_,rfl,ai.refl,d,l⟩)) λf c e K m q=>?_
 rw[Ł]at m;exact⟨_,_,e,K,m,q⟩
theorem NX:(ne ε).length<=ε.length:=List.length_filter_le _ _
theorem NY:tl (ne ε)=tl ε:=by
 unfold tl ne
 induction ε with
 |nil=>rfl
 |cons a ε b=>
  grind
theorem JJ(h:l∈ε):l.length<=tl ε:=by
 unfold tl
 induction ε with
 |nil=>simp at h
 |cons a ε b=>
  grind
theorem JK(R:Rw a b P (ne ε))(I:a[w]?=some (.lst (l.map .str)))(J:w≠b)(K:w∉P)(X:ε.length<=900)(Y:tl ε<=800)(hp:l.length<=900):
  (free ε=none/\∃az,Ci [C1,W2,oR b,oR w,G3,v4,w4] a=.rt .non az/\ai [] a az) \/
  ∃n d L f M N u az,free ε=some n/\Ci [C1,W2,oR b,oR w,G3,v4,w4] a=.nx [C1,d,oR N,oR w,L,f,M] az/\Rw az N u (ne (ε.map (dG n)))/\az[w]?=some (.lst ((l++[n]).map .str))/\w≠N/\w∉u/\ai [w] a az:=by
 have x:=NX (ε:=ε);have y:=NY (ε:=ε);have lq:=b_ I;have lk:=b_ R.ce;have lj:=R.al.lt;have g1:(a++[Cell.dK []])[a.length]?=some (.dK []):=av;have Z:ai [] a (a++[Cell.dK []]):=ai.app;have r1:aH 4 c6 [C1,W2,oR b,oR w,G3,v4,w4] a=.nx [C1,W2,oR b,oR w,oR a.length,v4,w4] (a++[Cell.dK []]):=rfl;have l1:(a++[Cell.dK []]).length=a.length+1:=by simp
 generalize a++[Cell.dK []]=a0 at *;refine cB (JF (C1:=C1) (W2:=W2) (G3:=oR w) (v4:=v4) (w4:=w4) (R.keep Z) g1 (by omega) (B' (V' y) Y)) λd f c r2 O K2=>?_
 have p:ai [] a c:=ai.new Z K2 (by simp)
 have R2:=R.keep p;have b0:=p.get _ _ I (by simp)
 have G:=JG (C1:=C1) (W2:=d) (G3:=oR w) (v4:=f) (w4:=w4) R2 O (λr A=>(oG.mp A).2) (by omega)
 have g3:(c++[Cell.lst (((ne ε).filterMap (freeOf (ne ε))).map .str)])[c.length]?=some (.lst (((ne ε).filterMap (freeOf (ne ε))).map .str)):=av;have K3:ai [] c (c++[Cell.lst (((ne ε).filterMap (freeOf (ne ε))).map .str)]):=ai.app
 have hh:((ne ε).filterMap (freeOf (ne ε))).head?=free ε:=by
  rw[List.head?_filterMap,←FZ];rfl
 generalize (ne ε).filterMap (freeOf (ne ε))=fl at *
 have G:aH 6 Ua [C1,d,oR b,oR w,oR a.length,f,w4] c=.nx [C1,d,oR b,oR w,oR a.length,f,oR c.length] (c++[Cell.lst (fl.map .str)]):=by
  rw[dn,G];rfl
 generalize c++[Cell.lst (fl.map .str)]=g at *;have Q:=p.trans K3;have g4:(g++[Cell.lst []])[g.length]?=some (.lst (([]:List Str).map .str)):=av;have S:ai [] g (g++[Cell.lst []]):=ai.app
 have e4:(m2 (aA .Eq) (af 6) (mN bt ak)) [C1,d,oR b,oR w,oR a.length,f,oR c.length] g=.ok (.bl (decide (fl=[]))) (g++[Cell.lst []]):=by
  have e:(mN bt ak) [C1,d,oR b,oR w,oR a.length,f,oR c.length] g=.ok (.ref g.length) (g++[.lst []]):=by rw[je,cp,aI,gv,if_pos (a7 (by simp))]
  have:af 6 [C1,d,oR b,oR w,oR a.length,f,oR c.length] g=.ok (.ref c.length) g:=rfl;rw[kP,this,aI,e,aI,ng (S.get _ _ g3 (by simp)) g4]
 have l4:(g++[Cell.lst []]).length=g.length+1:=by simp
 generalize g++[Cell.lst []]=i at *;have o:=Q.trans S;cases fl with
 |nil=>
  refine .inl ⟨by rw[←hh];rfl,i,?_,o⟩
  unfold Ci;rw[au,r1,aU,au,r2,aU,au,G,aU,au,fS,e4];rfl
 |cons n t=>
  have B:free ε=some n:=by rw[←hh];rfl
  refine .inr ⟨n,?_⟩;have R4:=R.keep o;have q:=o.get _ _ I (by simp)
  have C:=S.get _ _ g3 (by simp)
  have r4:(dk (m2 (aA .Eq) (af 6) (mN bt ak)) (aq (bf (aj .non)) ao) ao) [C1,d,oR b,oR w,oR a.length,f,oR c.length] g=.nx [C1,d,oR b,oR w,oR a.length,f,oR c.length] i:=by
   rw[fS,e4];rfl
  have c0:aQ (.ref c.length) (.int 0) i=.ok (.str n) i:=bC C (L2.cf (b:=0) rfl);have d0:=fT (j:=.str n) q (by simp;exact eV hp)
  have r5:(cw (dU mz cm (af 3) (ae (m2 aQ (af 6) (aj (.int 0))) ak))) [C1,d,oR b,oR w,oR a.length,f,oR c.length] i=.nx [C1,d,oR b,oR w,oR a.length,f,oR c.length] (i.set w (.lst (l.map .str++[.str n]))):=by
   rw[dJ,jf (j:=.ref w) (H:=i) rfl (dc q)]
   simp_all
  have T:ai [w] i (i.set w (.lst (l.map .str++[.str n]))):=ai.set (by simp)
  have D:(i.set w (.lst (l.map .str++[.str n])))[w]?=some (.lst ((l++[n]).map .str)):=by rw[a_ q];simp
  have l5:(i.set w (.lst (l.map .str++[.str n]))).length=i.length:=by simp
  generalize i.set w (.lst (l.map .str++[.str n]))=s at *;have R5:Rw s b P (ne ε):=R4.xq T (by simpa using ZT J) (λj hj h=>K (by rw[←W'.mp h];exact hj))
  have U:=T.get _ _ C (by have:=p.len;simp;exact É (R' lq this))
  refine bS (JH (C1:=C1) (W2:=d) (G3:=oR w) (w4:=oR a.length) (v4:=f) R5 U (eV (B' x X)) (λr A=>by have:=JJ A;exact eV (B' (B' this (V' y)) Y))) λm k e6 K6 h6 j6=>?_
  rw[(Ċ λr A=>ue (yX B r (oG.mp A).1))]at h6
  have R7:Rw (k++[.lst (m.map .ref)]) k.length m ((ne ε).map (dG n)):=⟨av,h6.keep (fp:=[]) ai.app (by simp)⟩
  have K7:ai [] s (k++[Cell.lst (m.map .ref)]):=K6.trans ai.app
  have r6:aH 2 Ub [C1,d,oR b,oR w,oR a.length,f,oR c.length] s=.nx [C1,d,oR k.length,oR w,oR a.length,f,oR c.length] (k++[.lst (m.map .ref)]):=by
   rw[dn,e6];rfl
  have l6:=K6.len;have l7:(k++[Cell.lst (m.map .ref)]).length=k.length+1:=by simp
  generalize k++[Cell.lst (m.map .ref)]=e0 at *;refine bS (JI (C1:=C1) (W2:=d) (G3:=oR w) (v4:=oR a.length) (w4:=f) (z6:=oR c.length) R7 (by simp;exact eV (B' x X))) λE F e8 V h8 j8=>?_
  rw[F_]at h8;have f0:=o.len;have l8:=V.len;refine⟨d,oR a.length,f,oR c.length,F.length,E,F++[.lst (E.map .ref)],B,?_,⟨av,h8.keep (fp:=[]) ai.app (by simp)⟩,dP (V.get _ _ (K7.get _ _ D (by simp)) (by simp)),by omega,λz=>?_,((gw.up o).trans T).trans (gw.up ((K7.trans V).trans ai.app))⟩
  .unfold Ci
   rw[au,r1,aU,au,r2,aU,au,G,aU,au,r4,aU,au,r5,aU,au,r6,aU,au,dn,e8];rfl
  .have:=j6 w (j8 w z)
   exact Ã _ (Ý this (zi D))
theorem JL(h:ne ε=[]):Mg ε []:=.done λr a=>by
 by_cases z:r=[]
 .exact z
 .have:=oG.mpr ⟨a,z⟩
  simp_all
theorem Cj:∀(m:Nat) (Ω:aG) (f:List (List Str)) (a:List Str) (q k:Nat) (B:List Nat) (g c d e:Option D),tl f<m->Rw Ω k B (ne f)->Ω[q]?=some (.lst (a.map .str))->q≠k->q∉B->f.length<=900->a.length+tl f<=800 ->
  (∃az,iW JD Ci m [C1,g,oR k,oR q,c,d,e] Ω=.rt .non az/\ai [q] Ω az) \/
  ∃o h C i j l az,iW JD Ci m [C1,g,oR k,oR q,c,d,e] Ω=.nx [C1,h,C,oR q,i,j,l] az/\Mg f o/\az[q]?=some (.lst ((a++o).map .str))/\ai [q] Ω az:=by
 intro m
 induction m with
 |zero=>omega
 |succ m N=>
  intro Ω f a q k B g c d e T R K E F L z;refine bV (Gb (u:=[C1,g,oR k,oR q,c,d,e]) (w:=2) rfl R) λp y s=>?_
  have y:JD _ Ω=.ok _ p:=y
  by_cases G:ne f=[]
  .rw[decide_eq_false (by simpa using G)]at y
   refine .inr ⟨[],g,oR k,c,d,e,p,?_,JL G,by rw[í];exact s.get _ _ K (by simp),gw.up s⟩
   simp only[iW,y];rfl
  .rw[decide_eq_true (by simpa using G)]at y
   have step:iW JD Ci (m+1) [C1,g,oR k,oR q,c,d,e] Ω=(match Ci [C1,g,oR k,oR q,c,d,e] p with|.nx b az=>iW JD Ci m b az|.ct b az=>iW JD Ci m b az|.bk b az=>.nx b az|r=>r):=by
    simp only[iW,y];rfl
   rcases JK (G3:=c) (v4:=d) (w4:=e) (R.keep s) (s.get _ _ K (by simp)) E F L (B' (acG _ _) z) (eV (B' (ģ _ _) z))with ⟨_,x,M,A⟩|⟨n,h,i,j,l,O,H,x,I,M,R2,J,P,Q,A⟩
   .refine .inl ⟨x,?_,gw.up (s.trans A)⟩
    rw[step,M]
   .have S:=Ga (qf I)
    rcases N x _ _ q O H h i j l (by omega) R2 J P Q (by simpa using L) (by simp;omega)with ⟨Uc,e3,K3⟩|⟨o,b1,b2,b4,b5,b6,Uc,e3,M3,YI,K3⟩
    .refine .inl ⟨Uc,?_,((gw.up s).trans A).trans K3⟩
     simp_all
    .refine .inr ⟨n::o,b1,b2,b4,b5,b6,Uc,?_,.step (by
     obtain⟨t,z⟩:=qf I;exact⟨_,z,by simp⟩) I M3,by rw[YI];simp,((gw.up s).trans A).trans K3⟩
     simp_all
def JM(e:aV):Prop:=∀(b:aG) (k:Nat) (f:List Nat) (c:List (List Str)),Rw b k f c->c.length<=900->tl c<=800->∃d a,e [.ref k] b=.ok d a/\ai [] b a/\(d=.non\/∃o q,d=.ref q/\a[q]?=some (.lst (o.map .str))/\Mg c o/\b.length<=q)
theorem NZ:JM (a8 7 1 NW):=by
 intro h k G r R s t;rw[bu (by rfl)]
 have A:br 7 [D.ref k]=[oR k,none,none,none,none,none,none]:=rfl;rw[A]
 have i:bx (af 0) [oR k,none,none,none,none,none,none] h=.ok (.seq (.ref k)) h:=by
  exact bj (by rw[aJ,aD R.ce])
 refine bS (qh (C:=false) (p:=mN (bb .list) (ae (af 0) ak)) (cap:=[]) i R (eV s) (λj l a K B m c=>by
  obtain⟨b,e,g⟩:=ne_nil (u:=[oR j]) (w:=0) rfl c;refine⟨b,?_,g⟩
  show df (m2 (aA .NotEq) (af 0) (mN bt ak) [oR j] a)=_
  rw[e];rfl) (λj l a K B m c=>by
  refine⟨_,a++[.lst _],?_,ai.app,av,K.len⟩;exact dr c)) λd a H E n I=>?_
 rw[Ł]at n;have R2:Rw (a++[.lst _]) _ d (ne r):=⟨av,n.keep (fp:=[]) ai.app (by simp)⟩
 have g:ai [] h (a++[Cell.lst (d.map .ref)]):=E.trans ai.app;have F:(a++[Cell.lst (d.map .ref)]).length=a.length+1:=by simp
 have J:=n.lt
 have x:aH 2 (cb (mN (bb .list) (ae (af 0) ak)) false (m2 (aA .NotEq) (af 0) (mN bt ak)) (bx (af 0)) 0 []) [oR k,none,none,none,none,none,none] h=.nx [oR k,none,oR a.length,none,none,none,none] (a++[Cell.lst (d.map .ref)]):=by
  simp_all
 generalize a++[Cell.lst _]=b at *;have q:ai [] b (b++[Cell.lst []]):=ai.app;have y:(aH 3 (mN bt ak)) [oR k,none,oR a.length,none,none,none,none] b=.nx [oR k,none,oR a.length,oR b.length,none,none,none] (b++[Cell.lst []]):=by rfl
 have f:=g.len;rcases Cj fuel _ r [] _ _ d none none none none (by unfold fuel;exact zr t) (R2.keep q) av (É (V' F.symm)) (λz=>by grind) s (by simpa using t)with ⟨Ud,e4,K4⟩|⟨o,b1,b2,b4,b5,b6,Ud,e4,M4,YJ,K4⟩
 .refine⟨.non,Ud,?_,ai.new (g.trans q) K4 (by simpa using f),.inl rfl⟩
  unfold NW;rw[au,x,aU,au,y,aU,au];unfold pf;rw[e4];rfl
 .refine⟨_,Ud,?_,ai.new (g.trans q) K4 (by simpa using f),.inr ⟨o,_,rfl,by simpa using YJ,M4,f⟩⟩
  unfold NW;rw[au,x,aU,au,y,aU,au];unfold pf;rw[e4];rfl
structure oH(E:gf)(L:Str->List Str):Prop where
 nd:(nms E).Nodup
 el:∀(i:Nat) (p:Str×List Str),E[i]?=some p->p.2.Nodup/\p.2.length<=5/\∀x∈p.2,x∈(nms E).take i
 ln:∀(i:Nat) (p:Str×List Str),E[i]?=some p->∃o,Mg (p.2.map L++[p.2]) o/\L p.1=p.1::o
 len:E.length<=12
theorem oJ:nms (ξ.take b)=(nms ξ).take b:=by simp[nms,aaR]
variable{v9:Str×List Str}
theorem kW(h:ξ[b]?=some v9):(nms ξ)[b]?=some v9.1:=by simp[nms,h]
theorem rO(h:(nms ξ)[b]?=some e):∃r,ξ[b]?=some (e,r):=by
 simp only[nms,å,Å]at h
 simp_all
theorem JN(e:(nms ξ).Nodup)(h:ξ[b]?=some v9):de ξ v9.1=v9.2:=by
 have c:=kW h;obtain⟨f,a⟩:=Ó.mp (rN (kd (ZV c)));have d:=kW a;have:=(Ē ((ZS.mp d).1) e).mp (d.trans c.symm)
 grind
theorem jh(h:e∈l.take b):∃j,j<b/\l[j]?=some e:=by
 obtain⟨j,a⟩:=Ó.mp h;have c:=(ZS.mp a).1
 grind
namespace oH
variable{i0:Str->List Str}
theorem nil:oH [] i0:=⟨by simp[nms],by simp,by simp,by simp⟩
variable{e:Str}{ξ:gf}
theorem Ck(G:oH ξ i0)(b:e∈nms ξ):∃i:Nat,ξ[i]?=some (e,de ξ e):=by
 obtain⟨i,c⟩:=Ó.mp b;obtain⟨r,a⟩:=rO c;exact⟨i,by rw[a,JN G.nd a]⟩
theorem sub(G:oH ξ i0)(a:e∈nms ξ):∀x∈de ξ e,x∈nms ξ:=λx b=>by
 obtain⟨i,c⟩:=G.Ck a;exact Ī ((G.el i _ c).2.2 x b)
theorem gd(G:oH ξ i0):Gd ξ where
 nd:=G.nd
 el:=λn c=>G.sub c
 rk:=⟨λx=>(nms ξ).idxOf x,λn c x f=>by
  obtain⟨i,d⟩:=G.Ck c;obtain⟨j,g,e⟩:=jh ((G.el i _ d).2.2 x f)
  have h:(nms ξ).idxOf x=j:=by
   have:=(ZS.mp e);obtain⟨a,b⟩:=this;rw[←b];exact acH G.nd j a
  have k:(nms ξ).idxOf n=i:=by
   obtain⟨a,b⟩:=(ZS.mp (kW d));have b:(nms ξ)[i]=n:=b;rw[←b];exact acH G.nd i a
  simp_all⟩
 few:=G.len
 short:=λn c=>by
  obtain⟨i,d⟩:=G.Ck c;exact(G.el i _ d).2.1
 YH:=λn c=>by
  obtain⟨i,d⟩:=G.Ck c;exact(G.el i _ d).1
theorem YK(G:oH ξ i0):Rb ξ i0:=λn a=>by
 obtain⟨i,b⟩:=G.Ck a;exact G.ln i _ b
theorem take{E:gf}{L:Str->List Str}(G:oH E L)(k:Nat):oH (E.take k) L where
 nd:=by rw[oJ];exact G.nd.sublist (Ř _ _)
 el:=λi p h=>by
  have a:=(ZS.mp h).1;rw[î]at a;rw[ĳ (by omega)]at h
  obtain⟨b,c,d⟩:=G.el i p h;refine⟨b,c,λx e=>?_⟩
  rw[oJ,List.take_take,aaI (é (R' a (ϟ _ _)))];exact d x e
 ln:=λi p h=>by
  have a:=(ZS.mp h).1;rw[î]at a;rw[ĳ (by omega)]at h
  exact G.ln i p h
 len:=by have:=G.len;exact B' (List.length_take_le' _ _) this
theorem mem(G:oH ξ i0):∀(k i:Nat) (n:Str),i<k->(nms ξ)[i]?=some n->∀x∈i0 n,x∈nms ξ:=by
 intro k
 induction k with
 |zero=>simp
 |succ k q=>
  intro i n s b x c;obtain⟨r,d⟩:=rO b;obtain⟨o,M,f⟩:=G.ln i _ d;rw[f]at c;rcases Æ.mp c with z|z
  .rw[z];exact ZV b
  .obtain⟨g,l,e⟩:=AV M x z
   have a:=(G.el i _ d).2.2;rcases Ô.mp l with h|h
   .obtain⟨y,m,rfl⟩:=è.mp h
    obtain⟨j,t,p⟩:=jh (a y m)
    grind
   .rw[W'.mp h]at e
    exact Ī (a x e)
theorem short(G:oH ξ i0)(b:e∈nms ξ):(i0 e).length<=13:=by
 obtain⟨i,a⟩:=Ó.mp b;obtain⟨r,c⟩:=rO a;obtain⟨o,M,d⟩:=G.ln i _ c;have f:=vo (AW M) (λx g=>(G.mem _ i e (Ť _) a) x (by simp_all))
 have h:(nms ξ).length=ξ.length:=by simp[nms]
 have:=G.len;rw[d];simp
 grind
variable{l:List Str}
theorem Cm(G:oH ξ i0)(b:∀x∈l,x∈nms ξ)(d:l.length<=5):tl (l.map i0++[l])<=70:=by
 unfold tl
 have c:∀l:List _,(∀x∈l,x∈nms ξ)->((l.map i0).map Ŗ).sum<=13*l.length:=by
  intro l b
  induction l with
  |nil=>simp
  |cons a l e=>
   have f:=G.short (b a (by simp))
   grind
 grind
variable{ω:List Str}
theorem snoc(G:oH ξ i0)(j:e∉nms ξ)(k:ξ.length<12)(m:l.Nodup)(n:l.length<=5)(o:∀x∈l,x∈nms ξ)(M:Mg (l.map i0++[l]) ω):oH (ξ++[(e,l)]) (λx=>if x=e then e::ω else i0 x)/\∀x∈nms ξ,(if x=e then e::ω else i0 x)=i0 x:=by
 have b:∀x∈nms ξ,(if x=e then e::ω else i0 x)=i0 x:=λx c=>if_neg λ(z:x=e)=>j (z▸c)
 have d:nms (ξ++[(e,l)])=nms ξ++[e]:=by simp[nms]
 have f:(nms ξ).length=ξ.length:=by simp[nms]
 have a:∀(i:Nat) (p:Str×List Str),(ξ++[(e,l)])[i]?=some p->(i<ξ.length/\ξ[i]?=some p)\/(i=ξ.length/\p=(e,l)):=by
  intro i p h
  by_cases q:i<ξ.length
  .rw[Û q]at h
   exact .inl ⟨q,h⟩
  .rw[Ĉ (Ľ q)]at h
   have y:=(ZS.mp h).1
   grind
 refine⟨⟨?_,?_,?_,by simp;exact aaO k⟩,b⟩
 .rw[d]
  exact Ĕ.mpr ⟨G.nd,by simp,by grind⟩
 .intro i p h
  rcases a i p h with ⟨q,h⟩|⟨rfl,rfl⟩
  .obtain⟨r,s,g⟩:=G.el i p h
   refine⟨r,s,λx c=>?_⟩
   rw[d,acD (é (R' q (V' f.symm)))];exact g x c
  simp_all
 .intro i p h
  rcases a i p h with ⟨q,h⟩|⟨rfl,rfl⟩
  .obtain⟨t,u,w⟩:=G.ln i p h
   have g:=(G.el i p h).2.2;refine⟨t,?_,?_⟩
   .have:=Ċ λx c=>b x (Ī (g x c))
    rw[this];exact u
   .rw[b p.1 (ZV (kW h))]
    exact w
  .refine⟨ω,?_,by simp⟩
   have:=Ċ λx c=>b x (o x c)
   grind
end oH
def XI:EM:=(cb (m2 aQ (af 1) (af 0)) true (aj .non) (bx (af 5)) 0 [3])
def Ue(a:aV):EM:=(mN (a6 a) (ae (m2 (aY .Add) XI (mN bt (ae (af 5) ak))) ak))
def Ug:SM:=(dk (m2 (aA .Is) (af 6) (aj .non))
 (aq (aH 5 (mN bt ak))
 (aq (aH 6 (mN bt ak))
 ao))
 ao)
def Ru:EM:=(m2 (aY .Add) (mN bt (ae (m2 aQ (af 0) (af 4)) ak)) (af 6))
def Uh(a:aV):SM:=
 (aq (aH 5 (mN (bb .list) (ae (m2 aQ (af 1) (af 4)) ak)))
 (aq (aH 6 (Ue a))
 (aq Ug
 (aq (iY (af 2) (m2 aQ (af 0) (af 4)) (af 5))
 (aq (iY (af 3) (m2 aQ (af 0) (af 4)) Ru)
 ao)))))
def Rv(a:aV):SM:=
 (aq (aH 2 c6)
 (aq (aH 3 c6)
 (aq (dy (dH 4) (cQ (ae (mN (bb .len) (ae (af 0) ak)) ak))
 (Uh a))
 (aq (bf (mN hZ (ae (af 2) (ae (af 3) ak))))
 ao))))
def Tr(_:Nat):Prop:=True
theorem Cn(q:M0 u a=.ok (.seq (.ref b)) a)(r:a[b]?=some (.lst (l.map .str)))(s:∀x∈l,∃j,p ([oS x]++fk P u) a=.ok (.ref j) a/\a[j]?=some (.lst ((i0 x).map .str)))(t:l.length<=100):
  ∃c,cb p true (aj .non) M0 0 P u a=.ok (.ref a.length) (a++[.lst (c.map .ref)])/\lJ a c (l.map i0):=by
 obtain⟨A,w,y,c,rfl,k,rfl⟩:=m_ (p:=p) (Z:=aj .non) (P:=P) (o:=l.map .str) (λi g f=>∃c,g=c.map .ref/\lJ f c ((l.take i).map i0)/\f=a) q ⟨[],rfl,.nil,rfl⟩
  (λi g f h=>by
   obtain⟨_,_,_,rfl⟩:=h;rw[cz,aJ,aD r])
  (λi d g f m h=>by
   obtain⟨c,rfl,k,rfl⟩:=h;obtain⟨x,n,rfl⟩:=fU m;obtain⟨j,e,z⟩:=s x (ZV n);refine⟨_,_,e,c++[j],by simp,?_,rfl⟩
   rw[Ï,n,Ü];exact k.snoc z) (by simp;exact eV t)
 rw[ZZ,ð]at k;exact⟨c,y,k⟩
theorem yY(g:a[b]?=some (.lst (P.map .ref)))(d:lJ a P ε)(h:a[o0]?=some (.lst [.ref w]))(i:a[w]?=some (.lst (l.map .str)))(j:ε.length<=100):
  aY .Add (.ref b) (.ref o0) a=.ok (.ref a.length) (a++[.lst ((P++[w]).map .ref)])/\Rw (a++[.lst ((P++[w]).map .ref)]) a.length (P++[w]) (ε++[l]):=by
 have c:=d.len;have f:=jz g h (by simp;exact eV (B' (V' c.symm) j))
 have e:P.map D.ref++[.ref w]=(P++[w]).map .ref:=by simp
 rw[e]at f;exact⟨f,av,(d.snoc i).keep (fp:=[]) ai.app (by simp)⟩
variable{P4:EM}
theorem Co(c:P4 u a=.ok (.ref w) H)(d:p u H=.ok (.ref b) H)(f:Z u H=.ok (.str e) H)(g:H[b]?=some (.dK ς))(h:ς.length<=1000):iY p Z P4 u a=.nx u (H.set b (.dK (eO ς (.inr e) (.ref w)))):=by
 unfold iY;rw[c,fu,d,fu,f,fu,vt g h]
variable{E6 L5:Nat}
theorem JO{B:List (Key×D)}(hM:JM y)(hx:a[b]?=some (.lst (ω.map .str)))(R:Rw a w P ε)(G:oH ξ i0)(hE:nms ξ=ω.take E6)(b0:ω[E6]?=some e)(u0:ω.Nodup)(v0:ω.length<=12)(w0:ε[E6]?=some l)(x0:l.Nodup)(I:l.length<=5)(J:∀f∈l,f∈ω.take E6)(he:a[o0]?=some (.dK B))(f0:aX Tr a B ξ)(hl:a[L5]?=some (.dK ς))(L:aX Tr a ς (eB (nms ξ) i0))(g0:o0≠L5):
  ∃C o y0 z0 Y a0 az,Uh y [oR b,oR w,oR o0,oR L5,oI E6,C1,W2] a=.nx [oR b,oR w,oR o0,oR L5,oI E6,y0,z0] az/\ai [o0,L5] a az /\
   az[o0]?=some (.dK Y)/\aX Tr az Y (ξ++[(e,C)])/\az[L5]?=some (.dK a0)/\aX Tr az a0 (eB (nms (ξ++[(e,C)])) (λb=>if b=e then e::o else i0 b))/\oH (ξ++[(e,C)]) (λb=>if b=e then e::o else i0 b):=by
 have h0:=(ZS.mp b0).1
 have C0:ξ.length=E6:=by
  have:(nms ξ).length=ξ.length:=by simp[nms]
  rw[hE,î]at this;omega
 have c0:e∉nms ξ:=by
  rw[hE];intro hm;obtain⟨j,E,h⟩:=jh hm;have:=(Ē (Ā E h0) u0).mp (h.trans b0.symm);exact Ã _ (Ý (V' this.symm) E)
 rw[←hE]at J;refine bV (R.al.at w0) λj0 D0 l0=>?_
 have G0:aQ (.ref w) (.int E6) a=.ok (.ref j0) a:=bC R.ce (L2.cf (b:=E6) (by simp[D0]))
 have r1:(aH 5 (mN (bb .list) (ae (m2 aQ (af 1) (af 4)) ak))) [oR b,oR w,oR o0,oR L5,oI E6,C1,W2] a=.nx [oR b,oR w,oR o0,oR L5,oI E6,oR a.length,W2] (a++[.lst (l.map .str)]):=by
  rw[dn]
  have:(mN (bb .list) (ae (m2 aQ (af 1) (af 4)) ak)) [oR b,oR w,oR o0,oR L5,oI E6,C1,W2] a=.ok (.ref a.length) (a++[.lst (l.map .str)]):=by
   show(((aQ (.ref w) (.int E6) a).bind _).bind _)=_
   rw[G0];exact dr l0
  rw[this];rfl
 have g1:(a++[Cell.lst (l.map .str)])[a.length]?=some (.lst (l.map .str)):=av;have K1:ai [] a (a++[Cell.lst (l.map .str)]):=ai.app;generalize a++[Cell.lst (l.map .str)]=t at *;have I0:=K1.get _ _ hl (by simp)
 have m0:=L.keep K1 (by simp)
 have J0:bx (af 5) [oR b,oR w,oR o0,oR L5,oI E6,oR a.length,W2] t=.ok (.seq (.ref a.length)) t:=by
  rw[dN];exact bj (by rw[aJ,aD g1])
 refine bV (Cn (i0:=i0) (p:=m2 aQ (af 1) (af 0)) (P:=[3]) J0 g1 (λf hy=>by
  obtain⟨j,hv,_,E⟩:=m0.at (n:=f) (by rw[gx];exact J f hy)
  rw[kU (J f hy)]at E;exact⟨j,jg (.inl I0) hv,E⟩) (eV I)) λA e2 h2=>?_
 have g2:(t++[Cell.lst (A.map .ref)])[t.length]?=some (.lst (A.map .ref)):=av;have K2:ai [] t (t++[Cell.lst (A.map .ref)]):=ai.app;have e2:XI [oR b,oR w,oR o0,oR L5,oI E6,oR a.length,W2] t=.ok (.ref t.length) (t++[.lst (A.map .ref)]):=e2;generalize t++[Cell.lst (A.map .ref)]=k at *;have g3:(k++[Cell.lst [.ref a.length]])[k.length]?=some (.lst [.ref a.length]):=av;have K3:ai [] k (k++[Cell.lst [.ref a.length]]):=ai.app
 have e3:(mN bt (ae (af 5) ak)) [oR b,oR w,oR o0,oR L5,oI E6,oR a.length,W2] k=.ok (.ref k.length) (k++[.lst [.ref a.length]]):=by
  show bt [.ref a.length] k=_
  rw[gv,if_pos (a7 (by simp))]
 generalize k++[Cell.lst [.ref a.length]]=T at *;have U:=K2.trans K3;obtain⟨e4,R4⟩:=yY (K3.get _ _ g2 (by simp)) (h2.keep U (by simp)) g3 (U.get _ _ g1 (by simp)) (by simp;exact eV I)
 have K4:ai [] T (T++[Cell.lst ((A++[a.length]).map .ref)]):=ai.app;generalize T++[Cell.lst ((A++[a.length]).map .ref)]=K0 at *;refine aW (hM K0 T.length (A++[a.length]) _ R4 (by simp;exact eV I) (by have:=G.Cm J I;exact eV this)) λd i e5 K5 hd=>?_
 have r2:aH 6 (Ue y) [oR b,oR w,oR o0,oR L5,oI E6,oR a.length,W2] t=.nx [oR b,oR w,oR o0,oR L5,oI E6,oR a.length,some d] i:=by
  rw[dn];unfold Ue;rw[je,cy,kP,e2,aI,e3,aI,e4,aI,cp,aI,aI,BO,e5];rfl
 have L0:ai [] a i:=((K1.trans U).trans K4).trans K5;have M0:=((U.trans K4).trans K5).get _ _ g1 (by simp)
 have hI:∃C o c g m,Ug [oR b,oR w,oR o0,oR L5,oI E6,oR a.length,some d] i=.nx [oR b,oR w,oR o0,oR L5,oI E6,oR c,oR g] m/\ai [] i m/\m[c]?=some (.lst (C.map .str))/\m[g]?=some (.lst (o.map .str))/\C.Nodup/\C.length<=5/\(∀f∈C,f∈nms ξ)/\Mg (C.map i0++[C]) o:=by
  rcases hd with rfl|⟨o,q,rfl,hq,M,_⟩
  .refine⟨[],[],i.length,i.length+1,(i++[.lst []])++[.lst []],?_,ai.app.trans ai.app,dP av,?_,by simp,by simp,by simp,.done (by simp)⟩
   .have a1:(mN bt ak) [oR b,oR w,oR o0,oR L5,oI E6,oR a.length,some .non] i=.ok (.ref i.length) (i++[.lst []]):=by rw[je,cp,aI,gv,if_pos (a7 (by simp))]
    have a2:(mN bt ak) [oR b,oR w,oR o0,oR L5,oI E6,oR i.length,some .non] (i++[.lst []])=.ok (.ref (i.length+1)) ((i++[.lst []])++[.lst []]):=by
     rw[je,cp,aI,gv,if_pos (a7 (by simp))]
     simp
    unfold Ug
    simp_all
   .have:=av (a:=i++[Cell.lst []]) (C2:=.lst []) (H:=[])
    simpa using this
  .exact⟨l,o,a.length,q,i,rfl,ai.refl,M0,hq,x0,I,J,M⟩
 obtain⟨C,o,c,g,m,r3,K6,ha,hb,q1,q2,q3,M⟩:=hI;have F:=L0.trans K6;obtain⟨G',P0⟩:=G.snoc c0 (R' (Ý (V' C0) h0) v0) q1 q2 q3 M
 have N:∀(k:aG) (b5 b6:Option D),ai [o0,L5] a k->(m2 aQ (af 0) (af 4)) [oR b,oR w,oR o0,oR L5,oI E6,b5,b6] k=.ok (.str e) k:=λk b5 b6 K=>by
  have n1:b≠o0:=λz=>by
   rw[z,he]at hx;cases hx
  have n2:b≠L5:=λz=>by
   rw[z,hl]at hx;cases hx
  have Q0:=K.get _ _ hx (by simp[n1,n2])
  show aQ (.ref b) (.int E6) k=_
  exact bC Q0 (L2.cf (b:=E6) (by simp[b0]))
 have O:=F.get _ _ he (by simp)
 have R0:=F.get _ _ hl (by simp)
 have n0:=f0.keep F (by simp)
 have p0:=L.keep F (by simp)
 have S0:B.length<=1000:=by have:=f0.len;omega
 have T0:ς.length<=1000:=by have:=Ce L;omega
 have r4:=Co (u:=[oR b,oR w,oR o0,oR L5,oI E6,oR c,oR g]) (p:=af 2) (Z:=m2 aQ (af 0) (af 4)) (P4:=af 5) (a:=m) (H:=m) (w:=c) rfl rfl (N m _ _ (F.sub (by simp))) O S0
 have K7:ai [o0] m (m.set o0 (.dK (eO B (.inr e) (.ref c)))):=ai.set (by simp)
 have V0:=a_ (k9:=.dK (eO B (.inr e) (.ref c))) O;have r0:=(n0.put c0 (j:=c) (r:=C) trivial ha).cD K7 (λj E ds=>by rw[W'.mp E,O];simp)
 have s0:=p0.cD K7 (λj E ds=>by rw[W'.mp E,O];simp)
 have W0:=K7.get _ _ R0 (by simpa using ZT g0)
 have X0:=K7.get _ _ hb (by
  simp;exact λz=>by rw[z,O]at hb;cases hb)
 have d0:ai [o0,L5] a (m.set o0 (.dK (eO B (.inr e) (.ref c)))):=(F.sub (by simp)).trans (K7.sub (by simp))
 generalize m.set o0 (.dK (eO B (.inr e) (.ref c)))=s at *;have g8:(s++[Cell.lst [.str e]])[s.length]?=some (.lst [.str e]):=av;have K8:ai [] s (s++[Cell.lst [.str e]]):=ai.app
 have e8:(mN bt (ae (m2 aQ (af 0) (af 4)) ak)) [oR b,oR w,oR o0,oR L5,oI E6,oR c,oR g] s=.ok (.ref s.length) (s++[.lst [.str e]]):=by
  rw[je,cy,N s _ _ d0,aI,cp,aI,aI,gv,if_pos (a7 (by simp))]
 generalize s++[Cell.lst [.str e]]=x at *
 have b1:o.length<=13:=by
  have:=G'.short (e:=e) (by simp[nms])
  simp at this;exact aag this
 have e9:=jz g8 (K8.get _ _ X0 (by simp)) (by simp;omega)
 have ev:Ru [oR b,oR w,oR o0,oR L5,oI E6,oR c,oR g] s=.ok (.ref x.length) (x++[.lst ([.str e]++o.map .str)]):=by
  unfold Ru;have:af 6 [oR b,oR w,oR o0,oR L5,oI E6,oR c,oR g] x=.ok (.ref g) x:=rfl;rw[kP,e8,aI,this,aI,e9]
 have g9:(x++[Cell.lst ([.str e]++o.map .str)])[x.length]?=some (.lst ((e::o).map .str)):=av;have K9:ai [] s (x++[Cell.lst ([.str e]++o.map .str)]):=K8.trans ai.app;generalize x++[Cell.lst ([.str e]++o.map .str)]=Q at *;have V:=K9.get _ _ W0 (by simp)
 have r5:=Co (u:=[oR b,oR w,oR o0,oR L5,oI E6,oR c,oR g]) (p:=af 3) (Z:=m2 aQ (af 0) (af 4)) (P4:=Ru) (a:=s) (H:=Q) (w:=x.length) ev rfl (N Q _ _ (d0.trans (K9.sub (by simp)))) V T0
 have X:ai [L5] Q (Q.set L5 (.dK (eO ς (.inr e) (.ref x.length)))):=ai.set (by simp)
 have e0:nms (ξ++[(e,C)])=nms ξ++[e]:=by simp[nms]
 have t0:eB (nms ξ) i0++[(e,e::o)]=eB (nms (ξ++[(e,C)])) (λb=>if b=e then e::o else i0 b):=by
  rw[e0];unfold eB;rw[Ü]
  congr 1
  .refine Ċ λf hy=>?_
   show(f,i0 f)=(f,if f=e then e::o else i0 f)
   rw[P0 f hy]
  .simp
 have S:=((s0.keep K9 (by simp)).put (n:=e) (by rw[gx];exact c0) (j:=x.length) (r:=e::o) trivial g9).cD X (λj E ds=>by rw[W'.mp E,V];simp)
 rw[t0]at S;have Y0:∀j∈[L5],∀ds,Q[j]?≠some (.lst ds):=λj E ds=>by rw[W'.mp E,V];simp
 refine⟨C,o,oR c,oR g,_,_,_,?_,(d0.trans (K9.sub (by simp))).trans (X.sub (by simp)),X.get _ _ (K9.get _ _ V0 (by simp)) (by simpa using g0),(r0.keep K9 (by simp)).cD X Y0,a_ V,S,G'⟩
 unfold Uh;rw[au,r1,aU,au,r2,aU,au,r3,aU,au,r4,aU,au,r5];rfl
def JP(h:aV):Prop:=∀(f:aG) (x k:Nat) (j:List Nat) (b:List Str) (g:List (List Str)),f[x]?=some (.lst (b.map .str))->Rw f k j g->g.length=b.length->b.Nodup->b.length<=12->(∀i r,g[i]?=some r->r.Nodup/\r.length<=5/\∀y∈r,y∈b.take i) ->
 ∃E L e l c d a,h [.ref x,.ref k] f=.ok (.tup [.ref e,.ref l]) a/\ai [] f a/\nms E=b/\oH E L/\a[e]?=some (.dK c)/\aX Tr a c E/\a[l]?=some (.dK d)/\aX Tr a d (eB b L)/\e≠l
theorem N_(hM:JM y):JP (a8 7 2 (Rv y)):=by
 intro c x k js I rs T R M N p hr;rw[bu (by rfl)]
 have e0:br 7 [D.ref x,.ref k]=[oR x,oR k,none,none,none,none,none]:=rfl;rw[e0];have K1:ai [] c (c++[Cell.dK []]):=ai.app;have g1:(c++[Cell.dK []])[c.length]?=some _:=av;have u:(c++[Cell.dK []]).length=c.length+1:=by simp
 have r1:aH 2 c6 [oR x,oR k,none,none,none,none,none] c=.nx [oR x,oR k,oR _,none,none,none,none] _:=rfl;generalize c++[Cell.dK []]=a at *;have U:ai [] a (a++[Cell.dK []]):=ai.app;have g2:(a++[Cell.dK []])[a.length]?=some (.dK []):=av;have r2:aH 3 c6 [oR x,oR k,oR _,none,none,none,none] a=.nx [oR x,oR k,oR c.length,oR _,none,none,none] _:=rfl;generalize a++[Cell.dK []]=m at *;have q:=K1.trans U;have w:=q.get _ _ T (by simp)
 have R2:=R.keep q;have V:=b_ T;have X:=b_ R.ce;have lj:=R.al.lt;have z:c.length≠a.length:=Q' (V' u.symm);have A:=dq w;rw[ZZ]at A
 have O:cQ (ae (mN (bb .len) (ae (af 0) ak)) ak) [oR x,oR k,oR c.length,oR a.length,none,none,none] m=.ok (.ints 0 I.length) m:=by
  have:(mN (bb .len) (ae (af 0) ak)) [oR x,oR k,oR c.length,oR a.length,none,none,none] m=.ok _ m:=A;rw[tY,cy,this,aI,cp,aI,aI,wZ,if_pos (e_ (û _) (HF p)),aaz]
 unfold Rv;rw[au,r1,aU,au,r2,aU,au,dO,O,fu]
 refine cL (R:=λr=>∃E L e l f g h,gA (sq r _)=.ok (.tup [.ref e,.ref l]) h/\ai [] c h/\nms E=I/\oH E L/\h[e]?=some (.dK f)/\aX Tr h f E/\h[l]?=some (.dK g)/\aX Tr h g (eB I L)/\e≠l)
  (λi P b=>∃E L f g J B C,P=[oR x,oR k,oR _,oR _,J,B,C]/\ai [c.length,a.length] m b/\nms E=I.take i/\oH E L/\b[c.length]?=some (.dK f)/\aX Tr b f E/\b[a.length]?=some (.dK g)/\aX Tr b g (eB (nms E) L)) (λ_ _ _ _=>rfl) ?_ ?_ fuel 0 _ _ (by rw[cE];unfold fuel;exact zr (B' (ŀ _ _) p)) (Ì _) ⟨[],λ_=>[],[],[],none,none,none,rfl,ai.refl,rfl,oH.nil,(U.get _ _ g1 (by simp)),.nil,g2,.nil⟩
 .rintro i d P b hd ⟨E,L,f,g,J,B,C,rfl,K,t,G,Q,s,S,n⟩
  obtain⟨rfl,Y⟩:=ef hd;have F:=ç Y;have H:rs[i]?=some _:=ç (R' Y (V' M.symm));obtain⟨p1,p2,p3⟩:=hr i _ H;refine⟨[oR x,oR k,oR _,oR _,some _,B,C],rfl,?_⟩;rw[aaU];obtain⟨r',o,b5,b6,Z,a0,b0,e4,K4,q1,q2,q3,q4,G4⟩:=JO hM (K.get _ _ w (by simp;exact⟨Q' V,Q' (Ā V (V' u.symm))⟩)) (R2.xq K (by simp;exact⟨Q' X,Q' (Ā X (V' u.symm))⟩) (λj hj=>by have:=lj j hj;simp;exact⟨Q' this,Q' (Ā this (V' u.symm))⟩)) G t F N p H p1 p2 p3 Q s S n z
  rw[e4];refine⟨_,_,_,_,_,_,_,rfl,K.trans K4,?_,G4,q1,q2,q3,q4⟩;rw[Ï,F,←t];simp[nms]
 .rintro P b ⟨E,L,f,g,J,B,C,rfl,K,t,G,Q,s,S,n⟩
  rw[cE,ð]at t;rw[t]at n;refine⟨E,L,_,_,f,g,b,?_,ai.new q K (by simp;exact é (V' u.symm)),t,G,Q,s,S,n,z⟩
  rw[aU,au]
  have:(mN hZ (ae (af 2) (ae (af 3) ak))) [oR x,oR k,oR c.length,oR a.length,J,B,C] b=.ok (.tup [.ref c.length,.ref a.length]) b:=by
   rfl
  rfl
theorem cP.cZ{Ω:aG}{e:Nat}{b:List (Key×D)}{a:Nat}{c:List (Key×D)}(h:cP Ω a c)(he:cP Ω e b):cP (Ω.set e (.dF b)) a c:=by
 by_cases z:a=e
 .subst z
  have:c=b:=by
   rcases h with h|h<;>rcases he with he|he<;>rw[h]at he<;>cases he<;>rfl
  subst this;exact .inr (qb he)
 .exact h.imp (λy=>cU y z) λy=>cU y z
theorem bG.cZ{Ω:aG}{e h:Nat}{a:List (Key×D)}{E:gf}{P:Nat->Prop}{L:Str->List Str}(H:bG P Ω h E L)(b:cP Ω e a):bG P (Ω.set e (.dF a)) h E L:=by
 refine bD H λg l i k d m n o p=>?_
 have K:ai [e] Ω (Ω.set e (.dF a)):=ai.set (by simp)
 have f:∀j∈[e],∀c,Ω[j]?≠some (.lst c):=λj q c=>by rw[W'.mp q];exact b.nl c
 exact⟨g,l,i,_,cU d (λz=>b.ni _ _ (z▸d)),m.cZ b,n.cD K f,o.cZ b,p.cD K f⟩
theorem bG.hlt(H:bG u0 a b ξ i0):b<a.length:=by
 refine iH H λ_ _ _ _ z _=>b_ z
theorem bG.nl(H:bG u0 a b ξ i0):a[b]?≠some (.lst o):=by
 refine iH H λ_ _ _ _ z _=>?_
 rw[z];simp
def Rx(a:Key×D):D:=.tup [ly a.1,a.2]
theorem Gg(h:a[b]?=some (.dF ς)):et (.items b) a=some (ς.map Rx):=by simp only[et,h];rfl
def Ui(a:aV):SM:=
 (aq (aH 4 (mN (bb .list) (ae (af 3) ak)))
 (aq (cw (cC "House" "add" (λb=>a (b++[.non])) (af 1) (ae (af 2) (ae (af 4) ak))))
 (aq (cw (dU mz cm (af 4) (ae (aj (.str "zz")) ak)))
 ao)))
def Ry(a b:aV):SM:=
 (aq (aH 1 (mN (rl "House" a) ak))
 (aq (dy (gs [2,3]) (lB (af 0))
 (Ui b))
 (aq (bf (af 1))
 ao)))
theorem JQ(E:FY y)(H:bG Tr a b (ξ.take o0) i0)(G:oH ξ i0)(o:ξ[o0]?=some (e,l))(F:ub e)(I:a[w]?=some (.lst (l.map .str))):
  ∃p az,Ui y [C1,oR b,oS e,oR w,W2] a=.nx [C1,oR b,oS e,oR w,p] az/\bG Tr az b (ξ.take (o0+1)) i0/\ai [b] a az:=by
 have q:=(ZS.mp o).1;have h:=G.len;have d:ξ.take (o0+1)=ξ.take o0++[(e,l)]:=by rw[Ï,o];rfl
 have i:=G.take (o0+1);refine ur (G.el o0 _ o) λJ n V=>?_
 have n:l.length<=5:=n
 have K:(aH 4 (mN (bb .list) (ae (af 3) ak))) [C1,oR b,oS e,oR w,W2] a=.nx [C1,oR b,oS e,oR w,oR a.length] (a++[.lst (l.map .str)]):=by
  rw[dn];have:(mN (bb .list) (ae (af 3) ak)) [C1,oR b,oS e,oR w,W2] a=.ok _ _:=dr I;rw[this];rfl
 have A:(a++[Cell.lst (l.map .str)])[a.length]?=some _:=av;have r:ai [] a (a++[Cell.lst (l.map .str)]):=ai.app;have L:(a++[Cell.lst (l.map .str)]).length=a.length+1:=by simp
 have B:=(H.lt.imp (P':=λx=>x≠a.length) (by grind)).keep r
 have M:=H.hlt;generalize a++[Cell.lst _]=g at *
 refine bF (E g b _ _ i0 i0 _ e l B A F (by
  have:=i.nd;rw[d]at this;simp only[nms,Ü,ù,aaP]at this;have N:=(Ĕ.mp this).2.2;exact λz=>N e z e (by simp) rfl) (R' (Ý (List.length_take_le _ _) q) h) J n (by rwa[oJ]) (by rw[←d];exact i.gd) (by rw[←d];exact i.YK) (by
  rw[←d];intro m O;have:=i.short O;exact eV this) (λx P=>É (R' (V' L.symm) P))) λf X C s=>?_
 rw[←d]at C
 have Q:(cw (cC "House" "add" (λR=>y (R++[.non])) (af 1) (ae (af 2) (ae (af 4) ak)))) [C1,oR b,oS e,oR w,oR a.length] g=.nx [C1,oR b,oS e,oR w,oR a.length] f:=by
  rw[dJ,ke B rfl (by decide)]
  show cJ (Hg (y [.ref b,.str e,.ref _,.non] g)) _=_
  simp_all
 have t:=s.get _ _ A (by simp;exact É M)
 have S:=fT (j:=.str "zz") t (by simp;exact eV n)
 have T:(cw (dU mz cm (af 4) (ae (aj (.str "zz")) ak))) [C1,oR b,oS e,oR w,oR a.length] f=.nx [C1,oR b,oS e,oR w,oR a.length] (f.set a.length (.lst (l.map .str++[.str "zz"]))):=by
  rw[dJ,jf rfl (dc t)]
  simp_all
 have u:ai [a.length] f (f.set a.length (.lst (l.map .str++[.str "zz"]))):=ai.set (by simp)
 refine⟨oR a.length,_,?_,(C.Hu u t (by simp)).imp λ_ _=>trivial,⟨B' r.len (B' s.len u.len),λk c D U=>u.get k c (s.get k c (r.get k c D (by simp)) U) (by have:=b_ D;simp;exact Q' this)⟩⟩
 unfold Ui;rw[au,K,aU,au,Q,aU,au,T];rfl
def Cp(d:aV):Prop:=∀(c:aG) (e:Nat) (b:List (Key×D)) (E:gf) (L:Str->List Str),cP c e b->aX Tr c b E->oH E L->(∀n∈nms E,ub n) ->
 ∃h a,d [.ref e] c=.ok (.ref h) a/\bG Tr a h E L/\ai [e] c a/\a[e]?=some (.dF b)/\c.length<=h
theorem Ob(X:FX y)(Y:FY o3):Cp (a8 5 1 (Ry y o3)):=by
 intro l e m E L P Q G Z;rw[bu (by rfl)]
 have e0:br 5 [D.ref e]=[oR e,none,none,none,none]:=rfl;rw[e0];refine bF (X l L Tr) λb e1 H1 t=>?_
 have r1:(aH 1 (mN (rl "House" y) ak)) [oR e,none,none,none,none] l=.nx [oR e,oR l.length,none,none,none] b:=by
  simp_all
 have f:=P.keep t (by simp)
 have A:=Q.keep t (by simp)
 have H2:=H1.cZ f;have S:=qb f;have B:ai [e] b (b.set e (.dF m)):=ai.set (by simp)
 have C:=A.cD B (λj p T=>by rw[W'.mp p];exact f.nl T)
 have F:lB (af 0) [oR e,oR l.length,none,none,none] b=.ok _ _:=Ht f;have le:=P.lt;generalize b.set e _=H at *;have U:=G.len;have I:=Q.len;unfold Ry;rw[au,r1,aU,au,dO,F,fu]
 refine cL (R:=λr=>∃h g,gA (sq r _)=.ok (.ref h) g/\bG Tr g h E L/\ai [e] l g/\g[e]?=some _/\l.length<=h) (o:=m.map Rx)
  (λi u a=>∃J M w,u=[oR e,oR _,J,M,w]/\bG Tr a l.length (E.take i) L/\ai [l.length] H a) ?_ ?_ ?_ fuel 0 _ _ (by rw[ZZ];unfold fuel;omega) (Ì _) ⟨none,none,none,rfl,by simp_all,ai.refl⟩
 .rintro i u a ⟨_,_,_,_,_,K⟩
  exact Gg (K.get _ _ S (by simp;omega))
 .rintro i d u a q ⟨J,M,w,rfl,x,K⟩
  rw[å]at q;obtain⟨kv,N,rfl⟩:=Å.mp q;obtain⟨⟨n,r⟩,V,z,j,p,_,s⟩:=aE.get (C.cD K (λj p T=>by rw[W'.mp p];exact H2.nl)) N
  have O:Rx kv=.tup [.str n,.ref j]:=by
   unfold Rx;rw[z,p];rfl
  rw[O];refine⟨[oR e,oR _,oS n,oR j,w],rfl,?_⟩;obtain⟨a0,b0,e4,H4,K4⟩:=JQ Y x G V (Z n (ZV (kW V))) s;rw[e4];exact⟨_,_,_,rfl,H4,K.trans K4⟩
 .rintro u a ⟨J,M,w,rfl,x,K⟩
  rw[ZZ,←I,ð]at x;refine⟨_,a,rfl,x,⟨B' t.len (B' B.len K.len),λk c z hn=>K.get k c (B.get k c (t.get k c z (by simp)) hn) (by have:=b_ z;simp;exact Q' this)⟩,K.get _ _ S (by simp;omega),M' _⟩
theorem Gh:∃e,gJ e (pureOf (a8 8 3 qa)):=by
 have h:∀c t m:Int,∃r,0<=t->t<100000->0<m->0<=r/\r<m/\pureOf _ _=.ok _:=λc t m=>by
  by_cases d:0<=t/\t<100000/\0<m
  .refine bF (FK (T:=c) d.1 d.2.1 d.2.2) λr f g i=>⟨r,λ_ _ _=>⟨f,g,i⟩⟩
  .exact⟨0,λa b c=>absurd ⟨a,b,c⟩ d⟩
 exact⟨_,λc t m=>(h c t m).choose_spec⟩
def oK:SM:=
 (aq (dk (m2 (aA .Lt) (af 1) (mN (bb .len) (ae (af 0) ak)))
 (aq (bf (m2 aQ (af 0) (af 1)))
 ao)
 ao)
 (aq (bf (aj (.int 0)))
 ao))
theorem Oc(a:List Int):Nq (SC a)=true:=by
 show(a.map _).all _=true
 rw[Õ];intro d b;obtain⟨i,_,rfl⟩:=è.mp b;rfl
theorem Cq:lu (λb k=>b.getD k 0) (pureOf (a8 2 2 oK)):=by
 intro b k;have f:br 2 [SC b,D.int k]=[some _,some _]:=rfl
 have c:bb .len [SC b] []=.ok (.int b.length) []:=by
  show ay.ok _ []=_
  simp_all
 refine p_ (a:=[]) (by
  simp only[ļ,Oc,List.all_nil];rfl) ?_ rfl
 rw[bu (by rfl),f]
 by_cases h:k<b.length
 .have d:=by omega
  have e:L2.mu (b.map D.int) (k)=some (.int (b.getD k 0)):=L2.cf (by simp[h])
  have g:aQ (SC b) (.int k) []=.ok (.int (b.getD k 0)) []:=by
   show jK (ixs [] (some _) (.int k)) _=_
   rw[BP e];rfl
  simp[oK,c,d,g,-List.getD_eq_getElem?_getD]
 .have d:=by omega
  have e:b.getD k 0=0:=by simp_all
  show _=ay.ok (D.int (b.getD k 0)) []
  simp[oK,c,d]
def ZO(F:List D->Out Rs):EM:=(cb (mN (bY F) (ae (af 1) (ae (af 0) (ae (aj (.int 26)) ak)))) true (aj .non) (cQ (ae (aj (.int 8)) ak)) 0 [0])
def Gi(i j:Nat):EM:=(m2 (aY .Add) (dj (af i) false (af j) true (aj .non)) (dj (af i) true (aj .non) false (af j)))
theorem Cr(j:u[b]?=some (oR o0))(m:u[w]?=some (oI L5))(g:a[o0]?=some (.lst (l.map .str)))(n:l.length<=1000):∃k az,Gi b w u a=.ok (.ref k) az/\az[k]?=some (.lst ((l.drop L5++l.take L5).map .str))/\ai [] a az/\a.length<=k:=by
 have o:=Jq (w:=L5) g;have h:(a++[Cell.lst ((l.drop L5).map .str)])[a.length]?=some _:=av;have d:ai [] a (a++[Cell.lst ((l.drop L5).map .str)]):=ai.app;generalize a++[Cell.lst _]=c at *;have p:=j_ (w:=L5) (d.get _ _ g (by simp))
 have i:(c++[Cell.lst ((l.take L5).map .str)])[c.length]?=some _:=av;have e:ai [] _ (c++[Cell.lst ((l.take L5).map .str)]):=ai.app;generalize c++[Cell.lst _]=f at *;have q:=jz (e.get _ _ h (by simp)) i (by simp;omega)
 refine⟨_,f++[.lst _],?_,av,(d.trans e).trans ai.app,(d.trans e).len⟩;unfold Gi
 simp_all
theorem uf(a:List Str):(a.drop b++a.take b).Perm a:=by
 have:=(List.perm_append_comm (l₁:=a.drop b) (l₂:=a.take b))
 simp_all
def vu(S:Str):Prop:=S.cps.toList.length=8/\∀x∈S.cps.toList,97<=x/\x<=122
theorem JR(a c1 c2 c3 c4 b c d:Nat):Am .join (.str "") (.tup [.lst [.str (bO a),.str (bO c1),.str (bO c2),.str (bO c3),.str (bO c4),.str (bO b),.str (bO c),.str (bO d)]])=.ok (false,.str ⟨#[a,c1,c2,c3,c4,b,c,d]⟩):=rfl
def XJ(F:List D->Out Rs):EM:=(cb (m2 aQ (af 2) (mN (bY F) (ae (af 1) (ae (af 0) (ae (aj (.int 26)) ak))))) true (aj .non) (cQ (ae (aj (.int 8)) ak)) 0 [0,2])
def Rz(F:List D->Out Rs):EM:=(dU IX tF (aj (.str "")) (ae (XJ F) ak))
variable{E2:List D->Out Rs}{L4:Int->Int->Int->Int}{P7:Option D}{T:Int}
theorem JS(b:gJ L4 E2){a9 a10:Option D}:∃S az,Rz E2 [oI T,C1,oS abc,W2,G3,v4,w4,z6,P7,a9,a10] a=.ok (.str S) az/\vu S/\ai [] a az:=by
 have c:o_ 8=true:=e_ (by decide) (by decide)
 have h:=cO (a:=a) (H:=a) (u:=[oI T,C1,oS abc,W2,G3,v4,w4,z6,P7,a9,a10]) (p:=m2 aQ (af 2) (mN (bY E2) (ae (af 1) (ae (af 0) (ae (aj (.int 26)) ak))))) (C:=true) (Z:=aj .non) (M0:=cQ (ae (aj (.int 8)) ak)) (P:=[0,2]) (Y3:=.ints 0 8)
  (g:=λd=>match d with|.int j=>.str (bO (97+(L4 T j 26).toNat))|_=>.non) (by simp[c]) rfl (λd e=>rfl) (λd e _=>by
   obtain⟨i,l⟩:=Ó.mp e;obtain⟨rfl,m⟩:=ef l;obtain⟨q0,f,q⟩:=b T (0+(i)) 26 (û _) (by omega) (by decide)
   generalize (0)+(i:Int)=j at *;simp[fk,q,(wm q0 f)]) (by rw[cE];omega)
 rw[ú.mpr (by simp)]at h
 have n:∀j,0<=j->j<100000->97<=97+(L4 T j 26).toNat/\97+(L4 T j 26).toNat<=122:=λj o r=>by
  obtain⟨q0,f,_⟩:=b T j 26 o r (by decide)
  omega
 refine⟨⟨#[97+(L4 T (0+0) 26).toNat,97+(L4 T (0+1) 26).toNat,97+(L4 T (0+2) 26).toNat,97+(L4 T (0+3) 26).toNat,97+(L4 T (0+4) 26).toNat,97+(L4 T (0+5) 26).toNat,97+(L4 T (0+6) 26).toNat,97+(L4 T (0+7) 26).toNat]⟩,_,?_,?_,ai.app (H:=[.lst ((intsFrom 0 8).map λd=>match d with|.int j=>.str (bO (97+(L4 T j 26).toNat))|_=>.non)])⟩
 .unfold Rz
  rw[jf rfl rfl]
  have s:fA (a++[.lst ((intsFrom 0 8).map λd=>match d with|.int j=>.str (bO (97+(L4 T j 26).toNat))|_=>.non)]) 8 _=some (.lst [.str (bO (97+(L4 T (0+0) 26).toNat)),.str _,.str (bO (97+(L4 T (0+2) 26).toNat)),.str (bO (97+(L4 T (0+3) 26).toNat)),.str (bO (97+(L4 T (0+4) 26).toNat)),.str (bO (97+(L4 T (0+5) 26).toNat)),.str (bO (97+(L4 T (0+6) 26).toNat)),.str (bO (97+(L4 T (0+7) 26).toNat))]):=
   mW av rfl
  unfold XJ;rw[cy,h];simp only[aI,cp,tF,FF,wV,s,rH,JR,FC]
 .refine⟨rfl,λx k=>?_⟩
  simp only[Æ,Ϟ,or_false]at k;rcases k with rfl|rfl|rfl|rfl|rfl|rfl|rfl|rfl<;>exact n _ (by decide) (by decide)
noncomputable def lM(S:Str)(i:Nat):Str:=⟨(S.cps.toList.take (i+1)).toArray⟩
theorem Od(h:vu e){i:Nat}(a:i<8):ub (lM e i):=by
 have b:(lM e i).length=i+1:=by
  show(e.cps.toList.take _).toArray.size=_
  have:=h.1
  grind
 refine⟨by omega,B' (V' b) a,λx c=>h.2 x (Ī (i:=i+1) ?_)⟩
 have:(lM e i).cps.toList=e.cps.toList.take _:=rfl
 simp_all
theorem JT(h:vu e)(k:b<=8):((Y' b).map (lM e)).Nodup:=by
 refine acI.mpr (acJ (λ{a c} f g d i=>d ?_) (acK))
 have l:=Į.mp f;have m:=Į.mp g;have n:=h.1;have j:=congrArg (λz=>z.cps.toList.length) i
 simp only[lM,î]at j;omega
def Uj:EM:=(cb (dj (af 1) true (aj .non) false (m2 (aY .Add) (af 0) (aj (.int 1)))) true (aj .non) (cQ (ae (af 1) ak)) 0 [3])
theorem JU(h:vu e)(m:b<=13){a9 a10:Option D}:Uj [C1,oI b,W2,oS e,G3,v4,w4,z6,P7,a9,a10] a=.ok (.ref a.length) (a++[.lst (((Y' b).map (lM e)).map .str)]):=by
 have f:o_ (b)=true:=e_ (û _) (HF m);have k:e.length=8:=by simpa[ϗ]using h.1
 have l:small e.length=true:=a7 (eV (V' k))
 have n:=cO (a:=a) (H:=a) (u:=[C1,oI b,W2,oS e,G3,v4,w4,z6,P7,a9,a10]) (p:=dj (af 1) true (aj .non) false (m2 (aY .Add) (af 0) (aj (.int 1)))) (C:=true) (Z:=aj .non) (M0:=cQ (ae (af 1) ak)) (P:=[3]) (Y3:=.ints 0 b)
  (g:=λd=>match d with|.int j=>.str ⟨(ed e.cps.toList none (some (j+1))).toArray⟩|_=>.non) (by simp[f]) rfl (λd o=>rfl) (λd o _=>by
   obtain⟨i,q⟩:=Ó.mp o;obtain⟨rfl,r⟩:=ef q;simp[fk,l]) (by rw[cE];exact eV m)
 rw[ú.mpr (by simp),jn,Â]at n
 have c:((Y' b).map ((λd=>match d with|.int j=>D.str ⟨(ed e.cps.toList none (some (j+1))).toArray⟩|_=>.non) ∘ λ(i:Nat)=>D.int i))=((Y' b).map (lM e)).map .str:=by
  rw[Â];refine Ċ λi _=>?_
  show D.str ⟨_⟩=.str _
  rw[show(i)+1=((i+1:Nat):Int)by omega,vb]
  rfl
 rwa[c]at n
def sgn(f st:Int)(i:Nat):Nat:=97+((f+st*(i:Int))%26).toNat
def Uk:EM:=(cb (m2 aQ (af 2) (m2 (aY .Mod) (m2 (aY .Add) (af 1) (m2 (aY .Mult) (af 3) (af 0))) (aj (.int 26)))) true (aj .non) (cQ (ae (af 1) ak)) 0 [8,2,9])
variable{Q0:Int}
theorem JV(l:1<=Q0)(q:Q0<26)(f:b<=13):Uk [C1,oI b,oS abc,W2,G3,v4,w4,z6,oI T,oI Q0,P7] a=.ok (.ref a.length) (a++[.lst (((Y' b).map λi=>bO (sgn T Q0 i)).map .str)]):=by
 have c:o_ (b)=true:=e_ (û _) (HF f);have m:nM Q0=true:=kC (by omega) (by omega)
 have h:=cO (a:=a) (H:=a) (u:=[C1,oI b,oS abc,W2,G3,v4,w4,z6,oI T,oI Q0,P7]) (p:=m2 aQ (af 2) (m2 (aY .Mod) (m2 (aY .Add) (af 1) (m2 (aY .Mult) (af 3) (af 0))) (aj (.int 26)))) (C:=true) (Z:=aj .non) (M0:=cQ (ae (af 1) ak)) (P:=[8,2,9]) (Y3:=.ints 0 b)
  (g:=λd=>match d with|.int j=>.str (bO (97+((T+Q0*j)%26).toNat))|_=>.non) (by simp[c]) rfl (λd k=>rfl) (λd k _=>by
   obtain⟨i,n⟩:=Ó.mp k;obtain⟨rfl,o⟩:=ef n;generalize r:(0)+(i:Int)=j;have i2:nM j=true:=kC (by omega) (by omega)
   simp[fk,m,i2,(wm (T:=(T+Q0*j)%26) (by omega) (by omega))]) (by rw[cE];exact eV f)
 rw[ú.mpr (by simp),jn,Â]at h
 have e:((Y' b).map ((λd=>match d with|.int j=>D.str (bO (97+((T+Q0*j)%26).toNat))|_=>.non) ∘ λ(i:Nat)=>D.int i))=((Y' b).map λi=>bO (sgn T Q0 i)).map .str:=by
  rw[Â];exact Ċ λi _=>rfl
 rwa[e]at h
noncomputable def vv(S:Str)(a pl:Nat)(z:Str):Str:=((⟨(S.cps.toList.take pl).toArray⟩:Str)++z)++(⟨((S.cps.toList.drop (pl+1)).take (a - (pl+1))).toArray⟩:Str)
theorem vw:(vv e b w (bO o0)).cps.toList=(e.cps.toList.take w++[o0])++(e.cps.toList.drop (w+1)).take (b - (w+1)):=by
 unfold vv;rw[acL,acL];simp[bO]
theorem Ul(h:vu e)(hz:b<=8)(d:w<b)(a:97<=o0/\o0<=122):ub (vv e b w (bO o0)):=by
 have f:=h.1
 have c:(vv e b w (bO o0)).length=b:=by
  have:(vv e b w (bO o0)).length=(vv e b w (bO o0)).cps.toList.length:=by rfl
  rw[this,vw]
  grind
 refine⟨by omega,B' (V' c) hz,λx hx=>?_⟩
 rw[vw]at hx;simp only[Ô,W']at hx;rcases hx with (hx|rfl)|hx
 .exact h.2 x (Ī hx)
 .exact a
 .exact h.2 x (List.mem_of_mem_drop (Ī hx))
theorem Oe(h:vu e)(n:b<=13)(g:Q0=1\/Q0=3\/Q0=5\/Q0=7):((Y' b).map λi=>vv e w o0 (bO (sgn T Q0 i))).Nodup:=by
 refine acI.mpr (acJ (λ{a c} j k d l=>d ?_) (acK))
 have o:=Į.mp j;have p:=Į.mp k;have f:=congrArg (λz=>z.cps.toList) l
 simp only[vw]at f;have m:=by simpa using (List.append_cancel_left (List.append_cancel_right f))
 unfold sgn at m;rcases g with rfl|rfl|rfl|rfl<;>omega
def XO:EM:=(cb (m2 (aY .Add) (m2 (aY .Add) (dj (af 3) true (aj .non) false (af 2)) (af 0)) (dj (af 3) false (m2 (aY .Add) (af 2) (aj (.int 1))) false (af 1))) true (aj .non) (bx (af 10)) 0 [6,7,3])
theorem JW(h:vu e)(hz:b<=8)(s:w<b)(n:a[o0]?=some (.lst ((P.map bO).map .str)))(r:P.length<=1000):XO [C1,W2,G3,oS e,v4,w4,oI b,oI w,z6,P7,oR o0] a=.ok (.ref a.length) (a++[.lst ((P.map λc=>vv e b w (bO c)).map .str)]):=by
 have i:e.length=8:=by simpa[ϗ]using h.1
 have j:small e.length=true:=a7 (eV (V' i))
 have o:=cO (u:=[C1,W2,G3,oS e,v4,w4,oI b,oI w,z6,P7,oR o0]) (p:=m2 (aY .Add) (m2 (aY .Add) (dj (af 3) true (aj .non) false (af 2)) (af 0)) (dj (af 3) false (m2 (aY .Add) (af 2) (aj (.int 1))) false (af 1))) (C:=true) (Z:=aj .non) (M0:=bx (af 10)) (P:=[6,7,3])
  (g:=λd=>match d with|.str z=>.str (vv e b w z)|_=>.non) (by
   exact bj (by rw[aJ,aD n])) (by rw[cz,aJ,aD n]) (λd q=>rfl) (λd q _=>by
   obtain⟨z,k,rfl⟩:=è.mp q;obtain⟨c,_,rfl⟩:=è.mp k
   have c2:ed e.cps.toList (some ((w)+1)) (some (b))=(e.cps.toList.drop (w+1)).take (b - (w+1)):=by
    rw[show(w:Int)+1=((w+1:Nat))by omega,AU]
   have one:(bO c).length=1:=rfl
   have t:(⟨(e.cps.toList.take w).toArray⟩:Str).length<=8:=by
    show(e.cps.toList.take w).toArray.size<=8
    grind
   have x:(⟨((e.cps.toList.drop (w+1)).take (b - (w+1))).toArray⟩:Str).length<=8:=by
    show((e.cps.toList.drop _).take _).toArray.size<=8
    grind
   have l:small ((⟨(e.cps.toList.take w).toArray⟩:Str).length+(bO c).length)=true:=a7 (by omega)
   have m:small (((⟨(e.cps.toList.take w).toArray⟩)++bO c).length+(⟨((e.cps.toList.drop (w+1)).take (b - (w+1))).toArray⟩:Str).length)=true:=a7 (by rw[Str.length_append];omega)
   simp[fk,j,(vb _ _),c2,l,m,vv]) (by simp;exact eV r)
 rw[ú.mpr (by simp),Â,Â]at o
 have f:(P.map (((λd=>match d with|.str z=>D.str (vv e b w z)|_=>.non) ∘ D.str) ∘ bO))=(P.map λc=>vv e b w (bO c)).map .str:=by
  simp
 rwa[f]at o
def Lx(F:List D->Out Rs):SM:=(dk (kK (m2 (aA .LtE) (af 1) (aj (.int 8))) (m2 (aA .Eq) (mN (bY F) (ae (af 0) (ae (aj (.int 9)) (ae (aj (.int 4)) ak)))) (aj (.int 1))))
 (aq (aH 5 Uj)
 (aq (bf (Gi 5 4))
 ao))
 ao)
def RA(F:List D->Out Rs):SM:=
 (aq (aH 2 (aj (.str "abcdefghijklmnopqrstuvwxyz")))
 (aq (aH 3 (Rz F))
 (aq (aH 4 (mN (bY F) (ae (af 0) (ae (aj (.int 8)) (ae (af 1) ak)))))
 (aq (Lx F)
 (aq (aH 6 (m2 (aY .Add) (aj (.int 1)) (mN (bY F) (ae (af 0) (ae (aj (.int 10)) (ae (aj (.int 8)) ak))))))
 (aq (aH 7 (mN (bY F) (ae (af 0) (ae (aj (.int 11)) (ae (af 6) ak)))))
 (aq (aH 8 (mN (bY F) (ae (af 0) (ae (aj (.int 12)) (ae (aj (.int 26)) ak)))))
 (aq (aH 9 (m2 aQ (mN bt (ae (aj (.int 1)) (ae (aj (.int 3)) (ae (aj (.int 5)) (ae (aj (.int 7)) ak))))) (mN (bY F) (ae (af 0) (ae (aj (.int 13)) (ae (aj (.int 4)) ak))))))
 (aq (aH 10 Uk)
 (aq (bf XO)
 ao))))))))))
def JX(N:aV):Prop:=∀(d:aG) (c:Int) (m:Nat),1<=m->m<=13->∃(b:List Str) (q:Nat) (a:aG),b.Nodup/\(∀x∈b,ub x)/\b.length=m/\N [.int c,.int m] d=.ok (.ref q) a/\a[q]?=some (.lst (b.map .str))/\ai [] d a
theorem Of(n:gJ L4 E2):JX (a8 11 2 (RA E2)):=by
 intro J c m a0 F;rw[bu (by rfl)]
 have e0:br 11 [D.int c,.int m]=[oI c,oI m,none,none,none,none,none,none,none,none,none]:=rfl;rw[e0];refine ur (n c 8 (m:Int) (by decide) (by decide) (by omega)) λt0 t1 ht=>?_
 obtain⟨w0,w1,L⟩:=n c 9 4 (by decide) (by decide) (by decide)
 obtain⟨z0,z1,hz⟩:=n c 10 8 (by decide) (by decide) (by decide)
 generalize L4 c 8 (m:Int)=t at *;generalize L4 c 9 4=w at *;generalize L4 c 10 8=z at *;refine ur (n c 11 (1+z) (by decide) (by decide) (by omega)) λp0 p1 Z=>?_
 obtain⟨f0,f1,hf⟩:=n c 12 26 (by decide) (by decide) (by decide)
 obtain⟨s0,s1,hs⟩:=n c 13 4 (by decide) (by decide) (by decide)
 generalize L4 c 11 (1+z)=p at *;generalize L4 c 12 26=f at *;generalize L4 c 13 4=s at *;obtain⟨e,rfl⟩:∃e:Nat,(e:Int)=t:=⟨t.toNat,by omega⟩
 obtain⟨o,rfl⟩:∃o:Nat,(o:Int)=p:=⟨p.toNat,by omega⟩
 obtain⟨j,G⟩:∃j:Nat,(j:Int)=1+z:=⟨(1+z).toNat,by omega⟩
 rw[←G]at Z;refine aW (JS (a:=J) (T:=c) n (C1:=oI m) (W2:=none) (G3:=none) (v4:=none) (w4:=none) (z6:=none) (P7:=none) (a9:=none) (a10:=none)) λS d e1 E K1=>?_
 have r1:(aH 2 (aj (.str "abcdefghijklmnopqrstuvwxyz"))) [oI c,oI m,none,none,none,none,none,none,none,none,none] J=.nx [oI c,oI m,oS abc,none,none,none,none,none,none,none,none] J:=rfl
 have r2:(aH 3 (Rz E2)) [oI c,oI m,oS abc,none,none,none,none,none,none,none,none] J=.nx [oI c,oI m,oS abc,oS S,none,none,none,none,none,none,none] d:=by
  rw[dn,e1];rfl
 have r3:(aH 4 (mN (bY E2) (ae (af 0) (ae (aj (.int 8)) (ae (af 1) ak))))) [oI c,oI m,oS abc,oS S,none,none,none,none,none,none,none] d=.nx [oI c,oI m,oS abc,oS S,oI e,none,none,none,none,none,none] d:=by simp[ht]
 unfold RA;rw[au,r1,aU,au,r2,aU,au,r3,aU,au]
 by_cases hc:m<=8/\w=1
 .obtain⟨H,rfl⟩:=hc
  have e2:=JU (a:=d) E F (C1:=oI c) (W2:=oS abc) (G3:=oI e) (v4:=none) (w4:=none) (z6:=none) (P7:=none) (a9:=none) (a10:=none);have M:(d++[Cell.lst (((Y' m).map (lM S)).map .str)])[d.length]?=some (.lst (((Y' m).map (lM S)).map .str)):=av;have N:ai [] d (d++[Cell.lst (((Y' m).map (lM S)).map .str)]):=ai.app
  have hv:∀x∈(Y' m).map (lM S),ub x:=λx A=>by
   obtain⟨i,hi,rfl⟩:=è.mp A;exact Od E (by have:=Į.mp hi;exact R' this H)
  have hn:=JT (b:=m) E H;have I:((Y' m).map (lM S)).length=m:=by simp
  generalize (Y' m).map (lM S)=K at *;generalize d++[Cell.lst (K.map .str)]=g at *;refine bS (Cr (u:=[oI c,oI m,oS abc,oS S,oI e,oR d.length,none,none,none,none,none]) (b:=5) (w:=4) rfl rfl M (eV (B' (V' I) F))) λk r O P Q _=>?_
  have R:=uf (b:=e) K;refine⟨K.drop e++K.take e,k,r,R.nodup_iff.mpr hn,λx A=>hv x (R.mem_iff.mp A),by rw[R.length_eq];exact I,?_,P,(K1.trans N).trans Q⟩
  have q:((m:Int)<=8):=by omega
  have ra:aH 5 Uj [oI c,oI m,oS abc,oS S,oI e,none,none,none,none,none,none] d=.nx [oI c,oI m,oS abc,oS S,oI e,oR d.length,none,none,none,none,none] g:=by
   rw[dn,e2];rfl
  unfold Lx
  simp_all
 .have r4:Lx E2 [oI c,oI m,oS abc,oS S,oI e,none,none,none,none,none,none] d=.nx [oI c,oI m,oS abc,oS S,oI e,none,none,none,none,none,none] d:=by
   by_cases U:w=1
   .have q:¬ ((m:Int)<=8):=λh=>hc ⟨by omega,U⟩
    simp[Lx,L,q]
   .by_cases q:(m:Int)<=8
    .simp[Lx,L,q,U]
    .simp[Lx,L,q]
  have r5:(aH 6 (m2 (aY .Add) (aj (.int 1)) (mN (bY E2) (ae (af 0) (ae (aj (.int 10)) (ae (aj (.int 8)) ak)))))) [oI c,oI m,oS abc,oS S,oI e,none,none,none,none,none,none] d=.nx [oI c,oI m,oS abc,oS S,oI e,none,oI j,none,none,none,none] d:=by
   rw[G];simp[hz]
  have r6:(aH 7 (mN (bY E2) (ae (af 0) (ae (aj (.int 11)) (ae (af 6) ak))))) [oI c,oI m,oS abc,oS S,oI e,none,oI j,none,none,none,none] d=.nx [oI c,oI m,oS abc,oS S,oI e,none,oI j,oI o,none,none,none] d:=by simp[Z]
  have r7:(aH 8 (mN (bY E2) (ae (af 0) (ae (aj (.int 12)) (ae (aj (.int 26)) ak))))) [oI c,oI m,oS abc,oS S,oI e,none,oI j,oI o,none,none,none] d=.nx [oI c,oI m,oS abc,oS S,oI e,none,oI j,oI o,oI f,none,none] d:=by simp[hf]
  have N:ai [] d (d++[Cell.lst [.int 1,.int 3,.int 5,.int 7]]):=ai.app;have M:(d++[Cell.lst [.int 1,.int 3,.int 5,.int 7]])[d.length]?=some (.lst [.int 1,.int 3,.int 5,.int 7]):=av
  have B:∃l:Int,(l=1\/l=3\/l=5\/l=7)/\L2.mu [D.int 1,.int 3,.int 5,.int 7] s=oI l:=by
   have:s=0\/s=1\/s=2\/s=3:=by omega
   rcases this with rfl|rfl|rfl|rfl
   .exact⟨1,.inl rfl,rfl⟩
   .exact⟨3,.inr (.inl rfl),rfl⟩
   .exact⟨5,.inr (.inr (.inl rfl)),rfl⟩
   .exact⟨7,.inr (.inr (.inr rfl)),rfl⟩
  refine bV B λl B V=>?_
  have b0:=bC M V
  have r8:(aH 9 (m2 aQ (mN bt (ae (aj (.int 1)) (ae (aj (.int 3)) (ae (aj (.int 5)) (ae (aj (.int 7)) ak))))) (mN (bY E2) (ae (af 0) (ae (aj (.int 13)) (ae (aj (.int 4)) ak)))))) [oI c,oI m,oS abc,oS S,oI e,none,oI j,oI o,oI f,none,none] d=.nx [oI c,oI m,oS abc,oS S,oI e,none,oI j,oI o,oI f,oI l,none] (d++[Cell.lst [.int 1,.int 3,.int 5,.int 7]]):=by
   have U:(mN bt (ae (aj (.int 1)) (ae (aj (.int 3)) (ae (aj (.int 5)) (ae (aj (.int 7)) ak))))) [oI c,oI m,oS abc,oS S,oI e,none,oI j,oI o,oI f,none,none] d=.ok (.ref d.length) (d++[Cell.lst [.int 1,.int 3,.int 5,.int 7]]):=by
    rfl
   simp_all
  generalize d++[Cell.lst [.int 1,.int 3,.int 5,.int 7]]=g at *;have O:=JV (a:=g) (T:=f) (Q0:=l) (by omega) (by omega) F (C1:=oI c) (W2:=oS S) (G3:=oI e) (v4:=none) (w4:=oI j) (z6:=oI o) (P7:=none)
  have em:(Y' m).map (λi=>bO (sgn f l i))=((Y' m).map (sgn f l)).map bO:=by rw[Â];rfl
  rw[em]at O
  have X:∀x∈(Y' m).map (sgn f l),97<=x/\x<=122:=λx A=>by
   obtain⟨i,_,rfl⟩:=è.mp A;unfold sgn;omega
  have Y:(((Y' m).map (sgn f l)).map λx=>vv S j o (bO x)).Nodup:=by
   rw[Â];exact Oe E F B
  have I:((Y' m).map (sgn f l)).length=m:=by simp
  generalize (Y' m).map (sgn f l)=C at *;have P:(g++[Cell.lst ((C.map bO).map .str)])[g.length]?=some (.lst ((C.map bO).map .str)):=av;have Q:ai [] g (g++[Cell.lst ((C.map bO).map .str)]):=ai.app
  have r9:aH 10 Uk [oI c,oI m,oS abc,oS S,oI e,none,oI j,oI o,oI f,oI l,none] g=.nx [oI c,oI m,oS abc,oS S,oI e,none,oI j,oI o,oI f,oI l,oR g.length] (g++[Cell.lst ((C.map bO).map .str)]):=by
   rw[dn,O];rfl
  generalize g++[Cell.lst ((C.map bO).map .str)]=r at *;have e4:=JW E (show j<=8 by omega) (show o<j by omega) P (eV (B' (V' I) F)) (C1:=oI c) (W2:=oI m) (G3:=oS abc) (v4:=oI e) (w4:=none) (z6:=oI f) (P7:=oI l)
  refine⟨C.map λx=>vv S j o (bO x),r.length,r++[.lst ((C.map λx=>vv S j o (bO x)).map .str)],Y,λx A=>?_,by simpa using I,?_,av,((K1.trans N).trans Q).trans ai.app⟩
  .obtain⟨y,hy,rfl⟩:=è.mp A
   exact Ul E (by omega) (by omega) (X y hy)
  .rw[r4,aU,au,r5,aU,au,r6,aU,au,r7,aU,au,r8,aU,au,r9,aU,au,kR,e4]
   rfl
def ug(xs:List Str)(a i:Nat)(r:List Str):Prop:=r.Nodup/\r.length<=a/\∀y∈r,y∈xs.take i
def Um(F:List D->Out Rs):EM:=(cb (m2 aQ (af 2) (af 0)) false (m2 (aA .Eq) (mN (bY F) (ae (af 1) (ae (af 0) (ae (aj (.int 3)) ak)))) (aj (.int 0))) (cQ (ae (af 5) ak)) 0 [6,2])
theorem vx:∀{i:Nat},i<=l.length->(Y' i).map (λj=>l.getD j "")=l.take i:=by
 intro i a;apply aaJ;intro j;rw[å,List.getElem?_take]
 grind
theorem JY(h:gJ L4 E2)(s:a[b]?=some (.lst (l.map .str)))(f:w<=l.length)(n:l.length<=100):∃r:List Str,r.Sublist (l.take w)/\Um E2 [C1,W2,oR b,G3,v4,oI w,oI T,w4,z6] a=.ok (.ref a.length) (a++[.lst (r.map .str)]):=by
 have i:o_ (w)=true:=e_ (û _) (HF (B' f n))
 have o:=cO (a:=a) (H:=a) (u:=[C1,W2,oR b,G3,v4,oI w,oI T,w4,z6]) (p:=m2 aQ (af 2) (af 0)) (C:=false) (M0:=cQ (ae (af 5) ak)) (P:=[6,2]) (Y3:=.ints 0 w) (mh:=λd=>match d with|.int j=>(L4 T j 3==0)|_=>false)
  (g:=λd=>match d with|.int j=>.str (l.getD j.toNat "")|_=>.non) (by simp[i]) rfl (λd k=>by
   obtain⟨j,m⟩:=Ó.mp k;obtain⟨rfl,c⟩:=ef m;obtain⟨q0,x,q⟩:=h T (0+(j)) 3 (û _) (by omega) (by decide)
   generalize (0)+(j:Int)=t at *
   show df ((m2 (aA .Eq) (mN (bY E2) (ae (af 1) (ae (af 0) (ae (aj (.int 3)) ak)))) (aj (.int 0))) [oI t,oI T,oR b] a)=_
   simp[q]) (λd k _=>by
   obtain⟨j,m⟩:=Ó.mp k;obtain⟨rfl,c⟩:=ef m;refine bC s (L2.cf ?_);simp[show j<l.length by exact R' c f]) (by rw[cE];exact eV (B' f n))
 have e:(((intsFrom 0 w).filter λd=>match d with|.int j=>(L4 T j 3==0)|_=>false).map λd=>match d with|.int j=>D.str (l.getD j.toNat "")|_=>.non)=(((Y' w).filter λj:Nat=>(L4 T j 3==0)).map λj=>l.getD j "").map .str:=by
  rw[jn,aaS,Â,Â];rfl
 rw[e]at o;refine⟨_,?_,o⟩;rw[←vx f];exact(List.filter_sublist).map _
def Uo(F:List D->Out Rs):EM:=(kK (m2 (aA .NotEq) (af 7) (mN bt ak)) (m2 (aA .Eq) (mN (bY F) (ae (af 6) (ae (aj (.int 13)) (ae (aj (.int 3)) ak)))) (aj (.int 1))))
def RB(F:List D->Out Rs):SM:=(dk (Uo F)
 (aq (aH 8 (mN (bY F) (ae (af 6) (ae (aj (.int 14)) (ae (mN (bb .len) (ae (af 7) ak)) ak)))))
 (aq (aH 7 (Gi 7 8))
 ao))
 ao)
def Up(F C:List D->Out Rs):SM:=
 (aq (aH 6 (mN (bY C) (ae (af 0) (ae (m2 (aY .Add) (af 1) (af 5)) ak))))
 (aq (aH 7 (Um F))
 (aq (aH 7 (dj (af 7) true (aj .non) false (af 3)))
 (aq (cw (dU mz fO (af 7) ak))
 (aq (RB F)
 (aq (cw (dU mz cm (af 4) (ae (af 7) ak)))
 ao))))))
def RC(F C:List D->Out Rs):SM:=
 (aq (aH 4 (mN bt ak))
 (aq (dy (dH 5) (cQ (ae (mN (bb .len) (ae (af 2) ak)) ak))
 (Up F C))
 (aq (bf (af 4))
 ao)))
abbrev RV(a:List Int)(st x b q:Nat)(c d e f:Option D):bh:=[some (SC a),oI st,oR x,oI b,oR q,c,d,e,f]
theorem JZ(e:gJ L4 E2)(n:a[w]?=some (.lst (l.map .str)))(s:l.length<=100):∃(o:List Str) (f:Nat) (h:Option D) (az:aG),o.Perm l/\RB E2 [C1,W2,G3,v4,w4,z6,oI T,oR w,P7] a=.nx [C1,W2,G3,v4,w4,z6,oI T,oR f,h] az/\az[f]?=some (.lst (o.map .str))/\(f=w\/a.length<=f)/\ai [] a az:=by
 refine bV (ne_nil (u:=[C1,W2,G3,v4,w4,z6,oI T,oR w,P7]) (w:=7) rfl n) λc x g=>?_
 refine ur (e T 13 3 (by decide) (by decide) (by decide)) λH I y=>?_
 have d:=g.get _ _ n (by simp)
 have z:(m2 (aA .Eq) (mN (bY E2) (ae (af 6) (ae (aj (.int 13)) (ae (aj (.int 3)) ak)))) (aj (.int 1))) [C1,W2,G3,v4,w4,z6,oI T,oR w,P7] c=.ok (.bl (L4 T 13 3==1)) c:=by simp[y]
 have p:Uo E2 [C1,W2,G3,v4,w4,z6,oI T,oR w,P7] a=.ok (.bl (decide (l≠[])&&(L4 T 13 3==1))) c:=by
  unfold Uo;rw[wR,x,aI,ij]
  by_cases q:l=[]
  .subst q;rfl
  .rw[decide_eq_true q,Hn,z,Bool.true_and]
 by_cases A:l≠[]/\L4 T 13 3=1
 .have J:=acE.mpr A.1
  refine ur (e T 14 (l.length) (by decide) (by decide) (by omega)) λK L r=>?_
  obtain⟨t,B⟩:∃t:Nat,(t)=L4 T 14 (l.length):=⟨(L4 T 14 (l.length)).toNat,by omega⟩
  rw[←B]at r;have i:=dq d
  have C:(aH 8 (mN (bY E2) (ae (af 6) (ae (aj (.int 14)) (ae (mN (bb .len) (ae (af 7) ak)) ak))))) [C1,W2,G3,v4,w4,z6,oI T,oR w,P7] c=.nx [C1,W2,G3,v4,w4,z6,oI T,oR w,oI t] c:=by
   simp[i,r]
  refine bS (Cr (u:=[C1,W2,G3,v4,w4,z6,oI T,oR w,oI t]) (b:=7) (w:=8) rfl rfl d (eV s)) λk j E F G l4=>?_
  refine⟨_,k,oI t,j,uf l,?_,F,.inr (by have:=g.len;exact B' this l4),g.trans G⟩
  have m:(decide (l≠[])&&(L4 T 13 3==1))=true:=by simp_all
  unfold RB;rw[fS,p,m,ig,ij,jw,fu,au,C,aU,au,dn,E];rfl
 .refine⟨l,w,P7,c,by simp,?_,d,.inl rfl,g⟩
  have m:(decide (l≠[])&&(L4 T 13 3==1))=false:=by
   simp_all
  unfold RB;rw[fS,p,m];rfl
variable{F6:List Int}{Y8:List Int->Nat->Int}
theorem J6{C:List D->Out Rs}(o:gJ L4 E2)(x:lu Y8 C)(S:a[b]?=some (.lst (l.map .str)))(A:l.Nodup)(U:w<=l.length)(M:l.length<=100)(R:Rw a E6 P ε)(V:E6∉P)(B:ε.length<=100):
  ∃r j E F f az,ug l L5 w r/\Up E2 C (RV F6 o0 b L5 E6 (oI w) C1 W2 G3) a=.nx (RV F6 o0 b L5 E6 (oI w) E F f) az/\Rw az E6 (P++[j]) (ε++[r])/\E6∉P++[j]/\ai [E6] a az:=by
 have G:C [SC F6,.int ((o0:Int)+(w:Int))]=.ok (false,.int (Y8 F6 (o0+w))):=by
  exact x F6 (o0+w)
 have X:(aH 6 (mN (bY C) (ae (af 0) (ae (m2 (aY .Add) (af 1) (af 5)) ak)))) (RV F6 o0 b L5 E6 (oI w) C1 W2 G3) a=.nx (RV F6 o0 b L5 E6 (oI w) (some (.int (Y8 F6 (o0+w)))) W2 G3) a:=by
  simp[RV,G]
 generalize Y8 F6 (o0+w)=c at *;refine bV (JY (T:=c) o (C1:=some (SC F6)) (W2:=oI o0) (G3:=oI L5) (v4:=oR E6) (w4:=W2) (z6:=G3) S U M) λr k Y=>?_
 have m:r.length<=100:=by have:=k.length_le;rw[î]at this;exact B' (B' this (acM _ _)) M
 have Z:aH 7 (Um E2) (RV F6 o0 b L5 E6 (oI w) (oI c) W2 G3) a=.nx (RV F6 o0 b L5 E6 (oI w) (oI c) (oR a.length) G3) (a++[.lst (r.map .str)]):=by
  rw[dn,Y];rfl
 have g2:(a++[Cell.lst (r.map .str)])[a.length]?=some (.lst (r.map .str)):=av;have N:ai [] a (a++[Cell.lst (r.map .str)]):=ai.app;generalize a++[Cell.lst (r.map .str)]=e at *;have s3:=j_ (w:=L5) g2
 have r3:aH 7 (dj (af 7) true (aj .non) false (af 3)) (RV F6 o0 b L5 E6 (oI w) (oI c) (oR a.length) G3) e=.nx (RV F6 o0 b L5 E6 (oI w) (oI c) (oR e.length) G3) (e++[.lst ((r.take L5).map .str)]):=by
  simp_all
 have I:(e++[Cell.lst ((r.take L5).map .str)])[e.length]?=some (.lst ((r.take L5).map .str)):=av;have K3:ai [] e (e++[Cell.lst ((r.take L5).map .str)]):=ai.app;generalize e++[Cell.lst ((r.take L5).map .str)]=g at *;have J:=tZ I
 have r4:(cw (dU mz fO (af 7) ak)) (RV F6 o0 b L5 E6 (oI w) (oI c) (oR e.length) G3) g=.nx (RV F6 o0 b L5 E6 (oI w) (oI c) (oR e.length) G3) (g.set e.length (.lst ((r.take L5).map D.str).reverse)):=by
  rw[dJ,jf (j:=.ref e.length) (H:=g) rfl (dc I),cp,aI,J];rfl
 have g4:(g.set e.length (.lst ((r.take L5).map D.str).reverse))[e.length]?=some (.lst ((r.take L5).reverse.map .str)):=by rw[List.map_reverse];exact a_ I
 have K4:ai [] a (g.set e.length (.lst ((r.take L5).map D.str).reverse)):=ai.new (N.trans K3) (ai.set (fp:=[e.length]) (by simp)) (by simpa using N.len)
 refine bD (JZ (T:=c) o (C1:=some (SC F6)) (W2:=oI o0) (G3:=oR b) (v4:=oI L5) (w4:=oR E6) (z6:=oI w) (P7:=G3) g4 (by rw[acN,î];exact B' (acM _ _) m)) λO d f i n r5 g5 hw K5=>?_
 have K:a.length<=d:=by
  grind
 have p:=K4.trans K5;have u:=R.keep p;have hL:=R.len;have a0:=fT (j:=.ref d) u.ce (by simp;exact eV (B' (V' hL.symm) B))
 have r6:(cw (dU mz cm (af 4) (ae (af 7) ak))) (RV F6 o0 b L5 E6 (oI w) (oI c) (oR d) f) i=.nx (RV F6 o0 b L5 E6 (oI w) (oI c) (oR d) f) (i.set E6 (.lst (P.map .ref++[.ref d]))):=by
  rw[dJ,jf (j:=.ref E6) (H:=i) rfl (dc u.ce)]
  simp_all
 have lq:=b_ R.ce;have Q:ai [E6] i (i.set E6 (.lst (P.map .ref++[.ref d]))):=ai.set (by simp)
 have q:E6∉P++[d]:=λz=>by
  rcases Ô.mp z with z|z
  .exact V z
  .have:=W'.mp z;exact Ã _ (Ý (V' this.symm) (R' lq K))
 have s:ug l L5 w O:=by
  have t:(r.take L5).Sublist (l.take w):=(Ř _ _).trans k;have L:(r.take L5).Nodup:=(A.sublist (Ř _ _)).sublist t;refine⟨n.nodup_iff.mpr (List.pairwise_reverse.mpr (aen (λh=>ZT h) L)),?_,λy hy=>?_⟩
  .rw[n.length_eq,acN,î];exact ϟ _ _
  .exact t.subset (List.mem_reverse.mp (n.mem_iff.mp hy))
 refine⟨O,d,oI c,oR d,f,_,s,?_,⟨?_,?_⟩,q,(gw.up p).trans Q⟩
 .unfold Up
  rw[au,X,aU,au,Z,aU,au,r3,aU,au,r4,aU,au]
  simp_all
 .rw[a_ u.ce];simp
 .exact(u.al.snoc g5).keep Q (λj hj z=>q (by rw[←W'.mp z];exact hj))
def J_(f:aV):Prop:=∀(c:aG) (g:List Int) (h x e:Nat) (b:List Str),c[x]?=some (.lst (b.map .str))->b.Nodup->b.length<=12 ->
 ∃k j d a,f [SC g,.int h,.ref x,.int e] c=.ok (.ref k) a/\Rw a k j d/\d.length=b.length/\(∀(i:Nat) (r:List Str),d[i]?=some r->ug b e i r)/\ai [] c a
theorem Og{C:List D->Out Rs}(E:gJ L4 E2)(F:lu Y8 C):J_ (a8 9 4 (RC E2 C)):=by
 intro a m l x e y O G f;rw[bu (by rfl)]
 have T:br 9 [SC m,.int l,.ref x,.int e]=[some _,oI l,oR x,oI e,none,none,none,none,none]:=rfl;rw[T];have U:(a++[Cell.lst []])[a.length]?=some _:=av;have P:ai [] a (a++[Cell.lst []]):=ai.app;have V:(aH 4 (mN bt ak)) [some (SC m),oI l,oR x,oI e,none,none,none,none,none] a=.nx (RV m l x e a.length none none none none) (a++[Cell.lst []]):=by rfl
 have X:=b_ O;generalize a++[Cell.lst []]=q at *;have s:=P.get _ _ O (by simp)
 have t:=dq s;rw[ZZ]at t
 have H:cQ (ae (mN (bb .len) (ae (af 2) ak)) ak) (RV m l x e a.length none none none none) q=.ok (.ints 0 y.length) q:=by
  have:(mN (bb .len) (ae (af 2) ak)) (RV m l x e a.length none none none none) _=.ok _ _:=t;rw[tY,cy,this,aI,cp,aI,aI,wZ,if_pos (e_ (û _) (HF f)),aaz]
 unfold RC;rw[au,V,aU,au,dO,H,fu]
 refine cL (R:=λr=>∃k n b o,gA (sq r _)=.ok (.ref k) o/\Rw o k n b/\b.length=y.length/\(∀(i:Nat) (r:List _),b[i]?=some r->ug y e i r)/\ai [] a o)
  (λi I g=>∃n b J z A B,I=RV m l x e _ J z A B/\Rw g _ n b/\b.length=i/\(∀(i:Nat) (r:List _),b[i]?=some r->ug y e i r)/\a.length∉n/\ai [a.length] _ g) (λ_ _ _ _=>rfl) ?_ ?_ _ 0 _ _ (by rw[cE];unfold fuel;exact zr (B' (ŀ _ _) f)) (Ì _) ⟨[],[],_,_,_,_,rfl,⟨U,.nil⟩,rfl,by simp,by simp,ai.refl⟩
 .rintro i d I g Y ⟨n,b,J,z,A,B,rfl,R,c,p,Q,K⟩
  obtain⟨rfl,S⟩:=ef Y;rw[aaU];refine⟨RV m l x e _ (oI i) z A B,rfl,?_⟩;obtain⟨r,j,b6,b7,b8,Z,h1,e3,R3,L,K3⟩:=J6 (w:=i) E F (K.get _ _ s (by simp;exact Q' X)) G (é S) (eV f) R Q (LI (R' (Ý (V' c) S) f))
  rw[e3];refine⟨_,_,_,_,_,_,rfl,R3,by simp[c],λM r' h=>?_,L,K.trans K3⟩
  by_cases u:M<b.length
  .rw[Û u]at h
   exact p M r' h
  .rw[Ĉ (Ľ u)]at h
   have h0:=by
    have:=(ZS.mp h).1;simp at this;omega
   rw[h0]at h;have N:=by simpa using h
   subst N;obtain rfl:M=i:=by omega
   exact h1
 .rintro I g ⟨n,b,J,z,A,B,rfl,R,c,p,Q,K⟩
  rw[cE]at c;exact⟨_,n,b,_,rfl,R,c,p,ai.new P K (by simp)⟩
def Uq(C:List D->Out Rs):EM:=(m2 aQ (mN bt (ae (aj (.int 4)) (ae (aj (.int 5)) (ae (aj (.int 6)) (ae (aj (.int 7)) (ae (aj (.int 4)) (ae (aj (.int 5)) (ae (aj (.int 6)) (ae (aj (.int 7)) (ae (aj (.int 1)) (ae (aj (.int 2)) (ae (aj (.int 3)) (ae (aj (.int 12)) ak))))))))))))) (m2 (aY .Mod) (mN (bY C) (ae (af 0) (ae (aj (.int 0)) ak))) (aj (.int 12))))
theorem Ka(c:lu Y8 E2)(f:u[0]?=some (some (SC F6))):∃(m:Nat) (az:aG),1<=m/\m<=12/\Uq E2 u a=.ok (.int m) az/\ai [] a az:=by
 have g:E2 [SC F6,.int 0]=.ok (false,.int (Y8 F6 0)):=c F6 0
 have h:(mN bt (ae (aj (.int 4)) (ae (aj (.int 5)) (ae (aj (.int 6)) (ae (aj (.int 7)) (ae (aj (.int 4)) (ae (aj (.int 5)) (ae (aj (.int 6)) (ae (aj (.int 7)) (ae (aj (.int 1)) (ae (aj (.int 2)) (ae (aj (.int 3)) (ae (aj (.int 12)) ak))))))))))))) u a=.ok (.ref a.length) (a++[.lst [.int 4,.int 5,.int 6,.int 7,.int 4,.int 5,.int 6,.int 7,.int 1,.int 2,.int 3,.int 12]]):=by
  show bt [.int 4,.int 5,.int 6,.int 7,.int 4,.int 5,.int 6,.int 7,.int 1,.int 2,.int 3,.int 12] a=_
  rw[gv,if_pos (a7 (by simp))]
 have i:(a++[Cell.lst [.int 4,.int 5,.int 6,.int 7,.int 4,.int 5,.int 6,.int 7,.int 1,.int 2,.int 3,.int 12]])[a.length]?=some (.lst [.int 4,.int 5,.int 6,.int 7,.int 4,.int 5,.int 6,.int 7,.int 1,.int 2,.int 3,.int 12]):=av;have j:ai [] a (a++[Cell.lst [.int 4,.int 5,.int 6,.int 7,.int 4,.int 5,.int 6,.int 7,.int 1,.int 2,.int 3,.int 12]]):=ai.app;generalize a++[Cell.lst [.int 4,.int 5,.int 6,.int 7,.int 4,.int 5,.int 6,.int 7,.int 1,.int 2,.int 3,.int 12]]=b at *
 have k:(m2 (aY .Mod) (mN (bY E2) (ae (af 0) (ae (aj (.int 0)) ak))) (aj (.int 12))) u b=.ok (.int (Y8 F6 0%12)) b:=by
  simp[f,g]
 have l:∃m:Nat,1<=m/\m<=12/\L2.mu [D.int 4,.int 5,.int 6,.int 7,.int 4,.int 5,.int 6,.int 7,.int 1,.int 2,.int 3,.int 12] (Y8 F6 0%12)=oI m:=by
  have o:0<=Y8 F6 0%12:=Ϝ _ (by omega)
  have n:Y8 F6 0%12<12:=ϝ _ (by omega)
  generalize Y8 F6 0%12=s at *;have:s=0\/s=1\/s=2\/s=3\/s=4\/s=5\/s=6\/s=7\/s=8\/s=9\/s=10\/s=11:=by omega
  rcases this with rfl|rfl|rfl|rfl|rfl|rfl|rfl|rfl|rfl|rfl|rfl|rfl
  .exact⟨4,by omega,by omega,rfl⟩
  .exact⟨5,by omega,by omega,rfl⟩
  .exact⟨6,by omega,by omega,rfl⟩
  .exact⟨7,by omega,by omega,rfl⟩
  .exact⟨4,by omega,by omega,rfl⟩
  .exact⟨5,by omega,by omega,rfl⟩
  .exact⟨6,by omega,by omega,rfl⟩
  .exact⟨7,by omega,by omega,rfl⟩
  .exact⟨1,by omega,by omega,rfl⟩
  .exact⟨2,by omega,by omega,rfl⟩
  .exact⟨3,by omega,by omega,rfl⟩
  .exact⟨12,by omega,by omega,rfl⟩
 obtain⟨m,m1,d,e⟩:=l;refine⟨m,b,m1,d,?_,j⟩;unfold Uq;rw[kP,h,aI,k,aI];exact bC i e
structure Hand(Ω:aG)(x e l:Nat)(xs:List Str)(E:gf)(L:Str->List Str):Prop where
 nx:Ω[x]?=some (.lst (xs.map .str))
 pos:1<=xs.length
 vn:∀n∈xs,ub n
 eq:nms E=xs
 YL:oH E L
 el:∃XP,cP Ω e XP/\aX Tr Ω XP E
 ln:∃XQ,cP Ω l XQ/\aX Tr Ω XQ (eB xs L)
 ne:e≠l
theorem Hand.keep{Ω az:aG}{xs:List Str}{e l x:Nat}{E:gf}{L:Str->List Str}(h:Hand Ω x e l xs E L)(K:ai [] Ω az):Hand az x e l xs E L:=by
 obtain⟨d,f,g,i,j,⟨a,k,m⟩,⟨b,n,o⟩,c⟩:=h;exact⟨K.get _ _ d (by simp),f,g,i,j,⟨a,k.keep K (by simp),m.keep K (by simp)⟩,⟨b,n.keep K (by simp),o.keep K (by simp)⟩,c⟩
theorem Ct(s:Cp y)(H:Hand a o0 b w l ξ i0):∃h az,y [.ref b] a=.ok (.ref h) az/\bG Tr az h ξ i0/\Hand az o0 b w l ξ i0/\a.length<=az.length:=by
 obtain⟨m,t,n,o,p,⟨c,f,q⟩,⟨g,u,x⟩,d⟩:=H;obtain⟨h,i,A,B,e,C,_⟩:=s a b c ξ i0 f q p (by rw[o];exact n)
 have r:∀j∈[b],∀k,a[j]?≠some (.lst k):=λj D k=>by rw[W'.mp D];exact f.nl k
 have E:o0≠b:=λz=>f.nl _ (z▸m)
 exact⟨h,i,A,B,⟨e.get _ _ m (by simpa using E),t,n,o,p,⟨c,.inr C,q.cD e r⟩,⟨g,u.keep e (by simpa using ZT d),x.cD e r⟩,d⟩,e.len⟩
noncomputable def lO(C:Str)(a:List (Str×D)):D:=.tup (.str C::a.map λp=>.tup [.str p.1,p.2])
theorem Cu{a:List (Str×D)}(h:lO e Q3=lO M a):e=M/\Q3=a:=by
 simp only[lO,Mir.D.tup.injEq,aeo,Mir.D.str.injEq]at h;refine⟨h.1,(aaT λx y b=>?_).mp h.2⟩
 grind
def Ur(α:List b')(Z:b'->Prop)(H:Hp)(a:List (Str×D))(b:List (Str×V)):Prop:=aE (λp q=>p.1=q.1/\aw α Z H p.2 q.2) a b
def eD(κ:Str->b'->Prop)(E:XK):hX:=λx _ b Z H=>∃C c,x=lO C c/\∀d a e,κ C d->H a=some (.xd e)->Ur b Z H c e->a∉b->¬ Z a->E (.ref d) (some a) H
def ff(κ:Str->b'->Prop)(F:aV):Sp:=λd H Q E=>∃a Z b c,bw κ a Z b H/\aE (aw a Z H) c d/\bJ κ (eD κ E) a Z H (F c b) Q
def jH(a:D'->Option SM)(T:aM)(td:List Str)(k:Nat)(b:T')(N:List Str):Nat->D'->Option SM
 |0,_=>none
 |n+1,d=>match a d with
  |some c=>some c
  |none=>Jg (eI (jH a T td k b N n)) T td k b N d
theorem xv{X:Cx}{κ:Str->b'->Prop}{a:hX}{T:aM}{k:Nat}{f:T'}{N td:List Str}{b:D'->Option SM}(G:fm X κ T k f N)(g:∀st c,b st=some c->jO X κ a st c):∀(n d:Nat) (st:D') (c:SM),jH b T td d f N n st=some c->jO X κ a st c
 |0,_,_,_,h=>nomatch h
 |n+1,d,st,c,h=>by
  have B:∀i c,_->jG X κ a i c:=λi c q=>i_ (xv (td:=td) G g n d) q
  unfold jH at h;cases e:b st with
  |some j=>
   rw[e]at h;exact By h (g _ _ e)
  |none=>
   rw[e]at h;exact wM G B h
theorem aO.toXt{T:aM}(W:aO B G A Y z T b):aO B G A Y z {T with xt:=true} b:=⟨W.eU,W.mF,W.fn,W.cst,W.met,W.cls,W.fld,W.clo⟩
theorem dQ(W:aO B G A Y z ψ b)(U:ψ.xt=true)(F:yT A e M ν N h θ){K:D'->Option SM}(V:c_ l ω (ag ν)=true)(X:eI (jH K ψ W7 60 (ag ν) l 30) (aK ν)=some S)(hh:∀(i:f') (c:ZW) (outer:List ZR) (s:j') (H:Hp) (E:XK),bA (b+2) (c.deeper (ZX M (ag ν) s.heap.objs.size h i))->GoodO (cG (jm B G) B G A Y z l M (ag ν) h i c outer s H E) (aS Y) ψ b (ag ν) l ->
      ∀n L,K n=some L->jO (cG (jm B G) B G A Y z l M (ag ν) h i c outer s H E) (aS Y) (eD (aS Y) E) n L):
    bq B G A Y z (jm B G) (b+3) h θ ω (ff (aS Y) (a8 l.length ω.length S)):=by
  refine xe F.ex λoc o=>xe o λod p=>xe p λkV t=>xe t λa0 u=>xe u λpm w=>bp w λan i ct b0 x lk y=>?_;subst x
  have D:=ee V;refine zI lk y D (λvs H Q E a=>?_) λc outer s H vs Q E O a=>?_
  · refine bp a λI Z J ds f r g=>?_
    rw[r.length];unfold a8 at g;split at g
    · omega
    · exact g.elim
  · refine bp a λI Z J ds f r g=>?_
    have P:GoodO (cG (jm B G) B G A Y _ l _ _ h _ c outer s H E) _ ψ b _ l:=
      { scope:=rfl,names:=rfl,calm:=rfl,room:=O.mono (ģ _ _),eU:=W.eU,fld:=W.fld,cst:=W.cst
        mF:=λe F a=>⟨W.mF e F a⟩,fn:=λe F a=>⟨W.fn e F a⟩,met:=λm C F a=>⟨W.met m C F a⟩,cls:=λC F a=>bV (W.cls C F a) λj h1 h2=>⟨j,h1,⟨h2⟩⟩,clo:=W.clo }
    refine⟨_,i_ (xv ({toGoodO:=P,own:=aep,Qn:=λ_ _ _=>.inl rfl,sh:=D.nd,kind:=D.kind,kY:=λq=>by simp_all}) (hh _ c _ s H E O P) 30 60) X I Z H _ J,I,Z,ie f r,?_⟩
    unfold a8 at g;split at g
    · cases q:S _ J with
      |rt d k=>rwa[q]at g
      |nx R k=>rw[q]at g;exact λσ H' c0 Z' T=>g _ H' _ Z' T.gr T.st (aP rfl)
      |bk R k=>rw[q]at g;exact g.elim
      |ct R k=>rw[q]at g;exact g.elim
      |exc e k=>rwa[q]at g
      |bad=>rwa[q]at g
    · exact g.elim
def fV(C:Str):List (Str×EM)->List (Str×D)->bh->aG->ay D
 |[],a,_,Ω=>.exc (lO C a) Ω
 | (f,m)::r,a,c,Ω=>match m c Ω with
  |.ok d b=>fV C r (a++[(f,d)]) c b
  |_=>.bad
def du(C:Str)(n:Nat)(d:List (Str×EM))(as:AM):SM:=λe f=>cJ (as e f) λc a=>if c.length=n then (match fV C d [] (none::c.map some) a with
 |.exc x b=>.exc x b
 |_=>.bad)else .bad
variable{I:b'}{Q8:Option b'->List (Str×V)->Hp->Prop}{d:Hp}{d0:L2.St}{i:Str->b'->Prop}{q:b'->Prop}{r:hX}{v:List b'}{η:VK}
theorem Oh(F:bw i v q a d)(B:d0.length=u.length)(H:∀(j:Nat) (b:D),u[j]?=some (some b)->∃c,d0[j]?=some (some c)/\aw v q d b c)(J:∀m b c k w t x,bw i k w t x->cA v q d k w x->aw k w x b c->m∉k->¬ w m->bJ i r v q d (.exc (lO e [(M,b)]) t) η->Q8 (some m) [(M,c)] x)(g:bJ i r v q d (fV e [(M,p)] [] u a) η):
   pG h I [(M,λd0 K L=>∃n,tO i jY v q d p u n d0 K L)] none [] d0 d Q8:=by
 replace g:bJ i r v q d (match p u a with|.ok b n=>fV e [] [(M,b)] u n|_=>.bad) η:=g
 cases f:p u a with
 |bad=>rw[f]at g;exact g.elim
 |exc z o=>rw[f]at g;exact g.elim
 |ok b o=>
  rw[f]at g;refine⟨a,v,q,⟨F,cA.refl F.has,B,H⟩,?_⟩;rw[f];intro c C l y N A O m s P Q;exact xa (show bw i l y o (upd C m _)/\cA l y C l y (upd C m _)from A.tw s False) λR G=>J m b c l y o _ R (N.trans G) (A.di G O) (λE=>A.has _ E s) (λE=>A.dom _ E s) g
variable{O:List V}
theorem yZ(r:aE (aw v q d) o O)(f:l.length=o.length+1):(start l (.ref h::O)).length=(none::o.map some:bh).length/\∀(i:Nat) (a:D),(none::o.map some:bh)[i]?=some (some a)->∃b,(start l (.ref h::O))[i]?=some (some b)/\aw v q d a b:=by
 have g:=r.length;refine⟨by simp[L2.start];omega,λi a c=>?_⟩
 cases i with
 |zero=>cases c
 |succ i=>
  rw[List.getElem?_cons_succ,å]at c;obtain⟨j,e,k⟩:=Å.mp c;obtain⟨b,m,n⟩:=r.get e;unfold L2.start
  simp_all
variable{E1 o4 Δ:b'}{E3 F5:Str}{J P0 n:Pos}{L:List pd}{S0:XK}{W5:oZ}{X:ZW}{Y4:List ZR}{m:pd}{s:j'}{π:T'}
theorem vy(D:kr A Y I Δ E1 o4 θ ν M E3 ω [W5])(hr:bA (b+2) (X.deeper (ZX e π s.heap.objs.size h N)))(hg:Gl (cG (jm B G) B G A Y z l e π h N X Y4 s d S0) F5)(hm:Y F5=some (.ref I))(m0:i F5 I)(R:nV (cG (jm B G) B G A Y z l e π h N X Y4 s d S0) i (eD i S0) (m::L) Θ)(a0:∀(V:ZW) (ot:List ZR) (s':j') (j:b') (y:Hp) (E':XK),bA b (V.deeper (ZX M (ag ν) s'.heap.objs.size E1 (.ref o4)))->bc ((cG eA B G A Y z (E3::ω) M (ag ν) E1 (.ref o4) V ot s' y E').kY.mk1 j) i jY W5.ve p)(b0:x' (m::L) (ZX e π s.heap.objs.size h N)=(false,eval m (ZX e π s.heap.objs.size h N))::x' L (ZX e π s.heap.objs.size h N))(c0:(ZP J (x' L (ZX e π s.heap.objs.size h N))).any (·.1)=false)(d0:(F5==("__debug__":Str))=false):
  jO (cG (jm B G) B G A Y z l e π h N X Y4 s d S0) i (eD i S0) (.Raise (some (.Call (.Name F5 n) (m::L) [] J)) none P0) (du F5 ω.length [(W5.fld,p)] Θ):=by
 intro C Z0 E ρ Ω pins t σ H Dn O u;refine cF u λα Z S u=>?_
 refine yk
  (S8:=λT y=>∃U k o F c x,cA C Z0 E o F y/\bw i o F k y/\aE (aw o F y) U T/\U.length=ω.length/\fV F5 [(W5.fld,p)] [] (none::U.map some) k=.exc x c/\∀w a q,cA C Z0 E a q w->bw i a q c w->eD i S0 x c a q w)
  (yj:=λT y od fs w=>(∃K,od=some K)/\∃c a q P,bw i a q c w/\Ur a q w P fs/\(∀K,od=some K->K∉a/\¬ q K)/\eD i S0 (lO F5 P) c a q w) D hr hg hm (R C Z0 E ρ Ω) (λT y fs H' hz=>by obtain⟨⟨K,f⟩,_⟩:=hz;cases f) (λT y hA V ot s' j E' e0 he=>?_) b0 c0 d0 _ t σ H Dn O ⟨α,Z,S,?_⟩
 .refine xe hA λU f0=>xe f0 λk g0=>bz g0 λo F c x g1 s1 h0 i0 e1 h1=>?_
  refine⟨_,PE.ex λk=>a0 V ot s' j y E' e0 o F y (none::U.map some) k,?_⟩
  obtain⟨l1,l2⟩:=yZ (l:=E3::ω) (h:=j) h0 (by simp[i0])
  refine Oh (r:=eD i S0) (e:=F5) (η:=λ_ _=>False) s1 l1 l2 (λK Q v a q l0 w st gr rp n1 n2 g=>⟨rfl,⟨K,rfl⟩,_,a,q,[(W5.fld,Q)],st,.cons ⟨rfl,rp⟩ .nil,λ_ f=>by cases f;exact⟨n1,n2⟩,g w a q gr st⟩) ?_
  show bJ _ _ _ _ _ (fV F5 [(W5.fld,p)] [] _ _) _
  rw[show fV F5 [(W5.fld,p)] [] _ _=_ from e1]
  exact λw a q g2 s2=>h1 w a q (g1.trans g2) s2
 .unfold du at u
  cases hq:Θ ρ Ω with
  |bad=>rwa[hq]at u
  |exc x k=>rw[hq]at u;exact λy o F g t=>u y o F (S.gr.trans g) t
  |ok xs k=>
   rw[hq]at u;replace u:eR i _ C Z0 E Dn (if xs.length=ω.length then (match fV F5 _ [] _ k with|.exc x c=>.exc x c|_=>.bad)else .bad):=u
   intro T y o F g1 s1 r1;split at u
   rotate_left
   .exact u.elim
   rename_i j0;split at u
   rotate_left
   .exact u.elim
   rename_i x c hu;refine⟨by rwa[r1.length],⟨xs,k,o,F,c,x,S.gr.trans g1,s1,r1,j0,hu,λw a q g2 s2=>u w a q g2 s2⟩,?_⟩
   rintro fs w K ⟨_,n0,a,q,P,s2,fl,hz,C',o0,f,hh⟩ p0;obtain⟨rfl,rfl⟩:=Cu f
   simp_all
def RD(X:Cx)(κ:Str->b'->Prop)(d:hX)(a:L2.St)(e:pd)(m:EM):Prop:=∀b f g h i,PE X e (λc H Q=>c=a/\tO κ d b f g m h i c H Q)
def Gj(X:Cx)(κ:Str->b'->Prop)(f:hX)(a:L2.St)(b:List D')(c:SM):Prop:=∀d g h i j,jD X b (λD e H=>e=a/\Lp κ f d g h c i j D e H)
def dC(C m:Str)(F:aV)(d:EM)(as:AM):EM:=λc e=>(d c e).bind λx a=>match rj a x with
 |some (_,f,g)=>if f=C/\g.lookup m=none then (as c a).bind λh b=>F (x::h) b else .bad
 |none=>.bad
variable{R:pd}{c:Cx}
theorem y6(D:∀a,i e a->a=h)(d:lg c.K h)(E:Meth c.K h M I)(F:bq c.prog c.w c.K c.mg c.base (jm c.prog c.w) b I θ l (ff i y))(G:bA b c.A)(N:Binds c.K θ l [])(O:eY c d0 S0)(P:bc c i (eD i S0) R p)(T:nV c i (eD i S0) (m::L) Θ){pl:Ø Bool}(U:x' (m::L) c.env=(false,eval m c.env)::x' L c.env)(o:(ZP n (x' L c.env)).any (·.1)=false)(V:eval (.Call (.Attribute R M J) (m::L) [] n) c.env=(do
   let t ←eval R c.env
   Þ J.atName
   let (I,first) ←ß [t] (ê t M pl)
   õ n I first (ZP n (x' (m::L) c.env)) (â n (ã [] c.env)))):
  RD c i (eD i S0) d0 (.Call (.Attribute R M J) (m::L) [] n) (dC e M y p Θ):=by
 intro f u z B X;refine PE.imp (Ah (P f u z B X) d E F G N O (PA.ex λj=>T f u z B j) U o V) ?_
 rintro σ H Q ⟨rfl,Y,Z,S,g⟩;refine⟨rfl,Y,Z,S,bJ.use g λx j _ v H1 a0 Z1 g1 q C k=>?_⟩
 split at k
 .rename_i r C' fs hk
  split at k
  .rename_i hc
   obtain⟨rfl,hl⟩:=hc;refine bz (gP q C hk) λa b0 dx c0 s e0 _ q1 q2 q3=>?_;subst s;obtain rfl:=D _ q1
   exact⟨a,dx,_,rfl,q2,(eS q3).2 hl,_,_,Z1,S.grow g1 q,pa.use k λxs f0 _ vs H2 g0 Z2 g2 s2 r2 k2=>⟨_,Z2,_,_,s2,.cons (q.di g2 C) r2,k2⟩⟩
  .exact k.elim
 .exact k.elim
variable{D6:Option V}{J0:List b'}{Q1:b'->Prop}{ο:Hp}
theorem cW.Us(S:cW i v q d J0 Q1 a u d0 ο):cW i v q d J0 Q1 a (u.set b none) (d0.set b D6) ο:=
 ⟨S.st,S.gr,by rw[aan,aan];exact S.len,λj c h=>by
  by_cases e:b=j
  .rw[aao]at h
   simp_all
  .rw[ă e]at h ⊢
   exact S.val j c h⟩
def Gk(st:D'):Option {r:Str×pd×List pd // ∃p b p2,st=.Raise (some (.Call (.Name r.1 p) (r.2.1::r.2.2) [] b)) none p2}:=match st with
 |.Raise (some (.Call (.Name x _) (a::c) [] _)) none _=>some ⟨(x,a,c),_,_,_,rfl⟩
 |_=>none
def Cv(st:D'):=(Gk st).map (·.1)
theorem vz(q:Cv ν=some (e,m,L)):∃p b p2,ν=.Raise (some (.Call (.Name e p) (m::L) [] b)) none p2:=by
 obtain⟨⟨_,h⟩,_,a⟩:=Å.mp q;cases a;exact h
theorem ip{A B:Type}{x:Option A}{f:A->Option B}{b:B}(h:x.bind f=some b):∃a,x=some a/\f a=some b:=Ħ.mp h
def ml(T:aM)(b:T')(N:List Str)(a:Str)(n:Nat)(d:List (Str×EM))(st:D'):Option SM:=
 (Cv st).bind λc=>(dz (eT T 60 b N) (c.2.1::c.2.2)).bind λe=>if c.1==a&&Dr b a&&!(a==("__debug__":Str))then some (du a n d e)else none
theorem fW(D:kr A Y I Δ E1 o4 θ ν M E3 ω [W5])(t:bA (b+2) (X.deeper (ZX e π s.heap.objs.size h N)))(m:Y F5=some (.ref I))(g:GoodO (cG (jm B G) B G A Y z l e π h N X Y4 s d S0) (aS Y) ψ b π l)(j:∀(n:ZW) (u:List ZR) (o:j') (c:b') (w:Hp) (x:XK),bA b (n.deeper (ZX M (ag ν) o.heap.objs.size E1 (.ref o4)))->bc ((cG eA B G A Y z (E3::ω) M (ag ν) E1 (.ref o4) n u o w x).kY.mk1 c) (aS Y) jY W5.ve p)(st:D')(r:SM)(a:ml ψ π l F5 ω.length [(W5.fld,p)] st=some r):jO (cG (jm B G) B G A Y z l e π h N X Y4 s d S0) (aS Y) (eD (aS Y) S0) st r:=by
 refine Bx a λq v1 a=>Bx a λF y a=>Lq a λk a=>By a ?_
 refine xe (vz v1) λ_ f=>xe f λ_ f=>xe f λ_ c=>?_
 rw[c,eq_of_beq (bL (bL k))];refine xa (ck (λc p q=>iZ 60 _ _ l c p g q) y) λC i=>?_
 exact vy D t (g.gl (bR (bL k))) m m (C _) j (bW (i _ (.head _))) (bU λf E=>i f (.tail _ E)) (by simpa using bR k)
theorem Gm(W:aO B G A Y z ψ b)(F:sR A e M ν h θ)(t:c_ l ω (ag ν)=true)(y:∀(k:f') (c:ZW) (outer:List ZR) (s:j') (H:Hp) (E:XK),fm (cG eA B G A Y z l M (ag ν) h k c outer s H E).kY (aS Y) ψ b (ag ν) l->jG (cG eA B G A Y z l M (ag ν) h k c outer s H E).kY (aS Y) jY (aK ν) S):
    bq B G A Y z eA (b+1) h θ ω (bH (aS Y) (a8 l.length ω.length S)):=by
  refine F.ok (ee t) (λD H Q E a=>?_) λk c outer s H D Q E I a=>?_
  · refine bp a λo Z p J f r g=>?_
    rw[r.length];unfold a8 at g;split at g
    · omega
    · exact g.elim
  · refine bp a λo Z p J f r g=>?_
    have u:=ee t
    have n:fm (cG eA B G A Y _ l _ (ag ν) h _ c outer s H E).kY _ ψ b _ l:=
      { scope:=rfl,names:=rfl,calm:=rfl,room:=I,eU:=W.eU,own:=acC,Qn:=λ_ _ _=>.inl rfl,sh:=u.nd,kind:=u.kind,kY:=λ_ _ _ a=>a,fld:=W.fld,cst:=W.cst
        mF:=λe F a=>⟨W.mF e F a⟩,fn:=λe F a=>⟨W.fn e F a⟩,met:=λm C F a=>⟨W.met m C F a⟩,cls:=λC F a=>bV (W.cls C F a) λj K L=>⟨j,K,⟨L⟩⟩,clo:=W.clo }
    refine⟨_,y _ c _ s H E n o Z H _ p,o,Z,ie f r,?_⟩;unfold a8 at g;split at g
    · cases q:S _ p with
      |rt d i=>rwa[q]at g
      |nx w i=>rw[q]at g;exact λR N O P x=>g _ N _ P x.gr x.st (aP rfl)
      |bk w i=>rw[q]at g;exact g.elim
      |ct w i=>rw[q]at g;exact g.elim
      |exc e i=>rwa[q]at g
      |bad=>rwa[q]at g
    · exact g.elim
abbrev Rf:=Option (Str×D)
noncomputable def Ly(C:Str):Str:=if C="TooMany" then "most" else "name"
def xF(p:Str×D):D:=lO p.1 [(Ly p.1,p.2)]
def Lz(o:Rf)(Ω:aG):ay D:=match o with
 |none=>.ok .non Ω
 |some p=>.exc (xF p) Ω
def YM(o:Rf)(a:bh)(Ω:aG):gz:=match o with
 |none=>.nx a Ω
 |some p=>.exc (xF p) Ω
noncomputable def dE(a:List Str):List Str->List Str->Rf
 |_,[]=>none
 |pre,x::t=>if x∈a then (if x∈pre then some ("Twice",.str x)else dE a (pre++[x]) t)else some ("NoKind",.str x)
def zp(a r:List Str):Rf:=if 5<r.length then some ("TooMany",.int 5)else dE a [] r
def dT(a:List Str):List Str->List (Str×List Str)->Rf
 |_,[]=>none
 |ah,(n,r)::t=>if n∈a then (if n∈ah then some ("Twice",.str n)else (match zp a r with
  |some p=>some p
  |none=>dT a (ah++[n]) t))else some ("NoKind",.str n)
def dA(a:List Str)(n:Str)(r:List Str):Rf:=if n∈a then some ("Twice",.str n)else if 12<=a.length then some ("TooMany",.int 12)else zp a r
def Ut:Nat->SM
 |0=>ao
 |n+1=>aq cu (Ut n)
variable{C4:aG}{U:D}{i5:List (Str×EM)}
theorem rz(h:p u a=.ok j H)(b:fV e i5 [] [none,some j] H=.exc U C4):du e 1 i5 (ae p ak) u a=.exc U C4:=by
 unfold du;simp[h];rw[b]
def Kb(C:Str)(c:List (Str×EM)):Prop:=∀(b:aG) (d:D),(∃x,d=.str x)\/(∃i,d=.int i)->∃a,fV C c [] [none,some d] b=.exc (xF (C,d)) a/\ai [] b a
variable{W0:ay D}
theorem eX(d:p u a=.ok (.ref b) H)(f:H[b]?=some (.ins e Q3))(g:Θ u H=.ok o C4)(c:y (.ref b::o) C4=W0)(h:Q3.lookup M=none:=by rfl):dC e M y p Θ u a=W0:=by
 unfold dC;rw[d,aI,mZ f];simp only[h,and_self,if_true,g];exact c
theorem RE(h:decide (Q0<T)=C):aA .Gt (.int T) (.int Q0) a=.ok (.bl C) a:=by simp_all
def Kc(a:aV)(b:List (Str×EM)):SM:=
 (aq (dk (m2 (aA .NotIn) (af 1) (cC "House" "kinds" a (af 0) ak))
 (aq (du "NoKind" 1 b (ae (af 1) ak))
 ao)
 ao)
 ao)
noncomputable def Kd(a:List Str)(n:Str):Rf:=if n∈a then none else some ("NoKind",.str n)
def Oi(c:aV):Prop:=∀(b:aG) (h:Nat) (E:gf) (L:Str->List Str) (P:Nat->Prop) (n:Str),bG P b h E L->∃a,c [.ref h,.str n] b=Lz (Kd (nms E) n) a/\ai [] b a
theorem Ke(i:yU y)(j:Kb "NoKind" i5):Oi (a8 2 2 (Kc y i5)):=by
 intro l h E L P n H;obtain⟨k,c,d,m,f,_⟩:=i l h E L P H;obtain⟨_,_,_,_,g,_⟩:=H;have a:=jy (e:=n) m;unfold Kd
 by_cases b:n∈nms E
 .rw[decide_eq_true b]at a
  rw[if_pos b];exact⟨_,fZ (q0 (eQ rfl (eM rfl g rfl d) a)),f⟩
 .rw[decide_eq_false b]at a
  rw[if_neg b];obtain⟨o,p,q⟩:=j c (.str n) (.inl ⟨_,rfl⟩);exact⟨_,fX ((qT (eQ rfl (eM rfl g rfl d) a)).trans (qY (qY (rz rfl p)))),f.trans q⟩
variable{A5:D->bh->Option bh}
theorem RF(I:Nat->bh->aG->Prop)(R:gz->Prop)(j:M0 u a=.ok Y3 H)(k:∀{i u a},I i u a->et Y3 a=some o)(l:∀{i d u a},o[i]?=some d->I i u a->∃c,A5 d u=some c/\((∃e b,S c a=.nx e b/\I (i+1) e b)\/(∃x b,S c a=.exc x b/\R (.exc x b))\/∃x b,S c a=.rt x b/\R (.rt x b)))(m:I 0 u H)(n:∀u a,I o.length u a->R (.nx u a))(p:o.length<=1000):R (dy A5 M0 S u a):=by
 rw[dO,j];refine cL (R:=R) I (λ_ _ _ h=>k h) (λi d u a h q=>?_) n _ 0 u _ (by unfold fuel;exact zr (B' (ŀ _ _) p)) (Ì _) m
 obtain⟨c,r,f⟩:=l h q;refine⟨c,r,?_⟩;rcases f with ⟨e,b,f,g⟩|⟨x,b,f,g⟩|⟨x,b,f,g⟩<;>rwa[f]
def Uu(a:aV)(fN:List (Str×EM)):SM:=
 (aq (cw (dC "House" "check_kind" a (af 0) (ae (af 3) ak)))
 (aq (dk (m2 (aA .In) (af 3) (dj (af 1) true (aj .non) false (af 2)))
 (aq (du "Twice" 1 fN (ae (af 3) ak))
 ao)
 ao)
 ao))
def Cw(a:aV)(fN fM:List (Str×EM)):SM:=
 (aq (dk (m2 (aA .Gt) (mN (bb .len) (ae (af 1) ak)) (aj (.int 5)))
 (aq (du "TooMany" 1 fM (ae (aj (.int 5)) ak))
 ao)
 ao)
 (aq (dy (gs [2,3]) (pe (af 1))
 (Uu a fN))
 ao))
def RG(CE:aV):Prop:=∀(c:aG) (h a:Nat) (E:gf) (L:Str->List Str) (P:Nat->Prop) (r:List Str),bG P c h E L->c[a]?=some (.lst (r.map .str))->r.length<=1000->∃b,CE [.ref h,.ref a] c=Lz (zp (nms E) r) b/\ai [] c b
theorem xy(c:l[b]?=some e):dE ω (l.take b) (l.drop b)=(if e∈ω then (if e∈l.take b then some ("Twice",.str e)else dE ω (l.take (b+1)) (l.drop (b+1)))else some ("NoKind",.str e):Rf):=by
 have a:l.drop b=e::l.drop (b+1):=by
  obtain⟨d,f⟩:=ZS.mp c;rw[š d,f]
 rw[a,dE,Ï,c];rfl
theorem bG.ob(H:bG u0 a b ξ i0):∃c,a[b]?=some (.ins "House" c)/\∀m:Str,m≠"elders"->m≠"lines"->c.lookup m=none:=by
 obtain⟨e,l,_,_,q,_⟩:=H;exact⟨_,q,λm d f=>by simp[Ŏ,beq_false_of_ne d,beq_false_of_ne f]⟩
theorem eH(H:bG u0 a b ξ i0)(d:u[w]?=some (oR b))(f:Θ u a=.ok o a)(c:y (.ref b::o) a=W0)(g:e≠"elders":=by decide)(h:e≠"lines":=by decide):dC "House" e y (af w) Θ u a=W0:=by
 obtain⟨k,i,j⟩:=H.ob;exact eX (by rw[kQ,d];rfl) i f c (j e g h)
variable{R9:List (Str×EM)}
theorem Uv(N:Oi y)(O:Kb "Twice" i5)(Q:Kb "TooMany" R9):RG (a8 4 2 (Cw y i5 R9)):=by
 intro n h a E L P r H q R;have B:=dq q;rw[ZZ]at B;unfold zp
 by_cases I:5<r.length
 .rw[if_pos I]
  obtain⟨f,S,T⟩:=Q n (.int 5) (.inr ⟨_,rfl⟩);exact⟨_,fX ((qT (eQ (eN rfl B) rfl (RE (decide_eq_true (by omega))))).trans (qY (qY (rz rfl S)))),T⟩
 .rw[if_neg I]
  rw[bu (by rfl)]
  have U:∀c:SM,aq (dk (m2 (aA .Gt) (mN (bb .len) (ae (af 1) ak)) (aj (.int 5))) (aq (du "TooMany" 1 R9 (ae (aj (.int 5)) ak)) ao) ao) c [oR h,oR a,none,none] n=c [oR h,oR a,none,none] n:=λc=>q0 (eQ (eN rfl B) rfl (RE (decide_eq_false (by omega))))
  show ∃l,gA (Cw y i5 R9 [oR h,oR a,none,none] n)=_/\_
  unfold Cw;rw[U,au]
  refine RF (Y3:=.MQ (.ref a)) (o:=eZ 0 (r.map .str)) (λi V f=>∃C D,V=[oR h,oR a,C,D]/\ai [] n f/\dE (nms E) (r.take i) (r.drop i)=dE (nms E) [] r)
   (λz=>∃l,gA (sq z ao)=Lz (dE (nms E) [] r) l/\ai [] n l) (by unfold pe;simp[aD q]) (λ⟨_,_,_,K,_⟩=>by
    show(iC _ (.ref a)).map _=_
    rw[aJ,aD (K.g q)];rfl) ?_ ⟨none,none,rfl,ai.refl,rfl⟩ ?_ (by rw[hF];simpa using R)
  .rintro i d _ f X ⟨C,D,rfl,K,j⟩
   obtain⟨d',F,rfl⟩:=kz _ 0 i d X;obtain⟨x,Y,rfl⟩:=fU F;rw[ϛ];refine⟨[oR h,oR a,oI i,oS x],rfl,?_⟩;rw[xy Y]at j;obtain⟨b,m,s⟩:=N f h E L P x (H.keep K);have m:=eH (u:=[oR h,oR a,oI i,oS x]) (e:="check_kind") (Θ:=ae (af 3) ak) (w:=0) (H.keep K) rfl rfl m
   by_cases t:x∈nms E
   .rw[if_pos t]at j
    rw[show Kd (nms E) x=none from if_pos t]at m
    have G:=j_ (w:=i) (s.g (K.g q));have Z:(b++[Cell.lst ((r.take i).map .str)])[b.length]?=some _:=av;have J:ai [] b (b++[Cell.lst ((r.take i).map .str)]):=ai.app;have k:=il (e:=x) Z;have M:dj (af 1) true (aj .non) false (af 2) [oR h,oR a,oI i,oS x] b=.ok (.ref b.length) (b++[.lst ((r.take i).map .str)]):=by simpa using G
    by_cases A:x∈r.take i
    .rw[if_pos A]at j
     rw[decide_eq_true A]at k;obtain⟨p,e5,K5⟩:=O (b++[Cell.lst ((r.take i).map .str)]) (.str x) (.inl ⟨_,rfl⟩);refine .inr (.inl ⟨_,p,(qE m).trans ((qT (eQ rfl M k)).trans (qY (qY (rz rfl e5)))),p,?_,(K.trans s).trans (J.trans K5)⟩);rw[←j];rfl
    .rw[if_neg A]at j
     rw[decide_eq_false A]at k;exact .inl ⟨_,_,(qE m).trans (q0 (eQ rfl M k)),_,_,rfl,(K.trans s).trans J,j⟩
   .rw[if_neg t]at j
    rw[show Kd (nms E) x=_ from if_neg t]at m
    refine .inr (.inl ⟨_,b,qX m,b,?_,K.trans s⟩);rw[←j];rfl
  .rintro _ f ⟨C,D,rfl,K,j⟩
   refine⟨f,?_,K⟩;rw[←j,hF,ZZ,Ũ];rfl
def Kf(Ω:aG)(a:List D)(b:List (Str×List Str)):Prop:=aE (λd p=>∃j,d=.tup [.str p.1,.ref j]/\Ω[j]?=some (.lst (p.2.map .str))) a b
def Gn(Ω:aG)(t:Nat)(b:List (Str×List Str)):Prop:=∃a,Ω[t]?=some (.lst a)/\Kf Ω a b
variable{Q9:List (Str×List Str)}
theorem Kf.keep{az:aG}(h:Kf a o Q9)(K:ai [] a az):Kf az o Q9:=aE.imp (by rintro _ _ ⟨j,b,c⟩;exact⟨j,b,K.g c⟩) h
theorem Gn.keep{Ω az:aG}{t:Nat}{c:List (Str×List Str)}(h:Gn Ω t c)(K:ai [] Ω az):Gn az t c:=let ⟨d,a,b⟩:=h;⟨d,K.g a,b.keep K⟩
theorem Kf.get{Ω:aG}{d:D}{a:List (Str×List Str)}{b:List D}(h:Kf Ω b a){i:Nat}(c:b[i]?=some d):∃p j,a[i]?=some p/\d=.tup [.str p.1,.ref j]/\Ω[j]?=some (.lst (p.2.map .str)):=by
 obtain⟨p,e,j,f,g⟩:=aE.get h c;exact⟨p,j,e,f,g⟩
theorem xB(a:Q9[b]?=some v9):dT l ((Q9.take b).map (·.1)) (Q9.drop b)=(if v9.1∈l then (if v9.1∈(Q9.take b).map (·.1)then some ("Twice",.str v9.1)else (match zp l v9.2 with
  |some q=>some q
  |none=>dT l ((Q9.take (b+1)).map (·.1)) (Q9.drop (b+1))))else some ("NoKind",.str v9.1):Rf):=by
 have e:Q9.drop b=v9::Q9.drop (b+1):=by
  obtain⟨c,d⟩:=ZS.mp a;rw[š c,d]
 obtain⟨n,r⟩:=v9;rw[e,dT,Ï,a,Ü];rfl
def YN(a CE:aV)(fN:List (Str×EM)):SM:=
 (aq (cw (dC "House" "check_kind" a (af 0) (ae (af 3) ak)))
 (aq (dk (m2 (aA .In) (af 3) (af 2))
 (aq (du "Twice" 1 fN (ae (af 3) ak))
 ao)
 ao)
 (aq (cw (dC "House" "check_elders" CE (af 0) (ae (af 4) ak)))
 (aq (cw (dU mz cm (af 2) (ae (af 3) ak)))
 ao))))
def Cy(a CE:aV)(fN:List (Str×EM)):SM:=
 (aq (aH 2 (mN bt ak))
 (aq (dy (gs [3,4]) (bx (af 1))
 (YN a CE fN))
 ao))
def Uw(d:aV):Prop:=∀(b:aG) (h t:Nat) (E:gf) (L:Str->List Str) (P:Nat->Prop) (c:List (Str×List Str)),bG P b h E L->Gn b t c->(∀p∈c,p.2.length<=1000)->c.length<=100->∃a,d [.ref h,.ref t] b=Lz (dT (nms E) [] c) a/\ai [] b a
theorem Ux(hC:Oi y)(hE:RG o3)(hN:Kb "Twice" i5):Uw (a8 5 2 (Cy y o3 i5)):=by
 intro k h t E L P x H ⟨ds,Y,Z⟩ hr hl;have J:=aE.length Z;obtain⟨M,e1,N,g1⟩:=kA (lN (o:=[]) (a:=k));rw[bu (by rfl)]
 show ∃l,gA (Cy y o3 i5 [oR h,oR t,none,none,none] k)=_/\_
 have H1:=H.keep N;unfold Cy;rw[qA (eN rfl e1),au]
 show ∃l,gA (sq (dy _ _ _ [oR h,oR t,oR k.length,none,none] M) ao)=_/\_
 refine RF (Y3:=.seq (.ref t)) (o:=ds) (λi ρ b=>∃O Q,ρ=[oR h,oR t,oR k.length,O,Q]/\ai [] k b/\b[k.length]?=some (.lst (((x.take i).map (·.1)).map .str))/\dT (nms E) ((x.take i).map (·.1)) (x.drop i)=dT (nms E) [] x)
  (λz=>∃l,gA (sq z ao)=Lz (dT (nms E) [] x) l/\ai [] k l) (sr rfl (N.g Y)) (λ⟨_,_,_,K,_,_⟩=>by rw[cz,aJ,aD (K.g Y)]) ?_ ⟨none,none,rfl,N,g1,rfl⟩ ?_ (by omega)
 .rintro i d _ b hd ⟨O,Q,rfl,K,R,c⟩
  obtain⟨p,j,F,rfl,S⟩:=Z.get hd;have T:=ZV F;refine⟨[oR h,oR t,oR k.length,oS p.1,oR j],rfl,?_⟩;rw[xB F]at c;have lt:=ZS.mp F;obtain⟨m,s,A⟩:=hC b h E L P p.1 (H.keep K);have s:=eH (u:=[oR h,oR t,oR k.length,oS p.1,oR j]) (e:="check_kind") (Θ:=ae (af 3) ak) (w:=0) (H.keep K) rfl rfl s
  by_cases G:p.1∈nms E
  .rw[if_pos G]at c
   rw[show Kd (nms E) p.1=none from if_pos G]at s
   have f:=il (e:=p.1) (A.g R)
   by_cases I:p.1∈(x.take i).map (·.1)
   .rw[if_pos I]at c
    rw[decide_eq_true I]at f;obtain⟨n,U,V⟩:=hN m (.str p.1) (.inl ⟨_,rfl⟩);refine .inr (.inl ⟨_,n,(qE s).trans ((qT (eQ rfl rfl f)).trans (qY (qY (rz rfl U)))),n,?_,(K.trans A).trans V⟩);rw[←c];rfl
   .rw[if_neg I]at c
    rw[decide_eq_false I]at f;have r:=K.trans A;obtain⟨C,B,X⟩:=hE m h j E L P p.2 (H.keep r) (r.g S) (hr p T);have B:=eH (u:=[oR h,oR t,oR k.length,oS p.1,oR j]) (e:="check_elders") (Θ:=ae (af 4) ak) (w:=0) (H.keep r) rfl rfl B;have D:=r.trans X;cases hz:zp (nms E) p.2 with
    |some q=>
     rw[hz]at c B;refine .inr (.inl ⟨_,C,(qE s).trans ((q0 (eQ rfl rfl f)).trans (qX B)),C,?_,D⟩);rw[←c];rfl
    |none=>
     rw[hz]at c B;obtain⟨n,U,V,g5⟩:=aL (.str p.1) (X.g (A.g R)) (by simp;omega)
     refine .inl ⟨_,n,(qE s).trans ((q0 (eQ rfl rfl f)).trans ((qE B).trans (qE (eL rfl rfl (dc (X.g (A.g R))) U)))),_,_,rfl,ai.new D V (λj S=>by simp at S;omega),?_,c⟩
     rw[Ï,F,Ü,Ü];exact g5
  .rw[if_neg G]at c
   rw[show Kd (nms E) p.1=_ from if_neg G]at s
   refine .inr (.inl ⟨_,m,qX s,m,?_,K.trans A⟩);rw[←c];rfl
 .rintro _ b ⟨O,Q,rfl,K,_,c⟩
  refine⟨b,?_,K⟩;rw[←c,←J,Ũ];rfl
def mn(m:Str)(F:aV)(n:Nat):SM:=aq (cw (dC "House" m F (af 0) (ae (af 1) ak))) (Ut n)
variable{y8:Str×D}
theorem Oj(c:bG u0 a b ξ i0)(d:y [.ref b,j] a=Lz (some y8) H)(f:2<=w)(g:e≠"elders":=by decide)(h:e≠"lines":=by decide):a8 w 2 (mn e y o0) [.ref b,j] a=.exc (xF y8) H:=by
 refine fX (qX (eH (w:=0) (Θ:=ae (af 1) ak) c rfl ?_ d g h));obtain⟨w,rfl⟩:=Nat.exists_eq_add_of_le f;rfl
def Gp(a CE:aV)(fN fM:List (Str×EM)):SM:=
 (aq (dk (jF (mN (a6 a) (ae (af 1) ak)))
 (aq (du "NoName" 1 fN (ae (af 1) ak))
 ao)
 ao)
 (aq (dk (m2 (aA .In) (af 1) fe)
 (aq (du "Twice" 1 fN (ae (af 1) ak))
 ao)
 ao)
 (aq (dk (m2 (aA .GtE) (mN (bb .len) (ae fe ak)) (aj (.int 12)))
 (aq (du "TooMany" 1 fM (ae (aj (.int 12)) ak))
 ao)
 ao)
 (aq (cw (dC "House" "check_elders" CE (af 0) (ae (af 2) ak)))
 (Ut 3)))))
def Uy(d:aV):Prop:=∀(c:aG) (h a:Nat) (E:gf) (L:Str->List Str) (P:Nat->Prop) (n:Str) (r:List Str) (p:Str×D),bG P c h E L->c[a]?=some (.lst (r.map .str))->r.length<=1000->ub n->dA (nms E) n r=some p->∃b,d [.ref h,.str n,.ref a,.non] c=.exc (xF p) b/\ai [] c b
theorem Uz(u:FW y)(x:RG o3)(z:Kb "Twice" i5)(A:Kb "TooMany" R9):Uy (a8 5 4 (Gp y o3 i5 R9)):=by
 intro B h a E L P n r p H C D F c;obtain⟨b,l,d⟩:=u B n F;have G:=H.keep d;obtain⟨_,_,I,_,m,o,q,_,_⟩:=G;have J:=q.len;have K:(nms E).length=E.length:=by simp[nms]
 unfold dA at c;have e:∀t,decide (n∈nms E)=t->m2 (aA .In) (af 1) fe [oR h,oS n,oR a,some .non,none] b=.ok (.bl t) b:=λt M=>eQ rfl (eF rfl m) (by rw[FQ o,q.is,M])
 by_cases i:n∈nms E
 .rw[if_pos i]at c
  cases c;obtain⟨j,f,k⟩:=z b (.str n) (.inl ⟨_,rfl⟩);exact⟨_,fX ((q0 (nT (eC rfl l))).trans ((qT (e _ (decide_eq_true i))).trans (qY (qY (rz rfl f))))),d.trans k⟩
 .rw[if_neg i]at c
  by_cases s:12<=(nms E).length
  .rw[if_pos s]at c
   cases c;obtain⟨j,f,k⟩:=A b (.int 12) (.inr ⟨_,rfl⟩);exact⟨_,fX ((q0 (nT (eC rfl l))).trans ((q0 (e _ (decide_eq_false i))).trans ((qT (eQ (eN (eK (eF rfl m) rfl) (BX o)) rfl (Xx (decide_eq_true (by omega))))).trans (qY (qY (rz rfl f)))))),d.trans k⟩
  .rw[if_neg s]at c
   obtain⟨j,f,k⟩:=x b h a E L P r (H.keep d) (d.g C) D;rw[c]at f;exact⟨_,fX ((q0 (nT (eC rfl l))).trans ((q0 (e _ (decide_eq_false i))).trans ((q0 (eQ (eN (eK (eF rfl m) rfl) (BX o)) rfl (Xx (decide_eq_false (by omega))))).trans (qX (eH (w:=0) (Θ:=ae (af 2) ak) (H.keep d) rfl rfl f))))),d.trans k⟩
theorem Ol(c:y [j] a=.ok (.bl false) H)(d:fV "NoName" i5 [] [none,some j] H=.exc U C4):a8 5 4 (Gp y o3 i5 R9) [.ref b,j,.ref w,.non] a=.exc U C4:=
 fX ((qT (nT (eC rfl c))).trans (qY (qY (rz rfl d))))
theorem qj(e:a.length<=H.length)(d:∀(k:Nat) (c:Cell),a[k]?=some c->H[k]?=some c\/∃kvs,c=Cell.dK kvs/\H[k]?=some (.dF kvs)):ai [] a (iy a H):=⟨by unfold iy;simp_all,λk c h _=>by
 unfold iy;rw[aaN,h];rcases d k c h with b|⟨kvs,rfl,b⟩
 .rw[b];cases c<;>rfl
 .rw[b];rfl⟩
theorem uh(h:a.length<=b):(iy a H)[b]?=H[b]?:=by
 unfold iy;rw[aaN,Ŀ h];cases H[b]? with
 |none=>rfl
 |some c=>cases c<;>rfl
theorem nk(e:y o a=.ok j H):p7 y o a=.ok j (iy a H):=by unfold p7;rw[e]
theorem vA(K:ai [] a H):ai [] a (iy a H):=qj K.len λk c h=>.inl (K.g h)
def UA(O:aV):EM:=cb (mN (a6 O) (ae (af 0) (ae (m2 (aY .Add) (af 1) (aj (.int 1))) ak))) true (aj .non) (bx (af 0)) 0 [1]
def UB(O:aV):EM:=cb (mN hZ (ae (af 0) (ae (mN (a6 O) (ae (af 1) (ae (m2 (aY .Add) (af 2) (aj (.int 1))) ak))) ak))) true (aj .non) (lB (af 0)) 2 [1]
def oM(O:aV):SM:=
 (aq (dk (m2 (aA .Eq) (af 1) (aj (.int 8)))
 (aq (bf (af 0))
 ao)
 ao)
 (aq (dk (m1 (iD .list) (af 0))
 (aq (bf (UA O))
 ao)
 ao)
 (aq (dk (m1 (iD .tuple) (af 0))
 (aq (bf (mN (bb .tuple) (ae (UA O) ak)))
 ao)
 ao)
 (aq (dk (m1 (iD .dict) (af 0))
 (aq (bf (mN gO (ae (UB O) ak)))
 ao)
 ao)
 (aq (bf (af 0))
 ao)))))
def rQ(d:D):Prop:=(∃x,d=.str x)\/(∃i,d=.int i)\/d=.non\/∃b,d=.bl b
theorem YO(h:rQ j):a8 2 2 (oM y) [j,.int 0] a=.ok j a:=by
 rcases h with ⟨_,rfl⟩|⟨_,rfl⟩|rfl|⟨_,rfl⟩<;>rfl
theorem YP(h:rQ j):a8 2 2 (oM y) [j,.int 1] a=.ok j a:=by
 rcases h with ⟨_,rfl⟩|⟨_,rfl⟩|rfl|⟨_,rfl⟩<;>rfl
theorem Cz(b:srcOf a j=.ok (.seq j) a)(c:et (.seq j) a=some o)(e:∀d∈o,rQ d)(f:o.length<=1000):UA (a8 2 2 (oM y)) [some j,some (.int 0)] a=.ok (.ref a.length) (a++[.lst o]):=by
 have:=cO (u:=[some j,some (.int 0)]) (p:=mN (a6 (a8 2 2 (oM y))) (ae (af 0) (ae (m2 (aY .Add) (af 1) (aj (.int 1))) ak))) (Z:=aj .non) (C:=true) (P:=[1]) (mh:=λ_=>true) (g:=λd=>d) (M0:=bx (af 0)) (Y3:=.seq j) b c (λd _=>rfl) (λd h _=>eC (eK rfl (eK (eQ rfl rfl lH) rfl)) (YP (e d h))) (eV f)
 rw[ú.mpr (by simp),Ł]at this
 exact this
variable{P2:Ty}
theorem xC(h:a[b]?=some (.lst o)):iD P2 (.ref b) a=.ok (.bl (P2==.list)) a:=by
 unfold iD;rw[wU];simp only[EY,h];rfl
theorem rR(h:a[b]?=some (.dK ς)):iD P2 (.ref b) a=.ok (.bl (P2==.dict)) a:=by
 unfold iD;rw[wU];simp only[EY,h];rfl
abbrev LA(O:aV):aV:=p7 (a8 2 2 (oM (a8 2 2 (oM O))))
theorem UC(h:rQ j):∃az,LA y [j,.int 0] a=.ok j az/\ai [] a az:=⟨_,nk (YO h),vA ai.refl⟩
theorem YQ(h:a[b]?=some (.lst o))(c:∀d∈o,rQ d)(f:o.length<=1000):∃q az,LA y [.ref b,.int 0] a=.ok (.ref q) az/\az[q]?=some (.lst o)/\ai [] a az:=by
 have e:=Cz (y:=y) (j:=.ref b) (bj (by rw[aJ,aD h])) (by rw[cz,aJ,aD h]) c f
 exact⟨_,_,nk (fR ((q0 (eQ rfl rfl rfl)).trans ((qT (eP rfl (xC h))).trans (qB (qR e))))),(uh (M' _)).trans av,vA ai.app⟩
theorem YR(b:∀d∈o,rQ d)(c:o.length<=1000):∃az,LA y [.tup o,.int 0] a=.ok (.tup o) az/\ai [] a az:=by
 have e:=Cz (y:=y) (a:=a) (j:=.tup o) rfl rfl b c
 have f:bb .tuple [.ref a.length] (a++[Cell.lst o])=.ok (.tup o) (a++[.lst o]):=by
  show og [.ref a.length] (a++[Cell.lst o])=_
  simp only[og,aJ,aD av]
 exact⟨_,nk (fR ((q0 (eQ rfl rfl rfl)).trans ((q0 (eP rfl (show iD .list (.tup o) a=.ok (.bl false) a from rfl))).trans ((qT (eP rfl (show iD .tuple (.tup o) a=.ok (.bl true) a from rfl))).trans (qB (qR (eN (eK e rfl) f))))))),vA ai.app⟩
theorem UD(h:a[b]?=some (.dK [])):∃q az,LA y [.ref b,.int 0] a=.ok (.ref q) az/\az[q]?=some (.dK [])/\ai [] a az:=by
 have j:lB (af 0) [some (.ref b),some (.int 0)] a=.ok (.items b) (a.set b (.dF [])):=Ht (.inl h);have f:=qb (a:=a) (b:=b) (.inl h);have i:(a.set b (.dF [])).length=a.length:=by simp
 have e:UB (a8 2 2 (oM y)) [some (.ref b),some (.int 0)] a=.ok (.ref a.length) (a.set b (.dF [])++[.lst []]):=by
  unfold UB cb;rw[j];dsimp only;have l:et (.items b) (a.set b (.dF []))=some []:=by simp only[et,f];rfl
  rw[show fuel=fuel - 1+1 from rfl,ux,l]
  show gM _ _=_
  unfold gM;rw[i]
 have m:gO [.ref a.length] (a.set b (.dF [])++[Cell.lst []])=.ok (.ref (a.length+1)) (a.set b (.dF [])++[.lst [],.dK []]):=by
  have g:(a.set b (.dF [])++[Cell.lst []])[a.length]?=some (.lst []):=by rw[←i];exact av
  show jK _ _=_
  simp only[jN,aD g];simp[bI,gM]
 refine⟨_,_,nk (fR ((q0 (eQ rfl rfl rfl)).trans ((q0 (eP rfl (rR h))).trans ((q0 (eP rfl (rR h))).trans ((qT (eP rfl (rR h))).trans (qB (qR (eN (eK e rfl) m)))))))),?_,qj (by simp) λk c d=>?_⟩
 .rw[uh (ä _),Ĉ (by simp)]
  simp
 .by_cases z:k=b
  .subst z
   rw[h]at d;cases d;exact .inr ⟨[],rfl,dP f⟩
  .exact .inl (dP (cU d z))
def LB(d' d:D)(Ω:aG):Prop:=∀(w:Str) a,ai [] Ω a->aA .Eq (.tup [.str w,d']) (.tup [.str w,d]) a=.ok (.bl true) a
variable{N6:D}
theorem Kg{b:D}(c:fA a 8 j=some N6)(d:fA a 8 U=some b)(o:(aN 8 N6&&aN 8 b)=true):aA .Eq j U a=.ok (.bl (eJ N6 b)) a:=by
 rw[mX,ik,c,d];simp only[rH,fh,o,if_true];rfl
theorem rS(h:rQ j):LB j j a:=λw c _=>by
 rcases h with ⟨_,rfl⟩|⟨_,rfl⟩|rfl|⟨_,rfl⟩
 all_goals
  refine(Kg (N6:=.tup [.str w,_]) (b:=.tup [.str w,_]) rfl rfl rfl).trans ?_;rw[iP 8 _ rfl]
theorem Gq(h:a[b]?=some (.lst [.str e]))(h':a[w]?=some (.lst [.str e])):LB (.ref w) (.ref b) a:=λc d K=>by
 have r:∀{i},d[i]?=some (.lst [.str e])->fA d 8 (.tup [.str c,.ref i])=some (.tup [.str c,.lst [.str e]]):=λ{i} f=>by
  simp only[fA,bI,f];rfl
 refine(Kg (r (K.g h')) (r (K.g h)) rfl).trans ?_;rw[iP 8 _ rfl]
theorem Gr:LB (.tup [.str e]) (.tup [.str e]) a:=λw c _=>by
 refine(Kg (N6:=.tup [.str w,.tup [.str e]]) (b:=.tup [.str w,.tup [.str e]]) rfl rfl rfl).trans ?_;rw[iP 8 _ rfl]
theorem Kh(h:a[b]?=some (.dK []))(h':a[w]?=some (.dK [])):LB (.ref w) (.ref b) a:=λc d K=>by
 have r:∀{i},d[i]?=some (.dK [])->fA d 8 (.tup [.str c,.ref i])=none/\Lo d (.tup [.str c,.ref i])=some c:=λ{i} e=>by
  refine⟨by simp only[fA,bI,e];rfl,by simp only[Lo,tD,e]⟩
 obtain⟨f,j⟩:=r (K.g h');obtain⟨k,l⟩:=r (K.g h);rw[mX,ik,f,k]
 show jK .bad _=_
 simp[vc,j,l]
def xD(a:aV):EM:=mN (λb c=>a6 a (b++[.int 0]) c) (ae (af 1) ak)
theorem LC(b:y [j,.int 0] a=.ok U H):fV M [(e,xD y)] [] [none,some j] a=.exc (lO M [(e,U)]) H:=by
 have c:xD y [none,some j] a=.ok U H:=by
  show Hg (y [j,.int 0] a)=_
  rw[b];rfl
 rw[fV,c];rfl
theorem qk(f:Ly M=e):Kb M [(e,xD (LA y))]:=λg d h=>by
 obtain⟨c,b,K⟩:=UC (y:=y) (a:=g) (j:=d) (h.elim .inl λz=>.inr (.inl z))
 subst f;exact⟨c,LC b,K⟩
def low(c:Nat):Bool:=nN (bO c) "abcdefghijklmnopqrstuvwxyz"
theorem UE(j:e.length<=1000)(h:¬ (1<=e.length/\e.length<=8)\/(b∈e.cps.toList/\low b=false)):∃az,a8 1 1 uc [.str e] a=.ok (.bl false) az/\ai [] a az:=by
 have k:=cO (u:=[oS e]) (a:=a) (p:=m2 (aA .In) (af 0) (aj (.str "abcdefghijklmnopqrstuvwxyz"))) (Z:=aj .non) (C:=true) (M0:=bx (af 0)) (P:=[]) (mh:=λ_=>true) (g:=λd=>match d with|.str z=>.bl (nN z "abcdefghijklmnopqrstuvwxyz")|d=>d) rfl rfl (λd _=>rfl) (λd n _=>by
  obtain⟨b,c,rfl⟩:=è.mp n
  show aA .In (.str _) (.str _) a=_
  simp[fh,inD]) (by
  rw[ZZ];exact eV (show e.cps.toList.length<=1000 from j))
 have o:((e.cps.toList.map λb=>D.str (bO b)).filter λ_=>true).map (λd=>match d with|.str z=>D.bl (nN z "abcdefghijklmnopqrstuvwxyz")|d=>d)=(e.cps.toList.map low).map .bl:=by
  rw[ú.mpr (λ_ _=>rfl),Â,Â]
  rfl
 rw[o]at k
 have i:mN (bb .len) (ae (af 0) ak) [oS e] a=.ok (.int e.length) a:=by
  show oh _ [.str e] a=_
  unfold oh;simp[a7 (eV j)]
 have l:∀t,decide (1<=e.length/\e.length<=8)=t->(my .LtE .LtE (aj (.int 1)) (mN (bb .len) (ae (af 0) ak)) (aj (.int 8))) [oS e] a=.ok (.bl t) a:=λt m=>by
  unfold my;rw[show aj (.int 1) [oS e] a=.ok (.int 1) a from rfl,aI,i,aI]
  by_cases f:1<=e.length
  .have c1:dZ .LtE (.int 1) (.int e.length) a=.ok (.bl true) a:=by
    have:decide ((1:Int)<=e.length)=true:=by simp;omega
    simp_all
   have c2:dZ .LtE (.int e.length) (.int 8) a=.ok (.bl t) a:=by
    have:decide ((e.length:Int)<=8)=t:=by rw[←m];simp[f];omega
    simp_all
   show((df (dZ .LtE (.int 1) (.int e.length) a)).bind _)=_
   rw[c1];exact c2
  .have c1:dZ .LtE (.int 1) (.int e.length) a=.ok (.bl false) a:=by
    have:decide ((1:Int)<=e.length)=false:=by simp;omega
    simp_all
   have:t=false:=by rw[←m];simp[f]
   show((df (dZ .LtE (.int 1) (.int e.length) a)).bind _)=_
   rw[c1,this];rfl
 by_cases c:1<=e.length/\e.length<=8
 .obtain⟨f,q⟩:=h.resolve_left λz=>z c
  have:(e.cps.toList.map low).all id=false:=by
   rw[acj];exact List.all_eq_false.mpr ⟨b,f,by simpa using q⟩
  refine⟨_,fR ((q0 rfl).trans (qR (aT (l true (decide_eq_true c)) (eN (eK k rfl) ((nh av).trans (by rw[this])))))),ai.app⟩
 .exact⟨_,fR ((q0 rfl).trans (qR (aF (l false (decide_eq_false c))))),ai.refl⟩
def Hw(f:aV)(fN:List (Str×EM))(d:D)(Ω:aG):Prop:=∀a,ai [] Ω a->∃c b e,f [d] a=.ok (.bl false) c/\fV "NoName" fN [] [none,some d] c=.exc (xF ("NoName",e)) b/\ai [] a b/\LB e d b
abbrev Hx(O:aV):List (Str×EM):=[("name",xD (LA O))]
theorem ji(g:e.length<=1000)(h:¬ (1<=e.length/\e.length<=8)\/(b∈e.cps.toList/\low b=false)):Hw (a8 1 1 uc) (Hx y) (.str e) a:=λd _=>by
 obtain⟨c,i,k⟩:=UE (a:=d) g h;obtain⟨f,l,m⟩:=UC (y:=y) (a:=c) (j:=.str e) (.inl ⟨_,rfl⟩);exact⟨c,f,_,i,LC l,k.trans m,rS (.inl ⟨_,rfl⟩)⟩
theorem vB(h:rQ j)(d:∀a,a8 1 1 uc [j] a=.ok (.bl false) a):Hw (a8 1 1 uc) (Hx y) j a:=λb _=>by
 obtain⟨c,e,f⟩:=UC (y:=y) (a:=b) h;exact⟨b,c,_,d _,LC e,f,rS h⟩
theorem CA(h:a[b]?=some C2)(c:iD .str (.ref b) a=.ok (.bl false) a):a8 1 1 uc [.ref b] a=.ok (.bl false) a:=fR ((qT (nT (eP rfl c))).trans (qB (qR rfl)))
theorem Ki(h:a[b]?=some (.lst [.str e])):Hw (a8 1 1 uc) (Hx y) (.ref b) a:=λc K=>by
 obtain⟨q,d,i,j,f⟩:=YQ (y:=y) (K.g h) (by simp[rQ]) (by simp)
 exact⟨c,d,_,CA (K.g h) (xC (K.g h)),LC i,f,Gq (f.g (K.g h)) j⟩
theorem Om(h:a[b]?=some (.dK [])):Hw (a8 1 1 uc) (Hx y) (.ref b) a:=λc K=>by
 obtain⟨q,d,f,i,e⟩:=UD (y:=y) (K.g h);exact⟨c,d,_,CA (K.g h) (rR (K.g h)),LC f,e,Kh (e.g (K.g h)) i⟩
theorem Kj:Hw (a8 1 1 uc) (Hx y) (.tup [.str e]) a:=λb K=>by
 obtain⟨c,d,f⟩:=YR (y:=y) (a:=b) (o:=[.str e]) (by simp[rQ]) (by simp)
 exact⟨b,c,_,rfl,LC d,f,Gr⟩
def XR:AM:=(ae (aj (.str "")) (ae (aj (.str "A")) (ae (aj (.str "abcdefghi")) (ae (aj (.str "a b")) (ae (aj (.str "a1")) (ae (aj .non) (ae (aj (.int 7)) (ae (aj (.bl true)) (ae (mN bt (ae (aj (.str "a")) ak)) (ae (mN hZ (ae (aj (.str "a")) ak)) (ae c6 (ae (m2 (aY .Add) (af 1) (aj (.str " "))) (ae (m2 (aY .Mult) (af 1) (aj (.int 9))) (ae (aj (.str "a-")) ak))))))))))))))
def UG(F:List D->Out Rs):SM:=
 (aq (aH 2 (mN bt XR))
 (aq (bf (m2 aQ (af 2) (mN (bY F) (ae (af 0) (ae (aj (.int 12)) (ae (mN (bb .len) (ae (af 2) ak)) ak))))))
 ao))
noncomputable def Oo(j k:Nat)(n:Str):List D:=[.str "",.str "A",.str "abcdefghi",.str "a b",.str "a1",.non,.int 7,.bl true,.ref j,.tup [.str "a"],.ref k,.str (n++" "),.str (Ŧ n 9),.str "a-"]
theorem Gs(a b:Str):(a++b).length=a.length+b.length:=by
 show(a.cps++b.cps).size=_
 rw[Array.size_append];rfl
theorem Kk(c:ub e):∃b,(mN bt XR) [oI T,oS e,none] a=.ok (.ref b.length) (b++[.lst (Oo a.length (a.length+1) e)])/\ai [] a b/\b[a.length]?=some (.lst [.str "a"])/\b[a.length+1]?=some (.dK []):=by
 obtain⟨i,j,_⟩:=c;have d:∀a:aG,(mN bt (ae (aj (.str "a")) ak)) [oI T,oS e,none] a=.ok (.ref a.length) (a++[.lst [.str "a"]]):=λa=>eN rfl lN
 have f:∀a:aG,m2 (aY .Add) (af 1) (aj (.str " ")) [oI T,oS e,none] a=.ok (.str (e++" ")) a:=λa=>eQ rfl rfl (by
  rw[tX];simp[fE,i2,Mr,a7 (show e.length+(" ":Str).length<=100000 from by show e.length+1<=_;omega)])
 have g:∀a:aG,m2 (aY .Mult) (af 1) (aj (.int 9)) [oI T,oS e,none] a=.ok (.str (Ŧ e 9)) a:=λa=>eQ rfl rfl (by
  rw[p9]
  show jK .bad _=_
  simp[pQ];omega)
 refine⟨a++[.lst [.str "a"],.dK []],?_,ai.app,av,by simp⟩
 have h:c6 [oI T,oS e,none] (a++[.lst [.str "a"]])=.ok (.ref (a.length+1)) (a++[.lst [.str "a"],.dK []]):=by simp[c6,gM]
 exact eN (eK rfl (eK rfl (eK rfl (eK rfl (eK rfl (eK rfl (eK rfl (eK rfl (eK (d _) (eK (eN (eK rfl rfl) rfl) (eK h (eK (f _) (eK (g _) (eK rfl rfl)))))))))))))) (lN (by rfl))
theorem Kl(f:ub e)(g:a[w]?=some (.lst [.str "a"]))(h:a[b]?=some (.dK [])):∀d∈Oo w b e,Hw (a8 1 1 uc) (Hx y) d a:=by
 obtain⟨v1,v2,_⟩:=f
 have i:(Ŧ e 9).length=e.length*9:=by
  have:=aeq e 9;simp at this;omega
 intro d c;simp only[Oo,Æ,Ϟ,or_false]at c;rcases c with rfl|rfl|rfl|rfl|rfl|rfl|rfl|rfl|rfl|rfl|rfl|rfl|rfl|rfl
 .exact ji (b:=0) (by decide) (.inl (by decide))
 .exact ji (b:=65) (by decide) (.inr (by decide +kernel))
 .exact ji (b:=0) (by decide) (.inl (by decide))
 .exact ji (b:=32) (by decide) (.inr (by decide +kernel))
 .exact ji (b:=49) (by decide) (.inr (by decide +kernel))
 .exact vB (.inr (.inr (.inl rfl))) λ_=>rfl
 .exact vB (.inr (.inl ⟨_,rfl⟩)) λ_=>rfl
 .exact vB (.inr (.inr (.inr ⟨_,rfl⟩))) λ_=>rfl
 .exact Ki g
 .exact Kj
 .exact Om h
 .refine ji (b:=32) (by rw[Gs];show e.length+1<=1000;omega) (.inr ⟨?_,by decide +kernel⟩)
  show 32∈(e.cps++(" ":Str).cps).toList
  rw[Array.toList_append];exact Ô.mpr (.inr (by decide))
 .exact ji (b:=0) (by omega) (.inl (by omega))
 .exact ji (b:=45) (by decide) (.inr (by decide +kernel))
def Oq(e f:aV)(fN:List (Str×EM)):Prop:=∀(b:aG) (c:Int) (n:Str),ub n->∃d a,e [.int c,.str n] b=.ok d a/\ai [] b a/\Hw f fN d a
theorem Km(g:o.length=w)(c:a[b]?=some (.lst o))(e:0<=T)(h:T<w):∃d,d∈o/\aQ (.ref b) (.int T) a=.ok d a:=by
 obtain⟨T,rfl⟩:=acO e;have f:T<o.length:=by omega
 exact⟨o[T],by simp,bC c (L2.cf (by simp[f]))⟩
theorem Ot(f:gJ L4 E2):Oq (a8 3 2 (UG E2)) (a8 1 1 uc) (Hx y):=by
 intro e c n i;obtain⟨b,k,l,m,o⟩:=Kk (a:=e) (T:=c) i;have h:ai [] b (b++[.lst (Oo e.length (e.length+1) n)]):=ai.app;have j:(b++[Cell.lst (Oo e.length (e.length+1) n)])[b.length]?=some _:=av;obtain⟨p,q,r⟩:=f c 12 14 (by decide) (by decide) (by decide)
 obtain⟨d,s,t⟩:=Km (w:=14) rfl j p q;refine⟨d,_,fR ((qA k).trans (qR (eQ rfl (eN (eK rfl (eK rfl (eK (eN rfl (dq j)) rfl))) ?_) t))),l.trans h,Kl i (h.g m) (h.g o) d s⟩
 show bY E2 [.int c,.int 12,.int 14] _=_
 simp[r]
def y_(Cs:List Str)(f:Str)(x:D)(Ω:aG):ay D:=match x with
 |.ref k=>match Ω[k]? with
  |some (.xc C a)=>if Cs.contains C then (match a.lookup f with
   |some d=>.ok d Ω
   |none=>.bad)else .bad
  |_=>.bad
 |_=>.bad
def RH(K:A')(κ:Str->b'->Prop)(Cs:List Str)(f:Str):Prop:=∀C a,Cs.contains C=true->κ C a->(∃N b,lp K a N b)/\dw K a f
theorem xE(A:RH c.K i l e)(B:ì m e c.env (eval m c.env)=eval m c.env)(D:bc c i r m p):bc c i r (.Attribute m e n) (m1 (y_ l e) p):=
 kG (pS:=λx H Q=>∃b C j v N o,x=.ref b/\Ac H b C j/\lp c.K C N o/\dw c.K C e/\j.lookup e=some v/\Q v H) (λta E=>λpins s F H Q I h=>by
  refine qx B (cj (E pins s F H _ I h) λu s1 ⟨x,H1,I1,t,a,C,j,v,N,o,ex,ea,T,w,Ou,q⟩=>?_)
  subst ex;obtain rfl:u=À a:=t;exact DY I1 ea T w Ou λu' G J=>⟨v,H1,J,G,q⟩) D λdx x α Z Ω H Q S t g=>by
  unfold y_ at g;split at g
  .rename_i k
   split at g
   .rename_i C j L
    simp only[aw]at t;obtain⟨a,M,rfl⟩:=t;obtain⟨a',f,z,y,O,P,R⟩:=S.cell L;rw[M]at f;cases f;split at g
    .rename_i U
     obtain⟨⟨N,o,T⟩,w⟩:=A C z U O;split at g
     .rename_i d V
      obtain⟨v,X,Y⟩:=(eS R).1 d V;exact⟨a,z,y,v,N,o,rfl,P,T,w,X,bJ.ret S Y g⟩
     .exact g.elim
    .exact g.elim
   .exact g.elim
  .exact g.elim
noncomputable def za(a:List (Str×Bool))(x:D)(Ω:aG):ay D:=match x with
 |.ref k=>match Ω[k]? with
  |some (.xc C _)=>match a.lookup C with
   |some b=>.ok (.bl b) Ω
   |none=>.bad
  |_=>.bad
 |_=>.bad
def iq(K:A')(κ:Str->b'->Prop)(d:f')(c:List (Str×Bool)):Prop:=∀C a b,c.lookup C=some b->κ C a->(∃N e,lp K a N e)/\PH K a/\à K (.ref a) d=some b
def Ov(κ:Str->b'->Prop)(a:List (Str×Bool)):V->Hp->VK->Prop:=λx H Q=>∃e C d b,x=.ref e/\Ac H e C d/\(∃c,κ c C/\a.lookup c=some b)/\Q (.bl b) H
variable{S9:List (Str×Bool)}{x:V}
theorem Kn(S:bw i v q a d)(h:aw v q d j x)(g:bJ i r v q d (za S9 j a) η):Ov i S9 x d η:=by
 unfold za at g;split at g
 .rename_i k
  split at g
  .rename_i C t l
   simp only[aw]at h;obtain⟨c,m,rfl⟩:=h;obtain⟨u,e,n,f,o,p,w⟩:=S.cell l;rw[m]at e;cases e;split at g
   .rename_i b s
    exact⟨c,n,f,b,rfl,p,⟨C,o,s⟩,bJ.ret S (aP rfl) g⟩
   .exact g.elim
  .exact g.elim
 .exact g.elim
theorem xG(f:iq c.K i N S9)(h:Gl c "isinstance")(j:c.mg "isinstance"=none)(d:nG c (e,P0) N)(k:x' [m,.Name e P0] c.env=(false,eval m c.env)::x' [.Name e P0] c.env)(l:bc c i r m p):
  bc c i r (.Call (.Name "isinstance" n) [m,.Name e P0] [] J) (m1 (za S9) p):=
 kG (pS:=Ov i S9) (λs o=>Io (κ:=λC b=>∃a,i a C/\S9.lookup a=some b) o h j d (λC b ⟨a,h1,h2⟩=>f a C b h2 h1) k) l λt x u Z w H Q S q g=>Kn S q g
noncomputable def LD:List D->Option (List (Str×D))
 |[]=>some []
 |.tup [.str a,d]::t=>(LD t).map ((a,d):: ·)
 |_=>none
theorem xH:∀{l:List D}{b:List (Str×D)},LD l=some b->l=b.map λp=>.tup [.str p.1,p.2]
 |[],_,h=>by cases h;rfl
 |x::t,b,h=>by
  unfold LD at h;split at h
  .simp_all
  .rename_i a d f e
   cases e;obtain⟨g,c,rfl⟩:=Å.mp h;rw[xH c];rfl
  .exact bQ h
theorem CB:∀{a:List (Str×D)},LD (a.map λp=>.tup [.str p.1,p.2])=some a
 |[]=>rfl
 |p::t=>by simp[LD,CB]
theorem xI(h:RD c i r d0 m p)(b:Ù m none n.line c.env=pure false):Gj c i r d0 [.Expr m n] (cw p):=by
 intro a e g j k;refine jD.imp (vH (vI (h a e g j k) b)) ?_;rintro E x H ⟨rfl,l,Z,S,f⟩;exact⟨rfl,l,Z,S,eR.use S f λd o v q s t _ y u z w=>w _ q _ t u⟩
variable{L6:Ends}
theorem Ko{n:hX}{b:gz}(S:cW i v q d J0 Q1 a u d0 ο)(o:∀x a,b≠.exc x a)(f:eR i r v q d L6 b):eR i n J0 Q1 ο L6 b:=by
 cases b with
 |rt j g=>exact λc k e l p s t=>f c k e l (S.gr.trans p) s t
 |bad=>exact f
 |exc x g=>exact absurd rfl (o x g)
 |_=>exact λm k e l h=>f m k e l ⟨h.st,S.gr.trans h.gr,h.len,h.val⟩
def zb(x:D):Option (Str×List (Str×D)):=match x with
 |.tup (.str c::a)=>(LD a).map λg=>(c,g)
 |_=>none
theorem CC(h:zb j=some (e,Q3)):j=lO e Q3:=by
 unfold zb at h;split at h
 .obtain⟨g,b,a⟩:=Å.mp h
  cases a;rw[xH b];rfl
 .exact bQ h
theorem xJ:zb (lO e Q3)=some (e,Q3):=by simp[zb,lO,CB]
def mq(e:SM)(f:List Str)(i:Nat)(g:SM):SM:=λd h=>match e d h with
 |.exc x a=>(match zb x with
  |some (C,j)=>if f.contains C then (match g (d.set i (some (.ref a.length))) (a++[.xc C j])with
   |.nx b c=>.nx (b.set i none) c
   |_=>.bad)else .bad
  |none=>.bad)
 |r=>r
variable{D4:SM}{W1 Y7:List D'}
theorem CD(X:c.stack=c.env::c.outer)(Y:c.env.frame=some c.env.locals)(hg:Gl c e)(a0:c.mg e=some (.ref h))(b0:∀a G,l.contains a=true->i a G->Ĺ c.K (.ref G) (.ref h)=some true)(hN:c.N.Nodup)(hi:c.N[b]?=some M)(hn:c.env.scope.names.lookup M=some .local)(hb:∀(pl:List (b'×Obj)) (xe:f'->j'->Prop) (P:L2.St) (E:XK),eY ((c.rZ pl).wish xe) P E->Gj ((c.rZ pl).wish xe) i (eD i E) P W1 S)(c0:∀(pl:List (b'×Obj)) (g:b'),jG ((c.rZ pl).jI g) i jY (ν::Y7) D4)(d0:(e==("__debug__":Str))=false):
  jO c i r (.Try W1 [.ExceptHandler (some (.Name e n)) (some M) (ν::Y7) J] [] [] P0) (mq S l b D4):=by
 intro e0 Z0 H0 T Ω pins s σ H D I w;refine cF w λα Z j f=>?_
 refine Mj (q:=λG=>∃a,l.contains a=true/\i a G) (W:=λC d fs y=>∃a m L k u,S T Ω=.exc (lO a u) k/\l.contains a=true/\i a C/\cA α Z H m L y/\bw i m L k y/\Ur m L y u fs) I X Y hg a0 (λC z=>by obtain⟨a,z1,z2⟩:=z;exact b0 a C z1 z2) hN hi hn (λxe f0=>?_) (λC g d fs oe H' s4 hC A hW B c1 c2 c3 c4 F=>?_) d0
 .refine hb pins xe σ _ f0 α Z H T Ω [] s σ H D (I.rZ.wish xe) ⟨rfl,α,Z,⟨j.st,cA.refl j.st.has,j.len,j.val⟩,?_⟩
  unfold mq at f;cases t:S T Ω with
  |exc x k=>
   rw[t]at f;dsimp only at f;cases hx:zb x with
   |none=>rw[hx]at f;exact f.elim
   |some p=>
    obtain⟨a,u⟩:=p;rw[hx]at f;dsimp only at f;obtain rfl:=CC hx;split at f
    .rename_i U
     intro H' m L g1 Q;exact⟨a,u,rfl,λG dd vs V A fl n1 n2=>⟨G,dd,vs,rfl,⟨a,U,V⟩,rfl,A,a,m,L,k,u,rfl,U,V,g1,Q,fl⟩⟩
    .exact f.elim
  |_=>rw[t]at f;exact Ko j (by simp) f
 .obtain⟨a,m,L,k,u,t,U,V,g1,Q,fl⟩:=hW
  obtain⟨S2,g2⟩:=Q.laid (c:=.xc a u) (o:=nB g oe) B λR hR=>⟨C,fs,V,DX c1 c3 c2 c4 A,jE.imp hR fl⟩
  unfold mq at f;rw[t]at f;dsimp only at f;rw[xJ]at f;dsimp only at f;rw[if_pos U]at f;refine c0 pins g e0 Z0 H0 _ _ [] s4 _ _ _ F ⟨_,_,((j.grow g1 Q).grow g2 S2).set (d:=.ref k.length) (v:=.ref g) ?_ b,?_⟩
  .simp only[aw]
   exact⟨g,by rw[←Q.len];simp,rfl⟩
  .cases O:D4 (T.set b (some (.ref k.length))) (k++[.xc a u])with
   |nx j0 g0=>
    rw[O]at f;intro l0 H' h0 Z2 S';exact f _ H' h0 Z2 S'.Us
   |rt i0 g0=>rw[O]at f;exact f.elim
   |bk _ _=>rw[O]at f;exact f.elim
   |ct _ _=>rw[O]at f;exact f.elim
   |exc _ _=>rw[O]at f;exact f.elim
   |bad=>rw[O]at f;exact f.elim
end Mir
namespace L2
open PySem PySem.Spec PyProof.Rows
variable{A:A'}{B:X'}{G:O'}{M e:Str}{T2:Sp}{Y:Str->Option f'}{b:Nat}{h:b'}{l ω:List Str}{z:y'}{θ:N'}{ν:D'}
theorem sR.YS(F:sR A e M ν h θ)(S:gV l ω (ag ν))(i:∀d H Q E,T2 d H Q E->d.length=ω.length)(f:∀(g:f') (a:ZW) (c:b') (outer:List ZR) (s:j') (H:Hp) (d:List V) (Q:VK) (E:XK),bA b (a.deeper (ZX M (ag ν) s.heap.objs.size h g))->T2 d H Q E ->
   ∃t,jD ((cG eA B G A Y z l M (ag ν) h g a outer s H E).jI c) (aK ν) t/\t {nx:=λ_ m=>Q .non m,rt:=Q} (start l d) H):uu B G A Y z (b+1) h θ ω T2:=by
 obtain⟨oc,r,kV,n,u,w,g,ct,o,rfl,p,j⟩:=F.ex;exact Iq p j S i λa c outer s H d Q E q k=>f _ a c _ s H d Q E q k
end L2
namespace Mir
open PySem PySem.Spec PyProof.Rows L2
variable [hH]
variable{I h:b'}{J n:Pos}{L:List pd}{b:Nat}{c:Cx}{e:Str}{i:Str->b'->Prop}{l:List Str}{m:pd}{r:hX}{y:aV}{Θ:AM}{θ:N'}
theorem ql(F:uu c.prog c.w c.K c.mg c.base b I θ l (bH i y))(j:bA b c.A)(k:Gl c e)(o:c.mg e=some (.ref I))(p:Z_ c.K (.ref I)=true)(q:Binds c.K θ l [])(a:(e==("__debug__":Str))=false)(s:x' (m::L) c.env=(false,eval m c.env)::x' L c.env)(d:(ZP J (x' L c.env)).any (·.1)=false)(t:nV (c.jI h) i r (m::L) Θ):
  bc (c.jI h) i r (.Call (.Name e n) (m::L) [] J) (mN (a6 y) Θ):=by
 intro f u x z B;refine PE.imp (Ai (S0:=λ_ _ _=>False) F j k o p q (t f u x z B) a s d) ?_
 rintro R H Q ⟨C,Z,S,g⟩;exact⟨C,Z,S,pa.use g λD E _ T U G M V N O P=>⟨_,M,_,D,N,O,bJ.ok0 P⟩⟩
variable{A:A'}{B:X'}{G:O'}{M:Str}{S:SM}{Y:Str->Option f'}{z:y'}{ν:D'}{ω:List Str}
theorem xM(F:sR A e M ν h θ)(t:c_ l ω (ag ν)=true)(u:∀(k:f') (c:ZW) (a:b') (outer:List ZR) (s:j') (H:Hp) (E:XK),bA b (c.deeper (ZX M (ag ν) s.heap.objs.size h k))->jG ((cG eA B G A Y z l M (ag ν) h k c outer s H E).jI a) i jY (aK ν) S):
  uu B G A Y z (b+1) h θ ω (bH i (a8 l.length ω.length S)):=by
 refine F.YS (ee t) (λw H Q E a=>?_) λk c a outer s H w Q E x y=>?_
 .refine bp a λm Z n C f r g=>?_
  rw[r.length];unfold a8 at g;split at g
  .omega
  .exact g.elim
 .refine bp y λm Z n C f r g=>?_
  refine⟨_,u _ c a _ s H E x m Z H _ n,m,Z,ie f r,?_⟩;unfold a8 at g;split at g
  .cases q:S _ n with
   |rt d j=>rwa[q]at g
   |nx o j=>rw[q]at g;exact λK D I J p=>g _ D _ J p.gr p.st (aP rfl)
   |bk o j=>rw[q]at g;exact g.elim
   |ct o j=>rw[q]at g;exact g.elim
   |exc e j=>rwa[q]at g
   |bad=>rwa[q]at g
  .exact g.elim
end Mir
namespace L2
open PySem PySem.Spec PyProof.Rows
variable{I h:b'}{J n:Pos}{L:List pd}{O:List V}{Q:St}{Q2:TA}{R m:pd}{S0:XK}{T2:Sp}{b:Nat}{c:Cx}{e:Str}{l:List Str}{θ:N'}{υ:TE}{χ:List f'}
theorem CF{pl:Ø Bool}(Y:PE c m υ)(i:lg c.K h)(N:Meth c.K h e I)(F:bq c.prog c.w c.K c.mg c.base (jm c.prog c.w) b I θ l T2)(Z:bA b c.A)(hb:Binds c.K θ l χ)(hd:Vals O χ)(hx:eY c Q S0)(ha:PA c (R::L) Q2)(z:x' (R::L) c.env=(false,eval R c.env)::x' L c.env)(B:(ZP J (x' L c.env)).any (·.1)=false)(ht:eval (.Call (.Attribute m e n) (R::L) [] J) c.env=(do
   let P ←eval m c.env
   Þ n.atName
   let (I,first) ←ß [P] (ê P e pl)
   õ J I first (ZP J (x' (R::L) c.env)) (â J (ã [] c.env)))):
  PE c (.Call (.Attribute m e n) (R::L) [] J) (λk H d=>k=Q/\υ k H λx t=>∃a S C,x=.ref a/\t a=some (.ins h S C)/\C.lookup e=none/\Q2 k t λD y=>T2 ((x::D)++O) y d S0):=by
 intro pins s k H d g f;obtain⟨rfl,f⟩:=f;refine œ (cj (Y _ s k H _ g f) λu s1 zq=>?_) ht;refine aW zq λx t T rx E=>dI E λa S C ex ea j q=>?_
 subst ex;obtain rfl:u=À a:=rx;refine gU T ea i N j ?_;refine ğ g.ok.mod.zt N.kp (cj (ha _ _ s1 k t _ T q) λus G  zf =>aW zf λD y o r U=>⟨o.fg,?_⟩) z B
 have rr:Vals (V.ref a::D) _:=.cons rfl r;have X:=rr.append hd;have M:=hb G _ o.fg (by rw[←X.length];exact F.len _ _ _ _ U)
 refine ą (ÿ (F.run _ _ G y ⟨_,[]⟩ _ _ d S0 Z o.env0 M X U) λr s' p=>?_)
 cases r with
 |error R=>exact hx _ y G R s' o p
 |ok fl=>
  cases fl with
  |ret u=>exact o.after p
  |next=>exact Ò p
  |brk=>exact Ò p
  |cont=>exact Ò p
end L2
namespace Mir
open PySem PySem.Spec PyProof.Rows L2
variable [hH]
def MX(P:X')(w:O')(K:A')(j:Str->Option f')(base:y')(κ:Str->b'->Prop)(k:Nat)(l:b')(m:Str)(G:aV):Prop:=
 ∃f b c d a e g,Meth K l m f/\bq P w K j base (jm P w) k f b c (ff κ g)/\Binds K b c d/\Vals a d/\(∀n Z H,aE (aw n Z H) e a)/\∀h i,G h i=g (h++e) i
variable{J n:Pos}{L:List pd}{M e:Str}{R m:pd}{S0:XK}{b:Nat}{c:Cx}{d0:L2.St}{h:b'}{i:Str->b'->Prop}{p:EM}{y:aV}{Θ:AM}
theorem CG(G:∀a,i e a->a=h)(d:lg c.K h)(j:MX c.prog c.w c.K c.mg c.base i b h M y)(I:bA b c.A)(N:eY c d0 S0)(O:bc c i (eD i S0) R p)(P:nV c i (eD i S0) (m::L) Θ){pl:Ø Bool}(T:x' (m::L) c.env=(false,eval m c.env)::x' L c.env)(q:(ZP n (x' L c.env)).any (·.1)=false)(U:eval (.Call (.Attribute R M J) (m::L) [] n) c.env=(do
   let u ←eval R c.env
   Þ J.atName
   let (f,first) ←ß [u] (ê u M pl)
   õ n f first (ZP n (x' (m::L) c.env)) (â n (ã [] c.env)))):
  RD c i (eD i S0) d0 (.Call (.Attribute R M J) (m::L) [] n) (dC e M y p Θ):=by
 obtain⟨f,fd,ps,ds,V,Dd,G0,X,F,Y,hd,hD,hG⟩:=j;intro k z B C Ω;refine PE.imp (CF (O k z B C Ω) d X F I Y hd N (PA.ex λl=>P k z B C l) T q U) ?_
 rintro σ H Q ⟨rfl,α,Z,S,g⟩;refine⟨rfl,α,Z,S,bJ.use g λx l _ v H1 a0 Z1 g1 r D o=>?_⟩
 split at o
 .rename_i s C' fs hk
  split at o
  .rename_i hc
   obtain⟨rfl,hl⟩:=hc;refine bz (gP r D hk) λa b0 dx c0 t e0 _ q1 q2 q3=>?_;subst t;obtain rfl:=G _ q1
   exact⟨a,dx,_,rfl,q2,(eS q3).2 hl,_,_,Z1,S.grow g1 r,pa.use o λxs f0 _ vs H2 g0 Z2 g2 s2 r2 E=>by
    rw[hG]at E;exact⟨_,Z2,_,_,s2,(aE.cons (r.di g2 D) r2).append (hD _ _ _),E⟩⟩
  .exact o.elim
 .exact o.elim
variable{D4 S:SM}{W1 Y7:List D'}{r:hX}
theorem CH(q:jL c i r m p)(s:Gj c i r d0 W1 S)(u:Gj c i r d0 Y7 D4):Gj c i r d0 [.If m W1 Y7 n] (dk p S D4):=by
 intro d e h j w;refine jD.imp (vH (GL (q d e h j w) (jD.ex λb=>s d e h j b) (jD.ex λb=>u d e h j b))) ?_
 rintro D z H ⟨rfl,x,Z,a,f⟩;refine⟨x,Z,a,eR.IZ a f λt b A y k _ g l o=>?_⟩
 cases t with
 |true=>exact sT ⟨_,rfl,_,k,l,o⟩
 |false=>exact sS ⟨_,rfl,_,k,l,o⟩
variable{E3:Str}{I:b'}{P0 o5 u6:Pos}{l:List Str}{o0 w:Nat}{θ:N'}
theorem vC(F:uu c.prog c.w c.K c.mg c.base b I θ l (bH i y))(f:bA b c.A)(g:Gl c e)(j:c.mg e=some (.ref I))(k:Z_ c.K (.ref I)=true)(m:Binds c.K θ l [])(a:(e==("__debug__":Str))=false)(o:c.N.Nodup)(p:c.N[w]?=some M)(q:zj c.env.scope M)(s:(M==("__debug__":Str))=false)(t:(M==("__classdict__":Str))=false)(u:c.N[o0]?=some E3)(d:c.env.scope.names.lookup E3=some .local):
  jG (c.jI h) i r [.Assign [.Name E3 n] (.Call (.Name e J) [.Name M P0] [] o5) u6] (aq (aH o0 (mN (a6 y) (ae (af w) ak))) ao):=
 bP (ib o u (.inl d) (.inr d) rfl (ql F f g j k m a rfl rfl (bo (gq p q s t) cS rfl))) dm
def mB(w m:Str)(G:aV)(as:AM)(c:SM):SM:=dk (m2 (aA .Eq) (af 1) (aj (.str w))) (cw (dC "House" m G (af 0) as)) c
def Ds:AM:=ae (af 2) ak
def Kp(A T Y D L H R E:aV):SM:=mB "add" "add" A (ae (m2 aQ (af 2) (aj (.int 0))) (ae (m2 aQ (af 2) (aj (.int 1))) ak)) (mB "turn" "turn_all" T Ds (mB "may" "may_turn" Y Ds (mB "drop" "drop" D Ds (mB "line" "line" L Ds (mB "heirs" "heirs" H Ds (mB "rows" "rows_of" R Ds (cw (dC "House" "elders_of" E (af 0) Ds))))))))
def ui(A T Y D L H R E a:aV)(b:List Str):SM:=aq (aH 3 (mN hZ (ae (aj (.str "none")) (ae (aj .non) ak)))) (aq (mq (Kp A T Y D L H R E) b 4 (aq (aH 3 (mN (a6 a) (ae (af 4) ak))) ao)) (aq (bf (af 3)) ao))
noncomputable def Gu(a b m:Str)(p4 p5 p6 c d:Pos):D':=.Expr (.Call (.Attribute (.Name a p4) m p5) [.Name b p6] [] c) d
def lP(a b c w m:Str)(p:Pos×Pos×Pos×Nat×Pos×Pos×Pos×Pos×Pos×Pos)(r:D'):D':=match p with
 | (d,e,f,j,g,h,i,k,l,n)=>.If (.Compare (.Name b d) [.Eq] [.Constant (.str w) j e] f) [Gu a c m g h i k l] [r] n
noncomputable def lQ(p:Pos×Pos×Pos×Nat×Pos×Pos×Pos×Pos×Pos×Pos):Bool:=match p with
 | (_,_,_,_,_,a,_,b,_,_)=>a.endLine==b.line
theorem Hy(g:∀a,i "House" a->a=h)(d:lg c.K h)(f:MX c.prog c.w c.K c.mg c.base i b h E3 y)(j:bA b c.A)(k:eY c d0 S0)(l:∀{p},bc c i (eD i S0) (.Name e p) (af 0))(v2:∀{p},bc c i (eD i S0) (.Name M p) (af 2))(m:(J.endLine==o5.line)=true):
  Gj c i (eD i S0) d0 [Gu e M E3 n J P0 o5 u6] (cw (dC "House" E3 y (af 0) Ds)):=
 xI (CG g d f j k l (bo v2 cS rfl) rfl rfl (kN rfl (by simp;rfl) (by simp) m)) rfl
variable{F5 x9:Str}{z9:Pos×Pos×Pos×Nat×Pos×Pos×Pos×Pos×Pos×Pos}{ν:D'}
theorem lR(g:∀a,i "House" a->a=h)(k:lg c.K h)(d:MX c.prog c.w c.K c.mg c.base i b h x9 y)(f:bA b c.A)(l:eY c d0 S0)(m:∀{z9},bc c i (eD i S0) (.Name e z9) (af 0))(v1:∀{z9},bc c i (eD i S0) (.Name M z9) (af 1))(v2:∀{z9},bc c i (eD i S0) (.Name E3 z9) (af 2))(n:lQ z9=true)(o:Gj c i (eD i S0) d0 [ν] S):
  Gj c i (eD i S0) d0 [lP e M E3 F5 x9 z9 ν] (mB F5 x9 y Ds S):=by
 obtain⟨p,q,r,j,s,t,u,x,z,B⟩:=z9;exact CH (h9 f.units rfl v1 (bZ fC rfl)).2 (Hy g k d f l m v2 n) o
variable{A7 B7 C7 D7 E7 W6 Y6 f7 i7 k7 o7 u7 v7 z7:Pos}{L5:Nat}{N4 f8 i8 m8 n8 o3 z5:aV}
theorem Kq(f:∀a,i "House" a->a=h)(g:lg c.K h)(o:MX c.prog c.w c.K c.mg c.base i b h "add" y)(q:MX c.prog c.w c.K c.mg c.base i b h "turn_all" o3)(r:MX c.prog c.w c.K c.mg c.base i b h "may_turn" N4)(s:MX c.prog c.w c.K c.mg c.base i b h "drop" z5)(t:MX c.prog c.w c.K c.mg c.base i b h "line" f8)(u:MX c.prog c.w c.K c.mg c.base i b h "heirs" i8)(x:MX c.prog c.w c.K c.mg c.base i b h "rows_of" m8)(z:MX c.prog c.w c.K c.mg c.base i b h "elders_of" n8)(j:eY c d0 S0)(d:bA b c.A)(k:∀{p},bc c i (eD i S0) (.Name e p) (af 0))(v1:∀{p},bc c i (eD i S0) (.Name M p) (af 1))(v2:∀{p},bc c i (eD i S0) (.Name E3 p) (af 2)){p2 p3 p4 p5 p6:Pos×Pos×Pos×Nat×Pos×Pos×Pos×Pos×Pos×Pos}(m:((u6.endLine==Y6.line)&&lQ z9&&lQ p2&&lQ p3&&lQ p4&&lQ p5&&lQ p6&&(B7.endLine==D7.line))=true):
  Gj c i (eD i S0) d0 [.If (.Compare (.Name M n) [.Eq] [.Constant (.str "add") w J] P0) [.Expr (.Call (.Attribute (.Name e o5) "add" u6) [.Subscript (.Name E3 W6) (.Constant (.int 0) o0 k7) o7,.Subscript (.Name E3 u7) (.Constant (.int 1) L5 v7) z7] [] Y6) f7]
    [lP e M E3 "turn" "turn_all" z9 (lP e M E3 "may" "may_turn" p2 (lP e M E3 "drop" "drop" p3 (lP e M E3 "line" "line" p4 (lP e M E3 "heirs" "heirs" p5 (lP e M E3 "rows" "rows_of" p6 (Gu e E3 "elders_of" A7 B7 C7 D7 E7))))))] i7] (Kp y o3 N4 z5 f8 i8 m8 n8):=by
 simp only[Ç]at m;obtain⟨⟨⟨⟨⟨⟨⟨B,C⟩,D⟩,E⟩,l4⟩,F⟩,G⟩,H⟩:=m;have l:c.A.units+1<ZU:=by have:=d.un;omega
 exact CH (h9 d.units rfl v1 (bZ fC rfl)).2 (xI (CG f g o d j k (bo (mS l (λ_ _=>rfl) v2 (bZ qq rfl)) (bo (mS l (λ_ _=>rfl) v2 (bZ qq rfl)) cS rfl) rfl) rfl rfl (kN rfl (by simp;exact⟨rfl,rfl⟩) (by simp) B)) rfl)
   (lR f g q d j k v1 v2 C (lR f g r d j k v1 v2 D (lR f g s d j k v1 v2 E (lR f g t d j k v1 v2 l4 (lR f g u d j k v1 v2 F (lR f g x d j k v1 v2 G (Hy f g z d j k v2 H)))))))
variable{A:A'}{B:X'}{D8 E8 F8 G8 J8 M8 N8:Pos}{E1 Δ:b'}{E6:Nat}{G:O'}{V9:N'}{Y:Str->Option f'}{f9:aV}{z:y'}{ψ:aM}{ω:List Str}
theorem zc(W:aO B G A Y z ψ b)(F:sR A e M ν h θ){tn en bn fn:Str}(P:c_ [E3,F5,x9,tn,en] [E3,F5,x9] (ag ν)=true)(Q:∀a,aS Y "House" a->a=I)(R:lg A I)(S:MX B G A Y z (aS Y) b I "add" y)(T:MX B G A Y z (aS Y) b I "turn_all" o3)(U:MX B G A Y z (aS Y) b I "may_turn" N4)(V:MX B G A Y z (aS Y) b I "drop" z5)(X:MX B G A Y z (aS Y) b I "line" f8)(Z:MX B G A Y z (aS Y) b I "heirs" i8)(mR:MX B G A Y z (aS Y) b I "rows_of" m8)(mE:MX B G A Y z (aS Y) b I "elders_of" n8)(Ff:uu B G A Y z b E1 V9 ω (bH (aS Y) f9))(m:Binds A V9 ω [])(mf:Y fn=some (.ref E1))(kf:Z_ A (.ref E1)=true){j5 j6:Nat}{d6 c2 c3 c4 c5 k pos q1 q2:Pos}{p2 p3 p4 p5 p6:Pos×Pos×Pos×Nat×Pos×Pos×Pos×Pos×Pos×Pos}(o:aK ν=[.Assign [.Name tn n] (.Tuple [.Constant (.str "none") w J,.Constant .none o0 P0] L5 o5) u6,
   .Try [.If (.Compare (.Name F5 W6) [.Eq] [.Constant (.str "add") E6 Y6] f7) [.Expr (.Call (.Attribute (.Name E3 i7) "add" k7) [.Subscript (.Name x9 o7) (.Constant (.int 0) j5 A7) B7,.Subscript (.Name x9 C7) (.Constant (.int 1) j6 D7) E7] [] u7) v7]
    [lP E3 F5 x9 "turn" "turn_all" z9 (lP E3 F5 x9 "may" "may_turn" p2 (lP E3 F5 x9 "drop" "drop" p3 (lP E3 F5 x9 "line" "line" p4 (lP E3 F5 x9 "heirs" "heirs" p5 (lP E3 F5 x9 "rows" "rows_of" p6 (Gu E3 x9 "elders_of" D8 E8 F8 G8 J8))))))] z7]
    [.ExceptHandler (some (.Name bn M8)) (some en) [.Assign [.Name tn N8] (.Call (.Name fn c2) [.Name en c3] [] c4) c5] k] [] [] pos,.Return (some (.Name tn q1)) q2])(hl:((k7.endLine==u7.line)&&lQ z9&&lQ p2&&lQ p3&&lQ p4&&lQ p5&&lQ p6&&(E8.endLine==G8.line))=true)(q:Y bn=some (.ref Δ))(r:∀c I,l.contains c=true->aS Y c I->Ĺ A (.ref I) (.ref Δ)=some true)(s0:(ag ν).names.lookup E3=some .local)(s1:(ag ν).names.lookup F5=some .local)(s2:(ag ν).names.lookup x9=some .local)(g:(ag ν).names.lookup tn=some .local)(L:(ag ν).names.lookup en=some .local)(sb:(ag ν).names.lookup bn=some .globalImplicit)(sf:(ag ν).names.lookup fn=some .globalImplicit)(t:([E3,F5,x9,tn,en,bn,fn].all λd=>!(d==("__debug__":Str))&&!(d==("__classdict__":Str)))=true):
  bq B G A Y z eA (b+1) h θ [E3,F5,x9] (bH (aS Y) (a8 5 3 (ui y o3 N4 z5 f8 i8 m8 n8 f9 l))):=by
 have i:∀d∈[E3,F5,x9,tn,en,bn,fn],(d==("__debug__":Str))=false/\(d==("__classdict__":Str))=false:=λd hz=>by
  have:=Õ.mp t d hz;simpa using this
 refine Gm (l:=[E3,F5,x9,tn,en]) (ω:=[E3,F5,x9]) W F P λa0 u outer s H E f=>?_
 have x:=f.sh;rw[o];have vr:∀{C:Cx}{Φ:hX}{j:Nat}{d:Str}{p:Pos},C.N=[E3,F5,x9,tn,en]->C.env.scope=ag ν->[E3,F5,x9,tn,en][j]?=some d->(ag ν).names.lookup d=some .local->(d==("__debug__":Str))=false/\(d==("__classdict__":Str))=false->bc C (aS Y) Φ (.Name d p) (af j):=λe1 e2 h1 h2 O=>gq (by rw[e1];exact h1) (by rw[e2];exact .inl h2) O.1 O.2
 refine bP (ib (b:=3) x rfl (.inl g) (.inr g) rfl (kI (bo (bZ fC rfl) (bo (bZ zu rfl) cS rfl) rfl))) (bP ?_ (bP (gu (vr (j:=3) rfl rfl rfl g (i _ (by simp)))) dm))
 refine CD (b:=4) rfl rfl sb q r x rfl L (λpl xe b0 E' D=>?_) (λpl K=>?_) (i bn (by simp)).1
 .exact Kq Q R S T U V X Z mR mE D f.room (vr (j:=0) rfl rfl rfl s0 (i _ (by simp))) (vr (j:=1) rfl rfl rfl s1 (i _ (by simp))) (vr (j:=2) rfl rfl rfl s2 (i _ (by simp))) hl
 .exact vC (w:=4) (o0:=3) Ff f.room sf mf kf m (i fn (by simp)).1 x rfl (.inl L) (i en (by simp)).1 (i en (by simp)).2 rfl g
end Mir
namespace Mir
open PySem PySem.Spec PyProof.Rows L2
def CI:V->List V->Hp->VK->Prop:=λx b H Q=>∃Z a d y,b=[y]/\Now Z H (.lst a) x/\Now Z H d y/\aN 8 d=true/\a.all (aN 8)=true/\Q (.int (a.countP (λe=>eJ e d):Nat)) H
theorem rU{A B:Type}{p:A->Bool}{q:B->Bool}{l:List A}{r:List B}(c:l.length=r.length)(h:∀m (a:m<l.length) (b:m<r.length),p l[m]=q r[m]):l.countP p=r.countP q:=by
 have e:l.map p=r.map q:=List.ext_getElem (by simp[c]) λm a b=>by
  rw[acP,acP];exact h m (by simpa using a) (by simpa using b)
 have:=congrArg (List.countP id) e;rwa[acQ,acQ]at this
variable{c:Cx}
theorem CJ(hu:c.A.units+64<ZU):Ig c "list.count" CI:=by
 intro pins s σ H x vs v us Q I K L h;obtain⟨Z,f,d,y,rfl,M,N,D,o2,q⟩:=h;obtain⟨l,ws,rfl,O,t⟩:=c7 M;cases K;obtain⟨u,rfl,P⟩:=L.one;refine bF (I.list (mO O)) λa i R hz=>?_
 have E:=i.length;have p:=t.length;refine bS R λo n S T k U=>?_
 have j:∀m (g:m<f.length),aN 8 f[m]=true:=λm g=>Õ.mp o2 _ (by simp)
 classical
 let e:=λw=>decide (∃m,∃(g:m<a.length) (k:m<f.length),a[m]=w/\eJ f[m] d=true)
 have r:∀m (g:m<a.length) (k:m<f.length),e a[m]=eJ f[m] d:=λm g k=>by
  cases G:eJ f[m] d with
  |true=>exact decide_eq_true ⟨m,g,k,rfl,G⟩
  |false=>
   refine decide_eq_false ?_;rintro⟨V,z,b,X,e2⟩;obtain⟨v1,B,C⟩:=fy t i g k;obtain⟨v2,Y,J⟩:=fy t i z b;rw[X]at J;have:=wg C J;subst this;rw[Rep.uniq _ _ _ _ (j m k) (j V b) B Y]at G
   simp_all
 refine Ģ acR ⟨_,S,T⟩ F.entry_list_count (F.args_list_count_2 _ _) (SeqAt.list_countAt l a.toArray n none o.slots u e) ⟨?_,λw hw=>?_,?_⟩
 .obtain⟨c',d',dt,sl⟩:=o
  simp_all
 .obtain⟨m,g,rfl⟩:=acr.mp (by simpa using hw)
  have b:m<f.length:=R' (R' g (V' E.symm)) (V' p);rw[r m g b];obtain⟨v1,B,C⟩:=fy t i g b;exact gH I 8 _ _ _ _ _ (by grind) (j m _) D (gp I B.now C (j m _)) (gp I N P D)
 .refine⟨.int (f.countP (λe=>eJ e d):Nat),H,I.tok _,?_,q⟩
  rw[show a.toArray.toList.countP e=f.countP (λe=>eJ e d)from rU (by simpa using (p.symm.trans E).symm) λm h1 h2=>by simpa using r m h1 h2]
  exact⟨_,rfl⟩
variable [hH]
def jj(x:D)(xs:List D)(Ω:aG):ay D:=match xs with
 |[y]=>fj (λa b=>match a with|.lst c=>if aN 8 b&&c.all (aN 8)then .ok (false,.int (c.countP (λe=>eJ e b):Nat))else .bad|_=>.bad) x y Ω
 |_=>.bad
variable{O:List V}{a:aG}{d:Hp}{i:Str->b'->Prop}{j:D}{o:List D}{q:b'->Prop}{r:hX}{v:List b'}{x:V}{η:VK}
theorem CL(S:bw i v q a d)(b:aw v q d j x)(m:aE (aw v q d) o O)(g:bJ i r v q d (jj j o a) η):CI x O d η:=by
 unfold jj at g;split at g
 .obtain⟨u,rfl,n⟩:=fw m
  refine bp (gN (C:=false) S b n g) λc e p y s t h=>xa h λf k=>?_
  cases c with
  |lst w=>
   dsimp only at f;split at f
   .rename_i l
    simp only[Ç]at l;cases f;exact⟨_,w,e,u,rfl,s,t,l.1,l.2,jU (eh S) k rfl⟩
   .exact sd f
  |_=>exact sd f
 .exact g.elim
abbrev Kr:=Str×(Pos×Pos×Pos×Pos)×List (Str×Bool)
noncomputable def Gv(en:Str)(z:Kr):pd:=.Call (.Name "isinstance" z.2.1.1) [.Name en z.2.1.2.1,.Name z.1 z.2.1.2.2.1] [] z.2.1.2.2.2
def UH(t:List (Str×Bool)):EM:=m1 (za t) (af 0)
def RI(l:List (List (Str×Bool))):AM:=l.foldr (λt a=>ae (UH t) a) ak
def zd(l1 l2:List (List (Str×Bool)))(z0:List (Str×Bool))(a:List Str):SM:=
 aq (aH 1 (mN bt (RI l1))) (aq (aH 1 (m2 (aY .Add) (af 1) (mN bt (RI l2))))
 (aq (dk (Bc (jF (UH z0)) (m2 (aA .NotEq) (dU mz jj (af 1) (ae (aj (.bl true)) ak)) (aj (.int 1)))) (aq (bf (aj (.str "other"))) ao) ao)
 (aq (bf (m2 aQ (mN bt (a.foldr (λx b=>ae (aj (.str x)) b) ak)) (dU mz gy (af 1) (ae (aj (.bl true)) ak)))) ao)))
theorem CO{X:Cx}{κ:Str->b'->Prop}{a:hX}{en:Str}(b:∀{p},bc X κ a (.Name en p) (af 0))(c:Gl X "isinstance")(d:X.mg "isinstance"=none):∀l:List Kr,(∀z∈l,∃v,iq X.K κ v z.2.2/\∀r,nG X (z.1,r) v)->nV X κ a (l.map (Gv en)) (RI (l.map (·.2.2)))
 |[],_=>cS
 |z::l,h=>by
  obtain⟨v,e,f⟩:=h z (by simp)
  exact bo (xG e c d (f _) rfl b) (CO b c d l λz g=>h z (by simp[g])) rfl
noncomputable def kE(z:Str×Nat×Pos):pd:=.Constant (.str z.1) z.2.1 z.2.2
theorem CP{X:Cx}{κ:Str->b'->Prop}{a:hX}:∀l:List (Str×Nat×Pos),nV X κ a (l.map kE) ((l.map (·.1)).foldr (λx as=>ae (aj (.str x)) as) ak)
 |[]=>cS
 |_::l=>bo (bZ fC rfl) (CP l) rfl
variable{A:A'}{A7 B7 C7 D7 D8 E7 E8 F8 G8 J J8 M8 N8 P0 W6 Y6 f7 i7 k7 n o5 o7 u6 u7 v7 z7:Pos}{B:X'}{E6 L5 b o0 w:Nat}{G:O'}{M e:Str}{Y:Str->Option f'}{z:y'}{ν:D'}{ψ:aM}
theorem Gw(W:aO B G A Y z ψ b){l1 l2:List Kr}{z0:Kr}{ks:List (Str×Nat×Pos)}(i:(o7.endLine==v7.line)=true/\(F8.endLine==J8.line)=true)(U:∀a∈l1,∃v,iq A (aS Y) v a.2.2/\Y a.1=some v/\(ag ν).names.lookup a.1=some .globalImplicit/\(a.1==("__debug__":Str))=false)(V:∀a∈l2,∃v,iq A (aS Y) v a.2.2/\Y a.1=some v/\(ag ν).names.lookup a.1=some .globalImplicit/\(a.1==("__debug__":Str))=false)(h3:∃v,iq A (aS Y) v z0.2.2/\Y z0.1=none/\ò z0.1=some v/\(ag ν).names.lookup z0.1=some .globalImplicit/\z0.1≠"__name__"/\(z0.1==("__debug__":Str))=false)(se:(ag ν).names.lookup e=some .local)(I:(ag ν).names.lookup M=some .local)(si:(ag ν).names.lookup ("isinstance":Str)=some .globalImplicit)(k:∀a∈[e,M],(a==("__debug__":Str))=false/\(a==("__classdict__":Str))=false)(Sc:[e,M].Nodup)(X:Cx)(m:X.N=[e,M])(c:X.env.scope=ag ν)(e3:X.K=A)(e4:X.mg=Y)(q:X.A.units+64<ZU):jG X (aS Y) jY [.Assign [.Name M n] (.List (l1.map (Gv e)) J) P0,.Assign [.Name M o5] (.BinOp (.Name M u6) .Add (.List (l2.map (Gv e)) W6) Y6) f7,
   .If (.BoolOp .Or [.UnaryOp .Not (Gv e z0) i7,.Compare (.Call (.Attribute (.Name M k7) "count" o7) [.Constant (.bool true) w u7] [] v7) [.NotEq] [.Constant (.int 1) o0 z7] A7] B7) [.Return (some (.Constant (.str "other") L5 C7)) D7] [] E7,
   .Return (some (.Subscript (.List (ks.map kE) D8) (.Call (.Attribute (.Name M E8) "index" F8) [.Constant (.bool true) E6 G8] [] J8) M8)) N8] (zd (l1.map (·.2.2)) (l2.map (·.2.2)) z0.2.2 (ks.map (·.1))):=by
 subst e3;subst e4;have L:∀{p},bc X (aS X.mg) jY (.Name e p) (af 0):=gq (by rw[m];rfl) (by rw[c];exact .inl se) (k e (by simp)).1 (k e (by simp)).2
 have v1:∀{p},bc X (aS X.mg) jY (.Name M p) (af 1):=gq (by rw[m];rfl) (by rw[c];exact .inl I) (k M (by simp)).1 (k M (by simp)).2
 have O:Gl X "isinstance":=by show X.env.scope.names.lookup _=_;rw[c];exact si
 have P:X.mg "isinstance"=none:=W.eU _ (by decide)
 have d:∀l:List Kr,(∀a∈l,∃v,iq X.K (aS X.mg) v a.2.2/\X.mg a.1=some v/\(ag ν).names.lookup a.1=some .globalImplicit/\(a.1==("__debug__":Str))=false)->nV X (aS X.mg) jY (l.map (Gv e)) (RI (l.map (·.2.2))):=λl i=>CO L O P l λa hz=>by
  obtain⟨v,s,t,u,y⟩:=i a hz;exact⟨v,s,λr=>uO (by show X.env.scope.names.lookup _=_;rw[c];exact u) t y⟩
 have f:X.N.Nodup:=by rw[m];exact Sc
 have R:X.N[1]?=some M:=by rw[m];rfl
 have o:X.env.scope.names.lookup M=some .local:=by rw[c];exact I
 obtain⟨v,s,t,u,y,q5,q6⟩:=h3;have t0:jL X (aS X.mg) jY (Gv e z0) (UH z0.2.2):=EK (xG s O P (uP (by show X.env.scope.names.lookup _=_;rw[c];exact y) t u q5 q6) rfl L) λ_=>rfl
 have T:∀{j p},nV X (aS X.mg) jY [.Constant (.bool true) j p] (ae (aj (.bl true)) ak):=bo (bZ GK rfl) cS rfl;refine bP (ib (b:=1) f R (.inl o) (.inr o) rfl (kH (d l1 U))) (bP (ib (b:=1) f R (.inl o) (.inr o) rfl (wt v1 (kH (d l2 V)))) (bP (om (Be (wA t0) (wB (h9 q rfl (jX ĩ acR PySem.F.type_list_count (CJ q) (λx v C Z D H S r h=>jW S r h) (λx v xs vs C Z D H Q S r E g=>CL S r E g) rfl i.1 v1 T (by simp;rfl) (by simp)) (bZ qq rfl)).2)).pt (bP (gu (bZ fC rfl)) dm) dm) (bP (gu (mS (by omega) (λ_ _=>rfl) (kH (CP ks)) (jX ĩ aaD acx (tj q) (λx v C Z D H S r h=>jW S r h) (λx v xs vs C Z D H Q S r E g=>tG S r E g) rfl i.2 v1 T (by simp;rfl) (by simp)))) dm)))
variable{E3 F5:Str}{h:b'}{θ:N'}
theorem Ks(W:aO B G A Y z ψ b)(F:sR A e M ν h θ){ve:Str}(j:c_ [E3,F5] [E3] (ag ν)=true){l1 l2:List Kr}{z0:Kr}{ks:List (Str×Nat×Pos)}(d:aK ν=[.Assign [.Name F5 n] (.List (l1.map (Gv E3)) J) P0,.Assign [.Name F5 o5] (.BinOp (.Name F5 u6) .Add (.List (l2.map (Gv E3)) W6) Y6) f7,
   .If (.BoolOp .Or [.UnaryOp .Not (Gv E3 z0) i7,.Compare (.Call (.Attribute (.Name F5 k7) "count" o7) [.Constant (.bool true) w u7] [] v7) [.NotEq] [.Constant (.int 1) o0 z7] A7] B7) [.Return (some (.Constant (.str "other") L5 C7)) D7] [] E7,
   .Return (some (.Subscript (.List (ks.map kE) D8) (.Call (.Attribute (.Name F5 E8) "index" F8) [.Constant (.bool true) E6 G8] [] J8) M8)) N8])(k:((o7.endLine==v7.line)&&(F8.endLine==J8.line))=true)(m:∀a∈l1,∃v,iq A (aS Y) v a.2.2/\Y a.1=some v/\(ag ν).names.lookup a.1=some .globalImplicit/\(a.1==("__debug__":Str))=false)(o:∀a∈l2,∃v,iq A (aS Y) v a.2.2/\Y a.1=some v/\(ag ν).names.lookup a.1=some .globalImplicit/\(a.1==("__debug__":Str))=false)(p:∃v,iq A (aS Y) v z0.2.2/\Y z0.1=none/\ò z0.1=some v/\(ag ν).names.lookup z0.1=some .globalImplicit/\z0.1≠"__name__"/\(z0.1==("__debug__":Str))=false)(q:(ag ν).names.lookup E3=some .local)(r:(ag ν).names.lookup F5=some .local)(t:(ag ν).names.lookup ("isinstance":Str)=some .globalImplicit)(f:([E3,F5].all λa=>!(a==("__debug__":Str))&&!(a==("__classdict__":Str)))=true):
  uu B G A Y z (b+1) h θ [E3] (bH (aS Y) (a8 2 1 (zd (l1.map (·.2.2)) (l2.map (·.2.2)) z0.2.2 (ks.map (·.1))))):=by
 have u:∀a∈[E3,F5],(a==("__debug__":Str))=false/\(a==("__classdict__":Str))=false:=λa x=>by
  have:=Õ.mp f a x;simpa using this
 simp only[Ç]at k;generalize y:zd (l1.map (·.2.2)) (l2.map (·.2.2)) z0.2.2 (ks.map (·.1))=c;refine xM (l:=[E3,F5]) (ω:=[E3]) F j λC g i outer s H E D=>?_
 subst y;have I:=ee j;rw[d];exact Gw W k m o p q r t u I.nd _ rfl rfl rfl rfl D.units
def Gx(G:aV)(c1 c2:List Str):SM:=
 aq (aH 1 (mN (a6 G) (ae (af 0) ak)))
 (aq (dk (m2 (aA .Eq) (af 1) (aj (.str "many"))) (aq (bf (mN hZ (ae (af 1) (ae (m1 (y_ c1 "most") (af 0)) ak)))) ao) ao)
 (aq (dk (m2 (aA .Eq) (af 1) (aj (.str "heired"))) (aq cu ao) ao)
 (aq (dk (m2 (aA .In) (af 1) (mN bt (ae (aj (.str "name")) (ae (aj (.str "twice")) (ae (aj (.str "kind")) ak))))) (aq (bf (mN hZ (ae (af 1) (ae (m1 (y_ c2 "name") (af 0)) ak)))) ao) ao)
 (aq (bf (mN hZ (ae (af 1) (ae (aj .non) ak)))) ao))))
variable{I:b'}{V9:N'}{W7 l ω:List Str}{x9:Str}{y:aV}
theorem Kt(F:sR A e M ν h θ)(t:c_ [E3,F5] [E3] (ag ν)=true)(x:uu B G A Y z b I V9 l (bH (aS Y) y))(j:Binds A V9 l [])(C:Y x9=some (.ref I))(D:Z_ A (.ref I)=true)(K:RH A (aS Y) ω "most")(L:RH A (aS Y) W7 "name"){N O P Q:Nat}{R:D'}{S T U V f4 X Z g3 g4:Pos}(k:aK ν=[.Assign [.Name F5 n] (.Call (.Name x9 J) [.Name E3 P0] [] o5) u6,
   .If (.Compare (.Name F5 W6) [.Eq] [.Constant (.str "many") w Y6] f7) [.Return (some (.Tuple [.Name F5 i7,.Attribute (.Name E3 k7) "most" o7] o0 u7)) v7] [] z7,
   .If (.Compare (.Name F5 A7) [.Eq] [.Constant (.str "heired") L5 B7] C7) [R] [] D7,
   .If (.Compare (.Name F5 E7) [.In] [.List [.Constant (.str "name") E6 T,.Constant (.str "twice") N U,.Constant (.str "kind") O V] D8] E8) [.Return (some (.Tuple [.Name F5 F8,.Attribute (.Name E3 G8) "name" J8] P M8)) N8] [] S,
   .Return (some (.Tuple [.Name F5 X,.Constant .none Q Z] 0 g3)) g4])(se:(ag ν).names.lookup E3=some .local)(m:(ag ν).names.lookup F5=some .local)(sg:(ag ν).names.lookup x9=some .globalImplicit)(o:([E3,F5,x9].all λa=>!(a==("__debug__":Str))&&!(a==("__classdict__":Str)))=true):
  uu B G A Y z (b+1) h θ [E3] (bH (aS Y) (a8 2 1 (Gx y ω W7))):=by
 have i:∀a∈[E3,F5,x9],(a==("__debug__":Str))=false/\(a==("__classdict__":Str))=false:=λa hz=>by
  have:=Õ.mp o a hz;simpa using this
 generalize hc:Gx y ω W7=c;refine xM (l:=[E3,F5]) (ω:=[E3]) F t λg d f outer s H E u=>?_
 subst hc;have Sc:=ee t;rw[k];have q:∀{p},bc ((cG eA B G A Y z [E3,F5] M (ag ν) h g d outer s H E).jI f) (aS Y) jY (.Name E3 p) (af 0):=gq rfl (.inl se) (i E3 (by simp)).1 (i E3 (by simp)).2
 have v1:∀{p},bc ((cG eA B G A Y z [E3,F5] M (ag ν) h g d outer s H E).jI f) (aS Y) jY (.Name F5 p) (af 1):=gq rfl (.inl m) (i F5 (by simp)).1 (i F5 (by simp)).2
 have r:((cG eA B G A Y z [E3,F5] M (ag ν) h g d outer s H E).jI f).A.units+64<ZU:=u.units;refine bP (ib (b:=1) Sc.nd rfl (.inl m) (.inr m) rfl (ql x u sg C D j (i x9 (by simp)).1 rfl rfl (bo q cS rfl))) ?_
 refine bP (om (h9 r rfl v1 (bZ fC rfl)).2 (bP (gu (kI (bo v1 (bo (xE K rfl q) cS rfl) rfl))) dm) dm) ?_;refine bP (om (h9 r rfl v1 (bZ fC rfl)).2 (bP jt dm) dm) ?_;refine bP (om (h9 r rfl v1 (kH (bo (bZ fC rfl) (bo (bZ fC rfl) (bo (bZ fC rfl) cS rfl) rfl) rfl))).2 (bP (gu (kI (bo v1 (bo (xE L rfl q) cS rfl) rfl))) dm) dm) ?_;exact bP (gu (kI (bo v1 (bo (bZ zu rfl) cS rfl) rfl))) dm
noncomputable def jB:List Str:=["NoName","Twice","NoKind","TooMany"]
noncomputable def wd(C:Str):Str:=if C="NoName" then "name" else if C="Twice" then "twice" else if C="NoKind" then "kind" else "many"
def kZ(c:Str):List (Str×Bool):=jB.map λC=>(C,C==c)
def LF:List (Str×Bool):=jB.map λC=>(C,true)
theorem CQ(a:e∈jB):e="NoName"\/e="Twice"\/e="NoKind"\/e="TooMany":=by
 simpa[jB]using a
def l4(c1 c2 c3 c4:Str):List (List (Str×Bool)):=[kZ c1,kZ c2,kZ c3,kZ c4]
noncomputable def Ow:List Str:=["name","twice","kind","many","heired","loop","ring","tangled"]
def Ox(c:aV):Prop:=∀(b:aG) (j:Nat) (C:Str) (d:List (Str×D)),b[j]?=some (.xc C d)->C∈jB->∃a,c [.ref j] b=.ok (.str (wd C)) a/\ai [] b a
variable{C:Bool}{Q3:List (Str×D)}{S9:List (Str×Bool)}
theorem ir(h:a[b]?=some (.xc e Q3))(c:S9.lookup e=some C):za S9 (.ref b) a=.ok (.bl C) a:=by
 simp only[za,h,c]
noncomputable def L8(a b c d:Bool):List D:=[.bl a,.bl b,.bl c,.bl d]++[.bl false,.bl false,.bl false,.bl false]
theorem Oy:Ox (a8 2 1 (zd (l4 "NoName" "Twice" "NoKind" "TooMany") (l4 "Heired" "Loop" "Ring" "Tangled") LF Ow)):=by
 intro b j C Y h D
 have c:∀(d e f l:Bool) (i:Nat),(kZ "NoName").lookup C=some d->(kZ "Twice").lookup C=some e->(kZ "NoKind").lookup C=some f->(kZ "TooMany").lookup C=some l->(kZ "Heired").lookup C=some false->(kZ "Loop").lookup C=some false->(kZ "Ring").lookup C=some false->(kZ "Tangled").lookup C=some false->LF.lookup C=some true ->
   (∀{b:aG}{k},fA b 8 (.ref k)=some (.lst (L8 d e f l))->jj (.ref k) [.bl true] b=.ok (.int 1) b/\gy (.ref k) [.bl true] b=.ok (.int i) b) ->
   Ow[i]?=some (wd C)->∃m,a8 2 1 (zd (l4 "NoName" "Twice" "NoKind" "TooMany") (l4 "Heired" "Loop" "Ring" "Tangled") LF Ow) [.ref j] b=.ok (.str (wd C)) m/\ai [] b m:=by
  intro d e f l i E F G H I J K L M z N;obtain⟨O,P,A,Q⟩:=kA (eN (u:=[oR j,none]) (eK (eP (p:=af 0) rfl (ir h E)) (eK (eP (p:=af 0) rfl (ir h F)) (eK (eP (p:=af 0) rfl (ir h G)) (eK (eP (p:=af 0) rfl (ir h H)) (Θ:=ak) rfl)))) lN);have n:=A.g h;obtain⟨q,R,t,S⟩:=kA (eN (u:=[oR j,oR b.length]) (eK (eP (p:=af 0) rfl (ir n I)) (eK (eP (p:=af 0) rfl (ir n J)) (eK (eP (p:=af 0) rfl (ir n K)) (eK (eP (p:=af 0) rfl (ir n L)) (Θ:=ak) rfl)))) lN);obtain⟨w,T,B,s⟩:=kA (jz (t.g Q) S (by simp))
  have U:=B.g (t.g n);obtain⟨x,V,y,X⟩:=kA (lN (o:=Ow.map .str) (a:=w));have r:∀{b:aG},b[q.length]?=some (.lst (L8 d e f l))->fA b 8 (.ref q.length)=some (.lst (L8 d e f l)):=λ{b} g=>by simp only[fA,g];rfl
  refine⟨x,fR ((qA P).trans ((qA (eQ rfl R T)).trans ((q0 (oF (nT (eP rfl (ir U M))) (eQ (eL rfl rfl (dc s) (z (r s)).1) rfl rfl))).trans (qR (eQ (eN rfl V) (eL rfl rfl (dc (y.g s)) (z (r (y.g s))).2) (bC X (L2.cf (by rw[å,N];rfl)))))))),(A.trans t).trans (B.trans y)⟩
 rcases CQ D with rfl|rfl|rfl|rfl
 .exact c true false false false 0 rfl rfl rfl rfl rfl rfl rfl rfl rfl (λ{b k} h=>by simp only[jj,gy,fj,h];exact⟨rfl,rfl⟩) rfl
 .exact c false true false false 1 rfl rfl rfl rfl rfl rfl rfl rfl rfl (λ{b k} h=>by simp only[jj,gy,fj,h];exact⟨rfl,rfl⟩) rfl
 .exact c false false true false 2 rfl rfl rfl rfl rfl rfl rfl rfl rfl (λ{b k} h=>by simp only[jj,gy,fj,h];exact⟨rfl,rfl⟩) rfl
 .exact c false false false true 3 rfl rfl rfl rfl rfl rfl rfl rfl rfl (λ{b k} h=>by simp only[jj,gy,fj,h];exact⟨rfl,rfl⟩) rfl
def Ku(c:aV):Prop:=∀(b:aG) (j:Nat) (C:Str) (d:D),b[j]?=some (.xc C [(Ly C,d)])->C∈jB->∃a,c [.ref j] b=.ok (.tup [.str (wd C),d]) a/\ai [] b a
theorem rV(h:a[b]?=some (.xc e Q3))(c:l.contains e=true)(d:Q3.lookup M=some j):y_ l M (.ref b) a=.ok j a:=by
 simp only[y_,h,c,d,if_true]
theorem jC:aA .Eq (.str e) (.str M) a=.ok (.bl (e==M)) a:=rfl
theorem Oz(s:Ox y):Ku (a8 2 1 (Gx y ["TooMany"] ["NoName","Twice","NoKind"])):=by
 intro t j C d h q;obtain⟨f,k,i⟩:=s t j C _ h q;have r:=i.g h;obtain⟨b,n,m,u⟩:=kA (lN (o:=[.str "name",.str "twice",.str "kind"]) (a:=f));have p:=m.g r;have c:=il (e:=wd C) (l:=["name","twice","kind"]) u;rcases CQ q with rfl|rfl|rfl|rfl
 .exact⟨b,fR ((qA (eC rfl k)).trans ((q0 (eQ rfl rfl rfl)).trans ((q0 (eQ rfl rfl rfl)).trans ((qT (eQ rfl (eN rfl n) c)).trans (qB (qR (eN (eK rfl (eK (eP rfl (rV p rfl rfl)) rfl)) rfl))))))),i.trans m⟩
 .exact⟨b,fR ((qA (eC rfl k)).trans ((q0 (eQ rfl rfl rfl)).trans ((q0 (eQ rfl rfl rfl)).trans ((qT (eQ rfl (eN rfl n) c)).trans (qB (qR (eN (eK rfl (eK (eP rfl (rV p rfl rfl)) rfl)) rfl))))))),i.trans m⟩
 .exact⟨b,fR ((qA (eC rfl k)).trans ((q0 (eQ rfl rfl rfl)).trans ((q0 (eQ rfl rfl rfl)).trans ((qT (eQ rfl (eN rfl n) c)).trans (qB (qR (eN (eK rfl (eK (eP rfl (rV p rfl rfl)) rfl)) rfl))))))),i.trans m⟩
 .exact⟨f,fR ((qA (eC rfl k)).trans ((qT (eQ rfl rfl rfl)).trans (qB (qR (eN (eK rfl (eK (eP rfl (rV r rfl rfl)) rfl)) rfl))))),i⟩
variable{S:SM}{u:bh}{Θ:AM}
theorem uj(h:u[1]?=some (oS e)):mB e M y Θ S u a=cw (dC "House" M y (af 0) Θ) u a:=by
 have b:m2 (aA .Eq) (af 1) (aj (.str e)) u a=.ok (.bl true) a:=eQ (by rw[kQ,h];rfl) rfl (by rw[jC,beq_self_eq_true])
 unfold mB;rw[fS,b];rfl
theorem d_(h:u[1]?=some (oS E3))(c:(E3==e)=false:=by rfl):mB e M y Θ S u a=S u a:=by
 have b:m2 (aA .Eq) (af 1) (aj (.str e)) u a=.ok (.bl false) a:=eQ (by rw[kQ,h];rfl) rfl (by rw[jC,c])
 unfold mB;rw[fS,b];rfl
def sm(o:Rf):D:=match o with
 |none=>.tup [.str "none",.non]
 |some p=>.tup [.str (wd p.1),p.2]
abbrev rT(h:Nat)(w:Str)(a:D):bh:=[oR h,oS w,some a,some (.tup [.str "none",.non]),none]
variable{H:aG}{N4 f8 f9 i8 m8 n8 o3 z5:aV}{y8:Str×D}
theorem oN(g:Ku y)(h:Kp o3 N4 z5 f8 i8 m8 n8 f9 (rT b e j) a=.exc (xF y8) H)(f:y8.1∈jB):∃az,a8 5 3 (ui o3 N4 z5 f8 i8 m8 n8 f9 y jB) [.ref b,.str e,j] a=.ok (sm (some y8)) az/\ai [] H az:=by
 obtain⟨C,d⟩:=y8;have i:ai [] H (H++[.xc C [(Ly C,d)]]):=ai.app;obtain⟨c,k,l⟩:=g (H++[.xc C [(Ly C,d)]]) H.length C d av f;have m:jB.contains C=true:=by simpa using f
 have n:mq (Kp o3 N4 z5 f8 i8 m8 n8 f9) jB 4 (aq (aH 3 (mN (a6 y) (ae (af 4) ak))) ao) (rT b e j) a=.nx [oR b,oS e,some j,some (.tup [.str (wd C),d]),none] c:=by
  unfold mq;rw[h];dsimp only[xF];rw[xJ];dsimp only;rw[if_pos m];rw[show aq (aH 3 (mN (a6 y) (ae (af 4) ak))) ao ((rT b e j).set 4 (oR H.length)) (H++[.xc C [(Ly C,d)]])=_ from qA (eC rfl k)]
  rfl
 exact⟨c,fR ((qA rfl).trans ((qN n).trans (qR rfl))),i.trans l⟩
theorem Kv(c:Kp o3 N4 z5 f8 i8 m8 n8 f9 (rT b e j) a=.nx (rT b e j) H):a8 5 3 (ui o3 N4 z5 f8 i8 m8 n8 f9 y jB) [.ref b,.str e,j] a=.ok (sm none) H:=by
 have d:mq (Kp o3 N4 z5 f8 i8 m8 n8 f9) jB 4 (aq (aH 3 (mN (a6 y) (ae (af 4) ak))) ao) (rT b e j) a=.nx (rT b e j) H:=by
  unfold mq;rw[c]
 exact fR ((qA rfl).trans ((qN d).trans (qR rfl)))
theorem c1:("NoName":Str)∈jB:=by decide
theorem c2:("Twice":Str)∈jB:=by decide
theorem c3:("NoKind":Str)∈jB:=by decide
theorem c4:("TooMany":Str)∈jB:=by decide
theorem OA{p:Str×D}{b:List Str}:∀{r a:List Str},dE b a r=some p->p.1∈jB/\rQ p.2
 |[],_,e=>nomatch e
 |x::t,a,e=>by
  rw[dE]at e;split at e
  .split at e
   .cases e;exact⟨c2,.inl ⟨_,rfl⟩⟩
   .exact OA e
  .cases e;exact⟨c3,.inl ⟨_,rfl⟩⟩
theorem CS(e:zp l ω=some y8):y8.1∈jB/\rQ y8.2:=by
 unfold zp at e;split at e
 .cases e;exact⟨c4,.inr (.inl ⟨_,rfl⟩)⟩
 .exact OA e
theorem Gy{p:Str×D}{b:List Str}:∀{c:List (Str×List Str)}{a:List Str},dT b a c=some p->p.1∈jB/\rQ p.2
 |[],_,e=>nomatch e
 | (n,r)::t,a,e=>by
  rw[dT]at e;split at e
  .split at e
   .cases e;exact⟨c2,.inl ⟨_,rfl⟩⟩
   .split at e
    .rename_i q d
     cases e;exact CS d
    .exact Gy e
  .cases e;exact⟨c3,.inl ⟨_,rfl⟩⟩
theorem Kw(a:dA l e ω=some y8):y8.1∈jB/\rQ y8.2:=by
 unfold dA at a;split at a
 .cases a;exact⟨c2,.inl ⟨_,rfl⟩⟩
 .split at a
  .cases a;exact⟨c4,.inr (.inl ⟨_,rfl⟩)⟩
  .exact CS a
variable{p:EM}
theorem sx(h:p u a=.exc j H):cw p u a=.exc j H:=by rw[dJ,h];rfl
structure OB(TD:aV)(fN:List (Str×EM)):Prop where
 add:∀{Ω h a E L P n r p},bG P Ω h E L->Ω[a]?=some (.lst (r.map .str))->r.length<=1000->ub n->dA (nms E) n r=some p->∃az,TD [.ref h,.str "add",.tup [.str n,.ref a]] Ω=.ok (sm (some p)) az/\ai [] Ω az
 OC:∀{Ω h a E L P d},bG P Ω h E L->Hw (a8 1 1 uc) fN d Ω->∃d' az,TD [.ref h,.str "add",.tup [d,.ref a]] Ω=.ok (.tup [.str "name",d']) az/\ai [] Ω az/\LB d' d az
 may:∀{Ω h t E L P ts},bG P Ω h E L->Gn Ω t ts->(∀p∈ts,p.2.length<=1000)->ts.length<=100->∃az,TD [.ref h,.str "may",.ref t] Ω=.ok (sm (dT (nms E) [] ts)) az/\ai [] Ω az
 turn:∀{Ω h t E L P ts p},bG P Ω h E L->Gn Ω t ts->(∀p∈ts,p.2.length<=1000)->ts.length<=100->dT (nms E) [] ts=some p->∃az,TD [.ref h,.str "turn",.ref t] Ω=.ok (sm (some p)) az/\ai [] Ω az
 str:∀{Ω h E L P n w},bG P Ω h E L->n∉nms E->w∈(["drop","line","heirs","rows","elders"]:List Str)->∃az,TD [.ref h,.str w,.str n] Ω=.ok (sm (some ("NoKind",.str n))) az/\ai [] Ω az
abbrev bR(c b a:aV):SM:=Kp (λd=>c (d++[.non])) (a8 5 2 (mn "may_turn" b 3)) b (a8 4 2 (mn "check_kind" a 3)) (a8 2 2 (mn "check_kind" a 1)) (a8 2 2 (mn "check_kind" a 1)) (a8 2 2 (mn "check_kind" a 1)) (a8 2 2 (mn "check_kind" a 1))
variable{i5:List (Str×EM)}
theorem OD(A:Ku y)(V:Uy o3)(Q:Uw N4)(X:Oi z5)(Y:∀{Ω b e h a d x},a8 1 1 uc [d] Ω=.ok (.bl false) b->fV "NoName" i5 [] [none,some d] b=.exc x e->o3 [.ref h,d,.ref a,.non] Ω=.exc x e):
  OB (a8 5 3 (ui (λxs=>o3 (xs++[.non])) (a8 5 2 (mn "may_turn" N4 3)) N4 (a8 4 2 (mn "check_kind" z5 3)) (a8 2 2 (mn "check_kind" z5 1)) (a8 2 2 (mn "check_kind" z5 1)) (a8 2 2 (mn "check_kind" z5 1)) (a8 2 2 (mn "check_kind" z5 1)) y jB)) i5 where
 add:=λ{Ω h a E L P n r p} H F B Z C=>by
  obtain⟨b,f,k⟩:=V Ω h a E L P n r p H F B Z C;have g:bR o3 N4 z5 (rT h "add" (.tup [.str n,.ref a])) Ω=.exc (xF p) b:=(uj rfl).trans (sx (eH (y:=λxs=>o3 (xs++[D.non])) (o:=[.str n,.ref a]) (w:=0) H rfl rfl f))
  obtain⟨e,l,j⟩:=oN A g (Kw C).1;exact⟨e,l,k.trans j⟩
 OC:=λ{Ω h a E L P d} H G=>by
  obtain⟨b,e,R,f,l,j,q⟩:=G Ω ai.refl;have g:bR o3 N4 z5 (rT h "add" (.tup [d,.ref a])) Ω=.exc (xF ("NoName",R)) e:=(uj rfl).trans (sx (eH (y:=λxs=>o3 (xs++[D.non])) (o:=[d,.ref a]) (w:=0) H rfl rfl (Y f l)))
  obtain⟨I,s,S⟩:=oN A g c1;exact⟨R,I,s,j.trans S,λw J K=>q w J (S.trans K)⟩
 may:=λ{Ω h t E L P u} H M N B=>by
  obtain⟨b,f,k⟩:=Q Ω h t E L P u H M N B
  have l:∀{c},mB "may" "may_turn" N4 Ds c (rT h "may" (.ref t)) Ω=YM (dT (nms E) [] u) (rT h "may" (.ref t)) b:=by
   intro c;refine(uj rfl).trans ?_;rw[dJ,eH (w:=0) H rfl rfl f];cases dT (nms E) [] u<;>rfl
  cases O:dT (nms E) [] u with
  |none=>
   rw[O]at l;have g:bR o3 N4 z5 (rT h "may" (.ref t)) Ω=.nx (rT h "may" (.ref t)) b:=(d_ rfl).trans ((d_ rfl).trans l);exact⟨b,Kv g,k⟩
  |some p=>
   rw[O]at l;have g:bR o3 N4 z5 (rT h "may" (.ref t)) Ω=.exc (xF p) b:=(d_ rfl).trans ((d_ rfl).trans l);obtain⟨e,s,j⟩:=oN A g (Gy O).1;exact⟨e,s,k.trans j⟩
 turn:=λ{Ω h t E L P u p} H M N B C=>by
  obtain⟨b,f,k⟩:=Q Ω h t E L P u H M N B;rw[C]at f;have g:bR o3 N4 z5 (rT h "turn" (.ref t)) Ω=.exc (xF p) b:=(d_ rfl).trans ((uj rfl).trans (sx (eH (w:=0) H rfl rfl (Oj H f (by decide)))))
  obtain⟨e,s,j⟩:=oN A g (Gy C).1;exact⟨e,s,k.trans j⟩
 str:=λ{Ω h E L P n w} H G T=>by
  obtain⟨b,f,k⟩:=X Ω h E L P n H;rw[show Kd (nms E) n=_ from if_neg G]at f
  have z:∀{i v}{U:AM},2<=i->U (rT h w (.str n)) Ω=.ok [.str n] Ω->∀m:Str,m≠"elders"->m≠"lines"->cw (dC "House" m (a8 i 2 (mn "check_kind" z5 v)) (af 0) U) (rT h w (.str n)) Ω=.exc (xF ("NoKind",.str n)) b:=λhi F m h1 h2=>sx (eH (w:=0) H rfl F (Oj H f hi) h1 h2)
  have g:bR o3 N4 z5 (rT h w (.str n)) Ω=.exc (xF ("NoKind",.str n)) b:=by
   simp only[Æ,Ϟ,or_false]at T;rcases T with rfl|rfl|rfl|rfl|rfl
   .exact(d_ rfl).trans ((d_ rfl).trans ((d_ rfl).trans ((uj rfl).trans (z (by decide) rfl _ (by decide) (by decide)))))
   .exact(d_ rfl).trans ((d_ rfl).trans ((d_ rfl).trans ((d_ rfl).trans ((uj rfl).trans (z (by decide) rfl _ (by decide) (by decide))))))
   .exact(d_ rfl).trans ((d_ rfl).trans ((d_ rfl).trans ((d_ rfl).trans ((d_ rfl).trans ((uj rfl).trans (z (by decide) rfl _ (by decide) (by decide)))))))
   .exact(d_ rfl).trans ((d_ rfl).trans ((d_ rfl).trans ((d_ rfl).trans ((d_ rfl).trans ((d_ rfl).trans ((uj rfl).trans (z (by decide) rfl _ (by decide) (by decide))))))))
   .exact(d_ rfl).trans ((d_ rfl).trans ((d_ rfl).trans ((d_ rfl).trans ((d_ rfl).trans ((d_ rfl).trans ((d_ rfl).trans (z (by decide) rfl _ (by decide) (by decide))))))))
  obtain⟨e,s,j⟩:=oN A g c3;exact⟨e,s,k.trans j⟩
def UI(F:List D->Out Rs):EM:=(cb (m2 aQ (af 2) (mN (bY F) (ae (af 1) (ae (m2 (aY .Add) (af 3) (af 0)) (ae (mN (bb .len) (ae (af 2) ak)) ak))))) true (aj .non) (cQ (ae (mN (bY F) (ae (af 2) (ae (m2 (aY .Add) (af 3) (aj (.int 9))) (ae (aj (.int 8)) ak)))) ak)) 0 [2,0,3])
def Kx(F:List D->Out Rs):SM:=
 (aq (aH 4 (UI F))
 (aq (dk (m2 (aA .Eq) (mN (bY F) (ae (af 2) (ae (m2 (aY .Add) (af 3) (aj (.int 10))) (ae (aj (.int 3)) ak)))) (aj (.int 1)))
 (aq (cw (dU mz fx (af 4) (ae (mN (bY F) (ae (af 2) (ae (m2 (aY .Add) (af 3) (aj (.int 11))) (ae (m2 (aY .Add) (mN (bb .len) (ae (af 4) ak)) (aj (.int 1))) ak)))) (ae (af 1) ak))))
 ao)
 ao)
 (aq (bf (af 4))
 ao)))
def Gz(e:aV):Prop:=∀(b:aG) (x:Nat) (d:List Str) (s:Str) (c:Int) (t:Nat),b[x]?=some (.lst (d.map .str))->1<=d.length->d.length<=100->t<=1000->∃(r:List Str) (q:Nat) (a:aG),e [.ref x,.str s,.int c,.int t] b=.ok (.ref q) a/\a[q]?=some (.lst (r.map .str))/\r.length<=9/\b.length<=q/\ai [] b a
variable{E2:List D->Out Rs}{L4:Int->Int->Int->Int}
theorem kX(b:gJ L4 E2)(c:Int)(t:Nat)(m:Nat)(h:t<100000)(j:0<m):∃i,i<m/\bY E2 [.int c,.int t,.int m] a=.ok (.int i) a:=by
 obtain⟨d,f,e⟩:=b c t m (û _) (by omega) (by omega)
 obtain⟨i,g⟩:=acO d;rw[g]at e f;exact⟨i,by omega,by simp[e]⟩
theorem UJ(h:p u a=.ok (.int b) H)(c:b<=1000):cQ (ae p ak) u a=.ok (.ints 0 b) H:=by
 unfold cQ;rw[eK h rfl]
 show pW [.int b] H=_
 simp[pW,e_ (T:=(b:Int)) (û _) (by omega)]
variable{T:Int}
theorem CU{α β:Type}{f:α->β}{l:List α}{y:α}:jS (l.map f) T (f y)=(jS l T y).map f:=by
 unfold jS;simp[aaR,acB]
theorem CV{α:Type}{l:List α}{y:α}:(jS l T y).length<=l.length+1:=by
 unfold jS;simp;omega
theorem OE(f:gJ L4 E2):Gz (a8 5 4 (Kx E2)):=by
 intro e x B s c t C F M N;have l:=dq C;rw[ZZ]at l;obtain⟨n,O,G⟩:=kX (a:=e) f c (t+9) 8 (by omega) (by decide)
 have p:∀i:Nat,∃y:Str,i<1000->m2 aQ (af 2) (mN (bY E2) (ae (af 1) (ae (m2 (aY .Add) (af 3) (af 0)) (ae (mN (bb .len) (ae (af 2) ak)) ak)))) [oI i,oI c,oR x,oI t] e=.ok (.str y) e:=λi=>by
  by_cases q:i<1000
  .obtain⟨j,H,I⟩:=kX (a:=e) f c (t+i) B.length (by omega) F
   refine⟨B[j],λ_=>eQ rfl (eN (eK rfl (eK (eQ rfl rfl lH) (eK (eN rfl l) rfl))) (by rw[←aaV];exact I)) (bC C (L2.cf (by simp[H])))⟩
  .exact⟨"",λz=>absurd z q⟩
 have k:UI E2 [oR x,oS s,oI c,oI t,none] e=.ok (.ref e.length) (e++[.lst (((Y' n).map λi=>(p i).choose).map .str)]):=TU (g:=λi=>(p i).choose) (by
  exact UJ (eN (eK rfl (eK (eQ rfl rfl lH) (eK rfl rfl))) G) (by omega)) (λi q=>(p i).choose_spec (by omega)) (by omega)
 obtain⟨r,P,k⟩:∃r:List Str,r.length<=8/\UI E2 [oR x,oS s,oI c,oI t,none] e=.ok (.ref e.length) (e++[.lst (r.map .str)]):=⟨_,by simp;omega,k⟩
 obtain⟨d,k,D,m⟩:=kA k;obtain⟨b,Q,o⟩:=kX (a:=d) f c (t+10) 3 (by omega) (by decide)
 have o:mN (bY E2) (ae (af 2) (ae (m2 (aY .Add) (af 3) (aj (.int 10))) (ae (aj (.int 3)) ak))) [oR x,oS s,oI c,oI t,oR e.length] d=.ok (.int b) d:=eN (eK rfl (eK (eQ rfl rfl lH) (eK rfl rfl))) o
 by_cases E:(b:Int)=1
 .have h:=dq m
  rw[ZZ]at h;obtain⟨i,q,u⟩:=kX (a:=d) f c (t+11) (r.length+1) (by omega) (by omega)
  have u:mN (bY E2) (ae (af 2) (ae (m2 (aY .Add) (af 3) (aj (.int 11))) (ae (m2 (aY .Add) (mN (bb .len) (ae (af 4) ak)) (aj (.int 1))) ak))) [oR x,oS s,oI c,oI t,oR e.length] d=.ok (.int i) d:=eN (eK rfl (eK (eQ rfl rfl lH) (eK (eQ (eN rfl h) rfl lH) rfl))) u
  have w:fx (.ref e.length) [.int i,.str s] d=.ok .non (d.set e.length (.lst ((jS r i s).map .str))):=by
   simp only[fx,jx m];rw[if_pos (by rw[a7 (by simp;omega),e_ (û _) (by omega)];rfl),CU]
  obtain⟨A,J,K,L⟩:=kO w m;exact⟨_,_,A,fR ((qA k).trans ((qT (eQ o rfl (Lw (decide_eq_true E)))).trans ((qN (qE (eL rfl (eK u rfl) (dc m) J))).trans (qR rfl)))),L,B' CV (by omega),M' _,ai.new D K (by simp)⟩
 .exact⟨_,_,d,fR ((qA k).trans ((q0 (eQ o rfl (Lw (decide_eq_false E)))).trans (qR rfl))),m,by omega,M' _,D⟩
def tpl(w:Str)(m:EM):EM:=(mN hZ (ae (aj (.str w)) (ae m ak)))
theorem iu(h:p u a=.ok j H):tpl e p u a=.ok (.tup [.str e,j]) H:=eN (eK rfl (eK h rfl)) rfl
def YT:SM:=
 (aq (dk (m2 (aA .NotIn) (m2 aQ (af 1) (af 2)) (af 0))
 (aq (bf (tpl "kind" (m2 aQ (af 1) (af 2))))
 ao)
 ao)
 (aq (dk (m2 (aA .In) (m2 aQ (af 1) (af 2)) (dj (af 1) true (aj .non) false (af 2)))
 (aq (bf (tpl "twice" (m2 aQ (af 1) (af 2))))
 ao)
 ao)
 ao))
def CW:SM:=
 (aq (dk (m2 (aA .Gt) (mN (bb .len) (ae (af 1) ak)) (aj (.int 5)))
 (aq (bf (tpl "many" (aj (.int 5))))
 ao)
 ao)
 (aq (dy (dH 2) (cQ (ae (mN (bb .len) (ae (af 1) ak)) ak))
 YT)
 (aq (bf (tpl "none" (aj .non)))
 ao)))
def GA(e:aV):Prop:=∀(c:aG) (x a:Nat) (d r:List Str),c[x]?=some (.lst (d.map .str))->c[a]?=some (.lst (r.map .str))->r.length<=1000->∃b,e [.ref x,.ref a] c=.ok (sm (zp d r)) b/\ai [] c b
theorem Hz:GA (a8 3 2 CW):=by
 intro p x a q r H u D;have j:=dq u;rw[ZZ]at j;unfold zp
 by_cases E:5<r.length
 .rw[if_pos E]
  exact⟨p,fR ((qT (eQ (eN rfl j) rfl (RE (decide_eq_true (by omega))))).trans (qB (qR (iu rfl)))),ai.refl⟩
 .rw[if_neg E]
  rw[bu (by rfl)]
  have I:∀c:SM,aq (dk (m2 (aA .Gt) (mN (bb .len) (ae (af 1) ak)) (aj (.int 5))) (aq (bf (tpl "many" (aj (.int 5)))) ao) ao) c [oR x,oR a,none] p=c [oR x,oR a,none] p:=λc=>q0 (eQ (eN rfl j) rfl (RE (decide_eq_false (by omega))))
  show ∃l,gA (CW [oR x,oR a,none] p)=_/\_
  unfold CW;rw[I,au]
  refine RF (Y3:=.ints 0 r.length) (o:=intsFrom 0 r.length) (λi J b=>∃A,J=[oR x,oR a,A]/\ai [] p b/\dE q (r.take i) (r.drop i)=dE q [] r)
   (λz=>∃l,gA (sq z (aq (bf (tpl "none" (aj .non))) ao))=.ok (sm (dE q [] r)) l/\ai [] p l) (UJ (eN rfl j) D) (λ_=>rfl) ?_ ⟨none,rfl,ai.refl,rfl⟩ ?_ (by rw[cE];exact D)
  .rintro i d _ b L ⟨A,rfl,K,h⟩
   obtain⟨rfl,M⟩:=ef L;obtain⟨y,F⟩:∃y,r[i]?=some y:=⟨r[i],by simp[M]⟩
   refine⟨[oR x,oR a,oI (0+i)],rfl,?_⟩;rw[aaU];rw[xy F]at h;have m:∀{n},ai [] b n->m2 aQ (af 1) (af 2) [oR x,oR a,oI i] n=.ok (.str y) n:=λN=>eQ rfl rfl (bC (N.g (K.g u)) (L2.cf (by simp[F])))
   have f:=jy (e:=y) (K.g H)
   by_cases s:y∈q
   .rw[if_pos s]at h
    rw[decide_eq_true s]at f;have B:=j_ (w:=i) (K.g u);have O:(b++[Cell.lst ((r.take i).map .str)])[b.length]?=some _:=av;have C:ai [] b (b++[Cell.lst ((r.take i).map .str)]):=ai.app;have k:=il (e:=y) O;have G:dj (af 1) true (aj .non) false (af 2) [oR x,oR a,oI i] b=.ok (.ref b.length) (b++[.lst ((r.take i).map .str)]):=by simpa using B
    by_cases t:y∈r.take i
    .rw[if_pos t]at h
     rw[decide_eq_true t]at k;refine .inr (.inr ⟨.tup [.str "twice",.str y],_,(q0 (eQ (m ai.refl) rfl f)).trans ((qT (eQ (m ai.refl) G k)).trans (qB (qR (iu (m C))))),_,?_,K.trans C⟩);rw[←h];rfl
    .rw[if_neg t]at h
     rw[decide_eq_false t]at k;exact .inl ⟨_,_,(q0 (eQ (m ai.refl) rfl f)).trans (q0 (eQ (m ai.refl) G k)),_,rfl,K.trans C,h⟩
   .rw[if_neg s]at h
    rw[decide_eq_false s]at f;refine .inr (.inr ⟨.tup [.str "kind",.str y],b,(qT (eQ (m ai.refl) rfl f)).trans (qB (qR (iu (m ai.refl)))),b,?_,K⟩);rw[←h];rfl
  .rintro _ b ⟨A,rfl,K,h⟩
   refine⟨b,?_,K⟩;rw[←h,cE,Ũ];rfl
def uk(a:aV):SM:=
 (aq (dk (jF (af 2))
 (aq (bf (tpl "name" (af 1)))
 ao)
 ao)
 (aq (dk (m2 (aA .In) (af 1) (af 0))
 (aq (bf (tpl "twice" (af 1)))
 ao)
 ao)
 (aq (dk (m2 (aA .Eq) (mN (bb .len) (ae (af 0) ak)) (aj (.int 12)))
 (aq (bf (tpl "many" (aj (.int 12))))
 ao)
 ao)
 (aq (bf (mN (a6 a) (ae (af 0) (ae (af 3) ak))))
 ao))))
theorem Ky:a8 4 4 (uk y) [.ref w,j,.bl false,.ref b] a=.ok (.tup [.str "name",j]) a:=fR ((qT (nT (C:=false) rfl)).trans (qB (qR (iu rfl))))
theorem OF(j:GA y)(h:a[w]?=some (.lst (ω.map .str)))(k:a[b]?=some (.lst (l.map .str)))(m:l.length<=1000)(n:ω.length<=12):∃az,a8 4 4 (uk y) [.ref w,.str e,.bl true,.ref b] a=.ok (sm (dA ω e l)) az/\ai [] a az:=by
 have d:=dq h;rw[ZZ]at d;have c:=il (e:=e) h;unfold dA
 by_cases g:e∈ω
 .rw[decide_eq_true g]at c
  rw[if_pos g];exact⟨a,fR ((q0 (nT (C:=true) rfl)).trans ((qT (eQ rfl rfl c)).trans (qB (qR (iu rfl))))),ai.refl⟩
 .rw[decide_eq_false g]at c
  rw[if_neg g]
  by_cases f:12<=ω.length
  .rw[if_pos f]
   exact⟨a,fR ((q0 (nT (C:=true) rfl)).trans ((q0 (eQ rfl rfl c)).trans ((qT (eQ (eN rfl d) rfl (Lw (decide_eq_true (by omega))))).trans (qB (qR (iu rfl)))))),ai.refl⟩
  .rw[if_neg f]
   obtain⟨i,o,p⟩:=j a w b ω l h k m;exact⟨i,fR ((q0 (nT (C:=true) rfl)).trans ((q0 (eQ rfl rfl c)).trans ((q0 (eQ (eN rfl d) rfl (Lw (decide_eq_false (by omega))))).trans (qR (eC rfl o))))),p⟩
theorem OG(h:e∈jB):(wd e==("none":Str))=false:=by
 rcases CQ h with rfl|rfl|rfl|rfl<;>rfl
variable{y9:Rf}
theorem Kz:∃w,(∀{Ω},aQ (sm y9) (.int 0) Ω=.ok (.str w) Ω)/\((∀p,y9=some p->p.1∈jB)->(w==("none":Str))=y9.isNone):=by
 cases y9 with
 |none=>exact⟨_,rfl,λ_=>rfl⟩
 |some p=>exact⟨wd p.1,rfl,λh=>OG (h p rfl)⟩
def YU(a:aV):SM:=
 (aq (dk (m2 (aA .NotIn) (af 3) (af 0))
 (aq (bf (tpl "kind" (af 3)))
 ao)
 ao)
 (aq (dk (m2 (aA .In) (af 3) (af 2))
 (aq (bf (tpl "twice" (af 3)))
 ao)
 ao)
 (aq (cw (dU mz cm (af 2) (ae (af 3) ak)))
 (aq (aH 5 (mN (a6 a) (ae (af 0) (ae (af 4) ak))))
 (aq (dk (m2 (aA .NotEq) (m2 aQ (af 5) (aj (.int 0))) (aj (.str "none")))
 (aq (bf (af 5))
 ao)
 ao)
 ao)))))
def CY(a:aV):SM:=
 (aq (aH 2 (mN bt ak))
 (aq (dy (gs [3,4]) (bx (af 1))
 (YU a))
 (aq (bf (tpl "none" (aj .non)))
 ao)))
def OH(e:aV):Prop:=∀(b:aG) (x t:Nat) (d:List Str) (c:List (Str×List Str)),b[x]?=some (.lst (d.map .str))->Gn b t c->(∀p∈c,p.2.length<=1000)->c.length<=100->∃a,e [.ref x,.ref t] b=.ok (sm (dT d [] c)) a/\ai [] b a
theorem HD(h:(e==M)=C):aA .NotEq (.str e) (.str M) a=.ok (.bl !C) a:=by
 subst h;rfl
theorem OI(Y:GA y):OH (a8 6 2 (CY y)):=by
 intro m x t n s R ⟨Z,S,T⟩ hr hl;have I:=aE.length T;obtain⟨J,e1,U,g1⟩:=kA (lN (o:=[]) (a:=m));rw[bu (by rfl)]
 show ∃k,gA (CY y [oR x,oR t,none,none,none,none] m)=_/\_
 unfold CY;rw[qA (eN rfl e1),au]
 show ∃k,gA (sq (dy _ _ _ [oR x,oR t,oR m.length,none,none,none] J) _)=_/\_
 refine RF (Y3:=.seq (.ref t)) (o:=Z) (λi ρ b=>∃L M B,ρ=[oR x,oR t,oR m.length,L,M,B]/\ai [] m b/\b[m.length]?=some (.lst (((s.take i).map (·.1)).map .str))/\dT n ((s.take i).map (·.1)) (s.drop i)=dT n [] s)
  (λz=>∃k,gA (sq z (aq (bf (tpl "none" (aj .non))) ao))=.ok (sm (dT n [] s)) k/\ai [] m k) (sr rfl (U.g S)) (λ⟨_,_,_,_,K,_,_⟩=>by rw[cz,aJ,aD (K.g S)]) ?_ ⟨none,none,none,rfl,U,g1,rfl⟩ ?_ (by omega)
 .rintro i d _ b hd ⟨L,M,B,rfl,K,C,c⟩
  obtain⟨p,j,D,rfl,N⟩:=T.get hd;have O:=ZV D;refine⟨[oR x,oR t,oR m.length,oS p.1,oR j,B],rfl,?_⟩;rw[xB D]at c;have lt:=ZS.mp D;have f:=jy (e:=p.1) (K.g R)
  by_cases E:p.1∈n
  .rw[if_pos E]at c
   rw[decide_eq_true E]at f;have h:=il (e:=p.1) C
   by_cases F:p.1∈(s.take i).map (·.1)
   .rw[if_pos F]at c
    rw[decide_eq_true F]at h;refine .inr (.inr ⟨.tup [.str "twice",.str p.1],b,(q0 (eQ rfl rfl f)).trans ((qT (eQ rfl rfl h)).trans (qB (qR (iu rfl)))),b,?_,K⟩);rw[←c];rfl
   .rw[if_neg F]at c
    rw[decide_eq_false F]at h;obtain⟨A,V,K3,g3⟩:=aL (.str p.1) C (by simp;omega)
    have l:=ai.new K K3 (λj N=>by simp at N;omega)
    have P:A[j]?=some _:=l.g N;obtain⟨r,G,Q⟩:=Y A x j n p.2 (l.g R) P (hr p O);obtain⟨w,H,u⟩:=Kz (y9:=zp n p.2);have u:=u λq c=>(CS c).1
    cases X:zp n p.2 with
    |some q=>
     rw[X]at c G u H;refine .inr (.inr ⟨sm (some q),r,(q0 (eQ rfl rfl f)).trans ((q0 (eQ rfl rfl h)).trans ((qE (eL rfl rfl (dc C) V)).trans ((qA (eC rfl G)).trans ((qT (eQ (eQ rfl rfl H) rfl (HD u))).trans (qB (qR rfl)))))),r,?_,l.trans Q⟩);rw[←c];rfl
    |none=>
     rw[X]at c G u H;refine .inl ⟨_,r,(q0 (eQ rfl rfl f)).trans ((q0 (eQ rfl rfl h)).trans ((qE (eL rfl rfl (dc C) V)).trans ((qA (eC rfl G)).trans (q0 (eQ (eQ rfl rfl H) rfl (HD u)))))),_,_,_,rfl,l.trans Q,Q.g ?_,c⟩;rw[Ï,D,Ü,Ü];exact g3
  .rw[if_neg E]at c
   rw[decide_eq_false E]at f;refine .inr (.inr ⟨.tup [.str "kind",.str p.1],b,(qT (eQ rfl rfl f)).trans (qB (qR (iu rfl))),b,?_,K⟩);rw[←c];rfl
 .rintro _ b ⟨L,M,B,rfl,K,_,c⟩
  refine⟨b,?_,K⟩;rw[←c,←I,Ũ];rfl
def XS(F:List D->Out Rs)(a:aV):EM:=(m2 aQ (mN bt (ae (af 2) (ae (m2 aQ (af 1) (mN (bY F) (ae (af 3) (ae (aj (.int 14)) (ae (mN (bb .len) (ae (af 1) ak)) ak))))) (ae (mN (a6 a) (ae (af 3) (ae (af 2) ak))) (ae (af 2) ak))))) (af 4))
def OJ(F:List D->Out Rs)(a b c d:aV):SM:=
 (aq (aH 4 (mN (bY F) (ae (af 3) (ae (aj (.int 13)) (ae (aj (.int 4)) ak)))))
 (aq (aH 5 (XS F a))
 (aq (aH 6 (mN (a6 b) (ae (af 1) (ae (af 2) (ae (af 3) (ae (aj (.int 0)) ak))))))
 (aq (aH 7 (mN (a6 c) (ae (af 1) (ae (af 5) (ae (m2 (aA .NotEq) (af 4) (aj (.int 2))) (ae (af 6) ak))))))
 (aq (dk (m2 (aA .Eq) (m2 aQ (af 7) (aj (.int 0))) (aj (.str "none")))
 (aq (bf (aj (.bl true)))
 ao)
 ao)
 (aq (bf (m2 (aA .Eq) (mN (a6 d) (ae (af 0) (ae (aj (.str "add")) (ae (mN hZ (ae (af 5) (ae (af 6) ak))) ak)))) (af 7)))
 ao))))))
structure OK(Ω:aG)(h x:Nat)(E:gf)(L:Str->List Str)(s:Str):Prop where
 hs:bG Tr Ω h E L
 nx:Ω[x]?=some (.lst ((nms E).map .str))
 pos:1<=(nms E).length
 top:(nms E).length<=12
 vn:∀n∈nms E,ub n
 vs:ub s
 sn:s∉nms E
theorem OK.keep{Ω az:aG}{h x:Nat}{s:Str}{E:gf}{L:Str->List Str}(H:OK Ω h x E L s)(K:ai [] Ω az):OK az h x E L s:=⟨H.hs.keep K,K.g H.nx,H.pos,H.top,H.vn,H.vs,H.sn⟩
theorem CZ(h:rQ j):aA .Eq (.tup [.str e,j]) (.tup [.str e,j]) a=.ok (.bl true) a:=rS (a:=a) h e a ai.refl
theorem C_(h:∀p,y9=some p->rQ p.2):aA .Eq (sm y9) (sm y9) a=.ok (.bl true) a:=by
 cases y9 with
 |none=>exact CZ (.inr (.inr (.inl rfl)))
 |some p=>exact CZ (h p rfl)
variable{N6 U:D}
theorem OL{b:D}(c:fA a 8 j=some N6)(d:fA a 8 U=some b)(o:(aN 8 N6&&aN 8 b)=true):aA .NotEq j U a=.ok (.bl (!eJ N6 b)) a:=by
 rw[wX,ik,c,d];simp only[rH,fh,o,if_true];rfl
theorem Dc(h:∀p,y9=some p->rQ p.2):aA .NotEq (sm y9) (sm y9) a=.ok (.bl false) a:=by
 have c:∀{w:Str}{d:D},rQ d->aA .NotEq (.tup [.str w,d]) (.tup [.str w,d]) a=.ok (.bl false) a:=λ{w d} h=>by
  rcases h with ⟨_,rfl⟩|⟨_,rfl⟩|rfl|⟨_,rfl⟩
  all_goals
   refine(OL (N6:=.tup [.str w,_]) (b:=.tup [.str w,_]) rfl rfl rfl).trans ?_;rw[iP 8 _ rfl];rfl
 cases y9 with
 |none=>exact c (.inr (.inr (.inl rfl)))
 |some p=>exact c (h p rfl)
theorem XU:aA .NotEq (.int b) (.int w) a=.ok (.bl !decide (b=w)) a:=by
 refine(OL (N6:=.int b) (b:=.int w) rfl rfl rfl).trans ?_
 have:eJ (.int b) (.int w)=decide (b=w):=by
  show((b:Int)==(w:Int))=_
  rw[acS];simp;omega
 rw[this]
def GB(d:aV):Prop:=∀(b:aG) (h x:Nat) (E:gf) (L:Str->List Str) (s:Str) (c:Int),OK b h x E L s->∃a,d [.ref h,.ref x,.str s,.int c] b=.ok (.bl true) a/\ai [] b a
theorem OM(C:gJ L4 E2)(hN:Oq y (a8 1 1 uc) i5)(hL:Gz o3)(hD:GA z5)(hT:OB N4 i5):GB (a8 8 4 (OJ E2 y o3 (a8 4 4 (uk z5)) N4)):=by
 intro u h x E L s c H;obtain⟨b,hb,eb⟩:=kX (a:=u) C c 13 4 (by decide) (by decide)
 have F:=dq H.nx;rw[ZZ]at F;have Q:=H.pos;obtain⟨i,hi,ei⟩:=kX (a:=u) C c 14 (nms E).length (by decide) Q
 have e2:(m2 aQ (af 1) (mN (bY E2) (ae (af 3) (ae (aj (.int 14)) (ae (mN (bb .len) (ae (af 1) ak)) ak))))) [oR h,oR x,oS s,oI c,oI b,none,none,none] u=.ok (.str (nms E)[i]) u:=eQ rfl (eN (eK rfl (eK rfl (eK (eN rfl F) rfl))) ei) (bC H.nx (L2.cf (by simp[hi])))
 obtain⟨d,T,e3,K1,hd⟩:=hN u c s H.vs;obtain⟨G,e4,K2,g2⟩:=kA (lN (o:=[.str s,.str (nms E)[i],d,.str s]) (a:=T));have I:=K1.trans K2;have U:∃f,[D.str s,.str (nms E)[i],d,.str s][b]?=some f:=⟨_,ç (by simpa using hb)⟩
 obtain⟨f,A⟩:=U;have e5:XS E2 y [oR h,oR x,oS s,oI c,oI b,none,none,none] u=.ok f G:=eQ (eN (eK rfl (eK e2 (eK (eC rfl e3) (eK rfl rfl)))) e4) rfl (bC g2 (L2.cf A));have H2:=H.keep I;obtain⟨r,q,J,e6,g3,hr,_,V⟩:=hL G x (nms E) s c 0 H2.nx Q (by have:=H.top;omega) (by decide)
 have X:=H2.keep V;have M:=I.trans V
 have N:∀{z:D}{k:aG}{w:Str}{t:Bool},a8 4 4 (uk z5) [.ref x,f,.bl !decide (b=2),.ref q] J=.ok z k->ai [] J k->aQ z (.int 0) k=.ok (.str w) k->(w==("none":Str))=t->(t=false->∃v j,N4 [.ref h,.str "add",.tup [f,.ref q]] k=.ok v j/\ai [] k j/\aA .Eq v z j=.ok (.bl true) j)->∃l,a8 8 4 (OJ E2 y o3 (a8 4 4 (uk z5)) N4) [.ref h,.ref x,.str s,.int c] u=.ok (.bl true) l/\ai [] u l:=by
  intro z k w t R B e8 S ht;cases t with
  |true=>exact⟨k,fR ((qA (eN (eK rfl (eK rfl (eK rfl rfl))) eb)).trans ((qA e5).trans ((qA (eC rfl e6)).trans ((qA (eC (eK rfl (eK rfl (eK (eQ rfl rfl (XU (b:=b) (w:=2))) (eK rfl rfl)))) R)).trans ((qT (eQ (eQ rfl rfl e8) rfl (by rw[jC,S]))).trans (qB (qR rfl))))))),M.trans B⟩
  |false=>
   obtain⟨v,j,O,P,Y⟩:=ht rfl;exact⟨j,fR ((qA (eN (eK rfl (eK rfl (eK rfl rfl))) eb)).trans ((qA e5).trans ((qA (eC rfl e6)).trans ((qA (eC (eK rfl (eK rfl (eK (eQ rfl rfl (XU (b:=b) (w:=2))) (eK rfl rfl)))) R)).trans ((q0 (eQ (eQ rfl rfl e8) rfl (by rw[jC,S]))).trans (qR (eQ (eC (eK rfl (eK rfl (eK (eN (eK rfl (eK rfl rfl)) rfl) rfl))) O) rfl Y))))))),(M.trans B).trans P⟩
 have m:∀n:Str,f=.str n->b≠2->ub n->∃l,a8 8 4 (OJ E2 y o3 (a8 4 4 (uk z5)) N4) [.ref h,.ref x,.str s,.int c] u=.ok (.bl true) l/\ai [] u l:=by
  rintro n rfl Z hv;obtain⟨k,R,B⟩:=OF (e:=n) hD X.nx g3 (by omega) H.top
  obtain⟨w,ew,S⟩:=Kz (y9:=dA (nms E) n r);refine N (by rw[decide_eq_false Z];exact R) B ew (S λp Q=>(Kw Q).1) λhz=>?_
  cases hq:dA (nms E) n r with
  |none=>rw[hq]at hz;cases hz
  |some p=>
   obtain⟨j,O,P⟩:=hT.add (X.keep B).hs (B.g g3) (by omega) hv hq
   exact⟨_,j,O,P,C_ λ_ z=>by cases z;exact(Kw hq).2⟩
 match b,hb,A with
 |0,_,A=>cases A;exact m s rfl (by decide) H.vs
 |1,_,A=>cases A;exact m _ rfl (by decide) (H.vn _ (by simp))
 |3,_,A=>cases A;exact m s rfl (by decide) H.vs
 |2,_,A=>
  cases A;refine N (w:="name") (t:=false) Ky ai.refl rfl rfl λ_=>?_
  obtain⟨d',j,O,P,q5⟩:=hT.OC (a:=q) X.hs (d:=d) (λl K=>hd l (K2.trans (V.trans K)))
  exact⟨_,j,O,P,q5 _ j ai.refl⟩
def XW(F:List D->Out Rs)(a:aV):SM:=
 (aq (aH 6 (m2 aQ (af 1) (mN (bY F) (ae (af 3) (ae (m2 (aY .Add) (aj (.int 16)) (af 5)) (ae (mN (bb .len) (ae (af 1) ak)) ak))))))
 (aq (dk (m2 (aA .Eq) (mN (bY F) (ae (af 3) (ae (m2 (aY .Add) (aj (.int 19)) (af 5)) (ae (aj (.int 5)) ak)))) (aj (.int 1)))
 (aq (aH 6 (af 2))
 ao)
 ao)
 (aq (cw (dU mz cm (af 4) (ae (mN hZ (ae (af 6) (ae (mN (a6 a) (ae (af 1) (ae (af 2) (ae (af 3) (ae (m2 (aY .Add) (aj (.int 24)) (m2 (aY .Mult) (aj (.int 12)) (af 5))) ak))))) ak))) ak)))
 ao)))
def GC(F:List D->Out Rs)(b c a:aV):SM:=
 (aq (aH 4 (mN bt ak))
 (aq (dy (dH 5) (cQ (ae (m2 (aY .Add) (aj (.int 1)) (mN (bY F) (ae (af 3) (ae (aj (.int 15)) (ae (aj (.int 3)) ak))))) ak))
 (XW F b))
 (aq (aH 7 (mN (a6 c) (ae (af 1) (ae (af 4) ak))))
 (aq (dk (m2 (aA .NotEq) (mN (a6 a) (ae (af 0) (ae (aj (.str "may")) (ae (af 4) ak)))) (af 7))
 (aq (bf (aj (.bl false)))
 ao)
 ao)
 (aq (bf (Bc (m2 (aA .Eq) (m2 aQ (af 7) (aj (.int 0))) (aj (.str "none"))) (m2 (aA .Eq) (mN (a6 a) (ae (af 0) (ae (aj (.str "turn")) (ae (af 4) ak)))) (af 7))))
 ao)))))
def UK(Ω:aG)(k:Nat)(a:List D)(b:List (Str×List Str)):Prop:=aE (λd p=>∃j,d=.tup [.str p.1,.ref j]/\j≠k/\Ω[j]?=some (.lst (p.2.map .str))) a b
variable{Q9:List (Str×List Str)}
theorem UK.tn(h:UK a b o Q9):Kf a o Q9:=aE.imp (by rintro _ _ ⟨j,d,_,c⟩;exact⟨j,d,c⟩) h
def YV(a Ω:aG)(k i:Nat):Prop:=∃c b,Ω[k]?=some (.lst b)/\UK Ω k b c/\b.length=i/\(∀p∈c,p.2.length<=1000)/\ai [] a Ω
theorem ON(C:gJ L4 E2)(hL:Gz y)(hD:OH N4)(hT:OB o3 i5):GB (a8 8 4 (GC E2 y N4 o3)):=by
 intro f h x E L s c H;have k:=H.pos;have ht:=H.top;obtain⟨l,e1,K1,g1⟩:=kA (lN (o:=[]) (a:=f));obtain⟨b,hb,eb⟩:=kX (a:=l) C c 15 3 (by decide) (by decide)
 obtain⟨b0,d,e2,⟨X,N,rfl,m,Y,J,D,O,P,Q⟩⟩:=Xw (u:=[oR h,oR x,oS s,oI c,oR f.length,none,none,none]) (a:=l) (A5:=dH 5) (S:=XW E2 y) (b:=1+b) (λi ρ d=>∃X N,ρ=[oR h,oR x,oS s,oI c,oR f.length,X,N,none]/\YV f d f.length i)
  (UJ (p:=m2 (aY .Add) (aj (.int 1)) (mN (bY E2) (ae (af 3) (ae (aj (.int 15)) (ae (aj (.int 3)) ak))))) (eQ (B6:=aY .Add) rfl (eN (eK rfl (eK rfl (eK rfl rfl))) eb) (show aY .Add (.int 1) (.int b) l=.ok (.int ((1+b:Nat):Int)) l from lH)) (by omega)) (λ{i ρ d} hi ⟨X,N,OO,m,Y,J,D,O,P,Q⟩=>by
   subst OO;have K:=H.keep Q;have R:=dq K.nx;rw[ZZ]at R;obtain⟨j,hj,ej⟩:=kX (a:=d) C c (16+i) (nms E).length (by omega) k
   have e3:m2 aQ (af 1) (mN (bY E2) (ae (af 3) (ae (m2 (aY .Add) (aj (.int 16)) (af 5)) (ae (mN (bb .len) (ae (af 1) ak)) ak)))) [oR h,oR x,oS s,oI c,oR f.length,oI i,N,none] d=.ok (.str (nms E)[j]) d:=eQ rfl (eN (eK rfl (eK (eQ rfl rfl lH) (eK (eN rfl R) rfl))) (by rw[aaV]at ej;exact ej)) (bC K.nx (L2.cf (by simp[hj])))
   obtain⟨v,hv,ev⟩:=kX (a:=d) C c (19+i) 5 (by omega) (by decide)
   rw[aaV]at ev
   obtain⟨T,e4⟩:∃T:Str,∀Z:SM,aq (dk (m2 (aA .Eq) (mN (bY E2) (ae (af 3) (ae (m2 (aY .Add) (aj (.int 19)) (af 5)) (ae (aj (.int 5)) ak)))) (aj (.int 1))) (aq (aH 6 (af 2)) ao) ao) Z [oR h,oR x,oS s,oI c,oR f.length,oI i,oS (nms E)[j],none] d=Z [oR h,oR x,oS s,oI c,oR f.length,oI i,oS T,none] d:=by
    by_cases h1:(v:Int)=1
    .exact⟨s,λZ=>(qT (eQ (eN (eK rfl (eK (eQ rfl rfl lH) (eK rfl rfl))) ev) rfl (Lw (decide_eq_true h1)))).trans (qN (qA rfl))⟩
    .exact⟨_,λZ=>q0 (eQ (eN (eK rfl (eK (eQ rfl rfl lH) (eK rfl rfl))) ev) rfl (Lw (decide_eq_false h1)))⟩
   obtain⟨r,q,F,U,g3,c0,hq,G⟩:=hL d x (nms E) s c (24+12*i) K.nx k (by omega) (by omega)
   have U:y [.ref x,.str s,.int c,.int (24+12*(i:Int))] d=.ok (.ref q) F:=by
    have:((24+12*i:Nat):Int)=24+12*(i:Int):=by omega
    rwa[this]at U
   obtain⟨t,e6,I,g4⟩:=aL (.tup [.str T,.ref q]) (G.g J) (by omega)
   have a0:=Q.trans G;have em:m2 (aY .Mult) (aj (.int 12)) (af 5) [oR h,oR x,oS s,oI c,oR f.length,oI i,oS T,none] d=.ok (.int (12*(i:Int))) d:=eQ rfl rfl (by rw[p9];rfl)
   refine⟨_,_,t,rfl,(qA e3).trans ((e4 _).trans (qE (eL rfl (eK (eN (eK rfl (eK (eC (eK rfl (eK rfl (eK rfl (eK (eQ rfl em lH) rfl)))) U) rfl)) rfl) rfl) (dc J) e6))),_,_,rfl,m++[(T,r)],_,g4,?_,by simp[O],?_,ai.new a0 I (λj hj=>by simp at hj;omega)⟩
   .have l2:f.length<d.length:=b_ J
    exact aE.append (aE.imp (by rintro _ _ ⟨j,b,n,c⟩;exact⟨j,b,n,I.get _ _ (G.g c) (by simpa using n)⟩) D) (.cons ⟨q,rfl,by omega,I.get _ _ g3 (by simp;omega)⟩ .nil)
   .intro p k
    rcases Ô.mp k with z|z
    .exact P p z
    .simp at z;subst z;show r.length<=1000;omega) ⟨none,none,rfl,[],[],g1,.nil,rfl,by simp,K1⟩ (by omega)
 have K:=H.keep Q;have D:=D.tn;have d0:m.length=Y.length:=aE.length D;obtain⟨F,e3,G⟩:=hD d x f.length (nms E) m K.nx ⟨Y,J,D⟩ P (by omega)
 have H3:=K.keep G;have T3:Gn F f.length m:=Gn.keep ⟨Y,J,D⟩ G;obtain⟨t,e4,I⟩:=hT.may H3.hs T3 P (by omega)
 have H4:=H3.keep I;have hc:∀p,dT (nms E) [] m=some p->p.1∈jB/\rQ p.2:=λp k=>Gy k
 obtain⟨w,ew,M⟩:=Kz (y9:=dT (nms E) [] m);have M:=M λp k=>(hc p k).1
 have A:∀{z B},(Bc (m2 (aA .Eq) (m2 aQ (af 7) (aj (.int 0))) (aj (.str "none"))) (m2 (aA .Eq) (mN (a6 o3) (ae (af 0) (ae (aj (.str "turn")) (ae (af 4) ak)))) (af 7))) [oR h,oR x,oS s,oI c,oR f.length,X,N,some (sm (dT (nms E) [] m))] t=.ok z B->a8 8 4 (GC E2 y N4 o3) [.ref h,.ref x,.str s,.int c] f=.ok z B:=λe=>fR ((qA (eN rfl e1)).trans ((e2 _).trans ((qA (eC rfl e3)).trans ((q0 (eQ (eC rfl e4) rfl (Dc λp k=>(hc p k).2))).trans (qR e)))))
 have V:=(Q.trans G).trans I;cases hz:dT (nms E) [] m with
 |none=>
  rw[hz]at M ew A;exact⟨t,A (oT (eQ (eQ rfl rfl ew) rfl (by rw[jC,M];rfl))),V⟩
 |some p=>
  obtain⟨B,U,K5⟩:=hT.turn H4.hs (T3.keep I) P (by omega) hz
  rw[hz]at M ew A;exact⟨B,A (oF (eQ (eQ rfl rfl ew) rfl (by rw[jC,M];rfl)) (eQ (eC rfl U) rfl (C_ λ_ z=>by cases z;exact(hc p hz).2))),V.trans K5⟩
def UL(a:aV):SM:=
 (aq (cw (cC "House" "check_kind" a (af 0) (ae (af 1) ak)))
 (aq (bf (mN (bb .list) (ae (m2 aQ fe (af 1)) ak)))
 ao))
def KA(c:aV):Prop:=∀(b:aG) (h:Nat) (E:gf) (L:Str->List Str) (P:Nat->Prop) (n:Str),bG P b h E L->n∈nms E->∃k a,c [.ref h,.str n] b=.ok (.ref k) a/\a[k]?=some (.lst ((de E n).map .str))/\ai [] b a/\b.length<=k
theorem OP(d:yV y):KA (a8 2 2 (UL y)):=by
 intro f h E L P n H c;obtain⟨g,i,a⟩:=d f h E L P n H c;obtain⟨e,l,k,m,o,p,q,z,A⟩:=H.keep a;obtain⟨_,_,_,_,r,_⟩:=H;obtain⟨j,s,_,t⟩:=q.at c;obtain⟨b,u,w,x⟩:=kA (dr t);exact⟨_,b,fR ((qE (eM rfl r rfl i)).trans (qR (eN (eK (eQ (eF rfl o) rfl (jg p s)) rfl) u))),x,a.trans w,a.len⟩
def XX(a b:aV):EM:=(kK (m2 (aA .Eq) (cC "House" "line" a (af 2) (ae (af 0) ak)) (m2 aQ (af 3) (af 0))) (m2 (aA .Eq) (cC "House" "elders_of" b (af 2) (ae (af 0) ak)) (m2 aQ (af 1) (af 0))))
def KC(a b c:aV):SM:=
 (aq (dk (m2 (aA .NotEq) (cC "House" "kinds" a (af 0) ak) (mN (bb .list) (ae (af 1) ak)))
 (aq (bf (aj (.bl false)))
 ao)
 ao)
 (aq (bf (mN (bb .all) (ae (cb (XX b c) true (aj .non) (bx (af 1)) 0 [1,0,2]) ak)))
 ao))
def XY(d:aV):Prop:=∀(a:aG) (h x e l:Nat) (f:List Str) (E:gf) (L:Str->List Str),bG Tr a h E L->Hand a x e l f E L->∃b c,d [.ref h,.ref e,.ref l] a=.ok (.bl true) b/\cP a e c/\ai [] (a.set e (.dF c)) b
theorem OQ(hK:yU y)(hL:JA o3)(hE:KA N4):XY (a8 3 3 (KC y o3 N4)):=by
 intro N h x e l xs E L H B;obtain⟨k,f0,e1,g1,K1,_⟩:=hK N h E L Tr H;obtain⟨m,O,r1⟩:=B.el;have d2:=O.keep K1 (by simp)
 have F:=BY d2;rw[r1.keys]at F;obtain⟨q,e2,K2,g2⟩:=kA F;have r:=K1.trans K2;have G:=xr (K2.g g1) g2;rw[decide_eq_true rfl]at G;obtain⟨fs,o1,o2⟩:=H.ob;have H2:=H.keep r;have S:=B.keep r;have w:=O.keep r (by simp)
 have g0:=w.lt;have h0:(N.set e (.dF m)).length=N.length:=by simp
 have T:ai [e] q (q.set e (.dF m)):=ai.set (by simp)
 have U:=qb w;have H3:bG Tr (q.set e (.dF m)) h E L:=H2.cZ w;have r3:=(r1.keep r (by simp)).cD T (λj A=>by rw[W'.mp A];exact w.nl)
 obtain⟨i0,V,X⟩:=S.ln;have V:=V.keep T (by simpa using ZT B.ne)
 have X:=X.cD T (λj A=>by rw[W'.mp A];exact w.nl)
 have Y:bx (af 1) [oR h,oR e,oR l] q=.ok (.keys e) (q.set e (.dF m)):=ua w
 have I:ai [] (N.set e (.dF m)) (q.set e (.dF m)):=⟨by have:=r.len;simp;exact this,λk c Q _=>by
  by_cases z:k=e
  .subst z
   rw[qb O]at Q;rw[U];exact Q
  .rw[ă (ZT z)]at Q ⊢
   exact r.g Q⟩
 have J:=B.eq;generalize q.set e _=a0 at *
 obtain⟨ys,f,e4,hy,K4⟩:=kS (u:=[oR h,oR e,oR l]) (p:=XX o3 N4) (C:=true) (Z:=aj .non) (P:=[1,0,2]) (o:=(nms E).map .str) (λi t f=>t=(ć i true).map .bl/\ai [] a0 f) Y ⟨rfl,ai.refl⟩
  (λi t f z=>by rw[oD (z.2.g U),r3.keys])
  (λi d t f hd z=>by
   obtain⟨rfl,K⟩:=z;obtain⟨n,hn,rfl⟩:=fU hd;have M:=ZV hn;have H4:=H3.keep K;obtain⟨k5,b0,e5,g5,R,_⟩:=hL f h E L Tr n H4 M;have s:=K.trans R;obtain⟨j,hv,_,A⟩:=(X.keep s (by simp)).at (n:=n) (by rw[gx,←J];exact M)
   rw[kU (by rw[←J];exact M)]at A
   obtain⟨k6,c0,e6,g6,K6,_⟩:=hE b0 h E L Tr n (H3.keep s) M;obtain⟨j7,d0,_,e0⟩:=(r3.keep (s.trans K6) (by simp)).at M
   obtain⟨j0,p1,p2⟩:=H4.ob;have q1:=ng g5 A;have q2:=ng g6 e0;rw[decide_eq_true rfl]at q1 q2;have lk:=V.keep s (by simp)
   refine⟨true,f,rfl,.inr ⟨rfl,.bl true,c0,?_,by rw[List.replicate_succ',Ü];rfl,s.trans K6⟩⟩
   exact aT (u:=[oS n,oR e,oR h,oR l]) (eQ (eM (b:=h) rfl p1 rfl e5 (p2 _ (by decide) (by decide))) (eQ rfl rfl (jg lk hv)) q1) (eQ (eM (b:=h) rfl (R.g p1) rfl e6 (p2 _ (by decide) (by decide))) (eQ rfl rfl (jg (.inr ((s.trans K6).g U)) d0)) q2)) (by have:=B.YL.len;simp[nms];omega)
 subst hy;have R:ai [] f (f++[.lst ((ć ((nms E).map D.str).length true).map .bl)]):=ai.app;have ha:=nh (a:=f++[.lst ((ć ((nms E).map D.str).length true).map .bl)]) av;rw[show(ć ((nms E).map D.str).length true).all id=true by simp]at ha
 exact⟨_,m,fR ((q0 (eQ (eM rfl o1 rfl e1 (o2 _ (by decide) (by decide))) (eN rfl e2) G)).trans (qR (eN (eK e4 rfl) ha))),O,(I.trans K4).trans R⟩
variable{i0:Str->List Str}{ξ:gf}
theorem KD(f:Cp y)(H:Hand a o0 b w l ξ i0):∃h az,y [.ref b] a=.ok (.ref h) az/\bG Tr az h ξ i0/\Hand az o0 b w l ξ i0:=by
 obtain⟨h,az,d,e,c,_⟩:=Ct f H;exact⟨h,az,d,e,c⟩
theorem Hand.cZ{Ω:aG}{e l x:Nat}{xs:List Str}{E:gf}{L:Str->List Str}{a:List (Key×D)}(H:Hand Ω x e l xs E L)(d:cP Ω e a):Hand (Ω.set e (.dF a)) x e l xs E L:=by
 obtain⟨f,h,i,k,m,⟨n,o,p⟩,⟨q,r,s⟩,b⟩:=H;have K:ai [e] Ω (Ω.set e (.dF a)):=ai.set (by simp)
 have g:∀j∈[e],∀c,Ω[j]?≠some (.lst c):=λj t c=>by rw[W'.mp t];exact d.nl c
 have u:x≠e:=λz=>d.nl _ (z▸f)
 exact⟨K.get _ _ f (by simpa using u),h,i,k,m,⟨n,o.cZ d,p.cD K g⟩,⟨q,r.cZ d,s.cD K g⟩,b⟩
def XZ(a:List D->Out Rs)(b:aV):EM:=(mN (a6 b) (ae (mN (bY a) (ae (af 0) (ae (aj (.int 1)) ak))) (ae (m2 (aY .Add) (af 1) (aj (.int 1))) ak)))
def X_(c:List D->Out Rs)(a b:aV):EM:=(mN (a6 a) (ae (af 2) (ae (mN (a6 b) (ae (af 0) (ae (aj (.int 2)) (ae (af 2) (ae (aj (.int 3)) ak))))) ak)))
def Ya:SM:=(aq (bf (aj (.bl false))) ao)
def Yb(a:List D->Out Rs)(b c:aV):SM:=
 (aq (aH 8 (mN (bY a) (ae (af 0) (ae (m2 (aY .Add) (aj (.int 20)) (af 7)) ak))))
 (aq (dk (Bc (jF (mN (a6 b) (ae (af 6) (ae (af 2) (ae (af 3) (ae (af 8) ak)))))) (jF (mN (a6 c) (ae (af 6) (ae (af 2) (ae (af 3) (ae (af 8) ak)))))))
 Ya
 ao)
 ao))
def Yc:EM:=(mN bt (ae (aj (.str "drop")) (ae (aj (.str "line")) (ae (aj (.str "heirs")) (ae (aj (.str "rows")) (ae (aj (.str "elders")) ak))))))
def Yd(a:aV):SM:=
 (aq (dk (m2 (aA .NotEq) (mN (a6 a) (ae (af 6) (ae (af 9) (ae (af 3) ak)))) (tpl "kind" (af 3)))
 Ya
 ao)
 ao)
def Ye(a b:aV):EM:=(kK (mN (a6 a) (ae (af 6) (ae (af 4) (ae (af 5) ak)))) (mN (a6 a) (ae (cC "House" "copied" b (af 6) ak) (ae (af 4) (ae (af 5) ak)))))
def KG(a:List D->Out Rs)(b c d e f g h i j:aV):SM:=
 (aq (aH 1 (Uq a))
 (aq (aH 2 (XZ a b))
 (aq (aH 3 (m2 aQ (af 2) (af 1)))
 (aq (aH 2 (dj (af 2) true (aj .non) false (af 1)))
 (aq (Bm [4,5] (X_ a c d))
 (aq (aH 6 (mN (a6 e) (ae (af 4) ak)))
 (aq (dy (dH 7) (cQ (ae (aj (.int 12)) ak)) (Yb a f g))
 (aq (dy (dH 9) (bx Yc) (Yd h))
 (aq (bf (Ye i j))
 ao)))))))))
variable{P:List Nat}
theorem qU{b:bh}(h:p u a=.ok j H)(c:gs P j u=some b):aq (Bm P p) S u a=S b H:=by
 rw[au,FI,h]
 show sq (match gs P j u with|some b=>.nx b H|none=>.bad) S=_
 rw[c];rfl
variable{Y8:List Int->Nat->Int}
theorem De(J:lu Y8 E2)(hN:JX i8)(hC:JP m8)(hR:J_ n8)(hB:Cp f9)(hA:GB y)(hU:GB o3)(hT:OB N4 i5)(hS:XY z5)(hP:JC f8)(f:List Int):∃az,a8 10 1 (KG E2 i8 m8 n8 f9 y o3 N4 z5 f8) [SC f] []=.ok (.bl true) az:=by
 have hc:∀{k:Nat}{Ω:aG},bY E2 [SC f,.int k] Ω=.ok (.int (Y8 f k)) Ω:=λ{k Ω}=>by simp[J f k]
 obtain⟨m,N,m1,t0,e0,_⟩:=Ka (u:=[some (SC f),none,none,none,none,none,none,none,none,none]) (a:=[]) J rfl;obtain⟨d,x,c,x1,x2,x3,x4,x5,K1⟩:=hN N (Y8 f 1) (m+1) (by omega) (by omega)
 have hm:m<d.length:=by omega
 have e3:aQ (.ref x) (.int m) c=.ok (.str d[m]) c:=bC x5 (L2.cf (by simp[hm]))
 obtain⟨t,e4,K2,g2⟩:=kA (j_ (w:=m) x5);have O:(d.take m).Nodup:=x1.sublist (Ř _ _);have a0:(d.take m).length=m:=by simp;omega
 have b0:d[m]∉d.take m:=λhz=>by
  obtain⟨i,X⟩:=Ó.mp hz;have P:=(ZS.mp X).1;rw[a0]at P;rw[ĳ P]at X;have:=(Ē (by omega) x1).mp (X.trans (ç hm).symm)
  omega
 obtain⟨k,js,rs,c0,e5,R,r2,r3,K3⟩:=hR t f 2 c.length 3 (d.take m) g2 O (by omega)
 obtain⟨E,L,e,l,d0,f0,Q,e6,K4,F,G,d1,d2,d3,d4,g0⟩:=hC c0 c.length k js (d.take m) rs (K3.g g2) R (by omega) O (by omega) (λi r h=>⟨(r3 i r h).1,B' (r3 i r h).2.1 (by decide),(r3 i r h).2.2⟩)
 have H4:Hand Q c.length e l (d.take m) E L:=⟨(K3.trans K4).g g2,by omega,λn hn=>x2 n (Ī hn),F,G,⟨d0,.inl d1,d2⟩,⟨f0,.inl d3,d4⟩,g0⟩
 obtain⟨h,A,e7,T5,Y⟩:=KD hB H4;have N5:OK A h c.length E L d[m]:=⟨T5,by rw[F];exact Y.nx,by rw[F];omega,by rw[F];omega,by rw[F];exact Y.vn,x2 _ (by simp),by rw[F];exact b0⟩
 obtain⟨_,j,e8,H,I,rfl,K6⟩:=Xw (u:=[some (SC f),oI m,oR c.length,oS d[m],oR e,oR l,oR h,none,none,none]) (a:=A) (A5:=dH 7) (S:=Yb E2 y o3) (M0:=cQ (ae (aj (.int 12)) ak)) (b:=12) (λi T j=>∃H I,T=[some (SC f),oI m,oR c.length,oS d[m],oR e,oR l,oR h,H,I,none]/\ai [] A j) rfl (λ{i T j} X ⟨H,I,OO,K⟩=>by
  subst OO;obtain⟨B,e9,U⟩:=hA j h c.length E L d[m] (Y8 f (20+i)) (N5.keep K);obtain⟨p,C,K8⟩:=hU B h c.length E L d[m] (Y8 f (20+i)) (N5.keep (K.trans U))
  have ec:bY E2 [SC f,.int (20+(i:Int))] j=.ok (.int (Y8 f (20+i))) j:=by
   have:=hc (k:=20+i) (Ω:=j);rwa[show((20+i:Nat):Int)=20+(i:Int)by omega]at this
  exact⟨_,_,p,rfl,(qA (eN (eK rfl (eK (eQ rfl rfl lH) rfl)) ec)).trans (q0 (oF (nT (eC rfl e9)) (nT (eC rfl C)))),_,_,rfl,(K.trans U).trans K8⟩) ⟨none,none,rfl,ai.refl⟩ (by decide)
 obtain⟨B,e9,U,g7⟩:=kA (lN (o:=[.str "drop",.str "line",.str "heirs",.str "rows",.str "elders"]) (a:=j));have N7:=N5.keep (K6.trans U)
 obtain⟨_,p,C,Z,rfl,K8⟩:=YG (u:=[some (SC f),oI m,oR c.length,oS d[m],oR e,oR l,oR h,H,I,none]) (a:=j) (A5:=dH 9) (S:=Yd N4) (M0:=bx Yc) (l:=["drop","line","heirs","rows","elders"]) (λi T p=>∃Z,T=[some (SC f),oI m,oR c.length,oS d[m],oR e,oR l,oR h,H,I,Z]/\ai [] B p) (sr (eN rfl e9) g7) (λ⟨_,_,K⟩=>K.g g7) (λ{i w T p} hw ⟨Z,OO,K⟩=>by
  subst OO;obtain⟨q,h0,K9⟩:=hT.str (N7.keep K).hs (N7.sn) (ZV hw);exact⟨_,_,q,rfl,q0 (eQ (eC rfl h0) (iu rfl) (Dc (y9:=some ("NoKind",.str d[m])) λ_ z=>by cases z;exact .inl ⟨_,rfl⟩)),_,rfl,K.trans K9⟩) ⟨none,rfl,ai.refl⟩ (by decide)
 have D:=(K6.trans U).trans K8;have T8:=T5.keep D;obtain⟨q,ek,i0,d9,K9⟩:=hS p h c.length e l _ E L T8 (Y.keep D);have T9:bG Tr q h E L:=(T8.cZ d9).keep K9;have H9:Hand q c.length e l (d.take m) E L:=((Y.keep D).cZ d9).keep K9;obtain⟨g,V,j0,l0,m0,_⟩:=hP q h E L Tr T9;obtain⟨s,_,n0,_,_⟩:=hS V g c.length e l _ E L l0 (H9.keep m0);obtain⟨fs,o1,o2⟩:=T9.ob;have o0:Ye z5 f8 [some (SC f),oI m,oR c.length,oS d[m],oR e,oR l,oR h,H,I,Z] p=.ok (.bl true) s:=aT (eC rfl i0) (eC (eK (eM (M:="copied") rfl o1 rfl j0 (o2 _ (by decide) (by decide))) rfl) n0)
 have p0:dj (af 2) true (aj .non) false (af 1) [some (SC f),oI m,oR x,oS d[m],none,none,none,none,none,none] c=.ok (.ref c.length) t:=by simpa using e4
 have r0:X_ E2 m8 n8 [some (SC f),oI m,oR c.length,oS d[m],none,none,none,none,none,none] t=.ok (.tup [.ref e,.ref l]) Q:=eC (eK rfl (eK (eC rfl e5) rfl)) e6;have s0:XZ E2 i8 [some (SC f),oI m,none,none,none,none,none,none,none,none] N=.ok (.ref x) c:=eC (eK (eN rfl hc) (eK (eQ rfl rfl lH) rfl)) x4;exact⟨s,fR ((qA e0).trans ((qA s0).trans ((qA (eQ rfl rfl e3)).trans ((qA p0).trans ((qU r0 rfl).trans ((qA (eC rfl e7)).trans ((e8 _).trans ((C _).trans (qR o0)))))))))⟩
def OR(st:D'):Option {r:pd×Str×Pos×pd×List pd×Pos // ∃b,st=.Expr (.Call (.Attribute r.1 r.2.1 r.2.2.1) (r.2.2.2.1::r.2.2.2.2.1) [] r.2.2.2.2.2) b}:=match st with
 |.Expr (.Call (.Attribute o m c) (a::d) [] p) _=>some ⟨(o,m,c,a,d,p),_,rfl⟩
 |_=>none
def OS(st:D'):=(OR st).map (·.1)
variable{L:List pd}{R m:pd}
theorem Dg(q:OS ν=some (m,e,n,R,L,J)):∃b,ν=.Expr (.Call (.Attribute m e n) (R::L) [] J) b:=by
 obtain⟨⟨_,h⟩,_,a⟩:=Å.mp q;cases a;exact h
theorem bc.of(h:∀a,RD c i r a m p):bc c i r m p:=λd e f g j pins s b H Q I z=>h b _ e f g j _ s b H Q I ⟨rfl,z⟩
variable{S0:XK}{d0:L2.St}
theorem KH(h:Passes (jm c.prog c.w) c S0):eY c d0 S0:=λpins H s e b I a=>h _ d0 H s e b I a
def fY(T:aM)(a:T')(N:List Str)(c b:Str)(G:aV)(st:D'):Option SM:=
 (OS st).bind λq=>(eT T 60 a N q.1).bind λd=>(dz (eT T 60 a N) (q.2.2.2.1::q.2.2.2.2.1)).bind λe=>if q.2.1==b&&fP q.1&&(q.2.2.1.endLine==q.2.2.2.2.2.line)&&decide (q.2.2.2.2.1.length<19)then some (cw (dC c b G d e))else none
variable{π:T'}
theorem cY(G:GoodO c i ψ b π l)(s:∀a,i e a->a=I)(t:lg c.K I)(g:Meth c.K I M h)(F:bq c.prog c.w c.K c.mg c.base (jm c.prog c.w) b h θ ω (ff i y))(u:Binds c.K θ ω [])(n:Passes (jm c.prog c.w) c S0)(st:D')(f:SM)(d:fY ψ π l e M y st=some f):jO c i (eD i S0) st f:=by
 obtain⟨⟨o,m1,E,x,z,p⟩,v1,d⟩:=ip d;refine bV (ip d) λH A d=>?_
 refine bV (ip d) λJ B d=>?_
 split at d
 rotate_left
 .exact bQ d
 rename_i r;cases d;simp at r;obtain⟨⟨⟨c1,c2⟩,c3⟩,c4⟩:=r;subst c1;obtain⟨L,rfl⟩:=Dg v1;obtain⟨C,k⟩:=ck (λj m q=>iZ 60 c π l j m G q) B
 refine wF (rE rfl) (bc.of λD=>y6 s t g F G.room u (KH n) ((iZ 60 c π l _ _ G A).1 _) (C _) (bW (k x (by simp))) (bU (by simp_all)) (kN (eu c2) k (by exact Ϛ c4) (by simp[c3])))
theorem Dh(F:bq B G A Y z (jm B G) b h θ l (ff i y)):bq B G A Y z eA b h θ l (bH i y):=by
 have o:∀{j:List V}{H:Hp}{Q:VK}{E:XK},bH i y j H Q E->ff i y j H Q λ_ _ _=>False:=λ{j H Q E}  u =>bp u λw Z p t S r g=>⟨w,Z,p,t,S,r,by
  cases q:y t p with
  |ok d n=>rwa[q]at g
  |exc x n=>rw[q]at g;exact λC D I a k=>(g C _ I a k).elim
  |bad=>rwa[q]at g⟩
 refine⟨λj H Q E f=>F.len j H Q _ (o f),λm outer s H args J j Q E K L M N f=>ÿ (F.run m _ s H _ J j Q _ K L M N (o f)) λr O c=>?_⟩
 cases r with
 |error e=>refine bp c λ_ _ _ _ _ _ c=>?_;exact c.elim
 |ok fl=>cases fl<;>exact c
theorem ey{α:Type}{a b:Option α}{c:α}(h:a.or b=some c):a=some c\/b=some c:=by
 cases a with
 |none=>exact .inr h
 |some x=>exact .inl h
def rW(st:D'):Option SM:=match st with
 |.If _ _ _ _=>none
 |_=>some cu
theorem iv(st:D')(a:SM)(h:rW st=some a):jO c i r st a:=by
 have e:a=cu:=by
  unfold rW at h;split at h
  .cases h
  .cases h;rfl
 subst e;exact jt
theorem vD:∀v c H Q,uB A 2 (g_ [0,1]) v c H Q->uB A 2 (g_ [0,1]) v c H λb d=>Q b d/\b.length=c.length/\∀j,2<=j->b[j]?=c[j]?:=λv c H Q h=>by
 obtain⟨a,g,rfl,e,f,v1,i,rfl,v2,k,rfl,rfl,q⟩:=h;refine⟨a,_,rfl,e,f,v1,_,rfl,v2,_,rfl,rfl,q,by simp,λj l=>?_⟩
 rw[ă (by omega),ă (by omega)]
variable{M0:IM}{Z:EM}
theorem Di(F:c.calm=true)(B:jJ c π [e,M] l P)(O:∀z,ý m c.env z=pure z)(y:yE c i r (.Tuple [.Name e J,.Name M P0] b o5) m M0)(Q:π.names.lookup e=some .local)(T:π.names.lookup M=some .local)(s:([e,M]++l).Nodup)(U:∀q C f g fp,bc (blk c π q C ([e,M]++l) f g fp) i jY R p):bc c i r (.ListComp R [⟨.Tuple [.Name e J,.Name M P0] b o5,m,[],0⟩] π n) (cb p true Z M0 2 P):=by
 have G:(ċ π c.env).names.lookup e=some .local:=aaM Q;have t:(ċ π c.env).names.lookup M=some .local:=aaM T;intro A V X Y I
 obtain⟨wi,tc,te,D,u,h3⟩:=pY (m5:=uB c.K 2 (g_ [0,1])) (l:=[e,M]) (ω:=l) (P:=P) (b:=2) (L:=[]) (Z:=Z) (C:=true) (π:=π) (G2:=R) (p:=p) y (λd N z α E I H a0 k j S rx hk=>by
   cases d with
   |tup es=>
    simp only[tJ]at j;split at j
    .rename_i x
     injection j with j;have o:N=es:=(aaT (λ_ _ h=>by injection h)).mp j.symm
     subst o;obtain⟨a,vs,rfl,_,D,u⟩:=er rx
     match N,x,u with
     |[d1,d2],_,u=>
      obtain⟨v,w,rfl,q1,q2⟩:=wC u;exact⟨a,_,rfl,uv (.inl D),rfl,v,_,rfl,w,_,rfl,rfl,hk [v,w] (.cons q1 (.one q2))⟩
    .cases j
   |_=>cases j) (λq C f g fp=>⟨zx (c:=blk c π q C ([e,M]++l) f g fp) F (nt (kj (c:=blk c π q C ([e,M]++l) f g fp) s rfl (.inl G) (.inr G)) (nt (kj (c:=blk c π q C ([e,M]++l) f g fp) (b:=1) s rfl (.inl t) (.inr t)) vJ)),.inl ⟨rfl,rfl⟩,U q C f g fp⟩) A V X Y I
 exact PE.imp (wb F B D O vD u) h3
def UM(st:D'):Option {r:Str×pd×Str×Str×pd×T' // ∃b c e f g p p2 p3,st=.Return (some (.Call (.Name r.1 b) [.ListComp r.2.1 [⟨.Tuple [.Name r.2.2.1 c,.Name r.2.2.2.1 e] f g,r.2.2.2.2.1,[],0⟩] r.2.2.2.2.2 p] [] p2)) p3}:=match st with
 |.Return (some (.Call (.Name d _) [.ListComp a [⟨.Tuple [.Name x _,.Name y _] _ _,iter,[],0⟩] scope _] [] _)) _=>some ⟨(d,a,x,y,iter,scope),_,_,_,_,_,_,_,_,rfl⟩
 |_=>none
def KI(T:aM)(a:T')(N:List Str)(st:D'):Option SM:=
 (UM st).bind λr=>(uZ a N (eG r.1.2.2.2.2.2)).bind λb=>(rC (eT T 60 a N) a r.1.2.2.2.2.1).bind λc=>(eT T 60 (Er r.1.2.2.2.2.2 a) (r.1.2.2.1::r.1.2.2.2.1::eG r.1.2.2.2.2.2) r.1.2.1).bind λd=>
  if r.1.1==("dict":Str)&&Dr a ("dict":Str)&&yr r.1.2.2.2.2.2 a r.1.2.2.1&&(r.1.2.2.2.2.2.names.lookup r.1.2.2.2.1==some .local)&&decide ((r.1.2.2.1::r.1.2.2.2.1::eG r.1.2.2.2.2.2).Nodup)&&!isSet r.1.2.2.2.2.1 then some (bf (mN gO (ae (cb d true (aj .non) c 2 b) ak)))else none
theorem xO(G:GoodO c i ψ b π l)(st:D')(a:SM)(h:KI ψ π l st=some a):jO c i r st a:=by
 obtain⟨⟨⟨d,k,x,y,iter,scope⟩,A⟩,v1,h⟩:=ip h;obtain⟨n,t,h⟩:=ip h;obtain⟨M,u,h⟩:=ip h;obtain⟨B,w,h⟩:=ip h;obtain⟨N,O,P,Q,R,p,S,T,e⟩:=A;dsimp only at h t u w e;subst e;split at h
 rotate_left
 .cases h
 rename_i z;cases h;simp only[Ç,decide_eq_true_eq,beq_iff_eq,ť]at z;obtain⟨⟨⟨⟨⟨D,E⟩,F⟩,H⟩,o⟩,s⟩:=z;subst D;obtain⟨f,I,U⟩:=wJ G F t;have J:jJ c scope [x,y] (eG scope) n:=⟨f.kind,f.cell,f.names,f.free,f.len,f.at'⟩;refine gu (Bi G.calm (G.gl E) (G.eU _ (by decide)) (bW rfl) (bU (by simp)) (bo (Di G.calm J (kB s) (wK G (λe m q=>iZ 60 c π l e m G q) u r) I H o λK C g j L=>(iZ 60 _ _ _ k B (G.blk scope K C ([x,y]++eG scope) g j L) w).1 jY) cS rfl))
end Mir
namespace Mir
open PySem PySem.Spec PyProof.Rows L2
structure gS(K:A')(C:b')(x qual:Str)(st:D')(f:b')(fd:N'):Prop where
 me:Meth K C x f
 fn:sR K x qual st f fd
variable{A:A'}{A4 G5:Option b'}{C5:Array (Option f')}{C6 D5 N N2 Y5 i6:f'}{I h:b'}{M e:Str}{ν:D'}
theorem um(a:Ä A (.ref h) e=some (some (.ref I)))(l:A.lookup I=some ⟨N,A4,.func (Á e M (bB ν) (aK ν) (ag ν) .none N2 D5 Y5 G5 i6 C6),C5⟩)(c:ö A i6 M=true)(k:Z_ A (.ref I)=true)(i:ŵ A (.ref I)=true):gS A h e M ν I (Á e M (bB ν) (aK ν) (ag ν) .none N2 D5 Y5 G5 i6 C6):=⟨⟨a,i,k⟩,qL l c k⟩
variable [hH]
variable{θ:N'}
theorem ez(F:sR A e M ν h θ):yT A e M ν .none h θ:=⟨F.ex,F.kp⟩
variable{B:X'}{B4 z:y'}{G:O'}{S:SM}{W7 l ω:List Str}{Y:Str->Option f'}{b:Nat}{ψ:aM}
theorem aO.UN(W:aO B G A Y z ψ b)(X:A.In B4)(c:B4.Ns ZY Y)(a:mj A e ν h θ)(i:c_ l ω (ag ν)=true)(j:wO ψ W7 ν l=some S)(k:∀(kV d m:f') (n:Option b') (f ct:f') (g:List f'),g.length=ω.length->ı (Á e e (bB ν) (aK ν) (ag ν) .none kV d m n f ct) ⟨g,[]⟩=pure (ω.zip g)):
  aO B G A Y z (ψ.dB e (a8 l.length ω.length S)) (b+1):=W.dB (F' X c a.ns) a.fn.kp (a.fn.binds k) (rM W (ez a.fn) i j)
variable{E3:Str}
theorem aO.UO(W:aO B G A Y z ψ b)(g:Y E3=some (.ref h))(i:lg A h)(a:gS A h e M ν I θ)(j:c_ l ω (ag ν)=true)(k:wO ψ W7 ν l=some S)(m:∀(kV c n:f') (o:Option b') (d ct:f') (f:List f'),f.length=ω.length->ı (Á e M (bB ν) (aK ν) (ag ν) .none kV c n o d ct) ⟨f,[]⟩=pure (ω.zip f)):
  aO B G A Y z (ψ.gQ E3 e (a8 l.length ω.length S)) (b+1):=W.gQ g i a.me (a.fn.binds m) (rM W (ez a.fn) j k)
abbrev GD(K:A')(C:b')(x qual:Str)(st:D'):Prop:=∃f a,gS K C x qual st f a
abbrev f_(K:A')(x:Str)(st:D'):Prop:=∃f a,mj K x st f a
structure UP(K:A')(C:Str)(a:b'):Prop where
 ns:Î K ZY C=some (some (.ref a))
 pg:ϰ K a abo=true
 hd:ĝ K a=true
 po:ϩ K a=true
 sa:Ä K (.ref a) "__setattr__"=some (some (.builtin "object.__setattr__"))
 ma:ϭ K a=true
 kc:Z_ K (.ref a)=true
theorem UP.cl(c:UP A e h):lg A h:=⟨c.pg,c.hd,c.po,c.sa⟩
variable{N1:Type}
theorem u1{P:List N1->Prop}(a:List N1)(b:a.length=1)(h:∀x,P [x]):P a:=by
 cases a with
 |nil=>cases b
 |cons x a=>
  cases a with
  |nil=>exact h x
  |cons _ _=>cases b
theorem u2{P:List N1->Prop}(a:List N1)(b:a.length=2)(h:∀x y,P [x,y]):P a:=by
 cases a with
 |nil=>cases b
 |cons x a=>exact u1 (P:=λa=>P (x::a)) a (aaW b) (h x)
theorem u3{P:List N1->Prop}(a:List N1)(b:a.length=3)(h:∀x y z,P [x,y,z]):P a:=by
 cases a with
 |nil=>cases b
 |cons x a=>exact u2 (P:=λa=>P (x::a)) a (aaW b) (h x)
theorem u4{P:List N1->Prop}(a:List N1)(b:a.length=4)(h:∀x y z w,P [x,y,z,w]):P a:=by
 cases a with
 |nil=>cases b
 |cons x a=>exact u3 (P:=λa=>P (x::a)) a (aaW b) (h x)
variable{o8:f'->f'->f'->Option b'->f'->f'->List f'->Prop}
theorem ze(h:∀a b c d e f x,o8 a b c d e f [x]):∀a b c d e f g,g.length=1->o8 a b c d e f g:=λa b c d e f g i=>u1 g i (h a b c d e f)
theorem oO(h:∀a b c d e f x y,o8 a b c d e f [x,y]):∀a b c d e f g,g.length=2->o8 a b c d e f g:=λa b c d e f g i=>u2 g i (h a b c d e f)
theorem UQ(h:∀a b c d e f x y z,o8 a b c d e f [x,y,z]):∀a b c d e f g,g.length=3->o8 a b c d e f g:=λa b c d e f g i=>u3 g i (h a b c d e f)
theorem OT(h:∀a b c d e f x y z w,o8 a b c d e f [x,y,z,w]):∀a b c d e f g,g.length=4->o8 a b c d e f g:=λa b c d e f g i=>u4 g i (h a b c d e f)
structure Df(T:aM)(st:D')(N:List Str)(n:Nat)(c:SM):Prop where
 s:(c_ N (N.take n) (ag st)&&(N.take n).length==n)=true
 k:wO T [] st N=some c
theorem Df.sc(d:Df ψ ν l b S):c_ l (l.take b) (ag ν)=true:=(ñ.mp d.s).1
theorem Df.ln(d:Df ψ ν l b S):(l.take b).length=b:=eq_of_beq (ñ.mp d.s).2
variable{w:Nat}
theorem aO.dF(W:aO B G A Y z ψ b)(X:A.In B4)(c:B4.Ns ZY Y)(a:f_ A e ν)(d:Df ψ ν l w S)(n:∀(kV j o:f') (p:Option b') (m ct:f') (i:List f'),i.length=w->ı (Á e e (bB ν) (aK ν) (ag ν) .none kV j o p m ct) ⟨i,[]⟩=pure ((l.take w).zip i)):
  aO B G A Y z (ψ.dB e (a8 l.length w S)) (b+1):=by
 obtain⟨_,_,a⟩:=a;have:=W.UN X c a d.sc d.k λa g S q h f i B4=>n a g S q h f i (B4.trans d.ln)
 rwa[d.ln]at this
theorem aO.dM(W:aO B G A Y z ψ b)(o:Y E3=some (.ref h))(p:lg A h)(a:GD A h e M ν)(d:Df ψ ν l w S)(q:∀(kV m r:f') (s:Option b') (n ct:f') (j:List f'),j.length=w->ı (Á e M (bB ν) (aK ν) (ag ν) .none kV m r s n ct) ⟨j,[]⟩=pure ((l.take w).zip j)):
  aO B G A Y z (ψ.gQ E3 e (a8 l.length w S)) (b+1):=by
 obtain⟨_,_,a⟩:=a;have:=W.UO o p a d.sc d.k λa c S t g f j i=>q a c S t g f j (i.trans d.ln)
 rwa[d.ln]at this
theorem Df.ok(d:Df ψ ν l w S)(W:aO B G A Y z ψ b)(F:yT A e M ν N h θ):bq B G A Y z eA (b+1) h θ (l.take w) (bH (aS Y) (a8 l.length w S)):=by
 have:=rM W F d.sc d.k;rwa[d.ln]at this
variable{J n:Pos}{L:List pd}{O:List V}{c:Cx}{i:Str->b'->Prop}{m:pd}{o:List D}{r:hX}{y:aV}{Θ:AM}{χ:List f'}
theorem zg(F1:bq c.prog c.w c.K c.mg c.base eA b h θ l (bH i y))(j:bA b c.A)(k:Gl c e)(p:c.mg e=some (.ref h))(q:Z_ c.K (.ref h)=true)(s:Binds c.K θ l χ)(t:Vals O χ)(u:∀α Z H,aE (aw α Z H) o O)(a:(e==("__debug__":Str))=false)(x:x' (m::L) c.env=(false,eval m c.env)::x' L c.env)(d:(ZP J (x' L c.env)).any (·.1)=false)(z:nV c i r (m::L) Θ):
  bc c i r (.Call (.Name e n) (m::L) [] J) (mN (λxs Ω=>a6 y (xs++o) Ω) Θ):=by
 intro f B C D Ω;refine PE.imp (qD F1 j k p q s t lU (z f B C D Ω) a x d) ?_;rintro P H Q ⟨α,Z,S,g⟩;refine⟨α,Z,S,pa.use g λxs E _ R T F G U I M N=>⟨_,G,_,_,I,M.append (u _ _ _),bJ.ok0 N⟩⟩
def rowOf(st:D')(i:Nat)(f:Str):oZ:=match (aK st).getD i (.Pass ⟨0,0,0,0⟩)with
 |.Assign [.Attribute (.Name _ a) _ b] v c=>⟨f,v,a,b,c⟩
 |_=>⟨f,.Constant .none 0 ⟨0,0,0,0⟩,⟨0,0,0,0⟩,⟨0,0,0,0⟩,⟨0,0,0,0⟩⟩
structure OU(K:A')(x qual:Str)(st:D')(C N f c:b')(fd:N'):Prop where
 a:Î K ZY x=some (some (.ref C))
 cl:lp K C N f
 fn:sR K "__init__" qual st f fd
 cv:fd.code=.ref c
 is:PH K C
variable{C:Bool}{E1 Δ:b'}{F5:Str}{F7 G7 J7 L7 T4:Option f'}{Q7:Option Bool}{T7 W4:List f'}{aa:ClassData}
theorem KJ(b:Î A ZY e=some (some (.ref h)))(c:A.lookup h=some (ķ E3 F5 h I χ W4 true l T7 C Q7 A4 T4 F7 G7 J7 L7 "ValueError.__new__"))(nC:Î A I "__init__"=some (some (.ref Δ)))(tC:sW A W4=true)(xa:aal A h=some aa)(d:gW aa.mro=true)(f:aa.hasDict=true)(g:Ä A (.ref h) "__setattr__"=some (some (.builtin "object.__setattr__")))(xe:Ä A (.ref h) "__getattribute__"=some (some (.builtin "BaseException.__getattribute__")))(i:Ä A (.ref h) "__getattr__"=some none)(j:ő A h (.type "BaseException")=some true)(k:ĝ A h=true)(m:PJ A I "__init__"=some (some (.ref Δ)))(n:Z_ A (.ref h)=true)(o:Ϯ A (.ref Δ)=some (.type "function")){a:Option b'}(p:A.lookup Δ=some ⟨N,G5,.func (Á "__init__" M (bB ν) (aK ν) (ag ν) .none N2 D5 Y5 a (.ref E1) i6),C5⟩)(q:ö A (.ref E1) M=true)(r:Z_ A (.ref Δ)=true)(s:Ä A (.ref h) "__class__"=some (some (.builtin "object.__class__")))(t:Ğ A (.builtin "object.__class__") "__get__"=some (some (.builtin "getset_descriptor.__get__")))(u:Ő A (.builtin "object.__class__")=some true)(w:ő A h (.type "object")=some true):OU A e M ν h I Δ E1 (Á "__init__" M (bB ν) (aK ν) (ag ν) .none N2 D5 Y5 a (.ref E1) i6):=
 ⟨b,⟨⟨_,_,_,_,_,_,_,_,_,_,_,_,_,_,c,vV tC⟩,⟨_,xa,d,f⟩,g,⟨xe,i,j⟩,k,GV m,n,o⟩,qL p q r,rfl,⟨s,t,u,w⟩⟩
end Mir
namespace UR
open PySem PySem.Spec PyProof.Rows L2 Mir
noncomputable def top(i:Nat):D':=PySem.Challenge.pw_taglook_k28_refused_in_order.main.body.getD i (.Pass ⟨0,0,0,0⟩)
instance clos:hH:=⟨λ_=>⟨"","",bB (top 0),[],ag (top 0),[],[]⟩,λ_=>0⟩
noncomputable def td:List Str:=[]
def US:aM:=(((((((({}:aM).mG "DEEPEST" (.int 8)).mG "MOST_ELDERS" (.int 5)).mG "MOST_KINDS" (.int 12)).mG "MOST_LETTERS" (.int 8)).mG "LETTERS" (.str "abcdefghijklmnopqrstuvwxyz")).yQ "elders" ["House"]).yQ "lines" ["House"])
def YW:aV:=a8 2 2 oK
def F0:List Mir.D->Out Rs:=pureOf YW
def UT:aM:=US.yP "_law_cell" F0
theorem YX:Df US (top 33) ["_law_script","_law_k"] 2 oK:=⟨by decide +kernel,rfl⟩
def YY:aV:=a8 8 3 qa
def F1:List Mir.D->Out Rs:=pureOf YY
def Yf:aM:=UT.yP "_law_mix" F1
theorem YZ:Df UT (top 34) ["_law_cell_here","_law_turn","_law_many","_law_rest","_law_k","_law_turns","_law_one","_law_two"] 3 qa:=⟨by decide +kernel,rfl⟩
def U0:aM:=Yf
noncomputable def Bd:aV:=λ_ _=>.bad
noncomputable def LG:List Str:=["thing","depth"]
def A0:aM:={U0.dB "own_copy" Bd with xt:=true}
def Oa:aV:=a8 2 2 (oM Bd)
def A1:aM:={U0.dB "own_copy" Oa with xt:=true}
def O0:aV:=p7 (a8 2 2 (oM Oa))
theorem Yg:c_ LG LG (ag (top 2))=true:=by decide +kernel
theorem Y_:eI (jH (KI A0 (ag (top 2)) LG) A0 td 60 (ag (top 2)) LG 30) (aK (top 2))=some (oM Bd):=rfl
theorem Za:eI (jH (KI A1 (ag (top 2)) LG) A1 td 60 (ag (top 2)) LG 30) (aK (top 2))=some (oM Oa):=rfl
def fN:List (Str×EM):=[("name",xD O0)]
def fM:List (Str×EM):=[("most",xD O0)]
def U1:aM:=U0
def O1:aV:=a8 1 1 uc
def U2:aM:=U1.dB "is_name" O1
theorem Zb:Df U1 (top 19) ["thing"] 1 uc:=⟨by decide +kernel,rfl⟩
def O2:aV:=a8 4 2 vk
def U3:aM:=U2.dB "place_behind" O2
theorem Zc:Df U2 (top 23) ["left","name","place","row"] 2 vk:=⟨by decide +kernel,rfl⟩
def O3:aV:=a8 2 1 (BS O2)
def U4:aM:=U3.dB "free_name" O3
theorem Zd:Df U3 (top 22) ["left","row"] 1 (BS O2):=⟨by decide +kernel,rfl⟩
def O4:aV:=a8 4 1 (FO cu O3)
def U5:aM:=U4.dB "merged" O4
theorem Ze:Df U4 (top 21) ["rows","left","order","name"] 1 (FO cu O3):=⟨by decide +kernel,rfl⟩
def O5:aV:=a8 2 2 QZ
def U6:aM:=U5.dB "ready_kinds" O5
theorem Zf:Df U5 (top 14) ["elders","order"] 2 QZ:=⟨by decide +kernel,rfl⟩
def O6:aV:=a8 3 1 (Ra O5)
def U7:aM:=U6.dB "elders_first" O6
theorem Zg:Df U6 (top 13) ["elders","order","ready"] 1 (Ra O5):=⟨by decide +kernel,rfl⟩
def d7:SM:=TV O6
 (aq (aH 4 (mN bt ak))
 (aq (aH 2 (m2 aQ (af 3) (aj (.int 0))))
 (aq (pf (m2 (aA .NotIn) (af 2) (af 4))
 (aq (cw (dU mz cm (af 4) (ae (af 2) ak)))
 (aq (aH 2 (m2 aQ (cb (af 0) false (m2 (aA .In) (af 0) (af 1)) (bx (m2 aQ (af 0) (af 2))) 0 [3]) (aj (.int 0))))
 ao)))
 (aq (bf (dj (af 4) false (dU mz gy (af 4) (ae (af 2) ak)) true (aj .non)))
 ao))))
def O7:aV:=a8 5 1 d7
def U8:aM:=U7.dB "loop_of" O7
theorem Zh:Df U7 (top 15) ["elders","order","name","left","met"] 1 d7:=⟨by decide +kernel,rfl⟩
def O8:aV:=a8 2 2 Rc
def U9:aM:=U8.dB "rows_by" O8
theorem Zi:Df U8 (top 27) ["lines","own_elders"] 2 Rc:=⟨by decide +kernel,rfl⟩
def O9:aV:=a8 6 1 (Rj O7 O6 O4 O8)
def UU:aM:=U9.dB "lines_of" O9
theorem Zj:Df U9 (top 26) ["elders","ring","lines","tangles","name","refusal"] 1 (Rj O7 O6 O4 O8):=⟨by decide +kernel,rfl⟩
def KL:aV:=a8 1 1 NP
def Yh:aM:=UU.gQ "House" "__init__" KL
theorem UW:Df UU (inClass (top 31) 0) ["self"] 1 NP:=⟨by decide +kernel,rfl⟩
def UX:aM:=Yh.Fv "House" KL
def Dt:aV:=a8 1 1 Rl
def RJ:aM:=UX.gQ "House" "kinds" Dt
theorem UY:Df UX (inClass (top 31) 5) ["self"] 1 Rl:=⟨by decide +kernel,rfl⟩
def KN:aM:={RJ with xt:=true}
noncomputable def OV:List Str:=["self","name"]
def gc:aV:=a8 2 2 (Kc Dt fN)
def UZ(st:D'):Option SM:=(ml KN (ag (inClass (top 31) 11)) OV "NoKind" 1 fN st)
theorem OW:eI (jH UZ KN td 60 (ag (inClass (top 31) 11)) OV 30) (aK (inClass (top 31) 11))=some (Kc Dt fN):=rfl
def HE:aV:=a8 2 2 (Rm Dt)
def RK:aM:=RJ.gQ "House" "check_kind" HE
theorem OX:Df RJ (inClass (top 31) 11) ["self","name"] 2 (Rm Dt):=⟨by decide +kernel,rfl⟩
def Dj:aM:={RK with xt:=true}
noncomputable def GF:List Str:=["self","elders","place","elder"]
def uo:aV:=a8 4 2 (Cw gc fN fM)
def U_(st:D'):Option SM:=((ml Dj (ag (inClass (top 31) 12)) GF "TooMany" 1 fM st).or (ml Dj (ag (inClass (top 31) 12)) GF "Twice" 1 fN st)).or (fY Dj (ag (inClass (top 31) 12)) GF "House" "check_kind" gc st)
theorem OY:eI (jH U_ Dj td 60 (ag (inClass (top 31) 12)) GF 30) (aK (inClass (top 31) 12))=some (Cw gc fN fM):=rfl
def RL:aV:=a8 4 2 (Rn HE)
def Va:aM:=RK.gQ "House" "check_elders" RL
theorem OZ:Df RK (inClass (top 31) 12) ["self","elders","place","elder"] 2 (Rn HE):=⟨by decide +kernel,rfl⟩
def RM:aV:=a8 3 2 (Rp O9)
def RN:aM:=Va.gQ "House" "settle" RM
theorem Vb:Df Va (inClass (top 31) 13) ["self","elders","lines"] 2 (Rp O9):=⟨by decide +kernel,rfl⟩
def zh:aM:={RN with xt:=true}
noncomputable def Dk:List Str:=["self","name","elders","at","order"]
def GG:aV:=a8 5 4 (Gp O1 uo fN fM)
def Vc(st:D'):Option SM:=((((ml zh (ag (inClass (top 31) 1)) Dk "NoName" 1 fN st).or (ml zh (ag (inClass (top 31) 1)) Dk "Twice" 1 fN st)).or (ml zh (ag (inClass (top 31) 1)) Dk "TooMany" 1 fM st)).or (fY zh (ag (inClass (top 31) 1)) Dk "House" "check_elders" uo st)).or (rW st)
theorem O_:eI (jH Vc zh td 60 (ag (inClass (top 31) 1)) Dk 30) (aK (inClass (top 31) 1))=some (Gp O1 uo fN fM):=rfl
def RO:aV:=a8 5 4 (Rq O1 RL Dt RM)
def RP:aM:=RN.gQ "House" "add" (λa=>RO (a++[.non]))
theorem Pa:Df RN (inClass (top 31) 1) ["self","name","elders","at","order"] 4 (Rq O1 RL Dt RM):=⟨by decide +kernel,rfl⟩
def KO:aM:={RP with xt:=true}
noncomputable def Pb:List Str:=["self","name"]
def KP:aV:=a8 2 2 (mn "check_kind" gc 1)
def Vd(st:D'):Option SM:=(fY KO (ag (inClass (top 31) 7)) Pb "House" "check_kind" gc st).or (rW st)
theorem Pc:eI (jH Vd KO td 60 (ag (inClass (top 31) 7)) Pb 30) (aK (inClass (top 31) 7))=some (mn "check_kind" gc 1):=rfl
def RQ:aV:=a8 2 2 (Ro HE)
def RR:aM:=RP.gQ "House" "line" RQ
theorem Pd:Df RP (inClass (top 31) 7) ["self","name"] 2 (Ro HE):=⟨by decide +kernel,rfl⟩
def KQ:aM:={RR with xt:=true}
noncomputable def Pe:List Str:=["self","name"]
def KR:aV:=a8 2 2 (mn "check_kind" gc 1)
def Ve(st:D'):Option SM:=(fY KQ (ag (inClass (top 31) 6)) Pe "House" "check_kind" gc st).or (rW st)
theorem Pf:eI (jH Ve KQ td 60 (ag (inClass (top 31) 6)) Pe 30) (aK (inClass (top 31) 6))=some (mn "check_kind" gc 1):=rfl
def RS:aV:=a8 2 2 (UL HE)
def Vf:aM:=RR.gQ "House" "elders_of" RS
theorem Pg:Df RR (inClass (top 31) 6) ["self","name"] 2 (UL HE):=⟨by decide +kernel,rfl⟩
def RT:aV:=a8 2 1 (Rr KL)
def Vg:aM:=Vf.gQ "House" "copied" RT
theorem Vh:Df Vf (inClass (top 31) 10) ["self","twin"] 1 (Rr KL):=⟨by decide +kernel,rfl⟩
def KS:aM:={Vg with xt:=true}
noncomputable def KU:List Str:=["self","name","kind","elders"]
def KW:aV:=a8 4 2 (mn "check_kind" gc 3)
def Vi(st:D'):Option SM:=(fY KS (ag (inClass (top 31) 2)) KU "House" "check_kind" gc st).or (rW st)
theorem Ph:eI (jH Vi KS td 60 (ag (inClass (top 31) 2)) KU 30) (aK (inClass (top 31) 2))=some (mn "check_kind" gc 3):=rfl
def Vj:aM:=Vg
def Dl:aM:={Vj with xt:=true}
noncomputable def Dm:List Str:=["self","turns","turned","name","elders"]
def vE:aV:=a8 5 2 (Cy gc uo fN)
def Vk(st:D'):Option SM:=((fY Dl (ag (inClass (top 31) 4)) Dm "House" "check_kind" gc st).or (ml Dl (ag (inClass (top 31) 4)) Dm "Twice" 1 fN st)).or (fY Dl (ag (inClass (top 31) 4)) Dm "House" "check_elders" uo st)
theorem Pj:eI (jH Vk Dl td 60 (ag (inClass (top 31) 4)) Dm 30) (aK (inClass (top 31) 4))=some (Cy gc uo fN):=rfl
def Vl:aM:=Vj
def KY:aM:={Vl with xt:=true}
noncomputable def KZ:List Str:=["self","turns","elders","name","others"]
def K_:aV:=a8 5 2 (mn "may_turn" vE 3)
def Vm(st:D'):Option SM:=(fY KY (ag (inClass (top 31) 3)) KZ "House" "may_turn" vE st).or (rW st)
theorem Pk:eI (jH Vm KY td 60 (ag (inClass (top 31) 3)) KZ 30) (aK (inClass (top 31) 3))=some (mn "may_turn" vE 3):=rfl
def Vn:aM:=Vl
def La:aM:={Vn with xt:=true}
noncomputable def Lb:List Str:=["self","name"]
def Lc:aV:=a8 2 2 (mn "check_kind" gc 1)
def Vo(st:D'):Option SM:=(fY La (ag (inClass (top 31) 8)) Lb "House" "check_kind" gc st).or (rW st)
theorem Pl:eI (jH Vo La td 60 (ag (inClass (top 31) 8)) Lb 30) (aK (inClass (top 31) 8))=some (mn "check_kind" gc 1):=rfl
def Vp:aM:=Vn
def Ld:aM:={Vp with xt:=true}
noncomputable def Le:List Str:=["self","name"]
def Lf:aV:=a8 2 2 (mn "check_kind" gc 1)
def Vq(st:D'):Option SM:=(fY Ld (ag (inClass (top 31) 9)) Le "House" "check_kind" gc st).or (rW st)
theorem Pm:eI (jH Vq Ld td 60 (ag (inClass (top 31) 9)) Le 30) (aK (inClass (top 31) 9))=some (mn "check_kind" gc 1):=rfl
def Vr:aM:=Vp
def RU:aV:=a8 11 2 (RA F1)
def Vs:aM:=Vr.dB "_law_names" RU
theorem Vt:Df Vr (top 35) ["_law_cell_here","_law_many","_law_letters","_law_stem","_law_turn","_law_names_here","_law_size","_law_spot","_law_first","_law_step","_law_signs"] 2 (RA F1):=⟨by decide +kernel,rfl⟩
def RW:aV:=a8 9 4 (RC F1 F0)
def Vu:aM:=Vs.dB "_law_rows" RW
theorem Vv:Df Vs (top 36) ["_law_script","_law_start","_law_names_here","_law_most","_law_rows_here","_law_k","_law_cell_here","_law_row","_law_spot"] 4 (RC F1 F0):=⟨by decide +kernel,rfl⟩
def Vx:aV:=a8 7 1 NW
def Vy:aM:=Vu.dB "_law_merge" Vx
theorem Vz:Df Vu (top 37) ["_law_rows_here","_law_row","_law_left","_law_told_here","_law_behind","_law_name","_law_free"] 1 NW:=⟨by decide +kernel,rfl⟩
def RX:aV:=a8 7 2 (Rv Vx)
def VA:aM:=Vy.dB "_law_clean" RX
theorem VB:Df Vy (top 38) ["_law_names_here","_law_rows_here","_law_elders_here","_law_lines","_law_k","_law_row","_law_behind"] 2 (Rv Vx):=⟨by decide +kernel,rfl⟩
def RY:aV:=a8 5 1 (Ry KL RO)
def Yi:aM:=VA.dB "_law_built" RY
theorem VC:Df VA (top 39) ["_law_elders_here","_law_house","_law_name","_law_row","_law_handed"] 1 (Ry KL RO):=⟨by decide +kernel,rfl⟩
def Yj:aM:=Yi
def Yk:aM:=Yj
def Yl:aV:=a8 2 1 (zd (l4 "NoName" "Twice" "NoKind" "TooMany") (l4 "Heired" "Loop" "Ring" "Tangled") LF Ow)
def Ym:aV:=a8 2 1 (Gx Yl ["TooMany"] ["NoName","Twice","NoKind"])
def GH:aV:=a8 5 3 (ui (λa=>GG (a++[.non])) K_ vE KW KP Lf Lc KR Ym jB)
def VD:aM:=Yk.dB "_law_told" GH
def LH:aV:=a8 5 4 (Kx F1)
def VE:aM:=VD.dB "_law_elders" LH
theorem VF:Df VD (top 43) ["_law_names_here","_law_stranger","_law_cell_here","_law_turn","_law_some"] 4 (Kx F1):=⟨by decide +kernel,rfl⟩
def Pn:aV:=a8 3 2 CW
def VG:aM:=VE.dB "_law_due_elders" Pn
theorem VH:Df VE (top 44) ["_law_names_here","_law_some","_law_k"] 2 CW:=⟨by decide +kernel,rfl⟩
def VI:aV:=a8 4 4 (uk Pn)
def VJ:aM:=VG.dB "_law_due_add" VI
theorem VL:Df VG (top 45) ["_law_names_here","_law_name","_law_good","_law_some"] 4 (uk Pn):=⟨by decide +kernel,rfl⟩
def VM:aV:=a8 6 2 (CY Pn)
def VN:aM:=VJ.dB "_law_due_turns" VM
theorem VO:Df VJ (top 46) ["_law_names_here","_law_turns","_law_ahead","_law_name","_law_some","_law_due"] 2 (CY Pn):=⟨by decide +kernel,rfl⟩
def VP:aV:=a8 3 2 (UG F1)
def VQ:aM:=VN.dB "_law_no_name" VP
theorem VR:Df VN (top 47) ["_law_cell_here","_law_name","_law_some"] 2 (UG F1):=⟨by decide +kernel,rfl⟩
def VS:aV:=a8 8 4 (OJ F1 VP LH VI GH)
def VT:aM:=VQ.dB "_law_add_right" VS
theorem VU:Df VQ (top 48) ["_law_house","_law_names_here","_law_stranger","_law_cell_here","_law_way","_law_name","_law_some","_law_due"] 4 (OJ F1 VP LH VI GH):=⟨by decide +kernel,rfl⟩
def VV:aV:=a8 8 4 (GC F1 LH VM GH)
def VW:aM:=VT.dB "_law_turn_right" VV
theorem VX:Df VT (top 49) ["_law_house","_law_names_here","_law_stranger","_law_cell_here","_law_turns","_law_k","_law_name","_law_due"] 4 (GC F1 LH VM GH):=⟨by decide +kernel,rfl⟩
def VY:aV:=a8 3 3 (KC Dt RQ RS)
def Yn:aM:=VW.dB "_law_same" VY
theorem VZ:Df VW (top 50) ["_law_house","_law_elders_here","_law_lines"] 3 (KC Dt RQ RS):=⟨by decide +kernel,rfl⟩
def RZ:aV:=a8 10 1 (KG F0 RU RX RW RY VS VV GH VY RT)
theorem V_:Df Yn (top 51) ["_law_script","_law_many","_law_names_here","_law_stranger","_law_elders_here","_law_lines","_law_house","_law_k","_law_cell_here","_law_way"] 1 (KG F0 RU RX RW RY VS VV GH VY RT):=⟨by decide +kernel,rfl⟩
theorem Dp(f:List Int)(J:f.length<=63):∃az,RZ [.lst (f.map .int)] []=.ok (.bl true) az:=by
 obtain⟨F,a⟩:∃F,gJ F F1:=Gh;have g:lu (λf k=>f.getD k 0) F0:=Cq
 have G:FP O4:=Nz Nx;have n:FR O5:=NB;have h:FT O6:=NC n;have o:Ju O7:=ND h;have p:FU O8:=NF;have q:Jw O9:=NG o h G p;have i:FX KL:=NQ;have b:yU Dt:=NI;have c:yV HE:=NJ b;have r:Jy RL:=NL c;have s:Cf RM:=NR q;have j:FW O1:=NH;have t:FY RO:=NU j r b s;have u:JA RQ:=NO c;have w:KA RS:=OP c;have x:JC RT:=NV i;have z:JX RU:=Of a;have A:J_ RW:=Og a g;have B:JP RX:=N_ NZ;have C:Cp RY:=Ob i t;have d:Oi gc:=Ke b (qk (y:=Bd) rfl);have l:RG uo:=Uv d (qk (y:=Bd) rfl) (qk (y:=Bd) rfl);have D:Uw vE:=Ux d l (qk (y:=Bd) rfl);have E:Uy GG:=Uz j l (qk (y:=Bd) rfl) (qk (y:=Bd) rfl);have e:OB GH (Hx Bd):=OD (Oz Oy) E D d λH I=>Ol H I
 have m:Gz LH:=OE a;exact De g z B A C (OM a (Ot a) m Hz e) (ON a m (OI Hz) e) e (OQ b u w) x f
def Dq(i:Nat):D':=inClass (top i) 0
def rX(i:Nat)(f:Str):oZ:=rowOf (Dq i) 0 f
theorem R_(i:Nat)(f:Str)(h:c_ ["self",f] ["self",f] (ag (Dq i))=true):c_ ["self",f] ["self",f] (ag (Dq i))=true:=h
theorem Po:c_ KU ["self","name"] (ag (inClass (top 31) 2))=true:=by decide +kernel
theorem Pp:c_ Dm ["self","turns"] (ag (inClass (top 31) 4))=true:=by decide +kernel
theorem Pq:c_ KZ ["self","turns"] (ag (inClass (top 31) 3))=true:=by decide +kernel
theorem Pr:c_ Lb ["self","name"] (ag (inClass (top 31) 8))=true:=by decide +kernel
theorem Pt:c_ Le ["self","name"] (ag (inClass (top 31) 9))=true:=by decide +kernel
theorem Pu:c_ ["_law_e","_law_some"] ["_law_e"] (ag (top 40))=true:=by decide +kernel
theorem Pw:c_ ["_law_e","_law_word"] ["_law_e"] (ag (top 41))=true:=by decide +kernel
theorem Px:c_ ["_law_house","_law_way","_law_thing","_law_told_here","_law_e"] ["_law_house","_law_way","_law_thing"] (ag (top 42))=true:=by decide +kernel
noncomputable def rP(r:oZ):Pos×Pos×Pos:=match r.ve with
 |.Call (.Name _ p) [.Name _ q] _ z=>(p,q,z)
 |_=>(⟨0,0,0,0⟩,⟨0,0,0,0⟩,⟨0,0,0,0⟩)
noncomputable def GI(K:A')(a b:List b')(B:b'):Bool:=(a.zipIdx.all λc=>b.zipIdx.all λv=>à K (.ref c.1) (.ref v.1)==some (c.2==v.2))&&(a.all λc=>à K (.ref c) (.type "ValueError")==some true)&&a.all λc=>Ĺ K (.ref c) (.ref B)==some true
variable{A:A'}{B:X'}{G:O'}{Y:Str->Option f'}{b:Nat}{h:b'}{i:Str->b'->Prop}{l:List Str}{z:y'}{θ:N'}
theorem Lg:bq B G A Y z eA b h θ l (bH i Bd):=
 ⟨λd H Q E a=>by obtain⟨e,Z,f,j,S,r,g⟩:=a;exact g.elim,λc outer s H args k d Q E m n o p a=>by obtain⟨e,Z,f,j,S,r,g⟩:=a;exact g.elim⟩
variable{I:b'}{e:Str}{y:aV}
theorem oP(M:Meth A h e I)(F:bq B G A Y z (jm B G) b I θ l (ff i y))(a:Binds A θ l []):MX B G A Y z i b h e y:=⟨I,θ,l,[],[],[],y,M,F,a,.nil,λ_ _ _=>.nil,λ_ _=>by rw[í]⟩
variable{J P0 n:Pos}{M:Str}{W5:oZ}{w8:È}{Δ:b'}{ν:D'}
theorem Lh(F:bq B G A Y z eA b h θ ["thing","depth"] (bH (aS Y) O0))(j:Binds A θ ["thing","depth"] [.int 0 w8])(k:Y "own_copy"=some (.ref h))(l:Z_ A (.ref h)=true)(m:W5.ve=.Call (.Name "own_copy" n) [.Name M J] [] P0)(p:(ag ν).names.lookup M=some .local)(q:(ag ν).names.lookup ("own_copy":Str)=some .globalImplicit)(r:(M==("__debug__":Str))=false)(s:(M==("__classdict__":Str))=false):
  ∀(c:ZW) (f:List ZR) (d:j') (a:b') (g:Hp) (i:XK),bA b (c.deeper (ZX e (ag ν) d.heap.objs.size I (.ref Δ)))->bc ((cG eA B G A Y z ("self"::[M]) e (ag ν) I (.ref Δ) c f d g i).kY.mk1 a) (aS Y) jY W5.ve (xD O0):=by
 intro c f d a g i t;rw[m];exact zg (o:=[.int 0]) (O:=[.int 0]) F t q k l j (.cons ⟨w8,rfl⟩ .nil) (λ_ _ _=>.one (by simp only[aw])) rfl rfl rfl (bo (gq rfl (.inl p) r s) cS rfl)
def Wa(K:A')(b:Str->Option f'):Prop:=∀C∈jB,∃a,b C=some (.ref a)/\(∃N c,lp K a N c)/\PH K a
theorem Wb{g:Str->Bool}{C:Str}{b:Bool}:∀{l:List Str},(l.map λC=>(C,g C)).lookup C=some b->C∈l/\b=g C
 |[],h=>nomatch h
 |x::l,h=>by
  rw[ù,Ă]at h;cases e:C==x with
  |true=>
   rw[e]at h;cases eq_of_beq e;cases h;exact⟨by simp,rfl⟩
  |false=>
   rw[e]at h;exact⟨by simp[(Wb h).1],(Wb h).2⟩
variable{N:f'}
theorem rY{g:Str->Bool}(c4:Wa A Y)(e:∀C∈jB,∀a,Y C=some (.ref a)->à A (.ref a) N=some (g C)):iq A (aS Y) N (jB.map λC=>(C,g C)):=λC a b f c=>by
 obtain⟨d,rfl⟩:=Wb f;have c:Y C=some (.ref a):=c;obtain⟨h,i,j,k⟩:=c4 C d;cases c.symm.trans i;exact⟨j,k,e C d _ c⟩
theorem Py(c4:Wa A Y)(d:(l.all jB.contains)=true)(f:∀C∈l,∃a,Y C=some (.ref a)/\Ä A (.ref a) e=some none):RH A (aS Y) l e:=λC a b c=>by
 have c:Y C=some (.ref a):=c;have b:C∈l:=by simpa using b
 obtain⟨g,h,i,m⟩:=c4 C (by simpa using Õ.mp d C b)
 cases c.symm.trans h;obtain⟨n,j,k⟩:=f C b;cases c.symm.trans j;exact⟨i,k⟩
variable{E1 o4:b'}
theorem Wc(b:Y "NoName"=some (.ref h))(c:Y "Twice"=some (.ref I))(d:Y "NoKind"=some (.ref Δ))(f:Y "TooMany"=some (.ref E1))(g:e∈jB)(a:Y e=some (.ref o4)):∃i:Nat,[h,I,Δ,E1][i]?=some o4/\jB[i]?=some e:=by
 rcases CQ g with rfl|rfl|rfl|rfl
 .cases b.symm.trans a;exact⟨0,rfl,rfl⟩
 .cases c.symm.trans a;exact⟨1,rfl,rfl⟩
 .cases d.symm.trans a;exact⟨2,rfl,rfl⟩
 .cases f.symm.trans a;exact⟨3,rfl,rfl⟩
noncomputable def Wd:List Str:=["NoName","Twice","NoKind","TooMany","Heired","Loop","Ring","Tangled"]
variable{m9:b'}{v:List b'}
theorem uq(g:GI A [h,I,Δ,E1] v o4=true)(k:Y "NoName"=some (.ref h))(l:Y "Twice"=some (.ref I))(m:Y "NoKind"=some (.ref Δ))(n:Y "TooMany"=some (.ref E1))(j:Nat)(o:v[j]?=some m9)(c:Str)(e:Wd[j]?=some c):∀C∈jB,∀b,Y C=some (.ref b)->à A (.ref b) (.ref m9)=some (C==c):=λC p b a=>by
 obtain⟨i,q,f⟩:=Wc k l m n p a;have r:=Õ.mp (ñ.mp (ñ.mp g).1).1 (b,i) (acT.mpr q);have s:=eq_of_beq (Õ.mp r (m9,j) (acT.mpr o));refine s.trans (congrArg some ?_)
 have d:Wd[i]?=some C:=by
  have t:i<4:=(ZS.mp f).1;rw[←f]
  match i,t with
  |0,_=>rfl
  |1,_=>rfl
  |2,_=>rfl
  |3,_=>rfl
 have u:Wd.Nodup:=by decide
 show(i==j)=(C==c)
 rw[acS,beq_iff_eq,beq_iff_eq];constructor
 .intro z;subst z;exact ŉ (d.symm.trans e)
 .intro z
  subst z;exact(Ē (ZS.mp d).1 u).mp (d.trans e.symm)
theorem We(c:GI A [h,I,Δ,E1] v o4=true)(d:Y "NoName"=some (.ref h))(e:Y "Twice"=some (.ref I))(f:Y "NoKind"=some (.ref Δ))(g:Y "TooMany"=some (.ref E1)):∀C∈jB,∀b,Y C=some (.ref b)->à A (.ref b) (.type "ValueError")=some true:=λC j b a=>by
 obtain⟨i,k,_⟩:=Wc d e f g j a;exact eq_of_beq (Õ.mp (ñ.mp (ñ.mp c).1).2 b (ZV k))
theorem Zk(d:GI A [h,I,Δ,E1] v o4=true)(e:Y "NoName"=some (.ref h))(f:Y "Twice"=some (.ref I))(g:Y "NoKind"=some (.ref Δ))(j:Y "TooMany"=some (.ref E1)):∀c b,jB.contains c=true->aS Y c b->Ĺ A (.ref b) (.ref o4)=some true:=λC b k a=>by
 obtain⟨i,l,_⟩:=Wc e f g j (by simpa using k) (show Y C=some (.ref b)from a)
 exact eq_of_beq (Õ.mp (ñ.mp d).2 b (ZV l))
set_option maxHeartbeats 0 in
variable{A4 G5:Option b'}{C5:Array (Option f')}{C6 D5 N2 Y5 i6 o9:f'}{S7 Ξ:Obj}{V9:N'}{w:Nat}
theorem all_mk(X:A.In z)(c:z.Ns ZY Y)(F4:Y "law"=some (.ref h))(nb:wk A=true)(z0:Î A ZY "LETTERS"=some (some (.str "abcdefghijklmnopqrstuvwxyz" w8))){q1:È}(z1:Î A ZY "MOST_LETTERS"=some (some (.int 8 q1))){q2:È}(z2:Î A ZY "MOST_KINDS"=some (some (.int 12 q2))){q3:È}(z3:Î A ZY "MOST_ELDERS"=some (some (.int 5 q3))){q4:È}(z4:Î A ZY "DEEPEST"=some (some (.int 8 q4)))(a0:mj A "_law_cell" (top 33) I θ)(a1:mj A "_law_mix" (top 34) Δ V9)(W0:UP A "House" E1)(G4:Ä A (.ref E1) "elders"=some none)(H4:Ä A (.ref E1) "lines"=some none){C1:È}(V:Î A ZY "own_copy"=some (some (.ref m9)))(I4:A.lookup m9=some ⟨N,A4,.func (Á "own_copy" "own_copy" (bB (top 2)) (aK (top 2)) (ag (top 2)) (.ref o4) N2 D5 Y5 G5 i6 C6),C5⟩)(J4:ö A i6 "own_copy"=true)(Q:Z_ A (.ref m9)=true)(t2:A.lookup o4=some Ξ)(w2:Ξ.data=.seq #[.int 0 C1] b)(K4:f_ A "is_name" (top 19))(L4:f_ A "place_behind" (top 23))(M4:f_ A "free_name" (top 22))(N4:f_ A "merged" (top 21))(P4:f_ A "ready_kinds" (top 14))(Q4:f_ A "elders_first" (top 13))(R4:f_ A "loop_of" (top 15))(S4:f_ A "rows_by" (top 27))(T4:f_ A "lines_of" (top 26)){y2:b'}{G1:N'}(Z:gS A E1 "__init__" "House.__init__" (inClass (top 31) 0) y2 G1)(A2:GD A E1 "kinds" "House.kinds" (inClass (top 31) 5)){B2:b'}{H1:N'}(q:gS A E1 "check_kind" "House.check_kind" (inClass (top 31) 11) B2 H1){C2:b'}{I1:N'}(S:gS A E1 "check_elders" "House.check_elders" (inClass (top 31) 12) C2 I1)(E2:GD A E1 "settle" "House.settle" (inClass (top 31) 13)){e1:b'}{c0:b'}{J1 n0:Option b'}{K1:Array (Option f')}{o0 p0 s0 f0 t0:f'}(f1:Ä A (.ref E1) "add"=some (some (.ref c0)))(F2:A.lookup c0=some ⟨o9,J1,.func (Á "add" "House.add" (bB (inClass (top 31) 1)) (aK (inClass (top 31) 1)) (ag (inClass (top 31) 1)) (.ref e1) o0 p0 s0 n0 f0 t0),K1⟩)(G2:ö A f0 "House.add"=true)(u0:Z_ A (.ref c0)=true)(H2:A.lookup e1=some S7)(I2:S7.data=.seq #[.none] w)(J2:ŵ A (.ref c0)=true){K2:b'}{M1:N'}(d0:gS A E1 "line" "House.line" (inClass (top 31) 7) K2 M1){M2:b'}{N1:N'}(e0:gS A E1 "elders_of" "House.elders_of" (inClass (top 31) 6) M2 N1)(P2:GD A E1 "copied" "House.copied" (inClass (top 31) 10)){Q2:b'}{P1:N'}(v0:gS A E1 "drop" "House.drop" (inClass (top 31) 2) Q2 P1){S2:b'}{Q1:N'}(i0:gS A E1 "may_turn" "House.may_turn" (inClass (top 31) 4) S2 Q1){T2:b'}{R1:N'}(w0:gS A E1 "turn_all" "House.turn_all" (inClass (top 31) 3) T2 R1){W2:b'}{S1:N'}(y0:gS A E1 "rows_of" "House.rows_of" (inClass (top 31) 8) W2 S1){Z2:b'}{T1:N'}(C0:gS A E1 "heirs" "House.heirs" (inClass (top 31) 9) Z2 T1)(b3:f_ A "_law_names" (top 35))(d3:f_ A "_law_rows" (top 36))(e3:f_ A "_law_merge" (top 37))(f3:f_ A "_law_clean" (top 38))(g3:f_ A "_law_built" (top 39)){g1:b'}{G0:N'}(j0:mj A "_law_class" (top 40) g1 G0){h1:b'}{I0:N'}(l0:mj A "_law_field" (top 41) h1 I0){i1:b'}{J0:N'}(m0:mj A "_law_told" (top 42) i1 J0)(h3:f_ A "_law_elders" (top 43))(i3:f_ A "_law_due_elders" (top 44))(j3:f_ A "_law_due_add" (top 45))(l3:f_ A "_law_due_turns" (top 46))(m3:f_ A "_law_no_name" (top 47))(n3:f_ A "_law_add_right" (top 48))(o3:f_ A "_law_turn_right" (top 49))(r3:f_ A "_law_same" (top 50)){K0:b'}{W1 L0:Option b'}{Z1:Array (Option f')}{b2 M0 Q0 R0 g0 S0:f'}(s3:Î A ZY "law"=some (some (.ref K0)))(t3:A.lookup K0=some ⟨b2,W1,.func (Á "law" "law" (bB (top 51)) (aK (top 51)) (ag (top 51)) .none M0 Q0 R0 L0 g0 S0),Z1⟩)(v3:ö A g0 "law"=true)(w3:Z_ A (.ref K0)=true){CN NN y3 cN:b'}{W4:N'}(T:OU A "NoName" "NoName.__init__" (Dq 4) CN NN y3 cN W4)(A3:Ä A (.ref CN) "name"=some none){CT NT B3 cT:b'}{Y4:N'}(O:OU A "Twice" "Twice.__init__" (Dq 5) CT NT B3 cT Y4)(C3:Ä A (.ref CT) "name"=some none){CK NK F3 cK:b'}{Z4:N'}(U:OU A "NoKind" "NoKind.__init__" (Dq 6) CK NK F3 cK Z4)(G3:Ä A (.ref CK) "name"=some none){CM NM H3 cM:b'}{a5:N'}(R:OU A "TooMany" "TooMany.__init__" (Dq 7) CM NM H3 cM a5)(I3:Ä A (.ref CM) "most"=some none){D0:b'}(b5:Î A ZY "Heired"=some (some (.ref D0))){D1:b'}(c5:Î A ZY "Loop"=some (some (.ref D1))){D2:b'}(d5:Î A ZY "Ring"=some (some (.ref D2))){D3:b'}(e5:Î A ZY "Tangled"=some (some (.ref D3))){B0:b'}(aB:Î A ZY "LookError"=some (some (.ref B0)))(gB:Ğ A (.ref B0) "__getattribute__"=some (some (.builtin "type.__getattribute__")))(rB:abW A B0 (.type "type")=true)(iB:abX A (.ref B0) (.type "type") "__init__"=some (.val (.builtin "ValueError.__init__")))(hV:Î A ZY "ValueError"=some none)(kt:GI A [CN,CT,CK,CM] [CN,CT,CK,CM,D0,D1,D2,D3] B0=true): ∃fd:N',(∀(s:j') (v:f'),ô s fd ⟨[v],[]⟩ [("_law_script",v)])/\∀base:y',A.In base->base.Ns ZY Y->bq B G A Y base eA 38 h fd ["_law_script"] (bH (aS Y) RZ):=by
 have e:=F4.symm.trans (F' X c s3);cases e;have b0:=a0.fn.binds (l:=["_law_script","_law_k"]) (oO (by intros;rfl))
 have b1:=a1.fn.binds (l:=["_law_cell_here","_law_turn","_law_many"]) (UQ (by intros;rfl))
 have J3:yT A "own_copy" "own_copy" (top 2) (.ref o4) m9 _:=⟨⟨_,_,_,_,_,_,_,_,_,rfl,I4,J4⟩,Q⟩
 have h0:Binds A (Á "own_copy" "own_copy" (bB (top 2)) (aK (top 2)) (ag (top 2)) (.ref o4) N2 D5 Y5 G5 i6 C6) ["thing","depth"] [.int 0 C1]:=λs us X hl=>by
  refine u1 (P:=λus=>ô s _ ⟨us,[]⟩ (aaX (α:=Str) (β:=f') ["thing","depth"] (us++[.int 0 C1]))) us (by simpa using hl) λ_=>?_
  exact aaY X rfl t2 w2 rfl rfl
 have K3:Binds A (Á "own_copy" "own_copy" (bB (top 2)) (aK (top 2)) (ag (top 2)) (.ref o4) N2 D5 Y5 G5 i6 C6) ["thing","depth"] []:=λs us X hl=>by
  refine u2 (P:=λus=>ô s _ ⟨us,[]⟩ (aaX (α:=Str) (β:=f') ["thing","depth"] (us++[]))) us (by simpa using hl) λ_ _=>?_
  exact aaY X rfl t2 w2 rfl rfl
 have j1:=Z.fn.binds (l:=["self"]) (ze (by intros;rfl))
 have F:=q.fn.binds (l:=["self","name"]) (oO (by intros;rfl))
 have T0:=S.fn.binds (l:=["self","elders"]) (oO (by intros;rfl))
 have n1:=d0.fn.binds (l:=["self","name"]) (oO (by intros;rfl))
 have o1:=e0.fn.binds (l:=["self","name"]) (oO (by intros;rfl))
 have L3:=v0.fn.binds (l:=["self","name"]) (oO (by intros;rfl))
 have r1:=i0.fn.binds (l:=["self","turns"]) (oO (by intros;rfl))
 have M3:=w0.fn.binds (l:=["self","turns"]) (oO (by intros;rfl))
 have N3:=y0.fn.binds (l:=["self","name"]) (oO (by intros;rfl))
 have Q3:=C0.fn.binds (l:=["self","name"]) (oO (by intros;rfl))
 have R3:=j0.fn.binds (l:=["_law_e"]) (ze (by intros;rfl))
 have S3:=l0.fn.binds (l:=["_law_e"]) (ze (by intros;rfl))
 have T3:=m0.fn.binds (l:=["_law_house","_law_way","_law_thing"]) (UQ (by intros;rfl))
 have t1:yT A "add" "House.add" (inClass (top 31) 1) (.ref e1) c0 _:=⟨⟨_,_,_,_,_,_,_,_,_,rfl,F2,G2⟩,u0⟩
 have w1:Binds A (Á "add" "House.add" (bB (inClass (top 31) 1)) (aK (inClass (top 31) 1)) (ag (inClass (top 31) 1)) (.ref e1) o0 p0 s0 n0 f0 t0) ["self","name","elders","at"] [.none]:=λs us hi hl=>by
  refine u3 (P:=λus=>ô s _ ⟨us,[]⟩ (aaX (α:=Str) (β:=f') ["self","name","elders","at"] (us++[.none]))) us (by simpa using hl) λ_ _ _=>?_
  exact aaY hi rfl H2 I2 rfl rfl
 have W3:=qL (ν:=(top 51)) t3 v3 w3;have XB:XBase A Y "LookError" B0:=⟨F' X c aB,gB,rB,iB⟩;have bN:=T.fn.binds (l:=["self","name"]) (oO (by intros;rfl))
 have XN:kr A Y CN NN y3 cN _ (Dq 4) "NoName.__init__" "self" ["name"] [rX 4 "name"]:=⟨⟨_,T.fn⟩,T.cv,ee (R_ 4 "name" (by decide +kernel)),T.cl,bN,λr t=>by rw[W'.mp t];exact A3,by decide +kernel,rfl,rfl,rfl,rfl,by decide,"LookError",B0,[("name",_,_)],_,_,_,_,_,_,XB,rfl,rfl,rfl,rfl,λr t e2=>by rw[W'.mp t];rfl,λ_=>rfl⟩
 have bT:=O.fn.binds (l:=["self","name"]) (oO (by intros;rfl))
 have XT:kr A Y CT NT B3 cT _ (Dq 5) "Twice.__init__" "self" ["name"] [rX 5 "name"]:=⟨⟨_,O.fn⟩,O.cv,ee (R_ 5 "name" (by decide +kernel)),O.cl,bT,λr t=>by rw[W'.mp t];exact C3,by decide +kernel,rfl,rfl,rfl,rfl,by decide,"LookError",B0,[("name",_,_)],_,_,_,_,_,_,XB,rfl,rfl,rfl,rfl,λr t e2=>by rw[W'.mp t];rfl,λ_=>rfl⟩
 have bK:=U.fn.binds (l:=["self","name"]) (oO (by intros;rfl))
 have XK:kr A Y CK NK F3 cK _ (Dq 6) "NoKind.__init__" "self" ["name"] [rX 6 "name"]:=⟨⟨_,U.fn⟩,U.cv,ee (R_ 6 "name" (by decide +kernel)),U.cl,bK,λr t=>by rw[W'.mp t];exact G3,by decide +kernel,rfl,rfl,rfl,rfl,by decide,"LookError",B0,[("name",_,_)],_,_,_,_,_,_,XB,rfl,rfl,rfl,rfl,λr t e2=>by rw[W'.mp t];rfl,λ_=>rfl⟩
 have bM:=R.fn.binds (l:=["self","most"]) (oO (by intros;rfl))
 have XM:kr A Y CM NM H3 cM _ (Dq 7) "TooMany.__init__" "self" ["most"] [rX 7 "most"]:=⟨⟨_,R.fn⟩,R.cv,ee (R_ 7 "most" (by decide +kernel)),R.cl,bM,λr t=>by rw[W'.mp t];exact I3,by decide +kernel,rfl,rfl,rfl,rfl,by decide,"LookError",B0,[("most",_,_)],_,_,_,_,_,_,XB,rfl,rfl,rfl,rfl,λr t e2=>by rw[W'.mp t];rfl,λ_=>rfl⟩
 refine⟨Á "law" "law" (bB (top 51)) (aK (top 51)) (ag (top 51)) .none M0 Q0 R0 L0 g0 S0,λs v=>.of_eq rfl,λbase _ _=>?_⟩
 have y:=F' X c W0.ns;have k:=W0.cl;have V0:aO B G A Y base ({}:aM) 0:=aO.start (AO X c nb);have V1:=V0.mG (x:="DEEPEST") (d:=.int 8) (v:=.int 8) (F' X c z4) ⟨_,rfl⟩ rfl;have V2:=V1.mG (x:="MOST_ELDERS") (d:=.int 5) (v:=.int 5) (F' X c z3) ⟨_,rfl⟩ rfl;have V3:=V2.mG (x:="MOST_KINDS") (d:=.int 12) (v:=.int 12) (F' X c z2) ⟨_,rfl⟩ rfl;have V4:=V3.mG (x:="MOST_LETTERS") (d:=.int 8) (v:=.int 8) (F' X c z1) ⟨_,rfl⟩ rfl;have V5:=V4.mG (x:="LETTERS") (d:=.str "abcdefghijklmnopqrstuvwxyz") (v:=.str "abcdefghijklmnopqrstuvwxyz") (F' X c z0) ⟨_,rfl⟩ rfl;have V6:=V5.yQ (f:="elders") (Cs:=["House"]) (plain1 y k G4);have V7:=V6.yQ (f:="lines") (Cs:=["House"]) (plain1 y k H4);have Y0:aO B G A Y base US 0:=V7;have Y1:aO B G A Y base UT 1:=(Y0.mono (ä 0)).yP (x:="_law_cell") (F' X c a0.ns) a0.fn.kp b0 (xo (YX.ok Y0 (ez a0.fn))) (M' _);have Y2:aO B G A Y base Yf 2:=(Y1.mono (ä 1)).yP (x:="_law_mix") (F' X c a1.ns) a1.fn.kp b1 (xo (YZ.ok Y1 (ez a1.fn))) (M' _);have X0:aO B G A Y base U0 2:=Y2;have WA:aO B G A Y base A0 3:=(X0.dB (x:="own_copy") (F' X c V) Q K3 Lg).toXt;have rA:bq B G A Y base eA 6 m9 _ ["thing","depth"] (bH (aS Y) Oa):=Dh (dQ WA rfl J3 Yg Y_ (λK j outer s H E t u i m z=>xO u i m z))
 have WB:aO B G A Y base A1 6:=((X0.mono (by decide:2<=5)).dB (x:="own_copy") (F' X c V) Q K3 rA).toXt
 have r0:bq B G A Y base eA 9 m9 _ ["thing","depth"] (bH (aS Y) O0):=Fq (Dh (dQ WB rfl J3 Yg Za (λK j outer s H E t u i m z=>xO u i m z)))
 have L:∀Ca,aS Y "House" Ca->Ca=E1:=λCa z=>by
  have e:=(show Y "House"=some (.ref Ca)from z).symm.trans y
  cases e;rfl
 have f5:aO B G A Y base U1 2:=X0;have X1:aO B G A Y base U2 3:=f5.dF X c K4 Zb (ze (by intros;rfl))
 have X2:aO B G A Y base U3 4:=X1.dF X c L4 Zc (oO (by intros;rfl))
 have X3:aO B G A Y base U4 5:=X2.dF X c M4 Zd (ze (by intros;rfl))
 have X4:aO B G A Y base U5 6:=X3.dF X c N4 Ze (ze (by intros;rfl))
 have X5:aO B G A Y base U6 7:=X4.dF X c P4 Zf (oO (by intros;rfl))
 have X6:aO B G A Y base U7 8:=X5.dF X c Q4 Zg (ze (by intros;rfl))
 have X7:aO B G A Y base U8 9:=X6.dF X c R4 Zh (ze (by intros;rfl))
 have X8:aO B G A Y base U9 10:=X7.dF X c S4 Zi (oO (by intros;rfl))
 have X9:aO B G A Y base UU 11:=X8.dF X c T4 Zj (ze (by intros;rfl))
 have Y3:=UW.ok X9 (ez Z.fn);have g5:aO B G A Y base Yh 12:=X9.gQ y k Z.me j1 Y3;have h5:aO B G A Y base UX 13:=g5.Fv y ⟨W0.ma,Z.me.at_,Z.me.fn,W0.kc⟩ j1 Y3 (by decide)
 have f2:aO B G A Y base RJ 14:=h5.dM y k A2 UY (ze (by intros;rfl))
 have Z3:aO B G A Y base KN 14:=(f2.mono (by decide:14<=14)).toXt
 have M:bq B G A Y base (jm B G) 17 _ _ ["self","name"] (ff (aS Y) gc):=dQ Z3 rfl (ez q.fn) OX.sc OW (λK j outer s H E t u i m z=>fW (p:=xD O0) XK t (F' X c U.a) u (Lh (n:=(rP (rX 6 "name")).1) (J:=(rP (rX 6 "name")).2.1) (P0:=(rP (rX 6 "name")).2.2) (r0.mono (by decide)) h0 (F' X c V) Q rfl rfl rfl rfl rfl) i m z)
 have i5:=OX.ok f2 (ez q.fn);have g2:aO B G A Y base RK 15:=f2.gQ y k q.me F i5;have a4:aO B G A Y base Dj 17:=(g2.mono (by decide:15<=17)).toXt
 have y1:bq B G A Y base (jm B G) 20 _ _ ["self","elders"] (ff (aS Y) uo):=dQ a4 rfl (ez S.fn) OZ.sc OY (λK j outer s H E t u i m z=>(ey z).elim (λz=>(ey z).elim (λz=>fW (p:=xD O0) XM t (F' X c R.a) u (Lh (n:=(rP (rX 7 "most")).1) (J:=(rP (rX 7 "most")).2.1) (P0:=(rP (rX 7 "most")).2.2) (r0.mono (by decide)) h0 (F' X c V) Q rfl rfl rfl rfl rfl) i m z) (λz=>fW (p:=xD O0) XT t (F' X c O.a) u (Lh (n:=(rP (rX 5 "name")).1) (J:=(rP (rX 5 "name")).2.1) (P0:=(rP (rX 5 "name")).2.2) (r0.mono (by decide)) h0 (F' X c V) Q rfl rfl rfl rfl rfl) i m z)) (λz=>cY u L k q.me (M.mono (by decide)) F dD i m z))
 have j5:=OZ.ok g2 (ez S.fn);have l5:aO B G A Y base Va 16:=g2.gQ y k S.me T0 j5;have h2:aO B G A Y base RN 17:=l5.dM y k E2 Vb (oO (by intros;rfl))
 have b4:aO B G A Y base zh 20:=(h2.mono (by decide:17<=20)).toXt
 have d4:bq B G A Y base (jm B G) 23 _ _ ["self","name","elders","at"] (ff (aS Y) GG):=dQ b4 rfl t1 Pa.sc O_ (λK j outer s H E t u i m z=>(ey z).elim (λz=>(ey z).elim (λz=>(ey z).elim (λz=>(ey z).elim (λz=>fW (p:=xD O0) XN t (F' X c T.a) u (Lh (n:=(rP (rX 4 "name")).1) (J:=(rP (rX 4 "name")).2.1) (P0:=(rP (rX 4 "name")).2.2) (r0.mono (by decide)) h0 (F' X c V) Q rfl rfl rfl rfl rfl) i m z) (λz=>fW (p:=xD O0) XT t (F' X c O.a) u (Lh (n:=(rP (rX 5 "name")).1) (J:=(rP (rX 5 "name")).2.1) (P0:=(rP (rX 5 "name")).2.2) (r0.mono (by decide)) h0 (F' X c V) Q rfl rfl rfl rfl rfl) i m z)) (λz=>fW (p:=xD O0) XM t (F' X c R.a) u (Lh (n:=(rP (rX 7 "most")).1) (J:=(rP (rX 7 "most")).2.1) (P0:=(rP (rX 7 "most")).2.2) (r0.mono (by decide)) h0 (F' X c V) Q rfl rfl rfl rfl rfl) i m z)) (λz=>cY u L k S.me (y1.mono (by decide)) T0 dD i m z)) (λz=>iv i m z))
 have m5:=Pa.ok h2 t1;have j2:aO B G A Y base RP 18:=h2.MW (o:=[.non]) y k ⟨f1,J2,u0⟩ w1 (.cons (show RelV .non Ė from rfl) .nil) (λ_ _ _=>.one (by simp only[aw])) m5
 have e4:aO B G A Y base KO 18:=(j2.mono (by decide:18<=18)).toXt
 have g4:bq B G A Y base (jm B G) 21 _ _ ["self","name"] (ff (aS Y) KP):=dQ e4 rfl (ez d0.fn) Pd.sc Pc (λK j outer s H E t u i m z=>(ey z).elim (λz=>cY u L k q.me (M.mono (by decide)) F dD i m z) (λz=>iv i m z))
 have n5:=Pd.ok j2 (ez d0.fn);have n2:aO B G A Y base RR 19:=j2.gQ y k d0.me n1 n5;have h4:aO B G A Y base KQ 19:=(n2.mono (by decide:19<=19)).toXt
 have i4:bq B G A Y base (jm B G) 22 _ _ ["self","name"] (ff (aS Y) KR):=dQ h4 rfl (ez e0.fn) Pg.sc Pf (λK j outer s H E t u i m z=>(ey z).elim (λz=>cY u L k q.me (M.mono (by decide)) F dD i m z) (λz=>iv i m z))
 have o5:=Pg.ok n2 (ez e0.fn);have q5:aO B G A Y base Vf 20:=n2.gQ y k e0.me o1 o5;have j4:aO B G A Y base Vg 21:=q5.dM y k P2 Vh (ze (by intros;rfl))
 have k4:aO B G A Y base KS 21:=(j4.mono (by decide:21<=21)).toXt
 have m4:bq B G A Y base (jm B G) 24 _ _ ["self","name"] (ff (aS Y) KW):=dQ k4 rfl (ez v0.fn) (Po) Ph (λK j outer s H E t u i m z=>(ey z).elim (λz=>cY u L k q.me (M.mono (by decide)) F dD i m z) (λz=>iv i m z))
 have n4:aO B G A Y base Vj 21:=j4;have r4:aO B G A Y base Dl 21:=(n4.mono (by decide:21<=21)).toXt
 have B1:bq B G A Y base (jm B G) 24 _ _ ["self","turns"] (ff (aS Y) vE):=dQ r4 rfl (ez i0.fn) (Pp) Pj (λK j outer s H E t u i m z=>(ey z).elim (λz=>(ey z).elim (λz=>cY u L k q.me (M.mono (by decide)) F dD i m z) (λz=>fW (p:=xD O0) XT t (F' X c O.a) u (Lh (n:=(rP (rX 5 "name")).1) (J:=(rP (rX 5 "name")).2.1) (P0:=(rP (rX 5 "name")).2.2) (r0.mono (by decide)) h0 (F' X c V) Q rfl rfl rfl rfl rfl) i m z)) (λz=>cY u L k S.me (y1.mono (by decide)) T0 dD i m z))
 have s4:aO B G A Y base Vl 21:=n4;have t4:aO B G A Y base KY 24:=(s4.mono (by decide:21<=24)).toXt
 have v4:bq B G A Y base (jm B G) 27 _ _ ["self","turns"] (ff (aS Y) K_):=dQ t4 rfl (ez w0.fn) (Pq) Pk (λK j outer s H E t u i m z=>(ey z).elim (λz=>cY u L k i0.me (B1.mono (by decide)) r1 dD i m z) (λz=>iv i m z))
 have w4:aO B G A Y base Vn 21:=s4;have y4:aO B G A Y base La 21:=(w4.mono (by decide:21<=21)).toXt
 have B4:bq B G A Y base (jm B G) 24 _ _ ["self","name"] (ff (aS Y) Lc):=dQ y4 rfl (ez y0.fn) (Pr) Pl (λK j outer s H E t u i m z=>(ey z).elim (λz=>cY u L k q.me (M.mono (by decide)) F dD i m z) (λz=>iv i m z))
 have C4:aO B G A Y base Vp 21:=w4;have D4:aO B G A Y base Ld 21:=(C4.mono (by decide:21<=21)).toXt
 have E4:bq B G A Y base (jm B G) 24 _ _ ["self","name"] (ff (aS Y) Lf):=dQ D4 rfl (ez C0.fn) (Pt) Pm (λK j outer s H E t u i m z=>(ey z).elim (λz=>cY u L k q.me (M.mono (by decide)) F dD i m z) (λz=>iv i m z))
 have r5:aO B G A Y base Vr 21:=C4;have s5:aO B G A Y base Vs 22:=r5.dF X c b3 Vt (oO (by intros;rfl))
 have t5:aO B G A Y base Vu 23:=s5.dF X c d3 Vv (OT (by intros;rfl))
 have u5:aO B G A Y base Vy 24:=t5.dF X c e3 Vz (ze (by intros;rfl))
 have v5:aO B G A Y base VA 25:=u5.dF X c f3 VB (oO (by intros;rfl))
 have w5:aO B G A Y base Yi 26:=v5.dF X c g3 VC (ze (by intros;rfl))
 have y5:aO B G A Y base Yj 26:=w5;have r2:aO B G A Y base Yk 26:=y5;have mA:MX B G A Y base (aS Y) 28 E1 "add" (λxs=>GG (xs++[Mir.D.non])):=⟨_,_,_,[.none],[.non],[.non],_,⟨f1,J2,u0⟩,d4.mono (by decide),w1,.cons rfl .nil,λ_ _ _=>.one (by simp only[aw]),λ_ _=>rfl⟩
 have mT:MX B G A Y base (aS Y) 28 E1 "turn_all" K_:=oP w0.me (v4.mono (by decide)) M3
 have mY:MX B G A Y base (aS Y) 28 E1 "may_turn" vE:=oP i0.me (B1.mono (by decide)) r1
 have mD:MX B G A Y base (aS Y) 28 E1 "drop" KW:=oP v0.me (m4.mono (by decide)) L3
 have mL:MX B G A Y base (aS Y) 28 E1 "line" KP:=oP d0.me (g4.mono (by decide)) n1
 have mH:MX B G A Y base (aS Y) 28 E1 "heirs" Lf:=oP C0.me (E4.mono (by decide)) Q3
 have mR:MX B G A Y base (aS Y) 28 E1 "rows_of" Lc:=oP y0.me (B4.mono (by decide)) N3
 have mE:MX B G A Y base (aS Y) 28 E1 "elders_of" KR:=oP e0.me (i4.mono (by decide)) o1
 have c4:Wa A Y:=λC hC=>by
  rcases CQ hC with rfl|rfl|rfl|rfl
  .exact⟨CN,F' X c T.a,⟨_,_,T.cl⟩,T.is⟩
  .exact⟨CT,F' X c O.a,⟨_,_,O.cl⟩,O.is⟩
  .exact⟨CK,F' X c U.a,⟨_,_,U.cl⟩,U.is⟩
  .exact⟨CM,F' X c R.a,⟨_,_,R.cl⟩,R.is⟩
 have x0:iq A (aS Y) (.ref CN) (kZ "NoName"):=rY c4 (uq (Y:=Y) kt (F' X c T.a) (F' X c O.a) (F' X c U.a) (F' X c R.a) 0 rfl "NoName" rfl);have x1:iq A (aS Y) (.ref CT) (kZ "Twice"):=rY c4 (uq (Y:=Y) kt (F' X c T.a) (F' X c O.a) (F' X c U.a) (F' X c R.a) 1 rfl "Twice" rfl);have x2:iq A (aS Y) (.ref CK) (kZ "NoKind"):=rY c4 (uq (Y:=Y) kt (F' X c T.a) (F' X c O.a) (F' X c U.a) (F' X c R.a) 2 rfl "NoKind" rfl);have x3:iq A (aS Y) (.ref CM) (kZ "TooMany"):=rY c4 (uq (Y:=Y) kt (F' X c T.a) (F' X c O.a) (F' X c U.a) (F' X c R.a) 3 rfl "TooMany" rfl);have x4:iq A (aS Y) (.ref D0) (kZ "Heired"):=rY c4 (uq (Y:=Y) kt (F' X c T.a) (F' X c O.a) (F' X c U.a) (F' X c R.a) 4 rfl "Heired" rfl);have x5:iq A (aS Y) (.ref D1) (kZ "Loop"):=rY c4 (uq (Y:=Y) kt (F' X c T.a) (F' X c O.a) (F' X c U.a) (F' X c R.a) 5 rfl "Loop" rfl);have x6:iq A (aS Y) (.ref D2) (kZ "Ring"):=rY c4 (uq (Y:=Y) kt (F' X c T.a) (F' X c O.a) (F' X c U.a) (F' X c R.a) 6 rfl "Ring" rfl);have x7:iq A (aS Y) (.ref D3) (kZ "Tangled"):=rY c4 (uq (Y:=Y) kt (F' X c T.a) (F' X c O.a) (F' X c U.a) (F' X c R.a) 7 rfl "Tangled" rfl);have xV:iq A (aS Y) (.type "ValueError") LF:=rY (g:=λ_=>true) c4 (We (Y:=Y) kt (F' X c T.a) (F' X c O.a) (F' X c U.a) (F' X c R.a))
 have z5:uu B G A Y base 27 g1 G0 ["_law_e"] (bH (aS Y) Yl):=Ks (E3:="_law_e") (ve:="_law_e") (F5:="_law_some") (l1:=[("NoName",(_,_,_,_),kZ "NoName"),("Twice",(_,_,_,_),kZ "Twice"),("NoKind",(_,_,_,_),kZ "NoKind"),("TooMany",(_,_,_,_),kZ "TooMany")]) (l2:=[("Heired",(_,_,_,_),kZ "Heired"),("Loop",(_,_,_,_),kZ "Loop"),("Ring",(_,_,_,_),kZ "Ring"),("Tangled",(_,_,_,_),kZ "Tangled")]) (z0:=("ValueError",(_,_,_,_),LF)) (ks:=[("name",_,_),("twice",_,_),("kind",_,_),("many",_,_),("heired",_,_),("loop",_,_),("ring",_,_),("tangled",_,_)]) r2 j0.fn Pu rfl rfl (ĕ.mpr ⟨⟨_,x0,F' X c T.a,rfl,rfl⟩,ĕ.mpr ⟨⟨_,x1,F' X c O.a,rfl,rfl⟩,ĕ.mpr ⟨⟨_,x2,F' X c U.a,rfl,rfl⟩,ĕ.mpr ⟨⟨_,x3,F' X c R.a,rfl,rfl⟩,λ_ z=>nomatch z⟩⟩⟩⟩) (ĕ.mpr ⟨⟨_,x4,F' X c b5,rfl,rfl⟩,ĕ.mpr ⟨⟨_,x5,F' X c c5,rfl,rfl⟩,ĕ.mpr ⟨⟨_,x6,F' X c d5,rfl,rfl⟩,ĕ.mpr ⟨⟨_,x7,F' X c e5,rfl,rfl⟩,λ_ z=>nomatch z⟩⟩⟩⟩) ⟨_,xV,acs X c hV,rfl,rfl,by decide,rfl⟩ rfl rfl rfl (by decide)
 have A5:uu B G A Y base 28 h1 I0 ["_law_e"] (bH (aS Y) Ym):=Kt (f4:=⟨0,0,0,0⟩) (E3:="_law_e") (F5:="_law_word") (x9:="_law_class") l0.fn Pw z5 R3 (F' X c j0.ns) j0.fn.kp (Py c4 (by decide) λC hC=>by simp at hC;subst hC;exact⟨CM,F' X c R.a,I3⟩) (Py c4 (by decide) λC hC=>by
  simp at hC;rcases hC with rfl|rfl|rfl
  .exact⟨CN,F' X c T.a,A3⟩
  .exact⟨CT,F' X c O.a,C3⟩
  .exact⟨CK,F' X c U.a,G3⟩) rfl rfl rfl rfl (by decide)
 have B5:bq B G A Y base eA 29 i1 J0 ["_law_house","_law_way","_law_thing"] (bH (aS Y) GH):=zc (d6:=⟨0,0,0,0⟩) (E3:="_law_house") (F5:="_law_way") (x9:="_law_thing") (tn:="_law_told_here") (en:="_law_e") (bn:="LookError") (fn:="_law_field") (z9:=(_,_,_,_,_,_,_,_,_,_)) (p2:=(_,_,_,_,_,_,_,_,_,_)) (p3:=(_,_,_,_,_,_,_,_,_,_)) (p4:=(_,_,_,_,_,_,_,_,_,_)) (p5:=(_,_,_,_,_,_,_,_,_,_)) (p6:=(_,_,_,_,_,_,_,_,_,_)) (r2.mono (by decide:26<=28)) m0.fn Px L k mA mT mY mD mL mH mR mE (A5.mono (by decide)) S3 (F' X c l0.ns) l0.fn.kp rfl rfl (F' X c aB) (Zk (Y:=Y) kt (F' X c T.a) (F' X c O.a) (F' X c U.a) (F' X c R.a)) rfl rfl rfl rfl rfl rfl rfl (by decide)
 have E5:aO B G A Y base VD 29:=(r2.mono (by decide:26<=28)).dB (F' X c m0.ns) m0.fn.kp T3 B5
 have H5:aO B G A Y base VE 30:=E5.dF X c h3 VF (OT (by intros;rfl))
 have I5:aO B G A Y base VG 31:=H5.dF X c i3 VH (oO (by intros;rfl))
 have J5:aO B G A Y base VJ 32:=I5.dF X c j3 VL (OT (by intros;rfl))
 have K5:aO B G A Y base VN 33:=J5.dF X c l3 VO (oO (by intros;rfl))
 have L5:aO B G A Y base VQ 34:=K5.dF X c m3 VR (oO (by intros;rfl))
 have M5:aO B G A Y base VT 35:=L5.dF X c n3 VU (OT (by intros;rfl))
 have N5:aO B G A Y base VW 36:=M5.dF X c o3 VX (OT (by intros;rfl))
 have P5:aO B G A Y base Yn 37:=N5.dF X c r3 VZ (UQ (by intros;rfl))
 exact V_.ok P5 (ez W3)
variable{W9:DefRec}{n9:O'->y'->Prop}{oa:(Str->Option f')->y'->Prop}
theorem walk{xP:abK}{K:ύ->A'}(m:xP.most=some 63)(j:W9.params.defaults=[])(n:∀(w:O') (h:y'),n9 w h->(K w.params).In h)(o:∀p,tr (K p)=true)(F:∀(w:O') (d:Str->Option f') (g:b') (h:y'),(K w.params).In h->h.Ns ZY d->d W9.name=some (.ref g) ->
   ∃i:N',(∀(s:j') (u:f'),ô s i ⟨[u],[]⟩ [("_law_script",u)])/\∀base:y',(K w.params).In base->base.Ns ZY d->bq xP.prog w (K w.params) d base eA 38 g i ["_law_script"] (bH (aS d) RZ)):
  abL B l oa n9 xP.row.toRowW W9 [] (λf k=>aai f k):=
 L2.DP (b:=63) (w:=38) (e:="_law_script") (CX:=λ_=>eA) (sp:=λw=>MY RZ) m (by decide) j ⟨rfl,by decide,by decide⟩ n (λw d g h a b c=>let ⟨i,q,r⟩:=F w d g h a b c;⟨i,q,λbase W9 e=>(r base W9 e).imp λk H Q E z=>z (aS d)⟩) (λw H a t x _ y A=>Fu (MA (o w.params) y) (Dp t x).choose_spec) λ_ _ _ _ _ z=>z
end UR
def PySem.W.Fast.tw11194945994172450524:X':=PySem.Challenge.pw_taglook_k28_refused_in_order
theorem PySem.W.Fast.te11194945994172450524:PySem.Challenge.pw_taglook_k28_refused_in_order=PySem.W.Fast.tw11194945994172450524:=rfl
structure PySem.W.Fast:Prop where(tw8846127010822393814 tw2527896703113789007 tw7792369578945943192 tw7292207256979455473 tw11843005631663233540 tw17294882090374081421 tw8702672434537162689 tw17422408724750120919 tw10364837854360032545 tw18378288818619269581 tw13382722952721273545 tw13347516951815226679 tw17719782651759852224 tw9680313849921793342 tw1681007264829176302 tw18328318405713301220 tw14855558435443004860 tw3233863994061333091 tw17865661689709613994 tw12412594901680023898 tw17362671890587114784 tw12065604771285806443 tw174846444995279396 tw12793256338474127478 tw9286167352397771254 tw3649900983726899470 tw11458756201124435916 tw4939795552274694161 tw13796573838174447928 tw11975579036959196605 tw6162281140064379430 tw8006941870077555528 tw11911680949166030043 tw8666168309994619173 tw12717879135856507125 tw9148982808937660324 tw14441978148093708954 tw4494827102579669108 tw13261394646467397372 tw4165997417401949720 tw17813555173035083979 tw1619638650796089211 tw11118873617374603981 tw7351667571083692733 tw6122640619389084249 tw15222061924471736682 tw8982095616259030330 tw2973788716608055518 tw2139482952118705735 tw630288196702555718 tw17156077435729142490 tw4303724569858434392 tw17850576210065436889 tw4918317670304367277 tw3998844320626341658 tw3040689454248006876 tw15530217764666363621 tw18169012111323855613 tw12542000482194039211 tw9484919328800133239 tw6282654359981362316 tw6454334037632770914 tw11399940089019670208 tw18089694288450898520 tw9911407417159628011 tw1805306018387191154 tw12559257016786601131 tw4121373194436879697 tw17597783044567220919 tw2678256969148810610:True)
open PySem PySem.W PyProof.Rows
set_option maxRecDepth 100000 in
set_option maxHeartbeats 0 in
theorem PySem.Challenge.cw_taglook_k28_refused_in_order_holds : PySem.Challenge.rw_taglook_k28_refused_in_order.Holds := by
 w_on;o_law;k_head;(case hw=>w_witness2)
 k_fill
 refine UR.walk (xP:=PySem.Challenge.rw_taglook_k28_refused_in_order) rfl rfl (λw h Y=>PySem.W.kIn_of Y) ?hK ?F
 case hK=>intro pm;exact(Eq.refl true)
 case F=>
  intro w mg fa h KX G hmg;refine' UR.all_mk KX G hmg ?nb ?z0 ?z1 ?z2 ?z3 ?z4 ?a0 ?a1 ?Zl ?Zm ?Zn ?Zo ?Zq ?Zr ?Zs ?Zt ?Zu ?Zv ?Zw ?Zx ?Zy ?Zz ?ZA ?ZC ?ZD ?ZE ?Wf ?Wg ?Wh ?Wi ?Wj ?Wk ?Wl ?Wm ?Wn ?Wo ?Wq ?ZF ?Wr ?Ws ?Wt ?Wu ?Wv ?Ww ?Wx ?Wy ?Wz ?WC ?WD ?WE ?WG ?WH ?WI ?WJ ?WK ?WL ?WM ?WN ?WO ?WQ ?WR ?WS ?WT ?WU ?WV ?WW ?QN ?ZG ?QT ?ZH ?QK ?ZI ?QM ?ZJ ?ZK ?ZL ?ZM ?ZN ?aB ?gB ?rB ?iB ?hV ?kt
  (case nb=>exact(Eq.refl true))
  (case Zl=>refine' ⟨?a,?b,?c,?d,?e,?f,?g⟩;(case a=>k_is);(case b=>k_is);(case c=>k_is);(case d=>k_is);(case e=>k_is);(case f=>k_is);(case g=>k_is))
  (case QN |QT |QK |QM=>refine' Mir.KJ ?aC ?lC ?nC ?tC ?xa ?xb ?xc ?xd ?xe ?xf ?xg ?xh ?xi ?xj ?xk ?lI ?yI ?wI ?ja ?jb ?jc ?jd;(case aC=>k_is);(case lC=>k_is);(case nC=>k_is);(case tC=>exact(Eq.refl true));(case xa=>k_is);(case xb=>exact rfl);(case xc=>exact rfl);(case xd=>k_is);(case xe=>k_is);(case xf=>k_is);(case xg=>k_is);(case xh=>k_is);(case xi=>exact rfl);(case xj=>k_is);(case xk=>k_is);(case lI=>k_is);(case yI=>k_is);(case wI=>k_is);(case ja=>k_is);(case jb=>k_is);(case jc=>k_is);(case jd=>k_is))
  (case Zv |Zw |Zx |Zy |Zz |ZA |ZC |ZD |ZE |Wz |WC |WD |WE |WG |WK |WL |WM |WN |WO |WQ |WR |WS=>refine' ⟨_,_,Mir.t9 ?a ?l ?c ?k⟩;(case a=>k_is);(case l=>k_is);(case c=>k_is);(case k=>k_is))
  (case a0 |a1 |WH |WI |WJ=>refine' Mir.t9 ?a ?l ?c ?k;(case a=>k_is);(case l=>k_is);(case c=>k_is);(case k=>k_is))
  (case Wg |Wj |Wt=>refine' ⟨_,_,Mir.um ?a ?l ?c ?k ?i⟩;(case a=>k_is);(case l=>k_is);(case c=>k_is);(case k=>k_is);(case i=>k_is))
  (case Wf |Wh |Wi |Wr |Ws |Wu |Wv |Ww |Wx |Wy=>refine' Mir.um ?a ?l ?c ?k ?i;(case a=>k_is);(case l=>k_is);(case c=>k_is);(case k=>k_is);(case i=>k_is))
  (case z0 |z1 |z2 |z3 |z4 |Zm |Zn |Zo |Zq |Zr |Zs |Zt |Wk |Wl |Wm |Wn |Wo |ZF |WT |WU |WV |WW |ZG |ZH |ZI |ZJ |ZK |ZL |ZM |ZN |aB |gB |rB |iB |hV=>k_is)
  (case Zu |Wq=>rfl)
  (case kt=>exact(Eq.refl true))
