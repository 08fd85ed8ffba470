import PyProof.Rows.All
import Wide.All
import OpenK.AllK
import PySem.Challenge.RW_taglook_k67_things_apart
set_option Elab.async false
set_option compiler.extract_closed false
set_option bootstrap.genMatcherCode false
set_option genSizeOfSpec false
set_option linter.all false
set_option maxRecDepth 100000
set_option maxHeartbeats 4000000
open PySem renaming Addr->b',Value->f',Shared->g',wpAny_bind->j',wpAny->nc,model->p',Expr->A',starEach->D',wpAny_pure->F',Heap->I',Stmt->J',sizeLine->Q',Pos->T',Scope->V',World->W',FuncData->Y',backTo->À,Program->Á,Env->Ä,Around->Æ,cLine->É,mainGlobals->Í,Tok->Ò,wpAny_mono->à,compareOp->á,codeAny->â,Paired->é,sysModules->ì,Sem->í,swapsWith->ï,CmpOp->ð,wpAny_holding->ñ,sizeLine_eq->ò,Builtin->ô,attributeBase->ø,backToKw->ù,keywordEach->ú,rawInt->ÿ,standAt->Ă,holding->ă,wpAny_field->Ą,pyNext->Ć,BindsTo->ć,IsPair->Ċ,bootBuiltins->Č,assignEach->č,foldedSetIterable->Ď,Operator->ď,getMethod->Đ,wpAny_Call_Name_kw->đ,stored->ē,pyIter->ė,callWith->Ě,plainId_quiet->Ğ,ZipApart->ğ,relabel->ġ,Keyword->ĩ,call_meets->Ī,atKey->Ĭ,DictEntry->ĭ,codeAny_builtin->Į,execs->ĸ,wpAny_execs_nil->Ĺ,wpAny_passesOwn->ĺ,wpAny_truthy_bool->ļ,codeAny_mono->Ľ,bindL->ľ,bindC->Ŀ,typeLookup->ŀ,callerA->Ł,wpAny_rule->ł,again->ŏ,binaryOp->Ő,Result->ő,bindArgs->Œ,wpAny_call->œ,getItem->Ŗ,valueAt->Ř,wpAny_callSpecial?_slot->ř,wpAny_typeOf->Ś,field->ś,wpAny_call_entry->Ŝ,excClassObj->Ş,setFlight->ş,wpAny_setField->Š,IsEnum->ţ,tupleKind->Ũ,Flow->ū,isTrue->Ŭ,PassesOwn->ŭ,behindInMarks->Ů,lastMarks->ů,NameKind->Ź,mem_of_lookup->ź,sliceBounds->Ż,call_meetsIn->ż,wpAny_pyIter_dict->Ž,evalArgs_none->ό,OwnTail->ύ,BoolOp->ϔ,spliced->Ϛ,wpAny_execs_cons->Ϝ,assign->ϝ,truthy->Ϟ,setAttr->ϡ,getAttr->Ϥ,leaving->ϧ,IsPart->Ϫ,typeIs_str->ϫ,tupleKind_room_in1->Ϭ,Params->ϭ,wpAny_letGo->Ϯ,getAttr?->ϯ,getattributeRaised->ϰ,wpAny_pyIter_list->ϱ,IsZip->ϲ,setField->ϵ,wpAny_newObj_type->Ϻ,noteFrame->ϻ,wpAny_standAt->aa',slicePicked->ab2,wpAny_pyIter_enum->ab5,wpAny_typeNameOfWhole_keyiter->ab7,wpAny_typeNameOf_keyiter->ab8,wpAny_loadPart'->ab9,Within->acm,builtinsNs->acn,wpAny_Name->aco,letOwnedTupleGo->acp,wpAny_load->acq,Arguments->acH,seqIndex?->acJ,seqIndex_of->acK,seqIndex_neg->acL,subscripted->acM,call->acQ,wpAny_dictEntries->acR,wpAny_isInstance->acT,getAttrBy->acV,entryFor->acX,callType_codes->acY,wpAny_seqItems->ac_,wpAny_updateSeq->ac0,loadIfAlive->ac1,wpAny_nextOf_list_item->ac2,wpAny_attempt->ac3,wpAny_pyIter_zip->ac5,wpAny_Call_method0_late->ac',ExcBaseFacts->adb,codeAny_call_builtin->ade,ExceptHandler->adh,handleBy->adi,Comprehension->adu,boot_len->adA,lookup_relabel_local->adB,wpAny_Expr_any->adP,wpAny_assign_Name->adQ,wpAny_pyNext_list_item->adR,wpAny_pyNext_list_end->adS,intBits_le_64->adU,wpAny_truthy_list->adY,wpAny_loadPart->ad_,wpAny_lookBehind->ad2,pastItsLine_dict->ad3,plainObj_wpAny_Assign_Attribute->ad9,codeAny_call_function->aec,wpAny_newFunctionEnv_cells->aee,slot_list_getitem->aei,call_list_seq->aek,fitsIndex_both->aep,wpAny_specialOf->aet,wpAny_Dict_empty->aeu,sub_AttributeError->aex,am_miss_of_fast->aey,wpAny_tryCatch->aez,wpAny_dictSet_pairs->aeB,stored_length_le->aeC,kt_code_dict_new->aeG,wpAny_notOrdered_dict->aeI,wpAny_ite_split->aeM,wpAny_nextOf_list_end->aeR,wpAny_pyNext_zip_item->aeS,wpAny_pyNext_zip_end->aeV,isSubtype_stop->aeW,entryFor_alias->aeY,meets_dict_items->ae0,wpAny_loadPart_at->ae1,wpAny_isSubtype_exc->ae3,wpAny_Try_except->afd,call_function_tree->afm,wpAny_letOwnedTupleGo_enum->afo,wpAny_fieldsOf->afD,wpAny_dictEpoch->afF,wpAny_isOneOf_keyiter->afG,firstArgMember->afJ,methodCallForm->afR
open Nat renaming le_trans->B',lt_of_lt_of_le->M',le_refl->O',le_of_eq->R',ne_of_lt->U',lt_trans->Â,lt_of_le_of_lt->Ø,lt_irrefl->Û,le_of_lt->ß,le_succ->ã,ne_of_gt->ä,zero_le->æ,le_add_right->ó,le_of_not_lt->ϊ,lt_succ_self->ϓ,succ_le_succ->ϖ,lt_succ_of_lt->ab1,min_le_left->aca,min_le_right->ac8,succ_ne_self->adt,le_total->ady,zero_add->adC,le_succ_of_le->aen,min_eq_left->afL,lt_of_not_le->afM,lt_or_eq_of_le->afT
open PySem.W renaming Frag->K',findIn->Å,mg_of->Ï,fnOf->Õ,keepIn->Ú,nsIn->ë,kia_one->ý,codeIn->Ĉ,kitOne->ĥ,notCls->ń,instObj->Ō,hasDictIn->Ű,isFn->Ų,specialIn->Ŵ,mroIn->ŵ,callWith_K->Ÿ,exmOne->Ϗ,lookIn->Ϡ,emptyDict->Ϣ,looks_findIn->ϣ,methodCall_KW->ϥ,Looks->Ϲ,binds_K->ack,InstAt->acr,plainOver->acs,takerIn->acu,looks_clsIn->acv,makesIn->acw,typeIn->acx,InitBack->acy,plainGet->acz,plainGet_of->acA,takesIn->acB,kitx_tuple->acC,callWith_K0->acD,cellsFrom_some->acE,set_plain->adZ,bind_fn->ad4,handedIn->ad5,findObj_own->ad7,kitx_list->ad',kitx_dict->aea,codeRec_of->aed,OpenLaw->aev,WalkO->aew,looks_mroIn->ae4,readsIn->ae8,findCls->ae9
open PySem.Heap renaming lt_size->N',get?_push_of_some->X',get?_push_size->Ó,get?_update_other->ĉ,get?_update_self->Ĝ,SameBut->Ķ,size_push->ų,get?_update_ne->ae5,get?_push_at->ae6,update_setField_same->ae',ExtBut->afI
open Option renaming map_eq_some_iff->Ã,bind_eq_some_iff->Ń,map_some->Ň,isSome_iff_exists->Ϩ,isSome_map->acO,getD_none->aej,isSome_some->aeq
open Ne renaming symm->Ç
open List renaming mem_cons->È,mem_of_getElem?->Ë,getElem?_eq_some_iff->Ì,mem_map->Î,range->Ñ,mem_append->Ô,mem_append_right->Ù,map_cons->Ü,map_map->Ý,length_map->Þ,size_toArray->å,getElem?_map->ç,mem_singleton->è,getElem?_append_left->ê,getElem?_eq_getElem->î,length_cons->Ā,nodup_append->ā,mem_iff_getElem?->ċ,find?_cons->Ē,all_eq_true->Ĕ,mem_append_left->Ė,append_nil->ę,any_cons->ĝ,lookup_cons->Ġ,getElem?_eq_none->Ģ,nodup_cons->Ħ,getElem?_append_right->ħ,length_take->Ĩ,filter_cons->ī,map_append->ı,not_mem_nil->Ĳ,getElem?_mapIdx->ĳ,take_succ->Ĵ,getElem?_set_ne->ķ,filter_eq_self->ŉ,mem_range->ō,mem_cons_of_mem->Ŏ,replicate->Ŕ,all_cons->Ţ,take_length->ť,mem_filter->ũ,getElem?_set_self->Ū,lookup->ű,foldl_cons->ſ,length_append->ϒ,range'->Ϙ,filterMap_cons->ϙ,of_mem_zip->Ϧ,length->ϩ,mem_map_of_mem->ϸ,length_set->ab_,getElem?_inj->ab0,take_of_length_le->ab3,map_id->ab',map_inj_right->acb,idxOf_lt_length_of_mem->acd,mem_of_mem_take->acf,append_of_mem->ach,zip->acj,getElem?_replicate->acF,take_sublist->acG,length_filter_le->acN,length_zip->ac7,getElem?_set->adg,range_succ_eq_map->adk,map_congr_left->adn,drop_eq_getElem_cons->adp,find?_some->adv,pairwise_cons->adw,ext_getElem?->adz,filter_map->adG,mem_flatMap->adH,getElem_inj->adN,mem_filterMap->adT,getElem?_take_of_lt->aeb,length_drop->aeg,drop_zero->aeJ,forIn_toArray->aeN,forIn_cons->aeP,forIn_nil->aeQ,eq_nil_of_length_eq_zero->aff,drop_of_length_le->afh,any_map->afl,findIdx?_eq_some_iff_getElem->afq,pairwise_mergeSort->afw,mergeSort_perm->afx,zipWith->afO,length_mapIdx->afS,map_nil->afU,cons_append->afV,map_id'->afW,pairwise_map->afY,nodup_range->af_
open PyProof.Rows renaming envOfC->Ê,AllBare->ą,IsTup->Ĥ,callWith_type1->Ļ,IntsAre->ŕ,Subscript_->acI,boot_dict->ac6,boot_list->ac9,callWith_builtin1->aef,subscriptTail_builtinR->aeh,sortedAll_old->afy,boot_isinstance->afN,iadd_int->af7
open PySem.Value renaming ref->Ð,none->õ,str->ü,int->Ŋ,type->ŋ,builtin->acW,isInt->adJ,isStrOf->adK,bool->adL
open Bool renaming and_eq_true->Ö,and_eq_true_iff->û,false_eq_true->į,not_eq_true'->Ť,false_ne_true->ϑ,or_eq_true->afu
open True renaming intro->ö
open False renaming elim->þ
open Sum renaming inr->ĕ,inl->Ŧ
open PySem.Builtin.Str renaming occurrences->Ę,strSliceIndices->ado,searchArgs->afs,strSomeArgs->aht,strArg->ahu,searchRange->ahv,textOf->ahw
open PySem.Obj renaming mapSeq->ě,data_mapFields->Ņ,mapFields->ώ,isFreed_of_fields->adf,cls_mapFields->adj
open Prod renaming mk->ģ
open PySem.Builtin.SmallTypes renaming nextOf->İ,ownedTupleIsFree->ϳ
open Int renaming natCast_nonneg->ĵ,emod_nonneg->ϗ,ne_of_gt->ϟ,toNat_natCast->ϴ,emod_lt_of_pos->adF,le_of_lt->adV,toNat_of_nonneg->af0
open PySem.SeqAt renaming EqAt->ņ,RcAt->afe
open PySem.Expr renaming Name->ň
open PySem.Calls renaming callWith_builtin->ŗ,spliced_nil->Ŷ,spliced_cons->ŷ,Name_function_global->adO
open PySem.F renaming plainAttrs_dict->ŝ,slot_dict_items->ϋ,plainAttrs_list->ϕ,slot_zip_next->Ϸ,slot_dict_keyiterator_next->ab6,slot_dict_len->acS,slot_list_getattribute->acU,slot_zip_getattribute->ac4,type_dict_items->ada,slot_dict_values->adx,slot_list_append->ael,slot_list_extend->aem,slot_list_pop->aeo,slot_dict_pop->aes,kt_called_dict->aeD,kt_typeCall_dict_1->aeE,entry_dict_init->aeF,args_dict_init_2->aeH,entry_zip_next->aeT,args_zip_next_1->aeU,entry_dict_items->aeZ,args_dict_items_1->ae_,attr_ValueError->ae7,excBase_ValueError->afa,entry_all_loop->afg,plain_all_loop->afi,entry_any_loop->afj,plain_any_loop->afk,slot_list_insert->afp,slot_list_index->afr,slot_str_index->aft,slot_dict_itemiterator_iter->afz,type_dict_values->afA,entry_dict_keyiterator_next->afB,args_dict_keyiterator_next_1->afC,slot_enumerate_next->afK,plainAttrs_str->afQ
open PySem.Str renaming length->š,ofString->ž,cps_append->acg,empty->ad6,length_append->af1
open PySem.Paired renaming length->ŧ,snoc->aer
open PySem.NameKind renaming free->ϐ,cell->adq
open Option.some renaming inj->ϛ,injEq->ahr
open ForInStep renaming yield->ab4
open List.Nodup renaming sublist->ace
open Nat.succ renaming inj->aci
open PySem.Heap.DictOf renaming new->acP
open PySem.Builtin.Dict renaming updateFrom->acZ,pairItems->aeA,addKeywords->agd,selfAndRest->age
open Function renaming comp_def->adl
open Classical renaming propDecidable->adm
open Array renaming append_assoc->adM,forIn_toList->aeO,getElem?_eq_some_iff->afc,toList_append->af2
open PySem.P renaming truthy_int->adW,truthy_str->adX
open PySem.W.Looks renaming here->ad0
open PySem.Within renaming cons->ad1
open PySem.Heap.Ns1 renaming of_empty->ad8
open PySem.Builtin.List renaming listExtendWith->aeK,listSameRef->aeL,listTooLong->af',listLengthHint->aga,listItems->agb
open PySem.Around renaming under_plainId->aeX
open PySem.Code renaming quiet_builtin->ae2
open List.cons renaming inj->afb,injEq->afP
open PySem.Walks renaming list->afn
open List.Perm renaming eq_of_pairwise->afv
open PySem.Builtin.Dict_items renaming ownsTuple->afE
open PySem.Heap.SameBut renaming update->afH,refl->agc
open PySem.PassesOwn renaming never->afX,leaving->ahz
open List.Pairwise renaming imp_of_mem->afZ,map->ahy
open PySem.SeqAt.EqAt renaming int_str->af3,str_int->af4,same->agg
open PySem.Builtin.Range renaming rangeSize->af5
open PySem.DictEntry renaming refKey->af6
open PySem.Heap.IsSliceOf renaming new->af8
open PySem.IsL renaming update->af9
open PySem.EntryCells renaming newEntry->agf
open PySem.SeqAt.RcAt renaming none_none->agh,none_bool->agi,none_int->agj,none_str->agk,none_list->agl,none_tuple->agm,bool_none->agn,bool_bool->ago,bool_int->agp,bool_str->agq,bool_list->agr,bool_tuple->ags,int_none->agt,int_bool->agu,int_int->agv,int_str->agw,int_list->agx,int_tuple->agy,str_none->agz,str_bool->agA,str_int->agB,str_str->agC,str_list->agD,str_tuple->agE,list_none->agF,list_bool->agG,list_int->agH,list_str->agI,lists->agJ,lists_lengths->agK,list_tuple->agL,tuple_none->agM,tuple_bool->agN,tuple_int->agO,tuple_str->agP,tuple_list->agQ,tuples->agR
open PySem.SeqAt.RcNeAt renaming none_none->agS,none_bool->agT,none_int->agU,none_str->agV,none_list->agW,none_tuple->agX,bool_none->agY,bool_bool->agZ,bool_int->ag_,bool_str->ag0,bool_list->ag1,bool_tuple->ag2,int_none->ag3,int_bool->ag4,int_int->ag5,int_str->ag6,int_list->ag7,int_tuple->ag8,str_none->ag9,str_bool->ag',str_int->aha,str_str->ahb,str_list->ahc,str_tuple->ahd,list_none->ahe,list_bool->ahf,list_int->ahg,list_str->ahh,lists->ahi,lists_lengths->ahj,list_tuple->ahk,tuple_none->ahl,tuple_bool->ahm,tuple_int->ahn,tuple_str->aho,tuple_list->ahp,tuples->ahq
open PySem.AutoListH renaming list_insert_list_int_val_1->ahs
open PySem.ScopeKind renaming function->ahx
noncomputable section
namespace L2
variable{E4 H:Bool}
def bL(h:(H&&E4)=true):=(û.mp h).1
def bR(h:(H&&E4)=true):=(û.mp h).2
variable{T4:Prop}
theorem bD{a}{z:a}(h:none=some z):T4:=nomatch h
theorem qP{α}{l:List α}{i a}(h:l[i]?=some a):i<l.length:=(Ì.mp h).1
def fG{a b c:Nat}(h:a<=b)(d:b<=c:=by decide):=B' h d
def lwb{a b c:Nat}(h:a<=b)(d:b<c:=by decide):=Ø h d
def lwc{a b c:Nat}(h:a<b)(d:b<=c:=by decide):=M' h d
theorem Bo{a b c}(h:a<b)(d:b<=c+1:=by decide):a<=c:=by omega
theorem OW{a b:Nat}{c:Int}(h:a<=b)(d:b<c:=by decide):a<c:=by omega
theorem Oq{a b:Nat}{c:Int}(h:a<b)(d:b<=c:=by decide):a<c:=by omega
def xa{G:Prop}{p q}(h:p/\q)(k:p->q->G):=k h.1 h.2
def xe{A}{G:Prop}{p:A->Prop}(h:∃a,p a)(k:∀a,p a->G):=h.elim λa h=>k a h
def kH{G:Prop}{p q r}(h:p/\q/\r)(k:p->q->r->G):=k h.1 h.2.1 h.2.2
def bx{A}{G:Prop}{p q:A->Prop}(h:∃a,p a/\q a)(k:∀a,p a->q a->G):=h.elim λa h=>k a h.1 h.2
def ay{A}{G:Prop}{p q r:A->Prop}(h:∃a,p a/\q a/\r a)(k:∀a,p a->q a->r a->G):=h.elim λa h=>k a h.1 h.2.1 h.2.2
def cg{A B}{G:Prop}{p q:A->B->Prop}(h:∃a b,p a b/\q a b)(k:∀a b,p a b->q a b->G):=h.elim λa h=>h.elim λb h=>k a b h.1 h.2
def fK{G:Prop}{p q r s t}(h:p/\q/\r/\s/\t)(k:p->q->r->s->t->G):=k h.1 h.2.1 h.2.2.1 h.2.2.2.1 h.2.2.2.2
theorem hU{A}{G:Prop}{p q}{r s:A->Prop}(h:p/\q/\∃a,r a/\s a)(k:p->q->∀a,r a->s a->G):G:=by obtain⟨l,m,a,n,e⟩:=h;exact k l m a n e
def dN{A}{G:Prop}{p q r s:A->Prop}(h:∃a,p a/\q a/\r a/\s a)(k:∀a,p a->q a->r a->s a->G):=h.elim λa h=>k a h.1 h.2.1 h.2.2.1 h.2.2.2
def aP{A B}{G:Prop}{p q r:A->B->Prop}(h:∃a b,p a b/\q a b/\r a b)(k:∀a b,p a b->q a b->r a b->G):=h.elim λa h=>h.elim λb h=>k a b h.1 h.2.1 h.2.2
def ek{A B C}{G:Prop}{p q:A->B->C->Prop}(h:∃a b c,p a b c/\q a b c)(k:∀a b c,p a b c->q a b c->G):=h.elim λa h=>h.elim λb h=>h.elim λc h=>k a b c h.1 h.2
def cW{G:Prop}{p q r s t u}(h:p/\q/\r/\s/\t/\u)(k:p->q->r->s->t->u->G):=k h.1 h.2.1 h.2.2.1 h.2.2.2.1 h.2.2.2.2.1 h.2.2.2.2.2
def bQ{A B}{G:Prop}{p q r s:A->B->Prop}(h:∃a b,p a b/\q a b/\r a b/\s a b)(k:∀a b,p a b->q a b->r a b->s a b->G):=h.elim λa h=>h.elim λb h=>k a b h.1 h.2.1 h.2.2.1 h.2.2.2
def cX{A B C}{G:Prop}{p q r:A->B->C->Prop}(h:∃a b c,p a b c/\q a b c/\r a b c)(k:∀a b c,p a b c->q a b c->r a b c->G):=h.elim λa h=>h.elim λb h=>h.elim λc h=>k a b c h.1 h.2.1 h.2.2
def ee{A B C D}{G:Prop}{p q:A->B->C->D->Prop}(h:∃a b c d,p a b c d/\q a b c d)(k:∀a b c d,p a b c d->q a b c d->G):=h.elim λa h=>h.elim λb h=>h.elim λc h=>h.elim λd h=>k a b c d h.1 h.2
def bg{A B}{G:Prop}{p q r s t:A->B->Prop}(h:∃a b,p a b/\q a b/\r a b/\s a b/\t a b)(k:∀a b,p a b->q a b->r a b->s a b->t a b->G):=h.elim λa h=>h.elim λb h=>k a b h.1 h.2.1 h.2.2.1 h.2.2.2.1 h.2.2.2.2
def bO{A B C}{G:Prop}{p q r s:A->B->C->Prop}(h:∃a b c,p a b c/\q a b c/\r a b c/\s a b c)(k:∀a b c,p a b c->q a b c->r a b c->s a b c->G):=h.elim λa h=>h.elim λb h=>h.elim λc h=>k a b c h.1 h.2.1 h.2.2.1 h.2.2.2
def bp{A B C D}{G:Prop}{p q r:A->B->C->D->Prop}(h:∃a b c d,p a b c d/\q a b c d/\r a b c d)(k:∀a b c d,p a b c d->q a b c d->r a b c d->G):=h.elim λa h=>h.elim λb h=>h.elim λc h=>h.elim λd h=>k a b c d h.1 h.2.1 h.2.2
def iC{A B C}{G:Prop}{p q r s t u:A->B->C->Prop}(h:∃a b c,p a b c/\q a b c/\r a b c/\s a b c/\t a b c/\u a b c)(k:∀a b c,p a b c->q a b c->r a b c->s a b c->t a b c->u a b c->G):=h.elim λa h=>h.elim λb h=>h.elim λc h=>k a b c h.1 h.2.1 h.2.2.1 h.2.2.2.1 h.2.2.2.2.1 h.2.2.2.2.2
def cC{A B C D}{G:Prop}{p q r s t:A->B->C->D->Prop}(h:∃a b c d,p a b c d/\q a b c d/\r a b c d/\s a b c d/\t a b c d)(k:∀a b c d,p a b c d->q a b c d->r a b c d->s a b c d->t a b c d->G):=h.elim λa h=>h.elim λb h=>h.elim λc h=>h.elim λd h=>k a b c d h.1 h.2.1 h.2.2.1 h.2.2.2.1 h.2.2.2.2
def bo{A B C D}{G:Prop}{p q r s t u:A->B->C->D->Prop}(h:∃a b c d,p a b c d/\q a b c d/\r a b c d/\s a b c d/\t a b c d/\u a b c d)(k:∀a b c d,p a b c d->q a b c d->r a b c d->s a b c d->t a b c d->u a b c d->G):=h.elim λa h=>h.elim λb h=>h.elim λc h=>h.elim λd h=>k a b c d h.1 h.2.1 h.2.2.1 h.2.2.2.1 h.2.2.2.2.1 h.2.2.2.2.2
open PySem PySem.Spec PyProof.Rows
abbrev Key:=Sum Int Str
noncomputable def pF:Key->f'->Bool
 |.inl k,v=>adJ k v
 |.inr x,v=>adK x v
noncomputable def Wi(w:W'):Key->Int
 |.inl k=>hashInt k
 |.inr x=>hashStr w x
theorem bY:∀{k}{v},pF k v=true->(∃i t,k=Ŧ i/\v=Ŋ i t)\/(∃x t,k=ĕ x/\v=ü x t)
 |.inl i,v,h=>by
  obtain⟨t,e⟩:=Value.isInt_shape h
  simp_all
 |.inr x,v,h=>by
  obtain⟨t,e⟩:=Value.isStrOf_shape h
  simp_all
theorem zM(i t):pF (.inl i) (.int i t)=true:=by simp[pF,adJ]
theorem zN(x t):pF (.inr x) (.str x t)=true:=by simp[pF,adK]
theorem KW(a b):decide ((Ŧ a:Key)=Ŧ b)=(a==b):=by
 grind
theorem KY(a b):decide ((ĕ a:Key)=ĕ b)=decide (a=b):=by
 simp
theorem KZ(a:Int)(b:Str):decide ((Ŧ a)=ĕ b)=false:=rfl
theorem K_(a:Str)(b:Int):decide ((ĕ a)=Ŧ b)=false:=rfl
def bz(prog w):PySem.KeyKind prog w Key where
 is:=pF
 hash:=Wi w
 inj:=λv a b g f=>by
  rcases bY g with ⟨i,t,rfl,rfl⟩|⟨x,t,rfl,rfl⟩
  .rcases bY f with ⟨j,u,rfl,e⟩|⟨y,u,rfl,e⟩
   .injection e with c _;rw[c]
   .exact nomatch e
  .rcases bY f with ⟨j,u,rfl,e⟩|⟨y,u,rfl,e⟩
   .exact nomatch e
   .injection e with c _;rw[c]
 byValue:=λk v h=>by
  rcases bY h with ⟨i,t,rfl,rfl⟩|⟨x,t,rfl,rfl⟩<;>rfl
 pyHash:=λd h=>by
  rcases bY d with ⟨i,t,rfl,rfl⟩|⟨x,t,rfl,rfl⟩
  .exact wpAny_pyHash_int h
  .exact wpAny_pyHash_str h
 eqBool:=λl d h=>by
  rcases bY l with ⟨i,t,rfl,rfl⟩|⟨x,t,rfl,rfl⟩
  .rcases bY d with ⟨j,u,rfl,rfl⟩|⟨y,u,rfl,rfl⟩
   .rw[KW]at h;exact wpAny_eqBool_int h
   .rw[KZ]at h;exact af3 i t y u _ _ _ _ h
  .rcases bY d with ⟨j,u,rfl,rfl⟩|⟨y,u,rfl,rfl⟩
   .rw[K_]at h;exact af4 x t j u _ _ _ _ h
   .rw[KY]at h;exact wpAny_eqBool_str h
 «strs» := λk x t v h=>by
  rcases bY h with ⟨i,u,rfl,e⟩|⟨y,u,rfl,e⟩
  .exact nomatch e
  .injection e with c _
   subst c;cases v<;>rfl
inductive V where
 |non|bl (b:Bool)|int (i:Int)|str (x:Str)|Ot (b:Array UInt8)|flt (b:UInt64)|ref (a:b')|ty (n:String)
 deriving DecidableEq
def RelV:V->f'->Prop
 |.non,u=>u=õ
 |.bl b,u=>u=adL b
 |.int i,u=>∃t,u=Ŋ i t
 |.str x,u=>∃t,u=ü x t
 |.Ot b,u=>∃t,u=Value.bytes b t
 |.flt b,u=>∃t,u=Value.float b t
 |.ref a,u=>u=Ð a
 |.ty n,u=>u=ŋ n
abbrev Vals:=é RelV
def Vals.length{xs a}(r:Vals xs a):=ŧ r
theorem Vals.get:∀{xs}{a}{i:Nat}{x},Vals xs a->xs[i]?=some x->∃u,a[i]?=some u/\RelV x u
 |_,_,_,_,.nil,e=>by simp at e
 |_,_,0,_,.cons r _,e=>by simp_all
 |_,_,i+1,x,.cons _ t,e=>by
  obtain⟨u,b,c⟩:=Vals.get t (by simpa using e)
  simp_all
theorem Vals.set{x u}(r:RelV x u):∀{xs}{a} i,Vals xs a->Vals (xs.set i x) (a.set i u)
 |_,_,_,.nil=>.nil
 |_,_,0,.cons _ t=>.cons r t
 |_,_,i+1,.cons q t=>.cons q (Vals.set r i t)
theorem Vals.append:∀{xs a}{b c},Vals xs b->Vals a c->Vals (xs++a) (b++c)
 |_,_,_,_,.nil,s=>s
 |_,_,_,_,.cons r t,s=>.cons r (Vals.append t s)
theorem Vals.take:∀{xs}{a} n,Vals xs a->Vals (xs.take n) (a.take n)
 |_,_,0,_=>.nil
 |_,_,_+1,.nil=>.nil
 |_,_,n+1,.cons r t=>.cons r (Vals.take n t)
theorem Vals.drop:∀{xs}{a} n,Vals xs a->Vals (xs.drop n) (a.drop n)
 |_,_,0,r=>r
 |_,_,_+1,.nil=>.nil
 |_,_,n+1,.cons _ t=>Vals.drop n t
def hY:Option V->Option f'->Prop
 |some v,some u=>RelV v u
 |none,none=>True
 |_,_=>False
def KV{a}:=é λ(p:a×V) (q:a×f')=>p.1=q.1/\RelV p.2 q.2
noncomputable def kV:Key->V
 |.inl i=>.int i
 |.inr x=>.str x
inductive HO where
 |lst (xs:List V)
 |tup (xs:List V)
 |dK (kvs:List (Key×V))|dT (kvs:List (List Key×V))
 |set (S:Int->Bool) (n:Nat)
 |ins (C dx:b') (fs:List (Str×V))
 |own (x:b')
 |xd (fs:List (Str×V))
 |met (f x:b')
 |Wj (lo hi:Int)
 |cI (o:Obj) (u:HO)
 |Lb (ps:Array f')
 |ext (φ:I'->Prop)
abbrev Hp:=b'->Option HO
noncomputable def upd(H:Hp)(a:b')(o:HO):Hp:=λb=>if b=a then some o else H b
variable{d:Hp}{j:b'}{m4:HO}
theorem aD:upd d j m4 j=some m4:=by unfold upd;simp_all
variable{N:b'}
theorem ax(h:N≠j):upd d j m4 N=d N:=by unfold upd;rw[if_neg h]
theorem aW(h:d j=some m4)(h':d N=none):j≠N:=by
 grind
section
variable(P:Á)(w:W')
def cL(H:Hp)(h:I')(a:b'):HO->Prop
 |.lst xs=>xs.length<=Q'/\∃b n,Vals xs b/\h.get? a=some {cls:=.type "list",data:=.seq b.toArray n}
 |.tup xs=>xs.length<=Q'/\∃b,Vals xs b/\Ĥ h a b.toArray
 |.dK c=>c.length<=Q'/\(a==ì)=false/\∃i,KV c i/\h.DictOf (bz P w) a i
 |.dT c=>c.length<=Q'/\(a==ì)=false/\∃xs,
   é (λp q=>p.1=q.1/\H q.2.1=some (.tup (p.1.map kV))/\RelV p.2 q.2.2) c xs /\
   ∃o j ep,h.get? a=some o/\o.ExactDict/\o.data=.dict j ep/\j.toList=xs.map (entryOfKey (Ũ (bz P w)))/\(xs.map (·.1)).Nodup
 |.set S n=>h.SetOf (intKind P w) a S n
 |.ins C e fs=>H e=some (.own a)/\fs.length<=1000/\e≠a/\h.get? a=some (Ō C e) /\
   ∃d,h.Ns1 e d/\(∀f,hY (fs.lookup f) (d f))/\acm d (fs.map (·.1))
 |.own _=>∃o,h.get? a=some o
 |.xd fs=>∃d,h.Ns1 a d/\∀f,hY (fs.lookup f) (d f)
 |.Wj m r=>∃t u v,h.get? a=some {cls:=.type "range",data:=.fields #[.int m t,.int r u,.int 1 v]}
 |.cI o u=>h.get? a=some o/\cL H h a u
 |.Lb s=>h.get? a=some {cls:=.none,data:=.fields s}
 |.met f x=>h.get? a=some (PySem.W.methodObj (.ref f) (.ref x))
 |.ext g=>g h/\(∃o,h.get? a=some o)/\∀k l,g k->(∀o,k.get? a=some o->l.get? a=some o)->g l
def hJ(H h):=∀a o,H a=some o->cL P w H h a o
end
theorem cL.lt{P w H h a o}(x:cL P w H h a o):a<h.objs.size:=by
 cases o with
 |lst g=>refine xa x λ_ b=>cg b λ_ _ _ e=>N' e
 |tup g=>obtain⟨_,_,_,p⟩:=x;exact p.lt
 |dK c=>refine hU x λ_ _ _ _ b=>ek b λo _ _ e _=>N' e
 |dT c=>refine hU x λ_ _ _ _ b=>ek b λo _ _ e _=>N' e
 |set S n=>refine ee x λo _ _ _ e _=>N' e
 |ins C j i=>refine fK x λ_ _ _ e _=>N' e
 |own y=>obtain⟨_,e⟩:=x;exact N' e
 |xd i=>obtain⟨_,⟨_,_,_,e,_⟩,_⟩:=x;exact N' e
 |Wj k l=>refine xe x λ_ b=>xe b λ_ d=>xe d λ_ e=>N' e
 |cI m u=>obtain⟨e,_⟩:=x;exact N' e
 |Lb q=>exact N' (x)
 |met f y=>exact N' (x)
 |ext r=>obtain⟨_,⟨_,e⟩,_⟩:=x;exact N' e
theorem Paired.FQ{α β F G}:∀{l₁:List α}{l₂:List β},é F l₁ l₂->(∀a b,F a b->G a b)->é G l₁ l₂
 |_,_,.nil,_=>.nil
 |_,_,.cons r t,f=>.cons (f _ _ r) (Paired.FQ t f)
variable{I:Á}{L o6:I'}{M:W'}{υ:Hp}
theorem cL.stay(x:cL I M d L j m4)(k:∀b u,(b=j\/d b=some (.own j))->L.get? b=some u->o6.get? b=some u)(B:∀b,d b=some (.own j)->υ b=some (.own j))(D:∀b xs,d b=some (.tup xs)->υ b=some (.tup xs)):cL I M υ o6 j m4:=by
 induction m4 with
 |lst xs=>obtain⟨z,o,n,r,e⟩:=x;exact⟨z,_,n,r,k _ _ (.inl rfl) e⟩
 |tup xs=>refine xa x λz a=>bx a λo r l=>bx l λg e c=>⟨z,_,r,g,k _ _ (.inl rfl) e,c⟩
 |dK s=>refine hU x λz y E r a=>ek a λg h i e c=>⟨z,y,E,r,g,h,i,k _ _ (.inl rfl) e,c⟩
 |dT s=>
  refine hU x λz y xs r a=>ek a λg h i e c=>⟨z,y,xs,Paired.FQ r λp q z=>⟨z.1,D _ _ z.2.1,z.2.2⟩,g,h,i,k _ _ (.inl rfl) e,c⟩
 |set S n=>refine ee x λg h i t e c=>⟨g,h,i,t,k _ _ (.inl rfl) e,c⟩
 |ins C N F=>
  obtain⟨m,z,G,e,w,⟨A,h,i,H,c⟩,r⟩:=x;exact⟨B _ m,z,G,k _ _ (.inl rfl) e,w,⟨A,h,i,k _ _ (.inr m) H,c⟩,r⟩
 |own y=>obtain⟨g,e⟩:=x;exact⟨g,k _ _ (.inl rfl) e⟩
 |xd F=>obtain⟨w,⟨A,h,i,e,c⟩,r⟩:=x;exact⟨w,⟨A,h,i,k _ _ (.inl rfl) e,c⟩,r⟩
 |Wj O P=>refine xe x λt a=>xe a λu l=>xe l λv e=>⟨t,u,v,k _ _ (.inl rfl) e⟩
 |cI g u J=>obtain⟨e,q⟩:=x;exact⟨k _ _ (.inl rfl) e,J q⟩
 |Lb Q=>
  exact k j _ (.inl rfl) x
 |met f y=>
  exact k j _ (.inl rfl) x
 |ext R=>obtain⟨p,⟨m4,e⟩,K⟩:=x;exact⟨by grind,⟨m4,k _ _ (.inl rfl) e⟩,K⟩
def hJ.lt{P w H h a o}(x:hJ P w H h)(e:H a=some o):=(x a o e).lt
theorem hJ.fresh(x:hJ I M d L)(e:L.objs.size<=j):d j=none:=by
 cases q:d j with
 |none=>rfl
 |some u=>exact absurd (M' (x.lt q) e) (by simp)
theorem hJ.kept{h'}(x:hJ I M d L)(k:∀b u,L.get? b=some u->h'.get? b=some u):hJ I M d h':=λa o e=>
 (x a o e).stay (λb u _ q=>k b u q) (λ_ q=>q) λ_ _ q=>q
theorem hJ.laid{a:b'}{o}(x:hJ I M d L)(k:∀b u,L.get? b=some u->o6.get? b=some u)(h:L.objs.size<=a)(i:cL I M (upd d a o) o6 a o):hJ I M (upd d a o) o6:=λb u e=>by
 have f:=x.fresh h
 by_cases g:b=a
 .subst g;rw[aD]at e;simp_all
 .rw[ax g]at e
  exact(x b u e).stay (λc v _ q=>k c v q) (λc q=>by rwa[ax (aW q f)]) λc j q=>by rwa[ax (aW q f)]
def Rd(H:Hp)(a u):=H a=some u\/∃o,H a=some (.cI o u)
theorem Rd.ok(r:Rd d j m4)(x:hJ I M d L):cL I M d L j m4:=by
 rcases r with r|⟨o,r⟩
 .exact x j m4 r
 .obtain⟨_,q⟩:=x j _ r
  exact q
def Ua:Option HO->Prop
 |some (.lst _)=>True
 |some (.dK _)=>True
 |some (.dT _)=>True
 |some (.set _ _)=>True
 |some (.ins _ _ _)=>True
 |some (.ext _)=>True
 |_=>False
theorem hJ.write(ok:hJ I M d L)(f:Ua (d j))(n:N=j\/d N=some (.own j))(k:∀b u,b≠N->L.get? b=some u->o6.get? b=some u)(e:∃u,o6.get? N=some u)(l:cL I M (upd d j m4) o6 j m4):hJ I M (upd d j m4) o6:=λb u q=>by
 have a:∀c y,d c=some (.own y)->c≠j:=λc y r z=>by subst z;rwa[r]at f
 by_cases g:b=j
 .subst g;rw[aD]at q;simp_all
 .rw[ax g]at q
  by_cases m:b=N
  .have h:d b=some (.own j):=by
    simp_all
   rw[q]at h;cases h
   obtain⟨v,o⟩:=e;exact⟨v,by simp_all⟩
  .refine(ok b u q).stay (λc v p r=>k c v ?_ r) (λc r=>by rwa[ax (a c b r)]) λc i r=>by rwa[ax ((λc i r z=>by subst z;rwa[r]at f) c i r)]
   grind
structure Un(fs ex:List b')(H H':Hp)(h h':I'):Prop where
 keep:∀b o,h.get? b=some o->H b=none->b∉fs->b∉ex->h'.get? b=some o
 slot:∀b o,h.get? b=some o->H b=none->b∈fs->b∉ex->∃sl,h'.get? b=some {o with slots:=sl}
 free:∀b o,h.get? b=some o->H b=none->b∉ex->H' b=none
 there:∀b o,h.get? b=some o->b∉ex->∃o',h'.get? b=some o'
 tups:∀b xs,H b=some (.tup xs)->H' b=some (.tup xs)
 ff:∀b o u,H b=some (.cI o u)->H' b=some (.cI o u)
 gc:∀b ps,H b=some (.Lb ps)->∃more,H' b=some (.Lb (ps++more))
variable{Q2 z:List b'}
theorem Un.any(u:Un z Q2 d υ L o6){ob}(q:L.get? j=some ob)(n:d j=none)(a:j∉Q2):∃c,o6.get? j=some {ob with slots:=c}:=by
 by_cases b:j∈z
 .exact u.slot j ob q n b a
 .exact⟨_,u.keep j ob q n b a⟩
variable{k9:Hp}
theorem Un.trans{m}(a:Un z Q2 d υ L o6)(b:Un z Q2 υ k9 o6 m):Un z Q2 d k9 L m where
 keep:=λc e q n h f=>b.keep c e (a.keep c e q n h f) (a.free c e q n f) h f
 slot:=λc e q n h f=>by
  obtain⟨p,g⟩:=a.slot c e q n h f;obtain⟨j,k⟩:=b.slot c _ g (a.free c e q n f) h f;exact⟨j,k⟩
 free:=λc e q n f=>by
  obtain⟨l,g⟩:=a.there c e q f;exact b.free c l g (a.free c e q n f) f
 there:=λc e q f=>by
  obtain⟨l,g⟩:=a.there c e q f;exact b.there c l g f
 tups:=λc i q=>b.tups c i (a.tups c i q)
 ff:=λc e i q=>b.ff c e i (a.ff c e i q)
 gc:=λc o q=>by
  obtain⟨m1,g⟩:=a.gc c o q;obtain⟨m2,k⟩:=b.gc c _ g;exact⟨m1++m2,by rw[k,adM]⟩
theorem Un.kept{h'}(k:∀b u,L.get? b=some u->h'.get? b=some u):Un z Q2 d d L h':=
 ⟨by simp_all,λb a q _ _ _=>⟨_,k b a q⟩,by simp_all,by simp_all,by simp,by simp,λ_ c q=>⟨#[],by simp_all⟩⟩
theorem Un.laid{a:b'}{o}(k:∀b u,L.get? b=some u->o6.get? b=some u)(e:L.objs.size<=a)(c:d a=none):Un z Q2 d (upd d a o) L o6 where
 keep:=λb u q _ _ _=>k b u q
 slot:=λb u q _ _ _=>⟨_,k b u q⟩
 free:=λb u q n _=>by rwa[ax (U' (M' (N' q) e))]
 there:=λb u q _=>⟨u,k b u q⟩
 tups:=λb f q=>by rwa[ax (aW q c)]
 ff:=λb u f q=>by rwa[ax (aW q c)]
 gc:=λb g q=>⟨#[],by rw[ax (aW q c),q];simp⟩
variable{A9:List b'}
theorem Un.mono{a}(u:Un z A9 d υ L o6)(g:∀b∈z,b∈Q2)(i:∀b∈A9,b∈a):Un Q2 a d υ L o6:=
 ⟨λb c q n h e=>u.keep b c q n (λf=>h (g b f)) (by grind),λ_ _ q n _ e=>u.any q n (by grind),λb c q n e=>u.free b c q n (by grind),λb c q e=>u.there b c q (by grind),u.tups,u.ff,u.gc⟩
noncomputable def trk(h:I')(H:Hp):=(Ñ h.objs.size).filter λa=>(H a).isSome
def vu(h H):=PySem.W.hideAll h (trk h H)
variable{i0:Obj}
theorem FR(e:(vu L d).get? j=some i0):L.get? j=some i0/\d j=none:=by
 have a:=PySem.W.of_hideAll _ e;refine⟨a,?_⟩;cases q:d j with
 |none=>rfl
 |some x=>
  have z:(vu L d).get? j=none:=PySem.W.hideAll_none _ (ũ.mpr ⟨ō.mpr (N' a),by simp[q]⟩)
  simp_all
noncomputable def FT(g h:I')(L):=(Ñ h.objs.size).filterMap λa=>if a=L\/(g.get? a).isSome=true then none else (h.get? a).map λo=>(a,o)
def rest(g h L d):=(FT g h L).filter λp=>decide (p.1≠d)
structure Mod(K:K')(mg:Str->Option f')(base:I'):Prop where
 Jw:K.In base
 glob:base.Ns Í mg
 blt:∃mb,base.Ns acn mb/\∀x:Str,x≠"__name__"->mb x=Č x
 nolimit:base.NoLimit
structure Cx where
 prog:Á
 w:W'
 K:K'
 mg:Str->Option f'
 base:I'
 A:Æ
 N:List Str
 s₀:g'
 H₀:Hp
 env:Ä
 outer:List Ä
 stack:List Ä
 ex:List b'
 fn:Str->Bool
 calm:Bool
 pn:List (b'×Obj)
 xe:f'->g'->Prop
noncomputable def frs(l:List Ä):=l.filterMap (·.frame)
abbrev Cx.fs(X:Cx):=frs X.outer
def vx(sc:V')(x):=sc.names.lookup x=some .local\/sc.names.lookup x=some .cell\/sc.names.lookup x=some .free
def Loc(sc:V')(x):=sc.names.lookup x=some .local\/sc.names.lookup x=some .cell
def Look(a:Ä)(h:I')(m:Str->Option f')(x u):=
 (a.kindOf x=some .local/\m x=some u)\/((a.kindOf x=some .cell\/a.kindOf x=some .free)/\∃c,a.cells.lookup x=some c/\h.IsCell c (some u))
structure Cx.Ok(X:Cx):Prop where
 mod:Mod X.K X.mg X.base
 kind:X.env.scope.kind=.function
 glob:X.env.globals=Í
 blt:X.env.builtins=acn
 above:X.s₀.heap.objs.size<=X.env.locals
 inj:∀x y c,X.env.cells.lookup x=some c->X.env.cells.lookup y=some c->x=y
 has:∀x,(X.env.kindOf x=some .cell\/X.env.kindOf x=some .free)->∃c,X.env.cells.lookup x=some c
 cab:∀x c,X.fn x=true->X.env.cells.lookup x=some c->X.s₀.heap.objs.size<=c
 hd:X.calm=true->X.A.handled=none
 frames:X.A.frames=some X.stack
 FH:X.stack=X.outer\/(X.stack=X.env::X.outer/\X.env.frame=some X.env.locals)
 FU:∀b∈X.ex,b≠X.env.locals/\∀x c,X.env.cells.lookup x=some c->c≠b
 bs:∀b o,X.base.get? b=some o->X.s₀.heap.get? b=some o/\X.H₀ b=none
 vy:X.base.objs.size<=X.s₀.heap.objs.size
 oY:∀b o,X.base.get? b=some o->b∉X.ex
 oZ:∀b∈X.ex,b∉X.fs
 gw:X.s₀.heap.FunFrames X.base X.outer
 zO:∀b∈X.fs,X.H₀ b=none
structure Inv(X:Cx)(pins:List (b'×Obj))(σ:List (Option V))(H:Hp)(s:g'):Prop where
 ok:X.Ok
 os:s.os=X.s₀.os
 bare:ą s.gens
 base:Un X.fs X.ex X.H₀ H X.s₀.heap s.heap
 loc:∃m,s.heap.Ns X.env.locals m/\∀(i:Nat) (x:Str) (v:V),X.N[i]?=some x->σ[i]?=some (some v)->vx X.env.scope x->∃u,RelV v u/\Look X.env s.heap m x u
 cell:∀x c,X.env.cells.lookup x=some c->∃v,s.heap.IsCell c v
 free:H X.env.locals=none
 df:∀x c,X.env.cells.lookup x=some c->(H c=none\/∃o u,H c=some (.cI o u))/\(X.fn x=true->H c=none)
 pin:∀p∈X.pn++pins,s.heap.get? p.1=some p.2/\H p.1=none/\p.1≠X.env.locals/\p.1∉X.fs/\∀v,p.2.data≠.cell v
 hok:hJ X.prog X.w H s.heap
 len:σ.length=X.N.length
variable{c:Cx}
theorem Cx.Ok.Wk(ok:c.Ok)(e:c.base.get? j=some i0):j∉c.fs:=λa=>by
 have:=(ok.gw.mem a).1
 grind
theorem Inv.bs{X pins a H s}(I:Inv X pins a H s):∀b o,X.base.get? b=some o->s.heap.get? b=some o/\H b=none:=λb o e=>
 ⟨I.base.keep b o (I.ok.bs b o e).1 (I.ok.bs b o e).2 (I.ok.Wk e) (I.ok.oY b o e),I.base.free b o (I.ok.bs b o e).1 (I.ok.bs b o e).2 (I.ok.oY b o e)⟩
variable{G:List (b'×Obj)}{m5:List (Option V)}{x:g'}
def Inv.bk(I:Inv c G m5 d x):=λb o e=>(I.bs b o e).1
def Inv.mod{X pins a H s}(I:Inv X pins a H s):=I.ok.mod
def Inv.fF(I:Inv c G m5 d x):=I.ok.mod.Jw.keeps I.bk
def Inv.lt{X pins a H s}(I:Inv X pins a H s):=bx (I.loc) λ_ b _=>b.lt
def Inv.sz(I:Inv c G m5 d x):=B' I.ok.above (ß I.lt)
theorem Inv.Wl(I:Inv c G m5 d x)(h:x.heap.objs.size<=j):j∉c.fs:=λa=>by
 obtain⟨_,o,b,_⟩:=I.ok.gw.mem a;exact absurd (M' (N' b) (B' I.sz h)) (by simp)
theorem Inv.OX(I:Inv c G m5 d x):∀b a,c.env.cells.lookup b=some a->a≠c.env.locals:=λb a e z=>by
 obtain⟨v,o,h,i⟩:=I.cell b a e;obtain⟨m,⟨j,k,l,f,g,_⟩,_⟩:=I.loc
 simp_all
theorem Inv.gw{X pins h H s}(I:Inv X pins h H s):s.heap.FunFrames X.base X.outer:=by
 have a:∀(l:List _),(∀b∈frs l,b∈X.fs)->X.s₀.heap.FunFrames X.base l->s.heap.FunFrames X.base l:=by
  intro l
  induction l with
  |nil=>intro _ _;trivial
  |cons i r j=>
   intro f k;obtain⟨m,⟨L,o,g,n,p,q⟩,t⟩:=k;have c:=f L (by unfold frs;simp_all)
   obtain⟨u,e⟩:=I.base.slot L o p (I.ok.zO L c) c λz=>I.ok.oZ L z c
   exact⟨m,⟨L,_,g,n,e,q⟩,j (λb d=>f b (by unfold frs;rw[ϙ,g];exact Ŏ _ d)) t⟩
 exact a _ (λ_ d=>d) I.ok.gw
theorem Inv.stack{X pins a H s}(I:Inv X pins a H s):s.heap.FunFrames X.base X.stack:=by
 rcases I.ok.FH with e|⟨e,b⟩
 .rw[e];exact I.gw
 .rw[e]
  refine bx I.loc λm c _=>?_
  refine .cons (by rw[I.ok.kind];decide) b c (Heap.get?_none_of_le (B' I.ok.vy I.ok.above)) I.gw
theorem Inv.qQ(I:Inv c G m5 d x):∀b∈frs c.stack,b∈c.env.locals::c.fs:=λb a=>by
 rcases I.ok.FH with e|⟨e,f⟩
 .simp_all
 .rw[e]at a
  unfold frs at a;rwa[ϙ,f]at a
theorem Inv.jB(I:Inv c G m5 d x):∀b∈frs c.stack,d b=none:=λb hb=>by
 rcases È.mp (I.qQ b hb)with e|hb
 .rw[e];exact I.free
 .obtain⟨_,o,a,_⟩:=I.ok.gw.mem hb
  exact I.base.free b o a (I.ok.zO b hb) λz=>I.ok.oZ b z hb
variable{F7:Drawn}{L7:Array GenState}{b:Nat}
theorem Inv.step{s}{ch:List b'}(I:Inv c G m5 d s)(t:∀a∈ch,(a∈c.ex\/c.s₀.heap.objs.size<=a)/\a≠c.env.locals/\(∀x f,c.env.cells.lookup x=some f->f≠a)/\∀p∈c.pn++G,p.1≠a)(keep:∀a o,a≠c.env.locals->a∉c.fs->a∉ch->s.heap.get? a=some o->d a=none->L.get? a=some o)(slot:∀a o,a≠c.env.locals->a∈c.fs->a∉ch->s.heap.get? a=some o->d a=none->∃Q,L.get? a=some {o with slots:=Q})(free:∀a o,a∉ch->s.heap.get? a=some o->d a=none->υ a=none)(there:∀a o,a∉ch->s.heap.get? a=some o->∃H,L.get? a=some H)(tups:∀a xs,d a=some (.tup xs)->υ a=some (.tup xs))(ff:∀a o u,d a=some (.cI o u)->υ a=some (.cI o u))(gc:∀a M,d a=some (.Lb M)->∃more,υ a=some (.Lb (M++more)))(Y:∀m,s.heap.Ns c.env.locals m->L.Ns c.env.locals m)(J:hJ c.prog c.w υ L)(Z:ą L7):
  Inv c G m5 υ {s with heap:=L,gens:=L7,drawn:=F7,toks:=b}:=by
 have K:∀a o,c.s₀.heap.get? a=some o->a≠c.env.locals:=λa o e=>U' (M' (N' e) I.ok.above)
 have A:∀a o,c.s₀.heap.get? a=some o->a∉c.ex->a∉ch:=λa o e h C=>by
  rcases(t a C).1 with z|z
  .exact h z
  .exact absurd (M' (N' e) z) (Û _)
 have y:∀x f,c.env.cells.lookup x=some f->∀v,s.heap.IsCell f v->L.IsCell f v:=λx f e v  zf =>bx zf λo B N=>by
  have g:f∉ch:=λz=>(t f z).2.2.1 x f e rfl
  rcases(I.df x f e).1 with E|⟨F,O,P⟩
  .by_cases T:f∈c.fs
   .obtain⟨Q,q⟩:=slot f o (I.OX x f e) T g B E
    exact⟨_,q,N⟩
   .exact⟨o,keep f o (I.OX x f e) T g B E,N⟩
  .have j:s.heap.get? f=some F:=(I.hok f _ P).1
   have D:L.get? f=some F:=(J f _ (ff f F O P)).1;rw[B]at j;cases j
   exact⟨o,D,N⟩
 refine⟨I.ok,I.os,Z,⟨λa o e n C h=>?_,λa o e n C h=>?_,λa o e n h=>?_,λa o e h=>?_,λa xs e=>tups a xs (I.base.tups a xs e),λa o xs e=>ff a o xs (I.base.ff a o xs e),λa M e=>?_⟩,?_,λx f e=>?_,?_,λx f e=>?_,λp U=>?_,J,I.len⟩
 .exact keep a o (K a o e) C (A a o e h) (I.base.keep a o e n C h) (I.base.free a o e n h)
 .obtain⟨Q,j⟩:=I.base.slot a o e n C h
  obtain⟨R,D⟩:=slot a _ (K a o e) C (A a o e h) j (I.base.free a o e n h);exact⟨R,D⟩
 .obtain⟨H,j⟩:=I.base.there a o e h
  exact free a H (A a o e h) j (I.base.free a o e n h)
 .obtain⟨H,j⟩:=I.base.there a o e h
  exact there a H (A a o e h) j
 .obtain⟨m1,j⟩:=I.base.gc a M e
  obtain⟨m2,D⟩:=gc a _ j;exact⟨m1++m2,by rw[D,adM]⟩
 .refine bx I.loc λm E hl=>?_
  refine⟨m,Y m E,λi x v j D e3=>?_⟩
  obtain⟨u,r,l⟩:=hl i x v j D e3;refine⟨u,r,?_⟩;rcases l with l|⟨k,f,e,z⟩
  .exact .inl l
  .exact .inr ⟨k,f,e,y x f e _ z⟩
 .obtain⟨v,z⟩:=I.cell x f e
  exact⟨v,y x f e v z⟩
 .obtain⟨m,⟨o,_,_,B,_⟩,_⟩:=I.loc
  exact free _ o (λz=>(t _ z).2.1 rfl) B I.free
 .refine cg (I.cell x f e) λv o B N=>?_
  have g:f∉ch:=λz=>(t f z).2.2.1 x f e rfl
  refine⟨?_,λhf=>free f o g B ((I.df x f e).2 hf)⟩
  rcases(I.df x f e).1 with E|⟨F,O,P⟩
  .exact .inl (free f o g B E)
  .exact .inr ⟨F,O,ff f F O P⟩
 .refine fK (I.pin p U) λe n V X S=>?_
  have g:p.1∉ch:=λz=>(t p.1 z).2.2.2 p U rfl
  exact⟨keep p.1 p.2 V X g e n,free p.1 p.2 g e n,V,X,S⟩
theorem Inv.un{s}(I:Inv c G m5 d s)(u:Un c.fs [] d υ s.heap L)(g:hJ c.prog c.w υ L):Inv c G m5 υ {s with heap:=L,toks:=b}:=by
 obtain⟨m,⟨o,t,x,i,r⟩,_⟩:=id I.loc;obtain⟨y,j⟩:=u.any i I.free (by simp)
 exact I.step (ch:=[]) (λ_ z=>nomatch z) (λa o _ h _ e n=>u.keep a o e n h (by simp)) (λa o _ h _ e n=>u.slot a o e n h (by simp)) (λa o _ e n=>u.free a o e n (by simp)) (λa o _ e=>u.there a o e (by simp)) u.tups u.ff u.gc (λA k=>by
  refine ek k λB l p f q=>?_
  rw[i]at f;cases f
  exact⟨_,_,_,j,q⟩) g I.bare
theorem Inv.call{s}(I:Inv c G m5 d s)(u:Un (frs c.stack) z d υ s.heap L)(k:hJ c.prog c.w υ L)(t:ą L7)(i:∀a∈z,(a∈c.ex\/c.s₀.heap.objs.size<=a)/\a≠c.env.locals/\(∀x f,c.env.cells.lookup x=some f->f≠a)/\∀p∈c.pn++G,p.1≠a):
  Inv c G m5 υ {s with heap:=L,gens:=L7,drawn:=F7,toks:=b}:=by
 obtain⟨m,⟨o,E,F,q,r⟩,_⟩:=id I.loc;obtain⟨H,l⟩:=u.any q I.free λg=>(i _ g).2.1 rfl
 exact I.step i (λa o l y h e n=>u.keep a o e n (λg=>(È.mp (I.qQ a g)).elim l y) h) (λa o _ _ h e n=>u.any e n h) (λa o h e n=>u.free a o e n h) (λa o h e=>u.there a o e h) u.tups u.ff u.gc (λJ A=>by
  refine ek A λK B C j D=>?_
  rw[q]at j;cases j
  exact⟨_,_,_,l,D⟩) k t
theorem Inv.turned{s}(I:Inv c G m5 d s)(k:∀a o,a≠j->s.heap.get? a=some o->L.get? a=some o)(E:d j=none)(h:j≠c.env.locals)(i:j∈c.ex\/c.s₀.heap.objs.size<=j)(l:∀x f,c.env.cells.lookup x=some f->f≠j)(t:∀p∈c.pn++G,p.1≠j):Inv c G m5 d {s with heap:=L,toks:=b}:=by
 have w:∀a u,d a=some u->a≠j:=λa u e z=>by simp_all
 refine I.step (ch:=[j]) (λa y=>?_) (λa o _ _ g e _=>k a o (λz=>g (by simp[z])) e) (λa o _ _ g e _=>⟨_,k a o (λz=>g (by simp[z])) e⟩) (λ_ _ _ _ n=>n)
  (λa o g e=>⟨o,by simp_all⟩) (λ_ _ e=>e) (λ_ _ _ e=>e) (λa F e=>⟨#[],by simp_all⟩) (λm A=>?_) (λa u e=>?_) I.bare
 .have e:=by simpa using y
  subst e;exact⟨i,h,l,t⟩
 .refine ek A λo B C D r=>⟨o,B,C,k _ o (Ç h) D,r⟩
 .refine(I.hok a u e).stay (λf v g q=>k f v ?_ q) (λ_ q=>q) λ_ _ q=>q
  grind
theorem Inv.tok{s}(I:Inv c G m5 d s)(t):Inv c G m5 d {s with toks:=t}:=I.un (Un.kept λ_ _ q=>q) I.hok
theorem Inv.kept{X pins a H s h' t'}(I:Inv X pins a H s)(k:∀b u,s.heap.get? b=some u->h'.get? b=some u):Inv X pins a H {s with heap:=h',toks:=t' }:=I.un (Un.kept k) (I.hok.kept k)
theorem Inv.laid{X pins e H s h'}{a:b'}{o t'}(I:Inv X pins e H s)(k:∀b u,s.heap.get? b=some u->h'.get? b=some u)(c:s.heap.objs.size<=a)(d:cL X.prog X.w (upd H a o) h' a o):
  Inv X pins e (upd H a o) {s with heap:=h',toks:=t' }:=I.un (Un.laid k c (I.hok.fresh c)) (I.hok.laid k c d)
theorem Inv.write{X pins f H s h' x e o t'}(I:Inv X pins f H s)(g:Ua (H x))(i:e=x\/H e=some (.own x))(k:∀b u,b≠e->s.heap.get? b=some u->h'.get? b=some u)(a:∃u,h'.get? e=some u)(c:cL X.prog X.w (upd H x o) h' x o):Inv X pins f (upd H x o) {s with heap:=h',toks:=t' }:=I.un (by
    have j:∀b,H b=none->b≠x:=λb n z=>by subst z;rwa[n]at g
    have h:∀b,H b=none->b≠e:=λb n z=>by
     grind
    have d:∀b u,H b=some u->¬ Ua (some u)->b≠x:=λb u q m z=>by simp_all
    refine⟨λb u q n _ _=>k b u (h b n) q,λb u q n _ _=>⟨_,k b u (h b n) q⟩,λb u q n _=>by rwa[ax (j b n)],λb u q _=>?_,
     λb l q=>by rwa[ax (d b _ q λz=>z)],λb u l q=>by rwa[ax (d b _ q λz=>z)],λb p q=>⟨#[],by rw[ax (d b _ q λz=>z),q];simp⟩⟩
    grind) (I.hok.write g i k a c)
theorem Inv.weak{a}(I:Inv c G m5 d x)(f:a.length=m5.length)(w:∀(i:Nat) v,a[i]?=some (some v)->m5[i]?=some (some v)):Inv c G a d x:=
 ⟨I.ok,I.os,I.bare,I.base,let ⟨m,g,e⟩:=I.loc;⟨m,g,λi b v h j k=>e i b v h (w i v j) k⟩,I.cell,I.free,I.df,I.pin,I.hok,f.trans I.len⟩
theorem Inv.xJ{a}(I:Inv c G m5 d x)(h:∀p∈a,x.heap.get? p.1=some p.2/\d p.1=none/\p.1≠c.env.locals/\p.1∉c.fs/\∀v,p.2.data≠.cell v):Inv c a m5 d x:=
 ⟨I.ok,I.os,I.bare,I.base,I.loc,I.cell,I.free,I.df,λp b=>(Ô.mp b).elim (λz=>I.pin p (Ė _ z)) (h p),I.hok,I.len⟩
variable{h:Str}{l:List Str}{w:Nat}
theorem tD(d:l.Nodup)(a:l[b]?=some h)(c:l[w]?=some h):b=w:=by
 obtain⟨g,e⟩:=Ì.mp a;obtain⟨i,f⟩:=Ì.mp c;exact(adN d).mp (e.trans f.symm)
variable{A:V}{L5:Unit->g'->Prop}{U:f'}{j7:Model}{θ:Æ}{ν:f'->g'->Prop}
theorem pG{s}(I:Inv c G m5 d s)(hN:c.N.Nodup)(M:c.N[b]?=some h)(u:Loc c.env.scope h)(r:RelV A U)(E:∀S,Inv c G (m5.set b (some A)) d S->(∃a,Ķ a s.heap S.heap/\(a=c.env.locals\/c.env.cells.lookup h=some a))->L5 () S)(hf:c.fn h=true\/c.env.scope.names.lookup h=some .local:=by first|exact .inl rfl|exact .inr rfl|assumption):nc j7 θ (storeName c.env h U) L5 ν s:=by
 obtain⟨m,T,hl⟩:=id I.loc;have F:b<m5.length:=by rw[I.len];exact(Ì.mp M).1
 have H:=I.OX
 have l:∀{a:b'}{L:I'},(∃o,s.heap.get? a=some o/\d a=none)->Ķ a s.heap L->hJ c.prog c.w d L:=λ{a L} ha i f ob e=>by
  obtain⟨_,_,V⟩:=ha;refine(I.hok f ob e).stay (λg X x q=>(i.2 g ?_).trans q) (λ_ q=>q) λ_ _ q=>q
  grind
 rcases u with hk|hk
 .refine wpAny_storeName_local hk T (λL Y i=>?_) (by rw[I.ok.kind];rfl)
  obtain⟨oL,_,_,Z,_⟩:=id T;refine E _ ⟨I.ok,I.os,I.bare,⟨λf o e n J u=>?_,λf o e n J u=>?_,I.base.free,λf o e u=>?_,I.base.tups,I.base.ff,I.base.gc⟩,⟨_,Y,λj y v' t C e3=>?_⟩,λy g e=>?_,I.free,I.df,λp hp=>?_,l ⟨oL,Z,I.free⟩ i,by simpa using I.len⟩ ⟨_,i,.inl rfl⟩
  .exact(i.2 f (U' (M' (N' e) I.ok.above))).trans (I.base.keep f o e n J u)
  .obtain⟨sl,t⟩:=I.base.slot f o e n J u
   exact⟨sl,(i.2 f (U' (M' (N' e) I.ok.above))).trans t⟩
  .obtain⟨o',t⟩:=I.base.there f o e u
   exact⟨o',(i.2 f (U' (M' (N' e) I.ok.above))).trans t⟩
  .by_cases K:j=b
   .subst K
    rw[M]at t;cases t
    rw[Ū F]at C;cases C;exact⟨U,r,.inl ⟨hk,by simp⟩⟩
   .rw[ķ (Ç K)]at C
    obtain⟨u',r',q⟩:=hl j y v' t C e3;refine⟨u',r',?_⟩;rcases q with ⟨k,e⟩|⟨k,g,e,z⟩
    .refine .inl ⟨k,?_⟩
     have:y≠h:=λe=>K (tD hN t (e▸M))
     simp[this,e]
    .exact .inr ⟨k,g,e,z.sameBut i (H y g e)⟩
  .obtain⟨X,z⟩:=I.cell y g e
   exact⟨X,z.sameBut i (H y g e)⟩
  .refine fK (I.pin p hp) λe n Q nf B=>?_
   exact⟨(i.2 p.1 Q).trans e,n,Q,nf,B⟩
 .have D:c.fn h=true:=by
   rcases hf with z|z
   .exact z
   .rw[z]at hk;cases hk
  obtain⟨g,x⟩:=I.ok.has h (.inl hk);obtain⟨X,z⟩:=I.cell h g x;refine wpAny_storeName_cell I.ok.kind hk x z (λL O i=>?_)
  refine bx (id z) λoc a0 b0=>?_
  refine E {s with heap:=L} ⟨I.ok,I.os,I.bare,⟨λf o e n J u=>?_,λf o e n J u=>?_,I.base.free,λf o e u=>?_,I.base.tups,I.base.ff,I.base.gc⟩,⟨m,T.sameBut i (Ç (H h g x)),λj y v' t C e3=>?_⟩,λy R e=>?_,I.free,I.df,λp hp=>?_,l ⟨oc,a0,(I.df h g x).2 D⟩ i,by simpa using I.len⟩ ⟨g,i,.inr x⟩
  .exact(i.2 f (U' (M' (N' e) (I.ok.cab h g D x)))).trans (I.base.keep f o e n J u)
  .obtain⟨sl,t⟩:=I.base.slot f o e n J u
   exact⟨sl,(i.2 f (U' (M' (N' e) (I.ok.cab h g D x)))).trans t⟩
  .obtain⟨o',t⟩:=I.base.there f o e u
   exact⟨o',(i.2 f (U' (M' (N' e) (I.ok.cab h g D x)))).trans t⟩
  .by_cases K:j=b
   .subst K
    rw[M]at t;cases t
    rw[Ū F]at C;cases C;exact⟨U,r,.inr ⟨.inl hk,g,x,O⟩⟩
   .rw[ķ (Ç K)]at C
    obtain⟨u',r',q⟩:=hl j y v' t C e3;refine⟨u',r',?_⟩;rcases q with q|⟨k,R,e,z'⟩
    .exact .inl q
    .refine .inr ⟨k,R,e,z'.sameBut i ?_⟩
     rintro rfl;exact K (tD hN t (I.ok.inj _ _ _ e x▸M))
  .by_cases P:R=g
   .subst P;exact⟨_,O⟩
   .obtain⟨w2,z2⟩:=I.cell y R e
    exact⟨w2,z2.sameBut i P⟩
  .refine fK (I.pin p hp) λe n Q nf B=>?_
   refine⟨(i.2 p.1 ?_).trans e,n,Q,nf,B⟩
   grind
theorem mT(I:Inv c G m5 d x)(f:c.N.Nodup)(g:c.N[b]?=some h)(i:Loc c.env.scope h)(r:RelV A U)(a:∀e,Inv c G (m5.set b (some A)) d e->L5 () e)(j:c.fn h=true\/c.env.scope.names.lookup h=some .local:=by first|exact .inl rfl|exact .inr rfl|assumption):nc j7 θ (storeName c.env h U) L5 ν x:=
 pG I f g i r (λe k _=>a e k) j
variable{N8:g'}
theorem Inv.call'(I:Inv c G m5 d x)(h:N8.os=x.os)(u:Un (frs c.stack) z d υ x.heap N8.heap)(f:hJ c.prog c.w υ N8.heap)(i:ą N8.gens)(g:∀b∈z,(b∈c.ex\/c.s₀.heap.objs.size<=b)/\b≠c.env.locals/\(∀e a,c.env.cells.lookup e=some a->a≠b)/\∀p∈c.pn++G,p.1≠b):Inv c G m5 υ N8:=by
 obtain⟨j,k,l,m,n⟩:=N8;subst h;exact I.call u f i g
abbrev XK:=f'->Option b'->Hp->Prop
abbrev St:=List (Option V)
abbrev VK:=V->Hp->Prop
abbrev TE:=St->Hp->VK->Prop
abbrev TT:=St->Hp->(Bool->Hp->Prop)->Prop
abbrev TA:=St->Hp->(List V->Hp->Prop)->Prop
structure Ends where
 nx:St->Hp->Prop
 rt:VK
 bk:St->Hp->Prop:=λ_ _=>False
 ct:St->Hp->Prop:=λ_ _=>False
abbrev TS:=Ends->St->Hp->Prop
def EP(X)(pins:List (b'×Obj))(b:St)(Q:VK)(u c):=∃v a,Inv X pins b a c/\RelV v u/\Q v a
def TP(X)(pins:List (b'×Obj))(c:St)(Q:Bool->Hp->Prop)(b d):=∃a,Inv X pins c a d/\Q b a
def AP(X)(pins:List (b'×Obj))(c:St)(Q:List V->Hp->Prop)(d:List f')(e):=∃a b,Inv X pins c b e/\Vals a d/\Q a b
def SP(X)(pins:List (b'×Obj))(D:Ends)(f:ū)(c:g'):=
 match f with
 |.next=>∃a b,Inv X pins a b c/\D.nx a b
 |.brk=>∃a b,Inv X pins a b c/\D.bk a b
 |.cont=>∃a b,Inv X pins a b c/\D.ct a b
 |.ret u=>∃v a b,Inv X pins a b c/\RelV v u/\D.rt v b
def PE(X e)(t:TE):=
 ∀pins s (a:St) H Q,Inv X pins a H s->t a H Q->nc (p' X.prog X.w) X.A (eval e X.env) (EP X pins a Q) X.xe s
def PT(X e)(t:TT):=
 ∀pins s (a:St) H Q,Inv X pins a H s->t a H Q->nc (p' X.prog X.w) X.A (Ŭ e X.env (eval e X.env)) (TP X pins a Q) X.xe s
def PW(X e)(t:TT):=
 ∀a pins s (b:St) H Q,Inv X pins b H s->t b H Q->nc (p' X.prog X.w) X.A (Ŭ e X.env a) (TP X pins b Q) X.xe s
variable{T5:TT}{n:A'}
theorem PW.pt(h:PW c n T5):PT c n T5:=h _
def PA(X)(c:List A')(t:TA):=
 ∀a pins s (b:St) H Q,Inv X pins b H s->t b H Q->nc (p' X.prog X.w) X.A (Ϛ (À a (D' c X.env))) (AP X pins b Q) X.xe s
def PS(X st)(t:TS):=
 ∀pins s (a:St) H D,Inv X pins a H s->t D a H->nc (p' X.prog X.w) X.A (exec st X.env) (SP X pins D) X.xe s
def jf(X)(st:List J')(t:TS):=
 ∀pins s (a:St) H D,Inv X pins a H s->t D a H->nc (p' X.prog X.w) X.A (ĸ st X.env) (SP X pins D) X.xe s
theorem bV{α}{t:í α}{Q c}(h:nc j7 θ t Q ν x)(d:∀a x,Q a x->c a x):nc j7 θ t c ν x:=à h d λ_ _ b=>b
noncomputable def Wm(i:Nat):TE:=λa H Q=>∃v,a[i]?=some (some v)/\Q v H
noncomputable def tC(v:V):TE:=λ_ H Q=>Q v H
variable{o:T'}
theorem mU(n:c.N[b]?=some h)(p:vx c.env.scope h)(g:(h==("__debug__"))=false:=by decide)(i:(h==("__classdict__"))=false:=by decide):PE c (.Name h o) (Wm b):=by
 intro pins s q H Q I a;obtain⟨v,e,a⟩:=a;refine bx I.loc λm t w=>?_
 obtain⟨u,r,l⟩:=w b h v n e p;have f:EP c _ q Q u s:=⟨v,H,I,r,a⟩;rcases l with ⟨hk,x⟩|⟨hk,j,k,d⟩
 .exact aco (wpAny_loadName_local I.ok.kind hk t x f) g
 .rcases hk with hk|hk
  .exact aco (wpAny_loadName_cell I.ok.kind hk k d f) g
  .exact aco (wpAny_loadName_free I.ok.kind hk k d f i) g
theorem Bx{i j pos}:PE c (.Constant (.int i) j pos) (tC (.int i)):=λ_ _ _ H _ I h=>wpAny_Constant_int ⟨.int i,H,I.tok _,⟨_,rfl⟩,h⟩
theorem OY{b j pos}:PE c (.Constant (.bool b) j pos) (tC (.bl b)):=λ_ _ _ H _ I h=>Constant_bool ⟨.bl b,H,I,rfl,h⟩
theorem Lc{x j pos}:PE c (.Constant (.str x) j pos) (tC (.str x)):=λ_ _ _ H _ I h=>Calls.Constant_str ⟨.str x,H,I.tok _,⟨_,rfl⟩,h⟩
def Gl(X:Cx)(x):=X.env.kindOf x=some .globalImplicit
variable{D5:f'->g'->Prop}{X:St}
theorem fL(I:Inv c G X d x)(b:Gl c h)(e:c.mg h=some U)(a:D5 U x)(f:(h==("__debug__"))=false:=by decide):nc (p' c.prog c.w) c.A (eval (.Name h o) c.env) D5 ν x:=
 adO I.ok.kind b (Calls.loadGlobal_global (by rw[I.ok.glob];exact I.mod.glob.keeps I.bk) e a) f
theorem gx(I:Inv c G X d x)(b:Gl c h)(e:c.mg h=none)(f:Č h=some U)(a:D5 U x)(g:h≠"__name__":=by decide)(i:(h==("__debug__"))=false:=by decide):nc (p' c.prog c.w) c.A (eval (.Name h o) c.env) D5 ν x:=by
 obtain⟨l,j,k⟩:=I.mod.blt;exact adO I.ok.kind b (Calls.loadGlobal_builtin (by rw[I.ok.glob];exact I.mod.glob.keeps I.bk) e (by rw[I.ok.blt];exact j.keeps I.bk) ((k h g).trans f) a) i
theorem FV(b:Gl c h)(d:c.mg h=some U)(r:RelV A U)(e:(h==("__debug__"))=false:=by decide):PE c (.Name h o) (tC A):=
 λ_ _ _ H _ I a=>fL I b d ⟨A,H,I,r,a⟩ e
theorem FW(b:Gl c h)(d:c.mg h=none)(e:Č h=some U)(r:RelV A U)(f:h≠"__name__":=by decide)(g:(h==("__debug__"))=false:=by decide):PE c (.Name h o) (tC A):=
 λ_ _ _ H _ I a=>gx I b d e ⟨A,H,I,r,a⟩ f g
noncomputable def Wn(t u:TT):TT:=λa H Q=>t a H λc b=>if c=true then u a b Q else Q false b
noncomputable def tOr(t u:TT):TT:=λa H Q=>t a H λc b=>if c=true then Q true b else u a b Q
variable{L8:TT}{Q:List A'}{R:A'}
theorem pw_and(i:PT c n T5)(j:PW c (.BoolOp .And (R::Q) o) L8):PW c (.BoolOp .And (n::R::Q) o) (Wn T5 L8):=by
 intro k pins s d H a I h;refine isTrue_and (bV (i _ s d H _ I h) λb l  m =>bx m λe f g=>?_)
 cases b with
 |true=>exact j k _ l d e a f g
 |false=>exact⟨e,f,g⟩
theorem pw_or(i:PT c n T5)(j:PW c (.BoolOp .Or (R::Q) o) L8):PW c (.BoolOp .Or (n::R::Q) o) (tOr T5 L8):=by
 intro k pins s d H a I h;refine isTrue_or (bV (i _ s d H _ I h) λb l  m =>bx m λe f g=>?_)
 cases b with
 |true=>exact⟨e,f,g⟩
 |false=>exact j k _ l d e a f g
variable{ψ:TE}
theorem Ld{op}(h:PE c n ψ):PE c (.BoolOp op [n] o) ψ:=λpins s a H Q I b=>BoolOp_one (h _ s a H Q I b)
noncomputable def Ou(t:TT)(d tb:TE):TE:=λa H Q=>t a H λc b=>if c=true then d a b Q else tb a b Q
variable{D4:A'}{L4:TE}
theorem By(i:PT c D4 T5)(j:PE c n ψ)(k:PE c R L4):PE c (.IfExp D4 n R o) (Ou T5 ψ L4):=by
 intro pins s a H Q I h;refine wpAny_IfExp (bV (i _ s a H _ I h) λd b l=>?_);obtain⟨e,f,g⟩:=l
 cases d with
 |true=>exact j _ b a e Q f g
 |false=>exact k _ b a e Q f g
def ly(K:K')(H a)(xs:List V):=
 Rd H a (.lst xs) \/
  ∃o b n,K.lookup a=some o/\o.cls=.type "list"/\o.dict=none/\o.data=.seq b n/\b.size<=Q'/\Vals xs b.toList
def vz(K:K')(H a)(xs:List V):=
 Rd H a (.tup xs) \/
  ∃o b n,K.lookup a=some o/\o.cls=.type "tuple"/\o.data=.seq b n/\b.size<=Q'/\Vals xs b.toList
noncomputable def Wo:f'->Option V
 |.none=>some .non
 |.bool b=>some (.bl b)
 |.int i _=>some (.int i)
 |.str x _=>some (.str x)
 |.bytes b _=>some (.Ot b)
 |.float b _=>some (.flt b)
 |.ref a=>some (.ref a)
 |.type n=>some (.ty n)
 |_=>none
theorem RelV.abs(r:RelV A U):Wo U=some A:=by
 cases A with
 |non=>cases r;rfl
 |bl _=>cases r;rfl
 |int _=>obtain⟨t,rfl⟩:=r;rfl
 |str _=>obtain⟨t,rfl⟩:=r;rfl
 |Ot _=>obtain⟨t,rfl⟩:=r;rfl
 |flt _=>obtain⟨t,rfl⟩:=r;rfl
 |ref _=>cases r;rfl
 |ty _=>cases r;rfl
def RelV.inj{x y u}(r:RelV x u)(q:RelV y u):=ϛ (r.abs.symm.trans q.abs)
theorem Vals.inj:∀{xs a}{b},Vals xs b->Vals a b->xs=a
 |_,_,_,.nil,.nil=>rfl
 |_,_,_,.cons r t,.cons c d=>by rw[r.inj c,Vals.inj t d]
variable{S:List V}
theorem Inv.list(I:Inv c G X d x)(h:ly c.K d j S):∃a,Vals S a/\PlainL x.heap j a.toArray/\S.length<=Q':=by
 rcases h with h|⟨o,a,n,f,g,i,k,l,r⟩
 .refine xa (h.ok I.hok) λz b=>cg b λa n r e=>⟨_,r,⟨_,n,e,rfl,rfl,rfl⟩,z⟩
 .refine⟨_,r,⟨o,n,I.fF j o f,g,i,by omega⟩,?_⟩
  have e:=r.length
  simp_all
theorem Inv.tuple(I:Inv c G X d x)(h:vz c.K d j S):∃a,Vals S a/\Ĥ x.heap j a.toArray/\S.length<=Q':=by
 rcases h with h|⟨o,a,n,b,f,g,i,r⟩
 .obtain⟨z,a,r,p⟩:=h.ok I.hok
  exact⟨_,r,p,z⟩
 .refine⟨_,r,⟨o,I.fF j o b,f,n,by omega⟩,?_⟩
  have e:=r.length
  simp_all
variable{y6:List V}
theorem Inv.tE(I:Inv c G X d x)(h:ly c.K d j S)(h':ly c.K d j y6):S=y6:=by
 obtain⟨b,r,⟨o,n,e,_,_,f⟩,_⟩:=I.list h;obtain⟨a,g,⟨i,k,l,_,_,m⟩,_⟩:=I.list h';have:b=a:=by simp_all
 subst this;exact r.inj g
theorem Inv.zP(I:Inv c G X d x)(h:vz c.K d j S)(h':vz c.K d j y6):S=y6:=by
 obtain⟨b,r,⟨o,e,_,n,f⟩,_⟩:=I.tuple h;obtain⟨a,g,⟨i,k,_,l,m⟩,_⟩:=I.tuple h';have:b=a:=by simp_all
 subst this;exact r.inj g
abbrev Cx.wish(X:Cx)(E:f'->g'->Prop):={X with xe:=E}
abbrev Cx.lU(X:Cx):=X.wish λ_ _=>False
theorem Cx.Ok.wish{X:Cx}(ok:X.Ok)(E):(X.wish E).Ok:=
 ⟨ok.mod,ok.kind,ok.glob,ok.blt,ok.above,ok.inj,ok.has,ok.cab,ok.hd,ok.frames,ok.FH,ok.FU,ok.bs,ok.vy,ok.oY,ok.oZ,ok.gw,ok.zO⟩
theorem Cx.Ok.fg(ok:(c.wish ν).Ok):c.Ok:=
 ⟨ok.mod,ok.kind,ok.glob,ok.blt,ok.above,ok.inj,ok.has,ok.cab,ok.hd,ok.frames,ok.FH,ok.FU,ok.bs,ok.vy,ok.oY,ok.oZ,ok.gw,ok.zO⟩
theorem Inv.wish{X pins}{a:St}{H s}(I:Inv X pins a H s)(E):Inv (X.wish E) pins a H s:=⟨I.ok.wish E,I.os,I.bare,I.base,I.loc,I.cell,I.free,I.df,I.pin,I.hok,I.len⟩
theorem Inv.fg{X pins}{a:St}{H s E}(I:Inv (X.wish E) pins a H s):Inv X pins a H s:=⟨I.ok.fg,I.os,I.bare,I.base,I.loc,I.cell,I.free,I.df,I.pin,I.hok,I.len⟩
theorem SP.fg{X pins E D f c}(h:SP (X.wish E) pins D f c):SP X pins D f c:=by
 cases f with
 |next=>obtain⟨a,b,I,q⟩:=h;exact⟨_,b,I.fg,q⟩
 |brk=>obtain⟨a,b,I,q⟩:=h;exact⟨_,b,I.fg,q⟩
 |cont=>obtain⟨a,b,I,q⟩:=h;exact⟨_,b,I.fg,q⟩
 |ret u=>refine cX h λv a b I r q=>⟨v,_,b,I.fg,r,q⟩
theorem jf.lU{X st t}(h:jf X.lU st t):jf X st t:=λpins s a H D I b=>
 à (h _ s a H D (I.wish _) b) (λ_ _ q=>q.fg) (by simp)
noncomputable def Wq(t u:TS):TS:=λD a H=>t {D with nx:=u D} a H
variable{F5:List J'}{N7 p9:TS}{Θ:J'}
theorem Bz(a:PS c Θ N7)(b:jf c F5 p9):jf c (Θ::F5) (Wq N7 p9):=by
 intro pins s d H D I h;refine Ϝ (bV (a _ s d H _ I h) λf e q=>?_)
 cases f with
 |next=>
  refine cg q λg i j q=>b _ e _ i D j q
 |ret v=>exact q
 |brk=>exact q
 |cont=>exact q
theorem xM(a:PS c Θ N7):jf c [Θ] N7:=by
 intro pins s b H D I h;refine Ϝ (bV (a _ s b H D I h) λf d q=>?_)
 cases f with
 |next=>exact Ĺ q
 |ret v=>exact q
 |brk=>exact q
 |cont=>exact q
theorem Inv.quiet(I:Inv c G X d x):interactive c.env=false:=by simp[interactive,I.ok.kind]
noncomputable def OZ(b:TE):TS:=λD a H=>b a H λ_ c=>D.nx a c
theorem xO(b:PE c n ψ)(d:ï n none o.line c.env=pure false:=by rfl):PS c (.Expr n o) (OZ ψ):=by
 intro pins s a H D I h;exact adP (bV (b _ s a H _ I h) λv j  e =>aP e λx f g k i=>⟨a,f,g,i⟩) I.quiet d
noncomputable def O_:TS:=λD _ H=>D.rt .non H
theorem FX:PS c (.Return none o) O_:=λ_ _ a H _ I h=>wpAny_Return_none ⟨.non,a,H,I,rfl,h⟩
noncomputable def Wr(c:TT)(t u:TS):TS:=λD a H=>c a H λb d=>if b=true then t D a d else u D a d
variable{z9:List J'}
theorem Pa(i:PT c n T5)(j:jf c F5 N7)(k:jf c z9 p9):PS c (.If n F5 z9 o) (Wr T5 N7 p9):=by
 intro pins s a H D I h;refine wpAny_If (bV (i _ s a H _ I h) λd b l=>?_);obtain⟨e,f,g⟩:=l
 cases d with
 |true=>exact j _ b a e D f g
 |false=>exact k _ b a e D f g
abbrev TG:=V->St->Hp->(St->Hp->Prop)->Prop
abbrev Jx:=List V->St->Hp->(St->Hp->Prop)->Prop
def PG(X a)(t:TG):=
 ∀pins s (c:St) H v u Q,Inv X pins c H s->RelV v u->t v c H Q ->
  nc (p' X.prog X.w) X.A (ϝ a X.env u) (λ_ e=>∃b d,Inv X pins b d e/\Q b d) X.xe s
def Pb(X)(f:List A')(t:Jx):=
 ∀pins s (b:St) H c d Q,Inv X pins b H s->Vals c d->t c b H Q ->
  nc (p' X.prog X.w) X.A (assignInOrder ((č f X.env).map (·.2)) d) (λ_ g=>∃a e,Inv X pins a e g/\Q a e) X.xe s
abbrev Ws:=V->V->V->Hp->(Hp->Prop)->Prop
def Wt(X)(t:Ws):=
 ∀pins s (a:St) H o i v b c u Q,Inv X pins a H s->RelV o b->RelV i c->RelV v u->t o i v H Q ->
  nc (p' X.prog X.w) X.A (setItem b c u) (λ_ e=>∃d,Inv X pins a d e/\Q d) X.xe s
noncomputable def jC(i:Nat):TG:=λv a H Q=>Q (a.set i (some v)) H
theorem jD(d:c.N.Nodup)(e:c.N[b]?=some h)(f:Loc c.env.scope h)(g:c.fn h=true\/c.env.scope.names.lookup h=some .local:=by first|exact .inl rfl|exact .inr rfl|assumption):PG c (.Name h o) (jC b):=by
 intro pins s j H v u Q I r a;exact adQ (mT I d e f r (λk i=>⟨_,H,i,a⟩) g)
noncomputable def Pc:Jx:=λa b H Q=>a=[]/\Q b H
noncomputable def Jy(t:TG)(u:Jx):Jx:=λb c H Q=>∃v r,b=v::r/\t v c H λa d=>u r a d Q
theorem xP:Pb c [] Pc:=by
 intro pins s a H b d Q I r h;obtain⟨e,h⟩:=h;exact assignInOrder_nil ⟨a,H,I,h⟩
variable{Y6:TG}
theorem mV{u}(b:PG c n Y6)(d:Pb c Q u)(e:(č (n::Q) c.env).map (·.2)=ϝ n c.env::(č Q c.env).map (·.2):=by rfl):Pb c (n::Q) (Jy Y6 u):=by
 intro pins s f H p q a I r h;obtain⟨v,vr,g,h⟩:=h;subst g;cases r with
 |cons r i=>
  rw[e];refine assignInOrder_cons (bV (b _ s f H _ _ _ I r h) λ_ j  k =>cg k λ_ l m o=>d _ j _ l _ _ a m i o)
noncomputable def vA(K:K')(n:Nat)(t:Jx):TG:=λv c H Q=>∃a b,v=.ref a/\vz K H a b/\b.length=n/\t b c H Q
theorem BA{t}(k:c.calm=true)(h:Pb c Q t)(l:(č Q c.env).length=w:=by rfl)(i:(č Q c.env).findIdx? (·.1)=none:=by rfl):PG c (.Tuple Q b o) (vA c.K w t):=by
 intro pins s m H v u d I r j;obtain⟨a,n,p,q,x,j⟩:=j;subst p;cases r;refine ay (I.tuple q) λy z A C=>?_
 refine assign_Tuple_tuple (I.ok.hd k) A (by simp[l,←x,z.length]) i λD B=>?_
 exact h _ _ m H n _ d (I.kept λf g e=>B f g (U' (N' e)) e) (by omega) j
noncomputable def Le(b:TE)(g:TG):TS:=λD a H=>b a H λx c=>g x a c D.nx
theorem Lf(b:PE c R ψ)(d:PG c n Y6)(e:swapsWithSole [n] R o.line c.env=pure false:=by rfl)(f:swappedStores [n] R c.env=pure none:=by rfl)(g:(č [n] c.env).map (·.2)=[ϝ n c.env]:=by rfl):PS c (.Assign [n] R o) (Le ψ Y6):=by
 intro pins s a H D I h;refine wpAny_Assign_stores (bV (b _ s a H _ I h) λv i j=>?_) e f;refine aP j λx k l m p=>?_
 rw[g];exact bV (d _ i a k x v _ l m p) λ_ r q=>q
variable{P:T'}
theorem BB(d:c.N.Nodup)(e:c.N[b]?=some h)(f:Loc c.env.scope h)(g:PE c n ψ)(i:ï n (some (.Name h P)) o.line c.env=pure false:=by rfl)(j:c.fn h=true\/c.env.scope.names.lookup h=some .local:=by first|exact .inl rfl|exact .inr rfl|assumption):
  PS c (.Assign [.Name h P] n o) (Le ψ (jC b)):=by
 intro pins s k H D I a;refine wpAny_Assign_Name (bV (g _ s k H _ I a) λv u  l =>aP l λy m p q r=>mT p d e f q (λw t=>⟨_,m,t,r⟩) j) i
noncomputable def Lg(c:TT)(tb:TS):TS:=λD a H=>∃W:Nat->St->Hp->Prop,(∃m,W m a H)/\∀m a H,W m a H ->
 c a H λb e=>if b=true then ∃N,(∀d f,N d f->∃g,g<m/\W g d f)/\tb {D with nx:=N,ct:=N,bk:=D.nx} a e else D.nx a e
theorem BC(r:ŭ (p' c.prog c.w) c.A c.env c.xe)(B:PT c n T5)(C:jf c F5 N7):PS c (.While n F5 [] o) (Lg T5 N7):=by
 intro pins s E H D I h;obtain⟨W,⟨F,G⟩,d⟩:=h;refine wpAny_While (codeAny_whileLoop (λa J=>∃e t,Inv c _ e t J/\W a e t) ?_ F ⟨E,H,I,G⟩)
 rintro a K ⟨L,u,M,O⟩;refine ĺ r (bV (B _ K _ u _ M (d a _ u O)) λb P Q=>?_);refine bx Q λx y i=>?_
 cases b with
 |true=>
  refine bx i λN z i=>?_
  refine ĺ r (bV (C _ P _ x _ y i) λf R j=>?_)
  cases f with
  |next=>
   obtain⟨k,g,I3,l⟩:=j;obtain⟨m,p,q⟩:=z _ g l;exact⟨m,p,_,g,I3,q⟩
  |cont=>
   obtain⟨k,g,I3,l⟩:=j;obtain⟨m,p,q⟩:=z _ g l;exact⟨m,p,_,g,I3,q⟩
  |brk=>exact j
  |ret v=>exact j
 |false=>
  exact Ĺ ⟨_,x,y,i⟩
structure It where
 go:Nat->Hp->Prop
 Ub:Nat->Hp->V->Hp->Prop
 stop:Nat->Hp->Prop
def lV(X:Cx)(pins:List (b'×Obj))(H:Hp)(b):=
 H b=none/\b≠X.env.locals/\b∉X.fs/\(b∈X.ex\/X.s₀.heap.objs.size<=b)/\(∀x c,X.env.cells.lookup x=some c->c≠b)/\∀p∈X.pn++pins,p.1≠b
theorem Inv.vB(I:Inv c G X d x)(f:x.heap.objs.size<=j)(g:υ j=none):lV c G υ j:=by
 refine⟨g,ä (M' I.lt f),I.Wl f,.inr (B' I.sz f),λa b e z=>?_,λp h z=>?_⟩
 .obtain⟨v,q⟩:=I.cell a b e
  exact absurd (M' q.lt (by rwa[z])) (Û _)
 .exact absurd (M' (N' (I.pin p h).1) (by rwa[z])) (Û _)
structure Turn(P:Á)(w:W')(K:K')(tg:A')(J:It)(fp:List b')(it:b')(tn:Nat->I'->Prop):Prop where
 mem:it∈fp
 obj:∀i h,tn i h->∀b∈fp,∃o,h.get? b=some o/\∀v,o.data≠.cell v
 keep:∀i h h',tn i h->(∀b∈fp,∀o,h.get? b=some o->h'.get? b=some o)->tn i h'
 item:∀(X:Cx),X.prog=P->X.w=w->X.K=K->X.calm=true->∀(i:Nat) (pins:List (b'×Obj)) (s:g') (σ:St) (H:Hp) (E:f'->g'->Prop),Inv X pins σ H s->(∀b∈fp,lV X pins H b)->tn i s.heap->J.go i H ->
  nc (p' P w) X.A (Ć (.ref it)) (λr s1=>∃u,r=some u /\
   nc (p' P w) X.A (acp tg (.ref it) u) (λ_ s2=>∃x H',Inv X pins σ H' s2/\RelV x u/\J.Ub i H x H'/\tn (i+1) s2.heap/\∀b∈fp,H' b=none) E s1) E s
 done:∀(X:Cx),X.prog=P->X.w=w->X.K=K->X.calm=true->∀(i:Nat) (pins:List (b'×Obj)) (s:g') (σ:St) (H:Hp) (E:f'->g'->Prop),Inv X pins σ H s->(∀b∈fp,lV X pins H b)->tn i s.heap->J.stop i H ->
  nc (p' P w) X.A (Ć (.ref it)) (λr s1=>r=none/\Inv X pins σ H s1) E s
 self:∀(A:Æ) (i:Nat) (s:g') (Q:f'->g'->Prop) (E:f'->g'->Prop),tn i s.heap->Q (.ref it) s->nc (p' P w) A (ė (.ref it)) Q E s
abbrev TI:=St->Hp->(It->Hp->Prop)->Prop
def PIE(X)(pins:List (b'×Obj))(h:St)(i)(R:It->Hp->Prop)(a:f')(d):=
 ∃e f g J c,a=.ref e/\Inv X pins h c d/\Turn X.prog X.w X.K i J f e g/\g 0 d.heap/\(∀b∈f,lV X pins c b)/\R J c
def PI(X b iter)(c:TI):=
 ∀pins s (a:St) H R,Inv X pins a H s->c a H R ->
  nc (p' X.prog X.w) X.A (eval iter X.env) (λv d=>nc (p' X.prog X.w) X.A (ė v) (PIE X pins a b R) X.xe d) X.xe s
variable{B5:Array f'}{i6:String}
theorem pH(b:x.heap.get? j=some i0)(c:i0.cls=.type i6)(d:i0.data=.fields B5)(e:["enumerate","zip","dict_itemiterator","dict_reverseitemiterator","odict_iterator","itertools.zip_longest","itertools.pairwise"].contains i6=false)(a:L5 () x):nc j7 θ (acp n (.ref j) U) L5 ν x:=by
  cases n<;>first
    |exact F' a
    | (cases U<;>first
        |exact F' a
        | (refine j' (acq b ?_)
           rw[c,d]
           show nc j7 θ (if (["enumerate","zip","dict_itemiterator","dict_reverseitemiterator","odict_iterator","itertools.zip_longest","itertools.pairwise"].contains i6&&B5[0]?==some _)=true then _ else _) L5 ν x
           rw[if_neg (by grind)]
           exact F' a))
noncomputable def Wu(K:K')(a:b'):It:=
 ⟨λi H=>∃b x,ly K H a b/\b[i]?=some x,λi H x c=>c=H/\∀b,ly K H a b->b[i]?=some x,λi H=>∃b,ly K H a b/\b.length<=i⟩
noncomputable def Itt(K:K')(a:b'):It:=
 ⟨λi H=>∃b x,vz K H a b/\b[i]?=some x,λi H x c=>c=H/\∀b,vz K H a b->b[i]?=some x,λi H=>∃b,vz K H a b/\b.length<=i⟩
noncomputable def Wv(a:Int)(n:Nat):It:=⟨λi _=>i<n,λi H x b=>b=H/\x=.int (a+i),λi _=>n<=i⟩
variable{O:K'}
theorem zQ(a j):Turn I M O n (Wu O a) [j] j (λi h=>h.IsListIter j a i) where
 mem:=by simp
 obj:=λi h g b l=>by
  refine ay g λo e c d=>?_
  simp_all
 keep:=λi h L g k=>g.at λo e=>k j (by simp) o e
 item:=by
  intro X t w y N i pins s P H E f q g z;subst t w y;refine cg z λQ x r A=>?_
  refine ay (f.list r) λB C p R=>?_
  refine bx (C.get A) λu S T=>?_
  refine cW (q j (by simp)) λD F U G J K=>?_
  refine adR g p.isList (by simpa using S) λL m V=>?_
  refine ay (id m) λo e c d=>?_
  exact⟨u,rfl,pH e c d (by decide) ⟨x,H,(f.turned (λb o l e=>(V.2 b l).trans e) D F G J K),T,⟨rfl,λys Y=>by rwa[f.tE Y r]⟩,m,λb l=>(q b l).1⟩⟩
 done:=by
  intro X t w y N i pins s P H E f q g z;subst t w y;refine bx z λQ r A=>?_
  refine ay (f.list r) λB C p R=>?_
  refine cW (q j (by simp)) λD F U G J K=>?_
  have Z:=C.length;exact adS (f.ok.hd N) g p.isList (by simp;exact B' (R' Z.symm) A) λL eb=>⟨rfl,f.turned (λb o l e=>eb b o l e) D F G J K⟩
 self:=λ_ _ _ _ _ g h=>wpAny_pyIter_listiter g h
theorem vC(a j):Turn I M O n (Itt O a) [j] j (λi h=>h.IsTupleIter j a i) where
 mem:=by simp
 obj:=λi h g b m=>by
  refine ay g λo e c d=>?_
  simp_all
 keep:=λi h L g k=>g.at (by simp_all)
 item:=by
  intro X r t w N i pins s P H E f y g z;subst r t w;refine cg z λQ x q A=>?_
  refine ay (f.tuple q) λB C p R=>?_
  refine bx (C.get A) λu S T=>?_
  refine cW (y j (by simp)) λD F U G J K=>?_
  refine wpAny_pyNext_tuple_item g (p) (by simpa using S) λL l V=>?_
  refine ay (id l) λo e c d=>?_
  exact⟨u,rfl,pH e c d (by decide) ⟨x,H,(f.turned (b:=s.toks) (λb o m e=>(V.2 b m).trans e) D F G J K),T,⟨rfl,λys Y=>by rwa[f.zP Y q]⟩,l,by simp_all⟩⟩
 done:=by
  intro X r t w N i pins s P H E f y g z;subst r t w;refine bx z λQ q A=>?_
  refine ay (f.tuple q) λB C p R=>?_
  refine cW (y j (by simp)) λD F U G J K=>?_
  have Z:=C.length;exact wpAny_pyNext_tuple_end (f.ok.hd N) g (p) (by simp;exact B' (R' Z.symm) A) λL eb=>⟨rfl,f.turned (λb o m e=>eb b o m e) D F G J K⟩
 self:=λ_ _ _ _ _ g h=>wpAny_pyIter_tupleiter g h
theorem vD{w}(f j c):Turn I w O n (Wv j c) [f] f (λi h=>IsRangeIter h f (j+i*1) (c - i) 1) where
 mem:=by simp
 obj:=λi h d b l=>by
  simp_all
 keep:=λi h A d k=>k f (by simp) _ d
 item:=by
  intro X B C D m i pins s F H E a p d q;subst B C D;refine cW (p f (by simp)) λr u G x y z=>?_
  have W:=Walks.range (prog:=X.prog) (w:=X.w) (a.ok.hd m) f j 1 c;refine W.item i s _ _ q d λv A M J g K=>?_
  obtain⟨t,rfl⟩:=J;refine⟨_,rfl,pH g rfl rfl (by decide) ⟨.int _,H,(a.turned (λb o l e=>K b o (by simp_all) e) r u x y z),⟨t,?_⟩,⟨rfl,rfl⟩,g,by simp_all⟩⟩
  simp
 done:=by
  intro X B C D m i pins s F H E a p d q;refine cW (p f (by simp)) λr u G x y z=>?_
  exact wpAny_pyNext_range_end (a.ok.hd m) d (by have:c<=i:=q;omega) λA L=>⟨rfl,a.turned (λb o l e=>L b o l e) r u x y z⟩
 self:=λ_ _ _ _ _ d h=>wpAny_pyIter_rangeiter d h
variable{J P0:Int}{o9:Ò}{x8:It->Hp->Prop}
theorem BD{s u v}(I:Inv c G X d s)(g : -(2 ^ 62)<=J)(h:J<2 ^ 62)(i : -(2 ^ 62)<=P0)(j:P0<2 ^ 62)(q:x8 (Wv J (P0 - J).toNat) d):nc (p' c.prog c.w) c.A (ė (.ref s.heap.objs.size)) (PIE c G X n x8) ν {s with heap:=s.heap.push {cls:=.type "range",data:=.fields #[.int J o9,.int P0 u,.int 1 v]},toks:=b}:=by
 refine wpAny_pyIter_range (IsRange.new ..) (small_one g h i j) ?_;have f:Inv c _ X d {s with heap:=s.heap.push {cls:=.type "range",data:=.fields #[.int J o9,.int P0 u,.int 1 v]},toks:=b}:=I.kept λa o e=>X' _ e
 refine⟨_,_,_,_,d,rfl,
  f.kept λa o e=>X' _ e,vD _ J _,?_,λa m=>?_,q⟩
 .have k:J+((0:Nat))*1=J:=by simp
  have l:(((P0 - J).toNat)) - ((0:Nat))=af5 J P0 1:=by rw[rangeSize_one];grind
  rw[k,l];exact Ó _ rfl
 .have e:a=(s.heap.push {cls:=.type "range",data:=.fields #[.int J o9,.int P0 u,.int 1 v]}).objs.size:=by simp_all
  subst e;exact f.vB (O' _) (f.hok.fresh (O' _))
def Pd(a:TA):TI:=λb H R=>a b H λc d=>∃j,c=[.int j] /\ -(2 ^ 62)<=j/\j<2 ^ 62/\R (Wv 0 j.toNat) d
variable{E5:TA}
theorem zR(d:Gl c "range")(f:c.mg "range"=none)(g:PA c [R] E5)(i:D' [R] c.env=[(false,eval R c.env)]:=by rfl):PI c n (.Call (.Name "range" o) [R] [] P) (Pd E5):=by
 intro pins s k H b I h;refine Call_ (gx I d f boot_range (Ļ (bV (g _ _ s k H _ I h) λx y l=>?_) i rfl));refine aP l λz A m p a=>?_
 obtain⟨j,e,a,u,q⟩:=a;subst e;cases p with
 |cons r w=>
  cases w;obtain⟨t,rfl⟩:=r;exact call_range_1 (BD m (by decide) (by decide) a u (by simp_all))
noncomputable def Ww(f:TI)(g:TG)(tb:TS):TS:=λD a H=>f a H λJ h=>∃W:Nat->Nat->St->Hp->Prop,(∃m,W 0 m a h)/\∀i m a H,W i m a H ->
 (J.stop i H/\D.nx a H)\/(J.go i H/\∃N,(∀b c,N b c->∃e,e<m/\W (i+1) e b c)/\∀x c,J.Ub i H x c->g x a c λd j=>tb {D with nx:=N,ct:=N,bk:=D.nx} d j)
noncomputable def qU(fp:List b')(h:I'):=fp.filterMap λb=>(h.get? b).map λo=>(b,o)
theorem gy(a:j∈z)(e:L.get? j=some i0):(j,i0)∈qU z L:=adT.mpr ⟨j,a,by rw[e];rfl⟩
theorem zT{p}(a:p∈qU z L):p.1∈z/\L.get? p.1=some p.2:=by
 obtain⟨b,c,e⟩:=adT.mp a;cases q:L.get? b with
 |none=>simp_all
 |some o=>
  grind
theorem Inv.pinned(I:Inv c G X d x)(g:∀b∈z,lV c G d b)(j:∀b∈z,∃o,x.heap.get? b=some o/\∀v,o.data≠.cell v):Inv c (G++qU z x.heap) X d x:=
 I.xJ λp h=>(Ô.mp h).elim (λa=>I.pin p (Ù _ a)) λa=>by
  obtain⟨i,e⟩:=zT a;refine kH (g _ i) λk l f=>xa f λm _=>?_
  grind
theorem Inv.jE{pl}(I:Inv c (G++pl) X d x):Inv c G X d x:=I.xJ λp a=>I.pin p (by simp_all)
variable{M8:TI}
theorem Lh(C:ŭ (p' c.prog c.w) c.A c.env c.xe)(Y:c.calm=true)(hi:PI c n R M8)(hg:PG c n Y6)(j:jf c F5 N7)(hs:∀x,Ď R c.env x=pure x:=by intro _;rfl):PS c (.For n R F5 [] o) (Ww M8 Y6 N7):=by
 intro pins s Z H D I h;refine wpAny_For (bV (hi pins s Z H _ I h) λv s1 h1=>bV h1 λa0 s2 h2=>?_) hs
 obtain⟨it,M,tn,J,H2,e,I2,T,P,f2,W,⟨m0,w0⟩,E⟩:=h2;subst e;have k:∀{y:Hp},(∀b∈M,y b=none)->∀b∈M,lV c pins y b:=λhn b j=>⟨hn b j,(f2 b j).2⟩
 refine codeAny_forLoop_any (λg s'=>∃i l y,Inv c pins l y s'/\tn i s'.heap/\(∀b∈M,y b=none)/\W i g l y) ?_ m0 ⟨0,Z,H2,I2,P,λb j=>(f2 b j).1,w0⟩
 rintro g s3 ⟨i,p,O,I3,F,G,w3⟩;rcases E i g p O w3 with ⟨stop,qn⟩|⟨go,N,hN,step⟩
 .refine ĺ C (bV (T.done c rfl rfl rfl Y i pins s3 p O _ I3 (k G) F stop) λr s4  Q =>xa Q λS I4=>?_)
  subst S;exact Ĺ ⟨p,O,I4,qn⟩
 .refine ĺ C (bV (T.item c rfl rfl rfl Y i _ s3 p O _ I3 (k G) F go) λr s4 U=>?_);refine bx U λu S h4=>?_
  subst S;refine ĺ C (bV h4 λ_ s5 U=>?_);refine bg U λx H5 I5 r5 y5 B V=>?_
  refine ĺ C (bV (hg _ s5 p H5 x u _ (I5.pinned (k V) (T.obj _ _ B)) r5 (step x H5 y5)) λ_ s6  Q =>cg Q λX H6 I6 q6=>?_)
  refine ĺ C (bV (j _ s6 X H6 _ I6 q6) λf s7 z=>?_)
  have ŏ:∀{a:St}{q:Hp},Inv c _ a q s7->N a q->∃m,m<g/\∃i l y,Inv c pins l y s7/\tn i _/\(∀b∈M,y b=none)/\W i m l y:=λ{a q} t K=>by
   obtain⟨m',hm,w7⟩:=hN a q K;refine⟨m',hm,_,a,q,t.jE,T.keep _ _ _ B λb j L e=>(t.pin _ (Ù _ (Ù _ (gy j e)))).1,λb j=>?_,w7⟩
   obtain⟨L,e,d⟩:=T.obj _ _ B b j;exact(t.pin _ (Ù _ (Ù _ (gy j e)))).2.1
  cases f with
  |next=>obtain⟨a,q,t,K⟩:=z;exact ŏ t K
  |cont=>obtain⟨a,q,t,K⟩:=z;exact ŏ t K
  |brk=>obtain⟨a,q,t,z⟩:=z;exact⟨a,q,t.jE,z⟩
  |ret v=>refine cX z λx7 a q t r7 z=>?_;exact⟨x7,a,q,t.jE,r7,z⟩
abbrev R2:=V->V->Hp->VK->Prop
def kE(X)(f:f'->f'->í f')(r:R2):=
 ∀pins s (a:St) H x y v u Q,Inv X pins a H s->RelV x v->RelV y u->r x y H Q ->
  nc (p' X.prog X.w) X.A (f v u) (EP X pins a Q) X.xe s
def Wx(X)(f:f'->í f')(r:V->Hp->VK->Prop):=
 ∀pins s (a:St) H x v Q,Inv X pins a H s->RelV x v->r x H Q ->
  nc (p' X.prog X.w) X.A (f v) (EP X pins a Q) X.xe s
def dq(X f)(r:List V->Hp->VK->Prop):=
 ∀pins s (a:St) H b c Q,Inv X pins a H s->Vals b c->r b H Q ->
  nc (p' X.prog X.w) X.A (call f c) (EP X pins a Q) X.xe s
def Wz(X)(r:V->Hp->(Bool->Hp->Prop)->Prop):=
 ∀pins s (a:St) H x v Q,Inv X pins a H s->RelV x v->r x H Q ->
  nc (p' X.prog X.w) X.A (Ϟ v) (TP X pins a Q) X.xe s
noncomputable def Ov(r:R2)(b tb:TE):TE:=λa H Q=>b a H λx c=>tb a c λy d=>r x y d Q
noncomputable def tUn(r:V->Hp->VK->Prop)(a:TE):TE:=λb H Q=>a b H λx c=>r x c Q
noncomputable def rI(C:Int->Int->Prop)(g:Int->Int->V):R2:=λx y H Q=>∃i j,x=.int i/\y=.int j/\C i j/\Q (g i j) H
noncomputable def Uc(g:Int->Int->V):R2:=λx y H Q=>∃i j,x=.int i/\y=.int j/\Q (g i j) H
def rU(g:Int->V):V->Hp->VK->Prop:=λx H Q=>∃i,x=.int i/\Q (g i) H
variable{F8:f'->f'->í f'}
theorem Li(k:PE c n ψ)(l:PE c R L4){b:V->V->Hp->Prop}(I:Inv c G X d x)(h:ψ X d λa j=>L4 X j λy e=>b a y e)(m:∀v u i a y e,Inv c G X e i->RelV a v->RelV y u->b a y e->nc (p' c.prog c.w) c.A (F8 v u) ν c.xe i):
  nc (p' c.prog c.w) c.A (eval n c.env) (λv f=>nc (p' c.prog c.w) c.A (eval R c.env) (λu g=>nc (p' c.prog c.w) c.A (F8 v u) ν c.xe g) c.xe f) c.xe x:=by
 refine bV (k _ x X d _ I h) λv o ⟨a,j,I1,r1,q1⟩=>?_
 refine bV (l _ o X j _ I1 q1) λu i ⟨y,e,I2,r2,q2⟩=>m v u i a y e I2 r1 r2 q2
variable{C6:R2}{f9:ď}
theorem Jz(a:kE c (Ő f9) C6)(b:PE c n ψ)(d:PE c R L4):PE c (.BinOp n f9 R o) (Ov C6 ψ L4):=by
 intro pins s e H Q I h;exact wpAny_BinOp (Li b d I h λv u f x y g i j k q=>a _ f e g x y v u Q i j k q)
theorem Pe{a r}(d:Wx c (unaryOp a) r)(e:PE c n ψ):PE c (.UnaryOp a n o) (tUn r ψ):=by
 intro pins s b H Q I h;exact UnaryOp_ (bV (e _ s b H _ I h) λv f ⟨x,H1,I1,r1,q1⟩=>d _ f b H1 x v Q I1 r1 q1)
theorem Ud{C}{g:Int->Int->Int}(rule:∀i j t u s Q E,C i j->Q (.int (g i j) s.toks) {s with toks:=s.toks+1}->nc (p' c.prog c.w) c.A (F8 (.int i t) (.int j u)) Q E s):
  kE c F8 (rI C λi j=>.int (g i j)):=by
 intro pins s f H x y v u Q I a b h;obtain⟨i,j,rfl,rfl,d,q⟩:=h;obtain⟨t,rfl⟩:=a;obtain⟨e,rfl⟩:=b;exact rule i j t e s _ _ d ⟨.int _,H,I.tok _,⟨_,rfl⟩,q⟩
theorem Pf{g:Int->Int->Int}(rule:∀i j t u s Q E,Q (.int (g i j) s.toks) {s with toks:=s.toks+1}->nc (p' c.prog c.w) c.A (F8 (.int i t) (.int j u)) Q E s):
  kE c F8 (Uc λi j=>.int (g i j)):=by
 intro pins s e H x y v u Q I a b h;obtain⟨i,j,rfl,rfl,q⟩:=h;obtain⟨t,rfl⟩:=a;obtain⟨d,rfl⟩:=b;exact rule i j t d s _ _ ⟨.int _,H,I.tok _,⟨_,rfl⟩,q⟩
theorem FY{g:Int->Int->Bool}(rule:∀i j t u s Q E,Q (.bool (g i j)) s->nc (p' c.prog c.w) c.A (F8 (.int i t) (.int j u)) Q E s):
  kE c F8 (Uc λi j=>.bl (g i j)):=by
 intro pins s e H x y v u Q I a b h;obtain⟨i,j,rfl,rfl,q⟩:=h;obtain⟨t,rfl⟩:=a;obtain⟨d,rfl⟩:=b;exact rule i j t d s _ _ ⟨.bl _,H,I,rfl,q⟩
def Pg(i j:Int):=0<j/\j<1073741824
def WA(i j:Int):=0<=j/\j<=1000000/\i.natAbs<2 ^ 64
def Lj(i j):=(-(2 ^ 64)<i/\i<2 ^ 64)\/(-(2 ^ 64)<j/\j<2 ^ 64)
theorem Lj.ok(h:Lj J P0):IntMulOk J P0:=by
 rcases h with ⟨a,b⟩|⟨a,b⟩
 .exact .of_left (adU a b)
 .exact .of_right (adU a b)
theorem Lk:kE c (Ő .Add) (Uc λi j=>.int (i+j)):=Pf λ_ _ _ _ _ _ _ q=>add_int q
theorem FZ:kE c (Ő .FloorDiv) (rI Pg λi j=>.int (i / j)):=Ud λi j _ _ _ _ _ a q=>by
 have b:=a.1;have d:=a.2;exact floordiv_int (ϟ b) (by rwa[Int.fdiv_eq_ediv_of_nonneg i (adV b)]) (.inl (PyProof.noPylong_small (by omega)))
theorem Ll:kE c (Ő .Mod) (rI (λ_ j=>0<j) λi j=>.int (i%j)):=Ud λi j _ _ _ _ _ a q=>mod_int' (ϟ a) (by rwa[Int.fmod_eq_emod_of_nonneg i (adV a)])
theorem unI{f}{g:Int->Int}(rule:∀i t s Q E,Q (.int (g i) s.toks) {s with toks:=s.toks+1}->nc (p' c.prog c.w) c.A (f (.int i t)) Q E s):
  Wx c f (rU λi=>.int (g i)):=by
 intro pins s b H x v Q I a h;obtain⟨i,rfl,q⟩:=h;obtain⟨t,rfl⟩:=a;exact rule i t s _ _ ⟨.int _,H,I.tok _,⟨_,rfl⟩,q⟩
theorem Lm:Wx c (unaryOp .USub) (rU λi=>.int (-i)):=unI λ_ _ _ _ _ q=>neg_int q
variable{ο:VK}
theorem qV(I:Inv c G X d x)(q:ο (.bl H) d)(e:H=E4):EP c G X ο (.bool E4) x:=by
 subst e;exact⟨.bl H,d,I,rfl,q⟩
theorem zU:kE c (á .In) (λx y H Q=>∃i j,x=.str i/\y=.str j/\Q (.bl (!(Ę j i 0 j.length 1).isEmpty)) H):=by
 intro pins s d H x y v u Q I a b h;obtain⟨i,j,rfl,rfl,q⟩:=h;obtain⟨t,rfl⟩:=a;obtain⟨e,rfl⟩:=b;exact in_str (qV I q rfl)
theorem Ln:kE c (á .Is) (λx y H Q=>y=.non/\Q (.bl (decide (x=.non))) H):=by
 intro pins s d H x y v u Q I a b h;obtain⟨rfl,q⟩:=h;cases b;refine is_none_gen (qV I q ?_)
 cases x<;>first
  | (obtain⟨t,rfl⟩:=a;rfl)
theorem F_:kE c (á .IsNot) (λx y H Q=>y=.non/\Q (.bl (!decide (x=.non))) H):=by
 intro pins s d H x y v u Q I a b h;obtain⟨rfl,q⟩:=h;cases b;refine isnot_none_gen (qV I q ?_)
 cases x<;>first
  | (obtain⟨t,rfl⟩:=a;rfl)
theorem qW:kE c (á .NotIn) (λx y H Q=>∃i j,x=.str i/\y=.str j/\Q (.bl (!(!(Ę j i 0 j.length 1).isEmpty))) H):=by
 intro pins s d H x y v u Q I a b h;obtain⟨i,j,rfl,rfl,q⟩:=h;obtain⟨t,rfl⟩:=a;obtain⟨e,rfl⟩:=b;exact notIn_str (qV I q rfl)
variable{u9:R2}
theorem kE.or(h:kE c F8 C6)(h':kE c F8 u9):kE c F8 (λx y H Q=>C6 x y H Q\/u9 x y H Q):=by
 intro pins s a H x y v u Q I b d q;rcases q with q|q
 .exact h _ s a H x y v u Q I b d q
 .exact h' _ s a H x y v u Q I b d q
variable{o5:ð}
theorem Gb(a:kE c (á o5) C6)(b:PE c n ψ)(d:PE c R L4)(e:Ů o5 R=false):PE c (.Compare n [o5] [R] o) (Ov C6 ψ L4):=by
 intro pins s f H Q I h;exact wpAny_Compare1 (Li b d I h λv u g x y i j k l q=>a _ g f i x y v u Q j k l q) e
noncomputable def BE(t:TE):TT:=λa H Q=>t a H λx b=>∃k,x=.bl k/\Q k b
theorem Ge(g:kE c (á o5) C6)(i:PE c n ψ)(j:PE c R L4)(l:Ů o5 R=false):PT c (.Compare n [o5] [R] o) (BE (Ov C6 ψ L4)):=by
 intro pins s a H Q I h
 refine wpAny_isTrue_Compare1 (bV (i _ s a H _ I h) λv m  b =>aP b λx p q r t=>bV (j _ m a p _ q t) λu w  b  =>
  aP b λy A B C D=>bV (g _ w a A x y v u _ B r C D) λf K E=>?_) l;refine aP E λz F I3 G d=>bx d λk e J=>?_
 subst e;cases G;exact ļ ⟨F,I3,J⟩
noncomputable def vF(r c:R2)(d tb e:TE):TE:=λa H Q=>d a H λx f=>tb a f λy g=>r x y g λz b=>∃k,z=.bl k /\
 (if k=true then e a b λh i=>c y h i Q else Q (.bl false) b)
variable{C8:ð}{M9:TE}
theorem BF(m:kE c (á o5) C6)(f:kE c (á C8) u9)(p:PE c n ψ)(q:PE c R L4)(r:PE c D4 M9)(t:ů [o5,C8] [R,D4]=false:=by with_unfolding_all rfl):PE c (.Compare n [o5,C8] [R,D4] o) (vF C6 u9 ψ L4 M9):=by
 intro pins s a H Q I h
 refine Compare_chain (bV (p _ s a H _ I h) λv w b=>?_) t;refine aP b λx A B C D=>?_;refine chain_link (bV (q _ w a A _ B D) λu E b=>
  ?_);refine aP b λy F G i J=>?_;refine bV (m _ E a F x y v u _ G C i J) λd K b=>?_;refine aP b λz j I3 L g=>bx g λk e l=>?_
 subst e;cases L;refine ļ ?_;cases k with
 |false=>exact ite_ff ⟨.bl _,j,I3,rfl,l⟩
 |true=>exact ite_tt (chain_last (bV (r _ K a j _ I3 l) λM N  O =>aP O λP S T U V=>f _ N a S y P u M Q T i U V))
theorem BG(m:kE c (á o5) C6)(g:kE c (á C8) u9)(p:PE c n ψ)(q:PE c R L4)(r:PE c D4 M9)(t:ů [o5,C8] [R,D4]=false:=by with_unfolding_all rfl):PT c (.Compare n [o5,C8] [R,D4] o) (BE (vF C6 u9 ψ L4 M9)):=by
 intro pins s f H Q I h
 refine isTrue_chain (bV (p _ s f H _ I h) λv w a=>?_) t;refine aP a λx A B C D=>?_;refine test_link (bV (q _ w f A _ B D) λu E a=>
  ?_);refine aP a λy F G i J=>?_;refine bV (m _ E f F x y v u _ G C i J) λd K a=>?_;refine aP a λz j I3 L b=>bx b λk e l=>?_
 subst e;cases L;refine ļ ?_;cases k with
 |false=>
  refine bx l λZ M N=>?_
  cases M;exact ite_ff ⟨j,I3,N⟩
 |true=>
  refine ite_tt (test_last (bV (r _ K f j _ I3 l) λO P ⟨S,H4,I4,r4,q4⟩=>bV (g _ P f H4 y S u O _ I4 i r4 q4) λd' s5 a=>?_));refine aP a λz2 T U V b=>bx b λk2 X Y=>?_
  subst X;cases V;exact ļ ⟨T,U,Y⟩
def tF(K:K')(x:V)(H:Hp)(k:Bool):Prop:=
 match x with
 |.non=>k=false
 |.bl b=>k=b
 |.int i=>k=(i != 0)
 |.str y=>y.length<=Q'/\k=((y.length:Int) != 0)
 |.Ot y=>y.size<=Q'/\k=((y.size:Int) != 0)
 |.ref p=>(∃a,ly K H p a/\k=!a.isEmpty)\/(∃a,vz K H p a/\k=!a.isEmpty)\/∃c,H p=some (.dK c)/\k=!c.isEmpty
 |_=>False
theorem vG{a}{kvs:List (a×V)}{b}(r:KV kvs b):(!b.isEmpty)=!kvs.isEmpty:=by
 cases r<;>rfl
variable{j0:List f'}
theorem mW(r:Vals S j0):(!j0.toArray.isEmpty)=!S.isEmpty:=by
 cases r<;>simp
theorem hZ:Q'<2 ^ 63:=by decide
theorem qZ:Wz c (λx H Q=>∃k,tF c.K x H k/\Q k H):=by
 intro pins s C H x v Q I j h;obtain⟨k,e,q⟩:=h;have D:=hZ;have E:Q'=16777216:=ò;cases x with
 |non=>
  cases j;have a:k=false:=e;subst a;exact truthy_none ⟨H,I,q⟩
 |bl b=>
  cases j;have a:k=b:=e;subst a;exact ļ ⟨H,I,q⟩
 |int i=>
  obtain⟨t,rfl⟩:=j;have a:k=(i != 0):=e;subst a;exact adW ⟨H,I,q⟩
 |str y=>
  obtain⟨t,rfl⟩:=j;obtain⟨A,a⟩:y.length<=Q'/\k=((y.length:Int) != 0):=e;subst a;exact adX (by omega) ⟨H,I.tok _,q⟩
 |Ot y=>
  obtain⟨t,rfl⟩:=j;obtain⟨A,a⟩:y.size<=Q'/\k=((y.size:Int) != 0):=e;subst a;exact PySem.W.truthy_bytes (fG A) ⟨H,I.tok _,q⟩
 |ref p=>
  cases j;have a:(∃g,ly c.K H p g/\k=!g.isEmpty)\/(∃g,vz c.K H p g/\k=!g.isEmpty)\/∃d,H p=some (.dK d)/\k=!d.isEmpty:=e;rcases a with ⟨g,l,a⟩|⟨g,l,a⟩|⟨d,l,a⟩
  .subst a
   obtain⟨o,r,u,z⟩:=I.list l;have f:=r.length;exact adY u.isList (by simp only[å];omega) ⟨H,I.tok _,by rw[mW r];exact q⟩
  .subst a
   obtain⟨o,r,u,z⟩:=I.tuple l;have f:=r.length;exact truthy_tuple u (by simp only[å];omega) ⟨H,I.tok _,by rw[mW r];exact q⟩
  .subst a
   obtain⟨z,B,n,r,m⟩:d.length<=Q'/\(p==ì)=false/\∃n,KV d n/\s.heap.DictOf (bz c.prog c.w) p n:=I.hok p _ l;have f:d.length=n.length:=ŧ r;exact wpAny_truthy_dict B m (OW (B' (R' f.symm) z)) ⟨H,I.tok _,by rw[vG r];exact q⟩
 |_=>exact(show False from e).elim
theorem BH(e:PE c n ψ)(f:∀a,Ŭ n c.env a=(do let v ←a;Ă n.pos;ă [v] (Ϟ v))):
  PT c n (λb H Q=>ψ b H λx d=>∃k,tF c.K x d k/\Q k d):=by
 intro pins s b H Q I h;exact isTrue_plain (bV (e _ s b H _ I h) λv g  i =>aP i λx j l m o=>qZ _ g b j x v Q l m o) (f _)
theorem vH:kE c (Ő .Add) (λx y H Q=>∃i j,x=.str i/\y=.str j/\i.length+j.length<=Q'/\Q (.str (i++j)) H):=by
 intro pins s f H x y v u Q I a b h;obtain⟨i,j,rfl,rfl,d,q⟩:=h;obtain⟨t,rfl⟩:=a;obtain⟨e,rfl⟩:=b;exact add_str (λe g=>⟨.str _,H,I.tok _,⟨_,rfl⟩,q⟩) d
theorem vals1(r:Vals [A] j0):∃u,j0=[u]/\RelV A u:=by
 cases r with
 |cons b a=>cases a;simp_all
variable{G4:V}
theorem vals2(r:Vals [A,G4] j0):∃u a,j0=[u,a]/\RelV A u/\RelV G4 a:=by
 cases r with
 |cons d b=>
  cases b with
  |cons e c=>cases c;grind
structure BI(h:I')(x dx C:b')(mA:Str->Option f'):Prop where
 obj:h.get? x=some (Ō C dx)
 ns:h.Ns1 dx mA
 ne:dx≠x
variable{Δ:Str->Option f'}
theorem kI(n:L.Ns1 j Δ):∃d,L.get? j=some d/\∀name,Ϡ name d=some (Δ name):=by
 refine bO n λo f l g h i b=>xa b λ_ k=>?_
 refine⟨o,g,λname=>?_⟩
 have e:=k name;unfold nsFind findBy at e;unfold Ϡ;rw[h];dsimp only;split
 .simp_all
 .have a:f.toList.any (·.refKey)=false:=by
   rw[List.any_eq_false];intro y m;refine xe (i y (by simp_all)) λz b=>xe b λt c=>?_
   simp[af6,c]
  grind
variable{ω:b'}
theorem BI.look(I:BI L j N ω Δ):∃a,acr L j (Ō ω N) ω (some a)/\∀name,Ϡ name a=some (Δ name):=
 bx (kI I.ns) λa b c=>⟨a,⟨I.obj,rfl,rfl,b⟩,c⟩
theorem Gf{s}(X:O.In s.heap)(a:BI s.heap j N ω Δ)(k:Å O (.ref ω) "__setattr__"=some (some (.builtin "object.__setattr__")))(m:acs O ω=true)(n:acu O ω h=some none)(o:Ű O ω=true)(p:acm Δ l)(hsz:l.length<=Q')(c:∀h',BI h' j N ω (λy=>if y=h then some U else Δ y)->Ķ N s.heap h'->L5 () {s with heap:=h',toks:=s.toks+2}):
  nc (p' I M) θ (ϡ (.ref j) h U) L5 ν s:=by
 refine bx a.look λw J x=>?_
 refine adZ X J k (PySem.W.osa_open X J m n λb=>?_)
 refine bx (PySem.W.any_some o) λz q f=>?_
 refine j' (F' (j' (j' (ad_ a.obj (j' (ad0 (acv X q) ?_))))));rw[f];refine F' (j' (F' (j' ?_)));refine wpAny_nsSet1 a.ns λh' d e=>?_
 refine cX (d.count (ad1 _ U p)) λA r t g i u=>?_
 refine j' (ad2 g (by rw[i];exact ad3 (by grind)) ?_)
 exact F' (c _ ⟨(e.2 _ (Ç a.ne)).trans a.obj,d,a.ne⟩ e)
variable{P6:ő->g'->Prop}{wa:List (Str×f')}
theorem BJ{s:g'}(X:O.In s.heap)(a:acw O j=true)(b:Å O (.ref j) "__init__"=some (some (.ref N)))(c:acx O (.ref N)=some (.type "function"))(h:â (p' I M) (θ.under (.builtin "type.__call__" ⟨.ref j::j0,wa⟩)) (.call (.ref N) ⟨.ref (s.heap.objs.size+1)::j0,wa⟩) (acy (s.heap.objs.size+1) P6)
   {s with heap:=(s.heap.push Ϣ).push (Ō j s.heap.objs.size)}):
  â (p' I M) θ (.call (.ref j) ⟨j0,wa⟩) P6 s:=PySem.W.make_core (PySem.W.makes_of X a) (ϣ X b) (λself=>ad4 X _ c) (.inl rfl) h
noncomputable def gz(f:Str)(v:V):List (Str×V)->List (Str×V)
 |[]=>[(f,v)]
 | (g,x)::r=>if g=f then (g,v)::r else (g,x)::gz f v r
theorem lA(f g v):∀a,(gz f v a).lookup g=if g=f then some v else a.lookup g
 |[]=>by
  show ű g [(f,v)]=_
  grind
 | (k,x)::r=>by
  have b:=lA f g v r;rw[show gz f v _=(if k=f then (k,v)::r else (k,x)::gz f v r)from rfl]
  grind
theorem kJ(f v):∀a,f∈(gz f v a).map (·.1)/\∀g,g∈a.map (·.1)->g∈(gz f v a).map (·.1)
 |[]=>⟨by simp[gz],by simp⟩
 | (k,x)::r=>by
  obtain⟨b,i2⟩:=kJ f v r;rw[show gz f v _=(if k=f then (k,v)::r else (k,x)::gz f v r)from rfl]
  grind
theorem lB(f v):∀a,(gz f v a).length<=a.length+1
 |[]=>by simp[gz]
 | (k,x)::r=>by
  have b:=lB f v r;rw[show gz f v _=(if k=f then (k,v)::r else (k,x)::gz f v r)from rfl]
  grind
variable{Q6:Option f'}
theorem hY.some_of(r:hY (some A) Q6):∃u,Q6=some u/\RelV A u:=by
 cases Q6 with
 |none=>exact(r).elim
 |some u=>exact⟨u,rfl,r⟩
theorem hY.none_of(r:hY none Q6):Q6=none:=by
 cases Q6 with
 |none=>rfl
 |some u=>exact(r).elim
theorem pI(r:RelV A U):ad5 U=true:=by
 cases A with
 |non=>cases (r);rfl
 |bl b=>cases (r);rfl
 |int i=>obtain⟨t,e⟩:=(r);cases e;rfl
 |str x=>obtain⟨t,e⟩:=(r);cases e;rfl
 |Ot b=>obtain⟨t,e⟩:=(r);cases e;rfl
 |flt b=>obtain⟨t,e⟩:=(r);cases e;rfl
 |ref a=>cases (r);rfl
 |ty n=>cases (r);rfl
variable{u7:List (Str×V)}
theorem mn(c:hJ I M d L)(e:d j=some (.ins N ω u7)):∃a,BI L j ω N a/\(∀f,hY (u7.lookup f) (a f))/\acm a (u7.map (·.1))/\u7.length<=1000/\d ω=some (.own j):=by
 refine fK (c j _ e) λb z h i g=>ay g λa n r q=>⟨a,⟨i,n,h⟩,r,q,z,b⟩
structure mX(K:K')(C:b'):Prop where
 pg:acz K C ad6=true
 hd:Ű K C=true
 po:acs K C=true
 sa:Å K (.ref C) "__setattr__"=some (some (.builtin "object.__setattr__"))
theorem mX.get(c:mX O j)(f):acz O j f=true:=c.pg
def dg(K C f):=Å K (.ref C) f=some none
theorem dg.taker(n:dg O j h):acu O j h=some none:=by
 unfold acu;rw[n];rfl
structure Meth(K:K')(C:b')(m:Str)(f:b'):Prop where
 at_:Å K (.ref C) m=some (some (.ref f))
 fn:Ų K (.ref f)=true
 kp:Ú K (.ref f)=true
theorem mY(I:Inv c G X d x)(e:d j=some (.ins N ω u7))(a:mX c.K N)(n:dg c.K N h)(l:u7.lookup h=some A)(b:∀u g,Inv c G X d g->RelV A u->D5 u g):nc (p' c.prog c.w) θ (Ϥ (.ref j) h H) D5 ν x:=by
 refine dN (mn I.hok e) λk O r _ f=>xa f λ_ _=>?_
 obtain⟨u,m,i⟩:=hY.some_of (A:=A) (Q6:=k h) (by grind)
 obtain⟨p,J,o⟩:=O.look;exact PySem.W.get_value I.fF J (acA (a.get h)).1 (ad7 a.hd n rfl (by rw[o,m])) (pI i) (b u _ (I.tok _) i)
variable{P1:b'}
theorem jg{pl Q}(I:Inv c G X d x)(e:d j=some (.ins N ω u7))(a:mX c.K N)(k:Meth c.K N h P1)(l:u7.lookup h=none)(b:Q (.ref P1,[.ref j]) x):nc (p' c.prog c.w) θ (Đ (.ref j) h pl) Q ν x:=by
 refine dN (mn I.hok e) λg O r _ f=>xa f λ_ _=>?_
 have m:g h=none:=hY.none_of (by grind)
 refine bx O.look λi J n=>PySem.W.method_fn I.fF J (acA (a.get h)).1 (acA (a.get h)).2 k.at_ (beq_iff_eq.mp k.fn) (by show(Ϡ _ i).map _=some _;simp_all) b
theorem mZ(I:Inv c G X d x)(e:d j=some (.ins N ω u7))(a:mX c.K N)(n:dg c.K N h)(l:u7.length<1000)(t:RelV A U)(f:∀m,Inv c G X (upd d j (.ins N ω (gz h A u7))) m->L5 () m):nc (p' c.prog c.w) θ (ϡ (.ref j) h U) L5 ν x:=by
 refine dN (mn I.hok e) λH O r p i=>xa i λ_ s=>?_
 have u:(u7.map (·.1)).length<=Q':=by rw[Þ,ò];exact Bo l
 refine Gf I.fF O a.sa a.po n.taker a.hd p u λy k B=>f _ ?_
 have C:∃o,y.get? ω=some o:=ek (k.ns) λo _ _ D _=>⟨o,D⟩
 refine I.write (by rw[e];exact ö) (.inr s) (λb q E z=>(B.2 b E).trans z) C ?_
 refine⟨by rw[ax O.ne];exact s,?_,O.ne,k.obj,_,k.ns,λg=>?_,λg F=>?_⟩
 .have:=lB h A u7;exact B' this l
 .rw[lA]
  by_cases q:g=h
  .rw[if_pos q,if_pos q];exact t
  simp_all
 .by_cases q:g=h
  .rw[q];exact(kJ h A u7).1
  .refine(kJ h A u7).2 g (p g λz=>F ?_)
   simp_all
theorem Inv.made{s}(I:Inv c G X d s):Inv c G X (upd (upd d s.heap.objs.size (.own (s.heap.objs.size+1))) (s.heap.objs.size+1) (.ins j s.heap.objs.size []))
  {s with heap:=(s.heap.push Ϣ).push (Ō j s.heap.objs.size)}:=by
 have a:(s.heap.push _).get? _=some Ϣ:=Ó _ rfl;have g:=I.laid (o:=.own (s.heap.objs.size+1)) (t':=s.toks) (λb u q=>X' _ q) (O' _) ⟨_,a⟩
 refine g.laid (λb u q=>X' _ q) (by simp) ?_
 have f:s.heap.objs.size≠s.heap.objs.size+1:=U' (by simp)
 refine⟨by rw[ax f,aD],æ _,f,(by
  have:=Ó (s.heap.push Ϣ) (o:=Ō j s.heap.objs.size) rfl;rwa[ų]at this),_,(ad8 ⟨_,_,_,a,rfl,(λe h=>absurd h (by simp)),λ_=>rfl⟩).at λo q=>X' _ q,λ_=>ö,λy i=>absurd rfl i⟩
variable{u6:Ä}
theorem q_(d:ø n h u6 (eval n u6)=eval n u6)(a:nc (p' I M) θ (eval n u6) (λb c=>nc (p' I M) θ (Ϥ b h true) D5 ν c) ν x):nc (p' I M) θ (eval (.Attribute n h o) u6) D5 ν x:=
 Attribute_any_ a (by rw[arm_eval_Attribute,d])
noncomputable def WB(K:K')(d:TE)(f:Str):TE:=λe H Q=>d e H λx b=>∃a C g c v,x=.ref a/\b a=some (.ins C g c)/\mX K C/\dg K C f/\c.lookup f=some v/\Q v b
def WC(K:K')(g h:TE)(f:Str):TS:=λD b H=>h b H λy i=>g b i λx d=>∃a C e c,x=.ref a/\d a=some (.ins C e c)/\mX K C/\dg K C f/\c.length<1000 /\
 D.nx b (upd d a (.ins C e (gz f y c)))
def Ph(X b)(c:V->V->Hp->VK->Prop):=
 ∀pins s (a:St) H x y u v Q,Inv X pins a H s->RelV x u->RelV y v->c x y H Q->nc (p' X.prog X.w) X.A (inplaceOp b u v) (EP X pins a Q) X.xe s
def Gg(K:K')(i j:TE)(k:V->V->Hp->VK->Prop)(f:Str):TS:=λD d H=>i d H λx e=>∃a C l g v,x=.ref a/\e a=some (.ins C l g)/\mX K C/\dg K C f/\g.lookup f=some v /\
 j d e λy m=>k v y m λz h=>∃c b,h a=some (.ins C c b)/\b.length<1000/\D.nx d (upd h a (.ins C c (gz f z b)))
theorem Lo(f:PE c n ψ)(g:ø n h c.env (eval n c.env)=eval n c.env):PE c (.Attribute n h o) (WB c.K ψ h):=by
 intro pins s i H Q I b;refine q_ g (bV (f _ s i H _ I b) λu z j=>?_);obtain⟨x,k,m,p,a,C,A,B,v,r,t,d,e,l,q⟩:=j
 subst r;obtain rfl:u=Ð a:=p;exact mY m t d e l λD E w y=>⟨v,k,w,y,q⟩
theorem Lp(i:PE c n ψ)(j:PE c R L4)(k:ï R (some (.Attribute n h P)) o.line c.env=pure false):PS c (.Assign [.Attribute n h P] R o) (WC c.K ψ L4 h):=by
 intro pins s f H D I b;refine ad9 (bV (j _ s f H _ I b) λu m g=>?_) k;refine aP g λy p r t q=>?_;refine bV (i _ m f p _ r q) λw G g=>?_;obtain⟨x,J,z,A,a,C,L,M,B,E,d,e,l,F⟩:=g
 subst B;obtain rfl:w=Ð a:=A;exact mZ z E d e l t λN I3=>⟨f,_,I3,F⟩
theorem zV{k}(m:PE c n ψ)(p:PE c R L4)(i:Ph c f9 k):PS c (.AugAssign (.Attribute n h P) f9 R o) (Gg c.K ψ L4 k h):=by
 intro pins s g H D I f;refine wpAny_AugAssign_AttributeAny (bV (m pins s g H _ I f) λr s1 b=>?_)
 refine xe b λx b=>ay b λt w A b=>xe b λa b=>ee b λC dx fs v B b=>?_
 refine fK b λE d e l q=>?_
 subst B;obtain rfl:r=Ð a:=A;refine mY w E d e l λu F G J=>bV (p pins F g t _ G q) λL M b=>xe b λy b=>ay b λN I3 O Q=>bV (i pins M g N v y u L _ I3 J O Q) λw4 s4 b=>xe b λz b=>ay b λH3 S T b=>?_
 obtain⟨U,X,j,Y,Z⟩:=b;exact mZ S j d e Y T λs5 I5=>⟨g,_,I5,Z⟩
def WD:V->V->Hp->VK->Prop:=λx y H Q=>∃i j,x=.int i/\y=.int j/\Q (.int (i+j)) H
theorem Lq:Ph c .Add WD:=by
 rintro pins s e H x y u v Q I b d ⟨i,j,rfl,rfl,q⟩;obtain⟨t,rfl⟩:=(show ∃t,u=Ŋ i t from b)
 obtain⟨a,rfl⟩:=(show ∃a,v=Ŋ j a from d)
 exact af7 ⟨.int (i+j),H,I.tok _,⟨_,rfl⟩,q⟩
inductive lW (K:K') (H:Hp):V->f'->Prop where
 |non:lW K H .non (.type "NoneType")
 |bl (x:Bool):lW K H (.bl x) (.type "bool")
 |int (i:Int):lW K H (.int i) (.type "int")
 |str (x:Str):lW K H (.str x) (.type "str")
 |flt (x:UInt64):lW K H (.flt x) (.type "float")
 |lst {a:b'}{xs:List V} (e:H a=some (.lst xs)):lW K H (.ref a) (.type "list")
 |cI {a:b'}{o:Obj}{xs:List V} (e:H a=some (.cI o (.lst xs))):lW K H (.ref a) (.type "list")
 |tup {a:b'}{xs:List V} (e:H a=some (.tup xs)):lW K H (.ref a) (.type "tuple")
 |dK {a:b'}{kvs:List (Key×V)} (e:H a=some (.dK kvs)):lW K H (.ref a) (.type "dict")
 |dT {a:b'}{kvs:List (List Key×V)} (e:H a=some (.dT kvs)):lW K H (.ref a) (.type "dict")
 |ins {a C dx:b'}{fs:List (Str×V)} (e:H a=some (.ins C dx fs)) (cl:mX K C) (ha:Å K (.ref C) "__class__"=some (some (.builtin "object.__class__")))
   (hn:Ŵ K (.builtin "object.__class__") "__get__"=some (some (.builtin "getset_descriptor.__get__"))) (htk:acB K (.builtin "object.__class__")=some true)
   (hm:ŵ K C (.type "object")=some true):lW K H (.ref a) (.ref C)
variable{M7 R4:f'}
theorem cV{s}(I:Inv c G X d s)(f:RelV A R4)(u:lW c.K d A M7)(e:ĥ c.K M7 U=some H)(h:∀x,D5 (.bool H) {s with toks:=x}):
  nc (p' c.prog c.w) θ (call (.builtin "isinstance") [R4,U]) D5 ν s:=by
 cases u with
 |non=>cases (f);exact ý PySem.W.kitx_none I.fF ö e (λz=>nomatch z) h
 |bl y=>cases (f);exact ý PySem.W.kitx_bool I.fF ö e (λz=>nomatch z) h
 |int i=>obtain⟨M7,q⟩:=(f);cases q;exact ý PySem.W.kitx_int I.fF ö e (λz=>nomatch z) h
 |str y=>obtain⟨M7,q⟩:=(f);cases q;exact ý PySem.W.kitx_str I.fF ö e (λz=>nomatch z) h
 |flt y=>obtain⟨M7,q⟩:=(f);cases q;exact ý PySem.W.kitx_float I.fF ö e (λz=>nomatch z) h
 |@lst a l g=>
  cases (f);refine xa (I.hok a _ g) λ_ b=>cg b λ_ n _ j=>?_
  exact ý ad' I.fF ⟨_,j,rfl⟩ e (λz=>nomatch z) h
 |@cI a M l g=>
  cases (f);refine kH (I.hok a _ g) λ_ _ b=>cg b λ_ n _ j=>?_
  exact ý ad' I.fF ⟨_,j,rfl⟩ e (λz=>nomatch z) h
 |@tup a l g=>
  cases (f);refine xa (I.hok a _ g) λ_ b=>bx b λ_ _ p=>?_
  refine ay p λo j k _=>?_
  exact ý acC I.fF ⟨o,j,k⟩ e (λz=>nomatch z) h
 |@dK a m g=>
  cases (f);refine hU (I.hok a _ g) λ_ _ N _ p=>?_
  refine cX p λo B D j k _=>?_
  exact ý aea I.fF ⟨o,j,k.1⟩ e (λz=>nomatch z) h
 |@dT a m g=>
  cases (f);refine hU (I.hok a _ g) λ_ _ l _ b=>cX b λo B D j k _=>?_
  exact ý aea I.fF ⟨o,j,k.1⟩ e (λz=>nomatch z) h
 |@ins a C P Q g t E F r L=>
  cases (f);refine bx (mn I.hok g) λR O _=>?_
  refine bx O.look λS J _=>?_
  exact ý (PySem.W.kitx_own (t.get _) t.hd E F r L) I.fF J e (λz=>nomatch z) h
structure cu(k:Nat)(A:Æ):Prop where
 hd:A.handled=none
 dp:A.depth+3*k+5<recursionLimit
 un:A.units+16*k+200<É
theorem cu.mono(r:cu w θ)(h:b<=w):cu b θ:=⟨r.hd,by have:=r.dp;omega,by have:=r.un;omega⟩
theorem cu.deeper{k A}(r:cu (k+1) A)(a):cu k (A.deeper a):=
 ⟨r.hd,by have:=r.dp;show A.depth+1+3*k+5<_;omega,by have:=r.un;show A.units+3+16*k+200<_;omega⟩
theorem vI:(θ.under (.builtin "type.__call__" ⟨.ref j::j0,wa⟩)).depth=θ.depth+1:=by
 rfl
theorem vJ:(θ.under (.builtin "type.__call__" ⟨.ref j::j0,wa⟩)).units=θ.units+1:=by
 rfl
theorem cu.make(r:cu (b+1) θ)(C a c):cu b (θ.under (.builtin "type.__call__" ⟨.ref C::a,c⟩)):=
 ⟨r.hd,by have:=r.dp;rw[vI];omega,by have:=r.un;rw[vJ];omega⟩
theorem cu.depth{k A}(r:cu k A):A.depth<recursionLimit:=by have:=r.dp;omega
theorem cu.units{k A}(r:cu k A):A.units+64<É:=by have:=r.un;omega
noncomputable def Pj:TA:=λ_ H Q=>Q [] H
noncomputable def Pl(b:TE)(c:TA):TA:=λa H Q=>b a H λx d=>c a d λe f=>Q (x::e) f
theorem rf:PA c [] Pj:=λ_ _ _ _ H Q I h=>Ŷ ⟨[],H,I,.nil,h⟩
theorem fM(e:PE c n ψ)(f:PA c Q E5)(g:D' (n::Q) c.env=(false,eval n c.env)::D' Q c.env:=by rfl):PA c (n::Q) (Pl ψ E5):=by
 intro i pins s b H d I h;rw[g];refine ŷ (bV (e _ s b H _ I h) λu j  a =>aP a λx k l m o=>bV (f _ _ j b k _ l o) λw y  a =>aP a λz p q r t=>⟨_,p,q,.cons m r,t⟩)
def WE(t:TA):TE:=λc H Q=>t c H λa b=>a.length<=Q'/\∀p,b p=none->Q (.ref p) (upd b p (.tup a))
def WG(t:TA):TE:=λc H Q=>t c H λa b=>a.length<=Q'/\∀p,b p=none->Q (.ref p) (upd b p (.lst a))
theorem Lr{x1}(h:PA c Q E5):PE c (.Tuple Q x1 o) (WE E5):=by
 intro pins s f H a I g;refine wpAny_Tuple_spliced (bV (h _ _ s f H _ I g) λi k  j =>bQ j λl m d r z q=>⟨by rwa[←r.length],?_⟩)
 refine⟨.ref _,_,d.laid (λb u e=>X' _ e) (O' _) ?_,rfl,q _ (d.hok.fresh (O' _))⟩
 exact⟨z,i,r,⟨_,Ó _ rfl,rfl,_,rfl⟩⟩
theorem Ls(h:PA c Q E5):PE c (.List Q o) (WG E5):=by
 intro pins s f H a I g;refine wpAny_List_spliced (bV (h _ _ s f H _ I g) λi k  j =>bQ j λl m d r z q=>⟨by rwa[←r.length],?_⟩)
 refine⟨.ref _,_,d.laid (λb u e=>X' _ e) (O' _) ?_,rfl,q _ (d.hok.fresh (O' _))⟩
 exact⟨z,i,0,r,Ó _ rfl⟩
abbrev Sp:=List V->Hp->VK->XK->Prop
abbrev Bp:=List Ä->Hp->g'->XK->f'->g'->Prop
structure tG(P:Á)(w:W')(K:K')(mg:Str->Option f')(base:I')(A:Æ)(outer:List Ä)(s:g')(H:Hp):Prop where
 frames:A.frames=some outer
 mod:Mod K mg base
 bs:∀b o,base.get? b=some o->s.heap.get? b=some o/\H b=none
 vy:base.objs.size<=s.heap.objs.size
 gw:s.heap.FunFrames base outer
 zO:∀b∈frs outer,H b=none
 hok:hJ P w H s.heap
 bare:ą s.gens
def CE(outer:List Ä)(P w H)(s:g')(Q:VK)(u)(a:g'):=
 ∃v b,a.os=s.os/\ą a.gens/\Un (frs outer) [] H b s.heap a.heap/\hJ P w b a.heap/\RelV v u/\Q v b
def CR(CX:Bp)(outer:List Ä)(P w H s Q E)(r:ő)(a:g'):=
 match r with
 |.ok (.ret u)=>CE outer P w H s Q u a
 |.ok _=>False
 |.error e=>CX outer H s E e a
structure bW(P:Á)(w:W')(K:K')(mg:Str->Option f')(base:I')(CX:Bp)(k:Nat)(f:b')(fd:Y')(ps:List Str)(sp:Sp):Prop where
 len:∀vs H Q E,sp vs H Q E->vs.length=ps.length
 run:∀(A:Æ) (outer:List Ä) (s:g') (H:Hp) (args:Args) (us:List f') (vs:List V) (Q:VK) (E:XK),cu k A->tG P w K mg base A outer s H->ć s fd args (ps.zip us)->Vals vs us->sp vs H Q E ->
  â (p' P w) A (.call (.ref f) args) (CR CX outer P w H s Q E) s
theorem bW.mono{P w K a base CX j k f b c sp}(F:bW P w K a base CX j f b c sp)(h:j<=k):
  bW P w K a base CX k f b c sp:=⟨F.len,λA outer s H args d e Q E g=>F.run A _ s H _ d e Q E (g.mono h)⟩
variable{B6:Sp}{J0:Y'}{L6:Bp}
theorem bW.imp{c}(F:bW I M O Δ L L6 b j J0 l B6)(h:∀a H Q E,c a H Q E->B6 a H Q E):bW I M O Δ L L6 b j J0 l c:=
 ⟨λa H Q E q=>F.len a H Q E (h _ _ _ _ q),λA outer s H args d a Q E e f g i k=>F.run A _ s H _ d a Q E e f g i (h _ _ _ _ k)⟩
variable{S6:List Ä}
theorem tG.make(e:tG I M O Δ L θ S6 x d)(C a b):
  tG I M O Δ L (θ.under (.builtin "type.__call__" ⟨.ref C::a,b⟩)) S6 x d:=⟨by first|exact e.frames,e.mod,e.bs,e.vy,e.gw,e.zO,e.hok,e.bare⟩
theorem Inv.env0(I:Inv c G X d x):tG c.prog c.w c.K c.mg c.base c.A c.stack x d:=
 ⟨I.ok.frames,I.ok.mod,I.bs,B' I.ok.vy I.sz,I.stack,I.jB,I.hok,I.bare⟩
theorem Inv.after(I:Inv c G X d x)(h:CE c.stack c.prog c.w d x ο U N8):EP c G X ο U N8:=by
 refine bg h λv j k bare l a e=>xa e λr q=>?_
 obtain⟨m,g,i,t,f⟩:=N8;obtain rfl:f=x.os:=k;exact⟨v,j,I.call l a bare (λb z=>absurd z (by simp)),r,q⟩
noncomputable def Pm(sp:Sp)(a:List V)(E:XK)(t:TA):TE:=λb H Q=>t b H λc d=>sp (c++a) d Q E
noncomputable def JA(C:b')(m:Str)(sp:Sp)(b:List V)(E:XK)(f:TE)(t:TA):TE:=λc H Q=>f c H λx d=>∃a g e,x=.ref a/\d a=some (.ins C g e)/\e.lookup m=none /\
 t c d λh i=>sp (x::(h++b)) i Q E
def Pn(C:b')(sp:Sp)(b:List V)(E:XK)(t:TA):TE:=λd H Q=>t d H λe c=>∀x a,c x=none->c a=none->a≠x ->
 sp (.ref x::(e++b)) (upd (upd c a (.own x)) x (.ins C a [])) (λv f=>v=.non/\Q (.ref x) f) E
def Binds(K:K')(d)(b:List Str)(c:List f'):=
 ∀s a,K.In s.heap->(a++c).length=b.length->ć s d ⟨a,[]⟩ (b.zip (a++c))
theorem Binds.all(h:∀a,a.length=l.length->Œ J0 ⟨a,[]⟩=pure (l.zip a)):Binds O J0 l []:=λs a _ b=>by
 rw[ę]at b ⊢;exact .of_eq (h a b)
def Passes(CX:Bp)(X E):=∀pins (b:St) H s e a,Inv X pins b H s->CX X.stack H s E e a->X.xe e a
variable{G5:XK}{R6:List f'}
theorem rg(F:bW c.prog c.w c.K c.mg c.base L6 b j J0 l B6)(g:cu b c.A)(i:Binds c.K J0 l j0)(k:Vals S j0)(m:Passes L6 c G5)(I:Inv c G X d x)(r:Vals y6 R6)(h:B6 (y6++S) d ο G5):nc (p' c.prog c.w) c.A (call (.ref j) R6) (EP c G X ο) c.xe x:=by
 have f:=r.append k;refine œ (Ľ (F.run _ _ x d ⟨R6,[]⟩ _ _ ο G5 g I.env0 (i x R6 I.fF (by rw[←f.length];exact F.len _ _ _ _ h)) f h) λr n a=>?_)
 cases r with
 |error e=>exact m _ X d x e n I a
 |ok fl=>
  cases fl with
  |ret u=>exact I.after a
  |next=>exact þ a
  |brk=>exact þ a
  |cont=>exact þ a
theorem rh(F:bW c.prog c.w c.K c.mg c.base L6 b j J0 l B6)(i:cu b c.A)(k:Gl c h)(m:c.mg h=some (.ref j))(p:Ú c.K (.ref j)=true)(t:Binds c.K J0 l j0)(u:Vals S j0)(x:Passes L6 c G5)(y:PA c (n::Q) E5)(d:(h==("__debug__"))=false:=by decide)(z:D' (n::Q) c.env=(false,eval n c.env)::D' Q c.env:=by rfl)(e:(À P (D' Q c.env)).any (·.1)=false:=by rfl):
  PE c (.Call (.Name h o) (n::Q) [] P) (Pm B6 S G5 E5):=by
 intro pins s B H f I a;refine đ (fL I k m ?_ d);refine Ÿ I.ok.mod.Jw p (bV (y _ _ s B H _ I a) λD E  C =>aP C λG J g r q=>⟨g.fF,rg F i t u x g r q⟩) z e
theorem Gh{pl}(C:PE c R ψ)(d:mX c.K N)(m:Meth c.K N h j)(F:bW c.prog c.w c.K c.mg c.base L6 b j J0 l B6)(D:cu b c.A)(E:Binds c.K J0 l j0)(G:Vals S j0)(J:Passes L6 c G5)(L:PA c (n::Q) E5)(g:D' (n::Q) c.env=(false,eval n c.env)::D' Q c.env:=by rfl)(i:(À o (D' Q c.env)).any (·.1)=false:=by rfl)(M:eval (.Call (.Attribute R h P) (n::Q) [] o) c.env=(do
   let p ←eval R c.env
   Ă P.atName
   let (j,first) ←ă [p] (Đ p h pl)
   Ě o j first (À o (D' (n::Q) c.env)) (ù o (ú [] c.env))):=by rfl):
  PE c (.Call (.Attribute R h P) (n::Q) [] o) (JA N h B6 S G5 ψ E5):=by
 intro pins s t H y I e;refine ϥ (bV (C _ s t H _ I e) λu O T=>?_) M;refine aP T λx U z V k=>bO k λa dx fs X Y f q=>?_
 subst X;obtain rfl:u=Ð a:=V;refine jg z Y d m f ?_;refine Ÿ I.ok.mod.Jw m.kp (bV (L _ _ O t U _ z q) λus s2  Z =>aP Z λvs H2 B r q2=>⟨B.fF,?_⟩) g i
 exact rg (y6:=.ref a::vs) F D E G J B (.cons rfl r) q2
theorem BK{pl}(p:PE c n ψ)(d:mX c.K N)(k:Meth c.K N h j)(F:bW c.prog c.w c.K c.mg c.base L6 b j J0 l B6)(r:cu b c.A)(t:Binds c.K J0 l j0)(y:Vals S j0)(z:Passes L6 c G5)(B:eval (.Call (.Attribute n h P) [] [] o) c.env=(do
   let m ←eval n c.env
   Ă P.atName
   let (j,first) ←ă [m] (Đ m h pl)
   Ě o j first (À o (D' [] c.env)) (ù o (ú [] c.env))):=by rfl):
  PE c (.Call (.Attribute n h P) [] [] o) (JA N h B6 S G5 ψ Pj):=by
 intro pins s C H Q I e;refine ϥ (bV (p _ s C H _ I e) λu L D=>?_) B;refine aP D λx M g E i=>bO i λa O R G J f q=>?_
 subst G;obtain rfl:u=Ð a:=E;refine jg g J d k f (acD g.fF k.kp (rg (y6:=[.ref a]) F r t y z g (.cons rfl .nil) q))
structure Mk(K:K')(C f:b'):Prop where
 makes:acw K C=true
 init:Å K (.ref C) "__init__"=some (some (.ref f))
 fn:Ų K (.ref f)=true
 kp:Ú K (.ref C)=true
theorem tH(M:Mk c.K N j)(F:bW c.prog c.w c.K c.mg c.base L6 b j J0 l B6)(n:cu (b+1) c.A)(o:Binds c.K J0 l j0)(p:Vals S j0)(q:Passes L6 c G5)(I:Inv c G X d x)(r:Vals y6 R6)(h:∀a g,d a=none->d g=none->g≠a->B6 (.ref a::(y6++S)) (upd (upd d g (.own a)) a (.ins N g [])) (λv s=>v=.non/\ο (.ref a) s) G5):
  nc (p' c.prog c.w) c.A (call (.ref N) R6) (EP c G X ο) c.xe x:=by
 have k:=h _ _ (I.hok.fresh (ã _)) (I.hok.fresh (O' _)) (by simp)
 have i:=Inv.made (j:=N) I;have m:Vals (V.ref (x.heap.objs.size+1)::(y6++S)) _:=.cons rfl (r.append p)
 refine œ (BJ I.fF M.makes M.init (beq_iff_eq.mp M.fn) (Ľ (F.run _ _ _ _ ⟨_,[]⟩ _ _ _ G5 (n.make N R6 [])
  (i.env0.make N R6 []) (o _ _ i.fF (by
  have e:=m.length;rw[F.len _ _ _ _ k]at e;exact e.symm)) m k) λr t f=>?_))
 cases r with
 |error e=>exact q _ X _ _ e t i f
 |ok fl=>
  cases fl with
  |ret u=>
   refine bQ (i.after f) λv y I3 z B C=>?_
   subst B;exact⟨z,⟨V.ref _,y,I3,rfl,C⟩⟩
  |next=>exact þ f
  |brk=>exact þ f
  |cont=>exact þ f
theorem Gi(M:Mk c.K N j)(F:bW c.prog c.w c.K c.mg c.base L6 b j J0 l B6)(i:cu (b+1) c.A)(k:Gl c h)(m:c.mg h=some (.ref N))(p:Binds c.K J0 l j0)(t:Vals S j0)(u:Passes L6 c G5)(x:PA c (n::Q) E5)(d:(h==("__debug__"))=false:=by decide)(y:D' (n::Q) c.env=(false,eval n c.env)::D' Q c.env:=by rfl)(e:(À P (D' Q c.env)).any (·.1)=false:=by rfl):
  PE c (.Call (.Name h o) (n::Q) [] P) (Pn N B6 S G5 E5):=by
 intro pins s z H f I a;refine đ (fL I k m ?_ d);refine Ÿ I.ok.mod.Jw M.kp (bV (x _ _ s z H _ I a) λC D B=>?_) y e;refine aP B λE G g r q=>?_;refine⟨g.fF,tH M F i p t u g r q⟩
structure jF(N P:List Str)(sc:V'):Prop where
 kind:sc.kind=.function
 co:sc.isCoroutine=false
 gen:sc.isGenerator=false
 nd:N.Nodup
 pre:N.take P.length=P
 par:∀x∈P,sc.names.lookup x=some .local\/sc.names.lookup x=some .cell
 Lu:∀y∈sc.names,y.2≠.free
theorem pJ{kindOf x}:∀{binds}{m},(∀v,(x,v)∉binds)->ľ kindOf binds m x=m x
 |[],_,_=>rfl
 | (n,v)::r,m,h=>by
  unfold ľ;rw[pJ (by grind)]
  split
  .grind
  .rfl
theorem pK{kindOf x}:∀{binds}{m},(∀v,(x,v)∉binds)->Ŀ kindOf binds m x=m x
 |[],_,_=>rfl
 | (n,v)::r,m,h=>by
  unfold Ŀ;rw[pK (by grind)]
  split
  .rfl
  grind
theorem pL{kindOf x v}:∀{P:List Str}{a}{i:Nat}{m},P.Nodup->P[i]?=some x->a[i]?=some v->kindOf x=some .local ->
  ľ kindOf (P.zip a) m x=some v
 |[],_,_,_,_,h,_,_=>by simp at h
 |_::_,[],_,_,_,_,h,_=>by simp at h
 |p::P,w::a,0,m,c,b,d,e=>by
  simp at b d;subst b;subst d
  show ľ _ ((p,w)::P.zip a) m p=_
  unfold ľ;rw[pJ λv f=>(Ħ.mp c).1 (Ϧ f).1,if_pos e]
  simp
 |p::P,w::a,i+1,m,c,b,d,e=>by
  unfold ľ;exact pL (Ħ.mp c).2 (by simpa using b) (by simp_all) e
theorem pM{kindOf x v}:∀{P:List Str}{a}{i:Nat}{m},P.Nodup->P[i]?=some x->a[i]?=some v->kindOf x≠some .local ->
  Ŀ kindOf (P.zip a) m x=some v
 |[],_,_,_,_,h,_,_=>by simp at h
 |_::_,[],_,_,_,_,h,_=>by simp at h
 |p::P,w::a,0,m,e,b,c,d=>by
  simp at b c;subst b;subst c
  show Ŀ _ ((p,w)::P.zip a) m p=_
  unfold Ŀ;rw[pK λv f=>(Ħ.mp e).1 (Ϧ f).1,if_neg d]
  simp
 |p::P,w::a,i+1,m,e,b,c,d=>by
  unfold Ŀ;exact pM (by simp_all) (by simpa using b) (by simp_all) d
noncomputable def start(N:List Str)(a:List V):St:=a.map some++Ŕ (N.length - a.length) none
noncomputable def dh(CX:Bp)(P:Á)(w:W')(K:K')(mg:Str->Option f')(base:I')(N:List Str)(qual:Str)(scope:V')(f:b')(b:f')(A:Æ)(outer:List Ä)(s:g')(H:Hp)(E:XK):Cx where
 prog:=P
 w:=w
 K:=K
 mg:=mg
 base:=base
 A:=A.deeper (Ê qual scope s.heap.objs.size f b)
 N:=N
 s₀:=s
 H₀:=H
 env:=Ê qual scope s.heap.objs.size f b
 outer:=outer
 stack:=Ê qual scope s.heap.objs.size f b::outer
 ex:=[]
 calm:=true
 fn:=λ_=>true
 pn:=[]
 xe:=λe c=>nc (p' P w) (A.deeper (Ê qual scope s.heap.objs.size f b)) (ϧ (Ê qual scope s.heap.objs.size f b) e) (λ_ a=>CX outer H s E e a) (λd a=>CX outer H s E d a) c
variable{π:V'}
def tI(a:π.names.lookup h=some .cell):=Ϩ.mp (acE _ b [] (.inl a))
variable{M0:List Str}
theorem pN(a:jF l M0 π)(E:θ.handled=none)(m:tG I M O Δ L θ S6 x d)(F:S.length=M0.length)(r:Vals S j0)(f:InCallC x x.heap.objs.size (ľ (Ê h π x.heap.objs.size j U).kindOf (M0.zip j0) λ_=>none) (cellsFrom (x.heap.objs.size+1) π.names []) (Ŀ (Ê h π x.heap.objs.size j U).kindOf (M0.zip j0) λ_=>none) N8):
  Inv (dh L6 I M O Δ L l h π j U θ S6 x d G5) [] (start l S) d N8:=by
 have G:M0.length<=l.length:=by have:=congrArg ϩ a.pre;grind
 obtain⟨A,K,rfl,B⟩:=f.done;have n:∀b:b',b∉(dh L6 I M O Δ L l h π j U θ S6 x d G5).ex:=λb z=>absurd (show b∈([]:List b')from z) (by simp)
 refine⟨⟨m.mod,a.kind,rfl,rfl,O' _,λy z c A o=>?_,λy hy=>?_,λy c _ g=>?_,λ_=>E,Around.frames_deeper m.frames,.inr ⟨rfl,rfl⟩,λb z=>absurd z (n b),m.bs,m.vy,λb _ _=>n b,λb z=>absurd z (n b),m.gw,m.zO⟩,
  rfl,m.bare,Un.kept B,⟨_,f.toInCall.ns,λi y v A o N=>?_⟩,λy c g=>⟨_,f.cell y c g⟩,m.hok.fresh (O' _),λy c g=>?_,λp s=>absurd (show p∈([])from s) (by simp),m.hok.kept B,?_⟩
 .exact name_of_addr f.apart (ź A) (ź o)
 .rcases hy with hy|hy
  .exact tI hy
  .exact absurd rfl (a.Lu _ (ź hy))
 .exact ß (f.above y c (ź g))
 .have t:i<S.length:=by
   unfold start at o
   by_cases t:i<S.length
   .exact t
   .rw[ħ (by simpa using t)]at o
    rw[acF]at o
    simp_all
  have H:S[i]?=some v:=by
   unfold start at o;rw[ê (by simpa using t)]at o
   simp_all
  obtain⟨u,C,J⟩:=r.get H
  have s:M0[i]?=some y:=by
   rw[←a.pre,aeb (M' t (R' F))];exact A
  have w:M0.Nodup:=by rw[←a.pre];exact a.nd.sublist (acG _ _)
  refine⟨u,J,?_⟩;rcases a.par y (Ë s)with k|k
  .exact .inl ⟨k,pL w s C k⟩
  .obtain⟨c,e⟩:=tI k
   refine .inr ⟨.inl k,c,e,?_⟩;have q:=f.cell y c e;rwa[pM w s C (by show π.names.lookup y≠_;rw[k];decide)]at q
 .have D:=m.hok.fresh (ß (f.above y c (ź g)))
  exact⟨.inl D,λ_=>D⟩
 .unfold start
  show _=l.length
  simp_all
variable{A7:Array (Option f')}{B:Str}{D6 Q7:Option b'}{G8 i8 j8:f'}
theorem BL{params oc}(K:O.lookup j=some ⟨oc,Q7,.func (Õ h B params F5 π U R4 M7 i8 D6 j8 G8),A7⟩)(y:Ĉ O j8 B=true)(S:jF l M0 π)(k:∀f H Q E,B6 f H Q E->f.length=M0.length)(g:∀A outer s H f Q E,cu b (A.deeper (Ê B π s.heap.objs.size j j8))->B6 f H Q E ->
   ∃t,jf (dh L6 I M O Δ L l B π j j8 A outer s H E) F5 t/\t {nx:=λ_ d=>Q .non d,rt:=Q} (start l f) H):
  bW I M O Δ L L6 (b+1) j (Õ h B params F5 π U R4 M7 i8 D6 j8 G8) M0 B6:=by
 refine⟨k,λA outer s H args us f Q E z m N r p=>?_⟩
 have G:=m.mod.Jw.keeps λa o e=>(m.bs a o e).1
 have C:=m.mod.nolimit.keeps λa o e=>(m.bs a o e).1
 refine aec z.depth (G _ _ K) rfl S.co S.gen rfl (aed G y) (N _ _ _ _ ?_)
 refine aee S.kind (λ⟨n,v⟩ P=>by
  rcases S.par n (Ϧ P).1 with q|q
  .exact .inl q
  .exact .inr ⟨q,acE _ _ _ (.inl q)⟩) λR T X x=>?_
 subst T;refine⟨C.keeps x.toInCall.keep,codeAny_func ?_⟩;obtain⟨t,Y,Z⟩:=g A _ s H f Q E (z.deeper _) p;refine à (Y [] X _ H _ (pN S z.hd m (k _ _ _ _ p) r x) Z) (λfl D i=>?_) λe D i=>i
 have w:∀{c:St}{d:Hp}{v:V}{u:f'},Inv (dh L6 I M O Δ L l B π j j8 A _ s H E) [] c d D->RelV v u->Q v d->CE outer I M H s Q u D:=
  λ{c d v u} J F q=>⟨v,d,J.os,J.bare,J.base,J.hok,F,q⟩
 cases fl with
 |ret u=>
  refine cX i λv c d J F q=>w J F q
 |next=>
  obtain⟨c,d,J,q⟩:=i;exact w (v:=V.non) J rfl q
 |brk=>
  obtain⟨_,_,_,q⟩:=i
  simp_all
 |cont=>
  obtain⟨_,_,_,q⟩:=i
  simp_all
noncomputable def tCB(r:List V->Hp->VK->Prop)(t:TA):TE:=λa H Q=>t a H λb c=>r b c Q
variable{h9:List V->Hp->VK->Prop}
theorem m_(g:dq c (.builtin i6) h9)(i:Gl c h)(j:c.mg h=none)(k:Č h=some (.builtin i6))(l:PA c (n::Q) E5)(m:h≠"__name__":=by decide)(d:(h==("__debug__"))=false:=by decide)(p:D' (n::Q) c.env=(false,eval n c.env)::D' Q c.env:=by rfl)(e:(À P (D' Q c.env)).any (·.1)=false:=by rfl):PE c (.Call (.Name h o) (n::Q) [] P) (tCB h9 E5):=by
 intro pins s f H a I b;refine đ (gx I i j k (aef (bV (l _ _ s f H _ I b) λq r  t =>aP t λu w x y z=>g _ r f w u q a x y z) p e) m d)
theorem zW(g:dq c (.type i6) h9)(i:Gl c h)(j:c.mg h=none)(k:Č h=some (.type i6))(l:PA c (n::Q) E5)(m:h≠"__name__":=by decide)(d:(h==("__debug__"))=false:=by decide)(p:D' (n::Q) c.env=(false,eval n c.env)::D' Q c.env:=by rfl)(e:(À P (D' Q c.env)).any (·.1)=false:=by rfl):PE c (.Call (.Name h o) (n::Q) [] P) (tCB h9 E5):=by
 intro pins s f H a I b;refine đ (gx I i j k (Ļ (bV (l _ _ s f H _ I b) λq r ⟨t,H1,I1,r1,q1⟩=>g _ r f H1 t q a I1 r1 q1) p e) m d)
end L2
namespace HT
open PySem PyProof.Rows
noncomputable def jG(n d:Nat):Option Int->Nat
 |none=>d
 |some v=>if v<0 then (v+n).toNat else min v.toNat n
theorem tJ(n d):jG n d none=d:=rfl
theorem mq(n d k:Nat):jG n d (some k)=min k n:=by
 rfl
theorem BN(n d)(a:d<=n)(o):jG n d o<=n:=by
 cases o with
 |none=>exact a
 |some v=>
  show(if v<0 then (v+(n)).toNat else min _ n)<=n
  grind
end HT
namespace L2
open PySem PySem.Spec PyProof.Rows
abbrev TO:=St->Hp->(Option Int->Hp->Prop)->Prop
def PO(X)(e:Option A')(t:TO):=
 ∀pins s (a:St) H Q,Inv X pins a H s->t a H Q ->
  nc (p' X.prog X.w) X.A (evalPart e X.env) (λu c=>∃o b,Inv X pins a b c/\Ϫ u o/\Q o b) X.xe s
noncomputable def Po(t:TE):TO:=λa H Q=>t a H λx b=>∃i,x=.int i/\Q (some i) b
variable{F6:List Int}
theorem intsAre_of:∀{a},Vals (F6.map V.int) a->ŕ a F6:=by
 induction F6 with
 |nil=>intro a r;cases r;exact .nil
 |cons n F6 b=>
  intro a r;cases r with
  |cons c d=>
   obtain⟨t,e⟩:=c;subst e;exact .cons n t (b d)
variable{c:Cx}{n:A'}{ψ:TE}
theorem Gj(h:PE c n ψ):PO c (some n) (Po ψ):=by
 intro pins s a H Q I b;refine bV (h _ s a H _ I b) λu k d=>?_;refine aP d λx e f g j=>?_
 obtain⟨i,rfl,q⟩:=j;obtain⟨t,rfl⟩:=g;exact⟨_,e,f,.int i t,q⟩
def Lv(X)(r:V->Option Int->Option Int->Hp->VK->Prop):=
 ∀pins s (a:St) H x v b c d e f Q,Inv X pins a H s->RelV x v->s.heap.IsSliceOf f b c .none->Ϫ b d->Ϫ c e->r x d e H Q ->
  ∃T id,ŀ (.type T) "__getitem__"=pure (some (.builtin id))/\s.TypeIs v T/\nc (p' X.prog X.w) X.A (Ŗ v (.ref f)) (EP X pins a Q) X.xe s
theorem Lv.or{r d}(h:Lv c r)(h':Lv c d):Lv c (λx a b H Q=>r x a b H Q\/d x a b H Q):=by
 intro pins s e H x v f g a b i Q I j k l m q;rcases q with q|q
 .exact h _ s e H x v f g a b i Q I j k l m q
 .exact h' _ s e H x v f g a b i Q I j k l m q
noncomputable def tSl(r:V->Option Int->Option Int->Hp->VK->Prop)(b:TE)(c d:TO):TE:=λa H Q=>b a H λx e=>c a e λl f=>d a f λu g=>r x l u g Q
variable{P o:T'}{Y8:Option A'}
theorem h8{e f g r}(i:Lv c r)(j:PE c n ψ)(k:PO c Y8 f)(m:PO c e g):PE c (.Subscript n (.Slice Y8 e none P) o) (tSl r ψ f g):=by
 intro pins s a H Q I h;refine acI (bV (j _ s a H _ I h) λv p d=>?_);refine aP d λx t w y z=>?_
 refine wpAny_Slice (bV (k _ p a t _ w z) λA B  C =>aP C λl D E F G=>bV (m _ B a D _ E G) λJ S d=>?_);refine aP d λu K I3 L M=>?_
 refine F' ?_;obtain⟨T,id,N,O,R⟩:=i _ _ a K x v A J l u _ Q (I3.kept λb U q=>X' _ q) y (af8 ..) F L M
 exact tail_any O N R (by rfl)
def Gk(xs:List V)(a b:Option Int):=(xs.drop (HT.jG xs.length 0 a)).take (HT.jG xs.length xs.length b - HT.jG xs.length 0 a)
theorem tK(xs a b):(Gk xs a b).length<=xs.length:=by
 unfold Gk;rw[Ĩ,aeg];omega
noncomputable def tL(n:Nat)(i:Int):=if 0<=i then (if i<n then some i.toNat else none)else if -n<=i then some (i+n).toNat else none
def jH{α:Type}(xs:List α)(i):=(tL xs.length i).bind λj=>xs[j]?
variable{J:Int}{b w:Nat}
theorem ri(h:tL b J=some w):acJ J b=some w/\w<b /\ -b<=J/\J<b:=by
 unfold tL at h
 by_cases c:0<=J
 .rw[if_pos c]at h
  by_cases a:J<b
  .rw[if_pos a]at h
   have e:=ϛ h;exact⟨by rw[acK c a,e],by omega,by omega,a⟩
  simp_all
 .rw[if_neg c]at h
  by_cases a : -(b)<=J
  .rw[if_pos a]at h
   have e:=ϛ h;exact⟨by rw[acL (by omega) a,e],by omega,a,by omega⟩
  simp_all
theorem rj{α xs}{v:α}(h:jH xs J=some v):∃j,acJ J xs.length=some j/\xs[j]?=some v/\j<xs.length /\ -xs.length<=J/\J<xs.length:=by
 unfold jH at h;cases e:tL xs.length J with
 |none=>simp_all
 |some j=>
  refine kH (ri e) λb c a=>xa a λd f=>?_
  simp_all
theorem dB{α xs}{v:α}(h:xs[b]?=some v):jH xs b=some v:=by
 have a:=(Ì.mp h).1
 have e:tL xs.length (b)=some b:=by
  unfold tL
  simp_all
 unfold jH;rwa[e]
def xQ(b):=∀o i,acM b false o i=operate [o,i] (Ŗ o i)
def JB(X)(r:R2):=
 ∀b a pins s (c:St) H x y v u Q,Inv X pins c H s->RelV x v->RelV y u->r x y H Q ->
  acM a false v u=operate [v,u] (Ŗ v u)->nc (p' X.prog X.w) X.A (subscriptTail b a v u) (EP X pins c Q) X.xe s
def Ow(X)(id:String)(r:V->List V->Hp->VK->Prop):=
 ∀pins s (a:St) H x b v c Q,Inv X pins a H s->RelV x v->Vals b c->r x b H Q ->
  nc (p' X.prog X.w) X.A (call (.builtin id) (v::c)) (EP X pins a Q) X.xe s
variable{C6 u9:R2}
theorem JB.or(h:JB c C6)(h':JB c u9):JB c (λx y H Q=>C6 x y H Q\/u9 x y H Q):=by
 intro a b pins s d H x y v u Q I e f q g;rcases q with q|q
 .exact h _ _ _ s d H x y v u Q I e f q g
 .exact h' _ _ _ s d H x y v u Q I e f q g
variable{L4:TE}{R:A'}
theorem JC(a:JB c C6)(b:PE c n ψ)(d:PE c R L4)(e:xQ R):PE c (.Subscript n R o) (Ov C6 ψ L4):=by
 intro pins s f H Q I h;exact acI (Li b d I h λv u g x y i j k l q=>a n R _ g f i x y v u Q j k l q (e _ _))
def Pp(K:K'):R2:=λx y H Q=>∃p a i v,x=.ref p/\y=.int i/\ly K H p a/\jH a i=some v/\Q v H
def Pq(K:K'):R2:=λx y H Q=>∃p a i v,x=.ref p/\y=.int i/\vz K H p a/\jH a i=some v/\Q v H
def WH:R2:=λx y H Q=>∃z i c,x=.str z/\y=.int i/\z.length<=Q'/\jH z.cps.toList i=some c/\Q (.str ⟨#[c]⟩) H
theorem Gm:JB c (Pp c.K):=by
 intro b d pins s o H x y v u Q I A B h l;obtain⟨p,L,i,z,rfl,rfl,C,D,q⟩:=h;cases A;obtain⟨t,rfl⟩:=B;refine ay (I.list C) λe r f M=>?_
 refine dN (rj D) λj m E N g=>xa g λF G=>?_
 obtain⟨w,O,k⟩:=r.get E;have P:=r.length;have R:=hZ;have a:EP c _ o Q w s:=⟨z,H,I,k,q⟩
 by_cases n:0<=i
 .have J:i.toNat=j:=by
   rw[acK n G]at m
   simp_all
  exact item_listR f.isList n (by omega) (by simp_all) a l
 .have J:(i+(e.toArray.size)).toNat=j:=by
   rw[acL (by omega) F]at m
   simp_all
  exact aeh f.isList.typeIs aei.lookup
   (wpAny_getItem_list_neg f.isList (by omega) (by simp_all) (by omega) (by simp_all) ⟨rfl,a⟩) l
theorem Lw:JB c (Pq c.K):=by
 intro a b pins s B H x y v u Q I g k h l;obtain⟨p,C,i,z,rfl,rfl,m,n,q⟩:=h;cases g;obtain⟨t,rfl⟩:=k;refine ay (I.tuple m) λo r f D=>?_
 refine dN (rj n) λj E A F d=>xa d λG J=>?_
 obtain⟨w,L,e⟩:=r.get A;have M:=r.length;have N:=hZ
 exact aeh f.typeIs slot_tuple_getitem.lookup
  (getItem_tuple (j:=j) f (by omega) (by omega) (by simp_all) (by simp_all) ⟨rfl,⟨z,H,I,e,q⟩⟩) l
def rIx(K:K'):R2:=λx y H Q=>Pp K x y H Q\/Pq K x y H Q\/WH x y H Q
theorem BO:JB c (rIx c.K):=Gm.or (Lw.or (by
  intro a b pins s r H x y v u Q I f g h k;obtain⟨z,i,d,rfl,rfl,w,l,q⟩:=h;obtain⟨t,rfl⟩:=f;obtain⟨A,rfl⟩:=g;refine dN (rj l) λj m B C e=>xa e λn o=>?_
  have p:z.cps.toList.length=z.length:=by rfl
  rw[p]at m n o;have D:=hZ
  exact tail_any (ϫ s z t) slot_str_getitem.lookup (getItem_str (by
   grind) (by grind) ⟨.str ⟨_⟩,H,I.tok _,⟨_,rfl⟩,q⟩) k))
theorem vK(a:List f')(n j u):ě (·.setIfInBounds j u) {cls:=.type "list",data:=.seq a.toArray n}={cls:=.type "list",data:=.seq (a.set j u).toArray n}:=by
 simp[ě]
theorem Inv.lst{X pins}{b:St}{H s p xs}(I:Inv X pins b H s)(h:H p=some (.lst xs)):
  ∃a n,Vals xs a/\s.heap.get? p=some {cls:=.type "list",data:=.seq a.toArray n}/\xs.length<=Q':=by
 obtain⟨z,a,n,r,e⟩:=I.hok p _ h;exact⟨_,n,r,e,z⟩
variable{G:List (b'×Obj)}{R6 j0:List f'}{S y6:List V}{X:St}{d:Hp}{j:b'}
theorem Inv.Ly{s f}(I:Inv c G X d s)(h:d j=some (.lst S))(i:s.heap.get? j=some {cls:=.type "list",data:=.seq j0.toArray b})(g:f {cls:=.type "list",data:=.seq j0.toArray b}={cls:=.type "list",data:=.seq R6.toArray w})(r:Vals y6 R6)(hz:y6.length<=Q')(t):
  Inv c G X (upd d j (.lst y6)) {s with heap:=s.heap.update j f,toks:=t}:=by
 have e:(s.heap.update j f).get? j=some {cls:=.type "list",data:=.seq R6.toArray w}:=by
  rw[Ĝ f i (by rw[g]<;>rfl),g]
 refine I.write (by rw[h];trivial) (.inl rfl) (λa u k q=>(ĉ _ _ (Ç k)).trans q) ⟨_,e⟩ ⟨hz,_,w,r,e⟩
def Pr:V->V->V->Hp->(Hp->Prop)->Prop:=λo i v H Q=>∃p a k j,o=.ref p/\i=.int k/\H p=some (.lst a)/\tL a.length k=some j/\Q (upd H p (.lst (a.set j v)))
theorem set_list:Wt c Pr:=by
 intro pins s B H o i v C D u Q I m w x h;obtain⟨p,E,k,j,rfl,rfl,e,y,q⟩:=h;cases m;obtain⟨t,rfl⟩:=w;obtain⟨a,n,r,b,F⟩:=I.lst e;obtain⟨f,G,z,A⟩:=ri y;have J:=r.length;have K:=hZ
 have g:=
  I.Ly e b (vK _ n j u) (r.set x j) (by simp_all) s.toks
 by_cases l:0<=k
 .have d:k.toNat=j:=by
   rw[acK l A]at f
   simp_all
  exact PySem.W.ki_setAt b l (by omega) (by simp_all) (by rw[d];exact⟨_,g,q⟩)
 .have d:(k+(a.toArray.size)).toNat=j:=by
   rw[acL (by omega) z]at f
   simp_all
  exact PySem.W.ki_setBack b (by omega) (by simp_all) (by omega) (by rw[d];exact⟨_,g,q⟩)
theorem rl(a b n):(Ż a b none n).1=((HT.jG n 0 a))/\(Ż a b none n).2.1=((HT.jG n n b))/\(Ż a b none n).2.2=1:=by
 refine⟨?_,?_,rfl⟩
 .cases a with
  |none=>rfl
  |some i=>
   simp only[Ż,HT.jG,aej,show(1)>0 by decide,if_true]
   grind
 .cases b with
  |none=>rfl
  |some i=>
   simp only[Ż,HT.jG,aej,show(1)>0 by decide,if_true]
   grind
theorem o_(a:List f')(b c):slicePick a.toArray b c none=((a.drop (HT.jG a.length 0 b)).take (HT.jG a.length a.length c - HT.jG a.length 0 b)).toArray:=by
 obtain⟨d,e,f⟩:=rl b c _;unfold slicePick;rw[d,e,f];simp only[sliceRange_one,pick_run,å]
def Pt(K:K'):V->Option Int->Option Int->Hp->VK->Prop:=λx c d H Q=>∃a b,x=.ref a/\ly K H a b/\∀p,H p=none->Q (.ref p) (upd H p (.lst (Gk b c d)))
theorem jI:Lv c (Pt c.K):=by
 intro pins s t H x v u w f g y Q I i j k l h;obtain⟨a,m,rfl,n,q⟩:=h;cases i;obtain⟨o,r,e,p⟩:=I.list n;have d:=r.length;refine⟨_,_,aei.lookup,e.isList.typeIs,?_⟩;refine wpAny_getItem_list_slice e.isList j k l .none (by simp) ?_ (by simp_all)
 rw[o_,←d];refine⟨.ref _,_,I.laid (λb z q=>X' _ q) (O' _) ?_,rfl,q _ (I.hok.fresh (O' _))⟩
 exact⟨B' (tK m f g) p,_,0,(r.drop _).take _,Ó _ rfl⟩
theorem rm:dq c (.builtin "len") (λxs H Q=>∃p b,xs=[.ref p]/\(ly c.K H p b\/vz c.K H p b)/\Q (.int b.length) H):=by
 intro pins s j H xs k Q I r h;obtain⟨p,b,rfl,hq,q⟩:=h;obtain⟨u,rfl,g⟩:=vals1 r;cases g;have l:=hZ;rcases hq with hq|hq
 .obtain⟨d,e,f,i⟩:=I.list hq
  have a:=e.length;exact Calls.call_len_list f.isList (by grind) ⟨.int _,H,I.tok _,⟨s.toks+1,by grind⟩,q⟩
 .obtain⟨d,e,f,i⟩:=I.tuple hq
  have a:=e.length;exact len_tuple f (by grind) ⟨.int _,H,I.tok _,⟨s.toks+1,by grind⟩,q⟩
theorem rn:dq c (.builtin "len") (λxs H Q=>∃z,xs=[.str z]/\z.length<=Q'/\Q (.int z.length) H):=by
 intro pins s a H xs b Q I r h;obtain⟨z,rfl,d,q⟩:=h;obtain⟨u,rfl,t,rfl⟩:=vals1 r;have e:=hZ;exact len_str (by omega) ⟨.int _,H,I.tok _,⟨_,rfl⟩,q⟩
variable{U:f'}{h9:List V->Hp->VK->Prop}
theorem dq.or{a}(h:dq c U h9)(h':dq c U a):dq c U (λxs H Q=>h9 xs H Q\/a xs H Q):=by
 intro pins s b H xs d Q I e q;rcases q with q|q
 .exact h _ s b H xs d Q I e q
 .exact h' _ s b H xs d Q I e q
theorem rz:dq c (.type "list") (λxs H Q=>∃p f,xs=[.ref p]/\(ly c.K H p f\/vz c.K H p f)/\∀l,H l=none->Q (.ref l) (upd H l (.lst f))):=by
 intro pins s B H xs D Q I r h;obtain⟨p,f,rfl,hq,q⟩:=h;obtain⟨u,rfl,C⟩:=vals1 r;cases C
 have j:∀(a:List _),Vals f _->f.length<=Q'->∀(d:I') (i:Nat),(∀b A,s.heap.get? b=some A->d.get? b=some A) ->
   d.get? _=some _->EP c _ B Q _ _:=λa g k d i m e=>
  ⟨.ref _,_,I.laid (t':=s.toks) m (O' _) (show cL _ _ _ d _ (.lst f)from⟨k,a,i,g,e⟩),rfl,q _ (I.hok.fresh (O' _))⟩
 rcases hq with hq|hq
 .obtain⟨a,g,w,k⟩:=I.list hq
  have t:=g.length;obtain⟨o,x,y,n,z⟩:=w.isList;exact aek p (.inl rfl) x y z (λd i m e=>j _ g k d i m e) (by grind)
 .obtain⟨a,g,w,k⟩:=I.tuple hq
  have t:=g.length;obtain⟨o,x,y,n,z⟩:=w;exact aek p (.inr rfl) x y z (λd i m e=>j _ g k d i m e) (by grind)
theorem pb:dq c (.type "tuple") (λxs H Q=>∃p a,xs=[.ref p]/\((ly c.K H p a/\∀l,H l=none->Q (.ref l) (upd H l (.tup a)))\/(vz c.K H p a/\Q (.ref p) H))):=by
 intro pins s w H xs x Q I r h;obtain⟨p,a,rfl,h⟩:=h;obtain⟨u,rfl,n⟩:=vals1 r;cases n;rcases h with ⟨d,q⟩|⟨d,q⟩
 .obtain⟨f,g,i,j⟩:=I.list d
  have k:=g.length;refine call_tuple_list i.isList (λy t=>?_) (by grind)
  have m:=I.kept (t':=s.toks) t;exact⟨.ref _,_,(m.laid (λb o e=>X' _ e) (O' _) (show cL _ _ _ _ _ (.tup a)from⟨j,_,g,IsTup.new _ _⟩)),rfl,q _ (m.hok.fresh (O' _))⟩
 .obtain⟨f,g,i,j⟩:=I.tuple d
  exact call_tuple_same i ⟨.ref p,H,I,rfl,q⟩
def Ox(K:K')(T:String)(x:V)(H:Hp):Prop:=match x with
 |.str _=>T="str"
 |.int _=>T="int"
 |.ref p=>(T="list"/\∃b,ly K H p b)\/(T="tuple"/\∃o,K.lookup p=some o/\o.cls=.type "tuple"/\o.dict=none) \/
   (T="dict"/\((∃a,H p=some (.dK a))\/∃a,H p=some (.dT a)))\/(T="set"/\∃S n,H p=some (.set S n))
 |_=>False
variable{A:V}{i6:String}{x:g'}
theorem Lz(I:Inv c G X d x)(r:RelV A U)(h:Ox c.K i6 A d):
  x.TypeIs U i6/\∀a,U=.ref a->∃m,x.heap.get? a=some m/\m.dict=none:=by
 cases A with
 |str z=>
  obtain⟨t,rfl⟩:=r;cases (h);exact⟨ϫ x z t,by simp⟩
 |int i=>
  obtain⟨t,rfl⟩:=r;cases (h);exact⟨typeIs_int x i t,by simp⟩
 |ref p=>
  cases r;rcases h with ⟨rfl,B,u⟩|⟨rfl,o,b,w,q⟩|⟨rfl,b⟩|⟨rfl,S,n,b⟩
  .refine ay (I.list u) λy _ s _=>?_
   refine⟨s.isList.typeIs,λa e=>?_⟩
   refine bQ s λo n e j q _=>?_
   simp_all
  .refine⟨⟨o,I.fF p o b,w⟩,λa e=>?_⟩
   cases e;exact⟨o,I.fF _ o b,q⟩
  .have z:∃o,x.heap.get? p=some o/\o.ExactDict:=by
    rcases b with ⟨k,b⟩|⟨k,b⟩
    .refine hU (I.hok p _ b) λ_ _ _ _ f=>cX f λo _ _ e g _=>?_
     grind
    .refine hU (I.hok p _ b) λ_ _ _ _ f=>cX f λo _ _ e g _=>?_
     grind
   refine bx z λo e g=>?_
   refine⟨⟨o,e,g.1⟩,λa l=>?_⟩
   cases l;exact⟨o,e,g.2.1⟩
  .refine bp (I.hok p _ b) λo _ _ _ e g _=>?_
   refine⟨⟨o,e,g.1⟩,λa l=>?_⟩
   cases l;exact⟨o,e,g.2.1⟩
 |_=>exact þ h
noncomputable def tBM(K:K')(T:String)(r:V->List V->Hp->VK->Prop)(c:TE)(t:TA):TE:=λa H Q=>c a H λx b=>Ox K T x b/\t a b λd e=>r x d e Q
variable{E5:TA}{Q:List A'}{h:Str}{m8:String}
theorem Pu{r}(p:PlainAttrs i6)(slot:Slot i6 h m8)(i:typeOf (.builtin m8)=pure (.type "method_descriptor"))(q:Ow c m8 r)(t:PE c n ψ)(u:PA c (R::Q) E5)(a:ø n h c.env (eval n c.env)=eval n c.env:=by rfl)(f:((À P (D' (R::Q) c.env)).all (λx=>!x.1)&&(ù P (ú [] c.env)).all (λx=>x.1.isSome)
   && decide ((R::Q).length+([]:List ĩ).length+(if ([]:List ĩ).isEmpty then 0 else 1)<30))=true:=by rfl)(b:(o.endLine==P.line)=true:=by rfl)(w:D' (R::Q) c.env=(false,eval R c.env)::D' Q c.env:=by rfl)(g:(À P (D' Q c.env)).any (·.1)=false:=by rfl):
  PE c (.Call (.Attribute n h o) (R::Q) [] P) (tBM c.K i6 r ψ E5):=by
 intro pins s j H d I e;refine wpAny_Call_method_late a f b rfl (bV (t _ s j H _ I e) λv y z=>?_);refine bQ z λx A k l B C=>?_
 obtain⟨D,E⟩:=Lz k l B;refine⟨i6,m8,p,slot,i,D,E,?_⟩;have m:=u P _ y j A _ k C;rw[w]at m ⊢;refine ŗ (by simp_all) (Calls.evalArgs_plain (bV m λF G  J =>aP J λL M N O S=>q _ G j M x L v F d N l O S))
def Ue(X)(id:String)(r:V->List V->Hp->VK->Prop):=
 ∀pins s (a:St) H x b v c Q,Inv X pins a H s->RelV x v->Vals b c->r x b H Q ->
  nc (p' X.prog X.w) X.A (call (.builtin id) (v::c)) (EP X pins a Q) X.xe s
def Vals.one(h:Vals [A] j0):=vals1 h
variable{G4:V}
def Vals.two(h:Vals [A,G4] j0):=vals2 h
theorem Vals.eraseIdx:∀{xs}{a} i,Vals xs a->Vals (xs.eraseIdx i) (a.eraseIdx i)
 |_,_,_,.nil=>.nil
 |_,_,0,.cons _ t=>t
 |_,_,i+1,.cons r t=>.cons r (Vals.eraseIdx i t)
theorem Inv.Gn{s f}(I:Inv c G X d s)(a:d j=some (.lst S))(e:s.heap.get? j=some {cls:=.type "list",data:=.seq j0.toArray b})(g:f j0.toArray=R6.toArray)(h:Vals y6 R6)(hz:y6.length<=Q'):
  Inv c G X (upd d j (.lst y6)) {s with heap:=s.heap.update j (ě f),toks:=w}:=by
 have q:=af9 e f;rw[g]at q;refine I.write (by rw[a];exact trivial) (.inl rfl) (λl u i k=>(ĉ _ _ (Ç i)).trans k) ⟨_,q⟩ ⟨hz,_,_,h,q⟩
theorem Inv.WJ{s}(I:Inv c G X d s)(a:Vals S j0)(hz:S.length<=Q'):
  Inv c G X (upd d s.heap.objs.size (.lst S)) {s with heap:=s.heap.push {cls:=.type "list",data:=.seq j0.toArray},toks:=b}:=
 I.laid (λ_ _ q=>X' _ q) (O' _) ⟨hz,_,0,a,Ó _ rfl⟩
def Inv.fresh{X pins}{a:St}{H s}(I:Inv X pins a H s):=I.hok.fresh (O' _)
theorem Inv.BP(I:Inv c G X d x)(f:d j=some (.lst S)):S.length<=Q'/\∃a n,Vals S a/\S.length=a.length/\x.heap.get? j=some {cls:=.type "list",data:=.seq a.toArray n}:=by
 refine xa (I.hok j _ f) λz b=>cg b λa n r e=>⟨z,_,n,r,r.length,e⟩
theorem BQ(h:b<=Q'):af' b=false:=decide_eq_false (Nat.not_lt_of_le h)
def xR:V->List V->Hp->VK->Prop:=λx b H Q=>∃l a y,x=.ref l/\b=[y]/\H l=some (.lst a)/\a.length<Q'/\Q .non (upd H l (.lst (a++[y])))
theorem pO:Ue c "list.append" xR:=by
 intro pins s j H x k v m Q I d f h;obtain⟨l,o,y,rfl,rfl,b,p,q⟩:=h;cases d;obtain⟨u,rfl,g⟩:=f.one;refine xa (I.BP b) λz a=>aP a λi n r t e=>?_
 refine Ī ael ⟨_,e,rfl⟩ F.entry_list_append (F.args_list_append_2 _ _) (PySem.list_append l _ n u (by simp_all)) ⟨e,?_⟩
 refine⟨.non,_,I.Gn b e (by simp) (r.append (.cons g .nil)) ?_,rfl,q⟩
 grind
def xS:V->List V->Hp->VK->Prop:=λx c H Q=>∃l b a zs,x=.ref l/\c=[.ref b]/\H l=some (.lst a)/\H b=some (.lst zs)/\a.length+zs.length<=Q'/\Q .non (upd H l (.lst (a++zs)))
theorem zX:Ue c "list.extend" xS:=by
 intro pins s C H x D v E Q I m o h;refine bo h λl b G zs g i k p J q=>?_;subst g;subst i
 cases m;obtain⟨u,rfl,t⟩:=o.one;cases t;refine xa (I.BP k) λz a=>aP a λj n r K e=>?_
 refine xa (I.BP p) λL a=>aP a λf w y A B=>?_
 have d:j.toArray.size+f.toArray.size<=Q':=by simp_all
 refine Ī aem ⟨_,e,rfl⟩ F.entry_list_extend (F.args_list_extend_2 _ _)
  (AutoSeq1.list_extend_list_list_0 l _ n b _ w (by
  rw[BQ d];simp) (B' (ó _ _) d) (aen d)) ⟨e,B,?_⟩
 refine⟨.non,_,I.Gn k e (by simp) (r.append y) ?_,rfl,q⟩
 grind
def BR:V->List V->Hp->VK->Prop:=λx b H Q=>∃l a i k y,x=.ref l/\b=[.int i]/\H l=some (.lst a) /\ -(2 ^ 63)<=i/\i<2 ^ 63/\acJ i a.length=some k/\a[k]?=some y/\Q y (upd H l (.lst (a.eraseIdx k)))
theorem BS:Ue c "list.pop" BR:=by
 intro pins s A H x B v C Q I d f h;obtain⟨l,D,i,k,y,rfl,rfl,b,g,j,E,m,q⟩:=h;cases d;obtain⟨u,rfl,o⟩:=f.one;obtain⟨t,rfl⟩:=o;obtain⟨z,p,n,r,G,e⟩:=I.BP b;obtain⟨w,J,a⟩:=r.get m
 refine Ī aeo ⟨_,e,rfl⟩ F.entry_list_pop (F.args_list_pop_2 _ _)
  (MeetsSeq.list_pop_at l _ n i t k w (aep g j) (by simp_all) (by simp_all) (by grind)) ⟨e,?_⟩
 refine⟨y,_,I.Gn b e ?_ (r.eraseIdx k) ?_,a,q⟩
 .simp
 grind
variable{Q6:Option f'}{r8:Option V}
section
variable{κ:Type}[DecidableEq κ]
noncomputable def iR(kvs:List (κ×V))(k):=(kvs.find? λa=>decide (a.1=k)).map (·.2)
noncomputable def putK(kvs)(k:κ)(v:V):=
 if (kvs.any λa=>decide (a.1=k))=true then kvs.map (λa=>if a.1=k then (a.1,v)else a)else kvs++[(k,v)]
noncomputable def ng(kvs:List (κ×V))(k):=kvs.filter λa=>decide (a.1≠k)
theorem jJ{p r}{k:κ}(e:p.1=k):iR (p::r) k=some p.2:=by simp[iR,Ē,e]
theorem jK{p r}{k:κ}(e:¬ p.1=k):iR (p::r) k=iR r k:=by simp[iR,Ē,e]
theorem tN(k:κ):∀kvs:List (κ×V),(kvs.any λb=>decide (b.1=k))=(iR kvs k).isSome
 |[]=>rfl
 |p::r=>by
  rw[ĝ]
  by_cases e:p.1=k
  .simp only[jJ e,decide_eq_true e,Bool.true_or,aeq]
  .rw[jK e,decide_eq_false e];exact tN k r
theorem el(kvs)(k:κ)(v):(putK kvs k v).length<=kvs.length+1:=by
 unfold putK
 grind
theorem hY.gf(r:hY r8 Q6):r8.isSome=Q6.isSome:=by
 cases r8 with
 |none=>cases Q6 with
  |none=>rfl
  |some _=>exact(r).elim
 |some _=>cases Q6 with
  |none=>exact(r).elim
  |some _=>rfl
theorem KV.val{kvs c}(r:KV kvs c)(k:κ):hY (iR kvs k) (Ř c k):=by
 induction r with
 |nil=>exact ö
 |@cons p q g a h t i=>
  obtain⟨d,j⟩:=h
  by_cases e:p.1=k
  .have b:Ř (q::a) k=some q.2:=by simp[Ř,Ē,(d.symm.trans e)]
   rwa[jJ e,b]
  .have f:¬ q.1=k:=λz=>e (d.trans z)
   have b:Ř (q::a) k=Ř a k:=by simp[Ř,Ē,f]
   rwa[jK e,b]
theorem KV.any{kvs b}(r:KV kvs b)(k:κ):(kvs.any λa=>decide (a.1=k))=b.any λa=>decide (a.1=k):=by
 induction r with
 |nil=>rfl
 |cons h t c=>simp_all
theorem KV.repl{kvs b}(r:KV kvs b)(k:κ)(d:RelV A U):
  KV (kvs.map λa=>if a.1=k then (a.1,A)else a) (b.map λa=>if a.1=k then (a.1,U)else a):=by
 induction r with
 |nil=>exact .nil
 |@cons p q e f h t c=>
  refine .cons ?_ c
  grind
theorem KV.put{kvs a}(r:KV kvs a)(k:κ)(b:RelV A U):KV (putK kvs k A) (ē a k U):=by
 unfold putK ē;rw[r.any k]
 by_cases e:(a.any λc=>decide (c.1=k))=true
 .rw[if_pos e,if_pos e];exact r.repl k b
 .rw[if_neg e,if_neg e];exact aer r ⟨rfl,b⟩
theorem KV.drop{kvs a}(r:KV kvs a)(k:κ):KV (ng kvs k) (without a k):=by
 unfold ng without
 induction r with
 |nil=>exact .nil
 |@cons p q g i h t c=>
  obtain⟨b,d⟩:=h;rw[ī,ī]
  by_cases e:p.1=k
  .simp_all
  .have f:¬ q.1=k:=λz=>e (b.trans z)
   rw[if_pos (by simp[e]),if_pos (by simp[f])];exact .cons ⟨b,d⟩ c
theorem KV.length{kvs:List (κ×V)}{a}(r:KV kvs a):kvs.length=a.length:=ŧ r
theorem BU(kvs)(k:κ):(ng kvs k).length<=kvs.length:=acN _ _
end
variable{I:Á}{M:W'}{z7:Key}
theorem lD(r:RelV (kV z7) U):(bz I M).is z7 U=true:=by
 cases z7 with
 |inl i=>obtain⟨t,e⟩:=(r);subst e;exact zM i t
 |inr x=>obtain⟨t,e⟩:=(r);subst e;exact zN x t
theorem pP{P w}:∀{a}{b},Vals (a.map kV) b->ItemsAre (bz P w) a b
 |[],_,r=>by cases r;exact .nil
 |k::a,_,r=>by
  cases r with
  |cons h t=>exact .cons (lD h) (pP t)
abbrev KT(H:Hp):List (List Key×V)->List (List Key×b'×f')->Prop:=é λp q=>p.1=q.1/\H q.2.1=some (.tup (p.1.map kV))/\RelV p.2 q.2.2
variable{B9:List (List Key×b'×f')}{E7:List (List Key×V)}
theorem KT.val(r:KT d E7 B9)(k):hY (iR E7 k) ((Ĭ B9 k).map (·.2)):=by
 induction r with
 |nil=>exact ö
 |@cons p q g a h t i=>
  obtain⟨c,_,j⟩:=h
  by_cases e:p.1=k
  .have b:Ĭ (q::a) k=some q.2:=by simp[Ĭ,Ē,(c.symm.trans e)]
   rwa[jJ e,b]
  .have f:¬ q.1=k:=λz=>e (c.trans z)
   have b:Ĭ (q::a) k=Ĭ a k:=by simp[Ĭ,Ē,f]
   rwa[jK e,b]
theorem KT.repl(r:KT d E7 B9)(k)(c:RelV A U):
  KT d (E7.map λa=>if a.1=k then (a.1,A)else a) (B9.map (putAt k U)):=by
 induction r with
 |nil=>exact .nil
 |@cons p q f g h t b=>
  refine .cons ?_ b;unfold putAt
  by_cases e:p.1=k
  .simp_all
  simp_all
theorem KT.put(r:KT d E7 B9)(k)(b:d j=some (.tup (k.map kV)))(a:RelV A U):
  KT d (putK E7 k A) (storedH B9 k j U):=by
 have e:(E7.any λc=>decide (c.1=k))=(Ĭ B9 k).isSome:=by
  rw[tN,(r.val k).gf,acO]
 unfold putK storedH;rw[e]
 by_cases q:(Ĭ B9 k).isSome=true
 .rw[if_pos q,if_pos q];exact r.repl k a
 .rw[if_neg q,if_neg q];exact aer r ⟨rfl,b,a⟩
variable{υ:Hp}
theorem KT.keeps(r:KT d E7 B9)(c:∀b a,d b=some (.tup a)->υ b=some (.tup a)):KT υ E7 B9:=
 Paired.FQ r λ_ _ z=>⟨z.1,c _ _ z.2.1,z.2.2⟩
variable{L:I'}{m4:HO}
def BV(ok:hJ I M d L)(e:Rd d j m4):=e.ok ok
variable{R5:List (Key×V)}
theorem iX(ok:hJ I M d L)(e:Rd d j (.dK R5)):R5.length<=Q'/\(j==ì)=false/\∃a,KV R5 a/\L.DictOf (bz I M) j a:=
 BV ok e
def JD(ok:hJ I M d L)(e:d j=some (.dK R5)):=iX ok (.inl e)
variable{j9:List Key}
theorem kK(ok:hJ I M d L)(e:d j=some (.tup (j9.map kV))):(Ũ (bz I M)).is L j9 j:=by
 obtain⟨_,a,r,o,b,c,n,f⟩:=(ok j _ e);exact⟨o,_,n,b,c,f,by simpa using pP r⟩
theorem pQ(ok:hJ I M d L)(e:Rd d j (.dT E7)):E7.length<=Q'/\(j==ì)=false /\
  ∃xs,KT d E7 xs/\L.DictOfH (Ũ (bz I M)) j xs:=by
 obtain⟨z,y,xs,r,o,b,c,f,g,h,i,k⟩:=(BV ok e);refine⟨z,y,xs,r,o,b,c,f,g,h,i,λx hx=>?_,k⟩
 have a:∀{l:List _}{m:List _},KT d l m->∀x∈m,(Ũ (bz I M)).is L x.1 x.2.1:=by
  intro l m q
  induction q with
  |nil=>simp
  |@cons p q s u w t n=>
   intro x hx;rcases È.mp hx with e|hx
   .exact kK ok (by simp_all)
   .exact n x hx
 exact a r x hx
def BW(ok:hJ I M d L)(e:d j=some (.dT E7)):=pQ ok (.inl e)
def kL(H a y)(r:Option V):=
 (∃c k,Rd H a (.dK c)/\y=kV k/\r=iR c k)\/∃c k b,Rd H a (.dT c)/\y=.ref b/\H b=some (.tup (k.map kV))/\r=iR c k
def tP(H a y v d):=
 (∃c k,H a=some (.dK c)/\y=kV k/\c.length<Q'/\d=upd H a (.dK (putK c k v))) \/
 ∃c k b,H a=some (.dT c)/\y=.ref b/\H b=some (.tup (k.map kV))/\c.length<Q'/\d=upd H a (.dT (putK c k v))
theorem kL.k{H a kvs k}(e:H a=some (.dK kvs)):kL H a (kV k) (iR kvs k):=.inl ⟨_,k,.inl e,rfl,rfl⟩
variable{N:b'}
theorem kL.t(e:d j=some (.dT E7))(a:d N=some (.tup (j9.map kV))):kL d j (.ref N) (iR E7 j9):=.inr ⟨_,j9,N,.inl e,rfl,a,rfl⟩
theorem tP.k{H a kvs k v}(e:H a=some (.dK kvs))(b:kvs.length<Q'):tP H a (kV k) v (upd H a (.dK (putK kvs k v))):=.inl ⟨_,k,e,rfl,b,rfl⟩
theorem tP.t(e:d j=some (.dT E7))(a:d N=some (.tup (j9.map kV)))(b:E7.length<Q'):
  tP d j (.ref N) A (upd d j (.dT (putK E7 j9 A))):=.inr ⟨_,j9,N,e,rfl,a,b,rfl⟩
theorem Inv.big(I:Inv c G X d x):ì<x.heap.objs.size:=Â (by decide) ((I.mod.glob.keeps I.bk).lt)
variable{D5 ν:f'->g'->Prop}{θ:Æ}
theorem zY(u:θ.units+1<É)(I:Inv c G X d x)(g:kL d j A (some G4))(s:RelV A U)(h:∀i t,Inv c G X d t->RelV G4 i->D5 i t):
  nc (p' c.prog c.w) θ (Ŗ (.ref j) U) D5 ν x:=by
 rcases g with ⟨m,k,e,n,l⟩|⟨m,k,b,e,n,y,l⟩
 .subst n
  obtain⟨z,B,D,a,o⟩:=iX I.hok e;obtain⟨i,q,f⟩:=hY.some_of (by rw[l];exact a.val k)
  exact wpAny_getItem_of (lD s) o.mapOf q (h i _ (I.tok _) f)
 .subst n
  cases (s);obtain⟨z,B,E,a,o⟩:=pQ I.hok e;obtain⟨i,q,f⟩:=hY.some_of (by rw[l];exact a.val k)
  obtain⟨p,C,r⟩:=Ã.mp q;refine wpAny_getItem_heap (Ϭ u) (kK I.hok y) o C ?_;rw[r];exact h i _ (I.tok _) f
theorem WK(r:θ.units+1<É)(I:Inv c G X d x)(g:kL d j A r8)(o:RelV A U)(h:∀p,Inv c G X d p->D5 (.bool r8.isSome) p):
  nc (p' c.prog c.w) θ (á .In U (.ref j)) D5 ν x:=by
 rcases g with ⟨f,k,e,i,l⟩|⟨f,k,b,e,i,s,l⟩
 .subst i
  obtain⟨z,m,t,a,n⟩:=iX I.hok e;refine wpAny_in_of (lD o) m n.mapOf ?_;rw[←(a.val k).gf,←l];exact h _ (I.tok _)
 .subst i
  cases (o);obtain⟨z,m,u,a,n⟩:=pQ I.hok e;refine wpAny_in_heap (Ϭ r) (kK I.hok s) m n ?_;have q:=(a.val k).gf;rw[acO]at q;rw[←q,←l];exact h _ (I.tok _)
theorem Gp(r:θ.units+1<É)(I:Inv c G X d x)(g:kL d j A r8)(o:RelV A U)(h:∀p,Inv c G X d p->D5 (.bool (!r8.isSome)) p):
  nc (p' c.prog c.w) θ (á .NotIn U (.ref j)) D5 ν x:=by
 rcases g with ⟨f,k,e,i,l⟩|⟨f,k,b,e,i,s,l⟩
 .subst i
  obtain⟨z,m,t,a,n⟩:=iX I.hok e;refine wpAny_notIn_of (lD o) m n.mapOf ?_;rw[←(a.val k).gf,←l];exact h _ (I.tok _)
 .subst i
  cases (o);obtain⟨z,m,u,a,n⟩:=pQ I.hok e;refine wpAny_notIn_heap (Ϭ r) (kK I.hok s) m n ?_;have q:=(a.val k).gf;rw[acO]at q;rw[←q,←l];exact h _ (I.tok _)
theorem jL{s}(I:Inv c G X d s)(f:Ua (d j))(g:Ķ j s.heap L)(h:∃q,L.get? j=some q)(e:cL c.prog c.w (upd d j m4) L j m4):
  Inv c G X (upd d j m4) {s with heap:=L,toks:=b}:=
 I.write f (.inl rfl) (λa q i z=>(g.2 a i).trans z) h e
theorem nj{a}(z:R5.length<=Q')(c:(j==ì)=false)(b:KV R5 a)(e:L.DictOf (bz I M) j a):
  cL I M d L j (.dK R5):=⟨z,c,a,b,e⟩
variable{L5:Unit->g'->Prop}{R4:f'}
theorem zZ(D:θ.units+1<É)(I:Inv c G X d x)(g:tP d j A G4 υ)(u:RelV A U)(y:RelV G4 R4)(h:∀B,Inv c G X υ B->L5 () B):
  nc (p' c.prog c.w) θ (setItem (.ref j) U R4) L5 ν x:=by
 rcases g with ⟨i,k,e,n,l,o⟩|⟨i,k,b,e,n,C,l,o⟩
 .subst n o
  obtain⟨z,p,E,a,r⟩:=JD I.hok e;have F:E.length<=Q':=by rwa[←a.length]
  refine wpAny_setItem_pairs (lD u) r λH f s=>h _ ?_
  exact jL I (by rw[e];exact ö) s (let ⟨q,_,_,m,_⟩:=f;⟨q,m⟩) (nj (by have:=el i k G4;exact B' this l) p (a.put k y) f)
 .subst n o
  cases (u);obtain⟨z,p,J,a,r⟩:=BW I.hok e;have F:J.length<=Q':=by rwa[←ŧ a]
  refine wpAny_setItem_heap (Ϭ D) (kK I.hok C) r λH f s=>h _ ?_
  obtain⟨q,K,L,m,M,N,O,_,P⟩:=f;refine jL I (by rw[e];exact ö) s ⟨q,m⟩ ⟨(by have:=el i k G4;exact B' this l),p,_,(a.put k C y).keeps λt Q R=>?_,q,K,L,m,M,N,O,P⟩
  rwa[ax (by grind)]
theorem Pw(I:Inv c G X d x)(e:d j=some (.dK R5))(k:RelV (kV z7) U)(l:iR R5 z7=some A)(n:j0=[]\/∃a,j0=[a])(h:∀f o,Inv c G X (upd d j (.dK (ng R5 z7))) o->RelV A f->D5 f o):nc (p' c.prog c.w) θ (call (.builtin "dict.pop") (.ref j::U::j0)) D5 ν x:=by
 obtain⟨z,r,s,b,p⟩:=JD I.hok e;obtain⟨f,u,m⟩:=hY.some_of (by rw[←l];exact b.val z7)
 refine ż aes p.typeIs PySem.F.entry_dict_pop (by
  rcases n with q|⟨a,q⟩
  .subst q;exact PySem.F.args_dict_pop_2 _ _
  .subst q;exact PySem.F.args_dict_pop_3 _ _ _) (meets_dict_pop_there _ j (lD k) _ n (by
  cases z7 with
  |inl i=>obtain⟨t,q⟩:=(show ∃t,U=Ŋ i t from k);subst q;rfl
  |inr a=>obtain⟨t,q⟩:=(show ∃t,U=ü a t from k);subst q;rfl))
  ⟨s,f,p,by rwa[←b.length],u,λC g y=>h f _ ?_ m⟩
 exact jL I (by rw[e];exact ö) y (let ⟨q,_,_,B,_⟩:=g;⟨q,B⟩) (nj (B' (BU _ z7) z) r (b.drop z7) g)
theorem Px(I:Inv c G X d x)(e:Rd d j (.dK R5))(h:∀t b,Inv c G X d b->D5 (.int R5.length t) b):nc (p' c.prog c.w) θ (call (.builtin "len") [.ref j]) D5 ν x:=by
 refine hU (iX I.hok e) λz f i a g=>?_
 refine call_len_dict f g (by rw[←a.length];rw[ò]at z;exact OW z) ?_
 rw[←a.length];exact h _ _ (I.tok _)
def Py(i):=∀a b,acM i false a b=operate [a,b] (Ŗ a b)
variable{u6:Ä}
theorem Gq(k:ŀ (.type i6) "__getitem__"=pure (some (.builtin m8)))(l:Py R)(h:nc (p' I M) θ (eval n u6) (λb e=>nc (p' I M) θ (eval R u6) (λi c=>c.TypeIs b i6/\nc (p' I M) θ (Ŗ b i) D5 ν c) ν e) ν x):
  nc (p' I M) θ (eval (.Subscript n R o) u6) D5 ν x:=by
 refine acI (à h (λb e f=>à f (λi c d=>?_) λ_ _ a=>a) λ_ _ a=>a)
 obtain⟨m,d⟩:=d;refine j' ?_;refine j' (aet m k ?_)
 first
  |exact F' (j' (by
  rw[l b i];exact wpAny_operating (à d (λr j g=>j' (wpAny_letTemporaryGo (F' g))) λ_ _ a=>a)))
theorem tQ(I:Inv c G X d x)(g:kL d j A r8):x.TypeIs (.ref j) "dict":=by
 rcases g with ⟨a,k,e,_,_⟩|⟨a,k,b,e,_,_,_⟩
 .obtain⟨_,_,h,_,f⟩:=iX I.hok e
  exact f.typeIs
 .obtain⟨_,_,i,_,f⟩:=pQ I.hok e
  exact f.typeIs
noncomputable def Pz(td d:TE):TE:=λb H Q=>td b H λx e=>d b e λy c=>∃a v,x=.ref a/\kL c a y (some v)/\Q v c
theorem Gr(f:c.A.units+1<É)(i:PE c n ψ)(j:PE c R L4)(k:Py R):PE c (.Subscript n R o) (Pz ψ L4):=by
 intro pins s d H Q I h;refine Gq PySem.F.slot_dict_getitem.lookup k (bV (i pins s d H _ I h) λu l ⟨x,H1,I1,rx,q1⟩=>bV (j pins l d H1 _ I1 q1) λw z m=>?_);obtain⟨y,p,e,q,a,v,r,g,t⟩:=m
 subst r;obtain rfl:u=Ð a:=rx;exact⟨tQ e g,zY f e g q λB C I3 b=>⟨v,p,I3,b,t⟩⟩
theorem tR(h:I')(a:ì<h.objs.size):cL I M d (h.push {cls:=.type "dict",data:=.dict #[]}) h.objs.size (.dT []):=
 ⟨æ _,by grind,[],.nil,_,_,0,Ó _ rfl,⟨rfl,rfl,rfl⟩,rfl,rfl,by simp⟩
def LA:TE:=λ_ H Q=>∀p,H p=none->Q (.ref p) (upd H p (.dK []))
def LB:TE:=λ_ H Q=>∀p,H p=none->Q (.ref p) (upd H p (.dT []))
theorem BX:PE c (.Dict [] [] o) LA:=λpins s a H Q I h=>
 aeu ⟨.ref _,_,I.laid (λ_ _ q=>X' _ q) (O' _) (by
   exact⟨æ _,beq_eq_false_iff_ne.mpr (Ç (U' I.big)),[],.nil,acP _⟩),rfl,h _ (I.hok.fresh (O' _))⟩
theorem BY:PE c (.Dict [] [] o) LB:=λpins s a H Q I h=>
 aeu ⟨.ref _,_,I.laid (λ_ _ q=>X' _ q) (O' _) (tR _ I.big),rfl,h _ (I.hok.fresh (O' _))⟩
def BZ:List (TE×TE)->St->Hp->(List (V×V)->Hp->Prop)->Prop
 |[],_,H,Q=>Q [] H
 | (a,b)::r,σ,H,Q=>a σ H λx c=>b σ c λy d=>BZ r σ d λe f=>Q ((x,y)::e) f
abbrev VV:List (V×V)->List (f'×f')->Prop:=é λp q=>RelV p.1 q.1/\RelV p.2 q.2
def Ug(X pos)(keys:List (Option A'))(a:List A')(b:List (TE×TE)):=
 ∀pins s (c:St) H Q,Inv X pins c H s->BZ b c H Q ->
  nc (p' X.prog X.w) X.A (evalPairs (pairTrees keys a X.env pos)) (λf g=>∃d e,Inv X pins c e g/\VV d f/\Q d e) X.xe s
theorem Gs:Ug c o [] [] []:=λpins s a H Q I h=>pairTrees_nil_walk ⟨[],H,I,.nil,h⟩
theorem B_{e a}(f:PE c n ψ)(g:PE c R L4)(i:Ug c o e Q a):
  Ug c o (some n::e) (R::Q) ((ψ,L4)::a):=λpins s b H d I h=>
 pairTrees_cons_walk (bV (f _ s b H _ I h) λu j ⟨x,H1,I1,rx,q1⟩=>bV (g _ j b H1 _ I1 q1) λl k ⟨y,H2,I2,ry,q2⟩=>
  bV (i _ k b H2 _ I2 q2) λm p ⟨q,H3,I3,rel,q3⟩=>⟨_,H3,I3,.cons ⟨rx,ry⟩ rel,q3⟩)
structure M1(X:Cx)(o:A')(m:Str)(apos:T')(e:A')(cpos:T'):Prop where
 base:ø o m X.env (eval o X.env)=eval o X.env
 few:((À cpos (D' [e] X.env)).all (λx=>!x.1)&&(ù cpos (ú [] X.env)).all (λx=>x.1.isSome)
  && decide (([e]:List A').length+([]:List ĩ).length+(if ([]:List ĩ).isEmpty then 0 else 1)<30))=true
 line:(apos.endLine==cpos.line)=true
 trees:À cpos (D' [e] X.env)=[(false,eval e X.env)]
structure M2(X:Cx)(o:A')(m:Str)(apos:T')(e f:A')(cpos:T'):Prop where
 base:ø o m X.env (eval o X.env)=eval o X.env
 few:((À cpos (D' [e,f] X.env)).all (λx=>!x.1)&&(ù cpos (ú [] X.env)).all (λx=>x.1.isSome)
  && decide (([e,f]:List A').length+([]:List ĩ).length+(if ([]:List ĩ).isEmpty then 0 else 1)<30))=true
 line:(apos.endLine==cpos.line)=true
 trees:À cpos (D' [e,f] X.env)=[(false,eval e X.env),(false,eval f X.env)]
def IsD(H a):=(∃b,Rd H a (.dK b))\/∃b,Rd H a (.dT b)
theorem nr(I:Inv c G X d x)(a:IsD d j):
  x.TypeIs (.ref j) "dict"/\(∀b,Ð j=.ref b->∃f,x.heap.get? b=some f/\f.dict=none)/\(j==ì)=false:=by
 rcases a with ⟨h,e⟩|⟨h,e⟩
 .obtain⟨_,i,m,_,g⟩:=iX I.hok e
  refine⟨g.typeIs,λb q=>?_,i⟩
  cases q;obtain⟨f,_,_,k,l,_⟩:=g;exact⟨f,k,l.2.1⟩
 .obtain⟨_,i,n,_,g⟩:=pQ I.hok e
  refine⟨g.typeIs,λb q=>?_,i⟩
  cases q;obtain⟨f,_,_,k,l,_⟩:=g;exact⟨f,k,l.2.1⟩
end L2
namespace Att
open PySem PySem.W PySem.Calls PyProof.Rows
variable{L:I'}
theorem lX{P}:∀c d,WellAll P L d (c.map WData.int)->ŕ d c:=by
 intro c
 induction c with
 |nil=>
  intro d w;cases w;exact .nil
 |cons n c e=>
  intro d w;cases w with
  |cons a b=>
   cases a;exact .cons _ _ (e _ b)
variable{b:Nat}{j0:List f'}
theorem z_{l:OpenLaw}(j:l.most=some b){P args}(c:l.row.toRowW.claim.pre args=true)(g:WellAll P L j0 args):
  ∃a i e,j0=[Ð a]/\args=[WData.list (e.map WData.int)]/\L.get? a=some {cls:=.type "list",data:=.seq i.toArray}/\ŕ i e/\e.length<=b:=by
 obtain⟨d,r,rfl,k,m⟩:=hasAllW_cons ((pre_splitW c).1);obtain rfl:=hasAllW_nil m;obtain⟨s,rfl,n⟩:=hasW_list k;obtain⟨e,rfl⟩:=items_int n;cases g with
 |cons o p=>
  cases p;cases o with
  |list q f=>exact⟨_,_,e,rfl,rfl,q,lX e _ f,(by
  have h:=by
   have h:=(holds_andW ((pre_splitW c).2)).1;rwa[j]at h
  have t:=condW_of h (w_not (w_lt w_lit (w_len_list (w_arg rfl))))
  simp_all)⟩
variable{Ea:DefRec}{I:Á}{J9:W'->I'->Prop}{Ma:(Str->Option f')->I'->Prop}{l:List Str}
theorem tT{d:OpenLaw}(E:d.most=some b)(u:Ea.params.defaults=[])(call:∀w e c p x i o y q j a h s,
   Ground I l [] Ma w e p x c.heap->J9 w c.heap ->
   c.heap.get? i=some o->o.data=.func (docDef Ea.name Ea.params Ea.body Ea.scope y q j)->c.heap.CodeRec q Ea.name->p Ea.name=some (.ref i) ->
   c.heap.get? a=some {cls:=.type "list",data:=.seq h.toArray}->ŕ h s->s.length<=b->c.gens = #[] ->
   â (p' d.prog w) Ł (.call (.ref i) ⟨[.ref a],[]⟩) (λr t=>r=.ok (.ret (.bool true))/\OldK c.heap t.heap/\t.os=c.os/\ą t.gens) c):
  WalkO I l Ma J9 d.row.toRowW Ea [] (λf h=>acQ f h):=by
 intro w e c p x G Y i o y q j F kV H J z C A K args vals R k D L B M;obtain rfl:F=.none:=Dflts.none C u;obtain rfl:kV=.none:=Dflts.noKw C;obtain⟨a,h,s,rfl,rfl,m,g,n⟩:=z_ E k B;refine enter_call (Ľ (call w _ _ p x i o y q _ a h s G Y H (fd_plain J) z A m g n K) λr t N=>?_)
 obtain⟨rfl,O,P,Q⟩:=N
 exact⟨.inl ⟨_,_,[],rfl,λ_=>rfl,.bool _,postW_of
    (by rfl)
    (w_eq_bool (w_res rfl) w_lit) rfl,by simp⟩,O,P,Q⟩
end Att
namespace L2
open PySem PySem.Spec PyProof.Rows
theorem kM:∀{a}{b},ŕ a b->Vals (b.map V.int) a
 |_,_,.nil=>.nil
 |_,_,.cons n t h=>.cons ⟨t,rfl⟩ (kM h)
def Only(H:Hp):=∀b,H b=none\/∃o a,H b=some (.cI o (.lst a))
variable{B6:Sp}{F6:List Int}{I:Á}{J0:Y'}{L6:Bp}{M:W'}{N j:b'}{O:K'}{b:Nat}{h:Str}{j0:List f'}{x:g'}{Δ:Str->Option f'}
theorem Cb{K}(X:O.In x.heap)(t:x.heap.Ns Í Δ)(g:x.heap.Ns acn K)(L:∀h:Str,h≠"__name__"->K h=Č h)(w:x.heap.NoLimit)(hg:x.gens = #[])(J:x.heap.get? N=some {cls:=.type "list",data:=.seq j0.toArray})(Y:ŕ j0 F6)(Z:F6.length<=Q')(hr:cu b Ł)(F:∀base,O.In base->base.Ns Í Δ->bW I M O Δ base L6 b j J0 [h] B6)(p:∀s u,ć s J0 ⟨[u],[]⟩ [(h,u)])(P:∀H,Only H->ly O H N (F6.map V.int)->B6 [.ref N] H (λv _=>v=.bl true) λ_ _ _=>False)(Q:∀H e i,L6 [] H x (λ_ _ _=>False) e i->False):
  â (p' I M) Ł (.call (.ref j) ⟨[.ref N],[]⟩) (λr i=>r=.ok (.ret (.bool true))/\OldK x.heap i.heap/\i.os=x.os/\ą i.gens) x:=by
 have rv:=kM Y;have y:=Y.length
 have l:∀H:Hp,Only H->ly O H N (F6.map V.int)->hJ I M H x.heap->(∀a,H a≠none->a=N)->(H N≠none->O.lookup N=none) ->
   â (p' I M) Ł (.call (.ref j) ⟨[.ref N],[]⟩) (λr i=>r=.ok (.ret (.bool true))/\OldK x.heap i.heap/\i.os=x.os/\ą i.gens) x:=by
  intro H hO hS A hA hK
  have f:∀{a:b'}{o:Obj},x.heap.get? a=some o->H a=none->(vu x.heap H).get? a=some o:=λe n=>PySem.W.hideAll_get _ e λhm=>by
     have q:=(ũ.mp hm).2
     simp_all
  have R:∀{a:b'}{o:Obj}{B:Array ĭ}{C:Nat},x.heap.get? a=some o->o.data=.dict B C->H a=none:=λ{a o B C} e d=>by
   cases q:H a with
   |none=>rfl
   |some u=>
    have S:a=N:=hA a (by rw[q];simp)
    subst S;rw[J]at e;cases e
    have d':Data.seq j0.toArray _=Data.dict B C:=d;cases d'
  have k:∀{a:b'}{m:Str->Option f'},x.heap.Ns a m->(vu x.heap H).Ns a m:=λ{a m}  zf =>cX zf λo B C e d r=>⟨o,B,C,f e (R e d),d,r⟩
  have D:O.In (vu x.heap H):=λa o e=>f (X a o e) (by
   cases q:H a with
   |none=>rfl
   |some u=>
    have S:a=N:=hA a (by rw[q];simp)
    subst S;rw[hK (by rw[q];simp)]at e;cases e)
  have hM:Mod O Δ (vu x.heap H):=⟨D,k t,⟨K,k g,L⟩,bx (w) λmc h1 h2=>⟨mc,k h1,h2⟩⟩
  have e0:tG I M O Δ (vu x.heap H) Ł [] x H:=⟨rfl,hM,λa o e=>FR e,R' (PySem.W.hideAll_size _ _),trivial,λa g=>absurd (show a∈([]:List b')from g) (by simp),A,.of_eq hg⟩
  refine Ľ ((F _ D (k t)).run Ł [] x H ⟨[.ref N],[]⟩ [.ref N] [.ref N] _ _ hr e0 (p x (.ref N)) (.cons rfl .nil) (P H hO hS)) λr i c=>?_
  cases r with
  |error e=>exact(Q H e i c).elim
  |ok fl=>
   cases fl with
   |next=>exact þ c
   |brk=>exact þ c
   |cont=>exact þ c
   |ret u=>
    refine bg c λv H' os bare un E T=>xa T λr' q=>?_
    have q':v=.bl true:=q;subst q';obtain rfl:u=adL true:=r';refine⟨rfl,OldK.of_keep λa o e=>?_,os,bare⟩
    cases q:H a with
    |none=>exact un.keep a o e q (by intro z;exact absurd (show a∈([]:List b')from z) (by simp)) (by simp)
    |some u=>
     rcases hO a with z|⟨ob,xs,z⟩
     .rw[q]at z;cases z
     .have z2:=un.ff a ob _ z
      obtain⟨e1,_⟩:=A a _ z;obtain⟨e2,_⟩:=E a _ z2;rw[e]at e1;cases e1
      exact e2
 cases U:O.lookup N with
 |some o=>
  have e:=X N o U;rw[J]at e;cases e;refine l (λ_=>none) (λ_=>.inl rfl) (.inr ⟨_,j0.toArray,_,U,rfl,rfl,rfl,by rw[å,y];exact Z,by simpa using rv⟩) (λa u z=>by have G:(none:Option HO)=some u:=z;cases G) (λa z=>absurd rfl z) λz=>absurd rfl z
 |none=>
  refine l (λa=>if a=N then some (.cI {cls:=.type "list",data:=.seq j0.toArray} (.lst (F6.map V.int)))else none) (λa=>?_) (.inl (.inr ⟨{cls:=.type "list",data:=.seq j0.toArray},if_pos rfl⟩)) (λa u z=>?_) (λa z=>?_) λ_=>U
  .by_cases g:a=N
   .exact .inr ⟨_,_,if_pos g⟩
   .exact .inl (if_neg g)
  .by_cases g:a=N
   .have G:=(if_pos g).symm.trans z
    cases G;subst g;exact⟨J,by rw[Þ];exact Z,j0,_,rv,J⟩
   .have G:=(if_neg g).symm.trans z
    cases G
  .by_cases g:a=N
   .exact g
   .exact absurd (if_neg g) z
variable{Ea:DefRec}{J9:W'->I'->Prop}{Ma:(Str->Option f')->I'->Prop}{l:List Str}{w:Nat}
theorem Gu{i:aev}{K:ϭ->K'}{CX:W'->Bp}{sp:W'->Sp}(E:i.most=some b)(r:b<=Q')(t:Ea.params.defaults=[])(J:cu w Ł)(L:∀c d,J9 c d->(K c.params).In d)(F:∀c m p d,(K c.params).In d->d.Ns Í m->m Ea.name=some (.ref p) ->
   ∃x,(∀s u,ć s x ⟨[u],[]⟩ [(h,u)]) /\
    ∀base,(K c.params).In base->base.Ns Í m->bW i.prog c (K c.params) m base (CX c) w p x [h] (sp c))(y:∀c H a (q:List Int),q.length<=b->Only H->ly (K c.params) H a (q.map V.int)->sp c [.ref a] H (λv _=>v=.bl true) λ_ _ _=>False)(M:∀c H s e N,CX c [] H s (λ_ _ _=>False) e N->False):
  aew I l Ma J9 i.row.toRowW Ea [] (λf A=>acQ f A):=by
 refine Att.tT E t λc B C m Z p o pm cd O a A q G Y ho hd P z n k j Q=>?_
 have D:=L c _ Y;obtain⟨x,R,S⟩:=F c m p _ D G.T.g z;exact Cb D G.T.g G.T.b G.T.builtins G.T.nolimit Q n k (B' j r) J S R (λH U X=>y c H a q j U X) (by simp_all)
noncomputable def inClass(s:J')(j:Nat):=match s with
 |.ClassDef _ _ _ body _ _ _ _ _ _ _=>body.getD j (.Pass ⟨0,0,0,0⟩)
 |_=>.Pass ⟨0,0,0,0⟩
noncomputable def bA(s:J'):=match s with
 |.FunctionDef _ a _ _ _ _ _ _ _ _=>a
 |_=>{posonlyargs:=[],args:=[],vararg:=none,kwonlyargs:=[],kw_defaults:=[],kwarg:=none,defaults:=[]}
noncomputable def aO(s:J'):=match s with
 |.FunctionDef _ _ b _ _ _ _ _ _ _=>b
 |_=>[]
noncomputable def ai(s:J'):=match s with
 |.FunctionDef _ _ _ _ _ _ a _ _ _=>a
 |_=>{kind:=.function,names:=[],isGenerator:=false,isCoroutine:=false}
abbrev fH:Bp:=λ_ _ _ _ _ _=>False
abbrev E0:XK:=λ_ _ _=>False
variable{c:Cx}
theorem lF:Passes fH c E0:=λ_ _ _ _ _ _ _ h=>h.elim
structure Bq(K:K')(x qual:Str)(st:J')(f:b')(fd:Y'):Prop where
 ex:∃(oc:f') (od:Option b') (kV doc pm:f') (an:Option b') (cdv ct:f') (osl:Array (Option f')),
  fd=Õ x qual (bA st) (aO st) (ai st) .none kV doc pm an cdv ct/\K.lookup f=some ⟨oc,od,.func fd,osl⟩/\Ĉ K cdv qual=true
 kp:Ú K (.ref f)=true
variable{B:Str}{L:I'}{M0:List Str}{Θ:J'}
theorem Bq.ok(F:Bq O h B Θ j J0)(S:jF l M0 (ai Θ))(f:∀a H Q E,B6 a H Q E->a.length=M0.length)(c:∀d A outer s H a Q E,cu b (A.deeper (Ê B (ai Θ) s.heap.objs.size j d))->B6 a H Q E ->
   ∃t,jf (dh fH I M O Δ L l B (ai Θ) j d A outer s H E).lU (aO Θ) t/\t {nx:=λ_ u=>Q .non u,rt:=Q} (start l a) H):bW I M O Δ L fH (b+1) j J0 M0 B6:=by
 refine xe F.ex λoc g=>xe g λC i=>xe i λkV k=>xe k λw m=>xe m λD n=>bp n λG d ct x o y p=>?_;subst o
 refine BL y p S f λA outer s H a Q E z r=>?_
 obtain⟨t,e,q⟩:=c _ A _ s H a Q E z r;exact⟨t,e.lU,q⟩
theorem Bq.binds(F:Bq O h B Θ j J0)(a:∀kV b d e c ct f,f.length=l.length->Œ (Õ h B (bA Θ) (aO Θ) (ai Θ) .none kV b d e c ct) ⟨f,[]⟩=pure (l.zip f)):Binds O J0 l []:=by
 refine xe F.ex λoc g=>xe g λr i=>xe i λkV k=>xe k λb m=>xe m λd n=>bp n λe c ct p o s q=>?_;subst o
 exact .all (a kV _ d e _ ct)
variable{A7:Array (Option f')}{D6 Q7:Option b'}{G8 M7 R4 U i8 j8:f'}
theorem rA(l:O.lookup j=some ⟨U,D6,.func (Õ h B (bA Θ) (aO Θ) (ai Θ) .none R4 M7 i8 Q7 j8 G8),A7⟩)(c:Ĉ O j8 B=true)(k:Ú O (.ref j)=true):Bq O h B Θ j (Õ h B (bA Θ) (aO Θ) (ai Θ) .none R4 M7 i8 Q7 j8 G8):=⟨⟨U,D6,R4,_,i8,Q7,_,G8,_,rfl,l,c⟩,k⟩
theorem Ab:dq c (.builtin "len") (λxs H Q=>∃a kvs,xs=[V.ref a]/\Rd H a (.dK kvs)/\Q (.int kvs.length) H):=by
 intro pins s f H xs g Q I r h;obtain⟨a,kvs,rfl,b,q⟩:=h;obtain⟨u,rfl,d⟩:=vals1 r;cases d;exact Px I b λt i e=>⟨.int _,H,e,⟨t,rfl⟩,q⟩
variable{T4:Prop}
theorem vL{B}(h:B):if false=true then T4 else B:=by
 simp_all
theorem vM{B}(h:T4):if true=true then T4 else B:=h
def nv(H a:Hp):=∀b o,H b=some o->a b=some o
variable{d k9 υ:Hp}
theorem nv.trans(a:nv d υ)(b:nv υ k9):nv d k9:=λc o h=>b c o (a c o h)
open PySem.W
def PB(X f)(c:List V)(a:St)(H Q):=∀pins s b,Inv X pins a H s->Vals c b->nc (p' X.prog X.w) X.A (call (.ref f) b) (EP X pins a Q) X.xe s
noncomputable def Cx.fz(X:Cx)(xs:List Str):={X with fn:=λy=>X.fn y&&!(xs.contains y)}
variable{D8:Array ĭ}
theorem KT.length{H l m}(q:KT H l m):m.length=l.length:=by
 induction q with
 |nil=>rfl
 |cons _ _ a=>simp_all
end L2
namespace HT
open PySem PyProof.Rows
end HT
namespace L2
open PySem PySem.Spec PyProof.Rows
open PySem.W
def PC(a:b')(o:Obj):It:=
 ⟨λi H=>∃b,H a=some (.cI o (.dK b))/\i<b.length,λi H x d=>d=H/\∀b,H a=some (.cI o (.dK b))->∃c,b[i]?=some c/\x=kV c.1,λi H=>∃b,H a=some (.cI o (.dK b))/\b.length<=i⟩
theorem dE{α β F}:∀{xs}{a:List β}{i:Nat}{x:α},é F xs a->xs[i]?=some x->∃u,a[i]?=some u/\F x u
 |_,_,_,_,.nil,e=>by simp at e
 |_,_,0,_,.cons r _,e=>by simp_all
 |_,_,i+1,x,.cons _ t,e=>by
  refine bx (dE t (by simpa using e)) λu b c=>?_
  simp_all
variable{I:Á}{M:W'}{U:f'}{z7:Key}
theorem jM(h:(bz I M).is z7 U=true):RelV (kV z7) U:=by
 rcases bY (h)with ⟨i,t,rfl,rfl⟩|⟨x,t,rfl,rfl⟩
 .exact⟨t,rfl⟩
 .exact⟨t,rfl⟩
variable{D8:Array ĭ}{L:I'}{R5:List (Key×V)}{b:Nat}{d:Hp}{i0:Obj}{j:b'}
theorem eD(ok:hJ I M d L)(e:d j=some (.cI i0 (.dK R5)))(f:i0.data=.dict D8 b):
  ∃a,KV R5 a/\L.DictAt (bz I M) j a b/\D8.size=a.length/\(j==ì)=false:=by
 obtain⟨g,_,k,a,r,q,l,m,c,n,h,o,i,p⟩:=ok j _ e;rw[g]at c;cases c
 rw[f]at h;cases h
 refine⟨a,r,⟨i0,D8,g,n,f,o,i,p⟩,?_,k⟩;rw[←i.length];simp
variable{O:K'}{n:A'}
theorem Ac(a l)(K:i0.data=.dict D8 b):Turn I M O n (PC a i0) [l] l (λi h=>h.IsKeyIter l a i D8.size b) where
 mem:=by simp
 obj:=λi h j f m=>by
  refine ay j λi0 e c d=>?_
  simp_all
 keep:=λi h L j k=>by
  refine ay j λi0 e c d=>?_
  exact⟨i0,k l (by simp) i0 e,c,d⟩
 item:=by
  intro X t u w N i pins s R H E g o j x;subst t u w;refine bx x λy z P=>?_
  refine dN (eD g.hok z K) λS r A p _=>?_
  refine bx (dE r (î P)) λq T rq=>?_
  refine cW (o l (by simp)) λB C U D F G=>?_
  rw[p]at j;refine wpAny_pyNext_dict_item j A T λV L Y J Z=>?_
  refine ay (id J) λo1 e1 c1 d1=>?_
  refine⟨_,rfl,pH e1 c1 d1 (by decide) ⟨_,H,(g.turned (λf i0 m e=>(Z.2 f m).trans e) B C D F G),jM Y,⟨rfl,λQ a0=>?_⟩,by rwa[p],λf m=>(o f m).1⟩⟩
  simp_all
 done:=by
  intro X t u w N i pins s R H E g o j x;subst t u w;refine bx x λy z P=>?_
  refine dN (eD g.hok z K) λS r A p _=>?_
  refine cW (o l (by simp)) λB C U D F G=>?_
  have hl:=r.length;rw[p]at j;exact wpAny_pyNext_dict_end (g.ok.hd N) j A (by simp_all) λL eb=>⟨rfl,g.turned (λf i0 m e=>eb f i0 m e) B C D F G⟩
 self:=λ_ _ _ _ _ j h=>wpAny_pyIter_keyiter j h
variable{G:List (b'×Obj)}{X:St}{c:Cx}{x:g'}
theorem Inv.mr(I:Inv c G X d x)(e:d j=some (.dK R5)):∃o a ep,x.heap.get? j=some o/\o.data=.dict a ep/\Inv c G X (upd d j (.cI o (.dK R5))) x:=by
 obtain⟨z,h,i,r,o,a,ep,f,k,g,l,m,n⟩:=I.hok j _ e;refine⟨o,a,ep,f,g,?_⟩;have:=jL (b:=x.toks) (m4:=.cI o (.dK _)) I (by rw[e];exact ö) ⟨rfl,by simp⟩ ⟨o,f⟩ ⟨f,z,h,i,r,o,a,ep,f,k,g,l,m,n⟩
 exact this
def PD(R:It->Hp->Prop)(x:V)(c):=∃a b,x=.ref a/\((c a=some (.dK b)/\∀o,R (PC a o) (upd c a (.cI o (.dK b))))\/∃o,c a=some (.cI o (.dK b))/\R (PC a o) c)
variable{A:V}{x8:It->Hp->Prop}
theorem Gv(p:Inv c G X d x)(t:RelV A U)(q:PD x8 A d):nc (p' c.prog c.w) c.A (ė U) (PIE c G X n x8) c.xe x:=by
 obtain⟨a,l,rfl,q⟩:=q;cases (t)
 have f:∀(o:Obj) (g:Array _) (h:Nat) (i:Hp),Inv c G X i x->i a=some (.cI o (.dK l))->o.data=.dict g h->x8 (PC a o) i->nc (p' c.prog c.w) c.A (ė (.ref a)) (PIE c G X n x8) c.xe x:=by
  intro o g h i e u j k;refine dN (eD e.hok u j) λy r B C s=>?_
  refine Ž s B ?_;refine⟨_,_,_,_,i,rfl,(e.kept λb o q=>X' _ q),Ac a _ j,?_,λb D=>?_,k⟩
  .rw[C]
   exact⟨_,Ó _ rfl,rfl,rfl⟩
  .have z:=by simpa using D
   rw[z];have:=e.vB (O' _) (e.hok.fresh (O' _));exact this
 rcases q with ⟨m,k⟩|⟨o,m,k⟩
 .refine cX (p.mr m) λo g h E j e=>f o g h _ e aD j (k o)
 .obtain⟨E,_,s,y,r,H,g,h,F,I,J,K⟩:=p.hok a _ m
  grind
variable{B5:Array f'}{Ka:Bool->g'->Prop}{N ω:b'}{P6:ő->g'->Prop}{P8:Option f'->g'->Prop}{j0:List f'}{ν:f'->g'->Prop}
section
variable{prog:Á}{w:W'}{A:Æ}{E:f'->g'->Prop}{s:g'}
theorem Ad(a:s.TypeIs (.ref j) "dict")(h:Ka false s):nc (p' prog w) A (aga (.ref j)) Ka E s:=by
 refine j' (aet a acS.lookup ?_);generalize b:("dict.__len__")=c;subst b;refine j' (acT a isSubtype_dict_dict ?_);refine j' (Ś a (F' h))
theorem rC(n:s.heap.get? j=some i0)(o:i0.cls=.type "list")(f:i0.data=.seq B5 b)(p:i0.dict=none)(t:A.handled=none)(h:∀h' q,(∀a i0,s.heap.get? a=some i0->h'.get? a=some i0)->P8 none {s with heap:=h',toks:=q}):nc (p' prog w) A (ϯ (.ref j) "keys") P8 E s:=by
 obtain⟨c,u,x,y⟩:=i0;simp only at o f p;subst o f p;obtain⟨z,g,d,q,B⟩:=s;have r:∀k,(⟨z,g,d,k,B⟩:g').TypeIs (.ref j) "list":=λ_=>⟨_,n,rfl⟩
 have C:=aex;have D:=acU.lookup;have G:=acU.bind (.ref j);have H:=am_list_getattr_none;have i:ŀ (.type "list") "keys"=pure none:=aey (by kernel_rfl)
 unfold ϯ getAttrBy? acV
 repeat (any_goals (first|assumption|exact r _ | ((with_reducible show nc _ _ (call (acW "list.__getattribute__") _ _) _ _ _);refine Ī acU (r _) am_entry_list_getattribute (F.args_list_getattribute_2 _ _) (meets_getattribute_miss_list j B5 b y "keys" _ i (by decide) (by decide)) ⟨n,t,λh' k e l=>?_⟩)|wp_step))
 refine xe l.there λI m=>xe m λJ K=>?_
 show nc _ _ (ϰ _ _ _ _ _ _ _) _ _ _
 unfold ϰ
 repeat (any_goals (first|assumption|wp_step))
 exact h _ _ λa i0 e=>l.keeps a i0 e
theorem bX:plainId "dict.update.loop"=true:=by decide +kernel
theorem c8:acX table "dict.update.loop"=some ô.«dict.update.loop» := entryFor_of_fast (by kernel_rfl)
variable{K:Type}[DecidableEq K]{knd:KeyKind prog w K}
theorem vP{α β F G}(h:∀a b,F a b->G a b){xs:List α}{c:List β}(r:é F xs c):é G xs c:=Paired.FQ r h
def ny(knd:KeyKind prog w K)(h:I')(p:K×f')(u:f'):=∃b o a n,u=.ref b/\h.get? b=some o/\o.cls=.type "tuple"/\o.data=.seq #[a,p.2] n/\knd.is p.1 a=true
theorem tU(hh:A.handled=none)(g:ω≠N)(C:j≠ω)(D:j≠N)(hl:L.IsList j j0.toArray)(E)(S:∀o,L.get? ω=some o->o.cls≠.type "tuple")(U:∀o,L.get? N=some o->o.cls≠.type "tuple"):
  ∀h i t s c,é (ny knd L) h (j0.drop i)->c.length+h.length<=Q'->(∀b o,b≠ω->b≠N->L.get? b=some o->s.heap.get? b=some o)->s.heap.IsListIter N j i->s.heap.DictOf knd ω c ->
  (∀h' V,(∀b o,b≠ω->b≠N->s.heap.get? b=some o->h'.get? b=some o)->h'.DictOf knd ω (h.foldl (λa p=>ē a p.1 p.2) c)->P6 (.ok (.ret E)) {s with heap:=h',toks:=V}) ->
  â (p' prog w) A (.builtin "dict.update.loop" ⟨[.ref ω,.ref N,.int i t,E],[]⟩) P6 s:=by
 intro h
 induction h with
 |nil=>
  intro i t s c F Q G k X Y;refine Į c8 ?_;have B:j0.drop i=[]:=by generalize j0.drop i=q at F;cases F;rfl
  refine j' (adS hh k (let ⟨o,l,r⟩:=hl;⟨o,G j o C D l,r⟩) (by simpa using List.drop_eq_nil_iff.mp B) λh' eb=>?_)
  exact j' (F' (F' (Y h' s.toks (λb o _ R e=>eb b o R e) (X.extBut eb g))))
 |cons p h ih=>
  intro i t s c F Q G k X Y
  have B:∃u r,j0.drop i=u::r/\ny knd L p u/\é (ny knd L) h r:=by
   generalize j0.drop i=q at F;cases F with|cons a b=>exact⟨_,_,rfl,a,b⟩
  obtain⟨u,r,B,⟨b,o,h0,n,rfl,l,Z,H,I⟩,a0⟩:=B;have hr:j0.drop (i+1)=r:=by rw[←List.drop_drop,B];rfl
  have b0:b≠ω:=λe=>S o (e▸l) Z
  have J:b≠N:=λe=>U o (e▸l) Z
  refine Į c8 ?_
  refine j' (adR k (let ⟨o,l,r⟩:=hl;⟨o,G j o C D l,r⟩) (x:=.ref b) (by simpa using (by
   have:=congrArg (·[0]?) B;simpa using this)) λh1 M m=>?_)
  have O:h1.get? b=some o:=(m.2 b J).trans (G b o b0 J l);have c0:h1.DictOf knd ω c:=X.extBut m.extBut g;refine j' (ñ (j' (aez ?_)));unfold aeA;refine j' (Ś (T:="tuple") ⟨o,O,Z⟩ ?_);rw[if_pos (by decide)]
  unfold seqItems?;refine j' (j' (acq O ?_));rw[H];refine F' (F' ?_);refine ñ (aeB I c0 (λR d0 P=>?_) (by simp at Q;exact B' (ó _ _) Q))
  refine F' ⟨Ğ bX _,?_⟩;have keep:∀d f,d≠ω->d≠N->s.heap.get? d=some f->R.get? d=some f:=λd f y z e=>(P.2 d y).trans ((m.2 d z).trans e)
  have:=ih (i+1) 0 {s with heap:=R,toks:=s.toks+1} (ē c p.1 p.2) (by rw[hr];exact a0) (by have:=aeC c p.1 p.2;simp at Q;omega) (λd f y z e=>keep d f y z (G d f y z e)) (M.at λo e=>(P.2 N (Ç g)).trans e) d0 (λh' V e0 g0=>Y h' V (λd f y z e=>e0 d f y z (keep d f y z e)) g0)
  exact this
theorem nz{D}(V:A.handled=none)(X:s.heap.get? j=some i0)(J:i0.cls=.type "list")(f:i0.data=.seq j0.toArray b)(hd:i0.dict=none)(hp:é (ny knd s.heap) D j0)(hsz:D.length<=Q')(h:∀h' M,(∀c i0,s.heap.get? c=some i0->h'.get? c=some i0)->h'.DictOf knd s.heap.objs.size (D.foldl (λa p=>ē a p.1 p.2) [])->ν (.ref s.heap.objs.size) {s with heap:=h',toks:=M}):
  nc (p' prog w) A (call (.type "dict") [.ref j]) ν E s:=by
 refine acY (Q₁:=λn g=>n=.ref s.heap.objs.size/\g={s with heap:=s.heap.push _}) aeD (aeE _) aeF (aeG _ ⟨rfl,rfl⟩) ?_
 rintro n g ⟨rfl,rfl⟩;have d:(s.heap.push _).DictOf knd s.heap.objs.size []:=acP s.heap;have i:=X' {cls:=.type "dict",data:=.dict #[]} X;refine⟨d.typeIs,aeH _ _,?_⟩;refine j' ?_;refine j' (aeI d.typeIs ?_);refine F' ?_
 show nc _ _ (acZ "dict.__init__" s.heap.objs.size (.ref j) [] .none) _ _ _
 refine j' (Ś (T:="list") ⟨i0,i,J⟩ ?_);rw[if_pos (by decide)]
 refine j' (rC (A:=A.in1.in1) i J f hd V λm M O=>?_)
 rw[if_pos (by decide)]
 refine j' (ł ?_);have o:m.IsList j j0.toArray:=⟨i0,O j i0 i,J,b,f⟩;refine j' (ϱ o ?_);refine F' ⟨Ğ bX _,?_⟩;have Y:=λc i0 e=>O c i0 (X' _ e)
 have q:m.DictOf knd s.heap.objs.size []:=ek (d) λi0 G H e r=>⟨i0,G,H,O _ i0 e,r⟩
 have k:=ek (q) λi0 _ _ e _=>N' e
 have t:j<s.heap.objs.size:=N' X;generalize Z:m.push _=x;have I:∀c i0,m.get? c=some i0->x.get? c=some i0:=λc i0 e=>by rw[←Z];exact X' _ e
 have y:x.IsListIter m.objs.size j 0:=by rw[←Z];exact⟨_,Ó _ rfl,rfl,rfl⟩
 have z:x.DictOf knd s.heap.objs.size []:=ek (q) λi0 G H e r=>⟨i0,G,H,I _ i0 e,r⟩
 have l:=tU (A:=A.in1) (P6:=wants (λr B=>r=õ/\ν (Ð s.heap.objs.size) B) E) (knd:=knd) (L:=x) (j:=j) (N:=m.objs.size) (ω:=s.heap.objs.size) (j0:=j0) V (U' k) (U' t) (U' (Â t k))
  (let ⟨i0,e,r⟩:=o;⟨i0,I _ i0 e,r⟩) .none (λi0 e=>by
   refine cX z λo' G H P C _=>?_
   rw[e]at P;cases P
   rw[C.1];decide) (λi0 e=>by
   refine ay y λo' P C _=>?_
   grind) D 0 0 {s with heap:=x,toks:=M} [] (by
   rw[aeJ]
   exact vP (λp u Q=>by
    refine bp Q λc i0 l b e1 e2 r=>?_
    exact⟨c,i0,l,b,e1,I _ _ (Y _ _ e2),r⟩) hp) (by simpa using hsz) (λc i0 _ _ e=>e) y z (λh' R S U=>?_)
 .exact l
 .refine⟨rfl,h h' R (λc i0 e=>S c i0 ?_ ?_ (I _ _ (Y _ _ e))) U⟩
  .exact U' (N' e)
  .exact U' (Â (N' e) k)
theorem nB{kvs}(hh:A.handled=none)(lo:(j==ì)=false)(da:s.heap.DictAt knd j kvs b)(hn:kvs.length<=Q')(hQ:∀h' tk f N,(∀a o,s.heap.get? a=some o->h'.get? a=some o)->h'.get? s.heap.objs.size=some {cls:=.type "list",dict:=none,data:=.seq f N,slots := #[]}->ItemsOf (λi v=>∃k x,kvs[i]?=some (k,x)/\knd.is k v=true) f kvs.length->ν (.ref s.heap.objs.size) {s with heap:=h',toks:=tk}):
  nc (p' prog w) A (call (.type "list") [.ref j]) ν E s:=by
 refine acY (Q₁:=λy n=>y=.ref s.heap.objs.size/\n={s with heap:=s.heap.push {cls:=.type "list",data:=.seq #[]} }) F.called_list (F.typeCall_list_1 _) F.entry_list_init
  (code_list_new _ ⟨rfl,rfl⟩) λy n B=>?_
 obtain⟨rfl,rfl⟩:=B;generalize d:s.heap.objs.size=S;have J:(s.heap.push {cls:=.type "list",data:=.seq #[]}).get? S=some {cls:=.type "list",data:=.seq #[]}:=by rw[←d];exact Ó _ rfl
 refine⟨⟨_,J,rfl⟩,F.args_list_init_2 _ _,?_⟩;refine j' ?_;unfold agb;refine j' (ac_ J rfl (F' ?_));refine j' (ac0 J rfl ?_);have c:=Ĝ (ě (λ_=>(#[]:Array f'))) J rfl
 have p:S≠j:=λe=>by
  refine cg da λo es q _=>?_
  exact Û _ ((e▸d)▸N' q)
 refine j' (Ϯ ?_);generalize O:(s.heap.push {cls:=.type "list",data:=.seq #[]}).update S (ě (λ_=>(#[]:Array f')))=g at c
 have k1:∀a o,s.heap.get? a=some o->g.get? a=some o:=λa o e=>by
  rw[←O];exact(ĉ _ _ (λz=>Û _ ((z▸d)▸N' e))).trans (X' _ e)
 have m:g.DictAt knd j kvs b:=da.at' λo e=>k1 j o e
 have P:({s with heap:=g}:g').TypeIs (.ref j) "dict":=let ⟨o,_,q,Q,_⟩:=m;⟨o,q,Q.1⟩
 show nc _ _ (aeK (.ref S) (.ref j) .none) _ _ {s with heap:=g}
 unfold aeK;refine j' (Ś P ?_);have R:aeL (.ref S) (.ref j)=false:=by simp[aeL,p]
 have T:(ŋ "dict"==ŋ "list")=false:=by decide
 have U:(ŋ "dict"==ŋ "tuple")=false:=by decide
 simp only[R,T,U,Bool.or_false,į,if_false];refine j' (Ž lo m ?_);generalize C:g.push {cls:=.type "dict_keyiterator",data:=.fields #[.ref j,.int 0 0,.int kvs.length 0,.int b 0]}=r;have L:∀a o,g.get? a=some o->r.get? a=some o:=λa o e=>by rw[←C];exact X' _ e
 have V:r.IsKeyIter g.objs.size j 0 kvs.length b:=by rw[←C];exact⟨_,Ó _ rfl,rfl,rfl⟩
 have D:r.DictAt knd j kvs b:=m.at' λo e=>L j o e
 have X:({s with heap:=r}:g').TypeIs (.ref j) "dict":=let ⟨o,_,q,Q,_⟩:=D;⟨o,q,Q.1⟩
 refine j' (ñ (Ad (s:={s with heap:=r}) X ?_));refine aeM (λ_=>?_) (λY=>absurd (by decide) Y)
 refine j' (ł ?_);refine j' ?_
 show nc _ _ (updateSeq S (·.push .none) >>= λ_=>updateSeq S (·.pop)) _ _ _
 refine j' (ac0 (L _ _ c) rfl ?_);have h:=Ĝ (ě (·.push õ)) (L _ _ c) rfl;refine ac0 (hz:=by decide) h rfl ?_
 have l:=Ĝ (ě (·.pop)) h rfl;refine F' ⟨Ğ F.plain_extend_loop _,?_⟩;generalize Z:(r.update S (ě (·.push õ))).update S (ě (·.pop))=h3 at l
 have k3:∀a o,a≠S->r.get? a=some o->h3.get? a=some o:=λa o t e=>by
  rw[←Z];exact(ĉ _ _ (Ç t)).trans ((ĉ _ _ (Ç t)).trans e)
 have a0:j<g.objs.size:=cg (m) λo _ q _=>N' q
 have u:S<g.objs.size:=N' c;have W:=(Walks.dictKeys (prog:=prog) (w:=w) (A:=A.in1.in1) (knd:=knd) hh g.objs.size j (U' a0) kvs b).toS;refine codeAny_extend_loopS W hn S (λM=>?_) .none kvs.length 0 _ #[] _ rfl (æ _) ⟨V.at λo e=>k3 _ o (Ç (U' u)) e,D.at' λo e=>k3 _ o (Ç p) e⟩ l (ItemsOf.nil _) λs' f N M G H=>?_
 .rcases È.mp M with e|e
  .exact U' u e
  .exact p (by simpa using e)
 .rw[Moved.eq_with M]at G ⊢
  refine⟨rfl,?_⟩;have:=hQ s'.heap s'.toks f N (λa o e=>M.heap a o (λI=>?_) (k3 _ _ (λz=>Û _ ((z▸d)▸N' e)) (L _ _ (k1 _ _ e)))) (by rw[d];exact G) H
  .rw[d]at this;exact this
  .have t:=N' e
   rcases È.mp I with e' |e'
   .rw[e',←d]at t;exact Û _ t
   .have e':a=g.objs.size:=by simpa using e'
    rw[e',d]at t;exact Û _ (Â t u)
end
variable{S:List V}{ka:Nat->f'->Prop}
theorem Gw(h:ItemsOf ka B5 S.length)(f:∀i u v,ka i u->S[i]?=some v->RelV v u):Vals S B5.toList:=by
 have c:∀(l:List _) (S:List V),l.length=S.length->(∀(i:Nat) (u:f') (v:V),l[i]?=some u->S[i]?=some v->RelV v u)->Vals S l:=by
  intro l
  induction l with
  |nil=>intro S h _;cases S with|nil=>exact .nil|cons a b=>simp at h
  |cons u l g=>
   intro S h d;cases S with
   |nil=>simp at h
   |cons v S=>exact .cons (d 0 u v rfl rfl) (g S (by simp_all) λi j k m e=>d (i+1) j k (by simp_all) (by simp_all))
 exact c _ _ (by rw[Array.length_toList,h.1]) λi u v m e=>f i u v (h.2 i u (by simp_all)) e
theorem vQ(m:c.calm=true):dq c (.type "list") (λxs H Q=>∃a kvs,xs=[V.ref a]/\Rd H a (.dK kvs)/\∀l,H l=none->Q (.ref l) (upd H l (.lst (kvs.map λb=>kV b.1)))):=by
 intro pins s R H xs S Q I r h;obtain⟨a,kvs,rfl,n,q⟩:=h;obtain⟨u,rfl,p⟩:=vals1 r;cases p;refine hU (iX I.hok n) λz t T d w=>?_
 refine bO w λo y U A B C D=>?_
 have f:=d.length;refine nB (I.ok.hd m) t ⟨o,y,A,B,C,D⟩ (B' (R' f.symm) z) λE X g F G e J=>?_
 exact⟨.ref _,_,I.laid G (O' _) (show cL _ _ _ E _ (.lst _)from⟨by simp_all,_,F,(Gw (by rw[Þ,←f]at *;exact J) λi u v K Y=>by
  refine cg K λk x L M=>?_
  have N:∃b,kvs[i]?=some b/\v=kV b.1:=by
   grind
  obtain⟨b,O,rfl⟩:=N;obtain⟨Z,j,P⟩:=dE d O;rw[L]at j;cases j
  rw[P.1];exact jM M),by omega⟩),rfl,q _ (I.hok.fresh (O' _))⟩
theorem vR:dq c (.type "dict") (λxs H Q=>∃a kvs,xs=[V.ref a]/\Rd H a (.dK kvs)/\∀l,H l=none->Q (.ref l) (upd H l (.dK kvs))):=by
 intro pins s p H xs t Q I r h;obtain⟨a,kvs,rfl,g,q⟩:=h;obtain⟨u,rfl,i⟩:=vals1 r;cases i;refine hU (iX I.hok g) λz j w d k=>?_
 have m:=d.length;refine kt_call_dict j k (B' (R' m.symm) z) λx f n=>?_
 exact⟨.ref _,_,I.laid (λb o e=>(n.2 b (U' (N' e))).trans (X' _ e)) (O' _) (nj z (beq_eq_false_iff_ne.mpr (Ç (U' I.big))) d f),rfl,q _ (I.hok.fresh (O' _))⟩
theorem vS(T:c.calm=true):dq c (.type "dict") (λxs H Q=>∃a j d,xs=[V.ref a]/\Rd H a (.lst j)/\é (λ(p:Key×V) y=>∃b,y=.ref b/\Rd H b (.tup [kV p.1,p.2])) d j/\∀l,H l=none->Q (.ref l) (upd H l (.dK (d.foldl (λa p=>putK a p.1 p.2) [])))):=by
 intro pins s σ H xs U Q I r h;refine bO h λa j d D X x q=>?_;subst D
 obtain⟨u,rfl,E⟩:=vals1 r;cases E;obtain⟨g,k,⟨o,n,Y,F,G,m⟩,Z⟩:=I.list (.inl X)
 have J:∀{d:List (Key×V)}{j:List V}{g:List f'},é (λ(p) (y:V)=>∃b,y=.ref b/\Rd H b (.tup [kV p.1,p.2])) d j->Vals j g->∃i,KV d i/\é (ny (bz c.prog c.w) s.heap) i g:=by
  intro d j g x k
  induction x generalizing g with
  |nil=>cases k;exact⟨[],.nil,.nil⟩
  |@cons p y d j z _ A=>
   cases k with
   |@cons _ u _ U E k=>
    obtain⟨i,B,C⟩:=A k;obtain⟨b,rfl,hb⟩:=z;cases (E);refine xa (BV I.hok hb) λ_ K=>bx K λP t L=>ay L λo' e1 e2 M=>xe M λn' e3=>?_
    cases t with
    |@cons _ k' _ r1 rk t=>
     cases t with
     |@cons _ v' _ r2 N t=>
      cases t with
      |nil=>exact⟨(p.1,v')::i,.cons ⟨rfl,N⟩ B,.cons ⟨b,o',k',n',rfl,e1,e2,e3,lD rk⟩ C⟩
 obtain⟨i,B,C⟩:=J x k;have hl:=B.length;have O:=ŧ x;refine nz (I.ok.hd T) Y F m G C (B' (B' (R' hl.symm) (R' O)) Z) λh' tk kp dd=>?_
 have hf:∀{d:List (Key×V)}{i:List _} (e:List (Key×V)) (f:List _),KV e f->KV d i->KV (d.foldl (λa p=>putK a p.1 p.2) e) (i.foldl (λa p=>ē a p.1 p.2) f):=by
  intro d i e f R r
  induction r generalizing e f with
  |nil=>exact R
  |@cons p q d i z _ A=>
   simp;refine A _ _ ?_;rw[←z.1];exact R.put p.1 z.2
 have S:∀(d:List (Key×V)) (e:List (Key×V)),(d.foldl (λa p=>putK a p.1 p.2) e).length<=e.length+d.length:=by
  intro d
  induction d with
  |nil=>simp
  |cons p d A=>
   intro e;have C:=el e p.1 p.2
   grind
 exact⟨.ref _,_,I.laid kp (O' _) (nj (by
  grind) (beq_eq_false_iff_ne.mpr (Ç (U' I.big))) (hf _ _ .nil B) dd),rfl,q _ (I.hok.fresh (O' _))⟩
end L2
namespace PySem
structure WL(h:I')(z TI TO i1 i2 l1 l2:b')(f0:f')(k:Nat):Prop where
 hz:ϲ h z TI TO f0
 hTI:Ċ h TI (.ref i1) (.ref i2)
 hTO:∃a c,Ċ h TO a c
 h1:h.IsListIter i1 l1 k
 h2:h.IsListIter i2 l2 k
variable{L:I'}{N j:b'}{b:Nat}
theorem rD(x:L.IsListIter j N b):∃o,L.get? j=some o/\∀v,o.data≠.cell v:=
 let ⟨o,a,_,d⟩:=x;⟨o,a,λv e=>by rw[d]at e;cases e⟩
open Sem (wp)
abbrev jh(h:I')(z TI TO T:b')(b:Bool):=
 h.get? z=some {cls:=.type "zip",dict:=none,data:=.fields #[ÿ T,.bool b,.bool false,.ref TI,.ref TO],slots := #[]}
variable{B5 J7:Array f'}{B7 M6 P1 m9 y4 ω:b'}{H:Bool}{Ka:Bool->g'->Prop}{P6:ő->g'->Prop}{P8:Option f'->g'->Prop}{R4 U:f'}{i0:Obj}{o6:I'}{ζ:Nat}{ν:f'->g'->Prop}
section
variable{prog:Á}{w:W'}{A:Æ}{E:f'->g'->Prop}{s:g'}
theorem jN{Q}(h:Q (s.heap.get? j) s):nc (p' prog w) A (ac1 j) Q E s:=by
 intro b p a;unfold ac1;rw[Sem.wp_loadIfAlive];exact(F' (M:=p' prog w) (A:=A) (E:=E) h) b p a
theorem nF(hz:jh s.heap j N ω P1 H)(e:s.heap.get? P1=some i0)(d:∀h',jh h' j N ω P1 true->Ķ j s.heap h'->Ka false {s with heap:=h' }):nc (p' prog w) A (ϳ (.ref j)) Ka E s:=by
 unfold ϳ;refine j' (Ą hz rfl (x:=ÿ P1) rfl ?_)
 show nc _ _ (ac1 ((P1:Int).toNat) >>= _) _ _ _
 refine j' (jN ?_);rw[ϴ,e]
 show nc _ _ (ś (.ref j) 1 >>= _) _ _ _
 refine j' (Ą hz rfl (x:=.bool H) rfl ?_);cases H with
 |true=>exact F' (d _ hz (agc _ _))
 |false=>
  show nc _ _ (ϵ (.ref j) 1 (.bool true) >>= _) _ _ _
  exact j' (wpAny_setField_rec hz (by simp) λc a b=>F' (d c a b))
theorem nG{x}(D:ğ j N ω y4 M6 B7 m9)(hz:jh s.heap j N ω P1 H)(y:s.heap.get? P1=some i0)(n:Ċ s.heap N (.ref y4) (.ref M6))(z:s.heap.IsListIter y4 B7 b)(B:s.heap.IsListIter M6 m9 ζ)(o:s.heap.IsList B7 B5)(p:s.heap.IsList m9 J7)(C:B5[b]?=some x)(F:J7[ζ]?=some U)(G:∀h',jh h' j N ω P1 true->h'.IsListIter y4 B7 (b+1)->h'.IsListIter M6 m9 (ζ+1)->Ċ h' s.heap.objs.size x U->h'.objs.size=s.heap.objs.size+1 ->
   (∀c i0,c≠j->c≠y4->c≠M6->s.heap.get? c=some i0->h'.get? c=some i0)->ν (.ref s.heap.objs.size) {s with heap:=h' }):
  nc (p' prog w) A (ô.«zip.__next__» ⟨[.ref j],[]⟩) (λq I=>∃v,q=.done (.ret v)/\ν v I) E s:=by
 show nc _ _ (ś (.ref j) 2 >>= _) _ _ _
 refine j' (Ą hz rfl (x:=.bool false) rfl ?_)
 show nc _ _ (ś (.ref j) 3 >>= _) _ _ _
 refine j' (Ą hz rfl (x:=.ref N) rfl ?_);refine j' (ac_ n rfl ?_)
 show nc _ _ (ϳ (.ref j) >>= _) _ _ _
 refine j' (nF hz y λr h a=>?_)
 simp only[į,if_false];refine j' ?_;simp only[aeN,aeO,aeP,aeQ];refine j' (j' (ñ ?_))
 show nc _ _ (İ (.ref y4) >>= _) _ _ _
 refine j' (ac2 (z.extBut a.extBut D.i1z) (o.extBut a.extBut D.l1z) C λt i d=>F' ?_)
 refine F' ?_;refine j' (j' (ñ ?_))
 show nc _ _ (İ (.ref M6) >>= _) _ _ _
 refine j' (ac2 ((B.extBut a.extBut D.i2z).extBut d.extBut D.i12.symm) ((p.extBut a.extBut D.l2z).extBut d.extBut D.l2i1) F λf k g=>F' ?_)
 refine F' (F' ?_);refine j' (wpAny_newTuple (hsz:=by show([x,U]:List f').length<=Q';rw[ò];simp) ?_)
 have hsz:f.objs.size=s.heap.objs.size:=by rw[g.1,d.1,a.1]
 refine F' ⟨_,rfl,?_⟩
 show ν (.ref f.objs.size) _
 have up:∀c i0,c≠j->c≠y4->c≠M6->s.heap.get? c=some i0->(f.push {cls:=.type "tuple",data:=.seq #[x,U]}).get? c=some i0:=λc i0 J K L e=>X' _ (g.extBut _ _ L (d.extBut _ _ K (a.extBut _ _ J e)))
 have l:jh f j N ω P1 true:=g.extBut _ _ D.i2z.symm (d.extBut _ _ D.i1z.symm h);have m:f.IsListIter y4 B7 (b+1):=i.extBut g.extBut D.i12;have u:Ċ (f.push {cls:=.type "tuple",data:=.seq #[x,U]}) f.objs.size x U:=Ó _ rfl;rw[hsz]at u ⊢;exact G _ (X' _ l) (m.at λi0 e=>X' _ e) (k.at λi0 e=>X' _ e) u (by rw[ų,hsz]) up
theorem pe{Q}(y:A.handled=none)(D:ğ j N ω y4 M6 B7 m9)(hz:jh s.heap j N ω P1 H)(F:s.heap.get? P1=some i0)(m:Ċ s.heap N (.ref y4) (.ref M6))(z:s.heap.IsListIter y4 B7 b)(G:s.heap.IsListIter M6 m9 ζ)(i:s.heap.IsList B7 B5)(n:s.heap.IsList m9 J7)(k:B5[b]?=none\/J7[ζ]?=none)(B:∀h' e,(∀c i0,c≠j->c≠y4->c≠M6->s.heap.get? c=some i0->h'.get? c=some i0)->(∃i0,h'.get? e=some i0/\i0.cls=.type "StopIteration")->E (.ref e) {s with heap:=h' }):
  nc (p' prog w) A (ô.«zip.__next__» ⟨[.ref j],[]⟩) Q E s:=by
 show nc _ _ (ś (.ref j) 2 >>= _) _ _ _
 refine j' (Ą hz rfl (x:=.bool false) rfl ?_)
 show nc _ _ (ś (.ref j) 3 >>= _) _ _ _
 refine j' (Ą hz rfl (x:=.ref N) rfl ?_);refine j' (ac_ m rfl ?_)
 show nc _ _ (ϳ (.ref j) >>= _) _ _ _
 refine j' (nF hz F λC o a=>?_)
 simp only[į,if_false];refine j' ?_;simp only[aeN,aeO,aeP,aeQ];refine j' (j' (ñ ?_))
 show nc _ _ (İ (.ref y4) >>= _) _ _ _
 cases p:B5[b]? with
 |none=>
  exact j' (aeR y (z.extBut a.extBut D.i1z) (i.extBut a.extBut D.l1z) p λf e d q=>B f e (λc i0 r t _ x=>d _ _ t (a.extBut _ _ r x)) q)
 |some x=>
  have I:J7[ζ]?=none:=by rcases k with h|h;rw[p]at h;cases h;exact h
  refine j' (ac2 (z.extBut a.extBut D.i1z) (i.extBut a.extBut D.l1z) p λf u d=>F' ?_)
  refine F' ?_;refine j' (j' (ñ ?_))
  show nc _ _ (İ (.ref M6) >>= _) _ _ _
  exact j' (aeR y ((G.extBut a.extBut D.i2z).extBut d.extBut D.i12.symm) ((n.extBut a.extBut D.l2z).extBut d.extBut D.l2i1) I λl e g q=>B l e (λc i0 r t J x=>g _ _ J (d.extBut _ _ t (a.extBut _ _ r x))) q)
structure iY(h:I')(z TI TO i1 i2 l1 l2:b')(xs ys:Array f')(k:Nat):Prop where
 st:ϲ h z TI TO .none\/∃T b p q,jh h z TI TO T b/\Ċ h T p q
 ti:Ċ h TI (.ref i1) (.ref i2)
 to:∃a b,Ċ h TO a b
 it1:h.IsListIter i1 l1 k
 it2:h.IsListIter i2 l2 k
 ls1:h.IsList l1 xs
 ls2:h.IsList l2 ys
theorem vT(D:ğ j N ω P1 y4 M6 B7)(hz:iY s.heap j N ω P1 y4 M6 B7 B5 J7 b)(z:B5[b]?=some U)(B:J7[b]?=some R4)(C:∀h',iY h' j N ω P1 y4 M6 B7 B5 J7 (b+1)->Ċ h' s.heap.objs.size U R4->(∀c o,c≠j->c≠ω->c≠P1->c≠y4->s.heap.get? c=some o->h'.get? c=some o)->P8 (some (.ref s.heap.objs.size)) {s with heap:=h' }):
  nc (p' prog w) A (Ć (.ref j)) P8 E s:=by
 obtain⟨h,r,⟨a,i,G⟩,k,l,f,g⟩:=hz;rcases h with h|⟨T,P,p,q,h,m⟩
 .refine aeS D h r G k l f g z B λh' t u x y H _ d=>C h' ⟨.inr ⟨_,false,_,_,t,H⟩,d _ _ D.TIz D.TITO D.TIi1 D.TIi2 r,⟨_,_,u⟩,x,y,f.at λo e=>d _ o D.l1z D.l1TO D.l1i1 D.l1i2 e,g.at λo e=>d _ o D.l2z D.l2TO D.l2i1 D.l2i2 e⟩ H d
 .have n:s.TypeIs (.ref j) "zip":=⟨_,h,rfl⟩
  have I:T≠j:=λe=>by subst e;have:=h.symm.trans m;simp at this
  have J:T≠P1:=λe=>by subst e;obtain⟨o,e,c,_⟩:=k;cases m.symm.trans e;simp at c
  have K:T≠y4:=λe=>by subst e;obtain⟨o,e,c,_⟩:=l;cases m.symm.trans e;simp at c
  unfold Ć
  exact j' (ac3 (ř (name:=ž "__next__") n Ϸ
   (Ŝ Ϸ n aeT
    (nG D h m r k l f g z B λh' t u x y _ d=>F' (C h' ⟨.inr ⟨T,true,p,q,t,d _ _ I J K m⟩,d _ _ D.TIz D.TIi1 D.TIi2 r,⟨a,i,d _ _ D.TOz D.TOi1 D.TOi2 G⟩,u,x,f.at λo e=>d _ o D.l1z D.l1i1 D.l1i2 e,g.at λo e=>d _ o D.l2z D.l2i1 D.l2i2 e⟩ y λc o L _ M O e=>d c o L M O e)) (aeU _))))
theorem nH(m:A.handled=none)(D:ğ j N ω P1 y4 M6 B7)(hz:iY s.heap j N ω P1 y4 M6 B7 B5 J7 ζ)(d:B5[ζ]?=none\/J7[ζ]?=none)(n:∀h',(∀c o,c≠j->c≠ω->c≠P1->c≠y4->s.heap.get? c=some o->h'.get? c=some o)->P8 none {s with heap:=h' }):nc (p' prog w) A (Ć (.ref j)) P8 E s:=by
 obtain⟨f,r,⟨a,b,t⟩,g,h,i,k⟩:=hz;rcases f with f|⟨T,I,p,q,f,u⟩
 .exact aeV m D f r t g h i k d n
 .have l:s.TypeIs (.ref j) "zip":=⟨_,f,rfl⟩
  unfold Ć
  refine j' (ac3 (ř (name:=ž "__next__") l Ϸ
   (Ŝ Ϸ l aeT (pe m D f u r g h i k d λh' e x y=>?_) (aeU _))))
  obtain⟨o,z,B⟩:=y;refine j' (acT (T:="StopIteration") (b:=true) ⟨o,z,B⟩ aeW ?_);exact F' (n _ λc o C _ G H e=>x c o C G H e)
theorem iY.ext(hz:iY L j N ω P1 y4 M6 B7 B5 J7 b)(d:∀c o,c≠m9->L.get? c=some o->o6.get? c=some o)(r:j≠m9/\N≠m9/\ω≠m9/\P1≠m9/\y4≠m9/\M6≠m9/\B7≠m9)(s:∀T p q,Ċ L T p q->T≠m9):iY o6 j N ω P1 y4 M6 B7 B5 J7 b:=by
 obtain⟨g,t,⟨a,f,u⟩,h,i,k,l⟩:=hz;obtain⟨m,w,x,y,z,A,B⟩:=r;refine⟨?_,d _ _ w t,⟨a,f,d _ _ x u⟩,h.at λo e=>d _ o y e,i.at λo e=>d _ o z e,k.at λo e=>d _ o A e,l.at λo e=>d _ o B e⟩
 rcases g with g|⟨T,C,p,q,g,n⟩
 .exact .inl (d _ _ m g)
 .exact .inr ⟨T,C,p,q,d _ _ m g,d _ _ (s T p q n) n⟩
variable{K:Type}[DecidableEq K]{knd:KeyKind prog w K}
def PZ(knd:KeyKind prog w K)(xs b:Array f'):Nat->List (K×f')->Prop
 |k,[]=>xs[k]?=none\/b[k]?=none
 |k,p::c=>∃a,xs[k]?=some a/\b[k]?=some p.2/\knd.is p.1 a=true/\PZ knd xs b (k+1) c
theorem rE(hh:A.handled=none)(D:ğ j N ω P1 y4 M6 B7)(f:j≠m9/\N≠m9/\ω≠m9/\P1≠m9/\y4≠m9/\M6≠m9/\B7≠m9)(g):
  ∀i k t s d,PZ knd B5 J7 k i->d.length+i.length<=Q'->iY s.heap j N ω P1 y4 M6 B7 B5 J7 k->s.heap.DictOf knd m9 d ->
  (∀h' J,(∀c o,c≠m9->c≠j->c≠ω->c≠P1->c≠y4->s.heap.get? c=some o->h'.get? c=some o)->h'.DictOf knd m9 (i.foldl (λa p=>ē a p.1 p.2) d)->P6 (.ok (.ret g)) {s with heap:=h',toks:=J}) ->
  â (p' prog w) A (.builtin "dict.update.loop" ⟨[.ref m9,.ref j,.int k t,g],[]⟩) P6 s:=by
 intro i
 induction i with
 |nil=>
  intro k t s d m C L M O;refine Į L2.c8 ?_;rw[aeX L2.bX _]
  show nc _ A.in1 (Ć (.ref j) >>= _) _ _ s
  refine j' (nH hh D L m λh' X=>?_)
  show nc _ _ (agd m9 [] >>= _) _ _ _
  have h:h'.DictOf knd m9 d:=let ⟨o,E,F,e,r⟩:=M;⟨o,E,F,X _ o f.1.symm f.2.2.1.symm f.2.2.2.1.symm f.2.2.2.2.1.symm e,r⟩
  exact j' (F' (F' (O h' s.toks (λb o _ G l H I e=>X b o G l H I e) h)))
 |cons p i ih=>
  intro k t s d m C L M O;obtain⟨n,hx,hy,u,P⟩:=m;refine Į L2.c8 ?_;rw[aeX L2.bX _]
  show nc _ A.in1 (Ć (.ref j) >>= _) _ _ s
  refine j' (vT D L hx hy λh1 Q x y=>?_)
  have z:h1.DictOf knd m9 d:=let ⟨o,E,F,e,r⟩:=M;⟨o,E,F,y _ o f.1.symm f.2.2.1.symm f.2.2.2.1.symm f.2.2.2.2.1.symm e,r⟩
  refine j' (ñ (j' (aez ?_)));unfold aeA;refine j' (Ś (T:="tuple") ⟨_,x,rfl⟩ ?_);rw[if_pos (by decide)]
  unfold seqItems?;refine j' (j' (acq x ?_));refine F' (F' ?_)
  show nc _ _ (ă [n,p.2] (dictSet m9 n p.2)) _ _ _
  refine ñ (aeB u z (λG R B=>?_) (by simp at C;exact B' (ó _ _) C))
  refine F' ⟨Ğ L2.bX _,?_⟩
  show â _ _ (.builtin "dict.update.loop" ⟨[.ref m9,.ref j,ÿ ((k:Int)+1),g],[]⟩) _ _
  have S:iY G j N ω P1 y4 M6 B7 B5 J7 (k+1):=Q.ext (m9:=m9) (λc o l e=>(B.2 c l).trans e) f λT p q m e=>by
   subst e;obtain⟨o,E,F,e',hc,_⟩:=z;cases m.symm.trans e';exact absurd hc.1 (by simp)
  have:=ih (k+1) 0 {s with heap:=G,toks:=s.toks+1} (ē d p.1 p.2) P (by have:=aeC d p.1 p.2;simp at C;omega) S R (λh' J U h=>O h' J (λV Y l H I Z h7 e=>U V Y l H I Z h7 ((B.2 V l).trans (y V Y H I Z h7 e))) h)
  exact this
end
theorem kN:ŀ (.type "zip") "__getattr__"=pure none:=by rw[typeLookup_type,builtinLookup_eq_fast];kernel_rfl
theorem gA:acX table "zip.__getattribute__"=some ô.«object.__getattribute__» :=
 aeY (id':="object.__getattribute__") (by kernel_rfl) (by decide +kernel) (by decide +kernel) (by kernel_rfl)
theorem eI(a xs f name u)(e:ŀ (.type "zip") name=pure none)(b:(["__module__","__name__","__qualname__","__doc__","__annotations__"]:List Str).contains name=false)(hsz:name.length+100<=Q':=by size_fits):
  Meets (ô.«object.__getattribute__» ⟨[.ref a,.str name u],[]⟩) (λA R s=>s.heap.get? a=some {cls:=.type "zip",dict:=none,data:=.fields xs,slots:=f}/\raisesAttr (.ref a) name A R s):=
 Meets.of_wp λprog w A R s c=>by
  obtain⟨h,g,d,i,j⟩:=s;obtain⟨k,c⟩:=c;have l:(⟨h,g,d,i,j⟩:g').TypeIs (.ref a) "zip":=⟨_,k,rfl⟩;unfold ô.«object.__getattribute__»
  repeat (any_goals (first|assumption|wp_step))
  simp only[b,į,if_false]
  repeat (any_goals (first|assumption|wp_step))
  exact wpAny_raiseAttrError c.1 c.2 (attrMsg_fits (by decide +kernel) hsz)
end PySem
namespace L2
open PySem PySem.Spec PyProof.Rows
variable{A7:Array (Option f')}{B5:Array f'}{I:Á}{M:W'}{P8:Option f'->g'->Prop}{j:b'}{θ:Æ}{ν:f'->g'->Prop}
theorem tV{s}(i:s.heap.get? j=some {cls:=.type "zip",dict:=none,data:=.fields B5,slots:=A7})(m:θ.handled=none)(h:∀h' k,(∀b o,s.heap.get? b=some o->h'.get? b=some o)->P8 none {s with heap:=h',toks:=k}):nc (p' I M) θ (ϯ (.ref j) "keys") P8 ν s:=by
 obtain⟨n,g,d,k,p⟩:=s;have l:∀c,(⟨n,g,d,c,p⟩:g').TypeIs (.ref j) "zip":=λ_=>⟨_,i,rfl⟩
 have q:=aex;have r:=ac4.lookup;have t:=ac4.bind (.ref j);have u:=kN;have a:ŀ (.type "zip") "keys"=pure none:=aey (by kernel_rfl)
 unfold ϯ getAttrBy? acV
 repeat (any_goals (first|assumption|exact l _ | ((with_reducible show nc _ _ (call (acW "zip.__getattribute__") _ _) _ _ _);refine Ī ac4 (l _) gA (F.args_zip_getattribute_2 _ _) (eI j B5 A7 "keys" _ a (by decide) (by decide)) ⟨i,m,λh' c e f=>?_⟩)|wp_step))
 obtain⟨w,x,y⟩:=f.there
 show nc _ _ (ϰ _ _ _ _ _ _ _) _ _ _
 unfold ϰ
 repeat (any_goals (first|assumption|wp_step))
 exact h _ _ λb o e=>f.keeps b o e
variable{B7 M6 N P1 y4 ω:b'}{J7:Array f'}
section
variable{prog:Á}{w:W'}{A:Æ}{E:f'->g'->Prop}{s:g'}{K:Type}[DecidableEq K]{knd:KeyKind prog w K}
theorem pf{y}(J:A.handled=none)(D:ğ j N ω P1 y4 M6 B7)(hz:ϲ s.heap j N ω .none)(Z:iY s.heap j N ω P1 y4 M6 B7 B5 J7 0)(P:PZ knd B5 J7 0 y)(hsz:y.length<=Q')(h:∀h' z,(∀c o,c≠j->c≠ω->c≠P1->c≠y4->s.heap.get? c=some o->h'.get? c=some o)->h'.DictOf knd s.heap.objs.size (y.foldl (λa p=>ē a p.1 p.2) [])->ν (.ref s.heap.objs.size) {s with heap:=h',toks:=z}):
  nc (p' prog w) A (call (.type "dict") [.ref j]) ν E s:=by
 refine acY (Q₁:=λk g=>k=.ref s.heap.objs.size/\g={s with heap:=s.heap.push {cls:=.type "dict",data:=.dict #[]} }) aeD (aeE _) aeF (aeG _ ⟨rfl,rfl⟩) ?_
 rintro k g ⟨rfl,rfl⟩;have d:(s.heap.push {cls:=.type "dict",data:=.dict #[]}).DictOf knd s.heap.objs.size []:=acP s.heap;have l:ϲ (s.heap.push {cls:=.type "dict",data:=.dict #[]}) j N ω .none:=X' _ hz;refine⟨d.typeIs,aeH _ _,?_⟩;unfold ô.«dict.__init__»;refine j' ?_;unfold age;refine j' (aeI d.typeIs ?_)
 show nc _ _ (pure (s.heap.objs.size,[Ð j])) _ _ _
 refine F' ?_
 show nc _ _ (acZ "dict.__init__" s.heap.objs.size (.ref j) [] .none) _ _ _
 unfold acZ;refine j' (Ś (T:="zip") ⟨_,l,rfl⟩ ?_);rw[if_pos (by decide)]
 refine j' (tV (θ:=A.in1.in1) l J λm z L=>?_)
 rw[if_pos (by decide)]
 refine j' (ł ?_);have f:∀b o,s.heap.get? b=some o->m.get? b=some o:=λb o e=>L b o (X' _ e)
 refine j' (ac5 (s:={s with heap:=m,toks:=z}) (f _ _ hz) ?_);refine F' ⟨Ğ bX _,?_⟩;have B:m.DictOf knd s.heap.objs.size []:=let ⟨o,es,ep,e,r⟩:=d;⟨o,es,ep,L _ o e,r⟩
 have i:∀{c o},s.heap.get? c=some o->c≠s.heap.objs.size:=λe=>U' (N' e)
 obtain⟨Y,M,⟨a,b,O⟩,n,q,t,u⟩:=Z
 have Q:j≠s.heap.objs.size/\N≠s.heap.objs.size/\ω≠s.heap.objs.size/\P1≠s.heap.objs.size/\y4≠s.heap.objs.size/\M6≠s.heap.objs.size/\B7≠s.heap.objs.size:=
  ⟨i hz,i M,i O,(by obtain⟨o,e,_⟩:=n;exact i e),(by obtain⟨o,e,_⟩:=q;exact i e),(by obtain⟨o,e,_⟩:=t;exact i e),(by obtain⟨o,e,_⟩:=u;exact i e)⟩
 have R:iY m j N ω P1 y4 M6 B7 B5 J7 0:=⟨.inl (f _ _ hz),f _ _ M,⟨a,b,f _ _ O⟩,n.at λo e=>f _ o e,q.at λo e=>f _ o e,t.at λo e=>f _ o e,u.at λo e=>f _ o e⟩
 have C:=rE (A:=A.in1) (P6:=wants (λr x=>r=õ/\ν (Ð s.heap.objs.size) x) E) (knd:=knd) (m9:=s.heap.objs.size) J D Q .none y 0 0 {s with heap:=m,toks:=z} [] P (by simpa using hsz) R B (λh' G H I=>?_)
 .exact C
 .exact⟨rfl,h h' G (λc o S U V X e=>H c o (i e) S U V X (f _ _ e)) I⟩
end
theorem boot_zip:Č "zip"=some (.type "zip"):=by decide +kernel
theorem JE{P w}:∀(d:List Key) b a k xs c,Vals (d.map kV) b->(∀i,xs[k+i]?=b[i]?)->(∀i,c[k+i]?=a[i]?)->PZ (bz P w) xs c k (d.zip a)
 |[],b,a,k,xs,c,r,e,f=>by
  cases r;exact .inl (by simpa using e 0)
 |key::d,b,a,k,xs,c,r,e,f=>by
  rw[Ü]at r;cases r with
  |@cons _ u _ b g h=>
   cases a with
   |nil=>exact .inr (by simpa using f 0)
   |cons v a=>exact⟨u,by simpa using e 0,by simpa using f 0,lD g,JE d b a (k+1) xs c h (λi=>by have:=e (i+1);rw[show k+(i+1)=k+1+i by omega]at this;simpa using this) (λi=>by have:=f (i+1);rw[show k+(i+1)=k+1+i by omega]at this;simpa using this)⟩
theorem Cc:∀(a:List Key) {b}{c},Vals b c->KV (a.zip b) (a.zip c)
 |[],_,_,_=>.nil
 |k::a,_,_,.nil=>.nil
 |k::a,_,_,.cons r t=>.cons ⟨rfl,r⟩ (Cc a t)
variable{R5:List (Key×V)}
theorem Gx{d}(r:KV R5 d):∀c b,KV c b->KV (R5.foldl (λa p=>putK a p.1 p.2) c) (d.foldl (λa p=>ē a p.1 p.2) b):=by
 induction r with
 |nil=>intro c b e;exact e
 |@cons p q R5 d f _ g=>
  intro c b e;simp only[ſ];refine g _ _ ?_;rw[←f.1];exact e.put p.1 f.2
theorem tW:∀(c b:List (Key×V)),(c.foldl (λa p=>putK a p.1 p.2) b).length<=b.length+c.length
 |[],b=>by simp
 |p::c,b=>by
  have d:=tW c (putK b p.1 p.2);have e:=el b p.1 p.2;simp only[ſ,Ā];omega
variable{b w ζ:Nat}
theorem tX(a:w<b)(c:ζ<b):ğ (b+4) (b+2) (b+3) b (b+1) w ζ:=by
 have k:∀{x y:Nat},x<y\/y<x->x≠y:=λh=>by omega
 constructor<;>exact k (by omega)
theorem rF(h:b<w):b≠w+ζ:=by omega
def LC(h:b<w)(e:ζ=w+5):=ä (M' (M' h (ó _ _)) (R' e.symm))
def Cd(e:w=b+5):=B' (ó _ _) (R' e.symm)
def tDZ(f:TA):TE:=λg H Q=>f g H λh c=>∃(a b:b') (d:List Key) (e:List V),h=[.ref a,.ref b]/\Rd c a (.lst (d.map kV))/\Rd c b (.lst e)/\∀p,c p=none->Q (.ref p) (upd c p (.dK ((d.zip e).foldl (λa p=>putK a p.1 p.2) [])))
variable{E5:TA}{P P7 Q3 o:T'}{R n:A'}{c:Cx}
theorem Gy(V:c.calm=true)(X:Gl c "dict")(Y:c.mg "dict"=none)(y:Gl c "zip")(z:c.mg "zip"=none)(Z:PA c [n,R] E5)(hs:D' [n,R] c.env=(false,eval n c.env)::D' [R] c.env)(A:(À P7 (D' [R] c.env)).any (·.1)=false):
  PE c (.Call (.Name "dict" o) [.Call (.Name "zip" P) [n,R] [] P7] [] Q3) (tDZ E5):=by
 intro pins s σ H Q I h;refine đ (gx I X Y ac6 ?_ (by decide) (by decide))
 refine Ļ ?_ rfl rfl
 show nc _ _ (Ϛ ((false,eval (.Call (.Name "zip" P) [n,R] [] P7) c.env)::À Q3 (D' [] c.env))) _ _ s
 refine ŷ ?_;refine đ (gx I y z boot_zip ?_ (by decide) (by decide))
 refine Ļ (bV (Z P7 pins s σ H _ I h) λus s1 zq=>?_) hs A;obtain⟨vs,H1,k,r1,q1⟩:=zq
 obtain⟨O,S,l,T,rfl,ra,rb,q⟩:=q1;cases r1 with
 |cons r B=>
  cases B with
  |cons r' B=>
   cases B;cases r;cases r';obtain⟨g,C,JF,a0⟩:=k.list (.inl ra);obtain⟨f,p,j,t⟩:=k.list (.inl rb);refine call_zip_2 JF.isList j.isList λx U a2 a3 a4 a5 E F=>?_
   refine Ŷ ?_;have m:∀{d b},s1.heap.get? d=some b->d<s1.heap.objs.size:=λe=>N' e
   have n1:O<s1.heap.objs.size:=by obtain⟨b,e,_⟩:=JF.isList;exact m e
   have n2:S<s1.heap.objs.size:=by obtain⟨b,e,_⟩:=j.isList;exact m e
   have D:ğ (s1.heap.objs.size+4) (s1.heap.objs.size+2) (s1.heap.objs.size+3) s1.heap.objs.size (s1.heap.objs.size+1) O S:=tX n1 n2;have G:PZ (bz c.prog c.w) g.toArray f.toArray 0 (l.zip f):=JE l g f 0 _ _ C (λi=>by simp) (λi=>by simp)
   have J:=Vals.length p;have u:(l.zip f).length<=Q':=by rw[ac7];exact B' (B' (ac8 _ _) (R' J.symm)) t
   refine pf (knd:=bz c.prog c.w) (s:={s1 with heap:=x}) (k.ok.hd V) D U ⟨.inl U,a2,⟨_,_,a3⟩,a4,a5,JF.isList.at λb e=>F _ b e,j.isList.at λb e=>F _ b e⟩ G u λh' tk hk dd=>?_
   have K:∀d b,s1.heap.get? d=some b->h'.get? d=some b:=λd b e=>by
    exact hk d b (rF (m e)) (rF (m e)) (rF (ζ:=0) (m e)) (rF (m e)) (F d b e)
   have L:=Gx (Cc l p) [] [] .nil
   have hl:((l.zip T).foldl (λn o=>putK n o.1 o.2) []).length<=Q':=by
    have M:=tW (l.zip T) [];rw[ac7]at M;rw[ac7]at u;simp at M;exact B' (B' M (ac8 _ _)) t
   have N:((x.objs.size:b')==ì)=false:=beq_eq_false_iff_ne.mpr (LC k.big E);exact⟨.ref x.objs.size,_,k.laid (a:=x.objs.size) K (Cd E) (nj hl N L dd),rfl,q _ (k.hok.fresh (Cd E))⟩
variable{G:List (b'×Obj)}{L:I'}{X:St}{d υ:Hp}
theorem Inv.laidN{s}(I:Inv c G X d s)(k:∀a u,s.heap.get? a=some u->L.get? a=some u)(g:∀a,a<s.heap.objs.size->υ a=d a)(ok:∀a u,s.heap.objs.size<=a->υ a=some u->cL c.prog c.w υ L a u):Inv c G X υ {s with heap:=L,toks:=b}:=by
 have up:∀a u,d a=some u->υ a=some u:=λa u e=>(g a (I.hok.lt e)).trans e
 refine I.un ⟨λa u q _ _ _=>k a u q,λa u q _ _ _=>⟨u.slots,k a u q⟩,λa u q n _=>(g a (N' q)).trans n,λa u q _=>⟨u,k a u q⟩,λa h q=>up _ _ q,λa u h q=>up _ _ q,λa j q=>⟨#[],by rw[up _ _ q];simp⟩⟩ λa u e=>?_
 by_cases i:a<s.heap.objs.size
 .exact(I.hok a u (by rw[←g a i];exact e)).stay (λf v _ q=>k f v q) (λf q=>up _ _ q) λf h q=>up _ _ q
 .exact ok a u (ϊ i) e
def jO(H:Hp):List (b'×List V)->Hp
 |[]=>H
 |p::r=>jO (upd H p.1 (.tup p.2)) r
theorem pR:∀a {H}{b}{u},jO H a b=some u->H b=some u\/∃xs,(b,xs)∈a/\u=.tup xs
 |[],_,_,_,h=>.inl h
 |p::r,H,b,u,h=>by
  rcases pR r h with h|⟨xs,d,e⟩
  .by_cases c:b=p.1
   .subst c
    rw[aD]at h;cases h
    exact .inr ⟨p.2,.head _,rfl⟩
   .rw[ax c]at h
    exact .inl h
  .exact .inr ⟨xs,.tail _ d,e⟩
theorem nI:∀a {H}{b},(∀p∈a,b≠p.1)->jO H a b=H b
 |[],_,_,_=>rfl
 |p::r,H,b,h=>by
  rw[jO,nI r λq c=>h q (.tail _ c),ax (h p (.head _))]
def WM(Q:VK)(x:V)(d):=∃a b,x=.ref a/\Rd d a (.dK b)/\∀l c,c.map (·.2)=b.map (λe=>[kV e.1,e.2])->d l=none->(∀p∈c,d p.1=none/\l<p.1)->(c.map (·.1)).Pairwise (· < ·) ->
 Q (.ref l) (upd (jO d c) l (.lst (c.map λp=>.ref p.1)))
theorem xT{α β:Type}:∀(as:List α) (bs:List β),as.length=bs.length->(as.zip bs).map (·.2)=bs/\(as.zip bs).map (·.1)=as
 |[],[],_=>⟨rfl,rfl⟩
 |a::as,b::bs,h=>by
  obtain⟨c,d⟩:=xT as bs (by simpa using h)
  simp[c,d]
theorem pS:∀(as:List b'),Vals (as.map V.ref) (as.map Ð)
 |[]=>.nil
 |a::as=>.cons rfl (pS as)
variable{ψ:TE}
theorem Af(hc:c.calm=true)(hg:Gl c "list")(hm:c.mg "list"=none)(m:ø n "items" c.env (eval n c.env)=eval n c.env)(p:(Q3.endLine==P7.line)=true)(ho:PE c n ψ):
  PE c (.Call (.Name "list" o) [.Call (.Attribute n "items" Q3) [] [] P7] [] P) (λL H Q=>ψ L H (WM Q)):=by
 intro pins s L H Q I h;refine đ (gx I hg hm ac9 ?_ (by decide) (by decide))
 refine Ļ ?_ rfl rfl
 show nc _ _ (Ϛ ((false,eval (.Call (.Attribute n "items" Q3) [] [] P7) c.env)::À P (D' [] c.env))) _ _ s
 refine ŷ ?_;refine ac' m p (bV (ho pins s L H _ I h) λv s1 ⟨x,H1,I1,r1,q1⟩=>?_)
 obtain⟨a,kvs,rfl,ha,q⟩:=q1;cases (show v=Ð a from r1)
 obtain⟨z,lo,M,B,N⟩:=iX I1.hok ha;have O:IsD H1 a:=.inl ⟨kvs,ha⟩;obtain⟨t1,t2,t3⟩:=nr I1 O;refine⟨"dict","dict.items",ŝ,ϋ,ada,t1,t2,ŗ rfl (ό ?_)⟩;refine ż ϋ N.typeIs aeZ (ae_ _) (ae0 (bz c.prog c.w) a lo) ⟨⟨M,N⟩,?_⟩;generalize r:s1.heap.push {cls:=.type "dict_items",data:=.fields #[.ref a]}=d;have k1:∀b n,s1.heap.get? b=some n->d.get? b=some n:=λb n e=>by rw[←r];exact X' _ e
 have hv:d.IsItemsView s1.heap.objs.size a:=by rw[←r];exact⟨_,Ó _ rfl,rfl,rfl⟩
 have g:d.objs.size=s1.heap.objs.size+1:=by rw[←r,ų]
 obtain⟨od,es,ep,d1,d2,d3,d4⟩:=N;have R:d.DictAt (bz c.prog c.w) a M ep:=⟨od,es,k1 a od d1,d2,d3,d4⟩;have hl:=B.length;refine Ŷ ?_;refine PySem.W.kdx_call (s:={s1 with heap:=d}) (knd:=bz c.prog c.w) (kvs:=M) (ep:=ep) (I1.ok.hd hc) hv R (B' (R' hl.symm) z) λh' tk S t as hk hS T J C=>?_
 dsimp only at hk hS J ⊢;have U:as.length=(kvs.map λi=>[kV i.1,i.2]).length:=by rw[Þ];omega
 obtain⟨zs,D⟩:=xT as (kvs.map λi=>[kV i.1,i.2]) U
 generalize X:as.zip (kvs.map λi=>[kV i.1,i.2])=l at zs D
 have y:∀o∈l,d.objs.size<o.1:=λo A=>J.above o.1 (by rw[←D];exact ϸ A)
 have kp:∀b n,s1.heap.get? b=some n->h'.get? b=some n:=λb n e=>hk b n (k1 b n e)
 have E:l.map (λo=>V.ref o.1)=as.map V.ref:=by rw[←D,Ý];rfl
 refine⟨.ref d.objs.size,_,I1.laidN (υ:=upd (jO H1 l) d.objs.size (.lst (l.map λo=>.ref o.1))) kp (λb K=>?_) (λb u K e=>?_),rfl,q _ l zs (I1.hok.fresh (ß (R' g.symm))) (λo A=>⟨I1.hok.fresh (by have:=y o A;exact ß (Â (R' g.symm) this)),y o A⟩) (by rw[D];exact J.rise)⟩
 .rw[ax (U' (Â K (R' g.symm))),nI l λo A=>U' (by have:=y o A;exact Â (Â K (R' g.symm)) this)]
 .by_cases G:b=d.objs.size
  .subst G
   rw[aD]at e;cases e
   exact⟨by rw[Þ,←Þ (f:=(·.1)) (as:=l),D];exact B' (B' (R' T) (R' hl.symm)) z,S.toList,t,by rw[C,E];exact pS as,by simpa using hS⟩
  .rw[ax G]at e
   rcases pR l e with e|⟨xs,Y,rfl⟩
   .rw[I1.hok.fresh K]at e;exact bD e
   .obtain⟨j,hj⟩:=ċ.mp Y
    rw[←X,List.getElem?_zip_eq_some]at hj;obtain⟨j1,j2⟩:=hj;rw[ç]at j2;obtain⟨i,j3,j4⟩:=Ã.mp j2;obtain⟨Z,k,x,e1,e2,e3⟩:=J.pairs j b j1;obtain⟨q',h4,h5⟩:=dE B j3;rw[e1]at h4;cases h4
    cases j4;exact⟨by rw[ò];simp,[Z,x],.cons (by rw[h5.1];exact jM e2) (.cons h5.2 .nil),_,e3,rfl,_,rfl⟩
noncomputable def tq(B:b'->Prop)[DecidablePred B](H:Hp):Hp:=λb=>if B b then (match H b with|some (.cI _ u)=>some u|x=>x)else H b
structure PF(B:b'->Prop)(H H':Hp):Prop where
 Ce:∀b,B b->∃o kvs,H' b=some (.cI o (.dK kvs))
 was:∀b,B b->∃kvs,H b=some (.dK kvs)
section
variable{B:b'->Prop}[DecidablePred B]{H H':Hp}{b:b'}{o:Obj}{u:HO}{P:Á}{w:W'}{h h':I'}{fs ex:List b'}
theorem vU(a:B b)(q:H b=some (.cI o u)):tq B H b=some u:=by unfold tq;simp_all
theorem cj(a:¬ B b):tq B H b=H b:=by unfold tq;simp_all
theorem Cf{x}(c:∀b,B b->∃o kvs,H b=some (.cI o (.dK kvs)))(q:H b=x)(a:∀o kvs,x≠some (.cI o (.dK kvs))):tq B H b=x:=by
 rw[cj,q];intro d;obtain⟨o,kvs,z⟩:=c b d;exact a o _ (q.symm.trans z)
theorem hJ.fh(x:hJ P w H h)(c:∀b,B b->∃o kvs,H b=some (.cI o (.dK kvs))):hJ P w (tq B H) h:=λa i e=>by
 have f:∀b y,H b=some (.own y)->tq B H b=some _:=λb y q=>Cf c q (λ_ _ z=>by cases z)
 have g:∀b j,H b=some _->tq B H b=some (.tup j):=λb y q=>Cf c q (λ_ _ z=>by cases z)
 by_cases d:B a
 .obtain⟨k,kvs,q⟩:=c a d
  rw[vU d q]at e;cases e;obtain⟨_,y⟩:=x a _ q;exact cL.stay y (λ_ _ _ z=>z) (λb q=>f b _ q) g
 .rw[cj d]at e
  exact(x a i e).stay (λ_ _ _ z=>z) (λb q=>f b _ q) g
theorem Un.fh(a:Un fs ex H H' h h')(t:PF B H H'):Un fs ex H (tq B H') h h' where
 keep:=a.keep
 slot:=a.slot
 free:=λb o e n d=>by
  rw[cj,a.free b o e n d];intro c;obtain⟨_,z⟩:=t.was b c;grind
 there:=a.there
 tups:=λb f e=>by
  rw[cj,a.tups b f e];intro c;obtain⟨_,z⟩:=t.was b c;simp_all
 ff:=λb o u e=>by
  rw[cj,a.ff b o u e];intro c;obtain⟨_,z⟩:=t.was b c;simp_all
 gc:=λb g e=>by
  rw[cj]
  .exact a.gc b g e
  intro c;obtain⟨_,z⟩:=t.was b c;simp_all
end
open Classical in
def spT(sp:Sp):Sp:=λb H Q E=>sp b H (λv a=>∃B,PF B H a/\Q v (tq B a)) E
open Classical in
theorem bW.fh{P w K a base CX k f b c sp}(F:bW P w K a base CX k f b c sp):
  bW P w K a base CX k f b c (spT sp):=
 ⟨λd H Q E q=>F.len _ _ _ _ q,λA outer s H args g d Q E h i j l m=>Ľ (F.run A _ s H _ g d _ E h i j l m) λr C z=>by
  cases r with
  |error e=>exact z
  |ok f=>
   cases f with
   |ret u=>
    obtain⟨v,D,n,o,p,x,y,B,t,q⟩:=z;exact⟨v,_,n,o,p.fh t,x.fh t.Ce,y,q⟩
   |_=>exact z⟩
section
variable{X:Cx}{pins:List (b'×Obj)}{σ σ':St}{H H':Hp}{s s':g'}{B:b'->Prop}[DecidablePred B]
theorem Inv.fh(I:Inv X pins σ H s)(J:Inv X pins σ' H' s')(t:PF B H H'):Inv X pins σ' (tq B H') s' where
 ok:=J.ok
 os:=J.os
 bare:=J.bare
 base:=by
  have d:=t.was;refine⟨J.base.keep,J.base.slot,λb o e n f=>?_,J.base.there,λb g e=>?_,λb o u e=>?_,λb h e=>?_⟩
  .rw[cj,J.base.free b o e n f]
   intro a;obtain⟨_,z⟩:=d b a;rw[I.base.free b o e n f]at z;exact bD z
  .rw[cj,J.base.tups b g e]
   intro a;obtain⟨_,z⟩:=d b a;rw[I.base.tups b g e]at z;cases z
  .rw[cj,J.base.ff b o u e]
   intro a;obtain⟨_,z⟩:=d b a;rw[I.base.ff b o u e]at z;cases z
  .rw[cj]
   .exact J.base.gc b h e
   intro a;obtain⟨_,z⟩:=d b a;obtain⟨_,y⟩:=I.base.gc b h e;simp_all
 loc:=J.loc
 cell:=J.cell
 free:=by
  rw[cj,J.free];intro a;obtain⟨_,_,z⟩:=t.Ce _ a;rw[J.free]at z;exact bD z
 df:=λx c e=>by
  rw[cj]
  .exact J.df x c e
  .intro a
   obtain⟨o,i,z⟩:=t.Ce _ a;obtain⟨v,oc,q,r⟩:=J.cell x c e;obtain⟨w,_,_,A,_,C,D,E,F,_,G,_⟩:=J.hok _ _ z
   simp_all
 pin:=λp j=>by
  obtain⟨k,l,m⟩:=J.pin p j;refine⟨k,?_,m⟩;rw[cj,l];intro a;obtain⟨_,_,z⟩:=t.Ce _ a;simp_all
 hok:=J.hok.fh t.Ce
 len:=J.len
end
open Classical in
theorem PS.fh{X st t}(h:PS X st t):PS X st (λE b H=>t {E with nx:=λa c=>∃B,PF B H c/\E.nx a (tq B c)} b H):=λpins s b H D I d=>bV (h _ s b H _ I d) λf e z=>by
 cases f with
 |next=>
  obtain⟨a,c,J,B,t,q⟩:=z;exact⟨_,_,I.fh J t,q⟩
 |_=>exact z
abbrev iD(h:I')(C)(rest:List f'):=(h.push {cls:=.type "tuple",data:=.seq rest.toArray}).push {cls:=.ref C,data:=.fields #[.ref h.objs.size,.none,.none,.none,.bool false,.none]}
variable{B h:Str}{D6:Option b'}{E4 H:Bool}{F7:Drawn}{L7:Array GenState}{P9 i6 m8:String}{Q6 Q8 R8 S8 T8:Option f'}{R6 g9 j0 la oa:List f'}{Z8:Option Bool}{l:List Str}{o8:OsState}{Δ:Str->Option f'}
theorem ph(F:adb i6 m8 P9 g9)(T:ύ L g9 R6)(g:L.get? j=some (Ş h B j N j0 R6 H l la E4 Z8 D6 Q6 Q8 R8 S8 T8 m8))(q:L.Ns N Δ)(m:Δ "__init__"=some (.ref ω))(s:∀self,Ϲ (p' I M) L (bindSpecial (.ref ω) self) (.ref ω,[self]))(d:oa.length<=Q'){Q}(t:â (p' I M) θ (.call (.ref ω) ⟨.ref (L.objs.size+1)::oa,[]⟩) (λr n=>match r with|.ok (.ret v)=>v=.none/\Q (.done (.ret (.ref (L.objs.size+1)))) n|.ok _=>False|.error e=>ν e n) ⟨iD L j oa,L7,F7,b,o8⟩):
  nc (p' I M) θ (ô.«type.__call__» ⟨.ref j::oa,[]⟩) Q ν ⟨L,L7,F7,b,o8⟩:=by
 repeat (first|with_reducible refine ae1 g ?_|with_reducible refine wpAny_madeBy_exc g ?_|wp_step)
 refine codeAny_call_builtin_code (ae2 _ F.quiet) (wpAny_check_new_subT F T g ?_);refine codeAny_exc_new_subT F T g ?_ d
 show nc _ _ _ _ _ _
 have k:∀a o,L.get? a=some o->(iD L j oa).get? a=some o:=λa o e=>X' _ (X' _ e)
 have c:=k _ _ g;have f:(iD L j oa).Ns N Δ:=ek (q) λo u w e r=>⟨o,u,w,k _ _ e,r⟩
 have p:(Ð j::R6).contains (.ref j)=true:=by simp
 have i:=T.keeps k;have x:=(s (.ref (L.objs.size+1))).keeps k;unfold isInstance
 repeat (first|with_reducible refine ae1 hget ?_ | (with_reducible refine ae3 c ?_;rw[p])|wp_step)
 show nc _ _ (ŀ (.ref j) _) _ _ _
 refine wpAny_typeLookup_tail c f i F.mroIs F.init.lookup ?_;rw[m];refine ñ (j' (x.at ?_));refine j' (œ (Ľ t λr n z=>?_))
 rcases r with e | (v|_|_|_)<;>first|exact z|exact z.elim|skip
 obtain⟨rfl,z⟩:=z;exact F' (F' z)
variable{P6:ő->g'->Prop}
theorem Cg(F:adb i6 m8 P9 g9)(T:ύ L g9 R6)(d:L.get? j=some (Ş h B j N j0 R6 H l la E4 Z8 D6 Q6 Q8 R8 S8 T8 m8))(e:L.Ns N Δ)(c:Δ "__init__"=some (.ref ω))(f:∀self,Ϲ (p' I M) L (bindSpecial (.ref ω) self) (.ref ω,[self]))(a:oa.length<=Q')(g:â (p' I M) (θ.under (.builtin "type.__call__" ⟨.ref j::oa,[]⟩)) (.call (.ref ω) ⟨.ref (L.objs.size+1)::oa,[]⟩) (acy (L.objs.size+1) P6) ⟨iD L j oa,L7,F7,b,o8⟩):
  â (p' I M) θ (.call (.ref j) ⟨oa,[]⟩) P6 ⟨L,L7,F7,b,o8⟩:=by
 have i:=tc_lookup;have k:=tc_bind (.ref j);refine codeAny_of_tree ?_
 repeat (any_goals (first|assumption|rfl|wp_step))
 refine⟨rfl,?_⟩;refine codeAny_call_builtin_at (ae2 _ (by decide +kernel)) entry_typeCall (wpAny_check_type_call_sub d (ph F T d e c f a ?_))
 exact g
open PySem.W (clsIn findIn takerIn InstAt)
open PySem.Builtin PySem.Builtin.ObjectAttr PySem.Builtin.Getset_descriptor
abbrev rG:List f':=[.type "ValueError",.type "Exception",.type "BaseException",.type "object"]
noncomputable def gC:List f'->Bool
 |.ref _::r=>gC r
 |l=>l==rG
theorem pT(self):∀{l},gC l=true->refuseLoop self "__setattr__" l=pure ()
 |[],e=>by rfl
 |a::r,e=>by
  cases a with
  |ref c=>rw[refuseLoop_ref];exact pT _ e
  |_=>rw[eq_of_beq (e)];exact PySem.F.store_ValueError.passes _
theorem Cj:∀{l},gC l=true->l.contains (.type "object")=true
 |[],e=>by simp[gC]at e
 |a::r,e=>by
  cases a with
  |ref c=>rw[List.contains_cons,Cj (l:=r) e,Bool.or_true]
  |_=>rw[eq_of_beq (e)];decide
variable{Ia:ClassData}{O:K'}{U:f'}{i0:Obj}{o9:Ò}{w9:Option Obj}{x:g'}
theorem Gz(X:O.In x.heap)(c:InstAt x.heap j i0 N w9)(n:clsIn O N=some Ia)(k:gC Ia.mro=true)(p:takerIn O N h=some none)(g:∀b,nc (p' I M) θ.in1 (storeInOwnDict (.ref j) (.ref N) (.str h o9) h U b) (λm l=>match m with|.done f=>P6 (.ok f) l|.again o=>o.quiet=true/\â (p' I M) θ o P6 l) (λe l=>P6 (.error e) l) x):
  â (p' I M) θ (.call (.builtin "object.__setattr__") ⟨[.ref j,.str h o9,U],[]⟩) P6 x:=by
 have i:=PySem.F.store_object
 have y:Ia.mro.isEmpty=false:=by cases q:Ia.mro with
  |nil=>rw[q]at k;simp[gC]at k
  |cons _ _=>rfl
 refine ade i.slot.plain i.entry (@PySem.W.check_slot _ _ _ x _ _ _ _ _ [] _ i.kind i.split (c.type.andThen (ae4 X (by unfold ŵ;rw[n,Option.bind_some,if_neg (by grind),Cj k]))) (i.args _ _ _) ?_)
 refine bx (Ń.mp p) λd r s=>?_
 have t:Ϲ (p' I M) _ (mroOf (.ref N)) _:=(acv X n).andThen .now
 have u:Ϲ (p' I M) x.heap (storeTaker? d) none:=by
  cases d with
  |none=>exact .now
  |some a=>
   obtain⟨b,w,e⟩:=Ã.mp s;refine(PySem.W.looks_takesIn X w).andThen ?_;cases b with
   |true=>cases e
   |false=>exact .now
 rw[PySem.W.osa_eq,refuse_eq];refine j' (j' (c.type.here (j' (t.here ?_))));rw[pT _ k];refine F' (j' (c.type.here (j' ((ϣ X r).here (j' (u.here (g _)))))))
variable{L5:Unit->g'->Prop}
theorem GA{s}(X:O.In s.heap)(k:s.heap.get? j=some ⟨.ref N,none,.fields B5,A7⟩)(p:clsIn O N=some Ia)(q:gC Ia.mro=true)(r:Ia.hasDict=true)(t:findIn O (.ref N) "__setattr__"=some (some (.builtin "object.__setattr__")))(u:takerIn O N h=some none)(d:∀h' t',h'.get? j=some ⟨.ref N,some s.heap.objs.size,.fields B5,A7⟩->h'.Ns1 s.heap.objs.size (λy=>if y=h then some U else none)->(∀b o,b≠j->s.heap.get? b=some o->h'.get? b=some o)->L5 () {s with heap:=h',toks:=t' }):
  nc (p' I M) θ (ϡ (.ref j) h U) L5 ν s:=by
 have a:InstAt _ j ⟨_,_,_,A7⟩ N none:=⟨k,rfl,rfl,trivial⟩;refine adZ X a t (Gz X a p q u λb=>?_)
 have c:(s.heap.push {cls:=.type "dict",data:=.dict #[]}).get? j=some ⟨_,_,_,A7⟩:=X' _ k;have f:=U' (N' k);refine j' (F' (j' (j' (ad_ k (j' (ad0 (acv X p) ?_))))));rw[r];refine j' (wpAny_alloc' (j' (wpAny_update' c (F' ?_))));refine j' (F' (j' (wpAny_nsSet1 (ad8 ⟨_,_,_,((ae5 _ _ _ _ f.symm).trans (ae6 rfl rfl)),rfl,λe w=>absurd w (by simp),λ_=>rfl⟩) λh' g i=>?_)))
 refine cX (g.count (ad1 _ U Within.nil)) λB x z l m A=>?_
 refine j' (ad2 l (by rw[m];exact ad3 (by grind)) ?_)
 refine F' (d h' _ ((i.2 j f).trans (Ĝ _ c rfl)) g λb o n e=>(i.2 b (U' (N' e))).trans ((λb o n e=>
  (ae5 _ _ _ _ n).trans (X' _ e)) b o n e))
variable{P4:Str}{Q7:Option b'}
theorem pj{h}(F:adb i6 m8 P9 g9)(T:ύ h g9 R6)(f:h.get? j=some (Ş B P4 j N j0 R6 H l la E4 Z8 D6 Q6 Q8 R8 S8 T8 m8))(c:h.get? ω=some ⟨.ref j,Q7,.fields #[.ref P1,.none,.none,.none,.bool false,.none],A7⟩)(d:oa.length<=Q')(g:∀h',h'.get? ω=some ⟨.ref j,Q7,.fields #[.ref h.objs.size,.none,.none,.none,.bool false,.none],A7⟩->h'.get? h.objs.size=some {cls:=.type "tuple",data:=.seq oa.toArray}->(∀a o,a≠ω->h.get? a=some o->h'.get? a=some o)->P6 (.ok (.ret .none)) ⟨h',L7,F7,b,o8⟩):
  â (p' I M) θ (.call (.builtin P9) ⟨.ref ω::oa,[]⟩) P6 ⟨h,L7,F7,b,o8⟩:=by
 refine ade F.init.plain F.initEntry (wpAny_check_init_subT F T f c rfl ?_);have e:=X' (h:=h) {cls:=.type "tuple",data:=.seq oa.toArray} c
 wp_walk
 refine g _ ?_ ?_ λa o i k=>?_
 .exact Ĝ _ e rfl
 .rw[ĉ _ _ (Ç (ä (N' c)))]
  exact ae6 rfl rfl
 .rw[ĉ _ _ (Ç i)]
  exact X' _ k
open PySem.W (clsIn findIn takerIn InstAt Looks mroIn)
structure GB(K:K')(C:b'):Prop where
 ga:findIn K (.ref C) "__getattribute__"=some (some (.builtin "BaseException.__getattribute__"))
 gn:findIn K (.ref C) "__getattr__"=some none
 be:mroIn K C (.type "BaseException")=some true
theorem Ck(X:O.In L)(a:InstAt L j i0 N w9)(G:GB O N)(d:L5 () ⟨L,L7,F7,b,o8⟩):nc (p' I M) θ (checkBuiltinCall "BaseException.__getattribute__" ⟨[.ref j,U],[]⟩) L5 ν ⟨L,L7,F7,b,o8⟩:=by
 have c:Looks (p' I M) L (isInstance _ _) _:=(a.type).andThen (ae4 X G.be);refine j' (c.at ?_)
 repeat (any_goals (first|assumption|wp_step))
variable{D5:f'->g'->Prop}{R4:f'}
theorem PH{a}(X:O.In L)(c:InstAt L j i0 N w9)(G:GB O N)(d:∀θ D5 ν,D5 (.done (.ret R4)) ⟨L,L7,F7,w,o8⟩->nc (p' I a) θ (ô.«object.__getattribute__» ⟨[.ref j,U],[]⟩) D5 ν ⟨L,L7,F7,b,o8⟩)(e:handedOut R4=pure R4)(f:D5 R4 ⟨L,L7,F7,w,o8⟩):nc (p' I a) θ (acV (.ref j) U H E4) D5 ν ⟨L,L7,F7,b,o8⟩:=by
 have g:=c.type (M:=p' I a);have L1:=ϣ (M:=p' I a) X G.ga;have L2:=ϣ (M:=p' I a) X G.gn;have i:=ae7.ga.bind (.ref j);have h:(E4&&onTheHeap (acW "BaseException.__getattribute__"))=false:=by cases E4<;>rfl
 refine ñ (j' (g.at (j' (L1.at ?_))));refine j' (L2.at ?_)
 repeat (any_goals (first|wp_step))
 refine(ade ae7.ga.plain F.entry_bexc_ga (Ck X c G ((d _) _ _ ?_)))
 show nc _ _ (handedOut R4) _ _ _
 rw[e];exact F' f
theorem GC{w}(X:O.In L)(a:InstAt L j i0 N w9)(G:GB O N)(c:PySem.W.findObj O N w9 h=some (.value U))(d:ad5 U=true)(e:D5 U ⟨L,L7,F7,b+1,o8⟩):
  nc (p' I w) θ (Ϥ (.ref j) h H) D5 ν ⟨L,L7,F7,b,o8⟩:=by
 refine j' (wpAny_mkText (PH X a G (λg i k q=>?_) (PySem.W.handedOut_of d) e))
 have f:=a.type (M:=p' I w);have L1:=PySem.W.looks_find (M:=p' I w) X a c;refine j' (F' (j' (F' (j' (f.at (j' (L1.at (F' q))))))))
structure pk(K:K')(C N fI:b'):Prop where
 ex:∃(nm q:Str) (bs bm:List f') (sn:List Str) (sub:List f') (ab:Bool) (col:Option Bool) (dd:Option b') (k0 k1 k2 k3 k5:Option f'),
  K.lookup C=some (Ş nm q C N bs bm true sn sub ab col dd k0 k1 k2 k3 k5 "ValueError.__new__")/\(∀h:I',K.In h->ύ h rG bm)
 cd:∃cd,clsIn K C=some cd/\gC cd.mro=true/\cd.hasDict=true
 sa:findIn K (.ref C) "__setattr__"=some (some (.builtin "object.__setattr__"))
 xg:GB K C
 hd:Ű K C=true
 ns:∀h:I',K.In h->∃mN,h.Ns N mN/\mN "__init__"=some (.ref fI)
 kp:Ú K (.ref C)=true
 fn:acx K (.ref fI)=some (.type "function")
noncomputable def cy(C:b')(a:Option b')(t:b'):Obj:=⟨.ref C,a,.fields #[.ref t,.none,.none,.none,.bool false,.none],#[]⟩
theorem Inv.GD(I:Inv c [] X d x)(h:x.heap.get? j=some i0)(b:d j=none)(e:j≠c.env.locals)(f:j∉c.fs)(g:∀v,i0.data≠.cell v):Inv c [(j,i0)] X d x:=
 ⟨I.ok,I.os,I.bare,I.base,I.loc,I.cell,I.free,I.df,λp a=>by
  rcases Ô.mp a with q|q
  .exact I.pin p (by simp[q])
  simp_all,I.hok,I.len⟩
theorem Inv.Cm(I:Inv c G X d x):Inv c [] X d x:=
 ⟨I.ok,I.os,I.bare,I.base,I.loc,I.cell,I.free,I.df,λp a=>I.pin p (by simp_all),I.hok,I.len⟩
variable{A:V}{u7:List (Str×V)}
theorem xU{s}(I:Inv c G X d s)(T:pk c.K N ω P1)(f:dg c.K N h)(i:s.heap.get? j=some i0)(k:i0.cls=.ref N)(m:i0.dict=some y4)(b:ń i0=true)(o:d y4=some (.xd u7))(x:u7.lookup h=some A)(a:∀u,RelV A u->Inv c G X d {s with toks:=s.toks+1}->ν u {s with toks:=s.toks+1}):nc (p' c.prog c.w) θ (Ϥ (.ref j) h H) ν D5 s:=by
 obtain⟨p,n,r⟩:=I.hok y4 _ o;obtain⟨u,q,e⟩:=hY.some_of (A:=A) (Q6:=p h) (by grind)
 obtain⟨t,g,l⟩:=kI n;have J:InstAt _ j i0 N (some t):=⟨i,k,b,by simp_all⟩
 exact GC I.fF J T.xg (ad7 T.hd f (by rfl) (by rw[l,q])) (pI e) (a u e (I.tok _))
structure Ag(X:Cx)(e:b'):Prop where
 new:e∈X.ex\/X.s₀.heap.objs.size<=e
 cell:∀x c,X.env.cells.lookup x=some c->c≠e
 pn:∀p∈X.pn,p.1≠e
variable{aa:Obj}
theorem Inv.chE{s}(I:Inv c [(j,i0)] X d s)(F:Ag c j)(n:L.get? j=some aa)(o:∀e i,e≠j->s.heap.get? e=some i->L.get? e=some i)(r:∀v,aa.data≠.cell v):Inv c [(j,aa)] X d {s with heap:=L,toks:=b}:=by
 refine fK (I.pin (j,i0) (by simp)) λC t k w D=>?_
 have x:=I.Cm;have keep:∀e i0,e∉[j]->s.heap.get? e=some i0->L.get? e=some i0:=λe i0 f q=>o e i0 (by simp_all) q
 have J:Inv c [] X d {s with heap:=L,toks:=b}:=by
  refine x.step (λe f=>?_) (λe i0 _ _ f q _=>keep e i0 f q) (λe i0 _ _ f q _=>⟨_,keep e i0 f q⟩) (λe i0 f q g=>g) (λe i0 f q=>⟨i0,keep e i0 f q⟩) (λe E q=>q) (λe i0 l q=>q) (λe G q=>⟨#[],by simp_all⟩) (λm g=>?_) ?_ I.bare
  .rw[è.mp f]
   exact⟨F.new,k,F.cell,λp H=>F.pn p (by simp_all)⟩
  .refine ek g λi0 y A K B=>?_
   exact⟨i0,y,A,by grind,B⟩
  .intro a u q
   refine(I.hok a u q).stay (λe l f h=>keep e l (λz=>?_) h) (λe h=>h) (by simp)
   simp_all
 exact J.GD n t k w r
structure XBase(K:K')(mg:Str->Option f')(bn:Str)(B0:b'):Prop where
 mg:mg bn=some (.ref B0)
 ga:Ŵ K (.ref B0) "__getattribute__"=some (some (.builtin "type.__getattribute__"))
 rd:ae8 K B0 (.type "type")=true
 ini:ae9 K (.ref B0) (.type "type") "__init__"=some (.val (.builtin "ValueError.__init__"))
noncomputable def Cx.mk1(X:Cx)(e):={X with ex:=[e]}
theorem Inv.mk1{X pins}{d:St}{H s e}(I:Inv X pins d H s)(j:X.ex=[])(f:e≠X.env.locals)(g:∀x c,X.env.cells.lookup x=some c->c≠e)(i:∀o,X.base.get? e≠some o)(k:e∉X.fs):Inv (X.mk1 e) pins d H s:=
 ⟨⟨I.ok.mod,I.ok.kind,I.ok.glob,I.ok.blt,I.ok.above,I.ok.inj,I.ok.has,I.ok.cab,I.ok.hd,I.ok.frames,I.ok.FH,λb a=>by rw[è.mp a];exact⟨f,g⟩,I.ok.bs,I.ok.vy,λb o q a=>by rw[è.mp a]at q;exact i o q,λb a=>by rwa[è.mp a],I.ok.gw,I.ok.zO⟩,
  I.os,I.bare,I.base.mono (λ_ h=>h) (by simp_all),I.loc,I.cell,I.free,I.df,I.pin,I.hok,I.len⟩
structure xV(l:List Ä)(e:b')(oe:Obj)(T:b')(h h':I'):Prop where
 keep:∀b o,b≠e->b∉frs l->h.get? b=some o->h'.get? b=some o
 slot:∀b o,b≠e->h.get? b=some o->∃sl,h'.get? b=some {o with slots:=sl}
 at_:h'.get? e=some (oe.mapFields (·.setIfInBounds 1 (.ref T)))
 tb:∃oT ts,h'.get? T=some oT/\oT.data=.fields ts/\ts[3]?=some .none
 new:h.objs.size<=T
def rH(h:I')(c:Array f'):=c[1]?=some .none\/∃d a b,c[1]?=some (.ref d)/\h.get? d=some a/\a.data=.fields b/\b[3]?=some .none
variable{S6:List Ä}{j7:Model}{u6:Ä}
theorem xW{s head e}(w:θ.frames=some (u6::S6))(B:s.heap.FunFrames L (u6::S6))(D:u6.frame=some j)(E:s.heap.get? N=some i0)(C:i0.data=.fields B5)(hsz:1<B5.size)(h:∀h' T,xV (u6::S6) N i0 T s.heap h'->L5 () {s with heap:=h' }):
  nc j7 θ (do let a ←frameOf u6;let u ←entryPlaceOf j e;let b ←agf head a .none (ÿ j) .none u;ϵ (.ref N) 1 b) (λ_ F=>nc j7 θ (ş (.ref N) none) L5 ν F) ν s:=by
 refine j' (wpAny_frameOf_fun w B D λc d=>?_)
 refine j' (wpAny_entryPlaceOf λu y=>?_)
 refine j' (Ϻ ?_ (y.sizeOk5 _ _ _ _ _))
 have g:=(d.2.1 N (λG=>by
  obtain⟨_,o,J,H⟩:=B.mem G
  simp_all)).trans E
 generalize z:({cls:=.type _,dict:=none,data:=.fields _}:Obj)=p at *;have i:p.data=.fields ([head,.ref j,.none,ÿ j,.none]++(if u.isEmpty then Ŕ 6 õ else u)).toArray:=by grind
 have k:=X' p g;have r:=ä (N' g);refine Š k C hsz ?_;have l:=Ņ C (·.setIfInBounds 1 (Ð c.objs.size));have n:=Ĝ _ k (adf l);have m:((c.push p).update N (ώ (·.setIfInBounds 1 (Ð c.objs.size)))).get? _=some p:=(ĉ _ _ (Ç r)).trans (Ó _ (by rw[←z];rfl))
 refine j' (Ą n l (x:=.ref c.objs.size) (by simp[hsz]) ?_)
 refine Š m i (by simp) (h _ c.objs.size ?_)
 have keep:∀b o,b≠N->c.get? b=some o->(((c.push p).update N (ώ (·.setIfInBounds 1 (Ð c.objs.size)))).update _ (ώ (·.setIfInBounds 3 ((none).elim õ λf=>ÿ f)))).get? b=some o:=λb o A t=>by
  rw[ĉ _ _ (ä (N' t)),ĉ _ _ (Ç A)];exact X' _ t
 refine⟨λb o t I q=>keep b o t ((d.2.1 b I).trans q),λb o t q=>?_,?_,?_,by rw[d.1];exact O' _⟩
 .obtain⟨K,M⟩:=d.2.2 b o q
  simp_all
 .rwa[ĉ _ _ r]
 .exact⟨_,_,Ĝ _ m (adf (Ņ i _)),Ņ i _,by simp⟩
theorem Co{s}(a:θ.frames=some (u6::S6))(i:s.heap.FunFrames L (u6::S6))(e:u6.frame=some j)(c:s.heap.get? N=some i0)(d:i0.data=.fields B5)(b:rH s.heap B5)(h:∀h' T,xV (u6::S6) N i0 T s.heap h'->L5 () {s with heap:=h' }):
  nc j7 θ (ϻ (.ref N) u6) (λ_ l=>nc j7 θ (ş (.ref N) none) L5 ν l) ν s:=by
 unfold ϻ;simp only[e];rcases b with b|⟨m,n,o,b,f,g,k⟩
 .refine j' (Ą c d b (xW a i e c d (by grind) h))
 .refine j' (Ą c d b ?_)
  refine j' (Ą f g k ?_);refine j' (Š f g (by grind) ?_)
  rw[ae' _ m _ _ 3 _ f g k];exact xW a i e c d (by grind) h
theorem pU{s}(a:θ.frames=some (u6::S6))(b:s.heap.FunFrames L (u6::S6))(c:u6.frame=some j)(d:s.heap.get? N=some i0)(e:i0.data=.fields B5)(f:rH s.heap B5)(h:∀h' T,xV (u6::S6) N i0 T s.heap h'->L5 () {s with heap:=h' }):nc j7 θ (ϧ u6 (.ref N)) L5 ν s:=j' (Co a b c d e f h)
variable{F9:ū->g'->Prop}
theorem Ah(f:R6.contains (.type "BaseException")=true)(q:θ.handled=none)(c:nc j7 θ (eval n u6) (λv a=>∃e i t,v=.ref e/\a.heap.get? j=some (Ş h B j N j0 R6 H l g9 E4 Z8 D6 Q6 Q8 R8 S8 T8 i6)/\a.heap.get? e=some (cy j i t)/\ν (.ref e) a) ν x):
  nc j7 θ (exec (.Raise (some n) none o) u6) F9 ν x:=by
 first
  |exact j' (aa' (by
    have k:(Ð j::R6).contains (.type "BaseException")=true:=by simp_all
    unfold raiseStmt;refine j' (à (j' (à c (λv a b=>j' (aa' (F' b))) λ_ _ n=>n)) (λv a b=>?_) λ_ _ n=>n)
    refine bO b λe i t m r p s=>?_;subst m
    obtain⟨u,g,d,w,y⟩:=a;have p:u.get? e=some ⟨.ref j,i,_,#[]⟩:=p
    repeat (first | (with_reducible refine ae3 r ?_;rw[k])|wp_step)
    exact wpAny_raiseNew_none q s))
structure nJ(P:Á)(w:W')(outer:List Ä)(H:Hp)(s:g')(e C d:b')(H':Hp)(s':g'):Prop where
 os:s'.os=s.os
 bare:ą s'.gens
 un:Un (frs outer) [] H H' s.heap s'.heap
 hok:hJ P w H' s'.heap
 new:s.heap.objs.size<=e
 free:H' e=none
 obj:∃oe vs,s'.heap.get? e=some oe/\oe.cls=.ref C/\oe.dict=some d/\oe.data=.fields vs/\rH s'.heap vs
noncomputable def mu(P:Á)(w:W'):Bp:=λouter H s E x b=>∃e C d a,x=.ref e/\nJ P w outer H s e C d a b/\E (.ref C) (some d) a
theorem Cp(I:Inv c G X d x)(s:c.ex=[])(g:c.stack=c.env::c.outer)(i:c.env.frame=some c.env.locals)(D:x.heap.get? j=some (cy N (some ω) P1))(t:c.s₀.heap.objs.size<=j)(E:d j=none)(h:∀y,nJ c.prog c.w c.outer c.H₀ c.s₀ j N ω d y->L5 () y):nc (p' c.prog c.w) c.A (ϧ c.env (.ref j)) L5 ν x:=by
 have k:=I.ok.frames;rw[g]at k;have B:=I.stack;rw[g]at B;refine pU k B i D rfl (.inl rfl) λO T F=>h _ ?_
 have m:∀b u,d b=some u->b∉frs _:=λb u q z=>by
  have:=I.jB b (by omega)
  grind
 have e:∀b o,c.s₀.heap.get? b=some o->b≠j/\b≠c.env.locals:=λb o q=>⟨λz=>by rw[z]at q;exact absurd (M' (N' q) t) (by simp),λz=>by rw[z]at q;exact absurd (M' (N' q) I.ok.above) (by simp)⟩
 refine⟨I.os,I.bare,⟨λb o q n f _=>?_,λb o q n f _=>?_,λb o q n _=>I.base.free b o q n (by simp_all),λb o q _=>?_,I.base.tups,I.base.ff,I.base.gc⟩,λa u q=>?_,t,E,?_⟩
 .exact F.keep b o (e b o q).1 ((λb o q f z=>by
  unfold frs at z;rw[ϙ,i]at z;rcases È.mp z with z|z
  .grind
  .exact f z) b o q f) (I.base.keep b o q n f (by rw[s];simp))
 .obtain⟨P,p⟩:=I.base.slot b o q n f (by rw[s];simp)
  obtain⟨r,C⟩:=F.slot b _ (e b o q).1 p
  simp_all
 .obtain⟨Q,p⟩:=I.base.there b o q (by simp_all)
  obtain⟨r,C⟩:=F.slot b _ (e b o q).1 p;exact⟨_,C⟩
 .refine(I.hok a u q).stay (λb H f l=>F.keep b H (λz=>?_) ?_ l) (λb l=>l) λb R l=>l
  .simp_all
  grind
 .refine aP F.tb λoT J K L M=>?_
  exact⟨_,_,F.at_,rfl,rfl,rfl,.inr ⟨T,oT,J,by simp,K,L,M⟩⟩
noncomputable def Cx.pV(X:Cx)(e):={X with A:=X.A.mark (some (.ref e)),calm:=false,xe:=λ_ _=>False}
theorem Inv.pV{X pins}{a:St}{H s e}(I:Inv X pins a H s):Inv (X.pV e) pins a H s:=
 ⟨⟨I.ok.mod,I.ok.kind,I.ok.glob,I.ok.blt,I.ok.above,I.ok.inj,I.ok.has,I.ok.cab,(λz=>nomatch (z)),I.ok.frames,I.ok.FH,I.ok.FU,I.ok.bs,I.ok.vy,I.ok.oY,I.ok.oZ,I.ok.gw,I.ok.zO⟩,
  I.os,I.bare,I.base,I.loc,I.cell,I.free,I.df,I.pin,I.hok,I.len⟩
theorem Inv.PJ(ok:c.Ok)(I:Inv (c.pV j) G X d x):Inv c [] X d x:=
 ⟨ok,I.os,I.bare,I.base,I.loc,I.cell,I.free,I.df,λp a=>I.pin p (by rw[ę]at a;simp[show p∈(c.pV j).pn from a]),I.hok,I.len⟩
theorem Inv.flown{s}(I:Inv c [] X d s)(F:xV c.stack j i0 N s.heap L)(f:Ag c j)(h:j≠c.env.locals)(D:d j=none):Inv c [] X d {s with heap:=L}:=by
 refine I.step (ch:=[j]) (λb e=>?_) (λb o l e i q n=>F.keep b o (by grind) (λz=>((λb z=>È.mp (I.qQ b z)) b z).elim l e) q) (λb o _ _ i q _=>F.slot b o (by grind) q) (λ_ _ _ _ n=>n) (λb o i q=>?_) (λ_ _ q=>q) (λ_ _ _ q=>q) (λb E q=>⟨#[],by simp_all⟩) (λm r=>?_) (λa u q=>?_) I.bare
 .rw[è.mp e]
  exact⟨f.new,h,f.cell,λp G=>f.pn p (by simp_all)⟩
 .obtain⟨t,k⟩:=F.slot b o (by grind) q
  simp_all
 .refine cX r λo w x y A B=>?_
  obtain⟨t,k⟩:=F.slot _ o (Ç h) y;exact⟨_,w,x,k,A,B⟩
 .refine(I.hok a u q).stay (λb C e g=>F.keep b C (λz=>?_) (λz=>?_) g) (λ_ g=>g) (by simp)
  .simp_all
  .have H:=I.jB b z
   simp_all
theorem nK(c:x.heap.get? j=some i0)(d:i0.data=.fields B5)(e:B5[1]?=some (.ref N))(b:x.heap.get? N=some aa)(a:aa.data=.fields J7)(f:J7[3]?=some .none)(h:L5 () x):
  nc j7 θ (ş (.ref j) none) L5 ν x:=by
 refine j' (Ą c d e ?_);refine Š b a (by grind) ?_
 have:=ae' _ N aa J7 3 _ b a f
 simp_all
noncomputable def Cx.xX(X:Cx)(e)(a:Obj):={X with pn:=X.pn++[(e,a)]}
theorem Inv.xX{X}{a:St}{H s e b}(I:Inv X [(e,b)] a H s):Inv (X.xX e b) [] a H s:=
 ⟨⟨I.ok.mod,I.ok.kind,I.ok.glob,I.ok.blt,I.ok.above,I.ok.inj,I.ok.has,I.ok.cab,I.ok.hd,I.ok.frames,I.ok.FH,I.ok.FU,I.ok.bs,I.ok.vy,I.ok.oY,I.ok.oZ,I.ok.gw,I.ok.zO⟩,
  I.os,I.bare,I.base,I.loc,I.cell,I.free,I.df,λp c=>I.pin p (by simpa[Cx.xX]using c),I.hok,I.len⟩
theorem Inv.JG(I:Inv (c.xX j i0) [] X d x):Inv c [(j,i0)] X d x:=
 ⟨⟨I.ok.mod,I.ok.kind,I.ok.glob,I.ok.blt,I.ok.above,I.ok.inj,I.ok.has,I.ok.cab,I.ok.hd,I.ok.frames,I.ok.FH,I.ok.FU,I.ok.bs,I.ok.vy,I.ok.oY,I.ok.oZ,I.ok.gw,I.ok.zO⟩,
  I.os,I.bare,I.base,I.loc,I.cell,I.free,I.df,λp a=>I.pin p (by simpa[Cx.xX]using a),I.hok,I.len⟩
structure Uh(K:K')(C:b'):Prop where
 ha:Å K (.ref C) "__class__"=some (some (.builtin "object.__class__"))
 hn:Ŵ K (.builtin "object.__class__") "__get__"=some (some (.builtin "getset_descriptor.__get__"))
 ht:acB K (.builtin "object.__class__")=some true
 hm:ŵ K C (.type "object")=some true
structure WN(X:Cx)(e C:b')(oe:Obj)(d:b')(N fI:b'):Prop where
 pn:(e,oe)∈X.pn
 cls:oe.cls=.ref C
 dict:oe.dict=some d
 no:ń oe=true
 txt:pk X.K C N fI
 is:Uh X.K C
noncomputable def tXf(i:Nat)(e d:b')(a:Str):TE:=λc H Q=>c[i]?=some (some (.ref e))/\∃b v,H d=some (.xd b)/\b.lookup a=some v/\Q v H
theorem PK(a:WN c j N i0 y4 ω P1)(i:dg c.K N B)(k:c.N[b]?=some h)(l:vx c.env.scope h)(e:(h==("__debug__"))=false:=by decide)(f:(h==("__classdict__"))=false:=by decide):
  PE c (.Attribute (.Name h o) B P) (tXf b j y4 B):=by
 intro pins s m H Q I d;refine xa d λn g=>aP g λA v p q r=>?_
 refine q_ rfl (bV (mU k l e f _ s m H (λw t=>w=.ref j/\t=H) I ⟨_,n,rfl,rfl⟩) λu C ⟨w,H1,J1,x,hw,hH⟩=>?_)
 subst hw hH;cases (x);exact xU J1 a.txt i (J1.pin (j,i0) (by simp[a.pn])).1 a.cls a.dict a.no p q λD y z=>⟨v,H1,z,y,r⟩
theorem Cq{s}(I:Inv c [(j,cy N none y4)] X d s)(T:pk c.K N ω P1)(M:dg c.K N h)(O:j∈c.ex\/c.s₀.heap.objs.size<=j)(t:∀x e,c.env.cells.lookup x=some e->e≠j)(u:∀p∈c.pn,p.1≠j)(r:RelV A U)(i:∀k E,d k=none->k≠j->s.heap.objs.size<=k->Inv c [(j,cy N (some k) y4)] X (upd d k (.xd [(h,A)])) E->L5 () E):nc (p' c.prog c.w) θ (ϡ (.ref j) h U) L5 ν s:=by
 refine ay T.cd λcd P Q R=>?_
 refine fK (I.pin (j,cy N none y4) (by simp)) λF S y V p5=>?_
 have B:=I.hok.fresh (O' _);have l:=ä (N' F);refine GA I.fF F P Q R T.sa M.taker λG Y Z g2 g3=>i _ _ B l (O' _) ?_
 have I0:=I.Cm;have keep:∀b o,b∉[j]->s.heap.get? b=some o->G.get? b=some o:=λb o g q=>g3 b o (by simpa using g) q
 have J:Inv c [] X (upd d s.heap.objs.size (.xd [(h,A)])) {s with heap:=G,toks:=Y}:=by
  refine I0.step (ch:=[j]) (λb g=>?_) (λb o _ _ g q _=>keep b o g q) (λb o _ _ g q _=>⟨o.slots,keep b o g q⟩) (λb o g q C=>?_) (λb o g q=>⟨o,keep b o g q⟩) (λb xs q=>?_) (λb o H q=>?_) (λb ps q=>?_) (λm C=>?_) ?_ I.bare
  .rw[è.mp g]
   exact⟨O,y,t,λp hp=>u p (by simpa using hp)⟩
  .rw[ax (U' (N' q))];exact C
  .rw[ax (λz=>by grind)];exact q
  .rw[ax (λz=>by simp_all)];exact q
  .exact⟨#[],by rw[ax (λz=>by simp_all),q];simp⟩
  .refine ek C λo es ep e1 e2=>?_
   exact⟨o,es,ep,keep _ o (by simp[Ç y]) e1,e2⟩
  .intro a o q
   by_cases L:a=s.heap.objs.size
   .subst L
    rw[aD]at q;cases q;refine⟨_,g2,λf=>?_⟩
    by_cases D:f=h
    .rw[D];simp[ű];exact r
    .rw[if_neg D]
     have:(f==h)=false:=by simpa using D
     simp[ű,this];exact trivial
   .rw[ax L]at q
    refine(I.hok a o q).stay (λb H g n=>keep b H (λz=>?_) n) (λb n=>?_) λb xs n=>?_
    .simp_all
    .rw[ax (λz=>by simp_all)];exact n
    .rw[ax (λz=>by grind)];exact n
 exact J.GD Z (by rw[ax (Ç l)];exact S) y V (λA=>by simp[cy])
structure tY where
 fld:Str
 ve:A'
 a1:T'
 a2:T'
 a3:T'
noncomputable def tY.st(a:Str)(r:tY):J':=.Assign [.Attribute (.Name a r.a1) r.fld r.a2] r.ve r.a3
def pW(e b:b'):List (Str×TE)->Option b'->List (Str×V)->St->Hp->(Option b'->List (Str×V)->Hp->Prop)->Prop
 |[],d,fs,_,H,Q=>Q d fs H
 | (f,g)::r,none,_,σ,H,Q=>g σ H λv c=>∀a,c a=none->a≠e->b<=a->pW e b r (some a) [(f,v)] σ (upd c a (.xd [(f,v)])) Q
 |_::_,some _,_,_,_,_=>False
def PL(X:Cx)(H:Hp):Option b'->List (Str×V)->Prop
 |none,fs=>fs=[]
 |some a,fs=>H a=some (.xd fs)/\X.s₀.heap.objs.size<=a
variable{F5:List J'}{g8:tY}{y9:Option b'->List (Str×V)->Hp->Prop}
theorem GF(T:pk c.K N ω P1)(F:Ag c j)(C:c.N[b]?=some h)(D:vx c.env.scope h)(e:X[b]?=some (some (.ref j)))(f:(h==("__debug__"))=false)(g:(h==("__classdict__"))=false)(K:∀i t a u,Inv c [(j,cy N i y4)] X a u->PL c a i t->y9 i t a->nc (p' c.prog c.w) c.A (ĸ F5 c.env) F9 c.xe u)(E:PE c g8.ve ψ)(G:dg c.K N g8.fld)(k:∀m,ï g8.ve (some (.Attribute (.Name h g8.a1) g8.fld g8.a2)) g8.a3.line m=pure false)(I:Inv c [(j,cy N none y4)] X d x)(q:pW j c.s₀.heap.objs.size [(g8.fld,ψ)] none [] X d y9):nc (p' c.prog c.w) c.A (ĸ (g8.st h::F5) c.env) F9 c.xe x:=by
 refine Ϝ (ad9 (?_) (k _));refine bV (E _ x X d _ I q) λu1 U n=>?_;refine aP n λv y H J L=>?_
 refine bV (mU (o:=g8.a1) C D f g _ _ _ y (λz a=>z=.ref j/\a=y) H ⟨.ref j,e,rfl,rfl⟩) λu2 V n=>?_;refine bQ n λz Y B M O P=>?_
 subst O P;cases (M);exact Cq B T G F.new F.cell F.pn J λQ R p r s S=>have l:=B' B.sz s;K _ _ _ R S ⟨aD,l⟩ (L Q p r l)
noncomputable def tZ(a:Str)(q:Str×T'×T'):A':=.Attribute (.Name a q.2.1) q.1 q.2.2
theorem Cr{X}{f:St}{H e C N y t a}{i:Nat}{l}(T:pk X.K C N y)(m:X.N[i]?=some a)(n:vx X.env.scope a)(b:f[i]?=some (some (.ref e)))(c:(a==("__debug__"))=false)(d:(a==("__classdict__"))=false){pos g}(o:H g=some (.xd l)):
  ∀(L:List (Str×T'×T')) s {Q},(∀q∈L,dg X.K C q.1/\∃v,l.lookup q.1=some v)->Inv X [(e,cy C (some g) t)] f H s->(∀p r,p.length=L.length->Inv X [(e,cy C (some g) t)] f H r->Q p r) ->
   nc (p' X.prog X.w) X.A (Ϛ (À pos (D' (L.map (tZ a)) X.env))) Q X.xe s
 |[],s,Q,_,I,h=>Ŷ (h [] s rfl I)
 |q::L,s,Q,x,I,h=>by
  refine xa (x q (by simp)) λz j=>xe j λv B=>?_
  refine ŷ (q_ rfl (bV (mU m n c d _ _ f H (λw D=>w=.ref e/\D=H) I ⟨_,b,rfl,rfl⟩) λu R E=>?_));refine bQ E λw S k F G J=>?_
  subst G;rw[J]at k;cases (F);refine fK (k.pin (e,cy C (some g) t) (by simp)) λM _ _ _ _=>?_
  refine xU k T z M rfl rfl rfl o B λu U O=>Cr T m n b c d o L _ (λP h'=>x P (by simp_all)) O (by simp_all)
theorem GG{pl}{L:List (Str×T'×T')}(I:Inv c [(j,cy N D6 y4)] X d x)(F:Ag c j)(T:pk c.K N ω P1)(a:XBase c.K c.mg B M6)(st:PL c d D6 u7)(z:∀q∈L,dg c.K N q.1/\∃v,u7.lookup q.1=some v)(i:L.length<=900)(C:c.N[b]?=some h)(D:vx c.env.scope h)(k:X[b]?=some (some (.ref j)))(H:Gl c B)(E:eval (.Call (.Attribute (.Name B o) "__init__" Q3) (.Name h P::L.map (tZ h)) [] P7) c.env=(do
   let G ←eval (.Name B o) c.env
   Ă Q3.atName
   let (f,first) ←ă [G] (Đ G "__init__" pl)
   Ě P7 f first (À P7 (D' (.Name h P::L.map (tZ h)) c.env)) (ù P7 (ú [] c.env))))(e:∀t' g,Inv c [(j,cy N D6 t')] X d g->ν .none g)(r:(B==("__debug__"))=false)(l:(h==("__debug__"))=false)(m:(h==("__classdict__"))=false):
  nc (p' c.prog c.w) c.A (eval (.Call (.Attribute (.Name B o) "__init__" Q3) (.Name h P::L.map (tZ h)) [] P7) c.env) ν c.xe x:=by
 refine ϥ (fL I H a.mg ?_ r) E;refine PySem.W.method_cls I.fF a.ga (PySem.W.cls_value I.fF a.rd a.ini (by rfl) ?_)
 have n:D' (.Name h P::L.map (tZ h)) _=(false,eval _ c.env)::D' _ _:=rfl;refine aef ?_ n ?_
 .refine ŷ (bV (mU C D l m _ _ X d (λw J=>w=.ref j/\J=d) (I.tok (x.toks+1)) ⟨_,k,rfl,rfl⟩) λu s1 M=>?_);refine bQ M λw O Q R S U=>?_
  subst S U;cases (R)
  have s:∀t g,t.length=L.length->Inv c [(j,cy N D6 y4)] X O g->nc (p' c.prog c.w) c.A (call _ (.ref j::t)) ν c.xe g:=λt g y p=>by
   obtain⟨nm,q,bs,bm,sn,V,ab,Y,Z,k0,k1,k2,k3,k5,hC,ot⟩:=T.ex;refine fK (p.pin (j,cy N D6 y4) (by simp)) λz1 _ _ _ _=>?_
   refine œ (pj afa (ot _ p.fF) (p.fF _ _ hC) z1 (by rw[ò];exact fG (B' (R' y) i)) λh' g1 g2 g3=>e _ _ (p.chE F g1 g3 (λv=>by simp[cy])))
  cases D6 with
  |none=>
   cases (st);cases L with
   |nil=>exact Ŷ (by simp_all)
   |cons q L=>grind
  |some dd=>exact Cr T C D k l m st.1 L _ z Q s
 .clear n E z i
  induction L with
  |nil=>rfl
  |cons q L ih=>exact ih
structure pX(K:K')(mg:Str->Option f')(C N0 f c:b')(fd:Y')(st:J')(qual sf:Str)(ps:List Str)(rs:List tY):Prop where
 fn:∃x,Bq K x qual st f fd
 cv:fd.code=.ref c
 sc:jF (sf::ps) (sf::ps) (ai st)
 cls:pk K C N0 f
 bs:Binds K fd (sf::ps) []
 na:∀r∈rs,dg K C r.fld
 nd:(rs.map (·.fld)).Nodup
 sl:(ai st).names.lookup sf=some .local
 d1:(sf==("__debug__":Str))=false
 d2:(sf==("__classdict__":Str))=false
 ln:rs.length=1
 pl:ps.length<900
 body:∃(bn:Str) (B0:b') (L:List (Str×T'×T')) (p1 p2 p5 apos pos:T') (pl:Ä->í Bool),XBase K mg bn B0/\(bn==("__debug__":Str))=false/\(ai st).names.lookup bn=some .globalImplicit /\
  aO st=rs.map (tY.st sf)++[.Expr (.Call (.Attribute (.Name bn p1) "__init__" apos) (.Name sf p2::L.map (tZ sf)) [] pos) p5]/\L.map (·.1)=rs.map (·.fld) /\
  (∀r∈rs,∀env,ï r.ve (some (.Attribute (.Name sf r.a1) r.fld r.a2)) r.a3.line env=pure false) /\
  (∀env:Ä,eval (.Call (.Attribute (.Name bn p1) "__init__" apos) (.Name sf p2::L.map (tZ sf)) [] pos) env=(do
   let ov ←eval (.Name bn p1) env
   Ă apos.atName
   let (f,first) ←ă [ov] (Đ ov "__init__" (pl env))
   Ě pos f first (À pos (D' (.Name sf p2::L.map (tZ sf)) env)) (ù pos (ú [] env))))
variable{J0:Y'}{S:List V}{Θ:J'}
theorem LD(D:pX O Δ ω P1 j N J0 Θ h B l [g8])(d0:∀E,∃te,PE ((dh fH I M O Δ L (B::l) h (ai Θ) j (.ref N) θ S6 x d E).lU.mk1 y4) g8.ve te /\
   pW y4 x.heap.objs.size [(g8.fld,te)] none [] (start (B::l) (.ref y4::S)) d λa f R=>f.map (·.1)=[g8.fld]/\y9 a f R)(hr:cu (b+1) θ)(U:tG I M O Δ L θ S6 x d)(hb:ć x J0 ⟨.ref y4::j0,[]⟩ ((B::l).zip (.ref y4::j0)))(V:S.length=l.length)(rv:Vals S j0)(he:x.heap.get? y4=some (cy ω none M6))(g0:L.objs.size<=y4)(h0:d y4=none)(Y:y4∉frs S6)(C:∀a f i t' r,y9 a f i->(a=none/\f=[]\/∃Q,a=some Q/\i Q=some (.xd f)/\x.heap.objs.size<=Q)->r.os=x.os->ą r.gens->Un (frs S6) [y4] d i x.heap r.heap->hJ I M i r.heap ->
   r.heap.get? y4=some (cy ω a t')->i y4=none->P6 (.ok (.ret (.ref y4))) r):
  â (p' I M) θ (.call (.ref j) ⟨.ref y4::j0,[]⟩) (acy y4 P6) x:=by
 obtain⟨g,F⟩:=D.fn;have i0:=D.cv;have c:=D.sc;have T:=D.cls;obtain⟨bn,B0,G,p1,p2,p5,apos,M0,pl,k,l0,hg,m0,Z,o0,ht⟩:=D.body;refine xe F.ex λoc H=>xe H λa p0=>xe p0 λkV r0=>xe r0 λP0 s0=>xe s0 λpm t0=>bp t0 λan u0 ct Q0 v0 lk w0=>?_;subst v0
 obtain rfl:u0=.ref N:=i0;have KX:O.In x.heap:=U.mod.Jw.keeps λm o y4=>(U.bs m o y4).1
 have x0:x.heap.NoLimit:=U.mod.nolimit.keeps λm o y4=>(U.bs m o y4).1
 refine aec hr.depth (KX _ _ lk) rfl c.co c.gen rfl (aed KX w0) (hb _ _ _ _ ?_)
 refine aee c.kind (λ⟨n,v⟩ hy=>by
  rcases c.par n (Ϧ hy).1 with q|q
  .exact .inl q
  .exact .inr ⟨q,acE _ _ _ (.inl q)⟩) λR0 y0 s1 g=>?_
 subst y0;refine⟨x0.keeps g.toInCall.keep,codeAny_func ?_⟩;have E:XK:=λ_ _ _=>False
 have s:Inv (dh fH I M O Δ L (B::l) h (ai Θ) j (.ref N) θ S6 x d E) [] (start (B::l) (.ref y4::S)) d s1:=pN (j0:=.ref y4::j0) c hr.hd U (by simp[V]) (.cons rfl rv) g
 have a0:=N' he;have u:y4≠x.heap.objs.size:=U' a0
 have b0:∀(y:Str) (cc:b'),(Ê h (ai Θ) x.heap.objs.size j (.ref N)).cells.lookup y=some cc->cc≠y4:=λy cc hy z=>by
  have:=s.ok.cab y cc rfl hy;rw[z]at this;exact absurd (M' a0 this) (Û _)
 have I1:=(s.wish (λ_ _=>False)).mk1 (e:=y4) rfl u b0 (λo q=>absurd (M' (N' q) g0) (Û _)) Y
 have I2:=I1.GD (g.toInCall.keep _ _ he) h0 u Y (λv=>by simp[cy])
 refine bx (d0 E) λte z0 A0=>?_
 have C0:nc (p' I M) (θ.deeper (Ê h (ai Θ) x.heap.objs.size j (.ref N))) (ĸ (aO Θ) (Ê h (ai Θ) x.heap.objs.size j (.ref N)))
   (λfl r=>fl=.next/\∃a f i t',y9 a f i/\PL (dh fH I M O Δ L (B::l) h (ai Θ) j (.ref N) θ S6 x d E) i a f/\Inv ((dh fH I M O Δ L (B::l) h (ai Θ) j (.ref N) θ S6 x d E).lU.mk1 y4) [(y4,cy ω a t')] (start (B::l) (.ref y4::S)) i r) (λ_ _=>False) s1:=by
  have D0:((dh fH I M O Δ L (B::l) h (ai Θ) j (.ref N) θ S6 x d E).lU.mk1 y4).s₀=x:=rfl
  have G0:∀i a f,PL ((dh fH I M O Δ L (B::l) h (ai Θ) j (.ref N) θ S6 x d E).lU.mk1 y4) i a f->PL (dh fH I M O Δ L (B::l) h (ai Θ) j (.ref N) θ S6 x d E) i a f:=λi a f q=>by
   cases a with
   |none=>exact q
   |some Q=>exact q
  generalize t:(dh fH I M O Δ L (B::l) h (ai Θ) j (.ref N) θ S6 x d E).lU.mk1 y4=X at *;have xe:X.env=Ê h (ai Θ) x.heap.objs.size j (.ref N):=by rw[←t];rfl
  have xN:X.N=B::l:=by rw[←t];rfl
  have xA:X.A=θ.deeper (Ê h (ai Θ) x.heap.objs.size j (.ref N)):=by rw[←t];rfl
  have xK:X.K=O:=by rw[←t];rfl
  have xm:X.mg=Δ:=by rw[←t];rfl
  have xp:X.prog=I:=by rw[←t];rfl
  have xw:X.w=M:=by rw[←t];rfl
  have xx:X.xe=λ_ _=>False:=by rw[←t];rfl
  have fr:Ag X y4:=⟨.inl (by rw[←t];simp[Cx.mk1]),by rw[xe];exact b0,by rw[←t];intro p hp;cases hp⟩
  rw[←xA,←xe,←xp,←xw,←xx,m0];have na:=D.na;rw[←xK]at T k na;rw[←xm]at k;have hN:X.N[0]?=some B:=by rw[xN];rfl
  have hv:vx X.env.scope B:=.inl (by rw[xe];exact D.sl)
  have I0:Gl X bn:=by show X.env.scope.names.lookup bn=_;rw[xe];exact hg
  refine GF (y9:=λa f R=>f.map (·.1)=[g8.fld]/\y9 a f R) T fr hN hv rfl D.d1 D.d2 (λa f R r J c0 q=>?_) z0 (na g8 (.head _)) (o0 g8 (.head _)) I2 (by rw[D0];exact A0)
  obtain⟨q1,q2⟩:=q;refine Ϝ (adP (GG J fr T k c0 (λq' K0=>?_) ?_ hN hv rfl I0 (ht X.env) (λt' s5 J5=>?_) l0 D.d1 D.d2) J.quiet (by rfl))
  .have h1:q'.1∈[g8.fld]:=by
    rw[show [g8.fld]=G.map (·.1)from Z.symm]
    exact ϸ K0
   rw[è.mp h1];refine⟨na g8 (.head _),?_⟩;obtain⟨p,rfl⟩:=List.length_eq_one_iff.mp ((Þ (as:=f) (·.1)).symm.trans (congrArg ϩ q1));rw[←(afb q1).1];exact⟨p.2,by simp[ű]⟩
  .have:=congrArg ϩ Z
   simp at this;exact fG (R' this)
  .exact Ĺ ⟨rfl,a,f,R,t',q2,G0 _ _ _ c0,J5⟩
 refine à C0 (λfl r hs=>?_) λ_ _ z=>z.elim
 refine xa hs λL0 H=>bp H λa f i t' q2 P J=>?_;subst L0
 refine fK (J.pin (y4,cy ω a t') (by simp)) λg1 g2 _ _ _=>?_
 refine⟨rfl,C a f i t' r q2 ?_ J.os J.bare J.base J.hok g1 g2⟩;cases a with
 |none=>exact .inl ⟨rfl,P⟩
 |some Q=>exact .inr ⟨Q,rfl,P.1,P.2⟩
theorem Inv.gone{s}(ok:c.Ok)(I:Inv (c.pV j) G X d s)(E:c.N.Nodup)(F:c.N[w]?=some h)(H:∀(g:Nat) x v,c.N[g]?=some x->X[g]?=some (some v)->vx c.env.scope x->∃u,RelV v u/\Look c.env s.heap Δ x u)(J:L.Ns c.env.locals (λx=>if x=h then Q6 else Δ x))(K:Ķ c.env.locals s.heap L):Inv c [] (X.set w none) d {s with heap:=L,toks:=b}:=by
 have k:∀e o,e≠c.env.locals->s.heap.get? e=some o->L.get? e=some o:=λe o i q=>(K.2 e i).trans q
 have r:∀e o,c.s₀.heap.get? e=some o->e≠c.env.locals:=λe o q=>U' (M' (N' q) I.ok.above)
 refine⟨ok,I.os,I.bare,⟨λe o q h i l=>k e o (r e o q) (I.base.keep e o q h i l),λe o q h i l=>?_,I.base.free,λe o q l=>?_,I.base.tups,I.base.ff,I.base.gc⟩,⟨_,J,λg x v t z M=>?_⟩,λx f q=>?_,I.free,I.df,λp C=>?_,λa u q=>?_,by rw[ab_];exact I.len⟩
 .obtain⟨sl,y⟩:=I.base.slot e o q h i l
  simp_all
 .obtain⟨o',y⟩:=I.base.there e o q l
  simp_all
 .by_cases m:g=w
  .rw[adg]at z
   simp_all
  .rw[ķ (Ç m)]at z
   obtain⟨u,O,P⟩:=H g x v t z M;refine⟨u,O,?_⟩;rcases P with ⟨A,B⟩|⟨A,f,B,o,Q,R⟩
   .exact .inl ⟨A,by dsimp only;rwa[if_neg (λS=>by
    subst S;exact m ((ab0 (Ì.mp t).1 E).mp (t.trans F.symm)))]⟩
   .exact .inr ⟨A,f,B,o,k f o (I.OX x f B) Q,R⟩
 .obtain⟨v,o,y,T⟩:=I.cell x f q
  exact⟨v,o,k f o (I.OX x f q) y,T⟩
 .rw[ę]at C
  refine fK (I.pin p (by simp[show p∈(c.pV j).pn from C])) λU Y D Z a5=>?_
  exact⟨k _ _ D U,Y,D,Z,a5⟩
 .refine(I.hok a u q).stay (λe u' i n=>k e u' (λz=>?_) n) (λ_ n=>n) λ_ _ n=>n
  have hf:d c.env.locals=none:=I.free
  simp_all
noncomputable def PM(b:Option Str)(i:Nat)(a:St):St:=if b.isSome then a.set i none else a
theorem GH{s' S}(I:Inv c [] X d x)(e:nJ c.prog c.w c.stack d x j N ω υ s')(h:c.stack=c.env::c.outer)(E:c.env.frame=some c.env.locals)(G:υ ω=some (.xd u7))(K:∀h' f D,Inv c [] X υ {s' with heap:=h' }->acr h' j f N D->(∀{M A ν F9},F9 () {s' with heap:=h' }->nc M A (ş (.ref j) none) F9 ν {s' with heap:=h' }) ->
   f.cls=.ref N->f.dict=some ω->ń f=true->Inv (c.pV j) [(j,f)] X υ {s' with heap:=h' }->nc (p' c.prog c.w) c.A (adi (.ref j) c.env S) F9 ν {s' with heap:=h' }):
  nc (p' c.prog c.w) c.A (ϻ (.ref j) c.env) (λ_ s=>nc (p' c.prog c.w) c.A (ş (.ref j) none) (λ_ t=>nc (p' c.prog c.w) c.A (adi (.ref j) c.env S) F9 ν t) ν s) ν s':=by
 have H:Inv c [] X υ s':=I.call' (z:=[]) e.os e.un e.hok e.bare (by simp)
 obtain⟨f,Z,g1,g2,g3,U,V⟩:=e.obj;have u:=H.ok.frames;rw[h]at u;have Y:=H.stack;rw[h]at Y;have i:∀b o,x.heap.get? b=some o->b≠j:=λb o q z=>by rw[z]at q;exact absurd (M' (N' q) e.new) (Û _)
 have g:j≠c.env.locals:=λz=>by
  obtain⟨m,⟨o,_,_,L,_⟩,_⟩:=I.loc;exact i _ _ L z.symm
 have fr:Ag c j:=⟨.inr (B' I.sz e.new),λk l q=>by
  obtain⟨v,o,O,_⟩:=I.cell k l q;exact i _ _ O,λp hp=>by
  obtain⟨O,_⟩:=I.pin p (by simp[hp])
  exact i _ _ O⟩
 have P:j∉c.fs:=λz=>by
  obtain⟨_,o,L,_⟩:=I.ok.gw.mem z;exact absurd (M' (N' L) (B' I.sz e.new)) (Û _)
 refine Co u Y E g1 U V λh' T F=>?_
 have J:Inv c [] X υ {s' with heap:=h' }:=H.flown (by rw[h];exact F) fr g e.free
 have n:=F.at_;obtain⟨oT,ts,t1,t2,t3⟩:=F.tb;have y:(f.mapFields (·.setIfInBounds 1 (.ref T))).cls=.ref N:=by rw[adj];exact g2
 have a:=Ņ U (·.setIfInBounds 1 (Ð T))
 have B:(f.mapFields (·.setIfInBounds 1 (.ref T))).dict=some ω:=by
  obtain⟨oc,D,dt,sl⟩:=f;cases dt<;>exact g3
 have Q:1<Z.size:=by
  rcases V with z|⟨_,_,_,z,_⟩<;>exact(afc.mp z).1
 generalize (f.mapFields (·.setIfInBounds 1 (.ref T)))=r at *;have C:ń r=true:=by unfold ń;rw[a]
 obtain⟨mA,nA,_⟩:=J.hok ω _ G;obtain⟨D,gd,_⟩:=kI nA;have R:acr h' j r N (some D):=⟨n,y,C,by rw[B];exact gd⟩
 exact K h' r _ J R (λz=>nK n a (by simp[Q]) t1 t2 t3 z) y B C (J.pV.GD n e.free g P (λv=>by rw[a];simp))
variable{N8:g'}{W9:Option Str}
theorem Ct(I:Inv c [] X d x)(Z:nJ c.prog c.w c.stack d x j N ω υ N8)(D:c.stack=c.env::c.outer)(E:c.env.frame=some c.env.locals)(G:υ ω=some (.xd u7))(hg:Gl c h)(hm:c.mg h=some (.ref P1))(H:Ϗ c.K (.ref N) (.ref P1)=some true)(U:c.N.Nodup)(u:∀n,W9=some n->c.N[b]?=some n)(g:∀n,W9=some n->c.env.scope.names.lookup n=some .local)(a:∀i y,i.cls=.ref N->i.dict=some ω->ń i=true->Inv (c.pV j) [(j,i)] (if W9.isSome then X.set b (some (.ref j))else X) υ y ->
   nc (p' c.prog c.w) (c.A.mark (some (.ref j))) (ĸ (Θ::F5) c.env) (λf L=>∃e B,Inv (c.pV j) [(j,i)] e B L/\∀V,Inv c [] (PM W9 b e) B V->F9 f V) (λ_ _=>False) y)(M:(h==("__debug__"))=false:=by decide):
  nc (p' c.prog c.w) c.A (ϻ (.ref j) c.env) (λ_ k=>nc (p' c.prog c.w) c.A (ş (.ref j) none) (λ_ l=>nc (p' c.prog c.w) c.A (adi (.ref j) c.env [.ExceptHandler (some (.Name h o)) W9 (Θ::F5) P]) F9 ν l) ν k) ν N8:=by
 refine GH I Z D E G λh' p od J O F r s t Y=>?_
 refine wpAny_handleBy_cons (codeAny_handlers_test ?_) (by intro q;cases q)
 refine fL J.pV hg hm ?_ M;refine(PySem.W.exm_one (K:=c.K) J.fF O.type H).here ?_;cases W9 with
 |none=>
  refine codeAny_handlers_suite (F ?_);exact à (a p _ r s t Y) (by rintro f L ⟨e,B,C,Q⟩;exact Q _ (C.PJ I.ok)) (λ_ _ z=>z.elim)
 |some n=>
 have u:=u n rfl;have g:=g n rfl;refine codeAny_handlers_suite_as (F ?_);refine mT (c:=c.pV j) Y U u (.inl g) (A:=.ref j) rfl (λy J4=>?_) (.inr g)
 refine à (a p y r s t J4) (λf L zq=>?_) (λ_ _ z=>z.elim);refine cg zq λe B C Q=>?_
 obtain⟨m,R,S⟩:=C.loc;exact wpAny_nameGoes_keeps g R (by rw[I.ok.kind];rfl) λh6 v6 n6 T=>Q _ (C.gone I.ok U u S n6 T)
noncomputable def PN(C:b')(W:b'->List (Str×V)->Hp->Prop):XK:=λa e b=>a=.ref C/\∃d c,e=some d/\b d=some (.xd c)/\W d c b
noncomputable def Cx.mw(X:Cx)(a:List (b'×Obj)):={X with pn:=X.pn++a}
theorem Inv.mw{X pins}{a:St}{H s}(I:Inv X pins a H s):Inv (X.mw pins) [] a H s:=
 ⟨⟨I.ok.mod,I.ok.kind,I.ok.glob,I.ok.blt,I.ok.above,I.ok.inj,I.ok.has,I.ok.cab,I.ok.hd,I.ok.frames,I.ok.FH,I.ok.FU,I.ok.bs,I.ok.vy,I.ok.oY,I.ok.oZ,I.ok.gw,I.ok.zO⟩,
  I.os,I.bare,I.base,I.loc,I.cell,I.free,I.df,λp b=>I.pin p (by simpa[Cx.mw]using b),I.hok,I.len⟩
theorem Inv.xY(I:Inv (c.mw G) [] X d x):Inv c G X d x:=
 ⟨⟨I.ok.mod,I.ok.kind,I.ok.glob,I.ok.blt,I.ok.above,I.ok.inj,I.ok.has,I.ok.cab,I.ok.hd,I.ok.frames,I.ok.FH,I.ok.FU,I.ok.bs,I.ok.vy,I.ok.oY,I.ok.oZ,I.ok.gw,I.ok.zO⟩,
  I.os,I.bare,I.base,I.loc,I.cell,I.free,I.df,λp a=>I.pin p (by simpa[Cx.mw]using a),I.hok,I.len⟩
def jP(X)(b:St)(E):=∀pins H s e a,Inv X pins b H s->mu X.prog X.w X.stack H s E e a->X.xe e a
variable{z8:Ends}
theorem GI{g:St->St}{f}(z:SP (((c.mw G).pV j).xX j i0) [] {nx:=λe l=>z8.nx (g e) l,rt:=z8.rt} f x):∃a b,Inv ((c.mw G).pV j) [(j,i0)] a b x/\∀d,Inv (c.mw G) [] (g a) b d->SP c G z8 f d:=by
 cases f with
 |next=>
  refine cg z λa b h i=>?_
  exact⟨_,b,h.JG,λd k=>⟨_,_,k.xY,i⟩⟩
 |ret u=>
  refine cX z λv a b h m i=>?_
  exact⟨_,b,h.JG,λd k=>⟨v,_,_,k.xY,m,i⟩⟩
 |brk=>refine cg z λ_ _ _ z=>?_;exact z.elim
 |cont=>refine cg z λ_ _ _ z=>?_;exact z.elim
theorem JH{f}(z:SP ((c.mw G).wish ν) [] z8 f x):SP c G z8 f x:=by
 cases f with
 |ret u=>
  refine cX z λv a b J r q=>?_
  exact⟨v,_,b,J.fg.xY,r,q⟩
 |_=>refine cg z λa b J q=>?_;exact⟨_,b,J.fg.xY,q⟩
variable{z9:List J'}
theorem PQ{W}(I:Inv c G X d x)(r:c.stack=c.env::c.outer)(s:c.env.frame=some c.env.locals)(L:Gl c h)(t:c.mg h=some (.ref N))(u:Ϗ c.K (.ref j) (.ref N)=some true)(M:c.N.Nodup)(O:∀n,W9=some n->c.N[b]?=some n)(Q:∀n,W9=some n->c.env.scope.names.lookup n=some .local)(i:∀xe,jP ((c.mw G).wish xe) X (PN j W)->nc (p' c.prog c.w) c.A (ĸ F5 c.env) (SP ((c.mw G).wish xe) [] z8) xe x)(g:∀e a p k l q,l a=some (.xd p)->W a p l->k.cls=.ref j->k.dict=some a->ń k=true->Inv (((c.mw G).pV e).xX e k) [] (if W9.isSome then X.set b (some (.ref e))else X) l q ->
   nc (p' c.prog c.w) (c.A.mark (some (.ref e))) (ĸ (Θ::z9) c.env) (SP (((c.mw G).pV e).xX e k) [] {nx:=λy l=>z8.nx (PM W9 b y) l,rt:=z8.rt}) (λ_ _=>False) q)(B:(h==("__debug__"))=false):
  nc (p' c.prog c.w) c.A (exec (.Try F5 [.ExceptHandler (some (.Name h o)) W9 (Θ::z9) P] [] [] Q3) c.env) (SP c G z8) c.xe x:=by
 refine afd (à (i _ ?_) (λf H z=>?_) (λe H z=>z))
 .intro C H1 H D s2 J R
  refine bp R λe C' a S E T U=>?_;subst E
  refine xa U λY F=>aP F λd' p Z m hW=>?_
  cases Y;cases Z;refine Ct (c:=c.mw _) J.fg.Cm T r s m L t u M O Q (λk q c1 c2 c3 J4=>?_) B
  refine à (g e a p k S q m hW c1 c2 c3 J4.xX) (λf s5 z=>?_) (λ_ _ z=>z.elim)
  exact GI z
 .cases f<;>first|exact Ĺ (JH z)|exact JH z
theorem GJ(D:pX c.K c.mg j N ω P1 J0 Θ h B l [g8])(I:Inv c G X d x)(U:cu (b+2) c.A)(V:Vals S j0)(k:S.length=l.length)(a0:∀g H,¬ y9 none g H)(J:∀A i e E,cu b (A.deeper (Ê h (ai Θ) i.heap.objs.size ω (.ref P1)))->d e=none->∃Y,PE ((dh fH c.prog c.w c.K c.mg c.base (B::l) h (ai Θ) ω (.ref P1) A c.stack i d E).lU.mk1 e) g8.ve Y /\
   pW e i.heap.objs.size [(g8.fld,Y)] none [] (start (B::l) (.ref e::S)) d λZ g H=>g.map (·.1)=[g8.fld]/\y9 Z g H)(m:∀e s g t r i,y9 (some s) g r->Inv c G X r i->i.heap.get? e=some (cy j (some s) t)->x.heap.objs.size<=e->r e=none->r s=some (.xd g)->ν (.ref e) i):
  nc (p' c.prog c.w) c.A (call (.ref j) j0) ν c.xe x:=by
 obtain⟨nm,q,bs,bm,sn,b0,ab,c0,d0,k0,k1,k2,k3,k5,hC,ot⟩:=D.cls.ex;obtain⟨mN,hn,L⟩:=D.cls.ns _ I.fF;have u:∀a o,x.heap.get? a=some o->(iD _ j j0).get? a=some o:=λa o e=>X' _ (X' _ e)
 have I2:=I.kept (t':=x.toks) u;have y:=I.hok.fresh (ã _);have f:∀a o,x.heap.get? a=some o->a≠x.heap.objs.size+1:=λa o q=>U' (ab1 (N' q))
 have C:=V.length.symm.trans k;refine œ ?_;refine Cg afa (ot _ I.fF) (I.fF _ _ hC) hn L (λself=>ad4 I.fF _ D.cls.fn) (by have:=D.pl;rw[ò];exact Bo (Ø (R' C) this)) ?_
 refine LD D (λE=>J _ _ _ E ((U.make j j0 []).deeper _) y) (U.make j j0 []) (I2.env0.make j j0 []) (by have:=D.bs _ (.ref (x.heap.objs.size+1)::j0) I2.fF (by simp[C]);simp_all) k V (by
  show(iD _ j j0).get? _=some ({cls:=.ref j,data:=.fields _})
  heap_get) ?_ y (λz=>by
  obtain⟨_,o,M,_⟩:=I.stack.mem z;exact f _ _ M rfl) (λZ g r t' i q2 O M P p Q g1 g2=>?_)
 .exact B' (B' I.ok.vy I.sz) (ã _)
 .rcases O with ⟨rfl,rfl⟩|⟨s,rfl,R,e0⟩
  .simp_all
  .exact m _ s g t' r i q2 (I.call' (z:=[]) M ⟨λa o e n T _=>p.keep a o (u a o e) n T (by simpa using f a o e),λa o e n T _=>p.slot a o (u a o e) n T (by simpa using f a o e),λa o e n _=>p.free a o (u a o e) n (by simpa using f a o e),λa o e _=>p.there a o (u a o e) (by simpa using f a o e),p.tups,p.ff,p.gc⟩ Q P (by simp)) g1 (ã _) g2 R
noncomputable def GK(f:TA)(Arg:List V->Hp->Prop)(Ai:List V->Hp->Option b'->List (Str×V)->Hp->Prop)(n:Nat)(C:b')(E:XK):TS:=λ_ g H=>f g H λa d=>a.length=n/\Arg a d/\∀e b c,Ai a d (some c) e b->b c=some (.xd e)->E (.ref C) (some c) b
variable{G5:XK}{M0:List Str}{Q:List A'}{i9:List V->Hp->Prop}{n8:Str}{π:V'}
theorem Aj{Ai}(D:pX O Δ N ω P1 y4 J0 Θ B P4 M0 [g8])(Z:cu (b+2) (θ.deeper (Ê h π x.heap.objs.size j U)))(hg:Gl (dh (mu I M) I M O Δ L l h π j U θ S6 x d G5) n8)(hm:Δ n8=some (.ref N))(k:PA (dh (mu I M) I M O Δ L l h π j U θ S6 x d G5) (n::Q) E5)(r:∀f c m u,¬ Ai f c none m u)(w:∀f c,i9 f c->∀p y i e z,cu b (p.deeper (Ê B (ai Θ) i.heap.objs.size P1 (.ref y4)))->c e=none->∃X,PE ((dh fH I M O Δ L (P4::M0) B (ai Θ) P1 (.ref y4) p y i c z).lU.mk1 e) g8.ve X /\
   pW e i.heap.objs.size [(g8.fld,X)] none [] (start (P4::M0) (.ref e::f)) c λod m u=>m.map (·.1)=[g8.fld]/\Ai f c od m u)(A:D' (n::Q) (Ê h π x.heap.objs.size j U)=(false,eval n (Ê h π x.heap.objs.size j U))::D' Q (Ê h π x.heap.objs.size j U))(C:(À P (D' Q (Ê h π x.heap.objs.size j U))).any (·.1)=false)(E:(n8==("__debug__"))=false):
  PS (dh (mu I M) I M O Δ L l h π j U θ S6 x d G5) (.Raise (some (.Call (.Name n8 o) (n::Q) [] P)) none Q3) (GK E5 i9 Ai M0.length N G5):=by
 intro pins s σ H Dn a g;obtain⟨nm,q,bs,bm,sn,F,ab,G,K,k0,k1,k2,k3,k5,hC,y⟩:=D.cls.ex;refine Ah (j:=N) (h:=nm) (B:=q) (N:=ω) (j0:=bs) (H:=true) (l:=sn) (g9:=F) (E4:=ab) (Z8:=G) (D6:=K) (Q6:=k0) (Q8:=k1) (R8:=k2) (S8:=k3) (T8:=k5) (i6:="ValueError.__new__") ((y _ a.fF).hasType (by rfl)) (a.ok.hd rfl) ?_
 refine đ (fL a hg hm ?_ E);refine Ÿ a.ok.mod.Jw D.cls.kp (bV (k _ _ s σ H _ a g) λus s1 zq=>?_) A C;refine bg zq λf c R r1 hl ha hq=>?_;refine⟨R.fF,?_⟩
 refine GJ D R Z r1 hl (r f c) (λp i e z S he=>w f c ha p _ i e z S he) λe dd m t H2 i q2 J Y g2 g3 g4=>⟨e,_,t,rfl,J.fF _ _ hC,Y,Cp J rfl rfl rfl Y (B' R.sz g2) g3 λa0 T=>⟨e,N,dd,_,rfl,T,by grind⟩⟩
variable{B6:Sp}
theorem Cu{pl}(U:PE c n ψ)(f:mX c.K j)(J:Meth c.K j h N)(F:bW c.prog c.w c.K c.mg c.base (mu c.prog c.w) b N J0 l B6)(Y:cu b c.A)(Z:Binds c.K J0 l [])(hx:jP c X G5)(ha:PA c (R::Q) E5)(z:D' (R::Q) c.env=(false,eval R c.env)::D' Q c.env)(B:(À P (D' Q c.env)).any (·.1)=false)(ht:eval (.Call (.Attribute n h o) (R::Q) [] P) c.env=(do
   let L ←eval n c.env
   Ă o.atName
   let (N,first) ←ă [L] (Đ L h pl)
   Ě P N first (À P (D' (R::Q) c.env)) (ù P (ú [] c.env)))):
  PE c (.Call (.Attribute n h o) (R::Q) [] P) (λi H d=>i=X/\ψ i H λx t=>∃a M C,x=.ref a/\t a=some (.ins j M C)/\C.lookup h=none/\E5 i t λD y=>B6 (x::D) y d G5):=by
 intro pins s i H d I e;obtain⟨rfl,e⟩:=e;refine ϥ (bV (U _ s i H _ I e) λu s1 zq=>?_) ht;refine aP zq λx t O rx E=>bO E λa M C ex ea g q=>?_
 subst ex;obtain rfl:u=Ð a:=rx;refine jg O ea f J g ?_;refine Ÿ I.ok.mod.Jw J.kp (bV (ha _ _ s1 i t _ O q) λus G  zf =>aP zf λD y k r S=>⟨k.fF,?_⟩) z B
 have T:Vals (V.ref a::D) _:=.cons rfl r;have m:=Z G _ k.fF (by rw[ę];exact(by rw[←T.length];exact F.len _ _ _ _ S))
 rw[ę]at m;refine œ (Ľ (F.run _ _ G y ⟨_,[]⟩ _ _ d G5 Y k.env0 m T S) λr s' p=>?_)
 cases r with
 |error R=>exact hx _ y G R s' k p
 |ok fl=>
  cases fl with
  |ret u=>exact k.after p
  |next=>exact þ p
  |brk=>exact þ p
  |cont=>exact þ p
theorem Cv(I:Inv c G X d x)(C:c.ex=[])(g:c.stack=c.env::c.outer)(i:c.env.frame=some c.env.locals)(K:x.heap.get? j=some i0)(V:i0.cls=.ref N)(r:i0.dict=some ω)(k:i0.data=.fields B5)(l:rH x.heap B5)(D:c.s₀.heap.objs.size<=j)(L:d j=none)(h:∀E,nJ c.prog c.w c.outer c.H₀ c.s₀ j N ω d E->L5 () E):nc (p' c.prog c.w) c.A (ϧ c.env (.ref j)) L5 ν x:=by
 have m:=I.ok.frames;rw[g]at m;have H:=I.stack;rw[g]at H;refine pU m H i K k l λY T F=>h _ ?_
 have s:∀b u,d b=some u->b∉frs _:=λb u q z=>by
  have:=I.jB b (by omega)
  grind
 have e:∀b o,c.s₀.heap.get? b=some o->b≠j/\b≠c.env.locals:=λb o q=>⟨λz=>by rw[z]at q;exact absurd (M' (N' q) D) (by simp),λz=>by rw[z]at q;exact absurd (M' (N' q) I.ok.above) (by simp)⟩
 refine⟨I.os,I.bare,⟨λb o q n f _=>?_,λb o q n f _=>?_,λb o q n _=>I.base.free b o q n (by simp_all),λb o q _=>?_,I.base.tups,I.base.ff,I.base.gc⟩,λa u q=>?_,D,L,?_⟩
 .exact F.keep b o (e b o q).1 ((λb o q f z=>by
  unfold frs at z;rw[ϙ,i]at z;rcases È.mp z with z|z
  .grind
  .exact f z) b o q f) (I.base.keep b o q n f (by rw[C];simp))
 .obtain⟨M,t⟩:=I.base.slot b o q n f (by rw[C];simp)
  obtain⟨y,J⟩:=F.slot b _ (e b o q).1 t
  simp_all
 .obtain⟨Z,t⟩:=I.base.there b o q (by simp_all)
  obtain⟨y,J⟩:=F.slot b _ (e b o q).1 t;exact⟨_,J⟩
 .refine(I.hok a u q).stay (λb O f p=>F.keep b O (λz=>?_) ?_ p) (λb p=>p) λb xs p=>p
  .simp_all
  grind
 .refine aP F.tb λoT P Q R S=>?_
  have B:1<B5.size:=by
   rcases l with z|⟨_,_,_,z,_⟩<;>exact(afc.mp z).1
  refine⟨_,_,F.at_,by rwa[adj],?_,Ņ k _,.inr ⟨T,oT,P,by simp[B],Q,R,S⟩⟩
  obtain⟨oc,od,U,M⟩:=i0;cases U<;>exact r
theorem t_:
  Passes (mu I M) (dh (mu I M) I M O Δ L l h π j U θ S6 x d G5) G5:=by
 rintro pins q H s e r a ⟨e,C,b,f,rfl,c,g⟩;refine bg c.obj λt u i k m n o=>?_
 exact Cv (a.call' c.os c.un c.hok c.bare (by simp)) rfl rfl rfl i k m n o (B' a.sz c.new) c.free λp T=>⟨e,C,b,f,rfl,T,g⟩
noncomputable def Cw(e:ĭ):=match e.key with
 |.str _ _=>true
 |_=>false
def Ui(K:K')(N:b')(b:Str):Option (Option f'):=match K.lookup N with
 |some ⟨_,_,.dict a _,_⟩=>if a.toList.all Cw=true then some (nsFind a b)else none
 |_=>none
theorem JI(a:Ui O N h=some Q6)(b)(X:O.In b):∃mN,b.Ns N mN/\mN h=Q6:=by
 unfold Ui at a;split at a
 .rename_i c d f n j g
  split at a
  .rename_i i
   cases a;refine⟨_,⟨_,f,n,X _ _ g,rfl,λe k=>?_,λ_=>rfl⟩,rfl⟩
   have:=Ĕ.mp i e (by simp_all)
   unfold Cw at this
   grind
  .exact bD a
 .exact bD a
def ub(K:K'):List f'->Bool
 |.ref A::a=>(match K.lookup A with
  |some ⟨_,_,.cls b,_⟩=>Ui K b.ns "__init__"==some none
  |_=>false)&&ub K a
 |l=>l==rG
theorem xZ{K}:∀{l},ub K l=true->∀h,K.In h->ύ h rG l
 |[],e,h,X=>by simp[ub]at e
 |a::r,e,h,X=>by
  cases a with
  |ref A=>
   simp only[ub,Ö]at e;obtain⟨b,f⟩:=e;split at b
   .rename_i c d k m g
    obtain⟨mN,i,j⟩:=JI (eq_of_beq b) h X;exact .own (X _ _ g) i j (xZ f h X)
   .cases b
  |_=>rw[eq_of_beq (e)];exact .base
end L2
namespace Mir
open PySem
inductive D where
 |non|bl (b:Bool)|int (i:Int)|str (x:Str)
 |lst (xs:List D)|tup (xs:List D)|dct (ks:List L2.Key) (vs:List D)|ref (n:Nat)
 deriving Inhabited
inductive Out (α:Type) where
 |ok (a:α)|exc (c:Str) (fs:List (Str×D))|bad
noncomputable def Out.bind{α β}:Out α->(α->Out β)->Out β
 |.ok a,f=>f a
 |.exc c fs,_=>.exc c fs
 |.bad,_=>.bad
instance:Monad Out where
 pure:=.ok
 bind:=Out.bind
variable{E3 L9:Type}
@[simp] theorem Uj(a)(f:E3->Out L9):(Out.ok a >>= f)=f a:=rfl
@[simp] theorem PR(f:E3->Out L9):(Out.bad >>= f)=.bad:=rfl
@[simp] theorem PU(c fs)(f:E3->Out L9):((Out.exc c fs) >>= f)=.exc c fs:=rfl
@[simp] theorem Uk(a):(pure a:Out E3)=.ok a:=rfl
mutual
noncomputable def eJ:D->D->Bool
 |.non,.non=>true
 |.bl a,.bl b=>a==b
 |.bl a,.int j=>(if a then 1 else 0)==j
 |.int i,.bl b=>i==(if b then 1 else 0)
 |.int i,.int j=>i==j
 |.str x,.str y=>x==y
 |.lst c,.lst d=>eO c d
 |.tup c,.tup d=>eO c d
 |_,_=>false
noncomputable def eO:List D->List D->Bool
 |[],[]=>true
 |x::a,y::b=>eJ x y&&eO a b
 |_,_=>false
end
noncomputable def aM:Nat->D->Bool
 |_,.non|_,.bl _|_,.int _|_,.str _=>true
 |n+1,.lst a|n+1,.tup a=>a.all (aM n)
 |_,_=>false
noncomputable def small(n):=decide (n<=Q')
def lY:D->Option Bool
 |.non=>some false
 |.bl b=>some b
 |.int i=>some (i != 0)
 |.str x=>if small x.length then some (x.length != 0)else none
 |.lst a=>some (!a.isEmpty)
 |.tup a=>some (!a.isEmpty)
 |_=>none
abbrev Rs:=Bool×D
noncomputable def kP(i:Int):=decide (i.natAbs<18446744073709551616)
variable{J:Int}
theorem uc(h:kP J=true): -(2 ^ 64)<J/\J<2 ^ 64:=by
 have:=of_decide_eq_true h;omega
noncomputable def i2(x y:D):Option {p:Int×Int // x=.int p.1/\y=.int p.2}:=match x,y with
 |.int a,.int b=>some ⟨(a,b),rfl,rfl⟩
 |_,_=>none
def binI(a:ď)(i j:Int):Out Rs:=match a with
 |.Add=>.ok (false,.int (i+j))
 |.Sub=>.ok (false,.int (i - j))
 |.Mult=>if kP i||kP j then .ok (false,.int (i*j))else .bad
 |.FloorDiv=>if decide (0<j)&&decide (j<1073741824)then .ok (false,.int (i / j))else .bad
 |.Mod=>if decide (0<j)then .ok (false,.int (i%j))else .bad
 |.Pow=>if decide (0<=j)&&decide (j<=1000)&&decide (i.natAbs<2 ^ 64)then .ok (false,.int (i ^ j.toNat))else .bad
 |_=>.bad
def WQ(x y:D):Out Rs:=match x with
 |.str a=>(match y with
  |.str b=>if small (a.length+b.length)then .ok (false,.str (a++b))else .bad
  |_=>.bad)
 |.lst a=>(match y with
  |.lst b=>if small (a.length+b.length)then .ok (true,.lst (a++b))else .bad
  |_=>.bad)
 |_=>.bad
def gg(a:ď)(x y:D):Out Rs:=match i2 x y with
 |some p=>binI a p.1.1 p.1.2
 |none=>match a with
  |.Add=>WQ x y
  |_=>.bad
noncomputable def x_(x y) := !(Ę y x 0 y.length 1).isEmpty
def inD(x y:D):Out Bool:=
 match x,y with
 |x,.lst a=>if aM 8 x&&a.all (aM 8)then .ok (a.any λy=>eJ y x)else .bad
 |x,.tup a=>if aM 8 x&&a.all (aM 8)then .ok (a.any λy=>eJ y x)else .bad
 |.str x,.str y=>.ok (x_ x y)
 |_,_=>.bad
noncomputable def isD(x y:D):Out Bool:=match y with
 |.non=>.ok (match x with|.non=>true|_=>false)
 |.bl b=>(match x with
  |.bl a=>.ok (a==b)
  |.dct _ _=>.bad
  |.ref _=>.bad
  |_=>.ok false)
 |_=>.bad
def gh(a:ð)(x y:D):Out Bool:=
 match a,x,y with
 |.Eq,x,y=>if aM 8 x&&aM 8 y then .ok (eJ x y)else .bad
 |.NotEq,x,y=>if aM 8 x&&aM 8 y then .ok (!eJ x y)else .bad
 |.Lt,.int i,.int j=>.ok (decide (i<j))
 |.LtE,.int i,.int j=>.ok (decide (i<=j))
 |.Gt,.int i,.int j=>.ok (decide (j<i))
 |.GtE,.int i,.int j=>.ok (decide (j<=i))
 |.In,x,y=>inD x y
 |.NotIn,x,y=>do let b ←inD x y;.ok (!b)
 |.Is,x,y=>isD x y
 |.IsNot,x,y=>do let b ←isD x y;.ok (!b)
 |_,_,_=>.bad
noncomputable def bb(c:Nat):Str:=⟨#[c]⟩
def vV(x y:D):Out Rs:=
 match x,y with
 |.lst a,.int i=>match L2.jH a i with|some d=>.ok (false,d)|none=>.bad
 |.tup a,.int i=>match L2.jH a i with|some d=>.ok (false,d)|none=>.bad
 |.str z,.int i=>if small z.length then (match L2.jH z.cps.toList i with|some c=>.ok (false,.str (bb c))|none=>.bad)else .bad
 |_,_=>.bad
def ef{α:Type}(xs:List α)(a b:Option Int):=(xs.drop (HT.jG xs.length 0 a)).take (HT.jG xs.length xs.length b - HT.jG xs.length 0 a)
def Cy(x:D)(a b:Option Int):Out Rs:=
 match x with
 |.lst c=>.ok (true,.lst (ef c a b))
 |.str z=>if small z.length then .ok (false,.str ⟨(ef z.cps.toList a b).toArray⟩)else .bad
 |_=>.bad
noncomputable def intsFrom(a:Int):Nat->List D
 |0=>[]
 |n+1=>.int a::intsFrom (a+1) n
noncomputable def vW(i:Int):=decide (i.natAbs<4611686018427387904)
theorem nL(h:vW J=true): -(2 ^ 62)<=J/\J<2 ^ 62:=by
 have:=of_decide_eq_true h;omega
noncomputable def eR(i:Nat):List D->List D
 |[]=>[]
 |d::a=>.tup [.int i,d]::eR (i+1) a
inductive mx where
 |len|all|any|sorted|list|tuple|int|min|max|bool
 deriving DecidableEq
def gi:List D->Option (List Bool)
 |[]=>some []
 |d::r=>match lY d,gi r with|some b,some bs=>some (b::bs)|_,_=>none
noncomputable def yb:List D->Option (List Int)
 |[]=>some []
 |.int i::r=>(yb r).map (i :: ·)
 |_=>none
noncomputable def pY:List D->Option (List Str)
 |[]=>some []
 |.str i::r=>(pY r).map (i :: ·)
 |_=>none
noncomputable def fj(a b:Str) := !decide (b.cps.toList<a.cps.toList)
def jQ(c:List D):Out (List D):=
 if 64<=c.length then .bad else
 match yb c with
 |some d=>.ok ((d.mergeSort λa b=>decide (a<=b)).map .int)
 |none=>match pY c with
  |some e=>.ok ((e.mergeSort fj).map .str)
  |none=>.bad
def ji(f:mx)(a:D):Out Rs:=
 match f,a with
 |.len,.tup [.lst b]=>.ok (false,.int b.length)
 |.len,.tup [.tup b]=>.ok (false,.int b.length)
 |.len,.tup [.str z]=>if small z.length then .ok (false,.int z.length)else .bad
 |.all,.tup [.lst b]=>match gi b with|some bs=>.ok (false,.bl (bs.all id))|none=>.bad
 |.any,.tup [.lst b]=>match gi b with|some bs=>.ok (false,.bl (bs.any id))|none=>.bad
 |.sorted,.tup [.lst b]=>do let c ←jQ b;.ok (true,.lst c)
 |.list,.tup [.lst b]=>.ok (true,.lst b)
 |.list,.tup [.tup b]=>.ok (true,.lst b)
 |.tuple,.tup [.lst b]=>.ok (false,.tup b)
 |.tuple,.tup [.tup b]=>.ok (false,.tup b)
 |.int,.tup [.int i]=>.ok (false,.int i)
 |.int,.tup [.bl k]=>.ok (false,.int (if k then 1 else 0))
 |.min,.tup [.int i,.int j]=>.ok (false,.int (if j<i then j else i))
 |.max,.tup [.int i,.int j]=>.ok (false,.int (if j>i then j else i))
 |_,_=>.bad
inductive Mth where
 |index|join
 deriving DecidableEq
def vX(m:Mth)(x:D)(a:D):Out Rs:=
 match m,x,a with
 |.index,.lst b,.tup [d]=>if aM 8 d&&b.all (aM 8)then (match b.findIdx? λy=>eJ y d with|some j=>.ok (false,.int j)|none=>.bad)else .bad
 |.index,.str z,.tup [.str y]=>match Ę z y 0 z.length 1 with|i::_=>.ok (false,.int i)|[]=>.bad
 |.join,.str z,.tup [.lst c]=>match pY c with|some b=>if decide (z.length<=16)&&decide ((b.map (·.length)).sum+b.length<=1048576)then .ok (false,.str (Txt.join z b))else .bad|none=>.bad
 |_,_,_=>.bad
inductive Ty where
 |int|str|bool|list|tuple|dict
 deriving DecidableEq
noncomputable def Cz:D->Ty->Option Bool
 |.non,_=>some false
 |.bl _,t=>some (t==.bool||t==.int)
 |.int _,t=>some (t==.int)
 |.str _,t=>some (t==.str)
 |.lst _,t=>some (t==.list)
 |.tup _,t=>some (t==.tuple)
 |.dct _ _,t=>some (t==.dict)
 |.ref _,_=>none
noncomputable def gR:D->Bool
 |.non|.bl _|.int _|.str _=>true
 |_=>false
noncomputable def fuel:=100000
def rJ{α:Type}(xs:List α)(i x):=let k:=HT.jG xs.length 0 (some i);xs.take k++x::xs.drop k
open PySem.Spec PyProof.Rows L2
mutual
noncomputable def Rep(Z:b'->Prop)(H:Hp):D->V->Prop
 |.non,v=>v=.non
 |.bl b,v=>v=.bl b
 |.int i,v=>v=.int i
 |.str x,v=>v=.str x
 |.lst d,v=>∃a c,v=.ref a/\Z a/\Rd H a (.lst c)/\aS Z H d c
 |.tup d,v=>∃a c,v=.ref a/\Z a/\Rd H a (.tup c)/\aS Z H d c
 |.dct e d,v=>∃a c,v=.ref a/\Z a/\H a=some (.dK (e.zip c))/\aS Z H d c
 |.ref _,_=>False
noncomputable def aS(Z:b'->Prop)(H:Hp):List D->List V->Prop
 |[],a=>a=[]
 |d::b,a=>∃v r,a=v::r/\Rep Z H d v/\aS Z H b r
end
variable{d υ:Hp}{j:b'}{m4:HO}
theorem rK(k:∀o,d j=some o->υ j=some o)(h:Rd d j m4):Rd υ j m4:=by
 rcases h with h|⟨o,h⟩
 .exact .inl (k _ h)
 .exact .inr ⟨o,k _ h⟩
mutual
theorem Rep.mono{Z Z':b'->Prop}{H i:Hp}(k:∀a o,Z a->H a=some o->i a=some o)(z:∀a,Z a->Z' a):∀{d:D}{v:V},Rep Z H d v->Rep Z' i d v
 |.non,_,h=>by simpa only [Rep]using h
 |.bl _,_,h=>by simpa only [Rep]using h
 |.int _,_,h=>by simpa only [Rep]using h
 |.str _,_,h=>by simpa only [Rep]using h
 |.lst j,v,h=>by
  simp only[Rep]at h ⊢;obtain⟨a,c,e,b,f,g⟩:=h;exact⟨a,c,e,z a b,rK (λo=>k a o b) f,aS.mono k z g⟩
 |.tup j,v,h=>by
  simp only[Rep]at h ⊢;obtain⟨a,c,e,b,f,g⟩:=h;exact⟨a,c,e,z a b,rK (λo=>k a o b) f,aS.mono k z g⟩
 |.dct l j,v,h=>by
  simp only[Rep]at h ⊢;obtain⟨a,c,e,b,f,g⟩:=h;exact⟨a,c,e,z a b,k a _ b f,aS.mono k z g⟩
 |.ref _,_,h=>by simp only[Rep]at h
theorem aS.mono{Z Z':b'->Prop}{H f:Hp}(k:∀a o,Z a->H a=some o->f a=some o)(z:∀a,Z a->Z' a):∀{b:List D}{c:List V},aS Z H b c->aS Z' f b c
 |[],_,h=>by simpa only [aS]using h
 |d::b,c,h=>by
  simp only[aS]at h ⊢;obtain⟨v,r,e,g,i⟩:=h;exact⟨v,r,e,Rep.mono k z g,aS.mono k z i⟩
end
theorem aS.length{Z H}:∀{a}{b},aS Z H a b->b.length=a.length
 |[],_,h=>by rw[h];rfl
 |d::a,_,h=>by
  refine aP h λv r e _ c=>?_
  rw[e,Ā,Ā,aS.length c]
theorem aS.get{Z H}:∀{a}{b}{i:Nat}{d},aS Z H a b->a[i]?=some d->∃v,b[i]?=some v/\Rep Z H d v
 |[],_,_,_,_,e=>by simp at e
 |d::a,_,0,_,h,e=>by
  obtain⟨v,r,rfl,f,_⟩:=h
  simp_all
 |d::a,_,i+1,g,h,e=>by
  obtain⟨v,r,rfl,_,c⟩:=h;obtain⟨u,j,k⟩:=aS.get c (by simpa using e)
  simp_all
theorem aS.append{Z H}:∀{a b}{c e},aS Z H a c->aS Z H b e->aS Z H (a++b) (c++e)
 |[],_,_,_,h,h'=>by rwa[h]
 |d::a,_,_,_,h,h'=>by
  obtain⟨v,r,rfl,f,g⟩:=h;exact⟨v,_,rfl,f,aS.append g h'⟩
variable{r:b'->Prop}
theorem aS.nil:aS r d [] []:=by rfl
theorem aS.cons{Z H d b v a}(h:Rep Z H d v)(h':aS Z H b a):aS Z H (d::b) (v::a):=⟨v,a,rfl,h,h'⟩
variable{S:List V}
theorem aS.nil_inv(h:aS r d [] S):S=[]:=by simpa only [aS]using h
variable{m:D}{q:List D}
theorem aS.cons_inv(h:aS r d (m::q) S):∃v a,S=v::a/\Rep r d m v/\aS r d q a:=by simpa only [aS]using h
theorem aS.take{Z H}:∀{a}{b} n,aS Z H a b->aS Z H (a.take n) (b.take n)
 |_,_,0,_=>by simp only[List.take_zero,aS]
 |[],_,n+1,h=>by simp only[aS]at h;rw[h];simp only[List.take_nil,aS]
 |d::a,_,n+1,h=>by
  obtain⟨v,r,rfl,c,e⟩:=h.cons_inv;exact .cons c (aS.take n e)
theorem aS.drop{Z H}:∀{a}{b} n,aS Z H a b->aS Z H (a.drop n) (b.drop n)
 |_,_,0,h=>h
 |[],_,n+1,h=>by simp only[aS]at h;rw[h];simp only[List.drop_nil,aS]
 |d::a,_,n+1,h=>by
  obtain⟨v,r,rfl,e,c⟩:=h.cons_inv;exact aS.drop n c
def Now(Z:b'->Prop)(H:Hp)(d:D)(v:V):Prop:=
 match d with
 |.lst c=>∃a b,v=.ref a/\Rd H a (.lst b)/\aS Z H c b
 |d=>Rep Z H d v
variable{A:V}
theorem Rep.now(h:Rep r d m A):Now r d m A:=by
 cases m with
 |lst c=>
  refine aP h λa b e _ h=>⟨a,b,e,h⟩
 |_=>exact h
structure fk(Z:b'->Prop)(H:Hp)(Z':b'->Prop)(H':Hp):Prop where
 same:nv H H'
 sub:∀a,Z a->Z' a
 new:∀a,Z' a->Z a\/H a=none
 dom:∀a,Z' a->H' a≠none
theorem fk.refl(b:∀a,r a->d a≠none):fk r d r d:=⟨λ_ _ h=>h,λ_ h=>h,by grind,b⟩
theorem nv.laid{p o}(h:d p=none):nv d (upd d p o):=λb u e=>by rwa[ax (aW e h)]
theorem fk.laid{Z H p o}(d:∀a,Z a->H a≠none)(h:H p=none):fk Z H Z (upd H p o):=
 ⟨nv.laid h,λ_ h=>h,by grind,λa b=>by
  rw[ax (λe=>d a b (by rwa[e]))]
  exact d a b⟩
def Zp(Z:b'->Prop)(p):=λa=>Z a\/a=p
def eS(e own)(Z:b'->Prop)(f H:Hp)(d v):=
 if own=true then ∃a b c,d=.lst c/\v=.ref a/\f a=none/\¬ Z a/\H a=some (.lst b)/\aS Z H c b
 else if e=true then Now Z H d v else Rep Z H d v
variable{H:Bool}
theorem eS.own(a:d j=none)(b:¬ r j)(c:υ j=some (.lst S))(e:aS r υ q S):eS H true r d υ (.lst q) (.ref j):=⟨j,S,q,rfl,rfl,a,b,c,e⟩
theorem eS.rep(h:Rep r υ m A):eS H false r d υ m A:=by
 unfold eS;rw[if_neg (by simp)]
 split
 .exact h.now
 .exact h
theorem eS.now(h:eS true H r d υ m A):Now r υ m A:=by
 unfold eS at h;split at h
 .obtain⟨a,b,f,rfl,rfl,_,_,c,e⟩:=h
  exact⟨a,b,rfl,.inl c,e⟩
 simp_all
variable{L4 ψ:TE}{c:Cx}{n:A'}
theorem PE.imp(h:PE c n ψ)(i:∀a H Q,L4 a H Q->ψ a H Q):PE c n L4:=λpins s a H Q I q=>h _ s a H Q I (i a H Q q)
theorem nM{α β}{x:Out α}{f}{b:β}(h:(x >>= f)=.ok b):∃a,x=.ok a/\f a=.ok b:=by
 cases x with
 |ok a=>simp_all
 |exc c d=>cases h
 |bad=>cases h
variable{b:Nat}
def bJ(h:small b=true):=of_decide_eq_true h
noncomputable def jR:D->Option V
 |.non=>some .non
 |.bl b=>some (.bl b)
 |.int i=>some (.int i)
 |.str x=>some (.str x)
 |_=>none
theorem gj(h:jR m=some A):Rep r d m A:=by
 cases m<;>first|cases h;simp only[Rep]|exact bD h
theorem gD(h:Now r d .non A):A=.non:=by simpa only [Now,Rep]using h
theorem c9(h:Now r d (.int J) A):A=.int J:=by simpa only [Now,Rep]using h
theorem jj(h:Now r d (.bl H) A):A=.bl H:=by simpa only [Now,Rep]using h
variable{h:Str}
theorem dm(a:Now r d (.str h) A):A=.str h:=by simpa only [Now,Rep]using a
theorem dn(h:Now r d (.lst q) A):∃a b,A=.ref a/\Rd d a (.lst b)/\aS r d q b:=h
theorem gF(h:Now r d (.tup q) A):∃a b,A=.ref a/\r a/\Rd d a (.tup b)/\aS r d q b:=by simpa only [Now,Rep]using h
variable{O:K'}
theorem lG(h:Rd d j (.lst S)):ly O d j S:=.inl h
theorem yc(h:Rd d j (.tup S)):vz O d j S:=.inl h
variable{ο:VK}
def GL(b:∀a,r a->d a≠none)(f:aS r d q S)(k:∀v e Z',fk r d Z' e->eS H true Z' d e (.lst q) v->ο v e):=λp c=>
 k _ _ r (fk.laid b c) (.own c (λz=>b p z c) aD (f.mono (λa o _=>nv.laid c a o) λ_ z=>z))
def PV:R2:=λx y H Q=>∃l b a zs,x=.ref l/\y=.ref b/\Rd H l (.lst a)/\Rd H b (.lst zs)/\a.length+zs.length<=Q'/\∀p,H p=none->Q (.ref p) (upd H p (.lst (a++zs)))
def GN(a:ď):R2:=λx y H Q=>match a with
 |.Add=>(∃i j,x=.int i/\y=.int j/\Q (.int (i+j)) H)\/(∃i j,x=.str i/\y=.str j/\i.length+j.length<=Q'/\Q (.str (i++j)) H)\/PV x y H Q
 |.Sub=>∃i j,x=.int i/\y=.int j/\Q (.int (i - j)) H
 |.Mult=>∃i j,x=.int i/\y=.int j/\Lj i j/\Q (.int (i*j)) H
 |.FloorDiv=>∃i j,x=.int i/\y=.int j/\Pg i j/\Q (.int (i / j)) H
 |.Mod=>∃i j,x=.int i/\y=.int j/\0<j/\Q (.int (i%j)) H
 |.Pow=>∃i j,x=.int i/\y=.int j/\WA i j/\Q (.int (i ^ j.toNat)) H
 |_=>False
theorem CA(g):kE c (Ő g) (GN g):=by
 cases g with
 |Add=>exact Lk.or (vH.or (by
   intro pins s D H x y v u Q I o p h;refine bo h λl b k zs i j t w E q=>?_;subst i;subst j
   cases o;cases p;obtain⟨z,a,n,r,e⟩:k.length<=Q'/\∃(a:List _) (n:Nat),Vals k _/\s.heap.get? l=some _:=Rd.ok t I.hok;obtain⟨F,d,G,m,A⟩:zs.length<=Q'/\∃(a:List _) (n:Nat),Vals zs _/\s.heap.get? b=some _:=Rd.ok w I.hok;have J:=r.length;have B:=m.length;refine PySem.P.add_list e A ?_ (by grind)
   have C:a.toArray++d.toArray=(a++d).toArray:=by simp
   rw[C];exact⟨.ref _,_,I.WJ (r.append m) (by grind),rfl,q _ I.fresh⟩))
 |Sub=>exact Pf λ_ _ _ _ _ _ _ q=>sub_int q
 |Mult=>exact Ud λ_ _ _ _ _ _ _ f q=>mul_int q f.ok
 |FloorDiv=>exact FZ
 |Mod=>exact Ll
 |Pow=>exact Ud λ_ _ _ _ _ _ _ f q=>pow_int_small f.1 f.2.1 f.2.2 q
 |_=>exact λ_ _ _ _ _ _ _ _ _ _ _ _ h=>h.elim
variable{T4:Prop}
theorem vp{z:E3}(h:Out.bad=.ok z):T4:=nomatch h
theorem JJ{α z}{y:Out α}(h:(if H=true then y else .bad)=.ok z)(K:H=true->y=.ok z->T4):T4:=by
 cases H
 .exact vp h
 .exact K rfl h
variable{B8 η:D}{E4:Bool}{G4:V}{f9:ď}
theorem LF(n:Now r d m A)(o:Now r d η G4)(h:∀a,r a->d a≠none)(c:gg f9 m η=.ok (E4,B8))(k:∀v s Z',fk r d Z' s->eS H E4 Z' d s B8 v->ο v s):GN f9 A G4 d ο:=by
 have e:∀{t:D}{v:V},jR t=some v->Out.ok (false,t)=Out.ok (E4,B8)->ο v d:=λx q=>by
  cases q;exact k _ d r (fk.refl h) (.rep (gj x))
 unfold gg at c;split at c
 .rename_i p _
  obtain⟨⟨i,j⟩,rfl,rfl⟩:=p;cases c9 n;cases c9 o;cases f9 with
  |Add=>exact .inl ⟨_,_,rfl,rfl,e rfl c⟩
  |Sub=>exact⟨_,_,rfl,rfl,e rfl c⟩
  |Mult=>exact JJ c λf c=>⟨_,_,rfl,rfl,(Bool.or_eq_true_iff.mp f).imp uc uc,e rfl c⟩
  |FloorDiv=>exact JJ c λf c=>⟨_,_,rfl,rfl,⟨of_decide_eq_true (bL f),of_decide_eq_true (bR f)⟩,e rfl c⟩
  |Mod=>exact JJ c λf c=>⟨_,_,rfl,rfl,of_decide_eq_true f,e rfl c⟩
  |Pow=>exact JJ c λf c=>⟨_,_,rfl,rfl,⟨of_decide_eq_true (bL (bL f)),Int.le_trans (of_decide_eq_true (bR (bL f))) (show(1000:Int)<=1000000 by decide),of_decide_eq_true (bR f)⟩,e rfl c⟩
  |_=>exact vp c
 .split at c
  .cases m with
   |str a=>
    cases η with
    |str b=>
     cases dm n;cases dm o;exact JJ c λf c=>.inr (.inl ⟨_,_,rfl,rfl,bJ f,e rfl c⟩)
    |_=>exact vp c
   |lst a=>
    cases η with
    |lst b=>
     refine xe (dn n) λl z=>ay z λy B C u=>?_
     refine xe (dn o) λg z=>ay z λzs E F w=>?_
     refine JJ c λf c=>?_
     cases c;exact .inr (.inr ⟨l,g,y,zs,B,E,C,F,by rw[u.length,w.length];exact(bJ f),GL h (u.append w) k⟩)
    |_=>exact vp c
   |_=>exact vp c
  .exact vp c
theorem rL{a}(c:∀o w,m4≠.cI o w)(b:∀o w,a≠.cI o w)(h:Rd d j m4)(h':Rd d j a):m4=a:=by
 rcases h with h|⟨o,h⟩<;>rcases h' with h' |⟨f,h'⟩<;>rw[h]at h'<;>injection h' with e
 .grind
 .grind
 grind
variable{y6:List V}
theorem vY(h:Rd d j (.lst S))(h':Rd d j (.lst y6)):S=y6:=by
 injection (rL (λ_ _ z=>by cases z) (λ_ _ z=>by cases z) h h')
theorem vZ(h:Rd d j (.tup S))(h':Rd d j (.tup y6)):S=y6:=by
 injection (rL (λ_ _ z=>by cases z) (λ_ _ z=>by cases z) h h')
theorem pZ(h:Rd d j (.lst S))(h':Rd d j (.tup y6)):False:=by
 cases (rL (λ_ _ z=>by cases z) (λ_ _ z=>by cases z) h h')
mutual
theorem Rep.uniq{Z:b'->Prop}{H:Hp}:∀(n:Nat) (d c:D) (v:V),aM n d=true->aM n c=true->Rep Z H d v->Rep Z H c v->d=c
 |n,.lst k,c,v,o,f,h,h'=>by
  simp only[Rep]at h;obtain⟨a,l,rfl,_,i,m⟩:=h;cases c<;>simp only[Rep]at h'
  case lst ys=>
   obtain⟨b,p,e,_,g,j⟩:=h';cases e;cases vY i g;cases n with
   |zero=>simp[aM]at o
   |succ n=>rw[aS.uniq n k ys l (by simpa[aM]using o) (by simpa[aM]using f) m j]
  case tup ys=>
   obtain⟨b,p,e,_,g,j⟩:=h';cases e;exact(pZ i g).elim
  case dct ks ys=>cases n<;>simp[aM]at f
  all_goals cases h'
 |n,.tup k,c,v,o,f,h,h'=>by
  simp only[Rep]at h;obtain⟨a,l,rfl,_,i,m⟩:=h;cases c<;>simp only[Rep]at h'
  case tup ys=>
   obtain⟨b,p,e,_,g,j⟩:=h';cases e;cases vZ i g;cases n with
   |zero=>simp[aM]at o
   |succ n=>rw[aS.uniq n k ys l (by simpa[aM]using o) (by simpa[aM]using f) m j]
  case lst ys=>
   obtain⟨b,p,e,_,g,j⟩:=h';cases e;exact(pZ g i).elim
  case dct ks ys=>cases n<;>simp[aM]at f
  all_goals cases h'
 |n,.dct ks k,_,_,o,_,_,_=>by cases n<;>simp[aM]at o
 |n,.ref _,_,_,_,_,h,_=>by simp only[Rep]at h
 |n,.non,c,v,_,f,h,h'=>by
  simp only[Rep]at h;subst h
  cases c<;>simp only[Rep]at h'<;>first|rfl | (obtain⟨_,_,e,_⟩:=h';cases e;done) | (cases h';done)
 |n,.bl b,c,v,_,f,h,h'=>by
  simp only[Rep]at h;subst h
  cases c<;>simp only[Rep]at h'<;>first | (obtain⟨_,_,e,_⟩:=h';cases e;done) | (cases h';rfl) | (cases h';done)
 |n,.int b,c,v,_,f,h,h'=>by
  simp only[Rep]at h;subst h
  cases c<;>simp only[Rep]at h'<;>first | (obtain⟨_,_,e,_⟩:=h';cases e;done) | (cases h';rfl) | (cases h';done)
 |n,.str b,c,v,_,f,h,h'=>by
  simp only[Rep]at h;subst h
  cases c<;>simp only[Rep]at h'<;>first | (obtain⟨_,_,e,_⟩:=h';cases e;done) | (cases h';rfl) | (cases h';done)
theorem aS.uniq{Z:b'->Prop}{H:Hp}:∀(n:Nat) (xs a:List D) (b:List V),(∀x∈xs,aM n x=true)->(∀x∈a,aM n x=true)->aS Z H xs b->aS Z H a b->xs=a
 |n,[],a,b,_,_,h,h'=>by
  rw[h.nil_inv]at h';cases a with
  |nil=>rfl
  |cons y a=>obtain⟨_,_,e,_⟩:=h'.cons_inv;cases e
 |n,x::xs,a,b,o,d,h,h'=>by
  obtain⟨v,r,rfl,f,g⟩:=h.cons_inv;cases a with
  |nil=>exact absurd h'.nil_inv (by simp)
  |cons y a=>
   obtain⟨w,k,e,i,j⟩:=h'.cons_inv;cases e;rw[Rep.uniq n x y v (o x (by simp)) (d y (by simp)) f i,aS.uniq n xs a r (λz c=>o z (by simp[c])) (λz c=>d z (by simp[c])) g j]
end
mutual
theorem CB:∀(n:Nat) (d:D),aM n d=true->eJ d d=true
 |n,.lst a,o=>by
  cases n with
  |zero=>simp[aM]at o
  |succ n=>exact gk n a (by simpa[aM]using o)
 |n,.tup a,o=>by
  cases n with
  |zero=>simp[aM]at o
  |succ n=>exact gk n a (by simpa[aM]using o)
 |n,.dct _ _,o=>by cases n<;>simp[aM]at o
 |n,.ref _,o=>by cases n<;>simp[aM]at o
 |n,.non,_=>rfl
 |n,.bl _,_=>beq_self_eq_true (α:=Bool) _
 |n,.int _,_=>beq_self_eq_true (α:=Int) _
 |n,.str _,_=>beq_self_eq_true (α:=Str) _
theorem gk:∀(n:Nat) (xs:List D),(∀x∈xs,aM n x=true)->eO xs xs=true
 |n,[],_=>rfl
 |n,x::xs,o=>by
  simp only[eO,CB n x (o x (by simp)),gk n xs λz hz=>o z (by simp[hz]),Bool.and_self]
end
theorem fo:∀xs a,((Ñ (min xs.length a.length)).all (λj=>eJ (xs.getD j .non) (a.getD j .non))&&(xs.length==a.length))=eO xs a
 |[],[]=>rfl
 |[],_::_=>rfl
 |_::_,[]=>rfl
 |x::xs,y::a=>by
  have b:min (x::xs).length (y::a).length=min xs.length a.length+1:=by simp
  rw[b,adk,eO,←(fo xs a)];simp[adl,Bool.and_assoc]
variable{j5:List D}
theorem ud(h:q.length=j5.length):(Ñ q.length).all (λj=>eJ (q.getD j .non) (j5.getD j .non))=eO q j5:=by
 have e:=fo q j5
 simp_all
theorem yd(h:q.length≠j5.length):eO q j5=false:=by
 rw[←fo q j5];simp[h]
inductive Vw (s:g') (Z:b'->Prop) (H:Hp):D->f'->Prop where
 |non:Vw s Z H .non .none
 |bl (b:Bool):Vw s Z H (.bl b) (.bool b)
 |int (i:Int) (t:Ò):Vw s Z H (.int i) (.int i t)
 |str (x:Str) (t:Ò):Vw s Z H (.str x) (.str x t)
 |lst {l:b'}{its:List f'}{vs:List V}{ds:List D}:s.heap.IsList l its.toArray->Vals vs its->Rd H l (.lst vs)/\aS Z H ds vs->Vw s Z H (.lst ds) (.ref l)
 |tup {l:b'}{its:List f'}{vs:List V}{ds:List D}:s.heap.IsTuple l its.toArray->Vals vs its->Rd H l (.tup vs)/\aS Z H ds vs->Vw s Z H (.tup ds) (.ref l)
variable{F2:L2.St}{G:List (b'×Obj)}{U:f'}{x:g'}
theorem gS(I:Inv c G F2 d x)(g:Now r d m A)(e:RelV A U)(o:aM b m=true):Vw x r d m U:=by
 cases m with
 |non=>cases gD g;cases e;exact .non
 |bl f=>cases jj g;cases e;exact .bl f
 |int f=>cases c9 g;obtain⟨t,rfl⟩:=e;exact .int f t
 |str f=>cases dm g;obtain⟨t,rfl⟩:=e;exact .str f t
 |lst n=>
  obtain⟨a,q,rfl,h,i⟩:=dn g;cases e;obtain⟨j,l,p,s⟩:=I.list (lG h);exact .lst p.isList l ⟨h,i⟩
 |tup n=>
  obtain⟨a,q,rfl,_,h,i⟩:=gF g;cases e;obtain⟨j,l,p,s⟩:=I.tuple (yc h);exact .tup p l ⟨h,i⟩
 |dct u n=>cases b<;>simp[aM]at o
 |ref k=>cases b<;>simp[aM]at o
variable{j0:List f'}
theorem rM(r:Vals S j0)(c):∃v,S[b]?=some v/\RelV v j0[b]:=by
 have d:=r.length;have a:S[b]?=some S[b]:=by simp
 obtain⟨u,e,f⟩:=r.get a
 simp_all
variable{R6:List f'}{θ:Æ}
theorem jS(I:Inv c G F2 d x)(y:∀θ g h u w,θ.units+b<É->aM b g=true->aM b h=true->Vw x r d g u->Vw x r d h w->ņ θ x u w (eJ g h))(z:∀a∈q,aM b a=true)(A:∀a∈j5,aM b a=true)(J:θ.units+(b+1)<É)(k:Vals S j0)(l:Vals y6 R6)(pl:aS r d q S)(m:aS r d j5 y6):
  ∀j n (o:j<R6.toArray.size),ņ θ.in1 x j0.toArray[j] R6.toArray[j] (eJ (q.getD j .non) (j5.getD j .non)):=by
 intro j n o;have K:=k.length;have L:=l.length;have M:=pl.length;have N:=m.length;obtain⟨v,B,C⟩:=rM k n;obtain⟨w,E,i⟩:=rM l o;have p:q[j]?=some (q.getD j .non):=by grind
 have s:j5[j]?=some (j5.getD j .non):=by grind
 obtain⟨O,e,F⟩:=pl.get p;obtain⟨P,f,H⟩:=m.get s;rw[B]at e;cases e
 rw[E]at f;cases f
 have t:=z _ (Ë p);have o2:=A _ (Ë s);exact y _ _ _ _ _ (by grind) t o2 (gS I F.now C t) (gS I H.now i o2)
variable{R4:f'}
theorem CC(f:Vw x r d m U)(i:Vw x r d η R4)(a:aM b m=true)(g:aM b η=true)(h:afe θ x U R4 (eJ m η)):ņ θ x U R4 (eJ m η):=by
 by_cases e:U=R4
 .subst e
  have:eJ m η=true:=by
   cases f<;>cases i
   case lst.lst pl _ _ _ _ _ pm=>
    cases b with
    |zero=>simp[aM]at a
    |succ b=>
     cases vY pl.1 pm.1;cases aS.uniq b _ _ _ (by simpa[aM]using a) (by simpa[aM]using g) pl.2 pm.2
     exact gk b _ (by simpa[aM]using a)
   case tup.tup pl _ _ _ _ _ pm=>
    cases b with
    |zero=>simp[aM]at a
    |succ b=>
     cases vZ pl.1 pm.1;cases aS.uniq b _ _ _ (by simpa[aM]using a) (by simpa[aM]using g) pl.2 pm.2
     exact gk b _ (by simpa[aM]using a)
   case lst.tup pl _ _ _ _ _ pm=>exact(pZ pl.1 pm.1).elim
   case tup.lst pl _ _ _ _ _ pm=>exact(pZ pm.1 pl.1).elim
   all_goals first|rfl|exact beq_self_eq_true _
  rw[this];exact agg _
 .intro prog j E Q k
  unfold eqBool;refine ñ (aeM (λc=>absurd (eq_of_beq c) e) λ_=>?_)
  cases f<;>exact j' (h prog j E _ (ļ k))
theorem ue(I:Inv c G F2 d x):∀n A j k u w,A.units+n<É->aM n j=true->aM n k=true->Vw x r d j u->Vw x r d k w->afe A x u w (eJ j k):=by
 intro n
 induction n using Nat.strongRecOn with
 |_ n L=>
 intro A j k u w J H M N y;have e:A.units<É:=Ø (ó _ _) J;cases N with
 |non=>
  cases y with
  |non=>exact agh
  |bl=>exact agi _
  |int=>exact agj _ _
  |str=>exact agk _ _
  |lst a=>exact agl a e
  |tup a=>exact agm a e
 |bl=>
  cases y with
  |non=>exact agn _
  |bl=>exact ago _ _
  |int=>exact agp _ _ _
  |str=>exact agq _ _ _
  |lst a=>exact agr _ a e
  |tup a=>exact ags _ a e
 |int=>
  cases y with
  |non=>exact agt _ _
  |bl=>exact agu _ _ _
  |int=>exact agv _ _ _ _
  |str=>exact agw _ _ _ _
  |lst a=>exact agx _ _ a e
  |tup a=>exact agy _ _ a e
 |str=>
  cases y with
  |non=>exact agz _ _
  |bl=>exact agA _ _ _
  |int=>exact agB _ _ _ _
  |str=>exact agC _ _ _ _
  |lst a=>exact agD _ _ a e
  |tup a=>exact agE _ _ a e
 |@lst l s O i g z B=>
  cases y with
  |non=>exact agF g e
  |bl=>exact agG _ g e
  |int=>exact agH _ _ g e
  |str=>exact agI _ _ g e
  |@lst m o K f a C E=>
   cases n with
   |zero=>simp[aM]at H
   |succ n=>
    have P:=z.length;have Q:=C.length;have R:=B.2.length;have S:=E.2.length;rw[show eJ (.lst i) (.lst f)=eO i f from rfl]
    by_cases F:i.length=f.length
    .rw[←ud F]
     have:=agJ g a (by simp only[å];omega) e (jS I (λA j k u w h p q b t=>CC b t p q (L n n.lt_succ_self A j k u w h p q b t)) (by simpa[aM]using H) (by simpa[aM]using M) J z C B.2 E.2)
     rw[show s.toArray.size=i.length by simp only[å];omega]at this
     exact this
    .rw[yd F]
     exact agK g a (by simp only[å,bne_iff_ne];omega) e
  |tup a=>exact agL g a e
 |@tup l s O i g z B=>
  cases y with
  |non=>exact agM g e
  |bl=>exact agN _ g e
  |int=>exact agO _ _ g e
  |str=>exact agP _ _ g e
  |lst a=>exact agQ g a e
  |@tup m o K f a C E=>
   cases n with
   |zero=>simp[aM]at H
   |succ n=>
    have P:=z.length;have Q:=C.length;have R:=B.2.length;have S:=E.2.length;rw[show eJ (.tup i) (.tup f)=eO i f from rfl,←fo i f]
    have:=agR g a e (jS I (λA j k u w h p q b t=>CC b t p q (L n n.lt_succ_self A j k u w h p q b t)) (by simpa[aM]using H) (by simpa[aM]using M) J z C B.2 E.2)
    rw[show s.toArray.size=i.length by simp only[å];omega,show o.toArray.size=f.length by simp only[å];omega]at this
    exact this
theorem jT(I:Inv c G F2 d x)(n A a b u w)(i:A.units+n<É)(e:aM n a=true)(f:aM n b=true)(g:Vw x r d a u)(h:Vw x r d b w):ņ A x u w (eJ a b):=CC g h e f (ue I n A a b u w i e f g h)
theorem v_(I:Inv c G F2 d x)(u:θ.units+(b+1)<É)(y:aM (b+1) m=true)(z:aM (b+1) η=true)(A:Vw x r d m U)(n:Vw x r d η R4):SeqAt.RcNeAt θ x U R4 (!eJ m η):=by
 have e:θ.units<É:=Ø (ó _ _) u;cases A with
 |non=>
  cases n with
  |non=>exact agS
  |bl=>exact agT _
  |int=>exact agU _ _
  |str=>exact agV _ _
  |lst a=>exact agW a e
  |tup a=>exact agX a e
 |bl=>
  cases n with
  |non=>exact agY _
  |bl=>exact agZ _ _
  |int=>exact ag_ _ _ _
  |str=>exact ag0 _ _ _
  |lst a=>exact ag1 _ a e
  |tup a=>exact ag2 _ a e
 |int=>
  cases n with
  |non=>exact ag3 _ _
  |bl=>exact ag4 _ _ _
  |int=>exact ag5 _ _ _ _
  |str=>exact ag6 _ _ _ _
  |lst a=>exact ag7 _ _ a e
  |tup a=>exact ag8 _ _ a e
 |str=>
  cases n with
  |non=>exact ag9 _ _
  |bl=>exact ag' _ _ _
  |int=>exact aha _ _ _ _
  |str=>exact ahb _ _ _ _
  |lst a=>exact ahc _ _ a e
  |tup a=>exact ahd _ _ a e
 |@lst l j B h g o p=>
  cases n with
  |non=>exact ahe g e
  |bl=>exact ahf _ g e
  |int=>exact ahg _ _ g e
  |str=>exact ahh _ _ g e
  |@lst k i w f a q s=>
   have C:=o.length;have D:=q.length;have E:=p.2.length;have F:=s.2.length;rw[show eJ (.lst h) (.lst f)=eO h f from rfl]
   by_cases t:h.length=f.length
   .rw[←ud t]
    have:=ahi g a (by simp only[å];omega) e (jS I (jT I b) (by simpa[aM]using y) (by simpa[aM]using z) u o q p.2 s.2)
    rw[show j.toArray.size=h.length by simp only[å];omega]at this
    exact this
   .rw[yd t]
    exact ahj g a (by simp only[å,bne_iff_ne];omega) e
  |tup a=>exact ahk g a e
 |@tup l j B h g o p=>
  cases n with
  |non=>exact ahl g e
  |bl=>exact ahm _ g e
  |int=>exact ahn _ _ g e
  |str=>exact aho _ _ g e
  |lst a=>exact ahp g a e
  |@tup k i w f a q s=>
   have C:=o.length;have D:=q.length;have E:=p.2.length;have F:=s.2.length;rw[show eJ (.tup h) (.tup f)=eO h f from rfl,←fo h f]
   have:=ahq g a e (jS I (jT I b) (by simpa[aM]using y) (by simpa[aM]using z) u o q p.2 s.2)
   rw[show j.toArray.size=h.length by simp only[å];omega,show i.toArray.size=f.length by simp only[å];omega]at this
   exact this
theorem Vw.uniq{s Z H n d j u}(h:Vw s Z H d u)(h':Vw s Z H j u)(o:aM n d=true)(w:aM n j=true):d=j:=by
 cases h with
 |non=>cases h';rfl
 |bl b=>cases h';rfl
 |int i t=>cases h';rfl
 |str x t=>cases h';rfl
 |@lst l k m p y z e=>
  cases h' with
  |@lst _ a f g q r c=>
   cases vY e.1 c.1;cases n with
   |zero=>simp[aM]at o
   |succ n=>rw[aS.uniq n p _ m (by simpa[aM]using o) (by simpa[aM]using w) e.2 c.2]
  |@tup _ a f g q r c=>exact(pZ e.1 c.1).elim
 |@tup l k m p y z e=>
  cases h' with
  |@tup _ a f g q r c=>
   cases vZ e.1 c.1;cases n with
   |zero=>simp[aM]at o
   |succ n=>rw[aS.uniq n p _ m (by simpa[aM]using o) (by simpa[aM]using w) e.2 c.2]
  |@lst _ a f g q r c=>exact(pZ c.1 e.1).elim
def CD(s)(Z:b'->Prop)(H a u):=@decide (∃d,aM 8 d=true/\Vw s Z H d u/\eJ d a=true) (adm _)
theorem ye(o:aM 8 η=true)(h:Vw x r d η U):CD x r d m U=eJ η m:=by
 cases e:eJ η m with
 |true=>exact @decide_eq_true _ (adm _) ⟨η,o,h,e⟩
 |false=>
  refine @decide_eq_false _ (adm _) ?_;rintro⟨f,b,c,a⟩;rw[Vw.uniq c h b o,e]at a;cases a
theorem nN{X pins}{f:L2.St}{Z H s}(I:Inv X pins f H s){c}:∀{b}{e}{a},aS Z H b e->Vals e a->(∀d∈b,aM 8 d=true)->a.any (CD s Z H c)=b.any λd=>eJ d c
 |[],_,_,h,r,_=>by rw[h.nil_inv]at r;cases r;rfl
 |d::b,_,_,h,r,o=>by
  obtain⟨v,vr,rfl,g,i⟩:=h.cons_inv;cases r with
  |cons j k=>
   rw[ĝ,ĝ,nN I i k (by simp_all),ye (o d (by simp)) (gS I g.now j (o d (by simp)))]
theorem nO{X pins}{l:L2.St}{Z H s}(I:Inv X pins l H s){A b w}(f:A.units+8<É)(g:aM 8 b=true)(i:Vw s Z H b w):
  ∀{c}{j}{a},aS Z H c j->Vals j a->(∀d∈c,aM 8 d=true)->∀u∈a,ņ A s u w (CD s Z H b u)
 |[],_,_,h,r,_,u,hm=>by rw[h.nil_inv]at r;cases r;simp at hm
 |d::c,_,_,h,r,o,u,hm=>by
  obtain⟨v,vr,rfl,m,n⟩:=h.cons_inv;cases r with
  |cons p q=>
   rcases È.mp hm with e|hm
   .subst e
    have k:=gS I m.now p (o d (by simp))
    rw[ye (o d (by simp)) k]
    exact jT I 8 A d b _ w f (o d (by simp)) g k i
   .exact nO I f g i n q (λz t=>o z (by simp[t])) u hm
def CF(c:ð):R2:=λx y H Q=>∃Z a b k,Now Z H a x/\Now Z H b y/\gh c a b=.ok k/\Q (.bl k) H
theorem uf{b}(h:Now r d (.dct b q) A):∃a,A=.ref a:=by
 refine cg h λa _ e _=>?_
 grind
theorem JK(f:Now r d m A)(l:Now r d η G4)(g:RelV A U)(o:RelV G4 R4)(h:isD m η=.ok H):plainIs U R4=true/\(U==R4)=H:=by
 have GO:∀{j:List D}{A:V}{U:f'},Now r d (.lst j) A->RelV A U->∃a,U=.ref a:=λn e=>by
  obtain⟨a,_,rfl,_⟩:=dn n;exact⟨a,e⟩
 have k:∀{j:List D}{A:V}{U:f'},Now r d (.tup j) A->RelV A U->∃a,U=.ref a:=λn e=>by
  obtain⟨a,_,rfl,_⟩:=gF n;exact⟨a,e⟩
 cases η with
 |non=>
  cases gD l;cases o;cases m with
  |non=>cases gD f;cases g;cases h;exact⟨rfl,rfl⟩
  |bl b=>cases jj f;cases g;cases h;exact⟨rfl,rfl⟩
  |int i=>cases c9 f;obtain⟨t,rfl⟩:=g;cases h;exact⟨rfl,rfl⟩
  |str i=>cases dm f;obtain⟨t,rfl⟩:=g;cases h;exact⟨rfl,rfl⟩
  |lst j=>obtain⟨a,rfl⟩:=GO f g;cases h;exact⟨rfl,rfl⟩
  |tup j=>obtain⟨a,rfl⟩:=k f g;cases h;exact⟨rfl,rfl⟩
  |dct p j=>obtain⟨a,rfl⟩:=uf f;cases g;cases h;exact⟨rfl,rfl⟩
  |ref n=>exact(show False by simpa only [Now,Rep]using f).elim
 |bl c=>
  cases jj l;cases o;cases m with
  |non=>cases gD f;cases g;cases h;exact⟨rfl,rfl⟩
  |bl b=>cases jj f;cases g;cases h;exact⟨rfl,by grind⟩
  |int i=>cases c9 f;obtain⟨t,rfl⟩:=g;cases h;exact⟨rfl,rfl⟩
  |str i=>cases dm f;obtain⟨t,rfl⟩:=g;cases h;exact⟨rfl,rfl⟩
  |lst j=>obtain⟨a,rfl⟩:=GO f g;cases h;exact⟨rfl,rfl⟩
  |tup j=>obtain⟨a,rfl⟩:=k f g;cases h;exact⟨rfl,rfl⟩
  |dct p j=>exact vp h
  |ref n=>exact vp h
 |_=>exact vp h
theorem JL(D:c.A.units+64<É)(I:Inv c G F2 d x)(k:RelV A U)(n:RelV G4 R4)(o:Now r d m A)(s:Now r d η G4)(e:inD m η=.ok H):
  (ο (.bl H) d->nc (p' c.prog c.w) c.A (á .In U R4) (EP c G F2 ο) c.xe x)/\(ο (.bl !H) d->nc (p' c.prog c.w) c.A (á .NotIn U R4) (EP c G F2 ο) c.xe x):=by
 unfold inD at e;split at e
 .rename_i t
  split at e
  .rename_i f
   cases e;simp only[Ö]at f;obtain⟨g,b⟩:=f;have b:=Ĕ.mp b;obtain⟨l,y,rfl,u,h⟩:=dn s;cases n;obtain⟨a,i,p,z⟩:=I.list (lG u);have j:∀w,w∈a.toArray->ņ c.A.in1 x w U _:=λw B=>nO I (by grind) g (gS I o k g) h i b w (by grind)
   have C:a.toArray.any (CD x r d m)=t.any λG4=>eJ G4 m:=by
    rw[←nN I h i b];simp
   exact⟨λq=>SeqAt.in_listAt _ p.isList j ⟨.bl _,d,I,rfl,by grind⟩,λq=>SeqAt.notIn_listAt _ p.isList j ⟨.bl _,d,I,rfl,by grind⟩⟩
  .cases e
 .rename_i t
  split at e
  .rename_i f
   cases e;simp only[Ö]at f;obtain⟨g,b⟩:=f;have b:=Ĕ.mp b;obtain⟨l,y,rfl,_,u,h⟩:=gF s;cases n;refine ay (I.tuple (yc u)) λa i p z=>?_
   have j:∀w,w∈a.toArray->ņ c.A.in1 x w U _:=λw B=>nO I (by grind) g (gS I o k g) h i b w (by grind)
   have C:a.toArray.any (CD x r d m)=t.any λG4=>eJ G4 m:=by
    rw[←nN I h i b];simp
   exact⟨λq=>SeqAt.in_tupleAt _ p j ⟨.bl _,d,I,rfl,by grind⟩,λq=>SeqAt.notIn_tupleAt _ p j ⟨.bl _,d,I,rfl,by grind⟩⟩
  .cases e
 .cases e
  cases dm o;cases dm s;exact⟨λq=>zU _ x F2 d _ _ U R4 ο I k n ⟨_,_,rfl,rfl,q⟩,λq=>qW _ x F2 d _ _ U R4 ο I k n ⟨_,_,rfl,rfl,q⟩⟩
 .cases e
variable{o5:ð}
theorem my(h:gh o5 m η=.ok H)(a:o5=.Lt\/o5=.LtE\/o5=.Gt\/o5=.GtE):∃i j,m=.int i/\η=.int j:=by
 rcases a with rfl|rfl|rfl|rfl<;>cases m<;>first | (cases h) | (cases η<;>first|exact⟨_,_,rfl,rfl⟩|cases h)
theorem nP(J:c.A.units+64<É)(D):kE c (á D) (CF D):=by
 intro pins s E H x y u v Q I n p h;refine bp h λZ d f k r t F=>xa F λe q=>?_
 have l:EP c pins E Q (.bool k) s:=⟨.bl k,H,I,rfl,q⟩
 have a:∀{i j:Int}{o:ð}{g:Int->Int->Bool},kE c (á o) (Uc λi j=>.bl (g i j))->d=.int i->f=.int j->k=g i j->nc (p' c.prog c.w) c.A (á o u v) (EP c pins E Q) c.xe s:=by
  intro i j o g z B C K;subst B C K;cases c9 r;cases c9 t;exact z pins s E H _ _ u v Q I n p ⟨_,_,rfl,rfl,q⟩
 cases D with
 |Eq=>
  refine JJ (show(if (aM 8 d&&aM 8 f)=true then .ok (eJ d f)else Out.bad)=_ from e) λm e=>?_
  cases e;exact ue I 8 _ _ _ _ _ (by omega) (bL m) (bR m) (gS I r n (bL m)) (gS I t p (bR m)) c.prog c.w c.xe _ l
 |NotEq=>
  refine JJ (show(if (aM 8 d&&aM 8 f)=true then .ok (!eJ d f)else Out.bad)=_ from e) λm e=>?_
  cases e;exact v_ I (b:=7) (by omega) (bL m) (bR m) (gS I r n (bL m)) (gS I t p (bR m)) c.prog c.w c.xe _ l
 |Lt=>obtain⟨i,j,rfl,rfl⟩:=my e (by simp);cases e;exact a (FY λ_ _ _ _ _ _ _ q=>lt_int q) rfl rfl rfl
 |LtE=>obtain⟨i,j,rfl,rfl⟩:=my e (by simp);cases e;exact a (FY λ_ _ _ _ _ _ _ q=>le_int q) rfl rfl rfl
 |Gt=>obtain⟨i,j,rfl,rfl⟩:=my e (by simp);cases e;exact a (FY λ_ _ _ _ _ _ _ q=>gt_int q) rfl rfl rfl
 |GtE=>obtain⟨i,j,rfl,rfl⟩:=my e (by simp);cases e;exact a (FY λ_ _ _ _ _ _ _ q=>ge_int q) rfl rfl rfl
 |In=>
  have e:inD d f=.ok k:=e;exact(JL J I n p r t e).1 q
 |NotIn=>
  have e:(do let b ←inD d f;Out.ok (!b))=.ok k:=e
  obtain⟨b,B,C⟩:=nM e;cases C;exact(JL J I n p r t B).2 q
 |Is=>
  have e:isD d f=.ok k:=e;obtain⟨z,G⟩:=JK r t n p e;exact wpAny_is_plain z (by rw[G];exact l)
 |IsNot=>
  have e:(do let b ←isD d f;Out.ok (!b))=.ok k:=e
  obtain⟨b,B,C⟩:=nM e;cases C;obtain⟨z,G⟩:=JK r t n p B;exact wpAny_isNot_plain z (by rw[G];exact l)
theorem LG(f:Now r d m A)(g:Now r d η G4)(c:∀a,r a->d a≠none)(h:(do let b ←gh o5 m η;Out.ok (false,D.bl b))=.ok (E4,B8))(k:∀v e Z',fk r d Z' e->eS H E4 Z' d e B8 v->ο v e):CF o5 A G4 d ο:=by
 obtain⟨b,i,j⟩:=nM h;cases j;exact⟨r,m,η,b,f,g,i,k _ d r (fk.refl c) (.rep (gj rfl))⟩
variable{L8 T5:TT}
theorem PT.imp(h:PT c n T5)(i:∀a H Q,L8 a H Q->T5 a H Q):PT c n L8:=λpins s a H Q I q=>h _ s a H Q I (i a H Q q)
theorem PW.imp(h:PW c n T5)(i:∀a H Q,L8 a H Q->T5 a H Q):PW c n L8:=λb pins s a H Q I q=>h b _ s a H Q I (i a H Q q)
theorem LH(n:Now r d m A)(h:lY m=some H):tF O A d H:=by
 cases m with
 |non=>cases gD n;cases h;rfl
 |bl b=>cases jj n;cases h;rfl
 |int b=>cases c9 n;cases h;rfl
 |str b=>
  cases dm n;simp only[lY]at h;split at h
  .rename_i i
   cases h;refine⟨bJ i,?_⟩
   grind
  .exact bD h
 |lst g=>
  obtain⟨a,c,rfl,e,f⟩:=dn n;cases h;refine .inl ⟨c,lG e,?_⟩;have:=f.length
  grind
 |tup g=>
  obtain⟨a,c,rfl,_,e,f⟩:=gF n;cases h;refine .inr (.inl ⟨c,yc e,?_⟩);have:=f.length
  grind
 |dct j g=>exact bD h
 |ref k=>exact bD h
def CG(Z:b'->Prop)(H:Hp):List D->List V->Prop
 |[],a=>a=[]
 |d::b,a=>∃v r,a=v::r/\Now Z H d v/\CG Z H b r
theorem CG.one(h:CG r d [m] S):∃x,S=[x]/\Now r d m x:=by
 refine aP h λv a e b c=>⟨v,by rw[e,c],b⟩
def Args(c)(Z:b'->Prop)(H)(a:List D)(b:List V):=if c=true then CG Z H a b else aS Z H a b
variable{E5:TA}{Q:List A'}
theorem PA.imp{t'}(h:PA c Q E5)(i:∀b H a,t' b H a->E5 b H a):PA c Q t':=λd pins s b H a I q=>h _ _ s b H a I (i b H a q)
theorem CH(h:aS r d q S)(e:jH q J=some m):∃v,jH S J=some v/\Rep r d m v:=by
 unfold jH at e ⊢;rw[h.length];cases a:tL _ J with
 |none=>simp_all
 |some j=>
  rw[a]at e;exact h.get e
theorem LI(f:Now r d m A)(g:Now r d η G4)(c:∀a,r a->d a≠none)(b:vV m η=.ok (E4,B8))(k:∀v h Z',fk r d Z' h->eS H E4 Z' d h B8 v->ο v h):rIx O A G4 d ο:=by
 unfold vV at b;split at b
 .obtain⟨l,i,rfl,j,n⟩:=dn f
  cases c9 g;split at b
  .rename_i q e
   cases b;obtain⟨v,o,p⟩:=CH n e;exact .inl ⟨l,i,_,v,rfl,rfl,lG j,o,k v d r (fk.refl c) (.rep p)⟩
  .cases b
 .obtain⟨l,i,rfl,_,j,n⟩:=gF f
  cases c9 g;split at b
  .rename_i q e
   cases b;obtain⟨v,o,p⟩:=CH n e;exact .inr (.inl ⟨l,i,_,v,rfl,rfl,yc j,o,k v d r (fk.refl c) (.rep p)⟩)
  .cases b
 .cases dm f
  cases c9 g;split at b
  .rename_i s
   split at b
   .rename_i t e
    cases b;exact .inr (.inr ⟨_,_,t,rfl,rfl,bJ s,e,k _ d r (fk.refl c) (.rep (gj rfl))⟩)
   .cases b
  .cases b
 .cases b
theorem CI(xs:List E3)(a b):(ef xs a b).length<=xs.length:=by
 unfold ef;rw[Ĩ,aeg];omega
theorem yf(n d:Nat)(v):max 0 (min (if v<0 then v+(n:Int)else v) n)=((HT.jG n d (some v))):=by
 show max 0 _=(((if v<0 then (v+(n)).toNat else min _ n):Nat):Int)
 grind
variable{P0:Int}{w:Nat}
theorem CJ(a:J=b)(c:P0=w):sliceRange J P0 1=(Ñ (w - b)).map λk=>b+k:=by
 subst a c;unfold sliceRange
 have e:(if (b:Int)<w then ((w:Int) - b+1 - 1) / 1 else 0).toNat=w - b:=by
  split
  .rw[Int.add_sub_cancel,Int.ediv_one,Int.toNat_sub]
  .rw[Nat.sub_eq_zero_of_le (Int.ofNat_le.mp (Int.not_lt.mp ‹_›))];rfl
 rw[if_pos (by decide)]
 show(Ñ (if (b:Int)<w then ((w:Int) - b+1 - 1) / 1 else 0).toNat).map _=_
 rw[e];exact adn λk _=>by rw[Int.one_mul];exact ϴ (b+k)
theorem nQ(a b n):ado a b 1 n=(Ñ (HT.jG n n b - HT.jG n 0 a)).map λk=>HT.jG n 0 a+k:=by
 refine CJ ?_ ?_
 .cases a with
  |none=>rfl
  |some v=>exact yf n 0 v
 .cases b with
  |none=>rfl
  |some v=>exact yf n n v
theorem Ak:∀n a (l:List Nat),a+n<=l.length->((Ñ n).map λk=>a+k).filterMap (λi=>l[i]?)=(l.drop a).take n:=by
 intro n
 induction n with
 |zero=>intro a l _;simp
 |succ n c=>
  intro a l h;have b:a+n<l.length:=by omega
  rw[List.range_succ,ı,List.filterMap_append,c a l (ß b),List.take_add_one,List.getElem?_drop];simp[î b]
theorem CL(x:Str)(b a):(ado b a 1 x.length).filterMap (x.cps[·]?)=ef x.cps.toList b a:=by
 have c:x.cps.toList.length=x.length:=by rfl
 have e:=HT.BN x.length _ (O' _) a;rw[nQ];unfold ef;rw[c];generalize HT.jG _ 0 b=p at *;generalize HT.jG _ _ a=q at *
 by_cases d:p<=q
 .have:=Ak (q - p) p _ (by rw[c];omega)
  simp_all
 grind
def PX:V->Option Int->Option Int->Hp->VK->Prop:=λx a b H Q=>∃z,x=.str z/\z.length<=Q'/\Q (.str ⟨(ef z.cps.toList a b).toArray⟩) H
theorem nR:Lv c PX:=by
 intro pins s L H x v M N a b O Q I k m n r h;obtain⟨z,rfl,y,q⟩:=h;obtain⟨t,rfl⟩:=k;refine⟨"str",_,F.slot_str_getitem.lookup,ϫ _ _ _,?_⟩
 have part:∀{w:f'}{o:Option Int},Ϫ w o->∃p:Option (Int×Ò),w=partValue p/\p.map (·.1)=o:=λh=>by
  cases h with
  |none=>exact⟨none,rfl,rfl⟩
  |int i t=>exact⟨some (i,t),rfl,rfl⟩
 obtain⟨e,A,m1⟩:=part n;obtain⟨f,B,m2⟩:=part r;subst A B;refine wpAny_getItem_str_slice (l:=e) (u:=f) (st:=none) m rfl ?_
 have C:(ab2 z e f none).filterMap (z.cps[·]?)=ef z.cps.toList a b:=by
  unfold ab2;rw[m1,m2];exact CL z a b
 have D:(ef z.cps.toList a b).length<=z.length:=by
  have:=CI z.cps.toList a b;simpa[š]using this
 unfold sliceMade;split
 .rename_i j
  have d:(ab2 z e f none).length=z.length:=by
   simp only[Ö,beq_iff_eq]at j;exact j.2
  have E:(⟨(ef z.cps.toList a b).toArray⟩:Str)=z:=by
   unfold ab2 at d;rw[m1,m2]at d;have d:(ado a b 1 z.length).length=z.length:=d;rw[nQ,Þ,List.length_range]at d;have P:=HT.BN z.length z.length (O' _) b;have g:z.cps.toList.length=z.length:=by simp[š]
   have G:ef z.cps.toList a b=z.cps.toList:=by
    unfold ef;rw[g]
    by_cases J:z.length=0
    .have:z.cps.toList=[]:=aff (by rw[g];exact J)
     rw[this];simp
    .have K:HT.jG z.length 0 a=0:=by omega
     rw[K,aeJ,ab3 (by rw[g];omega)]
   rw[G]
  refine⟨.str z,H,I,⟨t,rfl⟩,?_⟩;rw[E]at q;exact q
 .rw[C]
  refine⟨?_,.str _,H,I.tok _,⟨_,rfl⟩,q⟩
  show(ef z.cps.toList a b).toArray.size<=Q'
  rw[å];exact B' D y
def PY(K):=λx a b H Q=>Pt K x a b H Q\/PX x a b H Q
noncomputable def rN(F:List D->Out Rs):Sp:=λf H Q _=>
 ∃Z c own d,(∀a,Z a->H a≠none)/\aS Z H c f/\F c=.ok (own,d)/\∀v b e,fk Z H e b->eS false own e H b d v->Q v b
theorem eS.weak(h:eS false E4 r d υ m A):eS H E4 r d υ m A:=by
 unfold eS at h ⊢;split
 .simp_all
 .rename_i a;rw[if_neg a]at h
  split
  .exact h.now
  .exact h
structure P_(X:Cx)(k:Nat)(x:Str)(F:List D->Out Rs):Prop where
 ex:∃(f:b') (fd:Y') (ps:List Str),X.mg x=some (.ref f)/\Ú X.K (.ref f)=true/\Binds X.K fd ps []/\bW X.prog X.w X.K X.mg X.base fH k f fd ps (rN F)
inductive ft (h:I'):f'->Bool->Prop where
 |non:ft h .none false
 |bl (b:Bool):ft h (.bool b) b
 |int (i:Int) (t:Ò):ft h (.int i t) (i != 0)
 |str (x:Str) (t:Ò):x.length<=Q'->ft h (.str x t) ((x.length:Int) != 0)
 |lst {l:b'}{its:Array f'}:h.IsList l its->its.size<=Q'->ft h (.ref l) (!its.isEmpty)
 |tup {l:b'}{its:Array f'}:Ĥ h l its->its.size<=Q'->ft h (.ref l) (!its.isEmpty)
variable{L o6:I'}
theorem ft.keep(k:∀b o,(U=.ref b)->L.get? b=some o->o6.get? b=some o)(x:ft L U H):ft o6 U H:=by
 cases x with
 |non=>exact .non
 |bl=>exact .bl _
 |int i H=>exact .int i H
 |str x H z=>exact .str x H z
 |lst q z=>obtain⟨o,a,c⟩:=q;exact .lst ⟨o,k _ o rfl a,c⟩ z
 |tup q z=>obtain⟨o,a,c⟩:=q;exact .tup ⟨o,k _ o rfl a,c⟩ z
variable{I:Á}{Ka:Bool->g'->Prop}{M:W'}{ν:f'->g'->Prop}
theorem ft.run{s}(x:ft s.heap U H)(q:∀a,Ka H {s with toks:=a}):nc (p' I M) θ (Ϟ U) Ka ν s:=by
 have b:=hZ;cases x with
 |non=>exact truthy_none (q _)
 |bl=>exact ļ (q _)
 |int i H=>exact adW (q _)
 |str x H z=>exact adX (by omega) (q _)
 |lst h z=>exact adY h (by omega) (q _)
 |tup h z=>exact truthy_tuple h (by omega) (q _)
theorem CO(I:Inv c G F2 d x)(n:Now r d m A)(f:RelV A U)(h:lY m=some H):ft x.heap U H:=by
 cases m with
 |non=>cases gD n;cases f;cases h;exact .non
 |bl b=>cases jj n;cases f;cases h;exact .bl _
 |int b=>cases c9 n;obtain⟨k,rfl⟩:=f;cases h;exact .int _ _
 |str b=>
  cases dm n;obtain⟨k,rfl⟩:=f;simp only[lY]at h;split at h
  .rename_i q
   cases h
   have e:((b.length:Int) != 0)=(b.length != 0):=by
    grind
   rw[←e];exact .str b k (bJ q)
  .exact bD h
 |lst j=>
  obtain⟨a,s,rfl,l,o⟩:=dn n;cases f;cases h;obtain⟨g,i,p,t⟩:=I.list (lG l)
  have e:(!j.isEmpty)=!g.toArray.isEmpty:=by
   have u:=o.length;have w:=i.length
   grind
  rw[e];exact .lst p.isList (by rwa[å,←i.length])
 |tup j=>
  obtain⟨a,s,rfl,_,l,o⟩:=gF n;cases f;cases h;obtain⟨g,i,p,t⟩:=I.tuple (yc l)
  have e:(!j.isEmpty)=!g.toArray.isEmpty:=by
   have u:=o.length;have w:=i.length
   grind
  rw[e];exact .tup p (by rwa[å,←i.length])
 |dct y j=>exact bD h
 |ref k=>exact bD h
variable{P6:ő->g'->Prop}{Q2 z:List b'}{ka:Nat->f'->Prop}
theorem CP{T}(W:Walks I M θ.in1 j z Q2 b ka T)(l)(G:I'->Prop)(y:∀h h',G h->(∀a o,a∉Q2->h.get? a=some o->h'.get? a=some o)->G h')(A:∀i v h,ka i v->G h->ft h v (l i)):∀m i s,b - i=m->i<=b->T i s.heap->G s.heap ->
  (∀h' f,(∀a o,a∉Q2->s.heap.get? a=some o->h'.get? a=some o)->P6 (.ok (.ret (.bool (((Ñ b).drop i).all l)))) {s with heap:=h',toks:=f}) ->
  â (p' I M) θ (.builtin "all.loop" ⟨[.ref j],[]⟩) P6 s:=by
 intro m
 induction m with
 |zero=>
  intro i s B C n g c;obtain rfl:i=b:=by omega
  refine Į afg ?_;refine j' (W.done s _ _ n λh' f k=>j' (ł (F' ?_)))
  have q:=c h' f k;rw[afh (by simp)]at q
  exact q
 |succ m D=>
  intro i s B C n g c;have p:i<b:=by omega
  have K:(Ñ b).drop i=i::(Ñ b).drop (i+1):=by
   rw[adp (by simpa using p)];simp
  refine Į afg ?_;refine j' (W.item i s _ _ p n λv h' f E r k=>?_)
  have w:G h':=y _ _ g k;refine j' (ñ ((A i v h' E w).run λH=>?_))
  refine j' (Ϯ ?_);cases e:l i with
  |true=>
   refine F' ⟨Ğ afi _,D (i+1) _ (by omega) p r w λJ t u=>?_⟩
   have q:=c J t λa o x d=>u a o x (k a o x d)
   simp_all
  |false=>
   refine j' (ł (F' ?_))
   simp_all
theorem CQ{T}(W:Walks I M θ.in1 j z Q2 b ka T)(l)(G:I'->Prop)(y:∀h h',G h->(∀a o,a∉Q2->h.get? a=some o->h'.get? a=some o)->G h')(A:∀i v h,ka i v->G h->ft h v (l i)):∀m i s,b - i=m->i<=b->T i s.heap->G s.heap ->
  (∀h' f,(∀a o,a∉Q2->s.heap.get? a=some o->h'.get? a=some o)->P6 (.ok (.ret (.bool (((Ñ b).drop i).any l)))) {s with heap:=h',toks:=f}) ->
  â (p' I M) θ (.builtin "any.loop" ⟨[.ref j],[]⟩) P6 s:=by
 intro m
 induction m with
 |zero=>
  intro i s B C n g c;obtain rfl:i=b:=by omega
  refine Į afj ?_;refine j' (W.done s _ _ n λh' f k=>j' (ł (F' ?_)))
  have q:=c h' f k;rw[afh (by simp)]at q
  exact q
 |succ m D=>
  intro i s B C n g c;have p:i<b:=by omega
  have K:(Ñ b).drop i=i::(Ñ b).drop (i+1):=by
   rw[adp (by simpa using p)];simp
  refine Į afj ?_;refine j' (W.item i s _ _ p n λv h' f E r k=>?_)
  have w:G h':=y _ _ g k;refine j' (ñ ((A i v h' E w).run λH=>?_))
  refine j' (Ϯ ?_);cases e:l i with
  |false=>
   refine F' ⟨Ğ afk _,D (i+1) _ (by omega) p r w λJ t u=>?_⟩
   have q:=c J t λa o x d=>u a o x (k a o x d)
   simp_all
  |true=>
   refine j' (ł (F' ?_))
   simp_all
theorem rO:∀{a}{bs},gi a=some bs->bs.length=a.length
 |[],_,h=>by cases h;rfl
 |d::a,bs,h=>by
  simp only[gi]at h;split at h
  .rename_i b c f e
   cases h;rw[Ā,Ā,rO e]
  .exact bD h
theorem yg:∀{a}{bs}{i:Nat}{d},gi a=some bs->a[i]?=some d->∃b,bs[i]?=some b/\lY d=some b
 |[],_,_,_,_,h=>by simp at h
 |d::a,bs,i,j,h,e=>by
  simp only[gi]at h;split at h
  .rename_i b f k g
   cases h;cases i with
   |zero=>simp_all
   |succ i=>
    obtain⟨c,l,m⟩:=yg g (by simpa using e)
    simp_all
  .exact bD h
theorem all_range:∀(bs:List Bool),((Ñ bs.length).all λi=>(bs[i]?).getD true)=bs.all id
 |[]=>rfl
 |b::bs=>by
  rw[Ā,adk,Ţ,List.all_map,Ţ,←all_range bs];rfl
theorem any_range:∀(bs:List Bool),((Ñ bs.length).any λi=>(bs[i]?).getD false)=bs.any id
 |[]=>rfl
 |b::bs=>by
  rw[Ā,adk,ĝ,afl,ĝ,←any_range bs];rfl
def WR(K:K'):List V->Hp->VK->Prop:=λb H Q=>∃Z a bs x,b=[x]/\Now Z H (.lst a) x/\gi a=some bs/\Q (.bl (bs.all id)) H
def WS(K:K'):List V->Hp->VK->Prop:=λb H Q=>∃Z a bs x,b=[x]/\Now Z H (.lst a) x/\gi a=some bs/\Q (.bl (bs.any id)) H
variable{va:List Bool}
theorem CS(I:Inv c G F2 d x)(e:aS r d q S)(f:Vals S j0)(k:gi q=some va)(dflt):
  ∀(i:Nat) v,j0.toArray[i]?=some v->ft x.heap v ((va[i]?).getD dflt):=by
 intro i v l;obtain⟨m,n⟩:=Ì.mp (by simpa using l)
 obtain⟨a,o,g⟩:=rM f m;have u:=e.length;have w:=f.length;have h:q[i]?=some q[i]:=by simp
 obtain⟨y,j,p⟩:=e.get h;rw[o]at j;cases j
 obtain⟨b,s,t⟩:=yg k h;rw[s];rw[n]at g;exact CO I p.now g t
theorem CT(w:c.calm=true):dq c (.builtin "all") (WR c.K):=by
 intro pins s G H J L Q I r h;refine bp h λZ M bs x a y d=>xa d λk q=>?_;subst a
 obtain⟨u,rfl,B⟩:=vals1 r;obtain⟨l,N,rfl,C,m⟩:=dn y;cases B;refine ay (I.list (lG C)) λf n p O=>?_
 refine afm PySem.F.kind_all PySem.F.plain_all PySem.F.entry_all (PySem.F.args_all1 _) ?_;refine j' (F' (j' (ϱ p.isList ?_)))
 refine F' ⟨Ğ afi _,CP (afn (A:=c.A.in1) (I.ok.hd w) _ l (U' (by obtain⟨_,e,_⟩:=p.isList;exact N' e)) _) _
  (λh=>∀b o,b≠s.heap.objs.size->s.heap.get? b=some o->h.get? b=some o) (λh D g j b o t e=>j b o (by simp_all) (g b o t e))
  (λi v h E g=>((CS I m n k true) i v E).keep λb o e z=>g b o (U' (N' z)) z) _ 0 _ rfl (æ _) ⟨⟨_,Ó _ rfl,rfl,rfl⟩,p.isList.push _⟩ (λb o t e=>X' _ e) λD P j=>?_⟩
 have e:((Ñ f.toArray.size).drop 0).all (λi=>(bs[i]?).getD true)=bs.all id:=by
  rw[å,←n.length,m.length,←rO k];exact all_range bs
 rw[e]
 exact⟨.bl _,H,I.kept λb o z=>j b o (by
  have:=U' (N' z)
  simp_all) (X' _ z),rfl,q⟩
theorem CU(w:c.calm=true):dq c (.builtin "any") (WS c.K):=by
 intro pins s G H J L Q I r h;refine bp h λZ M bs x a y d=>xa d λk q=>?_;subst a
 obtain⟨u,rfl,B⟩:=vals1 r;obtain⟨l,N,rfl,C,m⟩:=dn y;cases B;refine ay (I.list (lG C)) λf n p O=>?_
 refine afm PySem.F.kind_any PySem.F.plain_any PySem.F.entry_any (PySem.F.args_any1 _) ?_;refine j' (F' (j' (ϱ p.isList ?_)))
 refine F' ⟨Ğ afk _,CQ (afn (A:=c.A.in1) (I.ok.hd w) _ l (U' (by obtain⟨_,e,_⟩:=p.isList;exact N' e)) _) _
  (λh=>∀b o,b≠s.heap.objs.size->s.heap.get? b=some o->h.get? b=some o) (λh D g j b o t e=>j b o (by simp_all) (g b o t e))
  (λi v h E g=>((CS I m n k false) i v E).keep λb o e z=>g b o (U' (N' z)) z) _ 0 _ rfl (æ _) ⟨⟨_,Ó _ rfl,rfl,rfl⟩,p.isList.push _⟩ (λb o t e=>X' _ e) λD P j=>?_⟩
 have e:((Ñ f.toArray.size).drop 0).any (λi=>(bs[i]?).getD false)=bs.any id:=by
  rw[å,←n.length,m.length,←rO k];exact any_range bs
 rw[e]
 exact⟨.bl _,H,I.kept λb o z=>j b o (by
  have:=U' (N' z)
  simp_all) (X' _ z),rfl,q⟩
noncomputable def mx.nm:mx->Str
 |.len=>"len" |.all=>"all" |.any=>"any" |.sorted=>"sorted" |.list=>"list" |.tuple=>"tuple" |.int=>"int" |.min=>"min" |.max=>"max" |.bool=>"bool"
def kQ(b:∀a,r a->d a≠none)(k:∀A c Z',fk r d Z' c->eS H false Z' d c m A->ο A c)(h:jR m=some A):=
 k _ d r (fk.refl b) (.rep (gj h))
noncomputable def Ty.nm:Ty->Str
 |.int=>"int" |.str=>"str" |.bool=>"bool" |.list=>"list" |.tuple=>"tuple" |.dict=>"dict"
noncomputable def Ty.id:Ty->String
 |.int=>"int" |.str=>"str" |.bool=>"bool" |.list=>"list" |.tuple=>"tuple" |.dict=>"dict"
theorem yh(K)(t:Ty):ĥ K (.type "NoneType") (.type t.id)=some false/\ĥ K (.type "bool") (.type t.id)=some (t==.bool||t==.int)/\ĥ K (.type "int") (.type t.id)=some (t==.int) /\
  ĥ K (.type "str") (.type t.id)=some (t==.str)/\ĥ K (.type "list") (.type t.id)=some (t==.list)/\ĥ K (.type "tuple") (.type t.id)=some (t==.tuple)/\ĥ K (.type "dict") (.type t.id)=some (t==.dict):=by
 cases t<;>refine⟨?_,?_,?_,?_,?_,?_,?_⟩<;>with_unfolding_all rfl
def Qa(K:K'):List V->Hp->VK->Prop:=λa H Q=>∃Z d x t b,a=[x,.ty (Ty.id t)]/\Now Z H d x/\Cz d t=some b/\Q (.bl b) H
theorem lH{K:K'}(I:Inv c G F2 d x)(h:Rd d j (.tup S)):∃o,x.heap.get? j=some o/\o.cls=.type "tuple":=by
 obtain⟨_,a,_,o,b,e,_⟩:S.length<=Q'/\∃a:List _,Vals S _/\Ĥ _ j _:=Rd.ok h I.hok
 simp_all
theorem CV:dq c (.builtin "isinstance") (Qa c.K):=by
 intro pins s B H L M Q I r h;obtain⟨Z,d,x,t,b,rfl,l,i,q⟩:=h;obtain⟨u,N,rfl,j,C⟩:=vals2 r;cases (C);refine cW (yh c.K t) λD E t3 F n m=>xa m λG J=>?_
 have f:∀p,EP c _ B Q _ _:=λp=>⟨.bl b,H,I.tok p,rfl,q⟩
 cases d with
 |non=>cases gD l;cases i;exact cV I j .non D f
 |bl e=>cases jj l;cases i;exact cV I j (.bl e) E f
 |int e=>cases c9 l;cases i;exact cV I j (.int e) t3 f
 |str e=>cases dm l;cases i;exact cV I j (.str e) F f
 |lst w=>
  obtain⟨a,y,rfl,g,A⟩:=dn l;cases i;rcases g with g|⟨o,g⟩
  .exact cV I j (.lst g) n f
  .exact cV I j (.cI g) n f
 |tup w=>
  obtain⟨a,y,rfl,_,g,A⟩:=gF l;cases i;cases j;exact ý acC I.fF (lH (K:=c.K) I g) G (λz=>nomatch z) f
 |dct O w=>
  obtain⟨a,y,rfl,_,g,A⟩:=l;cases i;exact cV I j (.dK g) J f
 |ref k=>exact bD i
abbrev yi(b:List A')(a):=forIn b true λc r=>if r=true then do let ok ←Ŭ c a (eval c a);pure (ab4 ok)else pure (ab4 r)
variable{D4 R:A'}{o:T'}{u6:Ä}{π:V'}
theorem Al(J:Nat->g'->Prop)(c:∀a x,J a x->nc (p' I M) θ (Ć U) (λr d=>match r with
   |none=>P6 (.ok .next) d
   |some v=>nc (p' I M) θ (acp R U v) (λ_ f=>nc (p' I M) θ (ϝ R u6 v) (λ_ g=>nc (p' I M) θ (yi Q u6) (λok e=>
      if ok=true then nc (p' I M) θ (eval n u6) (λb i=>nc (p' I M) θ (call (.builtin "list.append") [R4,b]) (λ_ j=>∃m,m<a/\J m j) (λ_ _=>False) i) (λ_ _=>False) e
      else ∃m,m<a/\J m e) (λ_ _=>False) g) (λ_ _=>False) f) (λ_ _=>False) d) (λ_ _=>False) x)(a)(h:J a x):â (p' I M) θ (.compLoop (.ListComp n [⟨R,D4,Q,0⟩] π o) 0 U R4 u6) P6 x:=by
 refine codeAny_loop rfl J (λa x l=>?_) a h
 refine wpAny_noted ?_;rw[compTurn_list];refine j' (aa' (j' (à (c a x l) (λr d k=>?_) (by grind))))
 cases r with
 |none=>exact F' k
 |some v=>
  refine j' (à k (λ_ f p=>j' (à p (λ_ g q=>j' (à q (λok e s=>?_) (by grind))) (by grind))) (by grind))
  cases ok with
  |false=>exact F' ⟨rfl,by simp_all⟩
  |true=>
   refine j' (j' (à s (λb i t=>j' (à t (λ_ j u=>F' (F' ⟨rfl,u⟩)) (by grind))) (by grind)))
theorem wb(h:∀y∈π.names,y.2=.free->∃c,u6.cells.lookup y.1=some c):
  ∃d,closureFor π u6=pure d/\(∀n c,(n,c)∈d->u6.cells.lookup n=some c)/\∀y∈π.names,y.2=.free->∃c,(y.1,c)∈d:=by
 have g:∀(l:List _) (b:List _),(∀y∈l,y.2=.free->∃c,u6.cells.lookup y.1=some c)->(∀n c,(n,c)∈b->u6.cells.lookup n=some c) ->
   ∃d,(forIn l b λx r=>match x with | (name,kind)=>if (kind==ϐ)=true then do let a ←cellOf u6 name;pure (ab4 ((name,a)::r))else pure (ab4 r))=pure d /\
    (∀n c,(n,c)∈d->u6.cells.lookup n=some c)/\(∀p∈b,p∈d)/\∀y∈l,y.2=.free->∃c,(y.1,c)∈d:=by
  intro l
  induction l with
  |nil=>intro b _ i;exact⟨_,rfl,i,by simp,by simp⟩
  |cons y l o=>
   intro b j i;obtain⟨n,k⟩:=y;cases w:(k==ϐ)with
   |false=>
    refine dN (o _ (λz f=>j z (by simp[f])) i) λd e m s q=>?_
    grind
   |true=>
    obtain⟨c,t⟩:=j (n,k) (by simp) (by simp_all)
    refine dN (o ((n,c)::b) (λz f=>j z (by simp[f])) (λA B C=>by
     grind)) λd e m s q=>?_
    refine⟨d,?_,m,by simp_all,λz f u=>?_⟩
    .have:cellOf u6 n=pure c:=by
      unfold cellOf;rw[t]
     simp_all
    grind
 refine dN (g _ [] h (λ_ _ z=>absurd z (by simp))) λd e m _ q=>?_
 unfold closureFor
 grind
noncomputable def blk(X:Cx)(scope)(a:List (Str×b'))(C)(N:List Str)(s₀ H₀)(fp:List b'):=
 {X with N:=N,s₀:=s₀,H₀:=H₀,env:=compEnvC scope a C X.env,outer:=X.stack,stack:=X.stack,ex:=fp,fn:=λ_=>false,pn:=[],xe:=λ_ _=>False}
theorem lookup_mem{α β:Type}[BEq α][LawfulBEq α]:∀{l:List (α×β)}{x}{v},l.lookup x=some v->(x,v)∈l
 |[],_,_,h=>by simp at h
 | (n,k)::r,x,v,h=>by
  rw[Ġ]at h;cases e:x==n with
  |true=>simp_all
  |false=>rw[e]at h;exact Ŏ _ (lookup_mem h)
theorem mem_lookup{α β:Type}[BEq α][LawfulBEq α]:∀{l:List (α×β)}{x}{v},(x,v)∈l->∃u,l.lookup x=some u
 |[],_,_,h=>by simp at h
 | (n,k)::r,x,v,h=>by
  rw[Ġ];cases e:x==n with
  |true=>simp
  |false=>
   rcases È.mp h with q|q
   .simp_all
   .exact mem_lookup q
theorem fu{a:Ä}:∀(names:List (Str×Ź)) x,(names.map λ(n,k)=>if (k==ϐ&&a.scope.kind==.function&&a.kindOf n==some .cell)then (n,adq)else (n,k)).lookup x =
  (names.lookup x).map λk=>if (k==ϐ&&a.scope.kind==.function&&a.kindOf x==some .cell)then adq else k
 |[],_=>rfl
 | (n,k)::r,x=>by
  have e:∀c:Bool,(if c then (n,adq)else (n,k))=(n,if c then .cell else k):=λc=>by cases c<;>rfl
  rw[Ü];dsimp only;rw[e,Ġ,Ġ];cases h:x==n with
  |true=>rw[eq_of_beq h];rfl
  |false=>exact fu r x
structure iZ(X:Cx)(scope:V')(tn cn:List Str)(cap:List Nat):Prop where
 kind:scope.kind=.function
 cell:∀y∈scope.names,y.2≠.cell
 names:∀y∈scope.names,y.2=.local->scope.names.lookup y.1=some .local
 free:∀y∈scope.names,y.2=.free->X.env.kindOf y.1=some .cell\/X.env.kindOf y.1=some .free
 len:cn.length=cap.length
 at':∀(j i:Nat) (x:Str),cn[j]?=some x->cap[j]?=some i->X.N[i]?=some x/\scope.names.lookup x=some .free
noncomputable def ug(a:List Nat)(b:L2.St):L2.St:=a.map λi=>(b[i]?).join
def gT(b:Nat)(a:List Nat)(c:L2.St):L2.St:=Ŕ b none++ug a c
variable{M0 l:List Str}{T:List Nat}{Δ:Str->Option f'}
theorem Am{s F}(B:iZ c π l M0 T)(I:Inv c G F2 d s)(M:∀f∈Q2,lV c G d f)(P:∀f∈Q2,∃o,s.heap.get? f=some o)(C:∀n a,(n,a)∈F->c.env.cells.lookup n=some a)(c2:∀y∈π.names,y.2=.free->∃a,(y.1,a)∈F)(N:∀f o,s.heap.get? f=some o->L.get? f=some o)(t:∃n,L.get? s.heap.objs.size=some {cls:=.type "list",data:=.seq ([]).toArray n})(ns:L.Ns (s.heap.objs.size+1) Δ):
  Inv (blk c π F (s.heap.objs.size+1) (l++M0) s d Q2) [] (gT l.length T F2) (upd d s.heap.objs.size (.lst [])) {s with heap:=L,toks:=b}:=by
 have Q:∀f o,s.heap.get? f=some o->f≠s.heap.objs.size:=λf o e=>U' (N' e)
 have cell:∀x a,F.lookup x=some a->∃v,s.heap.IsCell a v:=λx a e=>I.cell x a (C x a (lookup_mem e))
 have R:∀x a,F.lookup x=some a->a≠s.heap.objs.size+1/\a≠s.heap.objs.size:=λx a e=>by
  obtain⟨v,o,D,_⟩:=cell x a e;exact⟨(λf o e=>U' (ab1 (N' e))) a o D,Q a o D⟩
 have S:∀f∈Q2,f<s.heap.objs.size:=λf m=>xe (P f m) λo e=>N' e
 have fr:=I.hok.fresh (O' s.heap.objs.size);obtain⟨nd,t⟩:=t
 refine⟨⟨I.ok.mod,B.kind,I.ok.glob,I.ok.blt,ã _,λx y a E h=>?_,λx j=>?_,λx a e _=>absurd (show false=true from e) ϑ,I.ok.hd,I.ok.frames,.inl rfl,λf m=>⟨?_,λx a e z=>?_⟩,λf o e=>I.bs f o e,B' I.ok.vy I.sz,λf o e m=>?_,λf m U=>?_,I.stack,I.jB⟩,
  rfl,I.bare,?_,⟨Δ,ns,λi x v E h e3=>?_⟩,λx a e=>?_,?_,λx a e=>?_,λp hp=>absurd (show p∈([]:List (b'×Obj))from hp) (by simp),?_,?_⟩
 .exact I.ok.inj x y a (C x a (lookup_mem E)) (C y a (lookup_mem h))
 .have j:(ġ π c.env).names.lookup x=some .cell\/(ġ π c.env).names.lookup x=some .free:=j
  unfold ġ at j;simp only[fu]at j;cases q:π.names.lookup x with
  |none=>rw[q]at j;simp at j
  |some k=>
   rw[q]at j;have hm:=lookup_mem q
   have w:k=.free:=by
    by_cases w:k=.free
    .exact w
    .have V:(k==ϐ)=false:=by simpa using w
     rw[Ň]at j;simp only[V,Bool.false_and,į,if_false,ahr]at j;rcases j with z|z
     .exact absurd z (B.cell _ hm)
     .exact z
   obtain⟨a,X⟩:=c2 _ hm w;exact mem_lookup X
 .exact U' (ab1 (S f m))
 .exact(M f m).2.2.2.2.1 x a (C x a (lookup_mem e)) z
 .rcases(M f m).2.2.2.1 with z|z
  .exact I.ok.oY f o e z
  .exact absurd (M' (N' (I.ok.bs f o e).1) z) (Û _)
 .rcases È.mp (I.qQ f U)with z|z
  .exact(M f m).2.1 z
  .exact(M f m).2.2.1 z
 .exact Un.laid N (O' _) fr
 .have H:i<l.length->False:=λJ=>by
   have:(gT l.length T F2)[i]?=some none:=by
    unfold gT;rw[ê (by simpa using J),acF,if_pos J]
   rw[this]at h;cases h
  have J:l.length<=i:=ϊ H;have E:(l++M0)[i]?=some x:=E;rw[ħ J]at E
  have g:(ug T F2)[i - l.length]?=some (some v):=by
   unfold gT at h;rw[ħ (by simpa using J)]at h
   simpa using h
  unfold ug at g;rw[ç]at g;cases q:T[i - l.length]? with
  |none=>rw[q]at g;cases g
  |some O=>
   rw[q]at g;have h:(F2[O]?).join=some v:=by simpa using g
   have e4:F2[O]?=some (some v):=by
    cases q2:F2[O]? with
    |none=>rw[q2]at h;exact bD h
    |some z=>simp_all
   obtain⟨hN,A⟩:=B.at' _ _ _ E q;have w:=B.free _ (lookup_mem A) rfl
   have K:vx c.env.scope x:=by
    rcases w with z|z
    .exact .inr (.inl z)
    .exact .inr (.inr z)
   refine bx I.loc λm0 c0 Y=>?_
   obtain⟨u,ru,Z⟩:=Y O x v hN e4 K;refine⟨u,ru,.inr ⟨?_,?_⟩⟩
   .show(ġ π c.env).names.lookup x=some .cell\/(ġ π c.env).names.lookup x=some .free
    unfold ġ;simp only[fu,A,Ň];split
    .exact .inl rfl
    .exact .inr rfl
   .have Z:∃a,c.env.cells.lookup x=some a/\s.heap.IsCell a (some u):=by
     rcases Z with ⟨z,_⟩|⟨_,z⟩
     .rcases w with y|y<;>rw[y]at z<;>cases z
     .exact z
    refine bx Z λa X a0=>?_
    obtain⟨c',b0⟩:=c2 _ (lookup_mem A) rfl;obtain⟨d0,r⟩:=mem_lookup b0;have:=C _ _ (lookup_mem r);rw[X]at this;cases this
    obtain⟨o,D,t⟩:=a0;exact⟨a,r,o,N _ _ D,t⟩
 .obtain⟨v,o,D,t⟩:=cell x a e
  exact⟨v,o,N _ _ D,t⟩
 .show upd d s.heap.objs.size (.lst []) (s.heap.objs.size+1)=none
  rw[ax (adt _)];exact I.hok.fresh (ã _)
 .refine⟨?_,λhz=>absurd (show false=true from hz) ϑ⟩
  rw[ax (R x a e).2];exact(I.df x a (C x a (lookup_mem e))).1
 .refine I.hok.laid N (O' _) ⟨æ _,[],nd,.nil,t⟩
 .show(gT l.length T F2).length=(l++M0).length
  unfold gT ug;rw[ϒ,ϒ,List.length_replicate,Þ,B.len]
def JM(X)(a:List A')(t:TT):=∀pins s (b:L2.St) H Q,Inv X pins b H s->t b H Q->nc (p' X.prog X.w) X.A (yi a X.env) (TP X pins b Q) X.xe s
theorem GP:JM c [] (λ_ H Q=>Q true H):=λpins s a H Q I h=>F' ⟨H,I,h⟩
theorem GQ(h:PT c n T5):JM c [n] T5:=λpins s a H Q I q=>wpAny_tests_one (h _ s a H Q I q)
def p_(o:TI)(p:Nat)(f:List Nat)(g:TG)(q:TT)(r:TE):TE:=λh H Q=>o h H λJ j=>∀D,j D=none->∃W:Nat->Nat->List V->Hp->Prop,(∃m,W 0 m [] (upd j D (.lst []))) /\
 ∀i m a c,W i m a c->c D=some (.lst a)/\((J.stop i c/\Q (.ref D) c)\/(J.go i c/\a.length<Q'/\∀x k,J.Ub i c x k->g x (gT p f h) k λd s=>q d s λb l=>
  if b=true then r d l λy n=>n D=some (.lst a)/\∃e,e<m/\W (i+1) e (a++[y]) (upd n D (.lst (a++[y])))else ∃e,e<m/\W (i+1) e a l))
variable{M8:TI}{P:T'}{Y6:TG}
theorem qa{use}(hc:c.calm=true)(B:iZ c π l M0 T)(hi:PI c n R M8)(hs:∀f,Ď R c.env f=pure f)(l0:∀v F2 d ο,Y6 v F2 d ο->Y6 v F2 d λU E=>ο U E/\U.length=F2.length/\∀j,l.length<=j->U[j]?=F2[j]?)(t:∀F C H K fp,PG (blk c π F C (l++M0) H K fp) n Y6/\JM (blk c π F C (l++M0) H K fp) Q T5/\PE (blk c π F C (l++M0) H K fp) D4 ψ)(o0:∀s' E C D m,Inv c G F2 E s'->s'.heap.Ns C m->E C=none->C≠c.env.locals->c.s₀.heap.objs.size<=C->(∀f k,c.env.cells.lookup f=some k->k≠C)->(∀p∈c.pn++G,p.1≠C)->ο (.ref D) E ->
   compPost (p' c.prog c.w) c.A c.xe use ν (.ref D) C (.ok .next) s')(I:Inv c G F2 d x)(h:p_ M8 l.length T Y6 T5 ψ F2 d ο):
  nc (p' c.prog c.w) c.A (comprehension (.ListComp D4 [⟨n,R,Q,0⟩] π o) π c.env P (newList []) false (eval R c.env) use) ν c.xe x:=by
 have p0:∀y∈π.names,y.2=.free->∃k,c.env.cells.lookup y.1=some k:=λy hy hk=>I.ok.has y.1 (B.free y hy hk)
 refine ay (wb p0) λF r0 c1 c2=>?_
 refine wpAny_comprehension_free (use:=use) rfl hs r0 B.kind B.names ?_;refine bV (hi G x F2 d _ I h) λv s1 V=>bV V λA0 s2 h2=>?_
 refine xe h2 λit X=>bo X λfp Y J L e Z g b0 f2 h=>?_
 subst e;have fr:=Z.hok.fresh (O' s2.heap.objs.size);refine bx (h s2.heap.objs.size fr) λW s0 c0=>?_;obtain⟨m0,w0⟩:=s0
 refine Ϻ (wpAny_newFunctionEnv B.cell (λy hy=>absurd hy (by simp)) (λV ns sb=>?_) B.kind)
 dsimp only at ns sb ⊢;rw[(ų _ _)]at ns sb ⊢;have kp:∀b a,s2.heap.get? b=some a->V.get? b=some a:=λb a e=>sb.extBut b a (U' (ab1 (N' e))) (X' _ (X' _ e))
 have hD:∃s,V.get? s2.heap.objs.size=some {cls:=.type "list",data:=.seq ([]:List f').toArray s}:=⟨0,sb.extBut _ _ (U' (ϓ _)) (X' _ (Ó _ rfl))⟩;have d0:∀b∈fp,∃a,s2.heap.get? b=some a:=λb t=>bx (g.obj 0 _ b0 b t) λa e _=>⟨a,e⟩
 have I4:Inv (blk c π F (s2.heap.objs.size+1) (l++M0) s2 L fp) [] (gT l.length T F2) (upd L s2.heap.objs.size (.lst [])) {s2 with heap:=V,toks:=s2.toks+([]:List (Str×f')).length}:=
  Am B Z f2 d0 c1 c2 kp hD ns
 refine kH (t F (s2.heap.objs.size+1) s2 L fp) λhg ht he=>?_
 have e0:Y 0 V:=g.keep 0 _ _ b0 λb t a e=>kp b a e
 have t0:∀b∈fp,upd L s2.heap.objs.size (.lst []) b=none:=λb t=>by
  obtain⟨a,e⟩:=d0 b t;rw[ax (U' (N' e))];exact(f2 b t).1
 have M:∀{E:Hp}{pl:List (b'×Obj)},(∀b∈fp,E b=none)->∀b∈fp,lV (blk c π F (s2.heap.objs.size+1) (l++M0) s2 L fp) [] E b:=λhn b t=>
  ⟨hn b t,(I4.ok.FU b t).1,I4.ok.oZ b t,.inl t,(I4.ok.FU b t).2,λp hp=>absurd (show p∈([]:List (b'×Obj))from hp) (by simp)⟩
 have S:â (p' c.prog c.w) c.A (.compLoop (.ListComp D4 [⟨n,R,Q,0⟩] π o) 0 (.ref it) (.ref s2.heap.objs.size) (compEnvC π F (s2.heap.objs.size+1) c.env))
   (compPost (p' c.prog c.w) c.A c.xe use ν (.ref s2.heap.objs.size) (s2.heap.objs.size+1)) {s2 with heap:=V,toks:=s2.toks+([]:List (Str×f')).length}:=by
  refine Al (λs s'=>∃i ys E,Inv (blk c π F (s2.heap.objs.size+1) (l++M0) s2 L fp) [] (gT l.length T F2) E s'/\Y i s'.heap/\(∀b∈fp,E b=none)/\W i s ys E) ?_ m0 ⟨0,[],_,I4,e0,t0,w0⟩
  rintro s s5 ⟨i,ys,H5,I5,g0,h0,w5⟩;obtain⟨C0,u0⟩:=c0 i s ys H5 w5;rcases u0 with ⟨stop,qn⟩|⟨go,i0,step⟩
  .refine bV (g.done (blk c π F (s2.heap.objs.size+1) (l++M0) s2 L fp) rfl rfl rfl hc i [] s5 _ H5 _ I5 (M (pl:=[]) h0) g0 stop) λr s6 N=>?_;obtain⟨hr,I6⟩:=N
   subst hr;refine bx I6.loc λmC nC _=>?_
   have I7:Inv c G F2 H5 s6:=by
    refine Z.call' I6.os I6.base I6.hok I6.bare λb t=>?_
    refine cW (f2 b t) λf0 f1 f3 f4 f5 f6=>?_
    exact⟨f4,f1,f5,f6⟩
   have hC:s2.heap.objs.size<=s2.heap.objs.size+1:=ã _;refine o0 s6 H5 (s2.heap.objs.size+1) s2.heap.objs.size mC I7 nC I6.free (ä (M' Z.lt hC)) (B' Z.sz hC) (λf k e z=>?_) (λp hp z=>?_) qn
   .obtain⟨v,q⟩:=Z.cell f k e
    exact absurd (M' q.lt (by rw[z];exact hC)) (Û _)
   .exact absurd (M' (N' (Z.pin p hp).1) (by rw[z];exact hC)) (Û _)
  .refine bV (g.item (blk c π F (s2.heap.objs.size+1) (l++M0) s2 L fp) rfl rfl rfl hc i [] s5 _ H5 _ I5 (M (pl:=[]) h0) g0 go) λr s6 N=>?_;refine bx N λu hr h6=>?_
   subst hr;refine bV h6 λ_ s7  zf =>bg zf λf H7 I7 r7 y7 a0 v0=>?_
   have x0:=I7.pinned (M (pl:=[]) v0) (g.obj _ _ a0);refine bV (hg _ s7 _ H7 f u _ x0 r7 (l0 _ _ _ _ (step f H7 y7))) λ_ s8 N=>?_;refine bQ N λO H8 I8 q8 l8 k8=>?_
   refine bV (ht _ s8 O H8 _ I8 q8) λok s9 N=>?_;refine bx N λH9 I9 q9=>?_
   have ŏ:∀{sA:g'}{HA:Hp},Inv (blk c π F (s2.heap.objs.size+1) (l++M0) s2 L fp) ([]++qU fp s7.heap) O HA sA->Inv (blk c π F (s2.heap.objs.size+1) (l++M0) s2 L fp) [] (gT l.length T F2) HA sA/\Y (i+1) sA.heap/\∀b∈fp,HA b=none:=λ{sA HA} IA=>by
    refine⟨(IA.jE (G:=[])).weak l8.symm λj v hj=>?_,g.keep _ _ _ a0 λb t a e=>(IA.pin (b,a) (Ù _ (Ù _ (gy t e)))).1,λb t=>?_⟩
    .have y0:l.length<=j:=by
      refine ϊ λj0=>?_
      have:(gT l.length T F2)[j]?=some none:=by
       unfold gT;rw[ê (by simpa using j0),acF,if_pos j0]
      rw[this]at hj;cases hj
     rw[k8 j y0];exact hj
    .refine bx (g.obj _ _ a0 b t) λa e _=>?_
     exact(IA.pin (b,a) (Ù _ (Ù _ (gy t e)))).2.1
   cases ok with
   |false=>
    rw[if_neg (by decide)]at q9 ⊢
    exact bx q9 λm' hm w'=>kH (ŏ I9) λa1 a2 a3=>⟨m',hm,i+1,ys,_,a1,a2,a3,w'⟩
   |true=>
    rw[if_pos rfl]at q9 ⊢;refine bV (he _ s9 O H9 _ I9 q9) λy sB N=>?_;refine bQ N λv HB IB rB z0 X=>bx X λm' hm w'=>?_
    have hx:=pO (c:=blk c π F (s2.heap.objs.size+1) (l++M0) s2 L fp) _ sB O HB (.ref s2.heap.objs.size) [v] (.ref s2.heap.objs.size) [y] (λ_ E=>E=upd HB s2.heap.objs.size (.lst (ys++[v]))) IB rfl (.cons rB .nil)
     ⟨s2.heap.objs.size,ys,v,rfl,rfl,z0,i0,rfl⟩
    refine bV hx λ_ sC N=>?_;refine aP N λ_ HC IC _ eC=>?_
    subst eC;refine kH (ŏ IC) λa1 a2 a3=>?_
    exact⟨m',hm,i+1,ys++[v],_,a1,a2,a3,w'⟩
 exact codeAny_compStart_list S (g.self c.A 0 _ _ _ e0 S)
theorem yj(u:c.calm=true)(B:iZ c π l M0 T)(w:PI c n R M8)(y:∀x,Ď R c.env x=pure x)(p:∀v k H a,Y6 v k H a->Y6 v k H λg r=>a g r/\g.length=k.length/\∀j,l.length<=j->g[j]?=k[j]?)(z:∀t C d f fp,PG (blk c π t C (l++M0) d f fp) n Y6/\JM (blk c π t C (l++M0) d f fp) Q T5/\PE (blk c π t C (l++M0) d f fp) D4 ψ):
  PE c (.ListComp D4 [⟨n,R,Q,0⟩] π o) (p_ M8 l.length T Y6 T5 ψ):=by
 intro pins s k H a I h;refine qa u B w y p z (λO r C D m A E F G J K L q=>⟨m,E,λP M=>⟨.ref D,r,A.turned (λb i N e=>M.extBut b i N e) F G (.inr J) K L,rfl,q⟩⟩) I h
variable{Q3:T'}
theorem wc(G:c.N.Nodup)(u:c.N[b]?=some h)(F:c.env.scope.names.lookup h=some .local)(w:ï (.ListComp D4 [⟨n,R,Q,0⟩] π o) (some (.Name h P)) Q3.line c.env=pure true)(J:c.calm=true)(B:iZ c π l M0 T)(K:PI c n R M8)(L:∀h,Ď R c.env h=pure h)(x:∀v t H d,Y6 v t H d->Y6 v t H λi y=>d i y/\i.length=t.length/\∀j,l.length<=j->i[j]?=t[j]?)(M:∀z C f g fp,PG (blk c π z C (l++M0) f g fp) n Y6/\JM (blk c π z C (l++M0) f g fp) Q T5/\PE (blk c π z C (l++M0) f g fp) D4 ψ):
  PS c (.Assign [.Name h P] (.ListComp D4 [⟨n,R,Q,0⟩] π o) Q3) (Le (p_ M8 l.length T Y6 T5 ψ) (jC b)):=by
 intro pins s t H D I k;rw[exec_Assign_Name_used _ _ _ _ w];refine j' (aa' (j' ?_));refine j' ?_;refine qa J B K L x M (λs' y C O m S U V X Y Z h5 q=>?_) I k
 refine adQ (pG S G u (.inl F) (A:=.ref O) rfl (λs2 I2 ch=>?_) (.inr F))
 obtain⟨a,sb,ha⟩:=ch
 refine⟨m,U.sameBut sb (by
  grind),λh' E=>F' (F' ⟨_,y,I2.turned (λp r nb e=>E.extBut p r nb e) V X (.inr Y) Z h5,q⟩)⟩
theorem PI.imp{t'}(h:PI c n R M8)(i:∀b H a,t' b H a->M8 b H a):PI c n R t':=λpins s b H a I q=>h _ s b H a I (i b H a q)
theorem jU:∀n a,(intsFrom a n).length=n
 |0,_=>rfl
 |n+1,a=>by rw[intsFrom,Ā,jU n]
theorem ints_get:∀n a (i:Nat) d,(intsFrom a n)[i]?=some d->d=.int (a+i)
 |0,_,_,_,h=>by simp[intsFrom]at h
 |n+1,a,0,d,h=>by simp[intsFrom]at h;subst h;simp
 |n+1,a,i+1,d,h=>by
  rw[ints_get n _ i d h]
  grind
noncomputable def Its(x:Str):It:=⟨λi _=>i<x.cps.size,λi H v a=>a=H/\∃c,x.cps[i]?=some c/\v=.str ⟨#[c]⟩,λi _=>x.cps.size<=i⟩
theorem CW(f x t y)(j:y="str_ascii_iterator"\/y="str_iterator"):Turn I M O n (Its x) [f] f (λi h=>h.IsStrIter f y x t i) where
 mem:=by simp
 obj:=λi h g b l=>by
  refine ay g λo e c d=>?_
  simp_all
 keep:=λi h J g k=>bx (g) λo e r=>⟨o,k f (by simp) o e,r⟩
 item:=by
  intro X P R S m i pins s U H E a z g K;subst P R S;refine cW (z f (by simp)) λB C V D F G=>?_
  have W:Walks X.prog X.w X.A f [f] [f] x.cps.size (SignAt x) (λi h=>h.IsStrIter f y x t i):=by
   rcases j with rfl|rfl
   .exact Walks.strAscii (a.ok.hd m) f x t
   .exact Walks.strWide (a.ok.hd m) f x t
  refine W.item i s _ _ K g λv J tk Y p Z=>?_
  refine cg Y λc u hx L=>?_;subst L
  refine ay (id p) λo e q d=>?_
  refine⟨_,rfl,pH e q d (by rcases j with rfl|rfl<;>decide) ⟨.str ⟨_⟩,H,(a.turned (λb o l e=>Z b o (by simp_all) e) B C D F G),⟨u,rfl⟩,⟨rfl,c,hx,rfl⟩,p,λb l=>(z b l).1⟩⟩
 done:=by
  intro X P R S m i pins s U H E a z g K;refine cW (z f (by simp)) λB C V D F G=>?_
  have T:x.cps.size<=i:=K;rcases j with rfl|rfl
  .exact wpAny_pyNext_ascii_end (a.ok.hd m) g (by simp[T]) λJ N=>⟨rfl,a.turned (λb o l e=>N b o l e) B C D F G⟩
  .exact wpAny_pyNext_wide_end (a.ok.hd m) g (by simp[T]) λJ N=>⟨rfl,a.turned (λb o l e=>N b o l e) B C D F G⟩
 self:=λA i s Q E g h=>by
  rcases j with rfl|rfl
  .exact wpAny_pyIter_striter_ascii g h
  .exact wpAny_pyIter_striter_wide g h
theorem lJ(n)(d:0<n):∀v b H Q,jC 0 v b H Q->jC 0 v b H λa c=>Q a c/\a.length=b.length/\∀j,n<=j->a[j]?=b[j]?:=λv b H Q h=>⟨h,by simp,by grind⟩
variable{N7 p9:TS}{Θ:J'}
theorem PS.imp(h:PS c Θ N7)(i:∀D a H,p9 D a H->N7 D a H):PS c Θ p9:=λpins s a H D I q=>h _ s a H D I (i D a H q)
variable{F5:List J'}
theorem jf.imp(h:jf c F5 N7)(i:∀D a H,p9 D a H->N7 D a H):jf c F5 p9:=λpins s a H D I q=>h _ s a H D I (i D a H q)
def gG:List Nat->Jx
 |[]=>Pc
 |i::a=>Jy (jC i) (gG a)
theorem qb{X}{nms:List (Str×T')}(b:X.N.Nodup):∀a (nms:List (Str×T')),a.length=nms.length->(∀(j i:Nat) x,a[j]?=some i->nms[j]?=some x->X.N[i]?=some x.1/\Loc X.env.scope x.1/\(X.fn x.1=true\/X.env.scope.names.lookup x.1=some .local)) ->
  Pb X (nms.map λx=>ň x.1 x.2) (gG a)
 |[],[],_,_=>xP
 |[],_::_,h,_=>by cases h
 |_::_,[],h,_=>by cases h
 |i::a,(x,f)::nms,g,h=>by
  refine kH (h 0 i _ rfl rfl) λc d e=>mV (jD b c d e) (qb (nms:=nms) b a _ (by simp_all) λj i x k l=>h (j+1) i x (by simp_all) (by simp_all))
def yk:V->List V->Hp->VK->Prop:=λx b H Q=>∃l a k y,x=.ref l/\b=[.int k,y]/\H l=some (.lst a) /\ -(2 ^ 63)<=k/\k<2 ^ 63/\a.length<Q'/\Q .non (upd H l (.lst (rJ a k y)))
theorem fO{s}(I:Inv c G F2 d s)(l:∀a∈z,lV c G d a)(k:∀a m4,a∉z->s.heap.get? a=some m4->L.get? a=some m4)(o:s.heap.objs.size<=j)(p:cL c.prog c.w (upd d j m4) L j m4):Inv c G F2 (upd d j m4) {s with heap:=L,toks:=b}:=by
 have t:∀a u,d a=some u->a∉z:=λa u e f=>by rw[(l a f).1]at e;exact bD e
 have up:∀a u,d a=some u->upd d j m4 a=some u:=λa u e=>by rwa[ax (aW e (I.hok.fresh o))]
 refine I.step (λa i=>?_) (λa m4 _ _ h e _=>k a m4 h e) (λa m4 _ _ h e _=>⟨_,k a m4 h e⟩) (λa u _ e n=>?_)
  (λa m4 h e=>⟨m4,k a m4 h e⟩) (λa H e=>up a _ e) (λa u v e=>up a _ e) (λa J e=>⟨#[],by simp_all⟩) (λm x=>?_) (λa u e=>?_) I.bare
 .refine cW (l a i) λK y M A B C=>⟨A,y,B,C⟩
 .have:a≠j:=λf=>absurd (N' e) (by simp_all)
  rwa[ax this]
 .refine ek x λm4 D E F r=>⟨m4,D,E,k _ m4 (λf=>(l _ f).2.1 rfl) F,r⟩
 .by_cases i:a=j
  .subst i
   rw[aD]at e;simp_all
  .rw[ax i]at e
   refine(I.hok a u e).stay (λg v h q=>k g v ?_ q) (λg q=>up g _ q) (by simp_all)
   grind
def Ite(K:K')(a:b'):It:=
 ⟨λi H=>∃b x,ly K H a b/\b[i]?=some x,λi H x c=>∃p,x=.ref p/\H p=none/\∀b,ly K H a b->∃v,b[i]?=some v/\c=upd H p (.tup [.int i,v]),λi H=>∃b,ly K H a b/\b.length<=i⟩
theorem An(a e t)(A:e≠t):
  Turn I M O (.Tuple Q b o) (Ite O a) [e,t] e (λi h=>(∃m,ţ h e t i m)/\h.IsListIter t a i) where
 mem:=by simp
 obj:=λi h r f y=>by
  obtain⟨⟨m,l⟩,g,e2,c,d⟩:=r
  grind
 keep:=λi h U r k=>by
  obtain⟨⟨m,l⟩,n⟩:=r;exact⟨⟨m,k e (by simp) _ l⟩,n.at λg q=>k t (by simp) g q⟩
 item:=by
  intro X F G J V i pins s σ H E j C r K;subst F G J;refine cg K λxs x D L=>?_
  obtain⟨⟨m,l⟩,n⟩:=r;refine ay (j.list D) λN P p hz=>?_
  refine bx (P.get L) λu hu ru=>?_
  refine wpAny_pyNext_enum_item l n p.isList (by simpa using hu) A λU so si tu sz kp=>?_
  refine⟨_,rfl,afo so λY se R=>?_⟩
  have B:=N' l;refine⟨.ref _,_,?_,rfl,⟨_,rfl,j.hok.fresh (O' _),λys hy=>⟨x,by rwa[j.tE hy D],rfl⟩⟩,⟨⟨u,by grind⟩,?_⟩,λf y=>?_⟩
  .have S:Ĥ Y _ _:=⟨_,(R.extBut _ _ (ä B) tu),rfl,_,rfl⟩
   have T:cL X.prog X.w (upd H s.heap.objs.size (.tup [.int i,x])) Y _ (.tup [.int i,x]):=⟨by rw[ò];simp,_,.cons ⟨_,rfl⟩ (.cons ru .nil),S⟩
   have:=fO (b:=s.toks+1) j C (λf g y q=>by
   have Z:f≠e:=λz=>y (by simp[z])
   have h3:f≠t:=λz=>y (by simp[z])
   exact R.extBut f g Z (kp f g Z h3 q)) (O' _) T
   exact this
  .exact si.extBut R.extBut (Ç A)
  .rw[ax (U' (by
    rcases È.mp y with z|z
    .subst z;exact B
    .have z:f=t:=by simpa using z
     subst z;obtain⟨g,q,_⟩:=n;exact N' q))]
   exact(C f y).1
 done:=by
  intro X F G J V i pins s σ H E j C r K;subst F G J;obtain⟨xs,D,L⟩:=K;obtain⟨⟨m,l⟩,n⟩:=r;refine ay (j.list D) λN P p hz=>?_
  refine cW (C t (by simp)) λf0 f1 f2 f3 f4 f5=>?_
  have hl:=P.length;exact wpAny_pyNext_enum_end (j.ok.hd V) l n p.isList (by simp;exact B' (R' hl.symm) L) λU eb=>⟨rfl,j.turned (λf g y e=>eb f g y e) f0 f1 f3 f4 f5⟩
 self:=λ_ _ _ _ _ r h=>by
  obtain⟨⟨m,l⟩,_⟩:=r;exact ab5 l h
theorem mz:∀a k,(eR k a).length=a.length
 |[],_=>rfl
 |d::a,k=>by rw[eR,Ā,Ā,mz a]
theorem mB:∀a k i (d:D),(eR k a)[i]?=some d->∃x,a[i]?=some x/\d=.tup [.int (k+i:Nat),x]
 |[],_,_,_,h=>by simp[eR]at h
 |d::a,k,0,b,h=>by simp[eR]at h;simp_all
 |d::a,k,i+1,b,h=>by
  obtain⟨x,c,e⟩:=mB a _ i b h;exact⟨x,by simp_all,by grind⟩
theorem ym:∀{c}{xs}{Z}{H}{a}{b},pY c=some xs->aS Z H c a->Vals a b->StrsAre b xs
 |[],xs,Z,H,a,b,h,r,q=>by
  cases h;rw[r.nil_inv]at q;cases q;exact .nil
 |d::c,xs,Z,H,a,b,h,r,q=>by
  obtain⟨v,k,rfl,e,f⟩:=r.cons_inv;cases d with
  |str x=>
   obtain⟨l,g,rfl⟩:=Ã.mp h;subst e;cases q with
   |cons i j=>
    obtain⟨t,rfl⟩:=i;exact .cons x t (ym g f j)
  |_=>exact bD h
def rJoin:V->List V->Hp->VK->Prop:=λx c H Q=>∃z Z b a y,x=.str z/\c=[y]/\Now Z H (.lst b) y/\pY b=some a/\z.length<=16/\(a.map (·.length)).sum+a.length<=1048576/\Q (.str (Txt.join z a)) H
theorem GU:Ow c "str.join" rJoin:=by
 intro pins s w H x A v B Q I b d h;obtain⟨z,Z,C,D,y,rfl,rfl,n,e,f,g,q⟩:=h;obtain⟨t,rfl⟩:=b;obtain⟨l,E,rfl,i,j⟩:=dn n;obtain⟨u,rfl,m⟩:=d.one;cases m;obtain⟨o,a,p,F⟩:=I.list (lG i);exact join_listW p.isList (by simpa using ym e j a) f g λr k=>⟨.str _,H,I.tok _,⟨r,rfl⟩,q⟩
theorem Ao:Ue c "list.insert" yk:=by
 intro pins s E H x G v J Q I m o h;refine bo h λl p k y d f i w A b=>xa b λK q=>?_;subst d;subst f
 cases m;obtain⟨u,j,rfl,B,g⟩:=o.two;obtain⟨t,rfl⟩:=B;refine xa (I.BP i) λz b=>aP b λa n r C e=>?_
 refine Ī afp ⟨_,e,rfl⟩ F.entry_list_insert (F.args_list_insert_3 _ _ _) (ahs l _ n k t j (by rw[aep w A];simp) (by simp_all)) ⟨e,?_⟩
 refine⟨.non,_,I.Gn (R6:=rJ a k j) i e ?_ ?_ ?_,rfl,q⟩
 .have L:(if k<0 then (k+(a.toArray.size)).toNat else min k.toNat a.toArray.size)=HT.jG a.length 0 (some k):=by rfl
  unfold rJ
  grind
 .have D:HT.jG p.length 0 (some k)=HT.jG a.length 0 (some k):=by rw[C]
  unfold rJ;rw[D];exact(r.take _).append (.cons g (r.drop _))
 .unfold rJ
  grind
def GV(h:L2.RelV A U)(h':L2.RelV G4 U):=h.inj h'
def CY:V->List V->Hp->VK->Prop:=λx b H Q=>∃Z a d y j,b=[y]/\Now Z H (.lst a) x/\Now Z H d y/\aM 8 d=true/\a.all (aM 8)=true/\a.findIdx? (λe=>eJ e d)=some j/\Q (.int j) H
theorem kR(a:aS r d q S)(c:Vals S j0)(f g):∃v,Rep r d q[b] v/\L2.RelV v j0[b]:=by
 obtain⟨v,h,j⟩:=a.get (i:=b) (d:=q[b]) (by simp[g])
 obtain⟨u,e,k⟩:=c.get h;rw[î f]at e;cases e;exact⟨v,j,k⟩
theorem CZ(hu:c.A.units+64<É):Ow c "list.index" CY:=by
 intro pins s σ H x vs v us Q I R S h;refine xe h λZ B=>bo B λk d y j C T U M o2 D=>xa D λV q=>?_;subst C
 obtain⟨l,ws,rfl,X,z⟩:=dn T;cases R;obtain⟨u,rfl,Y⟩:=S.one;refine ay (I.list (lG X)) λa f pl N=>?_
 obtain⟨E,he,a0⟩:=afq.mp V;have G:=f.length;have r:=z.length;refine bQ pl λo n ho hc p b0=>?_
 have g:∀m (b:m<k.length),aM 8 k[m]=true:=λm b=>Ĕ.mp o2 _ (by simp)
 have J:j<a.length:=M' (M' E (R' r.symm)) (R' G)
 classical
 let e:=λw=>decide (∃m,∃(b:m<a.length) (p:m<k.length),a[m]=w/\eJ k[m] d=true)
 have t:∀m (b:m<a.length) (p:m<k.length),e _=eJ _ d:=λm b p=>by
  cases O:eJ _ d with
  |true=>exact decide_eq_true ⟨m,b,p,rfl,O⟩
  |false=>
   refine decide_eq_false ?_;rintro⟨m',c0,i,e1,e2⟩;obtain⟨v1,K,L⟩:=kR z f b p;obtain⟨v2,r2,P⟩:=kR z f _ i;rw[e1]at P;have:=GV L P;subst this;rw[Rep.uniq _ _ _ _ (g m p) (g m' _) K r2]at O
   simp_all
 refine Ī afr ⟨_,ho,hc⟩ F.entry_list_index (F.args_list_index_2 _ _)
  (SeqAt.list_indexAt l _ n none o.slots u e j (by omega) (by rw[ò]at N;exact Oq (M' (M' J (R' G.symm)) N)) ?_ ?_) ⟨?_,λw hw=>?_,?_⟩
 .show e a[j]=true
  rwa[t j _ _]
 .simp_all
 .obtain⟨c',d',dt,sl⟩:=o
  simp_all
 .obtain⟨m,b,rfl⟩:=List.mem_iff_getElem.mp (by simpa using hw)
  have i:m<k.length:=M' (M' b (R' G.symm)) (R' r);rw[t m b i];obtain⟨v1,K,L⟩:=kR z f b _;exact jT I 8 _ _ _ _ _ (by grind) (g m _) M (gS I K.now L (g m _)) (gS I U Y M)
 .exact⟨.int j,H,I.tok _,⟨_,rfl⟩,q⟩
theorem Ap(m x y t u):afs m {pos:=[ü x t,ü y u]}=pure (x,y,0,x.length):=by
 unfold afs aht ahu ahv;have a:∀n,selfAndSome n m 1 3 {pos:=[ü x t,ü y u]}=pure (ü x t,[ü y u]):=λn=>by rfl
 have b:ahw (ü x t)=pure x:=by rfl
 have c:asStr? (ü y u)=pure (some y):=by rfl
 simp[a,b,c]
theorem gives_str_index(x y t u i r)(h:Ę x y 0 x.length 1=i::r):Gives (ô.«str.index» {pos:=[ü x t,ü y u]}) (Made.int i):=by
 have g:=gives_str_find x y t u;unfold ô.«str.find» at g;unfold ô.«str.index»;rw[Ap]at g ⊢;rw[h]at g;simp only[pure_bind,h]at g ⊢;exact g
def yn:V->List V->Hp->VK->Prop:=λx a H Q=>∃z y i r,x=.str z/\a=[.str y]/\Ę z y 0 z.length 1=i::r/\Q (.int i) H
theorem Aq:Ow c "str.index" yn:=by
 intro pins s g H x j v k Q I a b h;obtain⟨z,y,i,r,rfl,rfl,d,q⟩:=h;obtain⟨t,rfl⟩:=a;obtain⟨u,rfl,e⟩:=b.one;obtain⟨f,rfl⟩:=e;refine Ī aft (ϫ s z t) F.entry_str_index (F.args_str_index_2 _ _) (gives_str_index z y t f i r d).meets ?_;exact⟨.int i,H,I.tok _,⟨_,rfl⟩,q⟩
theorem GW(p:PE c n ψ)(q:PE c (.BoolOp .And (R::Q) o) L4):PE c (.BoolOp .And (n::R::Q) o) (λe H b=>ψ e H λx f=>∃a,tF c.K x f a/\if a=true then L4 e f b else b x f):=by
 intro pins s e H b I h;refine BoolOp_and (bV (p _ s e H _ I h) λv r i=>?_);refine aP i λx f t k j=>bx j λa u l=>?_
 refine bV (qZ _ r e f x v (λd g=>d=a/\g=f) t k ⟨a,u,rfl,rfl⟩) λd w i=>?_;refine ay i λg m y z=>?_
 subst y z;cases d with
 |true=>exact q _ w e g b m l
 |false=>exact⟨x,g,m,k,l⟩
theorem LJ(p:PE c n ψ)(q:PE c (.BoolOp .Or (R::Q) o) L4):PE c (.BoolOp .Or (n::R::Q) o) (λe H b=>ψ e H λx f=>∃a,tF c.K x f a/\if a=true then b x f else L4 e f b):=by
 intro pins s e H b I h;refine BoolOp_or (bV (p _ s e H _ I h) λv r i=>?_);refine aP i λx f t k j=>bx j λa u l=>?_
 refine bV (qZ _ r e f x v (λd g=>d=a/\g=f) t k ⟨a,u,rfl,rfl⟩) λd w i=>?_;refine ay i λg m y z=>?_
 subst y z;cases d with
 |false=>exact q _ w e g b m l
 |true=>exact⟨x,g,m,k,l⟩
theorem GX(i:PE c n ψ):PE c (.UnaryOp .Not n o) (λe H Q=>ψ e H λx b=>∃a,tF c.K x b a/\Q (.bl (!a)) b):=by
 intro pins s e H Q I h;refine UnaryOp_ (bV (i _ s e H _ I h) λv j k=>?_);refine aP k λx b l m f=>bx f λa p q=>?_
 refine not_of (bV (qZ _ j e b x v (λd g=>d=a/\g=b) l m ⟨a,p,rfl,rfl⟩) λd y  r =>ay r λg t u w=>?_)
 subst u w;exact⟨.bl _,g,t,rfl,q⟩
theorem eS.nw(h:eS H E4 r d υ m A):Now r υ m A:=by
 cases H with
 |true=>exact h.now
 |false=>exact(h.weak).now
noncomputable def Qb(sc:V')(x:Str):Bool:=match sc.names.lookup x with
 |some .local|some .cell|some .free=>true
 |_=>false
noncomputable def C5(sc:V')(x:Str):Bool:=match sc.names.lookup x with
 |some .local|some .cell=>true
 |_=>false
noncomputable def we(sc:V')(x):=sc.names.lookup x==some .globalImplicit
noncomputable def okN(x) := !(x==("__debug__":Str))&&!(x==("__classdict__"))&&!(x==("__name__"))
noncomputable def LK(N:List Str)(x):=N.findIdx? (· == x)
def lK(sc N x):=if Qb sc x&&okN x then LK N x else none
def JN(x):=[Ty.int,.str,.bool,.list,.tuple,.dict].find? (λt=>t.nm==x)
noncomputable def isStar:A'->Bool
 |.Starred _ _=>true
 |_=>false
noncomputable def isSlice:A'->Bool
 |.Slice _ _ _ _=>true
 |_=>false
noncomputable def isSet:A'->Bool
 |.Set _ _ _=>true
 |_=>false
noncomputable def C_(scope sc:V'):V':={scope with names:=scope.names.map λ(n,k)=>if (k==.free&&sc.kind==.function&&sc.names.lookup n==some .cell)then (n,.cell)else (n,k)}
noncomputable def dO(scope:V'):=(scope.names.filter λy=>y.2==.free).map (·.1)
def wg(sc:V')(N:List Str):List Str->Option (List Nat)
 |[]=>some []
 |x::a=>do let i ←lK sc N x;let b ←wg sc N a;some (i::b)
def Ar(scope)(sc:V')(x):=
 scope.kind==.function&&scope.names.all (λy=>!(y.2==.cell))&&scope.names.all (λy=>!(y.2==.local)||scope.names.lookup y.1==some .local) &&
 scope.names.all (λy=>!(y.2==.free)||(sc.names.lookup y.1==some .cell||sc.names.lookup y.1==some .free)&&scope.names.lookup y.1==some .free) &&
 scope.names.lookup x==some .local&&decide ((x::dO scope).Nodup)
noncomputable def LM(b:List adu):Option {r:Str×T'×A'×List A' // b=[⟨.Name r.1 r.2.1,r.2.2.1,r.2.2.2,0⟩]}:=match b with
 |[⟨.Name x p,iter,a,0⟩]=>some ⟨(x,p,iter,a),rfl⟩
 |_=>none
def qf(a):=(LM a).map (·.1)
variable{ua:List adu}
theorem qh(a:qf ua=some (h,o,n,Q)):ua=[⟨.Name h o,n,Q,0⟩]:=by
 obtain⟨⟨_,a⟩,_,e⟩:=Ã.mp a;cases e;exact a
theorem Dc(a:LK l h=some b):l[b]?=some h:=by
 obtain⟨c,d,_⟩:=afq.mp a
 simp_all
theorem mD(a:lK π l h=some b):l[b]?=some h/\vx π h/\(h==("__debug__"))=false/\(h==("__classdict__"))=false:=by
 unfold lK at a;split at a
 .rename_i c
  simp only[Ö,okN,Ť]at c;refine⟨Dc a,?_,c.2.1.1,c.2.1.2⟩;have d:=c.1;unfold Qb at d;unfold vx
  grind
 .exact bD a
theorem yo(a:okN h=true):(h==("__debug__"))=false/\(h==("__classdict__"))=false/\h≠"__name__":=by
 simp only[okN,Ö,Ť]at a
 simp_all
noncomputable def en:List Str:=["len","all","any","list","tuple","int","min","max","bool","isinstance","str","dict","range","sorted","enumerate","reversed","set","zip"]
theorem bC(h:isStar n=false):D' (n::Q) u6=(false,eval n u6)::D' Q u6:=by
 cases n<;>first|rfl | (cases h)
theorem bG{a pos}:∀{b},(∀e∈b,isStar e=false)->(À pos (D' b a)).any (·.1)=false
 |[],_=>rfl
 |e::b,h=>by
  rw[bC (h e (by simp))]
  show(false||(À _ _).any _)=false
  rw[bG (by grind)]
  rfl
variable{P5:Ty}
theorem Qc(a:JN h=some P5):h=P5.nm/\P5.nm∈en:=by
 have b:=adv a;exact⟨(eq_of_beq b).symm,by cases P5<;>decide⟩
theorem De{sc N}:∀{xs}{a},wg sc N xs=some a->xs.length=a.length/\∀(j i:Nat) x,xs[j]?=some x->a[j]?=some i->N[i]?=some x
 |[],a,h=>by cases h;simp_all
 |x::xs,a,h=>by
  refine bx (Ń.mp h) λi d h=>?_
  refine bx (Ń.mp h) λe f h=>?_
  cases h;obtain⟨g,k⟩:=De f;refine⟨by simp_all,λj l y b c=>?_⟩
  cases j with
  |zero=>simp at b c;subst b c;exact(mD d).1
  |succ j=>grind
theorem jV(h:isSet n=false):∀x,Ď n u6 x=pure x:=by
 intro x;cases n<;>first|rfl | (simp[isSet]at h)
theorem uh(h:isSet n=false):Ů o5 n=false:=by
 cases n<;>first|rfl | (simp[isSet]at h)
def ui(sc N x):=if C5 sc x&&okN x then LK N x else none
noncomputable def rP:A'->Bool
 |.ListComp .. |.SetComp .. |.DictComp ..=>true
 |_=>false
noncomputable def uj(sc:V')(x:Str)(a:T')(e:A'):Bool:=match e with
 |.ListComp _ _ s _=>sc.names.lookup x==some .local&&a.line==e.pos.line&&!(s.names.any λ(n,k)=>n==x&&(k==.local||k==.cell))
 |_=>false
noncomputable def gm:List A'->Option (List (Str×T'))
 |[]=>some []
 |.Name x p::r=>(gm r).map ((x,p):: ·)
 |_=>none
def rQ(sc:V')(N:List Str):List (Str×T')->Option (List Nat)
 |[]=>some []
 |x::a=>do let i ←ui sc N x.1;let b ←rQ sc N a;some (i::b)
noncomputable def Dg:A'->Bool
 |.Call .. |.Name .. |.Subscript ..=>true
 |_=>false
theorem lL:∀{a}{nms},gm a=some nms->a=nms.map λx=>ň x.1 x.2
 |[],_,h=>by cases h;rfl
 |e::a,nms,h=>by
  unfold gm at h;split at h
  .simp_all
  .rename_i x p r q
   cases q;obtain⟨c,b,h⟩:=Ã.mp h;subst h;rw[lL b];rfl
  .exact bD h
theorem qj(a):∀(nms:List (Str×T')),(č (nms.map λx=>ň x.1 x.2) a).length=nms.length/\(č (nms.map λx=>ň x.1 x.2) a).findIdx? (·.1)=none
 |[]=>⟨rfl,rfl⟩
 |x::r=>by
  obtain⟨b,c⟩:=qj _ r;refine⟨?_,?_⟩
  .show(č _ _).length+1=_
   rw[b];rfl
  .show List.findIdx? _ ((false,_)::č _ _)=none
   simp_all
def fv(N a:List Str)(sc):=
 sc.kind==.function&&!sc.isCoroutine&&!sc.isGenerator&&decide N.Nodup&&decide (N.take a.length=a)&&a.all (C5 sc)&&sc.names.all λy=>!(y.2==.free)
theorem gH(h:fv l M0 π=true):jF l M0 π:=by
 simp only[fv,Ö,Ť,decide_eq_true_eq,Ĕ,beq_iff_eq]at h;obtain⟨⟨⟨⟨⟨⟨a,b⟩,c⟩,d⟩,f⟩,g⟩,k⟩:=h;refine⟨a,b,c,d,f,λx i=>?_,λy m e=>?_⟩
 .have j:=g x i
  unfold C5 at j
  grind
 grind
noncomputable def GY:f'->Bool
 |.type x=>x=="list"
 |_=>false
def uk(K:K'):=K.all λp=>!GY p.2.cls
theorem um:∀{K:K'}{a}{o},K.lookup a=some o->(a,o)∈K
 |[],_,_,h=>by exact bD h
 | (b,p)::K,a,o,h=>by
  rw[Ġ]at h;split at h
  .simp_all
  .exact Ŏ _ (um h)
theorem Qd(a:uk O=true)(h:ly O d j S):Rd d j (.lst S):=by
 rcases h with h|⟨o,b,n,c,e,_⟩
 .exact h
 .have:=Ĕ.mp a _ (um c)
  rw[e]at this;exact absurd this (by decide)
noncomputable def Dh(K:K')(x:Str):Bool:=match ë K Í x with
 |some none=>true
 |_=>false
def yp(K):=en.all (Dh K)
def Di(X:O.In L)(G:L.Ns Í Δ)(a:yp O=true):=λx b=>by
 have:=Ĕ.mp a x b;unfold Dh at this;split at this
 .rename_i q;exact PySem.W.mg_none_of X G q
 .cases this
variable{B:Str}
theorem eg:fj h B=true↔h.cps.toList<=B.cps.toList:=by
 unfold fj
 simp_all
def lM(a b c)(d:fj a b=true)(e:fj b c=true):=eg.mpr (List.le_trans (eg.mp d) (eg.mp e))
theorem uo(a b):(fj a b||fj b a)=true:=by
 rw[afu,eg,eg];exact List.le_total _ _
theorem wh(a:fj h B=true)(b:fj B h=true):h=B:=by
 have e:=List.le_antisymm (eg.mp a) (eg.mp b);cases h;simp_all
theorem qk:∀{d}{p},risingS p d=true->(p::d).Pairwise λa b=>fj a b=true
 |[],p,_=>by simp
 |x::r,p,h=>by
  simp only[risingS,Ö,Ť,ltCps_eq]at h;have c:fj p x=true:=by unfold fj;rw[h.1];rfl
  have e:=qk h.2;refine adw.mpr ⟨λy hy=>?_,e⟩
  rcases È.mp hy with rfl|hy
  .exact c
  .exact lM _ _ _ c ((adw.mp e).1 y hy)
theorem Dj(c:M0.Perm l)(d:sortedS M0=true):M0=l.mergeSort fj:=by
 refine afv (λa b _ _ e f=>wh e f) ?_ (afw lM uo l) (c.trans (afx l _).symm)
 cases M0 with
 |nil=>simp
 |cons x r=>exact qk d
variable{F6:List Int}
theorem Dk{d}(e:d.Perm F6)(h:d.Pairwise (· <= ·)):d=F6.mergeSort λa b=>decide (a<=b):=by
 refine afv (λa b _ _ f g=>?_) (by simp_all) (afw (λa b c f g=>?_) (λa b=>?_) F6) (e.trans (afx F6 _).symm)
 .grind
 .grind
 grind
theorem nS:∀{a}{b},Vals (a.map V.str) b->StrsAre b a
 |[],_,r=>by cases r;exact .nil
 |x::a,_,r=>by
  cases r with
  |cons h t=>
   obtain⟨c,rfl⟩:=h;exact .cons _ _ (nS t)
theorem ql:∀{a}{b},StrsAre a b->Vals (b.map V.str) a
 |_,_,.nil=>.nil
 |_,_,.cons x t h=>.cons ⟨t,rfl⟩ (ql h)
theorem As:dq c (.builtin "sorted") (λxs H Q=>∃a,xs=[.ref a]/\((∃i:List Str,ly c.K H a (i.map V.str)/\i.length<64/\∀l,H l=none->Q (.ref l) (upd H l (.lst ((i.mergeSort fj).map V.str)))) \/
  ∃j:List Int,ly c.K H a (j.map V.int)/\j.length<64/\∀l,H l=none->Q (.ref l) (upd H l (.lst ((j.mergeSort λa b=>decide (a<=b)).map V.int))))):=by
 intro pins s F H xs G Q I r h;obtain⟨a,rfl,h⟩:=h;obtain⟨u,rfl,A⟩:=vals1 r;cases A;have fresh:=I.hok.fresh (ã _);rcases h with ⟨i,k,d,q⟩|⟨j,k,d,q⟩
 .obtain⟨m,f,n,B⟩:=I.list k
  have g:=f.length;rw[Þ]at g;refine sorted_strs n.isList (nS f) (Ø (R' g.symm) d) λo C p t w=>?_
  obtain⟨e,x⟩:=sortedAll_at _ _ _;have y:=Dj t w;subst y;refine⟨.ref _,_,I.laid (λb D z=>afy z) (ã _) ?_,rfl,q _ fresh⟩
  exact⟨by simp_all,_,e,ql p,x⟩
 .obtain⟨m,f,n,B⟩:=I.list k
  have g:=f.length;rw[Þ]at g;refine sorted_ints n.isList (intsAre_of f) (Ø (R' g.symm) d) λo E p t w=>?_
  obtain⟨e,x⟩:=sortedAll_at _ _ _;have y:=Dk t w;subst y;refine⟨.ref _,_,I.laid (λb D z=>afy z) (ã _) ?_,rfl,q _ fresh⟩
  exact⟨by simp_all,_,e,kM p,x⟩
def Qe(K:K')(d:TE):TI:=λe H R=>d e H λx b=>(∃a c,x=.ref a/\Rd b a (.lst c)/\R (Wu K a) b)\/(∃a c,x=.ref a/\Rd b a (.tup c)/\R (Itt K a) b)\/(∃y,x=.str y/\R (Its y) b)\/PD R x b
theorem GZ(p:PE c R ψ):PI c n R (Qe c.K ψ):=by
 intro pins s r H g I h;refine bV (p pins s r H _ I h) λv m u=>?_;refine aP u λx e d f w=>?_
 have i:∀b∈[m.heap.objs.size],lV c pins e b:=λb z=>by
  obtain rfl:b=m.heap.objs.size:=by simpa using z
  exact d.vB (O' _) (d.hok.fresh (O' _))
 rcases w with ⟨a,A,rfl,j,q⟩|⟨a,A,rfl,j,q⟩|⟨y,rfl,q⟩|q
 .cases f
  obtain⟨k,B,l,C⟩:=d.list (lG j);refine ϱ l.isList ?_;exact⟨_,_,_,_,e,rfl,d.kept λb o R=>X' _ R,zQ a _,⟨_,Ó _ rfl,rfl,rfl⟩,i,q⟩
 .cases f
  obtain⟨k,B,l,C⟩:=d.tuple (yc j);refine wpAny_pyIter_tuple (l) ?_;exact⟨_,_,_,_,e,rfl,d.kept λb o R=>X' _ R,vC a _,⟨_,Ó _ rfl,rfl,rfl⟩,i,q⟩
 .obtain⟨t,rfl⟩:=f
  refine wpAny_pyIter_strU ?_;exact⟨_,_,_,_,e,rfl,d.kept λb o R=>X' _ R,CW _ y t _ (by unfold strIterType;split<;>simp),⟨_,Ó _ rfl,rfl,rfl⟩,i,q⟩
 .exact Gv d f q
def Qf(a:b')(o:Obj):It:=
 ⟨λi H=>∃b,H a=some (.cI o (.dK b))/\i<b.length,λi H x d=>∃p,x=.ref p/\H p=none/\∀b,H a=some (.cI o (.dK b))->∃c,b[i]?=some c/\d=upd H p (.tup [kV c.1,c.2]),λi H=>∃b,H a=some (.cI o (.dK b))/\b.length<=i⟩
theorem Au:acX table "dict_itemiterator.__iter__"=some ô.«dict_keyiterator.__iter__» :=
 aeY (id':="dict_keyiterator.__iter__") (by kernel_rfl) (by rfl) (by decide +kernel) (by kernel_rfl)
variable{D5:f'->g'->Prop}{N:b'}{ζ:Nat}
theorem wj(a:IsItemIter x.heap j N b w ζ U R4)(h:D5 (.ref j) x):nc (p' I M) θ (ė (.ref j)) D5 ν x:=by
 have c:x.TypeIs (.ref j) _:=⟨_,a,rfl⟩;refine wpAny_pyIter_slot c afz (Ŝ afz c Au (F' ⟨_,rfl,_,_,c,F.slot_dict_itemiterator_next.lookup,h⟩) (F.args_dict_itemiterator_iter_1 _))
variable{D8:Array ĭ}{i0:Obj}
theorem wk(a m)(R:i0.data=.dict D8 w):
  Turn I M O (.Tuple Q b o) (Qf a i0) [m] m (λi h=>∃ok t,IsItemIter h m a i D8.size w ok t) where
 mem:=by simp
 obj:=λi h f c l=>by
  grind
 keep:=λi h S f k=>by
  grind
 item:=by
  intro X y A B T i pins s σ H E d u f C;subst y A B;refine bx C λg D U=>?_
  refine xe f λok j=>xe j λt f=>?_
  refine dN (eD d.hok D R) λvs r F x _=>?_
  have G:=î U;refine bx (dE r G) λq hv V=>?_
  have n:=N' f;rw[x]at f;refine wpAny_pyNext_items_item f F (k:=q.1) (v:=q.2) hv λp S hk so tu sz kp=>?_
  refine⟨_,rfl,wpAny_letOwnedTupleGo_items so λJ se Y=>?_⟩
  have K:=Y.extBut _ _ (ä n) tu;refine⟨.ref s.heap.objs.size,upd H s.heap.objs.size (.tup [kV g[i].1,g[i].2]),?_,rfl,⟨_,rfl,d.hok.fresh (O' _),λZ a0=>?_⟩,⟨_,_,by rw[x];exact se⟩,λc l=>?_⟩
  .have N:Ĥ J s.heap.objs.size [p,q.2].toArray:=⟨_,K,rfl,_,rfl⟩
   have P:cL X.prog X.w (upd H s.heap.objs.size (.tup [kV g[i].1,g[i].2])) J s.heap.objs.size (.tup [kV g[i].1,g[i].2]):=⟨by rw[ò];simp,[p,q.2],.cons (by rw[V.1];exact jM hk) (.cons V.2 .nil),N⟩
   have:=fO (s:=s) (L:=J) (b:=s.toks) d u (λc i0 l q=>by
   have h1:c≠m:=λz=>l (by simp[z])
   exact Y.extBut c i0 h1 (kp c i0 h1 q)) (O' _) P
   exact this
  .simp_all
  .have e:c=m:=by simpa using l
   subst e;rw[ax (U' n)];exact(u c l).1
 done:=by
  intro X y A B T i pins s σ H E d u f C;subst y A B;refine bx C λg D U=>?_
  refine xe f λok j=>xe j λt f=>?_
  refine dN (eD d.hok D R) λvs r F x _=>?_
  refine cW (u m (by simp)) λf0 f1 f2 f3 f4 f5=>?_
  have hl:=r.length;rw[x]at f;exact wpAny_pyNext_items_end (d.ok.hd T) f F (by simp_all) λS eb=>⟨rfl,d.turned (b:=s.toks) (λc i0 l e=>eb c i0 l e) f0 f1 f3 f4 f5⟩
 self:=λ_ _ _ _ _ f h=>by
  refine xe f λok j=>xe j λt f=>?_
  exact wj f h
def WT(R:It->Hp->Prop)(x:V)(c):=∃a b,x=.ref a/\((c a=some (.dK b)/\∀o,R (Qf a o) (upd c a (.cI o (.dK b))))\/∃o,c a=some (.cI o (.dK b))/\R (Qf a o) c)
theorem Dl(g:ø n "items" c.env (eval n c.env)=eval n c.env)(i:(P.endLine==Q3.line)=true)(m:PE c n ψ):
  PI c (.Tuple Q b o) (.Call (.Attribute n "items" P) [] [] Q3) (λp H R=>ψ p H (WT R)):=by
 intro pins s p H R I h;refine ac' g i (bV (m pins s p H _ I h) λv s1 X=>?_);refine aP X λx H1 C Y Z=>?_
 obtain⟨a,j,rfl,q⟩:=Z;cases (Y)
 have u:∀(f:Obj) (k:Array ĭ) (l:Nat) (t:Hp),Inv c pins p t s1->t a=some (.cI f (.dK j))->f.data=.dict k l->R (Qf a f) t->nc (p' c.prog c.w) c.A (call (.builtin "dict.items") [.ref a]) (λv s2=>nc (p' c.prog c.w) c.A (ė v) (PIE c pins p (.Tuple Q b o) R) c.xe s2) c.xe s1:=by
  intro f k l t D e2 E G;refine dN (eD D.hok e2 E) λJ r S hz T=>?_
  have U:s1.heap.DictOf _ a J:=cg (S) λn k m r=>⟨n,k,l,m,r⟩
  refine ż ϋ U.typeIs aeZ (ae_ _) (ae0 _ a T) ⟨⟨J,U⟩,?_⟩;generalize y:s1.heap.push _=K;have V:∀d n,s1.heap.get? d=some n->K.get? d=some n:=λd n e=>by rw[←y];exact X' _ e
  have hv:K.IsItemsView s1.heap.objs.size a:=by rw[←y];exact⟨_,Ó _ rfl,rfl,rfl⟩
  have L:=S.at' λn e=>V a n e
  have I3:=D.kept (t':=s1.toks) V;refine wpAny_pyIter_items hv L ?_;have I4:Inv c pins p t {s1 with heap:=K.push {cls:=.type "dict_itemiterator",data:=.fields #[.none,.bool false,.ref a,.int 0 0,.int J.length 0,.int l 0,.none,.none]} }:=I3.kept λd n q=>X' _ q
  refine⟨_,_,_,_,t,rfl,I4,wk a _ E,?_,λd hb=>?_,G⟩
  .rw[hz]
   exact⟨_,_,Ó _ rfl⟩
  .have z:=by simpa using hb
   rw[z];exact I3.vB (O' _) (I3.hok.fresh (O' _))
 rcases q with ⟨B,G⟩|⟨f,B,G⟩
 .obtain⟨M,N,t3⟩:=nr C (.inl ⟨j,.inl B⟩)
  refine cX (C.mr B) λf k l m E D=>?_
  exact⟨"dict",_,ŝ,ϋ,ada,M,N,ŗ rfl (ό (u f k l _ D aD E (G f)))⟩
 .obtain⟨M,N,t3⟩:=nr C (.inl ⟨j,.inr ⟨f,B⟩⟩)
  obtain⟨m,_,T,J,r,o',k,l,O,b,x2,x3⟩:=C.hok a _ B;rw[m]at O;exact⟨"dict",_,ŝ,ϋ,ada,M,N,ŗ rfl (ό (by grind))⟩
noncomputable def Qg(a:b')(o:Obj):It:=
 ⟨λi H=>∃b,H a=some (.cI o (.dK b))/\i<b.length,λi H x d=>d=H/\∀b,H a=some (.cI o (.dK b))->∃c,b[i]?=some c/\x=c.2,λi H=>∃b,H a=some (.cI o (.dK b))/\b.length<=i⟩
theorem Av(a m)(S:i0.data=.dict D8 b):Turn I M O n (Qg a i0) [m] m (λi h=>h.IsValIter m a i D8.size b) where
 mem:=by simp
 obj:=λi h j f o=>by
  have e:f=m:=by simpa using o
  subst e;obtain⟨i0,e,c,d⟩:=j;exact⟨i0,e,λv z=>by rw[d]at z;cases z⟩
 keep:=λi h w j k=>by
  obtain⟨i0,e,c,d⟩:=j;exact⟨i0,k m (by simp) i0 e,c,d⟩
 item:=by
  intro X C D F T i pins s U H E g y j G;subst C D F;obtain⟨l,A,J⟩:=G;obtain⟨Y,r,K,B,_⟩:=eD g.hok A S;have p:l[i]?=some l[i]:=î J;obtain⟨q,Z,rq⟩:=dE r p;obtain⟨L,N,f2,P,Q,R⟩:=y m (by simp)
  rw[B]at j;refine wpAny_pyNext_values_item j K (k:=q.1) (v:=q.2) Z λw t sb=>?_
  have I1:Inv X pins U H {s with heap:=w}:=g.turned (b:=s.toks) (λf i0 o e=>(sb.2 f o).trans e) L N P Q R
  obtain⟨o1,e1,c1,d1⟩:=id t;refine⟨q.2,rfl,pH (x:={s with heap:=w}) e1 c1 d1 (by decide) ⟨l[i].2,H,I1,rq.2,⟨rfl,λV u=>?_⟩,by rw[B];exact t,λf o=>(y f o).1⟩⟩
  rw[A]at u;cases u
  exact⟨l[i],p,rfl⟩
 done:=by
  intro X C D F T i pins s U H E g y j G;subst C D F;obtain⟨l,A,J⟩:=G;obtain⟨Y,r,K,B,_⟩:=eD g.hok A S;obtain⟨L,N,f2,P,Q,R⟩:=y m (by simp)
  have hl:=r.length;rw[B]at j;exact wpAny_pyNext_values_end (g.ok.hd T) j K (Ģ (B' (R' hl.symm) J)) λw eb=>⟨rfl,g.turned (b:=s.toks) (λf i0 o e=>eb f i0 o e) L N P Q R⟩
 self:=λ_ _ _ _ _ j h=>wpAny_pyIter_valiter j h
def WU(R:It->Hp->Prop)(x:V)(c):=∃a b,x=.ref a/\((c a=some (.dK b)/\∀o,R (Qg a o) (upd c a (.cI o (.dK b))))\/∃o,c a=some (.cI o (.dK b))/\R (Qg a o) c)
theorem G_(m:ø n "values" c.env (eval n c.env)=eval n c.env)(p:(o.endLine==P.line)=true)(u:PE c n ψ):
  PI c R (.Call (.Attribute n "values" o) [] [] P) (λy H d=>ψ y H (WU d)):=by
 intro pins s y H d I h;refine ac' m p (bV (u pins s y H _ I h) λv s1 ⟨x,H1,I1,V,q1⟩=>?_)
 obtain⟨a,t,rfl,q⟩:=q1;cases (show v=Ð a from V)
 have i:∀(f:Obj) (k:Array ĭ) (l:Nat) (B:Hp),Inv c pins y B s1->B a=some (.cI f (.dK t))->f.data=.dict k l->d (Qg a f) B->nc (p' c.prog c.w) c.A (call (.builtin "dict.values") [.ref a]) (λv X=>nc (p' c.prog c.w) c.A (ė v) (PIE c pins y R d) c.xe X) c.xe s1:=by
  intro f k l B J Y K D;obtain⟨L,r,Q,Z,S⟩:=eD J.hok Y K;have T:s1.heap.DictOf (bz c.prog c.w) a L:=let ⟨n,k,u,r⟩:=Q;⟨n,k,l,u,r⟩
  refine ż adx T.typeIs F.entry_dict_values (F.args_dict_values_1 _) (meets_dict_values (bz c.prog c.w) a S) ⟨⟨L,T⟩,?_⟩;generalize E:s1.heap.push {cls:=.type "dict_values",data:=.fields #[.ref a]}=g;have U:∀b n,s1.heap.get? b=some n->g.get? b=some n:=λb n e=>by rw[←E];exact X' _ e
  have hv:g.IsValuesView s1.heap.objs.size a:=by rw[←E];exact⟨_,Ó _ rfl,rfl,rfl⟩
  have M:g.DictAt (bz c.prog c.w) a L l:=Q.at' λn e=>U a n e
  have I3:Inv c pins y B {s1 with heap:=g}:=J.kept (t':=s1.toks) U;refine wpAny_pyIter_values (s:={s1 with heap:=g}) hv M ?_;have I4:=λf=>I3.kept (h':=g.push f) (t':=s1.toks) λb n q=>X' _ q
  refine⟨g.objs.size,[g.objs.size],_,_,B,rfl,I4 _,Av a _ K,?_,λb hb=>?_,D⟩
  .rw[Z]
   exact⟨_,Ó _ rfl,rfl,rfl⟩
  .have z:b=g.objs.size:=by simpa using hb
   rw[z];exact I3.vB (j:=g.objs.size) (O' _) (I3.hok.fresh (O' _))
 rcases q with ⟨C,D⟩|⟨f,C,D⟩
 .obtain⟨N,O,t3⟩:=nr I1 (.inl ⟨t,.inl C⟩)
  obtain⟨f,k,l,u,K,J⟩:=I1.mr C;exact⟨"dict","dict.values",ŝ,adx,afA,N,O,ŗ rfl (ό (i f k l _ J aD K (D f)))⟩
 .obtain⟨N,O,t3⟩:=nr I1 (.inl ⟨t,.inr ⟨f,C⟩⟩)
  obtain⟨u,_,S,L,r,o',k,l,G,x1,x2,x3⟩:=I1.hok a _ C;rw[u]at G;cases G
  exact⟨"dict","dict.values",ŝ,adx,afA,N,O,ŗ rfl (ό (i f k l _ I1 C x2 D))⟩
section
variable{prog:Á}{w:W'}{A:Æ}{E:f'->g'->Prop}{s:g'}{K:Type}[DecidableEq K]{knd:KeyKind prog w K}
theorem wm{kvs k}(a:s.heap.IsKeyIter j N b kvs.length ζ)(x:s.heap.DictAt knd N kvs ζ)(t:kvs[b]?=some (k,U))(y:∀f h',knd.is k f=true->h'.IsKeyIter j N (b+1) kvs.length ζ->Ķ j s.heap h'->ν f {s with heap:=h' }):
  nc (p' prog w) A (İ (.ref j)) ν E s:=by
 obtain⟨o,q,z,p⟩:=id a;obtain⟨C,g,h,B,i,D,u,G⟩:=id x;unfold İ
 refine j' (ř (name:=ž "__next__") a.typeIs ab6
  (Ŝ ab6 a.typeIs afB ?_ (afC _)))
 refine j' (F' ?_);refine j' ?_;refine j' ?_
 first|refine j' (ab7 a.typeIs (F' ?_))|refine j' (ab8 a.typeIs (F' ?_))
 refine j' (afD q p ?_);have l:afE "dict_keyiterator"=false:=by decide
 simp only[l,į,if_false]
 show nc _ _ (if (Ð N==õ)=true then _ else _) _ _ s
 rw[if_neg (show ¬ ((Ð N==õ)=true)from ϑ)]
 refine j' (F' ?_);refine j' (acR h i ?_);have m:g.size=kvs.length:=by rw[←u.length];simp
 rw[if_neg (by rw[m];simp)]
 refine j' (F' ?_);refine j' (afF h i ?_);rw[if_neg (by simp)]
 refine F' ?_;have r:b<kvs.length:=(Ì.mp t).1;have c:b<g.size:=by rw[m];exact r
 have n:knd.is k g[b].key=true:=(u.get? (e:=g[b]) (by simp[c]) t).1
 simp only[show ¬ ((b:Int)<0)from by omega,if_false,ϴ,Array.getElem?_eq_getElem c]
 refine j' ?_
 first|refine j' (ab7 a.typeIs (F' ?_))|refine j' (ab8 a.typeIs (F' ?_))
 refine j' (afG a.typeIs ?_)
 show nc _ _ (ϵ (.ref j) 1 (ÿ ((b:Int)+1)) >>= _) _ _ s
 refine j' (Š q p (by simp) ?_)
 have d:(s.heap.update j (ώ (·.setIfInBounds 1 (ÿ ((b:Int)+1))))).IsKeyIter j N (b+1) kvs.length ζ:=
  ⟨_,Ĝ _ q (adf (Ņ p _)),(adj ..).trans z,by rw[Ņ p];simp[ÿ]⟩
 refine j' (ñ ?_);refine j' (afG (s:={s with heap:=s.heap.update j (ώ (·.setIfInBounds 1 (ÿ ((b:Int)+1))))}) d.typeIs ?_)
 show nc _ _ (pure g[b].key) _ _ _
 exact F' (F' ⟨_,rfl,F' (y _ _ n d (afH ..))⟩)
theorem qm{kvs}(k:A.handled=none)(c:s.heap.IsKeyIter j N b kvs.length ζ)(q:s.heap.DictAt knd N kvs ζ)(r:kvs[b]?=none)(t:∀h' e,afI j s.heap h'->(∃o,h'.get? e=some o/\o.cls=.type "StopIteration")->E (.ref e) {s with heap:=h' }):nc (p' prog w) A (İ (.ref j)) ν E s:=by
 obtain⟨o,l,y,n⟩:=id c;obtain⟨z,p,d,u,f,B,x,C⟩:=id q;unfold İ
 refine j' (ř (name:=ž "__next__") c.typeIs ab6
  (Ŝ ab6 c.typeIs afB ?_ (afC _)))
 refine j' (F' ?_);refine j' ?_;refine j' ?_
 first|refine j' (ab7 c.typeIs (F' ?_))|refine j' (ab8 c.typeIs (F' ?_))
 refine j' (afD l n ?_);have g:afE "dict_keyiterator"=false:=by decide
 simp only[g,į,if_false]
 show nc _ _ (if (Ð N==õ)=true then _ else _) _ _ s
 rw[if_neg (show ¬ ((Ð N==õ)=true)from ϑ)]
 refine j' (F' ?_);refine j' (acR d f ?_);have h:p.size=kvs.length:=by rw[←x.length];simp
 rw[if_neg (by rw[h];simp)]
 refine j' (F' ?_);refine j' (afF d f ?_);rw[if_neg (by simp)]
 refine F' ?_;have i:p.size<=b:=by rw[h];simpa using r
 simp only[show ¬ ((b:Int)<0)from by omega,if_false,ϴ,Array.getElem?_eq_none i]
 refine j' ?_
 first|refine j' (ab7 c.typeIs (F' ?_))|refine j' (ab8 c.typeIs (F' ?_))
 show nc _ _ (ϵ (.ref j) 0 .none >>= _) _ _ s
 refine j' (Š l n (by simp) ?_)
 show nc _ _ (newExc (.type "StopIteration") [] >>= _) _ _ _
 refine j' ?_;simp only[newExc,newTuple];refine j' (Ϻ ?_ (æ _));refine j' (m:=afJ _ _) (wpAny_of_eq (a:=õ) (by first|rfl | (simp only[afJ];rfl)) ?_)
 refine Ϻ ?_ (by size_fits)
 simp only[raiseNew];refine j' (wpAny_handled ?_)
 first|rw[show A.in1.handled=none from k]|rw[k]
 refine j' (F' (wpAny_throw ?_));exact t _ _ (((afH ..).extBut.push _).push _) ⟨_,Ó _ rfl,rfl⟩
theorem LN(n:A.handled=none)(b d)(j:d≠b)(kvs ep):
  Draws prog w A b [b,d] kvs.length (λi v=>∃k x,kvs[i]?=some (k,x)/\knd.is k v=true) (λi h=>h.IsKeyIter b d i kvs.length ep/\h.DictAt knd d kvs ep) where
 live:=λ_ _ a=>let ⟨o,l,_⟩:=a.1;⟨o,l⟩
 frame:=λ_ _ _ a g=>⟨a.1.at λo e=>g b (by simp) o e,let ⟨o,p,l,r⟩:=a.2;⟨o,p,g d (by simp) o l,r⟩⟩
 item:=λi s Q E m a q=>by
  refine wm a.1 a.2 (k:=kvs[i].1) (U:=kvs[i].2) (by simp[m]) λt u g c f=>?_
  exact q _ u s.toks ⟨kvs[i].1,kvs[i].2,by simp[m],g⟩ ⟨c,a.2.extBut f.extBut j⟩ f
 done:=λs Q E a y=>qm n a.1 a.2 (by simp) y
end
open AutoSeq1 (wpAny_loadPart') in
theorem uq[DecidableEq E3](knd:KeyKind I M E3)(l)(kvs)(ep)(e:(l==ì)=false):
  MeetsIn I M (ô.«enumerate.__new__» ⟨[.type "enumerate",.ref l],[]⟩) (λ_ R s=>s.heap.DictAt knd l kvs ep /\
   R (.ok (.ret (.ref (s.heap.push {cls:=.type "dict_keyiterator",data:=.fields #[.ref l,.int 0 0,.int kvs.length 0,.int ep 0]}).objs.size)))
    {s with heap:=(s.heap.push {cls:=.type "dict_keyiterator",data:=.fields #[.ref l,.int 0 0,.int kvs.length 0,.int ep 0]}).push {cls:=.type "enumerate",data:=.fields #[.none,.bool false,.ref s.heap.objs.size,ÿ 0,.none,.none]} }):=
 .of_wp λA R s h=>by
  obtain⟨i,g,d,j,k⟩:=s;obtain⟨a,h⟩:=h
  have f:=sub_enumerate;obtain⟨o,m,b,_⟩:=id a
  wp_walk using ab9 b
  refine wpAny_stack_any λn=>F' ?_
  split
  .rename_i c _ _ _ _ _
   cases (c==ŋ "enumerate")
   .wp_walk using ab9 b,Ž e a
    exact⟨_,rfl,h⟩
   .wp_walk using ab9 b,Ž e a
    exact⟨_,rfl,h⟩
  .wp_walk using ab9 b,Ž e a
   exact⟨_,rfl,h⟩
theorem wt{s:g'}[DecidableEq E3]{knd:KeyKind I M E3}{kvs}(f:(j==ì)=false)(g:s.heap.DictAt knd j kvs b)(h:∀h',ţ h' (s.heap.objs.size+1) s.heap.objs.size 0 .none->h'.IsKeyIter s.heap.objs.size j 0 kvs.length b ->
   (∀a o,s.heap.get? a=some o->h'.get? a=some o)->D5 (.ref (s.heap.objs.size+1)) {s with heap:=h' }):
  nc (p' I M) θ (call (.type "enumerate") [.ref j]) D5 ν s:=by
 refine callType_newIn F.called_enumerate (by decide) (F.typeCall_enumerate_1 _) (F.newCall_enumerate_1 _) (λc=>F.args_object_init_2 c _) F.entry_enumerate_new
  (uq knd j kvs b f) ⟨g,?_⟩
 have d:(s.heap.push {cls:=.type "dict_keyiterator",data:=.fields #[.ref j,.int 0 0,.int kvs.length 0,.int b 0]}).objs.size=s.heap.objs.size+1:=ų ..
 show _/\_
 rw[d]
 have e:ţ ((s.heap.push {cls:=.type "dict_keyiterator",data:=.fields #[.ref j,.int 0 0,.int kvs.length 0,.int b 0]}).push
   {cls:=.type "enumerate",data:=.fields #[.none,.bool false,.ref s.heap.objs.size,ÿ 0,.none,.none]}) (s.heap.objs.size+1) s.heap.objs.size 0 .none:=by
  have:=Ó (s.heap.push {cls:=.type "dict_keyiterator",data:=.fields #[.ref j,.int 0 0,.int kvs.length 0,.int b 0]})
   (o:={cls:=.type "enumerate",data:=.fields #[.none,.bool false,.ref s.heap.objs.size,ÿ 0,.none,.none]}) rfl
  rw[d]at this;exact this
 exact⟨⟨_,e,rfl⟩,h _ e ⟨_,X' _ (Ó _ rfl),rfl,rfl⟩ λa o x=>X' _ (X' _ x)⟩
variable{P8:Option f'->g'->Prop}{ω:b'}
theorem Aw{s}[DecidableEq E3]{knd:KeyKind I M E3}{kvs}(g:θ.handled=none)(e:ţ s.heap j N w U)(a:s.heap.IsKeyIter N ω w kvs.length ζ)(h:s.heap.DictAt knd ω kvs ζ)(i:kvs[w]?=none)(k:∀h',afI N s.heap h'->P8 none {s with heap:=h' }):nc (p' I M) θ (Ć (.ref j)) P8 ν s:=by
 have f:s.TypeIs (.ref j) "enumerate":=⟨_,e,rfl⟩;unfold Ć
 refine j' (ac3 (ř (name:=ž "__next__") f afK
  (Ŝ afK f F.entry_enumerate_next ?_ (F.args_enumerate_next_1 _))))
 show nc _ _ (ś (.ref j) 2 >>= _) _ _ _
 refine j' (Ą e rfl (x:=.ref N) rfl ?_);refine j' (qm g a h i λh' x c d=>?_)
 obtain⟨o,l,m⟩:=d;refine j' (acT (T:="StopIteration") (b:=true) ⟨o,l,m⟩ aeW ?_);exact F' (k _ c)
def Dm(a:b')(o:Obj):It:=
 ⟨λi H=>∃b,H a=some (.cI o (.dK b))/\i<b.length,λi H x d=>∃p,x=.ref p/\H p=none/\∀b,H a=some (.cI o (.dK b))->∃c,b[i]?=some c/\d=upd H p (.tup [.int i,kV c.1]),λi H=>∃b,H a=some (.cI o (.dK b))/\b.length<=i⟩
theorem wu(a e n)(hd:i0.data=.dict D8 w)(y:e≠n):
  Turn I M O (.Tuple Q b o) (Dm a i0) [e,n] e (λi h=>(∃l,ţ h e n i l)/\h.IsKeyIter n a i D8.size w) where
 mem:=by simp
 obj:=λi h t f u=>by
  obtain⟨⟨l,j⟩,i0,U,c,d⟩:=t;rcases È.mp u with z|z
  .subst z
   exact⟨_,j,λv z=>by
    have z':Data.fields _=Data.cell v:=z;cases z'⟩
  .have z:f=n:=by simpa using z
   subst z;exact⟨i0,U,λv z=>by rw[d]at z;cases z⟩
 keep:=λi h V t k=>by
  obtain⟨⟨l,j⟩,i0,U,r⟩:=t;exact⟨⟨l,k e (by simp) _ j⟩,i0,k n (by simp) i0 U,r⟩
 item:=by
  intro X Y Z hK hc i pins s σ H E g C t hg;subst Y Z hK;obtain⟨m,F,hx⟩:=hg;obtain⟨⟨l,j⟩,p⟩:=t;obtain⟨vs,r,da,S,_⟩:=eD g.hok F hd;have G:m[i]?=some m[i]:=î hx;obtain⟨q,hv,rq⟩:=dE r G;have J:H a≠none:=by rw[F];simp
  have K:a≠n:=λz=>J (by rw[z];exact(C n (by simp)).1)
  have a0:e≠a:=λz=>J (by rw[←z];exact(C e (by simp)).1)
  rw[S]at p;have B:i<vs.length:=(Ì.mp hv).1;refine wpAny_pyNext_enum_itemD (LN (knd:=bz X.prog X.w) (A:=X.A.in1) (g.ok.hd hc) n a K vs w) j ⟨p,da⟩ B y (by simp[y,a0]) λT V N x so si tu sz kp=>?_
  obtain⟨k',x',x,b0⟩:=x;rw[hv]at x;cases x
  refine⟨_,rfl,afo (s:={s with heap:=V,toks:=N+1}) so λD se sb=>?_⟩
  have c0:∀f i0,f∉[e,n]->s.heap.get? f=some i0->D.get? f=some i0:=λf i0 u q=>by
   have h1:f≠e:=λz=>u (by simp[z])
   have h3:f≠n:=λz=>u (by simp[z])
   exact sb.extBut f i0 h1 (kp f i0 h1 h3 q)
  have P:e<s.heap.objs.size:=N' j;have d0:D.get? s.heap.objs.size=some {cls:=.type "tuple",data:=.seq #[.int i N,T]}:=sb.extBut _ _ (ä P) tu;have e0:∃l,ţ D e n ((i+1:Nat):Int) l:=⟨T,by rw[show((i+1:Nat):Int)=(i:Int)+1 by omega];exact se⟩
  refine⟨.ref s.heap.objs.size,upd H s.heap.objs.size (.tup [.int i,kV m[i].1]),?_,rfl,⟨_,rfl,g.hok.fresh (O' _),λj0 R=>?_⟩,⟨e0,?_⟩,λf u=>?_⟩
  .have g0:Ĥ D s.heap.objs.size [Ŋ i N,T].toArray:=⟨_,d0,rfl,_,rfl⟩
   have h0:cL X.prog X.w (upd H s.heap.objs.size (.tup [.int i,kV m[i].1])) D s.heap.objs.size (.tup [.int i,kV m[i].1]):=⟨by rw[ò];simp,[.int i N,T],.cons ⟨_,rfl⟩ (.cons (by rw[rq.1];exact jM b0) .nil),g0⟩
   have:=fO (s:=s) (L:=D) (b:=N+1) g C c0 (O' _) h0;exact this
  .rw[F]at R;cases R
   exact⟨m[i],G,rfl⟩
  .rw[S];exact si.1.extBut sb.extBut (Ç y)
  .have B:f<s.heap.objs.size:=by
    rcases È.mp u with z|z
    .subst z;exact P
    .have z:f=n:=by simpa using z
     subst z;obtain⟨i0,q,_⟩:=p;exact N' q
   rw[ax (U' B)];exact(C f u).1
 done:=by
  intro X Y Z hK hc i pins s σ H E g C t hg;subst Y Z hK;obtain⟨m,F,hx⟩:=hg;obtain⟨⟨l,j⟩,p⟩:=t;obtain⟨vs,r,da,S,_⟩:=eD g.hok F hd;obtain⟨f0,f1,f2,f3,f4,f5⟩:=C n (by simp)
  have hl:=r.length;rw[S]at p;exact Aw (g.ok.hd hc) j p da (Ģ (B' (R' hl.symm) hx)) λV eb=>⟨rfl,g.turned (b:=s.toks) (λf i0 u e=>eb f i0 u e) f0 f1 f3 f4 f5⟩
 self:=λ_ _ _ _ _ t h=>by
  obtain⟨⟨l,j⟩,_⟩:=t;exact ab5 j h
def Qh(K:K')(d:TA):TI:=λe H R=>d e H λf c=>∃a,f=[.ref a]/\(((∃g,ly K c a g)/\R (Ite K a) c)\/∃b,(c a=some (.dK b)/\∀o,R (Dm a o) (upd c a (.cI o (.dK b))))\/∃o,c a=some (.cI o (.dK b))/\R (Dm a o) c)
theorem Dp(O:Gl c "enumerate")(S:c.mg "enumerate"=none)(T:PA c [n] E5)(U:D' [n] c.env=[(false,eval n c.env)]):
  PI c (.Tuple Q b o) (.Call (.Name "enumerate" P) [n] [] Q3) (Qh c.K E5):=by
 intro pins s y H R I h;refine Call_ (gx I O S boot_enumerate (Ļ (bV (T Q3 pins s y H _ I h) λus s1 X=>?_) U rfl));obtain⟨G,Y,k,Z,q1⟩:=X
 obtain⟨l,rfl,q⟩:=q1
 have J:∀{f},L2.Inv c pins y f s1->∀a∈[s1.heap.objs.size+1,s1.heap.objs.size],lV c pins f a:=λ{f} i a hb=>by
  have p:s1.heap.objs.size<=a:=by
   rcases È.mp hb with z|z
   .rw[z];exact ã _
   .have z:a=s1.heap.objs.size:=by simpa using z
    rw[z];exact O' _
  exact i.vB p (i.hok.fresh p)
 cases Z with
 |cons r rr=>
  cases rr;cases r
  have j:∀(g:Obj) (d:Array ĭ) (m:Nat) (f:Hp) (e:List (Key×V)),L2.Inv c pins y f s1->f l=some (.cI g (.dK e))->g.data=.dict d m->R (Dm l g) f->nc (p' c.prog c.w) c.A (call (.type "enumerate") [.ref l]) (λv s2=>nc (p' c.prog c.w) c.A (ė v) (PIE c pins y (.Tuple Q b o) R) c.xe s2) c.xe s1:=by
   intro g d m f e i e2 B t;obtain⟨G,r,da,L,M⟩:=eD i.hok e2 B;refine wt M da λD u E F=>ab5 (s:={s1 with heap:=D}) u ?_
   exact⟨s1.heap.objs.size+1,[s1.heap.objs.size+1,s1.heap.objs.size],_,_,f,rfl,i.kept (t':=s1.toks) F,wu l _ _ B (adt _),⟨⟨_,u⟩,by rw[L];exact E⟩,J i,t⟩
  rcases q with ⟨⟨xs,hq⟩,q⟩|⟨e,⟨C,t⟩|⟨g,C,t⟩⟩
  .obtain⟨a0,rv,pl,L⟩:=k.list hq
   refine call_enumerate_list pl.isList λD u E sz F=>ab5 (s:={s1 with heap:=D}) u ?_
   exact⟨s1.heap.objs.size+1,[s1.heap.objs.size+1,s1.heap.objs.size],_,_,Y,rfl,k.kept (t':=s1.toks) F,An l _ _ (adt _),⟨⟨_,u⟩,E⟩,J k,q⟩
  .obtain⟨g,d,m,N,B,i⟩:=k.mr C
   exact j g d m _ e i aD B (t g)
  .obtain⟨N,_,M,G,r,o',d,m,x,b,x2,x3⟩:=k.hok l _ C
   rw[N]at x;cases x
   exact j g d m _ e k C x2 t
theorem ur{s}(I:Inv c G F2 d s)(i:∀a∈z,lV c G d a)(k:∀a o,a∉z->s.heap.get? a=some o->L.get? a=some o):Inv c G F2 d {s with heap:=L,toks:=b}:=by
 have j:∀a u,d a=some u->a∉z:=λa u e f=>by rw[(i a f).1]at e;exact bD e
 refine I.step (λa l=>?_) (λa o _ _ h e _=>k a o h e) (λa o _ _ h e _=>⟨_,k a o h e⟩) (λ_ _ _ _ n=>n)
  (λa o h e=>⟨o,k a o h e⟩) (λ_ _ e=>e) (λ_ _ _ e=>e) (λa D e=>⟨#[],by simp_all⟩) (λm p=>?_) (λa u e=>?_) I.bare
 .obtain⟨E,t,F,w,x,y⟩:=i a l
  exact⟨w,t,x,y⟩
 .obtain⟨o,A,B,C,r⟩:=p
  exact⟨o,A,B,k _ o (λf=>(i _ f).2.1 rfl) C,r⟩
 .refine(I.hok a u e).stay (λg v h q=>k g v ?_ q) (λ_ q=>q) λ_ _ q=>q
  grind
theorem Dq(h:Rd d j (.lst S))(h':Rd d j (.lst y6)):S=y6:=by
 rcases h with h|⟨o,h⟩<;>rcases h' with h' |⟨a,h'⟩<;>cases h.symm.trans h'<;>rfl
theorem kT(I:Inv c G F2 d x)(h:Rd d j (.lst S)):∃a,Vals S a/\x.heap.IsList j a.toArray:=by
 obtain⟨a,b,e,f⟩:=I.list (lG h);exact⟨_,b,e.isList⟩
def WV(a c:b'):It:=
 ⟨λi H=>∃b d,Rd H a (.lst b)/\Rd H c (.lst d)/\b.length=d.length/\i<b.length,λi H x e=>∃p,x=.ref p/\H p=none/\∀b d,Rd H a (.lst b)->Rd H c (.lst d)->∃u v,b[i]?=some u/\d[i]?=some v/\e=upd H p (.tup [u,v]),λi H=>∃b d,Rd H a (.lst b)/\Rd H c (.lst d)/\b.length<=i⟩
variable{B7 M6 P1 y4:b'}
theorem Dr(D:ğ j N ω P1 y4 M6 B7):
  Turn I M O (.Tuple Q b o) (WV M6 B7) [j,N,ω,P1,y4] j (λi h=>WL h j N ω P1 y4 M6 B7 .none i) where
 mem:=by simp
 obj:=λi h d q f=>by
  simp only[È,Ĳ,or_false]at f;rcases f with rfl|rfl|rfl|rfl|rfl
  .exact⟨_,d.hz,λv e=>by cases e⟩
  .exact⟨_,d.hTI,λv e=>by cases e⟩
  .obtain⟨x,y,e⟩:=d.hTO
   simp_all
  .exact rD d.h1
  .exact rD d.h2
 keep:=λi h h' d k=>⟨k j (by simp) _ d.hz,k N (by simp) _ d.hTI,let ⟨x,y,e⟩:=d.hTO;⟨x,y,k ω (by simp) _ e⟩,d.h1.at λa e=>k P1 (by simp) a e,d.h2.at λa e=>k y4 (by simp) a e⟩
 item:=by
  intro X P R S hc i pins s σ H E c A d T;subst P R S;obtain⟨U,V,B,C,hl,hi⟩:=T;obtain⟨Y,F,sq⟩:=kT c B;obtain⟨Z,r,l⟩:=kT c C;have l1:=F.length;have l2:=r.length;obtain⟨G,m⟩:∃u,U[i]?=some u:=⟨U[i]'(by omega),î _⟩
  obtain⟨J,t⟩:∃v,V[i]?=some v:=⟨V[i]'(M' (qP m) (R' hl)),î _⟩;obtain⟨u,hu,ru⟩:=Vals.get F m;obtain⟨v,hv,a0⟩:=Vals.get r t;have g:j<s.heap.objs.size:=N' d.hz
  have lt:∀q∈[j,N,ω,P1,y4],q<s.heap.objs.size:=λq f=>by
   simp only[È,Ĳ,or_false]at f;rcases f with rfl|rfl|rfl|rfl|rfl
   .exact g
   .exact N' d.hTI
   .obtain⟨x,y,e⟩:=d.hTO;exact N' e
   .obtain⟨a,e,_⟩:=rD d.h1;exact N' e
   .obtain⟨a,e,_⟩:=rD d.h2;exact N' e
  refine xe d.hTO λ_ zz=>xe zz λ_ p=>aeS D d.hz d.hTI p d.h1 d.h2 sq l (by simpa using hu) (by simpa using hv) λh' b0 z c0 d0 pr sz kp=>?_
  refine⟨_,rfl,wpAny_letOwnedTupleGo_zip b0 λK e0 sb=>?_⟩
  have up:=λq a n e=>sb.extBut q a n e
  have g0:∀q a,q∉[j,N,ω,P1,y4]->s.heap.get? q=some a->K.get? q=some a:=λq a f e=>by
   simp_all
  refine⟨.ref s.heap.objs.size,upd H s.heap.objs.size (.tup [G,J]),?_,rfl,⟨_,rfl,c.hok.fresh (O' _),λm0 o0 h0 i0=>?_⟩,⟨e0,up _ _ D.TIz (kp _ _ D.TIz D.TITO D.TIi1 D.TIi2 d.hTI),⟨_,_,up _ _ D.TOz z⟩,c0.at λa e=>up _ a D.i1z e,d0.at λa e=>up _ a D.i2z e⟩,λq f=>?_⟩
  .have j0:Ĥ K s.heap.objs.size [u,v].toArray:=⟨_,(up _ _ (ä g) pr),rfl,_,rfl⟩
   have l0:cL X.prog X.w (upd H s.heap.objs.size (.tup [G,J])) K s.heap.objs.size (.tup [G,J]):=⟨by rw[ò];simp,[u,v],.cons ru (.cons a0 .nil),j0⟩
   have:=fO (s:=s) (L:=K) (b:=s.toks) c A g0 (O' _) l0;exact this
  .obtain rfl:=Dq B h0
   obtain rfl:=Dq C i0;exact⟨G,J,m,t,rfl⟩
  .rw[ax (U' (lt q f))]
   exact(A q f).1
 done:=by
  intro X P R S hc i pins s σ H E c A d T;subst P R S;obtain⟨U,V,B,C,hi⟩:=T;obtain⟨Y,F,sq⟩:=kT c B;obtain⟨Z,_,l⟩:=kT c C;have l1:=F.length;refine xe d.hTO λ_ zz=>xe zz λ_ p=>aeV (c.ok.hd hc) D d.hz d.hTI p d.h1 d.h2 sq l (.inl (by simpa using Ģ (B' (R' l1.symm) hi))) λh' kp=>⟨rfl,?_⟩
  exact ur (b:=s.toks) c A (by simp_all)
 self:=λ_ _ _ _ _ d h=>ac5 d.hz h
theorem Ax:Č "zip"=some (.type "zip"):=by rfl
def WW(d:TA):TI:=λe H R=>d e H λf b=>∃a c g h,f=[.ref a,.ref c]/\Rd b a (.lst g)/\Rd b c (.lst h)/\R (WV a c) b
theorem LO(t:Gl c "zip")(u:c.mg "zip"=none)(w:PA c [n,R] E5)(x:D' [n,R] c.env=(false,eval n c.env)::D' [R] c.env)(i:(À Q3 (D' [R] c.env)).any (·.1)=false):
  PI c (.Tuple Q b o) (.Call (.Name "zip" P) [n,R] [] Q3) (WW E5):=by
 intro pins s y H j I h;refine Call_ (gx I t u Ax (Ļ (bV (w _ _ s y H _ I h) λM g ⟨N,H1,I1,k,q1⟩=>?_) x i) (by decide) (by decide))
 obtain⟨O,S,T,U,rfl,z,A,q⟩:=q1;obtain⟨u1,u2,rfl,k,B⟩:=k.two;cases k;cases B;obtain⟨C,V,sq⟩:=kT I1 z;obtain⟨D,E,d⟩:=kT I1 A;have p:∀{l:b'}{zs:Array _},g.heap.IsList l zs->l<g.heap.objs.size:=λ⟨m,e,_⟩=>N' e
 refine call_zip_2 sq d λX r F G J K _ L=>ac5 r ?_
 refine⟨_,_,_,_,H1,rfl,(I1.kept (t':=g.toks) L),Dr (tX (p sq) (p d)),⟨r,F,⟨_,_,G⟩,J,K⟩,λa Y=>?_,q⟩
 have f:g.heap.objs.size<=a:=by
  grind
 exact I1.vB f (I1.hok.fresh f)
@[simp] theorem Qi:lY .non=some false:=rfl
@[simp] theorem Ul:lY (.bl H)=some H:=rfl
@[simp] theorem Qj:lY (.int J)=some (J != 0):=rfl
@[simp] theorem Qk:lY (.lst q)=some (!q.isEmpty):=rfl
@[simp] theorem Ql:lY (.tup q)=some (!q.isEmpty):=rfl
def GO(o:Bool)(f:List D->D):D->Out Rs
 |.tup a=>if small a.length=true then .ok (o,f a)else .bad
 |_=>.bad
@[simp] theorem Qm{f}:GO H f (.tup q)=if small q.length=true then .ok (H,f q)else .bad:=rfl
@[simp] theorem Um:gg .Add (.int J) (.int P0)=.ok (false,.int (J+P0)):=rfl
@[simp] theorem Uo:gg .Sub (.int J) (.int P0)=.ok (false,.int (J - P0)):=rfl
@[simp] theorem Up:gg .Mult (.int J) (.int P0)=if (kP J||kP P0)=true then .ok (false,.int (J*P0))else .bad:=rfl
@[simp] theorem Uq:gg .FloorDiv (.int J) (.int P0)=if (decide (0<P0)&&decide (P0<1073741824))=true then .ok (false,.int (J / P0))else .bad:=rfl
@[simp] theorem Ur:gg .Mod (.int J) (.int P0)=if decide (0<P0)=true then .ok (false,.int (J%P0))else .bad:=rfl
@[simp] theorem Us:gg .Pow (.int J) (.int P0)=if (decide (0<=P0)&&decide (P0<=1000)&&decide (J.natAbs<2 ^ 64))=true then .ok (false,.int (J ^ P0.toNat))else .bad:=rfl
@[simp] theorem Qn:gg .Add (.str h) (.str B)=if small (h.length+B.length)=true then .ok (false,.str (h++B))else .bad:=rfl
@[simp] theorem Qo:gg .Add (.lst q) (.lst j5)=if small (q.length+j5.length)=true then .ok (true,.lst (q++j5))else .bad:=rfl
@[simp] theorem WX:gh .Eq m η=if (aM 8 m&&aM 8 η)=true then .ok (eJ m η)else .bad:=rfl
@[simp] theorem LP:gh .NotEq m η=if (aM 8 m&&aM 8 η)=true then .ok (!eJ m η)else .bad:=rfl
@[simp] theorem WY:gh .Lt (.int J) (.int P0)=.ok (decide (J<P0)):=rfl
@[simp] theorem WZ:gh .LtE (.int J) (.int P0)=.ok (decide (J<=P0)):=rfl
@[simp] theorem cmp_gt:gh .Gt (.int J) (.int P0)=.ok (decide (P0<J)):=rfl
@[simp] theorem W8:gh .GtE (.int J) (.int P0)=.ok (decide (P0<=J)):=rfl
@[simp] theorem W_:gh .In m η=inD m η:=rfl
@[simp] theorem Ut:gh .NotIn m η=inD m η >>= λb=>.ok (!b):=rfl
@[simp] theorem Xa:gh .Is m η=isD m η:=rfl
@[simp] theorem Uu:gh .IsNot m η=isD m η >>= λb=>.ok (!b):=rfl
@[simp] theorem Xb:aM b .non=true:=by cases b<;>rfl
@[simp] theorem abL:aM b (.bl H)=true:=by cases b<;>rfl
@[simp] theorem Xc:aM b (.int J)=true:=by cases b<;>rfl
@[simp] theorem Xd:aM b (.str h)=true:=by cases b<;>rfl
@[simp] theorem Xe:aM (b+1) (.lst q)=q.all (aM b):=rfl
@[simp] theorem Xf:aM (b+1) (.tup q)=q.all (aM b):=rfl
@[simp] theorem eq_int:eJ (.int J) (.int P0)=(J==P0):=rfl
@[simp] theorem abM:eJ (.bl H) (.bl E4)=(H==E4):=rfl
@[simp] theorem eq_str:eJ (.str h) (.str B)=(h==B):=rfl
@[simp] theorem Xg:eJ (.lst q) (.lst j5)=eO q j5:=rfl
@[simp] theorem Xh:eJ (.tup q) (.tup j5)=eO q j5:=rfl
@[simp] theorem Uv:eO [] []=true:=rfl
@[simp] theorem Qp:eO (m::q) (η::j5)=(eJ m η&&eO q j5):=rfl
@[simp] theorem Xi:eO [] (m::q)=false:=rfl
@[simp] theorem Xj:eO (m::q) []=false:=rfl
theorem yq(a:small h.length=true)(e:L2.jH h.cps.toList J=some b):vV (.str h) (.int J)=.ok (false,.str (bb b)):=by
 simp only[vV,a,if_pos,e]
variable{Y9 Z9:Option Int}
@[simp] theorem Uw:Cy (.lst q) Y9 Z9=.ok (true,.lst (ef q Y9 Z9)):=rfl
@[simp] theorem Ux:Cy (.str h) Y9 Z9=if small h.length=true then .ok (false,.str ⟨(ef h.cps.toList Y9 Z9).toArray⟩)else .bad:=rfl
@[simp] theorem Uy:ji .len (.tup [.lst q])=.ok (false,.int q.length):=rfl
@[simp] theorem Uz:ji .len (.tup [.tup q])=.ok (false,.int q.length):=rfl
@[simp] theorem len_str:ji .len (.tup [.str h])=if small h.length=true then .ok (false,.int h.length)else .bad:=rfl
noncomputable def Ds(f:List Bool->Bool):Option (List Bool)->Out Rs
 |some bs=>.ok (false,.bl (f bs))
 |none=>.bad
@[simp] theorem Oz{f}:Ds f (some va)=.ok (false,.bl (f va)):=rfl
@[simp] theorem UA:ji .all (.tup [.lst q])=Ds (λbs=>bs.all id) (gi q):=rfl
@[simp] theorem UB:ji .any (.tup [.lst q])=Ds (λbs=>bs.any id) (gi q):=rfl
@[simp] theorem Qq:ji .list (.tup [.lst q])=.ok (true,.lst q):=rfl
@[simp] theorem Qr:ji .list (.tup [.tup q])=.ok (true,.lst q):=rfl
@[simp] theorem OA:ji .tuple (.tup [.lst q])=.ok (false,.tup q):=rfl
@[simp] theorem OB:ji .tuple (.tup [.tup q])=.ok (false,.tup q):=rfl
@[simp] theorem int_int:ji .int (.tup [.int J])=.ok (false,.int J):=rfl
@[simp] theorem Xk:ji .int (.tup [.bl H])=.ok (false,.int (if H then 1 else 0)):=rfl
@[simp] theorem UC:ji .min (.tup [.int J,.int P0])=.ok (false,.int (if P0<J then P0 else J)):=rfl
@[simp] theorem UD:ji .max (.tup [.int J,.int P0])=.ok (false,.int (if P0>J then P0 else J)):=rfl
@[simp] theorem Xl:Cz .non P5=some false:=rfl
@[simp] theorem abN{t}:Cz (.bl H) t=some (t==.bool||t==.int):=rfl
@[simp] theorem ty_int:Cz (.int J) P5=some (P5==.int):=rfl
@[simp] theorem ty_str:Cz (.str h) P5=some (P5==.str):=rfl
@[simp] theorem Xm:Cz (.lst q) P5=some (P5==.list):=rfl
@[simp] theorem Xn:Cz (.tup q) P5=some (P5==.tuple):=rfl
@[simp] theorem Xo{a}:Cz (.dct a q) P5=some (P5==.dict):=rfl
theorem bP(h:b<=100000):small b=true:=by
 unfold small;rw[decide_eq_true_eq,ò];omega
theorem jW(a : -(2 ^ 64)<J)(b:J<2 ^ 64):kP J=true:=decide_eq_true (by omega)
theorem iE(a : -(2 ^ 62)<J)(b:J<2 ^ 62):vW J=true:=decide_eq_true (by omega)
theorem LQ{α}{xs:List α}(b:0<=J)(c:J<xs.length):∃x,x∈xs/\L2.jH xs J=some x:=by
 have a:J.toNat<xs.length:=by omega
 have h:=L2.dB (î a)
 grind
@[simp] theorem in_str:inD (.str h) (.str B)=.ok (x_ h B):=rfl
def iF(n a):=jU n a
theorem rR:∀{a}{i:Nat}{d},(intsFrom a b)[i]?=some d->d=.int (a+i)/\i<b:=by
 induction b with
 |zero=>intro a i d h;simp[intsFrom]at h
 |succ b c=>
  intro a i d h;cases i with
  |zero=>simp[intsFrom]at h;simp_all
  |succ i=>
   simp[intsFrom]at h
   grind
noncomputable def L1(xs:List Str):D:=.lst (xs.map .str)
def LL(a:List (List Str)):D:=.lst (a.map L1)
theorem Dt(xs:List E3)(k:Nat):ef xs (some k) none=xs.drop k:=by
 unfold ef;rw[HT.tJ,HT.mq];rcases ady k _ with h|h
 .rw[afL h]
  exact ab3 (by simp)
 simp_all
theorem rS(xs:List E3)(k:Nat):ef xs none (some k)=xs.take k:=by
 unfold ef;rw[HT.tJ,HT.mq];simp
theorem Du(xs:List E3)(k m:Nat):ef xs (some k) (some m)=(xs.drop k).take (m - k):=by
 unfold ef;rw[HT.mq,HT.mq];rcases ady k _ with h|h
 .rw[afL h]
  rcases ady m xs.length with h' |h'
  .simp_all
  .rw[Nat.min_eq_right h',ab3 (by simp),ab3 (by simp;omega)]
 simp_all
@[simp] theorem abO(xs:List E3):ef xs (some 1) none=xs.tail:=by rw[show(1)=((1:Nat):Int)from rfl,Dt];simp
theorem Hb(n)(xs:List Str):(xs.map D.str).all (aM n)=true:=by
 simp
theorem Hc(xs:List Str)(n):((xs.map D.str).any λy=>eJ y (.str n))=decide (n∈xs):=by
 induction xs with
 |nil=>rfl
 |cons x xs a=>
  simp only[Ü,ĝ,a,eq_str,È]
  grind
theorem Hd(xs:List Str)(n):inD (.str n) (.lst (xs.map .str))=.ok (decide (n∈xs)):=by
 have:inD _ (.lst _)=if aM 8 (.str n)&&(xs.map D.str).all _ then .ok _ else .bad:=rfl
 rw[this,Hc];simp
theorem He(xs a:List Str):eO (xs.map .str) (a.map .str)=decide (xs=a):=by
 induction xs generalizing a with
 |nil=>cases a<;>simp
 |cons x xs b=>
  cases a with
  |nil=>simp
  |cons y a=>
   simp
   grind
theorem Qs(xs a):eJ (L1 xs) (L1 a)=decide (xs=a):=He xs a
theorem Qt(n xs):aM (n+1) (L1 xs)=true:=Hb n xs
noncomputable def freeOf(a:List (List Str)):List Str->Option Str
 |[]=>none
 |n::_=>if ∃t∈a,n∈t.tail then none else some n
def free(a:List (List Str)):=a.findSome? (freeOf a)
@[simp] theorem Xp:isD (.str h) .non=.ok false:=rfl
@[simp] theorem UE:isD .non .non=.ok true:=rfl
@[simp] theorem Xq:isD (.int J) .non=.ok false:=rfl
@[simp] theorem Xr:isD (.lst q) .non=.ok false:=rfl
theorem any_rows(a:List (List Str)):gi (a.map L1)=some (a.map λr=>!r.isEmpty):=by
 induction a with
 |nil=>rfl
 |cons r a b=>
  simp only[Ü,gi,b];simp[L1]
abbrev Fn:=List D->Out Rs
def jX(a:Int->Int->Int->Int)(F:Fn):=∀c t m,0<=t->t<100000->0<m->0<=a c t m/\a c t m<m/\F [.int c,.int t,.int m]=.ok (false,.int (a c t m))
noncomputable def SC(a:List Int):D:=.lst (a.map .int)
def jk(b:List Int->Nat->Int)(F:Fn):=∀a (k:Nat),F [SC a,.int k]=.ok (false,.int (b a k))
theorem ints_map(a n):intsFrom a n=(Ñ n).map λ(i:Nat)=>D.int (a+i):=by
 apply adz;intro i
 by_cases h:i<n
 .have b:i<(intsFrom a n).length:=by rwa[iF]
  have e:=(rR (î b)).1
  simp_all
 .rw[Ģ (by rw[iF];omega),Ģ (by simp;omega)]
theorem Ay(n):intsFrom 0 n=(Ñ n).map λ(i:Nat)=>D.int i:=by
 rw[ints_map];simp
noncomputable def abc:Str:="abcdefghijklmnopqrstuvwxyz"
theorem LR:∀q,q<26->abc.cps.toList[q]?=some (97+q):=by decide
theorem rT(a:0<=J)(b:J<26):vV (.str abc) (.int J)=.ok (false,.str (bb (97+J.toNat))):=by
 refine yq (bP (by decide)) ?_
 have:=L2.dB (LR J.toNat (by omega))
 grind
noncomputable def bs(a:Int->Int->Int->Int)(c:Int):List D:=(Ñ 8).map λ(i:Nat)=>.int (a c i 26)
@[simp] theorem UG:ji .list (.tup [L1 l])=.ok (true,L1 l):=rfl
variable{E:List (List Str)}
@[simp] theorem UH:ji .list (.tup [LL E])=.ok (true,LL E):=rfl
@[simp] theorem abP:inD (.str h) (L1 l)=.ok (decide (h∈l)):=Hd l h
@[simp] theorem abQ:Cz (L1 l) P5=some (P5==.list):=rfl
@[simp] theorem Xs:aM (b+1) (L1 l)=true:=Qt b l
@[simp] theorem Xt:eJ (L1 l) (L1 M0)=decide (l=M0):=Qs l M0
@[simp] theorem abR:isD (.bl H) (.bl E4)=.ok (H==E4):=rfl
open AutoSeq1 (wpAny_loadPart')
structure Xu where
 name:Str
 qual:Str
 params:acH
 body:List J'
 scope:V'
 ps:List Str
 cn:List Str
class kU where
 tab:Nat->Xu
 ta:Nat->b'
inductive Cell where
 |lst (ds:List D)
 |dK (kvs:List (Key×D))
 |dT (kvs:List (List Key×D))
 |dF (kvs:List (Key×D))
 |ins (C:Str) (fs:List (Str×D))
 |fn (j:Nat) (Az:List D)
 |tb (j:Nat) (p:T') (b:Bool)
abbrev az:=List Cell
inductive aw (α:Type) where
 |ok (a:α) (Ω:az)
 |exc (x:D) (Ω:az)
 |bad
noncomputable def aw.bind{α β}:aw α->(α->az->aw β)->aw β
 |.ok a Ω,f=>f a Ω
 |.exc x Ω,_=>.exc x Ω
 |.bad,_=>.bad
abbrev aZ:=List (Option D)
inductive aE {α β:Type} (R:α->β->Prop):List α->List β->Prop where
 |nil:aE R [] []
 |cons {a b as bs}:R a b->aE R as bs->aE R (a::as) (b::bs)
namespace aE
section
variable{α β:Type}{R S:α->β->Prop}
theorem length:∀{as}{bs},aE R as bs->bs.length=as.length
 |_,_,.nil=>rfl
 |_,_,.cons _ t=>by rw[Ā,Ā,length t]
theorem imp(h:∀a b,R a b->S a b):∀{as}{bs},aE R as bs->aE S as bs
 |_,_,.nil=>.nil
 |_,_,.cons r t=>.cons (h _ _ r) (imp h t)
theorem get:∀{as}{bs}{i:Nat}{a},aE R as bs->as[i]?=some a->∃b,bs[i]?=some b/\R a b
 |_,_,_,_,.nil,e=>by simp at e
 |_,_,0,_,.cons r _,e=>by simp_all
 |_,_,i+1,a,.cons _ t,e=>by
  refine bx (get t (by simpa using e)) λu c d=>?_
  simp_all
theorem Qu:∀{as}{bs}{i:Nat}{b},aE R as bs->bs[i]?=some b->∃a,as[i]?=some a/\R a b
 |_,_,_,_,.nil,e=>by simp at e
 |_,_,0,_,.cons r _,e=>by simp_all
 |_,_,i+1,a,.cons _ t,e=>by
  refine bx (Qu t (by simpa using e)) λu c d=>?_
  simp_all
theorem append:∀{as a}{bs b},aE R as bs->aE R a b->aE R (as++a) (bs++b)
 |_,_,_,_,.nil,h=>h
 |_,_,_,_,.cons r t,h=>.cons r (append t h)
theorem one{a b}(h:R a b):aE R [a] [b]:=.cons h .nil
theorem take:∀{as}{bs} n,aE R as bs->aE R (as.take n) (bs.take n)
 |_,_,0,_=>.nil
 |_,_,n+1,.nil=>.nil
 |_,_,n+1,.cons r t=>.cons r (take n t)
theorem drop:∀{as}{bs} n,aE R as bs->aE R (as.drop n) (bs.drop n)
 |_,_,0,h=>h
 |_,_,n+1,.nil=>.nil
 |_,_,n+1,.cons r t=>drop n t
theorem eraseIdx:∀{as}{bs} n,aE R as bs->aE R (as.eraseIdx n) (bs.eraseIdx n)
 |_,_,n,.nil=>by exact .nil
 |_,_,0,.cons _ t=>t
 |_,_,n+1,.cons r t=>.cons r (eraseIdx n t)
theorem nil_inv{bs}(h:aE R [] bs):bs=[]:=by cases h;rfl
theorem cons_inv{a as bs}(h:aE R (a::as) bs):∃b r,bs=b::r/\R a b/\aE R as r:=by
 cases h with
 |cons r t=>grind
end
end aE
mutual
noncomputable def aq(α:List b')(Z:b'->Prop)(H:Hp):D->V->Prop
 |.non,v=>v=.non
 |.bl b,v=>v=.bl b
 |.int i,v=>v=.int i
 |.str x,v=>v=.str x
 |.lst d,v=>∃a c,v=.ref a/\Z a/\Rd H a (.lst c)/\gp α Z H d c
 |.tup d,v=>∃a c,v=.ref a/\Z a/\H a=some (.tup c)/\gp α Z H d c
 |.dct _ _,_=>True
 |.ref n,v=>∃a,α[n]?=some a/\v=.ref a
noncomputable def gp(α:List b')(Z:b'->Prop)(H:Hp):List D->List V->Prop
 |[],a=>a=[]
 |d::b,a=>∃v r,a=v::r/\aq α Z H d v/\gp α Z H b r
end
theorem bZ{α Z H}:∀{b}{a},gp α Z H b a↔aE (aq α Z H) b a
 |[],a=>⟨λh=>by subst h;exact .nil,λh=>h.nil_inv⟩
 |d::b,a=>by
  constructor
  .rintro⟨v,r,rfl,c,e⟩
   exact .cons c (bZ.mp e)
  .intro h
   obtain⟨v,r,rfl,c,e⟩:=h.cons_inv;exact⟨v,r,rfl,c,bZ.mpr e⟩
mutual
theorem aq.mono{α b:List b'}{Z Z':b'->Prop}{H j:Hp}(p:∀(n:Nat) (a:b'),α[n]?=some a->b[n]?=some a)(k:∀a o,Z a->H a=some o->j a=some o)(z:∀a,Z a->Z' a):∀{d:D}{v:V},aq α Z H d v->aq b Z' j d v
 |.non,_,h=>by simpa only [aq]using h
 |.bl _,_,h=>by simpa only [aq]using h
 |.int _,_,h=>by simpa only [aq]using h
 |.str _,_,h=>by simpa only [aq]using h
 |.lst l,v,h=>by
  simp only[aq]at h ⊢;obtain⟨a,f,e,c,g,i⟩:=h;exact⟨a,f,e,z a c,rK (λo=>k a o c) g,gp.mono p k z i⟩
 |.tup l,v,h=>by
  simp only[aq]at h ⊢;obtain⟨a,f,e,c,g,i⟩:=h;exact⟨a,f,e,z a c,k a _ c g,gp.mono p k z i⟩
 |.dct m l,v,h=>by simp only[aq]
 |.ref n,v,h=>by
  simp only[aq]at h ⊢;obtain⟨a,e,h⟩:=h;exact⟨a,p n a e,h⟩
theorem gp.mono{α b:List b'}{Z Z':b'->Prop}{H g:Hp}(p:∀(n:Nat) (a:b'),α[n]?=some a->b[n]?=some a)(k:∀a o,Z a->H a=some o->g a=some o)(z:∀a,Z a->Z' a):∀{c:List D}{f:List V},gp α Z H c f->gp b Z' g c f
 |[],_,h=>by simpa only [gp]using h
 |d::c,f,h=>by
  simp only[gp]at h ⊢;refine aP h λv r e i j=>?_
  exact⟨v,r,e,aq.mono p k z i,gp.mono p k z j⟩
end
def gv{K}(R:D->V->Prop)(kvs:List (K×D))(a:List (K×V)):=aE (λp q=>p.1=q.1/\R p.2 q.2) kvs a
variable [kU]
def h_(g:Str->b'->Prop)(R:D->V->Prop)(H:Hp)(a:b'):Cell->Prop
 |.lst h=>∃e,H a=some (.lst e)/\aE R h e
 |.dK c=>∃b,H a=some (.dK b)/\gv R c b
 |.dT c=>∃b,H a=some (.dT b)/\gv R c b
 |.dF c=>∃o b,H a=some (.cI o (.dK b))/\gv R c b
 |.ins C fs=>∃f i d,g C f/\H a=some (.ins f i d)/\gv R fs d
 |_=>False
theorem gv.imp{K R S}(h:∀d v,R d v->S d v){kvs}{c:List (K×V)}(k:gv R kvs c):gv S kvs c:=aE.imp (λa b q=>⟨q.1,h _ _ q.2⟩) k
theorem h_.imp{n R S H m a c}(h:∀d v,R d v->S d v)(e:∀o,H a=some o->m a=some o)(z:∀b o u,H b=some (.cI o u)->m b=some (.cI o u))(k:h_ n R H a c):h_ n S m a c:=by
 cases c with
 |lst t=>obtain⟨f,g,i⟩:=k;exact⟨f,e _ g,i.imp h⟩
 |dK l=>obtain⟨f,g,i⟩:=k;exact⟨f,e _ g,i.imp h⟩
 |dT l=>obtain⟨f,g,i⟩:=k;exact⟨f,e _ g,i.imp h⟩
 |dF l=>obtain⟨o,f,g,i⟩:=k;exact⟨o,f,e _ g,i.imp h⟩
 |ins C w=>obtain⟨q,r,f,s,g,i⟩:=k;exact⟨q,r,f,s,e _ g,i.imp h⟩
 |fn j Az=>exact k.elim
 |tb j p b=>exact k.elim
variable{F3:Cell}{Y7:D->V->Prop}{i:Str->b'->Prop}
theorem h_.some(k:h_ i Y7 d j F3):d j≠none:=by
 cases F3 with
 |lst h=>obtain⟨f,a,g⟩:=k;rw[a];simp
 |dK e=>obtain⟨f,a,g⟩:=k;rw[a];simp
 |dT e=>obtain⟨f,a,g⟩:=k;rw[a];simp
 |dF e=>obtain⟨o,f,a,g⟩:=k;rw[a];simp
 |ins C l=>obtain⟨m,n,f,q,a,g⟩:=k;rw[a];simp
 |fn c Az=>exact k.elim
 |tb c p b=>exact k.elim
structure bB(κ:Str->b'->Prop)(α:List b')(Z:b'->Prop)(Ω:az)(H:Hp):Prop where
 uu:α.Nodup
 Dv:aE (λc a=>h_ κ (aq α Z H) H a c) Ω α
 sep:∀a∈α,¬ Z a
 dom:∀a,Z a->H a≠none
structure b_(α:List b')(Z:b'->Prop)(H:Hp)(α':List b')(Z':b'->Prop)(H':Hp):Prop where
 pre:∀(n:Nat) (a:b'),α[n]?=some a->α'[n]?=some a
 sub:∀a,Z a->Z' a
 new:∀a,Z' a->Z a\/H a=none
 JO:∀a∈α',a∈α\/H a=none
 frm:∀a o,H a=some o->a∉α->H' a=some o
 has:∀a∈α,H' a≠none
 cI:∀a o u,H a=some (.cI o u)->H' a=some (.cI o u)
theorem b_.refl(h:∀a∈z,d a≠none):b_ z r d z r d:=⟨by simp,λ_ h=>h,by simp_all,λ_ h=>.inl h,by grind,h,by simp⟩
variable{a:az}
theorem bB.has(S:bB i z r a d):∀b∈z,d b≠none:=λb e=>by
 obtain⟨n,f⟩:=ċ.mp e;obtain⟨c,_,h⟩:=S.Dv.Qu f;exact h.some
theorem b_.none{α b Z Z' H c}(g:b_ α Z H b Z' c){a}(h:c a=none):H a=none:=by
 cases q:H a with
 |none=>rfl
 |some o=>
  by_cases d:a∈α
  .exact absurd h (g.has a d)
  .rw[g.frm a o q d]at h;cases h
variable{A9:List b'}{F4 La:b'->Prop}{k9:Hp}
theorem b_.trans(g:b_ z r d Q2 F4 υ)(b:b_ Q2 F4 υ A9 La k9):b_ z r d A9 La k9 where
 pre:=λn a e=>b.pre n a (g.pre n a e)
 sub:=λa h=>b.sub a (g.sub a h)
 new:=λa h=>by
  rcases b.new a h with h|h
  .exact g.new a h
  .exact .inr (g.none h)
 JO:=λa h=>by
  rcases b.JO a h with h|h
  .exact g.JO a h
  .exact .inr (g.none h)
 frm:=λa o e c=>b.frm a o (g.frm a o e c) λh=>by
  rcases g.JO a h with h|h
  .exact c h
  grind
 has:=λa c=>by
  obtain⟨n,f⟩:=ċ.mp c;exact b.has a (Ë (g.pre n a f))
 cI:=λa o u e=>b.cI a o u (g.cI a o u e)
theorem bB.cH(S:bB i z r a d)(g:b_ z r d Q2 F4 υ)(h:aq z r d m A):aq Q2 F4 υ m A:=
 h.mono g.pre (λb o c e=>g.frm b o e λf=>S.sep b f c) g.sub
theorem bB.lO(b:bB i z r a d)(g:b_ z r d Q2 F4 υ)(h:aE (aq z r d) q S):aE (aq Q2 F4 υ) q S:=h.imp λ_ _ c=>b.cH g c
theorem bB.cell(S:bB i z r a d)(e:a[b]?=some F3):∃c,z[b]?=some c/\h_ i (aq z r d) d c F3:=S.Dv.get e
theorem bB.len(S:bB i z r a d):z.length=a.length:=S.Dv.length
theorem bB.nU(S:bB i z r a d)(h:d j=none)(l)[Decidable l]:bB i z (if l then Zp r j else r) a (upd d j m4)/\b_ z r d z (if l then Zp r j else r) (upd d j m4):=by
 have p:∀f∈z,f≠j:=λf k e=>S.has f k (e▸h)
 have o:∀f,r f->f≠j:=λf m e=>S.dom f m (e▸h)
 have g:b_ z r d z (if l then Zp r j else r) (upd d j m4):=⟨λ_ _ e=>e,(λf k=>by
  split
  .exact .inl k
  .exact k),λf k=>by
   split at k
   .rcases k with k|rfl
    .exact .inl k
    simp_all
   simp_all,λ_ k=>.inl k,λf u e _=>by rwa[ax (aW e h)],λf k=>by rw[ax (p f k)];exact S.has f k,λf s u e=>by rwa[ax (aW e h)]⟩
 refine⟨⟨S.uu,?_,λf k m=>?_,λf k=>?_⟩,g⟩
 .refine S.Dv.imp λc f t=>?_
  refine t.imp (λq v n=>S.cH g n) (λu e=>?_) λb s w e=>?_
  .rwa[ax (aW e h)]
  .rwa[ax (aW e h)]
 .split at m
  .rcases m with m|rfl
   .exact S.sep f k m
   grind
  .exact S.sep f k m
 .split at k
  .rcases k with k|rfl
   .rw[ax (o f k)];exact S.dom f k
   .rw[aD];simp
  .rw[ax (o f k)];exact S.dom f k
theorem bB.laid(S:bB i z r a d){p o c}(h:d p=none)(l:∀R,(∀j v,aq z r d j v->R j v)->h_ i R (upd d p o) p c):bB i (z++[p]) r (a++[c]) (upd d p o)/\b_ z r d (z++[p]) r (upd d p o):=by
 have m:∀f∈z,f≠p:=λf ha e=>S.has f ha (e▸h)
 have q:∀f,r f->f≠p:=λf s e=>S.dom f s (e▸h)
 have g:b_ z r d (z++[p]) r (upd d p o):=⟨λn f e=>by rwa[ê (Ì.mp e).1],λ_ h=>h,λ_ h=>.inl h,by grind,λf u e _=>by rwa[ax (aW e h)],λf ha=>by rw[ax (m f ha)];exact S.has f ha,λf t u e=>by rwa[ax (aW e h)]⟩
 refine⟨⟨?_,?_,λf ha s=>?_,λf ha=>by rw[ax (q f ha)];exact S.dom f ha⟩,g⟩
 .refine ā.mpr ⟨S.uu,by simp,λf ha b w=>?_⟩
  simp_all
 .refine aE.append (S.Dv.imp λc f l=>?_) (.one (l _ λj v k=>S.cH g k))
  refine l.imp (λj v k=>S.cH g k) (λu e=>?_) λb t x e=>?_
  .rwa[ax (aW e h)]
  .rwa[ax (aW e h)]
 .rcases Ô.mp ha with ha|ha
  .exact S.sep f ha s
  simp_all
theorem bB.put(S:bB i z r a d){o c}(I:z[b]?=some j)(A:∀o u,d j≠some (.cI o u))(L:∀R,(∀k v,aq z r d k v->R k v)->h_ i R (upd d j o) j c):bB i z r (a.set b c) (upd d j o)/\b_ z r d z r (upd d j o):=by
 have g:b_ z r d z r (upd d j o):=⟨λb f e=>e,λ_ h=>h,λ_ h=>.inl h,λf s=>.inl s,λf u e s=>by rw[ax (λ(q:f=j)=>s (by rw[q];exact(Ë I)))];exact e,λf s=>by
   by_cases q:f=j
   .subst q;rw[aD];simp
   .rw[ax q];exact S.has f s,λf x u e=>by rw[ax (λq=>A x u (by rw[←q];exact e))];exact e⟩
 refine⟨⟨S.uu,?_,S.sep,λf s=>?_⟩,g⟩
 .have B:∀{p:List Cell}{m:List b'}{b:Nat},m.Nodup->aE (λc f=>h_ i (aq z r d) d f c) p m->m[b]?=some j->aE (λc f=>h_ i (aq z r (upd d j o)) (upd d j o) f c) (p.set b c) m:=by
   intro p m b C E
   induction E generalizing b with
   |nil=>intro e;simp at e
   |@cons N F p m l t G=>
    intro e;have n:=Ħ.mp C;cases b with
    |zero=>
     simp at e;subst e;refine .cons (L _ λk v l=>S.cH g l) (aE.imp (λ_ _ q=>q) ?_)
     have:∀{p:List Cell}{m:List b'},F∉m->aE (λc f=>h_ i (aq z r d) d f c) p m->aE (λc f=>h_ i (aq z r (upd d F o)) (upd d F o) f c) p m:=by
      intro p m y E
      induction E with
      |nil=>exact .nil
      |@cons O P p m l t G=>
       refine .cons (l.imp (λk v q=>S.cH g q) (λu e=>?_) λw x H e=>?_) (G λq=>y (Ŏ _ q))
       .rw[ax (λq=>y (by rw[q];simp))];exact e
       .rw[ax (λq=>A x H (by rw[←q];exact e))];exact e
     exact this n.1 t
    |succ b=>
     have J:=by simpa using e
     refine .cons (l.imp (λk v q=>S.cH g q) (λu M=>?_) λw x H K=>?_) (G n.2 J)
     .rw[ax (λq=>n.1 (by rw[q];exact Ë J))];exact M
     .rw[ax (λq=>A x H (by rw[←q];exact K))];exact K
  exact B S.uu S.Dv I
 .by_cases q:f=j
  .subst q;rw[aD];simp
  .rw[ax q];exact S.dom f s
abbrev iS:=D->az->List b'->(b'->Prop)->Hp->Prop
def bT(f:Str->b'->Prop)(g:iS)(α:List b')(Z:b'->Prop)(H)(r:aw D)(Q:VK):=match r with
 |.ok d b=>∀v c a e,b_ α Z H a e c->bB f a e b c->aq a e c d v->Q v c
 |.exc x b=>∀c a e,b_ α Z H a e c->bB f a e b c->g x b a e c
 |.bad=>False
structure cQ(κ:Str->b'->Prop)(α0:List b')(Z0:b'->Prop)(H0:Hp)(α:List b')(Z:b'->Prop)(Ω:az)(ρ:aZ)(σ:L2.St)(H:Hp):Prop where
 st:bB κ α Z Ω H
 gr:b_ α0 Z0 H0 α Z H
 len:σ.length=ρ.length
 val:∀(i:Nat) (d:D),ρ[i]?=some (some d)->∃v,σ[i]?=some (some v)/\aq α Z H d v
abbrev EM:=aZ->az->aw D
noncomputable def tO(b:Str->b'->Prop)(e:iS)(a:List b')(f:b'->Prop)(g:Hp)(m:EM)(c:aZ)(Ω:az):TE:=λh H Q=>
 ∃d Z,cQ b a f g d Z Ω c h H/\bT b e d Z H (m c Ω) Q
def bt(X)(b:Str->b'->Prop)(c e m):=∀a d f g h,PE X e (tO b c a d f m g h)
variable{D2:aw D}{u:iS}
theorem bT.from(g:b_ z r d Q2 F4 υ)(h:bT i u z r d D2 ο):bT i u Q2 F4 υ D2 ο:=by
 cases D2 with
 |ok a b=>exact λv c e f j=>h v c _ f (g.trans j)
 |exc x b=>exact λc e f j=>h c _ f (g.trans j)
 |bad=>exact h
variable{A8:D->az->aw D}
theorem bT.use{j}(h:bT i u z r d (D2.bind A8) ο)(k:∀a b,D2=.ok a b->∀v e c f,b_ z r d c f e->bB i c f b e->aq c f e a v->bT i u c f e (A8 a b) ο->j v e):bT i u z r d D2 j:=by
 cases D2 with
 |ok a b=>exact λv e c f g s q=>k a _ rfl v e _ f g s q (bT.from g h)
 |exc x b=>exact h
 |bad=>exact h
def bT.ret(S:bB i z r a d)(q:aq z r d m A)(h:bT i u z r d (.ok m a) ο):=h A d z r (b_.refl S.has) S q
variable{v:aZ}{y:az}
theorem cQ.grow(S:cQ i A9 La k9 z r a v F2 d)(g:b_ z r d Q2 F4 υ)(s:bB i Q2 F4 y υ):cQ i A9 La k9 Q2 F4 y v F2 υ:=
 ⟨s,S.gr.trans g,S.len,λb c e=>bx (S.val b c e) λf h j=>⟨f,h,S.st.cH g j⟩⟩
theorem aQ(h:jR m=some A):aq z r d m A:=by
 cases m<;>first|cases h;simp only[aq]|exact bD h
theorem yr(h:gR m=true):∃v,jR m=some v:=by
 cases m<;>first|exact⟨_,rfl⟩|cases h
theorem dR(h:jR m=some G4)(a:Rep r d m A):A=G4:=by
 cases m<;>first | (cases h;simpa only [Rep]using a)|exact bD h
noncomputable def bH{α β:Type}(f:α->Option β):List α->Option (List β)
 |[]=>some []
 |x::a=>match f x,bH f a with
  |some y,some b=>some (y::b)
  |_,_=>none
def f_(Ω:az):Nat->D->Option D
 |_,.non=>some .non
 |_,.bl b=>some (.bl b)
 |_,.int i=>some (.int i)
 |_,.str x=>some (.str x)
 |0,_=>none
 |n+1,.lst a=>(bH (f_ Ω n) a).map .lst
 |n+1,.tup a=>(bH (f_ Ω n) a).map .tup
 |n+1,.ref k=>match Ω[k]? with
  |some (.lst a)=>(bH (f_ Ω n) a).map .lst
  |_=>none
 |_+1,.dct _ _=>none
def Hf(α:List b')(Z:b'->Prop):=λa=>Z a\/a∈α
theorem fw{f R S}(g:∀d e v,f d=some e->R d v->S e v):∀{c a:List D}{b:List V},bH f c=some a->aE R c b->aE S a b
 |[],a,b,h,r=>by cases h;rw[r.nil_inv];exact .nil
 |d::c,a,b,h,r=>by
  simp only[bH]at h;split at h
  .rename_i y l m i
   cases h;obtain⟨v,j,rfl,n,k⟩:=r.cons_inv;exact .cons (by grind) (fw g i k)
  .exact bD h
theorem ib{Z H}:∀{a}{b},aE (Rep Z H) a b->aS Z H a b
 |_,_,.nil=>.nil
 |_,_,.cons r t=>.cons r (ib t)
theorem mE(S:bB i z r a d):∀n {c f}{v},f_ a n c=some f->aq z r d c v->Rep (Hf z r) d f v:=by
 intro n
 induction n with
 |zero=>
  intro c f v h b;cases c<;>first | (cases h;simpa only [Rep,aq]using b)|exact bD h
 |succ n o=>
  intro c f v h b;cases c with
  |lst u=>
   obtain⟨w,g,rfl⟩:=Ã.mp h;obtain⟨e,j,rfl,p,s,l⟩:=b;exact⟨e,j,rfl,.inl p,s,ib (fw (S:=Rep _ d) (λc f v q b=>o q b) g (bZ.mp l))⟩
  |tup u=>
   obtain⟨w,g,rfl⟩:=Ã.mp h;obtain⟨e,j,rfl,p,s,l⟩:=b;exact⟨e,j,rfl,.inl p,.inl s,ib (fw (S:=Rep _ d) (λc f v q b=>o q b) g (bZ.mp l))⟩
  |ref k=>
   simp only[f_]at h;split at h
   .rename_i u x
    obtain⟨w,g,rfl⟩:=Ã.mp h;refine bx (S.cell x) λe y t=>bx t λj A l=>?_
    obtain⟨B,m,rfl⟩:=b;rw[y]at m;cases m;exact⟨e,j,rfl,.inr (by grind),.inl A,ib (fw (S:=Rep _ d) (λc f v q b=>o q b) g l)⟩
   .exact bD h
  |dct _ _=>exact bD h
  |_=>cases h;simpa only [Rep,aq]using b
theorem dS(S:bB i z r a d):∀b,Hf z r b->d b≠none:=λb h=>h.elim (S.dom b) (S.has b)
theorem bB.same(S:bB i z r a d)(h:nv d υ):bB i z r a υ/\b_ z r d z r υ:=by
 have g:b_ z r d z r υ:=⟨by simp,λ_ j=>j,by simp_all,λ_ j=>.inl j,λf o e _=>h f o e,λf m=>by
  cases q:d f with
  |none=>exact absurd q (S.has f m)
  |some o=>rw[h f o q];simp,λf o u e=>h f _ e⟩
 refine⟨⟨S.uu,S.Dv.imp λc f n=>n.imp (λl v k=>S.cH g k) (λo e=>h f o e) λb o u e=>h b _ e,S.sep,λf j=>?_⟩,g⟩
 cases q:d f with
 |none=>exact absurd q (S.dom f j)
 |some o=>rw[h f o q];simp
theorem bB.adopt(S:bB i z r a d)(h:nv d υ)(q:d j=none)(m:∀R,(∀f v,aq z r υ f v->R f v)->h_ i R υ j F3):bB i (z++[j]) r (a++[F3]) υ/\b_ z r d (z++[j]) r υ:=by
 obtain⟨s,o⟩:=S.same h;have t:∀c∈z,c≠j:=λc ha e=>S.has c ha (e▸q)
 have u:∀c,r c->c≠j:=λc p e=>S.dom c p (e▸q)
 have l:∀(n:Nat) (c:b'),z[n]?=some c->(z++[j])[n]?=some c:=λn c e=>by rwa[ê (by grind)]
 have mono:∀f v,aq z r υ f v->aq _ r υ f v:=λf v k=>k.mono l (λ_ _ _ e=>e) λ_ g=>g
 refine⟨⟨?_,?_,λc ha p=>?_,s.dom⟩,⟨l,λ_ g=>g,by simp_all,λc ha=>?_,o.frm,o.has,o.cI⟩⟩
 .refine ā.mpr ⟨S.uu,by simp,λc ha b w=>?_⟩
  simp_all
 .exact aE.append (s.Dv.imp λF3 c m=>m.imp mono (λ_ e=>e) (by simp)) (.one (m _ mono))
 .rcases Ô.mp ha with ha|ha
  .exact S.sep c ha p
  simp_all
 grind
noncomputable def gJ(Ω:az)(c:Cell):aw D:=.ok (.ref Ω.length) (Ω++[c])
def gK(Ω:az):Out Rs->aw D
 |.ok (own,d)=>if gR d then .ok d Ω else match own,d with
  |true,.lst a=>if a.all gR then gJ Ω (.lst a)else .bad
  |_,_=>.bad
 |_=>.bad
theorem eo(S:bB i z r a d)(p):aq (z++[p]) r υ (.ref a.length) (.ref p):=⟨p,by rw[←S.len];simp,rfl⟩
theorem qo{α Z e H f}:∀{a}{b},a.all gR=true->aS e f a b->aE (aq α Z H) a b
 |[],b,_,r=>by rw[r.nil_inv];exact .nil
 |d::a,b,h,r=>by
  obtain⟨v,g,rfl,i,j⟩:=r.cons_inv;simp only[Ţ,Ö]at h;obtain⟨w,c⟩:=yr h.1;obtain rfl:=dR c i;exact .cons (aQ c) (qo h.2 j)
theorem jY{e}(S:bB i z r a d)(h:bT i u z r d (gK a e) ο):∃own b,e=.ok (own,b)/\∀v f s Z',fk s d Z' f->eS H own Z' d f b v->ο v f:=by
 cases e with
 |ok q=>
  obtain⟨own,b⟩:=q;refine⟨_,b,rfl,λv f s Z' g q=>?_⟩
  simp only[gK]at h;split at h
  .rename_i t
   obtain⟨w,k⟩:=yr t
   have x:=by
    have n:=q.nw;cases b with
    |non=>exact dR (r:=Z') (d:=f) k n
    |bl _=>exact dR (r:=Z') (d:=f) k n
    |int _=>exact dR (r:=Z') (d:=f) k n
    |str _=>exact dR (r:=Z') (d:=f) k n
    |_=>cases t
   subst x;obtain⟨l,m⟩:=S.same g.same;exact h v f z r m l (aQ k)
  .split at h
   .rename_i y A
    split at h
    .rename_i o
     refine iC q λj B C D p E J F G=>?_;subst p
     cases D;obtain⟨l,m⟩:=S.adopt (F3:=.lst y) g.same E (λR I=>⟨B,F,(qo o G).imp I⟩)
     exact h _ f _ r m l (eo S j)
    .exact h.elim
   .exact h.elim
 |exc c K=>exact h.elim
 |bad=>exact h.elim
def m1(f:D->az->aw D)(a:EM):EM:=λb c=>(a b c).bind f
def m2(f:D->D->az->aw D)(d e:EM):EM:=λc g=>(d c g).bind λx a=>(e c a).bind λy b=>f x y b
noncomputable def lZ(a b:aw D):=match a with
 |.bad=>b
 |r=>r
def LS(f g:D->az->aw D):=λx a=>lZ (f x a) (g x a)
def l_(f g:D->D->az->aw D):=λx y a=>lZ (f x y a) (g x y a)
def d8(f g:EM):EM:=λa b=>lZ (f a b) (g a b)
def Dw(f:D->Out Rs):D->az->aw D:=λx a=>match f_ a 8 x with
 |some b=>gK a (f b)
 |none=>.bad
def gX(f:D->D->Out Rs):D->D->az->aw D:=λx y a=>match f_ a 8 x,f_ a 8 y with
 |some b,some c=>gK a (f b c)
 |_,_=>.bad
def jZ(Ω:az):D->Option Bool
 |.ref k=>match Ω[k]? with
  |some (.lst b)=>some (!b.isEmpty)
  |some (.dK a)=>some (!a.isEmpty)
  |_=>none
 |d=>lY d
def eE:aw D->aw Bool
 |.ok d Ω=>match jZ Ω d with
  |some b=>.ok b Ω
  |none=>.bad
 |.exc x Ω=>.exc x Ω
 |.bad=>.bad
def tv(f:Str->b'->Prop)(g:iS)(α:List b')(Z:b'->Prop)(H)(r:aw Bool)(Q:Bool->Hp->Prop):=match r with
 |.ok b c=>∀d a e,b_ α Z H a e d->bB f a e c d->Q b d
 |.exc x c=>∀d a e,b_ α Z H a e d->bB f a e c d->g x c a e d
 |.bad=>False
def Xv(b:Str->b'->Prop)(e:iS)(a:List b')(f:b'->Prop)(g:Hp)(m:EM)(c:aZ)(Ω:az):TT:=λh H Q=>∃d Z,cQ b a f g d Z Ω c h H/\tv b e d Z H (eE (m c Ω)) Q
def jA(X)(b:Str->b'->Prop)(c e m):=∀a d f g h,PT X e (Xv b c a d f m g h)
abbrev AM:=aZ->az->aw (List D)
def pv(e:Str->b'->Prop)(g:iS)(α:List b')(Z:b'->Prop)(H)(r:aw (List D))(Q:List V->Hp->Prop):=match r with
 |.ok h b=>∀f c a d,b_ α Z H a d c->bB e a d b c->aE (aq a d c) h f->Q f c
 |.exc x b=>∀c a d,b_ α Z H a d c->bB e a d b c->g x b a d c
 |.bad=>False
noncomputable def tAO(b:Str->b'->Prop)(e:iS)(a:List b')(f:b'->Prop)(g:Hp)(m:AM)(c:aZ)(Ω:az):TA:=λh H Q=>∃d Z,cQ b a f g d Z Ω c h H/\pv b e d Z H (m c Ω) Q
def rV(X)(b:Str->b'->Prop)(c)(d:List A')(m):=∀a e f g h,PA X d (tAO b c a e f m g h)
noncomputable def aj:AM:=λ_ a=>.ok [] a
def af(a:EM)(as:AM):AM:=λd e=>(a d e).bind λx b=>(as d b).bind λf c=>.ok (x::f) c
def mN(f:List D->az->aw D)(as:AM):EM:=λa b=>(as a b).bind f
variable{i9:List V->Hp->Prop}{v9:aw (List D)}
theorem pv.from(g:b_ z r d Q2 F4 υ)(h:pv i u z r d v9 i9):pv i u Q2 F4 υ v9 i9:=by
 cases v9 with
 |ok a b=>exact λv c e f j=>h v c _ f (g.trans j)
 |exc x b=>exact λc e f j=>h c _ f (g.trans j)
 |bad=>exact h
variable{G9:Bool->Hp->Prop}{T9:aw Bool}
theorem tv.from(g:b_ z r d Q2 F4 υ)(h:tv i u z r d T9 G9):tv i u Q2 F4 υ T9 G9:=by
 cases T9 with
 |ok a b=>exact λc e f j=>h c _ f (g.trans j)
 |exc x b=>exact λc e f j=>h c _ f (g.trans j)
 |bad=>exact h
variable{v8:List D->az->aw D}
theorem pv.use(h:bT i u z r d (v9.bind v8) ο)(k:∀j a,v9=.ok j a->∀l c b f,b_ z r d b f c->bB i b f a c->aE (aq b f c) j l->bT i u b f c (v8 j a) ο->i9 l c):pv i u z r d v9 i9:=by
 cases v9 with
 |ok e a=>exact λv c b f g s q=>k e _ rfl v c _ f g s q (bT.from g h)
 |exc x a=>exact h
 |bad=>exact h
theorem PE.or(h:PE c n ψ)(h':PE c n L4):PE c n (λa H Q=>ψ a H Q\/L4 a H Q):=λpins s a H Q I q=>q.elim (h _ s a H Q I) (h' _ s a H Q I)
theorem PT.or(h:PT c n T5)(h':PT c n L8):PT c n (λa H Q=>T5 a H Q\/L8 a H Q):=λpins s a H Q I q=>q.elim (h _ s a H Q I) (h' _ s a H Q I)
variable{S9:aw D}
theorem qq:lZ D2 S9=D2\/(D2=.bad/\lZ D2 S9=S9):=by cases D2<;>simp[lZ]
variable{p ξ:EM}
theorem bt.alt(h:bt c i u n p)(h':bt c i u n ξ):bt c i u n (d8 p ξ):=by
 intro a e f b d;refine PE.imp (PE.or (h a e f b d) (h' a e f b d)) ?_;rintro k H Q ⟨j,Z,S,g⟩;rcases qq (D2:=p b d)with q|⟨_,q⟩
 .exact .inl ⟨j,Z,S,by rwa[←q]⟩
 .exact .inr ⟨j,Z,S,by rwa[←q]⟩
theorem jA.alt(h:jA c i u n p)(h':jA c i u n ξ):jA c i u n (d8 p ξ):=by
 intro a e f b d;refine PT.imp (PT.or (h a e f b d) (h' a e f b d)) ?_;rintro k H Q ⟨j,Z,S,g⟩;rcases qq (D2:=p b d)with q|⟨_,q⟩
 .exact .inl ⟨j,Z,S,by rwa[←q]⟩
 .exact .inr ⟨j,Z,S,by rwa[←q]⟩
variable{Z7:D->D->az->aw D}
theorem rW{g}:m2 (l_ Z7 g) p ξ=d8 (m2 Z7 p ξ) (m2 g p ξ):=by
 funext b a
 simp only[m2,d8];cases p b a with
 |ok x c=>
  simp only[aw.bind];cases ξ b _ with
  |ok y d=>rfl
  |exc x a=>rfl
  |bad=>rfl
 |exc x a=>rfl
 |bad=>rfl
theorem LU{g}:m1 (LS A8 g) p=d8 (m1 A8 p) (m1 g p):=by
 funext b a
 simp only[m1,d8];cases p b a with
 |ok x c=>rfl
 |exc x a=>rfl
 |bad=>rfl
theorem j_{r:V->Hp->VK->Prop}(h:∀b,PE c n b->PE c R λd H Q=>b d H λx f=>r x f Q)(j:bt c i u n p)(o:∀e x α Z Ω H Q,bB i α Z Ω H->aq α Z H e x->bT i u α Z H (A8 e Ω) Q->r x H Q):bt c i u R (m1 A8 p):=by
 intro a k l m Ω;refine PE.imp (h _ (j a k l m Ω)) ?_;rintro d H Q ⟨α,Z,S,g⟩;refine⟨α,Z,S,g.use (by grind)⟩
variable{C6:R2}
theorem iG(h:∀m tb,PE c n m->PE c R tb->PE c D4 (Ov C6 m tb))(k:bt c i u n p)(l:bt c i u R ξ)(B:∀o r x y α Z Ω H Q,bB i α Z Ω H->aq α Z H o x->aq α Z H r y->bT i u α Z H (Z7 o r Ω) Q->C6 x y H Q):bt c i u D4 (m2 Z7 p ξ):=by
 intro a e f b Ω;rcases q:p b Ω with ⟨d,j⟩|⟨x,j⟩|_
 .refine PE.imp (h _ _ (k a e f b Ω) (l a e f b j)) ?_
  rintro s H Q ⟨α,Z,S,g⟩;refine⟨α,Z,S,bT.use g λU t z v V C D E A F G=>?_⟩
  rw[q]at z;cases z;refine⟨_,D,S.grow E A,G.use λI J _ w K L M N O P T=>B d I v w _ M _ K Q O (A.cH N F) P T⟩
 .refine PE.imp (h _ _ (k a e f b Ω) (l a e f b Ω)) ?_
  rintro s H Q ⟨α,Z,S,g⟩;refine⟨α,Z,S,?_⟩;simp only[m2,q,aw.bind]at g ⊢;exact g
 .refine PE.imp (h _ _ (k a e f b Ω) (l a e f b Ω)) ?_
  rintro s H Q ⟨α,Z,S,g⟩;simp only[m2,q,aw.bind]at g;exact g.elim
variable{Fa:D->Out Rs}
theorem uv(S:bB i z r a d)(g:aq z r d m A)(h:bT i u z r d (Dw Fa m a) ο):
  ∃b own c,Now (Hf z r) d b A/\Fa b=.ok (own,c)/\∀v f Z',fk (Hf z r) d Z' f->eS H own Z' d f c v->ο v f:=by
 unfold Dw at h;split at h
 .rename_i b j
  refine cg (jY (H:=H) S h) λown c e k=>⟨b,_,c,(mE S 8 j g).now,e,by grind⟩
 .exact h.elim
variable{Ha:D->D->Out Rs}
theorem ic(S:bB i z r a d)(g:aq z r d m A)(j:aq z r d η G4)(h:bT i u z r d (gX Ha m η a) ο):
  ∃b e own c,Now (Hf z r) d b A/\Now (Hf z r) d e G4/\Ha b e=.ok (own,c)/\∀v f Z',fk (Hf z r) d Z' f->eS H own Z' d f c v->ο v f:=by
 unfold gX at h;split at h
 .rename_i b e l n
  refine cg (jY (H:=H) S h) λown c o k=>⟨b,e,_,c,(mE S 8 l g).now,(mE S 8 n j).now,o,by grind⟩
 .exact h.elim
theorem Hg(j:c.N[b]?=some h)(k:vx c.env.scope h)(a:(h==("__debug__"))=false)(e:(h==("__classdict__"))=false):bt c i u (.Name h o) (λf Ω=>match f[b]? with|some (some d)=>.ok d Ω|_=>.bad):=by
 intro l p q f Ω;refine PE.imp (mU j k a e) ?_;rintro r H Q ⟨s,Z,S,g⟩;dsimp only at g;split at g
 .rename_i d a
  obtain⟨v,m,n⟩:=S.val b d a;exact⟨v,m,bT.ret S.st n g⟩
 .exact g.elim
theorem mF(h:PE c n (tC A))(a:jR m=some A):bt c i u n (λ_ Ω=>.ok m Ω):=by
 intro b d e f Ω;refine PE.imp h ?_;rintro j H Q ⟨k,Z,S,g⟩;exact bT.ret S.st (aQ a) g
def LV(d v):=jR d=some v\/d=.dct [] []
theorem Dx(h:PE c n (tC A))(a:LV m A):bt c i u n (λ_ Ω=>.ok m Ω):=by
 intro b d e f Ω;refine PE.imp h ?_;rintro j H Q ⟨k,Z,S,g⟩;refine bT.ret S.st ?_ g;rcases a with a|rfl
 .exact aQ a
 .simp only[aq]
noncomputable def cR(Ω:az):D->Option (List D)
 |.ref k=>match Ω[k]? with
  |some (.lst a)=>some a
  |_=>none
 |.lst a=>some a
 |_=>none
theorem bu(S:bB i z r a d)(c:aq z r d m A)(h:cR a m=some q):∃b e,A=.ref b/\Rd d b (.lst e)/\aE (aq z r d) q e:=by
 cases m with
 |ref k=>
  simp only[cR]at h;split at h
  .rename_i n o
   cases h;obtain⟨b,p,rfl⟩:=c;refine bx (S.cell o) λs f g=>bx g λe j l=>?_
   rw[p]at f;cases f;exact⟨b,e,rfl,.inl j,l⟩
  .exact bD h
 |lst t=>
  cases h;obtain⟨b,e,rfl,_,j,l⟩:=c;exact⟨b,e,rfl,j,bZ.mp l⟩
 |_=>exact bD h
theorem eh(b:aq z r d (.tup q) A):∃a c,A=.ref a/\r a/\d a=some (.tup c)/\aE (aq z r d) q c:=by
 refine bQ b λa c e f g h=>⟨a,c,e,f,g,bZ.mp h⟩
def er(b:bB i z r a d)(e:aE (aq z r d) q S)(k:bT i u z r d (gJ a (.lst q)) ο):=λp f=>by
 obtain⟨g,h⟩:=b.laid (c:=.lst q) f λR j=>⟨S,aD,e.imp j⟩
 exact k _ _ _ r h g (eo b p)
def uw(b:bB i z r a d)(c:aE (aq z r d) q S)(k:bT i u z r d (.ok (.tup q) a) ο):=λp f=>by
 obtain⟨g,e⟩:=b.nU f True;refine k _ _ _ _ e g ⟨p,S,rfl,.inr rfl,aD,bZ.mpr (b.lO e c)⟩
theorem rX:rV c i u [] aj:=by
 intro a d e f h;refine PA.imp rf ?_;rintro j H Q ⟨b,Z,S,g⟩;exact g [] H b Z (b_.refl S.st.has) S.st .nil
variable{u0:AM}
theorem nV(m:bt c i u n p)(o:rV c i u Q u0)(r:D' (n::Q) c.env=(false,eval n c.env)::D' Q c.env):rV c i u (n::Q) (af p u0):=by
 intro a f h e j;rcases q:p e j with ⟨d,k⟩|⟨x,k⟩|_
 .refine PA.imp (fM (m a f h e j) (o a f h e k) r) ?_
  rintro w H b ⟨l,Z,S,g⟩;refine⟨l,Z,S,?_⟩;simp only[af,q,aw.bind]at g ⊢;intro v I B C y z D;refine⟨_,C,S.grow y z,?_⟩;have g:=pv.from y g
  rcases s:u0 e _ with ⟨J,t⟩|⟨x,t⟩|_
  .rw[s]at g
   intro K L E M A F G;exact g _ _ _ _ A F (.cons (z.cH A D) G)
  .rwa[s]at g
  .rwa[s]at g
 .refine PA.imp (fM (m a f h e j) (o a f h e j) r) ?_
  rintro w H b ⟨l,Z,S,g⟩;refine⟨l,Z,S,?_⟩;simp only[af,q,aw.bind]at g ⊢;exact g
 .refine PA.imp (fM (m a f h e j) (o a f h e j) r) ?_
  rintro w H b ⟨l,Z,S,g⟩;simp only[af,q,aw.bind]at g;exact g.elim
def cz(a:List D)(Ω):=if small a.length then gJ Ω (.lst a)else .bad
def nW(a:List D)(Ω:az):aw D:=if small a.length then .ok (.tup a) Ω else .bad
theorem Hh(h:rV c i u Q u0):bt c i u (.List Q o) (mN cz u0):=by
 intro b f j k l;refine PE.imp (Ls (h b f j k l)) ?_;rintro s H d ⟨m,Z,S,g⟩;refine⟨m,Z,S,pv.use g λt n _ w x p y z q e a=>?_⟩
 unfold cz at a;split at a
 .rename_i r
  exact⟨by rw[e.length];exact bJ r,er q e a⟩
 .exact a.elim
theorem Hi{x1}(h:rV c i u Q u0):bt c i u (.Tuple Q x1 o) (mN nW u0):=by
 intro b f j k l;refine PE.imp (Lr (h b f j k l)) ?_;rintro s H d ⟨m,Z,S,g⟩;refine⟨m,Z,S,pv.use g λt n _ w x p y z q e a=>?_⟩
 unfold nW at a;split at a
 .rename_i r
  exact⟨by rw[e.length];exact bJ r,uw q e a⟩
 .exact a.elim
def AA(x y:D)(Ω:az):aw D:=match cR Ω x,cR Ω y with
 |some a,some b=>if small (a.length+b.length)then gJ Ω (.lst (a++b))else .bad
 |_,_=>.bad
def bh(op:ď):=match op with
 |.Add=>l_ AA (gX (gg .Add))
 |op=>gX (gg op)
theorem Hj(m:bt c i u n p)(q:bt c i u R ξ):bt c i u (.BinOp n f9 R o) (m2 (bh f9) p ξ):=by
 have E:bt c i u (.BinOp n f9 R o) (m2 (gX (gg f9)) p ξ):=iG (C6:=GN f9) (λt tb b f=>Jz (CA f9) b f) m q λw z x y A Z B H Q S h j g=>by
  obtain⟨d,e,own,P,D,F,G,k⟩:=ic (H:=false) S h j g;exact LF (H:=false) D F (dS S) G k
 have C:f9=.Add->bt c i u (.BinOp n f9 R o) (m2 AA p ξ):=λe=>by
  subst e;refine iG (C6:=GN .Add) (λt tb b f=>Jz (CA .Add) b f) m q λw z x y A Z B H Q S h j g=>?_
  unfold AA at g;split at g
  .rename_i T U I J
   obtain⟨l,K,rfl,L,r⟩:=bu S h I;obtain⟨a,M,rfl,N,s⟩:=bu S j J;split at g
   .rename_i O
    exact .inr (.inr ⟨l,a,K,M,rfl,rfl,L,N,by rw[r.length,s.length];exact bJ O,er S (r.append s) g⟩)
   .exact g.elim
  .exact g.elim
 cases f9 with
 |Add=>show bt c i u _ (m2 (l_ AA (gX (gg .Add))) p ξ);rw[rW];exact(C rfl).alt E
 |_=>exact E
def LW:=Dw λx=>match x with|.int i=>.ok (false,.int (-i))|_=>.bad
theorem Hk(b:bt c i u n p):bt c i u (.UnaryOp .USub n o) (m1 LW p):=
 j_ (λj e=>Pe Lm e) b λl x m Z q H Q S f g=>by
  obtain⟨d,own,r,h,a,k⟩:=uv (H:=false) S f g;split at a
  .cases c9 h
   cases a;exact⟨_,rfl,k _ H _ (fk.refl (dS S)) (.rep (gj rfl))⟩
  .cases a
noncomputable def a9{a β:Type}[DecidableEq a](kvs:List (a×β))(k):=(kvs.find? λb=>decide (b.1=k)).map (·.2)
noncomputable def dG{b β:Type}[DecidableEq b](kvs:List (b×β))(k v):=
 if (kvs.any λa=>decide (a.1=k))=true then kvs.map (λa=>if a.1=k then (a.1,v)else a)else kvs++[(k,v)]
noncomputable def et{a β:Type}[DecidableEq a](kvs:List (a×β))(k):=kvs.filter λb=>decide (b.1≠k)
section
variable{κ:Type}[DecidableEq κ]{R:D->V->Prop}
theorem gv.val{kvs a}(h:gv R kvs a)(k:κ):(∀d,a9 kvs k=some d->∃v,iR a k=some v/\R d v)/\(a9 kvs k=none->iR a k=none):=by
 induction h with
 |nil=>exact⟨λd e=>(by cases e),λ_=>rfl⟩
 |@cons p q b g r t i=>
  obtain⟨c,j⟩:=r
  by_cases e:p.1=k
  .have f:a9 (p::b) k=some p.2:=by simp[a9,Ē,e]
   rw[jJ (c▸e)]
   simp_all
  .have f:a9 (p::b) k=a9 b k:=by simp[a9,Ē,e]
   rwa[f,jK (λz=>e (c.trans z))]
theorem gv.any{kvs a}(h:gv R kvs a)(k:κ):(a.any λb=>decide (b.1=k))=kvs.any λb=>decide (b.1=k):=by
 induction h with
 |nil=>rfl
 |@cons p q c d r t e=>simp_all
theorem gv.put{kvs a}(h:gv R kvs a)(k:κ)(r:R m A):gv R (dG kvs k m) (putK a k A):=by
 unfold dG putK;rw[h.any];split
 .rename_i b
  clear b
  induction h with
  |nil=>exact .nil
  |@cons p q d f g t c=>
   refine .cons ?_ c
   by_cases e:p.1=k
   .simp_all
   simp_all
 .exact aE.append h (.one ⟨rfl,r⟩)
theorem gv.drop{kvs a}(h:gv R kvs a)(k:κ):gv R (et kvs k) (ng a k):=by
 induction h with
 |nil=>exact .nil
 |@cons p q d f b t c=>
  unfold et ng;rw[ī,ī]
  by_cases e:p.1=k
  .have:=b.1▸e
   simp only[e,this,ne_eq,not_true_eq_false,decide_false];exact c
  .have:¬ q.1=k:=λz=>e (b.1.trans z)
   simp only[e,this,ne_eq,not_false_eq_true,decide_true,if_true];exact .cons b c
theorem gv.length{kvs:List (κ×D)}{a}(h:gv R kvs a):a.length=kvs.length:=aE.length h
end
noncomputable def kb:D->Option Key
 |.int i=>some (.inl i)
 |.str x=>some (.inr x)
 |_=>none
def qr:D->Option (List Key)
 |.tup a=>bH kb a
 |_=>none
variable{z7:Key}
theorem gq(h:kb m=some z7)(a:aq z r d m A):A=kV z7:=by
 cases m with
 |int i=>cases h;exact a
 |str i=>cases h;exact a
 |_=>exact bD h
theorem nX{α Z H}:∀{c}{a}{b},bH kb c=some a->aE (aq α Z H) c b->b=a.map kV
 |[],a,b,h,r=>by cases h;rw[r.nil_inv];rfl
 |d::c,a,b,h,r=>by
  simp only[bH]at h;split at h
  .rename_i y k e f
   cases h;obtain⟨v,g,rfl,i,j⟩:=r.cons_inv;rw[gq e i,nX f j];rfl
  .exact bD h
variable{j9:List Key}
theorem kW(h:qr m=some j9)(a:aq z r d m A):∃b,A=.ref b/\d b=some (.tup (j9.map kV)):=by
 cases m with
 |tup f=>
  obtain⟨b,g,rfl,_,c,e⟩:=eh a;rw[nX h e]at c;exact⟨b,rfl,c⟩
 |_=>exact bD h
def ux(Ω:az)(x y:D):=match x with
 |.ref k=>match Ω[k]? with
  |some (.dK a)=>(kb y).map (a9 a)
  |some (.dT a)=>(qr y).map (a9 a)
  |some (.dF a)=>(kb y).map (a9 a)
  |_=>none
 |_=>none
variable{E2:Option D}
theorem uy(S:bB i z r a d)(C:aq z r d m A)(x:aq z r d η G4)(h:ux a m η=some E2):∃c y,A=.ref c/\kL d c G4 y/\(∀f,E2=some f->∃u,y=some u/\aq z r d f u)/\(E2=none->y=none):=by
 cases m with
 |ref k=>
  simp only[ux]at h;simp only[aq]at C;obtain⟨c,B,rfl⟩:=C;split at h
  .rename_i l n
   obtain⟨j,o,rfl⟩:=Ã.mp h;obtain⟨D,e,g,p,q⟩:=S.cell n;rw[B]at e;cases e
   obtain rfl:=gq o x;obtain⟨s,w⟩:=q.val j;exact⟨c,_,rfl,kL.k p,s,w⟩
  .rename_i l n
   obtain⟨j,o,rfl⟩:=Ã.mp h;obtain⟨D,e,g,p,q⟩:=S.cell n;rw[B]at e;cases e
   obtain⟨b,rfl,E⟩:=kW o x;obtain⟨s,w⟩:=q.val j;exact⟨c,_,rfl,kL.t p E,s,w⟩
  .rename_i l n
   obtain⟨j,o,rfl⟩:=Ã.mp h;obtain⟨D,e,F,g,p,q⟩:=S.cell n;rw[B]at e;cases e
   obtain rfl:=gq o x;obtain⟨s,w⟩:=q.val j;exact⟨c,_,rfl,.inl ⟨g,j,.inr ⟨F,p⟩,rfl,rfl⟩,s,w⟩
  .exact bD h
 |_=>exact bD h
noncomputable def wx(Ω:az)(x:D):=match x with
 |.ref k=>(match Ω[k]? with
  |some (.dK a)=>some a
  |some (.dF a)=>some a
  |_=>none)
 |_=>none
variable{Y:List (Key×D)}
theorem nY(S:bB i z r a d)(f:aq z r d m A)(h:wx a m=some Y):∃b c,A=.ref b/\Rd d b (.dK c)/\gv (aq z r d) Y c:=by
 unfold wx at h;split at h
 .obtain⟨b,n,rfl⟩:=f
  split at h
  .rename_i g j
   cases h;obtain⟨o,e,c,k,l⟩:=S.cell j;rw[n]at e;cases e
   exact⟨b,_,rfl,.inl k,l⟩
  .rename_i g j
   cases h;obtain⟨o,e,p,c,k,l⟩:=S.cell j;rw[n]at e;cases e
   exact⟨b,_,rfl,.inr ⟨p,k⟩,l⟩
  .exact bD h
 .exact bD h
def eT(a):=gX λx y=>do let r ←gh a x y;Out.ok (false,D.bl r)
def kX(a:Bool)(y x:D)(Ω:az):aw D:=match ux Ω x y with
 |some o=>.ok (.bl (if a then !o.isSome else o.isSome)) Ω
 |none=>.bad
noncomputable def kY(a:Bool)(x y:D)(Ω:az):aw D:=match x,y with
 |.ref _,.non=>.ok (.bl a) Ω
 |_,_=>.bad
def aJ(op:ð):=match op with
 |.In=>l_ (eT .In) (kX false)
 |.NotIn=>l_ (eT .NotIn) (kX true)
 |.Is=>l_ (kY false) (eT .Is)
 |.IsNot=>l_ (kY true) (eT .IsNot)
 |op=>eT op
variable{r8:Option V}
theorem wy(a:∀d,E2=some d->∃u,r8=some u/\Y7 d u)(b:E2=none->r8=none):r8.isSome=E2.isSome:=by
 cases E2 with
 |none=>simp_all
 |some d=>grind
theorem Hl(h:∀B tb,PE c n B->PE c R tb->PT c D4 (BE (Ov C6 B tb)))(l:bt c i u n p)(m:bt c i u R ξ)(o:∀x y Ω d av,Z7 x y Ω=.ok d av->∃t,d=.bl t)(K:∀C D x y α Z Ω H Q,bB i α Z Ω H->aq α Z H C x->aq α Z H D y->bT i u α Z H (Z7 C D Ω) Q->C6 x y H Q):jA c i u D4 (m2 Z7 p ξ):=by
 intro a e f b Ω;rcases q:p b Ω with ⟨d,j⟩|⟨x,j⟩|_
 .refine PT.imp (h _ _ (l a e f b Ω) (m a e f b j)) ?_
  rintro E H Q ⟨α,Z,S,g⟩;refine⟨α,Z,S,?_⟩;simp only[m2,q,aw.bind]at g ⊢;intro v H1 L M F G N;refine⟨_,M,S.grow F G,?_⟩;have g:=tv.from F g
  rcases r:ξ b _ with ⟨I,s⟩|⟨x,s⟩|_
  .rw[r]at g
   intro w O P T J U V;refine K d I v w _ T _ O _ U (G.cH J N) V ?_;have g:=tv.from J g
   dsimp only[aw.bind]at g;rcases k:Z7 d I _ with ⟨d3,z⟩|⟨x,z⟩|_
   .rw[k]at g
    obtain⟨t,rfl⟩:=o _ _ _ _ _ k;intro A X Y Z3 g3 s3 r3;exact⟨t,r3,g X _ Z3 g3 s3⟩
   .rwa[k]at g
   .rwa[k]at g
  .rwa[r]at g
  .rwa[r]at g
 .refine PT.imp (h _ _ (l a e f b Ω) (m a e f b Ω)) ?_
  rintro E H Q ⟨α,Z,S,g⟩;refine⟨α,Z,S,?_⟩;simp only[m2,q,aw.bind,eE]at g ⊢;exact g
 .refine PT.imp (h _ _ (l a e f b Ω) (m a e f b Ω)) ?_
  rintro E H Q ⟨α,Z,S,g⟩;simp only[m2,q,aw.bind,eE]at g;exact g.elim
noncomputable def LX(b:Bool):R2:=λy x H Q=>∃a o,x=.ref a/\kL H a y o/\Q (.bl (if b then !o.isSome else o.isSome)) H
theorem LY(b:c.A.units+1<É):kE c (á .In) (LX false):=by
 intro pins s f H x y u v Q I d e h;obtain⟨a,o,rfl,g,q⟩:=h;obtain rfl:v=Ð a:=e;exact WK b I g d λi I3=>⟨.bl _,H,I3,rfl,q⟩
theorem AB(b:c.A.units+1<É):kE c (á .NotIn) (LX true):=by
 intro pins s f H x y u v Q I d e h;obtain⟨a,o,rfl,g,q⟩:=h;obtain rfl:v=Ð a:=e;exact Gp b I g d λi I3=>⟨.bl _,H,I3,rfl,q⟩
theorem wz(S:bB i z r a d)(c:aq z r d m A)(f:aq z r d η G4)(g:bT i u z r d (eT o5 m η a) ο):CF o5 A G4 d ο:=by
 obtain⟨b,e,own,n,h,j,l,k⟩:=ic S c f g;exact LG (H:=false) h j (dS S) l k
theorem Dy(S:bB i z r a d)(c:aq z r d m A)(e:aq z r d η G4)(g:bT i u z r d (kX H m η a) ο):LX H A G4 d ο:=by
 unfold kX at g;split at g
 .rename_i o f
  obtain⟨b,h,rfl,j,k,l⟩:=uy S e c f;refine⟨b,h,rfl,j,?_⟩;rw[wy k l];exact bT.ret S (aQ rfl) g
 .exact g.elim
theorem Dz(b:o5=if H then .IsNot else .Is)(S:bB i z r a d)(c:aq z r d m A)(e:aq z r d η G4)(g:bT i u z r d (kY H m η a) ο):
  (if H then (G4=.non/\ο (.bl (!decide (A=.non))) d)else (G4=.non/\ο (.bl (decide (A=.non))) d)):=by
 unfold kY at g;split at g
 .simp only[aq]at c e
  have:=bT.ret S (aQ rfl) g
  grind
 .exact g.elim
theorem rY:∀x y Ω d av,eT o5 x y Ω=.ok d av->∃t,d=.bl t:=λx y Ω d av h=>by
 unfold eT gX at h;split at h
 .rename_i a b _ _
  dsimp only at h;cases q:gh o5 a b with
  |ok t=>
   have e:(do let r ←gh o5 a b;Out.ok (false,D.bl r))=Out.ok (false,D.bl t):=by rw[q];rfl
   rw[e]at h;cases h;simp
  |exc c f=>
   have e:(do let r ←gh o5 a b;Out.ok (false,D.bl r))=Out.exc c f:=by rw[q];rfl
   rw[e]at h;cases h
  |bad=>
   have e:(do let r ←gh o5 a b;Out.ok (false,D.bl r))=Out.bad:=by rw[q];rfl
   rw[e]at h;cases h
 .cases h
theorem yt:∀x y Ω d av,kX H x y Ω=.ok d av->∃t,d=.bl t:=λx y Ω d av h=>by
 unfold kX at h
 grind
theorem yu:∀x y Ω d av,kY H x y Ω=.ok d av->∃t,d=.bl t:=λx y Ω d av h=>by
 unfold kY at h
 grind
theorem ke(a:kE c (á o5) C6)(g:Ů o5 R=false)(h:bt c i u n p)(j:bt c i u R ξ)(b:∀x y Ω d av,Z7 x y Ω=.ok d av->∃t,d=.bl t)(k:∀l m x y α Z Ω H Q,bB i α Z Ω H->aq α Z H l x->aq α Z H m y->bT i u α Z H (Z7 l m Ω) Q->C6 x y H Q):bt c i u (.Compare n [o5] [R] o) (m2 Z7 p ξ)/\jA c i u (.Compare n [o5] [R] o) (m2 Z7 p ξ):=
 ⟨iG (λq tb e f=>Gb a e f g) h j k,Hl (λq tb e f=>Ge a e f g) h j b k⟩
theorem Hm(w:c.A.units+64<É)(e:Ů o5 R=false)(j:bt c i u n p)(k:bt c i u R ξ):bt c i u (.Compare n [o5] [R] o) (m2 (aJ o5) p ξ)/\jA c i u (.Compare n [o5] [R] o) (m2 (aJ o5) p ξ):=by
 have V:=ke (o:=o) (nP w o5) e j k rY λm q x y r Z s H Q S a b g=>wz S a b g
 have d:∀{f g:D->D->az->aw D},bt c i u (.Compare n [o5] [R] o) (m2 f p ξ)/\jA c i u (.Compare n [o5] [R] o) (m2 f p ξ)->bt c i u (.Compare n [o5] [R] o) (m2 g p ξ)/\jA c i u (.Compare n [o5] [R] o) (m2 g p ξ)->bt c i u (.Compare n [o5] [R] o) (m2 (l_ f g) p ξ)/\jA c i u (.Compare n [o5] [R] o) (m2 (l_ f g) p ξ):=λh t=>by
  rw[rW];exact⟨h.1.alt t.1,h.2.alt t.2⟩
 have l:c.A.units+1<É:=by omega
 cases o5 with
 |In=>exact d V (ke (LY l) e j k yt λm q x y r Z s H Q S a b g=>Dy S a b g)
 |NotIn=>exact d V (ke (AB l) e j k yt λm q x y r Z s H Q S a b g=>Dy S a b g)
 |Is=>exact d (ke Ln e j k yu λm q x y r Z s H Q S a b g=>Dz (H:=false) (o5:=.Is) rfl S a b g) V
 |IsNot=>exact d (ke F_ e j k yu λm q x y r Z s H Q S a b g=>Dz (H:=true) (o5:=.IsNot) rfl S a b g) V
 |_=>exact V
def iT(Ω)(x:D):=match x with
 |.tup a=>some a
 |x=>cR Ω x
def LZ(x y:D)(Ω:az):aw D:=match iT Ω x,y with
 |some a,.int i=>match L2.jH a i with
  |some d=>.ok d Ω
  |none=>.bad
 |_,_=>.bad
def Hn(x y:D)(Ω:az):aw D:=match ux Ω x y with
 |some (some d)=>.ok d Ω
 |_=>.bad
def bc:=l_ LZ (l_ Hn (gX vV))
theorem n_(S:bB i z r a d)(c:aq z r d m A)(h:iT a m=some q):∃b e,A=.ref b/\(ly O d b e\/vz O d b e)/\aE (aq z r d) q e:=by
 unfold iT at h;split at h
 .cases h
  obtain⟨b,e,rfl,_,f,g⟩:=eh c;exact⟨b,e,rfl,.inr (yc (.inl f)),g⟩
 .obtain⟨b,e,rfl,f,g⟩:=bu S c h
  exact⟨b,e,rfl,.inl (lG f),g⟩
theorem Ho(r:aE Y7 q S)(h:L2.jH q J=some m):∃v,L2.jH S J=some v/\Y7 m v:=by
 unfold L2.jH at h ⊢;rw[r.length];cases a:L2.tL _ J with
 |none=>simp_all
 |some n=>rw[a]at h;exact r.get h
theorem Hq(K:c.A.units+1<É)(q:xQ R)(r:bt c i u n p)(s:bt c i u R ξ):bt c i u (.Subscript n R o) (m2 bc p ξ):=by
 unfold bc;rw[rW,rW];refine bt.alt ?_ (bt.alt ?_ ?_)
 .refine iG (λB tb h j=>JC BO h j q) r s λC D x y E Z F H Q S l m g=>?_
  unfold LZ at g;split at g
  .rename_i O a t
   obtain⟨b,G,rfl,h2,w⟩:=n_ S l t;subst m;split at g
   .rename_i d z
    obtain⟨v,I,J⟩:=Ho w z;rcases h2 with h2|h2
    .exact .inl ⟨b,G,a,v,rfl,rfl,h2,I,bT.ret S J g⟩
    .exact .inr (.inl ⟨b,G,a,v,rfl,rfl,h2,I,bT.ret S J g⟩)
   .exact g.elim
  .exact g.elim
 .refine iG (λB tb h j=>Gr K h j q) r s λC D x y E Z F H Q S l m g=>?_
  unfold Hn at g;split at g
  .rename_i d z
   obtain⟨n,P,rfl,t,h2,_⟩:=uy S l m z;obtain⟨f,rfl,w⟩:=h2 d rfl;exact⟨n,f,rfl,t,bT.ret S w g⟩
  .exact g.elim
 .refine iG (λB tb h j=>JC BO h j q) r s λC D x y E Z F H Q S l m g=>?_
  obtain⟨d,e,own,T,L,M,N,k⟩:=ic S l m g;exact LI (H:=false) L M (dS S) N k
def i_(n)(m:EM):=λc b=>if n=true then .ok none b else (m c b).bind λd a=>match d with
 |.int i=>.ok (some i) a
 |_=>.bad
def pw(x:D)(a b:Option Int)(Ω:az):aw D:=match x,cR Ω x with
 |_,some c=>gJ Ω (.lst (ef c a b))
 |.str z,none=>gK Ω (Cy (.str z) a b)
 |_,_=>.bad
def fJ(e:EM)(f:Bool)(g:EM)(i:Bool)(j:EM):EM:=λa k=>(e a k).bind λx b=>(i_ f g a b).bind λl c=>(i_ i j a c).bind λh d=>pw x l h d
def UI(X)(a:Str->b'->Prop)(b)(o:Option A')(n m):=(o=none/\n=true)\/∃e,o=some e/\n=false/\bt X a b e m
variable{Y8:Option A'}
theorem eu(h:UI c i u Y8 H p)(n o r m Ω):∃t,PO c Y8 t/\∀j a α Z Q,cQ i n o r α Z Ω m j a ->
  (match i_ H p m Ω with
   |.ok l AE=>∀f b Z',b_ α Z a b Z' f->bB i b Z' AE f->Q l f
   |.exc x AE=>∀f b Z',b_ α Z a b Z' f->bB i b Z' AE f->u x AE b Z' f
   |.bad=>False)->t j a Q:=by
 rcases h with ⟨rfl,rfl⟩|⟨e,rfl,rfl,w⟩
 .refine⟨_,by
   intro pins s j a Q I h;exact F' ⟨_,a,I,.none,h⟩,λj a α Z Q S k=>k a α Z (b_.refl S.st.has) S.st⟩
 .refine⟨_,Gj (w _ o r m Ω),λj a α Z Q S k=>⟨α,Z,S,?_⟩⟩
  simp only[i_,į,if_false]at k;rcases q:p m Ω with ⟨d,AE⟩|⟨x,AE⟩|_
  .rw[q]at k
   intro v y z A B C D;cases d with
   |int g=>exact⟨g,D,k y _ A B C⟩
   |_=>exact k.elim
  .rwa[q]at k
  .rwa[q]at k
variable{w6:EM}
theorem Hr{hi}(E:bt c i u n p)(V:UI c i u Y8 H ξ)(F:UI c i u hi E4 w6):bt c i u (.Subscript n (.Slice Y8 hi none P) o) (fJ p H ξ E4 w6):=by
 intro a f j e s;rcases q:p e s with ⟨d,m⟩|⟨x,m⟩|_
 .refine bx (eu V a f j e m) λtl w M=>?_
  rcases G:i_ H ξ e m with ⟨l,y⟩|⟨x,y⟩|_
  .obtain⟨N,t,I⟩:=eu F a f j e y
   refine PE.imp (h8 (r:=PY c.K) (jI.or nR) (E a f j e s) w t) ?_;rintro z b Q ⟨A,Z,S,g⟩;refine⟨A,Z,S,?_⟩;simp only[fJ,q,G,aw.bind]at g ⊢;intro v X B Y J O r1;have g:=bT.from J g
   have S1:=S.grow J O;refine M z X B Y _ S1 ?_;rw[G];intro H2 C Z2 L R;have g:=bT.from L g
   refine I z H2 C Z2 _ (S1.grow L R) ?_;rcases q3:i_ E4 w6 e y with ⟨h,a0⟩|⟨x,a0⟩|_
   .rw[q3]at g
    intro H3 b0 Z3 g3 T;have g:=bT.from g3 g
    have r3:=R.cH g3 (O.cH L r1);dsimp only[aw.bind]at g;unfold pw at g;split at g
    .rename_i ds hd
     obtain⟨D,vs,rfl,h1,h2⟩:=bu T r3 hd
     exact .inl ⟨D,vs,rfl,lG h1,er T (by
       unfold ef Gk;rw[h2.length];exact(h2.drop _).take _) g⟩
    ·
     subst r3;refine cg (jY (H:=false) T g) λown d U k=>?_
     simp only[Cy]at U;split at U
     .rename_i hs
      cases U;exact .inr ⟨_,rfl,bJ hs,k _ H3 _ _ (fk.refl T.dom) (.rep (gj rfl))⟩
     .cases U
    .exact g.elim
   .rw[q3]at g;exact g
   .rw[q3]at g;exact g
  .obtain⟨N,t,I⟩:=eu F a f j e m
   refine PE.imp (h8 (r:=PY c.K) (jI.or nR) (E a f j e s) w t) ?_;rintro z b Q ⟨A,Z,S,g⟩;refine⟨A,Z,S,?_⟩;simp only[fJ,q,G,aw.bind]at g ⊢;intro v X B Y J O r1;refine M z X B Y _ (S.grow J O) ?_;rw[G];intro H2 C Z2 L R;exact g H2 C Z2 (J.trans L) R
  .obtain⟨N,t,I⟩:=eu F a f j e m
   refine PE.imp (h8 (r:=PY c.K) (jI.or nR) (E a f j e s) w t) ?_;rintro z b Q ⟨A,Z,S,g⟩;simp only[fJ,q,G,aw.bind]at g;exact g.elim
 .obtain⟨tl,w,M⟩:=eu V a f j e s
  obtain⟨N,t,I⟩:=eu F a f j e s;refine PE.imp (h8 (r:=PY c.K) (jI.or nR) (E a f j e s) w t) ?_;rintro z b Q ⟨A,Z,S,g⟩;refine⟨A,Z,S,?_⟩;simp only[fJ,q,aw.bind]at g ⊢;exact g
 .obtain⟨tl,w,M⟩:=eu V a f j e s
  obtain⟨N,t,I⟩:=eu F a f j e s;refine PE.imp (h8 (r:=PY c.K) (jI.or nR) (E a f j e s) w t) ?_;rintro z b Q ⟨A,Z,S,g⟩;simp only[fJ,q,aw.bind]at g;exact g.elim
theorem PE.ex{b:Type}{t:b->TE}(h:∀i,PE c n (t i)):PE c n (λa H Q=>∃i,t i a H Q):=λpins s a H Q I  d =>xe d λi q=>h i _ s a H Q I q
theorem PT.ex{b:Type}{t:b->TT}(h:∀i,PT c n (t i)):PT c n (λa H Q=>∃i,t i a H Q):=λpins s a H Q I  d =>xe d λi q=>h i _ s a H Q I q
theorem PW.ex{b:Type}{t:b->TT}(h:∀i,PW c n (t i)):PW c n (λa H Q=>∃i,t i a H Q):=λd pins s a H Q I ⟨i,q⟩=>h i d _ s a H Q I q
theorem PA.ex{d:Type}{t:d->TA}(h:∀i,PA c Q (t i)):PA c Q (λb H a=>∃i,t i b H a):=λe pins s b H a I  f =>xe f λi q=>h i _ _ s b H a I q
def gY(c d:EM):EM:=λb e=>(c b e).bind λx a=>match jZ a x with
 |some true=>d b a
 |some false=>.ok x a
 |none=>.bad
def yv(c d:EM):EM:=λb e=>(c b e).bind λx a=>match jZ a x with
 |some false=>d b a
 |some true=>.ok x a
 |none=>.bad
def ew(b:EM):EM:=λc d=>(eE (b c d)).bind λt a=>.ok (.bl (!t)) a
def DA(c d e:EM):EM:=λb f=>(eE (c b f)).bind λt a=>if t=true then d b a else e b a
theorem ie(S:bB i z r a d)(c:aq z r d m A)(h:jZ a m=some H):tF O A d H:=by
 cases m with
 |non=>subst c;cases h;rfl
 |bl b=>subst c;cases h;rfl
 |int b=>subst c;cases h;rfl
 |str b=>
  subst c;have n:Now r d (.str b) (.str b):=by rfl
  exact LH n h
 |lst o=>
  cases h;obtain⟨e,j,rfl,f,g⟩:=bu S c rfl;refine .inl ⟨j,lG f,?_⟩;have:=g.length
  grind
 |tup o=>
  cases h;obtain⟨e,j,rfl,_,f,g⟩:=eh c;refine .inr (.inl ⟨j,yc (.inl f),?_⟩);have:=g.length
  grind
 |dct _ _=>exact bD h
 |ref k=>
  simp only[jZ]at h;split at h
  .rename_i o p
   cases h;obtain⟨e,j,rfl,f,g⟩:=bu (q:=o) S c (by simp only[cR,p])
   refine .inl ⟨j,lG f,?_⟩;have:=g.length
   grind
  .rename_i u p
   cases h;obtain⟨e,w,rfl⟩:=c;refine bx (S.cell p) λx l s=>bx s λt f g=>?_
   rw[w]at l;cases l
   refine .inr (.inr ⟨_,f,?_⟩);have:=g.length
   grind
  .exact bD h
theorem tv.use{f}(h:bT i u z r d (T9.bind f) ο)(k:∀t a,T9=.ok t a->∀e b j,b_ z r d b j e->bB i b j a e->bT i u b j e (f t a) ο->G9 t e):tv i u z r d T9 G9:=by
 cases T9 with
 |ok c a=>exact λe b j g s=>k c _ rfl e _ j g s (bT.from g h)
 |exc x a=>exact h
 |bad=>exact h
theorem tv.tst(h:tv i u z r d (eE D2) G9):bT i u z r d D2 (λv a=>∃t,tF O v a t/\G9 t a):=by
 cases D2 with
 |ok b c=>
  intro v a e f g s q;simp only[eE]at h;split at h
  .rename_i t j
   exact⟨t,ie s q j,h a _ f g s⟩
  .exact h.elim
 |exc x c=>exact h
 |bad=>exact h.elim
theorem Hs(b:bt c i u n p):bt c i u (.UnaryOp .Not n o) (ew p):=by
 intro a d e f h;refine PE.imp (GX (b a d e f h)) ?_;rintro r H Q ⟨j,Z,S,g⟩;refine⟨j,Z,S,?_⟩;have:=tv.use g λt k _ s l w x m q=>bT.ret m (aQ rfl) q
 exact this.tst
theorem Ht(e:jA c i u n p):jA c i u (.UnaryOp .Not n o) (ew p):=by
 intro a f j k l
 refine PT.imp (by
   intro pins s d H Q I h;exact isTrue_not ((e a f j k l) _ s d H _ I h)) ?_
 rintro d H Q ⟨m,Z,S,g⟩;refine⟨m,Z,S,?_⟩;simp only[ew]at g;cases q:eE _ with
 |ok t b=>rwa[q]at g
 |exc x b=>rwa[q]at g
 |bad=>rwa[q]at g
def JP(X)(b:Str->b'->Prop)(c e m):=∀a d f g h,PW X e (Xv b c a d f m g h)
theorem JP.pt{X a b e m}(h:JP X a b e m):jA X a b e m:=λc d f g i=>(h _ d f g i).pt
theorem Hu{d}(f:jA c i u n p):JP c i u (.BoolOp d [n] o) p:=λm g j k l=>by
 cases d with
 |And=>
   intro q pins s b H Q I h;refine isTrue_and (bV ((f _ g j k l) _ s b H Q I h) λa r e=>?_)
   cases a with
   |true=>exact isTrue_and_nil e
   |false=>exact e
 |Or=>
   intro q pins s b H Q I h;refine isTrue_or (bV ((f _ g j k l) _ s b H Q I h) λa r e=>?_)
   cases a with
   |false=>exact isTrue_or_nil e
   |true=>exact e
theorem Hv(w:jA c i u n p)(y:JP c i u (.BoolOp .And (R::Q) o) ξ):JP c i u (.BoolOp .And (n::R::Q) o) (gY p ξ):=by
 intro b m r f s;refine PW.imp (pw_and (w b m r f s) (PW.ex λa=>y b m r f a)) ?_
 rintro A H h ⟨z,Z,S,g⟩;refine⟨z,Z,S,?_⟩;simp only[gY]at g;cases q:p f s with
 |ok x a=>
  rw[q]at g;dsimp only[aw.bind]at g;simp only[eE];split at g
  .rename_i d
   rw[d];exact λt j k e l=>vM ⟨_,_,k,S.grow e l,tv.from e g⟩
  .rename_i d
   rw[d];simp only[eE,d]at g;exact λt j k e l=>vL (g t _ k e l)
  .exact g.elim
 |exc x a=>rwa[q]at g
 |bad=>rwa[q]at g
theorem L_(w:jA c i u n p)(y:JP c i u (.BoolOp .Or (R::Q) o) ξ):JP c i u (.BoolOp .Or (n::R::Q) o) (yv p ξ):=by
 intro b m r f s;refine PW.imp (pw_or (w b m r f s) (PW.ex λa=>y b m r f a)) ?_
 rintro A H h ⟨z,Z,S,g⟩;refine⟨z,Z,S,?_⟩;simp only[yv]at g;cases q:p f s with
 |ok x a=>
  rw[q]at g;dsimp only[aw.bind]at g;simp only[eE];split at g
  .rename_i d
   rw[d];exact λt j k e l=>vL ⟨_,_,k,S.grow e l,tv.from e g⟩
  .rename_i d
   rw[d];simp only[eE,d]at g;exact λt j k e l=>vM (g t _ k e l)
  .exact g.elim
 |exc x a=>rwa[q]at g
 |bad=>rwa[q]at g
theorem Hw(m:jA c i u D4 w6)(q:bt c i u n p)(r:bt c i u R ξ):bt c i u (.IfExp D4 n R o) (DA w6 p ξ):=by
 intro b d e f s;refine PE.imp (By (m b d e f s) (PE.ex λa=>q b d e f a) (PE.ex λa=>r b d e f a)) ?_
 rintro y H Q ⟨w,Z,S,g⟩;refine⟨w,Z,S,tv.use g λt a _ z x h j k l=>?_⟩
 cases t with
 |true=>exact vM ⟨_,_,h,S.grow j k,l⟩
 |false=>exact vL ⟨_,_,h,S.grow j k,l⟩
theorem Hx(D:jA c i u D4 w6)(E:jA c i u n p)(F:jA c i u R ξ):jA c i u (.IfExp D4 n R o) (DA w6 p ξ):=by
 intro h j k b y pins s l H Q I;rintro⟨G,Z,S,g⟩;simp only[DA]at g
 have r:Xv i u h j k w6 b y l H (λt f=>∃a d e,cQ i h j k d e a b l f/\tv i u d e f (eE (if t=true then p b a else ξ b a)) Q):=by
  refine⟨G,Z,S,?_⟩;cases q:eE _ with
  |ok t a=>
   rw[q]at g;exact λf d e z m=>⟨_,_,e,S.grow z m,tv.from z g⟩
  |exc x a=>rwa[q]at g
  |bad=>rwa[q]at g
 refine isTrue_IfExp (bV (D _ j k b y _ s l H _ I r) λv m J=>?_);refine bx J λf A w=>ek w λ_ _ e B C=>?_
 cases v with
 |true=>exact E _ j k b _ _ m l f Q A ⟨_,e,B,C⟩
 |false=>exact F _ j k b _ _ m l f Q A ⟨_,e,B,C⟩
def pz(g b:ð)(h i j:EM):EM:=λc k=>(h c k).bind λx d=>(i c d).bind λy e=>(eE (eT g x y e)).bind λt a=>if t=true then (j c a).bind λz f=>eT b y z f else .ok (.bl false) a
variable{C8:ð}
theorem DB(S:cQ i Q2 F4 υ z r a v F2 d)(g:bT i u z r d (pz o5 C8 p ξ w6 v a) ο):
  vF (CF o5) (CF C8) (tO i u Q2 F4 υ p v a) (λF2 d ο=>∃b,tO i u Q2 F4 υ ξ v b F2 d ο) (λF2 d ο=>∃b,tO i u Q2 F4 υ w6 v b F2 d ο) F2 d ο:=by
 refine⟨z,r,S,bT.use g λx b _ f U D E A h F G=>?_⟩
 refine⟨_,_,E,S.grow A h,bT.use G λy H _ w V I X B j C c=>?_⟩
 have J:=(S.grow A h).grow B j;refine wz (u:=u) j (h.cH B F) C ?_;cases q:eT o5 x y _ with
 |ok k l=>
  obtain⟨t,rfl⟩:=rY _ _ _ _ _ q;intro m Y K L n o M;refine⟨t,M,?_⟩;rw[q]at c;have e:=c;have e:=bT.from n e
  cases t with
  |true=>
   refine⟨_,_,L,J.grow n o,bT.use e λs N _ Z H4 O Z4 P Q R T=>wz Q (o.cH P (j.cH n C)) R T⟩
  |false=>
   exact bT.ret o (aQ rfl) e
 |exc x l=>rwa[q]at c
 |bad=>rwa[q]at c
theorem Hy(h:c.A.units+64<É)(j:ů [o5,C8] [R,D4]=false)(k:bt c i u n p)(l:bt c i u R ξ)(m:bt c i u D4 w6):bt c i u (.Compare n [o5,C8] [R,D4] o) (pz o5 C8 p ξ w6):=by
 intro a d e f q;refine PE.imp (BF (nP h o5) (nP h _) (k a d e f q) (PE.ex λb=>l a d e f b) (PE.ex λb=>m a d e f b) j) ?_
 rintro r H Q ⟨s,Z,S,g⟩;exact DB S g
theorem Mb(h:pz o5 C8 p ξ w6 v a=.ok m y):∃t,m=.bl t:=by
 simp only[pz]at h;cases b:p v a with
 |ok x d=>
  rw[b]at h;dsimp only[aw.bind]at h
  cases e:ξ v _ with
  |ok c f=>
   rw[e]at h;dsimp only[aw.bind]at h
   cases g:eE _ with
   |ok t i=>
    rw[g]at h;dsimp only[aw.bind]at h
    split at h
    .cases j:w6 v _ with
     |ok z k=>rw[j]at h;exact rY _ _ _ _ _ h
     |exc _ _=>simp_all
     |bad=>simp_all
    simp_all
   |exc _ _=>simp_all
   |bad=>simp_all
  |exc _ _=>simp_all
  |bad=>simp_all
 |exc _ _=>rw[b]at h;cases h
 |bad=>rw[b]at h;cases h
theorem Hz(j:c.A.units+64<É)(l:ů [o5,C8] [R,D4]=false)(m:bt c i u n p)(r:bt c i u R ξ)(s:bt c i u D4 w6):jA c i u (.Compare n [o5,C8] [R,D4] o) (pz o5 C8 p ξ w6):=by
 intro b f h e k;refine PT.imp (BG (nP j o5) (nP j _) (m b f h e k) (PE.ex λa=>r b f h e a) (PE.ex λa=>s b f h e a) l) ?_
 rintro E H Q ⟨F,Z,S,g⟩;refine DB S ?_;cases q:pz o5 _ p ξ w6 e k with
 |ok d a=>
  obtain⟨t,rfl⟩:=Mb q;rw[q]at g;intro v w y z B C D;exact⟨t,D,g w _ z B C⟩
 |exc x a=>rw[q]at g;exact g
 |bad=>rw[q]at g;exact g.elim
def fx(f:List D->Out Rs):List D->az->aw D:=λb a=>match bH (f_ a 8) b with
 |some c=>gK a (f c)
 |none=>.bad
variable{m6:List D->Out Rs}
theorem kf(b:bB i z r a d)(n:aE (aq z r d) q S)(h:bT i u z r d (fx m6 q a) ο):
  ∃j own g,aS (Hf z r) d j S/\m6 j=.ok (own,g)/\∀v l Z',fk (Hf z r) d Z' l->eS H own Z' d l g v->ο v l:=by
 unfold fx at h;split at h
 .rename_i j o
  refine cg (jY (H:=H) b h) λown g e k=>⟨j,_,g,ib (fw (S:=Rep _ d) (λm g v c f=>mE b 8 c f) o n),e,by grind⟩
 .exact h.elim
theorem AF(F0:P_ c b h m6)(l:cu b c.A)(m:Gl c h)(a:(h==("__debug__"))=false)(p:D' (n::Q) c.env=(false,eval n c.env)::D' Q c.env)(d:(À o (D' Q c.env)).any (·.1)=false)(q:rV c i u (n::Q) u0):
  bt c i u (.Call (.Name h P) (n::Q) [] o) (mN (fx m6) u0):=by
 refine bO F0.ex λf M N r s t F1=>?_
 intro e w x y z;refine PE.imp (rh F1 l m r s t .nil lF (q e w x y z) a p d) ?_;rintro O H j ⟨B,Z,S,g⟩;refine⟨B,Z,S,pv.use g λR C _ T U D V X k E F=>?_⟩
 rw[ę];obtain⟨G,own,I,J,K,L⟩:=kf k E F;exact⟨_,G,_,I,dS k,J,K,L⟩
def pA(f g:List D->az->aw D):=λa b=>lZ (f a b) (g a b)
def AG(xs:List D)(Ω:az):aw D:=match xs with
 |[x]=>match iT Ω x with
  |some a=>.ok (.int a.length) Ω
  |none=>.bad
 |_=>.bad
noncomputable def DC(xs:List D)(Ω:az):aw D:=match xs with
 |[.ref k]=>match Ω[k]? with
  |some (.dK a)=>.ok (.int a.length) Ω
  |some (.dF a)=>.ok (.int a.length) Ω
  |_=>.bad
 |_=>.bad
def og(xs:List D)(Ω:az):=match xs with
 |[x]=>match iT Ω x with
  |some a=>gJ Ω (.lst a)
  |none=>.bad
 |_=>.bad
noncomputable def fy:Key->D
 |.inl i=>.int i
 |.inr x=>.str x
def qu(xs:List D)(Ω:az):aw D:=match xs with
 |[x]=>match wx Ω x with
  |some a=>gJ Ω (.lst (a.map λb=>fy b.1))
  |none=>.bad
 |_=>.bad
def DD(xs:List D)(Ω:az):=match xs with
 |[x]=>match wx Ω x with
  |some a=>gJ Ω (.dK a)
  |none=>.bad
 |_=>.bad
def yw:D->Option (Key×D)
 |.tup [k,v]=>(kb k).map λk=>(k,v)
 |_=>none
def yy(xs:List D)(Ω:az):aw D:=match xs with
 |[x]=>match cR Ω x with
  |some b=>match bH yw b with
   |some c=>gJ Ω (.dK (c.foldl (λa p=>dG a p.1 p.2) []))
   |none=>.bad
  |none=>.bad
 |_=>.bad
def uz:=pA yy DD
def oh(xs:List D)(Ω:az):aw D:=match xs with
 |[.tup a]=>.ok (.tup a) Ω
 |[x]=>match cR Ω x with
  |some a=>.ok (.tup a) Ω
  |none=>.bad
 |_=>.bad
def Mc:List D->Out Rs
 |[.str z]=>if small z.length then .ok (false,.int z.length)else .bad
 |_=>.bad
def Md:List D->Out Rs
 |[.lst a]=>match gi a with|some bs=>.ok (false,.bl (bs.all id))|none=>.bad
 |_=>.bad
def Me:List D->Out Rs
 |[.lst a]=>match gi a with|some bs=>.ok (false,.bl (bs.any id))|none=>.bad
 |_=>.bad
def DE:mx->List D->Out Rs
 |.len=>Mc
 |.all=>Md
 |.any=>Me
 |_=>λ_=>.bad
def rZ(f):=fx (DE f)
def cb(f:mx):=match f with
 |.len=>pA AG (pA DC (rZ .len))
 |.list=>pA og qu
 |.tuple=>oh
 |f=>rZ f
theorem r_{g}:mN (pA v8 g) u0=d8 (mN v8 u0) (mN g u0):=by
 funext b a
 simp only[mN,d8];cases u0 b a with
 |ok x c=>rfl
 |exc x a=>rfl
 |bad=>rfl
variable{h9:List V->Hp->VK->Prop}{i6:String}
theorem gs(j:dq c (.builtin i6) h9)(k:Gl c h)(l:c.mg h=none)(m:Č h=some (.builtin i6))(p:h≠"__name__")(b:(h==("__debug__"))=false)(q:D' (n::Q) c.env=(false,eval n c.env)::D' Q c.env)(d:(À o (D' Q c.env)).any (·.1)=false)(r:rV c i u (n::Q) u0)(x:∀xs f α Z Ω H a,bB i α Z Ω H->aE (aq α Z H) xs f->bT i u α Z H (v8 xs Ω) a->h9 f H a):bt c i u (.Call (.Name h P) (n::Q) [] o) (mN v8 u0):=by
 intro e s t w Ω;refine PE.imp (m_ j k l m (r e s t w Ω) p b q d) ?_;rintro y H a ⟨α,Z,S,g⟩;exact⟨α,Z,S,pv.use g (by grind)⟩
theorem ig(j:dq c (.type i6) h9)(k:Gl c h)(l:c.mg h=none)(m:Č h=some (.type i6))(p:h≠"__name__")(b:(h==("__debug__"))=false)(q:D' (n::Q) c.env=(false,eval n c.env)::D' Q c.env)(d:(À o (D' Q c.env)).any (·.1)=false)(r:rV c i u (n::Q) u0)(x:∀xs f α Z Ω H a,bB i α Z Ω H->aE (aq α Z H) xs f->bT i u α Z H (v8 xs Ω) a->h9 f H a):bt c i u (.Call (.Name h P) (n::Q) [] o) (mN v8 u0):=by
 intro e s t w Ω;refine PE.imp (zW j k l m (r e s t w Ω) p b q d) ?_;rintro y H a ⟨α,Z,S,g⟩;exact⟨α,Z,S,pv.use g (by grind)⟩
theorem iH{Z H}:∀{b}{a},aS Z H b a->CG Z H b a
 |[],a,h=>h.nil_inv
 |d::b,a,h=>by
  obtain⟨v,r,rfl,c,e⟩:=h.cons_inv;exact⟨v,r,rfl,c.now,iH e⟩
theorem HE(f:bB i z r a d)(k:aE (aq z r d) q S)(g:bT i u z r d (qu q a) ο):∃b kvs,S=[V.ref b]/\Rd d b (.dK kvs)/\∀l,d l=none->ο (.ref l) (upd d l (.lst (kvs.map λh=>kV h.1))):=by
 unfold qu at g;split at g
 .split at g
  .rename_i kvs m
   obtain⟨v,j,rfl,n,o⟩:=k.cons_inv;rw[o.nil_inv];obtain⟨b,e,rfl,s,t⟩:=nY f n m;refine⟨b,_,rfl,s,er f ?_ g⟩
   have:∀{kvs:List _}{e:List _},gv (aq z r d) kvs e->aE (aq z r d) (kvs.map λh=>fy h.1) (e.map λh=>kV h.1):=λ{kvs e} c=>by
    induction c with
    |nil=>exact .nil
    |@cons p c _ _ w _ x=>
     refine .cons ?_ x
     show aq z r d (fy _) (kV _)
     rw[w.1];cases c.1<;>simp only[fy,kV,aq]
   exact this t
  .exact g.elim
 .exact g.elim
variable{R5:List (Key×V)}
def wA(S:bB i z r a d)(b:gv (aq z r d) Y R5)(k:bT i u z r d (gJ a (.dK Y)) ο):=λp e=>by
 obtain⟨f,g⟩:=S.laid (c:=.dK _) e λR h=>⟨_,aD,b.imp h⟩
 exact k _ _ _ _ g f (eo S p)
theorem HF(c:bB i z r a d)(h:aE (aq z r d) q S)(g:bT i u z r d (DD q a) ο):∃b kvs,S=[V.ref b]/\Rd d b (.dK kvs)/\∀l,d l=none->ο (.ref l) (upd d l (.dK kvs)):=by
 unfold DD at g;split at g
 .split at g
  .rename_i kvs j
   obtain⟨v,e,rfl,k,m⟩:=h.cons_inv;rw[m.nil_inv];obtain⟨b,f,rfl,n,o⟩:=nY c k j;exact⟨b,_,rfl,n,wA c o g⟩
  .exact g.elim
 .exact g.elim
theorem qv{α Z H}:∀{k}{g}{i},aE (aq α Z H) k g->bH yw k=some i->∃c,gv (aq α Z H) i c/\é (λp y=>∃b,y=.ref b/\Rd H b (.tup [kV p.1,p.2])) c g
 |[],g,i,r,h=>by cases h;rw[r.nil_inv];exact⟨[],.nil,.nil⟩
 |d::k,g,i,r,h=>by
  simp only[bH]at h;split at h
  .rename_i y A j l
   cases h;refine aP r.cons_inv λv m e n o=>?_;subst e
   obtain⟨c,q,s⟩:=qv o l;unfold yw at j;split at j
   .obtain⟨t,u,rfl⟩:=Ã.mp j
    refine bQ (eh n) λa B e _ w f=>?_;subst e
    obtain⟨u1,C,rfl,x,f⟩:=f.cons_inv;obtain⟨u2,E,rfl,z,f⟩:=f.cons_inv;obtain rfl:=f.nil_inv;obtain rfl:=gq u x;exact⟨(t,u2)::c,.cons ⟨rfl,z⟩ q,.cons ⟨a,rfl,.inl w⟩ s⟩
   .exact bD j
  .exact bD h
theorem HG(f:bB i z r a d)(w:aE (aq z r d) q S)(g:bT i u z r d (yy q a) ο):∃c n m,S=[V.ref c]/\Rd d c (.lst n)/\é (λ(p:Key×V) y=>∃b,y=.ref b/\Rd d b (.tup [kV p.1,p.2])) m n/\∀l,d l=none->ο (.ref l) (upd d l (.dK (m.foldl (λc p=>putK c p.1 p.2) []))):=by
 unfold yy at g;split at g
 .split at g
  .rename_i I x
   split at g
   .rename_i m A
    obtain⟨v,o,rfl,B,C⟩:=w.cons_inv;rw[C.nil_inv];obtain⟨c,n,rfl,D,E⟩:=bu f B x;obtain⟨j,F,G⟩:=qv E A;refine⟨c,n,_,rfl,D,G,wA f ?_ g⟩
    have:∀{m:List _}{j:List _}{k:List _}{e:List (Key×V)},gv _ k e->gv (aq z r d) m j->gv (aq z r d) (m.foldl (λc p=>dG c p.1 p.2) k) (j.foldl (λc p=>putK c p.1 p.2) e):=λ{m j k e} s h=>by
     induction h generalizing k e with
     |nil=>exact s
     |@cons p h _ _ t _ H=>
      simp;refine H ?_;rw[t.1];exact s.put _ t.2
    exact this .nil F
   .exact g.elim
  .exact g.elim
 .exact g.elim
theorem ei(h:aE Y7 [m] S):∃v,S=[v]/\Y7 m v:=by
 obtain⟨v,r,rfl,b,a⟩:=h.cons_inv;rw[a.nil_inv];simp_all
theorem HH{f}(p:c.calm=true)(M:f∈[mx.len,mx.all,mx.any,mx.list,mx.tuple])(C:Gl c f.nm)(D:c.mg f.nm=none)(E:D' (n::Q) c.env=(false,eval n c.env)::D' Q c.env)(j:(À o (D' Q c.env)).any (·.1)=false)(q:rV c i u (n::Q) u0):
  bt c i u (.Call (.Name f.nm P) (n::Q) [] o) (mN (cb f) u0):=by
 cases f with
 |len=>
  show bt c i u _ (mN (pA AG (pA DC (rZ .len))) u0)
  rw[r_,r_];refine bt.alt ?_ (bt.alt ?_ ?_)
  .refine gs rm C D adA (by decide) (by decide) E j q ?_
   intro J V A Z B H b S m g;unfold AG at g;split at g
   .split at g
    .rename_i F N
     obtain⟨v,rfl,z⟩:=ei m;obtain⟨l,G,rfl,I,L⟩:=n_ (O:=c.K) S z N;exact⟨l,G,rfl,I,by rw[L.length];exact bT.ret S (aQ rfl) g⟩
    .exact g.elim
   .exact g.elim
  .refine gs Ab C D adA (by decide) (by decide) E j q ?_
   intro J V A Z B H b S m g;unfold DC at g;split at g
   .obtain⟨v,rfl,z⟩:=ei m
    obtain⟨a,q,rfl⟩:=z;split at g
    .rename_i X Y
     obtain⟨a',s,t,h1,h2⟩:=S.cell Y;rw[q]at s;cases s
     exact⟨a,t,rfl,.inl h1,by rw[h2.length];exact bT.ret S (aQ rfl) g⟩
    .rename_i X Y
     obtain⟨a',s,of,t,h1,h2⟩:=S.cell Y;rw[q]at s;cases s
     exact⟨a,t,rfl,.inr ⟨of,h1⟩,by rw[h2.length];exact bT.ret S (aQ rfl) g⟩
    .exact g.elim
   .exact g.elim
  .refine gs rn C D adA (by decide) (by decide) E j q ?_
   intro R T A Z B H b S m g;obtain⟨F,own,d,w,e,k⟩:=kf (H:=false) S m g;have w:=iH w;have y:=dS S;replace e:Mc F=_:=e;unfold Mc at e;split at e
   .obtain⟨x,rfl,h⟩:=w.one
    cases dm h;split at e
    .rename_i hs
     cases e;exact⟨_,rfl,bJ hs,kQ y k rfl⟩
    .cases e
   .cases e
 |all=>
  refine gs (CT p) C D boot_all (by decide) (by decide) E j q ?_
  intro R T A Z B H b S m g;obtain⟨F,own,d,w,e,k⟩:=kf (H:=false) S m g;have w:=iH w;have y:=dS S;replace e:Md F=_:=e;unfold Md at e;split at e
  .obtain⟨x,rfl,h⟩:=w.one
   split at e
   .rename_i bs hb
    cases e;exact⟨_,_,bs,x,rfl,h,hb,kQ y k rfl⟩
   .cases e
  .cases e
 |any=>
  refine gs (CU p) C D boot_any (by decide) (by decide) E j q ?_
  intro R T A Z B H b S m g;obtain⟨F,own,d,w,e,k⟩:=kf (H:=false) S m g;have w:=iH w;have y:=dS S;replace e:Me F=_:=e;unfold Me at e;split at e
  .obtain⟨x,rfl,h⟩:=w.one
   split at e
   .rename_i bs hb
    cases e;exact⟨_,_,bs,x,rfl,h,hb,kQ y k rfl⟩
   .cases e
  .cases e
 |int=>simp at M
 |min=>simp at M
 |max=>simp at M
 |list=>
  show bt c i u _ (mN (pA og qu) u0)
  rw[r_];refine bt.alt ?_ (ig (vQ p) C D ac9 (by decide) (by decide) E j q λJ V A Z B H b S m g=>HE S m g)
  refine ig rz C D ac9 (by decide) (by decide) E j q ?_
  intro J V A Z B H b S m g;have g:bT i u A Z H (og J B) b:=g;unfold og at g;split at g
  .split at g
   .rename_i F N
    obtain⟨v,r,rfl,z,U⟩:=m.cons_inv;rw[U.nil_inv];obtain⟨l,G,rfl,I,L⟩:=n_ (O:=c.K) S z N;exact⟨l,G,rfl,I,er S L g⟩
   .exact g.elim
  .exact g.elim
 |tuple=>
  refine ig pb C D boot_tuple (by decide) (by decide) E j q ?_
  intro J V A Z B H b S m g;have g:bT i u A Z H (oh J B) b:=g;unfold oh at g;split at g
  .obtain⟨v,r,rfl,z,U⟩:=m.cons_inv
   rw[U.nil_inv];have a0:=z;obtain⟨l,G,rfl,_,I,L⟩:=eh z;exact⟨l,G,rfl,.inr ⟨yc (.inl I),bT.ret S a0 g⟩⟩
  .split at g
   .rename_i F N
    obtain⟨v,r,rfl,z,U⟩:=m.cons_inv;rw[U.nil_inv];obtain⟨l,G,rfl,I,L⟩:=bu S z N;exact⟨l,G,rfl,.inl ⟨lG I,uw S L g⟩⟩
   .exact g.elim
  .exact g.elim
 |sorted=>simp at M
 |bool=>simp at M
def yz(xs:List D)(Ω:az):=match xs with
 |[x]=>match cR Ω x with
  |some a=>match jQ a with
   |.ok b=>gJ Ω (.lst b)
   |_=>.bad
  |none=>.bad
 |_=>.bad
theorem uA{α Z H}:∀{c}{a}{b},yb c=some a->aE (aq α Z H) c b->b=a.map V.int
 |[],a,b,h,r=>by cases h;exact r.nil_inv
 |d::c,a,b,h,r=>by
  obtain⟨v,j,rfl,e,f⟩:=r.cons_inv;cases d with
  |int i=>
   obtain⟨k,g,rfl⟩:=Ã.mp (h);rw[e,uA g f];rfl
  |_=>exact bD h
theorem uB{α Z H}:∀{c}{a}{b},pY c=some a->aE (aq α Z H) c b->b=a.map V.str
 |[],a,b,h,r=>by cases h;exact r.nil_inv
 |d::c,a,b,h,r=>by
  obtain⟨v,j,rfl,e,f⟩:=r.cons_inv;cases d with
  |str i=>
   obtain⟨k,g,rfl⟩:=Ã.mp (h);rw[e,uB g f];rfl
  |_=>exact bD h
theorem oi{α Z H}{β:Type}{f g}(h:∀x,aq α Z H (f x) (g x)):∀xs:List β,aE (aq α Z H) (xs.map f) (xs.map g)
 |[]=>.nil
 |x::xs=>.cons (h x) (oi h xs)
theorem DF(q:Gl c "sorted")(s:c.mg "sorted"=none)(t:D' (n::Q) c.env=(false,eval n c.env)::D' Q c.env)(h:(À o (D' Q c.env)).any (·.1)=false)(w:rV c i u (n::Q) u0):
  bt c i u (.Call (.Name "sorted" P) (n::Q) [] o) (mN yz u0):=by
 refine gs As q s (by decide +kernel) (by decide) (by decide) t h w ?_
 intro C E F Z G H j S y g;unfold yz at g;split at g
 .split at g
  .rename_i I z
   obtain⟨v,r,rfl,A,B⟩:=y.cons_inv;rw[B.nil_inv];obtain⟨a,J,rfl,p,e⟩:=bu S A z;split at g
   .rename_i K b
    unfold jQ at b;split at b
    .cases b
    .rename_i d
     split at b
     .rename_i k l
      cases b;have m:=uA l e;subst m;exact⟨a,rfl,.inr ⟨k,lG p,(by have:=e.length;rw[Þ]at this;exact Ø (R' this) (afM d)),er S (oi (f:=D.int) (g:=V.int) (λx=>by simp only[aq]) _) g⟩⟩
     .split at b
      .rename_i k l
       cases b;have m:=uB l e;subst m;exact⟨a,rfl,.inl ⟨k,lG p,(by have:=e.length;rw[Þ]at this;exact Ø (R' this) (afM d)),er S (oi (f:=D.str) (g:=V.str) (λx=>by simp only[aq]) _) g⟩⟩
      .cases b
   .exact g.elim
  .exact g.elim
 .exact g.elim
def Xw(t):=Dw λd=>match Cz d t with|some b=>.ok (false,.bl b)|none=>.bad
noncomputable def Mf(t:Ty)(x:D)(Ω:az):aw D:=match x with
 |.ref k=>match Ω[k]? with
  |some (.lst _)=>.ok (.bl (t==.list)) Ω
  |some (.dK _)=>.ok (.bl (t==.dict)) Ω
  |_=>.bad
 |.lst _=>.ok (.bl (t==.list)) Ω
 |.tup _=>.ok (.bl (t==.tuple)) Ω
 |_=>.bad
def jl(t):=LS (Mf t) (Xw t)
def JQ(K:K'):List V->Hp->VK->Prop:=λd H Q=>∃a c t,d=[.ref a,.ty (Ty.id t)]/\((Rd H a (.lst c)/\Q (.bl (t==.list)) H)\/(Rd H a (.tup c)/\Q (.bl (t==.tuple)) H)\/(∃b,H a=some (.dK b)/\Q (.bl (t==.dict)) H))
theorem AH:dq c (.builtin "isinstance") (JQ c.K):=by
 intro pins s j H p w Q I r h;obtain⟨a,x,t,rfl,h⟩:=h;obtain⟨u,y,rfl,f,k⟩:=vals2 r;cases (k);refine cW (yh c.K t) λA B t3 C i g=>xa g λl m=>?_
 rcases h with ⟨b,q⟩|⟨b,q⟩|⟨n,b,q⟩
 .have e:∀d,EP c _ j Q _ _:=λd=>⟨.bl _,H,I.tok d,rfl,q⟩
  rcases b with b|⟨o,b⟩
  .exact cV I f (.lst b) i e
  .exact cV I f (.cI b) i e
 .cases f
  exact ý acC I.fF (lH (K:=c.K) I b) l (λz=>nomatch z) (λd=>⟨.bl _,H,I.tok d,rfl,q⟩)
 .exact cV I f (.dK b) m (λd=>⟨.bl _,H,I.tok d,rfl,q⟩)
theorem HI(D:Gl c "isinstance")(E:c.mg "isinstance"=none)(w:Gl c P5.nm)(y:c.mg P5.nm=none)(s:D' [n,ň P5.nm Q3] c.env=(false,eval n c.env)::D' [ň P5.nm Q3] c.env)(f:(À o (D' [ň P5.nm Q3] c.env)).any (·.1)=false)(t:bt c i u n p):
  bt c i u (.Call (.Name "isinstance" P) [n,.Name P5.nm Q3] [] o) (m1 (jl P5) p):=by
 have h:PE c (.Name P5.nm Q3) (tC (.ty P5.id)):=FW w y (by cases P5<;>decide +kernel) rfl (by cases P5<;>decide) (by cases P5<;>decide)
 unfold jl;rw[LU];refine bt.alt ?_ ?_
 .refine j_ (r:=λx H Q=>JQ c.K [x,.ty P5.id] H Q) (λI z=>m_ AH D E afN (fM z (fM h rf rfl) s) (by decide) (by decide) s f) t ?_
  intro J x L Z M H Q S e g;unfold Mf at g;split at g
  .split at g
   .rename_i k A B
    obtain⟨n,j,rfl,a,F⟩:=bu (q:=A) S e (by simp only[cR,B])
    exact⟨n,j,P5,rfl,.inl ⟨a,bT.ret S (aQ rfl) g⟩⟩
   .rename_i k N B
    obtain⟨n,t,rfl⟩:=e;refine bx (S.cell B) λR l C=>bx C λm a _=>?_
    rw[t]at l;cases l
    exact⟨n,[],P5,rfl,.inr (.inr ⟨m,a,bT.ret S (aQ rfl) g⟩)⟩
   .exact g.elim
  .rename_i A
   obtain⟨n,j,rfl,a,F⟩:=bu (q:=A) S e rfl;exact⟨n,j,P5,rfl,.inl ⟨a,bT.ret S (aQ rfl) g⟩⟩
  .obtain⟨n,j,rfl,_,a,F⟩:=eh e
   exact⟨n,j,P5,rfl,.inr (.inl ⟨.inl a,bT.ret S (aQ rfl) g⟩)⟩
  .exact g.elim
 .refine j_ (r:=λx H Q=>Qa c.K [x,.ty P5.id] H Q) (λI z=>m_ CV D E afN (fM z (fM h rf rfl) s) (by decide) (by decide) s f) t ?_
  intro J x L Z M H Q S e g;refine cX (uv (H:=false) S e g) λd own T O G k=>?_
  cases q:Cz d P5 with
  |none=>simp_all
  |some b=>
   rw[q]at G;cases G;exact⟨_,d,x,P5,b,rfl,O,q,kQ (dS S) k rfl⟩
def dH(b:az->D->Bool)(f:D->List D->az->aw D)(e:EM)(as:AM):EM:=λd g=>(e d g).bind λx a=>if b a x=true then (as d a).bind λh c=>f x h c else .bad
def sg(Ω x):=(cR Ω x).isSome
noncomputable def wB(_:az)(x:D):=match x with
 |.str _=>true
 |_=>false
theorem oj(S:bB i z r a d)(b:aq z r d m A)(h:sg a m=true):Ox O "list" A d:=by
 unfold sg at h;cases q:cR a m with
 |none=>simp_all
 |some g=>
  obtain⟨c,e,rfl,f,j⟩:=bu S b q;exact .inl ⟨rfl,e,lG f⟩
theorem yA(S:bB i z r a d)(b:aq z r d m A)(h:wB a m=true):Ox O "str" A d:=by
 cases m with
 |str c=>subst b;rfl
 |_=>cases h
theorem wC{cpos a}:∀{b},(∀e∈b,isStar e=false)->((À cpos (D' b a)).all (λx=>!x.1))=true
 |[],_=>rfl
 |e::b,h=>by
  rw[bC (h e (by simp))]
  show(!false&&(À _ _).all _)=true
  rw[wC (by grind)];rfl
variable{Ga:D->List D->az->aw D}{Q9:az->D->Bool}{m8:String}
theorem ij{r}(A:PlainAttrs i6)(slot:PySem.Slot i6 h m8)(k:typeOf (.builtin m8)=pure (.type "method_descriptor"))(B:Ow c m8 r)(hT:∀x v α Z Ω H,bB i α Z Ω H->aq α Z H x v->Q9 Ω x=true->Ox c.K i6 v H)(C:∀x v xs j α Z Ω H a,bB i α Z Ω H->aq α Z H x v->aE (aq α Z H) xs j->bT i u α Z H (Ga x xs Ω) a->r v j H a)(b:ø R h c.env (eval R c.env)=eval R c.env)(d:(o.endLine==P.line)=true)(D:bt c i u R p)(E:rV c i u (n::Q) u0)(l:∀z∈n::Q,isStar z=false)(q:(n::Q).length<20):bt c i u (.Call (.Attribute R h o) (n::Q) [] P) (dH Q9 Ga p u0):=by
 intro e s t w Ω
 refine PE.imp (L2.Pu A slot k B (D e s t w Ω) (PA.ex λf=>E e s t w f) b (by
  rw[wC l,decide_eq_true (by grind)];rfl) d (bC (by simp_all)) (bG (by grind))) ?_
 rintro σ H a ⟨α,Z,S,g⟩;refine⟨α,Z,S,bT.use g λx f _ v H1 F G I y J m=>?_⟩
 split at m
 .exact⟨by grind,_,_,G,S.grow I y,pv.use m λxs L _ j M N O T U X Y=>C x v xs j _ O _ M a U (y.cH T J) X Y⟩
 .exact m.elim
noncomputable def sj(Ω:az):D->Option (Nat×List D)
 |.ref k=>match Ω[k]? with
  |some (.lst a)=>some (k,a)
  |_=>none
 |_=>none
theorem ik(S:bB i z r a d)(e:aq z r d m A)(h:sj a m=some (b,q)):∃c f,A=.ref c/\z[b]?=some c/\d c=some (.lst f)/\aE (aq z r d) q f:=by
 cases m with
 |ref n=>
  simp only[sj]at h;split at h
  .rename_i j k
   simp only[aq]at e;refine bx (S.cell k) λo l g=>bx g λf p s=>?_
   simp_all
  .exact bD h
 |_=>exact bD h
theorem kg(e:bB i z r a d)(l:z[b]?=some j)(t:d j=some (.lst y6))(f:aE (aq z r d) q S)(n:aq z r d m A)(g:bT i u z r d (.ok m (a.set b (.lst q))) ο):ο A (upd d j (.lst S)):=by
 obtain⟨p,k⟩:=e.put (c:=.lst q) l (λo A h=>by simp_all) λR s=>⟨S,aD,f.imp s⟩
 exact g _ _ _ _ k p (e.cH k n)
def dU(x:D)(xs:List D)(Ω:az):aw D:=match sj Ω x,xs with
 |some (k,a),[y]=>if small (a.length+1)then .ok .non (Ω.set k (.lst (a++[y])))else .bad
 |_,_=>.bad
def il(x:D)(xs:List D)(Ω:az):aw D:=match sj Ω x,xs with
 |some (k,a),[.int i]=>if vW i=true then (match L2.tL a.length i with
  |some n=>match a[n]? with
   |some d=>.ok d (Ω.set k (.lst (a.eraseIdx n)))
   |none=>.bad
  |none=>.bad)else .bad
 |_,_=>.bad
def iI(x:D)(xs:List D)(Ω:az):aw D:=match sj Ω x,xs with
 |some (k,a),[.int i,y]=>if small (a.length+1)&&vW i then .ok .non (Ω.set k (.lst (rJ a i y)))else .bad
 |_,_=>.bad
def iJ(x:D)(xs:List D)(Ω:az):aw D:=match sj Ω x,xs with
 |some (k,a),[y]=>match sj Ω y with
  |some (_,b)=>if small (a.length+b.length)then .ok .non (Ω.set k (.lst (a++b)))else .bad
  |none=>.bad
 |_,_=>.bad
def ip(x)(xs:List D)(Ω:az):=match xs with
 |[y]=>gX (λa b=>match a with|.lst c=>vX .index (.lst c) (.tup [b])|_=>.bad) x y Ω
 |_=>.bad
def yB(x)(xs:List D)(Ω:az):=match xs with
 |[y]=>gX (λa b=>match a with
  |.str z=>(match b with
   |.lst c=>vX .join (.str z) (.tup [.lst c])
   |_=>.bad)
  |_=>.bad) x y Ω
 |_=>.bad
theorem mG(h:aE Y7 [m,η] S):∃v w,S=[v,w]/\Y7 m v/\Y7 η w:=by
 obtain⟨v,r,rfl,b,a⟩:=h.cons_inv;obtain⟨w,rfl,c⟩:=ei a
 grind
theorem AI(b:bB i z r a d)(c:aq z r d m A)(l:aE (aq z r d) q S)(g:bT i u z r d (dU m q a) ο):xR A S d ο:=by
 unfold dU at g;split at g
 .rename_i k w y n
  obtain⟨e,o,rfl,p,h,j⟩:=ik b c n;obtain⟨f,rfl,s⟩:=ei l;split at g
  .rename_i t
   have:=bJ t;exact⟨e,o,f,rfl,rfl,h,by rwa[j.length],kg b p h (j.append (.one s)) (aQ rfl) g⟩
  .exact g.elim
 .exact g.elim
theorem DG(b:bB i z r a d)(e:aq z r d m A)(s:aE (aq z r d) q S)(g:bT i u z r d (il m q a) ο):BR A S d ο:=by
 unfold il at g;split at g
 .rename_i k G f t
  obtain⟨h,w,rfl,x,p,j⟩:=ik b e t;obtain⟨c,rfl,y⟩:=ei s;subst y;split at g
  .rename_i l
   have H:=nL l;split at g
   .rename_i n B
    split at g
    .rename_i o C
     obtain⟨c,D,E⟩:=j.get C;obtain⟨F,I,J,K⟩:=ri B;exact⟨h,w,f,n,c,rfl,rfl,p,by omega,by omega,by rw[j.length];exact F,D,kg b x p (j.eraseIdx n) E g⟩
    .exact g.elim
   .exact g.elim
  .exact g.elim
 .exact g.elim
theorem AJ(b:bB i z r a d)(c:aq z r d m A)(o:aE (aq z r d) q S)(g:bT i u z r d (iI m q a) ο):yk A S d ο:=by
 unfold iI at g;split at g
 .rename_i k C e y p
  obtain⟨f,s,rfl,t,n,h⟩:=ik b c p;obtain⟨j,w,rfl,x,B⟩:=mG o;subst x;split at g
  .rename_i l
   simp at l;have:=bJ l.1;have D:=nL l.2;refine⟨f,s,e,w,rfl,rfl,n,by omega,by omega,by rwa[h.length],kg b t n ?_ (aQ rfl) g⟩
   unfold rJ;rw[h.length];exact(h.take _).append (.cons B (h.drop _))
  .exact g.elim
 .exact g.elim
theorem AK(c:bB i z r a d)(e:aq z r d m A)(p:aE (aq z r d) q S)(g:bT i u z r d (iJ m q a) ο):xS A S d ο:=by
 unfold iJ at g;split at g
 .rename_i k E y s
  obtain⟨f,t,rfl,w,j,l⟩:=ik c e s;obtain⟨h,rfl,x⟩:=ei p;split at g
  .rename_i n F B
   obtain⟨b,zs,rfl,G,C,o⟩:=ik c x B;split at g
   .rename_i D
    exact⟨f,b,t,zs,rfl,rfl,j,C,by rw[l.length,o.length];exact bJ D,kg c w j (l.append o) (aQ rfl) g⟩
   .exact g.elim
  .exact g.elim
 .exact g.elim
theorem DH(b:bB i z r a d)(f:aq z r d m A)(p:aE (aq z r d) q S)(g:bT i u z r d (ip m q a) ο):CY A S d ο:=by
 unfold ip at g;split at g
 .obtain⟨h,rfl,s⟩:=ei p
  refine bp (ic (H:=false) b f s g) λl e own B t w n=>xa n λc k=>?_
  cases l with
  |lst x=>
   (unfold vX at c;dsimp only at c)
   split at c
   .rename_i o
    simp only[Ö]at o;split at c
    .rename_i j y
     cases c;exact⟨_,x,e,h,j,rfl,t,w,o.1,o.2,y,kQ (dS b) k rfl⟩
    .exact vp c
   .exact vp c
  |_=>exact vp c
 .exact g.elim
theorem HJ(b:bB i z r a d)(f:aq z r d m A)(p:aE (aq z r d) q S)(g:bT i u z r d (yB m q a) ο):rJoin A S d ο:=by
 unfold yB at g;split at g
 .obtain⟨h,rfl,s⟩:=ei p
  refine bp (ic (H:=false) b f s g) λj e own C t w n=>xa n λc k=>?_
  cases j with
  |str l=>
   cases dm t;cases e with
   |lst x=>
    (unfold vX at c;dsimp only at c)
    split at c
    .rename_i y B
     split at c
     .rename_i o
      cases c;simp at o;exact⟨l,_,x,y,h,rfl,rfl,w,B,o.1,o.2,kQ (dS b) k rfl⟩
     .exact vp c
    .exact vp c
   |_=>exact vp c
  |_=>exact vp c
 .exact g.elim
inductive Src where
 |zip (x y:D)|seq (x:D)|ints (lo:Int) (n:Nat)|chars (z:Str)|Xx (x:D)|keys (k:Nat)|items (k:Nat)|vals (k:Nat)|Qv (k:Nat)
noncomputable def DI(xs c:List D):Option (List D):=if xs.length=c.length then some (afO (λa b=>.tup [a,b]) xs c)else none
def uC(Ω:az)(x y:D):Option (List D):=match cR Ω x,cR Ω y with
  |some a,some b=>DI a b
  |_,_=>none
def dr:Src->az->Option (List D)
 |.zip x y,Ω=>uC Ω x y
 |.seq x,Ω=>iT Ω x
 |.ints d n,_=>some (intsFrom d n)
 |.chars z,_=>some (z.cps.toList.map λc=>.str (bb c))
 |.Xx x,Ω=>(cR Ω x).map (eR 0)
 |.keys k,Ω=>match Ω[k]? with
  |some (.dF a)=>some (a.map λb=>fy b.1)
  |_=>none
 |.items k,Ω=>match Ω[k]? with
  |some (.dF a)=>some (a.map λb=>.tup [fy b.1,b.2])
  |_=>none
 |.vals k,Ω=>match Ω[k]? with
  |some (.dF a)=>some (a.map (·.2))
  |_=>none
 |.Qv k,Ω=>match Ω[k]? with
  |some (.dF a)=>some (eR 0 (a.map λb=>fy b.1))
  |_=>none
abbrev IM:=aZ->az->aw Src
def wD(j:Str->b'->Prop)(s)(J:It)(α:List b')(Z:b'->Prop)(H):=∀a f b c g,b_ α Z H a f c->bB j a f b c->dr s b=some g ->
 (∀i d,g[i]?=some d->J.go i c/\∀x e,J.Ub i c x e->∃h,b_ a f c a h e/\bB j a h b e/\aq a h e d x)/\∀i,g.length<=i->J.stop i c
def oW(e:Str->b'->Prop)(f:iS)(α:List b')(Z:b'->Prop)(H)(r:aw Src)(R:It->Hp->Prop):=match r with
 |.ok s b=>∀J c a d,b_ α Z H a d c->bB e a d b c->wD e s J a d c->R J c
 |.exc x b=>∀c a d,b_ α Z H a d c->bB e a d b c->f x b a d c
 |.bad=>False
noncomputable def tIO(b:Str->b'->Prop)(e:iS)(a:List b')(f:b'->Prop)(g:Hp)(m:IM)(c:aZ)(Ω:az):TI:=λh H R=>∃d Z,cQ b a f g d Z Ω c h H/\oW b e d Z H (m c Ω) R
def wF(X)(b:Str->b'->Prop)(c d e m):=∀a f g h i,PI X d e (tIO b c a f g m h i)
def srcOf(Ω:az)(x:D):aw Src:=match iT Ω x,x with
 |some _,x=>.ok (.seq x) Ω
 |none,.str z=>.ok (.chars z) Ω
 |none,.ref k=>(match Ω[k]? with
  |some (.dK a)=>.ok (.keys k) (Ω.set k (.dF a))
  |some (.dF _)=>.ok (.keys k) Ω
  |_=>.bad)
 |none,_=>.bad
def cf(m:EM):IM:=λb c=>(m b c).bind λx a=>srcOf a x
noncomputable def yC(Ω:az)(x:D):aw Src:=match x with
 |.ref k=>(match Ω[k]? with
  |some (.dK a)=>.ok (.items k) (Ω.set k (.dF a))
  |some (.dF _)=>.ok (.items k) Ω
  |_=>.bad)
 |_=>.bad
noncomputable def valOf(Ω:az)(x:D):aw Src:=match x with
 |.ref k=>(match Ω[k]? with
  |some (.dK a)=>.ok (.vals k) (Ω.set k (.dF a))
  |some (.dF _)=>.ok (.vals k) Ω
  |_=>.bad)
 |_=>.bad
def yD(m:EM):IM:=λb c=>(m b c).bind λx a=>valOf a x
def kZ(m:EM):IM:=λb c=>(m b c).bind λx a=>yC a x
noncomputable def yE(Ω:az)(x:D):aw Src:=match x with
 |.ref k=>(match Ω[k]? with
  |some (.dK a)=>.ok (.Qv k) (Ω.set k (.dF a))
  |some (.dF _)=>.ok (.Qv k) Ω
  |_=>.bad)
 |_=>.bad
def sm(m:EM):IM:=λb c=>(m b c).bind λx a=>match cR a x with
 |some _=>.ok (.Xx x) a
 |none=>yE a x
def lQ(xs:List D)(Ω:az):aw Src:=match xs with
 |[x,y]=>match uC Ω x y with
  |some _=>.ok (.zip x y) Ω
  |none=>.bad
 |_=>.bad
def uD(as:AM):IM:=λa b=>(as a b).bind lQ
def yF(xs:List D)(Ω:az):aw Src:=match xs with
 |[.int j]=>if vW j then .ok (.ints 0 j.toNat) Ω else .bad
 |_=>.bad
def fP(as:AM):IM:=λa b=>(as a b).bind yF
variable{x8:It->Hp->Prop}
theorem oW.from{a}(g:b_ z r d Q2 F4 υ)(h:oW i u z r d a x8):oW i u Q2 F4 υ a x8:=by
 cases a with
 |ok b c=>exact λv e f j k=>h v e _ j (g.trans k)
 |exc x c=>exact λe f j k=>h e _ j (g.trans k)
 |bad=>exact h
theorem oW.use{f}(h:oW i u z r d (D2.bind f) x8)(k:∀a b,D2=.ok a b->∀v e c j,b_ z r d c j e->bB i c j b e->aq c j e a v->oW i u c j e (f a b) x8->ο v e):bT i u z r d D2 ο:=by
 cases D2 with
 |ok a b=>exact λv e c j g s q=>k a _ rfl v e _ j g s q (oW.from g h)
 |exc x b=>exact h
 |bad=>exact h
theorem uE(t:aq z r d m (.ref j))(S:bB i z r a d)(u:(cR a m).isSome=true):wD i (.seq m) (Wu O j) z r d:=by
 intro w x c F A g s B;have C:∀f,m≠.tup f:=λf e=>by subst e;cases u
 have h:cR c m=some A:=by
  cases m with
  |tup f=>grind
  |_=>exact B
 obtain⟨G,k,e,l,p⟩:=bu s (S.cH g t) h;cases e;refine⟨λb n D=>?_,λb H=>⟨k,lG l,by rwa[p.length]⟩⟩
 obtain⟨v,q,E⟩:=p.get D;refine⟨⟨k,v,lG l,q⟩,λy I o=>?_⟩
 obtain⟨rfl,o⟩:=o;have:=o k (lG l);rw[q]at this;cases this;exact⟨x,b_.refl s.has,s,E⟩
theorem uF(A:z[b]?=some j)(B:d j=some (.cI i0 (.dK R5))):wD i (.keys b) (PC j i0) z r d:=by
 intro C D E I J g s h;have a:=g.cI j _ _ B;simp only[dr]at h;split at h
 .rename_i n F
  cases h;refine bx (s.cell F) λK e k=>cg k λL o t u=>?_
  rw[(g.pre b j A)]at e;cases e
  rw[a]at t;cases t
  have M:=u.length;refine⟨λc l w=>?_,λc N=>⟨_,a,by simp_all⟩⟩
  rw[ç]at w;obtain⟨p,G,rfl⟩:=Ã.mp w;obtain⟨q,y,H,_⟩:=aE.get u G;refine⟨⟨_,a,qP y⟩,λx O m=>?_⟩
  obtain⟨rfl,m⟩:=m;obtain⟨P,f,rfl⟩:=m _ a;rw[y]at f;cases f
  refine⟨D,b_.refl s.has,s,?_⟩;rw[H];cases q.1<;>simp only[fy,kV,aq]
 .exact bD h
theorem uG(B:z[b]?=some j)(C:d j=some (.cI i0 (.dK R5))):wD i (.vals b) (Qg j i0) z r d:=by
 intro D E F K L g s h;have k:=g.pre b j B;have a:=g.cI j _ _ C;simp only[dr]at h;split at h
 .rename_i n G
  cases h;obtain⟨M,e,N,o,t,u⟩:=s.cell G;rw[k]at e;cases e
  rw[a]at t;cases t
  have H:=u.length;refine⟨λc l w=>?_,λc y=>⟨R5,a,by rw[Þ]at y;exact B' (R' H) y⟩⟩
  rw[ç]at w;obtain⟨p,I,rfl⟩:=Ã.mp w;obtain⟨q,A,O,J⟩:=aE.get u I;refine⟨⟨R5,a,(Ì.mp A).1⟩,λx P m=>?_⟩
  obtain⟨rfl,m⟩:=m;obtain⟨Q,f,rfl⟩:=m R5 a;rw[A]at f;cases f
  exact⟨E,b_.refl s.has,s,J⟩
 .exact bD h
theorem qw(C:z[b]?=some j)(D:d j=some (.cI i0 (.dK R5))):wD i (.items b) (Qf j i0) z r d:=by
 intro E M F N O g s h;have a:=g.cI j _ _ D;simp only[dr]at h;split at h
 .rename_i o G
  cases h;refine bx (s.cell G) λP e k=>cg k λQ t u w=>?_
  rw[(g.pre b j C)]at e;cases e
  rw[a]at u;cases u
  have R:=w.length;refine⟨λc l y=>?_,λc S=>⟨_,a,by simp_all⟩⟩
  rw[ç]at y;obtain⟨p,H,rfl⟩:=Ã.mp y;obtain⟨q,A,I,J⟩:=aE.get w H;refine⟨⟨_,a,qP A⟩,λx T m=>?_⟩
  obtain⟨K,rfl,n,m⟩:=m;obtain⟨U,f,rfl⟩:=m _ a;rw[A]at f;cases f
  obtain⟨L,B⟩:=s.nU n True;refine⟨_,B,L,?_⟩;refine⟨K,_,rfl,.inr rfl,aD,bZ.mpr (.cons ?_ (.one (s.cH B J)))⟩;rw[I];cases q.1<;>simp only[fy,kV,aq]
 .exact bD h
theorem zip_get{e}(h:DI q j5=some e):q.length=j5.length/\e.length=q.length/\∀(i:Nat) d,e[i]?=some d->∃a b,q[i]?=some a/\j5[i]?=some b/\d=.tup [a,b]:=by
 unfold DI at h;split at h
 .rename_i g
  cases h;refine⟨g,by simp[g],λi d c=>?_⟩
  rw[List.getElem?_zipWith]at c;cases f:q[i]? with
  |none=>rw[f]at c;exact bD c
  |some a=>
   cases j:j5[i]? with
   |none=>rw[f,j]at c;exact bD c
   |some b=>rw[f,j]at c;cases c;exact⟨a,b,rfl,rfl,rfl⟩
 .exact bD h
theorem uH(S:bB i z r a d)(j:aq z r d m A)(k:aq z r d η G4)(h:uC a m η=some q):∃b c xs e f g,A=.ref b/\G4=.ref c/\Rd d b (.lst f)/\Rd d c (.lst g)/\DI xs e=some q/\aE (aq z r d) xs f/\aE (aq z r d) e g:=by
 unfold uC at h;split at h
 .rename_i xs e l n
  obtain⟨b,f,rfl,o,p⟩:=bu S j l;obtain⟨c,g,rfl,s,t⟩:=bu S k n;exact⟨b,c,xs,e,f,g,rfl,rfl,o,s,h,p,t⟩
 .exact bD h
theorem HK(S:bB i z r a d)(G:aq z r d m (.ref j))(H:aq z r d η (.ref N)):wD i (.zip m η) (WV j N) z r d:=by
 intro I J K Z ds g s L;obtain⟨a',c',xs,ys,h,k,M,O,l,n,P,B,C⟩:=uH s (S.cH g G) (S.cH g H) L;cases M;cases O;obtain⟨hl,Q,R⟩:=zip_get P;have T:=B.length;have l2:=C.length;refine⟨λb c o=>?_,λb o=>⟨h,k,l,n,B' (B' (R' T) (R' Q.symm)) o⟩⟩
 obtain⟨p,q,U,V,rfl⟩:=R b c o;obtain⟨v,D,X⟩:=B.get U;obtain⟨w,Y,t⟩:=C.get V;refine⟨⟨h,k,l,n,by omega,(Ì.mp D).1⟩,λu H2 x=>?_⟩
 obtain⟨y,rfl,A,x⟩:=x;obtain⟨u',v',E,e,rfl⟩:=x h k l n;rw[D]at E;cases E
 rw[Y]at e;cases e
 obtain⟨F,f⟩:=s.nU (j:=y) (m4:=.tup [v,w]) A True;simp only[if_true]at F f;refine⟨Zp J y,f,F,?_⟩;simp only[aq];exact⟨y,_,rfl,.inr rfl,aD,bZ.mpr (.cons (s.cH f X) (.one (s.cH f t)))⟩
theorem oW.Xy{f}(h:oW i u z r d (v9.bind f) x8)(k:∀l a,v9=.ok l a->∀m c b j,b_ z r d b j c->bB i b j a c->aE (aq b j c) l m->oW i u b j c (f l a) x8->i9 m c):pv i u z r d v9 i9:=by
 cases v9 with
 |ok e a=>exact λv c b j g s q=>k e a rfl v c b j g s q (oW.from g h)
 |exc x a=>exact h
 |bad=>exact h
theorem HL(p:Gl c "zip")(q:c.mg "zip"=none)(r:rV c i u [n,R] u0)(s:D' [n,R] c.env=(false,eval n c.env)::D' [R] c.env)(e:(À Q3 (D' [R] c.env)).any (·.1)=false):
  wF c i u (.Tuple Q b o) (.Call (.Name "zip" P) [n,R] [] Q3) (uD u0):=by
 intro f t z A B;refine PI.imp (LO p q (r f t z A B) s e) ?_;rintro U H h ⟨C,Z,S,g⟩;refine⟨C,Z,S,oW.Xy g λD E _ k F j G V d I a=>?_⟩
 unfold lQ at a;split at a
 .rename_i x y
  split at a
  .rename_i X J
   obtain⟨v,w,rfl,l,m⟩:=mG I;obtain⟨K,L,D,Y,k,M,rfl,rfl,N,O,T,r3,r4⟩:=uH d l m J;exact⟨K,L,k,M,rfl,N,O,a _ F j G (b_.refl d.has) d (HK d l m)⟩
  .exact a.elim
 .exact a.elim
theorem HM(h:bt c i u n p):wF c i u R n (cf p):=by
 intro M Z0 H0 ρ Ω;refine PI.imp (GZ (h M Z0 H0 ρ Ω)) ?_;rintro σ H A ⟨α,Z,S,g⟩;refine⟨α,Z,S,oW.use g λx F _ v E f r g1 e t j=>?_⟩
 cases x with
 |tup es=>
  obtain⟨a,q,rfl,_,k,w⟩:=eh t
  exact .inr (.inl ⟨a,q,rfl,.inl k,j _ E f r (b_.refl e.has) e (by
    intro f r F E V g s N;cases N;refine bQ (eh (e.cH g t)) λX q n _ k w=>?_
    cases n;refine⟨λb d G=>?_,λb O=>⟨q,yc (.inl k),by rwa[w.length]⟩⟩
    refine bx (w.get G) λv Y rv=>?_
    refine⟨⟨q,v,yc (.inl k),Y⟩,λy H2 I=>?_⟩
    obtain⟨rfl,I⟩:=I;have:=I q (yc (.inl k));rw[Y]at this;cases this;exact⟨r,b_.refl s.has,s,rv⟩)⟩)
 |lst es=>
  obtain⟨a,q,rfl,k,w⟩:=bu e t rfl;exact .inl ⟨a,q,rfl,k,j _ E f r (b_.refl e.has) e (uE t e rfl)⟩
 |ref B=>
  cases C:cR F (.ref B)with
  |none=>
   simp only[srcOf,iT,C]at j;obtain⟨a,J,rfl⟩:=t;split at j
   .rename_i K P
    obtain⟨X,m,l,k,w⟩:=e.cell P;rw[J]at m;cases m
    refine .inr (.inr (.inr ⟨a,l,rfl,.inl ⟨k,λo=>?_⟩⟩))
    obtain⟨L,g2⟩:=e.put (c:=.dF K) J (λo Q z=>by simp_all) λA hR=>⟨o,l,aD,w.imp hR⟩
    exact j _ _ f r g2 L (uF J aD)
   .rename_i K P
    refine bx (e.cell P) λX m T=>cg T λo l k w=>?_
    rw[J]at m;cases m
    exact .inr (.inr (.inr ⟨a,l,rfl,.inr ⟨o,k,j _ E f r (b_.refl e.has) e (uF J k)⟩⟩))
   .exact j.elim
  |some V=>
   simp only[srcOf,iT,C]at j;obtain⟨a,q,rfl,k,w⟩:=bu e t C;exact .inl ⟨a,q,rfl,k,j _ E f r (b_.refl e.has) e (uE t e (by simp_all))⟩
 |str z=>
  subst t;refine .inr (.inr (.inl ⟨z,rfl,j _ E f r (b_.refl e.has) e ?_⟩));intro a0 Z2 b0 H2 V g2 L N;cases N;refine⟨λb d G=>?_,λb O=>by show z.cps.size<=b;simp_all⟩
  have O:b<z.cps.size:=by
   grind
  refine⟨O,λy H3 I=>?_⟩
  obtain⟨rfl,D,hc,rfl⟩:=I;rw[ç]at G;have U:z.cps.toList[b]?=some D:=by simp_all
  rw[U]at G;cases G;exact⟨Z2,b_.refl L.has,L,aQ rfl⟩
 |non=>exact j.elim
 |bl _=>exact j.elim
 |int _=>exact j.elim
 |dct _ _=>exact j.elim
theorem oW.Xz{f}(h:oW i u z r d (v9.bind f) x8)(k:∀l a,v9=.ok l a->∀m c b j,b_ z r d b j c->bB i b j a c->aE (aq b j c) l m->oW i u b j c (f l a) x8->i9 m c):pv i u z r d v9 i9:=by
 cases v9 with
 |ok e a=>exact λv c b j g s q=>k e _ rfl v c _ j g s q (oW.from g h)
 |exc x a=>exact h
 |bad=>exact h
theorem DJ(t:Gl c "range")(w:c.mg "range"=none)(x:rV c i u [n] u0)(f:D' [n] c.env=[(false,eval n c.env)]):wF c i u R (.Call (.Name "range" P) [n] [] o) (fP u0):=by
 intro h z A B C;refine PI.imp (zR t w (x h z A B C) f) ?_;rintro I H j ⟨D,Z,S,g⟩;refine⟨D,Z,S,oW.Xz g λJ k _ K p l m L q E e=>?_⟩
 unfold yF at e;split at e
 .obtain⟨v,rfl,F⟩:=ei E
  subst F;split at e
  .rename_i a
   have a:=nL a
   exact⟨_,rfl,a.1,a.2,e _ p _ m (b_.refl q.has) q (by
     intro l m k p M g s f;cases f;refine⟨λb d r=>?_,λb a=>by rwa[jU]at a⟩
     have a:=(Ì.mp r).1;rw[jU]at a;refine⟨a,λy N G=>?_⟩
     obtain⟨rfl,rfl⟩:=G;rw[ints_get _ _ _ _ r];exact⟨m,b_.refl s.has,s,aQ rfl⟩)⟩
  .exact e.elim
 .exact e.elim
noncomputable def uI(n:Nat)(d:D):Option aZ:=match n,d with
 |0,d=>some [some d]
 |n,.tup a=>if a.length=n then some (a.map some)else none
 |_,_=>none
noncomputable def eU(a:List Nat)(b:aZ):aZ:=a.map λi=>(b[i]?).join
def ki(a)(b:EM)(c Ω):=if a=true then .ok true Ω else eE (b c Ω)
def tA(e:Bool)(g h:EM)(n:Nat)(c:aZ)(b:Src):Nat->Nat->List D->az->aw (List D)
 |0,_,_,_=>.bad
 |f+1,i,a,Ω=>match dr b Ω with
  |none=>.bad
  |some l=>match l[i]? with
   |none=>.ok a Ω
   |some d=>match uI n d with
    |none=>.bad
    |some k=>if small (a.length+1)then match ki e g (k++c) Ω with
     |.ok true AE=>match h (k++c) AE with
      |.ok y j=>tA e g h n c b f (i+1) (a++[y]) j
      |_=>.bad
     |.ok false AE=>tA e g h n c b f (i+1) a AE
     |_=>.bad else .bad
def cD(e:EM)(f:Bool)(g:EM)(h:IM)(n:Nat)(b:List Nat):EM:=λd i=>match h d i with
 |.ok s a=>match tA f g e n (eU b d) s fuel 0 [] a with
  |.ok j c=>gJ c (.lst j)
  |_=>.bad
 |.exc x a=>.exc x a
 |.bad=>.bad
noncomputable def lR:iS:=λ_ _ _ _ _=>False
theorem uJ(e:cQ i Q2 F4 υ z r a v F2 d)(g:b_ z r d A9 La k9)(s:bB i A9 La y k9)(f:aE (aq A9 La k9) q S):
  cQ i A9 La k9 A9 La y (q.map some++eU T v) (S.map some++ug T F2) k9:=by
 have o:=f.length;refine⟨s,b_.refl s.has,?_,λb l h=>?_⟩
 .unfold ug eU
  simp_all
 .by_cases p:b<q.length
  .rw[ê (by simp_all),ç]at h
   rw[ê (by simp_all)]
   cases c:q[b]? with
   |none=>simp_all
   |some t=>
    rw[c]at h;obtain⟨k,n,m⟩:=f.get c
    simp_all
  .rw[ħ (by simp_all)]at h
   rw[ħ (by simp_all)]
   unfold eU at h;unfold ug;rw[Þ,ç]at h;cases c:T[b - q.length]? with
   |none=>simp_all
   |some j=>
    obtain⟨k,n,m⟩:=e.val j l (by
     grind)
    refine⟨k,?_,e.st.cH g m⟩
    simp_all
theorem b_.JR(g:b_ z r d Q2 F4 υ)(a:j∉z)(h:d j=some m4):j∉Q2:=λq=>by
 rcases g.JO j q with q|q
 .exact a q
 grind
theorem b_.Mg(g:b_ z r d Q2 F4 υ)(a:¬ r j)(h:d j=some m4):¬ F4 j:=λq=>by
 rcases g.new j q with q|q
 .exact a q
 grind
theorem b_.side(g:b_ z r d Q2 F4 υ)(c:j∉z)(h:d j=Option.none):b_ z r d Q2 F4 (upd υ j m4):=
 ⟨g.pre,g.sub,g.new,g.JO,λb u e a=>by rw[ax (aW e h)];exact g.frm b u e a,λb a=>by rw[ax (λ(q)=>c (by simp_all))];exact g.has b a,λb f u e=>by rw[ax (aW e h)];exact g.cI b f u e⟩
theorem HN(h:uI b m=some v):∃a:List D,v=a.map some:=by
 unfold uI at h;split at h
 .cases h;exact⟨[m],rfl⟩
 .grind
 .exact bD h
theorem bB.part(f:bB i z r a d)(o:d j=some (.lst S))(s:j∉z)(hz:¬ r j)(h:aE (aq z r d) q S):bB i (z++[j]) r (a++[.lst q]) d:=by
 have mono:∀k v,aq z r d k v->aq (z++[j]) r d k v:=λk v h=>h.mono (λn g e=>by rwa[ê (qP e)]) (λ_ _ _ e=>e) λ_ l=>l
 refine⟨?_,?_,λg ha m=>?_,f.dom⟩
 .refine ā.mpr ⟨f.uu,by simp,λg ha b t e=>?_⟩
  simp_all
 .exact aE.append (f.Dv.imp λc g p=>p.imp mono (λ_ e=>e) λ_ _ _ e=>e) (.one ⟨S,o,h.imp mono⟩)
 .rcases Ô.mp ha with ha|ha
  .exact f.sep g ha m
  simp_all
theorem bB.side(S:bB i z r a d)(s:j∉z)(hz:¬ r j)(w:∀m4 u,d j≠some (.cI m4 u)):bB i z r a (upd d j m4)/\∀g v,aq z r d g v->aq z r (upd d j m4) g v:=by
 have mono:∀g v,aq z r d g v->aq z r (upd d j m4) g v:=λg v l=>l.mono (λ_ _ e=>e) (λf u k e=>by rwa[ax (λ(q)=>hz (by simp_all))]) λ_ k=>k
 have o:∀{n:List _}{m:List _},(∀f∈m,f∈z)->aE (λc f=>h_ i (aq z r d) d f c) n m->aE (λc f=>h_ i (aq z r (upd d j m4)) (upd d j m4) f c) n m:=by
  intro n m x y
  induction y with
  |nil=>exact .nil
  |@cons c f n m l t C=>
   have p:f≠j:=λq=>s (by simp_all)
   exact .cons (l.imp mono (λu e=>by rwa[ax p]) λb A B e=>by rwa[ax (λq=>w A B (by simp_all))]) (by simp_all)
 exact⟨⟨S.uu,o (λf h=>h) S.Dv,S.sep,λf k=>by rw[ax (λ(q)=>hz (by simp_all))];exact S.dom f k⟩,mono⟩
variable{D3:IM}
theorem qx(u0:wF c i u n R D3)(v0:∀d (ds:List D) x α Z Ω g r k,uI b d=some (ds.map some)->bB i α Z Ω g->aq α Z g d x->(∀vs,aE (aq α Z g) ds vs->k (vs.map some++r) g)->Y6 x (Ŕ l.length none++r) g k)(hb:∀N C j m fp,PG (blk c π N C (l++M0) j m fp) n Y6/\((Q=[]/\H=true)\/∃F,Q=[F]/\H=false/\jA (blk c π N C (l++M0) j m fp) i lR F ξ)/\bt (blk c π N C (l++M0) j m fp) i lR D4 p):
  ∀a0 Z0 H0 ρ Ω,∃wi tc te,PI c n R wi/\(∀N C j m fp,PG (blk c π N C (l++M0) j m fp) n Y6/\JM (blk c π N C (l++M0) j m fp) Q tc/\PE (blk c π N C (l++M0) j m fp) D4 te) /\
   ∀σ g h,tO i u a0 Z0 H0 (cD p H ξ D3 b T) ρ Ω σ g h->p_ wi l.length T Y6 tc te σ g h:=by
 intro a0 Z0 H0 ρ Ω
 let tc:TT:=λr g h=>∃α Z Ω w,cQ i α Z g α Z Ω w r g/\tv i lR α Z g (ki H ξ w Ω) h
 let te:TE:=λr g h=>∃α Z Ω w,cQ i α Z g α Z Ω w r g/\bT i lR α Z g (p w Ω) h
 refine⟨_,tc,te,u0 a0 Z0 H0 ρ Ω,(by
  intro N C j m fp;refine kH (hb N C j m fp) λh1 h2 h3=>?_
  refine⟨h1,?_,?_⟩
  .rcases h2 with ⟨e,hn⟩|⟨F,e,hn,h2⟩
   .subst e
    intro pins s r g h I q;refine ee q λα Z Ω w S k=>?_
    rw[ki,if_pos hn]at k;exact GP pins s r g h I (k g α Z (b_.refl S.st.has) S.st)
   .subst e
    intro pins s r g h I q;refine ee q λα Z Ω w S k=>?_
    rw[ki,if_neg (by rw[hn];exact ϑ)]at k
    exact GQ (h2 α Z g w Ω) pins s r g h I ⟨α,Z,S,k⟩
  .intro pins s r g h I q
   refine ee q λα Z Ω w S k=>?_
   exact h3 α Z g w Ω pins s r g h I ⟨α,Z,S,k⟩),?_⟩
 rintro σ g h ⟨α,Z,S,k⟩;refine⟨α,Z,S,?_⟩;simp only[cD]at k;cases qi:D3 ρ Ω with
 |exc x b0=>rw[qi]at k;exact k
 |bad=>rw[qi]at k;exact k.elim
 |ok c0 b0=>
  rw[qi]at k;dsimp only at k;intro J H1 d0 Z1 g1 s1 w1 L hD;cases qg:tA H ξ p b (eU T ρ) c0 fuel 0 [] b0 with
  |exc x j0=>rw[qg]at k;exact k.elim
  |bad=>rw[qg]at k;exact k.elim
  |ok ys j0=>
   rw[qg]at k;have Y:¬ Z1 L:=λz=>s1.dom L z hD
   have G:L∉d0:=λz=>s1.has L z hD
   refine⟨λt f vs H2=>∃A Z2 B K,b_ d0 Z1 H1 A Z2 H2/\bB i A Z2 B H2/\L∉A/\¬ Z2 L/\H2 L=some (.lst vs)/\aE (aq A Z2 H2) K vs/\tA H ξ p b (eU T ρ) c0 f t K B=.ok ys j0,
    ⟨fuel,d0,Z1,b0,[],?_,?_,G,Y,aD,.nil,qg⟩,?_⟩
   .exact⟨λ_ _ e=>e,λ_ z=>z,λ_ z=>.inl z,λ_ z=>.inl z,λa o e _=>by rw[ax (aW e hD)];exact e,λa ha=>by rw[ax (λ(q:a=L)=>G (by rw[←q];exact ha))];exact s1.has a ha,λa o e0 e=>by rw[ax (aW e hD)];exact e⟩
   .exact(s1.side G Y (by grind)).1
   rintro t f vs H2 ⟨A,Z2,B,K,M,s2,nD,nZ,O,r2,E⟩;refine⟨O,?_⟩;cases f with
   |zero=>cases E
   |succ f=>
    simp only[tA]at E;cases qs:dr c0 B with
    |none=>simp_all
    |some ds=>
     rw[qs]at E;dsimp only at E;obtain⟨w0,x0⟩:=w1 A Z2 B H2 ds M s2 qs;cases qd:ds[t]? with
     |none=>
      rw[qd]at E;cases E;refine .inl ⟨x0 t (List.getElem?_eq_none_iff.mp qd),?_⟩
      exact k _ H2 _ Z2 (g1.trans ⟨λb a e=>by rw[ê (Ì.mp (M.pre b a e)).1];exact M.pre b a e,M.sub,M.new,λa ha=>by
       rcases Ô.mp ha with ha|ha
       .exact M.JO a ha
       .rw[è.mp ha];exact .inr hD,M.frm,M.has,M.cI⟩) (s2.part O nD nZ r2) (eo s2 L)
     |some d=>
      rw[qd]at E;dsimp only at E;obtain⟨y0,z0⟩:=w0 t d qd;cases qt:uI b d with
      |none=>simp_all
      |some ts=>
       rw[qt]at E;dsimp only at E;obtain⟨es,rfl⟩:=HN qt
       by_cases P:small (K.length+1)=true
       .rw[if_pos P]at E
        have P:=bJ P;refine .inr ⟨y0,by rw[r2.length];exact P,λx H3 yl=>?_⟩
        refine ay (z0 x H3 yl) λZ3 g3 s3 rx=>?_
        have g0:=g3.frm L _ O nD;refine v0 d es x A Z3 B H3 (ug T σ) _ qt s3 rx λws l0=>?_
        have gB:=g1.trans (M.trans g3);refine⟨A,Z3,B,_,(uJ (T:=T) S gB s3 l0),?_⟩;cases qc:ki H ξ _ B with
        |exc x U=>simp_all
        |bad=>simp_all
        |ok h0 U=>
         rw[qc]at E;intro H5 m0 Z5 V s5;have i0:=V.JR nD g0;have o0:=V.Mg (g3.Mg nZ O) g0;have X:=V.frm L _ g0 nD;cases h0 with
         |false=>
          exact⟨f,ϓ _,m0,Z5,U,K,M.trans (g3.trans V),s5,i0,o0,X,s3.lO V (s2.lO g3 r2),E⟩
         |true=>
          dsimp only at E;refine⟨m0,Z5,U,_,(uJ (T:=T) S (gB.trans V) s5 (s3.lO V l0)),?_⟩;cases qe:p _ U with
          |exc x p0=>simp_all
          |bad=>simp_all
          |ok y p0=>
           rw[qe]at E;intro v H6 A0 Z6 g6 s6 rv;have r0:=g6.JR i0 X;have s0:=g6.Mg o0 X;have t0:=g6.frm L _ X i0;obtain⟨s7,m7⟩:=s6.side r0 s0 (λo e0 z=>by rw[t0]at z;cases z)
           refine⟨t0,f,ϓ _,A0,Z6,p0,K++[y],((M.trans (g3.trans V)).trans g6).side G hD,s7,r0,s0,aD,((s5.lO g6 (s3.lO V (s2.lO g3 r2))).append (.one rv)).imp m7,E⟩
       simp_all
theorem om(s:wF c i u (.Name h o) n D3)(G:π.names.lookup h=some .local)(t:([h]++l).Nodup)(I:∀q C b f fp,((Q=[]/\H=true)\/∃j,Q=[j]/\H=false/\jA (blk c π q C ([h]++l) b f fp) i lR j ξ)/\bt (blk c π q C ([h]++l) b f fp) i lR R p):
  ∀w J K L Ω,∃z A B,PI c (.Name h o) n z/\(∀q C b f fp,PG (blk c π q C ([h]++l) b f fp) (.Name h o) (jC 0)/\JM (blk c π q C ([h]++l) b f fp) Q A/\PE (blk c π q C ([h]++l) b f fp) R B) /\
   ∀D g m,tO i u w J K (cD p H ξ D3 0 T) L Ω D g m->p_ z [h].length T (jC 0) A B D g m:=by
 have E:(ġ _ c.env).names.lookup h=some _:=adB G;refine qx s (λd F y V Z Ω g M k x S N O=>?_) λq C b f fp=>?_
 .have e:F=[d]:=by
   injection x with x;cases F with
   |nil=>cases x
   |cons a r=>
    simp_all
  subst e;exact O _ (.one N)
 .obtain⟨P,U⟩:=I q C _ _ fp
  exact⟨jD t rfl (.inl E) (.inr E),P,U⟩
theorem DK(j:c.calm=true)(B:iZ c π [h] l T)(k:∀z,Ď n c.env z=pure z)(e:wF c i u (.Name h P) n D3)(m:π.names.lookup h=some .local)(f:([h]++l).Nodup)(q:∀g C b d fp,((Q=[]/\H=true)\/∃a,Q=[a]/\H=false/\jA (blk c π g C ([h]++l) b d fp) i lR a ξ)/\bt (blk c π g C ([h]++l) b d fp) i lR R p):
  bt c i u (.ListComp R [⟨.Name h P,n,Q,0⟩] π o) (cD p H ξ D3 0 T):=by
 intro r s t w x;obtain⟨E,F,G,y,A,D⟩:=om e m f q _ s t w x;exact PE.imp (yj j B y k (lJ 1 (by decide)) A) D
inductive d_ where
 |nx (ρ:aZ) (Ω:az)|bk (ρ:aZ) (Ω:az)|ct (ρ:aZ) (Ω:az)|rt (d:D) (Ω:az)|exc (x:D) (Ω:az)|bad
abbrev SM:=aZ->az->d_
def dW(c:Str->b'->Prop)(g:iS)(a:List b')(e:b'->Prop)(f:Hp)(E:Ends):d_->Prop
 |.nx ρ Ω=>∀b H α Z,cQ c a e f α Z Ω ρ b H->E.nx b H
 |.bk ρ Ω=>∀b H α Z,cQ c a e f α Z Ω ρ b H->E.bk b H
 |.ct ρ Ω=>∀b H α Z,cQ c a e f α Z Ω ρ b H->E.ct b H
 |.rt d Ω=>∀v H α Z,b_ a e f α Z H->bB c α Z Ω H->aq α Z H d v->E.rt v H
 |.exc x Ω=>∀H α Z,b_ a e f α Z H->bB c α Z Ω H->g x Ω α Z H
 |.bad=>False
noncomputable def OC(b:Str->b'->Prop)(g:iS)(a:List b')(d:b'->Prop)(e:Hp)(c:SM)(f:aZ)(Ω:az):TS:=λE h H=>∃i Z,cQ b a d e i Z Ω f h H/\dW b g a d e E (c f Ω)
def iq(X)(b:Str->b'->Prop)(d st c):=∀a e f g h,PS X st (OC b d a e f c g h)
def mf(X)(d:Str->b'->Prop)(e)(a:List J')(c):=∀b f g h i,jf X a (OC d e b f g c h i)
noncomputable def cU{β}(r:aw β)(k:β->az->d_):=match r with
 |.ok a b=>k a b
 |.exc x b=>.exc x b
 |.bad=>.bad
noncomputable def ah:SM:=λa b=>.nx a b
noncomputable def ag(a b:SM):SM:=λe f=>match a e f with
 |.nx c d=>b c d
 |r=>r
def aR(i:Nat)(m:EM):SM:=λb c=>cU (m b c) λd a=>.nx (b.set i (some d)) a
def cA(m:EM):SM:=λb c=>cU (m b c) λ_ a=>.nx b a
def bj(m:EM):SM:=λb c=>cU (m b c) λd a=>.rt d a
noncomputable def yG:SM:=λ_ a=>.rt .non a
def dP(m:EM)(a b:SM):SM:=λd e=>cU (eE (m d e)) λt c=>if t=true then a d c else b d c
noncomputable def bF:SM:=λ_ _=>.bad
def mh(m:EM)(b:SM):Nat->SM
 |0,_,_=>.bad
 |f+1,ρ,Ω=>cU (eE (m ρ Ω)) λt c=>if t=true then (match b ρ c with
  |.nx a av=>mh m b f a av
  |.ct a av=>mh m b f a av
  |.bk a av=>.nx a av
  |r=>r)else .nx ρ c
def DL(m b):=mh m b fuel
noncomputable def gM:List Nat->List D->aZ->aZ
 |i::a,d::b,ρ=>gM a b (ρ.set i (some d))
 |_,_,ρ=>ρ
noncomputable def cF(i:Nat)(d:D)(a:aZ):Option aZ:=some (a.set i (some d))
def dQ(a:List Nat)(d:D)(c:aZ):=match d with
 |.tup b=>if b.length=a.length then some (gM a b c)else none
 |_=>none
def kj(c:D->aZ->Option aZ)(e:Src)(b:SM):Nat->Nat->SM
 |0,_,_,_=>.bad
 |f+1,i,ρ,Ω=>match dr e Ω with
  |none=>.bad
  |some h=>match h[i]? with
   |none=>.nx ρ Ω
   |some d=>match c d ρ with
    |none=>.bad
    |some g=>match b g Ω with
     |.nx a av=>kj c e b f (i+1) a av
     |.ct a av=>kj c e b f (i+1) a av
     |.bk a av=>.nx a av
     |r=>r
def dw(a:D->aZ->Option aZ)(e:IM)(b:SM):SM:=λd f=>cU (e d f) λs c=>kj a s b fuel 0 d c
def HP(e:List Nat)(m:EM):SM:=λc f=>cU (m c f) λd a=>match dQ e d c with
 |some b=>.nx b a
 |none=>.bad
theorem cQ.set{c α a Z e Ω H f g k}(S:cQ c a e f α Z Ω g k H){d v}(r:aq α Z H d v)(i):cQ c a e f α Z Ω (g.set i (some d)) (k.set i (some v)) H:=by
 refine⟨S.st,S.gr,by simp[S.len],λj l h=>?_⟩
 by_cases b:i=j
 .subst b
  have m:=by
   have:=(Ì.mp h).1;simpa using this
  rw[Ū m]at h;cases h;exact⟨v,by rw[Ū (by rwa[S.len])],r⟩
 .rw[ķ b]at h ⊢
  exact S.val j l h
variable{z8:Ends}
theorem dW.use{k}(S:cQ i Q2 F4 υ z r a v F2 d)(f:dW i u Q2 F4 υ z8 (cU D2 k))(h:∀b e c l j m,D2=.ok b e->b_ z r d j m l->cQ i Q2 F4 υ j m e v F2 l->aq j m l b c->dW i u Q2 F4 υ z8 (k b e)->ο c l):bT i u z r d D2 ο:=by
 cases D2 with
 |ok b e=>exact λc l j m g s q=>h b _ c l _ m rfl g (S.grow g s) q f
 |exc x e=>exact λl j m g s=>f l _ m (S.gr.trans g) s
 |bad=>exact f
theorem dW.Qw{k}(S:cQ i Q2 F4 υ z r a v F2 d)(f:dW i u Q2 F4 υ z8 (cU T9 k))(h:∀t b e c l,T9=.ok t b->b_ z r d c l e->cQ i Q2 F4 υ c l b v F2 e->dW i u Q2 F4 υ z8 (k t b)->G9 t e):tv i u z r d T9 G9:=by
 cases T9 with
 |ok j b=>exact λe c l g s=>h j _ e _ l rfl g (S.grow g s) f
 |exc x b=>exact λe c l g s=>f e _ l (S.gr.trans g) s
 |bad=>exact f
theorem jf.ex{b:Type}{t:b->TS}(h:∀i,jf c F5 (t i)):jf c F5 (λD a H=>∃i,t i D a H):=λpins s a H D I  d =>xe d λi q=>h i _ s a H D I q
theorem HQ:mf c i u [] ah:=by
 intro b e g j k;refine jf.imp (λ_ _ a H _ I h=>Ĺ ⟨a,H,I,h⟩) ?_
 rintro E a H ⟨d,Z,S,f⟩;exact f a H d Z S
variable{f7 ε:SM}
theorem DM(l:iq c i u Θ ε)(m:mf c i u F5 f7):mf c i u (Θ::F5) (ag ε f7):=by
 intro e g h j k;refine jf.imp (Bz (l e g h j k) (jf.ex λp:aZ×az=>m e g h p.1 p.2)) ?_
 rintro E w H ⟨n,Z,S,f⟩;refine⟨n,Z,S,?_⟩;simp only[ag]at f;cases q:ε j k with
 |nx b a=>rw[q]at f;exact λo y r s t=>⟨(b,a),_,s,t,f⟩
 |bk b a=>rwa[q]at f
 |ct b a=>rwa[q]at f
 |rt d a=>rwa[q]at f
 |exc x a=>rwa[q]at f
 |bad=>rwa[q]at f
theorem DN:iq c i u (.Return none o) yG:=by
 intro a d e g h;refine PS.imp FX ?_;rintro E j H ⟨b,Z,S,f⟩;exact f _ H b Z S.gr S.st (aQ rfl)
theorem yH(h:bt c i u n p):iq c i u (.Return (some n) o) (bj p):=by
 intro a k l m q
 refine PS.imp (by
   have t:=(h a k l m q);intro pins s b H D I h;exact wpAny_Return_some (bV (t _ s b H _ I h) λv K  w =>aP w λx e y z A=>⟨x,b,e,y,z,A⟩)) ?_
 rintro E b H ⟨B,Z,S,f⟩;exact⟨B,Z,S,dW.use S f λd C v e F G _ g j r J=>J v e _ G j.gr j.st r⟩
theorem yJ(j:c.N.Nodup)(k:c.N[b]?=some h)(l:Loc c.env.scope h)(m:c.fn h=true\/c.env.scope.names.lookup h=some .local)(q:ï n (some (.Name h P)) o.line c.env=pure false)(a:bt c i u n p):
  iq c i u (.Assign [.Name h P] n o) (aR b p):=by
 intro e s t w x;refine PS.imp (BB j k l (a e s t w x) q m) ?_;rintro E G H ⟨y,Z,S,f⟩;exact⟨y,Z,S,dW.use S f λd z v A B C _ g D r F=>F _ A _ C (D.set r b)⟩
theorem DO(G:c.N.Nodup)(I:c.N[b]?=some h)(J:c.env.scope.names.lookup h=some .local)(K:ï (.ListComp n [⟨D4,R,Q,0⟩] π o) (some (.Name h P)) P.line c.env=pure true)(L:c.calm=true)(B:iZ c π l M0 T)(M:∀h,Ď R c.env h=pure h)(t:∀v k H a,Y6 v k H a->Y6 v k H λm O=>a m O/\m.length=k.length/\∀j,l.length<=j->m[j]?=k[j]?)(q:∀s w x y Ω,∃z A D,PI c D4 R z/\(∀F C e g fp,PG (blk c π F C (l++M0) e g fp) D4 Y6/\JM (blk c π F C (l++M0) e g fp) Q A/\PE (blk c π F C (l++M0) e g fp) n D) /\
   ∀k H a,tO i u s w x p y Ω k H a->p_ z l.length T Y6 A D k H a)(U:Q3.line=P.line):
  iq c i u (.Assign [.Name h P] (.ListComp n [⟨D4,R,Q,0⟩] π o) Q3) (aR b p):=by
 intro s w x y Ω;obtain⟨z,A,D,V,X,Y⟩:=q _ w x y Ω;refine PS.imp (wc G I J (by rwa[U]) L B V M t X) ?_
 rintro E k H ⟨α,Z,S,f⟩;exact Y k H _ ⟨α,Z,S,dW.use S f λd a0 v H1 b0 Z1 _ Y6 S1 r f1=>f1 _ H1 _ Z1 (S1.set r b)⟩
theorem yK(b:ï n none o.line c.env=pure false)(h:bt c i u n p):iq c i u (.Expr n o) (cA p):=by
 intro a e j k l;refine PS.imp (xO (h a e j k l) b) ?_;rintro E z H ⟨m,Z,S,f⟩;exact⟨m,Z,S,dW.use S f λd q v s t w _ g x r y=>y _ s _ w x⟩
variable{z9:List J'}
theorem Mh(m:jA c i u n p)(q:mf c i u F5 ε)(r:mf c i u z9 f7):iq c i u (.If n F5 z9 o) (dP p ε f7):=by
 intro b d e h s;refine PS.imp (Pa (m b d e h s) (jf.ex λa=>q b d e h a) (jf.ex λa=>r b d e h a)) ?_
 rintro E y H ⟨w,Z,S,f⟩;refine⟨w,Z,S,dW.Qw S f λt a z x j _ g k l=>?_⟩
 cases t with
 |true=>exact vM ⟨_,_,j,k,l⟩
 |false=>exact vL ⟨_,_,j,k,l⟩
theorem k_:iq c i u Θ bF:=by rintro a b d e g pins s h H E I ⟨j,Z,S,f⟩;exact f.elim
theorem AN(N:ŭ (p' c.prog c.w) c.A c.env c.xe)(O:jA c i u n p)(P:mf c i u F5 ε):iq c i u (.While n F5 [] o) (DL p ε):=by
 intro h m r s y;refine PS.imp (BC N (PT.ex λa:aZ×az=>O h m r a.1 a.2) (jf.ex λa:aZ×az=>P h m r a.1 a.2)) ?_
 rintro E I H ⟨z,Z,S,f⟩;refine⟨λf I H=>∃z Z s y,cQ i _ m r z Z y s I H/\dW i u _ m r E (mh p ε f s y),⟨_,z,Z,s,y,S,f⟩,?_⟩
 rintro f Q X ⟨R,T,j,B,J,K⟩;cases f with
 |zero=>exact K.elim
 |succ f=>
  refine⟨(j,B),_,T,J,dW.Qw J K λt C Y U V _ g L b=>?_⟩
  cases t with
  |false=>
   exact vL (b _ _ _ _ L)
  |true=>
   refine vM ⟨_,λk M q=>⟨f,by simp,q⟩,(j,C),_,V,L,?_⟩
   cases q:ε _ _ with
   |nx l e=>rw[q]at b;exact λk M D F G=>⟨_,F,_,_,G,b⟩
   |ct l e=>rw[q]at b;exact λk M D F G=>⟨_,F,_,_,G,b⟩
   |bk l e=>rwa[q]at b
   |rt d e=>rwa[q]at b
   |exc x e=>rwa[q]at b
   |bad=>rwa[q]at b
def DQ(h:Str->b'->Prop)(e:D->aZ->Option aZ)(g:TG):=
 ∀d x a i j f Z l m b n H k,cQ h a i j f Z l m n H->aq f Z H d x->e d m=some b->(∀c,cQ h a i j f Z l b c H->k c H)->g x n H k
variable{G7:D->aZ->Option aZ}
theorem yL(hp:ŭ (p' c.prog c.w) c.A c.env c.xe)(hc:c.calm=true)(hi:wF c i u R n D3)(hg:PG c R Y6)(N:DQ i G7 Y6)(hb:mf c i u F5 ε)(hs:∀x,Ď n c.env x=pure x):iq c i u (.For R n F5 [] o) (dw G7 D3 ε):=by
 intro O G K C L;have P:jf c F5 (λD F H=>∃m l p e g,OC i u _ l p ε _ _ D F H):=λpins s F H D I  zf =>xe zf λm Q=>xe Q λl T=>xe T λp U=>xe U λe V=>xe V λg q=>hb m l p e g _ s F H D I q
 refine PS.imp (Lh hp hc (hi O G K C L) hg P hs) ?_;rintro E F H ⟨α,Z,S,f⟩;refine⟨α,Z,S,?_⟩;simp only[dw]at f;cases X:D3 C L with
 |exc x Y=>rw[X]at f;exact λp m l Y6 s=>f p _ l (S.gr.trans Y6) s
 |bad=>rwa[X]at f
 |ok g0 Y=>
  rw[X]at f;intro J p m l g1 s1 w1;have S1:=S.grow g1 s1;refine⟨λb f F H=>∃z M C L,cQ i _ G K z M L C F H/\b_ _ l p z M H/\dW i u _ G K E (kj _ _ ε f b C L),⟨_,_,l,C,_,S1,b_.refl s1.has,f⟩,?_⟩
  rintro b f h0 H2 ⟨z,M,i0,j0,S2,g2,a⟩;cases f with
  |zero=>exact a.elim
  |succ f=>
   simp only[kj]at a;cases qs:dr _ _ with
   |none=>rw[qs]at a;exact a.elim
   |some ds=>
    rw[qs]at a;dsimp only at a;obtain⟨a0,l0⟩:=w1 _ M _ H2 ds g2 S2.st qs;cases qd:ds[b]? with
    |none=>
     rw[qd]at a;exact .inl ⟨by simp_all,a _ H2 _ M S2⟩
    |some d=>
     rw[qd]at a;dsimp only at a;obtain⟨b0,c0⟩:=a0 b d qd;cases qp:G7 d _ with
     |none=>rw[qp]at a;exact a.elim
     |some m0=>
      rw[qp]at a;dsimp only at a;refine .inr ⟨b0,_,λj k q=>⟨f,by simp,q⟩,λx H3 yl=>?_⟩
      refine ay (c0 x H3 yl) λZ3 g3 s3 rx=>?_
      refine N d x _ G K _ Z3 _ _ _ _ H3 _ (S2.grow g3 s3) rx qp λo0 S4=>?_
      have base:=S1.gr;have gL:=g2.trans g3;have B:∀{d0 Z4 e0 e j k},cQ i _ l p _ Z4 _ _ _ k->cQ i _ G K d0 Z4 e0 e j k:=λh=>⟨h.st,base.trans h.gr,h.len,h.val⟩
      refine⟨_,l,p,_,_,_,Z3,⟨S4.st,gL,S4.len,S4.val⟩,?_⟩;cases q:ε _ _ with
      |nx e g=>rw[q]at a;exact λj k t y h=>⟨_,y,_,_,B h,h.gr,a⟩
      |ct e g=>rw[q]at a;exact λj k t y h=>⟨_,y,_,_,B h,h.gr,a⟩
      |bk e g=>rw[q]at a;exact λj k t y h=>a _ k _ y (B h)
      |rt d g=>rw[q]at a;exact λv k t y Y6 s r=>a v k _ y (base.trans Y6) s r
      |exc x g=>rw[q]at a;exact λk t y Y6 s=>a k _ y (base.trans Y6) s
      |bad=>rwa[q]at a
theorem Mi(a):DQ i (cF a) (jC a):=λd x b f g j Z l m c n H k S r e h=>by
 cases e;exact h _ (S.set r a)
theorem oo{m α a Z n Ω H o}:∀b c g {j}{e},aE (aq α Z H) c g->c.length=b.length->cQ m a n o α Z Ω j e H->∀k,(∀f,cQ m a n o α Z Ω (gM b c j) f H->k f H)->gG b g e H k
 |[],[],g,j,e,r,_,S,k,h=>by rw[r.nil_inv];exact⟨rfl,h e S⟩
 |i::b,d::c,g,j,e,r,l,S,k,h=>by
  obtain⟨v,ws,rfl,p,q⟩:=r.cons_inv;exact⟨v,ws,rfl,oo b c ws q (by simp_all) (S.set p i) k h⟩
 |[],_::_,_,_,_,_,l,_,_,_=>by simp at l
 |_::_,[],_,_,_,_,l,_,_,_=>by simp at l
theorem DR(b):DQ i (dQ b) (vA O b.length (gG b)):=λd x g o p q Z s t j u H k S r e h=>by
 cases d with
 |tup l=>
  simp only[dQ]at e;split at e
  .rename_i m
   cases e;obtain⟨a,c,rfl,_,n,f⟩:=eh r;exact⟨a,c,rfl,yc (.inl n),by rwa[f.length],oo b l c f m S k h⟩
  .exact bD e
 |_=>exact bD e
theorem HR(s:PG c (.Tuple Q b o) (vA c.K T.length (gG T)))(t:Dg n=true)(h:bt c i u n p):iq c i u (.Assign [.Tuple Q b o] n P) (HP T p):=by
 intro a j k l w;refine PS.imp (Lf (h a j k l w) s (by cases n<;>first|rfl) (by cases n<;>first|rfl | (cases t))) ?_
 rintro E x H ⟨y,Z,S,f⟩;refine⟨y,Z,S,dW.use S f λd z v m A q _ g B r e=>?_⟩
 split at e
 .rename_i C D
  exact DR T d v _ j k _ q _ l _ x m _ B r D λF G=>e _ m _ q G
 .exact e.elim
abbrev aK:=List D->az->aw D
def c_(b:Str->b'->Prop)(F:aK):Sp:=λe H Q _=>∃a Z c d,bB b a Z c H/\aE (aq a Z H) d e/\bT b lR a Z H (F d c) Q
noncomputable def Mj{β}(r:aw β):aw β:=match r with
 |.ok d a=>.ok d a
 |_=>.bad
def bw(F:aK):aK:=λa b=>Mj (F a b)
structure JS(X:Cx)(κ:Str->b'->Prop)(k:Nat)(x:Str)(F:aK):Prop where
 ex:∃(f:b') (fd:Y') (ps:List Str),X.mg x=some (.ref f)/\Ú X.K (.ref f)=true/\Binds X.K fd ps []/\bW X.prog X.w X.K X.mg X.base fH k f fd ps (c_ κ F)
noncomputable def pB(Ω:az):D->Option (Nat×Str×List (Str×D))
 |.ref k=>match Ω[k]? with
  |some (.ins C fs)=>some (k,C,fs)
  |_=>none
 |_=>none
def bf(Cs:List Str)(f:Str)(x:D)(Ω:az):aw D:=match pB Ω x with
 |some (_,C,a)=>if Cs.contains C then (match a.lookup f with
  |some d=>.ok d Ω
  |none=>.bad)else .bad
 |none=>.bad
noncomputable def kl(f:Str)(v:D):List (Str×D)->List (Str×D)
 |[]=>[(f,v)]
 | (g,x)::r=>if g=f then (g,v)::r else (g,x)::kl f v r
def aI(C m:Str)(F:aK)(d:EM)(as:AM):EM:=λc e=>(d c e).bind λx a=>match pB a x with
 |some (_,f,g)=>if f=C/\g.lookup m=none then (as c a).bind λh b=>bw F (x::h) b else .bad
 |none=>.bad
noncomputable def ey(C:Str)(F:aK)(xs:List D)(Ω:az):aw D:=match F (.ref Ω.length::xs) (Ω++[.ins C []])with
 |.ok .non a=>.ok (.ref Ω.length) a
 |_=>.bad
def cM(Cs:List Str)(f:Str)(e g:EM):SM:=λb h=>cU (g b h) λy c=>cU (e b c) λx a=>match pB a x with
 |some (k,C,d)=>if Cs.contains C&&decide (d.length<1000)then .nx b (a.set k (.ins C (kl f y d)))else .bad
 |none=>.bad
def gU(x y v:D)(Ω:az):Option az:=match x with
 |.ref k=>match Ω[k]? with
  |some (.dK a)=>match kb y with
   |some b=>if small (a.length+1)then some (Ω.set k (.dK (dG a b v)))else none
   |none=>none
  |some (.dT a)=>match qr y with
   |some b=>if small (a.length+1)then some (Ω.set k (.dT (dG a b v)))else none
   |none=>none
  |some (.lst c)=>match y with
   |.int i=>match L2.tL c.length i with
    |some n=>some (Ω.set k (.lst (c.set n v)))
    |none=>none
   |_=>none
  |_=>none
 |_=>none
def fA(f g h:EM):SM:=λa i=>cU (h a i) λv b=>cU (f a b) λx c=>cU (g a c) λy d=>match gU x y v d with
 |some e=>.nx a e
 |none=>.bad
theorem bT.ok0(h:bT i u z r d (Mj D2) ο):bT i lR z r d D2 ο:=by
 cases D2 with
 |ok a b=>exact h
 |exc x b=>exact h.elim
 |bad=>exact h
variable{C:aK}
theorem AO(F0:JS c i b h C)(e:cu b c.A)(j:Gl c h)(d:(h==("__debug__"))=false):bt c i u (.Call (.Name h P) [] [] o) (mN (bw C) aj):=by
 refine bO F0.ex λf t w k l m F1=>?_
 intro n x y z p
 refine PE.imp (by
   intro pins s q H Q I a;refine đ (fL I j k (acD I.fF l (rg F1 e m .nil lF I .nil a)) d)) ?_
 rintro q H Q ⟨r,Z,S,g⟩;exact⟨r,Z,p,[],S.st,.nil,bT.ok0 g⟩
theorem fB:∀{c}{b},gv Y7 c b->(∀d,c.lookup h=some d->∃v,b.lookup h=some v/\Y7 d v)/\(c.lookup h=none->b.lookup h=none):=by
 intro c b a
 induction a with
 |nil=>simp
 |@cons p q g i r t e=>
  obtain⟨k,d⟩:=p;obtain⟨f,v⟩:=q;obtain⟨rfl,r⟩:k=f/\Y7 d v:=r;rw[Ġ,Ġ];cases h==k with
  |true=>exact⟨λ_ a=>by cases a;exact⟨_,rfl,r⟩,λa=>nomatch a⟩
  |false=>exact e
variable{m3:List (Str×D)}{u7:List (Str×V)}
theorem uK(r:Y7 m A)(a:gv Y7 m3 u7):gv Y7 (kl h m m3) (gz h A u7):=by
 induction a with
 |nil=>exact .cons ⟨rfl,r⟩ .nil
 |@cons p q f g b t c=>
  obtain⟨b,d⟩:=b;obtain⟨k,m⟩:=p;obtain⟨i,j⟩:=q;cases b;simp only[kl,gz]
  by_cases e:k=h
  .rw[if_pos e,if_pos e];exact .cons ⟨rfl,r⟩ t
  .rw[if_neg e,if_neg e];exact .cons ⟨rfl,d⟩ c
theorem gu(S:bB i z r a d)(g:aq z r d m A)(c:pB a m=some (b,h,m3)):∃e j l f,A=.ref e/\m=.ref b/\z[b]?=some e/\i h j/\d e=some (.ins j l f)/\gv (aq z r d) m3 f:=by
 cases m with
 |ref n=>
  simp only[pB]at c;split at c
  .rename_i q f o
   simp only[aq]at g;refine bx (S.cell o) λs p k=>cX k λj l f t u w=>?_
   grind
  .exact bD c
 |_=>exact bD c
def jm(K)(b:Str->b'->Prop)(Cs:List Str)(f):=∀C a,Cs.contains C=true->b C a->mX K a/\dg K a f
theorem HS(j:jm c.K i l h)(m:ø n h c.env (eval n c.env)=eval n c.env)(q:bt c i u n p):bt c i u (.Attribute n h o) (m1 (bf l h) p):=
 j_ (λJ r=>Lo r m) q λe x L Z M H Q S s g=>by
  unfold bf at g;split at g
  .rename_i k C N t
   refine bo (gu S s t) λa f e w b _ _ y z A=>?_;subst b
   split at g
   .rename_i B
    obtain⟨D,E⟩:=j C f B y;split at g
    .rename_i d F
     refine bx ((fB A).1 d F) λv G I=>⟨a,f,e,_,v,rfl,z,D,E,G,bT.ret S I g⟩
    .exact g.elim
   .exact g.elim
  .exact g.elim
def JT(P w K)(j:Str->Option f')(base)(d:Str->b'->Prop)(k C m)(F:aK)(c f e)(g:List Str):=
 (∀a,d C a->a=c)/\mX K c/\Meth K c m f/\∃h b i F1,Binds K e g h/\Vals b h/\(∀l Z H,aE (aq l Z H) i b)/\bW P w K j base fH k f e g (c_ d F1)/\F=λn=>F1 (n++i)
structure yM(X:Cx)(κ:Str->b'->Prop)(k:Nat)(C m:Str)(F:aK):Prop where
 ex:∃(Ca f:b') (fd:Y') (ps:List Str),JT X.prog X.w X.K X.mg X.base κ k C m F Ca f fd ps
theorem DS(M:yM c i b h B C)(I:cu b c.A)(J:bt c i u R p)(K:rV c i u (n::Q) u0){pl}(k:D' (n::Q) c.env=(false,eval n c.env)::D' Q c.env)(l:(À o (D' Q c.env)).any (·.1)=false)(L:eval (.Call (.Attribute R B P) (n::Q) [] o) c.env=(do
   let z ←eval R c.env
   Ă P.atName
   let (f,first) ←ă [z] (Đ z B pl)
   Ě o f first (À o (D' (n::Q) c.env)) (ù o (ú [] c.env)))):
  bt c i u (.Call (.Attribute R B P) (n::Q) [] o) (aI h B C p u0):=by
 obtain⟨Ca,f,fd,ps,N,m,O,T,U,Dd,F0,V,q,X,F1,rfl⟩:=M.ex;intro d D E F Y;refine PE.imp (Gh (J d D E F Y) m O F1 I V q lF (PA.ex λe=>K d D E F e) k l L) ?_
 rintro σ H r ⟨α,Z,S,g⟩;refine⟨α,Z,S,bT.use g λx e _ v H1 a0 Z1 g1 s G j=>?_⟩
 split at j
 .rename_i t C' fs hk
  split at j
  .rename_i hc
   obtain⟨rfl,hl⟩:=hc;refine bo (gu s G hk) λa b0 dx c0 w y _ q1 q2 q3=>?_;subst w;subst y
   obtain rfl:=N _ q1;refine⟨a,dx,_,rfl,q2,(fB q3).2 hl,_,_,Z1,S.grow g1 s,pv.use j λxs d0 _ vs H2 e0 Z2 g2 s2 r2 k2=>⟨_,Z2,_,_,s2,.cons (s.cH g2 G) (r2.append (X _ _ _)),bT.ok0 k2⟩⟩
  .exact j.elim
 .exact j.elim
theorem AQ(M:yM c i b h B C)(t:cu b c.A)(w:bt c i u n p){pl}(y:eval (.Call (.Attribute n B P) [] [] o) c.env=(do
   let q ←eval n c.env
   Ă P.atName
   let (f,first) ←ă [q] (Đ q B pl)
   Ě o f first (À o (D' [] c.env)) (ù o (ú [] c.env)))):
  bt c i u (.Call (.Attribute n B P) [] [] o) (aI h B C p aj):=by
 obtain⟨Ca,f,fd,ps,z,e,D,E,F,Dd,F0,G,j,I,F1,rfl⟩:=M.ex;intro k J K L N;refine PE.imp (BK (w k J K L N) e D F1 t G j lF y) ?_;rintro σ H Q ⟨O,Z,S,g⟩;refine⟨O,Z,S,bT.use g λx R _ v H1 T U g1 r s d=>?_⟩
 split at d
 .rename_i l C' fs V
  split at d
  .rename_i X
   obtain⟨rfl,Y⟩:=X;refine bo (gu r s V) λa a0 dx b0 m c0 _ q1 q2 q3=>?_;subst m;obtain rfl:=z _ q1
   exact⟨a,dx,_,rfl,q2,(fB q3).2 Y,_,U,_,_,r,.cons s (I _ _ _),bT.ok0 d⟩
  .exact d.elim
 .exact d.elim
structure JU(X:Cx)(κ:Str->b'->Prop)(k:Nat)(C:Str)(F:aK):Prop where
 ex:∃(Ca f:b') (fd:Y') (ps:List Str),κ C Ca/\Mk X.K Ca f/\X.mg C=some (.ref Ca)/\Binds X.K fd ps []/\bW X.prog X.w X.K X.mg X.base fH k f fd ps (c_ κ F)
theorem uL(e:bB i z r a d)(f:aE (aq z r d) q S)(l:i h j)(g:bT i u z r d (ey h C q a) ο)(J:d N=none)(m:d ω=none)(n:ω≠N):
  c_ i C (.ref N::(S++[])) (upd (upd d ω (.own N)) N (.ins j ω [])) (λv A=>v=.non/\ο (.ref N) A) E0:=by
 rw[ę];obtain⟨s,B⟩:=e.nU m False;have o:upd d ω (.own N) N=none:=by rwa[ax (Ç n)]
 obtain⟨t,D⟩:=s.laid (c:=.ins h []) o λR K=>⟨j,ω,[],l,aD,.nil⟩
 have w:=B.trans D;have x:aq _ r (upd (upd d ω (.own N)) N (.ins j ω [])) _ _:=eo s N;refine⟨_,r,_,_,t,.cons x (e.lO w f),?_⟩;unfold ey at g;cases b:C _ _ with
 |ok k p=>
  rw[b]at g;cases k with
  |non=>
   intro v E F G y H I;exact⟨I,g _ E _ G (w.trans y) H (t.cH y x)⟩
  |_=>exact g.elim
 |exc N p=>rw[b]at g;exact g.elim
 |bad=>rwa[b]at g
theorem DT(M:JU c i b h C)(m:cu (b+1) c.A)(n:Gl c h)(d:(h==("__debug__"))=false):bt c i u (.Call (.Name h P) [] [] o) (mN (ey h C) aj):=by
 refine cC M.ex λy f z B e l p q F1=>?_
 intro r D E F G
 refine PE.imp (by
   intro pins s t H Q I a;refine đ (fL I n p (acD I.fF l.kp (tH l F1 m q .nil lF I .nil a)) d)) ?_
 rintro t H Q ⟨J,Z,S,g⟩;exact λx K w j k=>uL S.st .nil e g w j k
theorem HU(I:jm c.K i l h)(J:ï n (some (.Attribute R h P)) o.line c.env=pure false)(L:bt c i u R p)(M:bt c i u n ξ):iq c i u (.Assign [.Attribute R h P] n o) (cM l h p ξ):=by
 intro b t A B N;refine PS.imp (Lp (PE.ex λd=>L b t A B d) (M b t A B N) J) ?_
 rintro E O H ⟨Q,Z,S,h⟩;refine⟨Q,Z,S,dW.use S h λy d v H1 T U _ g1 f V X=>⟨_,_,U,f,dW.use f X λx Y w H2 a0 Z2 _ g2 g r2 e=>?_⟩⟩
 split at e
 .rename_i k C fs hk
  refine bo (gu g.st r2 hk) λa j D b0 m c0 h0 F h2 G=>?_;subst m;split at e
  .rename_i q
   simp only[Ö,decide_eq_true_eq]at q;obtain⟨c1,c2⟩:=I C j q.1 F;obtain⟨s3,g3⟩:=g.st.put (c:=.ins C _) h0 (λR r z=>by simp_all) λs hR=>⟨j,D,_,F,aD,(uK (f.st.cH g2 V) G).imp hR⟩
   exact⟨a,j,D,_,rfl,h2,c1,c2,by rw[gv.length G];exact q.2,e O _ _ Z2 (g.grow g3 s3)⟩
  .exact e.elim
 .exact e.elim
def JV(H a y v c):=tP H a y v c\/∃b k j,y=.int k/\H a=some (.lst b)/\tL b.length k=some j/\c=upd H a (.lst (b.set j v))
noncomputable def Ml(td d e:TE):TS:=λD b H=>e b H λv f=>td b f λx g=>d b g λy h=>∃a c,x=.ref a/\JV h a y v c/\D.nx b c
variable{M9:TE}
theorem DU(m:c.A.units+1<É)(p:PE c n ψ)(q:PE c R L4)(t:PE c D4 M9)(w:ï D4 (some (.Subscript n R P)) o.line c.env=pure false):
  PS c (.Assign [.Subscript n R P] D4 o) (Ml ψ L4 M9):=by
 intro pins s b H D I h;refine wpAny_Assign_Subscript (bV (t _ s b H _ I h) λr z d=>?_) w;obtain⟨v,B,C,e,E⟩:=d;refine bV (p _ z b B _ C E) λu F d=>?_;obtain⟨x,G,J,f,K⟩:=d;refine bV (q _ F b G _ J K) λY L d=>?_;obtain⟨y,M,I3,i,a,N,O,g,l⟩:=d
 subst O;rcases g with g|⟨Q,k,j,rfl,S,T,rfl⟩
 .obtain rfl:u=Ð a:=f
  exact zZ m I3 g i e λU V=>⟨b,N,V,l⟩
 .exact bV (set_list _ L b M _ _ _ _ _ _ _ I3 f i e ⟨a,Q,k,j,rfl,rfl,S,T,l⟩) λ_ U ⟨X,I5,q5⟩=>⟨b,X,I5,q5⟩
theorem aE.Qx{α β R}{a:α}{b:β}:∀{as}{bs}{n},aE R as bs->R a b->aE R (as.set n a) (bs.set n b)
 |_,_,_,.nil,_=>.nil
 |_::_,_::_,0,.cons _ t,r=>.cons r t
 |_::_,_::_,n+1,.cons q t,r=>.cons q (aE.Qx t r)
theorem DV{u}(S:bB i z r a d)(L:aq z r d m A)(E:aq z r d η G4)(F:aq z r d B8 u)(h:gU m η B8 a=some y):∃e G,A=.ref e/\JV d e G4 u G/\bB i z r y G/\b_ z r d z r G:=by
 cases m with
 |ref k=>
  simp only[gU]at h;obtain⟨e,q,rfl⟩:=L;split at h
  .rename_i H s
   obtain⟨K,f,w,x,j⟩:=S.cell s;rw[q]at f;cases f
   split at h
   .rename_i I l
    obtain rfl:=gq l E;split at h
    .rename_i J
     cases h;have:=bJ J;obtain⟨B,C⟩:=S.put (c:=.dK _) q (λo u g=>by simp_all) λR D=>⟨_,aD,(j.put I F).imp D⟩
     exact⟨e,_,rfl,.inl (tP.k x (by rw[j.length];exact this)),B,C⟩
    .exact bD h
   .exact bD h
  .rename_i H s
   obtain⟨K,f,w,x,j⟩:=S.cell s;rw[q]at f;cases f
   split at h
   .rename_i I l
    obtain⟨b,rfl,M⟩:=kW l E;split at h
    .rename_i J
     cases h;have:=bJ J;obtain⟨B,C⟩:=S.put (c:=.dT _) q (λo u g=>by simp_all) λR D=>⟨_,aD,(j.put I F).imp D⟩
     exact⟨e,_,rfl,.inl (tP.t x M (by rw[j.length];exact this)),B,C⟩
    .exact bD h
   .exact bD h
  .rename_i O s
   obtain⟨K,f,N,x,j⟩:=S.cell s;rw[q]at f;cases f
   split at h
   .rename_i p
    split at h
    .rename_i n P
     cases h;cases (E);obtain⟨B,C⟩:=S.put (c:=.lst _) q (λo u g=>by simp_all) λR D=>⟨_,aD,(aE.Qx j F).imp D⟩
     exact⟨e,_,rfl,.inr ⟨N,p,n,rfl,x,by rwa[j.length],rfl⟩,B,C⟩
    .exact bD h
   .exact bD h
  .exact bD h
 |_=>exact bD h
theorem DW(z:c.A.units+1<É)(B:bt c i u R ξ)(C:bt c i u D4 w6)(D:bt c i u n p)(F:ï n (some (.Subscript R D4 P)) o.line c.env=pure false):iq c i u (.Assign [.Subscript R D4 P] n o) (fA ξ w6 p):=by
 intro e h j k G;refine PS.imp (DU z (PE.ex λb=>B e h j k b) (PE.ex λb=>C e h j k b) (D e h j k G) F) ?_
 rintro E I H ⟨J,Z,S,f⟩;refine⟨J,Z,S,dW.use S f λd b v H1 K L _ g1 l M N=>⟨_,_,L,l,dW.use l N λx O w H2 Q T _ U g V X=>⟨_,_,T,g,dW.use g X λy Y m H3 a0 Z3 _ r s r3 q=>?_⟩⟩⟩
 split at q
 .rename_i b0 hq
  obtain⟨a,t,rfl,h1,s4,g4⟩:=DV s.st (g.st.cH r V) r3 (g.st.cH r (l.st.cH U M)) hq;exact⟨a,t,rfl,h1,q I t _ Z3 (s.grow g4 s4)⟩
 .exact q.elim
theorem AR:bt c i u (.Dict [] [] o) (λ_ Ω=>gJ Ω (.dK [])):=by
 intro a f h j Ω;refine PE.imp BX ?_;rintro k H Q ⟨l,Z,S,g⟩ p b;obtain⟨d,e⟩:=S.st.laid (c:=.dK []) b λR m=>⟨[],aD,.nil⟩
 exact g _ _ _ Z e d (eo S.st p)
theorem AS:bt c i u (.Dict [] [] o) (λ_ Ω=>gJ Ω (.dT [])):=by
 intro a f h j Ω;refine PE.imp BY ?_;rintro k H Q ⟨l,Z,S,g⟩ p b;obtain⟨d,e⟩:=S.st.laid (c:=.dT []) b λR m=>⟨[],aD,.nil⟩
 exact g _ _ _ Z e d (eo S.st p)
noncomputable def cS(n:Nat)(a:List D):aZ:=a.map some++Ŕ (n - a.length) none
noncomputable def uM:d_->aw D
 |.rt d Ω=>.ok d Ω
 |.nx _ Ω=>.ok .non Ω
 |.exc x Ω=>.exc x Ω
 |_=>.bad
def aH(n k:Nat)(c:SM):aK:=λa b=>if a.length=k then uM (c (cS n a) b)else .bad
theorem jn(b:bB i z r a d)(c:aE (aq z r d) q S):cQ i z r d z r a (cS l.length q) (L2.start l S) d where
 st:=b
 gr:=b_.refl b.has
 len:=by simp[cS,L2.start,c.length]
 val:=λe f g=>by
  unfold cS at g
  by_cases h:e<q.length
  .rw[ê (by simp_all),ç]at g
   obtain⟨k,j,m⟩:=Ã.mp g;obtain⟨v,n,o⟩:=c.get j;unfold L2.start
   grind
  grind
def HV(e f:TE):TE:=λc H Q=>∀p,H p=none->e c (upd H p (.dT [])) λx g=>f c g λy a=>a p=some (.dT [])/\∃b d,x=.ref b/\a b=some (.tup (d.map kV))/\Q (.ref p) (upd a p (.dT (putK [] d y)))
theorem AU(E:c.A.units+1<É)(F:PE c n ψ)(G:PE c R L4):PE c (.Dict [some n] [R] o) (HV ψ L4):=by
 intro pins s J H Q I q;have K:=I.hok.fresh (O' s.heap.objs.size);have L:=I.laid (o:=.dT []) (t':=s.toks) (λ_ _ q=>X' _ q) (O' _) (tR s.heap I.big)
 have M:Ug c o [some n] [R] [(ψ,L4)]:=B_ F G Gs;refine wpAny_Dict_any rfl rfl (by simp) (by simp) (bV (M pins _ J _ (λi f=>match i with|[(x,y)]=>f s.heap.objs.size=some (.dT [])/\∃b a,x=.ref b/\f b=some (.tup (a.map kV))/\Q _ (upd f s.heap.objs.size (.dT (putK [] a y)))|_=>False) L (q _ K)) λws s2 j=>?_)
 obtain⟨i,f,k,d,g⟩:=j;split at g
 .rename_i x y
  obtain⟨e,b,a,rfl,B,N⟩:=g;cases d with
  |@cons p O i P r t=>
   cases t;obtain⟨S,T⟩:=r;obtain⟨w1,w2⟩:=O;cases (S);obtain⟨z,U,xs,d,V⟩:=BW k.hok e;cases d;refine j' (j' (wpAny_dictSet_heap ?_ (kK k.hok B) V λX l Y=>?_))
   .show c.A.units<É
    exact Ø (ó _ _) E
   .refine F' ?_
    dsimp only;refine F' ?_;obtain⟨C,Z,ep,D,j,g,h4,_,h5⟩:=l
    have hl:(putK ([]) a y).length<=Q':=by
     have:=el ([]) a y;rw[ò];exact fG this
    have h:KT f _ []:=.nil
    have m:cL c.prog c.w (upd f s.heap.objs.size (.dT (putK [] a y))) X s.heap.objs.size (.dT (putK [] a y)):=⟨hl,U,_,(h.put a B T).keeps λu ys ec=>by
     rw[ax (by grind)]
     exact ec,C,Z,ep,D,j,g,h4,h5⟩
    exact⟨.ref s.heap.objs.size,_,jL k (by rw[e];exact ö) Y ⟨C,D⟩ m,rfl,N⟩
 .exact g.elim
def iK(e f:EM):EM:=λd b=>(e d (b++[.dT []])).bind λy c=>(f d c).bind λv a=>match a[b.length]?,qr y with
 |some (.dT []),some g=>.ok (.ref b.length) (a.set b.length (.dT (dG [] g v)))
 |_,_=>.bad
theorem wG(Y:c.A.units+1<É)(hk:bt c i u n p)(hv:bt c i u R ξ):bt c i u (.Dict [some n] [R] o) (iK p ξ):=by
 intro k F G I J;refine PE.imp (AU Y (PE.ex λf=>hk k F G I f) (PE.ex λf=>hv k F G I f)) ?_
 rintro σ H Q ⟨K,Z,S,g⟩ e hp;obtain⟨L,M⟩:=S.st.laid (p:=e) (o:=.dT []) (c:=.dT []) hp λh N=>⟨[],aD,.nil⟩
 have O:=S.grow M L;have rp:aq (K++[e]) Z (upd H e (.dT [])) (.ref J.length) (.ref e):=eo S.st e;have g:=bT.from M g
 unfold iK at g;refine⟨J++[.dT []],K++[e],Z,O,bT.use g λy q _ w H2 r Z2 P s r2 k2=>⟨q,r,Z2,O.grow P s,k2.use λd a0 _ j H3 b0 Z3 T U r3 t=>?_⟩⟩
 split at t
 .rename_i x hc B
  have C:=s.cH T (L.cH P rp);obtain⟨a,D,ea⟩:=C;cases ea;obtain⟨a',l,m,V,X⟩:=U.cell hc;rw[D]at l;cases l;have hn:=gv.length X;obtain rfl:m=[]:=aff (by simpa using hn)
  obtain⟨b,rfl,hb⟩:=kW B (s.cH T r2);refine⟨V,b,x,rfl,hb,?_⟩;obtain⟨s4,g4⟩:=U.put (c:=.dT (dG [] x d)) D (λE j z=>by rw[V]at z;cases z) λh N=>⟨_,aD,(X.put x r3).imp N⟩
  refine t _ _ _ _ g4 s4 ?_;exact⟨e,D,rfl⟩
 .exact t.elim
structure uN(P:Á)(w:W')(K:K')(mg:Str->Option f')(base:I')(κ:Str->b'->Prop)(k:Nat)(j:Nat)(F:List D->aK):Prop where
 run:∀(X:Cx) (f:b') (vs:List V) (σ:L2.St) (H:Hp) (Q:VK) (α:List b') (Z:b'->Prop) (Ω:az) (Az ds:List D) (n:Nat),X.prog=P->X.w=w->X.K=K->X.mg=mg->X.base=base->cu k X.A ->
  bB κ α Z Ω H->α[n]?=some f->Ω[n]?=some (.fn j Az)->aE (aq α Z H) ds vs->bT κ lR α Z H (F Az ds Ω) Q->PB X f vs σ H Q
theorem uN.mono{P w K a base b k c j F}(h:uN P w K a base b k j F)(d:k<=c):uN P w K a base b c j F:=
 ⟨λX f e g H Q i Z l Az m n o p q r s t=>h.run X f e g H Q i Z l _ m n o p q r s (t.mono d)⟩
noncomputable def isFn(Ω:az)(n:Nat):Bool:=match Ω[n]? with
 |some (.fn _ _)=>true
 |_=>false
noncomputable def oq(x:D)(xs:List D)(Ω:az):aw D:=match x,xs with
 |.str z,[.str y]=>match Ę z y 0 z.length 1 with
  |i::_=>.ok (.int i) Ω
  |[]=>.bad
 |_,_=>.bad
theorem HW(c:bB i z r a d)(b:aq z r d m A)(k:aE (aq z r d) q S)(g:bT i u z r d (oq m q a) ο):yn A S d ο:=by
 unfold oq at g;split at g
 .rename_i e y
  obtain⟨h,rfl,j⟩:=ei k;simp only[aq]at b j;subst b;subst j;split at g
  .rename_i f l n
   exact⟨e,y,f,l,rfl,rfl,n,bT.ret c (aQ rfl) g⟩
  .exact g.elim
 .exact g.elim
def OD(xs:List D)(Ω:az):aw D:=match xs with
 |[x,y]=>match cR Ω x,cR Ω y with
  |some b,some c=>match bH kb b with
   |some d=>gJ Ω (.dK ((d.zip c).foldl (λa p=>dG a p.1 p.2) []))
   |none=>.bad
  |_,_=>.bad
 |_=>.bad
theorem yN{α Z H}:∀(a:List Key) {b}{c},aE (aq α Z H) b c->gv (aq α Z H) (a.zip b) (a.zip c)
 |[],_,_,_=>.nil
 |_::_,_,_,.nil=>.nil
 |k::a,_,_,.cons r t=>.cons ⟨rfl,r⟩ (yN a t)
theorem DX{c b}(e:gv (aq z r d) c b)(q:gv (aq z r d) Y R5):gv (aq z r d) (Y.foldl (λa p=>dG a p.1 p.2) c) (R5.foldl (λa p=>putK a p.1 p.2) b):=by
 unfold gv at q
 induction q generalizing c b with
 |nil=>exact e
 |@cons p q _ _ f _ g=>
  simp only[ſ];refine g ?_;rw[f.1];exact e.put q.1 f.2
theorem Qy(e:bB i z r a d)(j:aE (aq z r d) q S)(g:bT i u z r d (OD q a) ο):∃(c b:b') (f:List Key) (h:List V),S=[.ref c,.ref b]/\Rd d c (.lst (f.map kV))/\Rd d b (.lst h)/\∀p,d p=none->ο (.ref p) (upd d p (.dK ((f.zip h).foldl (λc p=>putK c p.1 p.2) []))):=by
 unfold OD at g;split at g
 .split at g
  .rename_i B C k l
   split at g
   .rename_i f m
    obtain⟨v,w,rfl,n,o⟩:=mG j;obtain⟨c,s,rfl,t,x⟩:=bu e n k;obtain⟨b,h,rfl,y,A⟩:=bu e o l;obtain rfl:=nX m x;exact⟨c,b,f,h,rfl,t,y,wA e (DX .nil (yN f A)) g⟩
   .exact g.elim
  .exact g.elim
 .exact g.elim
variable{P7:T'}
theorem DY(f:c.calm=true)(h:Gl c "dict")(j:c.mg "dict"=none)(a:Gl c "zip")(b:c.mg "zip"=none)(k:rV c i u [n,R] u0)(l:D' [n,R] c.env=(false,eval n c.env)::D' [R] c.env)(d:(À P7 (D' [R] c.env)).any (·.1)=false):
  bt c i u (.Call (.Name "dict" o) [.Call (.Name "zip" P) [n,R] [] P7] [] Q3) (mN OD u0):=by
 intro e m p q r;refine PE.imp (Gy f h j a b (k e m p q r) l d) ?_;rintro A H Q ⟨s,Z,S,g⟩;exact⟨s,Z,S,pv.use g λB t _ C D w E F x y z=>Qy x y z⟩
noncomputable def Qz(x:Str)(args:List A'):Option {r:A'×A'×T' // x="dict"/\∃p,args=[.Call (.Name "zip" p) [r.1,r.2.1] [] r.2.2]}:=match args with
 |[.Call (.Name y p) [a,b] [] c]=>if h:(x==("dict")&&y==("zip"))=true then some ⟨(a,b,c),eq_of_beq (û.mp h).1,p,by rw[eq_of_beq (û.mp h).2]⟩else none
 |_=>none
def QA(x args):=(Qz x args).map (·.1)
theorem DZ(a:QA h Q=some (n,R,o)):h="dict"/\∃p,Q=[.Call (.Name "zip" p) [n,R] [] o]:=by
 obtain⟨⟨_,a⟩,_,e⟩:=Ã.mp a;cases e;exact a
def JW(x:D)(Ω:az):aw D:=match wx Ω x with
 |some a=>gJ Ω (.lst (a.map λb=>.tup [fy b.1,b.2]))
 |none=>.bad
theorem HX(f:gv (aq z r d) Y R5):∀{l}{h}{c},b_ z r d z l h->bB i z r a d->bB i z l a h->c.map (·.2)=R5.map (λm=>[kV m.1,m.2])->(∀p∈c,h p.1=none)->(c.map (·.1)).Pairwise (· < ·) ->
  ∃Z',bB i z Z' a (jO h c)/\b_ z l h z Z' (jO h c)/\aE (aq z Z' (jO h c)) (Y.map λm=>.tup [fy m.1,m.2]) (c.map λp=>.ref p.1):=by
 unfold gv at f
 induction f with
 |nil=>
  intro l h c g s S e t n;cases c with
  |nil=>exact⟨l,S,b_.refl S.has,.nil⟩
  |cons q c=>simp at e
 |@cons m k Y R5 w _ A=>
  intro l h c g s S e t n;cases c with
  |nil=>simp at e
  |cons q c=>
   obtain⟨b,G⟩:=q;simp only[Ü,afP]at e;obtain⟨B,C⟩:=e;subst B;rw[Ü,adw]at n;obtain⟨u,o⟩:=S.nU (j:=b) (m4:=.tup [kV k.1,k.2]) (t _ (.head _)) True;simp only[if_true]at u o
   obtain⟨Z',D,x,E⟩:=A (g.trans o) s u C (λq y=>by
    have F:q.1≠b:=ä (n.1 _ (ϸ y));rw[ax F];exact t q (.tail _ y)) n.2
   refine⟨Z',D,o.trans x,.cons (u.cH x ?_) E⟩;simp only[aq];refine⟨b,_,rfl,.inr rfl,aD,bZ.mpr (.cons ?_ (.one (s.cH (g.trans o) w.2)))⟩;rw[w.1];cases k.1<;>simp only[fy,kV,aq]
theorem QB(S:bB i z r a d)(k:aq z r d m A)(g:bT i u z r d (JW m a) ο):WM ο A d:=by
 unfold JW at g;split at g
 .rename_i n o
  obtain⟨b,f,rfl,e,c⟩:=nY S k o;refine⟨b,f,rfl,e,λl q s t j w=>?_⟩
  obtain⟨C,x,y,B⟩:=HX c (b_.refl S.has) S S s (λp h=>(j p h).1) w
  exact er x B (bT.from y g) l (by rw[nI q λp h=>U' (j p h).2];exact t)
 .exact g.elim
theorem wH(d:c.calm=true)(e:Gl c "list")(f:c.mg "list"=none)(a:ø n "items" c.env (eval n c.env)=eval n c.env)(b:(Q3.endLine==P7.line)=true)(j:bt c i u n p):
  bt c i u (.Call (.Name "list" o) [.Call (.Attribute n "items" Q3) [] [] P7] [] P) (m1 JW p):=
 j_ (r:=λx H Q=>WM Q x H) (λl h=>Af d e f a b h) j λm x q Z s H Q S k g=>QB S k g
noncomputable def QC(x:Str)(args:List A'):Option {r:A'×T'×T' // x="list"/\args=[.Call (.Attribute r.1 "items" r.2.1) [] [] r.2.2]/\(r.2.1.endLine==r.2.2.line)=true}:=match args with
 |[.Call (.Attribute a y apos) [] [] cpos]=>if h:(x==("list")&&(y==("items")&&(apos.endLine==cpos.line)))=true then some ⟨(a,apos,cpos),eq_of_beq (û.mp h).1,by rw[eq_of_beq (û.mp (û.mp h).2).1],(û.mp (û.mp h).2).2⟩else none
 |_=>none
def QD(x args):=(QC x args).map (·.1)
theorem D_(a:QD h Q=some (n,o,P)):h="list"/\Q=[.Call (.Attribute n "items" o) [] [] P]/\(o.endLine==P.line)=true:=by
 obtain⟨⟨_,a⟩,_,e⟩:=Ã.mp a;cases e;exact a
def JX:V->List V->Hp->VK->Prop:=λx c H Q=>∃a b k v,x=.ref a/\c=[kV k]/\H a=some (.dK b)/\iR b k=some v/\Q v (upd H a (.dK (ng b k)))
theorem HY:Ow c "dict.pop" JX:=by
 intro pins s m H x n v o Q I b d h;obtain⟨a,e,k,y,rfl,rfl,f,g,q⟩:=h;cases b;obtain⟨u,rfl,i⟩:=d.one;exact Pw I f i g (.inl rfl) λp r j l=>⟨y,_,j,l,q⟩
noncomputable def AV(Ω:az)(x:D):=match x with
 |.ref k=>match Ω[k]? with
  |some (.dK _)=>true
  |_=>false
 |_=>false
def qy(x:D)(xs:List D)(Ω:az):aw D:=match x,xs with
 |.ref k,[y]=>match Ω[k]?,kb y with
  |some (.dK a),some b=>match a9 a b with
   |some d=>.ok d (Ω.set k (.dK (et a b)))
   |none=>.bad
  |_,_=>.bad
 |_,_=>.bad
theorem HZ(S:bB i z r a d)(b:aq z r d m A)(h:AV a m=true):Ox O "dict" A d:=by
 unfold AV at h;split at h
 .obtain⟨c,g,rfl⟩:=b
  split at h
  .rename_i j k
   obtain⟨l,e,f,n,o⟩:=S.cell k;rw[g]at e;exact .inr (by grind)
  .cases h
 .cases h
theorem H_(b:bB i z r a d)(f:aq z r d m A)(y:aE (aq z r d) q S)(g:bT i u z r d (qy m q a) ο):JX A S d ο:=by
 unfold qy at g;split at g
 .obtain⟨h,p,rfl⟩:=f
  obtain⟨w,M,rfl,B,C⟩:=y.cons_inv;obtain rfl:=C.nil_inv;split at g
  .rename_i D l E F
   obtain rfl:=gq F B;obtain⟨N,k,s,G,t⟩:=b.cell E;rw[p]at k;cases k
   split at g
   .rename_i j H
    obtain⟨e,I,J⟩:=(t.val l).1 j H;obtain⟨K,x⟩:=b.put (c:=.dK _) p (λo e n=>by grind) λR L=>⟨_,aD,(t.drop l).imp L⟩
    exact⟨h,_,l,e,rfl,rfl,G,I,g e _ _ _ x K (b.cH x J)⟩
   .exact g.elim
  .exact g.elim
 .exact g.elim
noncomputable def ae(i:Nat):EM:=λa b=>match a[i]? with|some (some d)=>.ok d b|_=>.bad
noncomputable def au(d:D):EM:=λ_ a=>.ok d a
def ck:EM:=λ_ a=>gJ a (.dK [])
def Mm:EM:=λ_ a=>gJ a (.dT [])
noncomputable def o2{α β c:Type}(x:Option α)(y:Option β)(k:α->β->c):=match x,y with
 |some a,some b=>some (k a b)
 |_,_=>none
theorem su{α β c x y}{k:α->β->c}{z}(h:o2 x y k=some z):∃a b,x=some a/\y=some b/\z=k a b:=by
 unfold o2 at h
 grind
theorem cT{α β:Type}{x}{k:α->β}{z}(h:x.map k=some z):∃a,x=some a/\z=k a:=by
 cases x with
 |none=>exact bD h
 |some a=>simp_all
section
variable{α β γ:Type}{P:γ->Prop}{p:Prop}{x:Option α}{u:Option γ}{y:Option β}{z w:γ}{c:Bool}
def Ib{k}(h:o2 x y k=some z)(K:∀a b,x=some a->y=some b->P (k a b)):=
 aP (su h) λa b c d e=>e▸K a b c d
def JY{c}{w:Option c}{k}(h:o2 x (o2 y w ģ) k=some z)(K:∀a b d,x=some a->y=some b->w=some d->P (k a (b,d))):=
 Ib h λa _ e f=>Ib (P:=λq=>P (k a q)) f λb d g i=>K a b d e g i
def QE{k}(h:x.map k=some z)(K:∀a,x=some a->P (k a)):=
 bx (cT h) λa b e=>e▸K a b
theorem mH{f}(h:x.bind f=some z)(K:∀a,x=some a->f a=some z->p):p:=
 bx (Ń.mp h) K
theorem Mn(h:(if c=true then none else u)=some z)(K:c=false->u=some z->p):p:=by
 cases c
 .exact K rfl h
 .exact bD h
theorem Mo(h:(if c=true then u else none)=some z)(K:c=true->u=some z->p):p:=by
 cases c
 .exact bD h
 .exact K rfl h
theorem Br(h:some w=some z)(K:P w):P z:=ϛ h▸K
end
structure aA where
 jo:List (Str×(List D->Out Rs)):=[]
 fn:List (Str×aK):=[]
 cst:List (Str×D):=[]
 met:List (Str×Str×aK):=[]
 cls:List (Str×aK):=[]
 fld:List (Str×List Str):=[]
 clo:List (List D->aK):=[]
 fz:List Str:=[]
 xt:Bool:=false
def sv(T:aA)(sc:V')(N:List Str)(x:Str):Option EM:=
 match lK sc N x with
 |some i=>some (ae i)
 |none=>if we sc x&&okN x then (T.cst.lookup x).map au else none
def uO:Const->Option EM
 |.none=>some (au .non)
 |.bool b=>some (au (.bl b))
 |.int i=>some (au (.int i))
 |.str x=>some (au (.str x))
 |_=>none
def cO(f:A'->Option EM):List A'->Option AM
 |[]=>some aj
 |e::a=>o2 (f e) (cO f a) af
def boM(c:ϔ)(a b:EM):=match c with
 |.And=>gY a b
 |.Or=>yv a b
def mI(f:A'->Option EM)(c:ϔ):List A'->Option EM
 |[]=>none
 |[a]=>f a
 |a::b::r=>o2 (f a) (mI f c (b::r)) (boM c)
def wJ(f:A'->Option EM):Option A'->Option (Bool×EM)
 |none=>some (true,au .non)
 |some e=>(f e).map λm=>(false,m)
inductive BM where
 |append|insert|extend|uP|index|join
noncomputable def BM.nm:BM->Str
 |.append=>"append" |.insert=>"insert" |.extend=>"extend" |.uP=>"pop" |.index=>"index" |.join=>"join"
noncomputable def BM.ar:BM->Nat
 |.append=>1|.insert=>2|.extend=>1|.uP=>1|.index=>1|.join=>1
def BM.ty:BM->az->D->Bool
 |.join=>wB
 |_=>sg
def BM.f:BM->D->List D->az->aw D
 |.append=>dU|.insert=>iI|.extend=>iJ|.uP=>il|.index=>ip|.join=>yB
def Mp(m n):=[BM.append,.insert,.extend,.uP,.index,.join].find? λb=>b.nm==m&&b.ar==n
def iL(a:EM)(as:AM)(m:Str):List (Str×Str×aK)->Option EM
 |[]=>none
 | (b,C,F)::r=>if b==m then (match iL a as m r with
  |some x=>some (d8 (aI C m F a as) x)
  |none=>some (aI C m F a as))else iL a as m r
def sx(T:aA)(m:Str)(n:Nat)(a:EM)(as:AM):Option EM:=match Mp m n,iL a as m T.met with
 |some b,some x=>some (d8 (dH b.ty b.f a as) x)
 |some b,none=>some (dH b.ty b.f a as)
 |none,x=>x
def sy(T:aA)(m:Str)(n:Nat)(a:EM)(as:AM):Option EM:=match sx T m n a as with
 |some x=>if m==("index")&&n==1 then some (d8 x (dH wB oq a as))else if m==("pop")&&n==1 then some (d8 x (dH AV qy a as))else some x
 |none=>none
def Eb(x):=[mx.len,mx.all,mx.any,mx.list,mx.tuple].find? (λb=>b.nm==x)
theorem Ic{b}(a:Eb h=some b):h=b.nm/\b∈[mx.len,mx.all,mx.any,mx.list,mx.tuple]/\b.nm∈en:=by
 have c:=adv a;have d:=List.mem_of_find?_eq_some a;refine⟨(eq_of_beq c).symm,d,?_⟩;cases b<;>first|decide
def sD(T:aA)(sc:V')(f:A'->Option EM)(x:Str)(args:List A'):Option EM:=
 if we sc x&&okN x then
  match T.fn.lookup x,T.jo.lookup x,T.cls.lookup x,Eb x with
  |some F,_,_,_=>(cO f args).map (mN (bw F))
  |none,some F,_,_=>if args.isEmpty then none else (cO f args).map (mN (fx F))
  |none,none,some F,_=>(cO f args).map (mN (ey x F))
  |none,none,none,some b=>if args.isEmpty then none else (cO f args).map (mN (cb b))
  |none,none,none,none=>(if x==("dict")then (if args.isEmpty then none else (cO f args).map (mN uz))else none)
 else none
def mJ(T:aA)(sc:V')(N:List Str)(f:A'->Option EM)(x:Str)(args:List A'):Option EM:=match lK sc N x with
 |some _=>none
 |none=>sD T sc f x args
def Ec(sc:V'):List A'->Option (A'×Ty×T')
 |[a,.Name t p]=>match JN t with
  |some b=>if we sc t then some (a,b,p)else none
  |none=>none
 |_=>none
theorem AW(h:Ec π Q=some (n,P5,o)):Q=[n,.Name P5.nm o]/\we π P5.nm=true/\P5.nm∈en:=by
 unfold Ec at h;split at h
 .split at h
  .rename_i b a
   split at h
   .obtain⟨rfl,m⟩:=Qc a
    simp_all
   .exact bD h
  .exact bD h
 .exact bD h
def Ed(sc:V')(f:A'->Option EM)(x:Str)(args:List A'):Option EM:=if x==("isinstance")&&we sc x then match Ec sc args with
 |some (a,b,_)=>(f a).map (m1 (jl b))
 |none=>none else none
noncomputable def du:A'->Bool
 |.Name .. |.Attribute .. |.Constant (.str _) .. |.Subscript .. |.Call (.Attribute ..) ..=>true
 |_=>false
def Mq(sc:V')(f:A'->Option EM)(x:Str)(args:List A'):Option EM:=match QA x args with
 |some (a,b,_)=>if we sc x&&we sc ("zip")then (cO f [a,b]).map (mN OD)else none
 |none=>none
def Mr(sc:V')(f:A'->Option EM)(x:Str)(args:List A'):Option EM:=match QD x args with
 |some (a,_,_)=>if we sc x&&du a then (f a).map (m1 JW)else none
 |none=>none
def ou(sc:V')(f:A'->Option EM)(x:Str)(args:List A'):Option EM:=match Ed sc f x args with
 |some m=>some m
 |none=>match Mq sc f x args with
  |some m=>some m
  |none=>Mr sc f x args
noncomputable def itC(e:A'):Option {r:Str×List A' // ∃p a,e=.Call (.Name r.1 p) r.2 [] a}:=match e with
 |.Call (.Name g _) args [] _=>some ⟨(g,args),_,_,rfl⟩
 |_=>none
noncomputable def itM(e:A'):Option {r:A'×Str×T'×T' // e=.Call (.Attribute r.1 r.2.1 r.2.2.1) [] [] r.2.2.2}:=match e with
 |.Call (.Attribute o m a) [] [] b=>some ⟨(o,m,a,b),rfl⟩
 |_=>none
def gV(f:A'->Option EM)(sc:V')(iter:A'):Option IM:=match itC iter with
 |some c=>if c.1.1==("range")then (if we sc c.1.1 then (match c.1.2 with
   |[a]=>(cO f [a]).map fP
   |_=>none)else none)else (f iter).map cf
 |none=>match itM iter with
  |some o=>if o.1.2.1==("values")&&o.1.2.2.1.endLine==o.1.2.2.2.line&&du o.1.1 then (f o.1.1).map yD else (f iter).map cf
  |none=>(f iter).map cf
def Ee(f:A'->Option EM):List A'->Option (Bool×EM)
 |[]=>some (true,au .non)
 |[c]=>(f c).map λm=>(false,m)
 |_=>none
noncomputable def JZ(a b):Option {r:A'×A' // a=[some r.1]/\b=[r.2]}:=match a,b with
 |[some (.Tuple c j p)],[v]=>some ⟨(.Tuple c j p,v),rfl,rfl⟩
 |_,_=>none
noncomputable def XA(a f):Option {r:ð×A'×Option (ð×A') // a=r.1::(r.2.2.map (·.1)).toList/\f=r.2.1::(r.2.2.map (·.2)).toList}:=match a,f with
 |[d],[b]=>some ⟨(d,b,none),rfl,rfl⟩
 |[d,e],[b,c]=>some ⟨(d,b,some (e,c)),rfl,rfl⟩
 |_,_=>none
def J_(f:A'->Option EM)(a b c):=(XA b c).bind λq=>match q.1.2.2 with
 |none=>if isSet q.1.2.1 then none else o2 (f a) (f q.1.2.1) (m2 (aJ q.1.1))
 |some r=>if isSet r.2 then none else o2 (f a) (o2 (f q.1.2.1) (f r.2) ģ) λx y=>pz q.1.1 r.1 x y.1 y.2
def dI(T:aA):Nat->V'->List Str->A'->Option EM
 |0,_,_,_=>none
 |n+1,sc,N,e=>match e with
  |.Name x _=>sv T sc N x
  |.Constant c _ _=>uO c
  |.BinOp a d b _=>o2 (dI T n sc N a) (dI T n sc N b) (m2 (bh d))
  |.UnaryOp .USub a _=>(dI T n sc N a).map (m1 LW)
  |.UnaryOp .Not a _=>(dI T n sc N a).map ew
  |.BoolOp d (a::b::r) _=>mI (dI T n sc N) d (a::b::r)
  |.Compare a g l _=>J_ (dI T n sc N) a g l
  |.IfExp t a b _=>o2 (dI T n sc N t) (o2 (dI T n sc N a) (dI T n sc N b) ģ) λx y=>DA x y.1 y.2
  |.Subscript a (.Slice p s none _) _=>o2 (dI T n sc N a) (o2 (wJ (dI T n sc N) p) (wJ (dI T n sc N) s) ģ) λx y=>fJ x y.1.1 y.1.2 y.2.1 y.2.2
  |.Subscript a b _=>if isSlice b then none else o2 (dI T n sc N a) (dI T n sc N b) (m2 bc)
  |.List h _=>(cO (dI T n sc N) h).map (mN cz)
  |.Tuple h _ _=>(cO (dI T n sc N) h).map (mN nW)
  |.Attribute o f _=>if du o then o2 (T.fld.lookup f) (dI T n sc N o) λCs m=>m1 (bf Cs f) m else none
  |.Call (.Name x _) args [] _=>match ou sc (dI T n sc N) x args with
   |some m=>some m
   |none=>mJ T sc N (dI T n sc N) x args
  |.Call (.Attribute o m u) args [] w=>if u.endLine==w.line&&du o&&decide (args.length<20)then (dI T n sc N o).bind λz=>(cO (dI T n sc N) args).bind λas=>sy T m args.length z as else none
  |.ListComp i gens scope _=>match qf gens with
   |some (x,_,iter,j)=>if Ar scope sc x&&!isSet iter then (match wg sc N (dO scope),gV (dI T n sc N) sc iter,dI T n (C_ scope sc) (x::dO scope) i,Ee (dI T n (C_ scope sc) (x::dO scope)) j with
    |some k,some A,some B,some (C,D)=>some (cD B C D A 0 k)
    |_,_,_,_=>none)else none
   |none=>none
  |.Dict [] [] _=>some ck
  |.Dict E F _=>(JZ E F).bind λq=>o2 (dI T n sc N q.1.1) (dI T n sc N q.1.2) iK
  |_=>none
structure GoodO(X:Cx)(κ:Str->b'->Prop)(T:aA)(k:Nat)(sc:V')(N:List Str):Prop where
 scope:X.env.scope=sc
 names:X.N=N
 calm:X.calm=true
 room:cu k X.A
 cY:∀x∈en,X.mg x=none
 jo:∀x F,T.jo.lookup x=some F->P_ X k x F
 fn:∀x F,T.fn.lookup x=some F->JS X κ k x F
 cst:∀x d,T.cst.lookup x=some d->∃v u,X.mg x=some u/\RelV v u/\LV d v
 met:∀m C F,(m,C,F)∈T.met->yM X κ k C m F
 cls:∀C F,T.cls.lookup C=some F->∃j,j+1<=k/\JU X κ j C F
 fld:∀f Cs,T.fld.lookup f=some Cs->jm X.K κ Cs f
 clo:∀j F,T.clo[j]?=some F->uN X.prog X.w X.K X.mg X.base κ k j F
variable{ς:aA}
theorem GoodO.gl(G:GoodO c i ς b π l)(a:we π h=true):Gl c h:=by
 show c.env.scope.names.lookup h=some _
 rw[G.scope];exact(eq_of_beq a)
theorem GoodO.hu(G:GoodO c i ς b π l):c.A.units+64<É:=G.room.units
theorem GoodO.blk{X c T k sc N}(G:GoodO X c T k sc N)(scope e C d a b fp):GoodO (blk X scope e C d a b fp) c T k (C_ scope sc) d where
 scope:=by rw[←G.scope];rfl
 names:=rfl
 calm:=G.calm
 room:=G.room
 cY:=G.cY
 jo:=λx F h=>⟨(G.jo x F h).ex⟩
 fn:=λx F h=>⟨(G.fn x F h).ex⟩
 cst:=G.cst
 met:=λm C F h=>⟨(G.met m C F h).ex⟩
 cls:=λC F h=>bx (G.cls C F h) λj f g=>⟨j,f,⟨g.ex⟩⟩
 fld:=G.fld
 clo:=G.clo
def kF(X)(b:Str->b'->Prop)(e m):=(∀a,bt X b a e m)/\(∀a,jA X b a e m)/\isStar e=false
theorem bU(h:∀b,bt c i b n p)(e:isStar n=false)(f:∀a,Ŭ n c.env a=(do let v ←a;Ă n.pos;ă [v] (Ϟ v))):kF c i n p:=⟨h,λb=>by
  intro d j k l m;refine PT.imp (BH ((h b) d j k l m) f) ?_;rintro q H Q ⟨o,Z,S,g⟩;exact⟨o,Z,S,g.tst⟩,e⟩
theorem br{X c f}(d:∀e m,f e=some m->kF X c e m):∀{b}{as},cO f b=some as->(∀a,rV X c a b as)/\(∀e∈b,isStar e=false)
 |[],as,h=>by cases h;exact⟨λa=>rX,by simp⟩
 |e::b,as,h=>by
  obtain⟨m,g,i,j,rfl⟩:=su h;obtain⟨k,_,l⟩:=d e m i;obtain⟨n,o⟩:=br d j;refine⟨λa=>nV (k a) (n a) (bC l),λz p=>?_⟩
  grind
theorem Ef(G:GoodO c i ς b π l)(a:sv ς π l h=some p):kF c i (.Name h o) p:=by
 unfold sv at a;split at a
 .rename_i e q
  cases a;obtain⟨j,k,f,m⟩:=mD q;exact bU (λn=>Hg (by rw[G.names];exact j) (by rw[G.scope];exact k) f m) rfl (λ_=>rfl)
 .split at a
  .rename_i g
   simp only[Ö]at g;obtain⟨d,f,rfl⟩:=cT a;obtain⟨v,u,r,s,t⟩:=G.cst h d f;obtain⟨w,x,y⟩:=yo g.2;exact bU (λn=>Dx (FV (G.gl g.1) r s w) t) rfl (λ_=>rfl)
  .exact bD a
theorem AX{q}(h:uO q=some p):kF c i (.Constant q b o) p:=by
 cases q<;>cases h
 .exact bU (λa=>mF (λ_ _ _ H _ I h=>Constant_none ⟨.non,H,I,rfl,h⟩) rfl) rfl (λ_=>rfl)
 .exact bU (λa=>mF OY rfl) rfl (λ_=>rfl)
 .exact bU (λa=>mF Bx rfl) rfl (λ_=>rfl)
 .exact bU (λa=>mF Lc rfl) rfl (λ_=>rfl)
theorem uQ{X y f t pos}(z:∀e m,f e=some m->kF X y e m):∀{A}{m},mI f t A=some m->(∀c,bt X y c (.BoolOp t A pos) m)/\(∀c,JP X y c (.BoolOp t A pos) m)
 |[],m,h=>by exact bD h
 |[a],m,h=>by
  obtain⟨u,w,I⟩:=z a m h;exact⟨λc=>λd l n o s=>Ld ((u c) _ l n o s),λc=>Hu (w c)⟩
 |a::b::r,m,h=>by
  obtain⟨J,O,K,L,rfl⟩:=su h;obtain⟨u,w,I⟩:=z a J K;obtain⟨F,G⟩:=uQ z L;cases t with
  |And=>exact⟨λc=>by
    intro d l n o s;refine PE.imp (GW ((u c) d l n o s) (PE.ex λi=>(F c) d l n o i)) ?_
    rintro M H Q ⟨B,Z,S,g⟩;refine⟨B,Z,S,bT.use g λx i _ v N C D E j p k=>?_⟩
    split at k
    .rename_i q
     exact⟨_,ie j p q,vM ⟨_,_,D,S.grow E j,k⟩⟩
    .rename_i q
     exact⟨_,ie j p q,vL (bT.ret j p k)⟩
    .exact k.elim,λc=>Hv (w c) (G c)⟩
  |Or=>exact⟨λc=>by
    intro d l n o s;refine PE.imp (LJ ((u c) d l n o s) (PE.ex λi=>(F c) d l n o i)) ?_
    rintro M H Q ⟨B,Z,S,g⟩;refine⟨B,Z,S,bT.use g λx i _ v N C D E j p k=>?_⟩
    split at k
    .rename_i q
     exact⟨_,ie j p q,vL ⟨_,_,D,S.grow E j,k⟩⟩
    .rename_i q
     exact⟨_,ie j p q,vM (bT.ret j p k)⟩
    .exact k.elim,λc=>L_ (w c) (G c)⟩
variable{G6:A'->Option EM}
theorem uR(b:∀e p,G6 e=some p->kF c i e p)(h:wJ G6 Y8=some (H,p)):UI c i u Y8 H p:=by
 cases Y8 with
 |none=>cases h;exact .inl ⟨rfl,rfl⟩
 |some e=>
  obtain⟨a,d,f⟩:=cT h;cases f;exact .inr ⟨e,rfl,rfl,(b e p d).1 u⟩
theorem Ie{m n b}(h:Mp m n=some b):m=b.nm/\n=b.ar:=by
 have:=adv h
 simp_all
theorem cK(a:du n=true):ø n h u6 (eval n u6)=eval n u6:=by
 cases n with
 |Call f b c p=>cases f<;>first|rfl | (cases a)
 |_=>rfl
theorem QF(C:c.A.units+64<É)(b:BM)(q:du n=true)(s:(o.endLine==P.line)=true)(t:Q.length=b.ar)(w:bt c i u n p)(D:cO G6 Q=some u0)(E:∀e m,G6 e=some m->kF c i e m):
  bt c i u (.Call (.Attribute n b.nm o) Q [] P) (dH b.ty b.f p u0):=by
 obtain⟨l,y⟩:=br E D;have l:=l u;cases b with
 |append=>
  match Q,t with
  |[e],_=>exact ij ϕ ael PySem.F.type_list_append pO (λx v d Z j H S r h=>oj S r h) (λx v z B d Z j H a S r k g=>AI S r k g) (cK q) s w l y (by simp)
 |uP=>
  match Q,t with
  |[e],_=>exact ij ϕ aeo PySem.F.type_list_pop BS (λx v d Z j H S r h=>oj S r h) (λx v z B d Z j H a S r k g=>DG S r k g) (cK q) s w l y (by simp)
 |insert=>
  match Q,t with
  |[e,G],_=>exact ij ϕ afp PySem.F.type_list_insert Ao (λx v d Z j H S r h=>oj S r h) (λx v z B d Z j H a S r k g=>AJ S r k g) (cK q) s w l y (by simp)
 |extend=>
  match Q,t with
  |[e],_=>exact ij ϕ aem PySem.F.type_list_extend zX (λx v d Z j H S r h=>oj S r h) (λx v z B d Z j H a S r k g=>AK S r k g) (cK q) s w l y (by simp)
 |index=>
  match Q,t with
  |[e],_=>exact ij ϕ afr PySem.F.type_list_index (CZ C) (λx v d Z j H S r h=>oj S r h) (λx v z B d Z j H a S r k g=>DH S r k g) (cK q) s w l y (by simp)
 |join=>
  match Q,t with
  |[e],_=>exact ij afQ PySem.F.slot_str_join PySem.F.type_str_join GU (λx v d Z j H S r h=>yA S r h) (λx v z B d Z j H a S r k g=>HJ S r k g) (cK q) s w l y (by simp)
theorem mK(g:ø n h u6 (eval n u6)=eval n u6)(c:∀e∈Q,isStar e=false)(b:Q.length<20)(i:(o.endLine==P.line)=true):
  eval (.Call (.Attribute n h o) Q [] P) u6=(do
   let a ←eval n u6
   Ă o.atName
   let (f,first) ←ă [a] (Đ a h (do let l ←importBound n u6;pure (l.getD true)))
   Ě P f first (À P (D' Q u6)) (ù P (ú [] u6))):=by
 have j:afR (Q.length+([]:List ĩ).length) (À P (D' Q u6)) (ù P (ú [] u6))=true:=by
  unfold afR;rw[wC c,decide_eq_true (by grind)];rfl
 have d:eval (.Call (.Attribute n h o) Q [] P) u6=(do
   let a ←ø n h u6 (eval n u6)
   Ă o.atName
   methodCall n h o P u6 a (Q.length+([]:List ĩ).length) (À P (D' Q u6)) (ù P (ú [] u6))):=by rfl
 rw[d];unfold methodCall calleeOf methodCallPos
 simp_all
theorem jq{X c k f}(d:cu k X.A){o m b p as p1 p2 g}(i:du o=true)(j:(p1.endLine==p2.line)=true)(a:b.length<20)(l:bt X c g o p)(n:cO f b=some as)(r:∀e m,f e=some m->kF X c e m):∀{s}{x},(∀m C F,(m,C,F)∈s->yM X c k C m F)->iL p as m s=some x->bt X c g (.Call (.Attribute o m p1) b [] p2) x
 |[],x,_,h=>by exact bD h
 | (t,C,F)::s,x,u,h=>by
  obtain⟨z,w⟩:=br r n;simp only[iL]at h;split at h
  .rename_i B
   obtain rfl:=eq_of_beq B
   have one:bt X c g (.Call (.Attribute o t p1) b [] p2) (aI C t F p as):=by
    cases b with
    |nil=>cases n;exact AQ (by grind) d l (mK (cK i) w a j)
    |cons e b=>exact DS (by grind) d l (z g) (bC (by simp_all)) (bG (by simp_all)) (mK (cK i) w a j)
   split at h
   .rename_i y D
    cases h;exact one.alt (jq d i j a l n r (λm C F q=>u m C F (by simp[q])) D)
   simp_all
  .exact jq d i j a l n r (λm C F q=>u m C F (by simp[q])) h
theorem Eg{X a T k sc N f}(G:GoodO X a T k sc N){o m c g as p1 p2 i x}(n:du o=true)(p:(p1.endLine==p2.line)=true)(d:c.length<20)(q:bt X a i o g)(r:cO f c=some as)(s:∀e m,f e=some m->kF X a e m)(h:sx T m c.length g as=some x):bt X a i (.Call (.Attribute o m p1) c [] p2) x:=by
 have one:∀b,Mp m _=some b->bt X a i (.Call (.Attribute o m p1) c [] p2) (dH b.ty b.f g as):=λb j=>by
  obtain⟨rfl,t⟩:=Ie j;exact QF G.hu b n p t q r s
 have l:∀y,iL g as m _=some y->bt X a i _ y:=λy u=>jq G.room n p d q r s G.met u
 unfold sx at h;split at h
 .rename_i b y w z
  cases h;exact(one b w).alt (l y z)
 .simp_all
 simp_all
theorem Eh(G:GoodO c i ς b π l)(m:du n=true)(q:(o.endLine==P.line)=true)(j:Q.length<20)(s:bt c i u n p)(t:cO G6 Q=some u0)(w:∀e h,G6 e=some h->kF c i e h)(a:sy ς h Q.length p u0=some ξ):bt c i u (.Call (.Attribute n h o) Q [] P) ξ:=by
 unfold sy at a;split at a
 .rename_i y E
  have d:=Eg (p1:=o) (p2:=P) G m q j s t w E;split at a
  .rename_i k
   simp only[Ö,beq_iff_eq]at k;obtain⟨rfl,x⟩:=k;cases a;refine d.alt ?_;obtain⟨z,A⟩:=br w t
   match Q,x with
   |[e],_=>exact ij afQ aft PySem.F.type_str_index Aq (λξ v B Z C H S r a=>yA S r a) (λξ v I J B Z C H f S r D g=>HW S r D g) (cK m) q s (z u) A (by simp)
  .split at a
   .rename_i k
    simp only[Ö,beq_iff_eq]at k;obtain⟨rfl,x⟩:=k;cases a;refine d.alt ?_;obtain⟨z,A⟩:=br w t
    match Q,x with
    |[e],_=>exact ij ŝ aes PySem.F.type_dict_pop HY (λξ v B Z C H S r a=>HZ S r a) (λξ v I J B Z C H f S r D g=>H_ S r D g) (cK m) q s (z u) A (by simp)
   .cases a;exact d
 .exact bD a
theorem Ei(G:GoodO c i ς b π l)(w:∀e p,G6 e=some p->kF c i e p)(d:sD ς π G6 h Q=some p):kF c i (.Call (.Name h o) Q [] P) p:=by
 refine bU (λs=>?_) rfl (λ_=>rfl)
 unfold sD at d;split at d
 .rename_i D
  simp at D;obtain⟨x,n2,n3⟩:=yo D.2;have r:=G.gl D.1;split at d
  .rename_i F u
   obtain⟨y,m,rfl⟩:=cT d;obtain⟨n,q⟩:=br w m;cases Q with
   |nil=>cases m;exact AO (G.fn h F u) G.room r x
   |cons a Q=>
     obtain⟨G6,fd,ps,E,hk,z,F1⟩:=(G.fn h F u).ex;intro t I J K A;refine PE.imp (rh F1 G.room r E hk z .nil lF ((n s) t I J K A) x (bC (q a (by simp))) (bG (by grind))) ?_
     rintro σ H f ⟨B,Z,S,g⟩;refine⟨B,Z,S,pv.use g λC L _ N H1 O Z1 g1 R T U=>?_⟩
     rw[ę];exact⟨_,Z1,_,C,R,T,bT.ok0 U⟩
  .rename_i F _ u
   split at d
   .exact bD d
   .rename_i k
    obtain⟨y,m,rfl⟩:=cT d;obtain⟨n,q⟩:=br w m;cases Q with
    |nil=>exact absurd rfl k
    |cons a Q=>exact AF (G.jo h F u) G.room r x (bC (q a (by simp))) (bG (by simp_all)) (n s)
  .rename_i F _ _ u
   obtain⟨y,m,rfl⟩:=cT d;obtain⟨n,q⟩:=br w m;obtain⟨j,hj,M⟩:=G.cls h F u;cases Q with
   |nil=>cases m;exact DT M (G.room.mono hj) r x
   |cons a Q=>
     obtain⟨Ca,G6,fd,ps,V,hM,E,z,F1⟩:=M.ex;intro t I J K A;refine PE.imp (Gi hM F1 (G.room.mono hj) r E z .nil lF ((n s) t I J K A) x (bC (q a (by simp))) (bG (by simp_all))) ?_
     rintro σ H f ⟨B,Z,S,g⟩;exact⟨B,Z,S,pv.use g λC L _ N H1 O Z1 g1 R T U h dx X Y k=>uL R T V U X Y k⟩
  .rename_i a0 _ _ _ z
   split at d
   .exact bD d
   .rename_i k
    obtain⟨y,m,rfl⟩:=cT d;obtain⟨n,q⟩:=br w m;obtain⟨rfl,b1,b2⟩:=Ic z;cases Q with
    |nil=>exact absurd rfl k
    |cons a Q=>exact HH G.calm b1 r (G.cY _ b2) (bC (q a (by simp))) (bG (by grind)) (n s)
  .split at d
   .rename_i X
    obtain rfl:=eq_of_beq X;split at d
    .exact bD d
    .rename_i k
     obtain⟨y,m,rfl⟩:=cT d;obtain⟨n,q⟩:=br w m;cases Q with
     |nil=>exact absurd rfl k
     |cons a Q=>
       show bt c i s _ (mN (pA _ _) y)
       rw[r_];exact bt.alt (ig (vS G.calm) r (G.cY _ (by decide)) ac6 (by decide) (by decide) (bC (q a (by simp))) (bG (by grind)) (n s) λC N B Z A H f S rx g=>HG S rx g) (ig vR r (G.cY _ (by decide)) ac6 (by decide) (by decide) (bC (q a (by simp))) (bG (by grind)) (n s) λC N B Z A H f S rx g=>HF S rx g)
   .exact bD d
 .exact bD d
theorem Ej(G:GoodO c i ς b π l)(f:∀e p,G6 e=some p->kF c i e p)(a:mJ ς π l G6 h Q=some p):kF c i (.Call (.Name h o) Q [] P) p:=by
 unfold mJ at a;cases g:lK π l h with
 |none=>rw[g]at a;exact Ei G f a
 |some d=>
  simp_all
theorem Ig(G:GoodO c i ς b π l)(j:∀e p,G6 e=some p->kF c i e p)(d:Ed π G6 h Q=some p):kF c i (.Call (.Name h o) Q [] P) p:=by
 unfold Ed at d;split at d
 .rename_i f
  simp at f;obtain⟨rfl,k⟩:=f;split at d
  .rename_i a x y m
   obtain⟨rfl,n,q⟩:=AW m;obtain⟨r,s,rfl⟩:=cT d;obtain⟨t,_,u⟩:=j a r s;exact bU (λw=>HI (G.gl k) (G.cY _ (by decide)) (G.gl n) (G.cY _ q) (bC u) (bG λz g=>by simp at g;subst g;rfl) (t w)) rfl (λ_=>rfl)
  .exact bD d
 .exact bD d
theorem Ek(z:du R=true)(A:(o.endLine==P.line)=true)(e:bt c i u R p):
  wF c i u n (.Call (.Attribute R "values" o) [] [] P) (yD p):=by
 intro r B C D E;refine PI.imp (G_ (cK z) A (e r B C D E)) ?_;rintro O H f ⟨F,Z,S,g⟩;refine⟨F,Z,S,oW.use g λx G _ v Q I T U j w h=>?_⟩
 unfold valOf at h;split at h
 .rename_i k
  simp only[aq]at w;obtain⟨R,e,rfl⟩:=w;split at h
  .rename_i l s
   obtain⟨J,d,a,m,y⟩:=j.cell s;rw[e]at d;cases d
   refine⟨R,a,rfl,.inl ⟨m,λb=>?_⟩⟩
   obtain⟨K,L⟩:=j.put (c:=.dF l) (o:=.cI b (.dK a)) e (λb t q=>by rw[m]at q;cases q) λf M=>⟨b,a,aD,y.imp M⟩
   exact h _ _ _ _ L K (uG e aD)
  .rename_i l s
   obtain⟨J,d,N,a,m,y⟩:=j.cell s;rw[e]at d;cases d
   exact⟨R,a,rfl,.inr ⟨N,m,h _ _ _ _ (b_.refl j.has) j (uG e m)⟩⟩
  .exact h.elim
 .exact h.elim
theorem Ms(G:GoodO c i ς b π l)(m:∀e p,G6 e=some p->kF c i e p)(d:Mq π G6 h Q=some p):kF c i (.Call (.Name h o) Q [] P) p:=by
 unfold Mq at d;split at d
 .rename_i a f t g
  obtain⟨rfl,q,rfl⟩:=DZ g;split at d
  .rename_i j
   simp only[Ö]at j;obtain⟨u,n,rfl⟩:=cT d;obtain⟨r,k⟩:=br m n;exact bU (λs=>DY G.calm (G.gl j.1) (G.cY _ (by decide)) (G.gl j.2) (G.cY _ (by decide)) (r s) (bC (k a (by simp))) (bG λz g=>k z (by simp[g]))) rfl (λ_=>rfl)
  .exact bD d
 .exact bD d
theorem Mt(G:GoodO c i ς b π l)(g:∀e p,G6 e=some p->kF c i e p)(d:Mr π G6 h Q=some p):kF c i (.Call (.Name h o) Q [] P) p:=by
 unfold Mr at d;split at d
 .rename_i a apos cpos j
  obtain⟨rfl,rfl,k⟩:=D_ j;split at d
  .rename_i f
   simp only[Ö]at f;obtain⟨m,n,rfl⟩:=cT d;exact bU (λq=>wH G.calm (G.gl f.1) (G.cY _ (by decide)) (cK f.2) k ((g a m n).1 q)) rfl (λ_=>rfl)
  .exact bD d
 .exact bD d
theorem Ih(G:GoodO c i ς b π l)(d:∀e p,G6 e=some p->kF c i e p)(a:ou π G6 h Q=some p):kF c i (.Call (.Name h o) Q [] P) p:=by
 unfold ou at a;split at a
 .rename_i f;cases a;exact Ig G d f
 .split at a
  .rename_i f;cases a;exact Ms G d f
  .exact Mt G d a
theorem ir(G:GoodO c i ς b π l)(f:∀e m,G6 e=some m->kF c i e m)(h:gV G6 π n=some D3):∀d j,wF c i d j n D3:=by
 intro d j
 have dflt:∀{D3},(G6 n).map cf=some D3->wF c i d j n D3:=λ{D3} h=>by
  obtain⟨m,k,rfl⟩:=cT h;exact HM ((f n m k).1 d)
 unfold gV at h;split at h
 .rename_i a _
  obtain⟨⟨g,args⟩,p,r,rfl⟩:=a;dsimp only at h;split at h
  .rename_i s
   obtain rfl:=eq_of_beq s;split at h
   .rename_i t
    split at h
    .obtain⟨A,k,rfl⟩:=cT h
     obtain⟨u,w⟩:=br f k;exact DJ (G.gl t) (G.cY _ (by decide)) (u d) (by rw[bC (w _ (.head _))];rfl)
    .exact bD h
   .exact bD h
  .exact dflt h
 .split at h
  .rename_i o _
   obtain⟨⟨o,B,C,D⟩,rfl⟩:=o;dsimp only at h;split at h
   .rename_i q
    simp only[Ö,beq_iff_eq]at q;obtain⟨⟨rfl,x⟩,y⟩:=q;obtain⟨z,e,rfl⟩:=cT h;exact Ek y (by simpa using x) ((f o z e).1 d)
   .exact dflt h
  .exact dflt h
def yO(Cs:List Str)(f:Str)(d:EM)(n:Int):SM:=λc e=>cU (d c e) λx a=>match pB a x with
 |some (k,C,b)=>if Cs.contains C&&decide (b.length<1000)then (match b.lookup f with
  |some (.int i)=>.nx c (a.set k (.ins C (kl f (.int (i+n)) b)))
  |_=>.bad)else .bad
 |none=>.bad
theorem El(G:jm c.K i l h)(I:bt c i u n p):iq c i u (.AugAssign (.Attribute n h P) .Add (.Constant (.int J) b Q3) o) (yO l h p J):=by
 intro q L M N O;refine PS.imp (zV (I q L M N O) Bx Lq) ?_;rintro E Q H ⟨T,Z,S,h⟩;refine⟨T,Z,S,dW.use S h λx U w V g B _ g2 r X e=>?_⟩
 split at e
 .rename_i k C Y hk
  obtain⟨a,j,m,f,rfl,rfl,h0,D,s,t⟩:=gu r.st X hk;split at e
  .rename_i y
   simp only[Ö,decide_eq_true_eq]at y;obtain⟨c1,c2⟩:=G C j y.1 D;split at e
   .rename_i d hi
    obtain⟨v,hv,F⟩:=(fB t).1 _ hi;simp only[aq]at F;subst F;have ry:aq g B V (.int (d+J)) (.int (d+J)):=by simp only[aq]
    obtain⟨s3,g3⟩:=r.st.put (o:=.ins j m (gz _ (.int (d+J)) f)) (c:=.ins C (kl _ (.int (d+J)) Y)) h0 (λn A z=>by rw[s]at z;cases z) λR hR=>⟨j,m,_,D,aD,(uK ry t).imp hR⟩
    exact⟨a,j,m,f,.int d,rfl,s,c1,c2,hv,d,J,rfl,rfl,m,f,s,by rw[gv.length t];exact y.2,e Q _ g B (r.grow g3 s3)⟩
   .exact e.elim
  .exact e.elim
 .exact e.elim
def Mu(a:A')(b:ď)(v:A'):Option {r:A'×Str×Int // ∃p j q,a=.Attribute r.1 r.2.1 p/\b=.Add/\v=.Constant (.int r.2.2) j q}:=match a,b,v with
 |.Attribute o f _,.Add,.Constant (.int n) _ _=>some ⟨(o,f,n),_,_,_,rfl,rfl,rfl⟩
 |_,_,_=>none
def Kb(a b v):=(Mu a b v).map (·.1)
theorem AY(a:Kb R f9 D4=some (n,h,J)):∃p j q,R=.Attribute n h p/\f9=.Add/\D4=.Constant (.int J) j q:=by
 obtain⟨⟨_,a⟩,_,e⟩:=Ã.mp a;cases e;exact a
noncomputable def wK(c:Cell)(b:Option Cell):Cell:=match c,b with
 |.dF a,some (.dK _)=>.dK a
 |c,_=>c
def cG(Ω av:az):az:=av.mapIdx λk c=>wK c Ω[k]?
def fC(F:aK):aK:=λc b=>match F c b with
 |.ok d a=>.ok d (cG b a)
 |r=>r
def Ii(Ω:az)(r:d_):d_:=match r with
 |.nx b a=>.nx b (cG Ω a)
 |r=>r
def Kc(a:D->aZ->Option aZ)(d:IM)(b:SM):SM:=λe c=>Ii c (dw a d b e c)
theorem aE.of_get{α β R}:∀{as}{bs},bs.length=as.length->(∀(i:Nat) (a:α) (b:β),as[i]?=some a->bs[i]?=some b->R a b)->aE R as bs
 |[],[],_,_=>.nil
 |a::as,b::bs,h,k=>.cons (k 0 a b rfl rfl) (aE.of_get (by simp_all) λi a b e f=>k (i+1) a b (by simp_all) (by simp_all))
 |[],_::_,h,_=>by simp at h
 |_::_,[],h,_=>by simp at h
variable{J0:Y'}{L6:Bp}
section
variable{X:Cx}{κ:Str->b'->Prop}{Φ:iS}{α α' α0:List b'}{Z Z' Z0:b'->Prop}{Ω av:az}{H H' H0:Hp}
open Classical in
theorem uS(S:bB κ α Z Ω H)(g:b_ α Z H α' Z' H')(x:bB κ α' Z' av H'):∃B,PF B H H'/\b_ α Z H α' Z' (tq B H')/\bB κ α' Z' (cG Ω av) (tq B H')/\∀d v,aq α' Z' H' d v->aq α' Z' (tq B H') d v:=by
 let B:b'->Prop:=λb=>∃(k:Nat) (h j:List (Key×D)),α'[k]?=some b/\Ω[k]?=some (Cell.dK h)/\av[k]?=some (Cell.dF j)
 have J:∀b,B b->b∈α/\∃h,H b=some (.dK h):=λb ⟨k,h,j,w,A,t⟩=>by
  obtain⟨a,E,l,K,_⟩:=S.cell A;have:=g.pre k a E;rw[w]at this;cases this
  exact⟨Ë E,l,K⟩
 have N:∀b,B b->∃o h,H' b=some (.cI o (.dK h)):=λb ⟨k,h,j,w,A,t⟩=>by
  obtain⟨a,E,o,l,K,_⟩:=x.cell t;rw[w]at E;cases E
  exact⟨o,l,K⟩
 have O:∀b,Z' b->¬ B b:=by rintro b z ⟨k,_,_,w,_⟩;exact x.sep b (Ë w) z
 have rp:∀d v,aq α' Z' H' d v->aq α' Z' (tq B H') d v:=λd v r=>r.mono (λ_ _ e=>e) (λa o z e=>by rw[cj (O a z)];exact e) λ_ z=>z
 refine⟨B,⟨N,λb s=>(J b s).2⟩,⟨g.pre,g.sub,g.new,g.JO,λa o e G=>?_,λa G=>?_,λa o u e=>?_⟩,⟨x.uu,?_,x.sep,λa z=>by rw[cj (O a z)];exact x.dom a z⟩,rp⟩
 .rw[cj λs=>G (J a s).1];exact g.frm a o e G
 .by_cases s:B a
  .obtain⟨o,h,e⟩:=N a s;rw[vU s e];simp
  .rw[cj s];exact g.has a G
 .rw[cj λs=>by obtain⟨_,_,z⟩:=J a s;rw[e]at z;cases z];exact g.cI a o u e
 .refine aE.of_get (by unfold cG;rw[afS];exact x.Dv.length) λi c a e f=>?_
  unfold cG at e;rw[ĳ]at e;obtain⟨y,w,rfl⟩:=Ã.mp e;obtain⟨Y,A,t⟩:=x.cell w;rw[f]at A;cases A
  have Q:(∀h j,Ω[i]?=some (.dK h)->y≠.dF j)->¬ B a:=λq ⟨k,h,j,m,p,P⟩=>by
   have:k=i:=by
    have R:=(Ì.mp m);have T:=(Ì.mp f)
    exact(adN x.uu).mp (R.2.trans T.2.symm)
   subst this;rw[w]at P;cases P
   exact q h j p rfl
  have same:¬ B a->wK y Ω[i]?=y->h_ κ (aq α' Z' (tq B H')) (tq B H') a (wK y Ω[i]?):=λn q=>by
   rw[q];cases y with
   |lst ds=>obtain⟨l,m,p⟩:=t;exact⟨l,by rw[cj n];exact m,p.imp rp⟩
   |dK h=>obtain⟨l,m,p⟩:=t;exact⟨l,by rw[cj n];exact m,p.imp rp⟩
   |dT h=>obtain⟨l,m,p⟩:=t;exact⟨l,by rw[cj n];exact m,p.imp rp⟩
   |dF h=>obtain⟨o,l,m,p⟩:=t;exact⟨o,l,by rw[cj n];exact m,p.imp rp⟩
   |ins C fs=>obtain⟨U,V,l,X,m,p⟩:=t;exact⟨U,V,l,X,by rw[cj n];exact m,p.imp rp⟩
   |_=>exact t.elim
  by_cases L:∃h j,Ω[i]?=some (.dK h)/\y=.dF j
  .obtain⟨h,j,I,rfl⟩:=L
   have s:B a:=⟨i,h,j,f,I,w⟩;obtain⟨o,l,m,p⟩:=t;rw[I];exact⟨l,vU s m,p.imp rp⟩
  .refine same (Q λh j I M=>L ⟨h,j,I,M⟩) ?_
   unfold wK;split
   .rename_i h F M
    exact absurd ⟨F,h,M,rfl⟩ L
   .rfl
theorem mL(h:bW I M O Δ L L6 b j J0 l (c_ κ C)):bW I M O Δ L L6 b j J0 l (c_ κ (fC C)):=
 h.fh.imp λu H Q E ⟨f,Z,c,e,S,r,g⟩=>⟨f,Z,c,e,S,r,by
  unfold fC at g;cases q:C e c with
  |ok d a=>
   rw[q]at g;intro v w i k m n o;obtain⟨B,p,s,t3,t⟩:=uS S m n;exact⟨B,p,g v _ _ k s t3 (t d v o)⟩
  |exc x a=>rwa[q]at g
  |bad=>rwa[q]at g⟩
theorem Em(h:iq X κ Φ Θ ε):iq X κ Φ Θ (λl Ω=>Ii Ω (ε l Ω)):=by
 intro y z A l Ω;have C:PS X Θ (λD p H=>∃m t u,OC κ Φ _ t u ε l Ω D p H):=λpins s p H D I ⟨m,t,u,q⟩=>h m t u l Ω _ s p H D I q
 refine PS.imp C.fh ?_;rintro E p H ⟨w,Z,S,f⟩;replace f:dW κ Φ _ z A E (Ii Ω _):=f;refine⟨w,Z,H,w,Z,⟨S.st,b_.refl S.st.has,S.len,S.val⟩,?_⟩;cases q:ε l Ω with
 |nx n b=>
  rw[q]at f;intro o k c j a;obtain⟨B,F,G,t3,J⟩:=uS S.st a.gr a.st;refine⟨B,F,f _ _ _ j ⟨t3,S.gr.trans G,a.len,λi d e=>?_⟩⟩
  obtain⟨v,K,L⟩:=a.val i d e
  simp_all
 |bk n b=>rw[q]at f;exact λo k c j a=>f _ k _ j ⟨a.st,S.gr.trans a.gr,a.len,a.val⟩
 |ct n b=>rw[q]at f;exact λo k c j a=>f _ k _ j ⟨a.st,S.gr.trans a.gr,a.len,a.val⟩
 |rt d b=>rw[q]at f;exact λv k c j g s r=>f v k _ j (S.gr.trans g) s r
 |exc x b=>rw[q]at f;exact λk c j g s=>f k _ j (S.gr.trans g) s
 |bad=>rwa[q]at f
end
variable{t9:V'}
theorem yQ(G:GoodO c i ς b π l)(f:Ar t9 π h=true)(g:wg π l (dO t9)=some T):
  iZ c t9 [h] (dO t9) T/\t9.names.lookup h=some .local/\([h]++dO t9).Nodup:=by
 simp only[Ar,Ö,decide_eq_true_eq,Ĕ,Ť,beq_iff_eq,afu]at f;obtain⟨⟨⟨⟨⟨k,s⟩,t⟩,u⟩,m⟩,n⟩:=f;obtain⟨o,w⟩:=De g
 have p:∀y∈t9.names,y.2=.free->(π.names.lookup y.1=some .cell\/π.names.lookup y.1=some .free)/\t9.names.lookup y.1=some .free:=λy a d=>by
  grind
 refine⟨⟨k,λy a d=>?_,λy a d=>?_,λy a d=>?_,o,λj e z q x=>?_⟩,m,n⟩
 .grind
 .grind
 .have:=(p y a d).1
  show c.env.scope.names.lookup _=_\/c.env.scope.names.lookup _=_
  rwa[G.scope]
 .refine⟨by rw[G.names];grind,?_⟩
  have r:=Ë q;unfold dO at r
  grind
theorem ox(c:qf ua=none)(h:dI ς (b+1) π l (.ListComp n ua t9 o)=some p):T4:=by
 replace h:(match qf _ with
   |some (x,_,iter,a)=>if (Ar _ π x&&!isSet _)=true then (match wg π l _,gV _ π _,dI ς b _ _ _,Ee _ _ with
    |some _,some d,some e,some (f,g)=>some _
    |_,_,_,_=>none)else none
   |none=>none)=some p:=h
 simp_all
theorem lS(A:∀c π l e p,GoodO c i ς b π l->dI ς w π l e=some p->kF c i e p)(G:GoodO c i ς b π l)(d:dI ς (w+1) π l (.ListComp R [⟨.Name h o,n,Q,0⟩] t9 P)=some p):∃m q r s k,p=cD m q r s 0 k/\iZ c t9 [h] (dO t9) k/\t9.names.lookup h=some .local/\([h]++dO t9).Nodup /\
   (∀z,Ď n c.env z=pure z)/\(∀x,wF c i x (.Name h o) n s) /\
   ∀u C f g fp,((Q=[]/\q=true)\/∃j,Q=[j]/\q=false/\jA (blk c t9 u C ([h]++dO t9) f g fp) i lR j r)/\bt (blk c t9 u C ([h]++dO t9) f g fp) i lR R m:=by
 replace d:(if (Ar _ π h&&!isSet _)=true then (match wg π l _,gV _ π _,dI ς w _ _ _,Ee _ _ with
    |some _,some s,some m,some (q,r)=>some _
    |_,_,_,_=>none)else none)=some p:=d
 split at d
 .rename_i y
  simp at y;split at d
  .rename_i k s m q r E F H t
   cases d;obtain⟨I,J,K⟩:=yQ G y.1 E;refine⟨m,q,r,s,_,rfl,I,J,K,jV y.2,λx=>ir G (by grind) F x _,λu C f g fp=>?_⟩
   have B:=G.blk t9 u C ([h]++dO t9) f g fp;refine⟨?_,(A _ _ _ _ m B H).1 _⟩
   match Q,t with
   |[],t=>cases t;simp
   |[D],t=>
    obtain⟨a,L,M⟩:=cT t;cases M;exact .inr ⟨D,rfl,rfl,(A _ _ _ D r B L).2.1 _⟩
  .exact bD d
 .exact bD d
theorem fD:∀n X sc N e m,GoodO X i ς b sc N->dI ς n sc N e=some m->kF X i e m:=by
 intro n
 induction n with
 |zero=>exact λ_ _ _ _ _ _ h=>nomatch h
 |succ n S=>
  intro X sc N e m G h;have k:=λe m q=>S X sc N e m G q
  cases e with
  |Name x pos=>exact Ef G h
  |Constant c j pos=>exact AX h
  |BinOp a B d pos=>exact Ib h λy C u w=>bU (λg=>Hj ((k a y u).1 g) ((k d C w).1 g)) rfl λ_=>rfl
  |UnaryOp B a pos=>
   cases B with
   |USub=>exact QE h λy u=>bU (λg=>Hk ((k a y u).1 g)) rfl λ_=>rfl
   |Not=>exact QE h λy u=>⟨λg=>Hs ((k a y u).1 g),λg=>Ht ((k a y u).2.1 g),rfl⟩
   |_=>exact bD h
  |BoolOp B F pos=>
   cases F with
   |nil=>exact bD h
   |cons a r=>
   cases r with
   |nil=>exact bD h
   |cons d r=>exact xa (uQ (pos:=pos) k (show mI (dI ς n sc N) B (a::d::r)=some m from h)) λq1 q2=>⟨q1,λg=>(q2 g).pt,rfl⟩
  |Compare a I cs pos=>
   refine bx (mH (show J_ (dI ς n sc N) a I cs=some m from h) λq T h=>⟨q,T,h⟩) λq T h=>?_
   obtain⟨⟨B,d,r⟩,J,K⟩:=q;subst J K;cases r with
   |none=>exact Mn h λL h=>Ib h λy C u w=>have c:=λg=>Hm G.hu (uh (o5:=B) L) ((k a y u).1 g) ((k d C w).1 g);⟨λg=>(c g).1,λg=>(c g).2,rfl⟩
   |some r=>exact Mn h λL h=>JY h λy C mc u w A=>have U:ů [B,r.1] [d,r.2]=false:=uh (o5:=r.1) L;⟨λg=>Hy G.hu U ((k _ _ u).1 g) ((k _ _ w).1 g) ((k _ _ A).1 g),λg=>Hz G.hu U ((k _ _ u).1 g) ((k _ _ w).1 g) ((k _ _ A).1 g),rfl⟩
  |IfExp t a d pos=>exact JY h λmt y C u w A=>⟨λg=>Hw ((k _ _ u).2.1 g) ((k _ _ w).1 g) ((k _ _ A).1 g),λg=>Hx ((k _ _ u).2.1 g) ((k _ _ w).2.1 g) ((k _ _ A).2.1 g),rfl⟩
  |Subscript a s pos=>
   have M:∀d,isSlice d=false->o2 (dI ς n sc N a) (dI ς n sc N d) (m2 bc)=some m->kF X i (.Subscript a d pos) m:=λd O h=>Ib h λy C u w=>bU (λg=>Hq (by have:=G.hu;omega) (λo P=>by cases d<;>first|rfl | (cases O)) ((k _ _ u).1 g) ((k _ _ w).1 g)) rfl λ_=>rfl
   cases s with
   |Slice lo D st p2=>
    cases st with
    |none=>exact JY h λy l r u w A=>bU (λg=>Hr ((k _ _ u).1 g) (uR k w) (uR k A)) rfl λ_=>rfl
    |some e=>
     cases lo with
     |none=>
      cases D with
      |none=>exact bD h
      |some _=>exact bD h
     |some _=>exact bD h
   |_=>exact M _ rfl h
  |List es pos=>exact QE h λV u=>bU (λg=>Hh ((br k u).1 g)) rfl λ_=>rfl
  |Tuple es j pos=>exact QE h λV u=>bU (λg=>Hi ((br k u).1 g)) rfl λ_=>rfl
  |Attribute o f pos=>exact Mo h λO h=>Ib h λCs Q u w=>bU (λg=>HS (G.fld f Cs u) (cK O) ((k o Q w).1 g)) rfl λ_=>rfl
  |Call f args E pos=>
   cases f with
   |Name x p=>
    cases E with
    |nil=>
     replace h:(match ou sc (dI ς n sc N) x args with|some m=>some m|none=>mJ ς sc N (dI ς n sc N) x args)=some m:=h
     cases D:ou sc (dI ς n sc N) x args with
     |some m'=>
      rw[D]at h;exact Br h (Ih G k D)
     |none=>
      rw[D]at h;exact Ej G k h
    |cons _ _=>exact bD h
   |Attribute o mm p1=>
    cases E with
    |nil=>
     refine Mo (c:=p1.endLine==pos.line&&du o&&decide (args.length<20)) h λH h=>mH h λQ u h=>mH h λV w h=>?_
     simp only[Ö,decide_eq_true_eq]at H;exact bU (λg=>Eh G H.1.2 H.1.1 H.2 ((k o Q u).1 g) w k h) rfl λ_=>rfl
    |cons _ _=>exact bD h
   |_=>exact bD h
  |ListComp a0 gens scope pos=>
   cases Y:qf gens with
   |none=>exact ox Y h
   |some q=>
    obtain⟨x,px,iter,b0⟩:=q;obtain rfl:=qh Y;refine xe (lS (λX sc N e m G q=>S X sc N e m G q) G h) λme R=>bo R λnc mc mi c0 z b1 b2 b3 b4 R=>xa R λb5 b6=>?_
    subst z;exact bU (λg=>DK G.calm b1 b4 (b5 g) b2 b3 b6) rfl λ_=>rfl
  |Dict ks F pos=>
   cases ks with
   |nil=>
    cases F with
    |nil=>exact Br h (bU (λg=>AR) rfl λ_=>rfl)
    |cons _ _=>exact bD h
   |cons Z r=>
    refine mH (show(JZ (Z::r) F).bind _=some m from h) λq _ h=>?_
    obtain⟨⟨Z,v0⟩,J,K⟩:=q;subst K;rw[J];exact Ib h λmk mv w A=>bU (λg=>wG (by have:=G.hu;omega) ((k _ _ w).1 g) ((k _ _ A).1 g)) rfl λ_=>rfl
  |_=>exact bD h
structure dX(X:Cx)(κ:Str->b'->Prop)(T:aA)(k:Nat)(sc:V')(N:List Str):Prop extends GoodO X κ T k sc N where
 own:ŭ (p' X.prog X.w) X.A X.env X.xe
 UJ:∀x,C5 sc x=true->T.fz.contains x=false->(X.fn x=true\/X.env.scope.names.lookup x=some .local)
 uu:N.Nodup
 kind:sc.kind=.function
 lU:T.xt=false->∀e s,¬ X.xe e s
def fQ(f:J'->Option SM):List J'->Option SM
 |[]=>some ah
 |s::r=>o2 (f s) (fQ f r) ag
def wL(f:A'->Option EM)(sc:V')(iter:A'):Option IM:=match itC iter with
 |some c=>(match c.1.2 with
  |[a]=>if c.1.1==("enumerate")then (if we sc c.1.1 then (f a).map sm else none)else gV f sc iter
  |[a,b]=>if c.1.1==("zip")then (if we sc c.1.1 then (cO f [a,b]).map uD else none)else gV f sc iter
  |_=>gV f sc iter)
 |none=>match itM iter with
  |some o=>if o.1.2.1==("items")&&o.1.2.2.1.endLine==o.1.2.2.2.line&&du o.1.1 then (f o.1.1).map kZ else gV f sc iter
  |none=>gV f sc iter
noncomputable def QG(e:A'):Option {_u:Unit // ∃p,e=.Dict [] [] p}:=match e with
 |.Dict [] [] _=>some ⟨(),_,rfl⟩
 |_=>none
def QH(e):=(QG e).isSome
theorem En(h:QH n=true):∃p,n=.Dict [] [] p:=by
 obtain⟨⟨_,h⟩,_⟩:=Ϩ.mp h;exact h
def qz(T:aA)(sc N x):=if T.fz.contains x then none else ui sc N x
def sE(T:aA)(sc N)(nms:List (Str×T')):=if nms.any (λy=>T.fz.contains y.1)then none else rQ sc N nms
def Eo(T)(td:List Str)(k sc N x a e)(pos:T'):=(qz T sc N x).bind λi=>
 if td.contains x&&QH e then some (aR i Mm)else (dI T k sc N e).bind λm=>if uj sc x a e then (if pos.line==a.line then some (aR i m)else none)else some (aR i m)
def Ep(T k sc N a e):=(gm a).bind λnms=>(sE T sc N nms).bind λb=>(dI T k sc N e).bind λm=>if Dg e then some (HP b m)else none
noncomputable def XC:A'->Bool
 |.Call (.Attribute (.Attribute ..) m _) [] [] _=>m==("items")
 |_=>false
def Er(b:Bool)(a:D->aZ->Option aZ)(d c):=if b then Kc a d c else dw a d c
theorem Es(h:iq c i u Θ (dw G7 D3 ε)):iq c i u Θ (Er H G7 D3 ε):=by
 unfold Er;split
 .exact Em h
 .exact h
def Mv(R:List J'->Option SM)(T td k sc N)(st:J'):=match st with
  |.Return none _=>some yG
  |.Return (some e) _=>some (match dI T k sc N e with
   |some m=>bj m
   |none=>bF)
  |.Assign [.Name x j] e g=>Eo T td k sc N x j e g
  |.Assign [.Tuple h _ _] e _=>Ep T k sc N h e
  |.Assign [.Attribute o f _] e _=>if du o&&!rP e then o2 (T.fld.lookup f) (o2 (dI T k sc N o) (dI T k sc N e) ģ) λCs y=>cM Cs f y.1 y.2 else none
  |.Assign [.Subscript o i _] e _=>if isSlice i||rP e then none else o2 (dI T k sc N o) (o2 (dI T k sc N i) (dI T k sc N e) ģ) λx y=>fA x y.1 y.2
  |.Expr e _=>if rP e then none else (dI T k sc N e).map cA
  |.If c a b _=>o2 (dI T k sc N c) (o2 (R a) (R b) ģ) λx y=>dP x y.1 y.2
  |.While c b [] _=>o2 (dI T k sc N c) (R b) DL
  |.For (.Name x _) d b [] _=>if isSet d then none else o2 (qz T sc N x) (o2 (gV (dI T k sc N) sc d) (R b) ģ) λi y=>dw (cF i) y.1 y.2
  |.For (.Tuple h _ _) d b [] _=>if isSet d then none else (gm h).bind λnms=>o2 (sE T sc N nms) (o2 (wL (dI T k sc N) sc d) (R b) ģ) λl y=>Er (XC d) (dQ l) y.1 y.2
  |.Raise _ _ _=>some bF
  |.AugAssign n p v _=>(Kb n p v).bind λa=>o2 (T.fld.lookup a.2.1) (dI T k sc N a.1) λCs m=>yO Cs a.2.1 m a.2.2
  |.Try b (_::_) [] [] _=>if T.xt then none else R b
  |_=>none
def Mw(T:aA)(td:List Str)(k:Nat)(sc:V')(N:List Str):Nat->J'->Option SM
 |0,_=>none
 |n+1,a=>Mv (fQ (Mw T td k sc N n)) T td k sc N a
theorem Ij(hg:Gl c "enumerate")(hm:c.mg "enumerate"=none)(hs:D' [n] c.env=[(false,eval n c.env)])(E:bt c i u n p):
  wF c i u (.Tuple Q b o) (.Call (.Name "enumerate" P) [n] [] Q3) (sm p):=by
 intro b0 Z0 H0 ρ Ω;refine PI.imp (Dp hg hm (fM (E b0 Z0 H0 ρ Ω) rf hs) hs) ?_;rintro σ H R ⟨α,Z,S,g⟩;refine⟨α,Z,S,oW.use g λx c0 _ v N s U g1 F r1 A=>?_⟩
 have X:∀{l:List b'}{K:b'->Prop}{z:az}{B:Hp}{a:Nat}{v:V}{Y:D},bB i l K z B->aq l K B Y v->∀P,B P=none->∃Z3,b_ l K B l Z3 (upd B P (.tup [.int a,v]))/\bB i l Z3 z (upd B P (.tup [.int a,v]))/\aq l Z3 (upd B P (.tup [.int a,v])) (.tup [.int (0+a:Nat),Y]) (.ref P):=λ{l K z B a v Y} C rv P hp=>by
  obtain⟨s3,g3⟩:=C.nU (j:=P) (m4:=.tup [.int a,v]) hp True;simp only[if_true]at s3 g3;refine⟨Zp K P,g3,s3,?_⟩;simp only[aq];refine⟨P,_,rfl,.inr rfl,aD,bZ.mpr (.cons ?_ (.one (C.cH g3 rv)))⟩;simp only[aq];simp
 cases O:cR c0 x with
 |none=>
  simp only[O]at A
  have wl:∀{s:List b'}{U:b'->Prop}{N:Hp}{k:Nat}{n:b'}{f:Obj}{m:List (Key×V)},s[k]?=some n->N n=some (.cI f (.dK m))->wD i (.Qv k) (Dm n f) s U N:=by
   intro s U N k n f m E hf l K z B ds T C t;have d0:=T.pre k n E;have G:=T.cI n _ _ hf;simp only[dr]at t;split at t
   .rename_i l0 hk
    cases t;obtain⟨a',r,of,h,J,L⟩:=C.cell hk;rw[d0]at r;cases r
    rw[G]at J;cases J
    have hl:=L.length;refine⟨λa d hd=>?_,λa hi=>⟨m,G,by rw[mz,Þ]at hi;exact B' (R' hl) hi⟩⟩
    obtain⟨Y,I,rfl⟩:=mB _ 0 a d hd;rw[ç]at I;obtain⟨P,hp,rfl⟩:=Ã.mp I;obtain⟨q,O,e1,e2⟩:=aE.get L hp;refine⟨⟨m,G,(Ì.mp O).1⟩,λy H3 M=>?_⟩
    obtain⟨pp,rfl,e0,M⟩:=M;obtain⟨kv,a0,rfl⟩:=M m G;rw[O]at a0;cases a0
    exact X C (by rw[e1];cases q.1<;>simp only[fy,kV,aq]) pp e0
   .exact bD t
  unfold yE at A;split at A
  .rename_i k
   simp only[aq]at r1;obtain⟨n,E,rfl⟩:=r1;split at A
   .rename_i m hk
    obtain⟨a',r,h,J,L⟩:=F.cell hk;rw[E]at r;cases r
    refine⟨n,rfl,.inr ⟨h,.inl ⟨J,λf=>?_⟩⟩⟩
    obtain⟨C,T⟩:=F.put (c:=.dF m) (o:=.cI f (.dK h)) E (λf g0 q=>by rw[J]at q;cases q) λR hR=>⟨f,h,aD,L.imp hR⟩
    exact A _ _ _ _ T C (wl E aD)
   .rename_i m hk
    obtain⟨a',r,f,h,J,L⟩:=F.cell hk;rw[E]at r;cases r
    exact⟨n,rfl,.inr ⟨h,.inr ⟨f,J,A _ N s U (b_.refl F.has) F (wl E J)⟩⟩⟩
   .exact A.elim
  .exact A.elim
 |some m0=>
  simp only[O]at A;have h0:=r1;obtain⟨n,i0,rfl,q1,q2⟩:=bu F r1 O;refine⟨n,rfl,.inl ⟨⟨i0,lG q1⟩,?_⟩⟩;refine A _ N s U (b_.refl F.has) F ?_;intro l K z B ds T C t;obtain⟨j0,L,rfl⟩:=cT t;have r2:=F.cH T h0;obtain⟨a',vs,e,h3,h4⟩:=bu C r2 L;cases e;refine⟨λa d hd=>?_,λa hi=>by rw[mz]at hi;exact⟨vs,lG h3,by rw[h4.length];exact hi⟩⟩
  obtain⟨Y,I,rfl⟩:=mB j0 0 a d hd;obtain⟨v,hv,rv⟩:=h4.get I;refine⟨⟨vs,v,lG h3,hv⟩,λy H3 M=>?_⟩
  obtain⟨P,rfl,hp,M⟩:=M;obtain⟨w,hw,rfl⟩:=M vs (lG h3);rw[hv]at hw;cases hw
  exact X C rv P hp
theorem AZ(w:du n=true)(y:(P.endLine==Q3.line)=true)(e:bt c i u n p):
  wF c i u (.Tuple Q b o) (.Call (.Attribute n "items" P) [] [] Q3) (kZ p):=by
 intro l z A B C;refine PI.imp (Dl (cK w) y (e l z A B C)) ?_;rintro N H R ⟨D,Z,S,g⟩;refine⟨D,Z,S,oW.use g λx E _ v O F T U h G f=>?_⟩
 unfold yC at f;split at f
 .obtain⟨n,e,rfl⟩:=G
  split at f
  .rename_i m r
   obtain⟨I,a,j,k,t⟩:=h.cell r;rw[e]at a;cases a
   refine⟨n,_,rfl,.inl ⟨k,λd=>?_⟩⟩
   obtain⟨J,K⟩:=h.put (c:=.dF _) e (λd s q=>by simp_all) λR L=>⟨d,_,aD,t.imp L⟩
   exact f _ _ _ _ K J (qw e aD)
  .rename_i m r
   obtain⟨I,a,M,j,k,t⟩:=h.cell r;rw[e]at a;cases a
   exact⟨n,_,rfl,.inr ⟨M,k,f _ _ _ _ (b_.refl h.has) h (qw e k)⟩⟩
  .exact f.elim
 .exact f.elim
theorem Ik{b d}(g:∀e s,¬ c.xe e s)(j:mf c i u F5 ε):iq c i u (.Try F5 (b::d) [] [] o) ε:=by
 intro k l m n p pins s r H D I h;refine afd (à (j _ l m n p _ s r H D I h) (λf a q=>?_) λe a q=>absurd q (g e a))
 cases f with
 |next=>exact Ĺ q
 |_=>exact q
theorem Il(G:GoodO c i ς b π l)(f:∀e m,G6 e=some m->kF c i e m)(h:wL G6 π n=some D3):∀d,wF c i d (.Tuple Q w o) n D3:=by
 intro d;unfold wL at h;split at h
 .rename_i j _
  obtain⟨⟨g,args⟩,p,u,rfl⟩:=j;dsimp only at h;split at h
  .split at h
   .rename_i q
    obtain rfl:=eq_of_beq q;split at h
    .rename_i k
     obtain⟨r,e,rfl⟩:=cT h;obtain⟨s,_,x⟩:=f _ r e;exact Ij (G.gl k) (G.cY _ (by decide)) (by rw[bC x];rfl) (s d)
    .exact bD h
   .exact ir G f h d _
  .split at h
   .rename_i q
    obtain rfl:=eq_of_beq q;split at h
    .rename_i k
     obtain⟨B,e,rfl⟩:=cT h;obtain⟨y,t⟩:=br f e;exact HL (G.gl k) (G.cY _ (by decide)) (y d) (bC (t _ (.head _))) (by rw[bC (t _ (.tail _ (.head _)))];rfl)
    .exact bD h
   .exact ir G f h d _
  .exact ir G f h d _
 .split at h
  .rename_i a _
   obtain⟨⟨a,C,s,D⟩,rfl⟩:=a;dsimp only at h;split at h
   .rename_i k
    simp only[Ö,beq_iff_eq]at k;obtain⟨⟨rfl,z⟩,A⟩:=k;obtain⟨r,e,rfl⟩:=cT h;exact AZ A (by simpa using z) ((f a r e).1 d)
   .exact ir G f h d _
  .exact ir G f h d _
theorem A_(G:dX c i ς b π l)(a:ui π l h=some w):c.N[w]?=some h/\Loc c.env.scope h:=by
 unfold ui at a;split at a
 .rename_i d
  simp at d;refine⟨by rw[G.names];exact Dc a,?_⟩
  rw[G.scope];have e:=d.1;unfold C5 at e;unfold L2.Loc
  grind
 .exact bD a
theorem ez{X e g f}(i:∀s c,f s=some c->iq X e g s c):∀{d}{c},fQ f d=some c->mf X e g d c
 |[],c,h=>by cases h;exact HQ
 |s::d,c,h=>by
  obtain⟨a,b,j,k,rfl⟩:=su h;exact DM (i s a j) (ez i k)
theorem iM(G:dX c i ς b π l)(d:qz ς π l h=some w):c.N[w]?=some h/\Loc c.env.scope h/\(c.fn h=true\/c.env.scope.names.lookup h=some .local):=by
 unfold qz at d;split at d
 .exact bD d
 .obtain⟨a,e⟩:=A_ G d
  refine⟨a,e,G.UJ h ?_ (by grind)⟩
  unfold ui at d
  simp_all
theorem oy{X b T k sc N}(G:dX X b T k sc N):∀{nms}{a},(∀y∈nms,T.fz.contains y.1=false)->rQ sc N nms=some a->a.length=nms.length/\∀(j i:Nat) x,a[j]?=some i->nms[j]?=some x->X.N[i]?=some x.1/\Loc X.env.scope x.1/\(X.fn x.1=true\/X.env.scope.names.lookup x.1=some .local)
 |[],a,_,h=>by cases h;simp_all
 |x::m,a,c,h=>by
  refine bx (Ń.mp h) λi n h=>?_
  refine bx (Ń.mp h) λd e h=>?_
  cases h;obtain⟨o,f⟩:=oy G (λy g=>c y (by simp[g])) e
  refine⟨by simp_all,λj l y p q=>?_⟩
  cases j with
  |zero=>
   exact iM G (by unfold qz;simp_all)
  |succ j=>exact f j l y (by simp_all) (by simp_all)
theorem uT(G:dX c i ς b π l){nms}(e:gm Q=some nms)(f:sE ς π l nms=some T):PG c (.Tuple Q w o) (vA c.K T.length (gG T)):=by
 obtain rfl:=lL e
 have a:(∀y∈nms,ς.fz.contains y.1=false)/\rQ π l nms=some T:=by
  unfold sE at f
  grind
 obtain⟨d,g⟩:=oy G a.1 a.2;obtain⟨h,j⟩:=qj _ _;exact BA G.calm (qb (nms:=nms) (by rw[G.names];exact G.uu) T _ d g) (by rw[h,d]) j
theorem uU(G:dX c i ς b π l):
  ï (.ListComp n ua t9 o) (some (.Name h P)) w c.env=pure (uj π h P (.ListComp n ua t9 o)):=by
 have a:c.env.blockKind=.function:=by
  show(if c.env.scope.kind.isAnnotationScope=true then ahx else c.env.scope.kind)=_
  rw[G.scope,G.kind];rfl
 show pure _=_
 rw[a]
 show pure (true&&c.env.scope.names.lookup h==some _&&P.line==o.line&&!(t9.names.any _))=_
 rw[G.scope];rfl
theorem yR(G:dX c i ς b π l)(s:qz ς π l h=some ζ)(a:dI ς w π l n=some p)(t:uj π h o n=true->P.line=o.line):iq c i u (.Assign [.Name h o] n P) (aR ζ p):=by
 refine kH (iM G s) λk x y=>?_
 have m:c.N.Nodup:=by rw[G.names];exact G.uu
 have plain:ï n (some (.Name h o)) P.line _=pure _->iq c i u _ _:=λq=>yJ m k x y q ((fD w c π l n p G.toGoodO a).1 u)
 cases n with
 |ListComp z gens scope e=>
  cases d:uj π h o _ with
  |false=>exact plain (by rw[uU G,d])
  |true=>
   cases w with
   |zero=>exact bD a
   |succ w=>
   cases r:qf _ with
   |none=>exact ox r a
   |some q=>
    obtain rfl:=qh r;refine xe (lS (λc π l n p G q=>fD w c π l n p G q) G.toGoodO a) λI f=>bo f λJ K L A g B C D E j=>xa j λF H=>?_;subst g
    exact DO m k (by
     rw[G.scope];unfold uj at d;simp only[Ö,beq_iff_eq]at d;exact d.1.1) (by rw[uU G,d]) G.calm B E (lJ 1 (by decide)) (om (F u) C D H) (t d)
 |SetComp=>cases w<;>exact bD a
 |DictComp=>cases w<;>exact bD a
 |_=>exact plain rfl
theorem oz(h:rP n=false):ï n Y8 b u6=pure false:=by
 cases n<;>first|rfl | (cases h)
theorem yS(G:dX c i ς b π M0){R}(B:∀S ε,R S=some ε->mf c i u S ε)(h:Mv R ς l w π M0 Θ=some ε):iq c i u Θ ε:=by
 have E:=λe m q=>fD w c π M0 e m G.toGoodO q
 have T:c.N.Nodup:=by rw[G.names];exact G.uu
 cases Θ with
 |Return v k=>
  cases v with
  |none=>exact Br h DN
  |some e=>
   refine Br h ?_;split
   .exact yH ((E e _ ‹_›).1 u)
   .exact k_
 |Assign Z e k=>
  cases Z with
  |nil=>exact bD h
  |cons t r=>
  cases r with
  |cons t2 r=>cases t<;>exact bD h
  |nil=>
  cases t with
  |Name x U=>
   refine mH (show Eo ς l w π M0 x U e k=some ε from h) λg H I=>?_
   split at I
   .rename_i hd
    refine xe (En (û.mp hd).2) λpd z=>?_
    subst z;exact kH (iM G H) λJ K L=>Br I (yJ T J K L rfl AS)
   .refine mH I λm V h=>?_
    split at h
    .exact Mo h λhl h=>Br h (yR G H V λ_=>eq_of_beq hl)
    .exact Br h (yR G H V λq=>absurd q ‹_›)
  |Tuple X j p=>
   exact mH (show Ep ς w π M0 X e=some ε from h) λnms M h=>mH h λY n h=>mH h λm D h=>Mo h λhp h=>Br h (HR (uT G M n) hp ((E e m D).1 u))
  |Attribute o f p=>exact Mo h λF h=>JY h λCs mo O n s y=>HU (G.fld f Cs n) (oz (by simpa using (û.mp F).2)) ((E o mo s).1 u) ((E e O y).1 u)
  |Subscript o g p=>exact Mn h λF h=>JY h λmd mk O n s y=>DW (by have:=G.hu;omega) ((E o md n).1 u) ((E g mk s).1 u) ((E e O y).1 u) (oz (Bool.or_eq_false_iff.mp F).2)
  |_=>exact bD h
 |Expr e k=>exact Mn h λF h=>QE h λm n=>yK (oz F) ((E e m n).1 u)
 |If P a d k=>exact JY h λm ca A n s y=>Mh ((E P m n).2.1 u) (B a ca s) (B d A y)
 |While P d e k=>
  cases e with
  |nil=>exact Ib h λm A n D=>AN G.own ((E P m n).2.1 u) (B d A D)
  |cons _ _=>exact bD h
 |For Q it d e k=>
  cases e with
  |nil=>
   cases Q with
   |Name x U=>exact Mn h λC h=>JY h λg mi A n s y=>kH (iM G n) λJ K L=>yL G.own G.calm (ir G.toGoodO E s u _) (jD T J K L) (Mi g) (B d A y) (jV C)
   |Tuple X j p=>exact Mn h λC h=>mH h λnms M h=>JY h λY mi A n s y=>Es (yL G.own G.calm (Il G.toGoodO E s u) (uT G M n) (DR Y) (B d A y) (jV C))
   |_=>exact bD h
  |cons _ _=>cases Q<;>exact bD h
 |Raise _ _ _=>exact Br h k_
 |AugAssign Q op v k=>
  refine mH h λa ha h=>?_
  refine xe (AY ha) λp zy=>aP zy λj' q z1 z2 z3=>?_
  subst z1 z2 z3;exact Ib h λCs m n D=>El (G.fld _ Cs n) ((E _ m D).1 u)
 |Try d C oe fi k=>
  cases C with
  |nil=>exact bD h
  |cons h0 C=>
  cases oe with
  |cons _ _=>exact bD h
  |nil=>
  cases fi with
  |cons _ _=>exact bD h
  |nil=>exact Mn h λhx h=>Ik (G.lU hx) (B d ε h)
 |_=>exact bD h
theorem yT{X b d T td k sc N}(G:dX X b T k sc N):∀n a st c,Mw T td a sc N n st=some c->iq X b d st c
 |0,_,_,_,h=>nomatch h
 |n+1,a,_,_,h=>yS G (λ_ _ q=>ez (yT G n a) q) h
def cJ(b:Str->Option f'):=λC a=>b C=some (.ref a)
structure aG(P:Á)(w:W')(K:K')(mg:Str->Option f')(base:I')(T:aA)(k:Nat):Prop where
 cY:∀x∈en,mg x=none
 jo:∀x F,T.jo.lookup x=some F->∃(f:b') (fd:Y') (ps:List Str),mg x=some (.ref f)/\Ú K (.ref f)=true/\Binds K fd ps []/\bW P w K mg base fH k f fd ps (rN F)
 fn:∀x F,T.fn.lookup x=some F->∃(f:b') (fd:Y') (ps:List Str),mg x=some (.ref f)/\Ú K (.ref f)=true/\Binds K fd ps []/\bW P w K mg base fH k f fd ps (c_ (cJ mg) F)
 cst:∀x d,T.cst.lookup x=some d->∃v u,mg x=some u/\RelV v u/\LV d v
 met:∀m C F,(m,C,F)∈T.met->∃(Ca f:b') (fd:Y') (ps:List Str),JT P w K mg base (cJ mg) k C m F Ca f fd ps
 cls:∀C F,T.cls.lookup C=some F->∃j,j+1<=k/\∃(Ca f:b') (fd:Y') (ps:List Str),cJ mg C Ca/\Mk K Ca f/\mg C=some (.ref Ca)/\Binds K fd ps []/\bW P w K mg base fH j f fd ps (c_ (cJ mg) F)
 fld:∀f Cs,T.fld.lookup f=some Cs->jm K (cJ mg) Cs f
 clo:∀j F,T.clo[j]?=some F->uN P w K mg base (cJ mg) k j F
def yU(T td st N):=fQ (Mw T td 60 (ai st) N 30) (aO st)
theorem Im(c:Rd d j (.lst (F6.map V.int)))(h:C [.lst (F6.map D.int)] []=.ok (.bl true) a):c_ i C [.ref j] d (λv _=>v=.bl true) E0:=by
 refine⟨[],λb=>b=j,[],[.lst (F6.map D.int)],⟨by simp,.nil,by simp,λb e=>?_⟩,.one ?_,?_⟩
 .subst e
  rcases c with e|⟨o,e⟩<;>rw[e]<;>simp
 .refine⟨j,_,rfl,rfl,c,?_⟩
  clear h c
  induction F6 with
  |nil=>rfl
  |cons n F6 f=>exact bZ.mpr (.cons (by rfl) (bZ.mp f))
 .rw[h]
  intro v l k m g s r;simpa only [aq]using r
theorem aG.mono{P w K n base T k}(W:aG P w K n base T k){j}(h:k<=j):aG P w K n base T j:=
 ⟨W.cY,λx F q=>bO (W.jo x F q) λf i l a b c d=>⟨f,i,l,a,b,c,d.mono h⟩,λx F q=>bO (W.fn x F q) λf i l a b c d=>⟨f,i,l,a,b,c,d.mono h⟩,W.cst,
  λm C F q=>let ⟨o,f,i,l,a,b,c,p,_,r,F1,d,s,t,e,g⟩:=W.met m C F q;⟨o,f,i,l,a,b,c,p,_,r,F1,d,s,t,e.mono h,g⟩,λC F q=>let ⟨u,y,z⟩:=W.cls C F q;⟨u,B' y h,z⟩,W.fld,λj F q=>(W.clo j F q).mono h⟩
noncomputable def aA.Bb(T:aA)(x:Str)(F:List D->Out Rs):={T with jo:=(x,F)::T.jo}
noncomputable def aA.dv(T:aA)(x:Str)(F):={T with fn:=(x,F)::T.fn}
noncomputable def aA.bS(T:aA)(C m:Str)(F):={T with met:=(m,C,F)::T.met}
noncomputable def aA.km(T:aA)(C:Str)(F):={T with cls:=(C,F)::T.cls}
def aA.dc(T:aA)(f:Str)(Cs:List Str):={T with fld:=(f,Cs)::T.fld}
noncomputable def aA.gZ(T:aA)(x:Str)(d):={T with cst:=(x,d)::T.cst}
theorem fc{β:Type}{F G:β}{l}(a:((h,F)::l).lookup B=some G):(B=h/\G=F)\/l.lookup B=some G:=by
 grind
theorem aG.start(a:∀x∈en,Δ x=none):aG I M O Δ L {} 0:=
 ⟨a,by simp,by simp,by simp,by simp,by simp,by simp,by simp⟩
theorem aG.Bb{P w K a base T k}(W:aG P w K a base T k){x F f b c j}(d:a x=some (.ref f))(e:Ú K (.ref f)=true)(g:Binds K b c [])(h:bW P w K a base fH j f b c (rN F))(i:j<=k):
  aG P w K a base (T.Bb x F) k:=
 ⟨W.cY,λy G q=>by
  rcases fc q with ⟨rfl,rfl⟩|q
  .exact⟨f,b,c,d,e,g,h.mono i⟩
  .exact W.jo y G q,W.fn,W.cst,W.met,W.cls,W.fld,W.clo⟩
theorem aG.dv{P w K b base T k}(W:aG P w K b base T k){x F f c d}(e:b x=some (.ref f))(g:Ú K (.ref f)=true)(i:Binds K c d [])(h:bW P w K b base fH (k+1) f c d (c_ (cJ b) F)):
  aG P w K b base (T.dv x F) (k+1):=by
 have a:=W.mono (ã k)
 exact⟨a.cY,a.jo,λy G q=>by
  rcases fc q with ⟨rfl,rfl⟩|q
  .exact⟨f,c,d,e,g,i,h⟩
  .exact a.fn y G q,a.cst,a.met,a.cls,a.fld,a.clo⟩
theorem aG.bS{P w K c base T k}(W:aG P w K c base T k){C m F d f e g}(p:c C=some (.ref d))(j:mX K d)(M:Meth K d m f)(l:Binds K e g [])(h:bW P w K c base fH (k+1) f e g (c_ (cJ c) F)):
  aG P w K c base (T.bS C m F) (k+1):=by
 have b:=W.mono (ã k)
 exact⟨b.cY,b.jo,b.fn,b.cst,λn o G q=>by
  rcases È.mp q with q|q
  .cases q
   refine⟨d,f,e,g,λa i=>?_,j,M,[],[],[],F,l,.nil,λ_ _ _=>.nil,h,by simp⟩
   have i:c C=some _:=i
   simp_all
  .exact b.met n o G q,b.cls,b.fld,b.clo⟩
theorem aG.Kd(W:aG I M O Δ L ς b)(p:Δ h=some (.ref j))(g:mX O j)(d:Meth O j B N)(i:Binds O J0 l j0)(k:Vals S j0)(m:∀α Z H,aE (aq α Z H) j5 S)(e:bW I M O Δ L fH (b+1) N J0 l (c_ (cJ Δ) C)):
  aG I M O Δ L (ς.bS h B λxs=>C (xs++j5)) (b+1):=by
 have c:=W.mono (ã b)
 exact⟨c.cY,c.jo,c.fn,c.cst,λn o G q=>by
  rcases È.mp q with q|q
  .cases q
   refine⟨j,N,J0,l,λa f=>?_,g,d,j0,_,j5,C,i,k,m,e,rfl⟩
   have f:Δ h=some _:=f
   simp_all
  .exact c.met n o G q,c.cls,c.fld,c.clo⟩
theorem aG.km{P w K b base T k}(W:aG P w K b base T k){C F c f d e j}(g:b C=some (.ref c))(M:Mk K c f)(i:Binds K d e [])(h:bW P w K b base fH j f d e (c_ (cJ b) F))(l:j<=k):
  aG P w K b base (T.km C F) (k+1):=by
 have a:=W.mono (ã k)
 exact⟨a.cY,a.jo,a.fn,a.cst,a.met,λy G q=>by
  rcases fc q with ⟨rfl,rfl⟩|q
  .exact⟨j,ϖ l,c,f,d,e,g,M,g,i,h⟩
  .exact a.cls y G q,a.fld,a.clo⟩
theorem aG.dc{P w K a base T k}(W:aG P w K a base T k){f Cs}(h:jm K (cJ a) Cs f):aG P w K a base (T.dc f Cs) k:=
 ⟨W.cY,W.jo,W.fn,W.cst,W.met,W.cls,λy G q=>by
  rcases fc q with ⟨rfl,rfl⟩|q
  .exact h
  .exact W.fld y G q,W.clo⟩
theorem aG.gZ{P w K a base T k}(W:aG P w K a base T k){x d v u}(b:a x=some u)(c:RelV v u)(e:jR d=some v):aG P w K a base (T.gZ x d) k:=
 ⟨W.cY,W.jo,W.fn,λy G q=>by
  rcases fc q with ⟨rfl,rfl⟩|q
  .exact⟨v,u,b,c,.inl e⟩
  .exact W.cst y G q,W.met,W.cls,W.fld,W.clo⟩
theorem aG.QI(W:aG I M O Δ L ς b)(a:Δ h=some (.ref j)):aG I M O Δ L (ς.gZ h (.dct [] [])) b:=
 ⟨W.cY,W.jo,W.fn,λy G q=>by
  rcases fc q with ⟨rfl,rfl⟩|q
  .exact⟨.ref j,.ref j,a,rfl,.inr rfl⟩
  .exact W.cst y G q,W.met,W.cls,W.fld,W.clo⟩
theorem aG.QJ{T}(W:aG I M O Δ L T b)(p):aG I M O Δ L {T with met:=T.met.filter p} b:=⟨W.cY,W.jo,W.fn,W.cst,λm C F q=>W.met m C F (ũ.mp q).1,W.cls,W.fld,W.clo⟩
theorem plain1(d:Δ h=some (.ref j))(e:mX O j)(n:Å O (.ref j) B=some none):jm O (cJ Δ) [h] B:=λf a c b=>by
 have c:=by simpa using c
 subst c;have b:Δ f=some _:=b;rw[d]at b;cases b;exact⟨e,n⟩
def QK(F:aK):Sp:=λa H Q E=>∀b,c_ b F a H Q E
end Mir
namespace Mir
open PySem L2
variable{a:az}
@[simp] theorem eA{α β b}{f:α->az->aw β}:(aw.ok b a).bind f=f b a:=rfl
variable{E3:Type}{m:D}
@[simp] theorem XD{β}{f:E3->az->aw β}:(aw.exc m a).bind f=.exc m a:=rfl
@[simp] theorem XE{β}{f:E3->az->aw β}:aw.bad.bind f=.bad:=rfl
@[simp] theorem yV{α}{b:α}{k}:cU (.ok b a) k=k b a:=rfl
@[simp] theorem XF{k}:cU (.exc m a:aw E3) k=.exc m a:=rfl
@[simp] theorem XG{k}:cU (.bad:aw E3) k=.bad:=rfl
variable{D2:aw D}
@[simp] theorem abS:lZ (.ok m a) D2=.ok m a:=rfl
@[simp] theorem XH:lZ (.exc m a) D2=.exc m a:=rfl
@[simp] theorem Mx:lZ .bad D2=D2:=rfl
variable{A8:D->az->aw D}{p:EM}{v:aZ}
@[simp] theorem QL:m1 A8 p v a=(p v a).bind A8:=rfl
variable{Z7:D->D->az->aw D}{ξ:EM}
@[simp] theorem abT:m2 Z7 p ξ v a=(p v a).bind λx b=>(ξ v b).bind λy c=>Z7 x y c:=rfl
variable{u0:AM}{v8:List D->az->aw D}
@[simp] theorem Ke:mN v8 u0 v a=(u0 v a).bind v8:=rfl
@[simp] theorem sF:aj v a=.ok [] a:=rfl
@[simp] theorem oA:af p u0 v a=(p v a).bind λx b=>(u0 v b).bind λxs c=>.ok (x::xs) c:=rfl
noncomputable def vr:Option (Option D)->az->aw D
 |some (some d),Ω=>.ok d Ω
 |_,_=>.bad
@[simp] theorem yW:vr (some (some m)) a=.ok m a:=rfl
variable{b:Nat}
@[simp] theorem sG:ae b v a=vr v[b]? a:=by
 unfold ae;cases v[b]? with
 |none=>rfl
 |some o=>cases o<;>rfl
@[simp] theorem yX:au m v a=.ok m a:=rfl
variable{F3:Cell}
@[simp] theorem sH:gJ a F3=.ok (.ref a.length) (a++[F3]):=rfl
noncomputable def tb(Ω:az):Option Bool->aw Bool
 |some b=>.ok b Ω
 |none=>.bad
variable{H:Bool}
@[simp] theorem Io:tb a (some H)=.ok H a:=rfl
@[simp] theorem sI:eE (.ok m a)=tb a (jZ a m):=by rfl
@[simp] theorem UK:jZ a (.bl H)=some H:=rfl
@[simp] theorem QM:jZ a .non=some false:=rfl
variable{J:Int}
@[simp] theorem QO:jZ a (.int J)=some (J != 0):=rfl
noncomputable def Ou(t:Option Bool)(a b:aw D):=match t with
 |some true=>a
 |some false=>b
 |none=>.bad
variable{S9:aw D}
@[simp] theorem abU:Mir.Ou (some true) D2 S9=D2:=rfl
@[simp] theorem abV:Mir.Ou (some false) D2 S9=S9:=rfl
@[simp] theorem UL:gY p ξ v a=(p v a).bind λx b=>Mir.Ou (jZ b x) (ξ v b) (.ok x b):=by
 rfl
@[simp] theorem XI:yv p ξ v a=(p v a).bind λx b=>Mir.Ou (jZ b x) (.ok x b) (ξ v b):=by
 unfold yv;cases p v a with
 |ok x b=>
  simp;cases jZ _ x with
  |none=>rfl
  |some t=>cases t<;>rfl
 |exc x b=>rfl
 |bad=>rfl
@[simp] theorem Ip:ew p v a=(eE (p v a)).bind λt b=>.ok (.bl (!t)) b:=rfl
variable{w6:EM}
@[simp] theorem XJ:DA w6 p ξ v a=(eE (w6 v a)).bind λt b=>if t=true then p v b else ξ v b:=rfl
@[simp] theorem Iq{g}:LS A8 g m a=lZ (A8 m a) (g m a):=rfl
variable{η:D}
@[simp] theorem fT{g}:l_ Z7 g m η a=lZ (Z7 m η a) (g m η a):=rfl
variable{q:List D}
@[simp] theorem UM{g}:pA v8 g q a=lZ (v8 q a) (g q a):=rfl
@[simp] theorem Ir:d8 p ξ v a=lZ (p v a) (ξ v a):=rfl
@[simp] theorem UN:f_ a b .non=some .non:=by cases b<;>rfl
@[simp] theorem My:f_ a b (.bl H)=some (.bl H):=by cases b<;>rfl
@[simp] theorem yY:f_ a b (.int J)=some (.int J):=by cases b<;>rfl
variable{h:Str}
@[simp] theorem sJ:f_ a b (.str h)=some (.str h):=by cases b<;>rfl
@[simp] theorem XM{α β}{f:α->Option β}:bH f []=some []:=rfl
noncomputable def oc{α:Type}:Option α->Option (List α)->Option (List α)
 |some y,some a=>some (y::a)
 |_,_=>none
@[simp] theorem UO{α}{y:α}{a}:oc (some y) (some a)=some (y::a):=rfl
@[simp] theorem yZ{α β}{f:α->Option β}{x xs}:bH f (x::xs)=oc (f x) (bH f xs):=by
 rfl
theorem jr{α β:Type}{a f}{g:α->β}{h:α->a}(e:∀x,f (g x)=some (h x)):∀xs:List α,bH f (xs.map g)=some (xs.map h)
 |[]=>rfl
 |x::xs=>by rw[Ü,yZ,e,jr e xs];rfl
variable{l:List Str}
@[simp] theorem sL:bH (f_ a b) (l.map .str)=some (l.map .str):=jr (λ_=>sJ) l
variable{F6:List Int}
@[simp] theorem Iu:bH (f_ a b) (F6.map .int)=some (F6.map .int):=jr (λ_=>yY) F6
variable{j5:List D}
theorem Iw(h:bH (f_ a b) q=some j5):f_ a (b+1) (.lst q)=some (.lst j5):=by simp only[f_,h,Ň]
theorem y_(h:bH (f_ a b) q=some j5):f_ a (b+1) (.tup q)=some (.tup j5):=by simp only[f_,h,Ň]
variable{w:Nat}
theorem fU(c:a[w]?=some (.lst q))(h:bH (f_ a b) q=some j5):f_ a (b+1) (.ref w)=some (.lst j5):=by simp only[f_,c,h,Ň]
theorem fE(c:a[w]?=some (.lst (l.map .str))):f_ a (b+1) (.ref w)=some (L1 l):=fU c sL
@[simp] theorem XO:f_ a (b+1) (SC F6)=some (SC F6):=Iw Iu
@[simp] theorem UP:gK a (.ok (H,.int J))=.ok (.int J) a:=rfl
variable{E4:Bool}
@[simp] theorem XP:gK a (.ok (H,.bl E4))=.ok (.bl E4) a:=rfl
@[simp] theorem UQ:gK a (.ok (H,.str h))=.ok (.str h) a:=rfl
@[simp] theorem UR:gK a (.ok (H,.non))=.ok .non a:=rfl
@[simp] theorem US:gK a .bad=.bad:=rfl
def vN(Ω:az)(f:List D->Out Rs):Option (List D)->aw D
 |some a=>gK Ω (f a)
 |none=>.bad
variable{m6:List D->Out Rs}
@[simp] theorem Iy:vN a m6 (some q)=gK a (m6 q):=rfl
@[simp] theorem Iz:fx m6 q a=vN a m6 (bH (f_ a 8) q):=by rfl
def v1(Ω:az)(f:D->Out Rs):Option D->aw D
 |some d=>gK Ω (f d)
 |none=>.bad
variable{Fa:D->Out Rs}
@[simp] theorem UT:v1 a Fa (some m)=gK a (Fa m):=rfl
@[simp] theorem UU:Dw Fa m a=v1 a Fa (f_ a 8 m):=by rfl
def v2(Ω:az)(f:D->D->Out Rs):Option D->Option D->aw D
 |some d,some e=>gK Ω (f d e)
 |_,_=>.bad
variable{Ha:D->D->Out Rs}
@[simp] theorem mM:v2 a Ha (some m) (some η)=gK a (Ha m η):=rfl
@[simp] theorem zb:gX Ha m η a=v2 a Ha (f_ a 8 m) (f_ a 8 η):=by rfl
@[simp] theorem QP:DE .len [.str h]=if small h.length=true then .ok (false,.int h.length)else .bad:=rfl
@[simp] theorem Et:DE .all [.lst q]=Ds (λbs=>bs.all id) (gi q):=rfl
@[simp] theorem QQ:DE .any [.lst q]=Ds (λbs=>bs.any id) (gi q):=rfl
variable{C:aK}
@[simp] theorem QR:bw C q a=Mj (C q a):=rfl
@[simp] theorem Mz:Mj (.ok m a)=.ok m a:=rfl
variable{o5:ð}
@[simp] theorem kn:eT o5 m η a=v2 a (λm η=>do let r ←gh o5 m η;Out.ok (false,D.bl r)) (f_ a 8 m) (f_ a 8 η):=by rfl
@[simp] theorem UW:aJ .Eq m η a=eT .Eq m η a:=rfl
@[simp] theorem sM:aJ .NotEq m η a=eT .NotEq m η a:=rfl
@[simp] theorem UX:aJ .Lt m η a=eT .Lt m η a:=rfl
@[simp] theorem UY:aJ .LtE m η a=eT .LtE m η a:=rfl
@[simp] theorem UZ:aJ .Gt m η a=eT .Gt m η a:=rfl
@[simp] theorem U_:aJ .GtE m η a=eT .GtE m η a:=rfl
@[simp] theorem ID:aJ .In m η a=lZ (eT .In m η a) (kX false m η a):=rfl
@[simp] theorem jt:aJ .NotIn m η a=lZ (eT .NotIn m η a) (kX true m η a):=rfl
@[simp] theorem Va:aJ .Is m η a=lZ (kY false m η a) (eT .Is m η a):=rfl
@[simp] theorem MA:aJ .IsNot m η a=lZ (kY true m η a) (eT .IsNot m η a):=rfl
@[simp] theorem QS:kY H (.ref b) .non a=.ok (.bl H) a:=rfl
@[simp] theorem OE:kY H (.int J) m a=.bad:=rfl
@[simp] theorem OF:kY H .non m a=.bad:=rfl
@[simp] theorem QT:kY H (.bl E4) m a=.bad:=rfl
@[simp] theorem OG:kY H (.str h) m a=.bad:=rfl
@[simp] theorem Eu:bh .Add m η a=lZ (AA m η a) (gX (gg .Add) m η a):=rfl
@[simp] theorem QU:bh .Sub m η a=gX (gg .Sub) m η a:=rfl
@[simp] theorem OH:bh .Mult m η a=gX (gg .Mult) m η a:=rfl
@[simp] theorem QV:bh .Mod m η a=gX (gg .Mod) m η a:=rfl
@[simp] theorem Vb:bh .FloorDiv m η a=gX (gg .FloorDiv) m η a:=rfl
@[simp] theorem Vc:cR a (.int J)=none:=rfl
@[simp] theorem Vd:cR a (.str h)=none:=rfl
@[simp] theorem Ve:cR a (.tup q)=none:=rfl
@[simp] theorem Vf:cR a (.lst q)=some q:=rfl
theorem aV(h:a[b]?=some (.lst q)):cR a (.ref b)=some q:=by simp only[cR,h]
theorem ko(h:a[b]?=some (.lst q)):sj a (.ref b)=some (b,q):=by simp only[sj,h]
variable{m3:List (Str×D)}
theorem iN(c:a[b]?=some (.ins h m3)):pB a (.ref b)=some (b,h,m3):=by simp only[pB,c]
def ct(Ω:az):Option (List D)->Option (List D)->aw D
 |some a,some b=>if small (a.length+b.length)then .ok (.ref Ω.length) (Ω++[.lst (a++b)])else .bad
 |_,_=>.bad
@[simp] theorem IE:ct a (some q) (some j5)=if small (q.length+j5.length)then .ok (.ref a.length) (a++[.lst (q++j5)])else .bad:=rfl
@[simp] theorem abW{o}:ct a none o=.bad:=rfl
@[simp] theorem IF:AA m η a=ct a (cR a m) (cR a η):=by rfl
@[simp] theorem IG:iT a (.tup q)=some q:=rfl
@[simp] theorem bI:iT a (.ref b)=cR a (.ref b):=rfl
@[simp] theorem Vg:iT a (.lst q)=some q:=rfl
def ixs(Ω:az):Option (List D)->D->aw D
 |some a,.int i=>match L2.jH a i with
  |some d=>.ok d Ω
  |none=>.bad
 |_,_=>.bad
theorem kr:LZ m η a=ixs a (iT a m) η:=by rfl
theorem wM(h:L2.jH q J=some m):ixs a (some q) (.int J)=.ok m a:=by simp only[ixs,h]
theorem aY(h:a[b]?=some (.lst q))(c:L2.jH q J=some m):bc (.ref b) (.int J) a=.ok m a:=by
 unfold bc;rw[fT,kr,bI,aV h,wM c];rfl
theorem Ew(b:L2.jH q J=some m):bc (.tup q) (.int J) a=.ok m a:=by
 unfold bc;rw[fT,kr,IG,wM b];rfl
@[simp] theorem Vh:cz q a=if small q.length then .ok (.ref a.length) (a++[.lst q])else .bad:=rfl
@[simp] theorem Vi:nW q a=if small q.length then .ok (.tup q) a else .bad:=rfl
def fl(Ω:az)(Cs:List Str)(f:Str):Option (Nat×Str×List (Str×D))->aw D
 |some (_,C,fs)=>if Cs.contains C then (match fs.lookup f with
  |some d=>.ok d Ω
  |none=>.bad)else .bad
 |none=>.bad
variable{B:Str}
theorem sN(c:a[b]?=some (.ins B m3))(d:l.contains B=true)(e:m3.lookup h=some m):bf l h (.ref b) a=.ok m a:=by
 unfold bf;rw[iN c];simp_all
noncomputable def sq(r:d_)(b:SM):=match r with
 |.nx a c=>b a c
 |r=>r
variable{ε:SM}
@[simp] theorem Kf:sq (.nx v a) ε=ε v a:=rfl
@[simp] theorem abX:sq (.rt m a) ε=.rt m a:=rfl
@[simp] theorem abY:sq (.bk v a) ε=.bk v a:=rfl
@[simp] theorem abZ:sq (.ct v a) ε=.ct v a:=rfl
@[simp] theorem XQ:sq (.exc m a) ε=.exc m a:=rfl
@[simp] theorem XR:sq .bad ε=.bad:=rfl
variable{f7:SM}
@[simp] theorem mO:ag ε f7 v a=sq (ε v a) f7:=by rfl
@[simp] theorem QW:ah v a=.nx v a:=rfl
@[simp] theorem Vj:aR b p v a=cU (p v a) λd c=>.nx (v.set b (some d)) c:=rfl
@[simp] theorem zc:cA p v a=cU (p v a) λ_ b=>.nx v b:=rfl
@[simp] theorem IH:bj p v a=cU (p v a) λd b=>.rt d b:=rfl
@[simp] theorem QX:yG v a=.rt .non a:=rfl
@[simp] theorem XS:dP p ε f7 v a=cU (eE (p v a)) λt b=>if t=true then ε v b else f7 v b:=rfl
variable{T:List Nat}
@[simp] theorem Vk:HP T p v a=cU (p v a) λd b=>match dQ T d v with|some c=>.nx c b|none=>.bad:=rfl
@[simp] theorem OI:dQ T (.tup q) v=if q.length=T.length then some (gM T q v)else none:=rfl
@[simp] theorem II:gM (b::T) (m::q) v=gM T q (v.set b (some m)):=rfl
@[simp] theorem Kg:gM [] q v=v:=by cases q<;>rfl
@[simp] theorem Vl:uM (.rt m a)=.ok m a:=rfl
@[simp] theorem Vm:uM (.nx v a)=.ok .non a:=rfl
theorem eG(h:q.length=w):aH b w ε q a=uM (ε (cS b q) a):=by unfold aH;rw[if_pos h]
@[simp] theorem ku:cf p v a=(p v a).bind λx b=>srcOf b x:=rfl
theorem iO(h:iT a m=some q):srcOf a m=.ok (.seq m) a:=by unfold srcOf;rw[h]
@[simp] theorem QY:fP u0 v a=(u0 v a).bind yF:=rfl
@[simp] theorem Vn:yF [.int J] a=if vW J then .ok (.ints 0 J.toNat) a else .bad:=rfl
@[simp] theorem ej:dr (.seq m) a=iT a m:=rfl
@[simp] theorem QZ:dr (.ints J b) a=some (intsFrom J b):=rfl
variable{D3:IM}{G7:D->aZ->Option aZ}
@[simp] theorem IJ:dw G7 D3 ε v a=cU (D3 v a) λs b=>kj G7 s ε fuel 0 v b:=rfl
def Kh(r:d_)(I:aZ->az->Prop)(R:d_->Prop):=match r with
 |.nx a b=>I a b
 |.ct a b=>I a b
 |.bk a b=>R (.nx a b)
 |r=>R r
variable{j6:Src}
theorem uV(I:Nat->aZ->az->Prop){R}(k:∀i c Ω,I i c Ω->dr j6 Ω=some q)(h:∀i d c Ω,q[i]?=some d->I i c Ω->∃j,G7 d c=some j/\Kh (ε j Ω) (I (i+1)) R)(p:∀c Ω,I q.length c Ω->R (.nx c Ω)):
  ∀f i c Ω,q.length - i<f->i<=q.length->I i c Ω->R (kj G7 j6 ε f i c Ω):=by
 intro f
 induction f with
 |zero=>exact λ_ _ _ h=>absurd h (Nat.not_lt_zero _)
 |succ f n=>
  intro i c Ω r s m;simp only[kj,k i c Ω m];have z:=λb=>M' (Nat.sub_succ_lt_self _ _ b) (Nat.le_of_lt_succ r)
  rcases afT s with b|rfl
  .have o:=î b
   rw[o];dsimp only;obtain⟨j,t,g⟩:=h i _ c Ω o m;rw[t];dsimp only;cases a:ε _ Ω with
   |nx l e=>rw[a]at g;exact n _ _ _ (z b) b g
   |ct l e=>rw[a]at g;exact n _ _ _ (z b) b g
   |bk l e=>rwa[a]at g
   |rt d e=>rwa[a]at g
   |exc x e=>rwa[a]at g
   |bad=>rwa[a]at g
  rw[Ģ (O' _)];exact p _ _ m
theorem goZ(h:dr j6 a=some q)(c:q[w]?=none):tA H p ξ 0 v j6 (b+1) w j5 a=.ok j5 a:=by
 rw[tA,h];dsimp only;rw[c]
variable{y:az}
theorem goF(h:dr j6 a=some q)(c:q[w]?=some m)(d:small (j5.length+1)=true)(e:ki H p ([some m]++v) a=.ok false y):tA H p ξ 0 v j6 (b+1) w j5 a=tA H p ξ 0 v j6 b (w+1) j5 y:=by
 rw[tA,h];dsimp only;rw[c];dsimp only;rw[show uI 0 m=some [some m]from rfl];dsimp only;rw[if_pos d,e]
variable{M5:az}
theorem goT(h:dr j6 a=some q)(c:q[w]?=some m)(d:small (j5.length+1)=true)(e:ki H p ([some m]++v) a=.ok true y)(e':ξ ([some m]++v) y=.ok η M5):tA H p ξ 0 v j6 (b+1) w j5 a=tA H p ξ 0 v j6 b (w+1) (j5++[η]) M5:=by
 rw[tA,h];dsimp only;rw[c];dsimp only;rw[show uI 0 m=some [some m]from rfl];dsimp only;rw[if_pos d,e];dsimp only;rw[e']
theorem Q_(h:q[b]?=some m):q.drop b=m::q.drop (b+1):=by
 obtain⟨a,rfl⟩:=Ì.mp h;exact adp a
theorem MB(I:Nat->List D->az->Prop)(x:q.length<=90000)(m:∀i a Ω,I i a Ω->dr j6 Ω=some q)(A:∀i d a Ω,q[i]?=some d->I i a Ω->∃b c,ki H p ([some d]++v) Ω=.ok b c/\(b=false/\I (i+1) a c\/b=true/\∃y g,ξ ([some d]++v) c=.ok y g/\I (i+1) (a++[y]) g)):
  ∀f i a Ω,q.length<=i+f->i<=q.length->a.length<=i->I i a Ω->∃l av,tA H p ξ 0 v j6 (f+1) i a Ω=.ok l av/\I q.length l av:=by
 intro f
 induction f with
 |zero=>
  intro i a Ω o r n k;cases Nat.le_antisymm r o;exact⟨a,Ω,goZ (m _ _ _ k) (Ģ (O' _)),k⟩
 |succ f t=>
  intro i a Ω o r n k;rcases afT r with j|rfl
  .have s:=î j
   have z:=B' o (R' (Nat.succ_add i f).symm);have u:=bP (B' (ϖ n) (B' j (fG x)));refine cg (A i _ a Ω s k) λb c w h=>?_
   rcases h with ⟨rfl,h⟩|⟨rfl,h⟩
   .exact cg (t _ a c z j (aen n) h) λl av e h=>⟨l,av,(goF (m _ _ _ k) s u w).trans e,h⟩
   .exact cg h λy g B h=>cg (t _ (a++[y]) g z j (by rw[ϒ];exact ϖ n) h) λl av e h=>⟨l,av,(goT (m _ _ _ k) s u w B).trans e,h⟩
  .exact⟨a,Ω,goZ (m _ _ _ k) (Ģ (O' _)),k⟩
theorem zd(I:Nat->List D->az->Prop)(m:D3 v a=.ok j6 y)(n:I 0 [] y)(o:∀i f a,I i f a->dr j6 a=some q)(r:∀i d f a,q[i]?=some d->I i f a->∃b j,ki H ξ ([some d]++eU T v) a=.ok b j/\(b=false/\I (i+1) f j\/b=true/\∃g c,p ([some d]++eU T v) j=.ok g c/\I (i+1) (f++[g]) c))(l:q.length<=90000):
  ∃k c,cD p H ξ D3 0 T v a=.ok (.ref c.length) (c++[.lst k])/\I q.length k c:=by
 refine cg (MB (p:=ξ) I l o r (fuel - 1) 0 [] _ (by rw[adC];exact fG l) (æ _) (O' _) n) λk c e h=>⟨k,c,?_,h⟩
 unfold cD;rw[m];dsimp only
 rw[show fuel=fuel - 1+1 from rfl,e]
 rfl
theorem ze{oB g}(I:Nat->az->Prop)(n:D3 v a=.ok j6 y)(o:∀i a,I i a->dr j6 a=some q)(r:∀i d a,q[i]?=some d->I i a->∃y,ki H ξ ([some d]++eU T v) a=.ok (oB d) y/\I (i+1) y/\(oB d=true->p ([some d]++eU T v) y=.ok (g d) y))(s:q.length<=90000)(t:I 0 y):
  ∃b,cD p H ξ D3 0 T v a=.ok (.ref b.length) (b++[.lst ((q.filter oB).map g)])/\I q.length b:=by
 refine aP (zd (p:=p) (λi c a=>I i a/\c++((q.drop i).filter oB).map g=(q.filter oB).map g) n ⟨t,rfl⟩ (λi _ a h=>o i a h.1) (λi d c a k h=>ay (r i d a k h.1) λf u l w=>⟨_,f,u,?_⟩) s) λx b e h m=>⟨b,?_,h⟩
 .have z:=h.2
  rw[Q_ k]at z;cases j:oB d with
  |false=>exact .inl ⟨rfl,l,by rwa[List.filter_cons_of_neg (by rw[j];decide)]at z⟩
  |true=>exact .inr ⟨rfl,_,f,w j,l,by rwa[List.filter_cons_of_pos j,Ü,List.append_cons]at z⟩
 .rw[List.drop_length,List.filter_nil,afU,ę]at m
  rw[e,m]
theorem dY{oC g}(b:D3 v a=.ok j6 y)(c:dr j6 y=some q)(f:∀d∈q,ki H ξ ([some d]++eU T v) y=.ok (oC d) y)(j:∀d∈q,oC d=true->p ([some d]++eU T v) y=.ok (g d) y)(k:q.length<=90000):
  cD p H ξ D3 0 T v a=.ok (.ref y.length) (y++[.lst ((q.filter oC).map g)]):=
 bx (ze (λ_ a=>a=y) b (λ_ _ h=>h▸c) (λi d a l h=>by subst h;exact have m:=Ë l;⟨_,f d m,rfl,j d m⟩) k rfl) λn e h=>h▸e
theorem sO(h:a[b]?=some F3):(a++y)[b]?=some F3:=by rwa[ê (Ì.mp h).1]
theorem aN:(a++F3::y)[a.length]?=some F3:=by simp
variable{f8:Cell}
theorem oD(h:a[w]?=some F3)(c:w≠b):(a.set b f8)[w]?=some F3:=by rwa[ķ (Ç c)]
theorem di(h:a[b]?=some F3):(a.set b f8)[b]?=some f8:=Ū (Ì.mp h).1
def aX(h:a[b]?=some F3):=qP h
structure ao(fp:List Nat)(Ω av:az):Prop where
 len:Ω.length<=av.length
 get:∀k c,Ω[k]?=some c->k∉fp->av[k]?=some c
theorem ao.refl:ao T a a:=⟨O' _,by grind⟩
theorem ao.trans(h:ao T a y)(h':ao T y M5):ao T a M5:=⟨B' h.len h'.len,λk c q n=>h'.get k c (h.get k c q n) n⟩
theorem ao.app:ao T a (a++y):=⟨by simp,λk c h _=>sO h⟩
theorem ao.set{Ω fp j c}(h:j∈fp):ao fp Ω (Ω.set j c):=⟨by simp,λk e q n=>oD q (by grind)⟩
variable{o7:List Nat}
theorem ao.sub(h:ao T a y)(b:∀k∈T,k∈o7):ao o7 a y:=⟨h.len,λk c q n=>h.get k c q (by grind)⟩
theorem MC{kvs}(h:a[b]?=some (.dT kvs)):f_ a (w+1) (.ref b)=none:=by simp only[f_,h]
variable{j9:List Key}
theorem Ex{kvs}(h:a[b]?=some (.dT kvs))(c:qr m=some j9):ux a (.ref b) m=some (a9 kvs j9):=by simp only[ux,h,c,Ň]
theorem Bc(h:a[b]?=some (.lst q)):cb .tuple [.ref b] a=.ok (.tup q) a:=by
 show oh [.ref b] a=_
 simp only[oh,aV h]
theorem gO(h:a[b]?=some (.lst q)):cb .len [.ref b] a=.ok (.int q.length) a:=by
 show lZ _ _=_
 simp only[AG,bI,aV h];rfl
theorem wN(h:a[b]?=some (.lst q))(c:q.length<=1000):dU (.ref b) [m] a=.ok .non (a.set b (.lst (q++[m]))):=by
 simp only[dU,ko h];rw[if_pos (bP (by omega))]
theorem gP(h:a[b]?=some (.lst q)):sg a (.ref b)=true:=by simp only[sg,aV h];rfl
theorem wO(c:a[b]?=some (.lst (l.map .str))):aJ .In (.str h) (.ref b) a=.ok (.bl (decide (h∈l))) a:=by
 simp[fE c]
theorem mP(c:a[b]?=some (.lst (l.map .str))):aJ .NotIn (.str h) (.ref b) a=.ok (.bl (!decide (h∈l))) a:=by
 simp[fE c]
theorem Ra{α β:Type}[BEq α][LawfulBEq α]{f:α->β}{p a}(c:∀b,p (f b)=(b==a)):∀(xs:List α),a∈xs->(xs.map f).findIdx? p=some (xs.idxOf a)
 |[],h=>by simp at h
 |b::xs,h=>by
  rw[Ü,List.findIdx?_cons,c,List.idxOf_cons];cases e:b==a with
  |true=>rfl
  |false=>
   simp[Ra c xs (by
    grind)]
theorem wQ(a:h∈l):vX .index (.lst (l.map .str)) (.tup [.str h])=.ok (false,.int (l.idxOf h)):=by
 have e:(l.map D.str).findIdx? (λy=>eJ y (.str h))=some _:=Ra (λb=>rfl) l a
 unfold vX
 simp_all
theorem Bd(c:a[b]?=some (.lst (l.map .str)))(d:h∈l):ip (.ref b) [.str h] a=.ok (.int (l.idxOf h)) a:=by
 have:=wQ d;simp only[ip,zb,fE c,sJ,mM,L1,this];rfl
variable{E:List (List Str)}
theorem uW(d:a[b]?=some (.lst (T.map .ref)))(h:aE (λj c=>a[j]?=some (.lst (c.map .str))) T E):f_ a (w+2) (.ref b)=some (LL E):=by
 refine fU d ?_;clear d
 induction h with
 |nil=>rfl
 |cons e g f=>rw[Ü,yZ,fE e,f];rfl
theorem Rb:inD (L1 l) (LL E)=.ok (decide (l∈E)):=by
 have e:(E.map L1).any (λy=>eJ y (L1 l))=decide (l∈E):=by
  induction E with
  |nil=>rfl
  |cons a E b=>
   rw[Ü,ĝ,b,Xt]
   by_cases q:a=l
   .simp[q]
   .simp[q,Ç q]
 have o:(E.map L1).all (aM 8)=true:=by
  induction E with
  |nil=>rfl
  |cons a E b=>simp
 show(if (aM 8 (L1 l)&&(E.map L1).all (aM 8))=true then _ else _)=_
 rw[e,o,Xs];rfl
theorem Ey(d:a[w]?=some (.lst (l.map .str)))(e:a[b]?=some (.lst (T.map .ref)))(h:aE (λw c=>a[w]?=some (.lst (c.map .str))) T E):aJ .NotIn (.ref w) (.ref b) a=.ok (.bl (!decide (l∈E))) a:=by
 simp[uW (w:=6) e h,fE (b:=7) d,Rb]
theorem sP(d:p v a=.ok (.ref b) y)(e:y[b]?=some (.ins h m3))(f:m3.lookup B=none):aI h B C p u0 v a=(u0 v y).bind λxs c=>Mj (C (.ref b::xs) c):=by
 unfold aI;rw[d]
 show(match pB _ _ with|some (_,g,m3)=>_|none=>_)=_
 rw[iN e];simp only[f,and_self,if_true];rfl
variable{Ga:D->List D->az->aw D}{Q9:az->D->Bool}
theorem MD(c:p v a=.ok m y)(h:Q9 y m=true):dH Q9 Ga p u0 v a=(u0 v y).bind λxs b=>Ga m xs b:=by
 unfold dH
 simp_all
variable [kU]
theorem ao.new(h:ao [] a y)(h':ao T y M5)(b:∀j∈T,a.length<=j):ao [] a M5:=⟨B' h.len h'.len,λk c e _=>h'.get k c (h.get k c e (by simp)) (by grind)⟩
theorem Ki.up(h:ao [] a y):ao T a y:=h.sub (by simp)
@[simp] theorem Rc:bc (.str h) m a=v2 a vV (some (.str h)) (f_ a 8 m):=by
 rfl
variable{Y9 Z9:Option Int}
@[simp] theorem Rf:pw (.str h) Y9 Z9 a=gK a (Cy (.str h) Y9 Z9):=rfl
@[simp] theorem Ez:fJ p H ξ E4 w6 v a=(p v a).bind λx b=>(i_ H ξ v b).bind λl c=>(i_ E4 w6 v c).bind λh d=>pw x l h d:=rfl
@[simp] theorem IK:i_ true p v a=.ok none a:=rfl
noncomputable def pr1(Ω:az):D->aw (Option Int)
 |.int i=>.ok (some i) Ω
 |_=>.bad
@[simp] theorem IL:i_ false p v a=(p v a).bind λd b=>pr1 b d:=by
 rfl
@[simp] theorem IP:pr1 a (.int J)=.ok (some J) a:=rfl
def nC:=cD (m2 bc (ae 2) (m2 (bh .Mod) (m2 (bh .Add) (ae 1) (m2 (bh .Mult) (ae 0) (ae 3))) (au (.int 26)))) true (au .non) (fP (af (au (.int 8)) aj)) 0 [4,3,5]
def nD:=cD (fJ (ae 1) true (au .non) false (m2 (bh .Add) (ae 0) (au (.int 1)))) true (au .non) (fP (af (ae 2) aj)) 0 [6]
section
variable{κ β:Type}[DecidableEq κ]
theorem bK{p:κ×β}{kvs k}:a9 (p::kvs) k=if p.1=k then some p.2 else a9 kvs k:=by
 unfold a9
 grind
theorem uX{k a:κ}{v:β}:∀{kvs},a9 (kvs.map λb=>if b.1=k then (b.1,v)else b) a=if a=k then (a9 kvs k).map λ_=>v else a9 kvs a
 |[]=>by simp[a9]
 |p::kvs=>by
  rw[Ü,bK,bK,bK,uX]
  grind
theorem uY{k a:κ}{v:β}:∀{kvs},a9 (kvs++[(k,v)]) a=match a9 kvs a with|some d=>some d|none=>if a=k then some v else none
 |[]=>by
  rw[List.nil_append,bK]
  by_cases h:k=a
  .subst h;simp[a9]
  grind
 |p::kvs=>by
  rw[afV,bK,bK,uY]
  grind
theorem oE{k}:∀{kvs:List (κ×β)},(kvs.any λa=>decide (a.1=k))=(a9 kvs k).isSome
 |[]=>rfl
 |p::kvs=>by
  rw[ĝ,bK,oE]
  by_cases h:p.1=k<;>simp[h]
theorem qC{kvs}{k a:κ}{v:β}:a9 (dG kvs k v) a=if a=k then some v else a9 kvs a:=by
 unfold dG;rw[oE];cases h:a9 _ k with
 |none=>
  rw[if_neg (by simp),uY]
  grind
 |some d=>
  rw[aeq,if_pos rfl,uX]
  simp_all
theorem EA{kvs}{k:κ}{v:β}:(dG kvs k v).length<=kvs.length+1:=by
 unfold dG;split<;>simp
end
theorem lg(h:(l.map D.str)[b]?=some m):∃x,l[b]?=some x/\m=.str x:=by
 rw[ç]at h
 grind
theorem eF(c:p v a=.ok (.ref b) y)(g:y[b]?=some (.ins h m3))(d:m3.lookup B=some m:=by rfl)(e:l.contains h=true:=by rfl):m1 (bf l B) p v a=.ok m y:=by
 rw[QL,c];exact sN g e d
variable{R9:az}
theorem eM(c:p v a=.ok (.ref b) y)(g:y[b]?=some (.ins h m3))(d:u0 v y=.ok q M5)(e:C (.ref b::q) M5=.ok m R9)(f:m3.lookup B=none:=by rfl):aI h B C p u0 v a=.ok m R9:=by
 rw[sP c g f,d,eA,e];rfl
theorem eN(b:u0 v a=.ok q y)(e:C q y=D2):mN C u0 v a=D2:=by simp_all
theorem eC(b:u0 v a=.ok q y)(e:C q y=.ok m M5):mN (bw C) u0 v a=.ok m M5:=by simp_all
theorem eK(h:p v a=.ok m y)(b:u0 v y=.ok q M5):af p u0 v a=.ok (m::q) M5:=by simp_all
theorem eP(h:p v a=.ok m y)(e:A8 m y=D2):m1 A8 p v a=D2:=by simp_all
theorem eQ(h:p v a=.ok m y)(h':ξ v y=.ok η M5)(e:Z7 m η M5=D2):m2 Z7 p ξ v a=D2:=by simp_all
theorem nT(h:p v a=.ok (.bl H) y):ew p v a=.ok (.bl !H) y:=by simp_all
theorem aT(h:p v a=.ok (.bl true) y)(h':ξ v y=D2):gY p ξ v a=D2:=by simp_all
theorem aF(h:p v a=.ok (.bl false) y):gY p ξ v a=.ok (.bl false) y:=by simp_all
theorem oF(h:p v a=.ok (.bl false) y)(h':ξ v y=D2):yv p ξ v a=D2:=by simp_all
theorem oT(h:p v a=.ok (.bl true) y):yv p ξ v a=.ok (.bl true) y:=by simp_all
theorem eL(h:p v a=.ok m y)(b:u0 v y=.ok q M5)(c:Q9 y m=true)(e:Ga m q M5=D2):dH Q9 Ga p u0 v a=D2:=by
 unfold dH;simp_all
theorem qA(h:p v a=.ok m y):ag (aR b p) ε v a=ε (v.set b (some m)) y:=by simp_all
theorem qE(h:p v a=.ok m y):ag (cA p) ε v a=ε v y:=by simp_all
theorem qR(h:p v a=.ok m y):ag (bj p) ε v a=.rt m y:=by simp_all
theorem q0(h:p v a=.ok (.bl false) y):ag (dP p ε ah) f7 v a=f7 v y:=by simp_all
theorem qT{c}(h:p v a=.ok (.bl true) y):ag (dP p ε f7) c v a=ag ε c v y:=by simp_all
theorem qB(h:ε v a=.rt m y):ag ε f7 v a=.rt m y:=by simp_all
variable{ia:aZ}
theorem qN(h:ε v a=.nx ia y):ag ε f7 v a=f7 ia y:=by simp_all
theorem qS(c:ξ v a=.ok m y)(d:p v y=.ok (.ref b) M5)(g:M5[b]?=some (.ins h m3))(z:M5.set b (.ins h (kl B m m3))=R9)(e:decide (m3.length<1000)=true:=by rfl)(f:l.contains h=true:=by rfl):ag (cM l B p ξ) ε v a=ε v R9:=by
 rw[mO];unfold cM;rw[c,yV,d,yV,iN g];simp_all
variable{B8:D}
theorem qD{b}(c:w6 v a=.ok B8 y)(d:p v y=.ok m M5)(f:ξ v M5=.ok η R9)(e:gU m η B8 R9=some b):ag (fA p ξ w6) ε v a=ε v b:=by
 unfold fA;simp_all
theorem fR(e:ε (cS w q) a=.rt m y)(h:q.length=b:=by rfl):aH w b ε q a=.ok m y:=by rw[eG h,e];rfl
theorem fZ(e:ε (cS w q) a=.nx v y)(h:q.length=b:=by rfl):aH w b ε q a=.ok .non y:=by rw[eG h,e];rfl
theorem ao.g(K:ao T a y)(h:a[b]?=some F3)(n:b∉T:=by simp<;>omega):y[b]?=some F3:=K.get _ _ h n
theorem ao.s(K:ao T a y)(h:∀k∈T,k∈o7:=by simp):ao o7 a y:=K.sub h
theorem ao.tr(K:ao T a y)(b:ao o7 y M5)(h:∀k∈T,k∈o7:=by simp):ao o7 a M5:=(K.sub h).trans b
theorem ao.st{e'}(h:a[b]?=some F3):∃av,a.set b e'=av/\ao [b] a av/\av[b]?=some e':=⟨_,rfl,ao.set (by simp),di h⟩
theorem fS(e:D2=.ok m a)(c:a[b]?=some (.ins h m3))(f):∃av,a.set b (.ins h (kl f m m3))=av/\ao [b] a av/\av[b]?=some (.ins h (kl f m m3)):=ao.st c
theorem aL(x)(h:a[b]?=some (.lst q))(c:q.length<=1000):∃av,dU (.ref b) [x] a=.ok .non av/\ao [b] a av/\av[b]?=some (.lst (q++[x])):=⟨_,wN h c,ao.set (by simp),di h⟩
theorem Rg(h:a[b]?=some (.lst q))(d:w<q.length):gU (.ref b) (.int w) m a=some (a.set b (.lst (q.set w m))):=by
 have c:L2.tL q.length (w)=some w:=by
  unfold L2.tL
  simp_all
 simp only[gU,h,c]
theorem dL(x)(h:a[b]?=some (.lst q))(c:w<q.length):∃av,gU (.ref b) (.int w) x a=some av/\ao [b] a av/\av[b]?=some (.lst (q.set w x)):=⟨_,Rg h c,ao.set (by simp),di h⟩
theorem kO(z:D2=.ok m (a.set b f8))(h:a[b]?=some F3):∃av,D2=.ok m av/\ao [b] a av/\av[b]?=some f8:=⟨_,z,ao.set (by simp),di h⟩
theorem kD{o:Option az}(z:o=some (a.set b f8))(h:a[b]?=some F3):∃av,o=some av/\ao [b] a av/\av[b]?=some f8:=⟨_,z,ao.set (by simp),di h⟩
theorem kA(z:D2=.ok m (a++F3::y)):∃av,D2=.ok m av/\ao [] a av/\av[a.length]?=some F3:=⟨_,z,ao.app,aN⟩
theorem nlL:(mN cz aj) v (a++y)=.ok (.ref (a.length+y.length)) (a++(y++[.lst []])):=by simp[bP]
theorem Rh:ck v (a++y)=.ok (.ref (a.length+y.length)) (a++(y++[.dK []])):=by simp[ck]
theorem cp:(a++F3::y).set a.length f8=a++f8::y:=by
 simp
theorem gN:(a++y)[a.length+b]?=y[b]?:=by rw[ħ (by simp),Nat.add_sub_cancel_left]
theorem nZ(e:ε (cS w (.ref a.length::q)) (a++[.ins h []])=.nx v y)(c:q.length+1=b:=by rfl):ey h (aH w b ε) q a=.ok (.ref a.length) y:=by
 unfold ey;rw[fZ e c]
theorem lpF(I:Nat->aZ->az->Prop)(g:D3 v a=.ok j6 y)(j:∀{i v a},I i v a->dr j6 a=some q)(k:∀{i d v a},q[i]?=some d->I i v a->∃c e f,G7 d v=some c/\ε c a=.nx e f/\I (i+1) e f)(l:I 0 v y)(m:q.length<=1000):
  ∃b av,dw G7 D3 ε v a=.nx b av/\I q.length b av:=by
 rw[IJ,g]
 exact uV (R:=λr=>∃b av,r=.nx b av/\I _ b av) I (λ_ _ _ h=>j h) (λi d v a h n=>by
  obtain⟨c,e,f,o,p,s⟩:=k h n;exact⟨_,o,by rwa[p]⟩) (λv a h=>⟨v,a,rfl,h⟩) _ 0 v _ (by unfold fuel;exact lwb (B' (Nat.sub_le _ _) m)) (æ _) l
theorem Bs(I:Nat->aZ->az->Prop)(k:D3 v a=.ok j6 y)(l:∀{i v a},I i v a->dr j6 a=some q)(m:∀{i d v a},q[i]?=some d->I i v a->∃f g j,G7 d v=some f/\ε f a=.nx g j/\I (i+1) g j)(n:I 0 v y)(o:q.length<=1000):
  ∃b av,(∀c,ag (dw G7 D3 ε) c v a=c b av)/\I q.length b av:=
 cg (lpF I k l m n o) λb av e h=>⟨_,_,λ_=>qN e,h⟩
theorem OJ(I:Nat->aZ->az->Prop)(j:D3 v a=.ok (.seq (.ref b)) y)(k:∀{i v a},I i v a->a[b]?=some (.lst (l.map .str)))(m:∀{i x v a},l[i]?=some x->I i v a->∃d e f,G7 (.str x) v=some d/\ε d a=.nx e f/\I (i+1) e f)(n:I 0 v y)(q:l.length<=1000):
  ∃g av,(∀c,ag (dw G7 D3 ε) c v a=c g av)/\I l.length g av:=by
 have:=Bs I j (λh=>by rw[ej,bI,aV (k h)]) (λh o=>by obtain⟨x,p,rfl⟩:=lg h;exact m p o) n (by simp_all)
 simp_all
theorem ME{c:Nat->az}(b:∀{a},ey h C q a=.ok (.ref a.length) (a++c a.length)):ey h C q (a++y)=.ok (.ref (a.length+y.length)) (a++(y++c (a.length+y.length))):=by simp_all
theorem lN(h:small q.length=true:=by rfl):cz q a=.ok (.ref a.length) (a++[.lst q]):=if_pos h
theorem ed(h:a[b]?=some F3)(h':a[w]?=some f8)(n:F3=f8->False:=by intro m;first | (cases m;done) | (injection m with m _;exact absurd m (by decide))):b≠w:=by grind
theorem lNA(h:small q.length=true:=by rfl):cz q (a++y)=.ok (.ref (a.length+y.length)) (a++(y++[.lst q])):=by simp_all
theorem al(h:p v a=.ok m y):d8 p ξ v a=.ok m y:=by simp_all
theorem al2(h:p v a=.bad)(h':ξ v a=D2):d8 p ξ v a=D2:=by simp_all
theorem lpR(I:Nat->aZ->az->Prop)(j:D3 v a=.ok (.ints 0 b) y)(l:∀{i v a},i<b->I i v a->∃d e f,G7 (.int i) v=some d/\ε d a=.nx e f/\I (i+1) e f)(k:I 0 v y)(m:b<=1000):
  ∃g av,(∀c,ag (dw G7 D3 ε) c v a=c g av)/\I b g av:=by
 have:=Bs (G7:=G7) (ε:=ε) I j (λ_=>rfl) (λh n=>by obtain⟨rfl,o⟩:=rR h;simp_all) k (by rwa[iF])
 rwa[iF]at this
theorem MF{g}(c:D3 v a=.ok (.ints 0 b) a)(l:∀i<b,p (some (.int i)::eU T v) a=.ok (.str (g i)) a)(e:b<=1000):cD p true ξ D3 0 T v a=.ok (.ref a.length) (a++[.lst (((Ñ b).map g).map .str)]):=by
 rw[dY (g:=λd=>match d with|.int j=>.str (g j.toNat)|_=>.non) c rfl (λ_ _=>rfl) (λd f _=>by
  obtain⟨i,k⟩:=ċ.mp f;obtain⟨rfl,h⟩:=rR k
  simp_all) (by rw[iF];exact fG e),ŉ.mpr (by simp),Ay,Ý,Ý]
 rfl
theorem XT{g}(c:D3 v a=.ok (.seq (.ref b)) a)(e:a[b]?=some (.lst (l.map .str)))(f:∀z∈l,p (some (.str z)::eU T v) a=.ok (.str (g z)) a)(h:l.length<=1000):cD p true ξ D3 0 T v a=.ok (.ref a.length) (a++[.lst ((l.map g).map .str)]):=by
 rw[dY (g:=λd=>match d with|.str z=>.str (g z)|_=>.non) c (by rw[ej,bI,aV e]) (λ_ _=>rfl) (λd i _=>by
  obtain⟨z,j,rfl⟩:=Î.mp i;exact f z j) (by simp;exact fG h),ŉ.mpr (by simp),Ý,Ý]
 rfl
variable{P0:Int}
theorem Bt(h:decide (J=P0)=H):aJ .Eq (.int J) (.int P0) a=.ok (.bl H) a:=by subst h;rfl
theorem XU(h:decide (J<=P0)=H):aJ .LtE (.int J) (.int P0) a=.ok (.bl H) a:=by simp_all
theorem Kj(h:decide (J<P0)=H):aJ .Lt (.int J) (.int P0) a=.ok (.bl H) a:=by simp_all
theorem Vo(h:decide (P0<=J)=H):aJ .GtE (.int J) (.int P0) a=.ok (.bl H) a:=by simp_all
theorem EB:bh .Add (.int J) (.int P0) a=.ok (.int (J+P0)) a:=by simp
theorem XW:bh .Sub (.int J) (.int P0) a=.ok (.int (J - P0)) a:=by simp
theorem MG(h:0<P0:=by decide):bh .Mod (.int J) (.int P0) a=.ok (.int (J%P0)) a:=by simp[h]
theorem nDk:ck v a=.ok (.ref a.length) (a++[.dK []]):=rfl
theorem EC:aJ .Is .non .non a=.ok (.bl true) a:=rfl
theorem ifA{α:Type}{b l}{P:α->Prop}(h:∀z∈l,P z)(h':P b):∀z∈l++[b],P z:=by grind
theorem Vp{α:Type}{a b l c}{P:α->Prop}(h:∀z∈l++a::c,P z)(h':P b):∀z∈l++b::c,P z:=by grind
theorem frt{r}(h:r=.rt m a):uM r=.ok m a:=by rw[h];rfl
theorem qX(h:p v a=.exc m y):ag (cA p) ε v a=.exc m y:=by simp_all
theorem qY(h:ε v a=.exc m y):ag ε f7 v a=.exc m y:=by simp_all
theorem fX(e:ε (cS w q) a=.exc m y)(h:q.length=b:=by rfl):aH w b ε q a=.exc m y:=by rw[eG h,e];rfl
theorem sr(h:p v a=.ok (.ref b) y)(g:y[b]?=some (.lst q)):cf p v a=.ok (.seq (.ref b)) y:=by
 rw[ku,h];exact iO (by rw[bI,aV g])
end Mir
namespace Mir
open PySem PySem.Spec PyProof.Rows L2
def Ri:D->Bool
 |.lst a=>a.all gR
 |d=>gR d
variable{A:V}{F4 r:b'->Prop}{d υ:Hp}{m:D}{z:List b'}
theorem zg(b:gR m=true)(a:Rep r d m A):aq z F4 υ m A:=by
 cases m with
 |lst _=>cases b
 |tup _=>cases b
 |ref _=>cases b
 |dct _ _=>cases b
 |_=>exact a
theorem Be(b:gR m=true)(a:aq z F4 υ m A):Rep r d m A:=by
 cases m with
 |lst _=>cases b
 |tup _=>cases b
 |ref _=>cases b
 |dct _ _=>cases b
 |_=>exact a
theorem uZ{α Z c H f}:∀{a}{b},a.all gR=true->aS Z H a b->gp α c f a b
 |[],b,_,r=>r
 |d::a,b,h,r=>by
  simp only[Ţ,Ö]at h;refine aP r λv g e i j=>⟨v,g,e,zg h.1 i,uZ h.2 j⟩
theorem ED{α Z H}:∀{c}{b},c.all Ri=true->aS Z H c b->aE (aq α Z H) c b
 |[],b,_,r=>by subst r;exact .nil
 |d::c,b,h,r=>by
  simp only[Ţ,Ö]at h;obtain⟨v,k,rfl,f,g⟩:=r
  exact .cons (by
    cases d with
    |lst c=>
     refine bQ f λa b e z i j=>⟨a,b,e,z,i,uZ h.1 j⟩
    |tup _=>cases h.1
    |ref _=>cases h.1
    |dct _ _=>cases h.1
    |_=>exact zg rfl f) (ED h.2 g)
variable [kU]
def pureOf(O:aK):List D->Out Rs:=λa=>if a.all Ri=true then (match O a []with
  |.ok d _=>if gR d=true then .ok (false,d)else .bad
  |_=>.bad)else .bad
variable{C:aK}{I:Á}{J0:Y'}{L:I'}{M:W'}{O:K'}{b:Nat}{j:b'}{l:List Str}{Δ:Str->Option f'}
theorem zh(h:bW I M O Δ L fH b j J0 l (c_ (cJ Δ) C)):bW I M O Δ L fH b j J0 l (rN (pureOf C)):=h.imp λD H Q E q=>by
 refine bp q λZ f own d i r k=>xa k λe g=>?_
 unfold pureOf at e
 by_cases m:f.all Ri=true
 .rw[if_pos m]at e
  refine⟨[],Z,[],f,⟨by simp,.nil,by simp,i⟩,ED m r,?_⟩
  cases s:C f []with
  |exc x t=>simp_all
  |bad=>simp_all
  |ok u t=>
   rw[s]at e;dsimp only at e
   by_cases n:gR u=true
   .rw[if_pos n]at e
    cases e;intro v w y F p G z;refine g v w Z ⟨λc o A=>p.frm c o A (by simp),λ_ h=>h,by grind,λa J=>?_⟩ (.rep (Be n z))
    cases B:H a with
    |none=>simp_all
    |some o=>rw[p.frm a o B (by simp)];simp
   simp_all
 simp_all
variable{a:az}{q:List D}
theorem qF(b:q.all Ri=true)(h:C q []=.ok m a)(c:gR m=true):pureOf C q=.ok (false,m):=by
 unfold pureOf
 simp_all
def Rj:=(ag (aR 3 (m2 (bh .FloorDiv) (ae 3) (au (.int 840)))) ah)
def Rk:=(dP (gY (m2 (aJ .Eq) (m2 (bh .Mod) (ae 0) (au (.int 2))) (au (.int 1))) (m2 (aJ .Gt) (ae 0) (m2 (bh .Pow) (au (.int 10)) (au (.int 18)))))
 (ag (dw (cF 4) (fP (af (ae 1) aj)) Rj)
 (ag (bj (m2 (bh .Mod) (m2 (bh .Mod) (ae 3) (au (.int 840))) (ae 2)))
 ah))
 ah)
def mxK:=(mN cz (af (au (.int 48271)) (af (au (.int 69621)) (af (au (.int 40692)) (af (au (.int 39373)) (af (au (.int 16807)) (af (au (.int 30323)) (af (au (.int 21403)) (af (au (.int 62089)) (af (au (.int 45742)) (af (au (.int 37907)) (af (au (.int 53611)) (af (au (.int 28411)) (af (au (.int 59393)) (af (au (.int 33391)) aj)))))))))))))))
def mxR:=(ag (aR 5 mxK)
 (ag (aR 6 (m2 (bh .Mod) (m2 (bh .Mult) (m2 (bh .Add) (m2 (bh .Mod) (ae 0) (au (.int 1000000007))) (au (.int 11))) (m2 bc (ae 5) (m2 (bh .Mod) (ae 1) (au (.int 14))))) (au (.int 2147483629))))
 (ag (aR 7 (m2 (bh .Mod) (m2 (bh .Mult) (ae 6) (m2 (bh .Add) (ae 6) (ae 1))) (au (.int 1999999973))))
 (ag (bj (m2 (bh .Mod) (m2 (bh .FloorDiv) (m2 (bh .Mod) (m2 (bh .Mult) (ae 7) (au (.int 16807))) (au (.int 998244353))) (au (.int 1000))) (ae 2)))
 ah))))
def qG:=
 (ag (aR 3 (m2 (bh .FloorDiv) (ae 0) (au (.int 2))))
 (ag Rk mxR))
variable{η:D}
@[simp] theorem Rl:bh .Pow m η a=gX (gg .Pow) m η a:=rfl
abbrev Bu(c t m x:Int)(s:Option D):aZ:=[some (.int c),some (.int t),some (.int m),some (.int x),s,none,none,none]
abbrev Vq:=[D.int 48271,.int 69621,.int 40692,.int 39373,.int 16807,.int 30323,.int 21403,.int 62089,.int 45742,.int 37907,.int 53611,.int 28411,.int 59393,.int 33391]
variable{J P0 ya:Int}
theorem IQ(B:0<=P0)(p:P0<100000)(b:0<ya):∃r,0<=r/\r<ya/\pureOf (aH 8 3 qG) [.int J,.int P0,.int ya]=.ok (false,.int r):=by
 have g:∃r c,0<=r/\r<ya/\aH 8 3 qG [.int J,.int P0,.int ya] []=.ok (.int r) c:=by
  rw[eG (by rfl)]
  have s:cS 8 [D.int J,.int P0,.int ya]=[some (.int J),some (.int P0),some (.int ya),none,none,none,none,none]:=rfl;rw[s];unfold qG;have t:(aR 3 (m2 (bh .FloorDiv) (ae 0) (au (.int 2)))) [some (.int J),some (.int P0),some (.int ya),none,none,none,none,none] []=.nx (Bu J P0 ya (J / 2) none) []:=by simp
  rw[mO,t,Kf,mO]
  by_cases j:J%2=1/\1000000000000000000<J
  .have k:vW P0=true:=iE (by omega) (by omega)
   have l:∃x a,kj (cF 4) (.ints 0 P0.toNat) Rj fuel 0 (Bu J P0 ya (J / 2) none) []=.nx (Bu J P0 ya x a) []:=by
    refine uV (R:=λr=>∃x a,r=.nx (Bu J P0 ya x a) []) (q:=intsFrom 0 P0.toNat) (λ_ m n=>∃x a,m=(Bu J P0 ya x a)/\n=[]) (λ_ _ _ _=>rfl) ?_ ?_ fuel 0 _ _ (by rw[iF];unfold fuel;omega) (æ _) ⟨_,_,rfl,rfl⟩
    .rintro i d m n o ⟨x,a,rfl,rfl⟩
     refine⟨_,rfl,?_⟩;have e:Rj (Bu J P0 ya x (some d)) []=.nx (Bu J P0 ya (x / 840) (some d)) []:=by simp[Rj]
     show Kh (Rj (Bu J P0 ya x (some d)) []) _ _
     rw[e];exact⟨_,_,rfl,rfl⟩
    .rintro m n ⟨x,a,rfl,rfl⟩
     exact⟨x,a,rfl⟩
   obtain⟨x,a,l⟩:=l;refine⟨x%840%ya,[],ϗ _ (ϟ b),adF _ b,?_⟩;simp[Rk,j.1,j.2,k,l,b]
  .obtain⟨d,o,e⟩:=LQ (xs:=Vq) (J:=P0%14) (ϗ _ (by decide)) (adF _ (by decide))
   obtain⟨v,rfl⟩:∃v,d=.int v:=by
    simp only[È,Ĳ,or_false]at o;rcases o with h|h|h|h|h|h|h|h|h|h|h|h|h|h<;>exact⟨_,h⟩
   have u:([.lst Vq]:az)[0]?=some _:=rfl;have C:=aY u e;have E:kP (J%1000000007+11)=true:=jW (by omega) (by omega)
   have i2:kP ((J%1000000007+11)*v%2147483629)=true:=jW (by omega) (by omega)
   have F:kP ((J%1000000007+11)*v%2147483629*((J%1000000007+11)*v%2147483629+P0)%1999999973)=true:=jW (by omega) (by omega)
   have rI:Rk (Bu J P0 ya (J / 2) none) []=.nx (Bu J P0 ya (J / 2) none) []:=by
    by_cases f:J%2=1
    .have w:¬ 1000000000000000000<J:=λz=>j ⟨f,z⟩
     simp[Rk,f,w]
    .have y:(J%2==1)=false:=by simpa using f
     simp[Rk,y]
   refine⟨(J%1000000007+11)*v%2147483629*((J%1000000007+11)*v%2147483629+P0)%1999999973*16807%998244353 / 1000%ya,([.lst Vq]:az),ϗ _ (ϟ b),adF _ b,?_⟩;rw[rI,Kf];have G:aR 5 mxK (Bu J P0 ya (J / 2) none) []=.nx ((Bu J P0 ya (J / 2) none).set 5 (some (.ref 0))) [.lst Vq]:=rfl;unfold mxR
   simp_all
 refine aP g λr c A f e=>?_
 exact⟨r,A,f,qF rfl e rfl⟩
variable{D3:IM}{T:List Nat}{j6:Src}{p ξ:EM}{v:aZ}{y:az}
theorem mQ(I:Nat->List D->az->Prop)(g:D3 v a=.ok j6 y)(j:I 0 [] y)(k:∀i b a,I i b a->dr j6 a=some q)(l:∀i d b a,q[i]?=some d->I i b a->∃c y,p ([some d]++eU T v) a=.ok c y/\I (i+1) (b++[c]) y)(m:q.length<=90000):
  ∃f e,cD p true ξ D3 0 T v a=.ok (.ref e.length) (e++[.lst f])/\I q.length f e:=
 zd I g j k (λi d b a n h=>⟨true,a,rfl,.inr ⟨rfl,l i d b a n h⟩⟩) m
def RwR(Ω:az)(j:Nat)(a:List Str):=Ω[j]?=some (.lst (a.map .str))
def vq(Ω)(a:List Nat)(b:List (List Str)):=aE (RwR Ω) a b
structure Rw(Ω:az)(k:Nat)(js:List Nat)(rs:List (List Str)):Prop where
 ce:Ω[k]?=some (.lst (js.map .ref))
 al:vq Ω js rs
theorem vq.keep{Ω av}:∀{a}{b},vq Ω a b->∀{fp},ao fp Ω av->(∀j∈a,j∉fp)->vq av a b
 |_,_,.nil,_,_,_=>.nil
 |_,_,.cons r t,fp,K,h=>.cons (K.get _ _ r (h _ (by simp))) (vq.keep t K (by grind))
theorem Rw.keep{Ω av k a b}(R:Rw Ω k a b)(K:ao [] Ω av):Rw av k a b:=⟨K.get _ _ R.ce (by simp),R.al.keep K (by simp)⟩
variable{E:List (List Str)}{o7:List Nat}
theorem Rw.Rm(R:Rw a b T E)(K:ao o7 a y)(c:b∉o7)(d:∀j∈T,j∉o7):Rw y b T E:=⟨K.get _ _ R.ce c,R.al.keep K d⟩
theorem vq.len(h:vq a T E):E.length=T.length:=aE.length h
def Rw.len{Ω k a b}(R:Rw Ω k a b):=R.al.len
variable{w:Nat}
theorem vq.at'(h:vq a T E)(d:T[b]?=some w):∃c,E[b]?=some c/\a[w]?=some (.lst (c.map .str)):=aE.get h d
theorem vq.lt(h:vq a T E):∀j∈T,j<a.length:=λj b=>by
 obtain⟨i,c⟩:=ċ.mp b;obtain⟨d,_,e⟩:=h.at' c;exact aX e
theorem MH(h:(T.map D.ref)[b]?=some m):∃j,T[b]?=some j/\m=.ref j:=by
 rw[ç]at h
 grind
def pbB:=(ag (dP (m2 (aJ .In) (ae 1) (fJ (ae 3) false (au (.int 1)) true (au .non))) (ag (bj (ae 2)) ah) ah) ah)
def Rn:=(ag (dw (dQ [2,3]) (sm (ae 0)) pbB) (ag (bj (au .non)) ah))
def fnB(a):=(ag (dP (gY (ae 1) (m2 (aJ .Is) (mN (bw a) (af (ae 0) (af (m2 bc (ae 1) (au (.int 0))) aj))) (au .non))) (ag (bj (m2 bc (ae 1) (au (.int 0)))) ah) ah) ah)
def Ro(a):=(ag (dw (cF 1) (cf (ae 0)) (fnB a)) (ag (bj (au .non)) ah))
theorem oG(h:a[b]?=some (.lst q)):jZ a (.ref b)=some (!q.isEmpty):=by simp only[jZ,h]
noncomputable def aA.de(T:aA)(F:List D->aK):={T with clo:=T.clo++[F]}
theorem IT:ef q none (some b)=q.take b:=rS q b
theorem wR(h:a[b]?=some (.lst (l.map .str))):pw (.ref b) none (some w) a=.ok (.ref a.length) (a++[.lst ((l.take w).map .str)]):=by
 simp only[pw,aV h,sH,IT,List.map_take]
variable{P5:Ty}
@[simp] theorem Vr:jl P5 (.tup q) a=.ok (.bl (P5==.tuple)) a:=rfl
variable{h:Str}
@[simp] theorem Vs:jl P5 (.str h) a=.ok (.bl (P5==.str)) a:=rfl
@[simp] theorem Vt:jl P5 .non a=.ok (.bl false) a:=rfl
@[simp] theorem Rp:cb .len [.tup q] a=.ok (.int q.length) a:=rfl
variable{M0:List Str}
theorem zi(h:a[b]?=some (.lst (l.map .str)))(h':a[w]?=some (.lst (M0.map .str))):aJ .NotEq (.ref b) (.ref w) a=.ok (.bl (!decide (l=M0))) a:=by
 rw[sM,kn,fE h,fE h']
 simp_all
theorem MI(h:a[b]?=some (.lst (l.map .str))):pw (.ref b) (some w) none a=.ok (.ref a.length) (a++[.lst ((l.drop w).map .str)]):=by
 simp only[pw,aV h,sH,Dt,List.map_drop]
theorem vq.snoc(h:vq a T E)(c:a[b]?=some (.lst (l.map .str))):vq a (T++[b]) (E++[l]):=aE.append h (.cons c .nil)
theorem iP(h:a[b]?=some (.lst q)):cb .list [.ref b] a=.ok (.ref a.length) (a++[.lst q]):=by
 show lZ _ _=_
 simp only[og,bI,aV h];rfl
theorem EE{f}{P:Nat->Prop}(y:D3 v a=.ok (.seq (.ref b)) a)(R:Rw a b T E)(z:E.length<=1000)(A:∀j l k,ao [] a k->j∈T->l∈E->k[j]?=some (.lst (l.map .str))->∃n c,p ([some (.ref j)]++eU o7 v) k=.ok (.ref n) c/\ao [] k c/\c[n]?=some (.lst ((f l).map .str))/\P n):
  ∃g c,cD p true ξ D3 0 o7 v a=.ok (.ref c.length) (c++[.lst (g.map .ref)])/\ao [] a c/\vq c g (E.map f)/\∀j∈g,P j:=by
 have r:=R.len
 obtain⟨G,c,e,g,rfl,q,B,s⟩:=mQ (λi m c=>∃g,m=g.map .ref/\vq c g ((E.take i).map f)/\ao [] a c/\∀j∈g,P j) y ⟨[],rfl,.nil,ao.refl,by simp⟩
  (λi m c h=>by
   refine dN h λ_ _ _ K _=>?_
   rw[ej,bI,aV (R.keep K).ce])
  (λi d m k C h=>by
   obtain⟨g,rfl,q,K,s⟩:=h;obtain⟨j,t,rfl⟩:=MH C;obtain⟨l,u,o⟩:=(R.keep K).al.at' t;refine bQ (A j l k K (Ë t) (Ë u) o) λn c e w D H=>?_
   refine⟨_,c,e,g++[n],by simp,?_,K.trans w,?_⟩
   .rw[Ĵ,u,ı]
    exact(q.keep w (by simp)).snoc D
   .intro x F
    rcases Ô.mp F with h|h
    .simp_all
    simp_all) (by simp;exact fG (B' (R' r.symm) z))
 refine⟨g,c,e,B,?_,s⟩;rwa[Þ,←r,ť]at q
def Kk(i:Nat):=cD (mN (cb .list) (af (ae 0) aj)) true (au .non) (cf (ae i)) 0 []
theorem IU(l:v[w]?=some (some (.ref b)))(R:Rw a b T E)(m:E.length<=1000):∃c d av,Kk w v a=.ok (.ref d) av/\ao [] a av/\Rw av d c E/\(∀j∈c,a.length<=j)/\a.length<=d/\d∉c:=by
 have f:cf (ae w) v a=.ok (.seq (.ref b)) a:=by
  rw[ku,sG,l];exact iO (by rw[bI,aV R.ce])
 obtain⟨c,n,e,K,g,o⟩:=EE (p:=mN (cb .list) (af (ae 0) aj)) f R m (λj i k K _ _ h=>by
  refine⟨_,k++[.lst (i.map _)],?_,ao.app,aN,K.len⟩;have:=iP h
  simp_all)
 rw[afW]at g;refine⟨_,_,_,e,K.trans ao.app,⟨aN,g.keep (fp:=[]) ao.app (by simp)⟩,o,K.len,λh=>?_⟩
 have:=g.lt _ h
 simp_all
def stC:=(DA (m2 (aJ .Eq) (fJ (ae 0) true (au .non) false (au (.int 1))) (mN cz (af (ae 1) aj))) (fJ (ae 0) false (au (.int 1)) true (au .non)) (ae 0))
theorem MJ(h:a[b]?=some (.lst (l.map .str))):pw (.ref b) none (some 1) a=.ok (.ref a.length) (a++[.lst ((l.take 1).map .str)]):=wR h
def tM:=(mN (cb .any) (af (ae 1) aj))
def stM:=(cD stC true (au .non) (cf (ae 1)) 0 [3])
def bM(st a):=(ag (aR 3 (mN (bw a) (af (ae 1) aj)))
 (ag (dP (m2 (aJ .Is) (ae 3) (au .non))
 (ag st
 ah)
 ah)
 (ag (cA (dH sg dU (ae 2) (af (ae 3) aj)))
 (ag (aR 1 stM)
 ah))))
def MK(st a):=
 (ag (aR 1 (Kk 0))
 (ag (aR 2 (mN cz aj))
 (ag (DL tM (bM st a))
 (ag (bj (ae 2))
 ah))))
theorem IV(R:Rw a b T E):cb .any [.ref b] a=.ok (.bl ((E.map λr=>!r.isEmpty).any id)) a:=by
 show rZ _ _ a=_
 unfold rZ;have:bH (f_ a 8) [.ref b]=some [LL E]:=by simp[(uW R.ce R.al)]
 have:DE .any [LL E]=.ok (false,.bl ((E.map λr=>!r.isEmpty).any id)):=by simp[LL,any_rows,-afl]
 simp_all
end Mir
namespace Mir
open PySem
open PySem.Spec PyProof.Rows L2
structure iu(K:K')(x:Str)(st:J')(f:b')(fd:Y'):Prop where
 ns:ë K Í x=some (some (.ref f))
 fn:Bq K x x st f fd
variable{A7:Array (Option f')}{D6 Q7:Option b'}{G8 M7 R4 U i8 j8:f'}{O:K'}{h:Str}{j:b'}{Θ:J'}
theorem u_(a:ë O Í h=some (some (.ref j)))(l:O.lookup j=some ⟨U,D6,.func (Õ h h (bA Θ) (aO Θ) (ai Θ) .none R4 M7 i8 Q7 j8 G8),A7⟩)(c:Ĉ O j8 h=true)(k:Ú O (.ref j)=true):iu O h Θ j (Õ h h (bA Θ) (aO Θ) (ai Θ) .none R4 M7 i8 Q7 j8 G8):=⟨a,rA l c k⟩
variable [kU]
structure wU(K:K')(x qual:Str)(st:J')(dV:f')(f:b')(fd:Y'):Prop where
 ex:∃(oc:f') (od:Option b') (kV doc pm:f') (an:Option b') (cdv ct:f') (osl:Array (Option f')),
  fd=Õ x qual (bA st) (aO st) (ai st) dV kV doc pm an cdv ct/\K.lookup f=some ⟨oc,od,.func fd,osl⟩/\Ĉ K cdv qual=true
 kp:Ú K (.ref f)=true
variable{B:Str}{I:Á}{J0:Y'}{L:I'}{M:W'}{M0 l u8:List Str}{b:Nat}{Δ:Str->Option f'}{ε:SM}{ς:aA}
theorem sQ(W:aG I M O Δ L ς b)(F:wU O h B Θ U j J0)(D:fv l M0 (ai Θ)=true)(J:yU ς u8 Θ l=some ε):
    bW I M O Δ L fH (b+1) j J0 M0 (c_ (cJ Δ) (aH l.length M0.length ε)):=by
  refine xe F.ex λoc k=>xe k λod n=>xe n λkV o=>xe o λK p=>xe p λpm t=>bp t λan N ct P u R w=>?_;subst u
  have x:=gH D;refine BL R w x (λT H Q E a=>?_) λA outer s H T Q E V a=>?_
  · refine bp a λf Z i X S r g=>?_
    rw[r.length];unfold aH at g;split at g
    · omega
    · exact g.elim
  · refine bp a λf Z i X S r g=>?_
    have G:dX (dh fH I M O Δ _ l _ _ j _ A outer s H E).lU _ ς b _ l:=
      { scope:=rfl,names:=rfl,calm:=rfl,room:=V,cY:=W.cY,own:=afX,UJ:=λ_ _ _=>.inl rfl,uu:=x.nd,kind:=x.kind,lU:=λ_ _ _ a=>a,fld:=W.fld,cst:=W.cst
        jo:=λh F a=>⟨W.jo h F a⟩,fn:=λh F a=>⟨W.fn h F a⟩,met:=λm C F a=>⟨W.met m C F a⟩,cls:=λC F a=>bx (W.cls C F a) λe Y h2=>⟨e,Y,⟨h2⟩⟩,clo:=W.clo }
    refine⟨OC _ lR f Z H ε _ i,(ez (yT G 30 60) J f Z H _ i).lU,f,Z,jn S r,?_⟩;unfold aH at g;split at g
    · cases q:ε _ i with
      |rt d c=>rwa[q]at g
      |nx y c=>rw[q]at g;exact λσ H' a0 Z' z=>g _ H' _ Z' z.gr z.st (aQ rfl)
      |bk y c=>rw[q]at g;exact g.elim
      |ct y c=>rw[q]at g;exact g.elim
      |exc h c=>rwa[q]at g
      |bad=>rwa[q]at g
    · exact g.elim
abbrev oR(k:Nat):Option D:=some (.ref k)
abbrev oI(i:Int):Option D:=some (.int i)
abbrev oS(x:Str):Option D:=some (.str x)
def cw(Ω:az)(e:Nat)(kvs:List (Key×D)):=Ω[e]?=some (.dK kvs)\/Ω[e]?=some (.dF kvs)
abbrev kG:=List (Str×List Str)
noncomputable def nms(E:kG):=E.map (·.1)
noncomputable def ju(E:kG)(n):=(E.lookup n).getD []
def a_(P:Nat->Prop)(Ω:az)(kvs:List (Key×D))(E:kG):=aE (λa p=>a.1=.inr p.1/\∃j,a.2=.ref j/\P j/\Ω[j]?=some (.lst (p.2.map .str))) kvs E
variable{Y:List (Key×D)}{a y:az}
theorem cw.keep{fp}(h:cw a b Y)(K:ao fp a y)(c:b∉fp):cw y b Y:=h.imp (λz=>K.get _ _ z c) λz=>K.get _ _ z c
theorem cw.lt(h:cw a b Y):b<a.length:=h.elim aX aX
theorem cw.nl(h:cw a b Y):∀c,a[b]?≠some (.lst c):=λc z=>by rcases h with h|h<;>rw[h]at z<;>cases z
theorem cw.ni(h:cw a b Y):∀C c,a[b]?≠some (.ins C c):=λC c z=>by rcases h with h|h<;>rw[h]at z<;>cases z
variable{w:Nat}
theorem Kl(h:cw a b Y):f_ a (w+1) (.ref b)=none:=by rcases h with h|h<;>simp only[f_,h]
theorem vb(h:cw a b Y):cR a (.ref b)=none:=by rcases h with h|h<;>simp only[cR,h]
theorem EF(h:cw a b Y):ux a (.ref b) (.str B)=some (a9 Y (.inr B)):=by rcases h with h|h<;>simp only[ux,h,kb,Ň]
theorem EG(c:cw a b Y):aJ .In (.str h) (.ref b) a=.ok (.bl (a9 Y (.inr h)).isSome) a:=by
 rw[ID,kn,Kl c];simp only[kX,EF c];rfl
theorem zj(c:cw a b Y):aJ .NotIn (.str h) (.ref b) a=.ok (.bl (!(a9 Y (.inr h)).isSome)) a:=by
 rw[jt,kn,Kl c];simp only[kX,EF c];rfl
variable{m:D}
theorem fV(c:cw a b Y)(d:a9 Y (.inr h)=some m):bc (.ref b) (.str h) a=.ok m a:=by
 unfold bc;rw[fT,kr,bI,vb c];rw[fT];simp only[Hn,EF c,d];rfl
theorem zk(h:cw a b Y):cb .len [.ref b] a=.ok (.int Y.length) a:=by
 show lZ _ _=_
 have c:AG [.ref b] a=.bad:=by simp only[AG,bI,vb h]
 have d:DC [.ref b] a=.ok (.int Y.length) a:=by rcases h with h|h<;>simp only[DC,h]
 simp_all
theorem Km(h:cw a b Y):wx a (.ref b)=some Y:=by rcases h with h|h<;>simp only[wx,h]
theorem jv(h:cw a b Y):cb .list [.ref b] a=.ok (.ref a.length) (a++[.lst (Y.map λc=>fy c.1)]):=by
 show lZ _ _=_
 have d:og [.ref b] a=.bad:=by simp only[og,bI,vb h]
 have e:qu [.ref b] a=.ok (.ref a.length) (a++[.lst (Y.map λc=>fy c.1)]):=by simp only[qu,Km h];rfl
 simp_all
variable{F3:Cell}
theorem set_same(h:a[b]?=some F3):a.set b F3=a:=by
 apply adz;intro i;rw[adg];split
 .rename_i z;subst z;rw[if_pos (aX h),h]
 .rfl
theorem qH(h:cw a b Y):srcOf a (.ref b)=.ok (.keys b) (a.set b (.dF Y)):=by
 unfold srcOf;rw[bI,vb h];rcases h with h|h
 .simp_all
 .simp only[h,set_same h]
theorem Kn(h:cw a b Y):yC a (.ref b)=.ok (.items b) (a.set b (.dF Y)):=by
 unfold yC;rcases h with h|h
 .simp_all
 .simp only[h,set_same h]
theorem kx(h:cw a b Y):(a.set b (.dF Y))[b]?=some (.dF Y):=by rcases h with h|h<;>exact di h
theorem sR(h:a[b]?=some (.dF Y)):dr (.keys b) a=some (Y.map λc=>fy c.1):=by simp only[dr,h]
theorem a_.imp{Ω kvs E P P'}(h:a_ P Ω kvs E)(a:∀j,P j->P' j):a_ P' Ω kvs E:=aE.imp (by simp_all) h
variable{Q0:kG}{R0:Nat->Prop}
theorem a_.keep{fp}(h:a_ R0 a Y Q0)(K:ao fp a y)(f:∀j∈fp,¬ R0 j):a_ R0 y Y Q0:=aE.imp (by rintro _ _ ⟨e,j,b,c,d⟩;exact⟨e,j,b,c,K.get _ _ d λz=>f j z c⟩) h
variable{T:List Nat}
theorem a_.eB(h:a_ R0 a Y Q0)(K:ao T a y)(f:∀j∈T,∀g,a[j]?≠some (.lst g)):a_ R0 y Y Q0:=aE.imp (by rintro _ _ ⟨e,j,b,c,d⟩;exact⟨e,j,b,c,K.get _ _ d λz=>f j z _ d⟩) h
theorem a_.lt(h:a_ R0 a Y Q0):a_ (λj=>R0 j/\j<a.length) a Y Q0:=aE.imp (λ_ _  g =>xa g λe f=>ay f λj b c d=>⟨e,j,b,⟨c,aX d⟩,d⟩) h
theorem a_.len(h:a_ R0 a Y Q0):Q0.length=Y.length:=aE.length h
theorem a_.keys(h:a_ R0 a Y Q0):(Y.map λc=>fy c.1)=(nms Q0).map .str:=by
 induction h with
 |nil=>rfl
 |cons r _ b=>
  simp at b ⊢;rw[b,r.1];rfl
theorem a_.look(h:a_ R0 a Y Q0)(n):(∀r,Q0.lookup n=some r->∃j,a9 Y (.inr n)=oR j/\R0 j/\a[j]?=some (.lst (r.map .str)))/\(Q0.lookup n=none->a9 Y (.inr n)=none):=by
 induction h with
 |nil=>exact⟨by simp,λ_=>rfl⟩
 |@cons k p Y Q0 b _ c=>
  obtain⟨m,s⟩:=p;obtain⟨d,h⟩:=b;rw[bK,d,Ġ];cases e:n==m with
  |true=>
   cases eq_of_beq e;exact ay h λj f g i=>⟨λr z=>by cases z;exact⟨j,by rw[if_pos rfl,f],g,i⟩,λz=>nomatch z⟩
  |false=>
   rw[if_neg λz=>ne_of_beq_false e (Sum.inr.inj z).symm]
   exact c
theorem zl(a:Q0.lookup h=some l):(h,l)∈Q0:=by
 induction Q0 with
 |nil=>simp at a
 |cons p Q0 b=>
  grind
theorem lookup_some(a:h∈nms Q0):∃r,Q0.lookup h=some r:=by
 unfold nms at a
 induction Q0 with
 |nil=>simp at a
 |cons p Q0 b=>
  rw[Ġ];split
  .simp
  grind
theorem oH(a:h∈nms Q0):Q0.lookup h=some (ju Q0 h):=by
 obtain⟨r,b⟩:=lookup_some a;unfold ju;rw[b];rfl
theorem lookup_none(a:h∉nms Q0):Q0.lookup h=none:=by
 cases q:Q0.lookup h with
 |none=>rfl
 |some r=>exact absurd (ϸ (zl q)) a
def a_.at{n}(h:a_ R0 a Y Q0)(b:n∈nms Q0):=(h.look n).1 _ (oH b)
theorem a_.is(b:a_ R0 a Y Q0):(a9 Y (.inr h)).isSome=decide (h∈nms Q0):=by
 by_cases q:h∈nms Q0
 .obtain⟨j,c,_⟩:=b.at q
  simp_all
 .rw[(b.look h).2 (lookup_none q),decide_eq_false q];rfl
variable{z7:Key}
theorem EH(h:a9 Y z7=none):(Y.any λa=>decide (a.1=z7))=false:=by rw[oE,h];rfl
theorem a_.put{r}(c:a_ R0 a Y Q0)(d:h∉nms Q0)(e:R0 b)(f:a[b]?=some (.lst (r.map .str))):a_ R0 a (dG Y (.inr h) (.ref b)) (Q0++[(h,r)]):=by
 have:=EH ((c.look h).2 (lookup_none d));unfold dG;rw[if_neg (by grind)]
 exact aE.append c (.cons ⟨rfl,b,rfl,e,f⟩ .nil)
def Vu(E)(a:List Str):=(nms E).filter λn=>!decide (n∈a)&&(ju E n).all λx=>decide (x∈a)
def rkI:=(cD (m2 (aJ .In) (ae 0) (ae 1)) true (au .non) (cf (m2 bc (ae 1) (ae 0))) 0 [2])
def Vv:=(gY (m2 (aJ .NotIn) (ae 0) (ae 2)) (mN (cb .all) (af rkI aj)))
def Vx:=(ag (bj (cD (ae 0) false Vv (cf (ae 0)) 0 [0,1])) ah)
variable{va:List Bool}
theorem zm(h:a[b]?=some (.lst (va.map .bl))):cb .all [.ref b] a=.ok (.bl (va.all id)) a:=by
 show rZ _ _ a=_
 unfold rZ;rw[Iz];have d:bH (f_ a 7) _=some (va.map .bl):=jr (λ_=>My) va
 have:bH (f_ a 8) [.ref b]=some [.lst (va.map .bl)]:=by simp[fU h d]
 rw[this,Iy,Et]
 have e:gi (va.map D.bl)=some va:=by
  clear h d this
  induction va with
  |nil=>rfl
  |cons c va f=>simp[gi,f]
 rw[e];rfl
variable{D3:IM}{p:EM}{v:aZ}
theorem EI(c:a[b]?=some (.lst (l.map .str)))(f:D3 v a=.ok (.seq (.ref b)) a){oJ}(i:∀x∈l,p ([oS x]++eU T v) a=.ok (.bl (oJ x)) a)(j:l.length<=90000):
  ∃av,mN (cb .all) (af (cD p true (au .non) D3 0 T) aj) v a=.ok (.bl (l.all oJ)) av/\ao [] a av:=by
 have e:=dY (p:=p) (ξ:=au .non) (H:=true) (T:=T) (g:=λd=>match d with|.str x=>.bl (oJ x)|d=>d) f (by rw[ej,bI,aV c]) (λd _=>rfl) (λd k _=>by
  grind) (by simp_all)
 have h:((l.map D.str).filter λ_=>true).map (λd=>match d with|.str x=>D.bl (oJ x)|d=>d)=(l.map oJ).map .bl:=by
  rw[ŉ.mpr (λ_ _=>rfl),Ý,Ý]
  rfl
 rw[h]at e;refine⟨a++[.lst ((l.map oJ).map .bl)],?_,ao.app⟩;rw[Ke,oA,e,eA,sF,eA,eA,zm aN]
 simp_all
def ML(f:aK):=∀c e q b E d P,cw c e b->a_ P c b E->c[q]?=some (.lst (d.map .str))->(∀n∈nms E,(ju E n).length<=1000)->E.length<=1000 ->
 ∃z a,f [.ref e,.ref q] c=.ok (.ref z) a/\a[z]?=some (.lst ((Vu E d).map .str))/\ao [e] c a/\a[e]?=some (.dF b)/\c.length<=z
theorem Rq:ML (aH 2 2 Vx):=by
 intro c e q f E b P m F G L M;rw[eG (by rfl)]
 have N:cS 2 [D.ref e,.ref q]=[oR e,oR q]:=rfl;rw[N];have r:ao [e] c (c.set e (.dF f)):=ao.set (by simp)
 have s:=kx m;have t:=F.eB r (λj o=>by rw[è.mp o];exact m.nl)
 have Z:(c.set e (.dF f)).length=c.length:=by simp
 have u:cf (ae 0) [oR e,oR q] c=.ok (.keys e) (c.set e _):=qH m;generalize c.set e _=w at *
 refine bx (ze (p:=ae 0) (H:=false) (T:=[0,1]) (oB:=λd=>match d with|.str n=>!decide (n∈b)&&(ju E n).all _|_=>false) (g:=λd=>d) (λ_ a=>ao [] w a) u
  (λi a K=>by rw[sR (K.get _ _ s (by simp)),F.keys])
  (λi d a y K=>by
   obtain⟨n,O,rfl⟩:=lg y;have Q:=Ë O;have I:=K.get _ _ (r.get _ _ G (by simpa using (λz=>m.nl _ (z▸G)))) (by simp)
   have R:=t.keep K (by simp)
   refine ay (R.at Q) λj S _ o=>?_
   have k:=mP (h:=n) I
   show ∃A,eE (Vv [oS n,oR e,oR q] a)=.ok (!decide _&&(ju E n).all λx=>decide (x∈b)) A/\_
   by_cases U:n∈b
   .refine⟨a,?_,K,λ_=>rfl⟩
    rw[decide_eq_true U]at k ⊢;simp[Vv,k,-jt]
   .refine bx (EI (v:=[oS n,oR e,oR q]) (p:=m2 (aJ .In) (ae 0) (ae 1)) (D3:=cf (m2 bc (ae 1) (ae 0))) (T:=[2]) o (by
     show(bc (.ref e) (.str n) a).bind _=_
     rw[(fV (.inr (K.get _ _ s (by simp))) S),eA]
     exact iO (by rw[bI,aV o])) (λx _=>wO I) (by grind)) λB J V=>?_
    refine⟨B,?_,K.trans V,λ_=>rfl⟩
    have J:mN _ (af rkI aj) _ a=_:=J;unfold Vv
    simp_all) (by simp[nms];exact fG M) ao.refl) λl X C=>?_
 refine⟨l.length,l++[.lst _],?_,aN,?_,sO (C.get _ _ s (by simp)),by have:=C.len;simp_all⟩
 .unfold Vx
  rw[mO,IH,X]
  have Y:(((nms E).map D.str).filter (λd=>match d with|.str n=>!decide (n∈b)&&(ju E n).all λx=>decide (x∈b)|_=>false)).map (λd=>d)=(Vu E b).map .str:=by
   rw[afW,adG];rfl
  rw[Y];rfl
 .exact(r.trans (Ki.up C)).trans ao.app
structure Gd(E:kG):Prop where
 nd:(nms E).Nodup
 few:E.length<=100
 z:∀n∈nms E,ju E n=[]
theorem wV(h:a[b]?=some (.lst (l.map .str)))(c:a[w]?=some (.lst (M0.map .str)))(d:l.length+M0.length<=10000):iJ (.ref b) [.ref w] a=.ok .non (a.set b (.lst ((l++M0).map .str))):=by
 simp only[iJ,ko h,ko c];rw[if_pos (bP (by simp;exact fG d)),ı]
def efB(a):=(ag (cA (dH sg iJ (ae 1) (af (ae 2) aj)))
 (ag (aR 2 (mN (bw a) (af (ae 0) (af (ae 1) aj))))
 ah))
def Vy(a):=
 (ag (aR 1 (mN cz aj))
 (ag (aR 2 (mN (bw a) (af (ae 0) (af (ae 1) aj))))
 (ag (DL (ae 2)
 (efB a))
 (ag (bj (ae 1))
 ah))))
theorem wh0(c:p v a=.ok (.ref w) a)(hz:a[w]?=some (.lst [])):mh p ε (b+1) v a=.nx v a:=by
 rw[mh,c,sI,oG hz];rfl
variable{ia:aZ}{q:List D}
theorem wh1(c:p v a=.ok (.ref w) a)(hz:a[w]?=some (.lst q))(e:q≠[])(d:ε v a=.nx ia y):mh p ε (b+1) v a=mh p ε b ia y:=by
 rw[mh,c,sI,oG hz,Io,yV,if_pos (by simp_all),d]
def IW(d:aK):=∀c e b E P,cw c e b->a_ P c b E->Gd E ->
 ∃z a,d [.ref e] c=.ok (.ref z) a/\a[z]?=some (.lst ((nms E).map .str))/\ao [e] c a/\a[e]?=some (.dF b)/\c.length<=z
variable{C:aK}
theorem Rr(K:ML C):IW (aH 3 1 (Vy C)):=by
 intro m e o E P L T G;have i:=G.few;have M:∀n∈nms E,(ju E n).length<=1000:=λn f=>by rw[G.z n f];simp
 refine ay (kA (lN (q:=[]) (a:=m))) λD U p N=>?_
 have le:=L.lt;have r:=L.keep p (by simp)
 have s:=T.lt.keep p (by simp)
 refine bg (K D e m.length o E [] _ r s N M (fG i)) λz t V b u w lz=>?_
 rw[show Vu E []=nms E from ŉ.mpr λn f=>by simp[G.z n f]]at b
 have A:=u.g N;have R:∀{x d},mh (ae 2) (efB C) fuel _ t=.nx x d->ae 1 x d=.ok _ d->aH 3 1 (Vy C) [.ref e] m=.ok (.ref m.length) d:=λh X=>fR ((qA (eN rfl U)).trans ((qA (eC rfl V)).trans ((qN h).trans (qR X))))
 by_cases f:nms E=[]
 .rw[f]at b ⊢
  exact⟨_,t,R (wh0 rfl b) rfl,A,p.tr u,w,O' _⟩
 .refine ay (kO (wV (l:=[]) A b (by simp[nms];exact fG i)) A) λF Y B O=>?_
  refine bg (K F e m.length o E (nms E) _ (.inr (B.g w)) ((s.eB u (λj Q Z=>by rw[è.mp Q];exact r.nl Z)).keep B (λj Q h=>by simp_all)) O M (fG i)) λz' H e4 y I J a0=>?_
  rw[show Vu E (nms E)=[]from List.filter_eq_nil_iff.mpr (by simp_all)]at y
  exact⟨_,H,R ((wh1 rfl b (by simp_all) ((qE (eL rfl rfl (gP A) Y)).trans (qA (eC rfl e4)))).trans (wh0 rfl y)) rfl,I.g O,⟨B' p.len (B' u.len (B' B.len I.len)),λk c S f=>I.get k c (B.get k c (u.get k c (p.g S) f) (by have:=aX S;simp;exact U' this)) f⟩,J,O' _⟩
def lfL:=(cD (ae 0) false (m2 (aJ .NotIn) (ae 0) (ae 1)) (cf (ae 0)) 0 [1])
def cLo(a rest):=
 (ag (aR 1 (mN (bw a) (af (ae 0) aj)))
 (ag (aR 3 lfL)
 (ag (dP (ew (ae 3))
 (ag (bj (au .non))
 ah)
 ah)
 rest)))
def MM(d:aK):=∀c e a E P,cw c e a->a_ P c a E->Gd E ->
 ∃b,d [.ref e] c=.ok .non b/\ao [e] c b/\b[e]?=some (.dF a)
theorem t3(h:p v a=.ok (.ref b) a)(g:a[b]?=some (.lst [])):ew p v a=.ok (.bl true) a:=by
 rw[Ip,h,sI,oG g];rfl
theorem Rt(l:IW C):MM (aH 5 1 (cLo C ε)):=by
 intro m e o E P c j G;refine bg (l m e _ E P c j G) λz q r t u a y=>?_
 have b:=dY (v:=[oR e,oR z,none,none,none]) (p:=ae 0) (ξ:=m2 (aJ .NotIn) (ae 0) (ae 1)) (D3:=cf (ae 0)) (H:=false) (T:=[1]) (oC:=λ_=>false) (g:=λd=>d) (show srcOf _ _=_ by rw[qH (.inr a),set_same a]) (by rw[sR a,j.keys]) (λd c=>by
  refine bx (Î.mp c) λn w f=>?_;subst f
  show eE (aJ .NotIn _ _ _)=_
  rw[mP t,decide_eq_true w];rfl) (λd _ h=>by cases h) (by simp[nms];exact fG G.few)
 rw[show(((nms E).map _).filter _).map _=[]by simp]at b
 refine ay (kA b) λi b k x=>⟨i,fR ((qA (eC rfl r)).trans ((qA b).trans ((qT (t3 rfl x)).trans (qB (qR rfl))))),u.trans k.s,k.g a⟩
noncomputable def eW(a:List Str)(L:Str->List Str):kG:=a.map λn=>(n,L n)
variable{M3:Str->List Str}
theorem dC:nms (eW l M3)=l:=by
 unfold nms eW;rw[Ý];exact(adn λx _=>rfl).trans (ab' _)
theorem zo(b:h∈l):ju (eW l M3) h=M3 h:=by
 unfold ju eW
 induction l with
 |nil=>simp at b
 |cons a l c=>
  grind
variable{j5:List D}
theorem ky(h:a[b]?=some (.lst q))(c:a[w]?=some (.lst j5))(d:q.length+j5.length<=10000):bh .Add (.ref b) (.ref w) a=.ok (.ref a.length) (a++[.lst (q++j5)]):=by
 rw[Eu,IF,aV h,aV c,IE,if_pos (bP (fG d))];rfl
def rbC:=(cD (mN (cb .list) (af (m2 bc (ae 1) (ae 0)) aj)) true (au .non) (cf (ae 1)) 0 [0])
def rbL:=(mN cz (af (mN (cb .list) (af (ae 1) aj)) aj))
def XX:=(ag (bj (m2 (bh .Add) rbC rbL)) ah)
def Vz(d:aK):=∀c l a,c[a]?=some (.lst [])->∃k j b,d [.ref l,.ref a] c=.ok (.ref k) b/\b[k]?=some (.lst [.ref j])/\b[j]?=some (.lst [])/\ao [] c b
theorem MN:Vz (aH 2 2 XX):=by
 intro k l a c;refine ay (kA (show rbC [oR l,oR a] k=.ok _ _ from dY (oC:=λ_=>true) (g:=id) (sr rfl c) (by rw[ej,bI,aV c]) (by simp) (by simp) (by simp))) λb m h n=>?_
 refine ay (kA (iP (h.g c))) λd o i p=>?_
 refine ay (kA (lN (q:=[.ref b.length]) (a:=d))) λr s e t=>?_
 refine ay (kA (ky (e.g (i.g n)) t (by simp))) λf u j w=>⟨_,b.length,f,fR (qR (eQ m (eN (eK (eN rfl o) rfl) s) u)),w,j.g (e.g p),(h.trans i).trans (e.trans j)⟩
def VA(c:aK):=∀b k j,b[k]?=some (.lst [.ref j])->b[j]?=some (.lst [])->∃q a,c [.ref k] b=.ok (.ref q) a/\a[q]?=some (.lst [])/\ao [] b a
theorem whF(h:p v a=.ok (.bl false) y):mh p ε (b+1) v a=.nx v y:=by
 rw[mh,h];rfl
theorem MO:VA (aH 4 1 (MK ε C)):=by
 intro e k j f g;refine iC (IU (v:=[oR k,none,none,none]) (w:=0) rfl (show Rw e k [j] [[]]from⟨f,.cons g .nil⟩) (by simp)) λh p b i l m r s t=>?_
 refine ay (kA (lN (q:=[]) (a:=b))) λc n d o=>⟨_,c,fR ((qA i).trans ((qA (eN rfl n)).trans ((qN (whF (eN rfl (IV (m.keep d))))).trans (qR rfl)))),o,l.trans d⟩
theorem zp(h:z7∉Y.map (·.1)):dG Y z7 m=Y++[(z7,m)]:=by
 unfold dG
 simp_all
theorem lh:∀(c b:List (Key×D)),((b++c).map (·.1)).Nodup->c.foldl (λa p=>dG a p.1 p.2) b=b++c
 |[],b,_=>by simp
 |p::c,b,h=>by
  rw[ſ,zp (by
   grind),lh c _ (by simp_all)]
  simp
theorem EJ{f:Str->D}(h:∀n∈l,∃j,f n=.ref j/\R0 j/\a[j]?=some (.lst ((M3 n).map .str))):a_ R0 a (l.map λn=>(.inr n,f n)) (eW l M3):=by
 induction l with
 |nil=>exact .nil
 |cons b l c=>exact .cons ⟨rfl,h b (by simp)⟩ (c λn d=>h n (by simp[d]))
variable{m3:List (Str×D)}
theorem dpk(e:p v a=.ok (.ref k) y)(g:y[k]?=some (.lst (m3.map λb=>.tup [.str b.1,b.2])))(d:(m3.map (·.1)).Nodup):mN uz (af p aj) v a=.ok (.ref y.length) (y++[.dK (m3.map λb=>(.inr b.1,b.2))]):=by
 have c:=lh (m3.map λb=>((.inr b.1),b.2)) [] (by
  grind)
 rw[Ke,oA,e]
 show lZ _ _=_
 simp only[yy,aV g,(jr (f:=yw) (g:=λb=>D.tup [.str _,b.2]) (λn=>rfl) m3),c]
 rfl
variable{j6:Src}
theorem wW{f:Str->D}(b:D3 v a=.ok j6 a)(c:dr j6 a=some (l.map .str))(k:∀n∈l,p ([oS n]++eU T v) a=.ok (.tup [.str n,f n]) a)(i:l.length<=1000)(j:l.Nodup):
  ∃q av,mN uz (af (cD p true (au .non) D3 0 T) aj) v a=.ok (.ref q) av/\av[q]?=some (.dK (l.map λn=>(.inr n,f n)))/\ao [] a av/\a.length<=q:=by
 have e:=dY (p:=p) (ξ:=au .non) (H:=true) (T:=T) (g:=λd=>match d with|.str n=>.tup [.str n,f n]|d=>d) b c (λd _=>rfl) (λd m _=>by
  grind) (by simp;exact fG i)
 rw[ŉ.mpr (λ_ _=>rfl),Ý]at e
 have h:=dpk (m3:=l.map λn=>(n,f n)) e (by simp) (by simpa[adl]using j)
 rw[Ý]at h;exact⟨_,_,h,aN,ao.app.trans ao.app,by simp⟩
def lnC:=(mN (cb .all) (af (cD (m2 (aJ .In) (ae 0) (ae 1)) true (au .non) (cf (m2 bc (ae 0) (ae 4))) 0 [2]) aj))
def lnV(a b):=(m2 (bh .Add) (mN cz (af (ae 4) aj)) (mN (bw a) (af (mN (bw b) (af (ae 2) (af (m2 bc (ae 0) (ae 4)) aj))) aj)))
def XY(a b):=(ag (dP lnC
 (ag (ag (fA (ae 2) (ae 4) (lnV a b))
 ah)
 ah)
 ah)
 ah)
def lnT:=(ag (dP (m2 (aJ .In) (ae 4) (ae 3))
 (ag bF
 ah)
 ah)
 ah)
def lnR:=(mN uz (af (cD (mN nW (af (ae 0) (af (m2 bc (ae 1) (ae 0)) aj))) true (au .non) (cf (ae 0)) 0 [2]) aj))
def XZ(a b c d):=
 (ag (aR 1 (mN (bw a) (af (ae 0) aj)))
 (ag (dP (m2 (aJ .IsNot) (ae 1) (au .non))
 (ag bF
 ah)
 ah)
 (ag (aR 2 ck)
 (ag (aR 3 ck)
 (ag (dw (cF 4) (cf (mN (bw b) (af (ae 0) aj)))
 (XY c d))
 (ag (dw (cF 4) (cf (ae 0))
 lnT)
 (ag (bj lnR)
 ah)))))))
theorem oK(c:a[b]?=some (.dK Y))(d:Y.length<=1000):gU (.ref b) (.str h) m a=some (a.set b (.dK (dG Y (.inr h) m))):=by
 simp only[gU,c,kb];rw[if_pos (bP (by omega))]
variable{B4 E2 N5:Option D}{Ξ:aK}
theorem MP{P'}(L:VA C)(M:Vz Ξ){n}(F:a[b]?=some (.dF Y))(N:a_ R0 a Y Q0)(O:a[w]?=some (.dK n))(o:a_ P' a n (eW l M3))(P:h∈nms Q0)(Q:h∉l)(hz:ju Q0 h=[])(R:M3 h=[h])(s:l.length<=100)(y:∀j,a.length<=j->P' j):
  ∃d av,XY C Ξ [oR b,E2,oR w,B4,oS h,N5] a=.nx [oR b,E2,oR w,B4,oS h,N5] av/\av[w]?=some (.dK d)/\a_ P' av d (eW (l++[h]) M3)/\ao [w] a av:=by
 refine ay (N.at P) λe G _ c=>?_
 rw[hz]at c;refine bx (EI (v:=[oR b,E2,oR w,B4,oS h,N5]) (p:=m2 (aJ .In) (ae 0) (ae 1)) (T:=[2]) (oJ:=λx=>true) c (sr (eQ (p:=ae 0) (ξ:=ae 4) rfl rfl (fV (.inr F) G)) c) (λx S=>by cases S) (by simp)) λz U V=>?_
 refine ay (kA (lN (q:=[.str h]) (a:=z))) λX Z K2 g2=>?_
 have f:=V.trans K2;refine bO (M _ w e (f.g c)) λk j a0 e3 g3 A H=>?_
 refine aP (L _ k j g3 A) λq B e4 E I=>?_
 have t:=f.trans (H.trans I);refine ay (kA (ky (I.g (H.g g2)) E (by simp))) λb0 e5 K5 g5=>?_
 have i:=t.trans K5;have u:=i.g O;refine ay (kD (oK (h:=h) (m:=.ref B.length) u (by rw[←o.len];simp[eW];exact fG s)) u) λc0 e6 J g6=>?_
 have K:=((o.keep i (by simp)).put (r:=M3 h) (by rwa[dC]) (y _ t.len) (by rwa[R])).eB J (λj hj ds=>by simp_all)
 have:eW l M3++[(h,M3 h)]=eW (l++[h]) M3:=by simp[eW]
 rw[this]at K;exact⟨_,_,(qT U).trans (qN (qN (qD (eQ (eN rfl Z) (eC (eK (eC (eK rfl (eK (eQ rfl rfl (fV (.inr (f.g F)) G)) rfl)) e3) rfl) e4) e5) rfl rfl e6))),g6,K,i.tr J⟩
def Ru(f:aK):=∀c e b E P L,cw c e b->a_ P c b E->Gd E->(∀n∈nms E,L n=[n]) ->
 ∃l d a,f [.ref e] c=.ok (.ref l) a/\a[l]?=some (.dK d)/\a_ (λj=>c.length<=j) a d (eW (nms E) L)/\ao [e] c a/\a[e]?=some (.dF b)/\c.length<=l
theorem nDq:∃av,(∀{b},ck b a=.ok (.ref a.length) av)/\ao [] a av/\av[a.length]?=some (.dK []):=⟨_,rfl,ao.app,aN⟩
variable{S5 y3:aK}
theorem Rv(hO:MM C)(hE:IW Ξ)(hM:VA y3)(hB:Vz S5):Ru (aH 6 1 (XZ C Ξ y3 S5)):=by
 intro Ω e I E P L hd hr G hL;have c0:=G.few;have A:(nms E).length=E.length:=by simp[nms]
 refine ay (hO Ω e I E P hd hr G) λm e1 K1 J=>?_
 have M:=hr.eB K1 (λj N ds=>by rw[è.mp N];exact hd.nl ds)
 refine ay (nDq (a:=m)) λr e2 K2 g2=>?_
 refine ay (nDq (a:=r)) λO e3 K3 g3=>?_
 have t:=K2.trans K3;have d0:=t.g J;have e0:=K3.g g2;refine bg (hE O e I E P (.inr d0) (M.keep t (by simp)) G) λz u e4 Q F R lz=>?_
 have le:=qP J;have l1:=qP g2;have v0:m.length≠e:=ä le;have S:=F.g e0;have g0:=(M.keep t (by simp)).eB F (λj N ds=>by simp_all)
 have t0:=F.len;have l3:=K3.len
 have h0:ao [] O u:=⟨F.len,λk c hk _=>by
  by_cases h:k=e
  .simp_all
  .exact F.get k c hk (by simpa using h)⟩
 refine cg (OJ (l:=nms E) (G7:=cF 4) (ε:=XY y3 S5) (λi ρ b=>∃o a4,ρ=[oR e,some .non,oR m.length,oR r.length,a4,none]/\b[m.length]?=some (.dK o)/\a_ (λj=>u.length<=j) b o (eW ((nms E).take i) L)/\ao [m.length] u b) (sr (eC (u0:=af (ae 0) aj) rfl e4) Q) (λ⟨_,_,_,_,_,K⟩=>K.g Q) (by
  rintro i n _ b s ⟨o,a4,rfl,H,h2,K⟩;have B:=Ë s
  refine bQ (MP hM hB (h:=n) (E2:=some .non) (B4:=oR r.length) (N5:=none) (K.g R) (g0.eB K (λj N ds=>by simp_all)) H h2 B (by
   intro hm;obtain⟨i',w⟩:=ċ.mp hm;have D:=(Ì.mp w).1;rw[Ĩ]at D;rw[aeb (M' D (aca _ _))]at w;have:=(ab0 (qP w) G.nd).mp (w.trans s.symm);exact Û _ (Ø (R' this.symm) (M' D (aca _ _)))) (G.z n B) (hL n B) (by rw[Ĩ];exact B' (B' (ac8 _ _) (R' A)) c0) (λj N=>B' K.len N)) λU V e6 h6 h7 K6=>?_
  exact⟨_,_,_,rfl,e6,U,_,rfl,h6,by rw[Ĵ,s];exact h7,K.trans K6⟩) ⟨[],none,rfl,S,.nil,ao.refl⟩ (by omega)) λ_ b e5 i0=>bQ i0 λo a4 j0 h5 X K5=>?_;subst j0
 rw[ť]at X;have x:=K5.g R;have m0:=K5.g (F.g g3)
 have Y:∀{a4},cf (ae 0) [oR e,some .non,oR m.length,oR r.length,a4,none] b=.ok (.keys e) b:=by
  intro a4;rw[ku]
  show srcOf b (.ref e)=_
  rw[qH (.inr x),set_same x]
 have Z:dr (.keys e) b=some ((nms E).map .str):=by rw[sR x,hr.keys]
 obtain⟨_,_,e6,rfl,y,rfl⟩:=Bs (G7:=cF 4) (ε:=lnT) (λi ρ V=>b=V/\∃y,ρ=[oR e,some .non,oR m.length,oR r.length,y,none]) Y (λ⟨z,_⟩=>z▸Z) (by
  rintro i d _ _ o0 ⟨rfl,y,rfl⟩;refine bx (lg o0) λn s p0=>?_;subst p0
  exact⟨_,_,_,rfl,q0 (eQ rfl rfl (EG (h:=n) (.inl m0))),rfl,_,rfl⟩) ⟨rfl,a4,rfl⟩ (by simp;omega)
 have a0:∀n∈nms E,∃j,(a9 o (.inr n)).getD .non=.ref j/\u.length<=j/\b[j]?=some (.lst ((L n).map .str))/\a9 o (.inr n)=oR j:=λn s=>by
  refine ay (X.at (n:=n) (by rw[dC];exact s)) λj H h2 h3=>?_
  rw[zo s]at h3
  simp_all
 refine bQ (wW (p:=mN nW (af (ae 0) (af (m2 bc (ae 1) (ae 0)) aj))) (T:=[2]) (l:=nms E) (f:=λn=>(a9 o (.inr n)).getD .non) (Y (a4:=y)) Z (λn s=>by
  refine dN (a0 n s) λj H _ _ h4=>?_
  rw[H];exact eN (eK rfl (eK (eQ rfl rfl (fV (h:=n) (.inl h5) h4)) rfl)) rfl) (by omega) G.nd) λq r0 e7 g7 K7 lq=>?_
 have b0:ao [] m b:=⟨ß (qP h5),λk c hk _=>K5.get k c (h0.g (t.g hk)) (by have:=aX hk;simp;exact U' this)⟩
 have s0:=b0.len;have l0:=K1.len;exact⟨q,_,r0,fR ((qA (eC rfl e1)).trans ((q0 (eQ rfl rfl rfl)).trans ((qA e2).trans ((qA e3).trans ((e5 _).trans ((e6 _).trans (qR e7))))))),g7,EJ λn s=>dN (a0 n s) λj H h2 h3 _=>⟨j,H,ß (M' (Ø l0 (qP S)) h2),K7.g h3⟩,K1.trans (Ki.up (b0.trans K7)),K7.g x,B' (B' l0 s0) lq⟩
def iU(x:Str):=1<=x.length/\x.length<=8/\∀c∈x.cps.toList,97<=c/\c<=122
theorem MQ:∀c,97<=c->c<=122->x_ (bb c) "abcdefghijklmnopqrstuvwxyz"=true:=by
 have:∀i,i<26->x_ (bb (97+i)) "abcdefghijklmnopqrstuvwxyz"=true:=by decide +kernel
 intro c a b;have:=this (c - 97) (by omega)
 simp_all
def inC:=(cD (m2 (aJ .In) (ae 0) (au (.str "abcdefghijklmnopqrstuvwxyz"))) true (au .non) (cf (ae 0)) 0 [])
def X_:=
 (ag (dP (ew (m1 (jl .str) (ae 0)))
 (ag (bj (au (.bl false)))
 ah)
 ah)
 (ag (bj (gY (pz .LtE .LtE (au (.int 1)) (mN (cb .len) (af (ae 0) aj)) (au (.int 8))) (mN (cb .all) (af inC aj))))
 ah))
def gb(c:aK):=∀b x,iU x->∃a,c [.str x] b=.ok (.bl true) a/\ao [] b a
theorem Rx:gb (aH 1 1 X_):=by
 intro a x h;obtain⟨q,i,e⟩:=h
 have b:=dY (v:=[oS x]) (p:=m2 (aJ .In) (ae 0) (au (.str "abcdefghijklmnopqrstuvwxyz"))) (ξ:=au .non) (H:=true) (D3:=cf (ae 0)) (T:=[]) (g:=λd=>.bl true) rfl rfl (λd _=>rfl) (λd j _=>by
  obtain⟨c,f,rfl⟩:=Î.mp j;have:=MQ c (e c f).1 (e c f).2
  show aJ .In (.str _) (.str _) a=_
  simp_all) (by
  have:x.cps.toList.length=x.length:=by rfl
  grind)
 have k:((x.cps.toList.map λc=>D.str (bb c)).filter λ_=>true).map (λ_=>D.bl true)=(x.cps.toList.map λ_=>true).map .bl:=by
  rw[ŉ.mpr (λ_ _=>rfl),Ý,Ý]
  rfl
 rw[k]at b;refine ay (kA (b)) λl b m n=>?_
 have o:(pz .LtE .LtE (au (.int 1)) (mN (cb .len) (af (ae 0) aj)) (au (.int 8))) [oS x] a=.ok (.bl true) a:=by
  have r:cb .len [.str x] a=.ok (.int x.length) a:=by
   show rZ _ [.str x] a=_
   unfold rZ;simp[bP (fG i)]
  have s:eT .LtE (.int 1) (.int x.length) a=.ok (.bl true) a:=by
   have:decide ((1:Int)<=x.length)=true:=by simp;omega
   simp_all
  have t:eT .LtE (.int x.length) (.int 8) a=.ok (.bl true) a:=by
   have:decide ((x.length:Int)<=8)=true:=by simp;omega
   simp_all
  unfold pz
  simp_all
 exact⟨_,fR ((q0 rfl).trans (qR (aT o (eN (eK b rfl) ((zm n).trans (by simp)))))),m⟩
def dy(P:Nat->Prop)(Ω)(h:Nat)(E)(L:Str->List Str):=
 ∃e l a b,Ω[h]?=some (.ins "House" [("elders",.ref e),("lines",.ref l)])/\cw Ω e a/\a_ P Ω a E/\cw Ω l b/\a_ P Ω b (eW (nms E) L)
theorem dy.keep{Ω av h E P L}(H:dy P Ω h E L)(K:ao [] Ω av):dy P av h E L:=by
 refine cC H λe l a b c d f g i=>⟨e,l,_,_,K.get _ _ c (by simp),d.keep K (by simp),f.keep K (by simp),g.keep K (by simp),i.keep K (by simp)⟩
theorem dy.imp{Ω h E P P' L}(H:dy P Ω h E L)(a:∀j,P j->P' j):dy P' Ω h E L:=by
 refine cC H λe l b c d f g i k=>⟨e,l,_,_,d,f,g.imp a,i,k.imp a⟩
theorem dy.lt{Ω h E P L}(H:dy P Ω h E L):dy (λj=>P j/\j<Ω.length) Ω h E L:=by
 refine cC H λe l a b c d f g i=>⟨e,l,_,_,c,d,f.lt,g,i.lt⟩
theorem dy.Ry(H:dy R0 a w Q0 M3)(K:ao [b] a y)(c:a[b]?=some (.lst q))(o:¬ R0 b):dy R0 y w Q0 M3:=by
 refine cC H λe l h i k d m f n=>?_
 have g:∀j∈[b],¬ R0 j:=λj p=>by simp_all
 exact⟨e,l,_,_,K.get _ _ k (by simpa using (λz=>by simp_all)),d.keep K (by simpa using (λz=>d.nl _ (z▸c))),m.keep K g,f.keep K (by simpa using (λz=>f.nl _ (z▸c))),n.keep K g⟩
def fe:=(m1 (bf ["House"] "elders") (ae 0))
def fl':=(m1 (bf ["House"] "lines") (ae 0))
variable{ζ:Nat}
theorem Ko(c:a[w]?=some (.ins "House" [("elders",.ref b),("lines",.ref ζ)])):bf ["House"] "elders" (.ref w) a=.ok (.ref b) a:=sN c rfl rfl
def VB:=(ag (bj (mN (cb .list) (af fe aj))) ah)
def EK(c:aK):=∀b h E L P,dy P b h E L->∃k a,c [.ref h] b=.ok (.ref k) a/\a[k]?=some (.lst ((nms E).map .str))/\ao [] b a/\b.length<=k
theorem Rz:EK (aH 1 1 VB):=by
 intro a h E L P H;refine cC H λe l c d f g i j k=>?_
 rw[eG (by rfl)]
 have m:cS 1 [D.ref h]=[oR h]:=rfl;have b:=jv g;rw[i.keys]at b;refine⟨_,a++[.lst _],?_,aN,ao.app,O' _⟩
 have:(mN (cb .list) (af fe aj)) [oR h] a=.ok (.ref a.length) (a++[.lst ((nms E).map .str)]):=by
  show(((bf _ _ _ a).bind _).bind _)=_
  rwa[Ko f]
 unfold VB
 simp_all
variable{u0:AM}
theorem MR(H:dy R0 a b Q0 M3)(i:v[w]?=some (oR b))(j:([("elders",D.ref 0),("lines",D.ref 0)]:List (Str×D)).lookup h=none):aI "House" h C (ae w) u0 v a=(u0 v a).bind λxs c=>Mj (C (.ref b::xs) c):=by
 refine cC H λe l d f g k m n o=>?_
 refine sP (by simp_all) g ?_
 simp_all
def VC(a):=
 (ag (dP (m2 (aJ .NotIn) (ae 1) (aI "House" "kinds" a (ae 0) aj))
 (ag bF
 ah)
 ah)
 ah)
def iv(c:aK):=∀b h E L P n,dy P b h E L->n∈nms E->∃a,c [.ref h,.str n] b=.ok .non a/\ao [] b a
theorem RA(c:EK C):iv (aH 2 2 (VC C)):=by
 intro b h E L P n H g;rw[eG (by rfl)]
 have i:cS 2 [D.ref h,.str n]=[oR h,oS n]:=rfl;refine bQ (c b h E L P H) λk a d e j _=>?_
 have l:aI "House" "kinds" C (ae 0) aj [oR h,oS n] b=.ok (.ref k) a:=by
  rw[MR H rfl (by decide),sF,eA,d,Mz]
 have f:=mP (h:=n) e;unfold VC
 simp_all
def ceB(a):=(ag (cA (aI "House" "check_kind" a (ae 0) (af (ae 3) aj)))
 (ag (dP (m2 (aJ .In) (ae 3) (fJ (ae 1) true (au .non) false (ae 2)))
 (ag bF
 ah)
 ah)
 ah))
def Ya(a):=
 (ag (dP (m2 (aJ .Gt) (mN (cb .len) (af (ae 1) aj)) (au (.int 5)))
 (ag bF
 ah)
 ah)
 (ag (dw (dQ [2,3]) (sm (ae 1))
 (ceB a))
 ah))
def MS(CE:aK):=∀b h a,b[a]?=some (.lst [])->CE [.ref h,.ref a] b=.ok .non b
theorem RB:MS (aH 4 2 (Ya C)):=by
 intro d h a b
 obtain⟨_,_,e,rfl,rfl⟩:=Bs (a:=d) (D3:=sm (ae 1)) (j6:=.Xx (.ref a)) (q:=[]) (λ_ f c=>f=[oR h,oR a,none,none]/\c=d) (by unfold sm;simp[aV b]) (λ⟨_,z⟩=>by
  rw[z]
  show(iT _ (.ref a)).map _=_
  rw[bI,aV b];rfl) (by simp) ⟨rfl,rfl⟩ (by simp)
 exact fZ ((q0 (eQ (eN rfl (gO b)) rfl rfl)).trans (e _))
def vt(P:Nat->Prop)(Ω)(h e l:Nat)(E)(L:Str->List Str):=
 ∃a b,Ω[h]?=some (.ins "House" [("elders",.ref e),("lines",.ref l)])/\Ω[e]?=some (.dK a)/\a_ P Ω a E/\Ω[l]?=some (.dK b)/\a_ P Ω b (eW (nms E) L)
theorem vt.at(H:vt R0 a w b ζ Q0 M3):dy R0 a w Q0 M3:=bg (H) λc d e f g h i=>⟨b,ζ,c,d,e,.inl f,g,.inl h,i⟩
theorem vt.keep{Ω av e h E P fp L l}(H:vt P Ω h e l E L)(K:ao fp Ω av)(i:h∉fp)(k:e∉fp)(m:l∉fp)(g:∀j∈fp,¬ P j):vt P av h e l E L:=
 let ⟨n,_,a,b,c,d,f⟩:=H
 ⟨_,_,K.get _ _ a i,K.get _ _ b k,c.keep K g,K.get _ _ d m,f.keep K g⟩
theorem vt.imp{Ω e h E P P' L l}(H:vt P Ω h e l E L)(a:∀j,P j->P' j):vt P' Ω h e l E L:=
 let ⟨b,c,d,f,g,i,k⟩:=H
 ⟨_,_,d,f,g.imp a,i,k.imp a⟩
def Yb:=
 (ag (cM ["House"] "elders" (ae 0) ck)
 (ag (cM ["House"] "lines" (ae 0) ck)
 ah))
abbrev hsC(n:Nat):az:=[.ins "House" [("elders",.ref (n+1)),("lines",.ref (n+2))],.dK [],.dK []]
def Bf(b):=∀{a},ey "House" b [] a=.ok (.ref a.length) (a++hsC a.length)
theorem RC:Bf (aH 1 1 Yb):=nZ ((qS Rh rfl aN cp).trans (qS Rh rfl aN cp))
theorem EL(h:a.length<=b):(cG a y)[b]?=y[b]?:=by
 unfold cG;rw[ĳ,Ģ h];cases y[b]? with
 |none=>rfl
 |some c=>cases c<;>rfl
theorem cB(h:y[b]?=some F3)(c:∀kvs,F3≠.dF kvs):(cG a y)[b]?=some F3:=by
 unfold cG;rw[ĳ,h];cases F3
 case dF kvs=>simp_all
 all_goals rfl
theorem Bg(e:a.length<=y.length)(d:∀(k:Nat) c,a[k]?=some c->y[k]?=some c\/∃kvs,c=Cell.dK kvs/\y[k]?=some (.dF kvs)):ao [] a (cG a y):=⟨by unfold cG;simp_all,λk c h _=>by
 unfold cG;rw[ĳ,h];rcases d k c h with b|⟨kvs,rfl,b⟩
 .rw[b];cases c<;>rfl
 .rw[b];rfl⟩
theorem lj(R:a_ R0 y Y Q0):a_ R0 (cG a y) Y Q0:=aE.imp (by rintro _ _ ⟨e,j,b,c,d⟩;exact⟨e,j,b,c,cB d (by simp)⟩) R
def Yc(f:aK):=∀b e c E P L,b[e]?=some (.dK c)->a_ P b c E->Gd E->(∀n∈nms E,L n=[n]) ->
 ∃l d a,f [.ref e] b=.ok (.ref l) a/\a[l]?=some (.dK d)/\a_ (λj=>b.length<=j) a d (eW (nms E) L)/\ao [] b a/\b.length<=l
theorem IX(h:Ru C):Yc (fC C):=by
 intro d e f E P L g i G j;refine iC (h d e _ E P L (.inl g) i G j) λl m n o q a K r b=>?_
 refine⟨l,_,_,by unfold fC;rw[o],by rwa[EL b],lj a,Bg K.len λk c p=>?_,b⟩
 by_cases z:k=e
 .simp_all
 .exact .inl (K.get _ _ p (by simp_all))
def Yd(a):=
 (ag (aR 2 (mN (bw a) (af (ae 1) aj)))
 (ag (cM ["House"] "elders" (ae 0) (ae 1))
 (ag (cM ["House"] "lines" (ae 0) (ae 2))
 ah)))
def EN(d:aK):=∀a h e f g c E P L,a[h]?=some (.ins "House" [("elders",.ref f),("lines",.ref g)])->a[e]?=some (.dK c)->a_ P a c E->Gd E->(∀n∈nms E,L n=[n])->(∀j,a.length<=j->P j) ->
 ∃l b,d [.ref h,.ref e] a=.ok .non b/\vt P b h e l E L/\ao [h] a b/\a.length<=l
theorem RD(t:Yc C):EN (aH 3 2 (Yd C)):=by
 intro u h e w S x E P L y n o G z A;refine bO (t u e _ E P L n o G z) λl B f D p i k=>xa k λc F=>?_
 have d:=c.g y;have b:=c.g n;have H:=ed d b;have I:=ed d p;refine ay (fS (m:=.ref e) rfl d "elders") λJ K M q=>?_
 refine ay (fS (m:=.ref l) rfl q "lines") λN O Q R=>?_
 have a:=M.trans Q;have r:∀j∈[h],∀s,f[j]?≠some (.lst s):=λj T s=>by simp_all
 exact⟨l,_,fZ ((qA (eC rfl D)).trans ((qS rfl rfl d K).trans (qS rfl rfl q O))),⟨_,_,R,a.g b,(o.keep c (by simp)).eB a r,a.g p,(i.imp A).eB a r⟩,c.tr a,F⟩
def adE:=(mN nW (af (ae 0) (af (DA (m2 (aJ .Eq) (ae 0) (ae 2)) (mN (cb .list) (af (ae 1) aj)) (m2 bc (m1 (bf ["House"] "elders") (ae 3)) (ae 0))) aj)))
def adD:=(mN uz (af (cD adE true (au .non) (cf (ae 4)) 0 [2,1,0]) aj))
def adI:=(dH sg iI (ae 4) (af (DA (m2 (aJ .Is) (ae 3) (au .non)) (mN (cb .len) (af (ae 4) aj)) (ae 3)) (af (ae 1) aj)))
def Ye(a CE b c):=
 (ag (dP (ew (mN (bw a) (af (ae 1) aj)))
 (ag bF
 ah)
 ah)
 (ag (dP (m2 (aJ .In) (ae 1) fe)
 (ag bF
 ah)
 ah)
 (ag (dP (m2 (aJ .GtE) (mN (cb .len) (af fe aj)) (au (.int 12)))
 (ag bF
 ah)
 ah)
 (ag (cA (aI "House" "check_elders" CE (ae 0) (af (ae 2) aj)))
 (ag (aR 4 (aI "House" "kinds" b (ae 0) aj))
 (ag (cA adI)
 (ag (cA (aI "House" "settle" c (ae 0) (af adD aj)))
 ah)))))))
theorem EO{α xs}{x:α}:rJ xs xs.length x=xs++[x]:=by
 have:HT.jG xs.length 0 (some (xs.length))=xs.length:=by
  unfold HT.jG;simp
  grind
 unfold rJ
 simp_all
variable{D2:aw D}{w6 ξ:EM}
theorem eIF(h:p v a=.ok (.bl false) y)(h':w6 v y=D2):DA p ξ w6 v a=D2:=by simp_all
theorem Yf(h:p v a=.ok (.bl true) y)(h':ξ v y=D2):DA p ξ w6 v a=D2:=by simp_all
theorem MT(H:dy R0 a b Q0 M3)(ha:a[w]?=some (.lst (l.map .str)))(hk:a[ζ]?=some (.lst ((nms Q0++[h]).map .str)))(hn:h∉nms Q0)(L:(nms Q0).Nodup)(hl:Q0.length<=100)(hP:∀j,a.length<=j->R0 j):
  ∃q m av,adD [oR b,oS h,oR w,E2,oR ζ] a=.ok (.ref q) av/\av[q]?=some (.dK m)/\a_ R0 av m (Q0++[(h,l)])/\ao [] a av/\a.length<=q:=by
 have M:nms (Q0++[(h,l)])=nms Q0++[h]:=by simp[nms]
 refine cg (mQ (v:=[oR b,oS h,oR w,E2,oR ζ]) (p:=adE) (ξ:=au .non) (T:=[2,1,0]) (q:=(nms Q0++[h]).map .str) (λi n c=>∃k:List (Str×D),n=k.map (λp=>.tup [.str p.1,p.2])/\a_ R0 c (k.map λp=>(.inr p.1,p.2)) ((Q0++[(h,l)]).take i)/\ao [] a c) (sr (p:=ae 4) rfl hk) ⟨[],rfl,.nil,ao.refl⟩
  (λi n c b=>by
   refine ay b λ_ _ _ K=>?_
   rw[ej,bI,aV (K.g hk)])
  (λi d n c N hI=>by
   obtain⟨k,rfl,u,K⟩:=hI;obtain⟨x,A,rfl⟩:=lg N;refine cC (H.keep K) λe O m a0 q1 q2 q3 q4 q5=>?_
   have B:∀(p:Str×List Str) (j:Nat) (f:az),(Q0++[(h,l)])[i]?=some p->p.1=x->R0 j->f[j]?=some (.lst (p.2.map .str))->ao [] c f->∃C:List (Str×D),(k.map (λp=>D.tup [.str p.1,p.2])++[.tup [.str x,.ref j]])=C.map (λp=>.tup [.str p.1,p.2])/\a_ R0 f (C.map λp=>(.inr p.1,p.2)) ((Q0++[(h,l)]).take (i+1))/\ao [] a f:=by
    intro p j f hp P o I K3;refine⟨k++[(x,.ref j)],by simp,?_,K.trans K3⟩
    rw[Ĵ,hp,ı];exact aE.append (u.keep K3 (by simp)) (.cons ⟨by rw[P],j,rfl,o,I⟩ .nil)
   have J:(m2 (aJ .Eq) (ae 0) (ae 2)) [oS x,oR w,oS h,oR b] c=.ok (.bl (decide (x=h))) c:=rfl;have hi:=(Ì.mp A).1;rw[ϒ]at hi;simp only[nms,Þ,List.length_singleton]at hi
   by_cases r:i<Q0.length
   .have s:(nms Q0)[i]?=some x:=by rw[ê (by simp[nms];exact r)]at A;exact A
    have t:x∈nms Q0:=Ë s;rw[decide_eq_false λz:x=h=>hn (z▸t)]at J
    have E:ju Q0 x=Q0[i].2:=by
     have hm:(x,ju Q0 x)∈Q0:=zl (oH t);obtain⟨i',F⟩:=ċ.mp hm;have Q:(nms Q0)[i']?=some x:=by simp[nms,F]
     have R:=(Ì.mp F).1;have:=(ab0 (by simp[nms];exact R) L).mp (Q.trans s.symm)
     simp_all
    refine ay (q3.at t) λj hv o I=>?_
    rw[E]at I;exact⟨_,c,eN (eK rfl (eK (eIF J (eQ (eF rfl q1) rfl (fV q2 hv))) rfl)) rfl,B Q0[i] j c (by rw[ê r];simp) (by simpa[nms,r]using s) o I ao.refl⟩
   .have S:i=Q0.length:=by omega
    subst S
    have U:x=h:=by
     simp[nms]at A;exact A.symm
    subst U;rw[decide_eq_true rfl]at J;exact⟨_,_,eN (eK rfl (eK (Yf J (eN rfl (iP (K.g ha)))) rfl)) rfl,B (x,l) c.length _ (by simp) rfl (hP _ K.len) aN ao.app⟩) (by simp[nms];exact fG hl)) λys V Q X=>ay X λk Y u K1=>?_;subst Y
 have G:((nms Q0++[h]).map D.str).length=(Q0++[(h,l)]).length:=by simp[nms]
 rw[G,ť]at u
 have b0:k.map (·.1)=nms Q0++[h]:=by
  have:=u.keys;rw[M,Ý]at this
  have h2:(k.map (D.str ∘ (·.1)))=(nms Q0++[h]).map D.str:=by
   rw[←this];rfl
  rw[←Ý]at h2;exact(acb (λw Z z=>by cases z;rfl)).mp h2
 have K2:=K1.trans (ao.app (T:=[]) (a:=V) (y:=[Cell.lst (k.map λp=>.tup [.str p.1,p.2])]))
 exact⟨_,_,_,dpk Q aN (by grind),aN,(u.keep (fp:=[]) ao.app (by simp)).keep (fp:=[]) ao.app (by simp),K2.trans ao.app,K2.len⟩
def sS(f:aK):=∀c h a E L d P n,dy P c h E L->c[a]?=some (.lst [])->iU n->n∉nms E->E.length<12 ->
 Gd (E++[(n,[])])->(∀m∈nms (E++[(n,[])]),d m=[m])->(∀j,c.length<=j->P j)->∃e l b,f [.ref h,.str n,.ref a,.non] c=.ok .non b/\vt P b h e l (E++[(n,[])]) d/\ao [h] c b/\c.length<=e/\e<l
theorem RE(S:gb C)(T:MS Ξ)(U:EK y3)(V:EN S5):sS (aH 5 4 (Ye C Ξ y3 S5)):=by
 intro X h a E L Y P n H Z hv I o G hL J;have s:nms (E++[(n,[])])=nms E++[n]:=by simp[nms]
 refine bx (S X n hv) λt e1 p=>?_
 have u:=H.keep p;have b:=p.g Z;refine bQ (U _ h E L P u) λk f e3 i w K=>?_
 have H3:dy (λj=>P j/\j≠k) _ h E L:=(u.lt.keep w).imp (by grind)
 have a0:=U' (M' (aX b) K)
 have x:iI (.ref k) [.int ((nms E).map D.str).length,.str n] f=.ok .non (f.set k (.lst ((nms E++[n]).map .str))):=by
  simp only[iI,ko i];rw[if_pos,EO]
  .simp
  .rw[bP (by simp[nms];exact Bo o),iE (ĵ _) (by simp[nms];exact Oq o)];rfl
 refine ay (kO x i) λb0 e4 y g4=>?_
 have z:=(H3.Ry y i (by simp)).imp λj c=>c.1
 have d:=ao.new (p.trans w) y (λj c=>by
  rw[è.mp c];exact B' p.len K)
 refine bO (MT (l:=[]) (E2:=some .non) z (y.g (w.g b)) g4 I ((ā.mp (s▸G.nd)).1) (Bo o) (λj c=>J j (B' d.len c))) λq c0 d0 e5 M h5 A=>xa A λN l5=>?_
 refine cC (z.keep N) λe l _ _ q1 _ _ _ _=>?_
 have m:=d.trans N;refine bQ (V _ h q e l _ _ P Y q1 M h5 G hL (λj c=>J j (B' m.len c))) λl' e0 e6 H6 K6 l6=>?_
 have B:=aX M;refine cC u λ_ _ O _ r Q R _ _=>?_
 refine cC z λ_ _ _ _ t1 _ _ _ _=>?_
 have F:=R.len;exact⟨q,l',_,fZ ((q0 (nT (eC rfl e1))).trans ((q0 (eQ rfl (eF rfl r) (by rw[EG Q,R.is,decide_eq_false I]))).trans ((q0 (eQ (eN (eK (eF rfl r) rfl) (zk Q)) rfl (Vo (by simp;exact Oq (Ø (R' F.symm) o))))).trans ((qE (eM rfl r rfl (T t h a b))).trans ((qA (eM rfl r rfl e3)).trans ((qE (eL rfl (eK (Yf rfl (eN rfl (gO i))) rfl) (gP i) e4)).trans (qE (eM rfl t1 (eK e5 rfl) e6)))))))),H6,m.tr K6,B' d.len l5,M' B l6⟩
theorem IY:∃e,jX e (pureOf (aH 8 3 qG)):=by
 have h:∀c t m:Int,∃r,0<=t->t<100000->0<m->0<=r/\r<m/\pureOf _ _=.ok _:=λc t m=>by
  by_cases d:0<=t/\t<100000/\0<m
  .refine ay (IQ (J:=c) d.1 d.2.1 d.2.2) λr f g i=>⟨r,λ_ _ _=>⟨f,g,i⟩⟩
  .exact⟨0,λa b c=>absurd ⟨a,b,c⟩ d⟩
 exact⟨_,λc t m=>(h c t m).choose_spec⟩
def oM:=
 (ag (dP (m2 (aJ .Lt) (ae 1) (mN (cb .len) (af (ae 0) aj)))
 (ag (bj (m2 bc (ae 0) (ae 1)))
 ah)
 ah)
 (ag (bj (au (.int 0)))
 ah))
theorem RF(a):Ri (SC a)=true:=by
 show(a.map _).all _=true
 rw[Ĕ];intro d b;obtain⟨i,_,rfl⟩:=Î.mp b;rfl
theorem ER:jk (λb k=>b.getD k 0) (pureOf (aH 2 2 oM)):=by
 intro b k;have f:cS 2 [SC b,D.int k]=[some _,some _]:=rfl
 have c:cb .len [SC b] []=.ok (.int b.length) []:=by
  show aw.ok _ []=_
  simp_all
 refine qF (a:=[]) (by
  simp only[Ţ,RF,List.all_nil];rfl) ?_ rfl
 rw[eG (by rfl),f]
 by_cases h:k<b.length
 .have d:=by omega
  have e:L2.jH (b.map D.int) (k)=some (.int (b.getD k 0)):=L2.dB (by simp[h])
  have g:bc (SC b) (.int k) []=.ok (.int (b.getD k 0)) []:=by
   show lZ (ixs [] (some _) (.int k)) _=_
   rw[wM e];rfl
  simp[oM,c,d,g,-List.getD_eq_getElem?_getD]
 .have d:=by omega
  have e:b.getD k 0=0:=by simp_all
  show _=aw.ok (D.int (b.getD k 0)) []
  simp[oM,c,d]
noncomputable def tS(a:List Str):D:=.tup (a.map .str)
noncomputable def kS(a:List Str):List Key:=a.map ĕ
theorem ES(h:kS l=kS M0):l=M0:=acb (λx y e=>by grind) |>.mp h
def nums(i:Nat):List (List Str)->List (List Key×D)
 |[]=>[]
 |r::L=>(kS r,.int i)::nums (i+1) L
theorem sT(a):qr (tS a)=some (kS a):=jr (f:=kb) (λ_=>rfl) _
theorem vc:∀L i r,nums i (L++[r])=nums i L++[(kS r,.int (i+L.length:Nat))]
 |[],i,r=>by simp[nums]
 |a::L,i,r=>by
  rw[afV,nums,vc L _ r,nums]
  grind
theorem oN:∀L i r,a9 (nums i L) (kS r)=if r∈L then some (.int (i+L.idxOf r:Nat))else none
 |[],i,r=>by rfl
 |a::L,i,r=>by
  by_cases e:a=r
  .subst e
   simp[nums,a9,Ē]
  .have b:¬ kS a=kS r:=λh=>e (ES h)
   have c:a9 (nums i (a::L)) (kS r)=a9 (nums (i+1) L) (kS r):=by simp[nums,a9,Ē,b]
   rw[c,oN L _ r]
   grind
theorem ET(L i r)(h:r∉L):((nums i L).any λb=>decide (b.1=kS r))=false:=by
 induction L generalizing i with
 |nil=>rfl
 |cons a L c=>
  rw[nums,ĝ,c _ (λz=>h (by simp[z]))]
  have d:¬ kS a=kS r:=λz=>(λz=>h (by simp[z])) (ES z)
  simp[d]
theorem EU(L i):(nums i L).length=L.length:=by
 induction L generalizing i with
 |nil=>rfl
 |cons a L b=>simp[nums,b]
structure Sh(Ω:az)(s r m:Nat)(L:List (List Str)):Prop where
 ob:Ω[s]?=some (.ins "Shapes" [("rows",.ref r),("numbers",.ref m)])
 ro:Ω[r]?=some (.lst (L.map tS))
 nu:Ω[m]?=some (.dT (nums 0 L))
variable{E:List (List Str)}
theorem Sh.ne(S:Sh a b w ζ E):b≠w/\b≠ζ/\w≠ζ:=by
 refine⟨λe=>?_,λe=>?_,λe=>?_⟩
 .have h:=S.ob;rw[e,S.ro]at h;cases h
 .have h:=S.ob;rw[e,S.nu]at h;cases h
 .have h:=S.ro;rw[e,S.nu]at h;cases h
theorem Sh.keep(S:Sh a b w ζ E){fp}(K:ao fp a y)(c:b∉fp:=by simp<;>omega)(d:w∉fp:=by simp<;>omega)(e:ζ∉fp:=by simp<;>omega):Sh y b w ζ E:=⟨K.get _ _ S.ob c,K.get _ _ S.ro d,K.get _ _ S.nu e⟩
noncomputable def de(L)(a:List Str):=if a∈L then L else L++[a]
def Yg:=
 (ag (aR 2 (mN (cb .tuple) (af (ae 1) aj)))
 (ag (dP (m2 (aJ .NotIn) (ae 2) (m1 (bf ["Shapes"] "numbers") (ae 0)))
 (ag (fA (m1 (bf ["Shapes"] "numbers") (ae 0)) (ae 2) (mN (cb .len) (af (m1 (bf ["Shapes"] "rows") (ae 0)) aj)))
 (ag (cA (dH sg dU (m1 (bf ["Shapes"] "rows") (ae 0)) (af (ae 2) aj)))
 ah))
 ah)
 (ag (bj (m2 bc (m1 (bf ["Shapes"] "numbers") (ae 0)) (ae 2)))
 ah)))
theorem Kp{j:Nat}(h:a[b]?=some (.dT (nums 0 E)))(d:l∈E):bc (.ref b) (tS l) a=.ok (.int (E.idxOf l)) a:=by
 have c:=Ex h (sT l);rw[oN,if_pos d,adC]at c;unfold bc;rw[fT,fT,kr];simp only[Hn,c,bI,cR,h];rfl
def IZ(d:aK):=∀b s r m k L c,Sh b s r m L->b[k]?=some (.lst (c.map .str))->L.length<=500->∃a,d [.ref s,.ref k] b=.ok (.int ((de L c).idxOf c)) a/\Sh a s r m (de L c)/\ao [r,m] b a
theorem RG:IZ (aH 3 2 Yg):=by
 intro b s r m k L a S x y;refine kH S.ne λE F G=>?_
 have q:=Bc x;have c:=Ex S.nu (sT a);rw[oN]at c;have u:∀{t},kX true (tS a) (.ref m) b=.ok (.bl t) b->aJ .NotIn (tS a) (.ref m) b=.ok (.bl t) b:=λh=>by simp[(MC S.nu),(y_ sL),h,v2]
 unfold de
 by_cases l:a∈L
 .rw[if_pos l]at c ⊢
  exact⟨b,fR ((qA (eN rfl q)).trans ((q0 (eQ rfl (eF rfl S.ob) (u (by simp only[kX,c];rfl)))).trans (qR (eQ (eF rfl S.ob) rfl (Kp (j:=0) S.nu l))))),S,ao.refl⟩
 .rw[if_neg l]at c ⊢
  have d:dG (nums 0 L) (kS a) (.int ((L.map tS).length))=nums 0 (L++[a]):=by
   unfold dG;rw[ET L 0 a l,vc];simp
  refine ay (kD (o:=gU (.ref m) (tS a) (.int ((L.map tS).length)) b) (by
   simp only[gU,S.nu,sT,d];rw[if_pos (bP (by rw[EU];omega))]) S.nu) λz A n B=>?_
  have e:=n.g S.ob;have f:=n.g S.ro;refine ay (aL (tS a) f (by simp;exact fG y)) λC D p H=>?_
  have i:=p.g B;have w:Sh _ s r m _:=⟨p.g e,by simp_all,i⟩
  exact⟨_,fR ((qA (eN rfl q)).trans ((qT (eQ rfl (eF rfl S.ob) (u (by simp only[kX,c];rfl)))).trans ((qN ((qD (eN (eK (eF rfl S.ob) rfl) (gO S.ro)) (eF rfl S.ob) rfl A).trans (qE (eL (eF rfl e) rfl (gP f) D)))).trans (qR (eQ (eF rfl w.ob) rfl (Kp (j:=0) i (by simp))))))),w,(n.s).trans p.s⟩
def Yh:=
 (ag (bj (mN (cb .list) (af (m2 bc (m1 (bf ["Shapes"] "rows") (ae 0)) (ae 1)) aj)))
 ah)
def kz(c:aK):=∀b (s r m i:Nat) L a,Sh b s r m L->L[i]?=some a->c [.ref s,.int i] b=.ok (.ref b.length) (b++[.lst (a.map .str)])
theorem RH:kz (aH 2 2 Yh):=by
 intro c s r m i L a S b;exact fR (qR (eN (eK (eQ (eF rfl S.ob) rfl (aY S.ro (L2.dB (v:=tS _) (by simp[b])))) rfl) rfl))
theorem EV:l∈de E l:=by
 unfold de
 grind
theorem EW:(de E l).length<=E.length+1:=by
 unfold de;split<;>simp
theorem zr(h:E.Nodup):(de E l).Nodup:=by
 unfold de
 grind
theorem iw(h:E[b]?=some M0):(de E l)[b]?=some M0:=by
 unfold de;split
 .exact h
 .rwa[ê (Ì.mp h).1]
theorem vd:(de E l)[(de E l).idxOf l]?=some l:=by
 have h:=acd (EV (E:=E) (l:=l))
 simp_all
def Yi(a b):=
 (ag (bj (aI "Shapes" "number_of" a (ae 0) (af (m2 (bh .Add) (aI "Shapes" "words_of" b (ae 0) (af (ae 1) aj)) (mN cz (af (ae 2) aj))) aj)))
 ah)
def iV(d:aK):=∀c (s r m i:Nat) L a w,Sh c s r m L->L[i]?=some a->a.length<=1000->L.length<=500->∃b,d [.ref s,.int i,.str w] c=.ok (.int ((de L (a++[w])).idxOf (a++[w]))) b/\Sh b s r m (de L (a++[w]))/\ao [r,m] c b
theorem RI(f:IZ C)(h:kz Ξ):iV (aH 3 3 (Yi C Ξ)):=by
 intro j s r m i L b w S k l n;refine ay (kA (h j s r m i L _ S k)) λc o p t=>?_
 refine ay (kA (lN (q:=[.str w]) (a:=c))) λu x e y=>?_
 refine ay (kA (ky (e.g t) y (by simp;exact fG l))) λz A B G=>?_
 have K:=(p.trans e).trans B;refine ay (f _ s r m _ L (b++[w]) (S.keep K) (by simp_all) n) λd D E F=>⟨d,fR (qR (eM rfl S.ob (eK (eQ (eM rfl S.ob rfl o) (eN rfl x) A) rfl) D)),E,K.tr F⟩
noncomputable def kB(a:List Str)(w):=a.filter λx=>decide (x≠w)
theorem qI{w}:∀b,(b.map D.str).filter (λd=>!eJ d (.str w))=(kB b w).map .str
 |[]=>rfl
 |a::b=>by
  have e:(!eJ (.str a) (.str w))=decide (a≠w):=by
   by_cases h:a=w<;>simp[h]
  have c:=qI (w:=w) b;unfold kB at c ⊢
  grind
theorem MU(c:D3 v a=.ok j6 y)(e:dr j6 y=some (l.map .str))(f:eU [b] v=[some (.str h)])(i:l.length<=1000):cD (ae 0) false (m2 (aJ .NotEq) (ae 0) (ae 1)) D3 0 [b] v a=.ok (.ref y.length) (y++[.lst ((kB l h).map .str)]):=by
 have:=dY (p:=ae 0) (H:=false) (ξ:=m2 (aJ .NotEq) (ae 0) (ae 1)) (oC:=λd=>!eJ d (.str h)) (g:=id) c e (by
   intro d j;obtain⟨z,k,rfl⟩:=Î.mp j;rw[f];simp[ki]) (by
   simp) (by simp;exact fG i)
 rw[this,ab',qI]
def Yj(a b):=
 (ag (bj (aI "Shapes" "number_of" a (ae 0) (af (cD (ae 0) false (m2 (aJ .NotEq) (ae 0) (ae 1)) (cf (aI "Shapes" "words_of" b (ae 0) (af (ae 1) aj))) 0 [2]) aj)))
 ah)
def jw(d:aK):=∀c (s r m i:Nat) L a w,Sh c s r m L->L[i]?=some a->a.length<=1000->L.length<=500->∃b,d [.ref s,.int i,.str w] c=.ok (.int ((de L (kB a w)).idxOf (kB a w))) b/\Sh b s r m (de L (kB a w))/\ao [r,m] c b
theorem RJ(d:IZ C)(e:kz Ξ):jw (aH 3 3 (Yj C Ξ)):=by
 intro f s r m i L g w S h j k;refine ay (kA (e f s r m i L _ S h)) λl n o c=>?_
 refine ay (kA (MU (v:=[oR s,oI i,oS w]) (b:=2) (sr (eM (p:=ae 0) (u0:=af (ae 1) aj) (B:="words_of") rfl S.ob rfl n) c) (by rw[ej,bI,aV c]) rfl j)) λq t u x=>?_
 have K:=o.trans u;refine ay (d _ s r m _ L _ (S.keep K) x k) λa y z A=>⟨a,fR (qR (eM rfl S.ob (eK t rfl) y)),z,K.tr A⟩
noncomputable def oO(a:List Str)(w:Str):D:=if w∈a then .int (a.idxOf w)else .non
def Yk(a):=
 (ag (aR 3 (aI "Shapes" "words_of" a (ae 0) (af (ae 1) aj)))
 (ag (bj (DA (m2 (aJ .In) (ae 2) (ae 3)) (d8 (dH sg ip (ae 3) (af (ae 2) aj)) (dH wB oq (ae 3) (af (ae 2) aj))) (au .non)))
 ah))
def eH(d:aK):=∀c (s r m i:Nat) L a w,Sh c s r m L->L[i]?=some a->∃b,d [.ref s,.int i,.str w] c=.ok (oO a w) b/\ao [] c b
theorem RK(f:kz C):eH (aH 4 3 (Yk C)):=by
 intro g s r m i L b w S j;refine ay (kA (f g s r m i L _ S j)) λk d e c=>?_
 have a:=wO (h:=w) c;unfold oO
 by_cases h:w∈b
 .rw[decide_eq_true h]at a
  rw[if_pos h];exact⟨_,fR ((qA (eM rfl S.ob rfl d)).trans (qR (Yf (eQ rfl rfl a) (al (eL rfl rfl (gP c) (Bd c h)))))),e⟩
 .rw[decide_eq_false h]at a
  rw[if_neg h];exact⟨_,fR ((qA (eM rfl S.ob rfl d)).trans (qR (eIF (eQ rfl rfl a) rfl))),e⟩
structure Tn(Ω:az)(T t s r m d:Nat)(kvs:List (Key×D))(L:List (List Str)):Prop where
 ob:Ω[T]?=some (.ins "Things" [("town",.ref t),("shapes",.ref s),("made",.ref d)])
 dk:Ω[d]?=some (.dK kvs)
 sh:Sh Ω s r m L
 nd:L.Nodup
 lt:T<s/\s<r/\r<m/\m<d
abbrev cx(v:List (Str×Int)):=v.map (·.1)
abbrev MV(v:List (Str×Int)):List D:=v.map λp=>.int p.2
structure Tg(Ω:az)(d c l i:Nat)(k:Str)(v:List (Str×Int))(L:List (List Str)):Prop where
 ob:Ω[c]?=some (.ins "Thing" [("kind",.str k),("shape",.int i),("slots",.ref l)])
 sl:Ω[l]?=some (.lst (MV v))
 wd:L[i]?=some (cx v)
 nd:(cx v).Nodup
 le:v.length<=12
 lt:d<c/\c<l
theorem Tn.keep{Ω av T t s r m d L kvs fp}(W:Tn Ω T t s r m d kvs L)(K:ao fp Ω av)(h:∀j∈fp,d<j:=by simp<;>omega):Tn av T t s r m d kvs L:=by
 have z:=W.lt;have q:∀j,j<=d->j∉fp:=λj a b=>by grind
 exact⟨K.get _ _ W.ob (by grind),K.get _ _ W.dk (q _ (O' _)),W.sh.keep K (q _ (ß (Â (Â z.2.1 z.2.2.1) z.2.2.2))) (q _ (ß (Â z.2.2.1 z.2.2.2))) (q _ (ß z.2.2.2)),W.nd,W.lt⟩
variable{A0 B1 E1:Nat}
def Tn.aU(W:Tn a b w ζ A0 B1 E1 Y E)(K:ao [] a y):=W.keep K (by simp)
variable{v4:List (Str×Int)}
theorem Tg.keep{fp}(W:Tg a b w ζ A0 h v4 E)(K:ao fp a y)(c:w∉fp:=by simp<;>omega)(d:ζ∉fp:=by simp<;>omega):Tg y b w ζ A0 h v4 E:=⟨K.get _ _ W.ob c,K.get _ _ W.sl d,W.wd,W.nd,W.le,W.lt⟩
def Tg.aU(W:Tg a b w ζ A0 h v4 E)(K:ao [] a y):=W.keep K (by simp) (by simp)
theorem EX(W:Tn a b w ζ A0 B1 E1 Y E):bf ["Things"] "made" (.ref b) a=.ok (.ref E1) a:=sN W.ob rfl rfl
variable{o4:Nat}
theorem MW(W:Tn a b w ζ A0 B1 E1 Y E)(d:v[o4]?=some (oR b))(e:([("town",D.ref 0),("shapes",D.ref 0),("made",D.ref 0)]:List (Str×D)).lookup h=none):aI "Things" h C (ae o4) u0 v a=(u0 v a).bind λxs c=>Mj (C (.ref b::xs) c):=by
 refine sP (by simp_all) W.ob ?_
 simp_all
def VD:=
 (ag (dP (m2 (aJ .NotIn) (ae 1) (m1 (bf ["Things"] "made") (ae 0)))
 (ag bF
 ah)
 ah)
 (ag (bj (m2 bc (m1 (bf ["Things"] "made") (ae 0)) (ae 1)))
 ah))
def cZ(e:aK):=∀b T t s r m d a L n c,Tn b T t s r m d a L->a9 a (.inr n)=some (.ref c)->e [.ref T,.str n] b=.ok (.ref c) b
theorem RL:cZ (aH 2 2 VD):=by
 intro i T t s r m d e L n c W a;rw[eG (by rfl)]
 have f:cS 2 [D.ref T,.str n]=[oR T,oS n]:=rfl;have b:=zj (h:=n) (.inl W.dk);have g:=fV (.inl W.dk) a;rw[a]at b;rw[f];simp[VD,(EX W),b,g,-jt]
variable{D7 E6:Nat}
theorem eY(c:cZ C)(W:Tn a b w ζ A0 B1 E1 Y E)(d:a9 Y (.inr h)=some (.ref o4))(e:v[E6]?=some (oR b))(f:v[D7]?=some (oS h)):aI "Things" "thing" C (ae E6) (af (ae D7) aj) v a=.ok (.ref o4) a:=by
 rw[MW W e (by decide),oA,sG,f,yW,eA,sF,eA,eA,c _ _ _ _ _ _ _ _ _ _ _ W d]
 rfl
def RM(a):=
 (ag (bj (m1 (bf ["Thing"] "kind") (aI "Things" "thing" a (ae 0) (af (ae 1) aj))))
 ah)
def RN(a):=
 (ag (bj (m1 (bf ["Thing"] "shape") (aI "Things" "thing" a (ae 0) (af (ae 1) aj))))
 ah)
def OK(a):=
 (ag (bj (m2 bc (m1 (bf ["Thing"] "slots") (aI "Things" "thing" a (ae 0) (af (ae 1) aj))) (ae 2)))
 ah)
theorem RO(c:cZ C)(W:Tn a b w ζ A0 B1 E1 Y E)(d:a9 Y (.inr h)=some (.ref o4))(G:Tg a E1 o4 E6 D7 B v4 E):aH 2 2 (RM C) [.ref b,.str h] a=.ok (.str B) a:=fR (qR (eF (eY c W d rfl rfl) G.ob))
theorem RP(c:cZ C)(W:Tn a b w ζ A0 B1 E1 Y E)(d:a9 Y (.inr h)=some (.ref o4))(G:Tg a E1 o4 E6 D7 B v4 E):aH 2 2 (RN C) [.ref b,.str h] a=.ok (.int D7) a:=fR (qR (eF (eY c W d rfl rfl) G.ob))
variable{N9:Str×Int}
theorem RQ(c:cZ C)(W:Tn a b w ζ A0 B1 E1 Y E)(d:a9 Y (.inr h)=some (.ref o4))(G:Tg a E1 o4 E6 D7 B v4 E){j:Nat}(e:v4[j]?=some N9):aH 3 3 (OK C) [.ref b,.str h,.int j] a=.ok (.int N9.2) a:=fR (qR (eQ (eF (eY c W d rfl rfl) G.ob) rfl (aY G.sl (L2.dB (by simp[e])))))
def RR(a b):=
 (ag (aR 2 (aI "Things" "thing" a (ae 0) (af (ae 1) aj)))
 (ag (bj (mN OD (af (aI "Shapes" "words_of" b (m1 (bf ["Things"] "shapes") (ae 0)) (af (m1 (bf ["Thing"] "shape") (ae 2)) aj)) (af (m1 (bf ["Thing"] "slots") (ae 2)) aj))))
 ah))
noncomputable def cP(v:List (Str×Int)):List (Key×D):=v.map λp=>(.inr p.1,.int p.2)
theorem zt:∀v,((cx v).map ĕ).zip (MV v)=cP v
 |[]=>rfl
 |p::v=>by
  have:=zt v;simp only[cx,MV,cP,Ü,List.zip_cons_cons]at this ⊢;rw[this]
theorem RS(k:cZ C)(l:kz Ξ)(W:Tn a b w ζ A0 B1 E1 Y E)(m:a9 Y (.inr h)=some (.ref o4))(G:Tg a E1 o4 E6 D7 B v4 E):∃q av,aH 3 2 (RR C Ξ) [.ref b,.str h] a=.ok (.ref q) av/\av[q]?=some (.dK (cP v4))/\ao [] a av/\a.length<=q:=by
 refine ay (kA (l a ζ A0 B1 D7 E _ W.sh G.wd)) λn o c r=>?_
 have j:=G.aU c
 have s:=lh _ [] (by
  have:(([]++cP v4).map λp:Key×D=>p.1)=(cx v4).map ĕ:=by simp[cP]
  rw[this];exact ahy _ (λd e i z=>i (by simp_all)) G.nd)
 exact⟨_,_,fR ((qA (eY k W m rfl rfl)).trans (qR (eN (eK (eM (eF rfl W.ob) W.sh.ob (eK (eF rfl G.ob) rfl) o) (eK (eF rfl j.ob) rfl)) (by simp only[OD,aV r,aV j.sl,(jr (f:=kb) (g:=D.str) (h:=ĕ) (λ_=>rfl) _),zt,s];rfl)))),aN,c.trans ao.app,c.len⟩
def Bv(a b c d):=
 (ag (aR 4 (aI "Things" "thing" b (ae 0) (af (ae 1) aj)))
 (ag (dP (ew (mN (bw a) (af (ae 2) aj)))
 (ag bF
 ah)
 ah)
 (ag (aR 5 (aI "Shapes" "slot_of" c (m1 (bf ["Things"] "shapes") (ae 0)) (af (m1 (bf ["Thing"] "shape") (ae 4)) (af (ae 2) aj))))
 (ag (dP (m2 (aJ .IsNot) (ae 5) (au .non))
 (ag (fA (m1 (bf ["Thing"] "slots") (ae 4)) (ae 5) (ae 3))
 (ag yG
 ah))
 ah)
 (ag (dP (m2 (aJ .GtE) (mN (cb .len) (af (m1 (bf ["Thing"] "slots") (ae 4)) aj)) (au (.int 12)))
 (ag bF
 ah)
 ah)
 (ag (cM ["Thing"] "shape" (ae 4) (aI "Shapes" "grown" d (m1 (bf ["Things"] "shapes") (ae 0)) (af (m1 (bf ["Thing"] "shape") (ae 4)) (af (ae 2) aj))))
 (ag (cA (dH sg dU (m1 (bf ["Thing"] "slots") (ae 4)) (af (ae 3) aj)))
 ah)))))))
noncomputable def gQ(v w x):=if w∈cx v then v.set ((cx v).idxOf w) (w,x)else v++[(w,x)]
theorem zu(h:l∈E):de E l=E:=if_pos h
variable{J:Int}
theorem zv(a:h∈cx v4):cx (v4.set ((cx v4).idxOf h) (h,J))=cx v4:=by
 have b:=acd a;rw[cx,List.map_set];have:(h,J).1=(cx v4)[(cx v4).idxOf h]:=(List.getElem_idxOf b).symm;rw[this];exact List.set_getElem_self b
variable{P4:Str}
theorem RT(U:gb C)(V:cZ Ξ)(X:eH y3)(Z:iV S5)(W:Tn a b w ζ A0 B1 E1 Y E)(hv:a9 Y (.inr h)=some (.ref o4))(G:Tg a E1 o4 E6 D7 P4 v4 E)(hw:iU B)(hl:E.length<=500)(hx:B∈cx v4\/v4.length<12):
  ∃i' A av,aH 6 4 (Bv C Ξ y3 S5) [.ref b,.str h,.str B,.int J] a=.ok .non av/\Tn av b w ζ A0 B1 E1 Y A/\Tg av E1 o4 E6 i' P4 (gQ v4 B J) A/\ao [A0,B1,o4,E6] a av/\A=de E (cx (gQ v4 B J)):=by
 refine bx (U a B hw) λD e1 F=>?_
 have y:=W.aU F;have H:=G.aU F;refine bx (X D ζ A0 B1 D7 E _ B y.sh H.wd) λo e2 I=>?_
 have n:=y.aU I;have d:=H.aU I;have p:=F.trans I;have Kq:=W.lt;have c:=G.lt;have le:=G.le;have R:∀{A0},_=A0->aH 6 4 (Bv C Ξ y3 S5) [.ref b,.str h,.str B,.int J] a=uM A0:=λe=>(eG rfl).trans (congrArg uM ((qA (eY V W hv rfl rfl)).trans ((q0 (nT (eC rfl e1))).trans ((qA (eM (eF rfl y.ob) y.sh.ob (eK (eF rfl H.ob) rfl) e2)).trans e))))
 by_cases i:B∈cx v4
 .have f:gQ v4 B J=v4.set _ _:=if_pos i
  have ev:(MV v4).set ((cx v4).idxOf B) (.int J)=MV (gQ v4 B J):=by simp_all
  refine ay (dL (.int J) d.sl (by simpa using acd i)) λj hd k P=>?_
  rw[ev]at P;rw[show oO _ B=_ from if_pos i]at R
  refine⟨D7,E,j,(R ((qT rfl).trans (qB (qD rfl (eF rfl d.ob) rfl hd)))).trans rfl,n.keep k (by simp;exact Â c.1 c.2),⟨k.g d.ob,P,?_,?_,by simp_all,c⟩,p.tr k.s,?_⟩<;>rw[f,zv i]
  .exact G.wd
  .exact G.nd
  .exact(zu (Ë G.wd)).symm
 .have K:=hx.resolve_left i
  have f:gQ v4 B J=v4++[(B,J)]:=if_neg i;have q:cx v4++[B]=cx (gQ v4 B J):=by simp[f]
  refine ay (Z o ζ A0 B1 D7 E (cx v4) B n.sh d.wd (by simp;omega) hl) λj L Q k=>?_
  rw[q]at L Q;have r:=k.g d.ob;refine ay (fS L r "shape") λa0 z4 S t=>?_
  have u:=S.g (k.g d.sl);refine ay (aL (.int J) u (by simp;omega)) λl M T g5=>?_
  rw[show oO _ B=_ from if_neg i]at R
  have x:ao [o4,E6] j l:=S.s.trans T.s;have m:ao [A0,B1,o4,E6] o l:=k.tr x.s;refine⟨_,_,l,(R ((q0 rfl).trans ((q0 (eQ (eN (eK (eF rfl d.ob) rfl) (gO d.sl)) rfl (Vo (decide_eq_false (by simp;omega))))).trans ((qS (eM (eF rfl n.ob) n.sh.ob (eK (eF rfl d.ob) rfl) L) rfl r z4).trans (qE (eL (eF rfl t) rfl (gP u) M)))))).trans rfl,⟨m.g n.ob,m.g n.dk,Q.keep x (by simp;omega) (by simp;omega) (by simp;exact⟨U' (Â Kq.2.2.2 c.1),U' (Â (Â Kq.2.2.2 c.1) c.2)⟩),zr W.nd,W.lt⟩,⟨T.g t,by simp_all,vd,?_,by rw[f];simp;exact Bo K,c⟩,p.tr m,rfl⟩
  rw[←q];exact ā.mpr ⟨G.nd,by simp,λN ha O hb z=>i (by simp_all)⟩
def EY(a b c):=
 (ag (aR 3 (aI "Things" "thing" a (ae 0) (af (ae 1) aj)))
 (ag (aR 4 (aI "Shapes" "slot_of" b (m1 (bf ["Things"] "shapes") (ae 0)) (af (m1 (bf ["Thing"] "shape") (ae 3)) (af (ae 2) aj))))
 (ag (dP (m2 (aJ .Is) (ae 4) (au .non))
 (ag bF
 ah)
 ah)
 (ag (cM ["Thing"] "shape" (ae 3) (aI "Shapes" "without" c (m1 (bf ["Things"] "shapes") (ae 0)) (af (m1 (bf ["Thing"] "shape") (ae 3)) (af (ae 2) aj))))
 (ag (cA (d8 (dH sg il (m1 (bf ["Thing"] "slots") (ae 3)) (af (ae 4) aj)) (dH AV qy (m1 (bf ["Thing"] "slots") (ae 3)) (af (ae 4) aj))))
 ah)))))
noncomputable def iW(v:List (Str×Int))(w):=v.eraseIdx ((cx v).idxOf w)
theorem ll{α β:Type}{f:α->β}:∀(xs:List α) j,(xs.eraseIdx j).map f=(xs.map f).eraseIdx j
 |[],_=>rfl
 |a::xs,0=>rfl
 |a::xs,j+1=>by simp only[List.eraseIdx_cons_succ,Ü,ll xs j]
theorem zw(a:(cx v4).Nodup):kB (cx v4) h=cx (iW v4 h):=by
 have b:kB (cx v4) h=(cx v4).erase h:=by
  rw[a.erase_eq_filter];unfold kB
  grind
 rw[b,iW,cx,cx,ll];exact List.erase_eq_eraseIdx_of_idxOf rfl
theorem I_(h:w<b):L2.tL b w=some w:=by
 unfold L2.tL;simp;omega
theorem Jb(h:a[b]?=some (.lst q))(c:q[w]?=some m)(e:q.length<=1000):il (.ref b) [.int w] a=.ok m (a.set b (.lst (q.eraseIdx w))):=by
 have d:=(Ì.mp c).1;simp only[il,ko h,(iE (ĵ _) (Oq (M' d e))),if_true,I_ d,c]
theorem RU(z:cZ C)(A:eH Ξ)(D:jw y3)(W:Tn a b w ζ A0 B1 E1 Y E)(F:a9 Y (.inr h)=some (.ref o4))(G:Tg a E1 o4 E6 D7 P4 v4 E)(H:E.length<=500)(r:B∈cx v4):
  ∃I l av,aH 5 3 (EY C Ξ y3) [.ref b,.str h,.str B] a=.ok .non av/\Tn av b w ζ A0 B1 E1 Y l/\Tg av E1 o4 E6 I P4 (iW v4 B) l/\ao [A0,B1,o4,E6] a av/\l=de E (cx (iW v4 B)):=by
 have Kq:=W.lt;have m:=G.lt;have J:=G.le;refine bx (A a ζ A0 B1 D7 E _ B W.sh G.wd) λK t n=>?_
 rw[show oO _ B=_ from if_pos r]at t
 have e:=W.aU n;have k:=G.aU n;refine ay (D _ ζ A0 B1 D7 E _ B e.sh k.wd (by simp;omega) H) λL o u p=>?_
 rw[zw G.nd]at o u;have f:=p.g k.ob;refine ay (fS o f "shape") λM N x i=>?_
 have c:=x.g (p.g k.sl);refine ay (kO (Jb (w:=(cx v4).idxOf B) c (by simp[î (by simpa using acd r)];rfl) (by simp;omega)) c) λO q y P=>?_
 have j:ao [o4,E6] _ _:=x.s.trans y.s;have d:ao [A0,B1,o4,E6] _ _:=p.tr j.s;exact⟨_,_,_,fZ ((qA (eY z W F rfl rfl)).trans ((qA (eM (eF rfl W.ob) W.sh.ob (eK (eF rfl G.ob) rfl) t)).trans ((q0 rfl).trans ((qS (eM (eF rfl e.ob) e.sh.ob (eK (eF rfl k.ob) rfl) o) rfl f N).trans (qE (al (eL (eF rfl i) rfl (gP c) q))))))),⟨d.g e.ob,d.g e.dk,u.keep j,zr W.nd,W.lt⟩,⟨y.g i,by rw[P,iW,MV,MV,ll],vd,zw G.nd▸G.nd.filter _,B' (List.length_eraseIdx_le ..) J,m⟩,n.tr d,rfl⟩
def OL:=
 (ag (cM ["Thing"] "kind" (ae 0) (ae 1))
 (ag (cM ["Thing"] "shape" (ae 0) (au (.int 0)))
 (ag (cM ["Thing"] "slots" (ae 0) (mN cz aj))
 ah)))
theorem MX:ey "Thing" (aH 2 2 OL) [.str h] a=.ok (.ref a.length) (a++[.ins "Thing" [("kind",.str h),("shape",.int 0),("slots",.ref (a.length+1))],.lst []]):=nZ ((qS rfl rfl aN cp).trans ((qS rfl rfl aN cp).trans (qS nlL rfl aN cp)))
def RV(a b TI):=
 (ag (dP (ew (mN (bw a) (af (ae 1) aj)))
 (ag bF
 ah)
 ah)
 (ag (dP (m2 (aJ .In) (ae 1) (m1 (bf ["Things"] "made") (ae 0)))
 (ag bF
 ah)
 ah)
 (ag (dP (m2 (aJ .GtE) (mN (cb .len) (af (m1 (bf ["Things"] "made") (ae 0)) aj)) (au (.int 40)))
 (ag bF
 ah)
 ah)
 (ag (cA (aI "House" "check_kind" b (m1 (bf ["Town"] "house") (m1 (bf ["Things"] "town") (ae 0))) (af (ae 2) aj)))
 (ag (fA (m1 (bf ["Things"] "made") (ae 0)) (ae 1) (mN (ey "Thing" TI) (af (ae 2) aj)))
 ah)))))
theorem RW(t:gb C)(u:iv Ξ)(W:Tn a b w ζ A0 B1 E1 Y E)(x:a[w]?=some (.ins "Town" (("house",.ref o4)::m3)))(H:dy R0 a o4 Q0 M3)(z:B∈nms Q0)(A:iU h)(D:a9 Y (.inr h)=none)(o:Y.length<40)(F:E[0]?=some []):
  ∃c av,aH 3 3 (RV C Ξ (aH 2 2 OL)) [.ref b,.str h,.str B] a=.ok .non av/\Tn av b w ζ A0 B1 E1 (dG Y (.inr h) (.ref c)) E/\Tg av E1 c (c+1) 0 B [] E/\ao [E1] a av/\a.length<=c:=by
 refine bx (t a h A) λG I e=>?_
 have f:=W.aU e;have p:cw _ E1 _:=.inl f.dk;have i:=EG (h:=h) p;rw[D]at i;refine bx (u _ o4 Q0 M3 R0 B (H.keep e) z) λd J q=>?_
 refine ee (H.keep e) λ_ _ _ _ K _=>?_
 have r:=f.aU q;have O:=aX r.dk;have s:ao [] _ (d++[Cell.ins "Thing" [("kind",.str B),("shape",.int 0),("slots",.ref (d.length+1))],.lst []]):=ao.app;have n:(d++[Cell.ins "Thing" [("kind",.str B),("shape",.int 0),("slots",.ref (d.length+1))],.lst []])[d.length+1]?=some (.lst []):=by simp
 have j:=r.aU s;refine ay (kD (oK (h:=h) (m:=.ref d.length) j.dk (Bo o)) j.dk) λL M k N=>?_
 have Kq:=W.lt;have l:=e.trans q;exact⟨_,_,fZ ((q0 (nT (eC rfl I))).trans ((q0 (eQ rfl (eF rfl f.ob) i)).trans ((q0 (eQ (eN (eK (eF rfl f.ob) rfl) (zk p)) rfl (Vo (decide_eq_false (Int.not_le.mpr (Oq o)))))).trans ((qE (eM (eF (eF rfl f.ob) (e.g x)) K rfl J)).trans (qD (eN rfl (MX (a:=d) (h:=B))) (eF rfl j.ob) rfl M))))),⟨k.g j.ob,N,j.sh.keep k,W.nd,Kq⟩,⟨k.g (aN (a:=d) (F3:=Cell.ins "Thing" [("kind",.str B),("shape",.int 0),("slots",.ref (d.length+1))]) (y:=[.lst []])),k.g n,F,by simp,by simp,by omega,ϓ _⟩,(l.trans s).tr k,l.len⟩
def Kr(a b):=
 (ag (aR 3 (aI "Things" "thing" a (ae 0) (af (ae 1) aj)))
 (ag (cA (aI "House" "check_kind" b (m1 (bf ["Town"] "house") (m1 (bf ["Things"] "town") (ae 0))) (af (ae 2) aj)))
 (ag (cM ["Thing"] "kind" (ae 3) (ae 2))
 ah)))
theorem Ks{c}(j:cZ C)(k:iv Ξ)(W:Tn a b w ζ A0 B1 E1 Y E)(l:a9 Y (.inr h)=some (.ref o4))(G:Tg a E1 o4 E6 D7 B v4 E)(m:a[w]?=some (.ins "Town" (("house",.ref c)::m3)))(H:dy R0 a c Q0 M3)(n:P4∈nms Q0):
  ∃av,aH 4 3 (Kr C Ξ) [.ref b,.str h,.str P4] a=.ok .non av/\Tn av b w ζ A0 B1 E1 Y E/\Tg av E1 o4 E6 D7 P4 v4 E/\ao [o4] a av:=by
 refine bx (k a c Q0 M3 R0 P4 H n) λo p d=>?_
 refine ee H λ_ _ _ _ q _=>?_
 have e:=G.aU d;have f:=G.lt;refine ay (fS (rfl:aw.ok (.str P4) _=_) e.ob "kind") λr z i s=>?_
 exact⟨_,fZ ((qA (eY j W l rfl rfl)).trans ((qE (eM (eF (eF rfl W.ob) m) q rfl p)).trans (qS rfl rfl e.ob z))),(W.aU d).keep i,⟨s,i.g e.sl,G.wd,G.nd,G.le,f⟩,d.tr i⟩
def OM:=
 (ag (cM ["Facts"] "teller" (ae 0) (ae 1))
 (ag (cM ["Facts"] "strengths" (ae 0) ck)
 (ag (cM ["Facts"] "asked" (ae 0) (mN cz aj))
 ah)))
abbrev faC(x:D)(n:Nat):az:=[.ins "Facts" [("teller",x),("strengths",.ref (n+1)),("asked",.ref (n+2))],.dK [],.lst []]
theorem MY:ey "Facts" (aH 2 2 OM) [m] a=.ok (.ref a.length) (a++faC m a.length):=nZ ((qS rfl rfl aN cp).trans ((qS Rh rfl aN cp).trans (qS nlL rfl aN cp)))
abbrev VE(h g:Nat)(f:D)(b:Int):Cell:=.ins "Town" [("house",.ref h),("facts",f),("tags",.ref g),("last_deed",.int b)]
def RX(a b):=
 (ag (cM ["Town"] "house" (ae 0) (mN (ey "House" a) aj))
 (ag (cM ["Town"] "facts" (ae 0) (mN (ey "Facts" b) (af (ae 1) aj)))
 (ag (cM ["Town"] "tags" (ae 0) ck)
 (ag (cM ["Town"] "last_deed" (ae 0) (au (.int 0)))
 ah))))
abbrev bare(a:List Str):=eW a λ_=>[]
theorem Jc(a:l.Nodup)(b:l.length<=100):Gd (bare l):=⟨by rwa[dC],by simp only[bare,eW,Þ];exact b,λn a=>by rw[dC]at a;rw[zo a]⟩
structure Tt where
 (t h g e l f sd ak:Nat) (R:List Nat)
abbrev tz(a:Tt):=[a.t,a.h,a.g,a.e,a.l,a.f,a.sd,a.ak]++a.R
structure Tw(Ω:az)(τ:Tt)(hs:List Str)(b:Int):Prop where
 to:Ω[τ.t]?=some (VE τ.h τ.g (.ref τ.f) b)
 ho:vt (· ∈ τ.R) Ω τ.h τ.e τ.l (bare hs) λn=>[n]
 tg:∃tk,Ω[τ.g]?=some (.dK tk)/\(tk.length:Int)<=b/\∀k∈hs,(a9 tk (.inr k)).isSome=true
 fa:Ω[τ.f]?=some (.ins "Facts" [("teller",.dct [] []),("strengths",.ref τ.sd),("asked",.ref τ.ak)])
 sd:cw Ω τ.sd []
 ak:Ω[τ.ak]?=some (.lst [])
 lt:∀a∈tz τ,a<Ω.length
 nd:[τ.g,τ.e,τ.l,τ.sd].Nodup
theorem Tw.keep{Ω av fp d f b}(W:Tw Ω d f b)(K:ao fp Ω av)(h:∀a∈tz d,a∉fp):Tw av d f b:=by
 refine ay W.tg λg i l t3=>?_
 have k:∀{a c},Ω[a]?=some c->a∈tz d->av[a]?=some c:=λe m=>K.get _ _ e (h _ m)
 refine⟨k W.to (by simp),W.ho.keep K (h _ (by simp)) (h _ (by simp)) (h _ (by simp)) (λj n z=>h j (Ù _ z) n),⟨g,k i (by simp),l,t3⟩,k W.fa (by simp),W.sd.keep K (h _ (by simp)),k W.ak (by simp),λa o=>M' (W.lt a o) K.len,W.nd⟩
theorem MZ(d:Bf C):∃c av,ey "Town" (aH 2 2 (RX C (aH 2 2 OM))) [.dct [] []] a=.ok (.ref a.length) av/\Tw av c [] 0/\ao [] a av/\c.t=a.length/\∀b∈tz c,a.length<=b:=
 let n:=a.length
 ⟨⟨n,_,n+7,n+2,n+3,_,n+5,n+6,[]⟩,_,nZ ((qS (eN rfl (ME d)) rfl aN cp).trans ((qS (eN rfl (ME MY)) rfl aN cp).trans ((qS Rh rfl aN cp).trans (qS rfl rfl aN cp)))),⟨aN,⟨[],[],gN,gN,.nil,gN,.nil⟩,⟨[],gN,by simp,by simp⟩,gN,.inl gN,gN,by simp[n],by simp⟩,ao.app,rfl,by simp[n]⟩
def cdB:=(ag (fA (m1 (bf ["Town"] "tags") (ae 0)) (ae 2) (m1 (bf ["Town"] "last_deed") (ae 0)))
 ah)
def FI:=
 (ag (yO ["Town"] "last_deed" (ae 0) 1)
 (ag (dw (cF 2) (cf (ae 1)) cdB)
 (ag (bj (ae 1))
 ah)))
def M_(a b):=
 (ag (cA (aI "House" "add" a (m1 (bf ["Town"] "house") (ae 0)) (af (ae 1) (af (ae 2) (af (ae 3) aj)))))
 (ag (bj (aI "Town" "count_deed" b (ae 0) (af (mN cz (af (ae 1) aj)) aj)))
 ah))
def VF(TO TA a:aK):=
 (ag (aR 1 (mN (ey "Town" TO) (af (au (.dct [] [])) aj)))
 (ag (dw (cF 2) (cf (ae 0))
 (ag (cA (d8 (aI "Town" "add" (λb=>TA (b++[.non])) (ae 1) (af (ae 2) (af (mN cz aj) aj))) (aI "House" "add" a (ae 1) (af (ae 2) (af (mN cz aj) aj)))))
 ah))
 (ag (bj (ae 1))
 ah)))
theorem Kt(h:a[b]?=some (VE w ζ m J))(q:a[ζ]?=some (.dK Y))(x:Y.length+l.length<=500)(j:a[A0]?=some (.lst (l.map .str))):
  ∃c av,aH 3 2 FI [.ref b,.ref A0] a=.ok (.ref A0) av/\av[b]?=some (VE w ζ m (J+1))/\av[ζ]?=some (.dK c)/\c.length<=Y.length+l.length/\(∀k,(a9 Y (.inr k)).isSome=true\/k∈l->(a9 c (.inr k)).isSome=true)/\ao [b,ζ] a av:=by
 have r:=ed q h;have s:=ed j h;refine ay (ao.st (e':=VE w ζ m (J+1)) h) λy z o A=>?_
 obtain⟨_,av,e,d,c,rfl,t3,p,t,u,K⟩:=OJ (G7:=cF 2) (ε:=cdB) (D3:=cf (ae 1)) (λi B f=>∃d c,B=[oR b,oR A0,d]/\f[b]?=some _/\f[ζ]?=some (.dK c)/\c.length<=Y.length+i/\(∀k,(a9 Y (.inr k)).isSome=true\/k∈l.take i->(a9 c (.inr k)).isSome=true)/\ao [b,ζ] _ f) (sr rfl (o.g j)) (λ⟨_,_,_,_,_,_,_,K⟩=>K.get _ _ (o.g j) (by simp[s,ed j q])) (by
  rintro i n _ f C ⟨d,c,rfl,t3,p,t,u,K⟩;have E:=qP C;refine⟨_,_,_,rfl,qD (eF rfl t3) (eF rfl t3) rfl (oK p (by omega)),_,_,rfl,oD t3 (Ç r),di p,B' EA (ϖ t),λk D=>?_,K.trans (ao.set (by simp))⟩
  rw[qC];split
  .rfl
  .rw[Ĵ]at D
   simp_all) ⟨_,Y,rfl,A,o.g q,by simp,by simp,ao.refl⟩ (fG (B' (Nat.le_add_left _ _) x))
 rw[ť]at u;exact⟨_,_,fR ((qN (by unfold yO;rw[show ae 0 _ a=.ok _ a from rfl,yV,iN h];exact congrArg _ z)).trans ((e _).trans (qR rfl))),t3,p,t,u,o.tr K⟩
theorem vt.lt{Ω h P E N e l}(H:vt P Ω h e l E N):vt (λj=>P j/\j<Ω.length) Ω h e l E N:=
 bg (H) λa b c d f g i=>⟨_,_,c,d,f.lt,g,i.lt⟩
theorem sU:b∈Ϙ w (ζ - w)↔w<=b/\b<ζ:=by
 grind
variable{C7:Tt}{T4:Prop}
theorem Ku(hA:sS C)(W:Tw a C7 l J)(ha:a[b]?=some (.lst []))(hn:(l++[B]).Nodup)(hl:l.length<12)(hv:iU B)(hb:J<=400)(kk:∀x e av,aH 4 4 (M_ C (aH 3 2 FI)) [.ref C7.t,.str B,.ref b,.non] a=.ok x av->Tw av e (l++[B]) (J+1)->ao [C7.h,C7.t,C7.g] a av->e.t=C7.t->e.h=C7.h->(∀b∈tz e,b∈tz C7\/a.length<=b)->T4):T4:=by
 have A:bare l++[(B,[])]=bare (l++[B]):=by simp[bare,eW]
 have H:=ā.mp hn;have I:(bare l).length=l.length:=by simp[bare,eW]
 refine ay W.tg λtk G c0 K=>?_
 refine bO (hA a C7.h b (bare l) (λB=>[B]) (λB=>[B]) (λj=>j∈C7.R\/a.length<=j) B (W.ho.imp λj i=>.inl i).at ha hv (by rw[dC];exact λz=>H.2.2 _ z _ (by simp) rfl) (Ø (R' I) hl) (by rw[A];exact Jc hn (by simp;exact Bo hl)) (λ_ _=>rfl) (λ_ i=>.inr i)) λe' L c e1 M N o=>xa o λu D=>?_
 rw[A]at M;refine bg W.ho λa0 b0 w h2 h3 h4 h5=>?_
 have y:=W.to;have O:=W.nd;simp only[Ħ,È,Ĳ,or_false,not_or,List.nodup_nil,and_true,not_false_eq_true]at O;have d0:=ed y w;have e0:=ed G w;have t1:=N.g y;have g1:=N.g G;refine ay (kA (lN (q:=[.str B]) (a:=c))) λP e2 n q2=>?_
 have t2:=n.g t1;have g2:=n.g g1;have L2:=aX q2;have Q:=M.lt;have E:L<c.length:=bg M λ_ _ _ _ _ z _=>aX z
 refine bg (Kt (l:=[B]) t2 g2 (by simp;omega) q2) λS p e3 t3 g3 T o=>xa o λU r=>?_
 have d:ao [C7.h,C7.t,C7.g] a p:=(N.s.trans n.s).trans r.s;have V:=r.len;have m:=W.lt;have a1:=m C7.t (by simp)
 have a3:=m C7.g (by simp)
 have a5:=m C7.sd (by simp)
 have F:∀j∈[C7.t,C7.g],∀ds,P[j]?≠some (.lst ds):=λj i ds=>by
  simp at i;rcases i with rfl|rfl
  .rw[t2];simp
  .rw[g2];simp
 have Z:∀x∈[C7.t,C7.h,C7.g,e',L,C7.f,C7.sd,C7.ak]++(C7.R++Ϙ a.length (c.length - a.length)),x∈tz C7\/a.length<=x/\x<p.length:=λx hx=>by
  rcases Ô.mp hx with hx|hx
  .simp only[È,Ĳ,or_false]at hx
   rcases hx with h|h|h|h|h|h|h|h
   .exact .inl (h▸.head _)
   .exact .inl (h▸.tail _ (.head _))
   .exact .inl (h▸.tail _ (.tail _ (.head _)))
   .exact .inr (h▸⟨u,M' (Â (Â D E) L2) V⟩)
   .exact .inr (h▸⟨ß (Ø u D),M' (Â E L2) V⟩)
   .exact .inl (h▸by simp)
   .exact .inl (h▸by simp)
   .exact .inl (h▸by simp)
  .refine(Ô.mp hx).imp (Ù _) λh=>?_
   have:=sU.mp h;exact⟨this.1,M' (Â this.2 L2) V⟩
 refine kk (.ref c.length) ⟨C7.t,C7.h,C7.g,e',L,C7.f,C7.sd,C7.ak,C7.R++Ϙ a.length (c.length - a.length)⟩ p (fR ((qE (eM (eF rfl y) w rfl e1)).trans (qR (eM rfl t1 (eK (eN rfl e2) rfl) e3)))) ⟨t3,?_,⟨S,g3,by simp at T;omega,λk hk=>U k ((Ô.mp hk).imp (K k) id)⟩,d.get _ _ W.fa (by simp;exact⟨ed W.fa w,ed W.fa y,ed W.fa G⟩),W.sd.keep d (by simp;exact⟨λz=>W.sd.ni _ _ (z▸w),λz=>W.sd.ni _ _ (z▸y),Ç O.1.2.2⟩),d.get _ _ W.ak (by simp;exact⟨ed W.ak w,ed W.ak y,ed W.ak G⟩),λx hx=>(Z x hx).elim (λh=>M' (m x h) d.len) (·.2),by simp;exact⟨⟨U' (M' a3 u),⟨U' (Â (M' a3 u) D),O.1.2.2⟩⟩,⟨⟨U' D,ä (M' a5 u)⟩,ä (Â (M' a5 u) D)⟩⟩⟩ d rfl rfl (λx hx=>(Z x hx).imp_right (·.1))
 refine bg (Q.imp (P':=(· ∈ C7.R++Ϙ a.length (c.length - a.length))) λj i=>Ô.mpr (i.1.imp_right λz=>sU.mpr ⟨z,i.2⟩)) λX Y p1 p2 p3 p4 p5=>?_
 exact⟨X,Y,r.g (n.g p1),r.g (n.g p2),(p3.keep n (by simp)).eB r F,r.g (n.g p4),(p5.keep n (by simp)).eB r F⟩
theorem Kv(L:Bf C)(M:sS Ξ)(F:a[b]?=some (.lst (l.map .str)))(N:l.Nodup)(G:l.length<=12)(O:∀x∈l,iU x):
  ∃d av,aH 3 1 (VF (aH 2 2 (RX C (aH 2 2 OM))) (aH 4 4 (M_ Ξ (aH 3 2 FI))) Ξ) [.ref b] a=.ok (.ref d.t) av/\Tw av d l l.length/\ao [] a av/\∀c∈tz d,a.length<=c:=by
 refine bg (MZ (a:=a) L) λk m P Q H n o=>?_
 refine cg (OJ (a:=m) (v:=[oR b,oR a.length,none]) (G7:=cF 2) (ε:=ag (cA (d8 (aI "Town" "add" (λR=>(aH 4 4 (M_ Ξ (aH 3 2 FI))) (R++[.non])) (ae 1) (af (ae 2) (af (mN cz aj) aj))) (aI "House" "add" Ξ (ae 1) (af (ae 2) (af (mN cz aj) aj))))) ah) (l:=l) (D3:=cf (ae 0)) (λi S f=>∃p d,S=[oR b,oR a.length,p]/\Tw f d (l.take i) i/\ao [] a f/\d.t=a.length/\∀c∈tz d,a.length<=c) (sr rfl (H.g F)) (λ⟨_,_,_,_,K,_⟩=>K.g F) (by
  rintro i x _ f r ⟨p,d,rfl,W,K,j,s⟩;have h:l.take (i+1)=l.take i++[x]:=by rw[Ĵ,r];rfl
  have T:=qP r;refine ay (kA (lN (q:=[]) (a:=f))) λU V u X=>?_
  refine Ku M (W.keep u (by simp)) X (B:=x) (by rw[←h];exact ace (acG _ _) N) (by simp;exact M' (Ø (aca _ _) T) G) (O x (Ë r)) (by omega) λy w z I Y Z J _ A=>?_
  rw[j]at I J;have lk:=B' K.len u.len;refine⟨_,_,z,rfl,qE (al (eM rfl (j▸W.to) (eK rfl (eK (eN rfl V) rfl)) I)),_,w,rfl,by rw[h];exact Y,ao.new (K.trans u) Z (by simp_all),J,λc ha=>(A c ha).elim (s c) (B' lk)⟩) ⟨none,k,rfl,by simpa using Q,H,n,o⟩ (fG G)) λ_ av e D=>bg D λp d E W K j s=>?_;subst E
 rw[ť]at W;exact⟨d,av,j▸fR ((qA (eN rfl P)).trans ((e _).trans (qR rfl))),W,K,s⟩
def RY:=
 (ag (cM ["Shapes"] "rows" (ae 0) (mN cz (af (mN nW aj) aj)))
 (ag (cM ["Shapes"] "numbers" (ae 0) (iK (mN nW aj) (au (.int 0))))
 ah))
abbrev siC(n:Nat):az:=[.ins "Shapes" [("rows",.ref (n+1)),("numbers",.ref (n+2))],.lst [.tup []],.dT [([],.int 0)]]
theorem d1T:iK (mN nW aj) (au (.int 0)) v (a++y)=.ok (.ref (a.length+y.length)) (a++(y++[.dT [([],.int 0)]])):=by
 rw[←ϒ,←List.append_assoc];unfold iK;rw[show(mN _ _) v _=.ok _ _ from rfl,eA,yX,eA,aN]
 exact congrArg _ cp
theorem Na:ey "Shapes" (aH 1 1 RY) [] a=.ok (.ref a.length) (a++siC a.length):=nZ ((qS (eN rfl lNA) rfl aN cp).trans (qS d1T rfl aN cp))
def VG(a):=
 (ag (cM ["Things"] "town" (ae 0) (ae 1))
 (ag (cM ["Things"] "shapes" (ae 0) (mN (ey "Shapes" a) aj))
 (ag (cM ["Things"] "made" (ae 0) ck)
 ah)))
theorem wX:∃s r m d av,ey "Things" (aH 2 2 (VG (aH 1 1 RY))) [.ref b] a=.ok (.ref a.length) av/\Tn av a.length b s r m d [] [[]]/\ao [] a av:=
 let n:=a.length
 ⟨_,n+2,n+3,n+4,_,nZ ((qS rfl rfl aN cp).trans ((qS (eN rfl (ME Na)) rfl aN cp).trans (qS Rh rfl aN cp))),⟨aN,gN,⟨gN,gN,gN⟩,by simp,by simp[n]⟩,ao.app⟩
def Jd(i j:Nat):=(m2 (bh .Add) (fJ (ae i) false (ae j) true (au .non)) (fJ (ae i) true (au .non) false (ae j)))
theorem EZ(m:v[b]?=some (oR ζ))(n:v[w]?=some (oI A0))(f:a[ζ]?=some (.lst (l.map .str)))(o:l.length<=1000):∃k av,Jd b w v a=.ok (.ref k) av/\av[k]?=some (.lst ((l.drop A0++l.take A0).map .str))/\ao [] a av/\a.length<=k:=by
 refine ay (kA (MI (w:=A0) f)) λh p c i=>?_
 refine ay (kA (wR (w:=A0) (c.g f))) λd q e j=>?_
 have r:=ky (e.g i) j (by simp;omega)
 refine⟨_,d++[.lst _],?_,aN,(c.trans e).trans ao.app,(c.trans e).len⟩;unfold Jd
 simp_all
theorem vf(a:List Str):(a.drop b++a.take b).Perm a:=by
 have:=(List.perm_append_comm (l₁:=a.drop b) (l₂:=a.take b))
 simp_all
def wY(S:Str):=S.cps.toList.length=8/\∀x∈S.cps.toList,97<=x/\x<=122
theorem Nb(a b c d e f g h):vX .join (.str "") (.tup [.lst [.str (bb a),.str (bb b),.str (bb c),.str (bb d),.str (bb e),.str (bb f),.str (bb g),.str (bb h)]])=.ok (false,.str ⟨#[a,b,c,d,e,f,g,h]⟩):=rfl
def nhJ(F:List D->Out Rs):=(cD (m2 bc (ae 2) (mN (fx F) (af (ae 1) (af (ae 0) (af (au (.int 26)) aj))))) true (au .non) (fP (af (au (.int 8)) aj)) 0 [0,2])
def nhS(F:List D->Out Rs):=(dH wB yB (au (.str "")) (af (nhJ F) aj))
variable{m6:List D->Out Rs}{y8:Int->Int->Int->Int}
theorem Nc(c:jX y8 m6)(f:eU [0,2] v=[oI J,oS abc]):∃S av,nhS m6 v a=.ok (.str S) av/\wY S/\ao [] a av:=by
 have h:nhJ m6 v a=_:=MF (b:=8) (g:=λi=>bb (97+(y8 J i 26).toNat)) rfl (λi l=>by
   obtain⟨q0,d,q⟩:=c J i 26 (ĵ _) (by omega) (by decide)
   rw[f];simp[q,rT q0 d]) (by decide)
 refine ay (kA h) λav h K g=>?_
 refine⟨_,_,eL rfl (eK h rfl) rfl (by
  show v2 _ _ _ _=_
  rw[fU g (sL (b:=7))];exact congrArg (gK _) (Nb ..)),⟨rfl,λx e=>?_⟩,K⟩
 simp at e
 have k:∀j:Nat,j<8->97<=97+(y8 J j 26).toNat/\97+(y8 J j 26).toNat<=122:=λj m=>by
  obtain⟨q0,d,_⟩:=c J j 26 (ĵ _) (by omega) (by decide)
  omega
 rcases e with rfl|rfl|rfl|rfl|rfl|rfl|rfl|rfl<;>exact k _ (by decide)
noncomputable def wZ(S:Str)(i:Nat):Str:=⟨(S.cps.toList.take (i+1)).toArray⟩
theorem RZ(a:wY h){i}(b:i<8):iU (wZ h i):=by
 have c:(wZ h i).length=i+1:=by
  show(h.cps.toList.take _).toArray.size=_
  have:=a.1
  grind
 refine⟨by omega,B' (R' c) b,λx d=>a.2 x (acf (i:=i+1) ?_)⟩
 have:(wZ h i).cps.toList=h.cps.toList.take _:=rfl
 simp_all
theorem Nd(c:wY h)(k:b<=8):((Ñ b).map (wZ h)).Nodup:=by
 refine afY.mpr (afZ (λ{a d} f g e i=>e ?_) (af_))
 have l:=ō.mp f;have m:=ō.mp g;have n:=c.1;have j:=congrArg (λz=>z.cps.toList.length) i
 simp only[wZ,Ĩ]at j;omega
def nhP:=(cD (fJ (ae 1) true (au .non) false (m2 (bh .Add) (ae 0) (au (.int 1)))) true (au .non) (fP (af (ae 1) aj)) 0 [3])
theorem Nf(c:wY h)(e:b<=14)(f:eU [3] v=[oS h])(g:v[1]?=some (oI b)):nhP v a=.ok (.ref a.length) (a++[.lst (((Ñ b).map (wZ h)).map .str)]):=by
 have d:small h.length=true:=bP (by rw[show h.length=8 by simpa[š]using c.1];decide)
 refine MF (by simp[(iE (ĵ _) (OW e)),g]) (λi _=>?_) (fG e)
 rw[f];simp[d];rw[show(i)+1=((i+1:Nat):Int)by omega,rS]
 rfl
def sgn(f st:Int)(i:Nat):=97+((f+st*i)%26).toNat
def ntG:=(cD (m2 bc (ae 2) (m2 (bh .Mod) (m2 (bh .Add) (ae 1) (m2 (bh .Mult) (ae 3) (ae 0))) (au (.int 26)))) true (au .non) (fP (af (ae 1) aj)) 0 [9,2,10])
variable{P0:Int}
theorem Ng(d:1<=P0)(h:P0<26)(c:b<=14)(e:eU [9,2,10] v=[oI J,oS abc,oI P0])(f:v[1]?=some (oI b)):ntG v a=.ok (.ref a.length) (a++[.lst (((Ñ b).map λi=>bb (sgn J P0 i)).map .str)]):=by
 have g:kP P0=true:=jW (by omega) (by omega)
 refine MF (by simp[(iE (ĵ _) (OW c)),f]) (λi _=>?_) (fG c)
 have i2:kP (i)=true:=jW (ĵ _) (by omega)
 rw[e];simp[g,i2,rT (J:=(J+P0*i)%26) (by omega) (by omega),sgn]
noncomputable def Je(S:Str)(a pl z):=((⟨(S.cps.toList.take pl).toArray⟩)++z)++(⟨((S.cps.toList.drop (pl+1)).take (a - (pl+1))).toArray⟩:Str)
theorem w_:(Je h b w (bb ζ)).cps.toList=(h.cps.toList.take w++[ζ])++(h.cps.toList.drop (w+1)).take (b - (w+1)):=by
 unfold Je;rw[acg,acg];simp[bb]
theorem Yl(a:wY h)(hz:b<=8)(e:w<b)(c:97<=ζ/\ζ<=122):iU (Je h b w (bb ζ)):=by
 have f:=a.1
 have d:(Je h b w (bb ζ)).length=b:=by
  have:(Je h b w (bb ζ)).length=(Je h b w (bb ζ)).cps.toList.length:=by rfl
  rw[this,w_]
  grind
 refine⟨by omega,B' (R' d) hz,λx hx=>?_⟩
 rw[w_]at hx;simp only[Ô,è]at hx;rcases hx with (hx|rfl)|hx
 .exact a.2 x (acf hx)
 .exact c
 .exact a.2 x (List.mem_of_mem_drop (acf hx))
theorem sgk:∀k<27,∀st∈[(1),3,5,7],st*((k:Nat) - 13:Int)%26=0->k=13:=by decide
theorem R_(d:wY h)(f:b<=14)(k:P0=1\/P0=3\/P0=5\/P0=7):((Ñ b).map λi=>Je h w ζ (bb (sgn J P0 i))).Nodup:=by
 refine afY.mpr (afZ (λ{a c} l m e o=>e ?_) (af_))
 have p:=M' (ō.mp l) f;have q:=M' (ō.mp m) f;have g:=congrArg (λz=>z.cps.toList) o
 simp only[w_]at g;have j:=congrArg (λn:Nat=>(n:Int)) (Nat.add_left_cancel (afb (List.append_cancel_left (List.append_cancel_right g))).1)
 rw[af0 (ϗ _ (by decide)),af0 (ϗ _ (by decide)),Int.emod_eq_emod_iff_emod_sub_eq_zero,Int.add_sub_add_left,←Int.mul_sub]at j
 have r:=sgk (a+13 - c) (by omega) P0 (by simpa using k) (by rw[←j];congr 2;omega)
 omega
def ntN:=(cD (m2 (bh .Add) (m2 (bh .Add) (fJ (ae 3) true (au .non) false (ae 2)) (ae 0)) (fJ (ae 3) false (m2 (bh .Add) (ae 2) (au (.int 1))) false (ae 1))) true (au .non) (cf (ae 11)) 0 [7,8,3])
theorem Nh(d:wY h)(hz:b<=8)(k:w<b)(j:a[ζ]?=some (.lst ((T.map bb).map .str)))(p:T.length<=1000)(m:eU [7,8,3] v=[oI b,oI w,oS h])(n:v[11]?=some (oR ζ)):ntN v a=.ok (.ref a.length) (a++[.lst (((T.map bb).map (Je h b w)).map .str)]):=by
 have f:small h.length=true:=bP (by rw[show h.length=8 by simpa[š]using d.1];decide)
 refine XT (by
  rw[ku,sG,n,yW];exact iO (by rw[bI,aV j])) j (λz g=>?_) (by simp_all)
 obtain⟨c,_,rfl⟩:=Î.mp g
 have o:ef h.cps.toList (some ((w)+1)) (some (b))=(h.cps.toList.drop (w+1)).take (b - (w+1)):=by
  rw[show(w)+1=((w+1:Nat):Int)by omega,Du]
 have l:∀(i:List _),i.length<=8->(⟨i.toArray⟩:Str).length<=8:=λi d=>by simpa[š]using d
 have q:=l (h.cps.toList.take w) (ß (M' (Ø (List.length_take_le _ _) k) hz));have r:=l ((h.cps.toList.drop (w+1)).take (b - (w+1))) (by grind)
 have one:(bb c).length=1:=rfl;generalize bb c=e at *;rw[m];simp[f,(rS _ _),o,bP (show(⟨(h.cps.toList.take w).toArray⟩:Str).length+e.length<=100000 by omega),bP (show((⟨(h.cps.toList.take w).toArray⟩)++e).length+(⟨((h.cps.toList.drop (w+1)).take (b - (w+1))).toArray⟩:Str).length<=100000 by rw[af1];omega),Je]
def shB:=(ag (aR 3 (m2 (bh .Add) (ae 3) (mN cz (af (m2 (bh .Add) (m2 bc (ae 3) (ae 4)) (ae 0)) (af (m2 (bh .Add) (m2 bc (ae 3) (ae 4)) (ae 1)) aj)))))
 ah)
def Ni:=
 (ag (aR 3 (mN cz (af (ae 0) (af (ae 1) aj))))
 (ag (dw (cF 4) (fP (af (ae 2) aj)) shB)
 (ag (bj (fJ (ae 3) true (au .non) false (ae 2)))
 ah)))
structure Sa(a b:Str)(i:Nat)(xs:List Str):Prop where
 len:xs.length=2+2*i
 bd:∀(j:Nat) (z:Str),xs[j]?=some z->1<=z.length/\z.length<=j / 2+1/\∀c∈z.cps.toList,97<=c/\c<=122
 rp:∀(j:Nat) (z:Str),xs[j]?=some z->z.length<=1\/∃q y,q<i/\xs[q]?=some y/\(z=y++a\/z=y++b)
 nd:xs.Nodup
theorem add_str(b:h.length+B.length<=1000):bh .Add (.str h) (.str B) a=.ok (.str (h++B)) a:=by
 have:=bP (fG b);simp[this]
theorem one_inj(a:h++bb b=B++bb w):h=B/\b=w:=by
 have c:=congrArg (λh=>h.cps.toList) a
 simp only[acg,bb,af2]at c;obtain⟨h⟩:=h
 simp_all
theorem Sa.step(z:97<=b/\b<=122)(A:97<=w/\w<=122)(p:b≠w)(d:Sa (bb b) (bb w) ζ l)(hz:l[ζ]?=some h):Sa (bb b) (bb w) (ζ+1) (l++[h++bb b,h++bb w]):=by
 have t:=d.bd ζ h hz;have G:=d.len;have B:∀u,(h++bb u).length=h.length+1:=λu=>by rw[af1];rfl
 have m:∀(u:Nat),97<=u/\u<=122->1<=(h++bb u).length/\(h++bb u).length<=ζ / 2+2/\∀c∈(h++bb u).cps.toList,97<=c/\c<=122:=by
  intro u H;have:=B u;refine⟨ß (Ø t.1 (R' this.symm)),by omega,λc x=>?_⟩
  rw[acg]at x;simp only[bb,af2,Ô]at x
  grind
 have C:∀u,(h++bb u)∉l:=by
  intro u D;obtain⟨j,g⟩:=ċ.mp D;rcases d.rp j _ g with h1|⟨q,f,k,y,h1⟩
  .simp_all
  .have E:h=f:=by rcases h1 with h1|h1<;>exact(one_inj h1).1
   subst E;have:=(ab0 (Ì.mp y).1 d.nd).mp (y.trans hz.symm);exact Û _ (Ø (R' this.symm) k)
 have r:h++bb b≠h++bb w:=λe=>p (one_inj e).2
 refine⟨by simp;omega,λj f g=>?_,λj f g=>?_,?_⟩
 .by_cases i:j<l.length
  .rw[ê i]at g
   exact d.bd j f g
  .rw[ħ (ϊ i)]at g
   obtain⟨q,k⟩:∃q,j - l.length=q:=⟨_,rfl⟩;rw[k]at g
   match q,g with
   |0,g=>cases g;have:=m b z;exact⟨this.1,by omega,this.2.2⟩
   |1,g=>cases g;have:=m w A;exact⟨this.1,by omega,this.2.2⟩
 .have n:(l++[h++bb b,h++bb w])[ζ]?=some h:=by rw[ê (qP hz)];exact hz
  by_cases i:j<l.length
  .rw[ê i]at g
   rcases d.rp j f g with h1|⟨q,F,k,o,h1⟩
   .exact .inl h1
   .exact .inr ⟨q,F,M' k (ó _ _),by rw[ê (qP o)];exact o,h1⟩
  .rw[ħ (ϊ i)]at g
   obtain⟨q,k⟩:∃q,j - l.length=q:=⟨_,rfl⟩;rw[k]at g
   match q,g with
   |0,g=>cases g;exact .inr ⟨ζ,h,by omega,n,.inl rfl⟩
   |1,g=>cases g;exact .inr ⟨ζ,h,by omega,n,.inr rfl⟩
 .refine ā.mpr ⟨d.nd,by simp[r],λa I s t e=>?_⟩
  grind
def Kw(d:aK):=∀c (x y m:Nat),97<=x/\x<=122->97<=y/\y<=122->x≠y->m<=14->∃(b:List Str) (q:Nat) (a:az),d [.str (bb x),.str (bb y),.int m] c=.ok (.ref q) a/\a[q]?=some (.lst (b.map .str))/\b.length=m/\(∀z∈b,iU z)/\b.Nodup/\ao [] c a
theorem Nj:Kw (aH 5 3 Ni):=by
 intro G x y m s t n H;refine ay (kA (lN (q:=[.str (bb x),.str (bb y)]) (a:=G))) λA L M N=>?_
 have one:∀u,(bb u).length=1:=λu=>rfl
 have O:Sa (bb x) (bb y) 0 [bb x,bb y]:=by
  have B:bb x≠bb y:=λe=>n (by
   have:=congrArg (λz:Str=>z.cps.toList) e
   simpa[bb]using this)
  refine⟨rfl,λj z f=>?_,λj z f=>?_,by simp[B]⟩
  .match j,f with
   |0,f=>cases f;exact⟨O' _,O' _,λc h=>by simp[bb]at h;exact⟨B' s.1 (R' h.symm),B' (R' h) s.2⟩⟩
   |1,f=>cases f;exact⟨O' _,O' _,λc h=>by simp[bb]at h;exact⟨B' t.1 (R' h.symm),B' (R' h) t.2⟩⟩
  .match j,f with
   |0,f=>cases f;simp_all
   |1,f=>cases f;simp_all
 refine cg (lpR (a:=A) (G7:=cF 4) (ε:=shB) (D3:=fP (af (ae 2) aj)) (b:=m) (λi P d=>∃q l C,P=[oS (bb x),oS (bb y),oI m,oR q,C]/\d[q]?=some (.lst (l.map .str))/\Sa (bb x) (bb y) i l/\ao [] G d) (by simp[iE (J:=(m:Int)) (ĵ _) (OW H)]) (by
  rintro i _ d Q ⟨q,l,C,rfl,r,k,K⟩;have R:=k.len;obtain⟨z,o⟩:∃z,l[i]?=some z:=⟨_,î (by omega)⟩
  have D:=k.bd i z o;have p:=aY r (L2.dB (b:=i) (v:=.str z) (by simp[o]))
  have a:∀u,bh .Add (.str z) (.str (bb u)) d=.ok _ d:=λu=>add_str (by rw[one];omega)
  refine ay (kA (lN (q:=[.str (z++bb x),.str (z++bb y)]) (a:=d))) λS T I U=>?_
  refine⟨_,_,_,rfl,qA (eQ rfl (eN (eK (eQ (eQ rfl rfl p) rfl (a x)) (eK (eQ (eQ rfl rfl p) rfl (a y)) rfl)) T) (ky (I.g r) U (by simp;omega))),_,_,_,rfl,?_,k.step s t n o,(K.trans I).trans ao.app⟩
  simp_all) ⟨_,_,none,rfl,N,O,M⟩ (fG H)) λ_ d e E=>bO E λq l C F r k K=>?_;subst F
 have R:=k.len;refine⟨l.take m,d.length,_,fR ((qA (eN rfl L)).trans ((e _).trans (qR (wR (w:=m) r)))),aN,by grind,λz o=>?_,ace (acG _ _) k.nd,K.trans ao.app⟩
 obtain⟨j,f⟩:=ċ.mp o;rw[List.getElem?_take]at f;split at f
 .have D:=k.bd j z f
  exact⟨D.1,by omega,D.2.2⟩
 .exact bD f
theorem Jf:∀c,97<=c->c<=122->Ę abc (bb c) 0 abc.length 1=[c - 97]:=by
 have h:∀q,q<26->Ę abc (bb (97+q)) 0 abc.length 1=[q]:=by decide +kernel
 grind
def ntI(F:List D->Out Rs):=(dP (gY (m2 (aJ .LtE) (ae 1) (au (.int 8))) (m2 (aJ .Eq) (mN (fx F) (af (ae 0) (af (au (.int 9)) (af (au (.int 4)) aj)))) (au (.int 1))))
 (ag (aR 5 nhP)
 (ag (bj (Jd 5 4))
 ah))
 ah)
def ntO(F:List D->Out Rs):=(m2 bc (ae 2) (m2 (bh .Mod) (m2 (bh .Add) (m2 (bh .Add) (d8 (dH sg ip (ae 2) (af (m2 bc (ae 3) (au (.int 0))) aj)) (dH wB oq (ae 2) (af (m2 bc (ae 3) (au (.int 0))) aj))) (au (.int 1))) (mN (fx F) (af (ae 0) (af (au (.int 10)) (af (au (.int 25)) aj))))) (au (.int 26))))
def ntT(F:List D->Out Rs)(a):=(dP (m2 (aJ .Eq) (mN (fx F) (af (ae 0) (af (au (.int 9)) (af (au (.int 4)) aj)))) (au (.int 2)))
 (ag (aR 6 (ntO F))
 (ag (aR 5 (mN (bw a) (af (m2 bc (ae 3) (au (.int 0))) (af (ae 6) (af (ae 1) aj)))))
 (ag (bj (Jd 5 4))
 ah)))
 ah)
def Sb(F:List D->Out Rs)(a):=
 (ag (aR 2 (au (.str "abcdefghijklmnopqrstuvwxyz")))
 (ag (aR 3 (nhS F))
 (ag (aR 4 (mN (fx F) (af (ae 0) (af (au (.int 8)) (af (ae 1) aj)))))
 (ag (ntI F)
 (ag (ntT F a)
 (ag (aR 7 (m2 (bh .Add) (au (.int 1)) (mN (fx F) (af (ae 0) (af (au (.int 10)) (af (au (.int 8)) aj))))))
 (ag (aR 8 (mN (fx F) (af (ae 0) (af (au (.int 11)) (af (ae 7) aj)))))
 (ag (aR 9 (mN (fx F) (af (ae 0) (af (au (.int 12)) (af (au (.int 26)) aj)))))
 (ag (aR 10 (m2 bc (mN cz (af (au (.int 1)) (af (au (.int 3)) (af (au (.int 5)) (af (au (.int 7)) aj))))) (mN (fx F) (af (ae 0) (af (au (.int 13)) (af (au (.int 4)) aj))))))
 (ag (aR 11 ntG)
 (ag (bj ntN)
 ah)))))))))))
def E_(N:aK):=∀d c m,1<=m->m<=14->∃(b:List Str) (q:Nat) (a:az),b.Nodup/\(∀x∈b,iU x)/\b.length=m/\N [.int c,.int m] d=.ok (.ref q) a/\a[q]?=some (.lst (b.map .str))/\ao [] d a
variable{ya:Int}
theorem eV{b}(c:u0 v a=.ok [.int J,.int P0,.int ya] a)(h:m6 [.int J,.int P0,.int ya]=.ok (false,.int b)):mN (fx m6) u0 v a=.ok (.int b) a:=by simp_all
abbrev nE(c m:Int)(S:Str)(t:Int)(d e f g h a b:Option D):aZ:=[oI c,oI m,oS abc,oS S,oI t,d,e,f,g,h,a,b]
theorem Sd(g:jX y8 m6)(hS:Kw C):E_ (aH 12 2 (Sb m6 C)):=by
 intro Z c m b0 B;refine kH (g c 8 (m:Int) (by decide) (by decide) (by omega)) λt0 t1 ht=>?_
 refine kH (g c 9 4 (by decide) (by decide) (by decide)) λw0 w1 V=>?_
 refine kH (g c 10 8 (by decide) (by decide) (by decide)) λz0 z1 hz=>?_
 refine kH (g c 10 25 (by decide) (by decide) (by decide)) λy0 y1 hy=>?_
 generalize y8 c 8 (m:Int)=t at *;generalize y8 c 9 4=w at *;generalize y8 c 10 8=z at *;generalize y8 c 10 25=y at *;refine kH (g c 11 (1+z) (by decide) (by decide) (by omega)) λp0 p1 hp=>?_
 refine kH (g c 12 26 (by decide) (by decide) (by decide)) λf0 f1 hf=>?_
 refine kH (g c 13 4 (by decide) (by decide) (by decide)) λs0 s1 hs=>?_
 generalize y8 c 11 (1+z)=p at *;generalize y8 c 12 26=f at *;generalize y8 c 13 4=s at *;obtain⟨r,rfl⟩:∃r:Nat,(r:Int)=t:=⟨t.toNat,by omega⟩
 obtain⟨K,rfl⟩:∃K:Nat,(K:Int)=p:=⟨p.toNat,by omega⟩
 obtain⟨H,L⟩:∃H:Nat,(H:Int)=1+z:=⟨(1+z).toNat,by omega⟩
 rw[←L]at hp;refine aP (Nc (a:=Z) (J:=c) g (v:=(cS 12 [.int c,.int m]).set 2 (oS abc)) rfl) λS j e1 u K1=>?_
 have R:∀{d l},_=d_.rt d l->aH 12 2 (Sb m6 C) [.int c,.int m] Z=.ok d l:=λe=>fR ((qA rfl).trans ((qA e1).trans ((qA (eV rfl ht)).trans e)))
 by_cases hc:m<=8/\w=1
 .obtain⟨M,rfl⟩:=hc
  refine ay (kA (Nf (a:=j) (v:=nE c m S r none none none none none none none) u B rfl rfl)) λA e2 N O=>?_
  refine bQ (EZ (v:=nE c m S r (oR j.length) none none none none none none) (b:=5) (w:=4) rfl rfl O (by simp;exact fG B)) λk n P I Q _=>?_
  have E:=vf (b:=r) ((Ñ m).map (wZ S));exact⟨_,k,n,E.nodup_iff.mpr (Nd u M),λx T=>by obtain⟨i,hi,rfl⟩:=Î.mp (E.mem_iff.mp T);exact RZ u (by have:=ō.mp hi;exact M' this M),by rw[E.length_eq];simp,R ((qT (aT (eQ rfl rfl (XU (decide_eq_true (by omega)))) (eQ (eV rfl V) rfl (Bt rfl)))).trans (qB ((qA e2).trans (qR P)))),I,(K1.trans N).trans Q⟩
 .have R:∀{d l},_=d_.rt d l->aH 12 2 (Sb m6 C) [.int c,.int m] Z=.ok d l:=λe=>R ((q0 (y:=j) (by
   by_cases X:(m:Int)<=8
   .exact aT (eQ rfl rfl (XU (decide_eq_true X))) (eQ (eV rfl V) rfl (Bt (decide_eq_false λz=>hc ⟨by omega,z⟩)))
   .exact aF (eQ rfl rfl (XU (decide_eq_false X))))).trans e)
  by_cases Y:w=2
  .subst Y
   obtain⟨a,ha⟩:∃a,S.cps.toList[0]?=some a:=⟨S.cps.toList[0]'(by have:=u.1;omega),î _⟩
   have F:=u.2 a (Ë ha)
   have U:bc (.str S) (.int 0) j=.ok (.str (bb a)) j:=by
    unfold bc;rw[fT,fT,kr,zb,sJ,yY,mM,yq (h:=S) (J:=0) (bP (by rw[show S.length=8 by simpa[š]using u.1];decide)) (L2.dB (b:=0) ha)]
    rfl
   have hq:=rT (J:=(((a - 97:Nat):Int)+1+y)%26) (by omega) (by omega)
   refine iC (hS j a (97+((((a - 97:Nat):Int)+1+y)%26).toNat) m F (by omega) (by omega) B) λxs q A e2 O hl hv Y N=>?_
   obtain⟨k,n,P,I,Q,_⟩:=EZ (v:=nE c m S r (oR q) _ none none none none none) (b:=5) (w:=4) rfl rfl O (fG (B' (R' hl) B));have E:=vf (b:=r) xs;exact⟨_,k,n,E.nodup_iff.mpr Y,λx T=>hv x (E.mem_iff.mp T),by rw[E.length_eq];exact hl,R ((qT (eQ (eV rfl V) rfl (Bt rfl))).trans (qB ((qA (eQ rfl (eQ (eQ (eQ (al2 rfl (eL rfl (eK (eQ rfl rfl U) rfl) rfl (by simp only[oq,Jf a F.1 F.2];rfl))) rfl EB) (eV rfl hy) EB) rfl MG) (by simp[hq]))).trans ((qA (eC (eK (eQ rfl rfl U) rfl) e2)).trans (qR P))))),I,(K1.trans N).trans Q⟩
  .have G:∃o:Int,(o=1\/o=3\/o=5\/o=7)/\L2.jH [D.int 1,.int 3,.int 5,.int 7] s=oI o:=by
    have:s=0\/s=1\/s=2\/s=3:=by omega
    rcases this with rfl|rfl|rfl|rfl
    .exact⟨1,.inl rfl,rfl⟩
    .exact⟨3,.inr (.inl rfl),rfl⟩
    .exact⟨5,.inr (.inr (.inl rfl)),rfl⟩
    .exact⟨7,.inr (.inr (.inr rfl)),rfl⟩
   refine bx G λo G a0=>?_
   refine ay (kA (lN (q:=[.int 1,.int 3,.int 5,.int 7]) (a:=j))) λA e8 N O=>?_
   refine ay (kA (Ng (a:=A) (J:=f) (P0:=o) (by omega) (by omega) B (v:=nE c m S r none none (oI H) (oI K) (oI f) (oI o) none) rfl rfl)) λn P Q I=>?_
   have em:(Ñ m).map (λi=>bb (sgn f o i))=((Ñ m).map (sgn f o)).map bb:=by rw[Ý];rfl
   rw[em]at I;have e4:=Nh u (show H<=8 by omega) (show K<H by omega) I (by simp;exact fG B) (v:=nE c m S r none none (oI H) (oI K) (oI f) (oI o) (oR A.length)) rfl rfl
   refine⟨_,n.length,_,?_,λx T=>?_,by simp,R ((q0 (eQ (eV rfl V) rfl (Bt (decide_eq_false Y)))).trans ((qA (eQ rfl (eV rfl hz) (L▸EB))).trans ((qA (eV rfl hp)).trans ((qA (eV rfl hf)).trans ((qA (eQ (eN rfl e8) (eV rfl hs) (aY O a0))).trans ((qA P).trans (qR e4))))))),aN,((K1.trans N).trans Q).trans ao.app⟩
   .rw[Ý,Ý]
    exact R_ u B G
   .obtain⟨_,X,rfl⟩:=Î.mp T
    obtain⟨_,h3,rfl⟩:=Î.mp X;obtain⟨i,_,rfl⟩:=Î.mp h3;exact Yl u (by omega) (by omega) (by unfold sgn;omega)
structure Tz where
 (n:Str) (c l i:Nat) (k:Str) (v:List (Str×Int)) (j o:Nat)
abbrev g_(y:Tz):=[y.c,y.l,y.j,y.o]
noncomputable def ads(M:List Tz):=M.flatMap g_
structure Ae where
 (ON:az) (fp:List Nat) (n0 T t s r m d P:Nat)
noncomputable def oX(M:List Tz):List (Key×D):=M.map λy=>(.inr y.n,.ref y.c)
noncomputable def gW(M:List Tz):List (Key×D):=M.map λy=>(.inr y.n,.ref y.j)
abbrev own(A:Ae)(M):=[A.r,A.m,A.d,A.P]++ads M
structure Yx(Ω:az)(d:Nat)(L:List (List Str))(y:Tz):Prop where
 G:Tg Ω d y.c y.l y.i y.k y.v L
 R:Ω[y.j]?=some (.lst [.str y.k,.ref y.o])
 O:Ω[y.o]?=some (.dK (cP y.v))
structure Ps(Ω:az)(A:Ae)(L:List (List Str))(M:List Tz):Prop where
 W:Tn Ω A.T A.t A.s A.r A.m A.d (oX M) L
 pd:cw Ω A.P (gW M)
 al:∀y∈M,Yx Ω A.d L y
 nn:(M.map (·.n)).Nodup
 nd:(ads M).Nodup
 lo:∀a∈ads M,A.n0<=a
 lt:A.d<A.P/\A.P<A.n0
 ln:A.n0<=Ω.length
 bs:ao A.fp A.ON Ω
 lb:∀a∈own A M,a∈A.fp\/A.ON.length<=a
variable{M5:az}{o7:List Nat}
theorem ao.Fb(h:ao T a y)(h':ao o7 y M5)(b:∀j∈o7,j∈T\/a.length<=j):ao T a M5:=⟨B' h.len h'.len,λk c e n=>h'.get k c (h.get k c e n) (by grind)⟩
variable{w8:List (List Str)}{χ:Tz}
theorem Yx.keep{fp}(Y:Yx a b E χ)(K:ao fp a y)(h:∀c∈g_ χ,c∉fp)(e:∀(j:Nat) d,E[j]?=some d->w8[j]?=some d):Yx y b w8 χ:=
 ⟨⟨K.get _ _ Y.G.ob (h _ (by simp)),K.get _ _ Y.G.sl (h _ (by simp)),e _ _ Y.G.wd,Y.G.nd,Y.G.le,Y.G.lt⟩,K.get _ _ Y.R (h _ (by simp)),K.get _ _ Y.O (h _ (by simp))⟩
def Yx.aU(Y:Yx a b E χ)(K:ao [] a y):=Y.keep K (by simp) λ_ _ h=>h
theorem Ps.aU{Ω av A L M}(H:Ps Ω A L M)(K:ao [] Ω av):Ps av A L M:=
 ⟨H.W.aU K,H.pd.keep K (by simp),λy a=>(H.al y a).aU K,H.nn,H.nd,H.lo,H.lt,B' H.ln K.len,H.bs.Fb K (by simp),H.lb⟩
variable{Z y2:List Tz}
theorem eZ:ads (Z++χ::y2)=ads Z++(g_ χ++ads y2):=by simp[ads]
theorem jx(h:χ∈Z):∀a∈g_ χ,a∈ads Z:=λa b=>adH.mpr ⟨χ,h,b⟩
variable{o0:Ae}
theorem Ps.sep(H:Ps a o0 E (Z++χ::y2)):∀z∈Z++y2,∀b∈g_ z,b∉g_ χ:=by
 have c:=H.nd;rw[eZ]at c;have d:=ā.mp c;have g:=ā.mp d.2.1;intro z hz b e f;rcases Ô.mp hz with hz|hz
 .exact d.2.2 b (jx hz b e) b (Ė _ f) rfl
 .exact g.2.2 b f b (jx hz b e) rfl
theorem Ps.low(H:Ps a o0 E Z):o0.T<o0.s/\o0.s<o0.r/\o0.r<o0.m/\o0.m<o0.d/\o0.d<o0.P/\o0.P<o0.n0:=by
 have:=H.W.lt;have:=H.lt;omega
def Ps.hi(H:Ps a o0 E Z)(c:χ∈Z):=λb d=>H.lo b (jx c b d)
theorem Ps.upd{y'}(H:Ps a o0 E (Z++χ::y2))(K:ao ([o0.r,o0.m]++g_ χ) a y)(w:Tn y o0.T o0.t o0.s o0.r o0.m o0.d (oX (Z++χ::y2)) w8)(k:∀(j:Nat) g,E[j]?=some g->w8[j]?=some g)(h:y'.n=χ.n)(ha:g_ y'=g_ χ)(x:Yx y o0.d w8 y'):Ps y o0 w8 (Z++y'::y2):=by
 have l:=H.sep;have I:=H.low
 have o:∀b,o0.n0<=b->b∉g_ χ->b∉[o0.r,o0.m]++g_ χ:=λb p A B=>by
  grind
 have J:∀b,b<o0.n0->b≠o0.r->b≠o0.m->b∉[o0.r,o0.m]++g_ χ:=λb p A B h4=>by
  rcases Ô.mp h4 with h4|h4
  .simp_all
  .have:=H.hi (by simp) b h4
   exact Û _ (Ø this p)
 have q:∀{f:Tz->Key×D},(f y'=f χ)->(Z++y'::y2).map f=(Z++χ::y2).map f:=λe=>by simp[e]
 have u:y'.c=χ.c/\y'.j=χ.j:=by
  simp_all
 have C:oX (Z++y'::y2)=oX (Z++χ::y2):=q (by rw[h,u.1])
 have F:gW (Z++y'::y2)=gW (Z++χ::y2):=q (by rw[h,u.2])
 have i:ads (Z++y'::y2)=ads (Z++χ::y2):=by rw[eZ,eZ,ha]
 have G:(Z++y'::y2).map (·.n)=(Z++χ::y2).map (·.n):=by simp[h]
 refine⟨by rw[C];exact w,by rw[F];exact H.pd.keep K (by grind),λz hz=>?_,by rw[G];exact H.nn,by rw[i];exact H.nd,by rw[i];exact H.lo,H.lt,B' H.ln K.len,H.bs.Fb K λb ha=>?_,by unfold own;rw[i];exact H.lb⟩
 .rcases Ô.mp hz with hz|hz
  .exact(H.al z (Ė _ hz)).keep K (λb ha=>o b (H.hi (Ė _ hz) b ha) (l z (Ė _ hz) b ha)) k
  .rcases È.mp hz with rfl|hz
   .exact x
   .exact(H.al z (by simp[hz])).keep K (λb ha=>o b (H.hi (by simp[hz]) b ha) (l z (Ù _ hz) b ha)) k
 .refine H.lb b ?_
  rcases Ô.mp ha with ha|ha
  .grind
  .exact Ù _ (jx (by simp) b ha)
variable{n9:Tz->D}
theorem zx(b:(Z.map (·.n)).Nodup):a9 (Z.map λy=>((.inr y.n:Key),n9 y)) (.inr h)=((Z.find? λy=>decide (y.n=h)).map n9):=by
 induction Z with
 |nil=>rfl
 |cons a Z c=>
  rw[Ü,bK]
  grind
theorem vg(a:((Z++χ::y2).map (·.n)).Nodup):(Z++χ::y2).find? (λz=>decide (z.n=χ.n))=some χ:=by
 grind
theorem jy(a:((Z++χ::y2).map (·.n)).Nodup):a9 (oX (Z++χ::y2)) (.inr χ.n)=oR χ.c:=by
 unfold oX;rw[zx a,vg a];rfl
theorem lr(a:((Z++χ::y2).map (·.n)).Nodup):a9 (gW (Z++χ::y2)) (.inr χ.n)=oR χ.j:=by
 unfold gW;rw[zx a,vg a];rfl
theorem sV(b:h∉Z.map (·.n)):a9 (Z.map λy=>((.inr y.n:Key),n9 y)) (.inr h)=none:=by
 induction Z with
 |nil=>rfl
 |cons a Z c=>
  rw[Ü,bK,if_neg (by grind)]
  simp_all
theorem vh(a:((Z++χ::y2).map (·.n)).Nodup):et ((Z++χ::y2).map λχ=>((.inr χ.n:Key),n9 χ)) (.inr χ.n)=(Z++y2).map λχ=>((.inr χ.n),n9 χ):=by
 have b:∀z∈Z++y2,z.n≠χ.n:=by
  grind
 unfold et;rw[ı,List.filter_append,ı]
 congr 1
 .simp_all
 simp_all
theorem mR(a:h∈Z.map (·.n)):∃M1 y M2,Z=M1++y::M2/\y.n=h:=by
 obtain⟨y,b,rfl⟩:=Î.mp a;obtain⟨M1,M2,rfl⟩:=ach b
 grind
theorem Ps.drop(H:Ps a o0 E (Z++χ::y2))(K:ao [o0.d,o0.P] a y)(i:y[o0.d]?=some (.dK (oX (Z++y2))))(j:cw y o0.P (gW (Z++y2))):Ps y o0 E (Z++y2):=by
 have k:=H.low;have q:∀b,o0.n0<=b->b∉[o0.d,o0.P]:=λb h=>by grind
 have c:∀z∈Z++y2,z∈Z++χ::y2:=λz f=>by
  grind
 have g:(ads (Z++y2)).Sublist (ads (Z++χ::y2)):=by
  have:ads (Z++y2)=ads Z++ads y2:=by simp[ads]
  rw[this,eZ]
  grind
 refine⟨⟨K.get _ _ H.W.ob (by simp;omega),i,H.W.sh.keep K (by simp;omega) (by grind) (by grind),H.W.nd,H.W.lt⟩,j,λz f=>(H.al z (c z f)).keep K (λb e=>q b (H.hi (c z f) b e)) λ_ _ h=>h,?_,ace g H.nd,λb e=>H.lo b (g.subset e),H.lt,B' H.ln K.len,H.bs.Fb K (λb e=>H.lb b (by grind)),λb e=>H.lb b (by grind)⟩
 .refine ace ?_ H.nn
  simp
theorem Ps.more(H:Ps a o0 E Z)(K:ao [o0.d,o0.P] a y)(p:χ.n∉Z.map (·.n))(j:Tn y o0.T o0.t o0.s o0.r o0.m o0.d (oX (Z++[χ])) E)(k:cw y o0.P (gW (Z++[χ])))(u:Yx y o0.d E χ)(i:∀c∈g_ χ,a.length<=c)(l:(g_ χ).Nodup):Ps y o0 E (Z++[χ]):=by
 have f:=H.low;have q:∀c,o0.n0<=c->c∉[o0.d,o0.P]:=λc h=>by simp;exact⟨ä (M' (Â f.2.2.2.2.1 f.2.2.2.2.2) h),ä (M' f.2.2.2.2.2 h)⟩
 have g:ads (Z++[χ])=ads Z++g_ χ:=by simp[ads]
 have o:∀c∈ads Z,c<a.length:=λc ha=>by
  obtain⟨z,hz,ha⟩:=adH.mp ha;have Y:=H.al z hz;simp at ha;rcases ha with rfl|rfl|rfl|rfl
  .exact aX Y.G.ob
  .exact aX Y.G.sl
  .exact aX Y.R
  .exact aX Y.O
 refine⟨j,k,λz hz=>?_,?_,?_,λc ha=>?_,H.lt,B' H.ln K.len,H.bs.Fb K (λc ha=>H.lb c (by grind)),λc ha=>?_⟩
 .rcases Ô.mp hz with hz|hz
  .exact(H.al z hz).keep K (λc ha=>q c (H.hi hz c ha)) λ_ _ h=>h
  simp_all
 .rw[ı]
  exact ā.mpr ⟨H.nn,by simp,by simp_all⟩
 .rw[g]
  refine ā.mpr ⟨H.nd,l,λc ha b w e=>?_⟩
  grind
 .rw[g]at ha
  rcases Ô.mp ha with ha|ha
  .exact H.lo c ha
  .have:=i c ha
   have:=H.ln;omega
 .rcases Ô.mp ha with ha|ha
  .exact H.lb c (Ė _ ha)
  .rw[g]at ha
   rcases Ô.mp ha with ha|ha
   .exact H.lb c (Ù _ ha)
   .have:=i c ha
    have:=H.bs.len;exact .inr (by omega)
structure Fz(S:List Nat)(Ω av:az):Prop where
 len:Ω.length<=av.length
 get:∀(k:Nat) (c:Cell),Ω[k]?=some c->av[k]?=some c\/∃kvs,k∈S/\c=.dK kvs/\av[k]?=some (.dF kvs)
theorem Fz.of(K:ao [] a y):Fz T a y:=⟨K.len,λk c h=>.inl (K.get k c h (by simp))⟩
theorem Fz.trans(d:Fz T a M5)(b:Fz T M5 y):Fz T a y:=⟨B' d.len b.len,λk c h=>by
 rcases d.get k c h with h|⟨f,g,e,h⟩
 .exact b.get k c h
 .rcases b.get k _ h with h|⟨_,_,z,_⟩
  .simp_all
  .cases z⟩
theorem Fz.set{Ω d S kvs}(h:cw Ω d kvs)(b:d∈S):Fz S Ω (Ω.set d (.dF kvs)):=⟨by simp,λk c a=>by
 by_cases e:d=k
 .have:=aX a
  rcases h with h|h
  .simp_all
  simp_all
 simp_all⟩
theorem Fz.fh(F:Fz T a y):ao [] a (cG a y):=⟨by unfold cG;rw[afS];exact F.len,λk c h _=>by
 unfold cG;rw[ĳ];rcases F.get k c h with b|⟨d,_,rfl,b⟩
 .rw[b,h]
  cases c<;>rfl
 .rw[b,h]
  rfl⟩
theorem Fz.dct(F:Fz T a y)(h:cw a b Y):cw y b Y:=by
 rcases h with h|h
 .rcases F.get _ _ h with h|⟨_,_,z,h⟩
  .exact .inl h
  .cases z;exact .inr h
 .rcases F.get _ _ h with h|⟨_,_,z,h⟩
  .exact .inr h
  .cases z
theorem Fz.at(F:Fz T a y)(h:a[b]?=some F3)(c:b∉T\/∀kvs,F3≠.dK kvs):y[b]?=some F3:=by
 rcases F.get _ _ h with h|⟨_,d,z,h⟩
 .exact h
 simp_all
abbrev OO(A:Ae)(M:List Tz):=A.P::M.map (·.o)
theorem Ym(h:C q a=.ok m y):fC C q a=.ok m (cG a y):=by unfold fC;rw[h]
structure Sn(Ω:az)(A:Ae)(L:List (List Str))(M:List Tz):Prop where
 W:Tn Ω A.T A.t A.s A.r A.m A.d (oX M) L
 pd:cw Ω A.P (gW M)
 al:∀y∈M,Tg Ω A.d y.c y.l y.i y.k y.v L/\Ω[y.j]?=some (.lst [.str y.k,.ref y.o])/\cw Ω y.o (cP y.v)
theorem Ps.fz(H:Ps a o0 E Z)(F:Fz (OO o0 Z) a y):Sn y o0 E Z:=by
 have g:=H.low
 have f:o0.d∉OO o0 Z:=λh=>by
  rcases È.mp h with h|h
  .simp_all
  .obtain⟨b,c,e⟩:=Î.mp h
   have:=H.hi c b.o (by simp)
   omega
 refine⟨⟨F.at H.W.ob (by simp),F.at H.W.dk (.inl f),⟨F.at H.W.sh.ob (by simp),F.at H.W.sh.ro (by simp),F.at H.W.sh.nu (by simp)⟩,H.W.nd,H.W.lt⟩,F.dct H.pd,λb c=>?_⟩
 have Y:=H.al b c;exact⟨⟨F.at Y.G.ob (by simp),F.at Y.G.sl (by simp),Y.G.wd,Y.G.nd,Y.G.le,Y.G.lt⟩,F.at Y.R (by simp),F.dct (.inl Y.O)⟩
structure Jg(P:Nat->Prop)(Ω:az)(t h:Nat)(E:kG)(N:Str->List Str)(fs:List (Str×D))(fq:List Nat):Prop where
 to:Ω[t]?=some (.ins "Town" (("house",.ref h)::fs))
 ho:dy P Ω h E N
 nt:t∉fq
 nh:h∉fq
 np:∀j,P j->j∉fq
 ne:∀e l,Ω[h]?=some (.ins "House" [("elders",.ref e),("lines",.ref l)])->e∉fq/\l∉fq
theorem dy.Se(H:dy R0 a b Q0 M3)(K:ao T a y)(h:b∉T)(i:∀j,R0 j->j<a.length->j∉T)(k:∀e l,a[b]?=some (.ins "House" [("elders",.ref e),("lines",.ref l)])->e<a.length->l<a.length->e∉T/\l∉T):dy R0 y b Q0 M3:=by
 refine cC H.lt λe l m n c d o f p=>?_
 obtain⟨q,r⟩:=k e l c d.lt f.lt;have g:∀j∈T,¬ (R0 j/\j<a.length):=λj s z=>i j z.1 z.2 s
 have:dy _ _ b Q0 M3:=⟨e,l,_,_,K.get _ _ c h,d.keep K q,o.keep K g,f.keep K r,p.keep K g⟩;exact this.imp λj z=>z.1
theorem Jg.keep(H:Jg R0 a b w Q0 M3 m3 T)(K:ao o7 a y)(k:∀c∈o7,c∈T\/a.length<=c):Jg R0 y b w Q0 M3 m3 T:=by
 have f:=λc d i m=>(k c m).elim i λz=>Û _ (Ø z d)
 refine xe (by
  refine ee H.ho λe l _ _ d _=>?_
  exact⟨e,l,d⟩) λr g=>xe g λs d=>?_
 have i:=K.get _ _ d (f _ (aX d) H.nh);refine⟨K.get _ _ H.to (f _ (aX H.to) H.nt),H.ho.Se K (f _ (aX d) H.nh) (λj n o=>f j o (H.np j n)) (λe l h p q=>⟨f _ p (H.ne e l h).1,f _ q (H.ne e l h).2⟩),H.nt,H.nh,H.np,λe l h=>H.ne e l ?_⟩
 simp_all
def pC(a as):=d8 (dH sg il a as) (dH AV qy a as)
variable{η:D}
theorem iQ(d:p v a=.ok (.ref b) a)(e:u0 v a=.ok [η] a)(c:a[b]?=some (.dK Y))(f:kb η=some z7)(g:a9 Y z7=some m):pC p u0 v a=.ok m (a.set b (.dK (et Y z7))):=by
 have h:dH sg il p u0 v a=.bad:=by
  unfold dH;rw[d,eA];simp[sg,cR,c]
 unfold pC;rw[Ir,h,Mx,MD d (by simp[AV,c]),e,eA]
 simp only[qy,c,f,g]
theorem sW(a:(Z.map (·.n)).Nodup)(b:χ∈Z):a9 (oX Z) (.inr χ.n)=oR χ.c:=by
 obtain⟨M1,M2,rfl⟩:=ach b;exact jy a
theorem sX(a:(Z.map (·.n)).Nodup)(b:χ∈Z):a9 (gW Z) (.inr χ.n)=oR χ.j:=by
 obtain⟨M1,M2,rfl⟩:=ach b;exact lr a
def Sf(a):=
 (ag (cA (aI "Things" "thing" a (ae 0) (af (ae 1) aj)))
 (ag (cA (pC (m1 (bf ["Things"] "made") (ae 0)) (af (ae 1) aj)))
 ah))
theorem Sg(d:cZ C)(W:Tn a w ζ A0 B1 E1 b (oX (Z++χ::y2)) E)(c:((Z++χ::y2).map (·.n)).Nodup):aH 2 2 (Sf C) [.ref w,.str χ.n] a=.ok .non (a.set b (.dK (oX (Z++y2)))):=
 fZ ((qE (eY d W (jy c) rfl rfl)).trans (qE ((iQ (eF rfl W.ob) rfl W.dk rfl (jy c)).trans (by rw[show et (oX _) _=_ from vh c];rfl))))
def OP:=
 (ag (bj (m2 (bh .Sub) (m2 (bh .Mod) (m2 (bh .Mult) (ae 0) (au (.int 48271))) (m2 (bh .Mult) (au (.int 2)) (m2 (bh .Pow) (au (.int 10)) (au (.int 59))))) (m2 (bh .Pow) (au (.int 10)) (au (.int 59)))))
 ah)
theorem Si(x):∃v,∀Ω,aH 1 1 OP [.int x] Ω=.ok (.int v) Ω:=⟨x*48271%(2*10 ^ 59) - 10 ^ 59,λΩ=>by simp[eG,cS,OP,show kP 48271=true by decide,show kP 2=true by decide]⟩
theorem Fc{w x}:∀{v},(cx v).Nodup->dG (cP v) (.inr w) (.int x)=cP (gQ v w x)
 |[],_=>rfl
 |p::v,h=>by
  have b:=Ħ.mp h
  by_cases e:p.1=w
  .subst e
   have c:gQ (p::v) p.1 x=(p.1,x)::v:=by
    unfold gQ;simp
   have d:(cP v).map (λa=>if a.1=(.inr p.1)then (a.1,(.int x))else a)=cP v:=by
    refine(adn λa f=>?_).trans (ab' _)
    obtain⟨q,i,rfl⟩:=Î.mp f
    grind
   rw[c];unfold dG;rw[if_pos (by simp[cP])]
   show((if ((.inr _:Key),(.int _:D)).1=.inr _ then _ else _)::(cP v).map _)=_
   rw[if_pos rfl,d];rfl
  .have c:gQ (p::v) w x=p::gQ v w x:=by
    unfold gQ
    grind
   have d:dG (cP (p::v)) (.inr w) (.int x)=((.inr p.1),(.int p.2))::dG (cP v) (.inr w) (.int x):=by
    have g:¬ ((.inr p.1:Key)=.inr w):=by simp_all
    unfold dG
    have:((cP (p::v)).any λa=>decide (a.1=(.inr w)))=((cP v).any λa=>decide (a.1=(.inr w))):=by
     show(decide _||_)=_
     rw[decide_eq_false g];rfl
    rw[this];split
    .show((if (.inr _:Key)=.inr w then _ else _)::_)=_
     rw[if_neg g];rfl
    .rfl
   rw[c,d,(Fc b.2)];rfl
theorem zA{w}:∀{v},(cx v).Nodup->w∈cx v->et (cP v) (.inr w)=cP (iW v w)
 |p::v,f,h=>by
  have a:=Ħ.mp f
  by_cases e:p.1=w
  .subst e
   have b:iW (p::v) p.1=v:=by
    unfold iW;simp
   rw[b]
   show(((.inr _),(.int _))::cP v).filter _=_
   rw[ī,if_neg (by simp)]
   refine ŉ.mpr λi c=>?_
   obtain⟨q,j,rfl⟩:=Î.mp c
   grind
  .have d:w∈cx v:=by
    grind
   have b:iW (p::v) w=p::iW v w:=by
    unfold iW
    grind
   have g:et (cP (p::v)) (.inr w)=((.inr p.1),(.int p.2))::et (cP v) (.inr w):=by
    unfold et
    show(((.inr _),(.int _))::cP v).filter _=_
    simp_all
   rw[b,g,(zA a.2 d)];rfl
theorem xn{w}:∀{v},(a9 (cP v) (.inr w)).isSome=decide (w∈cx v)
 |[]=>by rfl
 |p::v=>by
  rw[cP,Ü,bK]
  by_cases e:p.1=w
  .simp_all
  .rw[if_neg (by simp_all)]
   have:decide (w∈cx (p::v))=decide (w∈cx v):=by
    grind
   rw[this];exact(xn (v:=v))
theorem Jh(a:∀u∈cx v4,iU u)(b:iU h):∀u∈cx (gQ v4 h x),iU u:=by
 unfold gQ
 grind
theorem vi(a:B∈cx (iW v4 h)):B∈cx v4:=by
 obtain⟨p,b,rfl⟩:=Î.mp a;exact Î.mpr ⟨p,List.mem_of_mem_eraseIdx b,rfl⟩
structure Q4(Ω:az)(A:Ae)(L:List (List Str))(M:List Tz)(ns:List Str):Prop where
 H:Ps Ω A L M
 p:Ω[A.P]?=some (.dK (gW M))
 z:L[0]?=some []
 i:∀y∈M,y.n∈ns
 u:∀y∈M,∀w∈cx y.v,iU w
def qJ(L a:List (List Str))(b:List Tz):=a=L\/∃R,R∉L/\a=L++[R]/\∃y∈b,cx y.v=R
theorem sY(h:χ∈Z):qJ E (de E (cx χ.v)) Z:=by
 by_cases a:cx χ.v∈E
 .exact .inl (if_pos a)
 .exact .inr ⟨_,a,if_neg a,χ,h,rfl⟩
abbrev vE(A:Ae)(Q:D)(x:Int)(a b c:Option D)(n kd w:Str)(v:Int)(o:Option D):aZ:=[oR A.T,oR A.P,some Q,oI x,a,b,c,oS n,oS kd,oS w,oI v,o]
def dMk(a):=(ag (fA (ae 1) (ae 7) (mN cz (af (ae 8) (af ck aj))))
 (ag (bj (m2 (aJ .Is) (aI "Things" "make" a (ae 0) (af (ae 7) (af (ae 8) aj))) (au .non)))
 ah))
theorem zB(a:χ.n∉Z.map (·.n)):dG (Z.map λχ=>((.inr χ.n:Key),n9 χ)) (.inr χ.n) (n9 χ)=(Z++[χ]).map λχ=>((.inr χ.n),n9 χ):=by
 rw[zp,ı]
 .rfl
 simp_all
theorem Nk(K:gb C)(L:iv Ξ)(H:Q4 a o0 E Z l)(M:Jg R0 a o0.t b Q0 M3 m3 (own o0 Z))(N:P4∈nms Q0)(O:iU h)(f:h∉Z.map (·.n))(P:h∈l)(Q:Z.length<40):
  ∃r av,dMk (aH 3 3 (RV C Ξ (aH 2 2 OL))) (vE o0 m J E2 B4 N5 h P4 B P0 none) a=.rt (.bl true) av/\Q4 av o0 E r l/\r.length<=Z.length+1:=by
 have lw:=H.H.low;have lP:=aX H.p;refine ay (kA (nDk (a:=a) (v:=vE o0 m J E2 B4 N5 h P4 B P0 none))) λc R j w=>?_
 refine ay (kA (lN (q:=[.str P4,.ref a.length]) (a:=c))) λS T e x=>?_
 have l0:=aX w;have A:=e.g (j.g H.p);refine ay (kD (oK (h:=h) (m:=.ref c.length) A (by simp[gW];exact Bo Q)) A) λU V d X=>?_
 have D:=((H.H.W.aU j).aU e).keep d;have F:=((M.keep j (by simp)).keep e (by simp)).keep d (by simp)
 refine bg (RW K L D F.to F.ho N O (sV f) (by simp[oX];omega) H.z) λG Y e3 I G3 k lc=>?_
 have R3:=k.g (d.g x);have O3:=k.g (d.g (e.g w))
 let y:Tz:=⟨h,G,G+1,0,P4,[],c.length,a.length⟩
 rw[show dG (oX Z) _ _=oX _ from zB (χ:=y) f]at I
 have o:=k.g X;rw[show dG (gW Z) _ _=gW _ from zB (χ:=y) f]at o
 have l1:=aX x;have l2:=d.len;refine⟨_,_,(qD (eN (eK rfl (eK R rfl)) T) rfl rfl V).trans (qR (eQ (eM rfl D.ob rfl e3) rfl EC)),⟨H.H.more (((j.trans e).tr d).s.trans k.s) f I (.inl o) ⟨G3,R3,O3⟩ (λq hq=>?_) ?_,o,H.z,ifA H.i P,ifA H.u (by simp[y])⟩,by simp⟩
 .grind
 grind
def dPu(a b):=(ag (fA (ae 11) (ae 9) (mN (bw a) (af (ae 3) aj)))
 (ag (bj (m2 (aJ .Is) (aI "Things" "put" b (ae 0) (af (ae 7) (af (ae 9) (af (m2 bc (ae 11) (ae 9)) aj)))) (au .non)))
 ah))
variable{J8:Tz}
theorem Q4.of(h:Q4 a o0 E (Z++χ::y2) l)(c:Ps y o0 w8 (Z++J8::y2))(d:y[o0.P]?=a[o0.P]?)(hz:w8[0]?=some [])(b:J8.n=χ.n)(e:J8.j=χ.j)(f:∀u∈cx J8.v,iU u):Q4 y o0 w8 (Z++J8::y2) l:=
 ⟨c,by rw[d,h.p];simp[gW,b,e],hz,Vp h.i (b▸h.i χ (by simp)),Vp h.u f⟩
theorem Ps.out(H:Ps a o0 E (Z++χ::y2)):o0.P∉[o0.r,o0.m]++g_ χ/\o0.d<χ.c/\o0.d<χ.l/\o0.d<χ.j/\o0.d<χ.o/\o0.P<χ.c/\o0.P<χ.l/\o0.P<χ.j/\o0.P<χ.o/\χ.c≠χ.j/\χ.c≠χ.o/\χ.l≠χ.j/\χ.l≠χ.o/\χ.j≠χ.o/\χ.c≠χ.l:=by
 have b:=H.low;have f:=H.hi (χ:=χ) (by simp)
 have g:=f χ.c (by simp)
 have h:=f χ.l (by simp)
 have i:=f χ.j (by simp)
 have k:=f χ.o (by simp)
 have n:=H.nd;rw[eZ]at n;have e:=(ā.mp (ā.mp n).2.1).1;simp at e;refine⟨?_,M' (Â b.2.2.2.2.1 b.2.2.2.2.2) g,M' (Â b.2.2.2.2.1 b.2.2.2.2.2) h,M' (Â b.2.2.2.2.1 b.2.2.2.2.2) i,M' (Â b.2.2.2.2.1 b.2.2.2.2.2) k,M' b.2.2.2.2.2 g,M' b.2.2.2.2.2 h,M' b.2.2.2.2.2 i,M' b.2.2.2.2.2 k,e.1.2.1,e.1.2.2,e.2.1.1,e.2.1.2,e.2.2,e.1.1⟩;simp;exact⟨ä (Â (Â b.2.2.1 b.2.2.2.1) b.2.2.2.2.1),⟨ä (Â b.2.2.2.1 b.2.2.2.2.1),⟨U' (M' b.2.2.2.2.2 g),⟨U' (M' b.2.2.2.2.2 h),⟨U' (M' b.2.2.2.2.2 i),U' (M' b.2.2.2.2.2 k)⟩⟩⟩⟩⟩
abbrev yP(y:Tz)(i:Nat)(v:List (Str×Int)):Tz:=⟨y.n,y.c,y.l,i,y.k,v,y.j,y.o⟩
theorem Kx(x:gb C)(y:cZ Ξ)(z:eH y3)(A:iV S5)(H:Ps a o0 E (Z++χ::y2))(B:iU h)(D:E.length<=500)(F:h∈cx χ.v\/χ.v.length<12):
  ∃i b c,gU (.ref χ.o) (.str h) (.int J) a=some b/\Tn b o0.T o0.t o0.s o0.r o0.m o0.d (oX (Z++χ::y2)) E/\bc (.ref χ.o) (.str h) b=.ok (.int J) b/\aH 6 4 (Bv C Ξ y3 S5) [.ref o0.T,.str χ.n,.str h,.int J] b=.ok .non c/\Ps c o0 (de E (cx (gQ χ.v h J))) (Z++yP χ i (gQ χ.v h J)::y2)/\ao ([o0.r,o0.m]++g_ χ) a c:=by
 have Y:=H.al χ (by simp)
 have o:=H.out.2;have Q:=H.low;refine ay (kD (oK (h:=h) (m:=.int J) Y.O (by have:=Y.G.le;simp[cP];exact fG this)) Y.O) λb I f k=>?_
 have l:=fV (.inl k) (by rw[qC,if_pos rfl])
 rw[Fc Y.G.nd]at k;have w:=H.W.keep f;refine bO (RT x y z A w (jy H.nn) (Y.G.keep f) B D (J:=J) F) λi S c L M N p=>xa p λq u=>?_;subst u
 have K:=(f.s.trans q.s:ao ([o0.r,o0.m]++g_ χ) a _);exact⟨i,_,_,I,w,l,L,H.upd K M (λj P e=>iw e) rfl rfl ⟨N,q.g (f.g Y.R),q.g k⟩,K⟩
theorem Kz(B:cZ C)(D:eH Ξ)(F:jw y3)(H:Ps a o0 E (Z++χ::y2))(I:E.length<=500)(l:h∈cx χ.v):
  ∃i c e p,(∀{q}{y}{as},y q a=.ok (.ref χ.o) a->as q a=.ok [.str h] a->pC y as q a=.ok p c)/\Tn c o0.T o0.t o0.s o0.r o0.m o0.d (oX (Z++χ::y2)) E/\aH 5 3 (EY C Ξ y3) [.ref o0.T,.str χ.n,.str h] c=.ok .non e/\Ps e o0 (de E (cx (iW χ.v h))) (Z++yP χ i (iW χ.v h)::y2)/\ao ([o0.r,o0.m]++g_ χ) a c/\ao ([o0.r,o0.m]++g_ χ) a e:=by
 have Y:=H.al χ (by simp)
 have o:=H.out.2;have U:=H.low;obtain⟨p,J⟩:=Ϩ.mp (xn.trans (decide_eq_true l));refine ay (ao.st (e':=.dK (cP (iW χ.v h))) Y.O) λc z k L=>?_
 have A:=H.W.keep k;refine bO (RU B D F A (jy H.nn) (Y.G.keep k) I l) λi V e M N P u=>xa u λw x=>?_;subst x
 have f:=(k.s:ao ([o0.r,o0.m]++g_ χ) a _);have K:=f.trans w.s;exact⟨i,_,_,p,λb Q=>(iQ b Q Y.O rfl J).trans (by rw[zA Y.G.nd l,z]),A,M,H.upd K N (λj S b=>iw b) rfl rfl ⟨P,w.g (k.g Y.R),w.g L⟩,f,K⟩
theorem Nl{Ω A L M1 M2 y w kd x v0 Q a b c g h j k}(r:gb g)(s:cZ h)(t:eH j)(B:iV k){l}(H:Q4 Ω A L (M1++y::M2) l)(m:iU w)(C:L.length<=500)(E:w∈cx y.v\/y.v.length<12):
  ∃q e av,dPu (aH 1 1 OP) (aH 6 4 (Bv g h j k)) (vE A Q x a b c y.n kd w v0 (oR y.o)) Ω=.rt (.bl true) av/\Q4 av A q e l/\qJ L q e/\e.length<=(M1++y::M2).length+1:=by
 obtain⟨F,d⟩:=Si x;obtain⟨i,G,I,J,M,f,N,O,K⟩:=Kx r s t B H.H m C E;exact⟨_,_,_,(qD (eC rfl (d _)) rfl rfl J).trans (qR (eQ (eM rfl M.ob (eK rfl (eK rfl (eK (eQ rfl rfl f) rfl))) N) rfl EC)),H.of O ((K.get _ _ H.p H.H.out.1).trans H.p.symm) (iw H.z) rfl rfl (Jh (H.u y (by simp)) m),sY (χ:=yP y i (gQ _ w _)) (by simp),by simp⟩
def dTk(a):=(ag (cA (pC (ae 11) (af (ae 9) aj)))
 (ag (bj (m2 (aJ .Is) (aI "Things" "take" a (ae 0) (af (ae 7) (af (ae 9) aj))) (au .non)))
 ah))
theorem Nm(d:cZ C)(e:eH Ξ)(f:jw y3)(H:Q4 a o0 E (Z++χ::y2) l)(g:E.length<=500)(j:h∈cx χ.v):
  ∃c b av,dTk (aH 5 3 (EY C Ξ y3)) (vE o0 m J E2 B4 N5 χ.n B h P0 (oR χ.o)) a=.rt (.bl true) av/\Q4 av o0 c b l/\qJ E c b/\b.length<=(Z++χ::y2).length+1:=by
 refine bo (Kz d e f H.H g j) λi k q y r s t w _ K=>?_
 exact⟨_,_,_,(qE (r rfl rfl)).trans (qR (eQ (eM rfl s.ob rfl t) rfl EC)),H.of w ((K.get _ _ H.p H.H.out.1).trans H.p.symm) (iw H.z) rfl rfl (λu x=>H.u χ (by simp) u (vi x)),sY (χ:=yP χ i (iW _ h)) (by simp),by simp⟩
def dMv(a):=(ag (fA (m2 bc (ae 1) (ae 7)) (au (.int 0)) (ae 8))
 (ag (bj (m2 (aJ .Is) (aI "Things" "move" a (ae 0) (af (ae 7) (af (ae 8) aj))) (au .non)))
 ah))
theorem Nn(x:cZ C)(y:iv Ξ)(H:Q4 a o0 E (Z++χ::y2) l)(A:Jg R0 a o0.t b Q0 M3 m3 (own o0 (Z++χ::y2)))(D:B∈nms Q0):
  ∃k f av,dMv (aH 4 3 (Kr C Ξ)) (vE o0 m J E2 B4 N5 χ.n B h P0 (oR χ.o)) a=.rt (.bl true) av/\Q4 av o0 k f l/\qJ E k f/\f.length<=(Z++χ::y2).length+1:=by
 have Y:=H.H.al χ (by simp)
 have o:=H.H.out.2;refine ay (dL (w:=0) (.str B) Y.R (by simp)) λF I d K=>?_
 have q:=H.H.W.keep d
 have r:=A.keep d λE2 L=>by
  rw[è.mp L];exact .inl (Ù _ (jx (χ:=χ) (by simp) _ (by simp)))
 refine dN (Ks x y q (jy H.H.nn) (Y.G.keep d) r.to r.ho D) λM N P Q e=>?_
 have R2:=e.g K;have O2:=e.g (d.g Y.O)
 let y':Tz:=⟨χ.n,χ.c,χ.l,χ.i,B,χ.v,χ.j,χ.o⟩
 exact⟨E,_,_,(qD rfl (eQ rfl rfl (fV H.H.pd (lr H.H.nn))) rfl I).trans (qR (eQ (eM rfl q.ob rfl N) rfl EC)),H.of (H.H.upd (y':=y') (d.s.trans e.s) P (λj S b=>b) rfl rfl ⟨Q,R2,O2⟩) ((e.g (d.g H.p)).trans H.p.symm) H.z rfl rfl (H.u χ (by simp)),.inl rfl,by simp⟩
def dDp(DP AL):=(ag (cA (pC (ae 1) (af (ae 7) aj)))
 (ag (bj (m2 (aJ .Is) (d8 (aI "Things" "drop" DP (ae 0) (af (ae 7) aj)) AL) (au .non)))
 ah))
variable{t8:Option D}
theorem Np(q:cZ C)(H:Q4 a o0 E (Z++χ::y2) l):
  ∃e c av,dDp (aH 2 2 (Sf C)) p (vE o0 m J E2 B4 N5 χ.n B h P0 t8) a=.rt (.bl true) av/\Q4 av o0 e c l/\qJ E e c/\c.length<=(Z++χ::y2).length+1:=by
 have A:=H.H.low;refine ay (kO (iQ (v:=vE o0 m J E2 B4 N5 _ B h P0 t8) (p:=ae 1) (u0:=af (ae 7) aj) rfl rfl H.p rfl (lr H.H.nn)) H.p) λr t f j=>?_
 rw[show et (gW _) _=gW _ from vh H.H.nn]at j
 have d:=H.H.W.keep f;refine ay (kO (Sg q d H.H.nn) d.dk) λw x k y=>?_
 have o:=k.g j;exact⟨E,_,_,(qE t).trans (qR (eQ (al (eM rfl d.ob rfl x)) rfl EC)),⟨H.H.drop (f.s.trans k.s) y (.inl o),o,H.z,λz b=>H.i z (by simp at b ⊢;exact b.imp_right .inr),λz b=>H.u z (by simp at b ⊢;exact b.imp_right .inr)⟩,.inl rfl,by simp;omega⟩
def Sj(F:List D->Out Rs)(a:Nat)(t:Int):=(m2 bc (ae a) (mN (fx F) (af (ae 3) (af (au (.int t)) (af (mN (cb .len) (af (ae a) aj)) aj)))))
theorem Fd(e:jX y8 m6)(h:a[b]?=some (.lst (l.map .str)))(p:0<l.length)(j:0<=P0)(q:P0<1000):∃w∈l,∀{f}{d},f[d]?=some (oR b)->f[3]?=some (oI J)->Sj m6 d P0 f a=.ok (.str w) a:=by
 have g:=gO h;refine kH (e J P0 l.length j (by omega) (by omega)) λs t k=>?_
 generalize y8 J P0 _=r at *;obtain⟨c,rfl⟩:∃c:Nat,(c)=r:=⟨r.toNat,by omega⟩
 obtain⟨w,i⟩:∃w,l[c]?=some w:=⟨l[c]'(by omega),î _⟩
 have m:=aY h (L2.dB (b:=c) (v:=.str w) (by simp[i]))
 exact⟨w,Ë i,λn o=>by simp[Sj,n,o,g,k,m]⟩
structure Pol(Ω:az)(A:Ae)(M:List Tz)(nq kq wq h:Nat)(ns ks hs ws:List Str):Prop where
 n:Ω[nq]?=some (.lst (ns.map .str))
 k:Ω[kq]?=some (.lst (ks.map .str))
 w:Ω[wq]?=some (.lst (ws.map .str))
 t:∃P fs,Jg P Ω A.t h (bare hs) (λn=>[n]) fs (own A M)
 kh:∀k∈ks,k∈hs
 vn:∀u∈ns,iU u
 vw:∀u∈ws,iU u
 ln:ns.length=5
 lk:ks.length=3
 lw:1<=ws.length/\ws.length<=14
 nw:ws.Nodup
def dA(y:Int):=(m2 (aJ .Lt) (ae 10) (au (.int y)))
def Yn(F:List D->Out Rs)(a b c d e DP AL):=
 (ag (HP [4,5,6] (ae 2))
 (ag (aR 7 (Sj F 4 0))
 (ag (aR 8 (Sj F 5 1))
 (ag (aR 9 (Sj F 6 2))
 (ag (aR 10 (mN (fx F) (af (ae 3) (af (au (.int 3)) (af (au (.int 9)) aj)))))
 (ag (dP (m2 (aJ .NotIn) (ae 7) (ae 1)) (dMk b) ah)
 (ag (aR 11 (m2 bc (m2 bc (ae 1) (ae 7)) (au (.int 1))))
 (ag (dP (gY (dA 5) (yv (m2 (aJ .In) (ae 9) (ae 11)) (m2 (aJ .Lt) (mN (cb .len) (af (ae 11) aj)) (au (.int 12))))) (dPu a c) ah)
 (ag (dP (gY (dA 7) (m2 (aJ .In) (ae 9) (ae 11))) (dTk d) ah)
 (ag (dP (m2 (aJ .Eq) (ae 10) (au (.int 7))) (dMv e) ah)
 (ag (dP (m2 (aJ .Eq) (ae 10) (au (.int 8))) (dDp DP AL) ah)
 (ag (bj (au (.bl true)))
 ah))))))))))))
abbrev Sk(F:List D->Out Rs)(b a c e f d AL):=aH 12 4 (Yn F (aH 1 1 OP) (aH 3 3 (RV b d (aH 2 2 OL))) (aH 6 4 (Bv b a c e)) (aH 5 3 (EY a c f)) (aH 4 3 (Kr a d)) (aH 2 2 (Sf a)) AL)
variable{R7 T7:aK}
theorem Sl{ws}(s:jX y8 m6)(hI:gb C)(S:cZ Ξ)(hS:eH y3)(hG:iV S5)(hW:jw R7)(hC:iv T7)(B:Pol a o0 Z w ζ A0 b l M0 u8 ws)(H:Q4 a o0 E Z l)(hl:E.length<=500)(hm:Z.length<40)(L:∀r g av,Sk m6 C Ξ y3 S5 R7 T7 p [.ref o0.T,.ref o0.P,.tup [.ref w,.ref ζ,.ref A0],.int J] a=.ok (.bl true) av->Q4 av o0 r g l->qJ E r g->g.length<=Z.length+1->T4):T4:=by
 have ln:=B.ln;have lk:=B.lk;have lw:=B.lw;refine bx (Fd (J:=J) (P0:=0) s B.n (by omega) (by decide) (by decide)) λn hn e1=>?_
 refine bx (Fd (J:=J) (P0:=1) s B.k (by omega) (by decide) (by decide)) λkd U e2=>?_
 refine bx (Fd (J:=J) (P0:=2) s B.w (by omega) (by decide) (by decide)) λf V e3=>?_
 refine kH (s J 3 9 (by decide) (by decide) (by decide)) λy0 y1 hy=>?_
 generalize y8 J 3 9=v0 at *;have R:∀{d av},_=d_.rt d av->Sk m6 C Ξ y3 S5 R7 T7 p [.ref o0.T,.ref o0.P,.tup [.ref w,.ref ζ,.ref A0],.int J] a=.ok d av:=λe=>fR ((qN rfl).trans ((qA (e1 rfl rfl)).trans ((qA (e2 rfl rfl)).trans ((qA (e3 rfl rfl)).trans ((qA (eV rfl hy)).trans e)))))
 have M:kd∈nms (bare u8):=by rw[dC];exact B.kh _ U
 refine xe B.t λP X=>xe X λfs ht=>?_
 by_cases G:n∈Z.map (·.n)
 .refine ek (mR G) λM1 y M2 a0 b0=>?_;subst a0;subst b0
  have Y:=H.H.al y (by simp)
  have q:=zj (h:=y.n) H.H.pd;rw[lr H.H.nn]at q;have R:∀{d av},_=d_.rt d av->_:=λ{d av} e=>R (d:=d) (av:=av) ((q0 (eQ rfl rfl q)).trans ((qA (eQ (eQ rfl rfl (fV H.H.pd (lr H.H.nn))) rfl (aY Y.R rfl))).trans e))
  have i:=EG (h:=f) (.inl Y.O:cw a y.o (cP y.v));rw[xn]at i;have I:=zk (.inl Y.O:cw a y.o (cP y.v));rw[show((cP y.v).length:Int)=y.v.length by simp[cP]]at I
  by_cases N:v0<5/\(f∈cx y.v\/y.v.length<12)
  .refine bO (Nl (Q:=.tup [.ref w,.ref ζ,.ref A0]) (a:=oR w) (b:=oR ζ) (c:=oR A0) (kd:=kd) (v0:=v0) (x:=J) hI S hS hG H (B.vw f V) hl N.2) λr g av e u A K=>?_
   refine L r g av (R ((qT (y:=a) (aT (eQ rfl rfl (Kj (decide_eq_true N.1))) ?_)).trans (qB e))) u A K
   by_cases D:f∈cx y.v
   .exact oT (eQ rfl rfl (i.trans (by rw[decide_eq_true D])))
   .exact oF (eQ rfl rfl (i.trans (by rw[decide_eq_false D]))) (eQ (eN rfl I) rfl (Kj (decide_eq_true (by have:=N.2.resolve_left D;exact Oq this))))
  have R:∀{d av},_=d_.rt d av->_:=λ{d av} e=>R (d:=d) (av:=av) ((q0 (y:=a) (by
   by_cases F:v0<5
   .exact aT (eQ rfl rfl (Kj (decide_eq_true F))) (oF (eQ rfl rfl (i.trans (by rw[decide_eq_false λz=>N ⟨F,.inl z⟩]))) (eQ (eN rfl I) rfl (Kj (decide_eq_false λz=>N ⟨F,.inr (by omega)⟩))))
   .exact aF (eQ rfl rfl (Kj (decide_eq_false F))))).trans e)
  by_cases D:v0<7/\f∈cx y.v
  .refine bO (Nm (m:=.tup [.ref w,.ref ζ,.ref A0]) (E2:=oR w) (B4:=oR ζ) (N5:=oR A0) (B:=kd) (P0:=v0) (J:=J) S hS hW H hl D.2) λr g av e u A K=>?_
   exact L r g av (R ((qT (aT (eQ rfl rfl (Kj (decide_eq_true D.1))) (eQ rfl rfl (i.trans (by rw[decide_eq_true D.2]))))).trans (qB e))) u A K
  have R:∀{d av},_=d_.rt d av->_:=λ{d av} e=>R (d:=d) (av:=av) ((q0 (y:=a) (by
   by_cases F:v0<7
   .exact aT (eQ rfl rfl (Kj (decide_eq_true F))) (eQ rfl rfl (i.trans (by rw[decide_eq_false λz=>D ⟨F,z⟩])))
   .exact aF (eQ rfl rfl (Kj (decide_eq_false F))))).trans e)
  by_cases g3:v0=7
  .refine bO (Nn (m:=.tup [.ref w,.ref ζ,.ref A0]) (E2:=oR w) (B4:=oR ζ) (N5:=oR A0) (h:=f) (P0:=v0) (J:=J) S hC H ht M) λr g av e u A K=>?_
   exact L r g av (R ((qT (eQ rfl rfl (Bt (decide_eq_true g3)))).trans (qB e))) u A K
  by_cases g4:v0=8
  .refine bO (Np (m:=.tup [.ref w,.ref ζ,.ref A0]) (E2:=oR w) (B4:=oR ζ) (N5:=oR A0) (B:=kd) (h:=f) (P0:=v0) (J:=J) (p:=p) S H (t8:=oR y.o)) λr g av e u A K=>?_
   exact L r g av (R ((q0 (eQ rfl rfl (Bt (decide_eq_false g3)))).trans ((qT (eQ rfl rfl (Bt (decide_eq_true g4)))).trans (qB e)))) u A K
  exact L E _ a (R ((q0 (eQ rfl rfl (Bt (decide_eq_false g3)))).trans ((q0 (eQ rfl rfl (Bt (decide_eq_false g4)))).trans (qR rfl)))) H (.inl rfl) (ó _ _)
 .have q:=zj (h:=n) H.H.pd
  rw[show a9 (gW Z) (.inr n)=none from sV (n9:=λy=>.ref y.j) G]at q
  refine aP (Nk (m:=.tup [.ref w,.ref ζ,.ref A0]) (E2:=oR w) (B4:=oR ζ) (N5:=oR A0) (B:=f) (P0:=v0) (J:=J) hI hC H ht M (B.vn n hn) G hn hm) λg av e u A=>?_
  exact L E g av (R ((qT (eQ rfl rfl q)).trans (qB e))) u (.inl rfl) A
noncomputable def xo(v:List (Str×Int)):List D:=v.map λp=>.tup [.str p.1,.int p.2]
theorem xq{Ω n}:∀{v},bH (f_ Ω (n+1)) (xo v)=some (xo v)
 |[]=>rfl
 |p::v=>by
  have h:=xq (Ω:=Ω) (n:=n) (v:=v);have a:f_ Ω (n+1) (.tup [.str p.1,.int p.2])=some (.tup [.str p.1,.int p.2]):=y_ (by simp)
  simp only[xo,Ü,bH]at h ⊢;rw[a,h]
theorem Nq:aM (b+2) (.lst (xo v4))=true:=by
 show(xo v4).all _=true
 rw[Ĕ];intro d a;obtain⟨p,_,rfl⟩:=Î.mp a
 simp_all
theorem Fe:∀{v},eO (xo v) (xo v)=true
 |[]=>rfl
 |p::v=>by
  have h:=Fe (v:=v);simp only[xo,Ü,eO]at h ⊢
  simp_all
theorem Nr(h:a[b]?=some (.lst (xo v4)))(h':a[w]?=some (.lst (xo v4))):aJ .NotEq (.ref b) (.ref w) a=.ok (.bl false) a:=by
 rw[sM,kn,fU h xq,fU h' xq,mM]
 have e:gh .NotEq (.lst (xo v4)) (.lst (xo v4))=.ok false:=by
  rw[LP,Nq]
  show Out.ok (!eO _ _)=_
  rw[Fe];rfl
 rw[e];rfl
theorem Sm(h:cw a b (cP v4)):JW (.ref b) a=.ok (.ref a.length) (a++[.lst (xo v4)]):=by
 have e:(cP v4).map (λc=>D.tup [fy c.1,c.2])=xo v4:=by
  simp only[cP,xo,Ý];rfl
 simp only[JW,Km h,e];rfl
theorem ix:(cP v4).map (λa=>fy a.1)=(cx v4).map .str:=by
 simp only[cP,cx,Ý];rfl
theorem sZ:∀{v}{a:Nat}{p},(cx v).Nodup->v[a]?=some p->a9 (cP v) (.inr p.1)=some (.int p.2)
 |q::v,0,p,c,h=>by
  cases h;rw[cP,Ü,bK,if_pos rfl]
 |q::v,a+1,p,c,h=>by
  have b:=Ħ.mp c;rw[cP,Ü,bK,if_neg (by simpa using (λz=>b.1 (Î.mpr ⟨p,Ë h,z.symm⟩)))]
  exact sZ b.2 h
theorem Ff:aJ .NotEq (.int J) (.int J) a=.ok (.bl false) a:=by simp
theorem Nt:aJ .NotEq (.str h) (.str h) a=.ok (.bl false) a:=by
 rw[show aJ .NotEq (.str h) (.str h) a=.ok (.bl (!(h==h))) a from rfl,beq_self_eq_true]
 rfl
theorem Ji(c:(cx v4).Nodup)(f:v4[b]?=some N9):oO (cx v4) N9.1=.int b:=by
 have a:(cx v4)[b]?=some N9.1:=by simp_all
 have d:(cx v4).idxOf N9.1=b:=by
  have:=Ì.mp a;obtain⟨_,e⟩:=this;rw[←e];exact c.idxOf_getElem b ((Ì.mp a).1)
 unfold oO;rw[if_pos (Ë a),d]
theorem Jj:(oX Z).map (λa=>fy a.1)=(Z.map (·.n)).map .str:=by
 simp only[oX,Ý];rfl
theorem s_:(gW Z).map (λa=>fy a.1)=(Z.map (·.n)).map .str:=by
 simp only[gW,Ý];rfl
def VH:=
 (ag (bj (mN (cb .list) (af (m1 (bf ["Things"] "made") (ae 0)) aj)))
 ah)
theorem So(W:Tn a b w ζ A0 B1 E1 (oX Z) E):aH 1 1 VH [.ref b] a=.ok (.ref a.length) (a++[.lst ((Z.map (·.n)).map .str)]):=fR (qR (eN (eK (eF rfl W.ob) rfl) (Jj▸jv (.inl W.dk))))
def OQ:=
 (ag (bj (gY (m1 (jl .int) (ae 0)) (ew (m1 (jl .bool) (ae 0)))))
 ah)
theorem KA:aH 1 1 OQ [.int J] a=.ok (.bl true) a:=rfl
theorem Yo(h:a[b]?=some (.lst (l.map .str)))(h':a[w]?=some (.lst (l.map .str))):aJ .NotEq (.ref b) (.ref w) a=.ok (.bl false) a:=(zi h h').trans (by simp)
theorem Sn.aU{Ω av A L M}(N:Sn Ω A L M)(K:ao [] Ω av):Sn av A L M:=
 ⟨N.W.aU K,N.pd.keep K (by simp),λy a=>kH (N.al y a) λG R O=>⟨⟨K.get _ _ G.ob (by simp),K.get _ _ G.sl (by simp),G.wd,G.nd,G.le,G.lt⟩,K.get _ _ R (by simp),O.keep K (by simp)⟩⟩
def Bh:=(m2 bc (ae 3) (au (.int 1)))
def snI(a b c):=
 (ag (aR 8 (aI "Things" "value_at" a (ae 0) (af (ae 2) (af (ae 6) aj))))
 (ag (dP (yv (ew (mN (bw c) (af (ae 8) aj))) (yv (m2 (aJ .NotEq) (ae 8) (m2 bc Bh (ae 7))) (m2 (aJ .NotEq) (aI "Shapes" "slot_of" b (m1 (bf ["Things"] "shapes") (ae 0)) (af (ae 5) (af (ae 7) aj))) (ae 6))))
 (ag (bj (au (.bl false)))
 ah)
 ah)
 ah))
abbrev OR(A:Ae)(y:Tz)(a4 a b c d:Option D):aZ:=[oR A.T,oR A.P,oS y.n,oR y.j,a4,a,b,c,d]
theorem Nu(f:cZ C)(g:eH Ξ)(N:Sn a o0 E Z)(h:(Z.map (·.n)).Nodup)(d:χ∈Z)(c:χ.v[b]?=some N9):∃av,snI (aH 3 3 (OK C)) Ξ (aH 1 1 OQ) (OR o0 χ E2 (oI χ.i) (oI b) (oS N9.1) B4) a=.nx (OR o0 χ E2 (oI χ.i) (oI b) (oS N9.1) (oI N9.2)) av/\ao [] a av:=by
 refine kH (N.al χ d) λG R O=>?_
 refine bx (g a _ _ _ _ E _ N9.1 N.W.sh G.wd) λav e K=>?_
 rw[Ji G.nd c]at e;exact⟨_,(qA (eM rfl N.W.ob rfl (RQ f N.W (sW h d) G c))).trans (q0 (oF (nT (eC rfl KA)) (oF (eQ rfl (eQ (eQ rfl rfl (aY R rfl)) rfl (fV O (sZ G.nd c))) Ff) (eQ (eM (eF rfl N.W.ob) N.W.sh.ob rfl e) rfl Ff)))),K⟩
def sn2(a):=(dP (yv (m2 (aJ .NotEq) (aI "Things" "kind_of" a (ae 0) (af (ae 2) aj)) (m2 bc (ae 3) (au (.int 0)))) (yv (ew (m1 (jl .dict) (ae 4))) (m2 (aJ .NotEq) (m1 JW (ae 4)) (m1 JW Bh))))
 (ag (bj (au (.bl false)))
 ah)
 ah)
def sn4(a b):=(dP (yv (ew (mN (bw a) (af (ae 5) aj))) (m2 (aJ .NotEq) (aI "Shapes" "words_of" b (m1 (bf ["Things"] "shapes") (ae 0)) (af (ae 5) aj)) (mN (cb .list) (af Bh aj))))
 (ag (bj (au (.bl false)))
 ah)
 ah)
def snB(b c SP a d e f):=
 (ag (aR 4 (aI "Things" "own" b (ae 0) (af (ae 2) aj)))
 (ag (sn2 c)
 (ag (aR 5 (aI "Things" "shape_of" SP (ae 0) (af (ae 2) aj)))
 (ag (sn4 a d)
 (ag (dw (dQ [6,7]) (sm Bh) (snI e f a))
 ah)))))
variable{x9:Option D}
theorem Nv(u:cZ C)(U:kz y3)(hS:eH Ξ)(H:Ps y o0 E Z)(F:Fz (OO o0 Z) y a)(b:χ∈Z):
  ∃b4 b5 k l j av,snB (aH 3 2 (RR C y3)) (aH 2 2 (RM C)) (aH 2 2 (RN C)) (aH 1 1 OQ) y3 (aH 3 3 (OK C)) Ξ (OR o0 χ E2 B4 N5 t8 x9) a=.nx (OR o0 χ b4 b5 k l j) av/\Fz (OO o0 Z) a av:=by
 have N:=H.fz F;have V:=H.nn;have z:=sW V b;refine bQ (RS u U N.W z (N.al χ b).1) λq n e1 X Y _=>?_
 have hi:jl .dict (.ref q) n=.ok (.bl true) n:=by simp only[jl,Iq,Mf,X];rfl
 have x:=N.aU Y;have A:=x.al χ b;refine ay (kA (Sm (.inl X))) λa0 l1 K2 g2=>?_
 have N2:=x.aU K2;have Y2:=N2.al χ b;refine ay (kA (Sm Y2.2.2)) λB l2 D g3=>?_
 have f:=N2.aU D;have Y3:=f.al χ b;refine ay (kA (U B o0.s o0.r o0.m χ.i E _ f.W.sh Y3.1.wd)) λb0 w4 G g4=>?_
 have Y4:=(f.aU G).al χ b;refine ay (kA (ix▸jv Y4.2.2)) λc w5 I g5=>?_
 have Y5:=((f.aU G).aU I).al χ b;have O5:=Y5.2.2
 have J:sm Bh (OR o0 χ (oR q) (oI χ.i) N5 t8 x9) c=.ok (.Qv χ.o) (c.set χ.o (.dF (cP χ.v))):=by
  unfold sm;rw[show Bh _ c=_ from eQ rfl rfl (aY Y5.2.1 rfl),eA]
  rw[vb O5];rcases O5 with h|h
  .simp only[yE,h]
  .simp only[yE,h,set_same h]
 have t:=(Fz.of (Y.trans (K2.trans (D.trans (G.trans I))))).trans (Fz.set (S:=OO o0 Z) O5 (Ŏ _ (Î.mpr ⟨χ,b,rfl⟩)));have f6:=kx O5;generalize c.set χ.o _=L at *;have N6:=H.fz (F.trans t);have M:=A.1.le
 refine aP (Bs (G7:=dQ [6,7]) (q:=eR 0 ((cx χ.v).map .str)) (λi ρ d=>ao [] L d/\∃k l j,ρ=OR o0 χ _ _ k l j) J (λ⟨K,_⟩=>by simp only[dr,K.get _ _ f6 (by simp),ix]) (by
  rintro i dd _ d hd ⟨K,k,l,j,rfl⟩;obtain⟨d',O,rfl⟩:=mB _ 0 i dd hd;obtain⟨w,hw,rfl⟩:=lg O;rw[ç]at hw;obtain⟨p,hp,rfl⟩:=Ã.mp hw;rw[adC];refine bx (Nu u hS (N6.aU K) V b hp (E2:=oR q) (B4:=j)) λc0 e Ky=>⟨_,_,_,rfl,e,K.trans Ky,_,_,_,rfl⟩) ⟨ao.refl,_,_,_,rfl⟩ (by rw[mz];simp;exact fG M)) λ_ d eL K P=>xe P λk Q=>xe Q λl R=>xe R λj T=>?_;subst T
 exact⟨_,_,_,_,_,d,(qA (eM rfl N.W.ob rfl e1)).trans ((q0 (oF (eQ (eM rfl x.W.ob rfl (RO u x.W z A.1)) (eQ rfl rfl (aY A.2.1 rfl)) Nt) (oF (nT (eP rfl hi)) (eQ (eP rfl l1) (eP (eQ rfl rfl (aY Y2.2.1 rfl)) l2) (Nr (D.g g2) g3))))).trans ((qA (eM rfl f.W.ob rfl (RP u f.W z Y3.1))).trans ((q0 (oF (nT (eC rfl KA)) (eQ (eM (eF rfl f.W.ob) f.W.sh.ob rfl w4) (eN (eK (eQ rfl rfl (aY Y4.2.1 rfl)) rfl) w5) (Yo (I.g g4) g5)))).trans (eL _)))),t.trans (Fz.of K)⟩
def Yp(a b c SP d e f g):=
 (ag (dP (m2 (aJ .NotEq) (aI "Things" "names" a (ae 0) aj) (mN (cb .list) (af (ae 1) aj)))
 (ag (bj (au (.bl false)))
 ah)
 ah)
 (ag (dw (dQ [2,3]) (kZ (ae 1)) (snB b c SP d e f g))
 (ag (bj (au (.bl true)))
 ah)))
abbrev Nw(a b c):=fC (aH 9 2 (Yp (aH 1 1 VH) (aH 3 2 (RR a b)) (aH 2 2 (RM a)) (aH 2 2 (RN a)) (aH 1 1 OQ) b (aH 3 3 (OK a)) c))
theorem zC(z:cZ C)(A:kz y3)(B:eH Ξ)(H:Ps a o0 E Z)(D:Z.length<=100):∃av,Nw C y3 Ξ [.ref o0.T,.ref o0.P] a=.ok (.bl true) av/\ao [] a av:=by
 refine ay (kA (So H.W)) λG I t J=>?_
 have u:=H.aU t;refine ay (kA (s_▸jv u.pd)) λK L k M=>?_
 have l:=u.aU k
 obtain⟨_,b,e,⟨F,_⟩,m,n,c,d,f,h,j,rfl⟩:=Bs (v:=[oR o0.T,oR _,none,none,none,none,none,none,none]) (D3:=kZ (ae 1)) (G7:=dQ [2,3]) (q:=(gW Z).map λo=>.tup [fy o.1,o.2]) (λi N b=>(Fz _ a b/\b[o0.P]?=some _)/\∃m n c d f h j,N=[oR _,oR _,m,n,c,d,f,h,j]) (Kn l.pd) (λ⟨⟨_,p⟩,_⟩=>by simp only[dr,p]) (by
  rintro i U _ b w ⟨⟨F,p⟩,m,n,c,d,f,h,j,rfl⟩;rw[ç,gW,ç]at w;obtain⟨o,O,rfl⟩:=Ã.mp w;obtain⟨y,Q,rfl⟩:=Ã.mp O;refine xe (Nv z A B H F (Ë Q) (E2:=c) (B4:=d) (N5:=f) (t8:=h) (x9:=j)) λV r=>xe r λX s=>ee s λY b7 b8 R e x=>⟨_,_,_,rfl,e,⟨F.trans x,x.at p (.inr (by simp))⟩,_,_,_,_,_,_,_,rfl⟩) ⟨⟨((Fz.of (t.trans k)).trans (Fz.set (S:=OO o0 Z) l.pd (List.mem_cons_self ..))),kx l.pd⟩,_,_,_,_,_,_,_,rfl⟩ (by simp[gW];exact fG D)
 exact⟨_,Ym (fR ((q0 (eQ (eM rfl H.W.ob rfl I) (eN rfl L) (Yo (k.g J) M))).trans ((e _).trans (qR rfl)))),F.fh⟩
noncomputable def mj(C:Str)(a:List (Str×D)):D:=.tup (.str C::a.map λp=>.tup [.str p.1,p.2])
theorem Fg{b}(a:mj h m3=mj B b):h=B/\m3=b:=by
 simp only[mj,Mir.D.tup.injEq,afP,Mir.D.str.injEq]at a;refine⟨a.1,(acb λx y e=>?_).mp a.2⟩
 grind
def Yq(α:List b')(Z:b'->Prop)(H)(a:List (Str×D))(b:List (Str×V)):=aE (λp q=>p.1=q.1/\aq α Z H p.2 q.2) a b
def lu(f:Str->b'->Prop)(E:XK):iS:=λx _ b Z H=>∃C c,x=mj C c/\∀d a e,f C d->H a=some (.xd e)->Yq b Z H c e->a∉b->¬ Z a->E (.ref d) (some a) H
def oP(a:Str->b'->Prop)(F:aK):Sp:=λe H Q E=>∃b Z c d,bB a b Z c H/\aE (aq b Z H) d e/\bT a (lu a E) b Z H (F d c) Q
def ml(a:J'->Option SM)(T:aA)(td:List Str)(k:Nat)(sc:V')(N:List Str):Nat->J'->Option SM
 |0,_=>none
 |n+1,b=>match a b with
  |some c=>some c
  |none=>Mv (fQ (ml a T td k sc N n)) T td k sc N b
theorem kC{X a b T k sc N td d}(G:dX X a T k sc N)(g:∀st c,d st=some c->iq X a b st c):∀n e st c,ml d T td e sc N n st=some c->iq X a b st c
 |0,_,_,_,h=>nomatch h
 |n+1,e,st,c,h=>by
  have B:∀i c,_->mf X a b i c:=λi c q=>ez (kC (td:=td) G g n e) q
  unfold ml at h;cases f:d st with
  |some j=>
   rw[f]at h;exact Br h (g _ _ f)
  |none=>
   rw[f]at h;exact yS G B h
theorem aG.toXt{T}(W:aG I M O Δ L T b):aG I M O Δ L {T with xt:=true} b:=⟨W.cY,W.jo,W.fn,W.cst,W.met,W.cls,W.fld,W.clo⟩
theorem tf(W:aG I M O Δ L ς b)(R:ς.xt=true)(F:wU O h B Θ U j J0){D}(T:fv l M0 (ai Θ)=true)(V:fQ (ml D ς u8 60 (ai Θ) l 30) (aO Θ)=some ε)(X:∀c A outer s H E,cu (b+2) (A.deeper (Ê B (ai Θ) s.heap.objs.size j c))->GoodO (dh (mu I M) I M O Δ L l B (ai Θ) j c A outer s H E) (cJ Δ) ς b (ai Θ) l ->
      ∀i G,D i=some G->iq (dh (mu I M) I M O Δ L l B (ai Θ) j c A outer s H E) (cJ Δ) (lu (cJ Δ) E) i G):
    bW I M O Δ L (mu I M) (b+3) j J0 M0 (oP (cJ Δ) (aH l.length M0.length ε)):=by
  refine xe F.ex λoc k=>xe k λod n=>xe n λkV o=>xe o λY p=>xe p λpm t=>bp t λan c ct a0 u lk w=>?_;subst u
  have x:=gH T;refine BL lk w x (λvs H Q E a=>?_) λA outer s H vs Q E J a=>?_
  · refine bp a λy Z z ds S r g=>?_
    rw[r.length];unfold aH at g;split at g
    · omega
    · exact g.elim
  · refine bp a λy Z z ds S r g=>?_
    have K:GoodO (dh (mu I M) I M O Δ _ l _ _ j _ A outer s H E) _ ς b _ l:=
      { scope:=rfl,names:=rfl,calm:=rfl,room:=J.mono (ó _ _),cY:=W.cY,fld:=W.fld,cst:=W.cst
        jo:=λh F a=>⟨W.jo h F a⟩,fn:=λh F a=>⟨W.fn h F a⟩,met:=λm C F a=>⟨W.met m C F a⟩,cls:=λC F a=>bx (W.cls C F a) λf h1 h2=>⟨f,h1,⟨h2⟩⟩,clo:=W.clo }
    refine⟨_,ez (kC ({toGoodO:=K,own:=ahz,UJ:=λ_ _ _=>.inl rfl,uu:=x.nd,kind:=x.kind,lU:=λq=>by simp_all}) (X _ A _ s H E J K) 30 60) V y Z H _ z,y,Z,jn S r,?_⟩
    unfold aH at g;split at g
    · cases q:ε _ z with
      |rt d e=>rwa[q]at g
      |nx N e=>rw[q]at g;exact λσ H' b0 Z' P=>g _ H' _ Z' P.gr P.st (aQ rfl)
      |bk N e=>rw[q]at g;exact g.elim
      |ct N e=>rw[q]at g;exact g.elim
      |exc h e=>rwa[q]at g
      |bad=>rwa[q]at g
    · exact g.elim
def je(C:Str):List (Str×EM)->List (Str×D)->aZ->az->aw D
 |[],a,_,Ω=>.exc (mj C a) Ω
 | (f,m)::r,a,ρ,Ω=>match m ρ Ω with
  |.ok d AE=>je C r (a++[(f,d)]) ρ AE
  |_=>.bad
def mS(C:Str)(n:Nat)(d:List (Str×EM))(as:AM):SM:=λe f=>cU (as e f) λc a=>if c.length=n then (match je C d [] (none::c.map some) a with
 |.exc x b=>.exc x b
 |_=>.bad)else .bad
variable{F2:L2.St}{N:b'}{d:Hp}{i:Str->b'->Prop}{r:b'->Prop}{u:iS}{y9:Option b'->List (Str×V)->Hp->Prop}{z:List b'}{ο:VK}
theorem Sq(G:bB i z r a d)(A:F2.length=v.length)(I:∀(e:Nat) b,v[e]?=some (some b)->∃c,F2[e]?=some (some c)/\aq z r d b c)(J:∀l b c f t s w,bB i f t s w->b_ z r d f t w->aq f t w b c->l∉f->¬ t l->bT i u z r d (.exc (mj h [(B,b)]) s) ο->y9 (some l) [(B,c)] w)(g:bT i u z r d (je h [(B,p)] [] v a) ο):
   pW j N [(B,λF2 K L=>∃m,tO i lR z r d p v m F2 K L)] none [] F2 d y9:=by
 replace g:bT i u z r d (match p v a with|.ok b m=>je h [] [(B,b)] v m|_=>.bad) ο:=g
 cases q:p v a with
 |bad=>rw[q]at g;exact g.elim
 |exc C n=>rw[q]at g;exact g.elim
 |ok b n=>
  rw[q]at g;refine⟨a,z,r,⟨G,b_.refl G.has,A,I⟩,?_⟩;rw[q];intro c E k x M y O l o P Q;exact xa (show bB i k x n (upd E l _)/\b_ k x E k x (upd E l _)from y.nU o False) λR H=>J l b c k x n _ R (M.trans H) (y.cH H O) (λF=>y.has _ F o) (λF=>y.dom _ F o) g
variable{S:List V}
theorem Bi(b:aE (aq z r d) q S)(f:l.length=q.length+1):(start l (.ref j::S)).length=(none::q.map some).length/\∀(i:Nat) a,(none::q.map some)[i]?=some (some a)->∃v,(start l (.ref j::S))[i]?=some (some v)/\aq z r d a v:=by
 have g:=b.length;refine⟨by simp[L2.start];omega,λi a c=>?_⟩
 cases i with
 |zero=>cases c
 |succ i=>
  rw[List.getElem?_cons_succ,ç]at c;obtain⟨h,e,k⟩:=Ã.mp c;obtain⟨v,m,n⟩:=b.get e;unfold L2.start
  simp_all
variable{G5:XK}{P Q3 o:T'}{P1 y4 ω:b'}{Q:List A'}{S6:List Ä}{g8:tY}{n:A'}{n8:Str}{x:g'}{θ:Æ}{π:V'}
theorem xr(D:pX O Δ N ω P1 y4 J0 Θ B P4 M0 [g8])(hr:cu (b+2) (θ.deeper (Ê h π x.heap.objs.size j U)))(hg:Gl (dh (mu I M) I M O Δ L l h π j U θ S6 x d G5) n8)(hm:Δ n8=some (.ref N))(o0:i n8 N)(K:rV (dh (mu I M) I M O Δ L l h π j U θ S6 x d G5) i (lu i G5) (n::Q) u0)(a0:∀V ot X e w E',cu b (V.deeper (Ê B (ai Θ) X.heap.objs.size P1 (.ref y4)))->bt ((dh fH I M O Δ L (P4::M0) B (ai Θ) P1 (.ref y4) V ot X w E').lU.mk1 e) i lR g8.ve p)(b0:D' (n::Q) (Ê h π x.heap.objs.size j U)=(false,eval n (Ê h π x.heap.objs.size j U))::D' Q (Ê h π x.heap.objs.size j U))(c0:(À P (D' Q (Ê h π x.heap.objs.size j U))).any (·.1)=false)(d0:(n8==("__debug__"))=false):
  iq (dh (mu I M) I M O Δ L l h π j U θ S6 x d G5) i (lu i G5) (.Raise (some (.Call (.Name n8 o) (n::Q) [] P)) none Q3) (mS n8 M0.length [(g8.fld,p)] u0):=by
 intro y Y A ρ Ω pins s σ H Dn F r;refine cg r λα Z S r=>?_
 refine Aj
  (i9:=λR w=>∃T k m C f a,b_ y Y A m C w/\bB i m C k w/\aE (aq m C w) T R/\T.length=M0.length/\je n8 [(g8.fld,p)] [] (none::T.map some) k=.exc a f/\∀t c q,b_ y Y A c q t->bB i c q f t->lu i G5 a f c q t)
  (Ai:=λR w od fs t=>(∃E,od=some E)/\∃f c q G,bB i c q f t/\Yq c q t G fs/\(∀E,od=some E->E∉c/\¬ q E)/\lu i G5 (mj n8 G) f c q t) D hr hg hm (K y Y A ρ Ω) (λR w fs H' hz=>by obtain⟨⟨E,z⟩,_⟩:=hz;cases z) (λR w hA V ot X e E' e0 he=>?_) b0 c0 d0 _ s σ H Dn F ⟨α,Z,S,?_⟩
 .refine xe hA λT g0=>xe g0 λk h0=>bo h0 λm C f a g1 s1 i0 j0 e1 h1=>?_
  refine⟨_,PE.ex λk=>a0 V ot X e w E' e0 m C w (none::T.map some) k,?_⟩
  obtain⟨l1,l2⟩:=Bi (l:=P4::M0) (j:=e) i0 (by simp[j0])
  refine Sq (u:=lu i G5) (h:=n8) (ο:=λ_ _=>False) s1 l1 l2 (λE J v c q m0 t st gr rp n1 n2 g=>⟨rfl,⟨E,rfl⟩,_,c,q,[(g8.fld,J)],st,.cons ⟨rfl,rp⟩ .nil,λ_ z=>by cases z;exact⟨n1,n2⟩,g t c q gr st⟩) ?_
  show bT _ _ _ _ _ (je n8 [(g8.fld,p)] [] _ _) _
  rw[show je n8 [(g8.fld,p)] [] _ _=_ from e1]
  exact λt c q g2 s2=>h1 t c q (g1.trans g2) s2
 .unfold mS at r
  cases hq:u0 ρ Ω with
  |bad=>rwa[hq]at r
  |exc a k=>rw[hq]at r;exact λw m C g s=>r w m C (S.gr.trans g) s
  |ok xs k=>
   rw[hq]at r;replace r:dW i _ y Y A Dn (if xs.length=M0.length then (match je n8 _ [] _ k with|.exc a f=>.exc a f|_=>.bad)else .bad):=r
   intro R w m C g1 s1 r1;split at r
   rotate_left
   .exact r.elim
   rename_i l0;split at r
   rotate_left
   .exact r.elim
   rename_i a f hu;refine⟨by rwa[r1.length],⟨xs,k,m,C,f,a,S.gr.trans g1,s1,r1,l0,hu,λt c q g2 s2=>r t c q g2 s2⟩,?_⟩
   rintro fs t E ⟨_,p0,c,q,G,s2,fl,hz,C',r0,z,hh⟩ s0;obtain⟨rfl,rfl⟩:=Fg z
   simp_all
def Yr(X)(d:Str->b'->Prop)(f)(a:L2.St)(e m):=∀b g h i j,PE X e (λc H Q=>c=a/\tO d f b g h m i j c H Q)
def PSa(X)(f:Str->b'->Prop)(g)(a:L2.St)(b:List J')(c):=∀d h i j k,jf X b (λD e H=>e=a/\OC f g d h i c j k D e H)
def iy(C m:Str)(F:aK)(d:EM)(as:AM):EM:=λc e=>(d c e).bind λx a=>match pB a x with
 |some (_,f,g)=>if f=C/\g.lookup m=none then (as c a).bind λh b=>F (x::h) b else .bad
 |none=>.bad
variable{R:A'}{c:Cx}
theorem qK(G:∀a,i h a->a=j)(d:mX c.K j)(I:Meth c.K j B N)(F:bW c.prog c.w c.K c.mg c.base (mu c.prog c.w) b N J0 l (oP i C))(J:cu b c.A)(L:Binds c.K J0 l [])(M:jP c F2 G5)(O:bt c i (lu i G5) R p)(T:rV c i (lu i G5) (n::Q) u0){pl}(U:D' (n::Q) c.env=(false,eval n c.env)::D' Q c.env)(m:(À o (D' Q c.env)).any (·.1)=false)(V:eval (.Call (.Attribute R B P) (n::Q) [] o) c.env=(do
   let u ←eval R c.env
   Ă P.atName
   let (N,first) ←ă [u] (Đ u B pl)
   Ě o N first (À o (D' (n::Q) c.env)) (ù o (ú [] c.env)))):
  Yr c i (lu i G5) F2 (.Call (.Attribute R B P) (n::Q) [] o) (iy h B C p u0):=by
 intro e y z D X;refine PE.imp (Cu (O e y z D X) d I F J L M (PA.ex λf=>T e y z D f) U m V) ?_
 rintro σ H q ⟨rfl,Y,Z,S,g⟩;refine⟨rfl,Y,Z,S,bT.use g λx f _ v H1 a0 Z1 g1 r E k=>?_⟩
 split at k
 .rename_i s C' fs hk
  split at k
  .rename_i hc
   obtain⟨rfl,hl⟩:=hc;refine bo (gu r E hk) λa b0 dx c0 t d0 _ q1 q2 q3=>?_;subst t;obtain rfl:=G _ q1
   exact⟨a,dx,_,rfl,q2,(fB q3).2 hl,_,_,Z1,S.grow g1 r,pv.use k λxs e0 _ vs H2 g0 Z2 g2 s2 r2 k2=>⟨_,Z2,_,_,s2,.cons (r.cH g2 E) r2,k2⟩⟩
  .exact k.elim
 .exact k.elim
variable{F4:b'->Prop}{Q2:List b'}{r8:Option V}{υ:Hp}
theorem cQ.Sr(S:cQ i z r d Q2 F4 a v F2 υ):cQ i z r d Q2 F4 a (v.set b none) (F2.set b r8) υ:=
 ⟨S.st,S.gr,by rw[ab_,ab_];exact S.len,λj c h=>by
  by_cases e:b=j
  .rw[adg]at h
   simp_all
  .rw[ķ e]at h ⊢
   exact S.val j c h⟩
def Jk(st:J'):Option {r:Str×A'×List A' // ∃p b p2,st=.Raise (some (.Call (.Name r.1 p) (r.2.1::r.2.2) [] b)) none p2}:=match st with
 |.Raise (some (.Call (.Name x _) (a::c) [] _)) none _=>some ⟨(x,a,c),_,_,_,rfl⟩
 |_=>none
def Fh(st):=(Jk st).map (·.1)
theorem xu(q:Fh Θ=some (h,n,Q)):∃p b p2,Θ=.Raise (some (.Call (.Name h p) (n::Q) [] b)) none p2:=by
 obtain⟨⟨_,a⟩,_,e⟩:=Ã.mp q;cases e;exact a
theorem e_{A B:Type}{x:Option A}{f}{b:B}(h:x.bind f=some b):∃a,x=some a/\f a=some b:=Ń.mp h
def KC(T sc N a n)(b:List (Str×EM))(st):=
 (Fh st).bind λc=>(cO (dI T 60 sc N) (c.2.1::c.2.2)).bind λd=>if c.1==a&&we sc a&&!(a==("__debug__"))then some (mS a n b d)else none
theorem Fi(D:pX O Δ N ω P1 y4 J0 Θ B P4 M0 [g8])(o:cu (b+2) (θ.deeper (Ê h π x.heap.objs.size j U)))(i:Δ n8=some (.ref N))(G:GoodO (dh (mu I M) I M O Δ L l h π j U θ S6 x d G5) (cJ Δ) ς b π l)(f:∀k r m e s t,cu b (k.deeper (Ê B (ai Θ) m.heap.objs.size P1 (.ref y4)))->bt ((dh fH I M O Δ L (P4::M0) B (ai Θ) P1 (.ref y4) k r m s t).lU.mk1 e) (cJ Δ) lR g8.ve p)(st n)(a:KC ς π l n8 M0.length [(g8.fld,p)] st=some n):iq (dh (mu I M) I M O Δ L l h π j U θ S6 x d G5) (cJ Δ) (lu (cJ Δ) G5) st n:=by
 refine mH a λq v1 a=>mH a λA u a=>Mo a λg a=>Br a ?_
 refine xe (xu v1) λ_ z=>xe z λ_ z=>xe z λ_ e=>?_
 rw[e,eq_of_beq (bL (bL g))];refine xa (br (λe p q=>fD 60 _ _ l e p G q) u) λw c=>?_
 exact xr D o (G.gl (bR (bL g))) i i (w _) f (bC (c _ (.head _))) (bG λz y=>c z (.tail _ y)) (by simpa using bR g)
theorem tj(W:aG I M O Δ L ς b)(F:Bq O h B Θ j J0)(n:fv l M0 (ai Θ)=true)(u:∀e A outer s H E,dX (dh fH I M O Δ L l B (ai Θ) j e A outer s H E).lU (cJ Δ) ς b (ai Θ) l->mf (dh fH I M O Δ L l B (ai Θ) j e A outer s H E).lU (cJ Δ) lR (aO Θ) ε):
    bW I M O Δ L fH (b+1) j J0 M0 (c_ (cJ Δ) (aH l.length M0.length ε)):=by
  refine F.ok (gH n) (λw H Q E a=>?_) λe A outer s H w Q E x a=>?_
  · refine bp a λi Z k y S r g=>?_
    rw[r.length];unfold aH at g;split at g
    · omega
    · exact g.elim
  · refine bp a λi Z k y S r g=>?_
    have o:=gH n
    have G:dX (dh fH I M O Δ _ l _ (ai Θ) j _ A outer s H E).lU _ ς b _ l:=
      { scope:=rfl,names:=rfl,calm:=rfl,room:=x,cY:=W.cY,own:=afX,UJ:=λ_ _ _=>.inl rfl,uu:=o.nd,kind:=o.kind,lU:=λ_ _ _ a=>a,fld:=W.fld,cst:=W.cst
        jo:=λh F a=>⟨W.jo h F a⟩,fn:=λh F a=>⟨W.fn h F a⟩,met:=λm C F a=>⟨W.met m C F a⟩,cls:=λC F a=>bx (W.cls C F a) λf z D=>⟨f,z,⟨D⟩⟩,clo:=W.clo }
    refine⟨_,u _ A _ s H E G i Z H _ k,i,Z,jn S r,?_⟩;unfold aH at g;split at g
    · cases q:ε _ k with
      |rt d c=>rwa[q]at g
      |nx p c=>rw[q]at g;exact λP J K N t=>g _ J _ N t.gr t.st (aQ rfl)
      |bk p c=>rw[q]at g;exact g.elim
      |ct p c=>rw[q]at g;exact g.elim
      |exc h c=>rwa[q]at g
      |bad=>rwa[q]at g
    · exact g.elim
def Ss(C f)(x:D):Option {d:D // x=.tup [.str C,.tup [.str f,d]]}:=match x with
 |.tup [.str c,.tup [.str a,d]]=>if h:c=C/\a=f then some ⟨d,by rw[h.1,h.2]⟩else none
 |_=>none
def Nx(C f x):=(Ss C f x).map (·.1)
theorem Jl(a:Nx h B m=some η):m=mj h [(B,η)]:=by
 obtain⟨⟨_,z⟩,_,e⟩:=Ã.mp a;cases e;exact z
theorem Ny:Nx h B (mj h [(B,m)])=some m:=by
 have e:Ss h B (mj h [(B,m)])=some ⟨m,rfl⟩:=dif_pos ⟨rfl,rfl⟩;unfold Nx;rw[e];rfl
def lT(g:SM)(h f:Str)(j:D->SM)(i:Nat):SM:=λe k=>match g e k with
 |.exc x a=>(match Nx h f x with
  |some d=>(match j d (e.set i none) a with
   |.nx b c=>.nx (b.set i none) c
   |_=>.bad)
  |none=>.bad)
 |r=>r
theorem Jm(h:Yr c i u F2 n p)(b:ï n none o.line c.env=pure false):PSa c i u F2 [.Expr n o] (cA p):=by
 intro a e g j k;refine jf.imp (xM (xO (h a e g j k) b)) ?_;rintro E x H ⟨rfl,l,Z,S,f⟩;exact⟨rfl,l,Z,S,dW.use S f λd m v q r s _ y t z w=>w _ q _ s t⟩
variable{z8:Ends}
theorem Nz{n b}(S:cQ i z r d Q2 F4 a v F2 υ)(o:∀x a,b≠.exc x a)(f:dW i u z r d z8 b):dW i n Q2 F4 υ z8 b:=by
 cases b with
 |rt j g=>exact λc k e l p q s=>f c k e l (S.gr.trans p) q s
 |bad=>exact f
 |exc x g=>exact absurd rfl (o x g)
 |_=>exact λm k e l h=>f m k e l ⟨h.st,S.gr.trans h.gr,h.len,h.val⟩
variable{F5 z9:List J'}
theorem Fj{O}(Q:c.stack=c.env::c.outer)(R:c.env.frame=some c.env.locals)(hg:Gl c h)(T:c.mg h=some (.ref j))(U:Ϗ c.K (.ref N) (.ref j)=some true)(hN:c.N.Nodup)(hi:c.N[b]?=some n8)(hn:c.env.scope.names.lookup n8=some .local)(X:∀F,i B F->F=N)(Tx:pk c.K N ω P1)(is:Uh c.K N)(hb:∀pl xe A E,jP ((c.mw pl).wish xe) A E->PSa ((c.mw pl).wish xe) i (lu i E) A F5 ε)(Y:∀pl e d C,WN (((c.mw pl).pV e).xX e C) e N C d ω P1->∀k G L w Ω dD v,
   jf (((c.mw pl).pV e).xX e C) (Θ::z9) (λD y H=>H d=some (.xd [(P4,v)])/\y[b]?=some (some (.ref e))/\∃α Z,cQ i k G L α Z Ω w y H/\aq α Z H dD v/\dW i lR k G L D (O dD w Ω)))(a0:(h==("__debug__"))=false):
  iq c i u (.Try F5 [.ExceptHandler (some (.Name h P)) (some n8) (Θ::z9) Q3] [] [] o) (lT ε B P4 O b):=by
 intro k G L w Ω pins s y H D I p;refine cg p λα Z S f=>?_
 refine PQ (W:=λd fs q=>∃a m g n,ε w Ω=.exc (mj B [(P4,n)]) g/\b_ α Z H a m q/\bB i a m g q/\Yq a m q [(P4,n)] fs) I Q R hg T U hN (λ_ e=>by cases e;exact hi) (λ_ e=>by cases e;exact hn) (λxe b0=>?_) (λe d fs C M s4 t hW c1 c2 c3 J=>?_) a0
 .refine hb pins xe y _ b0 α Z H w Ω [] s y H D (I.mw.wish xe) ⟨rfl,α,Z,⟨S.st,b_.refl S.st.has,S.len,S.val⟩,?_⟩
  unfold lT at f;cases l:ε w Ω with
  |exc x g=>
   rw[l]at f;dsimp only at f;cases hx:Nx B P4 x with
   |none=>rw[hx]at f;exact f.elim
   |some n=>
    obtain rfl:=Jl hx;intro M a m g1 s1;refine⟨B,_,rfl,λF dd vs hk t fl n1 n2=>?_⟩
    cases X F hk;exact⟨rfl,dd,vs,rfl,t,a,m,g,n,rfl,g1,s1,fl⟩
  |_=>rw[l]at f;exact Nz S (by simp) f
 .refine bp hW λa m g n l g1 c0=>xa c0 λs1 fl=>?_
  obtain⟨v1,rfl,r1⟩:∃v1,fs=[(P4,v1)]/\aq a m M n v1:=by
   obtain⟨⟨a1,w1⟩,t1,rfl,q1,fl⟩:=aE.cons_inv fl;rw[aE.nil_inv fl]
   simp_all
  unfold lT at f;rw[l]at f;dsimp only at f;rw[Ny]at f;dsimp only at f;refine Y pins e d C ⟨by simp[Cx.xX],c1,c2,c3,Tx,is⟩ k G L _ g n v1 [] s4 _ _ _ J ⟨t,?_,a,m,((S.grow g1 s1).Sr),r1,?_⟩
  .have g0:b<y.length:=by
    rw[I.len];exact qP hi
   simp_all
  .cases z:O n _ g with
   |nx h0 d0=>
    rw[z]at f;intro i0 M e0 Z2 S';exact f _ M e0 Z2 S'.Sr
   |rt r d0=>rw[z]at f;exact f.elim
   |bk _ _=>rw[z]at f;exact f.elim
   |ct _ _=>rw[z]at f;exact f.elim
   |exc _ _=>rw[z]at f;exact f.elim
   |bad=>rw[z]at f;exact f.elim
def Su(st:J'):Option {r:J'×A'×Option Str×J' // ∃p a,st=.Try [r.1] [.ExceptHandler (some r.2.1) r.2.2.1 [r.2.2.2] p] [] [] a}:=match st with
 |.Try [b] [.ExceptHandler (some t) c [h] _] [] [] _=>some ⟨(b,t,c,h),_,_,rfl⟩
 |_=>none
def Sv(st):=(Su st).map (·.1)
variable{W9:Option Str}
theorem Fl{b h}(q:Sv Θ=some (b,n,W9,h)):∃p a,Θ=.Try [b] [.ExceptHandler (some n) W9 [h] p] [] [] a:=by
 obtain⟨⟨_,h⟩,_,e⟩:=Ã.mp q;cases e;exact h
noncomputable def Ys(e:A'):Option {r:Str // ∃p,e=.Name r p}:=match e with
 |.Name x _=>some ⟨x,_,rfl⟩
 |_=>none
def Yt(e):=(Ys e).map (·.1)
theorem zD(q:Yt n=some h):∃p,n=.Name h p:=by
 obtain⟨⟨_,a⟩,_,n⟩:=Ã.mp q;cases n;exact a
def NA(e:A'):Option {r:A'×Str // ∃p,e=.Attribute r.1 r.2 p}:=match e with
 |.Attribute o f _=>some ⟨(o,f),_,rfl⟩
 |_=>none
def KD(e):=(NA e).map (·.1)
theorem Bj(q:KD n=some (R,h)):∃p,n=.Attribute R h p:=by
 obtain⟨⟨_,a⟩,_,n⟩:=Ã.mp q;cases n;exact a
def Sw(st:J'):Option {r:Str×A' // ∃p a,st=.Assign [.Name r.1 p] r.2 a}:=match st with
 |.Assign [.Name x _] v _=>some ⟨(x,v),_,_,rfl⟩
 |_=>none
def Sx(st):=(Sw st).map (·.1)
theorem Fm(q:Sx Θ=some (h,n)):∃p b,Θ=.Assign [.Name h p] n b:=by
 obtain⟨⟨_,a⟩,_,e⟩:=Ã.mp q;cases e;exact a
def Sy(st:J'):Option {r:A'×Str×T'×A'×List A'×T' // ∃b,st=.Expr (.Call (.Attribute r.1 r.2.1 r.2.2.1) (r.2.2.2.1::r.2.2.2.2.1) [] r.2.2.2.2.2) b}:=match st with
 |.Expr (.Call (.Attribute o m c) (a::d) [] p) _=>some ⟨(o,m,c,a,d,p),_,rfl⟩
 |_=>none
def Jn(st):=(Sy st).map (·.1)
theorem vj(q:Jn Θ=some (n,h,o,R,Q,P)):∃b,Θ=.Expr (.Call (.Attribute n h o) (R::Q) [] P) b:=by
 obtain⟨⟨_,a⟩,_,e⟩:=Ã.mp q;cases e;exact a
structure Cch(X:Cx)(κ:Str->b'->Prop)(cn:Str)(C N0 fI:b'):Prop where
 st:X.stack=X.env::X.outer
 fm:X.env.frame=some X.env.locals
 nd:X.N.Nodup
 mg:X.mg cn=some (.ref C)
 ex:Ϗ X.K (.ref C) (.ref C)=some true
 kp:∀Ca,κ cn Ca->Ca=C
 tx:pk X.K C N0 fI
 xs:Uh X.K C
variable{G:List (b'×Obj)}{ν:f'->g'->Prop}
theorem GoodO.chg(a:GoodO c i ς b π l):GoodO ((c.mw G).wish ν) i ς b π l where
 scope:=a.scope
 names:=a.names
 calm:=a.calm
 room:=a.room
 cY:=a.cY
 jo:=λx F h=>⟨(a.jo x F h).ex⟩
 fn:=λx F h=>⟨(a.fn x F h).ex⟩
 cst:=a.cst
 met:=λm C F h=>⟨(a.met m C F h).ex⟩
 cls:=λC F h=>bx (a.cls C F h) λj d e=>⟨j,d,⟨e.ex⟩⟩
 fld:=a.fld
 clo:=a.clo
theorem bt.of(h:∀a,Yr c i u a n p):bt c i u n p:=λd e f g j pins s b H Q I z=>h b _ e f g j _ s b H Q I ⟨rfl,z⟩
theorem NB(h:Passes (mu c.prog c.w) c G5):jP c F2 G5:=λpins H s e b I a=>h _ F2 H s e b I a
def xv(T sc N Cn a G st):=
 (Jn st).bind λq=>(dI T 60 sc N q.1).bind λb=>(cO (dI T 60 sc N) (q.2.2.2.1::q.2.2.2.2.1)).bind λc=>if q.2.1==a&&du q.1&&(q.2.2.1.endLine==q.2.2.2.2.2.line)&&decide (q.2.2.2.2.1.length<19)then some (cA (iy Cn a G b c))else none
theorem qL(G:GoodO c i ς b π l)(r:∀a,i h a->a=N)(s:mX c.K N)(M:Meth c.K N B j)(F:bW c.prog c.w c.K c.mg c.base (mu c.prog c.w) b j J0 M0 (oP i C))(t:Binds c.K J0 M0 [])(k:Passes (mu c.prog c.w) c G5)(st f)(d:xv ς π l h B C st=some f):iq c i (lu i G5) st f:=by
 obtain⟨⟨o,m1,L,u,x,p⟩,v1,d⟩:=e_ d;refine bx (e_ d) λO y d=>?_
 refine bx (e_ d) λP z d=>?_
 split at d
 rotate_left
 .exact bD d
 rename_i n;cases d;simp at n;obtain⟨⟨⟨A,D⟩,E⟩,H⟩:=n;subst A;obtain⟨Q,rfl⟩:=vj v1;obtain⟨I,g⟩:=br (λe m q=>fD 60 c π l e m G q) z
 refine yK (oz rfl) (bt.of λJ=>qK r s M F G.room t (NB k) ((fD 60 c π l _ _ G y).1 _) (I _) (bC (g u (by simp))) (bG (by simp_all)) (mK (cK D) g (by exact ϖ H) (by simp[E])))
def zE(W:aG I M O Δ L ς b)(F:Bq O h B Θ j J0){c}(e:fv l M0 (ai Θ)=true)(f:fQ (ml c ς u8 60 (ai Θ) l 30) (aO Θ)=some ε)(g:∀X,dX X (cJ Δ) ς b (ai Θ) l->∀a d,c a=some d->iq X (cJ Δ) lR a d):=
 tj W F e λi A outer s H E G=>ez (kC G (g _ G) 30 60) f
def Jo(j:Nat)(d):=aR j λ_ a=>.ok d a
variable{P7:T'}{i0:Obj}
theorem Jp(d:WN c j ω i0 N P1 y4)(u:dg c.K ω P4)(x:c.N.Nodup)(y:c.N[b]?=some h)(z:vx c.env.scope h)(e:(h==("__debug__"))=false)(g:(h==("__classdict__"))=false)(A:c.N[w]?=some B)(p:c.env.scope.names.lookup B=some .local)(a q r s Ω t v):
  jf c [.Assign [.Name B o] (.Attribute (.Name h P) P4 Q3) P7] (λD k H=>H N=some (.xd [(P4,v)])/\k[b]?=some (some (.ref j))/\∃α Z,cQ i a q r α Z Ω s k H/\aq α Z H t v/\dW i lR a q r D (Jo w t s Ω)):=by
 refine jf.imp (xM (BB x A (.inl p) (PK d u y z e g) rfl (.inr p))) ?_;rintro E k H ⟨l,m,α,Z,S,n,f⟩;exact⟨m,[(P4,v)],v,l,by simp[ű],f _ H α Z (S.set n w)⟩
def xy(T sc N Cn e d a G st):=
 (Sv st).bind λq=>(Jn q.1).bind λb=>(Yt q.2.1).bind λf=>q.2.2.1.bind λn=>(Sx q.2.2.2).bind λh=>(KD h.2).bind λc=>(Yt c.1).bind λg=>
 (dI T 60 sc N b.1).bind λk=>(cO (dI T 60 sc N) (b.2.2.2.1::b.2.2.2.2.1)).bind λl=>(lK sc N h.1).bind λj=>(lK sc N n).bind λi=>
 if b.2.1==e&&du b.1&&(b.2.2.1.endLine==b.2.2.2.2.2.line)&&decide (b.2.2.2.2.1.length<19)&&f==d&&we sc d&&g==n&&c.2==a&&(sc.names.lookup n==some .local)&&(sc.names.lookup h.1==some .local)&&!(d==("__debug__"))then some (lT (cA (iy Cn e G k l)) d a (Jo j) i)else none
theorem qM(G:GoodO c i ς b π l)(Y:Cch c i h j N ω)(na:dg c.K j B)(hC:∀a,i P4 a->a=y4)(cl:mX c.K y4)(M:Meth c.K y4 n8 P1)(F:bW c.prog c.w c.K c.mg c.base (mu c.prog c.w) b P1 J0 M0 (oP i C))(hb:Binds c.K J0 M0 [])(st g)(f:xy ς π l P4 n8 h B C st=some g):iq c i u st g:=by
 refine mH f λq v1 f=>mH f λk v2 f=>mH f λbn v5 f=>mH f λn v6 f=>mH f λw v7 f=>mH f λa s f=>mH f λn2 t f=>mH f λmo t1 f=>mH f λas t4 f=>mH f λx s1 f=>mH f λA s3 f=>Mo f λQ f=>Br f ?_
 have R:=bL Q;have S:=bL R;have T:=bL S;have U:=bL T;have V:=bL U;have X:=bL V;have d7:=bL X;have Z:=bL d7;have d9:=bL Z;refine xe (Fl v1) λ_ z=>xe z λ_ e1=>xe (vj v2) λ_ e2=>xe (zD v5) λ_ e5=>xe (Fm v7) λ_ z=>xe z λ_ e7=>xe (Bj s) λ_ D=>xe (zD t) λ_ H=>?_
 rw[e1,e2,e5,v6,e7,D,H,eq_of_beq (bL d9),eq_of_beq (bR X),eq_of_beq (bR U),eq_of_beq (bR T)];refine kH (mD s1) λj1 j2 o=>xa o λj3 j4=>?_
 refine kH (mD s3) λi1 I o=>xa o λi3 i4=>?_
 have J:∀{y:Nat}{z:Str},l[y]?=some z->c.N[y]?=some z:=λf=>by rw[G.names];exact f
 have hV:∀{z:Str},vx π z->vx c.env.scope z:=λf=>by rw[G.scope];exact f
 refine Fj (n8:=n) Y.st Y.fm (G.gl (bR V)) Y.mg Y.ex Y.nd (J i1) (by rw[G.scope];exact eq_of_beq (bR S)) Y.kp Y.tx Y.xs (λr xe a0 E L=>?_) (λr e d oe O P Z0 H0 ρ Ω dD v=>?_) (by simpa using bR Q)
 .have G':GoodO ((c.mw r).wish xe) i ς b π l:=G.chg
  have ok:=λe m q=>fD 60 ((c.mw r).wish xe) π l e m G' q
  obtain⟨pa,p⟩:=br ok t4;exact Jm (qK hC cl M F G.room hb L ((ok _ _ t1).1 _) (pa _) (bC (p k.2.2.2.1 (.head _))) (bG λz hz=>p z (.tail _ hz)) (mK (cK (bR d9)) p (Nat.succ_lt_succ (of_decide_eq_true (bR d7))) (bR Z))) (oz rfl)
 .exact Jp (c:=((c.mw r).pV e).xX e oe) O na Y.nd (J i1) (hV I) i3 i4 (J j1) (by rw[show(((c.mw r).pV e).xX e oe).env.scope=c.env.scope from rfl,G.scope];exact eq_of_beq (bR R)) P Z0 H0 ρ Ω dD v
theorem xB:∀v c H Q,vA O 2 (gG [0,1]) v c H Q->vA O 2 (gG [0,1]) v c H λb d=>Q b d/\b.length=c.length/\∀j,2<=j->b[j]?=c[j]?:=λv c H Q h=>by
 obtain⟨a,g,rfl,e,f,v1,i,rfl,v2,k,rfl,rfl,q⟩:=h;refine⟨a,_,rfl,e,f,v1,_,rfl,v2,_,rfl,rfl,q,by simp,λj l=>?_⟩
 grind
variable{D4:A'}
theorem Fo(E:c.calm=true)(j:iZ c π [h,B] l T)(I:∀z,Ď n c.env z=pure z)(y:wF c i u (.Tuple [.Name h P,.Name B Q3] b P7) n D3)(J:π.names.lookup h=some .local)(K:π.names.lookup B=some .local)(s:([h,B]++l).Nodup)(hb:∀A C f g fp,jA (blk c π A C ([h,B]++l) f g fp) i lR D4 ξ/\bt (blk c π A C ([h,B]++l) f g fp) i lR R p):
  bt c i u (.ListComp R [⟨.Tuple [.Name h P,.Name B Q3] b P7,n,[D4],0⟩] π o) (cD p false ξ D3 2 T):=by
 intro L M N O F;have G:(ġ _ c.env).names.lookup h=some _:=adB J;have t:(ġ _ c.env).names.lookup B=some _:=adB K
 obtain⟨wi,tc,te,D,r,U⟩:=qx (Y6:=vA _ 2 (gG [0,1])) (b:=2) (Q:=[D4]) (ξ:=ξ) (H:=false) (D4:=R) (p:=p) y (λd V z α Z F H X k m S Y hk=>by
   cases d with
   |tup es=>
    simp only[uI]at m;split at m
    .rename_i x
     injection m with m;have e:=(acb (λ_ _ q=>by injection q)).mp m.symm
     subst e;obtain⟨a,vs,rfl,_,D,r⟩:=eh Y
     match V,x,r with
     |[d1,d2],_,r=>
      obtain⟨v,w,rfl,q1,q2⟩:=mG r;exact⟨a,_,rfl,yc (.inl D),rfl,v,_,rfl,w,_,rfl,rfl,hk [v,w] r⟩
    .exact bD m
   |_=>cases m) (λA C f g fp=>⟨BA E (mV (jD s rfl (.inl G) (.inr G)) (mV (jD s rfl (.inl t) (.inr t)) xP)),by simp_all,by simp_all⟩) _ M N O F
 exact PE.imp (yj E j D I xB r) U
structure Yu where
 (elt:A') (x:Str) (px:T') (y:Str) (py:T') (j:Nat) (pt:T') (iter c:A') (scope:V') (p pg pc sp:T')
noncomputable def Yu.e(q:Yu):A':=.ListComp q.elt [⟨.Tuple [.Name q.x q.px,.Name q.y q.py] q.j q.pt,q.iter,[q.c],0⟩] q.scope q.p
def vWk:(st:J')->Option {q:Yu // st=.Return (some (.Call (.Name "sorted" q.pg) [q.e] [] q.pc)) q.sp}
 |.Return (some (.Call (.Name g b) [.ListComp a [⟨.Tuple [.Name x d,.Name y f] j i,iter,[c],0⟩] scope p] [] k)) l=>if h:g="sorted" then some ⟨⟨a,x,d,y,f,j,i,iter,c,scope,p,b,k,l⟩,by subst h;rfl⟩else none
 |_=>none
def Sz(T sc N st):=
 (vWk st).bind λq=>(wg sc N (dO q.1.scope)).bind λa=>(gV (dI T 60 sc N) sc q.1.iter).bind λb=>(dI T 60 (C_ q.1.scope sc) (q.1.x::q.1.y::dO q.1.scope) q.1.elt).bind λd=>(dI T 60 (C_ q.1.scope sc) (q.1.x::q.1.y::dO q.1.scope) q.1.c).bind λe=>
  if we sc "sorted"&&Ar q.1.scope sc q.1.x&&(q.1.scope.names.lookup q.1.y==some .local)&&decide ((q.1.x::q.1.y::dO q.1.scope).Nodup)&&!isSet q.1.iter then some (bj (mN yz (af (cD d false e b 2 a) aj)))else none
theorem Jq(G:dX c i ς b π l)(st a)(D:Sz ς π l st=some a):iq c i u st a:=by
 obtain⟨⟨q,E⟩,v1,h⟩:=e_ D;refine bx (e_ h) λj o h=>?_
 refine bx (e_ h) λF p h=>?_
 refine bx (e_ h) λr t3 h=>?_
 refine bx (e_ h) λs t h=>?_
 dsimp only at o p t3 t h;subst E;split at h
 rotate_left
 .exact bD h
 rename_i w;cases h;simp only[Ö,decide_eq_true_eq,beq_iff_eq,Ť]at w;obtain⟨⟨⟨⟨H,I⟩,J⟩,k⟩,n⟩:=w;obtain⟨g,K,O⟩:=yQ G.toGoodO I o;have L:iZ c q.scope [q.x,q.y] (dO q.scope) j:=⟨g.kind,g.cell,g.names,g.free,g.len,g.at'⟩;have M:∀e m,dI ς 60 π l e=some m->kF c i e m:=λe m z=>fD 60 c π l e m G.toGoodO z
 have N:bt c i u q.e (cD r false s F 2 j):=Fo G.calm L (jV n) (ir G.toGoodO M p u _) K J k λA C d f B=>⟨(fD 60 _ _ _ q.c s (G.toGoodO.blk q.scope A C ([q.x,q.y]++dO q.scope) d f B) t).2.1 lR,(fD 60 _ _ _ q.elt r (G.toGoodO.blk q.scope A C ([q.x,q.y]++dO q.scope) d f B) t3).1 lR⟩
 exact yH (DF (G.gl H) (G.cY _ (by decide)) rfl rfl (nV N rX rfl))
def SA(a st):=(Jn st).bind λq=>if q.2.1==a then some bF else none
theorem Jr(st b)(d:SA h st=some b):iq c i u st b:=by
 obtain⟨q,v1,a⟩:=e_ d;split at a
 .cases a
  exact k_
 .exact bD a
def NC:=
 (ag (dP (m2 (aJ .Eq) (ae 1) (au (.int 8)))
 (ag (bj (ae 0))
 ah)
 ah)
 (ag (dP (m1 (jl .list) (ae 0))
 (ag bF
 ah)
 ah)
 (ag (dP (m1 (jl .tuple) (ae 0))
 (ag bF
 ah)
 ah)
 (ag (dP (m1 (jl .dict) (ae 0))
 (ag bF
 ah)
 ah)
 (ag (bj (ae 0))
 ah)))))
def VI(a):=mN (λb c=>bw a (b++[.int 0]) c) (af (ae 1) aj)
def Yv(a HD):=(d8 (aI "Town" "drop" a (ae 0) (af (ae 7) aj)) (aI "House" "drop" HD (ae 0) (af (ae 7) aj)))
def SD(n:Str):=mj "NoKind" [("name",.str n)]
def NkR(c:List (Str×EM)):=∀b a,je "NoKind" c [] [none,some (.str a)] b=.exc (SD a) b
theorem ND:NkR [("name",VI (aH 2 2 NC))]:=λb a=>by
 rfl
def NF(a)(b:List (Str×EM)):=
 (ag (dP (m2 (aJ .NotIn) (ae 1) (aI "House" "kinds" a (ae 0) aj))
 (ag (mS "NoKind" 1 b (af (ae 1) aj))
 ah)
 ah)
 ah)
def Fp(c:aK):=∀b h E L P n,dy P b h E L->n∉nms E->∃a,c [.ref h,.str n] b=.exc (SD n) a/\ao [] b a
theorem NG{b}(c:EK C)(d:NkR b):Fp (aH 2 2 (NF C b)):=by
 intro e h E L P n H f;refine bQ (c e h E L P H) λk g i j l _=>?_
 refine ee H λ_ _ _ _ m _=>?_
 have a:=mP (h:=n) j;rw[decide_eq_false f]at a;refine⟨_,fX ((qT (eQ rfl (eM rfl m rfl i) a)).trans (qY (qY ?_))),l⟩
 show(match je _ b [] [none,some _] _ with|.exc x _=>d_.exc x _|_=>.bad)=_
 rw[d]
theorem eX(c:p v a=.ok (.ref b) y)(d:y[b]?=some (.ins h m3))(f:u0 v y=.ok q M5)(e:C (.ref b::q) M5=D2)(g:m3.lookup B=none:=by rfl):iy h B C p u0 v a=D2:=by
 unfold iy;rw[c,eA,iN d];simp only[g,and_self,if_true,f];exact e
def ckE(a):=(cA (iy "House" "check_kind" a (m1 (bf ["Town"] "house") (m1 (bf ["Things"] "town") (ae 0))) (af (ae 2) aj)))
def Bk(a b):=
 (ag (aR 3 (aI "Things" "thing" a (ae 0) (af (ae 1) aj)))
 (ag (ckE b)
 (ag (cM ["Thing"] "kind" (ae 3) (ae 2))
 ah)))
theorem NH(c:cZ C)(d:Fp Ξ)(W:Tn a b w ζ A0 B1 E1 Y E)(e:a9 Y (.inr h)=some (.ref o4))(f:a[w]?=some (.ins "Town" (("house",.ref E6)::m3)))(H:dy R0 a E6 Q0 M3)(g:B∉nms Q0):
  ∃av,aH 4 3 (Bk C Ξ) [.ref b,.str h,.str B] a=.exc (SD B) av/\ao [] a av:=
 bx (d a E6 Q0 M3 R0 B H g) λi j k=>ee H λ_ _ _ _ l _=>⟨_,fX ((qA (eY c W e rfl rfl)).trans (qX (eX (eF (eF rfl W.ob) f) l rfl j))),k⟩
def xC(a b TI):=
 (ag (dP (ew (mN (bw a) (af (ae 1) aj)))
 (ag bF
 ah)
 ah)
 (ag (dP (m2 (aJ .In) (ae 1) (m1 (bf ["Things"] "made") (ae 0)))
 (ag bF
 ah)
 ah)
 (ag (dP (m2 (aJ .GtE) (mN (cb .len) (af (m1 (bf ["Things"] "made") (ae 0)) aj)) (au (.int 40)))
 (ag bF
 ah)
 ah)
 (ag (ckE b)
 (ag (fA (m1 (bf ["Things"] "made") (ae 0)) (ae 1) (mN (ey "Thing" TI) (af (ae 2) aj)))
 ah)))))
theorem NI(j:gb C)(k:Fp Ξ)(W:Tn a b w ζ A0 B1 E1 Y E)(l:a[w]?=some (.ins "Town" (("house",.ref o4)::m3)))(H:dy R0 a o4 Q0 M3)(m:B∉nms Q0)(n:iU h)(o:a9 Y (.inr h)=none)(u:Y.length<40):
  ∃av,aH 3 3 (xC C Ξ y3) [.ref b,.str h,.str B] a=.exc (SD B) av/\ao [] a av:=by
 refine bx (j a h n) λp q c=>?_
 have e:=W.aU c;have i:cw _ E1 _:=.inl e.dk;have d:=EG (h:=h) i;rw[o]at d;refine bx (k _ o4 Q0 M3 R0 B (H.keep c) m) λf r s=>?_
 refine ee (H.keep c) λ_ _ _ _ t _=>⟨f,fX ((q0 (nT (eC rfl q))).trans ((q0 (eQ rfl (eF rfl e.ob) d)).trans ((q0 (eQ (eN (eK (eF rfl e.ob) rfl) (zk i)) rfl (Vo (decide_eq_false (by omega))))).trans (qX (eX (eF (eF rfl e.ob) (c.g l)) t rfl r))))),c.trans s⟩
def VJ(a):=
 (ag (aR 3 (au .non))
 (ag (lT (cA (iy "Things" "move" a (ae 0) (af (ae 1) (af (ae 2) aj)))) "NoKind" "name" (Jo 3) 4)
 (ag (bj (m2 (aJ .Eq) (ae 3) (ae 2)))
 ah)))
def SE(a):=
 (ag (aR 2 (au .non))
 (ag (lT (cA (iy "Things" "make" a (ae 0) (af (au (.str "zzzzzzzz")) (af (ae 1) aj)))) "NoKind" "name" (Jo 2) 3)
 (ag (bj (m2 (aJ .Eq) (ae 2) (ae 1)))
 ah)))
theorem zF{d}(c:ε v a=.exc m M5)(e:Nx h B m=some η)(f:d η (v.set b none) M5=.nx ia y):lT ε h B d b v a=.nx (ia.set b none) y:=by
 unfold lT
 simp_all
theorem Fq:Nx "NoKind" "name" (SD h)=some (.str h):=rfl
theorem Fs:aJ .Eq (.str h) (.str h) a=.ok (.bl true) a:=by
 rw[show aJ .Eq (.str h) (.str h) a=.ok (.bl (h==h)) a from rfl,beq_self_eq_true]
theorem SF(c:cZ C)(d:Fp Ξ)(W:Tn a b w ζ A0 B1 E1 Y E)(e:a9 Y (.inr h)=some (.ref o4))(f:a[w]?=some (.ins "Town" (("house",.ref E6)::m3)))(H:dy R0 a E6 Q0 M3)(g:B∉nms Q0):
  ∃av,aH 5 3 (VJ (aH 4 3 (Bk C Ξ))) [.ref b,.str h,.str B] a=.ok (.bl true) av/\ao [] a av:=
 bx (NH c d W e f H g) λi j k=>⟨_,fR ((qA rfl).trans ((qN (zF (by rw[zc,eX rfl W.ob rfl j];rfl) Fq rfl)).trans (qR (eQ rfl rfl Fs)))),k⟩
theorem NJ:iU "zzzzzzzz":=by
 unfold iU;decide +kernel
theorem SG(c:gb C)(d:Fp Ξ)(W:Tn a b w ζ A0 B1 E1 Y E)(e:a[w]?=some (.ins "Town" (("house",.ref o4)::m3)))(H:dy R0 a o4 Q0 M3)(f:h∉nms Q0)(g:a9 Y (.inr "zzzzzzzz")=none)(i:Y.length<40):
  ∃av,aH 4 2 (SE (aH 3 3 (xC C Ξ y3))) [.ref b,.str h] a=.ok (.bl true) av/\ao [] a av:=
 bx (NI c d W e H f NJ g i) λj k l=>⟨_,fR ((qA rfl).trans ((qN (zF (by rw[zc,eX rfl W.ob rfl k];rfl) Fq rfl)).trans (qR (eQ rfl rfl Fs)))),l⟩
theorem Ft(h:a[b]?=some (.dK Y)):cG a (a.set b (.dF Y))=a:=by
 apply adz;intro k;unfold cG;rw[ĳ]
 by_cases z:k=b
 .subst z;rw[di h,h];rfl
 .rw[ķ (Ç z)]
  cases q:a[k]? with
  |none=>rfl
  |some c=>cases c<;>rfl
theorem a_.drop{n}(h:a_ R0 a Y Q0):a_ R0 a (et Y (.inr n)) (Q0.filter λq=>decide (q.1≠n)):=by
 induction h with
 |nil=>exact .nil
 |@cons c p d e r t b=>
  unfold et at b ⊢;rw[ī,ī];have:decide (c.1≠.inr n)=decide (p.1≠n):=by simp_all
  rw[this];split
  .exact .cons r b
  .exact b
abbrev wo(a:List Str)(n):=a.filter λm=>decide (m≠n)
theorem NK:(eW l M3).filter (λq=>decide (q.1≠h))=eW (wo l h) M3:=by
 unfold eW;rw[adG];rfl
def drB:=(ag (dP (m2 (aJ .In) (ae 1) (ae 3)) (ag bF ah) ah) ah)
def SH(a):=
 (ag (cA (aI "House" "check_kind" a (ae 0) (af (ae 1) aj)))
 (ag (Kc (dQ [2,3]) (kZ fe) drB)
 (ag (cA (pC fe (af (ae 1) aj)))
 (ag (cA (pC fl' (af (ae 1) aj)))
 ah))))
theorem SI(X:iv C)(H:vt R0 a b w ζ (bare l) λh=>[h])(R:h∈l)(Y:l.length<=100)(p:w≠ζ):
  ∃av,aH 4 2 (SH C) [.ref b,.str h] a=.ok .non av/\vt R0 av b w ζ (bare (wo l h)) (λh=>[h])/\ao [w,ζ] a av:=by
 have t:h∈nms (bare l):=by rw[dC];exact R
 refine bx (X a b _ _ R0 h H.at t) λc Z S=>?_
 refine bg (H.keep S (by simp) (by simp) (by simp) (by simp)) λg a0 M f N h4 T=>?_
 rw[dC]at T;have u:∀{a:az}{w:Nat}{y},a[w]?=some (.dK y)->∀j∈[w],∀U,a[j]?≠some (.lst U):=λb j V U=>by simp_all
 have f2:=kx (a:=c) (.inl f);have O:=N.eB (ao.set (è.mpr rfl):ao [w] c (c.set w (.dF g))) (u f);have A:=N.len
 obtain⟨_,P,lp,B,D,rfl,rfl⟩:=lpF (G7:=dQ [2,3]) (D3:=kZ fe) (ε:=drB) (q:=g.map λy=>.tup [fy y.1,y.2]) (λi ρ k=>∃B D,ρ=[oR b,oS h,B,D]/\k=c.set w (.dF g)) (by show((bf ["House"] "elders" (.ref b) c).bind _)=_;rw[Ko M];exact Kn (.inl f)) (λ⟨_,_,_,z⟩=>by simp only[z,dr,f2]) (by
  rintro i d _ _ E ⟨B,D,rfl,rfl⟩;rw[ç]at E;obtain⟨y,Q,rfl⟩:=Ã.mp E;obtain⟨⟨m,r⟩,hi,hk,j,V,_,F⟩:=aE.get O Q;obtain⟨x,_,z⟩:=Î.mp (Ë hi);cases z;rw[hk,V];exact⟨_,_,_,rfl,q0 (eQ rfl rfl (wO (h:=h) F)),_,_,rfl,rfl⟩) ⟨none,none,rfl,rfl⟩ (by simp[eW]at A ⊢;exact fG (B' (R' A.symm) Y))
 refine ay (N.at t) λj1 v1 _ _=>?_
 refine ay (kO (iQ (v:=[oR b,oS h,B,D]) (u0:=af (ae 1) aj) (eF rfl M:fe _ _=_) rfl f rfl v1) f) λP r1 G g2=>?_
 have o:=G.get _ _ M (by simpa using ed M f)
 have e:=G.get _ _ h4 (by simpa using Ç p)
 have I:=T.eB G (u f);refine ay (I.at (n:=h) (by rw[dC];exact R)) λj2 v2 _ _=>?_
 refine ay (kO (iQ (v:=[oR b,oS h,B,D]) (u0:=af (ae 1) aj) (eF rfl o:fl' _ _=_) rfl e rfl v2) e) λk r2 J g3=>?_
 have K:=((N.drop (n:=h)).eB G (u f)).eB J (u e);have L:=(I.drop (n:=h)).eB J (u e);rw[NK]at K L;refine bg H λ_ _ p1 _ _ _ _=>?_
 exact⟨k,fZ ((qE (eM rfl p1 rfl Z)).trans ((qN ((congrArg (Ii c) lp).trans (congrArg (d_.nx _) (Ft f)))).trans ((qE r1).trans (qE r2)))),⟨_,_,J.get _ _ o (by simpa using ed o e),J.get _ _ g2 (by simpa using p),K,g3,by rw[dC];exact L⟩,S.s.trans (G.s.trans J.s)⟩
def SJ:=
 (ag (bj (mN yz (af (cD (ae 1) false (m2 (aJ .Eq) (ae 0) (ae 2)) (cf (m1 (bf ["Facts"] "strengths") (ae 0))) 2 [1]) aj)))
 ah)
theorem SK(k:a[b]?=some (.ins "Facts" [("teller",m),("strengths",.ref w),("asked",η)]))(f:cw a w []):∃q av,aH 2 2 SJ [.ref b,.str h] a=.ok (.ref q) av/\av[q]?=some (.lst [])/\cw av w []/\ao [w] a av/\a.length<=q:=by
 have l:cf (m1 (bf ["Facts"] "strengths") (ae 0)) (cS 2 [.ref b,.str h]) a=.ok (.keys w) (a.set w (.dF [])):=by
  rw[ku,eF rfl k];exact qH f
 have i:=kx f;have j:ao [w] a (a.set w (.dF [])):=ao.set (by simp)
 generalize a.set w _=c at *;refine ay (kA (lN (q:=[]) (a:=c))) λd n e o=>?_
 refine⟨_,d++[.lst []],fR (qR (eN (eK (y:=d) (m:=.ref c.length) ?_ rfl) ?_)),aN,.inr (sO (e.g i)),(j.trans e.s).trans ao.app,B' j.len e.len⟩
 .have p:tA false (m2 (aJ .Eq) (ae 0) (ae 2)) (ae 1) 2 (eU [1] (cS 2 [.ref b,.str h])) (.keys w) fuel 0 [] c=.ok [] c:=by
   show tA _ _ _ _ _ _ (_+1) _ _ _=_
   unfold tA;simp only[dr,i];rfl
  unfold cD;simp only[l,p];exact n
 .show(match cR _ _ with|some r=>_|none=>_)=_
  rw[aV o];simp only[show jQ []=.ok []by simp[jQ,yb]]
  rfl
def Yw(a b c):=
 (ag (cA (aI "House" "drop" a (m1 (bf ["Town"] "house") (ae 0)) (af (ae 1) aj)))
 (ag (dw (cF 2) (cf (aI "Facts" "words_known" b (m1 (bf ["Town"] "facts") (ae 0)) (af (ae 1) aj)))
 (ag bF ah))
 (ag (cA (pC (m1 (bf ["Town"] "tags") (ae 0)) (af (ae 1) aj)))
 (ag (bj (aI "Town" "count_deed" c (ae 0) (af (mN cz aj) aj)))
 ah))))
theorem Bl:(et Y z7).length<=Y.length:=acN _ _
theorem Bm{a}(h:a≠z7):a9 (et Y z7) a=a9 Y a:=by
 induction Y with
 |nil=>rfl
 |cons p Y b=>
  unfold et at b ⊢;rw[ī];split
  .rw[bK,bK,b]
  .rename_i z
   have:=by omega
   rw[bK,if_neg (by grind),b]
theorem SN(hC:iv C)(W:Tw a C7 l J)(X:h∈l)(hl:l.length<=100)(hb:J<=400)(kk:∀x av,aH 3 2 (Yw (aH 4 2 (SH C)) (aH 2 2 SJ) (aH 3 2 FI)) [.ref C7.t,.str h] a=.ok x av->Tw av C7 (wo l h) (J+1)->ao (tz C7) a av->T4):T4:=by
 have E:=W.nd;simp at E;refine ay W.tg λtk u a0 w=>?_
 refine ay (SI hC W.ho X hl E.2.1.1) λm e1 H1 o=>?_
 refine bg W.ho λ_ _ D F _ G _=>?_
 have c:=W.to;have r:=W.fa;have f:=W.ak;have H:C7.t≠C7.sd:=λz=>W.sd.ni _ _ (z▸c)
 have I:=ed c u;have K:=o.get _ _ c (by simp[ed c F,ed c G])
 have L:=o.get _ _ r (by simp[ed r F,ed r G])
 have Z:=o.get _ _ u (by simp_all)
 have s1:=W.sd.keep o (by simp;grind)
 have a1:=o.get _ _ f (by simp[ed f F,ed f G])
 refine bg (SK (h:=h) L s1) λq y e2 q2 s2 M lq=>?_
 refine aP (Bs (a:=m) (G7:=cF 2) (ε:=ag bF ah) (D3:=cf (aI "Facts" "words_known" (aH 2 2 SJ) (m1 (bf ["Town"] "facts") (ae 0)) (af (ae 1) aj))) (q:=[]) (λi ρ d=>ρ=[oR C7.t,oS h,none]/\d=y) (sr (eM (eF rfl K) L rfl e2) q2) (λz=>by rw[z.2,ej,bI,aV q2]) (λz=>by cases z) ⟨rfl,rfl⟩ (by simp)) λ_ _ r2 z1 z2=>?_
 rw[z1,z2]at r2;have t2:=M.get _ _ K (by simp[H])
 have g2:=M.get _ _ Z (by simp;exact E.1.2.2)
 obtain⟨vv,hv⟩:=Ϩ.mp (w h X);refine ay (kO (iQ (v:=[oR C7.t,oS h,none]) (p:=m1 (bf ["Town"] "tags") (ae 0)) (u0:=af (ae 1) aj) (eF rfl t2) rfl g2 rfl hv) g2) λd e3 K3 g3=>?_
 have t3:=K3.get _ _ t2 (by simp[I])
 refine ay (kA (lN (q:=[]) (a:=d))) λb0 e4 N q4=>?_
 have dl:=Bl (Y:=tk) (z7:=.inr h);refine bg (Kt (l:=[]) (N.g t3) (N.g g3) (by simp;omega) q4) λO e e5 t5 g5 P Q=>xa Q λR K5=>?_
 have A:ao [C7.g,C7.t] y e:=K3.s.trans (N.s.trans K5.s);have b:ao [C7.sd,C7.g,C7.t] m e:=M.s.trans A.s
 have nl:∀j∈[C7.sd,C7.g,C7.t],∀S,m[j]?≠some (.lst S):=λj hj S=>by
  simp at hj;rcases hj with rfl|rfl|rfl
  .exact s1.nl S
  .rw[Z];simp
  .rw[K];simp
 have B:ao (tz C7) a e:=o.s.trans b.s;refine kk (.ref d.length) e (fR ((qE (eM (eF rfl c) D rfl e1)).trans ((r2 _).trans ((qE e3).trans (qR (eM rfl t3 (eK (eN rfl e4) rfl) e5)))))) ⟨t5,?_,⟨O,g5,by simp at P;omega,λk T=>R k (.inl ?_)⟩,b.get _ _ L (by simp;exact⟨λz=>W.sd.ni _ _ (z▸r),ed r u,ed r c⟩),s2.keep A (by simp;grind),b.get _ _ a1 (by simp;exact⟨λz=>W.sd.nl _ (z▸f),ed f u,ed f c⟩),λn f=>M' (W.lt n f) B.len,W.nd⟩ B
 .exact bg H1 λU V p1 p2 p3 p4 p5=>⟨U,V,b.get _ _ p1 (by simp;exact⟨λz=>W.sd.ni _ _ (z▸D),ed D u,ed D c⟩),b.get _ _ p2 (by simp;grind),p3.eB b nl,b.get _ _ p4 (by simp;grind),p5.eB b nl⟩
 .rw[ũ,decide_eq_true_eq]at T
  rw[Bm (by simpa using T.2)]
  exact w k T.1
structure Q5(Ω:az)(A:Ae)(L:List (List Str))(M:List Tz)(ns:List Str):Prop where
 H:Ps Ω A L M
 z:L[0]?=some []
 i:∀y∈M,y.n∈ns
 u:∀y∈M,∀w∈cx y.v,iU w
theorem Q5.aU{Ω av A L M a}(H:Q5 Ω A L M a)(K:ao [] Ω av):Q5 av A L M a:=⟨H.H.aU K,H.z,H.i,H.u⟩
theorem Q5.of(h:Q5 a o0 E (Z++χ::y2) l)(b:Ps y o0 w8 (Z++J8::y2))(hz:w8[0]?=some [])(c:J8.n=χ.n)(d:∀u∈cx J8.v,iU u):Q5 y o0 w8 (Z++J8::y2) l:=⟨b,hz,Vp h.i (c▸h.i χ (by simp)),Vp h.u d⟩
noncomputable def sk(y:Tz):Tz:=⟨y.n,y.c,y.l,0,y.k,y.v.map λp=>(p.1,0),y.j,y.o⟩
theorem xD(h:sk χ=sk J8):χ.n=J8.n/\χ.k=J8.k/\cx χ.v=cx J8.v/\g_ χ=g_ J8/\χ.j=J8.j/\χ.o=J8.o:=by
 unfold sk at h;simp only[Tz.mk.injEq]at h;refine cW h λb g i _ c a=>kH a λd e f=>?_
 refine⟨b,c,?_,by simp_all,e,f⟩
 have:=congrArg (List.map (·.1)) d;simpa[adl]using this
theorem Fu(h:y2.map sk=Z.map sk)(a:χ∈Z):∃y'∈y2,sk y'=sk χ:=by
 have:sk χ∈y2.map sk:=by grind
 grind
theorem Fv(h:y2.map sk=Z.map sk):ads y2=ads Z:=by
 have e:∀Z,ads (Z.map sk)=ads Z:=λZ=>by
  unfold ads;rw[List.flatMap_map];rfl
 grind
abbrev lE(A:Ae)(kd a:Str)(a4 b c d:Option D):aZ:=[oR A.T,oR A.P,oS kd,oS a,a4,b,c,d]
theorem oQ(a:h∈cx v4):cx (gQ v4 h J)=cx v4:=by
 rw[gQ,if_pos a,zv a]
theorem Js(c:(cx v4).Nodup)(b:h∈cx v4):∃x,a9 (cP v4) (.inr h)=some (.int x):=by
 obtain⟨p,d,rfl⟩:=Î.mp b;obtain⟨a,e⟩:=ċ.mp d;exact⟨_,sZ c e⟩
def Yy:=(m2 (bh .Add) (m2 (bh .FloorDiv) (m2 bc (ae 6) (ae 7)) (au (.int 2))) (au (.int 1)))
def lfB(a):=(ag (fA (ae 6) (ae 7) Yy)
 (ag (cA (aI "Things" "put" a (ae 0) (af (ae 4) (af (ae 7) (af (m2 bc (ae 6) (ae 7)) aj)))))
 ah))
theorem NL(k:gb C)(q:cZ Ξ)(s:eH y3)(t:iV S5)(H:Q5 a o0 E (Z++χ::y2) l)(c:h∈cx χ.v)(w:E.length<=500):
  ∃y' av,lfB (aH 6 4 (Bv C Ξ y3 S5)) (lE o0 B P4 (oS χ.n) E2 (oR χ.o) (oS h)) a=.nx (lE o0 B P4 (oS χ.n) E2 (oR χ.o) (oS h)) av/\Q5 av o0 E (Z++y'::y2) l/\sk y'=sk χ/\ao ([o0.r,o0.m]++g_ χ) a av:=by
 have Y:=H.H.al χ (by simp)
 obtain⟨L,d⟩:=Js Y.G.nd c;have x:=fV (.inl Y.O) d;obtain⟨f,y⟩:∃f:Int,Yy (lE o0 B P4 _ E2 (oR χ.o) (oS h)) a=.ok _ a:=⟨_,by simp[Yy,x];rfl⟩
 obtain⟨i,A,D,F,I,g,J,j,K⟩:=Kx k q s t H.H (H.u χ (by simp) h c) w (.inl c)
 rw[oQ c,zu (Ë Y.G.wd)]at j;refine⟨_,_,(qD y rfl rfl F).trans (qE (eM rfl I.ob (eK rfl (eK rfl (eK (eQ rfl rfl g) rfl))) J)),H.of j H.z rfl (by rw[oQ c];exact H.u χ (by simp)),?_,K⟩
 have e:∀v,v.map (λp=>(p.1,(0:Int)))=(cx v).map λb=>(b,0):=λv=>by simp[cx]
 simp only[sk,e,oQ c]
theorem Ps.old(H:Ps a o0 E Z):∀b∈own o0 Z,b<a.length:=λb ha=>by
 rcases Ô.mp ha with ha|ha
 .have d:=aX H.W.sh.ro
  have e:=aX H.W.sh.nu;have f:=aX H.W.dk;have g:=H.pd.lt
  grind
 .obtain⟨z,c,ha⟩:=adH.mp ha
  have Y:=H.al z c;simp at ha;rcases ha with rfl|rfl|rfl|rfl
  .exact aX Y.G.ob
  .exact aX Y.G.sl
  .exact aX Y.R
  .exact aX Y.O
theorem fW:∀a∈[A.r,A.m]++g_ χ,a∈own A (Z++χ::y2):=λa ha=>by
 rcases Ô.mp ha with ha|ha
 .grind
 .exact Ù _ (jx (by simp) a ha)
theorem NM(h:sk J8=sk χ):(Z++J8::y2).map sk=(Z++χ::y2).map sk:=by simp[h]
def lf1(a):=(dw (cF 7) (cf (mN (cb .list) (af (ae 6) aj))) (lfB a))
theorem NO(s:gb C)(t:cZ Ξ)(u:eH y3)(x:iV S5)(H:Q5 a o0 E (Z++χ::y2) l)(y:E.length<=500):
  ∃y' b av,(∀c,ag (lf1 (aH 6 4 (Bv C Ξ y3 S5))) c (lE o0 h B (oS χ.n) E2 (oR χ.o) B4) a=c (lE o0 h B (oS χ.n) E2 (oR χ.o) b) av)/\Q5 av o0 E (Z++y'::y2) l/\sk y'=sk χ/\ao ([o0.r,o0.m]++g_ χ) a av:=by
 have Y:=H.H.al χ (by simp)
 have g:=Y.G.le;refine ay (kA (ix▸jv (.inl Y.O))) λA D k p=>?_
 obtain⟨_,av,e,y',b,rfl,j,f,K⟩:=OJ (G7:=cF 7) (D3:=cf (mN _ (af (ae 6) aj))) (λi F d=>∃y' b,F=lE o0 h B (oS χ.n) E2 (oR χ.o) b/\Q5 d o0 E (Z++y'::y2) l/\sk y'=sk χ/\ao _ _ _) (sr (eN rfl D) p) (λ⟨_,_,_,_,_,K⟩=>K.get _ _ p (λz=>Û _ (H.H.old _ (fW (Z:=Z) (y2:=y2) _ z)))) (by
  rintro i w _ d I ⟨S,b,rfl,j,f,K⟩;refine cW (xD f) λJ T L M U N=>?_
  obtain⟨y',P,e,Q,R,q⟩:=NL s t u x j (by rw[L];exact Ë I) y
  rw[J,N]at e;rw[M]at q;exact⟨_,_,_,rfl,e,y',_,rfl,Q,R.trans f,K.trans q⟩) ⟨χ,_,rfl,H.aU k,rfl,ao.refl⟩ (by simp;exact fG g)
 exact⟨y',b,_,e,j,f,k.tr K⟩
def JF(e):=(m2 bc (m2 bc (ae 1) e) (au (.int 1)))
theorem Fw(H:Ps a o0 E Z)(b:χ∈Z)(c:ae 1 v a=.ok (.ref o0.P) a)(d:p v a=.ok (.str χ.n) a):JF p v a=.ok (.ref χ.o) a:=eQ (eQ c d (fV H.pd (sX H.nn b))) rfl (aY (H.al χ b).R rfl)
def lf2(a):=(dw (cF 4) (cf (ae 5))
 (ag (aR 6 (JF (ae 4)))
 (ag (lf1 a)
 ah)))
theorem NP(A:gb C)(D:cZ Ξ)(F:eH y3)(G:iV S5)(H:Q5 a o0 E Z l)(I:E.length<=500)(u:a[b]?=some (.lst (M0.map .str)))(J:b∉own o0 Z)(L:∀x∈M0,x∈Z.map (·.n))(p:M0.length<=1000):
  ∃d j k m av,(∀c,ag (lf2 (aH 6 4 (Bv C Ξ y3 S5))) c (lE o0 h B E2 (oR b) B4 N5) a=c (lE o0 h B j (oR b) k m) av)/\Q5 av o0 E d l/\d.map sk=Z.map sk/\ao (own o0 Z) a av:=by
 obtain⟨_,av,e,d,j,k,m,rfl,f⟩:=OJ (G7:=cF 4) (ε:=ag (aR 6 (JF (ae 4))) _) (D3:=cf (ae 5)) (λi M o=>∃d j k m,M=lE o0 h B j (oR b) k m/\Q5 o o0 E d l/\d.map sk=Z.map sk/\ao _ a _) (sr rfl u) (λ⟨_,_,_,_,_,_,_,K⟩=>K.get _ _ u J) (by
  rintro i x _ o q ⟨N,j,k,m,rfl,w,r,K⟩
  have s:x∈N.map (·.n):=by
   obtain⟨y,O,rfl⟩:=Î.mp (L x (Ë q));obtain⟨z,t,e⟩:=Fu r O;exact Î.mpr ⟨z,t,(xD e).1⟩
  obtain⟨M1,y,M2,rfl,rfl⟩:=mR s;obtain⟨z,V,P,e,Q,R,S⟩:=NO A D F G w I;have T:own o0 (M1++y::M2)=own o0 Z:=by unfold own;rw[Fv r]
  exact⟨_,_,_,rfl,(qA (Fw w.H (by simp) rfl rfl)).trans (e _),_,_,_,_,rfl,Q,(NM R).trans r,K.trans (S.sub λg U=>T▸fW g U)⟩) ⟨Z,_,_,_,rfl,H,rfl,ao.refl⟩ p
 exact⟨d,j,k,m,_,e,f⟩
theorem Fx{α xs}{x:α}(h:xs.getLast?=some x):L2.jH xs (-1)=some x:=by
 rw[List.getLast?_eq_getElem?]at h;have a:=(Ì.mp h).1;unfold L2.jH L2.tL;rw[if_neg (by decide),if_pos (by omega)]
 rwa[show(-1+(xs.length:Int)).toNat=xs.length - 1 by omega]
def Yz:=(m2 bc (ae 5) (au (.int 0)))
def VL:=(m2 bc (ae 5) (m1 LW (au (.int 1))))
theorem KG(c:a[b]?=some (.lst (l.map .str)))(d:l[0]?=some P4):Yz (lE o0 h B E2 (oR b) B4 N5) a=.ok (.str P4) a:=
 aY c (L2.dB (by simp[d]))
theorem KH(c:a[b]?=some (.lst (l.map .str)))(d:l.getLast?=some P4):VL (lE o0 h B E2 (oR b) B4 N5) a=.ok (.str P4) a:=
 aY c (Fx (by simp[d]))
def ltB(a):=(ag (cA (pC (ae 6) (af (ae 7) aj)))
 (ag (cA (aI "Things" "take" a (ae 0) (af VL (af (ae 7) aj))))
 ah))
theorem NQ(d:cZ C)(e:eH Ξ)(f:jw y3)(H:Q5 a o0 E (Z++χ::y2) l)(g:E.length<=500)(j:h∈cx χ.v)(k:a[b]?=some (.lst (M0.map .str)))(p:b∉own o0 (Z++χ::y2))(c:M0.getLast?=some χ.n):
  ∃y' av,ltB (aH 5 3 (EY C Ξ y3)) (lE o0 B P4 E2 (oR b) (oR χ.o) (oS h)) a=.nx (lE o0 B P4 E2 (oR b) (oR χ.o) (oS h)) av/\Q5 av o0 (de E (cx y'.v)) (Z++y'::y2) l/\y'.n=χ.n/\g_ y'=g_ χ/\ao ([o0.r,o0.m]++g_ χ) a av:=by
 refine bo (Kz d e f H.H g j) λi q s F t w x y A K=>?_
 exact⟨yP χ i _,_,(qE (t rfl rfl)).trans (qE (eM rfl w.ob (eK (KH (A.get _ _ k λz=>p (fW _ z)) c) rfl) x)),H.of y (iw H.z) rfl (λu D=>H.u χ (by simp) u (vi D)),rfl,rfl,K⟩
def YA:=(fJ (mN (cb .list) (af (ae 6) aj)) true (au .non) false (au (.int 1)))
def Kq(a):=(dw (cF 7) (cf YA) (ltB a))
theorem NR(D:cZ C)(F:eH Ξ)(G:jw y3)(H:Q5 a o0 E (Z++χ::y2) l)(I:E.length<=500)(J:a[b]?=some (.lst (M0.map .str)))(u:b∉own o0 (Z++χ::y2))(p:M0.getLast?=some χ.n):
  ∃d y' k av,(∀c,ag (Kq (aH 5 3 (EY C Ξ y3))) c (lE o0 h B E2 (oR b) (oR χ.o) B4) a=c (lE o0 h B E2 (oR b) (oR χ.o) k) av)/\Q5 av o0 d (Z++y'::y2) l/\qJ E d (Z++y'::y2)/\y'.n=χ.n/\g_ y'=g_ χ/\ao ([o0.r,o0.m]++g_ χ) a av:=by
 have Y:=H.H.al χ (by simp)
 refine ay (kA (ix▸jv (.inl Y.O))) λL e1 M x=>?_
 refine ay (kA (MJ x)) λN e2 P y=>?_
 have f:=M.trans P
 have Q:cf YA (lE o0 h B E2 (oR b) (oR χ.o) B4) a=.ok _ _:=sr (by
  unfold YA
  simp_all) y
 obtain⟨_,av,e,d,y',k,rfl,q,_,R,s,t,K⟩:=OJ (G7:=cF 7) (ε:=ltB (aH 5 3 (EY C Ξ y3))) (λi S j=>∃d y' k,S=lE o0 h B E2 _ _ k/\Q5 j o0 d (Z++y'::y2) l/\(i=0->y'=χ/\d=E)/\qJ E d (Z++y'::y2)/\y'.n=χ.n/\g_ y'=g_ χ/\ao _ _ j) Q (λ⟨_,_,_,_,_,_,_,_,_,K⟩=>K.get _ _ y λz=>Û _ (Â (H.H.old _ (fW _ z)) (qP x))) (by
  rintro i w _ j A ⟨Lx,yx,k,rfl,q,T,_,_,_,K⟩;have U:=qP A;rw[Ĩ]at U;obtain⟨rfl,rfl⟩:=T (by omega)
  obtain⟨y',V,e,X,s,t,Ky⟩:=NQ D F G q I (acf (Ë A)) (K.get _ _ (f.g J) λz=>u (fW _ z)) u p
  exact⟨_,_,_,rfl,e,_,y',_,rfl,X,by simp,sY (by simp),s,t,K.trans Ky⟩) ⟨E,χ,_,rfl,H.aU f,by simp,.inl rfl,rfl,rfl,ao.refl⟩ (by rw[Ĩ];exact fG (aca _ _))
 exact⟨d,y',k,_,e,q,R,s,t,f.tr K⟩
def lmB(a):=
 (ag (cA (aI "Things" "move" a (ae 0) (af Yz (af (ae 3) aj))))
 (ag (fA (m2 bc (ae 1) Yz) (au (.int 0)) (ae 3))
 ah))
theorem NS(q:cZ C)(x:iv Ξ)(H:Q5 a o0 E (Z++χ::y2) l)(y:a[o0.t]?=some (.ins "Town" (("house",.ref b)::m3)))(A:dy R0 a b Q0 M3)(D:B∈nms Q0)(k:a[w]?=some (.lst (M0.map .str)))(F:w∉own o0 (Z++χ::y2))(p:M0[0]?=some χ.n):
  ∃av,lmB (aH 4 3 (Kr C Ξ)) (lE o0 h B E2 (oR w) B4 N5) a=.nx (lE o0 h B E2 (oR w) B4 N5) av/\Q5 av o0 E (Z++⟨χ.n,χ.c,χ.l,χ.i,B,χ.v,χ.j,χ.o⟩::y2) l/\ao ([o0.r,o0.m]++g_ χ) a av:=by
 have Y:=H.H.al χ (by simp)
 have o:=H.H.out.2;refine dN (Ks q x H.H.W (jy H.H.nn) Y.G y A D) λI J L M e=>?_
 have d:ao ([o0.r,o0.m]++g_ χ) a _:=e.s;refine ay (dL (w:=0) (.str B) (e.g Y.R) (by simp)) λN P f Q=>?_
 have K:=d.trans f.s;exact⟨_,(qE (eM rfl H.H.W.ob (eK (KG k p) rfl) J)).trans (qD rfl (eQ rfl (KG (d.get _ _ k λz=>F (fW _ z)) p) (fV (H.H.pd.keep e (by simp;exact U' o.2.2.2.2.1)) (lr H.H.nn))) rfl P),H.of (H.H.upd K (L.keep f) (λj S b=>b) rfl rfl ⟨M.keep f,Q,(f.g (e.g Y.O))⟩) H.z rfl (H.u χ (by simp)),K⟩
theorem Ps.cI{Ω A L M}(H:Ps Ω A L M):Ps (Ω.set A.P (.dF (gW M))) A L M:=by
 have d:=H.low;have K:ao [A.P] Ω (Ω.set A.P (.dF (gW M))):=ao.set (by simp)
 refine⟨H.W.keep K (by simp_all),.inr (kx H.pd),λy b=>(H.al y b).keep K (λa c=>?_) λ_ _ h=>h,H.nn,H.nd,H.lo,H.lt,B' H.ln K.len,H.bs.Fb K (λa c=>H.lb a (by simp_all)),H.lb⟩
 have:=H.hi b a c
 grind
theorem Q5.cI{Ω A L M a}(H:Q5 Ω A L M a):Q5 (Ω.set A.P (.dF (gW M))) A L M a:=⟨H.H.cI,H.z,H.i,H.u⟩
def YB:=(cD (ae 0) false (m2 (aJ .Eq) (m2 bc (m2 bc (ae 2) (ae 0)) (au (.int 0))) (ae 1)) (cf (ae 1)) 0 [2,1])
noncomputable def SQ(M:List Tz)(kd x):=M.any λy=>decide (y.n=x/\y.k=kd)
theorem NU(b:(Z.map (·.n)).Nodup)(a:χ∈Z):SQ Z h χ.n=decide (χ.k=h):=by
 unfold SQ
 by_cases e:χ.k=h
 .grind
 .rw[decide_eq_false e]
  simp;obtain⟨M1,M2,rfl⟩:=ach a
  grind
def FJ(M:List Tz)(kd):=(M.map (·.n)).filter (SQ M kd)
theorem SR(H:Ps a o0 E Z)(f:Z.length<=1000):YB (lE o0 h B E2 B4 N5 t8) a=.ok (.ref a.length) (a.set o0.P (.dF (gW Z))++[.lst ((FJ Z h).map .str)]):=by
 have i:=qH H.pd;have b:=H.cI;have j:=kx H.pd;have k:(a.set o0.P (.dF (gW Z))).length=a.length:=by simp
 generalize a.set _ _=l at *;unfold YB
 rw[dY (oC:=λd=>match d with|.str x=>SQ Z h x|_=>false) (g:=id) i (by simp only[dr,j];rw[s_]) (by
   intro d e;obtain⟨x,m,rfl⟩:=Î.mp e;obtain⟨y,c,rfl⟩:=Î.mp m
   show ki _ _ _ _=.ok (SQ Z h _) _
   unfold ki;rw[NU H.nn c,eQ (eQ (eQ rfl rfl (fV b.pd (sX b.nn c))) rfl (aY (b.al y c).R rfl)) rfl (show aJ _ _ _ _=.ok _ _ by rfl)]
   rfl) (λd e _=>by simp) (by simp;exact fG f),k,ab',adG]
 rfl
theorem zG:∀x∈FJ Z h,x∈Z.map (·.n):=λx a=>(ũ.mp a).1
def VM(a b c):=
 (ag (aR 5 YB)
 (ag (lf2 a)
 (ag (dP (m2 (aJ .NotEq) (ae 5) (mN cz aj))
 (ag (aR 6 (JF VL))
 (ag (Kq b)
 (lmB c)))
 ah)
 ah)))
theorem SS(hI:gb C)(Q:cZ Ξ)(hS:eH y3)(hG:iV S5)(hW:jw R7)(hC:iv T7)(H:Q5 a o0 E Z l)(ht:Jg R0 a o0.t b Q0 M3 m3 (own o0 Z))(hk:B∈nms Q0)(hl:E.length<=500)(hm:Z.length<=100)(kk:∀K L av,aH 8 4 (VM (aH 6 4 (Bv C Ξ y3 S5)) (aH 5 3 (EY Ξ y3 R7)) (aH 4 3 (Kr Ξ T7))) [.ref o0.T,.ref o0.P,.str h,.str B] a=.ok .non av->Q5 av o0 K L l->qJ E K L->ads L=ads Z->L.length=Z.length->ao (own o0 Z) a av->T4):T4:=by
 have e1:=SR (h:=h) (B:=B) (E2:=none) (B4:=none) (N5:=none) (t8:=none) H.H (by omega)
 have S:=λz=>Û _ (H.H.old _ z)
 have H1:=H.cI.aU (ao.app (y:=[Cell.lst ((FJ Z h).map .str)]));have K1:ao (own o0 Z) a (a.set o0.P (.dF (gW Z))++[.lst ((FJ Z h).map .str)]):=(ao.set (by simp)).trans ao.app
 have U:=aN (a:=a.set o0.P (.dF (gW Z))) (F3:=Cell.lst ((FJ Z h).map .str)) (y:=[]);rw[ab_]at U;generalize a.length=q at *;obtain⟨M2,V,b6,b7,Y,r2,H2,s2,K2⟩:=NP (h:=h) (B:=B) hI Q hS hG H1 hl U S zG (B' (acN ..) (by simp;omega))
 have a2:=Fv s2;have m:=by simpa using congrArg ϩ s2
 have ow:∀{X:List Tz},ads X=ads Z->own o0 X=own o0 Z:=λe=>by unfold own;rw[e]
 refine ay (kA (lN (q:=[]) (a:=Y))) λa0 e3 K3 g3=>?_
 have M:=K3.g (K2.get _ _ U S);have H3:=H2.aU K3;have k:=zi (M0:=[]) M g3;have A:=(K1.trans K2).trans (K3.sub (by simp))
 by_cases s:FJ Z h=[]
 .rw[decide_eq_true s]at k
  exact kk E M2 a0 (fZ ((qA e1).trans ((r2 _).trans (q0 (eQ rfl (eN rfl e3) k))))) H3 (.inl rfl) a2 m A
 .rw[decide_eq_false s]at k
  obtain⟨xl,f⟩:∃x,(FJ Z h).getLast?=some x:=⟨_,List.getLast?_eq_getLast s⟩;obtain⟨x0,D⟩:∃x,(FJ Z h)[0]?=some x:=⟨(FJ Z h)[0]'(List.length_pos_iff.mpr s),î _⟩
  have r:∀{x},x∈FJ Z h->x∈M2.map (·.n):=λ{x} s=>by
   obtain⟨y,hy,rfl⟩:=Î.mp (zG x s);obtain⟨w,b0,e⟩:=Fu s2 hy;exact Î.mpr ⟨w,b0,(xD e).1⟩
  have e0:=r (Ë D);obtain⟨N,y,O,rfl,rfl⟩:=mR (r (List.mem_of_getLast? f));refine bo (NR (h:=h) (B:=B) (E2:=V) (B4:=b7) Q hS hW H3 hl M (by grind) f) λK w c7 g0 r5 H4 hN n1 d1 K4=>?_
  have a4:ads (N++w::O)=ads Z:=by rw[←a2,eZ,eZ,d1]
  have F:=K4.sub λd G=>ow a2▸fW d G
  have I:=A.trans F;have r4:=Fw (p:=VL) (v:=lE o0 h B V (oR q) b6 b7) (χ:=y) H3.H (by simp) rfl (KH M f)
  have J:x0∈(N++w::O).map (·.n):=by
   simp_all
  have c0:(N++w::O).length=Z.length:=by rw[←m];simp
  generalize N++w::O=M4 at *;obtain⟨O1,u,O2,rfl,rfl⟩:=mR J;have tw:=ht.keep I λd G=>.inl G
  obtain⟨d0,r6,H5,K5⟩:=NS (h:=h) (B:=B) (E2:=V) (N5:=c7) Q hC H4 tw.to tw.ho hk (F.get _ _ M S) (by grind) D
  refine kk K _ d0 (fZ ((qA e1).trans ((r2 _).trans ((qT (eQ rfl (eN rfl e3) k)).trans (qN ((qA r4).trans ((r5 _).trans r6))))))) H5 ?_ (by rw[←a4,eZ,eZ]) (by rw[←c0];simp) (I.trans (K5.sub λd G=>ow a4▸fW d G))
  rcases hN with rfl|⟨R,h1,h2,v,hv,h3⟩
  .exact .inl rfl
  .refine .inr ⟨R,h1,h2,?_⟩
   simp at hv;rcases hv with hv|rfl|hv
   .exact⟨v,by simp[hv],h3⟩
   .exact⟨⟨v.n,v.c,v.l,v.i,B,v.v,v.j,v.o⟩,by simp,h3⟩
   .exact⟨v,by simp[hv],h3⟩
abbrev VN(A M):=[A.T,A.s]++own A M
abbrev I3:=_root_.Fin 3
def up{α:Type}(f:I3->α)(i x):=λj=>if j=i then x else f j
variable{T6:I3}
theorem up_eq{α f}{x:α}:up f T6 x T6=x:=if_pos rfl
theorem iz{α f j}{x:α}(h:j≠T6):up f T6 x j=f j:=if_neg h
structure Cs where
 (ex:List (Nat×Cell)) (q:I3->Nat) (A:I3->Ae) (ns ks:List Str)
structure hF where
 (L:I3->List (List Str)) (M:I3->List Tz) (C:I3->List (List Str)) (cs:I3->List Nat) (t1 t2:Tt) (h1:List Str) (b1:Int)
def Cn(Ω:az)(X:Cs):=∀p∈X.ex,Ω[p.1]?=some p.2/\∀a,p.2≠.dF a
inductive Ci where
 |th (i:I3)|t1|t2|cm (i:I3)|cn
noncomputable def zs(X:Cs)(S:hF):Ci->List Nat
 |.th i=>VN (X.A i) (S.M i)
 |.t1=>tz S.t1
 |.t2=>tz S.t2
 |.cm i=>X.q i::S.cs i
 |.cn=>X.ex.map (·.1)
def Fy(Ω:az)(X:Cs)(S:hF):Ci->Prop
 |.th i=>Q5 Ω (X.A i) (S.L i) (S.M i) X.ns
 |.t1=>Tw Ω S.t1 S.h1 S.b1
 |.t2=>Tw Ω S.t2 X.ks 3
 |.cm i=>Rw Ω (X.q i) (S.cs i) (S.C i)
 |.cn=>Cn Ω X
structure Sep(Ω:az)(Z:Ci->List Nat):Prop where
 lt:∀i,∀a∈Z i,a<Ω.length
 dj:∀i j,i≠j->∀a∈Z i,a∉Z j
structure Wd(Ω:az)(X:Cs)(S:hF):Prop where
 ok:∀c,Fy Ω X S c
 sp:Sep Ω (zs X S)
 tt:(X.A 0).t=S.t1.t/\(X.A 1).t=S.t1.t/\(X.A 2).t=S.t2.t
 ba:∀i,(X.A i).ON=[]/\(X.A i).fp=[]
theorem Sep.step{Z Z' c}(H:Sep a Z)(g:a.length<=y.length)(hz:∀j,j≠c->Z' j=Z j)(k:∀b∈Z' c,(b∈Z c\/a.length<=b)/\b<y.length):Sep y Z':=by
 have l:∀j,j≠c->∀b∈Z j,b∉Z' c:=λj m b d e=>by
  rcases(k b e).1 with h|h
  .exact H.dj j c m b d h
  .have:=H.lt j b d
   grind
 refine⟨λi b d=>?_,λi j f b d e=>?_⟩
 .by_cases h:i=c
  .simp_all
  .rw[hz i h]at d
   exact M' (H.lt i b d) g
 .by_cases h:i=c
  .grind
  .rw[hz i h]at d
   by_cases n:j=c
   .grind
   .rw[hz j n]at e
    exact H.dj i j f b d e
def Rw.FA(R:Rw a b o7 E)(K:ao T a y)(h:∀c∈b::o7,c∉T):=R.Rm K (h _ (by simp)) (by simp_all)
theorem Q5.FA(H:Q5 a o0 E Z l)(K:ao T a y)(h:∀b∈VN o0 Z,b∉T)(g:o0.ON=[]/\o0.fp=[]):Q5 y o0 E Z l:=by
 have k:∀{b c},a[b]?=some c->b∈VN o0 Z->y[b]?=some c:=λe m=>K.get _ _ e (h _ m)
 have W:=H.H.W;refine⟨⟨⟨k W.ob (by simp),k W.dk (by simp),W.sh.keep K (h _ (by simp)) (h _ (by simp)) (h _ (by simp)),W.nd,W.lt⟩,H.H.pd.keep K (h _ (by simp)),λd f=>(H.H.al d f).keep K (λb j=>h b (Ù _ (Ù _ (jx f b j)))) λ_ _ h=>h,H.H.nn,H.H.nd,H.H.lo,H.H.lt,B' H.H.ln K.len,?_,H.H.lb⟩,H.z,H.i,H.u⟩
 rw[g.1];exact⟨æ _,by simp⟩
theorem Fy.keep{Ω av X S fp c}(H:Fy Ω X S c)(d:∀i,(X.A i).ON=[]/\(X.A i).fp=[])(K:ao fp Ω av)(h:∀a∈zs X S c,a∉fp):Fy av X S c:=by
 cases c with
 |th i=>exact Q5.FA H K h (d i)
 |t1=>exact Tw.keep H K h
 |t2=>exact Tw.keep H K h
 |cm i=>exact Rw.FA H K h
 |cn=>
  exact λp b=>⟨K.get _ _ (H p b).1 (h _ (Î.mpr ⟨p,b,rfl⟩)),(H p b).2⟩
theorem Wd.step{Ω av X S b fp c}(W:Wd Ω X S)(K:ao fp Ω av)(e:∀a∈fp,a∈zs X S c)(hz:∀j,j≠c->zs X b j=zs X S j)(f:∀j,j≠c->Fy av X S j->Fy av X b j)(l:Fy av X b c)(g:∀a∈zs X b c,(a∈zs X S c\/Ω.length<=a)/\a<av.length)(d:b.t1.t=S.t1.t/\b.t2.t=S.t2.t):Wd av X b:=by
 refine⟨λj=>?_,W.sp.step K.len hz g,by rw[d.1,d.2];exact W.tt,W.ba⟩
 by_cases h:j=c
 .simp_all
 .exact f j h ((W.ok j).keep W.ba K λa i k=>W.sp.dj j c h a i (e a k))
variable{B3:Cs}{P2:hF}
theorem Wd.aU(W:Wd a B3 P2)(K:ao [] a y):Wd y B3 P2:=⟨λj=>(W.ok j).keep W.ba K (by simp),⟨λi b c=>M' (W.sp.lt i b c) K.len,W.sp.dj⟩,W.tt,W.ba⟩
theorem Wd.th{Ω X S}(W:Wd Ω X S)(i):Q5 Ω (X.A i) (S.L i) (S.M i) X.ns:=W.ok (.th i)
theorem Wd.cm{Ω X S}(W:Wd Ω X S)(i):Rw Ω (X.q i) (S.cs i) (S.C i):=W.ok (.cm i)
theorem Wd.cn{Ω X S}(W:Wd Ω X S):Cn Ω X:=W.ok .cn
theorem Wd.t1{Ω X S}(W:Wd Ω X S):Tw Ω S.t1 S.h1 S.b1:=W.ok .t1
theorem Wd.t2{Ω X S}(W:Wd Ω X S):Tw Ω S.t2 X.ks 3:=W.ok .t2
def hF.th(S:hF)(i)(L:List (List Str))(M:List Tz):={S with L:=up S.L i L,M:=up S.M i M}
theorem Wd.thS(W:Wd a B3 P2)(K:ao (own (B3.A T6) (P2.M T6)) a y)(H:Q5 y (B3.A T6) E Z B3.ns)(g:∀b∈own (B3.A T6) Z,b∈own (B3.A T6) (P2.M T6)\/a.length<=b):Wd y B3 (P2.th T6 E Z):=by
 have f:∀{j},Ci.th j≠Ci.th T6->j≠T6:=λh z=>h (by rw[z])
 refine W.step (c:=.th T6) K (λb d=>Ù _ d) (λj e=>?_) (λj e h=>?_) ?_ (λb d=>?_) ⟨rfl,rfl⟩
 .cases j with
  |th j=>simp only[zs,hF.th];rw[iz (f e)]
  |_=>rfl
 .cases j with
  |th j=>simp only[Fy,hF.th]at h ⊢;rwa[iz (f e),iz (f e)]
  |_=>exact h
 .simp only[Fy,hF.th]
  rwa[up_eq,up_eq]
 .simp only[zs,hF.th]at d ⊢
  rw[up_eq]at d;rcases Ô.mp d with h|h
  .have:=W.sp.lt (.th T6) b (Ė _ h)
   exact⟨.inl (Ė _ h),M' this K.len⟩
  .exact⟨(g b h).imp_left (Ù _),H.H.old b h⟩
theorem Wd.t1S{S}(W:Wd a B3 S)(K:ao (tz S.t1) a y)(H:Tw y C7 l J)(e:∀b∈tz C7,b∈tz S.t1\/a.length<=b)(f:C7.t=S.t1.t):Wd y B3 {S with t1:=C7,h1:=l,b1:=J}:=by
 refine W.step (c:=.t1) K (λb d=>d) (λj g=>?_) (λj g h=>?_) H (λb d=>⟨e b d,H.lt b d⟩) ⟨f,rfl⟩
 .cases j with
  |t1=>simp_all
  |_=>rfl
 .cases j with
  |t1=>simp_all
  |_=>exact h
def hF.cm(S:hF)(i)(C:List (List Str))(cs:List Nat):={S with C:=up S.C i C,cs:=up S.cs i cs}
theorem Wd.YC(W:Wd a B3 P2)(K:ao [B3.q T6] a y)(H:Rw y (B3.q T6) T E)(g:∀b∈T,b∈P2.cs T6\/a.length<=b):Wd y B3 (P2.cm T6 E T):=by
 have f:∀{j},Ci.cm j≠Ci.cm T6->j≠T6:=λh z=>h (by rw[z])
 refine W.step (c:=.cm T6) K (λb d=>by simp at d;rw[d];simp[zs]) (λj e=>?_) (λj e h=>?_) ?_ (λb d=>?_) ⟨rfl,rfl⟩
 .cases j with
  |cm j=>simp only[zs,hF.cm];rw[iz (f e)]
  |_=>rfl
 .cases j with
  |cm j=>simp only[Fy,hF.cm]at h ⊢;rwa[iz (f e),iz (f e)]
  |_=>exact h
 .simp only[Fy,hF.cm]
  rwa[up_eq,up_eq]
 .simp only[zs,hF.cm]at d ⊢
  rw[up_eq]at d;rcases È.mp d with rfl|h
  .exact⟨by simp,aX H.ce⟩
  .exact⟨(g b h).imp_left (Ŏ _),H.al.lt b h⟩
theorem FC(h:cw y b Y):cw (cG a y) b Y:=by
 rcases h with h|h
 .exact .inl (cB h (by simp))
 .unfold cG cw
  rw[ĳ,h]
  show some (wK _ _)=_\/some (wK _ _)=_
  unfold wK;split
  .simp_all
  simp
theorem oU:(cG a y).length=y.length:=by unfold cG;simp
theorem Tw.fh(W:Tw y C7 l J):Tw (cG a y) C7 l J:=by
 refine ay W.tg λb c d t3=>?_
 refine bg W.ho λe f g h i j k=>?_
 exact⟨cB W.to (by simp),⟨_,_,cB g (by simp),cB h (by simp),lj i,cB j (by simp),lj k⟩,⟨b,cB c (by simp),d,t3⟩,cB W.fa (by simp),FC W.sd,cB W.ak (by simp),by rw[oU];exact W.lt,W.nd⟩
theorem Q5.fh(H:Q5 y o0 E Z l)(c:o0.ON=[]/\o0.fp=[]):Q5 (cG a y) o0 E Z l:=by
 have W:=H.H.W;refine⟨⟨⟨cB W.ob (by simp),cB W.dk (by simp),⟨cB W.sh.ob (by simp),cB W.sh.ro (by simp),cB W.sh.nu (by simp)⟩,W.nd,W.lt⟩,FC H.H.pd,λb d=>?_,H.H.nn,H.H.nd,H.H.lo,H.H.lt,by rw[oU];exact H.H.ln,?_,H.H.lb⟩,H.z,H.i,H.u⟩
 .have Y:=H.H.al b d
  exact⟨⟨cB Y.G.ob (by simp),cB Y.G.sl (by simp),Y.G.wd,Y.G.nd,Y.G.le,Y.G.lt⟩,cB Y.R (by simp),cB Y.O (by simp)⟩
 .rw[c.1]
  exact⟨æ _,by simp⟩
theorem Wd.fh{Ω av X S}(W:Wd av X S):Wd (cG Ω av) X S:=by
 refine⟨λc=>?_,⟨by rw[oU];exact W.sp.lt,W.sp.dj⟩,W.tt,W.ba⟩
 cases c with
 |th i=>exact(W.th i).fh (W.ba i)
 |t1=>exact W.t1.fh
 |t2=>exact W.t2.fh
 |cm i=>exact(⟨cB (W.cm i).ce (by simp),aE.imp (λ_ _ h=>cB h (by simp)) (W.cm i).al⟩)
 |cn=>
  exact λp a=>⟨cB (W.cn p a).1 (W.cn p a).2,(W.cn p a).2⟩
def Pk(Ω:az)(X:Cs):=∀i,∃a,Ω[(X.A i).P]?=some (.dK a)
theorem Pk.fh(h:Pk a B3)(W:Wd y B3 P2):Pk (cG a y) B3:=λi=>by
 obtain⟨b,h⟩:=h i;rcases(W.th i).H.pd with p|p
 .exact⟨_,cB p (by simp)⟩
 .refine⟨gW (P2.M i),?_⟩
  unfold cG;rw[ĳ,p,h];rfl
theorem Pk.at(h:Pk a B3)(W:Wd a B3 P2)(i):a[(B3.A i).P]?=some (.dK (gW (P2.M i))):=by
 obtain⟨b,h⟩:=h i;rcases(W.th i).H.pd with p|p
 .exact p
 simp_all
theorem Pk.keep{fp}(h:Pk a B3)(K:ao fp a y)(b:∀i,(B3.A i).P∉fp):Pk y B3:=λi=>(h i).imp λ_ e=>K.get _ _ e (b i)
noncomputable def Cs.add(X:Cs)(a:Nat)(c:Cell):={X with ex:=(a,c)::X.ex}
theorem Wd.add{Ω av X S a d}(W:Wd Ω X S)(K:ao [] Ω av)(h:av[a]?=some d)(f:Ω.length<=a)(g:∀kvs,d≠.dF kvs):Wd av (X.add a d) S:=by
 have e:=W.aU K;refine⟨λc=>?_,?_,W.tt,W.ba⟩
 .cases c with
  |th i=>exact e.th i
  |t1=>exact e.t1
  |t2=>exact e.t2
  |cm i=>exact e.cm i
  |cn=>
   intro p hp;rcases È.mp hp with rfl|hp
   .simp_all
   .exact e.cn p hp
 .refine W.sp.step (c:=.cn) K.len (λj k=>?_) λb hb=>?_
  .cases j with
   |cn=>simp_all
   |_=>rfl
  .rcases È.mp hb with rfl|hb
   .exact⟨.inr f,aX h⟩
   .exact⟨.inl hb,e.sp.lt .cn b hb⟩
theorem Wd.sub{Ω X S ex}(W:Wd Ω X S)(h:∀p∈ex,p∈X.ex):Wd Ω {X with ex:=ex} S:=by
 have d:∀{a},a∈ex.map (·.1)->a∈X.ex.map (·.1):=λb=>by
  grind
 have z:∀{c a},a∈zs {X with ex:=ex} S c->a∈zs X S c:=λ{c a} b=>by
  cases c with
  |cn=>exact d b
  |_=>exact b
 refine⟨λc=>?_,⟨λi a b=>W.sp.lt i a (z b),λi j e a b f=>W.sp.dj i j e a (z b) (z f)⟩,W.tt,W.ba⟩
 cases c with
 |th i=>exact W.th i
 |t1=>exact W.t1
 |t2=>exact W.t2
 |cm i=>exact W.cm i
 |cn=>exact λp g=>W.cn p (h p g)
theorem Wd.cI{Ω X S}(W:Wd Ω X S)(i):Wd (Ω.set (X.A i).P (.dF (gW (S.M i)))) X S:=by
 refine W.step (c:=.th i) (ao.set (by simp)) (λa b=>Ù _ b) (λ_ _=>rfl) (λ_ _ h=>h) (W.th i).cI (λa b=>⟨.inl b,?_⟩) ⟨rfl,rfl⟩
 have:=W.sp.lt _ a b
 simp_all
theorem tm{α:Type}{f:I3->α}{d}(h:[f 0,f 1,f 2][b]?=some d):∃a,d=f ⟨b,a⟩:=by
 match b,h with
 |0,h=>simp_all
 |1,h=>simp_all
 |2,h=>simp_all
theorem SU:(P2.cm T6 E T).cm T6 w8 o7=P2.cm T6 w8 o7:=by
 unfold hF.cm
 have e:∀{a:Type}{f:I3->a}{x y:a},up (up f T6 x) T6 y=up f T6 y:=λ{a f x y}=>by
  funext j
  unfold up;split<;>rfl
 rw[e,e]
theorem Tw.VO(W:Tw a C7 l J)(h:∀b∈tz C7,b∉T):Jg (· ∈ C7.R) a C7.t C7.h (bare l) (λn=>[n]) [("facts",.ref C7.f),("tags",.ref C7.g),("last_deed",.int J)] T:=by
 refine⟨W.to,W.ho.at,h _ (by simp),h _ (by simp),by grind,λe c d=>?_⟩
 refine cg W.ho λ_ _ i _=>?_
 simp_all
def YD:=(mN (cb .list) (af (m2 bc (ae 4) (au (.int 1))) aj))
theorem KI(Y:Yx a b E χ)(c:ae 4 v a=.ok (.ref χ.j) a):YD v a=.ok (.ref a.length) (a++[.lst ((cx χ.v).map .str)]):=eN (eK (eQ c rfl (aY Y.R rfl)) rfl) (ix▸jv (.inl Y.O))
def cmB:=(ag (dP (m2 (aJ .NotIn) YD (ae 2))
 (ag (cA (dH sg dU (ae 2) (af YD aj)))
 ah)
 ah)
 ah)
abbrev cE(X:Cs)(i:I3)(a b a4:Option D):aZ:=[a,b,oR (X.q i),oR (X.A i).P,a4]
theorem NV(W:Wd a B3 P2)(y:a[(B3.A T6).P]?=some (.dF (gW (P2.M T6))))(r:χ∈P2.M T6)(B:(P2.C T6).length<=900):∃l av,cmB (cE B3 T6 E2 B4 (oR χ.j)) a=.nx (cE B3 T6 E2 B4 (oR χ.j)) av/\Wd av B3 (P2.cm T6 (de (P2.C T6) (cx χ.v)) l)/\av[(B3.A T6).P]?=some (.dF (gW (P2.M T6))):=by
 refine ay (kA (KI (v:=cE B3 T6 E2 B4 (oR χ.j)) ((W.th T6).H.al χ r) rfl)) λc s t E=>?_
 have d:=W.aU t;have f:=t.g y;have e:=Ey E (d.cm T6).ce (d.cm T6).al
 by_cases i:cx χ.v∈P2.C T6
 .rw[decide_eq_true i]at e
  refine⟨P2.cs T6,c,q0 (eQ s rfl e),?_,f⟩;rw[show de (P2.C T6) _=_ from if_pos i]
  exact d.YC (K:=ao.refl) (d.cm T6) λb h=>.inl h
 .rw[decide_eq_false i]at e
  refine ay (kA (KI (v:=cE B3 T6 E2 B4 (oR χ.j)) ((d.th T6).H.al χ r) rfl)) λF G m I=>?_
  have O:=aX (d.cm T6).ce;have R2:=(d.cm T6).keep m;have n:=R2.len;refine ay (aL (.ref c.length) R2.ce (by simp;exact fG (B' (R' n.symm) B))) λo p k u=>?_
  rw[show(P2.cs T6).map D.ref++[.ref c.length]=(P2.cs T6++[c.length]).map .ref by simp]at u
  have J:∀b∈P2.cs T6,b∉[B3.q T6]:=λb w z=>by
   rw[è.mp z]at w;obtain⟨j,x⟩:=ċ.mp w;obtain⟨L,_,N⟩:=R2.al.at' x;rw[R2.ce]at N;have Q:=by omega
   have R:((P2.cs T6).map D.ref)[j]?=some (.ref (B3.q T6)):=by rw[ç,x];rfl
   simp_all
  refine⟨P2.cs T6++[c.length],o,(qT (eQ s rfl e)).trans (qN (qE (eL rfl (eK G rfl) (gP (d.cm T6).ce) p))),?_,k.get _ _ (m.g f) λz=>W.sp.dj (.th T6) (.cm T6) (by simp) (B3.A T6).P (by simp[zs]) (by simp[zs]at z ⊢;exact .inl z)⟩
  rw[show de _ _=_ from if_neg i]
  exact d.YC (m.tr k) ⟨u,(R2.al.keep k J).snoc (k.g I)⟩ λb h=>(Ô.mp h).imp_right λh=>R' (è.mp h).symm
def xE(CM)(M:List Tz):=M.foldl (λC y=>de C (cx y.v)) CM
theorem zH:∀{M}{CM},(xE CM M).length<=CM.length+M.length
 |[],_=>by simp[xE]
 |y::M,CM=>by
  have a:=zH (M:=M) (CM:=de CM (cx y.v));have b:=EW (E:=CM) (l:=cx y.v);simp only[xE,ſ,Ā]at a ⊢;omega
theorem xF:∀{M}{CM},(∀y∈M,cx y.v∈CM)->xE CM M=CM
 |[],_,_=>rfl
 |y::M,CM,h=>by
  have a:de CM _=CM:=if_pos (h y (by simp))
  show xE (de CM _) M=CM
  rw[a];exact xF (by simp_all)
theorem zI:∀{M}{CM}{R},R∉CM->(∀y∈M,cx y.v∈CM\/cx y.v=R)->(∃y∈M,cx y.v=R)->xE CM M=CM++[R]
 |[],_,_,_,_,h=>by simp_all
 |y::M,CM,R,b,c,e=>by
  show xE (de CM _) M=_
  by_cases h:cx y.v=R
  .have a:de CM (cx y.v)=CM++[R]:=by rw[h];exact if_neg b
   rw[a];refine xF λz d=>?_
   simp_all
  .have a:de CM _=CM:=if_pos ((c y (by simp)).resolve_right h)
   rw[a];refine zI b (λz d=>c z (by simp[d])) ?_
   simp_all
theorem Jt(H:Ps a o0 E Z)(h:qJ w8 E Z):xE w8 Z=E:=by
 have c:=λy b=>Ë (H.al y b).G.wd
 rcases h with rfl|⟨R,d,rfl,e⟩
 .exact xF c
 .refine zI d (λy b=>?_) e
  simp_all
def cm1:=(ag (dw (cF 4) (yD (ae 3)) cmB) ah)
theorem NW(W:Wd a B3 P2)(r:(P2.M T6).length<=100)(z:(P2.C T6).length<=500):∃d b av,cm1 (cE B3 T6 E2 B4 N5) a=.nx (cE B3 T6 E2 B4 d) av/\Wd av B3 (P2.cm T6 (xE (P2.C T6) (P2.M T6)) b):=by
 have o:=W.cI T6
 have s:yD (ae 3) (cE B3 T6 E2 B4 N5) a=.ok (.vals (B3.A T6).P) (a.set (B3.A T6).P (.dF (gW (P2.M T6)))):=by
  show valOf a (.ref _)=_
  unfold valOf;rcases(W.th T6).H.pd with h|h
  .simp_all
  .simp only[h,set_same h]
 refine cg (Bs (G7:=cF 4) (λk t c=>∃d b,t=cE B3 T6 E2 B4 d/\Wd c B3 (P2.cm T6 (xE (P2.C T6) ((P2.M T6).take k)) b)/\c[(B3.A T6).P]?=some (.dF (gW (P2.M T6)))) s (λ⟨_,_,_,_,hP⟩=>by simp only[dr,hP,gW,Ý];rfl) (by
  rintro k B _ c p ⟨d,b,rfl,f,g⟩;rw[ç]at p;obtain⟨y,q,rfl⟩:=Ã.mp p;have eC:(P2.cm T6 _ b).C T6=xE (P2.C T6) ((P2.M T6).take k):=up_eq
  obtain⟨i,u,e,w,j⟩:=NV f g (Ë q) (by
   rw[eC];have x:=zH (M:=(P2.M T6).take k) (CM:=P2.C T6);rw[Ĩ]at x;omega)
  refine⟨_,_,_,rfl,e,_,i,rfl,?_,j⟩;rw[eC,SU]at w;rwa[show xE _ _=de (xE (P2.C T6) ((P2.M T6).take k)) (cx y.v)by rw[Ĵ,q];simp[xE]]) ⟨N5,_,rfl,o.YC ao.refl (o.cm T6) λl h=>.inl h,(kx (W.th T6).H.pd)⟩ (by simp;exact fG r)) λ_ av e m=>aP m λd b n f _=>?_;subst n
 rw[Þ,ť]at f;exact⟨d,_,_,e _,f⟩
theorem Wd.at(W:Wd a B3 P2)(h:(b,F3)∈B3.ex):a[b]?=some F3:=(W.cn _ h).1
theorem oV(e:a[b]?=some (.lst q))(f:a[w]?=some (.lst j5))(g:q.length=j5.length):uC a (.ref b) (.ref w)=some (afO (λc d=>.tup [c,d]) q j5):=by
 show(match cR a _,cR a _ with|some q,some j5=>DI q j5|_,_=>none)=_
 rw[aV e,aV f];exact if_pos g
def SV:=(ag (dw (dQ [2,3]) (uD (af (ae 0) (af (ae 1) aj))) cm1) ah)
theorem zJ{S}(W:Wd a B3 S)(F:Pk a B3)(G:(b,.lst [.ref (B3.q 0),.ref (B3.q 1),.ref (B3.q 2)])∈B3.ex)(m:(w,.lst [.ref (B3.A 0).P,.ref (B3.A 1).P,.ref (B3.A 2).P])∈B3.ex)(I:∀j,qJ (S.C j) (S.L j) (S.M j))(J:∀j,(S.M j).length<=100)(V:∀j,(S.C j).length<=500)(K:∀c av,fC (aH 5 2 SV) [.ref b,.ref w] a=.ok .non av->Wd av B3 {S with C:=S.L,cs:=c}->Pk av B3->T4):T4:=by
 have B:∀{d:az}{N:hF},Wd d B3 N->uC d _ _=some _:=λi=>oV (i.at G) (i.at m) rfl
 refine cg (Bs (G7:=dQ [2,3]) (D3:=uD (af (ae 0) (af (ae 1) aj))) (j6:=.zip (.ref b) _) (λk O d=>∃n o p g c,O=[oR b,oR w,n,o,p]/\Wd d B3 {S with C:=g,cs:=c}/\∀j,g j=if j.val<k then S.L j else S.C j) (by show lQ [.ref b,.ref w] a=_;simp only[lQ,B W]) (λ⟨_,_,_,_,_,_,i,_⟩=>B i) (by
  rintro k X _ d Q ⟨n,o,p,g,c,rfl,i,E⟩;obtain⟨l,rfl⟩:=tm (f:=λj=>D.tup [.ref _,.ref (B3.A j).P]) Q
  have r:g ⟨k,l⟩=S.C ⟨k,l⟩:=by simp_all
  obtain⟨Y,R,T,e,U⟩:=NW (T6:=⟨k,l⟩) i (J _) (by simp_all)
  refine⟨_,_,_,rfl,e,_,_,_,_,_,rfl,U,λj=>?_⟩
  show up g ⟨k,l⟩ (xE (g ⟨k,l⟩) _) j=_
  by_cases s:j=⟨k,l⟩
  .subst s
   rw[up_eq,r,Jt (W.th _).H (I _),if_pos (by simp)]
  .have:j.val≠k:=λz=>s (_root_.Fin.ext z)
   rw[iz s,E j]
   by_cases h:j.val<k
   .grind
   .rw[if_neg h,if_neg (by omega)]) ⟨none,none,none,S.C,S.cs,rfl,W,λj=>rfl⟩ (by simp)) λ_ av e t=>xe t λn u=>bp u λo p g c x y E=>?_;subst x
 rw[show g=S.L from funext λj=>by simp_all]at y
 exact K c _ (Ym (fZ (e _))) y.fh (F.fh y)
theorem YE(c:p v a=.ok (.ref b) y)(d:y[b]?=some (.ins B m3))(e:B≠h:=by decide):aI h P4 C p u0 v a=.bad:=by
 unfold aI;rw[c,eA,iN d]
 simp_all
def pD:=(ag (bj (au (.bl false))) ah)
def c56(F):=mN (bw F) (af (ae 5) (af (ae 6) aj))
def goN(a):=(ag (dP (ew (mN (bw a) (af (ae 5) (af (ae 7) (af (ae 3) aj))))) pD ah) ah)
def YF(a b c d):=
 (ag (dP (ew (c56 a)) pD ah)
 (ag (dw (cF 7) (cf (ae 6)) (goN b))
 (ag (cA (mN (bw c) (af (ae 5) (af (ae 6) (af (ae 3) (af (ae 4) aj))))))
 (ag (dP (ew (c56 a)) pD ah)
 (ag (dP (gY (m2 (aJ .NotIn) (au (.str "zzzzzzzz")) (ae 6)) (ew (mN (bw d) (af (ae 5) (af (ae 3) aj))))) pD ah)
 ah)))))
abbrev gE(t a b:Nat)(kd c:Str)(d e f:Option D):aZ:=[oR t,oR a,oR b,oS kd,oS c,d,e,f]
abbrev gI(t a b:Nat)(kd c:Str)(A:Ae)(d:Option D):=gE t a b kd c (oR A.T) (oR A.P) d
abbrev fLf(c a b d e f):=aH 8 4 (VM (aH 6 4 (Bv c a b d)) (aH 5 3 (EY a b e)) (aH 4 3 (Kr a f)))
theorem Wd.YG(W:Wd a B3 P2):∀b∈tz P2.t1,b∉own (B3.A T6) (P2.M T6):=λb c d=>W.sp.dj .t1 (.th T6) (by simp) b c (Ù _ d)
variable{C9 D9 E9:aK}
theorem NX(V:gb C)(q:cZ Ξ)(D:eH y3)(m:kz S5)(hG:iV R7)(hW:jw T7)(hC:iv C9)(X:Fp D9)(W:Wd a B3 P2)(E:(B3.A T6).t=P2.t1.t)(r:h∉P2.h1)(ho:B∈P2.h1)(hl:(P2.L T6).length<=500)(o:(P2.M T6).length<40)(Y:∀i p j av,YF (Nw Ξ S5 y3) (aH 5 3 (VJ (aH 4 3 (Bk Ξ D9)))) (fLf C Ξ y3 R7 T7 C9) (aH 4 2 (SE (aH 3 3 (xC C D9 E9)))) (gI b w ζ h B (B3.A T6) E2) a=.nx (gI b w ζ h B (B3.A T6) i) av->Wd av B3 (P2.th T6 p j)->qJ (P2.L T6) p j->j.length=(P2.M T6).length->T4):T4:=by
 have r:h∉nms (bare P2.h1):=by rw[dC];exact r
 refine bx (zC q m D (W.th T6).H (Bo o)) λF e1 K1=>?_
 have G:=W.aU K1;have hs:cf (ae 6) (gI b w ζ h B (B3.A T6) E2) F=.ok _ _:=qH (G.th T6).H.pd;have W2:=G.cI T6;have f2:=kx (G.th T6).H.pd
 refine cg (Bs (G7:=cF 7) (ε:=goN _) (λk ρ l=>∃i,ρ=gI b w ζ h B (B3.A T6) i/\Wd l B3 P2/\l[(B3.A T6).P]?=some _) hs (λ⟨_,_,_,hP⟩=>by rw[sR hP,s_]) (by
  rintro k dd _ l hd ⟨i,rfl,s,I⟩;obtain⟨x,hx,rfl⟩:=lg hd;obtain⟨y,J,rfl⟩:=Î.mp (Ë hx);have H:=(s.th T6).H;refine bx (SF (h:=y.n) (B:=h) q X H.W (sW H.nn J) (by rw[E];exact s.t1.to) s.t1.ho.at r) λa0 e K=>?_
  exact⟨_,_,_,rfl,q0 (nT (eC rfl e)),_,rfl,s.aU K,K.g I⟩) ⟨_,rfl,W2,f2⟩ (by simp;exact Bo o)) λ_ b0 r2 N=>ay N λi O u _=>?_;subst O
 have Z:=u.t1.VO (u.YG (T6:=T6));rw[←E]at Z;refine SS (h:=h) (B:=B) V q D hG hW hC (u.th T6) Z (by rw[dC];exact ho) hl (Bo o) λp j c0 e4 Q hN d0 c K4=>?_
 have W4:=u.thS K4 Q (by simp_all)
 refine bx (zC q m D Q.H (Bo (Ø (R' c) o))) λS e5 K5=>?_
 have z:=W4.aU K5;have T:=(Q.aU K5).H;have d:=zj (h:="zzzzzzzz") T.pd;have R:∀{f},_=d_.nx _ f->YF (Nw Ξ S5 y3) _ _ (aH 4 2 (SE (aH 3 3 (xC C D9 E9)))) _ a=.nx (gI b w ζ h B (B3.A T6) i) f:=λe=>(q0 (nT (eC rfl e1))).trans ((r2 _).trans ((qE (eC rfl e4)).trans ((q0 (nT (eC rfl e5))).trans e)))
 by_cases U:("zzzzzzzz":Str)∈j.map (·.n)
 .refine bx (Î.mp U) λy J e=>?_
  rw[←e,sX T.nn J]at d;exact Y i p j S (R (q0 (aF (eQ (e▸rfl) rfl d)))) z hN c
 .rw[show a9 (gW j) (.inr "zzzzzzzz")=none from sV U]at d
  refine bx (SG (y3:=E9) (h:=h) V X T.W (by rw[E];exact z.t1.to) z.t1.ho.at r (sV U) (by simp[oX];exact Ø (R' c) o)) λf e6 K6=>?_
  exact Y i p j f (R (q0 (aT (eQ rfl rfl d) (nT (eC rfl e6))))) (z.aU K6) hN c
def YH(DP a HD b c d e TA f:aK):=
 (ag (cA (d8 (aI "Things" "drop" DP (ae 0) (af (ae 3) aj)) (d8 (aI "Town" "drop" a (ae 0) (af (ae 3) aj)) (aI "House" "drop" HD (ae 0) (af (ae 3) aj)))))
 (ag (dw (dQ [5,6]) (uD (af (ae 1) (af (ae 2) aj))) (YF b c d e))
 (ag (cA (d8 (aI "Town" "add" (λg=>TA (g++[.non])) (ae 0) (af (ae 3) (af (mN cz aj) aj))) (aI "House" "add" f (ae 0) (af (ae 3) (af (mN cz aj) aj)))))
 (ag (bj (au (.bl true)))
 ah))))
theorem KJ(a:l.Nodup):(wo l h++[h]).Nodup:=by grind
theorem FD(a:l.Nodup)(b:h∈l):(wo l h++[h]).length=l.length:=by
 have:wo l h=l.erase h:=by
  rw[a.erase_eq_filter]
  grind
 grind
abbrev SW(DP HD b a c f g h d CX TI e):=fC (aH 8 5 (YH DP (aH 3 2 (Yw (aH 4 2 (SH d)) (aH 2 2 SJ) (aH 3 2 FI))) HD (Nw a f c) (aH 5 3 (VJ (aH 4 3 (Bk a CX)))) (fLf b a c g h d) (aH 4 2 (SE (aH 3 3 (xC b CX TI)))) (aH 4 4 (M_ e (aH 3 2 FI))) e))
variable{Aa Ba za:aK}
theorem SX(hI:gb C)(hT:cZ Ξ)(hS:eH y3)(I:kz S5)(hG:iV R7)(hW:jw T7)(Y:iv C9)(hX:Fp D9)(hA:sS za)(W:Wd a B3 P2)(hp:Pk a B3)(J:(b,.lst [.ref (B3.A 0).T,.ref (B3.A 1).T])∈B3.ex)(K:(w,.lst [.ref (B3.A 0).P,.ref (B3.A 1).P])∈B3.ex)(u:h∈P2.h1)(ho:B∈P2.h1)(a0:B≠h)(Z:P2.h1.Nodup)(hl:P2.h1.length<=12)(hv:iU h)(hb:P2.b1<=300)(hL:∀i,(P2.L i).length<=500)(hM:∀i,(P2.M i).length<40)(kk:∀d av,SW Aa Ba C Ξ y3 S5 R7 T7 C9 D9 E9 za [.ref P2.t1.t,.ref b,.ref w,.str h,.str B] a=.ok (.bl true) av->Wd av B3 d->Pk av B3->d.C=P2.C->(∀i,qJ (P2.L i) (d.L i) (d.M i)/\(d.M i).length=(P2.M i).length)->d.t1.t=P2.t1.t->d.h1=wo P2.h1 h++[h]->d.b1=P2.b1+2->T4):T4:=by
 refine SN Y W.t1 u (fG hl) (by omega) λx1 n e1 T1 K1=>?_
 have W1:=W.t1S K1 T1 (λN ha=>.inl ha) rfl
 have hz:∀{f:az}{d:hF},Wd f B3 d->uC f (.ref b) (.ref w)=some [.tup _,.tup _]:=λg=>oV (g.at J) (g.at K) rfl
 obtain⟨_,f,r2,G,H,z,o,rfl,g,r,l,O,x,s⟩:=Bs (a:=n) (y:=n) (G7:=dQ [5,6]) (D3:=uD (af (ae 1) (af (ae 2) aj))) (j6:=.zip (.ref b) (.ref w)) (λk ρ f=>∃G H z d,ρ=gE P2.t1.t b w h B G H z/\Wd f B3 d/\d.C=P2.C/\(∀i:I3,if i.val<k then qJ (P2.L i) (d.L i) (d.M i)/\(d.M i).length=(P2.M i).length else d.L i=P2.L i/\d.M i=P2.M i)/\d.t1=P2.t1/\d.h1=wo P2.h1 h/\d.b1=P2.b1+1) (by show lQ [.ref b,.ref w] n=_;simp only[lQ,hz W1]) (λ⟨_,_,_,_,_,g,_⟩=>hz g) (by
  rintro k dd _ f D ⟨G,H,z,o,rfl,g,r,l,O,x,s⟩
  obtain⟨E,Q,R⟩:∃u:k<3,dd=.tup [.ref (B3.A ⟨k,u⟩).T,.ref (B3.A ⟨k,u⟩).P]/\(B3.A ⟨k,u⟩).t=o.t1.t:=by
   match k,D with
   |0,D=>cases D;exact⟨by decide,rfl,g.tt.1⟩
   |1,D=>cases D;exact⟨by decide,rfl,g.tt.2.1⟩
  subst Q;have c:=l ⟨k,E⟩;rw[if_neg (by simp)]at c
  refine NX (b:=P2.t1.t) (w:=b) (ζ:=w) (E9:=E9) (E2:=z) hI hT hS I hG hW Y hX g R (h:=h) (B:=B) (by rw[x];simp) (by simp_all) (by rw[c.1];exact hL _) (by rw[c.2];exact hM _) λc7 L' S b0 e Wy hN m=>?_
  refine⟨_,_,_,rfl,e,_,_,_,_,rfl,Wy,r,λj=>?_,O,x,s⟩
  rw[c.1]at hN;rw[c.2]at m
  show if _ then qJ _ (up o.L _ L' _) (up o.M _ S _)/\(up o.M _ S _).length=_ else up o.L _ L' _=_/\up o.M _ S _=_
  by_cases U:j=⟨k,E⟩
  .subst U
   rw[if_pos (by simp),up_eq,up_eq]
   exact⟨hN,m⟩
  .have:=l j
   rw[iz U,iz U]
   grind) ⟨none,none,none,_,rfl,W1,rfl,by simp,rfl,rfl,rfl⟩ (by simp)
 refine ay (kA (lN (q:=[]) (a:=f))) λc0 e2 K2 g2=>?_
 have W2:=g.aU K2;have F:=g.t1.to;have wl:=FD Z u;simp at wl;refine Ku hA W2.t1 g2 (B:=h) (by rw[x];exact KJ Z) (by rw[x];exact M' (R' wl) hl) hv (by omega) λx3 d0 V e3 T3 K3 t3 _ o3=>?_
 have X:=W2.t1S (K3.sub (by simp)) T3 o3 t3
 rw[O]at e3 t3 F;rw[x,s]at X;have r1:=al2 (p:=aI "Things" "drop" Aa (ae 0) (af (ae 3) aj)) (YE (v:=gE P2.t1.t b w h B none none none) rfl W.t1.to) (al (ξ:=aI "House" "drop" Ba (ae 0) (af (ae 3) aj)) (eM (h:="Town") (B:="drop") (p:=ae 0) (u0:=af (ae 3) aj) rfl W.t1.to rfl e1));have r3:=al (ξ:=aI "House" "add" za (ae 0) (af (ae 3) (af (mN cz aj) aj))) (eM (v:=gE P2.t1.t b w h B G H z) (h:="Town") (B:="add") (C:=λxs=>(aH 4 4 _) (xs++[.non])) (p:=ae 0) (u0:=af (ae 3) (af (mN cz aj) aj)) rfl F (eK rfl (eK (eN rfl e2) rfl)) e3)
 refine kk _ (cG a V) (Ym (fR ((qE r1).trans ((r2 _).trans ((qE r3).trans (qR rfl)))))) X.fh (hp.fh X) r (λi=>?_) t3 rfl (by grind)
 have:=l i;split at this
 .exact this
 .exact⟨.inl this.1,by rw[this.2]⟩
def SY(F0:List D->Out Rs)(i:Int):=(mN (fx F0) (af (ae 0) (af (au (.int i)) aj)))
def S_(F0:List D->Out Rs)(a):=
 (ag (aR 1 (mN (bw a) (af (SY F0 0) (af (au (.int 5)) aj))))
 (ag (aR 2 (mN (bw a) (af (SY F0 1) (af (au (.int 3)) aj))))
 (ag (aR 3 (mN (bw a) (af (SY F0 2) (af (m2 bc (mN cz (af (au (.int 4)) (af (au (.int 6)) (af (au (.int 14)) aj)))) (m2 (bh .Mod) (SY F0 3) (au (.int 3)))) aj))))
 (ag (bj (mN nW (af (ae 1) (af (ae 2) (af (ae 3) aj)))))
 ah))))
variable{F6:List Int}
theorem zK(b:jk (λc k=>c.getD k 0) m6)(i:Nat)(d:ae 0 v a=.ok (SC F6) a):SY m6 i v a=.ok (.int (F6.getD i 0)) a:=eN (eK d rfl) (by
 have:=b F6 i
 simp_all)
theorem Ta(b:jk (λc k=>c.getD k 0) m6)(p:E_ C):∃(c f d:List Str) (l n o:Nat) (av:az),aH 4 1 (S_ m6 C) [SC F6] a=.ok (.tup [.ref l,.ref n,.ref o]) av/\av[l]?=some (.lst (c.map .str))/\av[n]?=some (.lst (f.map .str))/\av[o]?=some (.lst (d.map .str))/\(f.Nodup/\d.Nodup)/\(∀u∈c,iU u)/\(∀u∈f,iU u)/\(∀u∈d,iU u)/\c.length=5/\f.length=3/\1<=d.length/\d.length<=14:=by
 obtain⟨c,l,x,S,y,z,A,B,T⟩:=p a _ 5 (by decide) (by decide)
 obtain⟨f,n,h,D,E,F,G,H,I⟩:=p _ _ 3 (by decide) (by decide)
 refine ay (kA (lN (q:=[.int 4,.int 6,.int 14]) (a:=h))) λi J K r=>?_
 have s:∃m:Nat,(1<=m/\m<=14)/\bc (.ref h.length) (.int (F6.getD 3 0%3)) i=.ok (.int m) i:=by
  have:F6.getD 3 0%3=0\/F6.getD 3 0%3=1\/F6.getD 3 0%3=2:=by omega
  rcases this with e|e|e<;>rw[e]
  .exact⟨4,by decide,aY r rfl⟩
  .exact⟨6,by decide,aY r rfl⟩
  .exact⟨14,by decide,aY r rfl⟩
 obtain⟨m,⟨t,m1⟩,L⟩:=s;obtain⟨d,o,M,N,O,w,P,Q,R⟩:=p _ _ m t m1;have j:=K.trans R;exact⟨c,f,d,l,n,o,_,fR ((qA (eC (eK (zK b 0 rfl) rfl) A)).trans ((qA (eC (eK (zK b 1 rfl) rfl) G)).trans ((qA (eC (eK (zK b 2 rfl) (eK (eQ (eN rfl J) (eQ (zK b 3 rfl) rfl MG) L) rfl)) P)).trans (qR rfl)))),(I.trans j).g B,j.g H,Q,⟨D,N⟩,y,E,O,z,F,B' t (R' w.symm),B' (R' w) m1⟩
theorem Wd.twi(W:Wd a B3 P2)(d:∀k∈B3.ks,k∈P2.h1)(i):∃h e,(∃P f,Jg P a (B3.A i).t h (bare e) (λn=>[n]) f (own (B3.A i) (P2.M i)))/\∀k∈B3.ks,k∈e:=by
 have g:=λ{i} b j l=>W.sp.dj .t2 (.th i) (by simp) b j (Ù _ l)
 have c:=W.tt
 match i with
 |0=>exact⟨_,_,⟨_,_,by rw[c.1];exact W.t1.VO W.YG⟩,d⟩
 |1=>exact⟨_,_,⟨_,_,by rw[c.2.1];exact W.t1.VO W.YG⟩,d⟩
 |2=>exact⟨_,_,⟨_,_,by rw[c.2.2];exact W.t2.VO g⟩,by simp⟩
structure FK(X:Cs)(bq pq cq nq kq wq:Nat)(ws:List Str):Prop where
 b:(bq,.lst [.ref (X.A 0).T,.ref (X.A 1).T,.ref (X.A 2).T])∈X.ex
 p:(pq,.lst [.ref (X.A 0).P,.ref (X.A 1).P,.ref (X.A 2).P])∈X.ex
 c:(cq,.lst [.ref (X.q 0),.ref (X.q 1),.ref (X.q 2)])∈X.ex
 n:(nq,.lst (X.ns.map .str))∈X.ex
 k:(kq,.lst (X.ks.map .str))∈X.ex
 w:(wq,.lst (ws.map .str))∈X.ex
 vn:∀u∈X.ns,iU u
 vk:∀u∈X.ks,iU u
 vw:∀u∈ws,iU u
 ln:X.ns.length=5
 lk:X.ks.length=3
 lw:1<=ws.length/\ws.length<=14
 nk:X.ks.Nodup
 nw:ws.Nodup
theorem NY(D:jX y8 m6)(K:gb C)(N:cZ Ξ)(O:eH y3)(R:iV S5)(S:jw R7)(U:iv T7)(B:FK B3 b w ζ A0 B1 E1 l)(W:Wd a B3 P2)(G:Pk a B3)(V:∀k∈B3.ks,k∈P2.h1)(X:(P2.L T6).length<=500)(Y:(P2.M T6).length<40)(Z:∀y q av,Sk m6 C Ξ y3 S5 R7 T7 p [.ref (B3.A T6).T,.ref (B3.A T6).P,.tup [.ref A0,.ref B1,.ref E1],.int J] a=.ok (.bl true) av->Wd av B3 (P2.th T6 y q)->Pk av B3->qJ (P2.L T6) y q->q.length<=(P2.M T6).length+1->T4):T4:=by
 refine cg (W.twi V T6) λh hs tw E=>?_
 have Q:=W.th T6;have x:∃x:Ae,x=⟨a,own (B3.A T6) (P2.M T6),(B3.A T6).n0,(B3.A T6).T,(B3.A T6).t,(B3.A T6).s,(B3.A T6).r,(B3.A T6).m,(B3.A T6).d,(B3.A T6).P⟩:=⟨_,rfl⟩;obtain⟨x,g⟩:=x
 have F:Q4 a x (P2.L T6) (P2.M T6) B3.ns:=by
  subst g;exact⟨⟨Q.H.W,Q.H.pd,Q.H.al,Q.H.nn,Q.H.nd,Q.H.lo,Q.H.lt,Q.H.ln,ao.refl,λo I=>.inl I⟩,G.at W T6,Q.z,Q.i,Q.u⟩
 refine Sl (p:=p) (J:=J) D K N O R S U (by
  subst g;exact⟨W.at B.n,W.at B.k,W.at B.w,tw,E,B.vn,B.vw,B.ln,B.lk,B.lw,B.nw⟩) F X Y λy q av e f hN hM=>?_
 have bs:=f.H.bs;have p1:=f.p;subst g
 refine Z y q _ e (W.thS bs (by
  refine⟨⟨f.H.W,f.H.pd,f.H.al,f.H.nn,f.H.nd,f.H.lo,f.H.lt,f.H.ln,?_,λo I=>.inr ?_⟩,f.z,f.i,f.u⟩
  .rw[(W.ba T6).1]
   exact⟨æ _,λk c e _=>by simp at e⟩
  .rw[(W.ba T6).1]
   exact æ _) f.H.lb) (λj=>?_) hN hM
 by_cases hj:j=T6
 .simp_all
 .obtain⟨a0,hk⟩:=G j
  exact⟨_,bs.get _ _ hk λz=>W.sp.dj (.th j) (.th T6) (by simp_all) _ (by simp[zs]) (Ù _ z)⟩
abbrev wE(sc:List Int)(d e f t g h i:Nat)(j k l m a b c:Option D):aZ:=[some (SC sc),some (.tup [.ref d,.ref e,.ref f]),oR t,oR g,oR h,oR i,j,k,l,m,a,b,c]
def bE:=(m2 bc (ae 3) (ae 8))
def pE:=(m2 bc (ae 4) (ae 8))
def NZ:=(m2 bc (ae 1) (au (.int 1)))
def otE:=(m2 bc NZ (m2 (bh .Sub) (ae 8) (au (.int 1))))
def cmC(CM):=(mN (bw CM) (af (ae 5) (af (ae 4) aj)))
def YI:=(m2 (aJ .Eq) (m2 (bh .Mod) (ae 6) (au (.int 9))) (au (.int 8)))
def sl2(j:Nat):=(fJ (ae j) true (au .non) false (au (.int 2)))
def YJ(a):=(mN (bw a) (af (ae 2) (af (sl2 3) (af (sl2 4) (af (ae 9) (af (ae 10) aj))))))
def Tb(F0 F:List D->Out Rs)(a CM b c):=
 (ag (aR 7 (mN (fx F0) (af (ae 0) (af (m2 (bh .Add) (au (.int 4)) (ae 6)) aj))))
 (ag (aR 8 (mN (fx F) (af (ae 7) (af (au (.int 4)) (af (au (.int 3)) aj)))))
 (ag (dP (ew (mN (bw a) (af bE (af pE (af (ae 1) (af (ae 7) aj)))))) pD ah)
 (ag (aR 9 (m2 bc NZ (ae 8)))
 (ag (aR 10 otE)
 (ag (cA (cmC CM))
 (ag (dP (gY YI (ew (YJ b))) pD ah)
 (ag (cA (cmC CM))
 (ag (dP (ew (mN (bw c) (af bE (af pE aj)))) pD ah)
 ah)))))))))
structure Iv(Ω:az)(X:Cs)(S:hF)(t k:Nat):Prop where
 W:Wd Ω X S
 p:Pk Ω X
 c:S.C=S.L
 t:S.t1.t=t
 nd:S.h1.Nodup
 hl:S.h1.length=3
 hh:∀x∈X.ks,x∈S.h1
 b:S.b1=3+2*((k / 9:Nat):Int)
 L:∀i,(S.L i).length<=1+2*k
 M:∀i,(S.M i).length<=k
theorem vl{α:Type}{f:I3->α}(a):[f 0,f 1,f 2][b]?=some (f ⟨b,a⟩):=by
 match b,a with
 |0,_=>rfl
 |1,_=>rfl
 |2,_=>rfl
theorem KL(B:FK B3 b w ζ A0 B1 E1 l)(W:Wd a B3 P2)(c)(d:ae 3 v a=.ok (.ref b) a)(e:ae 8 v a=.ok (.int o4) a):bE v a=.ok (.ref (B3.A ⟨o4,c⟩).T) a:=
 eQ d e (aY (W.at B.b) (L2.dB (vl (f:=λi=>D.ref (B3.A i).T) c)))
theorem KN(B:FK B3 b w ζ A0 B1 E1 l)(W:Wd a B3 P2)(c)(d:ae 4 v a=.ok (.ref w) a)(e:ae 8 v a=.ok (.int o4) a):pE v a=.ok (.ref (B3.A ⟨o4,c⟩).P) a:=
 eQ d e (aY (W.at B.p) (L2.dB (vl (f:=λi=>D.ref (B3.A i).P) c)))
theorem tp(h:ae 1 v a=.ok (.tup [.ref b,.ref w,.ref ζ]) a):NZ v a=.ok (.ref w) a:=eQ h rfl (Ew rfl)
theorem Tc:∀{a:List Str},a.length=3->a.Nodup->∀b<3,∃kd d,kd∈a/\d∈a/\d≠kd/\L2.jH (a.map D.str) (b:Nat)=some (.str kd)/\L2.jH (a.map D.str) (b - 1)=some (.str d)
 |[u,v,w],_,c,b,e=>by
  simp at c
  match b,e with
  |0,_=>exact⟨u,w,by simp,by simp,Ç c.1.2,rfl,rfl⟩
  |1,_=>exact⟨v,u,by simp,by simp,c.1.1,rfl,rfl⟩
  |2,_=>exact⟨w,v,by simp,by simp,c.2,rfl,rfl⟩
variable{B8:D}
theorem KO(d:a[b]?=some (.lst [m,η,B8])):∃av,(∀{c j},ae j c a=.ok (.ref b) a->sl2 j c a=.ok (.ref a.length) av)/\ao [] a av/\av[a.length]?=some (.lst [m,η]):=
 ⟨_,λh=>by
  have e:=rS [m,η,B8] 2;have e:ef _ _ (some 2)=[m,η]:=e;unfold sl2;simp only[Ez,h,eA,IL,IK,yX,IP,pw,aV d,sH,e],ao.app,aN (y:=[])⟩
theorem N_(u:gb C)(x:cZ Ξ)(y:eH y3)(j:kz S5)(z:iV R7)(A:jw T7)(D:iv C9)(E:Fp D9)(F:sS za)(c:FK B3 w ζ A0 B1 E1 o4 l)(W:Wd a B3 P2)(k:Pk a B3)(G:P2.t1.t=b)(H:h∈P2.h1)(I:B∈P2.h1)(m:B≠h)(J:P2.h1.Nodup)(K:P2.h1.length<=12)(N:iU h)(O:P2.b1<=300)(P:∀i,(P2.L i).length<=500)(Q:∀i,(P2.M i).length<40)(R:∀d av,YJ (SW Aa Ba C Ξ y3 S5 R7 T7 C9 D9 E9 za) (wE F6 B1 E1 o4 b w ζ A0 E2 B4 N5 (oS h) (oS B) t8 x9) a=.ok (.bl true) av->Wd av B3 d->Pk av B3->d.C=P2.C->(∀i,qJ (P2.L i) (d.L i) (d.M i)/\(d.M i).length=(P2.M i).length)->d.t1.t=b->d.h1=wo P2.h1 h++[h]->d.b1=P2.b1+2->T4):T4:=by
 refine ay (KO (W.at c.b)) λn S o T=>?_
 have U:=W.add o T (O' _) (by simp)
 refine ay (KO (o.g (W.at c.p))) λV X s Y=>?_
 refine SX (Aa:=Aa) (Ba:=Ba) (E9:=E9) (b:=a.length) (w:=n.length) u x y j z A D E F (U.add s Y (O' _) (by simp)) ((k.keep o (by simp)).keep s (by simp)) (by simp[Cs.add]) (by simp[Cs.add]) H I m J K N O P Q λd Z e W3 p3 q r t3 f h'=>?_
 rw[G]at e t3;exact R d _ (eC (eK rfl (eK (S rfl) (eK (X rfl) rfl))) e) (W3.sub λp k=>by simp[Cs.add,k]) p3 q r t3 f h'
theorem Oa{F:List D->Out Rs}{i}(V:jk (λns b=>ns.getD b 0) m6)(A:jX y8 F)(hI:gb C)(X:cZ Ξ)(Y:eH y3)(E:kz S5)(hG:iV R7)(hW:jw T7)(hC:iv C9)(hX:Fp D9)(hA:sS za)(B:FK B3 ζ A0 B1 E1 o4 E6 l)(H:Iv a B3 P2 w b)(S:b<36)(kk:∀S' G b8 b9 Z av,Tb m6 F (Sk F C Ξ y3 R7 T7 C9 p) (fC (aH 5 2 SV)) (SW Aa Ba C Ξ y3 S5 R7 T7 C9 D9 E9 za) (Nw Ξ S5 y3) (wE F6 E1 o4 E6 w ζ A0 B1 (oI b) E2 B4 N5 t8 x9 i) a=.nx (wE F6 E1 o4 E6 w ζ A0 B1 (oI b) G b8 b9 Z x9 i) av->Iv av B3 S' w (b+1)->T4):T4:=by
 have hc:fx m6 [SC F6,.int (4+(b:Int))] a=.ok (.int (F6.getD (4+b) 0)) a:=by
  have hc:=V F6 (4+b)
  simp_all
 generalize F6.getD (4+b) 0=x at hc;refine kH (A x 4 3 (by decide) (by decide) (by decide)) λy0 y1 hy=>?_
 obtain⟨d,a0⟩:∃d:Nat,(d:Int)=y8 x 4 3:=⟨(y8 x 4 3).toNat,by omega⟩
 rw[←a0]at hy y1;have g:d<3:=by omega
 have hL:=H.L;have hM:=H.M;refine NY (T6:=⟨d,g⟩) (J:=x) (p:=p) A hI X Y hG hW hC B H.W H.p H.hh (by have:=hL ⟨d,g⟩;omega) (by have:=hM ⟨d,g⟩;exact lwc (Ø this S)) λr s e0 e3 W3 p3 I g0=>?_
 refine bg (Tc B.lk B.nk d g) λn T K b0 c0 i4 i5=>?_
 have N:=W3.at B.k
 have o:∀j,qJ (P2.C j) ((P2.th ⟨d,g⟩ r s).L j) ((P2.th ⟨d,g⟩ r s).M j)/\((P2.th ⟨d,g⟩ r s).M j).length<=b+1/\((P2.th ⟨d,g⟩ r s).L j).length<=2+2*b:=λj=>by
  have O:=hL j;have h2:=hM j;rw[H.c]
  show qJ _ (up P2.L _ r j) (up P2.M _ s j)/\(up P2.M _ s j).length<=b+1/\(up P2.L _ r j).length<=_
  by_cases hj:j=⟨d,g⟩
  .subst hj
   rw[up_eq,up_eq];refine⟨I,by omega,?_⟩
   rcases I with rfl|⟨R,_,rfl,_⟩
   .omega
   .simp
    omega
  .rw[iz hj,iz hj]
   exact⟨.inl rfl,B' h2 (ó _ _),by omega⟩
 refine zJ W3 p3 B.c B.p (λj=>(o j).1) (λj=>by have:=(o j).2.1;exact fG (B' this S)) (λj=>by
  show(P2.C j).length<=500
  rw[H.c];have:=hL j;omega) λh0 m e6 W6 p6=>?_
 have h6:∀{w},decide (b%9=8)=w->YI (wE F6 E1 o4 E6 P2.t1.t ζ A0 B1 (oI b) (oI x) (oI d) (oS n) (oS T) x9 i) m=.ok (.bl w) m:=λz=>eQ (eQ rfl rfl MG) rfl (Bt (z▸decide_eq_decide.mpr (by omega)))
 rw[H.t]at h6
 have P:∀f h,(gY YI (ew (YJ (SW Aa Ba C Ξ y3 S5 R7 T7 C9 D9 E9 za)))) (wE F6 E1 o4 E6 w ζ A0 B1 (oI b) (oI x) (oI d) (oS n) (oS T) x9 i) m=.ok (.bl false) h->Wd h B3 f->Pk h B3->(∀j,qJ (f.C j) (f.L j) (f.M j)/\(f.M j).length<=b+1/\(f.L j).length<=3+2*b/\(f.C j).length<=2+2*b)->f.t1.t=w->f.h1.Nodup->f.h1.length=3->(∀x∈B3.ks,x∈f.h1)->f.b1=3+2*(((b+1) / 9:Nat):Int)->T4:=λf h r7 W7 p7 q t7 n7 l7 y G=>by
  refine zJ W7 p7 B.c B.p (λj=>(q j).1) (λj=>by have:=(q j).2.1;exact fG (B' this S)) (λj=>by have:=(q j).2.2.2;omega) λi0 j0 e8 U p8=>?_
  refine bx (zC X E Y (U.th ⟨d,g⟩).H (by grind)) λd0 e9 K9=>?_
  exact kk _ (oI x) (oI d) (oS n) (oS T) d0 ((qA (eN (eK rfl (eK (eQ rfl rfl EB) rfl)) hc)).trans ((qA (eV rfl hy)).trans ((q0 (nT (eC (eK (KL B H.W g rfl rfl) (eK (KN B H.W g rfl rfl) rfl)) e3))).trans ((qA (eQ (tp rfl) rfl (aY N i4))).trans ((qA (eQ (tp rfl) (eQ rfl rfl XW) (aY N i5))).trans ((qE (eC rfl e6)).trans ((q0 r7).trans ((qE (eC rfl e8)).trans (q0 (nT (eC (eK (KL B U g rfl rfl) (eK (KN B U g rfl rfl) rfl)) e9))))))))))) ⟨U.aU K9,p8.keep K9 (by simp),rfl,t7,n7,l7,y,G,λj=>B' (q j).2.2.1 (by omega),λj=>(q j).2.1⟩
 by_cases z:b%9=8
 .have Q:=H.hh n K
  have l0:=H.b;refine N_ (F6:=F6) (Aa:=Aa) (Ba:=Ba) (E9:=E9) (E2:=oI b) (B4:=oI x) (N5:=oI d) (t8:=x9) (x9:=i) hI X Y E hG hW hC hX hA B W6 p6 H.t Q (H.hh T b0) c0 H.nd (by show P2.h1.length<=12;rw[H.hl];decide) (B.vk n K) (by show P2.b1<=300;omega) (λj=>B' (o j).2.2 (by omega)) (λj=>Ø (o j).2.1 (lwb S)) λf h e7 W7 p7 c7 q t7 y G=>?_
  have y:f.h1=wo P2.h1 n++[n]:=y;refine P f h (aT (h6 (decide_eq_true z)) (nT e7)) W7 p7 (λj=>?_) t7 (by rw[y];exact KJ H.nd) (by rw[y,FD H.nd Q];exact H.hl) (λu hu=>?_) (by rw[G];show P2.b1+2=_;omega)
  .have O:=(q j).1
   have h3:=o j;rw[show f.C j=(P2.th ⟨d,g⟩ r s).L j by rw[c7]]
   refine⟨O,(q j).2▸h3.2.1,?_,h3.2.2⟩;rcases O with O|⟨R,_,O,_⟩
   .grind
   grind
  .rw[y]
   by_cases e:u=n
   .simp[e]
   .simp[H.hh u hu,e]
 .exact P _ m (aF (h6 (decide_eq_false z))) W6 p6 (λj=>⟨.inl rfl,(o j).2.1,B' (o j).2.2 (by omega),(o j).2.2⟩) H.t H.nd H.hl H.hh (H.b.trans (by grind))
def Ob:=
 (ag (bj (mN (cb .len) (af (m1 (bf ["Shapes"] "rows") (ae 0)) aj)))
 ah)
theorem Td(H:Sh a b w ζ E):aH 1 1 Ob [.ref b] a=.ok (.int E.length) a:=fR (qR (eN (eK (eF rfl H.ob) rfl) ((gO H.ro).trans (by simp))))
def FL:=
 (ag (bj (mN (cb .list) (af (m1 (bf ["Facts"] "asked") (ae 0)) aj)))
 ah)
def OS(a):=
 (ag (bj (aI "Facts" "reads" a (m1 (bf ["Town"] "facts") (ae 0)) aj))
 ah)
theorem Oc(W:Tw a C7 l J):aH 1 1 (OS (aH 1 1 FL)) [.ref C7.t] a=.ok (.ref a.length) (a++[.lst []]):=fR (qR (eM (eF rfl W.to) W.fa rfl (fR (qR (eN (eK (eF rfl W.fa) rfl) (iP W.ak))))))
def Te:=
 (ag (bj (m1 (bf ["Town"] "last_deed") (ae 0)))
 ah)
theorem KP(W:Tw a C7 l J):aH 1 1 Te [.ref C7.t] a=.ok (.int J) a:=fR (qR (eF rfl W.to))
def YK(a):=(cD (aI "Shapes" "many" a (m1 (bf ["Things"] "shapes") (ae 0)) aj) true (au .non) (cf (ae 3)) 0 [])
def YL:=(cD (mN (cb .len) (af (ae 0) aj)) true (au .non) (cf (ae 5)) 0 [])
theorem Tf(B:FK B3 b w ζ A0 B1 E1 l)(W:Wd a B3 P2)(h:ae 3 v a=.ok (.ref b) a):YK (aH 1 1 Ob) v a=.ok (.ref a.length) (a++[.lst [.int (P2.L 0).length,.int (P2.L 1).length,.int (P2.L 2).length]]):=by
 obtain⟨r,m,e,n,o⟩:=mQ (p:=aI "Shapes" "many" (aH 1 1 Ob) (m1 (bf ["Things"] "shapes") (ae 0)) aj) (T:=[]) (λk c g=>c=[D.int (P2.L 0).length,.int (P2.L 1).length,.int (P2.L 2).length].take k/\g=a) (sr h (W.at B.b)) ⟨rfl,rfl⟩ (λk c g h=>by rw[h.2,ej,bI,aV (W.at B.b)]) (λk d c g q h=>by
  obtain⟨rfl,rfl⟩:=h;obtain⟨i,rfl⟩:=tm (f:=λj=>D.ref (B3.A j).T) q
  have H:=(W.th ⟨k,i⟩).H.W;exact⟨_,_,eM (eF rfl H.ob) H.sh.ob rfl (Td H.sh),by rw[Ĵ,vl (f:=λj=>D.int (P2.L j).length) i];rfl,rfl⟩) (by simp)
 unfold YK;rw[e,n,o];rfl
theorem Th(B:FK B3 b w ζ A0 B1 E1 l)(W:Wd a B3 P2)(h:ae 5 v a=.ok (.ref ζ) a):YL v a=.ok (.ref a.length) (a++[.lst [.int (P2.C 0).length,.int (P2.C 1).length,.int (P2.C 2).length]]):=by
 obtain⟨s,n,e,o,q⟩:=mQ (p:=mN (cb .len) (af (ae 0) aj)) (T:=[]) (λk g i=>g=[D.int (P2.C 0).length,.int (P2.C 1).length,.int (P2.C 2).length].take k/\i=a) (sr h (W.at B.c)) ⟨rfl,rfl⟩ (λk g i h=>by rw[h.2,ej,bI,aV (W.at B.c)]) (λk d g i r h=>by
  obtain⟨rfl,rfl⟩:=h;obtain⟨m,rfl⟩:=tm (f:=λj=>D.ref _) r
  have H:=W.cm ⟨k,m⟩;exact⟨_,_,(gO H.ce).trans (by rw[Þ,←H.len]),by rw[Ĵ,vl (f:=λj=>D.int (P2.C j).length) m];rfl,rfl⟩) (by simp)
 unfold YL;rw[e,o,q];rfl
theorem Ju(h:a[b]?=some (.lst [.int J,.int P0,.int ya]))(h':a[w]?=some (.lst [.int J,.int P0,.int ya])):aJ .NotEq (.ref b) (.ref w) a=.ok (.bl false) a:=by
 rw[sM,kn,fU (j5:=[.int J,.int P0,.int ya]) h (by rfl),fU (j5:=[.int J,.int P0,.int ya]) h' (by rfl),mM]
 simp_all
def Ti(a):=(ag (dP (ew (mN (bw a) (af (ae 11) (af (ae 12) aj)))) pD ah) ah)
def YM(j:Int):=(m1 (bf ["Things"] "town") (m2 bc (ae 3) (au (.int j))))
def YN(a b e):=(m2 (aJ .NotEq) (d8 (aI "Town" "reads" a e aj) (aI "Facts" "reads" b e aj)) (mN cz aj))
def deE(a)(j:Int):=(aI "Town" "deeds" a (YM j) aj)
def z67(d e a b c):=
 (ag (dP (m2 (aJ .NotEq) (YK d) YL) pD ah)
 (ag (dw (dQ [11,12]) (uD (af (ae 3) (af (ae 4) aj))) (Ti e))
 (ag (dP (yv (YN a b (ae 2)) (YN a b (YM 2))) pD ah)
 (ag (bj (gY (m2 (aJ .Eq) (deE c 0) (m2 (bh .Add) (au (.int 3)) (au (.int 8)))) (m2 (aJ .Eq) (deE c 2) (au (.int 3)))))
 ah))))
theorem xG(B:FK B3 b w ζ A0 B1 E1 l)(W:Wd a B3 P2)(j:Nat)(c)(d:ae 3 v a=.ok (.ref b) a):YM j v a=.ok (.ref (B3.A ⟨j,c⟩).t) a:=eF (eQ d rfl (aY (W.at B.b) (L2.dB (vl (f:=λi=>D.ref (B3.A i).T) c)))) (W.th ⟨j,c⟩).H.W.ob
theorem FE(W:Tw a C7 l J):∃av,(∀{d e},e d a=.ok (.ref C7.t) a->YN (aH 1 1 (OS (aH 1 1 FL))) C e d a=.ok (.bl false) av)/\ao [] a av:=by
 refine ay (kA (Oc W)) λb h i j=>?_
 refine ay (kA (lN (q:=[]) (a:=b))) λc k f m=>⟨c,λn=>eQ (al (eM n W.to rfl h)) (eN rfl k) (Yo (l:=[]) (f.g j) m),i.trans f⟩
theorem Od{h i}(O:cZ C)(Q:eH Ξ)(r:kz y3)(B:FK B3 w ζ A0 B1 E1 o4 l)(H:Iv a B3 P2 b 36):∃av,uM (z67 (aH 1 1 Ob) (Nw C y3 Ξ) (aH 1 1 (OS (aH 1 1 FL))) (aH 1 1 FL) (aH 1 1 Te) (wE F6 B1 E1 o4 b w ζ A0 E2 B4 N5 t8 x9 h i) a)=.ok (.bl true) av:=by
 have W:=H.W;refine ay (kA (Tf (v:=wE F6 B1 E1 o4 b w ζ A0 E2 B4 N5 t8 x9 h i) B W rfl)) λR S U V=>?_
 have E:=W.aU U;refine ay (kA (Th (v:=wE F6 B1 E1 o4 b w ζ A0 E2 B4 N5 t8 x9 h i) B E rfl)) λs X F G=>?_
 rw[H.c]at G;have I:=E.aU F;have J:∀{d:az},Wd d B3 P2->uC d _ _=some _:=λm=>oV (m.at B.b) (m.at B.p) rfl
 obtain⟨_,Y,Z,n,o,rfl,u⟩:=Bs (G7:=dQ [11,12]) (D3:=uD (af (ae 3) (af (ae 4) aj))) (j6:=.zip (.ref w) (.ref ζ)) (ε:=Ti _) (λk ρ d=>∃n o,ρ=wE F6 B1 E1 o4 b w ζ A0 E2 B4 N5 t8 x9 n o/\Wd d B3 P2) (by show lQ [.ref w,.ref ζ] s=_;simp only[lQ,J I]) (λ⟨_,_,_,m⟩=>J m) (by
  rintro k dd _ d hd ⟨n,o,rfl,m⟩;obtain⟨L,rfl⟩:=tm (f:=λj=>D.tup [.ref (B3.A j).T,.ref (B3.A j).P]) hd
  refine bx (zC O r Q (m.th ⟨k,L⟩).H (by have:=H.M ⟨k,L⟩;exact fG this)) λa0 e K=>⟨_,_,_,rfl,q0 (nT (eC rfl e)),_,_,rfl,m.aU K⟩) ⟨_,_,rfl,I⟩ (by simp)
 have x:=u.tt;refine bx (FE (C:=aH 1 1 FL) u.t1) λb0 e4 K4=>?_
 have y:=u.aU K4;refine bx (FE (C:=aH 1 1 FL) y.t2) λz e5 K5=>?_
 have q:=y.aU K5;have N:=KP q.t1;rw[H.b]at N;exact⟨z,frt ((q0 (eQ S X (Ju (F.g V) G))).trans ((Z _).trans ((q0 (oF (e4 (by rw[H.t];rfl)) (e5 (by rw[←x.2.2];exact xG B y 2 (by decide) rfl)))).trans (qR (aT (eQ (eM (by rw[←x.1];exact xG B q 0 (by decide) rfl) q.t1.to rfl N) (eQ rfl rfl EB) (Bt rfl)) (eQ (eM (by rw[←x.2.2];exact xG B q 2 (by decide) rfl) q.t2.to rfl (KP q.t2)) rfl (Bt rfl)))))))⟩
variable{Ja:Ci}
section
variable{Ω av AE:az}{ρ:aZ}{X:Cs}{S S':hF}{i:I3}{k t bq pq cq nq kq wq n m:Nat}{IS TH SO WO GR WI CK CX TI AD DP HD IN NT:aK}{F0 F:List D->Out Rs}{μ:Int->Int->Int->Int}{sc:List Int}{ws:List Str}{AL:EM}{Z Z':Ci->List Nat}
noncomputable def tri{α:Type}(a b c:α):I3->α
 |0=>a
 |1=>b
 |2=>c
open Classical in
noncomputable def xH(Z:Ci->List Nat)(c n m):=λj=>if j=c then Ϙ n (m - n)++Z c else Z j
theorem Sep.all(H:Sep Ω Z)(b:Ω.length<=av.length)(c):Sep av (xH Z c Ω.length av.length):=H.step b (λj e=>if_neg e) λa d=>by
 rw[show xH Z c _ _ c=_ from if_pos rfl]at d
 rcases Ô.mp d with h|h
 .simp_all
 .exact⟨.inl h,M' (H.lt c a h) b⟩
theorem dJ(h:n<=b/\b<m):b∈xH Z Ja n m Ja:=by
 rw[show xH Z Ja n m Ja=_ from if_pos rfl]
 exact Ė _ (sU.mpr h)
theorem dZ{j}(h:b∈Z j):b∈xH Z Ja n m j:=by
 unfold xH
 grind
theorem Sep.mono(H:Sep Ω Z)(h:∀c,∀a∈Z' c,a∈Z c):Sep Ω Z':=⟨λi a b=>H.lt i a (h i a b),λi j d a b e=>H.dj i j d a (h i a b) (h j a e)⟩
abbrev rp(n:Nat):az:=Ŕ n (.dK [])
theorem Sep.jz(H:Sep (rp n) Z)(h:n<=m)(c):Sep (rp m) (xH Z c n m):=by
 have:=H.all (av:=rp m) (by simp_all) c
 simp_all
def FN:=(mN cz (af (mN cz aj) aj))
def Oe(F0 F:List D->Out Rs)(PO b a d CM e c f g h i):=
 (ag (aR 1 (mN (bw PO) (af (ae 0) aj)))
 (ag (aR 2 (mN (bw b) (af NZ aj)))
 (ag (aR 3 (mN cz (af (mN (ey "Things" a) (af (ae 2) aj)) (af (mN (ey "Things" a) (af (ae 2) aj)) (af (mN (ey "Things" a) (af (mN (bw b) (af NZ aj)) aj)) aj)))))
 (ag (aR 4 (mN cz (af ck (af ck (af ck aj)))))
 (ag (aR 5 (mN cz (af FN (af FN (af FN aj)))))
 (ag (dw (cF 6) (fP (af (au (.int 36)) aj)) (Tb F0 F d CM e c))
 (z67 f c g h i)))))))
abbrev YO(b a):=aH 3 1 (VF (aH 2 2 (RX b (aH 2 2 OM))) (aH 4 4 (M_ a (aH 3 2 FI))) a)
abbrev VP:=aH 2 2 (VG (aH 1 1 RY))
abbrev iE0(sc:List Int)(a b c a4 d:Option D):aZ:=[some (SC sc),a,b,c,a4,d,none,none,none,none,none,none,none]
theorem Q5.new{t m}(W:Tn Ω b t w ζ m A0 [] [[]])(a:Ω[B1]?=some (.dK []))(h:A0<B1):Q5 Ω ⟨[],[],Ω.length,b,t,w,ζ,m,A0,B1⟩ [[]] [] l:=
 ⟨⟨W,.inl a,by simp,by simp,by simp[ads],by simp[ads],⟨h,aX a⟩,O' _,⟨æ _,by simp⟩,by simp⟩,rfl,by simp,by simp⟩
theorem xI{t m}(W:Tn Ω b t w ζ m A0 [] [[]])(c:o4∈VN ⟨[],[],E1,b,t,w,ζ,m,A0,B1⟩ []):(b<=o4/\o4<Ω.length)\/o4=B1:=by
 have a:=W.lt;have d:=aX W.dk;replace c:o4∈[b,w,ζ,m,A0,B1]:=c;simp only[È,Ĳ,or_false]at c;have e:=Â a.2.2.2 d;have f:=Â a.2.2.1 e;have g:=Â a.2.1 f;have i:=Â a.1 a.2.1;have j:=Â i a.2.2.1;rcases c with h|h|h|h|h|h
 .exact .inl ⟨R' h.symm,h▸Â a.1 g⟩
 .exact .inl ⟨h▸ß a.1,h▸g⟩
 .exact .inl ⟨h▸ß i,h▸f⟩
 .exact .inl ⟨h▸ß j,h▸e⟩
 .exact .inl ⟨h▸ß (Â j a.2.2.2),h▸d⟩
 .exact .inr h
theorem Tj:∃av,(∀{a},(mN cz (af ck (af ck (af ck aj)))) a Ω=.ok (.ref (Ω.length+3)) av)/\ao [] Ω av/\av.length=Ω.length+4/\av[Ω.length]?=some (.dK [])/\av[Ω.length+1]?=some (.dK [])/\av[Ω.length+2]?=some (.dK [])/\av[Ω.length+3]?=some (.lst [.ref Ω.length,.ref (Ω.length+1),.ref (Ω.length+2)]):=
 ⟨Ω++[.dK [],.dK [],.dK [],.lst _],by simp[ck,bP],ao.app,by simp,aN,gN,gN,gN⟩
theorem To:∃av,(∀{a},(mN cz (af FN (af FN (af FN aj)))) a Ω=.ok (.ref (Ω.length+6)) av)/\ao [] Ω av/\av.length=Ω.length+7/\Rw av (Ω.length+1) [Ω.length] [[]]/\Rw av (Ω.length+3) [Ω.length+2] [[]]/\Rw av (Ω.length+5) [Ω.length+4] [[]]/\av[Ω.length+6]?=some (.lst [.ref (Ω.length+1),.ref (Ω.length+3),.ref (Ω.length+5)]):=
 ⟨Ω++[.lst [],.lst _,.lst [],.lst _,.lst [],.lst _,.lst _],by simp[FN,bP],ao.app,by simp,⟨gN,.cons (show _=some _ from aN) .nil⟩,⟨gN,.cons (show _=some _ from gN) .nil⟩,⟨gN,.cons (show _=some _ from gN) .nil⟩,gN⟩
theorem Of(O:jk (λK k=>K.getD k 0) F0)(hN:E_ NT)(hw:Bf IN)(hA:sS AD)(kk:∀X S t bq pq cq F G H L av,FK X bq pq cq F G H L->Iv av X S t 0->(∀c,(ag (aR 1 (mN (bw (aH 4 1 (S_ F0 NT))) (af (ae 0) aj)))
 (ag (aR 2 (mN (bw (YO IN AD)) (af NZ aj)))
 (ag (aR 3 (mN cz (af (mN (ey "Things" VP) (af (ae 2) aj)) (af (mN (ey "Things" VP) (af (ae 2) aj)) (af (mN (ey "Things" VP) (af (mN (bw (YO IN AD)) (af NZ aj)) aj)) aj)))))
 (ag (aR 4 (mN cz (af ck (af ck (af ck aj)))))
 (ag (aR 5 (mN cz (af FN (af FN (af FN aj)))))
 c))))) (iE0 sc none none none none none) []=c (wE sc F G H t bq pq cq none none none none none none none) av)->T4):T4:=by
 obtain⟨K,P,L,F,G,H,Q,e1,n1,R,w1,⟨M,wn⟩,vn,T,vw,ln,U,lw⟩:=Ta (a:=[]) (F6:=sc) O hN;refine bQ (Kv hw hA R M (by omega) T) λo s e2 V Y Z=>?_
 refine xe (wX (a:=s) (b:=o.t)) λs0 f=>bp f λr0 m0 d0 u e3 N3 K3=>?_
 refine xe (wX (a:=u) (b:=o.t)) λs1 f=>bp f λr1 m1 d1 a0 e4 N4 N=>?_
 refine bQ (Kv (a:=a0) hw hA (N.g (K3.g (Y.g R))) M (by omega) T) λz w e5 T2 K5 b0=>?_
 refine xe (wX (a:=w) (b:=z.t)) λs2 f=>bp f λr2 m2 d2 A e6 N6 K6=>?_
 refine ay (kA (lN (q:=[.ref s.length,.ref u.length,.ref w.length]) (a:=A))) λe e7 K7 g7=>?_
 refine ay (Tj (Ω:=e)) λd e8 K8 f=>fK f λl8 p0 p1 p2 p3=>?_
 refine ay (To (Ω:=d)) λj e9 y f=>fK f λl9 c0 c1 c2 c3=>?_
 have I:=K8.trans y;have B:=K7.trans I;have C:=(K5.trans K6).trans B;have J:=(K3.trans N).trans C;have D:=Y.trans J;have x3:=aX N3.dk;have x4:=aX N4.dk;have x6:=aX N6.dk;have k7:=aX g7;have k4:=N.len;have k5:=K5.len;have k6:=K6.len;rw[U]at V T2
 let X:Cs:=⟨[(A.length,.lst [.ref s.length,.ref u.length,.ref w.length]),(e.length+3,.lst [.ref e.length,.ref (e.length+1),.ref (e.length+2)]),(d.length+6,.lst [.ref (d.length+1),.ref (d.length+3),.ref (d.length+5)]),(F,.lst (K.map .str)),(G,.lst (P.map .str)),(H,.lst (L.map .str))],tri (d.length+1) (d.length+3) (d.length+5),tri ⟨[],[],j.length,s.length,o.t,s0,r0,m0,d0,e.length⟩ ⟨[],[],j.length,u.length,o.t,s1,r1,m1,d1,e.length+1⟩ ⟨[],[],j.length,w.length,z.t,s2,r2,m2,d2,e.length+2⟩,K,P⟩
 let S:hF:=⟨λ_=>[[]],λ_=>[],λ_=>[[]],tri [d.length] [d.length+2] [d.length+4],o,z,P,3⟩
 have sp:Sep j (zs X S):=by
  have A1:Sep (rp 0) λ_=>[]:=⟨by simp,by simp⟩
  have A2:=((((((A1.jz (m:=Q.length) (æ _) .cn).jz Y.len .t1).jz K3.len (.th 0)).jz k4 (.th 1)).jz k5 .t2).jz k6 (.th 2)).jz K7.len .cn;have A3:=((((A2.jz (m:=e.length+1) (ó _ _) (.th 0)).jz (m:=e.length+2) (ã _) (.th 1)).jz (m:=e.length+3) (ã _) (.th 2)).jz (m:=d.length) (ß (qP p3)) .cn);have A4:=((A3.jz (m:=d.length+2) (ó _ _) (.cm 0)).jz (m:=d.length+4) (by omega) (.cm 1)).jz (m:=d.length+6) (by omega) (.cm 2)
  have A5:=A4.jz (m:=j.length) (ß (qP c3)) .cn;have A6:=Sep.mono (Z':=zs X S) A5 λc a l=>?_
  .exact⟨λi a l=>by have:=A6.lt i a l;simpa using this,A6.dj⟩
  .have r:∀{n a:Nat},a=n->n<=a/\a<n+1:=λh=>h▸⟨O' _,ϓ _⟩
   cases c with
   |th i=>
    match i with
    |0=>
     rcases xI N3 l with h|h
     .iterate 12 refine dZ ?_
      exact dJ h
     .iterate 7 refine dZ ?_
      exact dJ (r h)
    |1=>
     rcases xI N4 l with h|h
     .iterate 11 refine dZ ?_
      exact dJ h
     .iterate 6 refine dZ ?_
      exact dJ (r h)
    |2=>
     rcases xI N6 l with h|h
     .iterate 9 refine dZ ?_
      exact dJ h
     .iterate 5 refine dZ ?_
      exact dJ (r h)
   |t1=>
    iterate 13 refine dZ ?_
    exact dJ ⟨Z a l,V.lt a l⟩
   |t2=>
    iterate 10 refine dZ ?_
    exact dJ ⟨b0 a l,T2.lt a l⟩
   |cm i=>
    have E:∀{n a:Nat},a∈[n+1,n]->n<=a/\a<n+2:=λh=>by
     simp at h;omega
    match i with
    |0=>
     iterate 3 refine dZ ?_
     exact dJ (E l)
    |1=>
     iterate 2 refine dZ ?_
     exact dJ (E l)
    |2=>
     iterate 1 refine dZ ?_
     exact dJ (E l)
   |cn=>
    simp only[zs,X,Ü,afU,È,Ĳ,or_false]at l;rcases l with h|h|h|h|h|h
    .iterate 8 refine dZ ?_
     exact dJ ⟨R' h.symm,h▸k7⟩
    .iterate 4 refine dZ ?_
     exact dJ (by rw[l8];exact r h)
    .exact dJ (by rw[l9];exact r h)
    all_goals
     iterate 14 refine dZ ?_
     exact dJ ⟨æ _,by grind⟩
 have W:Wd j X S:=by
  refine⟨λc=>?_,sp,⟨rfl,rfl,rfl⟩,λi=>by match i with|0=>exact⟨rfl,rfl⟩|1=>exact⟨rfl,rfl⟩|2=>exact⟨rfl,rfl⟩⟩
  cases c with
  |th i=>
   match i with
   |0=>exact Q5.new (N3.aU (N.trans C)) (y.g p0) (by omega)
   |1=>exact Q5.new (N4.aU C) (y.g p1) (by omega)
   |2=>exact Q5.new (N6.aU B) (y.g p2) (M' (Â x6 k7) (ó _ _))
  |t1=>exact V.keep J (by simp)
  |t2=>exact T2.keep (K6.trans B) (by simp)
  |cm i=>
   match i with
   |0=>exact c0
   |1=>exact c1
   |2=>exact c2
  |cn=>
   intro p hp;simp only[X,È,Ĳ,or_false]at hp;rcases hp with rfl|rfl|rfl|rfl|rfl|rfl
   .exact⟨I.g g7,by simp⟩
   .exact⟨y.g p3,by simp⟩
   .exact⟨c3,by simp⟩
   .exact⟨D.g n1,by simp⟩
   .exact⟨D.g R,by simp⟩
   .exact⟨D.g w1,by simp⟩
 refine kk X S o.t A.length (e.length+3) (d.length+6) F G H L j ⟨by simp[X];exact .inl ⟨rfl,rfl,rfl⟩,by simp[X];exact .inr (.inl ⟨rfl,rfl,rfl⟩),by simp[X];exact .inr (.inr (.inl ⟨rfl,rfl,rfl⟩)),by simp[X],by simp[X],by simp[X],vn,T,vw,ln,U,lw,M,wn⟩ ⟨W,λi=>?_,rfl,rfl,M,U,λx hx=>hx,rfl,λi=>by simp[S],λi=>by simp[S]⟩ (λc=>?_)
 .match i with
  |0=>exact⟨_,y.g p0⟩
  |1=>exact⟨_,y.g p1⟩
  |2=>exact⟨_,y.g p2⟩
 .exact(qA (eC rfl e1)).trans ((qA (eC (eK (tp rfl) rfl) e2)).trans ((qA (eN (eK (eN rfl e3) (eK (eN rfl e4) (eK (eN (eK (eC (eK (tp rfl) rfl) e5) rfl) e6) rfl))) e7)).trans ((qA e8).trans (qA e9))))
theorem FF(f:jk (λu k=>u.getD k 0) F0)(h:jX μ F)(w:E_ NT)(x:Bf IN)(o:sS AD)(y:iv CK)(z:Fp CX)(A:gb IS)(q:cZ TH)(r:eH SO)(g:kz WO)(C:iV GR)(D:jw WI):
  ∃av,aH 13 1 (Oe F0 F (aH 4 1 (S_ F0 NT)) (YO IN AD) VP (Sk F IS TH SO GR WI CK AL) (fC (aH 5 2 SV)) (SW DP HD IS TH SO WO GR WI CK CX TI AD) (Nw TH WO SO) (aH 1 1 Ob) (aH 1 1 (OS (aH 1 1 FL))) (aH 1 1 FL) (aH 1 1 Te)) [SC sc] []=.ok (.bl true) av:=by
 refine Of (sc:=sc) f w x o λX S t E G I J K L U M B H e=>?_
 obtain⟨_,a,eL,s,i,j,l,m,b,c,d,rfl,n⟩:=lpR (D3:=fP (af (au (.int 36)) aj)) (G7:=cF 6) (λk N a=>∃S i j l m b c d,N=wE sc J K L t E G I i j l m b c d/\Iv a X S t k) rfl (by
  rintro k _ a O ⟨S,i,j,l,m,b,c,d,rfl,n⟩;refine Oa (p:=AL) (Aa:=DP) (Ba:=HD) (E9:=TI) f h A q r g C D y z o B n O λs V Y Z P Q e R=>⟨_,_,_,rfl,e,s,_,_,_,_,_,_,_,rfl,R⟩) ⟨S,_,_,_,_,_,_,_,rfl,H⟩ (by decide)
 obtain⟨av,T⟩:=Od q r g B n;exact⟨_,(eG rfl).trans ((congrArg _ ((e _).trans (eL _))).trans T)⟩
end
end Mir
namespace Mir
open PySem PySem.Spec PyProof.Rows L2
structure fY(K:K')(C:b')(x qual:Str)(st:J')(f:b')(fd:Y'):Prop where
 me:Meth K C x f
 fn:Bq K x qual st f fd
variable{A7:Array (Option f')}{B h:Str}{D6 Q7:Option b'}{G8 M7 R4 U i8 j8:f'}{N j:b'}{O:K'}{Θ:J'}
theorem vm(a:Å O (.ref j) h=some (some (.ref N)))(l:O.lookup N=some ⟨U,D6,.func (Õ h B (bA Θ) (aO Θ) (ai Θ) .none R4 M7 i8 Q7 j8 G8),A7⟩)(c:Ĉ O j8 B=true)(k:Ú O (.ref N)=true)(i:Ų O (.ref N)=true):fY O j h B Θ N (Õ h B (bA Θ) (aO Θ) (ai Θ) .none R4 M7 i8 Q7 j8 G8):=⟨⟨a,i,k⟩,rA l c k⟩
variable [kU]
variable{J0:Y'}
theorem dz(F:Bq O h B Θ j J0):wU O h B Θ .none j J0:=⟨F.ex,F.kp⟩
variable{I:Á}{L o6:I'}{M:W'}{M0 l u8:List Str}{b:Nat}{Δ:Str->Option f'}{ε:SM}{ς:aA}
def aG.YP(W:aG I M O Δ L ς b)(X:O.In o6)(G:o6.Ns Í Δ)(a:iu O h Θ j J0)(f:fv l M0 (ai Θ)=true)(g:yU ς u8 Θ l=some ε)(i:∀kV c k m d ct e,e.length=M0.length->Œ (Õ h h (bA Θ) (aO Θ) (ai Θ) .none kV c k m d ct) ⟨e,[]⟩=pure (M0.zip e)):=W.dv (Ï X G a.ns) a.fn.kp (a.fn.binds i) (sQ W (dz a.fn) f g)
variable{P4:Str}
def aG.YQ(W:aG I M O Δ L ς b)(f:Δ P4=some (.ref j))(g:mX O j)(a:fY O j h B Θ N J0)(i:fv l M0 (ai Θ)=true)(k:yU ς u8 Θ l=some ε)(m:∀kV c n o d ct e,e.length=M0.length->Œ (Õ h B (bA Θ) (aO Θ) (ai Θ) .none kV c n o d ct) ⟨e,[]⟩=pure (M0.zip e)):=W.bS f g a.me (a.fn.binds m) (sQ W (dz a.fn) i k)
abbrev fb(K C x qual st):=∃f a,fY K C x qual st f a
abbrev iA(K x st):=∃f a,iu K x st f a
structure KQ(K:K')(C:Str)(a:b'):Prop where
 ns:ë K Í C=some (some (.ref a))
 pg:acz K a ad6=true
 hd:Ű K a=true
 po:acs K a=true
 sa:Å K (.ref a) "__setattr__"=some (some (.builtin "object.__setattr__"))
 ma:acw K a=true
 kc:Ú K (.ref a)=true
theorem KQ.cl(c:KQ O h j):mX O j:=⟨c.pg,c.hd,c.po,c.sa⟩
variable{E3:Type}
theorem u1{P:List E3->Prop}(a)(b:a.length=1)(h:∀x,P [x]):P a:=by
 cases a with
 |nil=>cases b
 |cons x a=>
  cases a with
  |nil=>exact h x
  |cons _ _=>cases b
theorem u2{P:List E3->Prop}(a)(b:a.length=2)(h:∀x y,P [x,y]):P a:=by
 cases a with
 |nil=>cases b
 |cons x a=>exact u1 (P:=λa=>P (x::a)) a (aci b) (h x)
theorem u3{P:List E3->Prop}(a)(b:a.length=3)(h:∀x y z,P [x,y,z]):P a:=by
 cases a with
 |nil=>cases b
 |cons x a=>exact u2 (P:=λa=>P (x::a)) a (aci b) (h x)
theorem u4{P:List E3->Prop}(a)(b:a.length=4)(h:∀x y z w,P [x,y,z,w]):P a:=by
 cases a with
 |nil=>cases b
 |cons x a=>exact u3 (P:=λa=>P (x::a)) a (aci b) (h x)
theorem u5{P:List E3->Prop}(a)(b:a.length=5)(h:∀x y z w v,P [x,y,z,w,v]):P a:=by
 cases a with
 |nil=>cases b
 |cons x a=>exact u4 (P:=λa=>P (x::a)) a (aci b) (h x)
variable{E8:f'->f'->f'->Option b'->f'->f'->List f'->Prop}
def tB(h:∀a b c d e f x,E8 a b c d e f [x]):=λa b c d e f g i=>u1 g i (h a b c d e f)
def lx(h:∀a b c d e f x y,E8 a b c d e f [x,y]):=λa b c d e f g i=>u2 g i (h a b c d e f)
def FO(h:∀a b c d e f x y z,E8 a b c d e f [x,y,z]):=λa b c d e f g i=>u3 g i (h a b c d e f)
def YR(h:∀a b c d e f x y z w,E8 a b c d e f [x,y,z,w]):=λa b c d e f g i=>u4 g i (h a b c d e f)
def bd5(h:∀a b c d e f x y z w v,E8 a b c d e f [x,y,z,w,v]):=λa b c d e f g i=>u5 g i (h a b c d e f)
structure Df(T:aA)(st:J')(N:List Str)(n:Nat)(c:SM):Prop where
 s:(fv N (N.take n) (ai st)&&(N.take n).length==n)=true
 k:yU T [] st N=some c
theorem Df.sc(d:Df ς Θ l b ε):fv l (l.take b) (ai Θ)=true:=(û.mp d.s).1
theorem Df.ln(d:Df ς Θ l b ε):(l.take b).length=b:=eq_of_beq (û.mp d.s).2
variable{w:Nat}
theorem aG.dF(W:aG I M O Δ L ς b)(X:O.In o6)(G:o6.Ns Í Δ)(a:iA O h Θ)(d:Df ς Θ l w ε)(m:∀kV i n o j ct g,g.length=w->Œ (Õ h h (bA Θ) (aO Θ) (ai Θ) .none kV i n o j ct) ⟨g,[]⟩=pure ((l.take w).zip g)):
  aG I M O Δ L (ς.dv h (aH l.length w ε)) (b+1):=by
 obtain⟨_,_,a⟩:=a;have:=W.YP X G a d.sc d.k λa c ε p e f g o6=>m a c ε p e f g (o6.trans d.ln)
 rwa[d.ln]at this
theorem aG.dM(W:aG I M O Δ L ς b)(o:Δ P4=some (.ref j))(p:mX O j)(a:fb O j h B Θ)(d:Df ς Θ l w ε)(q:∀kV m r s n ct i,i.length=w->Œ (Õ h B (bA Θ) (aO Θ) (ai Θ) .none kV m r s n ct) ⟨i,[]⟩=pure ((l.take w).zip i)):
  aG I M O Δ L (ς.bS P4 h (aH l.length w ε)) (b+1):=by
 obtain⟨_,_,a⟩:=a;have:=W.YQ o p a d.sc d.k λa c ε t e f i g=>q a c ε t e f i (g.trans d.ln)
 rwa[d.ln]at this
theorem Df.ok(d:Df ς Θ l w ε)(W:aG I M O Δ L ς b)(F:wU O h B Θ U j J0):bW I M O Δ L fH (b+1) j J0 (l.take w) (c_ (cJ Δ) (aH l.length w ε)):=by
 have:=sQ W F d.sc d.k;rwa[d.ln]at this
variable{C:aK}{P o:T'}{Q:List A'}{S:List V}{c:Cx}{i:Str->b'->Prop}{j0:List f'}{n:A'}{q:List D}{u:iS}{u0:AM}
theorem Bn(F1:bW c.prog c.w c.K c.mg c.base fH b j J0 l (c_ i C))(m:cu b c.A)(p:Gl c h)(r:c.mg h=some (.ref j))(s:Ú c.K (.ref j)=true)(t:Binds c.K J0 l j0)(x:Vals S j0)(y:∀α Z H,aE (aq α Z H) q S)(d:(h==("__debug__"))=false)(z:D' (n::Q) c.env=(false,eval n c.env)::D' Q c.env)(e:(À P (D' Q c.env)).any (·.1)=false)(B:rV c i u (n::Q) u0):
  bt c i u (.Call (.Name h o) (n::Q) [] P) (mN (λxs Ω=>bw C (xs++q) Ω) u0):=by
 intro f D E F Ω;refine PE.imp (rh F1 m p r s t x lF (B f D E F Ω) d z e) ?_;rintro O H k ⟨α,Z,a,g⟩;refine⟨α,Z,a,pv.use g λxs G _ R T I J U L M N=>⟨_,J,_,_,L,M.append (y _ _ _),bT.ok0 N⟩⟩
def rowOf(st:J')(i:Nat)(f:Str):tY:=match (aO st).getD i (.Pass ⟨0,0,0,0⟩)with
 |.Assign [.Attribute (.Name _ a) _ b] v c=>⟨f,v,a,b,c⟩
 |_=>⟨f,.Constant .none 0 ⟨0,0,0,0⟩,⟨0,0,0,0⟩,⟨0,0,0,0⟩,⟨0,0,0,0⟩⟩
structure XCA(K:K')(x qual:Str)(st:J')(C N f c:b')(fd:Y'):Prop where
 a:ë K Í x=some (some (.ref C))
 cl:pk K C N f
 fn:Bq K "__init__" qual st f fd
 cv:fd.code=.ref c
 is:Uh K C
variable{H:Bool}{Ia:ClassData}{P1 ω:b'}{Q6 Q8 R8 S8 T8:Option f'}{R6 g9:List f'}{Z8:Option Bool}{n8:Str}
theorem Og(b:ë O Í h=some (some (.ref j)))(c:O.lookup j=some (Ş P4 n8 j N j0 R6 true l g9 H Z8 D6 Q6 Q8 R8 S8 T8 "ValueError.__new__"))(nC:ë O N "__init__"=some (some (.ref ω)))(tC:ub O R6=true)(xa:PySem.W.clsIn O j=some Ia)(d:gC Ia.mro=true)(e:Ia.hasDict=true)(f:Å O (.ref j) "__setattr__"=some (some (.builtin "object.__setattr__")))(xe:Å O (.ref j) "__getattribute__"=some (some (.builtin "BaseException.__getattribute__")))(g:Å O (.ref j) "__getattr__"=some none)(i:ŵ O j (.type "BaseException")=some true)(k:Ű O j=true)(m:Ui O N "__init__"=some (some (.ref ω)))(n:Ú O (.ref j)=true)(o:acx O (.ref ω)=some (.type "function")){a}(p:O.lookup ω=some ⟨U,Q7,.func (Õ "__init__" B (bA Θ) (aO Θ) (ai Θ) .none R4 M7 i8 a (.ref P1) j8),A7⟩)(q:Ĉ O (.ref P1) B=true)(r:Ú O (.ref ω)=true)(s:Å O (.ref j) "__class__"=some (some (.builtin "object.__class__")))(t:Ŵ O (.builtin "object.__class__") "__get__"=some (some (.builtin "getset_descriptor.__get__")))(u:acB O (.builtin "object.__class__")=some true)(w:ŵ O j (.type "object")=some true):XCA O h B Θ j N ω P1 (Õ "__init__" B (bA Θ) (aO Θ) (ai Θ) .none R4 M7 i8 a (.ref P1) j8):=
 ⟨b,⟨⟨_,_,_,_,_,_,_,_,_,_,_,_,_,_,c,xZ tC⟩,⟨_,xa,d,e⟩,f,⟨xe,g,i⟩,k,JI m,n,o⟩,rA p q r,rfl,⟨s,t,u,w⟩⟩
end Mir
namespace YS
open PySem PySem.Spec PyProof.Rows L2 Mir
noncomputable def top(i:Nat):=PySem.Challenge.pw_taglook_k67_things_apart.main.body.getD i (.Pass ⟨0,0,0,0⟩)
instance clos:kU:=⟨λ_=>⟨"","",bA (top 0),[],ai (top 0),[],[]⟩,λ_=>0⟩
noncomputable def td:List Str:=[]
def YT:=(((((((((((((((((((((((((({}:aA).gZ "_law_silent" (.dct [] [])).gZ "DEEPEST" (.int 8)).gZ "MOST_OWN_WORDS" (.int 12)).gZ "MOST_THINGS" (.int 40)).gZ "MOST_ELDERS" (.int 5)).gZ "MOST_KINDS" (.int 12)).gZ "MOST_LETTERS" (.int 8)).gZ "LETTERS" (.str "abcdefghijklmnopqrstuvwxyz")).dc "elders" ["House"]).dc "lines" ["House"]).dc "house" ["Town"]).dc "facts" ["Town"]).dc "tags" ["Town"]).dc "last_deed" ["Town"]).dc "teller" ["Facts"]).dc "strengths" ["Facts"]).dc "asked" ["Facts"]).dc "rows" ["Shapes"]).dc "numbers" ["Shapes"]).dc "kind" ["Thing"]).dc "shape" ["Thing"]).dc "slots" ["Thing"]).dc "town" ["Things"]).dc "shapes" ["Things"]).dc "made" ["Things"])
def OP0:=aH 2 2 oM
def F0:=pureOf OP0
def YU:=YT.Bb "_law_cell" F0
theorem sP0:Df YT (top 51) ["_law_script","_law_k"] 2 oM:=⟨by decide +kernel,rfl⟩
def OP1:=aH 8 3 qG
def F1:=pureOf OP1
def UP2:=YU.Bb "_law_mix" F1
theorem sP1:Df YU (top 52) ["_law_cell_here","_law_turn","_law_many","_law_rest","_law_k","_law_turns","_law_one","_law_two"] 3 qG:=⟨by decide +kernel,rfl⟩
def U0:=UP2
def O0:=aH 2 2 NC
def U1:=U0
def fN:List (Str×EM):=[("name",VI O0)]
theorem so0:Df U0 (top 3) ["thing","depth"] 2 NC:=⟨by decide +kernel,rfl⟩
def O1:=aH 1 1 X_
def U2:=U1.dv "is_name" O1
theorem so1:Df U1 (top 19) ["thing"] 1 X_:=⟨by decide +kernel,rfl⟩
def O2:=aH 4 2 Rn
def U3:=U2.dv "place_behind" O2
theorem so2:Df U2 (top 39) ["left","name","place","row"] 2 Rn:=⟨by decide +kernel,rfl⟩
def O3:=aH 2 1 (Ro O2)
def U4:=U3.dv "free_name" O3
theorem so3:Df U3 (top 38) ["left","row"] 1 (Ro O2):=⟨by decide +kernel,rfl⟩
def O4:=aH 4 1 (MK bF O3)
def U5:=U4.dv "merged" O4
theorem so4:Df U4 (top 37) ["rows","left","order","name"] 1 (MK bF O3):=⟨by decide +kernel,rfl⟩
def O5:=aH 2 2 Vx
def U6:=U5.dv "ready_kinds" O5
theorem so5:Df U5 (top 34) ["elders","order"] 2 Vx:=⟨by decide +kernel,rfl⟩
def O6:=aH 3 1 (Vy O5)
def U7:=U6.dv "elders_first" O6
theorem so6:Df U6 (top 33) ["elders","order","ready"] 1 (Vy O5):=⟨by decide +kernel,rfl⟩
def d7:=cLo O6
 (ag (aR 4 (mN cz aj))
 (ag (aR 2 (m2 bc (ae 3) (au (.int 0))))
 (ag (DL (m2 (aJ .NotIn) (ae 2) (ae 4))
 (ag (cA (dH sg dU (ae 4) (af (ae 2) aj)))
 (ag (aR 2 (m2 bc (cD (ae 0) false (m2 (aJ .In) (ae 0) (ae 1)) (cf (m2 bc (ae 0) (ae 2))) 0 [3]) (au (.int 0))))
 ah)))
 (ag (bj (fJ (ae 4) false (d8 (dH sg ip (ae 4) (af (ae 2) aj)) (dH wB oq (ae 4) (af (ae 2) aj))) true (au .non)))
 ah))))
def O7:=aH 5 1 d7
def U8:=U7.dv "loop_of" O7
theorem so7:Df U7 (top 35) ["elders","order","name","left","met"] 1 d7:=⟨by decide +kernel,rfl⟩
def O8:=aH 2 2 XX
def U9:=U8.dv "rows_by" O8
theorem so8:Df U8 (top 43) ["lines","own_elders"] 2 XX:=⟨by decide +kernel,rfl⟩
def O9:=fC (aH 6 1 (XZ O7 O6 O4 O8))
def YV:=U9.dv "lines_of" O9
theorem so9:Df U9 (top 42) ["elders","ring","lines","tangles","name","refusal"] 1 (XZ O7 O6 O4 O8):=⟨by decide +kernel,rfl⟩
def Tp:=aH 1 1 Yb
def U11:=YV.bS "House" "__init__" Tp
theorem YW:Df YV (inClass (top 47) 0) ["self"] 1 Yb:=⟨by decide +kernel,rfl⟩
def YX:=U11.km "House" Tp
def KR:=aH 1 1 VB
def VQ:=YX.bS "House" "kinds" KR
theorem YY:Df YX (inClass (top 47) 5) ["self"] 1 VB:=⟨by decide +kernel,rfl⟩
noncomputable def Tq:List Str:=["self","name"]
def FP:=aH 2 2 (VC KR)
def YZ:=VQ.bS "House" "check_kind" FP
theorem Tr:Df VQ (inClass (top 47) 11) ["self","name"] 2 (VC KR):=⟨by decide +kernel,rfl⟩
def Y_:={VQ with xt:=true}
def vo:=aH 2 2 (NF KR fN)
def Ts:=KC Y_ (ai (inClass (top 47) 11)) Tq "NoKind" 1 fN
theorem Tu:fQ (ml Ts Y_ td 60 (ai (inClass (top 47) 11)) Tq 30) (aO (inClass (top 47) 11))=some (NF KR fN):=rfl
def VR:=aH 4 2 (Ya FP)
def Za:=YZ.bS "House" "check_elders" VR
theorem Zb:Df YZ (inClass (top 47) 12) ["self","elders","place","elder"] 2 (Ya FP):=⟨by decide +kernel,rfl⟩
def VS:=aH 3 2 (Yd O9)
def Zc:=Za.bS "House" "settle" VS
theorem Zd:Df Za (inClass (top 47) 13) ["self","elders","lines"] 2 (Yd O9):=⟨by decide +kernel,rfl⟩
def Jv:=aH 5 4 (Ye O1 VR KR VS)
def Ze:=Zc.bS "House" "add" (λa=>Jv (a++[.non]))
theorem Zf:Df Zc (inClass (top 47) 1) ["self","name","elders","at","order"] 4 (Ye O1 VR KR VS):=⟨by decide +kernel,rfl⟩
def U18:={Ze with met:=Ze.met.filter λz=>z.1 != "add" }
def Zg:=U18.bS "House" "add" Jv
def KS:=aH 4 2 (SH FP)
def Zh:=Zg.bS "House" "drop" KS
theorem Zi:Df Zg (inClass (top 47) 2) ["self","name","kind","elders"] 2 (SH FP):=⟨by decide +kernel,rfl⟩
def VT:=aH 2 2 OM
def U21:=Zh.bS "Facts" "__init__" VT
theorem Zj:Df Zh (inClass (top 31) 0) ["self","teller"] 2 OM:=⟨by decide +kernel,rfl⟩
def VU:=U21.km "Facts" VT
noncomputable def Oh:List Str:=["self","kind"]
noncomputable def Zk:List Str:=["self","kind"]
def d22:=SJ
def O22:=aH 2 2 d22
def Zl:=VU.bS "Facts" "words_known" O22
theorem Zm:fv Oh Zk (ai (inClass (top 31) 6))=true:=by decide +kernel
def Zn:=Sz VU (ai (inClass (top 31) 6)) Oh
theorem Zo:fQ (ml Zn VU td 60 (ai (inClass (top 31) 6)) Oh 30) (aO (inClass (top 31) 6))=some d22:=rfl
def Tv:=aH 1 1 FL
def Zq:=Zl.bS "Facts" "reads" Tv
theorem Zr:Df Zl (inClass (top 31) 5) ["self"] 1 FL:=⟨by decide +kernel,rfl⟩
def VW:=aH 2 2 (RX Tp VT)
def U25:=Zq.bS "Town" "__init__" VW
theorem Zs:Df Zq (inClass (top 49) 0) ["self","teller"] 2 (RX Tp VT):=⟨by decide +kernel,rfl⟩
def Zt:=U25.km "Town" VW
def VX:=aH 3 2 FI
def Zu:=Zt.bS "Town" "count_deed" VX
theorem Zv:Df Zt (inClass (top 49) 15) ["self","touched","name"] 2 FI:=⟨by decide +kernel,rfl⟩
def TB:=aH 4 4 (M_ Jv VX)
def Zw:=Zu.bS "Town" "add" (λa=>TB (a++[.non]))
theorem Zx:Df Zu (inClass (top 49) 1) ["self","name","elders","at"] 4 (M_ Jv VX):=⟨by decide +kernel,rfl⟩
noncomputable def TC:List Str:=["self","name","word"]
noncomputable def Zy:List Str:=["self","name"]
def d28:=Yw KS O22 VX
def OT:=aH 3 2 d28
def Zz:=Zw.bS "Town" "drop" OT
theorem ZA:fv TC Zy (ai (inClass (top 49) 2))=true:=by decide +kernel
def ZC:=SA "forget"
theorem ZD:fQ (ml ZC Zw td 60 (ai (inClass (top 49) 2)) TC 30) (aO (inClass (top 49) 2))=some d28:=rfl
def ZE:=aH 1 1 (OS Tv)
def ZF:=Zz.bS "Town" "reads" ZE
theorem ZG:Df Zz (inClass (top 49) 13) ["self"] 1 (OS Tv):=⟨by decide +kernel,rfl⟩
def ZH:=aH 1 1 Te
def ZI:=ZF.bS "Town" "deeds" ZH
theorem ZJ:Df ZF (inClass (top 49) 10) ["self"] 1 Te:=⟨by decide +kernel,rfl⟩
def VY:=aH 1 1 RY
def U32:=ZI.bS "Shapes" "__init__" VY
theorem ZK:Df ZI (inClass (top 22) 0) ["self"] 1 RY:=⟨by decide +kernel,rfl⟩
def ZL:=U32.km "Shapes" VY
def OU:=aH 3 2 Yg
def ZM:=ZL.bS "Shapes" "number_of" OU
theorem ZN:Df ZL (inClass (top 22) 1) ["self","words","row"] 2 Yg:=⟨by decide +kernel,rfl⟩
def Bw:=aH 2 2 Yh
def ZO:=ZM.bS "Shapes" "words_of" Bw
theorem ZP:Df ZM (inClass (top 22) 2) ["self","number"] 2 Yh:=⟨by decide +kernel,rfl⟩
def VZ:=aH 3 3 (Yi OU Bw)
def ZQ:=ZO.bS "Shapes" "grown" VZ
theorem ZR:Df ZO (inClass (top 22) 3) ["self","number","word"] 3 (Yi OU Bw):=⟨by decide +kernel,rfl⟩
def V_:=aH 3 3 (Yj OU Bw)
def ZS:=ZQ.bS "Shapes" "without" V_
theorem ZT:Df ZQ (inClass (top 22) 4) ["self","number","word"] 3 (Yj OU Bw):=⟨by decide +kernel,rfl⟩
def KU:=aH 4 3 (Yk Bw)
def ZU:=ZS.bS "Shapes" "slot_of" KU
theorem ZV:Df ZS (inClass (top 22) 5) ["self","number","word","row"] 3 (Yk Bw):=⟨by decide +kernel,rfl⟩
def ZW:=aH 1 1 Ob
def ZX:=ZU.bS "Shapes" "many" ZW
theorem ZY:Df ZU (inClass (top 22) 6) ["self"] 1 Ob:=⟨by decide +kernel,rfl⟩
def Oi:=aH 2 2 OL
def U40:=ZX.bS "Thing" "__init__" Oi
theorem ZZ:Df ZX (inClass (top 26) 0) ["self","kind"] 2 OL:=⟨by decide +kernel,rfl⟩
def Z_:=U40.km "Thing" Oi
def Wa:=aH 2 2 (VG VY)
def U42:=Z_.bS "Things" "__init__" Wa
theorem aaa:Df Z_ (inClass (top 27) 0) ["self","town"] 2 (VG VY):=⟨by decide +kernel,rfl⟩
def U43:=U42.km "Things" Wa
def qO:=aH 2 2 VD
def Wb:=U43.bS "Things" "thing" qO
theorem aab:Df U43 (inClass (top 27) 11) ["self","name"] 2 VD:=⟨by decide +kernel,rfl⟩
noncomputable def TF:List Str:=["self","name","kind"]
def O44:=aH 3 3 (RV O1 FP Oi)
def U45:=Wb.bS "Things" "make" O44
theorem TJ:Df Wb (inClass (top 27) 1) ["self","name","kind"] 3 (RV O1 FP Oi):=⟨by decide +kernel,rfl⟩
def T44:={Wb with xt:=true}
def Oj:=aH 3 3 (xC O1 vo Oi)
def TK:=xv T44 (ai (inClass (top 27) 1)) TF "House" "check_kind" vo
theorem TL:fQ (ml TK T44 td 60 (ai (inClass (top 27) 1)) TF 30) (aO (inClass (top 27) 1))=some (xC O1 vo Oi):=rfl
def TM:=aH 6 4 (Bv O1 qO KU VZ)
def U46:=U45.bS "Things" "put" TM
theorem aac:Df U45 (inClass (top 27) 2) ["self","name","word","value","thing","slot"] 4 (Bv O1 qO KU VZ):=⟨by decide +kernel,rfl⟩
def TN:=aH 5 3 (EY qO KU V_)
def Wc:=U46.bS "Things" "take" TN
theorem aad:Df U46 (inClass (top 27) 3) ["self","name","word","thing","slot"] 3 (EY qO KU V_):=⟨by decide +kernel,rfl⟩
noncomputable def TQ:List Str:=["self","name","kind","thing"]
def TR:=aH 4 3 (Kr qO FP)
def U48:=Wc.bS "Things" "move" TR
theorem TU:Df Wc (inClass (top 27) 4) ["self","name","kind","thing"] 3 (Kr qO FP):=⟨by decide +kernel,rfl⟩
def T47:={Wc with xt:=true}
def Ol:=aH 4 3 (Bk qO vo)
def TV:=xv T47 (ai (inClass (top 27) 4)) TQ "House" "check_kind" vo
theorem TX:fQ (ml TV T47 td 60 (ai (inClass (top 27) 4)) TQ 30) (aO (inClass (top 27) 4))=some (Bk qO vo):=rfl
def OV:=aH 2 2 (Sf qO)
def U49:=U48.bS "Things" "drop" OV
theorem aae:Df U48 (inClass (top 27) 5) ["self","name"] 2 (Sf qO):=⟨by decide +kernel,rfl⟩
def O49:=aH 1 1 VH
def U50:=U49.bS "Things" "names" O49
theorem aaf:Df U49 (inClass (top 27) 6) ["self"] 1 VH:=⟨by decide +kernel,rfl⟩
def O50:=aH 2 2 (RM qO)
def U51:=U50.bS "Things" "kind_of" O50
theorem aag:Df U50 (inClass (top 27) 7) ["self","name"] 2 (RM qO):=⟨by decide +kernel,rfl⟩
def O51:=aH 2 2 (RN qO)
def U52:=U51.bS "Things" "shape_of" O51
theorem aah:Df U51 (inClass (top 27) 8) ["self","name"] 2 (RN qO):=⟨by decide +kernel,rfl⟩
def O52:=aH 3 3 (OK qO)
def U53:=U52.bS "Things" "value_at" O52
theorem aai:Df U52 (inClass (top 27) 9) ["self","name","slot"] 3 (OK qO):=⟨by decide +kernel,rfl⟩
def O53:=aH 3 2 (RR qO Bw)
def U54:=U53.bS "Things" "own" O53
theorem aaj:Df U53 (inClass (top 27) 10) ["self","name","thing"] 2 (RR qO Bw):=⟨by decide +kernel,rfl⟩
def O54:=aH 5 3 Ni
def U55:=U54.dv "_law_short" O54
theorem aak:Df U54 (top 53) ["_law_one","_law_other","_law_many","_law_names_here","_law_k"] 3 Ni:=⟨by decide +kernel,rfl⟩
def We:=aH 12 2 (Sb F1 O54)
def U56:=U55.dv "_law_names" We
theorem aal:Df U55 (top 54) ["_law_cell_here","_law_many","_law_letters","_law_stem","_law_turn","_law_names_here","_law_other","_law_size","_law_spot","_law_first","_law_step","_law_signs"] 2 (Sb F1 O54):=⟨by decide +kernel,rfl⟩
def O56:=aH 1 1 OQ
def U57:=U56.dv "_law_whole" O56
theorem aam:Df U56 (top 55) ["_law_found"] 1 OQ:=⟨by decide +kernel,rfl⟩
def O57:=aH 3 1 (VF VW TB Jv)
def U58:=U57.dv "_law_town" O57
theorem aan:Df U57 (top 57) ["_law_kinds","_law_town_here","_law_kind"] 1 (VF VW TB Jv):=⟨by decide +kernel,rfl⟩
def O58:=aH 1 1 OP
def U59:=U58.dv "_law_value" O58
theorem aao:Df U58 (top 58) ["_law_cell_here"] 1 OP:=⟨by decide +kernel,rfl⟩
def O59:=aH 12 4 (Yn F1 O58 O44 TM TN TR OV (Yv OT KS))
def U60:=U59.dv "_law_deed" O59
theorem aap:Df U59 (top 59) ["_law_things","_law_plain","_law_pools_here","_law_cell_here","_law_names_here","_law_kinds","_law_words","_law_name","_law_kind","_law_word","_law_way","_law_own"] 4 (Yn F1 O58 O44 TM TN TR OV (Yv OT KS)):=⟨by decide +kernel,rfl⟩
def O60:=aH 4 1 (S_ F0 We)
def U61:=U60.dv "_law_pools" O60
theorem aaq:Df U60 (top 60) ["_law_script","_law_names_here","_law_kinds","_law_words"] 1 (S_ F0 We):=⟨by decide +kernel,rfl⟩
def TY:=fC (aH 9 2 (Yp O49 O53 O50 O51 O56 Bw O52 KU))
def Wf:=U61.dv "_law_seen" TY
theorem aar:Df U61 (top 61) ["_law_things","_law_plain","_law_name","_law_row","_law_own","_law_shape","_law_slot","_law_word","_law_found"] 2 (Yp O49 O53 O50 O51 O56 Bw O52 KU):=⟨by decide +kernel,rfl⟩
def Om:List Str:=["_law_things","_law_name","_law_kind","_law_refused","e"]
noncomputable def aas:List Str:=["_law_things","_law_name","_law_kind"]
def d62:=VJ Ol
def O62:=aH 5 3 d62
def Wg:=Wf.dv "_law_no_kind" O62
theorem TZ:fv Om aas (ai (top 62))=true:=by decide +kernel
def aat:=xy Wf (ai (top 62)) Om "Things" "move" "NoKind" "name" Ol
theorem aau:fQ (ml aat Wf td 60 (ai (top 62)) Om 30) (aO (top 62))=some d62:=rfl
def Oo:List Str:=["_law_things","_law_kind","_law_refused","e"]
noncomputable def aav:List Str:=["_law_things","_law_kind"]
def d63:=SE Oj
def O63:=aH 4 2 d63
def U64:=Wg.dv "_law_not_made" O63
theorem T_:fv Oo aav (ai (top 63))=true:=by decide +kernel
def aaw:=xy Wg (ai (top 63)) Oo "Things" "make" "NoKind" "name" Oj
theorem aax:fQ (ml aaw Wg td 60 (ai (top 63)) Oo 30) (aO (top 63))=some d63:=rfl
def O64:=aH 8 4 (VM TM TN TR)
def U65:=U64.dv "_law_left" O64
theorem aay:Df U64 (top 64) ["_law_things","_law_plain","_law_kind","_law_other","_law_name","_law_there","_law_own","_law_word"] 4 (VM TM TN TR):=⟨by decide +kernel,rfl⟩
def O65:=fC (aH 8 5 (YH OV OT KS TY O62 O64 O63 TB Jv))
def U66:=U65.dv "_law_gone" O65
theorem aaz:Df U65 (top 65) ["_law_town_here","_law_both","_law_plains","_law_kind","_law_other","_law_things","_law_plain","_law_name"] 5 (YH OV OT KS TY O62 O64 O63 TB Jv):=⟨by decide +kernel,rfl⟩
def O66:=fC (aH 5 2 SV)
def U67:=U66.dv "_law_came" O66
theorem aaA:Df U66 (top 66) ["_law_cames","_law_plains","_law_came_here","_law_plain","_law_row"] 2 SV:=⟨by decide +kernel,rfl⟩
def Wh:=aH 13 1 (Oe F0 F1 O60 O57 Wa O59 O66 O65 TY ZW ZE Tv ZH)
theorem aaB:Df U67 (top 67) ["_law_script","_law_pools_here","_law_town_here","_law_both","_law_plains","_law_cames","_law_k","_law_cell_here","_law_at","_law_kind","_law_other","_law_things","_law_plain"] 1 (Oe F0 F1 O60 O57 Wa O59 O66 O65 TY ZW ZE Tv ZH):=⟨by decide +kernel,rfl⟩
theorem FG(g:List Int)(B:g.length<=63):∃av,Wh [.lst (g.map .int)] []=.ok (.bl true) av:=by
 obtain⟨z,c⟩:∃z,jX z F1:=IY;have h:jk (λg k=>g.getD k 0) F0:=ER
 have A:VA O4:=MO;have i:ML O5:=Rq;have d:IW O6:=Rr i;have j:MM O7:=Rt d;have l:Vz O8:=MN;have m:Yc O9:=IX (Rv j d A l);have n:Bf Tp:=RC;have b:EK KR:=Rz;have o:iv FP:=RA b;have p:Fp vo:=NG b ND;have q:MS VR:=RB;have r:EN VS:=RD m;have e:gb O1:=Rx;have s:sS Jv:=RE e q b r;have f:IZ OU:=RG;have a:kz Bw:=RH;have t:iV VZ:=RI f a;have u:jw V_:=RJ f a;have w:eH KU:=RK a;have x:cZ qO:=RL;have y:E_ We:=Sd c Nj;exact FF (AL:=Yv OT KS) (DP:=OV) (HD:=KS) (TI:=Oi) h c y n s o p e x w a t u
def stN:=inClass (top 7) 0
def rN1:=rowOf stN 0 "name"
theorem scN:fv ["self","name"] ["self","name"] (ai stN)=true:=by decide +kernel
variable{I:Á}{J0:Y'}{L:I'}{M:W'}{N j ω:b'}{O:K'}{b:Nat}{o9:Ò}{Δ:Str->Option f'}{ς:aA}
theorem veN(F:bW I M O Δ L fH b j J0 ["thing","depth"] (c_ (cJ Δ) O0))(n:Binds O J0 ["thing","depth"] [.int 0 o9])(o:Δ "own_copy"=some (.ref j))(p:Ú O (.ref j)=true)(W:aG I M O Δ L ς b):
    ∀d g f e i k,cu b (d.deeper (Ê "NoKind.__init__" (ai stN) f.heap.objs.size N (.ref ω)))->bt ((dh fH I M O Δ L ("self"::["name"]) "NoKind.__init__" (ai stN) N (.ref ω) d g f i k).lU.mk1 e) (cJ Δ) lR rN1.ve (VI O0):=by
  intro d g f e i k l;have a:aG I M O Δ L ({}:aA) b:=(aG.start W.cY).mono (æ b)
  have G:GoodO ((dh fH I M O Δ L ["self","name"] "NoKind.__init__" (ai stN) N (.ref ω) d g f i k).lU.mk1 e) (cJ Δ) {} b (ai stN) ["self","name"]:=
    { scope:=rfl,names:=rfl,calm:=rfl,room:=l,cY:=a.cY,fld:=a.fld,cst:=a.cst
      jo:=λx F h=>⟨a.jo x F h⟩,fn:=λx F h=>⟨a.fn x F h⟩,met:=λm C F h=>⟨a.met m C F h⟩,cls:=λC F h=>let ⟨c,r,s⟩:=a.cls C F h;⟨c,r,⟨s⟩⟩,clo:=a.clo }
  exact Bn (q:=[.int 0]) (S:=[.int 0]) F l rfl o p n (.cons ⟨o9,rfl⟩ .nil) (λ_ _ _=>.one (by simp only[aq])) rfl rfl rfl (nV ((fD 60 _ (ai stN) ["self","name"] _ (ae 1) G rfl).1 _) rX rfl)
set_option maxHeartbeats 0 in
variable{A7:Array (Option f')}{B7 M6 P1 m9 y4:b'}{D6 Q7:Option b'}{G8 M7 R4 U i8 j8:f'}{aa i0:Obj}{w ζ:Nat}
theorem all_mk(X:O.In L)(G:L.Ns Í Δ)(K5:Δ "law"=some (.ref j))(nb:yp O=true)(z0:ë O Í "LETTERS"=some (some (.str "abcdefghijklmnopqrstuvwxyz" o9))){q1:Ò}(z1:ë O Í "MOST_LETTERS"=some (some (.int 8 q1))){q2:Ò}(z2:ë O Í "MOST_KINDS"=some (some (.int 12 q2))){q3:Ò}(z3:ë O Í "MOST_ELDERS"=some (some (.int 5 q3))){q4:Ò}(z4:ë O Í "MOST_THINGS"=some (some (.int 40 q4))){q5:Ò}(z5:ë O Í "MOST_OWN_WORDS"=some (some (.int 12 q5))){q6:Ò}(z6:ë O Í "DEEPEST"=some (some (.int 8 q6)))(zS:ë O Í "_law_silent"=some (some (.ref N)))(a0:iu O "_law_cell" (top 51) ω J0){L5:Y'}(a1:iu O "_law_mix" (top 52) P1 L5)(e1:KQ O "House" y4)(f1:KQ O "Facts" M6)(g1:KQ O "Town" B7)(j1:KQ O "Shapes" m9){C4:b'}(n1:KQ O "Thing" C4){B:b'}(o1:KQ O "Things" B)(M5:Å O (.ref y4) "elders"=some none)(N5:Å O (.ref y4) "lines"=some none)(P5:Å O (.ref B7) "house"=some none)(R5:Å O (.ref B7) "facts"=some none)(S5:Å O (.ref B7) "tags"=some none)(T5:Å O (.ref B7) "last_deed"=some none)(W5:Å O (.ref M6) "teller"=some none)(Y5:Å O (.ref M6) "strengths"=some none)(Z5:Å O (.ref M6) "asked"=some none)(a6:Å O (.ref m9) "rows"=some none)(Z2:Å O (.ref m9) "numbers"=some none)(b3:Å O (.ref C4) "kind"=some none)(c3:Å O (.ref C4) "shape"=some none)(d3:Å O (.ref C4) "slots"=some none)(e3:Å O (.ref B) "town"=some none)(f3:Å O (.ref B) "shapes"=some none)(g3:Å O (.ref B) "made"=some none){T0:b'}{Z1:Ò}{u0:b'}(b6:ë O Í "own_copy"=some (some (.ref u0)))(c6:O.lookup u0=some ⟨U,D6,.func (Õ "own_copy" "own_copy" (bA (top 3)) (aO (top 3)) (ai (top 3)) (.ref T0) R4 M7 i8 Q7 j8 G8),A7⟩)(d6:Ĉ O j8 "own_copy"=true)(h3:Ú O (.ref u0)=true)(e6:O.lookup T0=some i0)(f6:i0.data=.seq #[.int 0 Z1] b)(g6:iA O "is_name" (top 19))(h6:iA O "place_behind" (top 39))(i6:iA O "free_name" (top 38))(j6:iA O "merged" (top 37))(k6:iA O "ready_kinds" (top 34))(l6:iA O "elders_first" (top 33))(m6:iA O "loop_of" (top 35))(n6:iA O "rows_by" (top 43)){o6:b'}{i3:Y'}(r1:iu O "lines_of" (top 42) o6 i3){j3:b'}{b2:Y'}(C:fY O y4 "__init__" "House.__init__" (inClass (top 47) 0) j3 b2)(l3:fb O y4 "kinds" "House.kinds" (inClass (top 47) 5)){m3:b'}{c2:Y'}(t:fY O y4 "check_kind" "House.check_kind" (inClass (top 47) 11) m3 c2)(n3:fb O y4 "check_elders" "House.check_elders" (inClass (top 47) 12))(o3:fb O y4 "settle" "House.settle" (inClass (top 47) 13)){v0:b'}{D:b'}{e2 Y:Option b'}{f2:Array (Option f')}{g2 Z c0 d0 u e0:f'}(C1:Å O (.ref y4) "add"=some (some (.ref D)))(p3:O.lookup D=some ⟨g2,e2,.func (Õ "add" "House.add" (bA (inClass (top 47) 1)) (aO (inClass (top 47) 1)) (ai (inClass (top 47) 1)) (.ref v0) Z c0 d0 Y u e0),f2⟩)(r3:Ĉ O u "House.add"=true)(w0:Ú O (.ref D)=true)(D1:O.lookup v0=some aa)(E1:aa.data=.seq #[.none] w)(s3:Ų O (.ref D)=true)(v3:fb O y4 "drop" "House.drop" (inClass (top 47) 2)){w3:b'}{j2:Y'}(F:fY O M6 "__init__" "Facts.__init__" (inClass (top 31) 0) w3 j2){x3:b'}{n2:Y'}(x0:fY O M6 "words_known" "Facts.words_known" (inClass (top 31) 6) x3 n2)(y3:fb O M6 "reads" "Facts.reads" (inClass (top 31) 5)){A3:b'}{r2:Y'}(J:fY O B7 "__init__" "Town.__init__" (inClass (top 49) 0) A3 r2)(B3:fb O B7 "count_deed" "Town.count_deed" (inClass (top 49) 15)){w1:b'}{G1:Obj}{K:b'}{w2 y0:Option b'}{x2:Array (Option f')}{y2 A0 C0 D0 g0 G0:f'}(C3:Å O (.ref B7) "add"=some (some (.ref K)))(D3:O.lookup K=some ⟨y2,w2,.func (Õ "add" "Town.add" (bA (inClass (top 49) 1)) (aO (inClass (top 49) 1)) (ai (inClass (top 49) 1)) (.ref w1) A0 C0 D0 y0 g0 G0),x2⟩)(E3:Ĉ O g0 "Town.add"=true)(H1:Ú O (.ref K)=true)(F3:O.lookup w1=some G1)(G3:G1.data=.seq #[.none] ζ)(p6:Ų O (.ref K)=true){H3:b'}{A2:Y'}(I0:fY O B7 "drop" "Town.drop" (inClass (top 49) 2) H3 A2)(J3:fb O B7 "reads" "Town.reads" (inClass (top 49) 13))(K3:fb O B7 "deeds" "Town.deeds" (inClass (top 49) 10)){L3:b'}{B2:Y'}(Q:fY O m9 "__init__" "Shapes.__init__" (inClass (top 22) 0) L3 B2)(M3:fb O m9 "number_of" "Shapes.number_of" (inClass (top 22) 1))(N3:fb O m9 "words_of" "Shapes.words_of" (inClass (top 22) 2))(Q3:fb O m9 "grown" "Shapes.grown" (inClass (top 22) 3))(R3:fb O m9 "without" "Shapes.without" (inClass (top 22) 4))(S3:fb O m9 "slot_of" "Shapes.slot_of" (inClass (top 22) 5))(T3:fb O m9 "many" "Shapes.many" (inClass (top 22) 6)){W3:b'}{C2:Y'}(R:fY O C4 "__init__" "Thing.__init__" (inClass (top 26) 0) W3 C2){Y3:b'}{D2:Y'}(S:fY O B "__init__" "Things.__init__" (inClass (top 27) 0) Y3 D2)(Z3:fb O B "thing" "Things.thing" (inClass (top 27) 11)){a4:b'}{E2:Y'}(T:fY O B "make" "Things.make" (inClass (top 27) 1) a4 E2)(b4:fb O B "put" "Things.put" (inClass (top 27) 2))(c4:fb O B "take" "Things.take" (inClass (top 27) 3)){d4:b'}{F2:Y'}(V:fY O B "move" "Things.move" (inClass (top 27) 4) d4 F2)(e4:fb O B "drop" "Things.drop" (inClass (top 27) 5))(f4:fb O B "names" "Things.names" (inClass (top 27) 6))(g4:fb O B "kind_of" "Things.kind_of" (inClass (top 27) 7))(h4:fb O B "shape_of" "Things.shape_of" (inClass (top 27) 8))(i4:fb O B "value_at" "Things.value_at" (inClass (top 27) 9))(j4:fb O B "own" "Things.own" (inClass (top 27) 10))(k4:iA O "_law_short" (top 53))(l4:iA O "_law_names" (top 54))(m4:iA O "_law_whole" (top 55))(n4:iA O "_law_town" (top 57))(o4:iA O "_law_value" (top 58))(p4:iA O "_law_deed" (top 59))(r4:iA O "_law_pools" (top 60)){s4:b'}{G2:Y'}(l0:iu O "_law_seen" (top 61) s4 G2){t4:b'}{H2:Y'}(m0:iu O "_law_no_kind" (top 62) t4 H2){v4:b'}{I2:Y'}(o0:iu O "_law_not_made" (top 63) v4 I2)(w4:iA O "_law_left" (top 64)){x4:b'}{J2:Y'}(p0:iu O "_law_gone" (top 65) x4 J2){A4:b'}{K2:Y'}(s0:iu O "_law_came" (top 66) A4 K2){K0:b'}{N2 L0:Option b'}{P2:Array (Option f')}{Q2 P0 Q0 R0 h0 S0:f'}(B4:ë O Í "law"=some (some (.ref K0)))(D4:O.lookup K0=some ⟨Q2,N2,.func (Õ "law" "law" (bA (top 67)) (aO (top 67)) (ai (top 67)) .none P0 Q0 R0 L0 h0 S0),P2⟩)(E4:Ĉ O h0 "law"=true)(F4:Ú O (.ref K0)=true){CN NN x1 cN:b'}{r6:Y'}(QN:XCA O "NoKind" "NoKind.__init__" stN CN NN x1 cN r6)(S2:Å O (.ref CN) "name"=some none)(G4:Ϗ O (.ref CN) (.ref CN)=some true){B0:b'}(aB:ë O Í "LookError"=some (some (.ref B0)))(gB:Ŵ O (.ref B0) "__getattribute__"=some (some (.builtin "type.__getattribute__")))(rB:ae8 O B0 (.type "type")=true)(iB:ae9 O (.ref B0) (.type "type") "__init__"=some (.val (.builtin "ValueError.__init__"))): ∃fd:Y',(∀(s:g') (v:f'),ć s fd ⟨[v],[]⟩ [("_law_script",v)])/\∀base:I',O.In base->base.Ns Í Δ->bW I M O Δ base fH 69 j fd ["_law_script"] (c_ (cJ Δ) Wh):=by
 have e:=K5.symm.trans (Ï X G B4);cases e;have b0:=a0.fn.binds (l:=["_law_script","_law_k"]) (lx (by intros;rfl))
 have b1:=a1.fn.binds (l:=["_law_cell_here","_law_turn","_law_many"]) (FO (by intros;rfl))
 have s6:wU O "own_copy" "own_copy" (top 3) (.ref T0) u0 _:=⟨⟨_,_,_,_,_,_,_,_,_,rfl,c6,d6⟩,h3⟩
 have t6:Binds O (Õ "own_copy" "own_copy" (bA (top 3)) (aO (top 3)) (ai (top 3)) (.ref T0) R4 M7 i8 Q7 j8 G8) ["thing","depth"] [.int 0 Z1]:=λs y X hl=>by
  refine u1 (P:=λy=>ć s _ ⟨y,[]⟩ (acj (α:=Str) (β:=f') ["thing","depth"] (y++[.int 0 Z1]))) y (by simpa using hl) λ_=>?_
  exact ack X rfl e6 f6 rfl rfl
 have u6:=r1.fn.binds (l:=["elders"]) (tB (by intros;rfl))
 have I1:=C.fn.binds (l:=["self"]) (tB (by intros;rfl))
 have W0:=t.fn.binds (l:=["self","name"]) (lx (by intros;rfl))
 have J1:=F.fn.binds (l:=["self","teller"]) (lx (by intros;rfl))
 have H4:=x0.fn.binds (l:=["self","kind"]) (lx (by intros;rfl))
 have K1:=J.fn.binds (l:=["self","teller"]) (lx (by intros;rfl))
 have I4:=I0.fn.binds (l:=["self","name"]) (lx (by intros;rfl))
 have N1:=Q.fn.binds (l:=["self"]) (tB (by intros;rfl))
 have Q1:=R.fn.binds (l:=["self","kind"]) (lx (by intros;rfl))
 have R1:=S.fn.binds (l:=["self","town"]) (lx (by intros;rfl))
 have S1:=T.fn.binds (l:=["self","name","kind"]) (FO (by intros;rfl))
 have T1:=V.fn.binds (l:=["self","name","kind"]) (FO (by intros;rfl))
 have J4:=l0.fn.binds (l:=["_law_things","_law_plain"]) (lx (by intros;rfl))
 have K4:=m0.fn.binds (l:=["_law_things","_law_name","_law_kind"]) (FO (by intros;rfl))
 have L4:=o0.fn.binds (l:=["_law_things","_law_kind"]) (lx (by intros;rfl))
 have M4:=p0.fn.binds (l:=["_law_town_here","_law_both","_law_plains","_law_kind","_law_other"]) (bd5 (by intros;rfl))
 have N4:=s0.fn.binds (l:=["_law_cames","_law_plains"]) (lx (by intros;rfl))
 have P4:wU O "add" "House.add" (inClass (top 47) 1) (.ref v0) D _:=⟨⟨_,_,_,_,_,_,_,_,_,rfl,p3,r3⟩,w0⟩
 have S4:Binds O (Õ "add" "House.add" (bA (inClass (top 47) 1)) (aO (inClass (top 47) 1)) (ai (inClass (top 47) 1)) (.ref v0) Z c0 d0 Y u e0) ["self","name","elders","at"] [.none]:=λs y hi hl=>by
  refine u3 (P:=λy=>ć s _ ⟨y,[]⟩ (acj (α:=Str) (β:=f') ["self","name","elders","at"] (y++[.none]))) y (by simpa using hl) λ_ _ _=>?_
  exact ack hi rfl D1 E1 rfl rfl
 have T4:Binds O (Õ "add" "House.add" (bA (inClass (top 47) 1)) (aO (inClass (top 47) 1)) (ai (inClass (top 47) 1)) (.ref v0) Z c0 d0 Y u e0) ["self","name","elders","at"] []:=λs y hi hl=>by
  refine u4 (P:=λy=>ć s _ ⟨y,[]⟩ (acj (α:=Str) (β:=f') ["self","name","elders","at"] (y++[]))) y (by simpa using hl) λ_ _ _ _=>?_
  exact ack hi rfl D1 E1 rfl rfl
 have W4:wU O "add" "Town.add" (inClass (top 49) 1) (.ref w1) K _:=⟨⟨_,_,_,_,_,_,_,_,_,rfl,D3,E3⟩,H1⟩
 have Y4:Binds O (Õ "add" "Town.add" (bA (inClass (top 49) 1)) (aO (inClass (top 49) 1)) (ai (inClass (top 49) 1)) (.ref w1) A0 C0 D0 y0 g0 G0) ["self","name","elders","at"] [.none]:=λs y hi hl=>by
  refine u3 (P:=λy=>ć s _ ⟨y,[]⟩ (acj (α:=Str) (β:=f') ["self","name","elders","at"] (y++[.none]))) y (by simpa using hl) λ_ _ _=>?_
  exact ack hi rfl F3 G3 rfl rfl
 have Z4:=rA (Θ:=(top 67)) D4 E4 F4;have XB:XBase O Δ "LookError" B0:=⟨Ï X G aB,gB,rB,iB⟩;have bN:=QN.fn.binds (l:=["self","name"]) (lx (by intros;rfl))
 have XN:pX O Δ CN NN x1 cN _ stN "NoKind.__init__" "self" ["name"] [rN1]:=⟨⟨_,QN.fn⟩,QN.cv,gH scN,QN.cl,bN,λr hr=>by rw[è.mp hr];exact S2,by decide +kernel,rfl,rfl,rfl,by decide,by decide,"LookError",B0,[("name",_,_)],_,_,_,_,_,_,XB,rfl,rfl,rfl,rfl,λr hr a8=>by rw[è.mp hr];rfl,λ_=>rfl⟩
 refine⟨Õ "law" "law" (bA (top 67)) (aO (top 67)) (ai (top 67)) .none P0 Q0 R0 L0 h0 S0,λs v=>.of_eq rfl,λbase _ _=>?_⟩
 have k:=Ï X G e1.ns;have m:=e1.cl;have j0:=Ï X G f1.ns;have t0:=f1.cl;have n:=Ï X G g1.ns;have o:=g1.cl;have q:=Ï X G j1.ns;have z:=j1.cl;have c1:=Ï X G n1.ns;have y1:=n1.cl;have c:=Ï X G o1.ns;have g:=o1.cl;have V0:aG I M O Δ base ({}:aA) 0:=aG.start (Di X G nb);have V1:=V0.QI (h:="_law_silent") (Ï X G zS);have V2:=V1.gZ (x:="DEEPEST") (d:=.int 8) (v:=.int 8) (Ï X G z6) ⟨_,rfl⟩ rfl;have V3:=V2.gZ (x:="MOST_OWN_WORDS") (d:=.int 12) (v:=.int 12) (Ï X G z5) ⟨_,rfl⟩ rfl;have V4:=V3.gZ (x:="MOST_THINGS") (d:=.int 40) (v:=.int 40) (Ï X G z4) ⟨_,rfl⟩ rfl;have V5:=V4.gZ (x:="MOST_ELDERS") (d:=.int 5) (v:=.int 5) (Ï X G z3) ⟨_,rfl⟩ rfl;have V6:=V5.gZ (x:="MOST_KINDS") (d:=.int 12) (v:=.int 12) (Ï X G z2) ⟨_,rfl⟩ rfl;have V7:=V6.gZ (x:="MOST_LETTERS") (d:=.int 8) (v:=.int 8) (Ï X G z1) ⟨_,rfl⟩ rfl;have V8:=V7.gZ (x:="LETTERS") (d:=.str "abcdefghijklmnopqrstuvwxyz") (v:=.str "abcdefghijklmnopqrstuvwxyz") (Ï X G z0) ⟨_,rfl⟩ rfl;have V9:=V8.dc (f:="elders") (Cs:=["House"]) (plain1 k m M5);have v6:=V9.dc (f:="lines") (Cs:=["House"]) (plain1 k m N5);have w6:=v6.dc (f:="house") (Cs:=["Town"]) (plain1 n o P5);have x6:=w6.dc (f:="facts") (Cs:=["Town"]) (plain1 n o R5);have y6:=x6.dc (f:="tags") (Cs:=["Town"]) (plain1 n o S5);have A6:=y6.dc (f:="last_deed") (Cs:=["Town"]) (plain1 n o T5);have B6:=A6.dc (f:="teller") (Cs:=["Facts"]) (plain1 j0 t0 W5);have C6:=B6.dc (f:="strengths") (Cs:=["Facts"]) (plain1 j0 t0 Y5);have E6:=C6.dc (f:="asked") (Cs:=["Facts"]) (plain1 j0 t0 Z5);have F6:=E6.dc (f:="rows") (Cs:=["Shapes"]) (plain1 q z a6);have G6:=F6.dc (f:="numbers") (Cs:=["Shapes"]) (plain1 q z Z2);have H6:=G6.dc (f:="kind") (Cs:=["Thing"]) (plain1 c1 y1 b3);have I6:=H6.dc (f:="shape") (Cs:=["Thing"]) (plain1 c1 y1 c3);have J6:=I6.dc (f:="slots") (Cs:=["Thing"]) (plain1 c1 y1 d3);have K6:=J6.dc (f:="town") (Cs:=["Things"]) (plain1 c g e3);have L6:=K6.dc (f:="shapes") (Cs:=["Things"]) (plain1 c g f3);have N6:=L6.dc (f:="made") (Cs:=["Things"]) (plain1 c g g3);have Y0:aG I M O Δ base YT 0:=N6;have Y1:aG I M O Δ base YU 1:=(Y0.mono (ã 0)).Bb (x:="_law_cell") (Ï X G a0.ns) a0.fn.kp b0 (zh (sP0.ok Y0 (dz a0.fn))) (O' _);have Y2:aG I M O Δ base UP2 2:=(Y1.mono (ã 1)).Bb (x:="_law_mix") (Ï X G a1.ns) a1.fn.kp b1 (zh (sP1.ok Y1 (dz a1.fn))) (O' _);have X0:aG I M O Δ base U0 2:=Y2;have r0:bW I M O Δ base fH 3 u0 _ ["thing","depth"] (c_ (cJ Δ) O0):=so0.ok X0 s6
 have a5:∀Ca,cJ Δ "House" Ca->Ca=y4:=λCa L=>by
  have e:=(show Δ "House"=some (.ref Ca)from L).symm.trans k
  cases e;rfl
 have b5:∀Ca,cJ Δ "Things" Ca->Ca=B:=λCa L=>by
  have e:=(show Δ "Things"=some (.ref Ca)from L).symm.trans c
  cases e;rfl
 have c5:∀Ca,cJ Δ "NoKind" Ca->Ca=CN:=λCa L=>by
  have e:=(show Δ "NoKind"=some (.ref Ca)from L).symm.trans (Ï X G QN.a)
  cases e;rfl
 have X1:aG I M O Δ base U2 3:=X0.dF X G g6 so1 (tB (by intros;rfl))
 have X2:aG I M O Δ base U3 4:=X1.dF X G h6 so2 (lx (by intros;rfl))
 have X3:aG I M O Δ base U4 5:=X2.dF X G i6 so3 (tB (by intros;rfl))
 have X4:aG I M O Δ base U5 6:=X3.dF X G j6 so4 (tB (by intros;rfl))
 have X5:aG I M O Δ base U6 7:=X4.dF X G k6 so5 (lx (by intros;rfl))
 have X6:aG I M O Δ base U7 8:=X5.dF X G l6 so6 (tB (by intros;rfl))
 have X7:aG I M O Δ base U8 9:=X6.dF X G m6 so7 (tB (by intros;rfl))
 have X8:aG I M O Δ base U9 10:=X7.dF X G n6 so8 (lx (by intros;rfl))
 have r9:=mL (so9.ok X8 (dz r1.fn));have X9:aG I M O Δ base YV 11:=X8.dv (Ï X G r1.ns) r1.fn.kp u6 r9;have d5:=YW.ok X9 (dz C.fn);have P6:aG I M O Δ base U11 12:=X9.bS k m C.me I1 d5;have Q6:aG I M O Δ base YX 13:=P6.km k ⟨e1.ma,C.me.at_,C.me.fn,e1.kc⟩ I1 d5 (by decide)
 have A1:aG I M O Δ base VQ 14:=Q6.dM k m l3 YY (tB (by intros;rfl))
 have e5:aG I M O Δ base Y_ 14:=A1.toXt;have W1:bW I M O Δ base (mu I M) 17 _ _ ["self","name"] (oP (cJ Δ) vo):=tf e5 rfl (dz t.fn) Tr.sc Tu (λB1 A outer s H E hr G' i c' L=>Fi (p:=VI O0) XN hr (Ï X G QN.a) G' (veN (r0.mono (by decide)) t6 (Ï X G b6) h3 A1) i c' L)
 have R6:=Tr.ok A1 (dz t.fn);have S6:aG I M O Δ base YZ 15:=A1.bS k m t.me W0 R6;have T6:aG I M O Δ base Za 16:=S6.dM k m n3 Zb (lx (by intros;rfl))
 have f5:aG I M O Δ base Zc 17:=T6.dM k m o3 Zd (lx (by intros;rfl))
 have g5:=Zf.ok f5 P4;have W6:aG I M O Δ base Ze 18:=f5.Kd (j5:=[.non]) k m ⟨C1,s3,w0⟩ S4 (.cons (show RelV .non õ from rfl) .nil) (λ_ _ _=>.one (by simp only[aq])) g5
 have Y6:aG I M O Δ base U18 19:=(W6.mono (ã _)).QJ _;have Z6:aG I M O Δ base Zg 20:=Y6.bS k m ⟨C1,s3,w0⟩ T4 (g5.mono (by decide))
 have h5:aG I M O Δ base Zh 21:=Z6.dM k m v3 Zi (lx (by intros;rfl))
 have i5:=Zj.ok h5 (dz F.fn);have a7:aG I M O Δ base U21 22:=h5.bS j0 t0 F.me J1 i5;have l5:aG I M O Δ base VU 23:=a7.km j0 ⟨f1.ma,F.me.at_,F.me.fn,f1.kc⟩ J1 i5 (by decide)
 have b7:=zE l5 x0.fn (M0:=["self","kind"]) Zm Zo (λX' GS i c' L=>Jq GS i c' L)
 have c7:aG I M O Δ base Zl 24:=l5.bS j0 t0 x0.me H4 b7;have m5:aG I M O Δ base Zq 25:=c7.dM j0 t0 y3 Zr (tB (by intros;rfl))
 have n5:=Zs.ok m5 (dz J.fn);have e7:aG I M O Δ base U25 26:=m5.bS n o J.me K1 n5;have f7:aG I M O Δ base Zt 27:=e7.km n ⟨g1.ma,J.me.at_,J.me.fn,g1.kc⟩ K1 n5 (by decide)
 have o5:aG I M O Δ base Zu 28:=f7.dM n o B3 Zv (lx (by intros;rfl))
 have g7:=Zx.ok o5 W4;have r5:aG I M O Δ base Zw 29:=o5.Kd (j5:=[.non]) n o ⟨C3,p6,H1⟩ Y4 (.cons (show RelV .non õ from rfl) .nil) (λ_ _ _=>.one (by simp only[aq])) g7
 have h7:=zE r5 I0.fn (M0:=["self","name"]) ZA ZD (λX' GS i c' L=>Jr i c' L)
 have i7:aG I M O Δ base Zz 30:=r5.bS n o I0.me I4 h7;have j7:aG I M O Δ base ZF 31:=i7.dM n o J3 ZG (tB (by intros;rfl))
 have s5:aG I M O Δ base ZI 32:=j7.dM n o K3 ZJ (tB (by intros;rfl))
 have t5:=ZK.ok s5 (dz Q.fn);have k7:aG I M O Δ base U32 33:=s5.bS q z Q.me N1 t5;have l7:aG I M O Δ base ZL 34:=k7.km q ⟨j1.ma,Q.me.at_,Q.me.fn,j1.kc⟩ N1 t5 (by decide)
 have m7:aG I M O Δ base ZM 35:=l7.dM q z M3 ZN (lx (by intros;rfl))
 have n7:aG I M O Δ base ZO 36:=m7.dM q z N3 ZP (lx (by intros;rfl))
 have o7:aG I M O Δ base ZQ 37:=n7.dM q z Q3 ZR (FO (by intros;rfl))
 have p7:aG I M O Δ base ZS 38:=o7.dM q z R3 ZT (FO (by intros;rfl))
 have q7:aG I M O Δ base ZU 39:=p7.dM q z S3 ZV (FO (by intros;rfl))
 have v5:aG I M O Δ base ZX 40:=q7.dM q z T3 ZY (tB (by intros;rfl))
 have w5:=ZZ.ok v5 (dz R.fn);have r7:aG I M O Δ base U40 41:=v5.bS c1 y1 R.me Q1 w5;have x5:aG I M O Δ base Z_ 42:=r7.km c1 ⟨n1.ma,R.me.at_,R.me.fn,n1.kc⟩ Q1 w5 (by decide)
 have y5:=aaa.ok x5 (dz S.fn);have s7:aG I M O Δ base U42 43:=x5.bS c g S.me R1 y5;have t7:aG I M O Δ base U43 44:=s7.km c ⟨o1.ma,S.me.at_,S.me.fn,o1.kc⟩ R1 y5 (by decide)
 have T2:aG I M O Δ base Wb 45:=t7.dM c g Z3 aab (lx (by intros;rfl))
 have A5:aG I M O Δ base T44 45:=T2.toXt;have B5:bW I M O Δ base (mu I M) 48 _ _ ["self","name","kind"] (oP (cJ Δ) Oj):=tf A5 rfl (dz T.fn) TJ.sc TL (λB1 A outer s H E hr G' i c' L=>qL G' a5 m t.me (W1.mono (by decide)) W0 t_ i c' L)
 have u7:=TJ.ok T2 (dz T.fn);have v7:aG I M O Δ base U45 46:=T2.bS c g T.me S1 u7;have w7:aG I M O Δ base U46 47:=v7.dM c g b4 aac (YR (by intros;rfl))
 have W2:aG I M O Δ base Wc 48:=w7.dM c g c4 aad (FO (by intros;rfl))
 have D5:aG I M O Δ base T47 48:=W2.toXt;have E5:bW I M O Δ base (mu I M) 51 _ _ ["self","name","kind"] (oP (cJ Δ) Ol):=tf D5 rfl (dz V.fn) TU.sc TX (λB1 A outer s H E hr G' i c' L=>qL G' a5 m t.me (W1.mono (by decide)) W0 t_ i c' L)
 have x7:=TU.ok W2 (dz V.fn);have y7:aG I M O Δ base U48 49:=W2.bS c g V.me T1 x7;have z7:aG I M O Δ base U49 50:=y7.dM c g e4 aae (lx (by intros;rfl))
 have C7:aG I M O Δ base U50 51:=z7.dM c g f4 aaf (tB (by intros;rfl))
 have D7:aG I M O Δ base U51 52:=C7.dM c g g4 aag (lx (by intros;rfl))
 have E7:aG I M O Δ base U52 53:=D7.dM c g h4 aah (lx (by intros;rfl))
 have F7:aG I M O Δ base U53 54:=E7.dM c g i4 aai (FO (by intros;rfl))
 have G7:aG I M O Δ base U54 55:=F7.dM c g j4 aaj (lx (by intros;rfl))
 have H7:aG I M O Δ base U55 56:=G7.dF X G k4 aak (FO (by intros;rfl))
 have I7:aG I M O Δ base U56 57:=H7.dF X G l4 aal (lx (by intros;rfl))
 have J7:aG I M O Δ base U57 58:=I7.dF X G m4 aam (tB (by intros;rfl))
 have K7:aG I M O Δ base U58 59:=J7.dF X G n4 aan (tB (by intros;rfl))
 have L7:aG I M O Δ base U59 60:=K7.dF X G o4 aao (tB (by intros;rfl))
 have N7:aG I M O Δ base U60 61:=L7.dF X G p4 aap (YR (by intros;rfl))
 have F5:aG I M O Δ base U61 62:=N7.dF X G r4 aaq (tB (by intros;rfl))
 have P7:=mL (aar.ok F5 (dz l0.fn));have G5:aG I M O Δ base Wf 63:=F5.dv (Ï X G l0.ns) l0.fn.kp J4 P7;have R7:=tj G5 m0.fn (M0:=["_law_things","_law_name","_law_kind"]) TZ (λB1 A outer s H E G'=>ez (kC G' (λi c' L=>qM (j:=CN) (N:=NN) (ω:=x1) G'.toGoodO ⟨rfl,rfl,(gH TZ).nd,Ï X G QN.a,G4,c5,QN.cl,QN.is⟩ S2 b5 g V.me (E5.mono (by decide)) T1 i c' L) 30 60) aau)
 have H5:aG I M O Δ base Wg 64:=G5.dv (Ï X G m0.ns) m0.fn.kp K4 R7;have S7:=tj H5 o0.fn (M0:=["_law_things","_law_kind"]) T_ (λB1 A outer s H E G'=>ez (kC G' (λi c' L=>qM (j:=CN) (N:=NN) (ω:=x1) G'.toGoodO ⟨rfl,rfl,(gH T_).nd,Ï X G QN.a,G4,c5,QN.cl,QN.is⟩ S2 b5 g T.me (B5.mono (by decide)) S1 i c' L) 30 60) aax)
 have T7:aG I M O Δ base U64 65:=H5.dv (Ï X G o0.ns) o0.fn.kp L4 S7;have I5:aG I M O Δ base U65 66:=T7.dF X G w4 aay (YR (by intros;rfl))
 have W7:=mL (aaz.ok I5 (dz p0.fn));have J5:aG I M O Δ base U66 67:=I5.dv (Ï X G p0.ns) p0.fn.kp M4 W7;have Y7:=mL (aaA.ok J5 (dz s0.fn));have Z7:aG I M O Δ base U67 68:=J5.dv (Ï X G s0.ns) s0.fn.kp N4 Y7;exact aaB.ok Z7 (dz Z4)
variable{Ea:DefRec}{J9:W'->I'->Prop}{Ma:(Str->Option f')->I'->Prop}{l:List Str}
theorem walk{zL:aev}{K:ϭ->K'}(m:zL.most=some 63)(j:Ea.params.defaults=[])(n:∀w h,J9 w h->(K w.params).In h)(o:∀p,uk (K p)=true)(F:∀w d g h,(K w.params).In h->h.Ns Í d->d Ea.name=some (.ref g) ->
   ∃i,(∀s u,ć s i ⟨[u],[]⟩ [("_law_script",u)])/\∀base,(K w.params).In base->base.Ns Í d->bW zL.prog w (K w.params) d base fH 69 g i ["_law_script"] (c_ (cJ d) Wh)):
  aew I l Ma J9 zL.row.toRowW Ea [] (λf k=>acQ f k):=
 L2.Gu (b:=63) (w:=69) (h:="_law_script") (CX:=λ_=>fH) (sp:=λw=>QK Wh) m (by decide) j ⟨rfl,by decide,by decide⟩ n (λw d g h a b c=>let ⟨i,q,r⟩:=F w d g h a b c;⟨i,q,λbase Ea e=>(r base Ea e).imp λk H Q E z=>z (cJ d)⟩) (λw H a t x _ y A=>Im (Qd (o w.params) y) (FG t x).choose_spec) λ_ _ _ _ _ z=>z
end YS
def PySem.W.Fast.tw10744000892057066930:=PySem.Challenge.pw_taglook_k67_things_apart
theorem PySem.W.Fast.te10744000892057066930:PySem.Challenge.pw_taglook_k67_things_apart=PySem.W.Fast.tw10744000892057066930:=rfl
structure PySem.W.Fast:Prop where(tw2316834471528914652 tw1203907498195179226 tw16530434893359317718 tw8638335904166531080 tw3189177255514911114 tw13076085210383969596 tw655536773503098033 tw9791279412882922287 tw14974195140189461979 tw7860910784687191375 tw447368052379853488 tw5610657484810092877 tw11779899550892738201 tw17315240173714854294 tw16225170673600449830 tw524708595910068889 tw2741451652218294818 tw14202885939583193319 tw13960088649725305283 tw14682246758613893440 tw41192078441039248 tw744004380706855083 tw5060277451400610881 tw5912799315374286194 tw12377730352333782561 tw76600436062101647 tw4456192119917132860 tw12010018509636906919 tw11143601839711986089 tw10217961602572497583 tw3316840412177817187 tw10925798398258808422 tw3760524456636232628 tw82267898662515304 tw15734305439720283656 tw5409068254279339042 tw11929906910675632666 tw5364780563800900824 tw13350042434152121011 tw3993100884948601770 tw10943968438850390945 tw7496838119909763935 tw6741118837305004788 tw16137595974706136989 tw9846647656530852476 tw12371287883643951452 tw18423939198472109026 tw17014040480486750530 tw13265340058386677265 tw4885183461092353240 tw3196895191424369067 tw9123596119060797637 tw8597540170364337463 tw11308406094944887581 tw15103885235656938492 tw220259196690942272 tw11092430205623205562 tw7226668322952107331 tw16686237950224260914 tw9151315779754891428 tw17577518267790088574 tw7196505693112888241 tw9089374328625762033 tw9134419094789495427 tw12366213317757890426 tw13740482713087281456 tw13191023184488658764 tw16882802536982074050 tw3383305656737972238 tw11921986119033436721 tw5062492042075907912 tw5025645890846692732 tw8700890576091544744 tw4656887094529616078 tw4793066375661132469 tw4579258484127866506 tw15621653890073469844 tw16242712080738637597 tw1650613014844668780 tw9388667822897974182 tw937542854140985286 tw14054890727803246236 tw13914160057666840897 tw11478338671019965606 tw9857566686357729297 tw14983878923614265132 tw6050622312367173986 tw1701300240318889595 tw5068920876963112881 tw12194895177106551514 tw1559330176603980271 tw4449216917060678314 tw14829293695878506466 tw1672775805000873268 tw1567180284883090359 tw7567340646231577272 tw1976998207267123728 tw8980541847246250636 tw14243418442411859472 tw9214661053006790806 tw7439804040638701604 tw2239702540247606977 tw3102978058009694269 tw17020718393584173024 tw16908768429833416957 tw12407925397143450588 tw7194770454635258141 tw6544702896163512567 tw18020754004732730033 tw7448489423934125176 tw5627185789649359771 tw13022592941331232825 tw9098058760478933072 tw5441335597812694155 tw15190073759799909166 tw9371580742726779575 tw1797444151549295519 tw3969201833749688532 tw9334078041551001552 tw12505095311899479780 tw1212624464830574570 tw6414712993064540790 tw8644787154014527710 tw8979115066279383723 tw7225070379720674649 tw6692507135207216506 tw9762606452547645955 tw14770457463142880917 tw160988178083194639 tw3211774545682746412 tw17690026467573771939 tw18284118068110338436 tw3945487859968862784 tw9671924826862470799 tw12452769545675722466 tw16912402663417856090 tw11033089391037672761 tw5211867081869862620 tw4827736749035238503 tw6595201805410747945 tw13687655340058295031 tw9465627132736032536 tw1725802405570061851 tw16193068198255135390 tw2977945188153685598 tw18054934424880495300 tw15442022450041317804 tw291775269648054557 tw12567578278568727580 tw1261247810021443483 tw13198374367227978325 tw15602111522651892584 tw16000784185372004635 tw12328869583073382020 tw9242495278527379411 tw6416187640877649589 tw4671868302219362467 tw16068428542418539836 tw15735359336030022162 tw11203298685133133206 tw14906627240433186225 tw2319946817178330669 tw4148995331251819495 tw17201360639170849873 tw6043437904498465189 tw14883106349600315195 tw3093032838894461186 tw18151568470484353817 tw1948165903479748455 tw10506208905574317357 tw7645132066819906977 tw7318236419418895837 tw5374658918136474127 tw676236428123307588 tw16546980567387124087 tw13317158158994790617 tw6110935685118294086 tw3309249501962278723 tw15172202352659342053 tw7769925457740505212 tw6485823127312409858 tw3985856530323568696 tw14215346455730799961 tw16422590768788780028 tw6900744692030120578 tw11418371115210526506 tw11402649046906532538 tw14572043091747807704 tw9030139536334636443 tw3587383199919618629 tw14059989845749494311 tw10271988103847748159 tw2158947011451352973 tw2629222278028016710 tw17073049767783577565 tw2278034632894758783 tw17788497077417008606 tw6043514481024944979 tw3324958155267970321 tw17569941869423326414 tw2878362802837634768 tw18313509547376949060 tw7873042945468138260 tw8166465250733017481 tw7384654917930018991 tw15579160447850589339 tw7406551958818529679 tw1693504219649028317 tw18077806545002053804 tw7577257816060207528 tw13490916585313436455 tw734052624384356792 tw9285626245619598921 tw13629585259772348887 tw6491249563734960776 tw1525742941504310824 tw10613668701560077300 tw4403156755650192476 tw13109518347162274757 tw9579241199025613232 tw7144329254075507682 tw1477938573646849313 tw4211275225527938165 tw2265035622463133205 tw10852214976285632836 tw14023219431631791187 tw8099170488592395250 tw2691797296997937456 tw12929769178019884383 tw2990165192643021998 tw15115978648325375513 tw12330549082629011643 tw739627997810822764 tw15494818649729433957 tw2781016200960571062 tw3003516322302999227 tw6655589378641041961 tw2168562589254276136 tw8542294500604453264 tw4990688179756145277 tw6656216794424222470 tw352243587944904770 tw13768459839877198365 tw3533300832367858504 tw18253509394278278414 tw11828245234038321148 tw10339176835101003983 tw14928672984000969290 tw7454852523072885415 tw15707160926113424260 tw13524963199777680179 tw12859388456708676171 tw9582196559284807490 tw5981199136088838973 tw9611406160852028263 tw16670313795684849861 tw16492728323016614482 tw9271878601155688264 tw5095041698956340829 tw12883788850900033049 tw1108275706629150892 tw3188842955948517528 tw18433524413787919962 tw7474090155483837153 tw16395609550769507917 tw4032640084152683027 tw12085470119228439662 tw144549765812849846 tw4399567412370670575 tw16152628318046082749 tw572226070273867480 tw5498961865703009493 tw4811229660637380219 tw1935502806791349895 tw17826968019633357135 tw4502516732992772780 tw811283500456105203 tw3713097782877575164 tw15246812393959348962 tw1302753413800968750 tw17352840182168506219 tw5392513583909662326 tw1567753934849637277 tw6369433117364404204 tw15350840992455761972 tw14098064044469996804 tw12884212247863823864 tw5034286493244513067 tw507727976103357318 tw4895271471030292553 tw14803082437822398010 tw9186668067291576262 tw4150251397579472251 tw13772399622626183994 tw10378257497799532859 tw7132465564282589138 tw1965275889922264982 tw10742103640058027296 tw18280361211042101858 tw9092054860739469395 tw5510545812048366954 tw10121228696980456247 tw14402616807550454127 tw9458334191486667139 tw4568460190943397450 tw15247539768252191052 tw8040738473617563817 tw5477619391044925699 tw3649092047799911359 tw1851262210441978218 tw12627049611017116934 tw9920895931157637004 tw14669648247365570551 tw16817226374084231917 tw7475045948963962538 tw6460849257577761314 tw6449082592810751137 tw4602657276626400087 tw4600878044811366553 tw4164295138599912102 tw4129967124790856424 tw1753571585305582974 tw17532417413978322868 tw12813325898424302699 tw6391685034972894989 tw5325712396445183728 tw1352430582449503513 tw11927389165765163048 tw11343846379204626676 tw10662438068132468598 tw6801723834550376656 tw9600215981169352330 tw6808733021194057645 tw18089443674850596799 tw17167102697764009825 tw11390109000188555633 tw9766656223595207100 tw260141338163813184 tw6645046142382572051 tw13044472852909954171 tw11693787728204146746 tw11669711800952713123 tw6239703648798119954 tw2898420648321935790 tw17704203997504950335 tw16027539691600162322 tw4190309182922604666 tw4351018465162547699 tw1863122063863096974 tw9454025571869609850 tw12953707467186512788 tw17721869528320744588 tw4653210506208769021 tw14577706143310729469 tw7666564283527969983 tw4265309219667908049 tw3047722257501133517 tw9008153917717534039 tw712523884448332136 tw887909674679109722 tw18165235016844453493 tw13740002468937157115 tw18124704864212211251 tw743058324832506486 tw1132877016058898488 tw14253591777248661746 tw10592091360170763323 tw2288008783330155522 tw5961095383240557725 tw3133723588156927934 tw3866518749656330654 tw7043395380319761902 tw8961932430121256590 tw6482892351951740393 tw14891874441545253674 tw12029633058439925693 tw11934734995778249159 tw11614929694564654725 tw10589406140316966695 tw6499900174390647702 tw5596954156952557947 tw9819523511958553718 tw6950958150230821789 tw5447813963161603221 tw9078509842745174315 tw16044289433207856822 tw467460934726749864 tw70877591880932131 tw5263268639930133705 tw2429522624275341933 tw13683871044188368901 tw1148403896399791985 tw2020695789636680335 tw9610170116575988299 tw6203459190554144657 tw3321439295830023571 tw18325384144427980176 tw18208670893531890464 tw16677360919578958024 tw6088637993462059838 tw5716920276899888475 tw5332623014676340404 tw5267109116069599472 tw3843675405513539261 tw13016853488336274904 tw5832902094700527688 tw4519747649483569324 tw3924103559535457411 tw3866221550129222730 tw17903696828187976211 tw14016539217133165956 tw11006287944035698090 tw8276683868770555554 tw14697334404320478482 tw9971700769951931430 tw9550000718129550775 tw7453048061158026421 tw16953508700792576815 tw16729780210833799054 tw4952271720928644891 tw3740799812660373585 tw3162750713360477526 tw16223082340337646348 tw14190730248107540008 tw14153978307733624604 tw13521258565994185680 tw13230898347750929157 tw12872006259150281770 tw12065131997793778622 tw5819992202420059457 tw9047672476097410663 tw6829442854326887615 tw3652802247894183454 tw15345238714517225236 tw13785146494606499314 tw14375792778323224148 tw10381446311225036898 tw4463864190292110202 tw15389561955946852372 tw5990910118566335463 tw563808618520421241 tw16933061338811638404 tw15949537122301564445 tw12512575808907082477 tw10541428968443291882 tw10088837839556157388 tw18090724602276411845 tw9344409489331160572 tw7744730393584954387 tw1435218440575513499 tw1093293599100907594 tw9667951300822254345 tw9096490468749744502 tw11138094726709158801 tw8990455596301473178 tw6043757573629189709 tw3921254472515059850 tw3162754432084743503 tw14703677106757679431 tw10461668567212918266 tw6821746046081945398 tw14429240471589916817 tw5405146857245577934 tw4772774480155205479 tw2106289757489694227 tw11146187536725841805 tw6730877703339208712 tw17064000423092908100 tw15809768965420408849 tw14843309231881796605 tw13161118393359965868 tw7352215019803528450 tw1574557272009666188 tw5744689600334060964 tw6268812103758522460 tw11455902086204618030 tw16829219202051221825 tw128326440843365219 tw2120720572415927625 tw15151427162736837897 tw9661005300069515638 tw12950673886948373069 tw3832556870957392714 tw10728387951446875739 tw7931878516800094618 tw7154464052302391746 tw13176011696759325857 tw12266547798193507921 tw14420000390468061434 tw4429953422298018549 tw3844069726506141211 tw3772933614815668169 tw17812447829073899182 tw7352232172492456180 tw18163089106684274141 tw10219040400829739283 tw6653617317003258779 tw607592794378219406 tw10931559179008165999 tw5327876115431244123 tw4926834222699898297 tw9180795160002661470 tw4427104323279228205 tw14716142775351589163 tw18265884357609291434 tw11629770383651526442 tw9207371539882789291 tw14741302277277447293 tw1279487950746033231 tw6884865684303694580 tw6670938912034943339 tw2448021989199779822 tw2164999681020011268 tw17908954711832174671 tw17783722604334156221 tw4141134040357298630 tw3767424715855863597 tw5097291985550718486 tw2617386705598219597 tw16815423648794712008 tw17523900063921734595 tw6361104271705356891 tw18028309225853496376 tw10480192773556374298 tw7809414937886369601 tw2058192579656334835 tw16987220723525522102 tw18122880776586354660 tw18154122384093853811 tw18047192607314186261 tw10426120043807945719 tw2647062824319643548 tw1890692813029769504 tw9553102691296886632 tw8641243864953413688 tw2171028894819938434 tw9452436518931675492 tw7426518752930780105 tw5881864146517111845 tw3796982798808140668 tw1120054569377597753 tw9844590693089258579 tw6351999147012110546 tw1150361747749475204 tw8753304196595699206 tw191428541098395161 tw17958644297502311799 tw12165224804100594408 tw11710139193291918133 tw9403578270551781958 tw12695040239017391478 tw16507428684295888970 tw3850176982930751228 tw14869594697420468482 tw2051005213002129390 tw15213577513615238512 tw13365475329303894842 tw3388912040754295089 tw2654943702015246540 tw18381795860116003805 tw9721403969437295524 tw6677899431696168420 tw2462207278956554222 tw17003206626412447254 tw15928722201211650513 tw14628857322596093205 tw14305480061095198012 tw12429356622865025698 tw11762759205403433873 tw18315064908591787576 tw1213774197666610781 tw10858956645563635819 tw18080494933479850143 tw3230621372366906536 tw12289944031324842114 tw15580310857170159596 tw15072414793890091161 tw10256211430575430750 tw91612059825178953 tw17510753142085369247 tw4347520926072533384 tw2841799784166105530 tw13534484256581418858 tw6038491182408606618 tw11537228711974705345 tw7803648391330541453 tw6776878532176528260 tw5766151305117665102 tw4355678478319225196 tw2791393131426066490 tw18318781141351621168 tw17595233127475660413 tw16860525762319007355 tw14206876599318461245 tw13985969779958900055 tw5413099881682842780 tw12379262437728808432 tw7332627635014101264 tw8293714459295862205 tw16726381002862304666 tw9914200168870750379 tw5557222495737067479 tw2429678391054685462 tw1759209981249850760 tw17206425830055748778 tw15709710076218267164 tw8879109697883640953 tw6198019335060094797 tw4377253505730649480 tw3537298645843049691 tw2023527956404419465 tw14757481548715550765 tw9509111679917220992 tw7590641439650134439 tw2320520710846381888 tw17101660165281725085 tw1011746684299300059 tw6630361977756319228 tw6412320287237226062 tw5954486752861329221 tw4952161688310995400 tw16013759583472537538 tw1307759183269908837 tw11985129494852567696 tw9275677177211574045 tw3157591972421302429 tw9606822969961462841 tw9192382121372507627 tw7945596974981265967 tw7851022782238793085 tw7380648132086422130 tw6769043367666323245 tw6703188144419769736 tw6280999233553079910 tw5898343981161511965 tw5823432114135456492 tw5597134425161696589 tw5251818115391501863 tw5120147952585556386 tw4354539463642803961 tw3726315283140007665 tw3716243875297884258 tw2519016172842255723 tw17853670126028784422 tw1713873096280271323 tw16909654720472399938 tw16279101631686936030 tw15859631111234572698 tw1564623904265081350 tw15440458216629131224 tw15192565670106465572 tw14698606539194507418 tw14552508146867206679 tw13629496662066968495 tw13302326082169738004 tw10635266406401730860 tw5639977066888000632 tw2412198968909955170 tw11289158202324852232 tw8806239350934644840 tw14944983629525187794 tw12765702985086409734 tw75061943100299926 tw10354575808628005692 tw5629973887727219633 tw9594964898870871683 tw9290266815237298562 tw9162686404998946376 tw8527347221358681014 tw8340414244195719058 tw8122935653245512073 tw7597610505683506184 tw714847677606692163 tw599141566623999010 tw5191011234914350749 tw398784319075044416 tw3809618136954905533 tw3408011266396925882 tw3009506186080988230 tw2874040997533385152 tw17012465516436305752 tw16936880683382255631 tw16648604698100011381 tw1533707138933200654 tw14413982130500825501 tw11824215885489097837 tw11427585567008837135 tw10588425182547355679 tw7684208129906267356 tw4598399085880753982 tw9178522133365671962 tw8881199715352588505 tw857581372367379514 tw6494942177572369798 tw6218695610126096784 tw6208927097492748471 tw5561925326348242315 tw3364186543430524320 tw18274003256318649158 tw18185143106939049599 tw17733732536875981251 tw17330408719072380143 tw17163934414048635289 tw14938553128185994329 tw12407284326746413931 tw12174109477555018641 tw11874787344383095751 tw11797820768078498448 tw11739740270482518583 tw11077815175691571793 tw87454086773124306 tw8587165222476516771 tw7959249227121963401 tw5426649417094350324 tw5107625340627750780 tw5076881944466721345 tw3421234903431969766 tw2280096984755774685 tw1877665843485964462 tw17353018661456023963 tw16210533209741803054 tw14581779044878342419 tw13258429597772862127 tw12760759595074986530 tw12523902284321346616 tw12458736872661621478 tw10505058241736841312 tw10296649490327469682 tw17151331416365027243 tw17059444855476006024 tw896546464482414324 tw7327367874750477504 tw2298630164616983751 tw18085669908051685666 tw15751633214214707211 tw14620272634456950270 tw13026840029402611865 tw12716208650378444775 tw11206090371398462612 tw10642890798913408837 tw10073046180258178585 tw9559636899364974123 tw7306967430693622296 tw6821178870731753813 tw6232337168528202501 tw4641076757451953943 tw38427060172250501 tw3360237245595771945 tw2193905618947516244 tw18111285872524294628 tw18040250733316707655 tw17233610565196647219 tw16302316487260479510 tw15920855059089155722 tw15669186061778448996 tw14981505779961667656 tw11685576175174010339 tw10553761569300576102 tw10190066039050796764 tw6826737722050124055 tw680279904416236397 tw6380993566564800435 tw2120711629665691162 tw11246282470558068795 tw9892851768891628733 tw9844182283016355765 tw9830103705884411624 tw9741009567265776986 tw9717867477319796339 tw9456093123786004015 tw9339443315414766107 tw9232412275007442744 tw9213034959130124673 tw9112662168726586404 tw9065958189368581974 tw9025388629775328739 tw8947397305860841072 tw8860509392200504794 tw875573492487364486 tw8692026706628559580 tw8658396907472011969 tw8556120720461906961 tw8545229017857406768 tw8535284475891113570 tw8533872372545397727 tw8513695463388604974 tw8467015175472155088 tw8282441616472726729 tw82657871634967203 tw8230865408152946357 tw8171247357856951451 tw8063029034173765701 tw7972078200920824693 tw7879116979034127583 tw7836770227720983618 tw7818511155611781842 tw7766468232509712453 tw776591718048396883 tw7712767025930919488 tw7667597445489643332 tw764535997688707660 tw7636400647105889731 tw7626318099219599399 tw7619937522614198801 tw7528156248005629477 tw7509234708231424933 tw746800915034625332 tw7424055955086586444 tw7340955360147847683 tw7281829182503915683 tw7162395185478957775 tw7018164284294645255 tw7009821055867238155 tw6999003940307603231 tw6987084534299604788 tw6939493565487102700 tw6881382296875985654 tw6810992399416761403 tw6759078809563475343 tw6715981139402168292 tw6684462513585537971 tw6678708466597940819 tw665158810078898375 tw6623497887259672690 tw6440869627230529220 tw6311156972567508362 tw6305855321266752117 tw6245276749225453162 tw6057345123383277822 tw5952046813350115638 tw587298805149013039 tw5804752798641834656 tw5744538989190286640 tw5726307870862135930 tw5678009321989948763 tw564489409156082392 tw5569329794913432917 tw5502368253169203209 tw5484831551250927829 tw5359803876916718640 tw5318712166062723090 tw531160620895613326 tw5118145599751204684 tw5113875855103522437 tw5081065186768846363 tw5037339854483605045 tw4999397201999137897 tw4998286886872564352 tw4969325216785943950 tw4895710250286155126 tw4792973814606156607 tw4776797998402135975 tw4654491927396425537 tw4643299159634388877 tw463812919347713447 tw4621113049904514029 tw460000872884455081 tw4547533209394214424 tw4538565323606482399 tw4384739635859207473 tw4225951243556806519 tw4188117360968881226 tw4107141024406632017 tw4035310452867312250 tw4032410368251752292 tw4029958692979641818 tw3978757053863666605 tw3937710833831966515 tw3919723559151939878 tw3891628241997039122 tw379565512219159744 tw3662522259484877645 tw3527823178601105227 tw346243463026824827 tw3455649660629645533 tw3434280847397263115 tw3404909016040843734 tw3396709740789733946 tw3349816636737187533 tw3304354317424616608 tw3175047345732461315 tw3147608530788538413 tw3089941265901120150 tw3023566388584766942 tw2882024747528510008 tw280329827249167887:True)
open PySem PySem.W PyProof.Rows
set_option maxRecDepth 100000 in
set_option maxHeartbeats 0 in
theorem PySem.Challenge.cw_taglook_k67_things_apart_holds : PySem.Challenge.rw_taglook_k67_things_apart.Holds := by
 w_on;o_law;k_head;(case hw=>w_witness2)
 k_fill
 refine YS.walk (zL:=PySem.Challenge.rw_taglook_k67_things_apart) rfl rfl (λw h Y=>PySem.W.kIn_of Y) ?hK ?F
 case hK=>intro pm;exact(Eq.refl true)
 case F=>
  intro w mg fa h KX G hmg;refine' YS.all_mk KX G hmg ?nb ?z0 ?z1 ?z2 ?z3 ?z4 ?z5 ?z6 ?zS ?a0 ?a1 ?aC0 ?aC1 ?aC2 ?aC3 ?aC4 ?aC5 ?nf0 ?nf1 ?nf2 ?nf3 ?nf4 ?nf5 ?nf6 ?nf7 ?nf8 ?nf9 ?aaC ?aaD ?aaE ?aaF ?aaG ?aaH ?aaI ?ao0 ?lo0 ?yo0 ?wo0 ?lt0 ?dt0 ?ao1 ?ao2 ?ao3 ?ao4 ?ao5 ?ao6 ?ao7 ?ao8 ?ao9 ?aaJ ?aaK ?aaL ?aaM ?aaN ?aaO ?aaP ?aaQ ?aaR ?aaS ?aaT ?i16 ?aaU ?aaV ?aaW ?aaX ?aaY ?aaZ ?aa0 ?aa1 ?aa2 ?aa3 ?aa4 ?aa5 ?i27 ?aa6 ?aa7 ?aa8 ?aa9 ?aa_ ?aba ?abb ?abd ?abe ?abf ?abg ?abh ?abi ?abj ?abk ?abl ?abm ?abn ?abo ?abp ?abq ?abr ?abt ?abu ?abv ?abw ?abx ?aby ?abz ?abA ?abB ?abC ?abD ?abE ?abF ?abG ?abH ?abI ?abJ ?abK ?QN ?nN0 ?exN ?aB ?gB ?rB ?iB
  (case nb=>exact(Eq.refl true))
  (case aC0 |aC1 |aC2 |aC3 |aC4 |aC5=>refine' ⟨?a,?b,?c,?d,?e,?f,?g⟩;(case a=>k_is);(case b=>k_is);(case c=>k_is);(case d=>k_is);(case e=>k_is);(case f=>k_is);(case g=>k_is))
  (case QN=>refine' Mir.Og ?aC ?lC ?nC ?tC ?xa ?xb ?xc ?xd ?xe ?xf ?xg ?xh ?xi ?xj ?xk ?lI ?yI ?wI ?ja ?jb ?jc ?jd;(case aC=>k_is);(case lC=>k_is);(case nC=>k_is);(case tC=>exact(Eq.refl true));(case xa=>k_is);(case xb=>exact rfl);(case xc=>exact rfl);(case xd=>k_is);(case xe=>k_is);(case xf=>k_is);(case xg=>k_is);(case xh=>k_is);(case xi=>exact rfl);(case xj=>k_is);(case xk=>k_is);(case lI=>k_is);(case yI=>k_is);(case wI=>k_is);(case ja=>k_is);(case jb=>k_is);(case jc=>k_is);(case jd=>k_is))
  (case ao1 |ao2 |ao3 |ao4 |ao5 |ao6 |ao7 |ao8 |abu |abv |abw |abx |aby |abz |abA |abE=>refine' ⟨_,_,Mir.u_ ?a ?l ?c ?k⟩;(case a=>k_is);(case l=>k_is);(case c=>k_is);(case k=>k_is))
  (case a0 |a1 |ao9 |abB |abC |abD |abF |abG=>refine' Mir.u_ ?a ?l ?c ?k;(case a=>k_is);(case l=>k_is);(case c=>k_is);(case k=>k_is))
  (case aaK |aaM |aaN |aaU |aaX |aaZ |aa7 |aa8 |aa_ |aba |abb |abd |abe |abf |abi |abk |abl |abn |abo |abp |abq |abr |abt=>refine' ⟨_,_,Mir.vm ?a ?l ?c ?k ?i⟩;(case a=>k_is);(case l=>k_is);(case c=>k_is);(case k=>k_is);(case i=>k_is))
  (case aaJ |aaL |aaV |aaW |aaY |aa6 |aa9 |abg |abh |abj |abm=>refine' Mir.vm ?a ?l ?c ?k ?i;(case a=>k_is);(case l=>k_is);(case c=>k_is);(case k=>k_is);(case i=>k_is))
  (case z0 |z1 |z2 |z3 |z4 |z5 |z6 |zS |nf0 |nf1 |nf2 |nf3 |nf4 |nf5 |nf6 |nf7 |nf8 |nf9 |aaC |aaD |aaE |aaF |aaG |aaH |aaI |ao0 |lo0 |yo0 |wo0 |lt0 |aaO |aaP |aaQ |aaR |aaS |i16 |aa0 |aa1 |aa2 |aa3 |aa4 |i27 |abH |abI |abJ |abK |nN0 |aB |gB |rB |iB=>k_is)
  (case dt0 |aaT |aa5=>rfl)
  (case exN=>exact(Eq.refl (some true)))
