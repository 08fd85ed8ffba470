import PyProof.Rows.All
import Wide.All
import OpenK.AllK
import PySem.Challenge.RW_taglook_k65_refused_of_things
set_option Elab.async false
set_option compiler.extract_closed false
set_option bootstrap.genMatcherCode false
set_option genSizeOf false
set_option linter.all false
set_option genInjectivity false
set_option maxRecDepth 100000
set_option maxHeartbeats 4000000
open PySem renaming Addr->f',Value->g',Shared->iv,wpAny_bind->j',wpAny->nc,Expr->p',model->B',starEach->D',Heap->F',wpAny_pure->I',Pos->K',Stmt->O',World->T',sizeLine->U',Scope->V',Program->W',backTo->À,FuncData->Â,Env->Ã,Around->Ä,cLine->Æ,mainGlobals->Ï,compareOp->Ú,codeAny->Û,wpAny_mono->Ý,Tok->ã,Paired->é,Sem->ê,swapsWith->ì,wpAny_holding->î,sysModules->ð,CmpOp->ñ,holding->ô,backToKw->ö,keywordEach->ø,Builtin->ù,standAt->û,attributeBase->ý,wpAny_Call_Name_kw->ÿ,sizeLine_eq->ą,rawInt->ć,bootBuiltins->Ĉ,wpAny_field->Ċ,pyNext->č,getMethod->Ď,assignEach->Đ,foldedSetIterable->đ,Operator->Ē,codeAny_mono->Ĕ,callWith->ĕ,stored->ė,wpAny_call->ě,call_meets->Ğ,plainId_quiet->ğ,IsPair->Ġ,relabel->ġ,pyIter->Ħ,wpAny_truthy_bool->ħ,BindsTo->ĩ,Keyword->ĭ,atKey->į,codeAny_builtin->ı,ZipApart->ĳ,execs->ĺ,wpAny_execs_nil->Ļ,wpAny_passesOwn->ļ,bindL->ŀ,bindC->Ł,typeLookup->ł,callerA->Ń,wpAny_rule->Ņ,Flow->Ŏ,isTrue->ŏ,again->ő,binaryOp->Œ,Result->œ,getItem->Ŕ,valueAt->Ŗ,DictEntry->ŗ,excClassObj->Ř,getAttr?->Ś,setFlight->ś,wpAny_setField->Ŝ,wpAny_typeOf->ş,field->Š,wpAny_call_entry->š,IsEnum->Ť,tupleKind->ū,spliced->Ů,PassesOwn->Ű,truthy->ű,behindInMarks->Ų,lastMarks->ų,getAttr->Ŵ,NameKind->Ÿ,mem_of_lookup->Ż,sliceBounds->ż,OwnTail->ſ,wpAny_pyIter_dict->ό,wpAny_callSpecial?_slot->ύ,BoolOp->ϗ,wpAny_execs_cons->Ϟ,assign->ϟ,setAttr->Ϣ,bindArgs->Ϩ,leaving->Ϫ,Arguments->Ϭ,IsPart->Ϯ,typeIs_str->ϯ,tupleKind_room_in1->ϱ,Params->ϲ,wpAny_attempt->ϴ,setField->ϵ,wpAny_newObj_type->Ϸ,noteFrame->ϸ,wpAny_standAt->Ϲ,getattributeRaised->aa_,wpAny_pyIter_list->aa3,slicePicked->aba,wpAny_pyIter_enum->abd,wpAny_typeNameOfWhole_keyiter->abf,wpAny_typeNameOf_keyiter->abg,wpAny_loadPart'->abh,Within->abn,builtinsNs->abp,wpAny_Name->abq,letOwnedTupleGo->abr,wpAny_load->abt,wpAny_loadPart->abx,codeAny_call_function->abL,wpAny_newFunctionEnv_cells->abN,codeAny_func->abO,seqIndex?->abR,seqIndex_of->abS,seqIndex_neg->abT,subscripted->abU,call_meetsIn->abW,call->abY,ExcBaseFacts->abZ,codeAny_call_builtin->ab_,getAttrBy->ab0,getAttrBy?->ab2,ExceptHandler->ab6,handleBy->ab7,wpAny_isInstance->ab9,entryFor->aca,seqItems?->acb,callType_codes->acd,wpAny_seqItems->acf,wpAny_updateSeq->acg,wpAny_letGo->ach,wpAny_ite_split->aci,loadIfAlive->acj,wpAny_nextOf_list_item->ack,evalArgs_none->acr,Comprehension->acB,boot_len->acE,lookup_relabel_local->acF,wpAny_Expr_any->acV,wpAny_assign_Name->acW,wpAny_pyNext_list_item->acX,wpAny_pyNext_list_end->acY,intBits_le_64->ac_,wpAny_truthy_list->ac3,wpAny_lookBehind->ac7,pastItsLine_dict->ac8,plainObj_wpAny_Assign_Attribute->ade,wpAny_Tuple_spliced->adh,slot_list_getitem->adk,call_list_seq->adm,fitsIndex_both->adt,wpAny_specialOf->adx,wpAny_Dict_empty->adz,wpAny_loadPart_at->adC,wpAny_isSubtype_exc->adG,wpAny_Try_except->adS,sub_AttributeError->adT,am_miss_of_fast->adU,wpAny_tryCatch->adV,wpAny_dictSet_pairs->adX,stored_length_le->adY,kt_code_dict_new->ad1,wpAny_notOrdered_dict->ad3,wpAny_nextOf_list_end->aea,isSubtype_stop->aed,entryFor_alias->aef,wpAny_Call_method0_late->aeg,meets_dict_items->aej,call_function_tree->aez,wpAny_letOwnedTupleGo_enum->aeB,wpAny_fieldsOf->aeL,wpAny_dictEntries->aeN,wpAny_dictEpoch->aeO,wpAny_isOneOf_keyiter->aeP,firstArgMember->aeS,methodCallForm->aeZ
open PySem.W renaming Frag->G',keepIn->Î,findIn->ç,fnOf->í,nsIn->ò,kitOne->õ,kia_one->þ,codeIn->Ĭ,notCls->İ,hasDictIn->Ľ,specialIn->ľ,callWith_K->Ŀ,instObj->Ō,exmOne->ŝ,kitAny->Ş,takesIn->Ŷ,mroIn->ŷ,lookIn->ϡ,any_some->ϣ,emptyDict->Ϥ,looks_findIn->ϥ,isFn->ϧ,methodCall_KW->ϩ,cellsFrom_some->ϫ,Looks->ϳ,mg_of->abm,InstAt->abu,plainOver->abv,takerIn->abw,looks_clsIn->aby,makesIn->abz,typeIn->abA,InitBack->abB,plainGet->abC,plainGet_of->abD,findObj_own->abE,kitx_tuple->abF,callWith_K0->abG,codeRec_of->abM,clsIn->ab3,set_plain->ac4,bind_fn->ac9,handedIn->ac',kitx_list->adf,kitx_dict->adg,OpenLaw->adA,WalkO->adB,looks_mroIn->adH,findObj->adM,looks_find->adN,readsIn->adO,findCls->adP,mg_none_of->aeH
open Nat renaming le_trans->N',lt_of_lt_of_le->P',le_refl->R',ne_of_lt->X',le_of_eq->Á,lt_trans->Ó,ne_of_gt->Þ,le_add_right->à,lt_of_le_of_lt->â,lt_irrefl->ä,le_of_lt->ó,le_succ->Ā,zero_le->ĉ,succ_le_succ->ť,le_of_not_lt->ϐ,lt_succ_self->ϕ,lt_succ_of_lt->aa',min_le_right->aco,succ_ne_self->acz,le_total->acD,zero_add->acG,min_le_left->acK,le_succ_of_le->adp,min_eq_left->aeU,lt_or_eq_of_le->ae1,sub_le->ae3,le_of_ble_eq_true->afc,lt_of_le_of_ne->afg
open PySem.Heap renaming lt_size->Q',get?_push_of_some->Y',get?_push_size->Ò,get?_update_other->ď,get?_update_self->ĝ,SameBut->Ĺ,size_push->ŵ,get?_update_ne->adJ,get?_push_at->adK,update_setField_same->adQ,ExtBut->aeR
open List renaming mem_of_getElem?->Å,range->É,getElem?_eq_some_iff->Ê,mem_cons->Ì,mem_map->Ð,mem_append->Ñ,getElem?_eq_getElem->Ô,map_map->Ö,map_cons->Ù,getElem?_map->Ü,length_map->ß,all_eq_true->á,mem_append_right->å,size_toArray->æ,getElem?_append_left->ë,mem_singleton->ï,mem_iff_getElem?->ú,map_append->ā,nodup_append->Ă,append_nil->Ć,length_cons->ċ,find?_cons->Ė,lookup_cons->Ę,mem_range->ę,length_append->Ģ,filter_eq_self->Ĥ,nodup_cons->Ī,getElem?_append_right->ī,any_cons->Į,mem_append_left->ĸ,getElem?_eq_none->ň,getElem?_set_ne->ō,length_take->ŕ,all_cons->ţ,not_mem_nil->Ŧ,take_succ->ŧ,forall_mem_cons->Ũ,mem_cons_of_mem->Ŭ,getElem?_set_self->ŭ,of_mem_zip->Ź,replicate->ź,filter_cons->Ž,getElem?_inj->ϋ,take_of_length_le->ϒ,getElem?_mapIdx->Ϙ,take_length->Ϛ,idxOf_lt_length_of_mem->ϛ,filterMap_cons->ϝ,lookup->Ϧ,length_set->Ϻ,foldl_cons->aa7,mem_map_of_mem->aa9,map_inj_right->abi,mem_of_mem_take->abk,mem_filter->abo,length->abI,getElem?_replicate->abJ,take_sublist->abK,length_drop->abQ,getElem?_set->ab5,length_zip->acn,range_succ_eq_map->acs,map_congr_left->acv,drop_eq_getElem_cons->acx,find?_some->acC,map_id'->acI,map_id->acJ,range'->acL,mem_flatMap->acM,append_of_mem->acN,getElem_inj->acS,mem_filterMap->acZ,getElem?_take_of_lt->adi,drop_zero->ad4,forIn_toArray->ad7,forIn_cons->ad9,forIn_nil->ad',eq_nil_of_length_eq_zero->aer,drop_of_length_le->aet,all_map->aex,any_map->aey,findIdx?_eq_some_iff_getElem->aeD,mem_iff_getElem->aeE,ext_getElem?->aeV,length_mapIdx->ae_,cons_append->ae2,pairwise_map->ae5,nodup_range->ae7,length_take_of_le->ae8,getElem?_take->afb,getElem_map->afd,countP_map->afe,mem_zipIdx_iff_getElem?->afh
open PyProof.Rows renaming envOfC->Ç,AllBare->Č,IsTup->ķ,callWith_type1->Ő,IntsAre->ž,boot_dict->Ϗ,callWith_builtin1->ϭ,boot_isinstance->ϻ,Subscript_->abP,boot_list->acp,Constant_none->acT,subscriptTail_builtinR->adj,iadd_int->afm
open Option renaming map_eq_some_iff->È,map_some->ņ,bind_eq_some_iff->ř,isSome_iff_exists->abH,isSome_map->abV,getD_none->adl,isSome_some->adu
open PySem.Value renaming ref->Ë,str->ă,none->Ą,int->Ŋ,type->ŋ,builtin->ab1,isInt->acO,isStrOf->acP,bool->acQ
open Ne renaming symm->Í
open Bool renaming and_eq_true->Õ,and_eq_true_iff->Ø,false_eq_true->Ĳ,false_ne_true->ϔ,not_eq_true'->ϖ,and_self->aem,or_eq_false_iff->ae0
open False renaming elim->è
open True renaming intro->ü
open PySem.Calls renaming spliced_cons->ē,spliced_nil->Ĩ,callWith_builtin->ϰ,Name_function_global->acU
open PySem.Builtin.Str renaming occurrences->Ě,strSliceIndices->acw,searchArgs->aeF,strSomeArgs->agI,strArg->agJ,searchRange->agK,textOf->agL
open PySem.Obj renaming mapSeq->Ĝ,data_mapFields->ń,mapFields->ϊ,isFreed_of_fields->ab4,cls_mapFields->ab8
open Prod renaming mk->ģ
open Sum renaming inr->ĥ,inl->ũ
open PySem.Builtin.SmallTypes renaming nextOf->Ĵ,ownedTupleIsFree->aa4
open PySem.SeqAt renaming EqAt->ĵ,RcAt->aeo
open Int renaming natCast_nonneg->Ķ,emod_nonneg->ϙ,ne_of_gt->Ϡ,toNat_natCast->aa5,emod_lt_of_pos->acH,le_of_lt->ac0,toNat_of_nonneg->ae9
open PySem.Expr renaming Name->Ň
open PySem.F renaming plainAttrs_list->ŉ,slot_dict_items->ϑ,slot_zip_next->aa6,plainAttrs_dict->aa8,slot_dict_keyiterator_next->abe,slot_list_getattribute->ab',slot_zip_getattribute->acm,type_dict_items->acq,slot_list_index->acA,slot_list_append->adn,slot_list_extend->ado,slot_list_pop->adq,slot_dict_pop->adw,attr_ValueError->adL,kt_called_dict->adZ,kt_typeCall_dict_1->ad_,entry_dict_init->ad0,args_dict_init_2->ad2,entry_zip_next->aeb,args_zip_next_1->aec,entry_dict_items->aeh,args_dict_items_1->aei,excBase_ValueError->aek,entry_all_loop->aes,plain_all_loop->aeu,entry_any_loop->aev,plain_any_loop->aew,slot_list_insert->aeC,slot_str_index->aeG,slot_dict_itemiterator_iter->aeI,entry_dict_keyiterator_next->aeJ,args_dict_keyiterator_next_1->aeK,slot_enumerate_next->aeT,type_list_index->aeX,plainAttrs_str->aeY,slot_list_count->aff
open PySem.Str renaming length->Ţ,ofString->ώ,cps_append->abl,empty->ada,length_append->ae'
open PySem.Paired renaming length->Ū,snoc->adv
open Option.some renaming inj->ů,injEq->agG
open PySem.NameKind renaming free->ϓ,cell->acy
open Nat.succ renaming inj->Ϝ
open ForInStep renaming yield->abb
open List.Nodup renaming sublist->abj,length_le_of_subset->agP
open PySem.Heap.DictOf renaming new->abX
open PySem.Builtin.Dict renaming updateFrom->ace,pairItems->adW,addKeywords->afv,selfAndRest->afw
open Classical renaming propDecidable->acu
open Array renaming append_assoc->acR,getElem?_eq_some_iff->adR,forIn_toList->ad8,toList_append->afa
open PySem.P renaming truthy_int->ac1,truthy_str->ac2
open PySem.W.Looks renaming here->ac5
open PySem.Within renaming cons->ac6
open PySem.Heap.Ns1 renaming of_empty->adb
open PySem.Code renaming quiet_builtin->adF
open PySem.Builtin.List renaming listExtendWith->ad5,listSameRef->ad6,listTooLong->afp,listLengthHint->afs,listItems->aft
open PySem.Around renaming under_plainId->aee
open List.cons renaming inj->ael,injEq->aeW
open Function renaming comp_def->aen
open PySem.SeqAt.EqAt renaming same->aep,int_str->afi,str_int->afj
open PySem.SeqAt.RcAt renaming tuples->aeq,none_none->afx,none_bool->afy,none_int->afz,none_str->afA,none_list->afB,none_tuple->afC,bool_none->afD,bool_bool->afE,bool_int->afF,bool_str->afG,bool_list->afH,bool_tuple->afI,int_none->afJ,int_bool->afK,int_int->afL,int_str->afM,int_list->afN,int_tuple->afO,str_none->afP,str_bool->afQ,str_int->afR,str_str->afS,str_list->afT,str_tuple->afU,list_none->afV,list_bool->afW,list_int->afX,list_str->afY,lists->afZ,lists_lengths->af_,list_tuple->af0,tuple_none->af1,tuple_bool->af2,tuple_int->af3,tuple_str->af4,tuple_list->af5
open PySem.Walks renaming list->aeA
open PySem.Builtin.Dict_items renaming ownsTuple->aeM
open PySem.Heap.SameBut renaming update->aeQ,refl->afu
open PySem.PassesOwn renaming never->ae4,leaving->agO
open List.Pairwise renaming imp_of_mem->ae6,map->agN
open PySem.Builtin.Range renaming rangeSize->afk
open PySem.DictEntry renaming refKey->afl
open PySem.Heap.IsSliceOf renaming new->afn
open PySem.IsL renaming update->afo
open PySem.Value.ref renaming inj->afq
open PySem.EntryCells renaming newEntry->afr
open PySem.SeqAt.RcNeAt renaming none_none->af6,none_bool->af7,none_int->af8,none_str->af9,none_list->af',none_tuple->aga,bool_none->agb,bool_bool->agc,bool_int->agd,bool_str->age,bool_list->agf,bool_tuple->agg,int_none->agh,int_bool->agi,int_int->agj,int_str->agk,int_list->agl,int_tuple->agm,str_none->agn,str_bool->ago,str_int->agp,str_str->agq,str_list->agr,str_tuple->ags,list_none->agt,list_bool->agu,list_int->agv,list_str->agw,lists->agx,lists_lengths->agy,list_tuple->agz,tuple_none->agA,tuple_bool->agB,tuple_int->agC,tuple_str->agD,tuple_list->agE,tuples->agF
open PySem.AutoListH renaming list_insert_list_int_val_1->agH
open PySem.ScopeKind renaming function->agM
open Option renaming some->J
open Option renaming none->_n
open Bool renaming true->_t
open Bool renaming false->_d
open PySem renaming Str->L
theorem Y{α:Sort _}{a:α}:a=a:=rfl
abbrev B(α:Type _):=List α
abbrev _o(α:Type _):=Option α
def V_0(_:True:=by rfl):=0
def V_:=V_0._auto_1
def P30(_:True:=by decide):=0
def P3:=P30._auto_1
def v40(_:True:=by simp<;>omega):=0
def v4:=v40._auto_1
def _a0(_:True:=by exact dg):=0
def _a:=_a0._auto_1
def _b0(_:True:=by first|exact .inl Y|exact .inr Y|assumption):=0
def _b:=_b0._auto_1
noncomputable section
namespace L2
variable{E X2:Bool}
def bL(h:(E&&X2)=_t):=(Ø.mp h).1
def bR(h:(E&&X2)=_t):=(Ø.mp h).2
variable{U4:Prop}
theorem bD{a}{z:a}(h:_n=J z):U4:=nomatch h
theorem Ab{α}{l:B α}{i a}(h:l[i]?=J a):i<l.length:=(Ê.mp h).1
def fc{a b c:Nat}(h:a<=b)(d:autoParam (b<=c) P3):=N' h d
def UW{a b c:Nat}(h:a<=b)(d:autoParam (b<c) P3):=â h d
theorem GD{a b c}(h:a<b)(d:autoParam (b<=c+1) P3):a<=c:=by omega
theorem Qi{a b:Nat}{c:Int}(h:a<=b)(d:autoParam (b<c) P3):a<c:=by omega
theorem Ku{a b:Nat}{c:Int}(h:a<b)(d:autoParam (b<=c) P3):a<c:=by omega
def xa{G:Prop}{p q}(h:p/\q)(k:p->q->G):=k h.1 h.2
def xe{A}{G:Prop}{p:A->Prop}(h:∃a,p a)(k:∀a,p a->G):=h.elim λa h=>k a h
def mO{G:Prop}{p q r}(h:p/\q/\r)(k:p->q->r->G):=k h.1 h.2.1 h.2.2
def bN{A}{G:Prop}{p q:A->Prop}(h:∃a,p a/\q a)(k:∀a,p a->q a->G):=h.elim λa h=>k a h.1 h.2
def aH{A}{G:Prop}{p q r:A->Prop}(h:∃a,p a/\q a/\r a)(k:∀a,p a->q a->r a->G):=h.elim λa h=>k a h.1 h.2.1 h.2.2
def cy{A B}{G:Prop}{p q:A->B->Prop}(h:∃a b,p a b/\q a b)(k:∀a b,p a b->q a b->G):=h.elim λa h=>h.elim λb h=>k a b h.1 h.2
def iA{G:Prop}{p q r s t}(h:p/\q/\r/\s/\t)(k:p->q->r->s->t->G):=k h.1 h.2.1 h.2.2.1 h.2.2.2.1 h.2.2.2.2
theorem iL{A}{G:Prop}{p q}{r s:A->Prop}(h:p/\q/\∃a,r a/\s a)(k:p->q->∀a,r a->s a->G):G:=by obtain⟨l,m,a,n,e⟩:=h;exact k l m a n e
def dJ{A}{G:Prop}{p q r s:A->Prop}(h:∃a,p a/\q a/\r a/\s a)(k:∀a,p a->q a->r a->s a->G):=h.elim λa h=>k a h.1 h.2.1 h.2.2.1 h.2.2.2
def aP{A B}{G:Prop}{p q r:A->B->Prop}(h:∃a b,p a b/\q a b/\r a b)(k:∀a b,p a b->q a b->r a b->G):=h.elim λa h=>h.elim λb h=>k a b h.1 h.2.1 h.2.2
def ei{A B C}{G:Prop}{p q:A->B->C->Prop}(h:∃a b c,p a b c/\q a b c)(k:∀a b c,p a b c->q a b c->G):=h.elim λa h=>h.elim λb h=>h.elim λc h=>k a b c h.1 h.2
def dm{G:Prop}{p q r s t u}(h:p/\q/\r/\s/\t/\u)(k:p->q->r->s->t->u->G):=k h.1 h.2.1 h.2.2.1 h.2.2.2.1 h.2.2.2.2.1 h.2.2.2.2.2
def bT{A B}{G:Prop}{p q r s:A->B->Prop}(h:∃a b,p a b/\q a b/\r a b/\s a b)(k:∀a b,p a b->q a b->r a b->s a b->G):=h.elim λa h=>h.elim λb h=>k a b h.1 h.2.1 h.2.2.1 h.2.2.2
def cD{A B C}{G:Prop}{p q r:A->B->C->Prop}(h:∃a b c,p a b c/\q a b c/\r a b c)(k:∀a b c,p a b c->q a b c->r a b c->G):=h.elim λa h=>h.elim λb h=>h.elim λc h=>k a b c h.1 h.2.1 h.2.2
def gj{A B C D}{G:Prop}{p q:A->B->C->D->Prop}(h:∃a b c d,p a b c d/\q a b c d)(k:∀a b c d,p a b c d->q a b c d->G):=h.elim λa h=>h.elim λb h=>h.elim λc h=>h.elim λd h=>k a b c d h.1 h.2
def bW{A B}{G:Prop}{p q r s t:A->B->Prop}(h:∃a b,p a b/\q a b/\r a b/\s a b/\t a b)(k:∀a b,p a b->q a b->r a b->s a b->t a b->G):=h.elim λa h=>h.elim λb h=>k a b h.1 h.2.1 h.2.2.1 h.2.2.2.1 h.2.2.2.2
def bG{A B C}{G:Prop}{p q r s:A->B->C->Prop}(h:∃a b c,p a b c/\q a b c/\r a b c/\s a b c)(k:∀a b c,p a b c->q a b c->r a b c->s a b c->G):=h.elim λa h=>h.elim λb h=>h.elim λc h=>k a b c h.1 h.2.1 h.2.2.1 h.2.2.2
def bj{A B C D}{G:Prop}{p q r:A->B->C->D->Prop}(h:∃a b c d,p a b c d/\q a b c d/\r a b c d)(k:∀a b c d,p a b c d->q a b c d->r a b c d->G):=h.elim λa h=>h.elim λb h=>h.elim λc h=>h.elim λd h=>k a b c d h.1 h.2.1 h.2.2
def jh{A B C}{G:Prop}{p q r s t u:A->B->C->Prop}(h:∃a b c,p a b c/\q a b c/\r a b c/\s a b c/\t a b c/\u a b c)(k:∀a b c,p a b c->q a b c->r a b c->s a b c->t a b c->u a b c->G):=h.elim λa h=>h.elim λb h=>h.elim λc h=>k a b c h.1 h.2.1 h.2.2.1 h.2.2.2.1 h.2.2.2.2.1 h.2.2.2.2.2
def cg{A B C D}{G:Prop}{p q r s t:A->B->C->D->Prop}(h:∃a b c d,p a b c d/\q a b c d/\r a b c d/\s a b c d/\t a b c d)(k:∀a b c d,p a b c d->q a b c d->r a b c d->s a b c d->t a b c d->G):=h.elim λa h=>h.elim λb h=>h.elim λc h=>h.elim λd h=>k a b c d h.1 h.2.1 h.2.2.1 h.2.2.2.1 h.2.2.2.2
def bu{A B C D}{G:Prop}{p q r s t u:A->B->C->D->Prop}(h:∃a b c d,p a b c d/\q a b c d/\r a b c d/\s a b c d/\t a b c d/\u a b c d)(k:∀a b c d,p a b c d->q a b c d->r a b c d->s a b c d->t a b c d->u a b c d->G):=h.elim λa h=>h.elim λb h=>h.elim λc h=>h.elim λd h=>k a b c d h.1 h.2.1 h.2.2.1 h.2.2.2.1 h.2.2.2.2.1 h.2.2.2.2.2
open PySem PySem.Spec PyProof.Rows
abbrev Key:=Sum Int L
noncomputable def pW:Key->g'->Bool
 |.inl k,v=>acO k v
 |.inr x,v=>acP x v
noncomputable def Xn(w:T'):Key->Int
 |.inl k=>hashInt k
 |.inr x=>hashStr w x
theorem bX:∀{k}{v},pW k v=_t->(∃i t,k=ũ i/\v=Ŋ i t)\/(∃x t,k=ĥ x/\v=ă x t)
 |.inl i,v,h=>by
  obtain⟨t,e⟩:=Value.isInt_shape h
  simp_all
 |.inr x,v,h=>by
  obtain⟨t,e⟩:=Value.isStrOf_shape h
  simp_all
theorem Ac(i t):pW (.inl i) (.int i t)=true:=by simp[pW,acO]
theorem Ad(x t):pW (.inr x) (.str x t)=true:=by simp[pW,acP]
theorem LX(a b):decide ((ũ a:Key)=ũ b)=(a==b):=by
 grind
theorem LY(a b):decide ((ĥ a:Key)=ĥ b)=decide (a=b):=by
 simp
theorem LZ(a:Int)(b:L):decide ((ũ a)=ĥ b)=false:=Y
theorem L0(a:L)(b:Int):decide ((ĥ a)=ũ b)=false:=Y
def bH(prog w):PySem.KeyKind prog w Key where
 is:=pW
 hash:=Xn w
 inj:=λv a b g f=>by
  rcases bX g with ⟨i,t,rfl,rfl⟩|⟨x,t,rfl,rfl⟩
  .rcases bX f with ⟨j,u,rfl,e⟩|⟨y,u,rfl,e⟩
   .injection e with c _;rw[c]
   .exact nomatch e
  .rcases bX f with ⟨j,u,rfl,e⟩|⟨y,u,rfl,e⟩
   .exact nomatch e
   .injection e with c _;rw[c]
 byValue:=λk v h=>by
  rcases bX h with ⟨i,t,rfl,rfl⟩|⟨x,t,rfl,rfl⟩<;>rfl
 pyHash:=λd h=>by
  rcases bX d with ⟨i,t,rfl,rfl⟩|⟨x,t,rfl,rfl⟩
  .exact wpAny_pyHash_int h
  .exact wpAny_pyHash_str h
 eqBool:=λl d h=>by
  rcases bX l with ⟨i,t,rfl,rfl⟩|⟨x,t,rfl,rfl⟩
  .rcases bX d with ⟨j,u,rfl,rfl⟩|⟨y,u,rfl,rfl⟩
   .rw[LX]at h;exact wpAny_eqBool_int h
   .rw[LZ]at h;exact afi i t y u _ _ _ _ h
  .rcases bX d with ⟨j,u,rfl,rfl⟩|⟨y,u,rfl,rfl⟩
   .rw[L0]at h;exact afj x t j u _ _ _ _ h
   .rw[LY]at h;exact wpAny_eqBool_str h
 «strs» := λk x t v h=>by
  rcases bX h with ⟨i,u,rfl,e⟩|⟨y,u,rfl,e⟩
  .exact nomatch e
  .injection e with c _
   subst c;cases v<;>rfl
set_option genInjectivity true in
inductive V where
 |n|bl (b:Bool)|int (i:Int)|str (x:L)|PB (b:Array UInt8)|flt (b:UInt64)|ref (a:f')|ty (n:String)
 deriving DecidableEq
def RelV:V->g'->Prop
 |.n,u=>u=Ą
 |.bl b,u=>u=acQ b
 |.int i,u=>∃t,u=Ŋ i t
 |.str x,u=>∃t,u=ă x t
 |.PB b,u=>∃t,u=Value.bytes b t
 |.flt b,u=>∃t,u=Value.float b t
 |.ref a,u=>u=Ë a
 |.ty n,u=>u=ŋ n
abbrev Vals:=é RelV
def Vals.length{xs a}(r:Vals xs a):=Ū r
theorem Vals.get:∀{xs}{a}{i:Nat}{x},Vals xs a->xs[i]?=J x->∃u,a[i]?=J u/\RelV x u
 |_,_,_,_,.nil,e=>by simp at e
 |_,_,0,_,.cons r _,e=>by simp_all
 |_,_,i+1,x,.cons _ t,e=>by
  obtain⟨u,b,c⟩:=Vals.get t (by simpa using e)
  simp_all
theorem Vals.set{x u}(r:RelV x u):∀{xs}{a} i,Vals xs a->Vals (xs.set i x) (a.set i u)
 |_,_,_,.nil=>.nil
 |_,_,0,.cons _ t=>.cons r t
 |_,_,i+1,.cons q t=>.cons q (Vals.set r i t)
theorem Vals.append:∀{xs a}{b c},Vals xs b->Vals a c->Vals (xs++a) (b++c)
 |_,_,_,_,.nil,s=>s
 |_,_,_,_,.cons r t,s=>.cons r (Vals.append t s)
theorem Vals.take:∀{xs}{a} n,Vals xs a->Vals (xs.take n) (a.take n)
 |_,_,0,_=>.nil
 |_,_,_+1,.nil=>.nil
 |_,_,n+1,.cons r t=>.cons r (Vals.take n t)
theorem Vals.drop:∀{xs}{a} n,Vals xs a->Vals (xs.drop n) (a.drop n)
 |_,_,0,r=>r
 |_,_,_+1,.nil=>.nil
 |_,_,n+1,.cons _ t=>Vals.drop n t
set_option backward.match.sparseCases false in
def iG:_o V->_o g'->Prop
 |J v,J u=>RelV v u
 |_n,_n=>True
 |_,_=>False
def KV{a}:=é λ(p:a×V) (q:a×g')=>p.1=q.1/\RelV p.2 q.2
noncomputable def kV:Key->V
 |.inl i=>.int i
 |.inr x=>.str x
set_option genInjectivity true in
inductive HO where
 |l (xs:List V)
 |t (xs:List V)
 |dK (kvs:List (Key×V))|dT (kvs:List (List Key×V))
 |set (S:Int->Bool) (n:Nat)
 |ins (C dx:f') (fs:List (L×V))
 |own (x:f')
 |xd (fs:List (L×V))
 |met (f x:f')
 |Xo (lo hi:Int)
 |cX (o:Obj) (u:HO)
 |L3 (ps:Array g')
 |ext (φ:F'->Prop)
abbrev Hp:=f'->_o HO
noncomputable def upd(H:Hp)(a:f')(o:HO):Hp:=λb=>if b=a then J o else H b
variable{T2:HO}{e:Hp}{i:f'}
theorem aD:upd e i T2 i=J T2:=by unfold upd;simp_all
variable{S:f'}
theorem av(h:S≠i):upd e i T2 S=e S:=by unfold upd;rw[if_neg h]
theorem aS(h:e i=J T2)(a:e S=_n):i≠S:=by
 grind
section
variable(P:W')(w:T')
def cu(H:Hp)(h:F')(a:f'):HO->Prop
 |.l xs=>xs.length<=U'/\∃b n,Vals xs b/\h.get? a=J {cls:=.type "list",data:=.seq b.toArray n}
 |.t xs=>xs.length<=U'/\∃b,Vals xs b/\ķ h a b.toArray
 |.dK c=>c.length<=U'/\(a==ð)=_d/\∃g,KV c g/\h.DictOf (bH P w) a g
 |.dT c=>c.length<=U'/\(a==ð)=_d/\∃xs,
   é (λp q=>p.1=q.1/\H q.2.1=J (.t (p.1.map kV))/\RelV p.2 q.2.2) c xs /\
   ∃o i ep,h.get? a=J o/\o.ExactDict/\o.data=.dict i ep/\i.toList=xs.map (entryOfKey (ū (bH P w)))/\(xs.map (·.1)).Nodup
 |.set S n=>h.SetOf (intKind P w) a S n
 |.ins C dx fs=>H dx=J (.own a)/\fs.length<=1000/\dx≠a/\h.get? a=J (Ō C dx) /\
   ∃d,h.Ns1 dx d/\(∀f,iG (fs.lookup f) (d f))/\abn d (fs.map (·.1))
 |.own _=>∃o,h.get? a=J o
 |.xd fs=>∃d,h.Ns1 a d/\∀f,iG (fs.lookup f) (d f)
 |.Xo l m=>∃t u v,h.get? a=J {cls:=.type "range",data:=.fields #[.int l t,.int m u,.int 1 v]}
 |.cX o u=>h.get? a=J o/\cu H h a u
 |.L3 r=>h.get? a=J {cls:=.none,data:=.fields r}
 |.met f x=>h.get? a=J (PySem.W.methodObj (.ref f) (.ref x))
 |.ext e=>e h/\(∃o,h.get? a=J o)/\∀j k,e j->(∀o,j.get? a=J o->k.get? a=J o)->e k
def iK(H h):=∀a o,H a=J o->cu P w H h a o
end
theorem cu.lt{P w H h a o}(x:cu P w H h a o):a<h.objs.size:=by
 cases o with
 |l g=>refine xa x λ_ b=>cy b λ_ _ _ e=>Q' e
 |t g=>obtain⟨_,_,_,p⟩:=x;exact p.lt
 |dK c=>refine iL x λ_ _ _ _ b=>ei b λo _ _ e _=>Q' e
 |dT c=>refine iL x λ_ _ _ _ b=>ei b λo _ _ e _=>Q' e
 |set S n=>refine gj x λo _ _ _ e _=>Q' e
 |ins C dx i=>refine iA x λ_ _ _ e _=>Q' e
 |own y=>obtain⟨_,e⟩:=x;exact Q' e
 |xd i=>obtain⟨_,⟨_,_,_,e,_⟩,_⟩:=x;exact Q' e
 |Xo j k=>refine xe x λ_ b=>xe b λ_ d=>xe d λ_ e=>Q' e
 |cX l u=>obtain⟨e,_⟩:=x;exact Q' e
 |L3 m=>exact Q' (x)
 |met f y=>exact Q' (x)
 |ext q=>obtain⟨_,⟨_,e⟩,_⟩:=x;exact Q' e
theorem Paired.GF{α c F G}:∀{l₁:B α}{l₂:B c},é F l₁ l₂->(∀a b,F a b->G a b)->é G l₁ l₂
 |_,_,.nil,_=>.nil
 |_,_,.cons r t,f=>.cons (f _ _ r) (Paired.GF t f)
variable{F2 H:F'}{M:W'}{N:T'}{r0:Hp}
theorem cu.stay(x:cu M N e H i T2)(k:∀b u,(b=i\/e b=J (.own i))->H.get? b=J u->F2.get? b=J u)(D:∀b,e b=J (.own i)->r0 b=J (.own i))(E:∀b xs,e b=J (.t xs)->r0 b=J (.t xs)):cu M N r0 F2 i T2:=by
 induction T2 with
 |l xs=>obtain⟨z,o,n,r,a⟩:=x;exact⟨z,_,n,r,k _ _ (.inl Y) a⟩
 |t xs=>refine xa x λz g=>bN g λo r m=>bN m λh a c=>⟨z,_,r,h,k _ _ (.inl Y) a,c⟩
 |dK s=>refine iL x λz y F r g=>ei g λh j l a c=>⟨z,y,F,r,h,j,l,k _ _ (.inl Y) a,c⟩
 |dT s=>
  refine iL x λz y xs r g=>ei g λh j l a c=>⟨z,y,xs,Paired.GF r λp q z=>⟨z.1,E _ _ z.2.1,z.2.2⟩,h,j,l,k _ _ (.inl Y) a,c⟩
 |set S n=>refine gj x λh j l t a c=>⟨h,j,l,t,k _ _ (.inl Y) a,c⟩
 |ins C dx G=>
  obtain⟨d,z,I,a,w,⟨A,j,l,e2,c⟩,r⟩:=x;exact⟨D _ d,z,I,k _ _ (.inl Y) a,w,⟨A,j,l,k _ _ (.inr d) e2,c⟩,r⟩
 |own y=>obtain⟨h,a⟩:=x;exact⟨h,k _ _ (.inl Y) a⟩
 |xd G=>obtain⟨w,⟨A,j,l,a,c⟩,r⟩:=x;exact⟨w,⟨A,j,l,k _ _ (.inl Y) a,c⟩,r⟩
 |Xo P Q=>refine xe x λt g=>xe g λu m=>xe m λv a=>⟨t,u,v,k _ _ (.inl Y) a⟩
 |cX h u K=>obtain⟨a,q⟩:=x;exact⟨k _ _ (.inl Y) a,K q⟩
 |L3 R=>
  exact k i _ (.inl Y) x
 |met f y=>
  exact k i _ (.inl Y) x
 |ext T=>obtain⟨p,⟨T2,a⟩,O⟩:=x;exact⟨by grind,⟨T2,k _ _ (.inl Y) a⟩,O⟩
def iK.lt{P w H h a o}(x:iK P w H h)(e:H a=J o):=(x a o e).lt
theorem iK.fresh(x:iK M N e H)(a:H.objs.size<=i):e i=none:=by
 cases q:e i with
 |none=>rfl
 |some u=>exact absurd (P' (x.lt q) a) (by simp)
theorem iK.kept(x:iK M N e H)(k:∀b u,H.get? b=J u->F2.get? b=J u):iK M N e F2:=λa o c=>
 (x a o c).stay (λb u _ q=>k b u q) (λ_ q=>q) λ_ _ q=>q
theorem iK.laid{a:f'}{o}(x:iK M N e H)(k:∀b u,H.get? b=J u->F2.get? b=J u)(h:H.objs.size<=a)(i:cu M N (upd e a o) F2 a o):iK M N (upd e a o) F2:=λb u d=>by
 have f:=x.fresh h
 by_cases g:b=a
 .subst g;rw[aD]at d;simp_all
 .rw[av g]at d
  exact(x b u d).stay (λc v _ q=>k c v q) (λc q=>by rwa[av (aS q f)]) λc j q=>by rwa[av (aS q f)]
def Rd(H:Hp)(a u):=H a=J u\/∃o,H a=J (.cX o u)
theorem Rd.ok(r:Rd e i T2)(x:iK M N e H):cu M N e H i T2:=by
 rcases r with r|⟨o,r⟩
 .exact x i T2 r
 .obtain⟨_,q⟩:=x i _ r
  exact q
def UX:_o HO->Prop
 |J (.l _)=>True
 |J (.dK _)=>True
 |J (.dT _)=>True
 |J (.set _ _)=>True
 |J (.ins _ _ _)=>True
 |J (.ext _)=>True
 |_=>False
theorem iK.write(ok:iK M N e H)(f:UX (e i))(n:S=i\/e S=J (.own i))(k:∀b u,b≠S->H.get? b=J u->F2.get? b=J u)(d:∃u,F2.get? S=J u)(l:cu M N (upd e i T2) F2 i T2):iK M N (upd e i T2) F2:=λb u q=>by
 have a:∀c y,e c=J (.own y)->c≠i:=λc y r z=>by subst z;rwa[r]at f
 by_cases g:b=i
 .subst g;rw[aD]at q;simp_all
 .rw[av g]at q
  by_cases m:b=S
  .have h:e b=J (.own i):=by
    simp_all
   rw[q]at h;cases h
   obtain⟨v,o⟩:=d;exact⟨v,by simp_all⟩
  .refine(ok b u q).stay (λc v p r=>k c v ?_ r) (λc r=>by rwa[av (a c b r)]) λc j r=>by rwa[av ((λc j r z=>by subst z;rwa[r]at f) c j r)]
   grind
structure Un(fs ex:B f')(H H':Hp)(h h':F'):Prop where
 keep:∀b o,h.get? b=J o->H b=_n->b∉fs->b∉ex->h'.get? b=J o
 slot:∀b o,h.get? b=J o->H b=_n->b∈fs->b∉ex->∃sl,h'.get? b=J {o with slots:=sl}
 free:∀b o,h.get? b=J o->H b=_n->b∉ex->H' b=_n
 there:∀b o,h.get? b=J o->b∉ex->∃o',h'.get? b=J o'
 tups:∀b xs,H b=J (.t xs)->H' b=J (.t xs)
 fh:∀b o u,H b=J (.cX o u)->H' b=J (.cX o u)
 gu:∀b ps,H b=J (.L3 ps)->∃more,H' b=J (.L3 (ps++more))
variable{Q1 z:B f'}
theorem Un.any(u:Un z Q1 e r0 H F2){ob}(q:H.get? i=J ob)(n:e i=_n)(a:i∉Q1):∃c,F2.get? i=J {ob with slots:=c}:=by
 by_cases b:i∈z
 .exact u.slot i ob q n b a
 .exact⟨_,u.keep i ob q n b a⟩
variable{y8:Hp}
theorem Un.trans{l}(a:Un z Q1 e r0 H F2)(b:Un z Q1 r0 y8 F2 l):Un z Q1 e y8 H l where
 keep:=λc d q n h f=>b.keep c d (a.keep c d q n h f) (a.free c d q n f) h f
 slot:=λc d q n h f=>by
  obtain⟨o,g⟩:=a.slot c d q n h f;obtain⟨j,e2⟩:=b.slot c _ g (a.free c d q n f) h f;exact⟨j,e2⟩
 free:=λc d q n f=>by
  obtain⟨k,g⟩:=a.there c d q f;exact b.free c k g (a.free c d q n f) f
 there:=λc d q f=>by
  obtain⟨k,g⟩:=a.there c d q f;exact b.there c k g f
 tups:=λc i q=>b.tups c i (a.tups c i q)
 fh:=λc d i q=>b.fh c d i (a.fh c d i q)
 gu:=λc m q=>by
  obtain⟨m1,g⟩:=a.gu c m q;obtain⟨m2,e2⟩:=b.gu c _ g;exact⟨m1++m2,by rw[e2,acR]⟩
theorem Un.kept(k:∀b u,H.get? b=J u->F2.get? b=J u):Un z Q1 e e H F2:=
 ⟨by simp_all,λb a q _ _ _=>⟨_,k b a q⟩,by simp_all,by simp_all,by simp,by simp,λ_ c q=>⟨#[],by simp_all⟩⟩
theorem Un.laid{a:f'}{o}(k:∀b u,H.get? b=J u->F2.get? b=J u)(d:H.objs.size<=a)(c:e a=_n):Un z Q1 e (upd e a o) H F2 where
 keep:=λb u q _ _ _=>k b u q
 slot:=λb u q _ _ _=>⟨_,k b u q⟩
 free:=λb u q n _=>by rwa[av (X' (P' (Q' q) d))]
 there:=λb u q _=>⟨u,k b u q⟩
 tups:=λb f q=>by rwa[av (aS q c)]
 fh:=λb u f q=>by rwa[av (aS q c)]
 gu:=λb g q=>⟨#[],by rw[av (aS q c),q];simp⟩
variable{c9:B f'}
theorem Un.mono{a}(u:Un z c9 e r0 H F2)(g:∀b∈z,b∈Q1)(i:∀b∈c9,b∈a):Un Q1 a e r0 H F2:=
 ⟨λb c q n h d=>u.keep b c q n (λf=>h (g b f)) (by grind),λ_ _ q n _ d=>u.any q n (by grind),λb c q n d=>u.free b c q n (by grind),λb c q d=>u.there b c q (by grind),u.tups,u.fh,u.gu⟩
noncomputable def trk(h:F')(H:Hp):=(É h.objs.size).filter λa=>(H a).isSome
def vP(h H):=PySem.W.hideAll h (trk h H)
variable{R0:Obj}
theorem GG(a:(vP H e).get? i=J R0):H.get? i=J R0/\e i=none:=by
 have b:=PySem.W.of_hideAll _ a;refine⟨b,?_⟩;cases q:e i with
 |none=>rfl
 |some x=>
  have z:(vP H e).get? i=none:=PySem.W.hideAll_none _ (abo.mpr ⟨ę.mpr (Q' b),by simp[q]⟩)
  simp_all
def GH(g h:F')(L):=(É h.objs.size).filterMap λa=>if a=L\/(g.get? a).isSome=_t then _n else (h.get? a).map λo=>(a,o)
def rest(g h L d):=(GH g h L).filter λp=>decide (p.1≠d)
structure Mod(K:G')(mg:L->_o g')(base:F'):Prop where
 BW:K.In base
 glob:base.Ns Ï mg
 blt:∃mb,base.Ns abp mb/\∀x:L,x≠"__name__"->mb x=Ĉ x
 nolimit:base.NoLimit
structure Cx where
 prog:W'
 w:T'
 K:G'
 mg:L->_o g'
 base:F'
 A:Ä
 N:B L
 s₀:iv
 H₀:Hp
 env:Ã
 outer:B Ã
 stack:B Ã
 ex:B f'
 fn:L->Bool
 calm:Bool
 pn:B (f'×Obj)
 xe:g'->iv->Prop
def frs(l:B Ã):=l.filterMap (·.frame)
abbrev Cx.fs(X:Cx):=frs X.outer
def BL(a:V')(x):=a.names.lookup x=J .local\/a.names.lookup x=J .cell\/a.names.lookup x=J .free
def Loc(a:V')(x):=a.names.lookup x=J .local\/a.names.lookup x=J .cell
def Look(a:Ã)(h:F')(m:L->_o g')(x u):=
 (a.kindOf x=J .local/\m x=J u)\/((a.kindOf x=J .cell\/a.kindOf x=J .free)/\∃c,a.cells.lookup x=J c/\h.IsCell c (J u))
structure Cx.Ok(X:Cx):Prop where
 mod:Mod X.K X.mg X.base
 kind:X.env.scope.kind=.function
 glob:X.env.globals=Ï
 blt:X.env.builtins=abp
 above:X.s₀.heap.objs.size<=X.env.locals
 inj:∀x y c,X.env.cells.lookup x=J c->X.env.cells.lookup y=J c->x=y
 has:∀x,(X.env.kindOf x=J .cell\/X.env.kindOf x=J .free)->∃c,X.env.cells.lookup x=J c
 cab:∀x c,X.fn x=_t->X.env.cells.lookup x=J c->X.s₀.heap.objs.size<=c
 hd:X.calm=_t->X.A.handled=_n
 frames:X.A.frames=J X.stack
 Kv:X.stack=X.outer\/(X.stack=X.env::X.outer/\X.env.frame=J X.env.locals)
 L_:∀b∈X.ex,b≠X.env.locals/\∀x c,X.env.cells.lookup x=J c->c≠b
 bs:∀b o,X.base.get? b=J o->X.s₀.heap.get? b=J o/\X.H₀ b=_n
 xZ:X.base.objs.size<=X.s₀.heap.objs.size
 t6:∀b o,X.base.get? b=J o->b∉X.ex
 t7:∀b∈X.ex,b∉X.fs
 iH:X.s₀.heap.FunFrames X.base X.outer
 BN:∀b∈X.fs,X.H₀ b=_n
structure Inv(X:Cx)(pins:B (f'×Obj))(σ:B (_o V))(H:Hp)(s:iv):Prop where
 ok:X.Ok
 os:s.os=X.s₀.os
 bare:Č s.gens
 base:Un X.fs X.ex X.H₀ H X.s₀.heap s.heap
 loc:∃m,s.heap.Ns X.env.locals m/\∀(i:Nat) (x:L) (v:V),X.N[i]?=J x->σ[i]?=J (J v)->BL X.env.scope x->∃u,RelV v u/\Look X.env s.heap m x u
 cell:∀x c,X.env.cells.lookup x=J c->∃v,s.heap.IsCell c v
 free:H X.env.locals=_n
 dE:∀x c,X.env.cells.lookup x=J c->(H c=_n\/∃o u,H c=J (.cX o u))/\(X.fn x=_t->H c=_n)
 pin:∀p∈X.pn++pins,s.heap.get? p.1=J p.2/\H p.1=_n/\p.1≠X.env.locals/\p.1∉X.fs/\∀v,p.2.data≠.cell v
 hok:iK X.prog X.w H s.heap
 len:σ.length=X.N.length
variable{c:Cx}
theorem Cx.Ok.Xp(ok:c.Ok)(e:c.base.get? i=J R0):i∉c.fs:=λa=>by
 have:=(ok.iH.mem a).1
 grind
theorem Inv.bs{X pins a H s}(I:Inv X pins a H s):∀b o,X.base.get? b=J o->s.heap.get? b=J o/\H b=none:=λb o e=>
 ⟨I.base.keep b o (I.ok.bs b o e).1 (I.ok.bs b o e).2 (I.ok.Xp e) (I.ok.t6 b o e),I.base.free b o (I.ok.bs b o e).1 (I.ok.bs b o e).2 (I.ok.t6 b o e)⟩
variable{R:B (f'×Obj)}{o4:B (_o V)}{y:iv}
def Inv.bk(I:Inv c R o4 e y):=λb o a=>(I.bs b o a).1
def Inv.mod{X pins a H s}(I:Inv X pins a H s):=I.ok.mod
def Inv.ej(I:Inv c R o4 e y):=I.ok.mod.BW.keeps I.bk
def Inv.lt{X pins a H s}(I:Inv X pins a H s):=bN (I.loc) λ_ b _=>b.lt
def Inv.sz(I:Inv c R o4 e y):=N' I.ok.above (ó I.lt)
theorem Inv.Xq(I:Inv c R o4 e y)(h:y.heap.objs.size<=i):i∉c.fs:=λa=>by
 obtain⟨_,o,b,_⟩:=I.ok.iH.mem a;exact absurd (P' (Q' b) (N' I.sz h)) (by simp)
theorem Inv.Qj(I:Inv c R o4 e y):∀x a,c.env.cells.lookup x=J a->a≠c.env.locals:=λx a b z=>by
 obtain⟨v,o,g,h⟩:=I.cell x a b;obtain⟨m,⟨i,j,k,d,f,_⟩,_⟩:=I.loc
 simp_all
theorem Inv.iH{X pins h H s}(I:Inv X pins h H s):s.heap.FunFrames X.base X.outer:=by
 have a:∀(l:B _),(∀b∈frs l,b∈X.fs)->X.s₀.heap.FunFrames X.base l->s.heap.FunFrames X.base l:=by
  intro l
  induction l with
  |nil=>intro _ _;trivial
  |cons i r j=>
   intro f k;obtain⟨m,⟨L,o,g,n,p,q⟩,t⟩:=k;have c:=f L (by unfold frs;simp_all)
   obtain⟨u,e⟩:=I.base.slot L o p (I.ok.BN L c) c λz=>I.ok.t7 L z c
   exact⟨m,⟨L,_,g,n,e,q⟩,j (λb d=>f b (by unfold frs;rw[ϝ,g];exact Ŭ _ d)) t⟩
 exact a _ (λ_ d=>d) I.ok.iH
theorem Inv.stack{X pins a H s}(I:Inv X pins a H s):s.heap.FunFrames X.base X.stack:=by
 rcases I.ok.Kv with e|⟨e,b⟩
 .rw[e];exact I.iH
 .rw[e]
  refine bN I.loc λm c _=>?_
  refine .cons (by rw[I.ok.kind];decide) b c (Heap.get?_none_of_le (N' I.ok.xZ I.ok.above)) I.iH
theorem Inv.rj(I:Inv c R o4 e y):∀b∈frs c.stack,b∈c.env.locals::c.fs:=λb d=>by
 rcases I.ok.Kv with a|⟨a,f⟩
 .simp_all
 .rw[a]at d
  unfold frs at d;rwa[ϝ,f]at d
theorem Inv.ka(I:Inv c R o4 e y):∀b∈frs c.stack,e b=none:=λb hb=>by
 rcases Ì.mp (I.rj b hb)with a|hb
 .rw[a];exact I.free
 .obtain⟨_,o,d,_⟩:=I.ok.iH.mem hb
  exact I.base.free b o d (I.ok.BN b hb) λz=>I.ok.t7 b z hb
variable{B6:Array GenState}{b:Nat}{z6:Drawn}
theorem Inv.step{s}{ch:B f'}(I:Inv c R o4 e s)(y:∀a∈ch,(a∈c.ex\/c.s₀.heap.objs.size<=a)/\a≠c.env.locals/\(∀x g,c.env.cells.lookup x=J g->g≠a)/\∀p∈c.pn++R,p.1≠a)(keep:∀a o,a≠c.env.locals->a∉c.fs->a∉ch->s.heap.get? a=J o->e a=_n->H.get? a=J o)(slot:∀a o,a≠c.env.locals->a∈c.fs->a∉ch->s.heap.get? a=J o->e a=_n->∃T,H.get? a=J {o with slots:=T})(free:∀a o,a∉ch->s.heap.get? a=J o->e a=_n->r0 a=_n)(there:∀a o,a∉ch->s.heap.get? a=J o->∃K,H.get? a=J K)(tups:∀a xs,e a=J (.t xs)->r0 a=J (.t xs))(fh:∀a o u,e a=J (.cX o u)->r0 a=J (.cX o u))(gu:∀a O,e a=J (.L3 O)->∃more,r0 a=J (.L3 (O++more)))(ns:∀m,s.heap.Ns c.env.locals m->H.Ns c.env.locals m)(M:iK c.prog c.w r0 H)(hg:Č B6):
  Inv c R o4 r0 {s with heap:=H,gens:=B6,drawn:=z6,toks:=b}:=by
 have N:∀a o,c.s₀.heap.get? a=J o->a≠c.env.locals:=λa o f=>X' (P' (Q' f) I.ok.above)
 have C:∀a o,c.s₀.heap.get? a=J o->a∉c.ex->a∉ch:=λa o f j E=>by
  rcases(y a E).1 with z|z
  .exact j z
  .exact absurd (P' (Q' f) z) (ä _)
 have A:∀x g,c.env.cells.lookup x=J g->∀v,s.heap.IsCell g v->H.IsCell g v:=λx g f v  zf =>bN zf λo D P=>by
  have h:g∉ch:=λz=>(y g z).2.2.1 x g f Y
  rcases(I.dE x g f).1 with F|⟨G,Q,S⟩
  .by_cases V:g∈c.fs
   .obtain⟨T,q⟩:=slot g o (I.Qj x g f) V h D F
    exact⟨_,q,P⟩
   .exact⟨o,keep g o (I.Qj x g f) V h D F,P⟩
  .have t:s.heap.get? g=J G:=(I.hok g _ S).1
   have e2:H.get? g=J G:=(M g _ (fh g G Q S)).1;rw[D]at t;cases t
   exact⟨o,e2,P⟩
 refine⟨I.ok,I.os,hg,⟨λa o f n E j=>?_,λa o f n E j=>?_,λa o f n j=>?_,λa o f j=>?_,λa xs f=>tups a xs (I.base.tups a xs f),λa o xs f=>fh a o xs (I.base.fh a o xs f),λa O f=>?_⟩,?_,λx g f=>?_,?_,λx g f=>?_,λp X=>?_,M,I.len⟩
 .exact keep a o (N a o f) E (C a o f j) (I.base.keep a o f n E j) (I.base.free a o f n j)
 .obtain⟨T,t⟩:=I.base.slot a o f n E j
  obtain⟨U,e2⟩:=slot a _ (N a o f) E (C a o f j) t (I.base.free a o f n j);exact⟨U,e2⟩
 .obtain⟨K,t⟩:=I.base.there a o f j
  exact free a K (C a o f j) t (I.base.free a o f n j)
 .obtain⟨K,t⟩:=I.base.there a o f j
  exact there a K (C a o f j) t
 .obtain⟨m1,t⟩:=I.base.gu a O f
  obtain⟨m2,e2⟩:=gu a _ t;exact⟨m1++m2,by rw[e2,acR]⟩
 .refine bN I.loc λm F hl=>?_
  refine⟨m,ns m F,λi x v t e2 e3=>?_⟩
  obtain⟨u,r,l⟩:=hl i x v t e2 e3;refine⟨u,r,?_⟩;rcases l with l|⟨k,g,f,z⟩
  .exact .inl l
  .exact .inr ⟨k,g,f,A x g f _ z⟩
 .obtain⟨v,z⟩:=I.cell x g f
  exact⟨v,A x g f v z⟩
 .obtain⟨m,⟨o,_,_,D,_⟩,_⟩:=I.loc
  exact free _ o (λz=>(y _ z).2.1 Y) D I.free
 .refine cy (I.cell x g f) λv o D P=>?_
  have h:g∉ch:=λz=>(y g z).2.2.1 x g f Y
  refine⟨?_,λhf=>free g o h D ((I.dE x g f).2 hf)⟩
  rcases(I.dE x g f).1 with F|⟨G,Q,S⟩
  .exact .inl (free g o h D F)
  .exact .inr ⟨G,Q,fh g G Q S⟩
 .refine iA (I.pin p X) λf n Z nf d=>?_
  have h:p.1∉ch:=λz=>(y p.1 z).2.2.2 p X Y
  exact⟨keep p.1 p.2 Z nf h f n,free p.1 p.2 h f n,Z,nf,d⟩
theorem Inv.un{s}(I:Inv c R o4 e s)(u:Un c.fs [] e r0 s.heap H)(g:iK c.prog c.w r0 H):Inv c R o4 r0 {s with heap:=H,toks:=b}:=by
 obtain⟨m,⟨o,t,x,i,r⟩,_⟩:=id I.loc;obtain⟨y,j⟩:=u.any i I.free (by simp)
 exact I.step (ch:=[]) (λ_ z=>nomatch z) (λa o _ h _ d n=>u.keep a o d n h (by simp)) (λa o _ h _ d n=>u.slot a o d n h (by simp)) (λa o _ d n=>u.free a o d n (by simp)) (λa o _ d=>u.there a o d (by simp)) u.tups u.fh u.gu (λA k=>by
  refine ei k λC l p f q=>?_
  rw[i]at f;cases f
  exact⟨_,_,_,j,q⟩) g I.bare
theorem Inv.call{s}(I:Inv c R o4 e s)(u:Un (frs c.stack) z e r0 s.heap H)(k:iK c.prog c.w r0 H)(t:Č B6)(i:∀a∈z,(a∈c.ex\/c.s₀.heap.objs.size<=a)/\a≠c.env.locals/\(∀x g,c.env.cells.lookup x=J g->g≠a)/\∀p∈c.pn++R,p.1≠a):
  Inv c R o4 r0 {s with heap:=H,gens:=B6,drawn:=z6,toks:=b}:=by
 obtain⟨m,⟨o,F,G,q,r⟩,_⟩:=id I.loc;obtain⟨K,l⟩:=u.any q I.free λf=>(i _ f).2.1 Y
 exact I.step i (λa o l y h d n=>u.keep a o d n (λf=>(Ì.mp (I.rj a f)).elim l y) h) (λa o _ _ h d n=>u.any d n h) (λa o h d n=>u.free a o d n h) (λa o h d=>u.there a o d h) u.tups u.fh u.gu (λM A=>by
  refine ei A λN C D j E=>?_
  rw[q]at j;cases j
  exact⟨_,_,_,l,E⟩) k t
theorem Inv.turned{s}(I:Inv c R o4 e s)(k:∀a o,a≠i->s.heap.get? a=J o->H.get? a=J o)(F:e i=_n)(h:i≠c.env.locals)(j:i∈c.ex\/c.s₀.heap.objs.size<=i)(l:∀x f,c.env.cells.lookup x=J f->f≠i)(t:∀p∈c.pn++R,p.1≠i):Inv c R o4 e {s with heap:=H,toks:=b}:=by
 have w:∀a u,e a=J u->a≠i:=λa u d z=>by simp_all
 refine I.step (ch:=[i]) (λa y=>?_) (λa o _ _ g d _=>k a o (λz=>g (by simp[z])) d) (λa o _ _ g d _=>⟨_,k a o (λz=>g (by simp[z])) d⟩) (λ_ _ _ _ n=>n)
  (λa o g d=>⟨o,by simp_all⟩) (λ_ _ d=>d) (λ_ _ _ d=>d) (λa G d=>⟨#[],by simp_all⟩) (λm A=>?_) (λa u d=>?_) I.bare
 .have d:=by simpa using y
  subst d;exact⟨j,h,l,t⟩
 .refine ei A λo C D E r=>⟨o,C,D,k _ o (Í h) E,r⟩
 .refine(I.hok a u d).stay (λf v g q=>k f v ?_ q) (λ_ q=>q) λ_ _ q=>q
  grind
theorem Inv.tok{s}(I:Inv c R o4 e s)(t):Inv c R o4 e {s with toks:=t}:=I.un (Un.kept λ_ _ q=>q) I.hok
theorem Inv.kept{X pins a H s c t'}(I:Inv X pins a H s)(k:∀b u,s.heap.get? b=J u->c.get? b=J u):Inv X pins a H {s with heap:=c,toks:=t' }:=I.un (Un.kept k) (I.hok.kept k)
theorem Inv.laid{X pins f H s c}{a:f'}{o t'}(I:Inv X pins f H s)(k:∀b u,s.heap.get? b=J u->c.get? b=J u)(d:s.heap.objs.size<=a)(e:cu X.prog X.w (upd H a o) c a o):
  Inv X pins f (upd H a o) {s with heap:=c,toks:=t' }:=I.un (Un.laid k d (I.hok.fresh d)) (I.hok.laid k d e)
theorem Inv.write{X pins g H s a x e o t'}(I:Inv X pins g H s)(h:UX (H x))(j:e=x\/H e=J (.own x))(k:∀b u,b≠e->s.heap.get? b=J u->a.get? b=J u)(c:∃u,a.get? e=J u)(d:cu X.prog X.w (upd H x o) a x o):Inv X pins g (upd H x o) {s with heap:=a,toks:=t' }:=I.un (by
    have l:∀b,H b=_n->b≠x:=λb n z=>by subst z;rwa[n]at h
    have i:∀b,H b=_n->b≠e:=λb n z=>by
     grind
    have f:∀b u,H b=J u->¬ UX (J u)->b≠x:=λb u q p z=>by simp_all
    refine⟨λb u q n _ _=>k b u (i b n) q,λb u q n _ _=>⟨_,k b u (i b n) q⟩,λb u q n _=>by rwa[av (l b n)],λb u q _=>?_,
     λb m q=>by rwa[av (f b _ q λz=>z)],λb u m q=>by rwa[av (f b _ q λz=>z)],λb r q=>⟨#[],by rw[av (f b _ q λz=>z),q];simp⟩⟩
    grind) (I.hok.write h j k c d)
theorem Inv.weak{a}(I:Inv c R o4 e y)(d:a.length=o4.length)(w:∀(i:Nat) v,a[i]?=J (J v)->o4[i]?=J (J v)):Inv c R a e y:=
 ⟨I.ok,I.os,I.bare,I.base,let ⟨m,f,b⟩:=I.loc;⟨m,f,λi x v g e2 h=>b i x v g (w i v e2) h⟩,I.cell,I.free,I.dE,I.pin,I.hok,d.trans I.len⟩
theorem Inv.x_{a}(I:Inv c R o4 e y)(h:∀p∈a,y.heap.get? p.1=J p.2/\e p.1=_n/\p.1≠c.env.locals/\p.1∉c.fs/\∀v,p.2.data≠.cell v):Inv c a o4 e y:=
 ⟨I.ok,I.os,I.bare,I.base,I.loc,I.cell,I.free,I.dE,λp b=>(Ñ.mp b).elim (λz=>I.pin p (ĸ _ z)) (h p),I.hok,I.len⟩
variable{d:L}{l:B L}{m:Nat}
theorem t9(e:l.Nodup)(a:l[b]?=J d)(c:l[m]?=J d):b=m:=by
 obtain⟨g,f⟩:=Ê.mp a;obtain⟨h,e2⟩:=Ê.mp c;exact(acS e).mp (f.trans e2.symm)
variable{L4:Unit->iv->Prop}{O:V}{x6:Model}{ζ:g'}{ο:Ä}{ψ:g'->iv->Prop}
theorem pX{s}(I:Inv c R o4 e s)(hN:c.N.Nodup)(M:c.N[b]?=J d)(x:Loc c.env.scope d)(r:RelV O ζ)(h:∀U,Inv c R (o4.set b (J O)) e U->(∃a,Ĺ a s.heap U.heap/\(a=c.env.locals\/c.env.cells.lookup d=J a))->L4 () U)(hf:autoParam (c.fn d=_t\/c.env.scope.names.lookup d=J .local) _b):nc x6 ο (storeName c.env d ζ) L4 ψ s:=by
 obtain⟨m,V,hl⟩:=id I.loc;have E:b<o4.length:=by rw[I.len];exact(Ê.mp M).1
 have F:=I.Qj
 have t:∀{a:f'}{K:F'},(∃o,s.heap.get? a=J o/\e a=_n)->Ĺ a s.heap K->iK c.prog c.w e K:=λ{a K} ha l g ob f=>by
  obtain⟨_,_,X⟩:=ha;refine(I.hok g ob f).stay (λi Z A q=>(l.2 i ?_).trans q) (λ_ q=>q) λ_ _ q=>q
  grind
 rcases x with hk|hk
 .refine wpAny_storeName_local hk V (λK a0 l=>?_) (by rw[I.ok.kind];rfl)
  obtain⟨oL,_,_,b0,_⟩:=id V;refine h _ ⟨I.ok,I.os,I.bare,⟨λg o f n G x=>?_,λg o f n G x=>?_,I.base.free,λg o f x=>?_,I.base.tups,I.base.fh,I.base.gu⟩,⟨_,a0,λj y v' u e2 e3=>?_⟩,λy i f=>?_,I.free,I.dE,λp hp=>?_,t ⟨oL,b0,I.free⟩ l,by simpa using I.len⟩ ⟨_,l,.inl Y⟩
  .exact(l.2 g (X' (P' (Q' f) I.ok.above))).trans (I.base.keep g o f n G x)
  .obtain⟨sl,u⟩:=I.base.slot g o f n G x
   exact⟨sl,(l.2 g (X' (P' (Q' f) I.ok.above))).trans u⟩
  .obtain⟨o',u⟩:=I.base.there g o f x
   exact⟨o',(l.2 g (X' (P' (Q' f) I.ok.above))).trans u⟩
  .by_cases H:j=b
   .subst H
    rw[M]at u;cases u
    rw[ŭ E]at e2;cases e2;exact⟨ζ,r,.inl ⟨hk,by simp⟩⟩
   .rw[ō (Í H)]at e2
    obtain⟨u',r',q⟩:=hl j y v' u e2 e3;refine⟨u',r',?_⟩;rcases q with ⟨k,f⟩|⟨k,i,f,z⟩
    .refine .inl ⟨k,?_⟩
     have:y≠d:=λf=>H (t9 hN u (f▸M))
     simp[this,f]
    .exact .inr ⟨k,i,f,z.sameBut l (F y i f)⟩
  .obtain⟨Z,z⟩:=I.cell y i f
   exact⟨Z,z.sameBut l (F y i f)⟩
  .refine iA (I.pin p hp) λf n S nf C=>?_
   exact⟨(l.2 p.1 S).trans f,n,S,nf,C⟩
 .have D:c.fn d=true:=by
   rcases hf with z|z
   .exact z
   .rw[z]at hk;cases hk
  obtain⟨i,A⟩:=I.ok.has d (.inl hk);obtain⟨Z,z⟩:=I.cell d i A;refine wpAny_storeName_cell I.ok.kind hk A z (λK P l=>?_)
  refine bN (id z) λoc c0 d0=>?_
  refine h {s with heap:=K} ⟨I.ok,I.os,I.bare,⟨λg o f n G x=>?_,λg o f n G x=>?_,I.base.free,λg o f x=>?_,I.base.tups,I.base.fh,I.base.gu⟩,⟨m,V.sameBut l (Í (F d i A)),λj y v' u e2 e3=>?_⟩,λy T f=>?_,I.free,I.dE,λp hp=>?_,t ⟨oc,c0,(I.dE d i A).2 D⟩ l,by simpa using I.len⟩ ⟨i,l,.inr A⟩
  .exact(l.2 g (X' (P' (Q' f) (I.ok.cab d i D A)))).trans (I.base.keep g o f n G x)
  .obtain⟨sl,u⟩:=I.base.slot g o f n G x
   exact⟨sl,(l.2 g (X' (P' (Q' f) (I.ok.cab d i D A)))).trans u⟩
  .obtain⟨o',u⟩:=I.base.there g o f x
   exact⟨o',(l.2 g (X' (P' (Q' f) (I.ok.cab d i D A)))).trans u⟩
  .by_cases H:j=b
   .subst H
    rw[M]at u;cases u
    rw[ŭ E]at e2;cases e2;exact⟨ζ,r,.inr ⟨.inl hk,i,A,P⟩⟩
   .rw[ō (Í H)]at e2
    obtain⟨u',r',q⟩:=hl j y v' u e2 e3;refine⟨u',r',?_⟩;rcases q with q|⟨k,T,f,z'⟩
    .exact .inl q
    .refine .inr ⟨k,T,f,z'.sameBut l ?_⟩
     rintro rfl;exact H (t9 hN u (I.ok.inj _ _ _ f A▸M))
  .by_cases Q:T=i
   .subst Q;exact⟨_,P⟩
   .obtain⟨w2,z2⟩:=I.cell y T f
    exact⟨w2,z2.sameBut l Q⟩
  .refine iA (I.pin p hp) λf n S nf C=>?_
   refine⟨(l.2 p.1 ?_).trans f,n,S,nf,C⟩
   grind
theorem nN(I:Inv c R o4 e y)(f:c.N.Nodup)(g:c.N[b]?=J d)(i:Loc c.env.scope d)(r:RelV O ζ)(h:∀a,Inv c R (o4.set b (J O)) e a->L4 () a)(j:autoParam (c.fn d=_t\/c.env.scope.names.lookup d=J .local) _b):nc x6 ο (storeName c.env d ζ) L4 ψ y:=
 pX I f g i r (λa k _=>h a k) j
variable{U7:iv}
theorem Inv.call'(I:Inv c R o4 e y)(g:U7.os=y.os)(u:Un (frs c.stack) z e r0 y.heap U7.heap)(d:iK c.prog c.w r0 U7.heap)(h:Č U7.gens)(f:∀b∈z,(b∈c.ex\/c.s₀.heap.objs.size<=b)/\b≠c.env.locals/\(∀x a,c.env.cells.lookup x=J a->a≠b)/\∀p∈c.pn++R,p.1≠b):Inv c R o4 r0 U7:=by
 obtain⟨i,j,k,l,m⟩:=U7;subst g;exact I.call u d h f
abbrev XK:=g'->_o f'->Hp->Prop
abbrev St:=B (_o V)
abbrev VK:=V->Hp->Prop
abbrev TE:=St->Hp->VK->Prop
abbrev TT:=St->Hp->(Bool->Hp->Prop)->Prop
abbrev TA:=St->Hp->(B V->Hp->Prop)->Prop
structure Ends where
 nx:St->Hp->Prop
 rt:VK
 bk:St->Hp->Prop:=λ_ _=>False
 ct:St->Hp->Prop:=λ_ _=>False
abbrev TS:=Ends->St->Hp->Prop
def EP(X)(pins:B (f'×Obj))(b:St)(Q:VK)(u c):=∃v a,Inv X pins b a c/\RelV v u/\Q v a
def TP(X)(pins:B (f'×Obj))(c:St)(Q:Bool->Hp->Prop)(b d):=∃a,Inv X pins c a d/\Q b a
def AP(X)(pins:B (f'×Obj))(c:St)(Q:B V->Hp->Prop)(d:B g')(e):=∃a b,Inv X pins c b e/\Vals a d/\Q a b
def SP(X)(pins:B (f'×Obj))(D:Ends)(f:Ŏ)(c:iv):=
 match f with
 |.next=>∃a b,Inv X pins a b c/\D.nx a b
 |.brk=>∃a b,Inv X pins a b c/\D.bk a b
 |.cont=>∃a b,Inv X pins a b c/\D.ct a b
 |.ret u=>∃v a b,Inv X pins a b c/\RelV v u/\D.rt v b
def PE(X e)(t:TE):=
 ∀pins s (a:St) H Q,Inv X pins a H s->t a H Q->nc (B' X.prog X.w) X.A (eval e X.env) (EP X pins a Q) X.xe s
def PT(X e)(t:TT):=
 ∀pins s (a:St) H Q,Inv X pins a H s->t a H Q->nc (B' X.prog X.w) X.A (ŏ e X.env (eval e X.env)) (TP X pins a Q) X.xe s
def PW(X e)(t:TT):=
 ∀a pins s (b:St) H Q,Inv X pins b H s->t b H Q->nc (B' X.prog X.w) X.A (ŏ e X.env a) (TP X pins b Q) X.xe s
variable{m5:TT}{n:p'}
theorem PW.pt(h:PW c n m5):PT c n m5:=h _
def PA(X)(c:B p')(t:TA):=
 ∀a pins s (b:St) H Q,Inv X pins b H s->t b H Q->nc (B' X.prog X.w) X.A (Ů (À a (D' c X.env))) (AP X pins b Q) X.xe s
def PS(X st)(t:TS):=
 ∀pins s (a:St) H D,Inv X pins a H s->t D a H->nc (B' X.prog X.w) X.A (exec st X.env) (SP X pins D) X.xe s
def j6(X)(st:B O')(t:TS):=
 ∀pins s (a:St) H D,Inv X pins a H s->t D a H->nc (B' X.prog X.w) X.A (ĺ st X.env) (SP X pins D) X.xe s
theorem bO{α}{t:ê α}{Q b}(h:nc x6 ο t Q ψ y)(c:∀a y,Q a y->b a y):nc x6 ο t b ψ y:=Ý h c λ_ _ x=>x
def Xr(i:Nat):TE:=λa H Q=>∃v,a[i]?=J (J v)/\Q v H
def tC(v:V):TE:=λ_ H Q=>Q v H
variable{o:K'}
theorem rl(n:c.N[b]?=J d)(p:BL c.env.scope d)(g:autoParam ((d==("__debug__"))=false) P3)(i:autoParam ((d==("__classdict__"))=false) P3):PE c (.Name d o) (Xr b):=by
 intro pins s q H Q I h;obtain⟨v,e,h⟩:=h;refine bN I.loc λm t w=>?_
 obtain⟨u,r,l⟩:=w b d v n e p;have f:EP c _ q Q u s:=⟨v,H,I,r,h⟩;rcases l with ⟨hk,x⟩|⟨hk,j,k,a⟩
 .exact abq (wpAny_loadName_local I.ok.kind hk t x f) g
 .rcases hk with hk|hk
  .exact abq (wpAny_loadName_cell I.ok.kind hk k a f) g
  .exact abq (wpAny_loadName_free I.ok.kind hk k a f i) g
theorem vQ{i j pos}:PE c (.Constant (.int i) j pos) (tC (.int i)):=λ_ _ _ H _ I h=>wpAny_Constant_int ⟨.int i,H,I.tok _,⟨_,Y⟩,h⟩
theorem Kw{b j pos}:PE c (.Constant (.bool b) j pos) (tC (.bl b)):=λ_ _ _ H _ I h=>Constant_bool ⟨.bl b,H,I,Y,h⟩
theorem BX{j pos}:PE c (.Constant .none j pos) (tC .n):=λ_ _ _ H _ I h=>acT ⟨.n,H,I,Y,h⟩
theorem jI{x j pos}:PE c (.Constant (.str x) j pos) (tC (.str x)):=λ_ _ _ H _ I h=>Calls.Constant_str ⟨.str x,H,I.tok _,⟨_,Y⟩,h⟩
def Gl(X:Cx)(x):=X.env.kindOf x=J .globalImplicit
variable{T3:g'->iv->Prop}{ν:St}
theorem dM(I:Inv c R ν e y)(a:Gl c d)(b:c.mg d=J ζ)(h:T3 ζ y)(f:autoParam ((d==("__debug__"))=false) P3):nc (B' c.prog c.w) c.A (eval (.Name d o) c.env) T3 ψ y:=
 acU I.ok.kind a (Calls.loadGlobal_global (by rw[I.ok.glob];exact I.mod.glob.keeps I.bk) b h) f
theorem fj(I:Inv c R ν e y)(a:Gl c d)(b:c.mg d=_n)(f:Ĉ d=J ζ)(h:T3 ζ y)(g:autoParam (d≠"__name__") P3)(i:autoParam ((d==("__debug__"))=false) P3):nc (B' c.prog c.w) c.A (eval (.Name d o) c.env) T3 ψ y:=by
 obtain⟨l,j,k⟩:=I.mod.blt;exact acU I.ok.kind a (Calls.loadGlobal_builtin (by rw[I.ok.glob];exact I.mod.glob.keeps I.bk) b (by rw[I.ok.blt];exact j.keeps I.bk) ((k d g).trans f) h) i
theorem GI(a:Gl c d)(b:c.mg d=J ζ)(r:RelV O ζ)(e:autoParam ((d==("__debug__"))=false) P3):PE c (.Name d o) (tC O):=
 λ_ _ _ H _ I h=>dM I a b ⟨O,H,I,r,h⟩ e
theorem GJ(a:Gl c d)(b:c.mg d=_n)(e:Ĉ d=J ζ)(r:RelV O ζ)(f:autoParam (d≠"__name__") P3)(g:autoParam ((d==("__debug__"))=false) P3):PE c (.Name d o) (tC O):=
 λ_ _ _ H _ I h=>fj I a b e ⟨O,H,I,r,h⟩ f g
def Xs(t u:TT):TT:=λa H Q=>t a H λc b=>if c=_t then u a b Q else Q _d b
def tOr(t u:TT):TT:=λa H Q=>t a H λc b=>if c=_t then Q _t b else u a b Q
variable{S7:TT}{Z:B p'}{ξ:p'}
theorem pw_and(g:PT c n m5)(i:PW c (.BoolOp .And (ξ::Z) o) S7):PW c (.BoolOp .And (n::ξ::Z) o) (Xs m5 S7):=by
 intro j pins s b H Q I h;refine isTrue_and (bO (g _ s b H _ I h) λa k  l =>bN l λd e f=>?_)
 cases a with
 |true=>exact i j _ k b d Q e f
 |false=>exact⟨d,e,f⟩
theorem pw_or(g:PT c n m5)(i:PW c (.BoolOp .Or (ξ::Z) o) S7):PW c (.BoolOp .Or (n::ξ::Z) o) (tOr m5 S7):=by
 intro j pins s b H Q I h;refine isTrue_or (bO (g _ s b H _ I h) λa k  l =>bN l λd e f=>?_)
 cases a with
 |true=>exact⟨d,e,f⟩
 |false=>exact i j _ k b d Q e f
variable{u0:TE}
theorem Ma{op}(h:PE c n u0):PE c (.BoolOp op [n] o) u0:=λpins s a H Q I b=>BoolOp_one (h _ s a H Q I b)
def PC(t:TT)(d tb:TE):TE:=λa H Q=>t a H λc b=>if c=_t then d a b Q else tb a b Q
variable{E3:TE}{M3:p'}
theorem BY(i:PT c M3 m5)(j:PE c n u0)(k:PE c ξ E3):PE c (.IfExp M3 n ξ o) (PC m5 u0 E3):=by
 intro pins s a H Q I h;refine wpAny_IfExp (bO (i _ s a H _ I h) λd b l=>?_);obtain⟨e,f,g⟩:=l
 cases d with
 |true=>exact j _ b a e Q f g
 |false=>exact k _ b a e Q f g
def mP(K:G')(H a)(xs:B V):=
 Rd H a (.l xs) \/
  ∃o b n,K.lookup a=J o/\o.cls=.type "list"/\o.dict=_n/\o.data=.seq b n/\b.size<=U'/\Vals xs b.toList
def vR(K:G')(H a)(xs:B V):=
 Rd H a (.t xs) \/
  ∃o b n,K.lookup a=J o/\o.cls=.type "tuple"/\o.data=.seq b n/\b.size<=U'/\Vals xs b.toList
noncomputable def Xt:g'->_o V
 |.none=>J .n
 |.bool b=>J (.bl b)
 |.int i _=>J (.int i)
 |.str x _=>J (.str x)
 |.bytes b _=>J (.PB b)
 |.float b _=>J (.flt b)
 |.ref a=>J (.ref a)
 |.type n=>J (.ty n)
 |_=>_n
theorem RelV.abs(r:RelV O ζ):Xt ζ=J O:=by
 cases O with
 |n=>cases r;rfl
 |bl _=>cases r;rfl
 |int _=>obtain⟨t,rfl⟩:=r;rfl
 |str _=>obtain⟨t,rfl⟩:=r;rfl
 |PB _=>obtain⟨t,rfl⟩:=r;rfl
 |flt _=>obtain⟨t,rfl⟩:=r;rfl
 |ref _=>cases r;rfl
 |ty _=>cases r;rfl
def RelV.inj{x y u}(r:RelV x u)(q:RelV y u):=ů (r.abs.symm.trans q.abs)
theorem Vals.inj:∀{xs a}{b},Vals xs b->Vals a b->xs=a
 |_,_,_,.nil,.nil=>Y
 |_,_,_,.cons r t,.cons c d=>by rw[r.inj c,Vals.inj t d]
variable{η:B V}
theorem Inv.list(I:Inv c R ν e y)(h:mP c.K e i η):∃a,Vals η a/\PlainL y.heap i a.toArray/\η.length<=U':=by
 rcases h with h|⟨o,a,n,f,g,j,k,l,r⟩
 .refine xa (h.ok I.hok) λz d=>cy d λa n r b=>⟨_,r,⟨_,n,b,Y,Y,Y⟩,z⟩
 .refine⟨_,r,⟨o,n,I.ej i o f,g,j,by omega⟩,?_⟩
  have b:=r.length
  simp_all
theorem Inv.tuple(I:Inv c R ν e y)(h:vR c.K e i η):∃a,Vals η a/\ķ y.heap i a.toArray/\η.length<=U':=by
 rcases h with h|⟨o,a,n,d,f,g,j,r⟩
 .obtain⟨z,a,r,p⟩:=h.ok I.hok
  exact⟨_,r,p,z⟩
 .refine⟨_,r,⟨o,I.ej i o d,f,n,by omega⟩,?_⟩
  have b:=r.length
  simp_all
variable{N5:B V}
theorem Inv.t_(I:Inv c R ν e y)(h:mP c.K e i η)(g:mP c.K e i N5):η=N5:=by
 obtain⟨b,r,⟨o,n,f,_,_,d⟩,_⟩:=I.list h;obtain⟨a,j,⟨k,l,m,_,_,p⟩,_⟩:=I.list g;have:b=a:=by simp_all
 subst this;exact r.inj j
theorem Inv.Af(I:Inv c R ν e y)(h:vR c.K e i η)(g:vR c.K e i N5):η=N5:=by
 obtain⟨b,r,⟨o,f,_,n,d⟩,_⟩:=I.tuple h;obtain⟨a,j,⟨k,l,_,m,p⟩,_⟩:=I.tuple g;have:b=a:=by simp_all
 subst this;exact r.inj j
noncomputable abbrev Cx.wish(X:Cx)(E:g'->iv->Prop):={X with xe:=E}
noncomputable abbrev Cx.k_(X:Cx):=X.wish λ_ _=>False
theorem Cx.Ok.wish{X:Cx}(ok:X.Ok)(E):(X.wish E).Ok:=
 ⟨ok.mod,ok.kind,ok.glob,ok.blt,ok.above,ok.inj,ok.has,ok.cab,ok.hd,ok.frames,ok.Kv,ok.L_,ok.bs,ok.xZ,ok.t6,ok.t7,ok.iH,ok.BN⟩
theorem Cx.Ok.fk(ok:(c.wish ψ).Ok):c.Ok:=
 ⟨ok.mod,ok.kind,ok.glob,ok.blt,ok.above,ok.inj,ok.has,ok.cab,ok.hd,ok.frames,ok.Kv,ok.L_,ok.bs,ok.xZ,ok.t6,ok.t7,ok.iH,ok.BN⟩
theorem Inv.wish{X pins}{a:St}{H s}(I:Inv X pins a H s)(E):Inv (X.wish E) pins a H s:=⟨I.ok.wish E,I.os,I.bare,I.base,I.loc,I.cell,I.free,I.dE,I.pin,I.hok,I.len⟩
theorem Inv.fk{X pins}{a:St}{H s E}(I:Inv (X.wish E) pins a H s):Inv X pins a H s:=⟨I.ok.fk,I.os,I.bare,I.base,I.loc,I.cell,I.free,I.dE,I.pin,I.hok,I.len⟩
theorem SP.fk{X pins E D f c}(h:SP (X.wish E) pins D f c):SP X pins D f c:=by
 cases f with
 |next=>obtain⟨a,b,I,q⟩:=h;exact⟨_,b,I.fk,q⟩
 |brk=>obtain⟨a,b,I,q⟩:=h;exact⟨_,b,I.fk,q⟩
 |cont=>obtain⟨a,b,I,q⟩:=h;exact⟨_,b,I.fk,q⟩
 |ret u=>refine cD h λv a b I r q=>⟨v,_,b,I.fk,r,q⟩
theorem j6.k_{X st t}(h:j6 X.k_ st t):j6 X st t:=λpins s a H D I b=>
 Ý (h _ s a H D (I.wish _) b) (λ_ _ q=>q.fk) (by simp)
def Xu(t u:TS):TS:=λD a H=>t {D with nx:=u D} a H
variable{C8 T6:TS}{X3:B O'}{ω:O'}
theorem BZ(a:PS c ω T6)(b:j6 c X3 C8):j6 c (ω::X3) (Xu T6 C8):=by
 intro pins s d H D I h;refine Ϟ (bO (a _ s d H _ I h) λf e q=>?_)
 cases f with
 |next=>
  refine cy q λg i j q=>b _ e _ i D j q
 |ret v=>exact q
 |brk=>exact q
 |cont=>exact q
theorem GK(a:PS c ω T6):j6 c [ω] T6:=by
 intro pins s b H D I h;refine Ϟ (bO (a _ s b H D I h) λf d q=>?_)
 cases f with
 |next=>exact Ļ q
 |ret v=>exact q
 |brk=>exact q
 |cont=>exact q
theorem Inv.quiet(I:Inv c R ν e y):interactive c.env=false:=by simp[interactive,I.ok.kind]
def Qk(b:TE):TS:=λD a H=>b a H λ_ c=>D.nx a c
theorem ya(b:PE c n u0)(d:autoParam (ì n _n o.line c.env=pure false) V_):PS c (.Expr n o) (Qk u0):=by
 intro pins s a H D I h;exact acV (bO (b _ s a H _ I h) λv j  e =>aP e λx f g k i=>⟨a,f,g,i⟩) I.quiet d
def Ql:TS:=λD _ H=>D.rt .n H
theorem GL:PS c (.Return _n o) Ql:=λ_ _ a H _ I h=>wpAny_Return_none ⟨.n,a,H,I,Y,h⟩
def Xv(c:TT)(t u:TS):TS:=λD a H=>c a H λb d=>if b=_t then t D a d else u D a d
variable{Z8:B O'}
theorem Qm(i:PT c n m5)(j:j6 c X3 T6)(k:j6 c Z8 C8):PS c (.If n X3 Z8 o) (Xv m5 T6 C8):=by
 intro pins s a H D I h;refine wpAny_If (bO (i _ s a H _ I h) λd b l=>?_);obtain⟨e,f,g⟩:=l
 cases d with
 |true=>exact j _ b a e D f g
 |false=>exact k _ b a e D f g
abbrev TG:=V->St->Hp->(St->Hp->Prop)->Prop
abbrev Kx:=B V->St->Hp->(St->Hp->Prop)->Prop
def PG(X a)(t:TG):=
 ∀pins s (c:St) H v u Q,Inv X pins c H s->RelV v u->t v c H Q ->
  nc (B' X.prog X.w) X.A (ϟ a X.env u) (λ_ e=>∃b d,Inv X pins b d e/\Q b d) X.xe s
def Qn(X)(f:B p')(t:Kx):=
 ∀pins s (b:St) H c d Q,Inv X pins b H s->Vals c d->t c b H Q ->
  nc (B' X.prog X.w) X.A (assignInOrder ((Đ f X.env).map (·.2)) d) (λ_ g=>∃a e,Inv X pins a e g/\Q a e) X.xe s
abbrev Xw:=V->V->V->Hp->(Hp->Prop)->Prop
def Xx(X)(t:Xw):=
 ∀pins s (a:St) H o i v b c u Q,Inv X pins a H s->RelV o b->RelV i c->RelV v u->t o i v H Q ->
  nc (B' X.prog X.w) X.A (setItem b c u) (λ_ e=>∃d,Inv X pins a d e/\Q d) X.xe s
def kb(i:Nat):TG:=λv a H Q=>Q (a.set i (J v)) H
theorem ke(a:c.N.Nodup)(e:c.N[b]?=J d)(f:Loc c.env.scope d)(g:autoParam (c.fn d=_t\/c.env.scope.names.lookup d=J .local) _b):PG c (.Name d o) (kb b):=by
 intro pins s j H v u Q I r h;exact acW (nN I a e f r (λk i=>⟨_,H,i,h⟩) g)
def Qo:Kx:=λa b H Q=>a=[]/\Q b H
def Kz(t:TG)(u:Kx):Kx:=λb c H Q=>∃v r,b=v::r/\t v c H λa d=>u r a d Q
theorem yb:Qn c [] Qo:=by
 intro pins s a H b d Q I r h;obtain⟨e,h⟩:=h;exact assignInOrder_nil ⟨a,H,I,h⟩
variable{w6:TG}
theorem nO{u}(a:PG c n w6)(b:Qn c Z u)(d:autoParam ((Đ (n::Z) c.env).map (·.2)=ϟ n c.env::(Đ Z c.env).map (·.2)) V_):Qn c (n::Z) (Kz w6 u):=by
 intro pins s e H o p Q I r h;obtain⟨v,vr,f,h⟩:=h;subst f;cases r with
 |cons r g=>
  rw[d];refine assignInOrder_cons (bO (a _ s e H _ _ _ I r h) λ_ i  j =>cy j λ_ k l m=>b _ i _ k _ _ Q l g m)
def vS(K:G')(n:Nat)(t:Kx):TG:=λv c H Q=>∃a b,v=.ref a/\vR K H a b/\b.length=n/\t b c H Q
theorem B_{t}(j:c.calm=_t)(h:Qn c Z t)(k:autoParam ((Đ Z c.env).length=m) V_)(g:autoParam ((Đ Z c.env).findIdx? (·.1)=none) V_):PG c (.Tuple Z b o) (vS c.K m t):=by
 intro pins s l H v u Q I r i;obtain⟨a,n,p,q,w,i⟩:=i;subst p;cases r;refine aH (I.tuple q) λx y z C=>?_
 refine assign_Tuple_tuple (I.ok.hd j) z (by simp[k,←w,y.length]) g λD A=>?_
 exact h _ _ l H n _ Q (I.kept λd f e=>A d f (X' (Q' e)) e) (by omega) i
def Mb(b:TE)(g:TG):TS:=λD a H=>b a H λx c=>g x a c D.nx
theorem Mc(b:PE c ξ u0)(d:PG c n w6)(e:autoParam (swapsWithSole [n] ξ o.line c.env=pure false) V_)(f:autoParam (swappedStores [n] ξ c.env=pure none) V_)(g:autoParam ((Đ [n] c.env).map (·.2)=[ϟ n c.env]) V_):PS c (.Assign [n] ξ o) (Mb u0 w6):=by
 intro pins s a H D I h;refine wpAny_Assign_stores (bO (b _ s a H _ I h) λv i j=>?_) e f;refine aP j λx k l m p=>?_
 rw[g];exact bO (d _ i a k x v _ l m p) λ_ r q=>q
variable{T:K'}
theorem Md(a:c.N.Nodup)(e:c.N[b]?=J d)(f:Loc c.env.scope d)(g:PE c n u0)(i:autoParam (ì n (J (.Name d T)) o.line c.env=pure false) V_)(j:autoParam (c.fn d=_t\/c.env.scope.names.lookup d=J .local) _b):
  PS c (.Assign [.Name d T] n o) (Mb u0 (kb b)):=by
 intro pins s k H D I h;refine wpAny_Assign_Name (bO (g _ s k H _ I h) λv u  l =>aP l λy m p q r=>nN p a e f q (λw t=>⟨_,m,t,r⟩) j) i
def Me(c:TT)(tb:TS):TS:=λD a H=>∃W:Nat->St->Hp->Prop,(∃m,W m a H)/\∀m a H,W m a H ->
 c a H λb e=>if b=_t then ∃N,(∀d f,N d f->∃g,g<m/\W g d f)/\tb {D with nx:=N,ct:=N,bk:=D.nx} a e else D.nx a e
theorem Cb(t:Ű (B' c.prog c.w) c.A c.env c.xe)(E:PT c n m5)(F:j6 c X3 T6):PS c (.While n X3 [] o) (Me m5 T6):=by
 intro pins s G H D I h;obtain⟨W,⟨K,M⟩,d⟩:=h;refine wpAny_While (codeAny_whileLoop (λa O=>∃e u,Inv c _ e u O/\W a e u) ?_ K ⟨G,H,I,M⟩)
 rintro a P ⟨Q,x,R,S⟩;refine ļ t (bO (E _ P _ x _ R (d a _ x S)) λb T U=>?_);refine bN U λy z i=>?_
 cases b with
 |true=>
  refine bN i λN C i=>?_
  refine ļ t (bO (F _ T _ y _ z i) λf V j=>?_)
  cases f with
  |next=>
   obtain⟨k,g,l,m⟩:=j;obtain⟨p,q,r⟩:=C _ g m;exact⟨p,q,_,g,l,r⟩
  |cont=>
   obtain⟨k,g,l,m⟩:=j;obtain⟨p,q,r⟩:=C _ g m;exact⟨p,q,_,g,l,r⟩
  |brk=>exact j
  |ret v=>exact j
 |false=>
  exact Ļ ⟨_,y,z,i⟩
structure It where
 go:Nat->Hp->Prop
 UY:Nat->Hp->V->Hp->Prop
 stop:Nat->Hp->Prop
def nP(X:Cx)(pins:B (f'×Obj))(H:Hp)(b):=
 H b=_n/\b≠X.env.locals/\b∉X.fs/\(b∈X.ex\/X.s₀.heap.objs.size<=b)/\(∀x c,X.env.cells.lookup x=J c->c≠b)/\∀p∈X.pn++pins,p.1≠b
theorem Inv.Cc(I:Inv c R ν e y)(d:y.heap.objs.size<=i)(f:r0 i=_n):nP c R r0 i:=by
 refine⟨f,Þ (P' I.lt d),I.Xq d,.inr (N' I.sz d),λx a b z=>?_,λp g z=>?_⟩
 .obtain⟨v,q⟩:=I.cell x a b
  exact absurd (P' q.lt (by rwa[z])) (ä _)
 .exact absurd (P' (Q' (I.pin p g).1) (by rwa[z])) (ä _)
structure Turn(P:W')(w:T')(K:G')(tg:p')(J:It)(fp:B f')(it:f')(tn:Nat->F'->Prop):Prop where
 mem:it∈fp
 obj:∀i h,tn i h->∀b∈fp,∃o,h.get? b=some o/\∀v,o.data≠.cell v
 keep:∀i h h',tn i h->(∀b∈fp,∀o,h.get? b=some o->h'.get? b=some o)->tn i h'
 item:∀(X:Cx),X.prog=P->X.w=w->X.K=K->X.calm=_t->∀(i:Nat) (pins:B (f'×Obj)) (s:iv) (σ:St) (H:Hp) (E:g'->iv->Prop),Inv X pins σ H s->(∀b∈fp,nP X pins H b)->tn i s.heap->J.go i H ->
  nc (B' P w) X.A (č (.ref it)) (λr s1=>∃u,r=some u /\
   nc (B' P w) X.A (abr tg (.ref it) u) (λ_ s2=>∃x H',Inv X pins σ H' s2/\RelV x u/\J.UY i H x H'/\tn (i+1) s2.heap/\∀b∈fp,H' b=_n) E s1) E s
 done:∀(X:Cx),X.prog=P->X.w=w->X.K=K->X.calm=_t->∀(i:Nat) (pins:B (f'×Obj)) (s:iv) (σ:St) (H:Hp) (E:g'->iv->Prop),Inv X pins σ H s->(∀b∈fp,nP X pins H b)->tn i s.heap->J.stop i H ->
  nc (B' P w) X.A (č (.ref it)) (λr s1=>r=_n/\Inv X pins σ H s1) E s
 self:∀(A:Ä) (i:Nat) (s:iv) (Q:g'->iv->Prop) (E:g'->iv->Prop),tn i s.heap->Q (.ref it) s->nc (B' P w) A (Ħ (.ref it)) Q E s
abbrev TI:=St->Hp->(It->Hp->Prop)->Prop
def PIE(X)(pins:B (f'×Obj))(h:St)(i)(R:It->Hp->Prop)(a:g')(d):=
 ∃e f g J c,a=.ref e/\Inv X pins h c d/\Turn X.prog X.w X.K i J f e g/\g 0 d.heap/\(∀b∈f,nP X pins c b)/\R J c
def PI(X b iter)(c:TI):=
 ∀pins s (a:St) H R,Inv X pins a H s->c a H R ->
  nc (B' X.prog X.w) X.A (eval iter X.env) (λv d=>nc (B' X.prog X.w) X.A (Ħ v) (PIE X pins a b R) X.xe d) X.xe s
variable{Q3:Array g'}{o5:String}
theorem ua(b:y.heap.get? i=J R0)(c:R0.cls=.type o5)(d:R0.data=.fields Q3)(e:["enumerate","zip","dict_itemiterator","dict_reverseitemiterator","odict_iterator","itertools.zip_longest","itertools.pairwise"].contains o5=_d)(a:L4 () y):nc x6 ο (abr n (.ref i) ζ) L4 ψ y:=by
  cases n<;>first
    |exact I' a
    | (cases ζ<;>first
        |exact I' a
        | (refine j' (abt b ?_)
           rw[c,d]
           show nc x6 ο (if (["enumerate","zip","dict_itemiterator","dict_reverseitemiterator","odict_iterator","itertools.zip_longest","itertools.pairwise"].contains o5&&Q3[0]?==J _)=_t then _ else _) L4 ψ y
           rw[if_neg (by grind)]
           exact I' a))
noncomputable def Xy(K:G')(a:f'):It:=
 ⟨λi H=>∃b x,mP K H a b/\b[i]?=J x,λi H x c=>c=H/\∀b,mP K H a b->b[i]?=J x,λi H=>∃b,mP K H a b/\b.length<=i⟩
noncomputable def Itt(K:G')(a:f'):It:=
 ⟨λi H=>∃b x,vR K H a b/\b[i]?=J x,λi H x c=>c=H/\∀b,vR K H a b->b[i]?=J x,λi H=>∃b,vR K H a b/\b.length<=i⟩
noncomputable def Xz(a:Int)(n:Nat):It:=⟨λi _=>i<n,λi H x b=>b=H/\x=.int (a+i),λi _=>n<=i⟩
variable{G:G'}
theorem Ag(a g):Turn M N G n (Xy G a) [g] g (λi h=>h.IsListIter g a i) where
 mem:=by simp
 obj:=λi h f b j=>by
  refine aH f λo e c d=>?_
  simp_all
 keep:=λi h Q f k=>f.at λo e=>k g (by simp) o e
 item:=by
  intro X r t w R i pins s S H E I m f y;subst r t w;refine cy y λT x q z=>?_
  refine aH (I.list q) λA C p U=>?_
  refine bN (C.get z) λu V Z=>?_
  refine dm (m g (by simp)) λD F f2 K O P=>?_
  refine acX f p.isList (by simpa using V) λQ l sb=>?_
  refine aH (id l) λo e c d=>?_
  exact⟨u,Y,ua e c d (by decide) ⟨x,H,(I.turned (λb o j e=>(sb.2 b j).trans e) D F K O P),Z,⟨Y,λys hy=>by rwa[I.t_ hy q]⟩,l,λb j=>(m b j).1⟩⟩
 done:=by
  intro X r t w R i pins s S H E I m f y;subst r t w;refine bN y λT q z=>?_
  refine aH (I.list q) λA C p U=>?_
  refine dm (m g (by simp)) λD F f2 K O P=>?_
  have hl:=C.length;exact acY (I.ok.hd R) f p.isList (by simp;exact N' (Á hl.symm) z) λQ eb=>⟨Y,I.turned (λb o j e=>eb b o j e) D F K O P⟩
 self:=λ_ _ _ _ _ f h=>wpAny_pyIter_listiter f h
theorem vT(a g):Turn M N G n (Itt G a) [g] g (λi h=>h.IsTupleIter g a i) where
 mem:=by simp
 obj:=λi h f b l=>by
  refine aH f λo e c d=>?_
  simp_all
 keep:=λi h Q f k=>f.at (by simp_all)
 item:=by
  intro X q r t R i pins s S H E I w f y;subst q r t;refine cy y λT x m z=>?_
  refine aH (I.tuple m) λA C p U=>?_
  refine bN (C.get z) λu V Z=>?_
  refine dm (w g (by simp)) λD F f2 K O P=>?_
  refine wpAny_pyNext_tuple_item f (p) (by simpa using V) λQ j sb=>?_
  refine aH (id j) λo e c d=>?_
  exact⟨u,Y,ua e c d (by decide) ⟨x,H,(I.turned (b:=s.toks) (λb o l e=>(sb.2 b l).trans e) D F K O P),Z,⟨Y,λys hy=>by rwa[I.Af hy m]⟩,j,by simp_all⟩⟩
 done:=by
  intro X q r t R i pins s S H E I w f y;subst q r t;refine bN y λT m z=>?_
  refine aH (I.tuple m) λA C p U=>?_
  refine dm (w g (by simp)) λD F f2 K O P=>?_
  have hl:=C.length;exact wpAny_pyNext_tuple_end (I.ok.hd R) f (p) (by simp;exact N' (Á hl.symm) z) λQ eb=>⟨Y,I.turned (λb o l e=>eb b o l e) D F K O P⟩
 self:=λ_ _ _ _ _ f h=>wpAny_pyIter_tupleiter f h
theorem vV{w}(d g a):Turn M w G n (Xz g a) [d] d (λi h=>IsRangeIter h d (g+i*1) (a - i) 1) where
 mem:=by simp
 obj:=λi h c b j=>by
  simp_all
 keep:=λi h z c k=>k d (by simp) _ c
 item:=by
  intro X A C D l i pins s F H E I m c p;subst A C D;refine dm (m d (by simp)) λq r K u x y=>?_
  have W:=Walks.range (prog:=X.prog) (w:=X.w) (I.ok.hd l) d g 1 a;refine W.item i s _ _ p c λv z Q N f O=>?_
  obtain⟨t,rfl⟩:=N;refine⟨_,Y,ua f Y Y (by decide) ⟨.int _,H,(I.turned (λb o j e=>O b o (by simp_all) e) q r u x y),⟨t,?_⟩,⟨Y,Y⟩,f,by simp_all⟩⟩
  simp
 done:=by
  intro X A C D l i pins s F H E I m c p;refine dm (m d (by simp)) λq r K u x y=>?_
  exact wpAny_pyNext_range_end (I.ok.hd l) c (by have:a<=i:=p;omega) λz P=>⟨Y,I.turned (λb o j e=>P b o j e) q r u x y⟩
 self:=λ_ _ _ _ _ c h=>wpAny_pyIter_rangeiter c h
variable{Q U0:Int}{x8:It->Hp->Prop}
theorem Cd{s t u v}(I:Inv c R ν e s)(g : -(2 ^ 62)<=Q)(h:Q<2 ^ 62)(i : -(2 ^ 62)<=U0)(j:U0<2 ^ 62)(q:x8 (Xz Q (U0 - Q).toNat) e):nc (B' c.prog c.w) c.A (Ħ (.ref s.heap.objs.size)) (PIE c R ν n x8) ψ {s with heap:=s.heap.push {cls:=.type "range",data:=.fields #[.int Q t,.int U0 u,.int 1 v]},toks:=b}:=by
 refine wpAny_pyIter_range (IsRange.new ..) (small_one g h i j) ?_;have f:Inv c _ ν e {s with heap:=s.heap.push {cls:=.type "range",data:=.fields #[.int Q t,.int U0 u,.int 1 v]},toks:=b}:=I.kept λd o a=>Y' _ a
 refine⟨_,_,_,_,e,Y,
  f.kept λd o a=>Y' _ a,vV _ Q _,?_,λd l=>?_,q⟩
 .have k:Q+((0:Nat))*1=Q:=by simp
  have e2:(((U0 - Q).toNat)) - ((0:Nat))=afk Q U0 1:=by rw[rangeSize_one];grind
  rw[k,e2];exact Ò _ Y
 .have a:d=(s.heap.push {cls:=.type "range",data:=.fields #[.int Q t,.int U0 u,.int 1 v]}).objs.size:=by simp_all
  subst a;exact f.Cc (R' _) (f.hok.fresh (R' _))
def Qp(a:TA):TI:=λb H R=>a b H λc d=>∃j,c=[.int j] /\ -(2 ^ 62)<=j/\j<2 ^ 62/\R (Xz 0 j.toNat) d
variable{V3:TA}
theorem Ah(b:Gl c "range")(d:c.mg "range"=_n)(f:PA c [ξ] V3)(g:autoParam (D' [ξ] c.env=[(_d,eval ξ c.env)]) V_):PI c n (.Call (.Name "range" o) [ξ] [] T) (Qp V3):=by
 intro pins s i H R I h;refine Call_ (fj I b d boot_range (Ő (bO (f _ _ s i H _ I h) λw x k=>?_) g Y));refine aP k λy z l m a=>?_
 obtain⟨j,e,a,p,q⟩:=a;subst e;cases m with
 |cons r u=>
  cases u;obtain⟨t,rfl⟩:=r;exact call_range_1 (Cd l (by decide) (by decide) a p (by simp_all))
def XA(f:TI)(g:TG)(tb:TS):TS:=λD a H=>f a H λJ h=>∃W:Nat->Nat->St->Hp->Prop,(∃m,W 0 m a h)/\∀i m a H,W i m a H ->
 (J.stop i H/\D.nx a H)\/(J.go i H/\∃N,(∀b c,N b c->∃e,e<m/\W (i+1) e b c)/\∀x c,J.UY i H x c->g x a c λd j=>tb {D with nx:=N,ct:=N,bk:=D.nx} d j)
def rm(fp:B f')(h:F'):=fp.filterMap λb=>(h.get? b).map λo=>(b,o)
theorem hU(a:i∈z)(e:H.get? i=J R0):(i,R0)∈rm z H:=acZ.mpr ⟨i,a,by rw[e];rfl⟩
theorem Ai{p}(a:p∈rm z H):p.1∈z/\H.get? p.1=J p.2:=by
 obtain⟨b,c,e⟩:=acZ.mp a;cases q:H.get? b with
 |none=>simp_all
 |some o=>
  grind
theorem Inv.pinned(I:Inv c R ν e y)(g:∀b∈z,nP c R e b)(j:∀b∈z,∃o,y.heap.get? b=J o/\∀v,o.data≠.cell v):Inv c (R++rm z y.heap) ν e y:=
 I.x_ λp h=>(Ñ.mp h).elim (λa=>I.pin p (å _ a)) λa=>by
  obtain⟨i,f⟩:=Ai a;refine mO (g _ i) λk l d=>xa d λm _=>?_
  grind
theorem Inv.kg{pl}(I:Inv c (R++pl) ν e y):Inv c R ν e y:=I.x_ λp a=>I.pin p (by simp_all)
variable{T7:TI}
theorem Mf(E:Ű (B' c.prog c.w) c.A c.env c.xe)(hc:c.calm=_t)(hi:PI c n ξ T7)(hg:PG c n w6)(j:j6 c X3 T6)(hs:∀x,đ ξ c.env x=pure x:=by intro _;rfl):PS c (.For n ξ X3 [] o) (XA T7 w6 T6):=by
 intro pins s σ H D I h;refine wpAny_For (bO (hi pins s σ H _ I h) λv s1 h1=>bO h1 λa0 s2 h2=>?_) hs
 obtain⟨it,P,tn,J,H2,e,I2,T,R,f2,W,⟨m0,w0⟩,F⟩:=h2;subst e;have k:∀{y:Hp},(∀b∈P,y b=_n)->∀b∈P,nP c pins y b:=λhn b j=>⟨hn b j,(f2 b j).2⟩
 refine codeAny_forLoop_any (λg s'=>∃i l y,Inv c pins l y s'/\tn i s'.heap/\(∀b∈P,y b=_n)/\W i g l y) ?_ m0 ⟨0,σ,H2,I2,R,λb j=>(f2 b j).1,w0⟩
 rintro g s3 ⟨i,p,Q,I3,G,K,w3⟩;rcases F i g p Q w3 with ⟨stop,qn⟩|⟨go,N,hN,step⟩
 .refine ļ E (bO (T.done c Y Y Y hc i pins s3 p Q _ I3 (k K) G stop) λr s4  S =>xa S λU I4=>?_)
  subst U;exact Ļ ⟨p,Q,I4,qn⟩
 .refine ļ E (bO (T.item c Y Y Y hc i _ s3 p Q _ I3 (k K) G go) λr s4 V=>?_);refine bN V λu U h4=>?_
  subst U;refine ļ E (bO h4 λ_ s5 V=>?_);refine bW V λx H5 I5 r5 y5 C X=>?_
  refine ļ E (bO (hg _ s5 p H5 x u _ (I5.pinned (k X) (T.obj _ _ C)) r5 (step x H5 y5)) λ_ s6  S =>cy S λZ H6 I6 q6=>?_)
  refine ļ E (bO (j _ s6 Z H6 _ I6 q6) λf s7 z=>?_)
  have ő:∀{a:St}{q:Hp},Inv c _ a q s7->N a q->∃m,m<g/\∃i l y,Inv c pins l y s7/\tn i _/\(∀b∈P,y b=_n)/\W i m l y:=λ{a q} t M=>by
   obtain⟨m',hm,w7⟩:=hN a q M;refine⟨m',hm,_,a,q,t.kg,T.keep _ _ _ C λb j O e=>(t.pin _ (å _ (å _ (hU j e)))).1,λb j=>?_,w7⟩
   obtain⟨O,e,d⟩:=T.obj _ _ C b j;exact(t.pin _ (å _ (å _ (hU j e)))).2.1
  cases f with
  |next=>obtain⟨a,q,t,M⟩:=z;exact ő t M
  |cont=>obtain⟨a,q,t,M⟩:=z;exact ő t M
  |brk=>obtain⟨a,q,t,z⟩:=z;exact⟨a,q,t.kg,z⟩
  |ret v=>refine cD z λx7 a q t r7 z=>?_;exact⟨x7,a,q,t.kg,r7,z⟩
abbrev R2:=V->V->Hp->VK->Prop
def ki(X)(f:g'->g'->ê g')(r:R2):=
 ∀pins s (a:St) H x y v u Q,Inv X pins a H s->RelV x v->RelV y u->r x y H Q ->
  nc (B' X.prog X.w) X.A (f v u) (EP X pins a Q) X.xe s
def XC(X)(f:g'->ê g')(r:V->Hp->VK->Prop):=
 ∀pins s (a:St) H x v Q,Inv X pins a H s->RelV x v->r x H Q ->
  nc (B' X.prog X.w) X.A (f v) (EP X pins a Q) X.xe s
def ek(X f)(r:B V->Hp->VK->Prop):=
 ∀pins s (a:St) H b c Q,Inv X pins a H s->Vals b c->r b H Q ->
  nc (B' X.prog X.w) X.A (call f c) (EP X pins a Q) X.xe s
def XD(X)(r:V->Hp->(Bool->Hp->Prop)->Prop):=
 ∀pins s (a:St) H x v Q,Inv X pins a H s->RelV x v->r x H Q ->
  nc (B' X.prog X.w) X.A (ű v) (TP X pins a Q) X.xe s
def PD(r:R2)(b tb:TE):TE:=λa H Q=>b a H λx c=>tb a c λy d=>r x y d Q
def tUn(r:V->Hp->VK->Prop)(a:TE):TE:=λb H Q=>a b H λx c=>r x c Q
def rI(C:Int->Int->Prop)(g:Int->Int->V):R2:=λx y H Q=>∃i j,x=.int i/\y=.int j/\C i j/\Q (g i j) H
def UZ(g:Int->Int->V):R2:=λx y H Q=>∃i j,x=.int i/\y=.int j/\Q (g i j) H
def rU(g:Int->V):V->Hp->VK->Prop:=λx H Q=>∃i,x=.int i/\Q (g i) H
variable{Q7:g'->g'->ê g'}
theorem Mg(k:PE c n u0)(l:PE c ξ E3){b:V->V->Hp->Prop}(I:Inv c R ν e y)(h:u0 ν e λx j=>E3 ν j λa d=>b x a d)(m:∀v u i x a d,Inv c R ν d i->RelV x v->RelV a u->b x a d->nc (B' c.prog c.w) c.A (Q7 v u) ψ c.xe i):
  nc (B' c.prog c.w) c.A (eval n c.env) (λv f=>nc (B' c.prog c.w) c.A (eval ξ c.env) (λu g=>nc (B' c.prog c.w) c.A (Q7 v u) ψ c.xe g) c.xe f) c.xe y:=by
 refine bO (k _ y ν e _ I h) λv o ⟨x,j,I1,r1,q1⟩=>?_
 refine bO (l _ o ν j _ I1 q1) λu i ⟨a,d,I2,r2,q2⟩=>m v u i x a d I2 r1 r2 q2
variable{G5:R2}{u8:Ē}
theorem KA(a:ki c (Œ u8) G5)(b:PE c n u0)(d:PE c ξ E3):PE c (.BinOp n u8 ξ o) (PD G5 u0 E3):=by
 intro pins s e H Q I h;exact wpAny_BinOp (Mg b d I h λv u f x y g i j k q=>a _ f e g x y v u Q i j k q)
theorem Qq{a r}(d:XC c (unaryOp a) r)(e:PE c n u0):PE c (.UnaryOp a n o) (tUn r u0):=by
 intro pins s b H Q I h;exact UnaryOp_ (bO (e _ s b H _ I h) λv f ⟨x,H1,I1,r1,q1⟩=>d _ f b H1 x v Q I1 r1 q1)
theorem U_{C}{g:Int->Int->Int}(rule:∀i j t u s Q E,C i j->Q (.int (g i j) s.toks) {s with toks:=s.toks+1}->nc (B' c.prog c.w) c.A (Q7 (.int i t) (.int j u)) Q E s):
  ki c Q7 (rI C λi j=>.int (g i j)):=by
 intro pins s f H x y v u Q I a b h;obtain⟨i,j,rfl,rfl,d,q⟩:=h;obtain⟨t,rfl⟩:=a;obtain⟨e,rfl⟩:=b;exact rule i j t e s _ _ d ⟨.int _,H,I.tok _,⟨_,Y⟩,q⟩
theorem Qr{g:Int->Int->Int}(rule:∀i j t u s Q E,Q (.int (g i j) s.toks) {s with toks:=s.toks+1}->nc (B' c.prog c.w) c.A (Q7 (.int i t) (.int j u)) Q E s):
  ki c Q7 (UZ λi j=>.int (g i j)):=by
 intro pins s e H x y v u Q I a b h;obtain⟨i,j,rfl,rfl,q⟩:=h;obtain⟨t,rfl⟩:=a;obtain⟨d,rfl⟩:=b;exact rule i j t d s _ _ ⟨.int _,H,I.tok _,⟨_,Y⟩,q⟩
theorem GN{g:Int->Int->Bool}(rule:∀i j t u s Q E,Q (.bool (g i j)) s->nc (B' c.prog c.w) c.A (Q7 (.int i t) (.int j u)) Q E s):
  ki c Q7 (UZ λi j=>.bl (g i j)):=by
 intro pins s e H x y v u Q I a b h;obtain⟨i,j,rfl,rfl,q⟩:=h;obtain⟨t,rfl⟩:=a;obtain⟨d,rfl⟩:=b;exact rule i j t d s _ _ ⟨.bl _,H,I,Y,q⟩
def Qs(i j:Int):=0<j/\j<1073741824
def XE(i j:Int):=0<=j/\j<=1000000/\i.natAbs<2 ^ 64
def Mh(i j):=(-(2 ^ 64)<i/\i<2 ^ 64)\/(-(2 ^ 64)<j/\j<2 ^ 64)
theorem Mh.ok(h:Mh Q U0):IntMulOk Q U0:=by
 rcases h with ⟨a,b⟩|⟨a,b⟩
 .exact .of_left (ac_ a b)
 .exact .of_right (ac_ a b)
theorem Mi:ki c (Œ .Add) (UZ λi j=>.int (i+j)):=Qr λ_ _ _ _ _ _ _ q=>add_int q
theorem GO:ki c (Œ .FloorDiv) (rI Qs λi j=>.int (i / j)):=U_ λi j _ _ _ _ _ a q=>by
 have b:=a.1;have d:=a.2;exact floordiv_int (Ϡ b) (by rwa[Int.fdiv_eq_ediv_of_nonneg i (ac0 b)]) (.inl (PyProof.noPylong_small (by omega)))
theorem Mj:ki c (Œ .Mod) (rI (λ_ j=>0<j) λi j=>.int (i%j)):=U_ λi j _ _ _ _ _ a q=>mod_int' (Ϡ a) (by rwa[Int.fmod_eq_emod_of_nonneg i (ac0 a)])
theorem unI{f}{g:Int->Int}(rule:∀i t s Q E,Q (.int (g i) s.toks) {s with toks:=s.toks+1}->nc (B' c.prog c.w) c.A (f (.int i t)) Q E s):
  XC c f (rU λi=>.int (g i)):=by
 intro pins s b H x v Q I a h;obtain⟨i,rfl,q⟩:=h;obtain⟨t,rfl⟩:=a;exact rule i t s _ _ ⟨.int _,H,I.tok _,⟨_,Y⟩,q⟩
theorem Ml:XC c (unaryOp .USub) (rU λi=>.int (-i)):=unI λ_ _ _ _ _ q=>neg_int q
variable{Ξ:VK}
theorem rn(I:Inv c R ν e y)(q:Ξ (.bl E) e)(a:E=X2):EP c R ν Ξ (.bool X2) y:=by
 subst a;exact⟨.bl E,e,I,Y,q⟩
theorem Aj:ki c (Ú .In) (λx y H Q=>∃i j,x=.str i/\y=.str j/\Q (.bl (!(Ě j i 0 j.length 1).isEmpty)) H):=by
 intro pins s d H x y v u Q I a b h;obtain⟨i,j,rfl,rfl,q⟩:=h;obtain⟨t,rfl⟩:=a;obtain⟨e,rfl⟩:=b;exact in_str (rn I q Y)
theorem Mm:ki c (Ú .Is) (λx y H Q=>y=.n/\Q (.bl (decide (x=.n))) H):=by
 intro pins s d H x y v u Q I a b h;obtain⟨rfl,q⟩:=h;cases b;refine is_none_gen (rn I q ?_)
 cases x<;>first
  | (obtain⟨t,rfl⟩:=a;rfl)
theorem GP:ki c (Ú .IsNot) (λx y H Q=>y=.n/\Q (.bl (!decide (x=.n))) H):=by
 intro pins s d H x y v u Q I a b h;obtain⟨rfl,q⟩:=h;cases b;refine isnot_none_gen (rn I q ?_)
 cases x<;>first
  | (obtain⟨t,rfl⟩:=a;rfl)
theorem rA:ki c (Ú .NotIn) (λx y H Q=>∃i j,x=.str i/\y=.str j/\Q (.bl (!(!(Ě j i 0 j.length 1).isEmpty))) H):=by
 intro pins s d H x y v u Q I a b h;obtain⟨i,j,rfl,rfl,q⟩:=h;obtain⟨t,rfl⟩:=a;obtain⟨e,rfl⟩:=b;exact notIn_str (rn I q Y)
variable{F8:R2}
theorem ki.or(h:ki c Q7 G5)(e:ki c Q7 F8):ki c Q7 (λx y H Q=>G5 x y H Q\/F8 x y H Q):=by
 intro pins s a H x y v u Q I b d q;rcases q with q|q
 .exact h _ s a H x y v u Q I b d q
 .exact e _ s a H x y v u Q I b d q
variable{A4:ñ}
theorem GQ(a:ki c (Ú A4) G5)(b:PE c n u0)(d:PE c ξ E3)(e:Ų A4 ξ=_d):PE c (.Compare n [A4] [ξ] o) (PD G5 u0 E3):=by
 intro pins s f H Q I h;exact wpAny_Compare1 (Mg b d I h λv u g x y i j k l q=>a _ g f i x y v u Q j k l q) e
def Ce(t:TE):TT:=λa H Q=>t a H λx b=>∃k,x=.bl k/\Q k b
theorem GR(g:ki c (Ú A4) G5)(i:PE c n u0)(j:PE c ξ E3)(l:Ų A4 ξ=_d):PT c (.Compare n [A4] [ξ] o) (Ce (PD G5 u0 E3)):=by
 intro pins s a H Q I h
 refine wpAny_isTrue_Compare1 (bO (i _ s a H _ I h) λv m  b =>aP b λx p q r t=>bO (j _ m a p _ q t) λu w  b  =>
  aP b λy A C D E=>bO (g _ w a A x y v u _ C r D E) λf O F=>?_) l;refine aP F λz G K M d=>bN d λk e N=>?_
 subst e;cases M;exact ħ ⟨G,K,N⟩
def vW(r c:R2)(d tb e:TE):TE:=λa H Q=>d a H λx f=>tb a f λy g=>r x y g λz b=>∃k,z=.bl k /\
 (if k=_t then e a b λh i=>c y h i Q else Q (.bl _d) b)
variable{P7:ñ}{k9:TE}
theorem Cf(p:ki c (Ú A4) G5)(f:ki c (Ú P7) F8)(q:PE c n u0)(r:PE c ξ E3)(t:PE c M3 k9)(w:ų [A4,P7] [ξ,M3]=false:=by with_unfolding_all rfl):PE c (.Compare n [A4,P7] [ξ,M3] o) (vW G5 F8 u0 E3 k9):=by
 intro pins s a H Q I h
 refine Compare_chain (bO (q _ s a H _ I h) λv A b=>?_) w;refine aP b λx C D E F=>?_;refine chain_link (bO (r _ A a C _ D F) λu G b=>
  ?_);refine aP b λy K M i N=>?_;refine bO (p _ G a K x y v u _ M E i N) λd O b=>?_;refine aP b λz j l P g=>bN g λk e m=>?_
 subst e;cases P;refine ħ ?_;cases k with
 |false=>exact ite_ff ⟨.bl _,j,l,Y,m⟩
 |true=>exact ite_tt (chain_last (bO (t _ O a j _ l m) λR S  T =>aP T λU V X Z q4=>f _ S a V y U u R Q X i Z q4))
theorem Cg(p:ki c (Ú A4) G5)(g:ki c (Ú P7) F8)(q:PE c n u0)(r:PE c ξ E3)(t:PE c M3 k9)(w:autoParam (ų [A4,P7] [ξ,M3]=false) Cf._auto_1):PT c (.Compare n [A4,P7] [ξ,M3] o) (Ce (vW G5 F8 u0 E3 k9)):=by
 intro pins s f H Q I h
 refine isTrue_chain (bO (q _ s f H _ I h) λv A a=>?_) w;refine aP a λx C D E F=>?_;refine test_link (bO (r _ A f C _ D F) λu G a=>
  ?_);refine aP a λy K M i N=>?_;refine bO (p _ G f K x y v u _ M E i N) λd O a=>?_;refine aP a λz j l P b=>bN b λk e m=>?_
 subst e;cases P;refine ħ ?_;cases k with
 |false=>
  refine bN m λk' R S=>?_
  cases R;exact ite_ff ⟨j,l,S⟩
 |true=>
  refine ite_tt (test_last (bO (t _ O f j _ l m) λT U ⟨V,H4,I4,r4,q4⟩=>bO (g _ U f H4 y V u T _ I4 i r4 q4) λd' s5 a=>?_));refine aP a λz2 X Z r5 b=>bN b λk2 e2 q5=>?_
  subst e2;cases r5;exact ħ ⟨X,Z,q5⟩
def ub(K:G')(x:V)(H:Hp)(k:Bool):Prop:=
 match x with
 |.n=>k=_d
 |.bl b=>k=b
 |.int i=>k=(i != 0)
 |.str y=>y.length<=U'/\k=((y.length:Int) != 0)
 |.PB y=>y.size<=U'/\k=((y.size:Int) != 0)
 |.ref p=>(∃a,mP K H p a/\k=!a.isEmpty)\/(∃a,vR K H p a/\k=!a.isEmpty)\/∃c,H p=J (.dK c)/\k=!c.isEmpty
 |_=>False
theorem vX{a}{kvs:B (a×V)}{b}(r:KV kvs b):(!b.isEmpty)=!kvs.isEmpty:=by
 cases r<;>rfl
variable{A0:B g'}
theorem nQ(r:Vals η A0):(!A0.toArray.isEmpty)=!η.isEmpty:=by
 cases r<;>simp
theorem iM:U'<2 ^ 63:=by decide
theorem rC:XD c (λx H Q=>∃k,ub c.K x H k/\Q k H):=by
 intro pins s D H x v Q I j h;obtain⟨k,e,q⟩:=h;have E:=iM;have F:U'=16777216:=ą;cases x with
 |n=>
  cases j;have a:k=false:=e;subst a;exact truthy_none ⟨H,I,q⟩
 |bl b=>
  cases j;have a:k=b:=e;subst a;exact ħ ⟨H,I,q⟩
 |int i=>
  obtain⟨t,rfl⟩:=j;have a:k=(i != 0):=e;subst a;exact ac1 ⟨H,I,q⟩
 |str y=>
  obtain⟨t,rfl⟩:=j;obtain⟨A,a⟩:y.length<=U'/\k=((y.length:Int) != 0):=e;subst a;exact ac2 (by omega) ⟨H,I.tok _,q⟩
 |PB y=>
  obtain⟨t,rfl⟩:=j;obtain⟨A,a⟩:y.size<=U'/\k=((y.size:Int) != 0):=e;subst a;exact PySem.W.truthy_bytes (fc A) ⟨H,I.tok _,q⟩
 |ref p=>
  cases j;have a:(∃g,mP c.K H p g/\k=!g.isEmpty)\/(∃g,vR c.K H p g/\k=!g.isEmpty)\/∃d,H p=J (.dK d)/\k=!d.isEmpty:=e;rcases a with ⟨g,l,a⟩|⟨g,l,a⟩|⟨d,l,a⟩
  .subst a
   obtain⟨o,r,u,z⟩:=I.list l;have f:=r.length;exact ac3 u.isList (by simp only[æ];omega) ⟨H,I.tok _,by rw[nQ r];exact q⟩
  .subst a
   obtain⟨o,r,u,z⟩:=I.tuple l;have f:=r.length;exact truthy_tuple u (by simp only[æ];omega) ⟨H,I.tok _,by rw[nQ r];exact q⟩
  .subst a
   obtain⟨z,C,n,r,m⟩:d.length<=U'/\(p==ð)=_d/\∃n,KV d n/\s.heap.DictOf (bH c.prog c.w) p n:=I.hok p _ l;have f:d.length=n.length:=Ū r;exact wpAny_truthy_dict C m (Qi (N' (Á f.symm) z)) ⟨H,I.tok _,by rw[vX r];exact q⟩
 |_=>exact(show False from e).elim
theorem uc(e:PE c n u0)(f:∀a,ŏ n c.env a=(do let v ←a;û n.pos;ô [v] (ű v))):
  PT c n (λb H Q=>u0 b H λx d=>∃k,ub c.K x d k/\Q k d):=by
 intro pins s b H Q I h;exact isTrue_plain (bO (e _ s b H _ I h) λv g  i =>aP i λx j l m o=>rC _ g b j x v Q l m o) (f _)
theorem vY:ki c (Œ .Add) (λx y H Q=>∃i j,x=.str i/\y=.str j/\i.length+j.length<=U'/\Q (.str (i++j)) H):=by
 intro pins s f H x y v u Q I a b h;obtain⟨i,j,rfl,rfl,d,q⟩:=h;obtain⟨t,rfl⟩:=a;obtain⟨e,rfl⟩:=b;exact add_str (λe g=>⟨.str _,H,I.tok _,⟨_,Y⟩,q⟩) d
theorem vals1(r:Vals [O] A0):∃u,A0=[u]/\RelV O u:=by
 cases r with
 |cons b a=>cases a;simp_all
variable{D3:V}
theorem vals2(r:Vals [O,D3] A0):∃u a,A0=[u,a]/\RelV O u/\RelV D3 a:=by
 cases r with
 |cons d b=>
  cases b with
  |cons e c=>cases c;grind
theorem Ak:ek c (.type "int") (λxs H Q=>(∃i,xs=[.int i]/\Q (.int i) H)\/∃k,xs=[.bl k]/\Q (.int (if k then 1 else 0)) H):=by
 intro pins s b H xs d Q I r h;rcases h with ⟨i,rfl,q⟩|⟨k,rfl,q⟩
 .obtain⟨u,rfl,t,rfl⟩:=vals1 r
  exact call_int_int ⟨.int i,H,I,⟨_,Y⟩,q⟩
 .obtain⟨u,rfl,a⟩:=vals1 r
  cases a;exact call_int_bool ⟨.int _,H,I.tok _,⟨_,Y⟩,q⟩
structure Ci(h:F')(x dx C:f')(mA:L->_o g'):Prop where
 obj:h.get? x=J (Ō C dx)
 ns:h.Ns1 dx mA
 ne:dx≠x
variable{θ:L->_o g'}
theorem gv(n:H.Ns1 i θ):∃od,H.get? i=J od/\∀name,ϡ name od=J (θ name):=by
 refine bG n λo d k f g h b=>xa b λ_ j=>?_
 refine⟨o,f,λname=>?_⟩
 have e:=j name;unfold nsFind findBy at e;unfold ϡ;rw[g];dsimp only;split
 .simp_all
 .have a:d.toList.any (·.refKey)=false:=by
   rw[List.any_eq_false];intro y l;refine xe (h y (by simp_all)) λz b=>xe b λt c=>?_
   simp[afl,c]
  grind
variable{P0:f'}
theorem Ci.look(I:Ci H i S P0 θ):∃od,abu H i (Ō P0 S) P0 (J od)/\∀name,ϡ name od=J (θ name):=
 bN (gv I.ns) λod a b=>⟨od,⟨I.obj,Y,Y,a⟩,b⟩
theorem GS{s}(X:G.In s.heap)(I:Ci s.heap i S P0 θ)(k:ç G (.ref P0) "__setattr__"=some (some (.builtin "object.__setattr__")))(m:abv G P0=_t)(n:abw G P0 d=some _n)(o:Ľ G P0=_t)(p:abn θ l)(hsz:l.length<=U')(h:∀e,Ci e i S P0 (λy=>if y=d then some ζ else θ y)->Ĺ S s.heap e->L4 () {s with heap:=e,toks:=s.toks+2}):
  nc (B' M N) ο (Ϣ (.ref i) d ζ) L4 ψ s:=by
 refine bN I.look λw J x=>?_
 refine ac4 X J k (PySem.W.osa_open X J m n λb=>?_)
 refine bN (ϣ o) λz q f=>?_
 refine j' (I' (j' (j' (abx I.obj (j' (ac5 (aby X q) ?_))))));rw[f];refine I' (j' (I' (j' ?_)));refine wpAny_nsSet1 I.ns λe a c=>?_
 refine cD (a.count (ac6 _ ζ p)) λA r t g j u=>?_
 refine j' (ac7 g (by rw[j];exact ac8 (by grind)) ?_)
 exact I' (h _ ⟨(c.2 _ (Í I.ne)).trans I.obj,a,I.ne⟩ c)
variable{G9:B (L×g')}{S5:œ->iv->Prop}
theorem Cj{s:iv}(X:G.In s.heap)(a:abz G i=_t)(b:ç G (.ref i) "__init__"=J (J (.ref S)))(c:abA G (.ref S)=J (.type "function"))(h:Û (B' M N) (ο.under (.builtin "type.__call__" ⟨.ref i::A0,G9⟩)) (.call (.ref S) ⟨.ref (s.heap.objs.size+1)::A0,G9⟩) (abB (s.heap.objs.size+1) S5)
   {s with heap:=(s.heap.push Ϥ).push (Ō i s.heap.objs.size)}):
  Û (B' M N) ο (.call (.ref i) ⟨A0,G9⟩) S5 s:=PySem.W.make_core (PySem.W.makes_of X a) (ϥ X b) (λself=>ac9 X _ c) (.inl Y) h
noncomputable def hX(f:L)(v:V):B (L×V)->B (L×V)
 |[]=>[(f,v)]
 | (g,x)::r=>if g=f then (g,v)::r else (g,x)::hX f v r
theorem lY(f g v):∀a,(hX f v a).lookup g=if g=f then J v else a.lookup g
 |[]=>by
  show Ϧ g [(f,v)]=_
  grind
 | (k,x)::r=>by
  have b:=lY f g v r;rw[show hX f v _=(if k=f then (k,v)::r else (k,x)::hX f v r)from Y]
  grind
theorem lg(f v):∀a,f∈(hX f v a).map (·.1)/\∀g,g∈a.map (·.1)->g∈(hX f v a).map (·.1)
 |[]=>⟨by simp[hX],by simp⟩
 | (k,x)::r=>by
  obtain⟨b,i2⟩:=lg f v r;rw[show hX f v _=(if k=f then (k,v)::r else (k,x)::hX f v r)from Y]
  grind
theorem lZ(f v):∀a,(hX f v a).length<=a.length+1
 |[]=>by simp[hX]
 | (k,x)::r=>by
  have b:=lZ f v r;rw[show hX f v _=(if k=f then (k,v)::r else (k,x)::hX f v r)from Y]
  grind
variable{T5:_o g'}
theorem iG.some_of(r:iG (J O) T5):∃u,T5=J u/\RelV O u:=by
 cases T5 with
 |none=>exact(r).elim
 |some u=>exact⟨u,Y,r⟩
theorem iG.none_of(r:iG _n T5):T5=none:=by
 cases T5 with
 |none=>rfl
 |some u=>exact(r).elim
theorem lh(r:RelV O ζ):ac' ζ=true:=by
 cases O with
 |n=>cases (r);rfl
 |bl b=>cases (r);rfl
 |int i=>obtain⟨t,e⟩:=(r);cases e;rfl
 |str x=>obtain⟨t,e⟩:=(r);cases e;rfl
 |PB b=>obtain⟨t,e⟩:=(r);cases e;rfl
 |flt b=>obtain⟨t,e⟩:=(r);cases e;rfl
 |ref a=>cases (r);rfl
 |ty n=>cases (r);rfl
variable{A5:B (L×V)}
theorem mQ(c:iK M N e H)(a:e i=J (.ins S P0 A5)):∃b,Ci H i P0 S b/\(∀f,iG (A5.lookup f) (b f))/\abn b (A5.map (·.1))/\A5.length<=1000/\e P0=J (.own i):=by
 refine iA (c i _ a) λd z h j g=>aH g λb n r q=>⟨b,⟨j,n,h⟩,r,q,z,d⟩
structure pG(K:G')(C:f'):Prop where
 pg:abC K C ada=_t
 hd:Ľ K C=_t
 po:abv K C=_t
 sa:ç K (.ref C) "__setattr__"=J (J (.builtin "object.__setattr__"))
theorem pG.get(c:pG G i)(f):abC G i f=true:=c.pg
def cZ(K C f):=ç K (.ref C) f=J _n
theorem cZ.taker(n:cZ G i d):abw G i d=J none:=by
 unfold abw;rw[n];rfl
structure Meth(K:G')(C:f')(m:L)(f:f'):Prop where
 at_:ç K (.ref C) m=J (J (.ref f))
 fn:ϧ K (.ref f)=_t
 kp:Î K (.ref f)=_t
theorem nR(I:Inv c R ν e y)(b:e i=some (.ins S P0 A5))(a:pG c.K S)(n:cZ c.K S d)(l:A5.lookup d=some O)(h:∀u j,Inv c R ν e j->RelV O u->T3 u j):nc (B' c.prog c.w) ο (Ŵ (.ref i) d E) T3 ψ y:=by
 refine dJ (mQ I.hok b) λm f r _ g=>xa g λ_ _=>?_
 obtain⟨u,o,k⟩:=iG.some_of (O:=O) (T5:=m d) (by grind)
 obtain⟨q,J,p⟩:=f.look;exact PySem.W.get_value I.ej J (abD (a.get d)).1 (abE a.hd n Y (by rw[p,o])) (lh k) (h u _ (I.tok _) k)
variable{y2:f'}
theorem jJ{pl Q}(I:Inv c R ν e y)(b:e i=some (.ins S P0 A5))(a:pG c.K S)(k:Meth c.K S d y2)(l:A5.lookup d=_n)(h:Q (.ref y2,[.ref i]) y):nc (B' c.prog c.w) ο (Ď (.ref i) d pl) Q ψ y:=by
 refine dJ (mQ I.hok b) λg O r _ f=>xa f λ_ _=>?_
 have m:g d=none:=iG.none_of (by grind)
 refine bN O.look λj J n=>PySem.W.method_fn I.ej J (abD (a.get d)).1 (abD (a.get d)).2 k.at_ (beq_iff_eq.mp k.fn) (by show(ϡ _ j).map _=some _;simp_all) h
theorem nS(I:Inv c R ν e y)(j:e i=J (.ins S P0 A5))(a:pG c.K S)(n:cZ c.K S d)(m:A5.length<1000)(u:RelV O ζ)(h:∀p,Inv c R ν (upd e i (.ins S P0 (hX d O A5))) p->L4 () p):nc (B' c.prog c.w) ο (Ϣ (.ref i) d ζ) L4 ψ y:=by
 refine dJ (mQ I.hok j) λH f r s k=>xa k λ_ t=>?_
 have x:(A5.map (·.1)).length<=U':=by rw[ß,ą];exact GD m
 refine GS I.ej f a.sa a.po n.taker a.hd s x λA l C=>h _ ?_
 have D:∃o,A.get? P0=J o:=ei (l.ns) λo _ _ E _=>⟨o,E⟩
 refine I.write (by rw[j];exact ü) (.inr t) (λb q F z=>(C.2 b F).trans z) D ?_
 refine⟨by rw[av f.ne];exact t,?_,f.ne,l.obj,_,l.ns,λg=>?_,λg G=>?_⟩
 .have:=lZ d O A5;exact N' this m
 .rw[lY]
  by_cases q:g=d
  .rw[if_pos q,if_pos q];exact u
  simp_all
 .by_cases q:g=d
  .rw[q];exact(lg d O A5).1
  .refine(lg d O A5).2 g (s g λz=>G ?_)
   simp_all
theorem Inv.made{s}(I:Inv c R ν e s):Inv c R ν (upd (upd e s.heap.objs.size (.own (s.heap.objs.size+1))) (s.heap.objs.size+1) (.ins i s.heap.objs.size []))
  {s with heap:=(s.heap.push Ϥ).push (Ō i s.heap.objs.size)}:=by
 have a:(s.heap.push _).get? _=J Ϥ:=Ò _ Y;have g:=I.laid (o:=.own (s.heap.objs.size+1)) (t':=s.toks) (λb u q=>Y' _ q) (R' _) ⟨_,a⟩
 refine g.laid (λb u q=>Y' _ q) (by simp) ?_
 have d:s.heap.objs.size≠s.heap.objs.size+1:=X' (by simp)
 refine⟨by rw[av d,aD],ĉ _,d,(by
  have:=Ò (s.heap.push Ϥ) (o:=Ō i s.heap.objs.size) Y;rwa[ŵ]at this),_,(adb ⟨_,_,_,a,Y,(λf h=>absurd h (by simp)),λ_=>Y⟩).at λo q=>Y' _ q,λ_=>ü,λy j=>absurd Y j⟩
variable{D5:Ã}
theorem rD(c:ý n d D5 (eval n D5)=eval n D5)(h:nc (B' M N) ο (eval n D5) (λa b=>nc (B' M N) ο (Ŵ a d _t) T3 ψ b) ψ y):nc (B' M N) ο (eval (.Attribute n d o) D5) T3 ψ y:=
 Attribute_any_ h (by rw[arm_eval_Attribute,c])
def XF(K:G')(d:TE)(f:L):TE:=λe H Q=>d e H λx b=>∃a C dx c v,x=.ref a/\b a=J (.ins C dx c)/\pG K C/\cZ K C f/\c.lookup f=J v/\Q v b
def XG(K:G')(e g:TE)(f:L):TS:=λD b H=>g b H λy h=>e b h λx d=>∃a C dx c,x=.ref a/\d a=J (.ins C dx c)/\pG K C/\cZ K C f/\c.length<1000 /\
 D.nx b (upd d a (.ins C dx (hX f y c)))
def Qt(X b)(c:V->V->Hp->VK->Prop):=
 ∀pins s (a:St) H x y u v Q,Inv X pins a H s->RelV x u->RelV y v->c x y H Q->nc (B' X.prog X.w) X.A (inplaceOp b u v) (EP X pins a Q) X.xe s
def GU(K:G')(i j:TE)(k:V->V->Hp->VK->Prop)(f:L):TS:=λD d H=>i d H λx e=>∃a C dx g v,x=.ref a/\e a=J (.ins C dx g)/\pG K C/\cZ K C f/\g.lookup f=J v /\
 j d e λy l=>k v y l λz h=>∃c b,h a=J (.ins C c b)/\b.length<1000/\D.nx d (upd h a (.ins C c (hX f z b)))
theorem Mn(f:PE c n u0)(g:ý n d c.env (eval n c.env)=eval n c.env):PE c (.Attribute n d o) (XF c.K u0 d):=by
 intro pins s i H Q I h;refine rD g (bO (f _ s i H _ I h) λu z j=>?_);obtain⟨x,k,m,p,a,C,dx,A,v,r,t,b,e,l,q⟩:=j
 subst r;obtain rfl:u=Ë a:=p;exact nR m t b e l λD E w y=>⟨v,k,w,y,q⟩
theorem Mo(i:PE c n u0)(j:PE c ξ E3)(k:ì ξ (J (.Attribute n d T)) o.line c.env=pure _d):PS c (.Assign [.Attribute n d T] ξ o) (XG c.K u0 E3 d):=by
 intro pins s f H D I h;refine ade (bO (j _ s f H _ I h) λu m g=>?_) k;refine aP g λy p r t q=>?_;refine bO (i _ m f p _ r q) λw N g=>?_;obtain⟨x,O,z,A,a,C,dx,P,E,F,b,e,l,G⟩:=g
 subst E;obtain rfl:w=Ë a:=A;exact nS z F b e l t λQ M=>⟨f,_,M,G⟩
theorem Al{k}(m:PE c n u0)(p:PE c ξ E3)(i:Qt c u8 k):PS c (.AugAssign (.Attribute n d T) u8 ξ o) (GU c.K u0 E3 k d):=by
 intro pins s g H D I h;refine wpAny_AugAssign_AttributeAny (bO (m pins s g H _ I h) λr s1 b=>?_)
 refine xe b λx b=>aH b λt w A b=>xe b λa b=>gj b λC dx fs v E b=>?_
 refine iA b λF e f l q=>?_
 subst E;obtain rfl:r=Ë a:=A;refine nR w F e f l λu G M N=>bO (p pins G g t _ M q) λO P b=>xe b λy b=>aH b λQ R S U=>bO (i pins P g Q v y u O _ R N S U) λw4 s4 b=>xe b λz b=>aH b λH3 X rz b=>?_
 obtain⟨Z,a0,j,l',q4⟩:=b;exact nS X j e f l' rz λs5 I5=>⟨g,_,I5,q4⟩
def XH:V->V->Hp->VK->Prop:=λx y H Q=>∃i j,x=.int i/\y=.int j/\Q (.int (i+j)) H
theorem Mp:Qt c .Add XH:=by
 rintro pins s e H x y u v Q I b d ⟨i,j,rfl,rfl,q⟩;obtain⟨t,rfl⟩:=(show ∃t,u=Ŋ i t from b)
 obtain⟨a,rfl⟩:=(show ∃a,v=Ŋ j a from d)
 exact afm ⟨.int (i+j),H,I.tok _,⟨_,Y⟩,q⟩
inductive mB (K:G') (H:Hp):V->g'->Prop where
 |n:mB K H .n (.type "NoneType")
 |bl (x:Bool):mB K H (.bl x) (.type "bool")
 |int (i:Int):mB K H (.int i) (.type "int")
 |str (x:L):mB K H (.str x) (.type "str")
 |flt (x:UInt64):mB K H (.flt x) (.type "float")
 |l {a:f'}{xs:List V} (e:H a=J (.l xs)):mB K H (.ref a) (.type "list")
 |cX {a:f'}{o:Obj}{xs:List V} (e:H a=J (.cX o (.l xs))):mB K H (.ref a) (.type "list")
 |t {a:f'}{xs:List V} (e:H a=J (.t xs)):mB K H (.ref a) (.type "tuple")
 |dK {a:f'}{kvs:List (Key×V)} (e:H a=J (.dK kvs)):mB K H (.ref a) (.type "dict")
 |dT {a:f'}{kvs:List (List Key×V)} (e:H a=J (.dT kvs)):mB K H (.ref a) (.type "dict")
 |ins {a C dx:f'}{fs:List (L×V)} (e:H a=J (.ins C dx fs)) (cl:pG K C) (ha:ç K (.ref C) "__class__"=J (J (.builtin "object.__class__")))
   (hn:ľ K (.builtin "object.__class__") "__get__"=J (J (.builtin "getset_descriptor.__get__"))) (htk:Ŷ K (.builtin "object.__class__")=J _t)
   (hm:ŷ K C (.type "object")=J _t):mB K H (.ref a) (.ref C)
variable{S6 U3:g'}
theorem cL{s}(I:Inv c R ν e s)(f:RelV O U3)(x:mB c.K e O S6)(b:õ c.K S6 ζ=some E)(h:∀A,T3 (.bool E) {s with toks:=A}):
  nc (B' c.prog c.w) ο (call (.builtin "isinstance") [U3,ζ]) T3 ψ s:=by
 cases x with
 |n=>cases (f);exact þ PySem.W.kitx_none I.ej ü b (λz=>nomatch z) h
 |bl y=>cases (f);exact þ PySem.W.kitx_bool I.ej ü b (λz=>nomatch z) h
 |int i=>obtain⟨S6,q⟩:=(f);cases q;exact þ PySem.W.kitx_int I.ej ü b (λz=>nomatch z) h
 |str y=>obtain⟨S6,q⟩:=(f);cases q;exact þ PySem.W.kitx_str I.ej ü b (λz=>nomatch z) h
 |flt y=>obtain⟨S6,q⟩:=(f);cases q;exact þ PySem.W.kitx_float I.ej ü b (λz=>nomatch z) h
 |@l a m g=>
  cases (f);refine xa (I.hok a _ g) λ_ d=>cy d λ_ n _ j=>?_
  exact þ adf I.ej ⟨_,j,Y⟩ b (λz=>nomatch z) h
 |@cX a N m g=>
  cases (f);refine mO (I.hok a _ g) λ_ _ d=>cy d λ_ n _ j=>?_
  exact þ adf I.ej ⟨_,j,Y⟩ b (λz=>nomatch z) h
 |@t a m g=>
  cases (f);refine xa (I.hok a _ g) λ_ d=>bN d λ_ _ p=>?_
  refine aH p λo j k _=>?_
  exact þ abF I.ej ⟨o,j,k⟩ b (λz=>nomatch z) h
 |@dK a r g=>
  cases (f);refine iL (I.hok a _ g) λ_ _ P _ p=>?_
  refine cD p λo D F j k _=>?_
  exact þ adg I.ej ⟨o,j,k.1⟩ b (λz=>nomatch z) h
 |@dT a r g=>
  cases (f);refine iL (I.hok a _ g) λ_ _ m _ d=>cD d λo D F j k _=>?_
  exact þ adg I.ej ⟨o,j,k.1⟩ b (λz=>nomatch z) h
 |@ins a C dx Q g u G H t M=>
  cases (f);refine bN (mQ I.hok g) λS l _=>?_
  refine bN l.look λT J _=>?_
  exact þ (PySem.W.kitx_own (u.get _) u.hd G H t M) I.ej J b (λz=>nomatch z) h
structure bF(k:Nat)(A:Ä):Prop where
 hd:A.handled=_n
 dp:A.depth+3*k+5<recursionLimit
 un:A.units+16*k+200<Æ
theorem bF.mono(r:bF m ο)(h:b<=m):bF b ο:=⟨r.hd,by have:=r.dp;omega,by have:=r.un;omega⟩
theorem bF.deeper{k A}(r:bF (k+1) A)(a):bF k (A.deeper a):=
 ⟨r.hd,by have:=r.dp;show A.depth+1+3*k+5<_;omega,by have:=r.un;show A.units+3+16*k+200<_;omega⟩
theorem vZ:(ο.under (.builtin "type.__call__" ⟨.ref i::A0,G9⟩)).depth=ο.depth+1:=by
 rfl
theorem v3:(ο.under (.builtin "type.__call__" ⟨.ref i::A0,G9⟩)).units=ο.units+1:=by
 rfl
theorem bF.make(r:bF (b+1) ο)(C a c):bF b (ο.under (.builtin "type.__call__" ⟨.ref C::a,c⟩)):=
 ⟨r.hd,by have:=r.dp;rw[vZ];omega,by have:=r.un;rw[v3];omega⟩
theorem bF.depth{k A}(r:bF k A):A.depth<recursionLimit:=by have:=r.dp;omega
theorem bF.units{k A}(r:bF k A):A.units+64<Æ:=by have:=r.un;omega
def Qu:TA:=λ_ H Q=>Q [] H
def Qv(b:TE)(c:TA):TA:=λa H Q=>b a H λx d=>c a d λe f=>Q (x::e) f
theorem rE:PA c [] Qu:=λ_ _ _ _ H Q I h=>Ĩ ⟨[],H,I,.nil,h⟩
theorem fO(d:PE c n u0)(e:PA c Z V3)(f:autoParam (D' (n::Z) c.env=(_d,eval n c.env)::D' Z c.env) V_):PA c (n::Z) (Qv u0 V3):=by
 intro g pins s b H Q I h;rw[f];refine ē (bO (d _ s b H _ I h) λu i  a =>aP a λx j k l m=>bO (e _ _ i b j _ k m) λt w  a =>aP a λy o p q r=>⟨_,o,p,.cons l q,r⟩)
def XI(t:TA):TE:=λc H Q=>t c H λa b=>a.length<=U'/\∀p,b p=_n->Q (.ref p) (upd b p (.t a))
def XJ(t:TA):TE:=λc H Q=>t c H λa b=>a.length<=U'/\∀p,b p=_n->Q (.ref p) (upd b p (.l a))
theorem Mq{x1}(h:PA c Z V3):PE c (.Tuple Z x1 o) (XI V3):=by
 intro pins s d H Q I f;refine adh (bO (h _ _ s d H _ I f) λg j  i =>bT i λk l a r z q=>⟨by rwa[←r.length],?_⟩)
 refine⟨.ref _,_,a.laid (λb u e=>Y' _ e) (R' _) ?_,Y,q _ (a.hok.fresh (R' _))⟩
 exact⟨z,g,r,⟨_,Ò _ Y,Y,_,Y⟩⟩
theorem Mr(h:PA c Z V3):PE c (.List Z o) (XJ V3):=by
 intro pins s d H Q I f;refine wpAny_List_spliced (bO (h _ _ s d H _ I f) λg j  i =>bT i λk l a r z q=>⟨by rwa[←r.length],?_⟩)
 refine⟨.ref _,_,a.laid (λb u e=>Y' _ e) (R' _) ?_,Y,q _ (a.hok.fresh (R' _))⟩
 exact⟨z,g,0,r,Ò _ Y⟩
abbrev Sp:=B V->Hp->VK->XK->Prop
abbrev BO:=B Ã->Hp->iv->XK->g'->iv->Prop
structure rH(P:W')(w:T')(K:G')(mg:L->_o g')(base:F')(A:Ä)(outer:B Ã)(s:iv)(H:Hp):Prop where
 frames:A.frames=J outer
 mod:Mod K mg base
 bs:∀b o,base.get? b=J o->s.heap.get? b=J o/\H b=_n
 xZ:base.objs.size<=s.heap.objs.size
 iH:s.heap.FunFrames base outer
 BN:∀b∈frs outer,H b=_n
 hok:iK P w H s.heap
 bare:Č s.gens
def CE(outer:B Ã)(P w H)(s:iv)(Q:VK)(u)(a:iv):=
 ∃v b,a.os=s.os/\Č a.gens/\Un (frs outer) [] H b s.heap a.heap/\iK P w b a.heap/\RelV v u/\Q v b
def CR(CX:BO)(outer:B Ã)(P w H s Q E)(r:œ)(a:iv):=
 match r with
 |.ok (.ret u)=>CE outer P w H s Q u a
 |.ok _=>False
 |.error e=>CX outer H s E e a
structure bt(P:W')(w:T')(K:G')(mg:L->_o g')(base:F')(CX:BO)(k:Nat)(f:f')(fd:Â)(ps:B L)(sp:Sp):Prop where
 len:∀vs H Q E,sp vs H Q E->vs.length=ps.length
 run:∀(A:Ä) (outer:B Ã) (s:iv) (H:Hp) (args:Args) (us:B g') (vs:B V) (Q:VK) (E:XK),bF k A->rH P w K mg base A outer s H->ĩ s fd args (ps.zip us)->Vals vs us->sp vs H Q E ->
  Û (B' P w) A (.call (.ref f) args) (CR CX outer P w H s Q E) s
theorem bt.mono{P w K a base CX j k f b c sp}(F:bt P w K a base CX j f b c sp)(h:j<=k):
  bt P w K a base CX k f b c sp:=⟨F.len,λA outer s H args d e Q E g=>F.run A _ s H _ d e Q E (g.mono h)⟩
variable{E4:Sp}{Q5:BO}{j0:Â}
theorem bt.imp{d}(F:bt M N G θ H Q5 b i j0 l E4)(h:∀c a Q E,d c a Q E->E4 c a Q E):bt M N G θ H Q5 b i j0 l d:=
 ⟨λc a Q E q=>F.len c a Q E (h _ _ _ _ q),λA outer s a args e c Q E f g j k m=>F.run A _ s a _ e c Q E f g j k (h _ _ _ _ m)⟩
variable{X5:B Ã}
theorem rH.make(a:rH M N G θ H ο X5 y e)(C b c):
  rH M N G θ H (ο.under (.builtin "type.__call__" ⟨.ref C::b,c⟩)) X5 y e:=⟨by first|exact a.frames,a.mod,a.bs,a.xZ,a.iH,a.BN,a.hok,a.bare⟩
theorem Inv.env0(I:Inv c R ν e y):rH c.prog c.w c.K c.mg c.base c.A c.stack y e:=
 ⟨I.ok.frames,I.ok.mod,I.bs,N' I.ok.xZ I.sz,I.stack,I.ka,I.hok,I.bare⟩
theorem Inv.after(I:Inv c R ν e y)(h:CE c.stack c.prog c.w e y Ξ ζ U7):EP c R ν Ξ ζ U7:=by
 refine bW h λv j k bare l a f=>xa f λr q=>?_
 obtain⟨m,g,d,t,i⟩:=U7;obtain rfl:i=y.os:=k;exact⟨v,j,I.call l a bare (λb z=>absurd z (by simp)),r,q⟩
def Qw(sp:Sp)(a:B V)(E:XK)(t:TA):TE:=λb H Q=>t b H λc d=>sp (c++a) d Q E
def KC(C:f')(m:L)(sp:Sp)(b:B V)(E:XK)(f:TE)(t:TA):TE:=λc H Q=>f c H λx d=>∃a dx e,x=.ref a/\d a=J (.ins C dx e)/\e.lookup m=_n /\
 t c d λg h=>sp (x::(g++b)) h Q E
def Qx(C:f')(sp:Sp)(a:B V)(E:XK)(t:TA):TE:=λc H Q=>t c H λd b=>∀x dx,b x=_n->b dx=_n->dx≠x ->
 sp (.ref x::(d++a)) (upd (upd b dx (.own x)) x (.ins C dx [])) (λv e=>v=.n/\Q (.ref x) e) E
def Binds(K:G')(d)(b:B L)(c:B g'):=
 ∀s a,K.In s.heap->(a++c).length=b.length->ĩ s d ⟨a,[]⟩ (b.zip (a++c))
theorem Binds.all(h:∀a,a.length=l.length->Ϩ j0 ⟨a,[]⟩=pure (l.zip a)):Binds G j0 l []:=λs a _ b=>by
 rw[Ć]at b ⊢;exact .of_eq (h a b)
def Passes(CX:BO)(X E):=∀pins (b:St) H s e a,Inv X pins b H s->CX X.stack H s E e a->X.xe e a
variable{V5:B g'}{o3:XK}
theorem rJ(F:bt c.prog c.w c.K c.mg c.base Q5 b i j0 l E4)(g:bF b c.A)(j:Binds c.K j0 l A0)(k:Vals η A0)(m:Passes Q5 c o3)(I:Inv c R ν e y)(r:Vals N5 V5)(h:E4 (N5++η) e Ξ o3):nc (B' c.prog c.w) c.A (call (.ref i) V5) (EP c R ν Ξ) c.xe y:=by
 have f:=r.append k;refine ě (Ĕ (F.run _ _ y e ⟨V5,[]⟩ _ _ Ξ o3 g I.env0 (j y V5 I.ej (by rw[←f.length];exact F.len _ _ _ _ h)) f h) λr n a=>?_)
 cases r with
 |error d=>exact m _ ν e y d n I a
 |ok fl=>
  cases fl with
  |ret u=>exact I.after a
  |next=>exact è a
  |brk=>exact è a
  |cont=>exact è a
theorem rL(F:bt c.prog c.w c.K c.mg c.base Q5 b i j0 l E4)(g:bF b c.A)(j:Gl c d)(k:c.mg d=J (.ref i))(m:Î c.K (.ref i)=_t)(p:Binds c.K j0 l A0)(t:Vals η A0)(u:Passes Q5 c o3)(x:PA c (n::Z) V3)(a:autoParam ((d==("__debug__"))=false) P3)(y:autoParam (D' (n::Z) c.env=(_d,eval n c.env)::D' Z c.env) V_)(e:autoParam ((À T (D' Z c.env)).any (·.1)=false) V_):
  PE c (.Call (.Name d o) (n::Z) [] T) (Qw E4 η o3 V3):=by
 intro pins s z H Q I h;refine ÿ (dM I j k ?_ a);refine Ŀ I.ok.mod.BW m (bO (x _ _ s z H _ I h) λD E  C =>aP C λG M f r q=>⟨f.ej,rJ F g p t u f r q⟩) y e
theorem GV{pl}(C:PE c ξ u0)(e:pG c.K S)(m:Meth c.K S d i)(F:bt c.prog c.w c.K c.mg c.base Q5 b i j0 l E4)(D:bF b c.A)(E:Binds c.K j0 l A0)(G:Vals η A0)(M:Passes Q5 c o3)(N:PA c (n::Z) V3)(g:autoParam (D' (n::Z) c.env=(_d,eval n c.env)::D' Z c.env) V_)(j:autoParam ((À o (D' Z c.env)).any (·.1)=false) V_)(O:eval (.Call (.Attribute ξ d T) (n::Z) [] o) c.env=(do
   let p ←eval ξ c.env
   û T.atName
   let (i,first) ←ô [p] (Ď p d pl)
   ĕ o i first (À o (D' (n::Z) c.env)) (ö o (ø [] c.env))):=by rfl):
  PE c (.Call (.Attribute ξ d T) (n::Z) [] o) (KC S d E4 η o3 u0 V3):=by
 intro pins s t H Q I h;refine ϩ (bO (C _ s t H _ I h) λu P R=>?_) O;refine aP R λx U y V k=>bG k λa dx fs X ea f q=>?_
 subst X;obtain rfl:u=Ë a:=V;refine jJ y ea e m f ?_;refine Ŀ I.ok.mod.BW m.kp (bO (N _ _ P t U _ y q) λus s2  zf =>aP zf λvs H2 z r q2=>⟨z.ej,?_⟩) g j
 exact rJ (N5:=.ref a::vs) F D E G M z (.cons Y r) q2
theorem Ck{pl}(p:PE c n u0)(e:pG c.K S)(k:Meth c.K S d i)(F:bt c.prog c.w c.K c.mg c.base Q5 b i j0 l E4)(r:bF b c.A)(t:Binds c.K j0 l A0)(y:Vals η A0)(z:Passes Q5 c o3)(C:eval (.Call (.Attribute n d T) [] [] o) c.env=(do
   let m ←eval n c.env
   û T.atName
   let (i,first) ←ô [m] (Ď m d pl)
   ĕ o i first (À o (D' [] c.env)) (ö o (ø [] c.env))):=by rfl):
  PE c (.Call (.Attribute n d T) [] [] o) (KC S d E4 η o3 u0 Qu):=by
 intro pins s D H Q I h;refine ϩ (bO (p _ s D H _ I h) λu O E=>?_) C;refine aP E λx P g G j=>bG j λa dx R M N f q=>?_
 subst M;obtain rfl:u=Ë a:=G;refine jJ g N e k f (abG g.ej k.kp (rJ (N5:=[.ref a]) F r t y z g (.cons Y .nil) q))
structure Mk(K:G')(C f:f'):Prop where
 makes:abz K C=_t
 init:ç K (.ref C) "__init__"=J (J (.ref f))
 fn:ϧ K (.ref f)=_t
 kp:Î K (.ref C)=_t
theorem ud(M:Mk c.K S i)(F:bt c.prog c.w c.K c.mg c.base Q5 b i j0 l E4)(k:bF (b+1) c.A)(m:Binds c.K j0 l A0)(n:Vals η A0)(o:Passes Q5 c o3)(I:Inv c R ν e y)(r:Vals N5 V5)(h:∀x dx,e x=_n->e dx=_n->dx≠x->E4 (.ref x::(N5++η)) (upd (upd e dx (.own x)) x (.ins S dx [])) (λv p=>v=.n/\Ξ (.ref x) p) o3):
  nc (B' c.prog c.w) c.A (call (.ref S) V5) (EP c R ν Ξ) c.xe y:=by
 have g:=h _ _ (I.hok.fresh (Ā _)) (I.hok.fresh (R' _)) (by simp)
 have f:=Inv.made (i:=S) I;have j:Vals (V.ref (y.heap.objs.size+1)::(N5++η)) _:=.cons Y (r.append n)
 refine ě (Cj I.ej M.makes M.init (beq_iff_eq.mp M.fn) (Ĕ (F.run _ _ _ _ ⟨_,[]⟩ _ _ _ o3 (k.make S V5 [])
  (f.env0.make S V5 []) (m _ _ f.ej (by
  have a:=j.length;rw[F.len _ _ _ _ g]at a;exact a.symm)) j g) λr q d=>?_))
 cases r with
 |error a=>exact o _ ν _ _ a q f d
 |ok fl=>
  cases fl with
  |ret u=>
   refine bT (f.after d) λv s t z C D=>?_
   subst C;exact⟨z,⟨V.ref _,s,t,Y,D⟩⟩
  |next=>exact è d
  |brk=>exact è d
  |cont=>exact è d
theorem GW(M:Mk c.K S i)(F:bt c.prog c.w c.K c.mg c.base Q5 b i j0 l E4)(g:bF (b+1) c.A)(j:Gl c d)(k:c.mg d=J (.ref S))(m:Binds c.K j0 l A0)(p:Vals η A0)(t:Passes Q5 c o3)(u:PA c (n::Z) V3)(a:autoParam ((d==("__debug__"))=false) P3)(x:autoParam (D' (n::Z) c.env=(_d,eval n c.env)::D' Z c.env) V_)(e:autoParam ((À T (D' Z c.env)).any (·.1)=false) V_):
  PE c (.Call (.Name d o) (n::Z) [] T) (Qx S E4 η o3 V3):=by
 intro pins s y H Q I h;refine ÿ (dM I j k ?_ a);refine Ŀ I.ok.mod.BW M.kp (bO (u _ _ s y H _ I h) λC D z=>?_) x e;refine aP z λE G f r q=>?_;refine⟨f.ej,ud M F g m p t f r q⟩
structure hY(N P:B L)(sc:V'):Prop where
 kind:sc.kind=.function
 co:sc.isCoroutine=_d
 gen:sc.isGenerator=_d
 nd:N.Nodup
 pre:N.take P.length=P
 par:∀x∈P,sc.names.lookup x=J .local\/sc.names.lookup x=J .cell
 Ms:∀y∈sc.names,y.2≠.free
theorem pY{kindOf x}:∀{binds}{m},(∀v,(x,v)∉binds)->ŀ kindOf binds m x=m x
 |[],_,_=>Y
 | (n,v)::r,m,h=>by
  unfold ŀ;rw[pY (by grind)]
  split
  .grind
  .rfl
theorem pZ{kindOf x}:∀{binds}{m},(∀v,(x,v)∉binds)->Ł kindOf binds m x=m x
 |[],_,_=>Y
 | (n,v)::r,m,h=>by
  unfold Ł;rw[pZ (by grind)]
  split
  .rfl
  grind
theorem p_{kindOf x v}:∀{P:B L}{a}{i:Nat}{m},P.Nodup->P[i]?=J x->a[i]?=J v->kindOf x=J .local ->
  ŀ kindOf (P.zip a) m x=J v
 |[],_,_,_,_,h,_,_=>by simp at h
 |_::_,[],_,_,_,_,h,_=>by simp at h
 |p::P,w::a,0,m,c,b,d,e=>by
  simp at b d;subst b;subst d
  show ŀ _ ((p,w)::P.zip a) m p=_
  unfold ŀ;rw[pY λv f=>(Ī.mp c).1 (Ź f).1,if_pos e]
  simp
 |p::P,w::a,i+1,m,c,b,d,e=>by
  unfold ŀ;exact p_ (Ī.mp c).2 (by simpa using b) (by simp_all) e
theorem qa{kindOf x v}:∀{P:B L}{a}{i:Nat}{m},P.Nodup->P[i]?=J x->a[i]?=J v->kindOf x≠J .local ->
  Ł kindOf (P.zip a) m x=J v
 |[],_,_,_,_,h,_,_=>by simp at h
 |_::_,[],_,_,_,_,h,_=>by simp at h
 |p::P,w::a,0,m,e,b,c,d=>by
  simp at b c;subst b;subst c
  show Ł _ ((p,w)::P.zip a) m p=_
  unfold Ł;rw[pZ λv f=>(Ī.mp e).1 (Ź f).1,if_neg d]
  simp
 |p::P,w::a,i+1,m,e,b,c,d=>by
  unfold Ł;exact qa (by simp_all) (by simpa using b) (by simp_all) d
noncomputable def start(N:B L)(a:B V):St:=a.map J++ź (N.length - a.length) _n
noncomputable def cz(CX:BO)(P:W')(w:T')(K:G')(mg:L->_o g')(base:F')(N:B L)(qual:L)(scope:V')(f:f')(b:g')(A:Ä)(outer:B Ã)(s:iv)(H:Hp)(E:XK):Cx where
 prog:=P
 w:=w
 K:=K
 mg:=mg
 base:=base
 A:=A.deeper (Ç qual scope s.heap.objs.size f b)
 N:=N
 s₀:=s
 H₀:=H
 env:=Ç qual scope s.heap.objs.size f b
 outer:=outer
 stack:=Ç qual scope s.heap.objs.size f b::outer
 ex:=[]
 calm:=_t
 fn:=λ_=>_t
 pn:=[]
 xe:=λe c=>nc (B' P w) (A.deeper (Ç qual scope s.heap.objs.size f b)) (Ϫ (Ç qual scope s.heap.objs.size f b) e) (λ_ a=>CX outer H s E e a) (λd a=>CX outer H s E d a) c
variable{o0:V'}
def ue(h:o0.names.lookup d=J .cell):=abH.mp (ϫ _ b [] (.inl h))
variable{i0:B L}
theorem lj(S:hY l i0 o0)(E:ο.handled=_n)(g:rH M N G θ H ο X5 y e)(F:η.length=i0.length)(r:Vals η A0)(x:InCallC y y.heap.objs.size (ŀ (Ç d o0 y.heap.objs.size i ζ).kindOf (i0.zip A0) λ_=>_n) (cellsFrom (y.heap.objs.size+1) o0.names []) (Ł (Ç d o0 y.heap.objs.size i ζ).kindOf (i0.zip A0) λ_=>_n) U7):
  Inv (cz Q5 M N G θ H l d o0 i ζ ο X5 y e o3) [] (start l η) e U7:=by
 have I:i0.length<=l.length:=by have:=congrArg abI S.pre;grind
 obtain⟨w,P,rfl,A⟩:=x.done;have m:∀b:f',b∉(cz Q5 M N G θ H l d o0 i ζ ο X5 y e o3).ex:=λb z=>absurd (show b∈([]:B f')from z) (by simp)
 refine⟨⟨g.mod,S.kind,Y,Y,R' _,λa z c w n=>?_,λa hy=>?_,λa c _ h=>?_,λ_=>E,Around.frames_deeper g.frames,.inr ⟨Y,Y⟩,λb z=>absurd z (m b),g.bs,g.xZ,λb _ _=>m b,λb z=>absurd z (m b),g.iH,g.BN⟩,
  Y,g.bare,Un.kept A,⟨_,x.toInCall.ns,λf a v w n Q=>?_⟩,λa c h=>⟨_,x.cell a c h⟩,g.hok.fresh (R' _),λa c h=>?_,λp o=>absurd (show p∈([])from o) (by simp),g.hok.kept A,?_⟩
 .exact name_of_addr x.apart (Ż w) (Ż n)
 .rcases hy with hy|hy
  .exact ue hy
  .exact absurd Y (S.Ms _ (Ż hy))
 .exact ó (x.above a c (Ż h))
 .have s:f<η.length:=by
   unfold start at n
   by_cases s:f<η.length
   .exact s
   .rw[ī (by simpa using s)]at n
    rw[abJ]at n
    simp_all
  have K:η[f]?=J v:=by
   unfold start at n;rw[ë (by simpa using s)]at n
   simp_all
  obtain⟨u,C,O⟩:=r.get K
  have o:i0[f]?=J a:=by
   rw[←S.pre,adi (P' s (Á F))];exact w
  have t:i0.Nodup:=by rw[←S.pre];exact S.nd.sublist (abK _ _)
  refine⟨u,O,?_⟩;rcases S.par a (Å o)with k|k
  .exact .inl ⟨k,p_ t o C k⟩
  .obtain⟨c,j⟩:=ue k
   refine .inr ⟨.inl k,c,j,?_⟩;have q:=x.cell a c j;rwa[qa t o C (by show o0.names.lookup a≠_;rw[k];decide)]at q
 .have D:=g.hok.fresh (ó (x.above a c (Ż h)))
  exact⟨.inl D,λ_=>D⟩
 .unfold start
  show _=l.length
  simp_all
variable{C:L}{C6:Array (_o g')}{L5 V6:_o f'}{R7 u7 v7:g'}
theorem Cm{params oc}(P:G.lookup i=some ⟨oc,V6,.func (í d C params X3 o0 ζ U3 S6 u7 L5 v7 R7),C6⟩)(z:Ĭ G v7 C=_t)(S:hY l i0 o0)(m:∀h a Q E,E4 h a Q E->h.length=i0.length)(j:∀A outer s a h Q E,bF b (A.deeper (Ç C o0 s.heap.objs.size i v7))->E4 h a Q E ->
   ∃t,j6 (cz Q5 M N G θ H l C o0 i v7 A outer s a E) X3 t/\t {nx:=λ_ g=>Q .n g,rt:=Q} (start l h) a):
  bt M N G θ H Q5 (b+1) i (í d C params X3 o0 ζ U3 S6 u7 L5 v7 R7) i0 E4:=by
 refine⟨m,λA outer s a args us h Q E D p R r w=>?_⟩
 have O:=p.mod.BW.keeps λc o e=>(p.bs c o e).1
 have F:=p.mod.nolimit.keeps λc o e=>(p.bs c o e).1
 refine abL D.depth (O _ _ P) Y S.co S.gen Y (abM O z) (R _ _ _ _ ?_)
 refine abN S.kind (λ⟨n,v⟩ T=>by
  rcases S.par n (Ź T).1 with q|q
  .exact .inl q
  .exact .inr ⟨q,ϫ _ _ _ (.inl q)⟩) λU X Z x=>?_
 subst X;refine⟨F.keeps x.toInCall.keep,abO ?_⟩;obtain⟨t,ht,hq⟩:=j A _ s a h Q E (D.deeper _) w;refine Ý (ht [] Z _ a _ (lj S D.hd p (m _ _ _ _ w) r x) hq) (λfl I k=>?_) λe I k=>k
 have y:∀{f:St}{g:Hp}{v:V}{u:g'},Inv (cz Q5 M N G θ H l C o0 i v7 A _ s a E) [] f g I->RelV v u->Q v g->CE outer M N a s Q u I:=
  λ{f g v u} J K q=>⟨v,g,J.os,J.bare,J.base,J.hok,K,q⟩
 cases fl with
 |ret u=>
  refine cD k λv f g J K q=>y J K q
 |next=>
  obtain⟨f,g,J,q⟩:=k;exact y (v:=V.n) J Y q
 |brk=>
  obtain⟨_,_,_,q⟩:=k
  simp_all
 |cont=>
  obtain⟨_,_,_,q⟩:=k
  simp_all
def tCB(r:B V->Hp->VK->Prop)(t:TA):TE:=λa H Q=>t a H λb c=>r b c Q
variable{X8:B V->Hp->VK->Prop}
theorem nU(f:ek c (.builtin o5) X8)(g:Gl c d)(i:c.mg d=_n)(j:Ĉ d=J (.builtin o5))(k:PA c (n::Z) V3)(l:autoParam (d≠"__name__") P3)(a:autoParam ((d==("__debug__"))=false) P3)(m:autoParam (D' (n::Z) c.env=(_d,eval n c.env)::D' Z c.env) V_)(b:autoParam ((À T (D' Z c.env)).any (·.1)=false) V_):PE c (.Call (.Name d o) (n::Z) [] T) (tCB X8 V3):=by
 intro pins s e H Q I h;refine ÿ (fj I g i j (ϭ (bO (k _ _ s e H _ I h) λp q  r =>aP r λt u w x y=>f _ q e u t p Q w x y) m b) l a)
theorem Am(f:ek c (.type o5) X8)(g:Gl c d)(i:c.mg d=_n)(j:Ĉ d=J (.type o5))(k:PA c (n::Z) V3)(l:autoParam (d≠"__name__") P3)(a:autoParam ((d==("__debug__"))=false) P3)(m:autoParam (D' (n::Z) c.env=(_d,eval n c.env)::D' Z c.env) V_)(b:autoParam ((À T (D' Z c.env)).any (·.1)=false) V_):PE c (.Call (.Name d o) (n::Z) [] T) (tCB X8 V3):=by
 intro pins s e H Q I h;refine ÿ (fj I g i j (Ő (bO (k _ _ s e H _ I h) λp q ⟨r,H1,I1,r1,q1⟩=>f _ q e H1 r p Q I1 r1 q1) m b) l a)
end L2
namespace HT
open PySem PyProof.Rows
noncomputable def kj(n d:Nat):_o Int->Nat
 |_n=>d
 |J v=>if v<0 then (v+n).toNat else min v.toNat n
theorem uf(n d):kj n d _n=d:=Y
theorem mR(n d k:Nat):kj n d (J k)=min k n:=by
 rfl
theorem Cn(n d)(a:d<=n)(o):kj n d o<=n:=by
 cases o with
 |none=>exact a
 |some v=>
  show(if v<0 then (v+(n)).toNat else min _ n)<=n
  grind
end HT
namespace L2
open PySem PySem.Spec PyProof.Rows
abbrev TO:=St->Hp->(_o Int->Hp->Prop)->Prop
def PO(X)(e:_o p')(t:TO):=
 ∀pins s (a:St) H Q,Inv X pins a H s->t a H Q ->
  nc (B' X.prog X.w) X.A (evalPart e X.env) (λu c=>∃o b,Inv X pins a b c/\Ϯ u o/\Q o b) X.xe s
def Qy(t:TE):TO:=λa H Q=>t a H λx b=>∃i,x=.int i/\Q (J i) b
variable{c:Cx}{n:p'}{u0:TE}
theorem GX(h:PE c n u0):PO c (J n) (Qy u0):=by
 intro pins s a H Q I b;refine bO (h _ s a H _ I b) λu k d=>?_;refine aP d λx e f g j=>?_
 obtain⟨i,rfl,q⟩:=j;obtain⟨t,rfl⟩:=g;exact⟨_,e,f,.int i t,q⟩
def Mt(X)(r:V->_o Int->_o Int->Hp->VK->Prop):=
 ∀pins s (a:St) H x v b c d e f Q,Inv X pins a H s->RelV x v->s.heap.IsSliceOf f b c .none->Ϯ b d->Ϯ c e->r x d e H Q ->
  ∃T id,ł (.type T) "__getitem__"=pure (J (.builtin id))/\s.TypeIs v T/\nc (B' X.prog X.w) X.A (Ŕ v (.ref f)) (EP X pins a Q) X.xe s
theorem Mt.or{r d}(h:Mt c r)(n:Mt c d):Mt c (λx a b H Q=>r x a b H Q\/d x a b H Q):=by
 intro pins s e H x v f g a b i Q I j k l m q;rcases q with q|q
 .exact h _ s e H x v f g a b i Q I j k l m q
 .exact n _ s e H x v f g a b i Q I j k l m q
def tSl(r:V->_o Int->_o Int->Hp->VK->Prop)(b:TE)(c d:TO):TE:=λa H Q=>b a H λx e=>c a e λl f=>d a f λu g=>r x l u g Q
variable{T o:K'}{r8:_o p'}
theorem iN{e f g r}(j:Mt c r)(k:PE c n u0)(m:PO c r8 f)(p:PO c e g):PE c (.Subscript n (.Slice r8 e _n T) o) (tSl r u0 f g):=by
 intro pins s a H Q I h;refine abP (bO (k _ s a H _ I h) λv t d=>?_);refine aP d λx w y z A=>?_
 refine wpAny_Slice (bO (m _ t a w _ y A) λC D  E =>aP E λl F G K M=>bO (p _ D a F _ G M) λN s3 d=>?_);refine aP d λu O P R S=>?_
 refine I' ?_;obtain⟨i,id,U,X,Z⟩:=j _ _ a O x v C N l u _ Q (P.kept λb ob q=>Y' _ q) z (afn ..) K R S
 exact tail_any X U Z (by rfl)
def GY(xs:B V)(a b:_o Int):=(xs.drop (HT.kj xs.length 0 a)).take (HT.kj xs.length xs.length b - HT.kj xs.length 0 a)
theorem ug(xs a b):(GY xs a b).length<=xs.length:=by
 unfold GY;rw[ŕ,abQ];omega
noncomputable def tT(n:Nat)(i:Int):=if 0<=i then (if i<n then J i.toNat else _n)else if -n<=i then J (i+n).toNat else _n
def ll{α:Type}(xs:B α)(i):=(tT xs.length i).bind λj=>xs[j]?
variable{Q:Int}{b m:Nat}
theorem rP(h:tT b Q=J m):abR Q b=J m/\m<b /\ -b<=Q/\Q<b:=by
 unfold tT at h
 by_cases c:0<=Q
 .rw[if_pos c]at h
  by_cases a:Q<b
  .rw[if_pos a]at h
   have e:=ů h;exact⟨by rw[abS c a,e],by omega,by omega,a⟩
  simp_all
 .rw[if_neg c]at h
  by_cases a : -(b)<=Q
  .rw[if_pos a]at h
   have e:=ů h;exact⟨by rw[abT (by omega) a,e],by omega,a,by omega⟩
  simp_all
theorem rQ{α xs}{v:α}(h:ll xs Q=J v):∃j,abR Q xs.length=J j/\xs[j]?=J v/\j<xs.length /\ -xs.length<=Q/\Q<xs.length:=by
 unfold ll at h;cases e:tT xs.length Q with
 |none=>simp_all
 |some j=>
  refine mO (rP e) λb c a=>xa a λd f=>?_
  simp_all
theorem bQ{α xs}{v:α}(h:xs[b]?=J v):ll xs b=J v:=by
 have a:=(Ê.mp h).1
 have e:tT xs.length (b)=J b:=by
  unfold tT
  simp_all
 unfold ll;rwa[e]
variable{B2:Type}
theorem Co(xs)(v:B2):ll (xs++[v]) (-1)=J v:=by
 have a:(xs++[v]).length=xs.length+1:=by simp
 have e:tT (xs++[v]).length (-1)=J xs.length:=by
  unfold tT;rw[a,if_neg (by decide),if_pos (by omega)]
  congr 1
  omega
 unfold ll;rw[e]
 show(xs++[v])[xs.length]?=J v
 simp
def yc(b):=∀o i,abU b _d o i=operate [o,i] (Ŕ o i)
def KD(X)(r:R2):=
 ∀b a pins s (c:St) H x y v u Q,Inv X pins c H s->RelV x v->RelV y u->r x y H Q ->
  abU a _d v u=operate [v,u] (Ŕ v u)->nc (B' X.prog X.w) X.A (subscriptTail b a v u) (EP X pins c Q) X.xe s
def Mu(X)(id:String)(r:V->B V->Hp->VK->Prop):=
 ∀pins s (a:St) H x b v c Q,Inv X pins a H s->RelV x v->Vals b c->r x b H Q ->
  nc (B' X.prog X.w) X.A (call (.builtin id) (v::c)) (EP X pins a Q) X.xe s
variable{F8 G5:R2}
theorem KD.or(h:KD c G5)(i:KD c F8):KD c (λx y H Q=>G5 x y H Q\/F8 x y H Q):=by
 intro a b pins s d H x y v u Q I e f q g;rcases q with q|q
 .exact h _ _ _ s d H x y v u Q I e f q g
 .exact i _ _ _ s d H x y v u Q I e f q g
variable{E3:TE}{ξ:p'}
theorem KG(a:KD c G5)(b:PE c n u0)(d:PE c ξ E3)(e:yc ξ):PE c (.Subscript n ξ o) (PD G5 u0 E3):=by
 intro pins s f H Q I h;exact abP (Mg b d I h λv u g x y i j k l q=>a n ξ _ g f i x y v u Q j k l q (e _ _))
def Qz(K:G'):R2:=λx y H Q=>∃p a i v,x=.ref p/\y=.int i/\mP K H p a/\ll a i=J v/\Q v H
def QA(K:G'):R2:=λx y H Q=>∃p a i v,x=.ref p/\y=.int i/\vR K H p a/\ll a i=J v/\Q v H
def XM:R2:=λx y H Q=>∃z i c,x=.str z/\y=.int i/\z.length<=U'/\ll z.cps.toList i=J c/\Q (.str ⟨#[c]⟩) H
theorem GZ:KD c (Qz c.K):=by
 intro b d pins s o H x y v u Q I A C h l;obtain⟨p,O,i,z,rfl,rfl,D,E,q⟩:=h;cases A;obtain⟨t,rfl⟩:=C;refine aH (I.list D) λe r f P=>?_
 refine dJ (rQ E) λj m F R g=>xa g λG M=>?_
 obtain⟨w,S,k⟩:=r.get F;have T:=r.length;have U:=iM;have a:EP c _ o Q w s:=⟨z,H,I,k,q⟩
 by_cases n:0<=i
 .have N:i.toNat=j:=by
   rw[abS n M]at m
   simp_all
  exact item_listR f.isList n (by omega) (by simp_all) a l
 .have N:(i+(e.toArray.size)).toNat=j:=by
   rw[abT (by omega) G]at m
   simp_all
  exact adj f.isList.typeIs adk.lookup
   (wpAny_getItem_list_neg f.isList (by omega) (by simp_all) (by omega) (by simp_all) ⟨Y,a⟩) l
theorem Mv:KD c (QA c.K):=by
 intro a b pins s C H x y v u Q I g k h l;obtain⟨p,D,i,z,rfl,rfl,m,n,q⟩:=h;cases g;obtain⟨t,rfl⟩:=k;refine aH (I.tuple m) λo r f E=>?_
 refine dJ (rQ n) λj F A G d=>xa d λM N=>?_
 obtain⟨w,O,e⟩:=r.get A;have P:=r.length;have R:=iM
 exact adj f.typeIs slot_tuple_getitem.lookup
  (getItem_tuple (j:=j) f (by omega) (by omega) (by simp_all) (by simp_all) ⟨Y,⟨z,H,I,e,q⟩⟩) l
def rIx(K:G'):R2:=λx y H Q=>Qz K x y H Q\/QA K x y H Q\/XM x y H Q
theorem Cp:KD c (rIx c.K):=GZ.or (Mv.or (by
  intro a b pins s r H x y v u Q I f g h k;obtain⟨z,i,e,rfl,rfl,w,l,q⟩:=h;obtain⟨t,rfl⟩:=f;obtain⟨A,rfl⟩:=g;refine dJ (rQ l) λj m C D d=>xa d λn o=>?_
  have p:z.cps.toList.length=z.length:=by rfl
  rw[p]at m n o;have E:=iM
  exact tail_any (ϯ s z t) slot_str_getitem.lookup (getItem_str (by
   grind) (by grind) ⟨.str ⟨_⟩,H,I.tok _,⟨_,Y⟩,q⟩) k))
theorem v5(a:B g')(n j u):Ĝ (·.setIfInBounds j u) {cls:=.type "list",data:=.seq a.toArray n}={cls:=.type "list",data:=.seq (a.set j u).toArray n}:=by
 simp[Ĝ]
theorem Inv.l{X pins}{b:St}{H s p xs}(I:Inv X pins b H s)(h:H p=J (.l xs)):
  ∃a n,Vals xs a/\s.heap.get? p=J {cls:=.type "list",data:=.seq a.toArray n}/\xs.length<=U':=by
 obtain⟨z,a,n,r,e⟩:=I.hok p _ h;exact⟨_,n,r,e,z⟩
variable{A0 V5:B g'}{N5 η:B V}{R:B (f'×Obj)}{e:Hp}{i:f'}{ν:St}
theorem Inv.Mw{s f}(I:Inv c R ν e s)(h:e i=J (.l η))(j:s.heap.get? i=J {cls:=.type "list",data:=.seq A0.toArray b})(d:f {cls:=.type "list",data:=.seq A0.toArray b}={cls:=.type "list",data:=.seq V5.toArray m})(r:Vals N5 V5)(hz:N5.length<=U')(t):
  Inv c R ν (upd e i (.l N5)) {s with heap:=s.heap.update i f,toks:=t}:=by
 have a:(s.heap.update i f).get? i=J {cls:=.type "list",data:=.seq V5.toArray m}:=by
  rw[ĝ f j (by rw[d]<;>rfl),d]
 refine I.write (by rw[h];trivial) (.inl Y) (λg u k q=>(ď _ _ (Í k)).trans q) ⟨_,a⟩ ⟨hz,_,m,r,a⟩
def QB:V->V->V->Hp->(Hp->Prop)->Prop:=λo i v H Q=>∃p a k j,o=.ref p/\i=.int k/\H p=J (.l a)/\tT a.length k=J j/\Q (upd H p (.l (a.set j v)))
theorem set_list:Xx c QB:=by
 intro pins s C H o i v D E u Q I m w x h;obtain⟨p,F,k,j,rfl,rfl,e,y,q⟩:=h;cases m;obtain⟨t,rfl⟩:=w;obtain⟨a,n,r,b,G⟩:=I.l e;obtain⟨f,K,z,A⟩:=rP y;have M:=r.length;have N:=iM
 have g:=
  I.Mw e b (v5 _ n j u) (r.set x j) (by simp_all) s.toks
 by_cases l:0<=k
 .have d:k.toNat=j:=by
   rw[abS l A]at f
   simp_all
  exact PySem.W.ki_setAt b l (by omega) (by simp_all) (by rw[d];exact⟨_,g,q⟩)
 .have d:(k+(a.toArray.size)).toNat=j:=by
   rw[abT (by omega) z]at f
   simp_all
  exact PySem.W.ki_setBack b (by omega) (by simp_all) (by omega) (by rw[d];exact⟨_,g,q⟩)
theorem rR(a b n):(ż a b _n n).1=((HT.kj n 0 a))/\(ż a b _n n).2.1=((HT.kj n n b))/\(ż a b _n n).2.2=1:=by
 refine⟨?_,?_,Y⟩
 .cases a with
  |none=>rfl
  |some i=>
   simp only[ż,HT.kj,adl,show(1)>0 by decide,if_true]
   grind
 .cases b with
  |none=>rfl
  |some i=>
   simp only[ż,HT.kj,adl,show(1)>0 by decide,if_true]
   grind
theorem pJ(a:B g')(b c):slicePick a.toArray b c _n=((a.drop (HT.kj a.length 0 b)).take (HT.kj a.length a.length c - HT.kj a.length 0 b)).toArray:=by
 obtain⟨d,e,f⟩:=rR b c _;unfold slicePick;rw[d,e,f];simp only[sliceRange_one,pick_run,æ]
def QC(K:G'):V->_o Int->_o Int->Hp->VK->Prop:=λx c d H Q=>∃a b,x=.ref a/\mP K H a b/\∀p,H p=_n->Q (.ref p) (upd H p (.l (GY b c d)))
theorem kl:Mt c (QC c.K):=by
 intro pins s t H x v u w f g y Q I i j k l h;obtain⟨a,m,rfl,n,q⟩:=h;cases i;obtain⟨o,r,e,p⟩:=I.list n;have d:=r.length;refine⟨_,_,adk.lookup,e.isList.typeIs,?_⟩;refine wpAny_getItem_list_slice e.isList j k l .none (by simp) ?_ (by simp_all)
 rw[pJ,←d];refine⟨.ref _,_,I.laid (λb z q=>Y' _ q) (R' _) ?_,Y,q _ (I.hok.fresh (R' _))⟩
 exact⟨N' (ug m f g) p,_,0,(r.drop _).take _,Ò _ Y⟩
theorem rS:ek c (.builtin "len") (λxs H Q=>∃p b,xs=[.ref p]/\(mP c.K H p b\/vR c.K H p b)/\Q (.int b.length) H):=by
 intro pins s j H xs k Q I r h;obtain⟨p,b,rfl,hq,q⟩:=h;obtain⟨u,rfl,g⟩:=vals1 r;cases g;have l:=iM;rcases hq with hq|hq
 .obtain⟨d,e,f,i⟩:=I.list hq
  have a:=e.length;exact Calls.call_len_list f.isList (by grind) ⟨.int _,H,I.tok _,⟨s.toks+1,by grind⟩,q⟩
 .obtain⟨d,e,f,i⟩:=I.tuple hq
  have a:=e.length;exact len_tuple f (by grind) ⟨.int _,H,I.tok _,⟨s.toks+1,by grind⟩,q⟩
theorem rV:ek c (.builtin "len") (λxs H Q=>∃z,xs=[.str z]/\z.length<=U'/\Q (.int z.length) H):=by
 intro pins s a H xs b Q I r h;obtain⟨z,rfl,d,q⟩:=h;obtain⟨u,rfl,t,rfl⟩:=vals1 r;have e:=iM;exact len_str (by omega) ⟨.int _,H,I.tok _,⟨_,Y⟩,q⟩
theorem rW:ek c (.type "list") (λxs H Q=>∃p f,xs=[.ref p]/\(mP c.K H p f\/vR c.K H p f)/\∀l,H l=_n->Q (.ref l) (upd H l (.l f))):=by
 intro pins s C H xs E Q I r h;obtain⟨p,f,rfl,hq,q⟩:=h;obtain⟨u,rfl,D⟩:=vals1 r;cases D
 have j:∀(a:B _),Vals f _->f.length<=U'->∀(d:F') (i:Nat),(∀b A,s.heap.get? b=J A->d.get? b=J A) ->
   d.get? _=J _->EP c _ C Q _ _:=λa g k d i m e=>
  ⟨.ref _,_,I.laid (t':=s.toks) m (R' _) (show cu _ _ _ d _ (.l f)from⟨k,a,i,g,e⟩),Y,q _ (I.hok.fresh (R' _))⟩
 rcases hq with hq|hq
 .obtain⟨a,g,w,k⟩:=I.list hq
  have t:=g.length;obtain⟨o,x,y,n,z⟩:=w.isList;exact adm p (.inl Y) x y z (λd i m e=>j _ g k d i m e) (by grind)
 .obtain⟨a,g,w,k⟩:=I.tuple hq
  have t:=g.length;obtain⟨o,x,y,n,z⟩:=w;exact adm p (.inr Y) x y z (λd i m e=>j _ g k d i m e) (by grind)
theorem pK:ek c (.type "tuple") (λxs H Q=>∃p a,xs=[.ref p]/\((mP c.K H p a/\∀l,H l=_n->Q (.ref l) (upd H l (.t a)))\/(vR c.K H p a/\Q (.ref p) H))):=by
 intro pins s w H xs x Q I r h;obtain⟨p,a,rfl,h⟩:=h;obtain⟨u,rfl,n⟩:=vals1 r;cases n;rcases h with ⟨d,q⟩|⟨d,q⟩
 .obtain⟨f,g,i,j⟩:=I.list d
  have k:=g.length;refine call_tuple_list i.isList (λy t=>?_) (by grind)
  have m:=I.kept (t':=s.toks) t;exact⟨.ref _,_,(m.laid (λb o e=>Y' _ e) (R' _) (show cu _ _ _ _ _ (.t a)from⟨j,_,g,IsTup.new _ _⟩)),Y,q _ (m.hok.fresh (R' _))⟩
 .obtain⟨f,g,i,j⟩:=I.tuple d
  exact call_tuple_same i ⟨.ref p,H,I,Y,q⟩
def PF(K:G')(T:String)(x:V)(H:Hp):Prop:=match x with
 |.str _=>T="str"
 |.int _=>T="int"
 |.ref p=>(T="list"/\∃b,mP K H p b)\/(T="tuple"/\∃o,K.lookup p=J o/\o.cls=.type "tuple"/\o.dict=_n) \/
   (T="dict"/\((∃a,H p=J (.dK a))\/∃a,H p=J (.dT a)))\/(T="set"/\∃S n,H p=J (.set S n))
 |_=>False
variable{O:V}{o5:String}{y:iv}{ζ:g'}
theorem Mx(I:Inv c R ν e y)(r:RelV O ζ)(h:PF c.K o5 O e):
  y.TypeIs ζ o5/\∀a,ζ=.ref a->∃k,y.heap.get? a=J k/\k.dict=none:=by
 cases O with
 |str z=>
  obtain⟨t,rfl⟩:=r;cases (h);exact⟨ϯ y z t,by simp⟩
 |int i=>
  obtain⟨t,rfl⟩:=r;cases (h);exact⟨typeIs_int y i t,by simp⟩
 |ref p=>
  cases r;rcases h with ⟨rfl,x,s⟩|⟨rfl,o,d,u,l⟩|⟨rfl,d⟩|⟨rfl,S,n,d⟩
  .refine aH (I.list s) λw _ m _=>?_
   refine⟨m.isList.typeIs,λa b=>?_⟩
   refine bT m λo n b q l _=>?_
   simp_all
  .refine⟨⟨o,I.ej p o d,u⟩,λa b=>?_⟩
   cases b;exact⟨o,I.ej _ o d,l⟩
  .have z:∃o,y.heap.get? p=J o/\o.ExactDict:=by
    rcases d with ⟨j,d⟩|⟨j,d⟩
    .refine iL (I.hok p _ d) λ_ _ _ _ f=>cD f λo _ _ b g _=>?_
     grind
    .refine iL (I.hok p _ d) λ_ _ _ _ f=>cD f λo _ _ b g _=>?_
     grind
   refine bN z λo b g=>?_
   refine⟨⟨o,b,g.1⟩,λa e2=>?_⟩
   cases e2;exact⟨o,b,g.2.1⟩
  .refine bj (I.hok p _ d) λo _ _ _ b g _=>?_
   refine⟨⟨o,b,g.1⟩,λa e2=>?_⟩
   cases e2;exact⟨o,b,g.2.1⟩
 |_=>exact è h
def tBM(K:G')(T:String)(r:V->B V->Hp->VK->Prop)(c:TE)(t:TA):TE:=λa H Q=>c a H λx b=>PF K T x b/\t a b λd e=>r x d e Q
variable{V3:TA}{Z:B p'}{d:L}{z7:String}
theorem QD{r}(m:PlainAttrs o5)(slot:Slot o5 d z7)(g:typeOf (.builtin z7)=pure (.type "method_descriptor"))(p:Mu c z7 r)(q:PE c n u0)(t:PA c (ξ::Z) V3)(a:autoParam (ý n d c.env (eval n c.env)=eval n c.env) V_)(e:((À T (D' (ξ::Z) c.env)).all (λx=>!x.1)&&(ö T (ø [] c.env)).all (λx=>x.1.isSome)
   && decide ((ξ::Z).length+([]:B ĭ).length+(if ([]:B ĭ).isEmpty then 0 else 1)<30))=true:=by rfl)(b:(o.endLine==T.line)=true:=by rfl)(u:D' (ξ::Z) c.env=(_d,eval ξ c.env)::D' Z c.env:=by rfl)(f:(À T (D' Z c.env)).any (·.1)=false:=by rfl):
  PE c (.Call (.Attribute n d o) (ξ::Z) [] T) (tBM c.K o5 r u0 V3):=by
 intro pins s i H Q I h;refine wpAny_Call_method_late a e b Y (bO (q _ s i H _ I h) λv w y=>?_);refine bT y λx z j k A C=>?_
 obtain⟨D,E⟩:=Mx j k A;refine⟨o5,z7,m,slot,g,D,E,?_⟩;have l:=t T _ w i z _ j C;rw[u]at l ⊢;refine ϰ (by simp_all) (Calls.evalArgs_plain (bO l λF G  M =>aP M λN O P R S=>p _ G i O x N v F Q P k R S))
def Va(X)(id:String)(r:V->B V->Hp->VK->Prop):=
 ∀pins s (a:St) H x b v c Q,Inv X pins a H s->RelV x v->Vals b c->r x b H Q ->
  nc (B' X.prog X.w) X.A (call (.builtin id) (v::c)) (EP X pins a Q) X.xe s
def Vals.one(h:Vals [O] A0):=vals1 h
variable{D3:V}
def Vals.two(h:Vals [O,D3] A0):=vals2 h
theorem Vals.eraseIdx:∀{xs}{a} i,Vals xs a->Vals (xs.eraseIdx i) (a.eraseIdx i)
 |_,_,_,.nil=>.nil
 |_,_,0,.cons _ t=>t
 |_,_,i+1,.cons r t=>.cons r (Vals.eraseIdx i t)
theorem Inv.G_{s f}(I:Inv c R ν e s)(d:e i=J (.l η))(a:s.heap.get? i=J {cls:=.type "list",data:=.seq A0.toArray b})(g:f A0.toArray=V5.toArray)(h:Vals N5 V5)(hz:N5.length<=U'):
  Inv c R ν (upd e i (.l N5)) {s with heap:=s.heap.update i (Ĝ f),toks:=m}:=by
 have q:=afo a f;rw[g]at q;refine I.write (by rw[d];exact trivial) (.inl Y) (λl u j k=>(ď _ _ (Í j)).trans k) ⟨_,q⟩ ⟨hz,_,_,h,q⟩
theorem Inv.XN{s}(I:Inv c R ν e s)(a:Vals η A0)(hz:η.length<=U'):
  Inv c R ν (upd e s.heap.objs.size (.l η)) {s with heap:=s.heap.push {cls:=.type "list",data:=.seq A0.toArray},toks:=b}:=
 I.laid (λ_ _ q=>Y' _ q) (R' _) ⟨hz,_,0,a,Ò _ Y⟩
def Inv.fresh{X pins}{a:St}{H s}(I:Inv X pins a H s):=I.hok.fresh (R' _)
theorem Inv.Cq(I:Inv c R ν e y)(f:e i=J (.l η)):η.length<=U'/\∃a n,Vals η a/\η.length=a.length/\y.heap.get? i=J {cls:=.type "list",data:=.seq a.toArray n}:=by
 refine xa (I.hok i _ f) λz d=>cy d λa n r b=>⟨z,_,n,r,r.length,b⟩
theorem Cr(h:b<=U'):afp b=false:=decide_eq_false (Nat.not_lt_of_le h)
def yd:V->B V->Hp->VK->Prop:=λx b H Q=>∃l a y,x=.ref l/\b=[y]/\H l=J (.l a)/\a.length<U'/\Q .n (upd H l (.l (a++[y])))
theorem qb:Va c "list.append" yd:=by
 intro pins s j H x k v m Q I d f h;obtain⟨l,o,y,rfl,rfl,b,p,q⟩:=h;cases d;obtain⟨u,rfl,g⟩:=f.one;refine xa (I.Cq b) λz a=>aP a λi n r t e=>?_
 refine Ğ adn ⟨_,e,Y⟩ F.entry_list_append (F.args_list_append_2 _ _) (PySem.list_append l _ n u (by simp_all)) ⟨e,?_⟩
 refine⟨.n,_,I.G_ b e (by simp) (r.append (.cons g .nil)) ?_,Y,q⟩
 grind
def ye:V->B V->Hp->VK->Prop:=λx c H Q=>∃l b a zs,x=.ref l/\c=[.ref b]/\H l=J (.l a)/\H b=J (.l zs)/\a.length+zs.length<=U'/\Q .n (upd H l (.l (a++zs)))
theorem An:Va c "list.extend" ye:=by
 intro pins s C H x D v E Q I m o h;refine bu h λl b G zs g i k p K q=>?_;subst g;subst i
 cases m;obtain⟨u,rfl,t⟩:=o.one;cases t;refine xa (I.Cq k) λz a=>aP a λj n r M e=>?_
 refine xa (I.Cq p) λN a=>aP a λf w y A e2=>?_
 have d:j.toArray.size+f.toArray.size<=U':=by simp_all
 refine Ğ ado ⟨_,e,Y⟩ F.entry_list_extend (F.args_list_extend_2 _ _)
  (AutoSeq1.list_extend_list_list_0 l _ n b _ w (by
  rw[Cr d];simp) (N' (à _ _) d) (adp d)) ⟨e,e2,?_⟩
 refine⟨.n,_,I.G_ k e (by simp) (r.append y) ?_,Y,q⟩
 grind
def Ct:V->B V->Hp->VK->Prop:=λx b H Q=>∃l a i k y,x=.ref l/\b=[.int i]/\H l=J (.l a) /\ -(2 ^ 63)<=i/\i<2 ^ 63/\abR i a.length=J k/\a[k]?=J y/\Q y (upd H l (.l (a.eraseIdx k)))
theorem Cu:Va c "list.pop" Ct:=by
 intro pins s A H x C v D Q I d f h;obtain⟨l,E,i,k,y,rfl,rfl,b,g,j,G,m,q⟩:=h;cases d;obtain⟨u,rfl,o⟩:=f.one;obtain⟨t,rfl⟩:=o;obtain⟨z,p,n,r,K,e⟩:=I.Cq b;obtain⟨w,M,a⟩:=r.get m
 refine Ğ adq ⟨_,e,Y⟩ F.entry_list_pop (F.args_list_pop_2 _ _)
  (MeetsSeq.list_pop_at l _ n i t k w (adt g j) (by simp_all) (by simp_all) (by grind)) ⟨e,?_⟩
 refine⟨y,_,I.G_ b e ?_ (r.eraseIdx k) ?_,a,q⟩
 .simp
 grind
variable{C7:_o V}{T5:_o g'}
section
variable{κ:Type}[DecidableEq κ]
noncomputable def jy(kvs:B (κ×V))(k):=(kvs.find? λa=>decide (a.1=k)).map (·.2)
noncomputable def putK(kvs)(k:κ)(v:V):=
 if (kvs.any λa=>decide (a.1=k))=_t then kvs.map (λa=>if a.1=k then (a.1,v)else a)else kvs++[(k,v)]
noncomputable def nV(kvs:B (κ×V))(k):=kvs.filter λa=>decide (a.1≠k)
theorem km{p r}{k:κ}(e:p.1=k):jy (p::r) k=J p.2:=by simp[jy,Ė,e]
theorem ko{p r}{k:κ}(e:¬ p.1=k):jy (p::r) k=jy r k:=by simp[jy,Ė,e]
theorem uh(k:κ):∀kvs:B (κ×V),(kvs.any λb=>decide (b.1=k))=(jy kvs k).isSome
 |[]=>Y
 |p::r=>by
  rw[Į]
  by_cases e:p.1=k
  .simp only[km e,decide_eq_true e,Bool.true_or,adu]
  .rw[ko e,decide_eq_false e];exact uh k r
theorem el(kvs)(k:κ)(v):(putK kvs k v).length<=kvs.length+1:=by
 unfold putK
 grind
theorem iG.gw(r:iG C7 T5):C7.isSome=T5.isSome:=by
 cases C7 with
 |none=>cases T5 with
  |none=>rfl
  |some _=>exact(r).elim
 |some _=>cases T5 with
  |none=>exact(r).elim
  |some _=>rfl
theorem KV.val{kvs c}(r:KV kvs c)(k:κ):iG (jy kvs k) (Ŗ c k):=by
 induction r with
 |nil=>exact ü
 |@cons p q g a h t i=>
  obtain⟨d,j⟩:=h
  by_cases e:p.1=k
  .have b:Ŗ (q::a) k=J q.2:=by simp[Ŗ,Ė,(d.symm.trans e)]
   rwa[km e,b]
  .have f:¬ q.1=k:=λz=>e (d.trans z)
   have b:Ŗ (q::a) k=Ŗ a k:=by simp[Ŗ,Ė,f]
   rwa[ko e,b]
theorem KV.any{kvs b}(r:KV kvs b)(k:κ):(kvs.any λa=>decide (a.1=k))=b.any λa=>decide (a.1=k):=by
 induction r with
 |nil=>rfl
 |cons h t c=>simp_all
theorem KV.repl{kvs b}(r:KV kvs b)(k:κ)(d:RelV O ζ):
  KV (kvs.map λa=>if a.1=k then (a.1,O)else a) (b.map λa=>if a.1=k then (a.1,ζ)else a):=by
 induction r with
 |nil=>exact .nil
 |@cons p q e f h t c=>
  refine .cons ?_ c
  grind
theorem KV.put{kvs a}(r:KV kvs a)(k:κ)(b:RelV O ζ):KV (putK kvs k O) (ė a k ζ):=by
 unfold putK ė;rw[r.any k]
 by_cases e:(a.any λc=>decide (c.1=k))=_t
 .rw[if_pos e,if_pos e];exact r.repl k b
 .rw[if_neg e,if_neg e];exact adv r ⟨Y,b⟩
theorem KV.drop{kvs a}(r:KV kvs a)(k:κ):KV (nV kvs k) (without a k):=by
 unfold nV without
 induction r with
 |nil=>exact .nil
 |@cons p q g i h t c=>
  obtain⟨b,d⟩:=h;rw[Ž,Ž]
  by_cases e:p.1=k
  .simp_all
  .have f:¬ q.1=k:=λz=>e (b.trans z)
   rw[if_pos (by simp[e]),if_pos (by simp[f])];exact .cons ⟨b,d⟩ c
theorem KV.length{kvs:B (κ×V)}{a}(r:KV kvs a):kvs.length=a.length:=Ū r
theorem Cv(kvs)(k:κ):(nV kvs k).length<=kvs.length:=List.length_filter_le _ _
end
variable{M:W'}{N:T'}{Y6:Key}
theorem l_(r:RelV (kV Y6) ζ):(bH M N).is Y6 ζ=true:=by
 cases Y6 with
 |inl i=>obtain⟨t,e⟩:=(r);subst e;exact Ac i t
 |inr x=>obtain⟨t,e⟩:=(r);subst e;exact Ad x t
theorem qf{P w}:∀{ks}{a},Vals (ks.map kV) a->ItemsAre (bH P w) ks a
 |[],_,r=>by cases r;exact .nil
 |k::ks,_,r=>by
  cases r with
  |cons h t=>exact .cons (l_ h) (qf t)
abbrev KT(H:Hp):B (B Key×V)->B (B Key×f'×g')->Prop:=é λp q=>p.1=q.1/\H q.2.1=J (.t (p.1.map kV))/\RelV p.2 q.2.2
variable{G6:B (B Key×V)}{f9:B (B Key×f'×g')}
theorem KT.val(r:KT e G6 f9)(k):iG (jy G6 k) ((į f9 k).map (·.2)):=by
 induction r with
 |nil=>exact ü
 |@cons p q g c h t i=>
  obtain⟨d,_,j⟩:=h
  by_cases a:p.1=k
  .have b:į (q::c) k=J q.2:=by simp[į,Ė,(d.symm.trans a)]
   rwa[km a,b]
  .have f:¬ q.1=k:=λz=>a (d.trans z)
   have b:į (q::c) k=į c k:=by simp[į,Ė,f]
   rwa[ko a,b]
theorem KT.repl(r:KT e G6 f9)(k)(d:RelV O ζ):
  KT e (G6.map λa=>if a.1=k then (a.1,O)else a) (f9.map (putAt k ζ)):=by
 induction r with
 |nil=>exact .nil
 |@cons p q f g h t c=>
  refine .cons ?_ c;unfold putAt
  by_cases b:p.1=k
  .simp_all
  simp_all
theorem KT.put(r:KT e G6 f9)(k)(c:e i=J (.t (k.map kV)))(b:RelV O ζ):
  KT e (putK G6 k O) (storedH f9 k i ζ):=by
 have a:(G6.any λd=>decide (d.1=k))=(į f9 k).isSome:=by
  rw[uh,(r.val k).gw,abV]
 unfold putK storedH;rw[a]
 by_cases q:(į f9 k).isSome=_t
 .rw[if_pos q,if_pos q];exact r.repl k b
 .rw[if_neg q,if_neg q];exact adv r ⟨Y,c,b⟩
variable{r0:Hp}
theorem KT.keeps(r:KT e G6 f9)(c:∀b a,e b=J (.t a)->r0 b=J (.t a)):KT r0 G6 f9:=
 Paired.GF r λ_ _ z=>⟨z.1,c _ _ z.2.1,z.2.2⟩
variable{H:F'}{T2:HO}
def Cw(ok:iK M N e H)(a:Rd e i T2):=a.ok ok
variable{B5:B (Key×V)}
theorem iC(ok:iK M N e H)(a:Rd e i (.dK B5)):B5.length<=U'/\(i==ð)=_d/\∃b,KV B5 b/\H.DictOf (bH M N) i b:=
 Cw ok a
def KH(ok:iK M N e H)(a:e i=J (.dK B5)):=iC ok (.inl a)
variable{w8:B Key}
theorem lp(ok:iK M N e H)(a:e i=J (.t (w8.map kV))):(ū (bH M N)).is H w8 i:=by
 obtain⟨_,b,r,o,c,d,n,f⟩:=(ok i _ a);exact⟨o,_,n,c,d,f,by simpa using qf r⟩
theorem qh(ok:iK M N e H)(a:Rd e i (.dT G6)):G6.length<=U'/\(i==ð)=_d /\
  ∃xs,KT e G6 xs/\H.DictOfH (ū (bH M N)) i xs:=by
 obtain⟨z,y,xs,r,o,c,d,f,g,h,j,k⟩:=(Cw ok a);refine⟨z,y,xs,r,o,c,d,f,g,h,j,λx hx=>?_,k⟩
 have b:∀{l:B _}{m:B _},KT e l m->∀x∈m,(ū (bH M N)).is H x.1 x.2.1:=by
  intro l m q
  induction q with
  |nil=>simp
  |@cons p q s u w t n=>
   intro x hx;rcases Ì.mp hx with a|hx
   .exact lp ok (by simp_all)
   .exact n x hx
 exact b r x hx
def KI(ok:iK M N e H)(a:e i=J (.dT G6)):=qh ok (.inl a)
def lr(H a y)(r:_o V):=
 (∃c k,Rd H a (.dK c)/\y=kV k/\r=jy c k)\/∃c k b,Rd H a (.dT c)/\y=.ref b/\H b=J (.t (k.map kV))/\r=jy c k
def ui(H a y v d):=
 (∃c k,H a=J (.dK c)/\y=kV k/\c.length<U'/\d=upd H a (.dK (putK c k v))) \/
 ∃c k b,H a=J (.dT c)/\y=.ref b/\H b=J (.t (k.map kV))/\c.length<U'/\d=upd H a (.dT (putK c k v))
theorem lr.k{H a kvs k}(e:H a=J (.dK kvs)):lr H a (kV k) (jy kvs k):=.inl ⟨_,k,.inl e,Y,Y⟩
variable{S:f'}
theorem lr.t(a:e i=J (.dT G6))(b:e S=J (.t (w8.map kV))):lr e i (.ref S) (jy G6 w8):=.inr ⟨_,w8,S,.inl a,Y,b,Y⟩
theorem ui.k{H a kvs k v}(e:H a=J (.dK kvs))(b:kvs.length<U'):ui H a (kV k) v (upd H a (.dK (putK kvs k v))):=.inl ⟨_,k,e,Y,b,Y⟩
theorem ui.t(a:e i=J (.dT G6))(b:e S=J (.t (w8.map kV)))(c:G6.length<U'):
  ui e i (.ref S) O (upd e i (.dT (putK G6 w8 O))):=.inr ⟨_,w8,S,a,Y,b,c,Y⟩
theorem Inv.big(I:Inv c R ν e y):ð<y.heap.objs.size:=Ó (by decide) ((I.mod.glob.keeps I.bk).lt)
variable{T3 ψ:g'->iv->Prop}{ο:Ä}
theorem Ao(u:ο.units+1<Æ)(I:Inv c R ν e y)(g:lr e i O (J D3))(s:RelV O ζ)(h:∀j t,Inv c R ν e t->RelV D3 j->T3 j t):
  nc (B' c.prog c.w) ο (Ŕ (.ref i) ζ) T3 ψ y:=by
 rcases g with ⟨m,k,a,n,l⟩|⟨m,k,b,a,n,x,l⟩
 .subst n
  obtain⟨z,A,D,d,o⟩:=iC I.hok a;obtain⟨j,q,f⟩:=iG.some_of (by rw[l];exact d.val k)
  exact wpAny_getItem_of (l_ s) o.mapOf q (h j _ (I.tok _) f)
 .subst n
  cases (s);obtain⟨z,A,E,d,o⟩:=qh I.hok a;obtain⟨j,q,f⟩:=iG.some_of (by rw[l];exact d.val k)
  obtain⟨p,C,r⟩:=È.mp q;refine wpAny_getItem_heap (ϱ u) (lp I.hok x) o C ?_;rw[r];exact h j _ (I.tok _) f
theorem XO(r:ο.units+1<Æ)(I:Inv c R ν e y)(g:lr e i O C7)(o:RelV O ζ)(h:∀p,Inv c R ν e p->T3 (.bool C7.isSome) p):
  nc (B' c.prog c.w) ο (Ú .In ζ (.ref i)) T3 ψ y:=by
 rcases g with ⟨f,k,a,j,l⟩|⟨f,k,b,a,j,s,l⟩
 .subst j
  obtain⟨z,m,t,d,n⟩:=iC I.hok a;refine wpAny_in_of (l_ o) m n.mapOf ?_;rw[←(d.val k).gw,←l];exact h _ (I.tok _)
 .subst j
  cases (o);obtain⟨z,m,u,d,n⟩:=qh I.hok a;refine wpAny_in_heap (ϱ r) (lp I.hok s) m n ?_;have q:=(d.val k).gw;rw[abV]at q;rw[←q,←l];exact h _ (I.tok _)
theorem Hd(r:ο.units+1<Æ)(I:Inv c R ν e y)(g:lr e i O C7)(o:RelV O ζ)(h:∀p,Inv c R ν e p->T3 (.bool (!C7.isSome)) p):
  nc (B' c.prog c.w) ο (Ú .NotIn ζ (.ref i)) T3 ψ y:=by
 rcases g with ⟨f,k,a,j,l⟩|⟨f,k,b,a,j,s,l⟩
 .subst j
  obtain⟨z,m,t,d,n⟩:=iC I.hok a;refine wpAny_notIn_of (l_ o) m n.mapOf ?_;rw[←(d.val k).gw,←l];exact h _ (I.tok _)
 .subst j
  cases (o);obtain⟨z,m,u,d,n⟩:=qh I.hok a;refine wpAny_notIn_heap (ϱ r) (lp I.hok s) m n ?_;have q:=(d.val k).gw;rw[abV]at q;rw[←q,←l];exact h _ (I.tok _)
theorem kr{s}(I:Inv c R ν e s)(f:UX (e i))(g:Ĺ i s.heap H)(h:∃q,H.get? i=J q)(d:cu c.prog c.w (upd e i T2) H i T2):
  Inv c R ν (upd e i T2) {s with heap:=H,toks:=b}:=
 I.write f (.inl Y) (λa q j z=>(g.2 a j).trans z) h d
theorem nW{a}(z:B5.length<=U')(c:(i==ð)=_d)(b:KV B5 a)(d:H.DictOf (bH M N) i a):
  cu M N e H i (.dK B5):=⟨z,c,a,b,d⟩
variable{L4:Unit->iv->Prop}{U3:g'}
theorem Ap(D:ο.units+1<Æ)(I:Inv c R ν e y)(g:ui e i O D3 r0)(u:RelV O ζ)(x:RelV D3 U3)(h:∀A,Inv c R ν r0 A->L4 () A):
  nc (B' c.prog c.w) ο (setItem (.ref i) ζ U3) L4 ψ y:=by
 rcases g with ⟨j,k,a,n,l,o⟩|⟨j,k,b,a,n,C,l,o⟩
 .subst n o
  obtain⟨z,p,E,d,r⟩:=KH I.hok a;have F:E.length<=U':=by rwa[←d.length]
  refine wpAny_setItem_pairs (l_ u) r λG f s=>h _ ?_
  exact kr I (by rw[a];exact ü) s (let ⟨q,_,_,m,_⟩:=f;⟨q,m⟩) (nW (by have:=el j k D3;exact N' this l) p (d.put k x) f)
 .subst n o
  cases (u);obtain⟨z,p,H,d,r⟩:=KI I.hok a;have F:H.length<=U':=by rwa[←Ū d]
  refine wpAny_setItem_heap (ϱ D) (lp I.hok C) r λG f s=>h _ ?_
  obtain⟨q,K,M,m,N,P,Q,_,S⟩:=f;refine kr I (by rw[a];exact ü) s ⟨q,m⟩ ⟨(by have:=el j k D3;exact N' this l),p,_,(d.put k C x).keeps λt T U=>?_,q,K,M,m,N,P,Q,S⟩
  rwa[av (by grind)]
theorem QE(I:Inv c R ν e y)(a:e i=J (.dK B5))(j:RelV (kV Y6) ζ)(l:jy B5 Y6=J O)(m:A0=[]\/∃x,A0=[x])(h:∀f n,Inv c R ν (upd e i (.dK (nV B5 Y6))) n->RelV O f->T3 f n):nc (B' c.prog c.w) ο (call (.builtin "dict.pop") (.ref i::ζ::A0)) T3 ψ y:=by
 obtain⟨z,p,r,b,o⟩:=KH I.hok a;obtain⟨f,s,k⟩:=iG.some_of (by rw[←l];exact b.val Y6)
 refine abW adw o.typeIs PySem.F.entry_dict_pop (by
  rcases m with q|⟨x,q⟩
  .subst q;exact PySem.F.args_dict_pop_2 _ _
  .subst q;exact PySem.F.args_dict_pop_3 _ _ _) (meets_dict_pop_there _ i (l_ j) _ m (by
  cases Y6 with
  |inl d=>obtain⟨t,q⟩:=(show ∃t,ζ=Ŋ d t from j);subst q;rfl
  |inr x=>obtain⟨t,q⟩:=(show ∃t,ζ=ă x t from j);subst q;rfl))
  ⟨r,f,o,by rwa[←b.length],s,λC g u=>h f _ ?_ k⟩
 exact kr I (by rw[a];exact ü) u (let ⟨q,_,_,A,_⟩:=g;⟨q,A⟩) (nW (N' (Cv _ Y6) z) p (b.drop Y6) g)
theorem QF(I:Inv c R ν e y)(a:Rd e i (.dK B5))(h:∀t d,Inv c R ν e d->T3 (.int B5.length t) d):nc (B' c.prog c.w) ο (call (.builtin "len") [.ref i]) T3 ψ y:=by
 refine iL (iC I.hok a) λz f j b g=>?_
 refine call_len_dict f g (by rw[←b.length];rw[ą]at z;exact Qi z) ?_
 rw[←b.length];exact h _ _ (I.tok _)
def QH(i):=∀a b,abU i _d a b=operate [a,b] (Ŕ a b)
variable{D5:Ã}
theorem He(j:ł (.type o5) "__getitem__"=pure (J (.builtin z7)))(k:QH ξ)(h:nc (B' M N) ο (eval n D5) (λa d=>nc (B' M N) ο (eval ξ D5) (λi b=>b.TypeIs a o5/\nc (B' M N) ο (Ŕ a i) T3 ψ b) ψ d) ψ y):
  nc (B' M N) ο (eval (.Subscript n ξ o) D5) T3 ψ y:=by
 refine abP (Ý h (λa d e=>Ý e (λi b c=>?_) λ_ _ x=>x) λ_ _ x=>x)
 obtain⟨l,c⟩:=c;refine j' ?_;refine j' (adx l j ?_)
 first
  |exact I' (j' (by
  rw[k a i];exact wpAny_operating (Ý c (λr g f=>j' (wpAny_letTemporaryGo (I' f))) λ_ _ x=>x)))
theorem uj(I:Inv c R ν e y)(g:lr e i O C7):y.TypeIs (.ref i) "dict":=by
 rcases g with ⟨d,k,a,_,_⟩|⟨d,k,b,a,_,_,_⟩
 .obtain⟨_,_,h,_,f⟩:=iC I.hok a
  exact f.typeIs
 .obtain⟨_,_,j,_,f⟩:=qh I.hok a
  exact f.typeIs
def QI(d e:TE):TE:=λb H Q=>d b H λx f=>e b f λy c=>∃a v,x=.ref a/\lr c a y (J v)/\Q v c
theorem Hf(f:c.A.units+1<Æ)(i:PE c n u0)(j:PE c ξ E3)(k:QH ξ):PE c (.Subscript n ξ o) (QI u0 E3):=by
 intro pins s d H Q I h;refine He PySem.F.slot_dict_getitem.lookup k (bO (i pins s d H _ I h) λu l ⟨x,H1,I1,rx,q1⟩=>bO (j pins l d H1 _ I1 q1) λz C m=>?_);obtain⟨y,p,e,q,a,v,r,g,t⟩:=m
 subst r;obtain rfl:u=Ë a:=rx;exact⟨uj e g,Ao f e g q λD E w b=>⟨v,p,w,b,t⟩⟩
theorem uk(h:F')(a:ð<h.objs.size):cu M N e (h.push {cls:=.type "dict",data:=.dict #[]}) h.objs.size (.dT []):=
 ⟨ĉ _,by grind,[],.nil,_,_,0,Ò _ Y,⟨Y,Y,Y⟩,Y,Y,by simp⟩
def My:TE:=λ_ H Q=>∀p,H p=_n->Q (.ref p) (upd H p (.dK []))
def Mz:TE:=λ_ H Q=>∀p,H p=_n->Q (.ref p) (upd H p (.dT []))
theorem Cy:PE c (.Dict [] [] o) My:=λpins s a H Q I h=>
 adz ⟨.ref _,_,I.laid (λ_ _ q=>Y' _ q) (R' _) (by
   exact⟨ĉ _,beq_eq_false_iff_ne.mpr (Í (X' I.big)),[],.nil,abX _⟩),Y,h _ (I.hok.fresh (R' _))⟩
theorem Cz:PE c (.Dict [] [] o) Mz:=λpins s a H Q I h=>
 adz ⟨.ref _,_,I.laid (λ_ _ q=>Y' _ q) (R' _) (uk _ I.big),Y,h _ (I.hok.fresh (R' _))⟩
def CA:B (TE×TE)->St->Hp->(B (V×V)->Hp->Prop)->Prop
 |[],_,H,Q=>Q [] H
 | (a,b)::r,σ,H,Q=>a σ H λx c=>b σ c λy d=>CA r σ d λe f=>Q ((x,y)::e) f
abbrev VV:B (V×V)->B (g'×g')->Prop:=é λp q=>RelV p.1 q.1/\RelV p.2 q.2
def Vb(X pos)(keys:B (_o p'))(a:B p')(b:B (TE×TE)):=
 ∀pins s (c:St) H Q,Inv X pins c H s->CA b c H Q ->
  nc (B' X.prog X.w) X.A (evalPairs (pairTrees keys a X.env pos)) (λf g=>∃d e,Inv X pins c e g/\VV d f/\Q d e) X.xe s
theorem Hg:Vb c o [] [] []:=λpins s a H Q I h=>pairTrees_nil_walk ⟨[],H,I,.nil,h⟩
theorem CB{ks a}(d:PE c n u0)(e:PE c ξ E3)(f:Vb c o ks Z a):
  Vb c o (J n::ks) (ξ::Z) ((u0,E3)::a):=λpins s b H Q I h=>
 pairTrees_cons_walk (bO (d _ s b H _ I h) λu g ⟨x,H1,I1,rx,q1⟩=>bO (e _ g b H1 _ I1 q1) λj i ⟨y,H2,I2,ry,q2⟩=>
  bO (f _ i b H2 _ I2 q2) λk l ⟨m,H3,I3,rel,q3⟩=>⟨_,H3,I3,.cons ⟨rx,ry⟩ rel,q3⟩)
structure M1(X:Cx)(o:p')(m:L)(apos:K')(e:p')(cpos:K'):Prop where
 base:ý o m X.env (eval o X.env)=eval o X.env
 few:((À cpos (D' [e] X.env)).all (λx=>!x.1)&&(ö cpos (ø [] X.env)).all (λx=>x.1.isSome)
  && decide (([e]:B p').length+([]:B ĭ).length+(if ([]:B ĭ).isEmpty then 0 else 1)<30))=_t
 line:(apos.endLine==cpos.line)=_t
 trees:À cpos (D' [e] X.env)=[(_d,eval e X.env)]
structure M2(X:Cx)(o:p')(m:L)(apos:K')(e f:p')(cpos:K'):Prop where
 base:ý o m X.env (eval o X.env)=eval o X.env
 few:((À cpos (D' [e,f] X.env)).all (λx=>!x.1)&&(ö cpos (ø [] X.env)).all (λx=>x.1.isSome)
  && decide (([e,f]:B p').length+([]:B ĭ).length+(if ([]:B ĭ).isEmpty then 0 else 1)<30))=_t
 line:(apos.endLine==cpos.line)=_t
 trees:À cpos (D' [e,f] X.env)=[(_d,eval e X.env),(_d,eval f X.env)]
def IsD(H a):=(∃b,Rd H a (.dK b))\/∃b,Rd H a (.dT b)
theorem v_(I:Inv c R ν e y)(d:IsD e i):
  y.TypeIs (.ref i) "dict"/\(∀b,Ë i=.ref b->∃f,y.heap.get? b=J f/\f.dict=_n)/\(i==ð)=false:=by
 rcases d with ⟨h,a⟩|⟨h,a⟩
 .obtain⟨_,j,m,_,g⟩:=iC I.hok a
  refine⟨g.typeIs,λb q=>?_,j⟩
  cases q;obtain⟨f,_,_,k,l,_⟩:=g;exact⟨f,k,l.2.1⟩
 .obtain⟨_,j,n,_,g⟩:=qh I.hok a
  refine⟨g.typeIs,λb q=>?_,j⟩
  cases q;obtain⟨f,_,_,k,l,_⟩:=g;exact⟨f,k,l.2.1⟩
end L2
namespace Att
open PySem PySem.W PySem.Calls PyProof.Rows
variable{H:F'}
theorem mD{P}:∀c d,WellAll P H d (c.map WData.int)->ž d c:=by
 intro c
 induction c with
 |nil=>
  intro d w;cases w;exact .nil
 |cons n c e=>
  intro d w;cases w with
  |cons a b=>
   cases a;exact .cons _ _ (e _ b)
variable{A0:B g'}{b:Nat}
theorem Aq{l:OpenLaw}(j:l.most=J b){P args}(c:l.row.toRowW.claim.pre args=_t)(g:WellAll P H A0 args):
  ∃a i e,A0=[Ë a]/\args=[WData.list (e.map WData.int)]/\H.get? a=J {cls:=.type "list",data:=.seq i.toArray}/\ž i e/\e.length<=b:=by
 obtain⟨d,r,rfl,k,m⟩:=hasAllW_cons ((pre_splitW c).1);obtain rfl:=hasAllW_nil m;obtain⟨s,rfl,n⟩:=hasW_list k;obtain⟨e,rfl⟩:=items_int n;cases g with
 |cons o p=>
  cases p;cases o with
  |list q f=>exact⟨_,_,e,Y,Y,q,mD e _ f,(by
  have h:=by
   have h:=(holds_andW ((pre_splitW c).2)).1;rwa[j]at h
  have t:=condW_of h (w_not (w_lt w_lit (w_len_list (w_arg Y))))
  simp_all)⟩
variable{M:W'}{Q9:DefRec}{X9:(L->_o g')->F'->Prop}{j9:T'->F'->Prop}{l:B L}
theorem um{d:OpenLaw}(H:d.most=J b)(u:Q9.params.defaults=[])(call:∀w e c p x i o y q j a h s,
   Ground M l [] X9 w e p x c.heap->j9 w c.heap ->
   c.heap.get? i=J o->o.data=.func (docDef Q9.name Q9.params Q9.body Q9.scope y q j)->c.heap.CodeRec q Q9.name->p Q9.name=J (.ref i) ->
   c.heap.get? a=J {cls:=.type "list",data:=.seq h.toArray}->ž h s->s.length<=b->c.gens = #[] ->
   Û (B' d.prog w) Ń (.call (.ref i) ⟨[.ref a],[]⟩) (λr t=>r=.ok (.ret (.bool _t))/\OldK c.heap t.heap/\t.os=c.os/\Č t.gens) c):
  WalkO M l X9 j9 d.row.toRowW Q9 [] (λf h=>abY f h):=by
 intro w e c p x G Y i o y q j I kV K N z D A O args E V k F P C Q;obtain rfl:I=.none:=Dflts.none D u;obtain rfl:kV=.none:=Dflts.noKw D;obtain⟨a,h,s,rfl,rfl,m,g,n⟩:=Aq H k C;refine enter_call (Ĕ (call w _ _ p x i o y q _ a h s G Y K (fd_plain N) z A m g n O) λr t R=>?_)
 obtain⟨rfl,S,T,U⟩:=R
 exact⟨.inl ⟨_,_,[],rfl,λ_=>rfl,.bool _,postW_of
    (by rfl)
    (w_eq_bool (w_res rfl) w_lit) rfl,by simp⟩,S,T,U⟩
end Att
namespace L2
open PySem PySem.Spec PyProof.Rows
theorem qj:∀{a}{b},ž a b->Vals (b.map V.int) a
 |_,_,.nil=>.nil
 |_,_,.cons n t h=>.cons ⟨t,Y⟩ (qj h)
def Only(H:Hp):=∀b,H b=_n\/∃o a,H b=J (.cX o (.l a))
variable{A0:B g'}{E4:Sp}{F6:B Int}{G:G'}{M:W'}{N:T'}{Q5:BO}{S i:f'}{b:Nat}{d:L}{j0:Â}{y:iv}{θ:L->_o g'}
theorem CC{P}(KX:G.In y.heap)(t:y.heap.Ns Ï θ)(g:y.heap.Ns abp P)(Q:∀d:L,d≠"__name__"->P d=Ĉ d)(w:y.heap.NoLimit)(hg:y.gens = #[])(O:y.heap.get? S=J {cls:=.type "list",data:=.seq A0.toArray})(hi:ž A0 F6)(hl:F6.length<=U')(hr:bF b Ń)(F:∀base,G.In base->base.Ns Ï θ->bt M N G θ base Q5 b i j0 [d] E4)(p:∀s u,ĩ s j0 ⟨[u],[]⟩ [(d,u)])(R:∀H,Only H->mP G H S (F6.map V.int)->E4 [.ref S] H (λv _=>v=.bl _t) λ_ _ _=>False)(T:∀H e j,Q5 [] H y (λ_ _ _=>False) e j->False):
  Û (B' M N) Ń (.call (.ref i) ⟨[.ref S],[]⟩) (λr j=>r=.ok (.ret (.bool _t))/\OldK y.heap j.heap/\j.os=y.os/\Č j.gens) y:=by
 have rv:=qj hi;have x:=hi.length
 have l:∀H:Hp,Only H->mP G H S (F6.map V.int)->iK M N H y.heap->(∀a,H a≠_n->a=S)->(H S≠_n->G.lookup S=_n) ->
   Û (B' M N) Ń (.call (.ref i) ⟨[.ref S],[]⟩) (λr j=>r=.ok (.ret (.bool _t))/\OldK y.heap j.heap/\j.os=y.os/\Č j.gens) y:=by
  intro H hO hS A hA hK
  have f:∀{a:f'}{o:Obj},y.heap.get? a=J o->H a=_n->(vP y.heap H).get? a=J o:=λe n=>PySem.W.hideAll_get _ e λhm=>by
     have q:=(abo.mp hm).2
     simp_all
  have U:∀{a:f'}{o:Obj}{C:Array ŗ}{D:Nat},y.heap.get? a=J o->o.data=.dict C D->H a=none:=λ{a o C D} e c=>by
   cases q:H a with
   |none=>rfl
   |some u=>
    have X:a=S:=hA a (by rw[q];simp)
    subst X;rw[O]at e;cases e
    have d':Data.seq A0.toArray _=Data.dict C D:=c;cases d'
  have k:∀{a:f'}{m:L->_o g'},y.heap.Ns a m->(vP y.heap H).Ns a m:=λ{a m}  zf =>cD zf λo C D e c r=>⟨o,C,D,f e (U e c),c,r⟩
  have E:G.In (vP y.heap H):=λa o e=>f (KX a o e) (by
   cases q:H a with
   |none=>rfl
   |some u=>
    have X:a=S:=hA a (by rw[q];simp)
    subst X;rw[hK (by rw[q];simp)]at e;cases e)
  have hM:Mod G θ (vP y.heap H):=⟨E,k t,⟨P,k g,Q⟩,bN (w) λmc h1 h2=>⟨mc,k h1,h2⟩⟩
  have e0:rH M N G θ (vP y.heap H) Ń [] y H:=⟨Y,hM,λa o e=>GG e,Á (PySem.W.hideAll_size _ _),trivial,λa g=>absurd (show a∈([]:B f')from g) (by simp),A,.of_eq hg⟩
  refine Ĕ ((F _ E (k t)).run Ń [] y H ⟨[.ref S],[]⟩ [.ref S] [.ref S] _ _ hr e0 (p y (.ref S)) (.cons Y .nil) (R H hO hS)) λr j h=>?_
  cases r with
  |error e=>exact(T H e j h).elim
  |ok fl=>
   cases fl with
   |next=>exact è h
   |brk=>exact è h
   |cont=>exact è h
   |ret u=>
    refine bW h λv H' os bare un I Z=>xa Z λr' q=>?_
    have q':v=.bl true:=q;subst q';obtain rfl:u=acQ true:=r';refine⟨Y,OldK.of_keep λa o e=>?_,os,bare⟩
    cases q:H a with
    |none=>exact un.keep a o e q (by intro z;exact absurd (show a∈([]:B f')from z) (by simp)) (by simp)
    |some u=>
     rcases hO a with z|⟨ob,xs,z⟩
     .rw[q]at z;cases z
     .have z2:=un.fh a ob _ z
      obtain⟨e1,_⟩:=A a _ z;obtain⟨e2,_⟩:=I a _ z2;rw[e]at e1;cases e1
      exact e2
 cases hk:G.lookup S with
 |some o=>
  have e:=KX S o hk;rw[O]at e;cases e;refine l (λ_=>_n) (λ_=>.inl Y) (.inr ⟨_,A0.toArray,_,hk,Y,Y,Y,by rw[æ,x];exact hl,by simpa using rv⟩) (λa u z=>by have K:(_n:_o HO)=J u:=z;cases K) (λa z=>absurd Y z) λz=>absurd Y z
 |none=>
  refine l (λa=>if a=S then J (.cX {cls:=.type "list",data:=.seq A0.toArray} (.l (F6.map V.int)))else _n) (λa=>?_) (.inl (.inr ⟨{cls:=.type "list",data:=.seq A0.toArray},if_pos Y⟩)) (λa u z=>?_) (λa z=>?_) λ_=>hk
  .by_cases g:a=S
   .exact .inr ⟨_,_,if_pos g⟩
   .exact .inl (if_neg g)
  .by_cases g:a=S
   .have K:=(if_pos g).symm.trans z
    cases K;subst g;exact⟨O,by rw[ß];exact hl,A0,_,rv,O⟩
   .have K:=(if_neg g).symm.trans z
    cases K
  .by_cases g:a=S
   .exact g
   .exact absurd (if_neg g) z
variable{Q9:DefRec}{X9:(L->_o g')->F'->Prop}{j9:T'->F'->Prop}{l:B L}{m:Nat}
theorem Hh{c:adA}{K:ϲ->G'}{CX:T'->BO}{sp:T'->Sp}(I:c.most=J b)(r:b<=U')(t:Q9.params.defaults=[])(N:bF m Ń)(O:∀w h,j9 w h->(K w.params).In h)(F:∀w k p h,(K w.params).In h->h.Ns Ï k->k Q9.name=J (.ref p) ->
   ∃x,(∀s u,ĩ s x ⟨[u],[]⟩ [(d,u)]) /\
    ∀base,(K w.params).In base->base.Ns Ï k->bt c.prog w (K w.params) k base (CX w) m p x [d] (sp w))(y:∀w H a (q:B Int),q.length<=b->Only H->mP (K w.params) H a (q.map V.int)->sp w [.ref a] H (λv _=>v=.bl _t) λ_ _ _=>False)(P:∀w H s e Q,CX w [] H s (λ_ _ _=>False) e Q->False):
  adB M l X9 j9 c.row.toRowW Q9 [] (λf A=>abY f A):=by
 refine Att.um I t λw C D k mb p o pm cd R a A q G Y ho hd S z n j i U=>?_
 have E:=O w _ Y;obtain⟨x,X,Z⟩:=F w k p _ E G.T.g z;exact CC E G.T.g G.T.b G.T.builtins G.T.nolimit U n j (N' i r) N Z X (λH hO hS=>y w H a q i hO hS) (by simp_all)
set_option backward.match.sparseCases false in
noncomputable def inClass(s:O')(j:Nat):=match s with
 |.ClassDef _ _ _ body _ _ _ _ _ _ _=>body.getD j (.Pass ⟨0,0,0,0⟩)
 |_=>.Pass ⟨0,0,0,0⟩
set_option backward.match.sparseCases false in
noncomputable def cR(s:O'):=match s with
 |.FunctionDef _ a _ _ _ _ _ _ _ _=>a
 |_=>{posonlyargs:=[],args:=[],vararg:=_n,kwonlyargs:=[],kw_defaults:=[],kwarg:=_n,defaults:=[]}
noncomputable def bg(s:O'):=match s with
 |.FunctionDef _ _ b _ _ _ _ _ _ _=>b
 |_=>[]
noncomputable def ah(s:O'):=match s with
 |.FunctionDef _ _ _ _ _ _ a _ _ _=>a
 |_=>{kind:=.function,names:=[],isGenerator:=_d,isCoroutine:=_d}
abbrev dZ:BO:=λ_ _ _ _ _ _=>False
abbrev E0:XK:=λ_ _ _=>False
variable{c:Cx}
theorem mh:Passes dZ c E0:=λ_ _ _ _ _ _ _ h=>h.elim
structure tU(K:G')(x qual:L)(st:O')(f:f')(fd:Â):Prop where
 ex:∃(oc:g') (od:_o f') (kV doc pm:g') (an:_o f') (cdv ct:g') (osl:Array (_o g')),
  fd=í x qual (cR st) (bg st) (ah st) .none kV doc pm an cdv ct/\K.lookup f=J ⟨oc,od,.func fd,osl⟩/\Ĭ K cdv qual=_t
 kp:Î K (.ref f)=_t
variable{C:L}{H:F'}{i0:B L}{ω:O'}
theorem tU.ok(F:tU G d C ω i j0)(S:hY l i0 (ah ω))(g:∀c a Q E,E4 c a Q E->c.length=i0.length)(e:∀f A outer s a c Q E,bF b (A.deeper (Ç C (ah ω) s.heap.objs.size i f))->E4 c a Q E ->
   ∃t,j6 (cz dZ M N G θ H l C (ah ω) i f A outer s a E).k_ (bg ω) t/\t {nx:=λ_ w=>Q .n w,rt:=Q} (start l c) a):bt M N G θ H dZ (b+1) i j0 i0 E4:=by
 refine xe F.ex λoc j=>xe j λI k=>xe k λkV m=>xe m λx n=>xe n λK o=>bj o λO f ct y p z r=>?_;subst p
 refine Cm z r S g λA outer s a c Q E D u=>?_
 obtain⟨t,h,q⟩:=e _ A _ s a c Q E D u;exact⟨t,h.k_,q⟩
theorem tU.binds(F:tU G d C ω i j0)(h:∀kV a c e b ct f,f.length=l.length->Ϩ (í d C (cR ω) (bg ω) (ah ω) .none kV a c e b ct) ⟨f,[]⟩=pure (l.zip f)):Binds G j0 l []:=by
 refine xe F.ex λoc g=>xe g λr j=>xe j λkV k=>xe k λa m=>xe m λc n=>bj n λe b ct p o s q=>?_;subst o
 exact .all (h kV _ c e _ ct)
variable{C6:Array (_o g')}{L5 V6:_o f'}{R7 S6 U3 u7 v7 ζ:g'}
theorem wa(l:G.lookup i=J ⟨ζ,L5,.func (í d C (cR ω) (bg ω) (ah ω) .none U3 S6 u7 V6 v7 R7),C6⟩)(c:Ĭ G v7 C=_t)(k:Î G (.ref i)=_t):tU G d C ω i (í d C (cR ω) (bg ω) (ah ω) .none U3 S6 u7 V6 v7 R7):=⟨⟨ζ,L5,U3,_,u7,V6,_,R7,_,Y,l,c⟩,k⟩
theorem Ar:ek c (.builtin "len") (λxs H Q=>∃a kvs,xs=[V.ref a]/\Rd H a (.dK kvs)/\Q (.int kvs.length) H):=by
 intro pins s f H xs g Q I r h;obtain⟨a,kvs,rfl,b,q⟩:=h;obtain⟨u,rfl,d⟩:=vals1 r;cases d;exact QF I b λt i e=>⟨.int _,H,e,⟨t,Y⟩,q⟩
variable{U4:Prop}
theorem wb{B}(h:B):if _d=_t then U4 else B:=by
 simp_all
theorem wc{B}(h:U4):if _t=_t then U4 else B:=h
def nX(H a:Hp):=∀b o,H b=J o->a b=J o
variable{e r0 y8:Hp}
theorem nX.trans(a:nX e r0)(b:nX r0 y8):nX e y8:=λc o h=>b c o (a c o h)
open PySem.W
def QJ(X f)(c:B V)(a:St)(H Q):=∀pins s b,Inv X pins a H s->Vals c b->nc (B' X.prog X.w) X.A (call (.ref f) b) (EP X pins a Q) X.xe s
noncomputable def qk(a:f')(o:Obj):HO:=.cX o (.ext λh=>h.get? a=J o)
variable{R0:Obj}
theorem Hi(a:H.get? i=J R0):cu M N e H i (qk i R0):=⟨a,a,⟨R0,a⟩,λb c q k=>k R0 q⟩
noncomputable def Cx.fz(X:Cx)(xs:B L):={X with fn:=λy=>X.fn y&&!(xs.contains y)}
theorem KT.length{H l m}(q:KT H l m):m.length=l.length:=by
 induction q with
 |nil=>rfl
 |cons _ _ a=>simp_all
end L2
namespace HT
open PySem PyProof.Rows
end HT
namespace L2
open PySem PySem.Spec PyProof.Rows
open PySem.W
noncomputable abbrev ji(h:F')(C)(rest:B g'):=(h.push {cls:=.type "tuple",data:=.seq rest.toArray}).push {cls:=.ref C,data:=.fields #[.ref h.objs.size,.none,.none,.none,.bool _d,.none]}
variable{A0 C9 D9 V5 v8:B g'}{B6:Array GenState}{C d:L}{E X2:Bool}{H:F'}{L5:_o f'}{M:W'}{N:T'}{P0 S i:f'}{T5 m8 n8 o8 p8:_o g'}{U6:OsState}{b:Nat}{l:B L}{m9 o5 z7:String}{t8:_o Bool}{z6:Drawn}{θ:L->_o g'}{ο:Ä}{ψ:g'->iv->Prop}
theorem pL(F:abZ o5 z7 m9 v8)(T:ſ H v8 V5)(h:H.get? i=J (Ř d C i S A0 V5 E l C9 X2 t8 L5 T5 m8 n8 o8 p8 z7))(q:H.Ns S θ)(m:θ "__init__"=J (.ref P0))(s:∀self,ϳ (B' M N) H (bindSpecial (.ref P0) self) (.ref P0,[self]))(f:D9.length<=U'){Q}(t:Û (B' M N) ο (.call (.ref P0) ⟨.ref (H.objs.size+1)::D9,[]⟩) (λr n=>match r with|.ok (.ret v)=>v=.none/\Q (.done (.ret (.ref (H.objs.size+1)))) n|.ok _=>False|.error e=>ψ e n) ⟨ji H i D9,B6,z6,b,U6⟩):
  nc (B' M N) ο (ù.«type.__call__» ⟨.ref i::D9,[]⟩) Q ψ ⟨H,B6,z6,b,U6⟩:=by
 repeat (first|with_reducible refine adC h ?_|with_reducible refine wpAny_madeBy_exc h ?_|wp_step)
 refine codeAny_call_builtin_code (adF _ F.quiet) (wpAny_check_new_subT F T h ?_);refine codeAny_exc_new_subT F T h ?_ f
 show nc _ _ _ _ _ _
 have k:∀a o,H.get? a=J o->(ji H i D9).get? a=J o:=λa o e=>Y' _ (Y' _ e)
 have c:=k _ _ h;have g:(ji H i D9).Ns S θ:=ei (q) λo u w e r=>⟨o,u,w,k _ _ e,r⟩
 have p:(Ë i::V5).contains (.ref i)=true:=by simp
 have j:=T.keeps k;have x:=(s (.ref (H.objs.size+1))).keeps k;unfold isInstance
 repeat (first|with_reducible refine adC hget ?_ | (with_reducible refine adG c ?_;rw[p])|wp_step)
 show nc _ _ (ł (.ref i) _) _ _ _
 refine wpAny_typeLookup_tail c g j F.mroIs F.init.lookup ?_;rw[m];refine î (j' (x.at ?_));refine j' (ě (Ĕ t λr n z=>?_))
 rcases r with e | (v|_|_|_)<;>first|exact z|exact z.elim|skip
 obtain⟨rfl,z⟩:=z;exact I' (I' z)
variable{S5:œ->iv->Prop}
theorem CD(F:abZ o5 z7 m9 v8)(T:ſ H v8 V5)(e:H.get? i=J (Ř d C i S A0 V5 E l C9 X2 t8 L5 T5 m8 n8 o8 p8 z7))(f:H.Ns S θ)(c:θ "__init__"=J (.ref P0))(g:∀self,ϳ (B' M N) H (bindSpecial (.ref P0) self) (.ref P0,[self]))(a:D9.length<=U')(h:Û (B' M N) (ο.under (.builtin "type.__call__" ⟨.ref i::D9,[]⟩)) (.call (.ref P0) ⟨.ref (H.objs.size+1)::D9,[]⟩) (abB (H.objs.size+1) S5) ⟨ji H i D9,B6,z6,b,U6⟩):
  Û (B' M N) ο (.call (.ref i) ⟨D9,[]⟩) S5 ⟨H,B6,z6,b,U6⟩:=by
 have j:=tc_lookup;have k:=tc_bind (.ref i);refine codeAny_of_tree ?_
 repeat (any_goals (first|assumption|rfl|wp_step))
 refine⟨Y,?_⟩;refine codeAny_call_builtin_at (adF _ (by decide +kernel)) entry_typeCall (wpAny_check_type_call_sub e (pL F T e f c g a ?_))
 exact h
open PySem.W (clsIn findIn takerIn InstAt)
open PySem.Builtin PySem.Builtin.ObjectAttr PySem.Builtin.Getset_descriptor
noncomputable abbrev rY:B g':=[.type "ValueError",.type "Exception",.type "BaseException",.type "object"]
noncomputable def hZ:B g'->Bool
 |.ref _::r=>hZ r
 |l=>l==rY
theorem ql(self):∀{l},hZ l=_t->refuseLoop self "__setattr__" l=pure ()
 |[],e=>by rfl
 |a::r,e=>by
  cases a with
  |ref c=>rw[refuseLoop_ref];exact ql _ e
  |_=>rw[eq_of_beq (e)];exact PySem.F.store_ValueError.passes _
theorem CF:∀{l},hZ l=_t->l.contains (.type "object")=_t
 |[],e=>by simp[hZ]at e
 |a::r,e=>by
  cases a with
  |ref c=>rw[List.contains_cons,CF (l:=r) e,Bool.or_true]
  |_=>rw[eq_of_beq (e)];decide
variable{G:G'}{R0:Obj}{T8:_o Obj}{U9:ClassData}{y:iv}{ζ:g'}
theorem Hj{m}(X:G.In y.heap)(I:InstAt y.heap i R0 S T8)(n:clsIn G S=J U9)(j:hZ U9.mro=_t)(p:takerIn G S d=J _n)(h:∀b,nc (B' M N) ο.in1 (storeInOwnDict (.ref i) (.ref S) (.str d m) d ζ b) (λl k=>match l with|.done f=>S5 (.ok f) k|.again o=>o.quiet=_t/\Û (B' M N) ο o S5 k) (λe k=>S5 (.error e) k) y):
  Û (B' M N) ο (.call (.builtin "object.__setattr__") ⟨[.ref i,.str d m,ζ],[]⟩) S5 y:=by
 have g:=PySem.F.store_object
 have x:U9.mro.isEmpty=false:=by cases q:U9.mro with
  |nil=>rw[q]at j;simp[hZ]at j
  |cons _ _=>rfl
 refine ab_ g.slot.plain g.entry (@PySem.W.check_slot _ _ _ y _ _ _ _ _ [] _ g.kind g.split (I.type.andThen (adH X (by unfold ŷ;rw[n,Option.bind_some,if_neg (by grind),CF j]))) (g.args _ _ _) ?_)
 refine bN (ř.mp p) λc r s=>?_
 have t:ϳ (B' M N) _ (mroOf (.ref S)) _:=(aby X n).andThen .now
 have u:ϳ (B' M N) y.heap (storeTaker? c) none:=by
  cases c with
  |none=>exact .now
  |some a=>
   obtain⟨b,w,e⟩:=È.mp s;refine(PySem.W.looks_takesIn X w).andThen ?_;cases b with
   |true=>cases e
   |false=>exact .now
 rw[PySem.W.osa_eq,refuse_eq];refine j' (j' (I.type.here (j' (t.here ?_))));rw[ql _ j];refine I' (j' (I.type.here (j' ((ϥ X r).here (j' (u.here (h _)))))))
variable{C6:Array (_o g')}{L4:Unit->iv->Prop}{Q3:Array g'}
theorem Hl{s}(X:G.In s.heap)(k:s.heap.get? i=J ⟨.ref S,_n,.fields Q3,C6⟩)(p:clsIn G S=J U9)(q:hZ U9.mro=_t)(r:U9.hasDict=_t)(t:findIn G (.ref S) "__setattr__"=J (J (.builtin "object.__setattr__")))(u:takerIn G S d=J _n)(h:∀c t',c.get? i=J ⟨.ref S,J s.heap.objs.size,.fields Q3,C6⟩->c.Ns1 s.heap.objs.size (λy=>if y=d then J ζ else _n)->(∀b o,b≠i->s.heap.get? b=J o->c.get? b=J o)->L4 () {s with heap:=c,toks:=t' }):
  nc (B' M N) ο (Ϣ (.ref i) d ζ) L4 ψ s:=by
 have I:InstAt _ i ⟨_,_,_,C6⟩ S none:=⟨k,Y,Y,trivial⟩;refine ac4 X I t (Hj X I p q u λb=>?_)
 have a:(s.heap.push {cls:=.type "dict",data:=.dict #[]}).get? i=J ⟨_,_,_,C6⟩:=Y' _ k;have f:=X' (Q' k);refine j' (I' (j' (j' (abx k (j' (ac5 (aby X p) ?_))))));rw[r];refine j' (wpAny_alloc' (j' (wpAny_update' a (I' ?_))));refine j' (I' (j' (wpAny_nsSet1 (adb ⟨_,_,_,((adJ _ _ _ _ f.symm).trans (adK Y Y)),Y,λe w=>absurd w (by simp),λ_=>Y⟩) λc g j=>?_)))
 refine cD (g.count (ac6 _ ζ Within.nil)) λC x z l m A=>?_
 refine j' (ac7 l (by rw[m];exact ac8 (by grind)) ?_)
 refine I' (h c _ ((j.2 i f).trans (ĝ _ a Y)) g λb o n e=>(j.2 b (X' (Q' e))).trans ((λb o n e=>
  (adJ _ _ _ _ n).trans (Y' _ e)) b o n e))
variable{V6:_o f'}{y2:f'}
theorem pM{h}(F:abZ o5 z7 m9 v8)(T:ſ h v8 V5)(j:h.get? i=J (Ř d C i S A0 V5 E l C9 X2 t8 L5 T5 m8 n8 o8 p8 z7))(e:h.get? P0=J ⟨.ref i,V6,.fields #[.ref y2,.none,.none,.none,.bool _d,.none],C6⟩)(f:D9.length<=U')(k:∀c,c.get? P0=J ⟨.ref i,V6,.fields #[.ref h.objs.size,.none,.none,.none,.bool _d,.none],C6⟩->c.get? h.objs.size=J {cls:=.type "tuple",data:=.seq D9.toArray}->(∀a o,a≠P0->h.get? a=J o->c.get? a=J o)->S5 (.ok (.ret .none)) ⟨c,B6,z6,b,U6⟩):
  Û (B' M N) ο (.call (.builtin m9) ⟨.ref P0::D9,[]⟩) S5 ⟨h,B6,z6,b,U6⟩:=by
 refine ab_ F.init.plain F.initEntry (wpAny_check_init_subT F T j e Y ?_);have g:=Y' (h:=h) {cls:=.type "tuple",data:=.seq D9.toArray} e
 wp_walk
 refine k _ ?_ ?_ λa o m n=>?_
 .exact ĝ _ g Y
 .rw[ď _ _ (Í (Þ (Q' e)))]
  exact adK Y Y
 .rw[ď _ _ (Í m)]
  exact Y' _ n
open PySem.W (clsIn findIn takerIn InstAt Looks mroIn)
structure As(K:G')(C:f'):Prop where
 ga:findIn K (.ref C) "__getattribute__"=J (J (.builtin "BaseException.__getattribute__"))
 gn:findIn K (.ref C) "__getattr__"=J _n
 be:mroIn K C (.type "BaseException")=J _t
theorem CH(X:G.In H)(I:InstAt H i R0 S T8)(a:As G S)(c:L4 () ⟨H,B6,z6,b,U6⟩):nc (B' M N) ο (checkBuiltinCall "BaseException.__getattribute__" ⟨[.ref i,ζ],[]⟩) L4 ψ ⟨H,B6,z6,b,U6⟩:=by
 have L:Looks (B' M N) H (isInstance _ _) _:=(I.type).andThen (adH X a.be);refine j' (L.at ?_)
 repeat (any_goals (first|assumption|wp_step))
variable{T3:g'->iv->Prop}{U3:g'}{m:Nat}
theorem KJ{prog}(X:G.In H)(I:InstAt H i R0 S T8)(a:As G S)(c:∀ο T3 ψ,T3 (.done (.ret U3)) ⟨H,B6,z6,m,U6⟩->nc (B' prog N) ο (ù.«object.__getattribute__» ⟨[.ref i,ζ],[]⟩) T3 ψ ⟨H,B6,z6,b,U6⟩)(d:handedOut U3=pure U3)(e:T3 U3 ⟨H,B6,z6,m,U6⟩):nc (B' prog N) ο (ab0 (.ref i) ζ E X2) T3 ψ ⟨H,B6,z6,b,U6⟩:=by
 have f:=I.type (M:=B' prog N);have L1:=ϥ (M:=B' prog N) X a.ga;have L2:=ϥ (M:=B' prog N) X a.gn;have h:=adL.ga.bind (.ref i);have g:(X2&&onTheHeap (ab1 "BaseException.__getattribute__"))=false:=by cases X2<;>rfl
 refine î (j' (f.at (j' (L1.at ?_))));refine j' (L2.at ?_)
 repeat (any_goals (first|wp_step))
 refine(ab_ adL.ga.plain F.entry_bexc_ga (CH X I a ((c _) _ _ ?_)))
 show nc _ _ (handedOut U3) _ _ _
 rw[d];exact I' e
theorem yf{prog}(X:G.In H)(I:InstAt H i R0 S T8)(a:As G S)(c:adM G S T8 d=J (.value ζ))(e:ac' ζ=_t)(f:T3 ζ ⟨H,B6,z6,b+1,U6⟩):
  nc (B' prog N) ο (Ŵ (.ref i) d E) T3 ψ ⟨H,B6,z6,b,U6⟩:=by
 refine j' (wpAny_mkText (KJ X I a (λh j k q=>?_) (PySem.W.handedOut_of e) f))
 have g:=I.type (M:=B' prog N);have L1:=adN (M:=B' prog N) X I c;refine j' (I' (j' (I' (j' (g.at (j' (L1.at (I' q))))))))
variable{B7:_o g'->iv->Prop}
theorem Au{prog ox od}(X:G.In H)(I:InstAt H i ox S (J od))(a:As G S)(c:Ľ G S=_t)(e:findIn G (.ref S) "__class__"=J (J (.builtin "object.__class__")))(f:ľ G (.builtin "object.__class__") "__get__"=J (J (.builtin "getset_descriptor.__get__")))(d:Ŷ G (.builtin "object.__class__")=J _t)(g:mroIn G S (.type "object")=J _t)(h:B7 (J (.ref S)) ⟨H,B6,z6,b+1,U6⟩):nc (B' prog N) ο (Ś (.ref i) "__class__") B7 ψ ⟨H,B6,z6,b,U6⟩:=by
 have j:adM G S (J od) "__class__"=J (.bind (.builtin "getset_descriptor.__get__") (.builtin "object.__class__")):=PySem.W.findObj_data (by obtain⟨n,k,_⟩:=ϣ c;rw[k];rfl) e f d
 unfold Ś ab2;refine j' (wpAny_mkText (j' (ϴ (KJ (m:=b+1) X I a (λo p r q=>?_) Y (I' h)))))
 have l:=I.type (M:=B' prog N);have L1:=adN (M:=B' prog N) X I j;unfold ù.«object.__getattribute__»;refine j' (I' (j' (I' (j' (l.at (j' (L1.at ?_)))))))
 show nc _ _ (ô [.builtin "object.__class__"] (call (.builtin "getset_descriptor.__get__") [.builtin "object.__class__",.ref i,.ref S]) >>= ret) _ _ _
 exact j' (î (ě (PySem.W.class_get (s:=⟨H,B6,z6,b+1,U6⟩) (ox:=ox) (od:=J od) X I g (I' q))))
variable{W8:Obj}
theorem uo(c:As G S)(b:Ľ G S=_t)(r:findIn G (.ref S) "__class__"=J (J (.builtin "object.__class__")))(u:ľ G (.builtin "object.__class__") "__get__"=J (J (.builtin "getset_descriptor.__get__")))(f:Ŷ G (.builtin "object.__class__")=J _t)(w:mroIn G S (.type "object")=J _t):
  PySem.W.KitX G (.ref i) (.ref S) (λh=>InstAt h i R0 S (J W8)) where
 ty:=λ_ _ _ I=>I.type
 it:=λ_ _ X _=>by
  obtain⟨j,a,_⟩:=ϣ b;unfold ab3 at a;split at a
  .rename_i x y l m o
   intro D E F H k q;unfold isType loadHead;exact j' (abx (k _ _ (X _ _ o)) (I' q))
  .exact bD a
 ne:=λh A K C n M X p=>by
  obtain⟨j,a,_⟩:=ϣ b;refine Bool.eq_false_iff.mpr λq=>?_
  have e:S=A:=afq (beq_iff_eq.mp q);subst e;unfold ab3 at a;split at a
  .rename_i x y l m o
   have z:=(X _ _ o).symm.trans p;cases z
  .exact bD a
 ca:=λ{_ _ _ _ _ s} X I k=>by
  obtain⟨h,g,d,t,N⟩:=s;exact Au X I c b r u f w k
structure iI(K:G')(C N fI:f'):Prop where
 ex:∃(nm q:L) (bs bm:B g') (sn:B L) (sub:B g') (ab:Bool) (col:_o Bool) (dd:_o f') (k0 k1 k2 k3 k5:_o g'),
  K.lookup C=J (Ř nm q C N bs bm _t sn sub ab col dd k0 k1 k2 k3 k5 "ValueError.__new__")/\(∀h:F',K.In h->ſ h rY bm)
 cd:∃cd,clsIn K C=J cd/\hZ cd.mro=_t/\cd.hasDict=_t
 sa:findIn K (.ref C) "__setattr__"=J (J (.builtin "object.__setattr__"))
 xg:As K C
 hd:Ľ K C=_t
 ns:∀h:F',K.In h->∃mN,h.Ns N mN/\mN "__init__"=J (.ref fI)
 kp:Î K (.ref C)=_t
 fn:abA K (.ref fI)=J (.type "function")
noncomputable def cf(C:f')(od:_o f')(t:f'):Obj:=⟨.ref C,od,.fields #[.ref t,.none,.none,.none,.bool _d,.none],#[]⟩
variable{c:Cx}{e:Hp}{ν:St}
theorem Inv.Hm(I:Inv c [] ν e y)(h:y.heap.get? i=J R0)(b:e i=_n)(d:i≠c.env.locals)(f:i∉c.fs)(g:∀v,R0.data≠.cell v):Inv c [(i,R0)] ν e y:=
 ⟨I.ok,I.os,I.bare,I.base,I.loc,I.cell,I.free,I.dE,λp a=>by
  rcases Ñ.mp a with q|q
  .exact I.pin p (by simp[q])
  simp_all,I.hok,I.len⟩
variable{R:B (f'×Obj)}
theorem Inv.yg(I:Inv c R ν e y):Inv c [] ν e y:=
 ⟨I.ok,I.os,I.bare,I.base,I.loc,I.cell,I.free,I.dE,λp a=>I.pin p (by simp_all),I.hok,I.len⟩
variable{A5:B (L×V)}{B4:f'}{O:V}
theorem Hn{s}(I:Inv c R ν e s)(T:iI c.K S P0 y2)(f:cZ c.K S d)(j:s.heap.get? i=some R0)(k:R0.cls=.ref S)(m:R0.dict=some B4)(a:İ R0=_t)(o:e B4=some (.xd A5))(x:A5.lookup d=some O)(h:∀u,RelV O u->Inv c R ν e {s with toks:=s.toks+1}->ψ u {s with toks:=s.toks+1}):nc (B' c.prog c.w) ο (Ŵ (.ref i) d E) ψ T3 s:=by
 obtain⟨p,n,r⟩:=I.hok B4 _ o;obtain⟨u,q,b⟩:=iG.some_of (O:=O) (T5:=p d) (by grind)
 obtain⟨t,g,l⟩:=gv n;have J:InstAt _ i R0 S (some t):=⟨j,k,a,by simp_all⟩
 exact yf I.ej J T.xg (abE T.hd f (by rfl) (by rw[l,q])) (lh b) (h u b (I.tok _))
structure Av(X:Cx)(e:f'):Prop where
 new:e∈X.ex\/X.s₀.heap.objs.size<=e
 cell:∀x c,X.env.cells.lookup x=J c->c≠e
 pn:∀p∈X.pn,p.1≠e
theorem Inv.chE{s}(I:Inv c [(i,R0)] ν e s)(F:Av c i)(n:H.get? i=some W8)(o:∀d j,d≠i->s.heap.get? d=some j->H.get? d=some j)(r:∀v,W8.data≠.cell v):Inv c [(i,W8)] ν e {s with heap:=H,toks:=b}:=by
 refine iA (I.pin (i,R0) (by simp)) λC t k w D=>?_
 have x:=I.yg;have keep:∀d R0,d∉[i]->s.heap.get? d=some R0->H.get? d=some R0:=λd R0 f q=>o d R0 (by simp_all) q
 have J:Inv c [] ν e {s with heap:=H,toks:=b}:=by
  refine x.step (λd f=>?_) (λd R0 _ _ f q _=>keep d R0 f q) (λd R0 _ _ f q _=>⟨_,keep d R0 f q⟩) (λd R0 f q g=>g) (λd R0 f q=>⟨R0,keep d R0 f q⟩) (λd E q=>q) (λd R0 l q=>q) (λd G q=>⟨#[],by simp_all⟩) (λm g=>?_) ?_ I.bare
  .rw[ï.mp f]
   exact⟨F.new,k,F.cell,λp K=>F.pn p (by simp_all)⟩
  .refine ei g λR0 y A M e2=>?_
   exact⟨R0,y,A,by grind,e2⟩
  .intro a u q
   refine(I.hok a u q).stay (λd l f h=>keep d l (λz=>?_) h) (λd h=>h) (by simp)
   simp_all
 exact J.Hm n t k w r
structure XBase(K:G')(mg:L->_o g')(bn:L)(B0:f'):Prop where
 mg:mg bn=J (.ref B0)
 ga:ľ K (.ref B0) "__getattribute__"=J (J (.builtin "type.__getattribute__"))
 rd:adO K B0 (.type "type")=_t
 ini:adP K (.ref B0) (.type "type") "__init__"=J (.val (.builtin "ValueError.__init__"))
noncomputable def Cx.mk1(X:Cx)(e):={X with ex:=[e]}
theorem Inv.mk1{X pins}{d:St}{H s e}(I:Inv X pins d H s)(j:X.ex=[])(f:e≠X.env.locals)(g:∀x c,X.env.cells.lookup x=J c->c≠e)(i:∀o,X.base.get? e≠J o)(k:e∉X.fs):Inv (X.mk1 e) pins d H s:=
 ⟨⟨I.ok.mod,I.ok.kind,I.ok.glob,I.ok.blt,I.ok.above,I.ok.inj,I.ok.has,I.ok.cab,I.ok.hd,I.ok.frames,I.ok.Kv,λb a=>by rw[ï.mp a];exact⟨f,g⟩,I.ok.bs,I.ok.xZ,λb o q a=>by rw[ï.mp a]at q;exact i o q,λb a=>by rwa[ï.mp a],I.ok.iH,I.ok.BN⟩,
  I.os,I.bare,I.base.mono (λ_ h=>h) (by simp_all),I.loc,I.cell,I.free,I.dE,I.pin,I.hok,I.len⟩
structure yh(l:B Ã)(e:f')(oe:Obj)(T:f')(h h':F'):Prop where
 keep:∀b o,b≠e->b∉frs l->h.get? b=J o->h'.get? b=J o
 slot:∀b o,b≠e->h.get? b=J o->∃sl,h'.get? b=J {o with slots:=sl}
 at_:h'.get? e=J (oe.mapFields (·.setIfInBounds 1 (.ref T)))
 tb:∃oT ts,h'.get? T=J oT/\oT.data=.fields ts/\ts[3]?=J .none
 new:h.objs.size<=T
def rZ(h:F')(c:Array g'):=c[1]?=J .none\/∃d a b,c[1]?=J (.ref d)/\h.get? d=J a/\a.data=.fields b/\b[3]?=J .none
variable{D5:Ã}{X5:B Ã}{x6:Model}
theorem yi{s head e}(w:ο.frames=J (D5::X5))(C:s.heap.FunFrames H (D5::X5))(F:D5.frame=J i)(G:s.heap.get? S=J R0)(D:R0.data=.fields Q3)(hsz:1<Q3.size)(h:∀E T,yh (D5::X5) S R0 T s.heap E->L4 () {s with heap:=E}):
  nc x6 ο (do let a ←frameOf D5;let u ←entryPlaceOf i e;let b ←afr head a .none (ć i) .none u;ϵ (.ref S) 1 b) (λ_ I=>nc x6 ο (ś (.ref S) _n) L4 ψ I) ψ s:=by
 refine j' (wpAny_frameOf_fun w C F λc d=>?_)
 refine j' (wpAny_entryPlaceOf λu y=>?_)
 refine j' (Ϸ ?_ (y.sizeOk5 _ _ _ _ _))
 have g:=(d.2.1 S (λK=>by
  obtain⟨_,o,O,M⟩:=C.mem K
  simp_all)).trans G
 generalize z:({cls:=.type _,dict:=_n,data:=.fields _}:Obj)=p at *;have j:p.data=.fields ([head,.ref i,.none,ć i,.none]++(if u.isEmpty then ź 6 Ą else u)).toArray:=by grind
 have k:=Y' p g;have r:=Þ (Q' g);refine Ŝ k D hsz ?_;have l:=ń D (·.setIfInBounds 1 (Ë c.objs.size));have n:=ĝ _ k (ab4 l);have m:((c.push p).update S (ϊ (·.setIfInBounds 1 (Ë c.objs.size)))).get? _=J p:=(ď _ _ (Í r)).trans (Ò _ (by rw[←z];rfl))
 refine j' (Ċ n l (x:=.ref c.objs.size) (by simp[hsz]) ?_)
 refine Ŝ m j (by simp) (h _ c.objs.size ?_)
 have keep:∀b o,b≠S->c.get? b=J o->(((c.push p).update S (ϊ (·.setIfInBounds 1 (Ë c.objs.size)))).update _ (ϊ (·.setIfInBounds 3 ((_n).elim Ą λf=>ć f)))).get? b=J o:=λb o A t=>by
  rw[ď _ _ (Þ (Q' t)),ď _ _ (Í A)];exact Y' _ t
 refine⟨λb o t N q=>keep b o t ((d.2.1 b N).trans q),λb o t q=>?_,?_,?_,by rw[d.1];exact R' _⟩
 .obtain⟨P,Q⟩:=d.2.2 b o q
  simp_all
 .rwa[ď _ _ r]
 .exact⟨_,_,ĝ _ m (ab4 (ń j _)),ń j _,by simp⟩
theorem CI{s}(a:ο.frames=J (D5::X5))(j:s.heap.FunFrames H (D5::X5))(e:D5.frame=J i)(c:s.heap.get? S=J R0)(d:R0.data=.fields Q3)(b:rZ s.heap Q3)(h:∀k T,yh (D5::X5) S R0 T s.heap k->L4 () {s with heap:=k}):
  nc x6 ο (ϸ (.ref S) D5) (λ_ m=>nc x6 ο (ś (.ref S) _n) L4 ψ m) ψ s:=by
 unfold ϸ;simp only[e];rcases b with b|⟨n,o,p,b,f,g,l⟩
 .refine j' (Ċ c d b (yi a j e c d (by grind) h))
 .refine j' (Ċ c d b ?_)
  refine j' (Ċ f g l ?_);refine j' (Ŝ f g (by grind) ?_)
  rw[adQ _ n _ _ 3 _ f g l];exact yi a j e c d (by grind) h
theorem qm{s}(a:ο.frames=J (D5::X5))(c:s.heap.FunFrames H (D5::X5))(d:D5.frame=J i)(e:s.heap.get? S=J R0)(f:R0.data=.fields Q3)(g:rZ s.heap Q3)(h:∀b T,yh (D5::X5) S R0 T s.heap b->L4 () {s with heap:=b}):nc x6 ο (Ϫ D5 (.ref S)) L4 ψ s:=j' (CI a c d e f g h)
variable{g9:Ŏ->iv->Prop}{n:p'}{o:K'}
theorem Aw(c:V5.contains (.type "BaseException")=_t)(p:ο.handled=_n)(h:nc x6 ο (eval n D5) (λv a=>∃e od t,v=.ref e/\a.heap.get? i=J (Ř d C i S A0 V5 E l v8 X2 t8 L5 T5 m8 n8 o8 p8 o5)/\a.heap.get? e=J (cf i od t)/\ψ (.ref e) a) ψ y):
  nc x6 ο (exec (.Raise (J n) _n o) D5) g9 ψ y:=by
 first
  |exact j' (Ϲ (by
    have f:(Ë i::V5).contains (.type "BaseException")=true:=by simp_all
    unfold raiseStmt;refine j' (Ý (j' (Ý h (λv a b=>j' (Ϲ (I' b))) λ_ _ n=>n)) (λv a b=>?_) λ_ _ n=>n)
    refine bG b λe od t j q m r=>?_;subst j
    obtain⟨s,g,k,u,w⟩:=a;have m:s.get? e=J ⟨.ref i,od,_,#[]⟩:=m
    repeat (first | (with_reducible refine adG q ?_;rw[f])|wp_step)
    exact wpAny_raiseNew_none p r))
structure nY(P:W')(w:T')(outer:B Ã)(H:Hp)(s:iv)(e C d:f')(H':Hp)(s':iv):Prop where
 os:s'.os=s.os
 bare:Č s'.gens
 un:Un (frs outer) [] H H' s.heap s'.heap
 hok:iK P w H' s'.heap
 new:s.heap.objs.size<=e
 free:H' e=_n
 obj:∃oe vs,s'.heap.get? e=J oe/\oe.cls=.ref C/\oe.dict=J d/\oe.data=.fields vs/\rZ s'.heap vs
def jK(P:W')(w:T'):BO:=λouter H s E x b=>∃e C d a,x=.ref e/\nY P w outer H s e C d a b/\E (.ref C) (J d) a
theorem CJ(I:Inv c R ν e y)(s:c.ex=[])(g:c.stack=c.env::c.outer)(j:c.env.frame=J c.env.locals)(E:y.heap.get? i=J (cf S (J P0) y2))(t:c.s₀.heap.objs.size<=i)(G:e i=_n)(h:∀x,nY c.prog c.w c.outer c.H₀ c.s₀ i S P0 e x->L4 () x):nc (B' c.prog c.w) c.A (Ϫ c.env (.ref i)) L4 ψ y:=by
 have k:=I.ok.frames;rw[g]at k;have C:=I.stack;rw[g]at C;refine qm k C j E Y (.inl Y) λP T F=>h _ ?_
 have m:∀b u,e b=J u->b∉frs _:=λb u q z=>by
  have:=I.ka b (by omega)
  grind
 have d:∀b o,c.s₀.heap.get? b=J o->b≠i/\b≠c.env.locals:=λb o q=>⟨λz=>by rw[z]at q;exact absurd (P' (Q' q) t) (by simp),λz=>by rw[z]at q;exact absurd (P' (Q' q) I.ok.above) (by simp)⟩
 refine⟨I.os,I.bare,⟨λb o q n f _=>?_,λb o q n f _=>?_,λb o q n _=>I.base.free b o q n (by simp_all),λb o q _=>?_,I.base.tups,I.base.fh,I.base.gu⟩,λa u q=>?_,t,G,?_⟩
 .exact F.keep b o (d b o q).1 ((λb o q f z=>by
  unfold frs at z;rw[ϝ,j]at z;rcases Ì.mp z with z|z
  .grind
  .exact f z) b o q f) (I.base.keep b o q n f (by rw[s];simp))
 .obtain⟨Q,p⟩:=I.base.slot b o q n f (by rw[s];simp)
  obtain⟨r,D⟩:=F.slot b _ (d b o q).1 p
  simp_all
 .obtain⟨U,p⟩:=I.base.there b o q (by simp_all)
  obtain⟨r,D⟩:=F.slot b _ (d b o q).1 p;exact⟨_,D⟩
 .refine(I.hok a u q).stay (λb H f l=>F.keep b H (λz=>?_) ?_ l) (λb l=>l) λb V l=>l
  .simp_all
  grind
 .refine aP F.tb λoT K M N O=>?_
  exact⟨_,_,F.at_,Y,Y,Y,.inr ⟨T,oT,K,by simp,M,N,O⟩⟩
noncomputable def Cx.jL(X:Cx)(e):={X with A:=X.A.mark (J (.ref e)),calm:=_d,xe:=λ_ _=>False}
theorem Inv.jL{X pins}{a:St}{H s e}(I:Inv X pins a H s):Inv (X.jL e) pins a H s:=
 ⟨⟨I.ok.mod,I.ok.kind,I.ok.glob,I.ok.blt,I.ok.above,I.ok.inj,I.ok.has,I.ok.cab,(λz=>nomatch (z)),I.ok.frames,I.ok.Kv,I.ok.L_,I.ok.bs,I.ok.xZ,I.ok.t6,I.ok.t7,I.ok.iH,I.ok.BN⟩,
  I.os,I.bare,I.base,I.loc,I.cell,I.free,I.dE,I.pin,I.hok,I.len⟩
theorem Inv.flown{s}(I:Inv c [] ν e s)(F:yh c.stack i R0 S s.heap H)(f:Av c i)(h:i≠c.env.locals)(D:e i=_n):Inv c [] ν e {s with heap:=H}:=by
 refine I.step (ch:=[i]) (λb d=>?_) (λb o l d j q n=>F.keep b o (by grind) (λz=>((λb z=>Ì.mp (I.rj b z)) b z).elim l d) q) (λb o _ _ j q _=>F.slot b o (by grind) q) (λ_ _ _ _ n=>n) (λb o j q=>?_) (λ_ _ q=>q) (λ_ _ _ q=>q) (λb E q=>⟨#[],by simp_all⟩) (λm r=>?_) (λa u q=>?_) I.bare
 .rw[ï.mp d]
  exact⟨f.new,h,f.cell,λp G=>f.pn p (by simp_all)⟩
 .obtain⟨t,k⟩:=F.slot b o (by grind) q
  simp_all
 .refine cD r λo w x y e2 A=>?_
  obtain⟨t,k⟩:=F.slot _ o (Í h) y;exact⟨_,w,x,k,e2,A⟩
 .refine(I.hok a u q).stay (λb C d g=>F.keep b C (λz=>?_) (λz=>?_) g) (λ_ g=>g) (by simp)
  .simp_all
  .have K:=I.ka b z
   simp_all
variable{Q6:Array g'}
theorem n4(c:y.heap.get? i=J R0)(d:R0.data=.fields Q3)(e:Q3[1]?=J (.ref S))(b:y.heap.get? S=J W8)(a:W8.data=.fields Q6)(f:Q6[3]?=J .none)(h:L4 () y):
  nc x6 ο (ś (.ref i) _n) L4 ψ y:=by
 refine j' (Ċ c d e ?_);refine Ŝ b a (by grind) ?_
 have:=adQ _ S W8 Q6 3 _ b a f
 simp_all
structure Hq(K:G')(C:f'):Prop where
 ha:ç K (.ref C) "__class__"=J (J (.builtin "object.__class__"))
 hn:ľ K (.builtin "object.__class__") "__get__"=J (J (.builtin "getset_descriptor.__get__"))
 ht:Ŷ K (.builtin "object.__class__")=J _t
 hm:ŷ K C (.type "object")=J _t
def iO(X)(z:L×K')(a):=∀E pins s (b:St) H Q,Inv X pins b H s->Q a s->nc (B' X.prog X.w) X.A (eval (.Name z.1 z.2) X.env) Q E s
inductive Names (X:Cx):List (L×K')->List g'->Prop
 |nil:Names X [] []
 |cons {z:L×K'}{cv:g'}{ns:List (L×K')}{cs:List g'} (h:iO X z cv) (t:Names X ns cs):Names X (z::ns) (cv::cs)
theorem jC{X pos E}:∀{a}{cs},Names X a cs ->
  ∀{pins}{s}{b:St}{H}{Q},Inv X pins b H s->Q cs s->nc (B' X.prog X.w) X.A (Ů (À pos (D' (a.map λz=>.Name z.1 z.2) X.env))) Q E s
 |[],_,.nil,_,_,_,_,_,_,h=>Ĩ h
 |z::a,e::cs,.cons c d,pins,s,b,H,Q,I,h=>ē (c E pins s b H _ I (jC d I h))
theorem n5(a:Gl c d)(b:c.mg d=J ζ)(e:(d==("__debug__"))=_d):iO c (d,o) ζ:=λE pins s f H Q I q=>dM I a b q e
theorem we(a:Gl c d)(b:c.mg d=_n)(e:Ĉ d=J ζ)(f:d≠"__name__")(g:(d==("__debug__"))=_d):iO c (d,o) ζ:=λE pins s h H Q I q=>fj I a b e q f g
theorem Inv.gone{s}(ok:c.Ok)(I:Inv (c.jL i) R ν e s)(F:c.N.Nodup)(G:c.N[m]?=J d)(K:∀(j:Nat) x v,c.N[j]?=J x->ν[j]?=J (J v)->BL c.env.scope x->∃u,RelV v u/\Look c.env s.heap θ x u)(M:H.Ns c.env.locals (λx=>if x=d then T5 else θ x))(O:Ĺ c.env.locals s.heap H):Inv c [] (ν.set m _n) e {s with heap:=H,toks:=b}:=by
 have k:∀f o,f≠c.env.locals->s.heap.get? f=J o->H.get? f=J o:=λf o h q=>(O.2 f h).trans q
 have t:∀f o,c.s₀.heap.get? f=J o->f≠c.env.locals:=λf o q=>X' (P' (Q' q) I.ok.above)
 refine⟨ok,I.os,I.bare,⟨λf o q d h l=>k f o (t f o q) (I.base.keep f o q d h l),λf o q d h l=>?_,I.base.free,λf o q l=>?_,I.base.tups,I.base.fh,I.base.gu⟩,⟨_,M,λj x v w z P=>?_⟩,λx g q=>?_,I.free,I.dE,λp D=>?_,λa u q=>?_,by rw[Ϻ];exact I.len⟩
 .obtain⟨sl,y⟩:=I.base.slot f o q d h l
  simp_all
 .obtain⟨o',y⟩:=I.base.there f o q l
  simp_all
 .by_cases n:j=m
  .rw[ab5]at z
   simp_all
  .rw[ō (Í n)]at z
   obtain⟨u,Q,S⟩:=K j x v w z P;refine⟨u,Q,?_⟩;rcases S with ⟨A,C⟩|⟨A,g,C,o,T,U⟩
   .exact .inl ⟨A,by dsimp only;rwa[if_neg (λX=>by
    subst X;exact n ((ϋ (Ê.mp w).1 F).mp (w.trans G.symm)))]⟩
   .exact .inr ⟨A,g,C,o,k g o (I.Qj x g C) T,U⟩
 .obtain⟨v,o,y,Z⟩:=I.cell x g q
  exact⟨v,o,k g o (I.Qj x g q) y,Z⟩
 .rw[Ć]at D
  refine iA (I.pin p (by simp[show p∈(c.jL i).pn from D])) λa1 a2 E a4 a5=>?_
  exact⟨k _ _ E a1,a2,E,a4,a5⟩
 .refine(I.hok a u q).stay (λf u' h r=>k f u' (λz=>?_) r) (λ_ r=>r) λ_ _ r=>r
  have hf:e c.env.locals=none:=I.free
  simp_all
variable{r0:Hp}
theorem Hr{s' V}(I:Inv c [] ν e y)(d:nY c.prog c.w c.stack e y i S P0 r0 s')(j:c.stack=c.env::c.outer)(G:c.env.frame=some c.env.locals)(H:r0 P0=some (.xd A5))(K:∀f g od,Inv c [] ν r0 {s' with heap:=f}->abu f i g S od->(∀{M A ψ g9},g9 () {s' with heap:=f}->nc M A (ś (.ref i) _n) g9 ψ {s' with heap:=f}) ->
   g.cls=.ref S->g.dict=some P0->İ g=_t->Inv (c.jL i) [(i,g)] ν r0 {s' with heap:=f}->nc (B' c.prog c.w) c.A (ab7 (.ref i) c.env V) g9 ψ {s' with heap:=f}):
  nc (B' c.prog c.w) c.A (ϸ (.ref i) c.env) (λ_ s=>nc (B' c.prog c.w) c.A (ś (.ref i) _n) (λ_ t=>nc (B' c.prog c.w) c.A (ab7 (.ref i) c.env V) g9 ψ t) ψ s) ψ s':=by
 have N:Inv c [] ν r0 s':=I.call' (z:=[]) d.os d.un d.hok d.bare (by simp)
 obtain⟨g,vs,g1,g2,g3,X,Z⟩:=d.obj;have u:=N.ok.frames;rw[j]at u;have hl:=N.stack;rw[j]at hl;have k:∀b o,y.heap.get? b=some o->b≠i:=λb o q z=>by rw[z]at q;exact absurd (P' (Q' q) d.new) (ä _)
 have h:i≠c.env.locals:=λz=>by
  obtain⟨m,⟨o,_,_,O,_⟩,_⟩:=I.loc;exact k _ _ O z.symm
 have fr:Av c i:=⟨.inr (N' I.sz d.new),λx l q=>by
  obtain⟨v,o,P,_⟩:=I.cell x l q;exact k _ _ P,λp hp=>by
  obtain⟨P,_⟩:=I.pin p (by simp[hp])
  exact k _ _ P⟩
 have Q:i∉c.fs:=λz=>by
  obtain⟨_,o,O,_⟩:=I.ok.iH.mem z;exact absurd (P' (Q' O) (N' I.sz d.new)) (ä _)
 refine CI u hl G g1 X Z λf T F=>?_
 have J:Inv c [] ν r0 {s' with heap:=f}:=N.flown (by rw[j];exact F) fr h d.free
 have n:=F.at_;obtain⟨oT,ts,t1,t2,t3⟩:=F.tb;have C:(g.mapFields (·.setIfInBounds 1 (.ref T))).cls=.ref S:=by rw[ab8];exact g2
 have a:=ń X (·.setIfInBounds 1 (Ë T))
 have D:(g.mapFields (·.setIfInBounds 1 (.ref T))).dict=some P0:=by
  obtain⟨oc,od,dt,sl⟩:=g;cases dt<;>exact g3
 have R:1<vs.size:=by
  rcases Z with z|⟨_,_,_,z,_⟩<;>exact(adR.mp z).1
 generalize (g.mapFields (·.setIfInBounds 1 (.ref T)))=r at *;have E:İ r=true:=by unfold İ;rw[a]
 obtain⟨mA,nA,_⟩:=J.hok P0 _ H;obtain⟨od,gd,_⟩:=gv nA;have U:abu f i r S (some od):=⟨n,C,E,by rw[D];exact gd⟩
 exact K f r _ J U (λz=>n4 n a (by simp[R]) t1 t2 t3 z) C D E (J.jL.Hm n d.free h Q (λv=>by rw[a];simp))
noncomputable def Cx.tV(X:Cx)(a:B (f'×Obj)):={X with pn:=X.pn++a}
theorem Inv.tV{X pins}{a:St}{H s}(I:Inv X pins a H s):Inv (X.tV pins) [] a H s:=
 ⟨⟨I.ok.mod,I.ok.kind,I.ok.glob,I.ok.blt,I.ok.above,I.ok.inj,I.ok.has,I.ok.cab,I.ok.hd,I.ok.frames,I.ok.Kv,I.ok.L_,I.ok.bs,I.ok.xZ,I.ok.t6,I.ok.t7,I.ok.iH,I.ok.BN⟩,
  I.os,I.bare,I.base,I.loc,I.cell,I.free,I.dE,λp b=>I.pin p (by simpa[Cx.tV]using b),I.hok,I.len⟩
theorem Inv.yj(I:Inv (c.tV R) [] ν e y):Inv c R ν e y:=
 ⟨⟨I.ok.mod,I.ok.kind,I.ok.glob,I.ok.blt,I.ok.above,I.ok.inj,I.ok.has,I.ok.cab,I.ok.hd,I.ok.frames,I.ok.Kv,I.ok.L_,I.ok.bs,I.ok.xZ,I.ok.t6,I.ok.t7,I.ok.iH,I.ok.BN⟩,
  I.os,I.bare,I.base,I.loc,I.cell,I.free,I.dE,λp a=>I.pin p (by simpa[Cx.tV]using a),I.hok,I.len⟩
def h8(X)(b:St)(E):=∀pins H s e a,Inv X pins b H s->jK X.prog X.w X.stack H s E e a->X.xe e a
variable{N7:Ends}
theorem KL{f}(z:SP ((c.tV R).wish ψ) [] N7 f y):SP c R N7 f y:=by
 cases f with
 |ret u=>
  refine cD z λv a b J r q=>?_
  exact⟨v,_,b,J.fk.yj,r,q⟩
 |_=>refine cy z λa b J q=>?_;exact⟨_,b,J.fk.yj,q⟩
variable{E4:Sp}{T:K'}{V3:TA}{Z:B p'}{j0:Â}{o3:XK}
theorem CL(F:bt c.prog c.w c.K c.mg c.base (jK c.prog c.w) b i j0 l E4)(y:bF b c.A)(z:Gl c d)(C:c.mg d=J (.ref i))(D:Î c.K (.ref i)=_t)(E:Binds c.K j0 l [])(G:h8 c ν o3)(M:PA c (n::Z) V3)(k:(d==("__debug__"))=_d)(N:D' (n::Z) c.env=(_d,eval n c.env)::D' Z c.env)(m:(À T (D' Z c.env)).any (·.1)=_d):
  PE c (.Call (.Name d o) (n::Z) [] T) (λg H Q=>g=ν/\V3 g H λp j=>E4 p j Q o3):=by
 intro pins s g H Q I h;obtain⟨rfl,h⟩:=h;refine ÿ (dM I z C ?_ k);refine Ŀ I.ok.mod.BW D (bO (M _ _ s g H _ I h) λt x  O =>aP O λp j a r q=>⟨a.ej,?_⟩) N m
 have e:=E x t a.ej (by rw[Ć];exact(by rw[←r.length];exact F.len _ _ _ _ q))
 rw[Ć]at e;refine ě (Ĕ (F.run _ _ x j ⟨t,[]⟩ t p Q o3 y a.env0 e r q) λr P f=>?_)
 cases r with
 |error n=>exact G _ j x n P a f
 |ok fl=>
  cases fl with
  |ret u=>exact a.after f
  |next=>exact è f
  |brk=>exact è f
  |cont=>exact è f
variable{T2:HO}
theorem Inv.fix(I:Inv c R ν e y)(r:y.heap.get? i=J R0)(s:cu c.prog c.w (upd e i (.cX R0 T2)) y.heap i T2)(E:e i=_n\/∃t,e i=J (.xd t))(d:c.s₀.heap.objs.size<=i)(u:i≠c.env.locals)(l:∀x a,c.env.cells.lookup x=J a->a≠i)(g:∀p∈c.pn++R,p.1≠i):
  Inv c R ν (upd e i (.cX R0 T2)) y:=by
 have j:∀{b:f'}{n:HO},e b=J n->(∀f,n≠.xd f)->b≠i:=λ{b n} q F z=>by
  simp_all
 refine I.step (ch:=[i]) (λb h=>?_) (λb R0 _ _ _ q _=>q) (λb R0 _ _ _ q _=>⟨_,q⟩) (λb R0 h q o=>?_) (λb R0 _ q=>⟨R0,q⟩) (λb A q=>?_) (λb R0 C q=>?_) (λb G q=>?_) (λm o=>o) ?_ I.bare
 .rw[ï.mp h]
  exact⟨.inr d,u,l,g⟩
 .rwa[av (by simp_all)]
 .rwa[av (j q (by simp))]
 .rwa[av (j q (by simp))]
 .exact⟨#[],by rw[av (j q (by simp)),q];simp⟩
 .intro b D q
  by_cases h:b=i
  .subst h
   rw[aD]at q;cases q;exact⟨r,s⟩
  .rw[av h]at q
   refine(I.hok b D q).stay (λa C _ k=>k) (λa k=>?_) λa A k=>?_
   .rwa[av (by simp_all)]
   .rwa[av (j k (by simp))]
theorem Inv.XP(J:Inv c [(i,R0)] ν e y)(d:c.s₀.heap.objs.size<=i)(h:∀p∈c.pn,p.1≠i):Inv c [] ν (upd e i (qk i R0)) y:=by
 obtain⟨b,f,g,j,k⟩:=J.pin (i,R0) (by simp)
 refine J.yg.fix b (Hi b).2 (.inl f) d g (λx a q z=>?_) (by grind)
 obtain⟨v,o,l,m⟩:=J.cell x a q
 simp_all
def Hs(H e)(a:Obj):=upd H e (qk e a)
variable{U7:iv}{X3:B O'}{ω:O'}
theorem CN(I:Inv c [] ν e y)(l:nY c.prog c.w c.stack e y i S P0 r0 U7)(s:c.stack=c.env::c.outer)(t:c.env.frame=some c.env.locals)(u:r0 P0=some (.xd A5))(hg:Gl c d)(hm:c.mg d=some (.ref y2))(x:ŝ c.K (.ref S) (.ref y2)=some _t)(hN:c.N.Nodup)(hi:c.N[b]?=some C)(D:c.env.scope.names.lookup C=some .local)(a:∀n r,n.cls=.ref S->n.dict=some P0->İ n=_t->P0≠i->Inv (c.jL i) [] (ν.set b (some (.ref i))) (Hs r0 i n) r ->
   nc (B' c.prog c.w) (c.A.mark (some (.ref i))) (ĺ (ω::X3) c.env) (λf s5=>∃g E,Inv (c.jL i) [] g E s5/\∀s6,Inv c [] (g.set b _n) E s6->g9 f s6) (λ_ _=>False) r)(G:(d==("__debug__"))=false:=by decide):
  nc (B' c.prog c.w) c.A (ϸ (.ref i) c.env) (λ_ j=>nc (B' c.prog c.w) c.A (ś (.ref i) _n) (λ_ k=>nc (B' c.prog c.w) c.A (ab7 (.ref i) c.env [.ExceptHandler (some (.Name d o)) (some C) (ω::X3) T]) g9 ψ k) ψ j) ψ U7:=by
 have H:∀p∈c.pn,p.1≠i:=λp h=>(λh q z=>by
  rw[z]at q;exact absurd (P' (Q' q) h) (ä _)) l.new (I.pin p (by simp_all)).1
 have M:P0≠i:=λz=>by
  have:=l.free
  simp_all
 refine Hr I l s t u λh' a0 od J P F Q R U J'=>?_
 refine wpAny_handleBy_cons (codeAny_handlers_test ?_) (by intro q;cases q)
 refine dM J.jL hg hm ?_ G;refine(PySem.W.exm_one J.ej P.type x).here ?_;refine codeAny_handlers_suite_as (F ?_);refine nN (c:=c.jL i) J' hN hi (.inl D) (O:=.ref i) Y (λr J4=>?_) (.inr D)
 refine Ý (a _ r Q R U M (J4.XP (N' I.sz l.new) H)) (λf s5 zq=>?_) (λ_ _ z=>z.elim);refine cy zq λg E J5 q5=>?_
 obtain⟨m,V,X⟩:=J5.loc;exact wpAny_nameGoes_keeps D V (by rw[I.ok.kind];rfl) λh6 v6 n6 Z=>q5 _ (J5.gone I.ok hN hi X n6 Z)
theorem CP{g:St->St}{f}(z:SP ((c.tV R).jL i) [] {nx:=λe l=>N7.nx (g e) l,rt:=N7.rt} f y):∃a b,Inv ((c.tV R).jL i) [] a b y/\∀d,Inv (c.tV R) [] (g a) b d->SP c R N7 f d:=by
 cases f with
 |next=>
  refine cy z λa b h j=>⟨_,b,h,λd k=>⟨_,_,k.yj,j⟩⟩
 |ret u=>
  refine cD z λv a b h m j=>⟨_,b,h,λd k=>⟨v,_,_,k.yj,m,j⟩⟩
 |brk=>refine cy z λ_ _ _ z=>z.elim
 |cont=>refine cy z λ_ _ _ z=>z.elim
variable{P1:K'}{Z8:B O'}{v:f'->Prop}
theorem QL{W:f'->f'->B (L×V)->Hp->Prop}(I:Inv c R ν e y)(r:c.stack=c.env::c.outer)(s:c.env.frame=some c.env.locals)(Q:Gl c d)(t:c.mg d=some (.ref i))(u:∀a,v a->ŝ c.K (.ref a) (.ref i)=some _t)(S:c.N.Nodup)(U:c.N[b]?=some C)(X:c.env.scope.names.lookup C=some .local)(l:∀xe,h8 ((c.tV R).wish xe) ν (λD Z j=>∃a g m,D=.ref a/\v a/\Z=some g/\j g=some (.xd m)/\W a g m j)->nc (B' c.prog c.w) c.A (ĺ X3 c.env) (SP ((c.tV R).wish xe) [] N7) xe y)(k:∀a h g m n j q,v a->j g=some (.xd m)->W a g m j->j h=_n->n.cls=.ref a->n.dict=some g->İ n=_t->g≠h->Inv ((c.tV R).jL h) [] (ν.set b (some (.ref h))) (Hs j h n) q ->
   nc (B' c.prog c.w) (c.A.mark (some (.ref h))) (ĺ (ω::Z8) c.env) (SP ((c.tV R).jL h) [] {nx:=λE j=>N7.nx (E.set b _n) j,rt:=N7.rt}) (λ_ _=>False) q)(F:(d==("__debug__"))=_d):
  nc (B' c.prog c.w) c.A (exec (.Try X3 [.ExceptHandler (some (.Name d o)) (some C) (ω::Z8) T] [] [] P1) c.env) (SP c R N7) c.xe y:=by
 refine adS (Ý (l _ ?_) (λf M z=>?_) (λh M z=>z))
 .intro G H1 M x s2 J hT
  refine bj hT λh C' g H2 H O hE=>?_;subst H
  obtain⟨a,d',m,e1,P,e2,p,hW⟩:=hE;cases e1;cases e2;refine CN (c:=c.tV _) J.fk.yg O r s p Q t (u _ P) S U X (λn q c1 c2 c3 c4 J4=>?_) F
  refine Ý (k _ h g m n H2 q P p hW O.free c1 c2 c3 c4 J4) (λf s5 z=>CP z) (λ_ _ z=>z.elim)
 .cases f<;>first|exact Ļ (KL z)|exact KL z
open PySem.W (InstAt)
def CQ(H:Hp)(e C)(b:B (L×V)):=∃o a,H e=J (qk e o)/\o.cls=.ref C/\İ o=_t/\o.dict=J a/\H a=J (.xd b)
theorem Ht(b:R0.cls=.ref P0)(c:İ R0=_t)(d:R0.dict=J S)(a:S≠i)(f:e S=J (.xd A5)):CQ (Hs e i R0) i P0 A5:=
 ⟨R0,S,aD,b,c,d,by unfold Hs;rwa[av a]⟩
theorem CQ.grow(a:CQ e i S A5)(h:∀b o u,e b=J (.cX o u)->r0 b=J (.cX o u))(c:∀b A5,e b=J (.xd A5)->r0 b=J (.xd A5)):CQ r0 i S A5:=by
 obtain⟨o,d,f,g,j,k,l⟩:=a;exact⟨o,d,h _ _ _ f,g,j,k,c _ _ l⟩
theorem CQ.inst(a:CQ e i S A5)(I:Inv c R ν e y):∃ox od,InstAt y.heap i ox S (J od):=by
 obtain⟨o,b,d,f,g,h,j⟩:=a;obtain⟨l,k,_⟩:=I.hok b _ j;obtain⟨od,m,_⟩:=gv k;exact⟨_,od,(I.hok i _ d).1,f,g,by rwa[h]⟩
theorem Hu{s}(I:Inv c R ν e s)(a:CQ e i S A5)(T:iI c.K S P0 y2)(f:cZ c.K S d)(y:A5.lookup d=J O)(h:∀u,RelV O u->Inv c R ν e {s with toks:=s.toks+1}->ψ u {s with toks:=s.toks+1}):nc (B' c.prog c.w) ο (Ŵ (.ref i) d E) ψ T3 s:=by
 obtain⟨o,g,j,k,m,p,q⟩:=a;obtain⟨t,n,r⟩:=I.hok g _ q;obtain⟨u,x,b⟩:=iG.some_of (O:=O) (T5:=t d) (by grind)
 obtain⟨z,A,l⟩:=gv n;exact yf I.ej ⟨(I.hok i _ j).1,k,m,by rwa[p]⟩ T.xg (abE T.hd f (by rfl) (by rw[l,x])) (lh b) (h u b (I.tok _))
def QP(c:TE)(d:f'->Bool->Prop):TE:=λf H Q=>c f H λv a=>∃e C g b,v=.ref e/\CQ a e C g/\d C b/\Q (.bl b) a
variable{u0:TE}
theorem MA{m}(x:PE c n u0)(y:Gl c "isinstance")(A:c.mg "isinstance"=_n)(i:iO c (d,T) ζ)(j:∀C b,m C b->(∃N p,iI c.K C N p)/\Hq c.K C/\õ c.K (.ref C) ζ=J b)(q:D' [n,.Name d T] c.env=(_d,eval n c.env)::D' [.Name d T] c.env):
  PE c (.Call (.Name "isinstance" o) [n,.Name d T] [] P1) (QP u0 m):=by
 intro pins s r H Q I h;refine ÿ (fj I y A ϻ ?_ (by decide) (by decide))
 refine ϭ ?_ q Y;rw[q];refine ē (bO (x _ s r H _ I h) λu D E=>?_);obtain⟨w,t,f,F,e,C,S,b,G,M,O,P⟩:=E
 subst G;cases (F);obtain⟨⟨N,p,a⟩,g,k⟩:=j C b O;refine ē (i _ _ D r t _ f (Ĩ ?_));obtain⟨U,V,l⟩:=M.inst f;exact þ (uo a.xg a.hd g.ha g.hn g.ht g.hm) f.ej l k (λz=>nomatch z) λR=>⟨.bl b,t,f.tok R,Y,P⟩
variable{J9:B (L×K')}
theorem Hv{x1 m}(y:PE c n u0)(A:Gl c "isinstance")(D:c.mg "isinstance"=_n)(f:Names c J9 A0)(hz:A0.length<=100)(g:∀C b,m C b->(∃N p,iI c.K C N p)/\Hq c.K C/\Ş c.K (.ref C) A0=J b)(q:D' [n,.Tuple (J9.map λz=>.Name z.1 z.2) x1 T] c.env=(_d,eval n c.env)::D' [.Tuple (J9.map λz=>.Name z.1 z.2) x1 T] c.env):
  PE c (.Call (.Name "isinstance" o) [n,.Tuple (J9.map λz=>.Name z.1 z.2) x1 T] [] P1) (QP u0 m):=by
 intro pins s r H Q I h;refine ÿ (fj I A D ϻ ?_ (by decide) (by decide))
 refine ϭ ?_ q Y;rw[q];refine ē (bO (y _ s r H _ I h) λu s1 ⟨w,t,x,E,e,C,fs,b,hw,ha,hk,hq⟩=>?_)
 subst hw;cases (E);obtain⟨⟨N,p,a⟩,d,i⟩:=g C b hk;refine ē (adh (x1:=x1) (jC f x ⟨N' hz (by decide),Ĩ ?_⟩))
 have j:Inv c _ r t {s1 with heap:=s1.heap.push {cls:=.type "tuple",data:=.seq A0.toArray} }:=x.kept λb k z=>Y' _ z
 obtain⟨G,M,l⟩:=ha.inst j;exact PySem.W.kia_tup (uo a.xg a.hd d.ha d.hn d.ht d.hm) j.ej l (Ò _ Y) i (λz=>nomatch z) λF=>⟨.bl b,t,j.tok F,Y,hq⟩
noncomputable def QQ(a:f')(o:Obj):It:=
 ⟨λi H=>∃b,H a=J (.cX o (.dK b))/\i<b.length,λi H x d=>d=H/\∀b,H a=J (.cX o (.dK b))->∃c,b[i]?=J c/\x=kV c.1,λi H=>∃b,H a=J (.cX o (.dK b))/\b.length<=i⟩
theorem d6{α a F}:∀{xs}{b:B a}{i:Nat}{x:α},é F xs b->xs[i]?=J x->∃u,b[i]?=J u/\F x u
 |_,_,_,_,.nil,e=>by simp at e
 |_,_,0,_,.cons r _,e=>by simp_all
 |_,_,i+1,x,.cons _ t,e=>by
  refine bN (d6 t (by simpa using e)) λu c d=>?_
  simp_all
variable{Y6:Key}
theorem ku(h:(bH M N).is Y6 ζ=_t):RelV (kV Y6) ζ:=by
 rcases bX (h)with ⟨i,t,rfl,rfl⟩|⟨x,t,rfl,rfl⟩
 .exact⟨t,Y⟩
 .exact⟨t,Y⟩
variable{B5:B (Key×V)}{i9:Array ŗ}
theorem h_(ok:iK M N e H)(a:e i=J (.cX R0 (.dK B5)))(f:R0.data=.dict i9 b):
  ∃c,KV B5 c/\H.DictAt (bH M N) i c b/\i9.size=c.length/\(i==ð)=false:=by
 obtain⟨g,_,k,c,r,q,l,m,d,n,h,o,j,p⟩:=ok i _ a;rw[g]at d;cases d
 rw[f]at h;cases h
 refine⟨c,r,⟨R0,i9,g,n,f,o,j,p⟩,?_,k⟩;rw[←j.length];simp
theorem Ax(a j)(P:R0.data=.dict i9 b):Turn M N G n (QQ a R0) [j] j (λi h=>h.IsKeyIter j a i i9.size b) where
 mem:=by simp
 obj:=λi h g f l=>by
  refine aH g λR0 e c d=>?_
  simp_all
 keep:=λi h Q g k=>by
  refine aH g λR0 e c d=>?_
  exact⟨R0,k j (by simp) R0 e,c,d⟩
 item:=by
  intro X p t u R i pins s U H E I m g w;subst p t u;refine bN w λx y S=>?_
  refine dJ (h_ I.hok y P) λV r z o _=>?_
  refine bN (d6 r (Ô S)) λq Z rq=>?_
  refine dm (m j (by simp)) λA C f2 D F K=>?_
  rw[o]at g;refine wpAny_pyNext_dict_item g z Z λa0 Q hk O sb=>?_
  refine aH (id O) λo1 e1 c1 d1=>?_
  refine⟨_,Y,ua e1 c1 d1 (by decide) ⟨_,H,(I.turned (λf R0 l e=>(sb.2 f l).trans e) A C D F K),ku hk,⟨Y,λT b0=>?_⟩,by rwa[o],λf l=>(m f l).1⟩⟩
  simp_all
 done:=by
  intro X p t u R i pins s U H E I m g w;subst p t u;refine bN w λx y S=>?_
  refine dJ (h_ I.hok y P) λV r z o _=>?_
  refine dm (m j (by simp)) λA C f2 D F K=>?_
  have hl:=r.length;rw[o]at g;exact wpAny_pyNext_dict_end (I.ok.hd R) g z (by simp_all) λQ eb=>⟨Y,I.turned (λf R0 l e=>eb f R0 l e) A C D F K⟩
 self:=λ_ _ _ _ _ g h=>wpAny_pyIter_keyiter g h
theorem Inv.r_(I:Inv c R ν e y)(a:e i=J (.dK B5)):∃o d ep,y.heap.get? i=J o/\o.data=.dict d ep/\Inv c R ν (upd e i (.cX o (.dK B5))) y:=by
 obtain⟨z,h,j,r,o,d,ep,f,k,g,l,m,n⟩:=I.hok i _ a;refine⟨o,d,ep,f,g,?_⟩;have:=kr (b:=y.toks) (T2:=.cX o (.dK _)) I (by rw[a];exact ü) ⟨Y,by simp⟩ ⟨o,f⟩ ⟨f,z,h,j,r,o,d,ep,f,k,g,l,m,n⟩
 exact this
def QR(R:It->Hp->Prop)(x:V)(c):=∃a b,x=.ref a/\((c a=J (.dK b)/\∀o,R (QQ a o) (upd c a (.cX o (.dK b))))\/∃o,c a=J (.cX o (.dK b))/\R (QQ a o) c)
variable{x8:It->Hp->Prop}
theorem Hw(p:Inv c R ν e y)(t:RelV O ζ)(q:QR x8 O e):nc (B' c.prog c.w) c.A (Ħ ζ) (PIE c R ν n x8) c.xe y:=by
 obtain⟨a,l,rfl,q⟩:=q;cases (t)
 have f:∀(o:Obj) (g:Array _) (h:Nat) (i:Hp),Inv c R ν i y->i a=J (.cX o (.dK l))->o.data=.dict g h->x8 (QQ a o) i->nc (B' c.prog c.w) c.A (Ħ (.ref a)) (PIE c R ν n x8) c.xe y:=by
  intro o g h i d e2 j k;refine dJ (h_ d.hok e2 j) λu r x C s=>?_
  refine ό s x ?_;refine⟨_,_,_,_,i,Y,(d.kept λb o q=>Y' _ q),Ax a _ j,?_,λb D=>?_,k⟩
  .rw[C]
   exact⟨_,Ò _ Y,Y,Y⟩
  .have z:=by simpa using D
   rw[z];have:=d.Cc (R' _) (d.hok.fresh (R' _));exact this
 rcases q with ⟨m,k⟩|⟨o,m,k⟩
 .refine cD (p.r_ m) λo g h E j d=>f o g h _ d aD j (k o)
 .obtain⟨E,_,s,u,r,G,g,h,F,H,I,K⟩:=p.hok a _ m
  grind
variable{V9:Bool->iv->Prop}
section
variable{prog:W'}{w:T'}{A:Ä}{E:g'->iv->Prop}{s:iv}
theorem Ay(a:s.TypeIs (.ref i) "dict")(h:V9 _d s):nc (B' prog w) A (afs (.ref i)) V9 E s:=by
 refine j' (adx a F.slot_dict_len.lookup ?_);generalize b:("dict.__len__")=c;subst b;refine j' (ab9 a isSubtype_dict_dict ?_);refine j' (ş a (I' h))
theorem sj(o:s.heap.get? i=J R0)(p:R0.cls=.type "list")(f:R0.data=.seq Q3 b)(q:R0.dict=_n)(u:A.handled=_n)(h:∀m r,(∀a R0,s.heap.get? a=J R0->m.get? a=J R0)->B7 _n {s with heap:=m,toks:=r}):nc (B' prog w) A (Ś (.ref i) "keys") B7 E s:=by
 obtain⟨c,x,y,z⟩:=R0;simp only at p f q;subst p f q;obtain⟨C,g,d,r,D⟩:=s;have t:∀k,(⟨C,g,d,k,D⟩:iv).TypeIs (.ref i) "list":=λ_=>⟨_,o,Y⟩
 have G:=adT;have H:=ab'.lookup;have I:=ab'.bind (.ref i);have K:=am_list_getattr_none;have j:ł (.type "list") "keys"=pure none:=adU (by kernel_rfl)
 unfold Ś ab2 ab0
 repeat (any_goals (first|assumption|exact t _ | ((with_reducible show nc _ _ (call (ab1 "list.__getattribute__") _ _) _ _ _);refine Ğ ab' (t _) am_entry_list_getattribute (F.args_list_getattribute_2 _ _) (meets_getattribute_miss_list i Q3 b z "keys" _ j (by decide) (by decide)) ⟨o,u,λm k e l=>?_⟩)|wp_step))
 refine xe l.there λM n=>xe n λN O=>?_
 show nc _ _ (aa_ _ _ _ _ _ _ _) _ _ _
 unfold aa_
 repeat (any_goals (first|assumption|wp_step))
 exact h _ _ λa R0 e=>l.keeps a R0 e
theorem bS:plainId "dict.update.loop"=true:=by decide +kernel
theorem cS:aca table "dict.update.loop"=J ù.«dict.update.loop» := entryFor_of_fast (by kernel_rfl)
variable{K:Type}[DecidableEq K]{knd:KeyKind prog w K}
theorem wg{α c F G}(h:∀a b,F a b->G a b){xs:B α}{d:B c}(r:é F xs d):é G xs d:=Paired.GF r h
def n7(knd:KeyKind prog w K)(h:F')(p:K×g')(u:g'):=∃b o a n,u=.ref b/\h.get? b=J o/\o.cls=.type "tuple"/\o.data=.seq #[a,p.2] n/\knd.is p.1 a=_t
theorem uq(hh:A.handled=_n)(h:P0≠S)(E:i≠P0)(F:i≠S)(hl:H.IsList i A0.toArray)(G)(Z:∀o,H.get? P0=J o->o.cls≠.type "tuple")(a0:∀o,H.get? S=J o->o.cls≠.type "tuple"):
  ∀j c t s d,é (n7 knd H) j (A0.drop c)->d.length+j.length<=U'->(∀b o,b≠P0->b≠S->H.get? b=J o->s.heap.get? b=J o)->s.heap.IsListIter S i c->s.heap.DictOf knd P0 d ->
  (∀k tk,(∀b o,b≠P0->b≠S->s.heap.get? b=J o->k.get? b=J o)->k.DictOf knd P0 (j.foldl (λa p=>ė a p.1 p.2) d)->S5 (.ok (.ret G)) {s with heap:=k,toks:=tk}) ->
  Û (B' prog w) A (.builtin "dict.update.loop" ⟨[.ref P0,.ref S,.int c t,G],[]⟩) S5 s:=by
 intro j
 induction j with
 |nil=>
  intro c t s d I V M l hd hR;refine ı cS ?_;have D:A0.drop c=[]:=by generalize A0.drop c=q at I;cases I;rfl
  refine j' (acY hh l (let ⟨o,m,r⟩:=hl;⟨o,M i o E F m,r⟩) (by simpa using List.drop_eq_nil_iff.mp D) λk eb=>?_)
  exact j' (I' (I' (hR k s.toks (λb o _ X e=>eb b o X e) (hd.extBut eb h))))
 |cons p j ih=>
  intro c t s d I V M l hd hR
  have D:∃u r,A0.drop c=u::r/\n7 knd H p u/\é (n7 knd H) j r:=by
   generalize A0.drop c=q at I;cases I with|cons a b=>exact⟨_,_,Y,a,b⟩
  obtain⟨u,r,D,⟨b,o,h0,n,rfl,m,hc,N,O⟩,b0⟩:=D;have hr:A0.drop (c+1)=r:=by rw[←List.drop_drop,D];rfl
  have c0:b≠P0:=λe=>Z o (e▸m) hc
  have P:b≠S:=λe=>a0 o (e▸m) hc
  refine ı cS ?_
  refine j' (acX l (let ⟨o,m,r⟩:=hl;⟨o,M i o E F m,r⟩) (x:=.ref b) (by simpa using (by
   have:=congrArg (·[0]?) D;simpa using this)) λh1 Q y=>?_)
  have R:h1.get? b=J o:=(y.2 b P).trans (M b o c0 P m);have d0:h1.DictOf knd P0 d:=hd.extBut y.extBut h;refine j' (î (j' (adV ?_)));unfold adW;refine j' (ş (T:="tuple") ⟨o,R,hc⟩ ?_);rw[if_pos (by decide)]
  unfold acb;refine j' (j' (abt R ?_));rw[N];refine I' (I' ?_);refine î (adX O d0 (λX e0 U=>?_) (by simp at V;exact N' (à _ _) V))
  refine I' ⟨ğ bS _,?_⟩;have keep:∀f g,f≠P0->f≠S->s.heap.get? f=J g->X.get? f=J g:=λf g z C e=>(U.2 f z).trans ((y.2 f C).trans e)
  have:=ih (c+1) 0 {s with heap:=X,toks:=s.toks+1} (ė d p.1 p.2) (by rw[hr];exact b0) (by have:=adY d p.1 p.2;simp at V;omega) (λf g z C e=>keep f g z C (M f g z C e)) (Q.at λo e=>(U.2 S (Í h)).trans e) e0 (λk tk f0 g0=>hR k tk (λf g z C e=>f0 f g z C (keep f g z C e)) g0)
  exact this
theorem n_{I}(hh:A.handled=_n)(ho:s.heap.get? i=J R0)(P:R0.cls=.type "list")(f:R0.data=.seq A0.toArray b)(hd:R0.dict=_n)(hp:é (n7 knd s.heap) I A0)(hsz:I.length<=U')(h:∀n Q,(∀c R0,s.heap.get? c=J R0->n.get? c=J R0)->n.DictOf knd s.heap.objs.size (I.foldl (λa p=>ė a p.1 p.2) [])->ψ (.ref s.heap.objs.size) {s with heap:=n,toks:=Q}):
  nc (B' prog w) A (call (.type "dict") [.ref i]) ψ E s:=by
 refine acd (Q₁:=λo g=>o=.ref s.heap.objs.size/\g={s with heap:=s.heap.push _}) adZ (ad_ _) ad0 (ad1 _ ⟨Y,Y⟩) ?_
 rintro o g ⟨rfl,rfl⟩;have d:(s.heap.push _).DictOf knd s.heap.objs.size []:=abX s.heap;have j:=Y' {cls:=.type "dict",data:=.dict #[]} ho;refine⟨d.typeIs,ad2 _ _,?_⟩;refine j' ?_;refine j' (ad3 d.typeIs ?_);refine I' ?_
 show nc _ _ (ace "dict.__init__" s.heap.objs.size (.ref i) [] .none) _ _ _
 refine j' (ş (T:="list") ⟨R0,j,P⟩ ?_);rw[if_pos (by decide)]
 refine j' (sj (A:=A.in1.in1) j P f hd hh λm Q R=>?_)
 rw[if_pos (by decide)]
 refine j' (Ņ ?_);have q:m.IsList i A0.toArray:=⟨R0,R i R0 j,P,b,f⟩;refine j' (aa3 q ?_);refine I' ⟨ğ bS _,?_⟩;have kp:=λc R0 e=>R c R0 (Y' _ e)
 have t:m.DictOf knd s.heap.objs.size []:=ei (d) λR0 M N e r=>⟨R0,M,N,R _ R0 e,r⟩
 have k:=ei (t) λR0 _ _ e _=>Q' e
 have x:i<s.heap.objs.size:=Q' ho;generalize hq:m.push _=y;have O:∀c R0,m.get? c=J R0->y.get? c=J R0:=λc R0 e=>by rw[←hq];exact Y' _ e
 have z:y.IsListIter m.objs.size i 0:=by rw[←hq];exact⟨_,Ò _ Y,Y,Y⟩
 have C:y.DictOf knd s.heap.objs.size []:=ei (t) λR0 M N e r=>⟨R0,M,N,O _ R0 e,r⟩
 have l:=uq (A:=A.in1) (S5:=wants (λr D=>r=Ą/\ψ (Ë s.heap.objs.size) D) E) (knd:=knd) (H:=y) (i:=i) (S:=m.objs.size) (P0:=s.heap.objs.size) (A0:=A0) hh (X' k) (X' x) (X' (Ó x k))
  (let ⟨R0,e,r⟩:=q;⟨R0,O _ R0 e,r⟩) .none (λR0 e=>by
   refine cD C λo' M N U G _=>?_
   rw[e]at U;cases U
   rw[G.1];decide) (λR0 e=>by
   refine aH z λo' U G _=>?_
   grind) I 0 0 {s with heap:=y,toks:=Q} [] (by
   rw[ad4]
   exact wg (λp u V=>by
    refine bj V λc R0 l b e1 e2 r=>?_
    exact⟨c,R0,l,b,e1,O _ _ (kp _ _ e2),r⟩) hp) (by simpa using hsz) (λc R0 _ _ e=>e) z C (λn X Z a0=>?_)
 .exact l
 .refine⟨Y,h n X (λc R0 e=>Z c R0 ?_ ?_ (O _ _ (kp _ _ e))) a0⟩
  .exact X' (Q' e)
  .exact X' (Ó (Q' e) k)
theorem oa{kvs}(hh:A.handled=_n)(lo:(i==ð)=_d)(da:s.heap.DictAt knd i kvs b)(hn:kvs.length<=U')(hQ:∀Q tk f R,(∀a o,s.heap.get? a=J o->Q.get? a=J o)->Q.get? s.heap.objs.size=J {cls:=.type "list",dict:=_n,data:=.seq f R,slots := #[]}->ItemsOf (λn v=>∃k x,kvs[n]?=J (k,x)/\knd.is k v=_t) f kvs.length->ψ (.ref s.heap.objs.size) {s with heap:=Q,toks:=tk}):
  nc (B' prog w) A (call (.type "list") [.ref i]) ψ E s:=by
 refine acd (Q₁:=λy m=>y=.ref s.heap.objs.size/\m={s with heap:=s.heap.push {cls:=.type "list",data:=.seq #[]} }) F.called_list (F.typeCall_list_1 _) F.entry_list_init
  (code_list_new _ ⟨Y,Y⟩) λy m C=>?_
 obtain⟨rfl,rfl⟩:=C;generalize d:s.heap.objs.size=S;have N:(s.heap.push {cls:=.type "list",data:=.seq #[]}).get? S=J {cls:=.type "list",data:=.seq #[]}:=by rw[←d];exact Ò _ Y
 refine⟨⟨_,N,Y⟩,F.args_list_init_2 _ _,?_⟩;refine j' ?_;unfold aft;refine j' (acf N Y (I' ?_));refine j' (acg N Y ?_);have c:=ĝ (Ĝ (λ_=>(#[]:Array g'))) N Y
 have p:S≠i:=λe=>by
  refine cy da λo es q _=>?_
  exact ä _ ((e▸d)▸Q' q)
 refine j' (ach ?_);generalize T:(s.heap.push {cls:=.type "list",data:=.seq #[]}).update S (Ĝ (λ_=>(#[]:Array g')))=g at c
 have k1:∀a o,s.heap.get? a=J o->g.get? a=J o:=λa o e=>by
  rw[←T];exact(ď _ _ (λz=>ä _ ((z▸d)▸Q' e))).trans (Y' _ e)
 have l:g.DictAt knd i kvs b:=da.at' λo e=>k1 i o e
 have U:({s with heap:=g}:iv).TypeIs (.ref i) "dict":=let ⟨o,_,q,V,_⟩:=l;⟨o,q,V.1⟩
 show nc _ _ (ad5 (.ref S) (.ref i) .none) _ _ {s with heap:=g}
 unfold ad5;refine j' (ş U ?_);have X:ad6 (.ref S) (.ref i)=false:=by simp[ad6,p]
 have Z:(ŋ "dict"==ŋ "list")=false:=by decide
 have a0:(ŋ "dict"==ŋ "tuple")=false:=by decide
 simp only[X,Z,a0,Bool.or_false,Ĳ,if_false];refine j' (ό lo l ?_);generalize D:g.push {cls:=.type "dict_keyiterator",data:=.fields #[.ref i,.int 0 0,.int kvs.length 0,.int b 0]}=r;have O:∀a o,g.get? a=J o->r.get? a=J o:=λa o e=>by rw[←D];exact Y' _ e
 have b0:r.IsKeyIter g.objs.size i 0 kvs.length b:=by rw[←D];exact⟨_,Ò _ Y,Y,Y⟩
 have G:r.DictAt knd i kvs b:=l.at' λo e=>O i o e
 have c0:({s with heap:=r}:iv).TypeIs (.ref i) "dict":=let ⟨o,_,q,V,_⟩:=G;⟨o,q,V.1⟩
 refine j' (î (Ay (s:={s with heap:=r}) c0 ?_));refine aci (λ_=>?_) (λd0=>absurd (by decide) d0)
 refine j' (Ņ ?_);refine j' ?_
 show nc _ _ (updateSeq S (·.push .none) >>= λ_=>updateSeq S (·.pop)) _ _ _
 refine j' (acg (O _ _ c) Y ?_);have h:=ĝ (Ĝ (·.push Ą)) (O _ _ c) Y;refine acg (hz:=by decide) h Y ?_
 have j:=ĝ (Ĝ (·.pop)) h Y;refine I' ⟨ğ F.plain_extend_loop _,?_⟩;generalize e0:(r.update S (Ĝ (·.push Ą))).update S (Ĝ (·.pop))=h3 at j
 have k3:∀a o,a≠S->r.get? a=J o->h3.get? a=J o:=λa o t e=>by
  rw[←e0];exact(ď _ _ (Í t)).trans ((ď _ _ (Í t)).trans e)
 have f0:i<g.objs.size:=cy (l) λo _ q _=>Q' q
 have u:S<g.objs.size:=Q' c;have W:=(Walks.dictKeys (prog:=prog) (w:=w) (A:=A.in1.in1) (knd:=knd) hh g.objs.size i (X' f0) kvs b).toS;refine codeAny_extend_loopS W hn S (λP=>?_) .none kvs.length 0 _ #[] _ Y (ĉ _) ⟨b0.at λo e=>k3 _ o (Í (X' u)) e,G.at' λo e=>k3 _ o (Í p) e⟩ j (ItemsOf.nil _) λs' f R P H I=>?_
 .rcases Ì.mp P with e|e
  .exact X' u e
  .exact p (by simpa using e)
 .rw[Moved.eq_with P]at H ⊢
  refine⟨Y,?_⟩;have:=hQ s'.heap s'.toks f R (λa o e=>P.heap a o (λM=>?_) (k3 _ _ (λz=>ä _ ((z▸d)▸Q' e)) (O _ _ (k1 _ _ e)))) (by rw[d];exact H) I
  .rw[d]at this;exact this
  .have t:=Q' e
   rcases Ì.mp M with e' |e'
   .rw[e',←d]at t;exact ä _ t
   .have e':a=g.objs.size:=by simpa using e'
    rw[e',d]at t;exact ä _ (Ó t u)
end
variable{B9:Nat->g'->Prop}{η:B V}
theorem Hy(h:ItemsOf B9 Q3 η.length)(f:∀i u v,B9 i u->η[i]?=J v->RelV v u):Vals η Q3.toList:=by
 have c:∀(l:B _) (η:B V),l.length=η.length->(∀(i:Nat) (u:g') (v:V),l[i]?=J u->η[i]?=J v->RelV v u)->Vals η l:=by
  intro l
  induction l with
  |nil=>intro η h _;cases η with|nil=>exact .nil|cons a b=>simp at h
  |cons u l g=>
   intro η h d;cases η with
   |nil=>simp at h
   |cons v η=>exact .cons (d 0 u v Y Y) (g η (by simp_all) λi j k m e=>d (i+1) j k (by simp_all) (by simp_all))
 exact c _ _ (by rw[Array.length_toList,h.1]) λi u v m e=>f i u v (h.2 i u (by simp_all)) e
theorem wh(m:c.calm=_t):ek c (.type "list") (λxs H Q=>∃a kvs,xs=[V.ref a]/\Rd H a (.dK kvs)/\∀l,H l=_n->Q (.ref l) (upd H l (.l (kvs.map λb=>kV b.1)))):=by
 intro pins s U H xs X Q I r h;obtain⟨a,kvs,rfl,n,q⟩:=h;obtain⟨u,rfl,p⟩:=vals1 r;cases p;refine iL (iC I.hok n) λz t Z d w=>?_
 refine bG w λo y ep A C D E=>?_
 have f:=d.length;refine oa (I.ok.hd m) t ⟨o,y,A,C,D,E⟩ (N' (Á f.symm) z) λF tk g G K e M=>?_
 exact⟨.ref _,_,I.laid K (R' _) (show cu _ _ _ F _ (.l _)from⟨by simp_all,_,G,(Hy (by rw[ß,←f]at *;exact M) λi u v N hv=>by
  refine cy N λk x O P=>?_
  have R:∃b,kvs[i]?=J b/\v=kV b.1:=by
   grind
  obtain⟨b,S,rfl⟩:=R;obtain⟨q',j,T⟩:=d6 d S;rw[O]at j;cases j
  rw[T.1];exact ku P),by omega⟩),Y,q _ (I.hok.fresh (R' _))⟩
theorem og:ek c (.type "dict") (λxs H Q=>∃a kvs,xs=[V.ref a]/\Rd H a (.dK kvs)/\∀l,H l=_n->Q (.ref l) (upd H l (.dK kvs))):=by
 intro pins s p H xs t Q I r h;obtain⟨a,kvs,rfl,g,q⟩:=h;obtain⟨u,rfl,i⟩:=vals1 r;cases i;refine iL (iC I.hok g) λz j w d k=>?_
 have m:=d.length;refine kt_call_dict j k (N' (Á m.symm) z) λx f n=>?_
 exact⟨.ref _,_,I.laid (λb o e=>(n.2 b (X' (Q' e))).trans (Y' _ e)) (R' _) (nW z (beq_eq_false_iff_ne.mpr (Í (X' I.big))) d f),Y,q _ (I.hok.fresh (R' _))⟩
theorem oh(Z:c.calm=_t):ek c (.type "dict") (λxs H Q=>∃a j d,xs=[V.ref a]/\Rd H a (.l j)/\é (λ(p:Key×V) y=>∃b,y=.ref b/\Rd H b (.t [kV p.1,p.2])) d j/\∀l,H l=_n->Q (.ref l) (upd H l (.dK (d.foldl (λa p=>putK a p.1 p.2) [])))):=by
 intro pins s σ H xs us Q I r h;refine bG h λa j d E ha x q=>?_;subst E
 obtain⟨u,rfl,F⟩:=vals1 r;cases F;obtain⟨g,k,⟨o,n,ho,G,K,m⟩,hz⟩:=I.list (.inl ha)
 have M:∀{d:B (Key×V)}{j:B V}{g:B g'},é (λ(p) (y:V)=>∃b,y=.ref b/\Rd H b (.t [kV p.1,p.2])) d j->Vals j g->∃i,KV d i/\é (n7 (bH c.prog c.w) s.heap) i g:=by
  intro d j g x k
  induction x generalizing g with
  |nil=>cases k;exact⟨[],.nil,.nil⟩
  |@cons p y d j z _ A=>
   cases k with
   |@cons _ u _ us F k=>
    obtain⟨i,C,D⟩:=A k;obtain⟨b,rfl,hb⟩:=z;cases (F);refine xa (Cw I.hok hb) λ_ N=>bN N λT t O=>aH O λo' e1 e2 P=>xe P λn' e3=>?_
    cases t with
    |@cons _ k' _ r1 rk t=>
     cases t with
     |@cons _ v' _ r2 R t=>
      cases t with
      |nil=>exact⟨(p.1,v')::i,.cons ⟨Y,R⟩ C,.cons ⟨b,o',k',n',Y,e1,e2,e3,l_ rk⟩ D⟩
 obtain⟨i,C,D⟩:=M x k;have hl:=C.length;have S:=Ū x;refine n_ (I.ok.hd Z) ho G m K D (N' (N' (Á hl.symm) (Á S)) hz) λh' tk kp dd=>?_
 have hf:∀{d:B (Key×V)}{i:B _} (e:B (Key×V)) (f:B _),KV e f->KV d i->KV (d.foldl (λa p=>putK a p.1 p.2) e) (i.foldl (λa p=>ė a p.1 p.2) f):=by
  intro d i e f U r
  induction r generalizing e f with
  |nil=>exact U
  |@cons p q d i z _ A=>
   simp;refine A _ _ ?_;rw[←z.1];exact U.put p.1 z.2
 have X:∀(d:B (Key×V)) (e:B (Key×V)),(d.foldl (λa p=>putK a p.1 p.2) e).length<=e.length+d.length:=by
  intro d
  induction d with
  |nil=>simp
  |cons p d A=>
   intro e;have D:=el e p.1 p.2
   grind
 exact⟨.ref _,_,I.laid kp (R' _) (nW (by
  grind) (beq_eq_false_iff_ne.mpr (Í (X' I.big))) (hf _ _ .nil C) dd),Y,q _ (I.hok.fresh (R' _))⟩
end L2
namespace PySem
open Sem (wp)
abbrev jM(h:F')(z TI TO T:f')(b:Bool):=
 h.get? z=J {cls:=.type "zip",dict:=_n,data:=.fields #[ć T,.bool b,.bool _d,.ref TI,.ref TO],slots := #[]}
variable{B4 P0 R6 S i u6 y2 z8:f'}{B7:_o g'->iv->Prop}{F2 H:F'}{Q3 Q6:Array g'}{R0:Obj}{S5:œ->iv->Prop}{U3 ζ:g'}{V9:Bool->iv->Prop}{X2:Bool}{b m:Nat}{ψ:g'->iv->Prop}
section
variable{prog:W'}{w:T'}{A:Ä}{E:g'->iv->Prop}{s:iv}
theorem ky{Q}(h:Q (s.heap.get? i) s):nc (B' prog w) A (acj i) Q E s:=by
 intro b p a;unfold acj;rw[Sem.wp_loadIfAlive];exact(I' (M:=B' prog w) (A:=A) (E:=E) h) b p a
theorem oi(hz:jM s.heap i S P0 y2 X2)(f:s.heap.get? y2=J R0)(e:∀d,jM d i S P0 y2 _t->Ĺ i s.heap d->V9 _d {s with heap:=d}):nc (B' prog w) A (aa4 (.ref i)) V9 E s:=by
 unfold aa4;refine j' (Ċ hz Y (x:=ć y2) Y ?_)
 show nc _ _ (acj ((y2:Int).toNat) >>= _) _ _ _
 refine j' (ky ?_);rw[aa5,f]
 show nc _ _ (Š (.ref i) 1 >>= _) _ _ _
 refine j' (Ċ hz Y (x:=.bool X2) Y ?_);cases X2 with
 |true=>exact I' (e _ hz (afu _ _))
 |false=>
  show nc _ _ (ϵ (.ref i) 1 (.bool _t) >>= _) _ _ _
  exact j' (wpAny_setField_rec hz (by simp) λc a b=>I' (e c a b))
theorem oj{x}(D:ĳ i S P0 B4 u6 R6 z8)(hz:jM s.heap i S P0 y2 X2)(C:s.heap.get? y2=J R0)(p:Ġ s.heap S (.ref B4) (.ref u6))(F:s.heap.IsListIter B4 R6 b)(G:s.heap.IsListIter u6 z8 m)(q:s.heap.IsList R6 Q3)(r:s.heap.IsList z8 Q6)(H:Q3[b]?=J x)(I:Q6[m]?=J ζ)(K:∀h,jM h i S P0 y2 _t->h.IsListIter B4 R6 (b+1)->h.IsListIter u6 z8 (m+1)->Ġ h s.heap.objs.size x ζ->h.objs.size=s.heap.objs.size+1 ->
   (∀c R0,c≠i->c≠B4->c≠u6->s.heap.get? c=J R0->h.get? c=J R0)->ψ (.ref s.heap.objs.size) {s with heap:=h}):
  nc (B' prog w) A (ù.«zip.__next__» ⟨[.ref i],[]⟩) (λt M=>∃v,t=.done (.ret v)/\ψ v M) E s:=by
 show nc _ _ (Š (.ref i) 2 >>= _) _ _ _
 refine j' (Ċ hz Y (x:=.bool _d) Y ?_)
 show nc _ _ (Š (.ref i) 3 >>= _) _ _ _
 refine j' (Ċ hz Y (x:=.ref S) Y ?_);refine j' (acf p Y ?_)
 show nc _ _ (aa4 (.ref i) >>= _) _ _ _
 refine j' (oi hz C λu j a=>?_)
 simp only[Ĳ,if_false];refine j' ?_;simp only[ad7,ad8,ad9,ad'];refine j' (j' (î ?_))
 show nc _ _ (Ĵ (.ref B4) >>= _) _ _ _
 refine j' (ack (F.extBut a.extBut D.i1z) (q.extBut a.extBut D.l1z) H λy k d=>I' ?_)
 refine I' ?_;refine j' (j' (î ?_))
 show nc _ _ (Ĵ (.ref u6) >>= _) _ _ _
 refine j' (ack ((G.extBut a.extBut D.i2z).extBut d.extBut D.i12.symm) ((r.extBut a.extBut D.l2z).extBut d.extBut D.l2i1) I λf l g=>I' ?_)
 refine I' (I' ?_);refine j' (wpAny_newTuple (hsz:=by show([x,ζ]:B g').length<=U';rw[ą];simp) ?_)
 have hsz:f.objs.size=s.heap.objs.size:=by rw[g.1,d.1,a.1]
 refine I' ⟨_,Y,?_⟩
 show ψ (.ref f.objs.size) _
 have N:∀c R0,c≠i->c≠B4->c≠u6->s.heap.get? c=J R0->(f.push {cls:=.type "tuple",data:=.seq #[x,ζ]}).get? c=J R0:=λc R0 O P Q e=>Y' _ (g.extBut _ _ Q (d.extBut _ _ P (a.extBut _ _ O e)))
 have n:jM f i S P0 y2 true:=g.extBut _ _ D.i2z.symm (d.extBut _ _ D.i1z.symm j);have o:f.IsListIter B4 R6 (b+1):=k.extBut g.extBut D.i12;have z:Ġ (f.push {cls:=.type "tuple",data:=.seq #[x,ζ]}) f.objs.size x ζ:=Ò _ Y;rw[hsz]at z ⊢;exact K _ (Y' _ n) (o.at λR0 e=>Y' _ e) (l.at λR0 e=>Y' _ e) z (by rw[ŵ,hsz]) N
theorem pN{Q}(C:A.handled=_n)(D:ĳ i S P0 B4 u6 R6 z8)(hz:jM s.heap i S P0 y2 X2)(I:s.heap.get? y2=J R0)(n:Ġ s.heap S (.ref B4) (.ref u6))(F:s.heap.IsListIter B4 R6 b)(K:s.heap.IsListIter u6 z8 m)(j:s.heap.IsList R6 Q3)(o:s.heap.IsList z8 Q6)(k:Q3[b]?=_n\/Q6[m]?=_n)(G:∀p e,(∀c R0,c≠i->c≠B4->c≠u6->s.heap.get? c=J R0->p.get? c=J R0)->(∃R0,p.get? e=J R0/\R0.cls=.type "StopIteration")->E (.ref e) {s with heap:=p}):
  nc (B' prog w) A (ù.«zip.__next__» ⟨[.ref i],[]⟩) Q E s:=by
 show nc _ _ (Š (.ref i) 2 >>= _) _ _ _
 refine j' (Ċ hz Y (x:=.bool _d) Y ?_)
 show nc _ _ (Š (.ref i) 3 >>= _) _ _ _
 refine j' (Ċ hz Y (x:=.ref S) Y ?_);refine j' (acf n Y ?_)
 show nc _ _ (aa4 (.ref i) >>= _) _ _ _
 refine j' (oi hz I λH q a=>?_)
 simp only[Ĳ,if_false];refine j' ?_;simp only[ad7,ad8,ad9,ad'];refine j' (j' (î ?_))
 show nc _ _ (Ĵ (.ref B4) >>= _) _ _ _
 cases r:Q3[b]? with
 |none=>
  exact j' (aea C (F.extBut a.extBut D.i1z) (j.extBut a.extBut D.l1z) r λf e d t=>G f e (λc R0 u y _ x=>d _ _ y (a.extBut _ _ u x)) t)
 |some x=>
  have M:Q6[m]?=none:=by rcases k with h|h;rw[r]at h;cases h;exact h
  refine j' (ack (F.extBut a.extBut D.i1z) (j.extBut a.extBut D.l1z) r λf z d=>I' ?_)
  refine I' ?_;refine j' (j' (î ?_))
  show nc _ _ (Ĵ (.ref u6) >>= _) _ _ _
  exact j' (aea C ((K.extBut a.extBut D.i2z).extBut d.extBut D.i12.symm) ((o.extBut a.extBut D.l2z).extBut d.extBut D.l2i1) M λl e g t=>G l e (λc R0 u y N x=>g _ _ N (d.extBut _ _ y (a.extBut _ _ u x))) t)
structure jD(h:F')(z TI TO i1 i2 l1 l2:f')(xs ys:Array g')(k:Nat):Prop where
 st:IsZip h z TI TO .none\/∃T b p q,jM h z TI TO T b/\Ġ h T p q
 ti:Ġ h TI (.ref i1) (.ref i2)
 to:∃a b,Ġ h TO a b
 it1:h.IsListIter i1 l1 k
 it2:h.IsListIter i2 l2 k
 ls1:h.IsList l1 xs
 ls2:h.IsList l2 ys
theorem wj(D:ĳ i S P0 y2 B4 u6 R6)(hz:jD s.heap i S P0 y2 B4 u6 R6 Q3 Q6 b)(y:Q3[b]?=J ζ)(z:Q6[b]?=J U3)(C:∀h,jD h i S P0 y2 B4 u6 R6 Q3 Q6 (b+1)->Ġ h s.heap.objs.size ζ U3->(∀c o,c≠i->c≠P0->c≠y2->c≠B4->s.heap.get? c=J o->h.get? c=J o)->B7 (J (.ref s.heap.objs.size)) {s with heap:=h}):
  nc (B' prog w) A (č (.ref i)) B7 E s:=by
 obtain⟨j,t,⟨a,k,G⟩,l,m,f,g⟩:=hz;rcases j with j|⟨T,Q,p,q,j,n⟩
 .refine wpAny_pyNext_zip_item D j t G l m f g y z λh a1 a2 u x H _ d=>C h ⟨.inr ⟨_,_d,_,_,a1,H⟩,d _ _ D.TIz D.TITO D.TIi1 D.TIi2 t,⟨_,_,a2⟩,u,x,f.at λo e=>d _ o D.l1z D.l1TO D.l1i1 D.l1i2 e,g.at λo e=>d _ o D.l2z D.l2TO D.l2i1 D.l2i2 e⟩ H d
 .have r:s.TypeIs (.ref i) "zip":=⟨_,j,Y⟩
  have I:T≠i:=λe=>by subst e;have:=j.symm.trans n;simp at this
  have K:T≠y2:=λe=>by subst e;obtain⟨o,e,c,_⟩:=l;cases n.symm.trans e;simp at c
  have M:T≠B4:=λe=>by subst e;obtain⟨o,e,c,_⟩:=m;cases n.symm.trans e;simp at c
  unfold č
  exact j' (ϴ (ύ (name:=ώ "__next__") r aa6
   (š aa6 r aeb
    (oj D j n t l m f g y z λh a1 a2 u x _ d=>I' (C h ⟨.inr ⟨T,_t,p,q,a1,d _ _ I K M n⟩,d _ _ D.TIz D.TIi1 D.TIi2 t,⟨a,k,d _ _ D.TOz D.TOi1 D.TOi2 G⟩,a2,u,f.at λo e=>d _ o D.l1z D.l1i1 D.l1i2 e,g.at λo e=>d _ o D.l2z D.l2i1 D.l2i2 e⟩ x λc o N _ O P e=>d c o N O P e)) (aec _))))
theorem om(r:A.handled=_n)(D:ĳ i S P0 y2 B4 u6 R6)(hz:jD s.heap i S P0 y2 B4 u6 R6 Q3 Q6 m)(d:Q3[m]?=_n\/Q6[m]?=_n)(t:∀n,(∀c o,c≠i->c≠P0->c≠y2->c≠B4->s.heap.get? c=J o->n.get? c=J o)->B7 _n {s with heap:=n}):nc (B' prog w) A (č (.ref i)) B7 E s:=by
 obtain⟨f,u,⟨a,b,x⟩,g,h,j,k⟩:=hz;rcases f with f|⟨T,N,p,q,f,y⟩
 .exact wpAny_pyNext_zip_end r D f u x g h j k d t
 .have l:s.TypeIs (.ref i) "zip":=⟨_,f,Y⟩
  unfold č
  refine j' (ϴ (ύ (name:=ώ "__next__") l aa6
   (š aa6 l aeb (pN r D f y u g h j k d λn e z C=>?_) (aec _))))
  obtain⟨o,G,H⟩:=C;refine j' (ab9 (T:="StopIteration") (b:=_t) ⟨o,G,H⟩ aed ?_);exact I' (t _ λc o I _ K M e=>z c o I K M e)
theorem jD.ext(hz:jD H i S P0 y2 B4 u6 R6 Q3 Q6 b)(d:∀c o,c≠z8->H.get? c=J o->F2.get? c=J o)(r:i≠z8/\S≠z8/\P0≠z8/\y2≠z8/\B4≠z8/\u6≠z8/\R6≠z8)(s:∀T p q,Ġ H T p q->T≠z8):jD F2 i S P0 y2 B4 u6 R6 Q3 Q6 b:=by
 obtain⟨g,t,⟨a,f,u⟩,h,j,k,l⟩:=hz;obtain⟨m,w,x,y,z,A,C⟩:=r;refine⟨?_,d _ _ w t,⟨a,f,d _ _ x u⟩,h.at λo e=>d _ o y e,j.at λo e=>d _ o z e,k.at λo e=>d _ o A e,l.at λo e=>d _ o C e⟩
 rcases g with g|⟨T,D,p,q,g,n⟩
 .exact .inl (d _ _ m g)
 .exact .inr ⟨T,D,p,q,d _ _ m g,d _ _ (s T p q n) n⟩
variable{K:Type}[DecidableEq K]{knd:KeyKind prog w K}
def PZ(knd:KeyKind prog w K)(xs b:Array g'):Nat->B (K×g')->Prop
 |k,[]=>xs[k]?=_n\/b[k]?=_n
 |k,p::c=>∃a,xs[k]?=J a/\b[k]?=J p.2/\knd.is p.1 a=_t/\PZ knd xs b (k+1) c
theorem sk(hh:A.handled=_n)(D:ĳ i S P0 y2 B4 u6 R6)(f:i≠z8/\S≠z8/\P0≠z8/\y2≠z8/\B4≠z8/\u6≠z8/\R6≠z8)(h):
  ∀l k t s d,PZ knd Q3 Q6 k l->d.length+l.length<=U'->jD s.heap i S P0 y2 B4 u6 R6 Q3 Q6 k->s.heap.DictOf knd z8 d ->
  (∀g O,(∀c o,c≠z8->c≠i->c≠P0->c≠y2->c≠B4->s.heap.get? c=J o->g.get? c=J o)->g.DictOf knd z8 (l.foldl (λa p=>ė a p.1 p.2) d)->S5 (.ok (.ret h)) {s with heap:=g,toks:=O}) ->
  Û (B' prog w) A (.builtin "dict.update.loop" ⟨[.ref z8,.ref i,.int k t,h],[]⟩) S5 s:=by
 intro l
 induction l with
 |nil=>
  intro k t s d n F P Q R;refine ı L2.cS ?_;rw[aee L2.bS _]
  show nc _ A.in1 (č (.ref i) >>= _) _ _ s
  refine j' (om hh D P n λg hk=>?_)
  show nc _ _ (afv z8 [] >>= _) _ _ _
  have j:g.DictOf knd z8 d:=let ⟨o,G,H,e,r⟩:=Q;⟨o,G,H,hk _ o f.1.symm f.2.2.1.symm f.2.2.2.1.symm f.2.2.2.2.1.symm e,r⟩
  exact j' (I' (I' (R g s.toks (λb o _ I m M N e=>hk b o I m M N e) j)))
 |cons p l ih=>
  intro k t s d n F P Q R;obtain⟨u,hx,hy,x,U⟩:=n;refine ı L2.cS ?_;rw[aee L2.bS _]
  show nc _ A.in1 (č (.ref i) >>= _) _ _ s
  refine j' (wj D P hx hy λh1 V y z=>?_)
  have C:h1.DictOf knd z8 d:=let ⟨o,G,H,e,r⟩:=Q;⟨o,G,H,z _ o f.1.symm f.2.2.1.symm f.2.2.2.1.symm f.2.2.2.2.1.symm e,r⟩
  refine j' (î (j' (adV ?_)));unfold adW;refine j' (ş (T:="tuple") ⟨_,y,Y⟩ ?_);rw[if_pos (by decide)]
  unfold acb;refine j' (j' (abt y ?_));refine I' (I' ?_)
  show nc _ _ (ô [u,p.2] (dictSet z8 u p.2)) _ _ _
  refine î (adX x C (λI X E=>?_) (by simp at F;exact N' (à _ _) F))
  refine I' ⟨ğ L2.bS _,?_⟩
  show Û _ _ (.builtin "dict.update.loop" ⟨[.ref z8,.ref i,ć ((k:Int)+1),h],[]⟩) _ _
  have Z:jD I i S P0 y2 B4 u6 R6 Q3 Q6 (k+1):=V.ext (z8:=z8) (λc o m e=>(E.2 c m).trans e) f λT p q n e=>by
   subst e;obtain⟨o,G,H,e',hc,_⟩:=C;cases n.symm.trans e';exact absurd hc.1 (by simp)
  have:=ih (k+1) 0 {s with heap:=I,toks:=s.toks+1} (ė d p.1 p.2) U (by have:=adY d p.1 p.2;simp at F;omega) Z X (λg O a0 j=>R g O (λb' o' m M N h6 h7 e=>a0 b' o' m M N h6 h7 ((E.2 b' m).trans (z b' o' M N h6 h7 e))) j)
  exact this
end
theorem lu:ł (.type "zip") "__getattr__"=pure none:=by rw[typeLookup_type,builtinLookup_eq_fast];kernel_rfl
theorem ia:aca table "zip.__getattribute__"=J ù.«object.__getattribute__» :=
 aef (id':="object.__getattribute__") (by kernel_rfl) (by decide +kernel) (by decide +kernel) (by kernel_rfl)
theorem eS(a xs f name u)(e:ł (.type "zip") name=pure _n)(b:(["__module__","__name__","__qualname__","__doc__","__annotations__"]:B L).contains name=_d)(hsz:name.length+100<=U':=by size_fits):
  Meets (ù.«object.__getattribute__» ⟨[.ref a,.str name u],[]⟩) (λA R s=>s.heap.get? a=J {cls:=.type "zip",dict:=_n,data:=.fields xs,slots:=f}/\raisesAttr (.ref a) name A R s):=
 Meets.of_wp λprog w A R s c=>by
  obtain⟨h,g,d,i,j⟩:=s;obtain⟨k,c⟩:=c;have l:(⟨h,g,d,i,j⟩:iv).TypeIs (.ref a) "zip":=⟨_,k,Y⟩;unfold ù.«object.__getattribute__»
  repeat (any_goals (first|assumption|wp_step))
  rw[b,if_neg (by decide)]
  repeat (any_goals (first|assumption|wp_step))
  exact wpAny_raiseAttrError c.1 c.2 (attrMsg_fits (by decide +kernel) hsz)
end PySem
namespace L2
open PySem PySem.Spec PyProof.Rows
variable{B7:_o g'->iv->Prop}{C6:Array (_o g')}{M:W'}{N:T'}{Q3:Array g'}{i:f'}{ο:Ä}{ψ:g'->iv->Prop}
theorem ur{s}(k:s.heap.get? i=J {cls:=.type "zip",dict:=_n,data:=.fields Q3,slots:=C6})(n:ο.handled=_n)(h:∀j l,(∀b o,s.heap.get? b=J o->j.get? b=J o)->B7 _n {s with heap:=j,toks:=l}):nc (B' M N) ο (Ś (.ref i) "keys") B7 ψ s:=by
 obtain⟨p,g,d,l,q⟩:=s;have m:∀c,(⟨p,g,d,c,q⟩:iv).TypeIs (.ref i) "zip":=λ_=>⟨_,k,Y⟩
 have r:=adT;have t:=acm.lookup;have u:=acm.bind (.ref i);have w:=lu;have a:ł (.type "zip") "keys"=pure none:=adU (by kernel_rfl)
 unfold Ś ab2 ab0
 repeat (any_goals (first|assumption|exact m _ | ((with_reducible show nc _ _ (call (ab1 "zip.__getattribute__") _ _) _ _ _);refine Ğ acm (m _) ia (F.args_zip_getattribute_2 _ _) (eS i Q3 C6 "keys" _ a (by decide) (by decide)) ⟨k,n,λj c e f=>?_⟩)|wp_step))
 obtain⟨x,y,z⟩:=f.there
 show nc _ _ (aa_ _ _ _ _ _ _ _) _ _ _
 unfold aa_
 repeat (any_goals (first|assumption|wp_step))
 exact h _ _ λb o e=>f.keeps b o e
variable{B4 P0 R6 S u6 y2:f'}{Q6:Array g'}
section
variable{prog:W'}{w:T'}{A:Ä}{E:g'->iv->Prop}{s:iv}{K:Type}[DecidableEq K]{knd:KeyKind prog w K}
theorem pO{z}(O:A.handled=_n)(D:ĳ i S P0 y2 B4 u6 R6)(hz:IsZip s.heap i S P0 .none)(Z:jD s.heap i S P0 y2 B4 u6 R6 Q3 Q6 0)(U:PZ knd Q3 Q6 0 z)(hsz:z.length<=U')(h:∀k C,(∀c o,c≠i->c≠P0->c≠y2->c≠B4->s.heap.get? c=J o->k.get? c=J o)->k.DictOf knd s.heap.objs.size (z.foldl (λa p=>ė a p.1 p.2) [])->ψ (.ref s.heap.objs.size) {s with heap:=k,toks:=C}):
  nc (B' prog w) A (call (.type "dict") [.ref i]) ψ E s:=by
 refine acd (Q₁:=λl g=>l=.ref s.heap.objs.size/\g={s with heap:=s.heap.push {cls:=.type "dict",data:=.dict #[]} }) adZ (ad_ _) ad0 (ad1 _ ⟨Y,Y⟩) ?_
 rintro l g ⟨rfl,rfl⟩;have d:(s.heap.push {cls:=.type "dict",data:=.dict #[]}).DictOf knd s.heap.objs.size []:=abX s.heap;have m:IsZip (s.heap.push {cls:=.type "dict",data:=.dict #[]}) i S P0 .none:=Y' _ hz;refine⟨d.typeIs,ad2 _ _,?_⟩;unfold ù.«dict.__init__»;refine j' ?_;unfold afw;refine j' (ad3 d.typeIs ?_)
 show nc _ _ (pure (s.heap.objs.size,[Ë i])) _ _ _
 refine I' ?_
 show nc _ _ (ace "dict.__init__" s.heap.objs.size (.ref i) [] .none) _ _ _
 unfold ace;refine j' (ş (T:="zip") ⟨_,m,Y⟩ ?_);rw[if_pos (by decide)]
 refine j' (ur (ο:=A.in1.in1) m O λn C P=>?_)
 rw[if_pos (by decide)]
 refine j' (Ņ ?_);have f:∀b o,s.heap.get? b=J o->n.get? b=J o:=λb o e=>P b o (Y' _ e)
 refine j' (wpAny_pyIter_zip (s:={s with heap:=n,toks:=C}) (f _ _ hz) ?_);refine I' ⟨ğ bS _,?_⟩;have G:n.DictOf knd s.heap.objs.size []:=let ⟨o,es,ep,e,r⟩:=d;⟨o,es,ep,P _ o e,r⟩
 have j:∀{c o},s.heap.get? c=J o->c≠s.heap.objs.size:=λe=>X' (Q' e)
 obtain⟨st,Q,⟨a,b,R⟩,q,t,u,x⟩:=Z
 have V:i≠s.heap.objs.size/\S≠s.heap.objs.size/\P0≠s.heap.objs.size/\y2≠s.heap.objs.size/\B4≠s.heap.objs.size/\u6≠s.heap.objs.size/\R6≠s.heap.objs.size:=
  ⟨j hz,j Q,j R,(by obtain⟨o,e,_⟩:=q;exact j e),(by obtain⟨o,e,_⟩:=t;exact j e),(by obtain⟨o,e,_⟩:=u;exact j e),(by obtain⟨o,e,_⟩:=x;exact j e)⟩
 have X:jD n i S P0 y2 B4 u6 R6 Q3 Q6 0:=⟨.inl (f _ _ hz),f _ _ Q,⟨a,b,f _ _ R⟩,q.at λo e=>f _ o e,t.at λo e=>f _ o e,u.at λo e=>f _ o e,x.at λo e=>f _ o e⟩
 have H:=sk (A:=A.in1) (S5:=wants (λr y=>r=Ą/\ψ (Ë s.heap.objs.size) y) E) (knd:=knd) (z8:=s.heap.objs.size) O D V .none z 0 0 {s with heap:=n,toks:=C} [] U (by simpa using hsz) X G (λk I M N=>?_)
 .exact H
 .exact⟨Y,h k I (λc o c1 c2 c3 c4 e=>M c o (j e) c1 c2 c3 c4 (f _ _ e)) N⟩
end
theorem boot_zip:Ĉ "zip"=J (.type "zip"):=by decide +kernel
theorem KN{P w}:∀(ks:B Key) b a k xs c,Vals (ks.map kV) b->(∀i,xs[k+i]?=b[i]?)->(∀i,c[k+i]?=a[i]?)->PZ (bH P w) xs c k (ks.zip a)
 |[],b,a,k,xs,c,r,d,e=>by
  cases r;exact .inl (by simpa using d 0)
 |key::ks,b,a,k,xs,c,r,d,e=>by
  rw[Ù]at r;cases r with
  |@cons _ u _ b f g=>
   cases a with
   |nil=>exact .inr (by simpa using e 0)
   |cons v a=>exact⟨u,by simpa using d 0,by simpa using e 0,l_ f,KN ks b a (k+1) xs c g (λi=>by have:=d (i+1);rw[show k+(i+1)=k+1+i by omega]at this;simpa using this) (λi=>by have:=e (i+1);rw[show k+(i+1)=k+1+i by omega]at this;simpa using this)⟩
theorem CS:∀(ks:B Key) {a}{b},Vals a b->KV (ks.zip a) (ks.zip b)
 |[],_,_,_=>.nil
 |k::ks,_,_,.nil=>.nil
 |k::ks,_,_,.cons r t=>.cons ⟨Y,r⟩ (CS ks t)
variable{B5:B (Key×V)}
theorem Hz{d}(r:KV B5 d):∀c b,KV c b->KV (B5.foldl (λa p=>putK a p.1 p.2) c) (d.foldl (λa p=>ė a p.1 p.2) b):=by
 induction r with
 |nil=>intro c b e;exact e
 |@cons p q B5 d f _ g=>
  intro c b e;simp only[aa7];refine g _ _ ?_;rw[←f.1];exact e.put p.1 f.2
theorem uu:∀(c b:B (Key×V)),(c.foldl (λa p=>putK a p.1 p.2) b).length<=b.length+c.length
 |[],b=>by simp
 |p::c,b=>by
  have d:=uu c (putK b p.1 p.2);have e:=el b p.1 p.2;simp only[aa7,ċ];omega
variable{P b m:Nat}
theorem CU(a:m<b)(c:P<b):ĳ (b+4) (b+2) (b+3) b (b+1) m P:=by
 have k:∀{x y:Nat},x<y\/y<x->x≠y:=λh=>by omega
 constructor<;>exact k (by omega)
theorem sm(h:b<m):b≠m+P:=by omega
def MB(h:m<b)(e:P=b+5):=Þ (P' (P' h (à _ _)) (Á e.symm))
def CV(e:m=b+5):=N' (à _ _) (Á e.symm)
def tDZ(f:TA):TE:=λg H Q=>f g H λh c=>∃(a b:f') (d:B Key) (e:B V),h=[.ref a,.ref b]/\Rd c a (.l (d.map kV))/\Rd c b (.l e)/\∀p,c p=_n->Q (.ref p) (upd c p (.dK ((d.zip e).foldl (λa p=>putK a p.1 p.2) [])))
variable{E5 P1 T o:K'}{V3:TA}{c:Cx}{n ξ:p'}
theorem HD(hc:c.calm=_t)(hg:Gl c "dict")(hm:c.mg "dict"=_n)(z:Gl c "zip")(A:c.mg "zip"=_n)(ha:PA c [n,ξ] V3)(hs:D' [n,ξ] c.env=(_d,eval n c.env)::D' [ξ] c.env)(C:(À E5 (D' [ξ] c.env)).any (·.1)=_d):
  PE c (.Call (.Name "dict" o) [.Call (.Name "zip" T) [n,ξ] [] E5] [] P1) (tDZ V3):=by
 intro pins s σ H Q I h;refine ÿ (fj I hg hm Ϗ ?_ (by decide) (by decide))
 refine Ő ?_ Y Y
 show nc _ _ (Ů ((_d,eval (.Call (.Name "zip" T) [n,ξ] [] E5) c.env)::À P1 (D' [] c.env))) _ _ s
 refine ē ?_;refine ÿ (fj I z A boot_zip ?_ (by decide) (by decide))
 refine Ő (bO (ha E5 pins s σ H _ I h) λus s1 zq=>?_) hs C;obtain⟨vs,H1,l,r1,q1⟩:=zq
 obtain⟨V,X,m,Z,rfl,ra,rb,q⟩:=q1;cases r1 with
 |cons r E=>
  cases E with
  |cons r' E=>
   cases E;cases r;cases r';obtain⟨g,F,j,a0⟩:=l.list (.inl ra);obtain⟨f,t,k,u⟩:=l.list (.inl rb);refine call_zip_2 j.isList k.isList λy a1 a2 a3 a4 a5 G K=>?_
   refine Ĩ ?_;have p:∀{d b},s1.heap.get? d=J b->d<s1.heap.objs.size:=λe=>Q' e
   have n1:V<s1.heap.objs.size:=by obtain⟨b,e,_⟩:=j.isList;exact p e
   have n2:X<s1.heap.objs.size:=by obtain⟨b,e,_⟩:=k.isList;exact p e
   have D:ĳ (s1.heap.objs.size+4) (s1.heap.objs.size+2) (s1.heap.objs.size+3) s1.heap.objs.size (s1.heap.objs.size+1) V X:=CU n1 n2;have M:PZ (bH c.prog c.w) g.toArray f.toArray 0 (m.zip f):=KN m g f 0 _ _ F (λi=>by simp) (λi=>by simp)
   have N:=Vals.length t;have x:(m.zip f).length<=U':=by rw[acn];exact N' (N' (aco _ _) (Á N.symm)) u
   refine pO (knd:=bH c.prog c.w) (s:={s1 with heap:=y}) (l.ok.hd hc) D a1 ⟨.inl a1,a2,⟨_,_,a3⟩,a4,a5,j.isList.at λb e=>K _ b e,k.isList.at λb e=>K _ b e⟩ M x λh' tk hk dd=>?_
   have O:∀d b,s1.heap.get? d=J b->h'.get? d=J b:=λd b e=>by
    exact hk d b (sm (p e)) (sm (p e)) (sm (P:=0) (p e)) (sm (p e)) (K d b e)
   have R:=Hz (CS m t) [] [] .nil
   have hl:((m.zip Z).foldl (λn o=>putK n o.1 o.2) []).length<=U':=by
    have S:=uu (m.zip Z) [];rw[acn]at S;rw[acn]at x;simp at S;exact N' (N' S (aco _ _)) u
   have U:((y.objs.size:f')==ð)=false:=beq_eq_false_iff_ne.mpr (MB l.big G);exact⟨.ref y.objs.size,_,l.laid (a:=y.objs.size) O (CV G) (nW hl U R dd),Y,q _ (l.hok.fresh (CV G))⟩
variable{H:F'}{R:B (f'×Obj)}{e r0:Hp}{ν:St}
theorem Inv.laidN{s}(I:Inv c R ν e s)(k:∀a u,s.heap.get? a=J u->H.get? a=J u)(h:∀a,a<s.heap.objs.size->r0 a=e a)(ok:∀a u,s.heap.objs.size<=a->r0 a=J u->cu c.prog c.w r0 H a u):Inv c R ν r0 {s with heap:=H,toks:=b}:=by
 have g:∀a u,e a=J u->r0 a=J u:=λa u d=>(h a (I.hok.lt d)).trans d
 refine I.un ⟨λa u q _ _ _=>k a u q,λa u q _ _ _=>⟨u.slots,k a u q⟩,λa u q n _=>(h a (Q' q)).trans n,λa u q _=>⟨u,k a u q⟩,λa i q=>g _ _ q,λa u i q=>g _ _ q,λa l q=>⟨#[],by rw[g _ _ q];simp⟩⟩ λa u d=>?_
 by_cases j:a<s.heap.objs.size
 .exact(I.hok a u (by rw[←h a j];exact d)).stay (λf v _ q=>k f v q) (λf q=>g _ _ q) λf i q=>g _ _ q
 .exact ok a u (ϐ j) d
def kz(H:Hp):B (f'×B V)->Hp
 |[]=>H
 |p::r=>kz (upd H p.1 (.t p.2)) r
theorem qo:∀a {H}{b}{u},kz H a b=J u->H b=J u\/∃xs,(b,xs)∈a/\u=.t xs
 |[],_,_,_,h=>.inl h
 |p::r,H,b,u,h=>by
  rcases qo r h with h|⟨xs,d,e⟩
  .by_cases c:b=p.1
   .subst c
    rw[aD]at h;cases h
    exact .inr ⟨p.2,.head _,Y⟩
   .rw[av c]at h
    exact .inl h
  .exact .inr ⟨xs,.tail _ d,e⟩
theorem oo:∀a {H}{b},(∀p∈a,b≠p.1)->kz H a b=H b
 |[],_,_,_=>Y
 |p::r,H,b,h=>by
  rw[kz,oo r λq c=>h q (.tail _ c),av (h p (.head _))]
def XQ(Q:VK)(x:V)(d):=∃a b,x=.ref a/\Rd d a (.dK b)/\∀l c,c.map (·.2)=b.map (λe=>[kV e.1,e.2])->d l=_n->(∀p∈c,d p.1=_n/\l<p.1)->(c.map (·.1)).Pairwise (· < ·) ->
 Q (.ref l) (upd (kz d c) l (.l (c.map λp=>.ref p.1)))
theorem yk{α c:Type}:∀(as:B α) (bs:B c),as.length=bs.length->(as.zip bs).map (·.2)=bs/\(as.zip bs).map (·.1)=as
 |[],[],_=>⟨Y,Y⟩
 |a::as,b::bs,h=>by
  obtain⟨d,e⟩:=yk as bs (by simpa using h)
  simp[d,e]
theorem qq:∀(as:B f'),Vals (as.map V.ref) (as.map Ë)
 |[]=>.nil
 |a::as=>.cons Y (qq as)
variable{u0:TE}
theorem Az(hc:c.calm=_t)(hg:Gl c "list")(hm:c.mg "list"=_n)(m:ý n "items" c.env (eval n c.env)=eval n c.env)(p:(P1.endLine==E5.line)=_t)(ho:PE c n u0):
  PE c (.Call (.Name "list" o) [.Call (.Attribute n "items" P1) [] [] E5] [] T) (λO H Q=>u0 O H (XQ Q)):=by
 intro pins s O H Q I h;refine ÿ (fj I hg hm acp ?_ (by decide) (by decide))
 refine Ő ?_ Y Y
 show nc _ _ (Ů ((_d,eval (.Call (.Attribute n "items" P1) [] [] E5) c.env)::À T (D' [] c.env))) _ _ s
 refine ē ?_;refine aeg m p (bO (ho pins s O H _ I h) λv s1 ⟨x,H1,I1,r1,q1⟩=>?_)
 obtain⟨a,kvs,rfl,ha,q⟩:=q1;cases (show v=Ë a from r1)
 obtain⟨z,lo,P,C,R⟩:=iC I1.hok ha;have S:IsD H1 a:=.inl ⟨kvs,ha⟩;obtain⟨t1,t2,t3⟩:=v_ I1 S;refine⟨"dict","dict.items",aa8,ϑ,acq,t1,t2,ϰ Y (acr ?_)⟩;refine abW ϑ R.typeIs aeh (aei _) (aej (bH c.prog c.w) a lo) ⟨⟨P,R⟩,?_⟩;generalize r:s1.heap.push {cls:=.type "dict_items",data:=.fields #[.ref a]}=d;have k1:∀b n,s1.heap.get? b=J n->d.get? b=J n:=λb n e=>by rw[←r];exact Y' _ e
 have hv:d.IsItemsView s1.heap.objs.size a:=by rw[←r];exact⟨_,Ò _ Y,Y,Y⟩
 have g:d.objs.size=s1.heap.objs.size+1:=by rw[←r,ŵ]
 obtain⟨od,es,ep,d1,d2,d3,d4⟩:=R;have U:d.DictAt (bH c.prog c.w) a P ep:=⟨od,es,k1 a od d1,d2,d3,d4⟩;have hl:=C.length;refine Ĩ ?_;refine PySem.W.kdx_call (s:={s1 with heap:=d}) (knd:=bH c.prog c.w) (kvs:=P) (ep:=ep) (I1.ok.hd hc) hv U (N' (Á hl.symm) z) λh' tk X t as hk hS Z M D=>?_
 dsimp only at hk hS M ⊢;have a0:as.length=(kvs.map λi=>[kV i.1,i.2]).length:=by rw[ß];omega
 obtain⟨zs,E⟩:=yk as (kvs.map λi=>[kV i.1,i.2]) a0
 generalize b0:as.zip (kvs.map λi=>[kV i.1,i.2])=l at zs E
 have y:∀o∈l,d.objs.size<o.1:=λo A=>M.above o.1 (by rw[←E];exact aa9 A)
 have kp:∀b n,s1.heap.get? b=J n->h'.get? b=J n:=λb n e=>hk b n (k1 b n e)
 have G:l.map (λo=>V.ref o.1)=as.map V.ref:=by rw[←E,Ö];rfl
 refine⟨.ref d.objs.size,_,I1.laidN (r0:=upd (kz H1 l) d.objs.size (.l (l.map λo=>.ref o.1))) kp (λb N=>?_) (λb u N e=>?_),Y,q _ l zs (I1.hok.fresh (ó (Á g.symm))) (λo A=>⟨I1.hok.fresh (by have:=y o A;exact ó (Ó (Á g.symm) this)),y o A⟩) (by rw[E];exact M.rise)⟩
 .rw[av (X' (Ó N (Á g.symm))),oo l λo A=>X' (by have:=y o A;exact Ó (Ó N (Á g.symm)) this)]
 .by_cases K:b=d.objs.size
  .subst K
   rw[aD]at e;cases e
   exact⟨by rw[ß,←ß (f:=(·.1)) (as:=l),E];exact N' (N' (Á Z) (Á hl.symm)) z,X.toList,t,by rw[D,G];exact qq as,by simpa using hS⟩
  .rw[av K]at e
   rcases qo l e with e|⟨xs,c0,rfl⟩
   .rw[I1.hok.fresh N]at e;exact bD e
   .obtain⟨j,hj⟩:=ú.mp c0
    rw[←b0,List.getElem?_zip_eq_some]at hj;obtain⟨j1,j2⟩:=hj;rw[Ü]at j2;obtain⟨i,j3,j4⟩:=È.mp j2;obtain⟨d0,k,x,e1,e2,e3⟩:=M.pairs j b j1;obtain⟨q',h4,h5⟩:=d6 C j3;rw[e1]at h4;cases h4
    cases j4;exact⟨by rw[ą];simp,[d0,x],.cons (by rw[h5.1];exact ku e2) (.cons h5.2 .nil),_,e3,Y,_,Y⟩
noncomputable def tW(B:f'->Prop)[DecidablePred B](H:Hp):Hp:=λb=>if B b then (match H b with|J (.cX _ u)=>J u|x=>x)else H b
structure QS(B:f'->Prop)(H H':Hp):Prop where
 CW:∀b,B b->∃o kvs,H' b=J (.cX o (.dK kvs))
 was:∀b,B b->∃kvs,H b=J (.dK kvs)
section
variable{B:f'->Prop}[DecidablePred B]{H H':Hp}{b:f'}{o:Obj}{u:HO}{P:W'}{w:T'}{h h':F'}{fs ex:List f'}
theorem wk(a:B b)(q:H b=J (.cX o u)):tW B H b=J u:=by unfold tW;simp_all
theorem bU(a:¬ B b):tW B H b=H b:=by unfold tW;simp_all
theorem CY{x}(c:∀b,B b->∃o kvs,H b=J (.cX o (.dK kvs)))(q:H b=x)(a:∀o kvs,x≠J (.cX o (.dK kvs))):tW B H b=x:=by
 rw[bU,q];intro d;obtain⟨o,kvs,z⟩:=c b d;exact a o _ (q.symm.trans z)
theorem iK.mE(x:iK P w H h)(c:∀b,B b->∃o kvs,H b=J (.cX o (.dK kvs))):iK P w (tW B H) h:=λa i e=>by
 have f:∀b y,H b=J (.own y)->tW B H b=J _:=λb y q=>CY c q (λ_ _ z=>by cases z)
 have g:∀b j,H b=J _->tW B H b=J (.t j):=λb y q=>CY c q (λ_ _ z=>by cases z)
 by_cases d:B a
 .obtain⟨k,kvs,q⟩:=c a d
  rw[wk d q]at e;cases e;obtain⟨_,y⟩:=x a _ q;exact cu.stay y (λ_ _ _ z=>z) (λb q=>f b _ q) g
 .rw[bU d]at e
  exact(x a i e).stay (λ_ _ _ z=>z) (λb q=>f b _ q) g
theorem Un.mE(a:Un fs ex H H' h h')(t:QS B H H'):Un fs ex H (tW B H') h h' where
 keep:=a.keep
 slot:=a.slot
 free:=λb o e n d=>by
  rw[bU,a.free b o e n d];intro c;obtain⟨_,z⟩:=t.was b c;grind
 there:=a.there
 tups:=λb f e=>by
  rw[bU,a.tups b f e];intro c;obtain⟨_,z⟩:=t.was b c;simp_all
 fh:=λb o u e=>by
  rw[bU,a.fh b o u e];intro c;obtain⟨_,z⟩:=t.was b c;simp_all
 gu:=λb g e=>by
  rw[bU]
  .exact a.gu b g e
  intro c;obtain⟨_,z⟩:=t.was b c;simp_all
end
open Classical in
def spT(sp:Sp):Sp:=λb H Q E=>sp b H (λv a=>∃B,QS B H a/\Q v (tW B a)) E
open Classical in
theorem bt.mE{P w K a base CX k f b c sp}(F:bt P w K a base CX k f b c sp):
  bt P w K a base CX k f b c (spT sp):=
 ⟨λd H Q E q=>F.len _ _ _ _ q,λA outer s H args g d Q E h i j l m=>Ĕ (F.run A _ s H _ g d _ E h i j l m) λr C z=>by
  cases r with
  |error e=>exact z
  |ok f=>
   cases f with
   |ret u=>
    obtain⟨v,D,n,o,p,x,y,B,t,q⟩:=z;exact⟨v,_,n,o,p.mE t,x.mE t.CW,y,q⟩
   |_=>exact z⟩
section
variable{X:Cx}{pins:List (f'×Obj)}{σ σ':St}{H H':Hp}{s s':iv}{B:f'->Prop}[DecidablePred B]
theorem Inv.mE(I:Inv X pins σ H s)(J:Inv X pins σ' H' s')(t:QS B H H'):Inv X pins σ' (tW B H') s' where
 ok:=J.ok
 os:=J.os
 bare:=J.bare
 base:=by
  have d:=t.was;refine⟨J.base.keep,J.base.slot,λb o e n f=>?_,J.base.there,λb g e=>?_,λb o u e=>?_,λb h e=>?_⟩
  .rw[bU,J.base.free b o e n f]
   intro a;obtain⟨_,z⟩:=d b a;rw[I.base.free b o e n f]at z;exact bD z
  .rw[bU,J.base.tups b g e]
   intro a;obtain⟨_,z⟩:=d b a;rw[I.base.tups b g e]at z;cases z
  .rw[bU,J.base.fh b o u e]
   intro a;obtain⟨_,z⟩:=d b a;rw[I.base.fh b o u e]at z;cases z
  .rw[bU]
   .exact J.base.gu b h e
   intro a;obtain⟨_,z⟩:=d b a;obtain⟨_,y⟩:=I.base.gu b h e;simp_all
 loc:=J.loc
 cell:=J.cell
 free:=by
  rw[bU,J.free];intro a;obtain⟨_,_,z⟩:=t.CW _ a;rw[J.free]at z;exact bD z
 dE:=λx c e=>by
  rw[bU]
  .exact J.dE x c e
  .intro a
   obtain⟨o,i,z⟩:=t.CW _ a;obtain⟨v,oc,q,e2⟩:=J.cell x c e;obtain⟨r,_,_,w,_,A,C,D,e4,_,E,_⟩:=J.hok _ _ z
   simp_all
 pin:=λp j=>by
  obtain⟨k,l,m⟩:=J.pin p j;refine⟨k,?_,m⟩;rw[bU,l];intro a;obtain⟨_,_,z⟩:=t.CW _ a;simp_all
 hok:=J.hok.mE t.CW
 len:=J.len
end
open Classical in
theorem PS.mE{X st t}(h:PS X st t):PS X st (λE b H=>t {E with nx:=λa c=>∃B,QS B H c/\E.nx a (tW B c)} b H):=λpins s b H D I d=>bO (h _ s b H _ I d) λf e z=>by
 cases f with
 |next=>
  obtain⟨a,c,J,B,t,q⟩:=z;exact⟨_,_,I.mE J t,q⟩
 |_=>exact z
open PySem.W (clsIn findIn takerIn InstAt)
open PySem.Builtin.ObjectAttr
variable{L4:Unit->iv->Prop}{O:V}{d:L}{ζ:g'}
theorem CZ{s}(I:Inv c [(i,cf S _n B4)] ν e s)(T:iI c.K S P0 y2)(N:cZ c.K S d)(P:i∈c.ex\/c.s₀.heap.objs.size<=i)(t:∀x g,c.env.cells.lookup x=some g->g≠i)(u:∀p∈c.pn,p.1≠i)(r:RelV O ζ)(h:∀k E,e k=_n->k≠i->s.heap.objs.size<=k->Inv c [(i,cf S (some k) B4)] ν (upd e k (.xd [(d,O)])) E->L4 () E):nc (B' c.prog c.w) ο (Ϣ (.ref i) d ζ) L4 ψ s:=by
 refine aH T.cd λcd Q R U=>?_
 refine iA (I.pin (i,cf S _n B4) (by simp)) λF V y X p5=>?_
 have A:=I.hok.fresh (R' _);have l:=Þ (Q' F);refine Hl I.ej F Q R U T.sa N.taker λG Z g1 g2 g3=>h _ _ A l (R' _) ?_
 have I0:=I.yg;have keep:∀b o,b∉[i]->s.heap.get? b=some o->G.get? b=some o:=λb o j q=>g3 b o (by simpa using j) q
 have J:Inv c [] ν (upd e s.heap.objs.size (.xd [(d,O)])) {s with heap:=G,toks:=Z}:=by
  refine I0.step (ch:=[i]) (λb j=>?_) (λb o _ _ j q _=>keep b o j q) (λb o _ _ j q _=>⟨o.slots,keep b o j q⟩) (λb o j q C=>?_) (λb o j q=>⟨o,keep b o j q⟩) (λb xs q=>?_) (λb o H q=>?_) (λb ps q=>?_) (λm C=>?_) ?_ I.bare
  .rw[ï.mp j]
   exact⟨P,y,t,λp hp=>u p (by simpa using hp)⟩
  .rw[av (X' (Q' q))];exact C
  .rw[av (λz=>by grind)];exact q
  .rw[av (λz=>by simp_all)];exact q
  .exact⟨#[],by rw[av (λz=>by simp_all),q];simp⟩
  .refine ei C λo es ep e1 e2=>?_
   exact⟨o,es,ep,keep _ o (by simp[Í y]) e1,e2⟩
  .intro a o q
   by_cases M:a=s.heap.objs.size
   .subst M
    rw[aD]at q;cases q;refine⟨_,g2,λf=>?_⟩
    by_cases D:f=d
    .rw[D];simp[Ϧ];exact r
    .rw[if_neg D]
     have:(f==d)=false:=by simpa using D
     simp[Ϧ,this];exact trivial
   .rw[av M]at q
    refine(I.hok a o q).stay (λb H j n=>keep b H (λz=>?_) n) (λb n=>?_) λb xs n=>?_
    .simp_all
    .rw[av (λz=>by simp_all)];exact n
    .rw[av (λz=>by grind)];exact n
 exact J.Hm g1 (by rw[av (Í l)];exact V) y X (λO=>by simp[cf])
structure wm where
 fld:L
 ve:p'
 a1:K'
 a2:K'
 a3:K'
noncomputable def wm.st(a:L)(r:wm):O':=.Assign [.Attribute (.Name a r.a1) r.fld r.a2] r.ve r.a3
def qr(e b:f'):B (L×TE)->_o f'->B (L×V)->St->Hp->(_o f'->B (L×V)->Hp->Prop)->Prop
 |[],d,fs,_,H,Q=>Q d fs H
 | (f,g)::r,_n,_,σ,H,Q=>g σ H λv c=>∀a,c a=_n->a≠e->b<=a->qr e b r (J a) [(f,v)] σ (upd c a (.xd [(f,v)])) Q
 |_::_,J _,_,_,_,_=>False
def QU(X:Cx)(H:Hp):_o f'->B (L×V)->Prop
 |_n,fs=>fs=[]
 |J a,fs=>H a=J (.xd fs)/\X.s₀.heap.objs.size<=a
variable{V8:_o f'->B (L×V)->Hp->Prop}{X3:B O'}{g9:Ŏ->iv->Prop}{o7:wm}{y:iv}
theorem HE(T:iI c.K S P0 y2)(F:Av c i)(C:c.N[b]?=J d)(D:BL c.env.scope d)(f:ν[b]?=J (J (.ref i)))(g:(d==("__debug__"))=_d)(h:(d==("__classdict__"))=_d)(K:∀od s a t,Inv c [(i,cf S od B4)] ν a t->QU c a od s->V8 od s a->nc (B' c.prog c.w) c.A (ĺ X3 c.env) g9 c.xe t)(E:PE c o7.ve u0)(G:cZ c.K S o7.fld)(j:∀k,ì o7.ve (J (.Attribute (.Name d o7.a1) o7.fld o7.a2)) o7.a3.line k=pure _d)(I:Inv c [(i,cf S _n B4)] ν e y)(q:qr i c.s₀.heap.objs.size [(o7.fld,u0)] _n [] ν e V8):nc (B' c.prog c.w) c.A (ĺ (o7.st d::X3) c.env) g9 c.xe y:=by
 refine Ϟ (ade (?_) (j _));refine bO (E _ y ν e _ I q) λu1 Z m=>?_;refine aP m λv u H M O=>?_
 refine bO (rl (o:=o7.a1) C D g h _ _ _ u (λz a=>z=.ref i/\a=u) H ⟨.ref i,f,Y,Y⟩) λu2 s3 m=>?_;refine bT m λz H3 x P Q R=>?_
 subst Q R;cases (P);exact CZ x T G F.new F.cell F.pn M λU V n p r X=>have l:=N' x.sz r;K _ _ _ V X ⟨aD,l⟩ (O U n p l)
noncomputable def pP(a:L)(q:L×K'×K'):p':=.Attribute (.Name a q.2.1) q.1 q.2.2
theorem C3{X}{f:St}{H e C N y t a}{i:Nat}{l}(T:iI X.K C N y)(m:X.N[i]?=J a)(n:BL X.env.scope a)(b:f[i]?=J (J (.ref e)))(c:(a==("__debug__"))=_d)(d:(a==("__classdict__"))=_d){pos g}(o:H g=J (.xd l)):
  ∀(L:B (Str×K'×K')) s {Q},(∀q∈L,cZ X.K C q.1/\∃v,l.lookup q.1=J v)->Inv X [(e,cf C (J g) t)] f H s->(∀p r,p.length=L.length->Inv X [(e,cf C (J g) t)] f H r->Q p r) ->
   nc (B' X.prog X.w) X.A (Ů (À pos (D' (L.map (pP a)) X.env))) Q X.xe s
 |[],s,Q,_,I,h=>Ĩ (h [] s Y I)
 |q::L,s,Q,x,I,h=>by
  refine xa (x q (by simp)) λz j=>xe j λv D=>?_
  refine ē (rD Y (bO (rl m n c d _ _ f H (λw E=>w=.ref e/\E=H) I ⟨_,b,Y,Y⟩) λu U F=>?_));refine bT F λw Z k G M O=>?_
  subst M;rw[O]at k;cases (G);refine iA (k.pin (e,cf C (J g) t) (by simp)) λP _ _ _ _=>?_
  refine Hn k T z P Y Y Y o D λu ru R=>C3 T m n b c d o L _ (λS h'=>x S (by simp_all)) R (by simp_all)
variable{A5:B (L×V)}{C:L}{L5:_o f'}
theorem HF{pl}{L:List (Str×K'×K')}(I:Inv c [(i,cf S L5 B4)] ν e y)(F:Av c i)(a:iI c.K S P0 y2)(B:XBase c.K c.mg C u6)(st:QU c e L5 A5)(z:∀q∈L,cZ c.K S q.1/\∃v,A5.lookup q.1=J v)(j:L.length<=900)(D:c.N[b]?=J d)(E:BL c.env.scope d)(k:ν[b]?=J (J (.ref i)))(M:Gl c C)(G:eval (.Call (.Attribute (.Name C o) "__init__" P1) (.Name d T::L.map (pP d)) [] E5) c.env=(do
   let H ←eval (.Name C o) c.env
   û P1.atName
   let (f,first) ←ô [H] (Ď H "__init__" pl)
   ĕ E5 f first (À E5 (D' (.Name d T::L.map (pP d)) c.env)) (ö E5 (ø [] c.env))))(h:∀t' g,Inv c [(i,cf S L5 t')] ν e g->ψ .none g)(r:(C==("__debug__"))=_d)(l:(d==("__debug__"))=_d)(m:(d==("__classdict__"))=_d):
  nc (B' c.prog c.w) c.A (eval (.Call (.Attribute (.Name C o) "__init__" P1) (.Name d T::L.map (pP d)) [] E5) c.env) ψ c.xe y:=by
 refine ϩ (dM I M B.mg ?_ r) G;refine PySem.W.method_cls I.ej B.ga (PySem.W.cls_value I.ej B.rd B.ini (by rfl) ?_)
 have n:D' (.Name d T::L.map (pP d)) _=(_d,eval _ c.env)::D' _ _:=rfl;refine ϭ ?_ n ?_
 .refine ē (bO (rl D E l m _ _ ν e (λw O=>w=.ref i/\O=e) (I.tok (y.toks+1)) ⟨_,k,Y,Y⟩) λu s1 P=>?_);refine bT P λw Q R U V X=>?_
  subst V X;cases (U)
  have s:∀t g,t.length=L.length->Inv c [(i,cf S L5 B4)] ν Q g->nc (B' c.prog c.w) c.A (call _ (.ref i::t)) ψ c.xe g:=λt g x p=>by
   obtain⟨nm,q,bs,bm,sn,Z,ab,a0,b0,k0,k1,k2,k3,k5,hC,ot⟩:=a.ex;refine iA (p.pin (i,cf S L5 B4) (by simp)) λz1 _ _ _ _=>?_
   refine ě (pM aek (ot _ p.ej) (p.ej _ _ hC) z1 (by rw[ą];exact fc (N' (Á x) j)) λh' g1 g2 g3=>h _ _ (p.chE F g1 g3 (λv=>by simp[cf])))
  cases L5 with
  |none=>
   cases (st);cases L with
   |nil=>exact Ĩ (by simp_all)
   |cons q L=>grind
  |some dd=>exact C3 a D E k l m st.1 L _ z R s
 .clear n G z j
  induction L with
  |nil=>rfl
  |cons q L ih=>exact ih
structure qu(K:G')(mg:Str->_o g')(C N0 f c:f')(fd:Â)(st:O')(qual sf:Str)(ps:B Str)(rs:B wm):Prop where
 fn:∃x,tU K x qual st f fd
 cv:fd.code=.ref c
 sc:hY (sf::ps) (sf::ps) (ah st)
 cls:iI K C N0 f
 bs:Binds K fd (sf::ps) []
 na:∀r∈rs,cZ K C r.fld
 nd:(rs.map (·.fld)).Nodup
 sl:(ah st).names.lookup sf=J .local
 d1:(sf==("__debug__":Str))=_d
 d2:(sf==("__classdict__":Str))=_d
 ln:rs.length=1
 pl:ps.length<900
 body:∃(bn:Str) (B0:f') (L:B (Str×K'×K')) (p1 p2 p5 apos pos:K') (pl:Ã->ê Bool),XBase K mg bn B0/\(bn==("__debug__":Str))=_d/\(ah st).names.lookup bn=J .globalImplicit /\
  bg st=rs.map (wm.st sf)++[.Expr (.Call (.Attribute (.Name bn p1) "__init__" apos) (.Name sf p2::L.map (pP sf)) [] pos) p5]/\L.map (·.1)=rs.map (·.fld) /\
  (∀r∈rs,∀env,ì r.ve (J (.Attribute (.Name sf r.a1) r.fld r.a2)) r.a3.line env=pure _d) /\
  (∀env:Ã,eval (.Call (.Attribute (.Name bn p1) "__init__" apos) (.Name sf p2::L.map (pP sf)) [] pos) env=(do
   let ov ←eval (.Name bn p1) env
   û apos.atName
   let (f,first) ←ô [ov] (Ď ov "__init__" (pl env))
   ĕ pos f first (À pos (D' (.Name sf p2::L.map (pP sf)) env)) (ö pos (ø [] env))))
variable{A0:B g'}{G:G'}{S5:œ->iv->Prop}{X5:B Ã}{j0:Â}{l:B L}{η:B V}{θ:L->_o g'}{ω:O'}
theorem MC(D:qu G θ P0 y2 i S j0 ω d C l [o7])(b0:∀E,∃te,PE ((cz dZ M N G θ H (C::l) d (ah ω) i (.ref S) ο X5 y e E).k_.mk1 B4) o7.ve te /\
   qr B4 y.heap.objs.size [(o7.fld,te)] _n [] (start (C::l) (.ref B4::η)) e λod c O=>c.map (·.1)=[o7.fld]/\V8 od c O)(hr:bF (b+1) ο)(P:rH M N G θ H ο X5 y e)(hb:ĩ y j0 ⟨.ref B4::A0,[]⟩ ((C::l).zip (.ref B4::A0)))(Q:η.length=l.length)(rv:Vals η A0)(he:y.heap.get? B4=some (cf P0 _n u6))(c0:H.objs.size<=B4)(d0:e B4=_n)(R:B4∉frs X5)(h:∀od c f t' k,V8 od c f->(od=_n/\c=[]\/∃u,od=some u/\f u=some (.xd c)/\y.heap.objs.size<=u)->k.os=y.os->Č k.gens->Un (frs X5) [B4] e f y.heap k.heap->iK M N f k.heap ->
   k.heap.get? B4=some (cf P0 od t')->f B4=_n->S5 (.ok (.ret (.ref B4))) k):
  Û (B' M N) ο (.call (.ref i) ⟨.ref B4::A0,[]⟩) (abB B4 S5) y:=by
 obtain⟨x,F⟩:=D.fn;have f0:=D.cv;have a:=D.sc;have T:=D.cls;obtain⟨bn,B0,L,p1,p2,p5,apos,M0,pl,B,g0,hg,h0,U,i0,ht⟩:=D.body;refine xe F.ex λoc s=>xe s λod l0=>xe l0 λkV m0=>xe m0 λQ0 o0=>xe o0 λpm p0=>bj p0 λan r0 ct R0 t0 lk u0=>?_;subst t0
 obtain rfl:r0=.ref S:=f0;have KX:G.In y.heap:=P.mod.BW.keeps λg o B4=>(P.bs g o B4).1
 have v0:y.heap.NoLimit:=P.mod.nolimit.keeps λg o B4=>(P.bs g o B4).1
 refine abL hr.depth (KX _ _ lk) Y a.co a.gen Y (abM KX u0) (hb _ _ _ _ ?_)
 refine abN a.kind (λ⟨n,v⟩ hy=>by
  rcases a.par n (Ź hy).1 with q|q
  .exact .inl q
  .exact .inr ⟨q,ϫ _ _ _ (.inl q)⟩) λS0 w0 s1 x=>?_
 subst w0;refine⟨v0.keeps x.toInCall.keep,abO ?_⟩;have E:XK:=λ_ _ _=>False
 have I:Inv (cz dZ M N G θ H (C::l) d (ah ω) i (.ref S) ο X5 y e E) [] (start (C::l) (.ref B4::η)) e s1:=lj (A0:=.ref B4::A0) a hr.hd P (by simp[Q]) (.cons Y rv) x
 have V:=Q' he;have r:B4≠y.heap.objs.size:=X' V
 have Z:∀(j:Str) (cc:f'),(Ç d (ah ω) y.heap.objs.size i (.ref S)).cells.lookup j=some cc->cc≠B4:=λj cc hy z=>by
  have:=I.ok.cab j cc Y hy;rw[z]at this;exact absurd (P' V this) (ä _)
 have I1:=(I.wish (λ_ _=>False)).mk1 (e:=B4) Y r Z (λo q=>absurd (P' (Q' q) c0) (ä _)) R
 have I2:=I1.Hm (x.toInCall.keep _ _ he) d0 r R (λv=>by simp[cf])
 refine bN (b0 E) λte x0 y0=>?_
 have z0:nc (B' M N) (ο.deeper (Ç d (ah ω) y.heap.objs.size i (.ref S))) (ĺ (bg ω) (Ç d (ah ω) y.heap.objs.size i (.ref S)))
   (λfl k=>fl=.next/\∃od c f t',V8 od c f/\QU (cz dZ M N G θ H (C::l) d (ah ω) i (.ref S) ο X5 y e E) f od c/\Inv ((cz dZ M N G θ H (C::l) d (ah ω) i (.ref S) ο X5 y e E).k_.mk1 B4) [(B4,cf P0 od t')] (start (C::l) (.ref B4::η)) f k) (λ_ _=>False) s1:=by
  have C0:((cz dZ M N G θ H (C::l) d (ah ω) i (.ref S) ο X5 y e E).k_.mk1 B4).s₀=y:=rfl
  have D0:∀f od c,QU ((cz dZ M N G θ H (C::l) d (ah ω) i (.ref S) ο X5 y e E).k_.mk1 B4) f od c->QU (cz dZ M N G θ H (C::l) d (ah ω) i (.ref S) ο X5 y e E) f od c:=λf od c q=>by
   cases od with
   |none=>exact q
   |some u=>exact q
  generalize m:(cz dZ M N G θ H (C::l) d (ah ω) i (.ref S) ο X5 y e E).k_.mk1 B4=X at *;have xe:X.env=Ç d (ah ω) y.heap.objs.size i (.ref S):=by rw[←m];rfl
  have xN:X.N=C::l:=by rw[←m];rfl
  have xA:X.A=ο.deeper (Ç d (ah ω) y.heap.objs.size i (.ref S)):=by rw[←m];rfl
  have xK:X.K=G:=by rw[←m];rfl
  have xm:X.mg=θ:=by rw[←m];rfl
  have xp:X.prog=M:=by rw[←m];rfl
  have xw:X.w=N:=by rw[←m];rfl
  have xx:X.xe=λ_ _=>False:=by rw[←m];rfl
  have fr:Av X B4:=⟨.inl (by rw[←m];simp[Cx.mk1]),by rw[xe];exact Z,by rw[←m];intro p hp;cases hp⟩
  rw[←xA,←xe,←xp,←xw,←xx,h0];have na:=D.na;rw[←xK]at T B na;rw[←xm]at B;have hN:X.N[0]?=some C:=by rw[xN];rfl
  have hv:BL X.env.scope C:=.inl (by rw[xe];exact D.sl)
  have G0:Gl X bn:=by show X.env.scope.names.lookup bn=_;rw[xe];exact hg
  refine HE (V8:=λod c O=>c.map (·.1)=[o7.fld]/\V8 od c O) T fr hN hv Y D.d1 D.d2 (λod c O k J a0 q=>?_) x0 (na o7 (.head _)) (i0 o7 (.head _)) I2 (by rw[C0];exact y0)
  obtain⟨q1,q2⟩:=q;refine Ϟ (acV (HF J fr T B a0 (λq' I0=>?_) ?_ hN hv Y G0 (ht X.env) (λt' s5 J5=>?_) g0 D.d1 D.d2) J.quiet (by rfl))
  .have h1:q'.1∈[o7.fld]:=by
    rw[show [o7.fld]=L.map (·.1)from U.symm]
    exact aa9 I0
   rw[ï.mp h1];refine⟨na o7 (.head _),?_⟩;obtain⟨p,rfl⟩:=List.length_eq_one_iff.mp ((ß (as:=c) (·.1)).symm.trans (congrArg abI q1));rw[←(ael q1).1];exact⟨p.2,by simp[Ϧ]⟩
  .have:=congrArg abI U
   simp at this;exact fc (Á this)
  .exact Ļ ⟨Y,od,c,O,t',q2,D0 _ _ _ a0,J5⟩
 refine Ý z0 (λfl k hs=>?_) λ_ _ z=>z.elim
 refine xa hs λK0 s=>bj s λod c f t' q2 t J=>?_;subst K0
 refine iA (J.pin (B4,cf P0 od t') (by simp)) λg1 g2 _ _ _=>?_
 refine⟨Y,h od c f t' k q2 ?_ J.os J.bare J.base J.hok g1 g2⟩;cases od with
 |none=>exact .inl ⟨Y,t⟩
 |some u=>exact .inr ⟨u,Y,t.1,t.2⟩
theorem HG(D:qu c.K c.mg i S P0 y2 j0 ω d C l [o7])(I:Inv c R ν e y)(X:bF (b+2) c.A)(Z:Vals η A0)(m:η.length=l.length)(a0:∀j H,¬ V8 _n j H)(M:∀A k a E,bF b (A.deeper (Ç d (ah ω) k.heap.objs.size P0 (.ref y2)))->e a=_n->∃te,PE ((cz dZ c.prog c.w c.K c.mg c.base (C::l) d (ah ω) P0 (.ref y2) A c.stack k e E).k_.mk1 a) o7.ve te /\
   qr a k.heap.objs.size [(o7.fld,te)] _n [] (start (C::l) (.ref a::η)) e λod j H=>j.map (·.1)=[o7.fld]/\V8 od j H)(h:∀a s j t r k,V8 (J s) j r->Inv c R ν r k->k.heap.get? a=J (cf i (J s) t)->y.heap.objs.size<=a->r a=_n->r s=J (.xd j)->ψ (.ref a) k):
  nc (B' c.prog c.w) c.A (call (.ref i) A0) ψ c.xe y:=by
 obtain⟨nm,q,bs,bm,sn,b0,ab,c0,d0,k0,k1,k2,k3,k5,hC,ot⟩:=D.cls.ex;obtain⟨mN,hn,N⟩:=D.cls.ns _ I.ej;have u:∀f o,y.heap.get? f=J o->(ji _ i A0).get? f=J o:=λf o a=>Y' _ (Y' _ a)
 have I2:=I.kept (t':=y.toks) u;have x:=I.hok.fresh (Ā _);have g:∀f o,y.heap.get? f=J o->f≠y.heap.objs.size+1:=λf o q=>X' (aa' (Q' q))
 have G:=Z.length.symm.trans m;refine ě ?_;refine CD aek (ot _ I.ej) (I.ej _ _ hC) hn N (λself=>ac9 I.ej _ D.cls.fn) (by have:=D.pl;rw[ą];exact GD (â (Á G) this)) ?_
 refine MC D (λE=>M _ _ _ E ((X.make i A0 []).deeper _) x) (X.make i A0 []) (I2.env0.make i A0 []) (by have:=D.bs _ (.ref (y.heap.objs.size+1)::A0) I2.ej (by simp[G]);simp_all) m Z (by
  show(ji _ i A0).get? _=J ({cls:=.ref i,data:=.fields _})
  heap_get) ?_ x (λz=>by
  obtain⟨_,o,O,_⟩:=I.stack.mem z;exact g _ _ O Y) (λod j r t' k q2 P O Q p T g1 g2=>?_)
 .exact N' (N' I.ok.xZ I.sz) (Ā _)
 .rcases P with ⟨rfl,rfl⟩|⟨s,rfl,U,e0⟩
  .simp_all
  .exact h _ s j t' r k q2 (I.call' (z:=[]) O ⟨λf o a n V _=>p.keep f o (u f o a) n V (by simpa using g f o a),λf o a n V _=>p.slot f o (u f o a) n V (by simpa using g f o a),λf o a n _=>p.free f o (u f o a) n (by simpa using g f o a),λf o a _=>p.there f o (u f o a) (by simpa using g f o a),p.tups,p.fh,p.gu⟩ T Q (by simp)) g1 (Ā _) g2 U
def HH(f:TA)(Arg:B V->Hp->Prop)(AA:B V->Hp->_o f'->B (L×V)->Hp->Prop)(n:Nat)(C:f')(E:XK):TS:=λ_ g H=>f g H λa d=>a.length=n/\Arg a d/\∀e b c,AA a d (J c) e b->b c=J (.xd e)->E (.ref C) (J c) b
variable{D6 V1:L}{Y8:B V->Hp->Prop}{Z:B p'}{i0:B L}{o0:V'}{o3:XK}
theorem AB{AA}(D:qu G θ S P0 y2 B4 j0 ω C V1 i0 [o7])(hr:bF (b+2) (ο.deeper (Ç d o0 y.heap.objs.size i ζ)))(hg:Gl (cz (jK M N) M N G θ H l d o0 i ζ ο X5 y e o3) D6)(hm:θ D6=some (.ref S))(m:PA (cz (jK M N) M N G θ H l d o0 i ζ ο X5 y e o3) (n::Z) V3)(u:∀f c p w,¬ AA f c _n p w)(x:∀f c,Y8 f c->∀r z k a A,bF b (r.deeper (Ç C (ah ω) k.heap.objs.size y2 (.ref B4)))->c a=_n->∃te,PE ((cz dZ M N G θ H (V1::i0) C (ah ω) y2 (.ref B4) r z k c A).k_.mk1 a) o7.ve te /\
   qr a k.heap.objs.size [(o7.fld,te)] _n [] (start (V1::i0) (.ref a::f)) c λod p w=>p.map (·.1)=[o7.fld]/\AA f c od p w)(F:D' (n::Z) (Ç d o0 y.heap.objs.size i ζ)=(_d,eval n (Ç d o0 y.heap.objs.size i ζ))::D' Z (Ç d o0 y.heap.objs.size i ζ))(K:(À T (D' Z (Ç d o0 y.heap.objs.size i ζ))).any (·.1)=_d)(O:(D6==("__debug__"))=_d):
  PS (cz (jK M N) M N G θ H l d o0 i ζ ο X5 y e o3) (.Raise (some (.Call (.Name D6 o) (n::Z) [] T)) _n P1) (HH V3 Y8 AA i0.length S o3):=by
 intro pins s σ g Dn I h;obtain⟨nm,q,bs,bm,sn,P,ab,Q,R,k0,k1,k2,k3,k5,hC,z⟩:=D.cls.ex;refine Aw (i:=S) (d:=nm) (C:=q) (S:=P0) (A0:=bs) (E:=_t) (l:=sn) (v8:=P) (X2:=ab) (t8:=Q) (L5:=R) (T5:=k0) (m8:=k1) (n8:=k2) (o8:=k3) (p8:=k5) (o5:="ValueError.__new__") ((z _ I.ej).hasType (by rfl)) (I.ok.hd Y) ?_
 refine ÿ (dM I hg hm ?_ O);refine Ŀ I.ok.mod.BW D.cls.kp (bO (m _ _ s σ g _ I h) λus s1 zq=>?_) F K;refine bW zq λf c U r1 hl ha hq=>?_;refine⟨U.ej,?_⟩
 refine HG D U hr r1 hl (u f c) (λr k a A X he=>x f c ha r _ k a A X he) λa dd p t H2 k q2 J g1 g2 g3 g4=>⟨a,_,t,Y,J.ej _ _ hC,g1,CJ J Y Y Y g1 (N' U.sz g2) g3 λa0 j=>⟨a,S,dd,_,Y,j,by grind⟩⟩
variable{E4:Sp}
theorem C4{pl}(U:PE c n u0)(e:pG c.K i)(M:Meth c.K i d S)(F:bt c.prog c.w c.K c.mg c.base (jK c.prog c.w) b S j0 l E4)(X:bF b c.A)(hb:Binds c.K j0 l [])(hx:h8 c ν o3)(ha:PA c (ξ::Z) V3)(y:D' (ξ::Z) c.env=(_d,eval ξ c.env)::D' Z c.env)(z:(À T (D' Z c.env)).any (·.1)=_d)(ht:eval (.Call (.Attribute n d o) (ξ::Z) [] T) c.env=(do
   let N ←eval n c.env
   û o.atName
   let (S,first) ←ô [N] (Ď N d pl)
   ĕ T S first (À T (D' (ξ::Z) c.env)) (ö T (ø [] c.env)))):
  PE c (.Call (.Attribute n d o) (ξ::Z) [] T) (λg H Q=>g=ν/\u0 g H λx p=>∃a dx C,x=.ref a/\p a=J (.ins i dx C)/\C.lookup d=_n/\V3 g p λD t=>E4 (x::D) t Q o3):=by
 intro pins s g H Q I h;obtain⟨rfl,h⟩:=h;refine ϩ (bO (U _ s g H _ I h) λu s1 zq=>?_) ht;refine aP zq λx p O rx E=>bG E λa dx C ex ea f q=>?_
 subst ex;obtain rfl:u=Ë a:=rx;refine jJ O ea e M f ?_;refine Ŀ I.ok.mod.BW M.kp (bO (ha _ _ s1 g p _ O q) λus G  zf =>aP zf λD t j r P=>⟨j.ej,?_⟩) y z
 have R:Vals (V.ref a::D) _:=.cons Y r;have k:=hb G _ j.ej (by rw[Ć];exact(by rw[←R.length];exact F.len _ _ _ _ P))
 rw[Ć]at k;refine ě (Ĕ (F.run _ _ G t ⟨_,[]⟩ _ _ Q o3 X j.env0 k R P) λr s' m=>?_)
 cases r with
 |error ξ=>exact hx _ t G ξ s' j m
 |ok fl=>
  cases fl with
  |ret u=>exact j.after m
  |next=>exact è m
  |brk=>exact è m
  |cont=>exact è m
variable{R0:Obj}
theorem C5(I:Inv c R ν e y)(D:c.ex=[])(g:c.stack=c.env::c.outer)(j:c.env.frame=J c.env.locals)(M:y.heap.get? i=J R0)(hc:R0.cls=.ref S)(r:R0.dict=J P0)(k:R0.data=.fields Q3)(l:rZ y.heap Q3)(E:c.s₀.heap.objs.size<=i)(N:e i=_n)(h:∀G,nY c.prog c.w c.outer c.H₀ c.s₀ i S P0 e G->L4 () G):nc (B' c.prog c.w) c.A (Ϫ c.env (.ref i)) L4 ψ y:=by
 have m:=I.ok.frames;rw[g]at m;have H:=I.stack;rw[g]at H;refine qm m H j M k l λh' T F=>h _ ?_
 have s:∀b u,e b=J u->b∉frs _:=λb u q z=>by
  have:=I.ka b (by omega)
  grind
 have d:∀b o,c.s₀.heap.get? b=J o->b≠i/\b≠c.env.locals:=λb o q=>⟨λz=>by rw[z]at q;exact absurd (P' (Q' q) E) (by simp),λz=>by rw[z]at q;exact absurd (P' (Q' q) I.ok.above) (by simp)⟩
 refine⟨I.os,I.bare,⟨λb o q n f _=>?_,λb o q n f _=>?_,λb o q n _=>I.base.free b o q n (by simp_all),λb o q _=>?_,I.base.tups,I.base.fh,I.base.gu⟩,λa u q=>?_,E,N,?_⟩
 .exact F.keep b o (d b o q).1 ((λb o q f z=>by
  unfold frs at z;rw[ϝ,j]at z;rcases Ì.mp z with z|z
  .grind
  .exact f z) b o q f) (I.base.keep b o q n f (by rw[D];simp))
 .obtain⟨O,t⟩:=I.base.slot b o q n f (by rw[D];simp)
  obtain⟨x,K⟩:=F.slot b _ (d b o q).1 t
  simp_all
 .obtain⟨o',t⟩:=I.base.there b o q (by simp_all)
  obtain⟨x,K⟩:=F.slot b _ (d b o q).1 t;exact⟨_,K⟩
 .refine(I.hok a u q).stay (λb P f p=>F.keep b P (λz=>?_) ?_ p) (λb p=>p) λb xs p=>p
  .simp_all
  grind
 .refine aP F.tb λoT Q U V X=>?_
  have C:1<Q3.size:=by
   rcases l with z|⟨_,_,_,z,_⟩<;>exact(adR.mp z).1
  refine⟨_,_,F.at_,by rwa[ab8],?_,ń k _,.inr ⟨T,oT,Q,by simp[C],U,V,X⟩⟩
  obtain⟨oc,od,Z,O⟩:=R0;cases Z<;>exact r
theorem C_:
  Passes (jK M N) (cz (jK M N) M N G θ H l d o0 i ζ ο X5 y e o3) o3:=by
 rintro pins q f s a r I ⟨a,C,b,g,rfl,c,h⟩;refine bW c.obj λt u j k m n o=>?_
 exact C5 (I.call' c.os c.un c.hok c.bare (by simp)) Y Y Y j k m n o (N' I.sz c.new) c.free λp T=>⟨a,C,b,g,Y,T,h⟩
noncomputable def Dc(e:ŗ):=match e.key with
 |.str _ _=>_t
 |_=>_d
def Vc(K:G')(N:f')(b:L):_o (_o g'):=match K.lookup N with
 |J ⟨_,_,.dict a _,_⟩=>if a.toList.all Dc=_t then J (nsFind a b)else _n
 |_=>_n
variable{T5:_o g'}
theorem KO(h:Vc G i d=J T5)(b)(X:G.In b):∃mN,b.Ns i mN/\mN d=T5:=by
 unfold Vc at h;split at h
 .rename_i c a f n k g
  split at h
  .rename_i j
   cases h;refine⟨_,⟨_,f,n,X _ _ g,Y,λe l=>?_,λ_=>Y⟩,Y⟩
   have:=á.mp j e (by simp_all)
   unfold Dc at this
   grind
  .exact bD h
 .exact bD h
def uv(K:G'):B g'->Bool
 |.ref A::a=>(match K.lookup A with
  |J ⟨_,_,.cls b,_⟩=>Vc K b.ns "__init__"==J _n
  |_=>_d)&&uv K a
 |l=>l==rY
theorem ym{K}:∀{l},uv K l=_t->∀h,K.In h->ſ h rY l
 |[],e,h,X=>by simp[uv]at e
 |a::r,e,h,X=>by
  cases a with
  |ref A=>
   simp only[uv,Õ]at e;obtain⟨b,e2⟩:=e;split at b
   .rename_i c d j k f
    obtain⟨mN,g,i⟩:=KO (eq_of_beq b) h X;exact .own (X _ _ f) g i (ym e2 h X)
   .cases b
  |_=>rw[eq_of_beq (e)];exact .base
structure vJ(P:W')(w:T')(K:G')(mg:L->_o g')(base:F')(k:Nat)(f:f')(fd:Â)(ps:B L)(sp:Sp):Prop where
 len:∀vs H Q E,sp vs H Q E->vs.length=ps.length
 run:∀(A:Ä) (h:f') (outer:B Ã) (s:iv) (H:Hp) (args:Args) (us:B g') (vs:B V) (Q:VK) (E:XK),bF k A->rH P w K mg base A outer s H->ĩ s fd args (ps.zip us)->Vals vs us->sp vs H Q E ->
  Û (B' P w) (A.mark (J (.ref h))) (.call (.ref f) args) (CR dZ outer P w H s Q E) s
theorem vJ.mono{P w K a base j k f b c sp}(F:vJ P w K a base j f b c sp)(h:j<=k):vJ P w K a base k f b c sp:=
 ⟨F.len,λA x outer s H args d e Q E g=>F.run A x _ s H _ d e Q E (g.mono h)⟩
variable{Ξ:VK}
theorem HI(F:vJ c.prog c.w c.K c.mg c.base b i j0 l E4)(j:bF b c.A)(k:Binds c.K j0 l [])(I:Inv (c.jL S) R ν e y)(r:Vals η A0)(h:E4 η e Ξ o3):
  nc (B' c.prog c.w) (c.jL S).A (call (.ref i) A0) (EP (c.jL S) R ν Ξ) (c.jL S).xe y:=by
 have a:=I.env0;have d:=k y A0 I.ej (by rw[Ć,←r.length];exact F.len _ _ _ _ h)
 rw[Ć]at d;refine ě (Ĕ (F.run _ S _ y e ⟨A0,[]⟩ _ _ Ξ o3 j ⟨a.frames,a.mod,a.bs,a.xZ,a.iH,a.BN,a.hok,a.bare⟩ d r h) λr m f=>?_)
 cases r with
 |error g=>exact f.elim
 |ok fl=>
  cases fl with
  |ret u=>exact I.after f
  |next=>exact è f
  |brk=>exact è f
  |cont=>exact è f
theorem De(F:vJ c.prog c.w c.K c.mg c.base b i j0 l E4)(k:bF b c.A)(m:Gl c d)(p:c.mg d=J (.ref i))(t:Î c.K (.ref i)=_t)(u:Binds c.K j0 l [])(x:PA (c.jL S) (n::Z) V3)(a:(d==("__debug__"))=_d)(y:D' (n::Z) c.env=(_d,eval n c.env)::D' Z c.env)(e:(À T (D' Z c.env)).any (·.1)=_d):
  PE (c.jL S) (.Call (.Name d o) (n::Z) [] T) (λf H Q=>V3 f H λg h=>E4 g h Q o3):=by
 intro pins s f H Q I z;refine ÿ (dM I m p ?_ a);exact Ŀ I.ok.mod.BW t (bO (x _ _ s f H _ I z) λD E  C =>aP C λg h j r q=>⟨j.ej,HI (c:=c) F k u j r q⟩) y e
variable{R7 S6 U3 u7 v7:g'}{V6:_o f'}
theorem MD{params oc}(R:G.lookup i=some ⟨oc,V6,.func (í d C params X3 o0 ζ U3 S6 u7 L5 v7 R7),C6⟩)(D:Ĭ G v7 C=_t)(S:hY l i0 o0)(p:∀j a Q E,E4 j a Q E->j.length=i0.length)(k:∀A h outer s a j Q E,bF b (A.deeper (Ç C o0 s.heap.objs.size i v7))->E4 j a Q E ->
   ∃t,j6 ((cz dZ M N G θ H l C o0 i v7 A outer s a E).jL h) X3 t/\t {nx:=λ_ g=>Q .n g,rt:=Q} (start l j) a):
  vJ M N G θ H (b+1) i (í d C params X3 o0 ζ U3 S6 u7 L5 v7 R7) i0 E4:=by
 refine⟨p,λA h outer s a args us j Q E F w T r y=>?_⟩
 have P:=w.mod.BW.keeps λc o e=>(w.bs c o e).1
 have I:=w.mod.nolimit.keeps λc o e=>(w.bs c o e).1
 refine abL F.depth (P _ _ R) Y S.co S.gen Y (abM P D) (T _ _ _ _ ?_)
 refine abN S.kind (λ⟨n,v⟩ U=>by
  rcases S.par n (Ź U).1 with q|q
  .exact .inl q
  .exact .inr ⟨q,ϫ _ _ _ (.inl q)⟩) λX Z s1 x=>?_
 subst Z;refine⟨I.keeps x.toInCall.keep,abO ?_⟩;obtain⟨t,ht,hq⟩:=k A h _ s a j Q E (F.deeper _) y;refine Ý (ht [] s1 _ a _ (lj S F.hd w (p _ _ _ _ y) r x).jL hq) (λfl K m=>?_) λe K m=>m.elim
 have z:∀{f:St}{g:Hp}{v:V}{u:g'},Inv ((cz dZ M N G θ H l C o0 i v7 A _ s a E).jL h) [] f g K->RelV v u->Q v g->CE outer M N a s Q u K:=
  λ{f g v u} J O q=>⟨v,g,J.os,J.bare,J.base,J.hok,O,q⟩
 cases fl with
 |ret u=>
  refine cD m λv f g J O q=>z J O q
 |next=>
  obtain⟨f,g,J,q⟩:=m;exact z (v:=V.n) J Y q
 |brk=>
  obtain⟨_,_,_,q⟩:=m
  simp_all
 |cont=>
  obtain⟨_,_,_,q⟩:=m
  simp_all
end L2
namespace Mir
open PySem
set_option genInjectivity true in
inductive D where
 |n|bl (b:Bool)|int (i:Int)|str (x:L)
 |l (xs:List D)|t (xs:List D)|dct (ks:List L2.Key) (vs:List D)|ref (n:Nat)
 deriving Inhabited
set_option genInjectivity true in
inductive Out (α:Type) where
 |ok (a:α)|e (c:L) (fs:List (L×D))|b
noncomputable def Out.bind{α b}:Out α->(α->Out b)->Out b
 |.ok a,f=>f a
 |.e c fs,_=>.e c fs
 |.b,_=>.b
instance:Monad Out where
 pure:=.ok
 bind:=Out.bind
variable{B2 B8:Type}
@[simp] theorem Vd(a)(f:B2->Out B8):(Out.ok a >>= f)=f a:=rfl
set_option backward.match.sparseCases false in
mutual
noncomputable def d8:D->D->Bool
 |.n,.n=>_t
 |.bl a,.bl b=>a==b
 |.bl a,.int j=>(if a then 1 else 0)==j
 |.int i,.bl b=>i==(if b then 1 else 0)
 |.int i,.int j=>i==j
 |.str x,.str y=>x==y
 |.l c,.l d=>eT c d
 |.t c,.t d=>eT c d
 |_,_=>_d
noncomputable def eT:List D->List D->Bool
 |[],[]=>_t
 |x::a,y::b=>d8 x y&&eT a b
 |_,_=>_d
end
noncomputable def aI:Nat->D->Bool
 |_,.n|_,.bl _|_,.int _|_,.str _=>_t
 |n+1,.l a|n+1,.t a=>a.all (aI n)
 |_,_=>_d
noncomputable def small(n):=decide (n<=U')
def mF:D->_o Bool
 |.n=>J _d
 |.bl b=>J b
 |.int i=>J (i != 0)
 |.str x=>if small x.length then J (x.length != 0)else _n
 |.l a=>J (!a.isEmpty)
 |.t a=>J (!a.isEmpty)
 |_=>_n
abbrev Rs:=Bool×D
noncomputable def mG(i:Int):=decide (i.natAbs<18446744073709551616)
variable{Q:Int}
theorem uw(h:mG Q=_t): -(2 ^ 64)<Q/\Q<2 ^ 64:=by
 have:=of_decide_eq_true h;omega
noncomputable def i2(x y:D):_o {p:Int×Int // x=.int p.1/\y=.int p.2}:=match x,y with
 |.int a,.int b=>J ⟨(a,b),Y,Y⟩
 |_,_=>_n
def binI(a:Ē)(i j:Int):Out Rs:=match a with
 |.Add=>.ok (_d,.int (i+j))
 |.Sub=>.ok (_d,.int (i - j))
 |.Mult=>if mG i||mG j then .ok (_d,.int (i*j))else .b
 |.FloorDiv=>if decide (0<j)&&decide (j<1073741824)then .ok (_d,.int (i / j))else .b
 |.Mod=>if decide (0<j)then .ok (_d,.int (i%j))else .b
 |.Pow=>if decide (0<=j)&&decide (j<=1000)&&decide (i.natAbs<2 ^ 64)then .ok (_d,.int (i ^ j.toNat))else .b
 |_=>.b
def XR(x y:D):Out Rs:=match x with
 |.str a=>(match y with
  |.str b=>if small (a.length+b.length)then .ok (_d,.str (a++b))else .b
  |_=>.b)
 |.l a=>(match y with
  |.l b=>if small (a.length+b.length)then .ok (_t,.l (a++b))else .b
  |_=>.b)
 |_=>.b
def gx(a:Ē)(x y:D):Out Rs:=match i2 x y with
 |J p=>binI a p.1.1 p.1.2
 |_n=>match a with
  |.Add=>XR x y
  |_=>.b
noncomputable def oq(x y) := !(Ě y x 0 y.length 1).isEmpty
def inD(x y:D):Out Bool:=
 match x,y with
 |x,.l a=>if aI 8 x&&a.all (aI 8)then .ok (a.any λy=>d8 y x)else .b
 |x,.t a=>if aI 8 x&&a.all (aI 8)then .ok (a.any λy=>d8 y x)else .b
 |.str x,.str y=>.ok (oq x y)
 |_,_=>.b
noncomputable def isD(x y:D):Out Bool:=match y with
 |.n=>.ok (match x with|.n=>_t|_=>_d)
 |.bl b=>(match x with
  |.bl a=>.ok (a==b)
  |.dct _ _=>.b
  |.ref _=>.b
  |_=>.ok _d)
 |_=>.b
def gk(a:ñ)(x y:D):Out Bool:=
 match a,x,y with
 |.Eq,x,y=>if aI 8 x&&aI 8 y then .ok (d8 x y)else .b
 |.NotEq,x,y=>if aI 8 x&&aI 8 y then .ok (!d8 x y)else .b
 |.Lt,.int i,.int j=>.ok (decide (i<j))
 |.LtE,.int i,.int j=>.ok (decide (i<=j))
 |.Gt,.int i,.int j=>.ok (decide (j<i))
 |.GtE,.int i,.int j=>.ok (decide (j<=i))
 |.In,x,y=>inD x y
 |.NotIn,x,y=>do let b ←inD x y;.ok (!b)
 |.Is,x,y=>isD x y
 |.IsNot,x,y=>do let b ←isD x y;.ok (!b)
 |_,_,_=>.b
noncomputable def aY(c:Nat):Str:=⟨#[c]⟩
def wo(x y:D):Out Rs:=
 match x,y with
 |.l a,.int i=>match L2.ll a i with|J d=>.ok (_d,d)|_n=>.b
 |.t a,.int i=>match L2.ll a i with|J d=>.ok (_d,d)|_n=>.b
 |.str z,.int i=>if small z.length then (match L2.ll z.cps.toList i with|J c=>.ok (_d,.str (aY c))|_n=>.b)else .b
 |_,_=>.b
def eo{α:Type}(xs:B α)(a b:_o Int):=(xs.drop (HT.kj xs.length 0 a)).take (HT.kj xs.length xs.length b - HT.kj xs.length 0 a)
def Df(x:D)(a b:_o Int):Out Rs:=
 match x with
 |.l c=>.ok (_t,.l (eo c a b))
 |.str z=>if small z.length then .ok (_d,.str ⟨(eo z.cps.toList a b).toArray⟩)else .b
 |_=>.b
noncomputable def intsFrom(a:Int):Nat->B D
 |0=>[]
 |n+1=>.int a::intsFrom (a+1) n
noncomputable def wt(i:Int):=decide (i.natAbs<4611686018427387904)
theorem ou(h:wt Q=_t): -(2 ^ 62)<=Q/\Q<2 ^ 62:=by
 have:=of_decide_eq_true h;omega
noncomputable def fP(i:Nat):B D->B D
 |[]=>[]
 |d::a=>.t [.int i,d]::fP (i+1) a
inductive ly where
 |len|all|any|sorted|list|tuple|int|min|max|bool
 deriving DecidableEq
def gy:B D->_o (B Bool)
 |[]=>J []
 |d::r=>match mF d,gy r with|J b,J bs=>J (b::bs)|_,_=>_n
noncomputable def KP:B D->_o (B Int)
 |[]=>J []
 |.int i::r=>(KP r).map (i :: ·)
 |_=>_n
noncomputable def ux:B D->_o (B L)
 |[]=>J []
 |.str i::r=>(ux r).map (i :: ·)
 |_=>_n
noncomputable def QX(a b:L) := !decide (b.cps.toList<a.cps.toList)
def HJ(c:B D):Out (B D):=
 if 64<=c.length then .b else
 match KP c with
 |J d=>.ok ((d.mergeSort λa b=>decide (a<=b)).map .int)
 |_n=>match ux c with
  |J e=>.ok ((e.mergeSort QX).map .str)
  |_n=>.b
def jN(f:ly)(a:D):Out Rs:=
 match f,a with
 |.len,.t [.l b]=>.ok (_d,.int b.length)
 |.len,.t [.t b]=>.ok (_d,.int b.length)
 |.len,.t [.str z]=>if small z.length then .ok (_d,.int z.length)else .b
 |.all,.t [.l b]=>match gy b with|J bs=>.ok (_d,.bl (bs.all id))|_n=>.b
 |.any,.t [.l b]=>match gy b with|J bs=>.ok (_d,.bl (bs.any id))|_n=>.b
 |.sorted,.t [.l b]=>do let c ←HJ b;.ok (_t,.l c)
 |.list,.t [.l b]=>.ok (_t,.l b)
 |.list,.t [.t b]=>.ok (_t,.l b)
 |.tuple,.t [.l b]=>.ok (_d,.t b)
 |.tuple,.t [.t b]=>.ok (_d,.t b)
 |.int,.t [.int i]=>.ok (_d,.int i)
 |.int,.t [.bl k]=>.ok (_d,.int (if k then 1 else 0))
 |.min,.t [.int i,.int j]=>.ok (_d,.int (if j<i then j else i))
 |.max,.t [.int i,.int j]=>.ok (_d,.int (if j>i then j else i))
 |_,_=>.b
inductive Mth where
 |index|join
 deriving DecidableEq
def wu(m:Mth)(x:D)(a:D):Out Rs:=
 match m,x,a with
 |.index,.l b,.t [d]=>if aI 8 d&&b.all (aI 8)then (match b.findIdx? λy=>d8 y d with|J j=>.ok (_d,.int j)|_n=>.b)else .b
 |.index,.str z,.t [.str y]=>match Ě z y 0 z.length 1 with|i::_=>.ok (_d,.int i)|[]=>.b
 |.join,.str z,.t [.l c]=>match ux c with|J b=>if decide (z.length<=16)&&decide ((b.map (·.length)).sum+b.length<=1048576)then .ok (_d,.str (Txt.join z b))else .b|_n=>.b
 |_,_,_=>.b
inductive Ty where
 |int|str|bool|list|tuple|dict
 deriving DecidableEq
noncomputable def Dh:D->Ty->_o Bool
 |.n,_=>J _d
 |.bl _,t=>J (t==.bool||t==.int)
 |.int _,t=>J (t==.int)
 |.str _,t=>J (t==.str)
 |.l _,t=>J (t==.list)
 |.t _,t=>J (t==.tuple)
 |.dct _ _,t=>J (t==.dict)
 |.ref _,_=>_n
noncomputable def iD:D->Bool
 |.n|.bl _|.int _|.str _=>_t
 |_=>_d
noncomputable def fuel:=100000
def su{α:Type}(xs:B α)(i x):=let k:=HT.kj xs.length 0 (J i);xs.take k++x::xs.drop k
open PySem.Spec PyProof.Rows L2
mutual
noncomputable def Rep(Z:f'->Prop)(H:Hp):D->V->Prop
 |.n,v=>v=.n
 |.bl b,v=>v=.bl b
 |.int i,v=>v=.int i
 |.str x,v=>v=.str x
 |.l d,v=>∃a c,v=.ref a/\Z a/\Rd H a (.l c)/\aW Z H d c
 |.t d,v=>∃a c,v=.ref a/\Z a/\Rd H a (.t c)/\aW Z H d c
 |.dct e d,v=>∃a c,v=.ref a/\Z a/\H a=J (.dK (e.zip c))/\aW Z H d c
 |.ref _,_=>False
noncomputable def aW(Z:f'->Prop)(H:Hp):List D->List V->Prop
 |[],a=>a=[]
 |d::b,a=>∃v r,a=v::r/\Rep Z H d v/\aW Z H b r
end
variable{T2:HO}{e r0:Hp}{i:f'}
theorem sv(k:∀o,e i=J o->r0 i=J o)(h:Rd e i T2):Rd r0 i T2:=by
 rcases h with h|⟨o,h⟩
 .exact .inl (k _ h)
 .exact .inr ⟨o,k _ h⟩
mutual
theorem Rep.mono{Z i:f'->Prop}{H j:Hp}(k:∀a o,Z a->H a=J o->j a=J o)(z:∀a,Z a->i a):∀{d:D}{v:V},Rep Z H d v->Rep i j d v
 |.n,_,h=>by simpa only [Rep]using h
 |.bl _,_,h=>by simpa only [Rep]using h
 |.int _,_,h=>by simpa only [Rep]using h
 |.str _,_,h=>by simpa only [Rep]using h
 |.l l,v,h=>by
  simp only[Rep]at h ⊢;obtain⟨a,c,e,b,f,g⟩:=h;exact⟨a,c,e,z a b,sv (λo=>k a o b) f,aW.mono k z g⟩
 |.t l,v,h=>by
  simp only[Rep]at h ⊢;obtain⟨a,c,e,b,f,g⟩:=h;exact⟨a,c,e,z a b,sv (λo=>k a o b) f,aW.mono k z g⟩
 |.dct m l,v,h=>by
  simp only[Rep]at h ⊢;obtain⟨a,c,e,b,f,g⟩:=h;exact⟨a,c,e,z a b,k a _ b f,aW.mono k z g⟩
 |.ref _,_,h=>by simp only[Rep]at h
theorem aW.mono{Z f:f'->Prop}{H g:Hp}(k:∀a o,Z a->H a=J o->g a=J o)(z:∀a,Z a->f a):∀{b:List D}{c:List V},aW Z H b c->aW f g b c
 |[],_,h=>by simpa only [aW]using h
 |d::b,c,h=>by
  simp only[aW]at h ⊢;obtain⟨v,r,e,i,j⟩:=h;exact⟨v,r,e,Rep.mono k z i,aW.mono k z j⟩
end
theorem aW.length{Z H}:∀{a}{b},aW Z H a b->b.length=a.length
 |[],_,h=>by rw[h];rfl
 |d::a,_,h=>by
  refine aP h λv r e _ c=>?_
  rw[e,ċ,ċ,aW.length c]
theorem aW.get{Z H}:∀{a}{b}{i:Nat}{d},aW Z H a b->a[i]?=J d->∃v,b[i]?=J v/\Rep Z H d v
 |[],_,_,_,_,e=>by simp at e
 |d::a,_,0,_,h,e=>by
  obtain⟨v,r,rfl,f,_⟩:=h
  simp_all
 |d::a,_,i+1,g,h,e=>by
  obtain⟨v,r,rfl,_,c⟩:=h;obtain⟨u,j,k⟩:=aW.get c (by simpa using e)
  simp_all
theorem aW.append{Z H}:∀{a b}{c e},aW Z H a c->aW Z H b e->aW Z H (a++b) (c++e)
 |[],_,_,_,h,h'=>by rwa[h]
 |d::a,_,_,_,h,h'=>by
  obtain⟨v,r,rfl,f,g⟩:=h;exact⟨v,_,Y,f,aW.append g h'⟩
variable{v:f'->Prop}
theorem aW.nil:aW v e [] []:=by rfl
theorem aW.cons{Z H d b v a}(h:Rep Z H d v)(c:aW Z H b a):aW Z H (d::b) (v::a):=⟨v,a,Y,h,c⟩
variable{η:B V}
theorem aW.nil_inv(h:aW v e [] η):η=[]:=by simpa only [aW]using h
variable{h:D}{q:B D}
theorem aW.cons_inv(b:aW v e (h::q) η):∃a r,η=a::r/\Rep v e h a/\aW v e q r:=by simpa only [aW]using b
theorem aW.take{Z H}:∀{a}{b} n,aW Z H a b->aW Z H (a.take n) (b.take n)
 |_,_,0,_=>by simp only[List.take_zero,aW]
 |[],_,n+1,h=>by rw[h];simp only[List.take_nil,aW]
 |d::a,_,n+1,h=>by
  obtain⟨v,r,rfl,c,e⟩:=h.cons_inv;exact .cons c (aW.take n e)
theorem aW.drop{Z H}:∀{a}{b} n,aW Z H a b->aW Z H (a.drop n) (b.drop n)
 |_,_,0,h=>h
 |[],_,n+1,h=>by rw[h];simp only[List.drop_nil,aW]
 |d::a,_,n+1,h=>by
  obtain⟨v,r,rfl,e,c⟩:=h.cons_inv;exact aW.drop n c
def Now(Z:f'->Prop)(H:Hp)(d:D)(v:V):Prop:=
 match d with
 |.l c=>∃a b,v=.ref a/\Rd H a (.l b)/\aW Z H c b
 |d=>Rep Z H d v
variable{O:V}
theorem Rep.now(b:Rep v e h O):Now v e h O:=by
 cases h with
 |l f=>
  refine aP b λa d c _ b=>⟨a,d,c,b⟩
 |_=>exact b
structure fm(Z:f'->Prop)(H:Hp)(Z':f'->Prop)(H':Hp):Prop where
 same:nX H H'
 sub:∀a,Z a->Z' a
 new:∀a,Z' a->Z a\/H a=_n
 dom:∀a,Z' a->H' a≠_n
theorem fm.refl(d:∀a,v a->e a≠_n):fm v e v e:=⟨λ_ _ h=>h,λ_ h=>h,by grind,d⟩
theorem nX.laid{p o}(h:e p=_n):nX e (upd e p o):=λb u a=>by rwa[av (aS a h)]
theorem fm.laid{Z H p o}(d:∀a,Z a->H a≠_n)(h:H p=_n):fm Z H Z (upd H p o):=
 ⟨nX.laid h,λ_ h=>h,by grind,λa b=>by
  rw[av (λe=>d a b (by rwa[e]))]
  exact d a b⟩
def Zp(Z:f'->Prop)(p):=λa=>Z a\/a=p
def eU(e own)(Z:f'->Prop)(Hb H:Hp)(d v):=
 if own=_t then ∃a b c,d=.l c/\v=.ref a/\Hb a=_n/\¬ Z a/\H a=J (.l b)/\aW Z H c b
 else if e=_t then Now Z H d v else Rep Z H d v
variable{E:Bool}
theorem eU.own(a:e i=_n)(b:¬ v i)(c:r0 i=J (.l η))(d:aW v r0 q η):eU E _t v e r0 (.l q) (.ref i):=⟨i,η,q,Y,Y,a,b,c,d⟩
theorem eU.rep(a:Rep v r0 h O):eU E _d v e r0 h O:=by
 unfold eU;rw[if_neg (by simp)]
 split
 .exact a.now
 .exact a
theorem eU.now(b:eU _t E v e r0 h O):Now v r0 h O:=by
 unfold eU at b;split at b
 .obtain⟨a,c,g,rfl,rfl,_,_,d,f⟩:=b
  exact⟨a,c,Y,.inl d,f⟩
 simp_all
variable{E3 u0:TE}{c:Cx}{n:p'}
theorem PE.imp(h:PE c n u0)(i:∀a H Q,E3 a H Q->u0 a H Q):PE c n E3:=λpins s a H Q I q=>h _ s a H Q I (i a H Q q)
theorem ow{α d}{x:Out α}{f}{b:d}(h:(x >>= f)=.ok b):∃a,x=.ok a/\f a=.ok b:=by
 cases x with
 |ok a=>simp_all
 |e c e=>cases h
 |b=>cases h
variable{b:Nat}
def bA(h:small b=_t):=of_decide_eq_true h
noncomputable def kB:D->_o V
 |.n=>J .n
 |.bl b=>J (.bl b)
 |.int i=>J (.int i)
 |.str x=>J (.str x)
 |_=>_n
theorem gz(a:kB h=J O):Rep v e h O:=by
 cases h<;>first|cases a;simp only[Rep]|exact bD a
theorem ib(h:Now v e .n O):O=.n:=by simpa only [Now,Rep]using h
theorem cU(h:Now v e (.int Q) O):O=.int Q:=by simpa only [Now,Rep]using h
theorem iP(h:Now v e (.bl E) O):O=.bl E:=by simpa only [Now,Rep]using h
variable{d:L}
theorem de(h:Now v e (.str d) O):O=.str d:=by simpa only [Now,Rep]using h
theorem cV(h:Now v e (.l q) O):∃a b,O=.ref a/\Rd e a (.l b)/\aW v e q b:=h
theorem ic(h:Now v e (.t q) O):∃a b,O=.ref a/\v a/\Rd e a (.t b)/\aW v e q b:=by simpa only [Now,Rep]using h
variable{G:G'}
theorem mS(h:Rd e i (.l η)):mP G e i η:=.inl h
theorem vK(h:Rd e i (.t η)):vR G e i η:=.inl h
variable{Ξ:VK}
def HK(c:∀a,v a->e a≠_n)(h:aW v e q η)(k:∀b f g,fm v e g f->eU E _t g e f (.l q) b->Ξ b f):=λp d=>
 k _ _ v (fm.laid c d) (.own d (λz=>c p z d) aD (h.mono (λa o _=>nX.laid d a o) λ_ z=>z))
def QY:R2:=λx y H Q=>∃l b a zs,x=.ref l/\y=.ref b/\Rd H l (.l a)/\Rd H b (.l zs)/\a.length+zs.length<=U'/\∀p,H p=_n->Q (.ref p) (upd H p (.l (a++zs)))
def HL(a:Ē):R2:=λx y H Q=>match a with
 |.Add=>(∃i j,x=.int i/\y=.int j/\Q (.int (i+j)) H)\/(∃i j,x=.str i/\y=.str j/\i.length+j.length<=U'/\Q (.str (i++j)) H)\/QY x y H Q
 |.Sub=>∃i j,x=.int i/\y=.int j/\Q (.int (i - j)) H
 |.Mult=>∃i j,x=.int i/\y=.int j/\Mh i j/\Q (.int (i*j)) H
 |.FloorDiv=>∃i j,x=.int i/\y=.int j/\Qs i j/\Q (.int (i / j)) H
 |.Mod=>∃i j,x=.int i/\y=.int j/\0<j/\Q (.int (i%j)) H
 |.Pow=>∃i j,x=.int i/\y=.int j/\XE i j/\Q (.int (i ^ j.toNat)) H
 |_=>False
theorem Di(g):ki c (Œ g) (HL g):=by
 cases g with
 |Add=>exact Mi.or (vY.or (by
   intro pins s D H x y v u Q I o p h;refine bu h λl b k zs i j t w E q=>?_;subst i;subst j
   cases o;cases p;obtain⟨z,a,n,r,e⟩:k.length<=U'/\∃(a:B _) (n:Nat),Vals k _/\s.heap.get? l=J _:=Rd.ok t I.hok;obtain⟨F,d,G,m,e2⟩:zs.length<=U'/\∃(a:B _) (n:Nat),Vals zs _/\s.heap.get? b=J _:=Rd.ok w I.hok;have K:=r.length;have A:=m.length;refine PySem.P.add_list e e2 ?_ (by grind)
   have C:a.toArray++d.toArray=(a++d).toArray:=by simp
   rw[C];exact⟨.ref _,_,I.XN (r.append m) (by grind),Y,q _ I.fresh⟩))
 |Sub=>exact Qr λ_ _ _ _ _ _ _ q=>sub_int q
 |Mult=>exact U_ λ_ _ _ _ _ _ _ f q=>mul_int q f.ok
 |FloorDiv=>exact GO
 |Mod=>exact Mj
 |Pow=>exact U_ λ_ _ _ _ _ _ _ f q=>pow_int_small f.1 f.2.1 f.2.2 q
 |_=>exact λ_ _ _ _ _ _ _ _ _ _ _ _ h=>h.elim
variable{U4:Prop}
theorem tY{z:B2}(h:Out.b=.ok z):U4:=nomatch h
theorem KQ{α z}{y:Out α}(h:(if E=_t then y else .b)=.ok z)(K:E=_t->y=.ok z->U4):U4:=by
 cases E
 .exact tY h
 .exact K Y h
variable{D3:V}{X2:Bool}{X4 ε:D}{u8:Ē}
theorem ME(o:Now v e h O)(r:Now v e ε D3)(n:∀a,v a->e a≠_n)(c:gx u8 h ε=.ok (X2,X4))(k:∀d s t,fm v e t s->eU E X2 t e s X4 d->Ξ d s):HL u8 O D3 e Ξ:=by
 have f:∀{u:D}{d:V},kB u=J d->Out.ok (_d,u)=Out.ok (X2,X4)->Ξ d e:=λy q=>by
  cases q;exact k _ e v (fm.refl n) (.rep (gz y))
 unfold gx at c;split at c
 .rename_i p _
  obtain⟨⟨i,j⟩,rfl,rfl⟩:=p;cases cU o;cases cU r;cases u8 with
  |Add=>exact .inl ⟨_,_,Y,Y,f Y c⟩
  |Sub=>exact⟨_,_,Y,Y,f Y c⟩
  |Mult=>exact KQ c λg c=>⟨_,_,Y,Y,(Bool.or_eq_true_iff.mp g).imp uw uw,f Y c⟩
  |FloorDiv=>exact KQ c λg c=>⟨_,_,Y,Y,⟨of_decide_eq_true (bL g),of_decide_eq_true (bR g)⟩,f Y c⟩
  |Mod=>exact KQ c λg c=>⟨_,_,Y,Y,of_decide_eq_true g,f Y c⟩
  |Pow=>exact KQ c λg c=>⟨_,_,Y,Y,⟨of_decide_eq_true (bL (bL g)),Int.le_trans (of_decide_eq_true (bR (bL g))) (show(1000:Int)<=1000000 by decide),of_decide_eq_true (bR g)⟩,f Y c⟩
  |_=>exact tY c
 .split at c
  .cases h with
   |str a=>
    cases ε with
    |str b=>
     cases de o;cases de r;exact KQ c λg c=>.inr (.inl ⟨_,_,Y,Y,bA g,f Y c⟩)
    |_=>exact tY c
   |l a=>
    cases ε with
    |l b=>
     refine xe (cV o) λl z=>aH z λA C F w=>?_
     refine xe (cV r) λm z=>aH z λzs G H x=>?_
     refine KQ c λg c=>?_
     cases c;exact .inr (.inr ⟨l,m,A,zs,C,G,F,H,by rw[w.length,x.length];exact(bA g),HK n (w.append x) k⟩)
    |_=>exact tY c
   |_=>exact tY c
  .exact tY c
theorem sx{b}(d:∀o w,T2≠.cX o w)(c:∀o w,b≠.cX o w)(h:Rd e i T2)(a:Rd e i b):T2=b:=by
 rcases h with h|⟨o,h⟩<;>rcases a with a|⟨f,a⟩<;>rw[h]at a<;>injection a with aaL
 .grind
 .grind
 grind
variable{N5:B V}
theorem wx(h:Rd e i (.l η))(a:Rd e i (.l N5)):η=N5:=by
 injection (sx (λ_ _ z=>by cases z) (λ_ _ z=>by cases z) h a)
theorem wy(h:Rd e i (.t η))(a:Rd e i (.t N5)):η=N5:=by
 injection (sx (λ_ _ z=>by cases z) (λ_ _ z=>by cases z) h a)
theorem qv(h:Rd e i (.l η))(a:Rd e i (.t N5)):False:=by
 cases (sx (λ_ _ z=>by cases z) (λ_ _ z=>by cases z) h a)
mutual
theorem Rep.uniq{Z:f'->Prop}{H:Hp}:∀(n:Nat) (d c:D) (v:V),aI n d=_t->aI n c=_t->Rep Z H d v->Rep Z H c v->d=c
 |n,.l k,c,v,o,f,h,h'=>by
  simp only[Rep]at h;obtain⟨a,l,rfl,_,i,m⟩:=h;cases c<;>simp only[Rep]at h'
  case l ys=>
   obtain⟨b,p,e,_,g,j⟩:=h';cases e;cases wx i g;cases n with
   |zero=>cases o
   |succ n=>rw[aW.uniq n k ys l (á.mp o) (á.mp f) m j]
  case t ys=>
   obtain⟨b,p,e,_,g,j⟩:=h';cases e;exact(qv i g).elim
  case dct ks ys=>cases n<;>cases f
  all_goals cases h'
 |n,.t k,c,v,o,f,h,h'=>by
  simp only[Rep]at h;obtain⟨a,l,rfl,_,i,m⟩:=h;cases c<;>simp only[Rep]at h'
  case t ys=>
   obtain⟨b,p,e,_,g,j⟩:=h';cases e;cases wy i g;cases n with
   |zero=>cases o
   |succ n=>rw[aW.uniq n k ys l (á.mp o) (á.mp f) m j]
  case l ys=>
   obtain⟨b,p,e,_,g,j⟩:=h';cases e;exact(qv g i).elim
  case dct ks ys=>cases n<;>cases f
  all_goals cases h'
 |n,.dct ks k,_,_,o,_,_,_=>by cases n<;>cases o
 |n,.ref _,_,_,_,_,h,_=>by simp only[Rep]at h
 |n,.n,c,v,_,f,h,h'=>by
  simp only[Rep]at h;subst h
  cases c<;>simp only[Rep]at h'<;>first|rfl | (obtain⟨_,_,e,_⟩:=h';cases e;done) | (cases h';done)
 |n,.bl b,c,v,_,f,h,h'=>by
  simp only[Rep]at h;subst h
  cases c<;>simp only[Rep]at h'<;>first | (obtain⟨_,_,e,_⟩:=h';cases e;done) | (cases h';rfl) | (cases h';done)
 |n,.int b,c,v,_,f,h,h'=>by
  simp only[Rep]at h;subst h
  cases c<;>simp only[Rep]at h'<;>first | (obtain⟨_,_,e,_⟩:=h';cases e;done) | (cases h';rfl) | (cases h';done)
 |n,.str b,c,v,_,f,h,h'=>by
  simp only[Rep]at h;subst h
  cases c<;>simp only[Rep]at h'<;>first | (obtain⟨_,_,e,_⟩:=h';cases e;done) | (cases h';rfl) | (cases h';done)
theorem aW.uniq{Z:f'->Prop}{H:Hp}:∀(n:Nat) (xs a:List D) (b:List V),(∀x∈xs,aI n x=_t)->(∀x∈a,aI n x=_t)->aW Z H xs b->aW Z H a b->xs=a
 |n,[],a,b,_,_,h,h'=>by
  rw[h.nil_inv]at h';cases a with
  |nil=>rfl
  |cons y a=>obtain⟨_,_,e,_⟩:=h'.cons_inv;cases e
 |n,x::xs,a,b,o,d,h,h'=>by
  obtain⟨v,r,rfl,f,g⟩:=h.cons_inv;cases a with
  |nil=>exact absurd h'.nil_inv (by simp)
  |cons y a=>
   obtain⟨w,k,e,i,j⟩:=h'.cons_inv;cases e;rw[Rep.uniq n x y v (o x (by simp)) (d y (by simp)) f i,aW.uniq n xs a r (λz c=>o z (by simp[c])) (λz c=>d z (by simp[c])) g j]
end
mutual
theorem oy:∀(n:Nat) (d:D),aI n d=_t->d8 d d=_t
 |n,.l a,o=>by
  cases n with
  |zero=>cases o
  |succ n=>exact gA n a (á.mp o)
 |n,.t a,o=>by
  cases n with
  |zero=>cases o
  |succ n=>exact gA n a (á.mp o)
 |n,.dct _ _,o=>by cases n<;>cases o
 |n,.ref _,o=>by cases n<;>cases o
 |n,.n,_=>Y
 |n,.bl _,_=>beq_self_eq_true (α:=Bool) _
 |n,.int _,_=>beq_self_eq_true (α:=Int) _
 |n,.str _,_=>beq_self_eq_true (α:=L) _
theorem gA:∀(n:Nat) (xs:List D),(∀x∈xs,aI n x=_t)->eT xs xs=_t
 |n,[],_=>Y
 |n,x::xs,o=>by
  simp only[eT,oy n x (o x (by simp)),gA n xs λz hz=>o z (by simp[hz]),aem]
end
theorem ft:∀xs a,((É (min xs.length a.length)).all (λj=>d8 (xs.getD j .n) (a.getD j .n))&&(xs.length==a.length))=eT xs a
 |[],[]=>Y
 |[],_::_=>Y
 |_::_,[]=>Y
 |x::xs,y::a=>by
  have b:min (x::xs).length (y::a).length=min xs.length a.length+1:=by simp
  rw[b,acs,eT,←(ft xs a)];simp[aen,Bool.and_assoc]
variable{P4:B D}
theorem uy(h:q.length=P4.length):(É q.length).all (λj=>d8 (q.getD j .n) (P4.getD j .n))=eT q P4:=by
 have e:=ft q P4
 simp_all
theorem yn(h:q.length≠P4.length):eT q P4=false:=by
 rw[←ft q P4];simp[h]
inductive Vw (s:iv) (Z:f'->Prop) (H:Hp):D->g'->Prop where
 |n:Vw s Z H .n .none
 |bl (b:Bool):Vw s Z H (.bl b) (.bool b)
 |int (i:Int) (t:ã):Vw s Z H (.int i) (.int i t)
 |str (x:L) (t:ã):Vw s Z H (.str x) (.str x t)
 |l {l:f'}{its:List g'}{vs:List V}{ds:List D}:s.heap.IsList l its.toArray->Vals vs its->Rd H l (.l vs)/\aW Z H ds vs->Vw s Z H (.l ds) (.ref l)
 |t {l:f'}{its:List g'}{vs:List V}{ds:List D}:s.heap.IsTuple l its.toArray->Vals vs its->Rd H l (.t vs)/\aW Z H ds vs->Vw s Z H (.t ds) (.ref l)
variable{A2:L2.St}{R:B (f'×Obj)}{y:iv}{ζ:g'}
theorem fQ(I:Inv c R A2 e y)(f:Now v e h O)(r:RelV O ζ)(o:aI b h=_t):Vw y v e h ζ:=by
 cases h with
 |n=>cases ib f;cases r;exact .n
 |bl d=>cases iP f;cases r;exact .bl d
 |int d=>cases cU f;obtain⟨t,rfl⟩:=r;exact .int d t
 |str d=>cases de f;obtain⟨t,rfl⟩:=r;exact .str d t
 |l m=>
  obtain⟨a,n,rfl,g,i⟩:=cV f;cases r;obtain⟨j,l,p,q⟩:=I.list (mS g);exact .l p.isList l ⟨g,i⟩
 |t m=>
  obtain⟨a,n,rfl,_,g,i⟩:=ic f;cases r;obtain⟨j,l,p,q⟩:=I.tuple (vK g);exact .t p l ⟨g,i⟩
 |dct s m=>cases b<;>cases o
 |ref k=>cases b<;>cases o
variable{A0:B g'}
theorem sy(r:Vals η A0)(c):∃v,η[b]?=J v/\RelV v A0[b]:=by
 have d:=r.length;have a:η[b]?=J η[b]:=by simp
 obtain⟨u,e,f⟩:=r.get a
 simp_all
variable{V5:B g'}{ο:Ä}
theorem kC(I:Inv c R A2 e y)(r:∀ο dx f u w,ο.units+b<Æ->aI b dx=_t->aI b f=_t->Vw y v e dx u->Vw y v e f w->ĵ ο y u w (d8 dx f))(ox:∀x∈q,aI b x=_t)(s:∀x∈P4,aI b x=_t)(F:ο.units+(b+1)<Æ)(i:Vals η A0)(k:Vals N5 V5)(pl:aW v e q η)(l:aW v e P4 N5):
  ∀j m (n:j<V5.toArray.size),ĵ ο.in1 y A0.toArray[j] V5.toArray[j] (d8 (q.getD j .n) (P4.getD j .n)):=by
 intro j m n;have G:=i.length;have H:=k.length;have K:=pl.length;have M:=l.length;obtain⟨g,t,z⟩:=sy i m;obtain⟨w,A,h⟩:=sy k n;have o:q[j]?=J (q.getD j .n):=by grind
 have e2:P4[j]?=J (P4.getD j .n):=by grind
 obtain⟨N,a,C⟩:=pl.get o;obtain⟨O,d,E⟩:=l.get e2;rw[t]at a;cases a
 rw[A]at d;cases d
 have p:=ox _ (Å o);have o2:=s _ (Å e2);exact r _ _ _ _ _ (by grind) p o2 (fQ I C.now z p) (fQ I E.now h o2)
variable{U3:g'}
theorem Dj(f:Vw y v e h ζ)(i:Vw y v e ε U3)(ox:aI b h=_t)(g:aI b ε=_t)(c:aeo ο y ζ U3 (d8 h ε)):ĵ ο y ζ U3 (d8 h ε):=by
 by_cases a:ζ=U3
 .subst a
  have:d8 h ε=true:=by
   cases f<;>cases i
   case l.l pl _ _ _ _ _ pm=>
    cases b with
    |zero=>cases ox
    |succ b=>
     cases wx pl.1 pm.1;cases aW.uniq b _ _ _ (á.mp ox) (á.mp g) pl.2 pm.2
     exact gA b _ (á.mp ox)
   case t.t pl _ _ _ _ _ pm=>
    cases b with
    |zero=>cases ox
    |succ b=>
     cases wy pl.1 pm.1;cases aW.uniq b _ _ _ (á.mp ox) (á.mp g) pl.2 pm.2
     exact gA b _ (á.mp ox)
   case l.t pl _ _ _ _ _ pm=>exact(qv pl.1 pm.1).elim
   case t.l pl _ _ _ _ _ pm=>exact(qv pm.1 pl.1).elim
   all_goals first|rfl|exact beq_self_eq_true _
  rw[this];exact aep _
 .intro prog j E Q k
  unfold eqBool;refine î (aci (λd=>absurd (eq_of_beq d) a) λ_=>?_)
  cases f<;>exact j' (c prog j E _ (ħ k))
theorem uz(I:Inv c R A2 e y):∀n A dx i u w,A.units+n<Æ->aI n dx=_t->aI n i=_t->Vw y v e dx u->Vw y v e i w->aeo A y u w (d8 dx i):=by
 intro n
 induction n using Nat.strongRecOn with
 |_ n K=>
 intro A dx i u w G F M N o;have b:A.units<Æ:=â (à _ _) G;cases N with
 |n=>
  cases o with
  |n=>exact afx
  |bl=>exact afy _
  |int=>exact afz _ _
  |str=>exact afA _ _
  |l a=>exact afB a b
  |t a=>exact afC a b
 |bl=>
  cases o with
  |n=>exact afD _
  |bl=>exact afE _ _
  |int=>exact afF _ _ _
  |str=>exact afG _ _ _
  |l a=>exact afH _ a b
  |t a=>exact afI _ a b
 |int=>
  cases o with
  |n=>exact afJ _ _
  |bl=>exact afK _ _ _
  |int=>exact afL _ _ _ _
  |str=>exact afM _ _ _ _
  |l a=>exact afN _ _ a b
  |t a=>exact afO _ _ a b
 |str=>
  cases o with
  |n=>exact afP _ _
  |bl=>exact afQ _ _ _
  |int=>exact afR _ _ _ _
  |str=>exact afS _ _ _ _
  |l a=>exact afT _ _ a b
  |t a=>exact afU _ _ a b
 |@l l k O g f s x=>
  cases o with
  |n=>exact afV f b
  |bl=>exact afW _ f b
  |int=>exact afX _ _ f b
  |str=>exact afY _ _ f b
  |@l m j H d a z C=>
   cases n with
   |zero=>cases F
   |succ n=>
    have P:=s.length;have Q:=z.length;have S:=x.2.length;have T:=C.2.length;rw[show d8 (.l g) (.l d)=eT g d from Y]
    by_cases E:g.length=d.length
    .rw[←uy E]
     have:=afZ f a (by simp only[æ];omega) b (kC I (λA dx i u w h p q r t=>Dj r t p q (K n n.lt_succ_self A dx i u w h p q r t)) (á.mp F) (á.mp M) G s z x.2 C.2)
     rw[show k.toArray.size=g.length by simp only[æ];omega]at this
     exact this
    .rw[yn E]
     exact af_ f a (by simp only[æ,bne_iff_ne];omega) b
  |t a=>exact af0 f a b
 |@t l k O g f s x=>
  cases o with
  |n=>exact af1 f b
  |bl=>exact af2 _ f b
  |int=>exact af3 _ _ f b
  |str=>exact af4 _ _ f b
  |l a=>exact af5 f a b
  |@t m j H d a z C=>
   cases n with
   |zero=>cases F
   |succ n=>
    have P:=s.length;have Q:=z.length;have S:=x.2.length;have T:=C.2.length;rw[show d8 (.t g) (.t d)=eT g d from Y,←ft g d]
    have:=aeq f a b (kC I (λA dx i u w h p q r t=>Dj r t p q (K n n.lt_succ_self A dx i u w h p q r t)) (á.mp F) (á.mp M) G s z x.2 C.2)
    rw[show k.toArray.size=g.length by simp only[æ];omega,show j.toArray.size=d.length by simp only[æ];omega]at this
    exact this
theorem gG(I:Inv c R A2 e y)(n A dx a u w)(g:A.units+n<Æ)(ox:aI n dx=_t)(b:aI n a=_t)(d:Vw y v e dx u)(f:Vw y v e a w):ĵ A y u w (d8 dx a):=Dj d f ox b (uz I n A dx a u w g ox b d f)
theorem wz(I:Inv c R A2 e y)(t:ο.units+(b+1)<Æ)(ox:aI (b+1) h=_t)(w:aI (b+1) ε=_t)(x:Vw y v e h ζ)(n:Vw y v e ε U3):SeqAt.RcNeAt ο y ζ U3 (!d8 h ε):=by
 have d:ο.units<Æ:=â (à _ _) t;cases x with
 |n=>
  cases n with
  |n=>exact af6
  |bl=>exact af7 _
  |int=>exact af8 _ _
  |str=>exact af9 _ _
  |l a=>exact af' a d
  |t a=>exact aga a d
 |bl=>
  cases n with
  |n=>exact agb _
  |bl=>exact agc _ _
  |int=>exact agd _ _ _
  |str=>exact age _ _ _
  |l a=>exact agf _ a d
  |t a=>exact agg _ a d
 |int=>
  cases n with
  |n=>exact agh _ _
  |bl=>exact agi _ _ _
  |int=>exact agj _ _ _ _
  |str=>exact agk _ _ _ _
  |l a=>exact agl _ _ a d
  |t a=>exact agm _ _ a d
 |str=>
  cases n with
  |n=>exact agn _ _
  |bl=>exact ago _ _ _
  |int=>exact agp _ _ _ _
  |str=>exact agq _ _ _ _
  |l a=>exact agr _ _ a d
  |t a=>exact ags _ _ a d
 |@l l k z i g o p=>
  cases n with
  |n=>exact agt g d
  |bl=>exact agu _ g d
  |int=>exact agv _ _ g d
  |str=>exact agw _ _ g d
  |@l m j u f a q r=>
   have A:=o.length;have C:=q.length;have D:=p.2.length;have E:=r.2.length;rw[show d8 (.l i) (.l f)=eT i f from Y]
   by_cases s:i.length=f.length
   .rw[←uy s]
    have:=agx g a (by simp only[æ];omega) d (kC I (gG I b) (á.mp ox) (á.mp w) t o q p.2 r.2)
    rw[show k.toArray.size=i.length by simp only[æ];omega]at this
    exact this
   .rw[yn s]
    exact agy g a (by simp only[æ,bne_iff_ne];omega) d
  |t a=>exact agz g a d
 |@t l k z i g o p=>
  cases n with
  |n=>exact agA g d
  |bl=>exact agB _ g d
  |int=>exact agC _ _ g d
  |str=>exact agD _ _ g d
  |l a=>exact agE g a d
  |@t m j u f a q r=>
   have A:=o.length;have C:=q.length;have D:=p.2.length;have E:=r.2.length;rw[show d8 (.t i) (.t f)=eT i f from Y,←ft i f]
   have:=agF g a d (kC I (gG I b) (á.mp ox) (á.mp w) t o q p.2 r.2)
   rw[show k.toArray.size=i.length by simp only[æ];omega,show j.toArray.size=f.length by simp only[æ];omega]at this
   exact this
theorem Vw.uniq{s Z H n d k u}(h:Vw s Z H d u)(j:Vw s Z H k u)(o:aI n d=_t)(y:aI n k=_t):d=k:=by
 cases h with
 |n=>cases j;rfl
 |bl b=>cases j;rfl
 |int i t=>cases j;rfl
 |str x t=>cases j;rfl
 |@l l m p q z A e=>
  cases j with
  |@l _ a f g r w c=>
   cases wx e.1 c.1;cases n with
   |zero=>cases o
   |succ n=>rw[aW.uniq n q _ p (á.mp o) (á.mp y) e.2 c.2]
  |@t _ a f g r w c=>exact(qv e.1 c.1).elim
 |@t l m p q z A e=>
  cases j with
  |@t _ a f g r w c=>
   cases wy e.1 c.1;cases n with
   |zero=>cases o
   |succ n=>rw[aW.uniq n q _ p (á.mp o) (á.mp y) e.2 c.2]
  |@l _ a f g r w c=>exact(qv c.1 e.1).elim
def Dk(s)(Z:f'->Prop)(H dx u):=@decide (∃d,aI 8 d=_t/\Vw s Z H d u/\d8 d dx=_t) (acu _)
theorem yo(o:aI 8 ε=_t)(a:Vw y v e ε ζ):Dk y v e h ζ=d8 ε h:=by
 cases b:d8 ε h with
 |true=>exact @decide_eq_true _ (acu _) ⟨ε,o,a,b⟩
 |false=>
  refine @decide_eq_false _ (acu _) ?_;rintro⟨g,d,f,c⟩;rw[Vw.uniq f a d o,b]at c;cases c
theorem oz{X pins}{e:L2.St}{Z H s}(I:Inv X pins e H s){dx}:∀{b}{c}{a},aW Z H b c->Vals c a->(∀d∈b,aI 8 d=_t)->a.any (Dk s Z H dx)=b.any λd=>d8 d dx
 |[],_,_,h,r,_=>by rw[h.nil_inv]at r;cases r;rfl
 |d::b,_,_,h,r,o=>by
  obtain⟨v,vr,rfl,f,g⟩:=h.cons_inv;cases r with
  |cons i j=>
   rw[Į,Į,oz I g j (by simp_all),yo (o d (by simp)) (fQ I f.now i (o d (by simp)))]
theorem oA{X pins}{j:L2.St}{Z H s}(I:Inv X pins j H s){A dx w}(c:A.units+8<Æ)(ox:aI 8 dx=_t)(f:Vw s Z H dx w):
  ∀{b}{g}{a},aW Z H b g->Vals g a->(∀d∈b,aI 8 d=_t)->∀u∈a,ĵ A s u w (Dk s Z H dx u)
 |[],_,_,h,r,_,u,hm=>by rw[h.nil_inv]at r;cases r;simp at hm
 |d::b,_,_,h,r,o,u,hm=>by
  obtain⟨v,vr,rfl,k,l⟩:=h.cons_inv;cases r with
  |cons m n=>
   rcases Ì.mp hm with e|hm
   .subst e
    have i:=fQ I k.now m (o d (by simp))
    rw[yo (o d (by simp)) i]
    exact gG I 8 A d dx _ w c (o d (by simp)) ox i f
   .exact oA I c ox f l n (λz p=>o z (by simp[p])) u hm
def Dl(b:ñ):R2:=λx y H Q=>∃Z dx a k,Now Z H dx x/\Now Z H a y/\gk b dx a=.ok k/\Q (.bl k) H
theorem uA{ks}(h:Now v e (.dct ks q) O):∃a,O=.ref a:=by
 refine cy h λa _ b _=>?_
 grind
theorem KR(f:Now v e h O)(l:Now v e ε D3)(g:RelV O ζ)(m:RelV D3 U3)(d:isD h ε=.ok E):plainIs ζ U3=_t/\(ζ==U3)=E:=by
 have HM:∀{j:B D}{O:V}{ζ:g'},Now v e (.l j) O->RelV O ζ->∃a,ζ=.ref a:=λn r=>by
  obtain⟨a,_,rfl,_⟩:=cV n;exact⟨a,r⟩
 have k:∀{j:B D}{O:V}{ζ:g'},Now v e (.t j) O->RelV O ζ->∃a,ζ=.ref a:=λn r=>by
  obtain⟨a,_,rfl,_⟩:=ic n;exact⟨a,r⟩
 cases ε with
 |n=>
  cases ib l;cases m;cases h with
  |n=>cases ib f;cases g;cases d;exact⟨Y,Y⟩
  |bl b=>cases iP f;cases g;cases d;exact⟨Y,Y⟩
  |int i=>cases cU f;obtain⟨t,rfl⟩:=g;cases d;exact⟨Y,Y⟩
  |str i=>cases de f;obtain⟨t,rfl⟩:=g;cases d;exact⟨Y,Y⟩
  |l j=>obtain⟨a,rfl⟩:=HM f g;cases d;exact⟨Y,Y⟩
  |t j=>obtain⟨a,rfl⟩:=k f g;cases d;exact⟨Y,Y⟩
  |dct o j=>obtain⟨a,rfl⟩:=uA f;cases g;cases d;exact⟨Y,Y⟩
  |ref n=>exact(show False by simpa only [Now,Rep]using f).elim
 |bl c=>
  cases iP l;cases m;cases h with
  |n=>cases ib f;cases g;cases d;exact⟨Y,Y⟩
  |bl b=>cases iP f;cases g;cases d;exact⟨Y,by grind⟩
  |int i=>cases cU f;obtain⟨t,rfl⟩:=g;cases d;exact⟨Y,Y⟩
  |str i=>cases de f;obtain⟨t,rfl⟩:=g;cases d;exact⟨Y,Y⟩
  |l j=>obtain⟨a,rfl⟩:=HM f g;cases d;exact⟨Y,Y⟩
  |t j=>obtain⟨a,rfl⟩:=k f g;cases d;exact⟨Y,Y⟩
  |dct o j=>exact tY d
  |ref n=>exact tY d
 |_=>exact tY d
theorem KS(D:c.A.units+64<Æ)(I:Inv c R A2 e y)(m:RelV O ζ)(n:RelV D3 U3)(o:Now v e h O)(r:Now v e ε D3)(a:inD h ε=.ok E):
  (Ξ (.bl E) e->nc (B' c.prog c.w) c.A (Ú .In ζ U3) (EP c R A2 Ξ) c.xe y)/\(Ξ (.bl !E) e->nc (B' c.prog c.w) c.A (Ú .NotIn ζ U3) (EP c R A2 Ξ) c.xe y):=by
 unfold inD at a;split at a
 .rename_i s
  split at a
  .rename_i f
   cases a;simp only[Õ]at f;obtain⟨g,d⟩:=f;have d:=á.mp d;obtain⟨l,u,rfl,t,i⟩:=cV r;cases n;obtain⟨b,j,p,x⟩:=I.list (mS t);have k:∀w,w∈b.toArray->ĵ c.A.in1 y w ζ _:=λw z=>oA I (by grind) g (fQ I o m g) i j d w (by grind)
   have C:b.toArray.any (Dk y v e h)=s.any λD3=>d8 D3 h:=by
    rw[←oz I i j d];simp
   exact⟨λq=>SeqAt.in_listAt _ p.isList k ⟨.bl _,e,I,Y,by grind⟩,λq=>SeqAt.notIn_listAt _ p.isList k ⟨.bl _,e,I,Y,by grind⟩⟩
  .cases a
 .rename_i s
  split at a
  .rename_i f
   cases a;simp only[Õ]at f;obtain⟨g,d⟩:=f;have d:=á.mp d;obtain⟨l,u,rfl,_,t,i⟩:=ic r;cases n;refine aH (I.tuple (vK t)) λb j p x=>?_
   have k:∀w,w∈b.toArray->ĵ c.A.in1 y w ζ _:=λw z=>oA I (by grind) g (fQ I o m g) i j d w (by grind)
   have C:b.toArray.any (Dk y v e h)=s.any λD3=>d8 D3 h:=by
    rw[←oz I i j d];simp
   exact⟨λq=>SeqAt.in_tupleAt _ p k ⟨.bl _,e,I,Y,by grind⟩,λq=>SeqAt.notIn_tupleAt _ p k ⟨.bl _,e,I,Y,by grind⟩⟩
  .cases a
 .cases a
  cases de o;cases de r;exact⟨λq=>Aj _ y A2 e _ _ ζ U3 Ξ I m n ⟨_,_,Y,Y,q⟩,λq=>rA _ y A2 e _ _ ζ U3 Ξ I m n ⟨_,_,Y,Y,q⟩⟩
 .cases a
variable{A4:ñ}
theorem mT(a:gk A4 h ε=.ok E)(b:A4=.Lt\/A4=.LtE\/A4=.Gt\/A4=.GtE):∃i j,h=.int i/\ε=.int j:=by
 rcases b with rfl|rfl|rfl|rfl<;>cases h<;>first | (cases a) | (cases ε<;>first|exact⟨_,_,Y,Y⟩|cases a)
theorem oB(G:c.A.units+64<Æ)(C):ki c (Ú C) (Dl C):=by
 intro pins s D H x y u v Q I m n h;refine bj h λZ dx d k p r E=>xa E λe q=>?_
 have f:EP c pins D Q (.bool k) s:=⟨.bl k,H,I,Y,q⟩
 have a:∀{i j:Int}{o:ñ}{g:Int->Int->Bool},ki c (Ú o) (UZ λi j=>.bl (g i j))->dx=.int i->d=.int j->k=g i j->nc (B' c.prog c.w) c.A (Ú o u v) (EP c pins D Q) c.xe s:=by
  intro i j o g t z e2 K;subst z e2 K;cases cU p;cases cU r;exact t pins s D H _ _ u v Q I m n ⟨_,_,Y,Y,q⟩
 cases C with
 |Eq=>
  refine KQ (show(if (aI 8 dx&&aI 8 d)=_t then .ok (d8 dx d)else Out.b)=_ from e) λl e=>?_
  cases e;exact uz I 8 _ _ _ _ _ (by omega) (bL l) (bR l) (fQ I p m (bL l)) (fQ I r n (bR l)) c.prog c.w c.xe _ f
 |NotEq=>
  refine KQ (show(if (aI 8 dx&&aI 8 d)=_t then .ok (!d8 dx d)else Out.b)=_ from e) λl e=>?_
  cases e;exact wz I (b:=7) (by omega) (bL l) (bR l) (fQ I p m (bL l)) (fQ I r n (bR l)) c.prog c.w c.xe _ f
 |Lt=>obtain⟨i,j,rfl,rfl⟩:=mT e (by simp);cases e;exact a (GN λ_ _ _ _ _ _ _ q=>lt_int q) Y Y Y
 |LtE=>obtain⟨i,j,rfl,rfl⟩:=mT e (by simp);cases e;exact a (GN λ_ _ _ _ _ _ _ q=>le_int q) Y Y Y
 |Gt=>obtain⟨i,j,rfl,rfl⟩:=mT e (by simp);cases e;exact a (GN λ_ _ _ _ _ _ _ q=>gt_int q) Y Y Y
 |GtE=>obtain⟨i,j,rfl,rfl⟩:=mT e (by simp);cases e;exact a (GN λ_ _ _ _ _ _ _ q=>ge_int q) Y Y Y
 |In=>
  have e:inD dx d=.ok k:=e;exact(KS G I m n p r e).1 q
 |NotIn=>
  have e:(do let b ←inD dx d;Out.ok (!b))=.ok k:=e
  obtain⟨b,z,e2⟩:=ow e;cases e2;exact(KS G I m n p r z).2 q
 |Is=>
  have e:isD dx d=.ok k:=e;obtain⟨t,F⟩:=KR p r m n e;exact wpAny_is_plain t (by rw[F];exact f)
 |IsNot=>
  have e:(do let b ←isD dx d;Out.ok (!b))=.ok k:=e
  obtain⟨b,z,e2⟩:=ow e;cases e2;obtain⟨t,F⟩:=KR p r m n z;exact wpAny_isNot_plain t (by rw[F];exact f)
theorem MF(g:Now v e h O)(i:Now v e ε D3)(c:∀a,v a->e a≠_n)(j:(do let r ←gk A4 h ε;Out.ok (_d,D.bl r))=.ok (X2,X4))(k:∀b d f,fm v e f d->eU E X2 f e d X4 b->Ξ b d):Dl A4 O D3 e Ξ:=by
 obtain⟨r,l,e2⟩:=ow j;cases e2;exact⟨v,h,ε,r,g,i,l,k _ e v (fm.refl c) (.rep (gz Y))⟩
variable{S7 m5:TT}
theorem PT.imp(h:PT c n m5)(i:∀a H Q,S7 a H Q->m5 a H Q):PT c n S7:=λpins s a H Q I q=>h _ s a H Q I (i a H Q q)
theorem PW.imp(h:PW c n m5)(i:∀a H Q,S7 a H Q->m5 a H Q):PW c n S7:=λb pins s a H Q I q=>h b _ s a H Q I (i a H Q q)
theorem MG(n:Now v e h O)(c:mF h=J E):ub G O e E:=by
 cases h with
 |n=>cases ib n;cases c;rfl
 |bl b=>cases iP n;cases c;rfl
 |int b=>cases cU n;cases c;rfl
 |str b=>
  cases de n;simp only[mF]at c;split at c
  .rename_i j
   cases c;refine⟨bA j,?_⟩
   grind
  .exact bD c
 |l i=>
  obtain⟨a,d,rfl,f,g⟩:=cV n;cases c;refine .inl ⟨d,mS f,?_⟩;have:=g.length
  grind
 |t i=>
  obtain⟨a,d,rfl,_,f,g⟩:=ic n;cases c;refine .inr (.inl ⟨d,vK f,?_⟩);have:=g.length
  grind
 |dct l i=>exact bD c
 |ref k=>exact bD c
def Dm(Z:f'->Prop)(H:Hp):B D->B V->Prop
 |[],a=>a=[]
 |d::b,a=>∃v r,a=v::r/\Now Z H d v/\Dm Z H b r
theorem Dm.one(a:Dm v e [h] η):∃x,η=[x]/\Now v e h x:=by
 refine aP a λb r c d f=>⟨b,by rw[c,f],d⟩
def Args(c)(Z:f'->Prop)(H)(a:B D)(b:B V):=if c=_t then Dm Z H a b else aW Z H a b
variable{V3:TA}{Z:B p'}
theorem PA.imp{t'}(h:PA c Z V3)(i:∀a H Q,t' a H Q->V3 a H Q):PA c Z t':=λb pins s a H Q I q=>h _ _ s a H Q I (i a H Q q)
theorem Dp(b:aW v e q η)(a:ll q Q=J h):∃c,ll η Q=J c/\Rep v e h c:=by
 unfold ll at a ⊢;rw[b.length];cases d:tT _ Q with
 |none=>simp_all
 |some j=>
  rw[d]at a;exact b.get a
theorem MH(g:Now v e h O)(i:Now v e ε D3)(d:∀a,v a->e a≠_n)(c:wo h ε=.ok (X2,X4))(k:∀b j r,fm v e r j->eU E X2 r e j X4 b->Ξ b j):rIx G O D3 e Ξ:=by
 unfold wo at c;split at c
 .obtain⟨l,m,rfl,n,o⟩:=cV g
  cases cU i;split at c
  .rename_i s f
   cases c;obtain⟨b,p,q⟩:=Dp o f;exact .inl ⟨l,m,_,b,Y,Y,mS n,p,k b e v (fm.refl d) (.rep q)⟩
  .cases c
 .obtain⟨l,m,rfl,_,n,o⟩:=ic g
  cases cU i;split at c
  .rename_i s f
   cases c;obtain⟨b,p,q⟩:=Dp o f;exact .inr (.inl ⟨l,m,_,b,Y,Y,vK n,p,k b e v (fm.refl d) (.rep q)⟩)
  .cases c
 .cases de g
  cases cU i;split at c
  .rename_i t
   split at c
   .rename_i u f
    cases c;exact .inr (.inr ⟨_,_,u,Y,Y,bA t,f,k _ e v (fm.refl d) (.rep (gz Y))⟩)
   .cases c
  .cases c
 .cases c
theorem Dq(xs:B B2)(a b):(eo xs a b).length<=xs.length:=by
 unfold eo;rw[ŕ,abQ];omega
theorem yp(n d:Nat)(v):max 0 (min (if v<0 then v+(n:Int)else v) n)=((HT.kj n d (J v))):=by
 show max 0 _=(((if v<0 then (v+(n)).toNat else min _ n):Nat):Int)
 grind
variable{U0:Int}{m:Nat}
theorem Dr(a:Q=b)(c:U0=m):sliceRange Q U0 1=(É (m - b)).map λk=>b+k:=by
 subst a c;unfold sliceRange
 have e:(if (b:Int)<m then ((m:Int) - b+1 - 1) / 1 else 0).toNat=m - b:=by
  split
  .rw[Int.add_sub_cancel,Int.ediv_one,Int.toNat_sub]
  .rw[Nat.sub_eq_zero_of_le (Int.ofNat_le.mp (Int.not_lt.mp ‹_›))];rfl
 rw[if_pos (by decide)]
 show(É (if (b:Int)<m then ((m:Int) - b+1 - 1) / 1 else 0).toNat).map _=_
 rw[e];exact acv λk _=>by rw[Int.one_mul];exact aa5 (b+k)
theorem oC(a b n):acw a b 1 n=(É (HT.kj n n b - HT.kj n 0 a)).map λk=>HT.kj n 0 a+k:=by
 refine Dr ?_ ?_
 .cases a with
  |none=>rfl
  |some v=>exact yp n 0 v
 .cases b with
  |none=>rfl
  |some v=>exact yp n n v
theorem AE:∀n a (l:B Nat),a+n<=l.length->((É n).map λk=>a+k).filterMap (λi=>l[i]?)=(l.drop a).take n:=by
 intro n
 induction n with
 |zero=>intro a l _;simp
 |succ n c=>
  intro a l h;have b:a+n<l.length:=by omega
  rw[List.range_succ,ā,List.filterMap_append,c a l (ó b),List.take_add_one,List.getElem?_drop];simp[Ô b]
theorem Ds(x:L)(b a):(acw b a 1 x.length).filterMap (x.cps[·]?)=eo x.cps.toList b a:=by
 have c:x.cps.toList.length=x.length:=by rfl
 have e:=HT.Cn x.length _ (R' _) a;rw[oC];unfold eo;rw[c];generalize HT.kj _ 0 b=p at *;generalize HT.kj _ _ a=q at *
 by_cases d:p<=q
 .have:=AE (q - p) p _ (by rw[c];omega)
  simp_all
 grind
def QZ:V->_o Int->_o Int->Hp->VK->Prop:=λx a b H Q=>∃z,x=.str z/\z.length<=U'/\Q (.str ⟨(eo z.cps.toList a b).toArray⟩) H
theorem oD:Mt c QZ:=by
 intro pins s N H x v O P a b R Q I k m n r h;obtain⟨z,rfl,y,q⟩:=h;obtain⟨t,rfl⟩:=k;refine⟨"str",_,F.slot_str_getitem.lookup,ϯ _ _ _,?_⟩
 have part:∀{w:g'}{o:_o Int},Ϯ w o->∃p:_o (Int×ã),w=partValue p/\p.map (·.1)=o:=λh=>by
  cases h with
  |none=>exact⟨_n,Y,Y⟩
  |int i t=>exact⟨J (i,t),Y,Y⟩
 obtain⟨e,A,m1⟩:=part n;obtain⟨f,e2,m2⟩:=part r;subst A e2;refine wpAny_getItem_str_slice (l:=e) (u:=f) (st:=_n) m Y ?_
 have C:(aba z e f _n).filterMap (z.cps[·]?)=eo z.cps.toList a b:=by
  unfold aba;rw[m1,m2];exact Ds z a b
 have D:(eo z.cps.toList a b).length<=z.length:=by
  have:=Dq z.cps.toList a b;simpa[Ţ]using this
 unfold sliceMade;split
 .rename_i j
  have d:(aba z e f _n).length=z.length:=by
   simp only[Õ,beq_iff_eq]at j;exact j.2
  have E:(⟨(eo z.cps.toList a b).toArray⟩:L)=z:=by
   unfold aba at d;rw[m1,m2]at d;have d:(acw a b 1 z.length).length=z.length:=d;rw[oC,ß,List.length_range]at d;have S:=HT.Cn z.length z.length (R' _) b;have g:z.cps.toList.length=z.length:=by simp[Ţ]
   have G:eo z.cps.toList a b=z.cps.toList:=by
    unfold eo;rw[g]
    by_cases K:z.length=0
    .have:z.cps.toList=[]:=aer (by rw[g];exact K)
     rw[this];simp
    .have M:HT.kj z.length 0 a=0:=by omega
     rw[M,ad4,ϒ (by rw[g];omega)]
   rw[G]
  refine⟨.str z,H,I,⟨t,Y⟩,?_⟩;rw[E]at q;exact q
 .rw[C]
  refine⟨?_,.str _,H,I.tok _,⟨_,Y⟩,q⟩
  show(eo z.cps.toList a b).toArray.size<=U'
  rw[æ];exact N' D y
def Q_(K):=λx a b H Q=>QC K x a b H Q\/QZ x a b H Q
def sD(F:B D->Out Rs):Sp:=λf H Q _=>
 ∃Z c own d,(∀a,Z a->H a≠_n)/\aW Z H c f/\F c=.ok (own,d)/\∀v b e,fm Z H e b->eU _d own e H b d v->Q v b
theorem eU.weak(a:eU _d X2 v e r0 h O):eU E X2 v e r0 h O:=by
 unfold eU at a ⊢;split
 .simp_all
 .rename_i b;rw[if_neg b]at a
  split
  .exact a.now
  .exact a
structure Ra(X:Cx)(k:Nat)(x:L)(F:B D->Out Rs):Prop where
 ex:∃(f:f') (fd:Â) (ps:B L),X.mg x=J (.ref f)/\Î X.K (.ref f)=_t/\Binds X.K fd ps []/\bt X.prog X.w X.K X.mg X.base dZ k f fd ps (sD F)
inductive fu (h:F'):g'->Bool->Prop where
 |n:fu h .none _d
 |bl (b:Bool):fu h (.bool b) b
 |int (i:Int) (t:ã):fu h (.int i t) (i != 0)
 |str (x:L) (t:ã):x.length<=U'->fu h (.str x t) ((x.length:Int) != 0)
 |l {l:f'}{its:Array g'}:h.IsList l its->its.size<=U'->fu h (.ref l) (!its.isEmpty)
 |t {l:f'}{its:Array g'}:ķ h l its->its.size<=U'->fu h (.ref l) (!its.isEmpty)
variable{F2 H:F'}
theorem fu.keep(k:∀b o,(ζ=.ref b)->H.get? b=J o->F2.get? b=J o)(x:fu H ζ E):fu F2 ζ E:=by
 cases x with
 |n=>exact .n
 |bl=>exact .bl _
 |int i E=>exact .int i E
 |str x E z=>exact .str x E z
 |l q z=>obtain⟨o,a,c⟩:=q;exact .l ⟨o,k _ o Y a,c⟩ z
 |t q z=>obtain⟨o,a,c⟩:=q;exact .t ⟨o,k _ o Y a,c⟩ z
variable{M:W'}{N:T'}{V9:Bool->iv->Prop}{ψ:g'->iv->Prop}
theorem fu.run{s}(x:fu s.heap ζ E)(q:∀a,V9 E {s with toks:=a}):nc (B' M N) ο (ű ζ) V9 ψ s:=by
 have b:=iM;cases x with
 |n=>exact truthy_none (q _)
 |bl=>exact ħ (q _)
 |int i E=>exact ac1 (q _)
 |str x E z=>exact ac2 (by omega) (q _)
 |l h z=>exact ac3 h (by omega) (q _)
 |t h z=>exact truthy_tuple h (by omega) (q _)
theorem Dt(I:Inv c R A2 e y)(n:Now v e h O)(r:RelV O ζ)(d:mF h=J E):fu y.heap ζ E:=by
 cases h with
 |n=>cases ib n;cases r;cases d;exact .n
 |bl b=>cases iP n;cases r;cases d;exact .bl _
 |int b=>cases cU n;obtain⟨k,rfl⟩:=r;cases d;exact .int _ _
 |str b=>
  cases de n;obtain⟨k,rfl⟩:=r;simp only[mF]at d;split at d
  .rename_i o
   cases d
   have f:((b.length:Int) != 0)=(b.length != 0):=by
    grind
   rw[←f];exact .str b k (bA o)
  .exact bD d
 |l j=>
  obtain⟨a,q,rfl,l,m⟩:=cV n;cases r;cases d;obtain⟨g,i,p,s⟩:=I.list (mS l)
  have f:(!j.isEmpty)=!g.toArray.isEmpty:=by
   have t:=m.length;have u:=i.length
   grind
  rw[f];exact .l p.isList (by rwa[æ,←i.length])
 |t j=>
  obtain⟨a,q,rfl,_,l,m⟩:=ic n;cases r;cases d;obtain⟨g,i,p,s⟩:=I.tuple (vK l)
  have f:(!j.isEmpty)=!g.toArray.isEmpty:=by
   have t:=m.length;have u:=i.length
   grind
  rw[f];exact .t p (by rwa[æ,←i.length])
 |dct w j=>exact bD d
 |ref k=>exact bD d
variable{B9:Nat->g'->Prop}{Q1 z:B f'}{S5:œ->iv->Prop}
theorem Du{T}(W:Walks M N ο.in1 i z Q1 b B9 T)(n)(G:F'->Prop)(A:∀h d,G h->(∀c o,c∉Q1->h.get? c=J o->d.get? c=J o)->G d)(C:∀a v h,B9 a v->G h->fu h v (n a)):∀m a s,b - a=m->a<=b->T a s.heap->G s.heap ->
  (∀d k,(∀c o,c∉Q1->s.heap.get? c=J o->d.get? c=J o)->S5 (.ok (.ret (.bool (((É b).drop a).all n)))) {s with heap:=d,toks:=k}) ->
  Û (B' M N) ο (.builtin "all.loop" ⟨[.ref i],[]⟩) S5 s:=by
 intro m
 induction m with
 |zero=>
  intro a s D E p g f;obtain rfl:a=b:=by omega
  refine ı aes ?_;refine j' (W.done s _ _ p λd k l=>j' (Ņ (I' ?_)))
  have q:=f d k l;rw[aet (by simp)]at q
  exact q
 |succ m H=>
  intro a s D E p g f;have r:a<b:=by omega
  have P:(É b).drop a=a::(É b).drop (a+1):=by
   rw[acx (by simpa using r)];simp
  refine ı aes ?_;refine j' (W.item a s _ _ r p λv d k I t l=>?_)
  have x:G d:=A _ _ g l;refine j' (î ((C a v d I x).run λK=>?_))
  refine j' (ach ?_);cases e:n a with
  |true=>
   refine I' ⟨ğ aeu _,H (a+1) _ (by omega) r t x λO u w=>?_⟩
   have q:=f O u λc o y j=>w c o y (l c o y j)
   simp_all
  |false=>
   refine j' (Ņ (I' ?_))
   simp_all
theorem Dv{T}(W:Walks M N ο.in1 i z Q1 b B9 T)(n)(G:F'->Prop)(A:∀h d,G h->(∀c o,c∉Q1->h.get? c=J o->d.get? c=J o)->G d)(C:∀a v h,B9 a v->G h->fu h v (n a)):∀m a s,b - a=m->a<=b->T a s.heap->G s.heap ->
  (∀d k,(∀c o,c∉Q1->s.heap.get? c=J o->d.get? c=J o)->S5 (.ok (.ret (.bool (((É b).drop a).any n)))) {s with heap:=d,toks:=k}) ->
  Û (B' M N) ο (.builtin "any.loop" ⟨[.ref i],[]⟩) S5 s:=by
 intro m
 induction m with
 |zero=>
  intro a s D E p g f;obtain rfl:a=b:=by omega
  refine ı aev ?_;refine j' (W.done s _ _ p λd k l=>j' (Ņ (I' ?_)))
  have q:=f d k l;rw[aet (by simp)]at q
  exact q
 |succ m H=>
  intro a s D E p g f;have r:a<b:=by omega
  have P:(É b).drop a=a::(É b).drop (a+1):=by
   rw[acx (by simpa using r)];simp
  refine ı aev ?_;refine j' (W.item a s _ _ r p λv d k I t l=>?_)
  have x:G d:=A _ _ g l;refine j' (î ((C a v d I x).run λK=>?_))
  refine j' (ach ?_);cases e:n a with
  |false=>
   refine I' ⟨ğ aew _,H (a+1) _ (by omega) r t x λO u w=>?_⟩
   have q:=f O u λc o y j=>w c o y (l c o y j)
   simp_all
  |true=>
   refine j' (Ņ (I' ?_))
   simp_all
theorem sE:∀{a}{bs},gy a=J bs->bs.length=a.length
 |[],_,h=>by cases h;rfl
 |d::a,bs,h=>by
  simp only[gy]at h;split at h
  .rename_i b c f e
   cases h;rw[ċ,ċ,sE e]
  .exact bD h
theorem yq:∀{a}{bs}{i:Nat}{d},gy a=J bs->a[i]?=J d->∃b,bs[i]?=J b/\mF d=J b
 |[],_,_,_,_,h=>by simp at h
 |d::a,bs,i,j,h,e=>by
  simp only[gy]at h;split at h
  .rename_i b f k g
   cases h;cases i with
   |zero=>simp_all
   |succ i=>
    obtain⟨c,l,m⟩:=yq g (by simpa using e)
    simp_all
  .exact bD h
theorem all_range:∀(bs:B Bool),((É bs.length).all λi=>(bs[i]?).getD _t)=bs.all id
 |[]=>Y
 |b::bs=>by
  rw[ċ,acs,ţ,aex,ţ,←all_range bs];rfl
theorem any_range:∀(bs:B Bool),((É bs.length).any λi=>(bs[i]?).getD _d)=bs.any id
 |[]=>Y
 |b::bs=>by
  rw[ċ,acs,Į,aey,Į,←any_range bs];rfl
def XS(K:G'):B V->Hp->VK->Prop:=λb H Q=>∃Z a bs x,b=[x]/\Now Z H (.l a) x/\gy a=J bs/\Q (.bl (bs.all id)) H
def XT(K:G'):B V->Hp->VK->Prop:=λb H Q=>∃Z a bs x,b=[x]/\Now Z H (.l a) x/\gy a=J bs/\Q (.bl (bs.any id)) H
variable{F9:B Bool}
theorem Dw(I:Inv c R A2 e y)(f:aW v e q η)(g:Vals η A0)(l:gy q=J F9)(dflt):
  ∀(i:Nat) a,A0.toArray[i]?=J a->fu y.heap a ((F9[i]?).getD dflt):=by
 intro i a m;obtain⟨n,o⟩:=Ê.mp (by simpa using m)
 obtain⟨x,p,h⟩:=sy g n;have u:=f.length;have w:=g.length;have j:q[i]?=J q[i]:=by simp
 obtain⟨d,k,r⟩:=f.get j;rw[p]at k;cases k
 obtain⟨b,s,t⟩:=yq l j;rw[s];rw[o]at h;exact Dt I r.now h t
theorem Dy(w:c.calm=_t):ek c (.builtin "all") (XS c.K):=by
 intro pins s M H N O Q I r h;refine bj h λZ P bs x a y d=>xa d λk q=>?_;subst a
 obtain⟨u,rfl,C⟩:=vals1 r;obtain⟨l,R,rfl,D,m⟩:=cV y;cases C;refine aH (I.list (mS D)) λf n p S=>?_
 refine aez PySem.F.kind_all PySem.F.plain_all PySem.F.entry_all (PySem.F.args_all1 _) ?_;refine j' (I' (j' (aa3 p.isList ?_)))
 refine I' ⟨ğ aeu _,Du (aeA (A:=c.A.in1) (I.ok.hd w) _ l (X' (by obtain⟨_,e,_⟩:=p.isList;exact Q' e)) _) _
  (λh=>∀b o,b≠s.heap.objs.size->s.heap.get? b=J o->h.get? b=J o) (λh E g j b o t e=>j b o (by simp_all) (g b o t e))
  (λi v h G g=>((Dw I m n k _t) i v G).keep λb o e z=>g b o (X' (Q' z)) z) _ 0 _ Y (ĉ _) ⟨⟨_,Ò _ Y,Y,Y⟩,p.isList.push _⟩ (λb o t e=>Y' _ e) λE T j=>?_⟩
 have e:((É f.toArray.size).drop 0).all (λi=>(bs[i]?).getD _t)=bs.all id:=by
  rw[æ,←n.length,m.length,←sE k];exact all_range bs
 rw[e]
 exact⟨.bl _,H,I.kept λb o z=>j b o (by
  have:=X' (Q' z)
  simp_all) (Y' _ z),Y,q⟩
theorem Dz(w:c.calm=_t):ek c (.builtin "any") (XT c.K):=by
 intro pins s M H N O Q I r h;refine bj h λZ P bs x a y d=>xa d λk q=>?_;subst a
 obtain⟨u,rfl,C⟩:=vals1 r;obtain⟨l,R,rfl,D,m⟩:=cV y;cases C;refine aH (I.list (mS D)) λf n p S=>?_
 refine aez PySem.F.kind_any PySem.F.plain_any PySem.F.entry_any (PySem.F.args_any1 _) ?_;refine j' (I' (j' (aa3 p.isList ?_)))
 refine I' ⟨ğ aew _,Dv (aeA (A:=c.A.in1) (I.ok.hd w) _ l (X' (by obtain⟨_,e,_⟩:=p.isList;exact Q' e)) _) _
  (λh=>∀b o,b≠s.heap.objs.size->s.heap.get? b=J o->h.get? b=J o) (λh E g j b o t e=>j b o (by simp_all) (g b o t e))
  (λi v h G g=>((Dw I m n k _d) i v G).keep λb o e z=>g b o (X' (Q' z)) z) _ 0 _ Y (ĉ _) ⟨⟨_,Ò _ Y,Y,Y⟩,p.isList.push _⟩ (λb o t e=>Y' _ e) λE T j=>?_⟩
 have e:((É f.toArray.size).drop 0).any (λi=>(bs[i]?).getD _d)=bs.any id:=by
  rw[æ,←n.length,m.length,←sE k];exact any_range bs
 rw[e]
 exact⟨.bl _,H,I.kept λb o z=>j b o (by
  have:=X' (Q' z)
  simp_all) (Y' _ z),Y,q⟩
noncomputable def ly.nm:ly->L
 |.len=>"len" |.all=>"all" |.any=>"any" |.sorted=>"sorted" |.list=>"list" |.tuple=>"tuple" |.int=>"int" |.min=>"min" |.max=>"max" |.bool=>"bool"
def iQ(c:∀a,v a->e a≠_n)(k:∀O d f,fm v e f d->eU E _d f e d h O->Ξ O d)(b:kB h=J O):=
 k _ e v (fm.refl c) (.rep (gz b))
noncomputable def Ty.nm:Ty->L
 |.int=>"int" |.str=>"str" |.bool=>"bool" |.list=>"list" |.tuple=>"tuple" |.dict=>"dict"
noncomputable def Ty.id:Ty->String
 |.int=>"int" |.str=>"str" |.bool=>"bool" |.list=>"list" |.tuple=>"tuple" |.dict=>"dict"
theorem yr(K)(t:Ty):õ K (.type "NoneType") (.type t.id)=J _d/\õ K (.type "bool") (.type t.id)=J (t==.bool||t==.int)/\õ K (.type "int") (.type t.id)=J (t==.int) /\
  õ K (.type "str") (.type t.id)=J (t==.str)/\õ K (.type "list") (.type t.id)=J (t==.list)/\õ K (.type "tuple") (.type t.id)=J (t==.tuple)/\õ K (.type "dict") (.type t.id)=J (t==.dict):=by
 cases t<;>refine⟨?_,?_,?_,?_,?_,?_,?_⟩<;>with_unfolding_all rfl
def Rb(K:G'):B V->Hp->VK->Prop:=λa H Q=>∃Z d x t b,a=[x,.ty (Ty.id t)]/\Now Z H d x/\Dh d t=J b/\Q (.bl b) H
theorem mj{K:G'}(I:Inv c R A2 e y)(h:Rd e i (.t η)):∃o,y.heap.get? i=J o/\o.cls=.type "tuple":=by
 obtain⟨_,a,_,o,b,d,_⟩:η.length<=U'/\∃a:B _,Vals η _/\ķ _ i _:=Rd.ok h I.hok
 simp_all
theorem DA:ek c (.builtin "isinstance") (Rb c.K):=by
 intro pins s C H O P Q I r h;obtain⟨Z,d,x,t,b,rfl,l,i,q⟩:=h;obtain⟨u,R,rfl,j,D⟩:=vals2 r;cases (D);refine dm (yr c.K t) λE F t3 G n m=>xa m λM N=>?_
 have f:∀p,EP c _ C Q _ _:=λp=>⟨.bl b,H,I.tok p,Y,q⟩
 cases d with
 |n=>cases ib l;cases i;exact cL I j .n E f
 |bl e=>cases iP l;cases i;exact cL I j (.bl e) F f
 |int e=>cases cU l;cases i;exact cL I j (.int e) t3 f
 |str e=>cases de l;cases i;exact cL I j (.str e) G f
 |l w=>
  obtain⟨a,y,rfl,g,A⟩:=cV l;cases i;rcases g with g|⟨o,g⟩
  .exact cL I j (.l g) n f
  .exact cL I j (.cX g) n f
 |t w=>
  obtain⟨a,y,rfl,_,g,A⟩:=ic l;cases i;cases j;exact þ abF I.ej (mj (K:=c.K) I g) M (λz=>nomatch z) f
 |dct S w=>
  obtain⟨a,y,rfl,_,g,A⟩:=l;cases i;exact cL I j (.dK g) N f
 |ref k=>exact bD i
noncomputable abbrev yt(b:B p')(a):=forIn b _t λc r=>if r=_t then do let ok ←ŏ c a (eval c a);pure (abb ok)else pure (abb r)
variable{D5:Ã}{M3 ξ:p'}{o:K'}{o0:V'}
theorem AF(J:Nat->iv->Prop)(b:∀a y,J a y->nc (B' M N) ο (č ζ) (λr c=>match r with
   |_n=>S5 (.ok .next) c
   |some v=>nc (B' M N) ο (abr ξ ζ v) (λ_ e=>nc (B' M N) ο (ϟ ξ D5 v) (λ_ f=>nc (B' M N) ο (yt Z D5) (λok d=>
      if ok=_t then nc (B' M N) ο (eval n D5) (λx g=>nc (B' M N) ο (call (.builtin "list.append") [U3,x]) (λ_ i=>∃m,m<a/\J m i) (λ_ _=>False) g) (λ_ _=>False) d
      else ∃m,m<a/\J m d) (λ_ _=>False) f) (λ_ _=>False) e) (λ_ _=>False) c) (λ_ _=>False) y)(a)(h:J a y):Û (B' M N) ο (.compLoop (.ListComp n [⟨ξ,M3,Z,0⟩] o0 o) 0 ζ U3 D5) S5 y:=by
 refine codeAny_loop Y J (λa y k=>?_) a h
 refine wpAny_noted ?_;rw[compTurn_list];refine j' (Ϲ (j' (Ý (b a y k) (λr c j=>?_) (by grind))))
 cases r with
 |none=>exact I' j
 |some v=>
  refine j' (Ý j (λ_ e l=>j' (Ý l (λ_ f p=>j' (Ý p (λok d q=>?_) (by grind))) (by grind))) (by grind))
  cases ok with
  |false=>exact I' ⟨Y,by simp_all⟩
  |true=>
   refine j' (j' (Ý q (λx g s=>j' (Ý s (λ_ i t=>I' (I' ⟨Y,t⟩)) (by grind))) (by grind)))
theorem wA(h:∀y∈o0.names,y.2=.free->∃c,D5.cells.lookup y.1=J c):
  ∃d,closureFor o0 D5=pure d/\(∀n c,(n,c)∈d->D5.cells.lookup n=J c)/\∀y∈o0.names,y.2=.free->∃c,(y.1,c)∈d:=by
 have g:∀(l:B _) (b:B _),(∀y∈l,y.2=.free->∃c,D5.cells.lookup y.1=J c)->(∀n c,(n,c)∈b->D5.cells.lookup n=J c) ->
   ∃d,(forIn l b λx r=>match x with | (name,kind)=>if (kind==ϓ)=_t then do let a ←cellOf D5 name;pure (abb ((name,a)::r))else pure (abb r))=pure d /\
    (∀n c,(n,c)∈d->D5.cells.lookup n=J c)/\(∀p∈b,p∈d)/\∀y∈l,y.2=.free->∃c,(y.1,c)∈d:=by
  intro l
  induction l with
  |nil=>intro b _ i;exact⟨_,Y,i,by simp,by simp⟩
  |cons y l o=>
   intro b j i;obtain⟨n,k⟩:=y;cases w:(k==ϓ)with
   |false=>
    refine dJ (o _ (λz f=>j z (by simp[f])) i) λd e m s q=>?_
    grind
   |true=>
    obtain⟨c,t⟩:=j (n,k) (by simp) (by simp_all)
    refine dJ (o ((n,c)::b) (λz f=>j z (by simp[f])) (λA C D=>by
     grind)) λd e m s q=>?_
    refine⟨d,?_,m,by simp_all,λz f u=>?_⟩
    .have:cellOf D5 n=pure c:=by
      unfold cellOf;rw[t]
     simp_all
    grind
 refine dJ (g _ [] h (λ_ _ z=>absurd z (by simp))) λd e m _ q=>?_
 unfold closureFor
 grind
noncomputable def blk(X:Cx)(scope)(a:B (L×f'))(C)(N:B L)(s₀ H₀)(fp:B f'):=
 {X with N:=N,s₀:=s₀,H₀:=H₀,env:=compEnvC scope a C X.env,outer:=X.stack,stack:=X.stack,ex:=fp,fn:=λ_=>_d,pn:=[],xe:=λ_ _=>False}
theorem lookup_mem{α a:Type}[BEq α][LawfulBEq α]:∀{l:B (α×a)}{x}{v},l.lookup x=J v->(x,v)∈l
 |[],_,_,h=>by simp at h
 | (n,k)::r,x,v,h=>by
  rw[Ę]at h;cases e:x==n with
  |true=>simp_all
  |false=>rw[e]at h;exact Ŭ _ (lookup_mem h)
theorem mem_lookup{α a:Type}[BEq α][LawfulBEq α]:∀{l:B (α×a)}{x}{v},(x,v)∈l->∃u,l.lookup x=J u
 |[],_,_,h=>by simp at h
 | (n,k)::r,x,v,h=>by
  rw[Ę];cases e:x==n with
  |true=>simp
  |false=>
   rcases Ì.mp h with q|q
   .simp_all
   .exact mem_lookup q
theorem fv{a:Ã}:∀(names:B (L×Ÿ)) x,(names.map λ(n,k)=>if (k==ϓ&&a.scope.kind==.function&&a.kindOf n==J .cell)then (n,acy)else (n,k)).lookup x =
  (names.lookup x).map λk=>if (k==ϓ&&a.scope.kind==.function&&a.kindOf x==J .cell)then acy else k
 |[],_=>Y
 | (n,k)::r,x=>by
  have e:∀c:Bool,(if c then (n,acy)else (n,k))=(n,if c then .cell else k):=λc=>by cases c<;>rfl
  rw[Ù];dsimp only;rw[e,Ę,Ę];cases h:x==n with
  |true=>rw[eq_of_beq h];rfl
  |false=>exact fv r x
structure kF(X:Cx)(scope:V')(tn cn:B L)(cap:B Nat):Prop where
 kind:scope.kind=.function
 cell:∀y∈scope.names,y.2≠.cell
 names:∀y∈scope.names,y.2=.local->scope.names.lookup y.1=J .local
 free:∀y∈scope.names,y.2=.free->X.env.kindOf y.1=J .cell\/X.env.kindOf y.1=J .free
 len:cn.length=cap.length
 at':∀(j i:Nat) (x:L),cn[j]?=J x->cap[j]?=J i->X.N[i]?=J x/\scope.names.lookup x=J .free
noncomputable def uB(a:B Nat)(b:L2.St):L2.St:=a.map λi=>(b[i]?).join
def iE(b:Nat)(a:B Nat)(c:L2.St):L2.St:=ź b _n++uB a c
variable{i0 l:B L}{θ:L->_o g'}{π:B Nat}
theorem AG{s E}(B:kF c o0 l i0 π)(I:Inv c R A2 e s)(M:∀d∈Q1,nP c R e d)(P:∀d∈Q1,∃o,s.heap.get? d=J o)(A:∀n a,(n,a)∈E->c.env.cells.lookup n=J a)(c2:∀y∈o0.names,y.2=.free->∃a,(y.1,a)∈E)(N:∀d o,s.heap.get? d=J o->H.get? d=J o)(r:∃n,H.get? s.heap.objs.size=J {cls:=.type "list",data:=.seq ([]).toArray n})(ns:H.Ns (s.heap.objs.size+1) θ):
  Inv (blk c o0 E (s.heap.objs.size+1) (l++i0) s e Q1) [] (iE l.length π A2) (upd e s.heap.objs.size (.l [])) {s with heap:=H,toks:=b}:=by
 have Q:∀d o,s.heap.get? d=J o->d≠s.heap.objs.size:=λd o f=>X' (Q' f)
 have cell:∀x a,E.lookup x=J a->∃v,s.heap.IsCell a v:=λx a f=>I.cell x a (A x a (lookup_mem f))
 have S:∀x a,E.lookup x=J a->a≠s.heap.objs.size+1/\a≠s.heap.objs.size:=λx a f=>by
  obtain⟨v,o,C,_⟩:=cell x a f;exact⟨(λd o f=>X' (aa' (Q' f))) a o C,Q a o C⟩
 have T:∀d∈Q1,d<s.heap.objs.size:=λd j=>xe (P d j) λo f=>Q' f
 have fr:=I.hok.fresh (R' s.heap.objs.size);obtain⟨nd,r⟩:=r
 refine⟨⟨I.ok.mod,B.kind,I.ok.glob,I.ok.blt,Ā _,λx y a D e2=>?_,λx h=>?_,λx a f _=>absurd (show _d=_t from f) ϔ,I.ok.hd,I.ok.frames,.inl Y,λd j=>⟨?_,λx a f z=>?_⟩,λd o f=>I.bs d o f,N' I.ok.xZ I.sz,λd o f j=>?_,λd j U=>?_,I.stack,I.ka⟩,
  Y,I.bare,?_,⟨θ,ns,λi x v D e2 e3=>?_⟩,λx a f=>?_,?_,λx a f=>?_,λp hp=>absurd (show p∈([]:List (f'×Obj))from hp) (by simp),?_,?_⟩
 .exact I.ok.inj x y a (A x a (lookup_mem D)) (A y a (lookup_mem e2))
 .have h:(ġ o0 c.env).names.lookup x=J .cell\/(ġ o0 c.env).names.lookup x=J .free:=h
  unfold ġ at h;simp only[fv]at h;cases q:o0.names.lookup x with
  |none=>rw[q]at h;simp at h
  |some k=>
   rw[q]at h;have hm:=lookup_mem q
   have t:k=.free:=by
    by_cases t:k=.free
    .exact t
    .have V:(k==ϓ)=false:=by simpa using t
     rw[ņ]at h;simp only[V,Bool.false_and,Ĳ,if_false,agG]at h;rcases h with z|z
     .exact absurd z (B.cell _ hm)
     .exact z
   obtain⟨a,X⟩:=c2 _ hm t;exact mem_lookup X
 .exact X' (aa' (T d j))
 .exact(M d j).2.2.2.2.1 x a (A x a (lookup_mem f)) z
 .rcases(M d j).2.2.2.1 with z|z
  .exact I.ok.t6 d o f z
  .exact absurd (P' (Q' (I.ok.bs d o f).1) z) (ä _)
 .rcases Ì.mp (I.rj d U)with z|z
  .exact(M d j).2.1 z
  .exact(M d j).2.2.1 z
 .exact Un.laid N (R' _) fr
 .have F:i<l.length->False:=λG=>by
   have:(iE l.length π A2)[i]?=J none:=by
    unfold iE;rw[ë (by simpa using G),abJ,if_pos G]
   rw[this]at e2;cases e2
  have G:l.length<=i:=ϐ F;have D:(l++i0)[i]?=J x:=D;rw[ī G]at D
  have g:(uB π A2)[i - l.length]?=J (J v):=by
   unfold iE at e2;rw[ī (by simpa using G)]at e2
   simpa using e2
  unfold uB at g;rw[Ü]at g;cases q:π[i - l.length]? with
  |none=>rw[q]at g;cases g
  |some O=>
   rw[q]at g;have e2:(A2[O]?).join=J v:=by simpa using g
   have e4:A2[O]?=J (J v):=by
    cases q2:A2[O]? with
    |none=>rw[q2]at e2;exact bD e2
    |some z=>simp_all
   obtain⟨hN,w⟩:=B.at' _ _ _ D q;have t:=B.free _ (lookup_mem w) Y
   have K:BL c.env.scope x:=by
    rcases t with z|z
    .exact .inr (.inl z)
    .exact .inr (.inr z)
   refine bN I.loc λm0 c0 Z=>?_
   obtain⟨u,ru,lk⟩:=Z O x v hN e4 K;refine⟨u,ru,.inr ⟨?_,?_⟩⟩
   .show(ġ o0 c.env).names.lookup x=J .cell\/(ġ o0 c.env).names.lookup x=J .free
    unfold ġ;simp only[fv,w,ņ];split
    .exact .inl Y
    .exact .inr Y
   .have lk:∃a,c.env.cells.lookup x=J a/\s.heap.IsCell a (J u):=by
     rcases lk with ⟨z,_⟩|⟨_,z⟩
     .rcases t with y|y<;>rw[y]at z<;>cases z
     .exact z
    refine bN lk λa X a0=>?_
    obtain⟨c',b0⟩:=c2 _ (lookup_mem w) Y;obtain⟨d0,m⟩:=mem_lookup b0;have:=A _ _ (lookup_mem m);rw[X]at this;cases this
    obtain⟨o,C,r⟩:=a0;exact⟨a,m,o,N _ _ C,r⟩
 .obtain⟨v,o,C,r⟩:=cell x a f
  exact⟨v,o,N _ _ C,r⟩
 .show upd e s.heap.objs.size (.l []) (s.heap.objs.size+1)=_n
  rw[av (acz _)];exact I.hok.fresh (Ā _)
 .refine⟨?_,λhz=>absurd (show _d=_t from hz) ϔ⟩
  rw[av (S x a f).2];exact(I.dE x a (A x a (lookup_mem f))).1
 .refine I.hok.laid N (R' _) ⟨ĉ _,[],nd,.nil,r⟩
 .show(iE l.length π A2).length=(l++i0).length
  unfold iE uB;rw[Ģ,Ģ,List.length_replicate,ß,B.len]
def KU(X)(a:B p')(t:TT):=∀pins s (b:L2.St) H Q,Inv X pins b H s->t b H Q->nc (B' X.prog X.w) X.A (yt a X.env) (TP X pins b Q) X.xe s
theorem HN:KU c [] (λ_ H Q=>Q _t H):=λpins s a H Q I h=>I' ⟨H,I,h⟩
theorem HP(h:PT c n m5):KU c [n] m5:=λpins s a H Q I q=>wpAny_tests_one (h _ s a H Q I q)
def qw(o:TI)(p:Nat)(f:B Nat)(g:TG)(q:TT)(r:TE):TE:=λh H Q=>o h H λJ j=>∀D,j D=_n->∃W:Nat->Nat->B V->Hp->Prop,(∃m,W 0 m [] (upd j D (.l []))) /\
 ∀i m a c,W i m a c->c D=some (.l a)/\((J.stop i c/\Q (.ref D) c)\/(J.go i c/\a.length<U'/\∀x k,J.UY i c x k->g x (iE p f h) k λd s=>q d s λb l=>
  if b=_t then r d l λy n=>n D=some (.l a)/\∃e,e<m/\W (i+1) e (a++[y]) (upd n D (.l (a++[y])))else ∃e,e<m/\W (i+1) e a l))
variable{T:K'}{T7:TI}{w6:TG}
theorem qx{use}(hc:c.calm=_t)(B:kF c o0 l i0 π)(hi:PI c n ξ T7)(hs:∀x,đ ξ c.env x=pure x)(p0:∀v A2 e Ξ,w6 v A2 e Ξ->w6 v A2 e λQ E=>Ξ Q E/\Q.length=A2.length/\∀j,l.length<=j->Q[j]?=A2[j]?)(t:∀F C G H fp,PG (blk c o0 F C (l++i0) G H fp) n w6/\KU (blk c o0 F C (l++i0) G H fp) Z m5/\PE (blk c o0 F C (l++i0) G H fp) M3 u0)(r0:∀s' E C D m,Inv c R A2 E s'->s'.heap.Ns C m->E C=_n->C≠c.env.locals->c.s₀.heap.objs.size<=C->(∀x k,c.env.cells.lookup x=some k->k≠C)->(∀p∈c.pn++R,p.1≠C)->Ξ (.ref D) E ->
   compPost (B' c.prog c.w) c.A c.xe use ψ (.ref D) C (.ok .next) s')(I:Inv c R A2 e y)(h:qw T7 l.length π w6 m5 u0 A2 e Ξ):
  nc (B' c.prog c.w) c.A (comprehension (.ListComp M3 [⟨n,ξ,Z,0⟩] o0 o) o0 c.env T (newList []) _d (eval ξ c.env) use) ψ c.xe y:=by
 have t0:∀f∈o0.names,f.2=.free->∃k,c.env.cells.lookup f.1=some k:=λf hy hk=>I.ok.has f.1 (B.free f hy hk)
 refine aH (wA t0) λF v0 c1 c2=>?_
 refine wpAny_comprehension_free (use:=use) Y hs v0 B.kind B.names ?_;refine bO (hi R y A2 e _ I h) λv s1 S=>bO S λI0 s2 h2=>?_
 refine xe h2 λit U=>bu U λfp V J K a X g b0 f2 h=>?_
 subst a;have fr:=X.hok.fresh (R' s2.heap.objs.size);refine bN (h s2.heap.objs.size fr) λW x0 c0=>?_;obtain⟨m0,w0⟩:=x0
 refine Ϸ (wpAny_newFunctionEnv B.cell (λf hy=>absurd hy (by simp)) (λS ns sb=>?_) B.kind)
 dsimp only at ns sb ⊢;rw[(ŵ _ _)]at ns sb ⊢;have kp:∀b d,s2.heap.get? b=some d->S.get? b=some d:=λb d a=>sb.extBut b d (X' (aa' (Q' a))) (Y' _ (Y' _ a))
 have hD:∃s,S.get? s2.heap.objs.size=some {cls:=.type "list",data:=.seq ([]:List g').toArray s}:=⟨0,sb.extBut _ _ (X' (ϕ _)) (Y' _ (Ò _ Y))⟩;have d0:∀b∈fp,∃d,s2.heap.get? b=some d:=λb t=>bN (g.obj 0 _ b0 b t) λd a _=>⟨d,a⟩
 have I4:Inv (blk c o0 F (s2.heap.objs.size+1) (l++i0) s2 K fp) [] (iE l.length π A2) (upd K s2.heap.objs.size (.l [])) {s2 with heap:=S,toks:=s2.toks+([]:List (L×g')).length}:=
  AG B X f2 d0 c1 c2 kp hD ns
 refine mO (t F (s2.heap.objs.size+1) s2 K fp) λhg ht he=>?_
 have e0:V 0 S:=g.keep 0 _ _ b0 λb t d a=>kp b d a
 have y0:∀b∈fp,upd K s2.heap.objs.size (.l []) b=none:=λb t=>by
  obtain⟨d,a⟩:=d0 b t;rw[av (X' (Q' a))];exact(f2 b t).1
 have M:∀{E:Hp}{pl:List (f'×Obj)},(∀b∈fp,E b=_n)->∀b∈fp,nP (blk c o0 F (s2.heap.objs.size+1) (l++i0) s2 K fp) [] E b:=λhn b t=>
  ⟨hn b t,(I4.ok.L_ b t).1,I4.ok.t7 b t,.inl t,(I4.ok.L_ b t).2,λp hp=>absurd (show p∈([]:List (f'×Obj))from hp) (by simp)⟩
 have P:Û (B' c.prog c.w) c.A (.compLoop (.ListComp M3 [⟨n,ξ,Z,0⟩] o0 o) 0 (.ref it) (.ref s2.heap.objs.size) (compEnvC o0 F (s2.heap.objs.size+1) c.env))
   (compPost (B' c.prog c.w) c.A c.xe use ψ (.ref s2.heap.objs.size) (s2.heap.objs.size+1)) {s2 with heap:=S,toks:=s2.toks+([]:List (L×g')).length}:=by
  refine AF (λs s'=>∃i ys E,Inv (blk c o0 F (s2.heap.objs.size+1) (l++i0) s2 K fp) [] (iE l.length π A2) E s'/\V i s'.heap/\(∀b∈fp,E b=_n)/\W i s ys E) ?_ m0 ⟨0,[],_,I4,e0,y0,w0⟩
  rintro s s5 ⟨i,ys,H5,I5,g0,h0,w5⟩;obtain⟨K0,z0⟩:=c0 i s ys H5 w5;rcases z0 with ⟨stop,qn⟩|⟨go,j0,step⟩
  .refine bO (g.done (blk c o0 F (s2.heap.objs.size+1) (l++i0) s2 K fp) Y Y Y hc i [] s5 _ H5 _ I5 (M (pl:=[]) h0) g0 stop) λr s6 N=>?_;obtain⟨hr,I6⟩:=N
   subst hr;refine bN I6.loc λmC nC _=>?_
   have I7:Inv c R A2 H5 s6:=by
    refine X.call' I6.os I6.base I6.hok I6.bare λb t=>?_
    refine dm (f2 b t) λf0 f1 f3 f4 f5 f6=>?_
    exact⟨f4,f1,f5,f6⟩
   have hC:s2.heap.objs.size<=s2.heap.objs.size+1:=Ā _;refine r0 s6 H5 (s2.heap.objs.size+1) s2.heap.objs.size mC I7 nC I6.free (Þ (P' X.lt hC)) (N' X.sz hC) (λx k a z=>?_) (λp hp z=>?_) qn
   .obtain⟨v,q⟩:=X.cell x k a
    exact absurd (P' q.lt (by rw[z];exact hC)) (ä _)
   .exact absurd (P' (Q' (X.pin p hp).1) (by rw[z];exact hC)) (ä _)
  .refine bO (g.item (blk c o0 F (s2.heap.objs.size+1) (l++i0) s2 K fp) Y Y Y hc i [] s5 _ H5 _ I5 (M (pl:=[]) h0) g0 go) λr s6 N=>?_;refine bN N λu hr h6=>?_
   subst hr;refine bO h6 λ_ s7  zf =>bW zf λx H7 I7 r7 y7 a0 A0=>?_
   have C0:=I7.pinned (M (pl:=[]) A0) (g.obj _ _ a0);refine bO (hg _ s7 _ H7 x u _ C0 r7 (p0 _ _ _ _ (step x H7 y7))) λ_ s8 N=>?_;refine bT N λO H8 I8 q8 l8 k8=>?_
   refine bO (ht _ s8 O H8 _ I8 q8) λok s9 N=>?_;refine bN N λH9 I9 q9=>?_
   have ő:∀{sA:iv}{HA:Hp},Inv (blk c o0 F (s2.heap.objs.size+1) (l++i0) s2 K fp) ([]++rm fp s7.heap) O HA sA->Inv (blk c o0 F (s2.heap.objs.size+1) (l++i0) s2 K fp) [] (iE l.length π A2) HA sA/\V (i+1) sA.heap/\∀b∈fp,HA b=none:=λ{sA HA} IA=>by
    refine⟨(IA.kg (R:=[])).weak l8.symm λj v hj=>?_,g.keep _ _ _ a0 λb t d a=>(IA.pin (b,d) (å _ (å _ (hU t a)))).1,λb t=>?_⟩
    .have D0:l.length<=j:=by
      refine ϐ λl0=>?_
      have:(iE l.length π A2)[j]?=some none:=by
       unfold iE;rw[ë (by simpa using l0),abJ,if_pos l0]
      rw[this]at hj;cases hj
     rw[k8 j D0];exact hj
    .refine bN (g.obj _ _ a0 b t) λd a _=>?_
     exact(IA.pin (b,d) (å _ (å _ (hU t a)))).2.1
   cases ok with
   |false=>
    rw[if_neg (by decide)]at q9 ⊢
    exact bN q9 λm' hm w'=>mO (ő I9) λa1 a2 a3=>⟨m',hm,i+1,ys,_,a1,a2,a3,w'⟩
   |true=>
    rw[if_pos Y]at q9 ⊢;refine bO (he _ s9 O H9 _ I9 q9) λf sB N=>?_;refine bT N λv HB IB rB G0 U=>bN U λm' hm w'=>?_
    have hx:=qb (c:=blk c o0 F (s2.heap.objs.size+1) (l++i0) s2 K fp) _ sB O HB (.ref s2.heap.objs.size) [v] (.ref s2.heap.objs.size) [f] (λ_ E=>E=upd HB s2.heap.objs.size (.l (ys++[v]))) IB Y (.cons rB .nil)
     ⟨s2.heap.objs.size,ys,v,Y,Y,G0,j0,Y⟩
    refine bO hx λ_ sC N=>?_;refine aP N λ_ HC IC _ eC=>?_
    subst eC;refine mO (ő IC) λa1 a2 a3=>?_
    exact⟨m',hm,i+1,ys++[v],_,a1,a2,a3,w'⟩
 exact codeAny_compStart_list P (g.self c.A 0 _ _ _ e0 P)
theorem yu(t:c.calm=_t)(B:kF c o0 l i0 π)(u:PI c n ξ T7)(w:∀x,đ ξ c.env x=pure x)(k:∀v i H Q,w6 v i H Q->w6 v i H λf p=>Q f p/\f.length=i.length/\∀j,l.length<=j->f[j]?=i[j]?)(y:∀r C a d fp,PG (blk c o0 r C (l++i0) a d fp) n w6/\KU (blk c o0 r C (l++i0) a d fp) Z m5/\PE (blk c o0 r C (l++i0) a d fp) M3 u0):
  PE c (.ListComp M3 [⟨n,ξ,Z,0⟩] o0 o) (qw T7 l.length π w6 m5 u0):=by
 intro pins s i H Q I h;refine qx t B u w k y (λP p C D m z A E F G K M q=>⟨m,A,λR N=>⟨.ref D,p,z.turned (λb g O e=>N.extBut b g O e) E F (.inr G) K M,Y,q⟩⟩) I h
variable{P1:K'}
theorem wB(E:c.N.Nodup)(t:c.N[b]?=J d)(A:c.env.scope.names.lookup d=J .local)(u:ì (.ListComp M3 [⟨n,ξ,Z,0⟩] o0 o) (J (.Name d T)) P1.line c.env=pure _t)(F:c.calm=_t)(B:kF c o0 l i0 π)(G:PI c n ξ T7)(K:∀d,đ ξ c.env d=pure d)(w:∀v r H Q,w6 v r H Q->w6 v r H λi x=>Q i x/\i.length=r.length/\∀j,l.length<=j->i[j]?=r[j]?)(M:∀y C f g fp,PG (blk c o0 y C (l++i0) f g fp) n w6/\KU (blk c o0 y C (l++i0) f g fp) Z m5/\PE (blk c o0 y C (l++i0) f g fp) M3 u0):
  PS c (.Assign [.Name d T] (.ListComp M3 [⟨n,ξ,Z,0⟩] o0 o) P1) (Mb (qw T7 l.length π w6 m5 u0) (kb b)):=by
 intro pins s r H D I h;rw[exec_Assign_Name_used _ _ _ _ u];refine j' (Ϲ (j' ?_));refine j' ?_;refine qx F B G K w M (λs' x C P m R S U V X h4 h5 q=>?_) I h
 refine acW (pX R E t (.inl A) (O:=.ref P) Y (λs2 I2 ch=>?_) (.inr A))
 obtain⟨a,sb,ha⟩:=ch
 refine⟨m,S.sameBut sb (by
  grind),λh' z=>I' (I' ⟨_,x,I2.turned (λk p nb e=>z.extBut k p nb e) U V (.inr X) h4 h5,q⟩)⟩
theorem PI.imp{t'}(h:PI c n ξ T7)(i:∀a H R,t' a H R->T7 a H R):PI c n ξ t':=λpins s a H R I q=>h _ s a H R I (i a H R q)
theorem kG:∀n a,(intsFrom a n).length=n
 |0,_=>Y
 |n+1,a=>by rw[intsFrom,ċ,kG n]
theorem ints_get:∀n a (i:Nat) d,(intsFrom a n)[i]?=J d->d=.int (a+i)
 |0,_,_,_,h=>by simp[intsFrom]at h
 |n+1,a,0,d,h=>by simp[intsFrom]at h;subst h;simp
 |n+1,a,i+1,d,h=>by
  rw[ints_get n _ i d h]
  grind
noncomputable def Its(x:L):It:=⟨λi _=>i<x.cps.size,λi H v a=>a=H/\∃c,x.cps[i]?=J c/\v=.str ⟨#[c]⟩,λi _=>x.cps.size<=i⟩
theorem DB(a x t p)(g:p="str_ascii_iterator"\/p="str_iterator"):Turn M N G n (Its x) [a] a (λi h=>h.IsStrIter a p x t i) where
 mem:=by simp
 obj:=λi h f b j=>by
  refine aH f λo e c d=>?_
  simp_all
 keep:=λi h O f k=>bN (f) λo e r=>⟨o,k a (by simp) o e,r⟩
 item:=by
  intro X T U V l i pins s σ H E I y f P;subst T U V;refine dm (y a (by simp)) λz C f2 D F K=>?_
  have W:Walks X.prog X.w X.A a [a] [a] x.cps.size (SignAt x) (λi h=>h.IsStrIter a p x t i):=by
   rcases g with rfl|rfl
   .exact Walks.strAscii (I.ok.hd l) a x t
   .exact Walks.strWide (I.ok.hd l) a x t
  refine W.item i s _ _ P f λv O tk hv m kk=>?_
  refine cy hv λc u hx R=>?_;subst R
  refine aH (id m) λo e q d=>?_
  refine⟨_,Y,ua e q d (by rcases g with rfl|rfl<;>decide) ⟨.str ⟨_⟩,H,(I.turned (λb o j e=>kk b o (by simp_all) e) z C D F K),⟨u,Y⟩,⟨Y,c,hx,Y⟩,m,λb j=>(y b j).1⟩⟩
 done:=by
  intro X T U V l i pins s σ H E I y f P;refine dm (y a (by simp)) λz C f2 D F K=>?_
  have Z:x.cps.size<=i:=P;rcases g with rfl|rfl
  .exact wpAny_pyNext_ascii_end (I.ok.hd l) f (by simp[Z]) λO S=>⟨Y,I.turned (λb o j e=>S b o j e) z C D F K⟩
  .exact wpAny_pyNext_wide_end (I.ok.hd l) f (by simp[Z]) λO S=>⟨Y,I.turned (λb o j e=>S b o j e) z C D F K⟩
 self:=λA i s Q E f h=>by
  rcases g with rfl|rfl
  .exact wpAny_pyIter_striter_ascii f h
  .exact wpAny_pyIter_striter_wide f h
theorem ml(n)(d:0<n):∀v b H Q,kb 0 v b H Q->kb 0 v b H λa c=>Q a c/\a.length=b.length/\∀j,n<=j->a[j]?=b[j]?:=λv b H Q h=>⟨h,by simp,by grind⟩
variable{C8 T6:TS}{ω:O'}
theorem PS.imp(h:PS c ω T6)(i:∀D a H,C8 D a H->T6 D a H):PS c ω C8:=λpins s a H D I q=>h _ s a H D I (i D a H q)
variable{X3:B O'}
theorem j6.imp(h:j6 c X3 T6)(i:∀D a H,C8 D a H->T6 D a H):j6 c X3 C8:=λpins s a H D I q=>h _ s a H D I (i D a H q)
def ie:B Nat->Kx
 |[]=>Qo
 |i::a=>Kz (kb i) (ie a)
theorem qy{X}{nms:B (L×K')}(b:X.N.Nodup):∀a (nms:B (L×K')),a.length=nms.length->(∀(j i:Nat) x,a[j]?=J i->nms[j]?=J x->X.N[i]?=J x.1/\Loc X.env.scope x.1/\(X.fn x.1=_t\/X.env.scope.names.lookup x.1=J .local)) ->
  Qn X (nms.map λx=>Ň x.1 x.2) (ie a)
 |[],[],_,_=>yb
 |[],_::_,h,_=>by cases h
 |_::_,[],h,_=>by cases h
 |i::a,(x,f)::nms,g,h=>by
  refine mO (h 0 i _ Y Y) λc d e=>nO (ke b c d e) (qy (nms:=nms) b a _ (by simp_all) λj i x k e2=>h (j+1) i x (by simp_all) (by simp_all))
def yv:V->B V->Hp->VK->Prop:=λx b H Q=>∃l a k y,x=.ref l/\b=[.int k,y]/\H l=J (.l a) /\ -(2 ^ 63)<=k/\k<2 ^ 63/\a.length<U'/\Q .n (upd H l (.l (su a k y)))
theorem iR{s}(I:Inv c R A2 e s)(l:∀a∈z,nP c R e a)(k:∀a T2,a∉z->s.heap.get? a=J T2->H.get? a=J T2)(p:s.heap.objs.size<=i)(t:cu c.prog c.w (upd e i T2) H i T2):Inv c R A2 (upd e i T2) {s with heap:=H,toks:=b}:=by
 have x:∀a u,e a=J u->a∉z:=λa u d f=>by rw[(l a f).1]at d;exact bD d
 have o:∀a u,e a=J u->upd e i T2 a=J u:=λa u d=>by rwa[av (aS d (I.hok.fresh p))]
 refine I.step (λa j=>?_) (λa T2 _ _ h d _=>k a T2 h d) (λa T2 _ _ h d _=>⟨_,k a T2 h d⟩) (λa u _ d n=>?_)
  (λa T2 h d=>⟨T2,k a T2 h d⟩) (λa M d=>o a _ d) (λa u v d=>o a _ d) (λa N d=>⟨#[],by simp_all⟩) (λm y=>?_) (λa u d=>?_) I.bare
 .refine dm (l a j) λO A P C D E=>⟨C,A,D,E⟩
 .have:a≠i:=λf=>absurd (Q' d) (by simp_all)
  rwa[av this]
 .refine ei y λT2 F G K r=>⟨T2,F,G,k _ T2 (λf=>(l _ f).2.1 Y) K,r⟩
 .by_cases j:a=i
  .subst j
   rw[aD]at d;simp_all
  .rw[av j]at d
   refine(I.hok a u d).stay (λg v h q=>k g v ?_ q) (λg q=>o g _ q) (by simp_all)
   grind
noncomputable def Ite(K:G')(a:f'):It:=
 ⟨λi H=>∃b x,mP K H a b/\b[i]?=J x,λi H x c=>∃p,x=.ref p/\H p=_n/\∀b,mP K H a b->∃v,b[i]?=J v/\c=upd H p (.t [.int i,v]),λi H=>∃b,mP K H a b/\b.length<=i⟩
theorem AH(a e r)(y:e≠r):
  Turn M N G (.Tuple Z b o) (Ite G a) [e,r] e (λi h=>(∃l,Ť h e r i l)/\h.IsListIter r a i) where
 mem:=by simp
 obj:=λi h n f t=>by
  obtain⟨⟨l,j⟩,g,e2,c,d⟩:=n
  grind
 keep:=λi h h' n k=>by
  obtain⟨⟨l,j⟩,m⟩:=n;exact⟨⟨l,k e (by simp) _ j⟩,m.at λg q=>k r (by simp) g q⟩
 item:=by
  intro X F K O hc i pins s σ H E I C n P;subst F K O;refine cy P λxs x D Q=>?_
  obtain⟨⟨l,j⟩,m⟩:=n;refine aH (I.list D) λR S p hz=>?_
  refine bN (S.get Q) λu hu ru=>?_
  refine wpAny_pyNext_enum_item j m p.isList (by simpa using hu) y λh' so si tu sz kp=>?_
  refine⟨_,Y,aeB so λh2 se T=>?_⟩
  have A:=Q' j;refine⟨.ref _,_,?_,Y,⟨_,Y,I.hok.fresh (R' _),λys hy=>⟨x,by rwa[I.t_ hy D],Y⟩⟩,⟨⟨u,by grind⟩,?_⟩,λf t=>?_⟩
  .have U:ķ h2 _ _:=⟨_,(T.extBut _ _ (Þ A) tu),Y,_,Y⟩
   have V:cu X.prog X.w (upd H s.heap.objs.size (.t [.int i,x])) h2 _ (.t [.int i,x]):=⟨by rw[ą];simp,_,.cons ⟨_,Y⟩ (.cons ru .nil),U⟩
   have:=iR (b:=s.toks+1) I C (λf g t q=>by
   have h1:f≠e:=λz=>t (by simp[z])
   have h3:f≠r:=λz=>t (by simp[z])
   exact T.extBut f g h1 (kp f g h1 h3 q)) (R' _) V
   exact this
  .exact si.extBut T.extBut (Í y)
  .rw[av (X' (by
    rcases Ì.mp t with z|z
    .subst z;exact A
    .have z:f=r:=by simpa using z
     subst z;obtain⟨g,q,_⟩:=m;exact Q' q))]
   exact(C f t).1
 done:=by
  intro X F K O hc i pins s σ H E I C n P;subst F K O;obtain⟨xs,D,Q⟩:=P;obtain⟨⟨l,j⟩,m⟩:=n;refine aH (I.list D) λR S p hz=>?_
  refine dm (C r (by simp)) λf0 f1 f2 f3 f4 f5=>?_
  have hl:=S.length;exact wpAny_pyNext_enum_end (I.ok.hd hc) j m p.isList (by simp;exact N' (Á hl.symm) Q) λh' eb=>⟨Y,I.turned (λf g t e=>eb f g t e) f0 f1 f3 f4 f5⟩
 self:=λ_ _ _ _ _ n h=>by
  obtain⟨⟨l,j⟩,_⟩:=n;exact abd j h
theorem mU:∀a k,(fP k a).length=a.length
 |[],_=>Y
 |d::a,k=>by rw[fP,ċ,ċ,mU a]
theorem mV:∀a k i (d:D),(fP k a)[i]?=J d->∃x,a[i]?=J x/\d=.t [.int (k+i:Nat),x]
 |[],_,_,_,h=>by simp[fP]at h
 |d::a,k,0,b,h=>by simp[fP]at h;simp_all
 |d::a,k,i+1,b,h=>by
  obtain⟨x,c,e⟩:=mV a _ i b h;exact⟨x,by simp_all,by grind⟩
theorem yw:∀{c}{xs}{Z}{H}{a}{b},ux c=J xs->aW Z H c a->Vals a b->StrsAre b xs
 |[],xs,Z,H,a,b,h,r,q=>by
  cases h;rw[r.nil_inv]at q;cases q;exact .nil
 |d::c,xs,Z,H,a,b,h,r,q=>by
  obtain⟨v,k,rfl,e,f⟩:=r.cons_inv;cases d with
  |str x=>
   obtain⟨l,g,rfl⟩:=È.mp h;subst e;cases q with
   |cons i j=>
    obtain⟨t,rfl⟩:=i;exact .cons x t (yw g f j)
  |_=>exact bD h
def rJoin:V->B V->Hp->VK->Prop:=λx c H Q=>∃z Z b a y,x=.str z/\c=[y]/\Now Z H (.l b) y/\ux b=J a/\z.length<=16/\(a.map (·.length)).sum+a.length<=1048576/\Q (.str (Txt.join z a)) H
theorem HQ:Mu c "str.join" rJoin:=by
 intro pins s w H x A v C Q I b d h;obtain⟨z,Z,D,E,y,rfl,rfl,n,e,f,g,q⟩:=h;obtain⟨t,rfl⟩:=b;obtain⟨l,F,rfl,i,j⟩:=cV n;obtain⟨u,rfl,m⟩:=d.one;cases m;obtain⟨o,a,p,G⟩:=I.list (mS i);exact join_listW p.isList (by simpa using yw e j a) f g λr k=>⟨.str _,H,I.tok _,⟨r,Y⟩,q⟩
theorem AI:Va c "list.insert" yv:=by
 intro pins s G H x K v M Q I m o h;refine bu h λl p k y d f i w A b=>xa b λN q=>?_;subst d;subst f
 cases m;obtain⟨u,j,rfl,C,g⟩:=o.two;obtain⟨t,rfl⟩:=C;refine xa (I.Cq i) λz b=>aP b λa n r D e=>?_
 refine Ğ aeC ⟨_,e,Y⟩ F.entry_list_insert (F.args_list_insert_3 _ _ _) (agH l _ n k t j (by rw[adt w A];simp) (by simp_all)) ⟨e,?_⟩
 refine⟨.n,_,I.G_ (V5:=su a k j) i e ?_ ?_ ?_,Y,q⟩
 .have O:(if k<0 then (k+(a.toArray.size)).toNat else min k.toNat a.toArray.size)=HT.kj a.length 0 (J k):=by rfl
  unfold su
  grind
 .have E:HT.kj p.length 0 (J k)=HT.kj a.length 0 (J k):=by rw[D]
  unfold su;rw[E];exact(r.take _).append (.cons g (r.drop _))
 .unfold su
  grind
def yx(h:L2.RelV O ζ)(a:L2.RelV D3 ζ):=h.inj a
def DC:V->B V->Hp->VK->Prop:=λx b H Q=>∃Z a d y j,b=[y]/\Now Z H (.l a) x/\Now Z H d y/\aI 8 d=_t/\a.all (aI 8)=_t/\a.findIdx? (λe=>d8 e d)=J j/\Q (.int j) H
theorem ff(r:aW v e q η)(b:Vals η A0)(f g):∃a,Rep v e q[m] a/\L2.RelV a A0[m]:=by
 obtain⟨a,h,j⟩:=r.get (i:=m) (d:=q[m]) (by simp[g])
 obtain⟨u,c,k⟩:=b.get h;rw[Ô f]at c;cases c;exact⟨a,j,k⟩
theorem uC(hu:c.A.units+64<Æ):Mu c "list.index" DC:=by
 intro pins s σ H x vs v us Q I U V h;refine xe h λZ C=>bu C λk d y j D X ny P o2 E=>xa E λhj q=>?_;subst D
 obtain⟨l,ws,rfl,q1,z⟩:=cV X;cases U;obtain⟨u,rfl,ru⟩:=V.one;refine aH (I.list (mS q1)) λa f pl R=>?_
 obtain⟨G,he,a0⟩:=aeD.mp hj;have K:=f.length;have r:=z.length;refine bT pl λo n ho hc p b0=>?_
 have g:∀m (b:m<k.length),aI 8 k[m]=true:=λm b=>á.mp o2 _ (by simp)
 have M:j<a.length:=P' (P' G (Á r.symm)) (Á K)
 classical
 let e:=λw=>decide (∃m,∃(b:m<a.length) (p:m<k.length),a[m]=w/\d8 k[m] d=_t)
 have t:∀m (b:m<a.length) (p:m<k.length),e _=d8 _ d:=λm b p=>by
  cases S:d8 _ d with
  |true=>exact decide_eq_true ⟨m,b,p,Y,S⟩
  |false=>
   refine decide_eq_false ?_;rintro⟨m',c0,i,e1,e2⟩;obtain⟨v1,N,O⟩:=ff z f b p;obtain⟨v2,r2,T⟩:=ff z f _ i;rw[e1]at T;have:=yx O T;subst this;rw[Rep.uniq _ _ _ _ (g m p) (g m' _) N r2]at S
   simp_all
 refine Ğ acA ⟨_,ho,hc⟩ F.entry_list_index (F.args_list_index_2 _ _)
  (SeqAt.list_indexAt l _ n _n o.slots u e j (by omega) (by rw[ą]at R;exact Ku (P' (P' M (Á K.symm)) R)) ?_ ?_) ⟨?_,λw hw=>?_,?_⟩
 .show e a[j]=_t
  rwa[t j _ _]
 .simp_all
 .obtain⟨c',d',dt,sl⟩:=o
  simp_all
 .obtain⟨m,b,rfl⟩:=aeE.mp (by simpa using hw)
  have i:m<k.length:=P' (P' b (Á K.symm)) (Á r);rw[t m b i];obtain⟨v1,N,O⟩:=ff z f b _;exact gG I 8 _ _ _ _ _ (by grind) (g m _) P (fQ I N.now O (g m _)) (fQ I ny ru P)
 .exact⟨.int j,H,I.tok _,⟨_,Y⟩,q⟩
theorem AJ(m x y t u):aeF m {pos:=[ă x t,ă y u]}=pure (x,y,0,x.length):=by
 unfold aeF agI agJ agK;have a:∀n,selfAndSome n m 1 3 {pos:=[ă x t,ă y u]}=pure (ă x t,[ă y u]):=λn=>by rfl
 have b:agL (ă x t)=pure x:=by rfl
 have c:asStr? (ă y u)=pure (J y):=by rfl
 simp[a,b,c]
theorem gives_str_index(x y t u i r)(h:Ě x y 0 x.length 1=i::r):Gives (ù.«str.index» {pos:=[ă x t,ă y u]}) (Made.int i):=by
 have g:=gives_str_find x y t u;unfold ù.«str.find» at g;unfold ù.«str.index»;rw[AJ]at g ⊢;rw[h]at g;simp only[pure_bind,h]at g ⊢;exact g
def yy:V->B V->Hp->VK->Prop:=λx a H Q=>∃z y i r,x=.str z/\a=[.str y]/\Ě z y 0 z.length 1=i::r/\Q (.int i) H
theorem AK:Mu c "str.index" yy:=by
 intro pins s g H x j v k Q I a b h;obtain⟨z,y,i,r,rfl,rfl,d,q⟩:=h;obtain⟨t,rfl⟩:=a;obtain⟨u,rfl,e⟩:=b.one;obtain⟨f,rfl⟩:=e;refine Ğ aeG (ϯ s z t) F.entry_str_index (F.args_str_index_2 _ _) (gives_str_index z y t f i r d).meets ?_;exact⟨.int i,H,I.tok _,⟨_,Y⟩,q⟩
theorem HR(m:PE c n u0)(p:PE c (.BoolOp .And (ξ::Z) o) E3):PE c (.BoolOp .And (n::ξ::Z) o) (λb H Q=>u0 b H λx e=>∃a,ub c.K x e a/\if a=_t then E3 b e Q else Q x e):=by
 intro pins s b H Q I h;refine BoolOp_and (bO (m _ s b H _ I h) λv q g=>?_);refine aP g λx e r j i=>bN i λa t k=>?_
 refine bO (rC _ q b e x v (λd f=>d=a/\f=e) r j ⟨a,t,Y,Y⟩) λd u g=>?_;refine aH g λf l w e2=>?_
 subst w e2;cases d with
 |true=>exact p _ u b f Q l k
 |false=>exact⟨x,f,l,j,k⟩
theorem MI(m:PE c n u0)(p:PE c (.BoolOp .Or (ξ::Z) o) E3):PE c (.BoolOp .Or (n::ξ::Z) o) (λb H Q=>u0 b H λx e=>∃a,ub c.K x e a/\if a=_t then Q x e else E3 b e Q):=by
 intro pins s b H Q I h;refine BoolOp_or (bO (m _ s b H _ I h) λv q g=>?_);refine aP g λx e r j i=>bN i λa t k=>?_
 refine bO (rC _ q b e x v (λd f=>d=a/\f=e) r j ⟨a,t,Y,Y⟩) λd u g=>?_;refine aH g λf l w e2=>?_
 subst w e2;cases d with
 |false=>exact p _ u b f Q l k
 |true=>exact⟨x,f,l,j,k⟩
theorem HS(i:PE c n u0):PE c (.UnaryOp .Not n o) (λe H Q=>u0 e H λx b=>∃a,ub c.K x b a/\Q (.bl (!a)) b):=by
 intro pins s e H Q I h;refine UnaryOp_ (bO (i _ s e H _ I h) λv j k=>?_);refine aP k λx b l m f=>bN f λa p q=>?_
 refine not_of (bO (rC _ j e b x v (λd g=>d=a/\g=b) l m ⟨a,p,Y,Y⟩) λd w  r =>aH r λg t u e2=>?_)
 subst u e2;exact⟨.bl _,g,t,Y,q⟩
theorem eU.nw(a:eU E X2 v e r0 h O):Now v r0 h O:=by
 cases E with
 |true=>exact a.now
 |false=>exact(a.weak).now
set_option backward.match.sparseCases false in
noncomputable def Rc(a:V')(x:L):Bool:=match a.names.lookup x with
 |J .local|J .cell|J .free=>_t
 |_=>_d
set_option backward.match.sparseCases false in
noncomputable def DD(a:V')(x:L):Bool:=match a.names.lookup x with
 |J .local|J .cell=>_t
 |_=>_d
noncomputable def AL(a:V')(x):=a.names.lookup x==J .globalImplicit
noncomputable def okN(x) := !(x==("__debug__":L))&&!(x==("__classdict__"))&&!(x==("__name__"))
noncomputable def MJ(N:B L)(x):=N.findIdx? (· == x)
def oE(a N x):=if Rc a x&&okN x then MJ N x else _n
def KW(x):=[Ty.int,.str,.bool,.list,.tuple,.dict].find? (λt=>t.nm==x)
set_option backward.match.sparseCases false in
noncomputable def isStar:p'->Bool
 |.Starred _ _=>_t
 |_=>_d
set_option backward.match.sparseCases false in
noncomputable def isSlice:p'->Bool
 |.Slice _ _ _ _=>_t
 |_=>_d
noncomputable def isSet:p'->Bool
 |.Set _ _ _=>_t
 |_=>_d
noncomputable def HU(scope a:V'):V':={scope with names:=scope.names.map λ(n,k)=>if (k==.free&&a.kind==.function&&a.names.lookup n==J .cell)then (n,.cell)else (n,k)}
noncomputable def eO(scope:V'):=(scope.names.filter λy=>y.2==.free).map (·.1)
def wC(a:V')(N:B L):B L->_o (B Nat)
 |[]=>J []
 |x::b=>do let i ←oE a N x;let c ←wC a N b;J (i::c)
def AN(scope)(sc:V')(x):=
 scope.kind==.function&&scope.names.all (λy=>!(y.2==.cell))&&scope.names.all (λy=>!(y.2==.local)||scope.names.lookup y.1==J .local) &&
 scope.names.all (λy=>!(y.2==.free)||(sc.names.lookup y.1==J .cell||sc.names.lookup y.1==J .free)&&scope.names.lookup y.1==J .free) &&
 scope.names.lookup x==J .local&&decide ((x::eO scope).Nodup)
set_option backward.match.sparseCases false in
noncomputable def MK(b:B acB):_o {r:L×K'×p'×B p' // b=[⟨.Name r.1 r.2.1,r.2.2.1,r.2.2.2,0⟩]}:=match b with
 |[⟨.Name x p,iter,a,0⟩]=>J ⟨(x,p,iter,a),Y⟩
 |_=>_n
def qz(a):=(MK a).map (·.1)
variable{E9:B acB}
theorem qC(h:qz E9=J (d,o,n,Z)):E9=[⟨.Name d o,n,Z,0⟩]:=by
 obtain⟨⟨_,h⟩,_,e⟩:=È.mp h;cases e;exact h
theorem DE(h:MJ l d=J b):l[b]?=J d:=by
 obtain⟨a,c,_⟩:=aeD.mp h
 simp_all
theorem sF(h:oE o0 l d=J b):l[b]?=J d/\BL o0 d/\(d==("__debug__"))=_d/\(d==("__classdict__"))=false:=by
 unfold oE at h;split at h
 .rename_i a
  simp only[Õ,okN,ϖ]at a;refine⟨DE h,?_,a.2.1.1,a.2.1.2⟩;have c:=a.1;unfold Rc at c;unfold BL
  grind
 .exact bD h
theorem yz(h:okN d=_t):(d==("__debug__"))=_d/\(d==("__classdict__"))=_d/\d≠"__name__":=by
 simp only[okN,Õ,ϖ]at h
 simp_all
noncomputable def er:B Str:=["len","all","any","list","tuple","int","min","max","bool","isinstance","str","dict","range","sorted","enumerate","reversed","set","zip"]
theorem bw(h:isStar n=_d):D' (n::Z) D5=(_d,eval n D5)::D' Z D5:=by
 cases n<;>first|rfl | (cases h)
theorem bJ{a pos}:∀{b},(∀e∈b,isStar e=_d)->(À pos (D' b a)).any (·.1)=_d
 |[],_=>Y
 |e::b,h=>by
  rw[bw (h e (by simp))]
  show(_d||(À _ _).any _)=_d
  rw[bJ (by grind)]
  rfl
variable{D4:Ty}
theorem Rf(h:KW d=J D4):d=D4.nm/\D4.nm∈er:=by
 have a:=acC h;exact⟨(eq_of_beq a).symm,by cases D4<;>decide⟩
theorem DF{c N}:∀{xs}{a},wC c N xs=J a->xs.length=a.length/\∀(j i:Nat) x,xs[j]?=J x->a[j]?=J i->N[i]?=J x
 |[],a,h=>by cases h;simp_all
 |x::xs,a,h=>by
  refine bN (ř.mp h) λi d h=>?_
  refine bN (ř.mp h) λe f h=>?_
  cases h;obtain⟨g,k⟩:=DF f;refine⟨by simp_all,λj l y b e2=>?_⟩
  cases j with
  |zero=>simp at b e2;subst b e2;exact(sF d).1
  |succ j=>grind
theorem kH(h:isSet n=_d):∀x,đ n D5 x=pure x:=by
 intro x;cases n<;>first|rfl | (simp[isSet]at h)
theorem uD(h:isSet n=_d):Ų A4 n=false:=by
 cases n<;>first|rfl | (simp[isSet]at h)
def uE(a N x):=if DD a x&&okN x then MJ N x else _n
set_option backward.match.sparseCases false in
noncomputable def lA:p'->Bool
 |.ListComp .. |.SetComp .. |.DictComp ..=>_t
 |_=>_d
set_option backward.match.sparseCases false in
noncomputable def uF(a:V')(x:L)(b:K')(e:p'):Bool:=match e with
 |.ListComp _ _ s _=>a.names.lookup x==J .local&&b.line==e.pos.line&&!(s.names.any λ(n,k)=>n==x&&(k==.local||k==.cell))
 |_=>_d
noncomputable def gH:B p'->_o (B (L×K'))
 |[]=>J []
 |.Name x p::r=>(gH r).map ((x,p):: ·)
 |_=>_n
def sG(a:V')(N:B L):B (L×K')->_o (B Nat)
 |[]=>J []
 |x::b=>do let i ←uE a N x.1;let c ←sG a N b;J (i::c)
set_option backward.match.sparseCases false in
noncomputable def DG:p'->Bool
 |.Call .. |.Name .. |.Subscript ..=>_t
 |_=>_d
theorem mn:∀{a}{nms},gH a=J nms->a=nms.map λx=>Ň x.1 x.2
 |[],_,h=>by cases h;rfl
 |e::a,nms,h=>by
  unfold gH at h;split at h
  .simp_all
  .rename_i x p r q
   cases q;obtain⟨c,b,h⟩:=È.mp h;subst h;rw[mn b];rfl
  .exact bD h
theorem qF(a):∀(nms:B (L×K')),(Đ (nms.map λx=>Ň x.1 x.2) a).length=nms.length/\(Đ (nms.map λx=>Ň x.1 x.2) a).findIdx? (·.1)=_n
 |[]=>⟨Y,Y⟩
 |x::r=>by
  obtain⟨b,c⟩:=qF _ r;refine⟨?_,?_⟩
  .show(Đ _ _).length+1=_
   rw[b];rfl
  .show List.findIdx? _ ((_d,_)::Đ _ _)=_n
   simp_all
def fT(N b:B L)(a):=
 a.kind==.function&&!a.isCoroutine&&!a.isGenerator&&decide N.Nodup&&decide (N.take b.length=b)&&b.all (DD a)&&a.names.all λy=>!(y.2==.free)
theorem eY(h:fT l i0 o0=_t):hY l i0 o0:=by
 simp only[fT,Õ,ϖ,decide_eq_true_eq,á,beq_iff_eq]at h;obtain⟨⟨⟨⟨⟨⟨a,b⟩,c⟩,d⟩,f⟩,g⟩,k⟩:=h;refine⟨a,b,c,d,f,λx i=>?_,λy m e=>?_⟩
 .have j:=g x i
  unfold DD at j
  grind
 grind
noncomputable def HV:g'->Bool
 |.type x=>x=="list"
 |_=>_d
def uG(K:G'):=K.all λp=>!HV p.2.cls
theorem uH:∀{K:G'}{a}{o},K.lookup a=J o->(a,o)∈K
 |[],_,_,h=>by exact bD h
 | (b,p)::K,a,o,h=>by
  rw[Ę]at h;split at h
  .simp_all
  .exact Ŭ _ (uH h)
theorem Rg(a:uG G=_t)(h:mP G e i η):Rd e i (.l η):=by
 rcases h with h|⟨o,b,n,c,d,_⟩
 .exact h
 .have:=á.mp a _ (uH c)
  rw[d]at this;exact absurd this (by decide)
noncomputable def DH(K:G')(x:L):Bool:=match ò K Ï x with
 |J _n=>_t
 |_=>_d
def sH(K):=er.all (DH K)
def DI(X:G.In H)(a:H.Ns Ï θ)(b:sH G=_t):=λx c=>by
 have:=á.mp b x c;unfold DH at this;split at this
 .rename_i q;exact aeH X a q
 .cases this
def Rh(K:G')(d:TE):TI:=λe H R=>d e H λx b=>(∃a c,x=.ref a/\Rd b a (.l c)/\R (Xy K a) b)\/(∃a c,x=.ref a/\Rd b a (.t c)/\R (Itt K a) b)\/(∃y,x=.str y/\R (Its y) b)\/QR R x b
theorem HW(m:PE c ξ u0):PI c n ξ (Rh c.K u0):=by
 intro pins s p H R I h;refine bO (m pins s p H _ I h) λv l r=>?_;refine aP r λx e d f u=>?_
 have g:∀b∈[l.heap.objs.size],nP c pins e b:=λb w=>by
  obtain rfl:b=l.heap.objs.size:=by simpa using w
  exact d.Cc (R' _) (d.hok.fresh (R' _))
 rcases u with ⟨a,z,rfl,i,q⟩|⟨a,z,rfl,i,q⟩|⟨y,rfl,q⟩|q
 .cases f
  obtain⟨j,A,k,C⟩:=d.list (mS i);refine aa3 k.isList ?_;exact⟨_,_,_,_,e,Y,d.kept λb o ξ=>Y' _ ξ,Ag a _,⟨_,Ò _ Y,Y,Y⟩,g,q⟩
 .cases f
  obtain⟨j,A,k,C⟩:=d.tuple (vK i);refine wpAny_pyIter_tuple (k) ?_;exact⟨_,_,_,_,e,Y,d.kept λb o ξ=>Y' _ ξ,vT a _,⟨_,Ò _ Y,Y,Y⟩,g,q⟩
 .obtain⟨t,rfl⟩:=f
  refine wpAny_pyIter_strU ?_;exact⟨_,_,_,_,e,Y,d.kept λb o ξ=>Y' _ ξ,DB _ y t _ (by unfold strIterType;split<;>simp),⟨_,Ò _ Y,Y,Y⟩,g,q⟩
 .exact Hw d f q
noncomputable def Ri(a:f')(o:Obj):It:=
 ⟨λi H=>∃b,H a=J (.cX o (.dK b))/\i<b.length,λi H x d=>∃p,x=.ref p/\H p=_n/\∀b,H a=J (.cX o (.dK b))->∃c,b[i]?=J c/\d=upd H p (.t [kV c.1,c.2]),λi H=>∃b,H a=J (.cX o (.dK b))/\b.length<=i⟩
theorem AO:aca table "dict_itemiterator.__iter__"=J ù.«dict_keyiterator.__iter__» :=
 aef (id':="dict_keyiterator.__iter__") (by kernel_rfl) (by rfl) (by decide +kernel) (by kernel_rfl)
variable{P:Nat}{S:f'}{T3:g'->iv->Prop}
theorem wD(a:IsItemIter y.heap i S b m P ζ U3)(h:T3 (.ref i) y):nc (B' M N) ο (Ħ (.ref i)) T3 ψ y:=by
 have c:y.TypeIs (.ref i) _:=⟨_,a,Y⟩;refine wpAny_pyIter_slot c aeI (š aeI c AO (I' ⟨_,Y,_,_,c,F.slot_dict_itemiterator_next.lookup,h⟩) (F.args_dict_itemiterator_iter_1 _))
variable{R0:Obj}{i9:Array ŗ}
theorem wF(a l)(T:R0.data=.dict i9 m):
  Turn M N G (.Tuple Z b o) (Ri a R0) [l] l (λi h=>∃ok t,IsItemIter h l a i i9.size m ok t) where
 mem:=by simp
 obj:=λi h d c j=>by
  grind
 keep:=λi h U d k=>by
  grind
 item:=by
  intro X y A C V i pins s σ H E I u d D;subst y A C;refine bN D λf F hx=>?_
  refine xe d λok g=>xe g λt d=>?_
  refine dJ (h_ I.hok F T) λvs r K x _=>?_
  have O:=Ô hx;refine bN (d6 r O) λq hv rq=>?_
  have n:=Q' d;rw[x]at d;refine wpAny_pyNext_items_item d K (k:=q.1) (v:=q.2) hv λp U hk so tu sz kp=>?_
  refine⟨_,Y,wpAny_letOwnedTupleGo_items so λP se sb=>?_⟩
  have Q:=sb.extBut _ _ (Þ n) tu;refine⟨.ref s.heap.objs.size,upd H s.heap.objs.size (.t [kV f[i].1,f[i].2]),?_,Y,⟨_,Y,I.hok.fresh (R' _),λa0 b0=>?_⟩,⟨_,_,by rw[x];exact se⟩,λc j=>?_⟩
  .have R:ķ P s.heap.objs.size [p,q.2].toArray:=⟨_,Q,Y,_,Y⟩
   have S:cu X.prog X.w (upd H s.heap.objs.size (.t [kV f[i].1,f[i].2])) P s.heap.objs.size (.t [kV f[i].1,f[i].2]):=⟨by rw[ą];simp,[p,q.2],.cons (by rw[rq.1];exact ku hk) (.cons rq.2 .nil),R⟩
   have:=iR (s:=s) (H:=P) (b:=s.toks) I u (λc R0 j q=>by
   have h1:c≠l:=λz=>j (by simp[z])
   exact sb.extBut c R0 h1 (kp c R0 h1 q)) (R' _) S
   exact this
  .simp_all
  .have e:c=l:=by simpa using j
   subst e;rw[av (X' n)];exact(u c j).1
 done:=by
  intro X y A C V i pins s σ H E I u d D;subst y A C;refine bN D λf F hx=>?_
  refine xe d λok g=>xe g λt d=>?_
  refine dJ (h_ I.hok F T) λvs r K x _=>?_
  refine dm (u l (by simp)) λf0 f1 f2 f3 f4 f5=>?_
  have hl:=r.length;rw[x]at d;exact wpAny_pyNext_items_end (I.ok.hd V) d K (by simp_all) λU eb=>⟨Y,I.turned (b:=s.toks) (λc R0 j e=>eb c R0 j e) f0 f1 f3 f4 f5⟩
 self:=λ_ _ _ _ _ d h=>by
  refine xe d λok g=>xe g λt d=>?_
  exact wD d h
def XU(R:It->Hp->Prop)(x:V)(c):=∃a b,x=.ref a/\((c a=J (.dK b)/\∀o,R (Ri a o) (upd c a (.cX o (.dK b))))\/∃o,c a=J (.cX o (.dK b))/\R (Ri a o) c)
theorem DJ(g:ý n "items" c.env (eval n c.env)=eval n c.env)(i:(T.endLine==P1.line)=_t)(m:PE c n u0):
  PI c (.Tuple Z b o) (.Call (.Attribute n "items" T) [] [] P1) (λp H R=>u0 p H (XU R)):=by
 intro pins s p H R I h;refine aeg g i (bO (m pins s p H _ I h) λv s1 zq=>?_);refine aP zq λx H1 D r1 q1=>?_
 obtain⟨a,j,rfl,q⟩:=q1;cases (r1)
 have u:∀(f:Obj) (k:Array ŗ) (l:Nat) (t:Hp),Inv c pins p t s1->t a=J (.cX f (.dK j))->f.data=.dict k l->R (Ri a f) t->nc (B' c.prog c.w) c.A (call (.builtin "dict.items") [.ref a]) (λv s2=>nc (B' c.prog c.w) c.A (Ħ v) (PIE c pins p (.Tuple Z b o) R) c.xe s2) c.xe s1:=by
  intro f k l t E e2 G K;refine dJ (h_ E.hok e2 G) λM r V hz X=>?_
  have dd:s1.heap.DictOf _ a M:=cy (V) λn k m r=>⟨n,k,l,m,r⟩
  refine abW ϑ dd.typeIs aeh (aei _) (aej _ a X) ⟨⟨M,dd⟩,?_⟩;generalize y:s1.heap.push _=N;have k1:∀d n,s1.heap.get? d=J n->N.get? d=J n:=λd n e=>by rw[←y];exact Y' _ e
  have hv:N.IsItemsView s1.heap.objs.size a:=by rw[←y];exact⟨_,Ò _ Y,Y,Y⟩
  have O:=V.at' λn e=>k1 a n e
  have P:=E.kept (t':=s1.toks) k1;refine wpAny_pyIter_items hv O ?_;have I4:Inv c pins p t {s1 with heap:=N.push {cls:=.type "dict_itemiterator",data:=.fields #[.none,.bool _d,.ref a,.int 0 0,.int M.length 0,.int l 0,.none,.none]} }:=P.kept λd n q=>Y' _ q
  refine⟨_,_,_,_,t,Y,I4,wF a _ G,?_,λd hb=>?_,K⟩
  .rw[hz]
   exact⟨_,_,Ò _ Y⟩
  .have z:=by simpa using hb
   rw[z];exact P.Cc (R' _) (P.hok.fresh (R' _))
 rcases q with ⟨C,K⟩|⟨f,C,K⟩
 .obtain⟨Q,S,t3⟩:=v_ D (.inl ⟨j,.inl C⟩)
  refine cD (D.r_ C) λf k l m G E=>?_
  exact⟨"dict",_,aa8,ϑ,acq,Q,S,ϰ Y (acr (u f k l _ E aD G (K f)))⟩
 .obtain⟨Q,S,t3⟩:=v_ D (.inl ⟨j,.inr ⟨f,C⟩⟩)
  obtain⟨m,_,X,M,r,o',k,l,U,b,x2,x3⟩:=D.hok a _ C;rw[m]at U;exact⟨"dict",_,aa8,ϑ,acq,Q,S,ϰ Y (acr (by grind))⟩
section
variable{prog:W'}{w:T'}{A:Ä}{E:g'->iv->Prop}{s:iv}{K:Type}[DecidableEq K]{knd:KeyKind prog w K}
theorem wG{kvs k}(a:s.heap.IsKeyIter i S b kvs.length m)(z:s.heap.DictAt knd S kvs m)(x:kvs[b]?=J (k,ζ))(C:∀f r,knd.is k f=_t->r.IsKeyIter i S (b+1) kvs.length m->Ĺ i s.heap r->ψ f {s with heap:=r}):
  nc (B' prog w) A (Ĵ (.ref i)) ψ E s:=by
 obtain⟨o,t,D,q⟩:=id a;obtain⟨H,g,h,G,j,I,y,M⟩:=id z;unfold Ĵ
 refine j' (ύ (name:=ώ "__next__") a.typeIs abe
  (š abe a.typeIs aeJ ?_ (aeK _)))
 refine j' (I' ?_);refine j' ?_;refine j' ?_
 first|refine j' (abf a.typeIs (I' ?_))|refine j' (abg a.typeIs (I' ?_))
 refine j' (aeL t q ?_);have l:aeM "dict_keyiterator"=false:=by decide
 simp only[l,Ĳ,if_false]
 show nc _ _ (if (Ë S==Ą)=_t then _ else _) _ _ s
 rw[if_neg (show ¬ ((Ë S==Ą)=_t)from ϔ)]
 refine j' (I' ?_);refine j' (aeN h j ?_);have n:g.size=kvs.length:=by rw[←y.length];simp
 rw[if_neg (by rw[n];simp)]
 refine j' (I' ?_);refine j' (aeO h j ?_);rw[if_neg (by simp)]
 refine I' ?_;have u:b<kvs.length:=(Ê.mp x).1;have c:b<g.size:=by rw[n];exact u
 have p:knd.is k g[b].key=true:=(y.get? (e:=g[b]) (by simp[c]) x).1
 simp only[show ¬ ((b:Int)<0)from by omega,if_false,aa5,Array.getElem?_eq_getElem c]
 refine j' ?_
 first|refine j' (abf a.typeIs (I' ?_))|refine j' (abg a.typeIs (I' ?_))
 refine j' (aeP a.typeIs ?_)
 show nc _ _ (ϵ (.ref i) 1 (ć ((b:Int)+1)) >>= _) _ _ s
 refine j' (Ŝ t q (by simp) ?_)
 have d:(s.heap.update i (ϊ (·.setIfInBounds 1 (ć ((b:Int)+1))))).IsKeyIter i S (b+1) kvs.length m:=
  ⟨_,ĝ _ t (ab4 (ń q _)),(ab8 ..).trans D,by rw[ń q];simp[ć]⟩
 refine j' (î ?_);refine j' (aeP (s:={s with heap:=s.heap.update i (ϊ (·.setIfInBounds 1 (ć ((b:Int)+1))))}) d.typeIs ?_)
 show nc _ _ (pure g[b].key) _ _ _
 exact I' (I' ⟨_,Y,I' (C _ _ p d (aeQ ..))⟩)
theorem qG{kvs}(l:A.handled=_n)(c:s.heap.IsKeyIter i S b kvs.length P)(r:s.heap.DictAt knd S kvs P)(t:kvs[b]?=_n)(u:∀j e,aeR i s.heap j->(∃o,j.get? e=J o/\o.cls=.type "StopIteration")->E (.ref e) {s with heap:=j}):nc (B' prog w) A (Ĵ (.ref i)) ψ E s:=by
 obtain⟨o,n,z,p⟩:=id c;obtain⟨C,q,d,x,f,D,y,G⟩:=id r;unfold Ĵ
 refine j' (ύ (name:=ώ "__next__") c.typeIs abe
  (š abe c.typeIs aeJ ?_ (aeK _)))
 refine j' (I' ?_);refine j' ?_;refine j' ?_
 first|refine j' (abf c.typeIs (I' ?_))|refine j' (abg c.typeIs (I' ?_))
 refine j' (aeL n p ?_);have g:aeM "dict_keyiterator"=false:=by decide
 simp only[g,Ĳ,if_false]
 show nc _ _ (if (Ë S==Ą)=_t then _ else _) _ _ s
 rw[if_neg (show ¬ ((Ë S==Ą)=_t)from ϔ)]
 refine j' (I' ?_);refine j' (aeN d f ?_);have h:q.size=kvs.length:=by rw[←y.length];simp
 rw[if_neg (by rw[h];simp)]
 refine j' (I' ?_);refine j' (aeO d f ?_);rw[if_neg (by simp)]
 refine I' ?_;have k:q.size<=b:=by rw[h];simpa using t
 simp only[show ¬ ((b:Int)<0)from by omega,if_false,aa5,Array.getElem?_eq_none k]
 refine j' ?_
 first|refine j' (abf c.typeIs (I' ?_))|refine j' (abg c.typeIs (I' ?_))
 show nc _ _ (ϵ (.ref i) 0 .none >>= _) _ _ s
 refine j' (Ŝ n p (by simp) ?_)
 show nc _ _ (newExc (.type "StopIteration") [] >>= _) _ _ _
 refine j' ?_;simp only[newExc,newTuple];refine j' (Ϸ ?_ (ĉ _));refine j' (m:=aeS _ _) (wpAny_of_eq (a:=Ą) (by first|rfl | (rfl)) ?_)
 refine Ϸ ?_ (by size_fits)
 refine j' (wpAny_handled ?_)
 first|rw[show A.in1.handled=_n from l]|rw[l]
 refine j' (I' (wpAny_throw ?_));exact u _ _ (((aeQ ..).extBut.push _).push _) ⟨_,Ò _ Y,Y⟩
theorem ML(n:A.handled=_n)(b d)(j:d≠b)(kvs ep):
  Draws prog w A b [b,d] kvs.length (λi v=>∃k x,kvs[i]?=J (k,x)/\knd.is k v=_t) (λi h=>h.IsKeyIter b d i kvs.length ep/\h.DictAt knd d kvs ep) where
 live:=λ_ _ a=>let ⟨o,l,_⟩:=a.1;⟨o,l⟩
 frame:=λ_ _ _ a g=>⟨a.1.at λo e=>g b (by simp) o e,let ⟨o,p,l,r⟩:=a.2;⟨o,p,g d (by simp) o l,r⟩⟩
 item:=λi s Q E m a q=>by
  refine wG a.1 a.2 (k:=kvs[i].1) (ζ:=kvs[i].2) (by simp[m]) λt u g c f=>?_
  exact q _ u s.toks ⟨kvs[i].1,kvs[i].2,by simp[m],g⟩ ⟨c,a.2.extBut f.extBut j⟩ f
 done:=λs Q E a y=>qG n a.1 a.2 (by simp) y
end
theorem EQ{a α:Type}{F:α->ê a}{Q E A M s}(h:∀a,nc M A (F a) Q E s)(b):nc M A (F b) Q E s:=h b
open AutoSeq1 (wpAny_loadPart') in
theorem uI[DecidableEq B2](knd:KeyKind M N B2)(l)(kvs)(ep)(e:(l==ð)=_d):
  MeetsIn M N (ù.«enumerate.__new__» ⟨[.type "enumerate",.ref l],[]⟩) (λ_ R s=>s.heap.DictAt knd l kvs ep /\
   R (.ok (.ret (.ref (s.heap.push {cls:=.type "dict_keyiterator",data:=.fields #[.ref l,.int 0 0,.int kvs.length 0,.int ep 0]}).objs.size)))
    {s with heap:=(s.heap.push {cls:=.type "dict_keyiterator",data:=.fields #[.ref l,.int 0 0,.int kvs.length 0,.int ep 0]}).push {cls:=.type "enumerate",data:=.fields #[.none,.bool _d,.ref s.heap.objs.size,ć 0,.none,.none]} }):=
 .of_wp λA R s h=>by
  obtain⟨i,g,d,j,k⟩:=s;obtain⟨a,h⟩:=h
  have f:=sub_enumerate;obtain⟨o,m,b,_⟩:=id a
  wp_walk using abh b
  refine wpAny_stack_any λn=>I' ?_
  refine EQ (λt=>?_) _;cases t<;>wp_walk using abh b,ό e a<;>exact⟨_,Y,h⟩
theorem wH{s:iv}[DecidableEq B2]{knd:KeyKind M N B2}{kvs}(g:(i==ð)=_d)(j:s.heap.DictAt knd i kvs b)(h:∀c,Ť c (s.heap.objs.size+1) s.heap.objs.size 0 .none->c.IsKeyIter s.heap.objs.size i 0 kvs.length b ->
   (∀a o,s.heap.get? a=J o->c.get? a=J o)->T3 (.ref (s.heap.objs.size+1)) {s with heap:=c}):
  nc (B' M N) ο (call (.type "enumerate") [.ref i]) T3 ψ s:=by
 refine callType_newIn F.called_enumerate (by decide) (F.typeCall_enumerate_1 _) (F.newCall_enumerate_1 _) (λd=>F.args_object_init_2 d _) F.entry_enumerate_new
  (uI knd i kvs b g) ⟨j,?_⟩
 have e:(s.heap.push {cls:=.type "dict_keyiterator",data:=.fields #[.ref i,.int 0 0,.int kvs.length 0,.int b 0]}).objs.size=s.heap.objs.size+1:=ŵ ..
 show _/\_
 rw[e]
 have f:Ť ((s.heap.push {cls:=.type "dict_keyiterator",data:=.fields #[.ref i,.int 0 0,.int kvs.length 0,.int b 0]}).push
   {cls:=.type "enumerate",data:=.fields #[.none,.bool _d,.ref s.heap.objs.size,ć 0,.none,.none]}) (s.heap.objs.size+1) s.heap.objs.size 0 .none:=by
  have:=Ò (s.heap.push {cls:=.type "dict_keyiterator",data:=.fields #[.ref i,.int 0 0,.int kvs.length 0,.int b 0]})
   (o:={cls:=.type "enumerate",data:=.fields #[.none,.bool _d,.ref s.heap.objs.size,ć 0,.none,.none]}) Y
  rw[e]at this;exact this
 exact⟨⟨_,f,Y⟩,h _ f ⟨_,Y' _ (Ò _ Y),Y,Y⟩ λa o x=>Y' _ (Y' _ x)⟩
variable{B7:_o g'->iv->Prop}{P0:f'}
theorem AQ{s}[DecidableEq B2]{knd:KeyKind M N B2}{kvs}(h:ο.handled=_n)(f:Ť s.heap i S m ζ)(a:s.heap.IsKeyIter S P0 m kvs.length P)(j:s.heap.DictAt knd P0 kvs P)(k:kvs[m]?=_n)(l:∀c,aeR S s.heap c->B7 _n {s with heap:=c}):nc (B' M N) ο (č (.ref i)) B7 ψ s:=by
 have g:s.TypeIs (.ref i) "enumerate":=⟨_,f,Y⟩;unfold č
 refine j' (ϴ (ύ (name:=ώ "__next__") g aeT
  (š aeT g F.entry_enumerate_next ?_ (F.args_enumerate_next_1 _))))
 show nc _ _ (Š (.ref i) 2 >>= _) _ _ _
 refine j' (Ċ f Y (x:=.ref S) Y ?_);refine j' (qG h a j k λc x d e=>?_)
 obtain⟨o,n,p⟩:=e;refine j' (ab9 (T:="StopIteration") (b:=_t) ⟨o,n,p⟩ aed ?_);exact I' (l _ d)
noncomputable def DK(a:f')(o:Obj):It:=
 ⟨λi H=>∃b,H a=J (.cX o (.dK b))/\i<b.length,λi H x d=>∃p,x=.ref p/\H p=_n/\∀b,H a=J (.cX o (.dK b))->∃c,b[i]?=J c/\d=upd H p (.t [.int i,kV c.1]),λi H=>∃b,H a=J (.cX o (.dK b))/\b.length<=i⟩
theorem wJ(a e n)(hd:R0.data=.dict i9 m)(y:e≠n):
  Turn M N G (.Tuple Z b o) (DK a R0) [e,n] e (λi h=>(∃j,Ť h e n i j)/\h.IsKeyIter n a i i9.size m) where
 mem:=by simp
 obj:=λi h t f u=>by
  obtain⟨⟨j,g⟩,R0,e2,c,d⟩:=t;rcases Ì.mp u with z|z
  .subst z
   exact⟨_,g,λv z=>by
    have z':Data.fields _=Data.cell v:=z;cases z'⟩
  .have z:f=n:=by simpa using z
   subst z;exact⟨R0,e2,λv z=>by rw[d]at z;cases z⟩
 keep:=λi h h' t k=>by
  obtain⟨⟨j,g⟩,R0,e2,r⟩:=t;exact⟨⟨j,k e (by simp) _ g⟩,R0,k n (by simp) R0 e2,r⟩
 item:=by
  intro X hP hw hK hc i pins s σ H E I D t hg;subst hP hw hK;obtain⟨l,K,hx⟩:=hg;obtain⟨⟨j,g⟩,p⟩:=t;obtain⟨vs,r,da,U,_⟩:=h_ I.hok K hd;have O:l[i]?=J l[i]:=Ô hx;obtain⟨q,hv,rq⟩:=d6 r O;have P:H a≠none:=by rw[K];simp
  have Q:a≠n:=λz=>P (by rw[z];exact(D n (by simp)).1)
  have a0:e≠a:=λz=>P (by rw[←z];exact(D e (by simp)).1)
  rw[U]at p;have C:i<vs.length:=(Ê.mp hv).1;refine wpAny_pyNext_enum_itemD (ML (knd:=bH X.prog X.w) (A:=X.A.in1) (I.ok.hd hc) n a Q vs m) g ⟨p,da⟩ C y (by simp[y,a0]) λV h' R x so si tu sz kp=>?_
  obtain⟨k',x',x,b0⟩:=x;rw[hv]at x;cases x
  refine⟨_,Y,aeB (s:={s with heap:=h',toks:=R+1}) so λF se sb=>?_⟩
  have c0:∀f R0,f∉[e,n]->s.heap.get? f=J R0->F.get? f=J R0:=λf R0 u q=>by
   have h1:f≠e:=λz=>u (by simp[z])
   have h3:f≠n:=λz=>u (by simp[z])
   exact sb.extBut f R0 h1 (kp f R0 h1 h3 q)
  have S:e<s.heap.objs.size:=Q' g;have d0:F.get? s.heap.objs.size=J {cls:=.type "tuple",data:=.seq #[.int i R,V]}:=sb.extBut _ _ (Þ S) tu;have e0:∃j,Ť F e n ((i+1:Nat):Int) j:=⟨V,by rw[show((i+1:Nat):Int)=(i:Int)+1 by omega];exact se⟩
  refine⟨.ref s.heap.objs.size,upd H s.heap.objs.size (.t [.int i,kV l[i].1]),?_,Y,⟨_,Y,I.hok.fresh (R' _),λi0 T=>?_⟩,⟨e0,?_⟩,λf u=>?_⟩
  .have g0:ķ F s.heap.objs.size [Ŋ i R,V].toArray:=⟨_,d0,Y,_,Y⟩
   have h0:cu X.prog X.w (upd H s.heap.objs.size (.t [.int i,kV l[i].1])) F s.heap.objs.size (.t [.int i,kV l[i].1]):=⟨by rw[ą];simp,[.int i R,V],.cons ⟨_,Y⟩ (.cons (by rw[rq.1];exact ku b0) .nil),g0⟩
   have:=iR (s:=s) (H:=F) (b:=R+1) I D c0 (R' _) h0;exact this
  .rw[K]at T;cases T
   exact⟨l[i],O,Y⟩
  .rw[U];exact si.1.extBut sb.extBut (Í y)
  .have C:f<s.heap.objs.size:=by
    rcases Ì.mp u with z|z
    .subst z;exact S
    .have z:f=n:=by simpa using z
     subst z;obtain⟨R0,q,_⟩:=p;exact Q' q
   rw[av (X' C)];exact(D f u).1
 done:=by
  intro X hP hw hK hc i pins s σ H E I D t hg;subst hP hw hK;obtain⟨l,K,hx⟩:=hg;obtain⟨⟨j,g⟩,p⟩:=t;obtain⟨vs,r,da,U,_⟩:=h_ I.hok K hd;obtain⟨f0,f1,f2,f3,f4,f5⟩:=D n (by simp)
  have hl:=r.length;rw[U]at p;exact AQ (I.ok.hd hc) g p da (ň (N' (Á hl.symm) hx)) λh' eb=>⟨Y,I.turned (b:=s.toks) (λf R0 u e=>eb f R0 u e) f0 f1 f3 f4 f5⟩
 self:=λ_ _ _ _ _ t h=>by
  obtain⟨⟨j,g⟩,_⟩:=t;exact abd g h
def Rj(K:G')(d:TA):TI:=λe H R=>d e H λf c=>∃a,f=[.ref a]/\(((∃g,mP K c a g)/\R (Ite K a) c)\/∃b,(c a=J (.dK b)/\∀o,R (DK a o) (upd c a (.cX o (.dK b))))\/∃o,c a=J (.cX o (.dK b))/\R (DK a o) c)
theorem DL(S:Gl c "enumerate")(U:c.mg "enumerate"=_n)(X:PA c [n] V3)(hs:D' [n] c.env=[(_d,eval n c.env)]):
  PI c (.Tuple Z b o) (.Call (.Name "enumerate" T) [n] [] P1) (Rj c.K V3):=by
 intro pins s y H R I h;refine Call_ (fj I S U boot_enumerate (Ő (bO (X P1 pins s y H _ I h) λus s1 zq=>?_) hs Y));obtain⟨M,H1,k,r1,q1⟩:=zq
 obtain⟨l,rfl,q⟩:=q1
 have N:∀{f},L2.Inv c pins y f s1->∀a∈[s1.heap.objs.size+1,s1.heap.objs.size],nP c pins f a:=λ{f} i a hb=>by
  have p:s1.heap.objs.size<=a:=by
   rcases Ì.mp hb with z|z
   .rw[z];exact Ā _
   .have z:a=s1.heap.objs.size:=by simpa using z
    rw[z];exact R' _
  exact i.Cc p (i.hok.fresh p)
 cases r1 with
 |cons r rr=>
  cases rr;cases r
  have j:∀(g:Obj) (d:Array ŗ) (m:Nat) (f:Hp) (e:B (Key×V)),L2.Inv c pins y f s1->f l=J (.cX g (.dK e))->g.data=.dict d m->R (DK l g) f->nc (B' c.prog c.w) c.A (call (.type "enumerate") [.ref l]) (λv s2=>nc (B' c.prog c.w) c.A (Ħ v) (PIE c pins y (.Tuple Z b o) R) c.xe s2) c.xe s1:=by
   intro g d m f e i e2 C t;obtain⟨M,r,da,O,P⟩:=h_ i.hok e2 C;refine wH P da λE u F G=>abd (s:={s1 with heap:=E}) u ?_
   exact⟨s1.heap.objs.size+1,[s1.heap.objs.size+1,s1.heap.objs.size],_,_,f,Y,i.kept (t':=s1.toks) G,wJ l _ _ C (acz _),⟨⟨_,u⟩,by rw[O];exact F⟩,N i,t⟩
  rcases q with ⟨⟨xs,hq⟩,q⟩|⟨e,⟨D,t⟩|⟨g,D,t⟩⟩
  .obtain⟨a0,rv,pl,O⟩:=k.list hq
   refine call_enumerate_list pl.isList λE u F sz G=>abd (s:={s1 with heap:=E}) u ?_
   exact⟨s1.heap.objs.size+1,[s1.heap.objs.size+1,s1.heap.objs.size],_,_,H1,Y,k.kept (t':=s1.toks) G,AH l _ _ (acz _),⟨⟨_,u⟩,F⟩,N k,q⟩
  .obtain⟨g,d,m,Q,C,i⟩:=k.r_ D
   exact j g d m _ e i aD C (t g)
  .obtain⟨Q,_,P,M,r,o',d,m,x,b,x2,x3⟩:=k.hok l _ D
   rw[Q]at x;cases x
   exact j g d m _ e k D x2 t
@[simp] theorem Vf:mF (.bl E)=J E:=rfl
@[simp] theorem Rm:mF (.l q)=J (!q.isEmpty):=rfl
def HM(o:Bool)(f:B D->D):D->Out Rs
 |.t a=>if small a.length=_t then .ok (o,f a)else .b
 |_=>.b
@[simp] theorem Vg:gx .Add (.int Q) (.int U0)=.ok (_d,.int (Q+U0)):=rfl
@[simp] theorem Vh:gx .Sub (.int Q) (.int U0)=.ok (_d,.int (Q - U0)):=rfl
@[simp] theorem Vi:gx .Mult (.int Q) (.int U0)=if (mG Q||mG U0)=_t then .ok (_d,.int (Q*U0))else .b:=rfl
@[simp] theorem Vj:gx .FloorDiv (.int Q) (.int U0)=if (decide (0<U0)&&decide (U0<1073741824))=_t then .ok (_d,.int (Q / U0))else .b:=rfl
@[simp] theorem Vk:gx .Mod (.int Q) (.int U0)=if decide (0<U0)=_t then .ok (_d,.int (Q%U0))else .b:=rfl
@[simp] theorem Vl:gx .Pow (.int Q) (.int U0)=if (decide (0<=U0)&&decide (U0<=1000)&&decide (Q.natAbs<2 ^ 64))=_t then .ok (_d,.int (Q ^ U0.toNat))else .b:=rfl
variable{C:L}
@[simp] theorem Rp:gx .Add (.str d) (.str C)=if small (d.length+C.length)=_t then .ok (_d,.str (d++C))else .b:=rfl
@[simp] theorem XW:gk .Eq h ε=if (aI 8 h&&aI 8 ε)=_t then .ok (d8 h ε)else .b:=rfl
@[simp] theorem MM:gk .NotEq h ε=if (aI 8 h&&aI 8 ε)=_t then .ok (!d8 h ε)else .b:=rfl
@[simp] theorem XX:gk .Lt (.int Q) (.int U0)=.ok (decide (Q<U0)):=rfl
@[simp] theorem XY:gk .LtE (.int Q) (.int U0)=.ok (decide (Q<=U0)):=rfl
@[simp] theorem cmp_gt:gk .Gt (.int Q) (.int U0)=.ok (decide (U0<Q)):=rfl
@[simp] theorem XZ:gk .GtE (.int Q) (.int U0)=.ok (decide (U0<=Q)):=rfl
@[simp] theorem X_:gk .In h ε=inD h ε:=rfl
@[simp] theorem Vm:gk .NotIn h ε=inD h ε >>= λb=>.ok (!b):=rfl
@[simp] theorem Yc:aI b (.int Q)=true:=by cases b<;>rfl
@[simp] theorem Yd:aI b (.str d)=true:=by cases b<;>rfl
@[simp] theorem Yf:aI (b+1) (.t q)=q.all (aI b):=rfl
@[simp] theorem eq_int:d8 (.int Q) (.int U0)=(Q==U0):=rfl
@[simp] theorem eq_str:d8 (.str d) (.str C)=(d==C):=rfl
@[simp] theorem Yg:d8 (.l q) (.l P4)=eT q P4:=rfl
@[simp] theorem Yh:d8 (.t q) (.t P4)=eT q P4:=rfl
@[simp] theorem Vo:eT [] []=true:=rfl
@[simp] theorem Rr:eT (h::q) (ε::P4)=(d8 h ε&&eT q P4):=rfl
@[simp] theorem Yi:eT [] (h::q)=false:=rfl
@[simp] theorem Yj:eT (h::q) []=false:=rfl
theorem yA(h:small d.length=_t)(e:L2.ll d.cps.toList Q=J b):wo (.str d) (.int Q)=.ok (_d,.str (aY b)):=by
 simp only[wo,h,if_pos,e]
variable{A9 z9:_o Int}
@[simp] theorem Vq:Df (.str d) z9 A9=if small d.length=_t then .ok (_d,.str ⟨(eo d.cps.toList z9 A9).toArray⟩)else .b:=rfl
@[simp] theorem len_str:jN .len (.t [.str d])=if small d.length=_t then .ok (_d,.int d.length)else .b:=rfl
noncomputable def DM(f:B Bool->Bool):_o (B Bool)->Out Rs
 |J bs=>.ok (_d,.bl (f bs))
 |_n=>.b
@[simp] theorem PH{f}:DM f (J F9)=.ok (_d,.bl (f F9)):=rfl
@[simp] theorem int_int:jN .int (.t [.int Q])=.ok (_d,.int Q):=rfl
theorem bo(h:b<=100000):small b=true:=by
 unfold small;rw[decide_eq_true_eq,ą];omega
theorem mW(a : -(2 ^ 64)<Q)(b:Q<2 ^ 64):mG Q=true:=decide_eq_true (by omega)
theorem jj(a : -(2 ^ 62)<Q)(b:Q<2 ^ 62):wt Q=true:=decide_eq_true (by omega)
theorem MN{α}{xs:B α}(b:0<=Q)(c:Q<xs.length):∃x,x∈xs/\L2.ll xs Q=J x:=by
 have a:Q.toNat<xs.length:=by omega
 have h:=L2.bQ (Ô a)
 grind
@[simp] theorem in_str:inD (.str d) (.str C)=.ok (oq d C):=rfl
def jk(n a):=kG n a
theorem mX:∀{a}{i:Nat}{d},(intsFrom a b)[i]?=J d->d=.int (a+i)/\i<b:=by
 induction b with
 |zero=>intro a i d h;simp[intsFrom]at h
 |succ b c=>
  intro a i d h;cases i with
  |zero=>simp[intsFrom]at h;simp_all
  |succ i=>
   simp[intsFrom]at h
   grind
noncomputable def L1(xs:B L):D:=.l (xs.map .str)
def LL(a:B (B L)):D:=.l (a.map L1)
theorem DN(xs:B B2)(k:Nat):eo xs (J k) _n=xs.drop k:=by
 unfold eo;rw[HT.uf,HT.mR];rcases acD k _ with h|h
 .rw[aeU h]
  exact ϒ (by simp)
 simp_all
theorem wK(xs:B B2)(k:Nat):eo xs _n (J k)=xs.take k:=by
 unfold eo;rw[HT.uf,HT.mR];simp
theorem DO(xs:B B2)(k m:Nat):eo xs (J k) (J m)=(xs.drop k).take (m - k):=by
 unfold eo;rw[HT.mR,HT.mR];rcases acD k _ with h|h
 .rw[aeU h]
  rcases acD m xs.length with h' |h'
  .simp_all
  .rw[Nat.min_eq_right h',ϒ (by simp),ϒ (by simp;omega)]
 simp_all
theorem HX(n)(xs:B L):(xs.map D.str).all (aI n)=true:=by
 simp
theorem HY(xs:B L)(n):((xs.map D.str).any λy=>d8 y (.str n))=decide (n∈xs):=by
 induction xs with
 |nil=>rfl
 |cons x xs a=>
  simp only[Ù,Į,a,eq_str,Ì]
  grind
theorem HZ(xs:B L)(n):inD (.str n) (.l (xs.map .str))=.ok (decide (n∈xs)):=by
 have:inD _ (.l _)=if aI 8 (.str n)&&(xs.map D.str).all _ then .ok _ else .b:=rfl
 rw[this,HY];simp
theorem H_(xs a:B L):eT (xs.map .str) (a.map .str)=decide (xs=a):=by
 induction xs generalizing a with
 |nil=>cases a<;>simp
 |cons x xs b=>
  cases a with
  |nil=>simp
  |cons y a=>
   simp
   grind
theorem Rv(xs a):d8 (L1 xs) (L1 a)=decide (xs=a):=H_ xs a
theorem Rx(n xs):aI (n+1) (L1 xs)=true:=HX n xs
noncomputable def freeOf(a:B (B L)):B L->_o L
 |[]=>_n
 |n::_=>if ∃t∈a,n∈t.tail then _n else J n
def free(a:B (B L)):=a.findSome? (freeOf a)
theorem any_rows(a:B (B L)):gy (a.map L1)=J (a.map λr=>!r.isEmpty):=by
 induction a with
 |nil=>rfl
 |cons r a b=>
  simp only[Ù,gy,b];simp[L1]
abbrev Fn:=B D->Out Rs
def iS(a:Int->Int->Int->Int)(F:Fn):=∀c t m,0<=t->t<100000->0<m->0<=a c t m/\a c t m<m/\F [.int c,.int t,.int m]=.ok (_d,.int (a c t m))
noncomputable def SC(a:B Int):D:=.l (a.map .int)
def lB(b:B Int->Nat->Int)(F:Fn):=∀a (k:Nat),F [SC a,.int k]=.ok (_d,.int (b a k))
theorem ints_map(a n):intsFrom a n=(É n).map λ(i:Nat)=>D.int (a+i):=by
 apply aeV;intro i
 by_cases h:i<n
 .have b:i<(intsFrom a n).length:=by rwa[jk]
  have e:=(mX (Ô b)).1
  simp_all
 .rw[ň (by rw[jk];omega),ň (by simp;omega)]
theorem AR(n):intsFrom 0 n=(É n).map λ(i:Nat)=>D.int i:=by
 rw[ints_map];simp
noncomputable def abc:Str:="abcdefghijklmnopqrstuvwxyz"
theorem MO:∀q,q<26->abc.cps.toList[q]?=J (97+q):=by decide
theorem mY(a:0<=Q)(b:Q<26):wo (.str abc) (.int Q)=.ok (_d,.str (aY (97+Q.toNat))):=by
 refine yA (bo (by decide)) ?_
 have:=L2.bQ (MO Q.toNat (by omega))
 grind
noncomputable def bs(a:Int->Int->Int->Int)(c:Int):B D:=(É 8).map λ(i:Nat)=>.int (a c i 26)
variable{A:B (B L)}
@[simp] theorem aaQ:inD (.str d) (L1 l)=.ok (decide (d∈l)):=HZ l d
@[simp] theorem aa1:aI (b+1) (L1 l)=true:=Rx b l
@[simp] theorem aa2:d8 (L1 l) (L1 i0)=decide (l=i0):=Rv l i0
open AutoSeq1 (wpAny_loadPart')
structure Ys where
 name:L
 qual:L
 params:Ϭ
 body:B O'
 scope:V'
 ps:B L
 cn:B L
class iT where
 tab:Nat->Ys
 ta:Nat->f'
set_option genInjectivity true in
inductive Cell where
 |l (ds:List D)
 |dK (kvs:List (Key×D))
 |dT (kvs:List (List Key×D))
 |dF (kvs:List (Key×D))
 |ins (C:L) (fs:List (L×D))
 |fn (j:Nat) (AS:List D)
 |tb (j:Nat) (p:K') (b:Bool)
 |xc (C:L) (fs:List (L×D))
abbrev aA:=B Cell
set_option genInjectivity true in
inductive ax (α:Type) where
 |ok (a:α) (Ω:aA)
 |e (x:D) (Ω:aA)
 |b
noncomputable def ax.bind{α b}:ax α->(α->aA->ax b)->ax b
 |.ok a Ω,f=>f a Ω
 |.e x Ω,_=>.e x Ω
 |.b,_=>.b
abbrev a_:=B (_o D)
inductive aE {α β:Type} (R:α->β->Prop):List α->List β->Prop where
 |nil:aE R [] []
 |cons {a b as bs}:R a b->aE R as bs->aE R (a::as) (b::bs)
namespace aE
section
variable{α β:Type}{R S:α->β->Prop}
theorem length:∀{as}{bs},aE R as bs->bs.length=as.length
 |_,_,.nil=>Y
 |_,_,.cons _ t=>by rw[ċ,ċ,length t]
theorem imp(h:∀a b,R a b->S a b):∀{as}{bs},aE R as bs->aE S as bs
 |_,_,.nil=>.nil
 |_,_,.cons r t=>.cons (h _ _ r) (imp h t)
theorem get:∀{as}{bs}{i:Nat}{a},aE R as bs->as[i]?=J a->∃b,bs[i]?=J b/\R a b
 |_,_,_,_,.nil,e=>by simp at e
 |_,_,0,_,.cons r _,e=>by simp_all
 |_,_,i+1,a,.cons _ t,e=>by
  refine bN (get t (by simpa using e)) λu c d=>?_
  simp_all
theorem MP:∀{as}{bs}{i:Nat}{b},aE R as bs->bs[i]?=J b->∃a,as[i]?=J a/\R a b
 |_,_,_,_,.nil,e=>by simp at e
 |_,_,0,_,.cons r _,e=>by simp_all
 |_,_,i+1,a,.cons _ t,e=>by
  refine bN (MP t (by simpa using e)) λu c d=>?_
  simp_all
theorem append:∀{as cs}{bs a},aE R as bs->aE R cs a->aE R (as++cs) (bs++a)
 |_,_,_,_,.nil,h=>h
 |_,_,_,_,.cons r t,h=>.cons r (append t h)
theorem one{a b}(h:R a b):aE R [a] [b]:=.cons h .nil
theorem take:∀{as}{bs} n,aE R as bs->aE R (as.take n) (bs.take n)
 |_,_,0,_=>.nil
 |_,_,n+1,.nil=>.nil
 |_,_,n+1,.cons r t=>.cons r (take n t)
theorem drop:∀{as}{bs} n,aE R as bs->aE R (as.drop n) (bs.drop n)
 |_,_,0,h=>h
 |_,_,n+1,.nil=>.nil
 |_,_,n+1,.cons r t=>drop n t
theorem eraseIdx:∀{as}{bs} n,aE R as bs->aE R (as.eraseIdx n) (bs.eraseIdx n)
 |_,_,n,.nil=>by exact .nil
 |_,_,0,.cons _ t=>t
 |_,_,n+1,.cons r t=>.cons r (eraseIdx n t)
theorem nil_inv{bs}(h:aE R [] bs):bs=[]:=by cases h;rfl
theorem cons_inv{a as bs}(h:aE R (a::as) bs):∃b r,bs=b::r/\R a b/\aE R as r:=by
 cases h with
 |cons r t=>grind
end
end aE
mutual
noncomputable def au(α:List f')(Z:f'->Prop)(H:Hp):D->V->Prop
 |.n,v=>v=.n
 |.bl b,v=>v=.bl b
 |.int i,v=>v=.int i
 |.str x,v=>v=.str x
 |.l d,v=>∃a c,v=.ref a/\Z a/\Rd H a (.l c)/\gJ α Z H d c
 |.t d,v=>∃a c,v=.ref a/\Z a/\H a=J (.t c)/\gJ α Z H d c
 |.dct _ _,_=>True
 |.ref n,v=>∃a,α[n]?=J a/\v=.ref a
noncomputable def gJ(α:List f')(Z:f'->Prop)(H:Hp):List D->List V->Prop
 |[],a=>a=[]
 |d::b,a=>∃v r,a=v::r/\au α Z H d v/\gJ α Z H b r
end
theorem cj{α Z H}:∀{b}{a},gJ α Z H b a↔aE (au α Z H) b a
 |[],a=>⟨λh=>by subst h;exact .nil,λh=>h.nil_inv⟩
 |d::b,a=>by
  constructor
  .rintro⟨v,r,rfl,c,e⟩
   exact .cons c (cj.mp e)
  .intro h
   obtain⟨v,r,rfl,c,e⟩:=h.cons_inv;exact⟨v,r,Y,c,cj.mpr e⟩
mutual
theorem au.mono{α b:List f'}{Z j:f'->Prop}{H l:Hp}(p:∀(n:Nat) (a:f'),α[n]?=J a->b[n]?=J a)(k:∀a o,Z a->H a=J o->l a=J o)(z:∀a,Z a->j a):∀{d:D}{v:V},au α Z H d v->au b j l d v
 |.n,_,h=>by simpa only [au]using h
 |.bl _,_,h=>by simpa only [au]using h
 |.int _,_,h=>by simpa only [au]using h
 |.str _,_,h=>by simpa only [au]using h
 |.l m,v,h=>by
  simp only[au]at h ⊢;obtain⟨a,f,e,c,g,i⟩:=h;exact⟨a,f,e,z a c,sv (λo=>k a o c) g,gJ.mono p k z i⟩
 |.t m,v,h=>by
  simp only[au]at h ⊢;obtain⟨a,f,e,c,g,i⟩:=h;exact⟨a,f,e,z a c,k a _ c g,gJ.mono p k z i⟩
 |.dct q m,v,h=>by simp only[au]
 |.ref n,v,h=>by
  simp only[au]at h ⊢;obtain⟨a,e,h⟩:=h;exact⟨a,p n a e,h⟩
theorem gJ.mono{α b:List f'}{Z g:f'->Prop}{H i:Hp}(p:∀(n:Nat) (a:f'),α[n]?=J a->b[n]?=J a)(k:∀a o,Z a->H a=J o->i a=J o)(z:∀a,Z a->g a):∀{c:List D}{f:List V},gJ α Z H c f->gJ b g i c f
 |[],_,h=>by simpa only [gJ]using h
 |d::c,f,h=>by
  simp only[gJ]at h ⊢;refine aP h λv r e j l=>?_
  exact⟨v,r,e,au.mono p k z j,gJ.mono p k z l⟩
end
def fF{K}(R:D->V->Prop)(kvs:B (K×D))(a:B (K×V)):=aE (λp q=>p.1=q.1/\R p.2 q.2) kvs a
variable [iT]
def ig(f:L->f'->Prop)(R:D->V->Prop)(H:Hp)(a:f'):Cell->Prop
 |.l h=>∃g,H a=J (.l g)/\aE R h g
 |.dK c=>∃b,H a=J (.dK b)/\fF R c b
 |.dT c=>∃b,H a=J (.dT b)/\fF R c b
 |.dF c=>∃o b,H a=J (.cX o (.dK b))/\fF R c b
 |.ins C fs=>∃e dx d,f C e/\H a=J (.ins e dx d)/\fF R fs d
 |.xc C fs=>∃e d,f C e/\CQ H a e d/\fF R fs d
 |_=>False
theorem fF.imp{K R S}(h:∀d v,R d v->S d v){kvs}{c:B (K×V)}(k:fF R kvs c):fF S kvs c:=aE.imp (λa b q=>⟨q.1,h _ _ q.2⟩) k
theorem ig.imp{t R S H m a c}(h:∀d v,R d v->S d v)(e:∀o,H a=J o->m a=J o)(z:∀b o u,H b=J (.cX o u)->m b=J (.cX o u))(x:∀b n,H b=J (.xd n)->m b=J (.xd n))(k:ig t R H a c):ig t S m a c:=by
 cases c with
 |l w=>obtain⟨i,f,g⟩:=k;exact⟨i,e _ f,g.imp h⟩
 |dK l=>obtain⟨i,f,g⟩:=k;exact⟨i,e _ f,g.imp h⟩
 |dT l=>obtain⟨i,f,g⟩:=k;exact⟨i,e _ f,g.imp h⟩
 |dF l=>obtain⟨o,i,f,g⟩:=k;exact⟨o,i,e _ f,g.imp h⟩
 |ins C n=>obtain⟨q,dx,i,r,f,g⟩:=k;exact⟨q,dx,i,r,e _ f,g.imp h⟩
 |fn j AS=>exact k.elim
 |tb j p b=>exact k.elim
 |xc C n=>obtain⟨q,s,r,f,g⟩:=k;exact⟨q,s,r,f.grow z x,g.imp h⟩
variable{M6:D->V->Prop}{P2:Cell}{j:L->f'->Prop}
theorem ig.some(k:ig j M6 e i P2):e i≠none:=by
 cases P2 with
 |l q=>obtain⟨f,a,g⟩:=k;rw[a];simp
 |dK d=>obtain⟨f,a,g⟩:=k;rw[a];simp
 |dT d=>obtain⟨f,a,g⟩:=k;rw[a];simp
 |dF d=>obtain⟨o,f,a,g⟩:=k;rw[a];simp
 |ins C h=>obtain⟨l,dx,f,m,a,g⟩:=k;rw[a];simp
 |fn c AS=>exact k.elim
 |tb c p b=>exact k.elim
 |xc C h=>obtain⟨l,n,m,⟨o,r,a,_⟩,_⟩:=k;rw[a];simp[qk]
structure bp(κ:L->f'->Prop)(α:B f')(Z:f'->Prop)(Ω:aA)(H:Hp):Prop where
 tZ:α.Nodup
 BP:aE (λc a=>ig κ (au α Z H) H a c) Ω α
 sep:∀a∈α,¬ Z a
 dom:∀a,Z a->H a≠_n
structure b9(α:B f')(Z:f'->Prop)(H:Hp)(α':B f')(Z':f'->Prop)(H':Hp):Prop where
 pre:∀(n:Nat) (a:f'),α[n]?=J a->α'[n]?=J a
 sub:∀a,Z a->Z' a
 new:∀a,Z' a->Z a\/H a=_n
 KY:∀a∈α',a∈α\/H a=_n
 frm:∀a o,H a=J o->a∉α->H' a=J o
 has:∀a∈α,H' a≠_n
 cX:∀a o u,H a=J (.cX o u)->H' a=J (.cX o u)
theorem b9.refl(h:∀a∈z,e a≠_n):b9 z v e z v e:=⟨by simp,λ_ h=>h,by simp_all,λ_ h=>.inl h,by grind,h,by simp⟩
variable{a:aA}
theorem bp.has(S:bp j z v a e):∀b∈z,e b≠none:=λb d=>by
 obtain⟨n,f⟩:=ú.mp d;obtain⟨c,_,h⟩:=S.BP.MP f;exact h.some
theorem ig.k_(k:ig j M6 e i P2)(f):e i≠Option.some (.xd f):=by
 cases P2 with
 |l m=>obtain⟨c,a,d⟩:=k;rw[a];simp
 |dK b=>obtain⟨c,a,d⟩:=k;rw[a];simp
 |dT b=>obtain⟨c,a,d⟩:=k;rw[a];simp
 |dF b=>obtain⟨o,c,a,d⟩:=k;rw[a];simp
 |ins C f=>obtain⟨g,dx,c,h,a,d⟩:=k;rw[a];simp
 |xc C f=>obtain⟨g,l,h,⟨o,n,a,_⟩,_⟩:=k;rw[a];simp[qk]
 |_=>exact k.elim
theorem bp.k_{b α Z d H}(S:bp b α Z d H){a}(e:a∈α):∀f,H a≠J (.xd f):=by
 obtain⟨n,g⟩:=ú.mp e;obtain⟨c,_,h⟩:=S.BP.MP g;exact h.k_
theorem b9.none{α b Z e H c}(g:b9 α Z H b e c){a}(h:c a=_n):H a=none:=by
 cases q:H a with
 |none=>rfl
 |some o=>
  by_cases d:a∈α
  .exact absurd h (g.has a d)
  .rw[g.frm a o q d]at h;cases h
variable{B3 W9:f'->Prop}{c9:B f'}{y8:Hp}
theorem b9.trans(g:b9 z v e Q1 B3 r0)(c:b9 Q1 B3 r0 c9 W9 y8):b9 z v e c9 W9 y8 where
 pre:=λn a b=>c.pre n a (g.pre n a b)
 sub:=λa h=>c.sub a (g.sub a h)
 new:=λa h=>by
  rcases c.new a h with h|h
  .exact g.new a h
  .exact .inr (g.none h)
 KY:=λa h=>by
  rcases c.KY a h with h|h
  .exact g.KY a h
  .exact .inr (g.none h)
 frm:=λa o b d=>c.frm a o (g.frm a o b d) λh=>by
  rcases g.KY a h with h|h
  .exact d h
  grind
 has:=λa d=>by
  obtain⟨n,f⟩:=ú.mp d;exact c.has a (Å (g.pre n a f))
 cX:=λa o u b=>c.cX a o u (g.cX a o u b)
theorem bp.cE(S:bp j z v a e)(g:b9 z v e Q1 B3 r0)(c:au z v e h O):au Q1 B3 r0 h O:=
 c.mono g.pre (λb o d f=>g.frm b o f λi=>S.sep b i d) g.sub
theorem bp.mq(S:bp j z v a e)(g:b9 z v e Q1 B3 r0)(h:aE (au z v e) q η):aE (au Q1 B3 r0) q η:=h.imp λ_ _ b=>S.cE g b
theorem bp.cell(S:bp j z v a e)(d:a[b]?=J P2):∃c,z[b]?=J c/\ig j (au z v e) e c P2:=S.BP.get d
theorem bp.len(S:bp j z v a e):z.length=a.length:=S.BP.length
theorem bp.qH(S:bp j z v a e)(h:e i=_n)(m)[Decidable m]:bp j z (if m then Zp v i else v) a (upd e i T2)/\b9 z v e z (if m then Zp v i else v) (upd e i T2):=by
 have p:∀f∈z,f≠i:=λf l k=>S.has f l (k▸h)
 have o:∀f,v f->f≠i:=λf n k=>S.dom f n (k▸h)
 have g:b9 z v e z (if m then Zp v i else v) (upd e i T2):=⟨λ_ _ k=>k,(λf l=>by
  split
  .exact .inl l
  .exact l),λf l=>by
   split at l
   .rcases l with l|rfl
    .exact .inl l
    simp_all
   simp_all,λ_ l=>.inl l,λf u k _=>by rwa[av (aS k h)],λf l=>by rw[av (p f l)];exact S.has f l,λf s u k=>by rwa[av (aS k h)]⟩
 refine⟨⟨S.tZ,?_,λf l n=>?_,λf l=>?_⟩,g⟩
 .refine S.BP.imp λc f t=>?_
  refine t.imp (λd q r=>S.cE g r) (λu k=>?_) (λb s w k=>?_) λb x k=>?_
  .rwa[av (aS k h)]
  .rwa[av (aS k h)]
  .rwa[av (aS k h)]
 .split at n
  .rcases n with n|rfl
   .exact S.sep f l n
   grind
  .exact S.sep f l n
 .split at l
  .rcases l with l|rfl
   .rw[av (o f l)];exact S.dom f l
   .rw[aD];simp
  .rw[av (o f l)];exact S.dom f l
theorem bp.laid(S:bp j z v a e){p o c}(h:e p=_n)(l:∀R,(∀d k,au z v e d k->R d k)->ig j R (upd e p o) p c):bp j (z++[p]) v (a++[c]) (upd e p o)/\b9 z v e (z++[p]) v (upd e p o):=by
 have m:∀f∈z,f≠p:=λf ha i=>S.has f ha (i▸h)
 have q:∀f,v f->f≠p:=λf s i=>S.dom f s (i▸h)
 have g:b9 z v e (z++[p]) v (upd e p o):=⟨λn f i=>by rwa[ë (Ê.mp i).1],λ_ h=>h,λ_ h=>.inl h,by grind,λf u i _=>by rwa[av (aS i h)],λf ha=>by rw[av (m f ha)];exact S.has f ha,λf t u i=>by rwa[av (aS i h)]⟩
 refine⟨⟨?_,?_,λf ha s=>?_,λf ha=>by rw[av (q f ha)];exact S.dom f ha⟩,g⟩
 .refine Ă.mpr ⟨S.tZ,by simp,λf ha b w=>?_⟩
  simp_all
 .refine aE.append (S.BP.imp λc f l=>?_) (.one (l _ λd k r=>S.cE g r))
  refine l.imp (λd k r=>S.cE g r) (λu i=>?_) (λb t x i=>?_) λb y i=>?_
  .rwa[av (aS i h)]
  .rwa[av (aS i h)]
  .rwa[av (aS i h)]
 .rcases Ñ.mp ha with ha|ha
  .exact S.sep f ha s
  simp_all
theorem bp.put(S:bp j z v a e){o c}(A:z[b]?=J i)(C:∀o u,e i≠J (.cX o u))(P:∀R,(∀d l,au z v e d l->R d l)->ig j R (upd e i o) i c):bp j z v (a.set b c) (upd e i o)/\b9 z v e z v (upd e i o):=by
 have g:b9 z v e z v (upd e i o):=⟨λb k f=>f,λ_ h=>h,λ_ h=>.inl h,λk s=>.inl s,λk u f s=>by rw[av (λ(q:k=i)=>s (by rw[q];exact(Å A)))];exact f,λk s=>by
   by_cases q:k=i
   .subst q;rw[aD];simp
   .rw[av q];exact S.has k s,λk w u f=>by rw[av (λq=>C w u (by rw[←q];exact f))];exact f⟩
 have M:∀x,e i≠J (.xd x):=S.k_ (Å A);refine⟨⟨S.tZ,?_,S.sep,λk s=>?_⟩,g⟩
 .have E:∀{cs:B Cell}{n:B f'}{b:Nat},n.Nodup->aE (λc k=>ig j (au z v e) e k c) cs n->n[b]?=J i->aE (λc k=>ig j (au z v (upd e i o)) (upd e i o) k c) (cs.set b c) n:=by
   intro cs n b F G
   induction G generalizing b with
   |nil=>intro f;simp at f
   |@cons T H cs n r t I=>
    intro f;have p:=Ī.mp F;cases b with
    |zero=>
     simp at f;subst f;refine .cons (P _ λd l r=>S.cE g r) (aE.imp (λ_ _ q=>q) ?_)
     have:∀{cs:B Cell}{n:B f'},H∉n->aE (λc k=>ig j (au z v e) e k c) cs n->aE (λc k=>ig j (au z v (upd e H o)) (upd e H o) k c) cs n:=by
      intro cs n y G
      induction G with
      |nil=>exact .nil
      |@cons U a1 cs n r t I=>
       refine .cons (r.imp (λd l q=>S.cE g q) (λu f=>?_) (λm w K f=>?_) λm x f=>by rw[av (λq=>M x (by rw[←q];exact f))];exact f) (I λq=>y (Ŭ _ q))
       .rw[av (λq=>y (by rw[q];simp))];exact f
       .rw[av (λq=>C w K (by rw[←q];exact f))];exact f
     exact this p.1 t
    |succ b=>
     have N:=by simpa using f
     refine .cons (r.imp (λd l q=>S.cE g q) (λu Q=>?_) (λm w K O=>?_) λm x f=>by rw[av (λq=>M x (by rw[←q];exact f))];exact f) (I p.2 N)
     .rw[av (λq=>p.1 (by rw[q];exact Å N))];exact Q
     .rw[av (λq=>C w K (by rw[←q];exact O))];exact O
  exact E S.tZ S.BP A
 .by_cases q:k=i
  .subst q;rw[aD];simp
  .rw[av q];exact S.dom k s
abbrev ij:=D->aA->B f'->(f'->Prop)->Hp->Prop
def bC(f:L->f'->Prop)(g:ij)(α:B f')(Z:f'->Prop)(H)(r:ax D)(Q:VK):=match r with
 |.ok d b=>∀v c a e,b9 α Z H a e c->bp f a e b c->au a e c d v->Q v c
 |.e x b=>∀c a e,b9 α Z H a e c->bp f a e b c->g x b a e c
 |.b=>False
structure cJ(κ:L->f'->Prop)(α0:B f')(Z0:f'->Prop)(H0:Hp)(α:B f')(Z:f'->Prop)(Ω:aA)(ρ:a_)(σ:L2.St)(H:Hp):Prop where
 st:bp κ α Z Ω H
 gr:b9 α0 Z0 H0 α Z H
 len:σ.length=ρ.length
 val:∀(i:Nat) (d:D),ρ[i]?=J (J d)->∃v,σ[i]?=J (J v)/\au α Z H d v
abbrev EM:=a_->aA->ax D
def tO(b:L->f'->Prop)(f:ij)(a:B f')(g:f'->Prop)(h:Hp)(m:EM)(c:a_)(d:aA):TE:=λi H Q=>
 ∃e Z,cJ b a g h e Z d c i H/\bC b f e Z H (m c d) Q
def ba(X)(b:L->f'->Prop)(c e m):=∀a d f g h,PE X e (tO b c a d f m g h)
variable{X1:ax D}{w:ij}
theorem bC.from(g:b9 z v e Q1 B3 r0)(h:bC j w z v e X1 Ξ):bC j w Q1 B3 r0 X1 Ξ:=by
 cases X1 with
 |ok d b=>exact λa c f i k=>h a c _ i (g.trans k)
 |e x b=>exact λc f i k=>h c _ i (g.trans k)
 |b=>exact h
variable{i7:D->aA->ax D}
theorem bC.use{l}(h:bC j w z v e (X1.bind i7) Ξ)(k:∀d b,X1=.ok d b->∀a f c i,b9 z v e c i f->bp j c i b f->au c i f d a->bC j w c i f (i7 d b) Ξ->l a f):bC j w z v e X1 l:=by
 cases X1 with
 |ok d b=>exact λa f c i g s q=>k d _ Y a f _ i g s q (bC.from g h)
 |e x b=>exact h
 |b=>exact h
def bC.ret(S:bp j z v a e)(q:au z v e h O)(b:bC j w z v e (.ok h a) Ξ):=b O e z v (b9.refl S.has) S q
variable{u:a_}{x:aA}
theorem cJ.grow(S:cJ j c9 W9 y8 z v a u A2 e)(g:b9 z v e Q1 B3 r0)(s:bp j Q1 B3 x r0):cJ j c9 W9 y8 Q1 B3 x u A2 r0:=
 ⟨s,S.gr.trans g,S.len,λi d b=>bN (S.val i d b) λc f h=>⟨c,f,S.st.cE g h⟩⟩
theorem aM(a:kB h=J O):au z v e h O:=by
 cases h<;>first|cases a;simp only[au]|exact bD a
theorem yB(a:iD h=_t):∃v,kB h=J v:=by
 cases h<;>first|exact⟨_,Y⟩|cases a
theorem dN(a:kB h=J D3)(r:Rep v e h O):O=D3:=by
 cases h<;>first | (cases a;simpa only [Rep]using r)|exact bD a
noncomputable def bq{α a:Type}(f:α->_o a):B α->_o (B a)
 |[]=>J []
 |x::b=>match f x,bq f b with
  |J y,J c=>J (y::c)
  |_,_=>_n
def et(c:aA):Nat->D->_o D
 |_,.n=>J .n
 |_,.bl b=>J (.bl b)
 |_,.int i=>J (.int i)
 |_,.str x=>J (.str x)
 |0,_=>_n
 |n+1,.l a=>(bq (et c n) a).map .l
 |n+1,.t a=>(bq (et c n) a).map .t
 |n+1,.ref k=>match c[k]? with
  |J (.l a)=>(bq (et c n) a).map .l
  |_=>_n
 |_+1,.dct _ _=>_n
def Ia(α:B f')(Z:f'->Prop):=λa=>Z a\/a∈α
theorem fw{f R S}(g:∀d e v,f d=J e->R d v->S e v):∀{c a:B D}{b:B V},bq f c=J a->aE R c b->aE S a b
 |[],a,b,h,r=>by cases h;rw[r.nil_inv];exact .nil
 |d::c,a,b,h,r=>by
  simp only[bq]at h;split at h
  .rename_i y l m i
   cases h;obtain⟨v,j,rfl,n,k⟩:=r.cons_inv;exact .cons (by grind) (fw g i k)
  .exact bD h
theorem iU{Z H}:∀{a}{b},aE (Rep Z H) a b->aW Z H a b
 |_,_,.nil=>.nil
 |_,_,.cons r t=>.cons r (iU t)
theorem mZ(S:bp j z v a e):∀n {d f}{b},et a n d=J f->au z v e d b->Rep (Ia z v) e f b:=by
 intro n
 induction n with
 |zero=>
  intro d f b h r;cases d<;>first | (cases h;simpa only [Rep,au]using r)|exact bD h
 |succ n o=>
  intro d f b h r;cases d with
  |l u=>
   obtain⟨w,g,rfl⟩:=È.mp h;obtain⟨c,i,rfl,p,s,l⟩:=r;exact⟨c,i,Y,.inl p,s,iU (fw (S:=Rep _ e) (λd f b q r=>o q r) g (cj.mp l))⟩
  |t u=>
   obtain⟨w,g,rfl⟩:=È.mp h;obtain⟨c,i,rfl,p,s,l⟩:=r;exact⟨c,i,Y,.inl p,.inl s,iU (fw (S:=Rep _ e) (λd f b q r=>o q r) g (cj.mp l))⟩
  |ref k=>
   simp only[et]at h;split at h
   .rename_i u x
    obtain⟨w,g,rfl⟩:=È.mp h;refine bN (S.cell x) λc y t=>bN t λi A l=>?_
    obtain⟨C,m,rfl⟩:=r;rw[y]at m;cases m;exact⟨c,i,Y,.inr (by grind),.inl A,iU (fw (S:=Rep _ e) (λd f b q r=>o q r) g l)⟩
   .exact bD h
  |dct _ _=>exact bD h
  |_=>cases h;simpa only [Rep,au]using r
theorem df(S:bp j z v a e):∀b,Ia z v b->e b≠none:=λb h=>h.elim (S.dom b) (S.has b)
theorem bp.same(S:bp j z v a e)(h:nX e r0):bp j z v a r0/\b9 z v e z v r0:=by
 have g:b9 z v e z v r0:=⟨by simp,λ_ k=>k,by simp_all,λ_ k=>.inl k,λf o i _=>h f o i,λf m=>by
  cases q:e f with
  |none=>exact absurd q (S.has f m)
  |some o=>rw[h f o q];simp,λf o u i=>h f _ i⟩
 refine⟨⟨S.tZ,S.BP.imp λc f n=>n.imp (λd l r=>S.cE g r) (λo i=>h f o i) (λb o u i=>h b _ i) λb p i=>h b _ i,S.sep,λf k=>?_⟩,g⟩
 cases q:e f with
 |none=>exact absurd q (S.dom f k)
 |some o=>rw[h f o q];simp
theorem bp.adopt(S:bp j z v a e)(h:nX e r0)(q:e i=_n)(m:∀R,(∀d g,au z v r0 d g->R d g)->ig j R r0 i P2):bp j (z++[i]) v (a++[P2]) r0/\b9 z v e (z++[i]) v r0:=by
 obtain⟨s,o⟩:=S.same h;have t:∀c∈z,c≠i:=λc ha f=>S.has c ha (f▸q)
 have u:∀c,v c->c≠i:=λc p f=>S.dom c p (f▸q)
 have l:∀(n:Nat) (c:f'),z[n]?=J c->(z++[i])[n]?=J c:=λn c f=>by rwa[ë (by grind)]
 have mono:∀d g,au z v r0 d g->au _ v r0 d g:=λd g r=>r.mono l (λ_ _ _ f=>f) λ_ k=>k
 refine⟨⟨?_,?_,λc ha p=>?_,s.dom⟩,⟨l,λ_ k=>k,by simp_all,λc ha=>?_,o.frm,o.has,o.cX⟩⟩
 .refine Ă.mpr ⟨S.tZ,by simp,λc ha b w=>?_⟩
  simp_all
 .exact aE.append (s.BP.imp λP2 c m=>m.imp mono (λ_ f=>f) (by simp) (by simp)) (.one (m _ mono))
 .rcases Ñ.mp ha with ha|ha
  .exact S.sep c ha p
  simp_all
 grind
noncomputable def fG(a:aA)(c:Cell):ax D:=.ok (.ref a.length) (a++[c])
def ik(a:aA):Out Rs->ax D
 |.ok (own,d)=>if iD d then .ok d a else match own,d with
  |_t,.l b=>if b.all iD then fG a (.l b)else .b
  |_,_=>.b
 |_=>.b
theorem eu(S:bp j z v a e)(p):au (z++[p]) v r0 (.ref a.length) (.ref p):=⟨p,by rw[←S.len];simp,Y⟩
theorem qI{α Z e H f}:∀{a}{b},a.all iD=_t->aW e f a b->aE (au α Z H) a b
 |[],b,_,r=>by rw[r.nil_inv];exact .nil
 |d::a,b,h,r=>by
  obtain⟨v,g,rfl,i,j⟩:=r.cons_inv;simp only[ţ,Õ]at h;obtain⟨w,c⟩:=yB h.1;obtain rfl:=dN c i;exact .cons (aM c) (qI h.2 j)
theorem kI{r}(S:bp j z v a e)(h:bC j w z v e (ik a r) Ξ):∃own d,r=.ok (own,d)/\∀b f u i,fm u e i f->eU E own i e f d b->Ξ b f:=by
 cases r with
 |ok q=>
  obtain⟨own,d⟩:=q;refine⟨_,d,Y,λb f u i g q=>?_⟩
  simp only[ik]at h;split at h
  .rename_i x
   obtain⟨m,l⟩:=yB x
   have y:=by
    have n:=q.nw;cases d with
    |n=>exact dN (v:=i) (e:=f) l n
    |bl _=>exact dN (v:=i) (e:=f) l n
    |int _=>exact dN (v:=i) (e:=f) l n
    |str _=>exact dN (v:=i) (e:=f) l n
    |_=>cases x
   subst y;obtain⟨o,p⟩:=S.same g.same;exact h b f z v p o (aM l)
  .split at h
   .rename_i A C
    split at h
    .rename_i s
     refine jh q λk D F G t H N I K=>?_;subst t
     cases G;obtain⟨o,p⟩:=S.adopt (P2:=.l A) g.same H (λR M=>⟨D,I,(qI s K).imp M⟩)
     exact h _ f _ v p o (eu S k)
    .exact h.elim
   .exact h.elim
 |e c O=>exact h.elim
 |b=>exact h.elim
def m1(f:D->aA->ax D)(a:EM):EM:=λb c=>(a b c).bind f
def m2(f:D->D->aA->ax D)(d e:EM):EM:=λc g=>(d c g).bind λx a=>(e c a).bind λy b=>f x y b
noncomputable def la(a b:ax D):=match a with
 |.b=>b
 |r=>r
def MQ(f g:D->aA->ax D):=λx a=>la (f x a) (g x a)
def lD(f g:D->D->aA->ax D):=λx y a=>la (f x y a) (g x y a)
def fx(f g:EM):EM:=λa b=>la (f a b) (g a b)
def DP(f:D->Out Rs):D->aA->ax D:=λx a=>match et a 8 x with
 |J dx=>ik a (f dx)
 |_n=>.b
def eG(f:D->D->Out Rs):D->D->aA->ax D:=λx y a=>match et a 8 x,et a 8 y with
 |J dx,J b=>ik a (f dx b)
 |_,_=>.b
def kJ(b:aA):D->_o Bool
 |.ref k=>match b[k]? with
  |J (.l c)=>J (!c.isEmpty)
  |J (.dK a)=>J (!a.isEmpty)
  |_=>_n
 |d=>mF d
def eH:ax D->ax Bool
 |.ok d Ω=>match kJ Ω d with
  |J b=>.ok b Ω
  |_n=>.b
 |.e x Ω=>.e x Ω
 |.b=>.b
def t4(f:L->f'->Prop)(g:ij)(α:B f')(Z:f'->Prop)(H)(r:ax Bool)(Q:Bool->Hp->Prop):=match r with
 |.ok b c=>∀d a e,b9 α Z H a e d->bp f a e c d->Q b d
 |.e x c=>∀d a e,b9 α Z H a e d->bp f a e c d->g x c a e d
 |.b=>False
def Yt(b:L->f'->Prop)(f:ij)(a:B f')(g:f'->Prop)(h:Hp)(m:EM)(c:a_)(d:aA):TT:=λi H Q=>∃e Z,cJ b a g h e Z d c i H/\t4 b f e Z H (eH (m c d)) Q
def j7(X)(b:L->f'->Prop)(c e m):=∀a d f g h,PT X e (Yt b c a d f m g h)
abbrev AM:=a_->aA->ax (B D)
def pH(e:L->f'->Prop)(g:ij)(α:B f')(Z:f'->Prop)(H)(r:ax (B D))(Q:B V->Hp->Prop):=match r with
 |.ok h b=>∀f c a d,b9 α Z H a d c->bp e a d b c->aE (au a d c) h f->Q f c
 |.e x b=>∀c a d,b9 α Z H a d c->bp e a d b c->g x b a d c
 |.b=>False
def tAO(b:L->f'->Prop)(f:ij)(a:B f')(g:f'->Prop)(h:Hp)(m:AM)(c:a_)(d:aA):TA:=λi H Q=>∃e Z,cJ b a g h e Z d c i H/\pH b f e Z H (m c d) Q
def mH(X)(b:L->f'->Prop)(c)(d:B p')(m):=∀a e f g h,PA X d (tAO b c a e f m g h)
noncomputable def aj:AM:=λ_ a=>.ok [] a
def ae(a:EM)(as:AM):AM:=λd e=>(a d e).bind λx b=>(as d b).bind λf c=>.ok (x::f) c
def mN(f:B D->aA->ax D)(as:AM):EM:=λa b=>(as a b).bind f
variable{Y8:B V->Hp->Prop}{y9:ax (B D)}
theorem pH.from(g:b9 z v e Q1 B3 r0)(h:pH j w z v e y9 Y8):pH j w Q1 B3 r0 y9 Y8:=by
 cases y9 with
 |ok d b=>exact λa c f i k=>h a c _ i (g.trans k)
 |e x b=>exact λc f i k=>h c _ i (g.trans k)
 |b=>exact h
variable{h9:Bool->Hp->Prop}{x9:ax Bool}
theorem t4.from(g:b9 z v e Q1 B3 r0)(h:t4 j w z v e x9 h9):t4 j w Q1 B3 r0 x9 h9:=by
 cases x9 with
 |ok d a=>exact λb c f i=>h b _ f (g.trans i)
 |e x a=>exact λb c f i=>h b _ f (g.trans i)
 |b=>exact h
variable{F7:B D->aA->ax D}
theorem pH.use(h:bC j w z v e (y9.bind F7) Ξ)(k:∀l a,y9=.ok l a->∀m c b i,b9 z v e b i c->bp j b i a c->aE (au b i c) l m->bC j w b i c (F7 l a) Ξ->Y8 m c):pH j w z v e y9 Y8:=by
 cases y9 with
 |ok d a=>exact λf c b i g s q=>k d _ Y f c _ i g s q (bC.from g h)
 |e x a=>exact h
 |b=>exact h
theorem PE.or(h:PE c n u0)(b:PE c n E3):PE c n (λa H Q=>u0 a H Q\/E3 a H Q):=λpins s a H Q I q=>q.elim (h _ s a H Q I) (b _ s a H Q I)
theorem PT.or(h:PT c n m5)(b:PT c n S7):PT c n (λa H Q=>m5 a H Q\/S7 a H Q):=λpins s a H Q I q=>q.elim (h _ s a H Q I) (b _ s a H Q I)
variable{w9:ax D}
theorem qJ:la X1 w9=X1\/(X1=.b/\la X1 w9=w9):=by cases X1<;>simp[la]
variable{p ς:EM}
theorem ba.alt(h:ba c j w n p)(k:ba c j w n ς):ba c j w n (fx p ς):=by
 intro a e f b d;refine PE.imp (PE.or (h a e f b d) (k a e f b d)) ?_;rintro l H Q ⟨i,Z,S,g⟩;rcases qJ (X1:=p b d)with q|⟨_,q⟩
 .exact .inl ⟨i,Z,S,by rwa[←q]⟩
 .exact .inr ⟨i,Z,S,by rwa[←q]⟩
theorem j7.alt(h:j7 c j w n p)(k:j7 c j w n ς):j7 c j w n (fx p ς):=by
 intro a e f b d;refine PT.imp (PT.or (h a e f b d) (k a e f b d)) ?_;rintro l H Q ⟨i,Z,S,g⟩;rcases qJ (X1:=p b d)with q|⟨_,q⟩
 .exact .inl ⟨i,Z,S,by rwa[←q]⟩
 .exact .inr ⟨i,Z,S,by rwa[←q]⟩
variable{k7:D->D->aA->ax D}
theorem sI{g}:m2 (lD k7 g) p ς=fx (m2 k7 p ς) (m2 g p ς):=by
 funext b a
 simp only[m2,fx];cases p b a with
 |ok x c=>
  simp only[ax.bind];cases ς b _ with
  |ok y d=>rfl
  |e x a=>rfl
  |b=>rfl
 |e x a=>rfl
 |b=>rfl
theorem MR{g}:m1 (MQ i7 g) p=fx (m1 i7 p) (m1 g p):=by
 funext b a
 simp only[m1,fx];cases p b a with
 |ok x c=>rfl
 |e x a=>rfl
 |b=>rfl
theorem fU{r:V->Hp->VK->Prop}(h:∀d,PE c n d->PE c ξ λe H Q=>d e H λx f=>r x f Q)(i:ba c j w n p)(o:∀dx x α Z a H Q,bp j α Z a H->au α Z H dx x->bC j w α Z H (i7 dx a) Q->r x H Q):ba c j w ξ (m1 i7 p):=by
 intro b k l m a;refine PE.imp (h _ (i b k l m a)) ?_;rintro e H Q ⟨α,Z,S,g⟩;refine⟨α,Z,S,g.use (by grind)⟩
variable{G5:R2}
theorem jl(h:∀r tb,PE c n r->PE c ξ tb->PE c M3 (PD G5 r tb))(m:ba c j w n p)(o:ba c j w ξ ς)(C:∀dx s x y α Z b H Q,bp j α Z b H->au α Z H dx x->au α Z H s y->bC j w α Z H (k7 dx s b) Q->G5 x y H Q):ba c j w M3 (m2 k7 p ς):=by
 intro a i k e b;rcases q:p e b with ⟨d,l⟩|⟨x,l⟩|_
 .refine PE.imp (h _ _ (m a i k e b) (o a i k e l)) ?_
  rintro t H Q ⟨α,Z,S,g⟩;refine⟨α,Z,S,bC.use g λX u z v H1 D E F A G I=>?_⟩
  rw[q]at z;cases z;refine⟨_,E,S.grow F A,I.use λK M _ f N O P R T U V=>C d K v f _ P _ N Q T (A.cE R G) U V⟩
 .refine PE.imp (h _ _ (m a i k e b) (o a i k e b)) ?_
  rintro t H Q ⟨α,Z,S,g⟩;refine⟨α,Z,S,?_⟩;simp only[m2,q,ax.bind]at g ⊢;exact g
 .refine PE.imp (h _ _ (m a i k e b) (o a i k e b)) ?_
  rintro t H Q ⟨α,Z,S,g⟩;simp only[m2,q,ax.bind]at g;exact g.elim
variable{R9:D->Out Rs}
theorem uJ(S:bp j z v a e)(m:au z v e h O)(b:bC j w z v e (DP R9 h a) Ξ):
  ∃d own g,Now (Ia z v) e d O/\R9 d=.ok (own,g)/\∀c i l,fm (Ia z v) e l i->eU E own l e i g c->Ξ c i:=by
 unfold DP at b;split at b
 .rename_i d n
  refine cy (kI (E:=E) S b) λown g f k=>⟨d,_,g,(mZ S 8 n m).now,f,by grind⟩
 .exact b.elim
variable{T9:D->D->Out Rs}
theorem gK(S:bp j z v a e)(m:au z v e h O)(n:au z v e ε D3)(b:bC j w z v e (eG T9 h ε a) Ξ):
  ∃d c own g,Now (Ia z v) e d O/\Now (Ia z v) e c D3/\T9 d c=.ok (own,g)/\∀f i l,fm (Ia z v) e l i->eU E own l e i g f->Ξ f i:=by
 unfold eG at b;split at b
 .rename_i d c o p
  refine cy (kI (E:=E) S b) λown g q k=>⟨d,c,_,g,(mZ S 8 o m).now,(mZ S 8 p n).now,q,by grind⟩
 .exact b.elim
theorem fV(k:c.N[b]?=J d)(l:BL c.env.scope d)(e:(d==("__debug__"))=_d)(f:(d==("__classdict__"))=_d):ba c j w (.Name d o) (λh i=>match h[b]? with|J (J a)=>.ok a i|_=>.b):=by
 intro m q r h i;refine PE.imp (rl k l e f) ?_;rintro s H Q ⟨t,Z,S,g⟩;dsimp only at g;split at g
 .rename_i a e
  obtain⟨v,n,p⟩:=S.val b a e;exact⟨v,n,bC.ret S.st p g⟩
 .exact g.elim
theorem cW(a:PE c n (tC O))(d:kB h=J O):ba c j w n (λ_ b=>.ok h b):=by
 intro e f i k b;refine PE.imp a ?_;rintro l H Q ⟨m,Z,S,g⟩;exact bC.ret S.st (aM d) g
def MS(d v):=kB d=J v\/d=.dct [] []
theorem DQ(a:PE c n (tC O))(b:MS h O):ba c j w n (λ_ d=>.ok h d):=by
 intro e f i k d;refine PE.imp a ?_;rintro l H Q ⟨m,Z,S,g⟩;refine bC.ret S.st ?_ g;rcases b with b|rfl
 .exact aM b
 .simp only[au]
noncomputable def dq(b:aA):D->_o (B D)
 |.ref k=>match b[k]? with
  |J (.l a)=>J a
  |_=>_n
 |.l a=>J a
 |_=>_n
theorem bx(S:bp j z v a e)(r:au z v e h O)(b:dq a h=J q):∃c d,O=.ref c/\Rd e c (.l d)/\aE (au z v e) q d:=by
 cases h with
 |ref k=>
  simp only[dq]at b;split at b
  .rename_i m n
   cases b;obtain⟨c,o,rfl⟩:=r;refine bN (S.cell n) λp f g=>bN g λd i l=>?_
   rw[o]at f;cases f;exact⟨c,d,Y,.inl i,l⟩
  .exact bD b
 |l s=>
  cases b;obtain⟨c,d,rfl,_,i,l⟩:=r;exact⟨c,d,Y,i,cj.mp l⟩
 |_=>exact bD b
theorem dO(r:au z v e (.t q) O):∃a c,O=.ref a/\v a/\e a=J (.t c)/\aE (au z v e) q c:=by
 refine bT r λa c b d f g=>⟨a,c,b,d,f,cj.mp g⟩
def gO(S:bp j z v a e)(r:aE (au z v e) q η)(k:bC j w z v e (fG a (.l q)) Ξ):=λp b=>by
 obtain⟨d,f⟩:=S.laid (c:=.l q) b λR g=>⟨η,aD,r.imp g⟩
 exact k _ _ _ v f d (eu S p)
def uK(S:bp j z v a e)(r:aE (au z v e) q η)(k:bC j w z v e (.ok (.t q) a) Ξ):=λp c=>by
 obtain⟨d,b⟩:=S.qH c True;refine k _ _ _ _ b d ⟨p,η,Y,.inr Y,aD,cj.mpr (S.mq b r)⟩
theorem cF:mH c j w [] aj:=by
 intro a d e f h;refine PA.imp rE ?_;rintro i H Q ⟨b,Z,S,g⟩;exact g [] H b Z (b9.refl S.st.has) S.st .nil
variable{Q0:AM}
theorem bf(m:ba c j w n p)(o:mH c j w Z Q0)(r:D' (n::Z) c.env=(_d,eval n c.env)::D' Z c.env):mH c j w (n::Z) (ae p Q0):=by
 intro b f h e i;rcases q:p e i with ⟨d,k⟩|⟨x,k⟩|_
 .refine PA.imp (fO (m b f h e i) (o b f h e k) r) ?_
  rintro u H Q ⟨l,a,S,g⟩;refine⟨l,a,S,?_⟩;simp only[ae,q,ax.bind]at g ⊢;intro v K C D y z E;refine⟨_,D,S.grow y z,?_⟩;have g:=pH.from y g
  rcases s:Q0 e _ with ⟨M,t⟩|⟨x,t⟩|_
  .rw[s]at g
   intro N O F P A G I;exact g _ _ _ _ A G (.cons (z.cE A E) I)
  .rwa[s]at g
  .rwa[s]at g
 .refine PA.imp (fO (m b f h e i) (o b f h e i) r) ?_
  rintro u H Q ⟨l,a,S,g⟩;refine⟨l,a,S,?_⟩;simp only[ae,q,ax.bind]at g ⊢;exact g
 .refine PA.imp (fO (m b f h e i) (o b f h e i) r) ?_
  rintro u H Q ⟨l,a,S,g⟩;simp only[ae,q,ax.bind]at g;exact g.elim
def b_(a:B D)(b):=if small a.length then fG b (.l a)else .b
def gm(a:B D)(b:aA):ax D:=if small a.length then .ok (.t a) b else .b
theorem m3(h:mH c j w Z Q0):ba c j w (.List Z o) (mN b_ Q0):=by
 intro d f i k l;refine PE.imp (Mr (h d f i k l)) ?_;rintro s H Q ⟨m,a,S,g⟩;refine⟨m,a,S,pH.use g λt n _ u x p y z q e b=>?_⟩
 unfold b_ at b;split at b
 .rename_i r
  exact⟨by rw[e.length];exact bA r,gO q e b⟩
 .exact b.elim
theorem jm{x1}(h:mH c j w Z Q0):ba c j w (.Tuple Z x1 o) (mN gm Q0):=by
 intro d f i k l;refine PE.imp (Mq (h d f i k l)) ?_;rintro s H Q ⟨m,a,S,g⟩;refine⟨m,a,S,pH.use g λt n _ u x p y z q e b=>?_⟩
 unfold gm at b;split at b
 .rename_i r
  exact⟨by rw[e.length];exact bA r,uK q e b⟩
 .exact b.elim
def AU(x y:D)(a:aA):ax D:=match dq a x,dq a y with
 |J b,J c=>if small (b.length+c.length)then fG a (.l (b++c))else .b
 |_,_=>.b
def bb(op:Ē):=match op with
 |.Add=>lD AU (eG (gx .Add))
 |op=>eG (gx op)
theorem yC(m:ba c j w n p)(q:ba c j w ξ ς):ba c j w (.BinOp n u8 ξ o) (m2 (bb u8) p ς):=by
 have E:ba c j w (.BinOp n u8 ξ o) (m2 (eG (gx u8)) p ς):=jl (G5:=HL u8) (λt tb b f=>KA (Di u8) b f) m q λdx u x y z Z A H Q S h i g=>by
  obtain⟨d,e,own,T,D,F,G,k⟩:=gK (E:=_d) S h i g;exact ME (E:=_d) D F (df S) G k
 have C:u8=.Add->ba c j w (.BinOp n u8 ξ o) (m2 AU p ς):=λe=>by
  subst e;refine jl (G5:=HL .Add) (λt tb b f=>KA (Di .Add) b f) m q λdx u x y z Z A H Q S h i g=>?_
  unfold AU at g;split at g
  .rename_i U V I K
   obtain⟨l,M,rfl,N,r⟩:=bx S h I;obtain⟨a,O,rfl,P,s⟩:=bx S i K;split at g
   .rename_i R
    exact .inr (.inr ⟨l,a,M,O,Y,Y,N,P,by rw[r.length,s.length];exact bA R,gO S (r.append s) g⟩)
   .exact g.elim
  .exact g.elim
 cases u8 with
 |Add=>show ba c j w _ (m2 (lD AU (eG (gx .Add))) p ς);rw[sI];exact(C Y).alt E
 |_=>exact E
def DR:=DP λx=>match x with|.int i=>.ok (_d,.int (-i))|_=>.b
theorem Ib(b:ba c j w n p):ba c j w (.UnaryOp .USub n o) (m1 DR p):=
 fU (λi e=>Qq Ml e) b λdx x l Z m H Q S f g=>by
  obtain⟨d,own,q,h,a,k⟩:=uJ (E:=_d) S f g;split at a
  .cases cU h
   cases a;exact⟨_,Y,k _ H _ (fm.refl (df S)) (.rep (gz Y))⟩
  .cases a
def rT2:R2:=λx y H Q=>∃p q a b c d,x=.ref p/\y=.ref q/\Rd H p (.t [.str a,.ref c])/\Rd H q (.t [.str b,.ref d])/\Rd H c (.dK [])/\Rd H d (.dK [])/\Q (.bl (a==b)) H
theorem yD{P f w g}[DecidableEq B2][DecidableEq B8]{knd:KeyKind P w B2}{a:KeyKind f g B8}(d:H.DictOf knd i []):H.DictOf a i []:=by
 obtain⟨o,b,h,j,k,m,n,c,p⟩:=d
 have e:b.toList=[]:=by
  generalize b.toList=l at c;cases c;rfl
 refine⟨o,b,h,j,k,m,?_,?_,.nil⟩
 .intro x q;simp_all
 .rw[e];exact .nil
theorem DS(I:Inv c R A2 e y)(d:ο.units<Æ)(f:Rd e i (.dK []))(g:Rd e S (.dK [])):ĵ ο y (.ref i) (.ref S) true:=by
 obtain⟨_,h,q,j,k⟩:=iC I.hok f;obtain⟨_,l,r,m,n⟩:=iC I.hok g;cases j;cases m
 by_cases a:i=S
 .subst a;exact aep _
 .intro prog o E Q p
  refine î (aci (λb=>absurd (eq_of_beq b) (by simp_all)) λ_=>?_)
  refine j' (PySem.W.keq_eq (knd:=strKind _ o) h l (yD k) (yD n) d (λ_=>.nil) (ħ p))
theorem Ry(i:c.A.units+64<Æ):ki c (Ú .Eq) rT2:=by
 intro pins s N H x y u v Q I l m h;obtain⟨p,q,a,b,O,P,rfl,rfl,n,o,r,t,k⟩:=h;cases (l);cases (m);obtain⟨w,f,z,_⟩:=I.tuple (vK n);obtain⟨g,d,C,_⟩:=I.tuple (vK o);cases f with
 |@cons _ u1 _ _ D f=>
 cases f with
 |@cons _ u2 _ _ E f=>
 cases f;cases d with
 |@cons _ u3 _ _ F d=>
 cases d with
 |@cons _ u4 _ _ G d=>
 cases d;obtain⟨K,rfl⟩:=D;obtain⟨tb,rfl⟩:=F;cases (E);cases (G)
 have:=aeq (A:=c.A) z C (â (à _ _) i) (e:=λj=>if j=0 then a==b else _t) (λj M R=>by
  match j,M with
  |0,_=>exact gG (v:=λ_=>True) I 1 _ _ _ _ _ (by grind) Y Y (.str a K) (.str b tb)
  |1,_=>exact DS I (by grind) r t)
 refine this _ _ _ _ ⟨_,H,I,?_,k⟩;cases a==b<;>rfl
noncomputable def aN{a b:Type}[DecidableEq a](kvs:B (a×b))(k):=(kvs.find? λc=>decide (c.1=k)).map (·.2)
noncomputable def dh{b c:Type}[DecidableEq b](kvs:B (b×c))(k v):=
 if (kvs.any λa=>decide (a.1=k))=_t then kvs.map (λa=>if a.1=k then (a.1,v)else a)else kvs++[(k,v)]
noncomputable def gQ{a b:Type}[DecidableEq a](kvs:B (a×b))(k):=kvs.filter λc=>decide (c.1≠k)
section
variable{κ:Type}[DecidableEq κ]{R:D->V->Prop}
theorem fF.val{kvs a}(h:fF R kvs a)(k:κ):(∀d,aN kvs k=J d->∃v,jy a k=J v/\R d v)/\(aN kvs k=_n->jy a k=_n):=by
 induction h with
 |nil=>exact⟨λd e=>(by cases e),λ_=>Y⟩
 |@cons p q b g r t i=>
  obtain⟨c,j⟩:=r
  by_cases e:p.1=k
  .have f:aN (p::b) k=J p.2:=by simp[aN,Ė,e]
   rw[km (c▸e)]
   simp_all
  .have f:aN (p::b) k=aN b k:=by simp[aN,Ė,e]
   rwa[f,ko (λz=>e (c.trans z))]
theorem fF.any{kvs a}(h:fF R kvs a)(k:κ):(a.any λb=>decide (b.1=k))=kvs.any λb=>decide (b.1=k):=by
 induction h with
 |nil=>rfl
 |@cons p q c d r t e=>simp_all
theorem fF.put{kvs b}(a:fF R kvs b)(k:κ)(r:R h O):fF R (dh kvs k h) (putK b k O):=by
 unfold dh putK;rw[a.any];split
 .rename_i c
  clear c
  induction a with
  |nil=>exact .nil
  |@cons p q f g i t d=>
   refine .cons ?_ d
   by_cases e:p.1=k
   .simp_all
   simp_all
 .exact aE.append a (.one ⟨Y,r⟩)
theorem fF.drop{kvs a}(h:fF R kvs a)(k:κ):fF R (gQ kvs k) (nV a k):=by
 induction h with
 |nil=>exact .nil
 |@cons p q d f b t c=>
  unfold gQ nV;rw[Ž,Ž]
  by_cases e:p.1=k
  .have:=b.1▸e
   simp only[e,this,ne_eq,not_true_eq_false,decide_false];exact c
  .have:¬ q.1=k:=λz=>e (b.1.trans z)
   simp only[e,this,ne_eq,not_false_eq_true,decide_true,if_true];exact .cons b c
theorem fF.length{kvs:B (κ×D)}{a}(h:fF R kvs a):a.length=kvs.length:=aE.length h
end
noncomputable def kK:D->_o Key
 |.int i=>J (.inl i)
 |.str x=>J (.inr x)
 |_=>_n
def qK:D->_o (B Key)
 |.t a=>bq kK a
 |_=>_n
variable{Y6:Key}
theorem gR(a:kK h=J Y6)(r:au z v e h O):O=kV Y6:=by
 cases h with
 |int i=>cases a;exact r
 |str i=>cases a;exact r
 |_=>exact bD a
theorem oG{α Z H}:∀{b}{ks}{a},bq kK b=J ks->aE (au α Z H) b a->a=ks.map kV
 |[],ks,a,h,r=>by cases h;rw[r.nil_inv];rfl
 |d::b,ks,a,h,r=>by
  simp only[bq]at h;split at h
  .rename_i y j c e
   cases h;obtain⟨v,f,rfl,g,i⟩:=r.cons_inv;rw[gR c g,oG e i];rfl
  .exact bD h
variable{w8:B Key}
theorem lE(a:qK h=J w8)(r:au z v e h O):∃b,O=.ref b/\e b=J (.t (w8.map kV)):=by
 cases h with
 |t f=>
  obtain⟨b,g,rfl,_,c,d⟩:=dO r;rw[oG a d]at c;exact⟨b,Y,c⟩
 |_=>exact bD a
def uL(b:aA)(x y:D):=match x with
 |.ref k=>match b[k]? with
  |J (.dK a)=>(kK y).map (aN a)
  |J (.dT a)=>(qK y).map (aN a)
  |J (.dF a)=>(kK y).map (aN a)
  |_=>_n
 |_=>_n
variable{M4:_o D}
theorem uM(S:bp j z v a e)(A:au z v e h O)(w:au z v e ε D3)(c:uL a h ε=J M4):∃f x,O=.ref f/\lr e f D3 x/\(∀d,M4=J d->∃u,x=J u/\au z v e d u)/\(M4=_n->x=_n):=by
 cases h with
 |ref k=>
  simp only[uL]at c;obtain⟨f,y,rfl⟩:=A;split at c
  .rename_i m n
   obtain⟨l,o,rfl⟩:=È.mp c;obtain⟨C,g,i,p,q⟩:=S.cell n;rw[y]at g;cases g
   obtain rfl:=gR o w;obtain⟨r,s⟩:=q.val l;exact⟨f,_,Y,lr.k p,r,s⟩
  .rename_i m n
   obtain⟨l,o,rfl⟩:=È.mp c;obtain⟨C,g,i,p,q⟩:=S.cell n;rw[y]at g;cases g
   obtain⟨b,rfl,D⟩:=lE o w;obtain⟨r,s⟩:=q.val l;exact⟨f,_,Y,lr.t p D,r,s⟩
  .rename_i m n
   obtain⟨l,o,rfl⟩:=È.mp c;obtain⟨C,g,E,i,p,q⟩:=S.cell n;rw[y]at g;cases g
   obtain rfl:=gR o w;obtain⟨r,s⟩:=q.val l;exact⟨f,_,Y,.inl ⟨i,l,.inr ⟨E,p⟩,Y,Y⟩,r,s⟩
  .exact bD c
 |_=>exact bD c
noncomputable def sJ(b:aA)(x:D):=match x with
 |.ref k=>(match b[k]? with
  |J (.dK a)=>J a
  |J (.dF a)=>J a
  |_=>_n)
 |_=>_n
variable{U:B (Key×D)}
theorem iV(S:bp j z v a e)(r:au z v e h O)(b:sJ a h=J U):∃c d,O=.ref c/\Rd e c (.dK d)/\fF (au z v e) U d:=by
 unfold sJ at b;split at b
 .obtain⟨c,m,rfl⟩:=r
  split at b
  .rename_i g i
   cases b;obtain⟨n,f,d,k,l⟩:=S.cell i;rw[m]at f;cases f
   exact⟨c,_,Y,.inl k,l⟩
  .rename_i g i
   cases b;obtain⟨n,f,o,d,k,l⟩:=S.cell i;rw[m]at f;cases f
   exact⟨c,_,Y,.inr ⟨o,k⟩,l⟩
  .exact bD b
 .exact bD b
def d9(a):=eG λx y=>do let r ←gk a x y;Out.ok (_d,D.bl r)
def lF(a:Bool)(y x:D)(b:aA):ax D:=match uL b x y with
 |J o=>.ok (.bl (if a then !o.isSome else o.isSome)) b
 |_n=>.b
noncomputable def lG(a:Bool)(x y:D)(b:aA):ax D:=match x,y with
 |.ref _,.n=>.ok (.bl a) b
 |_,_=>.b
def PL(b)(x:D):=match x with
 |.t [.str a,d]=>(match sJ b d with
  |J []=>J a
  |_=>_n)
 |_=>_n
def wL(x y:D)(c:aA):ax D:=match PL c x,PL c y with
 |J a,J b=>.ok (.bl (a==b)) c
 |_,_=>.b
theorem yE(S:bp j z v a e)(r:au z v e h O)(b:PL a h=J d):∃p c,O=.ref p/\Rd e p (.t [.str d,.ref c])/\Rd e c (.dK []):=by
 unfold PL at b;split at b
 .split at b
  .rename_i g
   cases b;obtain⟨p,s,rfl,_,i,k⟩:=dO r;obtain⟨O,_,rfl,f,l⟩:=k.cons_inv;obtain⟨w,_,rfl,m,n⟩:=l.cons_inv;cases n.nil_inv;obtain⟨c,t,rfl,o,q⟩:=iV S m g;cases q;subst f;exact⟨p,c,Y,.inl i,o⟩
  .exact bD b
 .exact bD b
theorem MT(S:bp j z v a e)(d:au z v e h O)(f:au z v e ε D3)(g:bC j w z v e (wL h ε a) Ξ):rT2 O D3 e Ξ:=by
 unfold wL at g;split at g
 .rename_i i k
  obtain⟨p,c,rfl,l,m⟩:=yE S d i;obtain⟨q,b,rfl,n,o⟩:=yE S f k;exact⟨p,q,_,_,c,b,Y,Y,l,n,m,o,bC.ret S (aM Y) g⟩
 .exact g.elim
theorem Ic:∀x y a d aq,wL x y a=.ok d aq->∃t,d=.bl t:=λx y a d aq h=>by
 unfold wL at h;split at h
 .cases h;exact⟨_,Y⟩
 .cases h
def ay(op:ñ):=match op with
 |.Eq=>lD (d9 .Eq) wL
 |.In=>lD (d9 .In) (lF _d)
 |.NotIn=>lD (d9 .NotIn) (lF _t)
 |.Is=>lD (lG _d) (d9 .Is)
 |.IsNot=>lD (lG _t) (d9 .IsNot)
 |op=>d9 op
variable{C7:_o V}
theorem wM(a:∀d,M4=J d->∃u,C7=J u/\M6 d u)(b:M4=_n->C7=_n):C7.isSome=M4.isSome:=by
 cases M4 with
 |none=>simp_all
 |some d=>grind
theorem Ie(h:∀D tb,PE c n D->PE c ξ tb->PT c M3 (Ce (PD G5 D tb)))(o:ba c j w n p)(r:ba c j w ξ ς)(s:∀x y b d aq,k7 x y b=.ok d aq->∃t,d=.bl t)(N:∀dx E x y α Z b H Q,bp j α Z b H->au α Z H dx x->au α Z H E y->bC j w α Z H (k7 dx E b) Q->G5 x y H Q):j7 c j w M3 (m2 k7 p ς):=by
 intro a i k e b;rcases q:p e b with ⟨d,l⟩|⟨x,l⟩|_
 .refine PT.imp (h _ _ (o a i k e b) (r a i k e l)) ?_
  rintro F H Q ⟨α,Z,S,g⟩;refine⟨α,Z,S,?_⟩;simp only[m2,q,ax.bind]at g ⊢;intro v H1 O P G I R;refine⟨_,P,S.grow G I,?_⟩;have g:=t4.from G g
  rcases z:ς e _ with ⟨K,A⟩|⟨x,A⟩|_
  .rw[z]at g
   intro f T U V M X r2;refine N d K v f _ V _ T _ X (I.cE M R) r2 ?_;have g:=t4.from M g
   dsimp only[ax.bind]at g;rcases m:k7 d K _ with ⟨d3,C⟩|⟨x,C⟩|_
   .rw[m]at g
    obtain⟨t,rfl⟩:=s _ _ _ _ _ m;intro u H3 a0 Z3 g3 s3 r3;exact⟨t,r3,g H3 _ Z3 g3 s3⟩
   .rwa[m]at g
   .rwa[m]at g
  .rwa[z]at g
  .rwa[z]at g
 .refine PT.imp (h _ _ (o a i k e b) (r a i k e b)) ?_
  rintro F H Q ⟨α,Z,S,g⟩;refine⟨α,Z,S,?_⟩;simp only[m2,q,ax.bind,eH]at g ⊢;exact g
 .refine PT.imp (h _ _ (o a i k e b) (r a i k e b)) ?_
  rintro F H Q ⟨α,Z,S,g⟩;simp only[m2,q,ax.bind,eH]at g;exact g.elim
def MU(b:Bool):R2:=λy x H Q=>∃a o,x=.ref a/\lr H a y o/\Q (.bl (if b then !o.isSome else o.isSome)) H
theorem MV(b:c.A.units+1<Æ):ki c (Ú .In) (MU _d):=by
 intro pins s i H x y u v Q I d e h;obtain⟨a,o,rfl,g,q⟩:=h;obtain rfl:v=Ë a:=e;exact XO b I g d λj f=>⟨.bl _,H,f,Y,q⟩
theorem AV(b:c.A.units+1<Æ):ki c (Ú .NotIn) (MU _t):=by
 intro pins s i H x y u v Q I d e h;obtain⟨a,o,rfl,g,q⟩:=h;obtain rfl:v=Ë a:=e;exact Hd b I g d λj f=>⟨.bl _,H,f,Y,q⟩
theorem wN(S:bp j z v a e)(c:au z v e h O)(f:au z v e ε D3)(g:bC j w z v e (d9 A4 h ε a) Ξ):Dl A4 O D3 e Ξ:=by
 obtain⟨d,b,own,n,i,l,m,k⟩:=gK S c f g;exact MF (E:=_d) i l (df S) m k
theorem DT(S:bp j z v a e)(c:au z v e h O)(d:au z v e ε D3)(g:bC j w z v e (lF E h ε a) Ξ):MU E O D3 e Ξ:=by
 unfold lF at g;split at g
 .rename_i o f
  obtain⟨b,i,rfl,k,l,m⟩:=uM S d c f;refine⟨b,i,Y,k,?_⟩;rw[wM l m];exact bC.ret S (aM Y) g
 .exact g.elim
theorem DV(b:A4=if E then .IsNot else .Is)(S:bp j z v a e)(c:au z v e h O)(d:au z v e ε D3)(g:bC j w z v e (lG E h ε a) Ξ):
  (if E then (D3=.n/\Ξ (.bl (!decide (O=.n))) e)else (D3=.n/\Ξ (.bl (decide (O=.n))) e)):=by
 unfold lG at g;split at g
 .simp only[au]at c d
  have:=bC.ret S (aM Y) g
  grind
 .exact g.elim
theorem sL:∀x y b d aq,d9 A4 x y b=.ok d aq->∃t,d=.bl t:=λx y b d aq h=>by
 unfold d9 eG at h;split at h
 .rename_i dx a _ _
  dsimp only at h;cases q:gk A4 dx a with
  |ok t=>
   have e:(do let r ←gk A4 dx a;Out.ok (_d,D.bl r))=Out.ok (_d,D.bl t):=by rw[q];rfl
   rw[e]at h;cases h;simp
  |e c f=>
   have e:(do let r ←gk A4 dx a;Out.ok (_d,D.bl r))=Out.e c f:=by rw[q];rfl
   rw[e]at h;cases h
  |b=>
   have e:(do let r ←gk A4 dx a;Out.ok (_d,D.bl r))=Out.b:=by rw[q];rfl
   rw[e]at h;cases h
 .cases h
theorem yF:∀x y a d aq,lF E x y a=.ok d aq->∃t,d=.bl t:=λx y a d aq h=>by
 unfold lF at h
 grind
theorem yG:∀x y a d aq,lG E x y a=.ok d aq->∃t,d=.bl t:=λx y a d aq h=>by
 unfold lG at h
 grind
theorem jn(a:ki c (Ú A4) G5)(h:Ų A4 ξ=_d)(i:ba c j w n p)(k:ba c j w ξ ς)(e:∀x y b d aq,k7 x y b=.ok d aq->∃t,d=.bl t)(l:∀dx m x y α Z b H Q,bp j α Z b H->au α Z H dx x->au α Z H m y->bC j w α Z H (k7 dx m b) Q->G5 x y H Q):ba c j w (.Compare n [A4] [ξ] o) (m2 k7 p ς)/\j7 c j w (.Compare n [A4] [ξ] o) (m2 k7 p ς):=
 ⟨jl (λq tb f g=>GQ a f g h) i k l,Ie (λq tb f g=>GR a f g h) i k e l⟩
theorem kL(s:c.A.units+64<Æ)(e:Ų A4 ξ=_d)(i:ba c j w n p)(k:ba c j w ξ ς):ba c j w (.Compare n [A4] [ξ] o) (m2 (ay A4) p ς)/\j7 c j w (.Compare n [A4] [ξ] o) (m2 (ay A4) p ς):=by
 have V:=jn (o:=o) (oB s A4) e i k sL λdx l x y m Z q H Q S a b g=>wN S a b g
 have d:∀{f g:D->D->aA->ax D},ba c j w (.Compare n [A4] [ξ] o) (m2 f p ς)/\j7 c j w (.Compare n [A4] [ξ] o) (m2 f p ς)->ba c j w (.Compare n [A4] [ξ] o) (m2 g p ς)/\j7 c j w (.Compare n [A4] [ξ] o) (m2 g p ς)->ba c j w (.Compare n [A4] [ξ] o) (m2 (lD f g) p ς)/\j7 c j w (.Compare n [A4] [ξ] o) (m2 (lD f g) p ς):=λh t=>by
  rw[sI];exact⟨h.1.alt t.1,h.2.alt t.2⟩
 have r:c.A.units+1<Æ:=by omega
 cases A4 with
 |Eq=>exact d V (jn (Ry s) e i k Ic λdx l x y m Z q H Q S a b g=>MT S a b g)
 |In=>exact d V (jn (MV r) e i k yF λdx l x y m Z q H Q S a b g=>DT S a b g)
 |NotIn=>exact d V (jn (AV r) e i k yF λdx l x y m Z q H Q S a b g=>DT S a b g)
 |Is=>exact d (jn Mm e i k yG λdx l x y m Z q H Q S a b g=>DV (E:=_d) (A4:=.Is) Y S a b g) V
 |IsNot=>exact d (jn GP e i k yG λdx l x y m Z q H Q S a b g=>DV (E:=_t) (A4:=.IsNot) Y S a b g) V
 |_=>exact V
def jz(a)(x:D):=match x with
 |.t b=>J b
 |x=>dq a x
def MW(x y:D)(a:aA):ax D:=match jz a x,y with
 |J b,.int i=>match L2.ll b i with
  |J d=>.ok d a
  |_n=>.b
 |_,_=>.b
def Ig(x y:D)(a:aA):ax D:=match uL a x y with
 |J (J d)=>.ok d a
 |_=>.b
def aR:=lD MW (lD Ig (eG wo))
theorem oH(S:bp j z v a e)(r:au z v e h O)(c:jz a h=J q):∃b d,O=.ref b/\(mP G e b d\/vR G e b d)/\aE (au z v e) q d:=by
 unfold jz at c;split at c
 .cases c
  obtain⟨b,d,rfl,_,f,g⟩:=dO r;exact⟨b,d,Y,.inr (vK (.inl f)),g⟩
 .obtain⟨b,d,rfl,f,g⟩:=bx S r c
  exact⟨b,d,Y,.inl (mS f),g⟩
theorem Ih(r:aE M6 q η)(a:L2.ll q Q=J h):∃v,L2.ll η Q=J v/\M6 h v:=by
 unfold L2.ll at a ⊢;rw[r.length];cases b:L2.tT _ Q with
 |none=>simp_all
 |some n=>rw[b]at a;exact r.get a
theorem sM(N:c.A.units+1<Æ)(m:yc ξ)(q:ba c j w n p)(r:ba c j w ξ ς):ba c j w (.Subscript n ξ o) (m2 aR p ς):=by
 unfold aR;rw[sI,sI];refine ba.alt ?_ (ba.alt ?_ ?_)
 .refine jl (λC tb b f=>KG Cp b f m) q r λdx D x y F Z G H Q S h l g=>?_
  unfold MW at g;split at g
  .rename_i T i s
   obtain⟨a,I,rfl,h2,t⟩:=oH S h s;subst l;split at g
   .rename_i d z
    obtain⟨v,K,M⟩:=Ih t z;rcases h2 with h2|h2
    .exact .inl ⟨a,I,i,v,Y,Y,h2,K,bC.ret S M g⟩
    .exact .inr (.inl ⟨a,I,i,v,Y,Y,h2,K,bC.ret S M g⟩)
   .exact g.elim
  .exact g.elim
 .refine jl (λC tb b f=>Hf N b f m) q r λdx D x y F Z G H Q S h l g=>?_
  unfold Ig at g;split at g
  .rename_i d z
   obtain⟨n,U,rfl,s,h2,_⟩:=uM S h l z;obtain⟨u,rfl,t⟩:=h2 d Y;exact⟨n,u,Y,s,bC.ret S t g⟩
  .exact g.elim
 .refine jl (λC tb b f=>KG Cp b f m) q r λdx D x y F Z G H Q S h l g=>?_
  obtain⟨d,e,own,V,O,P,R,k⟩:=gK S h l g;exact MH (E:=_d) O P (df S) R k
def jE(n)(m:EM):=λc b=>if n=_t then .ok _n b else (m c b).bind λd a=>match d with
 |.int i=>.ok (J i) a
 |_=>.b
def uN(x:D)(b c:_o Int)(a:aA):ax D:=match x,dq a x with
 |_,J d=>fG a (.l (eo d b c))
 |.str z,_n=>ik a (Df (.str z) b c)
 |_,_=>.b
def fH(e:EM)(f:Bool)(g:EM)(i:Bool)(j:EM):EM:=λa k=>(e a k).bind λx b=>(jE f g a b).bind λl c=>(jE i j a c).bind λh d=>uN x l h d
def VB(X)(a:L->f'->Prop)(b)(o:_o p')(n m):=(o=_n/\n=_t)\/∃e,o=J e/\n=_d/\ba X a b e m
variable{r8:_o p'}
theorem ew(h:VB c j w r8 E p)(r u y n o):∃t,PO c r8 t/\∀m H α Z Q,cJ j r u y α Z o n m H ->
  (match jE E p n o with
   |.ok l a=>∀f b g,b9 α Z H b g f->bp j b g a f->Q l f
   |.e x a=>∀f b g,b9 α Z H b g f->bp j b g a f->w x a b g f
   |.b=>False)->t m H Q:=by
 rcases h with ⟨rfl,rfl⟩|⟨e,rfl,rfl,z⟩
 .refine⟨_,by
   intro pins s m H Q I h;exact I' ⟨_,H,I,.none,h⟩,λm H α Z Q S k=>k H α Z (b9.refl S.st.has) S.st⟩
 .refine⟨_,GX (z _ u y n o),λm H α Z Q S k=>⟨α,Z,S,?_⟩⟩
  simp only[jE,Ĳ,if_false]at k;rcases q:p n o with ⟨d,a⟩|⟨x,a⟩|_
  .rw[q]at k
   intro v A C D F G K;cases d with
   |int i=>exact⟨i,K,k A _ D F G⟩
   |_=>exact k.elim
  .rwa[q]at k
  .rwa[q]at k
variable{V4:EM}
theorem Ii{hi}(F:ba c j w n p)(hl:VB c j w r8 E ς)(G:VB c j w hi X2 V4):ba c j w (.Subscript n (.Slice r8 hi _n T) o) (fH p E ς X2 V4):=by
 intro a e f b m;rcases q:p b m with ⟨d,i⟩|⟨x,i⟩|_
 .refine bN (ew hl a e f b i) λtl t P=>?_
  rcases I:jE E ς b i with ⟨l,u⟩|⟨x,u⟩|_
  .obtain⟨R,s,M⟩:=ew G a e f b u
   refine PE.imp (iN (r:=Q_ c.K) (kl.or oD) (F a e f b m) t s) ?_;rintro y H Q ⟨z,Z,S,g⟩;refine⟨z,Z,S,?_⟩;simp only[fH,q,I,ax.bind]at g ⊢;intro v H1 A Z1 N U r1;have g:=bC.from N g
   have S1:=S.grow N U;refine P y H1 A Z1 _ S1 ?_;rw[I];intro H2 C Z2 O V;have g:=bC.from O g
   refine M y H2 C Z2 _ (S1.grow O V) ?_;rcases q3:jE X2 V4 b u with ⟨h,a0⟩|⟨x,a0⟩|_
   .rw[q3]at g
    intro H3 b0 Z3 g3 X;have g:=bC.from g3 g
    have r3:=V.cE g3 (U.cE O r1);dsimp only[ax.bind]at g;unfold uN at g;split at g
    .rename_i ds hd
     obtain⟨D,vs,rfl,h1,h2⟩:=bx X r3 hd
     exact .inl ⟨D,vs,Y,mS h1,gO X (by
       unfold eo GY;rw[h2.length];exact(h2.drop _).take _) g⟩
    ·
     subst r3;refine cy (kI (E:=_d) X g) λown d e1 k=>?_
     simp only[Df]at e1;split at e1
     .rename_i hs
      cases e1;exact .inr ⟨_,Y,bA hs,k _ H3 _ _ (fm.refl X.dom) (.rep (gz Y))⟩
     .cases e1
    .exact g.elim
   .rw[q3]at g;exact g
   .rw[q3]at g;exact g
  .obtain⟨R,s,M⟩:=ew G a e f b i
   refine PE.imp (iN (r:=Q_ c.K) (kl.or oD) (F a e f b m) t s) ?_;rintro y H Q ⟨z,Z,S,g⟩;refine⟨z,Z,S,?_⟩;simp only[fH,q,I,ax.bind]at g ⊢;intro v H1 A Z1 N U r1;refine P y H1 A Z1 _ (S.grow N U) ?_;rw[I];intro H2 C Z2 O V;exact g H2 C Z2 (N.trans O) V
  .obtain⟨R,s,M⟩:=ew G a e f b i
   refine PE.imp (iN (r:=Q_ c.K) (kl.or oD) (F a e f b m) t s) ?_;rintro y H Q ⟨z,Z,S,g⟩;simp only[fH,q,I,ax.bind]at g;exact g.elim
 .obtain⟨tl,t,P⟩:=ew hl a e f b m
  obtain⟨R,s,M⟩:=ew G a e f b m;refine PE.imp (iN (r:=Q_ c.K) (kl.or oD) (F a e f b m) t s) ?_;rintro y H Q ⟨z,Z,S,g⟩;refine⟨z,Z,S,?_⟩;simp only[fH,q,ax.bind]at g ⊢;exact g
 .obtain⟨tl,t,P⟩:=ew hl a e f b m
  obtain⟨R,s,M⟩:=ew G a e f b m;refine PE.imp (iN (r:=Q_ c.K) (kl.or oD) (F a e f b m) t s) ?_;rintro y H Q ⟨z,Z,S,g⟩;simp only[fH,q,ax.bind]at g;exact g.elim
theorem PE.ex{b:Type}{t:b->TE}(h:∀i,PE c n (t i)):PE c n (λa H Q=>∃i,t i a H Q):=λpins s a H Q I  d =>xe d λi q=>h i _ s a H Q I q
theorem PT.ex{b:Type}{t:b->TT}(h:∀i,PT c n (t i)):PT c n (λa H Q=>∃i,t i a H Q):=λpins s a H Q I  d =>xe d λi q=>h i _ s a H Q I q
theorem PW.ex{b:Type}{t:b->TT}(h:∀i,PW c n (t i)):PW c n (λa H Q=>∃i,t i a H Q):=λd pins s a H Q I ⟨i,q⟩=>h i d _ s a H Q I q
theorem PA.ex{b:Type}{t:b->TA}(h:∀i,PA c Z (t i)):PA c Z (λa H Q=>∃i,t i a H Q):=λd pins s a H Q I  e =>xe e λi q=>h i _ _ s a H Q I q
def fJ(c d:EM):EM:=λb e=>(c b e).bind λx a=>match kJ a x with
 |J _t=>d b a
 |J _d=>.ok x a
 |_n=>.b
def pQ(c d:EM):EM:=λb e=>(c b e).bind λx a=>match kJ a x with
 |J _d=>d b a
 |J _t=>.ok x a
 |_n=>.b
def dz(b:EM):EM:=λc d=>(eH (b c d)).bind λt a=>.ok (.bl (!t)) a
def DW(c d e:EM):EM:=λb f=>(eH (c b f)).bind λt a=>if t=_t then d b a else e b a
theorem iW(S:bp j z v a e)(r:au z v e h O)(c:kJ a h=J E):ub G O e E:=by
 cases h with
 |n=>subst r;cases c;rfl
 |bl b=>subst r;cases c;rfl
 |int b=>subst r;cases c;rfl
 |str b=>
  subst r;have n:Now v e (.str b) (.str b):=by rfl
  exact MG n c
 |l m=>
  cases c;obtain⟨d,i,rfl,f,g⟩:=bx S r Y;refine .inl ⟨i,mS f,?_⟩;have:=g.length
  grind
 |t m=>
  cases c;obtain⟨d,i,rfl,_,f,g⟩:=dO r;refine .inr (.inl ⟨i,vK (.inl f),?_⟩);have:=g.length
  grind
 |dct _ _=>exact bD c
 |ref k=>
  simp only[kJ]at c;split at c
  .rename_i m o
   cases c;obtain⟨d,i,rfl,f,g⟩:=bx (q:=m) S r (by simp only[dq,o])
   refine .inl ⟨i,mS f,?_⟩;have:=g.length
   grind
  .rename_i t o
   cases c;obtain⟨d,u,rfl⟩:=r;refine bN (S.cell o) λw l p=>bN p λs f g=>?_
   rw[u]at l;cases l
   refine .inr (.inr ⟨_,f,?_⟩);have:=g.length
   grind
  .exact bD c
theorem t4.use{f}(h:bC j w z v e (x9.bind f) Ξ)(k:∀t a,x9=.ok t a->∀c b i,b9 z v e b i c->bp j b i a c->bC j w b i c (f t a) Ξ->h9 t c):t4 j w z v e x9 h9:=by
 cases x9 with
 |ok d a=>exact λc b i g s=>k d _ Y c _ i g s (bC.from g h)
 |e x a=>exact h
 |b=>exact h
theorem t4.Yu(h:t4 j w z v e (eH X1) h9):bC j w z v e X1 (λa b=>∃t,ub G a b t/\h9 t b):=by
 cases X1 with
 |ok d c=>
  intro a b f i g s q;simp only[eH]at h;split at h
  .rename_i t k
   exact⟨t,iW s q k,h b _ i g s⟩
  .exact h.elim
 |e x c=>exact h
 |b=>exact h.elim
theorem Ij(h:ba c j w n p)(d:∀a,ŏ n c.env a=(do let v ←a;û n.pos;ô [v] (ű v))):j7 c j w n p:=by
 intro b e f i k;refine PT.imp (uc (h b e f i k) d) ?_;rintro m H Q ⟨l,Z,S,g⟩;exact⟨l,Z,S,g.Yu⟩
theorem Ik(b:ba c j w n p):ba c j w (.UnaryOp .Not n o) (dz p):=by
 intro a d e f h;refine PE.imp (HS (b a d e f h)) ?_;rintro r H Q ⟨i,Z,S,g⟩;refine⟨i,Z,S,?_⟩;have:=t4.use g λt k _ s l u x m q=>bC.ret m (aM Y) q
 exact this.Yu
theorem yH(e:j7 c j w n p):j7 c j w (.UnaryOp .Not n o) (dz p):=by
 intro a f i k l
 refine PT.imp (by
   intro pins s d H Q I h;exact isTrue_not ((e a f i k l) _ s d H _ I h)) ?_
 rintro d H Q ⟨m,Z,S,g⟩;refine⟨m,Z,S,?_⟩;simp only[dz]at g;cases q:eH _ with
 |ok t b=>rwa[q]at g
 |e x b=>rwa[q]at g
 |b=>rwa[q]at g
def KZ(X)(b:L->f'->Prop)(c e m):=∀a d f g h,PW X e (Yt b c a d f m g h)
theorem KZ.pt{X a b e m}(h:KZ X a b e m):j7 X a b e m:=λc d f g i=>(h _ d f g i).pt
theorem yJ{d}(f:j7 c j w n p):KZ c j w (.BoolOp d [n] o) p:=λm g i k l=>by
 cases d with
 |And=>
   intro q pins s b H Q I h;refine isTrue_and (bO ((f _ g i k l) _ s b H Q I h) λa r e=>?_)
   cases a with
   |true=>exact isTrue_and_nil e
   |false=>exact e
 |Or=>
   intro q pins s b H Q I h;refine isTrue_or (bO ((f _ g i k l) _ s b H Q I h) λa r e=>?_)
   cases a with
   |false=>exact isTrue_or_nil e
   |true=>exact e
theorem Il(u:j7 c j w n p)(y:KZ c j w (.BoolOp .And (ξ::Z) o) ς):KZ c j w (.BoolOp .And (n::ξ::Z) o) (fJ p ς):=by
 intro d m r h s;refine PW.imp (pw_and (u d m r h s) (PW.ex λa=>y d m r h a)) ?_
 rintro A H Q ⟨z,b,S,g⟩;refine⟨z,b,S,?_⟩;simp only[fJ]at g;cases q:p h s with
 |ok x a=>
  rw[q]at g;dsimp only[ax.bind]at g;simp only[eH];split at g
  .rename_i e
   rw[e];exact λt i k f l=>wc ⟨_,_,k,S.grow f l,t4.from f g⟩
  .rename_i e
   rw[e];simp only[eH,e]at g;exact λt i k f l=>wb (g t _ k f l)
  .exact g.elim
 |e x a=>rwa[q]at g
 |b=>rwa[q]at g
theorem DX(u:j7 c j w n p)(y:KZ c j w (.BoolOp .Or (ξ::Z) o) ς):KZ c j w (.BoolOp .Or (n::ξ::Z) o) (pQ p ς):=by
 intro d m r h s;refine PW.imp (pw_or (u d m r h s) (PW.ex λa=>y d m r h a)) ?_
 rintro A H Q ⟨z,b,S,g⟩;refine⟨z,b,S,?_⟩;simp only[pQ]at g;cases q:p h s with
 |ok x a=>
  rw[q]at g;dsimp only[ax.bind]at g;simp only[eH];split at g
  .rename_i e
   rw[e];exact λt i k f l=>wb ⟨_,_,k,S.grow f l,t4.from f g⟩
  .rename_i e
   rw[e];simp only[eH,e]at g;exact λt i k f l=>wc (g t _ k f l)
  .exact g.elim
 |e x a=>rwa[q]at g
 |b=>rwa[q]at g
theorem Im(m:j7 c j w M3 V4)(q:ba c j w n p)(r:ba c j w ξ ς):ba c j w (.IfExp M3 n ξ o) (DW V4 p ς):=by
 intro b d e f s;refine PE.imp (BY (m b d e f s) (PE.ex λa=>q b d e f a) (PE.ex λa=>r b d e f a)) ?_
 rintro y H Q ⟨u,Z,S,g⟩;refine⟨u,Z,S,t4.use g λt a _ z x h i k l=>?_⟩
 cases t with
 |true=>exact wc ⟨_,_,h,S.grow i k,l⟩
 |false=>exact wb ⟨_,_,h,S.grow i k,l⟩
theorem Io(E:j7 c j w M3 V4)(F:j7 c j w n p)(G:j7 c j w ξ ς):j7 c j w (.IfExp M3 n ξ o) (DW V4 p ς):=by
 intro h i k b y pins s l H Q I;rintro⟨K,Z,S,g⟩;simp only[DW]at g
 have r:Yt j w h i k V4 b y l H (λt f=>∃a d e,cJ j h i k d e a b l f/\t4 j w d e f (eH (if t=_t then p b a else ς b a)) Q):=by
  refine⟨K,Z,S,?_⟩;cases q:eH _ with
  |ok t a=>
   rw[q]at g;exact λf d e z m=>⟨_,_,e,S.grow z m,t4.from z g⟩
  |e x a=>rwa[q]at g
  |b=>rwa[q]at g
 refine isTrue_IfExp (bO (E _ i k b y _ s l H _ I r) λv m M=>?_);refine bN M λf A u=>ei u λ_ _ e C D=>?_
 cases v with
 |true=>exact F _ i k b _ _ m l f Q A ⟨_,e,C,D⟩
 |false=>exact G _ i k b _ _ m l f Q A ⟨_,e,C,D⟩
def mI(g b:ñ)(h i j:EM):EM:=λc k=>(h c k).bind λx d=>(i c d).bind λy e=>(eH (d9 g x y e)).bind λt a=>if t=_t then (j c a).bind λz f=>d9 b y z f else .ok (.bl _d) a
variable{P7:ñ}
theorem DY(S:cJ j Q1 B3 r0 z v a u A2 e)(g:bC j w z v e (mI A4 P7 p ς V4 u a) Ξ):
  vW (Dl A4) (Dl P7) (tO j w Q1 B3 r0 p u a) (λA2 e Ξ=>∃b,tO j w Q1 B3 r0 ς u b A2 e Ξ) (λA2 e Ξ=>∃b,tO j w Q1 B3 r0 V4 u b A2 e Ξ) A2 e Ξ:=by
 refine⟨z,v,S,bC.use g λx b _ h Z E F A i G H=>?_⟩
 refine⟨_,_,F,S.grow A i,bC.use H λy I _ k H2 K Z2 C l D c=>?_⟩
 have M:=(S.grow A i).grow C l;refine wN (w:=w) l (i.cE C G) D ?_;cases q:d9 A4 x y _ with
 |ok d m=>
  obtain⟨t,rfl⟩:=sL _ _ _ _ _ q;intro n H3 N O o r P;refine⟨t,P,?_⟩;rw[q]at c;have f:=c;have f:=bC.from o f
  cases t with
  |true=>
   refine⟨_,_,O,M.grow o r,bC.use f λs Q _ w' H4 R Z4 T U V X=>wN U (r.cE T (l.cE o D)) V X⟩
  |false=>
   exact bC.ret r (aM Y) f
 |e x m=>rwa[q]at c
 |b=>rwa[q]at c
theorem Ip(h:c.A.units+64<Æ)(i:ų [A4,P7] [ξ,M3]=_d)(k:ba c j w n p)(l:ba c j w ξ ς)(m:ba c j w M3 V4):ba c j w (.Compare n [A4,P7] [ξ,M3] o) (mI A4 P7 p ς V4):=by
 intro a d e f q;refine PE.imp (Cf (oB h A4) (oB h _) (k a d e f q) (PE.ex λb=>l a d e f b) (PE.ex λb=>m a d e f b) i) ?_
 rintro r H Q ⟨s,Z,S,g⟩;exact DY S g
theorem MX(b:mI A4 P7 p ς V4 u a=.ok h x):∃t,h=.bl t:=by
 simp only[mI]at b;cases c:p u a with
 |ok d e=>
  rw[c]at b;dsimp only[ax.bind]at b
  cases f:ς u _ with
  |ok y g=>
   rw[f]at b;dsimp only[ax.bind]at b
   cases i:eH _ with
   |ok t j=>
    rw[i]at b;dsimp only[ax.bind]at b
    split at b
    .cases k:V4 u _ with
     |ok z l=>rw[k]at b;exact sL _ _ _ _ _ b
     |e _ _=>simp_all
     |b=>simp_all
    simp_all
   |e _ _=>simp_all
   |b=>simp_all
  |e _ _=>simp_all
  |b=>simp_all
 |e _ _=>rw[c]at b;cases b
 |b=>rw[c]at b;cases b
theorem Iq(i:c.A.units+64<Æ)(l:ų [A4,P7] [ξ,M3]=_d)(m:ba c j w n p)(r:ba c j w ξ ς)(s:ba c j w M3 V4):j7 c j w (.Compare n [A4,P7] [ξ,M3] o) (mI A4 P7 p ς V4):=by
 intro b f h e k;refine PT.imp (Cg (oB i A4) (oB i _) (m b f h e k) (PE.ex λa=>r b f h e a) (PE.ex λa=>s b f h e a) l) ?_
 rintro F H Q ⟨G,Z,S,g⟩;refine DY S ?_;cases q:mI A4 _ p ς V4 e k with
 |ok d a=>
  obtain⟨t,rfl⟩:=MX q;rw[q]at g;intro v u y z C D E;exact⟨t,E,g u _ z C D⟩
 |e x a=>rw[q]at g;exact g
 |b=>rw[q]at g;exact g.elim
def ey(f:B D->Out Rs):B D->aA->ax D:=λb a=>match bq (et a 8) b with
 |J c=>ik a (f c)
 |_n=>.b
variable{m4:B D->Out Rs}
theorem iX(S:bp j z v a e)(n:aE (au z v e) q η)(h:bC j w z v e (ey m4 q a) Ξ):
  ∃i own g,aW (Ia z v) e i η/\m4 i=.ok (own,g)/\∀b l m,fm (Ia z v) e m l->eU E own m e l g b->Ξ b l:=by
 unfold ey at h;split at h
 .rename_i i o
  refine cy (kI (E:=E) S h) λown g c k=>⟨i,_,g,iU (fw (S:=Rep _ e) (λd g b f r=>mZ S 8 f r) o n),c,by grind⟩
 .exact h.elim
theorem AW(F0:Ra c b d m4)(l:bF b c.A)(m:Gl c d)(e:(d==("__debug__"))=_d)(p:D' (n::Z) c.env=(_d,eval n c.env)::D' Z c.env)(h:(À o (D' Z c.env)).any (·.1)=_d)(q:mH c j w (n::Z) Q0):
  ba c j w (.Call (.Name d T) (n::Z) [] o) (mN (ey m4) Q0):=by
 refine bG F0.ex λf P R r s t F1=>?_
 intro i u x y z;refine PE.imp (rL F1 l m r s t .nil mh (q i u x y z) e p h) ?_;rintro U H Q ⟨C,a,S,g⟩;refine⟨C,a,S,pH.use g λV D _ X H1 E Z1 g1 k F G=>?_⟩
 rw[Ć];obtain⟨I,own,K,M,N,O⟩:=iX k F G;exact⟨_,I,_,K,df k,M,N,O⟩
def oJ(f g:B D->aA->ax D):=λa b=>la (f a b) (g a b)
def AX(xs:B D)(a:aA):ax D:=match xs with
 |[x]=>match jz a x with
  |J b=>.ok (.int b.length) a
  |_n=>.b
 |_=>.b
noncomputable def DZ(xs:B D)(b:aA):ax D:=match xs with
 |[.ref k]=>match b[k]? with
  |J (.dK a)=>.ok (.int a.length) b
  |J (.dF a)=>.ok (.int a.length) b
  |_=>.b
 |_=>.b
def oK(xs:B D)(a:aA):=match xs with
 |[x]=>match jz a x with
  |J b=>fG a (.l b)
  |_n=>.b
 |_=>.b
noncomputable def fK:Key->D
 |.inl i=>.int i
 |.inr x=>.str x
def qL(xs:B D)(b:aA):ax D:=match xs with
 |[x]=>match sJ b x with
  |J a=>fG b (.l (a.map λc=>fK c.1))
  |_n=>.b
 |_=>.b
def yK(xs:B D)(b:aA):=match xs with
 |[x]=>match sJ b x with
  |J a=>fG b (.dK a)
  |_n=>.b
 |_=>.b
def yL:D->_o (Key×D)
 |.t [k,v]=>(kK k).map λk=>(k,v)
 |_=>_n
def qM(xs:B D)(b:aA):ax D:=match xs with
 |[x]=>match dq b x with
  |J c=>match bq yL c with
   |J d=>fG b (.dK (d.foldl (λa p=>dh a p.1 p.2) []))
   |_n=>.b
  |_n=>.b
 |_=>.b
def kM:=oJ qM yK
def jO(xs:B D)(a:aA):ax D:=match xs with
 |[.t b]=>.ok (.t b) a
 |[x]=>match dq a x with
  |J b=>.ok (.t b) a
  |_n=>.b
 |_=>.b
def MY:B D->Out Rs
 |[.str z]=>if small z.length then .ok (_d,.int z.length)else .b
 |_=>.b
def MZ:B D->Out Rs
 |[.l a]=>match gy a with|J bs=>.ok (_d,.bl (bs.all id))|_n=>.b
 |_=>.b
def M_:B D->Out Rs
 |[.l a]=>match gy a with|J bs=>.ok (_d,.bl (bs.any id))|_n=>.b
 |_=>.b
noncomputable def Na:B D->Out Rs
 |[.bl k]=>.ok (_d,.int (if k then 1 else 0))
 |_=>.b
def D_:ly->B D->Out Rs
 |.len=>MY
 |.all=>MZ
 |.any=>M_
 |.int=>Na
 |_=>λ_=>.b
def oM(f):=ey (D_ f)
def bP(f:ly):=match f with
 |.len=>oJ AX (oJ DZ (oM .len))
 |.list=>oJ oK qL
 |.tuple=>jO
 |f=>oM f
theorem oN{g}:mN (oJ F7 g) Q0=fx (mN F7 Q0) (mN g Q0):=by
 funext b a
 simp only[mN,fx];cases Q0 b a with
 |ok x c=>rfl
 |e x a=>rfl
 |b=>rfl
variable{X8:B V->Hp->VK->Prop}{o5:String}
theorem iY(k:ek c (.builtin o5) X8)(l:Gl c d)(m:c.mg d=_n)(p:Ĉ d=J (.builtin o5))(q:d≠"__name__")(e:(d==("__debug__"))=_d)(r:D' (n::Z) c.env=(_d,eval n c.env)::D' Z c.env)(f:(À o (D' Z c.env)).any (·.1)=_d)(s:mH c j w (n::Z) Q0)(y:∀xs i α a b H Q,bp j α a b H->aE (au α a H) xs i->bC j w α a H (F7 xs b) Q->X8 i H Q):ba c j w (.Call (.Name d T) (n::Z) [] o) (mN F7 Q0):=by
 intro h t u x b;refine PE.imp (nU k l m p (s h t u x b) q e r f) ?_;rintro z H Q ⟨α,a,S,g⟩;exact⟨α,a,S,pH.use g (by grind)⟩
theorem ez(k:ek c (.type o5) X8)(l:Gl c d)(m:c.mg d=_n)(p:Ĉ d=J (.type o5))(q:d≠"__name__")(e:(d==("__debug__"))=_d)(r:D' (n::Z) c.env=(_d,eval n c.env)::D' Z c.env)(f:(À o (D' Z c.env)).any (·.1)=_d)(s:mH c j w (n::Z) Q0)(y:∀xs i α a b H Q,bp j α a b H->aE (au α a H) xs i->bC j w α a H (F7 xs b) Q->X8 i H Q):ba c j w (.Call (.Name d T) (n::Z) [] o) (mN F7 Q0):=by
 intro h t u x b;refine PE.imp (Am k l m p (s h t u x b) q e r f) ?_;rintro z H Q ⟨α,a,S,g⟩;exact⟨α,a,S,pH.use g (by grind)⟩
theorem gS{Z H}:∀{b}{a},aW Z H b a->Dm Z H b a
 |[],a,h=>h.nil_inv
 |d::b,a,h=>by
  obtain⟨v,r,rfl,c,e⟩:=h.cons_inv;exact⟨v,r,Y,c.now,gS e⟩
theorem Ir(S:bp j z v a e)(i:aE (au z v e) q η)(g:bC j w z v e (qL q a) Ξ):∃b kvs,η=[V.ref b]/\Rd e b (.dK kvs)/\∀l,e l=_n->Ξ (.ref l) (upd e l (.l (kvs.map λf=>kV f.1))):=by
 unfold qL at g;split at g
 .split at g
  .rename_i kvs k
   obtain⟨h,r,rfl,m,n⟩:=i.cons_inv;rw[n.nil_inv];obtain⟨b,d,rfl,o,s⟩:=iV S m k;refine⟨b,_,Y,o,gO S ?_ g⟩
   have:∀{kvs:B _}{d:B _},fF (au z v e) kvs d->aE (au z v e) (kvs.map λf=>fK f.1) (d.map λf=>kV f.1):=λ{kvs d} c=>by
    induction c with
    |nil=>exact .nil
    |@cons p c _ _ t _ u=>
     refine .cons ?_ u
     show au z v e (fK _) (kV _)
     rw[t.1];cases c.1<;>simp only[fK,kV,au]
   exact this s
  .exact g.elim
 .exact g.elim
variable{B5:B (Key×V)}
def oO(S:bp j z v a e)(r:fF (au z v e) U B5)(k:bC j w z v e (fG a (.dK U)) Ξ):=λp b=>by
 obtain⟨d,f⟩:=S.laid (c:=.dK _) b λR g=>⟨_,aD,r.imp g⟩
 exact k _ _ _ _ f d (eu S p)
theorem Iu(S:bp j z v a e)(f:aE (au z v e) q η)(g:bC j w z v e (yK q a) Ξ):∃b kvs,η=[V.ref b]/\Rd e b (.dK kvs)/\∀l,e l=_n->Ξ (.ref l) (upd e l (.dK kvs)):=by
 unfold yK at g;split at g
 .split at g
  .rename_i kvs h
   obtain⟨c,r,rfl,i,k⟩:=f.cons_inv;rw[k.nil_inv];obtain⟨b,d,rfl,m,n⟩:=iV S i h;exact⟨b,_,Y,m,oO S n g⟩
  .exact g.elim
 .exact g.elim
theorem lH{α Z H}:∀{k}{g}{i},aE (au α Z H) k g->bq yL k=J i->∃c,fF (au α Z H) i c/\é (λp y=>∃b,y=.ref b/\Rd H b (.t [kV p.1,p.2])) c g
 |[],g,i,r,h=>by cases h;rw[r.nil_inv];exact⟨[],.nil,.nil⟩
 |d::k,g,i,r,h=>by
  simp only[bq]at h;split at h
  .rename_i y z j l
   cases h;refine aP r.cons_inv λv m e n o=>?_;subst e
   obtain⟨c,q,s⟩:=lH o l;unfold yL at j;split at j
   .obtain⟨t,u,rfl⟩:=È.mp j
    refine bT (dO n) λa A e _ e2 f=>?_;subst e
    obtain⟨u1,C,rfl,w,f⟩:=f.cons_inv;obtain⟨u2,E,rfl,x,f⟩:=f.cons_inv;obtain rfl:=f.nil_inv;obtain rfl:=gR u w;exact⟨(t,u2)::c,.cons ⟨Y,x⟩ q,.cons ⟨a,Y,.inl e2⟩ s⟩
   .exact bD j
  .exact bD h
theorem Iv(S:bp j z v a e)(t:aE (au z v e) q η)(g:bC j w z v e (qM q a) Ξ):∃c m k,η=[V.ref c]/\Rd e c (.l m)/\é (λ(p:Key×V) y=>∃b,y=.ref b/\Rd e b (.t [kV p.1,p.2])) k m/\∀l,e l=_n->Ξ (.ref l) (upd e l (.dK (k.foldl (λc p=>putK c p.1 p.2) []))):=by
 unfold qM at g;split at g
 .split at g
  .rename_i I u
   split at g
   .rename_i k x
    obtain⟨n,r,rfl,A,C⟩:=t.cons_inv;rw[C.nil_inv];obtain⟨c,m,rfl,D,E⟩:=bx S A u;obtain⟨h,F,G⟩:=lH E x;refine⟨c,m,_,Y,D,G,oO S ?_ g⟩
    have:∀{k:B _}{h:B _}{i:B _}{d:B (Key×V)},fF _ i d->fF (au z v e) k h->fF (au z v e) (k.foldl (λc p=>dh c p.1 p.2) i) (h.foldl (λc p=>putK c p.1 p.2) d):=λ{k h i d} o f=>by
     induction f generalizing i d with
     |nil=>exact o
     |@cons p f _ _ s _ H=>
      simp;refine H ?_;rw[s.1];exact o.put _ s.2
    exact this .nil F
   .exact g.elim
  .exact g.elim
 .exact g.elim
theorem Ea(h:c.calm=_t)(y:Gl c "dict")(z:c.mg "dict"=_n)(A:D' (n::Z) c.env=(_d,eval n c.env)::D' Z c.env)(i:(À o (D' Z c.env)).any (·.1)=_d)(C:mH c j w (n::Z) Q0):ba c j w (.Call (.Name "dict" T) (n::Z) [] o) (mN kM Q0):=by
 show ba c j w _ (mN (oJ _ _) Q0)
 rw[oN]
 exact ba.alt (ez (oh h) y z Ϗ (by decide) (by decide) A i C λG I l b K H Q S m g=>by
   unfold qM at g;split at g
   .split at g
    .rename_i X p
     split at g
     .rename_i k M
      obtain⟨v,r,rfl,s,t⟩:=m.cons_inv;rw[t.nil_inv];obtain⟨a,N,rfl,u,x⟩:=bx S s p;obtain⟨e,O,P⟩:=lH x M;refine⟨a,N,_,Y,u,P,oO S ?_ g⟩
      have:∀{k:B _}{e:B _}{f:B _}{d:B (Key×V)},fF _ f d->fF (au l b H) k e->fF (au l b H) (k.foldl (λa T=>dh a T.1 T.2) f) (e.foldl (λa T=>putK a T.1 T.2) d):=λ{k e f d} D q=>by
       induction q generalizing f d with
       |nil=>exact D
       |@cons T q _ _ E _ R=>
        simp;refine R ?_;rw[E.1];exact D.put _ E.2
      exact this .nil O
     .exact g.elim
    .exact g.elim
   .exact g.elim) (ez og y z Ϗ (by decide) (by decide) A i C λG I l b K H Q S m g=>by
     unfold yK at g;split at g
     .split at g
      .rename_i U p
       obtain⟨v,r,rfl,s,t⟩:=m.cons_inv;rw[t.nil_inv];obtain⟨a,F,rfl,u,x⟩:=iV S s p;exact⟨a,_,Y,u,oO S x g⟩
      .exact g.elim
     .exact g.elim)
theorem dP(a:aE M6 [h] η):∃v,η=[v]/\M6 h v:=by
 obtain⟨v,r,rfl,c,b⟩:=a.cons_inv;rw[b.nil_inv];simp_all
theorem Iw{f}(p:c.calm=_t)(hf:f∈[ly.len,ly.all,ly.any,ly.list,ly.tuple,ly.int])(F:Gl c f.nm)(I:c.mg f.nm=_n)(M:D' (n::Z) c.env=(_d,eval n c.env)::D' Z c.env)(i:(À o (D' Z c.env)).any (·.1)=_d)(t:mH c j w (n::Z) Q0):
  ba c j w (.Call (.Name f.nm T) (n::Z) [] o) (mN (bP f) Q0):=by
 cases f with
 |len=>
  show ba c j w _ (mN (oJ AX (oJ DZ (oM .len))) Q0)
  rw[oN,oN];refine ba.alt ?_ (ba.alt ?_ ?_)
  .refine iY rS F I acE (by decide) (by decide) M i t ?_
   intro U vs z b A H Q S m g;unfold AX at g;split at g
   .split at g
    .rename_i C X
     obtain⟨v,rfl,D⟩:=dP m;obtain⟨l,N,rfl,O,V⟩:=oH (G:=c.K) S D X;exact⟨l,N,Y,O,by rw[V.length];exact bC.ret S (aM Y) g⟩
    .exact g.elim
   .exact g.elim
  .refine iY Ar F I acE (by decide) (by decide) M i t ?_
   intro U vs z b A H Q S m g;unfold DZ at g;split at g
   .obtain⟨v,rfl,D⟩:=dP m
    obtain⟨a,t,rfl⟩:=D;split at g
    .rename_i a0 hk
     obtain⟨a',u,y,h1,h2⟩:=S.cell hk;rw[t]at u;cases u
     exact⟨a,y,Y,.inl h1,by rw[h2.length];exact bC.ret S (aM Y) g⟩
    .rename_i a0 hk
     obtain⟨a',u,of,y,h1,h2⟩:=S.cell hk;rw[t]at u;cases u
     exact⟨a,y,Y,.inr ⟨of,h1⟩,by rw[h2.length];exact bC.ret S (aM Y) g⟩
    .exact g.elim
   .exact g.elim
  .refine iY rV F I acE (by decide) (by decide) M i t ?_
   intro P R z b A H Q S m g;obtain⟨C,own,d,q,e,k⟩:=iX (E:=_d) S m g;have q:=gS q;have s:=df S;replace e:MY C=_:=e;unfold MY at e;split at e
   .obtain⟨x,rfl,h⟩:=q.one
    cases de h;split at e
    .rename_i hs
     cases e;exact⟨_,Y,bA hs,iQ s k Y⟩
    .cases e
   .cases e
 |all=>
  refine iY (Dy p) F I boot_all (by decide) (by decide) M i t ?_
  intro P R z b A H Q S m g;obtain⟨C,own,d,q,e,k⟩:=iX (E:=_d) S m g;have q:=gS q;have s:=df S;replace e:MZ C=_:=e;unfold MZ at e;split at e
  .obtain⟨x,rfl,h⟩:=q.one
   split at e
   .rename_i bs hb
    cases e;exact⟨_,_,bs,x,Y,h,hb,iQ s k Y⟩
   .cases e
  .cases e
 |any=>
  refine iY (Dz p) F I boot_any (by decide) (by decide) M i t ?_
  intro P R z b A H Q S m g;obtain⟨C,own,d,q,e,k⟩:=iX (E:=_d) S m g;have q:=gS q;have s:=df S;replace e:M_ C=_:=e;unfold M_ at e;split at e
  .obtain⟨x,rfl,h⟩:=q.one
   split at e
   .rename_i bs hb
    cases e;exact⟨_,_,bs,x,Y,h,hb,iQ s k Y⟩
   .cases e
  .cases e
 |int=>
  refine ez Ak F I boot_int (by decide) (by decide) M i t ?_
  intro P R z b A H Q S m g;obtain⟨C,own,d,q,e,k⟩:=iX (E:=_d) S m g;have q:=gS q;have s:=df S;replace e:Na C=_:=e;unfold Na at e;split at e
  .obtain⟨x,rfl,h⟩:=q.one
   cases iP h;cases e;exact .inr ⟨_,Y,iQ s k Y⟩
  .cases e
 |min=>simp at hf
 |max=>simp at hf
 |list=>
  show ba c j w _ (mN (oJ oK qL) Q0)
  rw[oN];refine ba.alt ?_ (ez (wh p) F I acp (by decide) (by decide) M i t λU vs z b A H Q S m g=>Ir S m g)
  refine ez rW F I acp (by decide) (by decide) M i t ?_
  intro U vs z b A H Q S m g;have g:bC j w z b H (oK U A) Q:=g;unfold oK at g;split at g
  .split at g
   .rename_i C X
    obtain⟨v,r,rfl,D,r2⟩:=m.cons_inv;rw[r2.nil_inv];obtain⟨l,N,rfl,O,V⟩:=oH (G:=c.K) S D X;exact⟨l,N,Y,O,gO S V g⟩
   .exact g.elim
  .exact g.elim
 |tuple=>
  refine ez pK F I boot_tuple (by decide) (by decide) M i t ?_
  intro U vs z b A H Q S m g;have g:bC j w z b H (jO U A) Q:=g;unfold jO at g;split at g
  .obtain⟨v,r,rfl,D,r2⟩:=m.cons_inv
   rw[r2.nil_inv];have b0:=D;obtain⟨l,N,rfl,_,O,V⟩:=dO D;exact⟨l,N,Y,.inr ⟨vK (.inl O),bC.ret S b0 g⟩⟩
  .split at g
   .rename_i C X
    obtain⟨v,r,rfl,D,r2⟩:=m.cons_inv;rw[r2.nil_inv];obtain⟨l,N,rfl,O,V⟩:=bx S D X;exact⟨l,N,Y,.inl ⟨mS O,uK S V g⟩⟩
   .exact g.elim
  .exact g.elim
 |sorted=>simp at hf
 |bool=>simp at hf
def Yv(t):=DP λd=>match Dh d t with|J b=>.ok (_d,.bl b)|_n=>.b
noncomputable def Eb(t:Ty)(x:D)(a:aA):ax D:=match x with
 |.ref k=>match a[k]? with
  |J (.l _)=>.ok (.bl (t==.list)) a
  |J (.dK _)=>.ok (.bl (t==.dict)) a
  |_=>.b
 |.l _=>.ok (.bl (t==.list)) a
 |.t _=>.ok (.bl (t==.tuple)) a
 |_=>.b
def gp(t):=MQ (Eb t) (Yv t)
def K_(K:G'):B V->Hp->VK->Prop:=λd H Q=>∃a c t,d=[.ref a,.ty (Ty.id t)]/\((Rd H a (.l c)/\Q (.bl (t==.list)) H)\/(Rd H a (.t c)/\Q (.bl (t==.tuple)) H)\/(∃b,H a=J (.dK b)/\Q (.bl (t==.dict)) H))
theorem AY:ek c (.builtin "isinstance") (K_ c.K):=by
 intro pins s j H p w Q I r h;obtain⟨a,x,t,rfl,h⟩:=h;obtain⟨u,y,rfl,f,k⟩:=vals2 r;cases (k);refine dm (yr c.K t) λA C t3 D i g=>xa g λl m=>?_
 rcases h with ⟨b,q⟩|⟨b,q⟩|⟨n,b,q⟩
 .have e:∀d,EP c _ j Q _ _:=λd=>⟨.bl _,H,I.tok d,Y,q⟩
  rcases b with b|⟨o,b⟩
  .exact cL I f (.l b) i e
  .exact cL I f (.cX b) i e
 .cases f
  exact þ abF I.ej (mj (K:=c.K) I b) l (λz=>nomatch z) (λd=>⟨.bl _,H,I.tok d,Y,q⟩)
 .exact cL I f (.dK b) m (λd=>⟨.bl _,H,I.tok d,Y,q⟩)
theorem Iy(F:Gl c "isinstance")(G:c.mg "isinstance"=_n)(u:Gl c D4.nm)(y:c.mg D4.nm=_n)(s:D' [n,Ň D4.nm P1] c.env=(_d,eval n c.env)::D' [Ň D4.nm P1] c.env)(f:(À o (D' [Ň D4.nm P1] c.env)).any (·.1)=_d)(t:ba c j w n p):
  ba c j w (.Call (.Name "isinstance" T) [n,.Name D4.nm P1] [] o) (m1 (gp D4) p):=by
 have h:PE c (.Name D4.nm P1) (tC (.ty D4.id)):=GJ u y (by cases D4<;>decide +kernel) Y (by cases D4<;>decide) (by cases D4<;>decide)
 unfold gp;rw[MR];refine ba.alt ?_ ?_
 .refine fU (r:=λx H Q=>K_ c.K [x,.ty D4.id] H Q) (λN z=>nU AY F G ϻ (fO z (fO h rE Y) s) (by decide) (by decide) s f) t ?_
  intro dx x O Z P H Q S e g;unfold Eb at g;split at g
  .split at g
   .rename_i k A C
    obtain⟨n,i,rfl,a,I⟩:=bx (q:=A) S e (by simp only[dq,C])
    exact⟨n,i,D4,Y,.inl ⟨a,bC.ret S (aM Y) g⟩⟩
   .rename_i k R C
    obtain⟨n,t,rfl⟩:=e;refine bN (S.cell C) λV l D=>bN D λm a _=>?_
    rw[t]at l;cases l
    exact⟨n,[],D4,Y,.inr (.inr ⟨m,a,bC.ret S (aM Y) g⟩)⟩
   .exact g.elim
  .rename_i A
   obtain⟨n,i,rfl,a,I⟩:=bx (q:=A) S e Y;exact⟨n,i,D4,Y,.inl ⟨a,bC.ret S (aM Y) g⟩⟩
  .obtain⟨n,i,rfl,_,a,I⟩:=dO e
   exact⟨n,i,D4,Y,.inr (.inl ⟨.inl a,bC.ret S (aM Y) g⟩)⟩
  .exact g.elim
 .refine fU (r:=λx H Q=>Rb c.K [x,.ty D4.id] H Q) (λN z=>nU DA F G ϻ (fO z (fO h rE Y) s) (by decide) (by decide) s f) t ?_
  intro dx x O Z P H Q S e g;refine cD (uJ (E:=_d) S e g) λd own X U M k=>?_
  cases q:Dh d D4 with
  |none=>simp_all
  |some b=>
   rw[q]at M;cases M;exact⟨_,d,x,D4,b,Y,U,q,iQ (df S) k Y⟩
def c6(b:aA->D->Bool)(f:D->B D->aA->ax D)(e:EM)(as:AM):EM:=λd g=>(e d g).bind λx a=>if b a x=_t then (as d a).bind λh c=>f x h c else .b
def pI(a x):=(dq a x).isSome
noncomputable def wO(_:aA)(x:D):=match x with
 |.str _=>_t
 |_=>_d
theorem jP(S:bp j z v a e)(r:au z v e h O)(b:pI a h=_t):PF G "list" O e:=by
 unfold pI at b;cases q:dq a h with
 |none=>simp_all
 |some g=>
  obtain⟨c,d,rfl,f,i⟩:=bx S r q;exact .inl ⟨Y,d,mS f⟩
theorem yM(S:bp j z v a e)(r:au z v e h O)(b:wO a h=_t):PF G "str" O e:=by
 cases h with
 |str c=>subst r;rfl
 |_=>cases b
theorem wQ{cpos a}:∀{b},(∀e∈b,isStar e=_d)->((À cpos (D' b a)).all (λx=>!x.1))=_t
 |[],_=>Y
 |e::b,h=>by
  rw[bw (h e (by simp))]
  show(!_d&&(À _ _).all _)=_t
  rw[wQ (by grind)];rfl
variable{S9:D->B D->aA->ax D}{n9:aA->D->Bool}{z7:String}
theorem gq{r}(C:PlainAttrs o5)(slot:PySem.Slot o5 d z7)(l:typeOf (.builtin z7)=pure (.type "method_descriptor"))(D:Mu c z7 r)(hT:∀x v α a b H,bp j α a b H->au α a H x v->n9 b x=_t->PF c.K o5 v H)(E:∀x v xs k α a b H Q,bp j α a b H->au α a H x v->aE (au α a H) xs k->bC j w α a H (S9 x xs b) Q->r v k H Q)(e:ý ξ d c.env (eval ξ c.env)=eval ξ c.env)(f:(o.endLine==T.line)=_t)(F:ba c j w ξ p)(G:mH c j w (n::Z) Q0)(m:∀z∈n::Z,isStar z=_d)(s:(n::Z).length<20):ba c j w (.Call (.Attribute ξ d o) (n::Z) [] T) (c6 n9 S9 p Q0):=by
 intro h t u y b
 refine PE.imp (L2.QD C slot l D (F h t u y b) (PA.ex λi=>G h t u y i) e (by
  rw[wQ m,decide_eq_true (by grind)];rfl) f (bw (by simp_all)) (bJ (by grind))) ?_
 rintro σ H Q ⟨α,a,S,g⟩;refine⟨α,a,S,bC.use g λx i _ v H1 I M N A O q=>?_⟩
 split at q
 .exact⟨by grind,_,_,M,S.grow N A,pH.use q λxs P _ k R U X g2 s2 r2 k2=>E x v xs k _ X _ R Q s2 (A.cE g2 O) r2 k2⟩
 .exact q.elim
noncomputable def sN(a:aA):D->_o (Nat×B D)
 |.ref k=>match a[k]? with
  |J (.l b)=>J (k,b)
  |_=>_n
 |_=>_n
theorem iZ(S:bp j z v a e)(r:au z v e h O)(c:sN a h=J (b,q)):∃d f,O=.ref d/\z[b]?=J d/\e d=J (.l f)/\aE (au z v e) q f:=by
 cases h with
 |ref n=>
  simp only[sN]at c;split at c
  .rename_i i k
   simp only[au]at r;refine bN (S.cell k) λm l g=>bN g λf o p=>?_
   simp_all
  .exact bD c
 |_=>exact bD c
theorem kN(S:bp j z v a e)(k:z[b]?=J i)(p:e i=J (.l N5))(r:aE (au z v e) q η)(l:au z v e h O)(g:bC j w z v e (.ok h (a.set b (.l q))) Ξ):Ξ O (upd e i (.l η)):=by
 obtain⟨m,f⟩:=S.put (c:=.l q) k (λo O d=>by simp_all) λR n=>⟨η,aD,r.imp n⟩
 exact g _ _ _ _ f m (S.cE f l)
def dQ(x:D)(xs:B D)(a:aA):ax D:=match sN a x,xs with
 |J (k,b),[y]=>if small (b.length+1)then .ok .n (a.set k (.l (b++[y])))else .b
 |_,_=>.b
def il(x:D)(xs:B D)(b:aA):ax D:=match sN b x,xs with
 |J (k,a),[.int i]=>if wt i=_t then (match L2.tT a.length i with
  |J n=>match a[n]? with
   |J d=>.ok d (b.set k (.l (a.eraseIdx n)))
   |_n=>.b
  |_n=>.b)else .b
 |_,_=>.b
def jo(x:D)(xs:B D)(a:aA):ax D:=match sN a x,xs with
 |J (k,b),[.int i,y]=>if small (b.length+1)&&wt i then .ok .n (a.set k (.l (su b i y)))else .b
 |_,_=>.b
def jq(x:D)(xs:B D)(a:aA):ax D:=match sN a x,xs with
 |J (k,b),[y]=>match sN a y with
  |J (_,c)=>if small (b.length+c.length)then .ok .n (a.set k (.l (b++c)))else .b
  |_n=>.b
 |_,_=>.b
def dr(x)(xs:B D)(c:aA):=match xs with
 |[y]=>eG (λa b=>match a with|.l d=>wu .index (.l d) (.t [b])|_=>.b) x y c
 |_=>.b
def yN(x)(xs:B D)(c:aA):=match xs with
 |[y]=>eG (λa b=>match a with
  |.str z=>(match b with
   |.l d=>wu .join (.str z) (.t [.l d])
   |_=>.b)
  |_=>.b) x y c
 |_=>.b
theorem sO(a:aE M6 [h,ε] η):∃v w,η=[v,w]/\M6 h v/\M6 ε w:=by
 obtain⟨v,r,rfl,c,b⟩:=a.cons_inv;obtain⟨w,rfl,d⟩:=dP b
 grind
theorem AZ(S:bp j z v a e)(r:au z v e h O)(f:aE (au z v e) q η)(g:bC j w z v e (dQ h q a) Ξ):yd O η e Ξ:=by
 unfold dQ at g;split at g
 .rename_i k p y i
  obtain⟨b,l,rfl,m,c,d⟩:=iZ S r i;obtain⟨u,rfl,n⟩:=dP f;split at g
  .rename_i o
   have:=bA o;exact⟨b,l,u,Y,Y,c,by rwa[d.length],kN S m c (d.append (.one n)) (aM Y) g⟩
  .exact g.elim
 .exact g.elim
theorem Ec(S:bp j z v a e)(r:au z v e h O)(m:aE (au z v e) q η)(g:bC j w z v e (il h q a) Ξ):Ct O η e Ξ:=by
 unfold il at g;split at g
 .rename_i k E i o
  obtain⟨b,p,rfl,s,l,c⟩:=iZ S r o;obtain⟨u,rfl,t⟩:=dP m;subst t;split at g
  .rename_i f
   have F:=ou f;split at g
   .rename_i n x
    split at g
    .rename_i d y
     obtain⟨u,A,C⟩:=c.get y;obtain⟨D,e2,G,e4⟩:=rP x;exact⟨b,p,i,n,u,Y,Y,l,by omega,by omega,by rw[c.length];exact D,A,kN S s l (c.eraseIdx n) C g⟩
    .exact g.elim
   .exact g.elim
  .exact g.elim
 .exact g.elim
theorem A_(S:bp j z v a e)(r:au z v e h O)(m:aE (au z v e) q η)(g:bC j w z v e (jo h q a) Ξ):yv O η e Ξ:=by
 unfold jo at g;split at g
 .rename_i k x i y n
  obtain⟨b,o,rfl,p,l,d⟩:=iZ S r n;obtain⟨u,c,rfl,s,t⟩:=sO m;subst s;split at g
  .rename_i f
   simp at f;have:=bA f.1;have A:=ou f.2;refine⟨b,o,i,c,Y,Y,l,by omega,by omega,by rwa[d.length],kN S p l ?_ (aM Y) g⟩
   unfold su;rw[d.length];exact(d.take _).append (.cons t (d.drop _))
  .exact g.elim
 .exact g.elim
theorem Bb(S:bp j z v a e)(r:au z v e h O)(l:aE (au z v e) q η)(g:bC j w z v e (jq h q a) Ξ):ye O η e Ξ:=by
 unfold jq at g;split at g
 .rename_i k C y m
  obtain⟨c,o,rfl,p,d,f⟩:=iZ S r m;obtain⟨u,rfl,s⟩:=dP l;split at g
  .rename_i n D t
   obtain⟨b,zs,rfl,E,x,i⟩:=iZ S s t;split at g
   .rename_i A
    exact⟨c,b,o,zs,Y,Y,d,x,by rw[f.length,i.length];exact bA A,kN S p d (f.append i) (aM Y) g⟩
   .exact g.elim
  .exact g.elim
 .exact g.elim
theorem uO(S:bp j z v a e)(r:au z v e h O)(m:aE (au z v e) q η)(g:bC j w z v e (dr h q a) Ξ):DC O η e Ξ:=by
 unfold dr at g;split at g
 .obtain⟨u,rfl,n⟩:=dP m
  refine bj (gK (E:=_d) S r n g) λd c own x o p i=>xa i λb k=>?_
  cases d with
  |l s=>
   (unfold wu at b;dsimp only at b)
   split at b
   .rename_i l
    simp only[Õ]at l;split at b
    .rename_i f t
     cases b;exact⟨_,s,c,u,f,Y,o,p,l.1,l.2,t,iQ (df S) k Y⟩
    .exact tY b
   .exact tY b
  |_=>exact tY b
 .exact g.elim
theorem Iz(S:bp j z v a e)(r:au z v e h O)(m:aE (au z v e) q η)(g:bC j w z v e (yN h q a) Ξ):rJoin O η e Ξ:=by
 unfold yN at g;split at g
 .obtain⟨u,rfl,n⟩:=dP m
  refine bj (gK (E:=_d) S r n g) λd c own y o p i=>xa i λb k=>?_
  cases d with
  |str f=>
   cases de o;cases c with
   |l s=>
    (unfold wu at b;dsimp only at b)
    split at b
    .rename_i t x
     split at b
     .rename_i l
      cases b;simp at l;exact⟨f,_,s,t,u,Y,Y,p,x,l.1,l.2,iQ (df S) k Y⟩
     .exact tY b
    .exact tY b
   |_=>exact tY b
  |_=>exact tY b
 .exact g.elim
inductive Src where
 |seq (x:D)|ints (lo:Int) (n:Nat)|chars (z:L)|Yw (x:D)|keys (k:Nat)|items (k:Nat)|Rz (k:Nat)
def du:Src->aA->_o (B D)
 |.seq x,Ω=>jz Ω x
 |.ints d n,_=>J (intsFrom d n)
 |.chars z,_=>J (z.cps.toList.map λc=>.str (aY c))
 |.Yw x,Ω=>(dq Ω x).map (fP 0)
 |.keys k,Ω=>match Ω[k]? with
  |J (.dF a)=>J (a.map λb=>fK b.1)
  |_=>_n
 |.items k,Ω=>match Ω[k]? with
  |J (.dF a)=>J (a.map λb=>.t [fK b.1,b.2])
  |_=>_n
 |.Rz k,Ω=>match Ω[k]? with
  |J (.dF a)=>J (fP 0 (a.map λb=>fK b.1))
  |_=>_n
abbrev IM:=a_->aA->ax Src
def Ed(j:L->f'->Prop)(s)(J:It)(α:B f')(Z:f'->Prop)(H):=∀a f b c g,b9 α Z H a f c->bp j a f b c->du s b=some g ->
 (∀i d,g[i]?=some d->J.go i c/\∀x e,J.UY i c x e->∃h,b9 a f c a h e/\bp j a h b e/\au a h e d x)/\∀i,g.length<=i->J.stop i c
def vL(e:L->f'->Prop)(f:ij)(α:B f')(Z:f'->Prop)(H)(r:ax Src)(R:It->Hp->Prop):=match r with
 |.ok s b=>∀J c a d,b9 α Z H a d c->bp e a d b c->Ed e s J a d c->R J c
 |.e x b=>∀c a d,b9 α Z H a d c->bp e a d b c->f x b a d c
 |.b=>False
def tIO(b:L->f'->Prop)(f:ij)(a:B f')(g:f'->Prop)(h:Hp)(m:IM)(c:a_)(d:aA):TI:=λi H R=>∃e Z,cJ b a g h e Z d c i H/\vL b f e Z H (m c d) R
def Bc(X)(b:L->f'->Prop)(c d e m):=∀a f g h i,PI X d e (tIO b c a f g m h i)
def srcOf(a:aA)(x:D):ax Src:=match jz a x,x with
 |J _,x=>.ok (.seq x) a
 |_n,.str z=>.ok (.chars z) a
 |_n,.ref k=>(match a[k]? with
  |J (.dK b)=>.ok (.keys k) (a.set k (.dF b))
  |J (.dF _)=>.ok (.keys k) a
  |_=>.b)
 |_n,_=>.b
def cP(m:EM):IM:=λb c=>(m b c).bind λx a=>srcOf a x
noncomputable def yO(a:aA)(x:D):ax Src:=match x with
 |.ref k=>(match a[k]? with
  |J (.dK b)=>.ok (.items k) (a.set k (.dF b))
  |J (.dF _)=>.ok (.items k) a
  |_=>.b)
 |_=>.b
def lJ(m:EM):IM:=λb c=>(m b c).bind λx a=>yO a x
noncomputable def yQ(a:aA)(x:D):ax Src:=match x with
 |.ref k=>(match a[k]? with
  |J (.dK b)=>.ok (.Rz k) (a.set k (.dF b))
  |J (.dF _)=>.ok (.Rz k) a
  |_=>.b)
 |_=>.b
def sP(m:EM):IM:=λb c=>(m b c).bind λx a=>match dq a x with
 |J _=>.ok (.Yw x) a
 |_n=>yQ a x
def yR(xs:B D)(a:aA):ax Src:=match xs with
 |[.int j]=>if wt j then .ok (.ints 0 j.toNat) a else .b
 |_=>.b
def dX(as:AM):IM:=λa b=>(as a b).bind yR
variable{x8:It->Hp->Prop}
theorem vL.from{r}(g:b9 z v e Q1 B3 r0)(h:vL j w z v e r x8):vL j w Q1 B3 r0 r x8:=by
 cases r with
 |ok d b=>exact λa c f i k=>h a c _ i (g.trans k)
 |e x b=>exact λc f i k=>h c _ i (g.trans k)
 |b=>exact h
theorem vL.use{f}(h:vL j w z v e (X1.bind f) x8)(k:∀d b,X1=.ok d b->∀a i c l,b9 z v e c l i->bp j c l b i->au c l i d a->vL j w c l i (f d b) x8->Ξ a i):bC j w z v e X1 Ξ:=by
 cases X1 with
 |ok d b=>exact λa i c l g s q=>k d _ Y a i _ l g s q (vL.from g h)
 |e x b=>exact h
 |b=>exact h
theorem uP(t:au z v e h (.ref i))(S:bp j z v a e)(u:(dq a h).isSome=_t):Ed j (.seq h) (Xy G i) z v e:=by
 intro w x k H A g s C;have D:∀l,h≠.t l:=λl b=>by subst b;cases u
 have m:dq k h=J A:=by
  cases h with
  |t l=>grind
  |_=>exact C
 obtain⟨I,n,b,o,q⟩:=bx s (S.cE g t) m;cases b;refine⟨λc d E=>?_,λc K=>⟨n,mS o,by rwa[q.length]⟩⟩
 obtain⟨f,r,F⟩:=q.get E;refine⟨⟨n,f,mS o,r⟩,λy M p=>?_⟩
 obtain⟨rfl,p⟩:=p;have:=p n (mS o);rw[r]at this;cases this;exact⟨x,b9.refl s.has,s,F⟩
theorem uQ(y:z[b]?=J i)(A:e i=J (.cX R0 (.dK B5))):Ed j (.keys b) (QQ i R0) z v e:=by
 intro C D E I K g s k;have a:=g.cX i _ _ A;simp only[du]at k;split at k
 .rename_i n F
  cases k;refine bN (s.cell F) λM f l=>cy l λN o r t=>?_
  rw[(g.pre b i y)]at f;cases f
  rw[a]at r;cases r
  have O:=t.length;refine⟨λc d u=>?_,λc P=>⟨_,a,by simp_all⟩⟩
  rw[Ü]at u;obtain⟨p,G,rfl⟩:=È.mp u;obtain⟨q,w,H,_⟩:=aE.get t G;refine⟨⟨_,a,Ab w⟩,λx Q m=>?_⟩
  obtain⟨rfl,m⟩:=m;obtain⟨R,h,rfl⟩:=m _ a;rw[w]at h;cases h
  refine⟨D,b9.refl s.has,s,?_⟩;rw[H];cases q.1<;>simp only[fK,kV,au]
 .exact bD k
theorem qO(C:z[b]?=J i)(D:e i=J (.cX R0 (.dK B5))):Ed j (.items b) (Ri i R0) z v e:=by
 intro E N F O P g s k;have a:=g.cX i _ _ D;simp only[du]at k;split at k
 .rename_i o G
  cases k;refine bN (s.cell G) λQ f l=>cy l λR r t u=>?_
  rw[(g.pre b i C)]at f;cases f
  rw[a]at t;cases t
  have S:=u.length;refine⟨λc d w=>?_,λc T=>⟨_,a,by simp_all⟩⟩
  rw[Ü]at w;obtain⟨p,H,rfl⟩:=È.mp w;obtain⟨q,y,I,e2⟩:=aE.get u H;refine⟨⟨_,a,Ab y⟩,λx U m=>?_⟩
  obtain⟨K,rfl,n,m⟩:=m;obtain⟨V,h,rfl⟩:=m _ a;rw[y]at h;cases h
  obtain⟨M,A⟩:=s.qH n True;refine⟨_,A,M,?_⟩;refine⟨K,_,Y,.inr Y,aD,cj.mpr (.cons ?_ (.one (s.cE A e2)))⟩;rw[I];cases q.1<;>simp only[fK,kV,au]
 .exact bD k
theorem ID(h:ba c j w n p):Bc c j w ξ n (cP p):=by
 intro P Z0 H0 ρ Ω;refine PI.imp (HW (h P Z0 H0 ρ Ω)) ?_;rintro σ H R ⟨α,Z,S,g⟩;refine⟨α,Z,S,vL.use g λx G _ v F e r g1 b t f=>?_⟩
 cases x with
 |t es=>
  obtain⟨a,q,rfl,_,k,A⟩:=dO t
  exact .inr (.inl ⟨a,q,Y,.inl k,f _ F e r (b9.refl b.has) b (by
    intro e r G F ds g s Q;cases Q;refine bT (dO (b.cE g t)) λa' q n _ k A=>?_
    cases n;refine⟨λi d I=>?_,λi T=>⟨q,vK (.inl k),by rwa[A.length]⟩⟩
    refine bN (A.get I) λv hv rv=>?_
    refine⟨⟨q,v,vK (.inl k),hv⟩,λy H2 K=>?_⟩
    obtain⟨rfl,K⟩:=K;have:=K q (vK (.inl k));rw[hv]at this;cases this;exact⟨r,b9.refl s.has,s,rv⟩)⟩)
 |l es=>
  obtain⟨a,q,rfl,k,A⟩:=bx b t Y;exact .inl ⟨a,q,Y,k,f _ F e r (b9.refl b.has) b (uP t b Y)⟩
 |ref C=>
  cases D:dq G (.ref C)with
  |none=>
   simp only[srcOf,jz,D]at f;obtain⟨a,M,rfl⟩:=t;split at f
   .rename_i N U
    obtain⟨a',m,l,k,A⟩:=b.cell U;rw[M]at m;cases m
    refine .inr (.inr (.inr ⟨a,l,Y,.inl ⟨k,λo=>?_⟩⟩))
    obtain⟨O,g2⟩:=b.put (c:=.dF N) M (λo u z=>by simp_all) λR hR=>⟨o,l,aD,A.imp hR⟩
    exact f _ _ e r g2 O (uQ M aD)
   .rename_i N U
    refine bN (b.cell U) λa' m V=>cy V λo l k A=>?_
    rw[M]at m;cases m
    exact .inr (.inr (.inr ⟨a,l,Y,.inr ⟨o,k,f _ F e r (b9.refl b.has) b (uQ M k)⟩⟩))
   .exact f.elim
  |some ds=>
   simp only[srcOf,jz,D]at f;obtain⟨a,q,rfl,k,A⟩:=bx b t D;exact .inl ⟨a,q,Y,k,f _ F e r (b9.refl b.has) b (uP t b (by simp_all))⟩
 |str z=>
  subst t;refine .inr (.inr (.inl ⟨z,Y,f _ F e r (b9.refl b.has) b ?_⟩));intro a0 Z2 b0 H2 ds g2 O Q;cases Q;refine⟨λi d I=>?_,λi T=>by show z.cps.size<=i;simp_all⟩
  have T:i<z.cps.size:=by
   grind
  refine⟨T,λy H3 K=>?_⟩
  obtain⟨rfl,E,hc,rfl⟩:=K;rw[Ü]at I;have X:z.cps.toList[i]?=J E:=by simp_all
  rw[X]at I;cases I;exact⟨Z2,b9.refl O.has,O,aM Y⟩
 |n=>exact f.elim
 |bl _=>exact f.elim
 |int _=>exact f.elim
 |dct _ _=>exact f.elim
theorem vL.Yy{f}(h:vL j w z v e (y9.bind f) x8)(k:∀m a,y9=.ok m a->∀n c b l,b9 z v e b l c->bp j b l a c->aE (au b l c) m n->vL j w b l c (f m a) x8->Y8 n c):pH j w z v e y9 Y8:=by
 cases y9 with
 |ok d a=>exact λi c b l g s q=>k d _ Y i c _ l g s q (vL.from g h)
 |e x a=>exact h
 |b=>exact h
theorem Ee(r:Gl c "range")(t:c.mg "range"=_n)(u:mH c j w [n] Q0)(e:D' [n] c.env=[(_d,eval n c.env)]):Bc c j w ξ (.Call (.Name "range" T) [n] [] o) (dX Q0):=by
 intro f x z A C;refine PI.imp (Ah r t (u f x z A C) e) ?_;rintro I H R ⟨D,Z,S,g⟩;refine⟨D,Z,S,vL.Yy g λK h _ M m k l N p E b=>?_⟩
 unfold yR at b;split at b
 .obtain⟨v,rfl,F⟩:=dP E
  subst F;split at b
  .rename_i a
   have a:=ou a
   exact⟨_,Y,a.1,a.2,b _ m _ l (b9.refl p.has) p (by
     intro k l h m O g s e;cases e;refine⟨λi d q=>?_,λi a=>by rwa[kG]at a⟩
     have a:=(Ê.mp q).1;rw[kG]at a;refine⟨a,λy P G=>?_⟩
     obtain⟨rfl,rfl⟩:=G;rw[ints_get _ _ _ _ q];exact⟨l,b9.refl s.has,s,aM Y⟩)⟩
  .exact b.elim
 .exact b.elim
noncomputable def uR(n:Nat)(d:D):_o a_:=match n,d with
 |0,d=>J [J d]
 |n,.t a=>if a.length=n then J (a.map J)else _n
 |_,_=>_n
noncomputable def fy(a:B Nat)(b:a_):a_:=a.map λi=>(b[i]?).join
def mJ(b)(c:EM)(d a):=if b=_t then .ok _t a else eH (c d a)
def vM(g:Bool)(h j:EM)(n:Nat)(e:a_)(b:Src):Nat->Nat->B D->aA->ax (B D)
 |0,_,_,_=>.b
 |f+1,i,a,Ω=>match du b Ω with
  |_n=>.b
  |J m=>match m[i]? with
   |_n=>.ok a Ω
   |J d=>match uR n d with
    |_n=>.b
    |J l=>if small (a.length+1)then match mJ g h (l++e) Ω with
     |.ok _t c=>match j (l++e) c with
      |.ok y k=>vM g h j n e b f (i+1) (a++[y]) k
      |_=>.b
     |.ok _d c=>vM g h j n e b f (i+1) a c
     |_=>.b else .b
def cB(e:EM)(f:Bool)(g:EM)(h:IM)(n:Nat)(b:B Nat):EM:=λd i=>match h d i with
 |.ok s a=>match vM f g e n (fy b d) s fuel 0 [] a with
  |.ok j c=>fG c (.l j)
  |_=>.b
 |.e x a=>.e x a
 |.b=>.b
def j8:ij:=λ_ _ _ _ _=>False
theorem uS(S:cJ j Q1 B3 r0 z v a u A2 e)(g:b9 z v e c9 W9 y8)(s:bp j c9 W9 x y8)(r:aE (au c9 W9 y8) q η):
  cJ j c9 W9 y8 c9 W9 x (q.map J++fy π u) (η.map J++uB π A2) y8:=by
 have m:=r.length;refine⟨s,b9.refl s.has,?_,λi d h=>?_⟩
 .unfold uB fy
  simp_all
 .by_cases n:i<q.length
  .rw[ë (by simp_all),Ü]at h
   rw[ë (by simp_all)]
   cases b:q[i]? with
   |none=>simp_all
   |some o=>
    rw[b]at h;obtain⟨c,l,k⟩:=r.get b
    simp_all
  .rw[ī (by simp_all)]at h
   rw[ī (by simp_all)]
   unfold fy at h;unfold uB;rw[ß,Ü]at h;cases b:π[i - q.length]? with
   |none=>simp_all
   |some f=>
    obtain⟨c,l,k⟩:=S.val f d (by
     grind)
    refine⟨c,?_,S.st.cE g k⟩
    simp_all
theorem b9.La(g:b9 z v e Q1 B3 r0)(a:i∉z)(h:e i=J T2):i∉Q1:=λq=>by
 rcases g.KY i q with q|q
 .exact a q
 grind
theorem b9.Nb(g:b9 z v e Q1 B3 r0)(a:¬ v i)(h:e i=J T2):¬ B3 i:=λq=>by
 rcases g.new i q with q|q
 .exact a q
 grind
theorem b9.side(g:b9 z v e Q1 B3 r0)(d:i∉z)(h:e i=Option.none):b9 z v e Q1 B3 (upd r0 i T2):=
 ⟨g.pre,g.sub,g.new,g.KY,λb u a c=>by rw[av (aS a h)];exact g.frm b u a c,λb c=>by rw[av (λ(q)=>d (by simp_all))];exact g.has b c,λb f u a=>by rw[av (aS a h)];exact g.cX b f u a⟩
theorem IE(a:uR b h=J u):∃c:B D,u=c.map some:=by
 unfold uR at a;split at a
 .cases a;exact⟨[h],Y⟩
 .grind
 .exact bD a
theorem bp.part(S:bp j z v a e)(m:e i=J (.l η))(p:i∉z)(hz:¬ v i)(r:aE (au z v e) q η):bp j (z++[i]) v (a++[.l q]) e:=by
 have mono:∀d h,au z v e d h->au (z++[i]) v e d h:=λd h r=>r.mono (λn g f=>by rwa[ë (Ab f)]) (λ_ _ _ f=>f) λ_ k=>k
 refine⟨?_,?_,λg ha l=>?_,S.dom⟩
 .refine Ă.mpr ⟨S.tZ,by simp,λg ha b s f=>?_⟩
  simp_all
 .exact aE.append (S.BP.imp λc g o=>o.imp mono (λ_ f=>f) (λ_ _ _ f=>f) λ_ _ f=>f) (.one ⟨η,m,r.imp mono⟩)
 .rcases Ñ.mp ha with ha|ha
  .exact S.sep g ha l
  simp_all
theorem bp.side(S:bp j z v a e)(s:i∉z)(hz:¬ v i)(w:∀T2 u,e i≠J (.cX T2 u))(x:∀n,e i≠J (.xd n)):bp j z v a (upd e i T2)/\∀d g,au z v e d g->au z v (upd e i T2) d g:=by
 have mono:∀d g,au z v e d g->au z v (upd e i T2) d g:=λd g r=>r.mono (λ_ _ k=>k) (λf u l k=>by rwa[av (λ(q)=>hz (by simp_all))]) λ_ l=>l
 have o:∀{cs:B _}{m:B _},(∀f∈m,f∈z)->aE (λc f=>ig j (au z v e) e f c) cs m->aE (λc f=>ig j (au z v (upd e i T2)) (upd e i T2) f c) cs m:=by
  intro cs m y A
  induction A with
  |nil=>exact .nil
  |@cons c f cs m r t E=>
   have p:f≠i:=λq=>s (by simp_all)
   exact .cons (r.imp mono (λu k=>by rwa[av p]) (λb C D k=>by rwa[av (λq=>w C D (by simp_all))]) λb n k=>by rwa[av (λq=>x n (by simp_all))]) (by simp_all)
 exact⟨⟨S.tZ,o (λf h=>h) S.BP,S.sep,λf l=>by rw[av (λ(q)=>hz (by simp_all))];exact S.dom f l⟩,mono⟩
variable{E2:IM}
theorem qP(x0:Bc c j w n ξ E2)(y0:∀d (ds:B D) x α g A H r k,uR b d=some (ds.map some)->bp j α g A H->au α g H d x->(∀vs,aE (au α g H) ds vs->k (vs.map some++r) H)->w6 x (ź l.length _n++r) H k)(hb:∀R C h m fp,PG (blk c o0 R C (l++i0) h m fp) n w6/\((Z=[]/\E=_t)\/∃K,Z=[K]/\E=_d/\j7 (blk c o0 R C (l++i0) h m fp) j j8 K ς)/\ba (blk c o0 R C (l++i0) h m fp) j j8 M3 p):
  ∀c0 Z0 H0 ρ A,∃wi tc te,PI c n ξ wi/\(∀R C h m fp,PG (blk c o0 R C (l++i0) h m fp) n w6/\KU (blk c o0 R C (l++i0) h m fp) Z tc/\PE (blk c o0 R C (l++i0) h m fp) M3 te) /\
   ∀σ H Q,tO j w c0 Z0 H0 (cB p E ς E2 b π) ρ A σ H Q->qw wi l.length π w6 tc te σ H Q:=by
 intro c0 Z0 H0 ρ A
 let tc:TT:=λr H Q=>∃α g A t,cJ j α g H α g A t r H/\t4 j j8 α g H (mJ E ς t A) Q
 let te:TE:=λr H Q=>∃α g A t,cJ j α g H α g A t r H/\bC j j8 α g H (p t A) Q
 refine⟨_,tc,te,x0 c0 Z0 H0 ρ A,(by
  intro R C h m fp;refine mO (hb R C h m fp) λh1 h2 h3=>?_
  refine⟨h1,?_,?_⟩
  .rcases h2 with ⟨e,hn⟩|⟨K,e,hn,h2⟩
   .subst e
    intro pins s r H Q I q;refine gj q λα g A t S k=>?_
    rw[mJ,if_pos hn]at k;exact HN pins s r H Q I (k H α g (b9.refl S.st.has) S.st)
   .subst e
    intro pins s r H Q I q;refine gj q λα g A t S k=>?_
    rw[mJ,if_neg (by rw[hn];exact ϔ)]at k
    exact HP (h2 α g H t A) pins s r H Q I ⟨α,g,S,k⟩
  .intro pins s r H Q I q
   refine gj q λα g A t S k=>?_
   exact h3 α g H t A pins s r H Q I ⟨α,g,S,k⟩),?_⟩
 rintro σ H Q ⟨α,g,S,k⟩;refine⟨α,g,S,?_⟩;simp only[cB]at k;cases qi:E2 ρ A with
 |e x d0=>rw[qi]at k;exact k
 |b=>rw[qi]at k;exact k.elim
 |ok e0 d0=>
  rw[qi]at k;dsimp only at k;intro J H1 f0 Z1 g1 s1 w1 O hD;cases qg:vM E ς p b (fy π ρ) e0 fuel 0 [] d0 with
  |e x m0=>rw[qg]at k;exact k.elim
  |b=>rw[qg]at k;exact k.elim
  |ok ys m0=>
   rw[qg]at k;have b0:¬ Z1 O:=λz=>s1.dom O z hD
   have M:O∉f0:=λz=>s1.has O z hD
   refine⟨λi f vs H2=>∃F Z2 G N,b9 f0 Z1 H1 F Z2 H2/\bp j F Z2 G H2/\O∉F/\¬ Z2 O/\H2 O=some (.l vs)/\aE (au F Z2 H2) N vs/\vM E ς p b (fy π ρ) e0 f i N G=.ok ys m0,
    ⟨fuel,f0,Z1,d0,[],?_,?_,M,b0,aD,.nil,qg⟩,?_⟩
   .exact⟨λ_ _ e=>e,λ_ z=>z,λ_ z=>.inl z,λ_ z=>.inl z,λa o e _=>by rw[av (aS e hD)];exact e,λa ha=>by rw[av (λ(q:a=O)=>M (by rw[←q];exact ha))];exact s1.has a ha,λa o u e=>by rw[av (aS e hD)];exact e⟩
   .exact(s1.side M b0 (by grind) (by grind)).1
   rintro i f vs H2 ⟨F,Z2,G,N,P,s2,nD,nZ,T,r2,e2⟩;refine⟨T,?_⟩;cases f with
   |zero=>cases e2
   |succ f=>
    simp only[vM]at e2;cases qs:du e0 G with
    |none=>simp_all
    |some ds=>
     rw[qs]at e2;dsimp only at e2;obtain⟨z0,A0⟩:=w1 F Z2 G H2 ds P s2 qs;cases qd:ds[i]? with
     |none=>
      rw[qd]at e2;cases e2;refine .inl ⟨A0 i (List.getElem?_eq_none_iff.mp qd),?_⟩
      exact k _ H2 _ Z2 (g1.trans ⟨λb a e=>by rw[ë (Ê.mp (P.pre b a e)).1];exact P.pre b a e,P.sub,P.new,λa ha=>by
       rcases Ñ.mp ha with ha|ha
       .exact P.KY a ha
       .rw[ï.mp ha];exact .inr hD,P.frm,P.has,P.cX⟩) (s2.part T nD nZ r2) (eu s2 O)
     |some d=>
      rw[qd]at e2;dsimp only at e2;obtain⟨C0,G0⟩:=z0 i d qd;cases qt:uR b d with
      |none=>simp_all
      |some ts=>
       rw[qt]at e2;dsimp only at e2;obtain⟨es,rfl⟩:=IE qt
       by_cases U:small (N.length+1)=_t
       .rw[if_pos U]at e2
        have U:=bA U;refine .inr ⟨C0,by rw[r2.length];exact U,λx H3 yl=>?_⟩
        refine aH (G0 x H3 yl) λZ3 g3 s3 rx=>?_
        have g0:=g3.frm O _ T nD;refine y0 d es x F Z3 G H3 (uB π σ) _ qt s3 rx λws p0=>?_
        have gB:=g1.trans (P.trans g3);refine⟨F,Z3,G,_,(uS (π:=π) S gB s3 p0),?_⟩;cases qc:mJ E ς _ G with
        |e x V=>simp_all
        |b=>simp_all
        |ok h0 V=>
         rw[qc]at e2;intro H5 r0 Z5 X s5;have j0:=X.La nD g0;have t0:=X.Nb (g3.Nb nZ T) g0;have a0:=X.frm O _ g0 nD;cases h0 with
         |false=>
          exact⟨f,ϕ _,r0,Z5,V,N,P.trans (g3.trans X),s5,j0,t0,a0,s3.mq X (s2.mq g3 r2),e2⟩
         |true=>
          dsimp only at e2;refine⟨r0,Z5,V,_,(uS (π:=π) S (gB.trans X) s5 (s3.mq X p0)),?_⟩;cases qe:p _ V with
          |e x u0=>simp_all
          |b=>simp_all
          |ok y u0=>
           rw[qe]at e2;intro v H6 I0 Z6 g6 s6 rv;have v0:=g6.La j0 a0;have w0:=g6.Nb t0 a0;have l0:=g6.frm O _ a0 j0;obtain⟨s7,m7⟩:=s6.side v0 w0 (λo u z=>by rw[l0]at z;cases z) (λfs z=>by rw[l0]at z;cases z)
           refine⟨l0,f,ϕ _,I0,Z6,u0,N++[y],((P.trans (g3.trans X)).trans g6).side M hD,s7,v0,w0,aD,((s5.mq g6 (s3.mq X (s2.mq g3 r2))).append (.one rv)).imp m7,e2⟩
       simp_all
theorem oP(m:Bc c j w (.Name d o) n E2)(K:o0.names.lookup d=J .local)(q:([d]++l).Nodup)(M:∀h C b f fp,((Z=[]/\E=_t)\/∃g,Z=[g]/\E=_d/\j7 (blk c o0 h C ([d]++l) b f fp) j j8 g ς)/\ba (blk c o0 h C ([d]++l) b f fp) j j8 ξ p):
  ∀s N O P x,∃z A D,PI c (.Name d o) n z/\(∀h C b f fp,PG (blk c o0 h C ([d]++l) b f fp) (.Name d o) (kb 0)/\KU (blk c o0 h C ([d]++l) b f fp) Z A/\PE (blk c o0 h C ([d]++l) b f fp) ξ D) /\
   ∀F H Q,tO j w s N O (cB p E ς E2 0 π) P x F H Q->qw z [d].length π (kb 0) A D F H Q:=by
 have G:(ġ _ c.env).names.lookup d=J _:=acF K;refine qP m (λi I y α t x H R k u S T U=>?_) λh C b f fp=>?_
 .have e:I=[i]:=by
   injection u with u;cases I with
   |nil=>cases u
   |cons a r=>
    simp_all
  subst e;exact U _ (.one T)
 .obtain⟨V,X⟩:=M h C _ _ fp
  exact⟨ke q Y (.inl G) (.inr G),V,X⟩
theorem Ef(i:c.calm=_t)(B:kF c o0 [d] l π)(k:∀z,đ n c.env z=pure z)(f:Bc c j w (.Name d T) n E2)(m:o0.names.lookup d=J .local)(g:([d]++l).Nodup)(q:∀h C b e fp,((Z=[]/\E=_t)\/∃a,Z=[a]/\E=_d/\j7 (blk c o0 h C ([d]++l) b e fp) j j8 a ς)/\ba (blk c o0 h C ([d]++l) b e fp) j j8 ξ p):
  ba c j w (.ListComp ξ [⟨.Name d T,n,Z,0⟩] o0 o) (cB p E ς E2 0 π):=by
 intro r s t u x;obtain⟨F,G,H,y,A,D⟩:=oP f m g q _ s t u x;exact PE.imp (yu i B y k (ml 1 (by decide)) A) D
inductive eA where
 |nx (ρ:a_) (Ω:aA)|bk (ρ:a_) (Ω:aA)|ct (ρ:a_) (Ω:aA)|rt (d:D) (Ω:aA)|e (x:D) (Ω:aA)|b
abbrev SM:=a_->aA->eA
def d_(c:L->f'->Prop)(h:ij)(a:B f')(e:f'->Prop)(f:Hp)(E:Ends):eA->Prop
 |.nx g Ω=>∀b H α Z,cJ c a e f α Z Ω g b H->E.nx b H
 |.bk g Ω=>∀b H α Z,cJ c a e f α Z Ω g b H->E.bk b H
 |.ct g Ω=>∀b H α Z,cJ c a e f α Z Ω g b H->E.ct b H
 |.rt d Ω=>∀v H α Z,b9 a e f α Z H->bp c α Z Ω H->au α Z H d v->E.rt v H
 |.e x Ω=>∀H α Z,b9 a e f α Z H->bp c α Z Ω H->h x Ω α Z H
 |.b=>False
def PM(b:L->f'->Prop)(h:ij)(a:B f')(d:f'->Prop)(e:Hp)(c:SM)(f:a_)(g:aA):TS:=λE i H=>∃j Z,cJ b a d e j Z g f i H/\d_ b h a d e E (c f g)
def jr(X)(b:L->f'->Prop)(d st c):=∀a e f g h,PS X st (PM b d a e f c g h)
def jA(X)(d:L->f'->Prop)(e)(a:B O')(c):=∀b f g h i,j6 X a (PM d e b f g c h i)
noncomputable def cC{c}(r:ax c)(k:c->aA->eA):=match r with
 |.ok a b=>k a b
 |.e x b=>.e x b
 |.b=>.b
noncomputable def ag:SM:=λa b=>.nx a b
noncomputable def af(a b:SM):SM:=λe f=>match a e f with
 |.nx c d=>b c d
 |r=>r
def aJ(i:Nat)(m:EM):SM:=λb c=>cC (m b c) λd a=>.nx (b.set i (J d)) a
def cA(m:EM):SM:=λb c=>cC (m b c) λ_ a=>.nx b a
def a7(m:EM):SM:=λb c=>cC (m b c) λd a=>.rt d a
noncomputable def uT:SM:=λ_ a=>.rt .n a
def cw(m:EM)(a b:SM):SM:=λd e=>cC (eH (m d e)) λt c=>if t=_t then a d c else b d c
noncomputable def bV:SM:=λ_ _=>.b
def mK(m:EM)(b:SM):Nat->SM
 |0,_,_=>.b
 |f+1,d,Ω=>cC (eH (m d Ω)) λt c=>if t=_t then (match b d c with
  |.nx a aq=>mK m b f a aq
  |.ct a aq=>mK m b f a aq
  |.bk a aq=>.nx a aq
  |r=>r)else .nx d c
def Eg(m b):=mK m b fuel
noncomputable def ip:B Nat->B D->a_->a_
 |i::b,d::c,a=>ip b c (a.set i (J d))
 |_,_,a=>a
noncomputable def dv(i:Nat)(d:D)(a:a_):_o a_:=J (a.set i (J d))
def fY(a:B Nat)(d:D)(c:a_):=match d with
 |.t b=>if b.length=a.length then J (ip a b c)else _n
 |_=>_n
def kP(c:D->a_->_o a_)(e:Src)(b:SM):Nat->Nat->SM
 |0,_,_,_=>.b
 |f+1,i,h,Ω=>match du e Ω with
  |_n=>.b
  |J j=>match j[i]? with
   |_n=>.nx h Ω
   |J d=>match c d h with
    |_n=>.b
    |J g=>match b g Ω with
     |.nx a aq=>kP c e b f (i+1) a aq
     |.ct a aq=>kP c e b f (i+1) a aq
     |.bk a aq=>.nx a aq
     |r=>r
def dW(a:D->a_->_o a_)(e:IM)(b:SM):SM:=λd f=>cC (e d f) λs c=>kP a s b fuel 0 d c
def Eh(e:B Nat)(m:EM):SM:=λc f=>cC (m c f) λd a=>match fY e d c with
 |J b=>.nx b a
 |_n=>.b
theorem cJ.set{c α a Z e f H g k l}(S:cJ c a e g α Z f k l H){d v}(r:au α Z H d v)(i):cJ c a e g α Z f (k.set i (J d)) (l.set i (J v)) H:=by
 refine⟨S.st,S.gr,by simp[S.len],λj m h=>?_⟩
 by_cases b:i=j
 .subst b
  have n:=by
   have:=(Ê.mp h).1;simpa using this
  rw[ŭ n]at h;cases h;exact⟨v,by rw[ŭ (by rwa[S.len])],r⟩
 .rw[ō b]at h ⊢
  exact S.val j m h
variable{N7:Ends}
theorem d_.use{k}(S:cJ j Q1 B3 r0 z v a u A2 e)(f:d_ j w Q1 B3 r0 N7 (cC X1 k))(h:∀d c b l i m,X1=.ok d c->b9 z v e i m l->cJ j Q1 B3 r0 i m c u A2 l->au i m l d b->d_ j w Q1 B3 r0 N7 (k d c)->Ξ b l):bC j w z v e X1 Ξ:=by
 cases X1 with
 |ok d c=>exact λb l i m g s q=>h d _ b l _ m Y g (S.grow g s) q f
 |e x c=>exact λl i m g s=>f l _ m (S.gr.trans g) s
 |b=>exact f
theorem d_.RA{k}(S:cJ j Q1 B3 r0 z v a u A2 e)(f:d_ j w Q1 B3 r0 N7 (cC x9 k))(h:∀t b i c l,x9=.ok t b->b9 z v e c l i->cJ j Q1 B3 r0 c l b u A2 i->d_ j w Q1 B3 r0 N7 (k t b)->h9 t i):t4 j w z v e x9 h9:=by
 cases x9 with
 |ok d b=>exact λi c l g s=>h d _ i _ l Y g (S.grow g s) f
 |e x b=>exact λi c l g s=>f i _ l (S.gr.trans g) s
 |b=>exact f
theorem j6.ex{b:Type}{t:b->TS}(h:∀i,j6 c X3 (t i)):j6 c X3 (λD a H=>∃i,t i D a H):=λpins s a H D I  d =>xe d λi q=>h i _ s a H D I q
theorem di:jA c j w [] ag:=by
 intro b e g i k;refine j6.imp (λ_ _ a H _ I h=>Ļ ⟨a,H,I,h⟩) ?_
 rintro E a H ⟨d,Z,S,f⟩;exact f a H d Z S
variable{z5 υ:SM}
theorem bI(l:jr c j w ω υ)(m:jA c j w X3 z5):jA c j w (ω::X3) (af υ z5):=by
 intro e g h i k;refine j6.imp (BZ (l e g h i k) (j6.ex λp:a_×aA=>m e g h p.1 p.2)) ?_
 rintro E u H ⟨n,Z,S,f⟩;refine⟨n,Z,S,?_⟩;simp only[af]at f;cases q:υ i k with
 |nx b a=>rw[q]at f;exact λo y r s t=>⟨(b,a),_,s,t,f⟩
 |bk b a=>rwa[q]at f
 |ct b a=>rwa[q]at f
 |rt d a=>rwa[q]at f
 |e x a=>rwa[q]at f
 |b=>rwa[q]at f
theorem Ei:jr c j w (.Return _n o) uT:=by
 intro a d e g h;refine PS.imp GL ?_;rintro E i H ⟨b,Z,S,f⟩;exact f _ H b Z S.gr S.st (aM Y)
theorem eg(h:ba c j w n p):jr c j w (.Return (J n) o) (a7 p):=by
 intro a k l m q
 refine PS.imp (by
   have t:=(h a k l m q);intro pins s b H D I h;exact wpAny_Return_some (bO (t _ s b H _ I h) λv N  u =>aP u λx e y z A=>⟨x,b,e,y,z,A⟩)) ?_
 rintro E b H ⟨C,Z,S,f⟩;exact⟨C,Z,S,d_.use S f λd F v e G K _ g i r M=>M v e _ K i.gr i.st r⟩
theorem f_(i:c.N.Nodup)(k:c.N[b]?=J d)(l:Loc c.env.scope d)(m:c.fn d=_t\/c.env.scope.names.lookup d=J .local)(q:ì n (J (.Name d T)) o.line c.env=pure _d)(h:ba c j w n p):
  jr c j w (.Assign [.Name d T] n o) (aJ b p):=by
 intro a s t u x;refine PS.imp (Md i k l (h a s t u x) q m) ?_;rintro E I H ⟨y,Z,S,f⟩;exact⟨y,Z,S,d_.use S f λe z v A C D _ g F r G=>G _ A _ D (F.set r b)⟩
theorem Ej(I:c.N.Nodup)(K:c.N[b]?=J d)(M:c.env.scope.names.lookup d=J .local)(O:ì (.ListComp n [⟨M3,ξ,Z,0⟩] o0 o) (J (.Name d T)) T.line c.env=pure _t)(P:c.calm=_t)(B:kF c o0 l i0 π)(R:∀d,đ ξ c.env d=pure d)(s:∀v i H Q,w6 v i H Q->w6 v i H λk U=>Q k U/\k.length=i.length/\∀a,l.length<=a->k[a]?=i[a]?)(h:∀q t u x y,∃z A D,PI c M3 ξ z/\(∀F C e g fp,PG (blk c o0 F C (l++i0) e g fp) M3 w6/\KU (blk c o0 F C (l++i0) e g fp) Z A/\PE (blk c o0 F C (l++i0) e g fp) n D) /\
   ∀i H Q,tO j w q t u p x y i H Q->qw z l.length π w6 A D i H Q)(V:P1.line=T.line):
  jr c j w (.Assign [.Name d T] (.ListComp n [⟨M3,ξ,Z,0⟩] o0 o) P1) (aJ b p):=by
 intro q t u x y;obtain⟨z,A,D,X,h2,h3⟩:=h _ t u x y;refine PS.imp (wB I K M (by rwa[V]) P B X R s h2) ?_
 rintro E i H ⟨α,m,S,f⟩;exact h3 i H _ ⟨α,m,S,d_.use S f λG a0 v H1 b0 Z1 _ w6 S1 r f1=>f1 _ H1 _ Z1 (S1.set r b)⟩
theorem yS(b:ì n _n o.line c.env=pure _d)(h:ba c j w n p):jr c j w (.Expr n o) (cA p):=by
 intro a e i k l;refine PS.imp (ya (h a e i k l) b) ?_;rintro E z H ⟨m,Z,S,f⟩;exact⟨m,Z,S,d_.use S f λd q v s t u _ g x r y=>y _ s _ u x⟩
variable{Z8:B O'}
theorem oQ(m:j7 c j w n p)(q:jA c j w X3 υ)(r:jA c j w Z8 z5):jr c j w (.If n X3 Z8 o) (cw p υ z5):=by
 intro b d e h s;refine PS.imp (Qm (m b d e h s) (j6.ex λa=>q b d e h a) (j6.ex λa=>r b d e h a)) ?_
 rintro E y H ⟨u,Z,S,f⟩;refine⟨u,Z,S,d_.RA S f λt a z x i _ g k l=>?_⟩
 cases t with
 |true=>exact wc ⟨_,_,i,k,l⟩
 |false=>exact wb ⟨_,_,i,k,l⟩
theorem lK:jr c j w ω bV:=by rintro a b d e g pins s h H E I ⟨i,Z,S,f⟩;exact f.elim
theorem Be(P:Ű (B' c.prog c.w) c.A c.env c.xe)(Q:j7 c j w n p)(R:jA c j w X3 υ):jr c j w (.While n X3 [] o) (Eg p υ):=by
 intro h m r s u;refine PS.imp (Cb P (PT.ex λa:a_×aA=>Q h m r a.1 a.2) (j6.ex λa:a_×aA=>R h m r a.1 a.2)) ?_
 rintro E I H ⟨y,Z,S,f⟩;refine⟨λf I H=>∃y Z s u,cJ j _ m r y Z u s I H/\d_ j w _ m r E (mK p υ f s u),⟨_,y,Z,s,u,S,f⟩,?_⟩
 rintro f T H1 ⟨U,V,i,z,K,M⟩;cases f with
 |zero=>exact M.elim
 |succ f=>
  refine⟨(i,z),_,V,K,d_.RA K M λt C H2 X Z2 _ g N b=>?_⟩
  cases t with
  |false=>
   exact wb (b _ _ _ _ N)
  |true=>
   refine wc ⟨_,λk O q=>⟨f,by simp,q⟩,(i,C),_,Z2,N,?_⟩
   cases q:υ _ _ with
   |nx l e=>rw[q]at b;exact λk O D F G=>⟨_,F,_,_,G,b⟩
   |ct l e=>rw[q]at b;exact λk O D F G=>⟨_,F,_,_,G,b⟩
   |bk l e=>rwa[q]at b
   |rt d e=>rwa[q]at b
   |e x e=>rwa[q]at b
   |b=>rwa[q]at b
def Ek(h:L->f'->Prop)(e:D->a_->_o a_)(g:TG):=
 ∀d x a i j f Z l m b n H k,cJ h a i j f Z l m n H->au f Z H d x->e d m=J b->(∀c,cJ h a i j f Z l b c H->k c H)->g x n H k
variable{A6:D->a_->_o a_}
theorem yT(hp:Ű (B' c.prog c.w) c.A c.env c.xe)(hc:c.calm=_t)(hi:Bc c j w ξ n E2)(hg:PG c ξ w6)(O:Ek j A6 w6)(hb:jA c j w X3 υ)(hs:∀x,đ n c.env x=pure x):jr c j w (.For ξ n X3 [] o) (dW A6 E2 υ):=by
 intro P G K C M;have Q:j6 c X3 (λD F H=>∃m l p b e,PM j w _ l p υ _ _ D F H):=λpins s F H D I  zf =>xe zf λm R=>xe R λl T=>xe T λp U=>xe U λb V=>xe V λe q=>hb m l p b e _ s F H D I q
 refine PS.imp (Mf hp hc (hi P G K C M) hg Q hs) ?_;rintro E F H ⟨α,Z,S,f⟩;refine⟨α,Z,S,?_⟩;simp only[dW]at f;cases X:E2 C M with
 |e x a0=>rw[X]at f;exact λp m l w6 s=>f p _ l (S.gr.trans w6) s
 |b=>rwa[X]at f
 |ok g0 a0=>
  rw[X]at f;intro J p m l g1 s1 w1;have S1:=S.grow g1 s1;refine⟨λi f F H=>∃y N C M,cJ j _ G K y N M C F H/\b9 _ l p y N H/\d_ j w _ G K E (kP _ _ υ f i C M),⟨_,_,l,C,_,S1,b9.refl s1.has,f⟩,?_⟩
  rintro i f h0 H2 ⟨y,N,i0,j0,S2,g2,a⟩;cases f with
  |zero=>exact a.elim
  |succ f=>
   simp only[kP]at a;cases qs:du _ _ with
   |none=>rw[qs]at a;exact a.elim
   |some ds=>
    rw[qs]at a;dsimp only at a;obtain⟨b0,l0⟩:=w1 _ N _ H2 ds g2 S2.st qs;cases qd:ds[i]? with
    |none=>
     rw[qd]at a;exact .inl ⟨by simp_all,a _ H2 _ N S2⟩
    |some d=>
     rw[qd]at a;dsimp only at a;obtain⟨c0,d0⟩:=b0 i d qd;cases qp:A6 d _ with
     |none=>rw[qp]at a;exact a.elim
     |some m0=>
      rw[qp]at a;dsimp only at a;refine .inr ⟨c0,_,λh k q=>⟨f,by simp,q⟩,λx H3 yl=>?_⟩
      refine aH (d0 x H3 yl) λZ3 g3 s3 rx=>?_
      refine O d x _ G K _ Z3 _ _ _ _ H3 _ (S2.grow g3 s3) rx qp λo0 S4=>?_
      have base:=S1.gr;have gL:=g2.trans g3;have z:∀{e0 Z4 f0 b h k},cJ j _ l p _ Z4 _ _ _ k->cJ j _ G K e0 Z4 f0 b h k:=λg=>⟨g.st,base.trans g.gr,g.len,g.val⟩
      refine⟨_,l,p,_,_,_,Z3,⟨S4.st,gL,S4.len,S4.val⟩,?_⟩;cases q:υ _ _ with
      |nx b e=>rw[q]at a;exact λh k t u g=>⟨_,u,_,_,z g,g.gr,a⟩
      |ct b e=>rw[q]at a;exact λh k t u g=>⟨_,u,_,_,z g,g.gr,a⟩
      |bk b e=>rw[q]at a;exact λh k t u g=>a _ k _ u (z g)
      |rt d e=>rw[q]at a;exact λv k t u w6 s r=>a v k _ u (base.trans w6) s r
      |e x e=>rw[q]at a;exact λk t u w6 s=>a k _ u (base.trans w6) s
      |b=>rwa[q]at a
theorem Nc(i):Ek j (dv i) (kb i):=λd x a c f g Z l m b n H k S r e h=>by
 cases e;exact h _ (S.set r i)
theorem oU{m α a Z n o H p}:∀b c g {j}{e},aE (au α Z H) c g->c.length=b.length->cJ m a n p α Z o j e H->∀k,(∀f,cJ m a n p α Z o (ip b c j) f H->k f H)->ie b g e H k
 |[],[],g,j,e,r,_,S,k,h=>by rw[r.nil_inv];exact⟨Y,h e S⟩
 |i::b,d::c,g,j,e,r,l,S,k,h=>by
  obtain⟨v,q,rfl,s,t⟩:=r.cons_inv;exact⟨v,q,Y,oU b c q t (by simp_all) (S.set s i) k h⟩
 |[],_::_,_,_,_,_,l,_,_,_=>by simp at l
 |_::_,[],_,_,_,_,l,_,_,_=>by simp at l
theorem El(b):Ek j (fY b) (vS G b.length (ie b)):=λd x g o p q Z s t i u H k S r e h=>by
 cases d with
 |t l=>
  simp only[fY]at e;split at e
  .rename_i m
   cases e;obtain⟨a,c,rfl,_,n,f⟩:=dO r;exact⟨a,c,Y,vK (.inl n),by rwa[f.length],oU b l c f m S k h⟩
  .exact bD e
 |_=>exact bD e
theorem IF(t:PG c (.Tuple Z b o) (vS c.K π.length (ie π)))(u:DG n=_t)(h:ba c j w n p):jr c j w (.Assign [.Tuple Z b o] n T) (Eh π p):=by
 intro e k l m x;refine PS.imp (Mc (h e k l m x) t (by cases n<;>first|rfl) (by cases n<;>first|rfl | (cases u))) ?_
 rintro E y H ⟨z,a,S,f⟩;refine⟨z,a,S,d_.use S f λd A v q C s _ g D r i=>?_⟩
 split at i
 .rename_i F G
  exact El π d v _ k l _ s _ m _ y q _ D r G λI M=>i _ q _ s M
 .exact i.elim
abbrev az:=B D->aA->ax D
def bE(b:L->f'->Prop)(F:az):Sp:=λe H Q _=>∃a Z c d,bp b a Z c H/\aE (au a Z H) d e/\bC b j8 a Z H (F d c) Q
noncomputable def IG{a}(r:ax a):ax a:=match r with
 |.ok d b=>.ok d b
 |_=>.b
def aQ(F:az):az:=λa b=>IG (F a b)
structure Lb(X:Cx)(κ:L->f'->Prop)(k:Nat)(x:L)(F:az):Prop where
 ex:∃(f:f') (fd:Â) (ps:B L),X.mg x=J (.ref f)/\Î X.K (.ref f)=_t/\Binds X.K fd ps []/\bt X.prog X.w X.K X.mg X.base dZ k f fd ps (bE κ F)
noncomputable def pR(a:aA):D->_o (Nat×L×B (L×D))
 |.ref k=>match a[k]? with
  |J (.ins C fs)=>J (k,C,fs)
  |_=>_n
 |_=>_n
def bc(b:B L)(f:L)(x:D)(a:aA):ax D:=match pR a x with
 |J (_,C,c)=>if b.contains C then (match c.lookup f with
  |J d=>.ok d a
  |_n=>.b)else .b
 |_n=>.b
noncomputable def kQ(f:L)(v:D):B (L×D)->B (L×D)
 |[]=>[(f,v)]
 | (g,x)::r=>if g=f then (g,v)::r else (g,x)::kQ f v r
def aK(C m:L)(F:az)(d:EM)(as:AM):EM:=λc e=>(d c e).bind λx a=>match pR a x with
 |J (_,f,g)=>if f=C/\g.lookup m=_n then (as c a).bind λh b=>aQ F (x::h) b else .b
 |_n=>.b
noncomputable def gU(C:L)(F:az)(xs:B D)(a:aA):ax D:=match F (.ref a.length::xs) (a++[.ins C []])with
 |.ok .n b=>.ok (.ref a.length) b
 |_=>.b
def cx(e:B L)(f:L)(g h:EM):SM:=λb i=>cC (h b i) λy c=>cC (g b c) λx a=>match pR a x with
 |J (k,C,d)=>if e.contains C&&decide (d.length<1000)then .nx b (a.set k (.ins C (kQ f y d)))else .b
 |_n=>.b
def gV(x y v:D)(b:aA):_o aA:=match x with
 |.ref k=>match b[k]? with
  |J (.dK a)=>match kK y with
   |J c=>if small (a.length+1)then J (b.set k (.dK (dh a c v)))else _n
   |_n=>_n
  |J (.dT a)=>match qK y with
   |J c=>if small (a.length+1)then J (b.set k (.dT (dh a c v)))else _n
   |_n=>_n
  |J (.l d)=>match y with
   |.int i=>match L2.tT d.length i with
    |J n=>J (b.set k (.l (d.set n v)))
    |_n=>_n
   |_=>_n
  |_=>_n
 |_=>_n
def dY(f g h:EM):SM:=λa i=>cC (h a i) λv b=>cC (f a b) λx c=>cC (g a c) λy d=>match gV x y v d with
 |J e=>.nx a e
 |_n=>.b
theorem bC.ok0(h:bC j w z v e (IG X1) Ξ):bC j j8 z v e X1 Ξ:=by
 cases X1 with
 |ok d a=>exact h
 |e x a=>exact h.elim
 |b=>exact h
variable{r:az}
theorem Bf(F0:Lb c j b d r)(e:bF b c.A)(i:Gl c d)(a:(d==("__debug__"))=_d):ba c j w (.Call (.Name d T) [] [] o) (mN (aQ r) aj):=by
 refine bG F0.ex λf u x k l m F1=>?_
 intro n y z C p
 refine PE.imp (by
   intro pins s q H Q I h;refine ÿ (dM I i k (abG I.ej l (rJ F1 e m .nil mh I .nil h)) a)) ?_
 rintro q H Q ⟨t,Z,S,g⟩;exact⟨t,Z,p,[],S.st,.nil,bC.ok0 g⟩
theorem ed:∀{c}{b},fF M6 c b->(∀a,c.lookup d=J a->∃v,b.lookup d=J v/\M6 a v)/\(c.lookup d=_n->b.lookup d=_n):=by
 intro c b h
 induction h with
 |nil=>simp
 |@cons p q g i r t e=>
  obtain⟨k,a⟩:=p;obtain⟨f,v⟩:=q;obtain⟨rfl,r⟩:k=f/\M6 a v:=r;rw[Ę,Ę];cases d==k with
  |true=>exact⟨λ_ h=>by cases h;exact⟨_,Y,r⟩,λh=>nomatch h⟩
  |false=>exact e
variable{A5:B (L×V)}{U1:B (L×D)}
theorem uU(r:M6 h O)(a:fF M6 U1 A5):fF M6 (kQ d h U1) (hX d O A5):=by
 induction a with
 |nil=>exact .cons ⟨Y,r⟩ .nil
 |@cons p q g i b t c=>
  obtain⟨b,f⟩:=b;obtain⟨k,h⟩:=p;obtain⟨j,l⟩:=q;cases b;simp only[kQ,hX]
  by_cases e:k=d
  .rw[if_pos e,if_pos e];exact .cons ⟨Y,r⟩ t
  .rw[if_neg e,if_neg e];exact .cons ⟨Y,f⟩ c
theorem gW(S:bp j z v a e)(r:au z v e h O)(c:pR a h=J (b,C,U1)):∃d g dx f,O=.ref d/\h=.ref b/\z[b]?=J d/\j C g/\e d=J (.ins g dx f)/\fF (au z v e) U1 f:=by
 cases h with
 |ref n=>
  simp only[pR]at c;split at c
  .rename_i t f m
   refine bN r λd l o=>bN (S.cell m) λu i k=>cD k λg dx f p q s=>?_
   cases c;cases l.symm.trans i
   exact⟨d,g,dx,f,o,Y,l,p,q,s⟩
  .exact bD c
 |_=>exact bD c
def jQ(K)(b:L->f'->Prop)(c:B L)(f):=∀C a,c.contains C=_t->b C a->pG K a/\cZ K a f
theorem yU(h:jQ c.K j l d)(i:ý n d c.env (eval n c.env)=eval n c.env)(m:ba c j w n p):ba c j w (.Attribute n d o) (m1 (bc l d) p):=
 fU (λM q=>Mn q i) m λdx x N Z O H Q S r g=>by
  unfold bc at g;split at g
  .rename_i k C P s
   refine bu (gW S r s) λa f dx t e _ _ u y z=>?_;subst e
   split at g
   .rename_i A
    obtain⟨D,E⟩:=h C f A u;split at g
    .rename_i b F
     refine bN ((ed z).1 b F) λv G I=>⟨a,f,dx,_,v,Y,y,D,E,G,bC.ret S I g⟩
    .exact g.elim
   .exact g.elim
  .exact g.elim
def Lc(P w K)(j:L->_o g')(base)(d:L->f'->Prop)(k C m)(F:az)(c f e)(g:B L):=
 (∀a,d C a->a=c)/\pG K c/\Meth K c m f/\∃h b i F1,Binds K e g h/\Vals b h/\(∀l Z H,aE (au l Z H) i b)/\bt P w K j base dZ k f e g (bE d F1)/\F=λn=>F1 (n++i)
structure yV(X:Cx)(κ:L->f'->Prop)(k:Nat)(C m:L)(F:az):Prop where
 ex:∃(Ca f:f') (fd:Â) (ps:B L),Lc X.prog X.w X.K X.mg X.base κ k C m F Ca f fd ps
theorem Em(M:yV c j b C d r)(K:bF b c.A)(N:ba c j w ξ p)(O:mH c j w (n::Z) Q0){pl}(l:D' (n::Z) c.env=(_d,eval n c.env)::D' Z c.env)(m:(À o (D' Z c.env)).any (·.1)=_d)(P:eval (.Call (.Attribute ξ d T) (n::Z) [] o) c.env=(do
   let D ←eval ξ c.env
   û T.atName
   let (f,first) ←ô [D] (Ď D d pl)
   ĕ o f first (À o (D' (n::Z) c.env)) (ö o (ø [] c.env)))):
  ba c j w (.Call (.Attribute ξ d T) (n::Z) [] o) (aK C d r p Q0):=by
 obtain⟨Ca,f,fd,ps,R,q,U,V,X,Dd,F0,hb,s,hD,F1,rfl⟩:=M.ex;intro h E F G Ω;refine PE.imp (GV (N h E F G Ω) q U F1 K hb s mh (PA.ex λi=>O h E F G i) l m P) ?_
 rintro σ H Q ⟨α,e,S,g⟩;refine⟨α,e,S,bC.use g λx i _ v H1 a0 Z1 g1 t I k=>?_⟩
 split at k
 .rename_i u C' fs hk
  split at k
  .rename_i hc
   obtain⟨rfl,hl⟩:=hc;refine bu (gW t I hk) λa b0 dx c0 y z _ q1 q2 q3=>?_;subst y;subst z
   obtain rfl:=R _ q1;refine⟨a,dx,_,Y,q2,(ed q3).2 hl,_,_,Z1,S.grow g1 t,pH.use k λxs d0 _ vs H2 e0 Z2 g2 s2 r2 k2=>⟨_,Z2,_,_,s2,.cons (t.cE g2 I) (r2.append (hD _ _ _)),bC.ok0 k2⟩⟩
  .exact k.elim
 .exact k.elim
theorem Bg(M:yV c j b C d r)(u:bF b c.A)(y:ba c j w n p){pl}(z:eval (.Call (.Attribute n d T) [] [] o) c.env=(do
   let q ←eval n c.env
   û T.atName
   let (f,first) ←ô [q] (Ď q d pl)
   ĕ o f first (À o (D' [] c.env)) (ö o (ø [] c.env)))):
  ba c j w (.Call (.Attribute n d T) [] [] o) (aK C d r p aj):=by
 obtain⟨Ca,f,fd,ps,D,h,E,F,G,Dd,F0,I,i,K,F1,rfl⟩:=M.ex;intro k N O P R;refine PE.imp (Ck (y k N O P R) h E F1 u I i mh z) ?_;rintro σ H Q ⟨U,Z,S,g⟩;refine⟨U,Z,S,bC.use g λx V _ v H1 X Z1 g1 s t e=>?_⟩
 split at e
 .rename_i l C' fs hk
  split at e
  .rename_i hc
   obtain⟨rfl,hl⟩:=hc;refine bu (gW s t hk) λa a0 dx b0 m c0 _ q1 q2 q3=>?_;subst m;obtain rfl:=D _ q1
   exact⟨a,dx,_,Y,q2,(ed q3).2 hl,_,Z1,_,_,s,.cons t (K _ _ _),bC.ok0 e⟩
  .exact e.elim
 .exact e.elim
structure Ld(X:Cx)(κ:L->f'->Prop)(k:Nat)(C:L)(F:az):Prop where
 ex:∃(Ca f:f') (fd:Â) (ps:B L),κ C Ca/\Mk X.K Ca f/\X.mg C=J (.ref Ca)/\Binds X.K fd ps []/\bt X.prog X.w X.K X.mg X.base dZ k f fd ps (bE κ F)
theorem uV(f:bp j z v a e)(k:aE (au z v e) q η)(l:j C i)(g:bC j w z v e (gU C r q a) Ξ)(M:e S=_n)(m:e P0=_n)(n:P0≠S):
  bE j r (.ref S::(η++[])) (upd (upd e P0 (.own S)) S (.ins i P0 [])) (λh A=>h=.n/\Ξ (.ref S) A) E0:=by
 rw[Ć];obtain⟨s,D⟩:=f.qH m False;have o:upd e P0 (.own S) S=none:=by rwa[av (Í n)]
 obtain⟨t,E⟩:=s.laid (c:=.ins C []) o λR N=>⟨i,P0,[],l,aD,.nil⟩
 have u:=D.trans E;have x:au _ v (upd (upd e P0 (.own S)) S (.ins i P0 [])) _ _:=eu s S;refine⟨_,v,_,_,t,.cons x (f.mq u k),?_⟩;unfold gU at g;cases b:r _ _ with
 |ok d p=>
  rw[b]at g;cases d with
  |n=>
   intro h F G H y I K;exact⟨K,g _ F _ H (u.trans y) I (t.cE y x)⟩
  |_=>exact g.elim
 |e S p=>rw[b]at g;exact g.elim
 |b=>rwa[b]at g
theorem En(M:Ld c j b C r)(l:bF (b+1) c.A)(m:Gl c C)(a:(C==("__debug__"))=_d):ba c j w (.Call (.Name C T) [] [] o) (mN (gU C r) aj):=by
 refine cg M.ex λy f z D d k n p F1=>?_
 intro q E F G K
 refine PE.imp (by
   intro pins s t H Q I h;refine ÿ (dM I m n (abG I.ej k.kp (ud k F1 l p .nil mh I .nil h)) a)) ?_
 rintro t H Q ⟨N,Z,S,g⟩;exact λx dx u e i=>uV S.st .nil d g u e i
theorem IH(G:jQ c.K j l d)(I:ì n (J (.Attribute ξ d T)) o.line c.env=pure _d)(M:ba c j w ξ p)(N:ba c j w n ς):jr c j w (.Assign [.Attribute ξ d T] n o) (cx l d p ς):=by
 intro b s t A O;refine PS.imp (Mo (PE.ex λe=>M b s t A e) (N b s t A O) I) ?_
 rintro E P H ⟨Q,Z,S,d⟩;refine⟨Q,Z,S,d_.use S d λy e v H1 U V _ g1 g X f1=>⟨_,_,V,g,d_.use g f1 λx a0 h H2 b0 Z2 _ g2 i r2 f=>?_⟩⟩
 split at f
 .rename_i k C fs hk
  refine bu (gW i.st r2 hk) λa m dx c0 q d0 h0 D h2 F=>?_;subst q;split at f
  .rename_i r
   simp only[Õ,decide_eq_true_eq]at r;obtain⟨c1,c2⟩:=G C m r.1 D;obtain⟨s3,g3⟩:=i.st.put (c:=.ins C _) h0 (λξ u z=>by simp_all) λR hR=>⟨m,dx,_,D,aD,(uU (g.st.cE g2 X) F).imp hR⟩
   exact⟨a,m,dx,_,Y,h2,c1,c2,by rw[fF.length F];exact r.2,f P _ _ Z2 (i.grow g3 s3)⟩
  .exact f.elim
 .exact f.elim
def Le(H a y v c):=ui H a y v c\/∃b k j,y=.int k/\H a=J (.l b)/\tT b.length k=J j/\c=upd H a (.l (b.set j v))
def Nd(d e f:TE):TS:=λD b H=>f b H λv g=>d b g λx h=>e b h λy i=>∃a c,x=.ref a/\Le i a y v c/\D.nx b c
variable{k9:TE}
theorem Eo(p:c.A.units+1<Æ)(q:PE c n u0)(t:PE c ξ E3)(w:PE c M3 k9)(z:ì M3 (J (.Subscript n ξ T)) o.line c.env=pure _d):
  PS c (.Assign [.Subscript n ξ T] M3 o) (Nd u0 E3 k9):=by
 intro pins s b H D I h;refine wpAny_Assign_Subscript (bO (w _ s b H _ I h) λr C d=>?_) z;obtain⟨v,E,F,e,G⟩:=d;refine bO (q _ C b E _ F G) λu K d=>?_;obtain⟨x,M,N,f,O⟩:=d;refine bO (t _ K b M _ N O) λiv P d=>?_;obtain⟨y,Q,i,l,a,R,S,g,m⟩:=d
 subst S;rcases g with g|⟨U,k,j,rfl,V,X,rfl⟩
 .obtain rfl:u=Ë a:=f
  exact Ap p i g l e λZ I4=>⟨b,R,I4,m⟩
 .exact bO (set_list _ P b Q _ _ _ _ _ _ _ i f l e ⟨a,U,k,j,Y,Y,V,X,m⟩) λ_ Z ⟨H5,I5,q5⟩=>⟨b,H5,I5,q5⟩
theorem aE.RB{α c R}{a:α}{b:c}:∀{as}{bs}{n},aE R as bs->R a b->aE R (as.set n a) (bs.set n b)
 |_,_,_,.nil,_=>.nil
 |_::_,_::_,0,.cons _ t,r=>.cons r t
 |_::_,_::_,n+1,.cons q t,r=>.cons q (aE.RB t r)
theorem Ep{u}(S:bp j z v a e)(M:au z v e h O)(D:au z v e ε D3)(E:au z v e X4 u)(d:gV h ε X4 a=J x):∃f F,O=.ref f/\Le e f D3 u F/\bp j z v x F/\b9 z v e z v F:=by
 cases h with
 |ref k=>
  simp only[gV]at d;obtain⟨f,q,rfl⟩:=M;split at d
  .rename_i G r
   obtain⟨K,g,s,w,m⟩:=S.cell r;rw[q]at g;cases g
   split at d
   .rename_i H p
    obtain rfl:=gR p D;split at d
    .rename_i I
     cases d;have:=bA I;obtain⟨y,A⟩:=S.put (c:=.dK _) q (λo u l=>by simp_all) λR C=>⟨_,aD,(m.put H E).imp C⟩
     exact⟨f,_,Y,.inl (ui.k w (by rw[m.length];exact this)),y,A⟩
    .exact bD d
   .exact bD d
  .rename_i G r
   obtain⟨K,g,s,w,m⟩:=S.cell r;rw[q]at g;cases g
   split at d
   .rename_i H p
    obtain⟨b,rfl,N⟩:=lE p D;split at d
    .rename_i I
     cases d;have:=bA I;obtain⟨y,A⟩:=S.put (c:=.dT _) q (λo u l=>by simp_all) λR C=>⟨_,aD,(m.put H E).imp C⟩
     exact⟨f,_,Y,.inl (ui.t w N (by rw[m.length];exact this)),y,A⟩
    .exact bD d
   .exact bD d
  .rename_i Q r
   obtain⟨K,g,P,w,m⟩:=S.cell r;rw[q]at g;cases g
   split at d
   .rename_i i
    split at d
    .rename_i n T
     cases d;cases (D);obtain⟨y,A⟩:=S.put (c:=.l _) q (λo u l=>by simp_all) λR C=>⟨_,aD,(aE.RB m E).imp C⟩
     exact⟨f,_,Y,.inr ⟨P,i,n,Y,w,by rwa[m.length],Y⟩,y,A⟩
    .exact bD d
   .exact bD d
  .exact bD d
 |_=>exact bD d
theorem Er(z:c.A.units+1<Æ)(C:ba c j w ξ ς)(D:ba c j w M3 V4)(F:ba c j w n p)(G:ì n (J (.Subscript ξ M3 T)) o.line c.env=pure _d):jr c j w (.Assign [.Subscript ξ M3 T] n o) (dY ς V4 p):=by
 intro e h i k I;refine PS.imp (Eo z (PE.ex λb=>C e h i k b) (PE.ex λb=>D e h i k b) (F e h i k I) G) ?_
 rintro E K H ⟨M,Z,S,f⟩;refine⟨M,Z,S,d_.use S f λd b v H1 N O _ g1 l P Q=>⟨_,_,O,l,d_.use l Q λx R m H2 U V _ X g r2 f2=>⟨_,_,V,g,d_.use g f2 λy a0 u H3 b0 Z3 _ r s r3 q=>?_⟩⟩⟩
 split at q
 .rename_i c0 hq
  obtain⟨a,t,rfl,h1,s4,g4⟩:=Ep s.st (g.st.cE r r2) r3 (g.st.cE r (l.st.cE X P)) hq;exact⟨a,t,Y,h1,q K t _ Z3 (s.grow g4 s4)⟩
 .exact q.elim
theorem Bh:ba c j w (.Dict [] [] o) (λ_ a=>fG a (.dK [])):=by
 intro b h i k a;refine PE.imp Cy ?_;rintro l H Q ⟨m,Z,S,g⟩ p d;obtain⟨e,f⟩:=S.st.laid (c:=.dK []) d λR n=>⟨[],aD,.nil⟩
 exact g _ _ _ Z f e (eu S.st p)
theorem Bi:ba c j w (.Dict [] [] o) (λ_ a=>fG a (.dT [])):=by
 intro b h i k a;refine PE.imp Cz ?_;rintro l H Q ⟨m,Z,S,g⟩ p d;obtain⟨e,f⟩:=S.st.laid (c:=.dT []) d λR n=>⟨[],aD,.nil⟩
 exact g _ _ _ Z f e (eu S.st p)
noncomputable def c7(n:Nat)(a:B D):a_:=a.map J++ź (n - a.length) _n
noncomputable def Bj:eA->ax D
 |.rt d Ω=>.ok d Ω
 |.nx _ Ω=>.ok .n Ω
 |.e x Ω=>.e x Ω
 |_=>.b
def aw(n k:Nat)(c:SM):az:=λa b=>if a.length=k then Bj (c (c7 n a) b)else .b
theorem iq(S:bp j z v a e)(r:aE (au z v e) q η):cJ j z v e z v a (c7 l.length q) (L2.start l η) e where
 st:=S
 gr:=b9.refl S.has
 len:=by simp[c7,L2.start,r.length]
 val:=λi d b=>by
  unfold c7 at b
  by_cases h:i<q.length
  .rw[ë (by simp_all),Ü]at b
   obtain⟨g,f,k⟩:=È.mp b;obtain⟨c,m,n⟩:=r.get f;unfold L2.start
   grind
  grind
def II(e f:TE):TE:=λc H Q=>∀p,H p=_n->e c (upd H p (.dT [])) λx g=>f c g λy a=>a p=J (.dT [])/\∃b d,x=.ref b/\a b=J (.t (d.map kV))/\Q (.ref p) (upd a p (.dT (putK [] d y)))
theorem Bk(F:c.A.units+1<Æ)(G:PE c n u0)(K:PE c ξ E3):PE c (.Dict [J n] [ξ] o) (II u0 E3):=by
 intro pins s M H Q I q;have N:=I.hok.fresh (R' s.heap.objs.size);have O:=I.laid (o:=.dT []) (t':=s.toks) (λ_ _ q=>Y' _ q) (R' _) (uk s.heap I.big)
 have P:Vb c o [J n] [ξ] [(u0,E3)]:=CB G K Hg;refine wpAny_Dict_any Y Y (by simp) (by simp) (bO (P pins _ M _ (λi f=>match i with|[(x,y)]=>f s.heap.objs.size=J (.dT [])/\∃b a,x=.ref b/\f b=J (.t (a.map kV))/\Q _ (upd f s.heap.objs.size (.dT (putK [] a y)))|_=>False) O (q _ N)) λws s2 j=>?_)
 obtain⟨i,f,k,d,g⟩:=j;split at g
 .rename_i x y
  obtain⟨e,b,a,rfl,C,R⟩:=g;cases d with
  |@cons p S i T r t=>
   cases t;obtain⟨U,V⟩:=r;obtain⟨w1,w2⟩:=S;cases (U);obtain⟨z,X,xs,d,Z⟩:=KI k.hok e;cases d;refine j' (j' (wpAny_dictSet_heap ?_ (lp k.hok C) Z λh' l hs=>?_))
   .show c.A.units<Æ
    exact â (à _ _) F
   .refine I' ?_
    dsimp only;refine I' ?_;obtain⟨D,es,ep,E,j,g,h4,_,h5⟩:=l
    have hl:(putK ([]) a y).length<=U':=by
     have:=el ([]) a y;rw[ą];exact fc this
    have h:KT f _ []:=.nil
    have m:cu c.prog c.w (upd f s.heap.objs.size (.dT (putK [] a y))) h' s.heap.objs.size (.dT (putK [] a y)):=⟨hl,X,_,(h.put a C V).keeps λu ys ec=>by
     rw[av (by grind)]
     exact ec,D,es,ep,E,j,g,h4,h5⟩
    exact⟨.ref s.heap.objs.size,_,kr k (by rw[e];exact ü) hs ⟨D,E⟩ m,Y,R⟩
 .exact g.elim
def jt(e f:EM):EM:=λd b=>(e d (b++[.dT []])).bind λy c=>(f d c).bind λv a=>match a[b.length]?,qK y with
 |J (.dT []),J g=>.ok (.ref b.length) (a.set b.length (.dT (dh [] g v)))
 |_,_=>.b
theorem wR(hu:c.A.units+1<Æ)(hk:ba c j w n p)(hv:ba c j w ξ ς):ba c j w (.Dict [J n] [ξ] o) (jt p ς):=by
 intro h E F G I;refine PE.imp (Bk hu (PE.ex λf=>hk h E F G f) (PE.ex λf=>hv h E F G f)) ?_
 rintro σ H Q ⟨K,Z,S,g⟩ e hp;obtain⟨M,N⟩:=S.st.laid (p:=e) (o:=.dT []) (c:=.dT []) hp λR O=>⟨[],aD,.nil⟩
 have P:=S.grow N M;have rp:au (K++[e]) Z (upd H e (.dT [])) (.ref I.length) (.ref e):=eu S.st e;have g:=bC.from N g
 unfold jt at g;refine⟨I++[.dT []],K++[e],Z,P,bC.use g λy l _ m H2 q Z2 T r r2 k2=>⟨l,q,Z2,P.grow T r,k2.use λd a0 _ u H3 b0 Z3 U V r3 s=>?_⟩⟩
 split at s
 .rename_i t hc hks
  have x:=r.cE U (M.cE T rp);obtain⟨a,C,ea⟩:=x;cases ea;obtain⟨a',i,k,X,h2⟩:=V.cell hc;rw[C]at i;cases i;have hn:=fF.length h2;obtain rfl:k=[]:=aer (by simpa using hn)
  obtain⟨b,rfl,hb⟩:=lE hks (r.cE U r2);refine⟨X,b,t,Y,hb,?_⟩;obtain⟨s4,g4⟩:=V.put (c:=.dT (dh [] t d)) C (λD u z=>by rw[X]at z;cases z) λR O=>⟨_,aD,(h2.put t r3).imp O⟩
  refine s _ _ _ _ g4 s4 ?_;exact⟨e,C,Y⟩
 .exact s.elim
structure uW(P:W')(w:T')(K:G')(mg:L->_o g')(base:F')(κ:L->f'->Prop)(k:Nat)(j:Nat)(F:B D->az):Prop where
 run:∀(X:Cx) (f:f') (vs:B V) (σ:L2.St) (H:Hp) (Q:VK) (α:B f') (Z:f'->Prop) (Ω:aA) (AS ds:B D) (n:Nat),X.prog=P->X.w=w->X.K=K->X.mg=mg->X.base=base->bF k X.A ->
  bp κ α Z Ω H->α[n]?=J f->Ω[n]?=J (.fn j AS)->aE (au α Z H) ds vs->bC κ j8 α Z H (F AS ds Ω) Q->QJ X f vs σ H Q
theorem uW.mono{P w K a base b k c j F}(h:uW P w K a base b k j F)(d:k<=c):uW P w K a base b c j F:=
 ⟨λX f e g H Q i Z l AS m n o e2 p e4 q r=>h.run X f e g H Q i Z l _ m n o e2 p e4 q (r.mono d)⟩
noncomputable def isFn(a:aA)(n:Nat):Bool:=match a[n]? with
 |J (.fn _ _)=>_t
 |_=>_d
noncomputable def oV(x:D)(xs:B D)(a:aA):ax D:=match x,xs with
 |.str z,[.str y]=>match Ě z y 0 z.length 1 with
  |i::_=>.ok (.int i) a
  |[]=>.b
 |_,_=>.b
theorem IJ(S:bp j z v a e)(r:au z v e h O)(d:aE (au z v e) q η)(g:bC j w z v e (oV h q a) Ξ):yy O η e Ξ:=by
 unfold oV at g;split at g
 .rename_i b y
  obtain⟨u,rfl,c⟩:=dP d;simp only[au]at r c;subst r;subst c;split at g
  .rename_i i f k
   exact⟨b,y,i,f,Y,Y,k,bC.ret S (aM Y) g⟩
  .exact g.elim
 .exact g.elim
def PN(xs:B D)(b:aA):ax D:=match xs with
 |[x,y]=>match dq b x,dq b y with
  |J c,J d=>match bq kK c with
   |J e=>fG b (.dK ((e.zip d).foldl (λa p=>dh a p.1 p.2) []))
   |_n=>.b
  |_,_=>.b
 |_=>.b
theorem yW{α Z H}:∀(ks:B Key) {a}{b},aE (au α Z H) a b->fF (au α Z H) (ks.zip a) (ks.zip b)
 |[],_,_,_=>.nil
 |_::_,_,_,.nil=>.nil
 |k::ks,_,_,.cons r t=>.cons ⟨Y,r⟩ (yW ks t)
variable{m6:B (Key×D)}
theorem Es{b}(c:fF (au z v e) m6 b)(q:fF (au z v e) U B5):fF (au z v e) (U.foldl (λa p=>dh a p.1 p.2) m6) (B5.foldl (λa p=>putK a p.1 p.2) b):=by
 unfold fF at q
 induction q generalizing m6 b with
 |nil=>exact c
 |@cons p q _ _ d _ f=>
  simp only[aa7];refine f ?_;rw[d.1];exact c.put q.1 d.2
theorem RC(S:bp j z v a e)(i:aE (au z v e) q η)(g:bC j w z v e (PN q a) Ξ):∃(c b:f') (ks:B Key) (d:B V),η=[.ref c,.ref b]/\Rd e c (.l (ks.map kV))/\Rd e b (.l d)/\∀p,e p=_n->Ξ (.ref p) (upd e p (.dK ((ks.zip d).foldl (λc p=>putK c p.1 p.2) []))):=by
 unfold PN at g;split at g
 .split at g
  .rename_i y A k l
   split at g
   .rename_i ks m
    obtain⟨f,h,rfl,n,o⟩:=sO i;obtain⟨c,r,rfl,s,t⟩:=bx S n k;obtain⟨b,d,rfl,u,x⟩:=bx S o l;obtain rfl:=oG m t;exact⟨c,b,ks,d,Y,s,u,oO S (Es .nil (yW ks x)) g⟩
   .exact g.elim
  .exact g.elim
 .exact g.elim
variable{E5:K'}
theorem Et(f:c.calm=_t)(h:Gl c "dict")(i:c.mg "dict"=_n)(a:Gl c "zip")(b:c.mg "zip"=_n)(k:mH c j w [n,ξ] Q0)(l:D' [n,ξ] c.env=(_d,eval n c.env)::D' [ξ] c.env)(d:(À E5 (D' [ξ] c.env)).any (·.1)=_d):
  ba c j w (.Call (.Name "dict" o) [.Call (.Name "zip" T) [n,ξ] [] E5] [] P1) (mN PN Q0):=by
 intro e m p q r;refine PE.imp (HD f h i a b (k e m p q r) l d) ?_;rintro A H Q ⟨s,Z,S,g⟩;exact⟨s,Z,S,pH.use g λC t _ D E u F G x y z=>RC x y z⟩
noncomputable def RD(x:L)(args:B p'):_o {r:p'×p'×K' // x="dict"/\∃p,args=[.Call (.Name "zip" p) [r.1,r.2.1] [] r.2.2]}:=match args with
 |[.Call (.Name y p) [a,b] [] c]=>if h:(x==("dict")&&y==("zip"))=_t then J ⟨(a,b,c),eq_of_beq (Ø.mp h).1,p,by rw[eq_of_beq (Ø.mp h).2]⟩else _n
 |_=>_n
def RE(x args):=(RD x args).map (·.1)
theorem Eu(h:RE d Z=J (n,ξ,o)):d="dict"/\∃p,Z=[.Call (.Name "zip" p) [n,ξ] [] o]:=by
 obtain⟨⟨_,h⟩,_,e⟩:=È.mp h;cases e;exact h
def Lf(x:D)(b:aA):ax D:=match sJ b x with
 |J a=>fG b (.l (a.map λc=>.t [fK c.1,c.2]))
 |_n=>.b
theorem IK(r:fF (au z v e) U B5):∀{k}{f}{d},b9 z v e z k f->bp j z v a e->bp j z k a f->d.map (·.2)=B5.map (λl=>[kV l.1,l.2])->(∀p∈d,f p.1=_n)->(d.map (·.1)).Pairwise (· < ·) ->
  ∃m,bp j z m a (kz f d)/\b9 z k f z m (kz f d)/\aE (au z m (kz f d)) (U.map λl=>.t [fK l.1,l.2]) (d.map λp=>.ref p.1):=by
 unfold fF at r
 induction r with
 |nil=>
  intro k f d g s S c t n;cases d with
  |nil=>exact⟨k,S,b9.refl S.has,.nil⟩
  |cons q d=>simp at c
 |@cons l h U B5 w _ A=>
  intro k f d g s S c t n;cases d with
  |nil=>simp at c
  |cons q d=>
   obtain⟨b,G⟩:=q;simp only[Ù,aeW]at c;obtain⟨C,e2⟩:=c;subst C;rw[Ù,List.pairwise_cons]at n;obtain⟨u,o⟩:=S.qH (i:=b) (T2:=.t [kV h.1,h.2]) (t _ (.head _)) True;simp only[if_true]at u o
   obtain⟨m,D,x,E⟩:=A (g.trans o) s u e2 (λq y=>by
    have F:q.1≠b:=Þ (n.1 _ (aa9 y));rw[av F];exact t q (.tail _ y)) n.2
   refine⟨m,D,o.trans x,.cons (u.cE x ?_) E⟩;refine⟨b,_,Y,.inr Y,aD,cj.mpr (.cons ?_ (.one (s.cE (g.trans o) w.2)))⟩;rw[w.1];cases h.1<;>simp only[fK,kV,au]
theorem RF(S:bp j z v a e)(k:au z v e h O)(g:bC j w z v e (Lf h a) Ξ):XQ Ξ O e:=by
 unfold Lf at g;split at g
 .rename_i m n
  obtain⟨c,f,rfl,d,r⟩:=iV S k n;refine⟨c,f,Y,d,λl o q s i t=>?_⟩
  obtain⟨A,u,x,y⟩:=IK r (b9.refl S.has) S S q (λp b=>(i p b).1) t
  exact gO u y (bC.from x g) l (by rw[oo o λp b=>X' (i p b).2];exact s)
 .exact g.elim
theorem wU(d:c.calm=_t)(e:Gl c "list")(f:c.mg "list"=_n)(a:ý n "items" c.env (eval n c.env)=eval n c.env)(b:(P1.endLine==E5.line)=_t)(i:ba c j w n p):
  ba c j w (.Call (.Name "list" o) [.Call (.Attribute n "items" P1) [] [] E5] [] T) (m1 Lf p):=
 fU (r:=λx H Q=>XQ Q x H) (λl h=>Az d e f a b h) i λdx x m Z q H Q S k g=>RF S k g
set_option backward.match.sparseCases false in
noncomputable def RG(x:L)(args:B p'):_o {r:p'×K'×K' // x="list"/\args=[.Call (.Attribute r.1 "items" r.2.1) [] [] r.2.2]/\(r.2.1.endLine==r.2.2.line)=_t}:=match args with
 |[.Call (.Attribute a y apos) [] [] cpos]=>if h:(x==("list")&&(y==("items")&&(apos.endLine==cpos.line)))=_t then J ⟨(a,apos,cpos),eq_of_beq (Ø.mp h).1,by rw[eq_of_beq (Ø.mp (Ø.mp h).2).1],(Ø.mp (Ø.mp h).2).2⟩else _n
 |_=>_n
def RH(x args):=(RG x args).map (·.1)
theorem Ew(h:RH d Z=J (n,o,T)):d="list"/\Z=[.Call (.Attribute n "items" o) [] [] T]/\(o.endLine==T.line)=true:=by
 obtain⟨⟨_,h⟩,_,e⟩:=È.mp h;cases e;exact h
def Lg:V->B V->Hp->VK->Prop:=λx c H Q=>∃a b k v,x=.ref a/\c=[kV k]/\H a=J (.dK b)/\jy b k=J v/\Q v (upd H a (.dK (nV b k)))
theorem IL:Mu c "dict.pop" Lg:=by
 intro pins s m H x n v o Q I b d h;obtain⟨a,e,k,y,rfl,rfl,f,g,q⟩:=h;cases b;obtain⟨u,rfl,i⟩:=d.one;exact QE I f i g (.inl Y) λp r j l=>⟨y,_,j,l,q⟩
noncomputable def wV(a:aA)(x:D):=match x with
 |.ref k=>match a[k]? with
  |J (.dK _)=>_t
  |_=>_d
 |_=>_d
def oW(x:D)(xs:B D)(b:aA):ax D:=match x,xs with
 |.ref k,[y]=>match b[k]?,kK y with
  |J (.dK a),J c=>match aN a c with
   |J d=>.ok d (b.set k (.dK (gQ a c)))
   |_n=>.b
  |_,_=>.b
 |_,_=>.b
theorem IP(S:bp j z v a e)(r:au z v e h O)(b:wV a h=_t):PF G "dict" O e:=by
 unfold wV at b;split at b
 .obtain⟨c,g,rfl⟩:=r
  split at b
  .rename_i i k
   obtain⟨l,d,f,m,n⟩:=S.cell k;rw[g]at d;exact .inr (by grind)
  .cases b
 .cases b
theorem IQ(S:bp j z v a e)(r:au z v e h O)(t:aE (au z v e) q η)(g:bC j w z v e (oW h q a) Ξ):Lg O η e Ξ:=by
 unfold oW at g;split at g
 .obtain⟨b,m,rfl⟩:=r
  obtain⟨i,M,rfl,x,y⟩:=t.cons_inv;obtain rfl:=y.nil_inv;split at g
  .rename_i A k C D
   obtain rfl:=gR D x;obtain⟨N,f,n,E,p⟩:=S.cell C;rw[m]at f;cases f
   split at g
   .rename_i d F
    obtain⟨u,G,H⟩:=(p.val k).1 d F;obtain⟨I,s⟩:=S.put (c:=.dK _) m (λo u l=>by grind) λR K=>⟨_,aD,(p.drop k).imp K⟩
    exact⟨b,_,k,u,Y,Y,E,G,g u _ _ _ s I (S.cE s H)⟩
   .exact g.elim
  .exact g.elim
 .exact g.elim
noncomputable def aa(i:Nat):EM:=λa b=>match a[i]? with|J (J d)=>.ok d b|_=>.b
noncomputable def ai(d:D):EM:=λ_ a=>.ok d a
def cp:EM:=λ_ a=>fG a (.dK [])
def Nf:EM:=λ_ a=>fG a (.dT [])
noncomputable def o2{α c d:Type}(x:_o α)(y:_o c)(k:α->c->d):=match x,y with
 |J a,J b=>J (k a b)
 |_,_=>_n
theorem sQ{α c d x y}{k:α->c->d}{z}(h:o2 x y k=J z):∃a b,x=J a/\y=J b/\z=k a b:=by
 unfold o2 at h
 grind
theorem c_{α b:Type}{x}{k:α->b}{z}(h:x.map k=J z):∃a,x=J a/\z=k a:=by
 cases x with
 |none=>exact bD h
 |some a=>simp_all
section
variable{α β γ:Type}{P:γ->Prop}{p:Prop}{x:_o α}{u:_o γ}{y:_o β}{z w:γ}{c:Bool}
def BQ{k}(h:o2 x y k=J z)(K:∀a b,x=J a->y=J b->P (k a b)):=
 aP (sQ h) λa b c d e=>e▸K a b c d
def Lh{c}{w:_o c}{k}(h:o2 x (o2 y w ģ) k=J z)(K:∀a b d,x=J a->y=J b->w=J d->P (k a (b,d))):=
 BQ h λa _ e f=>BQ (P:=λq=>P (k a q)) f λb d g i=>K a b d e g i
def Ng{k}(h:x.map k=J z)(K:∀a,x=J a->P (k a)):=
 bN (c_ h) λa b e=>e▸K a b
theorem mL{f}(h:x.bind f=J z)(K:∀a,x=J a->f a=J z->p):p:=
 bN (ř.mp h) K
theorem Gz(h:(if c=_t then _n else u)=J z)(K:c=_d->u=J z->p):p:=by
 cases c
 .exact K Y h
 .exact bD h
theorem IS(h:(if c=_t then u else _n)=J z)(K:c=_t->u=J z->p):p:=by
 cases c
 .exact bD h
 .exact K Y h
theorem Bl(h:J w=J z)(K:P w):P z:=ů h▸K
end
structure aV where
 mr:B (L×(B D->Out Rs)):=[]
 fn:B (L×az):=[]
 cst:B (L×D):=[]
 met:B (L×L×az):=[]
 cls:B (L×az):=[]
 fld:B (L×B L):=[]
 clo:B (B D->az):=[]
 fz:B Str:=[]
 xt:Bool:=_d
def sR(T:aV)(a:V')(N:B L)(x:L):_o EM:=
 match oE a N x with
 |J i=>J (aa i)
 |_n=>if AL a x&&okN x then (T.cst.lookup x).map ai else _n
def uX:Const->_o EM
 |.none=>J (ai .n)
 |.bool b=>J (ai (.bl b))
 |.int i=>J (ai (.int i))
 |.str x=>J (ai (.str x))
 |_=>_n
def cQ(f:p'->_o EM):B p'->_o AM
 |[]=>J aj
 |e::a=>o2 (f e) (cQ f a) ae
def boM(c:ϗ)(a b:EM):=match c with
 |.And=>fJ a b
 |.Or=>pQ a b
def m_(f:p'->_o EM)(c:ϗ):B p'->_o EM
 |[]=>_n
 |[a]=>f a
 |a::b::r=>o2 (f a) (m_ f c (b::r)) (boM c)
def wW(f:p'->_o EM):_o p'->_o (Bool×EM)
 |_n=>J (_t,ai .n)
 |J e=>(f e).map λm=>(_d,m)
inductive BM where
 |append|insert|extend|uY|index|join
noncomputable def BM.nm:BM->L
 |.append=>"append" |.insert=>"insert" |.extend=>"extend" |.uY=>"pop" |.index=>"index" |.join=>"join"
noncomputable def BM.ar:BM->Nat
 |.append=>1|.insert=>2|.extend=>1|.uY=>1|.index=>1|.join=>1
def BM.ty:BM->aA->D->Bool
 |.join=>wO
 |_=>pI
def BM.f:BM->D->B D->aA->ax D
 |.append=>dQ|.insert=>jo|.extend=>jq|.uY=>il|.index=>dr|.join=>yN
def Nh(m n):=[BM.append,.insert,.extend,.uY,.index,.join].find? λb=>b.nm==m&&b.ar==n
def ju(a:EM)(as:AM)(m:L):B (L×L×az)->_o EM
 |[]=>_n
 | (b,C,F)::r=>if b==m then (match ju a as m r with
  |J x=>J (fx (aK C m F a as) x)
  |_n=>J (aK C m F a as))else ju a as m r
def sS(T:aV)(m:L)(n:Nat)(a:EM)(as:AM):_o EM:=match Nh m n,ju a as m T.met with
 |J b,J x=>J (fx (c6 b.ty b.f a as) x)
 |J b,_n=>J (c6 b.ty b.f a as)
 |_n,x=>x
def sT(T:aV)(m:L)(n:Nat)(a:EM)(as:AM):_o EM:=match sS T m n a as with
 |J x=>if m==("index")&&n==1 then J (fx x (c6 wO oV a as))else if m==("pop")&&n==1 then J (fx x (c6 wV oW a as))else J x
 |_n=>_n
def Ex(x):=[ly.len,ly.all,ly.any,ly.list,ly.tuple,ly.int].find? (λb=>b.nm==x)
theorem IT{b}(h:Ex d=J b):d=b.nm/\b∈[ly.len,ly.all,ly.any,ly.list,ly.tuple,ly.int]/\b.nm∈er:=by
 have a:=acC h;have c:=List.mem_of_find?_eq_some h;refine⟨(eq_of_beq a).symm,c,?_⟩;cases b<;>first|decide
def sU(T:aV)(a:V')(f:p'->_o EM)(x:L)(args:B p'):_o EM:=
 if AL a x&&okN x then
  match T.fn.lookup x,T.mr.lookup x,T.cls.lookup x,Ex x with
  |J F,_,_,_=>(cQ f args).map (mN (aQ F))
  |_n,J F,_,_=>if args.isEmpty then _n else (cQ f args).map (mN (ey F))
  |_n,_n,J F,_=>(cQ f args).map (mN (gU x F))
  |_n,_n,_n,J b=>if args.isEmpty then _n else (cQ f args).map (mN (bP b))
  |_n,_n,_n,_n=>(if x==("dict")then (if args.isEmpty then _n else (cQ f args).map (mN kM))else _n)
 else _n
def ng(T:aV)(a:V')(N:B L)(f:p'->_o EM)(x:L)(args:B p'):_o EM:=match oE a N x with
 |J _=>_n
 |_n=>sU T a f x args
def Ey(b:V'):(l:B p')->_o {r:p'×Ty×K'//l=[r.1,.Name r.2.1.nm r.2.2]/\AL b r.2.1.nm=_t/\r.2.1.nm∈er}
 |[a,.Name t p]=>match h:KW t with
  |J c=>if g:AL b t=_t then J ⟨(a,c,p),by obtain⟨rfl,m⟩:=Rf h;exact⟨Y,g,m⟩⟩else _n
  |_n=>_n
 |_=>_n
def Ez(b:V')(f:p'->_o EM)(x:L)(args:B p'):_o EM:=if x==("isinstance")&&AL b x then match Ey b args with
 |J r=>(f r.1.1).map (m1 (gp r.1.2.1))
 |_n=>_n else _n
set_option backward.match.sparseCases false in
noncomputable def dR:p'->Bool
 |.Name .. |.Attribute .. |.Constant (.str _) .. |.Subscript .. |.Call (.Attribute ..) ..=>_t
 |_=>_d
def Ni(c:V')(f:p'->_o EM)(x:L)(args:B p'):_o EM:=match RE x args with
 |J (a,b,_)=>if AL c x&&AL c ("zip")then (cQ f [a,b]).map (mN PN)else _n
 |_n=>_n
def Nj(b:V')(f:p'->_o EM)(x:L)(args:B p'):_o EM:=match RH x args with
 |J (a,_,_)=>if AL b x&&dR a then (f a).map (m1 Lf)else _n
 |_n=>_n
def oX(a:V')(f:p'->_o EM)(x:L)(args:B p'):_o EM:=match Ez a f x args with
 |J m=>J m
 |_n=>match Ni a f x args with
  |J m=>J m
  |_n=>Nj a f x args
noncomputable def itC(e:p'):_o {r:L×B p' // ∃p a,e=.Call (.Name r.1 p) r.2 [] a}:=match e with
 |.Call (.Name g _) args [] _=>J ⟨(g,args),_,_,Y⟩
 |_=>_n
noncomputable def itM(e:p'):_o {r:p'×L×K'×K' // e=.Call (.Attribute r.1 r.2.1 r.2.2.1) [] [] r.2.2.2}:=match e with
 |.Call (.Attribute o m a) [] [] b=>J ⟨(o,m,a,b),Y⟩
 |_=>_n
def jF(f:p'->_o EM)(b:V')(iter:p'):_o IM:=match itC iter with
 |J c=>if c.1.1==("range")then (if AL b c.1.1 then (match c.1.2 with
   |[a]=>(cQ f [a]).map dX
   |_=>_n)else _n)else (f iter).map cP
 |_n=>(f iter).map cP
def EA(f:p'->_o EM):B p'->_o (Bool×EM)
 |[]=>J (_t,ai .n)
 |[c]=>(f c).map λm=>(_d,m)
 |_=>_n
set_option backward.match.sparseCases false in
noncomputable def Li(ks a):_o {r:p'×p' // ks=[J r.1]/\a=[r.2]}:=match ks,a with
 |[J (.Tuple b j p)],[v]=>J ⟨(.Tuple b j p,v),Y,Y⟩
 |_,_=>_n
noncomputable def Yz(a cs):_o {r:ñ×p'×_o (ñ×p') // a=r.1::(r.2.2.map (·.1)).toList/\cs=r.2.1::(r.2.2.map (·.2)).toList}:=match a,cs with
 |[d],[b]=>J ⟨(d,b,_n),Y,Y⟩
 |[d,e],[b,c]=>J ⟨(d,b,J (e,c)),Y,Y⟩
 |_,_=>_n
def Lj(f:p'->_o EM)(a b cs):=(Yz b cs).bind λq=>match q.1.2.2 with
 |_n=>if isSet q.1.2.1 then _n else o2 (f a) (f q.1.2.1) (m2 (ay q.1.1))
 |J r=>if isSet r.2 then _n else o2 (f a) (o2 (f q.1.2.1) (f r.2) ģ) λx y=>mI q.1.1 r.1 x y.1 y.2
def dH(T:aV):Nat->V'->B L->p'->_o EM
 |0,_,_,_=>_n
 |n+1,d,N,e=>match e with
  |.Name x _=>sR T d N x
  |.Constant c _ _=>uX c
  |.BinOp a g b _=>o2 (dH T n d N a) (dH T n d N b) (m2 (bb g))
  |.UnaryOp .USub a _=>(dH T n d N a).map (m1 DR)
  |.UnaryOp .Not a _=>(dH T n d N a).map dz
  |.BoolOp g (a::b::r) _=>m_ (dH T n d N) g (a::b::r)
  |.Compare a h cs _=>Lj (dH T n d N) a h cs
  |.IfExp t a b _=>o2 (dH T n d N t) (o2 (dH T n d N a) (dH T n d N b) ģ) λx y=>DW x y.1 y.2
  |.Subscript a (.Slice p s _n _) _=>o2 (dH T n d N a) (o2 (wW (dH T n d N) p) (wW (dH T n d N) s) ģ) λx y=>fH x y.1.1 y.1.2 y.2.1 y.2.2
  |.Subscript a b _=>if isSlice b then _n else o2 (dH T n d N a) (dH T n d N b) (m2 aR)
  |.List i _=>(cQ (dH T n d N) i).map (mN b_)
  |.Tuple i _ _=>(cQ (dH T n d N) i).map (mN gm)
  |.Attribute o f _=>if dR o then o2 (T.fld.lookup f) (dH T n d N o) λu m=>m1 (bc u f) m else _n
  |.Call (.Name x _) args [] _=>match oX d (dH T n d N) x args with
   |J m=>J m
   |_n=>ng T d N (dH T n d N) x args
  |.Call (.Attribute o m w) args [] z=>if w.endLine==z.line&&dR o&&decide (args.length<20)then (dH T n d N o).bind λA=>(cQ (dH T n d N) args).bind λas=>sT T m args.length A as else _n
  |.ListComp j gens scope _=>match qz gens with
   |J (x,_,iter,k)=>if AN scope d x&&!isSet iter then (match wC d N (eO scope),jF (dH T n d N) d iter,dH T n (HU scope d) (x::eO scope) j,EA (dH T n (HU scope d) (x::eO scope)) k with
    |J l,J C,J D,J (E,F)=>J (cB D E F C 0 l)
    |_,_,_,_=>_n)else _n
   |_n=>_n
  |.Dict [] [] _=>J cp
  |.Dict G H _=>(Li G H).bind λq=>o2 (dH T n d N q.1.1) (dH T n d N q.1.2) jt
  |_=>_n
structure GoodO(X:Cx)(κ:L->f'->Prop)(T:aV)(k:Nat)(sc:V')(N:B L):Prop where
 scope:X.env.scope=sc
 names:X.N=N
 calm:X.calm=_t
 room:bF k X.A
 dB:∀x∈er,X.mg x=_n
 mr:∀x F,T.mr.lookup x=J F->Ra X k x F
 fn:∀x F,T.fn.lookup x=J F->Lb X κ k x F
 cst:∀x d,T.cst.lookup x=J d->∃v u,X.mg x=J u/\RelV v u/\MS d v
 met:∀m C F,(m,C,F)∈T.met->yV X κ k C m F
 cls:∀C F,T.cls.lookup C=J F->∃j,j+1<=k/\Ld X κ j C F
 fld:∀f Cs,T.fld.lookup f=J Cs->jQ X.K κ Cs f
 clo:∀j F,T.clo[j]?=J F->uW X.prog X.w X.K X.mg X.base κ k j F
variable{Δ:aV}
theorem GoodO.gl(G:GoodO c j Δ b o0 l)(h:AL o0 d=_t):Gl c d:=by
 show c.env.scope.names.lookup d=J _
 rw[G.scope];exact(eq_of_beq h)
theorem GoodO.hu(G:GoodO c j Δ b o0 l):c.A.units+64<Æ:=G.room.units
theorem GoodO.blk{X c T k d N}(G:GoodO X c T k d N)(scope f C e a b fp):GoodO (blk X scope f C e a b fp) c T k (HU scope d) e where
 scope:=by rw[←G.scope];rfl
 names:=Y
 calm:=G.calm
 room:=G.room
 dB:=G.dB
 mr:=λx F h=>⟨(G.mr x F h).ex⟩
 fn:=λx F h=>⟨(G.fn x F h).ex⟩
 cst:=G.cst
 met:=λm C F h=>⟨(G.met m C F h).ex⟩
 cls:=λC F h=>bN (G.cls C F h) λj g i=>⟨j,g,⟨i.ex⟩⟩
 fld:=G.fld
 clo:=G.clo
def lL(X)(b:L->f'->Prop)(e m):=(∀a,ba X b a e m)/\(∀a,j7 X b a e m)/\isStar e=_d
theorem bK(h:∀b,ba c j b n p)(e:isStar n=_d)(f:∀a,ŏ n c.env a=(do let v ←a;û n.pos;ô [v] (ű v))):lL c j n p:=⟨h,λb=>by
  intro d i k l m;refine PT.imp (uc ((h b) d i k l m) f) ?_;rintro q H Q ⟨o,Z,S,g⟩;exact⟨o,Z,S,g.Yu⟩,e⟩
theorem bB{X c f}(d:∀e m,f e=J m->lL X c e m):∀{b}{as},cQ f b=J as->(∀a,mH X c a b as)/\(∀e∈b,isStar e=_d)
 |[],as,h=>by cases h;exact⟨λa=>cF,by simp⟩
 |e::b,as,h=>by
  obtain⟨m,g,i,j,rfl⟩:=sQ h;obtain⟨k,_,l⟩:=d e m i;obtain⟨n,o⟩:=bB d j;refine⟨λa=>bf (k a) (n a) (bw l),λz p=>?_⟩
  grind
theorem EB(G:GoodO c j Δ b o0 l)(h:sR Δ o0 l d=J p):lL c j (.Name d o) p:=by
 unfold sR at h;split at h
 .rename_i i q
  cases h;obtain⟨g,k,e,m⟩:=sF q;exact bK (λn=>fV (by rw[G.names];exact g) (by rw[G.scope];exact k) e m) Y (λ_=>Y)
 .split at h
  .rename_i f
   simp only[Õ]at f;obtain⟨a,e,rfl⟩:=c_ h;obtain⟨v,u,e2,r,e4⟩:=G.cst d a e;obtain⟨s,t,w⟩:=yz f.2;exact bK (λn=>DQ (GI (G.gl f.1) e2 r s) e4) Y (λ_=>Y)
  .exact bD h
theorem Bn{q}(h:uX q=J p):lL c j (.Constant q b o) p:=by
 cases q<;>cases h
 .exact bK (λa=>cW (λ_ _ _ H _ I h=>acT ⟨.n,H,I,Y,h⟩) Y) Y (λ_=>Y)
 .exact bK (λa=>cW Kw Y) Y (λ_=>Y)
 .exact bK (λa=>cW vQ Y) Y (λ_=>Y)
 .exact bK (λa=>cW jI Y) Y (λ_=>Y)
theorem uZ{X y f t pos}(z:∀e m,f e=J m->lL X y e m):∀{A}{m},m_ f t A=J m->(∀c,ba X y c (.BoolOp t A pos) m)/\(∀c,KZ X y c (.BoolOp t A pos) m)
 |[],m,h=>by exact bD h
 |[a],m,h=>by
  obtain⟨u,w,K⟩:=z a m h;exact⟨λc=>λd l n o s=>Ma ((u c) _ l n o s),λc=>yJ (w c)⟩
 |a::b::r,m,h=>by
  obtain⟨M,T,N,O,rfl⟩:=sQ h;obtain⟨u,w,K⟩:=z a M N;obtain⟨G,I⟩:=uZ z O;cases t with
  |And=>exact⟨λc=>by
    intro d l n o s;refine PE.imp (HR ((u c) d l n o s) (PE.ex λi=>(G c) d l n o i)) ?_
    rintro P H Q ⟨C,Z,S,g⟩;refine⟨C,Z,S,bC.use g λx i _ v R D E F j p k=>?_⟩
    split at k
    .rename_i q
     exact⟨_,iW j p q,wc ⟨_,_,E,S.grow F j,k⟩⟩
    .rename_i q
     exact⟨_,iW j p q,wb (bC.ret j p k)⟩
    .exact k.elim,λc=>Il (w c) (I c)⟩
  |Or=>exact⟨λc=>by
    intro d l n o s;refine PE.imp (MI ((u c) d l n o s) (PE.ex λi=>(G c) d l n o i)) ?_
    rintro P H Q ⟨C,Z,S,g⟩;refine⟨C,Z,S,bC.use g λx i _ v R D E F j p k=>?_⟩
    split at k
    .rename_i q
     exact⟨_,iW j p q,wb ⟨_,_,E,S.grow F j,k⟩⟩
    .rename_i q
     exact⟨_,iW j p q,wc (bC.ret j p k)⟩
    .exact k.elim,λc=>DX (w c) (I c)⟩
variable{P5:p'->_o EM}
theorem u_(b:∀e p,P5 e=J p->lL c j e p)(h:wW P5 r8=J (E,p)):VB c j w r8 E p:=by
 cases r8 with
 |none=>cases h;exact .inl ⟨Y,Y⟩
 |some e=>
  obtain⟨a,d,f⟩:=c_ h;cases f;exact .inr ⟨e,Y,Y,(b e p d).1 w⟩
theorem IU{m n b}(h:Nh m n=J b):m=b.nm/\n=b.ar:=by
 have:=acC h
 simp_all
theorem cH(h:dR n=_t):ý n d D5 (eval n D5)=eval n D5:=by
 cases n with
 |Call f a b p=>cases f<;>first|rfl | (cases h)
 |_=>rfl
theorem RI(z:c.A.units+64<Æ)(b:BM)(l:dR n=_t)(q:(o.endLine==T.line)=_t)(s:Z.length=b.ar)(t:ba c j w n p)(C:cQ P5 Z=J Q0)(D:∀e m,P5 e=J m->lL c j e m):
  ba c j w (.Call (.Attribute n b.nm o) Z [] T) (c6 b.ty b.f p Q0):=by
 obtain⟨a1,a2⟩:=bB D C;have a1:=a1 w;cases b with
 |append=>
  match Z,s with
  |[e],_=>exact gq ŉ adn PySem.F.type_list_append qb (λx v d a i H S r h=>jP S r h) (λx v u y d a i H Q S r k g=>AZ S r k g) (cH l) q t a1 a2 (by simp)
 |uY=>
  match Z,s with
  |[e],_=>exact gq ŉ adq PySem.F.type_list_pop Cu (λx v d a i H S r h=>jP S r h) (λx v u y d a i H Q S r k g=>Ec S r k g) (cH l) q t a1 a2 (by simp)
 |insert=>
  match Z,s with
  |[e,e2],_=>exact gq ŉ aeC PySem.F.type_list_insert AI (λx v d a i H S r h=>jP S r h) (λx v u y d a i H Q S r k g=>A_ S r k g) (cH l) q t a1 a2 (by simp)
 |extend=>
  match Z,s with
  |[e],_=>exact gq ŉ ado PySem.F.type_list_extend An (λx v d a i H S r h=>jP S r h) (λx v u y d a i H Q S r k g=>Bb S r k g) (cH l) q t a1 a2 (by simp)
 |index=>
  match Z,s with
  |[e],_=>exact gq ŉ acA aeX (uC z) (λx v d a i H S r h=>jP S r h) (λx v u y d a i H Q S r k g=>uO S r k g) (cH l) q t a1 a2 (by simp)
 |join=>
  match Z,s with
  |[e],_=>exact gq aeY PySem.F.slot_str_join PySem.F.type_str_join HQ (λx v d a i H S r h=>yM S r h) (λx v u y d a i H Q S r k g=>Iz S r k g) (cH l) q t a1 a2 (by simp)
theorem sV(h:ý n d D5 (eval n D5)=eval n D5)(c:∀e∈Z,isStar e=_d)(b:Z.length<20)(i:(o.endLine==T.line)=_t):
  eval (.Call (.Attribute n d o) Z [] T) D5=(do
   let a ←eval n D5
   û o.atName
   let (f,first) ←ô [a] (Ď a d (do let l ←importBound n D5;pure (l.getD _t)))
   ĕ T f first (À T (D' Z D5)) (ö T (ø [] D5))):=by
 have j:aeZ (Z.length+([]:B ĭ).length) (À T (D' Z D5)) (ö T (ø [] D5))=true:=by
  unfold aeZ;rw[wQ c,decide_eq_true (by grind)];rfl
 have g:eval (.Call (.Attribute n d o) Z [] T) D5=(do
   let a ←ý n d D5 (eval n D5)
   û o.atName
   methodCall n d o T D5 a (Z.length+([]:B ĭ).length) (À T (D' Z D5)) (ö T (ø [] D5))):=by rfl
 rw[g];unfold methodCall calleeOf methodCallPos
 simp_all
theorem jR{X c k f}(d:bF k X.A){o m b p as p1 p2 g}(i:dR o=_t)(j:(p1.endLine==p2.line)=_t)(a:b.length<20)(l:ba X c g o p)(n:cQ f b=J as)(r:∀e m,f e=J m->lL X c e m):∀{s}{x},(∀m C F,(m,C,F)∈s->yV X c k C m F)->ju p as m s=J x->ba X c g (.Call (.Attribute o m p1) b [] p2) x
 |[],x,_,h=>by exact bD h
 | (t,C,F)::s,x,u,h=>by
  obtain⟨a1,a2⟩:=bB r n;simp only[ju]at h;split at h
  .rename_i w
   obtain rfl:=eq_of_beq w
   have one:ba X c g (.Call (.Attribute o t p1) b [] p2) (aK C t F p as):=by
    cases b with
    |nil=>cases n;exact Bg (by grind) d l (sV (cH i) a2 a j)
    |cons e b=>exact Em (by grind) d l (a1 g) (bw (by simp_all)) (bJ (by simp_all)) (sV (cH i) a2 a j)
   split at h
   .rename_i y z
    cases h;exact one.alt (jR d i j a l n r (λm C F q=>u m C F (by simp[q])) z)
   simp_all
  .exact jR d i j a l n r (λm C F q=>u m C F (by simp[q])) h
theorem EC{X a T k s N f}(G:GoodO X a T k s N){o m c g as p1 p2 i x}(l:dR o=_t)(n:(p1.endLine==p2.line)=_t)(d:c.length<20)(p:ba X a i o g)(q:cQ f c=J as)(r:∀e m,f e=J m->lL X a e m)(h:sS T m c.length g as=J x):ba X a i (.Call (.Attribute o m p1) c [] p2) x:=by
 have one:∀b,Nh m _=J b->ba X a i (.Call (.Attribute o m p1) c [] p2) (c6 b.ty b.f g as):=λb j=>by
  obtain⟨rfl,t⟩:=IU j;exact RI G.hu b l n t p q r
 have two:∀y,ju g as m _=J y->ba X a i _ y:=λy u=>jR G.room l n d p q r G.met u
 unfold sS at h;split at h
 .rename_i b y w z
  cases h;exact(one b w).alt (two y z)
 .simp_all
 simp_all
theorem ED(G:GoodO c j Δ b o0 l)(m:dR n=_t)(q:(o.endLine==T.line)=_t)(i:Z.length<20)(s:ba c j w n p)(t:cQ P5 Z=J Q0)(u:∀e d,P5 e=J d->lL c j e d)(h:sT Δ d Z.length p Q0=J ς):ba c j w (.Call (.Attribute n d o) Z [] T) ς:=by
 unfold sT at h;split at h
 .rename_i y D
  have a:=EC (p1:=o) (p2:=T) G m q i s t u D;split at h
  .rename_i k
   simp only[Õ,beq_iff_eq]at k;obtain⟨rfl,x⟩:=k;cases h;refine a.alt ?_;obtain⟨a1,a2⟩:=bB u t
   match Z,x with
   |[e],_=>exact gq aeY aeG PySem.F.type_str_index AK (λς v z f A H S r h=>yM S r h) (λς v E I z f A H Q S r C g=>IJ S r C g) (cH m) q s (a1 w) a2 (by simp)
  .split at h
   .rename_i k
    simp only[Õ,beq_iff_eq]at k;obtain⟨rfl,x⟩:=k;cases h;refine a.alt ?_;obtain⟨a1,a2⟩:=bB u t
    match Z,x with
    |[e],_=>exact gq aa8 adw PySem.F.type_dict_pop IL (λς v z f A H S r h=>IP S r h) (λς v E I z f A H Q S r C g=>IQ S r C g) (cH m) q s (a1 w) a2 (by simp)
   .cases h;exact a
 .exact bD h
theorem EE(G:GoodO c j Δ b o0 l)(u:∀e p,P5 e=J p->lL c j e p)(h:sU Δ o0 P5 d Z=J p):lL c j (.Call (.Name d o) Z [] T) p:=by
 refine bK (λr=>?_) Y (λ_=>Y)
 unfold sU at h;split at h
 .rename_i D
  simp at D;obtain⟨w,n2,n3⟩:=yz D.2;have q:=G.gl D.1;split at h
  .rename_i F t
   obtain⟨x,k,rfl⟩:=c_ h;obtain⟨m,n⟩:=bB u k;cases Z with
   |nil=>cases k;exact Bf (G.fn d F t) G.room q w
   |cons a Z=>
     obtain⟨P5,fd,ps,E,hk,y,F1⟩:=(G.fn d F t).ex;intro s I K N z;refine PE.imp (rL F1 G.room q E hk y .nil mh ((m r) s I K N z) w (bw (n a (by simp))) (bJ (by grind))) ?_
     rintro σ H Q ⟨A,f,S,g⟩;refine⟨A,f,S,pH.use g λC O _ P H1 R Z1 g1 U V X=>?_⟩
     rw[Ć];exact⟨_,Z1,_,C,U,V,bC.ok0 X⟩
  .rename_i F _ t
   split at h
   .exact bD h
   .rename_i i
    obtain⟨x,k,rfl⟩:=c_ h;obtain⟨m,n⟩:=bB u k;cases Z with
    |nil=>exact absurd Y i
    |cons a Z=>exact AW (G.mr d F t) G.room q w (bw (n a (by simp))) (bJ (by simp_all)) (m r)
  .rename_i F _ _ t
   obtain⟨x,k,rfl⟩:=c_ h;obtain⟨m,n⟩:=bB u k;obtain⟨a0,hj,M⟩:=G.cls d F t;cases Z with
   |nil=>cases k;exact En M (G.room.mono hj) q w
   |cons a Z=>
     obtain⟨Ca,P5,fd,ps,b0,hM,E,y,F1⟩:=M.ex;intro s I K N z;refine PE.imp (GW hM F1 (G.room.mono hj) q E y .nil mh ((m r) s I K N z) w (bw (n a (by simp))) (bJ (by simp_all))) ?_
     rintro σ H Q ⟨A,f,S,g⟩;exact⟨A,f,S,pH.use g λC O _ P H1 R Z1 g1 U V X d dx hx c0 i=>uV U V b0 X hx c0 i⟩
  .rename_i d0 _ _ _ y
   split at h
   .exact bD h
   .rename_i i
    obtain⟨x,k,rfl⟩:=c_ h;obtain⟨m,n⟩:=bB u k;obtain⟨rfl,b1,b2⟩:=IT y;cases Z with
    |nil=>exact absurd Y i
    |cons a Z=>exact Iw G.calm b1 q (G.dB _ b2) (bw (n a (by simp))) (bJ (by grind)) (m r)
  .split at h
   .rename_i hx
    obtain rfl:=eq_of_beq hx;split at h
    .exact bD h
    .rename_i i
     obtain⟨x,k,rfl⟩:=c_ h;obtain⟨m,n⟩:=bB u k;cases Z with
     |nil=>exact absurd Y i
     |cons a Z=>
       show ba c j r _ (mN (oJ _ _) x)
       rw[oN];exact ba.alt (ez (oh G.calm) q (G.dB _ (by decide)) Ϗ (by decide) (by decide) (bw (n a (by simp))) (bJ (by grind)) (m r) λC P A f z H Q S rx g=>Iv S rx g) (ez og q (G.dB _ (by decide)) Ϗ (by decide) (by decide) (bw (n a (by simp))) (bJ (by grind)) (m r) λC P A f z H Q S rx g=>Iu S rx g)
   .exact bD h
 .exact bD h
theorem EF(G:GoodO c j Δ b o0 l)(a:∀e p,P5 e=J p->lL c j e p)(h:ng Δ o0 l P5 d Z=J p):lL c j (.Call (.Name d o) Z [] T) p:=by
 unfold ng at h;cases f:oE o0 l d with
 |none=>rw[f]at h;exact EE G a h
 |some i=>
  simp_all
theorem IV(G:GoodO c j Δ b o0 l)(i:∀e p,P5 e=J p->lL c j e p)(h:Ez o0 P5 d Z=J p):lL c j (.Call (.Name d o) Z [] T) p:=by
 unfold Ez at h;split at h
 .rename_i f
  simp at f;obtain⟨rfl,k⟩:=f;split at h
  .rename_i a m
   clear m;obtain⟨⟨a,x,y⟩,rfl,n,q⟩:=a;obtain⟨r,s,rfl⟩:=c_ h;obtain⟨t,_,u⟩:=i a r s;exact bK (λw=>Iy (G.gl k) (G.dB _ (by decide)) (G.gl n) (G.dB _ q) (bw u) (bJ λz g=>by simp at g;subst g;rfl) (t w)) Y (λ_=>Y)
  .exact bD h
 .exact bD h
theorem Nk(G:GoodO c j Δ b o0 l)(m:∀e p,P5 e=J p->lL c j e p)(h:Ni o0 P5 d Z=J p):lL c j (.Call (.Name d o) Z [] T) p:=by
 unfold Ni at h;split at h
 .rename_i a f t g
  obtain⟨rfl,q,rfl⟩:=Eu g;split at h
  .rename_i i
   simp only[Õ]at i;obtain⟨u,n,rfl⟩:=c_ h;obtain⟨r,k⟩:=bB m n;exact bK (λs=>Et G.calm (G.gl i.1) (G.dB _ (by decide)) (G.gl i.2) (G.dB _ (by decide)) (r s) (bw (k a (by simp))) (bJ λz g=>k z (by simp[g]))) Y (λ_=>Y)
  .exact bD h
 .exact bD h
theorem Nl(G:GoodO c j Δ b o0 l)(g:∀e p,P5 e=J p->lL c j e p)(h:Nj o0 P5 d Z=J p):lL c j (.Call (.Name d o) Z [] T) p:=by
 unfold Nj at h;split at h
 .rename_i a apos cpos i
  obtain⟨rfl,rfl,k⟩:=Ew i;split at h
  .rename_i f
   simp only[Õ]at f;obtain⟨m,n,rfl⟩:=c_ h;exact bK (λq=>wU G.calm (G.gl f.1) (G.dB _ (by decide)) (cH f.2) k ((g a m n).1 q)) Y (λ_=>Y)
  .exact bD h
 .exact bD h
theorem IW(G:GoodO c j Δ b o0 l)(a:∀e p,P5 e=J p->lL c j e p)(h:oX o0 P5 d Z=J p):lL c j (.Call (.Name d o) Z [] T) p:=by
 unfold oX at h;split at h
 .rename_i f;cases h;exact IV G a f
 .split at h
  .rename_i f;cases h;exact Nk G a f
  .exact Nl G a h
theorem lM(G:GoodO c j Δ b o0 l)(k:∀e m,P5 e=J m->lL c j e m)(h:jF P5 o0 n=J E2):∀d f,Bc c j d f n E2:=by
 intro d f
 have dflt:∀{E2},(P5 n).map cP=J E2->Bc c j d f n E2:=λ{E2} h=>by
  obtain⟨m,i,rfl⟩:=c_ h;exact ID ((k n m i).1 d)
 unfold jF at h;split at h
 .rename_i a _
  obtain⟨⟨g,args⟩,p,o,rfl⟩:=a;dsimp only at h;split at h
  .rename_i q
   obtain rfl:=eq_of_beq q;split at h
   .rename_i r
    split at h
    .obtain⟨u,i,rfl⟩:=c_ h
     obtain⟨s,t⟩:=bB k i;exact Ee (G.gl r) (G.dB _ (by decide)) (s d) (by rw[bw (t _ (.head _))];rfl)
    .exact bD h
   .exact bD h
  .exact dflt h
 .exact dflt h
def yX(d:B L)(f:L)(e:EM)(n:Int):SM:=λc g=>cC (e c g) λx a=>match pR a x with
 |J (k,C,b)=>if d.contains C&&decide (b.length<1000)then (match b.lookup f with
  |J (.int i)=>.nx c (a.set k (.ins C (kQ f (.int (i+n)) b)))
  |_=>.b)else .b
 |_n=>.b
theorem EG(G:jQ c.K j l d)(I:ba c j w n p):jr c j w (.AugAssign (.Attribute n d T) .Add (.Constant (.int Q) b P1) o) (yX l d p Q):=by
 intro m M N O P;refine PS.imp (Al (I m M N O P) vQ Mp) ?_;rintro E U H ⟨V,Z,S,d⟩;refine⟨V,Z,S,d_.use S d λx X q H2 g A _ g2 r r2 e=>?_⟩
 split at e
 .rename_i k C fs hk
  obtain⟨a,h,dx,f,rfl,rfl,h0,D,s,t⟩:=gW r.st r2 hk;split at e
  .rename_i y
   simp only[Õ,decide_eq_true_eq]at y;obtain⟨c1,c2⟩:=G C h y.1 D;split at e
   .rename_i i hi
    obtain⟨v,hv,F⟩:=(ed t).1 _ hi;subst F;have ry:au g A H2 (.int (i+Q)) (.int (i+Q)):=by simp only[au]
    obtain⟨s3,g3⟩:=r.st.put (o:=.ins h dx (hX _ (.int (i+Q)) f)) (c:=.ins C (kQ _ (.int (i+Q)) fs)) h0 (λn u z=>by rw[s]at z;cases z) λR hR=>⟨h,dx,_,D,aD,(uU ry t).imp hR⟩
    exact⟨a,h,dx,f,.int i,Y,s,c1,c2,hv,i,Q,Y,Y,dx,f,s,by rw[fF.length t];exact y.2,e U _ g A (r.grow g3 s3)⟩
   .exact e.elim
  .exact e.elim
 .exact e.elim
set_option backward.match.sparseCases false in
noncomputable def Nm(a:p')(b:Ē)(v:p'):_o {r:p'×L×Int // ∃p j q,a=.Attribute r.1 r.2.1 p/\b=.Add/\v=.Constant (.int r.2.2) j q}:=match a,b,v with
 |.Attribute o f _,.Add,.Constant (.int n) _ _=>J ⟨(o,f,n),_,_,_,Y,Y,Y⟩
 |_,_,_=>_n
noncomputable def Lk(a b v):=(Nm a b v).map (·.1)
theorem Bo(h:Lk ξ u8 M3=J (n,d,Q)):∃p j q,ξ=.Attribute n d p/\u8=.Add/\M3=.Constant (.int Q) j q:=by
 obtain⟨⟨_,h⟩,_,e⟩:=È.mp h;cases e;exact h
noncomputable def IX(c:Cell)(b:_o Cell):Cell:=match c,b with
 |.dF a,J (.dK _)=>.dK a
 |c,_=>c
def dS(a aq:aA):aA:=aq.mapIdx λk c=>IX c a[k]?
def fA(F:az):az:=λc b=>match F c b with
 |.ok d a=>.ok d (dS b a)
 |r=>r
def Nn(b:aA)(r:eA):eA:=match r with
 |.nx c a=>.nx c (dS b a)
 |r=>r
def RJ(a:D->a_->_o a_)(d:IM)(b:SM):SM:=λe c=>Nn c (dW a d b e c)
theorem aE.of_get{α c R}:∀{as}{bs},bs.length=as.length->(∀(i:Nat) (a:α) (b:c),as[i]?=J a->bs[i]?=J b->R a b)->aE R as bs
 |[],[],_,_=>.nil
 |a::as,b::bs,h,k=>.cons (k 0 a b Y Y) (aE.of_get (by simp_all) λi a b e f=>k (i+1) a b (by simp_all) (by simp_all))
 |[],_::_,h,_=>by simp at h
 |_::_,[],h,_=>by simp at h
variable{Q5:BO}{j0:Â}
section
variable{X:Cx}{κ:L->f'->Prop}{Φ:ij}{α α' α0:B f'}{Z Z' Z0:f'->Prop}{Ω aq:aA}{H H' H0:Hp}
open Classical in
theorem va(S:bp κ α Z Ω H)(g:b9 α Z H α' Z' H')(x:bp κ α' Z' aq H'):∃B,QS B H H'/\b9 α Z H α' Z' (tW B H')/\bp κ α' Z' (dS Ω aq) (tW B H')/\∀d v,au α' Z' H' d v->au α' Z' (tW B H') d v:=by
 let B:f'->Prop:=λb=>∃(k:Nat) (h j:List (Key×D)),α'[k]?=J b/\Ω[k]?=J (Cell.dK h)/\aq[k]?=J (Cell.dF j)
 have N:∀b,B b->b∈α/\∃h,H b=J (.dK h):=λb ⟨k,h,j,w,E,t⟩=>by
  obtain⟨a,F,l,e2,_⟩:=S.cell E;have:=g.pre k a F;rw[w]at this;cases this
  exact⟨Å F,l,e2⟩
 have O:∀b,B b->∃o h,H' b=J (.cX o (.dK h)):=λb ⟨k,h,j,w,E,t⟩=>by
  obtain⟨a,F,o,l,e2,_⟩:=x.cell t;rw[w]at F;cases F
  exact⟨o,l,e2⟩
 have V:∀b,Z' b->¬ B b:=by rintro b z ⟨k,_,_,w,_⟩;exact x.sep b (Å w) z
 have y:∀d v,au α' Z' H' d v->au α' Z' (tW B H') d v:=λd v r=>r.mono (λ_ _ e=>e) (λa o z e=>by rw[bU (V a z)];exact e) λ_ z=>z
 refine⟨B,⟨O,λb s=>(N b s).2⟩,⟨g.pre,g.sub,g.new,g.KY,λa o e I=>?_,λa I=>?_,λa o u e=>?_⟩,⟨x.tZ,?_,x.sep,λa z=>by rw[bU (V a z)];exact x.dom a z⟩,y⟩
 .rw[bU λs=>I (N a s).1];exact g.frm a o e I
 .by_cases s:B a
  .obtain⟨o,h,e⟩:=O a s;rw[wk s e];simp
  .rw[bU s];exact g.has a I
 .rw[bU λs=>by obtain⟨_,_,z⟩:=N a s;rw[e]at z;cases z];exact g.cX a o u e
 .refine aE.of_get (by unfold dS;rw[ae_];exact x.BP.length) λi c a e f=>?_
  unfold dS at e;rw[Ϙ]at e;obtain⟨A,w,rfl⟩:=È.mp e;obtain⟨a',E,t⟩:=x.cell w;rw[f]at E;cases E
  have nb:(∀h j,Ω[i]?=J (.dK h)->A≠.dF j)->¬ B a:=λq ⟨k,h,j,m,p,K⟩=>by
   have:k=i:=by
    have l1:=(Ê.mp m);have l2:=(Ê.mp f)
    exact(acS x.tZ).mp (l1.2.trans l2.2.symm)
   subst this;rw[w]at K;cases K
   exact q h j p Y
  have same:¬ B a->IX A Ω[i]?=A->ig κ (au α' Z' (tW B H')) (tW B H') a (IX A Ω[i]?):=λn q=>by
   rw[q];cases A with
   |l ds=>obtain⟨l,m,p⟩:=t;exact⟨l,by rw[bU n];exact m,p.imp y⟩
   |dK h=>obtain⟨l,m,p⟩:=t;exact⟨l,by rw[bU n];exact m,p.imp y⟩
   |dT h=>obtain⟨l,m,p⟩:=t;exact⟨l,by rw[bU n];exact m,p.imp y⟩
   |dF h=>obtain⟨o,l,m,p⟩:=t;exact⟨o,l,by rw[bU n];exact m,p.imp y⟩
   |ins C fs=>obtain⟨P,dx,l,Q,m,p⟩:=t;exact⟨P,dx,l,Q,by rw[bU n];exact m,p.imp y⟩
   |xc C fs=>
    obtain⟨P,R,Q,⟨o,X,m,p,K,p4,p5⟩,p6⟩:=t;exact⟨P,R,Q,⟨o,X,by rw[bU n];exact m,p,K,p4,by rw[bU λs=>by obtain⟨_,_,z⟩:=O X s;rw[p5]at z;cases z];exact p5⟩,p6.imp y⟩
   |_=>exact t.elim
  by_cases T:∃h j,Ω[i]?=J (.dK h)/\A=.dF j
  .obtain⟨h,j,M,rfl⟩:=T
   have s:B a:=⟨i,h,j,f,M,w⟩;obtain⟨o,l,m,p⟩:=t;rw[M];exact⟨l,wk s m,p.imp y⟩
  .refine same (nb λh j M U=>T ⟨h,j,M,U⟩) ?_
   unfold IX;split
   .rename_i h G U
    exact absurd ⟨G,h,U,Y⟩ T
   .rfl
theorem yY(h:bt M N G θ F2 Q5 b i j0 l (bE κ r)):bt M N G θ F2 Q5 b i j0 l (bE κ (fA r)):=
 h.mE.imp λu H Q E ⟨f,Z,c,e,S,RK,g⟩=>⟨f,Z,c,e,S,RK,by
  unfold fA at g;cases q:r e c with
  |ok d a=>
   rw[q]at g;intro v w j k m n o;obtain⟨B,p,s,t3,t⟩:=va S m n;exact⟨B,p,g v _ _ k s t3 (t d v o)⟩
  |e x a=>rwa[q]at g
  |b=>rwa[q]at g⟩
theorem EH(h:jr X κ Φ ω υ):jr X κ Φ ω (λm l=>Nn l (υ m l)):=by
 intro z A C m l;have F:PS X ω (λD t H=>∃n u w,PM κ Φ _ u w υ m l D t H):=λpins s t H D I ⟨n,u,w,q⟩=>h n u w m l _ s t H D I q
 refine PS.imp F.mE ?_;rintro E t H ⟨y,Z,S,f⟩;replace f:d_ κ Φ _ A C E (Nn l _):=f;refine⟨y,Z,H,y,Z,⟨S.st,b9.refl S.st.has,S.len,S.val⟩,?_⟩;cases q:υ m l with
 |nx o b=>
  rw[q]at f;intro p k c j a;obtain⟨B,G,K,t3,M⟩:=va S.st a.gr a.st;refine⟨B,G,f _ _ _ j ⟨t3,S.gr.trans K,a.len,λi d e=>?_⟩⟩
  obtain⟨v,N,O⟩:=a.val i d e
  simp_all
 |bk o b=>rw[q]at f;exact λp k c j a=>f _ k _ j ⟨a.st,S.gr.trans a.gr,a.len,a.val⟩
 |ct o b=>rw[q]at f;exact λp k c j a=>f _ k _ j ⟨a.st,S.gr.trans a.gr,a.len,a.val⟩
 |rt d b=>rw[q]at f;exact λv k c j g s r=>f v k _ j (S.gr.trans g) s r
 |e x b=>rw[q]at f;exact λk c j g s=>f k _ j (S.gr.trans g) s
 |b=>rwa[q]at f
end
variable{E8:V'}
theorem yZ(G:GoodO c j Δ b o0 l)(g:AN E8 o0 d=_t)(h:wC o0 l (eO E8)=J π):
  kF c E8 [d] (eO E8) π/\E8.names.lookup d=J .local/\([d]++eO E8).Nodup:=by
 simp only[AN,Õ,decide_eq_true_eq,á,ϖ,beq_iff_eq,Bool.or_eq_true]at g;obtain⟨⟨⟨⟨⟨k,s⟩,t⟩,u⟩,m⟩,n⟩:=g;obtain⟨o,w⟩:=DF h
 have p:∀y∈E8.names,y.2=.free->(o0.names.lookup y.1=J .cell\/o0.names.lookup y.1=J .free)/\E8.names.lookup y.1=J .free:=λy a e=>by
  grind
 refine⟨⟨k,λy a e=>?_,λy a e=>?_,λy a e=>?_,o,λf i z q e2=>?_⟩,m,n⟩
 .grind
 .grind
 .have:=(p y a e).1
  show c.env.scope.names.lookup _=_\/c.env.scope.names.lookup _=_
  rwa[G.scope]
 .refine⟨by rw[G.names];grind,?_⟩
  have r:=Å q;unfold eO at r
  grind
theorem oY(c:qz E9=_n)(h:dH Δ (b+1) o0 l (.ListComp n E9 E8 o)=J p):U4:=by
 replace h:(match qz _ with
   |J (x,_,iter,a)=>if (AN _ o0 x&&!isSet _)=_t then (match wC o0 l _,jF _ o0 _,dH Δ b _ _ _,EA _ _ with
    |J _,J d,J e,J (f,g)=>J _
    |_,_,_,_=>_n)else _n
   |_n=>_n)=J p:=h
 simp_all
theorem mu(A:∀c o0 l e p,GoodO c j Δ b o0 l->dH Δ m o0 l e=J p->lL c j e p)(G:GoodO c j Δ b o0 l)(h:dH Δ (m+1) o0 l (.ListComp ξ [⟨.Name d o,n,Z,0⟩] E8 T)=J p):∃q r s t k,p=cB q r s t 0 k/\kF c E8 [d] (eO E8) k/\E8.names.lookup d=J .local/\([d]++eO E8).Nodup /\
   (∀z,đ n c.env z=pure z)/\(∀x,Bc c j x (.Name d o) n t) /\
   ∀w C f g fp,((Z=[]/\r=_t)\/∃i,Z=[i]/\r=_d/\j7 (blk c E8 w C ([d]++eO E8) f g fp) j j8 i s)/\ba (blk c E8 w C ([d]++eO E8) f g fp) j j8 ξ q:=by
 replace h:(if (AN _ o0 d&&!isSet _)=_t then (match wC o0 l _,jF _ o0 _,dH Δ m _ _ _,EA _ _ with
    |J _,J t,J q,J (r,s)=>J _
    |_,_,_,_=>_n)else _n)=J p:=h
 split at h
 .rename_i y
  simp at y;split at h
  .rename_i k t q r s F H I u
   cases h;obtain⟨K,M,N⟩:=yZ G y.1 F;refine⟨q,r,s,t,_,Y,K,M,N,kH y.2,λx=>lM G (by grind) H x _,λw C f g fp=>?_⟩
   have D:=G.blk E8 w C ([d]++eO E8) f g fp;refine⟨?_,(A _ _ _ _ q D I).1 _⟩
   match Z,u with
   |[],u=>cases u;simp
   |[E],u=>
    obtain⟨a,O,P⟩:=c_ u;cases P;exact .inr ⟨E,Y,Y,(A _ _ _ E s D O).2.1 _⟩
  .exact bD h
 .exact bD h
theorem ir:∀n X y N e m,GoodO X j Δ b y N->dH Δ n y N e=J m->lL X j e m:=by
 intro n
 induction n with
 |zero=>exact λ_ _ _ _ _ _ h=>nomatch h
 |succ n Z=>
  intro X y N e m G h;have k:=λe m q=>Z X y N e m G q
  cases e with
  |Name x pos=>exact EB G h
  |Constant c D pos=>exact Bn h
  |BinOp a E d pos=>exact BQ h λA F u w=>bK (λg=>yC ((k a A u).1 g) ((k d F w).1 g)) Y λ_=>Y
  |UnaryOp E a pos=>
   cases E with
   |USub=>exact Ng h λA u=>bK (λg=>Ib ((k a A u).1 g)) Y λ_=>Y
   |Not=>exact Ng h λA u=>⟨λg=>Ik ((k a A u).1 g),λg=>yH ((k a A u).2.1 g),Y⟩
   |_=>exact bD h
  |BoolOp E K pos=>
   cases K with
   |nil=>exact bD h
   |cons a r=>
   cases r with
   |nil=>exact bD h
   |cons d r=>exact xa (uZ (pos:=pos) k (show m_ (dH Δ n y N) E (a::d::r)=J m from h)) λq1 q2=>⟨q1,λg=>(q2 g).pt,Y⟩
  |Compare a O cs pos=>
   refine bN (mL (show Lj (dH Δ n y N) a O cs=J m from h) λq hq h=>⟨q,hq,h⟩) λq hq h=>?_
   obtain⟨⟨E,d,r⟩,P,Q⟩:=q;subst P Q;cases r with
   |none=>exact Gz h λR h=>BQ h λA F u w=>have c:=λg=>kL G.hu (uD (A4:=E) R) ((k a A u).1 g) ((k d F w).1 g);⟨λg=>(c g).1,λg=>(c g).2,Y⟩
   |some r=>exact Gz h λR h=>Lh h λA F mc u w C=>have hm:ų [E,r.1] [d,r.2]=false:=uD (A4:=r.1) R;⟨λg=>Ip G.hu hm ((k _ _ u).1 g) ((k _ _ w).1 g) ((k _ _ C).1 g),λg=>Iq G.hu hm ((k _ _ u).1 g) ((k _ _ w).1 g) ((k _ _ C).1 g),Y⟩
  |IfExp t a d pos=>exact Lh h λmt A F u w C=>⟨λg=>Im ((k _ _ u).2.1 g) ((k _ _ w).1 g) ((k _ _ C).1 g),λg=>Io ((k _ _ u).2.1 g) ((k _ _ w).2.1 g) ((k _ _ C).2.1 g),Y⟩
  |Subscript a s pos=>
   have S:∀d,isSlice d=_d->o2 (dH Δ n y N a) (dH Δ n y N d) (m2 aR)=J m->lL X j (.Subscript a d pos) m:=λd T h=>BQ h λA F u w=>bK (λg=>sM (by have:=G.hu;omega) (λo i=>by cases d<;>first|rfl | (cases T)) ((k _ _ u).1 g) ((k _ _ w).1 g)) Y λ_=>Y
   cases s with
   |Slice lo H st p2=>
    cases st with
    |none=>exact Lh h λA l r u w C=>bK (λg=>Ii ((k _ _ u).1 g) (u_ k w) (u_ k C)) Y λ_=>Y
    |some e=>
     cases lo with
     |none=>
      cases H with
      |none=>exact bD h
      |some _=>exact bD h
     |some _=>exact bD h
   |_=>exact S _ Y h
  |List es pos=>exact Ng h λas u=>bK (λg=>m3 ((bB k u).1 g)) Y λ_=>Y
  |Tuple es D pos=>exact Ng h λas u=>bK (λg=>jm ((bB k u).1 g)) Y λ_=>Y
  |Attribute o f pos=>exact IS h λT h=>BQ h λCs U u w=>bK (λg=>yU (G.fld f Cs u) (cH T) ((k o U w).1 g)) Y λ_=>Y
  |Call f args I pos=>
   cases f with
   |Name x p=>
    cases I with
    |nil=>
     replace h:(match oX y (dH Δ n y N) x args with|J m=>J m|_n=>ng Δ y N (dH Δ n y N) x args)=J m:=h
     cases H:oX y (dH Δ n y N) x args with
     |some m'=>
      rw[H]at h;exact Bl h (IW G k H)
     |none=>
      rw[H]at h;exact EF G k h
    |cons _ _=>exact bD h
   |Attribute o mm p1=>
    cases I with
    |nil=>
     refine IS (c:=p1.endLine==pos.line&&dR o&&decide (args.length<20)) h λM h=>mL h λU u h=>mL h λas w h=>?_
     simp only[Õ,decide_eq_true_eq]at M;exact bK (λg=>ED G M.1.2 M.1.1 M.2 ((k o U u).1 g) w k h) Y λ_=>Y
    |cons _ _=>exact bD h
   |_=>exact bD h
  |ListComp a0 gens scope pos=>
   cases hg:qz gens with
   |none=>exact oY hg h
   |some q=>
    obtain⟨x,px,iter,b0⟩:=q;obtain rfl:=qC hg;refine xe (mu (λX y N e m G q=>Z X y N e m G q) G h) λme V=>bu V λnc mc mi c0 z b1 b2 b3 b4 V=>xa V λb5 b6=>?_
    subst z;exact bK (λg=>Ef G.calm b1 b4 (b5 g) b2 b3 b6) Y λ_=>Y
  |Dict ks K pos=>
   cases ks with
   |nil=>
    cases K with
    |nil=>exact Bl h (bK (λg=>Bh) Y λ_=>Y)
    |cons _ _=>exact bD h
   |cons k0 r=>
    refine mL (show(Li (k0::r) K).bind _=J m from h) λq _ h=>?_
    obtain⟨⟨k0,v0⟩,P,Q⟩:=q;subst Q;rw[P];exact BQ h λmk mv w C=>bK (λg=>wR (by have:=G.hu;omega) ((k _ _ w).1 g) ((k _ _ C).1 g)) Y λ_=>Y
  |_=>exact bD h
structure eI(X:Cx)(κ:L->f'->Prop)(T:aV)(k:Nat)(sc:V')(N:B L):Prop extends GoodO X κ T k sc N where
 own:Ű (B' X.prog X.w) X.A X.env X.xe
 VC:∀x,DD sc x=_t->T.fz.contains x=_d->(X.fn x=_t\/X.env.scope.names.lookup x=J .local)
 tZ:N.Nodup
 kind:sc.kind=.function
 k_:T.xt=_d->∀e s,¬ X.xe e s
def kR(f:O'->_o SM):B O'->_o SM
 |[]=>J ag
 |s::r=>o2 (f s) (kR f r) af
def sW(f:p'->_o EM)(b:V')(iter:p'):_o IM:=match itC iter with
 |J c=>(match c.1.2 with
  |[a]=>if c.1.1==("enumerate")then (if AL b c.1.1 then (f a).map sP else _n)else jF f b iter
  |_=>jF f b iter)
 |_n=>match itM iter with
  |J o=>if o.1.2.1==("items")&&o.1.2.2.1.endLine==o.1.2.2.2.line&&dR o.1.1 then (f o.1.1).map lJ else jF f b iter
  |_n=>jF f b iter
set_option backward.match.sparseCases false in
noncomputable def RL(e:p'):_o {_u:Unit // ∃p,e=.Dict [] [] p}:=match e with
 |.Dict [] [] _=>J ⟨(),_,Y⟩
 |_=>_n
def RM(e):=(RL e).isSome
theorem EI(h:RM n=_t):∃p,n=.Dict [] [] p:=by
 obtain⟨⟨_,h⟩,_⟩:=abH.mp h;exact h
def qQ(T:aV)(a N x):=if T.fz.contains x then _n else uE a N x
def sX(T:aV)(a N)(nms:B (L×K')):=if nms.any (λy=>T.fz.contains y.1)then _n else sG a N nms
def EJ(T)(c:B L)(k a N x b e)(pos:K'):=(qQ T a N x).bind λi=>
 if c.contains x&&RM e then J (aJ i Nf)else (dH T k a N e).bind λm=>if uF a x b e then (if pos.line==b.line then J (aJ i m)else _n)else J (aJ i m)
def EK(T k a N b e):=(gH b).bind λnms=>(sX T a N nms).bind λc=>(dH T k a N e).bind λm=>if DG e then J (Eh c m)else _n
noncomputable def YA:p'->Bool
 |.Call (.Attribute (.Attribute ..) m _) [] [] _=>m==("items")
 |_=>_d
def EL(b:Bool)(a:D->a_->_o a_)(d c):=if b then RJ a d c else dW a d c
theorem EN(h:jr c j w ω (dW A6 E2 υ)):jr c j w ω (EL E A6 E2 υ):=by
 unfold EL;split
 .exact EH h
 .exact h
set_option backward.match.sparseCases false in
def Np(R:B O'->_o SM)(T n k d N)(st:O'):=match st with
  |.Return _n _=>J uT
  |.Return (J e) _=>J (match dH T k d N e with
   |J m=>a7 m
   |_n=>bV)
  |.Assign [.Name x p] e h=>EJ T n k d N x p e h
  |.Assign [.Tuple j _ _] e _=>EK T k d N j e
  |.Assign [.Attribute o f _] e _=>if dR o&&!lA e then o2 (T.fld.lookup f) (o2 (dH T k d N o) (dH T k d N e) ģ) λl y=>cx l f y.1 y.2 else _n
  |.Assign [.Subscript o i _] e _=>if isSlice i||lA e then _n else o2 (dH T k d N o) (o2 (dH T k d N i) (dH T k d N e) ģ) λx y=>dY x y.1 y.2
  |.Expr e _=>if lA e then _n else (dH T k d N e).map cA
  |.If c a b _=>o2 (dH T k d N c) (o2 (R a) (R b) ģ) λx y=>cw x y.1 y.2
  |.While c b [] _=>o2 (dH T k d N c) (R b) Eg
  |.For (.Name x _) g b [] _=>if isSet g then _n else o2 (qQ T d N x) (o2 (jF (dH T k d N) d g) (R b) ģ) λi y=>dW (dv i) y.1 y.2
  |.For (.Tuple j _ _) g b [] _=>if isSet g then _n else (gH j).bind λnms=>o2 (sX T d N nms) (o2 (sW (dH T k d N) d g) (R b) ģ) λq y=>EL (YA g) (fY q) y.1 y.2
  |.Raise _ _ _=>J bV
  |.AugAssign r s v _=>(Lk r s v).bind λa=>o2 (T.fld.lookup a.2.1) (dH T k d N a.1) λl m=>yX l a.2.1 m a.2.2
  |.Try b (_::_) [] [] _=>if T.xt then _n else R b
  |_=>_n
def Nq(T:aV)(a:B L)(k:Nat)(b:V')(N:B L):Nat->O'->_o SM
 |0,_=>_n
 |n+1,c=>Np (kR (Nq T a k b N n)) T a k b N c
theorem IY(hg:Gl c "enumerate")(hm:c.mg "enumerate"=_n)(hs:D' [n] c.env=[(_d,eval n c.env)])(E:ba c j w n p):
  Bc c j w (.Tuple Z b o) (.Call (.Name "enumerate" T) [n] [] P1) (sP p):=by
 intro c0 Z0 H0 ρ Ω;refine PI.imp (DL hg hm (fO (E c0 Z0 H0 ρ Ω) rE hs) hs) ?_;rintro σ H R ⟨α,M,S,g⟩;refine⟨α,M,S,vL.use g λx d0 _ v Q r Z1 g1 F r1 z=>?_⟩
 have a0:∀{h:B f'}{N:f'->Prop}{t:aA}{A:Hp}{i:Nat}{v:V}{d':D},bp j h N t A->au h N A d' v->∀T,A T=_n->∃Z3,b9 h N A h Z3 (upd A T (.t [.int i,v]))/\bp j h Z3 t (upd A T (.t [.int i,v]))/\au h Z3 (upd A T (.t [.int i,v])) (.t [.int (0+i:Nat),d']) (.ref T):=λ{h N t A i v d'} C rv T hp=>by
  obtain⟨s3,g3⟩:=C.qH (i:=T) (T2:=.t [.int i,v]) hp True;simp only[if_true]at s3 g3;refine⟨Zp N T,g3,s3,?_⟩;refine⟨T,_,Y,.inr Y,aD,cj.mpr (.cons ?_ (.one (C.cE g3 rv)))⟩;simp only[au];simp
 cases U:dq d0 x with
 |none=>
  simp only[U]at z
  have wl:∀{r:B f'}{Z1:f'->Prop}{Q:Hp}{k:Nat}{n:f'}{a:Obj}{l:B (Key×V)},r[k]?=J n->Q n=J (.cX a (.dK l))->Ed j (.Rz k) (DK n a) r Z1 Q:=by
   intro r Z1 Q k n a l E hf h N t A ds X C s;have e0:=X.pre k n E;have G:=X.cX n _ _ hf;simp only[du]at s;split at s
   .rename_i l0 hk
    cases s;obtain⟨a',m,of,f,K,O⟩:=C.cell hk;rw[e0]at m;cases m
    rw[G]at K;cases K
    have hl:=O.length;refine⟨λi d hd=>?_,λi hi=>⟨l,G,by rw[mU,ß]at hi;exact N' (Á hl) hi⟩⟩
    obtain⟨d',I,rfl⟩:=mV _ 0 i d hd;rw[Ü]at I;obtain⟨T,hp,rfl⟩:=È.mp I;obtain⟨q,U,e1,e2⟩:=aE.get O hp;refine⟨⟨l,G,(Ê.mp U).1⟩,λy H3 P=>?_⟩
    obtain⟨pp,rfl,f0,P⟩:=P;obtain⟨kv,b0,rfl⟩:=P l G;rw[U]at b0;cases b0
    exact a0 C (by rw[e1];cases q.1<;>simp only[fK,kV,au]) pp f0
   .exact bD s
  unfold yQ at z;split at z
  .rename_i k
   obtain⟨n,E,rfl⟩:=r1;split at z
   .rename_i l hk
    obtain⟨a',m,f,K,O⟩:=F.cell hk;rw[E]at m;cases m
    refine⟨n,Y,.inr ⟨f,.inl ⟨K,λa=>?_⟩⟩⟩
    obtain⟨C,X⟩:=F.put (c:=.dF l) (o:=.cX a (.dK f)) E (λa u q=>by rw[K]at q;cases q) λR hR=>⟨a,f,aD,O.imp hR⟩
    exact z _ _ _ _ X C (wl E aD)
   .rename_i l hk
    obtain⟨a',m,a,f,K,O⟩:=F.cell hk;rw[E]at m;cases m
    exact⟨n,Y,.inr ⟨f,.inr ⟨a,K,z _ Q r Z1 (b9.refl F.has) F (wl E K)⟩⟩⟩
   .exact z.elim
  .exact z.elim
 |some m0=>
  simp only[U]at z;have g0:=r1;obtain⟨n,h0,rfl,q1,q2⟩:=bx F r1 U;refine⟨n,Y,.inl ⟨⟨h0,mS q1⟩,?_⟩⟩;refine z _ Q r Z1 (b9.refl F.has) F ?_;intro h N t A ds X C s;obtain⟨i0,O,rfl⟩:=c_ s;have r2:=F.cE X g0;obtain⟨a',vs,e,h3,h4⟩:=bx C r2 O;cases e;refine⟨λi d hd=>?_,λi hi=>by rw[mU]at hi;exact⟨vs,mS h3,by rw[h4.length];exact hi⟩⟩
  obtain⟨d',I,rfl⟩:=mV i0 0 i d hd;obtain⟨v,hv,rv⟩:=h4.get I;refine⟨⟨vs,v,mS h3,hv⟩,λy H3 P=>?_⟩
  obtain⟨T,rfl,hp,P⟩:=P;obtain⟨j0,hw,rfl⟩:=P vs (mS h3);rw[hv]at hw;cases hw
  exact a0 C rv T hp
theorem Bp(y:dR n=_t)(z:(T.endLine==P1.line)=_t)(e:ba c j w n p):
  Bc c j w (.Tuple Z b o) (.Call (.Attribute n "items" T) [] [] P1) (lJ p):=by
 intro m A C D E;refine PI.imp (DJ (cH y) z (e m A C D E)) ?_;rintro U H R ⟨F,f,S,g⟩;refine⟨F,f,S,vL.use g λx G _ v V I X g1 i K h=>?_⟩
 unfold yO at h;split at h
 .obtain⟨n,e,rfl⟩:=K
  split at h
  .rename_i r s
   obtain⟨M,a,k,l,t⟩:=i.cell s;rw[e]at a;cases a
   refine⟨n,_,Y,.inl ⟨l,λd=>?_⟩⟩
   obtain⟨N,O⟩:=i.put (c:=.dF _) e (λd u q=>by simp_all) λR P=>⟨d,_,aD,t.imp P⟩
   exact h _ _ _ _ O N (qO e aD)
  .rename_i r s
   obtain⟨M,a,Q,k,l,t⟩:=i.cell s;rw[e]at a;cases a
   exact⟨n,_,Y,.inr ⟨Q,l,h _ _ _ _ (b9.refl i.has) i (qO e l)⟩⟩
  .exact h.elim
 .exact h.elim
theorem IZ{b d}(g:∀e s,¬ c.xe e s)(i:jA c j w X3 υ):jr c j w (.Try X3 (b::d) [] [] o) υ:=by
 intro k l m n p pins s r H D I h;refine adS (Ý (i _ l m n p _ s r H D I h) (λf a q=>?_) λe a q=>absurd q (g e a))
 cases f with
 |next=>exact Ļ q
 |_=>exact q
theorem y_(G:GoodO c j Δ b o0 l)(k:∀e d,P5 e=J d->lL c j e d)(h:sW P5 o0 n=J E2):∀f,Bc c j f (.Tuple Z m o) n E2:=by
 intro f;unfold sW at h;split at h
 .rename_i i _
  obtain⟨⟨g,args⟩,p,t,rfl⟩:=i;dsimp only at h;split at h
  .split at h
   .rename_i u
    obtain rfl:=eq_of_beq u;split at h
    .rename_i q
     obtain⟨r,e,rfl⟩:=c_ h;obtain⟨s,_,w⟩:=k _ r e;exact IY (G.gl q) (G.dB _ (by decide)) (by rw[bw w];rfl) (s f)
    .exact bD h
   .exact lM G k h f _
  .exact lM G k h f _
 .split at h
  .rename_i a _
   obtain⟨⟨a,z,s,A⟩,rfl⟩:=a;dsimp only at h;split at h
   .rename_i q
    simp only[Õ,beq_iff_eq]at q;obtain⟨⟨rfl,x⟩,y⟩:=q;obtain⟨r,e,rfl⟩:=c_ h;exact Bp y (by simpa using x) ((k a r e).1 f)
   .exact lM G k h f _
  .exact lM G k h f _
theorem Bq(G:eI c j Δ b o0 l)(h:uE o0 l d=J m):c.N[m]?=J d/\Loc c.env.scope d:=by
 unfold uE at h;split at h
 .rename_i a
  simp at a;refine⟨by rw[G.names];exact DE h,?_⟩
  rw[G.scope];have e:=a.1;unfold DD at e;unfold L2.Loc
  grind
 .exact bD h
theorem i3{X e g f}(i:∀s c,f s=J c->jr X e g s c):∀{d}{c},kR f d=J c->jA X e g d c
 |[],c,h=>by cases h;exact di
 |s::d,c,h=>by
  obtain⟨a,b,j,k,rfl⟩:=sQ h;exact bI (i s a j) (i3 i k)
theorem jv(G:eI c j Δ b o0 l)(h:qQ Δ o0 l d=J m):c.N[m]?=J d/\Loc c.env.scope d/\(c.fn d=_t\/c.env.scope.names.lookup d=J .local):=by
 unfold qQ at h;split at h
 .exact bD h
 .obtain⟨a,e⟩:=Bq G h
  refine⟨a,e,G.VC d ?_ (by grind)⟩
  unfold uE at h
  simp_all
theorem oZ{X c T k b N}(G:eI X c T k b N):∀{nms}{a},(∀y∈nms,T.fz.contains y.1=_d)->sG b N nms=J a->a.length=nms.length/\∀(j i:Nat) x,a[j]?=J i->nms[j]?=J x->X.N[i]?=J x.1/\Loc X.env.scope x.1/\(X.fn x.1=_t\/X.env.scope.names.lookup x.1=J .local)
 |[],a,_,h=>by cases h;simp_all
 |x::n,a,d,h=>by
  refine bN (ř.mp h) λi o h=>?_
  refine bN (ř.mp h) λe f h=>?_
  cases h;obtain⟨p,g⟩:=oZ G (λy l=>d y (by simp[l])) f
  refine⟨by simp_all,λj m y q e2=>?_⟩
  cases j with
  |zero=>
   exact jv G (by unfold qQ;simp_all)
  |succ j=>exact g j m y (by simp_all) (by simp_all)
variable{J9:B (L×K')}
theorem vb(G:eI c j Δ b o0 l)(e:gH Z=J J9)(f:sX Δ o0 l J9=J π):PG c (.Tuple Z m o) (vS c.K π.length (ie π)):=by
 obtain rfl:=mn e
 have a:(∀y∈J9,Δ.fz.contains y.1=_d)/\sG o0 l J9=J π:=by
  unfold sX at f
  grind
 obtain⟨d,g⟩:=oZ G a.1 a.2;obtain⟨h,i⟩:=qF _ _;exact B_ G.calm (qy (nms:=J9) (by rw[G.names];exact G.tZ) π _ d g) (by rw[h,d]) i
theorem vc(G:eI c j Δ b o0 l):
  ì (.ListComp n E9 E8 o) (J (.Name d T)) m c.env=pure (uF o0 d T (.ListComp n E9 E8 o)):=by
 have a:c.env.blockKind=.function:=by
  show(if c.env.scope.kind.isAnnotationScope=_t then agM else c.env.scope.kind)=_
  rw[G.scope,G.kind];rfl
 show pure _=_
 rw[a]
 show pure (_t&&c.env.scope.names.lookup d==J _&&T.line==o.line&&!(E8.names.any _))=_
 rw[G.scope];rfl
theorem za(G:eI c j Δ b o0 l)(t:qQ Δ o0 l d=J P)(h:dH Δ m o0 l n=J p)(u:uF o0 d o n=_t->T.line=o.line):jr c j w (.Assign [.Name d o] n T) (aJ P p):=by
 refine mO (jv G t) λk x y=>?_
 have r:c.N.Nodup:=by rw[G.names];exact G.tZ
 have plain:ì n (J (.Name d o)) T.line _=pure _->jr c j w _ _:=λq=>f_ r k x y q ((ir m c o0 l n p G.toGoodO h).1 w)
 cases n with
 |ListComp z gens scope e=>
  cases a:uF o0 d o _ with
  |false=>exact plain (by rw[vc G,a])
  |true=>
   cases m with
   |zero=>exact bD h
   |succ m=>
   cases s:qz _ with
   |none=>exact oY s h
   |some q=>
    obtain rfl:=qC s;refine xe (mu (λc o0 l n p G q=>ir m c o0 l n p G q) G.toGoodO h) λK f=>bu f λM O Q A g C D E F i=>xa i λH I=>?_;subst g
    exact Ej r k (by
     rw[G.scope];unfold uF at a;simp only[Õ,beq_iff_eq]at a;exact a.1.1) (by rw[vc G,a]) G.calm C F (ml 1 (by decide)) (oP (H w) D E I) (u a)
 |SetComp=>cases m<;>exact bD h
 |DictComp=>cases m<;>exact bD h
 |_=>exact plain Y
theorem o_(h:lA n=_d):ì n r8 b D5=pure false:=by
 cases n<;>first|rfl | (cases h)
theorem zb(G:eI c j Δ b o0 i0){R}(B:∀V υ,R V=J υ->jA c j w V υ)(h:Np R Δ l m o0 i0 ω=J υ):jr c j w ω υ:=by
 have E:=λe d q=>ir m c o0 i0 e d G.toGoodO q
 have X:c.N.Nodup:=by rw[G.names];exact G.tZ
 cases ω with
 |Return v k=>
  cases v with
  |none=>exact Bl h Ei
  |some e=>
   refine Bl h ?_;split
   .exact eg ((E e _ ‹_›).1 w)
   .exact lK
 |Assign ts e k=>
  cases ts with
  |nil=>exact bD h
  |cons t r=>
  cases r with
  |cons t2 r=>cases t<;>exact bD h
  |nil=>
  cases t with
  |Name x Z=>
   refine mL (show EJ Δ l m o0 i0 x Z e k=J υ from h) λi H I=>?_
   split at I
   .rename_i hd
    refine xe (EI (Ø.mp hd).2) λpd z=>?_
    subst z;exact mO (jv G H) λK M O=>Bl I (f_ X K M O Y Bi)
   .refine mL I λd hm h=>?_
    split at h
    .exact IS h λhl h=>Bl h (za G H hm λ_=>eq_of_beq hl)
    .exact Bl h (za G H hm λq=>absurd q ‹_›)
  |Tuple es y p=>
   exact mL (show EK Δ m o0 i0 es e=J υ from h) λnms P h=>mL h λis n h=>mL h λd D h=>IS h λhp h=>Bl h (IF (vb G P n) hp ((E e d D).1 w))
  |Attribute o f p=>exact IS h λF h=>Lh h λQ mo S n s u=>IH (G.fld f Q n) (o_ (by simpa using (Ø.mp F).2)) ((E o mo s).1 w) ((E e S u).1 w)
  |Subscript o i p=>exact Gz h λF h=>Lh h λmd mk S n s u=>Er (by have:=G.hu;omega) ((E o md n).1 w) ((E i mk s).1 w) ((E e S u).1 w) (o_ (ae0.mp F).2)
  |_=>exact bD h
 |Expr e k=>exact Gz h λF h=>Ng h λd n=>yS (o_ F) ((E e d n).1 w)
 |If T a g k=>exact Lh h λd ca A n s u=>oQ ((E T d n).2.1 w) (B a ca s) (B g A u)
 |While T g e k=>
  cases e with
  |nil=>exact BQ h λd A n D=>Be G.own ((E T d n).2.1 w) (B g A D)
  |cons _ _=>exact bD h
 |For U it g e k=>
  cases e with
  |nil=>
   cases U with
   |Name x Z=>exact Gz h λC h=>Lh h λi mi A n s u=>mO (jv G n) λK M O=>yT G.own G.calm (lM G.toGoodO E s w _) (ke X K M O) (Nc i) (B g A u) (kH C)
   |Tuple es y p=>exact Gz h λC h=>mL h λnms P h=>Lh h λis mi A n s u=>EN (yT G.own G.calm (y_ G.toGoodO E s w) (vb G P n) (El is) (B g A u) (kH C))
   |_=>exact bD h
  |cons _ _=>cases U<;>exact bD h
 |Raise _ _ _=>exact Bl h lK
 |AugAssign U op v k=>
  refine mL h λa ha h=>?_
  refine xe (Bo ha) λp zy=>aP zy λj' q z1 z2 z3=>?_
  subst z1 z2 z3;exact BQ h λQ d n D=>EG (G.fld _ Q n) ((E _ d D).1 w)
 |Try g C oe fi k=>
  cases C with
  |nil=>exact bD h
  |cons h0 C=>
  cases oe with
  |cons _ _=>exact bD h
  |nil=>
  cases fi with
  |cons _ _=>exact bD h
  |nil=>exact Gz h λhx h=>IZ (G.k_ hx) (B g υ h)
 |_=>exact bD h
theorem zc{X b e T f k d N}(G:eI X b T k d N):∀n a st c,Nq T f a d N n st=J c->jr X b e st c
 |0,_,_,_,h=>nomatch h
 |n+1,a,_,_,h=>zb G (λ_ _ q=>i3 (zc G n a) q) h
def aZ(b:L->_o g'):=λC a=>b C=J (.ref a)
structure cq(P:W')(w:T')(K:G')(mg:L->_o g')(base:F')(T:aV)(k:Nat):Prop where
 dB:∀x∈er,mg x=_n
 mr:∀x F,T.mr.lookup x=J F->∃(f:f') (fd:Â) (ps:B L),mg x=J (.ref f)/\Î K (.ref f)=_t/\Binds K fd ps []/\bt P w K mg base dZ k f fd ps (sD F)
 fn:∀x F,T.fn.lookup x=J F->∃(f:f') (fd:Â) (ps:B L),mg x=J (.ref f)/\Î K (.ref f)=_t/\Binds K fd ps []/\bt P w K mg base dZ k f fd ps (bE (aZ mg) F)
 cst:∀x d,T.cst.lookup x=J d->∃v u,mg x=J u/\RelV v u/\MS d v
 met:∀m C F,(m,C,F)∈T.met->∃(Ca f:f') (fd:Â) (ps:B L),Lc P w K mg base (aZ mg) k C m F Ca f fd ps
 cls:∀C F,T.cls.lookup C=J F->∃j,j+1<=k/\∃(Ca f:f') (fd:Â) (ps:B L),aZ mg C Ca/\Mk K Ca f/\mg C=J (.ref Ca)/\Binds K fd ps []/\bt P w K mg base dZ j f fd ps (bE (aZ mg) F)
 fld:∀f Cs,T.fld.lookup f=J Cs->jQ K (aZ mg) Cs f
 clo:∀j F,T.clo[j]?=J F->uW P w K mg base (aZ mg) k j F
def EO(T a st N):=kR (Nq T a 60 (ah st) N 30) (bg st)
variable{F6:B Int}
theorem I_(f:Rd e i (.l (F6.map V.int)))(h:r [.l (F6.map D.int)] []=.ok (.bl _t) a):bE j r [.ref i] e (λv _=>v=.bl _t) E0:=by
 refine⟨[],λb=>b=i,[],[.l (F6.map D.int)],⟨by simp,.nil,by simp,λb c=>?_⟩,.one ?_,?_⟩
 .subst c
  rcases f with c|⟨o,c⟩<;>rw[c]<;>simp
 .refine⟨i,_,Y,Y,f,?_⟩
  clear h f
  induction F6 with
  |nil=>rfl
  |cons n F6 k=>exact cj.mpr (.cons (by rfl) (cj.mp k))
 .rw[h]
  intro v m l p g s d;simpa only [au]using d
theorem cq.mono{P w K n base T k}(W:cq P w K n base T k){j}(h:k<=j):cq P w K n base T j:=
 ⟨W.dB,λx F q=>bG (W.mr x F q) λf i l a b c d=>⟨f,i,l,a,b,c,d.mono h⟩,λx F q=>bG (W.fn x F q) λf i l a b c d=>⟨f,i,l,a,b,c,d.mono h⟩,W.cst,
  λm C F q=>let ⟨o,f,i,l,a,b,c,p,_,r,F1,d,s,t,e,g⟩:=W.met m C F q;⟨o,f,i,l,a,b,c,p,_,r,F1,d,s,t,e.mono h,g⟩,λC F q=>let ⟨u,y,z⟩:=W.cls C F q;⟨u,N' y h,z⟩,W.fld,λj F q=>(W.clo j F q).mono h⟩
noncomputable def aV.Ja(T:aV)(x:L)(F:B D->Out Rs):={T with mr:=(x,F)::T.mr}
noncomputable def aV.sY(T:aV)(x:L)(F):={T with fn:=(x,F)::T.fn}
noncomputable def aV.pS(T:aV)(C m:L)(F):={T with met:=(m,C,F)::T.met}
noncomputable def aV.Jb(T:aV)(C:L)(F):={T with cls:=(C,F)::T.cls}
noncomputable def aV.ER(T:aV)(f:L)(a:B L):={T with fld:=(f,a)::T.fld}
noncomputable def aV.sZ(T:aV)(x:L)(d):={T with cst:=(x,d)::T.cst}
theorem fg{a:Type}{F G:a}{l}(h:((d,F)::l).lookup C=J G):(C=d/\G=F)\/l.lookup C=J G:=by
 grind
theorem cq.start(a:∀x∈er,θ x=_n):cq M N G θ H {} 0:=
 ⟨a,by simp,by simp,by simp,by simp,by simp,by simp,by simp⟩
theorem cq.Ja{P w K a base T k}(W:cq P w K a base T k){x F f b c j}(d:a x=J (.ref f))(e:Î K (.ref f)=_t)(g:Binds K b c [])(h:bt P w K a base dZ j f b c (sD F))(i:j<=k):
  cq P w K a base (T.Ja x F) k:=
 ⟨W.dB,λy G q=>by
  rcases fg q with ⟨rfl,rfl⟩|q
  .exact⟨f,b,c,d,e,g,h.mono i⟩
  .exact W.mr y G q,W.fn,W.cst,W.met,W.cls,W.fld,W.clo⟩
theorem cq.sY{P w K b base T k}(W:cq P w K b base T k){x F f c d}(e:b x=J (.ref f))(g:Î K (.ref f)=_t)(i:Binds K c d [])(h:bt P w K b base dZ (k+1) f c d (bE (aZ b) F)):
  cq P w K b base (T.sY x F) (k+1):=by
 have a:=W.mono (Ā k)
 exact⟨a.dB,a.mr,λy G q=>by
  rcases fg q with ⟨rfl,rfl⟩|q
  .exact⟨f,c,d,e,g,i,h⟩
  .exact a.fn y G q,a.cst,a.met,a.cls,a.fld,a.clo⟩
theorem cq.pS{P w K c base T k}(W:cq P w K c base T k){C m F d f e g}(p:c C=J (.ref d))(j:pG K d)(M:Meth K d m f)(l:Binds K e g [])(h:bt P w K c base dZ (k+1) f e g (bE (aZ c) F)):
  cq P w K c base (T.pS C m F) (k+1):=by
 have b:=W.mono (Ā k)
 exact⟨b.dB,b.mr,b.fn,b.cst,λn o G q=>by
  rcases Ì.mp q with q|q
  .cases q
   refine⟨d,f,e,g,λa i=>?_,j,M,[],[],[],F,l,.nil,λ_ _ _=>.nil,h,by simp⟩
   have i:c C=J _:=i
   simp_all
  .exact b.met n o G q,b.cls,b.fld,b.clo⟩
theorem cq.RN(W:cq M N G θ H Δ b)(t:θ C=J (.ref i))(k:pG G i)(e:Meth G i d S)(m:Binds G j0 l A0)(n:Vals η A0)(o:∀α Z f,aE (au α Z f) P4 η)(h:bt M N G θ H dZ (b+1) S j0 l (bE (aZ θ) r)):
  cq M N G θ H (Δ.pS C d λxs=>r (xs++P4)) (b+1):=by
 have c:=W.mono (Ā b)
 exact⟨c.dB,c.mr,c.fn,c.cst,λp s g q=>by
  rcases Ì.mp q with q|q
  .cases q
   refine⟨i,S,j0,l,λa j=>?_,k,e,A0,_,P4,r,m,n,o,h,Y⟩
   have j:θ C=J _:=j
   simp_all
  .exact c.met p s g q,c.cls,c.fld,c.clo⟩
theorem cq.Jb{P w K b base T k}(W:cq P w K b base T k){C F c f d e j}(g:b C=J (.ref c))(M:Mk K c f)(i:Binds K d e [])(h:bt P w K b base dZ j f d e (bE (aZ b) F))(l:j<=k):
  cq P w K b base (T.Jb C F) (k+1):=by
 have a:=W.mono (Ā k)
 exact⟨a.dB,a.mr,a.fn,a.cst,a.met,λy G q=>by
  rcases fg q with ⟨rfl,rfl⟩|q
  .exact⟨j,ť l,c,f,d,e,g,M,g,i,h⟩
  .exact a.cls y G q,a.fld,a.clo⟩
theorem cq.ER{P w K a base T k}(W:cq P w K a base T k){f b}(h:jQ K (aZ a) b f):cq P w K a base (T.ER f b) k:=
 ⟨W.dB,W.mr,W.fn,W.cst,W.met,W.cls,λy G q=>by
  rcases fg q with ⟨rfl,rfl⟩|q
  .exact h
  .exact W.fld y G q,W.clo⟩
theorem cq.sZ{P w K a base T k}(W:cq P w K a base T k){x d v u}(b:a x=J u)(c:RelV v u)(e:kB d=J v):cq P w K a base (T.sZ x d) k:=
 ⟨W.dB,W.mr,W.fn,λy G q=>by
  rcases fg q with ⟨rfl,rfl⟩|q
  .exact⟨v,u,b,c,.inl e⟩
  .exact W.cst y G q,W.met,W.cls,W.fld,W.clo⟩
theorem cq.RO(W:cq M N G θ H Δ b)(c:θ d=J (.ref i)):cq M N G θ H (Δ.sZ d (.dct [] [])) b:=
 ⟨W.dB,W.mr,W.fn,λy a q=>by
  rcases fg q with ⟨rfl,rfl⟩|q
  .exact⟨.ref i,.ref i,c,Y,.inr Y⟩
  .exact W.cst y a q,W.met,W.cls,W.fld,W.clo⟩
theorem plain1(e:θ C=J (.ref i))(f:pG G i)(n:ç G (.ref i) d=J _n):jQ G (aZ θ) [C] d:=λg a c b=>by
 have c:=by simpa using c
 subst c;have b:θ g=J _:=b;rw[e]at b;cases b;exact⟨f,n⟩
def RP(F:az):Sp:=λa H Q E=>∀b,bE b F a H Q E
end Mir
namespace Mir
open PySem L2
variable{a:aA}
@[simp] theorem eE{α c b}{f:α->aA->ax c}:(ax.ok b a).bind f=f b a:=rfl
variable{B2:Type}{h:D}
@[simp] theorem YB{b}{f:B2->aA->ax b}:(ax.e h a).bind f=.e h a:=rfl
@[simp] theorem zd{α}{b:α}{k}:cC (.ok b a) k=k b a:=rfl
@[simp] theorem YD{k}:cC (.e h a:ax B2) k=.e h a:=rfl
variable{X1:ax D}
@[simp] theorem aaT:la (.ok h a) X1=.ok h a:=rfl
@[simp] theorem Nr:la .b X1=X1:=rfl
variable{i7:D->aA->ax D}{p:EM}{u:a_}
@[simp] theorem RQ:m1 i7 p u a=(p u a).bind i7:=rfl
variable{k7:D->D->aA->ax D}{ς:EM}
@[simp] theorem aaU:m2 k7 p ς u a=(p u a).bind λx b=>(ς u b).bind λy c=>k7 x y c:=rfl
variable{F7:B D->aA->ax D}{Q0:AM}
@[simp] theorem Ll:mN F7 Q0 u a=(Q0 u a).bind F7:=rfl
@[simp] theorem s_:aj u a=.ok [] a:=rfl
@[simp] theorem pa:ae p Q0 u a=(p u a).bind λx b=>(Q0 u b).bind λxs c=>.ok (x::xs) c:=rfl
noncomputable def vr:_o (_o D)->aA->ax D
 |J (J d),Ω=>.ok d Ω
 |_,_=>.b
@[simp] theorem Jc:vr (J (J h)) a=.ok h a:=rfl
variable{b:Nat}
@[simp] theorem eZ:aa b u a=vr u[b]? a:=by
 unfold aa;cases u[b]? with
 |none=>rfl
 |some o=>cases o<;>rfl
@[simp] theorem Jd:ai h u a=.ok h a:=rfl
variable{P2:Cell}
@[simp] theorem ze:fG a P2=.ok (.ref a.length) (a++[P2]):=rfl
noncomputable def tb(a:aA):_o Bool->ax Bool
 |J b=>.ok b a
 |_n=>.b
variable{E:Bool}
@[simp] theorem Je:tb a (J E)=.ok E a:=rfl
@[simp] theorem td:eH (.ok h a)=tb a (kJ a h):=by rfl
@[simp] theorem VD:kJ a (.bl E)=J E:=rfl
variable{Q:Int}
noncomputable def PC(t:_o Bool)(a b:ax D):=match t with
 |J _t=>a
 |J _d=>b
 |_n=>.b
variable{w9:ax D}
@[simp] theorem aaV:Mir.PC (J _t) X1 w9=X1:=rfl
@[simp] theorem aaW:Mir.PC (J _d) X1 w9=w9:=rfl
@[simp] theorem VE:fJ p ς u a=(p u a).bind λx b=>Mir.PC (kJ b x) (ς u b) (.ok x b):=by
 rfl
@[simp] theorem YG:pQ p ς u a=(p u a).bind λx b=>Mir.PC (kJ b x) (.ok x b) (ς u b):=by
 unfold pQ;cases p u a with
 |ok x b=>
  simp;cases kJ _ x with
  |none=>rfl
  |some t=>cases t<;>rfl
 |e x b=>rfl
 |b=>rfl
@[simp] theorem Jf:dz p u a=(eH (p u a)).bind λt b=>.ok (.bl (!t)) b:=rfl
variable{V4:EM}
@[simp] theorem YH:DW V4 p ς u a=(eH (V4 u a)).bind λt b=>if t=_t then p u b else ς u b:=rfl
@[simp] theorem tf{g}:MQ i7 g h a=la (i7 h a) (g h a):=rfl
variable{ε:D}
@[simp] theorem gb{g}:lD k7 g h ε a=la (k7 h ε a) (g h ε a):=rfl
variable{q:B D}
@[simp] theorem VF{g}:oJ F7 g q a=la (F7 q a) (g q a):=rfl
@[simp] theorem Jg:fx p ς u a=la (p u a) (ς u a):=rfl
@[simp] theorem Nt:et a b (.bl E)=J (.bl E):=by cases b<;>rfl
@[simp] theorem zg:et a b (.int Q)=J (.int Q):=by cases b<;>rfl
variable{d:L}
@[simp] theorem th:et a b (.str d)=J (.str d):=by cases b<;>rfl
@[simp] theorem YI{α a}{f:α->_o a}:bq f []=J []:=rfl
noncomputable def oc{α:Type}:_o α->_o (B α)->_o (B α)
 |J y,J a=>J (y::a)
 |_,_=>_n
@[simp] theorem VH{α}{y:α}{a}:oc (J y) (J a)=J (y::a):=rfl
@[simp] theorem zh{α a}{f:α->_o a}{x xs}:bq f (x::xs)=oc (f x) (bq f xs):=by
 rfl
theorem jS{α a:Type}{b f}{g:α->a}{h:α->b}(e:∀x,f (g x)=J (h x)):∀xs:B α,bq f (xs.map g)=J (xs.map h)
 |[]=>Y
 |x::xs=>by rw[Ù,zh,e,jS e xs];rfl
variable{l:B L}
@[simp] theorem zi:bq (et a b) (l.map .str)=J (l.map .str):=jS (λ_=>th) l
variable{F6:B Int}
@[simp] theorem Jh:bq (et a b) (F6.map .int)=J (F6.map .int):=jS (λ_=>zg) F6
variable{P4:B D}
theorem Ji(h:bq (et a b) q=J P4):et a (b+1) (.l q)=J (.l P4):=by simp only[et,h,ņ]
theorem zj(h:bq (et a b) q=J P4):et a (b+1) (.t q)=J (.t P4):=by simp only[et,h,ņ]
variable{m:Nat}
theorem jw(c:a[m]?=J (.l q))(h:bq (et a b) q=J P4):et a (b+1) (.ref m)=J (.l P4):=by simp only[et,c,h,ņ]
theorem gZ(c:a[m]?=J (.l (l.map .str))):et a (b+1) (.ref m)=J (L1 l):=jw c zi
@[simp] theorem YJ:et a (b+1) (SC F6)=J (SC F6):=Ji Jh
@[simp] theorem VI:ik a (.ok (E,.int Q))=.ok (.int Q) a:=rfl
variable{X2:Bool}
@[simp] theorem YK:ik a (.ok (E,.bl X2))=.ok (.bl X2) a:=rfl
@[simp] theorem VJ:ik a (.ok (E,.str d))=.ok (.str d) a:=rfl
def vN(a:aA)(f:B D->Out Rs):_o (B D)->ax D
 |J b=>ik a (f b)
 |_n=>.b
variable{m4:B D->Out Rs}
@[simp] theorem Jj:vN a m4 (J q)=ik a (m4 q):=rfl
@[simp] theorem Jk:ey m4 q a=vN a m4 (bq (et a 8) q):=by rfl
def v1(a:aA)(f:D->Out Rs):_o D->ax D
 |J d=>ik a (f d)
 |_n=>.b
variable{R9:D->Out Rs}
def v2(a:aA)(f:D->D->Out Rs):_o D->_o D->ax D
 |J d,J e=>ik a (f d e)
 |_,_=>.b
variable{T9:D->D->Out Rs}
@[simp] theorem nj:v2 a T9 (J h) (J ε)=ik a (T9 h ε):=rfl
@[simp] theorem zk:eG T9 h ε a=v2 a T9 (et a 8 h) (et a 8 ε):=by rfl
@[simp] theorem RT:D_ .len [.str d]=if small d.length=_t then .ok (_d,.int d.length)else .b:=rfl
@[simp] theorem ES:D_ .all [.l q]=DM (λbs=>bs.all id) (gy q):=rfl
@[simp] theorem RU:D_ .any [.l q]=DM (λbs=>bs.any id) (gy q):=rfl
variable{r:az}
@[simp] theorem RV:aQ r q a=IG (r q a):=rfl
@[simp] theorem Nu:IG (.ok h a)=.ok h a:=rfl
variable{A4:ñ}
@[simp] theorem jx:d9 A4 h ε a=v2 a (λh ε=>do let r ←gk A4 h ε;Out.ok (_d,D.bl r)) (et a 8 h) (et a 8 ε):=by rfl
@[simp] theorem Jl:ay .Eq h ε a=la (d9 .Eq h ε a) (wL h ε a):=rfl
@[simp] theorem tj:ay .NotEq h ε a=d9 .NotEq h ε a:=rfl
@[simp] theorem VP:ay .Lt h ε a=d9 .Lt h ε a:=rfl
@[simp] theorem VQ:ay .LtE h ε a=d9 .LtE h ε a:=rfl
@[simp] theorem VR:ay .Gt h ε a=d9 .Gt h ε a:=rfl
@[simp] theorem VS:ay .GtE h ε a=d9 .GtE h ε a:=rfl
@[simp] theorem Jm:ay .In h ε a=la (d9 .In h ε a) (lF _d h ε a):=rfl
@[simp] theorem jT:ay .NotIn h ε a=la (d9 .NotIn h ε a) (lF _t h ε a):=rfl
@[simp] theorem ET:bb .Add h ε a=la (AU h ε a) (eG (gx .Add) h ε a):=rfl
@[simp] theorem RY:bb .Sub h ε a=eG (gx .Sub) h ε a:=rfl
@[simp] theorem PV:bb .Mult h ε a=eG (gx .Mult) h ε a:=rfl
@[simp] theorem RZ:bb .Mod h ε a=eG (gx .Mod) h ε a:=rfl
@[simp] theorem VU:bb .FloorDiv h ε a=eG (gx .FloorDiv) h ε a:=rfl
@[simp] theorem VW:dq a (.int Q)=none:=rfl
@[simp] theorem VX:dq a (.str d)=none:=rfl
theorem a9(h:a[b]?=J (.l q)):dq a (.ref b)=J q:=by simp only[dq,h]
theorem kT(h:a[b]?=J (.l q)):sN a (.ref b)=J (b,q):=by simp only[sN,h]
variable{C:L}{U1:B (L×D)}
theorem kU(h:a[b]?=J (.ins C U1)):pR a (.ref b)=J (b,C,U1):=by simp only[pR,h]
def ct(a:aA):_o (B D)->_o (B D)->ax D
 |J b,J c=>if small (b.length+c.length)then .ok (.ref a.length) (a++[.l (b++c)])else .b
 |_,_=>.b
@[simp] theorem Jn:ct a (J q) (J P4)=if small (q.length+P4.length)then .ok (.ref a.length) (a++[.l (q++P4)])else .b:=rfl
@[simp] theorem aaX{o}:ct a _n o=.b:=rfl
@[simp] theorem Jo:AU h ε a=ct a (dq a h) (dq a ε):=by rfl
@[simp] theorem Jp:jz a (.t q)=J q:=rfl
@[simp] theorem br:jz a (.ref b)=dq a (.ref b):=rfl
def ixs(a:aA):_o (B D)->D->ax D
 |J b,.int i=>match L2.ll b i with
  |J d=>.ok d a
  |_n=>.b
 |_,_=>.b
theorem kW:MW h ε a=ixs a (jz a h) ε:=by rfl
theorem wX(b:L2.ll q Q=J h):ixs a (J q) (.int Q)=.ok h a:=by simp only[ixs,b]
theorem aU(c:a[b]?=J (.l q))(d:L2.ll q Q=J h):aR (.ref b) (.int Q) a=.ok h a:=by
 unfold aR;rw[gb,kW,br,a9 c,wX d];rfl
theorem fB(b:L2.ll q Q=J h):aR (.t q) (.int Q) a=.ok h a:=by
 unfold aR;rw[gb,kW,Jp,wX b];rfl
@[simp] theorem Wa:b_ q a=if small q.length then .ok (.ref a.length) (a++[.l q])else .b:=rfl
noncomputable def fl(a:aA)(b:B L)(f:L):_o (Nat×L×B (L×D))->ax D
 |J (_,C,fs)=>if b.contains C then (match fs.lookup f with
  |J d=>.ok d a
  |_n=>.b)else .b
 |_n=>.b
theorem tm(c:a[b]?=J (.ins C U1))(e:l.contains C=_t)(f:U1.lookup d=J h):bc l d (.ref b) a=.ok h a:=by
 unfold bc;rw[kU c];simp_all
noncomputable def sq(r:eA)(b:SM):=match r with
 |.nx a c=>b a c
 |r=>r
variable{υ:SM}
@[simp] theorem Lm:sq (.nx u a) υ=υ u a:=rfl
@[simp] theorem aaY:sq (.rt h a) υ=.rt h a:=rfl
@[simp] theorem YL:sq (.e h a) υ=.e h a:=rfl
variable{z5:SM}
@[simp] theorem gc:af υ z5 u a=sq (υ u a) z5:=by rfl
@[simp] theorem R_:ag u a=.nx u a:=rfl
@[simp] theorem Wc:aJ b p u a=cC (p u a) λd c=>.nx (u.set b (J d)) c:=rfl
@[simp] theorem zl:cA p u a=cC (p u a) λ_ b=>.nx u b:=rfl
@[simp] theorem Jq:a7 p u a=cC (p u a) λd b=>.rt d b:=rfl
@[simp] theorem EU:cw p υ z5 u a=cC (eH (p u a)) λt b=>if t=_t then υ u b else z5 u b:=rfl
variable{π:B Nat}
@[simp] theorem We:Bj (.rt h a)=.ok h a:=rfl
@[simp] theorem Wf:Bj (.nx u a)=.ok .n a:=rfl
theorem eJ(h:q.length=m):aw b m υ q a=Bj (υ (c7 b q) a):=by unfold aw;rw[if_pos h]
@[simp] theorem nk:cP p u a=(p u a).bind λx b=>srcOf b x:=rfl
theorem g_(b:jz a h=J q):srcOf a h=.ok (.seq h) a:=by unfold srcOf;rw[b]
@[simp] theorem Sb:dX Q0 u a=(Q0 u a).bind yR:=rfl
@[simp] theorem Wh:yR [.int Q] a=if wt Q then .ok (.ints 0 Q.toNat) a else .b:=rfl
@[simp] theorem e_:du (.seq h) a=jz a h:=rfl
variable{A6:D->a_->_o a_}{E2:IM}
@[simp] theorem zm:dW A6 E2 υ u a=cC (E2 u a) λs b=>kP A6 s υ fuel 0 u b:=rfl
def Lo(r:eA)(I:a_->aA->Prop)(R:eA->Prop):=match r with
 |.nx a b=>I a b
 |.ct a b=>I a b
 |.bk a b=>R (.nx a b)
 |r=>R r
variable{R4:Src}
theorem pb(I:Nat->a_->aA->Prop){R}(k:∀i e b,I i e b->du R4 b=J q)(h:∀i d e b,q[i]?=J d->I i e b->∃j,A6 d e=J j/\Lo (υ j b) (I (i+1)) R)(p:∀e b,I q.length e b->R (.nx e b)):
  ∀f i e b,q.length - i<f->i<=q.length->I i e b->R (kP A6 R4 υ f i e b):=by
 intro f
 induction f with
 |zero=>exact λ_ _ _ h=>absurd h (Nat.not_lt_zero _)
 |succ f n=>
  intro i e b r s m;simp only[kP,k i e b m];have z:=λc=>P' (Nat.sub_succ_lt_self _ _ c) (Nat.le_of_lt_succ r)
  rcases ae1 s with c|rfl
  .have o:=Ô c
   rw[o];dsimp only;obtain⟨j,t,e2⟩:=h i _ e b o m;rw[t];dsimp only;cases a:υ _ b with
   |nx l g=>rw[a]at e2;exact n _ _ _ (z c) c e2
   |ct l g=>rw[a]at e2;exact n _ _ _ (z c) c e2
   |bk l g=>rwa[a]at e2
   |rt d g=>rwa[a]at e2
   |e x g=>rwa[a]at e2
   |b=>rwa[a]at e2
  rw[ň (R' _)];exact p _ _ m
theorem goZ(h:du R4 a=J q)(c:q[m]?=_n):vM E p ς 0 u R4 (b+1) m P4 a=.ok P4 a:=by
 rw[vM,h];dsimp only;rw[c]
variable{x:aA}
theorem goF(c:du R4 a=J q)(d:q[m]?=J h)(f:small (P4.length+1)=_t)(e:mJ E p ([J h]++u) a=.ok _d x):vM E p ς 0 u R4 (b+1) m P4 a=vM E p ς 0 u R4 b (m+1) P4 x:=by
 rw[vM,c];dsimp only;rw[d];dsimp only;rw[show uR 0 h=J [J h]from Y];dsimp only;rw[if_pos f,e]
variable{F3:aA}
theorem goT(c:du R4 a=J q)(d:q[m]?=J h)(f:small (P4.length+1)=_t)(e:mJ E p ([J h]++u) a=.ok _t x)(e':ς ([J h]++u) x=.ok ε F3):vM E p ς 0 u R4 (b+1) m P4 a=vM E p ς 0 u R4 b (m+1) (P4++[ε]) F3:=by
 rw[vM,c];dsimp only;rw[d];dsimp only;rw[show uR 0 h=J [J h]from Y];dsimp only;rw[if_pos f,e];dsimp only;rw[e']
theorem Se(a:q[b]?=J h):q.drop b=h::q.drop (b+1):=by
 obtain⟨c,rfl⟩:=Ê.mp a;exact acx c
theorem Nw(I:Nat->B D->aA->Prop)(C:q.length<=90000)(n:∀i a c,I i a c->du R4 c=J q)(F:∀i d a c,q[i]?=J d->I i a c->∃b g,mJ E p ([J d]++u) c=.ok b g/\(b=_d/\I (i+1) a g\/b=_t/\∃y j,ς ([J d]++u) g=.ok y j/\I (i+1) (a++[y]) j)):
  ∀f i a c,q.length<=i+f->i<=q.length->a.length<=i->I i a c->∃m aq,vM E p ς 0 u R4 (f+1) i a c=.ok m aq/\I q.length m aq:=by
 intro f
 induction f with
 |zero=>
  intro i a c r s o l;cases Nat.le_antisymm s r;exact⟨a,c,goZ (n _ _ _ l) (ň (R' _)),l⟩
 |succ f w=>
  intro i a c r s o l;rcases ae1 s with k|rfl
  .have t:=Ô k
   have z:=N' r (Á (Nat.succ_add i f).symm);have x:=bo (N' (ť o) (N' k (fc C)));refine cy (F i _ a c t l) λb g A h=>?_
   rcases h with ⟨rfl,h⟩|⟨rfl,h⟩
   .exact cy (w _ a g z k (adp o) h) λm aq e h=>⟨m,aq,(goF (n _ _ _ l) t x A).trans e,h⟩
   .exact cy h λy j e2 h=>cy (w _ (a++[y]) j z k (by rw[Ģ];exact ť o) h) λm aq e h=>⟨m,aq,(goT (n _ _ _ l) t x A e2).trans e,h⟩
  .exact⟨a,c,goZ (n _ _ _ l) (ň (R' _)),l⟩
theorem zo(I:Nat->B D->aA->Prop)(l:E2 u a=.ok R4 x)(m:I 0 [] x)(n:∀i f a,I i f a->du R4 a=J q)(o:∀i d f a,q[i]?=J d->I i f a->∃b g,mJ E ς ([J d]++fy π u) a=.ok b g/\(b=_d/\I (i+1) f g\/b=_t/\∃y c,p ([J d]++fy π u) g=.ok y c/\I (i+1) (f++[y]) c))(k:q.length<=90000):
  ∃j c,cB p E ς E2 0 π u a=.ok (.ref c.length) (c++[.l j])/\I q.length j c:=by
 refine cy (Nw (p:=ς) I k n o (fuel - 1) 0 [] _ (by rw[acG];exact fc k) (ĉ _) (R' _) m) λj c e h=>⟨j,c,?_,h⟩
 unfold cB;rw[l];dsimp only
 rw[show fuel=fuel - 1+1 from Y,e]
 rfl
theorem zp{pe g}(I:Nat->aA->Prop)(n:E2 u a=.ok R4 x)(o:∀i a,I i a->du R4 a=J q)(r:∀i d a,q[i]?=J d->I i a->∃x,mJ E ς ([J d]++fy π u) a=.ok (pe d) x/\I (i+1) x/\(pe d=_t->p ([J d]++fy π u) x=.ok (g d) x))(s:q.length<=90000)(t:I 0 x):
  ∃b,cB p E ς E2 0 π u a=.ok (.ref b.length) (b++[.l ((q.filter pe).map g)])/\I q.length b:=by
 refine aP (zo (p:=p) (λi c a=>I i a/\c++((q.drop i).filter pe).map g=(q.filter pe).map g) n ⟨t,Y⟩ (λi _ a h=>o i a h.1) (λi d c a k h=>aH (r i d a k h.1) λf w l e2=>⟨_,f,w,?_⟩) s) λy b e h m=>⟨b,?_,h⟩
 .have z:=h.2
  rw[Se k]at z;cases j:pe d with
  |false=>exact .inl ⟨Y,l,by rwa[List.filter_cons_of_neg (by rw[j];decide)]at z⟩
  |true=>exact .inr ⟨Y,_,f,e2 j,l,by rwa[List.filter_cons_of_pos j,Ù,List.append_cons]at z⟩
 .rw[List.drop_length,List.filter_nil,List.map_nil,Ć]at m
  rw[e,m]
theorem dy{qU g}(b:E2 u a=.ok R4 x)(c:du R4 x=J q)(f:∀d∈q,mJ E ς ([J d]++fy π u) x=.ok (qU d) x)(j:∀d∈q,qU d=_t->p ([J d]++fy π u) x=.ok (g d) x)(k:q.length<=90000):
  cB p E ς E2 0 π u a=.ok (.ref x.length) (x++[.l ((q.filter qU).map g)]):=
 bN (zp (λ_ a=>a=x) b (λ_ _ h=>h▸c) (λi d a l h=>by subst h;exact have m:=Å l;⟨_,f d m,Y,j d m⟩) k Y) λn e h=>h▸e
theorem nr(h:a[b]?=J P2):(a++x)[b]?=J P2:=by rwa[ë (Ê.mp h).1]
theorem aG:(a++P2::x)[a.length]?=J P2:=by simp
variable{l7:Cell}
theorem iu(h:a[m]?=J P2)(c:m≠b):(a.set b l7)[m]?=J P2:=by rwa[ō (Í c)]
theorem dC(h:a[b]?=J P2):(a.set b l7)[b]?=J l7:=ŭ (Ê.mp h).1
def bz(h:a[b]?=J P2):=Ab h
structure ao(fp:B Nat)(Ω aq:aA):Prop where
 len:Ω.length<=aq.length
 get:∀k c,Ω[k]?=J c->k∉fp->aq[k]?=J c
theorem ao.refl:ao π a a:=⟨R' _,by grind⟩
theorem ao.trans(h:ao π a x)(b:ao π x F3):ao π a F3:=⟨N' h.len b.len,λk c q n=>b.get k c (h.get k c q n) n⟩
theorem ao.app:ao π a (a++x):=⟨by simp,λk c h _=>nr h⟩
theorem ao.set{a fp j c}(h:j∈fp):ao fp a (a.set j c):=⟨by simp,λk e q n=>iu q (by grind)⟩
variable{E7:B Nat}
theorem ao.sub(h:ao π a x)(b:∀k∈π,k∈E7):ao E7 a x:=⟨h.len,λk c q n=>h.get k c q (by grind)⟩
theorem Nx{kvs}(h:a[b]?=J (.dT kvs)):et a (m+1) (.ref b)=none:=by simp only[et,h]
variable{w8:B Key}
theorem EV{kvs}(c:a[b]?=J (.dT kvs))(d:qK h=J w8):uL a (.ref b) h=J (aN kvs w8):=by simp only[uL,c,d,ņ]
theorem Br(h:a[b]?=J (.l q)):bP .tuple [.ref b] a=.ok (.t q) a:=by
 show jO [.ref b] a=_
 simp only[jO,a9 h]
theorem gf(h:a[b]?=J (.l q)):bP .len [.ref b] a=.ok (.int q.length) a:=by
 show la _ _=_
 simp only[AX,br,a9 h];rfl
theorem wY(c:a[b]?=J (.l q))(d:q.length<=1000):dQ (.ref b) [h] a=.ok .n (a.set b (.l (q++[h]))):=by
 simp only[dQ,kT c];rw[if_pos (bo (by omega))]
theorem gg(h:a[b]?=J (.l q)):pI a (.ref b)=true:=by simp only[pI,a9 h];rfl
theorem tp(h:a[b]?=J (.l (l.map .str))):ay .In (.str d) (.ref b) a=.ok (.bl (decide (d∈l))) a:=by
 simp[gZ h]
theorem nv(h:a[b]?=J (.l (l.map .str))):ay .NotIn (.str d) (.ref b) a=.ok (.bl (!decide (d∈l))) a:=by
 simp[gZ h]
theorem Sf{α c:Type}[BEq α][LawfulBEq α]{f:α->c}{p a}(d:∀b,p (f b)=(b==a)):∀(xs:B α),a∈xs->(xs.map f).findIdx? p=J (xs.idxOf a)
 |[],h=>by simp at h
 |b::xs,h=>by
  rw[Ù,List.findIdx?_cons,d,List.idxOf_cons];cases e:b==a with
  |true=>rfl
  |false=>
   simp[Sf d xs (by
    grind)]
theorem wZ(h:d∈l):wu .index (.l (l.map .str)) (.t [.str d])=.ok (_d,.int (l.idxOf d)):=by
 have e:(l.map D.str).findIdx? (λy=>d8 y (.str d))=J _:=Sf (λb=>Y) l h
 unfold wu
 simp_all
theorem Bu(h:a[b]?=J (.l (l.map .str)))(c:d∈l):dr (.ref b) [.str d] a=.ok (.int (l.idxOf d)) a:=by
 have:=wZ c;simp only[dr,zk,gZ h,th,nj,L1,this];rfl
variable{A:B (B L)}
theorem EW(d:a[b]?=J (.l (π.map .ref)))(h:aE (λj c=>a[j]?=J (.l (c.map .str))) π A):et a (m+2) (.ref b)=J (LL A):=by
 refine jw d ?_;clear d
 induction h with
 |nil=>rfl
 |cons e g f=>rw[Ù,zh,gZ e,f];rfl
theorem nB(e:p u a=.ok (.ref b) x)(f:x[b]?=J (.ins C U1))(g:U1.lookup d=_n):aK C d r p Q0 u a=(Q0 u x).bind λxs c=>IG (r (.ref b::xs) c):=by
 unfold aK;rw[e]
 show(match pR _ _ with|J (_,h,U1)=>_|_n=>_)=_
 rw[kU f];simp only[g,and_self,if_true];rfl
variable{S9:D->B D->aA->ax D}{n9:aA->D->Bool}
theorem Ny(d:p u a=.ok h x)(b:n9 x h=_t):c6 n9 S9 p Q0 u a=(Q0 u x).bind λxs c=>S9 h xs c:=by
 unfold c6
 simp_all
variable [iT]
theorem ao.new(h:ao [] a x)(b:ao π x F3)(d:∀j∈π,a.length<=j):ao [] a F3:=⟨N' h.len b.len,λk c e _=>b.get k c (h.get k c e (by simp)) (by grind)⟩
theorem Lp.up(h:ao [] a x):ao π a x:=h.sub (by simp)
@[simp] theorem Sg:aR (.str d) h a=v2 a wo (J (.str d)) (et a 8 h):=by
 rfl
variable{A9 z9:_o Int}
@[simp] theorem Si:uN (.str d) z9 A9 a=ik a (Df (.str d) z9 A9):=rfl
@[simp] theorem Sj:fH p E ς X2 V4 u a=(p u a).bind λx b=>(jE E ς u b).bind λl c=>(jE X2 V4 u c).bind λh d=>uN x l h d:=rfl
@[simp] theorem Wi:jE _t p u a=.ok _n a:=rfl
noncomputable def pr1(a:aA):D->ax (_o Int)
 |.int i=>.ok (J i) a
 |_=>.b
@[simp] theorem Wj:jE _d p u a=(p u a).bind λd b=>pr1 b d:=by
 rfl
@[simp] theorem Wk:pr1 a (.int Q)=.ok (J Q) a:=rfl
def nC:=cB (m2 aR (aa 2) (m2 (bb .Mod) (m2 (bb .Add) (aa 1) (m2 (bb .Mult) (aa 0) (aa 3))) (ai (.int 26)))) _t (ai .n) (dX (ae (ai (.int 8)) aj)) 0 [4,3,5]
def nD:=cB (fH (aa 1) _t (ai .n) _d (m2 (bb .Add) (aa 0) (ai (.int 1)))) _t (ai .n) (dX (ae (aa 2) aj)) 0 [6]
section
variable{κ β:Type}[DecidableEq κ]
theorem bY{p:κ×β}{kvs k}:aN (p::kvs) k=if p.1=k then J p.2 else aN kvs k:=by
 unfold aN
 grind
theorem vd{k a:κ}{v:β}:∀{kvs},aN (kvs.map λb=>if b.1=k then (b.1,v)else b) a=if a=k then (aN kvs k).map λ_=>v else aN kvs a
 |[]=>by simp[aN]
 |p::kvs=>by
  rw[Ù,bY,bY,bY,vd]
  grind
theorem vf{k a:κ}{v:β}:∀{kvs},aN (kvs++[(k,v)]) a=match aN kvs a with|J d=>J d|_n=>if a=k then J v else _n
 |[]=>by
  rw[List.nil_append,bY]
  by_cases h:k=a
  .subst h;simp[aN]
  grind
 |p::kvs=>by
  rw[ae2,bY,bY,vf]
  grind
theorem pf{k}:∀{kvs:B (κ×β)},(kvs.any λa=>decide (a.1=k))=(aN kvs k).isSome
 |[]=>Y
 |p::kvs=>by
  rw[Į,bY,pf]
  by_cases h:p.1=k<;>simp[h]
theorem qV{kvs}{k a:κ}{v:β}:aN (dh kvs k v) a=if a=k then J v else aN kvs a:=by
 unfold dh;rw[pf];cases h:aN _ k with
 |none=>
  rw[if_neg (by simp),vf]
  grind
 |some d=>
  rw[adu,if_pos Y,vd]
  simp_all
theorem EX{kvs}{k:κ}{v:β}:(dh kvs k v).length<=kvs.length+1:=by
 unfold dh;split<;>simp
end
theorem ph(a:(l.map D.str)[b]?=J h):∃x,l[b]?=J x/\h=.str x:=by
 rw[Ü]at a
 grind
theorem eF(c:p u a=.ok (.ref b) x)(g:x[b]?=J (.ins C U1))(e:autoParam (U1.lookup d=J h) V_)(f:autoParam (l.contains C=true) V_):m1 (bc l d) p u a=.ok h x:=by
 rw[RQ,c];exact tm g f e
variable{o9:aA}
theorem eM(c:p u a=.ok (.ref b) x)(g:x[b]?=J (.ins C U1))(f:Q0 u x=.ok q F3)(e:r (.ref b::q) F3=.ok h o9)(i:autoParam (U1.lookup d=none) V_):aK C d r p Q0 u a=.ok h o9:=by
 rw[nB c g i,f,eE,e];rfl
theorem eN(b:Q0 u a=.ok q x)(e:r q x=X1):mN r Q0 u a=X1:=by simp_all
theorem eC(b:Q0 u a=.ok q x)(e:r q x=.ok h F3):mN (aQ r) Q0 u a=.ok h F3:=by simp_all
theorem eK(b:p u a=.ok h x)(c:Q0 u x=.ok q F3):ae p Q0 u a=.ok (h::q) F3:=by simp_all
theorem eP(b:p u a=.ok h x)(e:i7 h x=X1):m1 i7 p u a=X1:=by simp_all
theorem eQ(b:p u a=.ok h x)(c:ς u x=.ok ε F3)(e:k7 h ε F3=X1):m2 k7 p ς u a=X1:=by simp_all
theorem nT(h:p u a=.ok (.bl E) x):dz p u a=.ok (.bl !E) x:=by simp_all
theorem aT(h:p u a=.ok (.bl _t) x)(b:ς u x=X1):fJ p ς u a=X1:=by simp_all
theorem aF(h:p u a=.ok (.bl _d) x):fJ p ς u a=.ok (.bl _d) x:=by simp_all
theorem oF(h:p u a=.ok (.bl _d) x)(b:ς u x=X1):pQ p ς u a=X1:=by simp_all
theorem oT(h:p u a=.ok (.bl _t) x):pQ p ς u a=.ok (.bl _t) x:=by simp_all
theorem eL(b:p u a=.ok h x)(c:Q0 u x=.ok q F3)(d:n9 x h=_t)(e:S9 h q F3=X1):c6 n9 S9 p Q0 u a=X1:=by
 unfold c6;simp_all
theorem qA(c:p u a=.ok h x):af (aJ b p) υ u a=υ (u.set b (J h)) x:=by simp_all
theorem qE(b:p u a=.ok h x):af (cA p) υ u a=υ u x:=by simp_all
theorem qR(b:p u a=.ok h x):af (a7 p) υ u a=.rt h x:=by simp_all
theorem q0(h:p u a=.ok (.bl _d) x):af (cw p υ ag) z5 u a=z5 u x:=by simp_all
theorem qT{c}(h:p u a=.ok (.bl _t) x):af (cw p υ z5) c u a=af υ c u x:=by simp_all
theorem qB(b:υ u a=.rt h x):af υ z5 u a=.rt h x:=by simp_all
theorem qN{b}(h:υ u a=.nx b x):af υ z5 u a=z5 b x:=by simp_all
theorem qS(c:ς u a=.ok h x)(e:p u x=.ok (.ref b) F3)(g:F3[b]?=J (.ins C U1))(z:F3.set b (.ins C (kQ d h U1))=o9)(f:autoParam (decide (U1.length<1000)=true) V_)(i:autoParam (l.contains C=true) V_):af (cx l d p ς) υ u a=υ u o9:=by
 rw[gc];unfold cx;rw[c,zd,e,zd,kU g];simp_all
variable{X4:D}
theorem qD{b}(c:V4 u a=.ok X4 x)(d:p u x=.ok h F3)(f:ς u F3=.ok ε o9)(e:gV h ε X4 o9=J b):af (dY p ς V4) υ u a=υ u b:=by
 unfold dY;simp_all
theorem fR(e:υ (c7 m q) a=.rt h x)(c:autoParam (q.length=b) V_):aw m b υ q a=.ok h x:=by rw[eJ c,e];rfl
theorem fZ(e:υ (c7 m q) a=.nx u x)(h:autoParam (q.length=b) V_):aw m b υ q a=.ok .n x:=by rw[eJ h,e];rfl
theorem ao.g(K:ao π a x)(h:a[b]?=J P2)(n:autoParam (b∉π) v4):x[b]?=J P2:=K.get _ _ h n
theorem ao.s(K:ao π a x)(h:∀k∈π,k∈E7:=by simp):ao E7 a x:=K.sub h
theorem ao.tr(K:ao π a x)(b:ao E7 x F3)(h:autoParam (∀k∈π,k∈E7) ao.s._auto_1):ao E7 a F3:=(K.sub h).trans b
theorem ao.st{e'}(h:a[b]?=J P2):∃aq,a.set b e'=aq/\ao [b] a aq/\aq[b]?=J e':=⟨_,Y,ao.set (by simp),dC h⟩
theorem fS(e:X1=.ok h a)(c:a[b]?=J (.ins C U1))(f):∃aq,a.set b (.ins C (kQ f h U1))=aq/\ao [b] a aq/\aq[b]?=J (.ins C (kQ f h U1)):=ao.st c
theorem aL(x)(h:a[b]?=J (.l q))(c:q.length<=1000):∃aq,dQ (.ref b) [x] a=.ok .n aq/\ao [b] a aq/\aq[b]?=J (.l (q++[x])):=⟨_,wY h c,ao.set (by simp),dC h⟩
theorem Sk(c:a[b]?=J (.l q))(e:m<q.length):gV (.ref b) (.int m) h a=J (a.set b (.l (q.set m h))):=by
 have d:L2.tT q.length (m)=J m:=by
  unfold L2.tT
  simp_all
 simp only[gV,c,d]
theorem dL(x)(h:a[b]?=J (.l q))(c:m<q.length):∃aq,gV (.ref b) (.int m) x a=J aq/\ao [b] a aq/\aq[b]?=J (.l (q.set m x)):=⟨_,Sk h c,ao.set (by simp),dC h⟩
theorem kO(z:X1=.ok h (a.set b l7))(c:a[b]?=J P2):∃aq,X1=.ok h aq/\ao [b] a aq/\aq[b]?=J l7:=⟨_,z,ao.set (by simp),dC c⟩
theorem kD{o:_o aA}(z:o=J (a.set b l7))(h:a[b]?=J P2):∃aq,o=J aq/\ao [b] a aq/\aq[b]?=J l7:=⟨_,z,ao.set (by simp),dC h⟩
theorem kA(z:X1=.ok h (a++P2::x)):∃aq,X1=.ok h aq/\ao [] a aq/\aq[a.length]?=J P2:=⟨_,z,ao.app,aG⟩
theorem nlL:(mN b_ aj) u (a++x)=.ok (.ref (a.length+x.length)) (a++(x++[.l []])):=by simp[bo]
theorem Sl:cp u (a++x)=.ok (.ref (a.length+x.length)) (a++(x++[.dK []])):=by simp[cp]
theorem bZ:(a++P2::x).set a.length l7=a++l7::x:=by
 simp
theorem gN:(a++x)[a.length+b]?=x[b]?:=by rw[ī (by simp),Nat.add_sub_cancel_left]
theorem nZ(e:υ (c7 m (.ref a.length::q)) (a++[.ins C []])=.nx u x)(h:autoParam (q.length+1=b) V_):gU C (aw m b υ) q a=.ok (.ref a.length) x:=by
 unfold gU;rw[fZ e h]
theorem lpF(I:Nat->a_->aA->Prop)(g:E2 u a=.ok R4 x)(j:∀{i u a},I i u a->du R4 a=J q)(k:∀{i d u a},q[i]?=J d->I i u a->∃c e f,A6 d u=J c/\υ c a=.nx e f/\I (i+1) e f)(l:I 0 u x)(m:q.length<=1000):
  ∃b aq,dW A6 E2 υ u a=.nx b aq/\I q.length b aq:=by
 rw[zm,g]
 exact pb (R:=λr=>∃b aq,r=.nx b aq/\I _ b aq) I (λ_ _ _ h=>j h) (λi d u a h n=>by
  obtain⟨c,e,f,o,e2,p⟩:=k h n;exact⟨_,o,by rwa[e2]⟩) (λu a h=>⟨u,a,Y,h⟩) _ 0 u _ (by unfold fuel;exact UW (N' (ae3 _ _) m)) (ĉ _) l
theorem Nz(I:Nat->a_->aA->Prop)(k:E2 u a=.ok R4 x)(l:∀{i u a},I i u a->du R4 a=J q)(m:∀{i d u a},q[i]?=J d->I i u a->∃f g j,A6 d u=J f/\υ f a=.nx g j/\I (i+1) g j)(n:I 0 u x)(o:q.length<=1000):
  ∃b aq,(∀c,af (dW A6 E2 υ) c u a=c b aq)/\I q.length b aq:=
 cy (lpF I k l m n o) λb aq e h=>⟨_,_,λ_=>qN e,h⟩
theorem YN(I:Nat->a_->aA->Prop)(k:E2 u a=.ok (.seq (.ref b)) x)(m:∀{i u a},I i u a->a[b]?=J (.l (l.map .str)))(n:∀{i d u a},l[i]?=J d->I i u a->∃e f g,A6 (.str d) u=J e/\υ e a=.nx f g/\I (i+1) f g)(o:I 0 u x)(r:l.length<=1000):
  ∃j aq,(∀c,af (dW A6 E2 υ) c u a=c j aq)/\I l.length j aq:=by
 have:=Nz I k (λh=>by rw[e_,br,a9 (m h)]) (λh p=>by obtain⟨d,q,rfl⟩:=ph h;exact n q p) o (by simp_all)
 simp_all
theorem NA{cs:Nat->aA}(h:∀{a},gU C r q a=.ok (.ref a.length) (a++cs a.length)):gU C r q (a++x)=.ok (.ref (a.length+x.length)) (a++(x++cs (a.length+x.length))):=by simp_all
theorem lN(h:autoParam (small q.length=true) V_):b_ q a=.ok (.ref a.length) (a++[.l q]):=if_pos h
noncomputable def GE:Cell->Cell->Bool
 |.ins a _,.ins b _=>!a==b
 |a,b=>!a.ctorIdx==b.ctorIdx
theorem lO(c:a[b]?=J P2)(d:a[m]?=J l7)(n:autoParam (GE P2 l7=true) V_):b≠m:=by
 rintro rfl;cases c.symm.trans d;cases P2<;>simp[GE]at n
theorem lNA(h:autoParam (small q.length=true) V_):b_ q (a++x)=.ok (.ref (a.length+x.length)) (a++(x++[.l q])):=by simp_all
theorem al(b:p u a=.ok h x):fx p ς u a=.ok h x:=by simp_all
theorem al2(h:p u a=.b)(b:ς u a=X1):fx p ς u a=X1:=by simp_all
theorem YO(I:Nat->a_->aA->Prop)(j:E2 u a=.ok (.ints 0 b) x)(l:∀{i u a},i<b->I i u a->∃d e f,A6 (.int i) u=J d/\υ d a=.nx e f/\I (i+1) e f)(k:I 0 u x)(m:b<=1000):
  ∃g aq,(∀c,af (dW A6 E2 υ) c u a=c g aq)/\I b g aq:=by
 have:=Nz (A6:=A6) (υ:=υ) I j (λ_=>Y) (λh n=>by obtain⟨rfl,o⟩:=mX h;simp_all) k (by rwa[jk])
 rwa[jk]at this
theorem NB{g}(c:E2 u a=.ok (.ints 0 b) a)(l:∀i<b,p (J (.int i)::fy π u) a=.ok (.str (g i)) a)(e:b<=1000):cB p _t ς E2 0 π u a=.ok (.ref a.length) (a++[.l (((É b).map g).map .str)]):=by
 rw[dy (g:=λd=>match d with|.int j=>.str (g j.toNat)|_=>.n) c Y (λ_ _=>Y) (λd f _=>by
  obtain⟨i,k⟩:=ú.mp f;obtain⟨rfl,h⟩:=mX k
  simp_all) (by rw[jk];exact fc e),Ĥ.mpr (by simp),AR,Ö,Ö]
 rfl
theorem YP{g}(c:E2 u a=.ok (.seq (.ref b)) a)(e:a[b]?=J (.l (l.map .str)))(f:∀z∈l,p (J (.str z)::fy π u) a=.ok (.str (g z)) a)(h:l.length<=1000):cB p _t ς E2 0 π u a=.ok (.ref a.length) (a++[.l ((l.map g).map .str)]):=by
 rw[dy (g:=λd=>match d with|.str z=>.str (g z)|_=>.n) c (by rw[e_,br,a9 e]) (λ_ _=>Y) (λd i _=>by
  obtain⟨z,j,rfl⟩:=Ð.mp i;exact f z j) (by simp;exact fc h),Ĥ.mpr (by simp),Ö,Ö]
 rfl
variable{U0:Int}
theorem Js(h:decide (Q=U0)=E):ay .Eq (.int Q) (.int U0) a=.ok (.bl E) a:=by subst h;rfl
theorem YQ(h:decide (Q<=U0)=E):ay .LtE (.int Q) (.int U0) a=.ok (.bl E) a:=by simp_all
theorem Lq(h:decide (Q<U0)=E):ay .Lt (.int Q) (.int U0) a=.ok (.bl E) a:=by simp_all
theorem Wl(h:decide (U0<=Q)=E):ay .GtE (.int Q) (.int U0) a=.ok (.bl E) a:=by simp_all
theorem Bv:bb .Add (.int Q) (.int U0) a=.ok (.int (Q+U0)) a:=by simp
theorem NC(h:autoParam (0<U0) P3):bb .Mod (.int Q) (.int U0) a=.ok (.int (Q%U0)) a:=by simp[h]
theorem Wm:cp u a=.ok (.ref a.length) (a++[.dK []]):=Y
theorem EY:ay .Is .n .n a=.ok (.bl _t) a:=Y
theorem Wn{α:Type}{b l}{P:α->Prop}(h:∀z∈l,P z)(a:P b):∀z∈l++[b],P z:=by grind
theorem ifM{α:Type}{a b l c}{P:α->Prop}(h:∀z∈l++a::c,P z)(d:P b):∀z∈l++b::c,P z:=by grind
theorem qX(b:p u a=.e h x):af (cA p) υ u a=.e h x:=by simp_all
theorem qY(b:υ u a=.e h x):af υ z5 u a=.e h x:=by simp_all
theorem fX(e:υ (c7 m q) a=.e h x)(c:autoParam (q.length=b) V_):aw m b υ q a=.e h x:=by rw[eJ c,e];rfl
theorem sr(h:p u a=.ok (.ref b) x)(g:x[b]?=J (.l q)):cP p u a=.ok (.seq (.ref b)) x:=by
 rw[nk,h];exact g_ (by rw[br,a9 g])
end Mir
namespace Mir
open PySem PySem.Spec PyProof.Rows L2
def Sm:D->Bool
 |.l a=>a.all iD
 |d=>iD d
variable{B3 v:f'->Prop}{O:V}{e r0:Hp}{h:D}{z:B f'}
theorem zr(a:iD h=_t)(r:Rep v e h O):au z B3 r0 h O:=by
 cases h with
 |l _=>cases a
 |t _=>cases a
 |ref _=>cases a
 |dct _ _=>cases a
 |_=>exact r
theorem Bw(a:iD h=_t)(r:au z B3 r0 h O):Rep v e h O:=by
 cases h with
 |l _=>cases a
 |t _=>cases a
 |ref _=>cases a
 |dct _ _=>cases a
 |_=>exact r
theorem vg{α Z c H f}:∀{a}{b},a.all iD=_t->aW Z H a b->gJ α c f a b
 |[],b,_,r=>r
 |d::a,b,h,r=>by
  simp only[ţ,Õ]at h;refine aP r λv g e i j=>⟨v,g,e,zr h.1 i,vg h.2 j⟩
theorem EZ{α Z H}:∀{c}{b},c.all Sm=_t->aW Z H c b->aE (au α Z H) c b
 |[],b,_,r=>by subst r;exact .nil
 |d::c,b,h,r=>by
  simp only[ţ,Õ]at h;obtain⟨v,k,rfl,f,g⟩:=r
  exact .cons (by
    cases d with
    |l c=>
     refine bT f λa b e z i j=>⟨a,b,e,z,i,vg h.1 j⟩
    |t _=>cases h.1
    |ref _=>cases h.1
    |dct _ _=>cases h.1
    |_=>exact zr Y f) (EZ h.2 g)
variable [iT]
def pureOf(O:az):B D->Out Rs:=λa=>if a.all Sm=_t then (match O a []with
  |.ok d _=>if iD d=_t then .ok (_d,d)else .b
  |_=>.b)else .b
variable{G:G'}{H:F'}{M:W'}{N:T'}{b:Nat}{i:f'}{j0:Â}{l:B L}{r:az}{θ:L->_o g'}
theorem Jt(h:bt M N G θ H dZ b i j0 l (bE (aZ θ) r)):bt M N G θ H dZ b i j0 l (sD (pureOf r)):=h.imp λI c Q E q=>by
 refine bj q λZ k own d m f n=>xa n λe g=>?_
 unfold pureOf at e
 by_cases p:k.all Sm=_t
 .rw[if_pos p]at e
  refine⟨[],Z,[],k,⟨by simp,.nil,by simp,m⟩,EZ p f,?_⟩
  cases u:r k []with
  |e x w=>simp_all
  |b=>simp_all
  |ok y w=>
   rw[u]at e;dsimp only at e
   by_cases s:iD y=_t
   .rw[if_pos s]at e
    cases e;intro v z A K t O C;refine g v z Z ⟨λj o D=>t.frm j o D (by simp),λ_ h=>h,by grind,λa P=>?_⟩ (.rep (Bw s C))
    cases F:c a with
    |none=>simp_all
    |some o=>rw[t.frm a o F (by simp)];simp
   simp_all
 simp_all
variable{a:aA}{q:B D}
theorem qW(c:q.all Sm=_t)(b:r q []=.ok h a)(d:iD h=_t):pureOf r q=.ok (_d,h):=by
 unfold pureOf
 simp_all
def So:=(af (aJ 3 (m2 (bb .FloorDiv) (aa 3) (ai (.int 840)))) ag)
def Sq:=(cw (fJ (m2 (ay .Eq) (m2 (bb .Mod) (aa 0) (ai (.int 2))) (ai (.int 1))) (m2 (ay .Gt) (aa 0) (m2 (bb .Pow) (ai (.int 10)) (ai (.int 18)))))
 (af (dW (dv 4) (dX (ae (aa 1) aj)) So)
 (af (a7 (m2 (bb .Mod) (m2 (bb .Mod) (aa 3) (ai (.int 840))) (aa 2)))
 ag))
 ag)
def mxK:=(mN b_ (ae (ai (.int 48271)) (ae (ai (.int 69621)) (ae (ai (.int 40692)) (ae (ai (.int 39373)) (ae (ai (.int 16807)) (ae (ai (.int 30323)) (ae (ai (.int 21403)) (ae (ai (.int 62089)) (ae (ai (.int 45742)) (ae (ai (.int 37907)) (ae (ai (.int 53611)) (ae (ai (.int 28411)) (ae (ai (.int 59393)) (ae (ai (.int 33391)) aj)))))))))))))))
def mxR:=(af (aJ 5 mxK)
 (af (aJ 6 (m2 (bb .Mod) (m2 (bb .Mult) (m2 (bb .Add) (m2 (bb .Mod) (aa 0) (ai (.int 1000000007))) (ai (.int 11))) (m2 aR (aa 5) (m2 (bb .Mod) (aa 1) (ai (.int 14))))) (ai (.int 2147483629))))
 (af (aJ 7 (m2 (bb .Mod) (m2 (bb .Mult) (aa 6) (m2 (bb .Add) (aa 6) (aa 1))) (ai (.int 1999999973))))
 (af (a7 (m2 (bb .Mod) (m2 (bb .FloorDiv) (m2 (bb .Mod) (m2 (bb .Mult) (aa 7) (ai (.int 16807))) (ai (.int 998244353))) (ai (.int 1000))) (aa 2)))
 ag))))
def vh:=
 (af (aJ 3 (m2 (bb .FloorDiv) (aa 0) (ai (.int 2))))
 (af Sq mxR))
variable{ε:D}
@[simp] theorem Sr:bb .Pow h ε a=eG (gx .Pow) h ε a:=rfl
noncomputable abbrev BR(c t m x:Int)(s:_o D):a_:=[J (.int c),J (.int t),J (.int m),J (.int x),s,_n,_n,_n]
noncomputable abbrev Wo:=[D.int 48271,.int 69621,.int 40692,.int 39373,.int 16807,.int 30323,.int 21403,.int 62089,.int 45742,.int 37907,.int 53611,.int 28411,.int 59393,.int 33391]
variable{Q U0:Int}
theorem Ju{m}(E:0<=U0)(s:U0<100000)(b:0<m):∃r,0<=r/\r<m/\pureOf (aw 8 3 vh) [.int Q,.int U0,.int m]=.ok (_d,.int r):=by
 have g:∃r c,0<=r/\r<m/\aw 8 3 vh [.int Q,.int U0,.int m] []=.ok (.int r) c:=by
  rw[eJ (by rfl)]
  have t:c7 8 [D.int Q,.int U0,.int m]=[J (.int Q),J (.int U0),J (.int m),_n,_n,_n,_n,_n]:=rfl;rw[t];unfold vh;have u:(aJ 3 (m2 (bb .FloorDiv) (aa 0) (ai (.int 2)))) [J (.int Q),J (.int U0),J (.int m),_n,_n,_n,_n,_n] []=.nx (BR Q U0 m (Q / 2) _n) []:=by simp
  rw[gc,u,Lm,gc]
  by_cases j:Q%2=1/\1000000000000000000<Q
  .have k:wt U0=true:=jj (by omega) (by omega)
   have l:∃x a,kP (dv 4) (.ints 0 U0.toNat) So fuel 0 (BR Q U0 m (Q / 2) _n) []=.nx (BR Q U0 m x a) []:=by
    refine pb (R:=λr=>∃x a,r=.nx (BR Q U0 m x a) []) (q:=intsFrom 0 U0.toNat) (λ_ n o=>∃x a,n=(BR Q U0 m x a)/\o=[]) (λ_ _ _ _=>Y) ?_ ?_ fuel 0 _ _ (by rw[jk];unfold fuel;omega) (ĉ _) ⟨_,_,Y,Y⟩
    .rintro i d n o p ⟨x,a,rfl,rfl⟩
     refine⟨_,Y,?_⟩;have e:So (BR Q U0 m x (J d)) []=.nx (BR Q U0 m (x / 840) (J d)) []:=by simp[So]
     show Lo (So (BR Q U0 m x (J d)) []) _ _
     rw[e];exact⟨_,_,Y,Y⟩
    .rintro n o ⟨x,a,rfl,rfl⟩
     exact⟨x,a,Y⟩
   obtain⟨x,a,l⟩:=l;refine⟨x%840%m,[],ϙ _ (Ϡ b),acH _ b,?_⟩;simp[Sq,j.1,j.2,k,l,b]
  .obtain⟨d,p,e⟩:=MN (xs:=Wo) (Q:=U0%14) (ϙ _ (by decide)) (acH _ (by decide))
   obtain⟨v,rfl⟩:∃v,d=.int v:=by
    simp only[Ì,Ŧ,or_false]at p;rcases p with h|h|h|h|h|h|h|h|h|h|h|h|h|h<;>exact⟨_,h⟩
   have w:([.l Wo]:aA)[0]?=J _:=rfl;have F:=aU w e;have G:mG (Q%1000000007+11)=true:=mW (by omega) (by omega)
   have i2:mG ((Q%1000000007+11)*v%2147483629)=true:=mW (by omega) (by omega)
   have H:mG ((Q%1000000007+11)*v%2147483629*((Q%1000000007+11)*v%2147483629+U0)%1999999973)=true:=mW (by omega) (by omega)
   have rI:Sq (BR Q U0 m (Q / 2) _n) []=.nx (BR Q U0 m (Q / 2) _n) []:=by
    by_cases f:Q%2=1
    .have y:¬ 1000000000000000000<Q:=λz=>j ⟨f,z⟩
     simp[Sq,f,y]
    .have A:(Q%2==1)=false:=by simpa using f
     simp[Sq,A]
   refine⟨(Q%1000000007+11)*v%2147483629*((Q%1000000007+11)*v%2147483629+U0)%1999999973*16807%998244353 / 1000%m,([.l Wo]:aA),ϙ _ (Ϡ b),acH _ b,?_⟩;rw[rI,Lm];have I:aJ 5 mxK (BR Q U0 m (Q / 2) _n) []=.nx ((BR Q U0 m (Q / 2) _n).set 5 (J (.ref 0))) [.l Wo]:=rfl;unfold mxR
   simp_all
 refine aP g λr c C f e=>?_
 exact⟨r,C,f,qW Y e Y⟩
variable{E2:IM}{R4:Src}{p ς:EM}{u:a_}{x:aA}{π:B Nat}
theorem zt(I:Nat->B D->aA->Prop)(f:E2 u a=.ok R4 x)(g:I 0 [] x)(j:∀i b a,I i b a->du R4 a=J q)(k:∀i d b a,q[i]?=J d->I i b a->∃y x,p ([J d]++fy π u) a=.ok y x/\I (i+1) (b++[y]) x)(l:q.length<=90000):
  ∃e c,cB p _t ς E2 0 π u a=.ok (.ref c.length) (c++[.l e])/\I q.length e c:=
 zo I f g j (λi d b a m h=>⟨_t,a,Y,.inr ⟨Y,k i d b a m h⟩⟩) l
def RwR(b:aA)(j:Nat)(a:B L):=b[j]?=J (.l (a.map .str))
def vO(a)(b:B Nat)(c:B (B L)):=aE (RwR a) b c
structure Rw(Ω:aA)(k:Nat)(js:B Nat)(rs:B (B L)):Prop where
 ce:Ω[k]?=J (.l (js.map .ref))
 al:vO Ω js rs
theorem vO.keep{b aq}:∀{a}{c},vO b a c->∀{fp},ao fp b aq->(∀j∈a,j∉fp)->vO aq a c
 |_,_,.nil,_,_,_=>.nil
 |_,_,.cons r t,fp,K,h=>.cons (K.get _ _ r (h _ (by simp))) (vO.keep t K (by grind))
theorem Rw.keep{a aq k b c}(R:Rw a k b c)(K:ao [] a aq):Rw aq k b c:=⟨K.get _ _ R.ce (by simp),R.al.keep K (by simp)⟩
variable{A:B (B L)}
theorem vO.len(h:vO a π A):A.length=π.length:=aE.length h
def Rw.len{c k a b}(R:Rw c k a b):=R.al.len
variable{m:Nat}
theorem vO.at'(h:vO a π A)(d:π[b]?=J m):∃c,A[b]?=J c/\a[m]?=J (.l (c.map .str)):=aE.get h d
theorem vO.lt(h:vO a π A):∀j∈π,j<a.length:=λj b=>by
 obtain⟨i,c⟩:=ú.mp b;obtain⟨d,_,e⟩:=h.at' c;exact bz e
theorem ND(a:(π.map D.ref)[b]?=J h):∃j,π[b]?=J j/\h=.ref j:=by
 rw[Ü]at a
 grind
def pbB:=(af (cw (m2 (ay .In) (aa 1) (fH (aa 3) _d (ai (.int 1)) _t (ai .n))) (af (a7 (aa 2)) ag) ag) ag)
def YR:=(af (dW (fY [2,3]) (sP (aa 0)) pbB) (af (a7 (ai .n)) ag))
def fnB(a):=(af (cw (fJ (aa 1) (m2 (ay .Is) (mN (aQ a) (ae (aa 0) (ae (m2 aR (aa 1) (ai (.int 0))) aj))) (ai .n))) (af (a7 (m2 aR (aa 1) (ai (.int 0)))) ag) ag) ag)
def YS(a):=(af (dW (dv 1) (cP (aa 0)) (fnB a)) (af (a7 (ai .n)) ag))
theorem pj(h:a[b]?=J (.l q)):kJ a (.ref b)=J (!q.isEmpty):=by simp only[kJ,h]
noncomputable def aV.ee(T:aV)(F:B D->az):={T with clo:=T.clo++[F]}
theorem Jv:eo q _n (J b)=q.take b:=wK q b
theorem w_(h:a[b]?=J (.l (l.map .str))):uN (.ref b) _n (J m) a=.ok (.ref a.length) (a++[.l ((l.take m).map .str)]):=by
 simp only[uN,a9 h,ze,Jv,List.map_take]
variable{D4:Ty}
@[simp] theorem Wr:gp D4 (.t q) a=.ok (.bl (D4==.tuple)) a:=rfl
variable{d:L}
variable{i0:B L}
theorem Jw(h:a[b]?=J (.l (l.map .str)))(c:a[m]?=J (.l (i0.map .str))):ay .NotEq (.ref b) (.ref m) a=.ok (.bl (!decide (l=i0))) a:=by
 rw[tj,jx,gZ h,gZ c]
 simp_all
theorem NF(h:a[b]?=J (.l (l.map .str))):uN (.ref b) (J m) _n a=.ok (.ref a.length) (a++[.l ((l.drop m).map .str)]):=by
 simp only[uN,a9 h,ze,DN,List.map_drop]
theorem vO.snoc(h:vO a π A)(c:a[b]?=J (.l (l.map .str))):vO a (π++[b]) (A++[l]):=aE.append h (.cons c .nil)
theorem lQ(h:a[b]?=J (.l q)):bP .list [.ref b] a=.ok (.ref a.length) (a++[.l q]):=by
 show la _ _=_
 simp only[oK,br,a9 h];rfl
variable{E7:B Nat}
theorem E_{f}{P:Nat->Prop}(z:E2 u a=.ok (.seq (.ref b)) a)(R:Rw a b π A)(C:A.length<=1000)(D:∀j l k,ao [] a k->j∈π->l∈A->k[j]?=J (.l (l.map .str))->∃n c,p ([J (.ref j)]++fy E7 u) k=.ok (.ref n) c/\ao [] k c/\c[n]?=J (.l ((f l).map .str))/\P n):
  ∃g c,cB p _t ς E2 0 E7 u a=.ok (.ref c.length) (c++[.l (g.map .ref)])/\ao [] a c/\vO c g (A.map f)/\∀j∈g,P j:=by
 have r:=R.len
 obtain⟨I,c,e,g,rfl,q,E,s⟩:=zt (λi m c=>∃g,m=g.map .ref/\vO c g ((A.take i).map f)/\ao [] a c/\∀j∈g,P j) z ⟨[],Y,.nil,ao.refl,by simp⟩
  (λi m c h=>by
   refine dJ h λ_ _ _ K _=>?_
   rw[e_,br,a9 (R.keep K).ce])
  (λi d m k F h=>by
   obtain⟨g,rfl,q,K,s⟩:=h;obtain⟨j,t,rfl⟩:=ND F;obtain⟨l,w,o⟩:=(R.keep K).al.at' t;refine bT (D j l k K (Å t) (Å w) o) λn c e y G M=>?_
   refine⟨_,c,e,g++[n],by simp,?_,K.trans y,?_⟩
   .rw[ŧ,w,ā]
    exact(q.keep y (by simp)).snoc G
   .intro x H
    rcases Ñ.mp H with h|h
    .simp_all
    simp_all) (by simp;exact fc (N' (Á r.symm) C))
 refine⟨g,c,e,E,?_,s⟩;rwa[ß,←r,Ϛ]at q
def Lr(i:Nat):=cB (mN (bP .list) (ae (aa 0) aj)) _t (ai .n) (cP (aa i)) 0 []
theorem Jx(l:u[m]?=J (J (.ref b)))(R:Rw a b π A)(n:A.length<=1000):∃c d aq,Lr m u a=.ok (.ref d) aq/\ao [] a aq/\Rw aq d c A/\(∀j∈c,a.length<=j)/\a.length<=d/\d∉c:=by
 have f:cP (aa m) u a=.ok (.seq (.ref b)) a:=by
  rw[nk,eZ,l];exact g_ (by rw[br,a9 R.ce])
 obtain⟨c,o,e,K,g,q⟩:=E_ (p:=mN (bP .list) (ae (aa 0) aj)) f R n (λj i k K _ _ h=>by
  refine⟨_,k++[.l (i.map _)],?_,ao.app,aG,K.len⟩;have:=lQ h
  simp_all)
 rw[acI]at g;refine⟨_,_,_,e,K.trans ao.app,⟨aG,g.keep (fp:=[]) ao.app (by simp)⟩,q,K.len,λh=>?_⟩
 have:=g.lt _ h
 simp_all
def stC:=(DW (m2 (ay .Eq) (fH (aa 0) _t (ai .n) _d (ai (.int 1))) (mN b_ (ae (aa 1) aj))) (fH (aa 0) _d (ai (.int 1)) _t (ai .n)) (aa 0))
def tM:=(mN (bP .any) (ae (aa 1) aj))
def stM:=(cB stC _t (ai .n) (cP (aa 1)) 0 [3])
def bM(st a):=(af (aJ 3 (mN (aQ a) (ae (aa 1) aj)))
 (af (cw (m2 (ay .Is) (aa 3) (ai .n))
 (af st
 ag)
 ag)
 (af (cA (c6 pI dQ (aa 2) (ae (aa 3) aj)))
 (af (aJ 1 stM)
 ag))))
def Su(st a):=
 (af (aJ 1 (Lr 0))
 (af (aJ 2 (mN b_ aj))
 (af (Eg tM (bM st a))
 (af (a7 (aa 2))
 ag))))
theorem Jy(R:Rw a b π A):bP .any [.ref b] a=.ok (.bl ((A.map λr=>!r.isEmpty).any id)) a:=by
 show oM _ _ a=_
 unfold oM;have:bq (et a 8) [.ref b]=J [LL A]:=by simp[(EW R.ce R.al)]
 have:D_ .any [LL A]=.ok (_d,.bl ((A.map λr=>!r.isEmpty).any id)):=by simp[LL,any_rows,-aey]
 simp_all
end Mir
namespace Mir
open PySem
open PySem.Spec PyProof.Rows L2
structure vi(K:G')(x:L)(st:O')(f:f')(fd:Â):Prop where
 ns:ò K Ï x=J (J (.ref f))
 fn:tU K x x st f fd
variable{C6:Array (_o g')}{G:G'}{L5 V6:_o f'}{R7 S6 U3 u7 v7 ζ:g'}{d:L}{i:f'}{ω:O'}
theorem vj(a:ò G Ï d=J (J (.ref i)))(l:G.lookup i=J ⟨ζ,L5,.func (í d d (cR ω) (bg ω) (ah ω) .none U3 S6 u7 V6 v7 R7),C6⟩)(c:Ĭ G v7 d=_t)(k:Î G (.ref i)=_t):vi G d ω i (í d d (cR ω) (bg ω) (ah ω) .none U3 S6 u7 V6 v7 R7):=⟨a,wa l c k⟩
variable [iT]
structure vl(K:G')(x qual:L)(st:O')(dV:g')(f:f')(fd:Â):Prop where
 ex:∃(oc:g') (od:_o f') (kV doc pm:g') (an:_o f') (cdv ct:g') (osl:Array (_o g')),
  fd=í x qual (cR st) (bg st) (ah st) dV kV doc pm an cdv ct/\K.lookup f=J ⟨oc,od,.func fd,osl⟩/\Ĭ K cdv qual=_t
 kp:Î K (.ref f)=_t
variable{C:L}{H:F'}{M:W'}{N:T'}{N4 i0 l:B L}{b:Nat}{j0:Â}{Δ:aV}{θ:L->_o g'}{υ:SM}
theorem Jz(W:cq M N G θ H Δ b)(F:vl G d C ω ζ i j0)(O:fT l i0 (ah ω)=_t)(P:EO Δ N4 ω l=J υ):
    bt M N G θ H dZ (b+1) i j0 i0 (bE (aZ θ) (aw l.length i0.length υ)):=by
  refine xe F.ex λoc o=>xe o λod p=>xe p λkV t=>xe t λR u=>xe u λpm w=>bj w λan T ct U x V y=>?_;subst x
  have z:=eY O;refine Cm V y z (λX a Q E h=>?_) λA outer s a X Q E hr h=>?_
  · refine bj h λk Z n ds S r g=>?_
    rw[r.length];unfold aw at g;split at g
    · omega
    · exact g.elim
  · refine bj h λk Z n ds S r g=>?_
    have f:eI (cz dZ M N G θ _ l _ _ i _ A outer s a E).k_ _ Δ b _ l:=
      { scope:=Y,names:=Y,calm:=Y,room:=hr,dB:=W.dB,own:=ae4,VC:=λ_ _ _=>.inl Y,tZ:=z.nd,kind:=z.kind,k_:=λ_ _ _ h=>h,fld:=W.fld,cst:=W.cst
        mr:=λd F h=>⟨W.mr d F h⟩,fn:=λd F h=>⟨W.fn d F h⟩,met:=λm c F h=>⟨W.met m c F h⟩,cls:=λc F h=>bN (W.cls c F h) λj h1 h2=>⟨j,h1,⟨h2⟩⟩,clo:=W.clo }
    refine⟨PM _ j8 k Z a υ _ n,(i3 (zc f 30 60) P k Z a _ n).k_,k,Z,iq S r,?_⟩;unfold aw at g;split at g
    · cases q:υ _ n with
      |rt D e=>rwa[q]at g
      |nx I e=>rw[q]at g;exact λσ H' a0 Z' K=>g _ H' _ Z' K.gr K.st (aM Y)
      |bk I e=>rw[q]at g;exact g.elim
      |ct I e=>rw[q]at g;exact g.elim
      |e d e=>rwa[q]at g
      |b=>rwa[q]at g
    · exact g.elim
noncomputable abbrev oR(k:Nat):_o D:=J (.ref k)
noncomputable abbrev oI(i:Int):_o D:=J (.int i)
noncomputable abbrev oS(x:L):_o D:=J (.str x)
def ck(a:aA)(e:Nat)(kvs:B (Key×D)):=a[e]?=J (.dK kvs)\/a[e]?=J (.dF kvs)
abbrev kX:=B (L×B L)
noncomputable def nms(E:kX):=E.map (·.1)
noncomputable def jU(E:kX)(n):=(E.lookup n).getD []
def bh(P:Nat->Prop)(b:aA)(kvs:B (Key×D))(E:kX):=aE (λa p=>a.1=.inr p.1/\∃j,a.2=.ref j/\P j/\b[j]?=J (.l (p.2.map .str))) kvs E
variable{U:B (Key×D)}{a x:aA}
theorem ck.keep{fp}(h:ck a b U)(K:ao fp a x)(c:b∉fp):ck x b U:=h.imp (λz=>K.get _ _ z c) λz=>K.get _ _ z c
theorem ck.lt(h:ck a b U):b<a.length:=h.elim bz bz
theorem ck.nl(h:ck a b U):∀c,a[b]?≠J (.l c):=λc z=>by rcases h with h|h<;>rw[h]at z<;>cases z
theorem ck.ni(h:ck a b U):∀C c,a[b]?≠J (.ins C c):=λC c z=>by rcases h with h|h<;>rw[h]at z<;>cases z
variable{m:Nat}
theorem Ls(h:ck a b U):et a (m+1) (.ref b)=none:=by rcases h with h|h<;>simp only[et,h]
theorem vo(h:ck a b U):dq a (.ref b)=none:=by rcases h with h|h<;>simp only[dq,h]
theorem Fb(h:ck a b U):uL a (.ref b) (.str d)=J (aN U (.inr d)):=by rcases h with h|h<;>simp only[uL,h,kK,ņ]
theorem pT(h:ck a b U):ay .In (.str d) (.ref b) a=.ok (.bl (aN U (.inr d)).isSome) a:=by
 rw[Jm,jx,Ls h];simp only[lF,Fb h];rfl
theorem kY(h:ck a b U):ay .NotIn (.str d) (.ref b) a=.ok (.bl (!(aN U (.inr d)).isSome)) a:=by
 rw[jT,jx,Ls h];simp only[lF,Fb h];rfl
variable{h:D}
theorem iF(c:ck a b U)(e:aN U (.inr d)=J h):aR (.ref b) (.str d) a=.ok h a:=by
 unfold aR;rw[gb,kW,br,vo c];rw[gb];simp only[Ig,Fb c,e];rfl
theorem mw(h:ck a b U):bP .len [.ref b] a=.ok (.int U.length) a:=by
 show la _ _=_
 have c:AX [.ref b] a=.b:=by simp only[AX,br,vo h]
 have d:DZ [.ref b] a=.ok (.int U.length) a:=by rcases h with h|h<;>simp only[DZ,h]
 simp_all
theorem Lu(h:ck a b U):sJ a (.ref b)=J U:=by rcases h with h|h<;>simp only[sJ,h]
theorem pk(h:ck a b U):bP .list [.ref b] a=.ok (.ref a.length) (a++[.l (U.map λc=>fK c.1)]):=by
 show la _ _=_
 have d:oK [.ref b] a=.b:=by simp only[oK,br,vo h]
 have e:qL [.ref b] a=.ok (.ref a.length) (a++[.l (U.map λc=>fK c.1)]):=by simp only[qL,Lu h];rfl
 simp_all
variable{P2:Cell}
theorem set_same(h:a[b]?=J P2):a.set b P2=a:=by
 apply aeV;intro i;rw[ab5];split
 .rename_i z;subst z;rw[if_pos (bz h),h]
 .rfl
theorem Fc(h:ck a b U):srcOf a (.ref b)=.ok (.keys b) (a.set b (.dF U)):=by
 unfold srcOf;rw[br,vo h];rcases h with h|h
 .simp_all
 .simp only[h,set_same h]
theorem Lv(h:ck a b U):yO a (.ref b)=.ok (.items b) (a.set b (.dF U)):=by
 unfold yO;rcases h with h|h
 .simp_all
 .simp only[h,set_same h]
theorem zu(h:ck a b U):(a.set b (.dF U))[b]?=J (.dF U):=by rcases h with h|h<;>exact dC h
theorem xl(h:a[b]?=J (.dF U)):du (.keys b) a=J (U.map λc=>fK c.1):=by simp only[du,h]
theorem bh.imp{a kvs E P b}(h:bh P a kvs E)(c:∀j,P j->b j):bh b a kvs E:=aE.imp (by simp_all) h
variable{X0:kX}{Y0:Nat->Prop}
theorem bh.keep{fp}(h:bh Y0 a U X0)(K:ao fp a x)(f:∀j∈fp,¬ Y0 j):bh Y0 x U X0:=aE.imp (by rintro _ _ ⟨e,j,b,c,d⟩;exact⟨e,j,b,c,K.get _ _ d λz=>f j z c⟩) h
variable{π:B Nat}
theorem bh.jG(h:bh Y0 a U X0)(K:ao π a x)(f:∀j∈π,∀g,a[j]?≠J (.l g)):bh Y0 x U X0:=aE.imp (by rintro _ _ ⟨e,j,b,c,d⟩;exact⟨e,j,b,c,K.get _ _ d λz=>f j z _ d⟩) h
theorem bh.lt(h:bh Y0 a U X0):bh (λj=>Y0 j/\j<a.length) a U X0:=aE.imp (λ_ _  g =>xa g λe f=>aH f λj b c d=>⟨e,j,b,⟨c,bz d⟩,d⟩) h
theorem bh.len(h:bh Y0 a U X0):X0.length=U.length:=aE.length h
theorem bh.keys(h:bh Y0 a U X0):(U.map λc=>fK c.1)=(nms X0).map .str:=by
 induction h with
 |nil=>rfl
 |cons r _ b=>
  simp at b ⊢;rw[b,r.1];rfl
theorem bh.look(h:bh Y0 a U X0)(n):(∀r,X0.lookup n=J r->∃j,aN U (.inr n)=oR j/\Y0 j/\a[j]?=J (.l (r.map .str)))/\(X0.lookup n=_n->aN U (.inr n)=_n):=by
 induction h with
 |nil=>exact⟨by simp,λ_=>Y⟩
 |@cons k p U X0 b _ c=>
  obtain⟨m,s⟩:=p;obtain⟨d,h⟩:=b;rw[bY,d,Ę];cases e:n==m with
  |true=>
   cases eq_of_beq e;exact aH h λj f g i=>⟨λr z=>by cases z;exact⟨j,by rw[if_pos Y,f],g,i⟩,λz=>nomatch z⟩
  |false=>
   rw[if_neg λz=>ne_of_beq_false e (Sum.inr.inj z).symm]
   exact c
theorem zv(h:X0.lookup d=J l):(d,l)∈X0:=by
 induction X0 with
 |nil=>simp at h
 |cons p X0 a=>
  grind
theorem lookup_some(h:d∈nms X0):∃r,X0.lookup d=J r:=by
 unfold nms at h
 induction X0 with
 |nil=>simp at h
 |cons p X0 a=>
  rw[Ę];split
  .simp
  grind
theorem pq(h:d∈nms X0):X0.lookup d=J (jU X0 d):=by
 obtain⟨r,a⟩:=lookup_some h;unfold jU;rw[a];rfl
theorem lookup_none(h:d∉nms X0):X0.lookup d=none:=by
 cases q:X0.lookup d with
 |none=>rfl
 |some r=>exact absurd (aa9 (zv q)) h
def bh.at{n}(h:bh Y0 a U X0)(b:n∈nms X0):=(h.look n).1 _ (pq b)
theorem bh.is(h:bh Y0 a U X0):(aN U (.inr d)).isSome=decide (d∈nms X0):=by
 by_cases q:d∈nms X0
 .obtain⟨j,b,_⟩:=h.at q
  simp_all
 .rw[(h.look d).2 (lookup_none q),decide_eq_false q];rfl
variable{Y6:Key}
theorem Fd(h:aN U Y6=_n):(U.any λa=>decide (a.1=Y6))=false:=by rw[pf,h];rfl
theorem bh.put{r}(h:bh Y0 a U X0)(c:d∉nms X0)(e:Y0 b)(f:a[b]?=J (.l (r.map .str))):bh Y0 a (dh U (.inr d) (.ref b)) (X0++[(d,r)]):=by
 have:=Fd ((h.look d).2 (lookup_none c));unfold dh;rw[if_neg (by grind)]
 exact aE.append h (.cons ⟨Y,b,Y,e,f⟩ .nil)
def Wu(E)(a:B L):=(nms E).filter λn=>!decide (n∈a)&&(jU E n).all λx=>decide (x∈a)
def rkI:=(cB (m2 (ay .In) (aa 0) (aa 1)) _t (ai .n) (cP (m2 aR (aa 1) (aa 0))) 0 [2])
def Wv:=(fJ (m2 (ay .NotIn) (aa 0) (aa 2)) (mN (bP .all) (ae rkI aj)))
def YT:=(af (a7 (cB (aa 0) _d Wv (cP (aa 0)) 0 [0,1])) ag)
variable{F9:B Bool}
theorem tq(h:a[b]?=J (.l (F9.map .bl))):bP .all [.ref b] a=.ok (.bl (F9.all id)) a:=by
 show oM _ _ a=_
 unfold oM;rw[Jk];have d:bq (et a 7) _=J (F9.map .bl):=jS (λ_=>Nt) F9
 have:bq (et a 8) [.ref b]=J [.l (F9.map .bl)]:=by simp[jw h d]
 rw[this,Jj,ES]
 have e:gy (F9.map D.bl)=J F9:=by
  clear h d this
  induction F9 with
  |nil=>rfl
  |cons c F9 f=>simp[gy,f]
 rw[e];rfl
variable{E2:IM}{p:EM}{u:a_}
theorem Fe(c:a[b]?=J (.l (l.map .str)))(f:E2 u a=.ok (.seq (.ref b)) a){pv}(h:∀x∈l,p ([oS x]++fy π u) a=.ok (.bl (pv x)) a)(i:l.length<=90000):
  ∃aq,mN (bP .all) (ae (cB p _t (ai .n) E2 0 π) aj) u a=.ok (.bl (l.all pv)) aq/\ao [] a aq:=by
 have e:=dy (p:=p) (ς:=ai .n) (E:=_t) (π:=π) (g:=λd=>match d with|.str x=>.bl (pv x)|d=>d) f (by rw[e_,br,a9 c]) (λd _=>Y) (λd j _=>by
  grind) (by simp_all)
 have e2:((l.map D.str).filter λ_=>_t).map (λd=>match d with|.str x=>D.bl (pv x)|d=>d)=(l.map pv).map .bl:=by
  rw[Ĥ.mpr (λ_ _=>Y),Ö,Ö]
  rfl
 rw[e2]at e;refine⟨a++[.l ((l.map pv).map .bl)],?_,ao.app⟩;rw[Ll,pa,e,eE,s_,eE,eE,tq aG]
 simp_all
def NH(f:az):=∀c e q b E d P,ck c e b->bh P c b E->c[q]?=J (.l (d.map .str))->(∀n∈nms E,(jU E n).length<=1000)->E.length<=1000 ->
 ∃z a,f [.ref e,.ref q] c=.ok (.ref z) a/\a[z]?=J (.l ((Wu E d).map .str))/\ao [e] c a/\a[e]?=J (.dF b)/\c.length<=z
theorem Sv:NH (aw 2 2 YT):=by
 intro c e q f E b P l G H N O;rw[eJ (by rfl)]
 have Q:c7 2 [D.ref e,.ref q]=[oR e,oR q]:=rfl;rw[Q];have o:ao [e] c (c.set e (.dF f)):=ao.set (by simp)
 have r:=zu l;have s:=G.jG o (λj m=>by rw[ï.mp m];exact l.nl)
 have Z:(c.set e (.dF f)).length=c.length:=by simp
 have t:cP (aa 0) [oR e,oR q] c=.ok (.keys e) (c.set e _):=Fc l;generalize c.set e _=w at *
 refine bN (zp (p:=aa 0) (E:=_d) (π:=[0,1]) (pe:=λd=>match d with|.str n=>!decide (n∈b)&&(jU E n).all _|_=>_d) (g:=λd=>d) (λ_ a=>ao [] w a) t
  (λi a K=>by rw[xl (K.get _ _ r (by simp)),G.keys])
  (λi d a y K=>by
   obtain⟨n,R,rfl⟩:=ph y;have S:=Å R;have I:=K.get _ _ (o.get _ _ H (by simpa using (λz=>l.nl _ (z▸H)))) (by simp)
   have T:=s.keep K (by simp)
   refine aH (T.at S) λj U _ m=>?_
   have h:=nv (d:=n) I
   show ∃A,eH (Wv [oS n,oR e,oR q] a)=.ok (!decide _&&(jU E n).all λx=>decide (x∈b)) A/\_
   by_cases V:n∈b
   .refine⟨a,?_,K,λ_=>Y⟩
    rw[decide_eq_true V]at h ⊢;simp[Wv,h,-jT]
   .refine bN (Fe (u:=[oS n,oR e,oR q]) (p:=m2 (ay .In) (aa 0) (aa 1)) (E2:=cP (m2 aR (aa 1) (aa 0))) (π:=[2]) m (by
     show(aR (.ref e) (.str n) a).bind _=_
     rw[(iF (.inr (K.get _ _ r (by simp))) U),eE]
     exact g_ (by rw[br,a9 m])) (λx _=>tp I) (by grind)) λC M X=>?_
    refine⟨C,?_,K.trans X,λ_=>Y⟩
    have M:mN _ (ae rkI aj) _ a=_:=M;unfold Wv
    simp_all) (by simp[nms];exact fc O) ao.refl) λk e2 F=>?_
 refine⟨k.length,k++[.l _],?_,aG,?_,nr (F.get _ _ r (by simp)),by have:=F.len;simp_all⟩
 .unfold YT
  rw[gc,Jq,e2]
  have e4:(((nms E).map D.str).filter (λd=>match d with|.str n=>!decide (n∈b)&&(jU E n).all λx=>decide (x∈b)|_=>_d)).map (λd=>d)=(Wu E b).map .str:=by
   rw[acI,List.filter_map];rfl
  rw[e4];rfl
 .exact(o.trans (Lp.up F)).trans ao.app
structure Gd(E:kX):Prop where
 nd:(nms E).Nodup
 few:E.length<=100
 z:∀n∈nms E,jU E n=[]
theorem xo(h:a[b]?=J (.l (l.map .str)))(c:a[m]?=J (.l (i0.map .str)))(d:l.length+i0.length<=10000):jq (.ref b) [.ref m] a=.ok .n (a.set b (.l ((l++i0).map .str))):=by
 simp only[jq,kT h,kT c];rw[if_pos (bo (by simp;exact fc d)),ā]
def efB(a):=(af (cA (c6 pI jq (aa 1) (ae (aa 2) aj)))
 (af (aJ 2 (mN (aQ a) (ae (aa 0) (ae (aa 1) aj))))
 ag))
def YU(a):=
 (af (aJ 1 (mN b_ aj))
 (af (aJ 2 (mN (aQ a) (ae (aa 0) (ae (aa 1) aj))))
 (af (Eg (aa 2)
 (efB a))
 (af (a7 (aa 1))
 ag))))
theorem wh0(c:p u a=.ok (.ref b) a)(hz:a[b]?=J (.l [])):mK p υ (m+1) u a=.nx u a:=by
 rw[mK,c,td,pj hz];rfl
variable{q:B D}
theorem wh1{c}(d:p u a=.ok (.ref b) a)(hz:a[b]?=J (.l q))(f:q≠[])(e:υ u a=.nx c x):mK p υ (m+1) u a=mK p υ m c x:=by
 rw[mK,d,td,pj hz,Je,zd,if_pos (by simp_all),e]
def JA(d:az):=∀c e b E P,ck c e b->bh P c b E->Gd E ->
 ∃z a,d [.ref e] c=.ok (.ref z) a/\a[z]?=J (.l ((nms E).map .str))/\ao [e] c a/\a[e]?=J (.dF b)/\c.length<=z
variable{r:az}
theorem Sw(N:NH r):JA (aw 3 1 (YU r)):=by
 intro m e o E P O X G;have i:=G.few;have Q:∀n∈nms E,(jU E n).length<=1000:=λn f=>by rw[G.z n f];simp
 refine aH (kA (lN (q:=[]) (a:=m))) λF Z p S=>?_
 have le:=O.lt;have s:=O.keep p (by simp)
 have t:=X.lt.keep p (by simp)
 refine bW (N F e m.length o E [] _ s t S Q (fc i)) λz u e2 b w x lz=>?_
 rw[show Wu E []=nms E from Ĥ.mpr λn f=>by simp[G.z n f]]at b
 have C:=w.g S;have R:∀{y d},mK (aa 2) (efB r) fuel _ u=.nx y d->aa 1 y d=.ok _ d->aw 3 1 (YU r) [.ref e] m=.ok (.ref m.length) d:=λh h'=>fR ((qA (eN Y Z)).trans ((qA (eC Y e2)).trans ((qN h).trans (qR h'))))
 by_cases f:nms E=[]
 .rw[f]at b ⊢
  exact⟨_,u,R (wh0 Y b) Y,C,p.tr w,x,R' _⟩
 .refine aH (kO (xo (l:=[]) C b (by simp[nms];exact fc i)) C) λH e3 D T=>?_
  refine bW (N H e m.length o E (nms E) _ (.inr (D.g x)) ((t.jG w (λj U ds=>by rw[ï.mp U];exact s.nl ds)).keep D (λj U h=>by simp_all)) T Q (fc i)) λz' I e4 A K M a0=>?_
  rw[show Wu E (nms E)=[]from List.filter_eq_nil_iff.mpr (by simp_all)]at A
  exact⟨_,I,R ((wh1 Y b (by simp_all) ((qE (eL Y Y (gg C) e3)).trans (qA (eC Y e4)))).trans (wh0 Y A)) Y,K.g T,⟨N' p.len (N' w.len (N' D.len K.len)),λk c V f=>K.get k c (D.get k c (w.get k c (p.g V) f) (by have:=bz V;simp;exact X' this)) f⟩,M,R' _⟩
def lfL:=(cB (aa 0) _d (m2 (ay .NotIn) (aa 0) (aa 1)) (cP (aa 0)) 0 [1])
def cLo(a rest):=
 (af (aJ 1 (mN (aQ a) (ae (aa 0) aj)))
 (af (aJ 3 lfL)
 (af (cw (dz (aa 3))
 (af (a7 (ai .n))
 ag)
 ag)
 rest)))
def NI(d:az):=∀c e a E P,ck c e a->bh P c a E->Gd E ->
 ∃b,d [.ref e] c=.ok .n b/\ao [e] c b/\b[e]?=J (.dF a)
theorem t3(h:p u a=.ok (.ref b) a)(g:a[b]?=J (.l [])):dz p u a=.ok (.bl _t) a:=by
 rw[Jf,h,td,pj g];rfl
theorem Sx(k:JA r):NI (aw 5 1 (cLo r υ)):=by
 intro l e m E P b i G;refine bW (k l e _ E P b i G) λz o q t w a A=>?_
 have e2:=dy (u:=[oR e,oR z,_n,_n,_n]) (p:=aa 0) (ς:=m2 (ay .NotIn) (aa 0) (aa 1)) (E2:=cP (aa 0)) (E:=_d) (π:=[1]) (qU:=λ_=>_d) (g:=λd=>d) (show srcOf _ _=_ by rw[Fc (.inr a),set_same a]) (by rw[xl a,i.keys]) (λd b=>by
  refine bN (Ð.mp b) λn x c=>?_;subst c
  show eH (ay .NotIn _ _ _)=_
  rw[nv t,decide_eq_true x];rfl) (λd _ h=>by cases h) (by simp[nms];exact fc G.few)
 rw[show(((nms E).map _).filter _).map _=[]by simp]at e2
 refine aH (kA e2) λf e2 j y=>⟨f,fR ((qA (eC Y q)).trans ((qA e2).trans ((qT (t3 Y y)).trans (qB (qR Y))))),w.trans j.s,j.g a⟩
noncomputable def hF(a:B Str)(L:Str->B Str):kX:=a.map λn=>(n,L n)
variable{U2:L->B L}
theorem eh:nms (hF l U2)=l:=by
 unfold nms hF;rw[Ö];exact(acv λx _=>Y).trans (acJ _)
theorem zw(h:d∈l):jU (hF l U2) d=U2 d:=by
 unfold jU hF
 induction l with
 |nil=>simp at h
 |cons a l b=>
  grind
variable{P4:B D}
theorem iw(h:a[b]?=J (.l q))(c:a[m]?=J (.l P4))(d:q.length+P4.length<=10000):bb .Add (.ref b) (.ref m) a=.ok (.ref a.length) (a++[.l (q++P4)]):=by
 rw[ET,Jo,a9 h,a9 c,Jn,if_pos (bo (fc d))];rfl
def rbC:=(cB (mN (bP .list) (ae (m2 aR (aa 1) (aa 0)) aj)) _t (ai .n) (cP (aa 1)) 0 [0])
def rbL:=(mN b_ (ae (mN (bP .list) (ae (aa 1) aj)) aj))
def cRb:=(af (a7 (m2 (bb .Add) rbC rbL)) ag)
def Ww(d:az):=∀c l a,c[a]?=J (.l [])->∃k j b,d [.ref l,.ref a] c=.ok (.ref k) b/\b[k]?=J (.l [.ref j])/\b[j]?=J (.l [])/\ao [] c b
theorem NJ:Ww (aw 2 2 cRb):=by
 intro k l a c;refine aH (kA (show rbC [oR l,oR a] k=.ok _ _ from dy (qU:=λ_=>_t) (g:=id) (sr Y c) (by rw[e_,br,a9 c]) (by simp) (by simp) (by simp))) λb m h n=>?_
 refine aH (kA (lQ (h.g c))) λd e2 i o=>?_
 refine aH (kA (lN (q:=[.ref b.length]) (a:=d))) λp r e s=>?_
 refine aH (kA (iw (e.g (i.g n)) s (by simp))) λf e4 j t=>⟨_,b.length,f,fR (qR (eQ m (eN (eK (eN Y e2) Y) r) e4)),t,j.g (e.g o),(h.trans i).trans (e.trans j)⟩
def Wx(c:az):=∀b k j,b[k]?=J (.l [.ref j])->b[j]?=J (.l [])->∃q a,c [.ref k] b=.ok (.ref q) a/\a[q]?=J (.l [])/\ao [] b a
theorem whF(h:p u a=.ok (.bl _d) x):mK p υ (m+1) u a=.nx u x:=by
 rw[mK,h];rfl
theorem NL:Wx (aw 4 1 (Su υ r)):=by
 intro e k j f g;refine jh (Jx (u:=[oR k,_n,_n,_n]) (m:=0) Y (show Rw e k [j] [[]]from⟨f,.cons g .nil⟩) (by simp)) λh p b i l n s t w=>?_
 refine aH (kA (lN (q:=[]) (a:=b))) λc e2 d o=>⟨_,c,fR ((qA i).trans ((qA (eN Y e2)).trans ((qN (whF (eN Y (Jy (n.keep d))))).trans (qR Y)))),o,l.trans d⟩
theorem zx(a:Y6∉U.map (·.1)):dh U Y6 h=U++[(Y6,h)]:=by
 unfold dh
 simp_all
theorem lR:∀(c b:B (Key×D)),((b++c).map (·.1)).Nodup->c.foldl (λa p=>dh a p.1 p.2) b=b++c
 |[],b,_=>by simp
 |p::c,b,h=>by
  rw[aa7,zx (by
   grind),lR c _ (by simp_all)]
  simp
theorem Ff{f:L->D}(h:∀n∈l,∃j,f n=.ref j/\Y0 j/\a[j]?=J (.l ((U2 n).map .str))):bh Y0 a (l.map λn=>(.inr n,f n)) (hF l U2):=by
 induction l with
 |nil=>exact .nil
 |cons b l c=>exact .cons ⟨Y,h b (by simp)⟩ (c λn d=>h n (by simp[d]))
variable{U1:B (L×D)}
theorem dpk(e:p u a=.ok (.ref k) x)(g:x[k]?=J (.l (U1.map λb=>.t [.str b.1,b.2])))(d:(U1.map (·.1)).Nodup):mN kM (ae p aj) u a=.ok (.ref x.length) (x++[.dK (U1.map λb=>(.inr b.1,b.2))]):=by
 have c:=lR (U1.map λb=>((.inr b.1),b.2)) [] (by
  grind)
 rw[Ll,pa,e]
 show la _ _=_
 simp only[qM,a9 g,(jS (f:=yL) (g:=λb=>D.t [.str _,b.2]) (λn=>Y) U1),c]
 rfl
variable{R4:Src}
theorem xq{f:L->D}(b:E2 u a=.ok R4 a)(c:du R4 a=J (l.map .str))(k:∀n∈l,p ([oS n]++fy π u) a=.ok (.t [.str n,f n]) a)(i:l.length<=1000)(j:l.Nodup):
  ∃q aq,mN kM (ae (cB p _t (ai .n) E2 0 π) aj) u a=.ok (.ref q) aq/\aq[q]?=J (.dK (l.map λn=>(.inr n,f n)))/\ao [] a aq/\a.length<=q:=by
 have e:=dy (p:=p) (ς:=ai .n) (E:=_t) (π:=π) (g:=λd=>match d with|.str n=>.t [.str n,f n]|d=>d) b c (λd _=>Y) (λd m _=>by
  grind) (by simp;exact fc i)
 rw[Ĥ.mpr (λ_ _=>Y),Ö]at e
 have h:=dpk (U1:=l.map λn=>(n,f n)) e (by simp) (by simpa[aen]using j)
 rw[Ö]at h;exact⟨_,_,h,aG,ao.app.trans ao.app,by simp⟩
def lnC:=(mN (bP .all) (ae (cB (m2 (ay .In) (aa 0) (aa 1)) _t (ai .n) (cP (m2 aR (aa 0) (aa 4))) 0 [2]) aj))
def lnV(a b):=(m2 (bb .Add) (mN b_ (ae (aa 4) aj)) (mN (aQ a) (ae (mN (aQ b) (ae (aa 2) (ae (m2 aR (aa 0) (aa 4)) aj))) aj)))
def YV(a b):=(af (cw lnC
 (af (af (dY (aa 2) (aa 4) (lnV a b))
 ag)
 ag)
 ag)
 ag)
def lnT:=(af (cw (m2 (ay .In) (aa 4) (aa 3))
 (af bV
 ag)
 ag)
 ag)
def lnR:=(mN kM (ae (cB (mN gm (ae (aa 0) (ae (m2 aR (aa 1) (aa 0)) aj))) _t (ai .n) (cP (aa 0)) 0 [2]) aj))
def cLi(a b c d):=
 (af (aJ 1 (mN (aQ a) (ae (aa 0) aj)))
 (af (cw (m2 (ay .IsNot) (aa 1) (ai .n))
 (af bV
 ag)
 ag)
 (af (aJ 2 cp)
 (af (aJ 3 cp)
 (af (dW (dv 4) (cP (mN (aQ b) (ae (aa 0) aj)))
 (YV c d))
 (af (dW (dv 4) (cP (aa 0))
 lnT)
 (af (a7 lnR)
 ag)))))))
theorem jV(c:a[b]?=J (.dK U))(e:U.length<=1000):gV (.ref b) (.str d) h a=J (a.set b (.dK (dh U (.inr d) h))):=by
 simp only[gV,c,kK];rw[if_pos (bo (by omega))]
variable{E6 M4 U5:_o D}{d0:az}{m6:B (Key×D)}
theorem NP{y}(N:Wx r)(O:Ww d0)(F:a[b]?=J (.dF U))(P:bh Y0 a U X0)(Q:a[m]?=J (.dK m6))(o:bh y a m6 (hF l U2))(R:d∈nms X0)(S:d∉l)(hz:jU X0 d=[])(T:U2 d=[d])(s:l.length<=100)(z:∀j,a.length<=j->y j):
  ∃e aq,YV r d0 [oR b,M4,oR m,U5,oS d,E6] a=.nx [oR b,M4,oR m,U5,oS d,E6] aq/\aq[m]?=J (.dK e)/\bh y aq e (hF (l++[d]) U2)/\ao [m] a aq:=by
 refine aH (P.at R) λf G _ c=>?_
 rw[hz]at c;refine bN (Fe (u:=[oR b,M4,oR m,U5,oS d,E6]) (p:=m2 (ay .In) (aa 0) (aa 1)) (π:=[2]) (pv:=λx=>_t) c (sr (eQ (p:=aa 0) (ς:=aa 4) Y Y (iF (.inr F) G)) c) (λx V=>by cases V) (by simp)) λA X Z=>?_
 refine aH (kA (lN (q:=[.str d]) (a:=A))) λa0 e2 K2 g2=>?_
 have i:=Z.trans K2;refine bG (O _ m f (i.g c)) λk j b0 e3 g3 C H=>?_
 refine aP (N _ k j g3 C) λq D e4 E I=>?_
 have t:=i.trans (H.trans I);refine aH (kA (iw (I.g (H.g g2)) E (by simp))) λc0 e5 K5 g5=>?_
 have n:=t.trans K5;have w:=n.g Q;refine aH (kD (jV (d:=d) (h:=.ref D.length) w (by rw[←o.len];simp[hF];exact fc s)) w) λe0 e6 K g6=>?_
 have M:=((o.keep n (by simp)).put (r:=U2 d) (by rwa[eh]) (z _ t.len) (by rwa[T])).jG K (λj hj ds=>by simp_all)
 have:hF l U2++[(d,U2 d)]=hF (l++[d]) U2:=by simp[hF]
 rw[this]at M;exact⟨_,_,(qT X).trans (qN (qN (qD (eQ (eN Y e2) (eC (eK (eC (eK Y (eK (eQ Y Y (iF (.inr (i.g F)) G)) Y)) e3) Y) e4) e5) Y Y e6))),g6,M,n.tr K⟩
def Sy(f:az):=∀c e b E P L,ck c e b->bh P c b E->Gd E->(∀n∈nms E,L n=[n]) ->
 ∃l d a,f [.ref e] c=.ok (.ref l) a/\a[l]?=J (.dK d)/\bh (λj=>c.length<=j) a d (hF (nms E) L)/\ao [e] c a/\a[e]?=J (.dF b)/\c.length<=l
theorem nDq:∃aq,(∀{b},cp b a=.ok (.ref a.length) aq)/\ao [] a aq/\aq[a.length]?=J (.dK []):=⟨_,Y,ao.app,aG⟩
variable{A3 E1:az}
theorem Sz(hO:NI r)(hE:JA d0)(hM:Wx E1)(hB:Ww A3):Sy (aw 6 1 (cLi r d0 E1 A3)):=by
 intro Ω e M E P L hd hr G hL;have f0:=G.few;have C:(nms E).length=E.length:=by simp[nms]
 refine aH (hO Ω e M E P hd hr G) λm e1 K1 N=>?_
 have O:=hr.jG K1 (λj Q ds=>by rw[ï.mp Q];exact hd.nl ds)
 refine aH (nDq (a:=m)) λs e2 K2 g2=>?_
 refine aH (nDq (a:=s)) λR e3 K3 g3=>?_
 have u:=K2.trans K3;have g0:=u.g N;have h0:=K3.g g2;refine bW (hE R e M E P (.inr g0) (O.keep u (by simp)) G) λz w e4 S H T lz=>?_
 have le:=Ab N;have l1:=Ab g2;have x0:m.length≠e:=Þ le;have U:=H.g h0;have i0:=(O.keep u (by simp)).jG H (λj Q ds=>by simp_all)
 have w0:=H.len;have l3:=K3.len
 have j0:ao [] R w:=⟨H.len,λk c hk _=>by
  by_cases h:k=e
  .simp_all
  .exact H.get k c hk (by simpa using h)⟩
 refine cy (YN (l:=nms E) (A6:=dv 4) (υ:=YV E1 A3) (λi ρ b=>∃o a4,ρ=[oR e,J .n,oR m.length,oR s.length,a4,_n]/\b[m.length]?=J (.dK o)/\bh (λj=>w.length<=j) b o (hF ((nms E).take i) L)/\ao [m.length] w b) (sr (eC (Q0:=ae (aa 0) aj) Y e4) S) (λ⟨_,_,_,_,_,K⟩=>K.g S) (by
  rintro i n _ b t ⟨o,a4,rfl,I,h2,K⟩;have D:=Å t
  refine bT (NP hM hB (d:=n) (M4:=J .n) (U5:=oR s.length) (E6:=_n) (K.g T) (i0.jG K (λj Q ds=>by simp_all)) I h2 D (by
   intro hm;obtain⟨i',x⟩:=ú.mp hm;have F:=(Ê.mp x).1;rw[ŕ]at F;rw[adi (P' F (acK _ _))]at x;have:=(ϋ (Ab x) G.nd).mp (x.trans t.symm);exact ä _ (â (Á this.symm) (P' F (acK _ _)))) (G.z n D) (hL n D) (by rw[ŕ];exact N' (N' (aco _ _) (Á C)) f0) (λj Q=>N' K.len Q)) λV X e6 h6 h7 K6=>?_
  exact⟨_,_,_,Y,e6,V,_,Y,h6,by rw[ŧ,t];exact h7,K.trans K6⟩) ⟨[],_n,Y,U,.nil,ao.refl⟩ (by omega)) λ_ b e5 m0=>bT m0 λo a4 o0 h5 Z K5=>?_;subst o0
 rw[Ϛ]at Z;have y:=K5.g T;have p0:=K5.g (H.g g3)
 have a0:∀{a4},cP (aa 0) [oR e,J .n,oR m.length,oR s.length,a4,_n] b=.ok (.keys e) b:=by
  intro a4;rw[nk]
  show srcOf b (.ref e)=_
  rw[Fc (.inr y),set_same y]
 have b0:du (.keys e) b=J ((nms E).map .str):=by rw[xl y,hr.keys]
 obtain⟨_,_,e6,rfl,A,rfl⟩:=Nz (A6:=dv 4) (υ:=lnT) (λi ρ X=>b=X/\∃A,ρ=[oR e,J .n,oR m.length,oR s.length,A,_n]) a0 (λ⟨z,_⟩=>z▸b0) (by
  rintro i d _ _ r0 ⟨rfl,A,rfl⟩;refine bN (ph r0) λn t t0=>?_;subst t0
  exact⟨_,_,_,Y,q0 (eQ Y Y (pT (d:=n) (.inl p0))),Y,_,Y⟩) ⟨Y,a4,Y⟩ (by simp;omega)
 have c0:∀n∈nms E,∃j,(aN o (.inr n)).getD .n=.ref j/\w.length<=j/\b[j]?=J (.l ((L n).map .str))/\aN o (.inr n)=oR j:=λn t=>by
  refine aH (Z.at (n:=n) (by rw[eh];exact t)) λj I h2 h3=>?_
  rw[zw t]at h3
  simp_all
 refine bT (xq (p:=mN gm (ae (aa 0) (ae (m2 aR (aa 1) (aa 0)) aj))) (π:=[2]) (l:=nms E) (f:=λn=>(aN o (.inr n)).getD .n) (a0 (a4:=A)) b0 (λn t=>by
  refine dJ (c0 n t) λj I _ _ h4=>?_
  rw[I];exact eN (eK Y (eK (eQ Y Y (iF (d:=n) (.inl h5) h4)) Y)) Y) (by omega) G.nd) λq u0 e7 g7 K7 lq=>?_
 have e0:ao [] m b:=⟨ó (Ab h5),λk c hk _=>K5.get k c (j0.g (u.g hk)) (by have:=bz hk;simp;exact X' this)⟩
 have v0:=e0.len;have l0:=K1.len;exact⟨q,_,u0,fR ((qA (eC Y e1)).trans ((q0 (eQ Y Y Y)).trans ((qA e2).trans ((qA e3).trans ((e5 _).trans ((e6 _).trans (qR e7))))))),g7,Ff λn t=>dJ (c0 n t) λj I h2 h3 _=>⟨j,I,ó (P' (â l0 (Ab U)) h2),K7.g h3⟩,K1.trans (Lp.up (e0.trans K7)),K7.g y,N' (N' l0 v0) lq⟩
def dU(x:L):=1<=x.length/\x.length<=8/\∀c∈x.cps.toList,97<=c/\c<=122
theorem NQ:∀c,97<=c->c<=122->oq (aY c) "abcdefghijklmnopqrstuvwxyz"=true:=by
 have:∀i,i<26->oq (aY (97+i)) "abcdefghijklmnopqrstuvwxyz"=true:=by decide +kernel
 intro c a b;have:=this (c - 97) (by omega)
 simp_all
def inC:=(cB (m2 (ay .In) (aa 0) (ai (.str "abcdefghijklmnopqrstuvwxyz"))) _t (ai .n) (cP (aa 0)) 0 [])
def lS:=
 (af (cw (dz (m1 (gp .str) (aa 0)))
 (af (a7 (ai (.bl _d)))
 ag)
 ag)
 (af (a7 (fJ (mI .LtE .LtE (ai (.int 1)) (mN (bP .len) (ae (aa 0) aj)) (ai (.int 8))) (mN (bP .all) (ae inC aj))))
 ag))
def fC(c:az):=∀b x,dU x->∃a,c [.str x] b=.ok (.bl _t) a/\ao [] b a
theorem SA:fC (aw 1 1 lS):=by
 intro a x h;obtain⟨n,i,e⟩:=h
 have b:=dy (u:=[oS x]) (p:=m2 (ay .In) (aa 0) (ai (.str "abcdefghijklmnopqrstuvwxyz"))) (ς:=ai .n) (E:=_t) (E2:=cP (aa 0)) (π:=[]) (g:=λd=>.bl _t) Y Y (λd _=>Y) (λd j _=>by
  obtain⟨c,f,rfl⟩:=Ð.mp j;have:=NQ c (e c f).1 (e c f).2
  show ay .In (.str _) (.str _) a=_
  simp_all) (by
  have:x.cps.toList.length=x.length:=by rfl
  grind)
 have e2:((x.cps.toList.map λc=>D.str (aY c)).filter λ_=>_t).map (λ_=>D.bl _t)=(x.cps.toList.map λ_=>_t).map .bl:=by
  rw[Ĥ.mpr (λ_ _=>Y),Ö,Ö]
  rfl
 rw[e2]at b;refine aH (kA (b)) λk b l m=>?_
 have e4:(mI .LtE .LtE (ai (.int 1)) (mN (bP .len) (ae (aa 0) aj)) (ai (.int 8))) [oS x] a=.ok (.bl _t) a:=by
  have o:bP .len [.str x] a=.ok (.int x.length) a:=by
   show oM _ [.str x] a=_
   unfold oM;simp[bo (fc i)]
  have q:d9 .LtE (.int 1) (.int x.length) a=.ok (.bl _t) a:=by
   have:decide ((1:Int)<=x.length)=true:=by simp;omega
   simp_all
  have r:d9 .LtE (.int x.length) (.int 8) a=.ok (.bl _t) a:=by
   have:decide ((x.length:Int)<=8)=true:=by simp;omega
   simp_all
  unfold mI
  simp_all
 exact⟨_,fR ((q0 Y).trans (qR (aT e4 (eN (eK b Y) ((tq m).trans (by simp)))))),l⟩
def dc(P:Nat->Prop)(a)(h:Nat)(E)(L:Str->B Str):=
 ∃e l b c,a[h]?=J (.ins "House" [("elders",.ref e),("lines",.ref l)])/\ck a e b/\bh P a b E/\ck a l c/\bh P a c (hF (nms E) L)
theorem dc.keep{a aq h E P L}(H:dc P a h E L)(K:ao [] a aq):dc P aq h E L:=by
 refine cg H λe l b c d f g i j=>⟨e,l,_,_,K.get _ _ d (by simp),f.keep K (by simp),g.keep K (by simp),i.keep K (by simp),j.keep K (by simp)⟩
theorem dc.imp{a h E P b L}(H:dc P a h E L)(c:∀j,P j->b j):dc b a h E L:=by
 refine cg H λe l d f g i k m n=>⟨e,l,_,_,g,i,k.imp c,m,n.imp c⟩
theorem dc.lt{a h E P L}(H:dc P a h E L):dc (λj=>P j/\j<a.length) a h E L:=by
 refine cg H λe l b c d f g i k=>⟨e,l,_,_,d,f,g.lt,i,k.lt⟩
theorem dc.SD(H:dc Y0 a m X0 U2)(K:ao [b] a x)(c:a[b]?=J (.l q))(p:¬ Y0 b):dc Y0 x m X0 U2:=by
 refine cg H λe l h i k d n f o=>?_
 have g:∀j∈[b],¬ Y0 j:=λj r=>by simp_all
 exact⟨e,l,_,_,K.get _ _ k (by simpa using (λz=>by simp_all)),d.keep K (by simpa using (λz=>d.nl _ (z▸c))),n.keep K g,f.keep K (by simpa using (λz=>f.nl _ (z▸c))),o.keep K g⟩
def fe:=(m1 (bc ["House"] "elders") (aa 0))
variable{P:Nat}
theorem SE(c:a[m]?=J (.ins "House" [("elders",.ref b),("lines",.ref P)])):bc ["House"] "elders" (.ref m) a=.ok (.ref b) a:=tm c Y Y
def YW:=(af (a7 (mN (bP .list) (ae fe aj))) ag)
def Fg(c:az):=∀b h E L P,dc P b h E L->∃k a,c [.ref h] b=.ok (.ref k) a/\a[k]?=J (.l ((nms E).map .str))/\ao [] b a/\b.length<=k
theorem SF:Fg (aw 1 1 YW):=by
 intro a h E L P H;refine cg H λe l c d f g i j k=>?_
 rw[eJ (by rfl)]
 have m:c7 1 [D.ref h]=[oR h]:=rfl;have b:=pk g;rw[i.keys]at b;refine⟨_,a++[.l _],?_,aG,ao.app,R' _⟩
 have:(mN (bP .list) (ae fe aj)) [oR h] a=.ok (.ref a.length) (a++[.l ((nms E).map .str)]):=by
  show(((bc _ _ _ a).bind _).bind _)=_
  rwa[SE f]
 unfold YW
 simp_all
variable{Q0:AM}
theorem NR(H:dc Y0 a b X0 U2)(i:u[m]?=J (oR b))(j:([("elders",D.ref 0),("lines",D.ref 0)]:B (L×D)).lookup d=_n):aK "House" d r (aa m) Q0 u a=(Q0 u a).bind λxs c=>IG (r (.ref b::xs) c):=by
 refine cg H λe l f g h k n o p=>?_
 refine nB (by simp_all) h ?_
 simp_all
def YX(a):=
 (af (cw (m2 (ay .NotIn) (aa 1) (aK "House" "kinds" a (aa 0) aj))
 (af bV
 ag)
 ag)
 ag)
def lT(c:az):=∀b h E L P n,dc P b h E L->n∈nms E->∃a,c [.ref h,.str n] b=.ok .n a/\ao [] b a
theorem SG(c:Fg r):lT (aw 2 2 (YX r)):=by
 intro b h E L P n H i;rw[eJ (by rfl)]
 have j:c7 2 [D.ref h,.str n]=[oR h,oS n]:=rfl;refine bT (c b h E L P H) λk a e f l _=>?_
 have m:aK "House" "kinds" r (aa 0) aj [oR h,oS n] b=.ok (.ref k) a:=by
  rw[NR H Y (by decide),s_,eE,e,Nu]
 have g:=nv (d:=n) f;unfold YX
 simp_all
def ceB(a):=(af (cA (aK "House" "check_kind" a (aa 0) (ae (aa 3) aj)))
 (af (cw (m2 (ay .In) (aa 3) (fH (aa 1) _t (ai .n) _d (aa 2)))
 (af bV
 ag)
 ag)
 ag))
def cCe(a):=
 (af (cw (m2 (ay .Gt) (mN (bP .len) (ae (aa 1) aj)) (ai (.int 5)))
 (af bV
 ag)
 ag)
 (af (dW (fY [2,3]) (sP (aa 1))
 (ceB a))
 ag))
def NS(CE:az):=∀b h a,b[a]?=J (.l [])->CE [.ref h,.ref a] b=.ok .n b
theorem SH:NS (aw 4 2 (cCe r)):=by
 intro d h a b
 obtain⟨_,_,e,rfl,rfl⟩:=Nz (a:=d) (E2:=sP (aa 1)) (R4:=.Yw (.ref a)) (q:=[]) (λ_ f c=>f=[oR h,oR a,_n,_n]/\c=d) (by unfold sP;simp[a9 b]) (λ⟨_,z⟩=>by
  rw[z]
  show(jz _ (.ref a)).map _=_
  rw[br,a9 b];rfl) (by simp) ⟨Y,Y⟩ (by simp)
 exact fZ ((q0 (eQ (eN Y (gf b)) Y Y)).trans (e _))
def zz(P:Nat->Prop)(a)(h e l:Nat)(E)(L:Str->B Str):=
 ∃b c,a[h]?=J (.ins "House" [("elders",.ref e),("lines",.ref l)])/\a[e]?=J (.dK b)/\bh P a b E/\a[l]?=J (.dK c)/\bh P a c (hF (nms E) L)
theorem zz.at(H:zz Y0 a m b P X0 U2):dc Y0 a m X0 U2:=bW (H) λc d e f g h i=>⟨b,P,c,d,e,.inl f,g,.inl h,i⟩
theorem zz.keep{g aq e h E P fp L l}(H:zz P g h e l E L)(K:ao fp g aq)(k:h∉fp)(m:e∉fp)(n:l∉fp)(i:∀j∈fp,¬ P j):zz P aq h e l E L:=
 let ⟨o,_,a,b,c,d,f⟩:=H
 ⟨_,_,K.get _ _ a k,K.get _ _ b m,c.keep K i,K.get _ _ d n,f.keep K i⟩
theorem zz.imp{a e h E P b L l}(H:zz P a h e l E L)(c:∀j,P j->b j):zz b a h e l E L:=
 let ⟨d,f,g,i,k,m,n⟩:=H
 ⟨_,_,g,i,k.imp c,m,n.imp c⟩
def cIn:=
 (af (cx ["House"] "elders" (aa 0) cp)
 (af (cx ["House"] "lines" (aa 0) cp)
 ag))
noncomputable abbrev hsC(n:Nat):aA:=[.ins "House" [("elders",.ref (n+1)),("lines",.ref (n+2))],.dK [],.dK []]
def Fh(b):=∀{a},gU "House" b [] a=.ok (.ref a.length) (a++hsC a.length)
theorem SI:Fh (aw 1 1 cIn):=nZ ((qS Sl Y aG bZ).trans (qS Sl Y aG bZ))
theorem pw(h:a.length<=b):(dS a x)[b]?=x[b]?:=by
 unfold dS;rw[Ϙ,ň h];cases x[b]? with
 |none=>rfl
 |some c=>cases c<;>rfl
theorem NU(h:x[b]?=J P2)(c:∀kvs,P2≠.dF kvs):(dS a x)[b]?=J P2:=by
 unfold dS;rw[Ϙ,h];cases P2
 case dF kvs=>simp_all
 all_goals rfl
theorem lU(e:a.length<=x.length)(d:∀(k:Nat) c,a[k]?=J c->x[k]?=J c\/∃kvs,c=Cell.dK kvs/\x[k]?=J (.dF kvs)):ao [] a (dS a x):=⟨by unfold dS;simp_all,λk c h _=>by
 unfold dS;rw[Ϙ,h];rcases d k c h with b|⟨kvs,rfl,b⟩
 .rw[b];cases c<;>rfl
 .rw[b];rfl⟩
theorem Bx(R:bh Y0 x U X0):bh Y0 (dS a x) U X0:=aE.imp (by rintro _ _ ⟨e,j,b,c,d⟩;exact⟨e,j,b,c,NU d (by simp)⟩) R
def YY(f:az):=∀b e c E P L,b[e]?=J (.dK c)->bh P b c E->Gd E->(∀n∈nms E,L n=[n]) ->
 ∃l d a,f [.ref e] b=.ok (.ref l) a/\a[l]?=J (.dK d)/\bh (λj=>b.length<=j) a d (hF (nms E) L)/\ao [] b a/\b.length<=l
theorem JB(h:Sy r):YY (fA r):=by
 intro d e f E P L g i G j;refine jh (h d e _ E P L (.inl g) i G j) λl m n o q a K s b=>?_
 refine⟨l,_,_,by unfold fA;rw[o],by rwa[pw b],Bx a,lU K.len λk c p=>?_,b⟩
 by_cases z:k=e
 .simp_all
 .exact .inl (K.get _ _ p (by simp_all))
def cSt(a):=
 (af (aJ 2 (mN (aQ a) (ae (aa 1) aj)))
 (af (cx ["House"] "elders" (aa 0) (aa 1))
 (af (cx ["House"] "lines" (aa 0) (aa 2))
 ag)))
def Fi(d:az):=∀a h e f g c E P L,a[h]?=J (.ins "House" [("elders",.ref f),("lines",.ref g)])->a[e]?=J (.dK c)->bh P a c E->Gd E->(∀n∈nms E,L n=[n])->(∀j,a.length<=j->P j) ->
 ∃l b,d [.ref h,.ref e] a=.ok .n b/\zz P b h e l E L/\ao [h] a b/\a.length<=l
theorem SJ(t:YY r):Fi (aw 3 2 (cSt r)):=by
 intro u h e w T x E P L y m n G z A;refine bG (t u e _ E P L m n G z) λl C f D o i k=>xa k λc F=>?_
 have d:=c.g y;have b:=c.g m;have H:=lO d b;have I:=lO d o;refine aH (fS (h:=.ref e) Y d "elders") λK M N p=>?_
 refine aH (fS (h:=.ref l) Y p "lines") λO Q R S=>?_
 have a:=N.trans R;have q:∀j∈[h],∀s,f[j]?≠J (.l s):=λj U s=>by simp_all
 exact⟨l,_,fZ ((qA (eC Y D)).trans ((qS Y Y d M).trans (qS Y Y p Q))),⟨_,_,S,a.g b,(n.keep c (by simp)).jG a q,a.g o,(i.imp A).jG a q⟩,c.tr a,F⟩
def adE:=(mN gm (ae (aa 0) (ae (DW (m2 (ay .Eq) (aa 0) (aa 2)) (mN (bP .list) (ae (aa 1) aj)) (m2 aR (m1 (bc ["House"] "elders") (aa 3)) (aa 0))) aj)))
def adD:=(mN kM (ae (cB adE _t (ai .n) (cP (aa 4)) 0 [2,1,0]) aj))
def adI:=(c6 pI jo (aa 4) (ae (DW (m2 (ay .Is) (aa 3) (ai .n)) (mN (bP .len) (ae (aa 4) aj)) (aa 3)) (ae (aa 1) aj)))
def cAd(a CE b c):=
 (af (cw (dz (mN (aQ a) (ae (aa 1) aj)))
 (af bV
 ag)
 ag)
 (af (cw (m2 (ay .In) (aa 1) fe)
 (af bV
 ag)
 ag)
 (af (cw (m2 (ay .GtE) (mN (bP .len) (ae fe aj)) (ai (.int 12)))
 (af bV
 ag)
 ag)
 (af (cA (aK "House" "check_elders" CE (aa 0) (ae (aa 2) aj)))
 (af (aJ 4 (aK "House" "kinds" b (aa 0) aj))
 (af (cA adI)
 (af (cA (aK "House" "settle" c (aa 0) (ae adD aj)))
 ag)))))))
theorem Fj{α xs}{x:α}:su xs xs.length x=xs++[x]:=by
 have:HT.kj xs.length 0 (J (xs.length))=xs.length:=by
  unfold HT.kj;simp
  grind
 unfold su
 simp_all
variable{V4 ς:EM}{X1:ax D}
theorem eIF(h:p u a=.ok (.bl _d) x)(b:V4 u x=X1):DW p ς V4 u a=X1:=by simp_all
theorem YZ(h:p u a=.ok (.bl _t) x)(b:ς u x=X1):DW p ς V4 u a=X1:=by simp_all
theorem NV(H:dc Y0 a b X0 U2)(ha:a[m]?=J (.l (l.map .str)))(hk:a[P]?=J (.l ((nms X0++[d]).map .str)))(hn:d∉nms X0)(N:(nms X0).Nodup)(hl:X0.length<=100)(hP:∀j,a.length<=j->Y0 j):
  ∃q k aq,adD [oR b,oS d,oR m,M4,oR P] a=.ok (.ref q) aq/\aq[q]?=J (.dK k)/\bh Y0 aq k (X0++[(d,l)])/\ao [] a aq/\a.length<=q:=by
 have O:nms (X0++[(d,l)])=nms X0++[d]:=by simp[nms]
 refine cy (zt (u:=[oR b,oS d,oR m,M4,oR P]) (p:=adE) (ς:=ai .n) (π:=[2,1,0]) (q:=(nms X0++[d]).map .str) (λi n c=>∃h:B (L×D),n=h.map (λp=>.t [.str p.1,p.2])/\bh Y0 c (h.map λp=>(.inr p.1,p.2)) ((X0++[(d,l)]).take i)/\ao [] a c) (sr (p:=aa 4) Y hk) ⟨[],Y,.nil,ao.refl⟩
  (λi n c b=>by
   refine aH b λ_ _ _ K=>?_
   rw[e_,br,a9 (K.g hk)])
  (λi Q n c R hI=>by
   obtain⟨h,rfl,w,K⟩:=hI;obtain⟨x,y,rfl⟩:=ph R;refine cg (H.keep K) λe S k e0 q1 q2 q3 q4 q5=>?_
   have A:∀(p:L×B L) (j:Nat) (f:aA),(X0++[(d,l)])[i]?=J p->p.1=x->Y0 j->f[j]?=J (.l (p.2.map .str))->ao [] c f->∃C:B (L×D),(h.map (λp=>D.t [.str p.1,p.2])++[.t [.str x,.ref j]])=C.map (λp=>.t [.str p.1,p.2])/\bh Y0 f (C.map λp=>(.inr p.1,p.2)) ((X0++[(d,l)]).take (i+1))/\ao [] a f:=by
    intro p j f hp T o I K3;refine⟨h++[(x,.ref j)],by simp,?_,K.trans K3⟩
    rw[ŧ,hp,ā];exact aE.append (w.keep K3 (by simp)) (.cons ⟨by rw[T],j,Y,o,I⟩ .nil)
   have M:(m2 (ay .Eq) (aa 0) (aa 2)) [oS x,oR m,oS d,oR b] c=.ok (.bl (decide (x=d))) c:=rfl;have hi:=(Ê.mp y).1;rw[Ģ]at hi;simp only[nms,ß,List.length_singleton]at hi
   by_cases r:i<X0.length
   .have s:(nms X0)[i]?=J x:=by rw[ë (by simp[nms];exact r)]at y;exact y
    have t:x∈nms X0:=Å s;rw[decide_eq_false λz:x=d=>hn (z▸t)]at M
    have E:jU X0 x=X0[i].2:=by
     have hm:(x,jU X0 x)∈X0:=zv (pq t);obtain⟨i',F⟩:=ú.mp hm;have U:(nms X0)[i']?=J x:=by simp[nms,F]
     have V:=(Ê.mp F).1;have:=(ϋ (by simp[nms];exact V) N).mp (U.trans s.symm)
     simp_all
    refine aH (q3.at t) λj hv o I=>?_
    rw[E]at I;exact⟨_,c,eN (eK Y (eK (eIF M (eQ (eF Y q1) Y (iF q2 hv))) Y)) Y,A X0[i] j c (by rw[ë r];simp) (by simpa[nms,r]using s) o I ao.refl⟩
   .have X:i=X0.length:=by omega
    subst X
    have Z:x=d:=by
     simp[nms]at y;exact y.symm
    subst Z;rw[decide_eq_true Y]at M;exact⟨_,_,eN (eK Y (eK (YZ M (eN Y (lQ (K.g ha)))) Y)) Y,A (x,l) c.length _ (by simp) Y (hP _ K.len) aG ao.app⟩) (by simp[nms];exact fc hl)) λys a0 U b0=>aH b0 λh c0 w K1=>?_;subst c0
 have G:((nms X0++[d]).map D.str).length=(X0++[(d,l)]).length:=by simp[nms]
 rw[G,Ϛ]at w
 have f0:h.map (·.1)=nms X0++[d]:=by
  have:=w.keys;rw[O,Ö]at this
  have h2:(h.map (D.str ∘ (·.1)))=(nms X0++[d]).map D.str:=by
   rw[←this];rfl
  rw[←Ö]at h2;exact(abi (λm d0 z=>by cases z;rfl)).mp h2
 have K2:=K1.trans (ao.app (π:=[]) (a:=a0) (x:=[Cell.l (h.map λp=>.t [.str p.1,p.2])]))
 exact⟨_,_,_,dpk U aG (by grind),aG,(w.keep (fp:=[]) ao.app (by simp)).keep (fp:=[]) ao.app (by simp),K2.trans ao.app,K2.len⟩
def Fl(f:az):=∀c h a E L d P n,dc P c h E L->c[a]?=J (.l [])->dU n->n∉nms E->E.length<12 ->
 Gd (E++[(n,[])])->(∀m∈nms (E++[(n,[])]),d m=[m])->(∀j,c.length<=j->P j)->∃e l b,f [.ref h,.str n,.ref a,.n] c=.ok .n b/\zz P b h e l (E++[(n,[])]) d/\ao [h] c b/\c.length<=e/\e<l
theorem SK(U:fC r)(V:NS d0)(X:Fg E1)(Z:Fi A3):Fl (aw 5 4 (cAd r d0 E1 A3)):=by
 intro Ω h a E L L' P n H ha hv K o G hL M;have t:nms (E++[(n,[])])=nms E++[n]:=by simp[nms]
 refine bN (U Ω n hv) λu e1 p=>?_
 have w:=H.keep p;have b:=p.g ha;refine bT (X _ h E L P w) λk f e3 i x N=>?_
 have H3:dc (λj=>P j/\j≠k) _ h E L:=(w.lt.keep x).imp (by grind)
 have a0:=X' (P' (bz b) N)
 have y:jo (.ref k) [.int ((nms E).map D.str).length,.str n] f=.ok .n (f.set k (.l ((nms E++[n]).map .str))):=by
  simp only[jo,kT i];rw[if_pos,Fj]
  .simp
  .rw[bo (by simp[nms];exact GD o),jj (Ķ _) (by simp[nms];exact Ku o)];rfl
 refine aH (kO y i) λb0 e4 z g4=>?_
 have A:=(H3.SD z i (by simp)).imp λj c=>c.1
 have d:=ao.new (p.trans x) z (λj c=>by
  rw[ï.mp c];exact N' p.len N)
 refine bG (NV (l:=[]) (M4:=J .n) A (z.g (x.g b)) g4 K ((Ă.mp (t▸G.nd)).1) (GD o) (λj c=>M j (N' d.len c))) λq c0 e0 e5 O h5 C=>xa C λQ l5=>?_
 refine cg (A.keep Q) λe l _ _ q1 _ _ _ _=>?_
 have m:=d.trans Q;refine bT (Z _ h q e l _ _ P L' q1 O h5 G hL (λj c=>M j (N' m.len c))) λl' f0 e6 H6 K6 l6=>?_
 have F:=bz O;refine cg w λ_ _ R _ s S T _ _=>?_
 refine cg A λ_ _ _ _ t1 _ _ _ _=>?_
 have I:=T.len;exact⟨q,l',_,fZ ((q0 (nT (eC Y e1))).trans ((q0 (eQ Y (eF Y s) (by rw[pT S,T.is,decide_eq_false K]))).trans ((q0 (eQ (eN (eK (eF Y s) Y) (mw S)) Y (Wl (by simp;exact Ku (â (Á I.symm) o))))).trans ((qE (eM Y s Y (V u h a b))).trans ((qA (eM Y s Y e3)).trans ((qE (eL Y (eK (YZ Y (eN Y (gf i))) Y) (gg i) e4)).trans (qE (eM Y t1 (eK e5 Y) e6)))))))),H6,m.tr K6,N' d.len l5,P' F l6⟩
theorem JC:∃e,iS e (pureOf (aw 8 3 vh)):=by
 have h:∀c t m:Int,∃r,0<=t->t<100000->0<m->0<=r/\r<m/\pureOf _ _=.ok _:=λc t m=>by
  by_cases d:0<=t/\t<100000/\0<m
  .refine aH (Ju (Q:=c) d.1 d.2.1 d.2.2) λr f g i=>⟨r,λ_ _ _=>⟨f,g,i⟩⟩
  .exact⟨0,λa b c=>absurd ⟨a,b,c⟩ d⟩
 exact⟨_,λc t m=>(h c t m).choose_spec⟩
def tv:=
 (af (cw (m2 (ay .Lt) (aa 1) (mN (bP .len) (ae (aa 0) aj)))
 (af (a7 (m2 aR (aa 0) (aa 1)))
 ag)
 ag)
 (af (a7 (ai (.int 0)))
 ag))
theorem SN(a):Sm (SC a)=true:=by
 show(a.map _).all _=_t
 rw[á];intro d b;obtain⟨i,_,rfl⟩:=Ð.mp b;rfl
theorem Fm:lB (λb k=>b.getD k 0) (pureOf (aw 2 2 tv)):=by
 intro b k;have f:c7 2 [SC b,D.int k]=[J _,J _]:=rfl
 have c:bP .len [SC b] []=.ok (.int b.length) []:=by
  show ax.ok _ []=_
  simp_all
 refine qW (a:=[]) (by
  simp only[ţ,SN,List.all_nil];rfl) ?_ Y
 rw[eJ (by rfl),f]
 by_cases h:k<b.length
 .have d:=by omega
  have e:L2.ll (b.map D.int) (k)=J (.int (b.getD k 0)):=L2.bQ (by simp[h])
  have g:aR (SC b) (.int k) []=.ok (.int (b.getD k 0)) []:=by
   show la (ixs [] (J _) (.int k)) _=_
   rw[wX e];rfl
  simp[tv,c,d,g,-List.getD_eq_getElem?_getD]
 .have d:=by omega
  have e:b.getD k 0=0:=by simp_all
  show _=ax.ok (D.int (b.getD k 0)) []
  simp[tv,c,d]
noncomputable def tS(a:B L):D:=.t (a.map .str)
noncomputable def kS(a:B L):B Key:=a.map ĥ
theorem Fo(h:kS l=kS i0):l=i0:=abi (λx y e=>by grind) |>.mp h
def nums(i:Nat):B (B Str)->B (B Key×D)
 |[]=>[]
 |r::L=>(kS r,.int i)::nums (i+1) L
theorem tx(a):qK (tS a)=J (kS a):=jS (f:=kK) (λ_=>Y) _
theorem vp:∀L i r,nums i (L++[r])=nums i L++[(kS r,.int (i+L.length:Nat))]
 |[],i,r=>by simp[nums]
 |a::L,i,r=>by
  rw[ae2,nums,vp L _ r,nums]
  grind
theorem pz:∀L i r,aN (nums i L) (kS r)=if r∈L then J (.int (i+L.idxOf r:Nat))else _n
 |[],i,r=>by rfl
 |a::L,i,r=>by
  by_cases e:a=r
  .subst e
   simp[nums,aN,Ė]
  .have b:¬ kS a=kS r:=λh=>e (Fo h)
   have c:aN (nums i (a::L)) (kS r)=aN (nums (i+1) L) (kS r):=by simp[nums,aN,Ė,b]
   rw[c,pz L _ r]
   grind
theorem Fp(L i r)(h:r∉L):((nums i L).any λb=>decide (b.1=kS r))=false:=by
 induction L generalizing i with
 |nil=>rfl
 |cons a L c=>
  rw[nums,Į,c _ (λz=>h (by simp[z]))]
  have d:¬ kS a=kS r:=λz=>(λz=>h (by simp[z])) (Fo z)
  simp[d]
theorem Fq(L i):(nums i L).length=L.length:=by
 induction L generalizing i with
 |nil=>rfl
 |cons a L b=>simp[nums,b]
structure Sh(Ω:aA)(s r m:Nat)(L:B (B Str)):Prop where
 ob:Ω[s]?=J (.ins "Shapes" [("rows",.ref r),("numbers",.ref m)])
 ro:Ω[r]?=J (.l (L.map tS))
 nu:Ω[m]?=J (.dT (nums 0 L))
variable{A:B (B L)}
theorem Sh.ne(S:Sh a b m P A):b≠m/\b≠P/\m≠P:=by
 refine⟨λe=>?_,λe=>?_,λe=>?_⟩
 .have h:=S.ob;rw[e,S.ro]at h;cases h
 .have h:=S.ob;rw[e,S.nu]at h;cases h
 .have h:=S.ro;rw[e,S.nu]at h;cases h
theorem Sh.keep(S:Sh a b m P A){fp}(K:ao fp a x)(c:autoParam (b∉fp) v4)(d:autoParam (m∉fp) v4)(e:autoParam (P∉fp) v4):Sh x b m P A:=⟨K.get _ _ S.ob c,K.get _ _ S.ro d,K.get _ _ S.nu e⟩
noncomputable def ee(L)(a:B Str):=if a∈L then L else L++[a]
def cNo:=
 (af (aJ 2 (mN (bP .tuple) (ae (aa 1) aj)))
 (af (cw (m2 (ay .NotIn) (aa 2) (m1 (bc ["Shapes"] "numbers") (aa 0)))
 (af (dY (m1 (bc ["Shapes"] "numbers") (aa 0)) (aa 2) (mN (bP .len) (ae (m1 (bc ["Shapes"] "rows") (aa 0)) aj)))
 (af (cA (c6 pI dQ (m1 (bc ["Shapes"] "rows") (aa 0)) (ae (aa 2) aj)))
 ag))
 ag)
 (af (a7 (m2 aR (m1 (bc ["Shapes"] "numbers") (aa 0)) (aa 2)))
 ag)))
theorem Lw{j:Nat}(h:a[m]?=J (.dT (nums 0 A)))(c:l∈A):aR (.ref m) (tS l) a=.ok (.int (A.idxOf l)) a:=by
 have b:=EV h (tx l);rw[pz,if_pos c,acG]at b;unfold aR;rw[gb,gb,kW];simp only[Ig,b,br,dq,h];rfl
def JD(d:az):=∀b s r m k L c,Sh b s r m L->b[k]?=J (.l (c.map .str))->L.length<=500->∃a,d [.ref s,.ref k] b=.ok (.int ((ee L c).idxOf c)) a/\Sh a s r m (ee L c)/\ao [r,m] b a
theorem SO:JD (aw 3 2 cNo):=by
 intro b s r m k L a S x y;refine mO S.ne λE F G=>?_
 have q:=Br x;have c:=EV S.nu (tx a);rw[pz]at c;have u:∀{t},lF _t (tS a) (.ref m) b=.ok (.bl t) b->ay .NotIn (tS a) (.ref m) b=.ok (.bl t) b:=λh=>by simp[(Nx S.nu),(zj _),h,v2]
 unfold ee
 by_cases l:a∈L
 .rw[if_pos l]at c ⊢
  exact⟨b,fR ((qA (eN Y q)).trans ((q0 (eQ Y (eF Y S.ob) (u (by simp only[lF,c];rfl)))).trans (qR (eQ (eF Y S.ob) Y (Lw (j:=0) S.nu l))))),S,ao.refl⟩
 .rw[if_neg l]at c ⊢
  have d:dh (nums 0 L) (kS a) (.int ((L.map tS).length))=nums 0 (L++[a]):=by
   unfold dh;rw[Fp L 0 a l,vp];simp
  refine aH (kD (o:=gV (.ref m) (tS a) (.int ((L.map tS).length)) b) (by
   simp only[gV,S.nu,tx,d];rw[if_pos (bo (by rw[Fq];omega))]) S.nu) λz A n C=>?_
  have e:=n.g S.ob;have f:=n.g S.ro;refine aH (aL (tS a) f (by simp;exact fc y)) λD e2 p H=>?_
  have i:=p.g C;have w:Sh _ s r m _:=⟨p.g e,by simp_all,i⟩
  exact⟨_,fR ((qA (eN Y q)).trans ((qT (eQ Y (eF Y S.ob) (u (by simp only[lF,c];rfl)))).trans ((qN ((qD (eN (eK (eF Y S.ob) Y) (gf S.ro)) (eF Y S.ob) Y A).trans (qE (eL (eF Y e) Y (gg f) e2)))).trans (qR (eQ (eF Y w.ob) Y (Lw (j:=0) i (by simp))))))),w,(n.s).trans p.s⟩
def cWo:=
 (af (a7 (mN (bP .list) (ae (m2 aR (m1 (bc ["Shapes"] "rows") (aa 0)) (aa 1)) aj)))
 ag)
def mM(c:az):=∀b (s r m i:Nat) L a,Sh b s r m L->L[i]?=J a->c [.ref s,.int i] b=.ok (.ref b.length) (b++[.l (a.map .str)])
theorem SQ:mM (aw 2 2 cWo):=by
 intro c s r m i L a S b;exact fR (qR (eN (eK (eQ (eF Y S.ob) Y (aU S.ro (L2.bQ (v:=tS _) (by simp[b])))) Y) Y))
theorem Fs:l∈ee A l:=by
 unfold ee
 grind
theorem Ft:(ee A l).length<=A.length+1:=by
 unfold ee;split<;>simp
theorem zA(h:A.Nodup):(ee A l).Nodup:=by
 unfold ee
 grind
theorem hH(h:A[b]?=J i0):(ee A l)[b]?=J i0:=by
 unfold ee;split
 .exact h
 .rwa[ë (Ê.mp h).1]
theorem vq:(ee A l)[(ee A l).idxOf l]?=J l:=by
 have h:=ϛ (Fs (A:=A) (l:=l))
 simp_all
theorem NW(S:Sh x b m P A)(e:p u a=.ok (.ref b) x)(f:d≠"rows"/\d≠"numbers"):aK "Shapes" d r p Q0 u a=(Q0 u x).bind λxs c=>IG (r (.ref b::xs) c):=by
 refine nB e S.ob ?_
 simp_all
def cGr(a b):=
 (af (a7 (aK "Shapes" "number_of" a (aa 0) (ae (m2 (bb .Add) (aK "Shapes" "words_of" b (aa 0) (ae (aa 1) aj)) (mN b_ (ae (aa 2) aj))) aj)))
 ag)
def pA(d:az):=∀c (s r m i:Nat) L a w,Sh c s r m L->L[i]?=J a->a.length<=1000->L.length<=500->∃b,d [.ref s,.int i,.str w] c=.ok (.int ((ee L (a++[w])).idxOf (a++[w]))) b/\Sh b s r m (ee L (a++[w]))/\ao [r,m] c b
theorem SR(e:JD r)(f:mM d0):pA (aw 3 3 (cGr r d0)):=by
 intro h s b m i L j w S k l n;refine aH (kA (f h s b m i L _ S k)) λc o p t=>?_
 refine aH (kA (lN (q:=[.str w]) (a:=c))) λu e2 d x=>?_
 refine aH (kA (iw (d.g t) x (by simp;exact fc l))) λy z A F=>?_
 have K:=(p.trans d).trans A;refine aH (e _ s b m _ L _ (S.keep K) (by simp_all) n) λC e4 D E=>⟨_,fR (qR (eM Y S.ob (eK (eQ (eM Y S.ob Y o) (eN Y e2) z) Y) e4)),D,K.tr E⟩
noncomputable def jH(a:B L)(w):=a.filter λx=>decide (x≠w)
theorem qZ{w}:∀b,(b.map D.str).filter (λd=>!d8 d (.str w))=(jH b w).map .str
 |[]=>Y
 |a::b=>by
  have e:(!d8 (.str a) (.str w))=decide (a≠w):=by
   by_cases h:a=w<;>simp[h]
  have c:=qZ (w:=w) b;unfold jH at c ⊢
  grind
theorem NX(e:E2 u a=.ok R4 x)(f:du R4 x=J (l.map .str))(h:fy [b] u=[J (.str d)])(i:l.length<=1000):cB (aa 0) _d (m2 (ay .NotEq) (aa 0) (aa 1)) E2 0 [b] u a=.ok (.ref x.length) (x++[.l ((jH l d).map .str)]):=by
 have:=dy (p:=aa 0) (E:=_d) (ς:=m2 (ay .NotEq) (aa 0) (aa 1)) (qU:=λc=>!d8 c (.str d)) (g:=id) e f (by
   intro c j;obtain⟨z,k,rfl⟩:=Ð.mp j;rw[h];simp[mJ]) (by
   simp) (by simp;exact fc i)
 rw[this,acJ,qZ]
def cWi(a b):=
 (af (a7 (aK "Shapes" "number_of" a (aa 0) (ae (cB (aa 0) _d (m2 (ay .NotEq) (aa 0) (aa 1)) (cP (aK "Shapes" "words_of" b (aa 0) (ae (aa 1) aj))) 0 [2]) aj)))
 ag)
def pU(d:az):=∀c (s r m i:Nat) L a w,Sh c s r m L->L[i]?=J a->a.length<=1000->L.length<=500->∃b,d [.ref s,.int i,.str w] c=.ok (.int ((ee L (jH a w)).idxOf (jH a w))) b/\Sh b s r m (ee L (jH a w))/\ao [r,m] c b
theorem SS(e:JD r)(f:mM d0):pU (aw 3 3 (cWi r d0)):=by
 intro g s a m i L h w S j k l;refine aH (kA (f g s a m i L _ S j)) λn o q c=>?_
 refine aH (kA (NX (u:=[oR s,oI i,oS w]) (b:=2) (sr (eM (p:=aa 0) (Q0:=ae (aa 1) aj) (d:="words_of") Y S.ob Y o) c) (by rw[e_,br,a9 c]) Y k)) λt e2 x y=>?_
 have K:=q.trans x;refine aH (e _ s a m _ L _ (S.keep K) y l) λz A C D=>⟨_,fR (qR (eM Y S.ob (eK e2 Y) A)),C,K.tr D⟩
noncomputable def kZ(a:B L)(w:L):D:=if w∈a then .int (a.idxOf w)else .n
def cSo(a):=
 (af (aJ 3 (aK "Shapes" "words_of" a (aa 0) (ae (aa 1) aj)))
 (af (a7 (DW (m2 (ay .In) (aa 2) (aa 3)) (fx (c6 pI dr (aa 3) (ae (aa 2) aj)) (c6 wO oV (aa 3) (ae (aa 2) aj))) (ai .n)))
 ag))
def fL(d:az):=∀c (s r m i:Nat) L a w,Sh c s r m L->L[i]?=J a->∃b,d [.ref s,.int i,.str w] c=.ok (kZ a w) b/\ao [] c b
theorem SU(j:mM r):fL (aw 4 3 (cSo r)):=by
 intro k s a m i L c w S l;refine aH (kA (j k s a m i L _ S l)) λn f g e=>?_
 have b:=tp (d:=w) e;unfold kZ
 by_cases h:w∈c
 .rw[decide_eq_true h]at b
  rw[if_pos h];exact⟨_,fR ((qA (eM Y S.ob Y f)).trans (qR (YZ (eQ Y Y b) (al (eL Y Y (gg e) (Bu e h)))))),g⟩
 .rw[decide_eq_false h]at b
  rw[if_neg h];exact⟨_,fR ((qA (eM Y S.ob Y f)).trans (qR (eIF (eQ Y Y b) Y))),g⟩
structure Tn(Ω:aA)(T t s r m d:Nat)(kvs:B (Key×D))(L:B (B Str)):Prop where
 ob:Ω[T]?=J (.ins "Things" [("town",.ref t),("shapes",.ref s),("made",.ref d)])
 dk:Ω[d]?=J (.dK kvs)
 sh:Sh Ω s r m L
 nd:L.Nodup
 lt:T<s/\s<r/\r<m/\m<d
noncomputable abbrev cb(v:B (L×Int)):=v.map (·.1)
noncomputable abbrev NY(v:B (L×Int)):B D:=v.map λp=>.int p.2
structure Tg(Ω:aA)(d c l i:Nat)(k:Str)(v:B (Str×Int))(L:B (B Str)):Prop where
 ob:Ω[c]?=J (.ins "Thing" [("kind",.str k),("shape",.int i),("slots",.ref l)])
 sl:Ω[l]?=J (.l (NY v))
 wd:L[i]?=J (cb v)
 nd:(cb v).Nodup
 le:v.length<=12
 lt:d<c/\c<l
theorem Tn.keep{a aq T t s r m d L kvs fp}(W:Tn a T t s r m d kvs L)(K:ao fp a aq)(h:autoParam (∀j∈fp,d<j) v4):Tn aq T t s r m d kvs L:=by
 have z:=W.lt;have q:∀j,j<=d->j∉fp:=λj b c=>by grind
 exact⟨K.get _ _ W.ob (by grind),K.get _ _ W.dk (q _ (R' _)),W.sh.keep K (q _ (ó (Ó (Ó z.2.1 z.2.2.1) z.2.2.2))) (q _ (ó (Ó z.2.2.1 z.2.2.2))) (q _ (ó z.2.2.2)),W.nd,W.lt⟩
variable{A1 V0 Θ:Nat}
def Tn.aO(W:Tn a b m P Θ V0 A1 U A)(K:ao [] a x):=W.keep K (by simp)
variable{V2:B (L×Int)}
theorem Tg.keep{fp}(W:Tg a b m P Θ d V2 A)(K:ao fp a x)(c:autoParam (m∉fp) v4)(e:autoParam (P∉fp) v4):Tg x b m P Θ d V2 A:=⟨K.get _ _ W.ob c,K.get _ _ W.sl e,W.wd,W.nd,W.le,W.lt⟩
def Tg.aO(W:Tg a b m P Θ d V2 A)(K:ao [] a x):=W.keep K (by simp) (by simp)
theorem Fu(W:Tn a b m P Θ V0 A1 U A):bc ["Things"] "made" (.ref b) a=.ok (.ref A1) a:=tm W.ob Y Y
variable{G4:Nat}
theorem NZ(W:Tn a b m P Θ V0 A1 U A)(e:u[G4]?=J (oR b))(f:([("town",D.ref 0),("shapes",D.ref 0),("made",D.ref 0)]:B (L×D)).lookup d=_n):aK "Things" d r (aa G4) Q0 u a=(Q0 u a).bind λxs c=>IG (r (.ref b::xs) c):=by
 refine nB (by simp_all) W.ob ?_
 simp_all
def Y1:=
 (af (cw (m2 (ay .NotIn) (aa 1) (m1 (bc ["Things"] "made") (aa 0)))
 (af bV
 ag)
 ag)
 (af (a7 (m2 aR (m1 (bc ["Things"] "made") (aa 0)) (aa 1)))
 ag))
def cI(e:az):=∀b T t s r m d a L n c,Tn b T t s r m d a L->aN a (.inr n)=J (.ref c)->e [.ref T,.str n] b=.ok (.ref c) b
theorem SV:cI (aw 2 2 Y1):=by
 intro g T t s r m d e L n c W a;rw[eJ (by rfl)]
 have f:c7 2 [D.ref T,.str n]=[oR T,oS n]:=rfl;have b:=kY (d:=n) (.inl W.dk);rw[a]at b;rw[f];simp[Y1,(Fu W),b,(iF (.inl W.dk) a),-jT]
variable{F5 M5:Nat}
theorem gh(c:cI r)(W:Tn a b m P Θ V0 A1 U A)(e:aN U (.inr d)=J (.ref G4))(f:u[F5]?=J (oR b))(g:u[M5]?=J (oS d)):aK "Things" "thing" r (aa F5) (ae (aa M5) aj) u a=.ok (.ref G4) a:=by
 rw[NZ W f (by decide),pa,eZ,g,Jc,eE,s_,eE,eE,c _ _ _ _ _ _ _ _ _ _ _ W e]
 rfl
def Wy(a):=
 (af (a7 (m1 (bc ["Thing"] "kind") (aK "Things" "thing" a (aa 0) (ae (aa 1) aj))))
 ag)
def Wz(a):=
 (af (a7 (m1 (bc ["Thing"] "shape") (aK "Things" "thing" a (aa 0) (ae (aa 1) aj))))
 ag)
def SW(a):=
 (af (a7 (m2 aR (m1 (bc ["Thing"] "slots") (aK "Things" "thing" a (aa 0) (ae (aa 1) aj))) (aa 2)))
 ag)
theorem SX(c:cI r)(W:Tn a b m P Θ V0 A1 U A)(e:aN U (.inr d)=J (.ref G4))(G:Tg a A1 G4 F5 M5 C V2 A):aw 2 2 (Wy r) [.ref b,.str d] a=.ok (.str C) a:=fR (qR (eF (gh c W e Y Y) G.ob))
theorem SY(c:cI r)(W:Tn a b m P Θ V0 A1 U A)(e:aN U (.inr d)=J (.ref G4))(G:Tg a A1 G4 F5 M5 C V2 A):aw 2 2 (Wz r) [.ref b,.str d] a=.ok (.int M5) a:=fR (qR (eF (gh c W e Y Y) G.ob))
variable{l9:L×Int}
theorem S3(c:cI r)(W:Tn a b m P Θ V0 A1 U A)(e:aN U (.inr d)=J (.ref G4))(G:Tg a A1 G4 F5 M5 C V2 A){j:Nat}(f:V2[j]?=J l9):aw 3 3 (SW r) [.ref b,.str d,.int j] a=.ok (.int l9.2) a:=fR (qR (eQ (eF (gh c W e Y Y) G.ob) Y (aU G.sl (L2.bQ (by simp[f])))))
def WA(a b):=
 (af (aJ 2 (aK "Things" "thing" a (aa 0) (ae (aa 1) aj)))
 (af (a7 (mN PN (ae (aK "Shapes" "words_of" b (m1 (bc ["Things"] "shapes") (aa 0)) (ae (m1 (bc ["Thing"] "shape") (aa 2)) aj)) (ae (m1 (bc ["Thing"] "slots") (aa 2)) aj))))
 ag))
noncomputable def cm(v:B (L×Int)):B (Key×D):=v.map λp=>(.inr p.1,.int p.2)
theorem zB:∀v,((cb v).map ĥ).zip (NY v)=cm v
 |[]=>Y
 |p::v=>by
  have:=zB v;simp only[cb,NY,cm,Ù,List.zip_cons_cons]at this ⊢;rw[this]
theorem S_(k:cI r)(l:mM d0)(W:Tn a b m P Θ V0 A1 U A)(n:aN U (.inr d)=J (.ref G4))(G:Tg a A1 G4 F5 M5 C V2 A):∃q aq,aw 3 2 (WA r d0) [.ref b,.str d] a=.ok (.ref q) aq/\aq[q]?=J (.dK (cm V2))/\ao [] a aq/\a.length<=q:=by
 refine aH (kA (l a P Θ V0 M5 A _ W.sh G.wd)) λo s c t=>?_
 have j:=G.aO c
 have u:=lR _ [] (by
  have:(([]++cm V2).map λp:Key×D=>p.1)=(cb V2).map ĥ:=by simp[cm]
  rw[this];exact agN _ (λe h i z=>i (by simp_all)) G.nd)
 exact⟨_,_,fR ((qA (gh k W n Y Y)).trans (qR (eN (eK (eM (eF Y W.ob) W.sh.ob (eK (eF Y G.ob) Y) s) (eK (eF Y j.ob) Y)) (by simp only[PN,a9 t,a9 j.sl,(jS (f:=kK) (g:=D.str) (λ_=>Y) _),zB,u];rfl)))),aG,c.trans ao.app,c.len⟩
def Fv(a b c d):=
 (af (aJ 4 (aK "Things" "thing" b (aa 0) (ae (aa 1) aj)))
 (af (cw (dz (mN (aQ a) (ae (aa 2) aj)))
 (af bV
 ag)
 ag)
 (af (aJ 5 (aK "Shapes" "slot_of" c (m1 (bc ["Things"] "shapes") (aa 0)) (ae (m1 (bc ["Thing"] "shape") (aa 4)) (ae (aa 2) aj))))
 (af (cw (m2 (ay .IsNot) (aa 5) (ai .n))
 (af (dY (m1 (bc ["Thing"] "slots") (aa 4)) (aa 5) (aa 3))
 (af uT
 ag))
 ag)
 (af (cw (m2 (ay .GtE) (mN (bP .len) (ae (m1 (bc ["Thing"] "slots") (aa 4)) aj)) (ai (.int 12)))
 (af bV
 ag)
 ag)
 (af (cx ["Thing"] "shape" (aa 4) (aK "Shapes" "grown" d (m1 (bc ["Things"] "shapes") (aa 0)) (ae (m1 (bc ["Thing"] "shape") (aa 4)) (ae (aa 2) aj))))
 (af (cA (c6 pI dQ (m1 (bc ["Thing"] "slots") (aa 4)) (ae (aa 3) aj)))
 ag)))))))
noncomputable def ef(v w x):=if w∈cb v then v.set ((cb v).idxOf w) (w,x)else v++[(w,x)]
theorem JE(h:l∈A):ee A l=A:=if_pos h
variable{Q:Int}
theorem zC(h:d∈cb V2):cb (V2.set ((cb V2).idxOf d) (d,Q))=cb V2:=by
 have a:=ϛ h;rw[cb,List.map_set];have:(d,Q).1=(cb V2)[(cb V2).idxOf d]:=(List.getElem_idxOf a).symm;rw[this];exact List.set_getElem_self a
theorem Lx(W:Sh a b m P A)(e:p u a=.ok (.ref b) a)(f:d≠"rows"/\d≠"numbers")(g:Q0 u a=.ok q a)(c:r (.ref b::q) a=.ok h x):aK "Shapes" d r p Q0 u a=.ok h x:=by
 rw[NW W e f,g,eE,c];rfl
variable{V1:L}
theorem Ta(Z:fC r)(hT:cI d0)(hS:fL E1)(hG:pA A3)(W:Tn a b m P Θ V0 A1 U A)(hv:aN U (.inr d)=J (.ref G4))(G:Tg a A1 G4 F5 M5 V1 V2 A)(hw:dU C)(hl:A.length<=500)(hx:C∈cb V2\/V2.length<12):
  ∃i' y aq,aw 6 4 (Fv r d0 E1 A3) [.ref b,.str d,.str C,.int Q] a=.ok .n aq/\Tn aq b m P Θ V0 A1 U y/\Tg aq A1 G4 F5 i' V1 (ef V2 C Q) y/\ao [Θ,V0,G4,F5] a aq/\y=ee A (cb (ef V2 C Q)):=by
 refine bN (Z a C hw) λa0 e1 D=>?_
 have x:=W.aO D;have E:=G.aO D;refine bN (hS _ P Θ V0 M5 A _ C x.sh E.wd) λb0 e2 F=>?_
 have l:=x.aO F;have f:=E.aO F;have n:=D.trans F;have o:=W.lt;have c:=G.lt;have le:=G.le;have R:∀{Θ},_=Θ->aw 6 4 (Fv r d0 E1 A3) [.ref b,.str d,.str C,.int Q] a=Bj Θ:=λe=>(eJ Y).trans (congrArg _ ((qA (gh hT W hv Y Y)).trans ((q0 (nT (eC Y e1))).trans ((qA (eM (eF Y x.ob) x.sh.ob (eK (eF Y E.ob) Y) e2)).trans e))))
 by_cases i:C∈cb V2
 .have h:ef V2 C Q=V2.set _ _:=if_pos i
  have ev:(NY V2).set ((cb V2).idxOf C) (.int Q)=NY (ef V2 C Q):=by simp_all
  refine aH (dL (.int Q) f.sl (by simpa using ϛ i)) λH hd j S=>?_
  rw[ev]at S;rw[show kZ _ C=_ from if_pos i]at R
  refine⟨M5,A,_,(R ((qT Y).trans (qB (qD Y (eF Y f.ob) Y hd)))).trans Y,l.keep j (by simp;exact Ó c.1 c.2),⟨j.g f.ob,S,?_,?_,by simp_all,c⟩,n.tr j.s,?_⟩<;>rw[h,zC i]
  .exact G.wd
  .exact G.nd
  .exact(JE (Å G.wd)).symm
 .have I:=hx.resolve_left i
  have h:ef V2 C Q=V2++[(C,Q)]:=if_neg i;have p:cb V2++[C]=cb (ef V2 C Q):=by simp[h]
  refine aH (hG _ P Θ V0 M5 A _ C l.sh f.wd (by simp;omega) hl) λH K T j=>?_
  rw[p]at K T;have q:=j.g f.ob;refine aH (fS K q "shape") λc0 z4 V t=>?_
  have u:=V.g (j.g f.sl);refine aH (aL (.int Q) u (by simp;omega)) λe0 M X g5=>?_
  rw[show kZ _ C=_ from if_neg i]at R
  have w:ao [G4,F5] _ _:=V.s.trans X.s;have k:ao [Θ,V0,G4,F5] _ _:=j.tr w.s;refine⟨_,_,_,(R ((q0 Y).trans ((q0 (eQ (eN (eK (eF Y f.ob) Y) (gf f.sl)) Y (Wl (by grind)))).trans ((qS (eM (eF Y l.ob) l.sh.ob (eK (eF Y f.ob) Y) K) Y q z4).trans (qE (eL (eF Y t) Y (gg u) M)))))).trans Y,⟨k.g l.ob,k.g l.dk,T.keep w (by simp;omega) (by simp;omega) (by simp;exact⟨X' (Ó o.2.2.2 c.1),X' (Ó (Ó o.2.2.2 c.1) c.2)⟩),zA W.nd,W.lt⟩,⟨X.g t,by simp_all,vq,?_,by rw[h];simp;exact GD I,c⟩,n.tr k,Y⟩
  rw[←p];exact Ă.mpr ⟨G.nd,by simp,λN ha O hb z=>i (by simp_all)⟩
def JF(a b c):=
 (af (aJ 3 (aK "Things" "thing" a (aa 0) (ae (aa 1) aj)))
 (af (aJ 4 (aK "Shapes" "slot_of" b (m1 (bc ["Things"] "shapes") (aa 0)) (ae (m1 (bc ["Thing"] "shape") (aa 3)) (ae (aa 2) aj))))
 (af (cw (m2 (ay .Is) (aa 4) (ai .n))
 (af bV
 ag)
 ag)
 (af (cx ["Thing"] "shape" (aa 3) (aK "Shapes" "without" c (m1 (bc ["Things"] "shapes") (aa 0)) (ae (m1 (bc ["Thing"] "shape") (aa 3)) (ae (aa 2) aj))))
 (af (cA (fx (c6 pI il (m1 (bc ["Thing"] "slots") (aa 3)) (ae (aa 4) aj)) (c6 wV oW (m1 (bc ["Thing"] "slots") (aa 3)) (ae (aa 4) aj))))
 ag)))))
noncomputable def fb(v:B (L×Int))(w):=v.eraseIdx ((cb v).idxOf w)
theorem lV{α b:Type}{f:α->b}:∀(xs:B α) j,(xs.eraseIdx j).map f=(xs.map f).eraseIdx j
 |[],_=>Y
 |a::xs,0=>Y
 |a::xs,j+1=>by simp only[List.eraseIdx_cons_succ,Ù,lV xs j]
theorem tA(a:(cb V2).Nodup):jH (cb V2) d=cb (fb V2 d):=by
 have b:jH (cb V2) d=(cb V2).erase d:=by
  rw[a.erase_eq_filter];unfold jH
  grind
 rw[b,fb,cb,cb,lV];exact List.erase_eq_eraseIdx_of_idxOf Y
theorem JG(h:m<b):L2.tT b m=J m:=by
 unfold L2.tT;simp;omega
theorem JH(c:a[b]?=J (.l q))(d:q[m]?=J h)(f:q.length<=1000):il (.ref b) [.int m] a=.ok h (a.set b (.l (q.eraseIdx m))):=by
 have e:=(Ê.mp d).1;simp only[il,kT c,(jj (Ķ _) (Ku (P' e f))),if_true,JG e,d]
theorem Tb(z:cI r)(D:fL d0)(E:pU E1)(W:Tn a b m P Θ V0 A1 U A)(F:aN U (.inr d)=J (.ref G4))(G:Tg a A1 G4 F5 M5 V1 V2 A)(H:A.length<=500)(u:C∈cb V2):
  ∃I l aq,aw 5 3 (JF r d0 E1) [.ref b,.str d,.str C] a=.ok .n aq/\Tn aq b m P Θ V0 A1 U l/\Tg aq A1 G4 F5 I V1 (fb V2 C) l/\ao [Θ,V0,G4,F5] a aq/\l=ee A (cb (fb V2 C)):=by
 have K:=W.lt;have n:=G.lt;have M:=G.le;refine bN (D a P Θ V0 M5 A _ C W.sh G.wd) λN e2 o=>?_
 rw[show kZ _ C=_ from if_pos u]at e2
 have f:=W.aO o;have k:=G.aO o;refine aH (E _ P Θ V0 M5 A _ C f.sh k.wd (by simp;omega) H) λO p w q=>?_
 rw[tA G.nd]at p w;have h:=q.g k.ob;refine aH (fS p h "shape") λQ R x i=>?_
 have c:=x.g (q.g k.sl);refine aH (kO (JH (m:=(cb V2).idxOf C) c (by simp[Ô (by simpa using ϛ u)];rfl) (by simp;omega)) c) λS t y T=>?_
 have j:ao [G4,F5] _ _:=x.s.trans y.s;have e:ao [Θ,V0,G4,F5] _ _:=q.tr j.s;exact⟨_,_,_,fZ ((qA (gh z W F Y Y)).trans ((qA (eM (eF Y W.ob) W.sh.ob (eK (eF Y G.ob) Y) e2)).trans ((q0 Y).trans ((qS (eM (eF Y f.ob) f.sh.ob (eK (eF Y k.ob) Y) p) Y h R).trans (qE (al (eL (eF Y i) Y (gg c) t))))))),⟨e.g f.ob,e.g f.dk,w.keep j,zA W.nd,W.lt⟩,⟨y.g i,by rw[T,fb,NY,NY,lV],vq,tA G.nd▸G.nd.filter _,N' (List.length_eraseIdx_le ..) M,n⟩,o.tr e,Y⟩
def By:=
 (af (cx ["Thing"] "kind" (aa 0) (aa 1))
 (af (cx ["Thing"] "shape" (aa 0) (ai (.int 0)))
 (af (cx ["Thing"] "slots" (aa 0) (mN b_ aj))
 ag)))
theorem N3:gU "Thing" (aw 2 2 By) [.str d] a=.ok (.ref a.length) (a++[.ins "Thing" [("kind",.str d),("shape",.int 0),("slots",.ref (a.length+1))],.l []]):=nZ ((qS Y Y aG bZ).trans ((qS Y Y aG bZ).trans (qS nlL Y aG bZ)))
def BS(a b TI):=
 (af (cw (dz (mN (aQ a) (ae (aa 1) aj)))
 (af bV
 ag)
 ag)
 (af (cw (m2 (ay .In) (aa 1) (m1 (bc ["Things"] "made") (aa 0)))
 (af bV
 ag)
 ag)
 (af (cw (m2 (ay .GtE) (mN (bP .len) (ae (m1 (bc ["Things"] "made") (aa 0)) aj)) (ai (.int 40)))
 (af bV
 ag)
 ag)
 (af (cA (aK "House" "check_kind" b (m1 (bc ["Town"] "house") (m1 (bc ["Things"] "town") (aa 0))) (ae (aa 2) aj)))
 (af (dY (m1 (bc ["Things"] "made") (aa 0)) (aa 1) (mN (gU "Thing" TI) (ae (aa 2) aj)))
 ag)))))
theorem Ly(w:fC r)(x:lT d0)(W:Tn a b m P Θ V0 A1 U A)(y:a[m]?=J (.ins "Town" (("house",.ref G4)::U1)))(H:dc Y0 a G4 X0 U2)(z:C∈nms X0)(D:dU d)(E:aN U (.inr d)=_n)(p:U.length<40)(F:A[0]?=J []):
  ∃c aq,aw 3 3 (BS r d0 (aw 2 2 By)) [.ref b,.str d,.str C] a=.ok .n aq/\Tn aq b m P Θ V0 A1 (dh U (.inr d) (.ref c)) A/\Tg aq A1 c (c+1) 0 C [] A/\ao [A1] a aq/\a.length<=c:=by
 refine bN (w a d D) λG I f=>?_
 have i:=W.aO f;have q:ck _ A1 _:=.inl i.dk;have j:=pT (d:=d) q;rw[E]at j;refine bN (x _ G4 X0 U2 Y0 C (H.keep f) z) λe e2 s=>?_
 refine gj (H.keep f) λ_ _ _ _ K _=>?_
 have t:=i.aO s;have Q:=bz t.dk;have u:ao [] _ (e++[Cell.ins "Thing" [("kind",.str C),("shape",.int 0),("slots",.ref (e.length+1))],.l []]):=ao.app;have k:=t.aO u;refine aH (kD (jV (d:=d) (h:=.ref e.length) k.dk (GD p)) k.dk) λM N l O=>?_
 have o:=W.lt;have n:=f.trans s;exact⟨_,_,fZ ((q0 (nT (eC Y I))).trans ((q0 (eQ Y (eF Y i.ob) j)).trans ((q0 (eQ (eN (eK (eF Y i.ob) Y) (mw q)) Y (Wl (decide_eq_false (Int.not_le.mpr (Ku p)))))).trans ((qE (eM (eF (eF Y i.ob) (f.g y)) K Y e2)).trans (qD (eN Y (N3)) (eF Y k.ob) Y N))))),⟨l.g k.ob,O,k.sh.keep l,W.nd,o⟩,⟨l.g (by simp),l.g (by simp),F,by simp,by simp,by omega,ϕ _⟩,(n.trans u).tr l,n.len⟩
def WB(a b):=
 (af (aJ 3 (aK "Things" "thing" a (aa 0) (ae (aa 1) aj)))
 (af (cA (aK "House" "check_kind" b (m1 (bc ["Town"] "house") (m1 (bc ["Things"] "town") (aa 0))) (ae (aa 2) aj)))
 (af (cx ["Thing"] "kind" (aa 3) (aa 2))
 ag)))
theorem Tc{h}(j:cI r)(k:lT d0)(W:Tn a b m P Θ V0 A1 U A)(l:aN U (.inr d)=J (.ref G4))(G:Tg a A1 G4 F5 M5 C V2 A)(n:a[m]?=J (.ins "Town" (("house",.ref h)::U1)))(H:dc Y0 a h X0 U2)(o:V1∈nms X0):
  ∃aq,aw 4 3 (WB r d0) [.ref b,.str d,.str V1] a=.ok .n aq/\Tn aq b m P Θ V0 A1 U A/\Tg aq A1 G4 F5 M5 V1 V2 A/\ao [G4] a aq:=by
 refine bN (k a h X0 U2 Y0 V1 H o) λp q c=>?_
 refine gj H λ_ _ _ _ s _=>?_
 have e:=G.aO c;have f:=G.lt;refine aH (fS (Y:ax.ok (.str V1) _=_) e.ob "kind") λt z i u=>?_
 exact⟨_,fZ ((qA (gh j W l Y Y)).trans ((qE (eM (eF (eF Y W.ob) n) s Y q)).trans (qS Y Y e.ob z))),(W.aO c).keep i,⟨u,i.g e.sl,G.wd,G.nd,G.le,f⟩,c.tr i⟩
def Td:=
 (af (cx ["Facts"] "teller" (aa 0) (aa 1))
 (af (cx ["Facts"] "strengths" (aa 0) cp)
 (af (cx ["Facts"] "asked" (aa 0) (mN b_ aj))
 ag)))
noncomputable abbrev faC(x:D)(n:Nat):aA:=[.ins "Facts" [("teller",x),("strengths",.ref (n+1)),("asked",.ref (n+2))],.dK [],.l []]
theorem N_:gU "Facts" (aw 2 2 Td) [h] a=.ok (.ref a.length) (a++faC h a.length):=nZ ((qS Y Y aG bZ).trans ((qS Sl Y aG bZ).trans (qS nlL Y aG bZ)))
noncomputable abbrev WC(h g:Nat)(f:D)(b:Int):Cell:=.ins "Town" [("house",.ref h),("facts",f),("tags",.ref g),("last_deed",.int b)]
def WD(a b):=
 (af (cx ["Town"] "house" (aa 0) (mN (gU "House" a) aj))
 (af (cx ["Town"] "facts" (aa 0) (mN (gU "Facts" b) (ae (aa 1) aj)))
 (af (cx ["Town"] "tags" (aa 0) cp)
 (af (cx ["Town"] "last_deed" (aa 0) (ai (.int 0)))
 ag))))
abbrev bare(ks:B L):=hF ks λ_=>[]
theorem JI(a:l.Nodup)(b:l.length<=100):Gd (bare l):=⟨by rwa[eh],by simp only[bare,hF,ß];exact b,λn a=>by rw[eh]at a;rw[zw a]⟩
structure Tt where
 (t h g e l f sd ak:Nat) (R:B Nat)
noncomputable abbrev tz(a:Tt):=[a.t,a.h,a.g,a.e,a.l,a.f,a.sd,a.ak]++a.R
structure Tw(Ω:aA)(τ:Tt)(hs:B L)(b:Int):Prop where
 to:Ω[τ.t]?=J (WC τ.h τ.g (.ref τ.f) b)
 ho:zz (· ∈ τ.R) Ω τ.h τ.e τ.l (bare hs) λn=>[n]
 tg:∃tk,Ω[τ.g]?=J (.dK tk)/\(tk.length:Int)<=b/\∀k∈hs,(aN tk (.inr k)).isSome=_t
 fa:Ω[τ.f]?=J (.ins "Facts" [("teller",.dct [] []),("strengths",.ref τ.sd),("asked",.ref τ.ak)])
 sd:ck Ω τ.sd []
 ak:Ω[τ.ak]?=J (.l [])
 lt:∀a∈tz τ,a<Ω.length
 nd:[τ.g,τ.e,τ.l,τ.sd].Nodup
theorem Tw.keep{f aq fp d g b}(W:Tw f d g b)(K:ao fp f aq)(h:∀a∈tz d,a∉fp):Tw aq d g b:=by
 refine aH W.tg λi l n t3=>?_
 have k:∀{a c},f[a]?=J c->a∈tz d->aq[a]?=J c:=λe m=>K.get _ _ e (h _ m)
 refine⟨k W.to (by simp),W.ho.keep K (h _ (by simp)) (h _ (by simp)) (h _ (by simp)) (λj o z=>h j (å _ z) o),⟨i,k l (by simp),n,t3⟩,k W.fa (by simp),W.sd.keep K (h _ (by simp)),k W.ak (by simp),λa p=>P' (W.lt a p) K.len,W.nd⟩
theorem Ob(d:Fh r):∃c aq,gU "Town" (aw 2 2 (WD r (aw 2 2 Td))) [.dct [] []] a=.ok (.ref a.length) aq/\Tw aq c [] 0/\ao [] a aq/\c.t=a.length/\∀b∈tz c,a.length<=b:=
 let n:=a.length
 ⟨⟨n,_,n+7,n+2,n+3,_,n+5,n+6,[]⟩,_,nZ ((qS (eN Y (NA d)) Y aG bZ).trans ((qS (eN Y (NA N_)) Y aG bZ).trans ((qS Sl Y aG bZ).trans (qS Y Y aG bZ)))),⟨aG,⟨[],[],gN,gN,.nil,gN,.nil⟩,⟨[],gN,by simp,by simp⟩,gN,.inl gN,gN,by simp[n],by simp⟩,ao.app,Y,by simp[n]⟩
def cdB:=(af (dY (m1 (bc ["Town"] "tags") (aa 0)) (aa 2) (m1 (bc ["Town"] "last_deed") (aa 0)))
 ag)
def Te:=
 (af (yX ["Town"] "last_deed" (aa 0) 1)
 (af (dW (dv 2) (cP (aa 1)) cdB)
 (af (a7 (aa 1))
 ag)))
def WE(a b):=
 (af (cA (aK "House" "add" a (m1 (bc ["Town"] "house") (aa 0)) (ae (aa 1) (ae (aa 2) (ae (aa 3) aj)))))
 (af (a7 (aK "Town" "count_deed" b (aa 0) (ae (mN b_ (ae (aa 1) aj)) aj)))
 ag))
def Y9(TO TA a:az):=
 (af (aJ 1 (mN (gU "Town" TO) (ae (ai (.dct [] [])) aj)))
 (af (dW (dv 2) (cP (aa 0))
 (af (cA (fx (aK "Town" "add" (λb=>TA (b++[.n])) (aa 1) (ae (aa 2) (ae (mN b_ aj) aj))) (aK "House" "add" a (aa 1) (ae (aa 2) (ae (mN b_ aj) aj)))))
 ag))
 (af (a7 (aa 1))
 ag)))
theorem Tf(j:a[b]?=J (WC m P h Q))(r:a[P]?=J (.dK U))(x:U.length+l.length<=500)(o:a[Θ]?=J (.l (l.map .str))):
  ∃c aq,aw 3 2 Te [.ref b,.ref Θ] a=.ok (.ref Θ) aq/\aq[b]?=J (WC m P h (Q+1))/\aq[P]?=J (.dK c)/\c.length<=U.length+l.length/\(∀k,(aN U (.inr k)).isSome=_t\/k∈l->(aN c (.inr k)).isSome=_t)/\ao [b,P] a aq:=by
 have s:=lO r j;have t:=lO o j;refine aH (ao.st (e':=WC m P h (Q+1)) j) λy z p A=>?_
 obtain⟨_,aq,e,d,c,rfl,t3,q,u,w,K⟩:=YN (A6:=dv 2) (υ:=cdB) (E2:=cP (aa 1)) (λi C f=>∃d c,C=[oR b,oR Θ,d]/\f[b]?=J _/\f[P]?=J (.dK c)/\c.length<=U.length+i/\(∀k,(aN U (.inr k)).isSome=_t\/k∈l.take i->(aN c (.inr k)).isSome=_t)/\ao [b,P] _ f) (sr Y (p.g o)) (λ⟨_,_,_,_,_,_,_,K⟩=>K.get _ _ (p.g o) (by simp[t,lO o r])) (by
  rintro i n _ f D ⟨d,c,rfl,t3,q,u,w,K⟩;have F:=Ab D;refine⟨_,_,_,Y,qD (eF Y t3) (eF Y t3) Y (jV q (by omega)),_,_,Y,iu t3 (Í s),dC q,N' EX (ť u),λk E=>?_,K.trans (ao.set (by simp))⟩
  rw[qV];split
  .rfl
  .rw[ŧ]at E
   simp_all) ⟨_,U,Y,A,p.g r,by simp,by simp,ao.refl⟩ (fc (N' (by simp) x))
 rw[Ϛ]at w;exact⟨_,_,fR ((qN (by unfold yX;rw[show aa 0 _ a=.ok _ a from Y,zd,kU j];exact congrArg _ z)).trans ((e _).trans (qR Y))),t3,q,u,w,p.tr K⟩
theorem zz.lt{a h P E N e l}(H:zz P a h e l E N):zz (λj=>P j/\j<a.length) a h e l E N:=
 bW (H) λb c d f g i k=>⟨_,_,d,f,g.lt,i,k.lt⟩
theorem zD:b∈acL m (P - m)↔m<=b/\b<P:=by
 rw[List.mem_range'_1];omega
variable{R5:Tt}{U4:Prop}
theorem Th(hA:Fl r)(W:Tw a R5 l Q)(ha:a[b]?=J (.l []))(hn:(l++[d]).Nodup)(hl:l.length<12)(hv:dU d)(hb:Q<=400)(kk:∀x i aq,aw 4 4 (WE r (aw 3 2 Te)) [.ref R5.t,.str d,.ref b,.n] a=.ok x aq->Tw aq i (l++[d]) (Q+1)->ao [R5.h,R5.t,R5.g] a aq->i.t=R5.t->i.h=R5.h->(∀b∈tz i,b∈tz R5\/a.length<=b)->U4):U4:=by
 have D:bare l++[(d,[])]=bare (l++[d]):=by simp[bare,hF]
 have I:=Ă.mp hn;have K:(bare l).length=l.length:=by simp[bare,hF]
 refine aH W.tg λtk H f0 M=>?_
 refine bG (hA a R5.h b (bare l) (λd=>[d]) (λd=>[d]) (λj=>j∈R5.R\/a.length<=j) d (W.ho.imp λj m=>.inl m).at ha hv (by rw[eh];exact λz=>I.2.2 _ z _ (by simp) Y) (â (Á K) hl) (by rw[D];exact JI hn (by simp;exact GD hl)) (λ_ _=>Y) (λ_ m=>.inr m)) λe' N c e1 O P p=>xa p λy E=>?_
 rw[D]at O;refine bW W.ho λd0 e0 A h2 h3 h4 h5=>?_
 have C:=W.to;have S:=W.nd;simp at S;have g0:=lO C A;have h0:=lO H A;have t1:=P.g C;have g1:=P.g H;refine aH (kA (lN (q:=[.str d]) (a:=c))) λT e2 o q2=>?_
 have t2:=o.g t1;have g2:=o.g g1;have L2:=bz q2;have U:=O.lt;have F:N<c.length:=bW O λ_ _ _ _ _ z _=>bz z
 refine bW (Tf (l:=[d]) t2 g2 (by simp;omega) q2) λV u e3 t3 g3 X p=>xa p λa0 w=>?_
 have e:ao [R5.h,R5.t,R5.g] a u:=(P.s.trans o.s).trans w.s;have k3:=w.len;have n:=W.lt;have a1:=n R5.t (by simp)
 have a3:=n R5.g (by simp)
 have a5:=n R5.sd (by simp)
 have G:∀j∈[R5.t,R5.g],∀ds,T[j]?≠J (.l ds):=λj m ds=>by
  simp at m;rcases m with rfl|rfl
  .rw[t2];simp
  .rw[g2];simp
 have Z:∀x∈[R5.t,R5.h,R5.g,e',N,R5.f,R5.sd,R5.ak]++(R5.R++acL a.length (c.length - a.length)),x∈tz R5\/a.length<=x/\x<u.length:=λx hx=>by
  rcases Ñ.mp hx with hx|hx
  .simp only[Ì,Ŧ,or_false]at hx
   rcases hx with h|h|h|h|h|h|h|h
   .exact .inl (h▸.head _)
   .exact .inl (h▸.tail _ (.head _))
   .exact .inl (h▸.tail _ (.tail _ (.head _)))
   .exact .inr (h▸⟨y,P' (Ó (Ó E F) L2) k3⟩)
   .exact .inr (h▸⟨ó (â y E),P' (Ó F L2) k3⟩)
   .exact .inl (h▸by simp)
   .exact .inl (h▸by simp)
   .exact .inl (h▸by simp)
  .refine(Ñ.mp hx).imp (å _) λh=>?_
   have:=zD.mp h;exact⟨this.1,P' (Ó this.2 L2) k3⟩
 refine kk (.ref c.length) ⟨R5.t,R5.h,R5.g,e',N,R5.f,R5.sd,R5.ak,R5.R++acL a.length (c.length - a.length)⟩ u (fR ((qE (eM (eF Y C) A Y e1)).trans (qR (eM Y t1 (eK (eN Y e2) Y) e3)))) ⟨t3,?_,⟨V,g3,by simp at X;omega,λk hk=>a0 k ((Ñ.mp hk).imp (M k) id)⟩,e.get _ _ W.fa (by simp;exact⟨lO W.fa A,lO W.fa C,lO W.fa H⟩),W.sd.keep e (by simp;exact⟨λz=>W.sd.ni _ _ (z▸A),λz=>W.sd.ni _ _ (z▸C),Í S.1.2.2⟩),e.get _ _ W.ak (by simp;exact⟨lO W.ak A,lO W.ak C,lO W.ak H⟩),λx hx=>(Z x hx).elim (λh=>P' (n x h) e.len) (·.2),by simp;exact⟨⟨X' (P' a3 y),⟨X' (Ó (P' a3 y) E),S.1.2.2⟩⟩,⟨⟨X' E,Þ (P' a5 y)⟩,Þ (Ó (P' a5 y) E)⟩⟩⟩ e Y Y (λx hx=>(Z x hx).imp_right (·.1))
 refine bW (U.imp λj m=>Ñ.mpr (m.1.imp_right λz=>zD.mpr ⟨z,m.2⟩)) λb0 c0 p1 p2 p3 p4 p5=>?_
 exact⟨b0,c0,w.g (o.g p1),w.g (o.g p2),(p3.keep o (by simp)).jG w G,w.g (o.g p4),(p5.keep o (by simp)).jG w G⟩
theorem Ti(M:Fh r)(N:Fl d0)(E:a[b]?=J (.l (l.map .str)))(O:l.Nodup)(F:l.length<=12)(P:∀x∈l,dU x):
  ∃f aq,aw 3 1 (Y9 (aw 2 2 (WD r (aw 2 2 Td))) (aw 4 4 (WE d0 (aw 3 2 Te))) d0) [.ref b] a=.ok (.ref f.t) aq/\Tw aq f l l.length/\ao [] a aq/\∀c∈tz f,a.length<=c:=by
 refine bW (Ob (a:=a) M) λk Q R S G m n=>?_
 refine cy (YN (A6:=dv 2) (υ:=af (cA (fx (aK "Town" "add" (λT=>(aw 4 4 _) (T++[.n])) (aa 1) (ae (aa 2) (ae (mN b_ aj) aj))) (aK "House" "add" d0 (aa 1) (ae (aa 2) (ae (mN b_ aj) aj))))) ag) (E2:=cP (aa 0)) (λi U h=>∃a2 f,U=[oR b,oR a.length,a2]/\Tw h f (l.take i) i/\ao [] a h/\f.t=a.length/\∀c∈tz f,a.length<=c) (sr Y (G.g E)) (λ⟨_,_,_,_,K,_⟩=>K.g E) (by
  rintro i x _ h o ⟨a2,f,rfl,W,K,j,p⟩;have s:l.take (i+1)=l.take i++[x]:=by rw[ŧ,o];rfl
  have V:=Ab o;refine aH (kA (lN (q:=[]) (a:=h))) λX Z u g3=>?_
  refine Th N (W.keep u (by simp)) g3 (d:=x) (by rw[←s];exact abj (abK _ _) O) (by simp;exact P' (â (acK _ _) V) F) (P x (Å o)) (by omega) λy w z H W5 K5 I _ A=>?_
  rw[j]at H I;refine⟨_,_,z,Y,qE (al (eM Y (j▸W.to) (eK Y (eK (eN Y Z) Y)) H)),_,w,Y,by simp_all,ao.new (K.trans u) K5 (by simp_all),I,λc ha=>(A c ha).elim (p c) (N' (N' K.len u.len))⟩) ⟨_n,k,Y,by simpa using S,G,m,n⟩ (fc F)) λ_ aq e C=>bW C λa2 f D W K j p=>?_;subst D
 rw[Ϛ]at W;exact⟨f,aq,j▸fR ((qA (eN Y R)).trans ((e _).trans (qR Y))),W,K,p⟩
def WG:=
 (af (cx ["Shapes"] "rows" (aa 0) (mN b_ (ae (mN gm aj) aj)))
 (af (cx ["Shapes"] "numbers" (aa 0) (jt (mN gm aj) (ai (.int 0))))
 ag))
noncomputable abbrev siC(n:Nat):aA:=[.ins "Shapes" [("rows",.ref (n+1)),("numbers",.ref (n+2))],.l [.t []],.dT [([],.int 0)]]
theorem d1T:jt (mN gm aj) (ai (.int 0)) u (a++x)=.ok (.ref (a.length+x.length)) (a++(x++[.dT [([],.int 0)]])):=by
 rw[←Ģ,←List.append_assoc];unfold jt;rw[show(mN _ _) u _=.ok _ _ from Y,eE,Jd,eE,aG]
 exact congrArg _ bZ
theorem Oc:gU "Shapes" (aw 1 1 WG) [] a=.ok (.ref a.length) (a++siC a.length):=nZ ((qS (eN Y lNA) Y aG bZ).trans (qS d1T Y aG bZ))
def Y_(a):=
 (af (cx ["Things"] "town" (aa 0) (aa 1))
 (af (cx ["Things"] "shapes" (aa 0) (mN (gU "Shapes" a) aj))
 (af (cx ["Things"] "made" (aa 0) cp)
 ag)))
theorem Od:∃s r m d aq,gU "Things" (aw 2 2 (Y_ (aw 1 1 WG))) [.ref b] a=.ok (.ref a.length) aq/\Tn aq a.length b s r m d [] [[]]/\ao [] a aq:=
 let n:=a.length
 ⟨_,n+2,n+3,n+4,_,nZ ((qS Y Y aG bZ).trans ((qS (eN Y (NA Oc)) Y aG bZ).trans (qS Sl Y aG bZ))),⟨aG,gN,⟨gN,gN,gN⟩,by simp,by simp[n]⟩,ao.app⟩
def JJ(i j:Nat):=(m2 (bb .Add) (fH (aa i) _d (aa j) _t (ai .n)) (fH (aa i) _t (ai .n) _d (aa j)))
theorem Fw(n:u[b]?=J (oR P))(o:u[m]?=J (oI Θ))(f:a[P]?=J (.l (l.map .str)))(p:l.length<=1000):∃k aq,JJ b m u a=.ok (.ref k) aq/\aq[k]?=J (.l ((l.drop Θ++l.take Θ).map .str))/\ao [] a aq/\a.length<=k:=by
 refine aH (kA (NF (m:=Θ) f)) λh q c i=>?_
 refine aH (kA (w_ (m:=Θ) (c.g f))) λd r e j=>?_
 have s:=iw (e.g i) j (by simp;omega)
 refine⟨_,d++[.l _],?_,aG,(c.trans e).trans ao.app,(c.trans e).len⟩;unfold JJ
 simp_all
theorem vt(a:B L):(a.drop b++a.take b).Perm a:=by
 have:=(List.perm_append_comm (l₁:=a.drop b) (l₂:=a.take b))
 simp_all
def xr(S:L):=S.cps.toList.length=8/\∀x∈S.cps.toList,97<=x/\x<=122
theorem Oe(a b c d e f g h):wu .join (.str "") (.t [.l [.str (aY a),.str (aY b),.str (aY c),.str (aY d),.str (aY e),.str (aY f),.str (aY g),.str (aY h)]])=.ok (_d,.str ⟨#[a,b,c,d,e,f,g,h]⟩):=Y
def nhJ(F:B D->Out Rs):=(cB (m2 aR (aa 2) (mN (ey F) (ae (aa 1) (ae (aa 0) (ae (ai (.int 26)) aj))))) _t (ai .n) (dX (ae (ai (.int 8)) aj)) 0 [0,2])
def nhS(F:B D->Out Rs):=(c6 wO yN (ai (.str "")) (ae (nhJ F) aj))
variable{m4:B D->Out Rs}{y6:Int->Int->Int->Int}
theorem Of(c:iS y6 m4)(f:fy [0,2] u=[oI Q,oS abc]):∃S aq,nhS m4 u a=.ok (.str S) aq/\xr S/\ao [] a aq:=by
 have h:nhJ m4 u a=_:=NB (b:=8) (g:=λi=>aY (97+(y6 Q i 26).toNat)) Y (λi l=>by
   obtain⟨q0,d,q⟩:=c Q i 26 (Ķ _) (by omega) (by decide)
   rw[f];simp[q,mY q0 d]) (by decide)
 refine aH (kA h) λaq h K g=>?_
 refine⟨_,_,eL Y (eK h Y) Y (by
  show v2 _ _ _ _=_
  rw[jw g (zi)];exact congrArg (ik _) (Oe ..)),⟨Y,λx e=>?_⟩,K⟩
 simp at e
 have k:∀j:Nat,j<8->97<=97+(y6 Q j 26).toNat/\97+(y6 Q j 26).toNat<=122:=λj m=>by
  obtain⟨q0,d,_⟩:=c Q j 26 (Ķ _) (by omega) (by decide)
  omega
 rcases e with rfl|rfl|rfl|rfl|rfl|rfl|rfl|rfl<;>exact k _ (by decide)
noncomputable def xu(S:L)(i:Nat):Str:=⟨(S.cps.toList.take (i+1)).toArray⟩
theorem Tj(h:xr d){i}(a:i<8):dU (xu d i):=by
 have b:(xu d i).length=i+1:=by
  show(d.cps.toList.take _).toArray.size=_
  have:=h.1
  grind
 refine⟨by omega,N' (Á b) a,λx c=>h.2 x (abk (i:=i+1) ?_)⟩
 have:(xu d i).cps.toList=d.cps.toList.take _:=rfl
 simp_all
theorem Og(h:xr d)(j:m<=8):((É m).map (xu d)).Nodup:=by
 refine ae5.mpr (ae6 (λ{a b} e f c g=>c ?_) (ae7))
 have k:=ę.mp e;have l:=ę.mp f;have n:=h.1;have i:=congrArg (λz=>z.cps.toList.length) g
 simp only[xu,ŕ]at i;omega
def nhP:=(cB (fH (aa 1) _t (ai .n) _d (m2 (bb .Add) (aa 0) (ai (.int 1)))) _t (ai .n) (dX (ae (aa 1) aj)) 0 [3])
theorem Oh(h:xr d)(c:m<=14)(e:fy [3] u=[oS d])(f:u[1]?=J (oI m)):nhP u a=.ok (.ref a.length) (a++[.l (((É m).map (xu d)).map .str)]):=by
 have b:small d.length=true:=bo (by rw[show d.length=8 by simpa[Ţ]using h.1];decide)
 refine NB (by simp[(jj (Ķ _) (Qi c)),f]) (λi _=>?_) (fc c)
 rw[e];simp[b];rw[show(i)+1=((i+1:Nat):Int)by omega,wK]
 rfl
noncomputable def sgn(f st:Int)(i:Nat):=97+((f+st*i)%26).toNat
def ntG:=(cB (m2 aR (aa 2) (m2 (bb .Mod) (m2 (bb .Add) (aa 1) (m2 (bb .Mult) (aa 3) (aa 0))) (ai (.int 26)))) _t (ai .n) (dX (ae (aa 1) aj)) 0 [9,2,10])
variable{U0:Int}
theorem Oi(c:1<=U0)(g:U0<26)(b:m<=14)(d:fy [9,2,10] u=[oI Q,oS abc,oI U0])(e:u[1]?=J (oI m)):ntG u a=.ok (.ref a.length) (a++[.l (((É m).map λi=>aY (sgn Q U0 i)).map .str)]):=by
 have f:mG U0=true:=mW (by omega) (by omega)
 refine NB (by simp[(jj (Ķ _) (Qi b)),e]) (λi _=>?_) (fc b)
 rw[d];simp[f,i2,mY (Q:=(Q+U0*i)%26) (by omega) (by omega),sgn]
noncomputable def JK(S:L)(a pl z):=((⟨(S.cps.toList.take pl).toArray⟩)++z)++(⟨((S.cps.toList.drop (pl+1)).take (a - (pl+1))).toArray⟩:L)
theorem xv:(JK d b m (aY P)).cps.toList=(d.cps.toList.take m++[P])++(d.cps.toList.drop (m+1)).take (b - (m+1)):=by
 unfold JK;rw[abl,abl];simp[aY]
theorem Za(h:xr d)(hz:b<=8)(a:m<b)(e:97<=P/\P<=122):dU (JK d b m (aY P)):=by
 have c:=h.1
 have f:(JK d b m (aY P)).length=b:=by
  have:(JK d b m (aY P)).length=(JK d b m (aY P)).cps.toList.length:=by rfl
  rw[this,xv,Ģ,Ģ,ae8 (by rw[c];exact ó (P' a hz)),ae8 (by rw[abQ,c];exact Nat.sub_le_sub_right hz _)]
  exact Nat.add_sub_of_le a
 refine⟨by omega,N' (Á f) hz,λx hx=>?_⟩
 rw[xv]at hx;simp only[Ñ,ï]at hx;rcases hx with (hx|rfl)|hx
 .exact h.2 x (abk hx)
 .exact e
 .exact h.2 x (List.mem_of_mem_drop (abk hx))
theorem sgk:∀k<27,∀st∈[(1),3,5,7],st*((k:Nat) - 13:Int)%26=0->k=13:=by decide
theorem To(h:xr d)(f:m<=14)(p:U0=1\/U0=3\/U0=5\/U0=7):((É m).map λi=>JK d b P (aY (sgn Q U0 i))).Nodup:=by
 refine ae5.mpr (ae6 (λ{a c} k l e o=>e ?_) (ae7))
 have q:=P' (ę.mp k) f;have r:=P' (ę.mp l) f;have g:=congrArg (λz=>z.cps.toList) o
 simp only[xv]at g;have j:=congrArg (λn:Nat=>(n:Int)) (Nat.add_left_cancel (ael (List.append_cancel_left (List.append_cancel_right g))).1)
 rw[ae9 (ϙ _ (by decide)),ae9 (ϙ _ (by decide)),Int.emod_eq_emod_iff_emod_sub_eq_zero,Int.add_sub_add_left,←Int.mul_sub]at j
 have s:=sgk (a+13 - c) (by omega) U0 (by simp_all) (by rw[←j];congr 2;omega)
 omega
def ntN:=(cB (m2 (bb .Add) (m2 (bb .Add) (fH (aa 3) _t (ai .n) _d (aa 2)) (aa 0)) (fH (aa 3) _d (m2 (bb .Add) (aa 2) (ai (.int 1))) _d (aa 1))) _t (ai .n) (cP (aa 11)) 0 [7,8,3])
theorem Oj(h:xr d)(hz:b<=8)(j:m<b)(i:a[P]?=J (.l ((π.map aY).map .str)))(p:π.length<=1000)(k:fy [7,8,3] u=[oI b,oI m,oS d])(n:u[11]?=J (oR P)):ntN u a=.ok (.ref a.length) (a++[.l (((π.map aY).map (JK d b m)).map .str)]):=by
 have e:small d.length=true:=bo (by rw[show d.length=8 by simpa[Ţ]using h.1];decide)
 refine YP (by
  rw[nk,eZ,n];exact g_ (by rw[br,a9 i])) i (λz f=>?_) (by simp_all)
 obtain⟨c,_,rfl⟩:=Ð.mp f
 have o:eo d.cps.toList (J ((m)+1)) (J (b))=(d.cps.toList.drop (m+1)).take (b - (m+1)):=by
  rw[show(m)+1=((m+1:Nat):Int)by omega,DO]
 have l:∀(g:B _),g.length<=8->(⟨g.toArray⟩:L).length<=8:=λg h=>by simpa[Ţ]using h
 have q:=l (d.cps.toList.take m) (ó (P' (â (List.length_take_le _ _) j) hz));have r:=l ((d.cps.toList.drop (m+1)).take (b - (m+1))) (by grind)
 have one:(aY c).length=1:=rfl;generalize aY c=w at *;rw[k];simp[e,(wK _ _),o,bo (show(⟨(d.cps.toList.take m).toArray⟩:L).length+w.length<=100000 by omega),bo (show((⟨(d.cps.toList.take m).toArray⟩)++w).length+(⟨((d.cps.toList.drop (m+1)).take (b - (m+1))).toArray⟩:L).length<=100000 by rw[ae'];omega),JK]
def shB:=(af (aJ 3 (m2 (bb .Add) (aa 3) (mN b_ (ae (m2 (bb .Add) (m2 aR (aa 3) (aa 4)) (aa 0)) (ae (m2 (bb .Add) (m2 aR (aa 3) (aa 4)) (aa 1)) aj)))))
 ag)
def Tp:=
 (af (aJ 3 (mN b_ (ae (aa 0) (ae (aa 1) aj))))
 (af (dW (dv 4) (dX (ae (aa 2) aj)) shB)
 (af (a7 (fH (aa 3) _t (ai .n) _d (aa 2)))
 ag)))
structure Tq(a b:L)(i:Nat)(xs:B L):Prop where
 len:xs.length=2+2*i
 bd:∀(j:Nat) (z:L),xs[j]?=J z->1<=z.length/\z.length<=j / 2+1/\∀c∈z.cps.toList,97<=c/\c<=122
 rp:∀(j:Nat) (z:L),xs[j]?=J z->z.length<=1\/∃q y,q<i/\xs[q]?=J y/\(z=y++a\/z=y++b)
 nd:xs.Nodup
theorem add_str(h:d.length+C.length<=1000):bb .Add (.str d) (.str C) a=.ok (.str (d++C)) a:=by
 have:=bo (fc h);simp[this]
theorem one_inj(h:d++aY b=C++aY m):d=C/\b=m:=by
 have a:=congrArg (λd=>d.cps.toList) h
 simp only[abl,aY,afa]at a;obtain⟨d⟩:=d
 simp_all
theorem Tq.step(F:97<=b/\b<=122)(G:97<=m/\m<=122)(o:b≠m)(h:Tq (aY b) (aY m) P l)(hz:l[P]?=J d):Tq (aY b) (aY m) (P+1) (l++[d++aY b,d++aY m]):=by
 have x:=h.bd P d hz;have H:=h.len;have y:∀u,(d++aY u).length=d.length+1:=λu=>by rw[ae'];rfl
 have z:∀(u:Nat),97<=u/\u<=122->1<=(d++aY u).length/\(d++aY u).length<=P / 2+2/\∀c∈(d++aY u).cps.toList,97<=c/\c<=122:=by
  intro u I;have:=y u;refine⟨by simp_all,by omega,λc s=>?_⟩
  rw[abl]at s;simp only[aY,afa,Ñ]at s
  grind
 have A:∀u,(d++aY u)∉l:=by
  intro u C;obtain⟨j,f⟩:=ú.mp C;rcases h.rp j _ f with h1|⟨q,w,i,t,h1⟩
  .simp_all
  .have D:d=w:=by rcases h1 with h1|h1<;>exact(one_inj h1).1
   subst D;have:=(ϋ (Ê.mp t).1 h.nd).mp (t.trans hz.symm)
   simp_all
 have p:d++aY b≠d++aY m:=λe=>o (one_inj e).2
 refine⟨by simp;omega,λj w f=>?_,λj w f=>?_,?_⟩
 .by_cases g:j<l.length
  .rw[ë g]at f
   exact h.bd j w f
  .rw[ī (ϐ g)]at f
   obtain⟨q,i⟩:∃q,j - l.length=q:=⟨_,Y⟩;rw[i]at f
   match q,f with
   |0,f=>cases f;grind
   |1,f=>cases f;grind
 .have k:(l++[d++aY b,d++aY m])[P]?=J d:=by rw[ë (Ab hz)];exact hz
  by_cases g:j<l.length
  .rw[ë g]at f
   rcases h.rp j w f with h1|⟨q,E,i,n,h1⟩
   .exact .inl h1
   .exact .inr ⟨q,E,P' i (à _ _),by rw[ë (Ab n)];exact n,h1⟩
  .rw[ī (ϐ g)]at f
   obtain⟨q,i⟩:∃q,j - l.length=q:=⟨_,Y⟩;rw[i]at f
   match q,f with
   |0,f=>cases f;exact .inr ⟨P,d,by omega,k,.inl Y⟩
   |1,f=>cases f;exact .inr ⟨P,d,by omega,k,.inr Y⟩
 .refine Ă.mpr ⟨h.nd,by simp[p],λa K r x e=>?_⟩
  grind
def Lz(d:az):=∀c (x y m:Nat),97<=x/\x<=122->97<=y/\y<=122->x≠y->m<=14->∃(b:B L) (q:Nat) (a:aA),d [.str (aY x),.str (aY y),.int m] c=.ok (.ref q) a/\a[q]?=J (.l (b.map .str))/\b.length=m/\(∀z∈b,dU z)/\b.Nodup/\ao [] c a
theorem Ol:Lz (aw 5 3 Tp):=by
 intro E x y m H I l F;refine aH (kA (lN (q:=[.str (aY x),.str (aY y)]) (a:=E))) λr M N O=>?_
 have one:∀u,(aY u).length=1:=λu=>Y
 have P:Tq (aY x) (aY y) 0 [aY x,aY y]:=by
  have s:aY x≠aY y:=λe=>l (by
   have:=congrArg (λz:L=>z.cps.toList) e
   simpa[aY]using this)
  refine⟨Y,λj z f=>?_,λj z f=>?_,by simp[s]⟩
  .match j,f with
   |0,f=>cases f;exact⟨R' _,R' _,λc t=>by simp[aY]at t;grind⟩
   |1,f=>cases f;exact⟨R' _,R' _,λc t=>by simp[aY]at t;grind⟩
  .match j,f with
   |0,f=>cases f;simp_all
   |1,f=>cases f;simp_all
 refine cy (YO (a:=r) (A6:=dv 4) (υ:=shB) (E2:=dX (ae (aa 2) aj)) (b:=m) (λi Q d=>∃q k w,Q=[oS (aY x),oS (aY y),oI m,oR q,w]/\d[q]?=J (.l (k.map .str))/\Tq (aY x) (aY y) i k/\ao [] E d) (by simp[jj (Ķ _) (Qi F)]) (by
  rintro i _ d R ⟨q,k,w,rfl,p,h,K⟩;have S:=h.len;obtain⟨z,n⟩:∃z,k[i]?=J z:=⟨_,Ô (by omega)⟩
  have A:=h.bd i z n;have o:=aU p (L2.bQ (b:=i) (v:=.str z) (by simp[n]))
  have a:∀u,bb .Add (.str z) (.str (aY u)) d=.ok _ d:=λu=>add_str (by rw[one];omega)
  refine aH (kA (lN (q:=[.str (z++aY x),.str (z++aY y)]) (a:=d))) λT e4 G U=>?_
  refine⟨_,_,_,Y,qA (eQ Y (eN (eK (eQ (eQ Y Y o) Y (a x)) (eK (eQ (eQ Y Y o) Y (a y)) Y)) e4) (iw (G.g p) U (by simp;omega))),_,_,_,Y,?_,h.step H I l n,(K.trans G).trans ao.app⟩
  simp_all) ⟨_,_,_n,Y,O,P,N⟩ (fc F)) λ_ d e C=>bG C λq k w D p h K=>?_;subst D
 have S:=h.len;refine⟨k.take m,d.length,_,fR ((qA (eN Y M)).trans ((e _).trans (qR (w_ (m:=m) p)))),aG,by grind,λz n=>?_,abj (abK _ _) h.nd,K.trans ao.app⟩
 obtain⟨j,f⟩:=ú.mp n;rw[afb]at f;split at f
 .have A:=h.bd j z f
  exact⟨A.1,by omega,A.2.2⟩
 .exact bD f
theorem JL:∀c,97<=c->c<=122->Ě abc (aY c) 0 abc.length 1=[c - 97]:=by
 have h:∀q,q<26->Ě abc (aY (97+q)) 0 abc.length 1=[q]:=by decide +kernel
 grind
def ntI(F:B D->Out Rs):=(cw (fJ (m2 (ay .LtE) (aa 1) (ai (.int 8))) (m2 (ay .Eq) (mN (ey F) (ae (aa 0) (ae (ai (.int 9)) (ae (ai (.int 4)) aj)))) (ai (.int 1))))
 (af (aJ 5 nhP)
 (af (a7 (JJ 5 4))
 ag))
 ag)
def ntO(F:B D->Out Rs):=(m2 aR (aa 2) (m2 (bb .Mod) (m2 (bb .Add) (m2 (bb .Add) (fx (c6 pI dr (aa 2) (ae (m2 aR (aa 3) (ai (.int 0))) aj)) (c6 wO oV (aa 2) (ae (m2 aR (aa 3) (ai (.int 0))) aj))) (ai (.int 1))) (mN (ey F) (ae (aa 0) (ae (ai (.int 10)) (ae (ai (.int 25)) aj))))) (ai (.int 26))))
def ntT(F:B D->Out Rs)(a):=(cw (m2 (ay .Eq) (mN (ey F) (ae (aa 0) (ae (ai (.int 9)) (ae (ai (.int 4)) aj)))) (ai (.int 2)))
 (af (aJ 6 (ntO F))
 (af (aJ 5 (mN (aQ a) (ae (m2 aR (aa 3) (ai (.int 0))) (ae (aa 6) (ae (aa 1) aj)))))
 (af (a7 (JJ 5 4))
 ag)))
 ag)
def WH(F:B D->Out Rs)(a):=
 (af (aJ 2 (ai (.str "abcdefghijklmnopqrstuvwxyz")))
 (af (aJ 3 (nhS F))
 (af (aJ 4 (mN (ey F) (ae (aa 0) (ae (ai (.int 8)) (ae (aa 1) aj)))))
 (af (ntI F)
 (af (ntT F a)
 (af (aJ 7 (m2 (bb .Add) (ai (.int 1)) (mN (ey F) (ae (aa 0) (ae (ai (.int 10)) (ae (ai (.int 8)) aj))))))
 (af (aJ 8 (mN (ey F) (ae (aa 0) (ae (ai (.int 11)) (ae (aa 7) aj)))))
 (af (aJ 9 (mN (ey F) (ae (aa 0) (ae (ai (.int 12)) (ae (ai (.int 26)) aj)))))
 (af (aJ 10 (m2 aR (mN b_ (ae (ai (.int 1)) (ae (ai (.int 3)) (ae (ai (.int 5)) (ae (ai (.int 7)) aj))))) (mN (ey F) (ae (aa 0) (ae (ai (.int 13)) (ae (ai (.int 4)) aj))))))
 (af (aJ 11 ntG)
 (af (a7 ntN)
 ag)))))))))))
def JM(N:az):=∀d c m,1<=m->m<=14->∃(b:B L) (q:Nat) (a:aA),b.Nodup/\(∀x∈b,dU x)/\b.length=m/\N [.int c,.int m] d=.ok (.ref q) a/\a[q]?=J (.l (b.map .str))/\ao [] d a
theorem eV{d v}(b:Q0 u a=.ok [.int Q,.int U0,.int d] a)(h:m4 [.int Q,.int U0,.int d]=.ok (_d,.int v)):mN (ey m4) Q0 u a=.ok (.int v) a:=by simp_all
abbrev nE(c m:Int)(S:L)(t:Int)(d e f g h a b:_o D):a_:=[oI c,oI m,oS abc,oS S,oI t,d,e,f,g,h,a,b]
theorem Tr(g:iS y6 m4)(hS:Lz r):JM (aw 12 2 (WH m4 r)):=by
 intro Ω c m b0 E;refine mO (g c 8 (m:Int) (by decide) (by decide) (by omega)) λt0 t1 ht=>?_
 refine mO (g c 9 4 (by decide) (by decide) (by decide)) λw0 w1 hw=>?_
 refine mO (g c 10 8 (by decide) (by decide) (by decide)) λz0 z1 hz=>?_
 refine mO (g c 10 25 (by decide) (by decide) (by decide)) λy0 y1 hy=>?_
 generalize y6 c 8 (m:Int)=t at *;generalize y6 c 9 4=w at *;generalize y6 c 10 8=z at *;generalize y6 c 10 25=y at *;refine mO (g c 11 (1+z) (by decide) (by decide) (by omega)) λp0 p1 hp=>?_
 refine mO (g c 12 26 (by decide) (by decide) (by decide)) λf0 f1 hf=>?_
 refine mO (g c 13 4 (by decide) (by decide) (by decide)) λs0 s1 hs=>?_
 generalize y6 c 11 (1+z)=p at *;generalize y6 c 12 26=f at *;generalize y6 c 13 4=s at *;obtain⟨o,rfl⟩:∃o:Nat,(o:Int)=t:=⟨t.toNat,by omega⟩
 obtain⟨M,rfl⟩:∃M:Nat,(M:Int)=p:=⟨p.toNat,by omega⟩
 obtain⟨I,N⟩:∃I:Nat,(I:Int)=1+z:=⟨(1+z).toNat,by omega⟩
 rw[←N]at hp;refine aP (Of (a:=Ω) (Q:=c) g (u:=(c7 12 [.int c,.int m]).set 2 (oS abc)) Y) λS h e1 A K1=>?_
 have R:∀{d j},_=eA.rt d j->aw 12 2 (WH m4 r) [.int c,.int m] Ω=.ok d j:=λe=>fR ((qA Y).trans ((qA e1).trans ((qA (eV Y ht)).trans e)))
 by_cases hc:m<=8/\w=1
 .obtain⟨O,rfl⟩:=hc
  refine aH (kA (Oh (a:=h) (u:=nE c m S o _n _n _n _n _n _n _n) A E Y Y)) λC e2 P T=>?_
  refine bT (Fw (u:=nE c m S o (oR h.length) _n _n _n _n _n _n) (b:=5) (m:=4) Y Y T (by simp;exact fc E)) λk l U K V _=>?_
  have F:=vt (b:=o) ((É m).map (xu S));exact⟨_,k,l,F.nodup_iff.mpr (Og A O),λx X=>by obtain⟨i,hi,rfl⟩:=Ð.mp (F.mem_iff.mp X);exact Tj A (by have:=ę.mp hi;exact P' this O),by rw[F.length_eq];simp,R ((qT (aT (eQ Y Y (YQ (decide_eq_true (by omega)))) (eQ (eV Y hw) Y (Js Y)))).trans (qB ((qA e2).trans (qR U)))),K,(K1.trans P).trans V⟩
 .have R:∀{d j},_=eA.rt d j->aw 12 2 (WH m4 r) [.int c,.int m] Ω=.ok d j:=λe=>R ((q0 (x:=h) (by
   by_cases h1:(m:Int)<=8
   .exact aT (eQ Y Y (YQ (decide_eq_true h1))) (eQ (eV Y hw) Y (Js (decide_eq_false λz=>hc ⟨by omega,z⟩)))
   .exact aF (eQ Y Y (YQ (decide_eq_false h1))))).trans e)
  by_cases h2:w=2
  .subst h2
   obtain⟨a,ha⟩:∃a,S.cps.toList[0]?=J a:=⟨S.cps.toList[0]'(by have:=A.1;omega),Ô _⟩
   have G:=A.2 a (Å ha)
   have Z:aR (.str S) (.int 0) h=.ok (.str (aY a)) h:=by
    unfold aR;rw[gb,gb,kW,zk,th,zg,nj,yA (d:=S) (Q:=0) (bo (by rw[show S.length=8 by simpa[Ţ]using A.1];decide)) (L2.bQ (b:=0) ha)]
    rfl
   have hq:=mY (Q:=(((a - 97:Nat):Int)+1+y)%26) (by omega) (by omega)
   refine jh (hS h a (97+((((a - 97:Nat):Int)+1+y)%26).toNat) m G (by omega) (by omega) E) λxs q C e2 T hl hv h2 P=>?_
   obtain⟨k,l,U,K,V,_⟩:=Fw (u:=nE c m S o (oR q) _ _n _n _n _n _n) (b:=5) (m:=4) Y Y T (fc (N' (Á hl) E));have F:=vt (b:=o) xs;exact⟨_,k,l,F.nodup_iff.mpr h2,λx X=>hv x (F.mem_iff.mp X),by rw[F.length_eq];exact hl,R ((qT (eQ (eV Y hw) Y (Js Y))).trans (qB ((qA (eQ Y (eQ (eQ (eQ (al2 Y (eL Y (eK (eQ Y Y Z) Y) Y (by simp only[oV,JL a G.1 G.2];rfl))) Y Bv) (eV Y hy) Bv) Y NC) (by simp[hq]))).trans ((qA (eC (eK (eQ Y Y Z) Y) e2)).trans (qR U))))),K,(K1.trans P).trans V⟩
  .have H:∃n:Int,(n=1\/n=3\/n=5\/n=7)/\L2.ll [D.int 1,.int 3,.int 5,.int 7] s=oI n:=by
    have:s=0\/s=1\/s=2\/s=3:=by omega
    rcases this with rfl|rfl|rfl|rfl
    .exact⟨1,.inl Y,Y⟩
    .exact⟨3,.inr (.inl Y),Y⟩
    .exact⟨5,.inr (.inr (.inl Y)),Y⟩
    .exact⟨7,.inr (.inr (.inr Y)),Y⟩
   refine bN H λn H a0=>?_
   refine aH (kA (lN (q:=[.int 1,.int 3,.int 5,.int 7]) (a:=h))) λC e8 P T=>?_
   refine aH (kA (Oi (a:=C) (Q:=f) (U0:=n) (by omega) (by omega) E (u:=nE c m S o _n _n (oI I) (oI M) (oI f) (oI n) _n) Y Y)) λl U V K=>?_
   have em:(É m).map (λi=>aY (sgn f n i))=((É m).map (sgn f n)).map aY:=by rw[Ö];rfl
   rw[em]at K;have e4:=Oj A (show I<=8 by omega) (show M<I by omega) K (by simp;exact fc E) (u:=nE c m S o _n _n (oI I) (oI M) (oI f) (oI n) (oR C.length)) Y Y
   refine⟨_,l.length,_,?_,λx X=>?_,by simp,R ((q0 (eQ (eV Y hw) Y (Js (decide_eq_false h2)))).trans ((qA (eQ Y (eV Y hz) (N▸Bv))).trans ((qA (eV Y hp)).trans ((qA (eV Y hf)).trans ((qA (eQ (eN Y e8) (eV Y hs) (aU T a0))).trans ((qA U).trans (qR e4))))))),aG,((K1.trans P).trans V).trans ao.app⟩
   .rw[Ö,Ö]
    exact To A E H
   .obtain⟨_,h1,rfl⟩:=Ð.mp X
    obtain⟨_,h3,rfl⟩:=Ð.mp h1;obtain⟨i,_,rfl⟩:=Ð.mp h3;exact Za A (by omega) (by omega) (by unfold sgn;omega)
structure Tz where
 (n:L) (c l i:Nat) (k:L) (v:B (L×Int)) (j o:Nat)
noncomputable abbrev pB(y:Tz):=[y.c,y.l,y.j,y.o]
def ads(M:B Tz):=M.flatMap pB
structure Ae where
 (LA:aA) (fp:B Nat) (n0 T t s r m d P:Nat)
noncomputable def mx(M:B Tz):B (Key×D):=M.map λy=>(.inr y.n,.ref y.c)
noncomputable def jW(M:B Tz):B (Key×D):=M.map λy=>(.inr y.n,.ref y.j)
abbrev own(A:Ae)(M):=[A.r,A.m,A.d,A.P]++ads M
structure Yx(Ω:aA)(d:Nat)(L:B (B Str))(y:Tz):Prop where
 G:Tg Ω d y.c y.l y.i y.k y.v L
 R:Ω[y.j]?=J (.l [.str y.k,.ref y.o])
 O:Ω[y.o]?=J (.dK (cm y.v))
structure Ps(Ω:aA)(A:Ae)(L:B (B Str))(M:B Tz):Prop where
 W:Tn Ω A.T A.t A.s A.r A.m A.d (mx M) L
 pd:ck Ω A.P (jW M)
 al:∀y∈M,Yx Ω A.d L y
 nn:(M.map (·.n)).Nodup
 nd:(ads M).Nodup
 lo:∀a∈ads M,A.n0<=a
 lt:A.d<A.P/\A.P<A.n0
 ln:A.n0<=Ω.length
 bs:ao A.fp A.LA Ω
 lb:∀a∈own A M,a∈A.fp\/A.LA.length<=a
variable{E7:B Nat}{F3:aA}
theorem ao.JN(h:ao π a x)(b:ao E7 x F3)(d:∀j∈E7,j∈π\/a.length<=j):ao π a F3:=⟨N' h.len b.len,λk c e n=>b.get k c (h.get k c e n) (by grind)⟩
variable{J0:Tz}{K9:B (B L)}
theorem Yx.keep{fp}(Y:Yx a b A J0)(K:ao fp a x)(h:∀c∈pB J0,c∉fp)(e:∀(j:Nat) d,A[j]?=J d->K9[j]?=J d):Yx x b K9 J0:=
 ⟨⟨K.get _ _ Y.G.ob (h _ (by simp)),K.get _ _ Y.G.sl (h _ (by simp)),e _ _ Y.G.wd,Y.G.nd,Y.G.le,Y.G.lt⟩,K.get _ _ Y.R (h _ (by simp)),K.get _ _ Y.O (h _ (by simp))⟩
def Yx.aO(Y:Yx a b A J0)(K:ao [] a x):=Y.keep K (by simp) λ_ _ h=>h
theorem Ps.aO{a aq A L M}(H:Ps a A L M)(K:ao [] a aq):Ps aq A L M:=
 ⟨H.W.aO K,H.pd.keep K (by simp),λy b=>(H.al y b).aO K,H.nn,H.nd,H.lo,H.lt,N' H.ln K.len,H.bs.JN K (by simp),H.lb⟩
variable{Q2 X:B Tz}
theorem k4:ads (X++J0::Q2)=ads X++(pB J0++ads Q2):=by simp[ads]
theorem lW(h:J0∈X):∀a∈pB J0,a∈ads X:=λa b=>acM.mpr ⟨J0,h,b⟩
theorem lwc{a b c:Nat}(h:a<b)(d:autoParam (b<=c) P3):a<c:=Nat.lt_of_lt_of_le h d
theorem WY{χ:Ae}{q:Nat}{J0:Tz}{M N:B Tz}(h:q∈own χ (M++N)):q∈own χ (M++J0::N):=by
 rw[show own χ (M++N)=[χ.r,χ.m,χ.d,χ.P]++(ads M++ads N) from congrArg (_++·) List.flatMap_append]at h
 rw[show own χ (M++J0::N)=[χ.r,χ.m,χ.d,χ.P]++_ from congrArg (_++·) k4]
 exact(Ñ.mp h).elim (λh=>Ñ.mpr (.inl h)) λh=>Ñ.mpr (.inr ((Ñ.mp h).elim (λh=>Ñ.mpr (.inl h)) λh=>Ñ.mpr (.inr (Ñ.mpr (.inr h)))))
theorem Ph{χ:Ae}{q:Nat}{M}(h:q∈[χ.d,χ.P]):q∈own χ M:=Ñ.mpr (.inl (.tail _ (.tail _ h)))
variable{χ:Ae}
theorem Ps.sep(H:Ps a χ A (X++J0::Q2)):∀z∈X++Q2,∀b∈pB z,b∉pB J0:=by
 have c:=H.nd;rw[k4]at c;have d:=Ă.mp c;have g:=Ă.mp d.2.1;intro z hz b e f;rcases Ñ.mp hz with hz|hz
 .exact d.2.2 b (lW hz b e) b (ĸ _ f) Y
 .exact g.2.2 b f b (lW hz b e) Y
theorem Ps.low(H:Ps a χ A X):χ.T<χ.s/\χ.s<χ.r/\χ.r<χ.m/\χ.m<χ.d/\χ.d<χ.P/\χ.P<χ.n0:=by
 have:=H.W.lt;have:=H.lt;omega
def Ps.hi(H:Ps a χ A X)(c:J0∈X):=λb d=>H.lo b (lW c b d)
theorem Ps.upd{y'}(H:Ps a χ A (X++J0::Q2))(K:ao ([χ.r,χ.m]++pB J0) a x)(E:Tn x χ.T χ.t χ.s χ.r χ.m χ.d (mx (X++J0::Q2)) K9)(i:∀(j:Nat) g,A[j]?=J g->K9[j]?=J g)(p:y'.n=J0.n)(ha:pB y'=pB J0)(q:Yx x χ.d K9 y'):Ps x χ K9 (X++y'::Q2):=by
 have k:=H.sep;have F:=H.low
 have l:∀b,χ.n0<=b->b∉pB J0->b∉[χ.r,χ.m]++pB J0:=λb u w y=>by
  grind
 have G:∀b,b<χ.n0->b≠χ.r->b≠χ.m->b∉[χ.r,χ.m]++pB J0:=λb u w y h4=>by
  rcases Ñ.mp h4 with h4|h4
  .simp_all
  .have:=H.hi (by simp) b h4
   grind
 have o:∀{f:Tz->Key×D},(f y'=f J0)->(X++y'::Q2).map f=(X++J0::Q2).map f:=λe=>by simp[e]
 have I:y'.c=J0.c/\y'.j=J0.j:=by
  simp_all
 have C:mx _=mx _:=o (by simp_all)
 have e2:jW _=jW _:=o (by simp_all)
 have h:ads (X++y'::Q2)=ads (X++J0::Q2):=by rw[k4,k4,ha]
 have e4:(X++y'::Q2).map (·.n)=(X++J0::Q2).map (·.n):=by simp[p]
 refine⟨by rwa[C],by rw[e2];exact H.pd.keep K (by grind),λz hz=>?_,by rw[e4];exact H.nn,by rw[h];exact H.nd,by rw[h];exact H.lo,H.lt,N' H.ln K.len,H.bs.JN K λb ha=>?_,by unfold own;rw[h];exact H.lb⟩
 .rcases Ñ.mp hz with hz|hz
  .exact(H.al z (ĸ _ hz)).keep K (λb ha=>l b (H.hi (ĸ _ hz) b ha) (k z (ĸ _ hz) b ha)) i
  .rcases Ì.mp hz with rfl|hz
   .exact q
   .exact(H.al z (by simp[hz])).keep K (λb ha=>l b (H.hi (by simp[hz]) b ha) (k z (å _ hz) b ha)) i
 .refine H.lb b ?_
  rcases Ñ.mp ha with ha|ha
  .grind
  .exact å _ (lW (by simp) b ha)
variable{A8:Tz->D}
theorem zE(b:(X.map (·.n)).Nodup):aN (X.map λy=>((.inr y.n:Key),A8 y)) (.inr d)=((X.find? λy=>decide (y.n=d)).map A8):=by
 induction X with
 |nil=>rfl
 |cons a X c=>
  rw[Ù,bY]
  grind
theorem vu(a:((X++J0::Q2).map (·.n)).Nodup):(X++J0::Q2).find? (λz=>decide (z.n=J0.n))=J J0:=by
 grind
theorem ix(a:((X++J0::Q2).map (·.n)).Nodup):aN (mx (X++J0::Q2)) (.inr J0.n)=oR J0.c:=by
 unfold mx;rw[zE a,vu a];rfl
theorem jX(a:((X++J0::Q2).map (·.n)).Nodup):aN (jW (X++J0::Q2)) (.inr J0.n)=oR J0.j:=by
 unfold jW;rw[zE a,vu a];rfl
theorem tB(b:d∉X.map (·.n)):aN (X.map λy=>((.inr y.n:Key),A8 y)) (.inr d)=none:=by
 induction X with
 |nil=>rfl
 |cons a X c=>
  rw[Ù,bY,if_neg (by grind)]
  simp_all
theorem pC(a:((X++J0::Q2).map (·.n)).Nodup):gQ ((X++J0::Q2).map λJ0=>((.inr J0.n:Key),A8 J0)) (.inr J0.n)=(X++Q2).map λJ0=>((.inr J0.n),A8 J0):=by
 have b:∀z∈X++Q2,z.n≠J0.n:=by
  grind
 unfold gQ;rw[ā,List.filter_append,ā]
 congr 1
 .simp_all
 simp_all
theorem zF(h:d∈X.map (·.n)):∃M1 y M2,X=M1++y::M2/\y.n=d:=by
 obtain⟨y,a,rfl⟩:=Ð.mp h;obtain⟨M1,M2,rfl⟩:=acN a
 grind
theorem Ps.drop(H:Ps a χ A (X++J0::Q2))(K:ao [χ.d,χ.P] a x)(i:x[χ.d]?=J (.dK (mx (X++Q2))))(j:ck x χ.P (jW (X++Q2))):Ps x χ A (X++Q2):=by
 have k:=H.low;have q:∀b,χ.n0<=b->b∉[χ.d,χ.P]:=λb h=>by grind
 have c:∀z∈X++Q2,z∈X++J0::Q2:=λz f=>by
  grind
 have g:(ads (X++Q2)).Sublist (ads (X++J0::Q2)):=by
  have:ads (X++Q2)=ads X++ads Q2:=by simp[ads]
  rw[k4]
  grind
 refine⟨⟨K.get _ _ H.W.ob (by simp;omega),i,H.W.sh.keep K (by simp;omega) (by grind) (by grind),H.W.nd,H.W.lt⟩,j,λz f=>(H.al z (c z f)).keep K (λb e=>q b (H.hi (c z f) b e)) λ_ _ h=>h,?_,abj g H.nd,λb e=>H.lo b (g.subset e),H.lt,N' H.ln K.len,H.bs.JN K (λb e=>H.lb b (by grind)),λb e=>H.lb b (by grind)⟩
 .refine abj ?_ H.nn
  simp
theorem Ps.more(H:Ps a χ A X)(K:ao [χ.d,χ.P] a x)(o:J0.n∉X.map (·.n))(i:Tn x χ.T χ.t χ.s χ.r χ.m χ.d (mx (X++[J0])) A)(j:ck x χ.P (jW (X++[J0])))(p:Yx x χ.d A J0)(g:∀c∈pB J0,a.length<=c)(k:(pB J0).Nodup):Ps x χ A (X++[J0]):=by
 have u:=H.low;have q:∀c,χ.n0<=c->c∉[χ.d,χ.P]:=λc h=>by grind
 have f:ads (X++[J0])=ads X++pB J0:=by simp[ads]
 have l:∀c∈ads X,c<a.length:=λc ha=>by
  obtain⟨z,hz,ha⟩:=acM.mp ha;have Y:=H.al z hz;simp at ha;rcases ha with rfl|rfl|rfl|rfl
  .exact bz Y.G.ob
  .exact bz Y.G.sl
  .exact bz Y.R
  .exact bz Y.O
 refine⟨i,j,λz hz=>?_,?_,?_,λc ha=>?_,H.lt,N' H.ln K.len,H.bs.JN K (λc ha=>H.lb c (by grind)),λc ha=>?_⟩
 .rcases Ñ.mp hz with hz|hz
  .exact(H.al z hz).keep K (λc ha=>q c (H.hi hz c ha)) λ_ _ h=>h
  simp_all
 .rw[ā]
  exact Ă.mpr ⟨H.nn,by simp,by simp_all⟩
 .rw[f]
  refine Ă.mpr ⟨H.nd,k,λc ha b w e=>?_⟩
  grind
 .rw[f]at ha
  rcases Ñ.mp ha with ha|ha
  .exact H.lo c ha
  .have:=g c ha
   have:=H.ln;omega
 .rcases Ñ.mp ha with ha|ha
  .exact H.lb c (ĸ _ ha)
  .rw[f]at ha
   rcases Ñ.mp ha with ha|ha
   .exact H.lb c (å _ ha)
   .have:=g c ha
    have:=H.bs.len
    grind
structure Fz(S:B Nat)(Ω aq:aA):Prop where
 len:Ω.length<=aq.length
 get:∀(k:Nat) (c:Cell),Ω[k]?=J c->aq[k]?=J c\/∃kvs,k∈S/\c=.dK kvs/\aq[k]?=J (.dF kvs)
theorem Fz.of(K:ao [] a x):Fz π a x:=⟨K.len,λk c h=>.inl (K.get k c h (by simp))⟩
theorem Fz.trans(d:Fz π a F3)(b:Fz π F3 x):Fz π a x:=⟨N' d.len b.len,λk c h=>by
 rcases d.get k c h with h|⟨f,g,e,h⟩
 .exact b.get k c h
 .rcases b.get k _ h with h|⟨_,_,z,_⟩
  .simp_all
  .cases z⟩
theorem Fz.set{a d S kvs}(h:ck a d kvs)(f:d∈S):Fz S a (a.set d (.dF kvs)):=⟨by simp,λk c b=>by
 by_cases e:d=k
 .have:=bz b
  rcases h with h|h
  .simp_all
  simp_all
 simp_all⟩
theorem Fz.mE(F:Fz π a x):ao [] a (dS a x):=⟨by unfold dS;rw[ae_];exact F.len,λk c h _=>by
 unfold dS;rw[Ϙ];rcases F.get k c h with b|⟨d,_,rfl,b⟩
 .rw[b,h]
  cases c<;>rfl
 .rw[b,h]
  rfl⟩
theorem Fz.dct(F:Fz π a x)(h:ck a b U):ck x b U:=by
 rcases h with h|h
 .rcases F.get _ _ h with h|⟨_,_,z,h⟩
  .exact .inl h
  .cases z;exact .inr h
 .rcases F.get _ _ h with h|⟨_,_,z,h⟩
  .exact .inr h
  .cases z
theorem Fz.at(F:Fz π a x)(h:a[b]?=J P2)(c:b∉π\/∀kvs,P2≠.dK kvs):x[b]?=J P2:=by
 rcases F.get _ _ h with h|⟨_,d,z,h⟩
 .exact h
 simp_all
noncomputable abbrev Ts(A:Ae)(M:B Tz):=A.P::M.map (·.o)
theorem thw(b:r q a=.ok h x):fA r q a=.ok h (dS a x):=by unfold fA;rw[b]
structure Sn(Ω:aA)(A:Ae)(L:B (B Str))(M:B Tz):Prop where
 W:Tn Ω A.T A.t A.s A.r A.m A.d (mx M) L
 pd:ck Ω A.P (jW M)
 al:∀y∈M,Tg Ω A.d y.c y.l y.i y.k y.v L/\Ω[y.j]?=J (.l [.str y.k,.ref y.o])/\ck Ω y.o (cm y.v)
theorem Ps.fz(H:Ps a χ A X)(F:Fz (Ts χ X) a x):Sn x χ A X:=by
 have c:=H.low
 refine⟨⟨F.at H.W.ob (by simp),F.at H.W.dk (.inl (λh=>by
  rcases Ì.mp h with h|h
  .simp_all
  .obtain⟨y,b,e⟩:=Ð.mp h
   have:=H.hi b y.o (by simp)
   omega)),⟨F.at H.W.sh.ob (by simp),F.at H.W.sh.ro (by simp),F.at H.W.sh.nu (by simp)⟩,H.W.nd,H.W.lt⟩,F.dct H.pd,λy b=>?_⟩
 have Y:=H.al y b;exact⟨⟨F.at Y.G.ob (by simp),F.at Y.G.sl (by simp),Y.G.wd,Y.G.nd,Y.G.le,Y.G.lt⟩,F.at Y.R (by simp),F.dct (.inl Y.O)⟩
structure LB(P:Nat->Prop)(Ω:aA)(t h:Nat)(E:kX)(N:L->B L)(fs:B (L×D))(fq:B Nat):Prop where
 to:Ω[t]?=J (.ins "Town" (("house",.ref h)::fs))
 ho:dc P Ω h E N
 nt:t∉fq
 nh:h∉fq
 np:∀j,P j->j∉fq
 ne:∀e l,Ω[h]?=J (.ins "House" [("elders",.ref e),("lines",.ref l)])->e∉fq/\l∉fq
theorem dc.Tu(H:dc Y0 a b X0 U2)(K:ao π a x)(h:b∉π)(i:∀j,Y0 j->j<a.length->j∉π)(k:∀e l,a[b]?=J (.ins "House" [("elders",.ref e),("lines",.ref l)])->e<a.length->l<a.length->e∉π/\l∉π):dc Y0 x b X0 U2:=by
 refine cg H.lt λe l m n c d o f p=>?_
 obtain⟨q,r⟩:=k e l c d.lt f.lt;have g:∀j∈π,¬ (Y0 j/\j<a.length):=λj s z=>i j z.1 z.2 s
 have:dc _ _ b X0 U2:=⟨e,l,_,_,K.get _ _ c h,d.keep K q,o.keep K g,f.keep K r,p.keep K g⟩;exact this.imp λj z=>z.1
theorem LB.keep(H:LB Y0 a b m X0 U2 U1 π)(K:ao E7 a x)(k:∀c∈E7,c∈π\/a.length<=c):LB Y0 x b m X0 U2 U1 π:=by
 have f:=λc d i n=>(k c n).elim i λz=>ä _ (â z d)
 refine xe (by
  refine gj H.ho λe l _ _ d _=>⟨e,l,d⟩) λs g=>xe g λt d=>?_
 have i:=K.get _ _ d (f _ (bz d) H.nh);refine⟨K.get _ _ H.to (f _ (bz H.to) H.nt),H.ho.Tu K (f _ (bz d) H.nh) (λj o p=>f j p (H.np j o)) (λe l h q r=>⟨f _ q (H.ne e l h).1,f _ r (H.ne e l h).2⟩),H.nt,H.nh,H.np,λe l h=>H.ne e l ?_⟩
 simp_all
def tD(a as):=fx (c6 pI il a as) (c6 wV oW a as)
variable{ε:D}
theorem nF(d:p u a=.ok (.ref b) a)(e:Q0 u a=.ok [ε] a)(c:a[b]?=J (.dK U))(f:kK ε=J Y6)(g:aN U Y6=J h):tD p Q0 u a=.ok h (a.set b (.dK (gQ U Y6))):=by
 have i:c6 pI il p Q0 u a=.b:=by
  unfold c6;rw[d,eE];simp[pI,dq,c]
 unfold tD;rw[Jg,i,Nr,Ny d (by simp[wV,c]),e,eE]
 simp only[oW,c,f,g]
theorem gi(a:(X.map (·.n)).Nodup)(b:J0∈X):aN (mx X) (.inr J0.n)=oR J0.c:=by
 obtain⟨M1,M2,rfl⟩:=acN b;exact ix a
theorem nG(a:(X.map (·.n)).Nodup)(b:J0∈X):aN (jW X) (.inr J0.n)=oR J0.j:=by
 obtain⟨M1,M2,rfl⟩:=acN b;exact jX a
def BU(a):=
 (af (cA (aK "Things" "thing" a (aa 0) (ae (aa 1) aj)))
 (af (cA (tD (m1 (bc ["Things"] "made") (aa 0)) (ae (aa 1) aj)))
 ag))
theorem LC(d:cI r)(W:Tn a m P Θ V0 A1 b (mx (X++J0::Q2)) A)(c:((X++J0::Q2).map (·.n)).Nodup):aw 2 2 (BU r) [.ref m,.str J0.n] a=.ok .n (a.set b (.dK (mx (X++Q2)))):=
 fZ ((qE (gh d W (ix c) Y Y)).trans (qE ((nF (eF Y W.ob) Y W.dk Y (ix c)).trans (by rw[show gQ (mx _) _=_ from pC c];rfl))))
def Tv:=
 (af (a7 (m2 (bb .Sub) (m2 (bb .Mod) (m2 (bb .Mult) (aa 0) (ai (.int 48271))) (m2 (bb .Mult) (ai (.int 2)) (m2 (bb .Pow) (ai (.int 10)) (ai (.int 59))))) (m2 (bb .Pow) (ai (.int 10)) (ai (.int 59)))))
 ag)
theorem Tx(x):∃v,∀a,aw 1 1 Tv [.int x] a=.ok (.int v) a:=⟨x*48271%(2*10 ^ 59) - 10 ^ 59,λa=>by simp[eJ,c7,Tv,show mG 48271=_t by decide,show mG 2=_t by decide]⟩
theorem Fx{w x}:∀{v},(cb v).Nodup->dh (cm v) (.inr w) (.int x)=cm (ef v w x)
 |[],_=>Y
 |p::v,g=>by
  by_cases e:p.1=w
  .subst e
   have b:ef (p::v) p.1 x=(p.1,x)::v:=by
    unfold ef;simp
   have c:(cm v).map (λa=>if a.1=(.inr p.1)then (a.1,(.int x))else a)=cm v:=by
    refine(acv λa d=>?_).trans (acJ _)
    obtain⟨q,h,rfl⟩:=Ð.mp d
    grind
   rw[b];unfold dh;rw[if_pos (by simp[cm])]
   show((if ((.inr _:Key),(.int _:D)).1=.inr _ then _ else _)::(cm v).map _)=_
   rw[if_pos Y,c];rfl
  .have b:ef (p::v) w x=p::ef v w x:=by
    unfold ef
    grind
   have c:dh (cm (p::v)) (.inr w) (.int x)=((.inr p.1),(.int p.2))::dh (cm v) (.inr w) (.int x):=by
    have f:¬ ((.inr p.1:Key)=.inr w):=by simp_all
    unfold dh
    have:((cm (p::v)).any λa=>decide (a.1=(.inr w)))=((cm v).any λa=>decide (a.1=(.inr w))):=by
     show(decide _||_)=_
     rw[decide_eq_false f];rfl
    rw[this];split
    .show((if (.inr _:Key)=.inr w then _ else _)::_)=_
     rw[if_neg f];rfl
    .rfl
   rw[b,c,(Fx (Ī.mp g).2)];rfl
theorem zG{w}:∀{v},(cb v).Nodup->w∈cb v->gQ (cm v) (.inr w)=cm (fb v w)
 |p::v,c,f=>by
  by_cases e:p.1=w
  .subst e
   have a:fb (p::v) p.1=v:=by
    unfold fb;simp
   rw[a]
   show(((.inr _),(.int _))::cm v).filter _=_
   rw[Ž,if_neg (by simp)]
   refine Ĥ.mpr λg b=>?_
   obtain⟨q,h,rfl⟩:=Ð.mp b
   grind
  .have a:fb (p::v) w=p::fb v w:=by
    unfold fb
    grind
   have d:gQ (cm (p::v)) (.inr w)=((.inr p.1),(.int p.2))::gQ (cm v) (.inr w):=by
    unfold gQ
    show(((.inr _),(.int _))::cm v).filter _=_
    simp_all
   rw[a,d,(zG (Ī.mp c).2 (by
    grind))]
   rfl
theorem pD{w}:∀{v},(aN (cm v) (.inr w)).isSome=decide (w∈cb v)
 |[]=>by rfl
 |p::v=>by
  rw[cm,Ù,bY]
  by_cases e:p.1=w
  .simp_all
  .rw[if_neg (by simp_all)]
   have:decide (w∈cb (p::v))=decide (w∈cb v):=by
    grind
   rw[this];exact(pD)
theorem zH{w v x}(h:∀u∈cb v,dU u)(a:dU w):∀u∈cb (ef v w x),dU u:=by
 unfold ef
 grind
theorem vv(h:C∈cb (fb V2 d)):C∈cb V2:=by
 obtain⟨p,a,rfl⟩:=Ð.mp h;exact Ð.mpr ⟨p,List.mem_of_mem_eraseIdx a,Y⟩
structure Q4(Ω:aA)(A:Ae)(L:B (B Str))(M:B Tz)(ns:B Str):Prop where
 H:Ps Ω A L M
 p:Ω[A.P]?=J (.dK (jW M))
 z:L[0]?=J []
 i:∀y∈M,y.n∈ns
 u:∀y∈M,∀w∈cb y.v,dU w
def PY(L a:B (B Str))(b:B Tz):=a=L\/∃R,R∉L/\a=L++[R]/\∃y∈b,cb y.v=R
theorem zI(h:J0∈X):PY A (ee A (cb J0.v)) X:=by
 by_cases a:cb J0.v∈A
 .exact .inl (if_pos a)
 .exact .inr ⟨_,a,if_neg a,J0,h,Y⟩
noncomputable abbrev vE(A:Ae)(Q:D)(x:Int)(a b c:_o D)(n kd w:L)(v:Int)(o:_o D):a_:=[oR A.T,oR A.P,J Q,oI x,a,b,c,oS n,oS kd,oS w,oI v,o]
def dMk(a):=(af (dY (aa 1) (aa 7) (mN b_ (ae (aa 8) (ae cp aj))))
 (af (a7 (m2 (ay .Is) (aK "Things" "make" a (aa 0) (ae (aa 7) (ae (aa 8) aj))) (ai .n)))
 ag))
theorem nH(a:J0.n∉X.map (·.n)):dh (X.map λJ0=>((.inr J0.n:Key),A8 J0)) (.inr J0.n) (A8 J0)=(X++[J0]).map λJ0=>((.inr J0.n),A8 J0):=by
 rw[zx,ā]
 .rfl
 simp_all
theorem Om(M:fC r)(N:lT d0)(H:Q4 a χ A X l)(O:LB Y0 a χ.t b X0 U2 U1 (own χ X))(P:V1∈nms X0)(R:dU d)(j:d∉X.map (·.n))(S:d∈l)(T:X.length<40):
  ∃w aq,dMk (aw 3 3 (BS r d0 (aw 2 2 By))) (vE χ h Q M4 U5 E6 d V1 C U0 _n) a=.rt (.bl _t) aq/\Q4 aq χ A w l/\w.length<=X.length+1:=by
 have lw:=H.H.low;have lP:=bz H.p;refine aH (kA (Wm (a:=a) (u:=vE χ h Q M4 U5 E6 d V1 C U0 _n))) λc U k x=>?_
 refine aH (kA (lN (q:=[.str V1,.ref a.length]) (a:=c))) λV Z f D=>?_
 have l0:=bz x;have E:=f.g (k.g H.p);refine aH (kD (jV (d:=d) (h:=.ref c.length) E (by simp[jW];exact GD T)) E) λa0 hd e g3=>?_
 have F:=((H.H.W.aO k).aO f).keep e;have G:=((O.keep k (by simp)).keep f (by simp)).keep e (by simp)
 refine bW (Ly M N F G.to G.ho P R (tB j) (by simp[mx];omega) H.z) λI b0 e3 K G3 m lc=>?_
 have R3:=m.g (e.g D);have O3:=m.g (e.g (f.g x))
 let y:Tz:=⟨d,I,I+1,0,V1,[],c.length,a.length⟩
 rw[show dh (mx X) _ _=mx _ from nH (J0:=y) j]at K
 have o:=m.g g3;rw[show dh (jW X) _ _=jW _ from nH (J0:=y) j]at o
 have l1:=bz D;have l2:=e.len;refine⟨_,_,(qD (eN (eK Y (eK U Y)) Z) Y Y hd).trans (qR (eQ (eM Y F.ob Y e3) Y EY)),⟨H.H.more (((k.trans f).tr e).s.trans m.s) j K (.inl o) ⟨G3,R3,O3⟩ (λq hq=>?_) ?_,o,H.z,Wn H.i S,Wn H.u (by simp[y])⟩,by simp⟩
 .grind
 grind
def dPu(a b):=(af (dY (aa 11) (aa 9) (mN (aQ a) (ae (aa 3) aj)))
 (af (a7 (m2 (ay .Is) (aK "Things" "put" b (aa 0) (ae (aa 7) (ae (aa 9) (ae (m2 aR (aa 11) (aa 9)) aj)))) (ai .n)))
 ag))
theorem Q4.of{y'}(h:Q4 a χ A (X++J0::Q2) l)(c:Ps x χ K9 (X++y'::Q2))(d:x[χ.P]?=a[χ.P]?)(hz:K9[0]?=J [])(b:y'.n=J0.n)(e:y'.j=J0.j)(f:∀u∈cb y'.v,dU u):Q4 x χ K9 (X++y'::Q2) l:=
 ⟨c,by rw[d,h.p];simp[jW,b,e],hz,ifM h.i (b▸h.i J0 (by simp)),ifM h.u f⟩
theorem Ps.out(H:Ps a χ A (X++J0::Q2)):χ.P∉[χ.r,χ.m]++pB J0/\χ.d<J0.c/\χ.d<J0.l/\χ.d<J0.j/\χ.d<J0.o/\χ.P<J0.c/\χ.P<J0.l/\χ.P<J0.j/\χ.P<J0.o/\J0.c≠J0.j/\J0.c≠J0.o/\J0.l≠J0.j/\J0.l≠J0.o/\J0.j≠J0.o/\J0.c≠J0.l:=by
 have b:=H.low;have f:=H.hi (J0:=J0) (by simp)
 have g:=f J0.c (by simp)
 have h:=f J0.l (by simp)
 have i:=f J0.j (by simp)
 have k:=f J0.o (by simp)
 have n:=H.nd;rw[k4]at n;have e:=(Ă.mp (Ă.mp n).2.1).1;simp at e;refine⟨?_,P' (Ó b.2.2.2.2.1 b.2.2.2.2.2) g,P' (Ó b.2.2.2.2.1 b.2.2.2.2.2) h,P' (Ó b.2.2.2.2.1 b.2.2.2.2.2) i,P' (Ó b.2.2.2.2.1 b.2.2.2.2.2) k,P' b.2.2.2.2.2 g,P' b.2.2.2.2.2 h,P' b.2.2.2.2.2 i,P' b.2.2.2.2.2 k,e.1.2.1,e.1.2.2,e.2.1.1,e.2.1.2,e.2.2,e.1.1⟩;simp
 grind
noncomputable abbrev yP(y:Tz)(i:Nat)(v:B (L×Int)):Tz:=⟨y.n,y.c,y.l,i,y.k,v,y.j,y.o⟩
theorem LD(w:fC r)(x:cI d0)(y:fL E1)(z:pA A3)(H:Ps a χ A (X++J0::Q2))(C:dU d)(D:A.length<=500)(E:d∈cb J0.v\/J0.v.length<12):
  ∃i b c,gV (.ref J0.o) (.str d) (.int Q) a=J b/\Tn b χ.T χ.t χ.s χ.r χ.m χ.d (mx (X++J0::Q2)) A/\aR (.ref J0.o) (.str d) b=.ok (.int Q) b/\aw 6 4 (Fv r d0 E1 A3) [.ref χ.T,.str J0.n,.str d,.int Q] b=.ok .n c/\Ps c χ (ee A (cb (ef J0.v d Q))) (X++yP J0 i (ef J0.v d Q)::Q2)/\ao ([χ.r,χ.m]++pB J0) a c:=by
 have Y:=H.al J0 (by simp)
 have o:=H.out.2;have P:=H.low;refine aH (kD (jV (d:=d) (h:=.int Q) Y.O (by have:=Y.G.le;simp[cm];exact fc this)) Y.O) λb F e f=>?_
 have k:=iF (.inl f) (by rw[qV,if_pos rfl])
 rw[Fx Y.G.nd]at f;have u:=H.W.keep e;refine bG (Ta w x y z u (ix H.nn) (Y.G.keep e) C D (Q:=Q) E) λi S c e2 I M l=>xa l λp q=>?_;subst q
 have K:=(e.s.trans p.s:ao ([χ.r,χ.m]++pB J0) a _);exact⟨i,_,_,F,u,k,e2,H.upd K I (λj N h=>hH h) rfl rfl ⟨M,p.g (e.g Y.R),p.g f⟩,K⟩
theorem LF(C:cI r)(D:fL d0)(E:pU E1)(H:Ps a χ A (X++J0::Q2))(F:A.length<=500)(k:d∈cb J0.v):
  ∃i b c l,(∀{p}{x}{as},x p a=.ok (.ref J0.o) a->as p a=.ok [.str d] a->tD x as p a=.ok l b)/\Tn b χ.T χ.t χ.s χ.r χ.m χ.d (mx (X++J0::Q2)) A/\aw 5 3 (JF r d0 E1) [.ref χ.T,.str J0.n,.str d] b=.ok .n c/\Ps c χ (ee A (cb (fb J0.v d))) (X++yP J0 i (fb J0.v d)::Q2)/\ao ([χ.r,χ.m]++pB J0) a b/\ao ([χ.r,χ.m]++pB J0) a c:=by
 have Y:=H.al J0 (by simp)
 have o:=H.out.2;have U:=H.low;obtain⟨l,I⟩:=abH.mp (pD.trans (decide_eq_true k));refine aH (ao.st (e':=.dK (cm (fb J0.v d))) Y.O) λb z f M=>?_
 have y:=H.W.keep f;refine bG (Tb C D E y (ix H.nn) (Y.G.keep f) F k) λi V c e2 N P q=>xa q λu w=>?_;subst w
 have e:=(f.s:ao ([χ.r,χ.m]++pB J0) a _);have K:=e.trans u.s;exact⟨i,_,_,l,λh Q=>(nF h Q Y.O rfl I).trans (by rw[zG Y.G.nd k,z]),y,e2,H.upd K N (λj S h=>hH h) rfl rfl ⟨P,u.g (f.g Y.R),u.g M⟩,e,K⟩
theorem Oo{g A L M1 M2 y w kd x v0 Q a b c h j k l}(s:fC h)(t:cI j)(C:fL k)(E:pA l){m}(H:Q4 g A L (M1++y::M2) m)(q:dU w)(F:L.length<=500)(G:w∈cb y.v\/y.v.length<12):
  ∃r e aq,dPu (aw 1 1 Tv) (aw 6 4 (Fv h j k l)) (vE A Q x a b c y.n kd w v0 (oR y.o)) g=.rt (.bl _t) aq/\Q4 aq A r e m/\PY L r e/\e.length<=(M1++y::M2).length+1:=by
 obtain⟨I,d⟩:=Tx x;obtain⟨i,M,N,O,P,f,e2,R,K⟩:=LD s t C E H.H q F G;exact⟨_,_,_,(qD (eC Y (d _)) Y Y O).trans (qR (eQ (eM Y P.ob (eK Y (eK Y (eK (eQ Y Y f) Y))) e2) Y EY)),H.of R ((K.get _ _ H.p H.H.out.1).trans H.p.symm) (hH H.z) Y Y (zH (H.u y (by simp)) q),zI (J0:=yP y i (ef _ w _)) (by simp),by simp⟩
def dTk(a):=(af (cA (tD (aa 11) (ae (aa 9) aj)))
 (af (a7 (m2 (ay .Is) (aK "Things" "take" a (aa 0) (ae (aa 7) (ae (aa 9) aj))) (ai .n)))
 ag))
theorem Oq(e:cI r)(f:fL d0)(g:pU E1)(H:Q4 a χ A (X++J0::Q2) l)(j:A.length<=500)(k:d∈cb J0.v):
  ∃c b aq,dTk (aw 5 3 (JF r d0 E1)) (vE χ h Q M4 U5 E6 J0.n C d U0 (oR J0.o)) a=.rt (.bl _t) aq/\Q4 aq χ c b l/\PY A c b/\b.length<=(X++J0::Q2).length+1:=by
 refine bu (LF e f g H.H j k) λi m q y s t e2 w _ K=>⟨_,_,_,(qE (s Y Y)).trans (qR (eQ (eM Y t.ob Y e2) Y EY)),H.of w ((K.get _ _ H.p H.H.out.1).trans H.p.symm) (hH H.z) Y Y (λu x=>H.u J0 (by simp) u (vv x)),zI (J0:=yP J0 i (fb _ d)) (by simp),by simp⟩
def dMv(a):=(af (dY (m2 aR (aa 1) (aa 7)) (ai (.int 0)) (aa 8))
 (af (a7 (m2 (ay .Is) (aK "Things" "move" a (aa 0) (ae (aa 7) (ae (aa 8) aj))) (ai .n)))
 ag))
theorem Ot(y:cI r)(D:lT d0)(H:Q4 a χ A (X++J0::Q2) l)(E:LB Y0 a χ.t b X0 U2 U1 (own χ (X++J0::Q2)))(F:C∈nms X0):
  ∃q k aq,dMv (aw 4 3 (WB r d0)) (vE χ h Q M4 U5 E6 J0.n C d U0 (oR J0.o)) a=.rt (.bl _t) aq/\Q4 aq χ q k l/\PY A q k/\k.length<=(X++J0::Q2).length+1:=by
 have Y:=H.H.al J0 (by simp)
 have o:=H.H.out.2;refine aH (dL (m:=0) (.str C) Y.R (by simp)) λI K e M=>?_
 have w:=H.H.W.keep e
 have x:=E.keep e λM4 N=>by
  rw[ï.mp N];exact .inl (å _ (lW (J0:=J0) (by simp) _ (by simp)))
 refine dJ (Tc y D w (ix H.H.nn) (Y.G.keep e) x.to x.ho F) λP e2 S T f=>?_
 have R2:=f.g M;have O2:=f.g (e.g Y.O)
 let y':Tz:=⟨J0.n,J0.c,J0.l,J0.i,C,J0.v,J0.j,J0.o⟩
 exact⟨A,_,_,(qD rfl (eQ rfl rfl (iF H.H.pd (jX H.H.nn))) rfl K).trans (qR (eQ (eM rfl w.ob rfl e2) rfl EY)),H.of (H.H.upd (y':=y') (e.s.trans f.s) S (λj U b=>b) rfl rfl ⟨T,R2,O2⟩) ((f.g (e.g H.p)).trans H.p.symm) H.z rfl rfl (H.u J0 (by simp)),.inl rfl,by simp⟩
def dDp(a):=(af (cA (tD (aa 1) (ae (aa 7) aj)))
 (af (a7 (m2 (ay .Is) (aK "Things" "drop" a (aa 0) (ae (aa 7) aj)) (ai .n)))
 ag))
variable{U8:_o D}
theorem Ou(q:cI r)(H:Q4 a χ A (X++J0::Q2) l):
  ∃f c aq,dDp (aw 2 2 (BU r)) (vE χ h Q M4 U5 E6 J0.n C d U0 U8) a=.rt (.bl _t) aq/\Q4 aq χ f c l/\PY A f c/\c.length<=(X++J0::Q2).length+1:=by
 have D:=H.H.low;refine aH (kO (nF (u:=vE χ h Q M4 U5 E6 _ C d U0 U8) (p:=aa 1) (Q0:=ae (aa 7) aj) Y Y H.p Y (jX H.H.nn)) H.p) λt w j k=>?_
 rw[show gQ (jW _) _=jW _ from pC H.H.nn]at k
 have e:=H.H.W.keep j;refine aH (kO (LC q e H.H.nn) e.dk) λx e2 m y=>?_
 have o:=m.g k;exact⟨A,_,_,(qE w).trans (qR (eQ (eM Y e.ob Y e2) Y EY)),⟨H.H.drop (j.s.trans m.s) y (.inl o),o,H.z,λz b=>H.i z (by simp at b ⊢;exact b.imp_right .inr),λz b=>H.u z (by simp at b ⊢;exact b.imp_right .inr)⟩,.inl Y,by simp;omega⟩
def TB(F:B D->Out Rs)(a:Nat)(t:Int):=(m2 aR (aa a) (mN (ey F) (ae (aa 3) (ae (ai (.int t)) (ae (mN (bP .len) (ae (aa a) aj)) aj)))))
theorem Fy(e:iS y6 m4)(g:a[b]?=J (.l (l.map .str)))(n:0<l.length)(i:0<=U0)(o:U0<1000):∃w∈l,∀{f}{d},f[d]?=J (oR b)->f[3]?=J (oI Q)->TB m4 d U0 f a=.ok (.str w) a:=by
 refine mO (e Q U0 l.length i (by omega) (by omega)) λp q j=>?_
 generalize y6 Q U0 _=r at *;obtain⟨c,rfl⟩:∃c:Nat,(c)=r:=⟨r.toNat,by omega⟩
 obtain⟨w,h⟩:∃w,l[c]?=J w:=⟨l[c]'(by omega),Ô _⟩
 exact⟨w,Å h,λk m=>by simp[TB,k,m,(gf g),j,(aU g (L2.bQ (b:=c) (v:=.str w) (by simp[h])))]⟩
structure Pol(Ω:aA)(A:Ae)(M:B Tz)(nq kq wq h:Nat)(ns ks hs ws:B L):Prop where
 n:Ω[nq]?=J (.l (ns.map .str))
 k:Ω[kq]?=J (.l (ks.map .str))
 w:Ω[wq]?=J (.l (ws.map .str))
 t:∃P fs,LB P Ω A.t h (bare hs) (λn=>[n]) fs (own A M)
 kh:∀k∈ks,k∈hs
 vn:∀u∈ns,dU u
 vw:∀u∈ws,dU u
 ln:ns.length=5
 lk:ks.length=3
 lw:1<=ws.length/\ws.length<=14
 nw:ws.Nodup
def dA(y:Int):=(m2 (ay .Lt) (aa 10) (ai (.int y)))
def cDd(F:B D->Out Rs)(a b c d e f):=
 (af (Eh [4,5,6] (aa 2))
 (af (aJ 7 (TB F 4 0))
 (af (aJ 8 (TB F 5 1))
 (af (aJ 9 (TB F 6 2))
 (af (aJ 10 (mN (ey F) (ae (aa 3) (ae (ai (.int 3)) (ae (ai (.int 9)) aj)))))
 (af (cw (m2 (ay .NotIn) (aa 7) (aa 1)) (dMk b) ag)
 (af (aJ 11 (m2 aR (m2 aR (aa 1) (aa 7)) (ai (.int 1))))
 (af (cw (fJ (dA 5) (pQ (m2 (ay .In) (aa 9) (aa 11)) (m2 (ay .Lt) (mN (bP .len) (ae (aa 11) aj)) (ai (.int 12))))) (dPu a c) ag)
 (af (cw (fJ (dA 7) (m2 (ay .In) (aa 9) (aa 11))) (dTk d) ag)
 (af (cw (m2 (ay .Eq) (aa 10) (ai (.int 7))) (dMv e) ag)
 (af (cw (m2 (ay .Eq) (aa 10) (ai (.int 8))) (dDp f) ag)
 (af (a7 (ai (.bl _t)))
 ag))))))))))))
abbrev WI(F:B D->Out Rs)(b a c e f d):=aw 12 4 (cDd F (aw 1 1 Tv) (aw 3 3 (BS b d (aw 2 2 By))) (aw 6 4 (Fv b a c e)) (aw 5 3 (JF a c f)) (aw 4 3 (WB a d)) (aw 2 2 (BU a)))
variable{D7:B L}{o6 r6:az}
theorem TC(q:iS y6 m4)(hI:fC r)(S:cI d0)(hS:fL E1)(hG:pA A3)(hW:pU o6)(hC:lT r6)(B:Pol a χ X m P Θ b l i0 N4 D7)(H:Q4 a χ A X l)(hl:A.length<=500)(hm:X.length<40)(K:∀p f aq,WI m4 r d0 E1 A3 o6 r6 [.ref χ.T,.ref χ.P,.t [.ref m,.ref P,.ref Θ],.int Q] a=.ok (.bl _t) aq->Q4 aq χ p f l->PY A p f->f.length<=X.length+1->U4):U4:=by
 have ln:=B.ln;have lk:=B.lk;have lw:=B.lw;refine bN (Fy (Q:=Q) (U0:=0) q B.n (by omega) (by decide) (by decide)) λn hn e1=>?_
 refine bN (Fy (Q:=Q) (U0:=1) q B.k (by omega) (by decide) (by decide)) λkd U e2=>?_
 refine bN (Fy (Q:=Q) (U0:=2) q B.w (by omega) (by decide) (by decide)) λw V e3=>?_
 refine mO (q Q 3 9 (by decide) (by decide) (by decide)) λy0 y1 hy=>?_
 generalize y6 Q 3 9=v0 at *;have R:∀{d aq},_=eA.rt d aq->WI m4 r d0 E1 A3 o6 r6 [.ref χ.T,.ref χ.P,.t [.ref m,.ref P,.ref Θ],.int Q] a=.ok d aq:=λe=>fR ((qN rfl).trans ((qA (e1 rfl rfl)).trans ((qA (e2 rfl rfl)).trans ((qA (e3 rfl rfl)).trans ((qA (eV rfl hy)).trans e)))))
 have M:kd∈nms (bare N4):=by rw[eh];exact B.kh _ U
 refine xe B.t λZ a0=>xe a0 λfs ht=>?_
 by_cases F:n∈X.map (·.n)
 .refine ei (zF F) λM1 y M2 b0 c0=>?_;subst b0;subst c0
  have Y:=H.H.al y (by simp)
  have i:=kY (d:=y.n) H.H.pd;rw[jX H.H.nn]at i;have R:∀{d aq},_=eA.rt d aq->_:=λ{d aq} e=>R (d:=d) (aq:=aq) ((q0 (eQ rfl rfl i)).trans ((qA (eQ (eQ rfl rfl (iF H.H.pd (jX H.H.nn))) rfl (aU Y.R rfl))).trans e))
  have g:=pT (d:=w) (.inl Y.O:ck a y.o (cm y.v));rw[pD]at g;have G:=mw (.inl Y.O:ck a y.o (cm y.v));rw[show((cm y.v).length:Int)=y.v.length by simp[cm]]at G
  by_cases N:v0<5/\(w∈cb y.v\/y.v.length<12)
  .refine bG (Oo (Q:=.t [.ref m,.ref P,.ref Θ]) (a:=oR m) (b:=oR P) (c:=oR Θ) (kd:=kd) (v0:=v0) (x:=Q) hI S hS hG H (B.vw w V) hl N.2) λp f aq e s u I=>?_
   refine K p f aq (R ((qT (x:=a) (aT (eQ rfl rfl (Lq (decide_eq_true N.1))) ?_)).trans (qB e))) s u I
   by_cases D:w∈cb y.v
   .exact oT (eQ rfl rfl (g.trans (by rw[decide_eq_true D])))
   .exact oF (eQ rfl rfl (g.trans (by rw[decide_eq_false D]))) (eQ (eN rfl G) rfl (Lq (decide_eq_true (by have:=N.2.resolve_left D;exact Ku this))))
  have R:∀{d aq},_=eA.rt d aq->_:=λ{d aq} e=>R (d:=d) (aq:=aq) ((q0 (x:=a) (by
   by_cases E:v0<5
   .exact aT (eQ rfl rfl (Lq (decide_eq_true E))) (oF (eQ rfl rfl (g.trans (by rw[decide_eq_false λz=>N ⟨E,.inl z⟩]))) (eQ (eN rfl G) rfl (Lq (decide_eq_false λz=>N ⟨E,.inr (by omega)⟩))))
   .exact aF (eQ rfl rfl (Lq (decide_eq_false E))))).trans e)
  by_cases D:v0<7/\w∈cb y.v
  .refine bG (Oq (h:=.t [.ref m,.ref P,.ref Θ]) (M4:=oR m) (U5:=oR P) (E6:=oR Θ) (C:=kd) (U0:=v0) (Q:=Q) S hS hW H hl D.2) λp f aq e s u I=>?_
   exact K p f aq (R ((qT (aT (eQ rfl rfl (Lq (decide_eq_true D.1))) (eQ rfl rfl (g.trans (by rw[decide_eq_true D.2]))))).trans (qB e))) s u I
  have R:∀{d aq},_=eA.rt d aq->_:=λ{d aq} e=>R (d:=d) (aq:=aq) ((q0 (x:=a) (by
   by_cases E:v0<7
   .exact aT (eQ rfl rfl (Lq (decide_eq_true E))) (eQ rfl rfl (g.trans (by rw[decide_eq_false λz=>D ⟨E,z⟩])))
   .exact aF (eQ rfl rfl (Lq (decide_eq_false E))))).trans e)
  by_cases g3:v0=7
  .refine bG (Ot (h:=.t [.ref m,.ref P,.ref Θ]) (M4:=oR m) (U5:=oR P) (E6:=oR Θ) (d:=w) (U0:=v0) (Q:=Q) S hC H ht M) λp f aq e s u I=>?_
   exact K p f aq (R ((qT (eQ rfl rfl (Js (decide_eq_true g3)))).trans (qB e))) s u I
  by_cases g4:v0=8
  .refine bG (Ou (h:=.t [.ref m,.ref P,.ref Θ]) (M4:=oR m) (U5:=oR P) (E6:=oR Θ) (C:=kd) (d:=w) (U0:=v0) (Q:=Q) S H (U8:=oR y.o)) λp f aq e s u I=>?_
   exact K p f aq (R ((q0 (eQ rfl rfl (Js (decide_eq_false g3)))).trans ((qT (eQ rfl rfl (Js (decide_eq_true g4)))).trans (qB e)))) s u I
  exact K A _ a (R ((q0 (eQ rfl rfl (Js (decide_eq_false g3)))).trans ((q0 (eQ rfl rfl (Js (decide_eq_false g4)))).trans (qR rfl)))) H (.inl rfl) (à _ _)
 .have i:=kY (d:=n) H.H.pd
  rw[show aN (jW X) (.inr n)=_n from tB (A8:=λy=>.ref y.j) F]at i
  refine aP (Om (h:=.t [.ref m,.ref P,.ref Θ]) (M4:=oR m) (U5:=oR P) (E6:=oR Θ) (C:=w) (U0:=v0) (Q:=Q) hI hC H ht M (B.vn n hn) F hn hm) λf aq e s u=>?_
  exact K A f aq (R ((qT (eQ rfl rfl i)).trans (qB e))) s (.inl rfl) u
noncomputable def xy(v:B (L×Int)):B D:=v.map λp=>.t [.str p.1,.int p.2]
theorem xB{a n}:∀{v},bq (et a (n+1)) (xy v)=J (xy v)
 |[]=>Y
 |p::v=>by
  have h:=xB (a:=a) (n:=n) (v:=v);have b:et a (n+1) (.t [.str p.1,.int p.2])=J (.t [.str p.1,.int p.2]):=zj (by simp)
  simp only[xy,Ù,bq]at h ⊢;rw[b,h]
theorem Ov:aI (b+2) (.l (xy V2))=true:=by
 show(xy V2).all _=_t
 rw[á];intro d a;obtain⟨p,_,rfl⟩:=Ð.mp a
 simp_all
theorem FA:∀{v},eT (xy v) (xy v)=_t
 |[]=>Y
 |p::v=>by
  have h:=FA (v:=v);simp only[xy,Ù,eT]at h ⊢
  simp_all
theorem Ow(h:a[b]?=J (.l (xy V2)))(c:a[m]?=J (.l (xy V2))):ay .NotEq (.ref b) (.ref m) a=.ok (.bl _d) a:=by
 rw[tj,jx,jw h xB,jw c xB,nj]
 have e:gk .NotEq (.l (xy V2)) (.l (xy V2))=.ok false:=by
  rw[MM,Ov]
  show Out.ok (!eT _ _)=_
  rw[FA];rfl
 rw[e];rfl
theorem TF(h:ck a b (cm V2)):Lf (.ref b) a=.ok (.ref a.length) (a++[.l (xy V2)]):=by
 have e:(cm V2).map (λc=>D.t [fK c.1,c.2])=xy V2:=by
  simp only[cm,xy,Ö];rfl
 simp only[Lf,Lu h,e];rfl
theorem vA:(cm V2).map (λa=>fK a.1)=(cb V2).map .str:=by
 simp only[cm,cb,Ö];rfl
theorem zJ:∀{v}{a:Nat}{p},(cb v).Nodup->v[a]?=J p->aN (cm v) (.inr p.1)=J (.int p.2)
 |q::v,0,p,c,h=>by
  cases h;rw[cm,Ù,bY,if_pos Y]
 |q::v,a+1,p,c,h=>by
  have b:=Ī.mp c;rw[cm,Ù,bY,if_neg (by simpa using (λz=>b.1 (Ð.mpr ⟨p,Å h,z.symm⟩)))]
  exact zJ b.2 h
theorem FC:ay .NotEq (.int Q) (.int Q) a=.ok (.bl _d) a:=by simp
theorem Ox:ay .NotEq (.str d) (.str d) a=.ok (.bl _d) a:=by
 simp
theorem JO(c:(cb V2).Nodup)(f:V2[b]?=J l9):kZ (cb V2) l9.1=.int b:=by
 have a:(cb V2)[b]?=J l9.1:=by simp_all
 have d:(cb V2).idxOf l9.1=b:=by
  have:=Ê.mp a;obtain⟨_,e⟩:=this;rw[←e];exact c.idxOf_getElem b _
 unfold kZ;rw[if_pos (Å a),d]
theorem JP:(mx X).map (λa=>fK a.1)=(X.map (·.n)).map .str:=by
 simp only[mx,Ö];rfl
theorem zK:(jW X).map (λa=>fK a.1)=(X.map (·.n)).map .str:=by
 simp only[jW,Ö];rfl
def Zb:=
 (af (a7 (mN (bP .list) (ae (m1 (bc ["Things"] "made") (aa 0)) aj)))
 ag)
theorem TH(W:Tn a b m P Θ V0 A1 (mx X) A):aw 1 1 Zb [.ref b] a=.ok (.ref a.length) (a++[.l ((X.map (·.n)).map .str)]):=fR (qR (eN (eK (eF Y W.ob) Y) (JP▸pk (.inl W.dk))))
def TJ:=
 (af (a7 (fJ (m1 (gp .int) (aa 0)) (dz (m1 (gp .bool) (aa 0)))))
 ag)
theorem LG:aw 1 1 TJ [.int Q] a=.ok (.bl _t) a:=Y
theorem nes(h:a[b]?=J (.l (l.map .str)))(c:a[m]?=J (.l (l.map .str))):ay .NotEq (.ref b) (.ref m) a=.ok (.bl _d) a:=(Jw h c).trans (by simp)
theorem Sn.aO{a aq A L M}(N:Sn a A L M)(K:ao [] a aq):Sn aq A L M:=
 ⟨N.W.aO K,N.pd.keep K (by simp),λy b=>mO (N.al y b) λG R O=>⟨⟨K.get _ _ G.ob (by simp),K.get _ _ G.sl (by simp),G.wd,G.nd,G.le,G.lt⟩,K.get _ _ R (by simp),O.keep K (by simp)⟩⟩
def Bz:=(m2 aR (aa 3) (ai (.int 1)))
def snI(a b c):=
 (af (aJ 8 (aK "Things" "value_at" a (aa 0) (ae (aa 2) (ae (aa 6) aj))))
 (af (cw (pQ (dz (mN (aQ c) (ae (aa 8) aj))) (pQ (m2 (ay .NotEq) (aa 8) (m2 aR Bz (aa 7))) (m2 (ay .NotEq) (aK "Shapes" "slot_of" b (m1 (bc ["Things"] "shapes") (aa 0)) (ae (aa 5) (ae (aa 7) aj))) (aa 6))))
 (af (a7 (ai (.bl _d)))
 ag)
 ag)
 ag))
noncomputable abbrev P_(A:Ae)(y:Tz)(a4 a b c d:_o D):a_:=[oR A.T,oR A.P,oS y.n,oR y.j,a4,a,b,c,d]
theorem Oy(f:cI r)(g:fL d0)(N:Sn a χ A X)(h:(X.map (·.n)).Nodup)(d:J0∈X)(c:J0.v[b]?=J l9):∃aq,snI (aw 3 3 (SW r)) d0 (aw 1 1 TJ) (P_ χ J0 M4 (oI J0.i) (oI b) (oS l9.1) U5) a=.nx (P_ χ J0 M4 (oI J0.i) (oI b) (oS l9.1) (oI l9.2)) aq/\ao [] a aq:=by
 refine mO (N.al J0 d) λG R O=>?_
 refine bN (g a _ _ _ _ A _ l9.1 N.W.sh G.wd) λaq e K=>?_
 rw[JO G.nd c]at e;exact⟨_,(qA (eM Y N.W.ob Y (S3 f N.W (gi h d) G c))).trans (q0 (oF (nT (eC Y LG)) (oF (eQ Y (eQ (eQ Y Y (aU R Y)) Y (iF O (zJ G.nd c))) FC) (eQ (eM (eF Y N.W.ob) N.W.sh.ob Y e) Y FC)))),K⟩
def sn2(a):=(cw (pQ (m2 (ay .NotEq) (aK "Things" "kind_of" a (aa 0) (ae (aa 2) aj)) (m2 aR (aa 3) (ai (.int 0)))) (pQ (dz (m1 (gp .dict) (aa 4))) (m2 (ay .NotEq) (m1 Lf (aa 4)) (m1 Lf Bz))))
 (af (a7 (ai (.bl _d)))
 ag)
 ag)
def sn4(a b):=(cw (pQ (dz (mN (aQ a) (ae (aa 5) aj))) (m2 (ay .NotEq) (aK "Shapes" "words_of" b (m1 (bc ["Things"] "shapes") (aa 0)) (ae (aa 5) aj)) (mN (bP .list) (ae Bz aj))))
 (af (a7 (ai (.bl _d)))
 ag)
 ag)
def snB(b c SP a d e f):=
 (af (aJ 4 (aK "Things" "own" b (aa 0) (ae (aa 2) aj)))
 (af (sn2 c)
 (af (aJ 5 (aK "Things" "shape_of" SP (aa 0) (ae (aa 2) aj)))
 (af (sn4 a d)
 (af (dW (fY [6,7]) (sP Bz) (snI e f a))
 ag)))))
theorem Oz(u:cI r)(Z:mM E1)(hS:fL d0)(H:Ps x χ A X)(F:Fz (Ts χ X) x a)(b:J0∈X){a8}:
  ∃b4 b5 j k l aq,snB (aw 3 2 (WA r E1)) (aw 2 2 (Wy r)) (aw 2 2 (Wz r)) (aw 1 1 TJ) E1 (aw 3 3 (SW r)) d0 (P_ χ J0 M4 U5 E6 U8 a8) a=.nx (P_ χ J0 b4 b5 j k l) aq/\Fz (Ts χ X) a aq:=by
 have N:=H.fz F;have nn:=H.nn;have z:=gi nn b;refine bT (S_ u Z N.W z (N.al J0 b).1) λq n e1 g1 K1 _=>?_
 have hi:gp .dict (.ref q) n=.ok (.bl _t) n:=by simp only[gp,tf,Eb,g1];rfl
 have y:=N.aO K1;have C:=y.al J0 b;refine aH (kA (TF (.inl g1))) λa0 l1 K2 g2=>?_
 have N2:=y.aO K2;have Y2:=N2.al J0 b;refine aH (kA (TF Y2.2.2)) λE l2 G g3=>?_
 have f:=N2.aO G;have Y3:=f.al J0 b;refine aH (kA (Z E χ.s χ.r χ.m J0.i A _ f.W.sh Y3.1.wd)) λb0 w4 I g4=>?_
 have Y4:=(f.aO I).al J0 b;refine aH (kA (vA▸pk Y4.2.2)) λc w5 M g5=>?_
 have Y5:=((f.aO I).aO M).al J0 b;have O5:=Y5.2.2
 have O:sP Bz (P_ χ J0 (oR q) (oI J0.i) E6 U8 a8) c=.ok (.Rz J0.o) (c.set J0.o (.dF (cm J0.v))):=by
  unfold sP;rw[show Bz _ c=_ from eQ Y Y (aU Y5.2.1 Y),eE]
  rw[vo O5];rcases O5 with h|h
  .simp only[yQ,h]
  .simp only[yQ,h,set_same h]
 have t:=(Fz.of (K1.trans (K2.trans (G.trans (I.trans M))))).trans (Fz.set (S:=Ts χ X) O5 (Ŭ _ (Ð.mpr ⟨J0,b,Y⟩)));have f6:=zu O5;generalize c.set J0.o _=P at *;have N6:=H.fz (F.trans t)
 refine aP (Nz (A6:=fY [6,7]) (λi ρ d=>ao [] P d/\∃j k l,ρ=P_ χ J0 _ _ j k l) O (λ⟨K,_⟩=>by simp only[du,K.get _ _ f6 (by simp),vA]) (by
  rintro i dd _ d hd ⟨K,j,k,l,rfl⟩;obtain⟨d',Q,rfl⟩:=mV _ 0 i dd hd;obtain⟨w,hw,rfl⟩:=ph Q;rw[Ü]at hw;obtain⟨p,hp,rfl⟩:=È.mp hw;rw[acG];refine bN (Oy u hS (N6.aO K) nn b hp) λc0 e Ky=>⟨_,_,_,Y,e,K.trans Ky,_,_,_,Y⟩) ⟨ao.refl,_,_,_,Y⟩ (by rw[mU];simp;exact fc C.1.le)) λ_ d eL K R=>xe R λj T=>xe T λk U=>xe U λl V=>?_;subst V
 exact⟨_,_,_,_,_,d,(qA (eM Y N.W.ob Y e1)).trans ((q0 (oF (eQ (eM Y y.W.ob Y (SX u y.W z C.1)) (eQ Y Y (aU C.2.1 Y)) Ox) (oF (nT (eP Y hi)) (eQ (eP Y l1) (eP (eQ Y Y (aU Y2.2.1 Y)) l2) (Ow (G.g g2) g3))))).trans ((qA (eM Y f.W.ob Y (SY u f.W z Y3.1))).trans ((q0 (oF (nT (eC Y LG)) (eQ (eM (eF Y f.W.ob) f.W.sh.ob Y w4) (eN (eK (eQ Y Y (aU Y4.2.1 Y)) Y) w5) (nes (M.g g4) g5)))).trans (eL _)))),t.trans (Fz.of K)⟩
def cSn(a b c SP d e f g):=
 (af (cw (m2 (ay .NotEq) (aK "Things" "names" a (aa 0) aj) (mN (bP .list) (ae (aa 1) aj)))
 (af (a7 (ai (.bl _d)))
 ag)
 ag)
 (af (dW (fY [2,3]) (lJ (aa 1)) (snB b c SP d e f g))
 (af (a7 (ai (.bl _t)))
 ag)))
abbrev OA(a b c):=fA (aw 9 2 (cSn (aw 1 1 Zb) (aw 3 2 (WA a b)) (aw 2 2 (Wy a)) (aw 2 2 (Wz a)) (aw 1 1 TJ) b (aw 3 3 (SW a)) c))
theorem LH(C:cI r)(D:mM E1)(E:fL d0)(H:Ps a χ A X)(G:X.length<=100):∃aq,OA r E1 d0 [.ref χ.T,.ref χ.P] a=.ok (.bl _t) aq/\ao [] a aq:=by
 refine aH (kA (TH H.W)) λI K t M=>?_
 have w:=H.aO t;refine aH (kA (zK▸pk w.pd)) λN O c Q=>?_
 have d:=w.aO c
 obtain⟨_,b,e,⟨F,_⟩,a2,f,h,j,k,l,m,rfl⟩:=Nz (u:=[oR χ.T,oR _,_n,_n,_n,_n,_n,_n,_n]) (E2:=lJ (aa 1)) (A6:=fY [2,3]) (q:=(jW X).map λn=>.t [fK n.1,n.2]) (λi R b=>(Fz _ a b/\b[χ.P]?=J _)/\∃a2 f h j k l m,R=[oR _,oR _,a2,f,h,j,k,l,m]) (Lv d.pd) (λ⟨⟨_,o⟩,_⟩=>by simp only[du,o]) (by
  rintro i dd _ b x ⟨⟨F,o⟩,a2,f,h,j,k,l,m,rfl⟩;rw[Ü,jW,Ü]at x;obtain⟨n,U,rfl⟩:=È.mp x;obtain⟨y,V,rfl⟩:=È.mp U;refine xe (Oz C D E H F (Å V)) λb4 p=>xe p λb5 s=>gj s λb6 b7 b8 Z e z=>⟨_,_,_,Y,e,⟨F.trans z,z.at o (by simp)⟩,_,_,_,_,_,_,_,Y⟩) ⟨⟨((Fz.of (t.trans c)).trans (Fz.set (S:=Ts χ X) d.pd (List.mem_cons_self ..))),zu d.pd⟩,_,_,_,_,_,_,_,Y⟩ (by simp[jW];exact fc G)
 exact⟨_,thw (fR ((q0 (eQ (eM Y H.W.ob Y K) (eN Y O) (nes (c.g M) Q))).trans ((e _).trans (qR Y)))),F.mE⟩
noncomputable def lX(C:L)(a:B (L×D)):D:=.t (.str C::a.map λp=>.t [.str p.1,p.2])
theorem FD{a}(h:lX C U1=lX d a):C=d/\U1=a:=by
 simp only[lX,Mir.D.t.injEq,aeW,Mir.D.str.injEq]at h;refine⟨h.1,(abi λx y e=>?_).mp h.2⟩
 grind
def Zc(α:B f')(Z:f'->Prop)(H)(a:B (L×D))(b:B (L×V)):=aE (λp q=>p.1=q.1/\au α Z H p.2 q.2) a b
def iJ(f:L->f'->Prop)(E:XK):ij:=λx _ b Z H=>∃C c,x=lX C c/\∀d a e,f C d->H a=J (.xd e)->Zc b Z H c e->a∉b->¬ Z a->E (.ref d) (J a) H
def i_(a:L->f'->Prop)(F:az):Sp:=λe H Q E=>∃b Z c d,bp a b Z c H/\aE (au b Z H) d e/\bC a (iJ a E) b Z H (F d c) Q
def xC(a:O'->_o SM)(T:aV)(b:B L)(k:Nat)(d:V')(N:B L):Nat->O'->_o SM
 |0,_=>_n
 |n+1,e=>match a e with
  |J c=>J c
  |_n=>Np (kR (xC a T b k d N n)) T b k d N e
theorem zL{X a b T k g N l d}(G:eI X a T k g N)(i:∀st c,d st=J c->jr X a b st c):∀n e st c,xC d T l e g N n st=J c->jr X a b st c
 |0,_,_,_,h=>nomatch h
 |n+1,e,st,c,h=>by
  have B:∀j c,_->jA X a b j c:=λj c q=>i3 (zL (l:=l) G i n e) q
  unfold xC at h;cases f:d st with
  |some m=>
   rw[f]at h;exact Bl h (i _ _ f)
  |none=>
   rw[f]at h;exact zb G B h
theorem cq.toXt{T}(W:cq M N G θ H T b):cq M N G θ H {T with xt:=_t} b:=⟨W.dB,W.mr,W.fn,W.cst,W.met,W.cls,W.fld,W.clo⟩
theorem zM(W:cq M N G θ H Δ b)(V:Δ.xt=_t)(F:vl G d C ω ζ i j0){K}(X:fT l i0 (ah ω)=_t)(hc:kR (xC K Δ N4 60 (ah ω) l 30) (bg ω)=J υ)(hh:∀e A outer s a E,bF (b+2) (A.deeper (Ç C (ah ω) s.heap.objs.size i e))->GoodO (cz (jK M N) M N G θ H l C (ah ω) i e A outer s a E) (aZ θ) Δ b (ah ω) l ->
      ∀k O,K k=J O->jr (cz (jK M N) M N G θ H l C (ah ω) i e A outer s a E) (aZ θ) (iJ (aZ θ) E) k O):
    bt M N G θ H (jK M N) (b+3) i j0 i0 (i_ (aZ θ) (aw l.length i0.length υ)):=by
  refine xe F.ex λoc n=>xe n λod o=>xe o λkV p=>xe p λa0 t=>xe t λpm u=>bj u λan e ct b0 w lk x=>?_;subst w
  have y:=eY X;refine Cm lk x y (λvs a Q E h=>?_) λA outer s a vs Q E P h=>?_
  · refine bj h λz Z D ds S r g=>?_
    rw[r.length];unfold aw at g;split at g
    · omega
    · exact g.elim
  · refine bj h λz Z D ds S r g=>?_
    have R:GoodO (cz (jK M N) M N G θ _ l _ _ i _ A outer s a E) _ Δ b _ l:=
      { scope:=Y,names:=Y,calm:=Y,room:=P.mono (à _ _),dB:=W.dB,fld:=W.fld,cst:=W.cst
        mr:=λd F h=>⟨W.mr d F h⟩,fn:=λd F h=>⟨W.fn d F h⟩,met:=λm c F h=>⟨W.met m c F h⟩,cls:=λc F h=>bN (W.cls c F h) λj h1 h2=>⟨j,h1,⟨h2⟩⟩,clo:=W.clo }
    refine⟨_,i3 (zL ({toGoodO:=R,own:=agO,VC:=λ_ _ _=>.inl Y,tZ:=y.nd,kind:=y.kind,k_:=λq=>by simp_all}) (hh _ A _ s a E P R) 30 60) hc z Z a _ D,z,Z,iq S r,?_⟩
    unfold aw at g;split at g
    · cases q:υ _ D with
      |rt I f=>rwa[q]at g
      |nx T f=>rw[q]at g;exact λσ H' c0 Z' U=>g _ H' _ Z' U.gr U.st (aM Y)
      |bk T f=>rw[q]at g;exact g.elim
      |ct T f=>rw[q]at g;exact g.elim
      |e d f=>rwa[q]at g
      |b=>rwa[q]at g
    · exact g.elim
def fD(C:L):B (L×EM)->B (L×D)->a_->aA->ax D
 |[],a,_,Ω=>.e (lX C a) Ω
 | (f,m)::r,a,c,Ω=>match m c Ω with
  |.ok d b=>fD C r (a++[(f,d)]) c b
  |_=>.b
def dj(C:L)(n:Nat)(d:B (L×EM))(as:AM):SM:=λe f=>cC (as e f) λc a=>if c.length=n then (match fD C d [] (_n::c.map J) a with
 |.e x b=>.e x b
 |_=>.b)else .b
variable{A2:L2.St}{S:f'}{V8:_o f'->B (L×V)->Hp->Prop}{e:Hp}{j:L->f'->Prop}{v:f'->Prop}{w:ij}{z:B f'}{Ξ:VK}
theorem TK(H:bp j z v a e)(A:A2.length=u.length)(K:∀(f:Nat) b,u[f]?=J (J b)->∃c,A2[f]?=J (J c)/\au z v e b c)(M:∀l b c h s r t,bp j h s r t->b9 z v e h s t->au h s t b c->l∉h->¬ s l->bC j w z v e (.e (lX C [(d,b)]) r) Ξ->V8 (J l) [(d,c)] t)(g:bC j w z v e (fD C [(d,p)] [] u a) Ξ):
   qr i S [(d,λA2 N O=>∃m,tO j j8 z v e p u m A2 N O)] _n [] A2 e V8:=by
 replace g:bC j w z v e (match p u a with|.ok b m=>fD C [] [(d,b)] u m|_=>.b) Ξ:=g
 cases q:p u a with
 |b=>rw[q]at g;exact g.elim
 |e E n=>rw[q]at g;exact g.elim
 |ok b n=>
  rw[q]at g;refine⟨a,z,v,⟨H,b9.refl H.has,A,K⟩,?_⟩;rw[q];intro c F k x P y Q l o R T;exact xa (show bp j k x n (upd F l _)/\b9 k x F k x (upd F l _)from y.qH o False) λU I=>M l b c k x n _ U (P.trans I) (y.cE I Q) (λG=>y.has _ G o) (λG=>y.dom _ G o) g
variable{η:B V}
theorem BA(r:aE (au z v e) q η)(g:l.length=q.length+1):(start l (.ref i::η)).length=(_n::q.map J).length/\∀(a:Nat) d,(_n::q.map J)[a]?=J (J d)->∃b,(start l (.ref i::η))[a]?=J (J b)/\au z v e d b:=by
 have h:=r.length;refine⟨by simp[L2.start];omega,λa d c=>?_⟩
 cases a with
 |zero=>cases c
 |succ a=>
  rw[List.getElem?_cons_succ,Ü]at c;obtain⟨j,f,k⟩:=È.mp c;obtain⟨b,m,n⟩:=r.get f;unfold L2.start
  simp_all
variable{B4 P0 y2:f'}{D6:L}{P1 T o:K'}{X5:B Ã}{Z:B p'}{n:p'}{o0:V'}{o3:XK}{o7:wm}{y:iv}{ο:Ä}
theorem xD(D:qu G θ S P0 y2 B4 j0 ω C V1 i0 [o7])(hr:bF (b+2) (ο.deeper (Ç d o0 y.heap.objs.size i ζ)))(hg:Gl (cz (jK M N) M N G θ H l d o0 i ζ ο X5 y e o3) D6)(hm:θ D6=J (.ref S))(r0:j D6 S)(U:mH (cz (jK M N) M N G θ H l d o0 i ζ ο X5 y e o3) j (iJ j o3) (n::Z) Q0)(a0:∀A' ot s' f u E',bF b (A'.deeper (Ç C (ah ω) s'.heap.objs.size y2 (.ref B4)))->ba ((cz dZ M N G θ H (V1::i0) C (ah ω) y2 (.ref B4) A' ot s' u E').k_.mk1 f) j j8 o7.ve p)(b0:D' (n::Z) (Ç d o0 y.heap.objs.size i ζ)=(_d,eval n (Ç d o0 y.heap.objs.size i ζ))::D' Z (Ç d o0 y.heap.objs.size i ζ))(c0:(À T (D' Z (Ç d o0 y.heap.objs.size i ζ))).any (·.1)=_d)(d0:(D6==("__debug__"))=_d):
  jr (cz (jK M N) M N G θ H l d o0 i ζ ο X5 y e o3) j (iJ j o3) (.Raise (J (.Call (.Name D6 o) (n::Z) [] T)) _n P1) (dj D6 i0.length [(o7.fld,p)] Q0):=by
 intro A Z0 E ρ Ω pins s σ O Dn I r;refine cy r λα P q r=>?_
 refine AB
  (Y8:=λV u=>∃X h k F c x,b9 A Z0 E k F u/\bp j k F h u/\aE (au k F u) X V/\X.length=i0.length/\fD D6 [(o7.fld,p)] [] (_n::X.map J) h=.e x c/\∀t a m,b9 A Z0 E a m t->bp j a m c t->iJ j o3 x c a m t)
  (AA:=λV u od fs t=>(∃K,od=J K)/\∃c a m Q,bp j a m c t/\Zc a m t Q fs/\(∀K,od=J K->K∉a/\¬ m K)/\iJ j o3 (lX D6 Q) c a m t) D hr hg hm (U A Z0 E ρ Ω) (λV u fs H' hz=>by obtain⟨⟨K,z⟩,_⟩:=hz;cases z) (λV u hA A' ot s' f E' e0 he=>?_) b0 c0 d0 _ s σ O Dn I ⟨α,P,q,?_⟩
 .refine xe hA λX f0=>xe f0 λh g0=>bu g0 λk F c x g1 s1 h0 l0 e1 h1=>?_
  refine⟨_,PE.ex λh=>a0 A' ot s' f u E' e0 k F u (_n::X.map J) h,?_⟩
  obtain⟨l1,l2⟩:=BA (l:=V1::i0) (i:=f) h0 (by simp[l0])
  refine TK (w:=iJ j o3) (C:=D6) (Ξ:=λ_ _=>False) s1 l1 l2 (λK R v a m p0 t st gr rp n1 n2 g=>⟨Y,⟨K,Y⟩,_,a,m,[(o7.fld,R)],st,.cons ⟨Y,rp⟩ .nil,λ_ z=>by cases z;exact⟨n1,n2⟩,g t a m gr st⟩) ?_
  show bC _ _ _ _ _ (fD D6 [(o7.fld,p)] [] _ _) _
  rw[show fD D6 [(o7.fld,p)] [] _ _=_ from e1]
  exact λt a m g2 s2=>h1 t a m (g1.trans g2) s2
 .unfold dj at r
  cases hq:Q0 ρ Ω with
  |b=>rwa[hq]at r
  |e x h=>rw[hq]at r;exact λu k F g s=>r u k F (q.gr.trans g) s
  |ok xs h=>
   rw[hq]at r;replace r:d_ j _ A Z0 E Dn (if xs.length=i0.length then (match fD D6 _ [] _ h with|.e x c=>.e x c|_=>.b)else .b):=r
   intro V u k F g1 s1 r1;split at r
   rotate_left
   .exact r.elim
   rename_i m0;split at r
   rotate_left
   .exact r.elim
   rename_i x c hu;refine⟨by rwa[r1.length],⟨xs,h,k,F,c,x,q.gr.trans g1,s1,r1,m0,hu,λt a m g2 s2=>r t a m g2 s2⟩,?_⟩
   rintro fs t K ⟨_,t0,a,m,Q,s2,fl,hz,C',u0,z,hh⟩ v0;obtain⟨rfl,rfl⟩:=FD z
   simp_all
def WJ(X)(d:L->f'->Prop)(f)(a:L2.St)(e m):=∀b g h i j,PE X e (λc H Q=>c=a/\tO d f b g h m i j c H Q)
def PSa(X)(f:L->f'->Prop)(g)(a:L2.St)(b:B O')(c):=∀d h i j k,j6 X b (λD e H=>e=a/\PM f g d h i c j k D e H)
def jY(C m:L)(F:az)(d:EM)(as:AM):EM:=λc e=>(d c e).bind λx a=>match pR a x with
 |J (_,f,g)=>if f=C/\g.lookup m=_n then (as c a).bind λh b=>F (x::h) b else .b
 |_n=>.b
variable{c:Cx}{ξ:p'}
theorem BB(M:∀a,j d a->a=i)(f:pG c.K i)(N:Meth c.K i C S)(F:bt c.prog c.w c.K c.mg c.base (jK c.prog c.w) b S j0 l (i_ j r))(O:bF b c.A)(P:Binds c.K j0 l [])(R:h8 c A2 o3)(U:ba c j (iJ j o3) ξ p)(V:mH c j (iJ j o3) (n::Z) Q0){pl}(X:D' (n::Z) c.env=(_d,eval n c.env)::D' Z c.env)(s:(À o (D' Z c.env)).any (·.1)=_d)(ht:eval (.Call (.Attribute ξ C T) (n::Z) [] o) c.env=(do
   let z ←eval ξ c.env
   û T.atName
   let (S,first) ←ô [z] (Ď z C pl)
   ĕ o S first (À o (D' (n::Z) c.env)) (ö o (ø [] c.env)))):
  WJ c j (iJ j o3) A2 (.Call (.Attribute ξ C T) (n::Z) [] o) (jY d C r p Q0):=by
 intro k D E G Ω;refine PE.imp (C4 (U k D E G Ω) f N F O P R (PA.ex λm=>V k D E G m) X s ht) ?_
 rintro σ H Q ⟨rfl,α,h,e,g⟩;refine⟨Y,α,h,e,bC.use g λx m _ v H1 a0 Z1 g1 t I q=>?_⟩
 split at q
 .rename_i u C' fs hk
  split at q
  .rename_i hc
   obtain⟨rfl,hl⟩:=hc;refine bu (gW t I hk) λa b0 dx c0 y d0 _ q1 q2 q3=>?_;subst y;obtain rfl:=M _ q1
   exact⟨a,dx,_,Y,q2,(ed q3).2 hl,_,_,Z1,e.grow g1 t,pH.use q λxs e0 _ vs H2 f0 Z2 g2 s2 r2 k2=>⟨_,Z2,_,_,s2,.cons (t.cE g2 I) r2,k2⟩⟩
  .exact q.elim
 .exact q.elim
variable{B3:f'->Prop}{C7:_o V}{Q1:B f'}{r0:Hp}
theorem cJ.Zd(S:cJ j z v e Q1 B3 a u A2 r0):cJ j z v e Q1 B3 a (u.set b _n) (A2.set b C7) r0:=
 ⟨S.st,S.gr,by rw[Ϻ,Ϻ];exact S.len,λc d h=>by
  by_cases f:b=c
  .rw[ab5]at h
   simp_all
  .rw[ō f]at h ⊢
   exact S.val c d h⟩
noncomputable def JQ(st:O'):_o {r:L×p'×B p' // ∃p b p2,st=.Raise (J (.Call (.Name r.1 p) (r.2.1::r.2.2) [] b)) _n p2}:=match st with
 |.Raise (J (.Call (.Name x _) (a::c) [] _)) _n _=>J ⟨(x,a,c),_,_,_,Y⟩
 |_=>_n
noncomputable def FE(st):=(JQ st).map (·.1)
theorem xE(q:FE ω=J (d,n,Z)):∃p a p2,ω=.Raise (J (.Call (.Name d p) (n::Z) [] a)) _n p2:=by
 obtain⟨⟨_,h⟩,_,e⟩:=È.mp q;cases e;exact h
def LI(T b N a n)(d:B (L×EM))(st):=
 (FE st).bind λc=>(cQ (dH T 60 b N) (c.2.1::c.2.2)).bind λe=>if c.1==a&&AL b a&&!(a==("__debug__"))then J (dj a n d e)else _n
theorem FF(D:qu G θ S P0 y2 B4 j0 ω C V1 i0 [o7])(r:bF (b+2) (ο.deeper (Ç d o0 y.heap.objs.size i ζ)))(k:θ D6=J (.ref S))(c:GoodO (cz (jK M N) M N G θ H l d o0 i ζ ο X5 y e o3) (aZ θ) Δ b o0 l)(g:∀m s n a t u,bF b (m.deeper (Ç C (ah ω) n.heap.objs.size y2 (.ref B4)))->ba ((cz dZ M N G θ H (V1::i0) C (ah ω) y2 (.ref B4) m s n t u).k_.mk1 a) (aZ θ) j8 o7.ve p)(st o)(h:LI Δ o0 l D6 i0.length [(o7.fld,p)] st=J o):jr (cz (jK M N) M N G θ H l d o0 i ζ ο X5 y e o3) (aZ θ) (iJ (aZ θ) o3) st o:=by
 refine mL h λq v1 h=>mL h λE w h=>IS h λj h=>Bl h ?_
 refine xe (xE v1) λ_ z=>xe z λ_ z=>xe z λ_ a=>?_
 rw[a,eq_of_beq (bL (bL j))];refine xa (bB (λa p q=>ir 60 _ _ l a p c q) w) λx f=>?_
 exact xD D r (c.gl (bR (bL j))) k k (x _) g (bw (f _ (.head _))) (bJ λz A=>f z (.tail _ A)) (by simpa using bR j)
theorem JR(W:cq M N G θ H Δ b)(F:tU G d C ω i j0)(t:fT l i0 (ah ω)=_t)(y:∀f A outer s a E,eI (cz dZ M N G θ H l C (ah ω) i f A outer s a E).k_ (aZ θ) Δ b (ah ω) l->jA (cz dZ M N G θ H l C (ah ω) i f A outer s a E).k_ (aZ θ) j8 (bg ω) υ):
    bt M N G θ H dZ (b+1) i j0 i0 (bE (aZ θ) (aw l.length i0.length υ)):=by
  refine F.ok (eY t) (λz a Q E h=>?_) λf A outer s a z Q E D h=>?_
  · refine bj h λn Z o I S r g=>?_
    rw[r.length];unfold aw at g;split at g
    · omega
    · exact g.elim
  · refine bj h λn Z o I S r g=>?_
    have u:=eY t
    have k:eI (cz dZ M N G θ _ l _ (ah ω) i _ A outer s a E).k_ _ Δ b _ l:=
      { scope:=Y,names:=Y,calm:=Y,room:=D,dB:=W.dB,own:=ae4,VC:=λ_ _ _=>.inl Y,tZ:=u.nd,kind:=u.kind,k_:=λ_ _ _ h=>h,fld:=W.fld,cst:=W.cst
        mr:=λd F h=>⟨W.mr d F h⟩,fn:=λd F h=>⟨W.fn d F h⟩,met:=λm c F h=>⟨W.met m c F h⟩,cls:=λc F h=>bN (W.cls c F h) λj K O=>⟨j,K,⟨O⟩⟩,clo:=W.clo }
    refine⟨_,y _ A _ s a E k n Z a _ o,n,Z,iq S r,?_⟩;unfold aw at g;split at g
    · cases q:υ _ o with
      |rt p e=>rwa[q]at g
      |nx w e=>rw[q]at g;exact λU P R T x=>g _ P _ T x.gr x.st (aM Y)
      |bk w e=>rw[q]at g;exact g.elim
      |ct w e=>rw[q]at g;exact g.elim
      |e d e=>rwa[q]at g
      |b=>rwa[q]at g
    · exact g.elim
noncomputable def Qa:(l:B D)->_o {b:B (L×D)//l=b.map λp=>.t [.str p.1,p.2]}
 |[]=>J ⟨[],Y⟩
 |.t [.str a,d]::t=>(Qa t).map λr=>⟨(a,d)::r.1,congrArg _ r.2⟩
 |_=>_n
theorem FG:∀{a},Qa (a.map λp=>.t [.str p.1,p.2])=J ⟨a,Y⟩
 |[]=>Y
 |p::t=>congrArg (λx=>Option.map _ x) (FG (a:=t))
theorem BC(F:bt c.prog c.w c.K c.mg c.base (jK c.prog c.w) b i j0 l (i_ j r))(k:bF b c.A)(m:Gl c d)(p:c.mg d=J (.ref i))(q:Î c.K (.ref i)=_t)(s:Binds c.K j0 l [])(t:h8 c A2 o3)(e:(d==("__debug__"))=_d)(u:D' (n::Z) c.env=(_d,eval n c.env)::D' Z c.env)(f:(À T (D' Z c.env)).any (·.1)=_d)(x:mH c j (iJ j o3) (n::Z) Q0):
  WJ c j (iJ j o3) A2 (.Call (.Name d o) (n::Z) [] T) (mN r Q0):=by
 intro h y z C D;refine PE.imp (CL F k m p q s t (x h y z C D) e u f) ?_;rintro U H Q ⟨rfl,E,a,S,g⟩;exact⟨Y,E,a,S,pH.use g λG I _ V X M N g1 O P R=>⟨_,N,_,G,O,P,R⟩⟩
theorem JS(h:WJ c j w A2 n p)(b:ì n _n o.line c.env=pure _d):PSa c j w A2 [.Expr n o] (cA p):=by
 intro a e g i k;refine j6.imp (GK (ya (h a e g i k) b)) ?_;rintro E x H ⟨rfl,l,Z,S,f⟩;exact⟨Y,l,Z,S,d_.use S f λd m v q r s _ y t z u=>u _ q _ s t⟩
variable{N7:Ends}
theorem OB{m r}(S:cJ j z v e Q1 B3 a u A2 r0)(n:∀x a,r≠.e x a)(f:d_ j w z v e N7 r):d_ j m Q1 B3 r0 N7 r:=by
 cases r with
 |rt d g=>exact λb i c k o p q=>f b i c k (S.gr.trans o) p q
 |b=>exact f
 |e x g=>exact absurd Y (n x g)
 |_=>exact λl i c k h=>f l i c k ⟨h.st,S.gr.trans h.gr,h.len,h.val⟩
noncomputable def OC(e:p'):_o {r:p'×L // ∃p,e=.Attribute r.1 r.2 p}:=match e with
 |.Attribute o f _=>J ⟨(o,f),_,Y⟩
 |_=>_n
set_option backward.match.sparseCases false in
noncomputable def TL(st:O'):_o {r:L×p' // ∃p a,st=.Assign [.Name r.1 p] r.2 a}:=match st with
 |.Assign [.Name x _] v _=>J ⟨(x,v),_,_,Y⟩
 |_=>_n
noncomputable def TM(st):=(TL st).map (·.1)
theorem FH(q:TM ω=J (d,n)):∃p a,ω=.Assign [.Name d p] n a:=by
 obtain⟨⟨_,h⟩,_,e⟩:=È.mp q;cases e;exact h
theorem ba.of(h:∀a,WJ c j w a n p):ba c j w n p:=λd e f g i pins s b H Q I z=>h b _ e f g i _ s b H Q I ⟨Y,z⟩
theorem OD(h:Passes (jK c.prog c.w) c o3):h8 c A2 o3:=λpins H s e b I a=>h _ A2 H s e b I a
theorem OE(F:bt M N G θ H (jK M N) b i j0 l (i_ j r)):bt M N G θ H dZ b i j0 l (bE j r):=by
 have o:∀{k:B V}{c:Hp}{Q:VK}{E:XK},bE j r k c Q E->i_ j r k c Q λ_ _ _=>False:=λ{k c Q E}  u =>bj u λw Z p t S f g=>⟨w,Z,p,t,S,f,by
  cases q:r t p with
  |ok d n=>rwa[q]at g
  |e x n=>rw[q]at g;exact λy C D a m=>(g y _ D a m).elim
  |b=>rwa[q]at g⟩
 refine⟨λk c Q E h=>F.len k c Q _ (o h),λA outer s c args I k Q E K O P R h=>Ĕ (F.run A _ s c _ I k Q _ K O P R (o h)) λf T z=>?_⟩
 cases f with
 |error e=>refine bj z λ_ _ _ _ _ _ z=>?_;exact z.elim
 |ok fl=>cases fl<;>exact z
theorem jZ{α:Type}{a b}{c:α}(h:a.or b=J c):a=J c\/b=J c:=by
 cases a with
 |none=>exact .inr h
 |some x=>exact .inl h
noncomputable def Ze(e:p'):_o {r:p'×L×K'×p'×B p'×K' // e=.Call (.Attribute r.1 r.2.1 r.2.2.1) (r.2.2.2.1::r.2.2.2.2.1) [] r.2.2.2.2.2}:=match e with
 |.Call (.Attribute o m b) (a::c) [] p=>J ⟨(o,m,b,a,c,p),Y⟩
 |_=>_n
set_option backward.match.sparseCases false in
noncomputable def Zf(e:p'):_o {r:p'×p' // ∃p,e=.Subscript r.1 r.2 p}:=match e with
 |.Subscript o i _=>J ⟨(o,i),_,Y⟩
 |_=>_n
set_option backward.match.sparseCases false in
noncomputable def Zg(st:O'):_o {r:p' // ∃p,st=.Expr r p}:=match st with
 |.Expr e _=>J ⟨e,_,Y⟩
 |_=>_n
set_option backward.match.sparseCases false in
noncomputable def Zh(st:O'):_o {r:p' // ∃p,st=.Return (J r) p}:=match st with
 |.Return (J e) _=>J ⟨e,_,Y⟩
 |_=>_n
def OF(T a N c b G e):=
 (Ze e).bind λq=>(dH T 60 a N q.1.1).bind λd=>(cQ (dH T 60 a N) (q.1.2.2.2.1::q.1.2.2.2.2.1)).bind λf=>if q.1.2.1==b&&dR q.1.1&&(q.1.2.2.1.endLine==q.1.2.2.2.2.2.line)&&decide (q.1.2.2.2.2.1.length<19)then J (jY c b G d f)else _n
def OG(T a N b c G e):=
 (OC e).bind λq=>if dR q.1.1 then o2 (T.fld.lookup q.1.2) (OF T a N b c G q.1.1) λd m=>m1 (bc d q.1.2) m else _n
def TN(T a N b c G e):=
 (Zf e).bind λq=>if isSlice q.1.2 then _n else o2 (OG T a N b c G q.1.1) (dH T 60 a N q.1.2) (m2 aR)
def TQ(T a N b c G e):=((OF T a N b c G e).or (OG T a N b c G e)).or (TN T a N b c G e)
def hkM(T a N b c G st):=
 (((Zg st).bind λq=>if lA q.1 then _n else (TQ T a N b c G q.1).map cA).or ((Zh st).bind λq=>(TQ T a N b c G q.1).map a7)).or
 ((TM st).bind λq=>if lA q.2||!(a.names.lookup q.1==J .local)then _n else o2 (oE a N q.1) (TQ T a N b c G q.2) aJ)
theorem OH(G:GoodO c j Δ b o0 l)(D:∀a,j d a->a=S)(E:pG c.K S)(M:Meth c.K S C i)(F:bt c.prog c.w c.K c.mg c.base (jK c.prog c.w) b i j0 i0 (i_ j r))(H:Binds c.K j0 i0 [])(k:Passes (jK c.prog c.w) c o3)(h:TQ Δ o0 l d C r n=J p):ba c j (iJ j o3) n p:=by
 have u:∀{n p},OF Δ o0 l d C r n=J p->ba c j (iJ j o3) n p:=λ{n p} h=>by
  refine mL h λq _ h=>mL h λU I h=>mL h λV N h=>IS h λe h=>Bl h ?_
  have x:=bL e;have y:=bL x;rw[q.2,eq_of_beq (bL y)];exact xa (bB (λn p q=>ir 60 c o0 l n p G q) N) λO f=>ba.of λP=>BB (T:=q.1.2.2.1) D E M F G.room H (OD k) ((ir 60 c o0 l _ _ G I).1 _) (O _) (bw (f _ (.head _))) (bJ λn h=>f n (.tail _ h)) (sV (cH (bR y)) f (ť (of_decide_eq_true (bR e))) (bR x))
 have A:∀{n p},OG Δ o0 l d C r n=J p->ba c j _ n p:=λ{n p} h=>by
  refine mL h λq _ h=>IS h λe h=>BQ h λQ p m s=>?_
  obtain⟨q,g,z⟩:=q;subst z;exact yU (G.fld _ Q m) (cH e) (u s)
 have R:∀{n p},TN Δ o0 l d C r n=J p->ba c j _ n p:=λ{n p} h=>by
  refine mL h λq _ h=>Gz h λe h=>BQ h λp X m s=>?_
  obtain⟨q,g,z⟩:=q;subst z;exact sM (by have:=G.hu;omega) (λo t=>by revert e;cases q.2<;>first | (intro;rfl) | (exact λe=>nomatch e)) (A m) ((ir 60 c o0 l _ _ G s).1 _)
 exact(jZ h).elim (λh=>(jZ h).elim u A) R
theorem OI(G:GoodO c j Δ b o0 l)(u:c.N.Nodup)(y:∀a,j d a->a=S)(A:pG c.K S)(M:Meth c.K S C i)(F:bt c.prog c.w c.K c.mg c.base (jK c.prog c.w) b i j0 i0 (i_ j r))(D:Binds c.K j0 i0 [])(n:Passes (jK c.prog c.w) c o3)(st f)(h:hkM Δ o0 l d C r st=J f):jr c j (iJ j o3) st f:=by
 have t:∀{e m},TQ Δ o0 l d C r e=J m->ba c j _ e m:=OH G y A M F D n;refine(jZ h).elim (λh=>(jZ h).elim (λh=>?_) λh=>?_) λh=>?_
 .refine mL h λq _ h=>Gz h λg h=>Ng h λm k=>?_
  obtain⟨e,p,z⟩:=q;subst z;exact yS (o_ g) (t k)
 .refine mL h λq _ h=>Ng h λm k=>?_
  obtain⟨e,p,z⟩:=q;subst z;exact eg (t k)
 .refine mL h λq v1 h=>Gz h λg h=>BQ h λo m E k=>?_
  obtain⟨x,e⟩:=q;obtain⟨O,H,rfl⟩:=FH v1;obtain⟨g,I⟩:=ae0.mp g;obtain⟨P,_⟩:=sF E;have s:c.env.scope.names.lookup x=J .local:=by rw[G.scope];simpa using I
  exact f_ u (by rwa[G.names]) (.inl s) (.inr s) (o_ g) (t k)
noncomputable def Qb(C:L):Str:=if C="TooMany" then "most" else if C="NoOwn" then "word" else "name"
def xF(p:L×D):=lX p.1 [(Qb p.1,p.2)]
variable{B1:B (L×EM)}
theorem rz(b:p u a=.ok h x)(c:fD C B1 [] [_n,J h] x=.e ε F3):dj C 1 B1 (ae p aj) u a=.e ε F3:=by
 unfold dj
 simp_all
def FI(C)(c:B (L×EM)):=∀b d,(∃x,d=.str x)\/(∃i,d=.int i)->∃a,fD C c [] [_n,J d] b=.e (xF (C,d)) a/\ao [] b a
theorem eX(c:p u a=.ok (.ref b) x)(f:x[b]?=J (.ins C U1))(g:Q0 u x=.ok q F3)(e:r (.ref b::q) F3=X1)(h:autoParam (U1.lookup d=none) V_):jY C d r p Q0 u a=X1:=by
 unfold jY;rw[c,eE,kU f];simp only[h,and_self,if_true,g];exact e
def TR(a)(b:B (L×EM)):=
 (af (cw (m2 (ay .NotIn) (aa 1) (aK "House" "kinds" a (aa 0) aj))
 (af (dj "NoKind" 1 b (ae (aa 1) aj))
 ag)
 ag)
 ag)
def TU(c:az):=∀b h E L P n,dc P b h E L->n∉nms E->∃a,c [.ref h,.str n] b=.e (xF ("NoKind",.str n)) a/\ao [] b a
theorem OJ(b:Fg r)(c:FI "NoKind" B1):TU (aw 2 2 (TR r B1)):=by
 intro e h E L P n H f;obtain⟨k,g,i,j,l,_⟩:=b e h E L P H;obtain⟨_,_,_,_,m,_⟩:=H;have a:=nv (d:=n) j;rw[decide_eq_false f]at a;obtain⟨o,e2,p⟩:=c _ (.str n) (by simp)
 exact⟨_,fX ((qT (eQ Y (eM Y m Y i) a)).trans (qY (qY (rz Y e2)))),l.trans p⟩
def OK(a:B (L×EM)):=
 (af (cw (m2 (ay .NotIn) (aa 1) (m1 (bc ["Things"] "made") (aa 0)))
 (af (dj "NoThing" 1 a (ae (aa 1) aj))
 ag)
 ag)
 (af (a7 (m2 aR (m1 (bc ["Things"] "made") (aa 0)) (aa 1)))
 ag))
def WK(e:az):=∀c T t s r m d a L n,Tn c T t s r m d a L->aN a (.inr n)=_n->∃b,e [.ref T,.str n] c=.e (xF ("NoThing",.str n)) b/\ao [] c b
theorem OL(b:FI "NoThing" B1):WK (aw 2 2 (OK B1)):=by
 intro c T t s r m d e L n W f;have a:=kY (d:=n) (.inl W.dk);rw[f]at a;obtain⟨g,e2,h⟩:=b c (.str n) (by simp)
 exact⟨_,fX ((qT (eQ Y (eF Y W.ob) a)).trans (qY (qY (rz Y e2)))),h⟩
theorem TV:cI (aw 2 2 (OK B1)):=by
 intro f T t s r m d e L n c W a;have b:=kY (d:=n) (.inl W.dk);rw[a]at b;exact fR ((q0 (eQ Y (eF Y W.ob) b)).trans (qR (eQ (eF Y W.ob) Y (iF (.inl W.dk) a))))
abbrev GA(a):=jY "Things" "thing" a (aa 0) (ae (aa 1) aj)
theorem TX(W:Tn a b m P Θ V0 A1 U A)(c:u[0]?=J (oR b))(d:u[1]?=J (J h))(e:r [.ref b,h] a=X1):GA r u a=X1:=
 eX (by simp_all) W.ob (by simp_all) e
def BD(a b c d)(fN fM:B (L×EM)):=
 (af (aJ 4 (GA b))
 (af (cw (dz (mN (aQ a) (ae (aa 2) aj)))
 (af (dj "NoName" 1 fN (ae (aa 2) aj))
 ag)
 ag)
 (af (aJ 5 (aK "Shapes" "slot_of" c (m1 (bc ["Things"] "shapes") (aa 0)) (ae (m1 (bc ["Thing"] "shape") (aa 4)) (ae (aa 2) aj))))
 (af (cw (m2 (ay .IsNot) (aa 5) (ai .n))
 (af (dY (m1 (bc ["Thing"] "slots") (aa 4)) (aa 5) (aa 3))
 (af uT
 ag))
 ag)
 (af (cw (m2 (ay .GtE) (mN (bP .len) (ae (m1 (bc ["Thing"] "slots") (aa 4)) aj)) (ai (.int 12)))
 (af (dj "TooMany" 1 fM (ae (ai (.int 12)) aj))
 ag)
 ag)
 (af (cx ["Thing"] "shape" (aa 4) (aK "Shapes" "grown" d (m1 (bc ["Things"] "shapes") (aa 0)) (ae (m1 (bc ["Thing"] "shape") (aa 4)) (ae (aa 2) aj))))
 (af (cA (c6 pI dQ (m1 (bc ["Thing"] "slots") (aa 4)) (ae (aa 3) aj)))
 ag)))))))
def FJ(a b c)(fW:B (L×EM)):=
 (af (aJ 3 (GA a))
 (af (aJ 4 (aK "Shapes" "slot_of" b (m1 (bc ["Things"] "shapes") (aa 0)) (ae (m1 (bc ["Thing"] "shape") (aa 3)) (ae (aa 2) aj))))
 (af (cw (m2 (ay .Is) (aa 4) (ai .n))
 (af (dj "NoOwn" 1 fW (ae (aa 2) aj))
 ag)
 ag)
 (af (cx ["Thing"] "shape" (aa 3) (aK "Shapes" "without" c (m1 (bc ["Things"] "shapes") (aa 0)) (ae (m1 (bc ["Thing"] "shape") (aa 3)) (ae (aa 2) aj))))
 (af (cA (fx (c6 pI il (m1 (bc ["Thing"] "slots") (aa 3)) (ae (aa 4) aj)) (c6 wV oW (m1 (bc ["Thing"] "slots") (aa 3)) (ae (aa 4) aj))))
 ag)))))
abbrev ckE(a):=(cA (jY "House" "check_kind" a (m1 (bc ["Town"] "house") (m1 (bc ["Things"] "town") (aa 0))) (ae (aa 2) aj)))
def FK(a b):=
 (af (aJ 3 (GA a))
 (af (ckE b)
 (af bV
 ag)))
def xG(a b)(fN fM:B (L×EM)):=
 (af (cw (dz (mN (aQ a) (ae (aa 1) aj)))
 (af (dj "NoName" 1 fN (ae (aa 1) aj))
 ag)
 ag)
 (af (cw (m2 (ay .In) (aa 1) (m1 (bc ["Things"] "made") (aa 0)))
 (af (dj "Twice" 1 fN (ae (aa 1) aj))
 ag)
 ag)
 (af (cw (m2 (ay .GtE) (mN (bP .len) (ae (m1 (bc ["Things"] "made") (aa 0)) aj)) (ai (.int 40)))
 (af (dj "TooMany" 1 fM (ae (ai (.int 40)) aj))
 ag)
 ag)
 (af (ckE b)
 (af bV
 ag)))))
def JT(a):=(af (cA (GA a)) (af bV ag))
def JU(a):=(af (a7 (m1 (bc ["Thing"] "kind") (GA a))) ag)
def JV(a):=(af (a7 (m1 (bc ["Thing"] "shape") (GA a))) ag)
def JW(a):=(af (a7 (m2 aR (m1 (bc ["Thing"] "slots") (GA a)) (aa 2))) ag)
def JX(a):=(af (aJ 2 (GA a)) (af bV ag))
theorem aX(c:p u a=.e h x):af (aJ b p) υ u a=.e h x:=by
 simp_all
theorem rX(b:p u a=.e h x):af (a7 p) υ u a=.e h x:=by
 simp_all
variable{i7:D->aA->ax D}
theorem Zi(b:p u a=.e h x):m1 i7 p u a=.e h x:=by
 simp_all
theorem FL(k:WK r)(W:Tn a b m P Θ V0 A1 U A)(l:aN U (.inr d)=_n):∃aq,ao [] a aq /\
  (∀{n h o fN fM g i},aw 6 4 (BD n r h o fN fM) [.ref b,.str d,g,i] a=.e (xF ("NoThing",.str d)) aq)/\(∀{h p fW g},aw 5 3 (FJ r h p fW) [.ref b,.str d,g] a=.e (xF ("NoThing",.str d)) aq)/\(∀{q g},aw 4 3 (FK r q) [.ref b,.str d,g] a=.e (xF ("NoThing",.str d)) aq) /\
  aw 2 2 (JT r) [.ref b,.str d] a=.e (xF ("NoThing",.str d)) aq/\aw 2 2 (JU r) [.ref b,.str d] a=.e (xF ("NoThing",.str d)) aq/\aw 2 2 (JV r) [.ref b,.str d] a=.e (xF ("NoThing",.str d)) aq/\(∀{i},aw 3 3 (JW r) [.ref b,.str d,i] a=.e (xF ("NoThing",.str d)) aq)/\aw 3 2 (JX r) [.ref b,.str d] a=.e (xF ("NoThing",.str d)) aq:=by
 obtain⟨aq,e,K⟩:=k _ _ _ _ _ _ _ _ _ _ W l;have z:∀{j:a_},j[0]?=J _->j[1]?=J _->GA r j a=.e _ _:=λc f=>TX W c f e
 exact⟨_,K,fX (aX (z Y Y)),fX (aX (z Y Y)),fX (aX (z Y Y)),fX (qX (z Y Y)),fX (rX (Zi (z Y Y))),fX (rX (Zi (z Y Y))),fX (rX (by unfold m2;rw[Zi (z Y Y)];rfl)),fX (aX (z Y Y))⟩
theorem nI(e:r q a=.ok h x):fA r q a=.ok h (dS a x):=by unfold fA;rw[e]
def xH(K:ao [] a x):=lU K.len λk c h=>.inl (K.g h)
def Zj(O):=cB (mN (aQ O) (ae (aa 0) (ae (m2 (bb .Add) (aa 1) (ai (.int 1))) aj))) _t (ai .n) (cP (aa 0)) 0 [1]
def Zk(O):=cB (mN gm (ae (aa 0) (ae (mN (aQ O) (ae (aa 1) (ae (m2 (bb .Add) (aa 2) (ai (.int 1))) aj))) aj))) _t (ai .n) (lJ (aa 0)) 2 [1]
def pV(O):=
 (af (cw (m2 (ay .Eq) (aa 1) (ai (.int 8)))
 (af (a7 (aa 0))
 ag)
 ag)
 (af (cw (m1 (gp .list) (aa 0))
 (af (a7 (Zj O))
 ag)
 ag)
 (af (cw (m1 (gp .tuple) (aa 0))
 (af (a7 (mN (bP .tuple) (ae (Zj O) aj)))
 ag)
 ag)
 (af (cw (m1 (gp .dict) (aa 0))
 (af (a7 (mN kM (ae (Zk O) aj)))
 ag)
 ag)
 (af (a7 (aa 0))
 ag)))))
def zO(d:D):=(∃x,d=.str x)\/(∃i,d=.int i)\/d=.n\/∃b,d=.bl b
theorem oc0(b:zO h):aw 2 2 (pV r) [h,.int 0] a=.ok h a:=by
 rcases b with ⟨_,rfl⟩|⟨_,rfl⟩|rfl|⟨_,rfl⟩<;>rfl
theorem oc1(b:zO h):aw 2 2 (pV r) [h,.int 1] a=.ok h a:=by
 rcases b with ⟨_,rfl⟩|⟨_,rfl⟩|rfl|⟨_,rfl⟩<;>rfl
theorem FN(c:srcOf a h=.ok (.seq h) a)(e:du (.seq h) a=J q)(f:∀d∈q,zO d)(g:q.length<=1000):Zj (aw 2 2 (pV r)) [J h,J (.int 0)] a=.ok (.ref a.length) (a++[.l q]):=by
 have:=dy (u:=[J h,J (.int 0)]) (p:=mN (aQ (aw 2 2 (pV r))) (ae (aa 0) (ae (m2 _ (aa 1) (ai (.int 1))) aj))) (ς:=ai .n) (E:=_t) (π:=[1]) (E2:=cP (aa 0)) c e (λd _=>Y) (λd b _=>eC (eK Y (eK (eQ Y Y Bv) Y)) (oc1 (f d b))) (fc g)
 rwa[Ĥ.mpr (by simp),acI]at this
variable{D4:Ty}
theorem zP(h:a[b]?=J (.l q)):gp D4 (.ref b) a=.ok (.bl (D4==.list)) a:=by
 unfold gp;rw[tf];simp only[Eb,h];rfl
theorem tE(h:a[b]?=J (.dK U)):gp D4 (.ref b) a=.ok (.bl (D4==.dict)) a:=by
 unfold gp;rw[tf];simp only[Eb,h];rfl
abbrev Qc(O):=fA (aw 2 2 (pV (aw 2 2 (pV O))))
theorem Zl(b:zO h):∃aq,Qc r [h,.int 0] a=.ok h aq/\ao [] a aq:=⟨_,nI (oc0 b),xH ao.refl⟩
theorem ocL(h:a[b]?=J (.l q))(f:∀d∈q,zO d)(g:q.length<=1000):∃c aq,Qc r [.ref b,.int 0] a=.ok (.ref c) aq/\aq[c]?=J (.l q)/\ao [] a aq:=by
 have e:=FN (r:=r) (g_ (by rw[br,a9 h])) (by rw[e_,br,a9 h]) f g
 exact⟨_,_,nI (fR ((q0 (eQ Y Y Y)).trans ((qT (eP Y (zP h))).trans (qB (qR e))))),(pw (R' _)).trans aG,xH ao.app⟩
theorem ocT(b:∀d∈q,zO d)(c:q.length<=1000):∃aq,Qc r [.t q,.int 0] a=.ok (.t q) aq/\ao [] a aq:=by
 have e:bP .tuple [.ref a.length] (a++[Cell.l q])=.ok (.t q) (a++[.l q]):=by
  show jO [.ref _] _=_
  simp only[jO,br,a9 aG]
 exact⟨_,nI (fR ((q0 (eQ Y Y Y)).trans ((q0 (eP Y (by simp))).trans ((qT (eP Y (show gp _ _ a=.ok _ a from Y))).trans (qB (qR (eN (eK (FN (r:=r) (a:=a) (h:=.t q) Y Y b c) Y) e))))))),xH ao.app⟩
theorem Zm(h:a[b]?=J (.dK [])):∃q aq,Qc r [.ref b,.int 0] a=.ok (.ref q) aq/\aq[q]?=J (.dK [])/\ao [] a aq:=by
 have i:lJ (aa 0) [J (.ref b),J (.int 0)] a=.ok _ _:=Lv (.inl h);have f:=zu (.inl h);have l:(a.set b (.dF [])).length=a.length:=by simp
 have e:Zk (aw 2 2 (pV r)) [J (.ref b),J (.int 0)] a=.ok (.ref a.length) (a.set b (.dF [])++[.l []]):=by
  unfold Zk cB;rw[i];dsimp only;have m:du (.items b) (a.set b (.dF []))=J []:=by simp only[du,f];rfl
  rw[show fuel=fuel - 1+1 from Y,vM]
  simp_all
 have j:kM [.ref a.length] (a.set b (.dF [])++[Cell.l []])=.ok (.ref (a.length+1)) (a.set b (.dF [])++[.l [],.dK []]):=by
  have g:(a.set b (.dF [])++[Cell.l []])[a.length]?=J (.l []):=by simp
  show la _ _=_
  simp only[qM,a9 g]
  simp_all
 refine⟨_,_,nI (fR ((q0 (eQ Y Y Y)).trans ((q0 (eP Y (tE h))).trans ((q0 (eP Y (tE h))).trans ((qT (eP Y (tE h))).trans (qB (qR (eN (eK e Y) j)))))))),?_,lU (by simp) λk c d=>?_⟩
 .rw[pw (Ā _)]
  simp
 .by_cases z:k=b
  .subst z
   rw[h]at d;cases d;exact .inr ⟨[],Y,nr f⟩
  .exact .inl (nr (iu d z))
def JY(b d c):=∀w a,ao [] c a->ay .Eq (.t [.str w,b]) (.t [.str w,d]) a=.ok (.bl _t) a
variable{X4:D}
theorem OM{b}(c:et a 8 h=J X4)(d:et a 8 ε=J b)(o:(aI 8 X4&&aI 8 b)=_t):ay .Eq h ε a=.ok (.bl (d8 X4 b)) a:=by
 simp_all
theorem nJ(b:zO h):JY h h a:=λw c _=>by
 rcases b with ⟨_,rfl⟩|⟨_,rfl⟩|rfl|⟨_,rfl⟩
 all_goals
  refine(OM Y Y Y).trans ?_;rw[oy 8 _ Y]
theorem JZ(h:a[b]?=J (.l [.str d]))(e:a[m]?=J (.l [.str d])):JY (.ref m) (.ref b) a:=λw c K=>by
 have r:∀{i},c[i]?=J (.l [.str d])->et c 8 (.t [.str w,.ref i])=J _:=λ{i} f=>by
  simp only[et,bq,f];rfl
 refine(OM (r (K.g e)) (r (K.g h)) Y).trans ?_
 simp_all
theorem J1:JY (.t [.str d]) (.t [.str d]) a:=λw b _=>by
 refine(OM Y Y Y).trans ?_
 simp_all
theorem ON(h:a[b]?=J (.dK []))(e:a[m]?=J (.dK [])):JY (.ref m) (.ref b) a:=λw c K=>by
 have r:∀{i},c[i]?=J (.dK [])->et c 8 (.t [.str w,.ref i])=_n/\PL c (.t [.str w,.ref i])=J w:=λ{i} d=>by
  refine⟨by simp only[et,bq,d];rfl,by simp only[PL,sJ,d]⟩
 obtain⟨a1,a2⟩:=r (K.g e);obtain⟨j,f⟩:=r (K.g h);rw[Jl,jx,a1]
 show la .b _=_
 simp[wL,a2,f]
end Mir
namespace Mir
open PySem PySem.Spec PyProof.Rows L2
structure LJ(K:G')(C:f')(x qual:L)(st:O')(f:f')(fd:Â):Prop where
 me:Meth K C x f
 fn:tU K x qual st f fd
variable{C d:L}{C6:Array (_o g')}{G:G'}{L5 V6:_o f'}{R7 S6 U3 u7 v7 ζ:g'}{S i:f'}{ω:O'}
theorem FO(a:ç G (.ref i) d=J (J (.ref S)))(l:G.lookup S=J ⟨ζ,L5,.func (í d C (cR ω) (bg ω) (ah ω) .none U3 S6 u7 V6 v7 R7),C6⟩)(c:Ĭ G v7 C=_t)(k:Î G (.ref S)=_t)(b:ϧ G (.ref S)=_t):LJ G i d C ω S (í d C (cR ω) (bg ω) (ah ω) .none U3 S6 u7 V6 v7 R7):=⟨⟨a,b,k⟩,wa l c k⟩
variable [iT]
variable{j0:Â}
theorem my(F:tU G d C ω i j0):vl G d C ω .none i j0:=⟨F.ex,F.kp⟩
abbrev dG(K C x qual st):=∃f a,LJ K C x qual st f a
abbrev dD(K x st):=∃f a,vi K x st f a
structure zQ(K:G')(C:L)(a:f'):Prop where
 ns:ò K Ï C=J (J (.ref a))
 pg:abC K a ada=_t
 hd:Ľ K a=_t
 po:abv K a=_t
 sa:ç K (.ref a) "__setattr__"=J (J (.builtin "object.__setattr__"))
 ma:abz K a=_t
 kc:Î K (.ref a)=_t
theorem zQ.cl(c:zQ G C i):pG G i:=⟨c.pg,c.hd,c.po,c.sa⟩
variable{B2:Type}
theorem u1{P:B B2->Prop}(a)(b:a.length=1)(h:∀x,P [x]):P a:=by
 cases a with
 |nil=>cases b
 |cons x a=>
  cases a with
  |nil=>exact h x
  |cons _ _=>cases b
theorem u2{P:B B2->Prop}(a)(b:a.length=2)(h:∀x y,P [x,y]):P a:=by
 cases a with
 |nil=>cases b
 |cons x a=>exact u1 (P:=λa=>P (x::a)) a (Ϝ b) (h x)
theorem u3{P:B B2->Prop}(a)(b:a.length=3)(h:∀x y z,P [x,y,z]):P a:=by
 cases a with
 |nil=>cases b
 |cons x a=>exact u2 (P:=λa=>P (x::a)) a (Ϝ b) (h x)
theorem u4{P:B B2->Prop}(a)(b:a.length=4)(h:∀x y z w,P [x,y,z,w]):P a:=by
 cases a with
 |nil=>cases b
 |cons x a=>exact u3 (P:=λa=>P (x::a)) a (Ϝ b) (h x)
theorem u5{P:B B2->Prop}(a)(b:a.length=5)(h:∀x y z w v,P [x,y,z,w,v]):P a:=by
 cases a with
 |nil=>cases b
 |cons x a=>exact u4 (P:=λa=>P (x::a)) a (Ϝ b) (h x)
variable{p7:g'->g'->g'->_o f'->g'->g'->B g'->Prop}
def TY(h:∀a b c d e f x,p7 a b c d e f [x]):=λa b c d e f g i=>u1 g i (h a b c d e f)
def WL(h:∀a b c d e f x y,p7 a b c d e f [x,y]):=λa b c d e f g i=>u2 g i (h a b c d e f)
def Zn(h:∀a b c d e f x y z,p7 a b c d e f [x,y,z]):=λa b c d e f g i=>u3 g i (h a b c d e f)
def WM(h:∀a b c d e f x y z w,p7 a b c d e f [x,y,z,w]):=λa b c d e f g i=>u4 g i (h a b c d e f)
variable{A0:B g'}{Q0:AM}{T o:K'}{Z:B p'}{b:Nat}{c:Cx}{j:L->f'->Prop}{l:B L}{n:p'}{q:B D}{r:az}{w:ij}{η:B V}
theorem BE(F1:bt c.prog c.w c.K c.mg c.base dZ b i j0 l (bE j r))(m:bF b c.A)(p:Gl c d)(s:c.mg d=J (.ref i))(t:Î c.K (.ref i)=_t)(u:Binds c.K j0 l A0)(x:Vals η A0)(y:∀α a H,aE (au α a H) q η)(e:(d==("__debug__"))=_d)(z:D' (n::Z) c.env=(_d,eval n c.env)::D' Z c.env)(f:(À T (D' Z c.env)).any (·.1)=_d)(C:mH c j w (n::Z) Q0):
  ba c j w (.Call (.Name d o) (n::Z) [] T) (mN (λxs h=>aQ r (xs++q) h) Q0):=by
 intro k D E F h;refine PE.imp (rL F1 m p s t u x mh (C k D E F h) e z f) ?_;rintro R H Q ⟨α,a,S,g⟩;refine⟨α,a,S,pH.use g λxs G _ U V I M X N O P=>⟨_,M,_,_,N,O.append (y _ _ _),bC.ok0 P⟩⟩
structure LK(K:G')(x qual:L)(st:O')(C N f c:f')(fd:Â):Prop where
 a:ò K Ï x=J (J (.ref C))
 cl:iI K C N f
 fn:tU K "__init__" qual st f fd
 cv:fd.code=.ref c
 is:Hq K C
variable{D6 V1:L}{E:Bool}{P0 y2:f'}{T5 m8 n8 o8 p8:_o g'}{U9:ClassData}{V5 v8:B g'}{t8:_o Bool}
theorem OO(b:ò G Ï d=J (J (.ref i)))(c:G.lookup i=J (Ř V1 D6 i S A0 V5 _t l v8 E t8 L5 T5 m8 n8 o8 p8 "ValueError.__new__"))(nC:ò G S "__init__"=J (J (.ref P0)))(tC:uv G V5=_t)(xa:ab3 G i=J U9)(e:hZ U9.mro=_t)(f:U9.hasDict=_t)(g:ç G (.ref i) "__setattr__"=J (J (.builtin "object.__setattr__")))(xe:ç G (.ref i) "__getattribute__"=J (J (.builtin "BaseException.__getattribute__")))(h:ç G (.ref i) "__getattr__"=J _n)(j:ŷ G i (.type "BaseException")=J _t)(k:Ľ G i=_t)(m:Vc G S "__init__"=J (J (.ref P0)))(n:Î G (.ref i)=_t)(o:abA G (.ref P0)=J (.type "function")){a}(p:G.lookup P0=J ⟨ζ,V6,.func (í "__init__" C (cR ω) (bg ω) (ah ω) .none U3 S6 u7 a (.ref y2) v7),C6⟩)(q:Ĭ G (.ref y2) C=_t)(r:Î G (.ref P0)=_t)(s:ç G (.ref i) "__class__"=J (J (.builtin "object.__class__")))(t:ľ G (.builtin "object.__class__") "__get__"=J (J (.builtin "getset_descriptor.__get__")))(u:Ŷ G (.builtin "object.__class__")=J _t)(w:ŷ G i (.type "object")=J _t):LK G d C ω i S P0 y2 (í "__init__" C (cR ω) (bg ω) (ah ω) .none U3 S6 u7 a (.ref y2) v7):=
 ⟨b,⟨⟨_,_,_,_,_,_,_,_,_,_,_,_,_,_,c,ym tC⟩,⟨_,xa,e,f⟩,g,⟨xe,h,j⟩,k,KO m,n,o⟩,wa p q r,Y,⟨s,t,u,w⟩⟩
def OP(st:O'):=match st with
 |.If _ _ _ _=>_n
 |_=>J bV
theorem J2(st a)(h:OP st=J a):jr c j w st a:=by
 have e:a=bV:=by
  unfold OP at h;split at h
  .cases h
  .cases h;rfl
 subst e;exact lK
theorem xI:∀v c H Q,vS G 2 (ie [0,1]) v c H Q->vS G 2 (ie [0,1]) v c H λb d=>Q b d/\b.length=c.length/\∀j,2<=j->b[j]?=c[j]?:=λv c H Q h=>by
 obtain⟨a,g,rfl,e,f,v1,i,rfl,v2,k,rfl,rfl,q⟩:=h;refine⟨a,_,Y,e,f,v1,_,Y,v2,_,Y,Y,q,by simp,λj l=>?_⟩
 grind
variable{E2:IM}{E5 P1:K'}{o0:V'}{p ς:EM}{ξ:p'}{π:B Nat}
theorem FP(E:c.calm=_t)(B:kF c o0 [d,C] l π)(I:∀z,đ n c.env z=pure z)(y:Bc c j w (.Tuple [.Name d T,.Name C P1] b E5) n E2)(K:o0.names.lookup d=J .local)(M:o0.names.lookup C=J .local)(s:([d,C]++l).Nodup)(N:∀A f g i fp,ba (blk c o0 A f ([d,C]++l) g i fp) j j8 ξ p):ba c j w (.ListComp ξ [⟨.Tuple [.Name d T,.Name C P1] b E5,n,[],0⟩] o0 o) (cB p _t ς E2 2 π):=by
 have F:(ġ _ c.env).names.lookup d=J _:=acF K;have t:(ġ _ c.env).names.lookup C=J _:=acF M;intro O P Q R G
 obtain⟨wi,tc,te,D,u,U⟩:=qP (w6:=vS _ 2 (ie [0,1])) (b:=2) y (λm V z α Z G H X k q S rx hk=>by
   cases m with
   |t es=>
    simp only[uR]at q;split at q
    .rename_i x
     injection q with q;have e:=(abi (λ_ _ h=>by injection h)).mp q.symm
     subst e;obtain⟨a,vs,rfl,_,D,u⟩:=dO rx
     match V,x,u with
     |[d1,d2],_,u=>
      obtain⟨v,r,rfl,q1,q2⟩:=sO u;exact⟨a,_,Y,vK (.inl D),Y,v,_,Y,r,_,Y,Y,hk _ (.cons q1 (.one q2))⟩
    .cases q
   |_=>cases q) (λA f g i fp=>⟨B_ E (nO (ke s Y (.inl F) (.inr F)) (nO (ke s Y (.inl t) (.inr t)) yb)),.inl ⟨Y,Y⟩,N A f _ _ fp⟩) _ P Q R G
 exact PE.imp (yu E B D I xI u) U
noncomputable def Zo(st:O'):_o {r:L×p'×L×L×p'×V' // ∃b c e f g p p2 h,st=.Return (J (.Call (.Name r.1 b) [.ListComp r.2.1 [⟨.Tuple [.Name r.2.2.1 c,.Name r.2.2.2.1 e] f g,r.2.2.2.2.1,[],0⟩] r.2.2.2.2.2 p] [] p2)) h}:=match st with
 |.Return (J (.Call (.Name d _) [.ListComp a [⟨.Tuple [.Name x _,.Name y _] _ _,iter,[],0⟩] scope _] [] _)) _=>J ⟨(d,a,x,y,iter,scope),_,_,_,_,_,_,_,_,Y⟩
 |_=>_n
def TZ(T a N st):=
 (Zo st).bind λr=>(wC a N (eO r.1.2.2.2.2.2)).bind λb=>(sW (dH T 60 a N) a r.1.2.2.2.2.1).bind λc=>(dH T 60 (HU r.1.2.2.2.2.2 a) (r.1.2.2.1::r.1.2.2.2.1::eO r.1.2.2.2.2.2) r.1.2.1).bind λd=>
  if r.1.1==("dict")&&AL a ("dict")&&AN r.1.2.2.2.2.2 a r.1.2.2.1&&(r.1.2.2.2.2.2.names.lookup r.1.2.2.2.1==J .local)&&decide ((r.1.2.2.1::r.1.2.2.2.1::eO r.1.2.2.2.2.2).Nodup)&&!isSet r.1.2.2.2.2.1 then J (a7 (mN kM (ae (cB d _t (ai .n) c 2 b) aj)))else _n
variable{Δ:aV}
theorem J3(G:GoodO c j Δ b o0 l)(st a)(h:TZ Δ o0 l st=J a):jr c j w st a:=by
 refine mL h λq _ h=>mL h λr s h=>mL h λD t h=>mL h λu t3 h=>IS h λf h=>Bl h ?_
 refine xe q.2 λ_ z=>xe z λ_ z=>xe z λ_ z=>xe z λ_ z=>xe z λ_ z=>xe z λ_ z=>xe z λ_ z=>xe z λ_ e=>?_
 have g:=bL f;have i:=bL g;have k:=bL i;have n:=bL k;rw[e,eq_of_beq (bL n)];exact mO (yZ G (bR k) s) λd x _=>eg (Ea G.calm (G.gl (bR n)) (G.dB _ (by decide)) (bw Y) Y (bf (FP G.calm ⟨d.kind,d.cell,d.names,d.free,d.len,d.at'⟩ (kH ((ϖ _).mp (bR f))) (y_ G (λe m q=>ir 60 c o0 l e m G q) t w) x (eq_of_beq (bR i)) (of_decide_eq_true (bR g)) λy C o p A=>(ir 60 _ _ _ _ u (G.blk _ y C _ _ _ A) t3).1 _) cF Y))
def lcs(st):=(ah st).names.filterMap λp=>if p.2==.local||p.2==.cell then J p.1 else _n
def BV(st m n):=(fT (lcs st) ((lcs st).take n) (ah st)&&((lcs st).take n).length==n)&&(lcs st).length==m
abbrev Hb(x qual st n):=∀kV a d e b ct c,c.length=n->Ϩ (í x qual (cR st) (bg st) (ah st) .none kV a d e b ct) ⟨c,[]⟩=pure (((lcs st).take n).zip c)
noncomputable def FB:Nat->(Nat->g')->B g'
 |0,_=>[]
 |n+1,f=>f 0::FB n λi=>f (i+1)
theorem FM:∀{n}{c:B g'},c.length=n->∃f,c=FB n f
 |_,[],rfl=>⟨λ_=>.none,Y⟩
 |_,a::c,rfl=>let⟨f,e⟩:=FM (c:=c) Y;⟨λi=>i.casesOn a f,congrArg _ e⟩
theorem FS{x qual st n}(h:∀kV a d e b ct f,Ϩ (í x qual (cR st) (bg st) (ah st) .none kV a d e b ct) ⟨FB n f,[]⟩=pure (((lcs st).take n).zip (FB n f))):Hb x qual st n:=λ_ _ _ _ _ _ _ l=>by
 obtain⟨_,rfl⟩:=FM l;exact h ..
structure Dg(T:aV)(st:O')(m n:Nat)(F:az):Prop where
 s:BV st m n=_t
 k:(EO T [] st (lcs st)).map (aw m n)=J F
 b:∀x q,Hb x q st n
inductive Hk
 |rs (cn:L) (fs:List (L×EM))|mt (C m:L) (G:az)|no
def hks(T:aV)(b:V')(N:B L):B Hk->O'->_o SM
 |[],_=>_n
 |.rs c fs::l,a=>(LI T b N c 1 fs a).or (hks T b N l a)
 |.mt C m G::l,a=>(hkM T b N C m G a).or (hks T b N l a)
 |.no::l,a=>(OP a).or (hks T b N l a)
noncomputable def aV.toX(T:aV):={T with xt:=_t}
structure Dx(T:aV)(st:O')(m n:Nat)(l:B Hk)(F:az):Prop where
 s:BV st m n=_t
 k:(kR (xC (hks T.toX (ah st) (lcs st) l) T.toX [] 60 (ah st) (lcs st) 30) (bg st)).map (aw m n)=J F
 b:∀x q,Hb x q st n
noncomputable def AC(a:Â)(b:B g'):{k//Ϩ a ⟨b,[]⟩=acb a.defaults >>= k}:=⟨_,rfl⟩
abbrev T_(x qual st n j)(e:B g')(a:Array g'):=∀T kV b f g c ct d,d.length=j->∃k,Ϩ (í x qual (cR st) (bg st) (ah st) (.ref T) kV b f g c ct) ⟨d,[]⟩=acb (.ref T) >>= k/\k (J a)=pure (((lcs st).take n).zip (d++e))
variable{m:Nat}
theorem dg(k:autoParam ((EO Δ [] ω (lcs ω)).map (aw m b)=J r) V_)(s:BV ω m b=true:=by decide +kernel)(a:∀x q,Hb x q ω b:=by exact λ_ _=>FS λ_ _ _ _ _ _ _=>Y):Dg Δ ω m b r:=⟨s,k,a⟩
theorem Ua(s:BV ω m b=_t):fT (lcs ω) ((lcs ω).take b) (ah ω)=true:=bL (bL s)
theorem Ub(s:BV ω m b=_t):((lcs ω).take b).length=b:=eq_of_beq (bR (bL s))
theorem WN(s:BV ω m b=_t):(lcs ω).length=m:=eq_of_beq (bR s)
variable{H:F'}{M:W'}{N:T'}{P:Nat}{θ:L->_o g'}
theorem Dg.ok{F}(a:Dg Δ ω m P F)(W:cq M N G θ H Δ b)(D:vl G d C ω ζ i j0):bt M N G θ H dZ (b+1) i j0 ((lcs ω).take P) (bE (aZ θ) F):=by
 obtain⟨c,f,e⟩:=È.mp a.k;have:=Jz W D (Ua a.s) f;rwa[Ub a.s,WN a.s,e]at this
def vB(s:BV ω m b=_t)(k:Hb d C ω b)(a:tU G d C ω i j0):=a.binds λa f c j e g l h=>k a f c j e g l (h.trans (Ub s))
abbrev J6(K C x qual st)(a:Array g'):=∃f b T oT nT,(ç K (.ref C) x=J (J (.ref f))/\ϧ K (.ref f)=_t)/\vl K x qual st (.ref T) f b/\K.lookup T=J oT/\oT.data=.seq a nT
variable{Q3:Array g'}{R0:Obj}{Θ:Nat}
theorem zR(s:BV ω m P=_t)(h:T_ d C ω P b A0 Q3)(D:vl G d C ω (.ref S) i j0)(a:G.lookup S=J R0)(c:R0.data=.seq Q3 Θ)(e:b+A0.length=P):Binds G j0 ((lcs ω).take P) A0:=λw j l n=>by
 obtain⟨oc,x,kV,f,o,p,g,ct,q,rfl,y,r⟩:=D.ex;obtain⟨k,t,u⟩:=h S kV f o p g ct j (by rw[Ģ,Ub s]at n;omega)
 exact PySem.W.binds_K l Y a c t u
structure Wg(P:W')(w:T')(K:G')(mg:L->_o g')(base h:F')(T:aV)(k:Nat):Prop where
 W:cq P w K mg base T k
 X:K.In h
 G:h.Ns Ï mg
variable{F2:F'}
theorem Wg.g(W:Wg M N G θ H F2 Δ b)(a:ò G Ï d=J (J ζ)):θ d=J ζ:=abm W.X W.G a
theorem Wg.gF(W:Wg M N G θ H F2 Δ b)(a:dD G d ω)(F)(c:autoParam (Dg Δ ω m P F) _a):Wg M N G θ H F2 (Δ.sY d F) (b+1):=by
 obtain⟨f,e,a⟩:=a;exact⟨W.W.sY (W.g a.ns) a.fn.kp (vB c.s (c.b _ _) a.fn) (c.ok W.W (my a.fn)),W.X,W.G⟩
theorem Wg.gT(W:Wg M N G θ H F2 Δ b)(a:dD G d ω)(F)(c:autoParam (Dg Δ ω m P F) _a):Wg M N G θ H F2 (Δ.sY d (fA F)) (b+1):=by
 obtain⟨f,e,a⟩:=a;exact⟨W.W.sY (W.g a.ns) a.fn.kp (vB c.s (c.b _ _) a.fn) (yY (c.ok W.W (my a.fn))),W.X,W.G⟩
theorem Wg.gP(W:Wg M N G θ H F2 Δ b)(a:dD G d ω)(F)(c:autoParam (Dg Δ ω m P F) _a):Wg M N G θ H F2 (Δ.Ja d (pureOf F)) (b+1):=by
 obtain⟨f,e,a⟩:=a;exact⟨(W.W.mono (Ā b)).Ja (W.g a.ns) a.fn.kp (vB c.s (c.b _ _) a.fn) (Jt (c.ok W.W (my a.fn))) (R' _),W.X,W.G⟩
theorem Wg.gM(W:Wg M N G θ H F2 Δ b)(c:zQ G V1 i)(a:dG G i d C ω)(F)(e:autoParam (Dg Δ ω m P F) _a):Wg M N G θ H F2 (Δ.pS V1 d F) (b+1):=by
 obtain⟨f,h,a⟩:=a;exact⟨W.W.pS (W.g c.ns) c.cl a.me (vB e.s (e.b _ _) a.fn) (e.ok W.W (my a.fn)),W.X,W.G⟩
theorem Wg.gI(W:Wg M N G θ H F2 Δ b)(c:zQ G C i)(a:dG G i "__init__" d ω)(F)(e:autoParam (Dg Δ ω m P F) _a):Wg M N G θ H F2 ((Δ.pS C "__init__" F).Jb C F) (b+2):=by
 obtain⟨f,j,a⟩:=a;have h:=vB e.s (e.b _ _) a.fn;have r:=e.ok W.W (my a.fn);exact⟨(W.W.pS (W.g c.ns) c.cl a.me h r).Jb (W.g c.ns) ⟨c.ma,a.me.at_,a.me.fn,c.kc⟩ h r (R' _),W.X,W.G⟩
theorem Wg.gD(W:Wg M N G θ H F2 Δ b)(c:zQ G V1 i)(a:J6 G i d C ω #[.none])(F)(e:Dg Δ ω m P F)(k:T_ d C ω P P [] #[.none]):Wg M N G θ H F2 (Δ.pS V1 d F) (b+1):=by
 obtain⟨f,l,n,oT,nT,h,D,a,j⟩:=a;exact⟨W.W.pS (W.g c.ns) c.cl ⟨h.1,h.2,D.kp⟩ (zR e.s k D a j Y) (e.ok W.W D),W.X,W.G⟩
theorem Wg.gE(W:Wg M N G θ H F2 Δ b)(c:zQ G V1 i)(a:J6 G i d C ω #[.none])(F)(e:Dg Δ ω m (P+1) F)(k:T_ d C ω (P+1) P [.none] #[.none]):Wg M N G θ H F2 (Δ.pS V1 d λxs=>F (xs++[.n])) (b+1):=by
 obtain⟨f,l,n,oT,nT,h,D,a,j⟩:=a;exact⟨W.W.RN (P4:=[.n]) (W.g c.ns) c.cl ⟨h.1,h.2,D.kp⟩ (zR e.s k D a j Y) (.cons (show RelV .n Ą from Y) .nil) (λ_ _ _=>.one (by simp only[au])) (e.ok W.W D),W.X,W.G⟩
def WO(P w K)(d:L->_o g')(base k l)(n:B (L×EM)):=∃C o f c g b a r m,qu K d C o f c g b a "self" [r.fld] [r]/\d l=J (.ref C)/\n=[(r.fld,m)] /\
 ∀j,k<=j->∀h p i e q s,bF j (h.deeper (Ç a (ah b) i.heap.objs.size f (.ref c)))->ba ((cz dZ P w K d base ["self",r.fld] a (ah b) f (.ref c) h p i q s).k_.mk1 e) (aZ d) j8 r.ve m
def WQ(P w K)(a:L->_o g')(base k C m G):=∃b f c d,a C=J (.ref b)/\pG K b/\Meth K b m f/\bt P w K a base (jK P w) k f c d (i_ (aZ a) G)/\Binds K c d []
def FuX(P w K)(a:L->_o g')(base k x G):=∃f b c,a x=J (.ref f)/\Î K (.ref f)=_t/\bt P w K a base (jK P w) k f b c (i_ (aZ a) G)/\Binds K b c []
def Zq(P:W')(w:T')(K:G')(a:L->_o g')(base:F')(k:Nat):Hk->Prop
 |.rs b fs=>WO P w K a base k b fs
 |.mt C m G=>WQ P w K a base k C m G
 |.no=>True
def Uc(P:W')(w:T')(K:G')(b:L->_o g')(base:F')(k:Nat):B Hk->Prop
 |[]=>True
 |a::l=>Zq P w K b base k a/\Uc P w K b base k l
variable{B1:B (L×EM)}
theorem WO.up(h:WO M N G θ H b d B1)(e:autoParam (b<=m) P3):Zq M N G θ H m (.rs d B1):=by
 obtain⟨C,o,p,c,l,n,q,r,f,a,j,k,g⟩:=h;exact⟨C,o,p,c,l,n,q,r,f,a,j,k,λi s=>g i (N' e s)⟩
theorem WQ.up(h:WQ M N G θ H b C d r)(e:autoParam (b<=m) P3):Zq M N G θ H m (.mt C d r):=by
 obtain⟨k,f,l,n,a,i,c,j,g⟩:=h;exact⟨k,f,l,n,a,i,c,j.mono e,g⟩
theorem tF{P w K i base T k N qual n f s A outer t u E}(o:N.Nodup)(p:bF (k+2) (A.deeper (Ç qual n t.heap.objs.size f s)))(G:GoodO (cz (jK P w) P w K i base N qual n f s A outer t u E) (aZ i) T k n N):∀{l},Uc P w K i base k l->∀st e,hks T n N l st=J e->jr (cz (jK P w) P w K i base N qual n f s A outer t u E) (aZ i) (iJ (aZ i) E) st e
 |[],_,st,e,h=>nomatch h
 |.rs z fs::l,j,st,e,h=>(jZ h).elim (λh=>by
   obtain⟨C,D,F,c,x,y,q,r,m,a,b,rfl,g⟩:=j.1;exact FF a p b G (g k (R' _)) st e h) (tF o p G j.2 st e)
 |.mt C m H::l,j,st,e,h=>(jZ h).elim (λh=>by
   obtain⟨I,f,M,O,a,b,c,d,g⟩:=j.1;exact OI G o (λQ (q:i C=_)=>by cases q.symm.trans a;rfl) b c d g C_ st e h) (tF o p G j.2 st e)
 |.no::l,j,st,e,h=>(jZ h).elim (λh=>J2 st e h) (tF o p G j.2 st e)
theorem dx{l}(k:(kR (xC (hks Δ.toX (ah ω) (lcs ω) l) Δ.toX [] 60 (ah ω) (lcs ω) 30) (bg ω)).map (aw m b)=J r:=by rfl)(s:autoParam (BV ω m b=true) dg._auto_1)(a:autoParam (∀x q,Hb x q ω b) dg._auto_2):Dx Δ ω m b l r:=⟨s,k,a⟩
theorem Dx.ok{F l}(a:Dx Δ ω m P l F)(W:cq M N G θ H Δ b)(D:vl G d C ω ζ i j0)(h:Uc M N G θ H b l):bt M N G θ H (jK M N) (b+3) i j0 ((lcs ω).take P) (i_ (aZ θ) F):=by
 obtain⟨c,j,e⟩:=È.mp a.k;have:=zM W.toXt Y D (Ua a.s) j (λn A outer s g E o f=>tF (eY (Ua a.s)).nd o f h)
 rwa[Ub a.s,WN a.s,e]at this
theorem Wg.gX(W:Wg M N G θ H F2 Δ m)(c:zQ G V1 i)(a:dG G i d C ω)(F l)(h:Uc M N G θ H b l)(e:Dx Δ ω P Θ l F:=by exact dx)(j:autoParam (m<=b) P3):WQ M N G θ H (b+3) V1 d F:=by
 obtain⟨f,k,a⟩:=a;exact⟨i,f,k,_,W.g c.ns,c.cl,a.me,e.ok (W.W.mono j) (my a.fn) h,vB e.s (e.b _ _) a.fn⟩
theorem Wg.gY(W:Wg M N G θ H F2 Δ m)(a:dD G d ω)(F l)(e:Uc M N G θ H b l)(c:autoParam (Dx Δ ω P Θ l F) Wg.gX._auto_1)(h:autoParam (m<=b) P3):FuX M N G θ H (b+3) d F:=by
 obtain⟨f,i,a⟩:=a;exact⟨f,i,_,W.g a.ns,a.fn.kp,c.ok (W.W.mono h) (my a.fn) e,vB c.s (c.b _ _) a.fn⟩
noncomputable def GM(o:_o (_o g'))(d:D):_o {v:V×g'//o=J (J v.2)/\RelV v.1 v.2/\kB d=J v.1}:=match o,d with
 |J (J (.int n t)),.int m=>if h:n=m then J ⟨(.int m,.int n t),Y,⟨t,by rw[h]⟩,Y⟩else _n
 |J (J (.str s u)),.str t=>if h:s=t then J ⟨(.str t,.str s u),Y,⟨u,by rw[h]⟩,Y⟩else _n
 |_,_=>_n
noncomputable def OQ(K:G')(p:L×D):=(GM (ò K Ï p.1) p.2).isSome
noncomputable def jB(K:G')(a:f')(f:L):Bool:=match ç K (.ref a) f with
 |J _n=>_t
 |_=>_d
theorem je(h:jB G i d=_t):ç G (.ref i) d=J none:=by
 unfold jB at h;split at h
 .assumption
 .cases h
def aV.ks(T:aV)(l:B (L×D)):=l.foldl (λT p=>T.sZ p.1 p.2) T
noncomputable def aV.as(T:aV)(C:L)(l:B L):=l.foldl (λT f=>T.ER f [C]) T
theorem Wg.s0(X:G.In F2)(a:F2.Ns Ï θ)(b:sH G=_t):Wg M N G θ H F2 {} 0:=⟨cq.start (DI X a b),X,a⟩
theorem Wg.ks{P w K a base h k}:∀{l}{T},Wg P w K a base h T k->l.all (OQ K)=_t->Wg P w K a base h (T.ks l) k
 |[],_,W,_=>W
 | (x,d)::l,T,W,b=>by
  have b:=Ø.mp b;refine Wg.ks (l:=l) (T:=T.sZ x d) ⟨?_,W.X,W.G⟩ b.2;obtain⟨⟨v,h,g,c⟩,_⟩:=Option.isSome_iff_exists.mp b.1;exact W.W.sZ (W.g h) g c
theorem Wg.as{P w K a base h k C d}(c:zQ K C d):∀{l}{T},Wg P w K a base h T k->l.all (jB K d)=_t->Wg P w K a base h (T.as C l) k
 |[],_,W,_=>W
 |f::l,T,W,b=>by
  have b:=Ø.mp b;exact Wg.as c (l:=l) (T:=T.ER f [C]) ⟨W.W.ER (plain1 (W.g c.ns) c.cl (je b.1)),W.X,W.G⟩ b.2
abbrev Ud(K x st):=∃f a T oT nT b,ò K Ï x=J (J (.ref f))/\vl K x x st (.ref T) f a/\K.lookup T=J oT/\oT.data=.seq #[.int 0 b] nT
def Zr(P w K)(a:L->_o g')(base k O):=∃f b c d,a "own_copy"=J (.ref f)/\Î K (.ref f)=_t/\bt P w K a base dZ k f b c (bE (aZ a) O)/\Binds K b c [.int 0 d]
def LM(a):=mN (λb c=>aQ a (b++[.int 0]) c) (ae (aa 1) aj)
noncomputable def Bd:az:=λ_ _=>.b
def ocU(T:aV)(O):=(T.sY "own_copy" O).toX
def OR(T O st):=kR (xC (TZ (ocU T O) (ah st) (lcs st)) (ocU T O) [] 60 (ah st) (lcs st) 30) (bg st)
theorem J_:bt M N G θ H dZ b i j0 l (bE j Bd):=
 ⟨λc a Q E h=>by obtain⟨d,Z,e,f,S,r,g⟩:=h;exact g.elim,λA outer s a args k c Q E m n o p h=>by obtain⟨d,Z,e,f,S,r,g⟩:=h;exact g.elim⟩
variable{z5 υ:SM}
theorem Wg.gC(W:Wg M N G θ H F2 Δ b)(a:Ud G "own_copy" ω)(s:BV ω 2 2=_t)(kA:OR Δ Bd ω=J υ)(m:OR Δ (aw 2 2 υ) ω=J z5)(n:∀e,T_ "own_copy" "own_copy" ω 2 1 [.int 0 e] #[.int 0 e])(o:∀e,T_ "own_copy" "own_copy" ω 2 2 [] #[.int 0 e]):Zr M N G θ H (b+7) (fA (aw 2 2 z5)):=by
 obtain⟨f,h,x,oT,nT,e,a,D,l,d⟩:=a;have p:=zR s (n e) D l d Y;have q:=zR s (o e) D l d Y;have k:=W
 have ok:∀{O:az}{c:SM}{b:Nat},cq M N G θ H Δ b->bt M N G θ H dZ (b+1) f h ((lcs ω).take 2) (bE (aZ θ) O)->OR Δ O ω=J c->bt M N G θ H dZ (b+4) f h ((lcs ω).take 2) (bE (aZ θ) (aw 2 2 c)):=λW r b=>by
  have:=OE (zM (W.sY (abm k.X k.G a) D.kp q r).toXt Y D (Ua s) b (λt A outer s i E y u j w F2=>J3 u j w F2))
  rwa[Ub s,WN s]at this
 exact⟨f,h,_,e,W.g a,D.kp,yY (ok (W.W.mono (à b 3)) (ok W.W J_ kA) m),p⟩
variable{A7 V7 W7 X7 Y7 Z7 c8 f8 i8:K'}{B4:f'}
theorem q7(W:Wg M N G θ H F2 Δ m)(Q:LK G d C ω i S P0 y2 j0)(y:jB G i V1=_t)(z:XBase G θ D6 B4)(oc:Zr M N G θ H b r)(n:bg ω=[.Assign [.Attribute (.Name "self" o) V1 T] (.Call (.Name "own_copy" E5) [.Name V1 A7] [] V7) P1,.Expr (.Call (.Attribute (.Name D6 W7) "__init__" c8) [.Name "self" X7,.Attribute (.Name "self" Y7) V1 Z7] [] f8) i8])(h:autoParam ((BV ω 2 2&&decide ((lcs ω).take 2=(["self",V1]:B L)))=true) dg._auto_1)(A:autoParam ((ah ω).names.lookup ("self":L)=J .local) V_)(D:autoParam ((ah ω).names.lookup V1=J .local) V_)(E:autoParam ((ah ω).names.lookup ("own_copy":L)=J .globalImplicit) V_)(I:autoParam ((ah ω).names.lookup D6=J .globalImplicit) V_)(K:autoParam ((V1==("__debug__"))=false) V_)(O:autoParam ((V1==("__classdict__"))=false) V_)(P:autoParam ((D6==("__debug__"))=false) V_)(p:(∃pl:Ã->ê Bool,∀c,eval (.Call (.Attribute (.Name D6 W7) "__init__" c8) (.Name "self" X7::[(V1,Y7,Z7)].map (pP "self")) [] f8) c=(do
   let w ←eval (.Name D6 W7) c
   û c8.atName
   let (f,first) ←ô [w] (Ď w "__init__" (pl c))
   ĕ f8 f first (À f8 (D' (.Name "self" X7::[(V1,Y7,Z7)].map (pP "self")) c)) (ö f8 (ø [] c))))/\Hb "__init__" C ω 2:=by exact⟨⟨_,λ_=>Y⟩,FS λ_ _ _ _ _ _ _=>Y⟩):WO M N G θ H b d [(V1,LM r)]:=by
 have s:BV ω 2 2=true:=bL h;have e2:(lcs ω).take 2=(["self",V1]:B L):=of_decide_eq_true (bR h);have x:=Ua s;have V:lcs ω=(["self",V1]:B L):=by rw[←e2,ϒ (Á (WN s))]
 obtain⟨⟨pl,p⟩,U⟩:=p;rw[e2,V]at x;have l:=vB s U Q.fn;rw[e2]at l;obtain⟨fo,Z,a0,tk,m1,k1,F,ho⟩:=oc;refine⟨i,S,P0,y2,j0,ω,C,⟨V1,.Call (.Name "own_copy" E5) [.Name V1 A7] [] V7,o,T,P1⟩,_,⟨⟨_,Q.fn⟩,Q.cv,eY x,Q.cl,l,λj t=>(by rw[ï.mp t];exact je y),by simp,A,Y,Y,Y,afc Y,D6,B4,[(V1,Y7,Z7)],W7,X7,i8,c8,f8,pl,z,P,I,n,Y,λj t c=>(by rw[ï.mp t];exact Y),p⟩,W.g Q.a,Y,λu hi A' ot s' e H1 E' hR=>?_⟩
 exact BE (q:=[.int 0]) (η:=[.int 0]) (F.mono hi) hR E m1 k1 ho (.cons ⟨tk,Y⟩ .nil) (λ_ _ _=>.one (by simp only[au])) Y Y Y (bf (fV Y (.inl D) K O) cF Y)
variable{a x:aA}{h ε:D}
theorem Qd(e:r [h,.int 0] a=.ok ε x):fD C [(d,LM r)] [] [_n,J h] a=.e (lX C [(d,ε)]) x:=by
 have b:LM r [_n,J h] a=.ok ε x:=by
  show IG (r [h,.int 0] a)=_
  rw[e];rfl
 rw[fD,b];rfl
theorem q_(c:Qb C=d):FI C [(d,LM (Qc r))]:=λf b h=>by
 obtain⟨g,e,K⟩:=Zl (r:=r) (a:=f) (h.elim .inl λz=>.inr (.inl z))
 subst c;exact⟨_,Qd e,K⟩
def low(c):=oq (aY c) "abcdefghijklmnopqrstuvwxyz"
theorem Ue(f:C.length<=1000)(h:¬ (1<=C.length/\C.length<=8)\/(b∈C.cps.toList/\low b=_d)):∃aq,aw 1 1 lS [.str C] a=.ok (.bl _d) aq/\ao [] a aq:=by
 have i:=dy (u:=[oS C]) (a:=a) (p:=m2 (ay .In) (aa 0) (ai (.str "abcdefghijklmnopqrstuvwxyz"))) (ς:=ai .n) (E:=_t) (E2:=cP (aa 0)) (π:=[]) (g:=λd=>match d with|.str z=>.bl (oq z "abcdefghijklmnopqrstuvwxyz")|d=>d) Y Y (λd _=>Y) (λd k _=>by
  obtain⟨b,c,rfl⟩:=Ð.mp k
  simp_all) (by
  rw[ß];exact fc (f))
 have e2:((C.cps.toList.map λb=>D.str (aY b)).filter λ_=>_t).map (λd=>match d with|.str z=>D.bl (oq z "abcdefghijklmnopqrstuvwxyz")|d=>d)=(C.cps.toList.map low).map .bl:=by
  rw[Ĥ.mpr (λ_ _=>Y),Ö,Ö]
  rfl
 rw[e2]at i
 have e:mN (bP .len) (ae (aa 0) aj) [oS C] a=.ok (.int C.length) a:=by
  show oM _ [.str C] a=_
  unfold oM;simp[bo (fc f)]
 have j:∀t,decide (1<=C.length/\C.length<=8)=t->(mI .LtE .LtE (ai (.int 1)) (mN _ _) (ai (.int 8))) _ a=.ok (.bl t) a:=λt l=>by
  unfold mI;rw[show ai _ _ a=.ok _ a from Y,eE,e]
  by_cases m:1<=C.length
  .have n:d9 .LtE (.int 1) (.int C.length) a=.ok (.bl _t) a:=by
    have:decide ((1:Int)<=C.length)=true:=by simp;omega
    simp_all
   have o:d9 .LtE (.int C.length) (.int 8) a=.ok (.bl t) a:=by
    have:decide ((C.length:Int)<=8)=t:=by rw[←l];simp[m];omega
    simp_all
   simp_all
  simp_all
 by_cases c:1<=C.length/\C.length<=8
 .have:(C.cps.toList.map low).all id=false:=by
   rw[aex]
   grind
  refine⟨_,fR ((q0 Y).trans (qR (aT (j _ (decide_eq_true c)) (eN (eK i Y) ((tq aG).trans (by rw[this])))))),ao.app⟩
 .exact⟨_,fR ((q0 Y).trans (qR (aF (j _ (decide_eq_false c))))),ao.refl⟩
def xJ(f:az)(fN:B (L×EM))(d g):=∀a,ao [] g a->∃c b e,f [d] a=.ok (.bl _d) c/\fD "NoName" fN [] [_n,J d] c=.e (xF ("NoName",e)) b/\ao [] a b/\JY e d b
abbrev LN(O:az):B (L×EM):=[("name",LM (Qc O))]
theorem jf(c:d.length<=1000)(h:¬ (1<=d.length/\d.length<=8)\/(b∈d.cps.toList/\low b=_d)):xJ (aw 1 1 lS) (LN r) (.str d) a:=λe _=>by
 obtain⟨f,g,i⟩:=Ue c h;obtain⟨j,e2,k⟩:=Zl (.inl ⟨_,Y⟩);exact⟨_,_,_,g,Qd e2,i.trans k,nJ (.inl ⟨_,Y⟩)⟩
theorem xM(b:zO h)(c:∀a,aw 1 1 lS [h] a=.ok (.bl _d) a):xJ (aw 1 1 lS) (LN r) h a:=λd _=>by
 obtain⟨e,e2,f⟩:=Zl b;exact⟨_,_,_,c _,Qd e2,f,nJ b⟩
variable{P2:Cell}
theorem FQ(h:a[b]?=J P2)(c:gp .str (.ref b) a=.ok (.bl _d) a):aw 1 1 lS [.ref b] a=.ok (.bl _d) a:=fR ((qT (nT (eP Y c))).trans (qB (qR Y)))
theorem OS(h:a[b]?=J (.l [.str d])):xJ (aw 1 1 lS) (LN r) (.ref b) a:=λe K=>by
 obtain⟨q,f,e2,i,c⟩:=ocL (K.g h) (by simp[zO]) (by simp)
 exact⟨_,_,_,FQ (K.g h) (zP (K.g h)),Qd e2,c,JZ (c.g (K.g h)) i⟩
theorem Ug(h:a[b]?=J (.dK [])):xJ (aw 1 1 lS) (LN r) (.ref b) a:=λd K=>by
 obtain⟨q,e,e2,f,c⟩:=Zm (K.g h);exact⟨_,_,_,FQ (K.g h) (tE (K.g h)),Qd e2,c,ON (c.g (K.g h)) f⟩
theorem OT:xJ (aw 1 1 lS) (LN r) (.t [.str d]) a:=λb K=>by
 obtain⟨c,e2,e⟩:=ocT (q:=[.str d]) (by simp[zO]) (by simp)
 exact⟨_,_,_,Y,Qd e2,e,J1⟩
def nnL:=(ae (ai (.str "")) (ae (ai (.str "A")) (ae (ai (.str "abcdefghi")) (ae (ai (.str "a b")) (ae (ai (.str "a1")) (ae (ai .n) (ae (ai (.int 7)) (ae (ai (.bl _t)) (ae (mN b_ (ae (ai (.str "a")) aj)) (ae (mN gm (ae (ai (.str "a")) aj)) (ae cp (ae (ai (.str "a ")) (ae (ai (.str "-")) (ae (ai (.str "a.b")) aj))))))))))))))
def cNn(F:B D->Out Rs):=
 (af (aJ 1 (mN b_ nnL))
 (af (a7 (m2 aR (aa 1) (mN (ey F) (ae (aa 0) (ae (ai (.int 9)) (ae (mN (bP .len) (ae (aa 1) aj)) aj))))))
 ag))
noncomputable def Uh(j k:Nat):B D:=[.str "",.str "A",.str "abcdefghi",.str "a b",.str "a1",.n,.int 7,.bl _t,.ref j,.t [.str "a"],.ref k,.str "a ",.str "-",.str "a.b"]
variable{Q:Int}
theorem OU:∃b,(mN b_ nnL) [oI Q,_n] a=.ok (.ref b.length) (b++[.l (Uh a.length (a.length+1))])/\ao [] a b/\b[a.length]?=J (.l [.str "a"])/\b[a.length+1]?=J (.dK []):=by
 have c:∀a,(mN _ (ae (ai (.str "a")) aj)) [oI Q,_n] a=.ok _ _:=λa=>eN Y lN
 refine⟨a++[.l _,.dK []],?_,ao.app,aG,by simp⟩
 exact eN (eK Y (eK Y (eK Y (eK Y (eK Y (eK Y (eK Y (eK Y (eK (c _) (eK (eN (eK Y Y) Y) (eK (by simp[cp,fG]) (eK Y (eK Y (eK Y Y)))))))))))))) (lN (by rfl))
theorem OV(e:a[m]?=J (.l [.str "a"]))(f:a[b]?=J (.dK [])):∀d∈Uh m b,xJ (aw 1 1 lS) (LN r) d a:=by
 intro d c;simp only[Uh,Ì,Ŧ,or_false]at c;rcases c with rfl|rfl|rfl|rfl|rfl|rfl|rfl|rfl|rfl|rfl|rfl|rfl|rfl|rfl
 .exact jf (b:=0) (by decide) (.inl (by decide))
 .exact jf (b:=65) (by decide) (.inr (by decide +kernel))
 .exact jf (b:=0) (by decide) (.inl (by decide))
 .exact jf (b:=32) (by decide) (.inr (by decide +kernel))
 .exact jf (b:=49) (by decide) (.inr (by decide +kernel))
 .exact xM (.inr (by simp)) λ_=>Y
 .exact xM (.inr (by simp)) λ_=>Y
 .exact xM (.inr (by simp)) λ_=>Y
 .exact OS e
 .exact OT
 .exact Ug f
 .exact jf (b:=32) (by decide) (.inr (by decide +kernel))
 .exact jf (b:=45) (by decide) (.inr (by decide +kernel))
 .exact jf (b:=46) (by decide) (.inr (by decide +kernel))
def Ka(e f:az)(fN:B (L×EM)):=∀b c,∃d a,e [.int c] b=.ok d a/\ao [] b a/\xJ f fN d a
theorem OW(f:q.length=m)(c:a[b]?=J (.l q))(e:0<=Q)(g:Q<m):∃d,d∈q/\aR (.ref b) (.int Q) a=.ok d a:=by
 obtain⟨Q,rfl⟩:=Int.eq_ofNat_of_zero_le e;exact⟨q[Q],by simp,aU c (L2.bQ (by simp[(by omega)]))⟩
variable{m4:B D->Out Rs}{y6:Int->Int->Int->Int}
theorem Ui(e:iS y6 m4):Ka (aw 2 1 (cNn m4)) (aw 1 1 lS) (LN r):=by
 intro b c;obtain⟨a,i,j,k,l⟩:=OU;have f:ao [] _ (a++[.l (Uh b.length (b.length+1))]):=ao.app;have h:(a++[Cell.l (Uh b.length (b.length+1))])[a.length]?=J _:=aG;obtain⟨m,n,e2⟩:=e c 9 14 (by decide) (by decide) (by decide)
 obtain⟨d,o,p⟩:=OW Y h m n;refine⟨d,_,fR ((qA i).trans (qR (eQ Y (eN (eK Y (eK Y (eK (eN Y (gf h)) Y))) ?_) p))),j.trans f,OV (f.g k) (f.g l) d o⟩
 show ey m4 [.int c,.int 9,.int 14] _=_
 simp[e2]
end Mir
namespace Mir
open PySem PySem.Spec PyProof.Rows L2
def FR:V->B V->Hp->VK->Prop:=λx b H Q=>∃Z a d y,b=[y]/\Now Z H (.l a) x/\Now Z H d y/\aI 8 d=_t/\a.all (aI 8)=_t/\Q (.int (a.countP (λe=>d8 e d))) H
theorem tG{A B:Type}{p q}{l:List A}{r:List B}(a:l.length=r.length)(h:∀m b (c:m<r.length),p l[m]=q r[m]):l.countP p=r.countP q:=by
 have e:l.map p=r.map q:=List.ext_getElem (by simp[a]) λm b c=>by
  rw[afd,afd];exact h m (by simp_all) (by simp_all)
 have:=congrArg (List.countP id) e;rwa[afe,afe]at this
variable{c:Cx}
theorem FT(hu:c.A.units+64<Æ):Mu c "list.count" FR:=by
 intro pins s σ H x vs v us Q I K M h;obtain⟨Z,j,d,y,rfl,N,O,D,o2,q⟩:=h;obtain⟨l,ws,rfl,P,p⟩:=cV N;cases K;obtain⟨u,rfl,R⟩:=M.one;refine aH (I.list (mS P)) λa f S hz=>?_
 have T:=f.length;have r:=p.length;refine bT S λo n U V k X=>?_
 have g:∀m (b:m<j.length),aI 8 j[m]=true:=λm b=>á.mp o2 _ (by simp)
 classical
 let e:=λw=>decide (∃m,∃(b:m<a.length) (k:m<j.length),a[m]=w/\d8 j[m] d=_t)
 have t:∀m (b:m<a.length) (k:m<j.length),e _=d8 _ d:=λm b k=>by
  cases E:d8 _ d with
  |true=>exact decide_eq_true ⟨m,b,k,Y,E⟩
  |false=>
   refine decide_eq_false ?_;rintro⟨m',a0,i,e1,e2⟩;obtain⟨v1,z,C⟩:=ff p f b k;obtain⟨v2,r2,G⟩:=ff p f _ _;rw[e1]at G;have:=yx C G;subst this;rw[Rep.uniq _ _ _ _ (g m k) (g m' i) z r2]at E
   simp_all
 refine Ğ aff ⟨_,U,V⟩ F.entry_list_count (F.args_list_count_2 _ _) (SeqAt.list_countAt l a.toArray n _n o.slots u e) ⟨?_,λw hw=>?_,?_⟩
 .obtain⟨c',d',dt,sl⟩:=o
  simp_all
 .obtain⟨m,b,rfl⟩:=aeE.mp (by simpa using hw)
  have i:=P' (P' b (Á T.symm)) (Á r);rw[t m b i];obtain⟨v1,z,C⟩:=ff p f b _;exact gG I 8 _ _ _ _ _ (by grind) (g m _) D (fQ I z.now C (g m _)) (fQ I O R D)
 .refine⟨_,H,I.tok _,?_,q⟩
  rw[show a.toArray.toList.countP e=j.countP (λe=>d8 e d)from tG (by grind) λm h1 h2=>by simp_all]
  exact⟨_,Y⟩
variable [iT]
def gs(x)(xs:B D)(d:aA):=match xs with
 |[y]=>eG (λa b=>match a with|.l c=>if aI 8 b&&c.all (aI 8)then .ok (_d,.int (c.countP (λe=>d8 e b)))else .b|_=>.b) x y d
 |_=>.b
variable{O:V}{a:aA}{e:Hp}{h:D}{j:L->f'->Prop}{q:B D}{v:f'->Prop}{w:ij}{z:B f'}{Ξ:VK}{η:B V}
theorem FU(S:bp j z v a e)(r:au z v e h O)(l:aE (au z v e) q η)(g:bC j w z v e (gs h q a) Ξ):FR O η e Ξ:=by
 unfold gs at g;split at g
 .obtain⟨u,rfl,m⟩:=dP l
  refine bj (gK (E:=_d) S r m g) λd b own s n o f=>xa f λc k=>?_
  cases d with
  |l p=>
   dsimp only at c;split at c
   .rename_i i
    simp only[Õ]at i;cases c;exact⟨_,p,b,u,Y,n,o,i.1,i.2,iQ (df S) k Y⟩
   .exact tY c
  |_=>exact tY c
 .exact g.elim
noncomputable def xO(b:B L)(f:L)(x:D)(a:aA):ax D:=match x with
 |.ref k=>match a[k]? with
  |J (.xc C c)=>if b.contains C then (match c.lookup f with
   |J d=>.ok d a
   |_n=>.b)else .b
  |_=>.b
 |_=>.b
def Uj(K)(b:L->f'->Prop)(c:B L)(f):=∀C a,c.contains C=_t->b C a->(∃N d,iI K a N d)/\cZ K a f
variable{d:L}{l:B L}{n:p'}{o:K'}{p:EM}
theorem tH(A:Uj c.K j l d)(D:ý n d c.env (eval n c.env)=eval n c.env)(E:ba c j w n p):ba c j w (.Attribute n d o) (m1 (xO l d) p):=
 fU (r:=λx H Q=>∃e C k v N m,x=.ref e/\CQ H e C k/\iI c.K C N m/\cZ c.K C d/\k.lookup d=J v/\Q v H) (λta F=>λpins s G H Q I h=>by
  refine rD D (bO (F _ s G H _ I h) λu s1 M=>?_);obtain⟨x,O,P,t,a,C,k,v,N,m,R,U,T,y,b,q⟩:=M
  subst R;obtain rfl:u=Ë a:=t;exact Hu P U T y b λu' V X=>⟨v,O,X,V,q⟩) E λdx x α Z Ω H Q S t g=>by
  unfold xO at g;split at g
  .split at g
   .rename_i C k hk
    obtain⟨a,ha,rfl⟩:=t;obtain⟨a',i,z,a0,h1,h2,h3⟩:=S.cell hk;rw[ha]at i;cases i;split at g
    .rename_i hc
     obtain⟨⟨N,m,T⟩,y⟩:=A C z hc h1;split at g
     .rename_i f hd
      obtain⟨v,hv,rv⟩:=(ed h3).1 f hd;exact⟨a,z,_,v,N,m,Y,h2,T,y,hv,bC.ret S rv g⟩
     .exact g.elim
    .exact g.elim
   .exact g.elim
  .exact g.elim
noncomputable def xP(a:B (L×Bool))(x:D)(c:aA):ax D:=match x with
 |.ref k=>match c[k]? with
  |J (.xc C _)=>match a.lookup C with
   |J b=>.ok (.bl b) c
   |_n=>.b
  |_=>.b
 |_=>.b
def hJ(K)(d:L->f'->Prop)(e)(c:B (L×Bool)):=∀C a b,c.lookup C=J b->d C a->(∃N f,iI K a N f)/\Hq K a/\õ K (.ref a) e=J b
def Zs(d:L->f'->Prop)(a:B (L×Bool)):V->Hp->VK->Prop:=λx H Q=>∃e C f b,x=.ref e/\CQ H e C f/\(∃c,d c C/\a.lookup c=J b)/\Q (.bl b) H
variable{G7:B (L×Bool)}
theorem FV(S:bp j z v a e)(f:au z v e h O)(g:bC j w z v e (xP G7 h a) Ξ):Zs j G7 O e Ξ:=by
 unfold xP at g;split at g
 .split at g
  .rename_i C q i
   obtain⟨c,k,rfl⟩:=f;obtain⟨r,d,l,m,n,o,s⟩:=S.cell i;rw[k]at d;cases d;split at g
   .rename_i b p
    exact⟨c,l,_,b,Y,o,⟨C,n,p⟩,bC.ret S (aM Y) g⟩
   .exact g.elim
  .exact g.elim
 .exact g.elim
variable{P1 T:K'}{ζ:g'}
theorem tI(e:hJ c.K j ζ G7)(f:Gl c "isinstance")(h:c.mg "isinstance"=_n)(a:iO c (d,P1) ζ)(i:D' [n,.Name d P1] c.env=(_d,eval n c.env)::D' [.Name d P1] c.env)(k:ba c j w n p):
  ba c j w (.Call (.Name "isinstance" o) [n,.Name d P1] [] T) (m1 (xP G7) p):=
 fU (λt l=>MA l f h a (by rintro C b ⟨m,q,r⟩;exact e m C b r q) i) k λdx x u Z y H Q S s g=>FV S s g
variable{A0:B g'}{J9:B (L×K')}{b:Nat}
theorem FW(f:∀C d a,G7.lookup C=J a->j C d->(∃N h,iI c.K d N h)/\Hq c.K d/\Ş c.K (.ref d) A0=J a)(i:Gl c "isinstance")(k:c.mg "isinstance"=_n)(e:Names c J9 A0)(hz:A0.length<=100)(l:D' [n,.Tuple (J9.map λz=>.Name z.1 z.2) b P1] c.env=(_d,eval n c.env)::D' [.Tuple (J9.map λz=>.Name z.1 z.2) b P1] c.env)(m:ba c j w n p):
  ba c j w (.Call (.Name "isinstance" o) [n,.Tuple (J9.map λz=>.Name z.1 z.2) b P1] [] T) (m1 (xP G7) p):=
 fU (λt q=>Hv q i k e hz (λC a ⟨r,h1,h2⟩=>f r C a h2 h1) l) m λdx x u Z y H Q S s g=>FV S s g
def BF(x:D):=match x with
 |.t (.str c::a)=>(Qa a).map λg=>(c,Subtype.val g)
 |_=>_n
variable{U1:B (L×D)}
theorem FX(a:BF h=J (d,U1)):h=lX d U1:=by
 unfold BF at a;split at a
 .obtain⟨⟨g,rfl⟩,b,e⟩:=È.mp a
  cases e;rfl
 simp_all
theorem zT:BF (lX d U1)=J (d,U1):=by simp[BF,lX,FG]
def rf(e:SM)(cs:B L)(i:Nat)(f:SM):SM:=λd g=>match e d g with
 |.e x a=>(match BF x with
  |J (C,h)=>if cs.contains C then (match f (d.set i (J (.ref a.length))) (a++[.xc C h])with
   |.nx b c=>.nx (b.set i _n) c
   |_=>.b)else .b
  |_n=>.b)
 |r=>r
variable{C:L}{X3 Z8:B O'}{i:f'}{z5 υ:SM}{ω:O'}
theorem FY(V:c.stack=c.env::c.outer)(X:c.env.frame=some c.env.locals)(hg:Gl c d)(a0:c.mg d=some (.ref i))(b0:∀a F,l.contains a=_t->j a F->ŝ c.K (.ref F) (.ref i)=some _t)(hN:c.N.Nodup)(hi:c.N[b]?=some C)(hn:c.env.scope.names.lookup C=some .local)(hb:∀pl xe O E,h8 ((c.tV pl).wish xe) O E->PSa ((c.tV pl).wish xe) j (iJ j E) O X3 υ)(c0:∀pl e,jA ((c.tV pl).jL e) j j8 (ω::Z8) z5)(d0:(d==("__debug__"))=_d):
  jr c j w (.Try X3 [.ExceptHandler (some (.Name d o)) (some C) (ω::Z8) T] [] [] P1) (rf υ l b z5):=by
 intro g0 Z0 H0 ρ Ω pins s σ H D I h;refine cy h λα Z S f=>?_
 refine QL (v:=λF=>∃a,l.contains a=_t/\j a F) (W:=λg q fs t=>∃a k G m u,υ ρ Ω=.e (lX a u) m/\l.contains a=_t/\j a g/\b9 α Z H k G t/\bp j k G m t/\Zc k G t u fs) I V X hg a0 (λg z=>by obtain⟨a,z1,z2⟩:=z;exact b0 a g z1 z2) hN hi hn (λxe e0=>?_) (λg e q fs oe H' s4 hC y hW A c1 c2 c3 c4 J=>?_) d0
 .refine hb _ xe σ _ e0 α Z H ρ Ω [] s σ H D (I.tV.wish xe) ⟨Y,α,Z,⟨S.st,b9.refl S.st.has,S.len,S.val⟩,?_⟩
  unfold rf at f;cases n:υ ρ Ω with
  |e x m=>
   rw[n]at f;dsimp only at f;cases hx:BF x with
   |none=>rw[hx]at f;exact f.elim
   |some p=>
    obtain⟨a,u⟩:=p;rw[hx]at f;dsimp only at f;obtain rfl:=FX hx;split at f
    .rename_i Q
     intro H' k G g1 P;exact⟨a,u,Y,λF dd vs U y fl n1 n2=>⟨F,dd,vs,Y,⟨a,Q,U⟩,Y,y,a,_,G,_,u,Y,Q,U,g1,P,fl⟩⟩
    .exact f.elim
  |_=>rw[n]at f;exact OB S (by simp) f
 .obtain⟨a,k,G,m,u,n,Q,U,g1,P,fl⟩:=hW
  obtain⟨S2,g2⟩:=P.laid (c:=.xc a u) A λR hR=>⟨g,fs,U,Ht c1 c3 c2 c4 y,fF.imp hR fl⟩
  unfold rf at f;rw[n]at f;dsimp only at f;rw[zT]at f;dsimp only at f;rw[if_pos Q]at f;refine c0 _ e _ Z0 H0 _ _ [] s4 _ _ _ J ⟨_,_,((S.grow g1 P).grow g2 S2).set (d:=.ref m.length) ?_ b,?_⟩
  .exact⟨e,by rw[←P.len];simp,Y⟩
  .cases M:z5 _ _ with
   |nx h0 f0=>
    rw[M]at f;intro i0 H' j0 Z2 S';exact f _ H' _ Z2 S'.Zd
   |rt r f0=>rw[M]at f;exact f.elim
   |bk _ _=>rw[M]at f;exact f.elim
   |ct _ _=>rw[M]at f;exact f.elim
   |e _ _=>rw[M]at f;exact f.elim
   |b=>rwa[M]at f
end Mir
namespace L2
open PySem PySem.Spec PyProof.Rows
variable{C d:L}{E4:Sp}{G:G'}{H:F'}{M:W'}{N:T'}{b:Nat}{i:f'}{i0 l:B L}{j0:Â}{θ:L->_o g'}{ω:O'}
theorem tU.okM(F:tU G d C ω i j0)(S:hY l i0 (ah ω))(g:∀c a Q E,E4 c a Q E->c.length=i0.length)(e:∀f A h outer s a c Q E,bF b (A.deeper (Ç C (ah ω) s.heap.objs.size i f))->E4 c a Q E ->
   ∃t,j6 ((cz dZ M N G θ H l C (ah ω) i f A outer s a E).jL h) (bg ω) t/\t {nx:=λ_ m=>Q .n m,rt:=Q} (start l c) a):vJ M N G θ H (b+1) i j0 i0 E4:=by
 obtain⟨oc,r,kV,n,u,w,f,ct,o,rfl,p,j⟩:=F.ex;exact MD p j S g λA h outer s a c Q E q k=>e _ A h _ s a c Q E q k
end L2
namespace Mir
open PySem PySem.Spec PyProof.Rows L2
variable [iT]
variable{Q0:AM}{S i:f'}{T o:K'}{Z:B p'}{b:Nat}{c:Cx}{d:L}{j:L->f'->Prop}{j0:Â}{l:B L}{n:p'}{r:az}{w:ij}
theorem rg(F:vJ c.prog c.w c.K c.mg c.base b S j0 l (bE j r))(m:bF b c.A)(p:Gl c d)(q:c.mg d=J (.ref S))(s:Î c.K (.ref S)=_t)(t:Binds c.K j0 l [])(f:(d==("__debug__"))=_d)(u:D' (n::Z) c.env=(_d,eval n c.env)::D' Z c.env)(h:(À T (D' Z c.env)).any (·.1)=_d)(x:mH (c.jL i) j w (n::Z) Q0):
  ba (c.jL i) j w (.Call (.Name d o) (n::Z) [] T) (mN (aQ r) Q0):=by
 intro k y z C D;refine PE.imp (De (o3:=λ_ _ _=>False) F m p q s t (x k y z C D) f u h) ?_
 rintro U H Q ⟨E,a,e,g⟩;exact⟨E,a,e,pH.use g λG I _ V X M N g1 O P R=>⟨_,N,_,G,O,P,bC.ok0 R⟩⟩
variable{C:L}{G:G'}{H:F'}{M:W'}{N:T'}{i0:B L}{θ:L->_o g'}{υ:SM}{ω:O'}
theorem zU(F:tU G d C ω i j0)(p:fT l i0 (ah ω)=_t)(t:∀e A h outer s a E,bF b (A.deeper (Ç C (ah ω) s.heap.objs.size i e))->jA ((cz dZ M N G θ H l C (ah ω) i e A outer s a E).jL h) j j8 (bg ω) υ):
  vJ M N G θ H (b+1) i j0 i0 (bE j (aw l.length i0.length υ)):=by
 refine F.okM (eY p) (λu a Q E h=>?_) λe A h outer s a u Q E w x=>?_
 .refine bj h λf Z k y S r g=>?_
  rw[r.length];unfold aw at g;split at g
  .omega
  .exact g.elim
 .refine bj x λf Z k y S r g=>?_
  refine⟨_,t _ A h _ s a E w f Z a _ k,f,Z,iq S r,?_⟩;unfold aw at g;split at g
  .cases q:υ _ k with
   |rt m c=>rwa[q]at g
   |nx n c=>rw[q]at g;exact λK z D I o=>g _ z _ I o.gr o.st (aM Y)
   |bk n c=>rw[q]at g;exact g.elim
   |ct n c=>rw[q]at g;exact g.elim
   |e d c=>rwa[q]at g
   |b=>rwa[q]at g
  .exact g.elim
abbrev Kc:=L×(K'×K'×K'×K')×B (L×Bool)
noncomputable def LO(en:L)(z:Kc):p':=.Call (.Name "isinstance" z.2.1.1) [.Name en z.2.1.2.1,.Name z.1 z.2.1.2.2.1] [] z.2.1.2.2.2
abbrev Zt:=B (L×K')×Nat×K'×K'×K'×K'
noncomputable def OX(en:L)(z:Zt):p':=.Call (.Name "isinstance" z.2.2.1) [.Name en z.2.2.2.1,.Tuple (z.1.map λz=>.Name z.1 z.2) z.2.1 z.2.2.2.2.1] [] z.2.2.2.2.2
def Zu(t:B (L×Bool)):=m1 (xP t) (aa 0)
def WR(l:B (B (L×Bool))):=l.foldr (λt a=>ae (Zu t) a) aj
def BG(l1 l2:B (B (L×Bool)))(z0:B (L×Bool))(a:B L):=
 af (aJ 1 (mN b_ (WR l1))) (af (aJ 1 (m2 (bb .Add) (aa 1) (mN b_ (WR l2))))
 (af (cw (pQ (dz (Zu z0)) (m2 (ay .NotEq) (c6 pI gs (aa 1) (ae (ai (.bl _t)) aj)) (ai (.int 1)))) (af (a7 (ai (.str "other"))) ag) ag)
 (af (a7 (m2 aR (mN b_ (a.foldr (λx b=>ae (ai (.str x)) b) aj)) (c6 pI dr (aa 1) (ae (ai (.bl _t)) aj)))) ag)))
theorem FZ{X a b en}(c:∀{p},ba X a b (.Name en p) (aa 0))(d:Gl X "isinstance")(e:X.mg "isinstance"=_n):∀l:B Kc,(∀z∈l,∃v,hJ X.K a v z.2.2/\∀r,iO X (z.1,r) v)->mH X a b (l.map (LO en)) (WR (l.map (·.2.2)))
 |[],_=>cF
 |z::l,h=>by
  obtain⟨v,f,g⟩:=h z (by simp)
  exact bf (tI f d e (g _) Y c) (FZ c d e l λz i=>h z (by simp[i])) Y
theorem zV{X a b en e t}(c:ba X a b e (Zu t))(d:isStar e=_d)(f:∀{p},ba X a b (.Name en p) (aa 0))(g:Gl X "isinstance")(i:X.mg "isinstance"=_n):∀l:B Kc,(∀z∈l,∃v,hJ X.K a v z.2.2/\∀r,iO X (z.1,r) v)->mH X a b (l.map (LO en)++[e]) (WR (l.map (·.2.2)++[t]))
 |[],_=>bf c cF (bw d)
 |z::l,h=>by
  obtain⟨v,j,k⟩:=h z (by simp)
  exact bf (tI j g i (k _) Y f) (zV c d f g i l λz m=>h z (by simp[m])) Y
theorem rh{X}:∀{a}{cs},aE (λz v=>X.mg z.1=J v/\X.env.scope.names.lookup z.1=J .globalImplicit/\(z.1==("__debug__":L))=_d) a cs->Names X a cs
 |_,_,.nil=>.nil
 |_,_,.cons ⟨b,c,d⟩ h=>.cons (n5 c b d) (rh h)
noncomputable def kE(z:L×Nat×K'):p':=.Constant (.str z.1) z.2.1 z.2.2
theorem F4{X a b}:∀l:B (L×Nat×K'),mH X a b (l.map kE) ((l.map (·.1)).foldr (λx as=>ae (ai (.str x)) as) aj)
 |[]=>cF
 |_::l=>bf (cW jI Y) (F4 l) Y
variable{A0:B g'}{A7 E5 G8 J8 L8 M8 N8 P1 P8 Q8 R8 S8 V7 W7 X7 Y7 Z7 c8 f8 i8 p9 r9 u9 v9:K'}{G7:B (L×Bool)}{P V0 m Θ:Nat}{Δ:aV}
theorem Kd(W:cq M N G θ H Δ b){l1 l2:B Kc}{z0:Kc}{z2}{ks:B (L×Nat×K')}(n:(c8.endLine==i8.line)=_t/\(S8.endLine==r9.line)=_t)(h1:∀z∈l1,∃v,hJ G (aZ θ) v z.2.2/\θ z.1=J v/\(ah ω).names.lookup z.1=J .globalImplicit/\(z.1==("__debug__"))=_d)(h2:∀z∈l2,∃v,hJ G (aZ θ) v z.2.2/\θ z.1=J v/\(ah ω).names.lookup z.1=J .globalImplicit/\(z.1==("__debug__"))=_d)(h4:∀c q e,G7.lookup c=J e->aZ θ c q->(∃i fI,iI G q i fI)/\Hq G q/\Ş G (.ref q) A0=J e)(h5:aE (λz v=>θ z.1=J v/\(ah ω).names.lookup z.1=J .globalImplicit/\(z.1==("__debug__":L))=_d) z2.1 A0)(h6:A0.length<=100)(h3:∃v,hJ G (aZ θ) v z0.2.2/\θ z0.1=_n/\Ĉ z0.1=J v/\(ah ω).names.lookup z0.1=J .globalImplicit/\z0.1≠"__name__"/\(z0.1==("__debug__"))=_d)(se:(ah ω).names.lookup d=J .local)(ss:(ah ω).names.lookup C=J .local)(si:(ah ω).names.lookup ("isinstance":L)=J .globalImplicit)(s:∀z∈[d,C],(z==("__debug__"))=_d/\(z==("__classdict__"))=_d)(Sc:[d,C].Nodup)(X)(e1:X.N=[d,C])(e2:X.env.scope=ah ω)(e3:X.K=G)(e4:X.mg=θ)(D:X.A.units+64<Æ):jA X (aZ θ) j8 [.Assign [.Name C o] (.List (l1.map (LO d)) T) P1,.Assign [.Name C E5] (.BinOp (.Name C A7) .Add (.List (l2.map (LO d)++[OX d z2]) V7) W7) X7,
   .If (.BoolOp .Or [.UnaryOp .Not (LO d z0) Y7,.Compare (.Call (.Attribute (.Name C Z7) "count" c8) [.Constant (.bool _t) m f8] [] i8) [.NotEq] [.Constant (.int 1) P G8] J8] L8) [.Return (J (.Constant (.str "other") Θ M8)) N8] [] P8,
   .Return (J (.Subscript (.List (ks.map kE) Q8) (.Call (.Attribute (.Name C R8) "index" S8) [.Constant (.bool _t) V0 p9] [] r9) u9)) v9] (BG (l1.map (·.2.2)) (l2.map (·.2.2)++[G7]) z0.2.2 (ks.map (·.1))):=by
 subst e3;subst e4;have t:∀{p},ba X (aZ X.mg) j8 (.Name d p) (aa 0):=fV (by rw[e1];rfl) (by rw[e2];exact .inl se) (s d (by simp)).1 (s d (by simp)).2
 have v1:∀{p},ba X (aZ X.mg) j8 (.Name C p) (aa 1):=fV (by rw[e1];rfl) (by rw[e2];exact .inl ss) (s C (by simp)).1 (s C (by simp)).2
 have u:Gl X "isinstance":=by show X.env.scope.names.lookup _=_;simp_all
 have w:X.mg "isinstance"=none:=W.dB _ (by decide)
 have f:∀z:Kc,(∃v,hJ X.K (aZ X.mg) v z.2.2/\X.mg z.1=J v/\(ah ω).names.lookup z.1=J .globalImplicit/\(z.1==("__debug__"))=_d)->∃v,hJ X.K _ v z.2.2/\∀r,iO X (z.1,r) v:=λz ⟨v,E,I,q3,O⟩=>⟨v,E,λr=>n5 (by show X.env.scope.names.lookup _=_;simp_all) I O⟩
 have tu:ba X _ j8 (OX d z2) _:=FW h4 u w (rh (h5.imp (by simp_all))) h6 Y t
 have own:∀l:B Kc,(∀z∈l,∃v,hJ X.K _ v z.2.2/\X.mg z.1=J v/\(ah ω).names.lookup z.1=J .globalImplicit/\(z.1==("__debug__"))=_d)->mH X _ j8 _ _:=λl n=>FZ t u w l λz R=>f z (n z R)
 have k:X.N.Nodup:=by grind
 have hx:X.N[1]?=J C:=by simp_all
 have y:X.env.scope.names.lookup C=J .local:=by grind
 obtain⟨v,E,I,q3,O,q5,q6⟩:=h3;have kt:∀{j p},mH X (aZ X.mg) j8 [.Constant _ j p] (ae (ai (.bl _t)) aj):=bf (cW Kw Y) cF Y;refine bI (f_ k hx (.inl y) (.inr y) Y (m3 (own l1 h1))) (bI (f_ k hx (.inl y) (.inr y) Y (yC v1 (m3 (zV tu Y t u w l2 λz R=>f z (h2 z R))))) (bI (oQ (DX (yH (Ij (tI E u w (we (by show X.env.scope.names.lookup _=_;rw[e2];exact O) I q3 q5 q6) Y t) λ_=>Y)) (yJ (kL D Y (gq ŉ aff PySem.F.type_list_count (FT D) (λx v U Z V a S r h=>jP S r h) (λx v xs vs U Z V a Q S r rs g=>FU S r rs g) Y n.1 v1 kt (by simp;rfl) (by simp)) (cW vQ Y)).2)).pt (bI (eg (cW jI Y)) di) di) (bI (eg (sM (by omega) (λ_ _=>Y) (m3 (F4 ks)) (gq ŉ acA aeX (uC D) (λx v U Z V a S r h=>jP S r h) (λx v xs vs U Z V a Q S r rs g=>uO S r rs g) Y n.2 v1 kt (by simp;rfl) (by simp)))) di)))
variable{D6 V1:L}
theorem OY(W:cq M N G θ H Δ b)(F:tU G d C ω i j0){ve:L}(n:fT [V1,D6] [V1] (ah ω)=_t){l1 l2:B Kc}{z0 z2}{ks:B (L×Nat×K')}(j:bg ω=[.Assign [.Name D6 o] (.List (l1.map (LO V1)) T) P1,.Assign [.Name D6 E5] (.BinOp (.Name D6 A7) .Add (.List (l2.map (LO V1)++[OX V1 z2]) V7) W7) X7,
   .If (.BoolOp .Or [.UnaryOp .Not (LO V1 z0) Y7,.Compare (.Call (.Attribute (.Name D6 Z7) "count" c8) [.Constant (.bool _t) m f8] [] i8) [.NotEq] [.Constant (.int 1) P G8] J8] L8) [.Return (J (.Constant (.str "other") Θ M8)) N8] [] P8,
   .Return (J (.Subscript (.List (ks.map kE) Q8) (.Call (.Attribute (.Name D6 R8) "index" S8) [.Constant (.bool _t) V0 p9] [] r9) u9)) v9])(p:((c8.endLine==i8.line)&&(S8.endLine==r9.line))=_t)(q:∀z∈l1,∃v,hJ G (aZ θ) v z.2.2/\θ z.1=J v/\(ah ω).names.lookup z.1=J .globalImplicit/\(z.1==("__debug__"))=_d)(r:∀z∈l2,∃v,hJ G (aZ θ) v z.2.2/\θ z.1=J v/\(ah ω).names.lookup z.1=J .globalImplicit/\(z.1==("__debug__"))=_d)(t:∀a g e,G7.lookup a=J e->aZ θ a g->(∃f u,iI G g f u)/\Hq G g/\Ş G (.ref g) A0=J e)(w:aE (λz v=>θ z.1=J v/\(ah ω).names.lookup z.1=J .globalImplicit/\(z.1==("__debug__":L))=_d) z2.1 A0)(x:A0.length<=100)(y:∃v,hJ G (aZ θ) v z0.2.2/\θ z0.1=_n/\Ĉ z0.1=J v/\(ah ω).names.lookup z0.1=J .globalImplicit/\z0.1≠"__name__"/\(z0.1==("__debug__"))=_d)(D:(ah ω).names.lookup V1=J .local)(I:(ah ω).names.lookup D6=J .local)(K:(ah ω).names.lookup ("isinstance":L)=J .globalImplicit)(k:([V1,D6].all λz=>!(z==("__debug__"))&&!(z==("__classdict__")))=_t):
  vJ M N G θ H (b+1) i j0 [V1] (bE (aZ θ) (aw 2 1 (BG (l1.map (·.2.2)) (l2.map (·.2.2)++[G7]) z0.2.2 (ks.map (·.1))))):=by
 simp only[Õ]at p;generalize O:BG _ _ _ _=c;refine zU F n λQ A h outer s l E R=>?_
 subst O;have S:=eY n;rw[j]
 exact Kd W p q r t w x y D I K (λz U=>by
  have:=á.mp k z U;simpa using this) S.nd _ Y Y Y Y R.units
def F_(G)(a b c:B L):=
 af (aJ 1 (mN (aQ G) (ae (aa 0) aj)))
 (af (cw (m2 (ay .Eq) (aa 1) (ai (.str "many"))) (af (a7 (mN gm (ae (aa 1) (ae (m1 (xO a "most") (aa 0)) aj)))) ag) ag)
 (af (cw (m2 (ay .Eq) (aa 1) (ai (.str "own"))) (af (a7 (mN gm (ae (aa 1) (ae (m1 (xO b "word") (aa 0)) aj)))) ag) ag)
 (af (cw (m2 (ay .Eq) (aa 1) (ai (.str "other"))) (af (a7 (mN gm (ae (aa 1) (ae (ai .n) aj)))) ag) ag)
 (af (a7 (mN gm (ae (aa 1) (ae (m1 (xO c "name") (aa 0)) aj)))) ag))))
variable{A1 F5 G4 M5:Nat}{D7 N4:B L}{N9:Â}
theorem OZ(F:tU G d C ω i j0){gn}(u:fT [V1,D6] [V1] (ah ω)=_t)(x:vJ M N G θ H b S N9 l (bE (aZ θ) r))(j:Binds G N9 l [])(y:θ gn=J (.ref S))(D:Î G (.ref S)=_t)(x1:Uj G (aZ θ) i0 "most")(I:Uj G (aZ θ) N4 "word")(K:Uj G (aZ θ) D7 "name"){e4 O Q R e8 U V X Z g5}(k:bg ω=[.Assign [.Name D6 o] (.Call (.Name gn T) [.Name V1 P1] [] E5) A7,
   .If (.Compare (.Name D6 V7) [.Eq] [.Constant (.str "many") m W7] X7) [.Return (J (.Tuple [.Name D6 Y7,.Attribute (.Name V1 Z7) "most" c8] P f8)) i8] [] G8,
   .If (.Compare (.Name D6 J8) [.Eq] [.Constant (.str "own") Θ L8] M8) [.Return (J (.Tuple [.Name D6 N8,.Attribute (.Name V1 P8) "word" Q8] V0 R8)) S8] [] p9,
   .If (.Compare (.Name D6 r9) [.Eq] [.Constant (.str "other") A1 u9] v9) [.Return (J (.Tuple [.Name D6 e4,.Constant .none G4 O] F5 Q)) R] [] e8,
   .Return (J (.Tuple [.Name D6 U,.Attribute (.Name V1 V) "name" X] M5 Z)) g5])(se:(ah ω).names.lookup V1=J .local)(n:(ah ω).names.lookup D6=J .local)(sg:(ah ω).names.lookup gn=J .globalImplicit)(q:([V1,D6,gn].all λz=>!(z==("__debug__"))&&!(z==("__classdict__")))=_t):
  vJ M N G θ H (b+1) i j0 [V1] (bE (aZ θ) (aw 2 1 (F_ r i0 N4 D7))):=by
 have e:∀z∈[V1,D6,gn],(z==("__debug__"))=_d/\(z==("__classdict__"))=false:=λz hz=>by
  have:=á.mp q z hz
  simp_all
 generalize hc:F_ r i0 N4 D7=c;refine zU F u λf A h outer s a E w=>?_
 subst hc;have Sc:=eY u;rw[k];have g:∀{p},ba ((cz dZ M N G θ H [V1,D6] C _ i f A outer s a E).jL h) (aZ θ) j8 (.Name V1 p) (aa 0):=fV Y (.inl se) (e V1 (by simp)).1 (e V1 (by simp)).2
 have v1:∀{p},ba ((cz dZ M N G θ H [V1,D6] C _ i f A outer s a E).jL h) (aZ θ) j8 (.Name D6 p) (aa 1):=fV Y (.inl n) (e D6 (by simp)).1 (e D6 (by simp)).2
 have t:=w.units;refine bI (f_ Sc.nd Y (.inl n) (.inr n) Y (rg x w sg y D j (e gn (by simp)).1 Y Y (bf g cF Y))) ?_
 refine bI (oQ (kL t Y v1 (cW jI Y)).2 (bI (eg (jm (bf v1 (bf (tH x1 Y g) cF Y) Y))) di) di) ?_;refine bI (oQ (kL t Y v1 (cW jI Y)).2 (bI (eg (jm (bf v1 (bf (tH I Y g) cF Y) Y))) di) di) ?_;refine bI (oQ (kL t Y v1 (cW jI Y)).2 (bI (eg (jm (bf v1 (bf (cW BX Y) cF Y) Y))) di) di) (bI (eg (jm (bf v1 (bf (tH K Y g) cF Y) Y))) di)
theorem xQ(F:vJ c.prog c.w c.K c.mg c.base b S j0 l (bE j r))(f:bF b c.A)(g:Gl c d)(h:c.mg d=J (.ref S))(k:Î c.K (.ref S)=_t)(n:Binds c.K j0 l [])(a:(d==("__debug__"))=_d)(p:c.N.Nodup)(q:c.N[m]?=J C)(s:BL c.env.scope C)(t:(C==("__debug__"))=_d)(u:(C==("__classdict__"))=_d)(x:c.N[P]?=J V1)(e:c.env.scope.names.lookup V1=J .local):
  jA (c.jL i) j w [.Assign [.Name V1 o] (.Call (.Name d T) [.Name C P1] [] E5) A7] (af (aJ P (mN (aQ r) (ae (aa m) aj))) ag):=
 bI (f_ p x (.inl e) (.inr e) Y (rg F f g h k n a Y Y (bf (fV q s t u) cF Y))) di
def tJ(w:L)(D a:az)(cs:B L):=af (aJ 4 (mN gm (ae (ai (.str w)) (ae (ai .n) aj)))) (af (rf (cA (mN D (ae (aa 0) (ae (aa 1) (ae (aa 2) (ae (aa 3) aj)))))) cs 5 (af (aJ 4 (mN (aQ a) (ae (aa 5) aj))) ag)) (af (a7 (aa 4)) ag))
variable{P0 y2:f'}{d0:az}
theorem Ga(W:cq M N G θ H Δ b)(F:tU G d C ω i j0){n2 n3 tn en bn dn fn K}(U:fT [V1,D6,n2,n3,tn,en] [V1,D6,n2,n3] (ah ω)=_t){h}(V:bt M N G θ H (jK M N) b P0 N9 l (i_ (aZ θ) r))(k:Binds G N9 l [])(X:θ dn=J (.ref P0))(kd:Î G (.ref P0)=_t)(Z:vJ M N G θ H b y2 h i0 (bE (aZ θ) d0))(n:Binds G h i0 [])(mf:θ fn=J (.ref y2))(kf:Î G (.ref y2)=_t)(q:bg ω=[.Assign [.Name tn o] (.Tuple [.Constant (.str K) m T,.Constant .none P P1] Θ E5) A7,.Try [.Expr (.Call (.Name dn V7) [.Name V1 W7,.Name D6 X7,.Name n2 Y7,.Name n3 Z7] [] c8) f8] [.ExceptHandler (J (.Name bn i8)) (J en) [.Assign [.Name tn G8] (.Call (.Name fn J8) [.Name en L8] [] M8) N8] P8] [] [] Q8,.Return (J (.Name tn R8)) S8])(t:θ bn=J (.ref S))(u:∀c O,N4.contains c=_t->aZ θ c O->ŝ G (.ref O) (.ref S)=J _t)(s0:(ah ω).names.lookup V1=J .local)(s1:(ah ω).names.lookup D6=J .local)(s2:(ah ω).names.lookup n2=J .local)(s3:(ah ω).names.lookup n3=J .local)(g:(ah ω).names.lookup tn=J .local)(Q:(ah ω).names.lookup en=J .local)(sb:(ah ω).names.lookup bn=J .globalImplicit)(sd:(ah ω).names.lookup dn=J .globalImplicit)(sf:(ah ω).names.lookup fn=J .globalImplicit)(w:([V1,D6,n2,n3,tn,en,bn,dn,fn].all λz=>!(z==("__debug__"))&&!(z==("__classdict__")))=_t):
  bt M N G θ H dZ (b+1) i j0 [V1,D6,n2,n3] (bE (aZ θ) (aw 6 4 (tJ K r d0 N4))):=by
 have f:∀z∈[V1,D6,n2,n3,tn,en,bn,dn,fn],(z==("__debug__"))=_d/\(z==("__classdict__"))=false:=λz hz=>by
  have:=á.mp w z hz
  simp_all
 refine JR W F U λa0 A outer s x E a=>?_
 have y:=a.tZ;rw[q];have vr:∀{D:Cx}{Φ:ij}{j:Nat}{z:L}{p:K'},D.N=[V1,D6,n2,n3,tn,en]->D.env.scope=ah ω->[V1,D6,n2,n3,tn,en][j]?=J z->(ah ω).names.lookup z=J _->(z==("__debug__"))=_d/\(z==("__classdict__"))=_d->ba D (aZ θ) Φ (.Name z p) (aa j):=λe1 e2 h1 h2 R=>fV (by simp_all) (by rw[e2];exact .inl h2) R.1 R.2
 refine bI (f_ y Y (.inl g) (.inr g) Y (jm (bf (cW jI Y) (bf (cW BX Y) cF Y) Y))) (bI ?_ (bI (eg (vr Y Y Y g (f _ (by simp)))) di))
 refine FY Y Y sb t u y Y Q (λpl xe b0 E' I=>JS (BC V a.room sd X kd k I (f dn (by simp)).1 Y Y (bf (vr (j:=0) Y Y Y s0 (f _ (by simp))) (bf (vr (j:=1) Y Y Y s1 (f _ (by simp))) (bf (vr (j:=2) Y Y Y s2 (f _ (by simp))) (bf (vr (j:=3) Y Y Y s3 (f _ (by simp))) cF Y) Y) Y) Y)) Y) (λpl e=>xQ (m:=5) (P:=4) Z a.room sf mf kf n (f fn (by simp)).1 y Y (.inl Q) (f en (by simp)).1 (f en (by simp)).2 Y g) (f bn (by simp)).1
noncomputable def j_:B Str:=["NoName","Twice","NoKind","TooMany","NoThing","NoOwn"]
noncomputable def wd(C:L):Str:=if C="NoName" then "name" else if C="Twice" then "twice" else if C="NoKind" then "kind" else if C="TooMany" then "many" else if C="NoThing" then "thing" else "own"
def nK(c):=j_.map λC=>(C,C==c)
def Qe:=j_.map λC=>(C,_t)
def WS:=j_.map λC=>(C,_d)
theorem O_(a:C∈j_):C="NoName"\/C="Twice"\/C="NoKind"\/C="TooMany"\/C="NoThing"\/C="NoOwn":=by
 simpa[j_]using a
abbrev Zv:=[nK "NoName",nK "Twice",nK "NoKind",nK "TooMany"]
abbrev Zw:=[nK "NoThing",nK "NoOwn",WS]
noncomputable def Uk:B Str:=["name","twice","kind","many","thing","own","other"]
def Ul(c:az):=∀b j C d,b[j]?=J (.xc C d)->C∈j_->∃a,c [.ref j] b=.ok (.str (wd C)) a/\ao [] b a
variable{E:Bool}{U1:B (L×D)}{a:aA}
theorem jg(h:a[b]?=J (.xc C U1))(c:G7.lookup C=J E):xP G7 (.ref b) a=.ok (.bl E) a:=by
 simp only[xP,h,c]
noncomputable def L7(a b c d e f:Bool):B D:=[.bl a,.bl b,.bl c,.bl d]++[.bl e,.bl f,.bl _d]
theorem Um:Ul (aw 2 1 (BG Zv Zw Qe Uk)):=by
 intro b j C fs h G
 have c:∀(f l m n o s:Bool) (i:Nat),(nK "NoName").lookup C=J f->(nK "Twice").lookup C=J l->(nK "NoKind").lookup C=J m->(nK "TooMany").lookup C=J n->(nK "NoThing").lookup C=J o->(nK "NoOwn").lookup C=J s->WS.lookup C=J _d->Qe.lookup C=J _t ->
   (∀{b:aA}{k},et b 8 (.ref k)=J (.l (L7 f l m n o s))->gs (.ref k) [.bl _t] b=.ok (.int 1) b/\dr (.ref k) [.bl _t] b=.ok (.int i) b) ->
   Uk[i]?=J (wd C)->∃d,aw 2 1 (BG Zv Zw Qe Uk) [.ref j] b=.ok (.str (wd C)) d/\ao [] b d:=by
  intro f l m n o s i H I t3 K M N O P D Q;obtain⟨R,S,E,T⟩:=kA (eN (u:=[oR j,_n]) (eK (eP (p:=aa 0) Y (jg h H)) (eK (eP (p:=aa 0) Y (jg h I)) (eK (eP (p:=aa 0) Y (jg h t3)) (eK (eP (p:=aa 0) Y (jg h K)) (Q0:=aj) Y)))) lN);have t:=E.g h;obtain⟨e,e2,x,U⟩:=kA (eN (u:=[oR j,oR b.length]) (eK (eP (p:=aa 0) Y (jg t M)) (eK (eP (p:=aa 0) Y (jg t N)) (eK (eP (p:=aa 0) Y (jg t O)) (Q0:=aj) Y))) lN);obtain⟨y,V,F,w⟩:=kA (iw (x.g T) U (by simp))
  have X:=F.g (x.g t);obtain⟨z,e4,A,Z⟩:=kA (lN (q:=Uk.map .str) (a:=y));have r:∀{b:aA},b[e.length]?=J (.l (L7 f l m n o s))->et b 8 (.ref e.length)=J _:=λ{b} g=>by simp only[et,g];rfl
  refine⟨z,fR ((qA S).trans ((qA (eQ Y e2 V)).trans ((q0 (oF (nT (eP Y (jg X P))) (eQ (eL Y Y (gg w) (D (r w)).1) Y Y))).trans (qR (eQ (eN Y e4) (eL Y Y (gg (A.g w)) (D (r (A.g w))).2) (aU Z (L2.bQ (by rw[Ü,Q];rfl)))))))),(E.trans x).trans (F.trans A)⟩
 rcases O_ G with rfl|rfl|rfl|rfl|rfl|rfl
 .exact c _t _d _d _d _d _d 0 Y Y Y Y Y Y Y Y (λ{b k} h=>by simp only[gs,dr,eG,h];exact⟨Y,Y⟩) Y
 .exact c _d _t _d _d _d _d 1 Y Y Y Y Y Y Y Y (λ{b k} h=>by simp only[gs,dr,eG,h];exact⟨Y,Y⟩) Y
 .exact c _d _d _t _d _d _d 2 Y Y Y Y Y Y Y Y (λ{b k} h=>by simp only[gs,dr,eG,h];exact⟨Y,Y⟩) Y
 .exact c _d _d _d _t _d _d 3 Y Y Y Y Y Y Y Y (λ{b k} h=>by simp only[gs,dr,eG,h];exact⟨Y,Y⟩) Y
 .exact c _d _d _d _d _t _d 4 Y Y Y Y Y Y Y Y (λ{b k} h=>by simp only[gs,dr,eG,h];exact⟨Y,Y⟩) Y
 .exact c _d _d _d _d _d _t 5 Y Y Y Y Y Y Y Y (λ{b k} h=>by simp only[gs,dr,eG,h];exact⟨Y,Y⟩) Y
def Pa(c:az):=∀b j C d,b[j]?=J (.xc C [(Qb C,d)])->C∈j_->∃a,c [.ref j] b=.ok (.t [.str (wd C),d]) a/\ao [] b a
variable{h:D}
theorem xR(c:a[b]?=J (.xc C U1))(e:l.contains C=_t)(f:U1.lookup d=J h):xO l d (.ref b) a=.ok h a:=by
 simp only[xO,c,e,f,if_true]
theorem Uo(m:Ul r):Pa (aw 2 1 (F_ r ["TooMany"] ["NoOwn"] ["NoName","Twice","NoKind","NoThing"])):=by
 intro f j C d h l;obtain⟨c,a,i⟩:=m f j C _ h l;have b:=i.g h
 have k:∀{C:L},c[j]?=J (.xc C [("name",d)])->(["NoName","Twice","NoKind","NoThing"]:B L).contains C=_t->(∀{w:L},w="many"\/w="own"\/w="other"->(wd C==w)=_d)->r _ f=.ok _ _->∃e,aw 2 1 (F_ r ["TooMany"] ["NoOwn"] _) [.ref j] f=.ok _ e/\ao [] f e:=λ{C} g n o a=>by
  have z:∀{w:L},w="many"\/w="own"\/w="other"->ay .Eq (.str _) _ _=.ok _ _:=λ{w} q=>by
   rw[show ay _ _ (.str w) _=.ok (.bl (wd C==w)) c from Y,o q]
  exact⟨_,fR ((qA (eC Y a)).trans ((q0 (eQ Y Y (z (.inl Y)))).trans ((q0 (eQ Y Y (z (by simp)))).trans ((q0 (eQ Y Y (z (by simp)))).trans (qR (eN (eK Y (eK (eP Y (xR g n Y)) Y)) Y)))))),i⟩
 rcases O_ l with rfl|rfl|rfl|rfl|rfl|rfl
 .exact k b Y (by rintro w (rfl|rfl|rfl)<;>rfl) a
 .exact k b Y (by rintro w (rfl|rfl|rfl)<;>rfl) a
 .exact k b Y (by rintro w (rfl|rfl|rfl)<;>rfl) a
 .exact⟨_,fR ((qA (eC Y a)).trans ((qT (eQ Y Y Y)).trans (qB (qR (eN (eK Y (eK (eP Y (xR b Y Y)) Y)) Y))))),i⟩
 .exact k b Y (by rintro w (rfl|rfl|rfl)<;>rfl) a
 .exact⟨_,fR ((qA (eC Y a)).trans ((q0 (eQ Y Y Y)).trans ((qT (eQ Y Y Y)).trans (qB (qR (eN (eK Y (eK (eP Y (xR b Y Y)) Y)) Y)))))),i⟩
def ri(p:L×D):D:=.t [.str (wd p.1),p.2]
variable{D8:L×D}{x:aA}{ε:D}
theorem fE(f:Pa r)(g:d0 [.ref b,.str d,h,ε] a=.e (xF D8) x)(i:D8.1∈j_):∃aq,aw 6 4 (tJ "none" d0 r j_) [.ref b,.str d,h,ε] a=.ok (ri D8) aq/\ao [] x aq:=by
 obtain⟨C,c⟩:=D8;have j:ao [] _ (x++[.xc C [(Qb C,c)]]):=ao.app;obtain⟨e,e2,k⟩:=f (x++[.xc C _]) _ C c aG i
 have l:rf (cA (mN d0 (ae (aa 0) (ae (aa 1) (ae (aa 2) (ae (aa 3) aj)))))) j_ 5 (af (aJ 4 (mN (aQ r) (ae (aa 5) aj))) ag) [oR b,oS d,J h,J ε,J (.t [.str "none",.n]),_n] a=.nx [oR b,oS d,J h,J ε,J (.t [.str (wd C),c]),_n] e:=by
  unfold rf;rw[zl,show mN d0 (ae (aa 0) (ae (aa 1) (ae (aa 2) (ae (aa 3) aj)))) [oR b,oS d,J _,J _,J _,_n] a=.e _ _ from g]
  dsimp only[xF,cC];rw[zT]
  simp_all
 exact⟨_,fR ((qA Y).trans ((qN l).trans (qR Y))),j.trans k⟩
variable{Q U0:Int}
theorem Zx(h:Q<U0):ay .GtE (.int Q) (.int U0) a=.ok (.bl _d) a:=by simp_all
variable{B1 X6:B (L×EM)}{F3:aA}{X4:D}
theorem Up(c:r [h] a=.ok (.bl _d) x)(e2:fD "NoName" B1 [] [_n,J h] x=.e X4 F3):aw 3 3 (xG r d0 B1 X6) [.ref b,h,ε] a=.e X4 F3:=
 fX ((qT (nT (eC Y c))).trans (qY (qY (rz Y e2))))
variable{A:B (B L)}{U:B (Key×D)}
theorem Uq(g:fC r)(i:FI "Twice" B1)(W:Tn a b m P Θ V0 A1 U A)(j:dU d)(k:aN U (.inr d)=J ε):∃aq,aw 3 3 (xG r d0 B1 X6) [.ref b,.str d,h] a=.e (xF ("Twice",.str d)) aq/\ao [] a aq:=by
 obtain⟨l,n,e⟩:=g a d j;have f:=W.aO e;have c:=pT (d:=d) (.inl f.dk);rw[k]at c;obtain⟨o,e2,p⟩:=i _ (.str d) (by simp)
 exact⟨_,fX ((q0 (nT (eC Y n))).trans ((qT (eQ Y (eF Y f.ob) c)).trans (qY (qY (rz Y e2))))),e.trans p⟩
theorem Ur(g:fC r)(i:FI "TooMany" X6)(W:Tn a b m P Θ V0 A1 U A)(j:dU d)(k:aN U (.inr d)=_n)(q:40<=U.length):∃aq,aw 3 3 (xG r d0 B1 X6) [.ref b,.str d,h] a=.e (xF ("TooMany",.int 40)) aq/\ao [] a aq:=by
 obtain⟨l,n,f⟩:=g a d j;have e:=W.aO f;have c:=pT (d:=d) (.inl e.dk);rw[k]at c;obtain⟨o,e2,p⟩:=i _ (.int 40) (by simp)
 exact⟨_,fX ((q0 (nT (eC Y n))).trans ((q0 (eQ Y (eF Y e.ob) c)).trans ((qT (eQ (eN (eK (eF Y e.ob) Y) (mw (.inl e.dk))) Y (Wl (by grind)))).trans (qY (qY (rz Y e2)))))),f.trans p⟩
variable{U2:L->B L}{X0:kX}{Y0:Nat->Prop}
theorem WT(h:fC r)(i:TU d0)(W:Tn a b m P Θ V0 A1 U A)(j:a[m]?=J (.ins "Town" (("house",.ref G4)::U1)))(H:dc Y0 a G4 X0 U2)(k:C∉nms X0)(l:dU d)(n:aN U (.inr d)=_n)(o:U.length<40):
  ∃aq,aw 3 3 (xG r d0 B1 X6) [.ref b,.str d,.str C] a=.e (xF ("NoKind",.str C)) aq/\ao [] a aq:=by
 obtain⟨p,q,c⟩:=h a d l;have e:=W.aO c;have f:=pT (d:=d) (.inl e.dk);rw[n]at f;obtain⟨s,e2,t⟩:=i _ G4 X0 U2 Y0 C (H.keep c) k;obtain⟨_,_,_,_,u,_⟩:=H.keep c;exact⟨_,fX ((q0 (nT (eC Y q))).trans ((q0 (eQ Y (eF Y e.ob) f)).trans ((q0 (eQ (eN (eK (eF Y e.ob) Y) (mw (.inl e.dk))) Y (Zx (Ku o)))).trans (qX (eX (eF (eF Y e.ob) (c.g j)) u Y e2))))),c.trans t⟩
variable{A3 E1:az}
theorem Us(c:cI r)(W:Tn a b m P Θ V0 A1 U A)(e:aN U (.inr d)=J (.ref G4))(f:d0 [h] a=.ok (.bl _d) x)(e2:fD "NoName" B1 [] [_n,J h] x=.e X4 F3):aw 6 4 (BD d0 r E1 A3 B1 X6) [.ref b,.str d,h,ε] a=.e X4 F3:=
 fX ((qA (TX W Y Y (c _ _ _ _ _ _ _ _ _ _ _ W e))).trans ((qT (nT (eC Y f))).trans (qY (qY (rz Y e2)))))
variable{V2:B (L×Int)}
theorem Qf(k:fC d0)(l:cI r)(n:fL E1)(o:FI "TooMany" X6)(W:Tn a b m P Θ V0 A1 U A)(p:aN U (.inr d)=J (.ref G4))(G:Tg a A1 G4 F5 M5 V1 V2 A)(q:dU C)(s:C∉cb V2)(t:V2.length=12):
  ∃aq,aw 6 4 (BD d0 r E1 A3 B1 X6) [.ref b,.str d,.str C,h] a=.e (xF ("TooMany",.int 12)) aq/\ao [] a aq:=by
 obtain⟨u,w,c⟩:=k a C q;have e:=W.aO c;have f:=G.aO c;obtain⟨x,e2,g⟩:=n _ P Θ V0 M5 A _ C e.sh f.wd;have i:=f.aO g;rw[show kZ _ C=.n from if_neg s]at e2
 have j:=gf i.sl;rw[ß,t]at j;obtain⟨y,z,D⟩:=o _ (.int 12) (by simp)
 refine⟨_,fX ((qA (TX W Y Y (l _ _ _ _ _ _ _ _ _ _ _ W p))).trans ((q0 (nT (eC Y w))).trans ((qA (Lx e.sh (eF Y e.ob) (by decide) (eK (eF Y f.ob) (eK Y Y)) e2)).trans ((q0 (eQ Y Y Y)).trans ((qT (eQ (eN (eK (eF Y i.ob) Y) j) Y (by simp))).trans (qY (qY (rz Y z)))))))),(c.trans g).trans D⟩
theorem WU(c:cI r)(e:fL d0)(f:FI "NoOwn" B1)(W:Tn a b m P Θ V0 A1 U A)(g:aN U (.inr d)=J (.ref G4))(G:Tg a A1 G4 F5 M5 V1 V2 A)(h:C∉cb V2):
  ∃aq,aw 5 3 (FJ r d0 E1 B1) [.ref b,.str d,.str C] a=.e (xF ("NoOwn",.str C)) aq/\ao [] a aq:=by
 obtain⟨i,e2,j⟩:=e a P Θ V0 M5 A _ C W.sh G.wd;rw[show kZ _ C=.n from if_neg h]at e2
 obtain⟨k,l,n⟩:=f _ (.str C) (by simp)
 exact⟨_,fX ((qA (TX W Y Y (c _ _ _ _ _ _ _ _ _ _ _ W g))).trans ((qA (Lx W.sh (eF Y W.ob) (by decide) (eK (eF Y G.ob) (eK Y Y)) e2)).trans ((qT (eQ Y Y Y)).trans (qY (qY (rz Y l)))))),j.trans n⟩
theorem WV(c:cI r)(e:TU d0)(W:Tn a b m P Θ V0 A1 U A)(f:aN U (.inr d)=J (.ref G4))(g:a[m]?=J (.ins "Town" (("house",.ref F5)::U1)))(H:dc Y0 a F5 X0 U2)(h:C∉nms X0):
  ∃aq,aw 4 3 (FK r d0) [.ref b,.str d,.str C] a=.e (xF ("NoKind",.str C)) aq/\ao [] a aq:=by
 obtain⟨i,j,k⟩:=e a F5 X0 U2 Y0 C H h;obtain⟨_,_,_,_,l,_⟩:=H;exact⟨_,fX ((qA (TX W Y Y (c _ _ _ _ _ _ _ _ _ _ _ W f))).trans (qX (eX (eF (eF Y W.ob) g) l Y j))),k⟩
theorem cN:("NoName":L)∈j_:=by decide
theorem cT:("Twice":L)∈j_:=by decide
theorem cK:("NoKind":L)∈j_:=by decide
theorem cM:("TooMany":L)∈j_:=by decide
theorem cG:("NoThing":L)∈j_:=by decide
theorem cO:("NoOwn":L)∈j_:=by decide
def tX(m:L)(F as):=cA (jY "Things" m F (aa 0) as)
def dI(w:L)(x c):=af (cw (m2 (ay .Eq) (aa 1) (ai (.str w))) (af x ag) c) ag
def a1:=ae (aa 2) aj
def a2:=ae (aa 2) (ae (aa 3) aj)
def cDo(a b c d e f g h i):=
 dI "make" (tX "make" a a2) (dI "put" (tX "put" b (ae (aa 2) (ae (aa 3) (ae (ai (.int 5)) aj)))) (dI "take" (tX "take" c a2) (dI "move" (tX "move" d a2) (dI "drop" (tX "drop" e a1) (dI "kind" (tX "kind_of" f a1) (dI "shape" (tX "shape_of" g a1) (dI "own" (tX "own" h a1) (af (tX "value_at" i (ae (aa 2) (ae (ai (.int 0)) aj))) ag))))))))
variable{u:a_}{z5:SM}
theorem vC(b:u[1]?=J (oS d))(c:υ u a=.e h x):dI d υ z5 u a=.e h x:=by
 unfold dI;rw[gc,EU,(eQ (by rw[eZ,b];rfl) Y (by rw[show ay .Eq (.str d) (.str d) a=.ok (.bl (d==d)) a from Y,beq_self_eq_true]))]
 simp_all
theorem cY(b:u[1]?=J (oS C))(e:z5 u a=.e h x)(c:autoParam ((C==d)=false) V_):dI d υ z5 u a=.e h x:=by
 unfold dI;rw[gc,EU,(eQ (by rw[eZ,b];rfl) Y (by rw[show ay .Eq (.str C) (.str d) a=.ok (.bl (C==d)) a from Y,c]))]
 simp_all
variable{q:B D}
theorem Ke(W:Tn a b m P Θ V0 A1 U A)(g:u[0]?=J (oR b))(c:Q0 u a=.ok q a)(e:r (.ref b::q) a=.e h x)(f:autoParam (([("town",D.ref m),("shapes",.ref P),("made",.ref A1)]:B (L×D)).lookup d=none) V_):tX d r Q0 u a=.e h x:=by
 unfold tX;rw[zl,eX (by simp_all) W.ob c e f]
 rfl
abbrev Pb(a b c d e f g h i):=aw 4 4 (cDo a b c d e f g h i)
variable{J7 L6 f7 o6 r6:az}
theorem k6(W:Tn a b m P Θ V0 A1 U A)(e:r [.ref b,ε,X4] a=.e h x):Pb r d0 E1 A3 o6 r6 L6 f7 J7 [.ref b,.str "make",ε,X4] a=.e h x:=
 fX (vC Y (Ke W Y Y e))
theorem tK(W:Tn a b m P Θ V0 A1 U A)(e:d0 [.ref b,ε,X4,.int 5] a=.e h x):Pb r d0 E1 A3 o6 r6 L6 f7 J7 [.ref b,.str "put",ε,X4] a=.e h x:=
 fX (cY Y (vC Y (Ke W Y Y e)))
theorem zW(W:Tn a b m P Θ V0 A1 U A)(e:E1 [.ref b,ε,X4] a=.e h x):Pb r d0 E1 A3 o6 r6 L6 f7 J7 [.ref b,.str "take",ε,X4] a=.e h x:=
 fX (cY Y (cY Y (vC Y (Ke W Y Y e))))
theorem zX(W:Tn a b m P Θ V0 A1 U A)(e:A3 [.ref b,ε,X4] a=.e h x):Pb r d0 E1 A3 o6 r6 L6 f7 J7 [.ref b,.str "move",ε,X4] a=.e h x:=
 fX (cY Y (cY Y (cY Y (vC Y (Ke W Y Y e)))))
theorem Kf(W:Tn a b m P Θ V0 A1 U A)(e:o6 [.ref b,ε] a=.e h x)(e2:r6 [.ref b,ε] a=.e h x)(f:L6 [.ref b,ε] a=.e h x)(e4:f7 [.ref b,ε] a=.e h x)(g:J7 [.ref b,ε,.int 0] a=.e h x)(c:d∈(["drop","kind","shape","own","value"]:B L)):Pb r d0 E1 A3 o6 r6 L6 f7 J7 [.ref b,.str d,ε,X4] a=.e h x:=by
 simp at c;rcases c with rfl|rfl|rfl|rfl|rfl
 .exact fX (cY Y (cY Y (cY Y (cY Y (vC Y (Ke W Y Y e))))))
 .exact fX (cY Y (cY Y (cY Y (cY Y (cY Y (vC Y (Ke W Y Y e2)))))))
 .exact fX (cY Y (cY Y (cY Y (cY Y (cY Y (cY Y (vC Y (Ke W Y Y f))))))))
 .exact fX (cY Y (cY Y (cY Y (cY Y (cY Y (cY Y (cY Y (vC Y (Ke W Y Y e4)))))))))
 .exact fX (cY Y (cY Y (cY Y (cY Y (cY Y (cY Y (cY Y (cY Y (by
   rw[gc,Ke W Y Y g];rfl)))))))))
structure vD(TD:az)(fN:B (Str×EM)):Prop where
 thing:∀{Ω T t s r m d kvs L n w oth},Tn Ω T t s r m d kvs L->aN kvs (.inr n)=_n->w∈(["put","take","move","drop","kind","shape","own","value"]:B Str)->∃aq,TD [.ref T,.str w,.str n,oth] Ω=.ok (ri ("NoThing",.str n)) aq/\ao [] Ω aq
 Up:∀{Ω T t s r m d kvs L dd oth},Tn Ω T t s r m d kvs L->xJ (aw 1 1 lS) fN dd Ω->∃d' aq,TD [.ref T,.str "make",dd,oth] Ω=.ok (.t [.str "name",d']) aq/\ao [] Ω aq/\JY d' dd aq
 mkS:∀{Ω T t s r m d kvs L n oth},Tn Ω T t s r m d kvs L->(∀Ω,∃Ut,aw 1 1 lS [.str n] Ω=.ok (.bl _d) Ut/\ao [] Ω Ut)->∃aq,TD [.ref T,.str "make",.str n,oth] Ω=.ok (ri ("NoName",.str n)) aq/\ao [] Ω aq
 puS:∀{Ω T t s r m d kvs L n c w},Tn Ω T t s r m d kvs L->aN kvs (.inr n)=J (.ref c)->(∀Ω,∃Ut,aw 1 1 lS [.str w] Ω=.ok (.bl _d) Ut/\ao [] Ω Ut)->∃aq,TD [.ref T,.str "put",.str n,.str w] Ω=.ok (ri ("NoName",.str w)) aq/\ao [] Ω aq
 Uq:∀{Ω T t s r m d kvs L n oth x},Tn Ω T t s r m d kvs L->dU n->aN kvs (.inr n)=J x->∃aq,TD [.ref T,.str "make",.str n,oth] Ω=.ok (ri ("Twice",.str n)) aq/\ao [] Ω aq
 Ur:∀{Ω T t s r m d kvs L n oth},Tn Ω T t s r m d kvs L->dU n->aN kvs (.inr n)=_n->40<=kvs.length->∃aq,TD [.ref T,.str "make",.str n,oth] Ω=.ok (ri ("TooMany",.int 40)) aq/\ao [] Ω aq
 WT:∀{Ω T t s r m d kvs L n kd h fs E N}{P:Nat->Prop},Tn Ω T t s r m d kvs L->Ω[t]?=J (.ins "Town" (("house",.ref h)::fs))->dc P Ω h E N->kd∉nms E->dU n->aN kvs (.inr n)=_n->kvs.length<40->∃aq,TD [.ref T,.str "make",.str n,.str kd] Ω=.ok (ri ("NoKind",.str kd)) aq/\ao [] Ω aq
 Us:∀{Ω T t s r m d kvs L n c dw},Tn Ω T t s r m d kvs L->aN kvs (.inr n)=J (.ref c)->xJ (aw 1 1 lS) fN dw Ω->∃d' aq,TD [.ref T,.str "put",.str n,dw] Ω=.ok (.t [.str "name",d']) aq/\ao [] Ω aq/\JY d' dw aq
 Qf:∀{Ω T t s r m d kvs L n c l i kd v w},Tn Ω T t s r m d kvs L->aN kvs (.inr n)=J (.ref c)->Tg Ω d c l i kd v L->dU w->w∉cb v->v.length=12->∃aq,TD [.ref T,.str "put",.str n,.str w] Ω=.ok (ri ("TooMany",.int 12)) aq/\ao [] Ω aq
 WU:∀{Ω T t s r m d kvs L n c l i kd v w},Tn Ω T t s r m d kvs L->aN kvs (.inr n)=J (.ref c)->Tg Ω d c l i kd v L->w∉cb v->∃aq,TD [.ref T,.str "take",.str n,.str w] Ω=.ok (ri ("NoOwn",.str w)) aq/\ao [] Ω aq
 WV:∀{Ω T t s r m d kvs L n c kd h fs E N}{P:Nat->Prop},Tn Ω T t s r m d kvs L->aN kvs (.inr n)=J (.ref c)->Ω[t]?=J (.ins "Town" (("house",.ref h)::fs))->dc P Ω h E N->kd∉nms E->∃aq,TD [.ref T,.str "move",.str n,.str kd] Ω=.ok (ri ("NoKind",.str kd)) aq/\ao [] Ω aq
abbrev fTd(b a c d e f g)(fN fM fW:B (L×EM)):=aw 6 4 (tJ "none" (Pb (aw 3 3 (xG b c fN fM)) (aw 6 4 (BD b a d e fN fM)) (aw 5 3 (FJ a d f fW)) (aw 4 3 (FK a c)) (aw 2 2 (JT a)) (aw 2 2 (JU a)) (aw 2 2 (JV a)) (aw 3 2 (JX a)) (aw 3 3 (JW a))) g j_)
theorem Uu{fW}(D:Pa r6)(U:fC (aw 1 1 lS))(hT:WK r)(F:cI r)(hC:TU d0)(hS:fL E1)(hN:FI "Twice" B1)(Q:FI "NoName" B1)(hM:FI "TooMany" X6)(hW:FI "NoOwn" fW):vD (fTd (aw 1 1 lS) r d0 E1 A3 o6 r6 B1 X6 fW) B1 where
 thing:=λ{u T t s a m d g L n w y} W o hw=>by
  obtain⟨f,p,j,e2,I,e4,e5,e6,e7,e8⟩:=FL hT W o
  have z:Pb (aw 3 3 (xG (aw 1 1 lS) d0 B1 X6)) (aw 6 4 (BD (aw 1 1 lS) r E1 A3 B1 X6)) (aw 5 3 (FJ r E1 o6 fW)) (aw 4 3 (FK r d0)) (aw 2 2 (JT r)) (aw 2 2 (JU r)) (aw 2 2 (JV r)) (aw 3 2 (JX r)) (aw 3 3 (JW r)) [.ref T,.str w,.str n,y] u=.e (xF ("NoThing",.str n)) f:=by
   rw[Ì,Ì,Ì]at hw;rcases hw with rfl|rfl|rfl|hw
   .exact tK W j
   .exact zW W e2
   .exact zX W I
   .exact Kf W e4 e5 e6 e8 e7 hw
  obtain⟨b,e,k⟩:=fE D z cG;exact⟨b,e,p.trans k⟩
 Up:=λ{u T t s a m d g L dd y} W C=>by
  obtain⟨f,b,R,j,e2,k,q⟩:=C u ao.refl;obtain⟨A,I,M⟩:=fE D (k6 W (Mir.Up j e2)) (D8:=("NoName",R)) cN;exact⟨R,A,I,k.trans M,λw O K=>q w O (M.trans K)⟩
 mkS:=λ{u T t s a m d g L n y} W C=>by
  obtain⟨f,j,p⟩:=C u;obtain⟨b,e2,k⟩:=Q f (.str n) (.inl ⟨_,Y⟩);obtain⟨A,I,M⟩:=fE D (k6 W (Mir.Up j e2)) cN;exact⟨A,I,(p.trans k).trans M⟩
 puS:=λ{u T t s a m d g L n c w} W o C=>by
  obtain⟨f,j,p⟩:=C u;obtain⟨b,e2,k⟩:=Q f (.str w) (.inl ⟨_,Y⟩);obtain⟨A,I,M⟩:=fE D (tK W (Mir.Us F W o j e2)) cN;exact⟨A,I,(p.trans k).trans M⟩
 Uq:=λ{u T t s a m d g L n y x} W C o=>by
  obtain⟨f,j,p⟩:=Mir.Uq (d0:=d0) (X6:=X6) (h:=y) U hN W C o;obtain⟨b,e,k⟩:=fE D (k6 W j) cT;exact⟨b,e,p.trans k⟩
 Ur:=λ{u T t s a m d g L n y} W C o S=>by
  obtain⟨f,j,p⟩:=Mir.Ur (d0:=d0) (B1:=B1) (h:=y) U hM W C o S;obtain⟨b,e,k⟩:=fE D (k6 W j) cM;exact⟨b,e,p.trans k⟩
 WT:=λ{u T t s a m d g L n V h fs E N P} W X H Z C o S=>by
  obtain⟨f,j,p⟩:=Mir.WT (B1:=B1) (X6:=X6) U hC W X H Z C o S;obtain⟨b,e,k⟩:=fE D (k6 W j) cK;exact⟨b,e,p.trans k⟩
 Us:=λ{u T t s a m d g L n c dw} W o C=>by
  obtain⟨f,b,R,j,e2,k,q⟩:=C u ao.refl;obtain⟨A,I,M⟩:=fE D (tK W (Mir.Us F W o j e2)) (D8:=("NoName",R)) cN;exact⟨R,A,I,k.trans M,λw O K=>q w O (M.trans K)⟩
 Qf:=λ{u T t s a m d g L n c l i V v w} W o G hw hm S=>by
  obtain⟨f,j,p⟩:=Mir.Qf (A3:=A3) (B1:=B1) (h:=.int 5) U F hS hM W o G hw hm S;obtain⟨b,e,k⟩:=fE D (tK W j) cM;exact⟨b,e,p.trans k⟩
 WU:=λ{u T t s a m d g L n c l i V v w} W o G hm=>by
  obtain⟨f,j,p⟩:=Mir.WU (E1:=o6) F hS hW W o G hm;obtain⟨b,e,k⟩:=fE D (zW W j) cO;exact⟨b,e,p.trans k⟩
 WV:=λ{u T t s a m d g L n c V h fs E N P} W o X H Z=>by
  obtain⟨f,j,p⟩:=Mir.WV F hC W o X H Z;obtain⟨b,e,k⟩:=fE D (zX W j) cK;exact⟨b,e,p.trans k⟩
def e2(w:L):=m2 (ay .Eq) (aa 2) (ai (.str w))
def tL(w:L)(m):=mN gm (ae (ai (.str w)) (ae m aj))
def Kg:=tL "none" (ai .n)
def rI(m):=af (a7 m) ag
def two(a b c):=m2 aR (mN b_ (ae a (ae b aj))) (mN (bP .int) (ae c aj))
def duM:=
 (af (cw (dz (aa 5)) (rI (tL "name" (aa 3))) ag)
 (af (cw (m2 (ay .In) (aa 3) (aa 0)) (rI (tL "twice" (aa 3))) ag)
 (af (cw (m2 (ay .Eq) (mN (bP .len) (ae (aa 0) aj)) (ai (.int 40))) (rI (tL "many" (ai (.int 40)))) ag)
 (rI (two (tL "kind" (aa 4)) Kg (m2 (ay .In) (aa 4) (aa 1)))))))
def duP:=
 (af (cw (dz (aa 5)) (rI (tL "name" (aa 4))) ag)
 (rI (two Kg (tL "many" (ai (.int 12))) (fJ (m2 (ay .NotIn) (aa 4) (aa 6)) (m2 (ay .Eq) (mN (bP .len) (ae (aa 6) aj)) (ai (.int 12)))))))
def cDu:=
 (af (cw (e2 "make") duM ag)
 (af (cw (m2 (ay .NotIn) (aa 3) (aa 0)) (rI (tL "thing" (aa 3))) ag)
 (af (aJ 6 (m2 aR (m2 aR (aa 0) (aa 3)) (ai (.int 1))))
 (af (cw (e2 "put") duP ag)
 (af (cw (e2 "take") (rI (two (tL "own" (aa 4)) Kg (m2 (ay .In) (aa 4) (aa 6)))) ag)
 (af (cw (e2 "move") (rI (two (tL "kind" (aa 4)) Kg (m2 (ay .In) (aa 4) (aa 1)))) ag)
 (rI Kg)))))))
def LP(o:_o (L×D)):D:=match o with
 |_n=>.t [.str "none",.n]
 |J p=>ri p
abbrev DU:=aw 7 6 cDu
noncomputable abbrev rU(p q:Nat)(w:L)(one oth:D)(g:Bool)(v:_o D):a_:=[oR p,oR q,oS w,J one,J oth,J (.bl g),v]
variable{p:EM}
theorem eR(b:p u a=.ok h a):tL d p u a=.ok (.t [.str d,h]) a:=eN (eK Y (eK b Y)) Y
variable{V4 ς:EM}
theorem tN(d:∀a,p u a=.ok h a)(e:∀a,ς u a=.ok ε a)(f:∀{aq},ao [] a aq->V4 u aq=.ok (.bl E) aq):∃aq,two p ς V4 u a=.ok (if E then ε else h) aq/\ao [] a aq:=by
 obtain⟨g,i,b,c⟩:=kA (eN (eK (d a) (eK (e a) (Q0:=aj) Y)) lN);refine⟨_,eQ i (eN (eK (f b) Y) Y) ?_,b⟩;cases E
 .exact aU c (L2.bQ Y)
 .exact aU c (L2.bQ Y)
def Uv(kvs:B (Key×D))(ks:B L)(n:L)(kd:L):_o (L×D):=if (aN kvs (.inr n)).isSome then J ("Twice",.str n)else if kvs.length=40 then J ("TooMany",.int 40)else if kd∈ks then _n else J ("NoKind",.str kd)
theorem Gb:DU [.ref b,.ref m,.str "make",h,ε,.bl _d] a=.ok (.t [.str "name",h]) a:=Y
theorem Uw:ay .Eq (.int b) (.int m) a=.ok (.bl (decide (b=m))) a:=by
 rw[show ay _ _ _ a=.ok _ a from Y]
 congr 2
 exact decide_eq_decide.mpr Int.ofNat_inj
theorem tP(i:ck a b U)(n:a[m]?=J (.l (l.map .str))):∃aq,DU [.ref b,.ref m,.str "make",.str d,.str C,.bl _t] a=.ok (LP (Uv U l d C)) aq/\ao [] a aq:=by
 have c:=pT (d:=d) i;have f:=mw i;unfold Uv;cases j:(aN U _).isSome with
 |true=>
  rw[j]at c;exact⟨a,fR ((qT Y).trans (qB ((q0 Y).trans ((qT (eQ Y Y c)).trans (qB (qR (eR Y))))))),ao.refl⟩
 |false=>
  rw[j]at c
  by_cases k:U.length=40
  .rw[if_pos k]
   exact⟨a,fR ((qT Y).trans (qB ((q0 Y).trans ((q0 (eQ Y Y c)).trans ((qT (eQ (eN Y f) Y (Uw.trans (by simp_all)))).trans (qB (qR (eR Y)))))))),ao.refl⟩
  .rw[if_neg k]
   obtain⟨aq,e,K⟩:=tN (u:=rU b m _ _ _ _ _) (p:=tL _ (aa 4)) (ς:=Kg) (V4:=m2 _ (aa 4) (aa 1)) (λ_=>eR Y) (λ_=>eR Y) (λK=>eQ Y Y (tp (K.g n)))
   refine⟨_,fR ((qT Y).trans (qB ((q0 Y).trans ((q0 (eQ Y Y c)).trans ((q0 (eQ (eN Y f) Y (Uw.trans (by simp_all)))).trans (qR (e.trans ?_))))))),K⟩
   by_cases h:C∈l
   .rw[if_pos h,decide_eq_true h];rfl
   .rw[if_neg h,decide_eq_false h];rfl
theorem Kh(f:ck a b U)(g:aN U (.inr d)=_n)(e:C∈(["put","take","move","drop","kind","shape","own","value"]:B L)):DU [.ref b,.ref m,.str C,.str d,h,.bl E] a=.ok (LP (J ("NoThing",.str d))) a:=by
 have c:=kY (d:=d) f;rw[g]at c
 exact fR ((q0 (by
  simp only[Ì,Ŧ,or_false]at e;rcases e with rfl|rfl|rfl|rfl|rfl|rfl|rfl|rfl<;>exact eQ Y Y Y)).trans ((qT (eQ Y Y c)).trans (qB (qR (eR Y)))))
structure Ge(Ω:aA)(p:Nat)(kvs:B (Key×D))(n:L)(j o:Nat)(k0:L)(ovs:B (Key×D)):Prop where
 p:ck Ω p kvs
 v:aN kvs (.inr n)=J (.ref j)
 j:Ω[j]?=J (.l [.str k0,.ref o])
 o:ck Ω o ovs
variable{m6:B (Key×D)}
theorem Ge.own(h:Ge a b U d m P C m6)(c:u[0]?=J (oR b))(e:u[3]?=J (oS d)):m2 aR (m2 aR (aa 0) (aa 3)) (ai (.int 1)) u a=.ok (.ref P) a:=
 eQ (eQ (by rw[eZ,c];rfl) (by simp_all) (iF h.p h.v)) Y (aU h.j (L2.bQ Y))
theorem Ge.nin(h:Ge a b U d m P C m6):ay .NotIn (.str d) (.ref b) a=.ok (.bl _d) a:=by
 rw[kY h.p,h.v];rfl
theorem Ux{r}(c:Ge a b U d P Θ C m6)(f:e2 "make" (rU b m V1 (.str d) h E _n) a=.ok (.bl _d) a)(e:υ (rU b m V1 (.str d) h E (oR Θ)) a=r):
  (af (cw (e2 "make") duM ag) (af (cw (m2 (ay .NotIn) (aa 3) (aa 0)) (rI (tL "thing" (aa 3))) ag) (af (aJ 6 (m2 aR (m2 aR (aa 0) (aa 3)) (ai (.int 1)))) υ))) (rU b m V1 (.str d) h E _n) a=r:=
 (q0 f).trans ((q0 (eQ Y Y c.nin)).trans ((qA (c.own Y Y)).trans e))
theorem Ki(c:Ge a b U d P Θ C m6):DU [.ref b,.ref m,.str "put",.str d,h,.bl _d] a=.ok (.t [.str "name",h]) a:=
 fR (Ux c (eQ Y Y Y) ((qT (eQ Y Y Y)).trans (qB ((qT Y).trans (qB (qR (eR Y)))))))
theorem Pc(h:Ge a b U d P Θ V1 m6):∃aq,DU [.ref b,.ref m,.str "put",.str d,.str C,.bl _t] a=.ok (LP (if (aN m6 (.inr C)).isSome=_d/\m6.length=12 then J ("TooMany",.int 12)else _n)) aq/\ao [] a aq:=by
 have t:∀{aq},ao [] a aq->fJ _ (m2 _ (mN _ (ae (aa 6) aj)) (ai (.int 12))) _ _=.ok (.bl (decide ((aN _ _).isSome=_d/\m6.length=12))) aq:=λ{aq} K=>by
  have g:=h.o.keep K (by simp)
  have c:m2 _ (aa 4) (aa 6) (rU b m "put" (.str d) (.str C) _t (oR Θ)) _=.ok _ _:=eQ Y Y (kY g);cases i:(aN m6 _).isSome with
  |true=>
   rw[i]at c;rw[aF c];simp
  |false=>
   rw[i]at c;rw[aT c (eQ (eN Y (mw g)) Y Uw)];simp
 obtain⟨aq,e,K⟩:=tN (p:=Kg) (ς:=tL _ (ai _)) (λ_=>eR Y) (λ_=>eR Y) t
 refine⟨_,fR (Ux h (eQ Y Y Y) ((qT (eQ Y Y Y)).trans (qB ((q0 Y).trans (qR (e.trans ?_)))))),K⟩
 by_cases f:(aN m6 (.inr C)).isSome=_d/\m6.length=12
 .rw[if_pos f,decide_eq_true f];rfl
 .rw[if_neg f,decide_eq_false f];rfl
theorem Kj(h:Ge a b U d P Θ V1 m6):∃aq,DU [.ref b,.ref m,.str "take",.str d,.str C,.bl E] a=.ok (LP (if (aN m6 (.inr C)).isSome then _n else J ("NoOwn",.str C))) aq/\ao [] a aq:=by
 obtain⟨aq,e,K⟩:=tN (u:=rU b m _ _ _ E (oR Θ)) (p:=tL _ (aa 4)) (ς:=Kg) (V4:=m2 _ (aa 4) (aa 6)) (λ_=>eR Y) (λ_=>eR Y) λK=>eQ Y Y (pT (h.o.keep K (by simp)))
 refine⟨_,fR (Ux h (eQ Y Y Y) ((q0 (eQ Y Y Y)).trans ((qT (eQ Y Y Y)).trans (qB (qR (e.trans ?_)))))),K⟩;cases (aN m6 _).isSome<;>rfl
theorem Kk(h:Ge a b U d P Θ V1 m6)(f:a[m]?=J (.l (l.map .str))):∃aq,DU [.ref b,.ref m,.str "move",.str d,.str C,.bl E] a=.ok (LP (if C∈l then _n else J ("NoKind",.str C))) aq/\ao [] a aq:=by
 obtain⟨aq,e,K⟩:=tN (u:=rU b m _ _ _ E _) (p:=tL _ (aa 4)) (ς:=Kg) (V4:=m2 _ (aa 4) (aa 1)) (λ_=>eR Y) (λ_=>eR Y) λK=>eQ Y Y (tp (K.g f))
 refine⟨_,fR (Ux h (eQ Y Y Y) ((q0 (eQ Y Y Y)).trans ((q0 (eQ Y Y Y)).trans ((qT (eQ Y Y Y)).trans (qB (qR (e.trans ?_))))))),K⟩
 by_cases c:C∈l
 .rw[if_pos c,decide_eq_true c];rfl
 .rw[if_neg c,decide_eq_false c];rfl
theorem Kl(c:Ge a b U d P Θ C m6)(e:V1∈(["drop","kind","shape","own","value"]:B L)):DU [.ref b,.ref m,.str V1,.str d,h,.bl E] a=.ok (LP _n) a:=by
 simp at e;rcases e with rfl|rfl|rfl|rfl|rfl<;>exact fR (Ux c (eQ Y Y Y) ((q0 (eQ Y Y Y)).trans ((q0 (eQ Y Y Y)).trans ((q0 (eQ Y Y Y)).trans (qR (eR Y))))))
def j5(f:az)(c p q T w one oth)(g:Bool):=∃z a,DU [.ref p,.ref q,.str w,one,oth,.bl g] c=.ok z a/\ao [] c a/\(z=LP _n\/∃x d e b,z=.t [.str x,d]/\(x==("none"))=_d/\f [.ref T,.str w,one,oth] a=.ok (.t [.str x,e]) b/\ao [] a b/\JY e d b)
theorem Km:(wd C==("none"))=false:=by
 unfold wd
 repeat' split
 all_goals rfl
theorem j5.same(e:DU [.ref P,.ref b,.str d,h,ε,.bl E] a=.ok (LP (J D8)) x)(K:ao [] a x)(f:zO D8.2)(t:∃c,r [.ref m,.str d,h,ε] x=.ok (ri D8) c/\ao [] x c):j5 r a P b m d h ε E:=by
 obtain⟨c,t,g⟩:=t;exact⟨_,_,e,K,.inr ⟨_,_,_,_,Y,Km,t,g,nJ f⟩⟩
theorem j5.nn{x:L}(e:DU [.ref P,.ref b,.str d,h,ε,.bl E] a=.ok (.t [.str "name",X4]) a)(t:∃f c,r [.ref m,.str d,h,ε] a=.ok (.t [.str "name",f]) c/\ao [] a c/\JY f X4 c):j5 r a P b m d h ε E:=by
 obtain⟨f,c,t,g,b⟩:=t;exact⟨_,a,e,ao.refl,.inr ⟨_,X4,f,_,Y,Y,t,g,b⟩⟩
theorem Pd:(cm V2).length=V2.length:=by simp[cm]
variable{X:B Tz}
theorem xS:(jW X).length=X.length:=by simp[jW]
theorem tQ:(mx X).length=X.length:=by simp[mx]
theorem vF(a:d∉X.map (·.n)):aN (jW X) (.inr d)=none:=tB a
theorem vG(a:d∉X.map (·.n)):aN (mx X) (.inr d)=none:=tB a
variable{J0:Tz}{χ:Ae}
theorem Ps.t5(H:Ps a χ A X)(b:J0∈X):Ge a χ.P (jW X) J0.n J0.j J0.o J0.k (cm J0.v):=⟨H.pd,nG H.nn b,(H.al J0 b).R,.inl (H.al J0 b).O⟩
theorem Kn(c:vD r B1)(H:Ps a χ A X)(d:xJ (aw 1 1 lS) B1 ε a):j5 r a χ.P b χ.T "make" ε h false:=
 .nn (x:="name") Gb (c.Up H.W d)
theorem Gf(h:vD r B1)(H:Ps a χ A X)(q:a[b]?=J (.l (l.map .str)))(s:a[χ.t]?=J (.ins "Town" (("house",.ref m)::U1)))(u:dc Y0 a m X0 U2)(w:∀k,k∈nms X0->k∈l)(i:dU d)(x:X.length<=40):j5 r a χ.P b χ.T "make" (.str d) (.str C) true:=by
 obtain⟨D,e,K⟩:=tP (d:=d) (C:=C) H.pd q;have j:=H.aO K;unfold Uv at e
 by_cases c:d∈X.map (·.n)
 .obtain⟨y,p,rfl⟩:=Ð.mp c
  rw[nG H.nn p]at e;exact .same e K (.inl ⟨_,Y⟩) (h.Uq j.W i (gi H.nn p))
 .rw[vF c,xS]at e
  by_cases f:X.length=40
  .rw[if_pos f]at e
   exact .same e K (.inr (by simp)) (h.Ur j.W i (vG c) (by rw[tQ];exact Á f.symm))
  .rw[if_neg f]at e
   by_cases o:C∈l
   .rw[if_pos o]at e
    exact⟨_,_,e,K,.inl Y⟩
   .rw[if_neg o]at e
    exact .same e K (.inl ⟨_,Y⟩) (h.WT j.W (K.g s) (u.keep K) (λz=>o (w _ z)) i (vG c) (by rw[tQ];exact afg x f))
theorem Gg(f:vD r B1)(H:Ps a χ A X)(c:d∉X.map (·.n))(e:C∈(["put","take","move","drop","kind","shape","own","value"]:B L)):j5 r a χ.P b χ.T C (.str d) h E:=
 .same (Kh H.pd (vF c) e) ao.refl (.inl ⟨_,Y⟩) (f.thing H.W (vG c) e)
theorem Gh(d:vD r B1)(H:Ps a χ A X)(c:J0∈X)(e:xJ (aw 1 1 lS) B1 h a):j5 r a χ.P b χ.T "put" (.str J0.n) h false:=
 .nn (x:="name") (Ki (H.t5 c)) (d.Us H.W (gi H.nn c) e)
theorem Ko(h:vD r B1)(H:Ps a χ A X)(c:J0∈X)(i:dU d):j5 r a χ.P b χ.T "put" (.str J0.n) (.str d) true:=by
 obtain⟨j,e,K⟩:=Pc (H.t5 c);have g:=H.aO K;rw[pD,Pd]at e
 by_cases f:decide (d∈cb J0.v)=_d/\J0.v.length=12
 .rw[if_pos f]at e
  exact .same e K (.inr (by simp)) (h.Qf g.W (gi H.nn c) (g.al J0 c).G i (by grind) f.2)
 .rw[if_neg f]at e
  exact⟨_,_,e,K,.inl Y⟩
theorem Kp(g:vD r B1)(H:Ps a χ A X)(c:J0∈X):j5 r a χ.P b χ.T "take" (.str J0.n) (.str d) E:=by
 obtain⟨h,e,K⟩:=Kj (C:=d) (H.t5 c);have f:=H.aO K;rw[pD]at e
 by_cases i:d∈cb J0.v
 .rw[if_pos (by grind)]at e
  exact⟨_,_,e,K,.inl Y⟩
 .rw[if_neg (by grind)]at e
  exact .same e K (.inl ⟨_,Y⟩) (g.WU f.W (gi H.nn c) (f.al J0 c).G i)
theorem Gi(h:vD r B1)(H:Ps a χ A X)(f:J0∈X)(i:a[b]?=J (.l (l.map .str)))(j:a[χ.t]?=J (.ins "Town" (("house",.ref m)::U1)))(o:dc Y0 a m X0 U2)(p:∀k,k∈nms X0->k∈l):j5 r a χ.P b χ.T "move" (.str J0.n) (.str d) E:=by
 obtain⟨q,e,K⟩:=Kk (H.t5 f) i;have s:=H.aO K
 by_cases c:d∈l
 .rw[if_pos c]at e
  exact⟨_,_,e,K,.inl Y⟩
 .rw[if_neg c]at e
  exact .same e K (.inl ⟨_,Y⟩) (h.WV s.W (gi H.nn f) (K.g j) (o.keep K) λz=>c (p _ z))
theorem Gj(H:Ps a χ A X)(c:J0∈X)(e:d∈(["drop","kind","shape","own","value"]:B L)):j5 r a χ.P b χ.T d (.str J0.n) h E:=
 ⟨_,a,Kl (H.t5 c) e,ao.refl,.inl Y⟩
def Uy(F:B D->Out Rs)(t:Int)(m):=mN (ey F) (ae (aa 4) (ae (ai (.int t)) (ae m aj)))
def lnE(i:Nat)(n:Int):=m2 (bb .Add) (mN (bP .len) (ae (aa i) aj)) (ai (.int n))
def Uz(F:B D->Out Rs)(i:Nat)(t n:Int)(l):=m2 aR (m2 (bb .Add) (aa i) (mN b_ l)) (Uy F t (lnE i n))
noncomputable def Qg:B Str:=["make","put","take","move","drop","kind","shape","own","value"]
def e8(w:L):=m2 (ay .Eq) (aa 8) (ai (.str w))
def Pe(DU a):=
 (af (aJ 12 (mN (aQ DU) (ae (aa 1) (ae (aa 6) (ae (aa 8) (ae (aa 9) (ae (aa 10) (ae (aa 11) aj))))))))
 (af (a7 (pQ (m2 (ay .Eq) (m2 aR (aa 12) (ai (.int 0))) (ai (.str "none"))) (m2 (ay .Eq) (mN (aQ a) (ae (aa 0) (ae (aa 8) (ae (aa 9) (ae (aa 10) aj))))) (aa 12))))
 ag))
def WW(F:B D->Out Rs)(a DU b):=
 (af (Eh [5,6,7] (aa 2))
 (af (aJ 8 (m2 aR (mN b_ (Qg.foldr (λx c=>ae (ai (.str x)) c) aj)) (Uy F 4 (ai (.int 9)))))
 (af (aJ 9 (Uz F 5 5 2 (ae (aa 3) (ae (aa 3) aj))))
 (af (aJ 10 (Uz F 7 6 1 (ae (aa 3) aj)))
 (af (cw (pQ (e8 "make") (e8 "move")) (af (aJ 10 (Uz F 6 7 1 (ae (aa 3) aj))) ag) ag)
 (af (aJ 11 (m2 (ay .Gt) (Uy F 8 (ai (.int 3))) (ai (.int 0))))
 (af (cw (fJ (dz (aa 11)) (e8 "make")) (af (aJ 9 (mN (aQ a) (ae (aa 4) aj))) ag) ag)
 (af (cw (fJ (dz (aa 11)) (e8 "put")) (af (aJ 10 (mN (aQ a) (ae (aa 4) aj))) ag) ag)
 (Pe DU b)))))))))
variable{E6 M4 U5 U8:_o D}
theorem nL{i f}(c:j5 r a m b P d h ε E):∃aq,Pe DU r [oR P,oR m,M4,U5,E6,U8,oR b,i,oS d,J h,J ε,J (.bl E),f] a=.rt (.bl _t) aq/\ao [] a aq:=by
 obtain⟨z,j,e,K,rfl|⟨x,g,o,k,rfl,p,t,l,n⟩⟩:=c
 .exact⟨_,(qA (eC Y e)).trans (qR (oT (eQ (eQ Y Y Y) Y Y))),K⟩
 .refine⟨_,(qA (eC Y e)).trans (qR (oF (eQ (eQ Y Y Y) Y ?_) (eQ (eC Y t) Y (n x _ ao.refl)))),K.trans l⟩
  simp_all
variable{m4:B D->Out Rs}{y6:Int->Int->Int->Int}
theorem Pf(d:iS y6 m4)(f:u[m]?=J (oR b))(o:u[4]?=J (oI Q))(i:a[b]?=J (.l (l.map .str)))(p:∀a,Q0 u a=.ok (i0.map .str) a)(H:0<i0.length)(q:l.length<=100/\i0.length<=2)(s:0<=U0)(I:U0<1000):∃w∈l++i0,∃aq,Uz m4 m U0 i0.length Q0 u a=.ok (.str w) aq/\ao [] a aq:=by
 obtain⟨t,y,k,z⟩:=kA (eN (p a) (lN (by rw[ß];exact bo (fc q.2))))
 obtain⟨A,e2,C,n⟩:=kA (iw (k.g i) z (by simp;omega))
 have K:=k.trans C;have E:=gf (K.g i);obtain⟨M,N,O⟩:=d Q U0 (l.length+i0.length) s (by omega) (by omega)
 generalize y6 Q U0 _=r at *;obtain⟨c,rfl⟩:∃c:Nat,(c)=r:=⟨r.toNat,by omega⟩
 have F:c<(l++i0).length:=by rw[Ģ];omega
 rw[←ā]at n;have G:=aU n (L2.bQ (by rw[Ü,Ô F];rfl))
 have e:∀{j:Nat}{x:D},u[j]?=J (J x)->∀a,aa j u a=.ok x a:=λh a=>by simp_all
 refine⟨_,by simp,_,eQ (eQ (e f a) y e2) (eN (eK (e o _) (eK Y (eK (eQ (eN (eK (e f _) Y) E) Y Bv) Y))) ?_) G,K⟩
 simp_all
def Zy(F:B D->Out Rs)(a DU b):=
 (af (aJ 11 (m2 (ay .Gt) (Uy F 8 (ai (.int 3))) (ai (.int 0))))
 (af (cw (fJ (dz (aa 11)) (e8 "make")) (af (aJ 9 (mN (aQ a) (ae (aa 4) aj))) ag) ag)
 (af (cw (fJ (dz (aa 11)) (e8 "put")) (af (aJ 10 (mN (aQ a) (ae (aa 4) aj))) ag) ag)
 (Pe DU b))))
theorem mz(h:u[8]?=J (oS d)):e8 C u a=.ok (.bl (d==C)) a:=eQ (by rw[eZ,h];rfl) Y Y
variable{X2:Bool}
theorem Kq(l:iS y6 m4)(q:Ka d0 E1 B1)(n:(C==("make"))=E)(o:(C==("put"))=X2)(s:E=_t->X2=_d)(f:∀{aq} g one oth,ao [] a aq->((E=_t/\g=_d)/\xJ E1 B1 one aq)\/(¬ (E=_t/\g=_d)/\one=.str d)->((X2=_t/\g=_d)/\xJ E1 B1 oth aq)\/(¬ (X2=_t/\g=_d)/\oth=.str V1)->j5 r aq m b P C one oth g):
  ∃aq,Zy m4 d0 DU r [oR P,oR m,M4,U5,oI Q,E6,oR b,U8,oS C,oS d,oS V1,_n,_n] a=.rt (.bl _t) aq/\ao [] a aq:=by
 obtain⟨_,_,t⟩:=l Q 8 3 (by decide) (by decide) (by decide)
 generalize y6 Q 8 3=v at *;have u:ey m4 [.int Q,.int 8,.int 3] a=.ok (.int v) a:=by simp[t]
 have j:m2 (ay .Gt) (Uy m4 8 (ai (.int 3))) (ai (.int 0)) [oR P,oR m,M4,U5,oI Q,E6,oR b,U8,oS C,oS d,oS V1,_n,_n] a=.ok (.bl (decide (0<v))) a:=eQ (eN Y u) Y (by simp)
 generalize decide (0<v)=g at j;cases g with
 |true=>
  obtain⟨h,e2,i⟩:=nL (f _t (.str d) (.str V1) ao.refl (by simp) (by simp))
  exact⟨h,(qA j).trans ((q0 (aF Y)).trans ((q0 (aF Y)).trans e2)),i⟩
 |false=>
  cases E with
  |true=>
   have w:=s Y;obtain⟨c,h,p,k,x⟩:=q a Q;obtain⟨e,e2,i⟩:=nL (f _d c (.str V1) k (by grind) (by simp_all))
   exact⟨e,(qA j).trans ((qT (aT Y ((mz Y).trans (by rw[n])))).trans ((qN (qA (eC Y p))).trans ((q0 (aT Y ((mz Y).trans (by rw[o,w])))).trans e2))),k.trans i⟩
  |false=>
   cases X2 with
   |true=>
    obtain⟨c,h,p,k,x⟩:=q a Q;obtain⟨e,e2,i⟩:=nL (f _d (.str d) c k (by simp) (by grind))
    exact⟨e,(qA j).trans ((q0 (aT Y ((mz Y).trans (by rw[n])))).trans ((qT (aT Y ((mz Y).trans (by rw[o])))).trans ((qN (qA (eC Y p))).trans e2))),k.trans i⟩
   |false=>
    obtain⟨e,e2,i⟩:=nL (f _d (.str d) (.str V1) ao.refl (by simp) (by simp))
    exact⟨e,(qA j).trans ((q0 (aT Y ((mz Y).trans (by rw[n])))).trans ((q0 (aT Y ((mz Y).trans (by rw[o])))).trans e2)),i⟩
theorem Kr(c:vD r B1)(H:Ps a χ A X)(o:a[b]?=J (.l (l.map .str)))(p:a[χ.t]?=J (.ins "Town" (("house",.ref m)::U1)))(q:dc Y0 a m X0 U2)(s:∀k,k∈nms X0->k∈l)(w:dU d)(x:X.length<=40)(hw:C∈Qg)(D:C="put"->dU V1)(f:((C==("make"))=_t/\E=_d)/\xJ (aw 1 1 lS) B1 h a\/¬ ((C==("make"))=_t/\E=_d)/\h=.str d)(o2:((C==("put"))=_t/\E=_d)/\xJ (aw 1 1 lS) B1 ε a\/¬ ((C==("put"))=_t/\E=_d)/\ε=.str V1):j5 r a χ.P b χ.T C h ε E:=by
 simp only[Qg,Ì,Ŧ,or_false]at hw
 by_cases g:C="make"
 .subst g
  have:=o2.elim (λz=>absurd z.1.1 (by decide)) (·.2)
  subst this;cases E with
  |false=>
   rcases f with ⟨_,i⟩|⟨z,_⟩
   .exact Kn c H i
   simp_all
  |true=>
   have:=f.elim (λz=>absurd z.1.2 (by decide)) (·.2)
   subst this;exact Gf c H o p q s w x
 .have:=f.elim (λz=>absurd (eq_of_beq z.1.1) g) (·.2)
  subst this;have hw:=hw.resolve_left g
  by_cases u:d∈X.map (·.n)
  .obtain⟨y,e,rfl⟩:=Ð.mp u
   by_cases j:C="put"
   .subst j
    cases E with
    |false=>
     rcases o2 with ⟨_,i⟩|⟨z,_⟩
     .exact Gh c H e i
     simp_all
    |true=>
     have:=o2.elim (λz=>absurd z.1.2 (by decide)) (·.2)
     subst this;exact Ko c H e (D Y)
   .have:=o2.elim (λz=>absurd (eq_of_beq z.1.1) j) (·.2)
    subst this;rcases hw.resolve_left j with rfl|rfl|hw
    .exact Kp c H e
    .exact Gi c H e o p q s
    .exact Gj H e (by simp_all)
  .exact Gg c H u (by simp_all)
theorem Zz{b2}(b:p u a=.ok (.bl E) a)(c:ς u a=.ok (.bl b2) a):pQ p ς u a=.ok (.bl (E||b2)) a:=by
 cases E
 .simp_all
 simp_all
theorem UA(f:iS y6 m4)(N:Ka d0 (aw 1 1 lS) B1)(O:vD r B1)(H:Ps a χ A X)(R:a[m]?=J (.l (l.map .str)))(I:a[P]?=J (.l (i0.map .str)))(S:a[Θ]?=J (.l (N4.map .str)))(U:∀u∈l,dU u)(V:∀u∈N4,dU u)(vs:dU d)(Z:l.length<=100)(lk:i0.length<=100)(lw:N4.length<=100)(ht:a[χ.t]?=J (.ins "Town" (("house",.ref b)::U1)))(Ho:dc Y0 a b X0 U2)(hE:∀k,k∈nms X0->k∈i0)(hl:X.length<=40):
  ∃aq,aw 13 5 (WW m4 d0 DU r) [.ref χ.T,.ref χ.P,.t [.ref m,.ref P,.ref Θ],.str d,.int Q] a=.ok (.bl _t) aq/\ao [] a aq:=by
 obtain⟨p,e1,M,g1⟩:=kA (lN (q:=Qg.map .str) (a:=a));obtain⟨b0,b1,hv⟩:=f Q 4 9 (by decide) (by decide) (by decide)
 generalize y6 Q 4 9=v at *;obtain⟨c,rfl⟩:∃c:Nat,(c:Int)=v:=⟨v.toNat,by omega⟩
 have j:c<Qg.length:=by show c<9;omega
 have D:=List.getElem_mem j;have hx:=aU g1 (L2.bQ (by rw[Ü,Ô j];rfl))
 generalize Qg[c]=w at *;have e0:ey m4 [.int Q,.int 4,.int 9] p=.ok (.int c) p:=by simp[hv]
 obtain⟨n,hn,a0,e2,K2⟩:=Pf (u:=[oR χ.T,oR χ.P,J (.t [.ref m,.ref P,.ref Θ]),oS d,oI Q,oR m,oR P,oR Θ,oS w,_n,_n,_n,_n]) (m:=5) (U0:=5) (i0:=[d,d]) (Q0:=ae (aa 3) (ae (aa 3) aj)) f Y Y (M.g R) (λ_=>Y) (by simp) ⟨Z,by simp⟩ (by decide) (by decide)
 have s:=M.trans K2;obtain⟨u,hu,h,e3,K3⟩:=Pf (u:=[oR χ.T,oR χ.P,J (.t [.ref m,.ref P,.ref Θ]),oS d,oI Q,oR m,oR P,oR Θ,oS w,oS n,_n,_n,_n]) (m:=7) (U0:=6) (i0:=[d]) (Q0:=ae (aa 3) aj) f Y Y (s.g S) (λ_=>Y) (by simp) ⟨lw,by simp⟩ (by decide) (by decide)
 have x:=s.trans K3;have vN:dU n:=(Ñ.mp hn).elim (U n) λz=>by simp_all
 have vU:dU u:=(Ñ.mp hu).elim (V u) λz=>by simp_all
 have mv:∃o e,(∀z:SM,(af (cw (pQ (e8 "make") (e8 "move")) (af (aJ 10 (Uz m4 6 7 1 (ae (aa 3) aj))) ag) ag) z) [oR χ.T,oR χ.P,J (.t [.ref m,.ref P,.ref Θ]),oS d,oI Q,oR m,oR P,oR Θ,oS w,oS n,oS u,_n,_n] h=z [oR χ.T,oR χ.P,J (.t [.ref m,.ref P,.ref Θ]),oS d,oI Q,oR m,oR P,oR Θ,oS w,oS n,oS o,_n,_n] e)/\ao [] h e/\(w="put"->dU o):=by
  have y:pQ (e8 "make") (e8 "move") [oR χ.T,oR χ.P,J (.t [.ref m,.ref P,.ref Θ]),oS d,oI Q,oR m,oR P,oR Θ,oS w,oS n,oS u,_n,_n] h=.ok _ h:=Zz (mz Y) (mz Y);cases j:(w==("make":L)||w==("move":L))with
  |false=>
   rw[j]at y;exact⟨u,h,λz=>q0 y,ao.refl,λ_=>vU⟩
  |true=>
   rw[j]at y;obtain⟨o,_,e,e4,E⟩:=Pf (u:=[oR χ.T,oR χ.P,J _,oS d,oI Q,oR m,oR P,oR Θ,oS w,oS n,oS u,_n,_n]) (m:=6) (U0:=7) (i0:=[d]) (Q0:=ae (aa 3) aj) f Y Y (x.g I) (λ_=>Y) (by simp) ⟨lk,by simp⟩ (by decide) (by decide)
   exact⟨o,e,λz=>(qT y).trans (qN (qA e4)),E,λz=>by subst z;exact absurd j (by decide)⟩
 obtain⟨o,e,e4,E,F⟩:=mv;have i:=x.trans E
 obtain⟨G,e5,K5⟩:=Kq (a:=e) (m:=χ.P) (b:=P) (P:=χ.T) (C:=w) (d:=n) (V1:=o) (r:=r) (U5:=oS d) (E6:=oR m) (U8:=oR Θ) (Q:=Q) f N Y Y (λz=>by rw[eq_of_beq z];rfl) λg one c0 K o1 o2=>
  Kr O (H.aO (i.trans K)) ((i.trans K).g I) ((i.trans K).g ht) (Ho.keep (i.trans K)) hE vN hl D F o1 o2
 exact⟨G,fR ((qN Y).trans ((qA (eQ (eN Y e1) (eN Y e0) hx)).trans ((qA e2).trans ((qA e3).trans ((e4 _).trans e5))))),i.trans K5⟩
variable{Q2:B Tz}
theorem zY(y:cI r)(H:Q4 a χ A (X++J0::Q2) l):∃c e,aw 2 2 (BU r) [.ref χ.T,.str J0.n] a=.ok .n c/\(∀{k}{m}{as},m k c=.ok (.ref χ.P) c->as k c=.ok [.str J0.n] c->tD m as k c=.ok (.ref J0.j) e)/\Q4 e χ A (X++Q2) l/\ao [χ.d,χ.P] a e:=by
 have o:=H.H.low;obtain⟨c,C,q,D⟩:=kO (LC y H.H.W H.H.nn) H.H.W.dk;have t:=q.g H.p (by simp;exact Þ o.2.2.2.2.1)
 obtain⟨e,z,w,x⟩:=ao.st t;have K:=(q.s.trans w.s:ao [χ.d,χ.P] a _);exact⟨_,_,C,λf b=>(nF f b t Y (jX H.H.nn)).trans (by rw[show gQ (jW _) _=jW _ from pC H.H.nn,z]),⟨H.H.drop K (w.g D (by simp;exact X' o.2.2.2.2.1)) (.inl x),x,H.z,λz h=>H.i z (by simp at h ⊢;exact h.imp_right .inr),λz h=>H.u z (by simp at h ⊢;exact h.imp_right .inr)⟩,K⟩
theorem tR(R:fC r)(S:lT d0)(H:Q4 a χ A X l)(I:LB Y0 a χ.t b X0 U2 U1 (own χ X))(U:C∈nms X0)(V:dU d)(k:d∉X.map (·.n))(Z:d∈l)(hl:X.length<40):
  ∃c e f,aw 3 3 (BS r d0 (aw 2 2 By)) [.ref χ.T,.str d,.str C] a=.ok .n e/\gV (.ref χ.P) (.str d) (.ref (e.length+1)) (e++[.dK [],.l [.str C,.ref e.length]])=J f/\Q4 f χ A (X++[⟨d,c,c+1,0,C,[],e.length+1,e.length⟩]) l/\ao [χ.d,χ.P] a f/\a.length<=c/\a.length<=e.length/\ao [χ.d] a e:=by
 have M:=H.H.low;have m:=bz H.p;obtain⟨c,e,e1,N,O,w,E⟩:=Ly R S H.H.W I.to I.ho U V (vG k) (by rwa[tQ]) H.z
 have x:ao [] _ (e++[.dK [],.l [.str C,.ref e.length]]):=ao.app;have Q:=x.g (w.g H.p (by simp;exact Þ M.2.2.2.2.1))
 obtain⟨a0,e3,h,F⟩:=kD (jV Q (by simp[jW];exact GD hl)) Q
 let y:Tz:=⟨d,c,c+1,0,C,[],e.length+1,e.length⟩
 rw[show dh (mx X) _ _=mx _ from nH (J0:=y) k]at N
 rw[show dh (jW X) _ _=jW _ from nH (J0:=y) k]at F
 have r2:(e++[Cell.dK [],.l [.str C,.ref e.length]])[e.length+1]?=J (.l [.str C,.ref e.length]):=by simp
 have G:=w.len;have D:=bz O.sl;have K:=((w.s.trans (x.s)).trans h.s:ao [χ.d,χ.P] a _);have y3:y.j=e.length+1:=rfl;have y4:y.o=e.length:=rfl;have Y:Yx _ _ A y:=⟨(O.aO x).keep h (by simp;exact Þ (P' m E)) (by simp;exact Þ (P' (P' m E) (à _ _))),h.g r2 (by simp;exact Þ (Ó (P' m G) (Á y3.symm))),h.g aG (by simp;exact Þ (P' (P' m G) (Á y4.symm)))⟩
 exact⟨c,_,_,e1,e3,⟨H.H.more K k ((N.aO x).keep h (by simp;exact M.2.2.2.2.1)) (.inl F) Y (λq hq=>by simp at hq;omega) (by simp;exact⟨⟨X' (P' (â (à _ _) D) (à _ _)),X' (â (à _ _) D)⟩,⟨X' (â (à _ _) D),X' D⟩⟩),F,H.z,Wn H.i Z,Wn H.u (by simp)⟩,K,E,G,w⟩
structure Bs(A:Ae)(τ:Tt)(b:Int)(nq kq wq:Nat)(ns ks ws:B L):Prop where
 fp:A.fp=[]
 n:A.LA[nq]?=J (.l (ns.map .str))
 k:A.LA[kq]?=J (.l (ks.map .str))
 w:A.LA[wq]?=J (.l (ws.map .str))
 t:Tw A.LA τ ks b
 tt:τ.t=A.t
 vn:∀u∈ns,dU u
 vk:∀u∈ks,dU u
 vw:∀u∈ws,dU u
 ln:ns.length=5
 lk:ks.length=3
 lw:1<=ws.length/\ws.length<=14
 nw:ws.Nodup
variable{R5:Tt}
theorem Bs.K(B:Bs χ R5 Q b m P l i0 N4)(H:Ps a χ A X):ao [] χ.LA a:=by
 have:=H.bs;rwa[B.fp]at this
theorem Bs.no(B:Bs χ R5 Q b m P l i0 N4)(H:Ps a χ A X)(c:Θ<χ.LA.length):Θ∉own χ X:=λd=>by
 rcases H.lb Θ d with z|z
 .rw[B.fp]at z;cases z
 .exact ä _ (â z c)
def Bs.tw(B:Bs χ R5 Q b m P l i0 N4)(H:Ps a χ A X):=B.t.keep (B.K H) (by simp)
theorem Bs.UB(B:Bs χ R5 Q b m P l i0 N4)(H:Ps a χ A X):LB (· ∈ R5.R) a χ.t R5.h (bare i0) (λn=>[n]) [("facts",.ref R5.f),("tags",.ref R5.g),("last_deed",.int Q)] (own χ X):=by
 have W:=B.tw H;have i:=λc j=>B.no H (B.t.lt c j)
 refine⟨B.tt▸W.to,W.ho.at,B.tt▸i _ (by simp),i _ (by simp),by grind,λe d k=>?_⟩
 obtain⟨_,_,o,_⟩:=W.ho
 simp_all
theorem Bs.pol(B:Bs χ R5 Q b m P l i0 N4)(H:Ps a χ A X):Pol a χ X b m P R5.h l i0 i0 N4:=
 ⟨(B.K H).g B.n,(B.K H).g B.k,(B.K H).g B.w,⟨_,_,B.UB H⟩,λ_ h=>h,B.vn,B.vw,B.ln,B.lk,B.lw,B.nw⟩
theorem Q4.aO{a aq A L M b}(H:Q4 a A L M b)(K:ao [] a aq):Q4 aq A L M b:=⟨H.H.aO K,K.g H.p,H.z,H.i,H.u⟩
def vH(k:Int):=m2 aR (aa 3) (ai (.int k))
def LQ:=m2 aR (m2 aR (aa 2) (ai (.int 1))) (ai (.int 0))
def ZA(a)(i:Nat)(c):=(af (cA (aK "Things" "drop" a (aa 0) (ae (aa i) aj))) (af (cA (tD (aa 1) (ae (aa i) aj))) c))
def vI(a w v c):=af (dY (aa 5) w v) (af (cA (aK "Things" "put" a (aa 0) (ae (aa 4) (ae w (ae v aj))))) c)
def LR(a w c):=(af (cA (tD (aa 5) (ae w aj))) (af (cA (aK "Things" "take" a (aa 0) (ae (aa 4) (ae w aj)))) c))
structure Wq(Ω:aA)(A:Ae)(M:B Tz)(q:Nat)(xs:B L):Prop where
 g:Ω[q]?=J (.l (xs.map .str))
 n:q∉own A M
theorem Gk:own χ (X++yP J0 b V2::Q2)=own χ (X++J0::Q2):=by simp[ads]
theorem Wq.WX(W:Wq a χ (X++J0::Q2) b l):b∉[χ.r,χ.m]++pB J0:=λc=>by
 refine W.n ?_;rcases Ñ.mp c with z|z
 .grind
 .exact å _ (lW (by simp) _ z)
theorem Wq.ady(W:Wq a χ (X++J0::Q2) b l):b≠J0.o:=λz=>W.WX (by simp_all)
theorem xT(t:fC d0)(w:cI r)(x:fL E1)(y:pA A3)(H:Q4 a χ A (X++J0::Q2) l)(W:Wq a χ (X++J0::Q2) b i0)(q:dU d)(C:A.length<=500)(E:d∈cb J0.v\/J0.v.length<12)(F:u[0]?=J (oR χ.T))(I:u[4]?=J (oS J0.n))(M:u[5]?=J (oR J0.o))(f:∀{aq},aq[b]?=J (.l (i0.map .str))->p u aq=.ok (.str d) aq)(k:∀aq,ς u aq=.ok (.int Q) aq):
  ∃i e,(∀c,vI (aw 6 4 (Fv d0 r E1 A3)) p ς c u a=c u e)/\Q4 e χ (ee A (cb (ef J0.v d Q))) (X++yP J0 i (ef J0.v d Q)::Q2) l/\Wq e χ (X++yP J0 i (ef J0.v d Q)::Q2) b i0:=by
 obtain⟨i,N,e,s,P,_,e2,R,K⟩:=LD t w x y H.H q C E;have Y:=H.H.al J0 (by simp)
 have m:=jV (d:=d) (h:=.int Q) Y.O (by have:=Y.G.le;simp[cm];exact fc this)
 have vr:∀{j:Nat}{Q:D},u[j]?=J (J Q)->∀a,aa j u a=.ok Q a:=λh a=>by simp_all
 refine⟨i,_,λc=>(qD (k _) (vr M _) (f W.g) s).trans (qE (eM (vr F _) P.ob (eK (vr I _) (eK (f (by
  rw[s]at m;cases m;exact iu W.g W.ady)) (eK (k _) rfl))) e2)),H.of R ((K.get _ _ H.p H.H.out.1).trans H.p.symm) (hH H.z) rfl rfl (zH (H.u J0 (by simp)) q),K.g W.g W.WX,by rw[Gk];exact W.n⟩
theorem Pg(m:cI r)(q:fL d0)(s:pU E1)(H:Q4 a χ A (X++J0::Q2) l)(W:Wq a χ (X++J0::Q2) b i0)(t:A.length<=500)(w:d∈cb J0.v)(y:u[0]?=J (oR χ.T))(C:u[4]?=J (oS J0.n))(E:u[5]?=J (oR J0.o))(k:∀{aq},aq[b]?=J (.l (i0.map .str))->p u aq=.ok (.str d) aq):
  ∃i e,(∀c,LR (aw 5 3 (JF r d0 E1)) p c u a=c u e)/\Q4 e χ (ee A (cb (fb J0.v d))) (X++yP J0 i (fb J0.v d)::Q2) l/\Wq e χ (X++yP J0 i (fb J0.v d)::Q2) b i0:=by
 obtain⟨i,F,e,P,G,I,e2,M,N,K⟩:=LF m q s H.H t w;have vr:∀{j:Nat}{x:D},u[j]?=J (J x)->∀a,aa j u a=.ok x a:=λh a=>by simp_all
 exact⟨i,_,λc=>(qE (G (vr E _) (eK (k W.g) Y))).trans (qE (eM (vr y _) I.ob (eK (vr C _) (eK (k (N.g W.g W.WX)) Y)) e2)),H.of M ((K.get _ _ H.p H.H.out.1).trans H.p.symm) (hH H.z) Y Y (λf O=>H.u J0 (by simp) f (vv O)),K.g W.g W.WX,by rw[Gk];exact W.n⟩
def UC(b c a d):=
 (af (cw (pQ (m2 (ay .NotEq) (mN (aQ a) (ae (aa 0) (ae (ai (.str "put")) (ae (aa 4) (ae (vH 12) aj))))) (tL "many" (ai (.int 12)))) (dz (mN (aQ d) (ae (aa 0) (ae (aa 1) aj))))) (rI (ai (.bl _d))) ag)
 (af (cw (m2 (ay .NotEq) (mN (aQ a) (ae (aa 0) (ae (ai (.str "put")) (ae (aa 4) (ae (ai (.str "A")) aj))))) (tL "name" (ai (.str "A")))) (rI (ai (.bl _d))) ag)
 (vI b (vH 3) (m1 DR (ai (.int 7)))
 (LR c (vH 0)
 (vI b (vH 12) (ai (.int 5))
 (rI (m2 (ay .Eq) (mN (aQ a) (ae (aa 0) (ae (ai (.str "put")) (ae (aa 4) (ae (vH 13) aj))))) (tL "many" (ai (.int 12))))))))))
def Gm(b a c d e f):=
 (af (aJ 4 (m2 aR (m2 aR (aa 2) (ai (.int 0))) (ai (.int 0))))
 (af (cw (m2 (ay .In) (aa 4) (aa 1)) (ZA d 4 ag) ag)
 (af (cA (aK "Things" "make" b (aa 0) (ae (aa 4) (ae LQ aj))))
 (af (aJ 5 cp)
 (af (dY (aa 1) (aa 4) (mN b_ (ae LQ (ae (aa 5) aj))))
 (af (dW (dv 6) (dX (ae (ai (.int 12)) aj)) (vI a (m2 aR (aa 3) (aa 6)) (aa 6) ag))
 (UC a c e f)))))))
theorem Wq.aO(W:Wq a χ X b l)(K:ao [] a x):Wq x χ X b l:=⟨K.g W.g,W.n⟩
theorem pE(c:a[m]?=J (.l (l.map .str)))(f:l[0]?=J d)(e:u[2]?=J (J (.t [.ref b,.ref m,.ref P]))):LQ u a=.ok (.str d) a:=
 eQ (eQ (by rw[eZ,e];rfl) Y (fB Y)) Y (aU c (L2.bQ (by simp_all)))
theorem nM(c:l.Nodup)(e:l[b]?=J d)(j:m<=b):d∉l.take m:=λf=>by
 obtain⟨i,a⟩:=ú.mp f;rw[afb]at a;split at a
 .obtain⟨a1,a2⟩:=Ê.mp a
  obtain⟨g,h⟩:=Ê.mp e;exact List.pairwise_iff_getElem.mp c i b a1 g (by omega) (a2.trans h.symm)
 .cases a
variable{U4:Prop}
theorem twA(p:cI r)(H:Q4 a χ A X l)(W:Wq a χ X b i0)(o:∀i e,(∀c a2 j k m,(af (cw (m2 (ay .In) (aa 4) (aa 1)) (ZA (aw 2 2 (BU r)) 4 ag) ag) c) [oR χ.T,oR χ.P,a2,j,oS d,k,m] a=c [oR χ.T,oR χ.P,a2,j,oS d,k,m] e)->Q4 e χ A i l->Wq e χ i b i0->d∉i.map (·.n)->i.length<=X.length->U4):U4:=by
 have f:=pT (d:=d) H.H.pd
 by_cases h:d∈X.map (·.n)
 .obtain⟨M1,y,M2,rfl,rfl⟩:=zF h
  rw[jX H.H.nn]at f;obtain⟨e,q,s,e2,t,K⟩:=zY p H;have u:b∉[χ.d,χ.P]:=λh=>W.n (Ph h)
  refine o _ _ (λc a2 j k m=>?_) t ⟨K.g W.g u,λh=>W.n (WY h)⟩ ?_ (by simp)
  .refine(qT (eQ Y Y f)).trans (qN (((qE (eM Y H.H.W.ob Y s)).trans (qE (e2 Y Y)))))
  .have:=H.H.nn
   rw[ā,Ù]at this;rw[ā];exact(Ī.mp (List.perm_middle.nodup_iff.mp this)).1
 .rw[vF h]at f
  exact o X a (λc a2 j k m=>q0 (eQ Y Y f)) H W h (R' _)
theorem twB(s:fC r)(t:lT d0)(B:Bs χ R5 Q m P Θ l i0 N4)(H:Q4 a χ A X l)(W:Wq a χ X b D7)(u:dU d)(w:d∉X.map (·.n))(x:d∈l)(D:X.length<40)(h:i0[0]?=J C):
  ∃y e,y.n=d/\y.v=[]/\(∀c i p j,(af (cA (aK "Things" "make" (aw 3 3 (BS r d0 (aw 2 2 By))) (aa 0) (ae (aa 4) (ae LQ aj)))) (af (aJ 5 cp) (af (dY (aa 1) (aa 4) (mN b_ (ae LQ (ae (aa 5) aj)))) c))) [oR χ.T,oR χ.P,J (.t [.ref m,.ref P,.ref Θ]),i,oS d,p,j] a=c [oR χ.T,oR χ.P,J (.t [.ref m,.ref P,.ref Θ]),i,oS d,oR y.o,j] e)/\Q4 e χ A (X++[y]) l/\Wq e χ (X++[y]) b D7:=by
 obtain⟨c,e,E,F,G,I,K,U,V,M⟩:=tR s t H (B.UB H.H) (by rw[eh];exact Å h) u w x D
 have N:=bz B.k;have q:=(B.K H.H).g B.k;have O:=M.g q (λf=>B.no H.H N (by simp at f;subst f;simp))
 have Z:=bz W.g;have R:b∉[χ.d,χ.P]:=λf=>W.n (Ph f)
 refine⟨_,_,Y,Y,λz i p j=>?_,I,K.g W.g R,λf=>?_⟩
 .have S:ao [] _ (e++[Cell.dK []]):=ao.app
  refine(qE (eM Y H.H.W.ob (eK Y (eK (pE q h Y) Y)) F)).trans ((qA (Wm)).trans (qD (eN (eK (pE (S.g O) h Y) (eK Y Y)) ?_) Y Y G));simp[b_,fG,bo]
 .have:b∈own χ X\/b=c\/b=c+1\/b=e.length+1\/b=e.length:=by
   simp[ads]at f ⊢
   grind
  rcases this with z|z
  .exact W.n z
  .omega
theorem BH(b:r q a=.ok h x):aQ r q a=.ok h x:=by simp_all
theorem iy(h:A.length<=b):(ee A l).length<=b+1:=N' Ft (ť h)
theorem BI(e:u[3]?=J (oR b))(f:l[m]?=J d)(c:∀a,p u a=.ok (.int m) a)(g:a[b]?=J (.l (l.map .str))):m2 aR (aa 3) p u a=.ok (.str d) a:=
 eQ (by simp_all) (c _) (aU g (L2.bQ (by simp_all)))
theorem ZC(y:fC d0)(z:cI r)(C:fL E1)(D:pA A3)(H:Q4 a χ A (X++[J0]) l)(W:Wq a χ (X++[J0]) b i0)(x:J0.v=[])(Q:i0.length=14)(E:i0.Nodup)(F:∀u∈i0,dU u)(R:A.length<=400)(G:∀i v f aq d,(∀c,af (dW (dv 6) (dX (ae (ai (.int 12)) aj)) (vI (aw 6 4 (Fv d0 r E1 A3)) (m2 aR (aa 3) (aa 6)) (aa 6) ag)) c [oR χ.T,oR χ.P,M4,oR b,oS J0.n,oR J0.o,_n] a=c [oR χ.T,oR χ.P,M4,oR b,oS J0.n,oR J0.o,d] aq)->Q4 aq χ f (X++yP J0 i v::[]) l->Wq aq χ (X++yP J0 i v::[]) b i0->cb v=i0.take 12->f.length<=A.length+12->U4):U4:=by
 obtain⟨_,aq,e,i,v,f,d,rfl,q,s,j,t⟩:=YO (b:=12) (E2:=dX (ae (ai (.int 12)) aj)) (A6:=dv 6) (λk I h=>∃i v f d,I=[oR χ.T,oR χ.P,M4,oR b,oS J0.n,oR J0.o,d]/\Q4 h χ f (X++yP J0 i v::[]) l/\Wq h χ (X++yP J0 i v::[]) b i0/\cb v=i0.take k/\f.length<=A.length+k) Y (by
  rintro k _ h S ⟨i,v,f,d,rfl,q,s,j,t⟩;obtain⟨w,m⟩:∃w,i0[k]?=J w:=⟨i0[k]'(by omega),Ô _⟩
  have K:v.length=k:=by
   have:(cb v).length=(i0.take k).length:=by rw[j]
   grind
  obtain⟨i2,M,e,N,O⟩:=xT (u:=[oR _,oR _,M4,oR b,oS _,oR _,oI k]) y z C D q s (F _ (Å m)) (by omega) (by simp_all) Y Y Y (p:=m2 _ _ (aa 6)) (ς:=aa 6) (λ{aq} g=>BI Y m (λ_=>Y) g) (λ_=>Y)
  refine⟨_,_,_,Y,e _,i2,_,_,_,Y,N,O,?_,iy t⟩;unfold ef;rw[if_neg (by rw[j];exact nM E m (R' _)),ŧ,m]
  simp[j]) ⟨_,[],A,_,Y,by have:=H;rwa[show J0=yP J0 J0.i []by cases J0;cases x;rfl]at this,by have:=W;rwa[show J0=yP J0 J0.i []by cases J0;cases x;rfl]at this,by simp,à _ _⟩ (by decide)
 exact G i v f _ _ e q s j t
theorem isA:∀c,∃a,aw 1 1 lS [.str "A"] c=.ok (.bl _d) a/\ao [] c a:=λc=>Ue (b:=65) (by decide) (.inr (by decide +kernel))
theorem twD(S:fC d0)(t:cI r)(x:fL E1)(U:pA A3)(D:mM r6)(E:pU o6)(F:vD L6 B1)(H:Q4 a χ A (X++J0::[]) l)(W:Wq a χ (X++J0::[]) b i0)(k:cb J0.v=i0.take 12)(hx:i0.length=14)(I:i0.Nodup)(K:∀u∈i0,dU u)(hl:A.length<=450)(hm:X.length<=90)(kk:∀y' V aq,UC (aw 6 4 (Fv d0 r E1 A3)) (aw 5 3 (JF r E1 o6)) L6 (OA r r6 E1) [oR χ.T,oR χ.P,U5,oR b,oS J0.n,oR J0.o,M4] a=.rt (.bl _t) aq->Q4 aq χ V (X++y'::[]) l->V.length<=A.length+3->U4):U4:=by
 obtain⟨c,d⟩:∃w,i0[12]?=J w:=⟨i0[12]'(by omega),Ô _⟩
 obtain⟨f,e⟩:∃w,i0[13]?=J w:=⟨i0[13]'(by omega),Ô _⟩
 obtain⟨h,Z⟩:∃w,i0[3]?=J w:=⟨i0[3]'(by omega),Ô _⟩
 obtain⟨i,h0⟩:∃w,i0[0]?=J w:=⟨i0[0]'(by omega),Ô _⟩
 have q:c∉cb J0.v:=by rw[k];exact nM I d (R' _)
 have a0:f∉cb J0.v:=by rw[k];exact nM I e (by decide)
 have n1:c≠f:=λz=>by
  have:=nM I e (m:=13) (R' _);refine this (ú.mpr ⟨12,?_⟩)
  simp_all
 have M:h∈cb J0.v:=by rw[k];exact ú.mpr ⟨3,by simp_all⟩
 have m0:i∈cb J0.v:=by rw[k];exact ú.mpr ⟨0,by simp_all⟩
 have lv:J0.v.length=12:=by
  have:(cb J0.v).length=(i0.take 12).length:=by rw[k]
  simp at this;omega
 have s:=K _ (Å d);have N:=K _ (Å e);obtain⟨b0,e1,K1⟩:=F.Qf H.H.W (ix H.H.nn) (H.H.al J0 (by simp)).G s q lv
 have H1:=H.aO K1;have W1:=W.aO K1;obtain⟨c0,e2,K2⟩:=LH (E1:=r6) t D x H1.H (by simp;exact fc hm)
 have O:=H1.aO K2;have W2:=W1.aO K2;obtain⟨e0,e3,K3⟩:=F.puS O.H.W (ix O.H.nn) isA;have H3:=O.aO K3;obtain⟨i4,f0,e4,H4,W4⟩:=xT (Q := -7) (u:=[oR χ.T,oR χ.P,U5,oR b,oS J0.n,oR J0.o,M4]) S t x U H3 (W2.aO K3) (K _ (Å Z)) (fc hl) (.inl M) Y Y Y (p:=vH 3) (ς:=m1 DR (ai (.int 7))) (λ{aq} g=>BI Y Z (λ_=>Y) g) (λ_=>Y)
 have p4:ef J0.v h (-7)=J0.v.set ((cb J0.v).idxOf h) (h,-7):=if_pos M;have d4:cb (ef J0.v h (-7))=cb J0.v:=by rw[p4];exact zC M
 have l4:(ef J0.v h (-7)).length=12:=by rw[p4,Ϻ];exact lv
 generalize ef J0.v h (-7)=j at *;obtain⟨i5,g0,e5,H5,W5⟩:=Pg (u:=[oR χ.T,oR χ.P,U5,oR b,oS J0.n,oR J0.o,M4]) t x E H4 W4 (by have:=iy (l:=cb j) (A:=A) (R' _);omega) (by simp_all) Y Y Y (p:=vH 0) (λ{aq} g=>BI Y h0 (λ_=>Y) g)
 have d5:cb (fb j i)=jH (cb J0.v) i:=by rw[←tA ((H4.H.al _ (å _ (.head _))).G.nd),d4]
 have l5:(fb j i).length=11:=by
  unfold fb;rw[List.length_eraseIdx,if_pos,l4];have:=ϛ (show i∈cb j by rw[d4];exact m0)
  rwa[ß]at this
 have s5:∀u,u∉cb J0.v->u∉cb (fb j i):=λu hu z=>by
  rw[d5]at z;exact hu (abo.mp z).1
 generalize j0:fb j i=y at *
 obtain⟨i6,l0,e6,C,W6⟩:=xT (Q:=5) (u:=[oR χ.T,oR χ.P,U5,oR b,oS J0.n,oR J0.o,M4]) S t x U H5 W5 s (by
  have:=iy (l:=cb j) (A:=A) (R' _);have:=iy (l:=cb y) this;omega) (by simp_all) Y Y Y (p:=vH 12) (ς:=ai (.int 5)) (λ{aq} g=>BI Y d (λ_=>Y) g) (λ_=>Y)
 have p6:ef y c 5=y++[(c,5)]:=if_neg (s5 _ q)
 have n6:f∉cb (ef y c 5):=by
  grind
 obtain⟨R,e7,K7⟩:=F.Qf C.H.W (ix C.H.nn) (C.H.al _ (å _ (.head _))).G N n6 (by rw[p6];simp[l5])
 exact kk _ _ R ((q0 (oF (eQ (eN (eK Y (eK Y (eK Y (eK (BI (p:=ai (.int 12)) Y d (λ_=>Y) W.g) Y)))) (BH e1)) (eR Y) Y) (nT (eC Y e2)))).trans ((q0 (eQ (eN (eK Y (eK Y (eK Y (eK Y Y)))) (BH e3)) (eR Y) Y)).trans ((e4 _).trans ((e5 _).trans ((e6 _).trans (qR (eQ (eN (eK Y (eK Y (eK Y (eK (BI (p:=ai (.int 13)) Y e (λ_=>Y) W6.g) Y)))) (BH e7)) (eR Y) Y))))))) (C.aO K7) (iy (iy (iy (R' _))))
theorem Ks(f:fC d0)(h:cI r)(q:fL A3)(s:pA o6)(j:mM L6)(k:pU r6)(F:lT E1)(G:vD f7 B1)(B:Bs χ R5 Q m P Θ l i0 N4)(H:Q4 a χ A X l)(W:Wq a χ X b D7)(t:D7.length=14)(w:D7.Nodup)(x:∀u∈D7,dU u)(I:A.length<=400)(z:X.length<=30)(M:∀o C aq,aw 7 4 (Gm (aw 3 3 (BS d0 E1 (aw 2 2 By))) (aw 6 4 (Fv d0 r A3 o6)) (aw 5 3 (JF r A3 r6)) (aw 2 2 (BU r)) f7 (OA r L6 A3)) [.ref χ.T,.ref χ.P,.t [.ref m,.ref P,.ref Θ],.ref b] a=.ok (.bl _t) aq->Q4 aq χ o C l->o.length<=A.length+15->C.length<=X.length+1->U4):U4:=by
 obtain⟨n,D⟩:∃n,l[0]?=J n:=⟨l[0]'(by rw[B.ln];decide),Ô _⟩
 obtain⟨E,N⟩:∃E,i0[0]?=J E:=⟨i0[0]'(by rw[B.lk];decide),Ô _⟩
 have c:=Å D;refine twA (d:=n) h H W λM0 O R S U p e=>?_
 obtain⟨y,V,rfl,Z,eB,H2,W2⟩:=twB f F B S U (B.vn _ c) p c (UW (N' e z)) N;refine ZC (M4:=J (.t [.ref m,.ref P,.ref Θ])) f h q s H2 W2 Z t w x I λi v o a0 a6 eC H3 W3 hv hL=>?_
 refine twD (M4:=a6) (U5:=J (.t [.ref m,.ref P,.ref Θ])) f h q s j k G H3 W3 hv t w x (by omega) (fc (N' e z)) λy' b0 c0 eD H4 e0=>?_
 exact M _ _ _ (fR ((qA (eQ (eQ Y Y (fB Y)) Y (aU ((B.K H.H).g B.n) (L2.bQ (b:=0) (by rw[Ü,D];rfl))))).trans ((R _ _ _ _ _).trans ((eB _ _ _ _).trans ((eC _).trans eD))))) H4 (by omega) (by simp;omega)
def WZ:=mN (bP .list) (ae (aa 1) aj)
def LS(a b c):=mN gm (ae a (ae b (ae c aj)))
def tMk(c a b):=mN (aQ c) (ae (aa 0) (ae (ai (.str "make")) (ae a (ae b aj))))
def UD(DU a b c):=mN (aQ DU) (ae (aa 1) (ae (m2 aR (aa 2) (ai (.int 1))) (ae (ai (.str "make")) (ae a (ae b (ae c aj))))))
def W_(a DU):=(af (cw (m2 (ay .NotEq) (tMk a (aa 5) (aa 6)) (UD DU (aa 5) (aa 6) (aa 7))) (rI (ai (.bl _d))) ag) ag)
def UE(b c a DU):=
 (af (aJ 4 LQ)
 (af (dW (fY [5,6,7]) (cP (mN b_ (ae (LS (aa 3) (aa 4) (ai (.bl _t))) (ae (LS (aa 3) (ai (.str "A")) (ai (.bl _t))) (ae (LS (m2 aR WZ (ai (.int 0))) (ai (.str "A")) (ai (.bl _t))) (ae (LS (ai (.str "A")) (ai (.str "A")) (ai (.bl _d))) aj)))))) (W_ a DU))
 (af (aJ 8 (m2 aR WZ (m1 DR (ai (.int 1)))))
 (ZA c 8
 (af (cA (aK "Things" "make" b (aa 0) (ae (aa 8) (ae (aa 4) aj))))
 (af (dY (aa 1) (aa 8) (mN b_ (ae (aa 4) (ae cp aj))))
 (rI (m2 (ay .Eq) (tMk a (aa 3) (ai (.str "A"))) (UD DU (aa 3) (ai (.str "A")) (ai (.bl _t)))))))))))
theorem LU(c:zO D8.2):ay .NotEq (ri D8) (ri D8) a=.ok (.bl _d) a/\ay .Eq (ri D8) (ri D8) a=.ok (.bl _t) a:=by
 refine⟨?_,nJ c _ a ao.refl⟩;obtain⟨C,d⟩:=D8
 have b:∀d,(∀a,et a 8 (.t [.str (wd C),d])=J (.t [.str (wd C),d]))->aI 8 (.t [.str (wd C),d])=_t->ay _ _ _ a=.ok _ a:=λd f e=>by
  rw[tj,jx,f];simp only[nj,MM,e,aem,if_true];rw[oy 8 _ e];rfl
 rcases c with ⟨_,rfl⟩|⟨_,rfl⟩|rfl|⟨_,rfl⟩
 all_goals exact b _ (λ_=>Y) Y
theorem LV(k:vD r B1)(H:Ps a χ A X)(m:a[b]?=J (.l (l.map .str)))(o:dU d)(q:X.length=40):∃p c e,r [.ref χ.T,.str "make",.str d,.str C] a=.ok (ri p) c/\DU [.ref χ.P,.ref b,.str "make",.str d,.str C,.bl _t] c=.ok (ri p) e/\zO p.2/\ao [] a e:=by
 by_cases h:d∈X.map (·.n)
 .obtain⟨y,s,rfl⟩:=Ð.mp h
  obtain⟨c,i,f⟩:=k.Uq H.W o (gi H.nn s);obtain⟨e,e2,j⟩:=tP (H.aO f).pd (f.g m);unfold Uv at e2;rw[nG H.nn s]at e2;exact⟨_,_,_,i,e2,.inl ⟨_,Y⟩,f.trans j⟩
 .obtain⟨c,i,f⟩:=k.Ur H.W o (vG h) (by rw[tQ];exact Á q.symm)
  obtain⟨e,e2,j⟩:=tP (H.aO f).pd (f.g m);unfold Uv at e2;rw[vF h,xS,if_pos q]at e2;exact⟨_,_,_,i,e2,.inr (by simp),f.trans j⟩
noncomputable abbrev e4(A:Ae)(a b c:Nat)(n kd:L)(d e f g:_o D):a_:=[oR A.T,oR A.P,J (.t [.ref a,.ref b,.ref c]),oS n,oS kd,d,e,f,g]
theorem Gn(c:r [.ref χ.T,.str "make",h,ε] a=.ok (ri D8) x)(e2:DU [.ref χ.P,.ref m,.str "make",h,ε,.bl E] x=.ok (ri D8) F3)(e:zO D8.2):W_ r DU (e4 χ b m P d C (J h) (J ε) (J (.bl E)) M4) a=.nx (e4 χ b m P d C (J h) (J ε) (J (.bl E)) M4) F3:=
 (q0 (eQ (eN (eK Y (eK Y (eK Y (eK Y Y)))) (BH c)) (eN (eK Y (eK (eQ Y Y (fB Y)) (eK Y (eK Y (eK Y (eK Y Y)))))) (BH e2)) (LU e).1)).trans Y
theorem Gp(H:Ps a χ A X)(b:u[1]?=J (oR χ.P)):WZ u a=.ok (.ref a.length) (a++[.l ((X.map (·.n)).map .str)]):=eN (eK (by simp_all) Y) (zK▸pk H.pd)
noncomputable def Xa(n kd a:L):B D:=[.t [.str n,.str kd,.bl _t],.t [.str n,.str "A",.bl _t],.t [.str a,.str "A",.bl _t],.t [.str "A",.str "A",.bl _d]]
theorem UG(hI:fC d0)(hT:cI r)(hC:lT E1)(V:vD A3 B1)(B:Bs χ R5 Q b m P l i0 N4)(H:Q4 a χ A X D7)(vz:∀u∈D7,dU u)(Z:dU d)(N:X.length=40)(kk:∀M' aq,aw 9 4 (UE (aw 3 3 (BS d0 E1 (aw 2 2 By))) (aw 2 2 (BU r)) A3 DU) [.ref χ.T,.ref χ.P,.t [.ref b,.ref m,.ref P],.str d] a=.ok (.bl _t) aq->Q4 aq χ A M' D7->M'.length=40->U4):U4:=by
 obtain⟨o,hk⟩:∃o,i0[0]?=J o:=⟨i0[0]'(by rw[B.lk];decide),Ô _⟩
 have k0:=(B.K H.H).g B.k;obtain⟨M1,y,rfl⟩:∃M1 y,X=M1++[y]:=⟨X.dropLast,X.getLast (by intro z;rw[z]at N;cases N),(List.dropLast_concat_getLast _).symm⟩
 obtain⟨x,D⟩:∃x,((M1++[y]).map (·.n))[0]?=J x:=⟨((M1++[y]).map (·.n))[0]'(by rw[ß];omega),Ô _⟩
 have a0:dU x:=by
  obtain⟨z,hz,rfl⟩:=Ð.mp (Å D);exact vz _ (H.i z hz)
 have l1:=Gp (u:=e4 χ b m P d o _n _n _n _n) H.H Y;have g1:(a++[Cell.l (((M1++[y]).map (·.n)).map .str)])[a.length]?=J _:=aG;have K1:ao [] a (a++[Cell.l (((M1++[y]).map (·.n)).map .str)]):=ao.app;generalize a++[Cell.l _]=E at *;obtain⟨F,e2,K2,g2⟩:=kA (lN (q:=Xa d o x) (a:=E))
 have eL:cP (mN b_ (ae (LS (aa 3) (aa 4) (ai (.bl _t))) (ae (LS (aa 3) (ai (.str "A")) (ai (.bl _t))) (ae (LS (m2 aR WZ (ai (.int 0))) (ai (.str "A")) (ai (.bl _t))) (ae (LS (ai (.str "A")) (ai (.str "A")) (ai (.bl _d))) aj))))) _ a=.ok (.seq (.ref E.length)) F:=
  sr (eN (eK (eN (eK Y (eK Y (eK Y Y))) Y) (eK (eN (eK Y (eK Y (eK Y Y))) Y) (eK (eN (eK (eQ l1 Y (aU g1 (L2.bQ (b:=0) (by rw[Ü,D];rfl)))) (eK Y (eK Y Y))) Y) (eK (eN (eK Y (eK Y (eK Y Y))) Y) Y)))) e2) g2
 have t:=K1.trans K2
 obtain⟨_,s,e3,O,R,S,rfl,K3⟩:=Nz (A6:=fY [5,6,7]) (υ:=W_ A3 DU) (q:=Xa d o x) (λi ρ j=>∃O R S,ρ=e4 χ b m P d o O R S _n/\ao [] F j) eL (λ{i ρ j} ⟨_,_,_,_,K⟩=>by rw[e_,br,a9 (K.g g2)]) (by
  rintro i b0 _ j hd ⟨O,R,S,rfl,K⟩;have Hx:=(H.H.aO (t.trans K));have kx:=(t.trans K).g k0;have hm:=Å hd;simp only[Xa,Ì,Ŧ,or_false]at hm
  have go:∀{h u:L},dU h->∃f,W_ A3 DU (e4 χ b m P d o (oS h) (oS u) (J (.bl _t)) _n) j=.nx _ f/\ao [] j f:=λ{h u} vm=>by
   obtain⟨p,h0,c0,G,x2,ha,Kb⟩:=LV (C:=u) V Hx kx vm N;exact⟨c0,Gn G x2 ha,Kb⟩
  rcases hm with rfl|rfl|rfl|rfl
  .obtain⟨f,e,w⟩:=go (u:=o) Z
   exact⟨_,_,f,Y,e,_,_,_,Y,K.trans w⟩
  .obtain⟨f,e,w⟩:=go (u:="A") Z
   exact⟨_,_,f,Y,e,_,_,_,Y,K.trans w⟩
  .obtain⟨f,e,w⟩:=go (u:="A") a0
   exact⟨_,_,f,Y,e,_,_,_,Y,K.trans w⟩
  .obtain⟨f,G,w⟩:=V.mkS (oth:=.str "A") Hx.W isA
   exact⟨_,_,f,Y,Gn (D8:=("NoName",.str "A")) G Gb (.inl ⟨_,Y⟩),_,_,_,Y,K.trans w⟩) ⟨_n,_n,_n,Y,ao.refl⟩ (by simp[Xa])
 have H3:=H.aO (t.trans K3);have l4:=Gp (u:=e4 χ b m P d o O R S _n) H3.H Y;have g4:(s++[Cell.l (((M1++[y]).map (·.n)).map .str)])[s.length]?=J _:=aG;have K4:ao [] s (s++[Cell.l (((M1++[y]).map (·.n)).map .str)]):=ao.app;have H4:=H3.aO K4;have vy:dU y.n:=vz _ (H.i y (by simp))
 have e0:y.n∈D7:=H.i y (by simp)
 obtain⟨j0,l0,e5,e6,U,K6⟩:=zY (Q2:=[]) hT H4;rw[Ć]at U;have f0:M1.length=39:=by simp at N;omega
 obtain⟨c,I,m0,e7,e8,H8,K8,_,_,_⟩:=tR hI hC U (B.UB U.H) (by rw[eh];exact Å hk) vy (by
  have:=H.H.nn;rw[ā]at this;intro z;exact(Ă.mp this).2.2 _ z _ (by simp) Y) e0 (UW (Á f0))
 obtain⟨p,o0,M,G,x2,ha,g0⟩:=LV (C:="A") V H8.H ((B.K H8.H).g B.k) Z (by simp;omega)
 refine kk _ M (fR ((qA (pE k0 hk Y)).trans ((e3 _).trans ((qA (eQ l4 Y (aU g4 (by rw[ā,ā];exact L2.Co _ _)))).trans ((qE (eM Y H4.H.W.ob Y e5)).trans ((qE (e6 Y Y)).trans ((qE (eM Y U.H.W.ob Y e7)).trans ((qD (X4:=.ref (I.length+1)) (eN (eK Y (eK (Wm (a:=I)) Y)) ?_) Y Y e8).trans (qR (eQ (eN (eK Y (eK Y (eK Y (eK Y Y)))) (BH G)) (eN (eK Y (eK (eQ Y Y (fB Y)) (eK Y (eK Y (eK Y (eK Y Y)))))) (BH x2)) (LU ha).2)))))))))) (H8.aO g0) (by simp;omega)
 simp[b_,fG,bo]
def ZD:=m2 (bb .Add) (m2 (bb .Add) (m2 (bb .Add) (ai (.str "z")) (m2 aR (aa 3) (m2 (bb .Mod) (aa 4) (ai (.int 26))))) (m2 aR (aa 3) (m2 (bb .FloorDiv) (aa 4) (ai (.int 26))))) (ai (.str "zzzzz"))
def fuB(a b):=
 (af (aJ 5 ZD)
 (af (cw (m2 (ay .Eq) (mN (bP .len) (ae (aa 1) aj)) (ai (.int 40))) (rI (mN (aQ b) (ae (aa 0) (ae (aa 1) (ae (aa 2) (ae (aa 5) aj)))))) ag)
 (af (cw (m2 (ay .NotIn) (aa 5) (aa 1)) (af (cA (aK "Things" "make" a (aa 0) (ae (aa 5) (ae LQ aj)))) (af (dY (aa 1) (aa 5) (mN b_ (ae LQ (ae cp aj)))) ag)) ag)
 ag)))
def Xb(a b):=
 (af (aJ 3 (ai (.str "abcdefghijklmnopqrstuvwxyz")))
 (af (dW (dv 4) (dX (ae (ai (.int 45)) aj)) (fuB a b))
 (af (a7 (ai (.bl _d)))
 ag)))
def zn(k):=(("z"++aY (97+k%26))++aY (97+k / 26))++"zzzzz"
def zs:=(É 45).map zn
theorem Pj:∀k<45,dU (zn k):=by
 have:∀k<45,1<=(zn k).length/\(zn k).length<=8/\∀c∈(zn k).cps.toList,97<=c/\c<=122:=by decide +kernel
 exact this
theorem UH:zs.Nodup:=by decide +kernel
theorem ZE(h:b<45):zn b∈zs:=Ð.mpr ⟨b,ę.mpr h,Y⟩
theorem xU(a b:L):(a++b).length=a.length+b.length:=by
 show(a.cps++b.cps).size=_
 rw[Array.size_append];rfl
theorem xW:(aY b).length=1:=Y
theorem Pk(g:b<45)(h:u[3]?=J (oS abc))(i:u[4]?=J (oI b)):ZD u a=.ok (.str (zn b)) a:=by
 have c:aa 3 u a=.ok (.str abc) a:=by simp_all
 have d:aa 4 u a=.ok (.int b) a:=by simp_all
 have e:∀j:Nat,j<26->aR (.str abc) (.int j) a=.ok (.str (aY (97+j))) a:=λj f=>by
  have:=mY (Q:=(j)) (Ķ _) (Ku f);simp[this]
 exact eQ (eQ (eQ Y (eQ c (eQ d Y (by simp)) (e _ (Nat.mod_lt _ (by decide)))) (add_str (by simp only[xU,xW];decide))) (eQ c (eQ d Y (by simp)) (e _ (by omega))) (add_str (by simp only[xU,xW];decide))) Y (add_str (by simp only[xU,xW];decide))
variable{A6:D->a_->_o a_}{E2:IM}{R4:Src}
theorem lpX(I:Nat->a_->aA->Prop)(R:eA->Prop)(g:E2 u a=.ok R4 x)(j:∀{i u a},I i u a->du R4 a=J q)(k:∀{i d u a},q[i]?=J d->I i u a->∃e,A6 d u=J e/\((∃f b,υ e a=.nx f b/\I (i+1) f b)\/∃c b,υ e a=.rt c b/\R (.rt c b)))(l:I 0 u x)(m:∀u a,I q.length u a->R (.nx u a))(n:q.length<=1000):R (dW A6 E2 υ u a):=by
 rw[zm,g];refine pb I (λ_ _ _ h=>j h) (λi d u a h o=>?_) m _ 0 u _ (by unfold fuel;exact UW (N' (ae3 _ _) n)) (ĉ _) l
 obtain⟨e,p,e2⟩:=k h o;refine⟨_,p,?_⟩;rcases e2 with ⟨f,b,e2,r⟩|⟨c,b,e2,r⟩<;>rwa[e2]
theorem UI(N:fC d0)(Z:cI r)(O:lT E1)(hD:vD A3 B1)(B:Bs χ R5 Q b m P l i0 N4)(H:Q4 a χ A X D7)(vz:∀u∈D7,dU u)(hz:∀u∈zs,u∈D7)(s:X.length<40):
  ∃p aq,aw 6 3 (Xb (aw 3 3 (BS d0 E1 (aw 2 2 By))) (aw 9 4 (UE (aw 3 3 (BS d0 E1 (aw 2 2 By))) (aw 2 2 (BU r)) A3 DU))) [.ref χ.T,.ref χ.P,.t [.ref b,.ref m,.ref P]] a=.ok (.bl _t) aq/\Q4 aq χ A p D7/\p.length=40:=by
 obtain⟨R,t⟩:∃R,i0[0]?=J R:=⟨i0[0]'(by rw[B.lk];decide),Ô _⟩
 rw[eJ (by rfl)]
 unfold Xb;rw[qA Y,gc];refine lpX (λi ρ h=>∃C w o,ρ=[oR _,oR _,J _,oS _,C,w]/\Q4 h χ A o D7/\o.length<=40/\∀j<i,zn j∈o.map (·.n)) (λz=>∃p aq,Bj (sq z _)=.ok _ aq/\Q4 aq χ A p D7/\p.length=40) Y (λ_=>Y) ?_ ⟨_,_,X,Y,H,ó s,by simp⟩ ?_ (by decide)
 .rintro i d _ h hd ⟨C,w,o,rfl,f,D,S⟩
  obtain⟨rfl,x⟩:=mX hd;refine⟨_,Y,?_⟩;rw[Int.zero_add];have E:ZD [oR χ.T,oR χ.P,J (.t [.ref b,.ref m,.ref P]),oS _,oI _,w] h=.ok _ _:=Pk x Y Y;have F:=mw f.H.pd;rw[xS]at F;have U:=(B.K f.H).g B.k
  by_cases G:o.length=40
  .right
   refine UG N Z O hD B f vz (Pj i x) G λp aq e H' l'=>?_
   exact⟨_,_,(qA E).trans ((qT (eQ (eN Y F) Y (Uw.trans (by simp_all)))).trans (qB (qR (eC Y e)))),p,_,Y,H',l'⟩
  .left
   have V:=λc=>q0 (z5:=c) (υ:=rI (mN (aQ (aw 9 4 (UE (aw 3 3 (BS d0 E1 (aw 2 2 By))) (aw 2 2 (BU r)) A3 DU))) (ae (aa 0) (ae (aa 1) (ae (aa 2) (ae (aa 5) aj)))))) (eQ (u:=[oR χ.T,oR _,J (.t [.ref b,.ref m,.ref P]),oS abc,oI (i),oS (zn i)]) (eN (Q0:=ae (aa 1) aj) Y F) (ς:=ai _) Y (Uw.trans (by rw[decide_eq_false G])))
   have q:=kY (d:=zn i) f.H.pd
   by_cases s:zn i∈o.map (·.n)
   .obtain⟨y,hy,I⟩:=Ð.mp s
    rw[←I,nG f.H.nn hy]at q;refine⟨_,_,(qA E).trans ((V _).trans ((q0 (eQ Y Y (by simp_all))).trans Y)),_,_,o,Y,f,D,λj M=>?_⟩
    grind
   .rw[vF s]at q
    obtain⟨c,a0,b0,e1,e3,H3,K,lc,l1,K1⟩:=tR N O f (B.UB f.H) (by rw[eh];exact Å t) (Pj i x) s (hz _ (ZE x)) (afg D G)
    have k1:=K1.g U (λs=>B.no f.H (bz B.k) (by simp_all))
    refine⟨_,_,(qA E).trans ((V _).trans ((qT (eQ Y Y q)).trans (qN ((qE (eM Y f.H.W.ob (eK Y (eK (pE U t Y) Y)) e1)).trans (qD (eN (eK (pE k1 t Y) (eK (Wm) Y)) ?_) Y Y e3))))),_,_,_,Y,H3,by simp;omega,λj M=>?_⟩
    .simp[b_,fG,bo]
    grind
 .rintro _ h ⟨C,w,o,rfl,f,D,S⟩
  have h1:=agP UH λz hz=>by
   obtain⟨k,t,rfl⟩:=Ð.mp hz;exact S k (ę.mp t)
  rw[ß]at h1;have:zs.length=45:=by rfl
  omega
def GB(F0:B D->Out Rs)(i:Int):=(mN (ey F0) (ae (aa 0) (ae (ai (.int i)) aj)))
def ZF(F0:B D->Out Rs)(a):=
 (af (aJ 1 (mN (aQ a) (ae (GB F0 0) (ae (ai (.int 5)) aj))))
 (af (aJ 2 (mN (aQ a) (ae (GB F0 1) (ae (ai (.int 3)) aj))))
 (af (aJ 3 (mN (aQ a) (ae (GB F0 2) (ae (m2 aR (mN b_ (ae (ai (.int 4)) (ae (ai (.int 6)) (ae (ai (.int 14)) aj)))) (m2 (bb .Mod) (GB F0 3) (ai (.int 3)))) aj))))
 (af (a7 (mN gm (ae (aa 1) (ae (aa 2) (ae (aa 3) aj)))))
 ag))))
variable{F6:B Int}
theorem pF(b:lB (λc k=>c.getD k 0) m4)(i:Nat)(d:aa 0 u a=.ok (SC F6) a):GB m4 i u a=.ok (.int (F6.getD i 0)) a:=eN (eK d Y) (by
 have:=b F6 i
 simp_all)
theorem UJ(b:lB (λc k=>c.getD k 0) m4)(o:JM r)(x:∀(c ks d:B L) j l n aq,aw 4 1 (ZF m4 r) [SC F6] a=.ok (.t [.ref j,.ref l,.ref n]) aq->aq[j]?=J (.l (c.map .str))->aq[l]?=J (.l (ks.map .str))->aq[n]?=J (.l (d.map .str))->(ks.Nodup/\d.Nodup)->(∀u∈c,dU u)->(∀u∈ks,dU u)->(∀u∈d,dU u)->c.length=5->ks.length=3->1<=d.length->d.length<=14->U4):U4:=by
 obtain⟨c,j,y,T,z,A,C,D,U⟩:=o a _ 5 (by decide) (by decide)
 obtain⟨ks,l,f,E,F,G,e2,H,I⟩:=o _ _ 3 (by decide) (by decide)
 refine aH (kA (lN (q:=[.int 4,.int 6,.int 14]) (a:=f))) λh K M p=>?_
 have s:∃m:Nat,(1<=m/\m<=14)/\aR (.ref f.length) (.int (F6.getD 3 0%3)) h=.ok (.int m) h:=by
  have:F6.getD 3 0%3=0\/F6.getD 3 0%3=1\/F6.getD 3 0%3=2:=by omega
  rcases this with e|e|e<;>rw[e]
  .exact⟨4,by decide,aU p Y⟩
  .exact⟨6,by decide,aU p Y⟩
  .exact⟨14,by decide,aU p Y⟩
 obtain⟨m,⟨t,m1⟩,N⟩:=s;obtain⟨d,n,O,P,Q,w,e4,R,S⟩:=o _ _ m t m1;have i:=M.trans S;exact x c ks d j l n _ (fR ((qA (eC (eK (pF b 0 Y) Y) C)).trans ((qA (eC (eK (pF b 1 Y) Y) e2)).trans ((qA (eC (eK (pF b 2 Y) (eK (eQ (eN Y K) (eQ (pF b 3 Y) Y NC) N) Y)) e4)).trans (qR Y))))) ((I.trans i).g D) (i.g H) R ⟨E,P⟩ z F Q A G (N' t (Á w.symm)) (N' (Á w) m1)
def ZG(F0:B D->Out Rs)(j:Int):=(mN (ey F0) (ae (aa 0) (ae (m2 (bb .Add) (ai (.int j)) (aa 6)) aj)))
def Kt(a):=mN (aQ a) (ae (aa 4) (ae (aa 5) aj))
def rF(m):=cw (dz m) (rI (ai (.bl _d))) ag
def UK(F0:B D->Out Rs)(a b c):=
 (af (rF (mN (aQ a) (ae (aa 4) (ae (aa 5) (ae (aa 1) (ae (ZG F0 4) aj))))))
 (af (rF (mN (aQ b) (ae (aa 4) (ae (aa 5) (ae (aa 1) (ae (aa 3) (ae (ZG F0 30) aj)))))))
 (af (rF (Kt c))
 ag)))
def UL(F0:B D->Out Rs)(PO c d e f g a b h):=
 (af (aJ 1 (mN (aQ PO) (ae (aa 0) aj)))
 (af (aJ 2 (mN (aQ c) (ae (GB F0 0) (ae (ai (.int 6)) aj))))
 (af (aJ 3 (m2 aR (aa 2) (ai (.int 5))))
 (af (aJ 1 (mN gm (ae (fH (aa 2) _t (ai .n) _d (ai (.int 5))) (ae (m2 aR (aa 1) (ai (.int 1))) (ae (m2 aR (aa 1) (ai (.int 2))) aj)))))
 (af (aJ 4 (mN (gU "Things" d) (ae (mN (aQ e) (ae (m2 aR (aa 1) (ai (.int 1))) aj)) aj)))
 (af (aJ 5 cp)
 (af (dW (dv 6) (dX (ae (ai (.int 24)) aj)) (UK F0 f g a))
 (af (cw (pQ (dz (mN (aQ b) (ae (aa 4) (ae (aa 5) (ae (aa 1) (ae (mN (aQ c) (ae (GB F0 60) (ae (ai (.int 14)) aj))) aj)))))) (dz (Kt a))) (rI (ai (.bl _d))) ag)
 (af (cw (fJ (m2 (ay .Eq) (m2 (bb .Mod) (GB F0 0) (ai (.int 4))) (ai (.int 1))) (dz (mN (aQ h) (ae (aa 4) (ae (aa 5) (ae (aa 1) aj)))))) (rI (ai (.bl _d))) ag)
 (rI (Kt a)))))))))))
abbrev eW(b:B Int)(pl:D)(q:Nat)(st:L)(A:Ae)(a:_o D):a_:=[J (SC b),J pl,oR q,oS st,oR A.T,oR A.P,a]
theorem Gq(c:lB (λe k=>e.getD k 0) m4)(j k:Nat):ZG m4 j (eW F6 h b d χ (oI k)) a=.ok (.int (F6.getD (j+k) 0)) a:=eN (eK Y (eK (eQ Y Y Bv) Y)) (by
 have:=c F6 (j+k)
 simp_all)
theorem Pl(H:Q4 a χ A X l)(m:a[b]?=J (.l (i0.map .str)))(i:i0.length=14):b∉own χ X:=λj=>by
 have e:∀{c:Cell},a[b]?=J c->c=.l (i0.map .str):=λ{c} h=>by simp_all
 obtain⟨d,t,rfl⟩:∃d t,i0=d::t:=by
  cases i0 with
  |nil=>cases i
  |cons d t=>simp
 rcases Ñ.mp j with z|z
 .simp at z
  rcases z with rfl|rfl|rfl|rfl
  .have:=e H.H.W.sh.ro
   cases A with
   |nil=>cases H.z
   |cons f A=>simp[tS]at this
  .cases e H.H.W.sh.nu
  .cases e H.H.W.dk
  .cases e H.p
 .obtain⟨y,k,z⟩:=acM.mp z
  have Y:=H.H.al y k;simp at z;rcases z with rfl|rfl|rfl|rfl
  .cases e Y.G.ob
  .have:=e Y.G.sl
   cases n:y.v with
   |nil=>simp_all
   |cons p v=>simp_all
  .have:=e Y.R
   cases t with
   |nil=>cases i
   |cons g t=>simp_all
  .cases e Y.O
abbrev ZH(a b):=aw 3 3 (BS a b (aw 2 2 By))
abbrev fPu(a b c d):=aw 6 4 (Fv a b c d)
abbrev f12(c a b d e f g h):=aw 7 4 (Gm (ZH c g) (fPu c a b d) (aw 5 3 (JF a b e)) (aw 2 2 (BU a)) h (OA a f b))
abbrev fF4(a b c d):=aw 9 4 (UE (ZH a c) (aw 2 2 (BU b)) d DU)
abbrev fFu(a c b d):=aw 6 3 (Xb (ZH a b) (fF4 a c b d))
theorem Gr(h:p u a=.ok (.bl _t) x):af (rF p) υ u a=υ u x:=q0 (nT h)
theorem xX(c:cI r)(b:mM E1)(d:fL d0)(H:Q4 a χ A X l)(f:X.length<=100)(g:u[4]?=J (oR χ.T))(h:u[5]?=J (oR χ.P)):∃aq,Kt (OA r E1 d0) u a=.ok (.bl _t) aq/\Q4 aq χ A X l:=by
 obtain⟨aq,e,K⟩:=LH c b d H.H f;exact⟨_,eN (eK (by rw[eZ,g];rfl) (eK (by simp_all) Y)) (BH e),H.aO K⟩
theorem Gs{NN IN AD}{F:List D->Out Rs}(j:lB (λns k=>ns.getD k 0) m4)(a0:iS y6 F)(O:JM J7)(hw:Fh IN)(hA:Fl AD)(hC:lT E1)(hI:fC d0)(Z:cI r)(hS:fL A3)(C:mM L6)(hG:pA o6)(b0:pU r6)(hN:Ka NN (aw 1 1 lS) B1)(hD:vD f7 B1):
  ∃aq,aw 7 1 (UL m4 (aw 4 1 (ZF m4 J7)) J7 (aw 2 2 (Y_ (aw 1 1 WG))) (aw 3 1 (Y9 (aw 2 2 (WD IN (aw 2 2 Td))) (aw 4 4 (WE AD (aw 3 2 Te))) AD)) (WI F d0 r A3 o6 r6 E1) (aw 13 5 (WW F NN DU f7)) (OA r L6 A3) (f12 d0 r A3 o6 r6 L6 E1 f7) (fFu d0 r E1 f7)) [SC F6] []=.ok (.bl _t) aq:=by
 refine UJ (a:=[]) (F6:=F6) j O λ_ ks ws n0 I K l0 e1 _ k1 w1 c0 _ vk vw _ lk m0 o0=>?_
 have lw:=And.intro m0 o0;have kn:=c0.1;have wn:=c0.2;obtain⟨E,P,e,xn,vx,lx,e2,g2,K2⟩:=O l0 (F6.getD 0 0) 6 (by decide) (by decide)
 obtain⟨q,e0⟩:∃q,E[5]?=J q:=⟨E[5]'(by omega),Ô _⟩
 have p0:=vx _ (Å e0);have r0:=w_ (m:=5) g2;have g3:(e++[Cell.l ((E.take 5).map .str)])[e.length]?=J (.l ((E.take 5).map .str)):=aG;have K3:ao [] e (e++[Cell.l ((E.take 5).map .str)]):=ao.app;have es:fH (aa 2) _t (ai .n) _d (ai (.int 5)) [J (SC F6),J (.t [.ref n0,.ref I,.ref K]),oR P,oS q,_n,_n,_n] e=.ok (.ref e.length) (e++[.l ((E.take 5).map .str)]):=by simpa using r0
 generalize D0:e.length=S at *;have k3:=K3.g (K2.g k1);have w3:=K3.g (K2.g w1);obtain⟨τ,G,e4,T4,K4,G0⟩:=Ti hw hA k3 kn (fc (Á lk)) vk;obtain⟨s,T,m,d,c,e5,W5,K5⟩:=Od (a:=G) (b:=τ.t);have K6:ao [] c (c++[Cell.dK []]):=ao.app;have g6:(c++[Cell.dK []])[c.length]?=J (.dK []):=aG;have ld:=bz W5.dk;have I0:=W5.lt
 let A:Ae:=⟨G,[],c.length+1,G.length,τ.t,s,T,m,d,c.length⟩
 have P6:Ps (c++[Cell.dK []]) A [[]] []:=by
  refine⟨W5.aO K6,.inl g6,by simp,by simp,by simp[ads],by simp[ads],?_,by simp[A],K5.trans K6,?_⟩
  .exact⟨ld,ϕ _⟩
  .intro a ha
   have l5:=K5.len
   show a∈[]\/G.length<=a
   simp[ads,A]at ha;omega
 have B:Bs A τ ks.length S I K (E.take 5) ks ws:=⟨Y,K4.g g3,K4.g k3,K4.g w3,T4,Y,λu hu=>vx u (abk hu),vk,vw,by rw[ŕ];omega,lk,lw,wn⟩
 have e6:∀ρ,cp ρ c=.ok (.ref c.length) (c++[Cell.dK []]):=λ_=>Y
 generalize c++[Cell.dK []]=t0 at *
 obtain⟨_,u0,e7,a6,L7,M7,rfl,H7,v0,w0⟩:=YO (x:=t0) (b:=24) (E2:=dX (ae (ai (.int 24)) aj)) (A6:=dv 6) (υ:=UK m4 (WI F d0 r A3 o6 r6 E1) (aw 13 5 (WW F NN DU f7)) (OA r L6 A3)) (λk ρ f0=>∃a L M,ρ=eW F6 (.t [.ref S,.ref I,.ref K]) P q A a/\Q4 f0 A L M (E.take 5)/\L.length<=1+k/\M.length<=k) Y (by
  rintro k _ f0 hk ⟨a,L,M,rfl,H,hL,hM⟩;refine TC (Q:=F6.getD (4+k) 0) a0 hI Z hS hG b0 hC (B.pol H.H) H (by omega) (lwc (â hM hk)) λL' M' K0 ea Ha x0 M0=>?_
  have P0:L'.length<=L.length+1:=by
   rcases x0 with rfl|⟨R,_,rfl,_⟩
   .exact à _ _
   .simp
  have Ba:=B.pol Ha.H;have Bt:=B.UB Ha.H;obtain⟨Q0,eb,Kb⟩:=UA (Q:=F6.getD (30+k) 0) (d:=q) a0 hN hD Ha.H Ba.n Ba.k Ba.w B.vn B.vw p0 (by rw[B.ln];decide) (by rw[B.lk];decide) (by have:=B.lw;exact fc lw.2) Bt.to Bt.ho (λz hz=>by rwa[eh]at hz) (by omega)
  obtain⟨y0,ec,Hc⟩:=xX (E1:=L6) (u:=eW F6 (.t [.ref S,.ref I,.ref K]) P q A (oI k)) Z C hS (Ha.aO Kb) (by omega) Y Y
  exact⟨_,_,y0,Y,(Gr (eN (eK Y (eK Y (eK Y (eK (Gq j 4 k) Y)))) (BH ea))).trans ((Gr (eN (eK Y (eK Y (eK Y (eK Y (eK (Gq j 30 k) Y))))) (BH eb))).trans ((Gr ec).trans Y)),_,L',M',Y,Hc,by omega,by omega⟩) ⟨_n,[[]],[],Y,⟨P6,g6,Y,by simp,by simp⟩,by simp,by simp⟩ (by decide)
 obtain⟨C0,R0,S0,g0,h0,N,e8,g8,K8⟩:=O u0 (F6.getD 60 0) 14 (by decide) (by decide)
 have H8:=H7.aO K8;refine Ks (Q:=ks.length) hI Z hS hG C b0 hC hD B H8 ⟨g8,Pl H8 g8 N⟩ N g0 h0 (fc v0) (fc w0) λL9 M9 T0 e9 H9 U0 V0=>?_
 obtain⟨h,z0,l⟩:=xX (E1:=L6) (u:=eW F6 (.t [.ref S,.ref I,.ref K]) P q A a6) Z C hS H9 (by omega) Y Y
 have i0:∃o f nz,fJ (m2 (ay .Eq) (m2 (bb .Mod) (GB m4 0) (ai (.int 4))) (ai (.int 1))) (dz (mN (aQ (fFu d0 r E1 f7)) (ae (aa 4) (ae (aa 5) (ae (aa 1) aj))))) (eW F6 (.t [.ref S,.ref I,.ref K]) P q A a6) h=.ok (.bl _d) f/\Q4 f A L9 o nz/\o.length<=100:=by
  have ec:m2 (ay .Eq) (m2 (bb .Mod) (GB m4 0) (ai (.int 4))) (ai (.int 1)) (eW F6 (.t [.ref S,.ref I,.ref K]) P q A a6) h=.ok (.bl (decide (F6.getD 0 0%4=1))) h:=eQ (eQ (pF j 0 Y) Y NC) Y Y
  by_cases hc:F6.getD 0 0%4=1
  .rw[decide_eq_true hc]at ec
   obtain⟨o,f,U,V,X⟩:=UI (D7:=E.take 5++zs) hI Z hC hD B ⟨l.H,l.p,l.z,λy hy=>ĸ _ (l.i y hy),l.u⟩ (λu hu=>(Ñ.mp hu).elim (B.vn u) λz=>by
    obtain⟨k,hk,rfl⟩:=Ð.mp z;exact Pj k (ę.mp hk)) (λu hu=>å _ hu) (by omega)
   exact⟨o,f,_,aT ec (nT (eN (eK Y (eK Y (eK Y Y))) (BH U))),V,fc (Á X)⟩
  .rw[decide_eq_false hc]at ec
   exact⟨M9,h,_,aF ec,l,by omega⟩
 obtain⟨o,f,nz,U,V,X⟩:=i0;obtain⟨j0,A0,_⟩:=xX (E1:=L6) (u:=eW F6 (.t [.ref S,.ref I,.ref K]) P q A a6) Z C hS V X Y Y;refine⟨j0,fR ((qA (eC Y e1)).trans ((qA (eC (eK (pF j 0 Y) Y) e2)).trans ((qA (eQ Y Y (aU g2 (L2.bQ (b:=5) (by rw[Ü,e0];rfl))))).trans ((qA (eN (eK es (eK (eQ Y Y (fB Y)) (eK (eQ Y Y (fB Y)) Y))) Y)).trans ((qA (eN (eK (eC (eK (eQ Y Y (fB Y)) Y) e4) Y) e5)).trans ((qA (e6 _)).trans ((e7 _).trans ((q0 (oF (nT (eN (eK Y (eK Y (eK Y (eK (eN (eK (pF j 60 Y) (eK Y Y)) (BH e8)) Y)))) (BH e9))) (nT z0))).trans ((q0 U).trans (qR A0))))))))))⟩
theorem Xl{K:G'}{Ca f T x qual st oc od osl kV doc pm an cdv ct oT nT its}(a:ç K (.ref Ca) x=J (J (.ref f)))(l:K.lookup f=J ⟨oc,od,.func (í x qual (cR st) (bg st) (ah st) (.ref T) kV doc pm an cdv ct),osl⟩)(c:Ĭ K cdv qual=_t)(k:Î K (.ref f)=_t)(i:PySem.W.isFn K (.ref f)=_t)(t:K.lookup T=J oT)(d:oT.data=.seq its nT):J6 K Ca x qual st its:=⟨f,_,T,oT,nT,⟨a,i⟩,⟨⟨_,_,_,_,_,_,_,_,_,Y,l,c⟩,k⟩,t,d⟩
theorem Xm{K:G'}{f T x st oc od osl kV doc pm an cdv ct oT nT tk}(a:ò K mainGlobals x=J (J (.ref f)))(l:K.lookup f=J ⟨oc,od,.func (í x x (cR st) (bg st) (ah st) (.ref T) kV doc pm an cdv ct),osl⟩)(c:Ĭ K cdv x=_t)(k:Î K (.ref f)=_t)(t:K.lookup T=J oT)(d:oT.data=.seq #[.int 0 tk] nT):Ud K x st:=⟨f,_,T,oT,nT,tk,a,⟨⟨_,_,_,_,_,_,_,_,_,Y,l,c⟩,k⟩,t,d⟩
end Mir
namespace ZI
open PySem PySem.Spec PyProof.Rows L2 Mir
noncomputable def top(i:Nat):=PySem.Challenge.pw_taglook_k65_refused_of_things.main.body.getD i (.Pass ⟨0,0,0,0⟩)
instance clos:iT:=⟨λ_=>⟨"","",cR (top 0),[],ah (top 0),[],[]⟩,λ_=>0⟩
def I(i j:Nat):=inClass (top i) j
noncomputable def cs:B (L×Mir.D):=[("DEEPEST",.int 8),("MOST_OWN_WORDS",.int 12),("MOST_THINGS",.int 40),("MOST_ELDERS",.int 5),("MOST_KINDS",.int 12),("MOST_LETTERS",.int 8),("LETTERS",.str "abcdefghijklmnopqrstuvwxyz")]
noncomputable def Gu:B Str:=["elders","lines"]
noncomputable def Gv:B Str:=["teller","strengths","asked"]
noncomputable def LW:B Str:=["house","facts","tags","last_deed"]
noncomputable def zZ:B Str:=["rows","numbers"]
noncomputable def Gw:B Str:=["kind","shape","slots"]
noncomputable def z_:B Str:=["town","shapes","made"]
def UP0:=((((((((({}:aV).sZ "_law_silent" (.dct [] [])).ks cs).as "House" Gu).as "Facts" Gv).as "Town" LW).as "Shapes" zZ).as "Thing" Gw).as "Things" z_)
def OP0:=aw 2 2 tv
def F0:=pureOf OP0
def OP1:=aw 8 3 vh
def F1:=pureOf OP1
def Oa:=aw 2 2 (pV Bd)
def O0:=fA (aw 2 2 (pV Oa))
def fN:B (L×EM):=[("name",LM O0)]
def fM:B (L×EM):=[("most",LM O0)]
def fW:B (L×EM):=[("word",LM O0)]
def O1:=aw 1 1 lS
def O2:=aw 4 2 YR
def O3:=aw 2 1 (YS O2)
def O4:=aw 4 1 (Su bV O3)
def O5:=aw 2 2 YT
def O6:=aw 3 1 (YU O5)
def d7:=cLo O6
 (af (aJ 4 (mN b_ aj))
 (af (aJ 2 (m2 aR (aa 3) (ai (.int 0))))
 (af (Eg (m2 (ay .NotIn) (aa 2) (aa 4))
 (af (cA (c6 pI dQ (aa 4) (ae (aa 2) aj)))
 (af (aJ 2 (m2 aR (cB (aa 0) _d (m2 (ay .In) (aa 0) (aa 1)) (cP (m2 aR (aa 0) (aa 2))) 0 [3]) (ai (.int 0))))
 ag)))
 (af (a7 (fH (aa 4) _d (fx (c6 pI dr (aa 4) (ae (aa 2) aj)) (c6 wO oV (aa 4) (ae (aa 2) aj))) _t (ai .n)))
 ag))))
def O7:=aw 5 1 d7
def O8:=aw 2 2 cRb
def P9:=aw 6 1 (cLi O7 O6 O4 O8)
def O9:=fA P9
def ZJ:=aw 1 1 cIn
def UM:=aw 1 1 YW
def BJ:=aw 2 2 (TR UM fN)
def UN:=aw 2 2 (YX UM)
def ZK:=aw 4 2 (cCe UN)
def ZL:=aw 3 2 (cSt O9)
def Xc:=aw 5 4 (cAd O1 ZK UM ZL)
def O19:=aw 2 2 Td
def O21:=aw 2 2 (WD ZJ O19)
def O23:=aw 3 2 Te
def O24:=aw 4 4 (WE Xc O23)
def O25:=aw 1 1 WG
def Xd:=aw 3 2 cNo
def Pm:=aw 2 2 cWo
def Xe:=aw 3 3 (cGr Xd Pm)
def Xf:=aw 3 3 (cWi Xd Pm)
def Pn:=aw 4 3 (cSo Pm)
def O32:=aw 2 2 By
def O34:=aw 2 2 (Y_ O25)
def iz:=aw 2 2 (OK fN)
def GC:=aw 2 2 Y1
def Po:=aw 3 3 (xG O1 BJ fN fM)
def UO:=aw 3 3 (BS O1 UN O32)
def Pp:=aw 6 4 (BD O1 iz Pn Xe fN fM)
def ZM:=aw 6 4 (Fv O1 GC Pn Xe)
def Pq:=aw 5 3 (FJ iz Pn Xf fW)
def ZN:=aw 5 3 (JF GC Pn Xf)
def Pr:=aw 4 3 (FK iz BJ)
def O40:=aw 4 3 (WB GC UN)
def Pt:=aw 2 2 (JT iz)
def Xg:=aw 2 2 (BU GC)
def O42:=aw 1 1 Zb
def Pu:=aw 2 2 (JU iz)
def O43:=aw 2 2 (Wy GC)
def Pw:=aw 2 2 (JV iz)
def O44:=aw 2 2 (Wz GC)
def Px:=aw 3 3 (JW iz)
def O45:=aw 3 3 (SW GC)
def Py:=aw 3 2 (JX iz)
def O46:=aw 3 2 (WA GC Pm)
def O47:=aw 5 3 Tp
def Xh:=aw 12 2 (WH F1 O47)
def O49:=aw 1 1 TJ
def O50:=aw 3 1 (Y9 O21 O24 Xc)
def O51:=aw 1 1 Tv
def O52:=aw 12 4 (cDd F1 O51 UO ZM ZN O40 Xg)
def O53:=aw 4 1 (ZF F0 Xh)
def P54:=aw 9 2 (cSn O42 O46 O43 O44 O49 Pm O45 Pn)
def O54:=fA P54
def UP:=aw 4 4 (cDo Po Pp Pq Pr Pt Pu Pw Py Px)
def O55:=aw 2 1 (BG Zv Zw Qe Uk)
def O56:=aw 2 1 (F_ O55 ["TooMany"] ["NoOwn"] ["NoName","Twice","NoKind","NoThing"])
def UQ:=aw 6 4 (tJ "none" UP O56 j_)
def O59:=aw 2 1 (cNn F1)
def ZO:=aw 7 6 cDu
def O61:=aw 13 5 (WW F1 O59 ZO UQ)
def O62:=aw 9 4 (UE UO Xg UQ ZO)
def O63:=aw 6 3 (Xb UO O62)
def O64:=aw 7 4 (Gm UO ZM ZN Xg UQ O54)
def UR:=aw 7 1 (UL F0 O53 Xh O34 O50 O52 O61 O54 O64 O63)
theorem Gx(h:B Int)(G:h.length<=63):∃aq,UR [.l (h.map .int)] []=.ok (.bl _t) aq:=by
 obtain⟨E,b⟩:∃E,iS E F1:=JC;have i:lB (λh k=>h.getD k 0) F0:=Fm
 have F:Wx O4:=NL;have j:NH O5:=Sv;have e:JA O6:=Sw j;have l:NI O7:=Sx e;have m:Ww O8:=NJ;have n:YY O9:=JB (Sz l e F m);have o:Fh ZJ:=SI;have c:Fg UM:=SF;have p:lT UN:=SG c;have q:NS ZK:=SH;have s:Fi ZL:=SJ n;have d:fC O1:=SA;have t:Fl Xc:=SK d q c s;have f:JD Xd:=SO;have a:mM Pm:=SQ;have u:pA Xe:=SR f a;have w:pU Xf:=SS f a;have g:fL Pn:=SU a;have x:cI GC:=SV;have y:JM Xh:=Tr b Ol;have z:TU BJ:=OJ c (q_ (r:=Bd) Y);have A:WK iz:=OL (q_ (r:=Bd) Y);have C:cI iz:=TV;have D:vD UQ (LN Bd):=Uu (Uo Um) d A C z g (q_ (r:=Bd) Y) (q_ (r:=Bd) Y) (q_ (r:=Bd) Y) (q_ (r:=Bd) Y);exact Gs i b y o t p d x g a u w (Ui b) D
theorem US:fT ["_law_e","_law_some"] ["_law_e"] (ah (top 64))=true:=by decide +kernel
theorem UT:fT ["_law_e","_law_word"] ["_law_e"] (ah (top 65))=true:=by decide +kernel
theorem UU:fT ["_law_things","_law_way","_law_one","_law_other","_law_told_here","_law_e"] ["_law_things","_law_way","_law_one","_law_other"] (ah (top 67))=true:=by decide +kernel
noncomputable def Gy(K)(cs a:List f')(B):=(((cs.zipIdx.all λc=>cs.zipIdx.all λv=>õ K (.ref c.1) (.ref v.1)==J (c.2==v.2))&&(cs.all λc=>õ K (.ref c) (.type "ValueError")==J _t))&&(cs.all λc=>ŝ K (.ref c) (.ref B)==J _t))&&cs.all λc=>Ş K (.ref c) (a.map .ref)==J _d
def Xi(K)(b:L->_o g'):=∀C∈j_,∃a,b C=J (.ref a)/\(∃N c,iI K a N c)/\Hq K a
def Qh(a:L->_o g')(cs:B f'):=aE (λC b=>a C=J (.ref b)) j_ cs
theorem Xj{g:L->Bool}{C b}:∀{l:B L},(l.map λC=>(C,g C)).lookup C=J b->C∈l/\b=g C
 |[],h=>nomatch h
 |x::l,h=>by
  rw[Ù,Ę]at h;cases e:C==x with
  |true=>
   rw[e]at h;cases eq_of_beq e;cases h;exact⟨by simp,Y⟩
  |false=>
   rw[e]at h;exact⟨by simp[(Xj h).1],(Xj h).2⟩
variable{G:G'}{ζ:g'}{θ:L->_o g'}
theorem AT{α}{P:α->Prop}{a l}(h:P a)(t:∀x∈l,P x):∀x∈a::l,P x:=Ũ.mpr ⟨h,t⟩
theorem BT{α}{P:α->Prop}:∀x∈([]:B α),P x:=λ_ h=>nomatch h
theorem xY{g:L->Bool}(e:Xi G θ)(f:∀C∈j_,∀a,θ C=J (.ref a)->õ G (.ref a) ζ=J (g C)):hJ G (aZ θ) ζ (j_.map λC=>(C,g C)):=λC a b h c=>by
 obtain⟨d,rfl⟩:=Xj h;have c:θ C=J (.ref a):=c;obtain⟨i,j,k,l⟩:=e C d;cases c.symm.trans j;exact⟨k,l,f C d _ c⟩
variable{d:L}{l:B L}
theorem Pz(e:Xi G θ)(f:(l.all j_.contains)=_t)(g:∀C∈l,∃a,θ C=J (.ref a)/\ç G (.ref a) d=J _n):Uj G (aZ θ) l d:=λC a b c=>by
 have c:θ C=J (.ref a):=c;have b:C∈l:=by simpa using b
 obtain⟨h,i,j,n⟩:=e C (by simpa using á.mp f C b)
 cases c.symm.trans i;obtain⟨o,k,m⟩:=g C b;cases c.symm.trans k;exact⟨j,m⟩
variable{C:L}{i:f'}{z:B f'}
theorem Xk(h:Qh θ z)(c:C∈j_)(d:θ C=J (.ref i)):∃a:Nat,z[a]?=J i/\j_[a]?=J C:=by
 obtain⟨a,b⟩:=ú.mp c;obtain⟨g,e,f⟩:=aE.get h b;cases d.symm.trans f;exact⟨a,e,b⟩
variable{Q1:B f'}{S:f'}
theorem BK(g:Gy G z Q1 i=_t)(h:Qh θ z)(j:Nat)(k:z[j]?=J S)(c)(f:j_[j]?=J c):∀C∈j_,∀d,θ C=J (.ref d)->õ G (.ref d) (.ref S)=J (C==c):=λC l d m=>by
 obtain⟨b,n,e⟩:=Xk h l m;have o:=á.mp (Ø.mp (Ø.mp (Ø.mp g).1).1).1 (d,b) (afh.mpr n);have p:=eq_of_beq (á.mp o (S,j) (afh.mpr k));refine p.trans (congrArg J ?_);have q:j_.Nodup:=by decide
 show(b==j)=(C==c)
 rw[Bool.eq_iff_iff,beq_iff_eq,beq_iff_eq];constructor
 .intro a;subst a;exact ů (e.symm.trans f)
 .intro a
  subst a;exact(ϋ (Ê.mp e).1 q).mp (e.trans f.symm)
theorem ZP(c:Gy G z Q1 i=_t)(h:Qh θ z):∀C∈j_,∀a,θ C=J (.ref a)->õ G (.ref a) (.type "ValueError")=J true:=λC d a e=>by
 obtain⟨b,f,_⟩:=Xk h d e;exact eq_of_beq (á.mp (Ø.mp (Ø.mp (Ø.mp c).1).1).2 a (Å f))
theorem ex6(d:Gy G z Q1 i=_t)(h:Qh θ z):∀c a,j_.contains c=_t->aZ θ c a->ŝ G (.ref a) (.ref i)=J true:=λC a e f=>by
 obtain⟨b,g,_⟩:=Xk h (by simpa using e) (show θ C=J (.ref a)from f)
 exact eq_of_beq (á.mp (Ø.mp (Ø.mp d).1).2 a (Å g))
theorem ZQ(f:Xi G θ)(j:Gy G z Q1 i=_t)(h:Qh θ z):∀C a b,WS.lookup C=J b->aZ θ C a->(∃N k,iI G a N k)/\Hq G a/\Ş G (.ref a) (Q1.map .ref)=J b:=λC a b l c=>by
 obtain⟨e,rfl⟩:=Xj (g:=λ_=>_d) l
 have c:θ C=J (.ref a):=c;obtain⟨m,n,o,p⟩:=f C e;cases c.symm.trans n;obtain⟨d,q,_⟩:=Xk h e c;exact⟨o,p,eq_of_beq (á.mp (Ø.mp j).2 a (Å q))⟩
set_option maxHeartbeats 0 in
variable{B4 P0 R6 u6 y2 z8:f'}{H:F'}{M:W'}{N:T'}{N9 j0:Â}
theorem all_mk(X:G.In H)(c:H.Ns Ï θ)(t1:θ "law"=J (.ref i))(nb:sH G=_t)(zS:ò G Ï "_law_silent"=J (J (.ref S)))(a0:dD G "_law_cell" (top 53))(a1:dD G "_law_mix" (top 54))(t:zQ G "House" P0)(c1:zQ G "Facts" y2)(c2:zQ G "Town" B4)(U:zQ G "Shapes" u6)(c4:zQ G "Thing" R6)(d:zQ G "Things" z8)(w1:Ud G "own_copy" (top 3))(y1:dD G "is_name" (top 21))(z1:dD G "place_behind" (top 41))(A1:dD G "free_name" (top 40))(C1:dD G "merged" (top 39))(E1:dD G "ready_kinds" (top 36))(G1:dD G "elders_first" (top 35))(H1:dD G "loop_of" (top 37))(I1:dD G "rows_by" (top 45))(K1:dD G "lines_of" (top 44))(d0:dG G P0 "__init__" "House.__init__" (I 49 0))(e0:dG G P0 "kinds" "House.kinds" (I 49 5))(u:dG G P0 "check_kind" "House.check_kind" (I 49 11))(f0:dG G P0 "check_elders" "House.check_elders" (I 49 12))(g0:dG G P0 "settle" "House.settle" (I 49 13))(h0:J6 G P0 "add" "House.add" (I 49 1) #[.none])(i0:dG G y2 "__init__" "Facts.__init__" (I 33 0))(l0:dG G B4 "__init__" "Town.__init__" (I 51 0))(m0:dG G B4 "count_deed" "Town.count_deed" (I 51 15))(o0:J6 G B4 "add" "Town.add" (I 51 1) #[.none])(p0:dG G u6 "__init__" "Shapes.__init__" (I 24 0))(r0:dG G u6 "number_of" "Shapes.number_of" (I 24 1))(t0:dG G u6 "words_of" "Shapes.words_of" (I 24 2))(u0:dG G u6 "grown" "Shapes.grown" (I 24 3))(v0:dG G u6 "without" "Shapes.without" (I 24 4))(w0:dG G u6 "slot_of" "Shapes.slot_of" (I 24 5))(y0:dG G R6 "__init__" "Thing.__init__" (I 28 0))(C0:dG G z8 "__init__" "Things.__init__" (I 29 0))(w:dG G z8 "thing" "Things.thing" (I 29 11))(x:dG G z8 "make" "Things.make" (I 29 1))(y:dG G z8 "put" "Things.put" (I 29 2))(z:dG G z8 "take" "Things.take" (I 29 3))(A:dG G z8 "move" "Things.move" (I 29 4))(D:dG G z8 "drop" "Things.drop" (I 29 5))(G0:dG G z8 "names" "Things.names" (I 29 6))(E:dG G z8 "kind_of" "Things.kind_of" (I 29 7))(K:dG G z8 "shape_of" "Things.shape_of" (I 29 8))(O:dG G z8 "value_at" "Things.value_at" (I 29 9))(P:dG G z8 "own" "Things.own" (I 29 10))(I0:dD G "_law_short" (top 55))(K0:dD G "_law_names" (top 56))(M0:dD G "_law_whole" (top 57))(Q0:dD G "_law_town" (top 59))(R0:dD G "_law_value" (top 60))(S0:dD G "_law_deed" (top 61))(T0:dD G "_law_pools" (top 62))(U0:dD G "_law_seen" (top 63))(V0:dD G "_law_do" (top 66)){Q}(j:vi G "_law_class" (top 64) Q j0){R}(k:vi G "_law_field" (top 65) R N9){T n}(m:vi G "_law_told" (top 67) T n)(W0:dD G "_law_no_name" (top 68))(X0:dD G "_law_due" (top 69))(b1:dD G "_law_asked" (top 70))(e1:dD G "_law_at_forty" (top 71))(f1:dD G "_law_full" (top 72))(g1:dD G "_law_twelve" (top 73))(h1:dD G "law" (top 74)){V NN N1 cN P1}(Z:LK G "NoName" "NoName.__init__" (I 5 0) V NN N1 cN P1){CT NT Q1 cT R1}(QT:LK G "Twice" "Twice.__init__" (I 6 0) CT NT Q1 cT R1){CK NK S1 cK T1}(QK:LK G "NoKind" "NoKind.__init__" (I 7 0) CK NK S1 cK T1){CM NM U1 cM W1}(QM:LK G "TooMany" "TooMany.__init__" (I 8 0) CM NM U1 cM W1){CG NG X1 cG Z1}(QG:LK G "NoThing" "NoThing.__init__" (I 16 0) CG NG X1 cG Z1){CO NO b2 cO Qb}(QO:LK G "NoOwn" "NoOwn.__init__" (I 17 0) CO NO b2 cO Qb){D0}(f2:ò G Ï "Heired"=J (J (.ref D0))){D1}(g2:ò G Ï "NoRoom"=J (J (.ref D1))){D2}(h2:ò G Ï "NotThere"=J (J (.ref D2))){B0}(aB:ò G Ï "LookError"=J (J (.ref B0)))(gB:ľ G (.ref B0) "__getattribute__"=J (J (.builtin "type.__getattribute__")))(rB:adO G B0 (.type "type")=_t)(iB:adP G (.ref B0) (.type "type") "__init__"=J (.val (.builtin "ValueError.__init__")))(hV:ò G Ï "ValueError"=J _n)(f:cs.all (OQ G)=_t/\Gu.all (jB G P0)=_t/\Gv.all (jB G y2)=_t/\LW.all (jB G B4)=_t/\zZ.all (jB G u6)=_t/\Gw.all (jB G R6)=_t/\z_.all (jB G z8)=_t/\jB G V "name"=_t/\jB G CT "name"=_t/\jB G CK "name"=_t/\jB G CM "most"=_t/\jB G CG "name"=_t/\jB G CO "word"=_t/\Gy G [V,CT,CK,CM,CG,CO] [D0,D1,D2] B0=_t): ∃fd,(∀s v,ĩ s fd ⟨[v],[]⟩ [("_law_script",v)])/\∀base,G.In base->base.Ns Ï θ->bt M N G θ base dZ 65 i fd ["_law_script"] (bE (aZ θ) UR):=by
 obtain⟨T2,j1,b0⟩:=h1;have e:=t1.symm.trans (abm X c b0.ns);cases e;refine⟨j1,λs v=>(by obtain⟨oc,od,kV,U2,pm,an,V2,ct,W2,rfl,lk,X2⟩:=b0.fn.ex;exact .of_eq Y),λbase _ _=>?_⟩
 have W:Wg M N G θ base H UP0 0:=Wg.as d (Wg.as c4 (Wg.as U (Wg.as c2 (Wg.as c1 (Wg.as t (Wg.ks (⟨(Wg.s0 X c nb).W.RO (abm X c zS),X,c⟩:Wg M N G θ base H (({}:aV).sZ "_law_silent" (.dct [] [])) 0) f.1) f.2.1) f.2.2.1) f.2.2.2.1) f.2.2.2.2.1) f.2.2.2.2.2.1) f.2.2.2.2.2.2.1;have W:=W.gP a0 OP0;have W:=W.gP a1 OP1;have oc:Zr M N G θ base 9 O0:=W.gC (υ:=pV Bd) w1 (by decide +kernel) Y Y (λ_ _=>TY (by intros;exact⟨_,(AC _ _).2,Y⟩)) λ_ _=>WL (by intros;exact⟨_,(AC _ _).2,Y⟩)
 have XB:XBase G θ "LookError" B0:=⟨W.g aB,gB,rB,iB⟩;have rN:=q7 W Z f.2.2.2.2.2.2.2.1 XB oc Y;have rT:=q7 W QT f.2.2.2.2.2.2.2.2.1 XB oc Y;have rK:=q7 W QK f.2.2.2.2.2.2.2.2.2.1 XB oc Y;have rM:=q7 W QM f.2.2.2.2.2.2.2.2.2.2.1 XB oc Y;have rG:=q7 W QG f.2.2.2.2.2.2.2.2.2.2.2.1 XB oc Y;have rO:=q7 W QO f.2.2.2.2.2.2.2.2.2.2.2.2.1 XB oc Y;have q:=f.2.2.2.2.2.2.2.2.2.2.2.2.2;have r:Qh θ [V,CT,CK,CM,CG,CO]:=.cons (W.g Z.a) (.cons (W.g QT.a) (.cons (W.g QK.a) (.cons (W.g QM.a) (.cons (W.g QG.a) (.cons (W.g QO.a) .nil)))));have W:=W.gF y1 O1;have W:=W.gF z1 O2;have W:=W.gF A1 O3;have W:=W.gF C1 O4;have W:=W.gF E1 O5;have W:=W.gF G1 O6;have W:=W.gF H1 O7;have W:=W.gF I1 O8;have W:=W.gT K1 P9;have W:=W.gI t d0 ZJ;have W:=W.gM t e0 UM;have n1:=W.gX (b:=14) t u BJ [.rs "NoKind" fN] ⟨rK.up,⟨⟩⟩;have W:=W.gM t u UN;have W:=W.gM t f0 ZK;have W:=W.gM t g0 ZL;have W:=W.gD t h0 Xc dg λ_=>WM (by intros;exact⟨_,(AC _ _).2,Y⟩);have W:=W.gI c1 i0 O19;have W:=W.gI c2 l0 O21;have W:=W.gM c2 m0 O23;have W:=W.gE c2 o0 O24 dg λ_=>Zn (by intros;exact⟨_,(AC _ _).2,Y⟩);have W:=W.gI U p0 O25;have W:=W.gM U r0 Xd;have W:=W.gM U t0 Pm;have W:=W.gM U u0 Xe;have W:=W.gM U v0 Xf;have W:=W.gM U w0 Pn;have W:=W.gI c4 y0 O32;have W:=W.gI d C0 O34;have h:=W.gX (b:=35) d w iz [.rs "NoThing" fN] ⟨rG.up,⟨⟩⟩;have W:=W.gM d w GC;have j2:=W.gX (b:=36) d x Po [.rs "NoName" fN,.rs "Twice" fN,.rs "TooMany" fM,.mt "House" "check_kind" BJ,.no] ⟨rN.up,rT.up,rM.up,n1.up,⟨⟩,⟨⟩⟩;have W:=W.gM d x UO;have q2:=W.gX (b:=38) d y Pp [.rs "NoName" fN,.rs "TooMany" fM,.mt "Things" "thing" iz] ⟨rN.up,rM.up,h.up,⟨⟩⟩;have W:=W.gM d y ZM;have r2:=W.gX (b:=38) d z Pq [.rs "NoOwn" fW,.mt "Things" "thing" iz] ⟨rO.up,h.up,⟨⟩⟩;have W:=W.gM d z ZN;have t2:=W.gX (b:=39) d A Pr [.mt "Things" "thing" iz,.mt "House" "check_kind" BJ,.no] ⟨h.up,n1.up,⟨⟩,⟨⟩⟩;have W:=W.gM d A O40;have w2:=W.gX (b:=40) d D Pt [.mt "Things" "thing" iz,.no] ⟨h.up,⟨⟩,⟨⟩⟩;have W:=W.gM d D Xg;have W:=W.gM d G0 O42;have A2:=W.gX (b:=42) d E Pu [.mt "Things" "thing" iz] ⟨h.up,⟨⟩⟩;have W:=W.gM d E O43;have C2:=W.gX (b:=43) d K Pw [.mt "Things" "thing" iz] ⟨h.up,⟨⟩⟩;have W:=W.gM d K O44;have E2:=W.gX (b:=44) d O Px [.mt "Things" "thing" iz] ⟨h.up,⟨⟩⟩;have W:=W.gM d O O45;have F2:=W.gX (b:=45) d P Py [.mt "Things" "thing" iz,.no] ⟨h.up,⟨⟩,⟨⟩⟩;have W:=W.gM d P O46;have W:=W.gF I0 O47;have W:=W.gF K0 Xh;have W:=W.gF M0 O49;have W:=W.gF Q0 O50;have W:=W.gF R0 O51;have W:=W.gF S0 O52;have W:=W.gF T0 O53;have W:=W.gT U0 P54;obtain⟨Z2,S2,b3,G2,H2,I2,K2⟩:=W.gY (b:=54) V0 UP [.mt "Things" "make" Po,.mt "Things" "put" Pp,.mt "Things" "take" Pq,.mt "Things" "move" Pr,.mt "Things" "drop" Pt,.mt "Things" "kind_of" Pu,.mt "Things" "shape_of" Pw,.mt "Things" "value_at" Px,.mt "Things" "own" Py] ⟨j2.up,q2.up,r2.up,t2.up,w2.up,A2.up,C2.up,E2.up,F2.up,⟨⟩⟩;have o1:=j.fn.binds (l:=["_law_e"]) (TY (by intros;rfl))
 have q1:=k.fn.binds (l:=["_law_e"]) (TY (by intros;rfl))
 have r1:=m.fn.binds (l:=["_law_things","_law_way","_law_one","_law_other"]) (WM (by intros;rfl))
 have o:Xi G θ:=AT ⟨V,W.g Z.a,⟨_,_,Z.cl⟩,Z.is⟩ (AT ⟨CT,W.g QT.a,⟨_,_,QT.cl⟩,QT.is⟩ (AT ⟨CK,W.g QK.a,⟨_,_,QK.cl⟩,QK.is⟩ (AT ⟨CM,W.g QM.a,⟨_,_,QM.cl⟩,QM.is⟩ (AT ⟨CG,W.g QG.a,⟨_,_,QG.cl⟩,QG.is⟩ (AT ⟨CO,W.g QO.a,⟨_,_,QO.cl⟩,QO.is⟩ BT)))))
 have x0:hJ G (aZ θ) (.ref V) (nK "NoName"):=xY o (BK q r 0 Y "NoName" Y);have x1:hJ G (aZ θ) (.ref CT) (nK "Twice"):=xY o (BK q r 1 Y "Twice" Y);have x2:hJ G (aZ θ) (.ref CK) (nK "NoKind"):=xY o (BK q r 2 Y "NoKind" Y);have x3:hJ G (aZ θ) (.ref CM) (nK "TooMany"):=xY o (BK q r 3 Y "TooMany" Y);have x4:hJ G (aZ θ) (.ref CG) (nK "NoThing"):=xY o (BK q r 4 Y "NoThing" Y);have x5:hJ G (aZ θ) (.ref CO) (nK "NoOwn"):=xY o (BK q r 5 Y "NoOwn" Y);have xV:hJ G (aZ θ) (.type "ValueError") Qe:=xY (g:=λ_=>_t) o (ZP q r)
 have N2:vJ M N G θ base 55 Q j0 ["_law_e"] (bE (aZ θ) O55):=OY (V1:="_law_e") (ve:="_law_e") (D6:="_law_some") (l1:=[("NoName",(_,_,_,_),nK "NoName"),("Twice",(_,_,_,_),nK "Twice"),("NoKind",(_,_,_,_),nK "NoKind"),("TooMany",(_,_,_,_),nK "TooMany")]) (l2:=[("NoThing",(_,_,_,_),nK "NoThing"),("NoOwn",(_,_,_,_),nK "NoOwn")]) (z0:=("ValueError",(_,_,_,_),Qe)) (z2:=([("Heired",_),("NoRoom",_),("NotThere",_)],_,_,_,_,_)) (G7:=WS) (A0:=[.ref D0,.ref D1,.ref D2]) (ks:=[("name",_,_),("twice",_,_),("kind",_,_),("many",_,_),("thing",_,_),("own",_,_),("other",_,_)])  W.W j.fn US Y Y (AT ⟨_,x0,W.g Z.a,Y,Y⟩ (AT ⟨_,x1,W.g QT.a,Y,Y⟩ (AT ⟨_,x2,W.g QK.a,Y,Y⟩ (AT ⟨_,x3,W.g QM.a,Y,Y⟩ BT)))) (AT ⟨_,x4,W.g QG.a,Y,Y⟩ (AT ⟨_,x5,W.g QO.a,Y,Y⟩ BT)) (ZQ o q r) (.cons ⟨W.g f2,Y,Y⟩ (.cons ⟨W.g g2,Y,Y⟩ (.cons ⟨W.g h2,Y,Y⟩ .nil))) (afc Y) ⟨_,xV,aeH X c hV,Y,Y,by decide,Y⟩ Y Y Y (by decide)
 have P2:vJ M N G θ base 56 R N9 ["_law_e"] (bE (aZ θ) O56):=OZ (V1:="_law_e") (D6:="_law_word") (gn:="_law_class") k.fn UT N2 o1 (W.g j.ns) j.fn.kp (Pz (l:=["TooMany"]) o (by decide) (AT ⟨CM,W.g QM.a,je (f.2.2.2.2.2.2.2.2.2.2.1)⟩ BT)) (Pz (l:=["NoOwn"]) o (by decide) (AT ⟨CO,W.g QO.a,je (f.2.2.2.2.2.2.2.2.2.2.2.2.1)⟩ BT)) (Pz (l:=["NoName","Twice","NoKind","NoThing"]) o (by decide) (AT ⟨V,W.g Z.a,je (f.2.2.2.2.2.2.2.1)⟩ (AT ⟨CT,W.g QT.a,je (f.2.2.2.2.2.2.2.2.1)⟩ (AT ⟨CK,W.g QK.a,je (f.2.2.2.2.2.2.2.2.2.1)⟩ (AT ⟨CG,W.g QG.a,je (f.2.2.2.2.2.2.2.2.2.2.2.1)⟩ BT))))) Y Y Y Y (by decide)
 have Q2:bt M N G θ base dZ 58 T n ["_law_things","_law_way","_law_one","_law_other"] (bE (aZ θ) UQ):=Ga (V1:="_law_things") (D6:="_law_way") (n2:="_law_one") (n3:="_law_other") (tn:="_law_told_here") (en:="_law_e") (bn:="LookError") (dn:="_law_do") (fn:="_law_field") (W.W.mono (by decide)) m.fn UU I2 K2 G2 H2 (P2.mono (by decide)) q1 (W.g k.ns) k.fn.kp Y (W.g aB) (ex6 q r) Y Y Y Y Y Y Y Y Y (by decide)
 have W:Wg M N G θ base H _ 58:=⟨(W.W.mono (by decide)).sY (W.g m.ns) m.fn.kp r1 Q2,W.X,W.G⟩
 have W:=W.gF W0 O59;have W:=W.gF X0 ZO;have W:=W.gF b1 O61;have W:=W.gF e1 O62;have W:=W.gF f1 O63;have W:=W.gF g1 O64;exact Dg.ok (F:=UR) dg W.W (my b0.fn)
variable{Q9:DefRec}{X9:(L->_o g')->F'->Prop}{j9:T'->F'->Prop}
theorem walk{Aa:adA}{K:ϲ->G'}(o:Aa.most=J 63)(k:Q9.params.defaults=[])(p:∀w h,j9 w h->(K w.params).In h)(q:∀r,uG (K r)=_t)(F:∀w g i h,(K w.params).In h->h.Ns Ï g->g Q9.name=J (.ref i) ->
   ∃j,(∀s u,ĩ s j ⟨[u],[]⟩ [("_law_script",u)])/\∀base,(K w.params).In base->base.Ns Ï g->bt Aa.prog w (K w.params) g base dZ 65 i j ["_law_script"] (bE (aZ g) UR)):
  adB M l X9 j9 Aa.row.toRowW Q9 [] (λf n=>abY f n):=
 L2.Hh (b:=63) (m:=65) (d:="_law_script") (CX:=λ_=>dZ) (sp:=λw=>RP UR) o (by decide) k ⟨Y,by decide,by decide⟩ p (λw g i h a b c=>let ⟨j,t,x⟩:=F w g i h a b c;⟨j,t,λbase Q9 e=>(x base Q9 e).imp λn H Q E z=>z (aZ g)⟩) (λw H a y A _ C D=>I_ (Rg (q w.params) C) (Gx y A).choose_spec) λ_ _ _ _ _ z=>z
end ZI
noncomputable def PySem.W.Fast.tw6083963894011889274:=PySem.Challenge.pw_taglook_k65_refused_of_things
theorem PySem.W.Fast.te6083963894011889274:PySem.Challenge.pw_taglook_k65_refused_of_things=PySem.W.Fast.tw6083963894011889274:=rfl
structure PySem.W.Fast:Prop where(tw14306839544106159174 tw5236556763033671215 tw528655123851558204 tw5733879555585830911 tw5770019903307216662 tw7084067991857428430 tw7418907542999615763 tw753020303399266867 tw7992669819690312679 tw9034469653444733895 tw9156276966000698290 tw925094813022901280 tw9338300446492314882 tw9472624707204952108 tw15024785298937441716 tw2601715023683211188 tw9308106788806959668 tw10114339894991860746 tw10545493387933152986 tw15755493702271400772 tw1617546112055132108 tw18372737863204202605 tw286889522004402307 tw5025992637973642044 tw12100946077582232590 tw2245209072911894145 tw7335278980913348554 tw873865810147780113 tw9753672283957687112 tw14853948907336062416 tw5484746130157698086 tw6528923068143685604 tw9460771052966837824 tw18115376526547133193 tw2962533686261231745 tw10344869044667111195 tw14182416227582292428 tw15895000582938956475 tw16342965797696918235 tw2496065702820406922 tw2584766358762304186 tw4986235988615210217 tw16704262223192520973 tw1765049088867124003 tw4538954412108572484 tw12476417400733775673 tw11721356492128527925 tw13151681083534372737 tw13353320996484277844 tw17948555975149933003 tw18388380542634941495 tw2924367080205490625 tw2943600561671879877 tw4483922394649443852 tw4547859799610344709 tw5288641052121528942 tw6363472674399861994 tw6508213494985617812 tw8951518866073630829 tw9732572880772768932 tw16742887673344570054 tw16919320828296117757 tw8578222504528355491 tw1506651263951703089 tw18148309736321427685 tw2708777776805102105 tw14749585289132922659 tw4304162661943935540 tw8725485642240419541 tw16693612568893957782 tw2553739176618754147 tw11046162786011925472 tw8296224220181209796 tw6552421662227066630 tw17426243749521566841 tw4815080308328840343 tw6594316470017361999 tw11076013120359233107 tw11755818887442328339 tw1198596046129703644 tw14981536462714249222 tw16533478952228881934 tw16686849954155572694 tw3050525421553809824 tw7240547389024769175 tw75947403323296235 tw10645481754581144298 tw12996410189749459410 tw14432827474713667170 tw989697192534135998 tw17848389429699673345 tw10157771206179221065 tw1290540820445283519 tw13740205174791975529 tw15254161408708874620 tw7895852824967644975 tw9301626235831904483 tw17636494607720470632 tw3336501432822250921 tw6349390585429968277 tw17492564967334517211 tw2821018113295156307 tw103009224055776784 tw4207083173632423078 tw8578285829605330003 tw16175303231620799498 tw17158079800298037213 tw15569901217538995592 tw3671622929056369493 tw3844908652817063121 tw17717239983033392765 tw17900488260950072852 tw16936134809425206012 tw5554992461865501361 tw4253147786184903493 tw16487701082604013838 tw10974210496698812830 tw10517628615451955250 tw16311481621278657229 tw11449616127757010352 tw3266823632700547375 tw6859345062474895791 tw7053377112968935443 tw11079829082906859307 tw16686956435069826052 tw2004735608972260886 tw13447579486494817858 tw14478142658288040834 tw9234902147349641828 tw10913415643051907461 tw17127693836444809758 tw4083402505228710751 tw17685457633227887828 tw5468065386634847414 tw16568634679764532171 tw4152462219559152855 tw3537032971125594586 tw529822768433209892 tw5515714572279226550 tw13117991316402053012 tw10382833627832651793 tw16831480868851463984 tw3139585711921452603 tw4553196791508682715 tw5781155149249400202 tw14492661911172107773 tw8389742234688341812 tw13604365354803481705 tw2990490045321771220 tw14136339696488136705 tw4398357163442216079 tw9910602834486641688 tw4996721464244812064 tw1448771817307721897 tw3191499879449521384 tw12065515213800239740 tw3219358601236339745 tw4639875654613745767 tw12668230057754320988 tw13704151658092817240 tw15196974973705866349 tw7937526845679232944 tw2925278910351790802 tw2990002066071008721 tw6194377114297436939 tw13486199971572273218 tw3055969927688177669 tw9184223164169337333 tw15449909154632139159 tw6224232140350173464 tw15506194457131189096 tw16431583297473236394 tw4592492314558510111 tw8258401459539595219 tw1050965021307119480 tw5249602960771034477 tw4599655964783828524 tw11557730986725950769 tw4546128544447063670 tw16002227727432588706 tw9431813789148753487 tw17592265855142550255 tw10294705580327423684 tw12605034310701878398 tw1945303388913881576 tw9377445971887959158 tw18150510170111452531 tw12962825043533988790 tw6319081671360167601 tw9577174943227862910 tw10252035154015134941 tw13169368819855302037 tw9281596219813141632 tw12973743876572461226 tw13989212813648867163 tw16159280947459780316 tw1620082302785569094 tw6012499553045292222 tw7030075585254226374 tw11782786325899277507 tw6033125884949799424 tw9096975688244222071 tw16132076059804595895 tw17864850482541673707 tw5890559946670202295 tw9227006731281897365 tw7329373754137651253 tw10050353020957650888 tw12648058426622923457 tw14595764335154733905 tw16495898446122271761 tw16783985255610412925 tw296208883121467383 tw3296564030020422169 tw12230523835701732107 tw13471865471304617982 tw9490853275357854525 tw11589605059866765246 tw1225477796012827988 tw2174221120130098475 tw5370149305894705261 tw7751305562884481799 tw478112273827474604 tw8725122506702666025 tw12767193504100113539 tw13978810470428707055 tw14237050275330207127 tw14297329873927840783 tw16956496931634563160 tw17472416257288707499 tw17830238963639956751 tw3865688487505136805 tw11861388061075557442 tw1430633753088213533 tw454050445529659327 tw7253398575954489794 tw77858837708433814 tw13233127506361718405 tw4960786776965200195 tw7988875707878999690 tw11841875156321842717 tw1376688010247390509 tw1500286346656188791 tw16370203554578247900 tw17320627896269337616 tw18233477655809054171 tw1977769421545124964 tw13278297058927074933 tw6678849233783859615 tw12105920186131349330 tw16633447933927289812 tw3627907616538934861 tw48758561088017623 tw538056106132606352 tw13654801953492867224 tw3812215233317567557 tw4434092880018168704 tw6322124667158500914 tw6589154149806426354 tw7491595351382189233 tw15682817971814104074 tw14109383874644815797 tw17736333771613160928 tw2210908080480363656 tw3105572239748619129 tw9536576014153464064 tw8176412725626200530 tw494739511654688543 tw15787659272398227354 tw13718284309019267324 tw16232725136177855652 tw7415376336906708162 tw10502201340696093162 tw12045039967782223112 tw5111574777803717199 tw14747449749054438263 tw16005637618870375111 tw3055824847593663298 tw3899469893793628908 tw4143562154875748361 tw8685544792763970038 tw9344616431359263522 tw14562678470249831559 tw11022511158413687508 tw17886081610147553078 tw2166916330950201362 tw7614361001228226075 tw5659096397627185731 tw2370093551727791274 tw6125735474336831795 tw10729430857097004665 tw1269395815468251489 tw9375393669048678386 tw18271140986881493098 tw16472625966668841805 tw4174174774842633196 tw11016160232935989640 tw9465401341194963267 tw17577097989086353595 tw291378848969791401 tw11789772730617507558 tw17239119871078959726 tw2605540886012563041 tw1281800315588473453 tw14109306779403750095 tw14633796347856976916 tw13020105175581624596 tw9299513871257259557 tw1033799847740760973 tw16405507374746914962 tw6853886410150657496 tw4529559118890170430 tw11658696701335242101 tw7132716155577566767 tw594858650917987709 tw798272943209585039 tw11090794370033598089 tw16498512659813270954 tw12938524934899106995 tw17746016788891833058 tw7046980636678856903 tw5426439639188299070 tw7208463316755686005 tw13266092550565137535 tw17930789436354198085 tw17657810268148295926 tw7432470607981087877 tw17774853722585056643 tw9326135346022391380 tw11786176514502430650 tw15185780720321118922 tw6900674427217231314 tw8172219469771444699 tw10822948799779745247 tw11751265670455901661 tw12915127821981818665 tw6812496736740456970 tw7341020442792771793 tw11162469924309127783 tw1125454764892670249 tw11516283217149411997 tw14054817125034027118 tw15168166920145354303 tw18310135963752695896 tw5254824134962812475 tw5367315473544477402 tw609331393600788152 tw7228385815427459171 tw7765170862404831959 tw816628893537186576 tw10468725771002351108 tw13874750966534525014 tw1631204063774947540 tw12552368683745142822 tw10016454764168561915 tw853771537502044690 tw5422597839635529674 tw8555822487336518628 tw9088915104878054035 tw1148042212299763369 tw12764032415028469007 tw8261701603692209204 tw11720773679354907593 tw7516692918907993352 tw12793230141923686770 tw16734197207859594212 tw1306757367793898397 tw17513993456526247473 tw4248064719372845401 tw2607303325684883370 tw13787122198944260811 tw15161984031539153247 tw17513013329495827946 tw10658681096698715423 tw11882073440325943243 tw9400994983988672233 tw11471563845827171897 tw17187098693540616602 tw605811549915660293 tw5819241683869538285 tw9704353779600190042 tw3076784521451855128 tw10383057690656757021 tw13810576472384628404 tw7813175577832420367 tw2984292561914171018 tw9819498883271131966 tw18385100360354427478 tw5563573509117717460 tw15838166529617297053 tw11320302857675332349 tw18201552306482198497 tw6435984192298287569 tw13635037286143105217 tw16712378037551494155 tw1236437934949231413 tw16858263557354035451 tw4639118520409452191 tw65887774175550171 tw13578618638679433739 tw11972638105832468490 tw14050297983827697260 tw1585588548286035284 tw5579458320610129003 tw15817182638097241019 tw18335942157502267307 tw18355065398115316425 tw10193450953086007927 tw17019841629773439448 tw15860976333492877518 tw17337201823013889466 tw2393313279015254727 tw3393949213343730780 tw7522540730129999018 tw879075763546929900 tw11922099475750900498 tw17379261057095367838 tw5334216809786149658 tw11469284179568673086 tw17974161054336065326 tw4907412064505166880 tw7446877252252189998 tw9569097820193241670 tw10092794615332863216 tw15717257716943060817 tw14924572352468991520 tw15602909239121000187 tw211794207356080800 tw13115358982535735867 tw6401751827997373108 tw7010287424810598995 tw17654709364027382835 tw10367451877380949786 tw2185833833573346868 tw198188870686467477 tw18049036657662295851 tw10603103091789640610 tw12410030010395429053 tw16900629040044318581 tw5174712221028770546 tw15866422923875578245 tw5699117046620680826 tw754495769821090229 tw14685139419214537073 tw9902628039498333555 tw11938861695640556687 tw15672309231123299514 tw4059147201660792533 tw661226663395825141 tw4406074583325574877 tw592413051406203236 tw729795817239772182 tw7456585382192217692 tw2905469107809011720 tw2591016745385114105 tw8930696489918365673 tw12024286597671285923 tw7905804952827293845 tw9719471186562052140 tw627405743760883438 tw1583814787810496419 tw9307141617420789238 tw12504818255970295400 tw14587385627527569736 tw390012875949198017 tw12505524156714943021 tw4453584335377856097 tw6084409174952805308 tw4653970706541454836 tw12012754090732903471 tw8229795589105327488 tw5423794534360086660 tw1212051153452802851 tw16253231755620577536 tw8340002688352592628 tw8376619110570081146 tw12786073127904122443 tw9517440043594296484 tw235000604186106967 tw1427372966034529964 tw8384789788114216324 tw16625341498670911224 tw7309943851430014968 tw14658632939000125738 tw3790029363674943710 tw7669185454766997699 tw5118520196482256151 tw12755168176070758938 tw16878774769813967438 tw17646890908360472185 tw12205264683046522609 tw2149804795345703445 tw5230627698547994956 tw1866849510801872989 tw17541137941154843103 tw7798209684634803744 tw9503631044527992984 tw9869248770601848578 tw17469757038650162318 tw18174663777828418349 tw4122946034197012724 tw11928660949136190516 tw2221800723822712234 tw13893528576196957343 tw855040156751313862 tw4305795712247315690 tw7427017914023369630 tw3755911392682749217 tw14089010156202369997 tw12120419893820970176 tw11339880165581129982 tw10920550015316559293 tw2174237174775650669 tw15824847372024546608 tw15922942357076895827 tw13590545538045973566 tw14570172454824002747 tw14218476275792955259 tw2490329129303682962 tw13554434913798099644 tw1861613363835422107 tw7031493685742980107 tw15585250016685549993 tw140528486742503392 tw13106540788796329129 tw78455452721156884 tw8056264061252667068 tw16600068907041918893 tw14998938105629278535 tw6889016178057273223 tw18089783356023107771 tw12150964977749539189 tw9933726490925873709 tw3369882966181788239 tw12833896184972510236 tw70941835597551737 tw15842467836202934763 tw15109072572772170748 tw12237335250315803323 tw4995399584251191546 tw7466127253547623852 tw17362633087771838405 tw13035194428275027919 tw1482298610545761495 tw8642333648977076430 tw4653642087110085899 tw1592287339766030766 tw4618299355770736032 tw5908098653069230891 tw3969070394473311247 tw9420231279163770125 tw3189119121936964084 tw8528535467816046518 tw16854025313222426653 tw7337653807892801953 tw11354746152601132937 tw408480416668219764 tw16016790330827089708 tw16810537858116149374 tw17179106991875773118 tw628584978285206713 tw9590506899516515290 tw10670014732202538794 tw10746543371490470327 tw907251693107451168 tw15575098253194746900 tw14917627262996911138 tw6752027887982512831 tw13161518114040329477 tw15166084690397496043 tw8315245286017072778 tw14705529451226120599 tw14767017571525028887 tw15740681427651463236 tw12474111152448967949 tw16727694420852303566 tw9802021035096046894 tw14377286207241265783 tw11211487478618411306 tw11618371861341603363 tw3422596203625499211 tw10326698078118805952 tw11226650843419011206 tw10035530761859362848 tw5044285659622364439 tw1753738475142284829 tw12297349284859418461 tw8987783016000893125 tw10576592759825663398 tw11916222380890495039 tw495752523933902354 tw7084915238349597305 tw9273488127143760223 tw16486637661337294791 tw497517419457144483 tw15189705289074099961 tw8259055350219151485 tw7485608848745764379 tw2565005052907900441 tw13285104320425142075 tw1413292657835411211 tw8230342581699145978 tw13318649702588171594 tw4854508832589857869 tw2833808165200952354 tw345071724970258313 tw7958096321517606784 tw15261976072107922971 tw18073446647723062317 tw9937227358182519043 tw17482941001273758777 tw8370729571940635142 tw12687370987436155705 tw11327798800310490976 tw6645158930696750669 tw18365207689190745740 tw16186823292153319107 tw12741517092659230699 tw2026951558489690329 tw937334441416875909 tw9198425421427187197 tw4563392870711635906 tw12471534649940951225 tw16942008510233165271 tw8336315025912047262 tw11180423685501847238 tw13521971190274006340 tw8877729038790542105 tw5776286515995649224 tw14712485602443652802 tw5744573470686270787 tw2476053643485422798 tw11352540052330639656 tw6301716733217746144 tw11248067865179559387 tw2834098702887359333 tw5101988058800786425 tw9555139559626469766 tw18095989472979996103 tw2654880209496186296 tw7909857468279118061 tw2404270769955756065 tw17703368230982734402 tw2142904765785476901 tw6660931179919404906 tw10101853473510753613 tw2648176205562729889 tw6681655778133806395 tw15095907449077709105 tw2006436897837945556 tw17140340801548592540 tw4703094968399674649 tw9422991629351649827 tw2817323970539684312 tw2033567412286668834 tw12024774306459477781 tw13122930404655635488 tw2788483001404161505 tw17721072017684229878 tw5221034595884324756 tw4105193977136671013 tw8652308784120988595 tw3470655361886148378 tw18341299563806752033 tw4252237391853279618 tw15319729963985318976 tw6152992959102969818 tw1518401851104238590 tw2999383405554898624 tw13952821356379011530 tw16641836703274266021 tw8835025166390499807 tw15825906182856929759 tw15108262658533737126 tw7604667384254892668 tw18150705512800114276 tw4573369820415959490 tw2280490163817573428 tw16327251973354969060 tw17378401808746898512 tw18402149503359464738 tw9356391777455928848 tw10382673023002240492 tw3170872754956013129 tw17225954140736124964 tw15759252211522396081 tw13401036376311280280:True)
open PySem PySem.W PyProof.Rows
set_option maxRecDepth 100000 in
set_option maxHeartbeats 0 in
theorem PySem.Challenge.cw_taglook_k65_refused_of_things_holds : PySem.Challenge.rw_taglook_k65_refused_of_things.Holds := by
 w_on;o_law;k_head;(case hw=>w_witness2)
 k_fill
 refine ZI.walk (Aa:=PySem.Challenge.rw_taglook_k65_refused_of_things) rfl rfl (λw h Y=>PySem.W.kIn_of Y) ?hK ?F
 case hK=>intro pm;exact(Eq.refl true)
 case F=>
  intro w mg fa h KX G hmg;refine' ZI.all_mk KX G hmg ?nb ?zS ?a0 ?a1 ?c0 ?c1 ?c2 ?c3 ?c4 ?c5 ?ao0 ?ao1 ?ao2 ?ao3 ?ao4 ?ao5 ?ao6 ?ao7 ?ao8 ?ao9 ?ZR ?ZS ?ZT ?ZU ?ZV ?ZW ?ZX ?ZY ?ZZ ?Z9 ?Z_ ?aaa ?aab ?aac ?aad ?aae ?aaf ?aag ?aah ?aai ?aaj ?aak ?aal ?aam ?aan ?aao ?aap ?aaq ?aar ?aas ?aat ?aau ?aav ?aaw ?aax ?aay ?aaz ?aaA ?aaB ?aaC ?aaD ?aaE ?aaF ?aaG ?aaH ?aaI ?aaJ ?aaK ?QN ?QT ?QK ?QM ?QG ?QO ?aD0 ?aD1 ?aD2 ?aB ?gB ?rB ?iB ?hV ?kt
  (case nb=>exact(Eq.refl true))
  (case c0 |c1 |c2 |c3 |c4 |c5=>refine' ⟨?a,?b,?c,?d,?e,?f,?g⟩;(case a |b |c |d |e |f |g=>k_is))
  (case QN |QT |QK |QM |QG |QO=>refine' Mir.OO ?aC ?lC ?nC ?tC ?xa ?xb ?xc ?xd ?xe ?xf ?xg ?xh ?xi ?xj ?xk ?lI ?yI ?wI ?ja ?jb ?jc ?jd;(case aC=>k_is);(case lC=>k_is);(case nC=>k_is);(case tC=>exact(Eq.refl true));(case xa=>k_is);(case xb=>exact rfl);(case xc=>exact rfl);(case xd=>k_is);(case xe=>k_is);(case xf=>k_is);(case xg=>k_is);(case xh=>k_is);(case xi=>exact rfl);(case xj=>k_is);(case xk=>k_is);(case lI=>k_is);(case yI=>k_is);(case wI=>k_is);(case ja=>k_is);(case jb=>k_is);(case jc=>k_is);(case jd=>k_is))
  (case a0 |a1 |ao1 |ao2 |ao3 |ao4 |ao5 |ao6 |ao7 |ao8 |ao9 |aas |aat |aau |aav |aaw |aax |aay |aaz |aaA |aaE |aaF |aaG |aaH |aaI |aaJ |aaK=>refine' ⟨_,_,Mir.vj ?a ?l ?c ?k⟩;(case a |l |c |k=>k_is))
  (case aaB |aaC |aaD=>refine' Mir.vj ?a ?l ?c ?k;(case a |l |c |k=>k_is))
  (case ZR |ZS |ZT |ZU |ZV |ZX |ZY |ZZ |Z_ |aaa |aab |aac |aad |aae |aaf |aag |aah |aai |aaj |aak |aal |aam |aan |aao |aap |aaq |aar=>refine' ⟨_,_,Mir.FO ?a ?l ?c ?k ?i⟩;(case a |l |c |k |i=>k_is))
  (case ZW |Z9=>refine' Mir.Xl ?a ?l ?c ?k ?i ?t ?d;(case a |l |c |k |i |t=>k_is);(case d=>rfl))
  (case ao0=>refine' Mir.Xm ?a ?l ?c ?k ?t ?d;(case a |l |c |k |t=>k_is);(case d=>rfl))
  (case zS |aD0 |aD1 |aD2 |aB |gB |rB |iB |hV=>k_is)
  (case kt=>exact⟨Eq.refl true,Eq.refl true,Eq.refl true,Eq.refl true,Eq.refl true,Eq.refl true,Eq.refl true,Eq.refl true,Eq.refl true,Eq.refl true,Eq.refl true,Eq.refl true,Eq.refl true,Eq.refl true⟩)
