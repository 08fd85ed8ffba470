import PyProof.Rows.All
import Wide.All
import OpenK.AllK
import PySem.Challenge.RW_taglook_k25_loops
set_option Elab.async false
set_option compiler.extract_closed false
set_option bootstrap.genMatcherCode false
set_option genSizeOfSpec false
set_option linter.all false
set_option maxRecDepth 100000
set_option maxHeartbeats 4000000
open PySem renaming Addr->b',Value->f',Shared->g',wpAny_bind->j',model->k9,wpAny->p',Expr->x',Heap->D',starEach->F',wpAny_pure->I',Stmt->K',Pos->T',Scope->V',sizeLine->Y',World->À,Program->Ä,FuncData->Å,backTo->Æ,cLine->È,Env->É,mainGlobals->Ì,Around->Ï,Tok->Û,compareOp->Þ,wpAny_mono->â,codeAny->ç,Paired->í,Sem->ï,wpAny_field->ð,swapsWith->ò,standAt->þ,holding->ÿ,CmpOp->Ā,wpAny_Call_Name_kw->ă,backToKw->Ą,keywordEach->ą,wpAny_holding->Ć,sizeLine_eq->Ĉ,attributeBase->ĉ,bootBuiltins->Č,assignEach->č,foldedSetIterable->Ď,getMethod->ď,wpAny_call->đ,codeAny_mono->Ē,wpAny_rule->ė,sysModules->ě,wpAny_execs_nil->Ĝ,callWith->ğ,valueAt->Ġ,Builtin->ġ,codeAny_builtin->Ģ,relabel->Ĥ,wpAny_truthy_bool->Ħ,pyIter->ħ,call_meets->ĩ,plainId_quiet->ī,wpAny_seqItems->Ĭ,execs->ĸ,wpAny_passesOwn->Ĺ,BindsTo->ľ,bindL->Ŀ,bindC->ŀ,callerA->Ń,wpAny_pyIter_list->ń,Flow->ŏ,isTrue->Ő,Operator->ő,binaryOp->Œ,setAttr->Ŕ,bindArgs->ŕ,getItem->Ř,sliceBounds->ř,stored->Ś,wpAny_setField->Ŝ,excClassObj->ŝ,setFlight->Ş,GenState->Ū,truthy->Ŭ,PassesOwn->ŭ,pyNext->Ů,again->Ű,behindInMarks->ű,lastMarks->Ų,Result->ų,NameKind->ŷ,mem_of_lookup->ź,DictEntry->ſ,wpAny_letGo->ϊ,wpAny_call_entry->ϋ,rawInt->ό,wpAny_setField_rec->ύ,OwnTail->Ϗ,codeAny_call_builtin->ϐ,Comprehension->ϗ,scanBound->Ϙ,BoolOp->Ϛ,wpAny_execs_cons->ϝ,assign->Ϟ,wpAny_loadPart->ϣ,getAttr->ϧ,leaving->ϩ,IsPart->Ϭ,typeLookup->ϭ,slicePick->ϯ,PlainAttrs->ϰ,Slot->ϱ,typeOf->ϲ,Keyword->ϳ,Params->ϴ,wpAny_typeOf->ϵ,getAttr?->Ϸ,wpAny_callSpecial?_slot->ϸ,field->Ϻ,IsPair->ϻ,ZipApart->aaa,noteFrame->aad,wpAny_standAt->aae,sliceRange->aak,slicePicked->aal,boot_len->aaq,Within->aaz,builtinsNs->aaA,wpAny_Name->aaB,letOwnedTupleGo->aaE,wpAny_load->aaF,wpAny_nsSet1->aaK,wpAny_lookBehind->aaM,pastItsLine_dict->aaN,Arguments->aaX,subscripted->aaZ,slot_list_getitem->aa_,typeIs_str->aa0,typeIs_int->aa1,evalArgs_none->aa2,call->aa4,wpAny_updateSeq->aa6,wpAny_of_eq->aa',wpAny_newObj_type->aba,wpAny_attempt->abb,wpAny_onRaise->abd,wpAny_pyIter_tuple->abe,ExcBaseFacts->abf,ExceptHandler->abo,handleBy->abp,wpAny_Try_except->abq,lookup_relabel_local->abE,wpAny_Expr_any->abY,wpAny_assign_Name->abZ,wpAny_pyNext_list_item->ab_,wpAny_pyNext_list_end->ab0,intBits_le_64->ab2,wpAny_truthy_list->ab6,plainObj_wpAny_Assign_Attribute->acb,wpAny_Tuple_spliced->acf,codeAny_call_function->acg,wpAny_newFunctionEnv_cells->aci,wpAny_getItem_list_slice->acn,call_list_seq->aco,wpAny_Call_method0_late->acp,wpAny_specialOf->acv,wpAny_pyIter_dict->acz,wpAny_isInstance->acA,getattributeRaised->acC,wpAny_tryCatch->acD,callType_codes->acE,wpAny_ite_split->acI,wpAny_updateSeq_pair->acR,wpAny_loadPart_at->acU,wpAny_isSubtype_exc->acV,codeAny_of_tree->acW,call_function_tree->adk,wpAny_pyIter_enum->adm,wpAny_pyIter_zip->adv,methodCallForm->adz
open Nat renaming le_trans->B',ne_of_lt->O',le_of_eq->R',lt_of_lt_of_le->U',le_refl->W',zero_le->Ë,lt_irrefl->Ò,ne_of_gt->Ö,lt_of_le_of_lt->Ø,le_of_lt->ñ,sub_le->õ,le_succ->ø,lt_trans->ā,le_add_right->Ė,le_of_not_lt->Ţ,lt_succ_self->ţ,min_le_right->ŧ,lt_succ_of_lt->aai,min_le_left->aav,le_succ_of_le->aa3,le_total->abz,min_eq_left->abA,le_add_left->abK,strongRecOn->ada,succ_le_succ->adB,zero_add->adC,le_of_lt_succ->adD,add_comm->adS
open PySem.W renaming Frag->M',keepIn->Ó,mg_of->Ô,findIn->Ù,fnOf->Ý,nsIn->ß,kitOne->ö,kia_one->ü,mroIn->Ă,codeIn->Ĕ,notCls->Į,hasDictIn->ĺ,specialIn->ļ,instObj->ŋ,InstAt->œ,callWith_K->Ŗ,looks_findIn->Ŵ,takesIn->Ŷ,exmOne->ϑ,lookIn->ϡ,any_some->Ϣ,looks_clsIn->Ϥ,emptyDict->ϥ,isFn->Ϧ,methodCall_KW->Ϩ,Looks->aac,kitAny->aag,plainOver->aaG,takerIn->aaH,set_plain->aaI,makesIn->aaO,typeIn->aaP,InitBack->aaQ,plainGet->aaR,plainGet_of->aaS,kitx_tuple->aaT,callWith_K0->aaU,cellsFrom_some->aaV,looks_mroIn->abh,clsIn->abi,binds_K->abP,bind_fn->ab7,handedIn->ab8,findObj_own->ab',kitx_list->acd,kitx_dict->ace,codeRec_of->ach,OpenLaw->acx,WalkO->acy,check_slot->acX,findObj->ac0,looks_find->ac1,readsIn->ac2,findCls->ac3,mg_none_of->adq
open PySem.Heap renaming lt_size->N',get?_push_of_some->Á,get?_push_size->Ð,get?_update_other->ĕ,get?_update_self->ĭ,SameBut->Ķ,size_push->ŵ,IsList->acS,IsTuple->acT,get?_update_ne->acY,get?_push_at->acZ,update_setField_same->ac4
open List renaming range->Â,mem_singleton->Ã,getElem?_eq_some_iff->Ç,length_map->Í,mem_of_getElem?->Î,mem_cons->Õ,map_map->à,getElem?_append_left->ã,getElem?_eq_getElem->ä,mem_append->æ,mem_iff_getElem?->è,take_succ->é,size_toArray->ê,mem_map->ë,map_append->ì,getElem?_map->î,length_cons->ô,all_eq_true->ù,map_cons->ú,take_length->û,length_take->ý,append_nil->Ċ,getElem?_append_right->ē,nodup_append->Ę,mem_append_right->ĝ,reverse_cons->Ĩ,find?_cons->Ī,all_cons->į,filter_eq_self->ı,map_congr_left->Ĳ,mem_filter->ĵ,getElem?_set_ne->ķ,lookup->Ļ,nodup_cons->Ł,getElem?_inj->ņ,zipWith->Ŋ,mem_range->Ō,filterMap_cons->ō,mem_cons_of_mem->Ŏ,length->ŗ,any_cons->ş,getElem?_drop->Š,drop_eq_getElem_cons->š,map_id'->ť,mem_of_mem_take->Ŧ,getElem?_set_self->ū,of_mem_zip->Ÿ,replicate->Ź,getElem?_take_of_lt->Ż,length_drop->ż,take_of_length_le->ϒ,lookup_cons->ϔ,length_append->ϕ,ext_getElem?->ϙ,length_filter_le->ϛ,take_sublist->Ϫ,nil_append->aah,not_mem_nil->aap,map_take->aar,sum_cons->aas,getElem_mem->aat,filter_map->aau,getElem?_replicate->aaW,map_fst_zip->abk,map_nil->abl,length_set->abm,getElem?_set->abn,range_succ_eq_map->abr,find?_some->abw,getElem?_eq_none->aby,exists_of_findSome?_eq_some->abB,getElem?_zipWith->abD,map_inj_right->abF,foldl_cons->abJ,take_append_drop->abL,length_pos_iff->abM,perm_append_comm->abN,map_zipWith->abO,mem_filterMap->ab1,drop_zero->acF,mem_map_of_mem->ac6,range_succ->adb,drop_of_length_le->adf,any_map->adj,findIdx?_eq_some_iff_getElem->ado,map_drop->adx,take_append_of_le_length->adE,findSome?_cons->adF,filter_append->adG,pairwise_map->adI,nodup_range->adK,filter_sublist->adM,map_reverse->adN,length_reverse->adO,zip->adQ,length_eq_zero_iff->adU,map_eq_nil_iff->adV
open Ne renaming symm->Ê
open PyProof.Rows renaming envOfC->Ñ,AllBare->ć,IsTup->Ĵ,callWith_type1->ů,IntsAre->ž,StrsAre->ϖ,callWith_builtin1->ϫ,Subscript_->Ϯ,boot_isinstance->aaf,isTrue_or->aaC,tail_any->aaY,boot_list->abC,Constant_none->abV,isTrue_or_nil->abX,subscriptTail_builtinR->ack
open Bool renaming and_eq_true->Ú,not_eq_true'->ċ,false_and->aao,true_and->aax,false_eq_true->aa7,false_ne_true->abv,or_eq_true->adA,and_eq_true_iff->adP,and_false->adR,not_false->adT
open PySem.Value renaming ref->Ü,none->ĥ,type->ĳ,bool->Ϝ,isInt->abQ,isStrOf->abR,int->abS,str->abT,builtin->acB
open Prod renaming mk->á
open Option renaming map_eq_some_iff->å,bind_eq_some_iff->ģ,map_some->ň,getD_none->acm
open False renaming elim->ó
open True renaming intro->Đ
open Int renaming natCast_nonneg->ę,toNat_natCast->ś,ne_of_gt->ϟ,zero_add->aaw,emod_nonneg->abG,emod_lt_of_pos->abH,le_of_lt->ab3
open Sum renaming inr->Ě,inl->Ũ
open PySem.Calls renaming spliced_cons->Ğ,spliced_nil->Ľ,callWith_builtin->Ž,Name_function_global->abW,evalArgs_plain->acq
open PySem.F renaming called_set->İ,plainAttrs_list->Ť,slot_tuple_iterator_next->Ϲ,slot_zip_next->aab,slot_list_getattribute->aa5,slot_dict_items->abx,slot_list_append->acr,slot_list_extend->acs,slot_list_clear->acu,entry_tuple_iterator_next->acM,args_tuple_iterator_next_1->acN,entry_zip_next->acP,args_zip_next_1->acQ,attr_ValueError->ac_,excBase_ValueError->ac5,cmp_object->ac8,slot_int_eq_refl->ac9,entry_all_loop->ade,plain_all_loop->adg,entry_any_loop->adh,plain_any_loop->adi,slot_list_insert->adn,slot_list_index->adp,slot_dict_itemiterator_iter->ads,plainAttrs_dict->adt,type_dict_items->adu,slot_list_reverse->ady
open PySem.Obj renaming mapSeq->ł,data_mapFields->Ņ,isFreed_of_fields->aa8,cls_mapFields->aa9,mapFields->abj
open PySem.SeqAt renaming EqAt->Ň,RcAt->ac'
open PySem.Expr renaming Name->ŉ
open PySem.Paired renaming length->ũ
open PySem.Shared renaming heap->ώ
open PySem.NameKind renaming free->ϓ,cell->adl
open PySem.Builtin.Str renaming occurrences->Ϡ,strSliceIndices->abt
open Classical renaming propDecidable->aaj,byContradiction->aay
open PySem.Str renaming length->aam,empty->ab9,cps_append->adL
open ForInStep renaming yield->aan
open Option.some renaming inj->aaD,injEq->afj
open PySem.W.Looks renaming here->aaJ
open PySem.Within renaming cons->aaL
open PySem.Code renaming quiet_builtin->abg
open PySem.Walks renaming list->abu
open PySem.PassesOwn renaming never->abI,leaving->afq
open Array renaming append_assoc->abU,getElem?_eq_some_iff->ac7
open PySem.P renaming truthy_int->ab4,truthy_str->ab5
open PySem.Heap.Ns1 renaming of_empty->aca
open PySem.Heap.IsSliceOf renaming new->acj
open PySem.Heap.DictOf renaming new->acw
open PySem.Builtin.List renaming listExtendWith->acG,listSameRef->acH,listTooLong->ad0,listLengthHint->ad1,listItems->ad4
open PySem.Moved renaming eq_with->acJ
open PySem.Builtin.SmallTypes renaming nextOf->acK
open PySem.Heap.IsTupleIter renaming typeIs->acL
open PySem.Heap.SameBut renaming update->acO
open PyProof.Rows.F renaming entry_set_update_loop->adw,plain_set_update_loop->afl
open List.Nodup renaming idxOf_getElem->adH
open List.Pairwise renaming imp_of_mem->adJ,map->afo,imp->afr
open PySem.SeqAt.EqAt renaming int_str->adW,str_int->adX,same->ad9
open PySem.Builtin.Range renaming rangeSize->adY
open PySem.DictEntry renaming refKey->adZ
open PySem.IsL renaming update->ad_
open PySem.Builtin.Dict renaming pairItems->ad2,updateFrom->ad3
open PySem.Heap.IsList renaming push->ad5
open PySem.Heap.IsTuple renaming push->ad6
open PySem.Value.ref renaming inj->ad7
open PySem.EntryCells renaming newEntry->ad8
open PySem.SeqAt.RcAt renaming none_none->ad',none_bool->aea,none_int->aeb,none_str->aec,none_list->aed,none_tuple->aee,bool_none->aef,bool_bool->aeg,bool_int->aeh,bool_str->aei,bool_list->aej,bool_tuple->aek,int_none->ael,int_bool->aem,int_int->aen,int_str->aeo,int_list->aep,int_tuple->aeq,str_none->aer,str_bool->aes,str_int->aet,str_str->aeu,str_list->aev,str_tuple->aew,list_none->aex,list_bool->aey,list_int->aez,list_str->aeA,lists->aeB,lists_lengths->aeC,list_tuple->aeD,tuple_none->aeE,tuple_bool->aeF,tuple_int->aeG,tuple_str->aeH,tuple_list->aeI,tuples->aeJ
open PySem.SeqAt.RcNeAt renaming none_none->aeK,none_bool->aeL,none_int->aeM,none_str->aeN,none_list->aeO,none_tuple->aeP,bool_none->aeQ,bool_bool->aeR,bool_int->aeS,bool_str->aeT,bool_list->aeU,bool_tuple->aeV,int_none->aeW,int_bool->aeX,int_int->aeY,int_str->aeZ,int_list->ae_,int_tuple->ae0,str_none->ae1,str_bool->ae2,str_int->ae3,str_str->ae4,str_list->ae5,str_tuple->ae6,list_none->ae7,list_bool->ae8,list_int->ae9,list_str->ae',lists->afa,lists_lengths->afb,list_tuple->afc,tuple_none->afd,tuple_bool->afe,tuple_int->aff,tuple_str->afg,tuple_list->afh,tuples->afi
open PySem.AutoListH renaming list_insert_list_int_val_1->afk
open PySem.Builtin.Frozenset renaming updateFrom->afm
open PySem.ScopeKind renaming function->afn
open List.cons renaming injEq->afp
noncomputable section
namespace L2
variable{b:Nat}
def mK{c}{l:List c}{a}(h:l[b]?=some a):=(Ç.mp h).1
variable{s Ξ:Nat}
def cO(h:b<=s)(d:s<=Ξ:=by decide):=B' h d
def oi(h:b<=s)(d:s<Ξ:=by decide):=Ø h d
def YJ(h:b<s)(d:s<=Ξ:=by decide):=U' h d
theorem Mc(h:b<s)(d:s<=Ξ+1:=by decide):b<=Ξ:=by omega
variable{Q:Int}
theorem DL(h:b<=s)(d:s<Q:=by decide):b<Q:=by omega
theorem Sr(h:b<s)(d:s<=Q:=by decide):b<Q:=by omega
variable{i6 i7 y0:Prop}
def xa(h:i6/\i7)(k:i6->i7->y0):=k h.1 h.2
def xe{A}{p:A->Prop}(h:∃a,p a)(k:∀a,p a->y0):=h.elim λa h=>k a h
variable{S8:Prop}
def qb(h:i6/\i7/\S8)(k:i6->i7->S8->y0):=k h.1 h.2.1 h.2.2
def bD{A}{p q:A->Prop}(h:∃a,p a/\q a)(k:∀a,p a->q a->y0):=h.elim λa h=>k a h.1 h.2
def br{A}{p q r:A->Prop}(h:∃a,p a/\q a/\r a)(k:∀a,p a->q a->r a->y0):=h.elim λa h=>k a h.1 h.2.1 h.2.2
def cW{A B}{p q:A->B->Prop}(h:∃a b,p a b/\q a b)(k:∀a b,p a b->q a b->y0):=h.elim λa h=>h.elim λb h=>k a b h.1 h.2
def fV{s t}(h:i6/\i7/\S8/\s/\t)(k:i6->i7->S8->s->t->y0):=k h.1 h.2.1 h.2.2.1 h.2.2.2.1 h.2.2.2.2
theorem eI{A}{r s:A->Prop}(h:i6/\i7/\∃a,r a/\s a)(k:i6->i7->∀a,r a->s a->y0):y0:=by obtain⟨l,m,a,n,e⟩:=h;exact k l m a n e
def eu{A}{p q r s:A->Prop}(h:∃a,p a/\q a/\r a/\s a)(k:∀a,p a->q a->r a->s a->y0):=h.elim λa h=>k a h.1 h.2.1 h.2.2.1 h.2.2.2
def aJ{A B}{p q r:A->B->Prop}(h:∃a b,p a b/\q a b/\r a b)(k:∀a b,p a b->q a b->r a b->y0):=h.elim λa h=>h.elim λb h=>k a b h.1 h.2.1 h.2.2
def ew{A B C}{p q:A->B->C->Prop}(h:∃a b c,p a b c/\q a b c)(k:∀a b c,p a b c->q a b c->y0):=h.elim λa h=>h.elim λb h=>h.elim λc h=>k a b c h.1 h.2
def dH{s t u}(h:i6/\i7/\S8/\s/\t/\u)(k:i6->i7->S8->s->t->u->y0):=k h.1 h.2.1 h.2.2.1 h.2.2.2.1 h.2.2.2.2.1 h.2.2.2.2.2
def a8{A B}{p q r s:A->B->Prop}(h:∃a b,p a b/\q a b/\r a b/\s a b)(k:∀a b,p a b->q a b->r a b->s a b->y0):=h.elim λa h=>h.elim λb h=>k a b h.1 h.2.1 h.2.2.1 h.2.2.2
def cg{A B C}{p q r:A->B->C->Prop}(h:∃a b c,p a b c/\q a b c/\r a b c)(k:∀a b c,p a b c->q a b c->r a b c->y0):=h.elim λa h=>h.elim λb h=>h.elim λc h=>k a b c h.1 h.2.1 h.2.2
def fQ{A B C D}{p q:A->B->C->D->Prop}(h:∃a b c d,p a b c d/\q a b c d)(k:∀a b c d,p a b c d->q a b c d->y0):=h.elim λa h=>h.elim λb h=>h.elim λc h=>h.elim λd h=>k a b c d h.1 h.2
def fD{A B}{p q r s t:A->B->Prop}(h:∃a b,p a b/\q a b/\r a b/\s a b/\t a b)(k:∀a b,p a b->q a b->r a b->s a b->t a b->y0):=h.elim λa h=>h.elim λb h=>k a b h.1 h.2.1 h.2.2.1 h.2.2.2.1 h.2.2.2.2
def dO{A B C}{p q r s:A->B->C->Prop}(h:∃a b c,p a b c/\q a b c/\r a b c/\s a b c)(k:∀a b c,p a b c->q a b c->r a b c->s a b c->y0):=h.elim λa h=>h.elim λb h=>h.elim λc h=>k a b c h.1 h.2.1 h.2.2.1 h.2.2.2
def bF{A B C D}{p q r:A->B->C->D->Prop}(h:∃a b c d,p a b c d/\q a b c d/\r a b c d)(k:∀a b c d,p a b c d->q a b c d->r a b c d->y0):=h.elim λa h=>h.elim λb h=>h.elim λc h=>h.elim λd h=>k a b c d h.1 h.2.1 h.2.2
def eg{A B C}{p q r s t:A->B->C->Prop}(h:∃a b c,p a b c/\q a b c/\r a b c/\s a b c/\t a b c)(k:∀a b c,p a b c->q a b c->r a b c->s a b c->t a b c->y0):=h.elim λa h=>h.elim λb h=>h.elim λc h=>k a b c h.1 h.2.1 h.2.2.1 h.2.2.2.1 h.2.2.2.2
def fh{A B C}{p q r s t u:A->B->C->Prop}(h:∃a b c,p a b c/\q a b c/\r a b c/\s a b c/\t a b c/\u a b c)(k:∀a b c,p a b c->q a b c->r a b c->s a b c->t a b c->u a b c->y0):=h.elim λa h=>h.elim λb h=>h.elim λc h=>k a b c h.1 h.2.1 h.2.2.1 h.2.2.2.1 h.2.2.2.2.1 h.2.2.2.2.2
def bc{A B C D}{p q r s t:A->B->C->D->Prop}(h:∃a b c d,p a b c d/\q a b c d/\r a b c d/\s a b c d/\t a b c d)(k:∀a b c d,p a b c d->q a b c d->r a b c d->s a b c d->t a b c d->y0):=h.elim λa h=>h.elim λb h=>h.elim λc h=>h.elim λd h=>k a b c d h.1 h.2.1 h.2.2.1 h.2.2.2.1 h.2.2.2.2
def bP{A B C D}{p q r s t u:A->B->C->D->Prop}(h:∃a b c d,p a b c d/\q a b c d/\r a b c d/\s a b c d/\t a b c d/\u a b c d)(k:∀a b c d,p a b c d->q a b c d->r a b c d->s a b c d->t a b c d->u a b c d->y0):=h.elim λa h=>h.elim λb h=>h.elim λc h=>h.elim λd h=>k a b c d h.1 h.2.1 h.2.2.1 h.2.2.2.1 h.2.2.2.2.1 h.2.2.2.2.2
open PySem PySem.Spec PyProof.Rows
abbrev Key:=Sum Int Str
noncomputable def oN:Key->f'->Bool
 |.inl k,v=>abQ k v
 |.inr x,v=>abR x v
noncomputable def Ss(w:À):Key->Int
 |.inl k=>hashInt k
 |.inr x=>hashStr w x
theorem cw:∀{k}{v},oN k v=true->(∃i t,k=Ũ i/\v=abS i t)\/(∃x t,k=Ě x/\v=abT x t)
 |.inl i,v,h=>by
  obtain⟨t,e⟩:=Value.isInt_shape h
  simp_all
 |.inr x,v,h=>by
  obtain⟨t,e⟩:=Value.isStrOf_shape h
  simp_all
theorem x5(i t):oN (.inl i) (.int i t)=true:=by simp[oN,abQ]
theorem oO(x t):oN (.inr x) (.str x t)=true:=by simp[oN,abR]
theorem Ir(a b):decide ((Ũ a:Key)=Ũ b)=(a==b):=by
 grind
theorem Iu(a b):decide ((Ě a:Key)=Ě b)=decide (a=b):=by
 simp
theorem Iv(a:Int)(b:Str):decide ((Ũ a)=Ě b)=false:=rfl
theorem Iw(a:Str)(b:Int):decide ((Ě a)=Ũ b)=false:=rfl
def cC(prog w):PySem.KeyKind prog w Key where
 is:=oN
 hash:=Ss w
 inj:=λv a b g f=>by
  rcases cw g with ⟨i,t,rfl,rfl⟩|⟨x,t,rfl,rfl⟩
  .rcases cw f with ⟨j,u,rfl,e⟩|⟨y,u,rfl,e⟩
   .injection e with c _;rw[c]
   .exact nomatch e
  .rcases cw f with ⟨j,u,rfl,e⟩|⟨y,u,rfl,e⟩
   .exact nomatch e
   .injection e with c _;rw[c]
 byValue:=λk v h=>by
  rcases cw h with ⟨i,t,rfl,rfl⟩|⟨x,t,rfl,rfl⟩<;>rfl
 pyHash:=λd h=>by
  rcases cw d with ⟨i,t,rfl,rfl⟩|⟨x,t,rfl,rfl⟩
  .exact wpAny_pyHash_int h
  .exact wpAny_pyHash_str h
 eqBool:=λl d h=>by
  rcases cw l with ⟨i,t,rfl,rfl⟩|⟨x,t,rfl,rfl⟩
  .rcases cw d with ⟨j,u,rfl,rfl⟩|⟨y,u,rfl,rfl⟩
   .rw[Ir]at h;exact wpAny_eqBool_int h
   .rw[Iv]at h;exact adW i t y u _ _ _ _ h
  .rcases cw d with ⟨j,u,rfl,rfl⟩|⟨y,u,rfl,rfl⟩
   .rw[Iw]at h;exact adX x t j u _ _ _ _ h
   .rw[Iu]at h;exact wpAny_eqBool_str h
 «strs» := λk x t v h=>by
  rcases cw h with ⟨i,u,rfl,e⟩|⟨y,u,rfl,e⟩
  .exact nomatch e
  .injection e with c _
   subst c;cases v<;>rfl
theorem kZ(prog w x t):(cC prog w).is (.inr x) (.str x t)=true:=oO x t
inductive V where
 |non|bl (b:Bool)|int (i:Int)|str (x:Str)|LH (b:Array UInt8)|flt (b:UInt64)|ref (a:b')|ty (n:String)
 deriving DecidableEq
def RelV:V->f'->Prop
 |.non,u=>u=ĥ
 |.bl b,u=>u=Ϝ b
 |.int i,u=>∃t,u=abS i t
 |.str x,u=>∃t,u=abT x t
 |.LH b,u=>∃t,u=Value.bytes b t
 |.flt b,u=>∃t,u=Value.float b t
 |.ref a,u=>u=Ü a
 |.ty n,u=>u=ĳ n
abbrev Vals:=í RelV
def Vals.length{xs a}(r:Vals xs a):=ũ r
theorem Vals.get:∀{xs}{a}{i:Nat}{x},Vals xs a->xs[i]?=some x->∃u,a[i]?=some u/\RelV x u
 |_,_,_,_,.nil,e=>by simp at e
 |_,_,0,_,.cons r _,e=>by simp_all
 |_,_,i+1,x,.cons _ t,e=>by
  obtain⟨u,b,c⟩:=Vals.get t (by simpa using e)
  simp_all
theorem Vals.append:∀{xs a}{b c},Vals xs b->Vals a c->Vals (xs++a) (b++c)
 |_,_,_,_,.nil,s=>s
 |_,_,_,_,.cons r t,s=>.cons r (Vals.append t s)
theorem Vals.take:∀{xs}{a} n,Vals xs a->Vals (xs.take n) (a.take n)
 |_,_,0,_=>.nil
 |_,_,_+1,.nil=>.nil
 |_,_,n+1,.cons r t=>.cons r (Vals.take n t)
theorem Vals.drop:∀{xs}{a} n,Vals xs a->Vals (xs.drop n) (a.drop n)
 |_,_,0,r=>r
 |_,_,_+1,.nil=>.nil
 |_,_,n+1,.cons _ t=>Vals.drop n t
def iZ:Option V->Option f'->Prop
 |some v,some u=>RelV v u
 |none,none=>True
 |_,_=>False
def KV{a}:=í λ(p:a×V) (q:a×f')=>p.1=q.1/\RelV p.2 q.2
noncomputable def kV:Key->V
 |.inl i=>.int i
 |.inr x=>.str x
inductive HO where
 |lst (xs:List V)
 |tup (xs:List V)
 |dK (kvs:List (Key×V))|dT (kvs:List (List Key×V))
 |set (S:Int->Bool) (n:Nat)
 |ins (C dx:b') (fs:List (Str×V))
 |own (x:b')
 |xd (fs:List (Str×V))
 |met (f x:b')
 |Su (lo hi:Int)
 |dZ (o:Obj) (u:HO)
 |Iy (ps:Array f')
 |ext (φ:D'->Prop)
abbrev Hp:=b'->Option HO
noncomputable def upd(H:Hp)(a:b')(o:HO):Hp:=λb=>if b=a then some o else H b
variable{M0:HO}{e:Hp}{h:b'}
theorem aS:upd e h M0 h=some M0:=by unfold upd;simp_all
variable{C:b'}
theorem az(a:C≠h):upd e h M0 C=e C:=by unfold upd;rw[if_neg a]
theorem bf(a:e h=some M0)(b:e C=none):h≠C:=by
 grind
section
variable(P:Ä)(w:À)
def dE(H:Hp)(h:D')(a:b'):HO->Prop
 |.lst xs=>xs.length<=Y'/\∃b n,Vals xs b/\h.get? a=some {cls:=.type "list",data:=.seq b.toArray n}
 |.tup xs=>xs.length<=Y'/\∃b,Vals xs b/\Ĵ h a b.toArray
 |.dK c=>c.length<=Y'/\(a==ě)=false/\∃j,KV c j/\h.DictOf (cC P w) a j
 |.dT c=>c.length<=Y'/\(a==ě)=false/\∃xs,
   í (λp q=>p.1=q.1/\H q.2.1=some (.tup (p.1.map kV))/\RelV p.2 q.2.2) c xs /\
   ∃o k r,h.get? a=some o/\o.ExactDict/\o.data=.dict k r/\k.toList=xs.map (entryOfKey (tupleKind (cC P w)))/\(xs.map (·.1)).Nodup
 |.set S n=>h.SetOf (intKind P w) a S n
 |.ins C g e=>H g=some (.own a)/\e.length<=1000/\g≠a/\h.get? a=some (ŋ C g) /\
   ∃d,h.Ns1 g d/\(∀f,iZ (e.lookup f) (d f))/\aaz d (e.map (·.1))
 |.own _=>∃o,h.get? a=some o
 |.xd e=>∃d,h.Ns1 a d/\∀f,iZ (e.lookup f) (d f)
 |.Su s y=>∃t u v,h.get? a=some {cls:=.type "range",data:=.fields #[.int s t,.int y u,.int 1 v]}
 |.dZ o u=>h.get? a=some o/\dE H h a u
 |.Iy z=>h.get? a=some {cls:=.none,data:=.fields z}
 |.met f x=>h.get? a=some (PySem.W.methodObj (.ref f) (.ref x))
 |.ext i=>i h/\(∃o,h.get? a=some o)/\∀l m,i l->(∀o,l.get? a=some o->m.get? a=some o)->i m
def jw(H h):=∀a o,H a=some o->dE P w H h a o
end
theorem dE.lt{P w H h a o}(x:dE P w H h a o):a<h.objs.size:=by
 cases o with
 |lst g=>refine xa x λ_ b=>cW b λ_ _ _ e=>N' e
 |tup g=>obtain⟨_,_,_,p⟩:=x;exact p.lt
 |dK c=>refine eI x λ_ _ _ _ b=>ew b λo _ _ e _=>N' e
 |dT c=>refine eI x λ_ _ _ _ b=>ew b λo _ _ e _=>N' e
 |set S n=>refine fQ x λo _ _ _ e _=>N' e
 |ins C j i=>refine fV x λ_ _ _ e _=>N' e
 |own y=>obtain⟨_,e⟩:=x;exact N' e
 |xd i=>obtain⟨_,⟨_,_,_,e,_⟩,_⟩:=x;exact N' e
 |Su k l=>refine xe x λ_ b=>xe b λ_ d=>xe d λ_ e=>N' e
 |dZ m u=>obtain⟨e,_⟩:=x;exact N' e
 |Iy q=>exact N' (x)
 |met f y=>exact N' (x)
 |ext r=>obtain⟨_,⟨_,e⟩,_⟩:=x;exact N' e
theorem Paired.Iz{c d F G}:∀{l₁:List c}{l₂:List d},í F l₁ l₂->(∀a b,F a b->G a b)->í G l₁ l₂
 |_,_,.nil,_=>.nil
 |_,_,.cons r t,f=>.cons (f _ _ r) (Paired.Iz t f)
variable{A:À}{B W3:D'}{y:Ä}{ξ:Hp}
theorem dE.stay(x:dE y A e B h M0)(k:∀b u,(b=h\/e b=some (.own h))->B.get? b=some u->W3.get? b=some u)(F:∀b,e b=some (.own h)->ξ b=some (.own h))(G:∀b xs,e b=some (.tup xs)->ξ b=some (.tup xs)):dE y A ξ W3 h M0:=by
 induction M0 with
 |lst xs=>obtain⟨z,s,n,r,a⟩:=x;exact⟨z,_,n,r,k _ _ (.inl rfl) a⟩
 |tup xs=>refine xa x λz g=>bD g λs r o=>bD o λj a c=>⟨z,_,r,j,k _ _ (.inl rfl) a,c⟩
 |dK w=>refine eI x λz i H r g=>ew g λj l m a c=>⟨z,i,H,r,j,l,m,k _ _ (.inl rfl) a,c⟩
 |dT w=>
  refine eI x λz i xs r g=>ew g λj l m a c=>⟨z,i,xs,Paired.Iz r λp q z=>⟨z.1,G _ _ z.2.1,z.2.2⟩,j,l,m,k _ _ (.inl rfl) a,c⟩
 |set S n=>refine fQ x λj l m t a c=>⟨j,l,m,t,k _ _ (.inl rfl) a,c⟩
 |ins C M I=>
  obtain⟨d,z,ne,a,D,⟨E,l,m,J,c⟩,r⟩:=x;exact⟨F _ d,z,ne,k _ _ (.inl rfl) a,D,⟨E,l,m,k _ _ (.inr d) J,c⟩,r⟩
 |own i=>obtain⟨j,a⟩:=x;exact⟨j,k _ _ (.inl rfl) a⟩
 |xd I=>obtain⟨D,⟨E,l,m,a,c⟩,r⟩:=x;exact⟨D,⟨E,l,m,k _ _ (.inl rfl) a,c⟩,r⟩
 |Su N O=>refine xe x λt g=>xe g λu o=>xe o λv a=>⟨t,u,v,k _ _ (.inl rfl) a⟩
 |dZ j u K=>obtain⟨a,q⟩:=x;exact⟨k _ _ (.inl rfl) a,K q⟩
 |Iy P=>
  exact k h _ (.inl rfl) x
 |met f i=>
  exact k h _ (.inl rfl) x
 |ext Q=>obtain⟨p,⟨M0,a⟩,L⟩:=x;exact⟨by grind,⟨M0,k _ _ (.inl rfl) a⟩,L⟩
def jw.lt{P w H h a o}(x:jw P w H h)(e:H a=some o):=(x a o e).lt
theorem jw.fresh(x:jw y A e B)(a:B.objs.size<=h):e h=none:=by
 cases q:e h with
 |none=>rfl
 |some u=>exact absurd (U' (x.lt q) a) (by simp)
theorem jw.kept(x:jw y A e B)(k:∀b u,B.get? b=some u->W3.get? b=some u):jw y A e W3:=λa o c=>
 (x a o c).stay (λb u _ q=>k b u q) (λ_ q=>q) λ_ _ q=>q
theorem jw.laid{o}(x:jw y A e B)(k:∀b u,B.get? b=some u->W3.get? b=some u)(g:B.objs.size<=h)(i:dE y A (upd e h o) W3 h o):jw y A (upd e h o) W3:=λb u a=>by
 have d:=x.fresh g
 by_cases f:b=h
 .subst f;rw[aS]at a;simp_all
 .rw[az f]at a
  exact(x b u a).stay (λc v _ q=>k c v q) (λc q=>by rwa[az (bf q d)]) λc j q=>by rwa[az (bf q d)]
def Rd(H:Hp)(a u):=H a=some u\/∃o,H a=some (.dZ o u)
theorem Rd.ok(r:Rd e h M0)(x:jw y A e B):dE y A e B h M0:=by
 rcases r with r|⟨o,r⟩
 .exact x h M0 r
 .obtain⟨_,q⟩:=x h _ r
  exact q
def Po:Option HO->Prop
 |some (.lst _)=>True
 |some (.dK _)=>True
 |some (.dT _)=>True
 |some (.set _ _)=>True
 |some (.ins _ _ _)=>True
 |some (.ext _)=>True
 |_=>False
theorem jw.write(ok:jw y A e B)(g:Po (e h))(o:C=h\/e C=some (.own h))(k:∀b u,b≠C->B.get? b=some u->W3.get? b=some u)(f:∃u,W3.get? C=some u)(m:dE y A (upd e h M0) W3 h M0):jw y A (upd e h M0) W3:=λb u q=>by
 have a:∀c d,e c=some (.own d)->c≠h:=λc d r z=>by subst z;rwa[r]at g
 by_cases i:b=h
 .subst i;rw[aS]at q;simp_all
 .rw[az i]at q
  by_cases n:b=C
  .have j:e b=some (.own h):=by
    simp_all
   rw[q]at j;cases j
   obtain⟨v,p⟩:=f;exact⟨v,by simp_all⟩
  .refine(ok b u q).stay (λc v s r=>k c v ?_ r) (λc r=>by rwa[az (a c b r)]) λc l r=>by rwa[az ((λc l r z=>by subst z;rwa[r]at g) c l r)]
   grind
structure Un(fs ex:List b')(H H':Hp)(h h':D'):Prop where
 keep:∀b o,h.get? b=some o->H b=none->b∉fs->b∉ex->h'.get? b=some o
 slot:∀b o,h.get? b=some o->H b=none->b∈fs->b∉ex->∃sl,h'.get? b=some {o with slots:=sl}
 free:∀b o,h.get? b=some o->H b=none->b∉ex->H' b=none
 there:∀b o,h.get? b=some o->b∉ex->∃o',h'.get? b=some o'
 tups:∀b xs,H b=some (.tup xs)->H' b=some (.tup xs)
 gy:∀b o u,H b=some (.dZ o u)->H' b=some (.dZ o u)
 iO:∀b ps,H b=some (.Iy ps)->∃more,H' b=some (.Iy (ps++more))
variable{A0 u:List b'}
theorem Un.any(a:Un u A0 e ξ B W3){ob}(q:B.get? h=some ob)(n:e h=none)(b:h∉A0):∃d,W3.get? h=some {ob with slots:=d}:=by
 by_cases c:h∈u
 .exact a.slot h ob q n c b
 .exact⟨_,a.keep h ob q n c b⟩
variable{P7:Hp}
theorem Un.trans{m}(a:Un u A0 e ξ B W3)(b:Un u A0 ξ P7 W3 m):Un u A0 e P7 B m where
 keep:=λc d q n h f=>b.keep c d (a.keep c d q n h f) (a.free c d q n f) h f
 slot:=λc d q n h f=>by
  obtain⟨p,g⟩:=a.slot c d q n h f;obtain⟨j,k⟩:=b.slot c _ g (a.free c d q n f) h f;exact⟨j,k⟩
 free:=λc d q n f=>by
  obtain⟨l,g⟩:=a.there c d q f;exact b.free c l g (a.free c d q n f) f
 there:=λc d q f=>by
  obtain⟨l,g⟩:=a.there c d q f;exact b.there c l g f
 tups:=λc i q=>b.tups c i (a.tups c i q)
 gy:=λc d i q=>b.gy c d i (a.gy c d i q)
 iO:=λc o q=>by
  obtain⟨m1,g⟩:=a.iO c o q;obtain⟨m2,k⟩:=b.iO c _ g;exact⟨m1++m2,by rw[k,abU]⟩
theorem Un.kept(k:∀b a,B.get? b=some a->W3.get? b=some a):Un u A0 e e B W3:=
 ⟨by simp_all,λb c q _ _ _=>⟨_,k b c q⟩,by simp_all,by simp_all,by simp,by simp,λ_ d q=>⟨#[],by simp_all⟩⟩
theorem Un.laid{o}(k:∀b a,B.get? b=some a->W3.get? b=some a)(d:B.objs.size<=h)(c:e h=none):Un u A0 e (upd e h o) B W3 where
 keep:=λb a q _ _ _=>k b a q
 slot:=λb a q _ _ _=>⟨_,k b a q⟩
 free:=λb a q n _=>by rwa[az (O' (U' (N' q) d))]
 there:=λb a q _=>⟨a,k b a q⟩
 tups:=λb f q=>by rwa[az (bf q c)]
 gy:=λb a f q=>by rwa[az (bf q c)]
 iO:=λb g q=>⟨#[],by rw[az (bf q c),q];simp⟩
variable{D8:List b'}
theorem Un.mono{c}(a:Un u D8 e ξ B W3)(g:∀b∈u,b∈A0)(i:∀b∈D8,b∈c):Un A0 c e ξ B W3:=
 ⟨λb d q n h f=>a.keep b d q n (λz=>h (g b z)) (by grind),λ_ _ q n _ f=>a.any q n (by grind),λb d q n f=>a.free b d q n (by grind),λb d q f=>a.there b d q (by grind),a.tups,a.gy,a.iO⟩
noncomputable def YK(h:D')(H:Hp):=(Â h.objs.size).filter λa=>(H a).isSome
def uk(h H):=PySem.W.hideAll h (YK h H)
variable{υ:Obj}
theorem DM(a:(uk B e).get? h=some υ):B.get? h=some υ/\e h=none:=by
 have b:=PySem.W.of_hideAll _ a;refine⟨b,?_⟩;cases q:e h with
 |none=>rfl
 |some x=>
  have z:(uk B e).get? h=none:=PySem.W.hideAll_none _ (ĵ.mpr ⟨Ō.mpr (N' b),by simp[q]⟩)
  simp_all
noncomputable def DN(g h:D')(L):=(Â h.objs.size).filterMap λa=>if a=L\/(g.get? a).isSome=true then none else (h.get? a).map λo=>(a,o)
def rest(g h L d):=(DN g h L).filter λp=>decide (p.1≠d)
structure Mod(K:M')(mg:Str->Option f')(base:D'):Prop where
 DO:K.In base
 glob:base.Ns Ì mg
 blt:∃mb,base.Ns aaA mb/\∀x:Str,x≠"__name__"->mb x=Č x
 nolimit:base.NoLimit
structure Cx where
 prog:Ä
 w:À
 K:M'
 mg:Str->Option f'
 base:D'
 A:Ï
 N:List Str
 s₀:g'
 H₀:Hp
 env:É
 outer:List É
 stack:List É
 ex:List b'
 fn:Str->Bool
 calm:Bool
 pn:List (b'×Obj)
 xe:f'->g'->Prop
noncomputable def frs(l:List É):=l.filterMap (·.frame)
abbrev Cx.fs(X:Cx):=frs X.outer
def rV(a:V')(x):=a.names.lookup x=some .local\/a.names.lookup x=some .cell\/a.names.lookup x=some .free
def Loc(a:V')(x):=a.names.lookup x=some .local\/a.names.lookup x=some .cell
def Look(env:É)(h:D')(m:Str->Option f')(x u):=
 (env.kindOf x=some .local/\m x=some u)\/((env.kindOf x=some .cell\/env.kindOf x=some .free)/\∃c,env.cells.lookup x=some c/\h.IsCell c (some u))
structure Cx.Ok(X:Cx):Prop where
 mod:Mod X.K X.mg X.base
 kind:X.env.scope.kind=.function
 glob:X.env.globals=Ì
 blt:X.env.builtins=aaA
 above:X.s₀.heap.objs.size<=X.env.locals
 inj:∀x y c,X.env.cells.lookup x=some c->X.env.cells.lookup y=some c->x=y
 has:∀x,(X.env.kindOf x=some .cell\/X.env.kindOf x=some .free)->∃c,X.env.cells.lookup x=some c
 cab:∀x c,X.fn x=true->X.env.cells.lookup x=some c->X.s₀.heap.objs.size<=c
 hd:X.calm=true->X.A.handled=none
 frames:X.A.frames=some X.stack
 DE:X.stack=X.outer\/(X.stack=X.env::X.outer/\X.env.frame=some X.env.locals)
 DP:∀b∈X.ex,b≠X.env.locals/\∀x c,X.env.cells.lookup x=some c->c≠b
 bs:∀b o,X.base.get? b=some o->X.s₀.heap.get? b=some o/\X.H₀ b=none
 um:X.base.objs.size<=X.s₀.heap.objs.size
 om:∀b o,X.base.get? b=some o->b∉X.ex
 oo:∀b∈X.ex,b∉X.fs
 gA:X.s₀.heap.FunFrames X.base X.outer
 x_:∀b∈X.fs,X.H₀ b=none
structure Inv(X:Cx)(pins:List (b'×Obj))(σ:List (Option V))(H:Hp)(s:g'):Prop where
 ok:X.Ok
 os:s.os=X.s₀.os
 bare:ć s.gens
 base:Un X.fs X.ex X.H₀ H X.s₀.heap s.heap
 loc:∃m,s.heap.Ns X.env.locals m/\∀(i:Nat) (x:Str) (v:V),X.N[i]?=some x->σ[i]?=some (some v)->rV X.env.scope x->∃u,RelV v u/\Look X.env s.heap m x u
 cell:∀x c,X.env.cells.lookup x=some c->∃v,s.heap.IsCell c v
 free:H X.env.locals=none
 dG:∀x c,X.env.cells.lookup x=some c->(H c=none\/∃o u,H c=some (.dZ o u))/\(X.fn x=true->H c=none)
 pin:∀p∈X.pn++pins,s.heap.get? p.1=some p.2/\H p.1=none/\p.1≠X.env.locals/\p.1∉X.fs/\∀v,p.2.data≠.cell v
 hok:jw X.prog X.w H s.heap
 len:σ.length=X.N.length
variable{c:Cx}
theorem Cx.Ok.Sv(ok:c.Ok)(e:c.base.get? h=some υ):h∉c.fs:=λa=>by
 have:=(ok.gA.mem a).1
 grind
theorem Inv.bs{X pins a H s}(I:Inv X pins a H s):∀b o,X.base.get? b=some o->s.heap.get? b=some o/\H b=none:=λb o e=>
 ⟨I.base.keep b o (I.ok.bs b o e).1 (I.ok.bs b o e).2 (I.ok.Sv e) (I.ok.om b o e),I.base.free b o (I.ok.bs b o e).1 (I.ok.bs b o e).2 (I.ok.om b o e)⟩
variable{o:g'}{y3:List (Option V)}{z:List (b'×Obj)}
def Inv.bk(I:Inv c z y3 e o):=λb a d=>(I.bs b a d).1
def Inv.mod{X pins a H s}(I:Inv X pins a H s):=I.ok.mod
def Inv.eR(I:Inv c z y3 e o):=I.ok.mod.DO.keeps I.bk
def Inv.lt{X pins a H s}(I:Inv X pins a H s):=bD (I.loc) λ_ b _=>b.lt
def Inv.sz(I:Inv c z y3 e o):=B' I.ok.above (ñ I.lt)
theorem Inv.Sw(I:Inv c z y3 e o)(a:o.heap.objs.size<=h):h∉c.fs:=λd=>by
 obtain⟨_,b,f,_⟩:=I.ok.gA.mem d;exact absurd (U' (N' f) (B' I.sz a)) (by simp)
theorem Inv.Md(I:Inv c z y3 e o):∀x a,c.env.cells.lookup x=some a->a≠c.env.locals:=λx a b d=>by
 obtain⟨v,f,i,j⟩:=I.cell x a b;obtain⟨m,⟨k,l,n,g,h,_⟩,_⟩:=I.loc
 simp_all
theorem Inv.gA{X pins h H s}(I:Inv X pins h H s):s.heap.FunFrames X.base X.outer:=by
 have a:∀(l:List _),(∀b∈frs l,b∈X.fs)->X.s₀.heap.FunFrames X.base l->s.heap.FunFrames X.base l:=by
  intro l
  induction l with
  |nil=>intro _ _;trivial
  |cons i r j=>
   intro f k;obtain⟨m,⟨L,o,g,n,p,q⟩,t⟩:=k;have c:=f L (by unfold frs;simp_all)
   obtain⟨u,e⟩:=I.base.slot L o p (I.ok.x_ L c) c λz=>I.ok.oo L z c
   exact⟨m,⟨L,_,g,n,e,q⟩,j (λb d=>f b (by unfold frs;rw[ō,g];exact Ŏ _ d)) t⟩
 exact a _ (λ_ d=>d) I.ok.gA
theorem Inv.stack{X pins a H s}(I:Inv X pins a H s):s.heap.FunFrames X.base X.stack:=by
 rcases I.ok.DE with e|⟨e,b⟩
 .rw[e];exact I.gA
 .rw[e]
  refine bD I.loc λm c _=>?_
  refine .cons (by rw[I.ok.kind];decide) b c (Heap.get?_none_of_le (B' I.ok.um I.ok.above)) I.gA
theorem Inv.qf(I:Inv c z y3 e o):∀b∈frs c.stack,b∈c.env.locals::c.fs:=λb d=>by
 rcases I.ok.DE with a|⟨a,f⟩
 .simp_all
 .rw[a]at d
  unfold frs at d;rwa[ō,f]at d
theorem Inv.jx(I:Inv c z y3 e o):∀b∈frs c.stack,e b=none:=λb hb=>by
 rcases Õ.mp (I.qf b hb)with a|hb
 .rw[a];exact I.free
 .obtain⟨_,d,g,_⟩:=I.ok.gA.mem hb
  exact I.base.free b d g (I.ok.x_ b hb) λf=>I.ok.oo b f hb
theorem Inv.step{X pins R H D s y S t' Z}{ch:List b'}(I:Inv X pins R H s)(h:∀b∈ch,(b∈X.ex\/X.s₀.heap.objs.size<=b)/\b≠X.env.locals/\(∀x c,X.env.cells.lookup x=some c->c≠b)/\∀p∈X.pn++pins,p.1≠b)(keep:∀b o,b≠X.env.locals->b∉X.fs->b∉ch->s.heap.get? b=some o->H b=none->y.get? b=some o)(slot:∀b o,b≠X.env.locals->b∈X.fs->b∉ch->s.heap.get? b=some o->H b=none->∃P,y.get? b=some {o with slots:=P})(free:∀b o,b∉ch->s.heap.get? b=some o->H b=none->D b=none)(there:∀b o,b∉ch->s.heap.get? b=some o->∃G,y.get? b=some G)(tups:∀b xs,H b=some (.tup xs)->D b=some (.tup xs))(gy:∀b o u,H b=some (.dZ o u)->D b=some (.dZ o u))(iO:∀b L,H b=some (.Iy L)->∃more,D b=some (.Iy (L++more)))(ns:∀m,s.heap.Ns X.env.locals m->y.Ns X.env.locals m)(J:jw X.prog X.w D y)(hg:ć S):
  Inv X pins R D {s with heap:=y,gens:=S,drawn:=Z,toks:=t' }:=by
 have K:∀b o,X.s₀.heap.get? b=some o->b≠X.env.locals:=λb o e=>O' (U' (N' e) I.ok.above)
 have t:∀b o,X.s₀.heap.get? b=some o->b∉X.ex->b∉ch:=λb o e f B=>by
  rcases(h b B).1 with z|z
  .exact f z
  .exact absurd (U' (N' e) z) (Ò _)
 have j:∀x c,X.env.cells.lookup x=some c->∀v,s.heap.IsCell c v->y.IsCell c v:=λx c e v  zf =>bD zf λo A M=>by
  have a:c∉ch:=λz=>(h c z).2.2.1 x c e rfl
  rcases(I.dG x c e).1 with E|⟨F,N,O⟩
  .by_cases T:c∈X.fs
   .obtain⟨P,q⟩:=slot c o (I.Md x c e) T a A E
    exact⟨_,q,M⟩
   .exact⟨o,keep c o (I.Md x c e) T a A E,M⟩
  .have g:s.heap.get? c=some F:=(I.hok c _ O).1
   have C:y.get? c=some F:=(J c _ (gy c F N O)).1;rw[A]at g;cases g
   exact⟨o,C,M⟩
 refine⟨I.ok,I.os,hg,⟨λb o e n B f=>?_,λb o e n B f=>?_,λb o e n f=>?_,λb o e f=>?_,λb xs e=>tups b xs (I.base.tups b xs e),λb o xs e=>gy b o xs (I.base.gy b o xs e),λb L e=>?_⟩,?_,λx c e=>?_,?_,λx c e=>?_,λp U=>?_,J,I.len⟩
 .exact keep b o (K b o e) B (t b o e f) (I.base.keep b o e n B f) (I.base.free b o e n f)
 .obtain⟨P,g⟩:=I.base.slot b o e n B f
  obtain⟨Q,C⟩:=slot b _ (K b o e) B (t b o e f) g (I.base.free b o e n f);exact⟨Q,C⟩
 .obtain⟨G,g⟩:=I.base.there b o e f
  exact free b G (t b o e f) g (I.base.free b o e n f)
 .obtain⟨G,g⟩:=I.base.there b o e f
  exact there b G (t b o e f) g
 .obtain⟨m1,g⟩:=I.base.iO b L e
  obtain⟨m2,C⟩:=iO b _ g;exact⟨m1++m2,by rw[C,abU]⟩
 .refine bD I.loc λm E hl=>?_
  refine⟨m,ns m E,λi x v g C e3=>?_⟩
  obtain⟨u,r,l⟩:=hl i x v g C e3;refine⟨u,r,?_⟩;rcases l with l|⟨k,c,e,z⟩
  .exact .inl l
  .exact .inr ⟨k,c,e,j x c e _ z⟩
 .obtain⟨v,z⟩:=I.cell x c e
  exact⟨v,j x c e v z⟩
 .obtain⟨m,⟨o,_,_,A,_⟩,_⟩:=I.loc
  exact free _ o (λz=>(h _ z).2.1 rfl) A I.free
 .refine cW (I.cell x c e) λv o A M=>?_
  have a:c∉ch:=λz=>(h c z).2.2.1 x c e rfl
  refine⟨?_,λhf=>free c o a A ((I.dG x c e).2 hf)⟩
  rcases(I.dG x c e).1 with E|⟨F,N,O⟩
  .exact .inl (free c o a A E)
  .exact .inr ⟨F,N,gy c F N O⟩
 .refine fV (I.pin p U) λe n ne Y d=>?_
  have a:p.1∉ch:=λz=>(h p.1 z).2.2.2 p U rfl
  exact⟨keep p.1 p.2 ne Y a e n,free p.1 p.2 a e n,ne,Y,d⟩
theorem Inv.un{s}(I:Inv c z y3 e s)(u:Un c.fs [] e ξ s.heap B)(h:jw c.prog c.w ξ B):Inv c z y3 ξ {s with heap:=B,toks:=b}:=by
 obtain⟨m,⟨o,x,y,j,r⟩,_⟩:=id I.loc;obtain⟨A,k⟩:=u.any j I.free (by simp)
 exact I.step (ch:=[]) (λ_ f=>nomatch f) (λa o _ i _ d n=>u.keep a o d n i (by simp)) (λa o _ i _ d n=>u.slot a o d n i (by simp)) (λa o _ d n=>u.free a o d n (by simp)) (λa o _ d=>u.there a o d (by simp)) u.tups u.gy u.iO (λC l=>by
  refine ew l λD p q g t=>?_
  rw[j]at g;cases g
  exact⟨_,_,_,k,t⟩) h I.bare
variable{N5:Drawn}{P5:Array Ū}
theorem Inv.call{s}(I:Inv c z y3 e s)(d:Un (frs c.stack) u e ξ s.heap B)(l:jw c.prog c.w ξ B)(y:ć P5)(j:∀a∈u,(a∈c.ex\/c.s₀.heap.objs.size<=a)/\a≠c.env.locals/\(∀x h,c.env.cells.lookup x=some h->h≠a)/\∀p∈c.pn++z,p.1≠a):
  Inv c z y3 ξ {s with heap:=B,gens:=P5,drawn:=N5,toks:=b}:=by
 obtain⟨m,⟨o,G,H,t,r⟩,_⟩:=id I.loc;obtain⟨J,q⟩:=d.any t I.free λg=>(j _ g).2.1 rfl
 exact I.step j (λa o q A i f n=>d.keep a o f n (λg=>(Õ.mp (I.qf a g)).elim q A) i) (λa o _ _ i f n=>d.any f n i) (λa o i f n=>d.free a o f n i) (λa o i f=>d.there a o f i) d.tups d.gy d.iO (λK C=>by
  refine ew C λL D E k F=>?_
  rw[t]at k;cases k
  exact⟨_,_,_,q,F⟩) l y
theorem Inv.turned{s}(I:Inv c z y3 e s)(k:∀a o,a≠h->s.heap.get? a=some o->B.get? a=some o)(G:e h=none)(j:h≠c.env.locals)(l:h∈c.ex\/c.s₀.heap.objs.size<=h)(t:∀x f,c.env.cells.lookup x=some f->f≠h)(w:∀p∈c.pn++z,p.1≠h):Inv c z y3 e {s with heap:=B,toks:=b}:=by
 have y:∀a u,e a=some u->a≠h:=λa u d g=>by simp_all
 refine I.step (ch:=[h]) (λa A=>?_) (λa o _ _ i d _=>k a o (λg=>i (by simp[g])) d) (λa o _ _ i d _=>⟨_,k a o (λg=>i (by simp[g])) d⟩) (λ_ _ _ _ n=>n)
  (λa o i d=>⟨o,by simp_all⟩) (λ_ _ d=>d) (λ_ _ _ d=>d) (λa H d=>⟨#[],by simp_all⟩) (λm C=>?_) (λa u d=>?_) I.bare
 .have d:=by simpa using A
  subst d;exact⟨l,j,t,w⟩
 .refine ew C λo D E F r=>⟨o,D,E,k _ o (Ê j) F,r⟩
 .refine(I.hok a u d).stay (λf v i q=>k f v ?_ q) (λ_ q=>q) λ_ _ q=>q
  grind
theorem Inv.tok{s}(I:Inv c z y3 e s)(t):Inv c z y3 e {s with toks:=t}:=I.un (Un.kept λ_ _ q=>q) I.hok
theorem Inv.kept{X pins a H s c t'}(I:Inv X pins a H s)(k:∀b u,s.heap.get? b=some u->c.get? b=some u):Inv X pins a H {s with heap:=c,toks:=t' }:=I.un (Un.kept k) (I.hok.kept k)
theorem Inv.laid{X pins f H s c}{a:b'}{o t'}(I:Inv X pins f H s)(k:∀b u,s.heap.get? b=some u->c.get? b=some u)(d:s.heap.objs.size<=a)(e:dE X.prog X.w (upd H a o) c a o):
  Inv X pins f (upd H a o) {s with heap:=c,toks:=t' }:=I.un (Un.laid k d (I.hok.fresh d)) (I.hok.laid k d e)
theorem Inv.write{X pins g H s a x e o t'}(I:Inv X pins g H s)(h:Po (H x))(j:e=x\/H e=some (.own x))(k:∀b u,b≠e->s.heap.get? b=some u->a.get? b=some u)(c:∃u,a.get? e=some u)(d:dE X.prog X.w (upd H x o) a x o):Inv X pins g (upd H x o) {s with heap:=a,toks:=t' }:=I.un (by
    have l:∀b,H b=none->b≠x:=λb n z=>by subst z;rwa[n]at h
    have i:∀b,H b=none->b≠e:=λb n z=>by
     grind
    have f:∀b u,H b=some u->¬ Po (some u)->b≠x:=λb u q p z=>by simp_all
    refine⟨λb u q n _ _=>k b u (i b n) q,λb u q n _ _=>⟨_,k b u (i b n) q⟩,λb u q n _=>by rwa[az (l b n)],λb u q _=>?_,
     λb m q=>by rwa[az (f b _ q λz=>z)],λb u m q=>by rwa[az (f b _ q λz=>z)],λb r q=>⟨#[],by rw[az (f b _ q λz=>z),q];simp⟩⟩
    grind) (I.hok.write h j k c d)
theorem Inv.weak{a}(I:Inv c z y3 e o)(d:a.length=y3.length)(w:∀(i:Nat) v,a[i]?=some (some v)->y3[i]?=some (some v)):Inv c z a e o:=
 ⟨I.ok,I.os,I.bare,I.base,let ⟨m,f,b⟩:=I.loc;⟨m,f,λi x v g h j=>b i x v g (w i v h) j⟩,I.cell,I.free,I.dG,I.pin,I.hok,d.trans I.len⟩
theorem Inv.vV{a}(I:Inv c z y3 e o)(h:∀p∈a,o.heap.get? p.1=some p.2/\e p.1=none/\p.1≠c.env.locals/\p.1∉c.fs/\∀v,p.2.data≠.cell v):Inv c a y3 e o:=
 ⟨I.ok,I.os,I.bare,I.base,I.loc,I.cell,I.free,I.dG,λp d=>(æ.mp d).elim (λb=>I.pin p (List.mem_append_left _ b)) (h p),I.hok,I.len⟩
variable{d:Str}{g:List Str}
theorem rW(e:g.Nodup)(a:g[b]?=some d)(c:g[s]?=some d):b=s:=by
 obtain⟨i,f⟩:=Ç.mp a;obtain⟨j,h⟩:=Ç.mp c;exact(List.getElem_inj e).mp (f.trans h.symm)
variable{J:Ï}{M:f'}{N2:Unit->g'->Prop}{R:f'->g'->Prop}{j5:Model}{x:V}
theorem oP{pins s}(I:Inv c pins y3 e s)(hN:c.N.Nodup)(O:c.N[b]?=some d)(A:Loc c.env.scope d)(r:RelV x M)(h:∀T,Inv c pins (y3.set b (some x)) e T->(∃a,Ķ a s.heap T.heap/\(a=c.env.locals\/c.env.cells.lookup d=some a))->N2 () T)(hf:c.fn d=true\/c.env.scope.names.lookup d=some .local:=by first|exact .inl rfl|exact .inr rfl|assumption):p' j5 J (storeName c.env d M) N2 R s:=by
 obtain⟨m,U,hl⟩:=id I.loc;have F:b<y3.length:=by rw[I.len];exact(Ç.mp O).1
 have G:=I.Md
 have t:∀{a:b'}{L:D'},(∃o,s.heap.get? a=some o/\e a=none)->Ķ a s.heap L->jw c.prog c.w e L:=λ{a L} ha l g ob f=>by
  obtain⟨_,_,V⟩:=ha;refine(I.hok g ob f).stay (λi X B q=>(l.2 i ?_).trans q) (λ_ q=>q) λ_ _ q=>q
  grind
 rcases A with hk|hk
 .refine wpAny_storeName_local hk U (λL Y l=>?_) (by rw[I.ok.kind];rfl)
  obtain⟨oL,_,_,Z,_⟩:=id U;refine h _ ⟨I.ok,I.os,I.bare,⟨λg o f n H A=>?_,λg o f n H A=>?_,I.base.free,λg o f A=>?_,I.base.tups,I.base.gy,I.base.iO⟩,⟨_,Y,λj y v' u D e3=>?_⟩,λy i f=>?_,I.free,I.dG,λp hp=>?_,t ⟨oL,Z,I.free⟩ l,by simpa using I.len⟩ ⟨_,l,.inl rfl⟩
  .exact(l.2 g (O' (U' (N' f) I.ok.above))).trans (I.base.keep g o f n H A)
  .obtain⟨sl,u⟩:=I.base.slot g o f n H A
   exact⟨sl,(l.2 g (O' (U' (N' f) I.ok.above))).trans u⟩
  .obtain⟨o',u⟩:=I.base.there g o f A
   exact⟨o',(l.2 g (O' (U' (N' f) I.ok.above))).trans u⟩
  .by_cases K:j=b
   .subst K
    rw[O]at u;cases u
    rw[ū F]at D;cases D;exact⟨M,r,.inl ⟨hk,by simp⟩⟩
   .rw[ķ (Ê K)]at D
    obtain⟨u',r',q⟩:=hl j y v' u D e3;refine⟨u',r',?_⟩;rcases q with ⟨k,f⟩|⟨k,i,f,z⟩
    .refine .inl ⟨k,?_⟩
     have:y≠d:=λf=>K (rW hN u (f▸O))
     simp[this,f]
    .exact .inr ⟨k,i,f,z.sameBut l (G y i f)⟩
  .obtain⟨X,z⟩:=I.cell y i f
   exact⟨X,z.sameBut l (G y i f)⟩
  .refine fV (I.pin p hp) λf n ne nf C=>?_
   exact⟨(l.2 p.1 ne).trans f,n,ne,nf,C⟩
 .have E:c.fn d=true:=by
   rcases hf with z|z
   .exact z
   .rw[z]at hk;cases hk
  obtain⟨i,B⟩:=I.ok.has d (.inl hk);obtain⟨X,z⟩:=I.cell d i B;refine wpAny_storeName_cell I.ok.kind hk B z (λL P l=>?_)
  refine bD (id z) λoc a0 b0=>?_
  refine h {s with heap:=L} ⟨I.ok,I.os,I.bare,⟨λg o f n H A=>?_,λg o f n H A=>?_,I.base.free,λg o f A=>?_,I.base.tups,I.base.gy,I.base.iO⟩,⟨m,U.sameBut l (Ê (G d i B)),λj y v' u D e3=>?_⟩,λy S f=>?_,I.free,I.dG,λp hp=>?_,t ⟨oc,a0,(I.dG d i B).2 E⟩ l,by simpa using I.len⟩ ⟨i,l,.inr B⟩
  .exact(l.2 g (O' (U' (N' f) (I.ok.cab d i E B)))).trans (I.base.keep g o f n H A)
  .obtain⟨sl,u⟩:=I.base.slot g o f n H A
   exact⟨sl,(l.2 g (O' (U' (N' f) (I.ok.cab d i E B)))).trans u⟩
  .obtain⟨o',u⟩:=I.base.there g o f A
   exact⟨o',(l.2 g (O' (U' (N' f) (I.ok.cab d i E B)))).trans u⟩
  .by_cases K:j=b
   .subst K
    rw[O]at u;cases u
    rw[ū F]at D;cases D;exact⟨M,r,.inr ⟨.inl hk,i,B,P⟩⟩
   .rw[ķ (Ê K)]at D
    obtain⟨u',r',q⟩:=hl j y v' u D e3;refine⟨u',r',?_⟩;rcases q with q|⟨k,S,f,z'⟩
    .exact .inl q
    .refine .inr ⟨k,S,f,z'.sameBut l ?_⟩
     rintro rfl;exact K (rW hN u (I.ok.inj _ _ _ f B▸O))
  .by_cases Q:S=i
   .subst Q;exact⟨_,P⟩
   .obtain⟨w2,z2⟩:=I.cell y S f
    exact⟨w2,z2.sameBut l Q⟩
  .refine fV (I.pin p hp) λf n ne nf C=>?_
   refine⟨(l.2 p.1 ?_).trans f,n,ne,nf,C⟩
   grind
theorem mL(I:Inv c z y3 e o)(f:c.N.Nodup)(g:c.N[b]?=some d)(i:Loc c.env.scope d)(r:RelV x M)(h:∀a,Inv c z (y3.set b (some x)) e a->N2 () a)(j:c.fn d=true\/c.env.scope.names.lookup d=some .local:=by first|exact .inl rfl|exact .inr rfl|assumption):p' j5 J (storeName c.env d M) N2 R o:=
 oP I f g i r (λa k _=>h a k) j
variable{d7:g'}
theorem Inv.call'(I:Inv c z y3 e o)(h:d7.os=o.os)(d:Un (frs c.stack) u e ξ o.heap d7.heap)(f:jw c.prog c.w ξ d7.heap)(i:ć d7.gens)(g:∀b∈u,(b∈c.ex\/c.s₀.heap.objs.size<=b)/\b≠c.env.locals/\(∀x a,c.env.cells.lookup x=some a->a≠b)/\∀p∈c.pn++z,p.1≠b):Inv c z y3 ξ d7:=by
 obtain⟨j,k,l,m,n⟩:=d7;subst h;exact I.call d f i g
abbrev XK:=f'->Option b'->Hp->Prop
abbrev St:=List (Option V)
abbrev VK:=V->Hp->Prop
abbrev TE:=St->Hp->VK->Prop
abbrev TT:=St->Hp->(Bool->Hp->Prop)->Prop
abbrev TA:=St->Hp->(List V->Hp->Prop)->Prop
structure Ends where
 nx:St->Hp->Prop
 rt:VK
 bk:St->Hp->Prop:=λ_ _=>False
 ct:St->Hp->Prop:=λ_ _=>False
abbrev TS:=Ends->St->Hp->Prop
def EP(X)(pins:List (b'×Obj))(b:St)(Q:VK)(u c):=∃v a,Inv X pins b a c/\RelV v u/\Q v a
def TP(X)(pins:List (b'×Obj))(c:St)(Q:Bool->Hp->Prop)(b d):=∃a,Inv X pins c a d/\Q b a
def AP(X)(pins:List (b'×Obj))(c:St)(Q:List V->Hp->Prop)(d:List f')(e):=∃a b,Inv X pins c b e/\Vals a d/\Q a b
def SP(X)(pins:List (b'×Obj))(D:Ends)(f:ŏ)(c:g'):=
 match f with
 |.next=>∃a b,Inv X pins a b c/\D.nx a b
 |.brk=>∃a b,Inv X pins a b c/\D.bk a b
 |.cont=>∃a b,Inv X pins a b c/\D.ct a b
 |.ret u=>∃v a b,Inv X pins a b c/\RelV v u/\D.rt v b
def PE(X e)(t:TE):=
 ∀pins s (a:St) H Q,Inv X pins a H s->t a H Q->p' (k9 X.prog X.w) X.A (eval e X.env) (EP X pins a Q) X.xe s
def PT(X e)(t:TT):=
 ∀pins s (a:St) H Q,Inv X pins a H s->t a H Q->p' (k9 X.prog X.w) X.A (Ő e X.env (eval e X.env)) (TP X pins a Q) X.xe s
def PW(X e)(t:TT):=
 ∀a pins s (b:St) H Q,Inv X pins b H s->t b H Q->p' (k9 X.prog X.w) X.A (Ő e X.env a) (TP X pins b Q) X.xe s
variable{E3:TT}{j:x'}
theorem PW.pt(h:PW c j E3):PT c j E3:=h _
def PA(X)(c:List x')(t:TA):=
 ∀a pins s (b:St) H Q,Inv X pins b H s->t b H Q->p' (k9 X.prog X.w) X.A (spliced (Æ a (F' c X.env))) (AP X pins b Q) X.xe s
def PS(X st)(t:TS):=
 ∀pins s (a:St) H D,Inv X pins a H s->t D a H->p' (k9 X.prog X.w) X.A (exec st X.env) (SP X pins D) X.xe s
def gS(X)(st:List K')(t:TS):=
 ∀pins s (a:St) H D,Inv X pins a H s->t D a H->p' (k9 X.prog X.w) X.A (ĸ st X.env) (SP X pins D) X.xe s
theorem bZ{b}{t:ï b}{Q c}(h:p' j5 J t Q R o)(d:∀a o,Q a o->c a o):p' j5 J t c R o:=â h d λ_ _ x=>x
noncomputable def Sx(i:Nat):TE:=λa H Q=>∃v,a[i]?=some (some v)/\Q v H
noncomputable def tC(v:V):TE:=λ_ H Q=>Q v H
variable{l:T'}
theorem g_(o:c.N[b]?=some d)(p:rV c.env.scope d)(i:(d==("__debug__"))=false:=by decide)(j:(d==("__classdict__"))=false:=by decide):PE c (.Name d l) (Sx b):=by
 intro pins s q H Q I h;obtain⟨v,e,h⟩:=h;refine bD I.loc λm t w=>?_
 obtain⟨u,r,g⟩:=w b d v o e p;have f:EP c _ q Q u s:=⟨v,H,I,r,h⟩;rcases g with ⟨hk,x⟩|⟨hk,k,n,a⟩
 .exact aaB (wpAny_loadName_local I.ok.kind hk t x f) i
 .rcases hk with hk|hk
  .exact aaB (wpAny_loadName_cell I.ok.kind hk n a f) i
  .exact aaB (wpAny_loadName_free I.ok.kind hk n a f j) i
theorem zI{i j pos}:PE c (.Constant (.int i) j pos) (tC (.int i)):=λ_ _ _ H _ I h=>wpAny_Constant_int ⟨.int i,H,I.tok _,⟨_,rfl⟩,h⟩
theorem Me{b j pos}:PE c (.Constant (.bool b) j pos) (tC (.bl b)):=λ_ _ _ H _ I h=>Constant_bool ⟨.bl b,H,I,rfl,h⟩
theorem ID{j pos}:PE c (.Constant .none j pos) (tC .non):=λ_ _ _ H _ I h=>abV ⟨.non,H,I,rfl,h⟩
theorem IE{x j pos}:PE c (.Constant (.str x) j pos) (tC (.str x)):=λ_ _ _ H _ I h=>Calls.Constant_str ⟨.str x,H,I.tok _,⟨_,rfl⟩,h⟩
def Gl(X:Cx)(x):=X.env.kindOf x=some .globalImplicit
variable{C1:f'->g'->Prop}{S:St}
theorem eB(I:Inv c z S e o)(a:Gl c d)(b:c.mg d=some M)(h:C1 M o)(f:(d==("__debug__"))=false:=by decide):p' (k9 c.prog c.w) c.A (eval (.Name d l) c.env) C1 R o:=
 abW I.ok.kind a (Calls.loadGlobal_global (by rw[I.ok.glob];exact I.mod.glob.keeps I.bk) b h) f
theorem fj(I:Inv c z S e o)(a:Gl c d)(b:c.mg d=none)(f:Č d=some M)(h:C1 M o)(g:d≠"__name__":=by decide)(i:(d==("__debug__"))=false:=by decide):p' (k9 c.prog c.w) c.A (eval (.Name d l) c.env) C1 R o:=by
 obtain⟨m,j,k⟩:=I.mod.blt;exact abW I.ok.kind a (Calls.loadGlobal_builtin (by rw[I.ok.glob];exact I.mod.glob.keeps I.bk) b (by rw[I.ok.blt];exact j.keeps I.bk) ((k d g).trans f) h) i
theorem DQ(a:Gl c d)(b:c.mg d=some M)(r:RelV x M)(e:(d==("__debug__"))=false:=by decide):PE c (.Name d l) (tC x):=
 λ_ _ _ H _ I h=>eB I a b ⟨x,H,I,r,h⟩ e
theorem DR(a:Gl c d)(b:c.mg d=none)(e:Č d=some M)(r:RelV x M)(f:d≠"__name__":=by decide)(g:(d==("__debug__"))=false:=by decide):PE c (.Name d l) (tC x):=
 λ_ _ _ H _ I h=>fj I a b e ⟨x,H,I,r,h⟩ f g
noncomputable def tB(t:TE):TT:=λa H Q=>t a H λx b=>∃c,x=.bl c/\Q c b
variable{π:TE}
theorem uo(h:PE c j π)(b:∀a,Ő j c.env a=(do let v ←a;þ j.pos;ÿ [v] (Ŭ v)):=by intro _;rfl):PT c j (tB π):=by
 intro pins s e H Q I f;refine isTrue_plain (bZ (h pins s e H _ I f) λv i ⟨x,H1,I1,g,q1⟩=>?_) (b _)
 obtain⟨d,rfl,q⟩:=q1;cases g;exact Ħ ⟨H1,I1,q⟩
noncomputable def Sy(t u:TT):TT:=λa H Q=>t a H λc b=>if c=true then u a b Q else Q false b
noncomputable def Sz(t u:TT):TT:=λa H Q=>t a H λc b=>if c=true then Q true b else u a b Q
noncomputable def zJ(t:TT):TT:=λa H Q=>t a H λc b=>Q (!c) b
theorem pw_or1(b:PT c j E3):PW c (.BoolOp .Or [j] l) E3:=by
 intro f pins s d H Q I h;refine aaC (bZ (b _ s d H Q I h) λa g e=>?_)
 cases a with
 |false=>exact abX e
 |true=>exact e
variable{I:List x'}{O:x'}{W6:TT}
theorem pw_and(i:PT c j E3)(k:PW c (.BoolOp .And (O::I) l) W6):PW c (.BoolOp .And (j::O::I) l) (Sy E3 W6):=by
 intro m pins s d H Q a h;refine isTrue_and (bZ (i _ s d H _ a h) λb n  o =>bD o λe f g=>?_)
 cases b with
 |true=>exact k m _ n d e Q f g
 |false=>exact⟨e,f,g⟩
theorem pw_or(i:PT c j E3)(k:PW c (.BoolOp .Or (O::I) l) W6):PW c (.BoolOp .Or (j::O::I) l) (Sz E3 W6):=by
 intro m pins s d H Q a h;refine aaC (bZ (i _ s d H _ a h) λb n  o =>bD o λe f g=>?_)
 cases b with
 |true=>exact⟨e,f,g⟩
 |false=>exact k m _ n d e Q f g
theorem zK(a:PT c j E3):PT c (.UnaryOp .Not j l) (zJ E3):=by
 intro pins s b H Q I h;exact isTrue_not (a _ s b H _ I h)
theorem IF{op}(h:PE c j π):PE c (.BoolOp op [j] l) π:=λpins s a H Q I b=>BoolOp_one (h _ s a H Q I b)
noncomputable def LI(t:TT)(d tb:TE):TE:=λa H Q=>t a H λc b=>if c=true then d a b Q else tb a b Q
variable{Q2:TE}{y2:x'}
theorem zL(i:PT c y2 E3)(k:PE c j π)(m:PE c O Q2):PE c (.IfExp y2 j O l) (LI E3 π Q2):=by
 intro pins s a H Q I h;refine wpAny_IfExp (bZ (i _ s a H _ I h) λd b n=>?_);obtain⟨e,f,g⟩:=n
 cases d with
 |true=>exact k _ b a e Q f g
 |false=>exact m _ b a e Q f g
def lP(K:M')(H a)(xs:List V):=
 Rd H a (.lst xs) \/
  ∃o b n,K.lookup a=some o/\o.cls=.type "list"/\o.dict=none/\o.data=.seq b n/\b.size<=Y'/\Vals xs b.toList
def uq(K:M')(H a)(xs:List V):=
 Rd H a (.tup xs) \/
  ∃o b n,K.lookup a=some o/\o.cls=.type "tuple"/\o.data=.seq b n/\b.size<=Y'/\Vals xs b.toList
noncomputable def SA:f'->Option V
 |.none=>some .non
 |.bool b=>some (.bl b)
 |.int i _=>some (.int i)
 |.str x _=>some (.str x)
 |.bytes b _=>some (.LH b)
 |.float b _=>some (.flt b)
 |.ref a=>some (.ref a)
 |.type n=>some (.ty n)
 |_=>none
theorem RelV.abs(r:RelV x M):SA M=some x:=by
 cases x with
 |non=>cases r;rfl
 |bl _=>cases r;rfl
 |int _=>obtain⟨t,rfl⟩:=r;rfl
 |str _=>obtain⟨t,rfl⟩:=r;rfl
 |LH _=>obtain⟨t,rfl⟩:=r;rfl
 |flt _=>obtain⟨t,rfl⟩:=r;rfl
 |ref _=>cases r;rfl
 |ty _=>cases r;rfl
def RelV.inj{x y u}(r:RelV x u)(q:RelV y u):=aaD (r.abs.symm.trans q.abs)
theorem Vals.inj:∀{xs a}{b},Vals xs b->Vals a b->xs=a
 |_,_,_,.nil,.nil=>rfl
 |_,_,_,.cons r t,.cons c d=>by rw[r.inj c,Vals.inj t d]
variable{N:List V}
theorem Inv.list(I:Inv c z S e o)(a:lP c.K e h N):∃b,Vals N b/\PlainL o.heap h b.toArray/\N.length<=Y':=by
 rcases a with a|⟨d,b,n,j,k,l,m,p,r⟩
 .refine xa (a.ok I.hok) λg i=>cW i λb n r f=>⟨_,r,⟨_,n,f,rfl,rfl,rfl⟩,g⟩
 .refine⟨_,r,⟨d,n,I.eR h d j,k,l,by omega⟩,?_⟩
  have f:=r.length
  simp_all
theorem Inv.tuple(I:Inv c z S e o)(a:uq c.K e h N):∃b,Vals N b/\Ĵ o.heap h b.toArray/\N.length<=Y':=by
 rcases a with a|⟨d,b,n,i,j,k,l,r⟩
 .obtain⟨f,b,r,p⟩:=a.ok I.hok
  exact⟨_,r,p,f⟩
 .refine⟨_,r,⟨d,I.eR h d i,j,n,by omega⟩,?_⟩
  have g:=r.length
  simp_all
variable{W4:List V}
theorem Inv.rX(I:Inv c z S e o)(a:lP c.K e h N)(j:lP c.K e h W4):N=W4:=by
 obtain⟨f,r,⟨g,n,i,_,_,d⟩,_⟩:=I.list a;obtain⟨b,k,⟨l,m,p,_,_,q⟩,_⟩:=I.list j;have:f=b:=by simp_all
 subst this;exact r.inj k
theorem Inv.ya(I:Inv c z S e o)(a:uq c.K e h N)(j:uq c.K e h W4):N=W4:=by
 obtain⟨f,r,⟨g,i,_,n,d⟩,_⟩:=I.tuple a;obtain⟨b,k,⟨l,m,_,p,q⟩,_⟩:=I.tuple j;have:f=b:=by simp_all
 subst this;exact r.inj k
abbrev Cx.wish(X:Cx)(E:f'->g'->Prop):={X with xe:=E}
abbrev Cx.k_(X:Cx):=X.wish λ_ _=>False
theorem Cx.Ok.wish{X:Cx}(ok:X.Ok)(E):(X.wish E).Ok:=
 ⟨ok.mod,ok.kind,ok.glob,ok.blt,ok.above,ok.inj,ok.has,ok.cab,ok.hd,ok.frames,ok.DE,ok.DP,ok.bs,ok.um,ok.om,ok.oo,ok.gA,ok.x_⟩
theorem Cx.Ok.dR(ok:(c.wish R).Ok):c.Ok:=
 ⟨ok.mod,ok.kind,ok.glob,ok.blt,ok.above,ok.inj,ok.has,ok.cab,ok.hd,ok.frames,ok.DE,ok.DP,ok.bs,ok.um,ok.om,ok.oo,ok.gA,ok.x_⟩
theorem Inv.wish{X pins}{a:St}{H s}(I:Inv X pins a H s)(E):Inv (X.wish E) pins a H s:=⟨I.ok.wish E,I.os,I.bare,I.base,I.loc,I.cell,I.free,I.dG,I.pin,I.hok,I.len⟩
theorem Inv.dR{X pins}{a:St}{H s E}(I:Inv (X.wish E) pins a H s):Inv X pins a H s:=⟨I.ok.dR,I.os,I.bare,I.base,I.loc,I.cell,I.free,I.dG,I.pin,I.hok,I.len⟩
theorem SP.dR{X pins E D f c}(h:SP (X.wish E) pins D f c):SP X pins D f c:=by
 cases f with
 |next=>obtain⟨a,b,I,q⟩:=h;exact⟨_,b,I.dR,q⟩
 |brk=>obtain⟨a,b,I,q⟩:=h;exact⟨_,b,I.dR,q⟩
 |cont=>obtain⟨a,b,I,q⟩:=h;exact⟨_,b,I.dR,q⟩
 |ret u=>refine cg h λv a b I r q=>⟨v,_,b,I.dR,r,q⟩
theorem gS.k_{X st t}(h:gS X.k_ st t):gS X st t:=λpins s a H D I b=>
 â (h _ s a H D (I.wish _) b) (λ_ _ q=>q.dR) (by simp)
noncomputable def rY:TS:=λD a H=>D.nx a H
noncomputable def DS(t u:TS):TS:=λD a H=>t {D with nx:=u D} a H
theorem vW:gS c [] rY:=λ_ _ a H _ I h=>Ĝ ⟨a,H,I,h⟩
variable{N1:List K'}{Y5 i8:TS}{Θ:K'}
theorem jy(a:PS c Θ Y5)(b:gS c N1 i8):gS c (Θ::N1) (DS Y5 i8):=by
 intro pins s d H D I h;refine ϝ (bZ (a _ s d H _ I h) λf e q=>?_)
 cases f with
 |next=>
  refine cW q λg i j q=>b _ e _ i D j q
 |ret v=>exact q
 |brk=>exact q
 |cont=>exact q
theorem qh(a:PS c Θ Y5):gS c [Θ] Y5:=by
 intro pins s b H D I h;refine ϝ (bZ (a _ s b H D I h) λf d q=>?_)
 cases f with
 |next=>exact Ĝ q
 |ret v=>exact q
 |brk=>exact q
 |cont=>exact q
theorem Inv.quiet(I:Inv c z S e o):interactive c.env=false:=by simp[interactive,I.ok.kind]
noncomputable def Hu(b:TE):TS:=λD a H=>b a H λ_ c=>D.nx a c
theorem qj(b:PE c j π)(d:ò j none l.line c.env=pure false:=by rfl):PS c (.Expr j l) (Hu π):=by
 intro pins s a H D I h;exact abY (bZ (b _ s a H _ I h) λv k  e =>aJ e λx f g m i=>⟨a,f,g,i⟩) I.quiet d
noncomputable def zM(c:TT)(t u:TS):TS:=λD a H=>c a H λb d=>if b=true then t D a d else u D a d
variable{o6:List K'}
theorem vX(i:PT c j E3)(k:gS c N1 Y5)(m:gS c o6 i8):PS c (.If j N1 o6 l) (zM E3 Y5 i8):=by
 intro pins s a H D I h;refine wpAny_If (bZ (i _ s a H _ I h) λd b n=>?_);obtain⟨e,f,g⟩:=n
 cases d with
 |true=>exact k _ b a e D f g
 |false=>exact m _ b a e D f g
noncomputable def mM:TS:=λ_ _ _=>False
theorem oQ:gS c N1 mM:=λ_ _ _ _ _ _ h=>h.elim
abbrev TG:=V->St->Hp->(St->Hp->Prop)->Prop
abbrev Hv:=List V->St->Hp->(St->Hp->Prop)->Prop
def PG(X a)(t:TG):=
 ∀pins s (c:St) H v u Q,Inv X pins c H s->RelV v u->t v c H Q ->
  p' (k9 X.prog X.w) X.A (Ϟ a X.env u) (λ_ e=>∃b d,Inv X pins b d e/\Q b d) X.xe s
def Mf(X)(f:List x')(t:Hv):=
 ∀pins s (b:St) H c d Q,Inv X pins b H s->Vals c d->t c b H Q ->
  p' (k9 X.prog X.w) X.A (assignInOrder ((č f X.env).map (·.2)) d) (λ_ g=>∃a e,Inv X pins a e g/\Q a e) X.xe s
noncomputable def iU(i:Nat):TG:=λv a H Q=>Q (a.set i (some v)) H
theorem iz(a:c.N.Nodup)(e:c.N[b]?=some d)(f:Loc c.env.scope d)(g:c.fn d=true\/c.env.scope.names.lookup d=some .local:=by first|exact .inl rfl|exact .inr rfl|assumption):PG c (.Name d l) (iU b):=by
 intro pins s j H v u Q I r h;exact abZ (mL I a e f r (λk i=>⟨_,H,i,h⟩) g)
noncomputable def Mh:Hv:=λa b H Q=>a=[]/\Q b H
noncomputable def Hw(t:TG)(u:Hv):Hv:=λb c H Q=>∃v r,b=v::r/\t v c H λa d=>u r a d Q
theorem vY:Mf c [] Mh:=by
 intro pins s a H b d Q I r h;obtain⟨e,h⟩:=h;exact assignInOrder_nil ⟨a,H,I,h⟩
variable{u5:TG}
theorem mO{u}(b:PG c j u5)(d:Mf c I u)(e:(č (j::I) c.env).map (·.2)=Ϟ j c.env::(č I c.env).map (·.2):=by rfl):Mf c (j::I) (Hw u5 u):=by
 intro pins s f H p q Q a r h;obtain⟨v,vr,g,h⟩:=h;subst g;cases r with
 |cons r i=>
  rw[e];refine assignInOrder_cons (bZ (b _ s f H _ _ _ a r h) λ_ k  l =>cW l λ_ m n o=>d _ k _ m _ _ Q n i o)
noncomputable def ur(K:M')(n:Nat)(t:Hv):TG:=λv c H Q=>∃a b,v=.ref a/\uq K H a b/\b.length=n/\t b c H Q
theorem zN{t}(k:c.calm=true)(h:Mf c I t)(m:(č I c.env).length=s:=by rfl)(g:(č I c.env).findIdx? (·.1)=none:=by rfl):PG c (.Tuple I b l) (ur c.K s t):=by
 intro pins j n H v u Q d r i;obtain⟨a,p,q,w,x,i⟩:=i;subst q;cases r;refine br (d.tuple w) λy z A C=>?_
 refine assign_Tuple_tuple (d.ok.hd k) A (by simp[m,←x,z.length]) g λD B=>?_
 exact h _ _ n H p _ Q (d.kept λf o e=>B f o (O' (N' e)) e) (by omega) i
noncomputable def IG(b:TE)(g:TG):TS:=λD a H=>b a H λx c=>g x a c D.nx
theorem IH(b:PE c O π)(d:PG c j u5)(e:swapsWithSole [j] O l.line c.env=pure false:=by rfl)(f:swappedStores [j] O c.env=pure none:=by rfl)(g:(č [j] c.env).map (·.2)=[Ϟ j c.env]:=by rfl):PS c (.Assign [j] O l) (IG π u5):=by
 intro pins s a H D I h;refine wpAny_Assign_stores (bZ (b _ s a H _ I h) λv i k=>?_) e f;refine aJ k λx m n o p=>?_
 rw[g];exact bZ (d _ i a m x v _ n o p) λ_ r q=>q
variable{H:T'}
theorem zO(e:c.N.Nodup)(f:c.N[b]?=some d)(g:Loc c.env.scope d)(i:PE c j π)(k:ò j (some (.Name d H)) l.line c.env=pure false:=by rfl)(m:c.fn d=true\/c.env.scope.names.lookup d=some .local:=by first|exact .inl rfl|exact .inr rfl|assumption):
  PS c (.Assign [.Name d H] j l) (IG π (iU b)):=by
 intro pins s n a D I h;refine wpAny_Assign_Name (bZ (i _ s n a _ I h) λv w  o =>aJ o λy p q r t=>mL q e f g r (λx u=>⟨_,p,u,t⟩) m) k
noncomputable def II(c:TT)(tb:TS):TS:=λD a H=>∃W:Nat->St->Hp->Prop,(∃m,W m a H)/\∀m a H,W m a H ->
 c a H λb e=>if b=true then ∃N,(∀d f,N d f->∃g,g<m/\W g d f)/\tb {D with nx:=N,ct:=N,bk:=D.nx} a e else D.nx a e
theorem zP(t:ŭ (k9 c.prog c.w) c.A c.env c.xe)(C:PT c j E3)(E:gS c N1 Y5):PS c (.While j N1 [] l) (II E3 Y5):=by
 intro pins s F H D I h;obtain⟨W,⟨G,J⟩,a⟩:=h;refine wpAny_While (codeAny_whileLoop (λn K=>∃d u,Inv c _ d u K/\W n d u) ?_ G ⟨F,H,I,J⟩)
 rintro n L ⟨M,x,O,P⟩;refine Ĺ t (bZ (C _ L _ x _ O (a n _ x P)) λb Q R=>?_);refine bD R λy z g=>?_
 cases b with
 |true=>
  refine bD g λN B g=>?_
  refine Ĺ t (bZ (E _ Q _ y _ z g) λf S i=>?_)
  cases f with
  |next=>
   obtain⟨k,e,m,o⟩:=i;obtain⟨p,q,r⟩:=B _ e o;exact⟨p,q,_,e,m,r⟩
  |cont=>
   obtain⟨k,e,m,o⟩:=i;obtain⟨p,q,r⟩:=B _ e o;exact⟨p,q,_,e,m,r⟩
  |brk=>exact i
  |ret v=>exact i
 |false=>
  exact Ĝ ⟨_,y,z,g⟩
structure It where
 go:Nat->Hp->Prop
 Pp:Nat->Hp->V->Hp->Prop
 stop:Nat->Hp->Prop
def mP(X:Cx)(pins:List (b'×Obj))(H:Hp)(b):=
 H b=none/\b≠X.env.locals/\b∉X.fs/\(b∈X.ex\/X.s₀.heap.objs.size<=b)/\(∀x c,X.env.cells.lookup x=some c->c≠b)/\∀p∈X.pn++pins,p.1≠b
theorem Inv.yb(I:Inv c z S e o)(f:o.heap.objs.size<=h)(g:ξ h=none):mP c z ξ h:=by
 refine⟨g,Ö (U' I.lt f),I.Sw f,.inr (B' I.sz f),λx b d a=>?_,λp i a=>?_⟩
 .obtain⟨v,q⟩:=I.cell x b d
  exact absurd (U' q.lt (by rwa[a])) (Ò _)
 .exact absurd (U' (N' (I.pin p i).1) (by rwa[a])) (Ò _)
structure Turn(P:Ä)(w:À)(K:M')(tg:x')(J:It)(fp:List b')(it:b')(tn:Nat->D'->Prop):Prop where
 mem:it∈fp
 obj:∀i h,tn i h->∀b∈fp,∃o,h.get? b=some o/\∀v,o.data≠.cell v
 keep:∀i h h',tn i h->(∀b∈fp,∀o,h.get? b=some o->h'.get? b=some o)->tn i h'
 item:∀(X:Cx),X.prog=P->X.w=w->X.K=K->X.calm=true->∀(i:Nat) (pins:List (b'×Obj)) (s:g') (σ:St) (H:Hp) (E:f'->g'->Prop),Inv X pins σ H s->(∀b∈fp,mP X pins H b)->tn i s.heap->J.go i H ->
  p' (k9 P w) X.A (Ů (.ref it)) (λr s1=>∃u,r=some u /\
   p' (k9 P w) X.A (aaE tg (.ref it) u) (λ_ s2=>∃x H',Inv X pins σ H' s2/\RelV x u/\J.Pp i H x H'/\tn (i+1) s2.heap/\∀b∈fp,H' b=none) E s1) E s
 done:∀(X:Cx),X.prog=P->X.w=w->X.K=K->X.calm=true->∀(i:Nat) (pins:List (b'×Obj)) (s:g') (σ:St) (H:Hp) (E:f'->g'->Prop),Inv X pins σ H s->(∀b∈fp,mP X pins H b)->tn i s.heap->J.stop i H ->
  p' (k9 P w) X.A (Ů (.ref it)) (λr s1=>r=none/\Inv X pins σ H s1) E s
 self:∀(A:Ï) (i:Nat) (s:g') (Q:f'->g'->Prop) (E:f'->g'->Prop),tn i s.heap->Q (.ref it) s->p' (k9 P w) A (ħ (.ref it)) Q E s
abbrev TI:=St->Hp->(It->Hp->Prop)->Prop
def PIE(X)(pins:List (b'×Obj))(h:St)(i)(R:It->Hp->Prop)(a:f')(d):=
 ∃e f g J c,a=.ref e/\Inv X pins h c d/\Turn X.prog X.w X.K i J f e g/\g 0 d.heap/\(∀b∈f,mP X pins c b)/\R J c
def PI(X b iter)(c:TI):=
 ∀pins s (a:St) H R,Inv X pins a H s->c a H R ->
  p' (k9 X.prog X.w) X.A (eval iter X.env) (λv d=>p' (k9 X.prog X.w) X.A (ħ v) (PIE X pins a b R) X.xe d) X.xe s
variable{C3:Array f'}{G3:String}
theorem rZ(b:o.heap.get? h=some υ)(c:υ.cls=.type G3)(d:υ.data=.fields C3)(e:["enumerate","zip","dict_itemiterator","dict_reverseitemiterator","odict_iterator","itertools.zip_longest","itertools.pairwise"].contains G3=false)(a:N2 () o):p' j5 J (aaE j (.ref h) M) N2 R o:=by
  cases j<;>first
    |exact I' a
    | (cases M<;>first
        |exact I' a
        | (refine j' (aaF b ?_)
           rw[c,d]
           show p' j5 J (if (["enumerate","zip","dict_itemiterator","dict_reverseitemiterator","odict_iterator","itertools.zip_longest","itertools.pairwise"].contains G3&&C3[0]?==some _)=true then _ else _) N2 R o
           rw[if_neg (by grind)]
           exact I' a))
noncomputable def SD(K:M')(a:b'):It:=
 ⟨λi H=>∃b x,lP K H a b/\b[i]?=some x,λi H x c=>c=H/\∀b,lP K H a b->b[i]?=some x,λi H=>∃b,lP K H a b/\b.length<=i⟩
noncomputable def Xq(K:M')(a:b'):It:=
 ⟨λi H=>∃b x,uq K H a b/\b[i]?=some x,λi H x c=>c=H/\∀b,uq K H a b->b[i]?=some x,λi H=>∃b,uq K H a b/\b.length<=i⟩
noncomputable def Pq(a:Int)(n:Nat):It:=⟨λi _=>i<n,λi H x b=>b=H/\x=.int (a+i),λi _=>n<=i⟩
variable{G:M'}
theorem yc(a g):Turn y A G j (SD G a) [g] g (λi h=>h.IsListIter g a i) where
 mem:=by simp
 obj:=λi h f b l=>by
  refine br f λo e c d=>?_
  simp_all
 keep:=λi h N f k=>f.at λo e=>k g (by simp) o e
 item:=by
  intro X r t w O i pins s P H E I n f z;subst r t w;refine cW z λQ x q B=>?_
  refine br (I.list q) λC D p R=>?_
  refine bD (D.get B) λu S T=>?_
  refine dH (n g (by simp)) λF J U K L M=>?_
  refine ab_ f p.isList (by simpa using S) λN m V=>?_
  refine br (id m) λo e c d=>?_
  exact⟨u,rfl,rZ e c d (by decide) ⟨x,H,(I.turned (λb o l e=>(V.2 b l).trans e) F J K L M),T,⟨rfl,λys Y=>by rwa[I.rX Y q]⟩,m,λb l=>(n b l).1⟩⟩
 done:=by
  intro X r t w O i pins s P H E I n f z;subst r t w;refine bD z λQ q B=>?_
  refine br (I.list q) λC D p R=>?_
  refine dH (n g (by simp)) λF J U K L M=>?_
  have Z:=D.length;exact ab0 (I.ok.hd O) f p.isList (by simp;exact B' (R' Z.symm) B) λN eb=>⟨rfl,I.turned (λb o l e=>eb b o l e) F J K L M⟩
 self:=λ_ _ _ _ _ f h=>wpAny_pyIter_listiter f h
theorem uu(a g):Turn y A G j (Xq G a) [g] g (λi h=>h.IsTupleIter g a i) where
 mem:=by simp
 obj:=λi h f b m=>by
  refine br f λo e c d=>?_
  simp_all
 keep:=λi h N f k=>f.at (by simp_all)
 item:=by
  intro X q r t O i pins s P H E I w f z;subst q r t;refine cW z λQ x n B=>?_
  refine br (I.tuple n) λC D p R=>?_
  refine bD (D.get B) λu S T=>?_
  refine dH (w g (by simp)) λF J U K L M=>?_
  refine wpAny_pyNext_tuple_item f (p) (by simpa using S) λN l V=>?_
  refine br (id l) λo e c d=>?_
  exact⟨u,rfl,rZ e c d (by decide) ⟨x,H,(I.turned (b:=s.toks) (λb o m e=>(V.2 b m).trans e) F J K L M),T,⟨rfl,λys Y=>by rwa[I.ya Y n]⟩,l,by simp_all⟩⟩
 done:=by
  intro X q r t O i pins s P H E I w f z;subst q r t;refine bD z λQ n B=>?_
  refine br (I.tuple n) λC D p R=>?_
  refine dH (w g (by simp)) λF J U K L M=>?_
  have Z:=D.length;exact wpAny_pyNext_tuple_end (I.ok.hd O) f (p) (by simp;exact B' (R' Z.symm) B) λN eb=>⟨rfl,I.turned (λb o m e=>eb b o m e) F J K L M⟩
 self:=λ_ _ _ _ _ f h=>wpAny_pyIter_tupleiter f h
theorem uv{w}(c f n):Turn y w G j (Pq f n) [c] c (λi h=>IsRangeIter h c (f+i*1) (n - i) 1) where
 mem:=by simp
 obj:=λi h a b g=>by
  simp_all
 keep:=λi h A a k=>k c (by simp) _ a
 item:=by
  intro X B C D l i pins s F H E I m a p;subst B C D;refine dH (m c (by simp)) λq r J u x z=>?_
  have W:=Walks.range (prog:=X.prog) (w:=X.w) (I.ok.hd l) c f 1 n;refine W.item i s _ _ p a λv A N K d L=>?_
  obtain⟨t,rfl⟩:=K;refine⟨_,rfl,rZ d rfl rfl (by decide) ⟨.int _,H,(I.turned (λb o g e=>L b o (by simp_all) e) q r u x z),⟨t,?_⟩,⟨rfl,rfl⟩,d,by simp_all⟩⟩
  simp
 done:=by
  intro X B C D l i pins s F H E I m a p;refine dH (m c (by simp)) λq r J u x z=>?_
  exact wpAny_pyNext_range_end (I.ok.hd l) a (by have:n<=i:=p;omega) λA M=>⟨rfl,I.turned (λb o g e=>M b o g e) q r u x z⟩
 self:=λ_ _ _ _ _ a h=>wpAny_pyIter_rangeiter a h
variable{L6:It->Hp->Prop}{W5:Û}{y1:Int}
theorem zQ{s u v}(I:Inv c z S e s)(g : -(2 ^ 62)<=Q)(h:Q<2 ^ 62)(i : -(2 ^ 62)<=y1)(k:y1<2 ^ 62)(q:L6 (Pq Q (y1 - Q).toNat) e):p' (k9 c.prog c.w) c.A (ħ (.ref s.heap.objs.size)) (PIE c z S j L6) R {s with heap:=s.heap.push {cls:=.type "range",data:=.fields #[.int Q W5,.int y1 u,.int 1 v]},toks:=b}:=by
 refine wpAny_pyIter_range (IsRange.new ..) (small_one g h i k) ?_;have f:Inv c _ S e {s with heap:=s.heap.push {cls:=.type "range",data:=.fields #[.int Q W5,.int y1 u,.int 1 v]},toks:=b}:=I.kept λd o a=>Á _ a
 refine⟨_,_,_,_,e,rfl,
  f.kept λd o a=>Á _ a,uv _ Q _,?_,λd n=>?_,q⟩
 .have l:Q+((0:Nat))*1=Q:=by simp
  have m:(((y1 - Q).toNat)) - ((0:Nat))=adY Q y1 1:=by rw[rangeSize_one];grind
  rw[l,m];exact Ð _ rfl
 .have a:d=(s.heap.push {cls:=.type "range",data:=.fields #[.int Q W5,.int y1 u,.int 1 v]}).objs.size:=by simp_all
  subst a;exact f.yb (W' _) (f.hok.fresh (W' _))
def Mi(a:TA):TI:=λb H R=>a b H λc d=>∃j,c=[.int j] /\ -(2 ^ 62)<=j/\j<2 ^ 62/\R (Pq 0 j.toNat) d
variable{W2:TA}
theorem yd(f:Gl c "range")(g:c.mg "range"=none)(i:PA c [O] W2)(k:F' [O] c.env=[(false,eval O c.env)]:=by rfl):PI c j (.Call (.Name "range" l) [O] [] H) (Mi W2):=by
 intro pins s m a R I h;refine Call_ (fj I f g boot_range (ů (bZ (i _ _ s m a _ I h) λx y n=>?_) k rfl));refine aJ n λz A o p b=>?_
 obtain⟨d,e,b,u,q⟩:=b;subst e;cases p with
 |cons r w=>
  cases w;obtain⟨t,rfl⟩:=r;exact call_range_1 (zQ o (by decide) (by decide) b u (by simp_all))
noncomputable def SE(f:TI)(g:TG)(tb:TS):TS:=λD a H=>f a H λJ h=>∃W:Nat->Nat->St->Hp->Prop,(∃m,W 0 m a h)/\∀i m a H,W i m a H ->
 (J.stop i H/\D.nx a H)\/(J.go i H/\∃N,(∀b c,N b c->∃e,e<m/\W (i+1) e b c)/\∀x c,J.Pp i H x c->g x a c λd j=>tb {D with nx:=N,ct:=N,bk:=D.nx} d j)
noncomputable def qk(fp:List b')(h:D'):=fp.filterMap λb=>(h.get? b).map λo=>(b,o)
theorem gC(a:h∈u)(e:B.get? h=some υ):(h,υ)∈qk u B:=ab1.mpr ⟨h,a,by rw[e];rfl⟩
theorem ye{p}(a:p∈qk u B):p.1∈u/\B.get? p.1=some p.2:=by
 obtain⟨b,c,e⟩:=ab1.mp a;cases q:B.get? b with
 |none=>simp_all
 |some o=>
  grind
theorem Inv.pinned(I:Inv c z S e o)(h:∀b∈u,mP c z e b)(k:∀b∈u,∃d,o.heap.get? b=some d/\∀v,d.data≠.cell v):Inv c (z++qk u o.heap) S e o:=
 I.vV λp i=>(æ.mp i).elim (λa=>I.pin p (ĝ _ a)) λa=>by
  obtain⟨j,g⟩:=ye a;refine qb (h _ j) λl m f=>xa f λn _=>?_
  grind
theorem Inv.jz{pl}(I:Inv c (z++pl) S e o):Inv c z S e o:=I.vV λp a=>I.pin p (by simp_all)
variable{Y6:TI}
theorem IJ(E:ŭ (k9 c.prog c.w) c.A c.env c.xe)(Y:c.calm=true)(hi:PI c j O Y6)(hg:PG c j u5)(g:gS c N1 Y5)(hs:∀x,Ď O c.env x=pure x:=by intro _;rfl):PS c (.For j O N1 [] l) (SE Y6 u5 Y5):=by
 intro pins s Z H D I h;refine wpAny_For (bZ (hi pins s Z H _ I h) λv s1 h1=>bZ h1 λa0 s2 h2=>?_) hs
 obtain⟨it,M,tn,J,H2,e,I2,T,Q,f2,W,⟨m0,w0⟩,F⟩:=h2;subst e;have k:∀{z:Hp},(∀b∈M,z b=none)->∀b∈M,mP c pins z b:=λhn b g=>⟨hn b g,(f2 b g).2⟩
 refine codeAny_forLoop_any (λn s'=>∃i p z,Inv c pins p z s'/\tn i s'.heap/\(∀b∈M,z b=none)/\W i n p z) ?_ m0 ⟨0,Z,H2,I2,Q,λb g=>(f2 b g).1,w0⟩
 rintro n s3 ⟨i,q,P,I3,G,K,w3⟩;rcases F i n q P w3 with ⟨stop,qn⟩|⟨go,N,hN,step⟩
 .refine Ĺ E (bZ (T.done c rfl rfl rfl Y i pins s3 q P _ I3 (k K) G stop) λr s4  R =>xa R λS I4=>?_)
  subst S;exact Ĝ ⟨q,P,I4,qn⟩
 .refine Ĺ E (bZ (T.item c rfl rfl rfl Y i _ s3 q P _ I3 (k K) G go) λr s4 U=>?_);refine bD U λu S h4=>?_
  subst S;refine Ĺ E (bZ h4 λ_ s5 U=>?_);refine fD U λx H5 I5 r5 y5 C V=>?_
  refine Ĺ E (bZ (hg _ s5 q H5 x u _ (I5.pinned (k V) (T.obj _ _ C)) r5 (step x H5 y5)) λ_ s6  R =>cW R λX H6 I6 q6=>?_)
  refine Ĺ E (bZ (g _ s6 X H6 _ I6 q6) λf s7 B=>?_)
  have Ű:∀{a:St}{t:Hp},Inv c _ a t s7->N a t->∃m,m<n/\∃i p z,Inv c pins p z s7/\tn i _/\(∀b∈M,z b=none)/\W i m p z:=λ{a t} y L=>by
   obtain⟨m',hm,w7⟩:=hN a t L;refine⟨m',hm,_,a,t,y.jz,T.keep _ _ _ C λb g o e=>(y.pin _ (ĝ _ (ĝ _ (gC g e)))).1,λb g=>?_,w7⟩
   obtain⟨o,e,d⟩:=T.obj _ _ C b g;exact(y.pin _ (ĝ _ (ĝ _ (gC g e)))).2.1
  cases f with
  |next=>obtain⟨a,t,y,L⟩:=B;exact Ű y L
  |cont=>obtain⟨a,t,y,L⟩:=B;exact Ű y L
  |brk=>obtain⟨a,t,y,B⟩:=B;exact⟨a,t,y.jz,B⟩
  |ret v=>refine cg B λx7 a t y r7 B=>?_;exact⟨x7,a,t,y.jz,r7,B⟩
abbrev R2:=V->V->Hp->VK->Prop
def jt(X)(f:f'->f'->ï f')(r:R2):=
 ∀pins s (a:St) H x y v u Q,Inv X pins a H s->RelV x v->RelV y u->r x y H Q ->
  p' (k9 X.prog X.w) X.A (f v u) (EP X pins a Q) X.xe s
def SF(X)(f:f'->ï f')(r:V->Hp->VK->Prop):=
 ∀pins s (a:St) H x v Q,Inv X pins a H s->RelV x v->r x H Q ->
  p' (k9 X.prog X.w) X.A (f v) (EP X pins a Q) X.xe s
def eT(X f)(r:List V->Hp->VK->Prop):=
 ∀pins s (a:St) H b c Q,Inv X pins a H s->Vals b c->r b H Q ->
  p' (k9 X.prog X.w) X.A (call f c) (EP X pins a Q) X.xe s
def SG(X)(r:V->Hp->(Bool->Hp->Prop)->Prop):=
 ∀pins s (a:St) H x v Q,Inv X pins a H s->RelV x v->r x H Q ->
  p' (k9 X.prog X.w) X.A (Ŭ v) (TP X pins a Q) X.xe s
noncomputable def LJ(r:R2)(b tb:TE):TE:=λa H Q=>b a H λx c=>tb a c λy d=>r x y d Q
noncomputable def YL(r:V->Hp->VK->Prop)(a:TE):TE:=λb H Q=>a b H λx c=>r x c Q
noncomputable def rI(C:Int->Int->Prop)(g:Int->Int->V):R2:=λx y H Q=>∃i j,x=.int i/\y=.int j/\C i j/\Q (g i j) H
noncomputable def Pr(g:Int->Int->V):R2:=λx y H Q=>∃i j,x=.int i/\y=.int j/\Q (g i j) H
def rU(g:Int->V):V->Hp->VK->Prop:=λx H Q=>∃i,x=.int i/\Q (g i) H
variable{S6:f'->f'->ï f'}
theorem IK(k:PE c j π)(l:PE c O Q2){a:V->V->Hp->Prop}(I:Inv c z S e o)(h:π S e λx i=>Q2 S i λy b=>a x y b)(m:∀v u g x y b,Inv c z S b g->RelV x v->RelV y u->a x y b->p' (k9 c.prog c.w) c.A (S6 v u) R c.xe g):
  p' (k9 c.prog c.w) c.A (eval j c.env) (λv d=>p' (k9 c.prog c.w) c.A (eval O c.env) (λu f=>p' (k9 c.prog c.w) c.A (S6 v u) R c.xe f) c.xe d) c.xe o:=by
 refine bZ (k _ o S e _ I h) λv n ⟨x,i,I1,r1,q1⟩=>?_
 refine bZ (l _ n S i _ I1 q1) λu g ⟨y,b,I2,r2,q2⟩=>m v u g x y b I2 r1 r2 q2
variable{d5:R2}{d9:ő}
theorem zR(a:jt c (Œ d9) d5)(b:PE c j π)(d:PE c O Q2):PE c (.BinOp j d9 O l) (LJ d5 π Q2):=by
 intro pins s e H Q I h;exact wpAny_BinOp (IK b d I h λv u f x y g i k m q=>a _ f e g x y v u Q i k m q)
theorem Mj{a r}(d:SF c (unaryOp a) r)(e:PE c j π):PE c (.UnaryOp a j l) (YL r π):=by
 intro pins s b H Q I h;exact UnaryOp_ (bZ (e _ s b H _ I h) λv f ⟨x,H1,I1,r1,q1⟩=>d _ f b H1 x v Q I1 r1 q1)
theorem Pt{C}{g:Int->Int->Int}(rule:∀i j t u s Q E,C i j->Q (.int (g i j) s.toks) {s with toks:=s.toks+1}->p' (k9 c.prog c.w) c.A (S6 (.int i t) (.int j u)) Q E s):
  jt c S6 (rI C λi j=>.int (g i j)):=by
 intro pins s f H x y v u Q I a b h;obtain⟨i,j,rfl,rfl,d,q⟩:=h;obtain⟨t,rfl⟩:=a;obtain⟨e,rfl⟩:=b;exact rule i j t e s _ _ d ⟨.int _,H,I.tok _,⟨_,rfl⟩,q⟩
theorem Ml{g:Int->Int->Int}(rule:∀i j t u s Q E,Q (.int (g i j) s.toks) {s with toks:=s.toks+1}->p' (k9 c.prog c.w) c.A (S6 (.int i t) (.int j u)) Q E s):
  jt c S6 (Pr λi j=>.int (g i j)):=by
 intro pins s e H x y v u Q I a b h;obtain⟨i,j,rfl,rfl,q⟩:=h;obtain⟨t,rfl⟩:=a;obtain⟨d,rfl⟩:=b;exact rule i j t d s _ _ ⟨.int _,H,I.tok _,⟨_,rfl⟩,q⟩
theorem DT{g:Int->Int->Bool}(rule:∀i j t u s Q E,Q (.bool (g i j)) s->p' (k9 c.prog c.w) c.A (S6 (.int i t) (.int j u)) Q E s):
  jt c S6 (Pr λi j=>.bl (g i j)):=by
 intro pins s e H x y v u Q I a b h;obtain⟨i,j,rfl,rfl,q⟩:=h;obtain⟨t,rfl⟩:=a;obtain⟨d,rfl⟩:=b;exact rule i j t d s _ _ ⟨.bl _,H,I,rfl,q⟩
def Mm(i j:Int):=0<j/\j<1073741824
def SH(i j:Int):=0<=j/\j<=1000000/\i.natAbs<2 ^ 64
def IL(i j):=(-(2 ^ 64)<i/\i<2 ^ 64)\/(-(2 ^ 64)<j/\j<2 ^ 64)
theorem IL.ok(h:IL Q y1):IntMulOk Q y1:=by
 rcases h with ⟨a,b⟩|⟨a,b⟩
 .exact .of_left (ab2 a b)
 .exact .of_right (ab2 a b)
theorem IP:jt c (Œ .Add) (Pr λi j=>.int (i+j)):=Ml λ_ _ _ _ _ _ _ q=>add_int q
theorem DU:jt c (Œ .FloorDiv) (rI Mm λi j=>.int (i / j)):=Pt λi j _ _ _ _ _ a q=>by
 have b:=a.1;have d:=a.2;exact floordiv_int (ϟ b) (by rwa[Int.fdiv_eq_ediv_of_nonneg i (ab3 b)]) (.inl (PyProof.noPylong_small (by omega)))
theorem IQ:jt c (Œ .Mod) (rI (λ_ j=>0<j) λi j=>.int (i%j)):=Pt λi j _ _ _ _ _ a q=>mod_int' (ϟ a) (by rwa[Int.fmod_eq_emod_of_nonneg i (ab3 a)])
theorem YM{f}{g:Int->Int}(rule:∀i t s Q E,Q (.int (g i) s.toks) {s with toks:=s.toks+1}->p' (k9 c.prog c.w) c.A (f (.int i t)) Q E s):
  SF c f (rU λi=>.int (g i)):=by
 intro pins s b H x v Q I a h;obtain⟨i,rfl,q⟩:=h;obtain⟨t,rfl⟩:=a;exact rule i t s _ _ ⟨.int _,H,I.tok _,⟨_,rfl⟩,q⟩
theorem IS:SF c (unaryOp .USub) (rU λi=>.int (-i)):=YM λ_ _ _ _ _ q=>neg_int q
variable{C2 v:Bool}{η:VK}
theorem ql(I:Inv c z S e o)(q:η (.bl v) e)(a:v=C2):EP c z S η (.bool C2) o:=by
 subst a;exact⟨.bl v,e,I,rfl,q⟩
theorem yf:jt c (Þ .In) (λx y H Q=>∃i j,x=.str i/\y=.str j/\Q (.bl (!(Ϡ j i 0 j.length 1).isEmpty)) H):=by
 intro pins s d H x y v u Q I a b h;obtain⟨i,j,rfl,rfl,q⟩:=h;obtain⟨t,rfl⟩:=a;obtain⟨e,rfl⟩:=b;exact in_str (ql I q rfl)
theorem zS:jt c (Þ .Is) (λx y H Q=>y=.non/\Q (.bl (decide (x=.non))) H):=by
 intro pins s d H x y v u Q I a b h;obtain⟨rfl,q⟩:=h;cases b;refine is_none_gen (ql I q ?_)
 cases x<;>first
  | (obtain⟨t,rfl⟩:=a;rfl)
theorem vZ:jt c (Þ .IsNot) (λx y H Q=>y=.non/\Q (.bl (!decide (x=.non))) H):=by
 intro pins s d H x y v u Q I a b h;obtain⟨rfl,q⟩:=h;cases b;refine isnot_none_gen (ql I q ?_)
 cases x<;>first
  | (obtain⟨t,rfl⟩:=a;rfl)
theorem qm:jt c (Þ .NotIn) (λx y H Q=>∃i j,x=.str i/\y=.str j/\Q (.bl (!(!(Ϡ j i 0 j.length 1).isEmpty))) H):=by
 intro pins s d H x y v u Q I a b h;obtain⟨i,j,rfl,rfl,q⟩:=h;obtain⟨t,rfl⟩:=a;obtain⟨e,rfl⟩:=b;exact notIn_str (ql I q rfl)
variable{o8:R2}
theorem jt.or(h:jt c S6 d5)(e:jt c S6 o8):jt c S6 (λx y H Q=>d5 x y H Q\/o8 x y H Q):=by
 intro pins s a H x y v u Q I b d q;rcases q with q|q
 .exact h _ s a H x y v u Q I b d q
 .exact e _ s a H x y v u Q I b d q
variable{B3:Ā}
theorem gD(a:jt c (Þ B3) d5)(b:PE c j π)(d:PE c O Q2)(e:ű B3 O=false):PE c (.Compare j [B3] [O] l) (LJ d5 π Q2):=by
 intro pins s f H Q I h;exact wpAny_Compare1 (IK b d I h λv u g x y i k m n q=>a _ g f i x y v u Q k m n q) e
noncomputable def zT(t:TE):TT:=λa H Q=>t a H λx b=>∃k,x=.bl k/\Q k b
theorem fE(g:jt c (Þ B3) d5)(i:PE c j π)(m:PE c O Q2)(n:ű B3 O=false):PT c (.Compare j [B3] [O] l) (zT (LJ d5 π Q2)):=by
 intro pins s a H Q I h
 refine wpAny_isTrue_Compare1 (bZ (i _ s a H _ I h) λv o  b =>aJ b λx p q r t=>bZ (m _ o a p _ q t) λu w  b  =>
  aJ b λy A B C D=>bZ (g _ w a A x y v u _ B r C D) λf L E=>?_) n;refine aJ E λz F G J d=>bD d λk e K=>?_
 subst e;cases J;exact Ħ ⟨F,G,K⟩
noncomputable def uw(r c:R2)(d tb e:TE):TE:=λa H Q=>d a H λx f=>tb a f λy g=>r x y g λz b=>∃k,z=.bl k /\
 (if k=true then e a b λh i=>c y h i Q else Q (.bl false) b)
variable{N8:TE}{R6:Ā}
theorem zU(p:jt c (Þ B3) d5)(f:jt c (Þ R6) o8)(q:PE c j π)(r:PE c O Q2)(t:PE c y2 N8)(w:Ų [B3,R6] [O,y2]=false:=by with_unfolding_all rfl):PE c (.Compare j [B3,R6] [O,y2] l) (uw d5 o8 π Q2 N8):=by
 intro pins s a H Q I h
 refine Compare_chain (bZ (q _ s a H _ I h) λv A b=>?_) w;refine aJ b λx B C D E=>?_;refine chain_link (bZ (r _ A a B _ C E) λu F b=>
  ?_);refine aJ b λy G J i K=>?_;refine bZ (p _ F a G x y v u _ J D i K) λd L b=>?_;refine aJ b λz m n M g=>bD g λk e o=>?_
 subst e;cases M;refine Ħ ?_;cases k with
 |false=>exact ite_ff ⟨.bl _,m,n,rfl,o⟩
 |true=>exact ite_tt (chain_last (bZ (t _ L a m _ n o) λN P  R =>aJ R λS T U V X=>f _ P a T y S u N Q U i V X))
theorem zV(p:jt c (Þ B3) d5)(g:jt c (Þ R6) o8)(q:PE c j π)(r:PE c O Q2)(t:PE c y2 N8)(w:Ų [B3,R6] [O,y2]=false:=by with_unfolding_all rfl):PT c (.Compare j [B3,R6] [O,y2] l) (zT (uw d5 o8 π Q2 N8)):=by
 intro pins s f H Q I h
 refine isTrue_chain (bZ (q _ s f H _ I h) λv A a=>?_) w;refine aJ a λx B C D E=>?_;refine test_link (bZ (r _ A f B _ C E) λu F a=>
  ?_);refine aJ a λy G J i K=>?_;refine bZ (p _ F f G x y v u _ J D i K) λd L a=>?_;refine aJ a λz m n M b=>bD b λk e o=>?_
 subst e;cases M;refine Ħ ?_;cases k with
 |false=>
  refine bD o λk' N P=>?_
  cases N;exact ite_ff ⟨m,n,P⟩
 |true=>
  refine ite_tt (test_last (bZ (t _ L f m _ n o) λR S ⟨T,H4,I4,r4,q4⟩=>bZ (g _ S f H4 y T u R _ I4 i r4 q4) λd' s5 a=>?_));refine aJ a λz2 U V X b=>bD b λk2 Y Z=>?_
  subst Y;cases X;exact Ħ ⟨U,V,Z⟩
def r_(K:M')(x:V)(H:Hp)(k:Bool):Prop:=
 match x with
 |.non=>k=false
 |.bl b=>k=b
 |.int i=>k=(i != 0)
 |.str y=>y.length<=Y'/\k=((y.length:Int) != 0)
 |.LH y=>y.size<=Y'/\k=((y.size:Int) != 0)
 |.ref p=>(∃a,lP K H p a/\k=!a.isEmpty)\/(∃a,uq K H p a/\k=!a.isEmpty)\/∃c,H p=some (.dK c)/\k=!c.isEmpty
 |_=>False
theorem ux{a}{kvs:List (a×V)}{b}(r:KV kvs b):(!b.isEmpty)=!kvs.isEmpty:=by
 cases r<;>rfl
variable{χ:List f'}
theorem mQ(r:Vals N χ):(!χ.toArray.isEmpty)=!N.isEmpty:=by
 cases r<;>simp
theorem i_:Y'<2 ^ 63:=by decide
theorem qq:SG c (λx H Q=>∃k,r_ c.K x H k/\Q k H):=by
 intro pins s C H x v Q I j h;obtain⟨k,e,q⟩:=h;have D:=i_;have E:Y'=16777216:=Ĉ;cases x with
 |non=>
  cases j;have a:k=false:=e;subst a;exact truthy_none ⟨H,I,q⟩
 |bl b=>
  cases j;have a:k=b:=e;subst a;exact Ħ ⟨H,I,q⟩
 |int i=>
  obtain⟨t,rfl⟩:=j;have a:k=(i != 0):=e;subst a;exact ab4 ⟨H,I,q⟩
 |str y=>
  obtain⟨t,rfl⟩:=j;obtain⟨A,a⟩:y.length<=Y'/\k=((y.length:Int) != 0):=e;subst a;exact ab5 (by omega) ⟨H,I.tok _,q⟩
 |LH y=>
  obtain⟨t,rfl⟩:=j;obtain⟨A,a⟩:y.size<=Y'/\k=((y.size:Int) != 0):=e;subst a;exact PySem.W.truthy_bytes (cO A) ⟨H,I.tok _,q⟩
 |ref p=>
  cases j;have a:(∃g,lP c.K H p g/\k=!g.isEmpty)\/(∃g,uq c.K H p g/\k=!g.isEmpty)\/∃d,H p=some (.dK d)/\k=!d.isEmpty:=e;rcases a with ⟨g,l,a⟩|⟨g,l,a⟩|⟨d,l,a⟩
  .subst a
   obtain⟨o,r,u,z⟩:=I.list l;have f:=r.length;exact ab6 u.isList (by simp only[ê];omega) ⟨H,I.tok _,by rw[mQ r];exact q⟩
  .subst a
   obtain⟨o,r,u,z⟩:=I.tuple l;have f:=r.length;exact truthy_tuple u (by simp only[ê];omega) ⟨H,I.tok _,by rw[mQ r];exact q⟩
  .subst a
   obtain⟨z,B,n,r,m⟩:d.length<=Y'/\(p==ě)=false/\∃n,KV d n/\s.heap.DictOf (cC c.prog c.w) p n:=I.hok p _ l;have f:d.length=n.length:=ũ r;exact wpAny_truthy_dict B m (DL (B' (R' f.symm) z)) ⟨H,I.tok _,by rw[ux r];exact q⟩
 |_=>exact(show False from e).elim
theorem zW(e:PE c j π)(f:∀a,Ő j c.env a=(do let v ←a;þ j.pos;ÿ [v] (Ŭ v))):
  PT c j (λb H Q=>π b H λx d=>∃k,r_ c.K x d k/\Q k d):=by
 intro pins s b H Q I h;exact isTrue_plain (bZ (e _ s b H _ I h) λv g  i =>aJ i λx l m n o=>qq _ g b l x v Q m n o) (f _)
theorem uy:jt c (Œ .Add) (λx y H Q=>∃i j,x=.str i/\y=.str j/\i.length+j.length<=Y'/\Q (.str (i++j)) H):=by
 intro pins s f H x y v u Q I a b h;obtain⟨i,j,rfl,rfl,d,q⟩:=h;obtain⟨t,rfl⟩:=a;obtain⟨e,rfl⟩:=b;exact add_str (λe g=>⟨.str _,H,I.tok _,⟨_,rfl⟩,q⟩) d
theorem vals1(r:Vals [x] χ):∃u,χ=[u]/\RelV x u:=by
 cases r with
 |cons b a=>cases a;simp_all
variable{D1:V}
theorem vals2(r:Vals [x,D1] χ):∃u a,χ=[u,a]/\RelV x u/\RelV D1 a:=by
 cases r with
 |cons d b=>
  cases b with
  |cons e c=>cases c;grind
structure yg(h:D')(x dx C:b')(mA:Str->Option f'):Prop where
 obj:h.get? x=some (ŋ C dx)
 ns:h.Ns1 dx mA
 ne:dx≠x
variable{ν:Str->Option f'}
theorem fW(n:B.Ns1 h ν):∃od,B.get? h=some od/\∀name,ϡ name od=some (ν name):=by
 refine eg n λo d k f g i _ j=>?_
 refine⟨o,f,λname=>?_⟩
 have e:=j name;unfold nsFind findBy at e;unfold ϡ;rw[g];dsimp only;split
 .simp_all
 .have a:d.toList.any (·.refKey)=false:=by
   rw[List.any_eq_false];intro y l;refine xe (i y (by simp_all)) λz c=>xe c λt b=>?_
   simp[adZ,b]
  grind
variable{ο:b'}
theorem yg.look(I:yg B h C ο ν):∃od,œ B h (ŋ ο C) ο (some od)/\∀name,ϡ name od=some (ν name):=
 bD (fW I.ns) λod a b=>⟨od,⟨I.obj,rfl,rfl,a⟩,b⟩
theorem DV{s}(X:G.In s.heap)(I:yg s.heap h C ο ν)(n:Ù G (.ref ο) "__setattr__"=some (some (.builtin "object.__setattr__")))(o:aaG G ο=true)(p:aaH G ο d=some none)(q:ĺ G ο=true)(r:aaz ν g)(hsz:g.length<=Y')(e:∀j,yg j h C ο (λa=>if a=d then some M else ν a)->Ķ C s.heap j->N2 () {s with heap:=j,toks:=s.toks+2}):
  p' (k9 y A) J (Ŕ (.ref h) d M) N2 R s:=by
 refine bD I.look λz c B=>?_
 refine aaI X c n (PySem.W.osa_open X c o p λb=>?_)
 refine bD (Ϣ q) λD t k=>?_
 refine j' (I' (j' (j' (ϣ I.obj (j' (aaJ (Ϥ X t) ?_))))));rw[k];refine I' (j' (I' (j' ?_)));refine aaK I.ns λj f i=>?_
 refine cg (f.count (aaL _ M r)) λE u w l m x=>?_
 refine j' (aaM l (by rw[m];exact aaN (by grind)) ?_)
 exact I' (e _ ⟨(i.2 _ (Ê I.ne)).trans I.obj,f,I.ne⟩ i)
variable{P4:ų->g'->Prop}{m9:List (Str×f')}
theorem zX{s:g'}(X:G.In s.heap)(b:aaO G C=true)(c:Ù G (.ref C) "__init__"=some (some (.ref h)))(d:aaP G (.ref h)=some (.type "function"))(a:ç (k9 y A) (J.under (.builtin "type.__call__" ⟨.ref C::χ,m9⟩)) (.call (.ref h) ⟨.ref (s.heap.objs.size+1)::χ,m9⟩) (aaQ (s.heap.objs.size+1) P4)
   {s with heap:=(s.heap.push ϥ).push (ŋ C s.heap.objs.size)}):
  ç (k9 y A) J (.call (.ref C) ⟨χ,m9⟩) P4 s:=PySem.W.make_core (PySem.W.makes_of X b) (Ŵ X c) (λself=>ab7 X _ d) (.inl rfl) a
noncomputable def hG(f:Str)(v:V):List (Str×V)->List (Str×V)
 |[]=>[(f,v)]
 | (g,x)::r=>if g=f then (g,v)::r else (g,x)::hG f v r
theorem lb(f g v):∀a,(hG f v a).lookup g=if g=f then some v else a.lookup g
 |[]=>by
  show Ļ g [(f,v)]=_
  grind
 | (k,x)::r=>by
  have b:=lb f g v r;rw[show hG f v _=(if k=f then (k,v)::r else (k,x)::hG f v r)from rfl]
  grind
theorem ki(f v):∀a,f∈(hG f v a).map (·.1)/\∀g,g∈a.map (·.1)->g∈(hG f v a).map (·.1)
 |[]=>⟨by simp[hG],by simp⟩
 | (k,x)::r=>by
  obtain⟨b,c⟩:=ki f v r;rw[show hG f v _=(if k=f then (k,v)::r else (k,x)::hG f v r)from rfl]
  grind
theorem lg(f v):∀a,(hG f v a).length<=a.length+1
 |[]=>by simp[hG]
 | (k,x)::r=>by
  have b:=lg f v r;rw[show hG f v _=(if k=f then (k,v)::r else (k,x)::hG f v r)from rfl]
  grind
variable{i5:Option f'}
theorem iZ.some_of(r:iZ (some x) i5):∃u,i5=some u/\RelV x u:=by
 cases i5 with
 |none=>exact(r).elim
 |some u=>exact⟨u,rfl,r⟩
theorem iZ.none_of(r:iZ none i5):i5=none:=by
 cases i5 with
 |none=>rfl
 |some u=>exact(r).elim
theorem oU(r:RelV x M):ab8 M=true:=by
 cases x with
 |non=>cases (r);rfl
 |bl b=>cases (r);rfl
 |int i=>obtain⟨t,e⟩:=(r);cases e;rfl
 |str c=>obtain⟨t,e⟩:=(r);cases e;rfl
 |LH b=>obtain⟨t,e⟩:=(r);cases e;rfl
 |flt b=>obtain⟨t,e⟩:=(r);cases e;rfl
 |ref a=>cases (r);rfl
 |ty n=>cases (r);rfl
variable{y4:List (Str×V)}
theorem jA(c:jw y A e B)(a:e h=some (.ins C ο y4)):∃b,yg B h ο C b/\(∀f,iZ (y4.lookup f) (b f))/\aaz b (y4.map (·.1))/\y4.length<=1000/\e ο=some (.own h):=by
 refine fV (c h _ a) λd z ne i g=>br g λb n r q=>⟨b,⟨i,n,ne⟩,r,q,z,d⟩
structure oj(K:M')(C:b'):Prop where
 pg:aaR K C ab9=true
 hd:ĺ K C=true
 po:aaG K C=true
 sa:Ù K (.ref C) "__setattr__"=some (some (.builtin "object.__setattr__"))
theorem oj.get(c:oj G C)(f):aaR G C f=true:=c.pg
def df(K C f):=Ù K (.ref C) f=some none
theorem df.taker(n:df G C d):aaH G C d=some none:=by
 unfold aaH;rw[n];rfl
structure Meth(K:M')(C:b')(m:Str)(f:b'):Prop where
 at_:Ù K (.ref C) m=some (some (.ref f))
 fn:Ϧ K (.ref f)=true
 kp:Ó K (.ref f)=true
theorem uz(I:Inv c z S e o)(b:e h=some (.ins C ο y4))(a:oj c.K C)(n:df c.K C d)(l:y4.lookup d=some x)(f:∀u j,Inv c z S e j->RelV x u->C1 u j):p' (k9 c.prog c.w) J (ϧ (.ref h) d v) C1 R o:=by
 refine eu (jA I.hok b) λm O r _ i=>xa i λ_ _=>?_
 obtain⟨u,p,k⟩:=iZ.some_of (x:=x) (i5:=m d) (by grind)
 obtain⟨s,g,q⟩:=O.look;exact PySem.W.get_value I.eR g (aaS (a.get d)).1 (ab' a.hd n rfl (by rw[q,p])) (oU k) (f u _ (I.tok _) k)
variable{x0:b'}
theorem je{pl Q}(I:Inv c z S e o)(b:e h=some (.ins C ο y4))(a:oj c.K C)(k:Meth c.K C d x0)(l:y4.lookup d=none)(f:Q (.ref x0,[.ref h]) o):p' (k9 c.prog c.w) J (ď (.ref h) d pl) Q R o:=by
 refine eu (jA I.hok b) λj O r _ i=>xa i λ_ _=>?_
 have n:j d=none:=iZ.none_of (by grind)
 refine bD O.look λm g p=>PySem.W.method_fn I.eR g (aaS (a.get d)).1 (aaS (a.get d)).2 k.at_ (beq_iff_eq.mp k.fn) (by show(ϡ _ m).map _=some _;simp_all) f
theorem uA(I:Inv c z S e o)(i:e h=some (.ins C ο y4))(a:oj c.K C)(n:df c.K C d)(p:y4.length<1000)(y:RelV x M)(k:∀s,Inv c z S (upd e h (.ins C ο (hG d x y4))) s->N2 () s):p' (k9 c.prog c.w) J (Ŕ (.ref h) d M) N2 R o:=by
 refine eu (jA I.hok i) λL O r t l=>xa l λ_ u=>?_
 have A:(y4.map (·.1)).length<=Y':=by rw[Í,Ĉ];exact Mc p
 refine DV I.eR O a.sa a.po n.taker a.hd t A λB m D=>k _ ?_
 have E:∃f,B.get? ο=some f:=ew (m.ns) λf _ _ F _=>⟨f,F⟩
 refine I.write (by rw[i];exact Đ) (.inr u) (λb q G j=>(D.2 b G).trans j) E ?_
 refine⟨by rw[az O.ne];exact u,?_,O.ne,m.obj,_,m.ns,λg=>?_,λg H=>?_⟩
 .have:=lg d x y4;exact B' this p
 .rw[lb]
  by_cases q:g=d
  .rw[if_pos q,if_pos q];exact y
  simp_all
 .by_cases q:g=d
  .rw[q];exact(ki d x y4).1
  .refine(ki d x y4).2 g (t g λj=>H ?_)
   simp_all
theorem Inv.made{s}(I:Inv c z S e s):Inv c z S (upd (upd e s.heap.objs.size (.own (s.heap.objs.size+1))) (s.heap.objs.size+1) (.ins C s.heap.objs.size []))
  {s with heap:=(s.heap.push ϥ).push (ŋ C s.heap.objs.size)}:=by
 have d:(s.heap.push _).get? _=some ϥ:=Ð _ rfl;have f:=I.laid (o:=.own (s.heap.objs.size+1)) (t':=s.toks) (λb u q=>Á _ q) (W' _) ⟨_,d⟩
 refine f.laid (λb u q=>Á _ q) (by simp) ?_
 have ne:s.heap.objs.size≠s.heap.objs.size+1:=O' (by simp)
 refine⟨by rw[az ne,aS],Ë _,ne,(by
  have:=Ð (s.heap.push ϥ) (o:=ŋ C s.heap.objs.size) rfl;rwa[ŵ]at this),_,(aca ⟨_,_,_,d,rfl,(λa g=>absurd g (by simp)),λ_=>rfl⟩).at λo q=>Á _ q,λ_=>Đ,λy h=>absurd rfl h⟩
variable{B4:É}
theorem qr(c:ĉ j d B4 (eval j B4)=eval j B4)(h:p' (k9 y A) J (eval j B4) (λa b=>p' (k9 y A) J (ϧ a d true) C1 R b) R o):p' (k9 y A) J (eval (.Attribute j d l) B4) C1 R o:=
 Attribute_any_ h (by rw[arm_eval_Attribute,c])
noncomputable def SI(K:M')(d:TE)(f:Str):TE:=λe H Q=>d e H λx b=>∃a C g c v,x=.ref a/\b a=some (.ins C g c)/\oj K C/\df K C f/\c.lookup f=some v/\Q v b
def SJ(K:M')(g h:TE)(f:Str):TS:=λD b H=>h b H λy i=>g b i λx d=>∃a C e c,x=.ref a/\d a=some (.ins C e c)/\oj K C/\df K C f/\c.length<1000 /\
 D.nx b (upd d a (.ins C e (hG f y c)))
theorem IT(f:PE c j π)(g:ĉ j d c.env (eval j c.env)=eval j c.env):PE c (.Attribute j d l) (SI c.K π d):=by
 intro pins s i H Q I h;refine qr g (bZ (f _ s i H _ I h) λu z k=>?_);obtain⟨x,m,o,p,a,C,A,B,v,r,t,b,n,e,q⟩:=k
 subst r;obtain rfl:u=Ü a:=p;exact uz o t b n e λD E w y=>⟨v,m,w,y,q⟩
theorem IU(k:PE c j π)(m:PE c O Q2)(o:ò O (some (.Attribute j d H)) l.line c.env=pure false):PS c (.Assign [.Attribute j d H] O l) (SJ c.K π Q2 d):=by
 intro pins s g b D I h;refine acb (bZ (m _ s g b _ I h) λu p i=>?_) o;refine aJ i λy r t w q=>?_;refine bZ (k _ p g r _ t q) λz L i=>?_;obtain⟨x,M,A,B,a,C,N,P,E,F,e,n,f,G⟩:=i
 subst E;obtain rfl:z=Ü a:=B;exact uA A F e n f w λQ J=>⟨g,_,J,G⟩
inductive lQ (K:M') (H:Hp):V->f'->Prop where
 |non:lQ K H .non (.type "NoneType")
 |bl (x:Bool):lQ K H (.bl x) (.type "bool")
 |int (i:Int):lQ K H (.int i) (.type "int")
 |str (x:Str):lQ K H (.str x) (.type "str")
 |flt (x:UInt64):lQ K H (.flt x) (.type "float")
 |lst {a:b'}{xs:List V} (e:H a=some (.lst xs)):lQ K H (.ref a) (.type "list")
 |dZ {a:b'}{o:Obj}{xs:List V} (e:H a=some (.dZ o (.lst xs))):lQ K H (.ref a) (.type "list")
 |tup {a:b'}{xs:List V} (e:H a=some (.tup xs)):lQ K H (.ref a) (.type "tuple")
 |dK {a:b'}{kvs:List (Key×V)} (e:H a=some (.dK kvs)):lQ K H (.ref a) (.type "dict")
 |dT {a:b'}{kvs:List (List Key×V)} (e:H a=some (.dT kvs)):lQ K H (.ref a) (.type "dict")
 |ins {a C dx:b'}{fs:List (Str×V)} (e:H a=some (.ins C dx fs)) (cl:oj K C) (ha:Ù K (.ref C) "__class__"=some (some (.builtin "object.__class__")))
   (hn:ļ K (.builtin "object.__class__") "__get__"=some (some (.builtin "getset_descriptor.__get__"))) (htk:Ŷ K (.builtin "object.__class__")=some true)
   (hm:Ă K C (.type "object")=some true):lQ K H (.ref a) (.ref C)
variable{M2 T5:f'}
theorem de{s}(I:Inv c z S e s)(g:RelV x M2)(B:lQ c.K e x T5)(d:ö c.K T5 M=some v)(h:∀D,C1 (.bool v) {s with toks:=D}):
  p' (k9 c.prog c.w) J (call (.builtin "isinstance") [M2,M]) C1 R s:=by
 cases B with
 |non=>cases (g);exact ü PySem.W.kitx_none I.eR Đ d (λb=>nomatch b) h
 |bl y=>cases (g);exact ü PySem.W.kitx_bool I.eR Đ d (λb=>nomatch b) h
 |int i=>obtain⟨T5,q⟩:=(g);cases q;exact ü PySem.W.kitx_int I.eR Đ d (λb=>nomatch b) h
 |str y=>obtain⟨T5,q⟩:=(g);cases q;exact ü PySem.W.kitx_str I.eR Đ d (λb=>nomatch b) h
 |flt y=>obtain⟨T5,q⟩:=(g);cases q;exact ü PySem.W.kitx_float I.eR Đ d (λb=>nomatch b) h
 |@lst a r j=>
  cases (g);refine xa (I.hok a _ j) λ_ f=>cW f λ_ n _ k=>?_
  exact ü acd I.eR ⟨_,k,rfl⟩ d (λb=>nomatch b) h
 |@dZ a N r j=>
  cases (g);refine qb (I.hok a _ j) λ_ _ f=>cW f λ_ n _ k=>?_
  exact ü acd I.eR ⟨_,k,rfl⟩ d (λb=>nomatch b) h
 |@tup a r j=>
  cases (g);refine xa (I.hok a _ j) λ_ f=>bD f λ_ _ p=>?_
  refine br p λo k m _=>?_
  exact ü aaT I.eR ⟨o,k,m⟩ d (λb=>nomatch b) h
 |@dK a t j=>
  cases (g);refine eI (I.hok a _ j) λ_ _ P _ p=>?_
  refine cg p λo E F k m _=>?_
  exact ü ace I.eR ⟨o,k,m.1⟩ d (λb=>nomatch b) h
 |@dT a t j=>
  cases (g);refine eI (I.hok a _ j) λ_ _ r _ f=>cg f λo E F k m _=>?_
  exact ü ace I.eR ⟨o,k,m.1⟩ d (λb=>nomatch b) h
 |@ins a C Q T j A G H u L=>
  cases (g);refine bD (jA I.hok j) λU O _=>?_
  refine bD O.look λV l _=>?_
  exact ü (PySem.W.kitx_own (A.get _) A.hd G H u L) I.eR l d (λb=>nomatch b) h
structure cz(k:Nat)(A:Ï):Prop where
 hd:A.handled=none
 dp:A.depth+3*k+5<recursionLimit
 un:A.units+16*k+200<È
theorem cz.mono(r:cz s J)(h:b<=s):cz b J:=⟨r.hd,by have:=r.dp;omega,by have:=r.un;omega⟩
theorem cz.deeper{k A}(r:cz (k+1) A)(env):cz k (A.deeper env):=
 ⟨r.hd,by have:=r.dp;show A.depth+1+3*k+5<_;omega,by have:=r.un;show A.units+3+16*k+200<_;omega⟩
theorem uB:(J.under (.builtin "type.__call__" ⟨.ref C::χ,m9⟩)).depth=J.depth+1:=by
 rfl
theorem uC:(J.under (.builtin "type.__call__" ⟨.ref C::χ,m9⟩)).units=J.units+1:=by
 rfl
theorem cz.make(r:cz (b+1) J)(C a c):cz b (J.under (.builtin "type.__call__" ⟨.ref C::a,c⟩)):=
 ⟨r.hd,by have:=r.dp;rw[uB];omega,by have:=r.un;rw[uC];omega⟩
theorem cz.depth{k A}(r:cz k A):A.depth<recursionLimit:=by have:=r.dp;omega
theorem cz.units{k A}(r:cz k A):A.units+64<È:=by have:=r.un;omega
noncomputable def Mn:TA:=λ_ H Q=>Q [] H
noncomputable def Mo(b:TE)(c:TA):TA:=λa H Q=>b a H λx d=>c a d λe f=>Q (x::e) f
theorem kj:PA c [] Mn:=λ_ _ _ _ H Q I h=>Ľ ⟨[],H,I,.nil,h⟩
theorem eD(e:PE c j π)(f:PA c I W2)(g:F' (j::I) c.env=(false,eval j c.env)::F' I c.env:=by rfl):PA c (j::I) (Mo π W2):=by
 intro i pins s d H Q a h;rw[g];refine Ğ (bZ (e _ s d H _ a h) λu k  b =>aJ b λx l m n o=>bZ (f _ _ k d l _ m o) λw y  b =>aJ b λz p q r t=>⟨_,p,q,.cons n r,t⟩)
def SK(t:TA):TE:=λc H Q=>t c H λa b=>a.length<=Y'/\∀p,b p=none->Q (.ref p) (upd b p (.tup a))
def SN(t:TA):TE:=λc H Q=>t c H λa b=>a.length<=Y'/\∀p,b p=none->Q (.ref p) (upd b p (.lst a))
theorem IV{x1}(h:PA c I W2):PE c (.Tuple I x1 l) (SK W2):=by
 intro pins s f H Q a g;refine acf (bZ (h _ _ s f H _ a g) λi k  j =>a8 j λm n d r z q=>⟨by rwa[←r.length],?_⟩)
 refine⟨.ref _,_,d.laid (λb u e=>Á _ e) (W' _) ?_,rfl,q _ (d.hok.fresh (W' _))⟩
 exact⟨z,i,r,⟨_,Ð _ rfl,rfl,_,rfl⟩⟩
theorem IW(h:PA c I W2):PE c (.List I l) (SN W2):=by
 intro pins s f H Q a g;refine wpAny_List_spliced (bZ (h _ _ s f H _ a g) λi k  j =>a8 j λm n d r z q=>⟨by rwa[←r.length],?_⟩)
 refine⟨.ref _,_,d.laid (λb u e=>Á _ e) (W' _) ?_,rfl,q _ (d.hok.fresh (W' _))⟩
 exact⟨z,i,0,r,Ð _ rfl⟩
abbrev Sp:=List V->Hp->VK->XK->Prop
abbrev DF:=List É->Hp->g'->XK->f'->g'->Prop
structure sd(P:Ä)(w:À)(K:M')(mg:Str->Option f')(base:D')(A:Ï)(outer:List É)(s:g')(H:Hp):Prop where
 frames:A.frames=some outer
 mod:Mod K mg base
 bs:∀b o,base.get? b=some o->s.heap.get? b=some o/\H b=none
 um:base.objs.size<=s.heap.objs.size
 gA:s.heap.FunFrames base outer
 x_:∀b∈frs outer,H b=none
 hok:jw P w H s.heap
 bare:ć s.gens
def CE(outer:List É)(P w H)(s:g')(Q:VK)(u)(a:g'):=
 ∃v b,a.os=s.os/\ć a.gens/\Un (frs outer) [] H b s.heap a.heap/\jw P w b a.heap/\RelV v u/\Q v b
def CR(CX:DF)(outer:List É)(P w H s Q E)(r:ų)(a:g'):=
 match r with
 |.ok (.ret u)=>CE outer P w H s Q u a
 |.ok _=>False
 |.error e=>CX outer H s E e a
structure bQ(P:Ä)(w:À)(K:M')(mg:Str->Option f')(base:D')(CX:DF)(k:Nat)(f:b')(fd:Å)(ps:List Str)(sp:Sp):Prop where
 len:∀vs H Q E,sp vs H Q E->vs.length=ps.length
 run:∀(A:Ï) (outer:List É) (s:g') (H:Hp) (args:Args) (us:List f') (vs:List V) (Q:VK) (E:XK),cz k A->sd P w K mg base A outer s H->ľ s fd args (ps.zip us)->Vals vs us->sp vs H Q E ->
  ç (k9 P w) A (.call (.ref f) args) (CR CX outer P w H s Q E) s
theorem bQ.mono{P w K a base CX j k f b c sp}(F:bQ P w K a base CX j f b c sp)(h:j<=k):
  bQ P w K a base CX k f b c sp:=⟨F.len,λA outer s H args d e Q E g=>F.run A _ s H _ d e Q E (g.mono h)⟩
variable{C4:Sp}{o5:DF}{ψ:Å}
theorem bQ.imp{e}(F:bQ y A G ν B o5 b h ψ g C4)(a:∀d H Q E,e d H Q E->C4 d H Q E):bQ y A G ν B o5 b h ψ g e:=
 ⟨λd H Q E q=>F.len d H Q E (a _ _ _ _ q),λc outer s H args f d Q E i j k l m=>F.run c _ s H _ f d Q E i j k l (a _ _ _ _ m)⟩
variable{m5:List É}
theorem sd.make(a:sd y A G ν B J m5 o e)(C b c):
  sd y A G ν B (J.under (.builtin "type.__call__" ⟨.ref C::b,c⟩)) m5 o e:=⟨by first|exact a.frames,a.mod,a.bs,a.um,a.gA,a.x_,a.hok,a.bare⟩
theorem Inv.env0(I:Inv c z S e o):sd c.prog c.w c.K c.mg c.base c.A c.stack o e:=
 ⟨I.ok.frames,I.ok.mod,I.bs,B' I.ok.um I.sz,I.stack,I.jx,I.hok,I.bare⟩
theorem Inv.after(I:Inv c z S e o)(h:CE c.stack c.prog c.w e o η M d7):EP c z S η M d7:=by
 refine fD h λv k l bare m f i=>xa i λr q=>?_
 obtain⟨n,g,d,t,j⟩:=d7;obtain rfl:j=o.os:=l;exact⟨v,k,I.call m f bare (λb a=>absurd a (by simp)),r,q⟩
noncomputable def Mp(sp:Sp)(a:List V)(E:XK)(t:TA):TE:=λb H Q=>t b H λc d=>sp (c++a) d Q E
noncomputable def Hx(C:b')(m:Str)(sp:Sp)(b:List V)(E:XK)(f:TE)(t:TA):TE:=λc H Q=>f c H λx d=>∃a g e,x=.ref a/\d a=some (.ins C g e)/\e.lookup m=none /\
 t c d λh i=>sp (x::(h++b)) i Q E
def Mq(C:b')(sp:Sp)(b:List V)(E:XK)(t:TA):TE:=λd H Q=>t d H λe c=>∀x a,c x=none->c a=none->a≠x ->
 sp (.ref x::(e++b)) (upd (upd c a (.own x)) x (.ins C a [])) (λv f=>v=.non/\Q (.ref x) f) E
def Binds(K:M')(d)(b:List Str)(c:List f'):=
 ∀s a,K.In s.heap->(a++c).length=b.length->ľ s d ⟨a,[]⟩ (b.zip (a++c))
theorem Binds.all(h:∀a,a.length=g.length->ŕ ψ ⟨a,[]⟩=pure (g.zip a)):Binds G ψ g []:=λs a _ b=>by
 rw[Ċ]at b ⊢;exact .of_eq (h a b)
def Passes(CX:DF)(X E):=∀pins (b:St) H s e a,Inv X pins b H s->CX X.stack H s E e a->X.xe e a
variable{B5:List f'}{Q1:XK}
theorem qu(F:bQ c.prog c.w c.K c.mg c.base o5 b h ψ g C4)(j:cz b c.A)(k:Binds c.K ψ g χ)(l:Vals N χ)(m:Passes o5 c Q1)(I:Inv c z S e o)(r:Vals W4 B5)(a:C4 (W4++N) e η Q1):p' (k9 c.prog c.w) c.A (call (.ref h) B5) (EP c z S η) c.xe o:=by
 have i:=r.append l;refine đ (Ē (F.run _ _ o e ⟨B5,[]⟩ _ _ η Q1 j I.env0 (k o B5 I.eR (by rw[←i.length];exact F.len _ _ _ _ a)) i a) λr n f=>?_)
 cases r with
 |error d=>exact m _ S e o d n I f
 |ok fl=>
  cases fl with
  |ret u=>exact I.after f
  |next=>exact ó f
  |brk=>exact ó f
  |cont=>exact ó f
theorem qv(F:bQ c.prog c.w c.K c.mg c.base o5 b h ψ g C4)(n:cz b c.A)(o:Gl c d)(p:c.mg d=some (.ref h))(t:Ó c.K (.ref h)=true)(u:Binds c.K ψ g χ)(x:Vals N χ)(y:Passes o5 c Q1)(z:PA c (j::I) W2)(i:(d==("__debug__"))=false:=by decide)(B:F' (j::I) c.env=(false,eval j c.env)::F' I c.env:=by rfl)(k:(Æ H (F' I c.env)).any (·.1)=false:=by rfl):
  PE c (.Call (.Name d l) (j::I) [] H) (Mp C4 N Q1 W2):=by
 intro pins s C e Q a f;refine ă (eB a o p ?_ i);refine Ŗ a.ok.mod.DO t (bZ (z _ _ s C e _ a f) λE G  D =>aJ D λJ L m r q=>⟨m.eR,qu F n u x y m r q⟩) B k
theorem DW{pl}(E:PE c O π)(f:oj c.K C)(t:Meth c.K C d h)(F:bQ c.prog c.w c.K c.mg c.base o5 b h ψ g C4)(G:cz b c.A)(J:Binds c.K ψ g χ)(L:Vals N χ)(M:Passes o5 c Q1)(P:PA c (j::I) W2)(n:F' (j::I) c.env=(false,eval j c.env)::F' I c.env:=by rfl)(o:(Æ l (F' I c.env)).any (·.1)=false:=by rfl)(R:eval (.Call (.Attribute O d H) (j::I) [] l) c.env=(do
   let y ←eval O c.env
   þ H.atName
   let (h,first) ←ÿ [y] (ď y d pl)
   ğ l h first (Æ l (F' (j::I) c.env)) (Ą l (ą [] c.env))):=by rfl):
  PE c (.Call (.Attribute O d H) (j::I) [] l) (Hx C d C4 N Q1 π W2):=by
 intro pins s z i Q e k;refine Ϩ (bZ (E _ s z i _ e k) λu S T=>?_) R;refine aJ T λx U B V p=>dO p λa dx fs X Y m q=>?_
 subst X;obtain rfl:u=Ü a:=V;refine je B Y f t m ?_;refine Ŗ e.ok.mod.DO t.kp (bZ (P _ _ S z U _ B q) λus s2  Z =>aJ Z λvs H2 D r q2=>⟨D.eR,?_⟩) n o
 exact qu (W4:=.ref a::vs) F G J L M D (.cons rfl r) q2
theorem zY{pl}(r:PE c j π)(e:oj c.K C)(o:Meth c.K C d h)(F:bQ c.prog c.w c.K c.mg c.base o5 b h ψ g C4)(t:cz b c.A)(y:Binds c.K ψ g χ)(z:Vals N χ)(B:Passes o5 c Q1)(D:eval (.Call (.Attribute j d H) [] [] l) c.env=(do
   let p ←eval j c.env
   þ H.atName
   let (h,first) ←ÿ [p] (ď p d pl)
   ğ l h first (Æ l (F' [] c.env)) (Ą l (ą [] c.env))):=by rfl):
  PE c (.Call (.Attribute j d H) [] [] l) (Hx C d C4 N Q1 π Mn):=by
 intro pins s E f Q I i;refine Ϩ (bZ (r _ s E f _ I i) λu O G=>?_) D;refine aJ G λx P m J n=>dO n λa R S L M k q=>?_
 subst L;obtain rfl:u=Ü a:=J;refine je m M e o k (aaU m.eR o.kp (qu (W4:=[.ref a]) F t y z B m (.cons rfl .nil) q))
structure Mk(K:M')(C f:b'):Prop where
 makes:aaO K C=true
 init:Ù K (.ref C) "__init__"=some (some (.ref f))
 fn:Ϧ K (.ref f)=true
 kp:Ó K (.ref C)=true
theorem sh(M:Mk c.K C h)(F:bQ c.prog c.w c.K c.mg c.base o5 b h ψ g C4)(m:cz (b+1) c.A)(n:Binds c.K ψ g χ)(p:Vals N χ)(q:Passes o5 c Q1)(I:Inv c z S e o)(r:Vals W4 B5)(f:∀x i,e x=none->e i=none->i≠x->C4 (.ref x::(W4++N)) (upd (upd e i (.own x)) x (.ins C i [])) (λv s=>v=.non/\η (.ref x) s) Q1):
  p' (k9 c.prog c.w) c.A (call (.ref C) B5) (EP c z S η) c.xe o:=by
 have k:=f _ _ (I.hok.fresh (ø _)) (I.hok.fresh (W' _)) (by simp)
 have j:=Inv.made (C:=C) I;have l:Vals (V.ref (o.heap.objs.size+1)::(W4++N)) _:=.cons rfl (r.append p)
 refine đ (zX I.eR M.makes M.init (beq_iff_eq.mp M.fn) (Ē (F.run _ _ _ _ ⟨_,[]⟩ _ _ _ Q1 (m.make C B5 [])
  (j.env0.make C B5 []) (n _ _ j.eR (by
  have a:=l.length;rw[F.len _ _ _ _ k]at a;exact a.symm)) l k) λr t d=>?_))
 cases r with
 |error a=>exact q _ S _ _ a t j d
 |ok fl=>
  cases fl with
  |ret u=>
   refine a8 (j.after d) λv y B D E G=>?_
   subst E;exact⟨D,⟨V.ref _,y,B,rfl,G⟩⟩
  |next=>exact ó d
  |brk=>exact ó d
  |cont=>exact ó d
theorem DX(M:Mk c.K C h)(F:bQ c.prog c.w c.K c.mg c.base o5 b h ψ g C4)(n:cz (b+1) c.A)(o:Gl c d)(p:c.mg d=some (.ref C))(t:Binds c.K ψ g χ)(u:Vals N χ)(x:Passes o5 c Q1)(y:PA c (j::I) W2)(i:(d==("__debug__"))=false:=by decide)(z:F' (j::I) c.env=(false,eval j c.env)::F' I c.env:=by rfl)(k:(Æ H (F' I c.env)).any (·.1)=false:=by rfl):
  PE c (.Call (.Name d l) (j::I) [] H) (Mq C C4 N Q1 W2):=by
 intro pins s B e Q a f;refine ă (eB a o p ?_ i);refine Ŗ a.ok.mod.DO M.kp (bZ (y _ _ s B e _ a f) λE G D=>?_) z k;refine aJ D λJ L m r q=>?_;refine⟨m.eR,sh M F n t u x m r q⟩
structure jB(N P:List Str)(sc:V'):Prop where
 kind:sc.kind=.function
 co:sc.isCoroutine=false
 gen:sc.isGenerator=false
 nd:N.Nodup
 pre:N.take P.length=P
 par:∀x∈P,sc.names.lookup x=some .local\/sc.names.lookup x=some .cell
 IX:∀y∈sc.names,y.2≠.free
theorem oV{kindOf x}:∀{binds}{m},(∀v,(x,v)∉binds)->Ŀ kindOf binds m x=m x
 |[],_,_=>rfl
 | (n,v)::r,m,h=>by
  unfold Ŀ;rw[oV (by grind)]
  split
  .grind
  .rfl
theorem oW{kindOf x}:∀{binds}{m},(∀v,(x,v)∉binds)->ŀ kindOf binds m x=m x
 |[],_,_=>rfl
 | (n,v)::r,m,h=>by
  unfold ŀ;rw[oW (by grind)]
  split
  .rfl
  grind
theorem oX{kindOf x v}:∀{P:List Str}{a}{i:Nat}{m},P.Nodup->P[i]?=some x->a[i]?=some v->kindOf x=some .local ->
  Ŀ kindOf (P.zip a) m x=some v
 |[],_,_,_,_,h,_,_=>by simp at h
 |_::_,[],_,_,_,_,h,_=>by simp at h
 |p::P,w::a,0,m,c,b,d,e=>by
  simp at b d;subst b;subst d
  show Ŀ _ ((p,w)::P.zip a) m p=_
  unfold Ŀ;rw[oV λv f=>(Ł.mp c).1 (Ÿ f).1,if_pos e]
  simp
 |p::P,w::a,i+1,m,c,b,d,e=>by
  unfold Ŀ;exact oX (Ł.mp c).2 (by simpa using b) (by simp_all) e
theorem oY{kindOf x v}:∀{P:List Str}{a}{i:Nat}{m},P.Nodup->P[i]?=some x->a[i]?=some v->kindOf x≠some .local ->
  ŀ kindOf (P.zip a) m x=some v
 |[],_,_,_,_,h,_,_=>by simp at h
 |_::_,[],_,_,_,_,h,_=>by simp at h
 |p::P,w::a,0,m,e,b,c,d=>by
  simp at b c;subst b;subst c
  show ŀ _ ((p,w)::P.zip a) m p=_
  unfold ŀ;rw[oW λv f=>(Ł.mp e).1 (Ÿ f).1,if_neg d]
  simp
 |p::P,w::a,i+1,m,e,b,c,d=>by
  unfold ŀ;exact oY (by simp_all) (by simpa using b) (by simp_all) d
noncomputable def start(N:List Str)(a:List V):St:=a.map some++Ź (N.length - a.length) none
noncomputable def dn(CX:DF)(P:Ä)(w:À)(K:M')(mg:Str->Option f')(base:D')(N:List Str)(qual:Str)(scope:V')(f:b')(b:f')(A:Ï)(outer:List É)(s:g')(H:Hp)(E:XK):Cx where
 prog:=P
 w:=w
 K:=K
 mg:=mg
 base:=base
 A:=A.deeper (Ñ qual scope s.heap.objs.size f b)
 N:=N
 s₀:=s
 H₀:=H
 env:=Ñ qual scope s.heap.objs.size f b
 outer:=outer
 stack:=Ñ qual scope s.heap.objs.size f b::outer
 ex:=[]
 calm:=true
 fn:=λ_=>true
 pn:=[]
 xe:=λe c=>p' (k9 P w) (A.deeper (Ñ qual scope s.heap.objs.size f b)) (ϩ (Ñ qual scope s.heap.objs.size f b) e) (λ_ a=>CX outer H s E e a) (λd a=>CX outer H s E d a) c
variable{ε:V'}
def sj(h:ε.names.lookup d=some .cell):=Option.isSome_iff_exists.mp (aaV _ b [] (.inl h))
variable{Δ:List Str}
theorem oZ(S:jB g Δ ε)(F:J.handled=none)(l:sd y A G ν B J m5 o e)(H:N.length=Δ.length)(r:Vals N χ)(x:InCallC o o.heap.objs.size (Ŀ (Ñ d ε o.heap.objs.size h M).kindOf (Δ.zip χ) λ_=>none) (cellsFrom (o.heap.objs.size+1) ε.names []) (ŀ (Ñ d ε o.heap.objs.size h M).kindOf (Δ.zip χ) λ_=>none) d7):
  Inv (dn o5 y A G ν B g d ε h M J m5 o e Q1) [] (start g N) e d7:=by
 have I:Δ.length<=g.length:=by have:=congrArg ŗ S.pre;grind
 obtain⟨w,O,rfl,C⟩:=x.done;have DY:∀b:b',b∉(dn o5 y A G ν B g d ε h M J m5 o e Q1).ex:=λb z=>absurd (show b∈([]:List b')from z) (by simp)
 refine⟨⟨l.mod,S.kind,rfl,rfl,W' _,λa z c w m=>?_,λa hy=>?_,λa c _ f=>?_,λ_=>F,Around.frames_deeper l.frames,.inr ⟨rfl,rfl⟩,λb z=>absurd z (DY b),l.bs,l.um,λb _ _=>DY b,λb z=>absurd z (DY b),l.gA,l.x_⟩,
  rfl,l.bare,Un.kept C,⟨_,x.toInCall.ns,λi a v w m P=>?_⟩,λa c f=>⟨_,x.cell a c f⟩,l.hok.fresh (W' _),λa c f=>?_,λp n=>absurd (show p∈([])from n) (by simp),l.hok.kept C,?_⟩
 .exact name_of_addr x.apart (ź w) (ź m)
 .rcases hy with hy|hy
  .exact sj hy
  .exact absurd rfl (S.IX _ (ź hy))
 .exact ñ (x.above a c (ź f))
 .have s:i<N.length:=by
   unfold start at m
   by_cases s:i<N.length
   .exact s
   .rw[ē (by simpa using s)]at m
    rw[aaW]at m
    simp_all
  have K:N[i]?=some v:=by
   unfold start at m;rw[ã (by simpa using s)]at m
   simp_all
  obtain⟨u,D,L⟩:=r.get K
  have n:Δ[i]?=some a:=by
   rw[←S.pre,Ż (U' s (R' H))];exact w
  have t:Δ.Nodup:=by rw[←S.pre];exact S.nd.sublist (Ϫ _ _)
  refine⟨u,L,?_⟩;rcases S.par a (Î n)with k|k
  .exact .inl ⟨k,oX t n D k⟩
  .obtain⟨c,j⟩:=sj k
   refine .inr ⟨.inl k,c,j,?_⟩;have q:=x.cell a c j;rwa[oY t n D (by show ε.names.lookup a≠_;rw[k];decide)]at q
 .have E:=l.hok.fresh (ñ (x.above a c (ź f)))
  exact⟨.inl E,λ_=>E⟩
 .unfold start
  show _=g.length
  simp_all
variable{Q4 m6:Option b'}{Q5:Array (Option f')}{T6 y6 z6:f'}{U:Str}
theorem zZ{params oc}(N:G.lookup h=some ⟨oc,m6,.func (Ý d U params N1 ε M M2 T5 y6 Q4 z6 T6),Q5⟩)(C:Ĕ G z6 U=true)(S:jB g Δ ε)(m:∀j H Q E,C4 j H Q E->j.length=Δ.length)(k:∀a outer s H j Q E,cz b (a.deeper (Ñ U ε s.heap.objs.size h z6))->C4 j H Q E ->
   ∃t,gS (dn o5 y A G ν B g U ε h z6 a outer s H E) N1 t/\t {nx:=λ_ i=>Q .non i,rt:=Q} (start g j) H):
  bQ y A G ν B o5 (b+1) h (Ý d U params N1 ε M M2 T5 y6 Q4 z6 T6) Δ C4:=by
 refine⟨m,λa outer s H args us j Q E D p O r w=>?_⟩
 have L:=p.mod.DO.keeps λc o e=>(p.bs c o e).1
 have F:=p.mod.nolimit.keeps λc o e=>(p.bs c o e).1
 refine acg D.depth (L _ _ N) rfl S.co S.gen rfl (ach L C) (O _ _ _ _ ?_)
 refine aci S.kind (λ⟨n,v⟩ P=>by
  rcases S.par n (Ÿ P).1 with q|q
  .exact .inl q
  .exact .inr ⟨q,aaV _ _ _ (.inl q)⟩) λR T X x=>?_
 subst T;refine⟨F.keeps x.toInCall.keep,codeAny_func ?_⟩;obtain⟨t,Y,Z⟩:=k a _ s H j Q E (D.deeper _) w;refine â (Y [] X _ H _ (oZ S D.hd p (m _ _ _ _ w) r x) Z) (λfl I l=>?_) λe I l=>l
 have z:∀{f:St}{i:Hp}{v:V}{u:f'},Inv (dn o5 y A G ν B g U ε h z6 a _ s H E) [] f i I->RelV v u->Q v i->CE outer y A H s Q u I:=
  λ{f i v u} J K q=>⟨v,i,J.os,J.bare,J.base,J.hok,K,q⟩
 cases fl with
 |ret u=>
  refine cg l λv f i J K q=>z J K q
 |next=>
  obtain⟨f,i,J,q⟩:=l;exact z (v:=V.non) J rfl q
 |brk=>
  obtain⟨_,_,_,q⟩:=l
  simp_all
 |cont=>
  obtain⟨_,_,_,q⟩:=l
  simp_all
noncomputable def Xr(r:List V->Hp->VK->Prop)(t:TA):TE:=λa H Q=>t a H λb c=>r b c Q
variable{A8:List V->Hp->VK->Prop}
theorem mR(i:eT c (.builtin G3) A8)(k:Gl c d)(m:c.mg d=none)(n:Č d=some (.builtin G3))(o:PA c (j::I) W2)(p:d≠"__name__":=by decide)(e:(d==("__debug__"))=false:=by decide)(q:F' (j::I) c.env=(false,eval j c.env)::F' I c.env:=by rfl)(f:(Æ H (F' I c.env)).any (·.1)=false:=by rfl):PE c (.Call (.Name d l) (j::I) [] H) (Xr A8 W2):=by
 intro pins s g b Q a h;refine ă (fj a k m n (ϫ (bZ (o _ _ s g b _ a h) λr t  u =>aJ u λw x y z A=>i _ t g x w r Q y z A) q f) p e)
theorem o_(i:eT c (.type G3) A8)(k:Gl c d)(m:c.mg d=none)(n:Č d=some (.type G3))(o:PA c (j::I) W2)(p:d≠"__name__":=by decide)(e:(d==("__debug__"))=false:=by decide)(q:F' (j::I) c.env=(false,eval j c.env)::F' I c.env:=by rfl)(f:(Æ H (F' I c.env)).any (·.1)=false:=by rfl):PE c (.Call (.Name d l) (j::I) [] H) (Xr A8 W2):=by
 intro pins s g b Q a h;refine ă (fj a k m n (ů (bZ (o _ _ s g b _ a h) λr t ⟨u,H1,I1,r1,q1⟩=>i _ t g H1 u r Q I1 r1 q1) q f) p e)
end L2
namespace HT
open PySem PyProof.Rows
noncomputable def jC(n d:Nat):Option Int->Nat
 |none=>d
 |some v=>if v<0 then (v+n).toNat else min v.toNat n
theorem sk(n d):jC n d none=d:=rfl
theorem mj(n d k:Nat):jC n d (some k)=min k n:=by
 rfl
theorem z_(n d)(a:d<=n)(o):jC n d o<=n:=by
 cases o with
 |none=>exact a
 |some v=>
  show(if v<0 then (v+(n)).toNat else min _ n)<=n
  grind
end HT
namespace L2
open PySem PySem.Spec PyProof.Rows
abbrev TO:=St->Hp->(Option Int->Hp->Prop)->Prop
def PO(X)(e:Option x')(t:TO):=
 ∀pins s (a:St) H Q,Inv X pins a H s->t a H Q ->
  p' (k9 X.prog X.w) X.A (evalPart e X.env) (λu c=>∃o b,Inv X pins a b c/\Ϭ u o/\Q o b) X.xe s
noncomputable def Mr(t:TE):TO:=λa H Q=>t a H λx b=>∃i,x=.int i/\Q (some i) b
variable{c:Cx}{j:x'}{π:TE}
theorem DZ(h:PE c j π):PO c (some j) (Mr π):=by
 intro pins s a H Q I b;refine bZ (h _ s a H _ I b) λu l d=>?_;refine aJ d λx e f g k=>?_
 obtain⟨i,rfl,q⟩:=k;obtain⟨t,rfl⟩:=g;exact⟨_,e,f,.int i t,q⟩
def IY(X)(r:V->Option Int->Option Int->Hp->VK->Prop):=
 ∀pins s (a:St) H x v b c d e f Q,Inv X pins a H s->RelV x v->s.heap.IsSliceOf f b c .none->Ϭ b d->Ϭ c e->r x d e H Q ->
  ∃T id,ϭ (.type T) "__getitem__"=pure (some (.builtin id))/\s.TypeIs v T/\p' (k9 X.prog X.w) X.A (Ř v (.ref f)) (EP X pins a Q) X.xe s
theorem IY.or{r d}(h:IY c r)(n:IY c d):IY c (λx a b H Q=>r x a b H Q\/d x a b H Q):=by
 intro pins s e H x v f g a b i Q I j k l m q;rcases q with q|q
 .exact h _ s e H x v f g a b i Q I j k l m q
 .exact n _ s e H x v f g a b i Q I j k l m q
noncomputable def YN(r:V->Option Int->Option Int->Hp->VK->Prop)(b:TE)(tl c:TO):TE:=λa H Q=>b a H λx d=>tl a d λl e=>c a e λu f=>r x l u f Q
variable{C7:Option x'}{H l:T'}
theorem hJ{g tl i r}(k:IY c r)(m:PE c j π)(n:PO c C7 tl)(o:PO c g i):PE c (.Subscript j (.Slice C7 g none H) l) (YN r π tl i):=by
 intro pins s e a Q I h;refine Ϯ (bZ (m _ s e a _ I h) λv p f=>?_);refine aJ f λx t w y z=>?_
 refine wpAny_Slice (bZ (n _ p e t _ w z) λA B  C =>aJ C λd D E F G=>bZ (o _ B e D _ E G) λJ S f=>?_);refine aJ f λu K L M N=>?_
 refine I' ?_;obtain⟨T,id,O,P,R⟩:=k _ _ e K x v A J d u _ Q (L.kept λb U q=>Á _ q) y (acj ..) F M N
 exact aaY P O R (by rfl)
def D9(xs:List V)(a b:Option Int):=(xs.drop (HT.jC xs.length 0 a)).take (HT.jC xs.length xs.length b - HT.jC xs.length 0 a)
theorem sm(xs a b):(D9 xs a b).length<=xs.length:=by
 unfold D9;rw[ý,ż];omega
noncomputable def DG(n:Nat)(i:Int):=if 0<=i then (if i<n then some i.toNat else none)else if -n<=i then some (i+n).toNat else none
def lp{a:Type}(xs:List a)(i):=(DG xs.length i).bind λj=>xs[j]?
variable{Q:Int}{b s:Nat}
theorem D_(h:DG b Q=some s):seqIndex? Q b=some s/\s<b /\ -b<=Q/\Q<b:=by
 unfold DG at h
 by_cases c:0<=Q
 .rw[if_pos c]at h
  by_cases a:Q<b
  .rw[if_pos a]at h
   have e:=aaD h;exact⟨by rw[seqIndex_of c a,e],by omega,by omega,a⟩
  simp_all
 .rw[if_neg c]at h
  by_cases a : -(b)<=Q
  .rw[if_pos a]at h
   have e:=aaD h;exact⟨by rw[seqIndex_neg (by omega) a,e],by omega,a,by omega⟩
  simp_all
theorem qw{b xs}{v:b}(h:lp xs Q=some v):∃j,seqIndex? Q xs.length=some j/\xs[j]?=some v/\j<xs.length /\ -xs.length<=Q/\Q<xs.length:=by
 unfold lp at h;cases e:DG xs.length Q with
 |none=>simp_all
 |some j=>
  refine qb (D_ e) λc d a=>xa a λf g=>?_
  simp_all
theorem cH{a xs}{v:a}(h:xs[b]?=some v):lp xs b=some v:=by
 have c:=(Ç.mp h).1
 have e:DG xs.length (b)=some b:=by
  unfold DG
  simp_all
 unfold lp;rwa[e]
variable{P2:Type}
theorem Aa(xs)(v:P2):lp (xs++[v]) (-1)=some v:=by
 have a:(xs++[v]).length=xs.length+1:=by simp
 have e:DG (xs++[v]).length (-1)=some xs.length:=by
  unfold DG;rw[a,if_neg (by decide),if_pos (by omega)]
  congr 1
  omega
 unfold lp;rw[e]
 show(xs++[v])[xs.length]?=some v
 simp
def v5(b):=∀o i,aaZ b false o i=operate [o,i] (Ř o i)
def Hy(X)(r:R2):=
 ∀b a pins s (c:St) H x y v u Q,Inv X pins c H s->RelV x v->RelV y u->r x y H Q ->
  aaZ a false v u=operate [v,u] (Ř v u)->p' (k9 X.prog X.w) X.A (subscriptTail b a v u) (EP X pins c Q) X.xe s
def Ms(X)(id:String)(r:V->List V->Hp->VK->Prop):=
 ∀pins s (a:St) H x b v c Q,Inv X pins a H s->RelV x v->Vals b c->r x b H Q ->
  p' (k9 X.prog X.w) X.A (call (.builtin id) (v::c)) (EP X pins a Q) X.xe s
variable{d5 o8:R2}
theorem Hy.or(h:Hy c d5)(i:Hy c o8):Hy c (λx y H Q=>d5 x y H Q\/o8 x y H Q):=by
 intro a b pins s d H x y v u Q I e f q g;rcases q with q|q
 .exact h _ _ _ s d H x y v u Q I e f q g
 .exact i _ _ _ s d H x y v u Q I e f q g
variable{O:x'}{Q2:TE}
theorem Hz(a:Hy c d5)(b:PE c j π)(d:PE c O Q2)(e:v5 O):PE c (.Subscript j O l) (LJ d5 π Q2):=by
 intro pins s f H Q I h;exact Ϯ (IK b d I h λv u g x y i k m n q=>a j O _ g f i x y v u Q k m n q (e _ _))
def Mt(K:M'):R2:=λx y H Q=>∃p a i v,x=.ref p/\y=.int i/\lP K H p a/\lp a i=some v/\Q v H
def Mu(K:M'):R2:=λx y H Q=>∃p a i v,x=.ref p/\y=.int i/\uq K H p a/\lp a i=some v/\Q v H
def SO:R2:=λx y H Q=>∃z i c,x=.str z/\y=.int i/\z.length<=Y'/\lp z.cps.toList i=some c/\Q (.str ⟨#[c]⟩) H
theorem Ea:Hy c (Mt c.K):=by
 intro b d pins s o H x y v u Q I A B h l;obtain⟨p,L,i,z,rfl,rfl,C,D,q⟩:=h;cases A;obtain⟨t,rfl⟩:=B;refine br (I.list C) λe r f M=>?_
 refine eu (qw D) λj m E N g=>xa g λF G=>?_
 obtain⟨w,O,k⟩:=r.get E;have P:=r.length;have R:=i_;have a:EP c _ o Q w s:=⟨z,H,I,k,q⟩
 by_cases n:0<=i
 .have J:i.toNat=j:=by
   rw[seqIndex_of n G]at m
   simp_all
  exact item_listR f.isList n (by omega) (by simp_all) a l
 .have J:(i+(e.toArray.size)).toNat=j:=by
   rw[seqIndex_neg (by omega) F]at m
   simp_all
  exact ack f.isList.typeIs aa_.lookup
   (wpAny_getItem_list_neg f.isList (by omega) (by simp_all) (by omega) (by simp_all) ⟨rfl,a⟩) l
theorem IZ:Hy c (Mu c.K):=by
 intro a b pins s B H x y v u Q I g k h l;obtain⟨p,C,i,z,rfl,rfl,m,n,q⟩:=h;cases g;obtain⟨t,rfl⟩:=k;refine br (I.tuple m) λo r f D=>?_
 refine eu (qw n) λj E A F d=>xa d λG J=>?_
 obtain⟨w,L,e⟩:=r.get A;have M:=r.length;have N:=i_
 exact ack f.typeIs slot_tuple_getitem.lookup
  (getItem_tuple (j:=j) f (by omega) (by omega) (by simp_all) (by simp_all) ⟨rfl,⟨z,H,I,e,q⟩⟩) l
def Xs(K:M'):R2:=λx y H Q=>Mt K x y H Q\/Mu K x y H Q\/SO x y H Q
theorem Ab:Hy c (Xs c.K):=Ea.or (IZ.or (by
  intro a b pins s r H x y v u Q I f g h k;obtain⟨z,i,d,rfl,rfl,w,l,q⟩:=h;obtain⟨t,rfl⟩:=f;obtain⟨A,rfl⟩:=g;refine eu (qw l) λj m B C e=>xa e λn o=>?_
  have p:z.cps.toList.length=z.length:=by rfl
  rw[p]at m n o;have D:=i_
  exact aaY (aa0 s z t) slot_str_getitem.lookup (getItem_str (by
   grind) (by grind) ⟨.str ⟨_⟩,H,I.tok _,⟨_,rfl⟩,q⟩) k))
theorem Inv.lst{X pins}{b:St}{H s p xs}(I:Inv X pins b H s)(h:H p=some (.lst xs)):
  ∃a n,Vals xs a/\s.heap.get? p=some {cls:=.type "list",data:=.seq a.toArray n}/\xs.length<=Y':=by
 obtain⟨z,a,n,r,e⟩:=I.hok p _ h;exact⟨_,n,r,e,z⟩
theorem qx(a b n):(ř a b none n).1=((HT.jC n 0 a))/\(ř a b none n).2.1=((HT.jC n n b))/\(ř a b none n).2.2=1:=by
 refine⟨?_,?_,rfl⟩
 .cases a with
  |none=>rfl
  |some i=>
   simp only[ř,HT.jC,acm,show(1)>0 by decide,if_true]
   grind
 .cases b with
  |none=>rfl
  |some i=>
   simp only[ř,HT.jC,acm,show(1)>0 by decide,if_true]
   grind
theorem oq(a:List f')(b c):ϯ a.toArray b c none=((a.drop (HT.jC a.length 0 b)).take (HT.jC a.length a.length c - HT.jC a.length 0 b)).toArray:=by
 obtain⟨d,e,f⟩:=qx b c _;unfold ϯ;rw[d,e,f];simp only[sliceRange_one,pick_run,ê]
def Mv(K:M'):V->Option Int->Option Int->Hp->VK->Prop:=λx c d H Q=>∃a b,x=.ref a/\lP K H a b/\∀p,H p=none->Q (.ref p) (upd H p (.lst (D9 b c d)))
theorem jD:IY c (Mv c.K):=by
 intro pins s t H x v u w f g y Q I i j k l h;obtain⟨a,m,rfl,n,q⟩:=h;cases i;obtain⟨o,r,e,p⟩:=I.list n;have d:=r.length;refine⟨_,_,aa_.lookup,e.isList.typeIs,?_⟩;refine acn e.isList j k l .none (by simp) ?_ (by simp_all)
 rw[oq,←d];refine⟨.ref _,_,I.laid (λb z q=>Á _ q) (W' _) ?_,rfl,q _ (I.hok.fresh (W' _))⟩
 exact⟨B' (sm m f g) p,_,0,(r.drop _).take _,Ð _ rfl⟩
theorem qy:eT c (.builtin "len") (λxs H Q=>∃p b,xs=[.ref p]/\(lP c.K H p b\/uq c.K H p b)/\Q (.int b.length) H):=by
 intro pins s j H xs k Q I r h;obtain⟨p,b,rfl,hq,q⟩:=h;obtain⟨u,rfl,g⟩:=vals1 r;cases g;have l:=i_;rcases hq with hq|hq
 .obtain⟨d,e,f,i⟩:=I.list hq
  have a:=e.length;exact Calls.call_len_list f.isList (by grind) ⟨.int _,H,I.tok _,⟨s.toks+1,by grind⟩,q⟩
 .obtain⟨d,e,f,i⟩:=I.tuple hq
  have a:=e.length;exact len_tuple f (by grind) ⟨.int _,H,I.tok _,⟨s.toks+1,by grind⟩,q⟩
theorem qz:eT c (.builtin "len") (λxs H Q=>∃z,xs=[.str z]/\z.length<=Y'/\Q (.int z.length) H):=by
 intro pins s a H xs b Q I r h;obtain⟨z,rfl,d,q⟩:=h;obtain⟨u,rfl,t,rfl⟩:=vals1 r;have e:=i_;exact len_str (by omega) ⟨.int _,H,I.tok _,⟨_,rfl⟩,q⟩
theorem jE:eT c (.type "list") (λxs H Q=>∃p f,xs=[.ref p]/\(lP c.K H p f\/uq c.K H p f)/\∀l,H l=none->Q (.ref l) (upd H l (.lst f))):=by
 intro pins s B H xs D Q I r h;obtain⟨p,f,rfl,hq,q⟩:=h;obtain⟨u,rfl,C⟩:=vals1 r;cases C
 have j:∀(a:List _),Vals f _->f.length<=Y'->∀(d:D') (i:Nat),(∀b A,s.heap.get? b=some A->d.get? b=some A) ->
   d.get? _=some _->EP c _ B Q _ _:=λa g k d i m e=>
  ⟨.ref _,_,I.laid (t':=s.toks) m (W' _) (show dE _ _ _ d _ (.lst f)from⟨k,a,i,g,e⟩),rfl,q _ (I.hok.fresh (W' _))⟩
 rcases hq with hq|hq
 .obtain⟨a,g,w,k⟩:=I.list hq
  have t:=g.length;obtain⟨o,x,y,n,z⟩:=w.isList;exact aco p (.inl rfl) x y z (λd i m e=>j _ g k d i m e) (by grind)
 .obtain⟨a,g,w,k⟩:=I.tuple hq
  have t:=g.length;obtain⟨o,x,y,n,z⟩:=w;exact aco p (.inr rfl) x y z (λd i m e=>j _ g k d i m e) (by grind)
theorem ou:eT c (.type "tuple") (λxs H Q=>∃p a,xs=[.ref p]/\((lP c.K H p a/\∀l,H l=none->Q (.ref l) (upd H l (.tup a)))\/(uq c.K H p a/\Q (.ref p) H))):=by
 intro pins s w H xs x Q I r h;obtain⟨p,a,rfl,h⟩:=h;obtain⟨u,rfl,n⟩:=vals1 r;cases n;rcases h with ⟨d,q⟩|⟨d,q⟩
 .obtain⟨f,g,i,j⟩:=I.list d
  have k:=g.length;refine call_tuple_list i.isList (λy t=>?_) (by grind)
  have m:=I.kept (t':=s.toks) t;exact⟨.ref _,_,(m.laid (λb o e=>Á _ e) (W' _) (show dE _ _ _ _ _ (.tup a)from⟨j,_,g,IsTup.new _ _⟩)),rfl,q _ (m.hok.fresh (W' _))⟩
 .obtain⟨f,g,i,j⟩:=I.tuple d
  exact call_tuple_same i ⟨.ref p,H,I,rfl,q⟩
def LK(K:M')(T:String)(x:V)(H:Hp):Prop:=match x with
 |.str _=>T="str"
 |.int _=>T="int"
 |.ref p=>(T="list"/\∃b,lP K H p b)\/(T="tuple"/\∃o,K.lookup p=some o/\o.cls=.type "tuple"/\o.dict=none) \/
   (T="dict"/\((∃a,H p=some (.dK a))\/∃a,H p=some (.dT a)))\/(T="set"/\∃S n,H p=some (.set S n))
 |_=>False
variable{G3:String}{M:f'}{S:St}{e:Hp}{o:g'}{x:V}{z:List (b'×Obj)}
theorem Ac(I:Inv c z S e o)(r:RelV x M)(k:LK c.K G3 x e):
  o.TypeIs M G3/\∀a,M=.ref a->∃u,o.heap.get? a=some u/\u.dict=none:=by
 cases x with
 |str f=>
  obtain⟨t,rfl⟩:=r;cases (k);exact⟨aa0 o f t,by simp⟩
 |int i=>
  obtain⟨t,rfl⟩:=r;cases (k);exact⟨aa1 o i t,by simp⟩
 |ref p=>
  cases r;rcases k with ⟨rfl,D,A⟩|⟨rfl,b,g,B,w⟩|⟨rfl,g⟩|⟨rfl,l,n,g⟩
  .refine br (I.list A) λC _ y _=>?_
   refine⟨y.isList.typeIs,λa d=>?_⟩
   refine a8 y λb n d m w _=>?_
   simp_all
  .refine⟨⟨b,I.eR p b g,B⟩,λa d=>?_⟩
   cases d;exact⟨b,I.eR _ b g,w⟩
  .have f:∃b,o.heap.get? p=some b/\b.ExactDict:=by
    rcases g with ⟨q,g⟩|⟨q,g⟩
    .refine eI (I.hok p _ g) λ_ _ _ _ h=>cg h λb _ _ d j _=>?_
     grind
    .refine eI (I.hok p _ g) λ_ _ _ _ h=>cg h λb _ _ d j _=>?_
     grind
   refine bD f λb d j=>?_
   refine⟨⟨b,d,j.1⟩,λa s=>?_⟩
   cases s;exact⟨b,d,j.2.1⟩
  .refine bF (I.hok p _ g) λb _ _ _ d j _=>?_
   refine⟨⟨b,d,j.1⟩,λa s=>?_⟩
   cases s;exact⟨b,d,j.2.1⟩
 |_=>exact ó k
noncomputable def Mw(K:M')(T:String)(r:V->List V->Hp->VK->Prop)(b:TE):TE:=λc H Q=>b c H λx a=>LK K T x a/\r x [] a Q
noncomputable def YO(K:M')(T:String)(r:V->List V->Hp->VK->Prop)(c:TE)(t:TA):TE:=λa H Q=>c a H λx b=>LK K T x b/\t a b λd e=>r x d e Q
variable{E5:String}{Z7:V->List V->Hp->VK->Prop}{d:Str}
theorem Ad(m:ϰ G3)(slot:ϱ G3 d E5)(f:ϲ (.builtin E5)=pure (.type "method_descriptor"))(n:Ms c E5 Z7)(o:PE c j π)(a:ĉ j d c.env (eval j c.env)=eval j c.env:=by rfl)(b:(l.endLine==H.line)=true:=by rfl):PE c (.Call (.Attribute j d l) [] [] H) (Mw c.K G3 Z7 π):=by
 intro pins s g e Q I h;refine acp a b (bZ (o _ s g e _ I h) λv p q=>?_);refine a8 q λx r i k t u=>?_
 obtain⟨w,y⟩:=Ac i k t;exact⟨G3,E5,m,slot,f,w,y,Ž rfl (aa2 (n _ p g r x [] v [] Q i k .nil u))⟩
variable{I:List x'}{W2:TA}
theorem Mx(q:ϰ G3)(slot:ϱ G3 d E5)(k:ϲ (.builtin E5)=pure (.type "method_descriptor"))(r:Ms c E5 Z7)(t:PE c j π)(u:PA c (O::I) W2)(a:ĉ j d c.env (eval j c.env)=eval j c.env:=by rfl)(g:((Æ H (F' (O::I) c.env)).all (λx=>!x.1)&&(Ą H (ą [] c.env)).all (λx=>x.1.isSome)
   && decide ((O::I).length+([]:List ϳ).length+(if ([]:List ϳ).isEmpty then 0 else 1)<30))=true:=by rfl)(b:(l.endLine==H.line)=true:=by rfl)(w:F' (O::I) c.env=(false,eval O c.env)::F' I c.env:=by rfl)(i:(Æ H (F' I c.env)).any (·.1)=false:=by rfl):
  PE c (.Call (.Attribute j d l) (O::I) [] H) (YO c.K G3 Z7 π W2):=by
 intro pins s m e Q f h;refine wpAny_Call_method_late a g b rfl (bZ (t _ s m e _ f h) λv y z=>?_);refine a8 z λx A n o B C=>?_
 obtain⟨D,E⟩:=Ac n o B;refine⟨G3,E5,q,slot,k,D,E,?_⟩;have p:=u H _ y m A _ n C;rw[w]at p ⊢;refine Ž (by simp_all) (acq (bZ p λF G  J =>aJ J λL M N P R=>r _ G m M x L v F Q N o P R))
def Pu(X)(id:String)(r:V->List V->Hp->VK->Prop):=
 ∀pins s (a:St) H x b v c Q,Inv X pins a H s->RelV x v->Vals b c->r x b H Q ->
  p' (k9 X.prog X.w) X.A (call (.builtin id) (v::c)) (EP X pins a Q) X.xe s
variable{χ:List f'}
def Vals.one(h:Vals [x] χ):=vals1 h
variable{D1:V}
def Vals.two(h:Vals [x,D1] χ):=vals2 h
theorem Vals.zero:∀{a},Vals [] a->a=[]
 |_,.nil=>rfl
theorem Vals.reverse{xs a}(h:Vals xs a):Vals xs.reverse a.reverse:=by
 induction h with
 |nil=>exact .nil
 |cons r t b=>rw[Ĩ,Ĩ];exact Vals.append b (.cons r .nil)
variable{B5:List f'}{N W4:List V}{h:b'}{Ξ:Nat}
theorem Inv.Ae{s f}(I:Inv c z S e s)(d:e h=some (.lst N))(a:s.heap.get? h=some {cls:=.type "list",data:=.seq χ.toArray b})(g:f χ.toArray=B5.toArray)(i:Vals W4 B5)(hz:W4.length<=Y'):
  Inv c z S (upd e h (.lst W4)) {s with heap:=s.heap.update h (ł f),toks:=Ξ}:=by
 have q:=ad_ a f;rw[g]at q;refine I.write (by rw[d];exact trivial) (.inl rfl) (λl u j k=>(ĕ _ _ (Ê j)).trans k) ⟨_,q⟩ ⟨hz,_,_,i,q⟩
theorem Inv.SQ{s}(I:Inv c z S e s)(a:Vals N χ)(hz:N.length<=Y'):
  Inv c z S (upd e s.heap.objs.size (.lst N)) {s with heap:=s.heap.push {cls:=.type "list",data:=.seq χ.toArray},toks:=b}:=
 I.laid (λ_ _ q=>Á _ q) (W' _) ⟨hz,_,0,a,Ð _ rfl⟩
def Inv.fresh{X pins}{a:St}{H s}(I:Inv X pins a H s):=I.hok.fresh (W' _)
theorem Inv.yh(I:Inv c z S e o)(g:e h=some (.lst N)):N.length<=Y'/\∃a n,Vals N a/\N.length=a.length/\o.heap.get? h=some {cls:=.type "list",data:=.seq a.toArray n}:=by
 refine xa (I.hok h _ g) λb f=>cW f λa n r d=>⟨b,_,n,r,r.length,d⟩
theorem Af(h:b<=Y'):ad0 b=false:=decide_eq_false (Nat.not_lt_of_le h)
def v8:V->List V->Hp->VK->Prop:=λx b H Q=>∃l a y,x=.ref l/\b=[y]/\H l=some (.lst a)/\a.length<Y'/\Q .non (upd H l (.lst (a++[y])))
theorem pd:Pu c "list.append" v8:=by
 intro pins s j H x k v m Q I d f h;obtain⟨l,o,y,rfl,rfl,b,p,q⟩:=h;cases d;obtain⟨u,rfl,g⟩:=f.one;refine xa (I.yh b) λz a=>aJ a λi n r t e=>?_
 refine ĩ acr ⟨_,e,rfl⟩ F.entry_list_append (F.args_list_append_2 _ _) (PySem.list_append l _ n u (by simp_all)) ⟨e,?_⟩
 refine⟨.non,_,I.Ae b e (by simp) (r.append (.cons g .nil)) ?_,rfl,q⟩
 grind
def v_:V->List V->Hp->VK->Prop:=λx d H Q=>∃l b a c,x=.ref l/\d=[.ref b]/\H l=some (.lst a)/\H b=some (.lst c)/\a.length+c.length<=Y'/\Q .non (upd H l (.lst (a++c)))
theorem yi:Pu c "list.extend" v_:=by
 intro pins s C H x D v E Q I m o h;refine bP h λl b G J g i k p K q=>?_;subst g;subst i
 cases m;obtain⟨u,rfl,t⟩:=o.one;cases t;refine xa (I.yh k) λz a=>aJ a λj n r L e=>?_
 refine xa (I.yh p) λM a=>aJ a λf w y A B=>?_
 have d:j.toArray.size+f.toArray.size<=Y':=by simp_all
 refine ĩ acs ⟨_,e,rfl⟩ F.entry_list_extend (F.args_list_extend_2 _ _)
  (AutoSeq1.list_extend_list_list_0 l _ n b _ w (by
  rw[Af d];simp) (B' (Ė _ _) d) (aa3 d)) ⟨e,B,?_⟩
 refine⟨.non,_,I.Ae k e (by simp) (r.append y) ?_,rfl,q⟩
 grind
def Ag:V->List V->Hp->VK->Prop:=λx b H Q=>∃l a,x=.ref l/\b=[]/\H l=some (.lst a)/\Q .non (upd H l (.lst a.reverse))
def uD:V->List V->Hp->VK->Prop:=λx a H Q=>∃l b,x=.ref l/\a=[]/\H l=some (.lst b)/\Q .non (upd H l (.lst []))
theorem Ah:Pu c "list.clear" uD:=by
 intro pins s i H x j v k Q I d f h;obtain⟨l,m,rfl,rfl,b,q⟩:=h;cases d;have a:=f.zero;subst a;obtain⟨z,g,n,r,o,e⟩:=I.yh b;refine ĩ acu ⟨_,e,rfl⟩ F.entry_list_clear (F.args_list_clear_1 _) (AutoSeq1.list_clear_list_0 l _ n (by grind)) ⟨e,?_⟩
 exact⟨.non,_,I.Ae b e rfl .nil (Ë _),rfl,q⟩
variable{B7:Option V}{i5:Option f'}
section
variable{κ:Type}[DecidableEq κ]
noncomputable def lR(kvs:List (κ×V))(k):=(kvs.find? λa=>decide (a.1=k)).map (·.2)
noncomputable def putK(kvs)(k:κ)(v:V):=
 if (kvs.any λa=>decide (a.1=k))=true then kvs.map (λa=>if a.1=k then (a.1,v)else a)else kvs++[(k,v)]
theorem mS{p r}{k:κ}(e:p.1=k):lR (p::r) k=some p.2:=by simp[lR,Ī,e]
theorem mT{p r}{k:κ}(e:¬ p.1=k):lR (p::r) k=lR r k:=by simp[lR,Ī,e]
theorem lr(kvs)(k:κ)(v):(putK kvs k v).length<=kvs.length+1:=by
 unfold putK
 grind
theorem iZ.pe(r:iZ B7 i5):B7.isSome=i5.isSome:=by
 cases B7 with
 |none=>cases i5 with
  |none=>rfl
  |some _=>exact(r).elim
 |some _=>cases i5 with
  |none=>exact(r).elim
  |some _=>rfl
theorem KV.val{kvs c}(r:KV kvs c)(k:κ):iZ (lR kvs k) (Ġ c k):=by
 induction r with
 |nil=>exact Đ
 |@cons p q g a h t i=>
  obtain⟨d,j⟩:=h
  by_cases e:p.1=k
  .have b:Ġ (q::a) k=some q.2:=by simp[Ġ,Ī,(d.symm.trans e)]
   rwa[mS e,b]
  .have f:¬ q.1=k:=λz=>e (d.trans z)
   have b:Ġ (q::a) k=Ġ a k:=by simp[Ġ,Ī,f]
   rwa[mT e,b]
theorem KV.any{kvs b}(r:KV kvs b)(k:κ):(kvs.any λa=>decide (a.1=k))=b.any λa=>decide (a.1=k):=by
 induction r with
 |nil=>rfl
 |cons h t c=>simp_all
theorem KV.repl{kvs b}(r:KV kvs b)(k:κ)(d:RelV x M):
  KV (kvs.map λa=>if a.1=k then (a.1,x)else a) (b.map λa=>if a.1=k then (a.1,M)else a):=by
 induction r with
 |nil=>exact .nil
 |@cons p q e f h t c=>
  refine .cons ?_ c
  grind
theorem KV.put{kvs a}(r:KV kvs a)(k:κ)(b:RelV x M):KV (putK kvs k x) (Ś a k M):=by
 unfold putK Ś;rw[r.any k]
 by_cases e:(a.any λc=>decide (c.1=k))=true
 .rw[if_pos e,if_pos e];exact r.repl k b
 .rw[if_neg e,if_neg e];exact Paired.snoc r ⟨rfl,b⟩
theorem KV.length{kvs:List (κ×V)}{a}(r:KV kvs a):kvs.length=a.length:=ũ r
end
variable{A:À}{N7:Key}{y:Ä}
theorem sr(r:RelV (kV N7) M):(cC y A).is N7 M=true:=by
 cases N7 with
 |inl i=>obtain⟨t,e⟩:=(r);subst e;exact x5 i t
 |inr x=>obtain⟨t,e⟩:=(r);subst e;exact oO x t
abbrev KT(H:Hp):List (List Key×V)->List (List Key×b'×f')->Prop:=í λp q=>p.1=q.1/\H q.2.1=some (.tup (p.1.map kV))/\RelV p.2 q.2.2
variable{B:D'}{M0:HO}
def HD(ok:jw y A e B)(a:Rd e h M0):=a.ok ok
variable{E4:List (Key×V)}
theorem fX(ok:jw y A e B)(a:Rd e h (.dK E4)):E4.length<=Y'/\(h==ě)=false/\∃b,KV E4 b/\B.DictOf (cC y A) h b:=
 HD ok a
def qA(H a y)(r:Option V):=
 (∃b k,Rd H a (.dK b)/\y=kV k/\r=lR b k)\/False
def yj(H a y v c):=
 (∃b k,H a=some (.dK b)/\y=kV k/\b.length<Y'/\c=upd H a (.dK (putK b k v)))\/False
theorem qA.k{H a kvs k}(e:H a=some (.dK kvs)):qA H a (kV k) (lR kvs k):=.inl ⟨_,k,.inl e,rfl,rfl⟩
theorem yj.k{H a kvs k v}(e:H a=some (.dK kvs))(b:kvs.length<Y'):yj H a (kV k) v (upd H a (.dK (putK kvs k v))):=.inl ⟨_,k,e,rfl,b,rfl⟩
theorem Inv.big(I:Inv c z S e o):ě<o.heap.objs.size:=ā (by decide) ((I.mod.glob.keeps I.bk).lt)
variable{C1 R:f'->g'->Prop}{J:Ï}
theorem yk(t:J.units+1<È)(I:Inv c z S e o)(g:qA e h x (some D1))(n:RelV x M)(a:∀d m,Inv c z S e m->RelV D1 d->C1 d m):
  p' (k9 c.prog c.w) J (Ř (.ref h) M) C1 R o:=by
 rcases g with ⟨p,k,b,q,l⟩|bad
 .subst q
  refine eI (fX I.hok b) λf u y i r=>?_
  obtain⟨d,s,j⟩:=iZ.some_of (by rw[l];exact i.val k)
  exact wpAny_getItem_of (sr n) r.mapOf s (a d _ (I.tok _) j)
 simp_all
theorem SR(r:J.units+1<È)(I:Inv c z S e o)(g:qA e h x B7)(j:RelV x M)(a:∀i,Inv c z S e i->C1 (.bool B7.isSome) i):
  p' (k9 c.prog c.w) J (Þ .In M (.ref h)) C1 R o:=by
 rcases g with ⟨m,k,b,n,l⟩|bad
 .subst n
  refine eI (fX I.hok b) λd p s f q=>?_
  refine wpAny_in_of (sr j) p q.mapOf ?_;rw[←(f.val k).pe,←l];exact a _ (I.tok _)
 simp_all
theorem Eb(r:J.units+1<È)(I:Inv c z S e o)(g:qA e h x B7)(j:RelV x M)(a:∀i,Inv c z S e i->C1 (.bool (!B7.isSome)) i):
  p' (k9 c.prog c.w) J (Þ .NotIn M (.ref h)) C1 R o:=by
 rcases g with ⟨m,k,b,n,l⟩|bad
 .subst n
  refine eI (fX I.hok b) λd p s f q=>?_
  refine wpAny_notIn_of (sr j) p q.mapOf ?_;rw[←(f.val k).pe,←l];exact a _ (I.tok _)
 simp_all
theorem wa{s}(I:Inv c z S e s)(g:Po (e h))(i:Ķ h s.heap B)(j:∃q,B.get? h=some q)(f:dE c.prog c.w (upd e h M0) B h M0):
  Inv c z S (upd e h M0) {s with heap:=B,toks:=b}:=
 I.write g (.inl rfl) (λa q k d=>(i.2 a k).trans d) j f
theorem uE{a}(z:E4.length<=Y')(c:(h==ě)=false)(b:KV E4 a)(d:B.DictOf (cC y A) h a):
  dE y A e B h (.dK E4):=⟨z,c,a,b,d⟩
variable{M2:f'}{N2:Unit->g'->Prop}{ξ:Hp}
theorem ym(B:J.units+1<È)(I:Inv c z S e o)(g:yj e h x D1 ξ)(n:RelV x M)(p:RelV D1 M2)(b:∀m,Inv c z S ξ m->N2 () m):
  p' (k9 c.prog c.w) J (setItem (.ref h) M M2) N2 R o:=by
 rcases g with ⟨j,k,a,r,l,s⟩|bad
 .subst r s
  refine eI (fX I.hok (.inl a)) λd t C f u=>?_
  refine wpAny_setItem_pairs (hsz:=(by rw[←f.length];exact d)) (sr n) u λD i y=>b _ ?_
  exact wa I (by rw[a];exact Đ) y (ew (i) λq _ _ A _=>⟨q,A⟩) (uE (by have:=lr j k D1;exact B' this l) t (f.put k p) i)
 simp_all
theorem My(I:Inv c z S e o)(b:Rd e h (.dK E4))(d:∀t g,Inv c z S e g->C1 (.int E4.length t) g):p' (k9 c.prog c.w) J (call (.builtin "len") [.ref h]) C1 R o:=by
 refine eI (fX I.hok b) λa i k f j=>?_
 refine call_len_dict i j (by rw[←f.length];rw[Ĉ]at a;exact DL a) ?_
 rw[←f.length];exact d _ _ (I.tok _)
def Mz(i):=∀a b,aaZ i false a b=operate [a,b] (Ř a b)
variable{B4:É}
theorem Ec(k:ϭ (.type G3) "__getitem__"=pure (some (.builtin E5)))(m:Mz O)(h:p' (k9 y A) J (eval j B4) (λa d=>p' (k9 y A) J (eval O B4) (λi b=>b.TypeIs a G3/\p' (k9 y A) J (Ř a i) C1 R b) R d) R o):
  p' (k9 y A) J (eval (.Subscript j O l) B4) C1 R o:=by
 refine Ϯ (â h (λa d e=>â e (λi b c=>?_) λ_ _ x=>x) λ_ _ x=>x)
 obtain⟨n,c⟩:=c;refine j' ?_;refine j' (acv n k ?_)
 first
  |exact I' (j' (by
  rw[m a i];exact wpAny_operating (â c (λr g f=>j' (wpAny_letTemporaryGo (I' f))) λ_ _ x=>x)))
noncomputable def MA(td d:TE):TE:=λb H Q=>td b H λx e=>d b e λy c=>∃a v,x=.ref a/\qA c a y (some v)/\Q v c
noncomputable def MB(td d e:TE):TS:=λD b H=>e b H λv f=>td b f λx g=>d b g λy h=>∃a c,x=.ref a/\yj h a y v c/\D.nx b c
theorem Ed(m:c.A.units+1<È)(n:PE c j π)(o:PE c O Q2)(p:Mz O):PE c (.Subscript j O l) (MA π Q2):=by
 intro pins s f H Q I h;refine Ec PySem.F.slot_dict_getitem.lookup p (bZ (n _ s f H _ I h) λu q  r =>aJ r λx t w z B=>bZ (o _ q f t _ w B) λN P C=>?_);refine aJ C λy D i E b=>aJ b λa v G g J=>?_
 subst G;obtain rfl:u=Ü a:=z
 exact⟨by
   rcases g with ⟨K,k,e,_,_⟩|bad
   .refine eI (fX i.hok e) λ_ _ R _ L=>?_
    exact L.typeIs
   simp_all,yk m i g E λS T M d=>⟨v,D,M,d,J⟩⟩
variable{N8:TE}{y2:x'}
theorem Ee(i:c.A.units+1<È)(k:PE c j π)(m:PE c O Q2)(n:PE c y2 N8)(o:ò y2 (some (.Subscript j O H)) l.line c.env=pure false):
  PS c (.Assign [.Subscript j O H] y2 l) (MB π Q2 N8):=by
 intro pins s e b D I h;refine wpAny_Assign_Subscript (bZ (n _ s e b _ I h) λr p d=>?_) o;refine aJ d λv q t w z=>?_;refine bZ (k _ p e q _ t z) λu B d=>?_;refine aJ d λx C E F G=>?_;refine bZ (m _ B e C _ E G) λQ R d=>?_;refine aJ d λy S J K f=>aJ f λa L M g N=>?_
 subst M;obtain rfl:u=Ü a:=F;exact ym i J g K w λT P=>⟨e,L,P,N⟩
def I_:TE:=λ_ H Q=>∀p,H p=none->Q (.ref p) (upd H p (.dK []))
theorem Ai:PE c (.Dict [] [] l) I_:=λpins s a H Q I h=>
 wpAny_Dict_empty ⟨.ref _,_,I.laid (λ_ _ q=>Á _ q) (W' _) (by
   exact⟨Ë _,beq_eq_false_iff_ne.mpr (Ê (O' I.big)),[],.nil,acw _⟩),rfl,h _ (I.hok.fresh (W' _))⟩
def YP(H a):=(∃b,Rd H a (.dK b))\/False
theorem Aj(I:Inv c z S e o)(d:YP e h):
  o.TypeIs (.ref h) "dict"/\(∀b,Ü h=.ref b->∃f,o.heap.get? b=some f/\f.dict=none)/\(h==ě)=false:=by
 rcases d with ⟨i,a⟩|bad
 .refine eI (fX I.hok a) λ_ j m _ g=>?_
  refine⟨g.typeIs,λb q=>?_,j⟩
  cases q;refine cg g λf _ _ k l _=>⟨f,k,l.2.1⟩
 simp_all
end L2
namespace Xt
open PySem PySem.W PySem.Calls PyProof.Rows
variable{B:D'}
theorem lS{P}:∀c d,WellAll P B d (c.map WData.int)->ž d c:=by
 intro c
 induction c with
 |nil=>
  intro d w;cases w;exact .nil
 |cons n c e=>
  intro d w;cases w with
  |cons a b=>
   cases a;exact .cons _ _ (e _ b)
variable{b:Nat}{χ:List f'}
theorem yn{l:OpenLaw}(j:l.most=some b){P args}(c:l.row.toRowW.claim.pre args=true)(g:WellAll P B χ args):
  ∃a i e,χ=[Ü a]/\args=[WData.list (e.map WData.int)]/\B.get? a=some {cls:=.type "list",data:=.seq i.toArray}/\ž i e/\e.length<=b:=by
 obtain⟨d,r,rfl,k,m⟩:=hasAllW_cons ((pre_splitW c).1);obtain rfl:=hasAllW_nil m;obtain⟨s,rfl,n⟩:=hasW_list k;obtain⟨e,rfl⟩:=items_int n;cases g with
 |cons o p=>
  cases p;cases o with
  |list q f=>exact⟨_,_,e,rfl,rfl,q,lS e _ f,(by
  have h:=by
   have h:=(holds_andW ((pre_splitW c).2)).1;rwa[j]at h
  have t:=condW_of h (w_not (w_lt w_lit (w_len_list (w_arg rfl))))
  simp_all)⟩
variable{B9:(Str->Option f')->D'->Prop}{M8:À->D'->Prop}{g:List Str}{u9:DefRec}{y:Ä}
theorem su{l:OpenLaw}(H:l.most=some b)(u:u9.params.defaults=[])(call:∀w d c p x i o z q j a h s,
   Ground y g [] B9 w d p x c.heap->M8 w c.heap ->
   c.heap.get? i=some o->o.data=.func (docDef u9.name u9.params u9.body u9.scope z q j)->c.heap.CodeRec q u9.name->p u9.name=some (.ref i) ->
   c.heap.get? a=some {cls:=.type "list",data:=.seq h.toArray}->ž h s->s.length<=b->c.gens = #[] ->
   ç (k9 l.prog w) Ń (.call (.ref i) ⟨[.ref a],[]⟩) (λr t=>r=.ok (.ret (.bool true))/\OldK c.heap t.heap/\t.os=c.os/\ć t.gens) c):
  WalkO y g B9 M8 l.row.toRowW u9 [] (λf h=>aa4 f h):=by
 intro w d c p x G Y i o z q j I kV J K A D B L args E S k F M C N;obtain rfl:I=.none:=Dflts.none D u;obtain rfl:kV=.none:=Dflts.noKw D;obtain⟨a,h,s,rfl,rfl,m,e,n⟩:=yn H k C;refine enter_call (Ē (call w _ _ p x i o z q _ a h s G Y J (fd_plain K) A B m e n L) λr t O=>?_)
 obtain⟨rfl,P,Q,R⟩:=O
 exact⟨.inl ⟨_,_,[],rfl,λ_=>rfl,.bool _,postW_of
    (by rfl)
    (w_eq_bool (w_res rfl) w_lit) rfl,by simp⟩,P,Q,R⟩
end Xt
namespace L2
open PySem PySem.Spec PyProof.Rows
theorem pf:∀{a}{b},ž a b->Vals (b.map V.int) a
 |_,_,.nil=>.nil
 |_,_,.cons n t h=>.cons ⟨t,rfl⟩ (pf h)
def Only(H:Hp):=∀b,H b=none\/∃o a,H b=some (.dZ o (.lst a))
variable{A:À}{C h:b'}{C4:Sp}{C5:List Int}{G:M'}{b:Nat}{d:Str}{o:g'}{o5:DF}{y:Ä}{ν:Str->Option f'}{χ:List f'}{ψ:Å}
theorem Ak{N}(U:G.In o.heap)(w:o.heap.Ns Ì ν)(j:o.heap.Ns aaA N)(O:∀d:Str,d≠"__name__"->N d=Č d)(x:o.heap.NoLimit)(hg:o.gens = #[])(M:o.heap.get? C=some {cls:=.type "list",data:=.seq χ.toArray})(X:ž χ C5)(Y:C5.length<=Y')(hr:cz b Ń)(F:∀base,G.In base->base.Ns Ì ν->bQ y A G ν base o5 b h ψ [d] C4)(t:∀s u,ľ s ψ ⟨[u],[]⟩ [(d,u)])(P:∀H,Only H->lP G H C (C5.map V.int)->C4 [.ref C] H (λv _=>v=.bl true) λ_ _ _=>False)(Q:∀H e k,o5 [] H o (λ_ _ _=>False) e k->False):
  ç (k9 y A) Ń (.call (.ref h) ⟨[.ref C],[]⟩) (λr k=>r=.ok (.ret (.bool true))/\OldK o.heap k.heap/\k.os=o.os/\ć k.gens) o:=by
 have Z:=pf X;have B:=X.length
 have p:∀H:Hp,Only H->lP G H C (C5.map V.int)->jw y A H o.heap->(∀a,H a≠none->a=C)->(H C≠none->G.lookup C=none) ->
   ç (k9 y A) Ń (.call (.ref h) ⟨[.ref C],[]⟩) (λr k=>r=.ok (.ret (.bool true))/\OldK o.heap k.heap/\k.os=o.os/\ć k.gens) o:=by
  intro H hO hS D hA hK
  have i:∀{a:b'}{c:Obj},o.heap.get? a=some c->H a=none->(uk o.heap H).get? a=some c:=λe n=>PySem.W.hideAll_get _ e λhm=>by
     have q:=(ĵ.mp hm).2
     simp_all
  have DY:∀{a:b'}{c:Obj}{E:Array ſ}{I:Nat},o.heap.get? a=some c->c.data=.dict E I->H a=none:=λ{a c E I} e g=>by
   cases q:H a with
   |none=>rfl
   |some u=>
    have R:a=C:=hA a (by rw[q];simp)
    subst R;rw[M]at e;cases e
    have d':Data.seq χ.toArray _=Data.dict E I:=g;cases d'
  have l:∀{a:b'}{m:Str->Option f'},o.heap.Ns a m->(uk o.heap H).Ns a m:=λ{a m}  zf =>cg zf λc E I e g r=>⟨c,E,I,i e (DY e g),g,r⟩
  have J:G.In (uk o.heap H):=λa c e=>i (U a c e) (by
   cases q:H a with
   |none=>rfl
   |some u=>
    have R:a=C:=hA a (by rw[q];simp)
    subst R;rw[hK (by rw[q];simp)]at e;cases e)
  have hM:Mod G ν (uk o.heap H):=⟨J,l w,⟨N,l j,O⟩,bD (x) λmc h1 h2=>⟨mc,l h1,h2⟩⟩
  have e0:sd y A G ν (uk o.heap H) Ń [] o H:=⟨rfl,hM,λa c e=>DM e,R' (PySem.W.hideAll_size _ _),trivial,λa j=>absurd (show a∈([]:List b')from j) (by simp),D,.of_eq hg⟩
  refine Ē ((F _ J (l w)).run Ń [] o H ⟨[.ref C],[]⟩ [.ref C] [.ref C] _ _ hr e0 (t o (.ref C)) (.cons rfl .nil) (P H hO hS)) λr k f=>?_
  cases r with
  |error e=>exact(Q H e k f).elim
  |ok fl=>
   cases fl with
   |next=>exact ó f
   |brk=>exact ó f
   |cont=>exact ó f
   |ret u=>
    refine fD f λv H' os bare un K S=>xa S λr' q=>?_
    have q':v=.bl true:=q;subst q';obtain rfl:u=Ϝ true:=r';refine⟨rfl,OldK.of_keep λa c e=>?_,os,bare⟩
    cases q:H a with
    |none=>exact un.keep a c e q (by intro z;exact absurd (show a∈([]:List b')from z) (by simp)) (by simp)
    |some u=>
     rcases hO a with z|⟨ob,xs,z⟩
     .rw[q]at z;cases z
     .have z2:=un.gy a ob _ z
      obtain⟨e1,_⟩:=D a _ z;obtain⟨e2,_⟩:=K a _ z2;rw[e]at e1;cases e1
      exact e2
 cases T:G.lookup C with
 |some c=>
  have e:=U C c T;rw[M]at e;cases e;refine p (λ_=>none) (λ_=>.inl rfl) (.inr ⟨_,χ.toArray,_,T,rfl,rfl,rfl,by rw[ê,B];exact Y,by simpa using Z⟩) (λa u z=>by have L:(none:Option HO)=some u:=z;cases L) (λa z=>absurd rfl z) λz=>absurd rfl z
 |none=>
  refine p (λa=>if a=C then some (.dZ {cls:=.type "list",data:=.seq χ.toArray} (.lst (C5.map V.int)))else none) (λa=>?_) (.inl (.inr ⟨{cls:=.type "list",data:=.seq χ.toArray},if_pos rfl⟩)) (λa u z=>?_) (λa z=>?_) λ_=>T
  .by_cases j:a=C
   .exact .inr ⟨_,_,if_pos j⟩
   .exact .inl (if_neg j)
  .by_cases j:a=C
   .have L:=(if_pos j).symm.trans z
    cases L;subst j;exact⟨M,by rw[Í];exact Y,χ,_,Z,M⟩
   .have L:=(if_neg j).symm.trans z
    cases L
  .by_cases j:a=C
   .exact j
   .exact absurd (if_neg j) z
variable{B9:(Str->Option f')->D'->Prop}{M8:À->D'->Prop}{g:List Str}{s:Nat}{u9:DefRec}
theorem Eg{l:acx}{K:ϴ->M'}{CX:À->DF}{sp:À->Sp}(E:l.most=some b)(q:b<=Y')(r:u9.params.defaults=[])(I:cz s Ń)(J:∀w h,M8 w h->(K w.params).In h)(F:∀w k n h,(K w.params).In h->h.Ns Ì k->k u9.name=some (.ref n) ->
   ∃t,(∀c u,ľ c t ⟨[u],[]⟩ [(d,u)]) /\
    ∀base,(K w.params).In base->base.Ns Ì k->bQ l.prog w (K w.params) k base (CX w) s n t [d] (sp w))(x:∀w H a (p:List Int),p.length<=b->Only H->lP (K w.params) H a (p.map V.int)->sp w [.ref a] H (λv _=>v=.bl true) λ_ _ _=>False)(L:∀w H c e M,CX w [] H c (λ_ _ _=>False) e M->False):
  acy y g B9 M8 l.row.toRowW u9 [] (λf A=>aa4 f A):=by
 refine Xt.su E r λw B C k X n o Z cd N a A p G Y ho hd O z m j i P=>?_
 have D:=J w _ Y;obtain⟨t,Q,R⟩:=F w k n _ D G.T.g z;exact Ak D G.T.g G.T.b G.T.builtins G.T.nolimit P m j (B' i q) I R Q (λH S U=>x w H a p i S U) (by simp_all)
noncomputable def inClass(s:K')(j:Nat):=match s with
 |.ClassDef _ _ _ body _ _ _ _ _ _ _=>body.getD j (.Pass ⟨0,0,0,0⟩)
 |_=>.Pass ⟨0,0,0,0⟩
noncomputable def bI(s:K'):=match s with
 |.FunctionDef _ a _ _ _ _ _ _ _ _=>a
 |_=>{posonlyargs:=[],args:=[],vararg:=none,kwonlyargs:=[],kw_defaults:=[],kwarg:=none,defaults:=[]}
noncomputable def a_(s:K'):=match s with
 |.FunctionDef _ _ b _ _ _ _ _ _ _=>b
 |_=>[]
noncomputable def ao(s:K'):=match s with
 |.FunctionDef _ _ _ _ _ _ a _ _ _=>a
 |_=>{kind:=.function,names:=[],isGenerator:=false,isCoroutine:=false}
abbrev fk:DF:=λ_ _ _ _ _ _=>False
abbrev E0:XK:=λ_ _ _=>False
variable{c:Cx}
theorem lu:Passes fk c E0:=λ_ _ _ _ _ _ _ h=>h.elim
structure zE(K:M')(x qual:Str)(st:K')(f:b')(fd:Å):Prop where
 ex:∃(oc:f') (od:Option b') (kV doc pm:f') (an:Option b') (cdv ct:f') (osl:Array (Option f')),
  fd=Ý x qual (bI st) (a_ st) (ao st) .none kV doc pm an cdv ct/\K.lookup f=some ⟨oc,od,.func fd,osl⟩/\Ĕ K cdv qual=true
 kp:Ó K (.ref f)=true
variable{B:D'}{U:Str}{Δ:List Str}{Θ:K'}
theorem zE.ok(F:zE G d U Θ h ψ)(S:jB g Δ (ao Θ))(j:∀c H Q E,C4 c H Q E->c.length=Δ.length)(e:∀f a outer s H c Q E,cz b (a.deeper (Ñ U (ao Θ) s.heap.objs.size h f))->C4 c H Q E ->
   ∃t,gS (dn fk y A G ν B g U (ao Θ) h f a outer s H E).k_ (a_ Θ) t/\t {nx:=λ_ w=>Q .non w,rt:=Q} (start g c) H):bQ y A G ν B fk (b+1) h ψ Δ C4:=by
 refine xe F.ex λoc k=>xe k λI l=>xe l λkV m=>xe m λx n=>xe n λJ o=>bF o λK f ct z p C r=>?_;subst p
 refine zZ C r S j λa outer s H c Q E D u=>?_
 obtain⟨t,i,q⟩:=e _ a _ s H c Q E D u;exact⟨t,i.k_,q⟩
theorem zE.binds(F:zE G d U Θ h ψ)(a:∀kV b e f c ct i,i.length=g.length->ŕ (Ý d U (bI Θ) (a_ Θ) (ao Θ) .none kV b e f c ct) ⟨i,[]⟩=pure (g.zip i)):Binds G ψ g []:=by
 refine xe F.ex λoc j=>xe j λr k=>xe k λkV l=>xe l λb m=>xe m λe n=>bF n λf c ct p o s q=>?_;subst o
 exact .all (a kV _ e f _ ct)
variable{M M2 T5 T6 y6 z6:f'}{Q4 m6:Option b'}{Q5:Array (Option f')}
theorem qB(l:G.lookup h=some ⟨M,Q4,.func (Ý d U (bI Θ) (a_ Θ) (ao Θ) .none M2 T5 y6 m6 z6 T6),Q5⟩)(c:Ĕ G z6 U=true)(k:Ó G (.ref h)=true):zE G d U Θ h (Ý d U (bI Θ) (a_ Θ) (ao Θ) .none M2 T5 y6 m6 z6 T6):=⟨⟨M,Q4,M2,_,y6,m6,_,T6,_,rfl,l,c⟩,k⟩
theorem yo:eT c (.builtin "len") (λxs H Q=>∃a kvs,xs=[V.ref a]/\Rd H a (.dK kvs)/\Q (.int kvs.length) H):=by
 intro pins s f H xs g Q I r h;obtain⟨a,kvs,rfl,b,q⟩:=h;obtain⟨u,rfl,d⟩:=vals1 r;cases d;exact My I b λt i e=>⟨.int _,H,e,⟨t,rfl⟩,q⟩
variable{i6 y0:Prop}
theorem sv(h:i6):if false=true then y0 else i6:=by
 simp_all
theorem sx(h:y0):if true=true then y0 else i6:=h
def mU(H a:Hp):=∀b o,H b=some o->a b=some o
variable{P7 e ξ:Hp}
theorem mU.trans(a:mU e ξ)(b:mU ξ P7):mU e P7:=λc o h=>b c o (a c o h)
open PySem.W
def MC(X f)(c:List V)(a:St)(H Q):=∀pins s b,Inv X pins a H s->Vals c b->p' (k9 X.prog X.w) X.A (call (.ref f) b) (EP X pins a Q) X.xe s
noncomputable def Cx.fz(X:Cx)(xs:List Str):={X with fn:=λy=>X.fn y&&!(xs.contains y)}
theorem KT.length{H l m}(q:KT H l m):m.length=l.length:=by
 induction q with
 |nil=>rfl
 |cons _ _ a=>simp_all
end L2
namespace HT
open PySem PyProof.Rows
end HT
namespace L2
open PySem PySem.Spec PyProof.Rows
open PySem.W
def MD(a:b')(o:Obj):It:=
 ⟨λi H=>∃b,H a=some (.dZ o (.dK b))/\i<b.length,λi H x d=>d=H/\∀b,H a=some (.dZ o (.dK b))->∃c,b[i]?=some c/\x=kV c.1,λi H=>∃b,H a=some (.dZ o (.dK b))/\b.length<=i⟩
theorem gE{a b F}:∀{xs}{c:List b}{i:Nat}{x:a},í F xs c->xs[i]?=some x->∃u,c[i]?=some u/\F x u
 |_,_,_,_,.nil,e=>by simp at e
 |_,_,0,_,.cons r _,e=>by simp_all
 |_,_,i+1,x,.cons _ t,e=>by
  refine bD (gE t (by simpa using e)) λu d f=>?_
  simp_all
variable{A:À}{M:f'}{N7:Key}{y:Ä}
theorem qC(h:(cC y A).is N7 M=true):RelV (kV N7) M:=by
 rcases cw (h)with ⟨i,t,rfl,rfl⟩|⟨x,t,rfl,rfl⟩
 .exact⟨t,rfl⟩
 .exact⟨t,rfl⟩
variable{B:D'}{E4:List (Key×V)}{b:Nat}{e:Hp}{h:b'}{z9:Array ſ}{υ:Obj}
theorem km(ok:jw y A e B)(a:e h=some (.dZ υ (.dK E4)))(f:υ.data=.dict z9 b):
  ∃c,KV E4 c/\B.DictAt (cC y A) h c b/\z9.size=c.length/\(h==ě)=false:=by
 obtain⟨g,_,k,c,r,q,l,m,d,n,i,o,j,p⟩:=ok h _ a;rw[g]at d;cases d
 rw[f]at i;cases i
 refine⟨c,r,⟨υ,z9,g,n,f,o,j,p⟩,?_,k⟩;rw[←j.length];simp
variable{G:M'}{j:x'}
theorem yp(a l)(M:υ.data=.dict z9 b):Turn y A G j (MD a υ) [l] l (λi h=>h.IsKeyIter l a i z9.size b) where
 mem:=by simp
 obj:=λi h g f m=>by
  refine br g λυ e c d=>?_
  simp_all
 keep:=λi h N g k=>by
  refine br g λυ e c d=>?_
  exact⟨υ,k l (by simp) υ e,c,d⟩
 item:=by
  intro X p t u O i pins s R H E I n g w;subst p t u;refine bD w λx z P=>?_
  refine eu (km I.hok z M) λS r B o _=>?_
  refine bD (gE r (ä P)) λq T rq=>?_
  refine dH (n l (by simp)) λC D U F J K=>?_
  rw[o]at g;refine wpAny_pyNext_dict_item g B T λV N Y L Z=>?_
  refine br (id L) λo1 e1 c1 d1=>?_
  refine⟨_,rfl,rZ e1 c1 d1 (by decide) ⟨_,H,(I.turned (λf υ m e=>(Z.2 f m).trans e) C D F J K),qC Y,⟨rfl,λQ a0=>?_⟩,by rwa[o],λf m=>(n f m).1⟩⟩
  simp_all
 done:=by
  intro X p t u O i pins s R H E I n g w;subst p t u;refine bD w λx z P=>?_
  refine eu (km I.hok z M) λS r B o _=>?_
  refine dH (n l (by simp)) λC D U F J K=>?_
  have hl:=r.length;rw[o]at g;exact wpAny_pyNext_dict_end (I.ok.hd O) g B (by simp_all) λN eb=>⟨rfl,I.turned (λf υ m e=>eb f υ m e) C D F J K⟩
 self:=λ_ _ _ _ _ g h=>wpAny_pyIter_keyiter g h
variable{S:St}{c:Cx}{o:g'}{z:List (b'×Obj)}
theorem Inv.wb(I:Inv c z S e o)(d:e h=some (.dK E4)):∃a g i,o.heap.get? h=some a/\a.data=.dict g i/\Inv c z S (upd e h (.dZ a (.dK E4))) o:=by
 obtain⟨f,l,m,r,a,g,i,j,n,k,p,q,s⟩:=I.hok h _ d;refine⟨a,g,i,j,k,?_⟩;have:=wa (b:=o.toks) (M0:=.dZ a (.dK _)) I (by rw[d];exact Đ) ⟨rfl,by simp⟩ ⟨a,j⟩ ⟨j,f,l,m,r,a,g,i,j,n,k,p,q,s⟩
 exact this
def ME(R:It->Hp->Prop)(x:V)(c):=∃a b,x=.ref a/\((c a=some (.dK b)/\∀o,R (MD a o) (upd c a (.dZ o (.dK b))))\/∃o,c a=some (.dZ o (.dK b))/\R (MD a o) c)
variable{L6:It->Hp->Prop}{x:V}
theorem Eh(s:Inv c z S e o)(u:RelV x M)(q:ME L6 x e):p' (k9 c.prog c.w) c.A (ħ M) (PIE c z S j L6) c.xe o:=by
 obtain⟨a,n,rfl,q⟩:=q;cases (u)
 have h:∀(d:Obj) (i:Array _) (k:Nat) (l:Hp),Inv c z S l o->l a=some (.dZ d (.dK n))->d.data=.dict i k->L6 (MD a d) l->p' (k9 c.prog c.w) c.A (ħ (.ref a)) (PIE c z S j L6) c.xe o:=by
  intro d i k l g y m hR;refine eu (km g.hok y m) λB r C D t=>?_
  refine acz t C ?_;refine⟨_,_,_,_,l,rfl,(g.kept λb d q=>Á _ q),yp a _ m,?_,λb E=>?_,hR⟩
  .rw[D]
   exact⟨_,Ð _ rfl,rfl,rfl⟩
  .have f:=by simpa using E
   rw[f];have:=g.yb (W' _) (g.hok.fresh (W' _));exact this
 rcases q with ⟨p,hR⟩|⟨d,p,hR⟩
 .refine cg (s.wb p) λd i k F m g=>h d i k _ g aS m (hR d)
 .obtain⟨F,_,t,B,r,H,i,k,G,I,J,K⟩:=s.hok a _ p
  grind
variable{C ο:b'}{C3:Array f'}{P4:ų->g'->Prop}{R:f'->g'->Prop}{j7:Option f'->g'->Prop}{y9:Bool->g'->Prop}{χ:List f'}
section
variable{prog:Ä}{w:À}{A:Ï}{E:f'->g'->Prop}{s:g'}
theorem yq(b:s.TypeIs (.ref h) "dict")(a:y9 false s):p' (k9 prog w) A (ad1 (.ref h)) y9 E s:=by
 refine j' (acv b F.slot_dict_len.lookup ?_);generalize c:("dict.__len__")=d;subst c;refine j' (acA b isSubtype_dict_dict ?_);refine j' (ϵ b (I' a))
theorem qD(o:s.heap.get? h=some υ)(p:υ.cls=.type "list")(f:υ.data=.seq C3 b)(q:υ.dict=none)(u:A.handled=none)(i:∀m r,(∀a υ,s.heap.get? a=some υ->m.get? a=some υ)->j7 none {s with heap:=m,toks:=r}):p' (k9 prog w) A (Ϸ (.ref h) "keys") j7 E s:=by
 obtain⟨c,x,y,z⟩:=υ;simp only at p f q;subst p f q;obtain⟨B,g,d,r,C⟩:=s;have t:∀k,(⟨B,g,d,k,C⟩:g').TypeIs (.ref h) "list":=λ_=>⟨_,o,rfl⟩
 have D:=sub_AttributeError;have G:=aa5.lookup;have H:=aa5.bind (.ref h);have I:=am_list_getattr_none;have j:ϭ (.type "list") "keys"=pure none:=am_miss_of_fast (by kernel_rfl)
 unfold Ϸ getAttrBy? getAttrBy
 repeat (any_goals (first|assumption|exact t _ | ((with_reducible show p' _ _ (call (acB "list.__getattribute__") _ _) _ _ _);refine ĩ aa5 (t _) am_entry_list_getattribute (F.args_list_getattribute_2 _ _) (meets_getattribute_miss_list h C3 b z "keys" _ j (by decide) (by decide)) ⟨o,u,λm k e l=>?_⟩)|wp_step))
 refine xe l.there λJ n=>xe n λK L=>?_
 show p' _ _ (acC _ _ _ _ _ _ _) _ _ _
 unfold acC
 repeat (any_goals (first|assumption|wp_step))
 exact i _ _ λa υ e=>l.keeps a υ e
theorem fF:plainId "dict.update.loop"=true:=by decide +kernel
theorem fG:entryFor table "dict.update.loop"=some ġ.«dict.update.loop» := entryFor_of_fast (by kernel_rfl)
variable{K:Type}[DecidableEq K]{knd:KeyKind prog w K}
theorem uF{c d F G}(h:∀a b,F a b->G a b){xs:List c}{e:List d}(r:í F xs e):í G xs e:=Paired.Iz r h
def mV(knd:KeyKind prog w K)(h:D')(p:K×f')(u:f'):=∃b o a n,u=.ref b/\h.get? b=some o/\o.cls=.type "tuple"/\o.data=.seq #[a,p.2] n/\knd.is p.1 a=true
theorem sy(hh:A.handled=none)(g:ο≠C)(F:h≠ο)(G:h≠C)(hl:B.IsList h χ.toArray)(H)(U:∀o,B.get? ο=some o->o.cls≠.type "tuple")(V:∀o,B.get? C=some o->o.cls≠.type "tuple"):
  ∀j i t s c,í (mV knd B) j (χ.drop i)->c.length+j.length<=Y'->(∀b o,b≠ο->b≠C->B.get? b=some o->s.heap.get? b=some o)->s.heap.IsListIter C h i->s.heap.DictOf knd ο c ->
  (∀k X,(∀b o,b≠ο->b≠C->s.heap.get? b=some o->k.get? b=some o)->k.DictOf knd ο (j.foldl (λa p=>Ś a p.1 p.2) c)->P4 (.ok (.ret H)) {s with heap:=k,toks:=X}) ->
  ç (k9 prog w) A (.builtin "dict.update.loop" ⟨[.ref ο,.ref C,.int i t,H],[]⟩) P4 s:=by
 intro j
 induction j with
 |nil=>
  intro i t s c I R J l Y hR;refine Ģ fG ?_;have E:χ.drop i=[]:=by generalize χ.drop i=q at I;cases I;rfl
  refine j' (ab0 hh l (let ⟨o,m,r⟩:=hl;⟨o,J h o F G m,r⟩) (by simpa using List.drop_eq_nil_iff.mp E) λk eb=>?_)
  exact j' (I' (I' (hR k s.toks (λb o _ S e=>eb b o S e) (Y.extBut eb g))))
 |cons p j ih=>
  intro i t s c I R J l Y hR
  have E:∃u r,χ.drop i=u::r/\mV knd B p u/\í (mV knd B) j r:=by
   generalize χ.drop i=q at I;cases I with|cons a b=>exact⟨_,_,rfl,a,b⟩
  obtain⟨u,r,E,⟨b,o,h0,n,rfl,m,Z,L,M⟩,a0⟩:=E;have hr:χ.drop (i+1)=r:=by rw[←List.drop_drop,E];rfl
  have b0:b≠ο:=λe=>U o (e▸m) Z
  have N:b≠C:=λe=>V o (e▸m) Z
  refine Ģ fG ?_
  refine j' (ab_ l (let ⟨o,m,r⟩:=hl;⟨o,J h o F G m,r⟩) (x:=.ref b) (by simpa using (by
   have:=congrArg (·[0]?) E;simpa using this)) λh1 O y=>?_)
  have P:h1.get? b=some o:=(y.2 b N).trans (J b o b0 N m);have c0:h1.DictOf knd ο c:=Y.extBut y.extBut g;refine j' (Ć (j' (acD ?_)));unfold ad2;refine j' (ϵ (T:="tuple") ⟨o,P,Z⟩ ?_);rw[if_pos (by decide)]
  unfold seqItems?;refine j' (j' (aaF P ?_));rw[L];refine I' (I' ?_);refine Ć (wpAny_dictSet_pairs M c0 (λS d0 Q=>?_) (by simp at R;exact B' (Ė _ _) R))
  refine I' ⟨ī fF _,?_⟩;have keep:∀d f,d≠ο->d≠C->s.heap.get? d=some f->S.get? d=some f:=λd f z D e=>(Q.2 d z).trans ((y.2 d D).trans e)
  have:=ih (i+1) 0 {s with heap:=S,toks:=s.toks+1} (Ś c p.1 p.2) (by rw[hr];exact a0) (by have:=stored_length_le c p.1 p.2;simp at R;omega) (λd f z D e=>keep d f z D (J d f z D e)) (O.at λo e=>(Q.2 C (Ê g)).trans e) d0 (λk X e0 g0=>hR k X (λd f z D e=>e0 d f z D (keep d f z D e)) g0)
  exact this
theorem mW{I}(Y:A.handled=none)(Z:s.heap.get? h=some υ)(N:υ.cls=.type "list")(f:υ.data=.seq χ.toArray b)(hd:υ.dict=none)(hp:í (mV knd s.heap) I χ)(hsz:I.length<=Y')(i:∀n O,(∀c υ,s.heap.get? c=some υ->n.get? c=some υ)->n.DictOf knd s.heap.objs.size (I.foldl (λa p=>Ś a p.1 p.2) [])->R (.ref s.heap.objs.size) {s with heap:=n,toks:=O}):
  p' (k9 prog w) A (call (.type "dict") [.ref h]) R E s:=by
 refine acE (Q₁:=λo g=>o=.ref s.heap.objs.size/\g={s with heap:=s.heap.push _}) F.kt_called_dict (F.kt_typeCall_dict_1 _) F.entry_dict_init (kt_code_dict_new _ ⟨rfl,rfl⟩) ?_
 rintro o g ⟨rfl,rfl⟩;have d:(s.heap.push _).DictOf knd s.heap.objs.size []:=acw s.heap;have j:=Á {cls:=.type "dict",data:=.dict #[]} Z;refine⟨d.typeIs,F.args_dict_init_2 _ _,?_⟩;refine j' ?_;refine j' (wpAny_notOrdered_dict d.typeIs ?_);refine I' ?_
 show p' _ _ (ad3 "dict.__init__" s.heap.objs.size (.ref h) [] .none) _ _ _
 refine j' (ϵ (T:="list") ⟨υ,j,N⟩ ?_);rw[if_pos (by decide)]
 refine j' (qD (A:=A.in1.in1) j N f hd Y λm O P=>?_)
 rw[if_pos (by decide)]
 refine j' (ė ?_);have q:m.IsList h χ.toArray:=⟨υ,P h υ j,N,b,f⟩;refine j' (ń q ?_);refine I' ⟨ī fF _,?_⟩;have kp:=λc υ e=>P c υ (Á _ e)
 have t:m.DictOf knd s.heap.objs.size []:=ew (d) λυ J L e r=>⟨υ,J,L,P _ υ e,r⟩
 have k:=ew (t) λυ _ _ e _=>N' e
 have x:h<s.heap.objs.size:=N' Z;generalize hq:m.push _=y;have M:∀c υ,m.get? c=some υ->y.get? c=some υ:=λc υ e=>by rw[←hq];exact Á _ e
 have z:y.IsListIter m.objs.size h 0:=by rw[←hq];exact⟨_,Ð _ rfl,rfl,rfl⟩
 have D:y.DictOf knd s.heap.objs.size []:=ew (t) λυ J L e r=>⟨υ,J,L,M _ υ e,r⟩
 have l:=sy (A:=A.in1) (P4:=wants (λr G=>r=ĥ/\R (Ü s.heap.objs.size) G) E) (knd:=knd) (B:=y) (h:=h) (C:=m.objs.size) (ο:=s.heap.objs.size) (χ:=χ) Y (O' k) (O' x) (O' (ā x k))
  (let ⟨υ,e,r⟩:=q;⟨υ,M _ υ e,r⟩) .none (λυ e=>by
   refine cg D λo' J L Q H _=>?_
   rw[e]at Q;cases Q
   rw[H.1];decide) (λυ e=>by
   refine br z λo' Q H _=>?_
   grind) I 0 0 {s with heap:=y,toks:=O} [] (by
   rw[acF]
   exact uF (λp u S=>by
    refine bF S λc υ l b e1 e2 r=>?_
    exact⟨c,υ,l,b,e1,M _ _ (kp _ _ e2),r⟩) hp) (by simpa using hsz) (λc υ _ _ e=>e) z D (λn U V X=>?_)
 .exact l
 .refine⟨rfl,i n U (λc υ e=>V c υ ?_ ?_ (M _ _ (kp _ _ e))) X⟩
  .exact O' (N' e)
  .exact O' (ā (N' e) k)
theorem mX{kvs}(hh:A.handled=none)(lo:(h==ě)=false)(da:s.heap.DictAt knd h kvs b)(hn:kvs.length<=Y')(hQ:∀N tk f O,(∀a o,s.heap.get? a=some o->N.get? a=some o)->N.get? s.heap.objs.size=some {cls:=.type "list",dict:=none,data:=.seq f O,slots := #[]}->ItemsOf (λi v=>∃k x,kvs[i]?=some (k,x)/\knd.is k v=true) f kvs.length->R (.ref s.heap.objs.size) {s with heap:=N,toks:=tk}):
  p' (k9 prog w) A (call (.type "list") [.ref h]) R E s:=by
 refine acE (Q₁:=λy n=>y=.ref s.heap.objs.size/\n={s with heap:=s.heap.push {cls:=.type "list",data:=.seq #[]} }) F.called_list (F.typeCall_list_1 _) F.entry_list_init
  (code_list_new _ ⟨rfl,rfl⟩) λy n B=>?_
 obtain⟨rfl,rfl⟩:=B;generalize d:s.heap.objs.size=S;have J:(s.heap.push {cls:=.type "list",data:=.seq #[]}).get? S=some {cls:=.type "list",data:=.seq #[]}:=by rw[←d];exact Ð _ rfl
 refine⟨⟨_,J,rfl⟩,F.args_list_init_2 _ _,?_⟩;refine j' ?_;unfold ad4;refine j' (Ĭ J rfl (I' ?_));refine j' (aa6 J rfl ?_);have c:=ĭ (ł (λ_=>(#[]:Array f'))) J rfl
 have p:S≠h:=λe=>by
  refine cW da λo es q _=>?_
  exact Ò _ ((e▸d)▸N' q)
 refine j' (ϊ ?_);generalize P:(s.heap.push {cls:=.type "list",data:=.seq #[]}).update S (ł (λ_=>(#[]:Array f')))=g at c
 have k1:∀a o,s.heap.get? a=some o->g.get? a=some o:=λa o e=>by
  rw[←P];exact(ĕ _ _ (λz=>Ò _ ((z▸d)▸N' e))).trans (Á _ e)
 have m:g.DictAt knd h kvs b:=da.at' λo e=>k1 h o e
 have Q:({s with heap:=g}:g').TypeIs (.ref h) "dict":=let ⟨o,_,q,T,_⟩:=m;⟨o,q,T.1⟩
 show p' _ _ (acG (.ref S) (.ref h) .none) _ _ {s with heap:=g}
 unfold acG;refine j' (ϵ Q ?_);have U:acH (.ref S) (.ref h)=false:=by simp[acH,p]
 have V:(ĳ "dict"==ĳ "list")=false:=by decide
 have X:(ĳ "dict"==ĳ "tuple")=false:=by decide
 simp only[U,V,X,Bool.or_false,aa7,if_false];refine j' (acz lo m ?_);generalize C:g.push {cls:=.type "dict_keyiterator",data:=.fields #[.ref h,.int 0 0,.int kvs.length 0,.int b 0]}=r;have L:∀a o,g.get? a=some o->r.get? a=some o:=λa o e=>by rw[←C];exact Á _ e
 have Y:r.IsKeyIter g.objs.size h 0 kvs.length b:=by rw[←C];exact⟨_,Ð _ rfl,rfl,rfl⟩
 have D:r.DictAt knd h kvs b:=m.at' λo e=>L h o e
 have Z:({s with heap:=r}:g').TypeIs (.ref h) "dict":=let ⟨o,_,q,T,_⟩:=D;⟨o,q,T.1⟩
 refine j' (Ć (yq (s:={s with heap:=r}) Z ?_));refine acI (λ_=>?_) (λa0=>absurd (by decide) a0)
 refine j' (ė ?_);refine j' ?_
 show p' _ _ (updateSeq S (·.push .none) >>= λ_=>updateSeq S (·.pop)) _ _ _
 refine j' (aa6 (L _ _ c) rfl ?_);have j:=ĭ (ł (·.push ĥ)) (L _ _ c) rfl;refine aa6 (hz:=by decide) j rfl ?_
 have l:=ĭ (ł (·.pop)) j rfl;refine I' ⟨ī F.plain_extend_loop _,?_⟩;generalize b0:(r.update S (ł (·.push ĥ))).update S (ł (·.pop))=h3 at l
 have k3:∀a o,a≠S->r.get? a=some o->h3.get? a=some o:=λa o t e=>by
  rw[←b0];exact(ĕ _ _ (Ê t)).trans ((ĕ _ _ (Ê t)).trans e)
 have c0:h<g.objs.size:=cW (m) λo _ q _=>N' q
 have u:S<g.objs.size:=N' c;have W:=(Walks.dictKeys (prog:=prog) (w:=w) (A:=A.in1.in1) (knd:=knd) hh g.objs.size h (O' c0) kvs b).toS;refine codeAny_extend_loopS W hn S (λM=>?_) .none kvs.length 0 _ #[] _ rfl (Ë _) ⟨Y.at λo e=>k3 _ o (Ê (O' u)) e,D.at' λo e=>k3 _ o (Ê p) e⟩ l (ItemsOf.nil _) λs' f O M G H=>?_
 .rcases Õ.mp M with e|e
  .exact O' u e
  .exact p (by simpa using e)
 .rw[acJ M]at G ⊢
  refine⟨rfl,?_⟩;have:=hQ s'.heap s'.toks f O (λa o e=>M.heap a o (λI=>?_) (k3 _ _ (λz=>Ò _ ((z▸d)▸N' e)) (L _ _ (k1 _ _ e)))) (by rw[d];exact G) H
  .rw[d]at this;exact this
  .have t:=N' e
   rcases Õ.mp I with e' |e'
   .rw[e',←d]at t;exact Ò _ t
   .have e':a=g.objs.size:=by simpa using e'
    rw[e',d]at t;exact Ò _ (ā t u)
end
variable{N:List V}{y8:Nat->f'->Prop}
theorem Ei(h:ItemsOf y8 C3 N.length)(f:∀i u v,y8 i u->N[i]?=some v->RelV v u):Vals N C3.toList:=by
 have c:∀(l:List _) (N:List V),l.length=N.length->(∀(i:Nat) (u:f') (v:V),l[i]?=some u->N[i]?=some v->RelV v u)->Vals N l:=by
  intro l
  induction l with
  |nil=>intro N h _;cases N with|nil=>exact .nil|cons a b=>simp at h
  |cons u l g=>
   intro N h d;cases N with
   |nil=>simp at h
   |cons v N=>exact .cons (d 0 u v rfl rfl) (g N (by simp_all) λi j k m e=>d (i+1) j k (by simp_all) (by simp_all))
 exact c _ _ (by rw[Array.length_toList,h.1]) λi u v m e=>f i u v (h.2 i u (by simp_all)) e
theorem uG(m:c.calm=true):eT c (.type "list") (λxs H Q=>∃a kvs,xs=[V.ref a]/\Rd H a (.dK kvs)/\∀l,H l=none->Q (.ref l) (upd H l (.lst (kvs.map λb=>kV b.1)))):=by
 intro pins s R H xs S Q I r h;obtain⟨a,kvs,rfl,n,q⟩:=h;obtain⟨u,rfl,p⟩:=vals1 r;cases p;refine eI (fX I.hok n) λz t T d w=>?_
 refine dO w λo y U A B C D=>?_
 have f:=d.length;refine mX (I.ok.hd m) t ⟨o,y,A,B,C,D⟩ (B' (R' f.symm) z) λE X g F G e J=>?_
 exact⟨.ref _,_,I.laid G (W' _) (show dE _ _ _ E _ (.lst _)from⟨by simp_all,_,F,(Ei (by rw[Í,←f]at *;exact J) λi u v K Y=>by
  refine cW K λk x L M=>?_
  have N:∃b,kvs[i]?=some b/\v=kV b.1:=by
   grind
  obtain⟨b,O,rfl⟩:=N;obtain⟨Z,j,P⟩:=gE d O;rw[L]at j;cases j
  rw[P.1];exact qC M),by omega⟩),rfl,q _ (I.hok.fresh (W' _))⟩
theorem uH:eT c (.type "dict") (λxs H Q=>∃a kvs,xs=[V.ref a]/\Rd H a (.dK kvs)/\∀l,H l=none->Q (.ref l) (upd H l (.dK kvs))):=by
 intro pins s p H xs t Q I r h;obtain⟨a,kvs,rfl,g,q⟩:=h;obtain⟨u,rfl,i⟩:=vals1 r;cases i;refine eI (fX I.hok g) λz j w d k=>?_
 have m:=d.length;refine kt_call_dict j k (B' (R' m.symm) z) λx f n=>?_
 exact⟨.ref _,_,I.laid (λb o e=>(n.2 b (O' (N' e))).trans (Á _ e)) (W' _) (uE z (beq_eq_false_iff_ne.mpr (Ê (O' I.big))) d f),rfl,q _ (I.hok.fresh (W' _))⟩
theorem uI(T:c.calm=true):eT c (.type "dict") (λxs H Q=>∃a j d,xs=[V.ref a]/\Rd H a (.lst j)/\í (λ(p:Key×V) y=>∃b,y=.ref b/\Rd H b (.tup [kV p.1,p.2])) d j/\∀l,H l=none->Q (.ref l) (upd H l (.dK (d.foldl (λa p=>putK a p.1 p.2) [])))):=by
 intro pins s σ H xs U Q I r h;refine dO h λa j d D X x q=>?_;subst D
 obtain⟨u,rfl,E⟩:=vals1 r;cases E;obtain⟨g,k,⟨o,n,Y,F,G,m⟩,Z⟩:=I.list (.inl X)
 have J:∀{d:List (Key×V)}{j:List V}{g:List f'},í (λ(p) (y:V)=>∃b,y=.ref b/\Rd H b (.tup [kV p.1,p.2])) d j->Vals j g->∃i,KV d i/\í (mV (cC c.prog c.w) s.heap) i g:=by
  intro d j g x k
  induction x generalizing g with
  |nil=>cases k;exact⟨[],.nil,.nil⟩
  |@cons p y d j z _ A=>
   cases k with
   |@cons _ u _ U E k=>
    obtain⟨i,B,C⟩:=A k;obtain⟨b,rfl,hb⟩:=z;cases (E);refine xa (HD I.hok hb) λ_ K=>bD K λP t L=>br L λo' e1 e2 M=>xe M λn' e3=>?_
    cases t with
    |@cons _ k' _ r1 rk t=>
     cases t with
     |@cons _ v' _ r2 N t=>
      cases t with
      |nil=>exact⟨(p.1,v')::i,.cons ⟨rfl,N⟩ B,.cons ⟨b,o',k',n',rfl,e1,e2,e3,sr rk⟩ C⟩
 obtain⟨i,B,C⟩:=J x k;have hl:=B.length;have O:=ũ x;refine mW (I.ok.hd T) Y F m G C (B' (B' (R' hl.symm) (R' O)) Z) λh' tk kp dd=>?_
 have hf:∀{d:List (Key×V)}{i:List _} (e:List (Key×V)) (f:List _),KV e f->KV d i->KV (d.foldl (λa p=>putK a p.1 p.2) e) (i.foldl (λa p=>Ś a p.1 p.2) f):=by
  intro d i e f R r
  induction r generalizing e f with
  |nil=>exact R
  |@cons p q d i z _ A=>
   simp;refine A _ _ ?_;rw[←z.1];exact R.put p.1 z.2
 have S:∀(d:List (Key×V)) (e:List (Key×V)),(d.foldl (λa p=>putK a p.1 p.2) e).length<=e.length+d.length:=by
  intro d
  induction d with
  |nil=>simp
  |cons p d A=>
   intro e;have C:=lr e p.1 p.2
   grind
 exact⟨.ref _,_,I.laid kp (W' _) (uE (by
  grind) (beq_eq_false_iff_ne.mpr (Ê (O' I.big))) (hf _ _ .nil B) dd),rfl,q _ (I.hok.fresh (W' _))⟩
end L2
namespace PySem
open Sem (wp)
def zF(b)(h:D')(l:b')(xs:Array f'):=match b with
 |false=>h.IsList l xs
 |true=>h.IsTuple l xs
def wc(b)(h:D')(i l:b')(k:Nat):=match b with
 |false=>h.IsListIter i l k
 |true=>h.IsTupleIter i l k
noncomputable def SS(b:Bool)(l:b'):Obj:=match b with
 |false=>{cls:=.type "list_iterator",data:=.fields #[.ref l,.int 0 0]}
 |true=>{cls:=.type "tuple_iterator",data:=.fields #[.ref l,.int 0 0]}
variable{B W3:D'}{C3:Array f'}{h:b'}{v:Bool}
theorem zF.at(x:zF v B h C3)(k:∀o,B.get? h=some o->W3.get? h=some o):zF v W3 h C3:=by
 cases v<;>exact let ⟨o,a,r⟩:=x;⟨o,k o a,r⟩
variable{C:b'}
theorem wc.at{n}(x:wc v B h C n)(k:∀o,B.get? h=some o->W3.get? h=some o):wc v W3 h C n:=by
 cases v<;>exact let ⟨o,a,r⟩:=x;⟨o,k o a,r⟩
variable{b:Nat}
theorem wc.obj(x:wc v B h C b):∃o,B.get? h=some o/\∀a,o.data≠.cell a:=by
 cases v<;>(obtain⟨o,c,_,r⟩:=x;grind)
theorem wc.new(e:B.get? C=some (SS v h)):wc v B C h 0:=by
 cases v<;>exact⟨_,e,rfl,rfl⟩
variable{A:À}{C1 R:f'->g'->Prop}{J:Ï}{M:f'}{y:Ä}
theorem wd{s}(a:wc v s.heap h C b)(i:zF v s.heap C C3)(j:C3[b]?=some M)(k:∀e,wc v e h C (b+1)->Ķ h s.heap e->C1 M {s with heap:=e}):p' (k9 y A) J (acK (.ref h)) C1 R s:=by
 cases v with
 |false=>exact wpAny_nextOf_list_item a i j k
 |true=>
  have l:=acL a;obtain⟨o,d,m,c⟩:=id a;obtain⟨n,f,_,p,g⟩:=i;refine j' (ϸ l Ϲ (ϋ Ϲ l acM ?_ (acN _)))
  show p' _ _ (Ϻ _ 0 >>= _) _ _ s
  refine j' (ð d c rfl ?_);refine j' (ð d c rfl ?_);refine j' (Ĭ f g ?_);simp only[ś,j];refine j' (Ŝ d c (by simp) (I' ⟨M,rfl,I' (k _ ⟨_,ĭ _ d (aa8 (Ņ c _)),(aa9 ..).trans m,by rw[Ņ c];simp[ό]⟩ (acO ..))⟩))
theorem Ja{s}(j:J.handled=none)(a:wc v s.heap h C b)(k:zF v s.heap C C3)(l:C3[b]?=none)(n:∀c e,Heap.ExtBut h s.heap c->(∃o,c.get? e=some o/\o.cls=.type "StopIteration")->R (.ref e) {s with heap:=c}):p' (k9 y A) J (acK (.ref h)) C1 R s:=by
 cases v with
 |false=>exact wpAny_nextOf_list_end j a k l n
 |true=>
  have p:=acL a;obtain⟨o,d,q,f⟩:=id a;obtain⟨r,g,_,t,i⟩:=k;refine j' (ϸ p Ϲ (ϋ Ϲ p acM ?_ (acN _)))
  show p' _ _ (Ϻ _ 0 >>= _) _ _ s
  refine j' (ð d f rfl ?_);refine j' (ð d f rfl ?_);refine j' (Ĭ g i ?_);simp only[ś,l];refine j' (ė (j' (Ŝ d f (by simp) ?_)))
  refine j' ?_;refine j' (m:=firstArgMember _ _) (aa' (by rfl) ?_)
  refine aba ?_ (by size_fits)
  refine j' (wpAny_handled ?_)
  first|rw[j]
  exact j' (I' (wpAny_throw (n _ _ (((acO ..).extBut.push _).push _) ⟨_,Ð _ rfl,rfl⟩)))
structure Al(b:Bool)(h:D')(z TI TO i1 i2 l1 l2:b')(f0:f')(k:Nat):Prop where
 hz:IsZip h z TI TO f0
 hTI:ϻ h TI (.ref i1) (.ref i2)
 hTO:∃a c,ϻ h TO a c
 h1:wc b h i1 l1 k
 h2:wc b h i2 l2 k
variable{D2 S5 W7 x0 ο:b'}{j7:Option f'->g'->Prop}
theorem yr{s ys x}(D:aaa h C ο x0 D2 S5 W7)(Z:Al v s.heap h C ο x0 D2 S5 W7 .none b)(b0:zF v s.heap S5 C3)(c0:zF v s.heap W7 ys)(hx:C3[b]?=some x)(hy:ys[b]?=some M)(hQ:∀T,Al v T h C ο x0 D2 S5 W7 (ό s.heap.objs.size) (b+1)->ϻ T s.heap.objs.size x M->T.objs.size=s.heap.objs.size+1 ->
   (∀c o,c≠h->c≠ο->c≠x0->c≠D2->s.heap.get? c=some o->T.get? c=some o)->j7 (some (.ref s.heap.objs.size)) {s with heap:=T}):p' (k9 y A) J (Ů (.ref h)) j7 R s:=by
 obtain⟨S,U,⟨a,c,d0⟩,h1,h2⟩:=Z;have hT:s.TypeIs (.ref h) "zip":=⟨_,S,rfl⟩;refine j' (abb (ϸ hT aab (ϋ aab hT acP ?_ (acQ _))))
 show p' _ _ (Ϻ (.ref h) 2 >>= _) _ _ _
 refine j' (ð S rfl (x:=.bool false) rfl ?_);refine j' (ð S rfl rfl (j' (Ĭ U rfl ?_)));refine j' ?_;refine j' (ð S rfl rfl (I' ?_));refine j' (ė (j' (ð S rfl rfl (j' (ύ S (by simp) λe0 H f=>?_)))))
 refine j' ?_;refine j' (j' (abd ?_));refine j' (wd (h1.at λo e=>f.extBut _ _ D.i1z e) (b0.at λo e=>f.extBut _ _ D.l1z e) hx λg0 I j=>I' ?_)
 have n:=j.extBut _ _ D.TOi1 (f.extBut _ _ D.TOz d0);refine j' (Ĭ n rfl (j' (acR n λV E k=>?_)))
 refine j' (ϊ (I' (j' (j' (abd ?_)))));have K:∀q o,q≠h->q≠x0->q≠ο->s.heap.get? q=some o->V.get? q=some o:=λq o q1 q2 q3 e=>k.extBut _ _ q3 (j.extBut _ _ q2 (f.extBut _ _ q1 e))
 refine j' (wd (h2.at λo e=>K _ _ D.i2z D.i12.symm D.TOi2.symm e) (c0.at λo e=>K _ _ D.l2z D.l2i1 D.l2TO e) hy λh0 L g=>I' ?_)
 have p:=g.extBut _ _ D.TOi2 E;refine j' (Ĭ p rfl (j' (acR p λr d i=>?_)))
 replace d:ϻ r ο x M:=d;refine j' (ϊ (I' (I' (j' (Ĭ d rfl (j' (wpAny_newTuple ?_)))))));have X:r.objs.size=s.heap.objs.size:=by rw[i.1,g.1,k.1,j.1,f.1]
 have t:=i.extBut _ _ D.TOz.symm (g.extBut _ _ D.i2z.symm (k.extBut _ _ D.TOz.symm (j.extBut _ _ D.i1z.symm H)));have u:=λq o N c2 c3 c4 e=>i.extBut _ _ c2 (g.extBut _ _ c4 (K q o N c3 c2 e))
 have O:=I.at λo e=>i.extBut _ _ D.TOi1.symm (g.extBut _ _ D.i12 (k.extBut _ _ D.TOi1.symm e))
 have P:=L.at λo e=>i.extBut _ _ D.TOi2.symm e
 have G:=N' t;refine j' ?_;refine j' (ύ (Á _ t) (by simp) λi0 Q l=>?_)
 refine ύ Q (by simp) λw z m=>?_
 have Y:∀q o,q≠h->r.get? q=some o->w.get? q=some o:=λq o N e=>m.extBut _ _ N (l.extBut _ _ N (Á _ e))
 have B:=m.extBut _ _ (Ö G) (l.extBut _ _ (Ö G) (Ð _ rfl));have a0:w.objs.size=r.objs.size+1:=by rw[m.1,l.1,ŵ]
 rw[X]at z B a0;refine I' ⟨_,rfl,I' ?_⟩;rw[X];exact hQ w ⟨z,Y _ _ D.TIz (u _ _ D.TIz D.TITO D.TIi1 D.TIi2 U),⟨x,M,Y _ _ D.TOz d⟩,O.at λo e=>Y _ o D.i1z e,P.at λo e=>Y _ o D.i2z e⟩ B a0 λq o N c2 c3 c4 e=>Y q o N (u q o N c2 c3 c4 e)
theorem Am{s}(G:J.handled=none)(D:aaa h C ο x0 D2 S5 W7)(Z:Al v s.heap h C ο x0 D2 S5 W7 .none b)(l:zF v s.heap S5 C3)(H:C3[b]?=none)(I:∀t,(∀c o,c≠h->c≠ο->c≠x0->c≠D2->s.heap.get? c=some o->t.get? c=some o)->j7 none {s with heap:=t}):p' (k9 y A) J (Ů (.ref h)) j7 R s:=by
 obtain⟨k,m,⟨a,c,K⟩,L,P⟩:=Z;have u:s.TypeIs (.ref h) _:=⟨_,k,rfl⟩;refine j' (abb (ϸ u aab (ϋ aab u acP ?_ (acQ _))))
 show p' _ _ (Ϻ _ 2 >>= _) _ _ _
 refine j' (ð k rfl rfl ?_);refine j' (ð k rfl rfl (j' (Ĭ m rfl ?_)));refine j' ?_;refine j' (ð k rfl rfl (I' ?_));refine j' (ė (j' (ð k rfl rfl (j' (ύ k (by simp) λw i d=>?_)))))
 refine j' ?_;refine j' (j' (abd ?_));refine j' (Ja G (L.at λo e=>d.extBut _ _ D.i1z e) (l.at λo e=>d.extBut _ _ D.l1z e) H λz e f M=>?_)
 obtain⟨N,n,p⟩:=M;have j:=f _ _ D.i1z.symm i;have r:e≠h:=λx=>by grind
 refine ύ j (by simp) λB _ g=>?_
 refine j' (acA ⟨N,g.extBut _ _ r n,p⟩ isSubtype_stop (I' (I _ λq o E _ O _ x=>g.extBut _ _ E (f _ _ O (d.extBut _ _ E x)))))
def LM(b:Bool)(h:D')(a):=h.push (SS b a)
def yt(b:Bool)(h a c):=(LM b h a).push (SS b c)
def MF(b:Bool)(h a c):=(((yt b h a c).push {cls:=.type "tuple",data:=.seq #[.ref h.objs.size,.ref (LM b h a).objs.size]}).push {cls:=.type "tuple",data:=.seq #[.none,.none]}).push {cls:=.type "zip",data:=.fields #[.none,.bool false,.bool false,.ref (yt b h a c).objs.size,.ref ((yt b h a c).push {cls:=.type "tuple",data:=.seq #[.ref h.objs.size,.ref (LM b h a).objs.size]}).objs.size]}
set_option maxHeartbeats 4000000 in
theorem uJ(b a i xs n):
  Meets (ġ.«zip.__new__» ⟨[.type "zip",.ref a,.ref i],[]⟩) (λ_ R s=>zF b s.heap a xs/\zF b s.heap i n/\R (.ok (.ret (.ref (s.heap.objs.size+4)))) {s with heap:=MF b s.heap a i}):=
 .of_wp λprog w A R s h=>by
  obtain⟨c,g,d,j,k⟩:=s;obtain⟨l,m,h⟩:=h;have o:=sub_zip
  have p:(ώ ⟨c,g,d,j,k⟩).objs.size+4=(((yt b c a i).push {cls:=.type "tuple",data:=.seq #[.ref c.objs.size,.ref (LM b c a).objs.size]}).push {cls:=.type "tuple",data:=.seq #[.none,.none]}).objs.size:=by
   unfold yt LM;simp only[ŵ]
  rw[p]at h;cases b with
  |false=>
   have e:acS (ώ ⟨c,g,d,j,k⟩) a xs:=l;have f:acS (ώ ⟨c.push {cls:=.type "list_iterator",data:=.fields #[.ref a,.int 0 0]},g,d,j,k⟩) i n:=ad5 m _
   wp_walk using ń e,ń f
   exact⟨_,rfl,h⟩
  |true=>
   have e:acT (ώ ⟨c,g,d,j,k⟩) a xs:=l;have f:acT (ώ ⟨c.push {cls:=.type "tuple_iterator",data:=.fields #[.ref a,.int 0 0]},g,d,j,k⟩) i n:=ad6 m _
   wp_walk using abe e,abe f
   exact⟨_,rfl,h⟩
end PySem
namespace L2
open PySem PySem.Spec PyProof.Rows
noncomputable def YQ(B:b'->Prop)[DecidablePred B](H:Hp):Hp:=λb=>if B b then (match H b with|some (.dZ _ u)=>some u|x=>x)else H b
structure YR(B:b'->Prop)(H H':Hp):Prop where
 YS:∀b,B b->∃o kvs,H' b=some (.dZ o (.dK kvs))
 was:∀b,B b->∃kvs,H b=some (.dK kvs)
open Classical in
def spT(sp:Sp):Sp:=λb H Q E=>sp b H (λv a=>∃B,YR B H a/\Q v (YQ B a)) E
abbrev iA(h:D')(C)(rest:List f'):=(h.push {cls:=.type "tuple",data:=.seq rest.toArray}).push {cls:=.ref C,data:=.fields #[.ref h.objs.size,.none,.none,.none,.bool false,.none]}
variable{A:À}{B:D'}{B5 G7 i9 j9 χ:List f'}{C h ο:b'}{C2 v:Bool}{D7:Option Bool}{E5 G3 P8:String}{J:Ï}{N5:Drawn}{P5:Array Ū}{Q4:Option b'}{R:f'->g'->Prop}{U d:Str}{b:Nat}{g:List Str}{i5 k7 o7 u7 z7:Option f'}{k6:OsState}{y:Ä}{ν:Str->Option f'}
theorem ow(F:abf G3 E5 P8 G7)(T:Ϗ B G7 B5)(l:B.get? C=some (ŝ d U C h χ B5 v g i9 C2 D7 Q4 i5 k7 o7 u7 z7 E5))(s:B.Ns h ν)(n:ν "__init__"=some (.ref ο))(t:∀self,aac (k9 y A) B (bindSpecial (.ref ο) self) (.ref ο,[self]))(i:j9.length<=Y'){Q}(u:ç (k9 y A) J (.call (.ref ο) ⟨.ref (B.objs.size+1)::j9,[]⟩) (λr p=>match r with|.ok (.ret c)=>c=.none/\Q (.done (.ret (.ref (B.objs.size+1)))) p|.ok _=>False|.error e=>R e p) ⟨iA B C j9,P5,N5,b,k6⟩):
  p' (k9 y A) J (ġ.«type.__call__» ⟨.ref C::j9,[]⟩) Q R ⟨B,P5,N5,b,k6⟩:=by
 repeat (first|with_reducible refine acU l ?_|with_reducible refine wpAny_madeBy_exc l ?_|wp_step)
 refine codeAny_call_builtin_code (abg _ F.quiet) (wpAny_check_new_subT F T l ?_);refine codeAny_exc_new_subT F T l ?_ i
 show p' _ _ _ _ _ _
 have k:∀a o,B.get? a=some o->(iA B C j9).get? a=some o:=λa o e=>Á _ (Á _ e)
 have f:=k _ _ l;have j:(iA B C j9).Ns h ν:=ew (s) λo w x e r=>⟨o,w,x,k _ _ e,r⟩
 have q:(Ü C::B5).contains (.ref C)=true:=by simp
 have m:=T.keeps k;have D:=(t (.ref (B.objs.size+1))).keeps k;unfold isInstance
 repeat (first|with_reducible refine acU hget ?_ | (with_reducible refine acV f ?_;rw[q])|wp_step)
 show p' _ _ (ϭ (.ref C) _) _ _ _
 refine wpAny_typeLookup_tail f j m F.mroIs F.init.lookup ?_;rw[n];refine Ć (j' (D.at ?_));refine j' (đ (Ē u λr p z=>?_))
 rcases r with e | (c|_|_|_)<;>first|exact z|exact z.elim|skip
 obtain⟨rfl,z⟩:=z;exact I' (I' z)
variable{P4:ų->g'->Prop}
theorem An(F:abf G3 E5 P8 G7)(T:Ϗ B G7 B5)(e:B.get? C=some (ŝ d U C h χ B5 v g i9 C2 D7 Q4 i5 k7 o7 u7 z7 E5))(f:B.Ns h ν)(c:ν "__init__"=some (.ref ο))(i:∀self,aac (k9 y A) B (bindSpecial (.ref ο) self) (.ref ο,[self]))(a:j9.length<=Y')(j:ç (k9 y A) (J.under (.builtin "type.__call__" ⟨.ref C::j9,[]⟩)) (.call (.ref ο) ⟨.ref (B.objs.size+1)::j9,[]⟩) (aaQ (B.objs.size+1) P4) ⟨iA B C j9,P5,N5,b,k6⟩):
  ç (k9 y A) J (.call (.ref C) ⟨j9,[]⟩) P4 ⟨B,P5,N5,b,k6⟩:=by
 have k:=tc_lookup;have l:=tc_bind (.ref C);refine acW ?_
 repeat (any_goals (first|assumption|rfl|wp_step))
 refine⟨rfl,?_⟩;refine codeAny_call_builtin_at (abg _ (by decide +kernel)) entry_typeCall (wpAny_check_type_call_sub e (ow F T e f c i a ?_))
 exact j
open PySem.W (clsIn findIn takerIn InstAt)
open PySem.Builtin PySem.Builtin.ObjectAttr PySem.Builtin.Getset_descriptor
abbrev qE:List f':=[.type "ValueError",.type "Exception",.type "BaseException",.type "object"]
noncomputable def fR:List f'->Bool
 |.ref _::r=>fR r
 |l=>l==qE
theorem ph(self):∀{l},fR l=true->refuseLoop self "__setattr__" l=pure ()
 |[],e=>by rfl
 |a::r,e=>by
  cases a with
  |ref c=>rw[refuseLoop_ref];exact ph _ e
  |_=>rw[eq_of_beq (e)];exact PySem.F.store_ValueError.passes _
theorem Ao:∀{l},fR l=true->l.contains (.type "object")=true
 |[],e=>by simp[fR]at e
 |a::r,e=>by
  cases a with
  |ref c=>rw[List.contains_cons,Ao (l:=r) e,Bool.or_true]
  |_=>rw[eq_of_beq (e)];decide
variable{C6:Option Obj}{G:M'}{J8:ClassData}{M:f'}{W5:Û}{o:g'}{υ:Obj}
theorem we(X:G.In o.heap)(I:InstAt o.heap h υ C C6)(m:clsIn G C=some J8)(j:fR J8.mro=true)(p:takerIn G C d=some none)(g:∀b,p' (k9 y A) J.in1 (storeInOwnDict (.ref h) (.ref C) (.str d W5) d M b) (λl k=>match l with|.done f=>P4 (.ok f) k|.again n=>n.quiet=true/\ç (k9 y A) J n P4 k) (λe k=>P4 (.error e) k) o):
  ç (k9 y A) J (.call (.builtin "object.__setattr__") ⟨[.ref h,.str d W5,M],[]⟩) P4 o:=by
 have i:=PySem.F.store_object
 have ne:J8.mro.isEmpty=false:=by cases q:J8.mro with
  |nil=>rw[q]at j;simp[fR]at j
  |cons _ _=>rfl
 refine ϐ i.slot.plain i.entry (@acX _ _ _ o _ _ _ _ _ [] _ i.kind i.split (I.type.andThen (abh X (by unfold Ă;rw[m,Option.bind_some,if_neg (by grind),Ao j]))) (i.args _ _ _) ?_)
 refine bD (ģ.mp p) λc r s=>?_
 have t:aac (k9 y A) _ (mroOf (.ref C)) _:=(Ϥ X m).andThen .now
 have u:aac (k9 y A) o.heap (storeTaker? c) none:=by
  cases c with
  |none=>exact .now
  |some a=>
   obtain⟨b,w,e⟩:=å.mp s;refine(PySem.W.looks_takesIn X w).andThen ?_;cases b with
   |true=>cases e
   |false=>exact .now
 rw[PySem.W.osa_eq,refuse_eq];refine j' (j' (I.type.here (j' (t.here ?_))));rw[ph _ j];refine I' (j' (I.type.here (j' ((Ŵ X r).here (j' (u.here (g _)))))))
variable{C3:Array f'}{N2:Unit->g'->Prop}{Q5:Array (Option f')}
theorem Ej{s}(X:G.In s.heap)(l:s.heap.get? h=some ⟨.ref C,none,.fields C3,Q5⟩)(q:clsIn G C=some J8)(r:fR J8.mro=true)(t:J8.hasDict=true)(u:findIn G (.ref C) "__setattr__"=some (some (.builtin "object.__setattr__")))(w:takerIn G C d=some none)(c:∀g t',g.get? h=some ⟨.ref C,some s.heap.objs.size,.fields C3,Q5⟩->g.Ns1 s.heap.objs.size (λf=>if f=d then some M else none)->(∀b o,b≠h->s.heap.get? b=some o->g.get? b=some o)->N2 () {s with heap:=g,toks:=t' }):
  p' (k9 y A) J (Ŕ (.ref h) d M) N2 R s:=by
 have I:InstAt _ h ⟨_,_,_,Q5⟩ C none:=⟨l,rfl,rfl,trivial⟩;refine aaI X I u (we X I q r w λb=>?_)
 have a:(s.heap.push {cls:=.type "dict",data:=.dict #[]}).get? h=some ⟨_,_,_,Q5⟩:=Á _ l;have i:=O' (N' l);refine j' (I' (j' (j' (ϣ l (j' (aaJ (Ϥ X q) ?_))))));rw[t];refine j' (wpAny_alloc' (j' (wpAny_update' a (I' ?_))));refine j' (I' (j' (aaK (aca ⟨_,_,_,((acY _ _ _ _ i.symm).trans (acZ rfl rfl)),rfl,λe x=>absurd x (by simp),λ_=>rfl⟩) λg j k=>?_)))
 refine cg (j.count (aaL _ M Within.nil)) λE z B m n D=>?_
 refine j' (aaM m (by rw[n];exact aaN (by grind)) ?_)
 refine I' (c g _ ((k.2 h i).trans (ĭ _ a rfl)) j λb o p e=>(k.2 b (O' (N' e))).trans ((λb o p e=>
  (acY _ _ _ _ p).trans (Á _ e)) b o p e))
variable{D2 x0:b'}{m6:Option b'}
theorem oy{h}(F:abf G3 E5 P8 G7)(T:Ϗ h G7 B5)(j:h.get? C=some (ŝ d U C ο χ B5 v g i9 C2 D7 Q4 i5 k7 o7 u7 z7 E5))(e:h.get? x0=some ⟨.ref C,m6,.fields #[.ref D2,.none,.none,.none,.bool false,.none],Q5⟩)(f:j9.length<=Y')(k:∀c,c.get? x0=some ⟨.ref C,m6,.fields #[.ref h.objs.size,.none,.none,.none,.bool false,.none],Q5⟩->c.get? h.objs.size=some {cls:=.type "tuple",data:=.seq j9.toArray}->(∀a o,a≠x0->h.get? a=some o->c.get? a=some o)->P4 (.ok (.ret .none)) ⟨c,P5,N5,b,k6⟩):
  ç (k9 y A) J (.call (.builtin P8) ⟨.ref x0::j9,[]⟩) P4 ⟨h,P5,N5,b,k6⟩:=by
 refine ϐ F.init.plain F.initEntry (wpAny_check_init_subT F T j e rfl ?_);have i:=Á (h:=h) {cls:=.type "tuple",data:=.seq j9.toArray} e
 wp_walk
 refine k _ ?_ ?_ λa o l m=>?_
 .exact ĭ _ i rfl
 .rw[ĕ _ _ (Ê (Ö (N' e)))]
  exact acZ rfl rfl
 .rw[ĕ _ _ (Ê l)]
  exact Á _ m
open PySem.W (clsIn findIn takerIn InstAt Looks mroIn)
structure yu(K:M')(C:b'):Prop where
 ga:findIn K (.ref C) "__getattribute__"=some (some (.builtin "BaseException.__getattribute__"))
 gn:findIn K (.ref C) "__getattr__"=some none
 be:mroIn K C (.type "BaseException")=some true
theorem Ap(X:G.In B)(I:InstAt B h υ C C6)(a:yu G C)(c:N2 () ⟨B,P5,N5,b,k6⟩):p' (k9 y A) J (checkBuiltinCall "BaseException.__getattribute__" ⟨[.ref h,M],[]⟩) N2 R ⟨B,P5,N5,b,k6⟩:=by
 have L:Looks (k9 y A) B (isInstance _ _) _:=(I.type).andThen (abh X a.be);refine j' (L.at ?_)
 repeat (any_goals (first|assumption|wp_step))
variable{C1:f'->g'->Prop}{M2 T5:f'}{s:Nat}
theorem HE(X:G.In B)(I:InstAt B h υ C C6)(a:yu G C)(c:∀J C1 R,C1 (.done (.ret T5)) ⟨B,P5,N5,s,k6⟩->p' (k9 y A) J (ġ.«object.__getattribute__» ⟨[.ref h,M2],[]⟩) C1 R ⟨B,P5,N5,b,k6⟩)(d:handedOut T5=pure T5)(e:C1 T5 ⟨B,P5,N5,s,k6⟩):p' (k9 y A) J (getAttrBy (.ref h) M2 v C2) C1 R ⟨B,P5,N5,b,k6⟩:=by
 have f:=I.type (M:=k9 y A);have L1:=Ŵ (M:=k9 y A) X a.ga;have L2:=Ŵ (M:=k9 y A) X a.gn;have i:=ac_.ga.bind (.ref h);have g:(C2&&onTheHeap (acB "BaseException.__getattribute__"))=false:=by cases C2<;>rfl
 refine Ć (j' (f.at (j' (L1.at ?_))));refine j' (L2.at ?_)
 repeat (any_goals (first|wp_step))
 refine(ϐ ac_.ga.plain F.entry_bexc_ga (Ap X I a ((c _) _ _ ?_)))
 show p' _ _ (handedOut T5) _ _ _
 rw[d];exact I' e
theorem Ek(X:G.In B)(I:InstAt B h υ C C6)(a:yu G C)(c:ac0 G C C6 d=some (.value M2))(e:ab8 M2=true)(f:C1 M2 ⟨B,P5,N5,b+1,k6⟩):
  p' (k9 y A) J (ϧ (.ref h) d v) C1 R ⟨B,P5,N5,b,k6⟩:=by
 refine j' (wpAny_mkText (HE X I a (λi j k q=>?_) (PySem.W.handedOut_of e) f))
 have g:=I.type (M:=k9 y A);have L1:=ac1 (M:=k9 y A) X I c;refine j' (I' (j' (I' (j' (g.at (j' (L1.at (I' q))))))))
variable{j7:Option f'->g'->Prop}
theorem yv{ox od}(X:G.In B)(I:InstAt B h ox C (some od))(a:yu G C)(c:ĺ G C=true)(e:findIn G (.ref C) "__class__"=some (some (.builtin "object.__class__")))(f:ļ G (.builtin "object.__class__") "__get__"=some (some (.builtin "getset_descriptor.__get__")))(d:Ŷ G (.builtin "object.__class__")=some true)(g:mroIn G C (.type "object")=some true)(i:j7 (some (.ref C)) ⟨B,P5,N5,b+1,k6⟩):p' (k9 y A) J (Ϸ (.ref h) "__class__") j7 R ⟨B,P5,N5,b,k6⟩:=by
 have j:ac0 G C (some od) "__class__"=some (.bind (.builtin "getset_descriptor.__get__") (.builtin "object.__class__")):=PySem.W.findObj_data (by obtain⟨m,k,_⟩:=Ϣ c;rw[k];rfl) e f d
 unfold Ϸ getAttrBy?;refine j' (wpAny_mkText (j' (abb (HE (s:=b+1) X I a (λn o p q=>?_) rfl (I' i)))))
 have l:=I.type (M:=k9 y A);have L1:=ac1 (M:=k9 y A) X I j;unfold ġ.«object.__getattribute__»;refine j' (I' (j' (I' (j' (l.at (j' (L1.at ?_)))))))
 show p' _ _ (ÿ [.builtin "object.__class__"] (call (.builtin "getset_descriptor.__get__") [.builtin "object.__class__",.ref h,.ref C]) >>= ret) _ _ _
 exact j' (Ć (đ (PySem.W.class_get (s:=⟨B,P5,N5,b+1,k6⟩) (ox:=ox) (od:=some od) X I g (I' q))))
variable{E7:Obj}
theorem sD(f:yu G C)(c:ĺ G C=true)(r:findIn G (.ref C) "__class__"=some (some (.builtin "object.__class__")))(u:ļ G (.builtin "object.__class__") "__get__"=some (some (.builtin "getset_descriptor.__get__")))(i:Ŷ G (.builtin "object.__class__")=some true)(w:mroIn G C (.type "object")=some true):
  PySem.W.KitX G (.ref h) (.ref C) (λa=>InstAt a h υ C (some E7)) where
 ty:=λ_ _ _ I=>I.type
 it:=λ_ _ X _=>by
  obtain⟨j,b,_⟩:=Ϣ c;unfold abi at b;split at b
  .rename_i x y l m o
   intro D E F H k q;unfold isType loadHead;exact j' (ϣ (k _ _ (X _ _ o)) (I' q))
  .cases b
 ne:=λa A J B n K X p=>by
  obtain⟨j,b,_⟩:=Ϣ c;refine Bool.eq_false_iff.mpr λq=>?_
  have e:C=A:=ad7 (beq_iff_eq.mp q);subst e;unfold abi at b;split at b
  .rename_i x y l m o
   have z:=(X _ _ o).symm.trans p;cases z
  .cases b
 ca:=λ{_ _ _ _ _ s} X I k=>by
  obtain⟨a,g,d,t,L⟩:=s;exact yv X I f c r u i w k
structure mY(K:M')(C N fI:b'):Prop where
 ex:∃(nm q:Str) (bs bm:List f') (sn:List Str) (sub:List f') (ab:Bool) (col:Option Bool) (dd:Option b') (k0 k1 k2 k3 k5:Option f'),
  K.lookup C=some (ŝ nm q C N bs bm true sn sub ab col dd k0 k1 k2 k3 k5 "ValueError.__new__")/\(∀h:D',K.In h->Ϗ h qE bm)
 cd:∃cd,clsIn K C=some cd/\fR cd.mro=true/\cd.hasDict=true
 sa:findIn K (.ref C) "__setattr__"=some (some (.builtin "object.__setattr__"))
 xg:yu K C
 hd:ĺ K C=true
 ns:∀h:D',K.In h->∃mN,h.Ns N mN/\mN "__init__"=some (.ref fI)
 kp:Ó K (.ref C)=true
 fn:aaP K (.ref fI)=some (.type "function")
noncomputable def cj(C:b')(od:Option b')(t:b'):Obj:=⟨.ref C,od,.fields #[.ref t,.none,.none,.none,.bool false,.none],#[]⟩
variable{S:St}{c:Cx}{e:Hp}
theorem Inv.El(I:Inv c [] S e o)(a:o.heap.get? h=some υ)(d:e h=none)(f:h≠c.env.locals)(g:h∉c.fs)(i:∀v,υ.data≠.cell v):Inv c [(h,υ)] S e o:=
 ⟨I.ok,I.os,I.bare,I.base,I.loc,I.cell,I.free,I.dG,λp b=>by
  rcases æ.mp b with q|q
  .exact I.pin p (by simp[q])
  simp_all,I.hok,I.len⟩
variable{z:List (b'×Obj)}
theorem Inv.Aq(I:Inv c z S e o):Inv c [] S e o:=
 ⟨I.ok,I.os,I.bare,I.base,I.loc,I.cell,I.free,I.dG,λp a=>I.pin p (by simp_all),I.hok,I.len⟩
variable{x:V}{y4:List (Str×V)}
theorem wg{s}(I:Inv c z S e s)(T:mY c.K C ο x0)(j:df c.K C d)(k:s.heap.get? h=some υ)(m:υ.cls=.ref C)(o:υ.dict=some D2)(f:Į υ=true)(p:e D2=some (.xd y4))(A:y4.lookup d=some x)(a:∀u,RelV x u->Inv c z S e {s with toks:=s.toks+1}->R u {s with toks:=s.toks+1}):p' (k9 c.prog c.w) J (ϧ (.ref h) d v) R C1 s:=by
 obtain⟨q,n,r⟩:=I.hok D2 _ p;obtain⟨u,t,i⟩:=iZ.some_of (x:=x) (i5:=q d) (by grind)
 obtain⟨y,g,l⟩:=fW n;have b:InstAt _ h υ C (some y):=⟨k,m,f,by simp_all⟩
 exact Ek I.eR b T.xg (ab' T.hd j (by rfl) (by rw[l,t])) (oU i) (a u i (I.tok _))
structure yw(X:Cx)(e:b'):Prop where
 new:e∈X.ex\/X.s₀.heap.objs.size<=e
 cell:∀x c,X.env.cells.lookup x=some c->c≠e
 pn:∀p∈X.pn,p.1≠e
theorem Inv.YT{s}(I:Inv c [(h,υ)] S e s)(F:yw c h)(n:B.get? h=some E7)(o:∀d j,d≠h->s.heap.get? d=some j->B.get? d=some j)(r:∀v,E7.data≠.cell v):Inv c [(h,E7)] S e {s with heap:=B,toks:=b}:=by
 refine fV (I.pin (h,υ) (by simp)) λD t k w E=>?_
 have x:=I.Aq;have keep:∀d υ,d∉[h]->s.heap.get? d=some υ->B.get? d=some υ:=λd υ f q=>o d υ (by simp_all) q
 have J:Inv c [] S e {s with heap:=B,toks:=b}:=by
  refine x.step (λd f=>?_) (λd υ _ _ f q _=>keep d υ f q) (λd υ _ _ f q _=>⟨_,keep d υ f q⟩) (λd υ f q g=>g) (λd υ f q=>⟨υ,keep d υ f q⟩) (λd G q=>q) (λd υ l q=>q) (λd H q=>⟨#[],by simp_all⟩) (λm g=>?_) ?_ I.bare
  .rw[Ã.mp f]
   exact⟨F.new,k,F.cell,λp K=>F.pn p (by simp_all)⟩
  .refine ew g λυ y A L C=>?_
   exact⟨υ,y,A,by grind,C⟩
  .intro a u q
   refine(I.hok a u q).stay (λd l f i=>keep d l (λz=>?_) i) (λd i=>i) (by simp)
   simp_all
 exact J.El n t k w r
structure XBase(K:M')(mg:Str->Option f')(bn:Str)(B0:b'):Prop where
 mg:mg bn=some (.ref B0)
 ga:ļ K (.ref B0) "__getattribute__"=some (some (.builtin "type.__getattribute__"))
 rd:ac2 K B0 (.type "type")=true
 ini:ac3 K (.ref B0) (.type "type") "__init__"=some (.val (.builtin "ValueError.__init__"))
noncomputable def Cx.mk1(X:Cx)(e):={X with ex:=[e]}
theorem Inv.mk1{X pins}{d:St}{H s e}(I:Inv X pins d H s)(j:X.ex=[])(f:e≠X.env.locals)(g:∀x c,X.env.cells.lookup x=some c->c≠e)(i:∀o,X.base.get? e≠some o)(k:e∉X.fs):Inv (X.mk1 e) pins d H s:=
 ⟨⟨I.ok.mod,I.ok.kind,I.ok.glob,I.ok.blt,I.ok.above,I.ok.inj,I.ok.has,I.ok.cab,I.ok.hd,I.ok.frames,I.ok.DE,λb a=>by rw[Ã.mp a];exact⟨f,g⟩,I.ok.bs,I.ok.um,λb o q a=>by rw[Ã.mp a]at q;exact i o q,λb a=>by rwa[Ã.mp a],I.ok.gA,I.ok.x_⟩,
  I.os,I.bare,I.base.mono (λ_ h=>h) (by simp_all),I.loc,I.cell,I.free,I.dG,I.pin,I.hok,I.len⟩
structure wh(l:List É)(e:b')(oe:Obj)(T:b')(h h':D'):Prop where
 keep:∀b o,b≠e->b∉frs l->h.get? b=some o->h'.get? b=some o
 slot:∀b o,b≠e->h.get? b=some o->∃sl,h'.get? b=some {o with slots:=sl}
 at_:h'.get? e=some (oe.mapFields (·.setIfInBounds 1 (.ref T)))
 tb:∃oT ts,h'.get? T=some oT/\oT.data=.fields ts/\ts[3]?=some .none
 new:h.objs.size<=T
def qF(h:D')(c:Array f'):=c[1]?=some .none\/∃d a b,c[1]?=some (.ref d)/\h.get? d=some a/\a.data=.fields b/\b[3]?=some .none
variable{B4:É}{j5:Model}{m5:List É}
theorem wj{s head e}(w:J.frames=some (B4::m5))(D:s.heap.FunFrames B (B4::m5))(G:B4.frame=some h)(H:s.heap.get? C=some υ)(E:υ.data=.fields C3)(hsz:1<C3.size)(m:∀F T,wh (B4::m5) C υ T s.heap F->N2 () {s with heap:=F}):
  p' j5 J (do let a ←frameOf B4;let u ←entryPlaceOf h e;let b ←ad8 head a .none (ό h) .none u;setField (.ref C) 1 b) (λ_ I=>p' j5 J (Ş (.ref C) none) N2 R I) R s:=by
 refine j' (wpAny_frameOf_fun w D G λc d=>?_)
 refine j' (wpAny_entryPlaceOf λu y=>?_)
 refine j' (aba ?_ (y.sizeOk5 _ _ _ _ _))
 have g:=(d.2.1 C (λK=>by
  obtain⟨_,o,N,L⟩:=D.mem K
  simp_all)).trans H
 generalize z:({cls:=.type _,dict:=none,data:=.fields _}:Obj)=p at *;have i:p.data=.fields ([head,.ref h,.none,ό h,.none]++(if u.isEmpty then Ź 6 ĥ else u)).toArray:=by grind
 have j:=Á p g;have r:=Ö (N' g);refine Ŝ j E hsz ?_;have k:=Ņ E (·.setIfInBounds 1 (Ü c.objs.size));have n:=ĭ _ j (aa8 k);have l:((c.push p).update C (abj (·.setIfInBounds 1 (Ü c.objs.size)))).get? _=some p:=(ĕ _ _ (Ê r)).trans (Ð _ (by rw[←z];rfl))
 refine j' (ð n k (x:=.ref c.objs.size) (by simp[hsz]) ?_)
 refine Ŝ l i (by simp) (m _ c.objs.size ?_)
 have keep:∀b o,b≠C->c.get? b=some o->(((c.push p).update C (abj (·.setIfInBounds 1 (Ü c.objs.size)))).update _ (abj (·.setIfInBounds 3 ((none).elim ĥ λf=>ό f)))).get? b=some o:=λb o A t=>by
  rw[ĕ _ _ (Ö (N' t)),ĕ _ _ (Ê A)];exact Á _ t
 refine⟨λb o t M q=>keep b o t ((d.2.1 b M).trans q),λb o t q=>?_,?_,?_,by rw[d.1];exact W' _⟩
 .obtain⟨O,P⟩:=d.2.2 b o q
  simp_all
 .rwa[ĕ _ _ r]
 .exact⟨_,_,ĭ _ l (aa8 (Ņ i _)),Ņ i _,by simp⟩
theorem Ar{s}(b:J.frames=some (B4::m5))(j:s.heap.FunFrames B (B4::m5))(f:B4.frame=some h)(d:s.heap.get? C=some υ)(e:υ.data=.fields C3)(c:qF s.heap C3)(a:∀k T,wh (B4::m5) C υ T s.heap k->N2 () {s with heap:=k}):
  p' j5 J (aad (.ref C) B4) (λ_ m=>p' j5 J (Ş (.ref C) none) N2 R m) R s:=by
 unfold aad;simp only[f];rcases c with c|⟨n,o,p,c,g,i,l⟩
 .refine j' (ð d e c (wj b j f d e (by grind) a))
 .refine j' (ð d e c ?_)
  refine j' (ð g i l ?_);refine j' (Ŝ g i (by grind) ?_)
  rw[ac4 _ n _ _ 3 _ g i l];exact wj b j f d e (by grind) a
theorem pj{s}(b:J.frames=some (B4::m5))(d:s.heap.FunFrames B (B4::m5))(e:B4.frame=some h)(f:s.heap.get? C=some υ)(g:υ.data=.fields C3)(i:qF s.heap C3)(a:∀c T,wh (B4::m5) C υ T s.heap c->N2 () {s with heap:=c}):p' j5 J (ϩ B4 (.ref C)) N2 R s:=j' (Ar b d e f g i a)
variable{j:x'}{l:T'}{t9:ŏ->g'->Prop}
theorem yx(i:B5.contains (.type "BaseException")=true)(r:J.handled=none)(f:p' j5 J (eval j B4) (λb a=>∃e od t,b=.ref e/\a.heap.get? C=some (ŝ d U C h χ B5 v g G7 C2 D7 Q4 i5 k7 o7 u7 z7 G3)/\a.heap.get? e=some (cj C od t)/\R (.ref e) a) R o):
  p' j5 J (exec (.Raise (some j) none l) B4) t9 R o:=by
 first
  |exact j' (aae (by
    have k:(Ü C::B5).contains (.type "BaseException")=true:=by simp_all
    unfold raiseStmt;refine j' (â (j' (â f (λb a c=>j' (aae (I' c))) λ_ _ j=>j)) (λb a c=>?_) λ_ _ j=>j)
    refine dO c λe od t m s q u=>?_;subst m
    obtain⟨w,n,p,x,y⟩:=a;have q:w.get? e=some ⟨.ref C,od,_,#[]⟩:=q
    repeat (first | (with_reducible refine acV s ?_;rw[k])|wp_step)
    exact wpAny_raiseNew_none r u))
structure mZ(P:Ä)(w:À)(outer:List É)(H:Hp)(s:g')(e C d:b')(H':Hp)(s':g'):Prop where
 os:s'.os=s.os
 bare:ć s'.gens
 un:Un (frs outer) [] H H' s.heap s'.heap
 hok:jw P w H' s'.heap
 new:s.heap.objs.size<=e
 free:H' e=none
 obj:∃oe vs,s'.heap.get? e=some oe/\oe.cls=.ref C/\oe.dict=some d/\oe.data=.fields vs/\qF s'.heap vs
noncomputable def jf(P:Ä)(w:À):DF:=λouter H s E x b=>∃e C d a,x=.ref e/\mZ P w outer H s e C d a b/\E (.ref C) (some d) a
theorem As{pins}(I:Inv c pins S e o)(t:c.ex=[])(j:c.stack=c.env::c.outer)(k:c.env.frame=some c.env.locals)(E:o.heap.get? h=some (cj C (some ο) x0))(x:c.s₀.heap.objs.size<=h)(G:e h=none)(f:∀y,mZ c.prog c.w c.outer c.H₀ c.s₀ h C ο e y->N2 () y):p' (k9 c.prog c.w) c.A (ϩ c.env (.ref h)) N2 R o:=by
 have l:=I.ok.frames;rw[j]at l;have B:=I.stack;rw[j]at B;refine pj l B k E rfl (.inl rfl) λO T F=>f _ ?_
 have p:∀b u,e b=some u->b∉frs _:=λb u q z=>by
  have:=I.jx b (by omega)
  grind
 have g:∀b d,c.s₀.heap.get? b=some d->b≠h/\b≠c.env.locals:=λb d q=>⟨λz=>by rw[z]at q;exact absurd (U' (N' q) x) (by simp),λz=>by rw[z]at q;exact absurd (U' (N' q) I.ok.above) (by simp)⟩
 refine⟨I.os,I.bare,⟨λb d q n i _=>?_,λb d q n i _=>?_,λb d q n _=>I.base.free b d q n (by simp_all),λb d q _=>?_,I.base.tups,I.base.gy,I.base.iO⟩,λa u q=>?_,x,G,?_⟩
 .exact F.keep b d (g b d q).1 ((λb d q i z=>by
  unfold frs at z;rw[ō,k]at z;rcases Õ.mp z with z|z
  .grind
  .exact i z) b d q i) (I.base.keep b d q n i (by rw[t];simp))
 .obtain⟨P,r⟩:=I.base.slot b d q n i (by rw[t];simp)
  obtain⟨s,D⟩:=F.slot b _ (g b d q).1 r
  simp_all
 .obtain⟨Q,r⟩:=I.base.there b d q (by simp_all)
  obtain⟨s,D⟩:=F.slot b _ (g b d q).1 r;exact⟨_,D⟩
 .refine(I.hok a u q).stay (λb H i m=>F.keep b H (λz=>?_) ?_ m) (λb m=>m) λb U m=>m
  .simp_all
  grind
 .refine aJ F.tb λJ K L M N=>?_
  exact⟨_,_,F.at_,rfl,rfl,rfl,.inr ⟨T,J,K,by simp,L,M,N⟩⟩
noncomputable def Cx.pk(X:Cx)(e):={X with A:=X.A.mark (some (.ref e)),calm:=false,xe:=λ_ _=>False}
theorem Inv.pk{X pins}{a:St}{H s e}(I:Inv X pins a H s):Inv (X.pk e) pins a H s:=
 ⟨⟨I.ok.mod,I.ok.kind,I.ok.glob,I.ok.blt,I.ok.above,I.ok.inj,I.ok.has,I.ok.cab,(λz=>nomatch (z)),I.ok.frames,I.ok.DE,I.ok.DP,I.ok.bs,I.ok.um,I.ok.om,I.ok.oo,I.ok.gA,I.ok.x_⟩,
  I.os,I.bare,I.base,I.loc,I.cell,I.free,I.dG,I.pin,I.hok,I.len⟩
theorem Inv.MG(ok:c.Ok)(I:Inv (c.pk h) z S e o):Inv c [] S e o:=
 ⟨ok,I.os,I.bare,I.base,I.loc,I.cell,I.free,I.dG,λp a=>I.pin p (by rw[Ċ]at a;simp[show p∈(c.pk h).pn from a]),I.hok,I.len⟩
theorem Inv.flown{s}(I:Inv c [] S e s)(F:wh c.stack h υ C s.heap B)(f:yw c h)(i:h≠c.env.locals)(G:e h=none):Inv c [] S e {s with heap:=B}:=by
 refine I.step (ch:=[h]) (λb d=>?_) (λb o l d j q n=>F.keep b o (by grind) (λz=>((λb z=>Õ.mp (I.qf b z)) b z).elim l d) q) (λb o _ _ j q _=>F.slot b o (by grind) q) (λ_ _ _ _ n=>n) (λb o j q=>?_) (λ_ _ q=>q) (λ_ _ _ q=>q) (λb H q=>⟨#[],by simp_all⟩) (λm r=>?_) (λa u q=>?_) I.bare
 .rw[Ã.mp d]
  exact⟨f.new,i,f.cell,λp J=>f.pn p (by simp_all)⟩
 .obtain⟨t,k⟩:=F.slot b o (by grind) q
  simp_all
 .refine cg r λo w x y A D=>?_
  obtain⟨t,k⟩:=F.slot _ o (Ê i) y;exact⟨_,w,x,k,A,D⟩
 .refine(I.hok a u q).stay (λb E d g=>F.keep b E (λz=>?_) (λz=>?_) g) (λ_ g=>g) (by simp)
  .simp_all
  .have K:=I.jx b z
   simp_all
theorem m_{b}(e:o.heap.get? h=some υ)(f:υ.data=.fields C3)(g:C3[1]?=some (.ref C))(d:o.heap.get? C=some E7)(a:E7.data=.fields b)(i:b[3]?=some .none)(c:N2 () o):
  p' j5 J (Ş (.ref h) none) N2 R o:=by
 refine j' (ð e f g ?_);refine Ŝ d a (by grind) ?_
 have:=ac4 _ C E7 b 3 _ d a i
 simp_all
noncomputable def Cx.yy(X:Cx)(e)(a:Obj):={X with pn:=X.pn++[(e,a)]}
theorem Inv.yy{X}{a:St}{H s e b}(I:Inv X [(e,b)] a H s):Inv (X.yy e b) [] a H s:=
 ⟨⟨I.ok.mod,I.ok.kind,I.ok.glob,I.ok.blt,I.ok.above,I.ok.inj,I.ok.has,I.ok.cab,I.ok.hd,I.ok.frames,I.ok.DE,I.ok.DP,I.ok.bs,I.ok.um,I.ok.om,I.ok.oo,I.ok.gA,I.ok.x_⟩,
  I.os,I.bare,I.base,I.loc,I.cell,I.free,I.dG,λp c=>I.pin p (by simpa[Cx.yy]using c),I.hok,I.len⟩
theorem Inv.HF(I:Inv (c.yy h υ) [] S e o):Inv c [(h,υ)] S e o:=
 ⟨⟨I.ok.mod,I.ok.kind,I.ok.glob,I.ok.blt,I.ok.above,I.ok.inj,I.ok.has,I.ok.cab,I.ok.hd,I.ok.frames,I.ok.DE,I.ok.DP,I.ok.bs,I.ok.um,I.ok.om,I.ok.oo,I.ok.gA,I.ok.x_⟩,
  I.os,I.bare,I.base,I.loc,I.cell,I.free,I.dG,λp a=>I.pin p (by simpa[Cx.yy]using a),I.hok,I.len⟩
structure Pw(K:M')(C:b'):Prop where
 ha:Ù K (.ref C) "__class__"=some (some (.builtin "object.__class__"))
 hn:ļ K (.builtin "object.__class__") "__get__"=some (some (.builtin "getset_descriptor.__get__"))
 ht:Ŷ K (.builtin "object.__class__")=some true
 hm:Ă K C (.type "object")=some true
structure Jb(X:Cx)(e C:b')(oe:Obj)(d:b')(N fI:b'):Prop where
 pn:(e,oe)∈X.pn
 cls:oe.cls=.ref C
 dict:oe.dict=some d
 no:Į oe=true
 txt:mY X.K C N fI
 is:Pw X.K C
theorem Jb.inst(a:Jb c h C υ D2 ο x0)(I:Inv c z S e o)(b:e D2=some (.xd y4)):∃od,œ o.heap h υ C (some od):=by
 obtain⟨f,d,_⟩:=I.hok D2 _ b;obtain⟨od,gd,_⟩:=fW d;exact⟨od,(I.pin (h,υ) (by simp[a.pn])).1,a.cls,a.no,by rwa[a.dict]⟩
def ko(X)(z:Str×T')(a):=∀E pins s (b:St) H Q,Inv X pins b H s->Q a s->p' (k9 X.prog X.w) X.A (eval (.Name z.1 z.2) X.env) Q E s
noncomputable def sE(i:Nat)(e d:b')(b:Bool):TE:=λa H Q=>a[i]?=some (some (.ref e))/\(∃c,H d=some (.xd c))/\Q (.bl b) H
variable{F5 H S0:T'}
theorem Au(a:Jb c h C υ D2 ο x0)(n:c.N[b]?=some d)(o:rV c.env.scope d)(p:Gl c "isinstance")(q:c.mg "isinstance"=none)(g:ko c (U,S0) M)(r:ö c.K (.ref C) M=some v)(i:(d==("__debug__"))=false:=by decide)(j:(d==("__classdict__"))=false:=by decide):
  PE c (.Call (.Name "isinstance" l) [.Name d H,.Name U S0] [] F5) (sE b h D2 v):=by
 intro pins s m e Q I f;obtain⟨t,⟨F,x⟩,y⟩:=f;refine ă (fj I p q aaf ?_ (by decide) (by decide))
 refine ϫ ?_ rfl rfl;refine Ğ (bZ (g_ n o i j _ s m e (λw A=>w=.ref h/\A=e) I ⟨_,t,rfl,rfl⟩) λu B ⟨w,H1,J1,D,hw,hH⟩=>?_)
 subst hw hH;cases (D);refine Ğ (g _ _ B m H1 _ J1 (Ľ ?_));obtain⟨G,k⟩:=a.inst J1 x;exact ü (sD a.txt.xg a.txt.hd a.is.ha a.is.hn a.is.ht a.is.hm) J1.eR k r (λz=>nomatch z) λE=>⟨.bl v,H1,J1.tok E,rfl,y⟩
inductive Names (X:Cx):List (Str×T')->List f'->Prop
 |nil:Names X [] []
 |cons {z:Str×T'}{cv:f'}{ns:List (Str×T')}{cs:List f'} (h:ko X z cv) (t:Names X ns cs):Names X (z::ns) (cv::cs)
theorem iV{X pos E}:∀{a}{b},Names X a b ->
  ∀{pins}{s}{c:St}{H}{Q},Inv X pins c H s->Q b s->p' (k9 X.prog X.w) X.A (spliced (Æ pos (F' (a.map λz=>.Name z.1 z.2) X.env))) Q E s
 |[],_,.nil,_,_,_,_,_,_,h=>Ľ h
 |z::a,f::b,.cons d e,pins,s,c,H,Q,I,h=>Ğ (d E pins s c H _ I (iV e I h))
variable{E8:List (Str×T')}
theorem Em{x1}(a:Jb c h C υ D2 ο x0)(r:c.N[b]?=some d)(t:rV c.env.scope d)(x:Gl c "isinstance")(y:c.mg "isinstance"=none)(g:Names c E8 χ)(hz:χ.length<=100)(A:aag c.K (.ref C) χ=some v)(i:(d==("__debug__"))=false:=by decide)(j:(d==("__classdict__"))=false:=by decide):
  PE c (.Call (.Name "isinstance" l) [.Name d H,.Tuple (E8.map λz=>.Name z.1 z.2) x1 S0] [] F5) (sE b h D2 v):=by
 intro pins s n e Q I f;obtain⟨B,⟨M,D⟩,E⟩:=f;refine ă (fj I x y aaf ?_ (by decide) (by decide))
 refine ϫ ?_ rfl rfl;refine Ğ (bZ (g_ (l:=H) r t i j pins s n e (λw F=>w=.ref h/\F=e) I ⟨.ref h,B,rfl,rfl⟩) λu s1 ⟨w,p,q,G,hw,hH⟩=>?_)
 subst hw hH;cases (show u=Ü h from G)
 refine Ğ (acf (x1:=x1) (iV g q ⟨B' hz (by decide),Ľ ?_⟩))
 have k:Inv c pins n p {s1 with heap:=s1.heap.push {cls:=.type "tuple",data:=.seq χ.toArray} }:=q.kept (t':=s1.toks) λv o z=>Á _ z
 obtain⟨J,m⟩:=a.inst k D;exact PySem.W.kia_tup (sD (E7:=J) a.txt.xg a.txt.hd a.is.ha a.is.hn a.is.ht a.is.hm) k.eR m (Ð _ rfl) A (λz=>nomatch z) λL=>⟨.bl v,p,k.tok L,rfl,E⟩
noncomputable def Xu(i:Nat)(e d:b')(a:Str):TE:=λc H Q=>c[i]?=some (some (.ref e))/\∃b v,H d=some (.xd b)/\b.lookup a=some v/\Q v H
theorem HG(a:Jb c h C υ D2 ο x0)(k:df c.K C U)(m:c.N[b]?=some d)(n:rV c.env.scope d)(g:(d==("__debug__"))=false:=by decide)(i:(d==("__classdict__"))=false:=by decide):
  PE c (.Attribute (.Name d l) U H) (Xu b h D2 U):=by
 intro pins s o e Q I f;refine xa f λp j=>aJ j λB v q r t=>?_
 refine qr rfl (bZ (g_ m n g i _ s o e (λw x=>w=.ref h/\x=e) I ⟨_,p,rfl,rfl⟩) λu D ⟨w,H1,J1,y,hw,hH⟩=>?_)
 subst hw hH;cases (y);exact wg J1 a.txt k (J1.pin (h,υ) (by simp[a.pn])).1 a.cls a.dict a.no q r λE z A=>⟨v,H1,A,z,t⟩
theorem Av{s}(X:G.In s.heap)(q:s.heap.get? h=some υ)(c:υ.cls=.ref C)(f:υ.dict=some ο)(i:Į υ=true)(r:clsIn G C=some J8)(u:fR J8.mro=true)(w:J8.hasDict=true)(x:findIn G (.ref C) "__setattr__"=some (some (.builtin "object.__setattr__")))(z:takerIn G C d=some none)(t:s.heap.Ns1 ο ν)(B:Within ν g)(D:g.length<1000)(j:∀e t',e.Ns1 ο (λa=>if a=d then some M else ν a)->Ķ ο s.heap e->N2 () {s with heap:=e,toks:=t' }):
  p' (k9 y A) J (Ŕ (.ref h) d M) N2 R s:=by
 refine bD (fW t) λE k l=>?_
 have I:InstAt _ h υ C (some E):=⟨q,c,i,by simp_all⟩
 refine aaI X I x (we X I r u z λb=>?_)
 obtain⟨oc,F,H,K⟩:=υ;subst c f;refine j' (I' (j' (j' (ϣ q (j' (aaJ (Ϥ X r) ?_))))));rw[w];refine I' ?_;refine j' (I' (j' (aaK t λe m L=>?_)))
 refine cg (m.count (aaL _ M B)) λP N O n o p=>?_
 refine j' (aaM n (by rw[o];exact aaN (B' p (by rw[ô,Ĉ];exact cO D))) (I' (by simp_all)))
variable{M0:HO}
theorem Inv.MH(I:Inv c z S e o)(i:e h=some M0)(j:∀a u,M0≠.dZ a u):h≠c.env.locals/\(∀x b,c.env.cells.lookup x=some b->b≠h)/\∀p∈c.pn++z,p.1≠h:=by
 refine⟨λd=>?_,λx b f d=>?_,λp g d=>?_⟩
 .have:=I.free;simp_all
 .rcases(I.dG x b f).1 with q|⟨k,u,q⟩
  .simp_all
  simp_all
 .obtain⟨_,q,_⟩:=I.pin p g
  simp_all
theorem yz(a:∀f,iZ (y4.lookup f) (ν f)):Within ν (y4.map (·.1)):=λy c=>by
 have:=a y;cases q:y4.lookup y with
 |none=>
  rw[q]at this;cases b:ν y with
  |none=>simp_all
  |some _=>rw[b]at this;exact this.elim
 |some v=>
  grind
theorem Aw{s}(I:Inv c [(h,cj C none D2)] S e s)(T:mY c.K C ο x0)(P:df c.K C d)(Q:h∈c.ex\/c.s₀.heap.objs.size<=h)(y:∀j g,c.env.cells.lookup j=some g->g≠h)(A:∀p∈c.pn,p.1≠h)(r:RelV x M)(k:∀n G,e n=none->n≠h->s.heap.objs.size<=n->Inv c [(h,cj C (some n) D2)] S (upd e n (.xd [(d,x)])) G->N2 () G):p' (k9 c.prog c.w) J (Ŕ (.ref h) d M) N2 R s:=by
 refine br T.cd λcd U V X=>?_
 refine fV (I.pin (h,cj C none D2) (by simp)) λH Y B Z p5=>?_
 have D:=I.hok.fresh (W' _);have t:=Ö (N' H);refine Ej I.eR H U V X T.sa P.taker λL t' g1 g2 g3=>k _ _ D t (W' _) ?_
 have I0:=I.Aq;have keep:∀b o,b∉[h]->s.heap.get? b=some o->L.get? b=some o:=λb o i q=>g3 b o (by simpa using i) q
 have l:Inv c [] S (upd e s.heap.objs.size (.xd [(d,x)])) {s with heap:=L,toks:=t' }:=by
  refine I0.step (ch:=[h]) (λb i=>?_) (λb o _ _ i q _=>keep b o i q) (λb o _ _ i q _=>⟨o.slots,keep b o i q⟩) (λb o i q E=>?_) (λb o i q=>⟨o,keep b o i q⟩) (λb xs q=>?_) (λb o N q=>?_) (λb ps q=>?_) (λm E=>?_) ?_ I.bare
  .rw[Ã.mp i]
   exact⟨Q,B,y,λp hp=>A p (by simpa using hp)⟩
  .rw[az (O' (N' q))];exact E
  .rw[az (λz=>by grind)];exact q
  .rw[az (λz=>by simp_all)];exact q
  .exact⟨#[],by rw[az (λz=>by simp_all),q];simp⟩
  .refine ew E λo es ep e1 e2=>?_
   exact⟨o,es,ep,keep _ o (by simp[Ê B]) e1,e2⟩
  .intro a o q
   by_cases O:a=s.heap.objs.size
   .subst O
    rw[aS]at q;cases q;refine⟨_,g2,λf=>?_⟩
    by_cases F:f=d
    .rw[F];simp[Ļ];exact r
    .rw[if_neg F]
     have:(f==d)=false:=by simpa using F
     simp[Ļ,this];exact trivial
   .rw[az O]at q
    refine(I.hok a o q).stay (λb N i u=>keep b N (λz=>?_) u) (λb u=>?_) λb xs u=>?_
    .simp_all
    .rw[az (λz=>by simp_all)];exact u
    .rw[az (λz=>by grind)];exact u
 exact l.El g1 (by rw[az (Ê t)];exact Y) B Z (λx=>by simp[cj])
variable{S5:b'}
theorem Ax(I:Inv c [(h,cj C (some S5) D2)] S e o)(T:mY c.K C ο x0)(D:df c.K C d)(u:e S5=some (.xd y4))(k:c.s₀.heap.objs.size<=S5)(p:y4.length<900)(s:y4.lookup d=none)(r:RelV x M)(j:∀y,Inv c [(h,cj C (some S5) D2)] S (upd e S5 (.xd (y4++[(d,x)]))) y->N2 () y):p' (k9 c.prog c.w) J (Ŕ (.ref h) d M) N2 R o:=by
 refine br T.cd λcd E F G=>?_
 refine fV (I.pin (h,cj C (some S5) D2) (by simp)) λH p2 p3 p4 p5=>?_
 obtain⟨L,N,O⟩:=I.MH u (λ_ _ z=>nomatch z)
 obtain⟨mA,n,P⟩:=I.hok S5 _ u;refine Av I.eR H rfl rfl rfl E F G T.sa D.taker n (yz P) (by simp;exact YJ p) λQ t' U V=>j _ ?_
 have keep:∀b g,b≠S5->o.heap.get? b=some g->Q.get? b=some g:=λb g i q=>(V.2 b i).trans q
 have ne:∀{b:b'}{g:HO},e b=some g->(∀f,g≠.xd f)->b≠S5:=λ{b g} q hx z=>by grind
 refine I.step (ch:=[S5]) (λb i=>?_) (λb g _ _ i q _=>keep b g (by simpa using i) q) (λb g _ _ i q _=>⟨g.slots,keep b g (by simpa using i) q⟩) (λb g i q t=>?_) (λb g i q=>⟨g,keep b g (by simpa using i) q⟩) (λb X q=>?_) (λb g A q=>?_) (λb ps q=>?_) (λm t=>?_) ?_ I.bare
 .rw[Ã.mp i]
  exact⟨.inr k,L,N,O⟩
 .rw[az (by simpa using i)];exact t
 .rw[az (ne q λ_ z=>nomatch z)];exact q
 .rw[az (ne q λ_ z=>nomatch z)];exact q
 .exact⟨#[],by rw[az (ne q λ_ z=>nomatch z),q];simp⟩
 .refine ew t λg Y Z e1 e2=>?_
  exact⟨g,Y,Z,by grind,e2⟩
 .intro a g q
  by_cases B:a=S5
  .subst B
   rw[aS]at q;cases q
   exact⟨_,U,by
     intro f;rw[List.lookup_append]
     by_cases hf:f=d
     .subst hf
      rw[s];simp[Ļ];exact r
     grind⟩
  .rw[az B]at q
   refine(I.hok a g q).stay (λb A i l=>keep b A (λz=>?_) l) (λb l=>?_) λb X l=>?_
   .simp_all
   .rw[az (by simp_all)];exact l
   .rw[az (by simp_all)];exact l
structure kr where
 fld:Str
 ve:x'
 a1:T'
 a2:T'
 a3:T'
noncomputable def kr.st(a:Str)(r:kr):K':=.Assign [.Attribute (.Name a r.a1) r.fld r.a2] r.ve r.a3
def ng(e g:b'):List (Str×TE)->Option b'->List (Str×V)->St->Hp->(Option b'->List (Str×V)->Hp->Prop)->Prop
 |[],i,b,_,H,Q=>Q i b H
 | (f,h)::r,none,_,c,H,Q=>h c H λv d=>∀a,d a=none->a≠e->g<=a->ng e g r (some a) [(f,v)] c (upd d a (.xd [(f,v)])) Q
 | (f,h)::r,some a,b,c,H,Q=>h c H λv d=>d a=some (.xd b)/\ng e g r (some a) (b++[(f,v)]) c (upd d a (.xd (b++[(f,v)]))) Q
def LO(X:Cx)(H:Hp):Option b'->List (Str×V)->Prop
 |none,a=>a=[]
 |some b,a=>H b=some (.xd a)/\X.s₀.heap.objs.size<=b
theorem qG{X}{h:St}{e C N fI t j}{i:Nat}(T:mY X.K C N fI)(F:yw X e)(p:X.N[i]?=some j)(u:rV X.env.scope j)(b:h[i]?=some (some (.ref e)))(c:(j==("__debug__"))=false)(d:(j==("__classdict__"))=false){Q R rest}(K:∀od a f Y,Inv X [(e,cj C od t)] h f Y->LO X f od a->Q od a f->p' (k9 X.prog X.w) X.A (ĸ rest X.env) R X.xe Y):
  ∀(rs:List (kr×TE)) od a H s,(∀r∈rs,PE X r.1.ve r.2/\df X.K C r.1.fld/\∀env,ò r.1.ve (some (.Attribute (.Name j r.1.a1) r.1.fld r.1.a2)) r.1.a3.line env=pure false) ->
   ((a.map (·.1))++rs.map (·.1.fld)).Nodup->a.length+rs.length<900->Inv X [(e,cj C od t)] h H s->LO X H od a->ng e X.s₀.heap.objs.size (rs.map λr=>(r.1.fld,r.2)) od a h H Q ->
   p' (k9 X.prog X.w) X.A (ĸ (rs.map (λr=>r.1.st j)++rest) X.env) R X.xe s
 |[],od,a,H,s,_,_,_,I,k,q=>K od a H s I k q
 | (r,te)::rs,od,a,H,s,Z,nd,x,I,k,q=>by
  refine qb (Z (r,te) (by simp)) λh1 na B=>?_
  have m:=λr' (hm:r'∈rs)=>Z r' (Ŏ _ hm)
  have n:((a.map (·.1)++[r.fld])++rs.map (·.1.fld)).Nodup:=by simpa using nd
  refine ϝ (acb (?_) (B _));cases od with
  |none=>
   cases (show a=[]from k)
   refine bZ (h1 _ s h H _ I q) λu1 s2 g=>?_;refine aJ g λv o D E q2=>?_
   refine bZ (g_ (l:=r.a1) p u c d _ _ _ o (λz f=>z=.ref e/\f=o) D ⟨.ref e,b,rfl,rfl⟩) λu2 s3 g=>?_;refine a8 g λz H3 y G J L=>?_
   subst J L;cases (G);have M:=y.sz;refine Aw y T na F.new F.cell F.pn E λO P a0 b0 S U=>?_
   exact qG T F p u b c d K rs (some O) [(r.fld,v)] _ P m (by simpa using n) (by simp at x ⊢;omega) U ⟨aS,B' M S⟩ (by grind)
  |some O=>
   refine bZ (h1 _ s h H _ I q) λu1 s2 g=>?_;refine a8 g λv o D E q1 q2=>?_
   refine bZ (g_ (l:=r.a1) p u c d _ _ _ o (λz f=>z=.ref e/\f=o) D ⟨.ref e,b,rfl,rfl⟩) λu2 s3 g=>?_;refine a8 g λz H3 y G J L=>?_
   subst J L;cases (G);refine Ax y T na q1 k.2 (by simp at x;exact Ø (Ė _ _) x) (by
   grind) E λP U=>?_
   exact qG T F p u b c d K rs (some O) _ _ P m (by simpa using n) (by simp at x ⊢;omega) U ⟨aS,k.2⟩ q2
noncomputable def sF(a:Str)(q:Str×T'×T'):x':=.Attribute (.Name a q.2.1) q.1 q.2.2
theorem Ay{X}{f:St}{H e C N y t a}{i:Nat}{l}(T:mY X.K C N y)(m:X.N[i]?=some a)(n:rV X.env.scope a)(b:f[i]?=some (some (.ref e)))(c:(a==("__debug__"))=false)(d:(a==("__classdict__"))=false){pos g}(o:H g=some (.xd l)):
  ∀(L:List (Str×T'×T')) s {Q},(∀q∈L,df X.K C q.1/\∃v,l.lookup q.1=some v)->Inv X [(e,cj C (some g) t)] f H s->(∀p r,p.length=L.length->Inv X [(e,cj C (some g) t)] f H r->Q p r) ->
   p' (k9 X.prog X.w) X.A (spliced (Æ pos (F' (L.map (sF a)) X.env))) Q X.xe s
 |[],s,Q,_,I,h=>Ľ (h [] s rfl I)
 |q::L,s,Q,x,I,h=>by
  refine xa (x q (by simp)) λz j=>xe j λv B=>?_
  refine Ğ (qr rfl (bZ (g_ m n c d _ _ f H (λw D=>w=.ref e/\D=H) I ⟨_,b,rfl,rfl⟩) λu R E=>?_));refine a8 E λw S k F G J=>?_
  subst G;rw[J]at k;cases (F);refine fV (k.pin (e,cj C (some g) t) (by simp)) λM _ _ _ _=>?_
  refine wg k T z M rfl rfl rfl o B λu U O=>Ay T m n b c d o L _ (λP Y=>x P (by simp_all)) O (by simp_all)
theorem En{pl}{L:List (Str×T'×T')}(I:Inv c [(h,cj C Q4 D2)] S e o)(F:yw c h)(T:mY c.K C ο x0)(B:XBase c.K c.mg U S5)(st:LO c e Q4 y4)(y:∀q∈L,df c.K C q.1/\∃v,y4.lookup q.1=some v)(i:L.length<=900)(z:c.N[b]?=some d)(D:rV c.env.scope d)(j:S[b]?=some (some (.ref h)))(J:Gl c U)(E:eval (.Call (.Attribute (.Name U l) "__init__" S0) (.Name d H::L.map (sF d)) [] F5) c.env=(do
   let G ←eval (.Name U l) c.env
   þ S0.atName
   let (f,first) ←ÿ [G] (ď G "__init__" pl)
   ğ F5 f first (Æ F5 (F' (.Name d H::L.map (sF d)) c.env)) (Ą F5 (ą [] c.env))))(a:∀t' g,Inv c [(h,cj C Q4 t')] S e g->R .none g)(r:(U==("__debug__"))=false)(k:(d==("__debug__"))=false)(m:(d==("__classdict__"))=false):
  p' (k9 c.prog c.w) c.A (eval (.Call (.Attribute (.Name U l) "__init__" S0) (.Name d H::L.map (sF d)) [] F5) c.env) R c.xe o:=by
 refine Ϩ (eB I J B.mg ?_ r) E;refine PySem.W.method_cls I.eR B.ga (PySem.W.cls_value I.eR B.rd B.ini (by rfl) ?_)
 have n:F' (.Name d H::L.map (sF d)) _=(false,eval _ c.env)::F' _ _:=rfl;refine ϫ ?_ n ?_
 .refine Ğ (bZ (g_ z D k m _ _ S e (λw M=>w=.ref h/\M=e) (I.tok (o.toks+1)) ⟨_,j,rfl,rfl⟩) λu s1 O=>?_);refine a8 O λw P Q V X Y=>?_
  subst X Y;cases (V)
  have s:∀t g,t.length=L.length->Inv c [(h,cj C Q4 D2)] S P g->p' (k9 c.prog c.w) c.A (call _ (.ref h::t)) R c.xe g:=λt g x p=>by
   obtain⟨nm,q,bs,bm,sn,sub,ab,Z,a0,k0,k1,k2,k3,k5,hC,ot⟩:=T.ex;refine fV (p.pin (h,cj C Q4 D2) (by simp)) λz1 _ _ _ _=>?_
   refine đ (oy ac5 (ot _ p.eR) (p.eR _ _ hC) z1 (by rw[Ĉ];exact cO (B' (R' x) i)) λh' g1 g2 g3=>a _ _ (p.YT F g1 g3 (λv=>by simp[cj])))
  cases Q4 with
  |none=>
   cases (st);cases L with
   |nil=>exact Ľ (by simp_all)
   |cons q L=>grind
  |some dd=>exact Ay T z D j k m st.1 L _ y Q s
 .clear n E y i
  induction L with
  |nil=>rfl
  |cons q L ih=>exact ih
structure pq(K:M')(mg:Str->Option f')(C N0 f c:b')(fd:Å)(st:K')(qual sf:Str)(ps:List Str)(rs:List kr):Prop where
 fn:∃x,zE K x qual st f fd
 cv:fd.code=.ref c
 sc:jB (sf::ps) (sf::ps) (ao st)
 cls:mY K C N0 f
 bs:Binds K fd (sf::ps) []
 na:∀r∈rs,df K C r.fld
 nd:(rs.map (·.fld)).Nodup
 sl:(ao st).names.lookup sf=some .local
 d1:(sf==("__debug__":Str))=false
 d2:(sf==("__classdict__":Str))=false
 ln:rs.length<900
 pl:ps.length<900
 body:∃(bn:Str) (B0:b') (L:List (Str×T'×T')) (p1 p2 p5 apos pos:T') (pl:É->ï Bool),XBase K mg bn B0/\(bn==("__debug__":Str))=false/\(ao st).names.lookup bn=some .globalImplicit /\
  a_ st=rs.map (kr.st sf)++[.Expr (.Call (.Attribute (.Name bn p1) "__init__" apos) (.Name sf p2::L.map (sF sf)) [] pos) p5]/\L.map (·.1)=rs.map (·.fld) /\
  (∀r∈rs,∀env,ò r.ve (some (.Attribute (.Name sf r.a1) r.fld r.a2)) r.a3.line env=pure false) /\
  (∀env:É,eval (.Call (.Attribute (.Name bn p1) "__init__" apos) (.Name sf p2::L.map (sF sf)) [] pos) env=(do
   let ov ←eval (.Name bn p1) env
   þ apos.atName
   let (f,first) ←ÿ [ov] (ď ov "__init__" (pl env))
   ğ pos f first (Æ pos (F' (.Name sf p2::L.map (sF sf)) env)) (Ą pos (ą [] env))))
variable{F7:List kr}{N:List V}{Θ:K'}{ψ:Å}
theorem Jc{gT:Option b'->List (Str×V)->Hp->Prop}(D:pq G ν ο x0 h C ψ Θ d U g F7)(i0:∀E,∃s,s.length=F7.length/\(∀p∈F7.zip s,PE ((dn fk y A G ν B (U::g) d (ao Θ) h (.ref C) J m5 o e E).k_.mk1 D2) p.1.ve p.2) /\
   ng D2 o.heap.objs.size ((F7.zip s).map λr=>(r.1.fld,r.2)) none [] (start (U::g) (.ref D2::N)) e λod c H'=>c.map (·.1)=F7.map (·.fld)/\gT od c H')(t:cz (b+1) J)(e0:sd y A G ν B J m5 o e)(hb:ľ o ψ ⟨.ref D2::χ,[]⟩ ((U::g).zip (.ref D2::χ)))(a0:N.length=g.length)(rv:Vals N χ)(he:o.heap.get? D2=some (cj ο none S5))(j0:B.objs.size<=D2)(l0:e D2=none)(b0:D2∉frs m5)(O:∀od c i t' m,gT od c i->(od=none/\c=[]\/∃Z,od=some Z/\i Z=some (.xd c)/\o.heap.objs.size<=Z)->m.os=o.os->ć m.gens->Un (frs m5) [D2] e i o.heap m.heap->jw y A i m.heap ->
   m.heap.get? D2=some (cj ο od t')->i D2=none->P4 (.ok (.ret (.ref D2))) m):
  ç (k9 y A) J (.call (.ref h) ⟨.ref D2::χ,[]⟩) (aaQ D2 P4) o:=by
 obtain⟨x,F⟩:=D.fn;have m0:=D.cv;have S:=D.sc;have T:=D.cls;obtain⟨bn,B0,L,p1,p2,p5,apos,P0,pl,j,n0,hg,o0,c0,p0,ht⟩:=D.body;refine xe F.ex λoc P=>xe P λod q0=>xe q0 λkV r0=>xe r0 λR0 s0=>xe s0 λpm t0=>bF t0 λan u0 ct S0 v0 lk w0=>?_;subst v0
 obtain rfl:u0=.ref C:=m0;have KX:G.In o.heap:=e0.mod.DO.keeps λk f D2=>(e0.bs k f D2).1
 have y0:o.heap.NoLimit:=e0.mod.nolimit.keeps λk f D2=>(e0.bs k f D2).1
 refine acg t.depth (KX _ _ lk) rfl S.co S.gen rfl (ach KX w0) (hb _ _ _ _ ?_)
 refine aci S.kind (λ⟨n,v⟩ hy=>by
  rcases S.par n (Ÿ hy).1 with q|q
  .exact .inl q
  .exact .inr ⟨q,aaV _ _ _ (.inl q)⟩) λT0 z0 s1 x=>?_
 subst z0;refine⟨y0.keeps x.toInCall.keep,codeAny_func ?_⟩;have E:XK:=λ_ _ _=>False
 have I:Inv (dn fk y A G ν B (U::g) d (ao Θ) h (.ref C) J m5 o e E) [] (start (U::g) (.ref D2::N)) e s1:=oZ (χ:=.ref D2::χ) S t.hd e0 (by simp[a0]) (.cons rfl rv) x
 have d0:=N' he;have H:D2≠o.heap.objs.size:=O' d0
 have g0:∀(l:Str) (cc:b'),(Ñ d (ao Θ) o.heap.objs.size h (.ref C)).cells.lookup l=some cc->cc≠D2:=λl cc hy z=>by
  have:=I.ok.cab l cc rfl hy;rw[z]at this;exact absurd (U' d0 this) (Ò _)
 have I1:=(I.wish (λ_ _=>False)).mk1 (e:=D2) rfl H g0 (λf q=>absurd (U' (N' q) j0) (Ò _)) b0
 have I2:=I1.El (x.toInCall.keep _ _ he) l0 H b0 (λv=>by simp[cj])
 refine br (i0 E) λs A0 C0 D0=>?_
 have G0:p' (k9 y A) (J.deeper (Ñ d (ao Θ) o.heap.objs.size h (.ref C))) (ĸ (a_ Θ) (Ñ d (ao Θ) o.heap.objs.size h (.ref C)))
   (λfl m=>fl=.next/\∃od c i t',gT od c i/\LO (dn fk y A G ν B (U::g) d (ao Θ) h (.ref C) J m5 o e E) i od c/\Inv ((dn fk y A G ν B (U::g) d (ao Θ) h (.ref C) J m5 o e E).k_.mk1 D2) [(D2,cj ο od t')] (start (U::g) (.ref D2::N)) i m) (λ_ _=>False) s1:=by
  have I0:((dn fk y A G ν B (U::g) d (ao Θ) h (.ref C) J m5 o e E).k_.mk1 D2).s₀=o:=rfl
  have J0:∀i od c,LO ((dn fk y A G ν B (U::g) d (ao Θ) h (.ref C) J m5 o e E).k_.mk1 D2) i od c->LO (dn fk y A G ν B (U::g) d (ao Θ) h (.ref C) J m5 o e E) i od c:=λi od c q=>by
   cases od with
   |none=>exact q
   |some Z=>exact q
  generalize u:(dn fk y A G ν B (U::g) d (ao Θ) h (.ref C) J m5 o e E).k_.mk1 D2=X at *;have xe:X.env=Ñ d (ao Θ) o.heap.objs.size h (.ref C):=by rw[←u];rfl
  have xN:X.N=U::g:=by rw[←u];rfl
  have xA:X.A=J.deeper (Ñ d (ao Θ) o.heap.objs.size h (.ref C)):=by rw[←u];rfl
  have xK:X.K=G:=by rw[←u];rfl
  have xm:X.mg=ν:=by rw[←u];rfl
  have xp:X.prog=y:=by rw[←u];rfl
  have xw:X.w=A:=by rw[←u];rfl
  have xx:X.xe=λ_ _=>False:=by rw[←u];rfl
  have fr:yw X D2:=⟨.inl (by rw[←u];simp[Cx.mk1]),by rw[xe];exact g0,by rw[←u];intro p hp;cases hp⟩
  rw[←xA,←xe,←xp,←xw,←xx,o0];have na:=D.na;rw[←xK]at T j na;rw[←xm]at j;have hN:X.N[0]?=some U:=by rw[xN];rfl
  have hv:rV X.env.scope U:=.inl (by rw[xe];exact D.sl)
  have K0:Gl X bn:=by show X.env.scope.names.lookup bn=_;rw[xe];exact hg
  have h0:F7.map (kr.st U)=(F7.zip s).map λr=>r.1.st U:=by
   have e1:=abk (l₁:=F7) (l₂:=s) (by omega)
   conv=>lhs;rw[←e1]
   rw[à];rfl
  rw[h0];have M:∀r∈F7.zip s,r.1∈F7:=λr t=>(Ÿ t).1
  refine qG (Q:=λod c H'=>c.map (·.1)=F7.map (·.fld)/\gT od c H') T fr hN hv rfl D.d1 D.d2 (λod c H' m a R q=>?_) (F7.zip s) none [] e s1 (λr t=>⟨C0 r t,na _ (M r t),p0 _ (M r t)⟩) ?_ ?_ I2 rfl (by rw[I0];exact D0)
  .obtain⟨q1,q2⟩:=q
   refine ϝ (abY (En a fr T j R (λq' L0=>?_) ?_ hN hv rfl K0 (ht X.env) (λt' s5 J5=>?_) n0 D.d1 D.d2) a.quiet (by rfl))
   .have h1:q'.1∈F7.map (·.fld):=by rw[←c0];exact ac6 L0
    refine bD (ë.mp h1) λr t e1=>?_
    refine⟨by rw[←e1];exact na r t,?_⟩
    rw[←q1]at h1;clear a R q1 q2
    induction c with
    |nil=>cases h1
    |cons p r ih=>
     rw[Ļ];split
     .exact⟨_,rfl⟩
     .rename_i hb
      refine ih ?_
      simp_all
   .have:=congrArg ŗ c0
    simp at this;have:=D.ln;omega
   .exact Ĝ ⟨rfl,od,c,H',t',q2,J0 _ _ _ R,J5⟩
  .have e2:(F7.zip s).map (·.1.fld)=F7.map (·.fld):=by
    have e1:=abk (l₁:=F7) (l₂:=s) (by omega)
    conv=>rhs;rw[←e1]
    rw[à];rfl
   simp only[abl,aah];rw[e2];exact D.nd
  .have:=D.ln
   simp[A0];omega
 refine â G0 (λfl m hs=>?_) λ_ _ z=>z.elim
 refine xa hs λM0 P=>bF P λod c i t' q2 Y a=>?_;subst M0
 refine fV (a.pin (D2,cj ο od t') (by simp)) λg1 g2 _ _ _=>?_
 refine⟨rfl,O od c i t' m q2 ?_ a.os a.bare a.base a.hok g1 g2⟩;cases od with
 |none=>exact .inl ⟨rfl,Y⟩
 |some Z=>exact .inr ⟨Z,rfl,Y.1,Y.2⟩
theorem nj(a:Gl c d)(b:c.mg d=some M)(e:(d==("__debug__"))=false):ko c (d,l) M:=λE pins s f H Q I q=>eB I a b q e
theorem uK(a:Gl c d)(b:c.mg d=none)(e:Č d=some M)(f:d≠"__name__")(g:(d==("__debug__"))=false):ko c (d,l) M:=λE pins s h H Q I q=>fj I a b e q f g
variable{Ξ:Nat}
theorem Inv.gone{s}(ok:c.Ok)(I:Inv (c.pk h) z S e s)(F:c.N.Nodup)(G:c.N[Ξ]?=some d)(H:∀(j:Nat) x v,c.N[j]?=some x->S[j]?=some (some v)->rV c.env.scope x->∃u,RelV v u/\Look c.env s.heap ν x u)(J:B.Ns c.env.locals (λx=>if x=d then i5 else ν x))(K:Ķ c.env.locals s.heap B):Inv c [] (S.set Ξ none) e {s with heap:=B,toks:=b}:=by
 have k:∀f o,f≠c.env.locals->s.heap.get? f=some o->B.get? f=some o:=λf o l q=>(K.2 f l).trans q
 have t:∀f o,c.s₀.heap.get? f=some o->f≠c.env.locals:=λf o q=>O' (U' (N' q) I.ok.above)
 refine⟨ok,I.os,I.bare,⟨λf o q d l m=>k f o (t f o q) (I.base.keep f o q d l m),λf o q d l m=>?_,I.base.free,λf o q m=>?_,I.base.tups,I.base.gy,I.base.iO⟩,⟨_,J,λj x v w i L=>?_⟩,λx g q=>?_,I.free,I.dG,λp D=>?_,λa u q=>?_,by rw[abm];exact I.len⟩
 .obtain⟨sl,y⟩:=I.base.slot f o q d l m
  simp_all
 .obtain⟨o',y⟩:=I.base.there f o q m
  simp_all
 .by_cases n:j=Ξ
  .rw[abn]at i
   simp_all
  .rw[ķ (Ê n)]at i
   obtain⟨u,M,O⟩:=H j x v w i L;refine⟨u,M,?_⟩;rcases O with ⟨A,C⟩|⟨A,g,C,o,P,Q⟩
   .exact .inl ⟨A,by dsimp only;rwa[if_neg (λR=>by
    subst R;exact n ((ņ (Ç.mp w).1 F).mp (w.trans G.symm)))]⟩
   .exact .inr ⟨A,g,C,o,k g o (I.Md x g C) P,Q⟩
 .obtain⟨v,o,y,T⟩:=I.cell x g q
  exact⟨v,o,k g o (I.Md x g q) y,T⟩
 .rw[Ċ]at D
  refine fV (I.pin p (by simp[show p∈(c.pk h).pn from D])) λU X E Y Z=>?_
  exact⟨k _ _ E U,X,E,Y,Z⟩
 .refine(I.hok a u q).stay (λf u' l r=>k f u' (λi=>?_) r) (λ_ r=>r) λ_ _ r=>r
  have hf:e c.env.locals=none:=I.free
  simp_all
noncomputable def MI(b:Option Str)(i:Nat)(a:St):St:=if b.isSome then a.set i none else a
variable{ξ:Hp}
theorem Eo{s' X}(I:Inv c [] S e o)(f:mZ c.prog c.w c.stack e o h C ο ξ s')(k:c.stack=c.env::c.outer)(H:c.env.frame=some c.env.locals)(L:ξ ο=some (.xd y4))(K:∀g i od,Inv c [] S ξ {s' with heap:=g}->œ g h i C od->(∀{M A R t9},t9 () {s' with heap:=g}->p' M A (Ş (.ref h) none) t9 R {s' with heap:=g}) ->
   i.cls=.ref C->i.dict=some ο->Į i=true->Inv (c.pk h) [(h,i)] S ξ {s' with heap:=g}->p' (k9 c.prog c.w) c.A (abp (.ref h) c.env X) t9 R {s' with heap:=g}):
  p' (k9 c.prog c.w) c.A (aad (.ref h) c.env) (λ_ t=>p' (k9 c.prog c.w) c.A (Ş (.ref h) none) (λ_ y=>p' (k9 c.prog c.w) c.A (abp (.ref h) c.env X) t9 R y) R t) R s':=by
 have N:Inv c [] S ξ s':=I.call' (u:=[]) f.os f.un f.hok f.bare (by simp)
 obtain⟨i,vs,g1,g2,g3,Y,Z⟩:=f.obj;have B:=N.ok.frames;rw[k]at B;have hl:=N.stack;rw[k]at hl;have l:∀b a,o.heap.get? b=some a->b≠h:=λb a q z=>by rw[z]at q;exact absurd (U' (N' q) f.new) (Ò _)
 have j:h≠c.env.locals:=λz=>by
  obtain⟨m,⟨a,_,_,O,_⟩,_⟩:=I.loc;exact l _ _ O z.symm
 have fr:yw c h:=⟨.inr (B' I.sz f.new),λx n q=>by
  obtain⟨v,a,P,_⟩:=I.cell x n q;exact l _ _ P,λp hp=>by
  obtain⟨P,_⟩:=I.pin p (by simp[hp])
  exact l _ _ P⟩
 have Q:h∉c.fs:=λz=>by
  obtain⟨_,a,O,_⟩:=I.ok.gA.mem z;exact absurd (U' (N' O) (B' I.sz f.new)) (Ò _)
 refine Ar B hl H g1 Y Z λg T F=>?_
 have J:Inv c [] S ξ {s' with heap:=g}:=N.flown (by rw[k];exact F) fr j f.free
 have r:=F.at_;obtain⟨oT,ts,t1,t2,t3⟩:=F.tb;have D:(i.mapFields (·.setIfInBounds 1 (.ref T))).cls=.ref C:=by rw[aa9];exact g2
 have d:=Ņ Y (·.setIfInBounds 1 (Ü T))
 have E:(i.mapFields (·.setIfInBounds 1 (.ref T))).dict=some ο:=by
  obtain⟨oc,od,dt,sl⟩:=i;cases dt<;>exact g3
 have U:1<vs.size:=by
  rcases Z with z|⟨_,_,_,z,_⟩<;>exact(ac7.mp z).1
 generalize (i.mapFields (·.setIfInBounds 1 (.ref T)))=s at *;have G:Į s=true:=by unfold Į;rw[d]
 obtain⟨mA,nA,_⟩:=J.hok ο _ L;obtain⟨od,gd,_⟩:=fW nA;have V:œ g h s C (some od):=⟨r,D,G,by rw[E];exact gd⟩
 exact K g s _ J V (λz=>m_ r d (by simp[U]) t1 t2 t3 z) D E G (J.pk.El r f.free j Q (λv=>by rw[d];simp))
variable{N1:List K'}{d7:g'}
theorem Az{i}(I:Inv c [] S e o)(Th:mZ c.prog c.w c.stack e o h C ο ξ d7)(G:c.stack=c.env::c.outer)(L:c.env.frame=some c.env.locals)(M:ξ ο=some (.xd y4))(hg:Gl c d)(hm:c.mg d=some (.ref x0))(O:ϑ c.K (.ref C) (.ref x0)=some true)(Y:c.N.Nodup)(B:∀n,i=some n->c.N[b]?=some n)(j:∀n,i=some n->c.env.scope.names.lookup n=some .local)(a:∀k D,k.cls=.ref C->k.dict=some ο->Į k=true->Inv (c.pk h) [(h,k)] (if i.isSome then S.set b (some (.ref h))else S) ξ D ->
   p' (k9 c.prog c.w) (c.A.mark (some (.ref h))) (ĸ (Θ::N1) c.env) (λf P=>∃g E,Inv (c.pk h) [(h,k)] g E P/\∀Z,Inv c [] (MI i b g) E Z->t9 f Z) (λ_ _=>False) D)(Q:(d==("__debug__"))=false:=by decide):
  p' (k9 c.prog c.w) c.A (aad (.ref h) c.env) (λ_ p=>p' (k9 c.prog c.w) c.A (Ş (.ref h) none) (λ_ r=>p' (k9 c.prog c.w) c.A (abp (.ref h) c.env [.ExceptHandler (some (.Name d l)) i (Θ::N1) H]) t9 R r) R p) R d7:=by
 refine Eo I Th G L M λh' s od J T F t u y J'=>?_
 refine wpAny_handleBy_cons (codeAny_handlers_test ?_) (by intro q;cases q)
 refine eB (c:=c.pk h) J.pk hg hm ?_ Q;refine(PySem.W.exm_one (K:=c.K) J.eR T.type O).here ?_;cases i with
 |none=>
  refine codeAny_handlers_suite (F ?_);exact â (a s _ t u y J') (λf P ⟨g,E,J5,q5⟩=>q5 _ (J5.MG I.ok)) (λ_ _ z=>z.elim)
 |some n=>
 have B:=B n rfl;have j:=j n rfl;refine codeAny_handlers_suite_as (F ?_);refine mL (c:=c.pk h) J' Y B (.inl j) (x:=.ref h) rfl (λD J4=>?_) (.inr j)
 refine â (a s D t u y J4) (λf P ⟨g,E,J5,q5⟩=>?_) (λ_ _ z=>z.elim)
 obtain⟨m,U,V⟩:=J5.loc;exact wpAny_nameGoes_keeps j U (by rw[I.ok.kind];rfl) λh6 v6 n6 X=>q5 _ (J5.gone I.ok Y B V n6 X)
noncomputable def MJ(C:b')(W:b'->List (Str×V)->Hp->Prop):XK:=λa e b=>a=.ref C/\∃d c,e=some d/\b d=some (.xd c)/\W d c b
noncomputable def Cx.mn(X:Cx)(a:List (b'×Obj)):={X with pn:=X.pn++a}
theorem Inv.mn{X pins}{a:St}{H s}(I:Inv X pins a H s):Inv (X.mn pins) [] a H s:=
 ⟨⟨I.ok.mod,I.ok.kind,I.ok.glob,I.ok.blt,I.ok.above,I.ok.inj,I.ok.has,I.ok.cab,I.ok.hd,I.ok.frames,I.ok.DE,I.ok.DP,I.ok.bs,I.ok.um,I.ok.om,I.ok.oo,I.ok.gA,I.ok.x_⟩,
  I.os,I.bare,I.base,I.loc,I.cell,I.free,I.dG,λp b=>I.pin p (by simpa[Cx.mn]using b),I.hok,I.len⟩
theorem Inv.lx(I:Inv (c.mn z) [] S e o):Inv c z S e o:=
 ⟨⟨I.ok.mod,I.ok.kind,I.ok.glob,I.ok.blt,I.ok.above,I.ok.inj,I.ok.has,I.ok.cab,I.ok.hd,I.ok.frames,I.ok.DE,I.ok.DP,I.ok.bs,I.ok.um,I.ok.om,I.ok.oo,I.ok.gA,I.ok.x_⟩,
  I.os,I.bare,I.base,I.loc,I.cell,I.free,I.dG,λp a=>I.pin p (by simpa[Cx.mn]using a),I.hok,I.len⟩
def gF(X)(b:St)(E):=∀pins H s e a,Inv X pins b H s->jf X.prog X.w X.stack H s E e a->X.xe e a
variable{M6:Ends}
theorem Ep{g:St->St}{f}(a:SP (((c.mn z).pk h).yy h υ) [] {nx:=λi m=>M6.nx (g i) m,rt:=M6.rt} f o):∃b d,Inv ((c.mn z).pk h) [(h,υ)] b d o/\∀e,Inv (c.mn z) [] (g b) d e->SP c z M6 f e:=by
 cases f with
 |next=>
  refine cW a λb d j k=>?_
  exact⟨_,d,j.HF,λe l=>⟨_,_,l.lx,k⟩⟩
 |ret u=>
  refine cg a λv b d j n k=>?_
  exact⟨_,d,j.HF,λe l=>⟨v,_,_,l.lx,n,k⟩⟩
 |brk=>refine cW a λ_ _ _ a=>?_;exact a.elim
 |cont=>refine cW a λ_ _ _ a=>?_;exact a.elim
theorem HH{f}(a:SP ((c.mn z).wish R) [] M6 f o):SP c z M6 f o:=by
 cases f with
 |ret u=>
  refine cg a λv b d J r q=>?_
  exact⟨v,_,d,J.dR.lx,r,q⟩
 |_=>refine cW a λb d J q=>?_;exact⟨_,d,J.dR.lx,q⟩
variable{o6:List K'}
theorem MK{W p}(I:Inv c z S e o)(u:c.stack=c.env::c.outer)(y:c.env.frame=some c.env.locals)(P:Gl c d)(B:c.mg d=some (.ref h))(D:ϑ c.K (.ref C) (.ref h)=some true)(Q:c.N.Nodup)(R:∀n,p=some n->c.N[b]?=some n)(T:∀n,p=some n->c.env.scope.names.lookup n=some .local)(k:∀xe,gF ((c.mn z).wish xe) S (MJ C W)->p' (k9 c.prog c.w) c.A (ĸ N1 c.env) (SP ((c.mn z).wish xe) [] M6) xe o)(j:∀a i s m q t,q i=some (.xd s)->W i s q->m.cls=.ref C->m.dict=some i->Į m=true->Inv (((c.mn z).pk a).yy a m) [] (if p.isSome then S.set b (some (.ref a))else S) q t ->
   p' (k9 c.prog c.w) (c.A.mark (some (.ref a))) (ĸ (Θ::o6) c.env) (SP (((c.mn z).pk a).yy a m) [] {nx:=λE q=>M6.nx (MI p b E) q,rt:=M6.rt}) (λ_ _=>False) t)(F:(d==("__debug__"))=false):
  p' (k9 c.prog c.w) c.A (exec (.Try N1 [.ExceptHandler (some (.Name d l)) p (Θ::o6) H] [] [] S0) c.env) (SP c z M6) c.xe o:=by
 refine abq (â (k _ ?_) (λf O g=>?_) (λa O g=>g))
 .intro G H1 O x s2 J U
  refine bF U λa C' i X L Y Z=>?_;subst L
  refine xa Z λe1 M=>aJ M λd' s e2 r hW=>?_
  cases e1;cases e2;refine Az (c:=c.mn _) J.dR.Aq Y u y r P B D Q R T (λm t c1 c2 c3 J4=>?_) F
  refine â (j a i s m X t r hW c1 c2 c3 J4.yy) (λf s5 g=>?_) (λ_ _ g=>g.elim)
  exact Ep g
 .cases f<;>first|exact Ĝ (HH g)|exact HH g
variable{C4:Sp}{I:List x'}{Q1:XK}{W2:TA}
theorem AA(F:bQ c.prog c.w c.K c.mg c.base (jf c.prog c.w) b h ψ g C4)(B:cz b c.A)(C:Gl c d)(D:c.mg d=some (.ref h))(E:Ó c.K (.ref h)=true)(G:Binds c.K ψ g [])(J:gF c S Q1)(L:PA c (j::I) W2)(p:(d==("__debug__"))=false)(M:F' (j::I) c.env=(false,eval j c.env)::F' I c.env)(t:(Æ H (F' I c.env)).any (·.1)=false):
  PE c (.Call (.Name d l) (j::I) [] H) (λn a Q=>n=S/\W2 n a λx o=>C4 x o Q Q1):=by
 intro pins s n a Q e f;obtain⟨rfl,f⟩:=f;refine ă (eB e C D ?_ p);refine Ŗ e.ok.mod.DO E (bZ (L _ _ s n a _ e f) λy z  N =>aJ N λx o i r q=>⟨i.eR,?_⟩) M t
 have k:=G z y i.eR (by rw[Ċ];exact(by rw[←r.length];exact F.len _ _ _ _ q))
 rw[Ċ]at k;refine đ (Ē (F.run _ _ z o ⟨y,[]⟩ y x Q Q1 B i.env0 k r q) λr O m=>?_)
 cases r with
 |error j=>exact J _ o z j O i m
 |ok fl=>
  cases fl with
  |ret u=>exact i.after m
  |next=>exact ó m
  |brk=>exact ó m
  |cont=>exact ó m
theorem Er{gT:Option b'->List (Str×V)->Hp->Prop}(D:pq c.K c.mg C h ο x0 ψ Θ d U g F7)(I:Inv c z S e o)(hr:cz (b+2) c.A)(rv:Vals N χ)(m:N.length=g.length)(b0:∀k M,¬ gT none k M)(O:∀A l a E,cz b (A.deeper (Ñ d (ao Θ) l.heap.objs.size ο (.ref x0)))->e a=none->∃P,P.length=F7.length/\(∀p∈F7.zip P,PE ((dn fk c.prog c.w c.K c.mg c.base (U::g) d (ao Θ) ο (.ref x0) A c.stack l e E).k_.mk1 a) p.1.ve p.2) /\
   ng a l.heap.objs.size ((F7.zip P).map λr=>(r.1.fld,r.2)) none [] (start (U::g) (.ref a::N)) e λod k M=>k.map (·.1)=F7.map (·.fld)/\gT od k M)(s:∀a G k t B l,gT (some G) k B->Inv c z S B l->l.heap.get? a=some (cj C (some G) t)->o.heap.objs.size<=a->B a=none->B G=some (.xd k)->R (.ref a) l):
  p' (k9 c.prog c.w) c.A (call (.ref C) χ) R c.xe o:=by
 obtain⟨nm,q,bs,bm,sn,sub,ab,c0,d0,k0,k1,k2,k3,k5,hC,ot⟩:=D.cls.ex;obtain⟨mN,hn,Q⟩:=D.cls.ns _ I.eR;have H:∀f i,o.heap.get? f=some i->(iA _ C χ).get? f=some i:=λf i a=>Á _ (Á _ a)
 have I2:=I.kept (t':=o.toks) H;have J:=I.hok.fresh (ø _);have j:∀f i,o.heap.get? f=some i->f≠o.heap.objs.size+1:=λf i q=>O' (aai (N' q))
 have L:=rv.length.symm.trans m;refine đ ?_;refine An ac5 (ot _ I.eR) (I.eR _ _ hC) hn Q (λself=>ab7 I.eR _ D.cls.fn) (by have:=D.pl;rw[Ĉ];exact Mc (Ø (R' L) this)) ?_
 refine Jc D (λE=>O _ _ _ E ((hr.make C χ []).deeper _) J) (hr.make C χ []) (I2.env0.make C χ []) (by have:=D.bs _ (.ref (o.heap.objs.size+1)::χ) I2.eR (by simp[L]);simp_all) m rv (by
  show(iA _ C χ).get? _=some ({cls:=.ref C,data:=.fields _})
  heap_get) ?_ J (λx=>by
  obtain⟨_,i,T,_⟩:=I.stack.mem x;exact j _ _ T rfl) (λod k B t' l q2 X T Y y Z g1 g2=>?_)
 .exact B' (B' I.ok.um I.sz) (ø _)
 .rcases X with ⟨rfl,rfl⟩|⟨G,rfl,a0,e0⟩
  .simp_all
  .exact s _ G k t' B l q2 (I.call' (u:=[]) T ⟨λf i a n hb _=>y.keep f i (H f i a) n hb (by simpa using j f i a),λf i a n hb _=>y.slot f i (H f i a) n hb (by simpa using j f i a),λf i a n _=>y.free f i (H f i a) n (by simpa using j f i a),λf i a _=>y.there f i (H f i a) (by simpa using j f i a),y.tups,y.gy,y.iO⟩ Z Y (by simp)) g1 (ø _) g2 a0
noncomputable def Es(f:TA)(Arg:List V->Hp->Prop)(gT:List V->Hp->Option b'->List (Str×V)->Hp->Prop)(n:Nat)(C:b')(E:XK):TS:=λ_ g H=>f g H λa d=>a.length=n/\Arg a d/\∀e b c,gT a d (some c) e b->b c=some (.xd e)->E (.ref C) (some c) b
variable{J7:List V->Hp->Prop}{Y4 d6:Str}{Δ:List Str}{ε:V'}
theorem yA{gT}(D:pq G ν C ο x0 D2 ψ Θ U Y4 Δ F7)(hr:cz (b+2) (J.deeper (Ñ d ε o.heap.objs.size h M)))(hg:Gl (dn (jf y A) y A G ν B g d ε h M J m5 o e Q1) d6)(hm:ν d6=some (.ref C))(w:PA (dn (jf y A) y A G ν B g d ε h M J m5 o e Q1) (j::I) W2)(E:∀k i x F,¬ gT k i none x F)(K:∀k i,J7 k i->∀z L u a N,cz b (z.deeper (Ñ U (ao Θ) u.heap.objs.size x0 (.ref D2)))->i a=none->∃O,O.length=F7.length/\(∀p∈F7.zip O,PE ((dn fk y A G ν B (Y4::Δ) U (ao Θ) x0 (.ref D2) z L u i N).k_.mk1 a) p.1.ve p.2) /\
   ng a u.heap.objs.size ((F7.zip O).map λr=>(r.1.fld,r.2)) none [] (start (Y4::Δ) (.ref a::k)) i λod x F=>x.map (·.1)=F7.map (·.fld)/\gT k i od x F)(P:F' (j::I) (Ñ d ε o.heap.objs.size h M)=(false,eval j (Ñ d ε o.heap.objs.size h M))::F' I (Ñ d ε o.heap.objs.size h M))(Q:(Æ H (F' I (Ñ d ε o.heap.objs.size h M))).any (·.1)=false)(R:(d6==("__debug__"))=false):
  PS (dn (jf y A) y A G ν B g d ε h M J m5 o e Q1) (.Raise (some (.Call (.Name d6 l) (j::I) [] H)) none S0) (Es W2 J7 gT Δ.length C Q1):=by
 intro pins s σ m Dn c n;obtain⟨nm,q,bs,bm,sn,sub,ab,S,X,k0,k1,k2,k3,k5,hC,L⟩:=D.cls.ex;refine yx (C:=C) (d:=nm) (U:=q) (h:=ο) (χ:=bs) (v:=true) (g:=sn) (G7:=sub) (C2:=ab) (D7:=S) (Q4:=X) (i5:=k0) (k7:=k1) (o7:=k2) (u7:=k3) (z7:=k5) (G3:="ValueError.__new__") ((L _ c.eR).hasType (by rfl)) (c.ok.hd rfl) ?_
 refine ă (eB c hg hm ?_ R);refine Ŗ c.ok.mod.DO D.cls.kp (bZ (w _ _ s σ m _ c n) λus s1 zq=>?_) P Q;refine fD zq λk i Y r1 hl ha hq=>?_;refine⟨Y.eR,?_⟩
 refine Er D Y hr r1 hl (E k i) (λz u a N Z he=>K k i ha z _ u a N Z he) λa dd x t H2 u q2 f g1 g2 g3 g4=>⟨a,_,t,rfl,f.eR _ _ hC,g1,As f rfl rfl rfl g1 (B' Y.sz g2) g3 λa0 T=>⟨a,C,dd,_,rfl,T,by grind⟩⟩
variable{O:x'}{π:TE}
theorem AB{pl}(X:PE c j π)(k:oj c.K C)(M:Meth c.K C d h)(F:bQ c.prog c.w c.K c.mg c.base (jf c.prog c.w) b h ψ g C4)(Y:cz b c.A)(Z:Binds c.K ψ g [])(hx:gF c S Q1)(ha:PA c (O::I) W2)(B:F' (O::I) c.env=(false,eval O c.env)::F' I c.env)(D:(Æ H (F' I c.env)).any (·.1)=false)(ht:eval (.Call (.Attribute j d l) (O::I) [] H) c.env=(do
   let N ←eval j c.env
   þ l.atName
   let (h,first) ←ÿ [N] (ď N d pl)
   ğ H h first (Æ H (F' (O::I) c.env)) (Ą H (ą [] c.env)))):
  PE c (.Call (.Attribute j d l) (O::I) [] H) (λn e Q=>n=S/\π n e λx y=>∃a P E,x=.ref a/\y a=some (.ins C P E)/\E.lookup d=none/\W2 n y λG z=>C4 (x::G) z Q Q1):=by
 intro pins s n e Q i f;obtain⟨rfl,f⟩:=f;refine Ϩ (bZ (X _ s n e _ i f) λu s1 zq=>?_) ht;refine aJ zq λx y R rx J=>dO J λa P E ex ea m q=>?_
 subst ex;obtain rfl:u=Ü a:=rx;refine je R ea k M m ?_;refine Ŗ i.ok.mod.DO M.kp (bZ (ha _ _ s1 n y _ R q) λus L  zf =>aJ zf λG z o r T=>⟨o.eR,?_⟩) B D
 have U:Vals (V.ref a::G) _:=.cons rfl r;have p:=Z L _ o.eR (by rw[Ċ];exact(by rw[←U.length];exact F.len _ _ _ _ T))
 rw[Ċ]at p;refine đ (Ē (F.run _ _ L z ⟨_,[]⟩ _ _ Q Q1 Y o.env0 p U T) λr s' t=>?_)
 cases r with
 |error O=>exact hx _ z L O s' o t
 |ok fl=>
  cases fl with
  |ret u=>exact o.after t
  |next=>exact ó t
  |brk=>exact ó t
  |cont=>exact ó t
theorem AD{pins}(I:Inv c pins S e o)(D:c.ex=[])(j:c.stack=c.env::c.outer)(k:c.env.frame=some c.env.locals)(K:o.heap.get? h=some υ)(Y:υ.cls=.ref C)(s:υ.dict=some ο)(l:υ.data=.fields C3)(m:qF o.heap C3)(E:c.s₀.heap.objs.size<=h)(L:e h=none)(f:∀G,mZ c.prog c.w c.outer c.H₀ c.s₀ h C ο e G->N2 () G):p' (k9 c.prog c.w) c.A (ϩ c.env (.ref h)) N2 R o:=by
 have p:=I.ok.frames;rw[j]at p;have H:=I.stack;rw[j]at H;refine pj p H k K l m λZ T F=>f _ ?_
 have t:∀b u,e b=some u->b∉frs _:=λb u q z=>by
  have:=I.jx b (by omega)
  grind
 have g:∀b d,c.s₀.heap.get? b=some d->b≠h/\b≠c.env.locals:=λb d q=>⟨λz=>by rw[z]at q;exact absurd (U' (N' q) E) (by simp),λz=>by rw[z]at q;exact absurd (U' (N' q) I.ok.above) (by simp)⟩
 refine⟨I.os,I.bare,⟨λb d q n i _=>?_,λb d q n i _=>?_,λb d q n _=>I.base.free b d q n (by simp_all),λb d q _=>?_,I.base.tups,I.base.gy,I.base.iO⟩,λa u q=>?_,E,L,?_⟩
 .exact F.keep b d (g b d q).1 ((λb d q i z=>by
  unfold frs at z;rw[ō,k]at z;rcases Õ.mp z with z|z
  .grind
  .exact i z) b d q i) (I.base.keep b d q n i (by rw[D];simp))
 .obtain⟨M,x⟩:=I.base.slot b d q n i (by rw[D];simp)
  obtain⟨y,J⟩:=F.slot b _ (g b d q).1 x
  simp_all
 .obtain⟨o',x⟩:=I.base.there b d q (by simp_all)
  obtain⟨y,J⟩:=F.slot b _ (g b d q).1 x;exact⟨_,J⟩
 .refine(I.hok a u q).stay (λb N i r=>F.keep b N (λz=>?_) ?_ r) (λb r=>r) λb xs r=>r
  .simp_all
  grind
 .refine aJ F.tb λO P Q U V=>?_
  have B:1<C3.size:=by
   rcases m with z|⟨_,_,_,z,_⟩<;>exact(ac7.mp z).1
  refine⟨_,_,F.at_,by rwa[aa9],?_,Ņ l _,.inr ⟨T,O,P,by simp[B],Q,U,V⟩⟩
  obtain⟨oc,od,X,M⟩:=υ;cases X<;>exact s
theorem sG:
  Passes (jf y A) (dn (jf y A) y A G ν B g d ε h M J m5 o e Q1) Q1:=by
 rintro pins q H s a r I ⟨a,C,b,f,rfl,c,i⟩;refine fD c.obj λt u j k l m n=>?_
 exact AD (I.call' c.os c.un c.hok c.bare (by simp)) rfl rfl rfl j k l m n (B' I.sz c.new) c.free λp T=>⟨a,C,b,f,rfl,T,i⟩
noncomputable def AE(e:ſ):=match e.key with
 |.str _ _=>true
 |_=>false
def Px(K:M')(N:b')(b:Str):Option (Option f'):=match K.lookup N with
 |some ⟨_,_,.dict a _,_⟩=>if a.toList.all AE=true then some (nsFind a b)else none
 |_=>none
theorem HJ(a:Px G h d=some i5)(f)(X:G.In f):∃mN,f.Ns h mN/\mN d=i5:=by
 unfold Px at a;split at a
 .rename_i c b g n k i
  split at a
  .rename_i j
   cases a;refine⟨_,⟨_,g,n,X _ _ i,rfl,λe l=>?_,λ_=>rfl⟩,rfl⟩
   have:=ù.mp j e (by simp_all)
   unfold AE at this
   grind
  .cases a
 .cases a
def sH(K:M'):List f'->Bool
 |.ref A::tl=>(match K.lookup A with
  |some ⟨_,_,.cls a,_⟩=>Px K a.ns "__init__"==some none
  |_=>false)&&sH K tl
 |l=>l==qE
theorem wk{K}:∀{l},sH K l=true->∀h,K.In h->Ϗ h qE l
 |[],e,h,X=>by simp[sH]at e
 |a::r,e,h,X=>by
  cases a with
  |ref A=>
   simp only[sH,Ú]at e;obtain⟨b,f⟩:=e;split at b
   .rename_i c d k m g
    obtain⟨mN,i,j⟩:=HJ (eq_of_beq b) h X;exact .own (X _ _ g) i j (wk f h X)
   .cases b
  |_=>rw[eq_of_beq (e)];exact .base
variable{Q:Int}
theorem ly(X:G.In o.heap)(I:œ o.heap h υ C C6)(a:Ă G C (.type "object")=some true)(q:C1 .notImplemented o):
  p' (k9 y A) J (call (.builtin "object.__eq__") [.ref h,.int Q W5]) C1 R o:=by
 refine đ (ϐ ac8.eq.plain PySem.F.cmpEntry_eq (acX (i:="object.__eq__") PySem.F.cmpKind_eq PySem.F.cmpSplit_eq (I.type.andThen (abh X a)) (PySem.F.cmpArgs_eq _ _) ?_));exact I' q
theorem uL(X:G.In o.heap)(I:œ o.heap h υ C C6)(b:Ù G (.ref C) "__eq__"=some (some (.builtin "object.__eq__")))(a:Ă G C (.type "object")=some true)(q:j7 none o):
  p' (k9 y A) J (tryCompare (.ref h) "__eq__" (.int Q W5)) j7 R o:=by
 refine j' (Ć (j' (j' (j' (I.type.here ((Ŵ X b).here ?_))))));simp only[ac8.eq.bind];refine j' (wpAny_askSetting (wpAny_ite ?_));split
 .exact j' (I' (I' (j' (ly X I a (I' (I' q))))))
 .exact acD (j' (I' (I' (j' (ly X I a (I' (I' q)))))))
variable{y9:Bool->g'->Prop}
theorem sub_int(q:y9 false o):p' j5 J (isSubtype (.type "int") (.ref C)) y9 R o:=by
 refine aa' (?_) q
 kernel_rfl
theorem uM(b u l c d e):
  Meets (ġ.«int.__eq__» ⟨[.int b u,.ref l],[]⟩) (λ_ R s=>s.heap.get? l=some {cls:=c,dict:=d,data:=.plain,slots:=e}/\R (.ok (.ret .notImplemented)) s):=
 .of_wp λprog w A R s h=>by obtain⟨a,h⟩:=h;wp_walk using AutoSeq1.wpAny_loadPart' a,aaF a;grind
theorem uN(a:J.units<È)(X:G.In o.heap)(O:yg o.heap h ο C ν)(b:Ù G (.ref C) "__eq__"=some (some (.builtin "object.__eq__")))(c:Ă G C (.type "object")=some true)(q:C1 (.bool false) o):
  p' (k9 y A) J (Þ .Eq (.ref h) (.int Q W5)) C1 R o:=by
 obtain⟨d,I,_⟩:=O.look
 show p' _ J (richCompare .Eq _ _) C1 R o
 refine Ć (j' (wpAny_cRoomFor a ?_));refine j' (I.type.here (j' (I' ?_)));refine j' (sub_int ?_);refine j' (uL X I b c ?_);refine j' (wpAny_tryCompare_declines (aa1 o Q W5) ac9 (ĩ ac9 (aa1 o Q W5) F.entry_int_eq (F.args_int_eq_2 _ _) (uM Q W5 h _ _ _) ⟨O.obj,rfl,?_⟩));exact j' (ė (j' (aa' (rfl) (I' q))))
end L2
namespace Mir
open PySem
inductive D where
 |non|bl (b:Bool)|int (i:Int)|str (x:Str)
 |lst (xs:List D)|tup (xs:List D)|dct (ks:List L2.Key) (vs:List D)|ref (n:Nat)
 deriving Inhabited
inductive Out (α:Type) where
 |ok (a:α)|exc (c:Str) (fs:List (Str×D))|bad
noncomputable def Out.bind{b d}:Out b->(b->Out d)->Out d
 |.ok a,f=>f a
 |.exc c e,_=>.exc c e
 |.bad,_=>.bad
instance:Monad Out where
 pure:=.ok
 bind:=Out.bind
variable{P2 f8:Type}
@[simp] theorem Py(a)(f:P2->Out f8):(Out.ok a >>= f)=f a:=rfl
@[simp] theorem ML(f:P2->Out f8):(Out.bad >>= f)=.bad:=rfl
@[simp] theorem MM(c fs)(f:P2->Out f8):((Out.exc c fs) >>= f)=.exc c fs:=rfl
@[simp] theorem Pz(a):(pure a:Out P2)=.ok a:=rfl
mutual
noncomputable def eJ:D->D->Bool
 |.non,.non=>true
 |.bl a,.bl b=>a==b
 |.bl a,.int j=>(if a then 1 else 0)==j
 |.int i,.bl b=>i==(if b then 1 else 0)
 |.int i,.int j=>i==j
 |.str x,.str y=>x==y
 |.lst c,.lst d=>fB c d
 |.tup c,.tup d=>fB c d
 |_,_=>false
noncomputable def fB:List D->List D->Bool
 |[],[]=>true
 |x::a,y::b=>eJ x y&&fB a b
 |_,_=>false
end
noncomputable def aP:Nat->D->Bool
 |_,.non|_,.bl _|_,.int _|_,.str _=>true
 |n+1,.lst a|n+1,.tup a=>a.all (aP n)
 |_,_=>false
noncomputable def small(n):=decide (n<=Y')
def lT:D->Option Bool
 |.non=>some false
 |.bl b=>some b
 |.int i=>some (i != 0)
 |.str x=>if small x.length then some (x.length != 0)else none
 |.lst a=>some (!a.isEmpty)
 |.tup a=>some (!a.isEmpty)
 |_=>none
abbrev Rs:=Bool×D
noncomputable def nk(i:Int):=decide (i.natAbs<18446744073709551616)
variable{Q:Int}
theorem sI(h:nk Q=true): -(2 ^ 64)<Q/\Q<2 ^ 64:=by
 have:=of_decide_eq_true h;omega
noncomputable def Zz(x y:D):Option {p:Int×Int//x=.int p.1/\y=.int p.2}:=match x,y with
 |.int i,.int j=>some ⟨(i,j),rfl,rfl⟩
 |_,_=>none
def gU(a:ő)(x y:D):Out Rs:=match Zz x y with
 |some ⟨(i,j),_⟩=>(match a with
  |.Add=>.ok (false,.int (i+j))
  |.Sub=>.ok (false,.int (i - j))
  |.Mult=>if nk i||nk j then .ok (false,.int (i*j))else .bad
  |.FloorDiv=>if decide (0<j)&&decide (j<1073741824)then .ok (false,.int (i / j))else .bad
  |.Mod=>if decide (0<j)then .ok (false,.int (i%j))else .bad
  |.Pow=>if decide (0<=j)&&decide (j<=1000)&&decide (i.natAbs<2 ^ 64)then .ok (false,.int (i ^ j.toNat))else .bad
  |_=>.bad)
 |_=>match a,x,y with
 |.Add,.str i,.str j=>if small (i.length+j.length)then .ok (false,.str (i++j))else .bad
 |.Add,.lst i,.lst j=>if small (i.length+j.length)then .ok (true,.lst (i++j))else .bad
 |_,_,_=>.bad
noncomputable def wm(x y) := !(Ϡ y x 0 y.length 1).isEmpty
def inD(x y:D):Out Bool:=
 match x,y with
 |x,.lst a=>if aP 8 x&&a.all (aP 8)then .ok (a.any λy=>eJ y x)else .bad
 |x,.tup a=>if aP 8 x&&a.all (aP 8)then .ok (a.any λy=>eJ y x)else .bad
 |.str x,.str y=>.ok (wm x y)
 |_,_=>.bad
noncomputable def isD(x y:D):Out Bool:=
 match x,y with
 |.non,.non=>.ok true
 |_,.non=>.ok false
 |.bl a,.bl b=>.ok (a==b)
 |.non,.bl _=>.ok false
 |.int _,.bl _=>.ok false
 |.str _,.bl _=>.ok false
 |.lst _,.bl _=>.ok false
 |.tup _,.bl _=>.ok false
 |_,_=>.bad
def eW(a:Ā)(x y:D):Out Bool:=
 match a,x,y with
 |.Eq,x,y=>if aP 8 x&&aP 8 y then .ok (eJ x y)else .bad
 |.NotEq,x,y=>if aP 8 x&&aP 8 y then .ok (!eJ x y)else .bad
 |.Lt,.int i,.int j=>.ok (decide (i<j))
 |.LtE,.int i,.int j=>.ok (decide (i<=j))
 |.Gt,.int i,.int j=>.ok (decide (j<i))
 |.GtE,.int i,.int j=>.ok (decide (j<=i))
 |.In,x,y=>inD x y
 |.NotIn,x,y=>do let b ←inD x y;.ok (!b)
 |.Is,x,y=>isD x y
 |.IsNot,x,y=>do let b ←isD x y;.ok (!b)
 |_,_,_=>.bad
noncomputable def bS(c:Nat):Str:=⟨#[c]⟩
def uO(x y:D):Out Rs:=
 match x,y with
 |.lst a,.int i=>match L2.lp a i with|some d=>.ok (false,d)|none=>.bad
 |.tup a,.int i=>match L2.lp a i with|some d=>.ok (false,d)|none=>.bad
 |.str z,.int i=>if small z.length then (match L2.lp z.cps.toList i with|some c=>.ok (false,.str (bS c))|none=>.bad)else .bad
 |_,_=>.bad
def dq{a:Type}(xs:List a)(b c:Option Int):=(xs.drop (HT.jC xs.length 0 b)).take (HT.jC xs.length xs.length c - HT.jC xs.length 0 b)
def AF(x:D)(a b:Option Int):Out Rs:=
 match x with
 |.lst c=>.ok (true,.lst (dq c a b))
 |.str z=>if small z.length then .ok (false,.str ⟨(dq z.cps.toList a b).toArray⟩)else .bad
 |_=>.bad
noncomputable def intsFrom(a:Int):Nat->List D
 |0=>[]
 |n+1=>.int a::intsFrom (a+1) n
noncomputable def oz(i:Int):=decide (i.natAbs<4611686018427387904)
theorem sJ(h:oz Q=true): -(2 ^ 62)<=Q/\Q<2 ^ 62:=by
 have:=of_decide_eq_true h;omega
noncomputable def eX(i:Nat):List D->List D
 |[]=>[]
 |d::a=>.tup [.int i,d]::eX (i+1) a
inductive mq where
 |len|all|any|sorted|list|tuple|int|min|max|bool
 deriving DecidableEq
def fY:List D->Option (List Bool)
 |[]=>some []
 |d::r=>match lT d,fY r with|some b,some bs=>some (b::bs)|_,_=>none
noncomputable def HK:List D->Option (List Int)
 |[]=>some []
 |.int i::r=>(HK r).map (i :: ·)
 |_=>none
noncomputable def hX:List D->Option (List Str)
 |[]=>some []
 |.str i::r=>(hX r).map (i :: ·)
 |_=>none
noncomputable def MN(a b:Str) := !decide (b.cps.toList<a.cps.toList)
def Et(c:List D):Out (List D):=
 if 64<=c.length then .bad else
 match HK c with
 |some d=>.ok ((d.mergeSort λa b=>decide (a<=b)).map .int)
 |none=>match hX c with
  |some e=>.ok ((e.mergeSort MN).map .str)
  |none=>.bad
def jg(f:mq)(a:D):Out Rs:=
 match f,a with
 |.len,.tup [.lst b]=>.ok (false,.int b.length)
 |.len,.tup [.tup b]=>.ok (false,.int b.length)
 |.len,.tup [.str z]=>if small z.length then .ok (false,.int z.length)else .bad
 |.all,.tup [.lst b]=>match fY b with|some bs=>.ok (false,.bl (bs.all id))|none=>.bad
 |.any,.tup [.lst b]=>match fY b with|some bs=>.ok (false,.bl (bs.any id))|none=>.bad
 |.sorted,.tup [.lst b]=>do let c ←Et b;.ok (true,.lst c)
 |.list,.tup [.lst b]=>.ok (true,.lst b)
 |.list,.tup [.tup b]=>.ok (true,.lst b)
 |.tuple,.tup [.lst b]=>.ok (false,.tup b)
 |.tuple,.tup [.tup b]=>.ok (false,.tup b)
 |.int,.tup [.int i]=>.ok (false,.int i)
 |.int,.tup [.bl k]=>.ok (false,.int (if k then 1 else 0))
 |.min,.tup [.int i,.int j]=>.ok (false,.int (if j<i then j else i))
 |.max,.tup [.int i,.int j]=>.ok (false,.int (if j>i then j else i))
 |_,_=>.bad
inductive YU where
 |index|join
 deriving DecidableEq
def uP(m:YU)(x:D)(a:D):Out Rs:=
 match m,x,a with
 |.index,.lst b,.tup [d]=>if aP 8 d&&b.all (aP 8)then (match b.findIdx? λy=>eJ y d with|some j=>.ok (false,.int j)|none=>.bad)else .bad
 |.index,.str z,.tup [.str y]=>match Ϡ z y 0 z.length 1 with|i::_=>.ok (false,.int i)|[]=>.bad
 |.join,.str z,.tup [.lst c]=>match hX c with|some b=>if decide (z.length<=16)&&decide ((b.map (·.length)).sum+b.length<=1048576)then .ok (false,.str (Txt.join z b))else .bad|none=>.bad
 |_,_,_=>.bad
inductive Ty where
 |int|str|bool|list|tuple|dict
 deriving DecidableEq
noncomputable def AG:D->Ty->Option Bool
 |.non,_=>some false
 |.bl _,t=>some (t==.bool||t==.int)
 |.int _,t=>some (t==.int)
 |.str _,t=>some (t==.str)
 |.lst _,t=>some (t==.list)
 |.tup _,t=>some (t==.tuple)
 |.dct _ _,t=>some (t==.dict)
 |.ref _,_=>none
noncomputable def gQ:D->Bool
 |.non|.bl _|.int _|.str _=>true
 |_=>false
noncomputable def fo(a)(x:Str):=if x∈a then a else a++[x]
def unlike(xs:List Str):=(xs.foldl fo []).length
noncomputable def fuel:=100000
def qH{a:Type}(xs:List a)(i x):=let k:=HT.jC xs.length 0 (some i);xs.take k++x::xs.drop k
open PySem.Spec PyProof.Rows L2
mutual
noncomputable def Rep(Z:b'->Prop)(H:Hp):D->V->Prop
 |.non,v=>v=.non
 |.bl b,v=>v=.bl b
 |.int i,v=>v=.int i
 |.str x,v=>v=.str x
 |.lst d,v=>∃a c,v=.ref a/\Z a/\Rd H a (.lst c)/\bq Z H d c
 |.tup d,v=>∃a c,v=.ref a/\Z a/\Rd H a (.tup c)/\bq Z H d c
 |.dct e d,v=>∃a c,v=.ref a/\Z a/\H a=some (.dK (e.zip c))/\bq Z H d c
 |.ref _,_=>False
noncomputable def bq(Z:b'->Prop)(H:Hp):List D->List V->Prop
 |[],a=>a=[]
 |d::b,a=>∃v r,a=v::r/\Rep Z H d v/\bq Z H b r
end
variable{M0:HO}{e ξ:Hp}{h:b'}
theorem qI(k:∀o,e h=some o->ξ h=some o)(a:Rd e h M0):Rd ξ h M0:=by
 rcases a with a|⟨o,a⟩
 .exact .inl (k _ a)
 .exact .inr ⟨o,k _ a⟩
mutual
theorem Rep.mono{Z i:b'->Prop}{H j:Hp}(k:∀a o,Z a->H a=some o->j a=some o)(z:∀a,Z a->i a):∀{d:D}{v:V},Rep Z H d v->Rep i j d v
 |.non,_,h=>by simpa only [Rep]using h
 |.bl _,_,h=>by simpa only [Rep]using h
 |.int _,_,h=>by simpa only [Rep]using h
 |.str _,_,h=>by simpa only [Rep]using h
 |.lst l,v,h=>by
  simp only[Rep]at h ⊢;obtain⟨a,c,e,b,f,g⟩:=h;exact⟨a,c,e,z a b,qI (λo=>k a o b) f,bq.mono k z g⟩
 |.tup l,v,h=>by
  simp only[Rep]at h ⊢;obtain⟨a,c,e,b,f,g⟩:=h;exact⟨a,c,e,z a b,qI (λo=>k a o b) f,bq.mono k z g⟩
 |.dct m l,v,h=>by
  simp only[Rep]at h ⊢;obtain⟨a,c,e,b,f,g⟩:=h;exact⟨a,c,e,z a b,k a _ b f,bq.mono k z g⟩
 |.ref _,_,h=>by simp only[Rep]at h
theorem bq.mono{Z f:b'->Prop}{H g:Hp}(k:∀a o,Z a->H a=some o->g a=some o)(z:∀a,Z a->f a):∀{b:List D}{c:List V},bq Z H b c->bq f g b c
 |[],_,h=>by simpa only [bq]using h
 |d::b,c,h=>by
  simp only[bq]at h ⊢;obtain⟨v,r,e,i,j⟩:=h;exact⟨v,r,e,Rep.mono k z i,bq.mono k z j⟩
end
theorem bq.length{Z H}:∀{a}{b},bq Z H a b->b.length=a.length
 |[],_,h=>by rw[h];rfl
 |d::a,_,h=>by
  refine aJ h λv r e _ c=>?_
  rw[e,ô,ô,bq.length c]
theorem bq.get{Z H}:∀{a}{b}{i:Nat}{d},bq Z H a b->a[i]?=some d->∃v,b[i]?=some v/\Rep Z H d v
 |[],_,_,_,_,e=>by simp at e
 |d::a,_,0,_,h,e=>by
  obtain⟨v,r,rfl,f,_⟩:=h
  simp_all
 |d::a,_,i+1,g,h,e=>by
  obtain⟨v,r,rfl,_,c⟩:=h;obtain⟨u,j,k⟩:=bq.get c (by simpa using e)
  simp_all
theorem bq.append{Z H}:∀{a b}{c e},bq Z H a c->bq Z H b e->bq Z H (a++b) (c++e)
 |[],_,_,_,h,f=>by rwa[h]
 |d::a,_,_,_,h,f=>by
  obtain⟨v,r,rfl,g,i⟩:=h;exact⟨v,_,rfl,g,bq.append i f⟩
variable{n:b'->Prop}
theorem bq.nil:bq n e [] []:=by rfl
theorem bq.cons{Z H d b v a}(h:Rep Z H d v)(c:bq Z H b a):bq Z H (d::b) (v::a):=⟨v,a,rfl,h,c⟩
variable{N:List V}
theorem bq.nil_inv(h:bq n e [] N):N=[]:=by simpa only [bq]using h
variable{m:D}{q:List D}
theorem bq.cons_inv(h:bq n e (m::q) N):∃v r,N=v::r/\Rep n e m v/\bq n e q r:=by simpa only [bq]using h
def Now(Z:b'->Prop)(H:Hp)(d:D)(v:V):Prop:=
 match d with
 |.lst c=>∃a b,v=.ref a/\Rd H a (.lst b)/\bq Z H c b
 |d=>Rep Z H d v
variable{x:V}
theorem Rep.now(h:Rep n e m x):Now n e m x:=by
 cases m with
 |lst d=>
  refine aJ h λa c b _ h=>⟨a,c,b,h⟩
 |_=>exact h
structure eY(Z:b'->Prop)(H:Hp)(Z':b'->Prop)(H':Hp):Prop where
 same:mU H H'
 sub:∀a,Z a->Z' a
 new:∀a,Z' a->Z a\/H a=none
 dom:∀a,Z' a->H' a≠none
theorem eY.refl(d:∀a,n a->e a≠none):eY n e n e:=⟨λ_ _ h=>h,λ_ h=>h,by grind,d⟩
theorem mU.laid{o}(a:e h=none):mU e (upd e h o):=λb u c=>by rwa[az (bf c a)]
theorem eY.laid{Z H p o}(d:∀a,Z a->H a≠none)(h:H p=none):eY Z H Z (upd H p o):=
 ⟨mU.laid h,λ_ h=>h,by grind,λa b=>by
  rw[az (λe=>d a b (by rwa[e]))]
  exact d a b⟩
def Zp(Z:b'->Prop)(p):=λa=>Z a\/a=p
def eZ(f b)(Z:b'->Prop)(g H:Hp)(d v):=
 if b=true then ∃a c e,d=.lst e/\v=.ref a/\g a=none/\¬ Z a/\H a=some (.lst c)/\bq Z H e c
 else if f=true then Now Z H d v else Rep Z H d v
variable{v:Bool}
theorem eZ.own(a:e h=none)(b:¬ n h)(c:ξ h=some (.lst N))(d:bq n ξ q N):eZ v true n e ξ (.lst q) (.ref h):=⟨h,N,q,rfl,rfl,a,b,c,d⟩
theorem eZ.rep(h:Rep n ξ m x):eZ v false n e ξ m x:=by
 unfold eZ;rw[if_neg (by simp)]
 split
 .exact h.now
 .exact h
theorem eZ.now(h:eZ true v n e ξ m x):Now n ξ m x:=by
 unfold eZ at h;split at h
 .obtain⟨a,b,f,rfl,rfl,_,_,c,d⟩:=h
  exact⟨a,b,rfl,.inl c,d⟩
 simp_all
variable{Q2 π:TE}{c:Cx}{j:x'}
theorem PE.imp(h:PE c j π)(i:∀a H Q,Q2 a H Q->π a H Q):PE c j Q2:=λpins s a H Q I q=>h _ s a H Q I (i a H Q q)
theorem nq{d e}{x:Out d}{f}{b:e}(h:(x >>= f)=.ok b):∃a,x=.ok a/\f a=.ok b:=by
 cases x with
 |ok a=>simp_all
 |exc c g=>cases h
 |bad=>cases h
variable{b:Nat}
def bK(h:small b=true):=of_decide_eq_true h
noncomputable def iW:D->Option V
 |.non=>some .non
 |.bl b=>some (.bl b)
 |.int i=>some (.int i)
 |.str x=>some (.str x)
 |_=>none
theorem fq(h:iW m=some x):Rep n e m x:=by
 cases m<;>first|cases h;simp only[Rep]|cases h
theorem gG(h:Now n e .non x):x=.non:=by simpa only [Now,Rep]using h
theorem bG(h:Now n e (.int Q) x):x=.int Q:=by simpa only [Now,Rep]using h
theorem jh(h:Now n e (.bl v) x):x=.bl v:=by simpa only [Now,Rep]using h
variable{d:Str}
theorem dw(h:Now n e (.str d) x):x=.str d:=by simpa only [Now,Rep]using h
theorem dh(h:Now n e (.lst q) x):∃a b,x=.ref a/\Rd e a (.lst b)/\bq n e q b:=h
theorem gH(h:Now n e (.tup q) x):∃a b,x=.ref a/\n a/\Rd e a (.tup b)/\bq n e q b:=by simpa only [Now,Rep]using h
variable{G:M'}
theorem lA(a:Rd e h (.lst N)):lP G e h N:=.inl a
theorem uQ(a:Rd e h (.tup N)):uq G e h N:=.inl a
variable{η:VK}
def Eu(c:∀a,n a->e a≠none)(h:bq n e q N)(k:∀b f g,eY n e g f->eZ v true g e f (.lst q) b->η b f):=λp d=>
 k _ _ n (eY.laid c d) (.own d (λz=>c p z d) aS (h.mono (λa o _=>mU.laid d a o) λ_ z=>z))
def MO:R2:=λx y H Q=>∃l b a c,x=.ref l/\y=.ref b/\Rd H l (.lst a)/\Rd H b (.lst c)/\a.length+c.length<=Y'/\∀p,H p=none->Q (.ref p) (upd H p (.lst (a++c)))
def MP(a:ő):R2:=λx y H Q=>match a with
 |.Add=>(∃i j,x=.int i/\y=.int j/\Q (.int (i+j)) H)\/(∃i j,x=.str i/\y=.str j/\i.length+j.length<=Y'/\Q (.str (i++j)) H)\/MO x y H Q
 |.Sub=>∃i j,x=.int i/\y=.int j/\Q (.int (i - j)) H
 |.Mult=>∃i j,x=.int i/\y=.int j/\IL i j/\Q (.int (i*j)) H
 |.FloorDiv=>∃i j,x=.int i/\y=.int j/\Mm i j/\Q (.int (i / j)) H
 |.Mod=>∃i j,x=.int i/\y=.int j/\0<j/\Q (.int (i%j)) H
 |.Pow=>∃i j,x=.int i/\y=.int j/\SH i j/\Q (.int (i ^ j.toNat)) H
 |_=>False
theorem uR(g):jt c (Œ g) (MP g):=by
 cases g with
 |Add=>exact IP.or (uy.or (by
   intro pins s E H x y v u Q I p t h;refine bP h λl b k m i j w A F q=>?_;subst i;subst j
   cases p;cases t;obtain⟨z,a,n,r,e⟩:k.length<=Y'/\∃(a:List _) (n:Nat),Vals k _/\s.heap.get? l=some _:=Rd.ok w I.hok;obtain⟨G,d,J,o,B⟩:m.length<=Y'/\∃(a:List _) (n:Nat),Vals m _/\s.heap.get? b=some _:=Rd.ok A I.hok;have K:=r.length;have C:=o.length;refine PySem.P.add_list e B ?_ (by grind)
   have D:a.toArray++d.toArray=(a++d).toArray:=by simp
   rw[D];exact⟨.ref _,_,I.SQ (r.append o) (by grind),rfl,q _ I.fresh⟩))
 |Sub=>exact Ml λ_ _ _ _ _ _ _ q=>sub_int q
 |Mult=>exact Pt λ_ _ _ _ _ _ _ f q=>mul_int q f.ok
 |FloorDiv=>exact DU
 |Mod=>exact IQ
 |Pow=>exact Pt λ_ _ _ _ _ _ _ f q=>pow_int_small f.1 f.2.1 f.2.2 q
 |_=>exact λ_ _ _ _ _ _ _ _ _ _ _ _ h=>h.elim
variable{C2:Bool}{D1:V}{S7 Y:D}{d9:ő}
theorem Jd(g:Now n e m x)(h:Now n e Y D1)(j:∀a,n a->e a≠none)(b:gU d9 m Y=.ok (C2,S7))(k:∀c o p,eY n e p o->eZ v C2 p e o S7 c->η c o):MP d9 x D1 e η:=by
 have d:∀{r:D}{c:V},iW r=some c->Out.ok (false,r)=Out.ok (C2,S7)->η c e:=λu q=>by
  cases q;exact k _ e n (eY.refl j) (.rep (fq u))
 unfold gU at b;split at b
 .rename_i i w y _
  obtain⟨rfl,rfl⟩:=y;cases bG g;cases bG h;cases d9
  case Add=>exact .inl ⟨_,_,rfl,rfl,d rfl b⟩
  case Sub=>exact⟨_,_,rfl,rfl,d rfl b⟩
  case Mult=>
   dsimp only at b;split at b
   .rename_i f
    refine⟨_,_,rfl,rfl,?_,d rfl b⟩;simp at f;exact(f.imp sI sI)
   .cases b
  case FloorDiv=>
   dsimp only at b;split at b
   .rename_i f
    refine⟨_,_,rfl,rfl,?_,d rfl b⟩;simp at f;exact f
   .cases b
  case Mod=>
   dsimp only at b;split at b
   .exact⟨_,_,rfl,rfl,by simp_all,d rfl b⟩
   .cases b
  case Pow=>
   dsimp only at b;split at b
   .rename_i f
    refine⟨_,_,rfl,rfl,?_,d rfl b⟩;simp at f;exact⟨f.1.1,by omega,f.2⟩
   .cases b
  all_goals cases b
 split at b
 .cases dw g;cases dw h
  split at b
  .rename_i f
   exact .inr (.inl ⟨_,_,rfl,rfl,bK f,d rfl b⟩)
  .cases b
 .obtain⟨l,w,rfl,y,s⟩:=dh g
  obtain⟨i,z,rfl,A,t⟩:=dh h;split at b
  .rename_i f
   cases b;exact .inr (.inr ⟨l,i,w,z,rfl,rfl,y,A,by rw[s.length,t.length];exact(bK f),Eu j (s.append t) k⟩)
  .cases b
 .cases b
theorem qJ{c}(f:∀o w,M0≠.dZ o w)(d:∀o w,c≠.dZ o w)(a:Rd e h M0)(b:Rd e h c):M0=c:=by
 rcases a with a|⟨o,a⟩<;>rcases b with b|⟨g,b⟩<;>rw[a]at b<;>injection b with Xv
 .grind
 .grind
 grind
variable{W4:List V}
theorem uS(a:Rd e h (.lst N))(b:Rd e h (.lst W4)):N=W4:=by
 injection (qJ (λ_ _ z=>by cases z) (λ_ _ z=>by cases z) a b)
theorem uT(a:Rd e h (.tup N))(b:Rd e h (.tup W4)):N=W4:=by
 injection (qJ (λ_ _ z=>by cases z) (λ_ _ z=>by cases z) a b)
theorem pv(a:Rd e h (.lst N))(b:Rd e h (.tup W4)):False:=by
 cases (qJ (λ_ _ z=>by cases z) (λ_ _ z=>by cases z) a b)
mutual
theorem Rep.uniq{Z:b'->Prop}{H:Hp}:∀(n:Nat) (d f:D) (v:V),aP n d=true->aP n f=true->Rep Z H d v->Rep Z H f v->d=f
 |n,.lst l,f,v,o,g,h,c=>by
  simp only[Rep]at h;obtain⟨a,m,rfl,_,j,p⟩:=h;cases f<;>simp only[Rep]at c
  case lst ys=>
   obtain⟨b,q,e,_,i,k⟩:=c;cases e;cases uS j i;cases n with
   |zero=>simp[aP]at o
   |succ n=>rw[bq.uniq n l ys m (by simpa[aP]using o) (by simpa[aP]using g) p k]
  case tup ys=>
   obtain⟨b,q,e,_,i,k⟩:=c;cases e;exact(pv j i).elim
  case dct ks ys=>cases n<;>simp[aP]at g
  all_goals cases c
 |n,.tup l,f,v,o,g,h,c=>by
  simp only[Rep]at h;obtain⟨a,m,rfl,_,j,p⟩:=h;cases f<;>simp only[Rep]at c
  case tup ys=>
   obtain⟨b,q,e,_,i,k⟩:=c;cases e;cases uT j i;cases n with
   |zero=>simp[aP]at o
   |succ n=>rw[bq.uniq n l ys m (by simpa[aP]using o) (by simpa[aP]using g) p k]
  case lst ys=>
   obtain⟨b,q,e,_,i,k⟩:=c;cases e;exact(pv i j).elim
  case dct ks ys=>cases n<;>simp[aP]at g
  all_goals cases c
 |n,.dct ks l,_,_,o,_,_,_=>by cases n<;>simp[aP]at o
 |n,.ref _,_,_,_,_,h,_=>by simp only[Rep]at h
 |n,.non,f,v,_,g,h,c=>by
  simp only[Rep]at h;subst h
  cases f<;>simp only[Rep]at c<;>first|rfl | (obtain⟨_,_,e,_⟩:=c;cases e;done) | (cases c;done)
 |n,.bl b,f,v,_,g,h,c=>by
  simp only[Rep]at h;subst h
  cases f<;>simp only[Rep]at c<;>first | (obtain⟨_,_,e,_⟩:=c;cases e;done) | (cases c;rfl) | (cases c;done)
 |n,.int b,f,v,_,g,h,c=>by
  simp only[Rep]at h;subst h
  cases f<;>simp only[Rep]at c<;>first | (obtain⟨_,_,e,_⟩:=c;cases e;done) | (cases c;rfl) | (cases c;done)
 |n,.str b,f,v,_,g,h,c=>by
  simp only[Rep]at h;subst h
  cases f<;>simp only[Rep]at c<;>first | (obtain⟨_,_,e,_⟩:=c;cases e;done) | (cases c;rfl) | (cases c;done)
theorem bq.uniq{Z:b'->Prop}{H:Hp}:∀(n:Nat) (xs a:List D) (c:List V),(∀x∈xs,aP n x=true)->(∀x∈a,aP n x=true)->bq Z H xs c->bq Z H a c->xs=a
 |n,[],a,c,_,_,h,b=>by
  rw[h.nil_inv]at b;cases a with
  |nil=>rfl
  |cons y a=>obtain⟨_,_,e,_⟩:=b.cons_inv;cases e
 |n,x::xs,a,c,o,f,h,b=>by
  obtain⟨v,r,rfl,g,i⟩:=h.cons_inv;cases a with
  |nil=>exact absurd b.nil_inv (by simp)
  |cons y a=>
   obtain⟨w,l,e,j,k⟩:=b.cons_inv;cases e;rw[Rep.uniq n x y v (o x (by simp)) (f y (by simp)) g j,bq.uniq n xs a r (λz d=>o z (by simp[d])) (λz d=>f z (by simp[d])) i k]
end
mutual
theorem AH:∀(n:Nat) (d:D),aP n d=true->eJ d d=true
 |n,.lst a,o=>by
  cases n with
  |zero=>simp[aP]at o
  |succ n=>exact fZ n a (by simpa[aP]using o)
 |n,.tup a,o=>by
  cases n with
  |zero=>simp[aP]at o
  |succ n=>exact fZ n a (by simpa[aP]using o)
 |n,.dct _ _,o=>by cases n<;>simp[aP]at o
 |n,.ref _,o=>by cases n<;>simp[aP]at o
 |n,.non,_=>rfl
 |n,.bl _,_=>beq_self_eq_true _
 |n,.int _,_=>beq_self_eq_true _
 |n,.str _,_=>beq_self_eq_true _
theorem fZ:∀(n:Nat) (xs:List D),(∀x∈xs,aP n x=true)->fB xs xs=true
 |n,[],_=>by simp[fB]
 |n,x::xs,o=>by
  simp only[fB,AH n x (o x (by simp)),fZ n xs λz hz=>o z (by simp[hz]),Bool.and_self]
end
theorem ft:∀xs a,((Â (min xs.length a.length)).all (λj=>eJ (xs.getD j .non) (a.getD j .non))&&(xs.length==a.length))=fB xs a
 |[],[]=>by simp[fB]
 |[],_::_=>by simp[fB]
 |_::_,[]=>by simp[fB]
 |x::xs,y::a=>by
  have b:min (x::xs).length (y::a).length=min xs.length a.length+1:=by simp
  rw[b,abr,fB,←(ft xs a)];simp[Function.comp_def,Bool.and_assoc]
variable{D4:List D}
theorem sL(h:q.length=D4.length):(Â q.length).all (λj=>eJ (q.getD j .non) (D4.getD j .non))=fB q D4:=by
 have e:=ft q D4
 simp_all
theorem wo(h:q.length≠D4.length):fB q D4=false:=by
 rw[←ft q D4];simp[h]
inductive Vw (s:g') (Z:b'->Prop) (H:Hp):D->f'->Prop where
 |non:Vw s Z H .non .none
 |bl (b:Bool):Vw s Z H (.bl b) (.bool b)
 |int (i:Int) (t:Û):Vw s Z H (.int i) (.int i t)
 |str (x:Str) (t:Û):Vw s Z H (.str x) (.str x t)
 |lst {l:b'}{its:List f'}{vs:List V}{ds:List D}:s.heap.IsList l its.toArray->Vals vs its->Rd H l (.lst vs)/\bq Z H ds vs->Vw s Z H (.lst ds) (.ref l)
 |tup {l:b'}{its:List f'}{vs:List V}{ds:List D}:s.heap.IsTuple l its.toArray->Vals vs its->Rd H l (.tup vs)/\bq Z H ds vs->Vw s Z H (.tup ds) (.ref l)
variable{M:f'}{o:g'}{o0:L2.St}{z:List (b'×Obj)}
theorem fH(I:Inv c z o0 e o)(g:Now n e m x)(r:RelV x M)(f:aP b m=true):Vw o n e m M:=by
 cases m with
 |non=>cases gG g;cases r;exact .non
 |bl d=>cases jh g;cases r;exact .bl d
 |int d=>cases bG g;obtain⟨t,rfl⟩:=r;exact .int d t
 |str d=>cases dw g;obtain⟨t,rfl⟩:=r;exact .str d t
 |lst q=>
  obtain⟨a,s,rfl,h,i⟩:=dh g;cases r;obtain⟨j,l,p,u⟩:=I.list (lA h);exact .lst p.isList l ⟨h,i⟩
 |tup q=>
  obtain⟨a,s,rfl,_,h,i⟩:=gH g;cases r;obtain⟨j,l,p,u⟩:=I.tuple (uQ h);exact .tup p l ⟨h,i⟩
 |dct w q=>cases b<;>simp[aP]at f
 |ref k=>cases b<;>simp[aP]at f
variable{χ:List f'}
theorem qK(r:Vals N χ)(c):∃v,N[b]?=some v/\RelV v χ[b]:=by
 have d:=r.length;have a:N[b]?=some N[b]:=by simp
 obtain⟨u,e,f⟩:=r.get a
 simp_all
variable{B5:List f'}{J:Ï}
theorem jF(I:Inv c z o0 e o)(y:∀J f g u w,J.units+b<È->aP b f=true->aP b g=true->Vw o n e f u->Vw o n e g w->Ň J o u w (eJ f g))(ox:∀x∈q,aP b x=true)(A:∀x∈D4,aP b x=true)(H:J.units+(b+1)<È)(i:Vals N χ)(k:Vals W4 B5)(pl:bq n e q N)(l:bq n e D4 W4):
  ∀j m (p:j<B5.toArray.size),Ň J.in1 o χ.toArray[j] B5.toArray[j] (eJ (q.getD j .non) (D4.getD j .non)):=by
 intro j m p;have K:=i.length;have L:=k.length;have M:=pl.length;have O:=l.length;obtain⟨v,B,C⟩:=qK i m;obtain⟨w,E,h⟩:=qK k p;have r:q[j]?=some (q.getD j .non):=by grind
 have s:D4[j]?=some (D4.getD j .non):=by grind
 obtain⟨P,a,F⟩:=pl.get r;obtain⟨Q,d,G⟩:=l.get s;rw[B]at a;cases a
 rw[E]at d;cases d
 have t:=ox _ (Î r);have o2:=A _ (Î s);exact y _ _ _ _ _ (by grind) t o2 (fH I F.now C t) (fH I G.now h o2)
variable{M2:f'}
theorem AI(d:Vw o n e m M)(g:Vw o n e Y M2)(ox:aP b m=true)(f:aP b Y=true)(h:ac' J o M M2 (eJ m Y)):Ň J o M M2 (eJ m Y):=by
 by_cases a:M=M2
 .subst a
  have:eJ m Y=true:=by
   cases d<;>cases g
   case lst.lst pl _ _ _ _ _ pm=>
    cases b with
    |zero=>simp[aP]at ox
    |succ b=>
     cases uS pl.1 pm.1;cases bq.uniq b _ _ _ (by simpa[aP]using ox) (by simpa[aP]using f) pl.2 pm.2
     exact fZ b _ (by simpa[aP]using ox)
   case tup.tup pl _ _ _ _ _ pm=>
    cases b with
    |zero=>simp[aP]at ox
    |succ b=>
     cases uT pl.1 pm.1;cases bq.uniq b _ _ _ (by simpa[aP]using ox) (by simpa[aP]using f) pl.2 pm.2
     exact fZ b _ (by simpa[aP]using ox)
   case lst.tup pl _ _ _ _ _ pm=>exact(pv pl.1 pm.1).elim
   case tup.lst pl _ _ _ _ _ pm=>exact(pv pm.1 pl.1).elim
   all_goals exact AH _ _ ox
  rw[this];exact ad9 _
 .intro prog i E Q j
  unfold eqBool;refine Ć (acI (λc=>absurd (eq_of_beq c) a) λ_=>?_)
  cases d<;>exact j' (h prog i E _ (Ħ j))
theorem sM(I:Inv c z o0 e o):∀a A i j u w,A.units+a<È->aP a i=true->aP a j=true->Vw o n e i u->Vw o n e j w->ac' A o u w (eJ i j):=by
 intro a
 induction a using ada with
 |_ a L=>
 intro A i j u w J H M N x;have d:A.units<È:=Ø (Ė _ _) J;cases N with
 |non=>
  cases x with
  |non=>exact ad'
  |bl=>exact aea _
  |int=>exact aeb _ _
  |str=>exact aec _ _
  |lst b=>exact aed b d
  |tup b=>exact aee b d
 |bl=>
  cases x with
  |non=>exact aef _
  |bl=>exact aeg _ _
  |int=>exact aeh _ _ _
  |str=>exact aei _ _ _
  |lst b=>exact aej _ b d
  |tup b=>exact aek _ b d
 |int=>
  cases x with
  |non=>exact ael _ _
  |bl=>exact aem _ _ _
  |int=>exact aen _ _ _ _
  |str=>exact aeo _ _ _ _
  |lst b=>exact aep _ _ b d
  |tup b=>exact aeq _ _ b d
 |str=>
  cases x with
  |non=>exact aer _ _
  |bl=>exact aes _ _ _
  |int=>exact aet _ _ _ _
  |str=>exact aeu _ _ _ _
  |lst b=>exact aev _ _ b d
  |tup b=>exact aew _ _ b d
 |@lst l s O y f B C=>
  cases x with
  |non=>exact aex f d
  |bl=>exact aey _ f d
  |int=>exact aez _ _ f d
  |str=>exact aeA _ _ f d
  |@lst m k K g b E F=>
   cases a with
   |zero=>simp[aP]at H
   |succ a=>
    have P:=B.length;have Q:=E.length;have R:=C.2.length;have S:=F.2.length;show ac' _ _ _ _ (fB y g)
    by_cases G:y.length=g.length
    .rw[←sL G]
     have:=aeB f b (by simp only[ê];omega) d (jF I (λA i j u w h p q r t=>AI r t p q (L a a.lt_succ_self A i j u w h p q r t)) (by simpa[aP]using H) (by simpa[aP]using M) J B E C.2 F.2)
     rw[show s.toArray.size=y.length by simp only[ê];omega]at this
     exact this
    .rw[wo G]
     exact aeC f b (by simp only[ê,bne_iff_ne];omega) d
  |tup b=>exact aeD f b d
 |@tup l s O y f B C=>
  cases x with
  |non=>exact aeE f d
  |bl=>exact aeF _ f d
  |int=>exact aeG _ _ f d
  |str=>exact aeH _ _ f d
  |lst b=>exact aeI f b d
  |@tup m k K g b E F=>
   cases a with
   |zero=>simp[aP]at H
   |succ a=>
    have P:=B.length;have Q:=E.length;have R:=C.2.length;have S:=F.2.length;show ac' _ _ _ _ (fB y g);rw[←ft y g];have:=aeJ f b d (jF I (λA i j u w h p q r t=>AI r t p q (L a a.lt_succ_self A i j u w h p q r t)) (by simpa[aP]using H) (by simpa[aP]using M) J B E C.2 F.2)
    rw[show s.toArray.size=y.length by simp only[ê];omega,show k.toArray.size=g.length by simp only[ê];omega]at this
    exact this
theorem hY(I:Inv c z o0 e o)(a A b d u w)(i:A.units+a<È)(ox:aP a b=true)(f:aP a d=true)(g:Vw o n e b u)(h:Vw o n e d w):Ň A o u w (eJ b d):=AI g h ox f (sM I a A b d u w i ox f g h)
theorem uU(I:Inv c z o0 e o)(w:J.units+(b+1)<È)(ox:aP (b+1) m=true)(y:aP (b+1) Y=true)(A:Vw o n e m M)(k:Vw o n e Y M2):SeqAt.RcNeAt J o M M2 (!eJ m Y):=by
 have d:J.units<È:=Ø (Ė _ _) w;cases A with
 |non=>
  cases k with
  |non=>exact aeK
  |bl=>exact aeL _
  |int=>exact aeM _ _
  |str=>exact aeN _ _
  |lst a=>exact aeO a d
  |tup a=>exact aeP a d
 |bl=>
  cases k with
  |non=>exact aeQ _
  |bl=>exact aeR _ _
  |int=>exact aeS _ _ _
  |str=>exact aeT _ _ _
  |lst a=>exact aeU _ a d
  |tup a=>exact aeV _ a d
 |int=>
  cases k with
  |non=>exact aeW _ _
  |bl=>exact aeX _ _ _
  |int=>exact aeY _ _ _ _
  |str=>exact aeZ _ _ _ _
  |lst a=>exact ae_ _ _ a d
  |tup a=>exact ae0 _ _ a d
 |str=>
  cases k with
  |non=>exact ae1 _ _
  |bl=>exact ae2 _ _ _
  |int=>exact ae3 _ _ _ _
  |str=>exact ae4 _ _ _ _
  |lst a=>exact ae5 _ _ a d
  |tup a=>exact ae6 _ _ a d
 |@lst l i B p f q r=>
  cases k with
  |non=>exact ae7 f d
  |bl=>exact ae8 _ f d
  |int=>exact ae9 _ _ f d
  |str=>exact ae' _ _ f d
  |@lst j h x g a s t=>
   have C:=q.length;have D:=s.length;have E:=r.2.length;have F:=t.2.length;show SeqAt.RcNeAt _ _ _ _ !fB p g
   by_cases u:p.length=g.length
   .rw[←sL u]
    have:=afa f a (by simp only[ê];omega) d (jF I (hY I b) (by simpa[aP]using ox) (by simpa[aP]using y) w q s r.2 t.2)
    rw[show i.toArray.size=p.length by simp only[ê];omega]at this
    exact this
   .rw[wo u]
    exact afb f a (by simp only[ê,bne_iff_ne];omega) d
  |tup a=>exact afc f a d
 |@tup l i B p f q r=>
  cases k with
  |non=>exact afd f d
  |bl=>exact afe _ f d
  |int=>exact aff _ _ f d
  |str=>exact afg _ _ f d
  |lst a=>exact afh f a d
  |@tup j h x g a s t=>
   have C:=q.length;have D:=s.length;have E:=r.2.length;have F:=t.2.length;show SeqAt.RcNeAt _ _ _ _ !fB p g;rw[←ft p g];have:=afi f a d (jF I (hY I b) (by simpa[aP]using ox) (by simpa[aP]using y) w q s r.2 t.2)
   rw[show i.toArray.size=p.length by simp only[ê];omega,show h.toArray.size=g.length by simp only[ê];omega]at this
   exact this
theorem Vw.uniq{s Z H n d k u}(h:Vw s Z H d u)(j:Vw s Z H k u)(o:aP n d=true)(y:aP n k=true):d=k:=by
 cases h with
 |non=>cases j;rfl
 |bl b=>cases j;rfl
 |int i t=>cases j;rfl
 |str x t=>cases j;rfl
 |@lst l m p q z A e=>
  cases j with
  |@lst _ a f g r w c=>
   cases uS e.1 c.1;cases n with
   |zero=>simp[aP]at o
   |succ n=>rw[bq.uniq n q _ p (by simpa[aP]using o) (by simpa[aP]using y) e.2 c.2]
  |@tup _ a f g r w c=>exact(pv e.1 c.1).elim
 |@tup l m p q z A e=>
  cases j with
  |@tup _ a f g r w c=>
   cases uT e.1 c.1;cases n with
   |zero=>simp[aP]at o
   |succ n=>rw[bq.uniq n q _ p (by simpa[aP]using o) (by simpa[aP]using y) e.2 c.2]
  |@lst _ a f g r w c=>exact(pv c.1 e.1).elim
def AJ(s)(Z:b'->Prop)(H a u):=@decide (∃d,aP 8 d=true/\Vw s Z H d u/\eJ d a=true) (aaj _)
theorem wq(a:aP 8 Y=true)(h:Vw o n e Y M):AJ o n e m M=eJ Y m:=by
 cases b:eJ Y m with
 |true=>exact @decide_eq_true _ (aaj _) ⟨Y,a,h,b⟩
 |false=>
  refine @decide_eq_false _ (aaj _) ?_;rintro⟨g,d,f,c⟩;rw[Vw.uniq f h d a,b]at c;cases c
theorem nr{X pins}{f:L2.St}{Z H s}(I:Inv X pins f H s){c}:∀{b}{e}{a},bq Z H b e->Vals e a->(∀d∈b,aP 8 d=true)->a.any (AJ s Z H c)=b.any λd=>eJ d c
 |[],_,_,h,r,_=>by rw[h.nil_inv]at r;cases r;rfl
 |d::b,_,_,h,r,o=>by
  obtain⟨v,vr,rfl,g,i⟩:=h.cons_inv;cases r with
  |cons j k=>
   rw[ş,ş,nr I i k (by simp_all),wq (o d (by simp)) (fH I g.now j (o d (by simp)))]
theorem nt{X pins}{k:L2.St}{Z H s}(I:Inv X pins k H s){A b w}(f:A.units+8<È)(ox:aP 8 b=true)(g:Vw s Z H b w):
  ∀{c}{i}{a},bq Z H c i->Vals i a->(∀d∈c,aP 8 d=true)->∀u∈a,Ň A s u w (AJ s Z H b u)
 |[],_,_,h,r,_,u,hm=>by rw[h.nil_inv]at r;cases r;simp at hm
 |d::c,_,_,h,r,o,u,hm=>by
  obtain⟨v,vr,rfl,l,m⟩:=h.cons_inv;cases r with
  |cons n p=>
   rcases Õ.mp hm with e|hm
   .subst e
    have j:=fH I l.now n (o d (by simp))
    rw[wq (o d (by simp)) j]
    exact hY I 8 A d b _ w f (o d (by simp)) ox j g
   .exact nt I f ox g m p (λz q=>o z (by simp[q])) u hm
def AK(c:Ā):R2:=λx y H Q=>∃Z a b k,Now Z H a x/\Now Z H b y/\eW c a b=.ok k/\Q (.bl k) H
theorem sN{c}(h:Now n e (.dct c q) x):∃a,x=.ref a:=by
 refine cW h λa _ b _=>?_
 grind
theorem HL(f:Now n e m x)(l:Now n e Y D1)(g:RelV x M)(o:RelV D1 M2)(h:isD m Y=.ok v):plainIs M M2=true/\(M==M2)=v:=by
 have Ew:∀{j:List D}{x:V}{M:f'},Now n e (.lst j) x->RelV x M->∃a,M=.ref a:=λd r=>by
  obtain⟨a,_,rfl,_⟩:=dh d;exact⟨a,r⟩
 have k:∀{j:List D}{x:V}{M:f'},Now n e (.tup j) x->RelV x M->∃a,M=.ref a:=λd r=>by
  obtain⟨a,_,rfl,_⟩:=gH d;exact⟨a,r⟩
 cases Y with
 |non=>
  cases gG l;cases o;cases m with
  |non=>cases gG f;cases g;cases h;exact⟨rfl,rfl⟩
  |bl b=>cases jh f;cases g;cases h;exact⟨rfl,rfl⟩
  |int i=>cases bG f;obtain⟨t,rfl⟩:=g;cases h;exact⟨rfl,rfl⟩
  |str i=>cases dw f;obtain⟨t,rfl⟩:=g;cases h;exact⟨rfl,rfl⟩
  |lst j=>obtain⟨a,rfl⟩:=Ew f g;cases h;exact⟨rfl,rfl⟩
  |tup j=>obtain⟨a,rfl⟩:=k f g;cases h;exact⟨rfl,rfl⟩
  |dct p j=>obtain⟨a,rfl⟩:=sN f;cases g;cases h;exact⟨rfl,rfl⟩
  |ref d=>exact(show False by simpa only [Now,Rep]using f).elim
 |bl c=>
  cases jh l;cases o;cases m with
  |non=>cases gG f;cases g;cases h;exact⟨rfl,rfl⟩
  |bl b=>cases jh f;cases g;cases h;exact⟨rfl,by grind⟩
  |int i=>cases bG f;obtain⟨t,rfl⟩:=g;cases h;exact⟨rfl,rfl⟩
  |str i=>cases dw f;obtain⟨t,rfl⟩:=g;cases h;exact⟨rfl,rfl⟩
  |lst j=>obtain⟨a,rfl⟩:=Ew f g;cases h;exact⟨rfl,rfl⟩
  |tup j=>obtain⟨a,rfl⟩:=k f g;cases h;exact⟨rfl,rfl⟩
  |dct p j=>cases h
  |ref d=>cases h
 |int _=>cases m<;>cases h
 |str _=>cases m<;>cases h
 |lst _=>cases m<;>cases h
 |tup _=>cases m<;>cases h
 |dct _ _=>cases m<;>cases h
 |ref _=>cases m<;>cases h
theorem HM(F:c.A.units+64<È)(I:Inv c z o0 e o)(k:RelV x M)(r:RelV D1 M2)(s:Now n e m x)(t:Now n e Y D1)(a:inD m Y=.ok v):
  (η (.bl v) e->p' (k9 c.prog c.w) c.A (Þ .In M M2) (EP c z o0 η) c.xe o)/\(η (.bl !v) e->p' (k9 c.prog c.w) c.A (Þ .NotIn M M2) (EP c z o0 η) c.xe o):=by
 unfold inD at a;split at a
 .rename_i u
  split at a
  .rename_i f
   cases a;simp only[Ú]at f;obtain⟨g,d⟩:=f;have d:=ù.mp d;obtain⟨l,B,rfl,y,h⟩:=dh t;cases r;obtain⟨b,i,p,C⟩:=I.list (lA y);have j:∀w,w∈b.toArray->Ň c.A.in1 o w M _:=λw D=>nt I (by grind) g (fH I s k g) h i d w (by grind)
   have E:b.toArray.any (AJ o n e m)=u.any λD1=>eJ D1 m:=by
    rw[←nr I h i d];simp
   exact⟨λq=>SeqAt.in_listAt _ p.isList j ⟨.bl _,e,I,rfl,by grind⟩,λq=>SeqAt.notIn_listAt _ p.isList j ⟨.bl _,e,I,rfl,by grind⟩⟩
  .cases a
 .rename_i u
  split at a
  .rename_i f
   cases a;simp only[Ú]at f;obtain⟨g,d⟩:=f;have d:=ù.mp d;obtain⟨l,B,rfl,_,y,h⟩:=gH t;cases r;refine br (I.tuple (uQ y)) λb i p C=>?_
   have j:∀w,w∈b.toArray->Ň c.A.in1 o w M _:=λw D=>nt I (by grind) g (fH I s k g) h i d w (by grind)
   have E:b.toArray.any (AJ o n e m)=u.any λD1=>eJ D1 m:=by
    rw[←nr I h i d];simp
   exact⟨λq=>SeqAt.in_tupleAt _ p j ⟨.bl _,e,I,rfl,by grind⟩,λq=>SeqAt.notIn_tupleAt _ p j ⟨.bl _,e,I,rfl,by grind⟩⟩
  .cases a
 .cases a
  cases dw s;cases dw t;exact⟨λq=>yf _ o o0 e _ _ M M2 η I k r ⟨_,_,rfl,rfl,q⟩,λq=>qm _ o o0 e _ _ M M2 η I k r ⟨_,_,rfl,rfl,q⟩⟩
 .cases a
variable{B3:Ā}
theorem mr(h:eW B3 m Y=.ok v)(a:B3=.Lt\/B3=.LtE\/B3=.Gt\/B3=.GtE):∃i j,m=.int i/\Y=.int j:=by
 rcases a with rfl|rfl|rfl|rfl<;>cases m<;>first|cases h|cases Y<;>first|exact⟨_,_,rfl,rfl⟩|cases h
theorem ku(J:c.A.units+64<È)(D):jt c (Þ D) (AK D):=by
 intro pins s E H x y u v Q I l m h;refine bF h λZ r t k n p F=>xa F λe q=>?_
 have f:EP c pins E Q (.bool k) s:=⟨.bl k,H,I,rfl,q⟩
 have a:∀{i j:Int}{o:Ā}{g:Int->Int->Bool},jt c (Þ o) (Pr λi j=>.bl (g i j))->r=.int i->t=.int j->k=g i j->p' (k9 c.prog c.w) c.A (Þ o u v) (EP c pins E Q) c.xe s:=by
  intro i j o g z B C K;subst B C K;cases bG n;cases bG p;exact z pins s E H _ _ u v Q I l m ⟨_,_,rfl,rfl,q⟩
 cases D with
 |Eq=>
  have e:ite _ _ _=_:=e;split at e
  .rename_i d
   cases e;simp only[Ú]at d;exact sM I 8 _ _ _ _ _ (by omega) d.1 d.2 (fH I n l d.1) (fH I p m d.2) c.prog c.w c.xe _ f
  .cases e
 |NotEq=>
  have e:ite _ _ _=_:=e;split at e
  .rename_i d
   cases e;simp only[Ú]at d;exact uU I (b:=7) (by omega) d.1 d.2 (fH I n l d.1) (fH I p m d.2) c.prog c.w c.xe _ f
  .cases e
 |Lt=>obtain⟨i,j,rfl,rfl⟩:=mr e (by simp);cases e;exact a (DT λ_ _ _ _ _ _ _ q=>lt_int q) rfl rfl rfl
 |LtE=>obtain⟨i,j,rfl,rfl⟩:=mr e (by simp);cases e;exact a (DT λ_ _ _ _ _ _ _ q=>le_int q) rfl rfl rfl
 |Gt=>obtain⟨i,j,rfl,rfl⟩:=mr e (by simp);cases e;exact a (DT λ_ _ _ _ _ _ _ q=>gt_int q) rfl rfl rfl
 |GtE=>obtain⟨i,j,rfl,rfl⟩:=mr e (by simp);cases e;exact a (DT λ_ _ _ _ _ _ _ q=>ge_int q) rfl rfl rfl
 |In=>
  have e:inD r t=.ok k:=e;exact(HM J I l m n p e).1 q
 |NotIn=>
  have e:(do let b ←inD r t;Out.ok (!b))=.ok k:=e
  obtain⟨b,B,C⟩:=nq e;cases C;exact(HM J I l m n p B).2 q
 |Is=>
  have e:isD r t=.ok k:=e;obtain⟨z,G⟩:=HL n p l m e;exact wpAny_is_plain z (by rw[G];exact f)
 |IsNot=>
  have e:(do let b ←isD r t;Out.ok (!b))=.ok k:=e
  obtain⟨b,B,C⟩:=nq e;cases C;obtain⟨z,G⟩:=HL n p l m B;exact wpAny_isNot_plain z (by rw[G];exact f)
theorem Je(g:Now n e m x)(h:Now n e Y D1)(c:∀a,n a->e a≠none)(i:(do let r ←eW B3 m Y;Out.ok (false,D.bl r))=.ok (C2,S7))(k:∀b d f,eY n e f d->eZ v C2 f e d S7 b->η b d):AK B3 x D1 e η:=by
 obtain⟨r,j,l⟩:=nq i;cases l;exact⟨n,m,Y,r,g,h,j,k _ e n (eY.refl c) (.rep (fq rfl))⟩
variable{E3 W6:TT}
theorem PT.imp(h:PT c j E3)(i:∀a H Q,W6 a H Q->E3 a H Q):PT c j W6:=λpins s a H Q I q=>h _ s a H Q I (i a H Q q)
theorem PW.imp(h:PW c j E3)(i:∀a H Q,W6 a H Q->E3 a H Q):PW c j W6:=λb pins s a H Q I q=>h b _ s a H Q I (i a H Q q)
theorem Jf(c:Now n e m x)(h:lT m=some v):r_ G x e v:=by
 cases m with
 |non=>cases gG c;cases h;rfl
 |bl b=>cases jh c;cases h;rfl
 |int b=>cases bG c;cases h;rfl
 |str b=>
  cases dw c;simp only[lT]at h;split at h
  .rename_i j
   cases h;refine⟨bK j,?_⟩
   grind
  .cases h
 |lst i=>
  obtain⟨a,d,rfl,f,g⟩:=dh c;cases h;refine .inl ⟨d,lA f,?_⟩;have:=g.length
  grind
 |tup i=>
  obtain⟨a,d,rfl,_,f,g⟩:=gH c;cases h;refine .inr (.inl ⟨d,uQ f,?_⟩);have:=g.length
  grind
 |dct l i=>cases h
 |ref k=>cases h
def AL(Z:b'->Prop)(H:Hp):List D->List V->Prop
 |[],a=>a=[]
 |d::b,a=>∃v r,a=v::r/\Now Z H d v/\AL Z H b r
theorem AL.one(h:AL n e [m] N):∃x,N=[x]/\Now n e m x:=by
 refine aJ h λv r a b c=>⟨v,by rw[a,c],b⟩
def Args(c)(Z:b'->Prop)(H)(a:List D)(b:List V):=if c=true then AL Z H a b else bq Z H a b
variable{I:List x'}{W2:TA}
theorem PA.imp{t'}(h:PA c I W2)(i:∀b H Q,t' b H Q->W2 b H Q):PA c I t':=λd pins s b H Q a q=>h _ _ s b H Q a (i b H Q q)
theorem AN(h:bq n e q N)(a:lp q Q=some m):∃v,lp N Q=some v/\Rep n e m v:=by
 unfold lp at a ⊢;rw[h.length];cases b:DG _ Q with
 |none=>simp_all
 |some j=>
  rw[b]at a;exact h.get a
theorem Jg(g:Now n e m x)(h:Now n e Y D1)(d:∀a,n a->e a≠none)(c:uO m Y=.ok (C2,S7))(k:∀b i s,eY n e s i->eZ v C2 s e i S7 b->η b i):Xs G x D1 e η:=by
 unfold uO at c;split at c
 .obtain⟨l,j,rfl,o,p⟩:=dh g
  cases bG h;split at c
  .rename_i t f
   cases c;obtain⟨b,q,r⟩:=AN p f;exact .inl ⟨l,j,_,b,rfl,rfl,lA o,q,k b e n (eY.refl d) (.rep r)⟩
  .cases c
 .obtain⟨l,j,rfl,_,o,p⟩:=gH g
  cases bG h;split at c
  .rename_i t f
   cases c;obtain⟨b,q,r⟩:=AN p f;exact .inr (.inl ⟨l,j,_,b,rfl,rfl,uQ o,q,k b e n (eY.refl d) (.rep r)⟩)
  .cases c
 .cases dw g
  cases bG h;split at c
  .rename_i u
   split at c
   .rename_i w f
    cases c;exact .inr (.inr ⟨_,_,w,rfl,rfl,bK u,f,k _ e n (eY.refl d) (.rep (fq rfl))⟩)
   .cases c
  .cases c
 .cases c
theorem AO(xs:List P2)(a b):(dq xs a b).length<=xs.length:=by
 unfold dq;rw[ý,ż];omega
theorem wt(n d:Nat)(v):max 0 (min (if v<0 then v+(n:Int)else v) n)=((HT.jC n d (some v))):=by
 show max 0 _=(((if v<0 then (v+(n)).toNat else min _ n):Nat):Int)
 grind
variable{s:Nat}{y1:Int}
theorem AQ(a:Q=b)(c:y1=s):aak Q y1 1=(Â (s - b)).map λk=>b+k:=by
 subst a c;unfold aak
 grind
theorem nu(a b n):abt a b 1 n=(Â (HT.jC n n b - HT.jC n 0 a)).map λk=>HT.jC n 0 a+k:=by
 refine AQ ?_ ?_
 .cases a with
  |none=>rfl
  |some v=>exact wt n 0 v
 .cases b with
  |none=>rfl
  |some v=>exact wt n n v
theorem yB:∀n a (l:List Nat),a+n<=l.length->((Â n).map λk=>a+k).filterMap (λi=>l[i]?)=(l.drop a).take n:=by
 intro n
 induction n with
 |zero=>intro a l _;simp
 |succ n c=>
  intro a l h;have b:a+n<l.length:=by omega
  rw[adb,ì,List.filterMap_append,c a l (ñ b),List.take_add_one,Š];simp[ä b]
theorem AR(x:Str)(b a):(abt b a 1 x.length).filterMap (x.cps[·]?)=dq x.cps.toList b a:=by
 have c:x.cps.toList.length=x.length:=by rfl
 have e:=HT.z_ x.length _ (W' _) a;rw[nu];unfold dq;rw[c];generalize HT.jC _ 0 b=p at *;generalize HT.jC _ _ a=q at *
 by_cases d:p<=q
 .have:=yB (q - p) p _ (by rw[c];omega)
  simp_all
 grind
def MQ:V->Option Int->Option Int->Hp->VK->Prop:=λx a b H Q=>∃z,x=.str z/\z.length<=Y'/\Q (.str ⟨(dq z.cps.toList a b).toArray⟩) H
theorem nv:IY c MQ:=by
 intro pins s L H x v M N a b O Q I k m n r h;obtain⟨z,rfl,y,q⟩:=h;obtain⟨t,rfl⟩:=k;refine⟨"str",_,F.slot_str_getitem.lookup,aa0 _ _ _,?_⟩
 have part:∀{w:f'}{o:Option Int},Ϭ w o->∃p:Option (Int×Û),w=partValue p/\p.map (·.1)=o:=λh=>by
  cases h with
  |none=>exact⟨none,rfl,rfl⟩
  |int i t=>exact⟨some (i,t),rfl,rfl⟩
 obtain⟨e,A,m1⟩:=part n;obtain⟨f,B,m2⟩:=part r;subst A B;refine wpAny_getItem_str_slice (l:=e) (u:=f) (st:=none) m rfl ?_
 have C:(aal z e f none).filterMap (z.cps[·]?)=dq z.cps.toList a b:=by
  unfold aal;rw[m1,m2];exact AR z a b
 have D:(dq z.cps.toList a b).length<=z.length:=by
  have:=AO z.cps.toList a b;simpa[aam]using this
 unfold sliceMade;split
 .rename_i j
  have d:(aal z e f none).length=z.length:=by
   simp only[Ú,beq_iff_eq]at j;exact j.2
  have E:(⟨(dq z.cps.toList a b).toArray⟩:Str)=z:=by
   unfold aal at d;rw[m1,m2]at d;have d:(abt a b 1 z.length).length=z.length:=d;rw[nu,Í,List.length_range]at d;have P:=HT.z_ z.length z.length (W' _) b;have g:z.cps.toList.length=z.length:=by simp[aam]
   have G:dq z.cps.toList a b=z.cps.toList:=by
    unfold dq;rw[g]
    by_cases J:z.length=0
    .have:z.cps.toList=[]:=List.eq_nil_of_length_eq_zero (by rw[g];exact J)
     rw[this];simp
    .have K:HT.jC z.length 0 a=0:=by omega
     rw[K,acF,ϒ (by rw[g];omega)]
   rw[G]
  refine⟨.str z,H,I,⟨t,rfl⟩,?_⟩;rw[E]at q;exact q
 .rw[C]
  refine⟨?_,.str _,H,I.tok _,⟨_,rfl⟩,q⟩
  show(dq z.cps.toList a b).toArray.size<=Y'
  rw[ê];exact B' D y
def MR(K):=λx a b H Q=>Mv K x a b H Q\/MQ x a b H Q
noncomputable def qL(F:List D->Out Rs):Sp:=λg H Q _=>
 ∃Z e b d,(∀a,Z a->H a≠none)/\bq Z H e g/\F e=.ok (b,d)/\∀v c f,eY Z H f c->eZ false b f H c d v->Q v c
theorem eZ.weak(h:eZ false C2 n e ξ m x):eZ v C2 n e ξ m x:=by
 unfold eZ at h ⊢;split
 .simp_all
 .rename_i a;rw[if_neg a]at h
  split
  .exact h.now
  .exact h
structure MS(X:Cx)(k:Nat)(x:Str)(F:List D->Out Rs):Prop where
 ex:∃(f:b') (fd:Å) (ps:List Str),X.mg x=some (.ref f)/\Ó X.K (.ref f)=true/\Binds X.K fd ps []/\bQ X.prog X.w X.K X.mg X.base fk k f fd ps (qL F)
inductive fu (h:D'):f'->Bool->Prop where
 |non:fu h .none false
 |bl (b:Bool):fu h (.bool b) b
 |int (i:Int) (t:Û):fu h (.int i t) (i != 0)
 |str (x:Str) (t:Û):x.length<=Y'->fu h (.str x t) ((x.length:Int) != 0)
 |lst {l:b'}{its:Array f'}:h.IsList l its->its.size<=Y'->fu h (.ref l) (!its.isEmpty)
 |tup {l:b'}{its:Array f'}:Ĵ h l its->its.size<=Y'->fu h (.ref l) (!its.isEmpty)
variable{B W3:D'}
theorem fu.keep(k:∀b o,(M=.ref b)->B.get? b=some o->W3.get? b=some o)(x:fu B M v):fu W3 M v:=by
 cases x with
 |non=>exact .non
 |bl=>exact .bl _
 |int i v=>exact .int i v
 |str x v z=>exact .str x v z
 |lst q z=>obtain⟨o,a,c⟩:=q;exact .lst ⟨o,k _ o rfl a,c⟩ z
 |tup q z=>obtain⟨o,a,c⟩:=q;exact .tup ⟨o,k _ o rfl a,c⟩ z
variable{A:À}{R:f'->g'->Prop}{y:Ä}{y9:Bool->g'->Prop}
theorem fu.run{s}(x:fu s.heap M v)(q:∀a,y9 v {s with toks:=a}):p' (k9 y A) J (Ŭ M) y9 R s:=by
 have b:=i_;cases x with
 |non=>exact truthy_none (q _)
 |bl=>exact Ħ (q _)
 |int i v=>exact ab4 (q _)
 |str x v z=>exact ab5 (by omega) (q _)
 |lst h z=>exact ab6 h (by omega) (q _)
 |tup h z=>exact truthy_tuple h (by omega) (q _)
theorem AU(I:Inv c z o0 e o)(d:Now n e m x)(r:RelV x M)(h:lT m=some v):fu o.heap M v:=by
 cases m with
 |non=>cases gG d;cases r;cases h;exact .non
 |bl b=>cases jh d;cases r;cases h;exact .bl _
 |int b=>cases bG d;obtain⟨k,rfl⟩:=r;cases h;exact .int _ _
 |str b=>
  cases dw d;obtain⟨k,rfl⟩:=r;simp only[lT]at h;split at h
  .rename_i s
   cases h
   have f:((b.length:Int) != 0)=(b.length != 0):=by
    grind
   rw[←f];exact .str b k (bK s)
  .cases h
 |lst j=>
  obtain⟨a,t,rfl,l,q⟩:=dh d;cases r;cases h;obtain⟨g,i,p,u⟩:=I.list (lA l)
  have f:(!j.isEmpty)=!g.toArray.isEmpty:=by
   have w:=q.length;have y:=i.length
   grind
  rw[f];exact .lst p.isList (by rwa[ê,←i.length])
 |tup j=>
  obtain⟨a,t,rfl,_,l,q⟩:=gH d;cases r;cases h;obtain⟨g,i,p,u⟩:=I.tuple (uQ l)
  have f:(!j.isEmpty)=!g.toArray.isEmpty:=by
   have w:=q.length;have y:=i.length
   grind
  rw[f];exact .tup p (by rwa[ê,←i.length])
 |dct A j=>cases h
 |ref k=>cases h
variable{A0 u:List b'}{P4:ų->g'->Prop}{y8:Nat->f'->Prop}
theorem AV{T}(W:Walks y A J.in1 h u A0 b y8 T)(l)(G:D'->Prop)(C:∀c d,G c->(∀a o,a∉A0->c.get? a=some o->d.get? a=some o)->G d)(D:∀i v c,y8 i v->G c->fu c v (l i)):∀m i s,b - i=m->i<=b->T i s.heap->G s.heap ->
  (∀d j,(∀a o,a∉A0->s.heap.get? a=some o->d.get? a=some o)->P4 (.ok (.ret (.bool (((Â b).drop i).all l)))) {s with heap:=d,toks:=j}) ->
  ç (k9 y A) J (.builtin "all.loop" ⟨[.ref h],[]⟩) P4 s:=by
 intro m
 induction m with
 |zero=>
  intro i s E H n g f;obtain rfl:i=b:=by omega
  refine Ģ ade ?_;refine j' (W.done s _ _ n λd j k=>j' (ė (I' ?_)))
  have q:=f d j k;rw[adf (by simp)]at q
  exact q
 |succ m I=>
  intro i s E H n g f;have p:i<b:=by omega
  have N:(Â b).drop i=i::(Â b).drop (i+1):=by
   rw[š (by simpa using p)];simp
  refine Ģ ade ?_;refine j' (W.item i s _ _ p n λv d j K r k=>?_)
  have x:G d:=C _ _ g k;refine j' (Ć ((D i v d K x).run λL=>?_))
  refine j' (ϊ ?_);cases e:l i with
  |true=>
   refine I' ⟨ī adg _,I (i+1) _ (by omega) p r x λM t w=>?_⟩
   have q:=f M t λa o B z=>w a o B (k a o B z)
   simp_all
  |false=>
   refine j' (ė (I' ?_))
   simp_all
theorem AW{T}(W:Walks y A J.in1 h u A0 b y8 T)(l)(G:D'->Prop)(C:∀c d,G c->(∀a o,a∉A0->c.get? a=some o->d.get? a=some o)->G d)(D:∀i v c,y8 i v->G c->fu c v (l i)):∀m i s,b - i=m->i<=b->T i s.heap->G s.heap ->
  (∀d j,(∀a o,a∉A0->s.heap.get? a=some o->d.get? a=some o)->P4 (.ok (.ret (.bool (((Â b).drop i).any l)))) {s with heap:=d,toks:=j}) ->
  ç (k9 y A) J (.builtin "any.loop" ⟨[.ref h],[]⟩) P4 s:=by
 intro m
 induction m with
 |zero=>
  intro i s E H n g f;obtain rfl:i=b:=by omega
  refine Ģ adh ?_;refine j' (W.done s _ _ n λd j k=>j' (ė (I' ?_)))
  have q:=f d j k;rw[adf (by simp)]at q
  exact q
 |succ m I=>
  intro i s E H n g f;have p:i<b:=by omega
  have N:(Â b).drop i=i::(Â b).drop (i+1):=by
   rw[š (by simpa using p)];simp
  refine Ģ adh ?_;refine j' (W.item i s _ _ p n λv d j K r k=>?_)
  have x:G d:=C _ _ g k;refine j' (Ć ((D i v d K x).run λL=>?_))
  refine j' (ϊ ?_);cases e:l i with
  |false=>
   refine I' ⟨ī adi _,I (i+1) _ (by omega) p r x λM t w=>?_⟩
   have q:=f M t λa o B z=>w a o B (k a o B z)
   simp_all
  |true=>
   refine j' (ė (I' ?_))
   simp_all
theorem qM:∀{a}{bs},fY a=some bs->bs.length=a.length
 |[],_,h=>by cases h;rfl
 |d::a,bs,h=>by
  simp only[fY]at h;split at h
  .rename_i b c f e
   cases h;rw[ô,ô,qM e]
  .cases h
theorem wu:∀{a}{bs}{i:Nat}{d},fY a=some bs->a[i]?=some d->∃b,bs[i]?=some b/\lT d=some b
 |[],_,_,_,_,h=>by simp at h
 |d::a,bs,i,j,h,e=>by
  simp only[fY]at h;split at h
  .rename_i b f k g
   cases h;cases i with
   |zero=>simp_all
   |succ i=>
    obtain⟨c,l,m⟩:=wu g (by simpa using e)
    simp_all
  .cases h
theorem all_range:∀(bs:List Bool),((Â bs.length).all λi=>(bs[i]?).getD true)=bs.all id
 |[]=>rfl
 |b::bs=>by
  rw[ô,abr,į,List.all_map,į,←all_range bs];rfl
theorem any_range:∀(bs:List Bool),((Â bs.length).any λi=>(bs[i]?).getD false)=bs.any id
 |[]=>rfl
 |b::bs=>by
  rw[ô,abr,ş,adj,ş,←any_range bs];rfl
def SU(K:M'):List V->Hp->VK->Prop:=λb H Q=>∃Z a bs x,b=[x]/\Now Z H (.lst a) x/\fY a=some bs/\Q (.bl (bs.all id)) H
def SV(K:M'):List V->Hp->VK->Prop:=λb H Q=>∃Z a bs x,b=[x]/\Now Z H (.lst a) x/\fY a=some bs/\Q (.bl (bs.any id)) H
variable{l9:List Bool}
theorem AX(I:Inv c z o0 e o)(a:bq n e q N)(d:Vals N χ)(j:fY q=some l9)(dflt):
  ∀(i:Nat) v,χ.toArray[i]?=some v->fu o.heap v ((l9[i]?).getD dflt):=by
 intro i v k;obtain⟨l,m⟩:=Ç.mp (by simpa using k)
 obtain⟨x,p,f⟩:=qK d l;have u:=a.length;have w:=d.length;have g:q[i]?=some q[i]:=by simp
 obtain⟨y,h,r⟩:=a.get g;rw[p]at h;cases h
 obtain⟨b,s,t⟩:=wu j g;rw[s];rw[m]at f;exact AU I r.now f t
theorem AY(w:c.calm=true):eT c (.builtin "all") (SU c.K):=by
 intro pins s G H J L Q I r h;refine bF h λZ M bs x a y d=>xa d λk q=>?_;subst a
 obtain⟨u,rfl,B⟩:=vals1 r;obtain⟨l,N,rfl,C,m⟩:=dh y;cases B;refine br (I.list (lA C)) λf n p O=>?_
 refine adk PySem.F.kind_all PySem.F.plain_all PySem.F.entry_all (PySem.F.args_all1 _) ?_;refine j' (I' (j' (ń p.isList ?_)))
 refine I' ⟨ī adg _,AV (abu (A:=c.A.in1) (I.ok.hd w) _ l (O' (by obtain⟨_,e,_⟩:=p.isList;exact N' e)) _) _
  (λh=>∀b o,b≠s.heap.objs.size->s.heap.get? b=some o->h.get? b=some o) (λh D g j b o t e=>j b o (by simp_all) (g b o t e))
  (λi v h E g=>((AX I m n k true) i v E).keep λb o e z=>g b o (O' (N' z)) z) _ 0 _ rfl (Ë _) ⟨⟨_,Ð _ rfl,rfl,rfl⟩,p.isList.push _⟩ (λb o t e=>Á _ e) λD P j=>?_⟩
 have e:((Â f.toArray.size).drop 0).all (λi=>(bs[i]?).getD true)=bs.all id:=by
  rw[ê,←n.length,m.length,←qM k];exact all_range bs
 rw[e]
 exact⟨.bl _,H,I.kept λb o z=>j b o (by
  have:=O' (N' z)
  simp_all) (Á _ z),rfl,q⟩
theorem AZ(w:c.calm=true):eT c (.builtin "any") (SV c.K):=by
 intro pins s G H J L Q I r h;refine bF h λZ M bs x a y d=>xa d λk q=>?_;subst a
 obtain⟨u,rfl,B⟩:=vals1 r;obtain⟨l,N,rfl,C,m⟩:=dh y;cases B;refine br (I.list (lA C)) λf n p O=>?_
 refine adk PySem.F.kind_any PySem.F.plain_any PySem.F.entry_any (PySem.F.args_any1 _) ?_;refine j' (I' (j' (ń p.isList ?_)))
 refine I' ⟨ī adi _,AW (abu (A:=c.A.in1) (I.ok.hd w) _ l (O' (by obtain⟨_,e,_⟩:=p.isList;exact N' e)) _) _
  (λh=>∀b o,b≠s.heap.objs.size->s.heap.get? b=some o->h.get? b=some o) (λh D g j b o t e=>j b o (by simp_all) (g b o t e))
  (λi v h E g=>((AX I m n k false) i v E).keep λb o e z=>g b o (O' (N' z)) z) _ 0 _ rfl (Ë _) ⟨⟨_,Ð _ rfl,rfl,rfl⟩,p.isList.push _⟩ (λb o t e=>Á _ e) λD P j=>?_⟩
 have e:((Â f.toArray.size).drop 0).any (λi=>(bs[i]?).getD false)=bs.any id:=by
  rw[ê,←n.length,m.length,←qM k];exact any_range bs
 rw[e]
 exact⟨.bl _,H,I.kept λb o z=>j b o (by
  have:=O' (N' z)
  simp_all) (Á _ z),rfl,q⟩
noncomputable def mq.nm:mq->Str
 |.len=>"len" |.all=>"all" |.any=>"any" |.sorted=>"sorted" |.list=>"list" |.tuple=>"tuple" |.int=>"int" |.min=>"min" |.max=>"max" |.bool=>"bool"
def kx(b:∀a,n a->e a≠none)(k:∀x c d,eY n e d c->eZ v false d e c m x->η x c)(h:iW m=some x):=
 k _ e n (eY.refl b) (.rep (fq h))
noncomputable def Ty.nm:Ty->Str
 |.int=>"int" |.str=>"str" |.bool=>"bool" |.list=>"list" |.tuple=>"tuple" |.dict=>"dict"
noncomputable def Ty.id:Ty->String
 |.int=>"int" |.str=>"str" |.bool=>"bool" |.list=>"list" |.tuple=>"tuple" |.dict=>"dict"
theorem wx(K)(t:Ty):ö K (.type "NoneType") (.type t.id)=some false/\ö K (.type "bool") (.type t.id)=some (t==.bool||t==.int)/\ö K (.type "int") (.type t.id)=some (t==.int) /\
  ö K (.type "str") (.type t.id)=some (t==.str)/\ö K (.type "list") (.type t.id)=some (t==.list)/\ö K (.type "tuple") (.type t.id)=some (t==.tuple)/\ö K (.type "dict") (.type t.id)=some (t==.dict):=by
 cases t<;>refine⟨?_,?_,?_,?_,?_,?_,?_⟩<;>with_unfolding_all rfl
def MT(K:M'):List V->Hp->VK->Prop:=λa H Q=>∃Z d x t b,a=[x,.ty (Ty.id t)]/\Now Z H d x/\AG d t=some b/\Q (.bl b) H
theorem lB{K:M'}(I:Inv c z o0 e o)(b:Rd e h (.tup N)):∃a,o.heap.get? h=some a/\a.cls=.type "tuple":=by
 obtain⟨_,d,_,a,f,g,_⟩:N.length<=Y'/\∃d:List _,Vals N _/\Ĵ _ h _:=Rd.ok b I.hok
 simp_all
theorem A4:eT c (.builtin "isinstance") (MT c.K):=by
 intro pins s B H M N Q I r h;obtain⟨Z,d,x,t,b,rfl,l,i,q⟩:=h;obtain⟨u,O,rfl,j,C⟩:=vals2 r;cases (C);refine dH (wx c.K t) λD E F G n m=>xa m λJ L=>?_
 have f:∀p,EP c _ B Q _ _:=λp=>⟨.bl b,H,I.tok p,rfl,q⟩
 cases d with
 |non=>cases gG l;cases i;exact de I j .non D f
 |bl e=>cases jh l;cases i;exact de I j (.bl e) E f
 |int e=>cases bG l;cases i;exact de I j (.int e) F f
 |str e=>cases dw l;cases i;exact de I j (.str e) G f
 |lst w=>
  obtain⟨a,y,rfl,g,A⟩:=dh l;cases i;rcases g with g|⟨o,g⟩
  .exact de I j (.lst g) n f
  .exact de I j (.dZ g) n f
 |tup w=>
  obtain⟨a,y,rfl,_,g,A⟩:=gH l;cases i;cases j;exact ü aaT I.eR (lB (K:=c.K) I g) J (λz=>nomatch z) f
 |dct P w=>
  obtain⟨a,y,rfl,_,g,A⟩:=l;cases i;exact de I j (.dK g) L f
 |ref k=>cases i
abbrev wy(a:List x')(env):=forIn a true λc r=>if r=true then do let ok ←Ő c env (eval c env);pure (aan ok)else pure (aan r)
variable{B4:É}{O y2:x'}{l:T'}{ε:V'}
theorem yC(a:Nat->g'->Prop)(b:∀n o,a n o->p' (k9 y A) J (Ů M) (λr c=>match r with
   |none=>P4 (.ok .next) c
   |some v=>p' (k9 y A) J (aaE O M v) (λ_ e=>p' (k9 y A) J (Ϟ O B4 v) (λ_ f=>p' (k9 y A) J (wy I B4) (λok d=>
      if ok=true then p' (k9 y A) J (eval j B4) (λx g=>p' (k9 y A) J (call (.builtin "list.append") [M2,x]) (λ_ i=>∃m,m<n/\a m i) (λ_ _=>False) g) (λ_ _=>False) d
      else ∃m,m<n/\a m d) (λ_ _=>False) f) (λ_ _=>False) e) (λ_ _=>False) c) (λ_ _=>False) o)(n)(h:a n o):ç (k9 y A) J (.compLoop (.ListComp j [⟨O,y2,I,0⟩] ε l) 0 M M2 B4) P4 o:=by
 refine codeAny_loop rfl a (λn o p=>?_) n h
 refine wpAny_noted ?_;rw[compTurn_list];refine j' (aae (j' (â (b n o p) (λr c k=>?_) (by grind))))
 cases r with
 |none=>exact I' k
 |some v=>
  refine j' (â k (λ_ e q=>j' (â q (λ_ f s=>j' (â s (λok d t=>?_) (by grind))) (by grind))) (by grind))
  cases ok with
  |false=>exact I' ⟨rfl,by simp_all⟩
  |true=>
   refine j' (j' (â t (λx g u=>j' (â u (λ_ i w=>I' (I' ⟨rfl,w⟩)) (by grind))) (by grind)))
theorem uV(h:∀y∈ε.names,y.2=.free->∃c,B4.cells.lookup y.1=some c):
  ∃d,closureFor ε B4=pure d/\(∀n c,(n,c)∈d->B4.cells.lookup n=some c)/\∀y∈ε.names,y.2=.free->∃c,(y.1,c)∈d:=by
 have g:∀(l:List _) (b:List _),(∀y∈l,y.2=.free->∃c,B4.cells.lookup y.1=some c)->(∀n c,(n,c)∈b->B4.cells.lookup n=some c) ->
   ∃d,(forIn l b λx r=>match x with | (name,kind)=>if (kind==ϓ)=true then do let a ←cellOf B4 name;pure (aan ((name,a)::r))else pure (aan r))=pure d /\
    (∀n c,(n,c)∈d->B4.cells.lookup n=some c)/\(∀p∈b,p∈d)/\∀y∈l,y.2=.free->∃c,(y.1,c)∈d:=by
  intro l
  induction l with
  |nil=>intro b _ i;exact⟨_,rfl,i,by simp,by simp⟩
  |cons y l o=>
   intro b j i;obtain⟨n,k⟩:=y;cases w:(k==ϓ)with
   |false=>
    refine eu (o _ (λz f=>j z (by simp[f])) i) λd e m s q=>?_
    grind
   |true=>
    obtain⟨c,t⟩:=j (n,k) (by simp) (by simp_all)
    refine eu (o ((n,c)::b) (λz f=>j z (by simp[f])) (λA B C=>by
     grind)) λd e m s q=>?_
    refine⟨d,?_,m,by simp_all,λz f u=>?_⟩
    .have:cellOf B4 n=pure c:=by
      unfold cellOf;rw[t]
     simp_all
    grind
 refine eu (g _ [] h (λ_ _ z=>absurd z (by simp))) λd e m _ q=>?_
 unfold closureFor
 grind
noncomputable def blk(X:Cx)(scope)(a:List (Str×b'))(C)(N:List Str)(s₀ H₀)(fp:List b'):=
 {X with N:=N,s₀:=s₀,H₀:=H₀,env:=compEnvC scope a C X.env,outer:=X.stack,stack:=X.stack,ex:=fp,fn:=λ_=>false,pn:=[],xe:=λ_ _=>False}
theorem lookup_mem{a b:Type}[BEq a][LawfulBEq a]:∀{l:List (a×b)}{x}{v},l.lookup x=some v->(x,v)∈l
 |[],_,_,h=>by simp at h
 | (n,k)::r,x,v,h=>by
  rw[ϔ]at h;cases e:x==n with
  |true=>simp_all
  |false=>rw[e]at h;exact Ŏ _ (lookup_mem h)
theorem mem_lookup{a b:Type}[BEq a][LawfulBEq a]:∀{l:List (a×b)}{x}{v},(x,v)∈l->∃u,l.lookup x=some u
 |[],_,_,h=>by simp at h
 | (n,k)::r,x,v,h=>by
  rw[ϔ];cases e:x==n with
  |true=>simp
  |false=>
   rcases Õ.mp h with q|q
   .simp_all
   .exact mem_lookup q
theorem fv{env:É}:∀(names:List (Str×ŷ)) x,(names.map λ(n,k)=>if (k==ϓ&&env.scope.kind==.function&&env.kindOf n==some .cell)then (n,adl)else (n,k)).lookup x =
  (names.lookup x).map λk=>if (k==ϓ&&env.scope.kind==.function&&env.kindOf x==some .cell)then adl else k
 |[],_=>rfl
 | (n,k)::r,x=>by
  have a:=fv (env:=env) r x
  grind
structure iX(X:Cx)(scope:V')(tn cn:List Str)(cap:List Nat):Prop where
 kind:scope.kind=.function
 cell:∀y∈scope.names,y.2≠.cell
 names:∀y∈scope.names,y.2=.local->scope.names.lookup y.1=some .local
 free:∀y∈scope.names,y.2=.free->X.env.kindOf y.1=some .cell\/X.env.kindOf y.1=some .free
 len:cn.length=cap.length
 at':∀(j i:Nat) (x:Str),cn[j]?=some x->cap[j]?=some i->X.N[i]?=some x/\scope.names.lookup x=some .free
noncomputable def sO(a:List Nat)(b:L2.St):L2.St:=a.map λi=>(b[i]?).join
def gR(b:Nat)(a:List Nat)(c:L2.St):L2.St:=Ź b none++sO a c
variable{L:List Nat}{g Δ:List Str}{ν:Str->Option f'}
theorem yD{pins s H}(h:iX c ε g Δ L)(I:Inv c pins o0 e s)(N:∀d∈u,mP c pins e d)(Q:∀d∈u,∃o,s.heap.get? d=some o)(E:∀n a,(n,a)∈H->c.env.cells.lookup n=some a)(c2:∀y∈ε.names,y.2=.free->∃a,(y.1,a)∈H)(O:∀d o,s.heap.get? d=some o->B.get? d=some o)(A:∃n,B.get? s.heap.objs.size=some {cls:=.type "list",data:=.seq ([]).toArray n})(ns:B.Ns (s.heap.objs.size+1) ν):
  Inv (blk c ε H (s.heap.objs.size+1) (g++Δ) s e u) [] (gR g.length L o0) (upd e s.heap.objs.size (.lst [])) {s with heap:=B,toks:=b}:=by
 have R:∀d o,s.heap.get? d=some o->d≠s.heap.objs.size:=λd o f=>O' (N' f)
 have cell:∀x a,H.lookup x=some a->∃v,s.heap.IsCell a v:=λx a f=>I.cell x a (E x a (lookup_mem f))
 have S:∀x a,H.lookup x=some a->a≠s.heap.objs.size+1/\a≠s.heap.objs.size:=λx a f=>by
  obtain⟨v,o,F,_⟩:=cell x a f;exact⟨(λd o f=>O' (aai (N' f))) a o F,R a o F⟩
 have T:∀d∈u,d<s.heap.objs.size:=λd t=>xe (Q d t) λo f=>N' f
 have fr:=I.hok.fresh (W' s.heap.objs.size);obtain⟨nd,A⟩:=A
 refine⟨⟨I.ok.mod,h.kind,I.ok.glob,I.ok.blt,ø _,λx y a G m=>?_,λx r=>?_,λx a f _=>absurd (show false=true from f) abv,I.ok.hd,I.ok.frames,.inl rfl,λd t=>⟨?_,λx a f z=>?_⟩,λd o f=>I.bs d o f,B' I.ok.um I.sz,λd o f t=>?_,λd t U=>?_,I.stack,I.jx⟩,
  rfl,I.bare,?_,⟨ν,ns,λi x v G m e3=>?_⟩,λx a f=>?_,?_,λx a f=>?_,λp hp=>absurd (show p∈([]:List (b'×Obj))from hp) (by simp),?_,?_⟩
 .exact I.ok.inj x y a (E x a (lookup_mem G)) (E y a (lookup_mem m))
 .have r:(Ĥ ε c.env).names.lookup x=some .cell\/(Ĥ ε c.env).names.lookup x=some .free:=r
  unfold Ĥ at r;simp only[fv]at r;cases q:ε.names.lookup x with
  |none=>rw[q]at r;simp at r
  |some k=>
   rw[q]at r;have hm:=lookup_mem q
   have C:k=.free:=by
    by_cases C:k=.free
    .exact C
    .have V:(k==ϓ)=false:=by simpa using C
     rw[ň]at r;simp only[V,aao,aa7,if_false,afj]at r;rcases r with z|z
     .exact absurd z (h.cell _ hm)
     .exact z
   obtain⟨a,X⟩:=c2 _ hm C;exact mem_lookup X
 .exact O' (aai (T d t))
 .exact(N d t).2.2.2.2.1 x a (E x a (lookup_mem f)) z
 .rcases(N d t).2.2.2.1 with z|z
  .exact I.ok.om d o f z
  .exact absurd (U' (N' (I.ok.bs d o f).1) z) (Ò _)
 .rcases Õ.mp (I.qf d U)with z|z
  .exact(N d t).2.1 z
  .exact(N d t).2.2.1 z
 .exact Un.laid O (W' _) fr
 .have J:i<g.length->False:=λK=>by
   have:(gR g.length L o0)[i]?=some none:=by
    unfold gR;rw[ã (by simpa using K),aaW,if_pos K]
   rw[this]at m;cases m
  have K:g.length<=i:=Ţ J;have G:(g++Δ)[i]?=some x:=G;rw[ē K]at G
  have j:(sO L o0)[i - g.length]?=some (some v):=by
   unfold gR at m;rw[ē (by simpa using K)]at m
   simpa using m
  unfold sO at j;rw[î]at j;cases q:L[i - g.length]? with
  |none=>rw[q]at j;cases j
  |some P=>
   rw[q]at j;have m:(o0[P]?).join=some v:=by simpa using j
   have e4:o0[P]?=some (some v):=by
    cases q2:o0[P]? with
    |none=>rw[q2]at m;cases m
    |some z=>simp_all
   obtain⟨hN,D⟩:=h.at' _ _ _ G q;have C:=h.free _ (lookup_mem D) rfl
   have M:rV c.env.scope x:=by
    rcases C with z|z
    .exact .inr (.inl z)
    .exact .inr (.inr z)
   refine bD I.loc λm0 c0 Y=>?_
   obtain⟨l,ru,Z⟩:=Y P x v hN e4 M;refine⟨l,ru,.inr ⟨?_,?_⟩⟩
   .show(Ĥ ε c.env).names.lookup x=some .cell\/(Ĥ ε c.env).names.lookup x=some .free
    unfold Ĥ;simp only[fv,D,ň];split
    .exact .inl rfl
    .exact .inr rfl
   .have Z:∃a,c.env.cells.lookup x=some a/\s.heap.IsCell a (some l):=by
     rcases Z with ⟨z,_⟩|⟨_,z⟩
     .rcases C with y|y<;>rw[y]at z<;>cases z
     .exact z
    refine bD Z λa X a0=>?_
    obtain⟨c',b0⟩:=c2 _ (lookup_mem D) rfl;obtain⟨d0,w⟩:=mem_lookup b0;have:=E _ _ (lookup_mem w);rw[X]at this;cases this
    obtain⟨o,F,A⟩:=a0;exact⟨a,w,o,O _ _ F,A⟩
 .obtain⟨v,o,F,A⟩:=cell x a f
  exact⟨v,o,O _ _ F,A⟩
 .show upd e s.heap.objs.size (.lst []) (s.heap.objs.size+1)=none
  rw[az (Nat.succ_ne_self _)];exact I.hok.fresh (ø _)
 .refine⟨?_,λhz=>absurd (show false=true from hz) abv⟩
  rw[az (S x a f).2];exact(I.dG x a (E x a (lookup_mem f))).1
 .refine I.hok.laid O (W' _) ⟨Ë _,[],nd,.nil,A⟩
 .show(gR g.length L o0).length=(g++Δ).length
  unfold gR sO;rw[ϕ,ϕ,List.length_replicate,Í,h.len]
def HN(X)(a:List x')(t:TT):=∀pins s (b:L2.St) H Q,Inv X pins b H s->t b H Q->p' (k9 X.prog X.w) X.A (wy a X.env) (TP X pins b Q) X.xe s
theorem Ex:HN c [] (λ_ H Q=>Q true H):=λpins s a H Q I h=>I' ⟨H,I,h⟩
theorem Ey(h:PT c j E3):HN c [j] E3:=λpins s a H Q I q=>wpAny_tests_one (h _ s a H Q I q)
def pw(o:TI)(p:Nat)(f:List Nat)(g:TG)(q:TT)(r:TE):TE:=λh H Q=>o h H λJ j=>∀D,j D=none->∃W:Nat->Nat->List V->Hp->Prop,(∃m,W 0 m [] (upd j D (.lst []))) /\
 ∀i m a c,W i m a c->c D=some (.lst a)/\((J.stop i c/\Q (.ref D) c)\/(J.go i c/\a.length<Y'/\∀x k,J.Pp i c x k->g x (gR p f h) k λd s=>q d s λb l=>
  if b=true then r d l λy n=>n D=some (.lst a)/\∃e,e<m/\W (i+1) e (a++[y]) (upd n D (.lst (a++[y])))else ∃e,e<m/\W (i+1) e a l))
variable{H:T'}{Y6:TI}{u5:TG}
theorem pA{use}(hc:c.calm=true)(B:iX c ε g Δ L)(hi:PI c j O Y6)(hs:∀x,Ď O c.env x=pure x)(l0:∀v o0 e η,u5 v o0 e η->u5 v o0 e λV E=>η V E/\V.length=o0.length/\∀f,g.length<=f->V[f]?=o0[f]?)(s:∀F C G K fp,PG (blk c ε F C (g++Δ) G K fp) j u5/\HN (blk c ε F C (g++Δ) G K fp) I E3/\PE (blk c ε F C (g++Δ) G K fp) y2 π)(n0:∀s' E C D m,Inv c z o0 E s'->s'.heap.Ns C m->E C=none->C≠c.env.locals->c.s₀.heap.objs.size<=C->(∀x k,c.env.cells.lookup x=some k->k≠C)->(∀p∈c.pn++z,p.1≠C)->η (.ref D) E ->
   compPost (k9 c.prog c.w) c.A c.xe use R (.ref D) C (.ok .next) s')(M:Inv c z o0 e o)(h:pw Y6 g.length L u5 E3 π o0 e η):
  p' (k9 c.prog c.w) c.A (comprehension (.ListComp y2 [⟨j,O,I,0⟩] ε l) ε c.env H (newList []) false (eval O c.env) use) R c.xe o:=by
 have p0:∀y∈ε.names,y.2=.free->∃k,c.env.cells.lookup y.1=some k:=λy hy hk=>M.ok.has y.1 (B.free y hy hk)
 refine br (uV p0) λF q0 c1 c2=>?_
 refine wpAny_comprehension_free (use:=use) rfl hs q0 B.kind B.names ?_;refine bZ (hi z o o0 e _ M h) λv s1 X=>bZ X λz0 s2 h2=>?_
 refine xe h2 λit Y=>bP Y λfp Z J N a I2 T b0 f2 h=>?_
 subst a;have fr:=I2.hok.fresh (W' s2.heap.objs.size);refine bD (h s2.heap.objs.size fr) λW r0 c0=>?_;obtain⟨m0,w0⟩:=r0
 refine aba (wpAny_newFunctionEnv B.cell (λy hy=>absurd hy (by simp)) (λX ns sb=>?_) B.kind)
 dsimp only at ns sb ⊢;rw[(ŵ _ _)]at ns sb ⊢;have kp:∀b d,s2.heap.get? b=some d->X.get? b=some d:=λb d a=>sb.extBut b d (O' (aai (N' a))) (Á _ (Á _ a))
 have hD:∃n,X.get? s2.heap.objs.size=some {cls:=.type "list",data:=.seq ([]:List f').toArray n}:=⟨0,sb.extBut _ _ (O' (ţ _)) (Á _ (Ð _ rfl))⟩;have d0:∀b∈fp,∃d,s2.heap.get? b=some d:=λb s=>bD (T.obj 0 _ b0 b s) λd a _=>⟨d,a⟩
 have I4:Inv (blk c ε F (s2.heap.objs.size+1) (g++Δ) s2 N fp) [] (gR g.length L o0) (upd N s2.heap.objs.size (.lst [])) {s2 with heap:=X,toks:=s2.toks+([]:List (Str×f')).length}:=
  yD B I2 f2 d0 c1 c2 kp hD ns
 refine qb (s F (s2.heap.objs.size+1) s2 N fp) λhg ht he=>?_
 have e0:Z 0 X:=T.keep 0 _ _ b0 λb s d a=>kp b d a
 have s0:∀b∈fp,upd N s2.heap.objs.size (.lst []) b=none:=λb s=>by
  obtain⟨d,a⟩:=d0 b s;rw[az (O' (N' a))];exact(f2 b s).1
 have P:∀{E:Hp}{pl:List (b'×Obj)},(∀b∈fp,E b=none)->∀b∈fp,mP (blk c ε F (s2.heap.objs.size+1) (g++Δ) s2 N fp) [] E b:=λhn b s=>
  ⟨hn b s,(I4.ok.DP b s).1,I4.ok.oo b s,.inl s,(I4.ok.DP b s).2,λp hp=>absurd (show p∈([]:List (b'×Obj))from hp) (by simp)⟩
 have U:ç (k9 c.prog c.w) c.A (.compLoop (.ListComp y2 [⟨j,O,I,0⟩] ε l) 0 (.ref it) (.ref s2.heap.objs.size) (compEnvC ε F (s2.heap.objs.size+1) c.env))
   (compPost (k9 c.prog c.w) c.A c.xe use R (.ref s2.heap.objs.size) (s2.heap.objs.size+1)) {s2 with heap:=X,toks:=s2.toks+([]:List (Str×f')).length}:=by
  refine yC (λn s'=>∃i ys E,Inv (blk c ε F (s2.heap.objs.size+1) (g++Δ) s2 N fp) [] (gR g.length L o0) E s'/\Z i s'.heap/\(∀b∈fp,E b=none)/\W i n ys E) ?_ m0 ⟨0,[],_,I4,e0,s0,w0⟩
  rintro n s5 ⟨i,ys,H5,I5,g0,h0,w5⟩;obtain⟨A0,t0⟩:=c0 i n ys H5 w5;rcases t0 with ⟨stop,qn⟩|⟨go,i0,step⟩
  .refine bZ (T.done (blk c ε F (s2.heap.objs.size+1) (g++Δ) s2 N fp) rfl rfl rfl hc i [] s5 _ H5 _ I5 (P (pl:=[]) h0) g0 stop) λr s6 Q=>?_;obtain⟨hr,I6⟩:=Q
   subst hr;refine bD I6.loc λmC nC _=>?_
   have I7:Inv c z o0 H5 s6:=by
    refine I2.call' I6.os I6.base I6.hok I6.bare λb s=>?_
    refine dH (f2 b s) λf0 f1 f3 f4 f5 f6=>?_
    exact⟨f4,f1,f5,f6⟩
   have hC:s2.heap.objs.size<=s2.heap.objs.size+1:=ø _;refine n0 s6 H5 (s2.heap.objs.size+1) s2.heap.objs.size mC I7 nC I6.free (Ö (U' I2.lt hC)) (B' I2.sz hC) (λx k a t=>?_) (λp hp t=>?_) qn
   .obtain⟨v,q⟩:=I2.cell x k a
    exact absurd (U' q.lt (by rw[t];exact hC)) (Ò _)
   .exact absurd (U' (N' (I2.pin p hp).1) (by rw[t];exact hC)) (Ò _)
  .refine bZ (T.item (blk c ε F (s2.heap.objs.size+1) (g++Δ) s2 N fp) rfl rfl rfl hc i [] s5 _ H5 _ I5 (P (pl:=[]) h0) g0 go) λr s6 Q=>?_;refine bD Q λu hr h6=>?_
   subst hr;refine bZ h6 λ_ s7  zf =>fD zf λx H7 I7 r7 y7 a0 u0=>?_
   have v0:=I7.pinned (P (pl:=[]) u0) (T.obj _ _ a0);refine bZ (hg _ s7 _ H7 x u _ v0 r7 (l0 _ _ _ _ (step x H7 y7))) λ_ s8 Q=>?_;refine a8 Q λS H8 I8 q8 l8 k8=>?_
   refine bZ (ht _ s8 S H8 _ I8 q8) λok s9 Q=>?_;refine bD Q λH9 I9 q9=>?_
   have Ű:∀{sA:g'}{HA:Hp},Inv (blk c ε F (s2.heap.objs.size+1) (g++Δ) s2 N fp) ([]++qk fp s7.heap) S HA sA->Inv (blk c ε F (s2.heap.objs.size+1) (g++Δ) s2 N fp) [] (gR g.length L o0) HA sA/\Z (i+1) sA.heap/\∀b∈fp,HA b=none:=λ{sA HA} IA=>by
    refine⟨(IA.jz (z:=[])).weak l8.symm λf v hj=>?_,T.keep _ _ _ a0 λb s d a=>(IA.pin (b,d) (ĝ _ (ĝ _ (gC s a)))).1,λb s=>?_⟩
    .have x0:g.length<=f:=by
      refine Ţ λj0=>?_
      have:(gR g.length L o0)[f]?=some none:=by
       unfold gR;rw[ã (by simpa using j0),aaW,if_pos j0]
      rw[this]at hj;cases hj
     rw[k8 f x0];exact hj
    .refine bD (T.obj _ _ a0 b s) λd a _=>?_
     exact(IA.pin (b,d) (ĝ _ (ĝ _ (gC s a)))).2.1
   cases ok with
   |false=>
    grind
   |true=>
    rw[if_pos rfl]at q9 ⊢;refine bZ (he _ s9 S H9 _ I9 q9) λy sB Q=>?_;refine a8 Q λv HB IB rB y0 Y=>bD Y λm' hm w'=>?_
    have hx:=pd (c:=blk c ε F (s2.heap.objs.size+1) (g++Δ) s2 N fp) _ sB S HB (.ref s2.heap.objs.size) [v] (.ref s2.heap.objs.size) [y] (λ_ E=>E=upd HB s2.heap.objs.size (.lst (ys++[v]))) IB rfl (.cons rB .nil)
     ⟨s2.heap.objs.size,ys,v,rfl,rfl,y0,i0,rfl⟩
    refine bZ hx λ_ sC Q=>?_;refine aJ Q λ_ HC IC _ eC=>?_
    subst eC;refine qb (Ű IC) λa1 a2 a3=>?_
    exact⟨m',hm,i+1,ys++[v],_,a1,a2,a3,w'⟩
 exact codeAny_compStart_list U (T.self c.A 0 _ _ _ e0 U)
theorem wz(u:c.calm=true)(B:iX c ε g Δ L)(w:PI c j O Y6)(y:∀x,Ď O c.env x=pure x)(p:∀v n H Q,u5 v n H Q->u5 v n H λi r=>Q i r/\i.length=n.length/\∀a,g.length<=a->i[a]?=n[a]?)(z:∀t C d f fp,PG (blk c ε t C (g++Δ) d f fp) j u5/\HN (blk c ε t C (g++Δ) d f fp) I E3/\PE (blk c ε t C (g++Δ) d f fp) y2 π):
  PE c (.ListComp y2 [⟨j,O,I,0⟩] ε l) (pw Y6 g.length L u5 E3 π):=by
 intro pins s n H Q k h;refine pA u B w y p z (λR r C D m A E F G J K M q=>⟨m,E,λS N=>⟨.ref D,r,A.turned (λb o P e=>N.extBut b o P e) F G (.inr J) K M,rfl,q⟩⟩) k h
variable{S0:T'}
theorem uW(J:c.N.Nodup)(w:c.N[b]?=some d)(G:c.env.scope.names.lookup d=some .local)(y:ò (.ListComp y2 [⟨j,O,I,0⟩] ε l) (some (.Name d H)) S0.line c.env=pure true)(K:c.calm=true)(B:iX c ε g Δ L)(M:PI c j O Y6)(P:∀d,Ď O c.env d=pure d)(z:∀v u f Q,u5 v u f Q->u5 v u f λp A=>Q p A/\p.length=u.length/\∀i,g.length<=i->p[i]?=u[i]?)(R:∀E C k n fp,PG (blk c ε E C (g++Δ) k n fp) j u5/\HN (blk c ε E C (g++Δ) k n fp) I E3/\PE (blk c ε E C (g++Δ) k n fp) y2 π):
  PS c (.Assign [.Name d H] (.ListComp y2 [⟨j,O,I,0⟩] ε l) S0) (IG (pw Y6 g.length L u5 E3 π) (iU b)):=by
 intro pins s u f D r h;rw[exec_Assign_Name_used _ _ _ _ y];refine j' (aae (j' ?_));refine j' ?_;refine pA K B M P z R (λs' A C S m T U V X Y Z h5 q=>?_) r h
 refine abZ (oP T J w (.inl G) (x:=.ref S) rfl (λs2 I2 ch=>?_) (.inr G))
 obtain⟨a,sb,ha⟩:=ch
 refine⟨m,U.sameBut sb (by
  grind),λh' F=>I' (I' ⟨_,A,I2.turned (λt o nb e=>F.extBut t o nb e) V X (.inr Y) Z h5,q⟩)⟩
theorem PI.imp{t'}(h:PI c j O Y6)(i:∀a H R,t' a H R->Y6 a H R):PI c j O t':=λpins s a H R I q=>h _ s a H R I (i a H R q)
theorem jG:∀n a,(intsFrom a n).length=n
 |0,_=>rfl
 |n+1,a=>by rw[intsFrom,ô,jG n]
theorem ints_get:∀n a (i:Nat) d,(intsFrom a n)[i]?=some d->d=.int (a+i)
 |0,_,_,_,h=>by simp[intsFrom]at h
 |n+1,a,0,d,h=>by simp[intsFrom]at h;subst h;simp
 |n+1,a,i+1,d,h=>by
  rw[ints_get n _ i d h]
  grind
noncomputable def Xw(x:Str):It:=⟨λi _=>i<x.cps.size,λi H v a=>a=H/\∃c,x.cps[i]?=some c/\v=.str ⟨#[c]⟩,λi _=>x.cps.size<=i⟩
theorem A5(a x t p)(g:p="str_ascii_iterator"\/p="str_iterator"):Turn y A G j (Xw x) [a] a (λi h=>h.IsStrIter a p x t i) where
 mem:=by simp
 obj:=λi h f b l=>by
  refine br f λo e c d=>?_
  simp_all
 keep:=λi h K f k=>bD (f) λo e r=>⟨o,k a (by simp) o e,r⟩
 item:=by
  intro X P R S m i pins s U H E I z f L;subst P R S;refine dH (z a (by simp)) λB C V D F J=>?_
  have W:Walks X.prog X.w X.A a [a] [a] x.cps.size (SignAt x) (λi h=>h.IsStrIter a p x t i):=by
   rcases g with rfl|rfl
   .exact Walks.strAscii (I.ok.hd m) a x t
   .exact Walks.strWide (I.ok.hd m) a x t
  refine W.item i s _ _ L f λv K tk Y n Z=>?_
  refine cW Y λc u hx M=>?_;subst M
  refine br (id n) λo e q d=>?_
  refine⟨_,rfl,rZ e q d (by rcases g with rfl|rfl<;>decide) ⟨.str ⟨_⟩,H,(I.turned (λb o l e=>Z b o (by simp_all) e) B C D F J),⟨u,rfl⟩,⟨rfl,c,hx,rfl⟩,n,λb l=>(z b l).1⟩⟩
 done:=by
  intro X P R S m i pins s U H E I z f L;refine dH (z a (by simp)) λB C V D F J=>?_
  have T:x.cps.size<=i:=L;rcases g with rfl|rfl
  .exact wpAny_pyNext_ascii_end (I.ok.hd m) f (by simp[T]) λK N=>⟨rfl,I.turned (λb o l e=>N b o l e) B C D F J⟩
  .exact wpAny_pyNext_wide_end (I.ok.hd m) f (by simp[T]) λK N=>⟨rfl,I.turned (λb o l e=>N b o l e) B C D F J⟩
 self:=λO i s Q E f h=>by
  rcases g with rfl|rfl
  .exact wpAny_pyIter_striter_ascii f h
  .exact wpAny_pyIter_striter_wide f h
theorem lD(n)(d:0<n):∀v b H Q,iU 0 v b H Q->iU 0 v b H λa c=>Q a c/\a.length=b.length/\∀j,n<=j->a[j]?=b[j]?:=λv b H Q h=>⟨h,by simp,by grind⟩
variable{Y5 i8:TS}{Θ:K'}
theorem PS.imp(h:PS c Θ Y5)(i:∀D a H,i8 D a H->Y5 D a H):PS c Θ i8:=λpins s a H D I q=>h _ s a H D I (i D a H q)
variable{N1:List K'}
theorem gS.imp(h:gS c N1 Y5)(i:∀D a H,i8 D a H->Y5 D a H):gS c N1 i8:=λpins s a H D I q=>h _ s a H D I (i D a H q)
def gI:List Nat->Hv
 |[]=>Mh
 |i::a=>Hw (iU i) (gI a)
theorem pB{X}{nms:List (Str×T')}(b:X.N.Nodup):∀a (nms:List (Str×T')),a.length=nms.length->(∀(j i:Nat) x,a[j]?=some i->nms[j]?=some x->X.N[i]?=some x.1/\Loc X.env.scope x.1/\(X.fn x.1=true\/X.env.scope.names.lookup x.1=some .local)) ->
  Mf X (nms.map λx=>ŉ x.1 x.2) (gI a)
 |[],[],_,_=>vY
 |[],_::_,h,_=>by cases h
 |_::_,[],h,_=>by cases h
 |i::a,(x,f)::nms,g,h=>by
  refine qb (h 0 i _ rfl rfl) λc d e=>mO (iz b c d e) (pB (nms:=nms) b a _ (by simp_all) λj i x k l=>h (j+1) i x (by simp_all) (by simp_all))
def wC:V->List V->Hp->VK->Prop:=λx b H Q=>∃l a k y,x=.ref l/\b=[.int k,y]/\H l=some (.lst a) /\ -(2 ^ 63)<=k/\k<2 ^ 63/\a.length<Y'/\Q .non (upd H l (.lst (qH a k y)))
theorem hZ{s}(I:Inv c z o0 e s)(o:∀a∈u,mP c z e a)(k:∀a M0,a∉u->s.heap.get? a=some M0->B.get? a=some M0)(t:s.heap.objs.size<=h)(x:dE c.prog c.w (upd e h M0) B h M0):Inv c z o0 (upd e h M0) {s with heap:=B,toks:=b}:=by
 have y:∀a f,e a=some f->a∉u:=λa f d g=>by rw[(o a g).1]at d;cases d
 have p:∀a f,e a=some f->upd e h M0 a=some f:=λa f d=>by rwa[az (bf d (I.hok.fresh t))]
 refine I.step (λa l=>?_) (λa M0 _ _ j d _=>k a M0 j d) (λa M0 _ _ j d _=>⟨_,k a M0 j d⟩) (λa f _ d n=>?_)
  (λa M0 j d=>⟨M0,k a M0 j d⟩) (λa K d=>p a _ d) (λa f v d=>p a _ d) (λa L d=>⟨#[],by simp_all⟩) (λm A=>?_) (λa f d=>?_) I.bare
 .refine dH (o a l) λM C N D E F=>⟨D,C,E,F⟩
 .have:a≠h:=λg=>absurd (N' d) (by simp_all)
  rwa[az this]
 .refine ew A λM0 G H J r=>⟨M0,G,H,k _ M0 (λg=>(o _ g).2.1 rfl) J,r⟩
 .by_cases l:a=h
  .subst l
   rw[aS]at d;simp_all
  .rw[az l]at d
   refine(I.hok a f d).stay (λi v j q=>k i v ?_ q) (λi q=>p i _ q) (by simp_all)
   grind
def Xx(K:M')(a:b'):It:=
 ⟨λi H=>∃b x,lP K H a b/\b[i]?=some x,λi H x c=>∃p,x=.ref p/\H p=none/\∀b,lP K H a b->∃v,b[i]?=some v/\c=upd H p (.tup [.int i,v]),λi H=>∃b,lP K H a b/\b.length<=i⟩
theorem yE(a e t)(C:e≠t):
  Turn y A G (.Tuple I b l) (Xx G a) [e,t] e (λi h=>(∃m,IsEnum h e t i m)/\h.IsListIter t a i) where
 mem:=by simp
 obj:=λi h r f B=>by
  obtain⟨⟨m,j⟩,o,e2,c,d⟩:=r
  grind
 keep:=λi h U r k=>by
  obtain⟨⟨m,j⟩,n⟩:=r;exact⟨⟨m,k e (by simp) _ j⟩,n.at λo q=>k t (by simp) o q⟩
 item:=by
  intro X K L M V i pins s σ H E g F r N;subst K L M;refine cW N λxs x J O=>?_
  obtain⟨⟨m,j⟩,n⟩:=r;refine br (g.list J) λP Q p hz=>?_
  refine bD (Q.get O) λu hu ru=>?_
  refine wpAny_pyNext_enum_item j n p.isList (by simpa using hu) C λU so si tu sz kp=>?_
  refine⟨_,rfl,wpAny_letOwnedTupleGo_enum so λY se R=>?_⟩
  have D:=N' j;refine⟨.ref _,_,?_,rfl,⟨_,rfl,g.hok.fresh (W' _),λys hy=>⟨x,by rwa[g.rX hy J],rfl⟩⟩,⟨⟨u,by grind⟩,?_⟩,λf B=>?_⟩
  .have S:Ĵ Y _ _:=⟨_,(R.extBut _ _ (Ö D) tu),rfl,_,rfl⟩
   have T:dE X.prog X.w (upd H s.heap.objs.size (.tup [.int i,x])) Y _ (.tup [.int i,x]):=⟨by rw[Ĉ];simp,_,.cons ⟨_,rfl⟩ (.cons ru .nil),S⟩
   have:=hZ (b:=s.toks+1) g F (λf o B q=>by
   have Z:f≠e:=λz=>B (by simp[z])
   have h3:f≠t:=λz=>B (by simp[z])
   exact R.extBut f o Z (kp f o Z h3 q)) (W' _) T
   exact this
  .exact si.extBut R.extBut (Ê C)
  .rw[az (O' (by
    rcases Õ.mp B with z|z
    .subst z;exact D
    .have z:f=t:=by simpa using z
     subst z;obtain⟨o,q,_⟩:=n;exact N' q))]
   exact(F f B).1
 done:=by
  intro X K L M V i pins s σ H E g F r N;subst K L M;obtain⟨xs,J,O⟩:=N;obtain⟨⟨m,j⟩,n⟩:=r;refine br (g.list J) λP Q p hz=>?_
  refine dH (F t (by simp)) λf0 f1 f2 f3 f4 f5=>?_
  have hl:=Q.length;exact wpAny_pyNext_enum_end (g.ok.hd V) j n p.isList (by simp;exact B' (R' hl.symm) O) λU eb=>⟨rfl,g.turned (λf o B e=>eb f o B e) f0 f1 f3 f4 f5⟩
 self:=λ_ _ _ _ _ r h=>by
  obtain⟨⟨m,j⟩,_⟩:=r;exact adm j h
def SW(K:M')(c:TA):TI:=λd H R=>c d H λe b=>∃a,e=[.ref a]/\(∃f,lP K b a f)/\R (Xx K a) b
theorem Ez(m:Gl c "enumerate")(n:c.mg "enumerate"=none)(o:PA c [j] W2)(p:F' [j] c.env=[(false,eval j c.env)]):
  PI c (.Tuple I b l) (.Call (.Name "enumerate" H) [j] [] S0) (SW c.K W2):=by
 intro pins s t d R a h;refine Call_ (fj a m n boot_enumerate (ů (bZ (o _ _ s t d _ a h) λG u w=>?_) p rfl));refine aJ w λJ x i y z=>?_
 obtain⟨e,rfl,⟨L,A⟩,q⟩:=z;cases y with
 |cons r B=>
  cases B;cases r;refine br (i.list A) λC M D N=>?_
  refine call_enumerate_list D.isList λO k E P F=>adm k ?_
  refine⟨_,_,_,_,x,rfl,(i.kept F),yE e _ _ (by simp),⟨⟨_,k⟩,E⟩,λf Q=>?_,q⟩
  have g:u.heap.objs.size<=f:=by
   grind
  exact i.yb g (i.hok.fresh g)
theorem jH:∀a k,(eX k a).length=a.length
 |[],_=>rfl
 |d::a,k=>by rw[eX,ô,ô,jH a]
theorem mu:∀a k i (d:D),(eX k a)[i]?=some d->∃x,a[i]?=some x/\d=.tup [.int (k+i:Nat),x]
 |[],_,_,_,h=>by simp[eX]at h
 |d::a,k,0,b,h=>by simp[eX]at h;simp_all
 |d::a,k,i+1,b,h=>by
  obtain⟨x,c,e⟩:=mu a _ i b h;exact⟨x,by simp_all,by grind⟩
theorem qN:∀{c}{xs}{Z}{H}{a}{b},hX c=some xs->bq Z H c a->Vals a b->ϖ b xs
 |[],xs,Z,H,a,b,h,r,q=>by
  cases h;rw[r.nil_inv]at q;cases q;exact .nil
 |d::c,xs,Z,H,a,b,h,r,q=>by
  obtain⟨v,k,rfl,e,f⟩:=r.cons_inv;cases d with
  |str x=>
   obtain⟨l,g,rfl⟩:=å.mp h;subst e;cases q with
   |cons i j=>
    obtain⟨t,rfl⟩:=i;exact .cons x t (qN g f j)
  |_=>cases h
def rJoin:V->List V->Hp->VK->Prop:=λx c H Q=>∃z Z b a y,x=.str z/\c=[y]/\Now Z H (.lst b) y/\hX b=some a/\z.length<=16/\(a.map (·.length)).sum+a.length<=1048576/\Q (.str (Txt.join z a)) H
theorem yF:Pu c "list.insert" wC:=by
 intro pins s E H x G v J Q I m o h;refine bP h λl p k y d f i w A b=>xa b λK q=>?_;subst d;subst f
 cases m;obtain⟨u,j,rfl,B,g⟩:=o.two;obtain⟨t,rfl⟩:=B;refine xa (I.yh i) λz b=>aJ b λa n r C e=>?_
 refine ĩ adn ⟨_,e,rfl⟩ F.entry_list_insert (F.args_list_insert_3 _ _ _) (afk l _ n k t j (by rw[fitsIndex_both w A];simp) (by simp_all)) ⟨e,?_⟩
 refine⟨.non,_,I.Ae (B5:=qH a k j) i e ?_ ?_ ?_,rfl,q⟩
 .have L:(if k<0 then (k+(a.toArray.size)).toNat else min k.toNat a.toArray.size)=HT.jC a.length 0 (some k):=by rfl
  unfold qH
  grind
 .have D:HT.jC p.length 0 (some k)=HT.jC a.length 0 (some k):=by rw[C]
  unfold qH;rw[D];exact(r.take _).append (.cons g (r.drop _))
 .unfold qH
  grind
def EA(h:L2.RelV x M)(a:L2.RelV D1 M):=h.inj a
def A6:V->List V->Hp->VK->Prop:=λx b H Q=>∃Z a d y j,b=[y]/\Now Z H (.lst a) x/\Now Z H d y/\aP 8 d=true/\a.all (aP 8)=true/\a.findIdx? (λe=>eJ e d)=some j/\Q (.int j) H
theorem ky(r:bq n e q N)(a:Vals N χ)(f g):∃v,Rep n e q[b] v/\L2.RelV v χ[b]:=by
 obtain⟨v,h,j⟩:=r.get (i:=b) (d:=q[b]) (by simp[g])
 obtain⟨u,c,k⟩:=a.get h;rw[ä f]at c;cases c;exact⟨v,j,k⟩
theorem A_(hu:c.A.units+64<È):Ms c "list.index" A6:=by
 intro pins s σ H x vs v us Q I R S h;refine xe h λZ B=>bP B λk d y j C T U M o2 D=>xa D λV q=>?_;subst C
 obtain⟨l,ws,rfl,X,z⟩:=dh T;cases R;obtain⟨u,rfl,Y⟩:=S.one;refine br (I.list (lA X)) λa f pl N=>?_
 obtain⟨E,he,a0⟩:=ado.mp V;have G:=f.length;have r:=z.length;refine a8 pl λo n ho hc p b0=>?_
 have g:∀m (b:m<k.length),aP 8 k[m]=true:=λm b=>ù.mp o2 _ (by simp)
 have J:j<a.length:=U' (U' E (R' r.symm)) (R' G)
 classical
 let e:=λw=>decide (∃m,∃(b:m<a.length) (p:m<k.length),a[m]=w/\eJ k[m] d=true)
 have t:∀m (b:m<a.length) (p:m<k.length),e _=eJ _ d:=λm b p=>by
  cases O:eJ _ d with
  |true=>exact decide_eq_true ⟨m,b,p,rfl,O⟩
  |false=>
   refine decide_eq_false ?_;rintro⟨m',c0,i,e1,e2⟩;obtain⟨v1,K,L⟩:=ky z f b p;obtain⟨v2,r2,P⟩:=ky z f _ i;rw[e1]at P;have:=EA L P;subst this;rw[Rep.uniq _ _ _ _ (g m p) (g m' _) K r2]at O
   simp_all
 refine ĩ adp ⟨_,ho,hc⟩ F.entry_list_index (F.args_list_index_2 _ _)
  (SeqAt.list_indexAt l _ n none o.slots u e j (by omega) (by rw[Ĉ]at N;exact Sr (U' (U' J (R' G.symm)) N)) ?_ ?_) ⟨?_,λw hw=>?_,?_⟩
 .show e a[j]=true
  rwa[t j _ _]
 .simp_all
 .obtain⟨c',d',dt,sl⟩:=o
  simp_all
 .obtain⟨m,b,rfl⟩:=List.mem_iff_getElem.mp (by simpa using hw)
  have i:m<k.length:=U' (U' b (R' G.symm)) (R' r);rw[t m b i];obtain⟨v1,K,L⟩:=ky z f b _;exact hY I 8 _ _ _ _ _ (by grind) (g m _) M (fH I K.now L (g m _)) (fH I U Y M)
 .exact⟨.int j,H,I.tok _,⟨_,rfl⟩,q⟩
theorem EB(p:PE c j π)(q:PE c (.BoolOp .And (O::I) l) Q2):PE c (.BoolOp .And (j::O::I) l) (λe H Q=>π e H λx f=>∃a,r_ c.K x f a/\if a=true then Q2 e f Q else Q x f):=by
 intro pins s e H Q b h;refine BoolOp_and (bZ (p _ s e H _ b h) λv r i=>?_);refine aJ i λx f t m k=>bD k λa u n=>?_
 refine bZ (qq _ r e f x v (λd g=>d=a/\g=f) t m ⟨a,u,rfl,rfl⟩) λd w i=>?_;refine br i λg o y z=>?_
 subst y z;cases d with
 |true=>exact q _ w e g Q o n
 |false=>exact⟨x,g,o,m,n⟩
theorem Jh(p:PE c j π)(q:PE c (.BoolOp .Or (O::I) l) Q2):PE c (.BoolOp .Or (j::O::I) l) (λe H Q=>π e H λx f=>∃a,r_ c.K x f a/\if a=true then Q x f else Q2 e f Q):=by
 intro pins s e H Q b h;refine BoolOp_or (bZ (p _ s e H _ b h) λv r i=>?_);refine aJ i λx f t m k=>bD k λa u n=>?_
 refine bZ (qq _ r e f x v (λd g=>d=a/\g=f) t m ⟨a,u,rfl,rfl⟩) λd w i=>?_;refine br i λg o y z=>?_
 subst y z;cases d with
 |false=>exact q _ w e g Q o n
 |true=>exact⟨x,g,o,m,n⟩
theorem EC(i:PE c j π):PE c (.UnaryOp .Not j l) (λe H Q=>π e H λx b=>∃a,r_ c.K x b a/\Q (.bl (!a)) b):=by
 intro pins s e H Q I h;refine UnaryOp_ (bZ (i _ s e H _ I h) λv k m=>?_);refine aJ m λx b n o f=>bD f λa p q=>?_
 refine not_of (bZ (qq _ k e b x v (λd g=>d=a/\g=b) n o ⟨a,p,rfl,rfl⟩) λd y  r =>br r λg t u w=>?_)
 subst u w;exact⟨.bl _,g,t,rfl,q⟩
theorem eZ.nw(h:eZ v C2 n e ξ m x):Now n ξ m x:=by
 cases v with
 |true=>exact h.now
 |false=>exact(h.weak).now
noncomputable def MU(a:V')(x:Str):Bool:=match a.names.lookup x with
 |some .local|some .cell|some .free=>true
 |_=>false
noncomputable def Ba(a:V')(x:Str):Bool:=match a.names.lookup x with
 |some .local|some .cell=>true
 |_=>false
noncomputable def sP(a:V')(x):=a.names.lookup x==some .globalImplicit
noncomputable def okN(x) := !(x==("__debug__":Str))&&!(x==("__classdict__"))&&!(x==("__name__"))
noncomputable def Ji(N:List Str)(x):=N.findIdx? (· == x)
def iY(a N x):=if MU a x&&okN x then Ji N x else none
def HP(x):=[Ty.int,.str,.bool,.list,.tuple,.dict].find? (λt=>t.nm==x)
noncomputable def isStar:x'->Bool
 |.Starred _ _=>true
 |_=>false
noncomputable def isSlice:x'->Bool
 |.Slice _ _ _ _=>true
 |_=>false
noncomputable def isSet:x'->Bool
 |.Set _ _ _=>true
 |_=>false
noncomputable def oA(scope a:V'):V':={scope with names:=scope.names.map λ(n,k)=>if (k==.free&&a.kind==.function&&a.names.lookup n==some .cell)then (n,.cell)else (n,k)}
noncomputable def cN(scope:V'):=(scope.names.filter λy=>y.2==.free).map (·.1)
def oC(a:V')(N:List Str):List Str->Option (List Nat)
 |[]=>some []
 |x::b=>do let i ←iY a N x;let c ←oC a N b;some (i::c)
def uX(scope)(sc:V')(x):=
 scope.kind==.function&&scope.names.all (λy=>!(y.2==.cell))&&scope.names.all (λy=>!(y.2==.local)||scope.names.lookup y.1==some .local) &&
 scope.names.all (λy=>!(y.2==.free)||(sc.names.lookup y.1==some .cell||sc.names.lookup y.1==some .free)&&scope.names.lookup y.1==some .free) &&
 scope.names.lookup x==some .local&&decide ((x::cN scope).Nodup)
noncomputable def lE:List ϗ->Option (Str×T'×x'×List x')
 |[⟨.Name x p,iter,a,0⟩]=>some (x,p,iter,a)
 |_=>none
variable{M7:List ϗ}
theorem pC(h:lE M7=some (d,l,j,I)):M7=[⟨.Name d l,j,I,0⟩]:=by
 rcases M7 with _|⟨⟨t,b,c,a⟩,r⟩<;>try cases h
 cases t<;>try cases h
 rcases a with (_|_)|_<;>try cases h
 cases r<;>cases h
 rfl
theorem Bb(h:Ji g d=some b):g[b]?=some d:=by
 obtain⟨a,c,_⟩:=ado.mp h
 simp_all
theorem iC(h:iY ε g d=some b):g[b]?=some d/\rV ε d/\(d==("__debug__"))=false/\(d==("__classdict__"))=false:=by
 unfold iY at h;split at h
 .rename_i a
  simp only[Ú,okN,ċ]at a;refine⟨Bb h,?_,a.2.1.1,a.2.1.2⟩;have c:=a.1;unfold MU at c;unfold rV
  grind
 .cases h
theorem wD(h:okN d=true):(d==("__debug__"))=false/\(d==("__classdict__"))=false/\d≠"__name__":=by
 simp only[okN,Ú,ċ]at h
 simp_all
noncomputable def eK:List Str:=["len","all","any","list","tuple","int","min","max","bool","isinstance","str","dict","range","sorted","enumerate","reversed","set","zip"]
theorem bx(h:isStar j=false):F' (j::I) B4=(false,eval j B4)::F' I B4:=by
 cases j<;>first|rfl | (cases h)
theorem bJ{env pos}:∀{a},(∀e∈a,isStar e=false)->(Æ pos (F' a env)).any (·.1)=false
 |[],_=>rfl
 |e::a,h=>by
  rw[bx (h e (by simp))]
  show(false||(Æ _ _).any _)=false
  rw[bJ (by grind)]
  rfl
variable{D3:Ty}
theorem MV(h:HP d=some D3):d=D3.nm/\D3.nm∈eK:=by
 have a:=abw h;exact⟨(eq_of_beq a).symm,by cases D3<;>decide⟩
theorem Bc{d N}:∀{xs}{a},oC d N xs=some a->xs.length=a.length/\∀(j i:Nat) x,xs[j]?=some x->a[j]?=some i->N[i]?=some x
 |[],a,h=>by cases h;simp_all
 |x::xs,a,h=>by
  refine bD (ģ.mp h) λi e h=>?_
  refine bD (ģ.mp h) λf g h=>?_
  cases h;obtain⟨k,l⟩:=Bc g;refine⟨by simp_all,λj m y b c=>?_⟩
  cases j with
  |zero=>simp at b c;subst b c;exact(iC e).1
  |succ j=>grind
theorem f_(h:isSet j=false):∀x,Ď j B4 x=pure x:=by
 intro x;cases j<;>first|rfl | (simp[isSet]at h)
theorem sQ(h:isSet j=false):ű B3 j=false:=by
 cases j<;>first|rfl | (simp[isSet]at h)
def sR(a N x):=if Ba a x&&okN x then Ji N x else none
noncomputable def ji:x'->Bool
 |.ListComp .. |.SetComp .. |.DictComp ..=>true
 |_=>false
noncomputable def sS(a:V')(x:Str)(b:T')(e:x'):Bool:=match e with
 |.ListComp _ _ s _=>a.names.lookup x==some .local&&b.line==e.pos.line&&!(s.names.any λ(n,k)=>n==x&&(k==.local||k==.cell))
 |_=>false
noncomputable def eh:List x'->Option (List (Str×T'))
 |[]=>some []
 |.Name x p::r=>(eh r).map ((x,p):: ·)
 |_=>none
def qO(a:V')(N:List Str):List (Str×T')->Option (List Nat)
 |[]=>some []
 |x::b=>do let i ←sR a N x.1;let c ←qO a N b;some (i::c)
noncomputable def Bd:x'->Bool
 |.Call .. |.Name .. |.Subscript ..=>true
 |_=>false
theorem lF:∀{a}{nms},eh a=some nms->a=nms.map λx=>ŉ x.1 x.2
 |[],_,h=>by cases h;rfl
 |e::a,nms,h=>by
  unfold eh at h;split at h
  .simp_all
  .rename_i x p r q
   cases q;obtain⟨c,b,h⟩:=å.mp h;subst h;rw[lF b];rfl
  .cases h
theorem pD(env):∀(nms:List (Str×T')),(č (nms.map λx=>ŉ x.1 x.2) env).length=nms.length/\(č (nms.map λx=>ŉ x.1 x.2) env).findIdx? (·.1)=none
 |[]=>⟨rfl,rfl⟩
 |x::r=>by
  obtain⟨a,b⟩:=pD _ r;refine⟨?_,?_⟩
  .show(č _ _).length+1=_
   rw[a];rfl
  .show List.findIdx? _ ((false,_)::č _ _)=none
   simp_all
def eU(N b:List Str)(a):=
 a.kind==.function&&!a.isCoroutine&&!a.isGenerator&&decide N.Nodup&&decide (N.take b.length=b)&&b.all (Ba a)&&a.names.all λy=>!(y.2==.free)
theorem fJ(h:eU g Δ ε=true):jB g Δ ε:=by
 simp only[eU,Ú,ċ,decide_eq_true_eq,ù,beq_iff_eq]at h;obtain⟨⟨⟨⟨⟨⟨a,b⟩,c⟩,d⟩,f⟩,i⟩,l⟩:=h;refine⟨a,b,c,d,f,λx j=>?_,λy m e=>?_⟩
 .have k:=i x j
  unfold Ba at k
  grind
 grind
noncomputable def ED:f'->Bool
 |.type x=>x=="list"
 |_=>false
def sU(K:M'):=K.all λp=>!ED p.2.cls
theorem sV:∀{K:M'}{a}{o},K.lookup a=some o->(a,o)∈K
 |[],_,_,h=>by cases h
 | (b,p)::K,a,o,h=>by
  rw[ϔ]at h;split at h
  .simp_all
  .exact Ŏ _ (sV h)
theorem MW(b:sU G=true)(a:lP G e h N):Rd e h (.lst N):=by
 rcases a with a|⟨o,c,n,d,f,_⟩
 .exact a
 .have:=ù.mp b _ (sV d)
  rw[f]at this;exact absurd this (by decide)
noncomputable def Be(K:M')(x:Str):Bool:=match ß K Ì x with
 |some none=>true
 |_=>false
def wF(K):=eK.all (Be K)
def Bf(X:G.In B)(a:B.Ns Ì ν)(b:wF G=true):=λx c=>by
 have:=ù.mp b x c;unfold Be at this;split at this
 .rename_i q;exact adq X a q
 .cases this
def MX(K:M')(tl:TE):TI:=λd H R=>tl d H λx b=>(∃a c,x=.ref a/\Rd b a (.lst c)/\R (SD K a) b)\/(∃a c,x=.ref a/\Rd b a (.tup c)/\R (Xq K a) b)\/(∃y,x=.str y/\R (Xw y) b)\/ME R x b
theorem EE(n:PE c O π):PI c j O (MX c.K π):=by
 intro pins s p H R I h;refine bZ (n pins s p H _ I h) λv m r=>?_;refine aJ r λx e d f u=>?_
 have g:∀b∈[m.heap.objs.size],mP c pins e b:=λb w=>by
  obtain rfl:b=m.heap.objs.size:=by simpa using w
  exact d.yb (W' _) (d.hok.fresh (W' _))
 rcases u with ⟨a,z,rfl,i,q⟩|⟨a,z,rfl,i,q⟩|⟨y,rfl,q⟩|q
 .cases f
  obtain⟨k,A,l,B⟩:=d.list (lA i);refine ń l.isList ?_;exact⟨_,_,_,_,e,rfl,d.kept λb o O=>Á _ O,yc a _,⟨_,Ð _ rfl,rfl,rfl⟩,g,q⟩
 .cases f
  obtain⟨k,A,l,B⟩:=d.tuple (uQ i);refine abe (l) ?_;exact⟨_,_,_,_,e,rfl,d.kept λb o O=>Á _ O,uu a _,⟨_,Ð _ rfl,rfl,rfl⟩,g,q⟩
 .obtain⟨t,rfl⟩:=f
  refine wpAny_pyIter_strU ?_;exact⟨_,_,_,_,e,rfl,d.kept λb o O=>Á _ O,A5 _ y t _ (by unfold strIterType;split<;>simp),⟨_,Ð _ rfl,rfl,rfl⟩,g,q⟩
 .exact Eh d f q
def MY(a:b')(o:Obj):It:=
 ⟨λi H=>∃b,H a=some (.dZ o (.dK b))/\i<b.length,λi H x d=>∃p,x=.ref p/\H p=none/\∀b,H a=some (.dZ o (.dK b))->∃c,b[i]?=some c/\d=upd H p (.tup [kV c.1,c.2]),λi H=>∃b,H a=some (.dZ o (.dK b))/\b.length<=i⟩
theorem yG:entryFor table "dict_itemiterator.__iter__"=some ġ.«dict_keyiterator.__iter__» :=
 entryFor_alias (id':="dict_keyiterator.__iter__") (by kernel_rfl) (by rfl) (by decide +kernel) (by kernel_rfl)
variable{C:b'}{C1:f'->g'->Prop}{Ξ:Nat}
theorem uY(c:IsItemIter o.heap h C b s Ξ M M2)(a:C1 (.ref h) o):p' (k9 y A) J (ħ (.ref h)) C1 R o:=by
 have d:o.TypeIs (.ref h) _:=⟨_,c,rfl⟩;refine wpAny_pyIter_slot d ads (ϋ ads d yG (I' ⟨_,rfl,_,_,d,F.slot_dict_itemiterator_next.lookup,a⟩) (F.args_dict_itemiterator_iter_1 _))
variable{z9:Array ſ}{υ:Obj}
theorem uZ(a o)(S:υ.data=.dict z9 s):
  Turn y A G (.Tuple I b l) (MY a υ) [o] o (λi h=>∃ok u,IsItemIter h o a i z9.size s ok u) where
 mem:=by simp
 obj:=λi h g c n=>by
  grind
 keep:=λi h T g k=>by
  grind
 item:=by
  intro X D F J U i pins d σ H E f x g K;subst D F J;refine bD K λj L V=>?_
  refine xe g λok m=>xe m λu g=>?_
  refine eu (km f.hok L S) λvs r M C _=>?_
  have N:=ä V;refine bD (gE r N) λq hv Y=>?_
  have p:=N' g;rw[C]at g;refine wpAny_pyNext_items_item g M (k:=q.1) (v:=q.2) hv λt T hk so tu sz kp=>?_
  refine⟨_,rfl,wpAny_letOwnedTupleGo_items so λO se Z=>?_⟩
  have P:=Z.extBut _ _ (Ö p) tu;refine⟨.ref d.heap.objs.size,upd H d.heap.objs.size (.tup [kV j[i].1,j[i].2]),?_,rfl,⟨_,rfl,f.hok.fresh (W' _),λa0 b0=>?_⟩,⟨_,_,by rw[C];exact se⟩,λc n=>?_⟩
  .have Q:Ĵ O d.heap.objs.size [t,q.2].toArray:=⟨_,P,rfl,_,rfl⟩
   have R:dE X.prog X.w (upd H d.heap.objs.size (.tup [kV j[i].1,j[i].2])) O d.heap.objs.size (.tup [kV j[i].1,j[i].2]):=⟨by rw[Ĉ];simp,[t,q.2],.cons (by rw[Y.1];exact qC hk) (.cons Y.2 .nil),Q⟩
   have:=hZ (s:=d) (B:=O) (b:=d.toks) f x (λc υ n q=>by
   have h1:c≠o:=λz=>n (by simp[z])
   exact Z.extBut c υ h1 (kp c υ h1 q)) (W' _) R
   exact this
  .simp_all
  .have e:c=o:=by simpa using n
   subst e;rw[az (O' p)];exact(x c n).1
 done:=by
  intro X D F J U i pins d σ H E f x g K;subst D F J;refine bD K λj L V=>?_
  refine xe g λok m=>xe m λu g=>?_
  refine eu (km f.hok L S) λvs r M C _=>?_
  refine dH (x o (by simp)) λf0 f1 f2 f3 f4 f5=>?_
  have hl:=r.length;rw[C]at g;exact wpAny_pyNext_items_end (f.ok.hd U) g M (by simp_all) λT eb=>⟨rfl,f.turned (b:=d.toks) (λc υ n e=>eb c υ n e) f0 f1 f3 f4 f5⟩
 self:=λ_ _ _ _ _ g h=>by
  refine xe g λok m=>xe m λu g=>?_
  exact uY g h
def SX(R:It->Hp->Prop)(x:V)(c):=∃a b,x=.ref a/\((c a=some (.dK b)/\∀o,R (MY a o) (upd c a (.dZ o (.dK b))))\/∃o,c a=some (.dZ o (.dK b))/\R (MY a o) c)
theorem Bg(i:ĉ j "items" c.env (eval j c.env)=eval j c.env)(k:(H.endLine==S0.line)=true)(t:PE c j π):
  PI c (.Tuple I b l) (.Call (.Attribute j "items" H) [] [] S0) (λu f R=>π u f (SX R)):=by
 intro pins s u f R m h;refine acp i k (bZ (t pins s u f _ m h) λv s1 X=>?_);refine aJ X λx H1 E Y Z=>?_
 obtain⟨a,n,rfl,q⟩:=Z;cases (Y)
 have B:∀(g:Obj) (o:Array ſ) (p:Nat) (y:Hp),Inv c pins u y s1->y a=some (.dZ g (.dK n))->g.data=.dict o p->R (MY a g) y->p' (k9 c.prog c.w) c.A (call (.builtin "dict.items") [.ref a]) (λv s2=>p' (k9 c.prog c.w) c.A (ħ v) (PIE c pins u (.Tuple I b l) R) c.xe s2) c.xe s1:=by
  intro g o p y G e2 J hR;refine eu (km G.hok e2 J) λK r S hz T=>?_
  have U:s1.heap.DictOf _ a K:=cW (S) λj o t r=>⟨j,o,p,t,r⟩
  refine call_meetsIn abx U.typeIs F.entry_dict_items (F.args_dict_items_1 _) (meets_dict_items _ a T) ⟨⟨K,U⟩,?_⟩;generalize C:s1.heap.push _=L;have V:∀d j,s1.heap.get? d=some j->L.get? d=some j:=λd j e=>by rw[←C];exact Á _ e
  have hv:L.IsItemsView s1.heap.objs.size a:=by rw[←C];exact⟨_,Ð _ rfl,rfl,rfl⟩
  have M:=S.at' λj e=>V a j e
  have N:=G.kept (t':=s1.toks) V;refine wpAny_pyIter_items hv M ?_;have I4:Inv c pins u y {s1 with heap:=L.push {cls:=.type "dict_itemiterator",data:=.fields #[.none,.bool false,.ref a,.int 0 0,.int K.length 0,.int p 0,.none,.none]} }:=N.kept λd j q=>Á _ q
  refine⟨_,_,_,_,y,rfl,I4,uZ a _ J,?_,λd hb=>?_,hR⟩
  .rw[hz]
   exact⟨_,_,Ð _ rfl⟩
  .have z:=by simpa using hb
   rw[z];exact N.yb (W' _) (N.hok.fresh (W' _))
 rcases q with ⟨D,hR⟩|⟨g,D,hR⟩
 .obtain⟨O,P,t3⟩:=Aj E (.inl ⟨n,.inl D⟩)
  refine cg (E.wb D) λg o p t J G=>?_
  exact⟨"dict",_,adt,abx,adu,O,P,Ž rfl (aa2 (B g o p _ G aS J (hR g)))⟩
 .obtain⟨O,P,t3⟩:=Aj E (.inl ⟨n,.inr ⟨g,D⟩⟩)
  obtain⟨t,_,T,K,r,o',o,p,Q,b,x2,x3⟩:=E.hok a _ D;rw[t]at Q;exact⟨"dict",_,adt,abx,adu,O,P,Ž rfl (aa2 (by grind))⟩
theorem sW{s}(I:Inv c z o0 e s)(j:∀a∈u,mP c z e a)(k:∀a o,a∉u->s.heap.get? a=some o->B.get? a=some o):Inv c z o0 e {s with heap:=B,toks:=b}:=by
 have l:∀a f,e a=some f->a∉u:=λa f d g=>by rw[(j a g).1]at d;cases d
 refine I.step (λa p=>?_) (λa o _ _ i d _=>k a o i d) (λa o _ _ i d _=>⟨_,k a o i d⟩) (λ_ _ _ _ n=>n)
  (λa o i d=>⟨o,k a o i d⟩) (λ_ _ d=>d) (λ_ _ _ d=>d) (λa F d=>⟨#[],by grind⟩) (λm t=>?_) (λa f d=>?_) I.bare
 .obtain⟨G,w,H,x,y,A⟩:=j a p
  exact⟨x,w,y,A⟩
 .obtain⟨o,C,D,E,r⟩:=t
  exact⟨o,C,D,k _ o (λg=>(j _ g).2.1 rfl) E,r⟩
 .refine(I.hok a f d).stay (λh v i q=>k h v ?_ q) (λ_ q=>q) λ_ _ q=>q
  grind
def wG(b)(H:Hp)(a:b')(xs:List V):=match b with
 |false=>Rd H a (.lst xs)
 |true=>Rd H a (.tup xs)
theorem Bh(a:wG v e h N)(b:wG v e h W4):N=W4:=by
 cases v<;>(rcases a with a|⟨o,a⟩<;>rcases b with b|⟨c,b⟩<;>(grind))
theorem ny(I:Inv c z o0 e o)(a:wG v e h N):∃b,Vals N b/\zF v o.heap h b.toArray:=by
 cases v with
 |false=>
  obtain⟨b,d,f,g⟩:=I.list (lA a);exact⟨_,d,f.isList⟩
 |true=>
  obtain⟨b,d,f,g⟩:=I.tuple (uQ a);exact⟨_,d,f⟩
def SY(b:Bool)(a c:b'):It:=
 ⟨λi H=>∃d e,wG b H a d/\wG b H c e/\d.length=e.length/\i<d.length,λi H x f=>∃p,x=.ref p/\H p=none/\∀d e,wG b H a d->wG b H c e->∃u v,d[i]?=some u/\e[i]?=some v/\f=upd H p (.tup [u,v]),λi H=>∃d,wG b H a d/\d.length<=i⟩
variable{D2 S5 W7 x0 ο:b'}
theorem Bi(D:aaa h C ο x0 D2 S5 W7):
  Turn y A G (.Tuple I b l) (SY v S5 W7) [h,C,ο,x0,D2] h (λi d=>Al v d h C ο x0 D2 S5 W7 .none i) where
 mem:=by simp
 obj:=λi d g q j=>by
  simp only[Õ,aap,or_false]at j;rcases j with rfl|rfl|rfl|rfl|rfl
  .exact⟨_,g.hz,λc e=>by cases e⟩
  .exact⟨_,g.hTI,λc e=>by cases e⟩
  .obtain⟨x,f,e⟩:=g.hTO
   grind
  .exact g.h1.obj
  .exact g.h2.obj
 keep:=λi d h' g k=>⟨k h (by simp) _ g.hz,k C (by simp) _ g.hTI,let ⟨x,f,e⟩:=g.hTO;⟨x,f,k ο (by simp) _ e⟩,g.h1.at λo e=>k x0 (by simp) o e,g.h2.at λo e=>k D2 (by simp) o e⟩
 item:=by
  intro X P Q R hc i pins s σ H E a J g S;subst P Q R;obtain⟨T,ys,K,hy,hl,hi⟩:=S;obtain⟨U,L,sq⟩:=ny a K;obtain⟨g0,p,V⟩:=ny a hy;have l1:=L.length;have l2:=p.length;obtain⟨M,r⟩:∃u,T[i]?=some u:=⟨T[i]'(by omega),ä _⟩
  obtain⟨N,t⟩:∃c,ys[i]?=some c:=⟨ys[i]'(by omega),ä _⟩
  obtain⟨u,hu,ru⟩:=Vals.get L r;obtain⟨c,hv,Y⟩:=Vals.get p t;have m:h<s.heap.objs.size:=N' g.hz
  have lt:∀q∈[h,C,ο,x0,D2],q<s.heap.objs.size:=λq j=>by
   simp only[Õ,aap,or_false]at j;rcases j with rfl|rfl|rfl|rfl|rfl
   .exact m
   .exact N' g.hTI
   .obtain⟨x,f,e⟩:=g.hTO;exact N' e
   .obtain⟨o,e,_⟩:=g.h1.obj;exact N' e
   .obtain⟨o,e,_⟩:=g.h2.obj;exact N' e
  refine yr D g sq V (by simpa using hu) (by simpa using hv) λh' z pr sz kp=>?_
  refine⟨_,rfl,wpAny_letOwnedTupleGo_zip z.hz λO Z sb=>?_⟩
  have F:=λq o n e=>sb.extBut q o n e
  have a0:∀q o,q∉[h,C,ο,x0,D2]->s.heap.get? q=some o->O.get? q=some o:=λq o j e=>by
   simp_all
  refine⟨.ref s.heap.objs.size,upd H s.heap.objs.size (.tup [M,N]),?_,rfl,⟨_,rfl,a.hok.fresh (W' _),λh0 i0 b0 c0=>?_⟩,⟨Z,F _ _ D.TIz z.hTI,let ⟨x,f,e⟩:=z.hTO;⟨x,f,F _ _ D.TOz e⟩,z.h1.at λo e=>F _ o D.i1z e,z.h2.at λo e=>F _ o D.i2z e⟩,λq j=>?_⟩
  .have d0:Ĵ O s.heap.objs.size [u,c].toArray:=⟨_,(F _ _ (Ö m) pr),rfl,_,rfl⟩
   have e0:dE X.prog X.w (upd H s.heap.objs.size (.tup [M,N])) O s.heap.objs.size (.tup [M,N]):=⟨by rw[Ĉ];simp,[u,c],.cons ru (.cons Y .nil),d0⟩
   have:=hZ (s:=s) (B:=O) (b:=s.toks) a J a0 (W' _) e0;exact this
  .obtain rfl:=Bh K b0
   obtain rfl:=Bh hy c0;exact⟨M,N,r,t,rfl⟩
  .rw[az (O' (lt q j))]
   exact(J q j).1
 done:=by
  intro X P Q R hc i pins s σ H E a J g S;subst P Q R;obtain⟨T,K,hi⟩:=S;obtain⟨U,L,sq⟩:=ny a K;have l1:=L.length;refine Am (a.ok.hd hc) D g sq (by simpa using aby (by omega)) λh' kp=>⟨rfl,?_⟩
  exact sW (b:=s.toks) a J (by grind)
 self:=λ_ _ _ _ _ g d=>adv g.hz d
theorem yH:Č "zip"=some (.type "zip"):=by rfl
theorem Jj(b h a d):Al b (MF b h a d) (h.objs.size+4) (h.objs.size+2) (h.objs.size+3) h.objs.size (h.objs.size+1) a d .none 0/\∀c o,h.get? c=some o->(MF b h a d).get? c=some o:=by
 have r:(LM b h a).objs.size=h.objs.size+1:=ŵ ..;have u:(yt b h a d).objs.size=h.objs.size+2:=by unfold yt;simp_all
 generalize i:({cls:=.type _,data:=.seq _}:Obj)=f;generalize j:({cls:=.type _,data:=.seq _}:Obj)=oB;have w:((yt b h a d).push f).objs.size=h.objs.size+3:=by simp_all
 have x:(((yt b h a d).push f).push oB).objs.size=h.objs.size+4:=by simp_all
 generalize k:({cls:=.type _,data:=.fields _}:Obj)=g;have s:MF b h a d=(((yt b h a d).push f).push oB).push g:=by unfold MF;rw[i,j,k]
 rw[s];have l:∀c o,(((yt b h a d).push f).push oB).get? c=some o->((((yt b h a d).push f).push oB).push g).get? c=some o:=λc o e=>Á _ e
 have m:=λc o e=>l c o (Á _ e)
 have n:=λc o e=>m c o (Á _ e)
 have p:=λc o e=>n c o (Á _ e)
 have y:=Ð (((yt b h a d).push f).push oB) (show Obj.isFreed g=false by rw[←k];rfl)
 have z:=l _ _ (Ð _ (by rw[←j];rfl))
 have A:=m _ _ (Ð _ (by rw[←i];rfl))
 have q:=n _ _ (Ð _ (by cases b<;>rfl))
 have t:=p _ _ (Ð h (by cases b<;>rfl))
 rw[r]at q;refine⟨⟨?_,?_,⟨.none,.none,?_⟩,wc.new t,wc.new q⟩,λc o e=>p c o (Á _ e)⟩
 .grind
 .grind
 grind
theorem yJ(a:s<b)(c:Ξ<b):aaa (b+4) (b+2) (b+3) b (b+1) s Ξ:=by
 have k:∀{x y:Nat},x<y\/y<x->x≠y:=λh=>by omega
 constructor<;>exact k (by omega)
def S9(d:TA):TI:=λe H R=>d e H λf b=>∃a c k g h,f=[.ref a,.ref c]/\wG k b a g/\wG k b c h/\R (SY k a c) b
theorem Jk(z:Gl c "zip")(A:c.mg "zip"=none)(B:PA c [j,O] W2)(C:F' [j,O] c.env=(false,eval j c.env)::F' [O] c.env)(n:(Æ S0 (F' [O] c.env)).any (·.1)=false):
  PI c (.Tuple I b l) (.Call (.Name "zip" H) [j,O] [] S0) (S9 W2):=by
 intro pins s D f R d h;refine Call_ (fj d z A yH (ů (bZ (B _ _ s D f _ d h) λS p ⟨T,H1,I1,r,q1⟩=>?_) C n) (by decide) (by decide))
 obtain⟨u,w,k,U,V,rfl,E,G,q⟩:=q1;obtain⟨X,Y,rfl,r,J⟩:=r.two;cases r;cases J;obtain⟨K,Z,sq⟩:=ny I1 E;obtain⟨L,M,i⟩:=ny I1 G
 have x:∀{a:b'}{y:Array _},zF k _ a y->a<p.heap.objs.size:=λ{a y} N=>by
  cases k<;>(obtain⟨o,e,_⟩:=N;exact N' e)
 refine callType_new F.called_zip (by decide) (F.typeCall_zip_2 _ _) (F.newCall_zip_2 _ _) (λP=>F.args_object_init_3 _ _ _) F.entry_zip_new (uJ k u w _ _) ⟨sq,i,?_⟩
 obtain⟨t,Q⟩:=Jj k _ u w;refine⟨⟨_,t.hz,rfl⟩,adv t.hz ?_⟩;refine⟨_,_,_,_,H1,rfl,(I1.kept (t':=p.toks) Q),Bi (yJ (x sq) (x i)),t,λg hc=>?_,q⟩
 have m:p.heap.objs.size<=g:=by
  grind
 exact I1.yb m (I1.hok.fresh m)
open AutoSeq1 (wpAny_loadPart')
def fC(a i):=((Â i).map a).foldl fo []
theorem kz(a i):fC a (i+1)=fo (fC a i) (a i):=by
 unfold fC;rw[adb,ì,List.foldl_append];rfl
theorem pE(a x):(fo a x).length=if decide (x∈a)=true then a.length else a.length+1:=by
 unfold fo
 by_cases h:x∈a<;>simp[h]
theorem yK(a x y):y∈fo a x↔y∈a\/y=x:=by
 unfold fo
 grind
theorem wH(a):∀i,(fC a i).length<=i
 |0=>by simp[fC]
 |i+1=>by
  have:=wH a i;rw[kz,pE]
  grind
noncomputable def zG(a:List Str):Key->Bool
 |.inr x=>decide (x∈a)
 |.inl _=>false
theorem sX{a}(c:B.SetOf (cC y A) h a b)(k:∀o,B.get? h=some o->W3.get? h=some o):W3.SetOf (cC y A) h a b:=by
 obtain⟨o,d,e,t,f,rest⟩:=c;exact⟨o,d,e,t,k _ f,rest⟩
theorem Bj{G St}(W:WalksS y A J.in1 h u A0 G b y8 St)(S)(E:S∉u)(a)(m:∀i v,y8 i v->∃t,v=.str (a i) t)(C:b+1<Ϙ):
  ∀k i s,b - i=k->i<=b->St i s->s.heap.SetOf (cC y A) S (zG (fC a i)) (fC a i).length ->
   (∀g,Moved (S::A0) G s g->g.heap.SetOf (cC y A) S (zG (fC a b)) (fC a b).length->P4 (.ok (.ret .none)) g) ->
   ç (k9 y A) J (.builtin "set.update.loop" ⟨[.ref S,.ref h],[]⟩) P4 s:=by
 have n:=λj=>E (W.sub _ j)
 have f:∀c∈A0,c∈S::A0:=λc C=>Ŏ _ C
 intro k
 induction k with
 |zero=>
  intro i s L M l H hR;obtain rfl:i=b:=by omega
  refine Ģ adw ?_;refine j' (W.done s _ _ l λg p=>I' (hR g (p.mono f) (sX H λo I=>p.heap S _ n I)))
 |succ k N=>
  intro i s L M l H hR;have q:i<b:=by omega
  refine Ģ adw ?_;refine j' (W.item i s _ _ q l λv g O r p=>?_)
  obtain⟨t,rfl⟩:=m i v O;refine j' (Ć ?_);refine j' ((cC _ A).pyHash (kZ _ _ _ _) ?_);refine wpAny_setAddHashed_of (kZ _ _ _ _) rfl (sX H λo I=>p.heap S _ n I) (by have:=wH a i;omega) λV w K=>?_
  refine I' ⟨ī afl _,N _ _ (by omega) q (W.frame _ g _ _ r (ø _) λc C o e=>?_) (by
   have P:zG (fC a (i+1))=λD=>zG (fC a i) D||decide (D=Ě (a i)):=by
    funext D
    rw[kz];cases D with
    |inl z=>simp[zG]
    |inr d=>
     simp only[zG]
     by_cases Q:d∈fC a i<;>by_cases R:d=a i<;>simp[yK,Q,R]
   have T:(fC a (i+1)).length=if zG (fC a i) (Ě (a i))=true then (fC a i).length else (fC a i).length+1:=by rw[kz,pE];rfl
   rw[P,T];exact K) λU x B=>?_⟩
  .exact(w.2 c (by grind)).trans e
  .refine hR _ (Moved.trans W.gtrans ((p.mono f).then_heap (ø _) λc o C e=>?_) x) B
   exact(w.2 c (by grind)).trans e
noncomputable def yL(a:Bool):Obj:={cls:=.type "set",dict:=none,data:=.set #[] 0 (.fresh 0 0 a)}
theorem wJ:∀{a}{xs},ϖ a xs->∀i (v:f'),a[i]?=some v->∃t,v=.str (xs.getD i "") t
 |_,_,.nil,i,v,h=>by simp at h
 |_,_,.cons y t r,0,v,h=>by simp at h;exact⟨t,h.symm⟩
 |_,_,.cons y t r,i+1,v,h=>by
  obtain⟨b,e⟩:=wJ r i v h
  simp_all
theorem EF(a:B.get? h=some {cls:=.type "set",dict:=none,data:=.set #[] 0 (.fresh 0 0 v)}):B.SetOf (cC y A) h (zG []) 0:=by
 have e:zG []=λ_=>false:=by funext k;cases k<;>simp[zG]
 rw[e];exact⟨_,_,0,_,a,⟨rfl,rfl,rfl⟩,rfl,λe b=>by simp at b,by simp,by simp[Ϙ],by rfl,rfl⟩
variable{C3:Array f'}
theorem Bk{s}(P:J.handled=none)(q:s.heap.IsList h C3)(Q:ϖ C3.toList g)(r:C3.size+1<Ϙ)(u:s.heap.get? C=some (yL v))(w:C≠h)(hR:∀x R,x.SetOf (cC y A) C (zG (fC (λi=>g.getD i "") C3.size)) (fC (λi=>g.getD i "") C3.size).length->(∀b o,b≠C->s.heap.get? b=some o->x.get? b=some o)->P4 (.ok (.ret .none)) {s with heap:=x,toks:=R}):
  p' (k9 y A) J.in1 (ġ.«set.__init__» ⟨[.ref C,.ref h],[]⟩)
   (λz c=>match z with|.done f=>P4 (.ok f) c|.again L=>L.quiet=true/\ç (k9 y A) J L P4 c) (λe c=>P4 (.error e) c) s:=by
 obtain⟨S,B,d,X,j⟩:=id q;obtain⟨M,D,E,n⟩:=S;simp only at d j;subst d;subst j
 have Y:s.TypeIs (.ref C) "set":=⟨_,u,rfl⟩;have G:s.heap.get? C=some {cls:=.type "set",dict:=none,data:=.set #[] 0 (.fresh 0 0 v)}:=u;have N:=PySem.F.sub_list_set;have O:=PySem.F.sub_list_frozenset;have T:(ĳ "list"==ĳ "dict")=false:=by decide
 unfold ġ.«set.__init__» noKeywords afm;generalize H:ħ=PI
 wp_walk
 subst H;refine ń q ?_;refine j' (wpAny_runValue ?_);have I:h<s.heap.objs.size:=N' B;have k:C<s.heap.objs.size:=N' u
 have K:C∉[s.heap.objs.size,h]:=λp=>by
  rcases Õ.mp p with e|e
  .exact O' k e
  .exact w (by simpa using e)
 have l:∀(i:Nat) (a:f'),C3[i]?=some a->∃t,a=.str ((λi=>g.getD i "") i) t:=λi a U=>wJ Q i a (by rw[Array.getElem?_toList];exact U)
 refine Bj ((abu (A:=J.in1.in1) P _ h (O' I) C3).toS) C K (λi=>g.getD i "") l r (C3.size - 0) 0 _ (by omega) (Ë _)
  ⟨⟨_,Ð _ rfl,rfl,rfl⟩,q.push _⟩ ?hS0 ?hR
 case hS0=>exact EF (Á _ G)
 case hR=>
  intro c p m;rw[acJ p];refine I' ?_
  show p' _ _ (ret ĥ) _ _ _
  refine I' (hR c.heap c.toks m λb o r e=>?_)
  refine p.heap b o (λhmem=>?_) (Á _ e)
  rcases Õ.mp hmem with V|hmem
  .exact r V
  .exact absurd (N' e) (by rw[show b=s.heap.objs.size by simpa using hmem];exact Ò _)
theorem oD{E s}(H:J.handled=none)(B:s.heap.IsList h C3)(I:ϖ C3.toList g)(K:C3.size+1<Ϙ)(k:∀m t,m.SetOf (cC y A) s.heap.objs.size (zG (fC (λi=>g.getD i "") C3.size)) (fC (λi=>g.getD i "") C3.size).length->(∀b o,s.heap.get? b=some o->m.get? b=some o)->C1 (.ref s.heap.objs.size) {s with heap:=m,toks:=t}):
  p' (k9 y A) J (call (.type "set") [.ref h]) C1 E s:=by
 obtain⟨c,tl,C⟩:=İ.mro;have u:=İ.made;have D:=İ.sub;refine đ (acW ?_)
 show p' _ _ (callAny (.type "set") _) _ _ _
 refine I' ⟨abg _ (by decide +kernel),Ģ PySem.F.entry_type_call ?_⟩
 rw[Around.under_plain (weight_type_call_type "set" [.ref h] []) rfl];have S:=İ.notType;have T:=İ.canCreate;have L:=PySem.F.typeCall_set_1 (.ref h)
 repeat (any_goals (first|assumption|wp_step))
 refine Ē (code_set_new_1 (.ref h) (E:=E) (Q₁:=λn f=>∃a:Bool,n=.ref s.heap.objs.size/\f={s with heap:=s.heap.push (yL a)}) λa=>⟨a,rfl,rfl⟩) λr f w=>?_
 cases r with
 |error e=>exact w
 |ok fl=>
  cases fl with
  |ret n=>
   obtain⟨a,rfl,rfl⟩:=w;have G:(s.heap.push (yL a)).get? s.heap.objs.size=some (yL a):=Ð _ rfl;have M:Shared.TypeIs {s with heap:=s.heap.push (yL a)} (.ref s.heap.objs.size) "set":=⟨_,G,rfl⟩;have N:=İ.init.lookup;have O:=İ.init.bind (.ref s.heap.objs.size)
   repeat (any_goals (first|assumption|wp_step))
   have x:s.heap.objs.size≠h:=λe=>by obtain⟨o,P,_⟩:=B;exact Ò _ (e▸N' P)
   refine Ē (ϐ (R:=wants (λr j=>r=.none/\C1 (.ref s.heap.objs.size) j) E) İ.init.plain PySem.F.entry_set_init (check_set_init_1 M ?_)) λp j d=>?_
   .refine Bk (v:=a) (J:=J.in1) (s:={s with heap:=s.heap.push (yL a)}) (show J.in1.handled=none from H) (B.push _) I K G x λm t q Q=>⟨rfl,k m t q λb o e=>Q b o (λz=>absurd (N' e) (by rw[z];exact Ò _)) (Á _ e)⟩
   .cases p with
    |error e=>exact d
    |ok l=>
     cases l with
     |ret r=>
      obtain⟨rfl,U⟩:=d
      repeat (any_goals (first|assumption|wp_step))
     |_=>exact d.elim
  |_=>exact w.elim
def YV(d:TE):TE:=λe H Q=>d e H λx b=>∃Z c a,Now Z b (.lst c) x/\hX c=some a/\a.length<=1000/\Q (.int (unlike a)) b
theorem sY:∀{a}{xs},ϖ a xs->a.length=xs.length
 |_,_,.nil=>rfl
 |_,_,.cons _ _ r=>by rw[ô,ô,sY r]
theorem EG(xs:List Str):fC (λi=>xs.getD i "") xs.length=xs.foldl fo []:=by
 unfold fC
 congr 1
 apply ϙ
 grind
variable{F5:T'}
theorem yM(F:c.calm=true)(G:Gl c "len")(J:c.mg "len"=none)(g:Gl c "set")(i:c.mg "set"=none)(C:F' [j] c.env=[(false,eval j c.env)])(K:PE c j π):
  PE c (.Call (.Name "len" l) [.Call (.Name "set" H) [j] [] F5] [] S0) (YV π):=by
 intro pins s L b Q I h;refine ă (fj I G J aaq ?_ (by decide) (by decide))
 refine Ž rfl (acq ?_);refine Ğ ?_;refine ă (fj I g i boot_set ?_ (by decide) (by decide))
 refine ů (bZ (eD K kj C _ _ s L b (λk f=>match k with|[x]=>(∃Z m d,Now Z f (.lst m) x/\hX m=some d/\d.length<=1000/\Q (.int (unlike d)) f)|_=>False) I h) λus s1 ⟨k,f,I1,n,p⟩=>?_) C rfl
 match k,p,n with
 |[x],p,n=>
  obtain⟨Z,m,d,M,r,N,q⟩:=p;obtain⟨w,ws,rfl,hR,e⟩:=dh M;obtain⟨u,rfl,O⟩:=n.one;cases O;obtain⟨y,P,R,hz⟩:=I1.list (lA hR);have z:=qN r e P;have hl:=sY z;have A:y.toArray.size=d.length:=by omega
  refine oD (I1.ok.hd F) R.isList (by omega) (by unfold Ϙ;omega) λh' S a T=>?_
  refine Ľ ?_;rw[A,EG]at a;obtain⟨o,D,ep,t,U,B,V,X,E,Y,hf,hn⟩:=a;have hu:D.size=unlike d:=hn;have I2:=I1.kept (t':=S) T;refine call_len_set U B V hf ?_ ⟨.int _,f,I2.tok _,⟨_,by rw[hu]⟩,q⟩
  have:D.size<4096:=Y;omega
@[simp] theorem MZ:lT .non=some false:=rfl
@[simp] theorem PB:lT (.bl v)=some v:=rfl
@[simp] theorem M9:lT (.int Q)=some (Q != 0):=rfl
@[simp] theorem M_:lT (.lst q)=some (!q.isEmpty):=rfl
@[simp] theorem Na:lT (.tup q)=some (!q.isEmpty):=rfl
def Ew(o:Bool)(f:List D->D):D->Out Rs
 |.tup a=>if small a.length=true then .ok (o,f a)else .bad
 |_=>.bad
@[simp] theorem Nb{f}:Ew v f (.tup q)=if small q.length=true then .ok (v,f q)else .bad:=rfl
@[simp] theorem PC:gU .Add (.int Q) (.int y1)=.ok (false,.int (Q+y1)):=rfl
@[simp] theorem PD:gU .Sub (.int Q) (.int y1)=.ok (false,.int (Q - y1)):=rfl
@[simp] theorem PF:gU .Mult (.int Q) (.int y1)=if (nk Q||nk y1)=true then .ok (false,.int (Q*y1))else .bad:=rfl
@[simp] theorem PH:gU .FloorDiv (.int Q) (.int y1)=if (decide (0<y1)&&decide (y1<1073741824))=true then .ok (false,.int (Q / y1))else .bad:=rfl
@[simp] theorem PJ:gU .Mod (.int Q) (.int y1)=if decide (0<y1)=true then .ok (false,.int (Q%y1))else .bad:=rfl
@[simp] theorem PK:gU .Pow (.int Q) (.int y1)=if (decide (0<=y1)&&decide (y1<=1000)&&decide (Q.natAbs<2 ^ 64))=true then .ok (false,.int (Q ^ y1.toNat))else .bad:=rfl
variable{U:Str}
@[simp] theorem Nc:gU .Add (.str d) (.str U)=if small (d.length+U.length)=true then .ok (false,.str (d++U))else .bad:=rfl
@[simp] theorem Nd:gU .Add (.lst q) (.lst D4)=if small (q.length+D4.length)=true then .ok (true,.lst (q++D4))else .bad:=rfl
@[simp] theorem S_:eW .Eq m Y=if (aP 8 m&&aP 8 Y)=true then .ok (eJ m Y)else .bad:=rfl
@[simp] theorem Ta:eW .NotEq m Y=if (aP 8 m&&aP 8 Y)=true then .ok (!eJ m Y)else .bad:=rfl
@[simp] theorem Tb:eW .Lt (.int Q) (.int y1)=.ok (decide (Q<y1)):=rfl
@[simp] theorem Tc:eW .LtE (.int Q) (.int y1)=.ok (decide (Q<=y1)):=rfl
@[simp] theorem cmp_gt:eW .Gt (.int Q) (.int y1)=.ok (decide (y1<Q)):=rfl
@[simp] theorem Td:eW .GtE (.int Q) (.int y1)=.ok (decide (y1<=Q)):=rfl
@[simp] theorem Te:eW .In m Y=inD m Y:=rfl
@[simp] theorem PL:eW .NotIn m Y=inD m Y >>= λb=>.ok (!b):=rfl
@[simp] theorem Tf:eW .Is m Y=isD m Y:=rfl
@[simp] theorem PM:eW .IsNot m Y=isD m Y >>= λb=>.ok (!b):=rfl
@[simp] theorem Tg:aP b .non=true:=by cases b<;>rfl
@[simp] theorem Xy:aP b (.bl v)=true:=by cases b<;>rfl
@[simp] theorem Ti:aP b (.int Q)=true:=by cases b<;>rfl
@[simp] theorem Tj:aP b (.str d)=true:=by cases b<;>rfl
@[simp] theorem Tn:aP (b+1) (.lst q)=q.all (aP b):=rfl
@[simp] theorem To:aP (b+1) (.tup q)=q.all (aP b):=rfl
@[simp] theorem eq_int:eJ (.int Q) (.int y1)=(Q==y1):=rfl
@[simp] theorem Xz:eJ (.bl v) (.bl C2)=(v==C2):=rfl
@[simp] theorem eq_str:eJ (.str d) (.str U)=(d==U):=rfl
@[simp] theorem Tp:eJ (.lst q) (.lst D4)=fB q D4:=rfl
@[simp] theorem Tq:eJ (.tup q) (.tup D4)=fB q D4:=rfl
@[simp] theorem PN:fB [] []=true:=rfl
@[simp] theorem Nf:fB (m::q) (Y::D4)=(eJ m Y&&fB q D4):=rfl
@[simp] theorem Ts:fB [] (m::q)=false:=rfl
@[simp] theorem Tt:fB (m::q) []=false:=rfl
theorem EH(h:small d.length=true)(e:L2.lp d.cps.toList Q=some b):uO (.str d) (.int Q)=.ok (false,.str (bS b)):=by
 simp only[uO,h,if_pos,e]
variable{u8 x8:Option Int}
@[simp] theorem PQ:AF (.lst q) u8 x8=.ok (true,.lst (dq q u8 x8)):=rfl
@[simp] theorem PR:AF (.str d) u8 x8=if small d.length=true then .ok (false,.str ⟨(dq d.cps.toList u8 x8).toArray⟩)else .bad:=rfl
@[simp] theorem PU:jg .len (.tup [.lst q])=.ok (false,.int q.length):=rfl
@[simp] theorem PV:jg .len (.tup [.tup q])=.ok (false,.int q.length):=rfl
@[simp] theorem len_str:jg .len (.tup [.str d])=if small d.length=true then .ok (false,.int d.length)else .bad:=rfl
noncomputable def Bl(f:List Bool->Bool):Option (List Bool)->Out Rs
 |some bs=>.ok (false,.bl (f bs))
 |none=>.bad
@[simp] theorem LP{f}:Bl f (some l9)=.ok (false,.bl (f l9)):=rfl
@[simp] theorem PX:jg .all (.tup [.lst q])=Bl (λbs=>bs.all id) (fY q):=rfl
@[simp] theorem PY:jg .any (.tup [.lst q])=Bl (λbs=>bs.any id) (fY q):=rfl
@[simp] theorem Ng:jg .list (.tup [.lst q])=.ok (true,.lst q):=rfl
@[simp] theorem Nh:jg .list (.tup [.tup q])=.ok (true,.lst q):=rfl
@[simp] theorem LQ:jg .tuple (.tup [.lst q])=.ok (false,.tup q):=rfl
@[simp] theorem LR:jg .tuple (.tup [.tup q])=.ok (false,.tup q):=rfl
@[simp] theorem int_int:jg .int (.tup [.int Q])=.ok (false,.int Q):=rfl
@[simp] theorem Tu:jg .int (.tup [.bl v])=.ok (false,.int (if v then 1 else 0)):=rfl
@[simp] theorem PZ:jg .min (.tup [.int Q,.int y1])=.ok (false,.int (if y1<Q then y1 else Q)):=rfl
@[simp] theorem P9:jg .max (.tup [.int Q,.int y1])=.ok (false,.int (if y1>Q then y1 else Q)):=rfl
@[simp] theorem Tv:AG .non D3=some false:=rfl
@[simp] theorem XA{t}:AG (.bl v) t=some (t==.bool||t==.int):=rfl
@[simp] theorem ty_int:AG (.int Q) D3=some (D3==.int):=rfl
@[simp] theorem ty_str:AG (.str d) D3=some (D3==.str):=rfl
@[simp] theorem Tw:AG (.lst q) D3=some (D3==.list):=rfl
@[simp] theorem Tz:AG (.tup q) D3=some (D3==.tuple):=rfl
@[simp] theorem TB{a}:AG (.dct a q) D3=some (D3==.dict):=rfl
theorem aW(h:b<=100000):small b=true:=by
 unfold small;rw[decide_eq_true_eq,Ĉ];omega
theorem jI(a : -(2 ^ 64)<Q)(b:Q<2 ^ 64):nk Q=true:=decide_eq_true (by omega)
theorem eE(a : -(2 ^ 62)<Q)(b:Q<2 ^ 62):oz Q=true:=decide_eq_true (by omega)
theorem Jl{a}{xs:List a}(c:0<=Q)(d:Q<xs.length):∃x,x∈xs/\L2.lp xs Q=some x:=by
 have b:Q.toNat<xs.length:=by omega
 have h:=L2.cH (ä b)
 grind
@[simp] theorem in_str:inD (.str d) (.str U)=.ok (wm d U):=rfl
theorem EI(xs:List P2)(a b):(dq xs a b).length<=xs.length:=by
 unfold dq;rw[ý,ż];omega
def cR(n a):=jG n a
theorem eF:∀{a}{i:Nat}{d},(intsFrom a b)[i]?=some d->d=.int (a+i)/\i<b:=by
 induction b with
 |zero=>intro a i d h;simp[intsFrom]at h
 |succ b c=>
  intro a i d h;cases i with
  |zero=>simp[intsFrom]at h;simp_all
  |succ i=>
   simp[intsFrom]at h
   grind
noncomputable def L1(xs:List Str):D:=.lst (xs.map .str)
def LL(rs:List (List Str)):D:=.lst (rs.map L1)
theorem Bm(xs:List P2)(k:Nat):dq xs (some k) none=xs.drop k:=by
 unfold dq;rw[HT.sk,HT.mj];rcases abz k _ with h|h
 .rw[abA h]
  exact ϒ (by simp)
 simp_all
theorem u_(xs:List P2)(k:Nat):dq xs none (some k)=xs.take k:=by
 unfold dq;rw[HT.sk,HT.mj];simp
theorem Bn(xs:List P2)(k m:Nat):dq xs (some k) (some m)=(xs.drop k).take (m - k):=by
 unfold dq;rw[HT.mj,HT.mj];rcases abz k _ with h|h
 .rw[abA h]
  rcases abz m xs.length with h' |h'
  .simp_all
  .rw[Nat.min_eq_right h',ϒ (by simp),ϒ (by simp;omega)]
 simp_all
@[simp] theorem XC(xs:List P2):dq xs (some 1) none=xs.tail:=by rw[show(1)=((1:Nat):Int)from rfl,Bm];simp
theorem EJ(n)(xs:List Str):(xs.map D.str).all (aP n)=true:=by
 simp
theorem EK(xs:List Str)(n):((xs.map D.str).any λy=>eJ y (.str n))=decide (n∈xs):=by
 induction xs with
 |nil=>rfl
 |cons x xs a=>
  simp only[ú,ş,a,eq_str,Õ]
  grind
theorem EL(xs:List Str)(n):inD (.str n) (.lst (xs.map .str))=.ok (decide (n∈xs)):=by
 have:inD _ (.lst _)=if aP 8 (.str n)&&(xs.map D.str).all _ then .ok _ else .bad:=rfl
 rw[this,EK];simp
theorem EN(xs a:List Str):fB (xs.map .str) (a.map .str)=decide (xs=a):=by
 induction xs generalizing a with
 |nil=>cases a<;>simp
 |cons x xs b=>
  cases a with
  |nil=>simp
  |cons y a=>
   simp
   grind
theorem HQ(xs a):eJ (L1 xs) (L1 a)=decide (xs=a):=EN xs a
theorem Ni(n xs):aP (n+1) (L1 xs)=true:=EJ n xs
noncomputable def freeOf(rs:List (List Str)):List Str->Option Str
 |[]=>none
 |n::_=>if ∃t∈rs,n∈t.tail then none else some n
variable{Z:List (List Str)}
theorem dS(h:∃t∈Z,d∈t.tail):freeOf Z (d::g)=none:=if_pos h
theorem dU(h:¬ ∃t∈Z,d∈t.tail):freeOf Z (d::g)=some d:=if_neg h
def free(rs:List (List Str)):=rs.findSome? (freeOf rs)
noncomputable def Jm:Option Str->D
 |none=>.non
 |some n=>.str n
@[simp] theorem TC:isD (.str d) .non=.ok false:=rfl
@[simp] theorem P_:isD .non .non=.ok true:=rfl
@[simp] theorem TF:isD (.int Q) .non=.ok false:=rfl
@[simp] theorem TH:isD (.lst q) .non=.ok false:=rfl
noncomputable def cI(n)(r:List Str):=if r.take 1=[n]then r.tail else r
inductive Mg:List (List Str)->List Str->Prop
 |done {rs}:(∀r∈rs,r=[])->Mg rs []
 |step {rs n o}:(∃r∈rs,r≠[])->free rs=some n->Mg (rs.map (cI n)) o->Mg rs (n::o)
theorem any_rows(rs:List (List Str)):fY (rs.map L1)=some (rs.map λr=>!r.isEmpty):=by
 induction rs with
 |nil=>rfl
 |cons r rs a=>
  simp only[ú,fY,a];simp[L1]
theorem any_true(h:∃r∈Z,r≠[]):(Z.map λr=>!r.isEmpty).any id=true:=by
 simp_all
theorem any_false(h:∀r∈Z,r=[]):(Z.map λr=>!r.isEmpty).any id=false:=by
 grind
abbrev Fn:=List D->Out Rs
def fK(a:Int->Int->Int->Int)(F:Fn):=∀c t m,0<=t->t<100000->0<m->0<=a c t m/\a c t m<m/\F [.int c,.int t,.int m]=.ok (false,.int (a c t m))
noncomputable def SC(a:List Int):D:=.lst (a.map .int)
def h9(b:List Int->Nat->Int)(F:Fn):=∀a (k:Nat),F [SC a,.int k]=.ok (false,.int (b a k))
theorem ints_map(a n):intsFrom a n=(Â n).map λ(i:Nat)=>D.int (a+i):=by
 apply ϙ;intro i
 by_cases h:i<n
 .have b:i<(intsFrom a n).length:=by rwa[cR]
  have e:=(eF (ä b)).1
  simp_all
 .rw[aby (by rw[cR];omega),aby (by simp;omega)]
theorem kA(n):intsFrom 0 n=(Â n).map λ(i:Nat)=>D.int i:=by
 rw[ints_map];simp
noncomputable def abc:Str:="abcdefghijklmnopqrstuvwxyz"
theorem Jn:∀q,q<26->abc.cps.toList[q]?=some (97+q):=by decide
theorem wK(a:0<=Q)(b:Q<26):uO (.str abc) (.int Q)=.ok (false,.str (bS (97+Q.toNat))):=by
 refine EH (aW (by decide)) ?_
 have:=L2.cH (Jn Q.toNat (by omega))
 grind
noncomputable def bs(a:Int->Int->Int->Int)(c:Int):List D:=(Â 8).map λ(i:Nat)=>.int (a c i 26)
def Nm(b:Int->Int->Int->Int)(c)(m a k:Nat)(z:Str):=
 z.length<=8/\if b c 10 4=1/\m<9 then z.length=k+1 else z.cps.toList[a]?=some (97+((b c a 26+k)%26).toNat)
theorem qP(h:free Z=some d):(∃r∈Z,∃t,r=d::t)/\∀t∈Z,d∉t.tail:=by
 obtain⟨r,b,e⟩:=abB h;cases r with
 |nil=>cases e
 |cons x t=>
  by_cases a:∃t∈Z,x∈t.tail
  .rw[dS a]at e;cases e
  .rw[dU a]at e
   grind
theorem ER(b:free Z=some d):∀r∈Z.map (cI d),d∉r:=by
 intro r c a;obtain⟨t,e,rfl⟩:=ë.mp c;have f:=(qP b).2 t e;unfold cI at a;split at a
 .simp_all
 .cases t with
  |nil=>simp at a
  |cons x t=>
   simp_all
theorem Bo(M:Mg Z g):∀x∈g,∃r∈Z,x∈r:=by
 induction M with
 |done h=>simp
 |@step Z n g c d _ f=>
  intro x a;rcases Õ.mp a with e|e
  .obtain⟨⟨r,b,t,rfl⟩,_⟩:=qP d
   grind
  .obtain⟨r,b,a⟩:=f x e
   obtain⟨t,i,rfl⟩:=ë.mp b
   exact⟨t,i,by
     unfold cI at a;split at a
     .exact List.mem_of_mem_tail a
     .exact a⟩
theorem Bp(M:Mg Z g):g.Nodup:=by
 induction M with
 |done h=>simp
 |@step Z n g a b c d=>
  refine Ł.mpr ⟨λh=>?_,d⟩
  obtain⟨r,e,f⟩:=Bo c n h;exact ER b r e f
theorem ES(f:P2->f8)(xs l h):dq (xs.map f) l h=(dq xs l h).map f:=by
 unfold dq;rw[Í,aar,adx]
@[simp] theorem Qa:jg .list (.tup [L1 g])=.ok (true,L1 g):=rfl
@[simp] theorem Qb:jg .list (.tup [LL Z])=.ok (true,LL Z):=rfl
@[simp] theorem XD:inD (.str d) (L1 g)=.ok (decide (d∈g)):=EL g d
@[simp] theorem XE:AG (L1 g) D3=some (D3==.list):=rfl
@[simp] theorem YW:aP (b+1) (L1 g)=true:=Ni b g
@[simp] theorem YX:aP (b+2) (LL Z)=true:=by
  show(Z.map L1).all _=true
  simp_all
@[simp] theorem YY:eJ (L1 g) (L1 Δ)=decide (g=Δ):=HQ g Δ
@[simp] theorem YZ{a}:eJ (LL Z) (LL a)=decide (Z=a):=by
  show fB _ _=_
  induction Z generalizing a with
  |nil=>cases a<;>simp
  |cons x Z b=>
   cases a with
   |nil=>simp
   |cons y a=>
    simp_all
@[simp] theorem XF:isD (.bl v) (.bl C2)=.ok (v==C2):=rfl
inductive Sk:List (List Str)->Prop
 |stuck {rs}:(∃r∈rs,r≠[])->free rs=none->Sk rs
 |step {rs n}:(∃r∈rs,r≠[])->free rs=some n->Sk (rs.map (cI n))->Sk rs
noncomputable def tot(rs:List (List Str)):=(rs.map ŗ).sum
theorem pF(n r):(cI n r).length<=r.length:=by
 unfold cI
 grind
theorem Bq(n):∀rs,tot (rs.map (cI n))<=tot rs
 |[]=>W' _
 |r::rs=>by
  have a:=pF n r;have b:=Bq n rs;simp only[tot,ú,aas]at *;omega
theorem Br{n}:∀{rs},(∃r∈rs,∃t,r=n::t)->tot (rs.map (cI n))<tot rs
 |[],⟨r,h,_⟩=>by simp at h
 |r0::rs,⟨r,h,t,e⟩=>by
  have b:=pF n r0;have c:=Bq n rs;rcases Õ.mp h with rfl|h
  .subst e
   have a:(cI n (n::t)).length=t.length:=by unfold cI;simp_all
   simp only[tot,ú,aas,ô]at *;omega
  .have a:=Br ⟨r,h,t,e⟩
   simp only[tot,ú,aas]at *;omega
theorem Bs:∀m rs,tot rs<m->(∃o,Mg rs o/\o.length<=tot rs)\/Sk rs:=by
 intro m
 induction m with
 |zero=>simp
 |succ m c=>
  intro rs h
  by_cases b:∃r∈rs,r≠[]
  .cases a:free rs with
   |none=>exact .inr (.stuck b a)
   |some n=>
    have d:=Br (qP a).1;rcases c (rs.map (cI n)) (by omega)with ⟨o,M,e⟩|S
    .exact .inl ⟨_,.step b a M,by exact Ø e d⟩
    .exact .inr (.step b a S)
  .refine .inl ⟨[],.done λr f=>?_,by simp⟩
   grind
abbrev XG:=Str×Str×Nat
structure XH(left:List (List Str))(met:List Str)(steps:List XG)(name:Str):Prop where
 sec:steps.map (·.2.1)=met
 fst:steps.map (·.1)=(met++[name]).tail
 clm:∀s∈steps,∃t,left[s.2.2]?=some (s.1::t)/\s.2.1∈t
 nd:met.Nodup
 hds:∀m∈met++[name],∃r∈left,∃t,r=m::t
theorem XH.len{steps}(c:XH Z g steps d):steps.length=g.length:=by rw[←c.sec,Í]
structure TJ where
 name:Str
 qual:Str
 params:aaX
 body:List K'
 scope:V'
 ps:List Str
 cn:List Str
class h_ where
 tab:Nat->TJ
 ta:Nat->b'
inductive Cell where
 |lst (ds:List D)
 |dK (kvs:List (Key×D))
 |dT (kvs:List (List Key×D))
 |dF (kvs:List (Key×D))
 |ins (C:Str) (fs:List (Str×D))
 |fn (j:Nat) (sZ:List D)
 |tb (j:Nat) (p:T') (b:Bool)
abbrev aG:=List Cell
inductive ay (α:Type) where
 |ok (a:α) (Ω:aG)
 |exc (x:D) (Ω:aG)
 |bad
noncomputable def ay.bind{c d}:ay c->(c->aG->ay d)->ay d
 |.ok a b,f=>f a b
 |.exc x b,_=>.exc x b
 |.bad,_=>.bad
abbrev bo:=List (Option D)
inductive aI {α β:Type} (R:α->β->Prop):List α->List β->Prop where
 |nil:aI R [] []
 |cons {a b as bs}:R a b->aI R as bs->aI R (a::as) (b::bs)
namespace aI
section
variable{α β:Type}{R S:α->β->Prop}
theorem length:∀{a}{bs},aI R a bs->bs.length=a.length
 |_,_,.nil=>rfl
 |_,_,.cons _ t=>by rw[ô,ô,length t]
theorem imp(h:∀a b,R a b->S a b):∀{c}{bs},aI R c bs->aI S c bs
 |_,_,.nil=>.nil
 |_,_,.cons r t=>.cons (h _ _ r) (imp h t)
theorem get:∀{c}{bs}{i:Nat}{a},aI R c bs->c[i]?=some a->∃b,bs[i]?=some b/\R a b
 |_,_,_,_,.nil,e=>by simp at e
 |_,_,0,_,.cons r _,e=>by simp_all
 |_,_,i+1,a,.cons _ t,e=>by
  refine bD (get t (by simpa using e)) λu d f=>?_
  simp_all
theorem ET:∀{c}{bs}{i:Nat}{b},aI R c bs->bs[i]?=some b->∃a,c[i]?=some a/\R a b
 |_,_,_,_,.nil,e=>by simp at e
 |_,_,0,_,.cons r _,e=>by simp_all
 |_,_,i+1,a,.cons _ t,e=>by
  refine bD (ET t (by simpa using e)) λu d f=>?_
  simp_all
theorem append:∀{a b}{bs c},aI R a bs->aI R b c->aI R (a++b) (bs++c)
 |_,_,_,_,.nil,h=>h
 |_,_,_,_,.cons r t,h=>.cons r (append t h)
theorem one{a b}(h:R a b):aI R [a] [b]:=.cons h .nil
theorem take:∀{a}{bs} n,aI R a bs->aI R (a.take n) (bs.take n)
 |_,_,0,_=>.nil
 |_,_,n+1,.nil=>.nil
 |_,_,n+1,.cons r t=>.cons r (take n t)
theorem drop:∀{a}{bs} n,aI R a bs->aI R (a.drop n) (bs.drop n)
 |_,_,0,h=>h
 |_,_,n+1,.nil=>.nil
 |_,_,n+1,.cons r t=>drop n t
theorem reverse:∀{a}{bs},aI R a bs->aI R a.reverse bs.reverse
 |_,_,.nil=>.nil
 |_,_,.cons r t=>by rw[Ĩ,Ĩ];exact(reverse t).append (one r)
theorem nil_inv{bs}(h:aI R [] bs):bs=[]:=by cases h;rfl
theorem cons_inv{a c bs}(h:aI R (a::c) bs):∃b r,bs=b::r/\R a b/\aI R c r:=by
 cases h with
 |cons r t=>grind
end
end aI
mutual
noncomputable def aw(d:List b')(Z:b'->Prop)(H:Hp):D->V->Prop
 |.non,v=>v=.non
 |.bl b,v=>v=.bl b
 |.int i,v=>v=.int i
 |.str x,v=>v=.str x
 |.lst e,v=>∃a c,v=.ref a/\Z a/\Rd H a (.lst c)/\gc d Z H e c
 |.tup e,v=>∃a c,v=.ref a/\Z a/\H a=some (.tup c)/\gc d Z H e c
 |.dct _ _,_=>False
 |.ref n,v=>∃a,d[n]?=some a/\v=.ref a
noncomputable def gc(b:List b')(Z:b'->Prop)(H:Hp):List D->List V->Prop
 |[],a=>a=[]
 |d::c,a=>∃v r,a=v::r/\aw b Z H d v/\gc b Z H c r
end
theorem cG{f Z H}:∀{b}{a},gc f Z H b a↔aI (aw f Z H) b a
 |[],a=>⟨λh=>by subst h;exact .nil,λh=>h.nil_inv⟩
 |d::b,a=>by
  constructor
  .rintro⟨v,r,rfl,c,e⟩
   exact .cons c (cG.mp e)
  .intro h
   obtain⟨v,r,rfl,c,e⟩:=h.cons_inv;exact⟨v,r,rfl,c,cG.mpr e⟩
mutual
theorem aw.mono{i b:List b'}{Z j:b'->Prop}{H l:Hp}(p:∀(n:Nat) (a:b'),i[n]?=some a->b[n]?=some a)(k:∀a o,Z a->H a=some o->l a=some o)(z:∀a,Z a->j a):∀{d:D}{v:V},aw i Z H d v->aw b j l d v
 |.non,_,h=>by simpa only [aw]using h
 |.bl _,_,h=>by simpa only [aw]using h
 |.int _,_,h=>by simpa only [aw]using h
 |.str _,_,h=>by simpa only [aw]using h
 |.lst m,v,h=>by
  refine a8 h λa c e hz f g=>⟨a,c,e,z a hz,qI (λo=>k a o hz) f,gc.mono p k z g⟩
 |.tup m,v,h=>by
  refine a8 h λa c e hz f g=>⟨a,c,e,z a hz,k a _ hz f,gc.mono p k z g⟩
 |.dct q m,v,h=>by simp only[aw]at h
 |.ref n,v,h=>by
  simp only[aw]at h ⊢
  grind
theorem gc.mono{g b:List b'}{Z i:b'->Prop}{H j:Hp}(p:∀(n:Nat) (a:b'),g[n]?=some a->b[n]?=some a)(k:∀a o,Z a->H a=some o->j a=some o)(z:∀a,Z a->i a):∀{c:List D}{f:List V},gc g Z H c f->gc b i j c f
 |[],_,h=>by simpa only [gc]using h
 |d::c,f,h=>by
  simp only[gc]at h ⊢;refine aJ h λv r e l m=>?_
  exact⟨v,r,e,aw.mono p k z l,gc.mono p k z m⟩
end
def jJ{K}(R:D->V->Prop)(kvs:List (K×D))(a:List (K×V)):=aI (λp q=>p.1=q.1/\R p.2 q.2) kvs a
variable [h_]
def gV(g:Str->b'->Prop)(R:D->V->Prop)(H:Hp)(a:b'):Cell->Prop
 |.lst h=>∃e,H a=some (.lst e)/\aI R h e
 |.dK c=>∃b,H a=some (.dK b)/\jJ R c b
 |.dT c=>False
 |.dF c=>∃o b,H a=some (.dZ o (.dK b))/\jJ R c b
 |.ins C i=>∃f j d,g C f/\H a=some (.ins f j d)/\jJ R i d
 |_=>False
theorem jJ.imp{K R S}(h:∀d v,R d v->S d v){kvs}{c:List (K×V)}(k:jJ R kvs c):jJ S kvs c:=aI.imp (λa b q=>⟨q.1,h _ _ q.2⟩) k
theorem gV.imp{n R S H m a c}(h:∀d v,R d v->S d v)(e:∀o,H a=some o->m a=some o)(z:∀b o u,H b=some (.dZ o u)->m b=some (.dZ o u))(k:gV n R H a c):gV n S m a c:=by
 cases c with
 |lst t=>obtain⟨f,g,i⟩:=k;exact⟨f,e _ g,i.imp h⟩
 |dK l=>obtain⟨f,g,i⟩:=k;exact⟨f,e _ g,i.imp h⟩
 |dT l=>exact k.elim
 |dF l=>refine cW k λo f g i=>⟨o,f,e _ g,i.imp h⟩
 |ins C w=>refine cg k λq r f s g i=>⟨q,r,f,s,e _ g,i.imp h⟩
 |fn j sZ=>exact k.elim
 |tb j p b=>exact k.elim
variable{N4:Cell}{i:Str->b'->Prop}{x6:D->V->Prop}
theorem gV.some(k:gV i x6 e h N4):e h≠none:=by
 cases N4 with
 |lst g=>obtain⟨d,a,f⟩:=k;rw[a];simp
 |dK c=>obtain⟨d,a,f⟩:=k;rw[a];simp
 |dT c=>exact k.elim
 |dF c=>obtain⟨o,d,a,f⟩:=k;rw[a];simp
 |ins C l=>refine cg k λm n d q a f=>?_;rw[a];simp
 |fn j sZ=>exact k.elim
 |tb j p b=>exact k.elim
structure bH(κ:Str->b'->Prop)(α:List b')(Z:b'->Prop)(Ω:aG)(H:Hp):Prop where
 qQ:α.Nodup
 zH:aI (λc a=>gV κ (aw α Z H) H a c) Ω α
 sep:∀a∈α,¬ Z a
 dom:∀a,Z a->H a≠none
structure cM(α:List b')(Z:b'->Prop)(H:Hp)(α':List b')(Z':b'->Prop)(H':Hp):Prop where
 pre:∀(n:Nat) (a:b'),α[n]?=some a->α'[n]?=some a
 sub:∀a,Z a->Z' a
 new:∀a,Z' a->Z a\/H a=none
 EU:∀a∈α',a∈α\/H a=none
 frm:∀a o,H a=some o->a∉α->H' a=some o
 has:∀a∈α,H' a≠none
 dZ:∀a o u,H a=some (.dZ o u)->H' a=some (.dZ o u)
theorem cM.refl(h:∀a∈u,e a≠none):cM u n e u n e:=⟨by simp,λ_ h=>h,by simp_all,λ_ h=>.inl h,by grind,h,by simp⟩
variable{a:aG}
theorem bH.has(S:bH i u n a e):∀b∈u,e b≠none:=λb f=>by
 obtain⟨d,g⟩:=è.mp f;obtain⟨c,_,h⟩:=S.zH.ET g;exact h.some
theorem cM.none{c b Z f H d}(g:cM c Z H b f d){a}(h:d a=none):H a=none:=by
 cases q:H a with
 |none=>rfl
 |some o=>
  by_cases e:a∈c
  .exact absurd h (g.has a e)
  .rw[g.frm a o q e]at h;cases h
variable{A9 P1:b'->Prop}{D8:List b'}{P7:Hp}
theorem cM.trans(g:cM u n e A0 P1 ξ)(f:cM A0 P1 ξ D8 A9 P7):cM u n e D8 A9 P7 where
 pre:=λc a b=>f.pre c a (g.pre c a b)
 sub:=λa h=>f.sub a (g.sub a h)
 new:=λa h=>by
  rcases f.new a h with h|h
  .exact g.new a h
  .exact .inr (g.none h)
 EU:=λa h=>by
  rcases f.EU a h with h|h
  .exact g.EU a h
  .exact .inr (g.none h)
 frm:=λa o b i=>f.frm a o (g.frm a o b i) λh=>by
  rcases g.EU a h with h|h
  .exact i h
  grind
 has:=λa i=>by
  obtain⟨c,j⟩:=è.mp i;exact f.has a (Î (g.pre c a j))
 dZ:=λa o d b=>f.dZ a o d (g.dZ a o d b)
theorem bH.cP(S:bH i u n a e)(g:cM u n e A0 P1 ξ)(h:aw u n e m x):aw A0 P1 ξ m x:=
 h.mono g.pre (λb o z c=>g.frm b o c λd=>S.sep b d z) g.sub
theorem bH.lG(S:bH i u n a e)(g:cM u n e A0 P1 ξ)(h:aI (aw u n e) q N):aI (aw A0 P1 ξ) q N:=h.imp λ_ _ b=>S.cP g b
theorem bH.cell(S:bH i u n a e)(d:a[b]?=some N4):∃c,u[b]?=some c/\gV i (aw u n e) e c N4:=S.zH.get d
theorem bH.len(S:bH i u n a e):u.length=a.length:=S.zH.length
theorem bH.pG(S:bH i u n a e)(k:e h=none)(z)[Decidable z]:bH i u (if z then Zp n h else n) a (upd e h M0)/\cM u n e u (if z then Zp n h else n) (upd e h M0):=by
 have q:∀f∈u,f≠h:=λf l j=>S.has f l (j▸k)
 have p:∀f,n f->f≠h:=λf o j=>S.dom f o (j▸k)
 have g:cM u n e u (if z then Zp n h else n) (upd e h M0):=⟨λ_ _ j=>j,(λf l=>by
  split
  .exact .inl l
  .exact l),λf l=>by
   split at l
   .rcases l with l|rfl
    .exact .inl l
    simp_all
   simp_all,λ_ l=>.inl l,λf m j _=>by rwa[az (bf j k)],λf l=>by rw[az (q f l)];exact S.has f l,λf s m j=>by rwa[az (bf j k)]⟩
 refine⟨⟨S.qQ,?_,λf l o=>?_,λf l=>?_⟩,g⟩
 .refine S.zH.imp λc f t=>?_
  refine t.imp (λd v r=>S.cP g r) (λm j=>?_) λb s w j=>?_
  .rwa[az (bf j k)]
  .rwa[az (bf j k)]
 .split at o
  .rcases o with o|rfl
   .exact S.sep f l o
   grind
  .exact S.sep f l o
 .split at l
  .rcases l with l|rfl
   .rw[az (p f l)];exact S.dom f l
   .rw[aS];simp
  .rw[az (p f l)];exact S.dom f l
theorem bH.laid(S:bH i u n a e){o c}(k:e h=none)(m:∀R,(∀d v,aw u n e d v->R d v)->gV i R (upd e h o) h c):bH i (u++[h]) n (a++[c]) (upd e h o)/\cM u n e (u++[h]) n (upd e h o):=by
 have p:∀f∈u,f≠h:=λf ha j=>S.has f ha (j▸k)
 have q:∀f,n f->f≠h:=λf s j=>S.dom f s (j▸k)
 have g:cM u n e (u++[h]) n (upd e h o):=⟨λt f j=>by rwa[ã (Ç.mp j).1],λ_ k=>k,λ_ k=>.inl k,by grind,λf l j _=>by rwa[az (bf j k)],λf ha=>by rw[az (p f ha)];exact S.has f ha,λf w l j=>by rwa[az (bf j k)]⟩
 refine⟨⟨?_,?_,λf ha s=>?_,λf ha=>by rw[az (q f ha)];exact S.dom f ha⟩,g⟩
 .refine Ę.mpr ⟨S.qQ,by simp,λf ha b x=>?_⟩
  simp_all
 .refine aI.append (S.zH.imp λc f m=>?_) (.one (m _ λd v r=>S.cP g r))
  refine m.imp (λd v r=>S.cP g r) (λl j=>?_) λb w y j=>?_
  .rwa[az (bf j k)]
  .rwa[az (bf j k)]
 .rcases æ.mp ha with ha|ha
  .exact S.sep f ha s
  simp_all
theorem bH.put(S:bH i u n a e){k c}(H:u[k]?=some h)(z:∀M0 l,e h≠some (.dZ M0 l))(K:∀R,(∀d v,aw u n e d v->R d v)->gV i R (upd e h M0) h c):bH i u n (a.set k c) (upd e h M0)/\cM u n e u n (upd e h M0):=by
 have g:cM u n e u n (upd e h M0):=⟨λk f j=>j,λ_ m=>m,λ_ m=>.inl m,λf w=>.inl w,λf l j w=>by rw[az (λ(q:f=h)=>w (by rw[q];exact(Î H)))];exact j,λf w=>by
   by_cases q:f=h
   .subst q;rw[aS];simp
   .rw[az q];exact S.has f w,λf x l j=>by rw[az (λq=>z x l (by rw[←q];exact j))];exact j⟩
 refine⟨⟨S.qQ,?_,S.sep,λf w=>?_⟩,g⟩
 .have A:∀{s:List Cell}{o:List b'}{k:Nat},o.Nodup->aI (λc f=>gV i (aw u n e) e f c) s o->o[k]?=some h->aI (λc f=>gV i (aw u n (upd e h M0)) (upd e h M0) f c) (s.set k c) o:=by
   intro s o k B C
   induction C generalizing k with
   |nil=>intro j;simp at j
   |@cons M E s o r t F=>
    intro j;have p:=Ł.mp B;cases k with
    |zero=>
     simp at j;subst j;refine .cons (K _ λd v r=>S.cP g r) (aI.imp (λ_ _ q=>q) ?_)
     have:∀{s:List Cell}{o:List b'},E∉o->aI (λc f=>gV i (aw u n e) e f c) s o->aI (λc f=>gV i (aw u n (upd e E M0)) (upd e E M0) f c) s o:=by
      intro s o y C
      induction C with
      |nil=>exact .nil
      |@cons N O s o r t F=>
       refine .cons (r.imp (λd v q=>S.cP g q) (λl j=>?_) λb x G j=>?_) (F λq=>y (Ŏ _ q))
       .rw[az (λq=>y (by rw[q];simp))];exact j
       .rw[az (λq=>z x G (by rw[←q];exact j))];exact j
     exact this p.1 t
    |succ k=>
     have I:=by simpa using j
     refine .cons (r.imp (λd v q=>S.cP g q) (λl L=>?_) λb x G J=>?_) (F p.2 I)
     .rw[az (λq=>p.1 (by rw[q];exact Î I))];exact L
     .rw[az (λq=>z x G (by rw[←q];exact J))];exact J
  exact A S.qQ S.zH H
 .by_cases q:f=h
  .subst q;rw[aS];simp
  .rw[az q];exact S.dom f w
abbrev iP:=D->aG->List b'->(b'->Prop)->Hp->Prop
def b_(f:Str->b'->Prop)(Φ:iP)(g:List b')(Z:b'->Prop)(H)(r:ay D)(Q:VK):=match r with
 |.ok d b=>∀v c a e,cM g Z H a e c->bH f a e b c->aw a e c d v->Q v c
 |.exc x b=>∀c a e,cM g Z H a e c->bH f a e b c->Φ x b a e c
 |.bad=>False
structure cS(κ:Str->b'->Prop)(Y9:List b')(Z0:b'->Prop)(H0:Hp)(α:List b')(Z:b'->Prop)(Ω:aG)(ρ:bo)(σ:L2.St)(H:Hp):Prop where
 st:bH κ α Z Ω H
 gr:cM Y9 Z0 H0 α Z H
 len:σ.length=ρ.length
 val:∀(i:Nat) (d:D),ρ[i]?=some (some d)->∃v,σ[i]?=some (some v)/\aw α Z H d v
abbrev EM:=bo->aG->ay D
noncomputable def tO(b:Str->b'->Prop)(Φ:iP)(a:List b')(f:b'->Prop)(g:Hp)(m:EM)(c:bo)(d:aG):TE:=λh H Q=>
 ∃e Z,cS b a f g e Z d c h H/\b_ b Φ e Z H (m c d) Q
def bt(X)(b:Str->b'->Prop)(Φ e m):=∀a c d f g,PE X e (tO b Φ a c d m f g)
variable{r:iP}{v4:ay D}
theorem b_.from(g:cM u n e A0 P1 ξ)(h:b_ i r u n e v4 η):b_ i r A0 P1 ξ v4 η:=by
 cases v4 with
 |ok d a=>exact λv b c f j=>h v b _ f (g.trans j)
 |exc x a=>exact λb c f j=>h b _ f (g.trans j)
 |bad=>exact h
variable{Q7:D->aG->ay D}
theorem b_.use{Q}(h:b_ i r u n e (v4.bind Q7) Q)(k:∀d a,v4=.ok d a->∀v c b f,cM u n e b f c->bH i b f a c->aw b f c d v->b_ i r b f c (Q7 d a) Q->η v c):b_ i r u n e v4 η:=by
 cases v4 with
 |ok d a=>exact λv c b f g s q=>k d _ rfl v c _ f g s q (b_.from g h)
 |exc x a=>exact h
 |bad=>exact h
def b_.ret(S:bH i u n a e)(q:aw u n e m x)(h:b_ i r u n e (.ok m a) η):=h x e u n (cM.refl S.has) S q
variable{T:aG}{t:bo}
theorem cS.grow(S:cS i D8 A9 P7 u n a t o0 e)(g:cM u n e A0 P1 ξ)(s:bH i A0 P1 T ξ):cS i D8 A9 P7 A0 P1 T t o0 ξ:=
 ⟨s,S.gr.trans g,S.len,λb d c=>bD (S.val b d c) λv f h=>⟨v,f,S.st.cP g h⟩⟩
theorem a4(h:iW m=some x):aw u n e m x:=by
 cases m<;>first|cases h;simp only[aw]|cases h
theorem wL(h:gQ m=true):∃v,iW m=some v:=by
 cases m<;>first|exact⟨_,rfl⟩|cases h
theorem ei(h:iW m=some D1)(r:Rep n e m x):x=D1:=by
 cases m<;>first | (cases h;simpa only [Rep]using r)|cases h
noncomputable def cm{a b:Type}(f:a->Option b):List a->Option (List b)
 |[]=>some []
 |x::c=>match f x,cm f c with
  |some y,some d=>some (y::d)
  |_,_=>none
def gJ(c:aG):Nat->D->Option D
 |_,.non=>some .non
 |_,.bl b=>some (.bl b)
 |_,.int i=>some (.int i)
 |_,.str x=>some (.str x)
 |0,_=>none
 |n+1,.lst a=>(cm (gJ c n) a).map .lst
 |n+1,.tup a=>(cm (gJ c n) a).map .tup
 |n+1,.ref k=>match c[k]? with
  |some (.lst a)=>(cm (gJ c n) a).map .lst
  |_=>none
 |_+1,.dct _ _=>none
def Bt(b:List b')(Z:b'->Prop):=λa=>Z a\/a∈b
theorem fw{f R S}(g:∀d e v,f d=some e->R d v->S e v):∀{c a:List D}{b:List V},cm f c=some a->aI R c b->aI S a b
 |[],a,b,h,r=>by cases h;rw[r.nil_inv];exact .nil
 |d::c,a,b,h,r=>by
  simp only[cm]at h;split at h
  .rename_i y l m i
   cases h;obtain⟨v,j,rfl,n,k⟩:=r.cons_inv;exact .cons (by grind) (fw g i k)
  .cases h
theorem ia{Z H}:∀{a}{b},aI (Rep Z H) a b->bq Z H a b
 |_,_,.nil=>.nil
 |_,_,.cons r t=>.cons r (ia t)
theorem jK(S:bH i u n a e):∀c {d f}{v},gJ a c d=some f->aw u n e d v->Rep (Bt u n) e f v:=by
 intro c
 induction c with
 |zero=>
  intro d f v h r;cases d<;>first | (cases h;simpa only [Rep,aw]using r)|cases h
 |succ c o=>
  intro d f v h r;cases d with
  |lst w=>
   obtain⟨x,g,rfl⟩:=å.mp h;obtain⟨b,j,rfl,p,s,l⟩:=r;exact⟨b,j,rfl,.inl p,s,ia (fw (S:=Rep _ e) (λd f v q r=>o q r) g (cG.mp l))⟩
  |tup w=>
   obtain⟨x,g,rfl⟩:=å.mp h;obtain⟨b,j,rfl,p,s,l⟩:=r;exact⟨b,j,rfl,.inl p,.inl s,ia (fw (S:=Rep _ e) (λd f v q r=>o q r) g (cG.mp l))⟩
  |ref k=>
   simp only[gJ]at h;split at h
   .rename_i w y
    obtain⟨x,g,rfl⟩:=å.mp h;refine bD (S.cell y) λb z t=>bD t λj A l=>?_
    obtain⟨B,m,rfl⟩:=r;rw[z]at m;cases m;exact⟨b,j,rfl,.inr (by grind),.inl A,ia (fw (S:=Rep _ e) (λd f v q r=>o q r) g l)⟩
   .cases h
  |dct _ _=>cases h
  |_=>cases h;simpa only [Rep,aw]using r
theorem dP(S:bH i u n a e):∀b,Bt u n b->e b≠none:=λb h=>h.elim (S.dom b) (S.has b)
theorem bH.same(S:bH i u n a e)(h:mU e ξ):bH i u n a ξ/\cM u n e u n ξ:=by
 have g:cM u n e u n ξ:=⟨by simp,λ_ z=>z,by simp_all,λ_ z=>.inl z,λf o j _=>h f o j,λf l=>by
  cases q:e f with
  |none=>exact absurd q (S.has f l)
  |some o=>rw[h f o q];simp,λf o k j=>h f _ j⟩
 refine⟨⟨S.qQ,S.zH.imp λc f m=>m.imp (λd v r=>S.cP g r) (λo j=>h f o j) λb o k j=>h b _ j,S.sep,λf z=>?_⟩,g⟩
 cases q:e f with
 |none=>exact absurd q (S.dom f z)
 |some o=>rw[h f o q];simp
theorem bH.adopt(S:bH i u n a e)(j:mU e ξ)(p:e h=none)(l:∀R,(∀d v,aw u n ξ d v->R d v)->gV i R ξ h N4):bH i (u++[h]) n (a++[N4]) ξ/\cM u n e (u++[h]) n ξ:=by
 obtain⟨q,m⟩:=S.same j;have s:∀c∈u,c≠h:=λc ha f=>S.has c ha (f▸p)
 have t:∀c,n c->c≠h:=λc o f=>S.dom c o (f▸p)
 have k:∀(g:Nat) (c:b'),u[g]?=some c->(u++[h])[g]?=some c:=λg c f=>by rwa[ã (by grind)]
 have mono:∀d v,aw u n ξ d v->aw _ n ξ d v:=λd v r=>r.mono k (λ_ _ _ f=>f) λ_ z=>z
 refine⟨⟨?_,?_,λc ha o=>?_,q.dom⟩,⟨k,λ_ z=>z,by grind,λc ha=>?_,m.frm,m.has,m.dZ⟩⟩
 .refine Ę.mpr ⟨S.qQ,by simp,λc ha b w=>?_⟩
  simp_all
 .exact aI.append (q.zH.imp λN4 c l=>l.imp mono (λ_ f=>f) (by simp)) (.one (l _ mono))
 .rcases æ.mp ha with ha|ha
  .exact S.sep c ha o
  simp_all
 grind
noncomputable def iQ(a:aG)(c:Cell):ay D:=.ok (.ref a.length) (a++[c])
def gW(b:aG):Out Rs->ay D
 |.ok (a,d)=>if gQ d then .ok d b else match a,d with
  |true,.lst c=>if c.all gQ then iQ b (.lst c)else .bad
  |_,_=>.bad
 |_=>.bad
theorem gf(S:bH i u n a e)(p):aw (u++[p]) n ξ (.ref a.length) (.ref p):=⟨p,by rw[←S.len];simp,rfl⟩
theorem pH{e Z f H g}:∀{a}{b},a.all gQ=true->bq f g a b->aI (aw e Z H) a b
 |[],b,_,r=>by rw[r.nil_inv];exact .nil
 |d::a,b,h,r=>by
  obtain⟨v,i,rfl,j,k⟩:=r.cons_inv;simp only[į,Ú]at h;obtain⟨w,c⟩:=wL h.1;obtain rfl:=ei c j;exact .cons (a4 c) (pH h.2 k)
theorem jL{j}(S:bH i u n a e)(h:b_ i r u n e (gW a j) η):∃l d,j=.ok (l,d)/\∀b k z m,eY z e m k->eZ v l m e k d b->η b k:=by
 cases j with
 |ok q=>
  obtain⟨l,d⟩:=q;refine⟨_,d,rfl,λb k z m g q=>?_⟩
  simp only[gW]at h;split at h
  .rename_i A
   obtain⟨w,p⟩:=wL A
   have B:=by
    have f:=q.nw;cases d with
    |non=>exact ei (n:=m) (e:=k) p f
    |bl _=>exact ei (n:=m) (e:=k) p f
    |int _=>exact ei (n:=m) (e:=k) p f
    |str _=>exact ei (n:=m) (e:=k) p f
    |_=>cases A
   subst B;obtain⟨s,t⟩:=S.same g.same;exact h b k u n t s (a4 p)
  .split at h
   .rename_i C D
    split at h
    .rename_i x
     refine fh q λo E F G y H K I J=>?_;subst y
     cases G;obtain⟨s,t⟩:=S.adopt (N4:=.lst C) g.same H (λR hR=>⟨E,I,(pH x J).imp hR⟩)
     exact h _ k _ n t s (gf S o)
    .exact h.elim
   .exact h.elim
 |exc c L=>exact h.elim
 |bad=>exact h.elim
def m1(f:D->aG->ay D)(a:EM):EM:=λb c=>(a b c).bind f
def m2(f:D->D->aG->ay D)(d e:EM):EM:=λc g=>(d c g).bind λx a=>(e c a).bind λy b=>f x y b
noncomputable def jj(a b:ay D):=match a with
 |.bad=>b
 |r=>r
def EV(f g:D->aG->ay D):=λx a=>jj (f x a) (g x a)
def e_(f g:D->D->aG->ay D):=λx y a=>jj (f x y a) (g x y a)
def iR(f g:EM):EM:=λa b=>jj (f a b) (g a b)
def kC(f:D->Out Rs):D->aG->ay D:=λx a=>match gJ a 8 x with
 |some b=>gW a (f b)
 |none=>.bad
def iS(f:D->D->Out Rs):D->D->aG->ay D:=λx y a=>match gJ a 8 x,gJ a 8 y with
 |some b,some c=>gW a (f b c)
 |_,_=>.bad
def ib(b:aG):D->Option Bool
 |.ref k=>match b[k]? with
  |some (.lst c)=>some (!c.isEmpty)
  |some (.dK a)=>some (!a.isEmpty)
  |_=>none
 |d=>lT d
def dk:ay D->ay Bool
 |.ok d a=>match ib a d with
  |some b=>.ok b a
  |none=>.bad
 |.exc x a=>.exc x a
 |.bad=>.bad
def rS(f:Str->b'->Prop)(Φ:iP)(g:List b')(Z:b'->Prop)(H)(r:ay Bool)(Q:Bool->Hp->Prop):=match r with
 |.ok b c=>∀d a e,cM g Z H a e d->bH f a e c d->Q b d
 |.exc x c=>∀d a e,cM g Z H a e d->bH f a e c d->Φ x c a e d
 |.bad=>False
def TK(b:Str->b'->Prop)(Φ:iP)(a:List b')(f:b'->Prop)(g:Hp)(m:EM)(c:bo)(d:aG):TT:=λh H Q=>∃e Z,cS b a f g e Z d c h H/\rS b Φ e Z H (dk (m c d)) Q
def gg(X)(b:Str->b'->Prop)(Φ e m):=∀a c d f g,PT X e (TK b Φ a c d m f g)
abbrev AM:=bo->aG->ay (List D)
def oE(e:Str->b'->Prop)(Φ:iP)(f:List b')(Z:b'->Prop)(H)(r:ay (List D))(Q:List V->Hp->Prop):=match r with
 |.ok h b=>∀g c a d,cM f Z H a d c->bH e a d b c->aI (aw a d c) h g->Q g c
 |.exc x b=>∀c a d,cM f Z H a d c->bH e a d b c->Φ x b a d c
 |.bad=>False
noncomputable def Y_(b:Str->b'->Prop)(Φ:iP)(a:List b')(f:b'->Prop)(g:Hp)(m:AM)(c:bo)(d:aG):TA:=λh H Q=>∃e Z,cS b a f g e Z d c h H/\oE b Φ e Z H (m c d) Q
def s_(X)(b:Str->b'->Prop)(Φ)(c:List x')(m):=∀a d e f g,PA X c (Y_ b Φ a d e m f g)
noncomputable def ag:AM:=λ_ a=>.ok [] a
def ae(a:EM)(e:AM):AM:=λd f=>(a d f).bind λx b=>(e d b).bind λg c=>.ok (x::g) c
def mN(f:List D->aG->ay D)(a:AM):EM:=λb c=>(a b c).bind f
variable{J7:List V->Hp->Prop}{t8:ay (List D)}
theorem oE.from(g:cM u n e A0 P1 ξ)(h:oE i r u n e t8 J7):oE i r A0 P1 ξ t8 J7:=by
 cases t8 with
 |ok d a=>exact λv b c f j=>h v b _ f (g.trans j)
 |exc x a=>exact λb c f j=>h b _ f (g.trans j)
 |bad=>exact h
variable{L8:Bool->Hp->Prop}{W8:ay Bool}
theorem rS.from(g:cM u n e A0 P1 ξ)(h:rS i r u n e W8 L8):rS i r A0 P1 ξ W8 L8:=by
 cases W8 with
 |ok d a=>exact λb c f j=>h b _ f (g.trans j)
 |exc x a=>exact λb c f j=>h b _ f (g.trans j)
 |bad=>exact h
variable{F6:List D->aG->ay D}
theorem oE.use{Q}(h:b_ i r u n e (t8.bind F6) Q)(k:∀j a,t8=.ok j a->∀l c b f,cM u n e b f c->bH i b f a c->aI (aw b f c) j l->b_ i r b f c (F6 j a) Q->J7 l c):oE i r u n e t8 J7:=by
 cases t8 with
 |ok d a=>exact λv c b f g s q=>k d _ rfl v c _ f g s q (b_.from g h)
 |exc x a=>exact h
 |bad=>exact h
theorem PE.or(h:PE c j π)(b:PE c j Q2):PE c j (λa H Q=>π a H Q\/Q2 a H Q):=λpins s a H Q I q=>q.elim (h _ s a H Q I) (b _ s a H Q I)
theorem PT.or(h:PT c j E3)(b:PT c j W6):PT c j (λa H Q=>E3 a H Q\/W6 a H Q):=λpins s a H Q I q=>q.elim (h _ s a H Q I) (b _ s a H Q I)
variable{V8:ay D}
theorem pI:jj v4 V8=v4\/(v4=.bad/\jj v4 V8=V8):=by cases v4<;>simp[jj]
variable{X p:EM}
theorem bt.alt(h:bt c i r j p)(l:bt c i r j X):bt c i r j (iR p X):=by
 intro a e f b d;refine PE.imp (PE.or (h a e f b d) (l a e f b d)) ?_;rintro m H Q ⟨k,Z,S,g⟩;rcases pI (v4:=p b d)with q|⟨_,q⟩
 .exact .inl ⟨k,Z,S,by rwa[←q]⟩
 .exact .inr ⟨k,Z,S,by rwa[←q]⟩
theorem gg.alt(h:gg c i r j p)(l:gg c i r j X):gg c i r j (iR p X):=by
 intro a e f b d;refine PT.imp (PT.or (h a e f b d) (l a e f b d)) ?_;rintro m H Q ⟨k,Z,S,g⟩;rcases pI (v4:=p b d)with q|⟨_,q⟩
 .exact .inl ⟨k,Z,S,by rwa[←q]⟩
 .exact .inr ⟨k,Z,S,by rwa[←q]⟩
variable{P6:D->D->aG->ay D}
theorem gK{g}:m2 (e_ P6 g) p X=iR (m2 P6 p X) (m2 g p X):=by
 funext b a
 simp only[m2,iR];cases p b a with
 |ok x c=>
  simp only[ay.bind];cases X b _ with
  |ok y d=>rfl
  |exc x a=>rfl
  |bad=>rfl
 |exc x a=>rfl
 |bad=>rfl
theorem Jo{g}:m1 (EV Q7 g) p=iR (m1 Q7 p) (m1 g p):=by
 funext b a
 simp only[m1,iR];cases p b a with
 |ok x c=>rfl
 |exc x a=>rfl
 |bad=>rfl
theorem jM{wM:V->Hp->VK->Prop}(h:∀e,PE c j e->PE c O λf H Q=>e f H λx l=>wM x l Q)(m:bt c i r j p)(s:∀k x a Z b H Q,bH i a Z b H->aw a Z H k x->b_ i r a Z H (Q7 k b) Q->wM x H Q):bt c i r O (m1 Q7 p):=by
 intro d n o q b;refine PE.imp (h _ (m d n o q b)) ?_;rintro f H Q ⟨a,Z,S,g⟩;refine⟨a,Z,S,g.use (by grind)⟩
variable{d5:R2}
theorem dQ(h:∀s tb,PE c j s->PE c O tb->PE c y2 (LJ d5 s tb))(n:bt c i r j p)(o:bt c i r O X)(D:∀t u x y b Z e H Q,bH i b Z e H->aw b Z H t x->aw b Z H u y->b_ i r b Z H (P6 t u e) Q->d5 x y H Q):bt c i r y2 (m2 P6 p X):=by
 intro a k l f e;rcases q:p f e with ⟨d,m⟩|⟨x,m⟩|_
 .refine PE.imp (h _ _ (n a k l f e) (o a k l f m)) ?_
  rintro z H Q ⟨b,Z,S,g⟩;refine⟨b,Z,S,b_.use g λY A B v H1 E F G C I J=>?_⟩
  rw[q]at B;cases B;refine⟨_,F,S.grow G C,J.use λK L _ w M N P R T U V=>D d K v w _ P _ M Q T (C.cP R I) U V⟩
 .refine PE.imp (h _ _ (n a k l f e) (o a k l f e)) ?_
  rintro z H Q ⟨b,Z,S,g⟩;refine⟨b,Z,S,?_⟩;simp only[m2,q,ay.bind]at g ⊢;exact g
 .refine PE.imp (h _ _ (n a k l f e) (o a k l f e)) ?_
  rintro z H Q ⟨b,Z,S,g⟩;simp only[m2,q,ay.bind]at g;exact g.elim
variable{v9:D->Out Rs}
theorem nz(S:bH i u n a e)(o:aw u n e m x)(h:b_ i r u n e (kC v9 m a) η):
  ∃d c g,Now (Bt u n) e d x/\v9 d=.ok (c,g)/\∀b j l,eY (Bt u n) e l j->eZ v c l e j g b->η b j:=by
 unfold kC at h;split at h
 .rename_i d p
  refine cW (jL (v:=v) S h) λc g f k=>⟨d,_,g,(jK S 8 p o).now,f,by grind⟩
 .exact h.elim
variable{x9:D->D->Out Rs}
theorem ic(S:bH i u n a e)(o:aw u n e m x)(p:aw u n e Y D1)(h:b_ i r u n e (iS x9 m Y a) η):
  ∃d b f g,Now (Bt u n) e d x/\Now (Bt u n) e b D1/\x9 d b=.ok (f,g)/\∀c j l,eY (Bt u n) e l j->eZ v f l e j g c->η c j:=by
 unfold iS at h;split at h
 .rename_i d b q s
  refine cW (jL (v:=v) S h) λf g t k=>⟨d,b,_,g,(jK S 8 q o).now,(jK S 8 s p).now,t,by grind⟩
 .exact h.elim
theorem wN(k:c.N[b]?=some d)(m:rV c.env.scope d)(e:(d==("__debug__"))=false)(f:(d==("__classdict__"))=false):bt c i r (.Name d l) (λh j=>match h[b]? with|some (some a)=>.ok a j|_=>.bad):=by
 intro n q s h j;refine PE.imp (g_ k m e f) ?_;rintro t H Q ⟨u,Z,S,g⟩;dsimp only at g;split at g
 .rename_i a e
  obtain⟨v,o,p⟩:=S.val b a e;exact⟨v,o,b_.ret S.st p g⟩
 .exact g.elim
theorem gM(h:PE c j (tC x))(b:iW m=some x):bt c i r j (λ_ a=>.ok m a):=by
 intro d e f k a;refine PE.imp h ?_;rintro l H Q ⟨n,Z,S,g⟩;exact b_.ret S.st (a4 b) g
noncomputable def dm(b:aG):D->Option (List D)
 |.ref k=>match b[k]? with
  |some (.lst a)=>some a
  |_=>none
 |.lst a=>some a
 |_=>none
theorem bz(S:bH i u n a e)(r:aw u n e m x)(h:dm a m=some q):∃b c,x=.ref b/\Rd e b (.lst c)/\aI (aw u n e) q c:=by
 cases m with
 |ref k=>
  simp only[dm]at h;split at h
  .rename_i l o
   cases h;obtain⟨b,p,rfl⟩:=r;refine bD (S.cell o) λs d f=>bD f λc g j=>?_
   rw[p]at d;cases d;exact⟨b,c,rfl,.inl g,j⟩
  .cases h
 |lst t=>
  cases h;obtain⟨b,c,rfl,_,g,j⟩:=r;exact⟨b,c,rfl,g,cG.mp j⟩
 |_=>cases h
theorem ej(r:aw u n e (.tup q) x):∃a c,x=.ref a/\n a/\e a=some (.tup c)/\aI (aw u n e) q c:=by
 refine a8 r λa c b d f g=>⟨a,c,b,d,f,cG.mp g⟩
def eL(S:bH i u n a e)(b:aI (aw u n e) q N)(k:b_ i r u n e (iQ a (.lst q)) η):=λp d=>by
 obtain⟨f,g⟩:=S.laid (c:=.lst q) d λR hR=>⟨N,aS,b.imp hR⟩
 exact k _ _ _ n g f (gf S p)
def tf(S:bH i u n a e)(b:aI (aw u n e) q N)(k:b_ i r u n e (.ok (.tup q) a) η):=λp d=>by
 obtain⟨f,c⟩:=S.pG d True;refine k _ _ _ _ c f ⟨p,N,rfl,.inr rfl,aS,cG.mpr (S.lG c b)⟩
theorem mv:s_ c i r [] ag:=by
 intro a d e f h;refine PA.imp kj ?_;rintro j H Q ⟨b,Z,S,g⟩;exact g [] H b Z (cM.refl S.st.has) S.st .nil
variable{u0:AM}
theorem jN(m:bt c i r j p)(n:s_ c i r I u0)(o:F' (j::I) c.env=(false,eval j c.env)::F' I c.env):s_ c i r (j::I) (ae p u0):=by
 intro a e f b h;rcases q:p b h with ⟨d,k⟩|⟨x,k⟩|_
 .refine PA.imp (eD (m a e f b h) (n a e f b k) o) ?_
  rintro u H Q ⟨l,Z,S,g⟩;refine⟨l,Z,S,?_⟩;simp only[ae,q,ay.bind]at g ⊢;intro v G A B w y C;refine⟨_,B,S.grow w y,?_⟩;have g:=oE.from w g
  rcases s:u0 b _ with ⟨J,t⟩|⟨x,t⟩|_
  .rw[s]at g
   intro K L D M z E F;exact g _ _ _ _ z E (.cons (y.cP z C) F)
  .rwa[s]at g
  .rwa[s]at g
 .refine PA.imp (eD (m a e f b h) (n a e f b h) o) ?_
  rintro u H Q ⟨l,Z,S,g⟩;refine⟨l,Z,S,?_⟩;simp only[ae,q,ay.bind]at g ⊢;exact g
 .refine PA.imp (eD (m a e f b h) (n a e f b h) o) ?_
  rintro u H Q ⟨l,Z,S,g⟩;simp only[ae,q,ay.bind]at g;exact g.elim
def aV(a:List D)(b):=if small a.length then iQ b (.lst a)else .bad
def kD(a:List D)(b:aG):ay D:=if small a.length then .ok (.tup a) b else .bad
theorem EW(h:s_ c i r I u0):bt c i r (.List I l) (mN aV u0):=by
 intro b e f j k;refine PE.imp (IW (h b e f j k)) ?_;rintro s H Q ⟨m,Z,S,g⟩;refine⟨m,Z,S,oE.use g λt n _ u w o x y p d a=>?_⟩
 unfold aV at a;split at a
 .rename_i q
  exact⟨by rw[d.length];exact bK q,eL p d a⟩
 .exact a.elim
theorem EX{x1}(h:s_ c i r I u0):bt c i r (.Tuple I x1 l) (mN kD u0):=by
 intro b e f j k;refine PE.imp (IV (h b e f j k)) ?_;rintro s H Q ⟨m,Z,S,g⟩;refine⟨m,Z,S,oE.use g λt n _ u w o x y p d a=>?_⟩
 unfold kD at a;split at a
 .rename_i q
  exact⟨by rw[d.length];exact bK q,tf p d a⟩
 .exact a.elim
def va(x y:D)(a:aG):ay D:=match dm a x,dm a y with
 |some b,some c=>if small (b.length+c.length)then iQ a (.lst (b++c))else .bad
 |_,_=>.bad
def a7(op:ő):=match op with
 |.Add=>e_ va (iS (gU .Add))
 |op=>iS (gU op)
theorem EY(o:bt c i r j p)(q:bt c i r O X):bt c i r (.BinOp j d9 O l) (m2 (a7 d9) p X):=by
 have E:bt c i r (.BinOp j d9 O l) _:=dQ (λu tb b f=>zR (uR d9) b f) o q λw z x y A Z B H Q S h m g=>by
  obtain⟨d,e,D,T,F,G,I,k⟩:=ic S h m g;exact Jd (v:=false) F G (dP S) I k
 have C:d9=.Add->bt c i r (.BinOp j d9 O l) (m2 va p X):=λe=>by
  subst e;refine dQ (λu tb b f=>zR (uR _) b f) o q λw z x y A Z B H Q S h m g=>?_
  unfold va at g;split at g
  .rename_i U V J K
   obtain⟨a,L,rfl,M,s⟩:=bz S h J;obtain⟨n,N,rfl,P,t⟩:=bz S m K;split at g
   .rename_i R
    exact .inr (.inr ⟨a,n,L,N,rfl,rfl,M,P,by rw[s.length,t.length];exact bK R,eL S (s.append t) g⟩)
   .exact g.elim
  .exact g.elim
 cases d9 with
 |Add=>show bt c i r _ (m2 (e_ _ _) p X);rw[gK];exact(C rfl).alt E
 |_=>exact E
def qR:=kC λx=>match x with|.int i=>.ok (false,.int (-i))|_=>.bad
theorem EZ(b:bt c i r j p):bt c i r (.UnaryOp .USub j l) (m1 qR p):=
 jM (λn e=>Mj IS e) b λo x q Z s H Q S f g=>by
  obtain⟨d,h,t,m,a,k⟩:=nz (v:=false) S f g;split at a
  .cases bG m
   cases a;exact⟨_,rfl,k _ H _ (eY.refl (dP S)) (.rep (fq rfl))⟩
  .cases a
end Mir
namespace Mir
open PySem PySem.Spec PyProof.Rows L2
noncomputable def bX{a b:Type}[DecidableEq a](kvs:List (a×b))(k):=(kvs.find? λc=>decide (c.1=k)).map (·.2)
def oF(a b:List (Key×D)):=(a.length==b.length)&&a.all λc=>match bX b c.1 with|some v=>eJ c.2 v|none=>false
def qS(Z:b'->Prop)(H:Hp):List (Key×D)->List (Key×V)->Prop:=í λd a=>d.1=a.1/\Now Z H d.2 a.2/\aP 8 d.2=true
variable{E4:List (Key×V)}{P:List (Key×D)}{e:Hp}{n:b'->Prop}
theorem Bu(h:qS n e P E4)(k):(∀d,bX P k=some d->∃v,lR E4 k=some v/\Now n e d v/\aP 8 d=true)/\(bX P k=none->lR E4 k=none):=by
 unfold qS at h
 induction h with
 |nil=>exact⟨λd h=>by simp[bX]at h,λ_=>rfl⟩
 |@cons p q P E4 c _ f=>
  obtain⟨b,g,i⟩:=c
  by_cases a:p.1=k
  .rw[mS (b▸a)]
   have:bX (p::P) k=some p.2:=by simp[bX,Ī,a]
   rw[this];exact⟨λd j=>by cases j;exact⟨_,rfl,g,i⟩,λz=>nomatch z⟩
  .rw[mT (λz=>a (b.trans z))]
   have:bX (p::P) k=bX P k:=by simp[bX,Ī,a]
   rw[this];exact f
variable{G6:List (Key×D)}{J:Ï}{c:Cx}{o:g'}{o0:L2.St}{z:List (b'×Obj)}
theorem keq_hits{j b}(I:Inv c z o0 e o)(u:J.units+8<È)(x:qS n e G6 j)(A:KV j b)(k:qS n e P E4):∀{g},KV E4 g->PySem.W.KeqHits J o b g (P.all λl=>match bX G6 l.1 with|some v=>eJ l.2 v|none=>false):=by
 unfold qS at k
 induction k with
 |nil=>intro g h;cases h;exact .nil
 |@cons p q P E4 B _ C=>
  intro g h;cases h with
  |@cons _ w _ D E i=>
  obtain⟨F,G,m⟩:=B;obtain⟨H,K⟩:=E;have a:=A.val p.1;have r:=Bu x p.1;rw[į];obtain⟨L,M⟩:=w;have N:L=p.1:=H.symm.trans F.symm;subst N;cases s:bX G6 p.1 with
  |none=>
   rw[r.2 s]at a
   have:Ġ b p.1=none:=by
    cases f:Ġ b p.1 with
    |none=>rfl
    |some y=>rw[f]at a;cases a
   exact .miss this
  |some d=>
   obtain⟨v,O,Q,t⟩:=r.1 d s;rw[O]at a;cases f:Ġ b p.1 with
   |none=>rw[f]at a;cases a
   |some y=>
    rw[f]at a;have R:RelV v y:=a;exact .hit f (hY I 8 J p.2 d M y u m t (fH I G K m) (fH I Q R t)) (C i)
def Jp(c:Bool):R2:=λx y H Q=>∃Z a b f g d e,x=.ref a/\y=.ref b/\Rd H a (.dK f)/\Rd H b (.dK g)/\qS Z H d f/\qS Z H e g/\Q (.bl (if c then !oF d e else oF d e)) H
def jO(h:qS n e P E4):=ũ h
theorem Bv(w:c.A.units+64<È):jt c (Þ .Eq) (Jp false):=by
 intro pins s z H x y u v Q I k l h;obtain⟨Z,a,b,B,C,m,n,rfl,rfl,o,p,f,g,q⟩:=h;cases (show u=Ü a from k)
 cases (show v=Ü b from l)
 obtain⟨_,r,D,i,d⟩:=fX I.hok o;obtain⟨_,t,E,j,e⟩:=fX I.hok p;refine PySem.W.keq_eq r t d e (by omega) (λ_=>keq_hits I (by show c.A.units+1+8<È;omega) g j f i) ⟨.bl (oF m n),H,I,?_,q⟩
 show Ϝ _=.bool _
 unfold oF;rw[jO f,jO g,i.length,j.length]
theorem Bw(w:c.A.units+64<È):jt c (Þ .NotEq) (Jp true):=by
 intro pins s z H x y u v Q I k l h;obtain⟨Z,a,b,B,C,m,n,rfl,rfl,o,p,f,g,q⟩:=h;cases (show u=Ü a from k)
 cases (show v=Ü b from l)
 obtain⟨_,r,D,i,d⟩:=fX I.hok o;obtain⟨_,t,E,j,e⟩:=fX I.hok p;refine PySem.W.keq_ne r t d e (by omega) (λ_=>keq_hits I (by show c.A.units+1+8<È;omega) g j f i) ⟨.bl (!oF m n),H,I,?_,q⟩
 show Ϝ _=.bool _
 unfold oF;rw[jO f,jO g,i.length,j.length]
variable [h_]
noncomputable def d4{b c:Type}[DecidableEq b](kvs:List (b×c))(k v):=
 if (kvs.any λa=>decide (a.1=k))=true then kvs.map (λa=>if a.1=k then (a.1,v)else a)else kvs++[(k,v)]
variable{m:D}{x:V}
section
variable{κ:Type}[DecidableEq κ]{R:D->V->Prop}
theorem jJ.val{kvs a}(h:jJ R kvs a)(k:κ):(∀d,bX kvs k=some d->∃v,lR a k=some v/\R d v)/\(bX kvs k=none->lR a k=none):=by
 induction h with
 |nil=>exact⟨λd e=>(by cases e),λ_=>rfl⟩
 |@cons p q b g r t i=>
  obtain⟨c,j⟩:=r
  by_cases e:p.1=k
  .have f:bX (p::b) k=some p.2:=by simp[bX,Ī,e]
   rw[mS (c▸e)]
   simp_all
  .have f:bX (p::b) k=bX b k:=by simp[bX,Ī,e]
   rwa[f,mT (λz=>e (c.trans z))]
theorem jJ.any{kvs a}(h:jJ R kvs a)(k:κ):(a.any λb=>decide (b.1=k))=kvs.any λb=>decide (b.1=k):=by
 induction h with
 |nil=>rfl
 |@cons p q c d r t e=>simp_all
theorem jJ.put{kvs a}(h:jJ R kvs a)(k:κ)(r:R m x):jJ R (d4 kvs k m) (putK a k x):=by
 unfold d4 putK;rw[h.any];split
 .rename_i b
  clear b
  induction h with
  |nil=>exact .nil
  |@cons p q d f g t c=>
   refine .cons ?_ c
   by_cases e:p.1=k
   .simp_all
   simp_all
 .exact aI.append h (.one ⟨rfl,r⟩)
theorem jJ.length{kvs:List (κ×D)}{a}(h:jJ R kvs a):a.length=kvs.length:=aI.length h
end
noncomputable def vb:D->Option Key
 |.int i=>some (.inl i)
 |.str x=>some (.inr x)
 |_=>none
variable{N7:Key}{u:List b'}
theorem jP(h:vb m=some N7)(r:aw u n e m x):x=kV N7:=by
 cases m with
 |int i=>cases h;exact r
 |str i=>cases h;exact r
 |_=>cases h
def yN(b:aG)(x y:D):=match x with
 |.ref k=>match b[k]? with
  |some (.dK a)=>(vb y).map (bX a)
  |some (.dF a)=>(vb y).map (bX a)
  |_=>none
 |_=>none
variable{D1:V}{Y:D}{a:aG}{d0:Option D}{i:Str->b'->Prop}
theorem th(S:bH i u n a e)(A:aw u n e m x)(y:aw u n e Y D1)(h:yN a m Y=some d0):∃b l,x=.ref b/\qA e b D1 l/\(∀d,d0=some d->∃c,l=some c/\aw u n e d c)/\(d0=none->l=none):=by
 cases m with
 |ref k=>
  simp only[yN]at h;obtain⟨b,z,rfl⟩:=A;split at h
  .rename_i o p
   obtain⟨j,q,rfl⟩:=å.mp h;obtain⟨B,f,g,r,s⟩:=S.cell p;rw[z]at f;cases f
   obtain rfl:=jP q y;obtain⟨t,w⟩:=s.val j;exact⟨b,_,rfl,qA.k r,t,w⟩
  .rename_i o p
   obtain⟨j,q,rfl⟩:=å.mp h;obtain⟨B,f,C,g,r,s⟩:=S.cell p;rw[z]at f;cases f
   obtain rfl:=jP q y;obtain⟨t,w⟩:=s.val j;exact⟨b,_,rfl,.inl ⟨_,j,.inr ⟨C,r⟩,rfl,rfl⟩,t,w⟩
  .cases h
 |_=>cases h
noncomputable def ti(b:aG)(x:D):=match x with
 |.ref k=>(match b[k]? with
  |some (.dK a)=>some a
  |some (.dF a)=>some a
  |_=>none)
 |_=>none
theorem jQ(S:bH i u n a e)(r:aw u n e m x)(h:ti a m=some P):∃b c,x=.ref b/\Rd e b (.dK c)/\jJ (aw u n e) P c:=by
 unfold ti at h;split at h
 .obtain⟨b,l,rfl⟩:=r
  split at h
  .rename_i f g
   cases h;obtain⟨o,d,c,j,k⟩:=S.cell g;rw[l]at d;cases d
   exact⟨b,_,rfl,.inl j,k⟩
  .rename_i f g
   cases h;obtain⟨o,d,p,c,j,k⟩:=S.cell g;rw[l]at d;cases d
   exact⟨b,_,rfl,.inr ⟨p,j⟩,k⟩
  .cases h
 .cases h
def qT(b)(kvs:List (Key×D)):=cm (λa=>match gJ b 7 a.2 with
 |some d=>if aP 8 d=true then some (a.1,d)else none
 |none=>none) kvs
theorem tj(S:bH i u n a e)(h:jJ (aw u n e) G6 E4)(b:qT a G6=some P):qS (Bt u n) e P E4:=by
 unfold jJ at h
 induction h generalizing P with
 |nil=>cases b;exact .nil
 |@cons p q G6 E4 k _ l=>
  unfold qT at b;simp only[cm]at b;cases f:gJ a 7 p.2 with
  |none=>simp[f]at b
  |some d=>
   by_cases g:aP 8 d=true
   .simp only[f,if_pos g]at b
    cases c:qT a G6 with
    |none=>unfold qT at c;simp only[c]at b;cases b
    |some m=>
     have j:=l c;unfold qT at c;simp only[c]at b;cases b;exact .cons ⟨k.1,(jK S 7 f k.2).now,g⟩ j
   .simp only[f,if_neg g]at b;cases b
def cV(a):=iS λx y=>do let r ←eW a x y;Out.ok (false,D.bl r)
def gX(a:Bool)(y x:D)(b:aG):ay D:=match yN b x y with
 |some o=>.ok (.bl (if a then !o.isSome else o.isSome)) b
 |none=>.bad
noncomputable def fS(a:Bool)(x y:D)(b:aG):ay D:=match x,y with
 |.ref _,.non=>.ok (.bl a) b
 |_,_=>.bad
def ie(b:Bool)(x y:D)(a:aG):ay D:=match ti a x,ti a y with
 |some e,some f=>(match qT a e,qT a f with
  |some c,some d=>.ok (.bl (if b then !oF c d else oF c d)) a
  |_,_=>.bad)
 |_,_=>.bad
def aF(op:Ā):=match op with
 |.Eq=>e_ (cV .Eq) (ie false)
 |.NotEq=>e_ (cV .NotEq) (ie true)
 |.In=>e_ (cV .In) (gX false)
 |.NotIn=>e_ (cV .NotIn) (gX true)
 |.Is=>e_ (fS false) (cV .Is)
 |.IsNot=>e_ (fS true) (cV .IsNot)
 |op=>cV op
variable{B7:Option V}{x6:D->V->Prop}
theorem vc(a:∀d,d0=some d->∃u,B7=some u/\x6 d u)(b:d0=none->B7=none):B7.isSome=d0.isSome:=by
 cases d0 with
 |none=>simp_all
 |some d=>grind
variable{O j y2:x'}{P6:D->D->aG->ay D}{X p:EM}{d5:R2}{r:iP}
theorem fM(h:∀D tb,PE c j D->PE c O tb->PT c y2 (zT (LJ d5 D tb)))(o:bt c i r j p)(s:bt c i r O X)(z:∀x y b d aA,P6 x y b=.ok d aA->∃t,d=.bl t)(M:∀E F x y e Z b H Q,bH i e Z b H->aw e Z H E x->aw e Z H F y->b_ i r e Z H (P6 E F b) Q->d5 x y H Q):gg c i r y2 (m2 P6 p X):=by
 intro a k l f b;rcases q:p f b with ⟨d,m⟩|⟨x,m⟩|_
 .refine PT.imp (h _ _ (o a k l f b) (s a k l f m)) ?_
  rintro G H Q ⟨e,Z,S,g⟩;refine⟨e,Z,S,?_⟩;simp only[m2,q,ay.bind]at g ⊢;intro v H1 N P I J R;refine⟨_,P,S.grow I J,?_⟩;have g:=rS.from I g
  rcases A:X f _ with ⟨K,B⟩|⟨x,B⟩|_
  .rw[A]at g
   intro w T U V L Y r2;refine M d K v w _ V _ T _ Y (J.cP L R) r2 ?_;have g:=rS.from L g
   dsimp only[ay.bind]at g;rcases n:P6 d K _ with ⟨d3,C⟩|⟨x,C⟩|_
   .rw[n]at g
    obtain⟨t,rfl⟩:=z _ _ _ _ _ n;intro u H3 a0 Z3 g3 s3 r3;exact⟨t,r3,g H3 _ Z3 g3 s3⟩
   .rwa[n]at g
   .rwa[n]at g
  .rwa[A]at g
  .rwa[A]at g
 .refine PT.imp (h _ _ (o a k l f b) (s a k l f b)) ?_
  rintro G H Q ⟨e,Z,S,g⟩;refine⟨e,Z,S,?_⟩;simp only[m2,q,ay.bind,dk]at g ⊢;exact g
 .refine PT.imp (h _ _ (o a k l f b) (s a k l f b)) ?_
  rintro G H Q ⟨e,Z,S,g⟩;simp only[m2,q,ay.bind,dk]at g;exact g.elim
noncomputable def Jq(b:Bool):R2:=λy x H Q=>∃a o,x=.ref a/\qA H a y o/\Q (.bl (if b then !o.isSome else o.isSome)) H
theorem Bx(b:c.A.units+1<È):jt c (Þ .In) (Jq false):=by
 intro pins s i H x y u v Q I d e h;obtain⟨a,o,rfl,g,q⟩:=h;obtain rfl:v=Ü a:=e;exact SR b I g d λj f=>⟨.bl _,H,f,rfl,q⟩
theorem pJ(b:c.A.units+1<È):jt c (Þ .NotIn) (Jq true):=by
 intro pins s i H x y u v Q I d e h;obtain⟨a,o,rfl,g,q⟩:=h;obtain rfl:v=Ü a:=e;exact Eb b I g d λj f=>⟨.bl _,H,f,rfl,q⟩
variable{B3:Ā}{η:VK}
theorem qU(S:bH i u n a e)(c:aw u n e m x)(f:aw u n e Y D1)(g:b_ i r u n e (cV B3 m Y a) η):AK B3 x D1 e η:=by
 obtain⟨d,b,h,p,j,l,o,k⟩:=ic S c f g;exact Je (v:=false) j l (dP S) o k
variable{v:Bool}
theorem qV(S:bH i u n a e)(c:aw u n e m x)(d:aw u n e Y D1)(g:b_ i r u n e (gX v m Y a) η):Jq v x D1 e η:=by
 unfold gX at g;split at g
 .rename_i o f
  obtain⟨b,h,rfl,j,k,l⟩:=th S d c f;refine⟨b,h,rfl,j,?_⟩;rw[vc k l];exact b_.ret S (a4 rfl) g
 .exact g.elim
theorem qW(b:B3=if v then .IsNot else .Is)(S:bH i u n a e)(c:aw u n e m x)(d:aw u n e Y D1)(g:b_ i r u n e (fS v m Y a) η):
  (if v then (D1=.non/\η (.bl (!decide (x=.non))) e)else (D1=.non/\η (.bl (decide (x=.non))) e)):=by
 unfold fS at g;split at g
 .simp only[aw]at c d
  have:=b_.ret S (a4 rfl) g
  grind
 .exact g.elim
theorem qX:∀x y f d aA,cV B3 x y f=.ok d aA->∃t,d=.bl t:=λx y f d aA h=>by
 unfold cV iS at h;split at h
 .rename_i a b _ _
  dsimp only at h;cases q:eW B3 a b with
  |ok t=>
   have e:(do let r ←eW B3 a b;Out.ok (false,D.bl r))=Out.ok (false,D.bl t):=by rw[q];rfl
   rw[e]at h;cases h;simp
  |exc c g=>
   have e:(do let r ←eW B3 a b;Out.ok (false,D.bl r))=Out.exc c g:=by rw[q];rfl
   rw[e]at h;cases h
  |bad=>
   have e:(do let r ←eW B3 a b;Out.ok (false,D.bl r))=Out.bad:=by rw[q];rfl
   rw[e]at h;cases h
 .cases h
theorem wO:∀x y a d aA,gX v x y a=.ok d aA->∃t,d=.bl t:=λx y a d aA h=>by
 unfold gX at h
 grind
theorem qY(S:bH i u n a e)(k:aw u n e m x)(l:aw u n e Y D1)(g:b_ i r u n e (ie v m Y a) η):Jp v x D1 e η:=by
 unfold ie at g;split at g
 .rename_i A B o p
  split at g
  .rename_i q s d f
   obtain⟨c,h,rfl,t,w⟩:=jQ S k o;obtain⟨b,j,rfl,y,z⟩:=jQ S l p;exact⟨Bt u n,c,b,h,j,q,s,rfl,rfl,t,y,tj S w d,tj S z f,b_.ret S (a4 rfl) g⟩
  .exact g.elim
 .exact g.elim
theorem wQ:∀x y a d aA,ie v x y a=.ok d aA->∃t,d=.bl t:=λx y a d aA h=>by
 unfold ie at h;split at h
 .split at h
  .cases h;exact⟨_,rfl⟩
  .cases h
 .cases h
theorem wR:∀x y a d aA,fS v x y a=.ok d aA->∃t,d=.bl t:=λx y a d aA h=>by
 unfold fS at h
 grind
variable{l:T'}
theorem qZ(z:c.A.units+64<È)(f:ű B3 O=false)(h:bt c i r j p)(k:bt c i r O X):bt c i r (.Compare j [B3] [O] l) (m2 (aF B3) p X)/\gg c i r (.Compare j [B3] [O] l) (m2 (aF B3) p X):=by
 have E:bt c i r (.Compare j [B3] [O] l) (m2 (cV B3) p X):=dQ (λm tb a b=>gD (ku z B3) a b f) h k λn o x y q Z s H Q S d e g=>qU S d e g
 have T:gg c i r (.Compare j [B3] [O] l) (m2 (cV B3) p X):=fM (λm tb a b=>fE (ku z B3) a b f) h k qX λn o x y q Z s H Q S d e g=>qU S d e g
 have w:c.A.units+1<È:=by omega
 cases B3 with
 |In=>
  have t:bt c i r (.Compare j [.In] [O] l) (m2 (gX false) p X):=dQ (λm tb a b=>gD (Bx w) a b f) h k λn o x y q Z s H Q S d e g=>qV S d e g
  have u:gg c i r (.Compare j [.In] [O] l) (m2 (gX false) p X):=fM (λm tb a b=>fE (Bx w) a b f) h k wO λn o x y q Z s H Q S d e g=>qV S d e g
  show bt c i r _ (m2 (e_ (cV .In) (gX false)) p X)/\gg c i r _ (m2 (e_ (cV .In) (gX false)) p X)
  rw[gK];exact⟨E.alt t,T.alt u⟩
 |NotIn=>
  have t:bt c i r (.Compare j [.NotIn] [O] l) (m2 (gX true) p X):=dQ (λm tb a b=>gD (pJ w) a b f) h k λn o x y q Z s H Q S d e g=>qV S d e g
  have u:gg c i r (.Compare j [.NotIn] [O] l) (m2 (gX true) p X):=fM (λm tb a b=>fE (pJ w) a b f) h k wO λn o x y q Z s H Q S d e g=>qV S d e g
  show bt c i r _ (m2 (e_ (cV .NotIn) (gX true)) p X)/\gg c i r _ (m2 (e_ (cV .NotIn) (gX true)) p X)
  rw[gK];exact⟨E.alt t,T.alt u⟩
 |Is=>
  have t:bt c i r (.Compare j [.Is] [O] l) (m2 (fS false) p X):=dQ (λm tb a b=>gD zS a b f) h k λn o x y q Z s H Q S d e g=>qW (v:=false) (B3:=.Is) rfl S d e g
  have u:gg c i r (.Compare j [.Is] [O] l) (m2 (fS false) p X):=fM (λm tb a b=>fE zS a b f) h k wR λn o x y q Z s H Q S d e g=>qW (v:=false) (B3:=.Is) rfl S d e g
  show bt c i r _ (m2 (e_ (fS false) (cV .Is)) p X)/\gg c i r _ (m2 (e_ (fS false) (cV .Is)) p X)
  rw[gK];exact⟨t.alt E,u.alt T⟩
 |IsNot=>
  have t:bt c i r (.Compare j [.IsNot] [O] l) (m2 (fS true) p X):=dQ (λm tb a b=>gD vZ a b f) h k λn o x y q Z s H Q S d e g=>qW (v:=true) (B3:=.IsNot) rfl S d e g
  have u:gg c i r (.Compare j [.IsNot] [O] l) (m2 (fS true) p X):=fM (λm tb a b=>fE vZ a b f) h k wR λn o x y q Z s H Q S d e g=>qW (v:=true) (B3:=.IsNot) rfl S d e g
  show bt c i r _ (m2 (e_ (fS true) (cV .IsNot)) p X)/\gg c i r _ (m2 (e_ (fS true) (cV .IsNot)) p X)
  rw[gK];exact⟨t.alt E,u.alt T⟩
 |Eq=>
  have t:bt c i r (.Compare j [.Eq] [O] l) (m2 (ie false) p X):=dQ (λm tb a b=>gD (Bv z) a b f) h k λn o x y q Z s H Q S d e g=>qY S d e g
  have u:gg c i r (.Compare j [.Eq] [O] l) (m2 (ie false) p X):=fM (λm tb a b=>fE (Bv z) a b f) h k wQ λn o x y q Z s H Q S d e g=>qY S d e g
  show bt c i r _ (m2 (e_ (cV .Eq) (ie false)) p X)/\gg c i r _ (m2 (e_ (cV .Eq) (ie false)) p X)
  rw[gK];exact⟨E.alt t,T.alt u⟩
 |NotEq=>
  have t:bt c i r (.Compare j [.NotEq] [O] l) (m2 (ie true) p X):=dQ (λm tb a b=>gD (Bw z) a b f) h k λn o x y q Z s H Q S d e g=>qY S d e g
  have u:gg c i r (.Compare j [.NotEq] [O] l) (m2 (ie true) p X):=fM (λm tb a b=>fE (Bw z) a b f) h k wQ λn o x y q Z s H Q S d e g=>qY S d e g
  show bt c i r _ (m2 (e_ (cV .NotEq) (ie true)) p X)/\gg c i r _ (m2 (e_ (cV .NotEq) (ie true)) p X)
  rw[gK];exact⟨E.alt t,T.alt u⟩
 |Lt=>exact⟨E,T⟩
 |LtE=>exact⟨E,T⟩
 |Gt=>exact⟨E,T⟩
 |GtE=>exact⟨E,T⟩
def ig(a)(x:D):=match x with
 |.tup b=>some b
 |x=>dm a x
def Jr(x y:D)(a:aG):ay D:=match ig a x,y with
 |some b,.int i=>match L2.lp b i with
  |some d=>.ok d a
  |none=>.bad
 |_,_=>.bad
def Js(x y:D)(a:aG):ay D:=match yN a x y with
 |some (some d)=>.ok d a
 |_=>.bad
def aK:=e_ Jr (e_ Js (iS uO))
variable{G:M'}{q:List D}
theorem jR(S:bH i u n a e)(r:aw u n e m x)(h:ig a m=some q):∃b c,x=.ref b/\(lP G e b c\/uq G e b c)/\aI (aw u n e) q c:=by
 unfold ig at h;split at h
 .cases h
  obtain⟨b,c,rfl,_,d,f⟩:=ej r;exact⟨b,c,rfl,.inr (uQ (.inl d)),f⟩
 .obtain⟨b,c,rfl,d,f⟩:=bz S r h
  exact⟨b,c,rfl,.inl (lA d),f⟩
variable{N:List V}{Q:Int}
theorem E9(r:aI x6 q N)(h:L2.lp q Q=some m):∃v,L2.lp N Q=some v/\x6 m v:=by
 unfold L2.lp at h ⊢;rw[r.length];cases a:L2.DG _ Q with
 |none=>simp_all
 |some n=>rw[a]at h;exact r.get h
theorem E_(K:c.A.units+1<È)(o:v5 O)(q:bt c i r j p)(s:bt c i r O X):bt c i r (.Subscript j O l) (m2 aK p X):=by
 unfold aK;rw[gK,gK];refine bt.alt ?_ (bt.alt ?_ ?_)
 .refine dQ (λB tb f h=>Hz Ab f h o) q s λC D x y E Z F H Q S m n g=>?_
  unfold Jr at g;split at g
  .rename_i R a t
   obtain⟨b,G,rfl,h2,w⟩:=jR S m t;subst n;split at g
   .rename_i d z
    obtain⟨v,I,J⟩:=E9 w z;rcases h2 with h2|h2
    .exact .inl ⟨b,G,a,v,rfl,rfl,h2,I,b_.ret S J g⟩
    .exact .inr (.inl ⟨b,G,a,v,rfl,rfl,h2,I,b_.ret S J g⟩)
   .exact g.elim
  .exact g.elim
 .refine dQ (λB tb f h=>Ed K f h o) q s λC D x y E Z F H Q S m n g=>?_
  unfold Js at g;split at g
  .rename_i d z
   obtain⟨j,T,rfl,t,h2,_⟩:=th S m n z;obtain⟨u,rfl,w⟩:=h2 d rfl;exact⟨j,u,rfl,t,b_.ret S w g⟩
  .exact g.elim
 .refine dQ (λB tb f h=>Hz Ab f h o) q s λC D x y E Z F H Q S m n g=>?_
  obtain⟨d,e,L,U,M,N,P,k⟩:=ic S m n g;exact Jg (v:=false) M N (dP S) P k
def eV(n)(m:EM):=λc b=>if n=true then .ok none b else (m c b).bind λd a=>match d with
 |.int i=>.ok (some i) a
 |_=>.bad
def lU(x:D)(b c:Option Int)(a:aG):ay D:=match x,dm a x with
 |_,some d=>iQ a (.lst (dq d b c))
 |.str z,none=>gW a (AF (.str z) b c)
 |_,_=>.bad
def cp(e:EM)(f:Bool)(g:EM)(i:Bool)(j:EM):EM:=λa k=>(e a k).bind λx b=>(eV f g a b).bind λl c=>(eV i j a c).bind λh d=>lU x l h d
def Qc(X)(a:Str->b'->Prop)(Φ)(o:Option x')(n m):=(o=none/\n=true)\/∃e,o=some e/\n=false/\bt X a Φ e m
variable{C7:Option x'}
theorem eM(h:Qc c i r C7 v p)(w z A o u):∃t,PO c C7 t/\∀n H f Z Q,cS i w z A f Z u o n H ->
  (match eV v p o u with
   |.ok l a=>∀g b m,cM f Z H b m g->bH i b m a g->Q l g
   |.exc x a=>∀g b m,cM f Z H b m g->bH i b m a g->r x a b m g
   |.bad=>False)->t n H Q:=by
 rcases h with ⟨rfl,rfl⟩|⟨e,rfl,rfl,B⟩
 .refine⟨_,by
   intro pins s n H Q I h;exact I' ⟨_,H,I,.none,h⟩,λn H f Z Q S k=>k H f Z (cM.refl S.st.has) S.st⟩
 .refine⟨_,DZ (B _ z A o u),λn H f Z Q S k=>⟨f,Z,S,?_⟩⟩
  simp only[eV,aa7,if_false]at k;rcases q:p o u with ⟨d,a⟩|⟨x,a⟩|_
  .rw[q]at k
   intro y C D E F G J;cases d with
   |int j=>exact⟨j,J,k C _ E F G⟩
   |_=>exact k.elim
  .rwa[q]at k
  .rwa[q]at k
variable{C2:Bool}{H:T'}{L4:EM}
theorem Fb{hi}(D:bt c i r j p)(T:Qc c i r C7 v X)(E:Qc c i r hi C2 L4):bt c i r (.Subscript j (.Slice C7 hi none H) l) (cp p v X C2 L4):=by
 intro a f m e o;rcases q:p e o with ⟨d,n⟩|⟨x,n⟩|_
 .refine bD (eM T a f m e n) λtl t L=>?_
  rcases F:eV v X e n with ⟨U,u⟩|⟨x,u⟩|_
  .obtain⟨M,s,G⟩:=eM E a f m e u
   refine PE.imp (hJ (r:=MR c.K) (jD.or nv) (D a f m e o) t s) ?_;rintro w b Q ⟨y,Z,S,g⟩;refine⟨y,Z,S,?_⟩;simp only[cp,q,F,ay.bind]at g ⊢;intro z V A Y I N r1;have g:=b_.from I g
   have S1:=S.grow I N;refine L w V A Y _ S1 ?_;rw[F];intro H2 B Z2 J O;have g:=b_.from J g
   refine G w H2 B Z2 _ (S1.grow J O) ?_;rcases q3:eV C2 L4 e u with ⟨h,a0⟩|⟨x,a0⟩|_
   .rw[q3]at g
    intro H3 b0 Z3 g3 P;have g:=b_.from g3 g
    have r3:=O.cP g3 (N.cP J r1);dsimp only[ay.bind]at g;unfold lU at g;split at g
    .rename_i ds hd
     obtain⟨C,vs,rfl,h1,h2⟩:=bz P r3 hd
     exact .inl ⟨C,vs,rfl,lA h1,eL P (by
       unfold dq D9;rw[h2.length];exact(h2.drop _).take _) g⟩
    ·
     subst r3;refine cW (jL (v:=false) P g) λc0 d R k=>?_
     simp only[AF]at R;split at R
     .rename_i hs
      cases R;exact .inr ⟨_,rfl,bK hs,k _ H3 _ _ (eY.refl P.dom) (.rep (fq rfl))⟩
     .cases R
    .exact g.elim
   .rw[q3]at g;exact g
   .rw[q3]at g;exact g
  .obtain⟨M,s,G⟩:=eM E a f m e n
   refine PE.imp (hJ (r:=MR c.K) (jD.or nv) (D a f m e o) t s) ?_;rintro w b Q ⟨y,Z,S,g⟩;refine⟨y,Z,S,?_⟩;simp only[cp,q,F,ay.bind]at g ⊢;intro z V A Y I N r1;refine L w V A Y _ (S.grow I N) ?_;rw[F];intro H2 B Z2 J O;exact g H2 B Z2 (I.trans J) O
  .obtain⟨M,s,G⟩:=eM E a f m e n
   refine PE.imp (hJ (r:=MR c.K) (jD.or nv) (D a f m e o) t s) ?_;rintro w b Q ⟨y,Z,S,g⟩;simp only[cp,q,F,ay.bind]at g;exact g.elim
 .obtain⟨tl,t,L⟩:=eM T a f m e o
  obtain⟨M,s,G⟩:=eM E a f m e o;refine PE.imp (hJ (r:=MR c.K) (jD.or nv) (D a f m e o) t s) ?_;rintro w b Q ⟨y,Z,S,g⟩;refine⟨y,Z,S,?_⟩;simp only[cp,q,ay.bind]at g ⊢;exact g
 .obtain⟨tl,t,L⟩:=eM T a f m e o
  obtain⟨M,s,G⟩:=eM E a f m e o;refine PE.imp (hJ (r:=MR c.K) (jD.or nv) (D a f m e o) t s) ?_;rintro w b Q ⟨y,Z,S,g⟩;simp only[cp,q,ay.bind]at g;exact g.elim
theorem PE.ex{b:Type}{t:b->TE}(h:∀i,PE c j (t i)):PE c j (λa H Q=>∃i,t i a H Q):=λpins s a H Q I  d =>xe d λi q=>h i _ s a H Q I q
theorem PT.ex{b:Type}{t:b->TT}(h:∀i,PT c j (t i)):PT c j (λa H Q=>∃i,t i a H Q):=λpins s a H Q I  d =>xe d λi q=>h i _ s a H Q I q
theorem PW.ex{b:Type}{t:b->TT}(h:∀i,PW c j (t i)):PW c j (λa H Q=>∃i,t i a H Q):=λd pins s a H Q I ⟨i,q⟩=>h i d _ s a H Q I q
variable{I:List x'}
theorem PA.ex{d:Type}{t:d->TA}(h:∀i,PA c I (t i)):PA c I (λb H Q=>∃i,t i b H Q):=λe pins s b H Q a  f =>xe f λi q=>h i _ _ s b H Q a q
def ij(c d:EM):EM:=λb e=>(c b e).bind λx a=>match ib a x with
 |some true=>d b a
 |some false=>.ok x a
 |none=>.bad
def oG(c d:EM):EM:=λb e=>(c b e).bind λx a=>match ib a x with
 |some false=>d b a
 |some true=>.ok x a
 |none=>.bad
def eN(b:EM):EM:=λc d=>(dk (b c d)).bind λt a=>.ok (.bl (!t)) a
def HR(c d e:EM):EM:=λb f=>(dk (c b f)).bind λt a=>if t=true then d b a else e b a
theorem ik(S:bH i u n a e)(r:aw u n e m x)(h:ib a m=some v):r_ G x e v:=by
 cases m with
 |non=>subst r;cases h;rfl
 |bl b=>subst r;cases h;rfl
 |int b=>subst r;cases h;rfl
 |str b=>
  subst r;have d:Now n e (.str b) (.str b):=by rfl
  exact Jf d h
 |lst o=>
  cases h;obtain⟨c,j,rfl,f,g⟩:=bz S r rfl;refine .inl ⟨j,lA f,?_⟩;have:=g.length
  grind
 |tup o=>
  cases h;obtain⟨c,j,rfl,_,f,g⟩:=ej r;refine .inr (.inl ⟨j,uQ (.inl f),?_⟩);have:=g.length
  grind
 |dct _ _=>cases h
 |ref k=>
  simp only[ib]at h;split at h
  .rename_i o p
   cases h;obtain⟨c,j,rfl,f,g⟩:=bz (q:=o) S r (by simp only[dm,p])
   refine .inl ⟨j,lA f,?_⟩;have:=g.length
   grind
  .rename_i w p
   cases h;obtain⟨c,y,rfl⟩:=r;refine bD (S.cell p) λz l s=>bD s λt f g=>?_
   rw[y]at l;cases l
   refine .inr (.inr ⟨_,f,?_⟩);have:=g.length
   grind
  .cases h
variable{L8:Bool->Hp->Prop}{W8:ay Bool}
theorem rS.use{Q f}(h:b_ i r u n e (W8.bind f) Q)(k:∀t a,W8=.ok t a->∀c b j,cM u n e b j c->bH i b j a c->b_ i r b j c (f t a) Q->L8 t c):rS i r u n e W8 L8:=by
 cases W8 with
 |ok d a=>exact λc b j g s=>k d _ rfl c _ j g s (b_.from g h)
 |exc x a=>exact h
 |bad=>exact h
variable{v4:ay D}
theorem rS.XI(h:rS i r u n e (dk v4) L8):b_ i r u n e v4 (λv a=>∃t,r_ G v a t/\L8 t a):=by
 cases v4 with
 |ok d b=>
  intro v a c f g s q;simp only[dk]at h;split at h
  .rename_i t j
   exact⟨t,ik s q j,h a _ f g s⟩
  .exact h.elim
 |exc x b=>exact h
 |bad=>exact h.elim
theorem Fc(b:bt c i r j p):bt c i r (.UnaryOp .Not j l) (eN p):=by
 intro a d e f h;refine PE.imp (EC (b a d e f h)) ?_;rintro s H Q ⟨k,Z,S,g⟩;refine⟨k,Z,S,?_⟩;have:=rS.use g λt m _ u n w x o q=>b_.ret o (a4 rfl) q
 exact this.XI
theorem Fd(e:gg c i r j p):gg c i r (.UnaryOp .Not j l) (eN p):=by
 intro a f k m n
 refine PT.imp (by
   intro pins s d H Q I h;exact isTrue_not ((e a f k m n) _ s d H _ I h)) ?_
 rintro d H Q ⟨o,Z,S,g⟩;refine⟨o,Z,S,?_⟩;simp only[eN]at g;cases q:dk _ with
 |ok t b=>rwa[q]at g
 |exc x b=>rwa[q]at g
 |bad=>rwa[q]at g
def HS(X)(b:Str->b'->Prop)(Φ e m):=∀a c d f g,PW X e (TK b Φ a c d m f g)
theorem HS.pt{X a Φ e m}(h:HS X a Φ e m):gg X a Φ e m:=λb c d f g=>(h _ c d f g).pt
theorem Fe{d}(f:gg c i r j p):HS c i r (.BoolOp d [j] l) p:=λo g k m n=>by
 cases d with
 |And=>
   intro q pins s b H Q I h;refine isTrue_and (bZ ((f _ g k m n) _ s b H Q I h) λa t e=>?_)
   cases a with
   |true=>exact isTrue_and_nil e
   |false=>exact e
 |Or=>
   intro q pins s b H Q I h;refine aaC (bZ ((f _ g k m n) _ s b H Q I h) λa t e=>?_)
   cases a with
   |false=>exact abX e
   |true=>exact e
theorem Ff(u:gg c i r j p)(w:HS c i r (.BoolOp .And (O::I) l) X):HS c i r (.BoolOp .And (j::O::I) l) (ij p X):=by
 intro b n o f s;refine PW.imp (pw_and (u b n o f s) (PW.ex λa=>w b n o f a)) ?_
 rintro z H Q ⟨y,Z,S,g⟩;refine⟨y,Z,S,?_⟩;simp only[ij]at g;cases q:p f s with
 |ok x a=>
  rw[q]at g;dsimp only[ay.bind]at g;simp only[dk];split at g
  .rename_i d
   rw[d];exact λt h k e m=>sx ⟨_,_,k,S.grow e m,rS.from e g⟩
  .rename_i d
   rw[d];simp only[dk,d]at g;exact λt h k e m=>sv (g t _ k e m)
  .exact g.elim
 |exc x a=>rwa[q]at g
 |bad=>rwa[q]at g
theorem Jt(u:gg c i r j p)(w:HS c i r (.BoolOp .Or (O::I) l) X):HS c i r (.BoolOp .Or (j::O::I) l) (oG p X):=by
 intro b n o f s;refine PW.imp (pw_or (u b n o f s) (PW.ex λa=>w b n o f a)) ?_
 rintro z H Q ⟨y,Z,S,g⟩;refine⟨y,Z,S,?_⟩;simp only[oG]at g;cases q:p f s with
 |ok x a=>
  rw[q]at g;dsimp only[ay.bind]at g;simp only[dk];split at g
  .rename_i d
   rw[d];exact λt h k e m=>sv ⟨_,_,k,S.grow e m,rS.from e g⟩
  .rename_i d
   rw[d];simp only[dk,d]at g;exact λt h k e m=>sx (g t _ k e m)
  .exact g.elim
 |exc x a=>rwa[q]at g
 |bad=>rwa[q]at g
theorem Fg(o:gg c i r y2 L4)(q:bt c i r j p)(s:bt c i r O X):bt c i r (.IfExp y2 j O l) (HR L4 p X):=by
 intro b d e f u;refine PE.imp (zL (o b d e f u) (PE.ex λa=>q b d e f a) (PE.ex λa=>s b d e f a)) ?_
 rintro y H Q ⟨w,Z,S,g⟩;refine⟨w,Z,S,rS.use g λt a _ z x h k m n=>?_⟩
 cases t with
 |true=>exact sx ⟨_,_,h,S.grow k m,n⟩
 |false=>exact sv ⟨_,_,h,S.grow k m,n⟩
theorem Fh(D:gg c i r y2 L4)(E:gg c i r j p)(F:gg c i r O X):gg c i r (.IfExp y2 j O l) (HR L4 p X):=by
 intro h k m b y pins s n H Q I;rintro⟨G,Z,S,g⟩;simp only[HR]at g
 have u:TK i r h k m L4 b y n H (λt f=>∃a d e,cS i h k m d e a b n f/\rS i r d e f (dk (if t=true then p b a else X b a)) Q):=by
  refine⟨G,Z,S,?_⟩;cases q:dk _ with
  |ok t a=>
   rw[q]at g;exact λf d e z o=>⟨_,_,e,S.grow z o,rS.from z g⟩
  |exc x a=>rwa[q]at g
  |bad=>rwa[q]at g
 refine isTrue_IfExp (bZ (D _ k m b y _ s n H _ I u) λv o J=>?_);refine bD J λf A w=>ew w λ_ _ e B C=>?_
 cases v with
 |true=>exact E _ k m b _ _ o n f Q A ⟨_,e,B,C⟩
 |false=>exact F _ k m b _ _ o n f Q A ⟨_,e,B,C⟩
def nB(g b:Ā)(h i j:EM):EM:=λc k=>(h c k).bind λx d=>(i c d).bind λy e=>(dk (cV g x y e)).bind λt a=>if t=true then (j c a).bind λz f=>cV b y z f else .ok (.bl false) a
variable{A0:List b'}{P1:b'->Prop}{R6:Ā}{t:bo}{ξ:Hp}
theorem By(S:cS i A0 P1 ξ u n a t o0 e)(g:b_ i r u n e (nB B3 R6 p X L4 t a) η):
  uw (AK B3) (AK R6) (tO i r A0 P1 ξ p t a) (λo0 e η=>∃c,tO i r A0 P1 ξ X t c o0 e η) (λo0 e η=>∃c,tO i r A0 P1 ξ L4 t c o0 e η) o0 e η:=by
 refine⟨u,n,S,b_.use g λx c _ v U D E A j F G=>?_⟩
 refine⟨_,_,E,S.grow A j,b_.use G λy H _ w V I Y B k C f=>?_⟩
 have J:=(S.grow A j).grow B k;refine qU (r:=r) k (j.cP B F) C ?_;cases q:cV B3 x y _ with
 |ok d l=>
  obtain⟨b,rfl⟩:=qX _ _ _ _ _ q;intro m Z K L o s M;refine⟨b,M,?_⟩;rw[q]at f;have h:=f;have h:=b_.from o h
  cases b with
  |true=>
   refine⟨_,_,L,J.grow o s,b_.use h λz N _ w' H4 O Z4 P Q R T=>qU Q (s.cP P (k.cP o C)) R T⟩
  |false=>
   exact b_.ret s (a4 rfl) h
 |exc x l=>rwa[q]at f
 |bad=>rwa[q]at f
theorem Fi(h:c.A.units+64<È)(k:Ų [B3,R6] [O,y2]=false)(m:bt c i r j p)(n:bt c i r O X)(o:bt c i r y2 L4):bt c i r (.Compare j [B3,R6] [O,y2] l) (nB B3 R6 p X L4):=by
 intro a d e f q;refine PE.imp (zU (ku h B3) (ku h _) (m a d e f q) (PE.ex λb=>n a d e f b) (PE.ex λb=>o a d e f b) k) ?_
 rintro s H Q ⟨t,Z,S,g⟩;exact By S g
variable{T:aG}
theorem Ju(h:nB B3 R6 p X L4 t a=.ok m T):∃b,m=.bl b:=by
 simp only[nB]at h;cases c:p t a with
 |ok x d=>
  rw[c]at h;dsimp only[ay.bind]at h
  cases e:X t _ with
  |ok y f=>
   rw[e]at h;dsimp only[ay.bind]at h
   cases g:dk _ with
   |ok b i=>
    rw[g]at h;dsimp only[ay.bind]at h
    split at h
    .cases j:L4 t _ with
     |ok z k=>rw[j]at h;exact qX _ _ _ _ _ h
     |exc _ _=>simp_all
     |bad=>simp_all
    simp_all
   |exc _ _=>simp_all
   |bad=>simp_all
  |exc _ _=>simp_all
  |bad=>simp_all
 |exc _ _=>rw[c]at h;cases h
 |bad=>rw[c]at h;cases h
theorem Fj(k:c.A.units+64<È)(n:Ų [B3,R6] [O,y2]=false)(o:bt c i r j p)(s:bt c i r O X)(u:bt c i r y2 L4):gg c i r (.Compare j [B3,R6] [O,y2] l) (nB B3 R6 p X L4):=by
 intro b f h e m;refine PT.imp (zV (ku k B3) (ku k _) (o b f h e m) (PE.ex λa=>s b f h e a) (PE.ex λa=>u b f h e a) n) ?_
 rintro E H Q ⟨F,Z,S,g⟩;refine By S ?_;cases q:nB B3 _ p X L4 e m with
 |ok d a=>
  obtain⟨t,rfl⟩:=Ju q;rw[q]at g;intro v w y z B C D;exact⟨t,D,g w _ z B C⟩
 |exc x a=>rw[q]at g;exact g
 |bad=>rw[q]at g;exact g.elim
def cE(f:List D->Out Rs):List D->aG->ay D:=λb a=>match cm (gJ a 8) b with
 |some c=>gW a (f c)
 |none=>.bad
variable{W1:List D->Out Rs}
theorem jS(S:bH i u n a e)(s:aI (aw u n e) q N)(h:b_ i r u n e (cE W1 q a) η):
  ∃m c l,bq (Bt u n) e m N/\W1 m=.ok (c,l)/\∀b o p,eY (Bt u n) e p o->eZ v c p e o l b->η b o:=by
 unfold cE at h;split at h
 .rename_i m t
  refine cW (jL (v:=v) S h) λc l f k=>⟨m,_,l,ia (fw (S:=Rep _ e) (λd l b g j=>jK S 8 g j) t s),f,by grind⟩
 .exact h.elim
variable{b:Nat}{d:Str}{u0:AM}
theorem yO(F0:MS c b d W1)(n:cz b c.A)(o:Gl c d)(a:(d==("__debug__"))=false)(p:F' (j::I) c.env=(false,eval j c.env)::F' I c.env)(e:(Æ l (F' I c.env)).any (·.1)=false)(q:s_ c i r (j::I) u0):
  bt c i r (.Call (.Name d H) (j::I) [] l) (mN (cE W1) u0):=by
 refine dO F0.ex λf O P s t u F1=>?_
 intro h w x y z;refine PE.imp (qv F1 n o s t u .nil lu (q h w x y z) a p e) ?_;rintro R k Q ⟨B,Z,S,g⟩;refine⟨B,Z,S,oE.use g λT C _ U V D X Y m E F=>?_⟩
 rw[Ċ];obtain⟨G,J,K,L,M,N⟩:=jS m E F;exact⟨_,G,_,K,dP m,L,M,N⟩
def oH(f g:List D->aG->ay D):=λa b=>jj (f a b) (g a b)
def yP(xs:List D)(a:aG):ay D:=match xs with
 |[x]=>match ig a x with
  |some b=>.ok (.int b.length) a
  |none=>.bad
 |_=>.bad
noncomputable def Bz(xs:List D)(b:aG):ay D:=match xs with
 |[.ref k]=>match b[k]? with
  |some (.dK a)=>.ok (.int a.length) b
  |some (.dF a)=>.ok (.int a.length) b
  |_=>.bad
 |_=>.bad
def gh(xs:List D)(a:aG):=match xs with
 |[x]=>match ig a x with
  |some b=>iQ a (.lst b)
  |none=>.bad
 |_=>.bad
noncomputable def kE:Key->D
 |.inl i=>.int i
 |.inr x=>.str x
def pK(xs:List D)(b:aG):ay D:=match xs with
 |[x]=>match ti b x with
  |some a=>iQ b (.lst (a.map λc=>kE c.1))
  |none=>.bad
 |_=>.bad
def tm(xs:List D)(b:aG):=match xs with
 |[x]=>match ti b x with
  |some a=>iQ b (.dK a)
  |none=>.bad
 |_=>.bad
def tp:D->Option (Key×D)
 |.tup [k,v]=>(vb k).map λk=>(k,v)
 |_=>none
def lH(xs:List D)(b:aG):ay D:=match xs with
 |[x]=>match dm b x with
  |some c=>match cm tp c with
   |some d=>iQ b (.dK (d.foldl (λa p=>d4 a p.1 p.2) []))
   |none=>.bad
  |none=>.bad
 |_=>.bad
def gi:=oH lH tm
def vd(xs:List D)(a:aG):ay D:=match xs with
 |[.tup b]=>.ok (.tup b) a
 |[x]=>match dm a x with
  |some b=>.ok (.tup b) a
  |none=>.bad
 |_=>.bad
def Jv:List D->Out Rs
 |[.str z]=>if small z.length then .ok (false,.int z.length)else .bad
 |_=>.bad
def Jw:List D->Out Rs
 |[.lst a]=>match fY a with|some bs=>.ok (false,.bl (bs.all id))|none=>.bad
 |_=>.bad
def Jx:List D->Out Rs
 |[.lst a]=>match fY a with|some bs=>.ok (false,.bl (bs.any id))|none=>.bad
 |_=>.bad
def BA:mq->List D->Out Rs
 |.len=>Jv
 |.all=>Jw
 |.any=>Jx
 |_=>λ_=>.bad
def q7(f):=cE (BA f)
def aN(f:mq):=match f with
 |.len=>oH yP (oH Bz (q7 .len))
 |.list=>oH gh pK
 |.tuple=>vd
 |f=>q7 f
variable{F6:List D->aG->ay D}
theorem q_{g}:mN (oH F6 g) u0=iR (mN F6 u0) (mN g u0):=by
 funext b a
 simp only[mN,iR];cases u0 b a with
 |ok x c=>rfl
 |exc x a=>rfl
 |bad=>rfl
variable{A8:List V->Hp->VK->Prop}{G3:String}
theorem il(n:eT c (.builtin G3) A8)(o:Gl c d)(p:c.mg d=none)(q:Č d=some (.builtin G3))(s:d≠"__name__")(f:(d==("__debug__"))=false)(t:F' (j::I) c.env=(false,eval j c.env)::F' I c.env)(h:(Æ l (F' I c.env)).any (·.1)=false)(u:s_ c i r (j::I) u0)(z:∀xs m b Z e a Q,bH i b Z e a->aI (aw b Z a) xs m->b_ i r b Z a (F6 xs e) Q->A8 m a Q):bt c i r (.Call (.Name d H) (j::I) [] l) (mN F6 u0):=by
 intro k w x y e;refine PE.imp (mR n o p q (u k w x y e) s f t h) ?_;rintro A a Q ⟨b,Z,S,g⟩;exact⟨b,Z,S,oE.use g (by grind)⟩
theorem ip(n:eT c (.type G3) A8)(o:Gl c d)(p:c.mg d=none)(q:Č d=some (.type G3))(s:d≠"__name__")(f:(d==("__debug__"))=false)(t:F' (j::I) c.env=(false,eval j c.env)::F' I c.env)(h:(Æ l (F' I c.env)).any (·.1)=false)(u:s_ c i r (j::I) u0)(z:∀xs m b Z e a Q,bH i b Z e a->aI (aw b Z a) xs m->b_ i r b Z a (F6 xs e) Q->A8 m a Q):bt c i r (.Call (.Name d H) (j::I) [] l) (mN F6 u0):=by
 intro k w x y e;refine PE.imp (o_ n o p q (u k w x y e) s f t h) ?_;rintro A a Q ⟨b,Z,S,g⟩;exact⟨b,Z,S,oE.use g (by grind)⟩
theorem iD{Z H}:∀{b}{a},bq Z H b a->AL Z H b a
 |[],a,h=>h.nil_inv
 |d::b,a,h=>by
  obtain⟨v,r,rfl,c,e⟩:=h.cons_inv;exact⟨v,r,rfl,c.now,iD e⟩
def BB(S:bH i u n a e)(b:jJ (aw u n e) P E4)(k:b_ i r u n e (iQ a (.dK P)) η):=λp d=>by
 obtain⟨f,g⟩:=S.laid (c:=.dK _) d λR hR=>⟨_,aS,b.imp hR⟩
 exact k _ _ _ _ g f (gf S p)
theorem Fm(S:bH i u n a e)(f:aI (aw u n e) q N)(g:b_ i r u n e (tm q a) η):∃b kvs,N=[V.ref b]/\Rd e b (.dK kvs)/\∀l,e l=none->η (.ref l) (upd e l (.dK kvs)):=by
 unfold tm at g;split at g
 .split at g
  .rename_i kvs h
   obtain⟨v,c,rfl,j,k⟩:=f.cons_inv;rw[k.nil_inv];obtain⟨b,d,rfl,m,o⟩:=jQ S j h;exact⟨b,_,rfl,m,BB S o g⟩
  .exact g.elim
 .exact g.elim
theorem pL{l Z H}:∀{k}{g}{i},aI (aw l Z H) k g->cm tp k=some i->∃c,jJ (aw l Z H) i c/\í (λp y=>∃b,y=.ref b/\Rd H b (.tup [kV p.1,p.2])) c g
 |[],g,i,r,h=>by cases h;rw[r.nil_inv];exact⟨[],.nil,.nil⟩
 |d::k,g,i,r,h=>by
  simp only[cm]at h;split at h
  .rename_i y C j m
   cases h;refine aJ r.cons_inv λv n e o q=>?_;subst e
   obtain⟨c,s,t⟩:=pL q m;unfold tp at j;split at j
   .obtain⟨u,w,rfl⟩:=å.mp j
    refine a8 (ej o) λa E e _ x f=>?_;subst e
    obtain⟨F,G,rfl,z,f⟩:=f.cons_inv;obtain⟨A,I,rfl,B,f⟩:=f.cons_inv;obtain rfl:=f.nil_inv;obtain rfl:=jP w z;exact⟨(u,A)::c,.cons ⟨rfl,B⟩ s,.cons ⟨a,rfl,.inl x⟩ t⟩
   .cases j
  .cases h
theorem Fo(S:bH i u n a e)(w:aI (aw u n e) q N)(g:b_ i r u n e (lH q a) η):∃c m k,N=[V.ref c]/\Rd e c (.lst m)/\í (λ(p:Key×V) y=>∃b,y=.ref b/\Rd e b (.tup [kV p.1,p.2])) k m/\∀l,e l=none->η (.ref l) (upd e l (.dK (k.foldl (λc p=>putK c p.1 p.2) []))):=by
 unfold lH at g;split at g
 .split at g
  .rename_i H x
   split at g
   .rename_i k z
    obtain⟨v,o,rfl,A,B⟩:=w.cons_inv;rw[B.nil_inv];obtain⟨c,m,rfl,C,D⟩:=bz S A x;obtain⟨h,E,F⟩:=pL D z;refine⟨c,m,_,rfl,C,F,BB S ?_ g⟩
    have:∀{k:List _}{h:List _}{j:List _}{d:List (Key×V)},jJ _ j d->jJ (aw u n e) k h->jJ (aw u n e) (k.foldl (λc p=>d4 c p.1 p.2) j) (h.foldl (λc p=>putK c p.1 p.2) d):=λ{k h j d} s f=>by
     induction f generalizing j d with
     |nil=>exact s
     |@cons p f _ _ t _ G=>
      simp;refine G ?_;rw[t.1];exact s.put _ t.2
    exact this .nil E
   .exact g.elim
  .exact g.elim
 .exact g.elim
theorem Fp{f}(u:c.calm=true)(T:f∈[mq.len,mq.all,mq.any,mq.list,mq.tuple])(F:Gl c f.nm)(J:c.mg f.nm=none)(L:F' (j::I) c.env=(false,eval j c.env)::F' I c.env)(p:(Æ l (F' I c.env)).any (·.1)=false)(z:s_ c i r (j::I) u0):
  bt c i r (.Call (.Name f.nm H) (j::I) [] l) (mN (aN f) u0):=by
 cases f with
 |len=>
  show bt c i r _ (mN (oH yP (oH Bz (q7 .len))) u0)
  rw[q_,q_];refine bt.alt ?_ (bt.alt ?_ ?_)
  .refine il qy F J aaq (by decide) (by decide) L p z ?_
   intro P vs A Z E b Q S s g;unfold yP at g;split at g
   .split at g
    .rename_i M U
     obtain⟨v,h,rfl,t,w⟩:=s.cons_inv;rw[w.nil_inv];obtain⟨e,N,rfl,O,R⟩:=jR (G:=c.K) S t U;exact⟨e,N,rfl,O,by rw[R.length];exact b_.ret S (a4 rfl) g⟩
    .exact g.elim
   .exact g.elim
  .refine il yo F J aaq (by decide) (by decide) L p z ?_
   intro P vs A Z E b Q S s g;unfold Bz at g;split at g
   .split at g
    .rename_i y V
     obtain⟨v,h,rfl,t,w⟩:=s.cons_inv;rw[w.nil_inv];simp only[aw]at t;obtain⟨a,z,rfl⟩:=t;obtain⟨a',B,m,X,Y⟩:=S.cell V;rw[z]at B;cases B
     exact⟨a,m,rfl,.inl X,by rw[Y.length];exact b_.ret S (a4 rfl) g⟩
    .rename_i y V
     obtain⟨v,h,rfl,t,w⟩:=s.cons_inv;rw[w.nil_inv];simp only[aw]at t;obtain⟨a,z,rfl⟩:=t;obtain⟨a',B,of,m,X,Y⟩:=S.cell V;rw[z]at B;cases B
     exact⟨a,m,rfl,.inr ⟨of,X⟩,by rw[Y.length];exact b_.ret S (a4 rfl) g⟩
    .exact g.elim
   .exact g.elim
  .refine il qz F J aaq (by decide) (by decide) L p z ?_
   intro a0 b0 A Z E b Q S s g;obtain⟨M,c0,d,C,o,k⟩:=jS (v:=false) S s g;have C:=iD C;have D:=dP S;replace o:Jv M=_:=o;unfold Jv at o;split at o
   .obtain⟨x,rfl,n⟩:=C.one
    cases dw n;split at o
    .rename_i hs
     cases o;exact⟨_,rfl,bK hs,kx D k rfl⟩
    .cases o
   .cases o
 |all=>
  refine il (AY u) F J boot_all (by decide) (by decide) L p z ?_
  intro a0 b0 A Z E b Q S s g;obtain⟨M,c0,d,C,o,k⟩:=jS (v:=false) S s g;have C:=iD C;have D:=dP S;replace o:Jw M=_:=o;unfold Jw at o;split at o
  .obtain⟨x,rfl,n⟩:=C.one
   split at o
   .rename_i bs hb
    cases o;exact⟨_,_,bs,x,rfl,n,hb,kx D k rfl⟩
   .cases o
  .cases o
 |any=>
  refine il (AZ u) F J boot_any (by decide) (by decide) L p z ?_
  intro a0 b0 A Z E b Q S s g;obtain⟨M,c0,d,C,o,k⟩:=jS (v:=false) S s g;have C:=iD C;have D:=dP S;replace o:Jx M=_:=o;unfold Jx at o;split at o
  .obtain⟨x,rfl,n⟩:=C.one
   split at o
   .rename_i bs hb
    cases o;exact⟨_,_,bs,x,rfl,n,hb,kx D k rfl⟩
   .cases o
  .cases o
 |int=>simp at T
 |min=>simp at T
 |max=>simp at T
 |list=>
  show bt c i r _ (mN (oH gh pK) u0)
  rw[q_]
  refine bt.alt ?_ (ip (uG u) F J abC (by decide) (by decide) L p z λP vs A Z E b Q S s g=>by
    unfold pK at g;split at g
    .split at g
     .rename_i y V
      obtain⟨v,h,rfl,t,w⟩:=s.cons_inv;rw[w.nil_inv];obtain⟨a,m,rfl,X,Y⟩:=jQ S t V;refine⟨a,_,rfl,X,eL S ?_ g⟩
      have:∀{y:List _}{m:List _},jJ (aw A Z b) y m->aI (aw A Z b) (y.map λkv=>kE kv.1) (m.map λkv=>kV kv.1):=λ{y m} q=>by
       induction q with
       |nil=>exact .nil
       |@cons H q _ _ hq _ ih=>
        refine .cons ?_ ih
        show aw A Z b (kE _) (kV _)
        rw[hq.1];cases q.1<;>simp only[kE,kV,aw]
      exact this Y
     .exact g.elim
    .exact g.elim)
  refine ip jE F J abC (by decide) (by decide) L p z ?_
  intro P vs A Z E b Q S s g;have g:b_ i r A Z b (gh P E) Q:=g;unfold gh at g;split at g
  .split at g
   .rename_i M U
    obtain⟨v,h,rfl,t,w⟩:=s.cons_inv;rw[w.nil_inv];obtain⟨e,N,rfl,O,R⟩:=jR (G:=c.K) S t U;exact⟨e,N,rfl,O,eL S R g⟩
   .exact g.elim
  .exact g.elim
 |tuple=>
  refine ip ou F J boot_tuple (by decide) (by decide) L p z ?_
  intro P vs A Z E b Q S s g;have g:b_ i r A Z b (vd P E) Q:=g;unfold vd at g;split at g
  .obtain⟨v,h,rfl,t,w⟩:=s.cons_inv
   rw[w.nil_inv];have d0:=t;obtain⟨e,N,rfl,_,O,R⟩:=ej t;exact⟨e,N,rfl,.inr ⟨uQ (.inl O),b_.ret S d0 g⟩⟩
  .split at g
   .rename_i M U
    obtain⟨v,h,rfl,t,w⟩:=s.cons_inv;rw[w.nil_inv];obtain⟨e,N,rfl,O,R⟩:=bz S t U;exact⟨e,N,rfl,.inl ⟨lA O,tf S R g⟩⟩
   .exact g.elim
  .exact g.elim
 |sorted=>simp at T
 |bool=>simp at T
def TL(t):=kC λd=>match AG d t with|some b=>.ok (false,.bl b)|none=>.bad
noncomputable def Fq(t:Ty)(x:D)(a:aG):ay D:=match x with
 |.ref k=>match a[k]? with
  |some (.lst _)=>.ok (.bl (t==.list)) a
  |some (.dK _)=>.ok (.bl (t==.dict)) a
  |_=>.bad
 |.lst _=>.ok (.bl (t==.list)) a
 |.tup _=>.ok (.bl (t==.tuple)) a
 |_=>.bad
def fx(t):=EV (Fq t) (TL t)
def HU(K:M'):List V->Hp->VK->Prop:=λd H Q=>∃a c t,d=[.ref a,.ty (Ty.id t)]/\((Rd H a (.lst c)/\Q (.bl (t==.list)) H)\/(Rd H a (.tup c)/\Q (.bl (t==.tuple)) H)\/(∃b,H a=some (.dK b)/\Q (.bl (t==.dict)) H))
theorem yQ:eT c (.builtin "isinstance") (HU c.K):=by
 intro pins s j H p w Q I r h;obtain⟨a,x,t,rfl,h⟩:=h;obtain⟨u,y,rfl,f,k⟩:=vals2 r;cases (k);refine dH (wx c.K t) λA B C D i g=>xa g λl m=>?_
 rcases h with ⟨b,q⟩|⟨b,q⟩|⟨n,b,q⟩
 .have e:∀d,EP c _ j Q _ _:=λd=>⟨.bl _,H,I.tok d,rfl,q⟩
  rcases b with b|⟨o,b⟩
  .exact de I f (.lst b) i e
  .exact de I f (.dZ b) i e
 .cases f
  exact ü aaT I.eR (lB (K:=c.K) I b) l (λz=>nomatch z) (λd=>⟨.bl _,H,I.tok d,rfl,q⟩)
 .exact de I f (.dK b) m (λd=>⟨.bl _,H,I.tok d,rfl,q⟩)
variable{D3:Ty}{S0:T'}
theorem Fs(D:Gl c "isinstance")(E:c.mg "isinstance"=none)(w:Gl c D3.nm)(y:c.mg D3.nm=none)(t:F' [j,ŉ D3.nm S0] c.env=(false,eval j c.env)::F' [ŉ D3.nm S0] c.env)(h:(Æ l (F' [ŉ D3.nm S0] c.env)).any (·.1)=false)(u:bt c i r j p):
  bt c i r (.Call (.Name "isinstance" H) [j,.Name D3.nm S0] [] l) (m1 (fx D3) p):=by
 have m:PE c (.Name D3.nm S0) (tC (.ty D3.id)):=DR w y (by cases D3<;>decide +kernel) rfl (by cases D3<;>decide) (by cases D3<;>decide)
 unfold fx;rw[Jo];refine bt.alt ?_ ?_
 .refine jM (wM:=λx a Q=>HU c.K [x,.ty D3.id] a Q) (λI z=>mR yQ D E aaf (eD z (eD m kj rfl) t) (by decide) (by decide) t h) u ?_
  intro J x L Z M a Q S f g;unfold Fq at g;split at g
  .split at g
   .rename_i k A B
    obtain⟨j,n,rfl,e,F⟩:=bz (q:=A) S f (by simp only[dm,B])
    exact⟨j,n,D3,rfl,.inl ⟨e,b_.ret S (a4 rfl) g⟩⟩
   .rename_i k N B
    obtain⟨j,u,rfl⟩:=f;refine bD (S.cell B) λR o C=>bD C λs e _=>?_
    rw[u]at o;cases o
    exact⟨j,[],D3,rfl,.inr (.inr ⟨s,e,b_.ret S (a4 rfl) g⟩)⟩
   .exact g.elim
  .rename_i A
   obtain⟨j,n,rfl,e,F⟩:=bz (q:=A) S f rfl;exact⟨j,n,D3,rfl,.inl ⟨e,b_.ret S (a4 rfl) g⟩⟩
  .obtain⟨j,n,rfl,_,e,F⟩:=ej f
   exact⟨j,n,D3,rfl,.inr (.inl ⟨.inl e,b_.ret S (a4 rfl) g⟩)⟩
  .exact g.elim
 .refine jM (wM:=λx a Q=>MT c.K [x,.ty D3.id] a Q) (λI z=>mR A4 D E aaf (eD z (eD m kj rfl) t) (by decide) (by decide) t h) u ?_
  intro J x L Z M a Q S f g;refine cg (nz (v:=false) S f g) λd O T P G k=>?_
  cases q:AG d D3 with
  |none=>simp_all
  |some b=>
   rw[q]at G;cases G;exact⟨_,d,x,D3,b,rfl,P,q,kx (dP S) k rfl⟩
def d_(b:aG->D->Bool)(f:D->List D->aG->ay D)(e:EM)(g:AM):EM:=λd h=>(e d h).bind λx a=>if b a x=true then (g d a).bind λi c=>f x i c else .bad
def kF(a x):=(dm a x).isSome
noncomputable def Nj(_:aG)(x:D):=match x with
 |.str _=>true
 |_=>false
theorem kG(S:bH i u n a e)(r:aw u n e m x)(h:kF a m=true):LK G "list" x e:=by
 unfold kF at h;cases q:dm a m with
 |none=>simp_all
 |some f=>
  obtain⟨b,c,rfl,d,g⟩:=bz S r q;exact .inl ⟨rfl,c,lA d⟩
variable{E5:String}{Q8:aG->D->Bool}{Z7:V->List V->Hp->VK->Prop}{w9:D->List D->aG->ay D}
theorem Fu(w:ϰ G3)(slot:ϱ G3 d E5)(k:ϲ (.builtin E5)=pure (.type "method_descriptor"))(y:Ms c E5 Z7)(z:∀x v b Z e a,bH i b Z e a->aw b Z a x v->Q8 e x=true->LK c.K G3 v a)(A:∀x v xs o b Z e a Q,bH i b Z e a->aw b Z a x v->aI (aw b Z a) xs o->b_ i r b Z a (w9 x xs e) Q->Z7 v o a Q)(f:ĉ j d c.env (eval j c.env)=eval j c.env)(h:(l.endLine==H.line)=true)(B:bt c i r j p):bt c i r (.Call (.Attribute j d l) [] [] H) (d_ Q8 w9 p ag):=by
 intro m C D E e;refine PE.imp (L2.Ad w slot k y (B m C D E e) f h) ?_;rintro J a Q ⟨b,Z,S,g⟩;refine⟨b,Z,S,b_.use g λx F _ v q G s L t u n=>?_⟩
 split at n
 .rename_i I
  exact⟨z x v _ s _ q t u I,A x v [] [] _ s _ q Q t u .nil n⟩
 .exact n.elim
theorem vf{a env}:∀{b},(∀e∈b,isStar e=false)->((Æ a (F' b env)).all (λx=>!x.1))=true
 |[],_=>rfl
 |e::b,h=>by
  rw[bx (h e (by simp))]
  show(!false&&(Æ _ _).all _)=true
  rw[vf (by grind)];rfl
theorem nE(B:ϰ G3)(slot:ϱ G3 d E5)(o:ϲ (.builtin E5)=pure (.type "method_descriptor"))(C:Ms c E5 Z7)(hT:∀x v b Z e a,bH i b Z e a->aw b Z a x v->Q8 e x=true->LK c.K G3 v a)(D:∀x v xs n b Z e a Q,bH i b Z e a->aw b Z a x v->aI (aw b Z a) xs n->b_ i r b Z a (w9 x xs e) Q->Z7 v n a Q)(f:ĉ O d c.env (eval O c.env)=eval O c.env)(h:(l.endLine==H.line)=true)(E:bt c i r O p)(F:s_ c i r (j::I) u0)(q:∀z∈j::I,isStar z=false)(t:(j::I).length<20):bt c i r (.Call (.Attribute O d l) (j::I) [] H) (d_ Q8 w9 p u0):=by
 intro k u w y e
 refine PE.imp (L2.Mx B slot o C (E k u w y e) (PA.ex λm=>F k u w y m) f (by
  rw[vf q,decide_eq_true (by grind)];rfl) h (bx (by simp_all)) (bJ (by grind))) ?_
 rintro σ a Q ⟨b,Z,S,g⟩;refine⟨b,Z,S,b_.use g λx m _ v H1 G J L A M s=>?_⟩
 split at s
 .exact⟨by grind,_,_,J,S.grow L A,oE.use s λxs N _ n P R T U V X Y=>D x v xs n _ T _ P Q V (A.cP U M) X Y⟩
 .exact s.elim
noncomputable def oJ(a:aG):D->Option (Nat×List D)
 |.ref k=>match a[k]? with
  |some (.lst b)=>some (k,b)
  |_=>none
 |_=>none
theorem gj(S:bH i u n a e)(r:aw u n e m x)(h:oJ a m=some (b,q)):∃c d,x=.ref c/\u[b]?=some c/\e c=some (.lst d)/\aI (aw u n e) q d:=by
 cases m with
 |ref f=>
  simp only[oJ]at h;split at h
  .rename_i j k
   simp only[aw]at r;refine bD (S.cell k) λo l g=>bD g λd p s=>?_
   simp_all
  .cases h
 |_=>cases h
variable{W4:List V}{h:b'}
theorem iq(S:bH i u n a e)(j:u[b]?=some h)(p:e h=some (.lst W4))(d:aI (aw u n e) q N)(k:aw u n e m x)(g:b_ i r u n e (.ok m (a.set b (.lst q))) η):η x (upd e h (.lst N)):=by
 obtain⟨l,f⟩:=S.put (c:=.lst q) j (λo x z=>by simp_all) λR hR=>⟨N,aS,d.imp hR⟩
 exact g _ _ _ _ f l (S.cP f k)
def bT(x:D)(xs:List D)(a:aG):ay D:=match oJ a x,xs with
 |some (k,b),[y]=>if small (b.length+1)then .ok .non (a.set k (.lst (b++[y])))else .bad
 |_,_=>.bad
def nF(x:D)(xs:List D)(a:aG):ay D:=match oJ a x,xs with
 |some (k,_),[]=>.ok .non (a.set k (.lst []))
 |_,_=>.bad
def eO(x:D)(xs:List D)(a:aG):ay D:=match oJ a x,xs with
 |some (k,b),[]=>.ok .non (a.set k (.lst b.reverse))
 |_,_=>.bad
def iE(x:D)(xs:List D)(a:aG):ay D:=match oJ a x,xs with
 |some (k,b),[.int i,y]=>if small (b.length+1)&&oz i then .ok .non (a.set k (.lst (qH b i y)))else .bad
 |_,_=>.bad
def iF(x:D)(xs:List D)(a:aG):ay D:=match oJ a x,xs with
 |some (k,b),[y]=>match oJ a y with
  |some (_,c)=>if small (b.length+c.length)then .ok .non (a.set k (.lst (b++c)))else .bad
  |none=>.bad
 |_,_=>.bad
def ir(x)(xs:List D)(c:aG):=match xs with
 |[y]=>iS (λa b=>match a with|.lst d=>uP .index (.lst d) (.tup [b])|_=>.bad) x y c
 |_=>.bad
def tq(x)(xs:List D)(c:aG):=match xs with
 |[y]=>iS (λa b=>uP .join a (.tup [b])) x y c
 |_=>.bad
theorem iG(h:aI x6 [m] N):∃v,N=[v]/\x6 m v:=by
 obtain⟨v,r,rfl,b,a⟩:=h.cons_inv;rw[a.nil_inv];simp_all
theorem rb(h:aI x6 [m,Y] N):∃v w,N=[v,w]/\x6 m v/\x6 Y w:=by
 obtain⟨v,r,rfl,b,a⟩:=h.cons_inv;obtain⟨w,rfl,c⟩:=iG a
 grind
theorem yR(S:bH i u n a e)(b:aw u n e m x)(rs:aI (aw u n e) q N)(g:b_ i r u n e (bT m q a) η):v8 x N e η:=by
 unfold bT at g;split at g
 .rename_i k t y j
  obtain⟨c,l,rfl,o,f,h⟩:=gj S b j;obtain⟨d,rfl,p⟩:=iG rs;split at g
  .rename_i s
   have:=bK s;exact⟨c,l,d,rfl,rfl,f,by rwa[h.length],iq S o f (h.append (.one p)) (a4 rfl) g⟩
  .exact g.elim
 .exact g.elim
theorem BC(S:bH i u n a e)(b:aw u n e m x)(rs:aI (aw u n e) q N)(g:b_ i r u n e (nF m q a) η):uD x N e η:=by
 unfold nF at g;split at g
 .rename_i k l f
  obtain⟨c,h,rfl,j,d,o⟩:=gj S b f;rw[rs.nil_inv];exact⟨c,h,rfl,rfl,d,iq S j d .nil (a4 rfl) g⟩
 .exact g.elim
theorem vg(S:bH i u n a e)(b:aw u n e m x)(rs:aI (aw u n e) q N)(g:b_ i r u n e (eO m q a) η):Ag x N e η:=by
 unfold eO at g;split at g
 .rename_i k o f
  obtain⟨c,h,rfl,j,d,l⟩:=gj S b f;rw[rs.nil_inv];exact⟨c,h,rfl,rfl,d,iq S j d l.reverse (a4 rfl) g⟩
 .exact g.elim
theorem yS(S:bH i u n a e)(b:aw u n e m x)(rs:aI (aw u n e) q N)(g:b_ i r u n e (iE m q a) η):wC x N e η:=by
 unfold iE at g;split at g
 .rename_i k A c y o
  obtain⟨d,p,rfl,s,l,f⟩:=gj S b o;obtain⟨h,w,rfl,t,z⟩:=rb rs;subst t;split at g
  .rename_i j
   simp at j;have:=bK j.1;have B:=sJ j.2;refine⟨d,p,c,w,rfl,rfl,l,by omega,by omega,by rwa[f.length],iq S s l ?_ (a4 rfl) g⟩
   unfold qH;rw[f.length];exact(f.take _).append (.cons z (f.drop _))
  .exact g.elim
 .exact g.elim
theorem yT(S:bH i u n a e)(c:aw u n e m x)(rs:aI (aw u n e) q N)(g:b_ i r u n e (iF m q a) η):v_ x N e η:=by
 unfold iF at g;split at g
 .rename_i k D y p
  obtain⟨d,s,rfl,t,j,l⟩:=gj S c p;obtain⟨f,rfl,w⟩:=iG rs;split at g
  .rename_i h E z
   obtain⟨b,A,rfl,F,B,o⟩:=gj S w z;split at g
   .rename_i C
    exact⟨d,b,s,A,rfl,rfl,j,B,by rw[l.length,o.length];exact bK C,iq S t j (l.append o) (a4 rfl) g⟩
   .exact g.elim
  .exact g.elim
 .exact g.elim
theorem BD(S:bH i u n a e)(c:aw u n e m x)(rs:aI (aw u n e) q N)(g:b_ i r u n e (ir m q a) η):A6 x N e η:=by
 unfold ir at g;split at g
 .obtain⟨f,rfl,p⟩:=iG rs
  refine bF (ic (v:=false) S c p g) λd h s A t w l=>xa l λb k=>?_
  cases d with
  |lst y=>
   (unfold uP at b;dsimp only at b)
   split at b
   .rename_i o
    simp only[Ú]at o;split at b
    .rename_i j z
     cases b;exact⟨_,y,h,f,j,rfl,t,w,o.1,o.2,z,kx (dP S) k rfl⟩
    .cases b
   .cases b
  |_=>cases b
 .exact g.elim
theorem Fv(S:bH i u n a e)(f:aw u n e m x)(rs:aI (aw u n e) q N)(g:b_ i r u n e (tq m q a) η):rJoin x N e η:=by
 unfold tq at g;split at g
 .obtain⟨h,rfl,o⟩:=iG rs
  refine bF (ic (v:=false) S f o g) λd b p B s t j=>xa j λc k=>?_
  cases d with
  |str z=>
   cases dw s;cases b with
   |lst w=>
    (unfold uP at c;dsimp only at c)
    split at c
    .rename_i y A
     split at c
     .rename_i l
      cases c;simp at l;exact⟨z,_,w,y,h,rfl,rfl,t,A,l.1,l.2,kx (dP S) k rfl⟩
     .cases c
    .cases c
   |_=>cases c
  |_=>cases b<;>cases c
 .exact g.elim
inductive Src where
 |zip (x y:D)|seq (x:D)|ints (lo:Int) (n:Nat)|chars (z:Str)|Qd (x:D)|keys (k:Nat)|items (k:Nat)
noncomputable def oK(xs c:List D):Option (List D):=if xs.length=c.length then some (Ŋ (λa b=>.tup [a,b]) xs c)else none
def BE(c:aG):D->D->Option (List D)
 |.tup a,.tup b=>oK a b
 |x,y=>match dm c x,dm c y with
  |some a,some b=>oK a b
  |_,_=>none
def ek:Src->aG->Option (List D)
 |.zip x y,a=>BE a x y
 |.seq x,a=>ig a x
 |.ints e n,_=>some (intsFrom e n)
 |.chars z,_=>some (z.cps.toList.map λc=>.str (bS c))
 |.Qd x,a=>(dm a x).map (eX 0)
 |.keys k,a=>match a[k]? with
  |some (.dF b)=>some (b.map λd=>kE d.1)
  |_=>none
 |.items k,a=>match a[k]? with
  |some (.dF b)=>some (b.map λd=>.tup [kE d.1,d.2])
  |_=>none
abbrev IM:=bo->aG->ay Src
def yU(j:Str->b'->Prop)(s)(J:It)(k:List b')(Z:b'->Prop)(H):=∀a f b c g,cM k Z H a f c->bH j a f b c->ek s b=some g ->
 (∀i d,g[i]?=some d->J.go i c/\∀x e,J.Pp i c x e->∃h,cM a f c a h e/\bH j a h b e/\aw a h e d x)/\∀i,g.length<=i->J.stop i c
def oM(e:Str->b'->Prop)(Φ:iP)(f:List b')(Z:b'->Prop)(H)(r:ay Src)(R:It->Hp->Prop):=match r with
 |.ok s b=>∀J c a d,cM f Z H a d c->bH e a d b c->yU e s J a d c->R J c
 |.exc x b=>∀c a d,cM f Z H a d c->bH e a d b c->Φ x b a d c
 |.bad=>False
noncomputable def Za(b:Str->b'->Prop)(Φ:iP)(a:List b')(f:b'->Prop)(g:Hp)(m:IM)(c:bo)(d:aG):TI:=λh H R=>∃e Z,cS b a f g e Z d c h H/\oM b Φ e Z H (m c d) R
def yV(X)(b:Str->b'->Prop)(Φ c e m):=∀a d f g h,PI X c e (Za b Φ a d f m g h)
def srcOf(a:aG)(x:D):ay Src:=match ig a x,x with
 |some _,x=>.ok (.seq x) a
 |none,.str z=>.ok (.chars z) a
 |none,.ref k=>(match a[k]? with
  |some (.dK b)=>.ok (.keys k) (a.set k (.dF b))
  |some (.dF _)=>.ok (.keys k) a
  |_=>.bad)
 |none,_=>.bad
def bg(m:EM):IM:=λb c=>(m b c).bind λx a=>srcOf a x
noncomputable def wU(a:aG)(x:D):ay Src:=match x with
 |.ref k=>(match a[k]? with
  |some (.dK b)=>.ok (.items k) (a.set k (.dF b))
  |some (.dF _)=>.ok (.items k) a
  |_=>.bad)
 |_=>.bad
def rf(m:EM):IM:=λb c=>(m b c).bind λx a=>wU a x
def tr(m:EM):IM:=λb c=>(m b c).bind λx a=>match dm a x with
 |some _=>.ok (.Qd x) a
 |none=>.bad
noncomputable def Jy:D->D->Bool
 |.tup _,.tup _=>true
 |_,_=>false
def HV(xs:List D)(a:aG):ay Src:=match xs with
 |[x,y]=>match BE a x y with
  |some _=>.ok (.zip x y) a
  |none=>.bad
 |_=>.bad
def vh(a:AM):IM:=λb c=>(a b c).bind HV
def wV(xs:List D)(a:aG):ay Src:=match xs with
 |[.int j]=>if oz j then .ok (.ints 0 j.toNat) a else .bad
 |_=>.bad
def di(a:AM):IM:=λb c=>(a b c).bind wV
variable{L6:It->Hp->Prop}
theorem oM.from{a}(g:cM u n e A0 P1 ξ)(h:oM i r u n e a L6):oM i r A0 P1 ξ a L6:=by
 cases a with
 |ok d b=>exact λv c f j k=>h v c _ j (g.trans k)
 |exc x b=>exact λc f j k=>h c _ j (g.trans k)
 |bad=>exact h
theorem oM.use{f}(h:oM i r u n e (v4.bind f) L6)(k:∀d a,v4=.ok d a->∀v c b j,cM u n e b j c->bH i b j a c->aw b j c d v->oM i r b j c (f d a) L6->η v c):b_ i r u n e v4 η:=by
 cases v4 with
 |ok d a=>exact λv c b j g s q=>k d _ rfl v c _ j g s q (oM.from g h)
 |exc x a=>exact h
 |bad=>exact h
theorem tv(t:aw u n e m (.ref h))(S:bH i u n a e)(w:(dm a m).isSome=true):yU i (.seq m) (SD G h) u n e:=by
 intro x z f F A g s B;have C:∀j,m≠.tup j:=λj b=>by subst b;cases w
 have k:dm f m=some A:=by
  cases m with
  |tup j=>grind
  |_=>exact B
 obtain⟨H,l,b,o,q⟩:=bz s (S.cP g t) k;cases b;refine⟨λc d D=>?_,λc I=>⟨l,lA o,by rwa[q.length]⟩⟩
 obtain⟨v,r,E⟩:=q.get D;refine⟨⟨l,v,lA o,r⟩,λy J p=>?_⟩
 obtain⟨rfl,p⟩:=p;have:=p l (lA o);rw[r]at this;cases this;exact⟨z,cM.refl s.has,s,E⟩
variable{υ:Obj}
theorem tw(A:u[b]?=some h)(B:e h=some (.dZ υ (.dK E4))):yU i (.keys b) (MD h υ) u n e:=by
 intro C D E I J g s k;have a:=g.dZ h _ _ B;simp only[ek]at k;split at k
 .rename_i o F
  cases k;refine bD (s.cell F) λK f l=>cW l λL r t w=>?_
  rw[(g.pre b h A)]at f;cases f
  rw[a]at t;cases t
  have M:=w.length;refine⟨λc d y=>?_,λc N=>⟨_,a,by simp_all⟩⟩
  rw[î]at y;obtain⟨p,G,rfl⟩:=å.mp y;obtain⟨q,z,H,_⟩:=aI.get w G;refine⟨⟨_,a,mK z⟩,λx O m=>?_⟩
  obtain⟨rfl,m⟩:=m;obtain⟨P,j,rfl⟩:=m _ a;rw[z]at j;cases j
  refine⟨D,cM.refl s.has,s,?_⟩;rw[H];cases q.1<;>simp only[kE,kV,aw]
 .cases k
theorem pM(B:u[b]?=some h)(C:e h=some (.dZ υ (.dK E4))):yU i (.items b) (MY h υ) u n e:=by
 intro D M E N O g s k;have a:=g.dZ h _ _ C;simp only[ek]at k;split at k
 .rename_i r F
  cases k;refine bD (s.cell F) λP f l=>cW l λQ t w y=>?_
  rw[(g.pre b h B)]at f;cases f
  rw[a]at w;cases w
  have R:=y.length;refine⟨λc d z=>?_,λc S=>⟨_,a,by simp_all⟩⟩
  rw[î]at z;obtain⟨p,G,rfl⟩:=å.mp z;obtain⟨q,H,I,J⟩:=aI.get y G;refine⟨⟨_,a,by grind⟩,λx T m=>?_⟩
  obtain⟨K,rfl,o,m⟩:=m;obtain⟨U,j,rfl⟩:=m _ a;rw[H]at j;cases j
  obtain⟨L,A⟩:=s.pG o True;refine⟨_,A,L,?_⟩;refine⟨K,_,rfl,.inr rfl,aS,cG.mpr (.cons ?_ (.one (s.cP A J)))⟩;rw[I];cases q.1<;>simp only[kE,kV,aw]
 .cases k
variable{D4:List D}
theorem zip_get{e}(h:oK q D4=some e):q.length=D4.length/\e.length=q.length/\∀(i:Nat) d,e[i]?=some d->∃a b,q[i]?=some a/\D4[i]?=some b/\d=.tup [a,b]:=by
 unfold oK at h;split at h
 .rename_i g
  cases h;refine⟨g,by simp[g],λi d c=>?_⟩
  rw[abD]at c;cases f:q[i]? with
  |none=>rw[f]at c;cases c
  |some a=>
   cases j:D4[i]? with
   |none=>rw[f,j]at c;cases c
   |some b=>rw[f,j]at c;cases c;exact⟨a,b,rfl,rfl,rfl⟩
 .cases h
theorem tA(S:bH i u n a e)(j:aw u n e m x)(k:aw u n e Y D1)(h:BE a m Y=some q):∃b c xs d f g,x=.ref b/\D1=.ref c/\wG (Jy m Y) e b f/\wG (Jy m Y) e c g/\oK xs d=some q/\aI (aw u n e) xs f/\aI (aw u n e) d g:=by
 have L:∀{m Y:D},aw u n e m x->aw u n e Y D1->(match dm a m,dm a Y with|some xs,some d=>oK xs d|_,_=>none)=some q->∃b c xs d f g,x=.ref b/\D1=.ref c/\wG false e b f/\wG false e c g/\oK xs d=some q/\aI (aw u n e) xs f/\aI (aw u n e) d g:=λ{m Y} j k h=>by
  split at h
  .rename_i xs d l o
   obtain⟨b,f,rfl,p,r⟩:=bz S j l;obtain⟨c,g,rfl,s,t⟩:=bz S k o;exact⟨b,c,xs,d,f,g,rfl,rfl,p,s,h,r,t⟩
  .cases h
 cases m with
 |tup xs=>
  cases Y with
  |tup d=>
   obtain⟨b,f,rfl,_,l,o⟩:=ej j;obtain⟨c,g,rfl,_,w,y⟩:=ej k;exact⟨b,c,xs,d,f,g,rfl,rfl,.inl l,.inl w,h,o,y⟩
  |_=>exact L j k h
 |_=>exact L j k h
variable{C:b'}
theorem Fw(S:bH i u n a e)(H:aw u n e m (.ref h))(I:aw u n e Y (.ref C)):yU i (.zip m Y) (SY (Jy m Y) h C) u n e:=by
 intro J K L X Z g s M;obtain⟨a',c',xs,ys,j,x,N,O,k,y,P,A,B⟩:=tA s (S.cP g H) (S.cP g I) M;cases N;cases O;obtain⟨hl,hd,Q⟩:=zip_get P;have l1:=A.length;have l2:=B.length;refine⟨λb d D=>?_,λb D=>⟨j,k,by omega⟩⟩
 obtain⟨p,q,R,T,rfl⟩:=Q b d D;obtain⟨v,E,U⟩:=A.get R;obtain⟨w,V,l⟩:=B.get T;refine⟨⟨j,x,k,y,by omega,(Ç.mp E).1⟩,λz H2 o=>?_⟩
 obtain⟨r,rfl,t,o⟩:=o;obtain⟨u',v',F,c,rfl⟩:=o j x k y;rw[E]at F;cases F
 rw[V]at c;cases c
 obtain⟨G,f⟩:=s.pG (h:=r) (M0:=.tup [v,w]) t True;simp only[if_true]at G f;refine⟨Zp K r,f,G,?_⟩;simp only[aw];exact⟨r,_,rfl,.inr rfl,aS,cG.mpr (.cons (s.cP f U) (.one (s.cP f l)))⟩
variable{J7:List V->Hp->Prop}{t8:ay (List D)}
theorem oM.TM{f}(h:oM i r u n e (t8.bind f) L6)(k:∀l a,t8=.ok l a->∀m c b j,cM u n e b j c->bH i b j a c->aI (aw b j c) l m->oM i r b j c (f l a) L6->J7 m c):oE i r u n e t8 J7:=by
 cases t8 with
 |ok d a=>exact λv c b j g s q=>k d a rfl v c b j g s q (oM.from g h)
 |exc x a=>exact h
 |bad=>exact h
theorem Fx(p:Gl c "zip")(q:c.mg "zip"=none)(s:s_ c i r [j,O] u0)(t:F' [j,O] c.env=(false,eval j c.env)::F' [O] c.env)(e:(Æ S0 (F' [O] c.env)).any (·.1)=false):
  yV c i r (.Tuple I b l) (.Call (.Name "zip" H) [j,O] [] S0) (vh u0):=by
 intro f u z A B;refine PI.imp (Jk p q (s f u z A B) t e) ?_;rintro U h R ⟨C,Z,S,g⟩;refine⟨C,Z,S,oM.TM g λD E _ m F k G V d J a=>?_⟩
 unfold HV at a;split at a
 .rename_i x y
  split at a
  .rename_i X K
   obtain⟨v,w,rfl,n,o⟩:=rb J;obtain⟨L,M,D,Y,m,N,rfl,rfl,P,Q,T,r3,r4⟩:=tA d n o K;exact⟨L,M,_,m,N,rfl,P,Q,a _ F k G (cM.refl d.has) d (Fw d n o)⟩
  .exact a.elim
 .exact a.elim
theorem Fy(h:bt c i r j p):yV c i r O j (bg p):=by
 intro M Z0 H0 ρ Ω;refine PI.imp (EE (h M Z0 H0 ρ Ω)) ?_;rintro σ H R ⟨α,Z,S,g⟩;refine⟨α,Z,S,oM.use g λx F _ v E f w g1 e A k=>?_⟩
 cases x with
 |tup es=>
  obtain⟨a,t,rfl,_,l,B⟩:=ej A
  exact .inr (.inl ⟨a,t,rfl,.inl l,k _ E f w (cM.refl e.has) e (by
    intro f w F E V g s N;cases N;refine a8 (ej (e.cP g A)) λX t j _ l B=>?_
    cases j;refine⟨λb d G=>?_,λb P=>⟨t,uQ (.inl l),by rwa[B.length]⟩⟩
    refine bD (B.get G) λv Y rv=>?_
    refine⟨⟨t,v,uQ (.inl l),Y⟩,λy H2 I=>?_⟩
    obtain⟨rfl,I⟩:=I;have:=I t (uQ (.inl l));rw[Y]at this;cases this;exact⟨w,cM.refl s.has,s,rv⟩)⟩)
 |lst es=>
  obtain⟨a,t,rfl,l,B⟩:=bz e A rfl;exact .inl ⟨a,t,rfl,l,k _ E f w (cM.refl e.has) e (tv A e rfl)⟩
 |ref n=>
  cases C:dm F (.ref n)with
  |none=>
   simp only[srcOf,ig,C]at k;obtain⟨a,J,rfl⟩:=A;split at k
   .rename_i K Q
    obtain⟨X,q,m,l,B⟩:=e.cell Q;rw[J]at q;cases q
    refine .inr (.inr (.inr ⟨a,m,rfl,.inl ⟨l,λo=>?_⟩⟩))
    obtain⟨L,g2⟩:=e.put (c:=.dF K) J (λo u z=>by simp_all) λR hR=>⟨o,m,aS,B.imp hR⟩
    exact k _ _ f w g2 L (tw J aS)
   .rename_i K Q
    refine bD (e.cell Q) λX q T=>cW T λo m l B=>?_
    rw[J]at q;cases q
    exact .inr (.inr (.inr ⟨a,m,rfl,.inr ⟨o,l,k _ E f w (cM.refl e.has) e (tw J l)⟩⟩))
   .exact k.elim
  |some V=>
   simp only[srcOf,ig,C]at k;obtain⟨a,t,rfl,l,B⟩:=bz e A C;exact .inl ⟨a,t,rfl,l,k _ E f w (cM.refl e.has) e (tv A e (by simp_all))⟩
 |str z=>
  subst A;refine .inr (.inr (.inl ⟨z,rfl,k _ E f w (cM.refl e.has) e ?_⟩));intro a0 Z2 b0 H2 V g2 L N;cases N;refine⟨λb d G=>?_,λb P=>by show z.cps.size<=b;simp_all⟩
  have P:b<z.cps.size:=by
   grind
  refine⟨P,λy H3 I=>?_⟩
  obtain⟨rfl,D,hc,rfl⟩:=I;rw[î]at G;have U:z.cps.toList[b]?=some D:=by simp_all
  rw[U]at G;cases G;exact⟨Z2,cM.refl L.has,L,a4 rfl⟩
 |non=>exact k.elim
 |bl _=>exact k.elim
 |int _=>exact k.elim
 |dct _ _=>exact k.elim
theorem BF:yU i (.ints Q b) (Pq Q b) u n e:=by
 intro h j k o p g s l;cases l;refine⟨λa d f=>?_,λa c=>by rwa[jG]at c⟩
 have c:=(Ç.mp f).1;rw[jG]at c;refine⟨c,λy q m=>?_⟩
 obtain⟨rfl,rfl⟩:=m;rw[ints_get _ _ _ _ f];exact⟨j,cM.refl s.has,s,a4 rfl⟩
theorem oM.TN{f}(h:oM i r u n e (t8.bind f) L6)(k:∀l a,t8=.ok l a->∀m c b j,cM u n e b j c->bH i b j a c->aI (aw b j c) l m->oM i r b j c (f l a) L6->J7 m c):oE i r u n e t8 J7:=by
 cases t8 with
 |ok d a=>exact λv c b j g s q=>k d _ rfl v c _ j g s q (oM.from g h)
 |exc x a=>exact h
 |bad=>exact h
noncomputable def lV(n:Nat)(d:D):Option bo:=match n,d with
 |0,d=>some [some d]
 |n,.tup a=>if a.length=n then some (a.map some)else none
 |_,_=>none
noncomputable def ed(a:List Nat)(b:bo):bo:=a.map λi=>(b[i]?).join
def gY(b)(c:EM)(d a):=if b=true then .ok true a else dk (c d a)
def rg(g:Bool)(h j:EM)(n:Nat)(e:bo)(b:Src):Nat->Nat->List D->aG->ay (List D)
 |0,_,_,_=>.bad
 |f+1,i,a,k=>match ek b k with
  |none=>.bad
  |some o=>match o[i]? with
   |none=>.ok a k
   |some d=>match lV n d with
    |none=>.bad
    |some m=>if small (a.length+1)then match gY g h (m++e) k with
     |.ok true c=>match j (m++e) c with
      |.ok y l=>rg g h j n e b f (i+1) (a++[y]) l
      |_=>.bad
     |.ok false c=>rg g h j n e b f (i+1) a c
     |_=>.bad else .bad
def bB(e:EM)(f:Bool)(g:EM)(h:IM)(n:Nat)(b:List Nat):EM:=λd i=>match h d i with
 |.ok s a=>match rg f g e n (ed b d) s fuel 0 [] a with
  |.ok j c=>iQ c (.lst j)
  |_=>.bad
 |.exc x a=>.exc x a
 |.bad=>.bad
noncomputable def mw:iP:=λ_ _ _ _ _=>False
variable{A9:b'->Prop}{D8:List b'}{L:List Nat}{P7:Hp}
theorem tD(S:cS i A0 P1 ξ u n a t o0 e)(g:cM u n e D8 A9 P7)(s:bH i D8 A9 T P7)(r:aI (aw D8 A9 P7) q N):
  cS i D8 A9 P7 D8 A9 T (q.map some++ed L t) (N.map some++sO L o0) P7:=by
 have l:=r.length;refine⟨s,cM.refl s.has,?_,λb d h=>?_⟩
 .unfold sO ed
  simp_all
 .by_cases m:b<q.length
  .rw[ã (by simp_all),î]at h
   rw[ã (by simp_all)]
   cases c:q[b]? with
   |none=>simp_all
   |some o=>
    rw[c]at h;obtain⟨v,k,f⟩:=r.get c
    simp_all
  .rw[ē (by simp_all)]at h
   rw[ē (by simp_all)]
   unfold ed at h;unfold sO;rw[Í,î]at h;cases c:L[b - q.length]? with
   |none=>simp_all
   |some j=>
    obtain⟨v,k,f⟩:=S.val j d (by
     grind)
    refine⟨v,?_,S.st.cP g f⟩
    simp_all
variable{M0:HO}
theorem cM.HW(g:cM u n e A0 P1 ξ)(b:h∉u)(a:e h=some M0):h∉A0:=λq=>by
 rcases g.EU h q with q|q
 .exact b q
 grind
theorem cM.Jz(g:cM u n e A0 P1 ξ)(b:¬ n h)(a:e h=some M0):¬ P1 h:=λq=>by
 rcases g.new h q with q|q
 .exact b q
 grind
theorem cM.side(g:cM u n e A0 P1 ξ)(i:h∉u)(d:e h=Option.none):cM u n e A0 P1 (upd ξ h M0):=
 ⟨g.pre,g.sub,g.new,g.EU,λb c a f=>by rw[az (bf a d)];exact g.frm b c a f,λb f=>by rw[az (λ(q)=>i (by simp_all))];exact g.has b f,λb j c a=>by rw[az (bf a d)];exact g.dZ b j c a⟩
theorem Fz(h:lV b m=some t):∃a:List D,t=a.map some:=by
 unfold lV at h;split at h
 .cases h;exact⟨[m],rfl⟩
 .grind
 .cases h
theorem bH.part(S:bH i u n a e)(l:e h=some (.lst N))(o:h∉u)(hz:¬ n h)(r:aI (aw u n e) q N):bH i (u++[h]) n (a++[.lst q]) e:=by
 have mono:∀d v,aw u n e d v->aw (u++[h]) n e d v:=λd v r=>r.mono (λj g f=>by rwa[ã (mK f)]) (λ_ _ _ f=>f) λ_ z=>z
 refine⟨?_,?_,λg ha k=>?_,S.dom⟩
 .refine Ę.mpr ⟨S.qQ,by simp,λg ha b p f=>?_⟩
  simp_all
 .exact aI.append (S.zH.imp λc g m=>m.imp mono (λ_ f=>f) λ_ _ _ f=>f) (.one ⟨N,l,r.imp mono⟩)
 .rcases æ.mp ha with ha|ha
  .exact S.sep g ha k
  simp_all
theorem bH.side(S:bH i u n a e)(s:h∉u)(hz:¬ n h)(w:∀M0 j,e h≠some (.dZ M0 j)):bH i u n a (upd e h M0)/\∀d v,aw u n e d v->aw u n (upd e h M0) d v:=by
 have mono:∀d v,aw u n e d v->aw u n (upd e h M0) d v:=λd v r=>r.mono (λ_ _ g=>g) (λf j z g=>by rwa[az (λ(q)=>hz (by simp_all))]) λ_ z=>z
 have o:∀{m:List _}{l:List _},(∀f∈l,f∈u)->aI (λc f=>gV i (aw u n e) e f c) m l->aI (λc f=>gV i (aw u n (upd e h M0)) (upd e h M0) f c) m l:=by
  intro m l x y
  induction y with
  |nil=>exact .nil
  |@cons c f m l r t C=>
   have p:f≠h:=λq=>s (by simp_all)
   exact .cons (r.imp mono (λj g=>by rwa[az p]) λb A B g=>by rwa[az (λq=>w A B (by simp_all))]) (by simp_all)
 exact⟨⟨S.qQ,o (λf k=>k) S.zH,S.sep,λf z=>by rw[az (λ(q)=>hz (by simp_all))];exact S.dom f z⟩,mono⟩
variable{B1:IM}{g Δ:List Str}{u5:TG}{ε:V'}
theorem pN(t0:yV c i r j O B1)(u0:∀d (ds:List D) x w Z B H m k,lV b d=some (ds.map some)->bH i w Z B H->aw w Z H d x->(∀vs,aI (aw w Z H) ds vs->k (vs.map some++m) H)->u5 x (Ź g.length none++m) H k)(hb:∀T C h l fp,PG (blk c ε T C (g++Δ) h l fp) j u5/\((I=[]/\v=true)\/∃K,I=[K]/\v=false/\gg (blk c ε T C (g++Δ) h l fp) i mw K X)/\bt (blk c ε T C (g++Δ) h l fp) i mw y2 p):
  ∀c0 Z0 H0 ρ B,∃wi tc te,PI c j O wi/\(∀T C h l fp,PG (blk c ε T C (g++Δ) h l fp) j u5/\HN (blk c ε T C (g++Δ) h l fp) I tc/\PE (blk c ε T C (g++Δ) h l fp) y2 te) /\
   ∀σ H Q,tO i r c0 Z0 H0 (bB p v X B1 b L) ρ B σ H Q->pw wi g.length L u5 tc te σ H Q:=by
 intro c0 Z0 H0 ρ B
 let tc:TT:=λm H Q=>∃w Z B A,cS i w Z H w Z B A m H/\rS i mw w Z H (gY v X A B) Q
 let te:TE:=λm H Q=>∃w Z B A,cS i w Z H w Z B A m H/\b_ i mw w Z H (p A B) Q
 refine⟨_,tc,te,t0 c0 Z0 H0 ρ B,(by
  intro T C h l fp;refine qb (hb T C h l fp) λh1 h2 h3=>?_
  refine⟨h1,?_,?_⟩
  .rcases h2 with ⟨e,hn⟩|⟨K,e,hn,h2⟩
   .subst e
    intro pins s m H Q n q;refine fQ q λw Z B A S k=>?_
    rw[gY,if_pos hn]at k;exact Ex pins s m H Q n (k H w Z (cM.refl S.st.has) S.st)
   .subst e
    intro pins s m H Q n q;refine fQ q λw Z B A S k=>?_
    rw[gY,if_neg (by rw[hn];exact abv)]at k
    exact Ey (h2 w Z H A B) pins s m H Q n ⟨w,Z,S,k⟩
  .intro pins s m H Q n q
   refine fQ q λw Z B A S k=>?_
   exact h3 w Z H A B pins s m H Q n ⟨w,Z,S,k⟩),?_⟩
 rintro σ H Q ⟨w,Z,S,k⟩;refine⟨w,Z,S,?_⟩;simp only[bB]at k;cases qi:B1 ρ B with
 |exc x d0=>rw[qi]at k;exact k
 |bad=>rw[qi]at k;exact k.elim
 |ok e0 d0=>
  rw[qi]at k;dsimp only at k;intro J H1 g0 Z1 g1 s1 w1 P hD;cases qg:rg v X p b (ed L ρ) e0 fuel 0 [] d0 with
  |exc x l0=>rw[qg]at k;exact k.elim
  |bad=>rw[qg]at k;exact k.elim
  |ok ys l0=>
   rw[qg]at k;have b0:¬ Z1 P:=λz=>s1.dom P z hD
   have M:P∉g0:=λz=>s1.has P z hD
   refine⟨λt f vs H2=>∃E Z2 F N,cM g0 Z1 H1 E Z2 H2/\bH i E Z2 F H2/\P∉E/\¬ Z2 P/\H2 P=some (.lst vs)/\aI (aw E Z2 H2) N vs/\rg v X p b (ed L ρ) e0 f t N F=.ok ys l0,
    ⟨fuel,g0,Z1,d0,[],?_,?_,M,b0,aS,.nil,qg⟩,?_⟩
   .exact⟨λ_ _ e=>e,λ_ z=>z,λ_ z=>.inl z,λ_ z=>.inl z,λa o e _=>by rw[az (bf e hD)];exact e,λa ha=>by rw[az (λ(q:a=P)=>M (by rw[←q];exact ha))];exact s1.has a ha,λa o u e=>by rw[az (bf e hD)];exact e⟩
   .exact(s1.side M b0 (by grind)).1
   rintro t f vs H2 ⟨E,Z2,F,N,R,s2,nD,nZ,U,r2,G⟩;refine⟨U,?_⟩;cases f with
   |zero=>cases G
   |succ f=>
    simp only[rg]at G;cases qs:ek e0 F with
    |none=>simp_all
    |some ds=>
     rw[qs]at G;dsimp only at G;obtain⟨v0,w0⟩:=w1 E Z2 F H2 ds R s2 qs;cases qd:ds[t]? with
     |none=>
      rw[qd]at G;cases G;refine .inl ⟨w0 t (List.getElem?_eq_none_iff.mp qd),?_⟩
      exact k _ H2 _ Z2 (g1.trans ⟨λb a e=>by rw[ã (Ç.mp (R.pre b a e)).1];exact R.pre b a e,R.sub,R.new,λa ha=>by
       rcases æ.mp ha with ha|ha
       .exact R.EU a ha
       .rw[Ã.mp ha];exact .inr hD,R.frm,R.has,R.dZ⟩) (s2.part U nD nZ r2) (gf s2 P)
     |some d=>
      rw[qd]at G;dsimp only at G;obtain⟨x0,y0⟩:=v0 t d qd;cases qt:lV b d with
      |none=>simp_all
      |some ts=>
       rw[qt]at G;dsimp only at G;obtain⟨es,rfl⟩:=Fz qt
       by_cases V:small (N.length+1)=true
       .rw[if_pos V]at G
        have V:=bK V;refine .inr ⟨x0,by rw[r2.length];exact V,λx H3 yl=>?_⟩
        refine br (y0 x H3 yl) λZ3 g3 s3 rx=>?_
        have h0:=g3.frm P _ U nD;refine u0 d es x E Z3 F H3 (sO L σ) _ qt s3 rx λws m0=>?_
        have gB:=g1.trans (R.trans g3);refine⟨E,Z3,F,_,(tD (L:=L) S gB s3 m0),?_⟩;cases qc:gY v X _ F with
        |exc x Y=>simp_all
        |bad=>simp_all
        |ok i0 Y=>
         rw[qc]at G;intro H5 n0 Z5 g5 s5;have j0:=g5.HW nD h0;have o0:=g5.Jz (g3.Jz nZ U) h0;have a0:=g5.frm P _ h0 nD;cases i0 with
         |false=>
          exact⟨f,ţ _,n0,Z5,Y,N,R.trans (g3.trans g5),s5,j0,o0,a0,s3.lG g5 (s2.lG g3 r2),G⟩
         |true=>
          dsimp only at G;refine⟨n0,Z5,Y,_,(tD (L:=L) S (gB.trans g5) s5 (s3.lG g5 m0)),?_⟩;cases qe:p _ Y with
          |exc x p0=>simp_all
          |bad=>simp_all
          |ok y p0=>
           rw[qe]at G;intro z0 H6 A0 Z6 g6 s6 rv;have q0:=g6.HW j0 a0;have r0:=g6.Jz o0 a0;have s0:=g6.frm P _ a0 j0;obtain⟨s7,m7⟩:=s6.side q0 r0 (λo u z=>by rw[s0]at z;cases z)
           refine⟨s0,f,ţ _,A0,Z6,p0,N++[y],((R.trans (g3.trans g5)).trans g6).side M hD,s7,q0,r0,aS,((s5.lG g6 (s3.lG g5 (s2.lG g3 r2))).append (.one rv)).imp m7,G⟩
       simp_all
theorem nG(o:yV c i r (.Name d l) j B1)(F:ε.names.lookup d=some .local)(q:([d]++g).Nodup)(G:∀m C b f fp,((I=[]/\v=true)\/∃h,I=[h]/\v=false/\gg (blk c ε m C ([d]++g) b f fp) i mw h X)/\bt (blk c ε m C ([d]++g) b f fp) i mw O p):
  ∀s J K M w,∃x z A,PI c (.Name d l) j x/\(∀m C b f fp,PG (blk c ε m C ([d]++g) b f fp) (.Name d l) (iU 0)/\HN (blk c ε m C ([d]++g) b f fp) I z/\PE (blk c ε m C ([d]++g) b f fp) O A) /\
   ∀B H Q,tO i r s J K (bB p v X B1 0 L) M w B H Q->pw x [d].length L (iU 0) z A B H Q:=by
 have D:(Ĥ _ c.env).names.lookup d=some _:=abE F;refine pN o (λn E y V Z w H N k t S P R=>?_) λm C b f fp=>?_
 .have e:E=[n]:=by
   injection t with t;cases E with
   |nil=>cases t
   |cons a u=>
    simp_all
  subst e;exact R _ (.one P)
 .obtain⟨T,U⟩:=G m C _ _ fp
  exact⟨iz q rfl (.inl D) (.inr D),T,U⟩
theorem BG(m:c.calm=true)(B:iX c ε [d] g L)(n:∀z,Ď j c.env z=pure z)(f:yV c i r (.Name d H) j B1)(o:ε.names.lookup d=some .local)(h:([d]++g).Nodup)(q:∀k C b e fp,((I=[]/\v=true)\/∃a,I=[a]/\v=false/\gg (blk c ε k C ([d]++g) b e fp) i mw a X)/\bt (blk c ε k C ([d]++g) b e fp) i mw O p):
  bt c i r (.ListComp O [⟨.Name d H,j,I,0⟩] ε l) (bB p v X B1 0 L):=by
 intro s t u w x;obtain⟨E,F,G,y,A,D⟩:=nG f o h q _ t u w x;exact PE.imp (wz m B y n (lD 1 (by decide)) A) D
theorem vi:∀v c H Q,ur G 2 (gI [0,1]) v c H Q->ur G 2 (gI [0,1]) v c H λb d=>Q b d/\b.length=c.length/\∀j,2<=j->b[j]?=c[j]?:=λv c H Q h=>by
 obtain⟨a,g,rfl,e,f,v1,i,rfl,v2,k,rfl,rfl,q⟩:=h;refine⟨a,_,rfl,e,f,v1,_,rfl,v2,_,rfl,rfl,q,by simp,λj l=>?_⟩
 grind
variable{F5:T'}{U:Str}
theorem BH(F:c.calm=true)(B:iX c ε [d,U] g L)(N:∀z,Ď j c.env z=pure z)(y:yV c i r (.Tuple [.Name d H,.Name U S0] b F5) j B1)(P:ε.names.lookup d=some .local)(Q:ε.names.lookup U=some .local)(s:([d,U]++g).Nodup)(R:∀q C f m fp,bt (blk c ε q C ([d,U]++g) f m fp) i mw O p):
  bt c i r (.ListComp O [⟨.Tuple [.Name d H,.Name U S0] b F5,j,[],0⟩] ε l) (bB p true X B1 2 L):=by
 intro A T V Y G;have J:(Ĥ ε c.env).names.lookup d=some .local:=abE P;have t:(Ĥ ε c.env).names.lookup U=some .local:=abE Q
 obtain⟨wi,tc,te,D,u,h3⟩:=pN (u5:=ur c.K 2 (gI [0,1])) (g:=[d,U]) (Δ:=g) (L:=L) (b:=2) (I:=[]) (X:=X) (v:=true) (ε:=ε) (y2:=O) (p:=p) y (λn M z α Z G E a0 k o S rx hk=>by
   cases n with
   |tup es=>
    simp only[lV]at o;split at o
    .rename_i x
     injection o with o;have e:M=es:=(abF (λ_ _ h=>by injection h)).mp o.symm
     subst e;obtain⟨a,vs,rfl,_,D,u⟩:=ej rx
     match M,x,u with
     |[d1,d2],_,u=>
      obtain⟨v,w,rfl,q1,q2⟩:=rb u;exact⟨a,_,rfl,uQ (.inl D),rfl,v,_,rfl,w,_,rfl,rfl,hk [v,w] (.cons q1 (.one q2))⟩
    .cases o
   |_=>cases o) (λq C f m fp=>⟨zN (c:=blk c ε q C ([d,U]++g) f m fp) F (mO (iz (c:=blk c ε q C ([d,U]++g) f m fp) s rfl (.inl J) (.inr J)) (mO (iz (c:=blk c ε q C ([d,U]++g) f m fp) (b:=1) s rfl (.inl t) (.inr t)) vY)),.inl ⟨rfl,rfl⟩,R q C f m fp⟩) A T V Y G
 exact PE.imp (wz F B D N vi u) h3
inductive iu where
 |nx (ρ:bo) (Ω:aG)|bk (ρ:bo) (Ω:aG)|ct (ρ:bo) (Ω:aG)|rt (d:D) (Ω:aG)|exc (x:D) (Ω:aG)|bad
abbrev SM:=bo->aG->iu
def ee(f:Str->b'->Prop)(Φ:iP)(b:List b')(g:b'->Prop)(h:Hp)(E:Ends):iu->Prop
 |.nx i c=>∀e H a Z,cS f b g h a Z c i e H->E.nx e H
 |.bk i c=>∀e H a Z,cS f b g h a Z c i e H->E.bk e H
 |.ct i c=>∀e H a Z,cS f b g h a Z c i e H->E.ct e H
 |.rt d c=>∀v H a Z,cM b g h a Z H->bH f a Z c H->aw a Z H d v->E.rt v H
 |.exc x c=>∀H a Z,cM b g h a Z H->bH f a Z c H->Φ x c a Z H
 |.bad=>False
noncomputable def Nk(b:Str->b'->Prop)(Φ:iP)(a:List b')(d:b'->Prop)(e:Hp)(c:SM)(f:bo)(g:aG):TS:=λE h H=>∃i Z,cS b a d e i Z g f h H/\ee b Φ a d e E (c f g)
def ju(X)(b:Str->b'->Prop)(Φ st c):=∀a d e f g,PS X st (Nk b Φ a d e c f g)
def lW(X)(d:Str->b'->Prop)(Φ)(a:List K')(c):=∀b e f g h,gS X a (Nk d Φ b e f c g h)
noncomputable def cb{c}(r:ay c)(k:c->aG->iu):=match r with
 |.ok a b=>k a b
 |.exc x b=>.exc x b
 |.bad=>.bad
noncomputable def aq:SM:=λa b=>.nx a b
noncomputable def ak(a b:SM):SM:=λe f=>match a e f with
 |.nx c d=>b c d
 |r=>r
def aE(i:Nat)(m:EM):SM:=λb c=>cb (m b c) λd a=>.nx (b.set i (some d)) a
def cJ(m:EM):SM:=λb c=>cb (m b c) λ_ a=>.nx b a
def bU(m:EM):SM:=λb c=>cb (m b c) λd a=>.rt d a
def dY(m:EM)(a b:SM):SM:=λd e=>cb (dk (m d e)) λt c=>if t=true then a d c else b d c
noncomputable def cT:SM:=λ_ _=>.bad
def gm(m:EM)(b:SM):Nat->SM
 |0,_,_=>.bad
 |f+1,e,g=>cb (dk (m e g)) λt d=>if t=true then (match b e d with
  |.nx a c=>gm m b f a c
  |.ct a c=>gm m b f a c
  |.bk a c=>.nx a c
  |r=>r)else .nx e d
def lX(m b):=gm m b fuel
noncomputable def gN:List Nat->List D->bo->bo
 |i::b,d::c,a=>gN b c (a.set i (some d))
 |_,_,a=>a
noncomputable def cY(i:Nat)(d:D)(a:bo):Option bo:=some (a.set i (some d))
def fy(a:List Nat)(d:D)(c:bo):=match d with
 |.tup b=>if b.length=a.length then some (gN a b c)else none
 |_=>none
def iv(e:D->bo->Option bo)(g:Src)(b:SM):Nat->Nat->SM
 |0,_,_,_=>.bad
 |f+1,i,k,h=>match ek g h with
  |none=>.bad
  |some l=>match l[i]? with
   |none=>.nx k h
   |some d=>match e d k with
    |none=>.bad
    |some j=>match b j h with
     |.nx a c=>iv e g b f (i+1) a c
     |.ct a c=>iv e g b f (i+1) a c
     |.bk a c=>.nx a c
     |r=>r
def dI(a:D->bo->Option bo)(e:IM)(b:SM):SM:=λd f=>cb (e d f) λs c=>iv a s b fuel 0 d c
def BI(e:List Nat)(m:EM):SM:=λc f=>cb (m c f) λd a=>match fy e d c with
 |some b=>.nx b a
 |none=>.bad
theorem cS.set{e c a Z f g H k l m}(S:cS e a f k c Z g l m H){d v}(r:aw c Z H d v)(i):cS e a f k c Z g (l.set i (some d)) (m.set i (some v)) H:=by
 refine⟨S.st,S.gr,by simp[S.len],λj n h=>?_⟩
 by_cases b:i=j
 .subst b
  have o:=by
   have:=(Ç.mp h).1;simpa using this
  rw[ū o]at h;cases h;exact⟨v,by rw[ū (by rwa[S.len])],r⟩
 .rw[ķ b]at h ⊢
  exact S.val j n h
variable{M6:Ends}
theorem ee.use{k Q}(S:cS i A0 P1 ξ u n a t o0 e)(f:ee i r A0 P1 ξ M6 (cb v4 k))(h:∀d b v j c l,v4=.ok d b->cM u n e c l j->cS i A0 P1 ξ c l b t o0 j->aw c l j d v->ee i r A0 P1 ξ M6 (k d b)->Q v j):b_ i r u n e v4 Q:=by
 cases v4 with
 |ok d b=>exact λv j c l g s q=>h d _ v j _ l rfl g (S.grow g s) q f
 |exc x b=>exact λj c l g s=>f j _ l (S.gr.trans g) s
 |bad=>exact f
theorem ee.JA{k}(S:cS i A0 P1 ξ u n a t o0 e)(f:ee i r A0 P1 ξ M6 (cb W8 k))(h:∀b c l j m,W8=.ok b c->cM u n e j m l->cS i A0 P1 ξ j m c t o0 l->ee i r A0 P1 ξ M6 (k b c)->L8 b l):rS i r u n e W8 L8:=by
 cases W8 with
 |ok d c=>exact λl j m g s=>h d _ l _ m rfl g (S.grow g s) f
 |exc x c=>exact λl j m g s=>f l _ m (S.gr.trans g) s
 |bad=>exact f
variable{N1:List K'}
theorem gS.ex{b:Type}{t:b->TS}(h:∀i,gS c N1 (t i)):gS c N1 (λD a H=>∃i,t i D a H):=λpins s a H D I  d =>xe d λi q=>h i _ s a H D I q
theorem wW:lW c i r [] aq:=by
 intro b e g j k;refine gS.imp (λ_ _ a H _ I h=>Ĝ ⟨a,H,I,h⟩) ?_
 rintro E a H ⟨d,Z,S,f⟩;exact f a H d Z S
variable{B6 ω:SM}{Θ:K'}
theorem jT(l:ju c i r Θ ω)(m:lW c i r N1 B6):lW c i r (Θ::N1) (ak ω B6):=by
 intro e g h j k;refine gS.imp (jy (l e g h j k) (gS.ex λp:bo×aG=>m e g h p.1 p.2)) ?_
 rintro E w H ⟨n,Z,S,f⟩;refine⟨n,Z,S,?_⟩;simp only[ak]at f;cases q:ω j k with
 |nx b a=>rw[q]at f;exact λo y s t u=>⟨(b,a),_,t,u,f⟩
 |bk b a=>rwa[q]at f
 |ct b a=>rwa[q]at f
 |rt d a=>rwa[q]at f
 |exc x a=>rwa[q]at f
 |bad=>rwa[q]at f
theorem wX(h:bt c i r j p):ju c i r (.Return (some j) l) (bU p):=by
 intro b n o q t
 refine PS.imp (by
   have u:=(h b n o q t);intro pins s e H D I h;exact wpAny_Return_some (bZ (u _ s e H _ I h) λv K  w =>aJ w λx k y z A=>⟨x,e,k,y,z,A⟩)) ?_
 rintro E e H ⟨B,Z,S,f⟩;exact⟨B,Z,S,ee.use S f λd C v k F G _ g m a J=>J v k _ G m.gr m.st a⟩
theorem rh(n:c.N.Nodup)(o:c.N[b]?=some d)(q:Loc c.env.scope d)(s:c.fn d=true\/c.env.scope.names.lookup d=some .local)(t:ò j (some (.Name d H)) l.line c.env=pure false)(h:bt c i r j p):
  ju c i r (.Assign [.Name d H] j l) (aE b p):=by
 intro e u w x y;refine PS.imp (zO n o q (h e u w x y) t s) ?_;rintro E I k ⟨z,Z,S,f⟩;exact⟨z,Z,S,ee.use S f λm A v B C D _ g F a G=>G _ B _ D (F.set a b)⟩
theorem BJ(J:c.N.Nodup)(K:c.N[b]?=some d)(M:c.env.scope.names.lookup d=some .local)(P:ò (.ListComp j [⟨y2,O,I,0⟩] ε l) (some (.Name d H)) H.line c.env=pure true)(R:c.calm=true)(B:iX c ε g Δ L)(T:∀d,Ď O c.env d=pure d)(t:∀v n a Q,u5 v n a Q->u5 v n a λo U=>Q o U/\o.length=n.length/\∀e,g.length<=e->o[e]?=n[e]?)(h:∀s u w x y,∃z A D,PI c y2 O z/\(∀F C k m fp,PG (blk c ε F C (g++Δ) k m fp) y2 u5/\HN (blk c ε F C (g++Δ) k m fp) I A/\PE (blk c ε F C (g++Δ) k m fp) j D) /\
   ∀n a Q,tO i r s u w p x y n a Q->pw z g.length L u5 A D n a Q)(V:S0.line=H.line):
  ju c i r (.Assign [.Name d H] (.ListComp j [⟨y2,O,I,0⟩] ε l) S0) (aE b p):=by
 intro s u w x y;obtain⟨z,A,D,X,Y,h3⟩:=h _ u w x y;refine PS.imp (uW J K M (by rwa[V]) R B X T t Y) ?_
 rintro E n a ⟨α,Z,S,f⟩;exact h3 n a _ ⟨α,Z,S,ee.use S f λG a0 v H1 b0 Z1 _ u5 S1 q f1=>f1 _ H1 _ Z1 (S1.set q b)⟩
theorem wY(e:ò j none l.line c.env=pure false)(h:bt c i r j p):ju c i r (.Expr j l) (cJ p):=by
 intro a k m n o;refine PS.imp (qj (h a k m n o) e) ?_;rintro E z H ⟨q,Z,S,f⟩;exact⟨q,Z,S,ee.use S f λd s v t u w _ g x b y=>y _ t _ w x⟩
variable{o6:List K'}
theorem BK(o:gg c i r j p)(q:lW c i r N1 ω)(s:lW c i r o6 B6):ju c i r (.If j N1 o6 l) (dY p ω B6):=by
 intro b d e h u;refine PS.imp (vX (o b d e h u) (gS.ex λa=>q b d e h a) (gS.ex λa=>s b d e h a)) ?_
 rintro E y H ⟨w,Z,S,f⟩;refine⟨w,Z,S,ee.JA S f λt a z x k _ g m n=>?_⟩
 cases t with
 |true=>exact sx ⟨_,_,k,m,n⟩
 |false=>exact sv ⟨_,_,k,m,n⟩
theorem pO:ju c i r Θ cT:=by rintro a b d e g pins s h H E I ⟨j,Z,S,f⟩;exact f.elim
theorem pP(N:ŭ (k9 c.prog c.w) c.A c.env c.xe)(O:gg c i r j p)(P:lW c i r N1 ω):ju c i r (.While j N1 [] l) (lX p ω):=by
 intro h o s u y;refine PS.imp (zP N (PT.ex λa:bo×aG=>O h o s a.1 a.2) (gS.ex λa:bo×aG=>P h o s a.1 a.2)) ?_
 rintro E I H ⟨z,Z,S,f⟩;refine⟨λf I H=>∃z Z u y,cS i _ o s z Z y u I H/\ee i r _ o s E (gm p ω f u y),⟨_,z,Z,u,y,S,f⟩,?_⟩
 rintro f Q X ⟨R,T,k,B,J,K⟩;cases f with
 |zero=>exact K.elim
 |succ f=>
  refine⟨(k,B),_,T,J,ee.JA J K λt C Y U V _ g L b=>?_⟩
  cases t with
  |false=>
   exact sv (b _ _ _ _ L)
  |true=>
   refine sx ⟨_,λm M q=>⟨f,by simp,q⟩,(k,C),_,V,L,?_⟩
   cases q:ω _ _ with
   |nx n e=>rw[q]at b;exact λm M D F G=>⟨_,F,_,_,G,b⟩
   |ct n e=>rw[q]at b;exact λm M D F G=>⟨_,F,_,_,G,b⟩
   |bk n e=>rwa[q]at b
   |rt d e=>rwa[q]at b
   |exc x e=>rwa[q]at b
   |bad=>rwa[q]at b
def BL(h:Str->b'->Prop)(e:D->bo->Option bo)(g:TG):=
 ∀d x a i j f Z l m b n H k,cS h a i j f Z l m n H->aw f Z H d x->e d m=some b->(∀c,cS h a i j f Z l b c H->k c H)->g x n H k
variable{F8:D->bo->Option bo}
theorem mx(hp:ŭ (k9 c.prog c.w) c.A c.env c.xe)(hc:c.calm=true)(hi:yV c i r O j B1)(hg:PG c O u5)(N:BL i F8 u5)(hb:lW c i r N1 ω)(hs:∀x,Ď j c.env x=pure x):ju c i r (.For O j N1 [] l) (dI F8 B1 ω):=by
 intro P G K C L;have Q:gS c N1 (λD F H=>∃o n p e g,Nk i r _ n p ω _ _ D F H):=λpins s F H D I  zf =>xe zf λo R=>xe R λn T=>xe T λp U=>xe U λe V=>xe V λg q=>hb o n p e g _ s F H D I q
 refine PS.imp (IJ hp hc (hi P G K C L) hg Q hs) ?_;rintro E F H ⟨α,Z,S,f⟩;refine⟨α,Z,S,?_⟩;simp only[dI]at f;cases X:B1 C L with
 |exc x Y=>rw[X]at f;exact λp o n u5 s=>f p _ n (S.gr.trans u5) s
 |bad=>rwa[X]at f
 |ok g0 Y=>
  rw[X]at f;intro J p o n g1 s1 w1;have S1:=S.grow g1 s1;refine⟨λb f F H=>∃y M C L,cS i _ G K y M L C F H/\cM _ n p y M H/\ee i r _ G K E (iv _ _ ω f b C L),⟨_,_,n,C,_,S1,cM.refl s1.has,f⟩,?_⟩
  rintro b f h0 H2 ⟨y,M,i0,j0,S2,g2,a⟩;cases f with
  |zero=>exact a.elim
  |succ f=>
   simp only[iv]at a;cases qs:ek _ _ with
   |none=>rw[qs]at a;exact a.elim
   |some ds=>
    rw[qs]at a;dsimp only at a;obtain⟨a0,l0⟩:=w1 _ M _ H2 ds g2 S2.st qs;cases qd:ds[b]? with
    |none=>
     rw[qd]at a;exact .inl ⟨by simp_all,a _ H2 _ M S2⟩
    |some d=>
     rw[qd]at a;dsimp only at a;obtain⟨b0,c0⟩:=a0 b d qd;cases qp:F8 d _ with
     |none=>rw[qp]at a;exact a.elim
     |some m0=>
      rw[qp]at a;dsimp only at a;refine .inr ⟨b0,_,λk m q=>⟨f,by simp,q⟩,λx H3 yl=>?_⟩
      refine br (c0 x H3 yl) λZ3 g3 s3 rx=>?_
      refine N d x _ G K _ Z3 _ _ _ _ H3 _ (S2.grow g3 s3) rx qp λn0 S4=>?_
      have base:=S1.gr;have gL:=g2.trans g3;have z:∀{d0 Z4 e0 e k m},cS i _ n p _ Z4 _ _ _ m->cS i _ G K d0 Z4 e0 e k m:=λh=>⟨h.st,base.trans h.gr,h.len,h.val⟩
      refine⟨_,n,p,_,_,_,Z3,⟨S4.st,gL,S4.len,S4.val⟩,?_⟩;cases q:ω _ _ with
      |nx e g=>rw[q]at a;exact λk m t u h=>⟨_,u,_,_,z h,h.gr,a⟩
      |ct e g=>rw[q]at a;exact λk m t u h=>⟨_,u,_,_,z h,h.gr,a⟩
      |bk e g=>rw[q]at a;exact λk m t u h=>a _ m _ u (z h)
      |rt d g=>rw[q]at a;exact λv m t u u5 s B=>a v m _ u (base.trans u5) s B
      |exc x g=>rw[q]at a;exact λm t u u5 s=>a m _ u (base.trans u5) s
      |bad=>rwa[q]at a
theorem BN(a):BL i (cY a) (iU a):=λd x b f g j Z l m c n H k S r e h=>by
 cases e;exact h _ (S.set r a)
theorem nH{n m a Z o p H q}:∀b c g {j}{e},aI (aw m Z H) c g->c.length=b.length->cS n a o q m Z p j e H->∀k,(∀f,cS n a o q m Z p (gN b c j) f H->k f H)->gI b g e H k
 |[],[],g,j,e,r,_,S,k,h=>by rw[r.nil_inv];exact⟨rfl,h e S⟩
 |i::b,d::c,g,j,e,r,l,S,k,h=>by
  obtain⟨v,s,rfl,t,u⟩:=r.cons_inv;exact⟨v,s,rfl,nH b c s u (by simp_all) (S.set t i) k h⟩
 |[],_::_,_,_,_,_,l,_,_,_=>by simp at l
 |_::_,[],_,_,_,_,l,_,_,_=>by simp at l
theorem vj(b):BL i (fy b) (ur G b.length (gI b)):=λd x g o p q Z s t j u H k S r e h=>by
 cases d with
 |tup l=>
  simp only[fy]at e;split at e
  .rename_i m
   cases e;obtain⟨a,c,rfl,_,n,f⟩:=ej r;exact⟨a,c,rfl,uQ (.inl n),by rwa[f.length],nH b l c f m S k h⟩
  .cases e
 |_=>cases e
theorem FA(u:PG c (.Tuple I b l) (ur c.K L.length (gI L)))(w:Bd j=true)(h:bt c i r j p):ju c i r (.Assign [.Tuple I b l] j H) (BI L p):=by
 intro e n o q x;refine PS.imp (IH (h e n o q x) u (by cases j<;>first|rfl) (by cases j<;>first|rfl | (cases w))) ?_
 rintro E y k ⟨z,Z,S,f⟩;refine⟨z,Z,S,ee.use S f λd A v s B t _ g C a m=>?_⟩
 split at m
 .rename_i D F
  exact vj L d v _ n o _ t _ q _ y s _ C a F λG J=>m _ s _ t J
 .exact m.elim
abbrev aU:=List D->aG->ay D
def cZ(b:Str->b'->Prop)(F:aU):Sp:=λe H Q _=>∃a Z c d,bH b a Z c H/\aI (aw a Z H) d e/\b_ b mw a Z H (F d c) Q
noncomputable def pQ{a}(r:ay a):ay a:=match r with
 |.ok d b=>.ok d b
 |_=>.bad
def aQ(F:aU):aU:=λa b=>pQ (F a b)
structure HX(X:Cx)(κ:Str->b'->Prop)(k:Nat)(x:Str)(F:aU):Prop where
 ex:∃(f:b') (fd:Å) (ps:List Str),X.mg x=some (.ref f)/\Ó X.K (.ref f)=true/\Binds X.K fd ps []/\bQ X.prog X.w X.K X.mg X.base fk k f fd ps (cZ κ F)
noncomputable def jU(a:aG):D->Option (Nat×Str×List (Str×D))
 |.ref k=>match a[k]? with
  |some (.ins C b)=>some (k,C,b)
  |_=>none
 |_=>none
def fT(Cs:List Str)(f:Str)(x:D)(a:aG):ay D:=match jU a x with
 |some (_,C,b)=>if Cs.contains C then (match b.lookup f with
  |some d=>.ok d a
  |none=>.bad)else .bad
 |none=>.bad
noncomputable def tE(f:Str)(v:D):List (Str×D)->List (Str×D)
 |[]=>[(f,v)]
 | (g,x)::r=>if g=f then (g,v)::r else (g,x)::tE f v r
def bA(C m:Str)(F:aU)(d:EM)(e:AM):EM:=λc f=>(d c f).bind λx a=>match jU a x with
 |some (_,g,h)=>if g=C/\h.lookup m=none then (e c a).bind λi b=>aQ F (x::i) b else .bad
 |none=>.bad
noncomputable def nI(C:Str)(F:aU)(xs:List D)(a:aG):ay D:=match F (.ref a.length::xs) (a++[.ins C []])with
 |.ok .non b=>.ok (.ref a.length) b
 |_=>.bad
def eP(Cs:List Str)(f:Str)(e g:EM):SM:=λb h=>cb (g b h) λy c=>cb (e b c) λx a=>match jU a x with
 |some (k,C,d)=>if Cs.contains C&&decide (d.length<1000)then .nx b (a.set k (.ins C (tE f y d)))else .bad
 |none=>.bad
def nJ(x y v:D)(b:aG):Option aG:=match x with
 |.ref k=>match b[k]? with
  |some (.dK a)=>match vb y with
   |some c=>if small (a.length+1)then some (b.set k (.dK (d4 a c v)))else none
   |none=>none
  |_=>none
 |_=>none
def ey(f g h:EM):SM:=λa i=>cb (h a i) λv b=>cb (f a b) λx c=>cb (g a c) λy d=>match nJ x y v d with
 |some e=>.nx a e
 |none=>.bad
theorem b_.ok0(h:b_ i r u n e (pQ v4) η):b_ i mw u n e v4 η:=by
 cases v4 with
 |ok d a=>exact h
 |exc x a=>exact h.elim
 |bad=>exact h
variable{E:aU}
theorem yW(F0:HX c i b d E)(j:cz b c.A)(k:Gl c d)(e:(d==("__debug__"))=false):bt c i r (.Call (.Name d H) [] [] l) (mN (aQ E) ag):=by
 refine dO F0.ex λf w x m n o F1=>?_
 intro p y z B q
 refine PE.imp (by
   intro pins s t a Q I h;refine ă (eB I k m (aaU I.eR n (qu F1 j o .nil lu I .nil h)) e)) ?_
 rintro t a Q ⟨u,Z,S,g⟩;exact⟨u,Z,q,[],S.st,.nil,b_.ok0 g⟩
theorem gO:∀{c}{b},jJ x6 c b->(∀a,c.lookup d=some a->∃v,b.lookup d=some v/\x6 a v)/\(c.lookup d=none->b.lookup d=none):=by
 intro c b h
 induction h with
 |nil=>simp
 |@cons p q e f r t g=>
  grind
variable{u6:List (Str×D)}{y4:List (Str×V)}
theorem BO(r:x6 m x)(h:jJ x6 u6 y4):jJ x6 (tE d m u6) (hG d x y4):=by
 induction h with
 |nil=>exact .cons ⟨rfl,r⟩ .nil
 |@cons p q f g a t b=>
  obtain⟨a,c⟩:=a;obtain⟨k,m⟩:=p;obtain⟨i,j⟩:=q;cases a;simp only[tE,hG]
  by_cases e:k=d
  .rw[if_pos e,if_pos e];exact .cons ⟨rfl,r⟩ t
  .rw[if_neg e,if_neg e];exact .cons ⟨rfl,c⟩ b
theorem gp(S:bH i u n a e)(r:aw u n e m x)(h:jU a m=some (b,d,u6)):∃c g l f,x=.ref c/\m=.ref b/\u[b]?=some c/\i d g/\e c=some (.ins g l f)/\jJ (aw u n e) u6 f:=by
 cases m with
 |ref j=>
  simp only[jU]at h;split at h
  .rename_i q f o
   simp only[aw]at r;refine bD (S.cell o) λs p k=>cg k λg l f t w y=>?_
   grind
  .cases h
 |_=>cases h
def kH(K)(b:Str->b'->Prop)(Cs:List Str)(f):=∀C a,Cs.contains C=true->b C a->oj K a/\df K a f
theorem FC(n:kH c.K i g d)(o:ĉ j d c.env (eval j c.env)=eval j c.env)(q:bt c i r j p):bt c i r (.Attribute j d l) (m1 (fT g d) p):=
 jM (λJ s=>IT s o) q λh x L Z M H Q S t b=>by
  unfold fT at b;split at b
  .rename_i k C N u
   refine bP (gp S t u) λa m h w f _ _ y z A=>?_;subst f
   split at b
   .rename_i B
    obtain⟨D,E⟩:=n C m B y;split at b
    .rename_i e F
     refine bD ((gO A).1 e F) λv G I=>⟨a,m,h,_,v,rfl,z,D,E,G,b_.ret S I b⟩
    .exact b.elim
   .exact b.elim
  .exact b.elim
def HY(P w K)(j:Str->Option f')(base)(d:Str->b'->Prop)(k C m)(F:aU)(c f e)(g:List Str):=
 (∀a,d C a->a=c)/\oj K c/\Meth K c m f/\∃h b i F1,Binds K e g h/\Vals b h/\(∀l Z H,aI (aw l Z H) i b)/\bQ P w K j base fk k f e g (cZ d F1)/\F=λn=>F1 (n++i)
structure wZ(X:Cx)(κ:Str->b'->Prop)(k:Nat)(C m:Str)(F:aU):Prop where
 ex:∃(Ca f:b') (fd:Å) (ps:List Str),HY X.prog X.w X.K X.mg X.base κ k C m F Ca f fd ps
theorem BP(M:wZ c i b d U E)(G:cz b c.A)(J:bt c i r O p)(K:s_ c i r (j::I) u0){pl}(m:F' (j::I) c.env=(false,eval j c.env)::F' I c.env)(o:(Æ l (F' I c.env)).any (·.1)=false)(L:eval (.Call (.Attribute O U H) (j::I) [] l) c.env=(do
   let z ←eval O c.env
   þ H.atName
   let (f,first) ←ÿ [z] (ď z U pl)
   ğ l f first (Æ l (F' (j::I) c.env)) (Ą l (ą [] c.env)))):
  bt c i r (.Call (.Attribute O U H) (j::I) [] l) (bA d U E p u0):=by
 obtain⟨Ca,f,fd,ps,N,q,P,R,T,Dd,F0,V,s,X,F1,rfl⟩:=M.ex;intro e B C D Y;refine PE.imp (DW (J e B C D Y) q P F1 G V s lu (PA.ex λh=>K e B C D h) m o L) ?_
 rintro σ t Q ⟨α,Z,S,g⟩;refine⟨α,Z,S,b_.use g λx h _ v H1 a0 Z1 g1 u F k=>?_⟩
 split at k
 .rename_i n C' fs hk
  split at k
  .rename_i hc
   obtain⟨rfl,hl⟩:=hc;refine bP (gp u F hk) λa b0 dx c0 w y _ q1 q2 q3=>?_;subst w;subst y
   obtain rfl:=N _ q1;refine⟨a,dx,_,rfl,q2,(gO q3).2 hl,_,_,Z1,S.grow g1 u,oE.use k λxs d0 _ vs H2 e0 Z2 g2 s2 r2 k2=>⟨_,Z2,_,_,s2,.cons (u.cP g2 F) (r2.append (X _ _ _)),b_.ok0 k2⟩⟩
  .exact k.elim
 .exact k.elim
theorem yX(M:wZ c i b d U E)(w:cz b c.A)(y:bt c i r j p){pl}(z:eval (.Call (.Attribute j U H) [] [] l) c.env=(do
   let s ←eval j c.env
   þ H.atName
   let (f,first) ←ÿ [s] (ď s U pl)
   ğ l f first (Æ l (F' [] c.env)) (Ą l (ą [] c.env)))):
  bt c i r (.Call (.Attribute j U H) [] [] l) (bA d U E p ag):=by
 obtain⟨Ca,f,fd,ps,B,h,C,D,F,Dd,F0,G,k,I,F1,rfl⟩:=M.ex;intro m J K L N;refine PE.imp (zY (y m J K L N) h C F1 w G k lu z) ?_;rintro σ o Q ⟨O,Z,S,g⟩;refine⟨O,Z,S,b_.use g λx P _ v H1 R T g1 t u e=>?_⟩
 split at e
 .rename_i n C' fs V
  split at e
  .rename_i X
   obtain⟨rfl,Y⟩:=X;refine bP (gp t u V) λa a0 dx b0 q c0 _ q1 q2 q3=>?_;subst q;obtain rfl:=B _ q1
   exact⟨a,dx,_,rfl,q2,(gO q3).2 Y,_,T,_,_,t,.cons u (I _ _ _),b_.ok0 e⟩
  .exact e.elim
 .exact e.elim
structure HZ(X:Cx)(κ:Str->b'->Prop)(k:Nat)(C:Str)(F:aU):Prop where
 ex:∃(Ca f:b') (fd:Å) (ps:List Str),κ C Ca/\Mk X.K Ca f/\X.mg C=some (.ref Ca)/\Binds X.K fd ps []/\bQ X.prog X.w X.K X.mg X.base fk k f fd ps (cZ κ F)
variable{ο:b'}
theorem tF(S:bH i u n a e)(f:aI (aw u n e) q N)(k:i d h)(g:b_ i r u n e (nI d E q a) η)(J:e C=none)(l:e ο=none)(m:ο≠C):
  cZ i E (.ref C::(N++[])) (upd (upd e ο (.own C)) C (.ins h ο [])) (λv z=>v=.non/\η (.ref C) z) E0:=by
 rw[Ċ];obtain⟨s,A⟩:=S.pG l False;have o:upd e ο (.own C) C=none:=by rwa[az (Ê m)]
 obtain⟨t,B⟩:=s.laid (c:=.ins d []) o λR hR=>⟨h,ο,[],k,aS,.nil⟩
 have w:=A.trans B;have x:aw _ n (upd (upd e ο (.own C)) C (.ins h ο [])) _ _:=gf s C;refine⟨_,n,_,_,t,.cons x (S.lG w f),?_⟩;unfold nI at g;cases b:E _ _ with
 |ok j p=>
  rw[b]at g;cases j with
  |non=>
   intro v D F G y H I;exact⟨I,g _ D _ G (w.trans y) H (t.cP y x)⟩
  |_=>exact g.elim
 |exc C p=>rw[b]at g;exact g.elim
 |bad=>rwa[b]at g
theorem BQ(M:HZ c i b d E)(o:cz (b+1) c.A)(p:Gl c d)(e:(d==("__debug__"))=false):bt c i r (.Call (.Name d H) [] [] l) (mN (nI d E) ag):=by
 refine bc M.ex λz f B C j n q t F1=>?_
 intro u D F G J
 refine PE.imp (by
   intro pins s w a Q I h;refine ă (eB I p q (aaU I.eR n.kp (sh n F1 o t .nil lu I .nil h)) e)) ?_
 rintro w a Q ⟨K,Z,S,g⟩;exact λx L y k m=>tF S.st .nil j g y k m
theorem FD(I:kH c.K i g d)(J:ò j (some (.Attribute O d H)) l.line c.env=pure false)(L:bt c i r O p)(M:bt c i r j X):ju c i r (.Assign [.Attribute O d H] j l) (eP g d p X):=by
 intro b t A B N;refine PS.imp (IU (PE.ex λe=>L b t A B e) (M b t A B N) J) ?_
 rintro E P h ⟨Q,Z,S,d⟩;refine⟨Q,Z,S,ee.use S d λy e v H1 T U _ g1 m V Y=>⟨_,_,U,m,ee.use m Y λx a0 w H2 b0 Z2 _ g2 n r2 f=>?_⟩⟩
 split at f
 .rename_i k C fs hk
  refine bP (gp n.st r2 hk) λa o D c0 q d0 h0 F h2 G=>?_;subst q;split at f
  .rename_i s
   simp only[Ú,decide_eq_true_eq]at s;obtain⟨c1,c2⟩:=I C o s.1 F;obtain⟨s3,g3⟩:=n.st.put (c:=.ins C _) h0 (λO u z=>by simp_all) λR hR=>⟨o,D,_,F,aS,(BO (m.st.cP g2 V) G).imp hR⟩
   exact⟨a,o,D,_,rfl,h2,c1,c2,by rw[jJ.length G];exact s.2,f P _ _ Z2 (n.grow g3 s3)⟩
  .exact f.elim
 .exact f.elim
variable{S7:D}
theorem BR{d}(S:bH i u n a e)(s:aw u n e m x)(t:aw u n e Y D1)(w:aw u n e S7 d)(h:nJ m Y S7 a=some T):∃b g,x=.ref b/\yj e b D1 d g/\bH i u n T g/\cM u n e u n g:=by
 cases m with
 |ref k=>
  simp only[nJ]at h;obtain⟨b,p,rfl⟩:=s;split at h
  .rename_i y A
   refine bD (S.cell A) λG f j=>bD j λq B r=>?_
   rw[p]at f;cases f
   split at h
   .rename_i C l
    obtain rfl:=jP l t;split at h
    .rename_i D
     cases h;have:=bK D;obtain⟨E,F⟩:=S.put (c:=.dK _) p (λo d z=>by simp_all) λR hR=>⟨_,aS,(r.put C w).imp hR⟩
     exact⟨b,_,rfl,yj.k B (by rwa[r.length]),E,F⟩
    .cases h
   .cases h
  .cases h
 |_=>cases h
theorem BS(B:c.A.units+1<È)(C:bt c i r O X)(D:bt c i r y2 L4)(F:bt c i r j p)(G:ò j (some (.Subscript O y2 H)) l.line c.env=pure false):ju c i r (.Assign [.Subscript O y2 H] j l) (ey X L4 p):=by
 intro e h k m I;refine PS.imp (Ee B (PE.ex λb=>C e h k m b) (PE.ex λb=>D e h k m b) (F e h k m I) G) ?_
 rintro E J n ⟨K,Z,S,f⟩;refine⟨K,Z,S,ee.use S f λd b v H1 L M _ g1 o N P=>⟨_,_,M,o,ee.use o P λx Q w H2 R T _ U g V Y=>⟨_,_,T,g,ee.use g Y λy a0 u H3 b0 Z3 _ s t r3 q=>?_⟩⟩⟩
 split at q
 .rename_i c0 hq
  obtain⟨a,z,rfl,h1,s4,g4⟩:=BR t.st (g.st.cP s V) r3 (g.st.cP s (o.st.cP U N)) hq;exact⟨a,z,rfl,h1,q J z _ Z3 (t.grow g4 s4)⟩
 .exact q.elim
theorem yY:bt c i r (.Dict [] [] l) (λ_ a=>iQ a (.dK [])):=by
 intro b h j k a;refine PE.imp Ai ?_;rintro m H Q ⟨n,Z,S,g⟩ p d;obtain⟨e,f⟩:=S.st.laid (c:=.dK []) d λR hR=>⟨[],aS,.nil⟩
 exact g _ _ _ Z f e (gf S.st p)
noncomputable def aZ(n:Nat)(a:List D):bo:=a.map some++Ź (n - a.length) none
noncomputable def fb:iu->ay D
 |.rt d a=>.ok d a
 |.nx _ a=>.ok .non a
 |.exc x a=>.exc x a
 |_=>.bad
def bN(n k:Nat)(c:SM):aU:=λa b=>if a.length=k then fb (c (aZ n a) b)else .bad
theorem jk(S:bH i u n a e)(r:aI (aw u n e) q N):cS i u n e u n a (aZ g.length q) (L2.start g N) e where
 st:=S
 gr:=cM.refl S.has
 len:=by simp[aZ,L2.start,r.length]
 val:=λb d c=>by
  unfold aZ at c
  by_cases h:b<q.length
  .rw[ã (by simp_all),î]at c
   obtain⟨j,f,k⟩:=å.mp c;obtain⟨v,l,m⟩:=r.get f;unfold L2.start
   grind
  grind
theorem tG{c d:Type}{f g:c->Option d}:∀{l:List c},(∀a∈l,f a=g a)->l.filterMap f=l.filterMap g
 |[],_=>rfl
 |a::l,h=>by
  rw[ō,ō,h a (by simp),tG λb e=>h b (by simp[e])]
theorem BU(a:List f'):ϯ a.toArray none none (some (-1))=a.reverse.toArray:=by
 have b:ř none none (some (-1)) a.toArray.size=((a.length:Int) - 1,-1,-1):=by
  rfl
 unfold ϯ;rw[b]
 have c:aak ((a.length) - 1) (-1) (-1)=(Â a.length).map λk=>a.length - 1 - k:=by
  unfold aak
  grind
 rw[c,List.filterMap_map]
 have e:(Â a.length).filterMap ((λx=>a.toArray[x]?) ∘ λk=>a.length - 1 - k)=(Â a.length).filterMap λk=>a.reverse[k]?:=by
  refine tG λk d=>?_
  grind
 rw[e];have:=pick_run a.reverse.toArray 0 a.length;simp at this
 grind
def TQ(K:M')(e f:TE):TE:=λc H Q=>e c H λx g=>f c g λy b=>y=.int (-1)/\∃a d,x=.ref a/\lP K b a d/\∀p,b p=none->Q (.ref p) (upd b p (.lst d.reverse))
variable{χ:List f'}
theorem BV(h:Vals N χ):Vals N.reverse χ.reverse:=by
 induction h with
 |nil=>exact .nil
 |cons a c b=>
  rw[Ĩ,Ĩ];exact b.append (.cons a .nil)
variable{Q2 π:TE}
theorem BW(o:PE c j π)(f:PE c O Q2):PE c (.Subscript j (.Slice none none (some O) l) H) (TQ c.K π Q2):=by
 intro pins s g d Q I h;refine Ϯ (bZ (o _ s g d _ I h) λv p ⟨x,H1,I1,w,q1⟩=>?_)
 refine wpAny_Slice ?_;refine I' (I' ?_);refine bZ (f _ p g H1 _ I1 q1) λu s2 ⟨y,z,A,r2,q2⟩=>?_
 obtain⟨rfl,a,F,rfl,B,q⟩:=q2;obtain⟨t,rfl⟩:=r2;cases w;have e:Inv c _ g z {s2 with heap:=s2.heap.push {cls:=.type "slice",data:=.fields #[.none,.none,.int (-1) t]} }:=A.kept λb C q=>Á _ q
 generalize i:({s2 with heap:=s2.heap.push _})=D at e;have k:D.heap.IsSliceOf s2.heap.objs.size .none .none (.int (-1) t):=by rw[←i];exact acj ..
 obtain⟨E,r,m,G⟩:=e.list B;have n:=r.length
 exact aaY m.isList.typeIs aa_.lookup (by
  refine acn m.isList k .none .none (.int _ t) (by simp) ?_ (by grind)
  rw[BU];refine⟨.ref _,_,e.laid (λb C q=>Á _ q) (W' _) ?_,rfl,q _ (e.hok.fresh (W' _))⟩
  exact⟨by grind,_,0,BV r,Ð _ rfl⟩) (by rfl)
def yZ(d ms:EM):EM:=λc e=>(d c e).bind λx b=>(ms c b).bind λy a=>match y,dm a x with
 |.int (-1),some f=>iQ a (.lst f.reverse)
 |_,_=>.bad
theorem BX{a b R}{xs:List a}{c:List b}(h:aI R xs c):aI R xs.reverse c.reverse:=by
 induction h with
 |nil=>exact .nil
 |cons d f e=>
  rw[Ĩ,Ĩ];exact e.append (.cons d .nil)
theorem y_(q:bt c i r j p)(s:bt c i r O X):bt c i r (.Subscript j (.Slice none none (some O) l) H) (yZ p X):=by
 intro b h k m t;refine PE.imp (BW (q b h k m t) (PE.ex λd=>s b h k m d)) ?_
 rintro N e Q ⟨w,Z,S,g⟩;refine⟨w,Z,S,b_.use g λx d _ v P z A B n C D=>⟨_,_,A,S.grow B n,D.use λy E R u T F U G o I f=>?_⟩⟩
 split at f
 .rename_i V J
  obtain⟨a,K,rfl,L,M⟩:=bz o (n.cP G C) J;exact⟨I,a,K,rfl,lA L,eL o (BX M) f⟩
 .exact f.elim
structure tH(P:Ä)(w:À)(K:M')(mg:Str->Option f')(base:D')(κ:Str->b'->Prop)(k:Nat)(j:Nat)(F:List D->aU):Prop where
 run:∀(X:Cx) (f:b') (vs:List V) (σ:L2.St) (H:Hp) (Q:VK) (α:List b') (Z:b'->Prop) (Ω:aG) (sZ ds:List D) (n:Nat),X.prog=P->X.w=w->X.K=K->X.mg=mg->X.base=base->cz k X.A ->
  bH κ α Z Ω H->α[n]?=some f->Ω[n]?=some (.fn j sZ)->aI (aw α Z H) ds vs->b_ κ mw α Z H (F sZ ds Ω) Q->MC X f vs σ H Q
theorem tH.mono{P w K a base b k c j F}(h:tH P w K a base b k j F)(d:k<=c):tH P w K a base b c j F:=
 ⟨λX f e g H Q i Z l sZ m n o p q r s t=>h.run X f e g H Q i Z l _ m n o p q r s (t.mono d)⟩
def Zb(M:List (List D->aU))(n:Nat)(xs:List D)(a:aG):ay D:=match a[n]? with
 |some (.fn j sZ)=>match M[j]? with
  |some F=>aQ (F sZ) xs a
  |none=>.bad
 |_=>.bad
noncomputable def isFn(a:aG)(n:Nat):Bool:=match a[n]? with
 |some (.fn _ _)=>true
 |_=>false
def BY(M:List (List D->aU))(i:Nat)(d:AM):EM:=λb c=>match b[i]? with
 |some (some (.ref n))=>if isFn c n=true then (d b c).bind λe a=>Zb M n e a else .bad
 |_=>.bad
def fc(x:D):Out Rs:=match x with
 |.lst b=>(match hX b with
  |some a=>if a.length<=1000 then .ok (false,.int (unlike a))else .bad
  |none=>.bad)
 |_=>.bad
theorem vk(h:c.calm=true)(m:Gl c "len")(n:c.mg "len"=none)(e:Gl c "set")(f:c.mg "set"=none)(o:F' [j] c.env=[(false,eval j c.env)])(q:bt c i r j p):
  bt c i r (.Call (.Name "len" l) [.Call (.Name "set" H) [j] [] F5] [] S0) (m1 (kC fc) p):=
 jM (λC s=>yM h m n e f o s) q λD x E Z F b Q S t g=>by
  obtain⟨d,u,G,w,a,k⟩:=nz (v:=false) S t g;unfold fc at a;split at a
  .rename_i y
   split at a
   .rename_i z A
    split at a
    .rename_i B
     cases a;exact⟨_,y,z,w,A,B,k _ b _ (eY.refl (dP S)) (.rep (fq rfl))⟩
    .cases a
   .cases a
  .cases a
noncomputable def aa(i:Nat):EM:=λa b=>match a[i]? with|some (some d)=>.ok d b|_=>.bad
noncomputable def ah(d:D):EM:=λ_ a=>.ok d a
def bC:EM:=λ_ a=>iQ a (.dK [])
noncomputable def o2{c d e:Type}(x:Option c)(y:Option d)(k:c->d->e):=match x,y with
 |some a,some b=>some (k a b)
 |_,_=>none
theorem bp{c d e x y}{k:c->d->e}{z}(h:o2 x y k=some z):∃a b,x=some a/\y=some b/\z=k a b:=by
 unfold o2 at h
 grind
theorem cU{b c:Type}{x}{k:b->c}{z}(h:x.map k=some z):∃a,x=some a/\z=k a:=by
 cases x with
 |none=>cases h
 |some a=>simp_all
structure aO where
 jm:List (Str×(List D->Out Rs)):=[]
 fn:List (Str×aU):=[]
 cst:List (Str×D):=[]
 met:List (Str×Str×aU):=[]
 cls:List (Str×aU):=[]
 fld:List (Str×List Str):=[]
 clo:List (List D->aU):=[]
 fz:List Str:=[]
 xt:Bool:=false
def ri(T:aO)(a:V')(N:List Str)(x:Str):Option EM:=
 match iY a N x with
 |some i=>some (aa i)
 |none=>if sP a x&&okN x then (T.cst.lookup x).map ah else none
def tI:Const->Option EM
 |.none=>some (ah .non)
 |.bool b=>some (ah (.bl b))
 |.int i=>some (ah (.int i))
 |.str x=>some (ah (.str x))
 |_=>none
def cF(f:x'->Option EM):List x'->Option AM
 |[]=>some ag
 |e::a=>o2 (f e) (cF f a) ae
def Zc(c:Ϛ)(a b:EM):=match c with
 |.And=>ij a b
 |.Or=>oG a b
def my(f:x'->Option EM)(c:Ϛ):List x'->Option EM
 |[]=>none
 |[a]=>f a
 |a::b::r=>o2 (f a) (my f c (b::r)) (Zc c)
def vl(f:x'->Option EM):Option x'->Option (Bool×EM)
 |none=>some (true,ah .non)
 |some e=>(f e).map λm=>(false,m)
inductive BM where
 |append|reverse|insert|extend|index|join
noncomputable def BM.nm:BM->Str
 |.append=>"append" |.reverse=>"reverse" |.insert=>"insert" |.extend=>"extend" |.index=>"index" |.join=>"join"
noncomputable def BM.ar:BM->Nat
 |.append=>1|.reverse=>0|.insert=>2|.extend=>1|.index=>1|.join=>1
def BM.ty:BM->aG->D->Bool
 |.join=>Nj
 |_=>kF
def BM.f:BM->D->List D->aG->ay D
 |.append=>bT|.reverse=>eO|.insert=>iE|.extend=>iF|.index=>ir|.join=>tq
def JB(m n):=[BM.append,.reverse,.insert,.extend,.index,.join].find? λb=>b.nm==m&&b.ar==n
def iH(a:EM)(b:AM)(m:Str):List (Str×Str×aU)->Option EM
 |[]=>none
 | (c,C,F)::r=>if c==m then (match iH a b m r with
  |some x=>some (iR (bA C m F a b) x)
  |none=>some (bA C m F a b))else iH a b m r
def mz(T:aO)(m:Str)(n:Nat)(a:EM)(c:AM):Option EM:=match JB m n,iH a c m T.met with
 |some b,some x=>some (iR (d_ b.ty b.f a c) x)
 |some b,none=>some (d_ b.ty b.f a c)
 |none,x=>x
noncomputable def ez:x'->Bool
 |.Name .. |.Attribute .. |.Constant (.str _) .. |.Subscript .. |.Call (.Attribute ..) ..=>true
 |_=>false
def BZ(x):=[mq.len,mq.all,mq.any,mq.list,mq.tuple].find? (λb=>b.nm==x)
theorem FE{b}(h:BZ d=some b):d=b.nm/\b∈[mq.len,mq.all,mq.any,mq.list,mq.tuple]/\b.nm∈eK:=by
 have a:=abw h;have c:=List.mem_of_find?_eq_some h;refine⟨(eq_of_beq a).symm,c,?_⟩;cases b<;>first|decide
def rj(T:aO)(a:V')(f:x'->Option EM)(x:Str)(args:List x'):Option EM:=
 if sP a x&&okN x then
  match T.fn.lookup x,T.jm.lookup x,T.cls.lookup x,BZ x with
  |some F,_,_,_=>(cF f args).map (mN (aQ F))
  |none,some F,_,_=>if args.isEmpty then none else (cF f args).map (mN (cE F))
  |none,none,some F,_=>(cF f args).map (mN (nI x F))
  |none,none,none,some b=>if args.isEmpty then none else (cF f args).map (mN (aN b))
  |none,none,none,none=>if x==("dict")then (if args.isEmpty then none else (cF f args).map (mN gi))else none
 else none
def mB(T:aO)(a:V')(N:List Str)(f:x'->Option EM)(x:Str)(args:List x'):Option EM:=match iY a N x with
 |some _=>none
 |none=>rj T a f x args
def B_(b:V'):List x'->Option (x'×Ty×T')
 |[a,.Name t p]=>match HP t with
  |some c=>if sP b t then some (a,c,p)else none
  |none=>none
 |_=>none
theorem za(h:B_ ε I=some (j,D3,l)):I=[j,.Name D3.nm l]/\sP ε D3.nm=true/\D3.nm∈eK:=by
 unfold B_ at h;split at h
 .split at h
  .rename_i b a
   split at h
   .obtain⟨rfl,m⟩:=MV a
    simp_all
   .cases h
  .cases h
 .cases h
def Cb(b:V')(f:x'->Option EM)(x:Str)(args:List x'):Option EM:=if x==("isinstance")&&sP b x then match B_ b args with
 |some (a,c,_)=>(f a).map (m1 (fx c))
 |none=>none else none
noncomputable def Zd(args:List x'):Option {r:Str×x' // ∃p q,args=[.Call (.Name r.1 p) [r.2] [] q]}:=match args with
 |[.Call (.Name y p) [a] [] q]=>some ⟨(y,a),p,q,rfl⟩
 |_=>none
def Nl(a)(f:x'->Option EM)(x args):=(Zd args).bind λr=>if x==("len":Str)&&r.1.1==("set")&&sP a x&&sP a r.1.1 then (f r.1.2).map (m1 (kC fc))else none
def nK(a:V')(f:x'->Option EM)(x:Str)(args:List x'):Option EM:=match Cb a f x args with
 |some m=>some m
 |none=>Nl a f x args
def gs(f:x'->Option EM)(b)(iter:x'):=match iter with
 |.Call (.Name g _) args [] _=>if g==("range")then (if sP b g then (match args with
   |[a]=>(cF f [a]).map di
   |_=>none)else none)else (f iter).map bg
 |_=>(f iter).map bg
def w6(f:x'->Option EM):List x'->Option (Bool×EM)
 |[]=>some (true,ah .non)
 |[c]=>(f c).map λm=>(false,m)
 |_=>none
noncomputable def emptyDict:List (Option x')->List x'->Bool
 |[],[]=>true
 |_,_=>false
noncomputable def Ze:(k:List ϗ)->Option {r:Str×Str×x'×x' // ∃c d j e f i,k=[⟨.Tuple [.Name r.1 c,.Name r.2.1 d] j e,.Call (.Name "zip" f) [r.2.2.1,r.2.2.2] [] i,[],0⟩]}
 |[⟨.Tuple [.Name x c,.Name y d] j e,.Call (.Name g f) [a,b] [] i,[],0⟩]=>if h:(g==("zip"))=true then some ⟨(x,y,a,b),c,d,j,e,f,i,by rw[eq_of_beq h]⟩else none
 |_=>none
def gP(a):=(Ze a).map (·.1)
variable{M7:List ϗ}
theorem vm(h:gP M7=some (d,U,j,O)):∃b c a f g i,M7=[⟨.Tuple [.Name d b,.Name U c] a f,.Call (.Name "zip" g) [j,O] [] i,[],0⟩]:=by
 obtain⟨⟨_,q⟩,_,e⟩:=å.mp h;cases e;exact q
def w_(scope a x y):=uX scope a x&&scope.names.lookup y==some .local&&decide ((x::y::cN scope).Nodup)
def rl:x'->Bool
 |.ListComp _ gens _ _=>(gP gens).isSome
 |_=>false
def ck(T:aO):Nat->V'->List Str->x'->Option EM
 |0,_,_,_=>none
 |n+1,d,N,e=>match e with
  |.Name x _=>ri T d N x
  |.Constant c _ _=>tI c
  |.BinOp a g b _=>o2 (ck T n d N a) (ck T n d N b) (m2 (a7 g))
  |.UnaryOp .USub a _=>(ck T n d N a).map (m1 qR)
  |.UnaryOp .Not a _=>(ck T n d N a).map eN
  |.BoolOp g (a::b::r) _=>my (ck T n d N) g (a::b::r)
  |.Compare a [g] [b] _=>if isSet b then none else o2 (ck T n d N a) (ck T n d N b) (m2 (aF g))
  |.Compare a [g,j] [b,c] _=>if isSet c then none else o2 (ck T n d N a) (o2 (ck T n d N b) (ck T n d N c) á) λx y=>nB g j x y.1 y.2
  |.IfExp t a b _=>o2 (ck T n d N t) (o2 (ck T n d N a) (ck T n d N b) á) λx y=>HR x y.1 y.2
  |.Subscript a (.Slice s u none _) _=>o2 (ck T n d N a) (o2 (vl (ck T n d N) s) (vl (ck T n d N) u) á) λx y=>cp x y.1.1 y.1.2 y.2.1 y.2.2
  |.Subscript a (.Slice none none (some w) _) _=>o2 (ck T n d N a) (ck T n d N w) yZ
  |.Subscript a b _=>if isSlice b then none else o2 (ck T n d N a) (ck T n d N b) (m2 aK)
  |.List k _=>(cF (ck T n d N) k).map (mN aV)
  |.Tuple k _ _=>(cF (ck T n d N) k).map (mN kD)
  |.Attribute o f _=>if ez o then o2 (T.fld.lookup f) (ck T n d N o) λCs m=>m1 (fT Cs f) m else none
  |.Call (.Name x _) args [] _=>match nK d (ck T n d N) x args with
   |some m=>some m
   |none=>mB T d N (ck T n d N) x args
  |.Call (.Attribute o m z) args [] A=>if z.endLine==A.line&&ez o&&decide (args.length<20)then (match ck T n d N o,cF (ck T n d N) args with
   |some B,some l=>mz T m args.length B l
   |_,_=>none)else none
  |.ListComp i gens scope _=>match lE gens with
   |some (x,_,iter,p)=>if uX scope d x&&!isSet iter then (match oC d N (cN scope),gs (ck T n d N) d iter,ck T n (oA scope d) (x::cN scope) i,w6 (ck T n (oA scope d) (x::cN scope)) p with
    |some h,some C,some q,some (D,E)=>some (bB q D E C 0 h)
    |_,_,_,_=>none)else none
   |none=>(match gP gens with
    |some (x,y,a,b)=>if w_ scope d x y&&sP d ("zip")then (match oC d N (cN scope),cF (ck T n d N) [a,b],ck T n (oA scope d) (x::y::cN scope) i with
     |some h,some l,some q=>some (bB q true (ah .non) (vh l) 2 h)
     |_,_,_=>none)else none
    |none=>none)
  |.Dict F G _=>if emptyDict F G then some bC else none
  |_=>none
structure GoodO(X:Cx)(κ:Str->b'->Prop)(T:aO)(k:Nat)(sc:V')(N:List Str):Prop where
 scope:X.env.scope=sc
 names:X.N=N
 calm:X.calm=true
 room:cz k X.A
 dg:∀x∈eK,X.mg x=none
 jm:∀x F,T.jm.lookup x=some F->MS X k x F
 fn:∀x F,T.fn.lookup x=some F->HX X κ k x F
 cst:∀x d,T.cst.lookup x=some d->∃v u,X.mg x=some u/\RelV v u/\iW d=some v
 met:∀m C F,(m,C,F)∈T.met->wZ X κ k C m F
 cls:∀C F,T.cls.lookup C=some F->∃j,j+1<=k/\HZ X κ j C F
 fld:∀f Cs,T.fld.lookup f=some Cs->kH X.K κ Cs f
 clo:(∀j F,T.clo[j]?=some F->tH X.prog X.w X.K X.mg X.base κ k j F)
variable{θ:aO}
theorem GoodO.gl(G:GoodO c i θ b ε g)(h:sP ε d=true):Gl c d:=by
 show c.env.scope.names.lookup d=some _
 rw[G.scope];exact(eq_of_beq h)
theorem GoodO.hu(G:GoodO c i θ b ε g):c.A.units+64<È:=G.room.units
theorem GoodO.blk{X c T k d N}(G:GoodO X c T k d N)(scope f C e a b fp):GoodO (blk X scope f C e a b fp) c T k (oA scope d) e where
 scope:=by rw[←G.scope];rfl
 names:=rfl
 calm:=G.calm
 room:=G.room
 dg:=G.dg
 jm:=λx F h=>⟨(G.jm x F h).ex⟩
 fn:=λx F h=>⟨(G.fn x F h).ex⟩
 cst:=G.cst
 met:=λm C F h=>⟨(G.met m C F h).ex⟩
 cls:=λC F h=>bD (G.cls C F h) λj g i=>⟨j,g,⟨i.ex⟩⟩
 fld:=G.fld
 clo:=G.clo
def kh(X)(b:Str->b'->Prop)(e m):=(∀a,bt X b a e m)/\(∀a,gg X b a e m)/\isStar e=false
theorem bV(h:∀Φ,bt c i Φ j p)(d:isStar j=false)(e:∀a,Ő j c.env a=(do let v ←a;þ j.pos;ÿ [v] (Ŭ v))):kh c i j p:=⟨h,λΦ=>by
  intro b f k l m;refine PT.imp (zW ((h Φ) b f k l m) e) ?_;rintro o H Q ⟨n,Z,S,g⟩;exact⟨n,Z,S,g.XI⟩,d⟩
theorem bO{X c f}(d:∀e m,f e=some m->kh X c e m):∀{a}{b},cF f a=some b->(∀Φ,s_ X c Φ a b)/\(∀e∈a,isStar e=false)
 |[],b,h=>by cases h;exact⟨λΦ=>mv,by simp⟩
 |e::a,b,h=>by
  obtain⟨m,g,i,j,rfl⟩:=bp h;obtain⟨k,_,l⟩:=d e m i;obtain⟨n,o⟩:=bO d j;refine⟨λΦ=>jN (k Φ) (n Φ) (bx l),λz p=>?_⟩
  grind
theorem Cc(G:GoodO c i θ b ε g)(h:ri θ ε g d=some p):kh c i (.Name d l) p:=by
 unfold ri at h;split at h
 .rename_i e q
  cases h;obtain⟨t,w,f,k⟩:=iC q;exact bV (λm=>wN (by rwa[G.names]) (by rwa[G.scope]) f k) rfl (λ_=>rfl)
 .split at h
  .rename_i j
   simp at j;obtain⟨a,f,rfl⟩:=cU h;refine aJ (G.cst d a f) λv u n o r=>?_
   obtain⟨s,x,y⟩:=wD j.2;exact bV (λm=>gM (DQ (G.gl j.1) n o s) r) rfl (λ_=>rfl)
  .cases h
theorem zb{q}(h:tI q=some p):kh c i (.Constant q b l) p:=by
 cases q<;>cases h
 .exact bV (λa=>gM (λ_ _ _ H _ I h=>abV ⟨.non,H,I,rfl,h⟩) rfl) rfl (λ_=>rfl)
 .exact bV (λa=>gM Me rfl) rfl (λ_=>rfl)
 .exact bV (λa=>gM zI rfl) rfl (λ_=>rfl)
 .exact bV (λa=>gM IE rfl) rfl (λ_=>rfl)
theorem tJ{X w f s pos}(y:∀e m,f e=some m->kh X w e m):∀{z}{m},my f s z=some m->(∀Φ,bt X w Φ (.BoolOp s z pos) m)/\(∀Φ,HS X w Φ (.BoolOp s z pos) m)
 |[],m,h=>by cases h
 |[a],m,h=>by
  obtain⟨t,u,G⟩:=y a m h;exact⟨λΦ=>λc k l n q=>IF ((t Φ) _ k l n q),λΦ=>Fe (u Φ)⟩
 |a::b::r,m,h=>by
  obtain⟨I,N,J,K,rfl⟩:=bp h;obtain⟨t,u,G⟩:=y a I J;obtain⟨E,F⟩:=tJ y K;cases s with
  |And=>exact⟨λΦ=>by
    intro c k l n q;refine PE.imp (EB ((t Φ) c k l n q) (PE.ex λd=>(E Φ) c k l n d)) ?_
    rintro L H Q ⟨A,Z,S,g⟩;refine⟨A,Z,S,b_.use g λx d _ v M B C D i o j=>?_⟩
    split at j
    .rename_i p
     exact⟨_,ik i o p,sx ⟨_,_,C,S.grow D i,j⟩⟩
    .rename_i p
     exact⟨_,ik i o p,sv (b_.ret i o j)⟩
    .exact j.elim,λΦ=>Ff (u Φ) (F Φ)⟩
  |Or=>exact⟨λΦ=>by
    intro c k l n q;refine PE.imp (Jh ((t Φ) c k l n q) (PE.ex λd=>(E Φ) c k l n d)) ?_
    rintro L H Q ⟨A,Z,S,g⟩;refine⟨A,Z,S,b_.use g λx d _ v M B C D i o j=>?_⟩
    split at j
    .rename_i p
     exact⟨_,ik i o p,sv ⟨_,_,C,S.grow D i,j⟩⟩
    .rename_i p
     exact⟨_,ik i o p,sx (b_.ret i o j)⟩
    .exact j.elim,λΦ=>Jt (u Φ) (F Φ)⟩
variable{D5:x'->Option EM}
theorem tK(b:∀e p,D5 e=some p->kh c i e p)(h:vl D5 C7=some (v,p)):Qc c i r C7 v p:=by
 cases C7 with
 |none=>cases h;exact .inl ⟨rfl,rfl⟩
 |some e=>
  obtain⟨a,d,f⟩:=cU h;cases f;exact .inr ⟨e,rfl,rfl,(b e p d).1 r⟩
theorem FF{m n b}(h:JB m n=some b):m=b.nm/\n=b.ar:=by
 have:=abw h
 simp_all
variable{B4:É}
theorem en(h:ez j=true):ĉ j d B4 (eval j B4)=eval j B4:=by
 cases j with
 |Call f a b p=>cases f<;>first|rfl | (cases h)
 |_=>rfl
theorem Nn(hu:c.A.units+64<È)(b:BM)(M:ez j=true)(E:(l.endLine==H.line)=true)(N:I.length=b.ar)(O:bt c i r j p)(ha:cF D5 I=some u0)(hf:∀e m,D5 e=some m->kh c i e m):
  bt c i r (.Call (.Attribute j b.nm l) I [] H) (d_ b.ty b.f p u0):=by
 obtain⟨G,P⟩:=bO hf ha;have G:=G r;cases b with
 |append=>
  match I,N with
  |[e],_=>exact nE Ť acr PySem.F.type_list_append pd (λx v w Z B d S a h=>kG S a h) (λx v J K w Z B d Q S a C g=>yR S a C g) (en M) E O G P (by simp)
 |reverse=>
  match I,N with
  |[],_=>cases ha;exact Fu Ť ady PySem.F.type_list_reverse (by
    intro pins s σ d x K v us Q o R T h;obtain⟨D,J,rfl,rfl,hH,q⟩:=h;cases R;have U:=T.zero;subst U;refine xa (o.yh hH) λz L=>aJ L λV n a E e=>?_
    refine ĩ ady ⟨_,e,rfl⟩ F.entry_list_reverse (F.args_list_reverse_1 _) (AutoSeq1.list_reverse_list_0 D _ n (by simp_all)) ⟨e,?_⟩
    refine⟨.non,_,o.Ae hH e (by simp) a.reverse ?_,rfl,q⟩
    simp_all) (λx v w Z B d S a h=>kG S a h) (λx v J K w Z B d Q S a C g=>vg S a C g) (en M) E O
 |insert=>
  match I,N with
  |[e,e2],_=>exact nE Ť adn PySem.F.type_list_insert yF (λx v w Z B d S a h=>kG S a h) (λx v J K w Z B d Q S a C g=>yS S a C g) (en M) E O G P (by simp)
 |extend=>
  match I,N with
  |[e],_=>exact nE Ť acs PySem.F.type_list_extend yi (λx v w Z B d S a h=>kG S a h) (λx v J K w Z B d Q S a C g=>yT S a C g) (en M) E O G P (by simp)
 |index=>
  match I,N with
  |[e],_=>exact nE Ť adp PySem.F.type_list_index (A_ hu) (λx v w Z B d S a h=>kG S a h) (λx v J K w Z B d Q S a C g=>BD S a C g) (en M) E O G P (by simp)
 |join=>
  match I,N with
  |[e],_=>exact nE PySem.F.plainAttrs_str PySem.F.slot_str_join PySem.F.type_str_join (by
    intro pins s σ d x K v us Q o R T h;refine xe h λz L=>bP L λZ ds J y X Y n hs h1 a0=>xa a0 λh2 q=>?_;subst X;subst Y
    obtain⟨t,rfl⟩:=R;obtain⟨D,ws,rfl,q1,q2⟩:=dh n;obtain⟨u,rfl,ru⟩:=T.one;cases ru;refine br (o.list (lA q1)) λV b0 pl hz=>?_
    exact join_listW pl.isList (by simpa using qN hs q2 b0) h1 h2 λt' k=>⟨.str _,d,o.tok _,⟨t',rfl⟩,q⟩) (λx v w Z B d S a h=>by
      cases x with
      |str z=>subst a;rfl
      |_=>cases h) (λx v J K w Z B d Q S a C g=>Fv S a C g) (en M) E O G P (by simp)
theorem mD(i:ĉ j d B4 (eval j B4)=eval j B4)(g:∀e∈I,isStar e=false)(c:I.length<20)(k:(l.endLine==H.line)=true):
  eval (.Call (.Attribute j d l) I [] H) B4=(do
   let b ←eval j B4
   þ l.atName
   let (f,first) ←ÿ [b] (ď b d (do let a ←importBound j B4;pure (a.getD true)))
   ğ H f first (Æ H (F' I B4)) (Ą H (ą [] B4))):=by
 have m:adz (I.length+([]:List ϳ).length) (Æ H (F' I B4)) (Ą H (ą [] B4))=true:=by
  unfold adz;rw[vf g,decide_eq_true (by grind)];rfl
 have h:eval (.Call (.Attribute j d l) I [] H) B4=(do
   let b ←ĉ j d B4 (eval j B4)
   þ l.atName
   methodCall j d l H B4 b (I.length+([]:List ϳ).length) (Æ H (F' I B4)) (Ą H (ą [] B4))):=by rfl
 rw[h];unfold methodCall calleeOf methodCallPos
 simp_all
theorem jn{X c k f}(d:cz k X.A){o m b n p r s Φ}(g:ez o=true)(i:(r.endLine==s.line)=true)(a:b.length<20)(j:bt X c Φ o n)(l:cF f b=some p)(t:∀e m,f e=some m->kh X c e m):∀{ms}{x},(∀m C F,(m,C,F)∈ms->wZ X c k C m F)->iH n p m ms=some x->bt X c Φ (.Call (.Attribute o m r) b [] s) x
 |[],x,_,h=>by cases h
 | (u,C,F)::ms,x,w,h=>by
  obtain⟨B,z⟩:=bO t l;simp only[iH]at h;split at h
  .rename_i D
   obtain rfl:=eq_of_beq D
   have one:bt X c Φ (.Call (.Attribute o u r) b [] s) (bA C u F n p):=by
    cases b with
    |nil=>cases l;exact yX (by grind) d j (mD (en g) z a i)
    |cons e b=>exact BP (by grind) d j (B Φ) (bx (by simp_all)) (bJ (by simp_all)) (mD (en g) z a i)
   split at h
   .rename_i y E
    cases h;exact one.alt (jn d g i a j l t (λm C F q=>w m C F (by simp[q])) E)
   simp_all
  .exact jn d g i a j l t (λm C F q=>w m C F (by simp[q])) h
theorem Cd{X a T k w N f}(G:GoodO X a T k w N){o m c g i j l Φ x}(q:ez o=true)(r:(j.endLine==l.line)=true)(d:c.length<20)(s:bt X a Φ o g)(t:cF f c=some i)(u:∀e m,f e=some m->kh X a e m)(h:mz T m c.length g i=some x):bt X a Φ (.Call (.Attribute o m j) c [] l) x:=by
 have one:∀b,JB m _=some b->bt X a Φ (.Call (.Attribute o m j) c [] l) (d_ b.ty b.f g i):=λb n=>by
  obtain⟨rfl,z⟩:=FF n;exact Nn G.hu b q r z s t u
 have p:∀y,iH g i m _=some y->bt X a Φ _ y:=λy A=>jn G.room q r d s t u G.met A
 unfold mz at h;split at h
 .rename_i b y B C
  cases h;exact(one b B).alt (p y C)
 .simp_all
 simp_all
theorem Ce(G:GoodO c i θ b ε g)(w:∀e p,D5 e=some p->kh c i e p)(h:rj θ ε D5 d I=some p):kh c i (.Call (.Name d l) I [] H) p:=by
 refine bV (λs=>?_) rfl (λ_=>rfl)
 unfold rj at h;split at h
 .rename_i D
  simp at D;obtain⟨x,n2,n3⟩:=wD D.2;have r:=G.gl D.1;split at h
  .rename_i F u
   obtain⟨y,n,rfl⟩:=cU h;obtain⟨o,q⟩:=bO w n;cases I with
   |nil=>cases n;exact yW (G.fn d F u) G.room r x
   |cons a I=>
     refine dO ((G.fn d F u).ex) λD5 fd ps E hk z F1=>?_
     intro t J K L A;refine PE.imp (qv F1 G.room r E hk z .nil lu ((o s) t J K L A) x (bx (q a (by simp))) (bJ (by grind))) ?_
     rintro σ k Q ⟨B,Z,S,f⟩;refine⟨B,Z,S,oE.use f λC N _ O H1 P Z1 g1 R T U=>?_⟩
     rw[Ċ];exact⟨_,Z1,_,C,R,T,b_.ok0 U⟩
  .rename_i F _ u
   split at h
   .cases h
   .rename_i m
    obtain⟨y,n,rfl⟩:=cU h;obtain⟨o,q⟩:=bO w n;cases I with
    |nil=>exact absurd rfl m
    |cons a I=>exact yO (G.jm d F u) G.room r x (bx (q a (by simp))) (bJ (by simp_all)) (o s)
  .rename_i F _ _ u
   obtain⟨y,n,rfl⟩:=cU h;obtain⟨o,q⟩:=bO w n;obtain⟨j,hj,M⟩:=G.cls d F u;cases I with
   |nil=>cases n;exact BQ M (G.room.mono hj) r x
   |cons a I=>
     refine bc M.ex λCa D5 fd ps V hM E z F1=>?_
     intro t J K L A;refine PE.imp (DX hM F1 (G.room.mono hj) r E z .nil lu ((o s) t J K L A) x (bx (q a (by simp))) (bJ (by simp_all))) ?_
     rintro σ k Q ⟨B,Z,S,f⟩;exact⟨B,Z,S,oE.use f λC N _ O H1 P Z1 g1 R T U d dx X Y m=>tF R T V U X Y m⟩
  .rename_i a0 _ _ _ z
   split at h
   .cases h
   .rename_i m
    obtain⟨y,n,rfl⟩:=cU h;obtain⟨o,q⟩:=bO w n;obtain⟨rfl,b1,b2⟩:=FE z;cases I with
    |nil=>exact absurd rfl m
    |cons a I=>exact Fp G.calm b1 r (G.dg _ b2) (bx (q a (by simp))) (bJ (by grind)) (o s)
  .split at h
   .rename_i X
    obtain rfl:=eq_of_beq X;split at h
    .cases h
    .rename_i m
     obtain⟨y,n,rfl⟩:=cU h;obtain⟨o,q⟩:=bO w n;cases I with
     |nil=>exact absurd rfl m
     |cons a I=>
       show bt c i s _ (mN (oH _ _) y)
       rw[q_];exact bt.alt (ip (uI G.calm) r (G.dg _ (by decide)) boot_dict (by decide) (by decide) (bx (q a (by simp))) (bJ (by grind)) (o s) λC O B Z A k Q S rx f=>Fo S rx f) (ip uH r (G.dg _ (by decide)) boot_dict (by decide) (by decide) (bx (q a (by simp))) (bJ (by grind)) (o s) λC O B Z A k Q S rx f=>Fm S rx f)
   .cases h
 .cases h
theorem Cf(G:GoodO c i θ b ε g)(f:∀e p,D5 e=some p->kh c i e p)(h:mB θ ε g D5 d I=some p):kh c i (.Call (.Name d l) I [] H) p:=by
 unfold mB at h;cases j:iY ε g d with
 |none=>rw[j]at h;exact Ce G f h
 |some a=>
  grind
theorem FG(G:GoodO c i θ b ε g)(k:∀e p,D5 e=some p->kh c i e p)(h:Cb ε D5 d I=some p):kh c i (.Call (.Name d l) I [] H) p:=by
 unfold Cb at h;split at h
 .rename_i f
  simp at f;obtain⟨rfl,m⟩:=f;split at h
  .rename_i a x y n
   obtain⟨rfl,o,q⟩:=za n;obtain⟨r,s,rfl⟩:=cU h;obtain⟨t,_,u⟩:=k a r s;exact bV (λw=>Fs (G.gl m) (G.dg _ (by decide)) (G.gl o) (G.dg _ q) (bx u) (bJ λz j=>by simp at j;subst j;rfl) (t w)) rfl (λ_=>rfl)
  .cases h
 .cases h
theorem JC(G:GoodO c i θ b ε g)(k:∀e p,D5 e=some p->kh c i e p)(h:Nl ε D5 d I=some p):kh c i (.Call (.Name d l) I [] H) p:=by
 obtain⟨⟨⟨y,a⟩,l,q,rfl⟩,_,f⟩:=ģ.mp h;dsimp only at f;split at f
 .rename_i j
  simp only[Ú,beq_iff_eq]at j;obtain⟨⟨⟨rfl,rfl⟩,m⟩,n⟩:=j;obtain⟨o,r,rfl⟩:=cU f;obtain⟨s,_,t⟩:=k _ o r;exact bV (λu=>vk G.calm (G.gl m) (G.dg _ (by decide)) (G.gl n) (G.dg _ (by decide)) (bx t) (s u)) rfl (λ_=>rfl)
 .cases f
theorem Cg(G:GoodO c i θ b ε g)(a:∀e p,D5 e=some p->kh c i e p)(h:nK ε D5 d I=some p):kh c i (.Call (.Name d l) I [] H) p:=by
 unfold nK at h;split at h
 .rename_i f;cases h;exact FG G a f
 .exact JC G a h
theorem kI(G:GoodO c i θ b ε g)(o:∀e m,D5 e=some m->kh c i e m)(h:gs D5 ε j=some B1):∀Φ k,yV c i Φ k j B1:=by
 intro Φ k
 have dflt:∀{B1},(D5 j).map bg=some B1->yV c i Φ k _ B1:=λ{B1} h=>by
  obtain⟨m,l,rfl⟩:=cU h;exact Fy ((o _ m l).1 Φ)
 unfold gs at h;split at h
 .split at h
  .rename_i q
   obtain rfl:=eq_of_beq q;split at h
   .rename_i r
    split at h
    .obtain⟨F,l,rfl⟩:=cU h
     obtain⟨s,I⟩:=bO o l;intro n t u w x;refine PI.imp (yd (G.gl r) (G.dg _ (by decide)) ((s Φ) n t u w x) (by rw[bx (by simp_all)];rfl)) ?_
     rintro J H R ⟨y,Z,S,a⟩;refine⟨y,Z,S,oM.TN a λK z _ L A B C M p D d=>?_⟩
     unfold wV at d;split at d
     .obtain⟨v,rfl,E⟩:=iG D
      subst E;split at d
      .rename_i f
       have f:=sJ f;exact⟨_,rfl,f.1,f.2,d _ A _ C (cM.refl p.has) p BF⟩
      .exact d.elim
     .exact d.elim
    .cases h
   .cases h
  simp_all
 simp_all
variable{f7:V'}
theorem xl(G:GoodO c i θ b ε g)(h:uX f7 ε d=true)(k:oC ε g (cN f7)=some L):
  iX c f7 [d] (cN f7) L/\f7.names.lookup d=some .local/\([d]++cN f7).Nodup:=by
 simp only[uX,Ú,decide_eq_true_eq,ù,ċ,beq_iff_eq,adA]at h;obtain⟨⟨⟨⟨⟨l,s⟩,t⟩,u⟩,m⟩,n⟩:=h;obtain⟨o,w⟩:=Bc k
 have p:∀y∈f7.names,y.2=.free->(ε.names.lookup y.1=some .cell\/ε.names.lookup y.1=some .free)/\f7.names.lookup y.1=some .free:=λy a e=>by
  grind
 refine⟨⟨l,λy a e=>?_,λy a e=>?_,λy a e=>?_,o,λj f z q x=>?_⟩,m,n⟩
 .grind
 .grind
 .have:=(p y a e).1
  show c.env.scope.names.lookup _=_\/c.env.scope.names.lookup _=_
  rwa[G.scope]
 .refine⟨by rw[G.names];grind,?_⟩
  have r:=Î q;unfold cN at r
  grind
variable{y0:Prop}
theorem nL(i:lE M7=none)(hz:gP M7=none)(h:ck θ (b+1) ε g (.ListComp j M7 f7 l)=some p):y0:=by
 replace h:(match lE M7 with
   |some (x,_,iter,e)=>if (uX f7 ε x&&!isSet iter)=true then (match oC ε g (cN f7),gs (ck θ b ε g) ε iter,ck θ b (oA f7 ε) (x::cN f7) j,w6 (ck θ b (oA f7 ε) (x::cN f7)) e with
    |some c,some k,some f,some (m,n)=>some (bB f m n k 0 c)
    |_,_,_,_=>none)else none
   |none=>(match gP M7 with
    |some (x,y,a,d)=>if (w_ f7 ε x y&&sP ε ("zip":Str))=true then (match oC ε g (cN f7),cF (ck θ b ε g) [a,d],ck θ b (oA f7 ε) (x::y::cN f7) j with
     |some c,some o,some f=>some (bB f true (ah .non) (vh o) 2 c)
     |_,_,_=>none)else none
    |none=>none))=some p:=h
 rw[i,hz]at h;cases h
variable{s:Nat}
theorem lJ(y:∀c ε g e p,GoodO c i θ b ε g->ck θ s ε g e=some p->kh c i e p)(G:GoodO c i θ b ε g)(h:ck θ (s+1) ε g (.ListComp O [⟨.Name d l,j,I,0⟩] f7 H)=some p):∃o q r t n,p=bB o q r t 0 n/\iX c f7 [d] (cN f7) n/\f7.names.lookup d=some .local/\([d]++cN f7).Nodup /\
   (∀z,Ď j c.env z=pure z)/\(∀Φ,yV c i Φ (.Name d l) j t) /\
   ∀w C f k fp,((I=[]/\q=true)\/∃m,I=[m]/\q=false/\gg (blk c f7 w C ([d]++cN f7) f k fp) i mw m r)/\bt (blk c f7 w C ([d]++cN f7) f k fp) i mw O o:=by
 replace h:(if (uX _ ε d&&!isSet _)=true then (match oC ε g _,gs _ ε _,ck θ s _ _ _,w6 _ _ with
    |some _,some t,some o,some (q,r)=>some _
    |_,_,_,_=>none)else none)=some p:=h
 split at h
 .rename_i x
  simp at x;split at h
  .rename_i n t o q r D E F u
   cases h;obtain⟨J,K,L⟩:=xl G x.1 D;refine⟨o,q,r,t,_,rfl,J,K,L,f_ x.2,λΦ=>kI G (by grind) E Φ _,λw C f k fp=>?_⟩
   have A:=G.blk f7 w C ([d]++cN f7) f k fp;refine⟨?_,(y _ _ _ _ o A F).1 _⟩
   match I,u with
   |[],u=>cases u;simp
   |[B],u=>
    obtain⟨a,M,N⟩:=cU u;cases N;exact .inr ⟨B,rfl,rfl,(y _ _ _ B r A M).2.1 _⟩
  .cases h
 .cases h
theorem Ci(w:∀c ε g e p,GoodO c i θ b ε g->ck θ s ε g e=some p->kh c i e p)(G:GoodO c i θ b ε g)(A:lE M7=none)(hz:gP M7=some (d,U,O,y2))(h:ck θ (s+1) ε g (.ListComp j M7 f7 l)=some p):kh c i (.ListComp j M7 f7 l) p:=by
 replace h:(match lE M7 with
   |some (d,_,iter,o)=>if (uX f7 ε d&&!isSet iter)=true then (match oC ε g (cN f7),gs (ck θ s ε g) ε iter,ck θ s (oA f7 ε) (d::cN f7) j,w6 (ck θ s (oA f7 ε) (d::cN f7)) o with
    |some a,some B,some k,some (D,E)=>some (bB k D E B 0 a)
    |_,_,_,_=>none)else none
   |none=>(match gP M7 with
    |some (d,U,O,y2)=>if (w_ f7 ε d U&&sP ε ("zip":Str))=true then (match oC ε g (cN f7),cF (ck θ s ε g) [O,y2],ck θ s (oA f7 ε) (d::U::cN f7) j with
     |some a,some x,some k=>some (bB k true (ah .non) (vh x) 2 a)
     |_,_,_=>none)else none
    |none=>none))=some p:=h
 rw[A,hz]at h;dsimp only at h;obtain⟨S,T,r,V,X,Y,rfl⟩:=vm hz;split at h
 .rename_i y
  simp only[Ú,w_,decide_eq_true_eq,beq_iff_eq]at y;obtain⟨⟨⟨F,H⟩,t⟩,u⟩:=y;split at h
  .rename_i a x k I J K
   cases h;obtain⟨f,L,Z⟩:=xl G F I;obtain⟨M,z⟩:=bO (λe p q=>w c ε g e p G q) J
   have N:iX c f7 [d,U] (cN f7) a:=⟨f.kind,f.cell,f.names,f.free,f.len,f.at'⟩;exact bV (λP=>BH G.calm N (f_ rfl) (Fx (G.gl u) (G.dg _ (by decide)) (M P) (bx (z O (by simp))) (by rw[bx (z y2 (by simp))];rfl)) L H t λQ C m n R=>(w _ _ _ j k (G.blk f7 Q C ([d,U]++cN f7) m n R) K).1 mw) rfl (λ_=>rfl)
  .cases h
 .cases h
theorem fU:∀n X u N e m,GoodO X i θ b u N->ck θ n u N e=some m->kh X i e m:=by
 intro n
 induction n with
 |zero=>intro X u N e m G h;cases h
 |succ n P=>
  intro X u N e m G h;have k:∀e m,ck θ n u N e=some m->kh X i e m:=λe m q=>P X u N e m G q
  cases e with
  |Name x pos=>exact Cc G h
  |Constant c j pos=>exact zb h
  |BinOp a B d pos=>
   obtain⟨z,C,l,w,rfl⟩:=bp h;exact bV (λg=>EY ((k a z l).1 g) ((k d C w).1 g)) rfl (λ_=>rfl)
  |UnaryOp B a pos=>
   cases B with
   |USub=>
    obtain⟨z,l,rfl⟩:=cU h;exact bV (λg=>EZ ((k a z l).1 g)) rfl (λ_=>rfl)
   |Not=>
    obtain⟨z,l,rfl⟩:=cU h;exact⟨λg=>Fc ((k a z l).1 g),λg=>Fd ((k a z l).2.1 g),rfl⟩
   |_=>cases h
  |BoolOp B K pos=>
   match K,h with
   |a::d::r,h=>
    obtain⟨q1,q2⟩:=tJ (pos:=pos) k (show my (ck θ n u N) B (a::d::r)=some m from h)
    exact⟨q1,λg=>(q2 g).pt,rfl⟩
   |[_],h=>cases h
   |[],h=>cases h
  |Compare a Q cs pos=>
   match Q,cs,h with
   |[B],[d],h=>
    replace h:(if isSet d=true then none else o2 (ck θ n u N a) (ck θ n u N d) (m2 (aF B)))=some m:=h
    split at h
    .cases h
    .rename_i R
     obtain⟨z,C,l,w,rfl⟩:=bp h;have F:=sQ (B3:=B) (j:=d) (by simpa using R)
     exact⟨λg=>(qZ G.hu F ((k a z l).1 g) ((k d C w).1 g)).1,λg=>(qZ G.hu F ((k a z l).1 g) ((k d C w).1 g)).2,rfl⟩
   |[B,D],[d,L],h=>
    replace h:(if isSet L=true then none else o2 (ck θ n u N a) (o2 (ck θ n u N d) (ck θ n u N L) á) λx y=>nB B D x y.1 y.2)=some m:=h
    split at h
    .cases h
    .rename_i R
     obtain⟨z,a0,l,A,rfl⟩:=bp h;obtain⟨C,mc,w,E,rfl⟩:=bp A;have F:Ų [B,D] [d,L]=false:=sQ (B3:=D) (j:=L) (by simpa using R)
     exact⟨λg=>Fi G.hu F ((k _ _ l).1 g) ((k _ _ w).1 g) ((k _ _ E).1 g),λg=>Fj G.hu F ((k _ _ l).1 g) ((k _ _ w).1 g) ((k _ _ E).1 g),rfl⟩
   |[],_,h=>cases h
   |[_],[],h=>cases h
   |[_],_::_::_,h=>cases h
   |[_,_],[],h=>cases h
   |[_,_],[_],h=>cases h
   |[_,_],_::_::_::_,h=>cases h
   |_::_::_::_,[],h=>cases h
   |_::_::_::_,[_],h=>cases h
   |_::_::_::_,_::_::_,h=>cases h
  |IfExp t a d pos=>
   obtain⟨mt,b0,l,A,rfl⟩:=bp h;obtain⟨z,C,w,E,rfl⟩:=bp A;exact⟨λg=>Fg ((k _ _ l).2.1 g) ((k _ _ w).1 g) ((k _ _ E).1 g),λg=>Fh ((k _ _ l).2.1 g) ((k _ _ w).2.1 g) ((k _ _ E).2.1 g),rfl⟩
  |Subscript a s pos=>
   have S:∀d,isSlice d=false->o2 (ck θ n u N a) (ck θ n u N d) (m2 aK)=some m->kh X i (.Subscript a d pos) m:=λd T h=>by
    obtain⟨z,C,l,w,rfl⟩:=bp h;refine bV (λg=>E_ (by have:=G.hu;omega) (λo U=>?_) ((k _ _ l).1 g) ((k _ _ w).1 g)) rfl (λ_=>rfl)
    cases d<;>first|rfl | (cases T)
   cases s with
   |Slice lo H st p2=>
    cases st with
    |none=>
     obtain⟨z,c0,l,A,rfl⟩:=bp h;obtain⟨⟨nl,ml⟩,⟨nh,mh⟩,w,E,rfl⟩:=bp A;exact bV (λg=>Fb ((k _ _ l).1 g) (tK k w) (tK k E)) rfl (λ_=>rfl)
    |some e=>
     cases lo with
     |none=>
      cases H with
      |none=>
       obtain⟨z,ms,l,w,rfl⟩:=bp h;exact bV (λg=>y_ ((k _ _ l).1 g) ((k _ _ w).1 g)) rfl (λ_=>rfl)
      |some _=>exact nomatch (show(none:Option EM)=some m from h)
     |some _=>exact nomatch (show(none:Option EM)=some m from h)
   |_=>exact S _ rfl h
  |List es pos=>
   obtain⟨M,l,rfl⟩:=cU h;exact bV (λg=>EW ((bO k l).1 g)) rfl (λ_=>rfl)
  |Tuple es j pos=>
   obtain⟨M,l,rfl⟩:=cU h;exact bV (λg=>EX ((bO k l).1 g)) rfl (λ_=>rfl)
  |Attribute o f pos=>
   replace h:(if ez o=true then o2 (θ.fld.lookup f) (ck θ n u N o) λV m=>m1 (fT V f) m else none)=some m:=h
   split at h
   .rename_i T
    obtain⟨V,I,l,w,rfl⟩:=bp h;exact bV (λg=>FC (G.fld f V l) (en T) ((k o I w).1 g)) rfl (λ_=>rfl)
   .cases h
  |Call f args J pos=>
   cases f with
   |Name x p=>
    cases J with
    |nil=>
     replace h:(match nK u (ck θ n u N) x args with|some m=>some m|none=>mB θ u N (ck θ n u N) x args)=some m:=h
     cases H:nK u (ck θ n u N) x args with
     |some m'=>
      rw[H]at h;cases h;exact Cg G k H
     |none=>
      rw[H]at h;exact Cf G k h
    |cons _ _=>cases h
   |Attribute o mm p1=>
    cases J with
    |nil=>
     replace h:(if (p1.endLine==pos.line&&ez o&&decide (args.length<20))=true then (match ck θ n u N o,cF (ck θ n u N) args with
   |some I,some M=>mz θ mm args.length I M
   |_,_=>none)else none)=some m:=h
     split at h
     .rename_i O
      simp only[Ú,decide_eq_true_eq]at O;split at h
      .rename_i I M l w
       exact bV (λg=>Cd G O.1.2 O.1.1 O.2 ((k o I l).1 g) w k h) rfl (λ_=>rfl)
      .cases h
     .cases h
    |cons _ _=>cases h
   |_=>cases h
  |ListComp d0 gens scope pos=>
   cases Y:lE gens with
   |none=>
    cases Z:gP gens with
    |none=>exact nL Y Z h
    |some q=>obtain⟨x,y,a,d⟩:=q;exact Ci (λX u N e m G q=>P X u N e m G q) G Y Z h
   |some q=>
    obtain⟨x,px,iter,e0⟩:=q;obtain rfl:=pC Y;obtain⟨me,nc,mc,mi,g0,rfl,b1,b2,b3,b4,b5,b6⟩:=lJ (λX u N e m G q=>P X u N e m G q) G h
    exact bV (λg=>BG G.calm b1 b4 (b5 g) b2 b3 b6) rfl (λ_=>rfl)
  |Dict ks K pos=>
   replace h:(if emptyDict ks K=true then some bC else none)=some m:=h
   split at h
   .rename_i hd
    cases h
    match ks,K,hd with
    |[],[],_=>exact bV (λg=>yY) rfl (λ_=>rfl)
   .cases h
  |_=>cases h
structure eS(X:Cx)(κ:Str->b'->Prop)(T:aO)(k:Nat)(sc:V')(N:List Str):Prop extends GoodO X κ T k sc N where
 own:ŭ (k9 X.prog X.w) X.A X.env X.xe
 Np:∀x,Ba sc x=true->T.fz.contains x=false->(X.fn x=true\/X.env.scope.names.lookup x=some .local)
 qQ:N.Nodup
 kind:sc.kind=.function
 k_:T.xt=false->∀e s,¬ X.xe e s
def c_(f:K'->Option SM):List K'->Option SM
 |[]=>some aq
 |s::r=>o2 (f s) (c_ f r) ak
noncomputable def Zf(e:x'):Option {r:Str×x' // ∃p q,e=.Call (.Name r.1 p) [r.2] [] q}:=match e with
 |.Call (.Name g p) [a] [] q=>some ⟨(g,a),p,q,rfl⟩
 |_=>none
noncomputable def Zg(e:x'):Option {r:x'×Str×T'×T' // e=.Call (.Attribute r.1 r.2.1 r.2.2.1) [] [] r.2.2.2}:=match e with
 |.Call (.Attribute o a b) [] [] c=>some ⟨(o,a,b,c),rfl⟩
 |_=>none
def kJ(f:x'->Option EM)(a:V')(iter:x'):Option IM:=match Zf iter with
 |some r=>if r.1.1==("enumerate")then (if sP a r.1.1 then (f r.1.2).map tr else none)else gs f a iter
 |none=>match Zg iter with
  |some r=>if r.1.2.1==("items")&&r.1.2.2.1.endLine==r.1.2.2.2.line&&ez r.1.1 then (f r.1.1).map rf else gs f a iter
  |none=>gs f a iter
def jV(T:aO)(a N x):=if T.fz.contains x then none else sR a N x
def jo(T:aO)(a N)(nms:List (Str×T')):=if nms.any (λy=>T.fz.contains y.1)then none else qO a N nms
def vo(T:aO)(td:List Str)(k:Nat)(a:V')(N:List Str)(x:Str)(b:T')(e:x')(pos:T'):Option SM:=match jV T a N x with
   |some i=>if rl e then none else (match ck T k a N e with
    |some m=>if sS a x b e then (if pos.line==b.line then some (aE i m)else none)else some (aE i m)
    |none=>none)
   |none=>none
def vp(T:aO)(k:Nat)(a:V')(N:List Str)(b:List x')(e:x'):Option SM:=match eh b with
   |some nms=>match jo T a N nms,ck T k a N e with
    |some c,some m=>if Bd e then some (BI c m)else none
    |_,_=>none
   |none=>none
noncomputable def FH:x'->Bool
 |.Call (.Attribute (.Attribute ..) m _) [] [] _=>m==("items")
 |_=>false
def tL(b:Bool)(a:D->bo->Option bo)(d c):=dI a d c
theorem tN(h:ju c i r Θ (dI F8 B1 ω)):ju c i r Θ (tL v F8 B1 ω):=h
def jq(T:aO)(td:List Str)(k:Nat)(d:V')(N:List Str):Nat->K'->Option SM
 |0,_=>none
 |n+1,l=>match l with
  |.Return (some e) _=>some (match ck T k d N e with
   |some m=>bU m
   |none=>cT)
  |.Assign [.Name x p] e h=>vo T td k d N x p e h
  |.Assign [.Tuple j _ _] e _=>vp T k d N j e
  |.Assign [.Attribute o f _] e _=>if ez o&&!ji e then o2 (T.fld.lookup f) (o2 (ck T k d N o) (ck T k d N e) á) λCs y=>eP Cs f y.1 y.2 else none
  |.Assign [.Subscript o i _] e _=>if isSlice i||ji e then none else o2 (ck T k d N o) (o2 (ck T k d N i) (ck T k d N e) á) λx y=>ey x y.1 y.2
  |.Expr e _=>if ji e then none else (ck T k d N e).map cJ
  |.If c a b _=>o2 (ck T k d N c) (o2 (c_ (jq T td k d N n) a) (c_ (jq T td k d N n) b) á) λx y=>dY x y.1 y.2
  |.While c b [] _=>o2 (ck T k d N c) (c_ (jq T td k d N n) b) lX
  |.For (.Name x _) g b [] _=>if isSet g then none else o2 (jV T d N x) (o2 (gs (ck T k d N) d g) (c_ (jq T td k d N n) b) á) λi y=>dI (cY i) y.1 y.2
  |.For (.Tuple j _ _) g b [] _=>if isSet g then none else match eh j with
   |some nms=>o2 (jo T d N nms) (o2 (kJ (ck T k d N) d g) (c_ (jq T td k d N n) b) á) λq y=>tL (FH g) (fy q) y.1 y.2
   |none=>none
  |.Raise _ _ _=>some cT
  |.Try b (_::_) [] [] _=>if T.xt then none else c_ (jq T td k d N n) b
  |_=>none
theorem FI(Q:Gl c "enumerate")(T:c.mg "enumerate"=none)(K:F' [j] c.env=[(false,eval j c.env)])(U:bt c i r j p):
  yV c i r (.Tuple I b l) (.Call (.Name "enumerate" H) [j] [] S0) (tr p):=by
 intro t X Y ρ Ω;refine PI.imp (Ez Q T (eD (U t X Y ρ Ω) kj K) K) ?_;rintro σ u R ⟨α,Z,S,g⟩;refine⟨α,Z,S,oM.use g λx z _ v H1 a0 Z1 g1 n L o=>?_⟩
 have b0:∀{f:List _}{m:b'->Prop}{h:aG}{k:Hp}{a:Nat}{v:V}{q:D},bH i _ m _ k->aw f m k q v->∀H,k H=none->∃A,cM _ m k _ A _/\bH i _ A h _/\aw _ A _ (.tup [.int (0+a),q]) _:=λ{f m h k a v q} s M H N=>by
  obtain⟨s3,O⟩:=s.pG (M0:=.tup [.int a,v]) N True;refine⟨_,O,s3,?_⟩;refine⟨H,_,rfl,.inr rfl,aS,cG.mpr (.cons ?_ (.one (s.cP O M)))⟩;simp only[aw];simp
 cases B:dm z x with
 |none=>simp only[B]at o;exact o.elim
 |some c0=>
  simp only[B]at o;obtain⟨j,d0,rfl,q1,q2⟩:=bz n L B;refine⟨j,rfl,⟨_,lA q1⟩,o _ H1 _ Z1 (cM.refl n.has) n ?_⟩;intro f m h k ds g2 s C;obtain⟨e0,h2,rfl⟩:=cU C;refine aJ (bz s (n.cP g2 L) h2) λa' E e F P=>?_
  cases e;refine⟨λa d hd=>?_,λa hi=>by rw[jH]at hi;exact⟨E,lA F,by rwa[P.length]⟩⟩
  obtain⟨q,G,rfl⟩:=mu _ 0 a d hd;obtain⟨v,hv,M⟩:=P.get G;refine⟨⟨E,v,lA F,hv⟩,λy H3 J=>?_⟩
  obtain⟨H,rfl,N,J⟩:=J;obtain⟨w,hw,rfl⟩:=J E (lA F)
  simp_all
theorem zc(y:ez j=true)(z:(H.endLine==S0.line)=true)(d:bt c i r j p):
  yV c i r (.Tuple I b l) (.Call (.Attribute j "items" H) [] [] S0) (rf p):=by
 intro m A B C D;refine PI.imp (Bg (en y) z (d m A B C D)) ?_;rintro O n R ⟨E,Z,S,g⟩;refine⟨E,Z,S,oM.use g λx F _ v P G Q T f J e=>?_⟩
 unfold wU at e;split at e
 .obtain⟨j,d,rfl⟩:=J
  split at e
  .rename_i s t
   obtain⟨K,a,h,k,w⟩:=f.cell t;rw[d]at a;cases a
   refine⟨j,_,rfl,.inl ⟨k,λo=>?_⟩⟩
   obtain⟨L,M⟩:=f.put (c:=.dF _) d (λo u q=>by simp_all) λR hR=>⟨o,_,aS,w.imp hR⟩
   exact e _ _ _ _ M L (pM d aS)
  .rename_i s t
   obtain⟨K,a,N,h,k,w⟩:=f.cell t;rw[d]at a;cases a
   exact⟨j,_,rfl,.inr ⟨N,k,e _ _ _ _ (cM.refl f.has) f (pM d k)⟩⟩
  .exact e.elim
 .exact e.elim
theorem FJ{b d}(g:∀e s,¬ c.xe e s)(j:lW c i r N1 ω):ju c i r (.Try N1 (b::d) [] [] l) ω:=by
 intro k m n o p pins s t H D I h;refine abq (â (j _ m n o p _ s t H D I h) (λf a q=>?_) λe a q=>absurd q (g e a))
 cases f with
 |next=>exact Ĝ q
 |_=>exact q
theorem xn(G:GoodO c i θ b ε g)(d:∀e m,D5 e=some m->kh c i e m)(h:kJ D5 ε j=some B1):∀Φ,yV c i Φ (.Tuple I s l) j B1:=by
 intro Φ;unfold kJ at h;split at h
 .rename_i r _
  obtain⟨⟨k,a⟩,p,t,rfl⟩:=r;dsimp only at h;split at h
  .rename_i u
   obtain rfl:=eq_of_beq u;split at h
   .rename_i f
    obtain⟨n,e,rfl⟩:=cU h;obtain⟨q,_,w⟩:=d a n e;exact FI (G.gl f) (G.dg _ (by decide)) (by rw[bx w];rfl) (q Φ)
   .cases h
  .exact kI G d h Φ _
 .split at h
  .rename_i r _
   obtain⟨⟨o,y,q,z⟩,rfl⟩:=r;dsimp only at h;split at h
   .rename_i f
    simp at f;obtain⟨⟨rfl,A⟩,x⟩:=f;obtain⟨n,e,rfl⟩:=cU h;exact zc x (by simp_all) ((d o n e).1 Φ)
   .exact kI G d h Φ _
  .exact kI G d h Φ _
theorem zd(G:eS c i θ b ε g)(h:sR ε g d=some s):c.N[s]?=some d/\Loc c.env.scope d:=by
 unfold sR at h;split at h
 .rename_i a
  simp at a;refine⟨by rw[G.names];exact Bb h,?_⟩
  rw[G.scope];have e:=a.1;unfold Ba at e;unfold L2.Loc
  grind
 .cases h
theorem gu{X e Φ f}(g:∀s c,f s=some c->ju X e Φ s c):∀{d}{c},c_ f d=some c->lW X e Φ d c
 |[],c,h=>by cases h;exact wW
 |s::d,c,h=>by
  obtain⟨a,b,i,j,rfl⟩:=bp h;exact jT (g s a i) (gu g j)
theorem iI(G:eS c i θ b ε g)(h:jV θ ε g d=some s):c.N[s]?=some d/\Loc c.env.scope d/\(c.fn d=true\/c.env.scope.names.lookup d=some .local):=by
 unfold jV at h;split at h
 .cases h
 .obtain⟨a,e⟩:=zd G h
  refine⟨a,e,G.Np d ?_ (by grind)⟩
  unfold sR at h
  simp_all
theorem nM{X c T k b N}(G:eS X c T k b N):∀{nms}{a},(∀y∈nms,T.fz.contains y.1=false)->qO b N nms=some a->a.length=nms.length/\∀(j i:Nat) x,a[j]?=some i->nms[j]?=some x->X.N[i]?=some x.1/\Loc X.env.scope x.1/\(X.fn x.1=true\/X.env.scope.names.lookup x.1=some .local)
 |[],a,_,h=>by cases h;simp_all
 |x::n,a,d,h=>by
  refine bD (ģ.mp h) λi o h=>?_
  refine bD (ģ.mp h) λe f h=>?_
  cases h;obtain⟨p,g⟩:=nM G (λy l=>d y (by simp[l])) f
  refine⟨by simp_all,λj m y q r=>?_⟩
  cases j with
  |zero=>
   exact iI G (by unfold jV;simp_all)
  |succ j=>exact g j m y (by simp_all) (by simp_all)
variable{E8:List (Str×T')}
theorem nN(G:eS c i θ b ε g)(e:eh I=some E8)(f:jo θ ε g E8=some L):PG c (.Tuple I s l) (ur c.K L.length (gI L)):=by
 obtain rfl:=lF e
 have a:(∀y∈E8,θ.fz.contains y.1=false)/\qO ε g E8=some L:=by
  unfold jo at f
  grind
 obtain⟨d,h⟩:=nM G a.1 a.2;obtain⟨j,k⟩:=pD _ _;exact zN G.calm (pB (nms:=E8) (by rw[G.names];exact G.qQ) L _ d h) (by rw[j,d]) k
theorem tP(G:eS c i θ b ε g):
  ò (.ListComp j M7 f7 l) (some (.Name d H)) s c.env=pure (sS ε d H (.ListComp j M7 f7 l)):=by
 have a:c.env.blockKind=.function:=by
  show(if c.env.scope.kind.isAnnotationScope=true then afn else c.env.scope.kind)=_
  rw[G.scope,G.kind];rfl
 show pure _=_
 rw[a]
 show pure (true&&c.env.scope.names.lookup d==some _&&H.line==l.line&&!(f7.names.any _))=_
 rw[G.scope];rfl
variable{Ξ:Nat}
theorem xo(G:eS c i θ b ε g)(t:jV θ ε g d=some Ξ)(h:ck θ s ε g j=some p)(a:rl j=false)(u:sS ε d l j=true->H.line=l.line):ju c i r (.Assign [.Name d l] j H) (aE Ξ p):=by
 obtain⟨m,w,x⟩:=iI G t;have n:c.N.Nodup:=by rw[G.names];exact G.qQ
 have E:=fU s c ε g j p G.toGoodO h;have plain:ò j (some (.Name d l)) H.line c.env=pure false->ju c i r _ (aE Ξ p):=λq=>rh n m w x q (E.1 r)
 cases j with
 |ListComp y gens scope f=>
  cases e:sS ε d l _ with
  |false=>exact plain (by rw[tP G,e])
  |true=>
   cases s with
   |zero=>cases h
   |succ s=>
   cases o:lE gens with
   |none=>exact nL o (by cases z:gP gens with|none=>rfl|some q=>rw[rl,z]at a;cases a) h
   |some q=>
    obtain rfl:=pC o;obtain⟨K,M,O,P,k,rfl,A,B,C,D,F,I⟩:=lJ (λc ε g j p G q=>fU s c ε g j p G q) G.toGoodO h
    have J:c.env.scope.names.lookup d=some .local:=by
     rw[G.scope];unfold sS at e
     grind
    exact BJ n m J (by rw[tP G,e]) G.calm A D (lD 1 (by decide)) (nG (L:=k) (F r) B C I) (u e)
 |SetComp=>cases s<;>cases h
 |DictComp=>cases s<;>cases h
 |_=>exact plain rfl
theorem kK(h:ji j=false):ò j C7 b B4=pure false:=by
 cases j<;>first|rfl | (cases h)
theorem rm(G:eS c i θ b ε Δ):∀n s st d,jq θ g s ε Δ n st=some d->ju c i r st d:=by
 intro n s;have E:∀e m,ck θ s ε Δ e=some m->kh c i e m:=λe m q=>fU s c ε Δ e m G.toGoodO q
 induction n with
 |zero=>intro st d h;cases h
 |succ n Y=>
  intro st d h;have B:∀M d,c_ (jq θ g s ε Δ n) M=some d->lW c i r M d:=λM d q=>gu Y q
  have Z:c.N.Nodup:=by rw[G.names];exact G.qQ
  cases st with
  |Return v w=>
   cases v with
   |none=>cases h
   |some e=>
    replace h:some (match ck θ s ε Δ e with
   |some m=>bU m
   |none=>cT)=some d:=h
    cases h;split
    .rename_i m u
     exact wX ((E e m u).1 r)
    .exact pO
  |Assign ts e w=>
   cases ts with
   |nil=>cases h
   |cons t A=>
   cases A with
   |cons t2 A=>cases t<;>cases h
   |nil=>
   cases t with
   |Name x T=>
    replace h:vo θ g s ε Δ x T e w=some d:=h;unfold vo at h;split at h
    .rename_i l U
     split at h
     .cases h
     rename_i C;have C:rl e=false:=by simpa using C
     .split at h
      .rename_i m V
       split at h
       .split at h
        .rename_i D hl
         cases h;exact xo G U V C λ_=>eq_of_beq hl
        .cases h
       .rename_i D
        cases h;exact xo G U V C λq=>absurd q D
      .cases h
    .cases h
   |Tuple O j p=>
    replace h:vp θ s ε Δ O e=some d:=h;unfold vp at h;split at h
    .rename_i nms P
     split at h
     .rename_i L m u z
      split at h
      .rename_i hp
       cases h;exact FA (nN G P u) hp ((E e m z).1 r)
      .cases h
     .cases h
    .cases h
   |Attribute o f p=>
    replace h:(if (ez o&&!ji e)=true then o2 (θ.fld.lookup f) (o2 (ck θ s ε Δ o) (ck θ s ε Δ e) á) λQ y=>eP Q f y.1 y.2 else none)=some d:=h
    split at h
    .rename_i I
     simp only[Ú,ċ]at I;obtain⟨Q,y,u,z,rfl⟩:=bp h;obtain⟨mo,R,F,H,rfl⟩:=bp z;exact FD (G.fld f Q u) (kK I.2) ((E o mo F).1 r) ((E e R H).1 r)
    .cases h
   |Subscript o l p=>
    replace h:(if (isSlice l||ji e)=true then none else o2 (ck θ s ε Δ o) (o2 (ck θ s ε Δ l) (ck θ s ε Δ e) á) λx y=>ey x y.1 y.2)=some d:=h
    split at h
    .cases h
    .rename_i I
     simp only[adA,not_or,Bool.not_eq_true]at I;obtain⟨md,y,u,z,rfl⟩:=bp h;obtain⟨mk,R,F,H,rfl⟩:=bp z;exact BS (by have:=G.hu;omega) ((E o md u).1 r) ((E l mk F).1 r) ((E e R H).1 r) (kK I.2)
   |_=>cases h
  |Expr e w=>
   replace h:(if ji e=true then none else (ck θ s ε Δ e).map cJ)=some d:=h
   split at h
   .cases h
   .rename_i I
    obtain⟨m,u,rfl⟩:=cU h;exact wY (kK (by simpa using I)) ((E e m u).1 r)
  |If S a k w=>
   obtain⟨m,y,u,z,rfl⟩:=bp h;obtain⟨ca,J,F,H,rfl⟩:=bp z;exact BK ((E S m u).2.1 r) (B a ca F) (B k J H)
  |While S k e w=>
   cases e with
   |nil=>
    obtain⟨m,J,u,z,rfl⟩:=bp h;exact pP G.own ((E S m u).2.1 r) (B k J z)
   |cons _ _=>cases h
  |For X K k e w=>
   cases e with
   |nil=>
    cases X with
    |Name x T=>
     replace h:(if isSet K=true then none else o2 (jV θ ε Δ x) (o2 (gs (ck θ s ε Δ) ε K) (c_ (jq θ g s ε Δ n) k) á) λl y=>dI (cY l) y.1 y.2)=some d:=h
     split at h
     .cases h
     .rename_i D
      obtain⟨l,y,u,z,rfl⟩:=bp h;obtain⟨mi,J,F,H,rfl⟩:=bp z;obtain⟨s1,s2,s3⟩:=iI G u;exact mx G.own G.calm (kI G.toGoodO E F r _) (iz Z s1 s2 s3) (BN l) (B k J H) (f_ (by simpa using D))
    |Tuple O j p=>
     replace h:(if isSet K=true then none else match eh O with
   |some nms=>o2 (jo θ ε Δ nms) (o2 (kJ (ck θ s ε Δ) ε K) (c_ (jq θ g s ε Δ n) k) á) λL y=>tL (FH K) (fy L) y.1 y.2
   |none=>none)=some d:=h
     split at h
     .cases h
     .rename_i D
      split at h
      .rename_i nms P
       obtain⟨L,y,u,z,rfl⟩:=bp h;obtain⟨mi,J,F,H,rfl⟩:=bp z;exact tN (mx G.own G.calm (xn G.toGoodO E F r) (nN G P u) (vj L) (B k J H) (f_ (by simpa using D)))
      .cases h
    |_=>cases h
   |cons _ _=>cases X<;>cases h
  |Raise _ _ _=>cases h;exact pO
  |Try k D oe fi w=>
   match D,oe,fi,h with
   |h0::D,[],[],h=>
    replace h:(if θ.xt then none else c_ (jq θ g s ε Δ n) k)=some d:=h
    split at h
    .cases h
    .rename_i hx
     exact FJ (G.k_ (by simpa using hx)) (B k d h)
   |[],_,_,h=>cases h
   |_::_,_::_,_,h=>cases h
   |_::_,[],_::_,h=>cases h
  |_=>cases h
def cQ(b:Str->Option f'):=λC a=>b C=some (.ref a)
structure aX(P:Ä)(w:À)(K:M')(mg:Str->Option f')(base:D')(T:aO)(k:Nat):Prop where
 dg:∀x∈eK,mg x=none
 jm:∀x F,T.jm.lookup x=some F->∃(f:b') (fd:Å) (ps:List Str),mg x=some (.ref f)/\Ó K (.ref f)=true/\Binds K fd ps []/\bQ P w K mg base fk k f fd ps (qL F)
 fn:∀x F,T.fn.lookup x=some F->∃(f:b') (fd:Å) (ps:List Str),mg x=some (.ref f)/\Ó K (.ref f)=true/\Binds K fd ps []/\bQ P w K mg base fk k f fd ps (cZ (cQ mg) F)
 cst:∀x d,T.cst.lookup x=some d->∃v u,mg x=some u/\RelV v u/\iW d=some v
 met:∀m C F,(m,C,F)∈T.met->∃(Ca f:b') (fd:Å) (ps:List Str),HY P w K mg base (cQ mg) k C m F Ca f fd ps
 cls:∀C F,T.cls.lookup C=some F->∃j,j+1<=k/\∃(Ca f:b') (fd:Å) (ps:List Str),cQ mg C Ca/\Mk K Ca f/\mg C=some (.ref Ca)/\Binds K fd ps []/\bQ P w K mg base fk j f fd ps (cZ (cQ mg) F)
 fld:∀f Cs,T.fld.lookup f=some Cs->kH K (cQ mg) Cs f
 clo:(∀j F,T.clo[j]?=some F->tH P w K mg base (cQ mg) k j F)
def tQ(T td st N):=c_ (jq T td 60 (ao st) N 30) (a_ st)
variable{C5:List Int}
theorem FK(hR:Rd e h (.lst (C5.map V.int)))(d:E [.lst (C5.map D.int)] []=.ok (.bl true) a):cZ i E [.ref h] e (λv _=>v=.bl true) E0:=by
 refine⟨[],λb=>b=h,[],[.lst (C5.map D.int)],⟨by simp,.nil,by simp,λb c=>?_⟩,.one ?_,?_⟩
 .subst c
  rcases hR with c|⟨o,c⟩<;>rw[c]<;>simp
 .refine⟨h,_,rfl,rfl,hR,?_⟩
  clear d hR
  induction C5 with
  |nil=>rfl
  |cons n C5 f=>exact cG.mpr (.cons (by rfl) (cG.mp f))
 .rw[d]
  intro v k j l g s r;simpa only [aw]using r
theorem aX.mono{P w K n base T k}(W:aX P w K n base T k){j}(h:k<=j):aX P w K n base T j:=
 ⟨W.dg,λx F q=>dO (W.jm x F q) λf i l a b c d=>⟨f,i,l,a,b,c,d.mono h⟩,λx F q=>dO (W.fn x F q) λf i l a b c d=>⟨f,i,l,a,b,c,d.mono h⟩,W.cst,
  λm C F q=>let ⟨o,f,i,l,a,b,c,p,_,r,F1,d,s,t,e,g⟩:=W.met m C F q;⟨o,f,i,l,a,b,c,p,_,r,F1,d,s,t,e.mono h,g⟩,λC F q=>let ⟨u,y,z⟩:=W.cls C F q;⟨u,B' y h,z⟩,W.fld,λj F q=>(W.clo j F q).mono h⟩
noncomputable def aO.ze(T:aO)(x:Str)(F:List D->Out Rs):={T with jm:=(x,F)::T.jm}
noncomputable def aO.dr(T:aO)(x:Str)(F):={T with fn:=(x,F)::T.fn}
noncomputable def aO.gv(T:aO)(C m:Str)(F):={T with met:=(m,C,F)::T.met}
noncomputable def aO.FL(T:aO)(C:Str)(F):={T with cls:=(C,F)::T.cls}
def aO.zg(T:aO)(f:Str)(Cs:List Str):={T with fld:=(f,Cs)::T.fld}
noncomputable def aO.lY(T:aO)(x:Str)(d):={T with cst:=(x,d)::T.cst}
theorem gw{a:Type}{F G:a}{l}(h:((d,F)::l).lookup U=some G):(U=d/\G=F)\/l.lookup U=some G:=by
 grind
variable{A:À}{B:D'}{y:Ä}{ν:Str->Option f'}
theorem aX.start(a:∀x∈eK,ν x=none):aX y A G ν B {} 0:=
 ⟨a,by simp,by simp,by simp,by simp,by simp,by simp,by simp⟩
theorem aX.ze{P w K a base T k}(W:aX P w K a base T k){x F f b c j}(d:a x=some (.ref f))(e:Ó K (.ref f)=true)(g:Binds K b c [])(h:bQ P w K a base fk j f b c (qL F))(i:j<=k):
  aX P w K a base (T.ze x F) k:=
 ⟨W.dg,λy G q=>by
  rcases gw q with ⟨rfl,rfl⟩|q
  .exact⟨f,b,c,d,e,g,h.mono i⟩
  .exact W.jm y G q,W.fn,W.cst,W.met,W.cls,W.fld,W.clo⟩
theorem aX.dr{P w K b base T k}(W:aX P w K b base T k){x F f c d}(e:b x=some (.ref f))(g:Ó K (.ref f)=true)(i:Binds K c d [])(h:bQ P w K b base fk (k+1) f c d (cZ (cQ b) F)):
  aX P w K b base (T.dr x F) (k+1):=by
 have a:=W.mono (ø k)
 exact⟨a.dg,a.jm,λy G q=>by
  rcases gw q with ⟨rfl,rfl⟩|q
  .exact⟨f,c,d,e,g,i,h⟩
  .exact a.fn y G q,a.cst,a.met,a.cls,a.fld,a.clo⟩
theorem aX.gv{P w K c base T k}(W:aX P w K c base T k){C m F d f e g}(p:c C=some (.ref d))(j:oj K d)(M:Meth K d m f)(l:Binds K e g [])(h:bQ P w K c base fk (k+1) f e g (cZ (cQ c) F)):
  aX P w K c base (T.gv C m F) (k+1):=by
 have b:=W.mono (ø k)
 exact⟨b.dg,b.jm,b.fn,b.cst,λn o G q=>by
  rcases Õ.mp q with q|q
  .cases q
   refine⟨d,f,e,g,λa i=>?_,j,M,[],[],[],F,l,.nil,λ_ _ _=>.nil,h,by simp⟩
   have i:c C=some _:=i
   simp_all
  .exact b.met n o G q,b.cls,b.fld,b.clo⟩
variable{ψ:Å}
theorem aX.Nq(W:aX y A G ν B θ b)(r:ν d=some (.ref h))(j:oj G h)(M:Meth G h U C)(k:Binds G ψ g χ)(l:Vals N χ)(m:∀n Z H,aI (aw n Z H) D4 N)(e:bQ y A G ν B fk (b+1) C ψ g (cZ (cQ ν) E)):
  aX y A G ν B (θ.gv d U λxs=>E (xs++D4)) (b+1):=by
 have c:=W.mono (ø b)
 exact⟨c.dg,c.jm,c.fn,c.cst,λo p f q=>by
  rcases Õ.mp q with q|q
  .cases q
   refine⟨h,C,ψ,g,λa i=>?_,j,M,χ,_,D4,E,k,l,m,e,rfl⟩
   have i:ν d=some _:=i
   simp_all
  .exact c.met o p f q,c.cls,c.fld,c.clo⟩
theorem aX.FL{P w K b base T k}(W:aX P w K b base T k){C F c f d e j}(g:b C=some (.ref c))(M:Mk K c f)(i:Binds K d e [])(h:bQ P w K b base fk j f d e (cZ (cQ b) F))(l:j<=k):
  aX P w K b base (T.FL C F) (k+1):=by
 have a:=W.mono (ø k)
 exact⟨a.dg,a.jm,a.fn,a.cst,a.met,λy G q=>by
  rcases gw q with ⟨rfl,rfl⟩|q
  .exact⟨j,adB l,c,f,d,e,g,M,g,i,h⟩
  .exact a.cls y G q,a.fld,a.clo⟩
theorem aX.zg{P w K a base T k}(W:aX P w K a base T k){f Cs}(h:kH K (cQ a) Cs f):aX P w K a base (T.zg f Cs) k:=
 ⟨W.dg,W.jm,W.fn,W.cst,W.met,W.cls,λy G q=>by
  rcases gw q with ⟨rfl,rfl⟩|q
  .exact h
  .exact W.fld y G q,W.clo⟩
theorem aX.lY{P w K a base T k}(W:aX P w K a base T k){x d v u}(b:a x=some u)(c:RelV v u)(e:iW d=some v):aX P w K a base (T.lY x d) k:=
 ⟨W.dg,W.jm,W.fn,λy G q=>by
  rcases gw q with ⟨rfl,rfl⟩|q
  .simp_all
  .exact W.cst y G q,W.met,W.cls,W.fld,W.clo⟩
theorem plain1(e:ν d=some (.ref h))(f:oj G h)(n:Ù G (.ref h) U=some none):kH G (cQ ν) [d] U:=λg a c b=>by
 have c:=by simpa using c
 subst c;have b:ν g=some _:=b;rw[e]at b;cases b;exact⟨f,n⟩
def Nr(F:aU):Sp:=λa H Q E=>∀b,cZ b F a H Q E
end Mir
namespace Mir
open PySem PySem.Spec PyProof.Rows L2
def Nt:D->Bool
 |.lst a=>a.all gQ
 |d=>gQ d
variable{P1 n:b'->Prop}{e ξ:Hp}{m:D}{u:List b'}{x:V}
theorem xq(a:gQ m=true)(r:Rep n e m x):aw u P1 ξ m x:=by
 cases m with
 |lst _=>cases a
 |tup _=>cases a
 |ref _=>cases a
 |dct _ _=>cases a
 |_=>exact r
theorem zh(a:gQ m=true)(r:aw u P1 ξ m x):Rep n e m x:=by
 cases m with
 |lst _=>cases a
 |tup _=>cases a
 |ref _=>cases a
 |dct _ _=>cases a
 |_=>exact r
theorem tR{c Z f H g}:∀{a}{b},a.all gQ=true->bq Z H a b->gc c f g a b
 |[],b,_,r=>r
 |d::a,b,h,r=>by
  simp only[į,Ú]at h;refine aJ r λv i e j k=>⟨v,i,e,xq h.1 j,tR h.2 k⟩
theorem Cj{g Z H}:∀{c}{b},c.all Nt=true->bq Z H c b->aI (aw g Z H) c b
 |[],b,_,r=>by subst r;exact .nil
 |d::c,b,h,r=>by
  simp only[į,Ú]at h;obtain⟨v,l,rfl,f,i⟩:=r
  exact .cons (by
    cases d with
    |lst c=>
     refine a8 f λa b e z j k=>⟨a,b,e,z,j,tR h.1 k⟩
    |tup _=>cases h.1
    |ref _=>cases h.1
    |dct _ _=>cases h.1
    |_=>exact xq rfl f) (Cj h.2 i)
variable [h_]
def pureOf(O:aU):List D->Out Rs:=λa=>if a.all Nt=true then (match O a []with
  |.ok d _=>if gQ d=true then .ok (false,d)else .bad
  |_=>.bad)else .bad
variable{A:À}{B:D'}{E:aU}{G:M'}{b:Nat}{g:List Str}{h:b'}{y:Ä}{ν:Str->Option f'}{ψ:Å}
theorem xr(c:bQ y A G ν B fk b h ψ g (cZ (cQ ν) E)):bQ y A G ν B fk b h ψ g (qL (pureOf E)):=c.imp λK H Q j q=>by
 refine bF q λZ k t d l r m=>xa m λe f=>?_
 unfold pureOf at e
 by_cases n:k.all Nt=true
 .rw[if_pos n]at e
  refine⟨[],Z,[],k,⟨by simp,.nil,by simp,l⟩,Cj n r,?_⟩
  cases u:E k []with
  |exc x w=>simp_all
  |bad=>simp_all
  |ok z w=>
   rw[u]at e;dsimp only at e
   by_cases p:gQ z=true
   .rw[if_pos p]at e
    cases e;intro v C D L s M F;refine f v C Z ⟨λi o I=>s.frm i o I (by simp),λ_ c=>c,by grind,λa N=>?_⟩ (.rep (zh p F))
    cases J:H a with
    |none=>simp_all
    |some o=>rw[s.frm a o J (by simp)];simp
   simp_all
 simp_all
end Mir
namespace Mir
open PySem L2
variable{a:aG}
@[simp] theorem au{c d b}{f:c->aG->ay d}:(ay.ok b a).bind f=f b a:=rfl
variable{P2:Type}{m:D}
@[simp] theorem TR{b}{f:P2->aG->ay b}:(ay.exc m a).bind f=.exc m a:=rfl
@[simp] theorem TU{a}{f:P2->aG->ay a}:ay.bad.bind f=.bad:=rfl
@[simp] theorem cx{c}{b:c}{k}:cb (.ok b a) k=k b a:=rfl
@[simp] theorem TV{k}:cb (.exc m a:ay P2) k=.exc m a:=rfl
@[simp] theorem TX{k}:cb (.bad:ay P2) k=.bad:=rfl
variable{v4:ay D}
@[simp] theorem XJ:jj (.ok m a) v4=.ok m a:=rfl
@[simp] theorem TY:jj (.exc m a) v4=.exc m a:=rfl
@[simp] theorem TZ:jj .bad v4=v4:=rfl
variable{Q7:D->aG->ay D}{p:EM}{t:bo}
@[simp] theorem Nu:m1 Q7 p t a=(p t a).bind Q7:=rfl
variable{P6:D->D->aG->ay D}{X:EM}
@[simp] theorem dj:m2 P6 p X t a=(p t a).bind λx b=>(X t b).bind λy c=>P6 x y c:=rfl
variable{F6:List D->aG->ay D}{u0:AM}
@[simp] theorem dJ:mN F6 u0 t a=(u0 t a).bind F6:=rfl
@[simp] theorem bh:ag t a=.ok [] a:=rfl
@[simp] theorem a5:ae p u0 t a=(p t a).bind λx b=>(u0 t b).bind λxs c=>.ok (x::xs) c:=rfl
noncomputable def vr:Option (Option D)->aG->ay D
 |some (some d),a=>.ok d a
 |_,_=>.bad
@[simp] theorem FN:vr (some (some m)) a=.ok m a:=rfl
variable{b:Nat}
@[simp] theorem xu:aa b t a=vr t[b]? a:=by
 unfold aa;cases t[b]? with
 |none=>rfl
 |some o=>cases o<;>rfl
@[simp] theorem xv:ah m t a=.ok m a:=rfl
variable{N4:Cell}
@[simp] theorem rn:iQ a N4=.ok (.ref a.length) (a++[N4]):=rfl
noncomputable def tb(a:aG):Option Bool->ay Bool
 |some b=>.ok b a
 |none=>.bad
variable{v:Bool}
@[simp] theorem fN:tb a (some v)=.ok v a:=rfl
@[simp] theorem eG:dk (.ok m a)=tb a (ib a m):=by rfl
@[simp] theorem cX:ib a (.bl v)=some v:=rfl
@[simp] theorem Nv:ib a .non=some false:=rfl
variable{Q:Int}
@[simp] theorem Nw:ib a (.int Q)=some (Q != 0):=rfl
noncomputable def LI(t:Option Bool)(a b:ay D):=match t with
 |some true=>a
 |some false=>b
 |none=>.bad
variable{V8:ay D}
@[simp] theorem pR:Mir.LI (some true) v4 V8=v4:=rfl
@[simp] theorem xy:Mir.LI (some false) v4 V8=V8:=rfl
@[simp] theorem jW:ij p X t a=(p t a).bind λx b=>Mir.LI (ib b x) (X t b) (.ok x b):=by
 rfl
@[simp] theorem ro:oG p X t a=(p t a).bind λx b=>Mir.LI (ib b x) (.ok x b) (X t b):=by
 unfold oG;cases p t a with
 |ok x b=>
  simp;cases ib _ x with
  |none=>rfl
  |some c=>cases c<;>rfl
 |exc x b=>rfl
 |bad=>rfl
@[simp] theorem FO:eN p t a=(dk (p t a)).bind λb c=>.ok (.bl (!b)) c:=rfl
variable{L4:EM}
@[simp] theorem vq:HR L4 p X t a=(dk (L4 t a)).bind λb c=>if b=true then p t c else X t c:=rfl
@[simp] theorem FP{g}:EV Q7 g m a=jj (Q7 m a) (g m a):=rfl
variable{Y:D}
@[simp] theorem rr{g}:e_ P6 g m Y a=jj (P6 m Y a) (g m Y a):=rfl
variable{q:List D}
@[simp] theorem Qe{g}:oH F6 g q a=jj (F6 q a) (g q a):=rfl
@[simp] theorem Qf:iR p X t a=jj (p t a) (X t a):=rfl
@[simp] theorem Qg:gJ a b .non=some .non:=by cases b<;>rfl
@[simp] theorem JD:gJ a b (.bl v)=some (.bl v):=by cases b<;>rfl
@[simp] theorem FQ:gJ a b (.int Q)=some (.int Q):=by cases b<;>rfl
variable{d:Str}
@[simp] theorem rz:gJ a b (.str d)=some (.str d):=by cases b<;>rfl
@[simp] theorem T8{a b}{f:a->Option b}:cm f []=some []:=rfl
noncomputable def oc{a:Type}:Option a->Option (List a)->Option (List a)
 |some y,some b=>some (y::b)
 |_,_=>none
@[simp] theorem Qh{a}{y:a}{b}:oc (some y) (some b)=some (y::b):=rfl
@[simp] theorem rC{a b}{f:a->Option b}{x xs}:cm f (x::xs)=oc (f x) (cm f xs):=by
 rfl
theorem kL{a b:Type}{c f}{g:a->b}{h:a->c}(e:∀x,f (g x)=some (h x)):∀xs:List a,cm f (xs.map g)=some (xs.map h)
 |[]=>rfl
 |x::xs=>by rw[ú,rC,e,kL e xs];rfl
variable{g:List Str}
@[simp] theorem FR:cm (gJ a b) (g.map .str)=some (g.map .str):=kL (λ_=>rz) g
variable{C5:List Int}
@[simp] theorem FT:cm (gJ a b) (C5.map .int)=some (C5.map .int):=kL (λ_=>FQ) C5
variable{D4:List D}
theorem FU(h:cm (gJ a b) q=some D4):gJ a (b+1) (.lst q)=some (.lst D4):=by simp only[gJ,h,ň]
variable{s:Nat}
theorem mE(c:a[s]?=some (.lst q))(h:cm (gJ a b) q=some D4):gJ a (b+1) (.ref s)=some (.lst D4):=by simp only[gJ,c,h,ň]
theorem dN(c:a[s]?=some (.lst (g.map .str))):gJ a (b+1) (.ref s)=some (L1 g):=mE c FR
@[simp] theorem T9:gJ a (b+1) (SC C5)=some (SC C5):=FU FT
@[simp] theorem Qi:gW a (.ok (v,.int Q))=.ok (.int Q) a:=rfl
variable{C2:Bool}
@[simp] theorem T_:gW a (.ok (v,.bl C2))=.ok (.bl C2) a:=rfl
@[simp] theorem FV:gW a (.ok (v,.str d))=.ok (.str d) a:=rfl
@[simp] theorem Qj:gW a (.ok (v,.non))=.ok .non a:=rfl
@[simp] theorem Qk:gW a .bad=.bad:=rfl
def vN(a:aG)(f:List D->Out Rs):Option (List D)->ay D
 |some b=>gW a (f b)
 |none=>.bad
variable{W1:List D->Out Rs}
@[simp] theorem FW:vN a W1 (some q)=gW a (W1 q):=rfl
@[simp] theorem FX:cE W1 q a=vN a W1 (cm (gJ a 8) q):=by rfl
def v1(a:aG)(f:D->Out Rs):Option D->ay D
 |some d=>gW a (f d)
 |none=>.bad
variable{v9:D->Out Rs}
@[simp] theorem Ql:v1 a v9 (some m)=gW a (v9 m):=rfl
@[simp] theorem Qm:kC v9 m a=v1 a v9 (gJ a 8 m):=by rfl
def v2(a:aG)(f:D->D->Out Rs):Option D->Option D->ay D
 |some d,some e=>gW a (f d e)
 |_,_=>.bad
variable{x9:D->D->Out Rs}
@[simp] theorem xB:v2 a x9 (some m) (some Y)=gW a (x9 m Y):=rfl
@[simp] theorem xC:iS x9 m Y a=v2 a x9 (gJ a 8 m) (gJ a 8 Y):=by rfl
@[simp] theorem Nx:BA .len [.str d]=if small d.length=true then .ok (false,.int d.length)else .bad:=rfl
@[simp] theorem Ck:BA .all [.lst q]=Bl (λbs=>bs.all id) (fY q):=rfl
@[simp] theorem Ny:BA .any [.lst q]=Bl (λbs=>bs.any id) (fY q):=rfl
variable{E:aU}
@[simp] theorem tS:aQ E q a=pQ (E q a):=rfl
@[simp] theorem JE:pQ (.ok m a)=.ok m a:=rfl
variable{B3:Ā}
@[simp] theorem jX:cV B3 m Y a=v2 a (λm Y=>do let r ←eW B3 m Y;Out.ok (false,D.bl r)) (gJ a 8 m) (gJ a 8 Y):=by rfl
@[simp] theorem xD:aF .Eq m Y a=jj (cV .Eq m Y a) (ie false m Y a):=rfl
@[simp] theorem xE:aF .NotEq m Y a=jj (cV .NotEq m Y a) (ie true m Y a):=rfl
@[simp] theorem Qn:aF .Lt m Y a=cV .Lt m Y a:=rfl
@[simp] theorem Qo:aF .LtE m Y a=cV .LtE m Y a:=rfl
@[simp] theorem Qp:aF .Gt m Y a=cV .Gt m Y a:=rfl
@[simp] theorem Qq:aF .GtE m Y a=cV .GtE m Y a:=rfl
@[simp] theorem rD:aF .In m Y a=jj (cV .In m Y a) (gX false m Y a):=rfl
@[simp] theorem nO:aF .NotIn m Y a=jj (cV .NotIn m Y a) (gX true m Y a):=rfl
@[simp] theorem Qr:aF .Is m Y a=jj (fS false m Y a) (cV .Is m Y a):=rfl
@[simp] theorem JF:aF .IsNot m Y a=jj (fS true m Y a) (cV .IsNot m Y a):=rfl
@[simp] theorem Nz:fS v (.ref b) .non a=.ok (.bl v) a:=rfl
@[simp] theorem LS:fS v (.int Q) m a=.bad:=rfl
@[simp] theorem LU:fS v .non m a=.bad:=rfl
@[simp] theorem NA:fS v (.bl C2) m a=.bad:=rfl
@[simp] theorem LV:fS v (.str d) m a=.bad:=rfl
@[simp] theorem Cm:a7 .Add m Y a=jj (va m Y a) (iS (gU .Add) m Y a):=rfl
@[simp] theorem NB:a7 .Sub m Y a=iS (gU .Sub) m Y a:=rfl
@[simp] theorem LW:a7 .Mult m Y a=iS (gU .Mult) m Y a:=rfl
@[simp] theorem NC:a7 .Mod m Y a=iS (gU .Mod) m Y a:=rfl
@[simp] theorem Qs:a7 .FloorDiv m Y a=iS (gU .FloorDiv) m Y a:=rfl
@[simp] theorem Qt:dm a (.int Q)=none:=rfl
@[simp] theorem Qu:dm a (.str d)=none:=rfl
@[simp] theorem Qv:dm a (.tup q)=none:=rfl
@[simp] theorem Qw:dm a (.lst q)=some q:=rfl
theorem av(h:a[b]?=some (.lst q)):dm a (.ref b)=some q:=by simp only[dm,h]
theorem iJ(h:a[b]?=some (.lst q)):oJ a (.ref b)=some (b,q):=by simp only[oJ,h]
variable{u6:List (Str×D)}
theorem rE(h:a[b]?=some (.ins d u6)):jU a (.ref b)=some (b,d,u6):=by simp only[jU,h]
def ct(a:aG):Option (List D)->Option (List D)->ay D
 |some b,some c=>if small (b.length+c.length)then .ok (.ref a.length) (a++[.lst (b++c)])else .bad
 |_,_=>.bad
@[simp] theorem FY:ct a (some q) (some D4)=if small (q.length+D4.length)then .ok (.ref a.length) (a++[.lst (q++D4)])else .bad:=rfl
@[simp] theorem XM{o}:ct a none o=.bad:=rfl
@[simp] theorem FZ:va m Y a=ct a (dm a m) (dm a Y):=by rfl
@[simp] theorem Qx:ig a (.tup q)=some q:=rfl
@[simp] theorem ax:ig a (.ref b)=dm a (.ref b):=rfl
@[simp] theorem Qy:ig a (.lst q)=some q:=rfl
def ixs(a:aG):Option (List D)->D->ay D
 |some b,.int i=>match L2.lp b i with
  |some d=>.ok d a
  |none=>.bad
 |_,_=>.bad
theorem xF:Jr m Y a=ixs a (ig a m) Y:=by rfl
theorem Cn(h:L2.lp q Q=some m):ixs a (some q) (.int Q)=.ok m a:=by simp only[ixs,h]
theorem bY(h:a[b]?=some (.lst q))(c:L2.lp q Q=some m):aK (.ref b) (.int Q) a=.ok m a:=by
 unfold aK;rw[rr,xF,ax,av h,Cn c];rfl
@[simp] theorem fO:aV q a=if small q.length then .ok (.ref a.length) (a++[.lst q])else .bad:=rfl
@[simp] theorem rG:kD q a=if small q.length then .ok (.tup q) a else .bad:=rfl
def fl(a:aG)(Cs:List Str)(f:Str):Option (Nat×Str×List (Str×D))->ay D
 |some (_,C,b)=>if Cs.contains C then (match b.lookup f with
  |some d=>.ok d a
  |none=>.bad)else .bad
 |none=>.bad
variable{U:Str}
theorem xG(h:a[b]?=some (.ins U u6))(c:g.contains U=true)(e:u6.lookup d=some m):fT g d (.ref b) a=.ok m a:=by
 unfold fT;rw[rE h];simp_all
noncomputable def sq(r:iu)(b:SM):=match r with
 |.nx a c=>b a c
 |r=>r
variable{ω:SM}
@[simp] theorem aH:sq (.nx t a) ω=ω t a:=rfl
@[simp] theorem XN:sq (.rt m a) ω=.rt m a:=rfl
@[simp] theorem XO:sq (.bk t a) ω=.bk t a:=rfl
@[simp] theorem XP:sq (.ct t a) ω=.ct t a:=rfl
@[simp] theorem Ua:sq (.exc m a) ω=.exc m a:=rfl
@[simp] theorem Ub:sq .bad ω=.bad:=rfl
variable{B6:SM}
@[simp] theorem ai:ak ω B6 t a=sq (ω t a) B6:=by rfl
@[simp] theorem ND:aq t a=.nx t a:=rfl
@[simp] theorem bj:aE b p t a=cb (p t a) λd c=>.nx (t.set b (some d)) c:=rfl
@[simp] theorem bW:cJ p t a=cb (p t a) λ_ b=>.nx t b:=rfl
@[simp] theorem ff:bU p t a=cb (p t a) λd b=>.rt d b:=rfl
@[simp] theorem dW:dY p ω B6 t a=cb (dk (p t a)) λb c=>if b=true then ω t c else B6 t c:=rfl
variable{L:List Nat}
@[simp] theorem Qz:BI L p t a=cb (p t a) λd b=>match fy L d t with|some c=>.nx c b|none=>.bad:=rfl
@[simp] theorem LX:fy L (.tup q) t=if q.length=L.length then some (gN L q t)else none:=rfl
@[simp] theorem F9:gN (b::L) (m::q) t=gN L q (t.set b (some m)):=rfl
@[simp] theorem H_:gN [] q t=t:=by cases q<;>rfl
@[simp] theorem QA:fb (.rt m a)=.ok m a:=rfl
@[simp] theorem QB:fb (.nx t a)=.ok .non a:=rfl
theorem ba(h:q.length=s):bN b s ω q a=fb (ω (aZ b q) a):=by unfold bN;rw[if_pos h]
@[simp] theorem cf:bg p t a=(p t a).bind λx b=>srcOf b x:=rfl
theorem aM(h:ig a m=some q):srcOf a m=.ok (.seq m) a:=by unfold srcOf;rw[h]
@[simp] theorem jY:di u0 t a=(u0 t a).bind wV:=rfl
@[simp] theorem mF:wV [.int Q] a=if oz Q then .ok (.ints 0 Q.toNat) a else .bad:=rfl
@[simp] theorem bw:ek (.seq m) a=ig a m:=rfl
@[simp] theorem NF:ek (.ints Q b) a=some (intsFrom Q b):=rfl
variable{B1:IM}{F8:D->bo->Option bo}
@[simp] theorem cq:dI F8 B1 ω t a=cb (B1 t a) λs b=>iv F8 s ω fuel 0 t b:=rfl
def Co(r:iu)(I:bo->aG->Prop)(R:iu->Prop):=match r with
 |.nx a b=>I a b
 |.ct a b=>I a b
 |.bk a b=>R (.nx a b)
 |r=>R r
variable{N3:Src}
theorem bE(I:Nat->bo->aG->Prop){R}(k:∀i c b,I i c b->ek N3 b=some q)(h:∀i d c b,q[i]?=some d->I i c b->∃JG,F8 d c=some JG/\Co (ω JG b) (I (i+1)) R)(hR:∀c b,I q.length c b->R (.nx c b)):
  ∀f i c b,q.length - i<f->i<=q.length->I i c b->R (iv F8 N3 ω f i c b):=by
 intro f
 induction f with
 |zero=>simp
 |succ f m=>
  intro i c b r s n;simp only[iv,k i c b n]
  by_cases j:i<q.length
  .have o:=ä j
   rw[o];dsimp only;obtain⟨JG,p,g⟩:=h i _ c b o n;rw[p];dsimp only;cases a:ω _ b with
   |nx l e=>rw[a]at g;exact m _ _ _ (by omega) j g
   |ct l e=>rw[a]at g;exact m _ _ _ (by omega) j g
   |bk l e=>rwa[a]at g
   |rt d e=>rwa[a]at g
   |exc x e=>rwa[a]at g
   |bad=>rwa[a]at g
  grind
variable{G8:D->Bool}{Q6:D->D}
theorem F_(e:ek N3 a=some q)(h:∀d∈q,gY v p ([some d]++t) a=.ok (G8 d) a)(j:∀d∈q,G8 d=true->X ([some d]++t) a=.ok (Q6 d) a):
  ∀f i b,q.length - i<f->i<=q.length->b.length+q.length<=100000+i->rg v p X 0 t N3 f i b a=.ok (b++((q.drop i).filter G8).map Q6) a:=by
 intro f
 induction f with
 |zero=>omega
 |succ f k=>
  intro i b l m n;simp only[rg,e]
  by_cases c:i<q.length
  .rw[(ä c)]
   have g:lV 0 q[i]=some _:=rfl;simp only[g];rw[if_pos (aW (by omega)),š c]
   grind
  grind
variable{T:aG}
theorem du(c:B1 t a=.ok N3 T)(e:ek N3 T=some q)(f:∀d∈q,gY v X ([some d]++ed L t) T=.ok (G8 d) T)(g:∀d∈q,G8 d=true->p ([some d]++ed L t) T=.ok (Q6 d) T)(b:q.length<=90000):
  bB p v X B1 0 L t a=.ok (.ref T.length) (T++[.lst ((q.filter G8).map Q6)]):=by
 unfold bB;rw[c];dsimp only;rw[F_ e f g _ 0 [] (by unfold fuel;exact oi (B' (õ _ _) b)) (Ë _) (by simp;exact cO b)]
 rfl
theorem cu(h:a[b]?=some N4):(a++T)[b]?=some N4:=by rwa[ã (Ç.mp h).1]
theorem aj:(a++N4::T)[a.length]?=some N4:=by simp
theorem cB{e}(h:a[s]?=some N4)(c:s≠b):(a.set b e)[s]?=some N4:=by rwa[ķ (Ê c)]
theorem aT{e}(h:a[b]?=some N4):(a.set b e)[b]?=some e:=ū (Ç.mp h).1
def bb(h:a[b]?=some N4):=mK h
structure af(fp:List Nat)(Ω aA:aG):Prop where
 len:Ω.length<=aA.length
 get:∀k c,Ω[k]?=some c->k∉fp->aA[k]?=some c
theorem af.refl:af L a a:=⟨W' _,by grind⟩
variable{z5:aG}
theorem af.trans(h:af L a T)(b:af L T z5):af L a z5:=⟨B' h.len b.len,λk c q n=>b.get k c (h.get k c q n) n⟩
theorem af.app:af L a (a++T):=⟨by simp,λk c h _=>cu h⟩
theorem af.set{a fp j c}(h:j∈fp):af fp a (a.set j c):=⟨by simp,λk e q n=>cB q (by grind)⟩
variable{B8:List Nat}
theorem af.sub(h:af L a T)(b:∀k∈L,k∈B8):af B8 a T:=⟨h.len,λk c q n=>h.get k c q (by grind)⟩
theorem eo(h:a[b]?=some (.lst q)):aN .len [.ref b] a=.ok (.int q.length) a:=by
 show jj _ _=_
 simp only[yP,ax,av h];rfl
theorem dX(h:a[b]?=some (.lst q))(c:q.length<=1000):bT (.ref b) [m] a=.ok .non (a.set b (.lst (q++[m]))):=by
 simp only[bT,iJ h];rw[if_pos (aW (by omega))]
theorem dz(h:a[b]?=some (.lst q)):kF a (.ref b)=true:=by simp only[kF,av h];rfl
theorem Cp(h:a[b]?=some (.lst q))(c:q.length<=1000):aN .list [.ref b] a=.ok (.ref a.length) (a++[.lst q]):=by
 show jj (gh [.ref b] a) (pK [.ref b] a)=_
 simp only[gh,ax,av h];rfl
theorem iw(h:a[b]?=some (.lst (g.map .str))):aF .In (.str d) (.ref b) a=.ok (.bl (decide (d∈g))) a:=by
 simp[dN h]
theorem iK(h:a[b]?=some (.lst (g.map .str))):aF .NotIn (.str d) (.ref b) a=.ok (.bl (!decide (d∈g))) a:=by
 simp[dN h]
theorem NG{c d:Type}[BEq c][LawfulBEq c]{f:c->d}{p a}(g:∀b,p (f b)=(b==a)):∀(xs:List c),a∈xs->(xs.map f).findIdx? p=some (xs.idxOf a)
 |[],h=>by simp at h
 |b::xs,h=>by
  rw[ú,List.findIdx?_cons,g,List.idxOf_cons];cases e:b==a with
  |true=>rfl
  |false=>
   simp[NG g xs (by
    grind)]
theorem vt(h:d∈g):uP .index (.lst (g.map .str)) (.tup [.str d])=.ok (false,.int (g.idxOf d)):=by
 have e:(g.map D.str).findIdx? (λy=>eJ y (.str d))=some _:=NG (λb=>rfl) g h
 unfold uP
 simp_all
theorem zi(h:a[b]?=some (.lst (g.map .str)))(c:d∈g):ir (.ref b) [.str d] a=.ok (.int (g.idxOf d)) a:=by
 have:=vt c;simp only[ir,xC,dN h,rz,xB,L1,this];rfl
variable{Z:List (List Str)}
theorem nP(d:a[b]?=some (.lst (L.map .ref)))(h:aI (λj c=>a[j]?=some (.lst (c.map .str))) L Z):gJ a (s+2) (.ref b)=some (LL Z):=by
 refine mE d ?_;clear d
 induction h with
 |nil=>rfl
 |cons e g f=>rw[ú,rC,dN e,f];rfl
theorem NH(I:aG->Prop)(g:∀a,I a->ek N3 a=some q)(h:∀d∈q,∀a,I a->∃aA,X ([some d]++t) a=.ok (Q6 d) aA/\I aA):
  ∀f i b a,I a->q.length - i<f->i<=q.length->b.length+q.length<=100000+i->∃aA,rg true p X 0 t N3 f i b a=.ok (b++(q.drop i).map Q6) aA/\I aA:=by
 intro f
 induction f with
 |zero=>simp
 |succ f j=>
  intro i b a e o r s;simp only[rg,g a e]
  by_cases c:i<q.length
  .rw[(ä c)]
   have k:lV 0 q[i]=some _:=rfl;refine bD (h _ (aat c) a e) λl u m=>?_
   have w:gY true p ([some q[i]]++t) a=.ok _ a:=rfl;simp only[k];rw[if_pos (aW (by omega)),š c]
   refine bD (j _ (b++[Q6 q[i]]) _ m (by omega) c (by grind)) λn x y=>?_
   grind
  simp_all
theorem JH(I:aG->Prop)(i:B1 t a=.ok N3 T)(e:I T)(f:∀a,I a->ek N3 a=some q)(g:∀d∈q,∀a,I a->∃T,p ([some d]++ed L t) a=.ok (Q6 d) T/\I T)(c:q.length<=90000):
  ∃b,bB p true X B1 0 L t a=.ok (.ref b.length) (b++[.lst (q.map Q6)])/\I b:=by
 obtain⟨b,j,h⟩:=NH (p:=X) I f g fuel 0 [] _ e (by unfold fuel;exact oi (B' (õ _ _) c)) (Ë _) (by simp;exact cO c)
 refine⟨_,?_,h⟩;unfold bB
 simp_all
theorem xH(e:p t a=.ok (.ref b) T)(f:T[b]?=some (.ins d u6))(g:u6.lookup U=none):bA d U E p u0 t a=(u0 t T).bind λxs c=>pQ (E (.ref b::xs) c):=by
 unfold bA;rw[e]
 show(match jU _ _ with|some (_,h,u6)=>_|none=>_)=_
 rw[rE f];simp only[g,and_self,if_true];rfl
variable{Q8:aG->D->Bool}{w9:D->List D->aG->ay D}
theorem eA(c:p t a=.ok m T)(h:Q8 T m=true):d_ Q8 w9 p u0 t a=(u0 t T).bind λxs b=>w9 m xs b:=by
 unfold d_
 simp_all
variable [h_]
theorem af.new(h:af [] a T)(b:af L T z5)(d:∀j∈L,a.length<=j):af [] a z5:=⟨B' h.len b.len,λk c e _=>b.get k c (h.get k c e (by simp)) (by grind)⟩
theorem er.up(h:af [] a T):af L a T:=h.sub (by simp)
@[simp] theorem NI:aK (.str d) m a=v2 a uO (some (.str d)) (gJ a 8 m):=by
 rfl
variable{u8 x8:Option Int}
@[simp] theorem NJ:lU (.str d) u8 x8 a=gW a (AF (.str d) u8 x8):=rfl
@[simp] theorem nQ:cp p v X C2 L4 t a=(p t a).bind λx b=>(eV v X t b).bind λl c=>(eV C2 L4 t c).bind λh d=>lU x l h d:=rfl
@[simp] theorem xI:eV true p t a=.ok none a:=rfl
noncomputable def XQ(a:aG):D->ay (Option Int)
 |.int i=>.ok (some i) a
 |_=>.bad
@[simp] theorem QC:eV false p t a=(p t a).bind λd b=>XQ b d:=by
 rfl
@[simp] theorem QD:XQ a (.int Q)=.ok (some Q) a:=rfl
theorem lK(h:a[b]?=some (.lst q)):eO (.ref b) [] a=.ok .non (a.set b (.lst q.reverse)):=by
 simp only[eO,iJ h]
def nC:=bB (m2 aK (aa 2) (m2 (a7 .Mod) (m2 (a7 .Add) (aa 1) (m2 (a7 .Mult) (aa 0) (aa 3))) (ah (.int 26)))) true (ah .non) (di (ae (ah (.int 8)) ag)) 0 [4,3,5]
def nD:=bB (cp (aa 1) true (ah .non) false (m2 (a7 .Add) (aa 0) (ah (.int 1)))) true (ah .non) (di (ae (aa 2) ag)) 0 [6]
def XR(x:Str):=x.length<=17/\∃c∈x.cps.toList,97<=c
theorem XR.ne(h:XR d):d≠"-":=λe=>by
 obtain⟨_,c,a,b⟩:=h;subst e;have:c∈[45]:=a;simp at this;omega
section
variable{κ β:Type}[DecidableEq κ]
theorem dA{p:κ×β}{kvs k}:bX (p::kvs) k=if p.1=k then some p.2 else bX kvs k:=by
 unfold bX
 grind
theorem tT{k a:κ}{v:β}:∀{kvs},bX (kvs.map λb=>if b.1=k then (b.1,v)else b) a=if a=k then (bX kvs k).map λ_=>v else bX kvs a
 |[]=>by simp[bX]
 |p::kvs=>by
  rw[ú,dA,dA,dA,tT]
  grind
theorem tU{k a:κ}{v:β}:∀{kvs},bX (kvs++[(k,v)]) a=match bX kvs a with|some d=>some d|none=>if a=k then some v else none
 |[]=>by
  rw[aah,dA]
  by_cases h:k=a
  .subst h;simp[bX]
  grind
 |p::kvs=>by
  rw[List.cons_append,dA,dA,tU]
  grind
theorem jZ{k}:∀{kvs:List (κ×β)},(kvs.any λa=>decide (a.1=k))=(bX kvs k).isSome
 |[]=>rfl
 |p::kvs=>by
  rw[ş,dA,jZ]
  by_cases h:p.1=k<;>simp[h]
theorem zj{kvs}{k a:κ}{v:β}:bX (d4 kvs k v) a=if a=k then some v else bX kvs a:=by
 unfold d4;rw[jZ];cases h:bX _ k with
 |none=>
  rw[if_neg (by simp),tU]
  grind
 |some d=>
  rw[Option.isSome_some,if_pos rfl,tT]
  simp_all
theorem Cq{kvs}{k:κ}{v:β}:(d4 kvs k v).length<=kvs.length+1:=by
 unfold d4;split<;>simp
end
theorem fA(h:(g.map D.str)[b]?=some m):∃x,g[b]?=some x/\m=.str x:=by
 rw[î]at h
 grind
theorem pS(b:q.all Nt=true)(h:E q []=.ok m a)(c:gQ m=true):pureOf E q=.ok (false,m):=by
 unfold pureOf
 simp_all
def NK:=(ak (aE 3 (m2 (a7 .FloorDiv) (aa 3) (ah (.int 840)))) aq)
def NM:=(dY (ij (m2 (aF .Eq) (m2 (a7 .Mod) (aa 0) (ah (.int 2))) (ah (.int 1))) (m2 (aF .Gt) (aa 0) (m2 (a7 .Pow) (ah (.int 10)) (ah (.int 18)))))
 (ak (dI (cY 4) (di (ae (aa 1) ag)) NK)
 (ak (bU (m2 (a7 .Mod) (m2 (a7 .Mod) (aa 3) (ah (.int 840))) (aa 2)))
 aq))
 aq)
def XS:=(ak (aE 5 (mN aV (ae (ah (.int 48271)) (ae (ah (.int 69621)) (ae (ah (.int 40692)) (ae (ah (.int 39373)) (ae (ah (.int 16807)) (ae (ah (.int 30323)) (ae (ah (.int 21403)) (ae (ah (.int 62089)) (ae (ah (.int 45742)) (ae (ah (.int 37907)) (ae (ah (.int 53611)) (ae (ah (.int 28411)) (ae (ah (.int 59393)) (ae (ah (.int 33391)) ag))))))))))))))))
 (ak (aE 6 (m2 (a7 .Mod) (m2 (a7 .Mult) (m2 (a7 .Add) (m2 (a7 .Mod) (aa 0) (ah (.int 1000000007))) (ah (.int 11))) (m2 aK (aa 5) (m2 (a7 .Mod) (aa 1) (ah (.int 14))))) (ah (.int 2147483629))))
 (ak (aE 7 (m2 (a7 .Mod) (m2 (a7 .Mult) (aa 6) (m2 (a7 .Add) (aa 6) (aa 1))) (ah (.int 1999999973))))
 (ak (bU (m2 (a7 .Mod) (m2 (a7 .FloorDiv) (m2 (a7 .Mod) (m2 (a7 .Mult) (aa 7) (ah (.int 16807))) (ah (.int 998244353))) (ah (.int 1000))) (aa 2)))
 aq))))
def pT:=
 (ak (aE 3 (m2 (a7 .FloorDiv) (aa 0) (ah (.int 2))))
 (ak NM XS))
@[simp] theorem NN:a7 .Pow m Y a=iS (gU .Pow) m Y a:=rfl
variable{y1:Int}
theorem Ga{m}(C:0<=y1)(s:y1<100000)(b:0<m):∃r,0<=r/\r<m/\pureOf (bN 8 3 pT) [.int Q,.int y1,.int m]=.ok (false,.int r):=by
 have g:∃r c,0<=r/\r<m/\bN 8 3 pT [.int Q,.int y1,.int m] []=.ok (.int r) c:=by
  rw[ba (by rfl)]
  have t:aZ 8 [D.int Q,.int y1,.int m]=[some (.int Q),some (.int y1),some (.int m),none,none,none,none,none]:=rfl;rw[t];unfold pT;have u:(aE 3 (m2 (a7 .FloorDiv) (aa 0) (ah (.int 2)))) [some (.int Q),some (.int y1),some (.int m),none,none,none,none,none] []=.nx [some (.int Q),some (.int y1),some (.int m),some (.int (Q / 2)),none,none,none,none] []:=by simp
  rw[ai,u,aH,ai]
  by_cases j:Q%2=1/\1000000000000000000<Q
  .have k:oz y1=true:=eE (by omega) (by omega)
   have l:∃x a,iv (cY 4) (.ints 0 y1.toNat) NK fuel 0 [some (.int Q),some (.int y1),some (.int m),some (.int (Q / 2)),none,none,none,none] []=.nx [some (.int Q),some (.int y1),some (.int m),some (.int x),a,none,none,none] []:=by
    refine bE (R:=λr=>∃x a,r=.nx [some (.int Q),some (.int y1),some (.int m),some (.int x),a,none,none,none] []) (q:=intsFrom 0 y1.toNat) (λ_ n o=>∃x a,n=[some (.int Q),some (.int y1),some (.int m),some (.int x),a,none,none,none]/\o=[]) (λ_ _ _ _=>rfl) ?_ ?_ fuel 0 _ _ (by rw[cR];unfold fuel;omega) (Ë _) ⟨_,_,rfl,rfl⟩
    .rintro i d n o p ⟨x,a,rfl,rfl⟩
     refine⟨_,rfl,?_⟩;have e:NK [some (.int Q),some (.int y1),some (.int m),some (.int x),some d,none,none,none] []=.nx [some (.int Q),some (.int y1),some (.int m),some (.int (x / 840)),some d,none,none,none] []:=by simp[NK]
     show Co (NK [some (.int Q),some (.int y1),some (.int m),some (.int x),some d,none,none,none] []) _ _
     rw[e];exact⟨_,_,rfl,rfl⟩
    .rintro n o ⟨x,a,rfl,rfl⟩
     exact⟨x,a,rfl⟩
   obtain⟨x,a,l⟩:=l;refine⟨x%840%m,[],abG _ (ϟ b),abH _ b,?_⟩;simp[NM,j.1,j.2,k,l,b]
  .obtain⟨d,p,e⟩:=Jl (xs:=[D.int 48271,.int 69621,.int 40692,.int 39373,.int 16807,.int 30323,.int 21403,.int 62089,.int 45742,.int 37907,.int 53611,.int 28411,.int 59393,.int 33391]) (Q:=y1%14) (abG _ (by decide)) (abH _ (by decide))
   obtain⟨v,rfl⟩:∃v,d=.int v:=by
    simp only[Õ,aap,or_false]at p;rcases p with h|h|h|h|h|h|h|h|h|h|h|h|h|h<;>exact⟨_,h⟩
   have w:([]++[Cell.lst [D.int 48271,.int 69621,.int 40692,.int 39373,.int 16807,.int 30323,.int 21403,.int 62089,.int 45742,.int 37907,.int 53611,.int 28411,.int 59393,.int 33391]]:aG)[0]?=some _:=rfl;have E:=bY w e;have F:nk (Q%1000000007+11)=true:=jI (by omega) (by omega)
   have G:nk ((Q%1000000007+11)*v%2147483629)=true:=jI (by omega) (by omega)
   have H:nk ((Q%1000000007+11)*v%2147483629*((Q%1000000007+11)*v%2147483629+y1)%1999999973)=true:=jI (by omega) (by omega)
   have rI:NM [some (.int Q),some (.int y1),some (.int m),some (.int (Q / 2)),none,none,none,none] []=.nx [some (.int Q),some (.int y1),some (.int m),some (.int (Q / 2)),none,none,none,none] []:=by
    by_cases f:Q%2=1
    .have y:¬ 1000000000000000000<Q:=λz=>j ⟨f,z⟩
     simp[NM,f,y]
    .have A:(Q%2==1)=false:=by simpa using f
     simp[NM,A]
   refine⟨(Q%1000000007+11)*v%2147483629*((Q%1000000007+11)*v%2147483629+y1)%1999999973*16807%998244353 / 1000%m,([]++[Cell.lst [D.int 48271,.int 69621,.int 40692,.int 39373,.int 16807,.int 30323,.int 21403,.int 62089,.int 45742,.int 37907,.int 53611,.int 28411,.int 59393,.int 33391]]:aG),abG _ (ϟ b),abH _ b,?_⟩;rw[rI,aH];have I:(aE 5 (mN aV (ae (ah (.int 48271)) (ae (ah (.int 69621)) (ae (ah (.int 40692)) (ae (ah (.int 39373)) (ae (ah (.int 16807)) (ae (ah (.int 30323)) (ae (ah (.int 21403)) (ae (ah (.int 62089)) (ae (ah (.int 45742)) (ae (ah (.int 37907)) (ae (ah (.int 53611)) (ae (ah (.int 28411)) (ae (ah (.int 59393)) (ae (ah (.int 33391)) ag)))))))))))))))) [some (.int Q),some (.int y1),some (.int m),some (.int (Q / 2)),none,none,none,none] []=.nx [some (.int Q),some (.int y1),some (.int m),some (.int (Q / 2)),none,some (.ref 0),none,none] _:=rfl;unfold XS
   simp_all
 refine aJ g λr c B f e=>?_
 exact⟨r,B,f,pS rfl e rfl⟩
theorem JI(I:Nat->List D->aG->Prop)(g:∀i a b,I i a b->ek N3 b=some q)(k:∀i d a b,q[i]?=some d->I i a b->∃y aA,X ([some d]++t) b=.ok y aA/\I (i+1) (a++[y]) aA):
  ∀f i a b,I i a b->q.length - i<f->i<=q.length->a.length+q.length<=100000+i->∃e aA,rg true p X 0 t N3 f i a b=.ok e aA/\I q.length e aA:=by
 intro f
 induction f with
 |zero=>simp
 |succ f l=>
  intro i a b h m n o;simp only[rg,g i _ b h]
  by_cases c:i<q.length
  .rw[(ä c)]
   have j:lV 0 q[i]=some _:=rfl;have r:gY true p ([some q[i]]++t) b=.ok _ b:=rfl;simp only[j];rw[if_pos (aW (by omega))]
   grind
  grind
theorem mG(I:Nat->List D->aG->Prop)(l:B1 t a=.ok N3 T)(g:I 0 [] T)(h:∀i b a,I i b a->ek N3 a=some q)(j:∀i d b a,q[i]?=some d->I i b a->∃y T,p ([some d]++ed L t) a=.ok y T/\I (i+1) (b++[y]) T)(f:q.length<=90000):
  ∃e c,bB p true X B1 0 L t a=.ok (.ref c.length) (c++[.lst e])/\I q.length e c:=by
 refine cW (JI (p:=X) I h j fuel 0 [] _ g (by unfold fuel;exact oi (B' (õ _ _) f)) (Ë _) (by simp;exact cO f)) λe c m k=>?_
 refine⟨e,_,?_,k⟩;unfold bB
 simp_all
def XT(b:aG)(j:Nat)(a:List Str):=b[j]?=some (.lst (a.map .str))
def kM(a)(b:List Nat)(rs:List (List Str)):=aI (XT a) b rs
structure Rw(Ω:aG)(k:Nat)(js:List Nat)(rs:List (List Str)):Prop where
 ce:Ω[k]?=some (.lst (js.map .ref))
 al:kM Ω js rs
theorem kM.keep{b aA}:∀{a}{rs},kM b a rs->∀{fp},af fp b aA->(∀j∈a,j∉fp)->kM aA a rs
 |_,_,.nil,_,_,_=>.nil
 |_,_,.cons r t,fp,K,h=>.cons (K.get _ _ r (h _ (by simp))) (kM.keep t K (by grind))
theorem Rw.keep{a aA k b rs}(R:Rw a k b rs)(K:af [] a aA):Rw aA k b rs:=⟨K.get _ _ R.ce (by simp),R.al.keep K (by simp)⟩
theorem Rw.xJ(R:Rw a b L Z)(K:af B8 a T)(c:b∉B8)(d:∀j∈L,j∉B8):Rw T b L Z:=⟨K.get _ _ R.ce c,R.al.keep K d⟩
theorem kM.len(h:kM a L Z):Z.length=L.length:=aI.length h
def Rw.len{b k a rs}(R:Rw b k a rs):=R.al.len
theorem kM.at(h:kM a L Z)(c:Z[b]?=some g):∃j,L[b]?=some j/\a[j]?=some (.lst (g.map .str)):=aI.ET (R:=XT a) h c
theorem kM.at'(h:kM a L Z)(d:L[b]?=some s):∃c,Z[b]?=some c/\a[s]?=some (.lst (c.map .str)):=aI.get h d
theorem kM.lt(h:kM a L Z):∀j∈L,j<a.length:=λj b=>by
 obtain⟨i,c⟩:=è.mp b;obtain⟨d,_,e⟩:=h.at' c;exact bb e
theorem kN(h:(L.map D.ref)[b]?=some m):∃j,L[b]?=some j/\m=.ref j:=by
 rw[î]at h
 grind
def QE:=(ak (dY (m2 (aF .In) (aa 1) (cp (aa 3) false (ah (.int 1)) true (ah .non))) (ak (bU (aa 2)) aq) aq) aq)
def tV:=(ak (dI (fy [2,3]) (tr (aa 0)) QE) (ak (bU (ah .non)) aq))
theorem rH(h:a[b]?=some (.lst (g.map .str))):lU (.ref b) (some 1) none a=.ok (.ref a.length) (a++[.lst (g.tail.map .str)]):=by
 have e:dq (g.map D.str) (some 1) none=g.tail.map .str:=by
  simp
 simp only[lU,av h,rn,e]
variable{Ξ:Nat}
theorem JJ(h:a[s]?=some (.lst (g.map .str))):∃aA,af [] a aA/\QE [some (.ref b),some (.str d),some (.int Ξ),some (.ref s)] a=if d∈g.tail then .rt (.int Ξ) aA else .nx [some (.ref b),some (.str d),some (.int Ξ),some (.ref s)] aA:=by
 have e:=rH h;have i:(a++[Cell.lst (g.tail.map .str)])[a.length]?=some _:=aj;have j:af [] a (a++[Cell.lst (g.tail.map .str)]):=af.app;generalize a++[Cell.lst _]=k at *;have f:=iw (d:=d) i;refine⟨_,j,?_⟩
 by_cases c:d∈g.tail
 .rw[if_pos c,decide_eq_true c]at *
  simp[QE,e,f,-rD]
 .rw[if_neg c,decide_eq_false c]at *
  simp[QE,e,f,-rD]
theorem Cr(R:Rw a b L Z)(y:Z.length<=1000):∃c aA,bN 4 2 tV [.ref b,.str d] a=.ok c aA/\af [] a aA/\((c=.non/\∀r∈Z,d∉r.tail)\/∃i:Nat,c=.int i/\∃r,Z[i]?=some r/\d∈r.tail):=by
 rw[ba (by rfl)]
 have z:aZ 4 [D.ref b,.str d]=[some _,some _,none,none]:=rfl;rw[z];have t:=R.len
 have k:tr (aa 0) [some (.ref b),some (.str d),none,none] a=.ok (.Qd (.ref b)) a:=by
  unfold tr;simp[av R.ce]
 unfold tV;rw[ai,cq,k,cx]
 refine bE (R:=λr=>∃c aA,fb (sq r _)=.ok c aA/\af [] a aA/\((c=.non/\∀r∈Z,d∉r.tail)\/∃i:Nat,c=.int i/\∃r,Z[i]?=some r/\d∈r.tail)) (q:=eX 0 (L.map .ref))
  (λi h f=>∃l m,h=[some (.ref b),some _,l,m]/\(∀r∈Z.take i,d∉r.tail)/\af [] a f) ?_ ?_ ?_ fuel 0 _ _ (by rw[jH];unfold fuel;simp;exact oi (B' (R' t.symm) y)) (Ë _) ⟨none,none,rfl,by simp,af.refl⟩
 .rintro i h f ⟨_,_,_,_,K⟩
  show(ig f (.ref b)).map _=_
  rw[ax,av (R.keep K).ce];rfl
 .rintro i c h f A ⟨l,m,rfl,u,K⟩
  obtain⟨E,n,rfl⟩:=mu _ 0 i c A;obtain⟨j,B,rfl⟩:=kN n;obtain⟨o,C,g⟩:=(R.keep K).al.at' B;rw[adC];refine⟨[some (.ref b),some (.str d),some _,some _],rfl,?_⟩;obtain⟨p,w,e⟩:=JJ g;rw[e]
  by_cases x:d∈o.tail
  .rw[if_pos x]
   exact⟨.int i,p,rfl,K.trans w,by grind⟩
  .rw[if_neg x]
   refine⟨_,_,rfl,λr s=>?_,K.trans w⟩
   rw[é,C]at s
   grind
 .rintro h f ⟨l,m,rfl,u,K⟩
  rw[jH,Í,←t,û]at u;exact⟨.non,f,rfl,K,by simp_all⟩
def NO(a):=(ak (dY (ij (aa 1) (m2 (aF .Is) (mN (aQ a) (ae (aa 0) (ae (m2 aK (aa 1) (ah (.int 0))) ag))) (ah .non))) (ak (bU (m2 aK (aa 1) (ah (.int 0)))) aq) aq) aq)
def Ct(a):=(ak (dI (cY 1) (bg (aa 0)) (NO a)) (ak (bU (ah .non)) aq))
theorem j_(h:a[b]?=some (.lst q)):ib a (.ref b)=some (!q.isEmpty):=by simp only[ib,h]
theorem JK(R:Rw a b L Z)(n:Z.length<=1000)(h:a[s]?=some (.lst (g.map .str))):∃aA,af [] a aA/\NO (bN 4 2 tV) [some (.ref b),some (.ref s)] a=match freeOf Z g with|some m=>.rt (.str m) aA|none=>.nx [some (.ref b),some (.ref s)] aA:=by
 cases g with
 |nil=>
  refine⟨a,af.refl,?_⟩;simp[NO,freeOf,(j_ h)]
 |cons m t=>
  have f:=j_ h;have c:aK _ (.int 0) a=.ok _ a:=bY h (L2.cH rfl);refine aJ (Cr (d:=m) R n) λd o j k p=>?_
  have e:aK _ (.int 0) _=.ok _ _:=bY (k.get _ _ h (by simp)) (L2.cH rfl)
  refine⟨_,k,?_⟩;rcases p with ⟨rfl,l⟩|⟨i,rfl,r,q,l⟩
  .rw[dU (by simp_all)]
   simp[NO,f,c,j,e]
  .rw[dS ⟨r,by grind,l⟩]
   simp[NO,f,c,j]
theorem JL(R:Rw a b L Z)(u:Z.length<=1000):∃aA,bN 2 1 (Ct (bN 4 2 tV)) [.ref b] a=.ok (Jm (free Z)) aA/\af [] a aA:=by
 rw[ba (by rfl)]
 have w:aZ 2 [D.ref b]=[some _,none]:=rfl;rw[w];have x:=R.len;have l:bg (aa 0) [some (.ref b),none] a=.ok (.seq (.ref b)) a:=by simp[aM (by rw[ax,av R.ce])]
 unfold Ct;rw[ai,cq,l,cx]
 refine bE (R:=λr=>∃aA,fb (sq r _)=.ok _ aA/\af [] a aA) (q:=L.map .ref)
  (λi h c=>∃n,h=[some _,n]/\(Z.take i).findSome? (freeOf Z)=none/\af [] a c) ?_ ?_ ?_ _ 0 _ _ (by unfold fuel;simp;omega) (Ë _) ⟨_,rfl,rfl,af.refl⟩
 .rintro i h c ⟨_,_,_,K⟩
  rw[bw,ax,av (R.keep K).ce]
 .rintro i d h c s ⟨n,rfl,o,K⟩
  obtain⟨j,y,rfl⟩:=kN s;have R2:=R.keep K;refine bD (R2.al.at' y) λf k g=>?_
  refine⟨[some _,some _],rfl,?_⟩;refine bD (JK R2 u g) λz t e=>?_
  rw[e];have A:Z.take (i+1)=Z.take i++[f]:=by rw[é,k];rfl
  cases B:freeOf Z _ with
  |some m=>
   refine⟨_,?_,K.trans t⟩
   have:free Z=some m:=by
    unfold free
    have s:Z=Z.take i++(f::Z.drop (i+1)):=by
     have p:=(Ç.mp k).1;rw[ä p]at k;cases k
     simp_all
    grind
   rw[this];rfl
  |none=>
   refine⟨_,rfl,?_,K.trans t⟩
   simp_all
 .rintro h c ⟨n,rfl,o,K⟩
  rw[Í,←x,û]at o;refine⟨_,?_,K⟩;unfold free;rw[o];rfl
open PySem.Spec PyProof.Rows
theorem Gb:dq q none (some b)=q.take b:=u_ q b
theorem kO(h:a[b]?=some (.lst (g.map .str))):lU (.ref b) none (some s) a=.ok (.ref a.length) (a++[.lst ((g.take s).map .str)]):=by
 simp only[lU,av h,rn,Gb,aar]
theorem nR(h:a[b]?=some (.lst (g.map .str)))(c:g[s]?=some d):aK (.ref b) (.int s) a=.ok (.str d) a:=
 bY h (L2.cH (by simp[c]))
def oB(M:List (List D->aU)):=(ak (aE 5 (BY M 2 (ae (aa 4) (ae (aa 1) ag))))
 (ak (dY (m2 (aF .NotEq) (aa 5) (ah (.int 0)))
 (ak (bU (mN kD (ae (mN (aN .tuple) (ae (aa 3) ag)) (ae (aa 4) (ae (aa 5) ag)))))
 aq)
 aq)
 (ak (cJ (d_ kF bT (aa 3) (ae (aa 4) ag)))
 aq)))
variable{D3:Ty}
@[simp] theorem QF:fx D3 (.tup q) a=.ok (.bl (D3==.tuple)) a:=rfl
@[simp] theorem QG:fx D3 (.str d) a=.ok (.bl (D3==.str)) a:=rfl
@[simp] theorem QH:fx D3 .non a=.ok (.bl false) a:=rfl
@[simp] theorem NP:aN .len [.tup q] a=.ok (.int q.length) a:=rfl
theorem JM(I:Nat->aG->Prop)(l:∀i b,I i b->ek N3 b=some q)(m:∀i d b,q[i]?=some d->I i b->∃aA,gY v p ([some d]++t) b=.ok (G8 d) aA/\I (i+1) aA/\(G8 d=true->X ([some d]++t) aA=.ok (Q6 d) aA)):
  ∀f i a b,q.length - i<f->i<=q.length->a.length+q.length<=100000+i->I i b->∃aA,rg v p X 0 t N3 f i a b=.ok (a++((q.drop i).filter G8).map Q6) aA/\I q.length aA:=by
 intro f
 induction f with
 |zero=>simp
 |succ f g=>
  intro i a b x y n h;simp only[rg,l i b h]
  by_cases c:i<q.length
  .have j:=ä c
   rw[j];have o:lV 0 q[i]=some _:=rfl;simp only[o];refine br (m i _ b j h) λr s k z=>?_
   rw[if_pos (aW (by omega)),s,š c]
   cases A:G8 _ with
   |true=>
    obtain⟨e,u,w⟩:=g _ (a++[Q6 q[i]]) _ (by omega) c (by grind) k
    grind
   |false=>
    obtain⟨e,u,w⟩:=g _ a _ (by omega) c (aa3 n) k
    grind
  grind
theorem Ge(I:Nat->aG->Prop)(f:B1 t a=.ok N3 T)(g:∀i a,I i a->ek N3 a=some q)(j:∀i d a,q[i]?=some d->I i a->∃T,gY v X ([some d]++ed L t) a=.ok (G8 d) T/\I (i+1) T/\(G8 d=true->p ([some d]++ed L t) T=.ok (Q6 d) T))(c:q.length<=90000)(k:I 0 T):
  ∃b,bB p v X B1 0 L t a=.ok (.ref b.length) (b++[.lst ((q.filter G8).map Q6)])/\I q.length b:=by
 unfold bB;rw[f];dsimp only;obtain⟨b,e,h⟩:=JM I g j fuel 0 [] _ (by unfold fuel;exact oi (B' (õ _ _) c)) (Ë _) (by simp;exact cO c) k
 refine⟨_,?_,h⟩;rw[e];rfl
theorem zk(h:a[b]?=some (.lst q)):nF (.ref b) [] a=.ok .non (a.set b (.lst [])):=by
 simp only[nF,iJ h]
theorem Cu(h:a[b]?=some (.lst q)):ib a (.ref b)=some (!q.isEmpty):=by simp only[ib,h]
variable{Δ:List Str}
theorem mH(h:a[b]?=some (.lst (g.map .str)))(c:a[s]?=some (.lst (Δ.map .str))):aF .Eq (.ref b) (.ref s) a=.ok (.bl (decide (g=Δ))) a:=by
 rw[xD,jX,dN h,dN c]
 simp_all
theorem ka(h:a[b]?=some (.lst (g.map .str)))(c:a[s]?=some (.lst (Δ.map .str))):aF .NotEq (.ref b) (.ref s) a=.ok (.bl (!decide (g=Δ))) a:=by
 rw[xE,jX,dN h,dN c]
 simp_all
def wB(M:List (List D->aU)):=(ak (dY (oG (m2 (aF .NotEq) (cp (aa 0) false (aa 5) false (m2 (a7 .Add) (aa 5) (ah (.int 1)))) (mN aV (ae (aa 6) ag))) (m2 (aF .NotEq) (BY M 2 (ae (aa 6) (ae (aa 1) ag))) (ah (.int 0))))
 (ak (bU (aa 5))
 aq)
 aq)
 aq)
theorem vu(h:a[b]?=some (.lst (g.map .str))):lU (.ref b) (some s) none a=.ok (.ref a.length) (a++[.lst ((g.drop s).map .str)]):=by
 simp only[lU,av h,rn,Bm,adx]
theorem kM.snoc(h:kM a L Z)(c:a[b]?=some (.lst (g.map .str))):kM a (L++[b]) (Z++[g]):=aI.append h (.cons c .nil)
theorem cA(h:a[b]?=some (.lst q)):aN .list [.ref b] a=.ok (.ref a.length) (a++[.lst q]):=by
 show jj _ _=_
 simp only[gh,ax,av h];rfl
theorem nS{f}{P:Nat->Prop}(z:B1 t a=.ok (.seq (.ref b)) a)(R:Rw a b L Z)(A:Z.length<=1000)(B:∀j l k,af [] a k->j∈L->l∈Z->k[j]?=some (.lst (l.map .str))->∃n c,p ([some (.ref j)]++ed B8 t) k=.ok (.ref n) c/\af [] k c/\c[n]?=some (.lst ((f l).map .str))/\P n):
  ∃g c,bB p true X B1 0 B8 t a=.ok (.ref c.length) (c++[.lst (g.map .ref)])/\af [] a c/\kM c g (Z.map f)/\∀j∈g,P j:=by
 have r:=R.len
 obtain⟨G,c,e,g,rfl,q,C,s⟩:=mG (λi m c=>∃g,m=g.map .ref/\kM c g ((Z.take i).map f)/\af [] a c/\∀j∈g,P j) z ⟨[],rfl,.nil,af.refl,by simp⟩
  (λi m c h=>by
   refine eu h λ_ _ _ K _=>?_
   rw[bw,ax,av (R.keep K).ce])
  (λi d m k D h=>by
   obtain⟨g,rfl,q,K,s⟩:=h;obtain⟨j,u,rfl⟩:=kN D;obtain⟨l,w,o⟩:=(R.keep K).al.at' u;refine a8 (B j l k K (Î u) (Î w) o) λn c e y E H=>?_
   refine⟨_,c,e,g++[n],by simp,?_,K.trans y,?_⟩
   .rw[é,w,ì]
    exact(q.keep y (by simp)).snoc E
   .intro x F
    rcases æ.mp F with h|h
    .simp_all
    simp_all) (by simp;exact cO (B' (R' r.symm) A))
 refine⟨g,c,e,C,?_,s⟩;rwa[Í,←r,û]at q
def Cv(i:Nat):=bB (mN (aN .list) (ae (aa 0) ag)) true (ah .non) (bg (aa i)) 0 []
theorem Gf(l:t[s]?=some (some (.ref b)))(R:Rw a b L Z)(m:Z.length<=1000):∃c d aA,Cv s t a=.ok (.ref d) aA/\af [] a aA/\Rw aA d c Z/\(∀j∈c,a.length<=j)/\a.length<=d/\d∉c:=by
 have f:bg (aa s) t a=.ok (.seq (.ref b)) a:=by
  rw[cf,xu,l];exact aM (by rw[ax,av R.ce])
 obtain⟨c,n,e,K,g,o⟩:=nS (p:=mN (aN .list) (ae (aa 0) ag)) f R m (λj i k K _ _ h=>by
  refine⟨_,k++[.lst (i.map _)],?_,af.app,aj,K.len⟩;have:=cA h
  simp_all)
 rw[ť]at g;refine⟨_,_,_,e,K.trans af.app,⟨aj,g.keep (fp:=[]) af.app (by simp)⟩,o,K.len,λh=>?_⟩
 have:=g.lt _ h
 simp_all
def stC:=(HR (m2 (aF .Eq) (cp (aa 0) true (ah .non) false (ah (.int 1))) (mN aV (ae (aa 1) ag))) (cp (aa 0) false (ah (.int 1)) true (ah .non)) (aa 0))
theorem Cw(h:a[b]?=some (.lst (g.map .str))):lU (.ref b) none (some 1) a=.ok (.ref a.length) (a++[.lst ((g.take 1).map .str)]):=kO h
theorem JN(h:a[b]?=some (.lst (g.map .str))):∃e aA,stC [some (.ref b),some (.str d)] a=.ok (.ref e) aA/\af [] a aA/\aA[e]?=some (.lst ((cI d g).map .str))/\(e=b\/a.length<=e):=by
 have l:=Cw h;have m:(a++[Cell.lst ((g.take 1).map .str)])[a.length]?=some _:=aj;have k:af [] a (a++[Cell.lst ((g.take 1).map .str)]):=af.app;generalize a++[Cell.lst _]=c at *;have n:(c++[Cell.lst [.str d]])[c.length]?=some (.lst ([d].map _)):=aj;have f:af [] _ (c++[Cell.lst [.str d]]):=af.app;have o:=f.get _ _ (k.get _ _ h (by simp)) (by simp)
 have i:=mH (f.get _ _ m (by simp)) n
 have p:(m2 (aF .Eq) (cp (aa 0) true (ah .non) false (ah (.int 1))) (mN aV (ae (aa 1) ag))) [some (.ref b),some (.str d)] a=.ok (.bl (decide (g.take 1=[d]))) (c++[Cell.lst [.str d]]):=by
  simp[l,aW,i,-xD]
 generalize c++[Cell.lst _]=j at *;have K:=k.trans f;unfold stC;rw[vq,p,eG,cX,fN,au]
 by_cases i:g.take 1=[d]
 .rw[if_pos (by simp_all)]
  refine⟨_,j++[.lst (g.tail.map .str)],?_,K.trans af.app,?_,.inr K.len⟩
  .simp[(rH o)]
  .unfold cI;rw[if_pos i];exact aj
 .rw[if_neg (by simp_all)]
  refine⟨b,_,by simp,K,?_,.inl rfl⟩
  unfold cI;simp_all
def FnAt(d:aU):=∀b k e c,Rw b k e c->c.length<=1000->∃a,d [.ref k] b=.ok (Jm (free c)) a/\af [] b a
theorem NQ:FnAt (bN 2 1 (Ct (bN 4 2 tV))):=λ_ _ _ _ R a=>JL R a
def tM:=(mN (aN .any) (ae (aa 1) ag))
def stM:=(bB stC true (ah .non) (bg (aa 1)) 0 [3])
def bM(st a):=(ak (aE 3 (mN (aQ a) (ae (aa 1) ag)))
 (ak (dY (m2 (aF .Is) (aa 3) (ah .non))
 (ak st
 aq)
 aq)
 (ak (cJ (d_ kF bT (aa 2) (ae (aa 3) ag)))
 (ak (aE 1 stM)
 aq))))
def Gg(st a):=
 (ak (aE 1 (Cv 0))
 (ak (aE 2 (mN aV ag))
 (ak (lX tM (bM st a))
 (ak (bU (aa 2))
 aq))))
theorem xM(R:Rw a b L Z):aN .any [.ref b] a=.ok (.bl ((Z.map λr=>!r.isEmpty).any id)) a:=by
 show q7 _ _ a=_
 unfold q7;have:cm (gJ a 8) [.ref b]=some [LL Z]:=by simp[(nP R.ce R.al)]
 have:BA .any [LL Z]=.ok (false,.bl ((Z.map λr=>!r.isEmpty).any id)):=by simp[LL,any_rows,-adj]
 simp_all
variable{d0:Option D}
theorem NR(M:FnAt E)(R:Rw a b L Z)(F:Z.length<=1000)(N:free Z=some d)(O:a[s]?=some (.lst (g.map .str)))(o:s≠b)(n:s∉L)(Q:g.length<=900):
  ∃q i aA,bM ω E [some m,some (.ref b),some (.ref s),d0] a=.nx [some m,some (.ref q),some (.ref s),some (.str d)] aA/\Rw aA q i (Z.map (cI d))/\aA[s]?=some (.lst ((g++[d]).map .str))/\s≠q/\s∉i/\af [s] a aA:=by
 refine bD (M a b L Z R F) λc G r=>?_
 rw[N]at G;have t:=r.get _ _ O (by simp)
 have S:=R.keep r;have u:=dX (m:=.str d) t (by simp;exact cO Q)
 have U:=dz t;have H:af [s] c (c.set s (.lst (g.map .str++[.str d]))):=af.set (by simp)
 have I:(c.set s (.lst (g.map .str++[.str d])))[s]?=some (.lst ((g++[d]).map .str)):=by rw[aT t];simp
 generalize c.set s (.lst (g.map .str++[.str d]))=k at *;have R2:Rw k b L Z:=S.xJ H (by simpa using Ê o) (λj w h=>n (by rw[←Ã.mp h];exact w))
 have x:bg (aa 1) [some m,some (.ref b),some (.ref s),some (.str d)] k=.ok (.seq (.ref b)) k:=by
  rw[cf];exact aM (by rw[ax,av R2.ce])
 have J:=bb I
 refine a8 (nS (p:=stC) (X:=ah .non) (B8:=[3]) (f:=cI d) (P:=λj=>j≠s) x R2 F (λj V l K w _ h=>by
  obtain⟨Y,y,e,K4,A,h5⟩:=JN (d:=d) h;refine⟨Y,y,e,K4,A,?_⟩;rcases h5 with rfl|h5
  .exact λz=>n (z▸w)
  .have:=K.len
   exact Ö (U' (U' J this) h5))) λi l e3 B h3 A=>?_
 have C:=B.len;refine⟨l.length,i,l++[.lst (i.map .ref)],?_,⟨aj,h3.keep (fp:=[]) af.app (by simp)⟩,cu (B.get _ _ I (by simp)),O' (U' J C),λh=>A s h rfl,?_⟩
 .have D:stM _ k=.ok (.ref l.length) (l++[.lst (i.map .ref)]):=e3
  have r1:(aE 3 (mN (aQ E) (ae (aa 1) ag))) [some m,some (.ref b),some (.ref s),d0] a=.nx [some m,some (.ref b),some (.ref s),some (.str d)] c:=by simp[G,Jm]
  have r2:(dY (m2 (aF .Is) (aa 3) (ah .non)) (ak ω aq) aq) [some m,some (.ref b),some (.ref s),some (.str d)] c=.nx [some m,some (.ref b),some (.ref s),some (.str d)] c:=by simp
  have r3:(cJ (d_ kF bT (aa 2) (ae (aa 3) ag))) [some m,some (.ref b),some (.ref s),some (.str d)] c=.nx [some m,some (.ref b),some (.ref s),some (.str d)] k:=by
   rw[bW,eA (m:=.ref s) (T:=c) (by simp) U]
   simp[u]
  unfold bM;rw[ai,r1,aH,ai,r2,aH,ai,r3,aH,ai,bj,D];rfl
 .exact((er.up r).trans H).trans (er.up (B.trans af.app))
theorem Cy(u:FnAt E)(M:Mg Z g):
  ∀b c q k i d a,Rw b k i Z->b[q]?=some (.lst (c.map .str))->q≠k->q∉i->Z.length<=1000->c.length+g.length<=900->g.length<a ->
   ∃j f aA,gm tM (bM ω E) a [some m,some (.ref k),some (.ref q),d] b=.nx [some m,j,some (.ref q),f] aA/\aA[q]?=some (.lst ((c++g).map .str))/\af [q] b aA:=by
 induction M with
 |@done Z h=>
  intro b c q k i d a R s _ _ _ _ l;obtain⟨a,rfl⟩:∃k,a=k+1:=⟨a - 1,by grind⟩
  refine⟨some (.ref k),d,b,?_,by simp_all,af.refl⟩
  have e:=xM R;rw[any_false h]at e;have o:tM [some m,some (.ref k),some (.ref q),d] b=.ok (.bl false) b:=by simp[tM,e]
  simp only[gm,o];rfl
 |@step Z n g h w _ x=>
  intro b c q k i d a R s p r y t l;obtain⟨a,rfl⟩:∃k,a=k+1:=⟨a - 1,by omega⟩
  rw[ô]at t l;refine fh (NR (ω:=ω) u (m:=m) (d0:=d) R y w s p r (B' (Ė _ _) t)) λz A B L C F G H I=>?_
  refine cg (x _ _ q z _ (some (.str n)) a C F G H (by simp_all) (by simp;omega) (adD l)) λj f J N O K=>?_
  refine⟨j,f,_,?_,by simp_all,I.trans K⟩
  have e:=xM R;rw[any_true h]at e;have o:tM [some m,some (.ref k),some (.ref q),d] b=.ok (.bl true) b:=by simp[tM,e]
  simp only[gm,o]
  simp_all
def Gh(d:aU):=∀b k e c o,Rw b k e c->Mg c o->c.length<=1000->o.length<=900->∃q a,d [.ref k] b=.ok (.ref q) a/\a[q]?=some (.lst (o.map .str))/\b.length<=q/\af [] b a
theorem NS(g:FnAt E):Gh (bN 4 1 (Gg ω E)):=by
 intro i k x y o R M e j;rw[ba (by rfl)]
 have l:aZ 4 [D.ref k]=[some _,none,none,none]:=rfl;rw[l];refine fh (Gf (t:=[some _,none,none,none]) (s:=0) rfl R e) λm b a z c d A B C=>?_
 have n:(aE 1 (Cv 0)) [some (.ref k),none,none,none] i=.nx [some (.ref k),some (.ref b),none,none] a:=by simp_all
 have f:af [] _ (a++[Cell.lst []]):=af.app;have p:(aE 2 (mN aV ag)) [some (.ref k),some (.ref b),none,none] a=.nx [some (.ref k),some (.ref b),some (.ref a.length),none] (a++[Cell.lst []]):=by rfl
 have F:=d.al.lt;obtain⟨G,H,q,r,u,w⟩:=Cy g M _ [] _ b _ _ fuel (d.keep f) aj (Ö (bb d.ce)) (λh=>by grind) e (by simp_all) (by unfold fuel;exact oi j)
 refine⟨_,_,?_,u,c.len,af.new (c.trans f) w (by simpa using c.len)⟩
 unfold Gg;rw[ai,n,aH,ai,p,aH,ai];unfold lX;rw[r];rfl
end Mir
namespace Mir
open PySem
open PySem.Spec PyProof.Rows L2
structure nU(K:M')(x:Str)(st:K')(f:b')(fd:Å):Prop where
 ns:ß K Ì x=some (some (.ref f))
 fn:zE K x x st f fd
variable{G:M'}{M M2 T5 T6 y6 z6:f'}{Q4 m6:Option b'}{Q5:Array (Option f')}{d:Str}{h:b'}{Θ:K'}
theorem tW(a:ß G Ì d=some (some (.ref h)))(l:G.lookup h=some ⟨M,Q4,.func (Ý d d (bI Θ) (a_ Θ) (ao Θ) .none M2 T5 y6 m6 z6 T6),Q5⟩)(c:Ĕ G z6 d=true)(k:Ó G (.ref h)=true):nU G d Θ h (Ý d d (bI Θ) (a_ Θ) (ao Θ) .none M2 T5 y6 m6 z6 T6):=⟨a,qB l c k⟩
variable [h_]
structure zl(K:M')(x qual:Str)(st:K')(dV:f')(f:b')(fd:Å):Prop where
 ex:∃(oc:f') (od:Option b') (kV doc pm:f') (an:Option b') (cdv ct:f') (osl:Array (Option f')),
  fd=Ý x qual (bI st) (a_ st) (ao st) dV kV doc pm an cdv ct/\K.lookup f=some ⟨oc,od,.func fd,osl⟩/\Ĕ K cdv qual=true
 kp:Ó K (.ref f)=true
variable{A:À}{B:D'}{L7 g Δ:List Str}{U:Str}{b:Nat}{y:Ä}{θ:aO}{ν:Str->Option f'}{ψ:Å}{ω:SM}
theorem kb(W:aX y A G ν B θ b)(F:zl G d U Θ M h ψ)(K:eU g Δ (ao Θ)=true)(L:tQ θ L7 Θ g=some ω):
    bQ y A G ν B fk (b+1) h ψ Δ (cZ (cQ ν) (bN g.length Δ.length ω)):=by
  refine xe F.ex λoc n=>xe n λod o=>xe o λkV p=>xe p λN t=>xe t λpm u=>bF u λan O ct P w R x=>?_;subst w
  have z:=fJ K;refine zZ R x z (λT H Q E c=>?_) λf outer s H T Q E V c=>?_
  · refine bF c λk Z l X S r a=>?_
    rw[r.length];unfold bN at a;split at a
    · omega
    · exact a.elim
  · refine bF c λk Z l X S r a=>?_
    have i:eS (dn fk y A G ν _ g _ _ h _ f outer s H E).k_ _ θ b _ g:=
      { scope:=rfl,names:=rfl,calm:=rfl,room:=V,dg:=W.dg,own:=abI,Np:=λ_ _ _=>.inl rfl,qQ:=z.nd,kind:=z.kind,k_:=λ_ _ _ c=>c,fld:=W.fld,cst:=W.cst
        jm:=λd F c=>⟨W.jm d F c⟩,fn:=λd F c=>⟨W.fn d F c⟩,met:=λm C F c=>⟨W.met m C F c⟩,cls:=λC F c=>bD (W.cls C F c) λj Y h2=>⟨j,Y,⟨h2⟩⟩,clo:=W.clo }
    refine⟨Nk _ mw k Z H ω _ l,(gu (rm i 30 60) L k Z H _ l).k_,k,Z,jk S r,?_⟩;unfold bN at a;split at a
    · cases q:ω _ l with
      |rt D e=>rwa[q]at a
      |nx I e=>rw[q]at a;exact λσ H' a0 Z' J=>a _ H' _ Z' J.gr J.st (a4 rfl)
      |bk I e=>rw[q]at a;exact a.elim
      |ct I e=>rw[q]at a;exact a.elim
      |exc d e=>rwa[q]at a
      |bad=>rwa[q]at a
    · exact a.elim
abbrev oR(k:Nat):Option D:=some (.ref k)
abbrev oI(i:Int):Option D:=some (.int i)
abbrev oS(x:Str):Option D:=some (.str x)
def bu(a:aG)(e:Nat)(kvs:List (Key×D)):=a[e]?=some (.dK kvs)\/a[e]?=some (.dF kvs)
abbrev dB:=List (Str×List Str)
noncomputable def nms(E:dB):=E.map (·.1)
noncomputable def aL(E:dB)(n):=(E.lookup n).getD []
def aD(P:Nat->Prop)(b:aG)(kvs:List (Key×D))(E:dB):=aI (λa p=>a.1=.inr p.1/\∃j,a.2=.ref j/\P j/\b[j]?=some (.lst (p.2.map .str))) kvs E
variable{P:List (Key×D)}{a:aG}
theorem bu.keep{aA fp}(h:bu a b P)(K:af fp a aA)(c:b∉fp):bu aA b P:=h.imp (λz=>K.get _ _ z c) λz=>K.get _ _ z c
theorem bu.lt(h:bu a b P):b<a.length:=h.elim bb bb
theorem bu.nl(h:bu a b P):∀c,a[b]?≠some (.lst c):=λc z=>by rcases h with h|h<;>rw[h]at z<;>cases z
theorem bu.ni(h:bu a b P):∀C c,a[b]?≠some (.ins C c):=λC c z=>by rcases h with h|h<;>rw[h]at z<;>cases z
variable{s:Nat}
theorem Cz(h:bu a b P):gJ a (s+1) (.ref b)=none:=by rcases h with h|h<;>simp only[gJ,h]
theorem tX(h:bu a b P):dm a (.ref b)=none:=by rcases h with h|h<;>simp only[dm,h]
theorem CA(h:bu a b P):yN a (.ref b) (.str d)=some (bX P (.inr d)):=by rcases h with h|h<;>simp only[yN,h,vb,ň]
theorem Gi(h:bu a b P):aF .In (.str d) (.ref b) a=.ok (.bl (bX P (.inr d)).isSome) a:=by
 rw[rD,jX,Cz h];simp only[gX,CA h];rfl
theorem Ia(h:bu a b P):aF .NotIn (.str d) (.ref b) a=.ok (.bl (!(bX P (.inr d)).isSome)) a:=by
 rw[nO,jX,Cz h];simp only[gX,CA h];rfl
variable{m:D}
theorem et(h:bu a b P)(c:bX P (.inr d)=some m):aK (.ref b) (.str d) a=.ok m a:=by
 unfold aK;rw[rr,xF,ax,tX h];rw[rr];simp only[Js,CA h,c];rfl
theorem Ib(h:bu a b P):aN .len [.ref b] a=.ok (.int P.length) a:=by
 show jj _ _=_
 have c:yP [.ref b] a=.bad:=by simp only[yP,ax,tX h]
 have d:Bz [.ref b] a=.ok (.int P.length) a:=by rcases h with h|h<;>simp only[Bz,h]
 simp_all
theorem xO(h:bu a b P):ti a (.ref b)=some P:=by rcases h with h|h<;>simp only[ti,h]
theorem kP(h:bu a b P):aN .list [.ref b] a=.ok (.ref a.length) (a++[.lst (P.map λc=>kE c.1)]):=by
 show jj _ _=_
 have d:gh [.ref b] a=.bad:=by simp only[gh,ax,tX h]
 have e:pK [.ref b] a=.ok (.ref a.length) (a++[.lst (P.map λc=>kE c.1)]):=by simp only[pK,xO h];rfl
 simp_all
theorem rJ(h:bu a b P):gi [.ref b] a=.ok (.ref a.length) (a++[.dK P]):=by
 show jj _ _=_
 have c:lH [.ref b] a=.bad:=by simp only[lH,tX h]
 have d:tm [.ref b] a=.ok (.ref a.length) (a++[.dK P]):=by simp only[tm,xO h];rfl
 simp_all
variable{N4:Cell}
theorem set_same(h:a[b]?=some N4):a.set b N4=a:=by
 apply ϙ;intro i;rw[abn];split
 .rename_i z;subst z;rw[if_pos (bb h),h]
 .rfl
theorem xP(h:bu a b P):srcOf a (.ref b)=.ok (.keys b) (a.set b (.dF P)):=by
 unfold srcOf;rw[ax,tX h];rcases h with h|h
 .simp_all
 .simp only[h,set_same h]
theorem NT(h:bu a b P):wU a (.ref b)=.ok (.items b) (a.set b (.dF P)):=by
 unfold wU;rcases h with h|h
 .simp_all
 .simp only[h,set_same h]
theorem CB(h:bu a b P):(a.set b (.dF P))[b]?=some (.dF P):=by rcases h with h|h<;>exact aT h
theorem rK(h:a[b]?=some (.dF P)):ek (.keys b) a=some (P.map λc=>kE c.1):=by simp only[ek,h]
theorem aD.imp{a kvs E P P'}(h:aD P a kvs E)(b:∀j,P j->P' j):aD P' a kvs E:=aI.imp (by simp_all) h
variable{w:dB}{ς:Nat->Prop}
theorem aD.keep{aA fp}(h:aD ς a P w)(K:af fp a aA)(f:∀j∈fp,¬ ς j):aD ς aA P w:=aI.imp (by rintro _ _ ⟨e,j,b,c,d⟩;exact⟨e,j,b,c,K.get _ _ d λz=>f j z c⟩) h
variable{L:List Nat}{T:aG}
theorem aD.cy(h:aD ς a P w)(K:af L a T)(f:∀j∈L,∀g,a[j]?≠some (.lst g)):aD ς T P w:=aI.imp (by rintro _ _ ⟨e,j,b,c,d⟩;exact⟨e,j,b,c,K.get _ _ d λz=>f j z _ d⟩) h
theorem aD.lt(h:aD ς a P w):aD (λj=>ς j/\j<a.length) a P w:=aI.imp (λ_ _  g =>xa g λe f=>br f λj b c d=>⟨e,j,b,⟨c,bb d⟩,d⟩) h
theorem aD.len(h:aD ς a P w):w.length=P.length:=aI.length h
theorem aD.keys(h:aD ς a P w):(P.map λc=>kE c.1)=(nms w).map .str:=by
 induction h with
 |nil=>rfl
 |cons r _ b=>
  simp at b ⊢;rw[b,r.1];rfl
theorem aD.look(h:aD ς a P w)(n):(∀r,w.lookup n=some r->∃j,bX P (.inr n)=oR j/\ς j/\a[j]?=some (.lst (r.map .str)))/\(w.lookup n=none->bX P (.inr n)=none):=by
 induction h with
 |nil=>exact⟨by simp,λ_=>rfl⟩
 |@cons b p P w c _ d=>
  rw[dA]
  grind
theorem rL(h:w.lookup d=some g):(d,g)∈w:=by
 induction w with
 |nil=>simp at h
 |cons p w a=>
  grind
theorem lookup_some(h:d∈nms w):∃r,w.lookup d=some r:=by
 unfold nms at h
 induction w with
 |nil=>simp at h
 |cons p w a=>
  rw[ϔ];split
  .simp
  grind
theorem jr(h:d∈nms w):w.lookup d=some (aL w d):=by
 obtain⟨r,a⟩:=lookup_some h;unfold aL;rw[a];rfl
theorem lookup_none(h:d∉nms w):w.lookup d=none:=by
 cases q:w.lookup d with
 |none=>rfl
 |some r=>exact absurd (ac6 (rL q)) h
def aD.at{n}(h:aD ς a P w)(b:n∈nms w):=(h.look n).1 _ (jr b)
theorem aD.is(h:aD ς a P w):(bX P (.inr d)).isSome=decide (d∈nms w):=by
 by_cases q:d∈nms w
 .obtain⟨j,b,_⟩:=h.at q
  simp_all
 .rw[(h.look d).2 (lookup_none q),decide_eq_false q];rfl
variable{N7:Key}
theorem CC(h:bX P N7=none):(P.any λa=>decide (a.1=N7))=false:=by rw[jZ,h];rfl
theorem aD.put{j n r}(h:aD ς a P w)(b:n∉nms w)(c:ς j)(d:a[j]?=some (.lst (r.map .str))):aD ς a (d4 P (.inr n) (.ref j)) (w++[(n,r)]):=by
 have:=CC ((h.look n).2 (lookup_none b));unfold d4;rw[if_neg (by grind)]
 exact aI.append h (.cons ⟨rfl,j,rfl,c,d⟩ .nil)
def pU(E)(a:List Str):=(nms E).filter λn=>!decide (n∈a)&&(aL E n).all λx=>decide (x∈a)
def XU:=(bB (m2 (aF .In) (aa 0) (aa 1)) true (ah .non) (bg (m2 aK (aa 1) (aa 0))) 0 [2])
def NU:=(ij (m2 (aF .NotIn) (aa 0) (aa 2)) (mN (aN .all) (ae XU ag)))
def QI:=(ak (bU (bB (aa 0) false NU (bg (aa 0)) 0 [0,1])) aq)
variable{l9:List Bool}
theorem mI(h:a[b]?=some (.lst (l9.map .bl))):aN .all [.ref b] a=.ok (.bl (l9.all id)) a:=by
 show q7 _ _ a=_
 unfold q7;rw[FX];have d:cm (gJ a 7) _=some (l9.map .bl):=kL (λ_=>JD) l9
 have:cm (gJ a 8) [.ref b]=some [.lst (l9.map .bl)]:=by simp[mE h d]
 rw[this,FW,Ck]
 have e:fY (l9.map D.bl)=some l9:=by
  clear h d this
  induction l9 with
  |nil=>rfl
  |cons c l9 f=>simp[fY,f]
 rw[e];rfl
variable{B1:IM}{p:EM}{t:bo}
theorem vv(c:a[b]?=some (.lst (g.map .str)))(f:B1 t a=.ok (.seq (.ref b)) a){lL}(i:∀x∈g,p ([oS x]++ed L t) a=.ok (.bl (lL x)) a)(j:g.length<=90000):
  ∃aA,mN (aN .all) (ae (bB p true (ah .non) B1 0 L) ag) t a=.ok (.bl (g.all lL)) aA/\af [] a aA:=by
 have e:=du (p:=p) (X:=ah .non) (v:=true) (L:=L) (Q6:=λd=>match d with|.str x=>.bl (lL x)|d=>d) f (by rw[bw,ax,av c]) (λd _=>rfl) (λd k _=>by
  grind) (by simp_all)
 have h:((g.map D.str).filter λ_=>true).map (λd=>match d with|.str x=>D.bl (lL x)|d=>d)=(g.map lL).map .bl:=by
  rw[ı.mpr (λ_ _=>rfl),à,à]
  rfl
 rw[h]at e;refine⟨a++[.lst ((g.map lL).map .bl)],?_,af.app⟩;rw[dJ,a5,e,au,bh,au,au,mI aj]
 simp_all
def Gj(f:aU):=∀c e q b E d P,bu c e b->aD P c b E->c[q]?=some (.lst (d.map .str))->(∀n∈nms E,(aL E n).length<=1000)->E.length<=1000 ->
 ∃z a,f [.ref e,.ref q] c=.ok (.ref z) a/\a[z]?=some (.lst ((pU E d).map .str))/\af [e] c a/\a[e]?=some (.dF b)/\c.length<=z
theorem NV:Gj (bN 2 2 QI):=by
 intro f e q c E a P k F G J M;rw[ba (by rfl)]
 have N:aZ 2 [D.ref e,.ref q]=[oR e,oR q]:=rfl;rw[N];have m:af [e] f (f.set e (.dF c)):=af.set (by simp)
 have o:=CB k;have r:=F.cy m (λj l=>by rw[Ã.mp l];exact k.nl)
 have s:=m.get _ _ G (by simpa using (λz=>k.nl _ (z▸G)))
 have O:(f.set e (.dF c)).length=f.length:=by simp
 have u:bg (aa 0) [oR e,oR q] f=.ok (.keys e) (f.set e (.dF c)):=by
  exact xP k
 generalize f.set e (.dF c)=w at *
 refine bD (Ge (p:=aa 0) (X:=NU) (v:=false) (L:=[0,1]) (G8:=λd=>match d with|.str n=>!decide (n∈a)&&(aL E n).all _|_=>false) (Q6:=λd=>d) (λ_ b=>af [] w b) u
  (λi b K=>by rw[rK (K.get _ _ o (by simp)),F.keys])
  (λi d b y K=>by
   obtain⟨n,Q,rfl⟩:=fA y;have R:n∈nms E:=Î Q;have H:=K.get _ _ s (by simp)
   have S:=K.get _ _ o (by simp)
   have T:=r.keep K (by simp)
   obtain⟨j,U,_,l⟩:=T.at R;have g:=iK (d:=n) H
   show ∃A,dk (NU [oS n,oR e,oR q] b)=.ok (!decide (n∈a)&&(aL E n).all λx=>decide (x∈a)) A/\_
   by_cases V:n∈a
   .refine⟨b,?_,K,λ_=>rfl⟩
    rw[decide_eq_true V]at g ⊢;simp[NU,g,-nO]
   .obtain⟨B,I,Y⟩:=vv (t:=[oS n,oR e,oR q]) (p:=m2 (aF .In) (aa 0) (aa 1)) (B1:=bg (m2 aK (aa 1) (aa 0))) (L:=[2]) l (by
     show(aK (.ref e) (.str n) b).bind _=_
     rw[(et (d:=n) (.inr S) U),au];exact aM (by rw[ax,av l])) (λx _=>iw H) (by grind)
    refine⟨B,?_,K.trans Y,λ_=>rfl⟩
    have I:mN (aN .all) (ae XU ag) _ b=_:=I;unfold NU
    simp_all) (by simp[nms];exact cO M) af.refl) λh Z C=>?_
 refine⟨h.length,h++[.lst _],?_,aj,?_,cu (C.get _ _ o (by simp)),by have:=C.len;exact B' (R' O.symm) this⟩
 .unfold QI
  rw[ai,ff,Z]
  have e4:(((nms E).map D.str).filter (λd=>match d with|.str n=>!decide (n∈a)&&(aL E n).all λx=>decide (x∈a)|_=>false)).map (λd=>d)=(pU E a).map .str:=by
   rw[ť,aau];rfl
  rw[e4];rfl
 .exact(m.trans (er.up C)).trans af.app
theorem kQ{xs:List Str}:∀{o:List Str},o.Nodup->(∀x∈o,x∈xs)->o.length<=xs.length:=by
 intro o b d
 induction o generalizing xs with
 |nil=>simp
 |cons a o c=>
  have:=c (xs:=xs.erase a) (Ł.mp b).2 (λx e=>by
   grind)
  grind
structure Ef(E:dB)(ord:List Str):Prop where
 nd:ord.Nodup
 sub:∀n∈ord,n∈nms E
 pre:∀(i:Nat) (n:Str),ord[i]?=some n->∀x∈aL E n,x∈ord.take i
structure Acy(E:dB):Prop where
 nd:(nms E).Nodup
 el:∀n∈nms E,∀x∈aL E n,x∈nms E
 rk:∃rk:Str->Nat,∀n∈nms E,∀x∈aL E n,rk x<rk n
theorem kd:d∈pU w g↔d∈nms w/\d∉g/\∀x∈aL w d,x∈g:=by
 unfold pU
 simp_all
theorem Ef.step{E c}(h:Ef E c)(g:(nms E).Nodup):Ef E (c++pU E c) where
 nd:=Ę.mpr ⟨h.nd,g.filter _,λa j b k z=>(kd.mp k).2.1 (z▸j)⟩
 sub:=λn l=>(æ.mp l).elim (h.sub n) λz=>(kd.mp z).1
 pre:=λi n d x f=>by
  by_cases e:i<c.length
  .rw[ã e]at d
   rw[adE (ñ e)];exact h.pre i n d x f
  .rw[ē (Ţ e)]at d
   have:=(kd.mp (Î d)).2.2 x f;rw[List.take_append,ϒ (Ţ e)]
   simp_all
theorem vw(h:a[b]?=some (.lst (g.map .str)))(c:a[s]?=some (.lst (Δ.map .str)))(d:g.length+Δ.length<=10000):iF (.ref b) [.ref s] a=.ok .non (a.set b (.lst ((g++Δ).map .str))):=by
 simp only[iF,iJ h,iJ c];rw[if_pos (aW (by simp;exact cO d)),ì]
def QJ(a):=(ak (cJ (d_ kF iF (aa 1) (ae (aa 2) ag)))
 (ak (aE 2 (mN (aQ a) (ae (aa 0) (ae (aa 1) ag))))
 aq))
def QK(a):=
 (ak (aE 1 (mN aV ag))
 (ak (aE 2 (mN (aQ a) (ae (aa 0) (ae (aa 1) ag))))
 (ak (lX (aa 2)
 (QJ a))
 (ak (bU (aa 1))
 aq))))
structure Gd(E:dB):Prop extends Acy E where
 few:E.length<=12
 short:∀n∈nms E,(aL E n).length<=5
 JO:∀n∈nms E,(aL E n).Nodup
def JP(f:aU):=∀d e b E P,bu d e b->aD P d b E->Gd E ->
 ∃c z a,f [.ref e] d=.ok (.ref z) a/\a[z]?=some (.lst (c.map .str))/\Ef E c/\(∀n∈nms E,n∈c)/\af [e] d a/\a[e]?=some (.dF b)/\d.length<=z
def Uc:=(bB (aa 0) false (m2 (aF .NotIn) (aa 0) (aa 1)) (bg (aa 0)) 0 [1])
def QM(a rest):=
 (ak (aE 1 (mN (aQ a) (ae (aa 0) ag)))
 (ak (aE 3 Uc)
 (ak (dY (eN (aa 3))
 (ak (bU (ah .non))
 aq)
 aq)
 rest)))
def JQ(d:aU):=∀c e a E P,bu c e a->aD P c a E->Gd E ->
 ∃b,d [.ref e] c=.ok .non b/\af [e] c b/\b[e]?=some (.dF a)
noncomputable def aY(a:List Str)(L:Str->List Str):dB:=a.map λn=>(n,L n)
def NW(E)(L:Str->List Str):=∀n∈nms E,∃o,Mg ((aL E n).map L++[aL E n]) o/\L n=n::o
variable{ζ:Str->List Str}
theorem aR:nms (aY g ζ)=g:=by
 unfold nms aY;rw[à];exact(Ĳ λx _=>rfl).trans (List.map_id _)
theorem cD(h:d∈g):aL (aY g ζ) d=ζ d:=by
 unfold aL aY
 induction g with
 |nil=>simp at h
 |cons a g b=>
  grind
variable{D4 q:List D}
theorem eH(h:a[b]?=some (.lst q))(c:a[s]?=some (.lst D4))(d:q.length+D4.length<=10000):a7 .Add (.ref b) (.ref s) a=.ok (.ref a.length) (a++[.lst (q++D4)]):=by
 rw[Cm,FZ,av h,av c,FY,if_pos (aW (cO d))];rfl
def XW:=(bB (mN (aN .list) (ae (m2 aK (aa 1) (aa 0)) ag)) true (ah .non) (bg (aa 1)) 0 [0])
def Ud:=(mN aV (ae (mN (aN .list) (ae (aa 1) ag)) ag))
def QN:=(ak (bU (m2 (a7 .Add) XW Ud)) aq)
def Gk(h:aU):=∀c l a e f P b,bu c l e->aD P c e f->c[a]?=some (.lst (b.map .str))->(∀x∈b,x∈nms f)->b.length<=100 ->
 ∃g k d,h [.ref l,.ref a] c=.ok (.ref k) d/\Rw d k g (b.map (aL f)++[b])/\af [] c d/\c.length<=k/\(∀j∈g,c.length<=j)/\k∉g
theorem NX:Gk (bN 2 2 QN):=by
 intro m l a V r P c Y Z s hs N;rw[ba (by rfl)]
 have e0:aZ 2 [D.ref l,.ref a]=[oR l,oR a]:=rfl;rw[e0]
 have u:bg (aa 1) [oR l,oR a] m=.ok (.seq (.ref a)) m:=by
  rw[cf];exact aM (by rw[ax,av s])
 refine cW (mG (t:=[oR l,oR a]) (p:=mN (aN .list) (ae (m2 aK (aa 1) (aa 0)) ag)) (X:=ah .non) (L:=[0]) (q:=c.map .str) (λi g b=>∃f,g=f.map .ref/\kM b f ((c.take i).map (aL r))/\af [] m b/\∀j∈f,m.length<=j) u ⟨[],rfl,.nil,af.refl,by simp⟩
  (λi g b h=>by
   obtain⟨_,_,_,K,_⟩:=h;rw[bw,ax,av (K.get _ _ s (by simp))])
  (λi d g b w h=>by
   obtain⟨f,rfl,n,K,z⟩:=h;obtain⟨x,O,rfl⟩:=fA w;have A:=Y.keep K (by simp)
   obtain⟨j,hv,_,hj⟩:=(Z.keep K (by simp)).at (hs x (Î O))
   have B:=et (d:=x) A hv;have k:=cA hj;refine⟨.ref b.length,b++[.lst ((aL r x).map .str)],?_,f++[b.length],by simp,?_,K.trans af.app,?_⟩
   .show((aK (.ref l) (.str x) b).bind _).bind _=_
    rw[B,au]
    show aN .list [.ref j] b=_
    exact k
   .rw[é,O,ì]
    exact(n.keep (fp:=[]) af.app (by simp)).snoc aj
   .intro y C
    rcases æ.mp C with h|h
    .exact z y h
    .rw[Ã.mp h];exact K.len) (by simp;exact cO N)) λys e e1 E=>eu E λf F n Q z=>?_;subst F
 rw[Í,û]at n;have G:XW [oR l,oR a] m=.ok (.ref e.length) (e++[.lst (f.map .ref)]):=e1;have g2:(e++[Cell.lst (f.map .ref)])[e.length]?=some (.lst (f.map .ref)):=aj;have R:af [] m (e++[Cell.lst (f.map .ref)]):=Q.trans af.app;have H:kM (e++[Cell.lst (f.map .ref)]) f (c.map (aL r)):=n.keep (fp:=[]) af.app (by simp)
 have l2:(e++[Cell.lst (f.map .ref)]).length=e.length+1:=by simp
 have jl:=n.lt;have S:=Q.len;have T:=n.len;generalize e++[Cell.lst (f.map .ref)]=b at *;have k:=cA (R.get _ _ s (by simp))
 have e3:Ud [oR l,oR a] b=.ok (.ref (b.length+1)) ((b++[.lst (c.map .str)])++[.lst [.ref b.length]]):=by
  unfold Ud
  have:(mN (aN .list) (ae (aa 1) ag)) [oR l,oR a] b=.ok (.ref b.length) (b++[.lst (c.map .str)]):=by
   show aN .list [.ref a] b=_
   exact k
  rw[dJ,a5,this,au,bh,au,au,fO,if_pos (aW (by simp))]
  simp
 have I:af [] b ((b++[Cell.lst (c.map .str)])++[Cell.lst [.ref b.length]]):=af.app.trans af.app
 have gb:((b++[Cell.lst (c.map .str)])++[Cell.lst [.ref b.length]])[b.length+1]?=some (.lst [.ref b.length]):=by
  simp
 have U:((b++[Cell.lst (c.map .str)])++[Cell.lst [.ref b.length]])[b.length]?=some (.lst (c.map .str)):=cu aj;have l3:((b++[Cell.lst (c.map .str)])++[Cell.lst [.ref b.length]]).length=b.length+2:=by simp
 generalize (b++[Cell.lst (c.map .str)])++[Cell.lst [.ref b.length]]=o at *;have J:=I.get _ _ g2 (by simp)
 have M:=H.keep I (by simp)
 have hc:=eH J gb (by simp at T ⊢;exact cO (B' (R' T.symm) N))
 refine⟨f++[b.length],o.length,o++[.lst (f.map .ref++[.ref b.length])],?_,⟨?_,?_⟩,(R.trans I).trans af.app,ñ (Ø S (mK J)),?_,?_⟩
 .unfold QN
  rw[ai,ff,dj,G,au,e3,au,hc];rfl
 .simp
 .exact(M.snoc U).keep (fp:=[]) af.app (by simp)
 .intro y C
  rcases æ.mp C with h|h
  .exact z y h
  .rw[Ã.mp h];exact ñ (Ø S (R' l2.symm))
 .intro h
  rcases æ.mp h with h|h
  .have:=jl _ h;exact Ò _ (ā this (mK J))
  .have:=Ã.mp h;exact Ò _ (Ø (R' this) (mK U))
theorem Gm(h:N7∉P.map (·.1)):d4 P N7 m=P++[(N7,m)]:=by
 unfold d4
 simp_all
theorem kR:∀(c b:List (Key×D)),((b++c).map (·.1)).Nodup->c.foldl (λa p=>d4 a p.1 p.2) b=b++c
 |[],b,_=>by simp
 |p::c,b,h=>by
  rw[abJ,Gm (by
   grind),kR c _ (by simp_all)]
  simp
theorem CD{f:Str->D}(h:∀n∈g,∃j,f n=.ref j/\ς j/\a[j]?=some (.lst ((ζ n).map .str))):aD ς a (g.map λn=>(.inr n,f n)) (aY g ζ):=by
 induction g with
 |nil=>exact .nil
 |cons b g c=>exact .cons ⟨rfl,h b (by simp)⟩ (c λn d=>h n (by simp[d]))
variable{N3:Src}
theorem vx{f:Str->D}(h:B1 t a=.ok N3 a)(i:ek N3 a=some (g.map .str))(m:∀n∈g,p ([oS n]++ed L t) a=.ok (.tup [.str n,f n]) a)(j:g.length<=1000)(o:g.Nodup):
  ∃q aA,mN gi (ae (bB p true (ah .non) B1 0 L) ag) t a=.ok (.ref q) aA/\aA[q]?=some (.dK (g.map λn=>(.inr n,f n)))/\af [] a aA/\a.length<=q:=by
 have e:=du (p:=p) (X:=ah .non) (v:=true) (L:=L) (Q6:=λd=>match d with|.str n=>.tup [.str n,f n]|d=>d) h i (λd _=>rfl) (λd r _=>by
  grind) (by simp;exact cO j)
 have k:((g.map D.str).filter λ_=>true).map (λd=>match d with|.str n=>D.tup [.str n,f n]|d=>d)=g.map λn=>.tup [.str n,f n]:=by
  rw[ı.mpr (λ_ _=>rfl),à]
  rfl
 rw[k]at e;have l:(a++[Cell.lst (g.map λn=>.tup [.str n,f n])])[a.length]?=some _:=aj
 have c:af [] a (a++[Cell.lst (g.map λn=>.tup [.str n,f n])]):=af.app
 generalize a++[Cell.lst _]=b at *;refine⟨_,b++[.dK _],?_,aj,c.trans af.app,c.len⟩;rw[dJ,a5,e,au,bh,au]
 show jj _ _=_
 simp only[lH,av l,(kL (f:=tp) (g:=λn=>D.tup [.str n,f n]) (λn=>rfl) g),(kR (g.map λn=>((.inr n:Key),f n)) [] (by
  grind))]
 rfl
def XX:=(mN (aN .all) (ae (bB (m2 (aF .In) (aa 0) (aa 1)) true (ah .non) (bg (m2 aK (aa 0) (aa 4))) 0 [2]) ag))
def QO(a b):=(m2 (a7 .Add) (mN aV (ae (aa 4) ag)) (mN (aQ a) (ae (mN (aQ b) (ae (aa 2) (ae (m2 aK (aa 0) (aa 4)) ag))) ag)))
def QP(a b):=(ak (dY XX
 (ak (ak (ey (aa 2) (aa 4) (QO a b))
 aq)
 aq)
 aq)
 aq)
def QQ:=(ak (dY (m2 (aF .In) (aa 4) (aa 3))
 (ak cT
 aq)
 aq)
 aq)
def XY:=(mN gi (ae (bB (mN kD (ae (aa 0) (ae (m2 aK (aa 1) (aa 0)) ag))) true (ah .non) (bg (aa 0)) 0 [2]) ag))
def QR(rs a b c d):=
 (ak (aE 1 (mN (aQ a) (ae (aa 0) ag)))
 (ak (dY (m2 (aF .IsNot) (aa 1) (ah .non))
 rs
 aq)
 (ak (aE 2 bC)
 (ak (aE 3 bC)
 (ak (dI (cY 4) (bg (mN (aQ b) (ae (aa 0) ag)))
 (QP c d))
 (ak (dI (cY 4) (bg (aa 0))
 QQ)
 (ak (bU XY)
 aq)))))))
theorem vy(h:a[b]?=some (.dK P))(c:P.length<=1000):nJ (.ref b) (.str d) m a=some (a.set b (.dK (d4 P (.inr d) m))):=by
 simp only[nJ,h,vb];rw[if_pos (aW (by omega))]
variable{E J0:aU}{G6:List (Key×D)}{M1 P0 d0:Option D}{f9:Nat->Prop}
theorem JR(hM:Gh E)(hB:Gk J0)(Z:a[b]?=some (.dF P))(hr:aD ς a P w)(H:a[s]?=some (.dK G6))(h:aD f9 a G6 (aY g ζ))(hn:d∈nms w)(I:d∉g)(f:∀x∈aL w d,x∈g)(J:Mg ((aL w d).map ζ++[aL w d]) Δ)(hL:ζ d=d::Δ)(A:(aL w d).length<=100)(a0:g.length<=100)(ho:Δ.length<=900)(K:∀j,a.length<=j->f9 j):
  ∃l aA,QP E J0 [oR b,d0,oR s,P0,oS d,M1] a=.nx [oR b,d0,oR s,P0,oS d,M1] aA/\aA[s]?=some (.dK l)/\aD f9 aA l (aY (g++[d]) ζ)/\af [s] a aA:=by
 obtain⟨o,hv,_,u⟩:=hr.at hn;have M:=et (d:=d) (.inr Z) hv
 obtain⟨e,G,K1⟩:=vv (t:=[oR b,d0,oR s,P0,oS d,M1]) (p:=m2 (aF .In) (aa 0) (aa 1)) (B1:=bg (m2 aK (aa 0) (aa 4))) (L:=[2]) (lL:=λx=>true) u (by
  rw[cf]
  show(aK (.ref b) (.str d) a).bind _=_
  rw[M,au];exact aM (by rw[ax,av u])) (λx N=>by
  show aF .In (.str x) (.ref s) a=_
  rw[Gi (.inl H),h.is,aR,decide_eq_true (f x N)]) (by omega)
 have G:XX [oR b,d0,oR s,P0,oS d,M1] a=.ok (.bl true) e:=by
  have:((aL w d).all λ_=>true)=true:=by simp
  rw[this]at G;exact G
 have g2:(e++[Cell.lst [.str d]])[e.length]?=some (.lst [.str d]):=aj;have z:af [] a (e++[Cell.lst [.str d]]):=K1.trans af.app
 have e0:(mN aV (ae (aa 4) ag)) [oR b,d0,oR s,P0,oS d,M1] e=.ok (.ref e.length) (e++[Cell.lst [.str d]]):=by
  show aV [.str d] e=_
  rw[fO,if_pos (aW (by simp))]
 generalize e++[Cell.lst [.str d]]=O at *;have Q:=z.get _ _ H (by simp)
 have B:=h.keep z (by simp)
 have R:=z.get _ _ u (by simp)
 have b0:=et (d:=d) (.inr (z.get _ _ Z (by simp))) hv
 obtain⟨js,k,S,e3,R3,T,h3,_,_⟩:=hB O s o G6 _ _ _ (.inl Q) B R (by rw[aR];exact f) A
 have C:(aL w d).map (aL (aY g ζ))=(aL w d).map ζ:=Ĳ λx N=>cD (f x N)
 rw[C]at R3;obtain⟨q,c,e4,U,lq,V⟩:=hM S k js _ Δ R3 J (by simp;omega) ho
 have c0:=eH (V.get _ _ (T.get _ _ g2 (by simp)) (by simp)) U (by simp;omega)
 have X:af [] a (c++[Cell.lst ([.str d]++Δ.map .str)]):=((z.trans T).trans V).trans af.app;have g5:(c++[Cell.lst ([.str d]++Δ.map .str)])[c.length]?=some (.lst ((ζ d).map .str)):=by rw[hL];exact aj
 have l4:a.length<=c.length:=((z.trans T).trans V).len
 have e5:QO E J0 [oR b,d0,oR s,P0,oS d,M1] e=.ok (.ref c.length) (c++[Cell.lst ([.str d]++Δ.map .str)]):=by
  unfold QO
  simp_all
 generalize c++[Cell.lst ([.str d]++Δ.map .str)]=i at *;have y:=X.get _ _ H (by simp)
 have D:=h.keep X (by simp)
 have F:=h.len;have Y:G6.length<=1000:=by rw[←F];simp[aY];omega
 have g0:=vy (d:=d) (m:=.ref c.length) y Y;have K6:af [s] i (i.set s (.dK (d4 G6 (.inr d) (.ref c.length)))):=af.set (by simp)
 refine⟨d4 G6 (.inr d) (.ref c.length),i.set s (.dK (d4 G6 (.inr d) (.ref c.length))),?_,aT y,?_,(er.up X).trans K6⟩
 .unfold QP
  rw[ai,dW,G,eG,cX,fN,cx,if_pos rfl,ai,ai]
  have:ey (aa 2) (aa 4) (QO E J0) [oR b,d0,oR s,P0,oS d,M1] e=.nx [oR b,d0,oR s,P0,oS d,M1] (i.set s (.dK (d4 G6 (.inr d) (.ref c.length)))):=by
   unfold ey
   simp_all
  rw[this];rfl
 .have:=D.put (n:=d) (r:=ζ d) (by rw[aR];exact I) (K _ l4) g5
  have h6:=this.cy K6 (λj hj ds=>by rw[Ã.mp hj,y];simp)
  have:aY g ζ++[(d,ζ d)]=aY (g++[d]) ζ:=by simp[aY]
  rw[this]at h6;exact h6
def CF(f:aU):=∀c e b E P L,bu c e b->aD P c b E->Gd E->NW E L->(∀n∈nms E,(L n).length<=900) ->
 ∃l d a,f [.ref e] c=.ok (.ref l) a/\a[l]?=some (.dK d)/\aD (λj=>c.length<=j) a d (aY (nms E) L)/\af [e] c a/\a[e]?=some (.dF b)/\c.length<=l
variable{M5 n5:aU}
theorem NY(hO:JQ E)(hE:JP J0)(hM:Gh n5)(hB:Gk M5):CF (bN 6 1 (QR ω E J0 n5 M5)):=by
 intro Ω e c0 m P L hd hr G hL u0;rw[ba (by rfl)]
 have e0:aZ 6 [D.ref e]=[oR e,none,none,none,none,none]:=rfl;rw[e0];have X0:=G.few;have v0:(nms m).length=m.length:=by simp[nms]
 obtain⟨a,e1,K1,w0⟩:=hO Ω e c0 m P hd hr G;have x0:=hr.cy K1 (λj S ds=>by rw[Ã.mp S];exact hd.nl ds)
 have le:=hd.lt;have K2:af [] a (a++[Cell.dK []]):=af.app;have g2:(a++[Cell.dK []])[a.length]?=some (.dK []):=aj;have l2:(a++[Cell.dK []]).length=a.length+1:=by simp
 have r2:aE 2 bC [oR e,some .non,none,none,none,none] a=.nx [oR e,some .non,oR a.length,none,none,none] (a++[Cell.dK []]):=rfl;generalize a++[Cell.dK []]=l at *;have K3:af [] l (l++[Cell.dK []]):=af.app;have g3:(l++[Cell.dK []])[l.length]?=some (.dK []):=aj;have l3:(l++[Cell.dK []]).length=l.length+1:=by simp
 have r3:aE 3 bC [oR e,some .non,oR a.length,none,none,none] l=.nx [oR e,some .non,oR a.length,oR l.length,none,none] (l++[Cell.dK []]):=rfl;generalize l++[Cell.dK []]=M at *;have H:=K2.trans K3;have T:=H.get _ _ w0 (by simp)
 have g0:=x0.keep H (by simp)
 have y0:=K3.get _ _ g2 (by simp)
 obtain⟨A,z,u,e4,h0,F,Q,K4,U,lz⟩:=hE M e c0 m P (.inr T) g0 G;have V:a.length≠e:=by have:=K1.len;omega
 have i0:l.length≠e:=by have:=K1.len;omega
 have j0:=K4.get _ _ y0 (by simpa using V)
 have z0:=K4.get _ _ g3 (by simpa using i0)
 have A0:=g0.cy K4 (λj S ds=>by rw[Ã.mp S,T];simp)
 have Y0:A.length<=m.length:=by
  have:=kQ F.nd F.sub;omega
 have V0:=K4.len;have W0:=K1.len
 have C0:af [] M u:=⟨K4.len,λk c hk _=>by
  by_cases h:k=e
  .subst h;rw[T]at hk;cases hk;exact U
  .exact K4.get k c hk (by simpa using h)⟩
 have l0:bg (mN (aQ J0) (ae (aa 0) ag)) [oR e,some .non,oR a.length,oR l.length,none,none] M=.ok (.seq (.ref z)) u:=by
  rw[cf];have:(mN (aQ J0) (ae (aa 0) ag)) [oR e,some .non,oR a.length,oR l.length,none,none] M=.ok (.ref z) u:=by simp[e4]
  rw[this,au];exact aM (by rw[ax,av h0])
 have m0:∃s B b,iv (cY 4) (.seq (.ref z)) (QP n5 M5) fuel 0 [oR e,some .non,oR a.length,oR l.length,none,none] u=.nx [oR e,some .non,oR a.length,oR l.length,B,none] b/\b[a.length]?=some (.dK s)/\aD (λj=>u.length<=j) b s (aY A L)/\af [a.length] u b:=by
  have D0:∀I,af [a.length] u I->I[z]?=some (.lst (A.map .str)):=λI K=>K.get _ _ h0 (by simp;omega)
  refine bE (R:=λr=>∃s B b,r=.nx [oR e,some .non,oR a.length,oR l.length,B,none] b/\b[a.length]?=some (.dK s)/\aD (λj=>u.length<=j) b s (aY A L)/\af [a.length] u b) (q:=A.map .str)
   (λi N b=>∃s B,N=[oR e,some .non,oR a.length,oR l.length,B,none]/\b[a.length]?=some (.dK s)/\aD (λj=>u.length<=j) b s (aY (A.take i) L)/\af [a.length] u b) ?_ ?_ ?_ fuel 0 _ _ (by unfold fuel;simp;omega) (Ë _) ⟨[],none,rfl,j0,.nil,af.refl⟩
  .rintro i N b ⟨_,_,_,_,_,K⟩
   rw[bw,ax,av (D0 _ K)]
  .rintro i d N b X ⟨s,B,rfl,J,Y,K⟩
   obtain⟨n,C,rfl⟩:=fA X;refine⟨[oR e,some .non,oR a.length,oR l.length,oS n,none],rfl,?_⟩;have O:=F.sub n (Î C);obtain⟨o,G0,n0⟩:=hL n O;have ho:o.length<=900:=by have:=u0 n O;rw[n0]at this;simp at this;omega
   have x:=K.get _ _ U (by simpa using Ê V)
   have Z:=A0.cy K (λj S ds=>by rw[Ã.mp S,j0];simp)
   have I0:n∉A.take i:=by
    intro hm;obtain⟨i',a0⟩:=è.mp hm;have K0:=(Ç.mp a0).1;rw[ý]at K0;rw[Ż (by omega)]at a0
    have:=(ņ (by omega) F.nd).mp (a0.trans C.symm)
    omega
   obtain⟨o0,y,e6,h6,h7,K6⟩:=JR (f9:=λj=>u.length<=j) hM hB (d:=n) (d0:=some .non) (P0:=oR l.length) (M1:=none) x Z J Y O I0 (F.pre i n C) G0 n0 (B' (G.short n O) (by omega)) (by rw[ý];omega) ho (λj S=>B' K.len S)
   rw[e6];refine⟨o0,oS n,rfl,h6,?_,K.trans K6⟩;rw[é,C];exact h7
  .rintro N b ⟨s,B,rfl,J,Y,K⟩
   rw[Í,û]at Y;exact⟨s,B,b,rfl,J,Y,K⟩
 obtain⟨s,B,b,e5,h5,Z,K5⟩:=m0;have x:=K5.get _ _ U (by simpa using Ê V)
 have L0:=K5.get _ _ z0 (by simp;omega)
 have p0:bg (aa 0) [oR e,some .non,oR a.length,oR l.length,B,none] b=.ok (.keys e) b:=by
  rw[cf]
  show srcOf b (.ref e)=_
  rw[xP (.inr x),set_same x]
 have b0:∃w,iv (cY 4) (.keys e) QQ fuel 0 [oR e,some .non,oR a.length,oR l.length,B,none] b=.nx [oR e,some .non,oR a.length,oR l.length,w,none] b:=by
  refine bE (R:=λr=>∃w,r=.nx [oR e,some .non,oR a.length,oR l.length,w,none] b) (q:=(nms m).map .str)
   (λi N y=>y=b/\∃w,N=[oR e,some .non,oR a.length,oR l.length,w,none]) ?_ ?_ ?_ fuel 0 _ _ (by unfold fuel;simp;omega) (Ë _) ⟨rfl,B,rfl⟩
  .rintro i N y ⟨rfl,_⟩
   rw[rK x,hr.keys]
  .rintro i d N y X ⟨rfl,w,rfl⟩
   obtain⟨n,C,rfl⟩:=fA X;refine⟨[oR e,some .non,oR a.length,oR l.length,oS n,none],rfl,?_⟩;have M0:=Gi (d:=n) (.inl L0)
   have:QQ [oR e,some .non,oR a.length,oR l.length,oS n,none] y=.nx [oR e,some .non,oR a.length,oR l.length,oS n,none] y:=by
    unfold QQ;rw[ai,dW]
    show sq (cb (dk (aF .In (.str n) (.ref l.length) y)) _) _=_
    rw[M0];rfl
   rw[this];exact⟨rfl,_,rfl⟩
  .rintro N y ⟨rfl,w,rfl⟩
   exact⟨w,rfl⟩
 obtain⟨w,e6⟩:=b0
 have q0:∀n∈nms m,∃j,(bX s (.inr n)).getD .non=.ref j/\u.length<=j/\b[j]?=some (.lst ((L n).map .str))/\bX s (.inr n)=oR j:=λn C=>by
  obtain⟨j,J,Y,h3⟩:=Z.at (n:=n) (by rw[aR];exact Q n C)
  rw[cD (Q n C)]at h3;exact⟨j,by rw[J];rfl,Y,h3,J⟩
 have r0:bg (aa 0) [oR e,some .non,oR a.length,oR l.length,w,none] b=.ok (.keys e) b:=by
  rw[cf]
  show srcOf b (.ref e)=_
  rw[xP (.inr x),set_same x]
 obtain⟨q,s0,e7,g7,K7,lq⟩:=vx (t:=[oR e,some .non,oR a.length,oR l.length,w,none]) (p:=mN kD (ae (aa 0) (ae (m2 aK (aa 1) (aa 0)) ag))) (L:=[2]) (g:=nms m) (f:=λn=>(bX s (.inr n)).getD .non) r0 (by rw[rK x,hr.keys]) (λn C=>by
  obtain⟨j,J,_,_,h4⟩:=q0 n C;have R0:=et (d:=n) (.inl h5) h4
  show(((aK (.ref a.length) (.str n) b).bind _).bind _).bind _=_
  rw[R0]
  show kD [.str n,.ref j] b=_
  rw[rG,if_pos (aW (by simp)),J]) (by omega) G.nd
 have t0:af [] a b:=⟨by have:=H.len;have:=K5.len;omega,λk c hk _=>K5.get k c (C0.get k c (H.get k c hk (by simp)) (by simp)) (by have:=bb hk;simp;omega)⟩
 refine⟨q,_,s0,?_,g7,?_,K1.trans (er.up (t0.trans K7)),K7.get _ _ x (by simp),by have:=t0.len;omega⟩
 .unfold QR
  have r1:(aE 1 (mN (aQ E) (ae (aa 0) ag))) [oR e,none,none,none,none,none] Ω=.nx [oR e,some .non,none,none,none,none] a:=by simp[e1]
  have S0:(dY (m2 (aF .IsNot) (aa 1) (ah .non)) ω aq) [oR e,some .non,none,none,none,none] a=.nx [oR e,some .non,none,none,none,none] a:=by simp
  rw[ai,r1,aH,ai,S0,aH,ai,r2,aH,ai,r3,aH,ai,cq,l0,cx,e5,aH,ai,cq,p0,cx,e6,aH,ai,ff];have T0:XY [oR e,some .non,oR a.length,oR l.length,w,none] b=.ok (.ref q) s0:=e7;rw[T0];rfl
 .refine CD λn C=>?_
  obtain⟨j,J,Y,h3,_⟩:=q0 n C;exact⟨j,J,by have:=H.len;omega,K7.get _ _ h3 (by simp)⟩
def Gn(x:Str):=1<=x.length/\x.length<=8/\∀c∈x.cps.toList,97<=c/\c<=122
theorem JS:∀c,97<=c->c<=122->wm (bS c) "abcdefghijklmnopqrstuvwxyz"=true:=by
 have:∀i,i<26->wm (bS (97+i)) "abcdefghijklmnopqrstuvwxyz"=true:=by decide +kernel
 intro c a b;have:=this (c - 97) (by omega)
 simp_all
def inC:=(bB (m2 (aF .In) (aa 0) (ah (.str "abcdefghijklmnopqrstuvwxyz"))) true (ah .non) (bg (aa 0)) 0 [])
def QS:=
 (ak (dY (eN (m1 (fx .str) (aa 0)))
 (ak (bU (ah (.bl false)))
 aq)
 aq)
 (ak (bU (ij (nB .LtE .LtE (ah (.int 1)) (mN (aN .len) (ae (aa 0) ag)) (ah (.int 8))) (mN (aN .all) (ae inC ag))))
 aq))
def JT(c:aU):=∀b x,Gn x->∃a,c [.str x] b=.ok (.bl true) a/\af [] b a
theorem NZ:JT (bN 1 1 QS):=by
 intro e x i;obtain⟨q,j,f⟩:=i;rw[ba (by rfl)]
 have k:aZ 1 [D.str x]=[oS x]:=rfl;rw[k]
 have g:=du (t:=[oS x]) (p:=m2 (aF .In) (aa 0) (ah (.str "abcdefghijklmnopqrstuvwxyz"))) (X:=ah .non) (v:=true) (B1:=bg (aa 0)) (L:=[]) (Q6:=λd=>.bl true) rfl rfl (λd _=>rfl) (λd l _=>by
  obtain⟨c,h,rfl⟩:=ë.mp l;have:=JS c (f c h).1 (f c h).2
  show aF .In (.str (bS c)) (.str _) e=_
  simp[inD,this]) (by
  have:x.cps.toList.length=x.length:=by rfl
  grind)
 have r:((x.cps.toList.map λc=>D.str (bS c)).filter λ_=>true).map (λ_=>D.bl true)=(x.cps.toList.map λ_=>true).map .bl:=by
  rw[ı.mpr (λ_ _=>rfl),à,à]
  rfl
 have g:inC [oS x] e=.ok _ _:=g;have s:=mI (a:=e++[.lst ((x.cps.toList.map λ_=>true).map .bl)]) aj
 refine⟨e++[.lst ((x.cps.toList.map λ_=>true).map .bl)],?_,af.app⟩
 have m:(mN (aN .all) (ae inC ag)) [oS x] e=.ok (.bl true) (e++[.lst ((x.cps.toList.map λ_=>true).map .bl)]):=by
  simp_all
 have n:(nB .LtE .LtE (ah (.int 1)) (mN (aN .len) (ae (aa 0) ag)) (ah (.int 8))) [oS x] e=.ok (.bl true) e:=by
  have u:aN .len [.str x] e=.ok (.int x.length) e:=by
   show q7 .len [.str x] e=_
   unfold q7;simp[aW (b:=x.length) (cO j)]
  have w:cV .LtE (.int 1) (.int x.length) e=.ok (.bl true) e:=by
   have:decide ((1:Int)<=x.length)=true:=by simp;omega
   simp_all
  have y:cV .LtE (.int x.length) (.int 8) e=.ok (.bl true) e:=by
   have:decide ((x.length:Int)<=8)=true:=by simp;omega
   simp_all
  unfold nB
  simp_all
 have o:(dY (eN (m1 (fx .str) (aa 0))) (ak (bU (ah (.bl false))) aq) aq) [oS x] e=.nx [oS x] e:=by rfl
 unfold QS;rw[ai,o,aH,ai,ff,jW,n,au,cX,pR,m];rfl
def bR(P:Nat->Prop)(a)(h:Nat)(E)(L:Str->List Str):=
 ∃e l b c,a[h]?=some (.ins "House" [("elders",.ref e),("lines",.ref l)])/\bu a e b/\aD P a b E/\bu a l c/\aD P a c (aY (nms E) L)
theorem bR.keep{c aA h E P L}(H:bR P c h E L)(K:af [] c aA):bR P aA h E L:=by
 refine bc H λe l a b d f g i j=>⟨e,l,a,b,K.get _ _ d (by simp),f.keep K (by simp),g.keep K (by simp),i.keep K (by simp),j.keep K (by simp)⟩
theorem bR.imp{a h E P P' L}(H:bR P a h E L)(b:∀j,P j->P' j):bR P' a h E L:=by
 refine bc H λe l c d f g i k m=>⟨e,l,_,_,f,g,i.imp b,k,m.imp b⟩
theorem bR.lt{a h E P L}(H:bR P a h E L):bR (λj=>P j/\j<a.length) a h E L:=by
 refine bc H λe l b c d f g i k=>⟨e,l,_,_,d,f,g.lt,i,k.lt⟩
theorem bR.CG(H:bR ς a s w ζ)(K:af [b] a T)(c:a[b]?=some (.lst q))(o:¬ ς b):bR ς T s w ζ:=by
 refine bc H λe l i k d f m g n=>?_
 have h:∀j∈[b],¬ ς j:=λj p=>by simp_all
 exact⟨e,l,_,_,K.get _ _ d (by simpa using (λz=>by rw[z,c]at d;cases d)),f.keep K (by simpa using (λz=>f.nl _ (z▸c))),m.keep K h,g.keep K (by simpa using (λz=>g.nl _ (z▸c))),n.keep K h⟩
theorem CH(H:aD ς a P (aY (nms w) ζ)):P.length=w.length:=by
 have:=H.len;simp[aY,nms]at this
 simp_all
def fe:=(m1 (fT ["House"] "elders") (aa 0))
def QT:=(m1 (fT ["House"] "lines") (aa 0))
variable{Ξ:Nat}
theorem nV(c:a[s]?=some (.ins "House" [("elders",.ref b),("lines",.ref Ξ)])):fT ["House"] "elders" (.ref s) a=.ok (.ref b) a:=xG c rfl rfl
theorem Ic(c:a[s]?=some (.ins "House" [("elders",.ref b),("lines",.ref Ξ)])):fT ["House"] "lines" (.ref s) a=.ok (.ref Ξ) a:=xG c rfl rfl
def QU:=(ak (bU (mN (aN .list) (ae fe ag))) aq)
def tY(c:aU):=∀b h E L P,bR P b h E L->∃k a,c [.ref h] b=.ok (.ref k) a/\a[k]?=some (.lst ((nms E).map .str))/\af [] b a/\b.length<=k
theorem N9:tY (bN 1 1 QU):=by
 intro a h E L P H;refine bc H λe l c d f g i j k=>?_
 rw[ba (by rfl)]
 have m:aZ 1 [D.ref h]=[oR h]:=rfl;have b:=kP g;rw[i.keys]at b;refine⟨_,a++[.lst _],?_,aj,af.app,W' _⟩
 have:(mN (aN .list) (ae fe ag)) [oR h] a=.ok (.ref a.length) (a++[.lst ((nms E).map .str)]):=by
  show(((fT _ _ _ a).bind _).bind _)=_
  rwa[nV f]
 unfold QU
 simp_all
variable{u0:AM}
theorem dv(H:bR ς a b w ζ)(i:t[s]?=some (oR b))(j:([("elders",D.ref 0),("lines",D.ref 0)]:List (Str×D)).lookup d=none):bA "House" d E (aa s) u0 t a=(u0 t a).bind λxs c=>pQ (E (.ref b::xs) c):=by
 refine bc H λe l f g h k m n o=>?_
 refine xH (by simp_all) h ?_
 simp_all
def QV(a):=
 (ak (dY (m2 (aF .NotIn) (aa 1) (bA "House" "kinds" a (aa 0) ag))
 (ak cT
 aq)
 aq)
 aq)
def vz(c:aU):=∀b h E L P n,bR P b h E L->n∈nms E->∃a,c [.ref h,.str n] b=.ok .non a/\af [] b a
theorem N_(e:tY E):vz (bN 2 2 (QV E)):=by
 intro c h a L P n H j;rw[ba (by rfl)]
 have l:aZ 2 [D.ref h,.str n]=[oR h,oS n]:=rfl;refine a8 (e c h a L P H) λk b f g m _=>?_
 have o:bA "House" "kinds" E (aa 0) ag [oR h,oS n] c=.ok (.ref k) b:=by
  rw[dv H rfl (by decide),bh,au,f,JE]
 have i:=iK (d:=n) g;unfold QV
 simp_all
def Ue(a):=(ak (cJ (bA "House" "check_kind" a (aa 0) (ae (aa 3) ag)))
 (ak (dY (m2 (aF .In) (aa 3) (cp (aa 1) true (ah .non) false (aa 2)))
 (ak cT
 aq)
 aq)
 aq))
def QW(a):=
 (ak (dY (m2 (aF .Gt) (mN (aN .len) (ae (aa 1) ag)) (ah (.int 5)))
 (ak cT
 aq)
 aq)
 (ak (dI (fy [2,3]) (tr (aa 1))
 (Ue a))
 aq))
def Gp(CE:aU):=∀c h a E L P (r:List Str),bR P c h E L->c[a]?=some (.lst (r.map .str))->r.Nodup->r.length<=5->(∀x∈r,x∈nms E)->∃b,CE [.ref h,.ref a] c=.ok .non b/\af [] c b
theorem JU(i:vz E)(H:bR ς a b w ζ)(j:a[s]?=some (.lst (g.map .str)))(k:g[Ξ]?=some d)(l:g.Nodup)(m:d∈nms w):
  ∃aA,Ue E [oR b,oR s,oI Ξ,oS d] a=.nx [oR b,oR s,oI Ξ,oS d] aA/\af [] a aA:=by
 obtain⟨c,t,h⟩:=i a b w ζ ς d H m
 have u:bA "House" "check_kind" E (aa 0) (ae (aa 3) ag) [oR b,oR s,oI Ξ,oS d] a=.ok .non c:=by
  rw[dv H rfl (by decide)]
  simp_all
 have n:=kO (s:=Ξ) (h.get _ _ j (by simp))
 have o:(c++[Cell.lst ((g.take Ξ).map .str)])[c.length]?=some _:=aj;have x:af [] a (c++[Cell.lst ((g.take Ξ).map .str)]):=h.trans af.app;have p:=iw (d:=d) o
 have q:d∉g.take Ξ:=by
  intro r;obtain⟨y,e⟩:=è.mp r;have f:=(Ç.mp e).1;rw[ý]at f;rw[Ż (U' f (aav _ _))]at e;have:=(ņ (mK e) l).mp (e.trans k.symm);exact Ò _ (Ø (R' this.symm) (U' f (aav _ _)))
 unfold Ue
 simp_all
theorem Oa(s:vz E):Gp (bN 4 2 (QW E)):=by
 intro b h a j L P r H g t u w;rw[ba (by rfl)]
 have y:aZ 4 [D.ref h,.ref a]=[oR h,oR a,none,none]:=rfl;rw[y]
 have z:(dY (m2 (aF .Gt) (mN (aN .len) (ae (aa 1) ag)) (ah (.int 5))) (ak cT aq) aq) [oR h,oR a,none,none] b=.nx [oR h,oR a,none,none] b:=by
  have e:=eo g;rw[Í]at e;rw[dW,dj];have:(mN (aN .len) (ae (aa 1) ag)) [oR h,oR a,none,none] b=.ok _ b:=e;rw[this,au,xv,au]
  have:aF .Gt (.int r.length) (.int 5) b=.ok (.bl false) b:=by
   simp;omega
  rw[this];rfl
 have k:tr (aa 1) [oR h,oR a,none,none] b=.ok (.Qd (.ref a)) b:=by
  unfold tr;simp[av g]
 unfold QW;rw[ai,z,aH,ai,cq,k]
 refine bE (R:=λr=>∃f,fb (sq r _)=.ok _ f/\af [] b f) (q:=eX 0 (r.map .str))
  (λi l c=>∃n o,l=[oR h,oR a,n,o]/\af [] b c) ?_ ?_ ?_ _ 0 _ _ (by rw[jH];unfold fuel;simp;exact oi u) (Ë _) ⟨_,_,rfl,af.refl⟩
 .rintro i l c ⟨_,_,_,K⟩
  show(ig _ (.ref a)).map _=_
  rw[ax,av (K.get _ _ g (by simp))];rfl
 .rintro i d l c A ⟨n,o,rfl,K⟩
  obtain⟨G,m,rfl⟩:=mu _ 0 i d A;obtain⟨x,p,rfl⟩:=fA m;rw[adC];refine⟨[oR h,oR a,oI i,oS x],rfl,?_⟩;obtain⟨B,C,F⟩:=JU s (H.keep K) (K.get _ _ g (by simp)) p t (w x (Î p))
  rw[C];exact⟨_,_,rfl,K.trans F⟩
 .simp
def QX(a):=
 (ak (cJ (bA "House" "check_kind" a (aa 0) (ae (aa 1) ag)))
 (ak (bU (mN (aN .list) (ae (m2 aK QT (aa 1)) ag)))
 aq))
def Gq(c:aU):=∀b h E L P n,bR P b h E L->n∈nms E->∃k a,c [.ref h,.str n] b=.ok (.ref k) a/\a[k]?=some (.lst ((L n).map .str))/\af [] b a/\b.length<=k
theorem Ob(k:vz E):Gq (bN 2 2 (QX E)):=by
 intro g h b L P n H c;rw[ba (by rfl)]
 have m:aZ 2 [D.ref h,.str n]=[oR h,oS n]:=rfl;rw[m];refine bD (k g h b L P n H c) λa u d=>?_
 have w:bA "House" "check_kind" E (aa 0) (ae (aa 1) ag) [oR h,oS n] g=.ok .non a:=by
  rw[dv H rfl (by decide)]
  simp_all
 refine bc (H.keep d) λe l o p q x y r s=>?_
 refine br (s.at (n:=n) (by rw[aR];exact c)) λj t _ i=>?_
 rw[cD c]at i;have f:=cA i;refine⟨a.length,a++[.lst _],?_,aj,d.trans af.app,d.len⟩
 have:(mN (aN .list) (ae (m2 aK QT (aa 1)) ag)) [oR h,oS n] a=.ok (.ref a.length) (a++[.lst ((L n).map .str)]):=by
  show((((fT ["House"] "lines" (.ref h) a).bind _).bind _).bind _)=_
  rw[Ic q,au]
  show(((aK (.ref l) (.str n) a).bind _).bind _)=_
  rw[et r t];exact f
 unfold QX
 simp_all
variable{X:EM}{u6:List (Str×D)}
theorem iL(c:X t a=.ok m T)(e:p t T=.ok (.ref b) T)(f:T[b]?=some (.ins "House" u6))(g:u6.length<1000):eP ["House"] d p X t a=.nx t (T.set b (.ins "House" (tE d m u6))):=by
 unfold eP;rw[c,cx,e,cx,rE f]
 simp_all
def Oc:=
 (ak (eP ["House"] "elders" (aa 0) bC)
 (ak (eP ["House"] "lines" (aa 0) bC)
 aq))
def CI(c):=∀b L P,∃a,nI "House" c [] b=.ok (.ref b.length) a/\bR P a b.length [] L/\af [] b a
theorem Od:CI (bN 1 1 Oc):=by
 intro c L P;have j:(c++[Cell.ins "House" []])[c.length]?=some _:=aj;have k:af [] c (c++[Cell.ins "House" []]):=af.app;have l:(c++[Cell.ins "House" []]).length=c.length+1:=by simp
 unfold nI;generalize c++[Cell.ins _ []]=a at *;rw[ba (by rfl)]
 have m:aZ 1 [D.ref _]=[oR c.length]:=rfl;rw[m];have f:(a++[Cell.dK []])[c.length]?=some _:=cu j;have r:eP _ _ (aa 0) bC _ _=.nx [oR _] ((a++[Cell.dK []]).set _ (.ins _ [("elders",.ref _)])):=iL rfl rfl f (by simp)
 have g:=aT (e:=.ins "House" [("elders",.ref a.length)]) f;have n:af [c.length] _ ((a++[Cell.dK []]).set c.length (.ins "House" [("elders",.ref a.length)])):=af.app.trans (af.set (by simp))
 have o:((a++[Cell.dK []]).set c.length (.ins "House" [("elders",.ref a.length)]))[a.length]?=some _:=cB aj (Ö (R' l.symm));have s:((a++[Cell.dK []]).set c.length (.ins "House" [("elders",.ref a.length)])).length=a.length+1:=by simp
 generalize (a++[Cell.dK []]).set _ _=b at *;have h:(b++[Cell.dK []])[c.length]?=some _:=cu g;have t:eP _ "lines" (aa 0) bC _ _=.nx [oR _] ((b++[Cell.dK []]).set _ (.ins _ [("elders",.ref _),("lines",.ref _)])):=iL rfl rfl h (by simp)
 have p:=aT (e:=.ins "House" [("elders",.ref a.length),("lines",.ref b.length)]) h;have i:af [c.length] _ ((b++[Cell.dK []]).set c.length (.ins "House" [("elders",.ref a.length),("lines",.ref b.length)])):=af.app.trans (af.set (by simp))
 have q:((b++[Cell.dK []]).set c.length (.ins "House" [("elders",.ref a.length),("lines",.ref b.length)]))[b.length]?=some _:=cB aj (Ö (mK g));generalize (b++[Cell.dK []]).set _ _=d at *;refine⟨_,?_,⟨_,_,[],[],p,.inl (i.get _ _ o (by simp_all)),.nil,.inl q,.nil⟩,af.new k (n.trans i) (by simp)⟩
 have:fb (Oc [oR c.length] a)=.ok .non d:=by
  unfold Oc
  simp_all
 rw[this]
def Oe(a:aU):=
 (ak (aE 2 (mN a (ae (aa 1) ag)))
 (ak (eP ["House"] "elders" (aa 0) (aa 1))
 (ak (eP ["House"] "lines" (aa 0) (aa 2))
 aq)))
def xQ(d:aU):=∀b h e f g c E P L,b[h]?=some (.ins "House" [("elders",.ref f),("lines",.ref g)])->bu b e c->aD P b c E->Gd E->NW E L->(∀n∈nms E,(L n).length<=900)->(∀j,b.length<=j->P j) ->
 ∃a,d [.ref h,.ref e] b=.ok .non a/\bR P a h E L/\af [h,e] b a
theorem Of(I:CF E):xQ (bN 3 2 (Oe E)):=by
 intro A h e J i f d P L B n C G K o M;rw[ba (by rfl)]
 have N:aZ 3 [D.ref h,.ref e]=[oR h,oR e,none]:=rfl;rw[N];obtain⟨l,p,a,O,q,r,s,t,Y⟩:=I A e f d P L n C G K o;have g:h≠e:=λz=>n.ni _ _ (z▸B)
 have k:=s.get _ _ B (by simpa using g)
 have u:=C.cy s (λj w m=>by rw[Ã.mp w];exact n.nl m)
 have x:l≠h:=λz=>by rw[z,k]at q;cases q
 have Q:eP ["House"] "elders" (aa 0) (aa 1) [oR h,oR e,oR l] a=.nx [oR h,oR e,oR l] (a.set h (.ins "House" [("elders",.ref e),("lines",.ref i)])):=iL (T:=a) rfl rfl k (by simp)
 have F:=aT (e:=.ins "House" [("elders",.ref e),("lines",.ref i)]) k;have R:af [h] a (a.set h (.ins "House" [("elders",.ref e),("lines",.ref i)])):=af.set (by simp)
 generalize a.set h (.ins "House" [("elders",.ref e),("lines",.ref i)])=b at *;have S:eP ["House"] "lines" (aa 0) (aa 2) [oR h,oR e,oR l] b=.nx [oR h,oR e,oR l] (b.set h (.ins "House" [("elders",.ref e),("lines",.ref l)])):=iL (T:=b) rfl rfl F (by simp)
 have U:=aT (e:=.ins "House" [("elders",.ref e),("lines",.ref l)]) F;have V:af [h] b (b.set h (.ins "House" [("elders",.ref e),("lines",.ref l)])):=af.set (by simp)
 generalize b.set h (.ins "House" [("elders",.ref e),("lines",.ref l)])=y at *;have c:=R.trans V;have H:∀j∈[h],∀m,a[j]?≠some (.lst m):=λj w m=>by rw[Ã.mp w,k];simp
 refine⟨y,?_,⟨e,l,f,p,U,.inr (c.get _ _ t (by simpa using Ê g)),u.cy c H,.inl (c.get _ _ q (by simpa using x)),(r.imp M).cy c H⟩,(s.sub (by simp)).trans (c.sub (by simp))⟩
 unfold Oe;have X:(aE 2 (mN E (ae (aa 1) ag))) [oR h,oR e,none] A=.nx [oR h,oR e,oR l] a:=by simp[O]
 rw[ai,X,aH,ai,Q,aH,ai,S];rfl
def Og:=(mN kD (ae (aa 0) (ae (HR (m2 (aF .Eq) (aa 0) (aa 2)) (mN (aN .list) (ae (aa 1) ag)) (m2 aK (m1 (fT ["House"] "elders") (aa 3)) (aa 0))) ag)))
def Ug:=(mN gi (ae (bB Og true (ah .non) (bg (aa 4)) 0 [2,1,0]) ag))
def Uh:=(d_ kF iE (aa 4) (ae (HR (m2 (aF .Is) (aa 3) (ah .non)) (mN (aN .len) (ae (aa 4) ag)) (aa 3)) (ae (aa 1) ag)))
def QY(a CE b c):=
 (ak (dY (eN (mN (aQ a) (ae (aa 1) ag)))
 (ak cT
 aq)
 aq)
 (ak (dY (m2 (aF .In) (aa 1) fe)
 (ak cT
 aq)
 aq)
 (ak (dY (m2 (aF .GtE) (mN (aN .len) (ae fe ag)) (ah (.int 12)))
 (ak cT
 aq)
 aq)
 (ak (cJ (bA "House" "check_elders" CE (aa 0) (ae (aa 2) ag)))
 (ak (aE 4 (bA "House" "kinds" b (aa 0) ag))
 (ak (cJ Uh)
 (ak (cJ (bA "House" "settle" c (aa 0) (ae Ug ag)))
 aq)))))))
theorem CJ{a xs}{x:a}:qH xs xs.length x=xs++[x]:=by
 have:HT.jC xs.length 0 (some (xs.length))=xs.length:=by
  unfold HT.jC;simp
  grind
 unfold qH
 simp_all
theorem JV(H:bR ς a b w ζ)(Y:a[s]?=some (.lst (g.map .str)))(hk:a[Ξ]?=some (.lst ((nms w++[d]).map .str)))(hn:d∉nms w)(M:(nms w).Nodup)(hl:w.length<=100)(hP:∀j,a.length<=j->ς j):
  ∃q A aA,Ug [oR b,oS d,oR s,d0,oR Ξ] a=.ok (.ref q) aA/\aA[q]?=some (.dK A)/\aD ς aA A (w++[(d,g)])/\af [] a aA/\a.length<=q:=by
 have Z:bg (aa 4) [oR b,oS d,oR s,d0,oR Ξ] a=.ok (.seq (.ref Ξ)) a:=by
  rw[cf];exact aM (by rw[ax,av hk])
 have a0:nms (w++[(d,g)])=nms w++[d]:=by simp[nms]
 refine cW (mG (t:=[oR b,oS d,oR s,d0,oR Ξ]) (p:=Og) (X:=ah .non) (L:=[2,1,0]) (q:=(nms w++[d]).map .str) (λi B c=>∃k:List (Str×D),B=k.map (λp=>.tup [.str p.1,p.2])/\aD ς c (k.map λp=>(.inr p.1,p.2)) ((w++[(d,g)]).take i)/\af [] a c) Z ⟨[],rfl,.nil,af.refl⟩
  (λi B c b=>by
   obtain⟨_,_,_,K⟩:=b;rw[bw,ax,av (K.get _ _ hk (by simp))])
  (λi b0 B c c0 hI=>by
   obtain⟨k,rfl,N,K⟩:=hI;obtain⟨x,O,rfl⟩:=fA c0;obtain⟨e,l,A,p0,q1,q2,q3,q4,q5⟩:=H.keep K;have e0:=K.get _ _ Y (by simp)
   show ∃y aA,Og [oS x,oR s,oS d,oR b] c=.ok y aA/\_
   have P:∀(p:Str×List Str) (j:Nat) (o:aG),(w++[(d,g)])[i]?=some p->p.1=x->ς j->o[j]?=some (.lst (p.2.map .str))->af [] c o->∃m:List (Str×D),(k.map (λp=>D.tup [.str p.1,p.2])++[.tup [.str x,.ref j]])=m.map (λp=>.tup [.str p.1,p.2])/\aD ς o (m.map λp=>(.inr p.1,p.2)) ((w++[(d,g)]).take (i+1))/\af [] a o:=by
    intro p j o hp C E T K3;refine⟨k++[(x,.ref j)],by simp,?_,K.trans K3⟩
    rw[é,hp,ì];exact aI.append (N.keep K3 (by simp)) (.cons ⟨by rw[C],j,rfl,E,T⟩ .nil)
   have U:(m2 (aF .Eq) (aa 0) (aa 2)) [oS x,oR s,oS d,oR b] c=.ok (.bl (decide (x=d))) c:=by
    rfl
   have hi:=(Ç.mp O).1;rw[ϕ]at hi;simp only[nms,Í,List.length_singleton]at hi
   by_cases F:i<w.length
   .have u:(nms w)[i]?=some x:=by rw[ã (by simp[nms];exact F)]at O;exact O
    have G:x∈nms w:=Î u;have I:x≠d:=λz=>hn (z▸G)
    rw[decide_eq_false I]at U;have hp:(w++[(d,g)])[i]?=some w[i]:=by rw[ã F];simp
    have C:w[i].1=x:=by
     simp[nms,F]at u;exact u
    have Q:aL w x=w[i].2:=by
     have hm:(x,aL w x)∈w:=rL (jr G);obtain⟨i',R⟩:=è.mp hm;have e1:(nms w)[i']?=some x:=by simp[nms,R]
     have g0:=(Ç.mp R).1;have:=(ņ (by simp[nms];exact g0) M).mp (e1.trans u.symm)
     simp_all
    obtain⟨j,hv,E,T⟩:=q3.at G;rw[Q]at T;obtain⟨m,z1,z2,z3⟩:=P w[i] j c hp C E T af.refl;refine⟨.tup [.str x,.ref j],c,?_,m,z1,z2,z3⟩
    have J:(m2 aK (m1 (fT ["House"] "elders") (aa 3)) (aa 0)) [oS x,oR s,oS d,oR b] c=.ok (.ref j) c:=by
     show((fT ["House"] "elders" (.ref b) c).bind _)=_
     rw[nV q1,au];exact et q2 hv
    unfold Og;rw[dJ,a5];have:aa 0 [oS x,oR s,oS d,oR b] c=.ok (.str x) c:=rfl;rw[this,au,a5,vq,U,eG,cX,fN,au,if_neg (by simp),J,au,bh,au,au,au,rG,if_pos (aW (by simp))]
   .have h0:i=w.length:=by omega
    subst h0
    have I:x=d:=by
     simp[nms]at O;exact O.symm
    subst I;rw[decide_eq_true rfl]at U;have i0:=cA e0;obtain⟨m,z1,z2,z3⟩:=P (x,g) c.length (c++[.lst (g.map .str)]) (by simp) rfl (hP _ K.len) aj af.app
    refine⟨.tup [.str x,.ref c.length],c++[.lst (g.map .str)],?_,m,z1,z2,z3⟩;have J:(mN (aN .list) (ae (aa 1) ag)) [oS x,oR s,oS x,oR b] c=.ok (.ref c.length) (c++[.lst (g.map .str)]):=i0;unfold Og;rw[dJ,a5];have:aa 0 [oS x,oR s,oS x,oR b] c=.ok (.str x) c:=rfl;rw[this,au,a5,vq,U,eG,cX,fN,au,if_pos rfl,J,au,bh,au,au,au,rG,if_pos (aW (by simp))]) (by simp[nms];exact cO hl)) λys n e1 j0=>br j0 λk l0 N K1=>?_;subst l0
 have S:((nms w++[d]).map D.str).length=(w++[(d,g)]).length:=by simp[nms]
 rw[S,û]at N
 have m0:k.map (·.1)=nms w++[d]:=by
  have:=N.keys;rw[a0,à]at this
  have V:(k.map (D.str ∘ (·.1)))=(nms w++[d]).map D.str:=by
   rw[←this];rfl
  rw[←à]at V;exact(abF (λs r z=>by cases z;rfl)).mp V
 have g2:(n++[Cell.lst (k.map λp=>.tup [.str p.1,p.2])])[n.length]?=some (.lst (k.map λp=>.tup [.str p.1,p.2])):=aj
 have K2:af [] a (n++[Cell.lst (k.map λp=>.tup [.str p.1,p.2])]):=K1.trans af.app
 have V:aD ς (n++[Cell.lst (k.map λp=>.tup [.str p.1,p.2])]) (k.map λp=>(.inr p.1,p.2)) (w++[(d,g)]):=N.keep (fp:=[]) af.app (by simp)
 generalize n++[Cell.lst (k.map λp=>.tup [.str p.1,p.2])]=c at *
 have hf:=kR (k.map λp=>((.inr p.1:Key),p.2)) [] (by
  rw[aah,à];have:(k.map ((λp:Key×D=>p.1) ∘ λp=>((.inr p.1:Key),p.2)))=(k.map (·.1)).map Ě:=by rw[à];rfl
  rw[this,m0];have n0:(nms w++[d]).Nodup:=Ę.mpr ⟨M,by simp,λs Y r hb z=>hn (by rw[←Ã.mp hb,←z];exact Y)⟩
  exact afo _ (λs r o0 z=>o0 (by cases z;rfl)) n0)
 rw[aah]at hf;refine⟨c.length,_,c++[.dK (k.map λp=>(.inr p.1,p.2))],?_,aj,V.keep (fp:=[]) af.app (by simp),K2.trans af.app,K2.len⟩
 unfold Ug;rw[dJ,a5,e1,au,bh,au,au]
 show jj (lH [.ref n.length] c) _=_
 simp only[lH,av g2,(kL (f:=tp) (g:=λp:Str×D=>D.tup [.str p.1,p.2]) (h:=λp=>(.inr p.1,p.2)) (λd=>rfl) k),hf]
 rfl
def Gr(e:aU):=∀c h a E L d P n r,bR P c h E L->c[a]?=some (.lst (r.map .str))->Gn n->n∉nms E->E.length<12->r.Nodup->r.length<=5->(∀x∈r,x∈nms E) ->
 Gd (E++[(n,r)])->NW (E++[(n,r)]) d->(∀m∈nms (E++[(n,r)]),(d m).length<=900)->(∀j,c.length<=j->P j)->∃b,e [.ref h,.str n,.ref a,.non] c=.ok .non b/\bR P b h (E++[(n,r)]) d/\af [h] c b
theorem Oh(hI:JT E)(hC:Gp J0)(hK:tY n5)(hS:xQ M5):Gr (bN 5 4 (QY E J0 n5 M5)):=by
 intro C h a b L L' P n r H M hv hn F N O Q G R S hP;rw[ba (by rfl)]
 have e0:aZ 5 [D.ref h,.str n,.ref a,.non]=[oR h,oS n,oR a,some .non,none]:=rfl;rw[e0];have U:nms (b++[(n,r)])=nms b++[n]:=by simp[nms]
 refine bD (hI C n hv) λf e1 w=>?_
 have r1:(dY (eN (mN (aQ E) (ae (aa 1) ag))) (ak cT aq) aq) [oR h,oS n,oR a,some .non,none] C=.nx [oR h,oS n,oR a,some .non,none] f:=by simp[e1]
 have x:=H.keep w
 have r2:(dY (m2 (aF .In) (aa 1) fe) (ak cT aq) aq) [oR h,oS n,oR a,some .non,none] f=.nx [oR h,oS n,oR a,some .non,none] f:=by
  refine bc x λe l i V y I J q4 q5=>?_
  have z:=Gi (d:=n) I;rw[J.is,decide_eq_false hn]at z;rw[dW,dj]
  show cb (dk ((fT ["House"] "elders" (.ref h) f).bind _)) _=_
  rw[nV y,au,z];rfl
 have r3:(dY (m2 (aF .GtE) (mN (aN .len) (ae fe ag)) (ah (.int 12))) (ak cT aq) aq) [oR h,oS n,oR a,some .non,none] f=.nx [oR h,oS n,oR a,some .non,none] f:=by
  refine bc x λe l i V y I J q4 q5=>?_
  have A:=Ib I;have X:=J.len
  have Y:(mN (aN .len) (ae fe ag)) [oR h,oS n,oR a,some .non,none] f=.ok (.int i.length) f:=by
   show(((fT ["House"] "elders" (.ref h) f).bind _).bind _)=_
   rw[nV y,au];exact A
  have hc:aF .GtE (.int i.length) (.int 12) f=.ok (.bl false) f:=by
   simp;exact Sr (Ø (R' X.symm) F)
  rw[dW,dj,Y,au,xv,au,hc];rfl
 refine bD (hC f h a b L P r x (w.get _ _ M (by simp)) N O Q) λp e2 K=>?_
 have r4:(cJ (bA "House" "check_elders" J0 (aa 0) (ae (aa 2) ag))) [oR h,oS n,oR a,some .non,none] f=.nx [oR h,oS n,oR a,some .non,none] p:=by
  rw[bW,dv x rfl (by decide)]
  simp_all
 have Z:=x.keep K;refine a8 (hK p h b L P Z) λk g e3 u K3 l3=>?_
 have r5:(aE 4 (bA "House" "kinds" n5 (aa 0) ag)) [oR h,oS n,oR a,some .non,none] p=.nx [oR h,oS n,oR a,some .non,oR k] g:=by
  rw[bj,dv Z rfl (by decide),bh,au,e3]
  rfl
 have H3:bR (λj=>P j/\j≠k) g h b L:=(Z.lt.keep K3).imp λj o=>⟨o.1,O' (U' o.2 l3)⟩
 have B:=(w.trans K).trans K3;have a0:=B.get _ _ M (by simp)
 have b0:a≠k:=by have:=bb (K.get _ _ (w.get _ _ M (by simp)) (by simp));exact O' (U' this l3)
 have r6:(cJ Uh) [oR h,oS n,oR a,some .non,oR k] g=.nx [oR h,oS n,oR a,some .non,oR k] (g.set k (.lst ((nms b++[n]).map .str))):=by
  have R:=dz u;have A:=eo u
  have n0:iE (.ref k) [.int ((nms b).map D.str).length,.str n] g=.ok .non (g.set k (.lst ((nms b++[n]).map .str))):=by
   simp only[iE,iJ u];rw[if_pos,CJ]
   .simp
   .rw[aW (by simp[nms];exact Mc F),eE (ę _) (by simp[nms];exact Sr F)];rfl
  unfold Uh;rw[bW,eA (m:=.ref k) (T:=g) rfl R]
  simp_all
 have K4:af [k] g (g.set k (.lst ((nms b++[n]).map .str))):=af.set (by simp)
 have g4:=aT (e:=.lst ((nms b++[n]).map .str)) u;have H4:=(H3.CG K4 u (by simp)).imp λj o=>o.1
 have c0:=K4.get _ _ a0 (by simpa using b0)
 have lk:=bb u;generalize g.set k _=g0 at *
 have s:af [] C g0:=af.new B K4 (λj o=>by
  rw[Ã.mp o];have:=(w.trans K).len;exact B' this l3)
 refine eg (JV (d0:=some .non) H4 c0 g4 hn (by
  have:=G.nd;rw[U]at this;exact(Ę.mp this).1) (Mc F) (λj o=>hP j (B' s.len o))) λq i h0 e5 g5 h5 K5 l5=>?_
 refine bc (H4.keep K5) λe l l0 m0 y I J q4 q5=>?_
 have t:=s.trans K5;refine br (hS h0 h q e l i (b++[(n,r)]) P L' y (.inl g5) h5 G R S (λj o=>hP j (B' t.len o))) λi0 e6 H6 K6=>?_
 have lq:C.length<=q:=B' s.len l5;refine⟨i0,?_,H6,⟨B' t.len K6.len,λk' c j0 o0=>K6.get k' c (t.get k' c j0 (by simp)) ?_⟩⟩
 .unfold QY
  rw[ai,r1,aH,ai,r2,aH,ai,r3,aH,ai,r4,aH,ai,r5,aH,ai,r6,aH,ai,bW,dv H4 rfl (by decide),a5,e5,au,bh,au,au,e6]
  rfl
 grind
def QZ(a):=
 (ak (aE 1 (mN (nI "House" a) ag))
 (ak (eP ["House"] "elders" (aa 1) (mN gi (ae fe ag)))
 (ak (eP ["House"] "lines" (aa 1) (mN gi (ae QT ag)))
 (ak (bU (aa 1))
 aq))))
def Gs(c:aU):=∀b h E L P,bR P b h E L->∃k a,c [.ref h] b=.ok (.ref k) a/\bR P a k E L/\af [] b a/\b.length<=k
theorem Oi(G:CI E):Gs (bN 2 1 (QZ E)):=by
 intro c h r L P H;rw[ba (by rfl)]
 have U:aZ 2 [D.ref h]=[oR h,none]:=rfl;refine br (G c L P) λa V I A=>?_
 refine bc (H.keep A) λe l d f B J K C M=>?_
 refine bc I λX i _ _ p _ _ _ _=>?_
 have N:h<c.length:=by
  refine fQ H λ_ _ _ _ z _=>?_
  exact bb z
 have s:af [] a (a++[Cell.dK d]):=af.app
 have Y:eP ["House"] "elders" (aa 1) (mN gi (ae fe ag)) [oR h,oR c.length] a=.nx [oR h,oR c.length] ((a++[Cell.dK d]).set c.length (.ins "House" [("elders",.ref a.length),("lines",.ref i)])):=by
  refine iL ?_ rfl (s.get _ _ p (by simp)) (by simp)
  show(((fT ["House"] "elders" (.ref h) a).bind _).bind _)=_
  rw[nV B,au];exact(rJ J)
 have k:af [c.length] a ((a++[Cell.dK d]).set c.length (.ins "House" [("elders",.ref a.length),("lines",.ref i)])):=(er.up s).trans (af.set (by simp))
 have F:=aT (e:=.ins "House" [("elders",.ref a.length),("lines",.ref i)]) (s.get _ _ p (by simp))
 have g:=bb p;have O:((a++[Cell.dK d]).set c.length (.ins "House" [("elders",.ref a.length),("lines",.ref i)]))[a.length]?=some (.dK d):=cB aj (Ö g);have Q:((a++[Cell.dK d]).set c.length (.ins "House" [("elders",.ref a.length),("lines",.ref i)])).length=a.length+1:=by simp
 generalize (a++[Cell.dK d]).set c.length _=b at *;have m:∀j∈[c.length],∀n,a[j]?≠some (.lst n):=λj R n=>by simp_all
 have t:=C.keep k (by simpa using (λz=>C.ni _ _ (z▸p)))
 have u:=K.cy k m;have w:=M.cy k m;have x:af [] b (b++[Cell.dK f]):=af.app
 have Z:eP ["House"] "lines" (aa 1) (mN gi (ae QT ag)) [oR h,oR c.length] b=.nx [oR h,oR c.length] ((b++[Cell.dK f]).set c.length (.ins "House" [("elders",.ref a.length),("lines",.ref b.length)])):=by
  refine iL ?_ rfl (x.get _ _ F (by simp)) (by simp)
  show(((fT ["House"] "lines" (.ref h) b).bind _).bind _)=_
  rw[Ic (k.get _ _ B (by simp;exact O' N)),au]
  exact(rJ t)
 have q:af [c.length] b ((b++[Cell.dK f]).set c.length (.ins "House" [("elders",.ref a.length),("lines",.ref b.length)])):=(er.up x).trans (af.set (by simp))
 have S:=aT (e:=.ins "House" [("elders",.ref a.length),("lines",.ref b.length)]) (x.get _ _ F (by simp))
 have T:((b++[Cell.dK f]).set c.length (.ins "House" [("elders",.ref a.length),("lines",.ref b.length)]))[b.length]?=some (.dK f):=cB aj (Ö (ā g (R' Q.symm)));generalize (b++[Cell.dK f]).set c.length _=y at *;have o:∀j∈[c.length],∀n,b[j]?≠some (.lst n):=λj R n=>by simp_all
 refine⟨c.length,y,?_,⟨a.length,b.length,d,f,S,.inl (q.get _ _ O (by simp;exact Ö g)),u.cy q o,.inl T,w.cy q o⟩,af.new A (k.trans q) (by simp),W' _⟩
 unfold QZ
 simp_all
noncomputable def ne(rs:List (List Str)):=rs.filter λr=>decide (r≠[])
variable{Z:List (List Str)}
theorem nW:g∈ne Z↔g∈Z/\g≠[]:=by unfold ne;simp
theorem zm:freeOf (ne Z) g=freeOf Z g:=by
 cases g with
 |nil=>rfl
 |cons m t=>
  by_cases h:∃r∈Z,m∈r.tail
  .obtain⟨r,a,b⟩:=h
   rw[dS ⟨r,a,b⟩,dS ⟨r,nW.mpr ⟨a,by grind⟩,b⟩]
  .rw[dU h,dU]
   rintro⟨r,a,b⟩;exact h ⟨r,(nW.mp a).1,b⟩
theorem Gu:free (ne Z)=free Z:=by
 have:∀b,(ne b).findSome? (freeOf (ne Z))=b.findSome? (freeOf Z):=by
  intro b
  induction b with
  |nil=>rfl
  |cons a b c=>
   by_cases d:a=[]
   .subst d
    have:ne ([]::b)=ne b:=by simp[ne]
    rw[this,c];rfl
   .have:ne (a::b)=a::ne b:=by simp[ne,d]
    rw[this,adF,adF,c,zm]
 exact this Z
theorem tZ(h:d∉g.tail):g.filter (λx=>decide (x≠d))=cI d g:=by
 unfold cI;cases g with
 |nil=>simp
 |cons a t=>
  have b:t.filter (λx=>decide (x≠d))=t:=ı.mpr (by grind)
  grind
theorem Gv:ne ((ne Z).map (cI d))=ne (Z.map (cI d)):=by
 unfold ne
 induction Z with
 |nil=>rfl
 |cons a Z b=>
  by_cases c:a=[]
  .subst c
   exact b
  grind
theorem zo(h:free Z=some d):∀r∈Z,d∉r.tail:=by
 obtain⟨b,e,a⟩:=abB h;cases b with
 |nil=>cases a
 |cons m t=>
  by_cases c:∃r∈Z,m∈r.tail
  .rw[dS c]at a;cases a
  .rw[dU c]at a
   simp_all
theorem pV(h:free Z=some d):∃t,(d::t)∈Z:=by
 obtain⟨b,e,a⟩:=abB h;cases b with
 |nil=>cases a
 |cons m t=>
  by_cases c:∃r∈Z,m∈r.tail
  .rw[dS c]at a;cases a
  .rw[dU c]at a
   grind
noncomputable def tl(rs:List (List Str)):=(rs.map ŗ).sum
theorem Gw(h:∃t,(d::t)∈Z):tl (Z.map (cI d))<tl Z:=by
 obtain⟨t,e⟩:=h
 have g:∀r,(cI d r).length<=r.length:=λr=>by
  unfold cI;split
  .simp
  .simp
 have f:∀b,tl (b.map (cI d))<=tl b:=by
  intro b
  induction b with
  |nil=>simp
  |cons a b c=>
   unfold tl at c ⊢
   grind
 induction Z with
 |nil=>simp at e
 |cons a Z c=>
  unfold tl at f c ⊢;simp only[ú,aas];rcases Õ.mp e with z|z
  .subst z
   have i:=f Z;have:(cI d (d::t)).length<(d::t).length:=by unfold cI;simp
   omega
  grind
variable{v:Bool}
theorem JW(I:Nat->List D->aG->Prop)(h:∀i a b,I i a b->ek N3 b=some q)(l:∀i d a b,q[i]?=some d->I i a b->(∃aA,gY v p ([some d]++t) b=.ok false aA/\I (i+1) a aA)\/∃c y aA,gY v p ([some d]++t) b=.ok true c/\X ([some d]++t) c=.ok y aA/\I (i+1) (a++[y]) aA):
  ∀f i a b,I i a b->q.length - i<f->i<=q.length->a.length+q.length<=100000+i->∃g aA,rg v p X 0 t N3 f i a b=.ok g aA/\I q.length g aA:=by
 intro f
 induction f with
 |zero=>simp
 |succ f m=>
  intro i a b j n o r;simp only[rg,h i _ b j]
  by_cases e:i<q.length
  .rw[(ä e)]
   have k:lV 0 q[i]=some _:=rfl;simp only[k];rw[if_pos (aW (by omega))]
   grind
  grind
theorem rM(I:Nat->List D->aG->Prop)(m:B1 t a=.ok N3 T)(h:I 0 [] T)(j:∀i b a,I i b a->ek N3 a=some q)(k:∀i d b a,q[i]?=some d->I i b a->(∃T,gY v X ([some d]++ed L t) a=.ok false T/\I (i+1) b T)\/∃e y T,gY v X ([some d]++ed L t) a=.ok true e/\p ([some d]++ed L t) e=.ok y T/\I (i+1) (b++[y]) T)(g:q.length<=90000):
  ∃f c,bB p v X B1 0 L t a=.ok (.ref c.length) (c++[.lst f])/\I q.length f c:=by
 refine cW (JW I j k fuel 0 [] _ h (by unfold fuel;exact oi (B' (õ _ _) g)) (Ë _) (by simp;exact cO g)) λf c n l=>?_
 refine⟨f,_,?_,l⟩;unfold bB
 simp_all
variable{B8:List Nat}
theorem pW{f m}{P:Nat->Prop}(E:B1 t a=.ok (.seq (.ref b)) a)(R:Rw a b L Z)(F:Z.length<=1000)(G:∀j g k,af [] a k->j∈L->g∈Z->k[j]?=some (.lst (g.map .str))->∃c,gY v X ([oR j]++ed B8 t) k=.ok (m g) c/\af [] k c)(H:∀j g k,af [] a k->j∈L->g∈Z->k[j]?=some (.lst (g.map .str))->∃r c,p ([oR j]++ed B8 t) k=.ok (.ref r) c/\af [] k c/\c[r]?=some (.lst ((f g).map .str))/\P r):
  ∃l c,bB p v X B1 0 B8 t a=.ok (.ref c.length) (c++[.lst (l.map .ref)])/\af [] a c/\kM c l ((Z.filter m).map f)/\∀j∈l,P j:=by
 have I:=R.len
 refine cW (rM (λi o c=>∃l,o=l.map .ref/\kM c l (((Z.take i).filter m).map f)/\af [] a c/\∀j∈l,P j) E ⟨[],rfl,.nil,af.refl,by simp⟩
  (λi o c h=>by
   obtain⟨_,_,_,K,_⟩:=h;rw[bw,ax,av (R.keep K).ce])
  (λi d o k J h=>by
   obtain⟨l,rfl,w,K,B⟩:=h;obtain⟨j,y,rfl⟩:=kN J;obtain⟨g,s,n⟩:=(R.keep K).al.at' y;obtain⟨c,C,q⟩:=G j g k K (Î y) (Î s) n;cases u:m g with
   |false=>
    refine .inl ⟨c,by rw[C,u],l,rfl,?_,K.trans q,B⟩
    rw[é,s];simp[u];exact w.keep q (by simp)
   |true=>
    obtain⟨r,z,e,D,M,Q⟩:=H j g c (K.trans q) (Î y) (Î s) (q.get _ _ n (by simp))
    refine .inr ⟨c,_,z,by rw[C,u],e,l++[r],by simp,?_,(K.trans q).trans D,?_⟩
    .rw[é,s,adG,ì]
     simp only[Option.toList_some,List.filter_cons,u,List.filter_nil,if_true,ú,abl];exact((w.keep q (by simp)).keep D (by simp)).snoc M
    .intro x N
     rcases æ.mp N with h|h
     .simp_all
     simp_all) (by simp;exact cO (B' (R' I.symm) F))) λS c e A=>eu A λl O w T B=>?_;grind
theorem ne_nil(d:t[s]?=some (oR b))(h:a[b]?=some (.lst (g.map .str))):∃aA,m2 (aF .NotEq) (aa s) (mN aV ag) t a=.ok (.bl (decide (g≠[]))) aA/\af [] a aA:=by
 refine⟨a++[.lst []],?_,af.app⟩;have e:(mN aV ag) t a=.ok (.ref a.length) (a++[.lst []]):=by rfl
 have c:(a++[Cell.lst []])[a.length]?=some (.lst (([]).map .str)):=aj;rw[dj,xu,d,FN,au,e,au,ka (cu h) c];simp
theorem Gx(d:t[s]?=some (oR b))(R:Rw a b L Z):∃aA,m2 (aF .NotEq) (aa s) (mN aV ag) t a=.ok (.bl (decide (Z≠[]))) aA/\af [] a aA:=by
 refine⟨a++[.lst []],?_,af.app⟩;have e:(mN aV ag) t a=.ok (.ref a.length) (a++[.lst []]):=by rfl
 have g:(a++[Cell.lst []])[a.length]?=some _:=aj;have c:=R.keep (aA:=a++[Cell.lst []]) af.app;have f:=nP (s:=6) c.ce c.al;have h:=nP (s:=6) g .nil
 simp_all
def Q_:=(ak (dI (cY 5) (bg (cp (aa 1) false (ah (.int 1)) true (ah .non)))
 (ak (ey (aa 4) (aa 5) (ah (.bl true)))
 aq))
 aq)
def Ui:=(bB (m2 aK (aa 0) (ah (.int 0))) false (m2 (aF .NotIn) (m2 aK (aa 0) (ah (.int 0))) (aa 1)) (bg (aa 2)) 0 [4])
def Uj:=(bB (bB (aa 0) false (m2 (aF .NotEq) (aa 0) (m2 aK (aa 1) (ah (.int 0)))) (bg (aa 0)) 0 [1]) true (ah .non) (bg (aa 2)) 0 [6])
def XZ:=(bB (aa 0) false (m2 (aF .NotEq) (aa 0) (mN aV ag)) (bg (aa 2)) 0 [])
def JX:=(m2 (aF .NotEq) (aa 2) (mN aV ag))
def CK:=
 (ak (aE 4 bC)
 (ak (dI (cY 1) (bg (aa 2))
 Q_)
 (ak (aE 6 Ui)
 (ak (dY (m2 (aF .Eq) (aa 6) (mN aV ag))
 (ak (bU (ah .non))
 aq)
 aq)
 (ak (cJ (d_ kF bT (aa 3) (ae (m2 aK (aa 6) (ah (.int 0))) ag)))
 (ak (aE 2 Uj)
 (ak (aE 2 XZ)
 aq)))))))
def Oj:=
 (ak (aE 2 (bB (mN (aN .list) (ae (aa 0) ag)) false (m2 (aF .NotEq) (aa 0) (mN aV ag)) (bg (aa 0)) 0 []))
 (ak (aE 3 (mN aV ag))
 (ak (lX JX
 CK)
 (ak (bU (aa 3))
 aq))))
def rT(b:aG)(d m:Nat)(S:Str->Prop):=∃a,b[d]?=some (.dK a)/\a.length<=m/\∀n,(bX a (.inr n)).isSome=true↔S n
variable{m8:Str->Prop}
theorem rT.keep{aA fp}(h:rT a b s m8)(K:af fp a aA)(c:b∉fp):rT aA b s m8:=br (h) λ_ d e f=>⟨_,K.get _ _ d c,e,f⟩
theorem rT.imp{c}(h:rT a b s m8)(d:∀n,m8 n↔c n):rT a b s c:=let ⟨_,e,f,g⟩:=h;⟨_,e,f,λn=>(g n).trans (d n)⟩
theorem rT.put{n}(h:rT a b s m8)(d:s<=1000):∃aA,nJ (.ref b) (.str n) (.bl true) a=some aA/\rT aA b (s+1) (λx=>m8 x\/x=n)/\af [b] a aA:=by
 refine br h λkvs c e f=>?_
 refine⟨_,vy c (B' e d),⟨_,aT c,by have:=Cq (kvs:=kvs) (k:=.inr n) (v:=D.bl true);omega,λx=>?_⟩,af.set (by simp)⟩
 rw[zj]
 by_cases z:x=n
 .simp_all
 simp_all
theorem Gy(h:a[b]?=some (.lst (g.map .str)))(c:t[s]?=some (oR b)):cp (aa s) false (ah (.int 1)) true (ah .non) t a=.ok (.ref a.length) (a++[.lst (g.tail.map .str)]):=by
 have:=rH h
 simp_all
variable{Q3 Y3:Option D}
theorem JY(h:a[Ξ]?=some (.lst (g.map .str)))(u:rT a b s m8)(B:s+g.length<=900):
  ∃c aA,Q_ [d0,oR Ξ,P0,M1,oR b,Q3,Y3] a=.nx [d0,oR Ξ,P0,M1,oR b,c,Y3] aA/\rT aA b (s+g.length) (λx=>m8 x\/x∈g.tail)/\af [b] a aA:=by
 have C:=Gy (t:=[d0,oR Ξ,P0,M1,oR b,Q3,Y3]) h (s:=1) rfl;have w:(a++[Cell.lst (g.tail.map .str)])[a.length]?=some _:=aj;have D:af [b] a (a++[Cell.lst (g.tail.map .str)]):=af.app;have k:rT (a++[Cell.lst (g.tail.map .str)]) b s m8:=u.keep (fp:=[]) af.app (by simp)
 have E:=bD (u) λ_ z _=>bb z
 generalize a++[Cell.lst _]=l at *
 have m:bg (cp (aa 1) false (ah (.int 1)) true (ah .non)) [d0,oR Ξ,P0,M1,oR b,Q3,Y3] a=.ok (.seq (.ref a.length)) l:=by
  rw[cf,C];exact aM (by rw[ax,av w])
 unfold Q_;rw[ai,cq,m,cx];have F:g.tail.length<=g.length:=by simp
 refine bE (R:=λr=>∃c aA,sq r _=.nx [d0,oR Ξ,P0,M1,oR b,c,Y3] aA/\rT aA b _ _/\af _ a aA) (q:=g.tail.map .str)
  (λi j d=>∃c,j=[d0,oR Ξ,P0,M1,oR b,c,Y3]/\rT d b (s+i) (λx=>m8 x\/x∈g.tail.take i)/\af [b] _ d) ?_ ?_ ?_ _ 0 _ _ (by unfold fuel;simp;exact oi (B' (B' (õ _ _) (abK _ _)) B)) (Ë _) ⟨Q3,rfl,k.imp (by simp),af.refl⟩
 .rintro i j d ⟨_,_,_,K⟩
  rw[bw,ax,av (K.get _ _ w (by simp;exact Ö E))]
 .rintro i e j d G ⟨c,rfl,f,K⟩
  obtain⟨x,A,rfl⟩:=fA G;have M:=(Ç.mp A).1;refine⟨[d0,oR Ξ,P0,M1,oR b,oS x,Y3],rfl,?_⟩;refine br (f.put (n:=x) (by omega)) λo N p H=>?_
  have:(ak (ey (aa 4) (aa 5) (ah (.bl true))) aq) [d0,oR Ξ,P0,M1,oR b,oS x,Y3] d=.nx [d0,oR Ξ,P0,M1,oR b,oS x,Y3] o:=by
   show sq (match nJ _ _ _ _ with|some _=>iu.nx _ _|none=>.bad) _=_
   simp_all
  rw[this];refine⟨_,rfl,p.imp λy=>?_,K.trans H⟩
  rw[é,A];simp[or_assoc]
 .rintro j d ⟨c,rfl,f,K⟩
  rw[Í,û]at f;refine br f λI J O L=>?_
  exact⟨_,_,rfl,⟨_,J,by omega,L⟩,D.trans K⟩
theorem Gz(a:Z[b]?=some g):tl (Z.take b)+g.length=tl (Z.take (b+1)):=by
 unfold tl;rw[é,a];simp
theorem JZ(R:Rw a b L Z)(u:a[s]?=some (.dK []))(B:Z.length<=1000)(C:tl Z<=800):
  ∃f c aA,dI (cY 1) (bg (aa 2)) Q_ [d0,P0,oR b,M1,oR s,Q3,Y3] a=.nx [d0,f,oR b,M1,oR s,c,Y3] aA/\rT aA s 900 (λx=>∃r∈Z,x∈r.tail)/\af [s] a aA:=by
 have w:=R.len
 have m:∀j∈L,j∉[s]:=λj o z=>by
  obtain⟨i,D⟩:=è.mp o;obtain⟨p,_,E⟩:=R.al.at' D
  simp_all
 have y:∀d,af _ a d->Rw _ b L Z:=λd K=>R.xJ K (by simpa using (λz=>by have:=R.ce;rw[z,u]at this;cases this)) m
 have t:bg (aa 2) [d0,P0,oR b,M1,oR s,Q3,Y3] a=.ok (.seq (.ref b)) a:=by
  exact aM (by rw[ax,av R.ce])
 rw[cq,t,cx]
 refine bE (R:=λr=>∃f c aA,r=.nx [d0,f,oR b,M1,oR s,c,Y3] aA/\rT aA s _ _/\af _ a aA) (q:=L.map .ref)
  (λi l d=>∃f c,l=[d0,f,oR b,M1,oR s,c,Y3]/\rT d s (tl (Z.take i)) (λx=>∃r∈Z.take i,x∈r.tail)/\af [s] a d) ?_ ?_ ?_ _ 0 _ _ (by unfold fuel;simp;exact oi (B' (R' w.symm) B)) (Ë _) ⟨P0,Q3,rfl,⟨[],u,by simp[tl],λn=>by simp[bX]⟩,af.refl⟩
 .rintro i l d ⟨_,_,_,_,K⟩
  rw[bw,ax,av (y _ K).ce]
 .rintro i e l d F ⟨f,c,rfl,g,K⟩
  obtain⟨j,o,rfl⟩:=kN F;obtain⟨p,G,h⟩:=(y _ K).al.at' o;refine⟨[d0,oR j,oR b,M1,oR s,c,Y3],rfl,?_⟩;have H:=Gz G
  have E:=by
    have:tl Z=tl (Z.take (i+1))+tl (Z.drop (i+1)):=by
     unfold tl;rw[←List.sum_append,←ì,abL]
    omega
  obtain⟨A,I,J,k,M⟩:=JY h g (by omega)
  rw[J];refine⟨_,_,rfl,?_,K.trans M⟩;rw[H]at k;refine k.imp λx=>?_
  rw[é]
  simp_all
 .rintro l d ⟨f,c,rfl,g,K⟩
  rw[Í,←w,û]at g;refine br g λN O P Q=>?_
  exact⟨_,_,_,rfl,⟨_,O,cO (B' P C),Q⟩,K⟩
theorem J6(R:Rw a b L Z)(C:rT a s 900 (λx=>∃r∈Z,x∈r.tail))(o:∀r∈Z,r≠[])(D:Z.length<=1000):
  Ui [d0,P0,oR b,M1,oR s,Q3,Y3] a=.ok (.ref a.length) (a++[.lst ((Z.filterMap (freeOf Z)).map .str)]):=by
 have A:=R.len;refine br C λf E H B=>?_
 have u:bg (aa 2) [d0,P0,oR b,M1,oR s,Q3,Y3] a=.ok (.seq (.ref b)) a:=by
  exact aM (by rw[ax,av R.ce])
 obtain⟨I,g,e,rfl,rfl⟩:=rM (v:=false) (p:=m2 aK (aa 0) (ah (.int 0))) (X:=m2 (aF .NotIn) (m2 aK (aa 0) (ah (.int 0))) (aa 1)) (L:=[4]) (q:=L.map .ref) (λi k g=>k=((Z.take i).filterMap (freeOf Z)).map .str/\g=a) u ⟨rfl,rfl⟩
  (λi k g h=>by
   obtain⟨_,rfl⟩:=h;rw[bw,ax,av R.ce])
  (λi e k c F h=>by
   obtain⟨rfl,rfl⟩:=h;obtain⟨j,G,rfl⟩:=kN F;obtain⟨w,y,l⟩:=R.al.at' G;cases w with
   |nil=>exact absurd rfl (o [] (Î y))
   |cons x t=>
    have z:aK (.ref j) (.int 0) c=.ok _ c:=bY l (L2.cH rfl)
    have m:gY false (m2 (aF .NotIn) (m2 aK (aa 0) (ah (.int 0))) (aa 1)) ([oR j]++ed [4] [d0,P0,oR b,M1,oR s,Q3,Y3]) c=.ok (!(bX f (.inr x)).isSome) c:=by
     show dk ((aK _ (.int 0) c).bind _)=_
     rw[z,au]
     show dk (aF .NotIn (.str x) (.ref s) c)=_
     rw[(Ia (d:=x) (.inl E))];rfl
    by_cases n:∃r∈Z,x∈r.tail
    .rw[(B x).mpr n]at m
     refine .inl ⟨c,m,?_,rfl⟩;rw[é,y];simp[dS n]
    .have:(bX f (.inr x)).isSome=false:=by
      cases q:(bX f (.inr x)).isSome with
      |true=>exact absurd ((B x).mp q) n
      |false=>rfl
     rw[this]at m;refine .inr ⟨c,.str x,c,m,?_,?_,rfl⟩
     .simp_all
     .rw[é,y]
      simp[dU n]) (by simp;exact cO (B' (R' A.symm) D))
 rwa[Í,←A,û]at e
theorem J9(R:Rw a b L Z)(n:a[s]?=some (.lst ((d::g).map .str)))(o:Z.length<=1000)(q:∀r∈Z,r.length<=1000):
  ∃i f,Uj [d0,P0,oR b,M1,Y3,Q3,oR s] a=.ok (.ref f.length) (f++[.lst (i.map .ref)])/\af [] a f/\kM f i (Z.map λr=>r.filter λx=>decide (x≠d))/\∀j∈i,a.length<=j:=by
 refine nS (by
  rw[cf];exact aM (by rw[ax,av R.ce])) R o (λj k u K A l h=>?_)
 have m:aK _ (.int 0) _=.ok _ _:=bY (K.get _ _ n (by simp)) (L2.cH rfl)
 have e:=du (t:=[oR j,oR s]) (p:=aa 0) (X:=m2 (aF .NotEq) (aa 0) (m2 aK (aa 1) (ah _))) (v:=false) (B1:=bg (aa 0)) (L:=[1]) (G8:=λc=>match c with|.str x=>decide (x≠d)|_=>false) (by
   exact aM (by rw[ax,av h])) (by rw[bw,ax,av h]) (λc w=>by
   obtain⟨x,B,rfl⟩:=ë.mp w
   show dk ((aK _ _ _).bind _)=_
   rw[m,au]
   by_cases z:x=d<;>simp[z]) (λc _ _=>rfl) (by have:=q _ l;simp;exact cO this)
 have y:((k.map D.str).filter (λc=>match c with|.str x=>decide (x≠d)|_=>false)).map (λc=>c)=(k.filter λx=>decide (x≠d)).map .str:=by
  rw[ť,aau];rfl
 rw[y]at e;exact⟨_,_,e,af.app,aj,K.len⟩
variable{G5:Option D}
theorem J_(R:Rw a b L Z)(n:Z.length<=1000):
  ∃f c,XZ [d0,P0,oR b,M1,Q3,Y3,G5] a=.ok (.ref c.length) (c++[.lst (f.map .ref)])/\af [] a c/\kM c f (ne Z)/\∀j∈f,j∈L:=by
 have g:bg (aa 2) [d0,P0,oR b,M1,Q3,Y3,G5] a=.ok (.seq _) a:=aM (by rw[ax,av R.ce])
 refine a8 (pW (v:=false) (p:=aa 0) (B8:=[]) g R n (λj h i K l k d=>by
  obtain⟨c,e,o⟩:=ne_nil (t:=[oR j]) (s:=0) rfl d;refine⟨_,?_,o⟩
  show dk (m2 (aF .NotEq) (aa 0) (mN aV ag) [oR j] _)=_
  rw[e];rfl) (λj h i K l k d=>⟨j,_,rfl,af.refl,d,l⟩)) λf c e K m q=>?_
 rw[ť]at m;exact⟨_,_,e,K,m,q⟩
theorem Ol:(ne Z).length<=Z.length:=ϛ _ _
theorem Om:tl (ne Z)=tl Z:=by
 unfold tl ne
 induction Z with
 |nil=>rfl
 |cons a Z b=>
  grind
theorem Ka(h:g∈Z):g.length<=tl Z:=by
 unfold tl
 induction Z with
 |nil=>simp at h
 |cons a Z b=>
  grind
theorem Kb(R:Rw a b L (ne Z))(I:a[s]?=some (.lst (g.map .str)))(J:s≠b)(K:s∉L)(Y:Z.length<=900)(ht:tl Z<=800)(hp:g.length<=900):
  (free Z=none/\∃aA,CK [d0,P0,oR b,oR s,M1,Q3,Y3] a=.rt .non aA/\af [] a aA) \/
  ∃n d M f N O x aA,free Z=some n/\CK [d0,P0,oR b,oR s,M1,Q3,Y3] a=.nx [d0,d,oR O,oR s,M,f,N] aA/\Rw aA O x (ne (Z.map (cI n)))/\aA[s]?=some (.lst ((g++[n]).map .str))/\s≠O/\s∉x/\af [s] a aA:=by
 have y:=Ol (Z:=Z);have A:=Om (Z:=Z);have lq:=bb I;have lk:=bb R.ce;have lj:=R.al.lt;have g1:(a++[Cell.dK []])[a.length]?=some (.dK []):=aj;have K1:af [] a (a++[Cell.dK []]):=af.app;have r1:aE 4 bC [d0,P0,oR b,oR s,M1,Q3,Y3] a=.nx [d0,P0,oR b,oR s,oR a.length,Q3,Y3] (a++[Cell.dK []]):=rfl;have l1:(a++[Cell.dK []]).length=a.length+1:=by simp
 generalize a++[Cell.dK []]=a0 at *;refine cg (JZ (d0:=d0) (P0:=P0) (M1:=oR s) (Q3:=Q3) (Y3:=Y3) (R.keep K1) g1 (by omega) (B' (R' A) ht)) λd f c r2 P K2=>?_
 have q:af [] a c:=af.new K1 K2 (by simp)
 have R2:=R.keep q;have b0:=q.get _ _ I (by simp)
 have H:=J6 (d0:=d0) (P0:=d) (M1:=oR s) (Q3:=f) (Y3:=Y3) R2 P (λr B=>(nW.mp B).2) (by omega)
 have g3:(c++[Cell.lst (((ne Z).filterMap (freeOf (ne Z))).map .str)])[c.length]?=some (.lst (((ne Z).filterMap (freeOf (ne Z))).map .str)):=aj;have K3:af [] c (c++[Cell.lst (((ne Z).filterMap (freeOf (ne Z))).map .str)]):=af.app
 have hh:((ne Z).filterMap (freeOf (ne Z))).head?=free Z:=by
  rw[List.head?_filterMap,←Gu];rfl
 generalize (ne Z).filterMap (freeOf (ne Z))=fl at *
 have H:aE 6 Ui [d0,d,oR b,oR s,oR a.length,f,Y3] c=.nx [d0,d,oR b,oR s,oR a.length,f,oR c.length] (c++[Cell.lst (fl.map .str)]):=by
  rw[bj,H];rfl
 generalize c++[Cell.lst (fl.map .str)]=i at *;have Q:=q.trans K3;have g4:(i++[Cell.lst []])[i.length]?=some (.lst (([]:List Str).map .str)):=aj;have S:af [] i (i++[Cell.lst []]):=af.app
 have e4:(m2 (aF .Eq) (aa 6) (mN aV ag)) [d0,d,oR b,oR s,oR a.length,f,oR c.length] i=.ok (.bl (decide (fl=[]))) (i++[Cell.lst []]):=by
  have e:(mN aV ag) [d0,d,oR b,oR s,oR a.length,f,oR c.length] i=.ok (.ref i.length) (i++[.lst []]):=by rw[dJ,bh,au,fO,if_pos (aW (by simp))]
  have:aa 6 [d0,d,oR b,oR s,oR a.length,f,oR c.length] i=.ok (.ref c.length) i:=rfl;rw[dj,this,au,e,au,mH (S.get _ _ g3 (by simp)) g4]
 have l4:(i++[Cell.lst []]).length=i.length+1:=by simp
 generalize i++[Cell.lst []]=k at *;have p:=Q.trans S;cases fl with
 |nil=>
  refine .inl ⟨by rw[←hh];rfl,k,?_,p⟩
  unfold CK;rw[ai,r1,aH,ai,r2,aH,ai,H,aH,ai,dW,e4];rfl
 |cons n t=>
  have C:free Z=some n:=by rw[←hh];rfl
  refine .inr ⟨n,?_⟩;have R4:=R.keep p;have u:=p.get _ _ I (by simp)
  have D:=S.get _ _ g3 (by simp)
  have r4:(dY (m2 (aF .Eq) (aa 6) (mN aV ag)) (ak (bU (ah .non)) aq) aq) [d0,d,oR b,oR s,oR a.length,f,oR c.length] i=.nx [d0,d,oR b,oR s,oR a.length,f,oR c.length] k:=by
   rw[dW,e4];rfl
  have c0:aK (.ref c.length) (.int 0) k=.ok (.str n) k:=bY D (L2.cH (b:=0) rfl);have e0:=dX (m:=.str n) u (by simp;exact cO hp)
  have r5:(cJ (d_ kF bT (aa 3) (ae (m2 aK (aa 6) (ah (.int 0))) ag))) [d0,d,oR b,oR s,oR a.length,f,oR c.length] k=.nx [d0,d,oR b,oR s,oR a.length,f,oR c.length] (k.set s (.lst (g.map .str++[.str n]))):=by
   rw[bW,eA (m:=.ref s) (T:=k) rfl (dz u)]
   simp_all
  have U:af [s] k (k.set s (.lst (g.map .str++[.str n]))):=af.set (by simp)
  have E:(k.set s (.lst (g.map .str++[.str n])))[s]?=some (.lst ((g++[n]).map .str)):=by rw[aT u];simp
  have l5:(k.set s (.lst (g.map .str++[.str n]))).length=k.length:=by simp
  generalize k.set s (.lst (g.map .str++[.str n]))=w at *;have R5:Rw w b L (ne Z):=R4.xJ U (by simpa using Ê J) (λj hj h=>K (by rw[←Ã.mp h];exact hj))
  have V:=U.get _ _ D (by have:=q.len;simp;exact Ö (U' lq this))
  refine a8 (J9 (d0:=d0) (P0:=d) (M1:=oR s) (Y3:=oR a.length) (Q3:=f) R5 V (cO (B' y Y)) (λr B=>by have:=Ka B;exact cO (B' (B' this (R' A)) ht))) λo l e6 K6 h6 j6=>?_
  rw[(Ĳ λr B=>tZ (zo C r (nW.mp B).1))]at h6
  have R7:Rw (l++[.lst (o.map .ref)]) l.length o ((ne Z).map (cI n)):=⟨aj,h6.keep (fp:=[]) af.app (by simp)⟩
  have K7:af [] w (l++[Cell.lst (o.map .ref)]):=K6.trans af.app
  have r6:aE 2 Uj [d0,d,oR b,oR s,oR a.length,f,oR c.length] w=.nx [d0,d,oR l.length,oR s,oR a.length,f,oR c.length] (l++[.lst (o.map .ref)]):=by
   rw[bj,e6];rfl
  have l6:=K6.len;have l7:(l++[Cell.lst (o.map .ref)]).length=l.length+1:=by simp
  generalize l++[Cell.lst (o.map .ref)]=g0 at *;refine a8 (J_ (d0:=d0) (P0:=d) (M1:=oR s) (Q3:=oR a.length) (Y3:=f) (G5:=oR c.length) R7 (by simp;exact cO (B' y Y))) λF G e8 X h8 j8=>?_
  rw[Gv]at h8;have h0:=p.len;have l8:=X.len;refine⟨d,oR a.length,f,oR c.length,G.length,F,G++[.lst (F.map .ref)],C,?_,⟨aj,h8.keep (fp:=[]) af.app (by simp)⟩,cu (X.get _ _ (K7.get _ _ E (by simp)) (by simp)),by omega,λz=>?_,((er.up p).trans U).trans (er.up ((K7.trans X).trans af.app))⟩
  .unfold CK
   rw[ai,r1,aH,ai,r2,aH,ai,H,aH,ai,r4,aH,ai,r5,aH,ai,r6,aH,ai,bj,e8];rfl
  .have:=j6 s (j8 s z)
   exact Ò _ (Ø this (mK E))
theorem Kc(h:ne Z=[]):Mg Z []:=.done λr a=>by
 by_cases z:r=[]
 .exact z
 .have:=nW.mpr ⟨a,z⟩
  simp_all
theorem CL:∀m c rs a q k A g d e f,tl rs<m->Rw c k A (ne rs)->c[q]?=some (.lst (a.map .str))->q≠k->q∉A->rs.length<=900->a.length+tl rs<=800 ->
  (∃aA,gm JX CK m [d0,g,oR k,oR q,d,e,f] c=.rt .non aA/\af [q] c aA) \/
  ∃o h B i j l aA,gm JX CK m [d0,g,oR k,oR q,d,e,f] c=.nx [d0,h,B,oR q,i,j,l] aA/\Mg rs o/\aA[q]?=some (.lst ((a++o).map .str))/\af [q] c aA:=by
 intro m
 induction m with
 |zero=>omega
 |succ m M=>
  intro c rs a q k A g d e f S R J C E K y;refine bD (Gx (t:=[d0,g,oR k,oR q,d,e,f]) (s:=2) rfl R) λp x u=>?_
  have x:JX _ c=.ok _ p:=x
  by_cases F:ne rs=[]
  .rw[decide_eq_false (by simpa using F)]at x
   refine .inr ⟨[],g,oR k,d,e,f,p,?_,Kc F,by rw[Ċ];exact u.get _ _ J (by simp),er.up u⟩
   simp only[gm,x];rfl
  .rw[decide_eq_true (by simpa using F)]at x
   have step:gm JX CK (m+1) [d0,g,oR k,oR q,d,e,f] c=(match CK [d0,g,oR k,oR q,d,e,f] p with|.nx b aA=>gm JX CK m b aA|.ct b aA=>gm JX CK m b aA|.bk b aA=>.nx b aA|r=>r):=by
    simp only[gm,x];rfl
   rcases Kb (M1:=d) (Q3:=e) (Y3:=f) (R.keep u) (u.get _ _ J (by simp)) C E K (B' (abK _ _) y) (cO (B' (Ė _ _) y))with ⟨_,w,L,z⟩|⟨n,h,i,j,l,N,G,w,H,L,R2,I,O,P,z⟩
   .refine .inl ⟨w,?_,er.up (u.trans z)⟩
    rw[step,L]
   .have Q:=Gw (pV H)
    rcases M w _ _ q N G h i j l (by omega) R2 I O P (by simpa using K) (by simp;omega)with ⟨Uk,e3,K3⟩|⟨o,b1,b2,b4,b5,b6,Uk,e3,M3,Zh,K3⟩
    .refine .inl ⟨Uk,?_,((er.up u).trans z).trans K3⟩
     simp_all
    .refine .inr ⟨n::o,b1,b2,b4,b5,b6,Uk,?_,.step (by
     obtain⟨t,y⟩:=pV H;exact⟨_,y,by simp⟩) H M3,by rw[Zh];simp,((er.up u).trans z).trans K3⟩
     simp_all
def GA(e:aU):=∀b k f c,Rw b k f c->c.length<=900->tl c<=800->∃d a,e [.ref k] b=.ok d a/\af [] b a/\(d=.non\/∃o q,d=.ref q/\a[q]?=some (.lst (o.map .str))/\Mg c o/\b.length<=q)
theorem Oo:GA (bN 7 1 Oj):=by
 intro h k F r R u w;rw[ba (by rfl)]
 have A:aZ 7 [D.ref k]=[oR k,none,none,none,none,none,none]:=rfl;rw[A]
 have i:bg (aa 0) [oR k,none,none,none,none,none,none] h=.ok (.seq (.ref k)) h:=by
  exact aM (by rw[ax,av R.ce])
 refine a8 (pW (v:=false) (p:=mN (aN .list) (ae (aa 0) ag)) (B8:=[]) i R (cO u) (λj l a K B m c=>by
  obtain⟨b,e,g⟩:=ne_nil (t:=[oR j]) (s:=0) rfl c;refine⟨b,?_,g⟩
  show dk (m2 (aF .NotEq) (aa 0) (mN aV ag) [oR j] a)=_
  rw[e];rfl) (λj l a K B m c=>by
  refine⟨_,a++[.lst _],?_,af.app,aj,K.len⟩;exact cA c)) λd a G C n H=>?_
 rw[ť]at n;have R2:Rw (a++[.lst _]) _ d (ne r):=⟨aj,n.keep (fp:=[]) af.app (by simp)⟩
 have g:af [] h (a++[Cell.lst (d.map .ref)]):=C.trans af.app;have E:(a++[Cell.lst (d.map .ref)]).length=a.length+1:=by simp
 have I:=n.lt
 have x:aE 2 (bB (mN (aN .list) (ae (aa 0) ag)) false (m2 (aF .NotEq) (aa 0) (mN aV ag)) (bg (aa 0)) 0 []) [oR k,none,none,none,none,none,none] h=.nx [oR k,none,oR a.length,none,none,none,none] (a++[Cell.lst (d.map .ref)]):=by
  simp_all
 generalize a++[Cell.lst _]=b at *;have q:af [] b (b++[Cell.lst []]):=af.app;have y:(aE 3 (mN aV ag)) [oR k,none,oR a.length,none,none,none,none] b=.nx [oR k,none,oR a.length,oR b.length,none,none,none] (b++[Cell.lst []]):=by rfl
 have f:=g.len;rcases CL fuel _ r [] _ _ d none none none none (by unfold fuel;exact oi w) (R2.keep q) aj (Ö (R' E.symm)) (λz=>by grind) u (by simpa using w)with ⟨Ul,e4,K4⟩|⟨o,b1,b2,b4,b5,b6,Ul,e4,M4,Zi,K4⟩
 .refine⟨.non,Ul,?_,af.new (g.trans q) K4 (by simpa using f),.inl rfl⟩
  unfold Oj;rw[ai,x,aH,ai,y,aH,ai];unfold lX;rw[e4];rfl
 .refine⟨_,Ul,?_,af.new (g.trans q) K4 (by simpa using f),.inr ⟨o,_,rfl,by simpa using Zi,M4,f⟩⟩
  unfold Oj;rw[ai,x,aH,ai,y,aH,ai];unfold lX;rw[e4];rfl
structure lZ(E:dB)(L:Str->List Str):Prop where
 nd:(nms E).Nodup
 el:∀(i:Nat) (p:Str×List Str),E[i]?=some p->p.2.Nodup/\p.2.length<=4/\∀x∈p.2,x∈(nms E).take i
 ln:∀(i:Nat) (p:Str×List Str),E[i]?=some p->∃o,Mg (p.2.map L++[p.2]) o/\L p.1=p.1::o
 len:E.length<=12
theorem nX:nms (w.take b)=(nms w).take b:=by simp[nms,aar]
theorem iM{p}(h:w[b]?=some p):(nms w)[b]?=some p.1:=by simp[nms,h]
theorem rN(h:(nms w)[b]?=some d):∃r,w[b]?=some (d,r):=by
 simp only[nms,î,å]at h
 simp_all
theorem CM{p}(e:(nms w).Nodup)(h:w[b]?=some p):aL w p.1=p.2:=by
 have c:=iM h;obtain⟨f,a⟩:=è.mp (rL (jr (Î c)));have d:=iM a;have:=(ņ ((Ç.mp d).1) e).mp (d.trans c.symm)
 grind
theorem eQ(h:d∈g.take b):∃j,j<b/\g[j]?=some d:=by
 obtain⟨j,a⟩:=è.mp h;have c:=(Ç.mp a).1
 grind
namespace lZ
variable{ζ:Str->List Str}
theorem nil:lZ [] ζ:=⟨by simp[nms],by simp,by simp,by simp⟩
variable{d:Str}{w:dB}
theorem t6(G:lZ w ζ)(b:d∈nms w):∃i:Nat,w[i]?=some (d,aL w d):=by
 obtain⟨i,c⟩:=è.mp b;obtain⟨r,a⟩:=rN c;exact⟨i,by rw[a,CM G.nd a]⟩
theorem sub(G:lZ w ζ)(a:d∈nms w):∀x∈aL w d,x∈nms w:=λx b=>by
 obtain⟨i,c⟩:=G.t6 a;exact Ŧ ((G.el i _ c).2.2 x b)
theorem gd(G:lZ w ζ):Gd w where
 nd:=G.nd
 el:=λn c=>G.sub c
 rk:=⟨λx=>(nms w).idxOf x,λn c x f=>by
  obtain⟨i,d⟩:=G.t6 c;obtain⟨j,g,e⟩:=eQ ((G.el i _ d).2.2 x f)
  have h:(nms w).idxOf x=j:=by
   have:=(Ç.mp e);obtain⟨a,b⟩:=this;rw[←b];exact adH G.nd j a
  have k:(nms w).idxOf n=i:=by
   obtain⟨a,b⟩:=(Ç.mp (iM d));have b:(nms w)[i]=n:=b;rw[←b];exact adH G.nd i a
  simp_all⟩
 few:=G.len
 short:=λn c=>by
  obtain⟨i,d⟩:=G.t6 c;exact B' (G.el i _ d).2.1 (by decide)
 JO:=λn c=>by
  obtain⟨i,d⟩:=G.t6 c;exact(G.el i _ d).1
theorem Zj(G:lZ w ζ):NW w ζ:=λn a=>by
 obtain⟨i,b⟩:=G.t6 a;exact G.ln i _ b
theorem take{E L}(G:lZ E L)(k):lZ (E.take k) L where
 nd:=by rw[nX];exact G.nd.sublist (Ϫ _ _)
 el:=λi p h=>by
  have a:=(Ç.mp h).1;rw[ý]at a;rw[Ż (by omega)]at h
  obtain⟨b,c,d⟩:=G.el i p h;refine⟨b,c,λx e=>?_⟩
  rw[nX,List.take_take,abA (ñ (U' a (aav _ _)))];exact d x e
 ln:=λi p h=>by
  have a:=(Ç.mp h).1;rw[ý]at a;rw[Ż (by omega)]at h
  exact G.ln i p h
 len:=by have:=G.len;exact B' (List.length_take_le' _ _) this
theorem mem(G:lZ w ζ):∀(k i:Nat) n,i<k->(nms w)[i]?=some n->∀x∈ζ n,x∈nms w:=by
 intro k
 induction k with
 |zero=>simp
 |succ k q=>
  intro i n s b x c;obtain⟨r,d⟩:=rN b;obtain⟨o,M,f⟩:=G.ln i _ d;rw[f]at c;rcases Õ.mp c with z|z
  .rw[z];exact Î b
  .obtain⟨g,l,e⟩:=Bo M x z
   have a:=(G.el i _ d).2.2;rcases æ.mp l with h|h
   .obtain⟨y,m,rfl⟩:=ë.mp h
    obtain⟨j,t,p⟩:=eQ (a y m)
    grind
   .rw[Ã.mp h]at e
    exact Ŧ (a x e)
theorem short(G:lZ w ζ)(b:d∈nms w):(ζ d).length<=13:=by
 obtain⟨i,a⟩:=è.mp b;obtain⟨r,c⟩:=rN a;obtain⟨o,M,e⟩:=G.ln i _ c;have f:=kQ (Bp M) (λx g=>(G.mem _ i d (ţ _) a) x (by simp_all))
 have h:(nms w).length=w.length:=by simp[nms]
 have:=G.len;rw[e];simp
 grind
variable{g:List Str}
theorem CN(G:lZ w ζ)(b:∀x∈g,x∈nms w)(d:g.length<=5):tl (g.map ζ++[g])<=70:=by
 unfold tl
 have c:∀g:List _,(∀x∈g,x∈nms w)->((g.map ζ).map ŗ).sum<=13*g.length:=by
  intro g b
  induction g with
  |nil=>simp
  |cons a g e=>
   have f:=G.short (b a (by simp))
   grind
 grind
variable{Δ:List Str}
theorem snoc(G:lZ w ζ)(k:d∉nms w)(l:w.length<12)(m:g.Nodup)(n:g.length<=4)(o:∀x∈g,x∈nms w)(M:Mg (g.map ζ++[g]) Δ):lZ (w++[(d,g)]) (λx=>if x=d then d::Δ else ζ x)/\∀x∈nms w,(if x=d then d::Δ else ζ x)=ζ x:=by
 have b:∀x∈nms w,(if x=d then d::Δ else ζ x)=ζ x:=λx c=>if_neg λ(z:x=d)=>k (z▸c)
 have e:nms (w++[(d,g)])=nms w++[d]:=by simp[nms]
 have f:(nms w).length=w.length:=by simp[nms]
 have a:∀(i:Nat) (p:Str×List Str),(w++[(d,g)])[i]?=some p->(i<w.length/\w[i]?=some p)\/(i=w.length/\p=(d,g)):=by
  intro i p h
  by_cases q:i<w.length
  .rw[ã q]at h
   exact .inl ⟨q,h⟩
  .rw[ē (Ţ q)]at h
   have A:=(Ç.mp h).1
   grind
 refine⟨⟨?_,?_,?_,by simp;exact adD l⟩,b⟩
 .rw[e]
  exact Ę.mpr ⟨G.nd,by simp,by grind⟩
 .intro i p h
  rcases a i p h with ⟨q,h⟩|⟨rfl,rfl⟩
  .obtain⟨r,s,j⟩:=G.el i p h
   refine⟨r,s,λx c=>?_⟩
   rw[e,adE (ñ (U' q (R' f.symm)))];exact j x c
  simp_all
 .intro i p h
  rcases a i p h with ⟨q,h⟩|⟨rfl,rfl⟩
  .obtain⟨t,u,y⟩:=G.ln i p h
   have j:=(G.el i p h).2.2;refine⟨t,?_,?_⟩
   .have:=Ĳ λx c=>b x (Ŧ (j x c))
    rw[this];exact u
   .rw[b p.1 (Î (iM h))]
    exact y
  .refine⟨Δ,?_,by simp⟩
   have:=Ĳ λx c=>b x (o x c)
   grind
end lZ
end Mir
namespace Mir
open PySem L2
structure Q0(E:dB):Prop where
 nd:(nms E).Nodup
 el:∀n∈nms E,∀x∈aL E n,x∈nms E
 JO:∀n∈nms E,(aL E n).Nodup
 short:∀n∈nms E,(aL E n).length<=5
 few:E.length<=12
def Zk(rs:List (List Str)):Option (List Str)->Prop
 |some o=>Mg rs o
 |none=>Sk rs
inductive kS (E:dB):Str->Option (List Str)->Prop
 |go {n:Str}{L:Str->List Str}{a:Option (List Str)}:n∈nms E->(∀x∈aL E n,kS E x (some (L x)))->Zk ((aL E n).map L++[aL E n]) a->kS E n (a.map (n :: ·))
 |el {n y:Str}{v:Str->Option (List Str)}:n∈nms E->(∀x∈aL E n,kS E x (v x))->y∈aL E n->v y=none->kS E n none
variable [h_]
variable{d:Str}{w:dB}
theorem vA(b:d∈nms w)(h:∀x∈aL w d,∃a,kS w x a):∃a,kS w d a:=by
 classical
 obtain⟨v,c⟩:∃v:Str->Option _,∀x∈aL w d,kS w x (v x):=⟨λx=>if q:∃a,kS w x a then q.choose else none,by grind⟩
 by_cases q:∃y∈aL w d,v y=none
 .obtain⟨y,g,e⟩:=q
  exact⟨_,.el b c g e⟩
 .have f:∀x∈aL w d,kS w x (some ((v x).getD [])):=λx i=>by
   have j:=c x i;cases e:v x with
   |none=>simp_all
   |some l=>simp_all
  rcases Bs _ _ (ţ _)with ⟨o,M,_⟩|S
  .exact⟨_,.go b f (a:=some o) M⟩
  .exact⟨_,.go b f (a:=none) S⟩
variable{g:List Str}
theorem vB(F:Ef w g)(hz:pU w g=[]):d∈g↔∃a,kS w d a:=by
 constructor
 .have c:∀(i:Nat) (d:Str),g[i]?=some d->∃a,kS w d a:=by
   intro i
   induction i using ada with
   |ind i f=>
    intro d b;refine vA (F.sub d (Î b)) λx k=>?_
    obtain⟨j,n,e⟩:=eQ (F.pre i d b x k);exact f j n x e
  intro l;obtain⟨i,o⟩:=è.mp l;exact c i d o
 .rintro⟨a,h⟩
  have p:=λm l k=>by
   by_cases q:m∈g
   .exact q
   .have:m∈pU w _:=kd.mpr ⟨l,q,k⟩
    simp_all
  induction h with
  |go b _ _ f=>simp_all
  |el b _ _ _ f=>simp_all
variable{E:aU}{P:List (Key×D)}{b:Nat}{ς:Nat->Prop}
theorem zp(hR:Gj E)(G:Q0 w):
  ∀m d a q z,d[b]?=some (.dF P)->aD ς d P w->Ef w a->d[q]?=some (.lst (a.map .str))->d[z]?=some (.lst ((pU w a).map .str))->q≠z->¬ ς q->w.length - a.length<m ->
   ∃f y aA,gm (aa 2) (QJ E) m [oR b,oR q,oR z] d=.nx [oR b,oR q,y] aA/\aA[q]?=some (.lst (f.map .str))/\Ef w f/\pU w f=[]/\af [q] d aA:=by
 intro m
 induction m with
 |zero=>intro d a q z _ _ _ _ _ _ _ h;omega
 |succ m X=>
  intro d a q z Q Y F o R Z S hm;have A:=j_ R
  have a0:a.length<=w.length:=by
   have:=kQ F.nd F.sub;simpa[nms]using this
  by_cases B:pU w a=[]
  .refine⟨a,oR z,d,?_,o,F,B,af.refl⟩
   have C:aa 2 [oR b,oR q,oR z] d=.ok (.ref z) d:=rfl;rw[B]at A;simp only[gm,C,eG,A];rfl
  .have C:aa 2 [oR b,oR q,oR z] d=.ok (.ref z) d:=rfl
   have D:=F.step G.nd
   have g:(a++pU w a).length<=w.length:=by
    have:=kQ D.nd D.sub;simpa[nms]using this
   have p:=G.few;have hx:=vw o R (by rw[ϕ]at g;exact cO (B' g p))
   have hL:=dz o;have H:af [q] d (d.set q (.lst ((a++pU w a).map .str))):=af.set (by simp)
   have i:=aT (e:=.lst ((a++pU w a).map .str)) o;have r:q≠b:=λz=>by rw[z,Q]at o;cases o
   have s:=H.get _ _ Q (by simpa using Ê r)
   have t:=Y.keep H (λj I=>by rw[Ã.mp I];exact S)
   generalize d.set q (.lst ((a++pU w a).map .str))=u at *;refine fD (hR u b q P w (a++pU w a) ς (.inr s) t i (λn U=>by have:=G.short n U;exact cO this) (cO p)) λV l e2 J x K lz=>?_
   have L:af [q] u l:=⟨x.len,λk c hk U=>by
    by_cases h:k=b
    .simp_all
    .exact x.get k c hk (by simpa using h)⟩
   have M:=t.cy x (λj I ds=>by rw[Ã.mp I,s];simp)
   have N:=x.get _ _ i (by simpa using r)
   have lq:=bb i
   refine eg (X l (a++pU w a) q V K M D N J (O' (U' lq lz)) S (by
    have:0<(pU w a).length:=abM.mpr B;rw[ϕ]at g ⊢;omega)) λf y O e3 h3 F3 h4 K3=>?_
   refine⟨f,y,O,?_,h3,F3,h4,(H.trans L).trans K3⟩
   have r1:QJ E [oR b,oR q,oR z] d=.nx [oR b,oR q,oR V] l:=by
    unfold QJ;rw[ai,bW,eA (m:=.ref q) (T:=d) (by rfl) hL]
    simp_all
   simp only[gm,C,eG,A,fN]
   simp_all
def Oq(f:aU):=∀d e b E P,bu d e b->aD P d b E->Q0 E ->
 ∃c z a,f [.ref e] d=.ok (.ref z) a/\a[z]?=some (.lst (c.map .str))/\Ef E c/\pU E c=[]/\af [e] d a/\a[e]?=some (.dF b)/\d.length<=z
theorem Kd(hR:Gj E):Oq (bN 3 1 (QK E)):=by
 intro a e B b P u C G;rw[ba (by rfl)]
 have H:aZ 3 [D.ref e]=[oR e,none,none]:=rfl;rw[H];have m:(a++[Cell.lst []])[a.length]?=some _:=aj;have o:af [] a (a++[Cell.lst []]):=af.app;have I:(aE 1 (mN aV ag)) [oR e,none,none] a=.nx [oR e,oR a.length,none] (a++[Cell.lst []]):=by rfl
 have d:=u.keep o (by simp)
 have f:=(C.lt.keep o (by simp))
 have w:=u.lt;have T:(a++[Cell.lst []]).length=a.length+1:=by simp
 generalize a++[Cell.lst []]=p at *;have g:=G.few;refine fD (hR _ e _ _ b [] _ d f m (λn q=>by have:=G.short n q;exact cO this) (cO g)) λz r J s t l K=>?_
 refine eg (zp hR G fuel _ [] _ z l (f.cy t (λj L M=>by rw[Ã.mp L];exact d.nl M)) ⟨by simp,by simp,λi n h=>by simp at h⟩ (t.get _ _ m (by simp;exact Ö w)) s (O' (U' (mK m) K)) (λh=>Ò _ h.2) (by unfold fuel;exact oi (B' (õ _ _) g))) λN U O Q x F R y=>?_
 refine⟨_,_,_,?_,x,F,R,?_,y.get _ _ l (by simp;exact O' w),W' _⟩
 .unfold QK
  rw[ai,I,aH,ai];have S:(aE 2 (mN (aQ E) (ae (aa 0) (ae (aa 1) ag)))) [oR e,oR a.length,none] p=.nx [oR e,oR a.length,oR z] r:=by simp[J]
  rw[S,aH,ai];unfold lX;rw[Q];rfl
 .refine⟨ñ (mK x),λk c A q=>y.get k c (t.get k c (o.get k c A (by simp)) q) ?_⟩
  have:=bb A;simp;exact O' this
def Um:=(bB (aa 0) false (m2 (aF .In) (aa 0) (aa 1)) (bg (m2 aK (aa 0) (aa 2))) 0 [3])
def Ra:=(ak (cJ (d_ kF bT (aa 4) (ae (aa 2) ag)))
 (ak (aE 2 (m2 aK Um (ah (.int 0))))
 aq))
def loT:=(m2 (aF .NotIn) (aa 2) (aa 4))
def Rb:=(ak (aE 4 (mN aV ag))
 (ak (aE 2 (m2 aK (aa 3) (ah (.int 0))))
 (ak (lX loT Ra)
 (ak (bU (cp (aa 4) false (d_ kF ir (aa 4) (ae (aa 2) ag)) true (ah .non)))
 aq))))
variable{B1:IM}{L:List Nat}{N3:Src}{a:aG}{p:EM}{t:bo}
theorem nY{xR}(b:B1 t a=.ok N3 a)(c:ek N3 a=some (g.map .str))(e:∀x∈g,p ([oS x]++ed L t) a=.ok (.bl (xR x)) a)(f:g.length<=1000):
  bB (aa 0) false p B1 0 L t a=.ok (.ref a.length) (a++[.lst ((g.filter xR).map .str)]):=by
 rw[(du (p:=aa 0) (X:=p) (v:=false) (G8:=λd=>match d with|.str x=>xR x|_=>false) b c (λd h=>by
  obtain⟨x,i,rfl⟩:=ë.mp h
  show dk _=_
  rw[e x i];rfl) (λd _ _=>rfl) (by simp;exact cO f)),ť,aau]
 rfl
theorem GB(Q:Q0 w)(hz:pU w g=[])(b:d∈nms w)(f:d∉g):∃x t,(aL w d).filter (λx=>decide (x∈(nms w).filter λd=>!decide (d∈g)))=x::t/\x∈nms w/\x∉g:=by
 obtain⟨y,c,a⟩:∃y∈aL w d,y∉g:=by
  by_cases q:∀x∈aL w d,x∈g
  .have:=kd.mpr ⟨b,f,q⟩
   simp_all
  simp_all
 cases e:(aL w d).filter _ with
 |nil=>
  have:=List.filter_eq_nil_iff.mp e y c;simp[Q.el d b y c,a]at this
 |cons x t=>
  have:x∈(aL w d).filter (λx=>decide (x∈(nms w).filter λd=>!decide (d∈g))):=by rw[e];simp
  grind
open PySem.Spec PyProof.Rows
noncomputable def gZ(C:Str)(a:List (Str×D)):D:=.tup (.str C::a.map λp=>.tup [.str p.1,p.2])
variable{U:Str}{u6:List (Str×D)}
theorem CO{a}(h:gZ d u6=gZ U a):d=U/\u6=a:=by
 simp only[gZ,Mir.D.tup.injEq,afp,Mir.D.str.injEq]at h;refine⟨h.1,(abF λx y e=>?_).mp h.2⟩
 grind
def CP(a:List b')(Z:b'->Prop)(H)(b:List (Str×D))(c:List (Str×V)):=aI (λp q=>p.1=q.1/\aw a Z H p.2 q.2) b c
def iT(f:Str->b'->Prop)(E:XK):iP:=λx _ b Z H=>∃C c,x=gZ C c/\∀d a e,f C d->H a=some (.xd e)->CP b Z H c e->a∉b->¬ Z a->E (.ref d) (some a) H
def gx(a:Str->b'->Prop)(F:aU):Sp:=λe H Q E=>∃b Z c d,bH a b Z c H/\aI (aw b Z H) d e/\b_ a (iT a E) b Z H (F d c) Q
def xS(R:List K'->Option SM)(T td k d N)(st:K'):=match st with
 |.If c a b _=>o2 (ck T k d N c) (o2 (R a) (R b) á) λx y=>dY x y.1 y.2
 |.While c b [] _=>o2 (ck T k d N c) (R b) lX
 |.For (.Name x _) e b [] _=>if isSet e then none else o2 (jV T d N x) (o2 (gs (ck T k d N) d e) (R b) á) λi y=>dI (cY i) y.1 y.2
 |.For (.Tuple f _ _) e b [] _=>if isSet e then none else match eh f with
   |some nms=>o2 (jo T d N nms) (o2 (kJ (ck T k d N) d e) (R b) á) λg y=>tL (FH e) (fy g) y.1 y.2
   |none=>none
 |_=>jq T td k d N 1 st
def l_(a:K'->Option SM)(T:aO)(td:List Str)(k:Nat)(b:V')(N:List Str):Nat->K'->Option SM
 |0,_=>none
 |n+1,d=>match a d with
  |some c=>some c
  |none=>xS (c_ (l_ a T td k b N n)) T td k b N d
variable{c:Cx}{i:Str->b'->Prop}{r:iP}{Δ:List Str}{ε:V'}{θ:aO}
theorem GC{o}(G:eS c i θ b ε g)(M:∀st d,o st=some d->ju c i r st d):∀n k st d,l_ o θ Δ k ε g n st=some d->ju c i r st d:=by
 intro n k;have E:=λe m q=>fU k c ε g e m G.toGoodO q
 induction n with
 |zero=>intro st d h;cases h
 |succ n O=>
  intro st d h;have B:∀F d,c_ (l_ o θ Δ k ε g n) F=some d->lW c i r F d:=λF d q=>gu O q
  have P:c.N.Nodup:=by rw[G.names];exact G.qQ
  cases H:o st with
  |some Y=>
   replace h:(match o st with|some d=>some d|none=>xS (c_ (l_ o θ Δ k ε g n)) θ Δ k ε g st)=some d:=h
   rw[H]at h;cases h;exact M _ _ H
  |none=>
   have D:jq θ Δ k ε g 1 st=some d->ju c i r st d:=λq=>rm G 1 k st d q
   replace h:(match o st with|some d=>some d|none=>xS (c_ (l_ o θ Δ k ε g n)) θ Δ k ε g st)=some d:=h
   rw[H]at h;replace h:xS (c_ (l_ o θ Δ k ε g n)) θ Δ k ε g st=some d:=h;cases st with
   |If I a f w=>
    obtain⟨m,y,s,t,rfl⟩:=bp h;obtain⟨Q,u,z,A,rfl⟩:=bp t;exact BK ((E I m s).2.1 r) (B a Q z) (B f u A)
   |While I f e w=>
    cases e with
    |nil=>
     obtain⟨m,u,s,t,rfl⟩:=bp h;exact pP G.own ((E I m s).2.1 r) (B f u t)
    |cons _ _=>exact D h
   |For L C f e w=>
    cases e with
    |nil=>
     cases L with
     |Name x Z=>
      replace h:(if isSet C=true then none else o2 (jV θ ε g x) (o2 (gs (ck θ k ε g) ε C) (c_ (l_ o θ Δ k ε g n) f) á) λl y=>dI (cY l) y.1 y.2)=some d:=h
      split at h
      .cases h
      .rename_i J
       obtain⟨l,y,s,t,rfl⟩:=bp h;obtain⟨R,u,z,A,rfl⟩:=bp t;obtain⟨S,T,U⟩:=iI G s;exact mx G.own G.calm (kI G.toGoodO E z r _) (iz P S T U) (BN l) (B f u A) (f_ (by simpa using J))
     |Tuple V j p=>
      replace h:(if isSet C=true then none else match eh V with
   |some nms=>o2 (jo θ ε g nms) (o2 (kJ (ck θ k ε g) ε C) (c_ (l_ o θ Δ k ε g n) f) á) λK y=>tL (FH C) (fy K) y.1 y.2
   |none=>none)=some d:=h
      split at h
      .cases h
      .rename_i J
       split at h
       .rename_i nms X
        obtain⟨K,y,s,t,rfl⟩:=bp h;obtain⟨R,u,z,A,rfl⟩:=bp t;exact tN (mx G.own G.calm (xn G.toGoodO E z r) (nN G X s) (vj K) (B f u A) (f_ (by simpa using J)))
       .cases h
     |_=>exact D h
    |cons _ _=>cases L<;>exact D h
   |_=>exact D h
variable{A:À}{B:D'}{G:M'}{y:Ä}{ν:Str->Option f'}
theorem aX.toXt{T}(W:aX y A G ν B T b):aX y A G ν B {T with xt:=true} b:=⟨W.dg,W.jm,W.fn,W.cst,W.met,W.cls,W.fld,W.clo⟩
variable{L7:List Str}{M:f'}{h:b'}{Θ:K'}{ψ:Å}{ω:SM}
theorem rO(W:aX y A G ν B θ b)(R:θ.xt=true)(F:zl G d U Θ M h ψ){J}(T:eU g Δ (ao Θ)=true)(V:c_ (l_ J θ L7 60 (ao Θ) g 30) (a_ Θ)=some ω)(X:∀f e outer s H E,cz (b+2) (e.deeper (Ñ U (ao Θ) s.heap.objs.size h f))->GoodO (dn (jf y A) y A G ν B g U (ao Θ) h f e outer s H E) (cQ ν) θ b (ao Θ) g ->
      ∀k K,J k=some K->ju (dn (jf y A) y A G ν B g U (ao Θ) h f e outer s H E) (cQ ν) (iT (cQ ν) E) k K):
    bQ y A G ν B (jf y A) (b+3) h ψ Δ (gx (cQ ν) (bN g.length Δ.length ω)):=by
  refine xe F.ex λoc l=>xe l λod n=>xe n λkV o=>xe o λY p=>xe p λpm t=>bF t λan f ct a0 u lk w=>?_;subst u
  have x:=fJ T;refine zZ lk w x (λvs H Q E c=>?_) λe outer s H vs Q E L c=>?_
  · refine bF c λz Z D ds S r a=>?_
    rw[r.length];unfold bN at a;split at a
    · omega
    · exact a.elim
  · refine bF c λz Z D ds S r a=>?_
    have N:GoodO (dn (jf y A) y A G ν _ g _ _ h _ e outer s H E) _ θ b _ g:=
      { scope:=rfl,names:=rfl,calm:=rfl,room:=L.mono (Ė _ _),dg:=W.dg,fld:=W.fld,cst:=W.cst
        jm:=λd F c=>⟨W.jm d F c⟩,fn:=λd F c=>⟨W.fn d F c⟩,met:=λm C F c=>⟨W.met m C F c⟩,cls:=λC F c=>bD (W.cls C F c) λj h1 h2=>⟨j,h1,⟨h2⟩⟩,clo:=W.clo }
    refine⟨_,gu (GC ({toGoodO:=N,own:=afq,Np:=λ_ _ _=>.inl rfl,qQ:=x.nd,kind:=x.kind,k_:=λq=>by simp_all}) (X _ e _ s H E L N) 30 60) V z Z H _ D,z,Z,jk S r,?_⟩
    unfold bN at a;split at a
    · cases q:ω _ D with
      |rt I i=>rwa[q]at a
      |nx O i=>rw[q]at a;exact λσ H' b0 Z' P=>a _ H' _ Z' P.gr P.st (a4 rfl)
      |bk O i=>rw[q]at a;exact a.elim
      |ct O i=>rw[q]at a;exact a.elim
      |exc d i=>rwa[q]at a
      |bad=>rwa[q]at a
    · exact a.elim
def ke(C:Str):List (Str×EM)->List (Str×D)->bo->aG->ay D
 |[],a,_,b=>.exc (gZ C a) b
 | (f,m)::r,a,e,b=>match m e b with
  |.ok d c=>ke C r (a++[(f,d)]) e c
  |_=>.bad
def fP(C:Str)(n:Nat)(ms:List (Str×EM))(d:AM):SM:=λe f=>cb (d e f) λc a=>if c.length=n then (match ke C ms [] (none::c.map some) a with
 |.exc x b=>.exc x b
 |_=>.bad)else .bad
variable{M0:HO}{e:Hp}{n:b'->Prop}{u:List b'}
theorem chX(S:bH i u n a e)(p:h∉u)(s:¬ n h)(x:∀M0 g,e h≠some (.dZ M0 g))(E:e h≠none):bH i u n a (upd e h M0)/\∀d v,aw u n e d v->aw u n (upd e h M0) d v:=by
 have m:∀d v,aw u n e d v->aw u n (upd e h M0) d v:=λd v r=>r.mono (λ_ _ q=>q) (λf F z q=>by rwa[az (λw=>s (by simp_all))]) λ_ z=>z
 refine⟨⟨S.qQ,?_,S.sep,λf o=>?_⟩,m⟩
 .have l:∀{k:List _}{j:List _},(∀f∈j,f≠h)->aI (λc f=>gV i (aw u n e) e f c) k j->aI (λc f=>gV i (aw u n (upd e h M0)) (upd e h M0) f c) k j:=by
   intro k j y A
   induction A with
   |nil=>exact .nil
   |@cons G B k j r t H=>
    refine .cons (r.imp m (λg q=>?_) λb C D q=>?_) (by simp_all)
    .rwa[az (y B (by simp))]
    .rwa[az (λw=>x C D (by simp_all))]
  exact l (λf o w=>p (by simp_all)) S.zH
 .by_cases q:f=h
  .simp_all
  .rw[az q];exact S.dom f o
theorem CP.imp{c Z H b e f}(h:∀d v,aw c Z H d v->aw b e f d v):∀{g}{i},CP c Z H g i->CP b e f g i
 |_,_,.nil=>.nil
 |_,_,.cons a t=>.cons ⟨a.1,h _ _ a.2⟩ (CP.imp h t)
structure X_(κ:Str->b'->Prop)(α:List b')(Z:b'->Prop)(H:Hp)(od:Option b')(as:List (Str×D))(fs:List (Str×V))(α2:List b')(Z2:b'->Prop)(Ω:aG)(H2:Hp):Prop where
 st:bH κ α2 Z2 Ω H2
 gr:cM α Z H α2 Z2 H2
 fl:CP α2 Z2 H2 as fs
 Ya:od=none->as=[]/\fs=[]
 Uo:∀dd,od=some dd->H2 dd=some (.xd fs)/\dd∉α2/\¬ Z2 dd/\H dd=none
theorem CQ{A Φ l Z aA H e C lo B K Q}(O:bH A l Z aA H)(G:K.length=B.length)(P:∀(i:Nat) d,B[i]?=some (some d)->∃v,K[i]?=some (some v)/\aw l Z H d v){gT Nm}(R:∀od k E c p b s,k.map (·.1)=Nm->X_ A l Z H od k E c p b s->b_ A Φ l Z H (.exc (gZ C k) b) Q->gT od E s):
  ∀rs od k E c p b s,k.map (·.1)++rs.map (·.1)=Nm->X_ A l Z H od k E c p b s->b_ A Φ l Z H (ke C rs k B b) Q ->
   ng e lo (rs.map λr=>(r.1,λK H' Q'=>∃I,tO A mw l Z H r.2 B I K H' Q')) od E K s gT
 |[],od,k,E,c,p,b,s,S,x,g=>R od k E c p b s (by simp_all) x g
 | (f,m)::rs,od,k,E,c,p,b,s,S,x,g=>by
  have M:cS A l Z H c p _ B K s:=⟨x.st,x.gr,G,λi d hi=>bD (P i d hi) λv h1 h2=>⟨v,h1,O.cP x.gr h2⟩⟩
  replace g:b_ A Φ l Z H (match m B b with|.ok d I=>ke C rs _ B I|_=>.bad) Q:=g
  cases q:m B b with
  |bad=>rw[q]at g;exact g.elim
  |exc z J=>rw[q]at g;exact g.elim
  |ok d J=>
   rw[q]at g;cases od with
   |none=>
    obtain⟨ea,ef⟩:=x.Ya rfl;subst ea ef;refine⟨b,c,p,M,?_⟩;dsimp only;rw[q];intro v H3 t N h L T F y a0 b0;obtain⟨U,Y⟩:=L.pG y False
    exact CQ O G P R rs _ _ _ t N J _ (by simp_all) ⟨U,(x.gr.trans h).trans Y,.cons ⟨rfl,L.cP Y T⟩ .nil,by simp,λd' z=>by
     cases z;exact⟨aS,λj=>L.has _ j y,λj=>L.dom _ j y,(x.gr.trans h).none y⟩⟩ g
   |some F=>
    obtain⟨o1,o2,o3,o4⟩:=x.Uo F rfl;refine⟨b,c,p,M,?_⟩;dsimp only;rw[q];intro v H3 t N h L T;have h3:=h.frm F _ o1 o2
    have X:F∉t:=λj=>by
     rcases h.EU F j with z|z
     .exact o2 z
     grind
    have n2:¬ N F:=λj=>by
     rcases h.new F j with z|z
     .exact o3 z
     grind
    obtain⟨U,rp⟩:=chX L X n2 (λo u z=>by simp_all) (by grind)
    refine⟨h3,CQ O G P R rs _ _ _ t N J _ (by simp_all) ⟨U,⟨(x.gr.trans h).pre,(x.gr.trans h).sub,(x.gr.trans h).new,(x.gr.trans h).EU,λa u q j=>by rw[az (λw=>by grind)];exact(x.gr.trans h).frm a u q j,λa j=>by
       have:a≠F:=λw=>by
        obtain⟨n,S⟩:=è.mp j;exact X (by rw[←w];exact Î ((x.gr.trans h).pre n a S))
       rw[az this];exact(x.gr.trans h).has a j,λa o u q=>by rw[az (λw=>by grind)];exact(x.gr.trans h).dZ a o u q⟩,aI.append (CP.imp rp (CP.imp (λd v r=>x.st.cP h r) x.fl)) (.cons ⟨rfl,rp _ _ T⟩ .nil),by simp,λd' z=>?_⟩ g⟩
    cases z;exact⟨aS,X,n2,o4⟩
theorem lM{A B:Type}{f:kr->A}{g:B->TE}:∀{rs:List kr}{ms},((rs.zip (ms.map g)).map λr=>(r.1.fld,r.2))=((rs.map (·.fld)).zip ms).map λr=>(r.1,g r.2)
 |[],_=>rfl
 |_::_,[]=>rfl
 |r::rs,m::ms=>by
  have:=lM (f:=f) (g:=g) (rs:=rs) (ms:=ms)
  simp_all
theorem lN{A B T:Type}{g:B->T}{p}:∀{rs:List A}{ms},p∈rs.zip (ms.map g)->∃m,(p.1,m)∈rs.zip ms/\p.2=g m
 |[],_,h=>by cases h
 |_::_,[],h=>by cases h
 |r::rs,m::ms,h=>by
  simp at h ⊢;rcases h with h|h
  .simp_all
  .refine bD (lN h) λa b c=>⟨a,.inr b,c⟩
variable{N:List V}{q:List D}
theorem zr(r:aI (aw u n e) q N)(c:g.length=q.length+1):(start g (.ref h::N)).length=(none::q.map some).length/\∀(i:Nat) d,(none::q.map some)[i]?=some (some d)->∃v,(start g (.ref h::N))[i]?=some (some v)/\aw u n e d v:=by
 have f:=r.length;refine⟨by simp[L2.start];omega,λi d a=>?_⟩
 cases i with
 |zero=>cases a
 |succ i=>
  rw[List.getElem?_cons_succ,î]at a;obtain⟨j,b,k⟩:=å.mp a;obtain⟨v,l,m⟩:=r.get b;unfold L2.start
  simp_all
variable{C D2 x0 ο:b'}{F7:List kr}{H S0 l:T'}{I:List x'}{J:Ï}{Q1:XK}{Y4 d6:Str}{j:x'}{m5:List É}{o:g'}{u0:AM}
theorem vC{ms}(D:pq G ν C ο x0 D2 ψ Θ U Y4 Δ F7)(hr:cz (b+2) (J.deeper (Ñ d ε o.heap.objs.size h M)))(hg:Gl (dn (jf y A) y A G ν B g d ε h M J m5 o e Q1) d6)(hm:ν d6=some (.ref C))(t0:i d6 C)(b0:s_ (dn (jf y A) y A G ν B g d ε h M J m5 o e Q1) i (iT i Q1) (j::I) u0)(hl:ms.length=F7.length)(v0:F7≠[])(c0:∀A' ot s' E F E',cz b (A'.deeper (Ñ U (ao Θ) s'.heap.objs.size x0 (.ref D2)))->∀p∈F7.zip ms,bt ((dn fk y A G ν B (Y4::Δ) U (ao Θ) x0 (.ref D2) A' ot s' F E').k_.mk1 E) i mw p.1.ve p.2)(d0:F' (j::I) (Ñ d ε o.heap.objs.size h M)=(false,eval j (Ñ d ε o.heap.objs.size h M))::F' I (Ñ d ε o.heap.objs.size h M))(e0:(Æ H (F' I (Ñ d ε o.heap.objs.size h M))).any (·.1)=false)(g0:(d6==("__debug__"))=false):
  ju (dn (jf y A) y A G ν B g d ε h M J m5 o e Q1) i (iT i Q1) (.Raise (some (.Call (.Name d6 l) (j::I) [] H)) none S0) (fP d6 Δ.length ((F7.map (·.fld)).zip ms) u0):=by
 intro R Z0 T ρ Ω pins s σ X Dn Y N;refine cW N λα Z S N=>?_
 refine yA
  (J7:=λvs F=>∃ds k n O q x,cM R Z0 T n O F/\bH i n O k F/\aI (aw n O F) ds vs/\ds.length=Δ.length/\ke d6 ((F7.map (·.fld)).zip ms) [] (none::ds.map some) k=.exc x q/\∀K c u,cM R Z0 T c u K->bH i c u q K->iT i Q1 x q c u K)
  (gT:=λvs F od fs K=>(∃P,od=some P)/\∃q c u w,bH i c u q K/\CP c u K w fs/\(∀P,od=some P->P∉c/\¬ u P)/\iT i Q1 (gZ d6 w) q c u K) D hr hg hm (b0 R Z0 T ρ Ω) (λvs F fs H' hz=>by obtain⟨⟨P,z⟩,_⟩:=hz;cases z) (λvs F hA A' ot s' E E' h0 he=>?_) d0 e0 g0 _ s σ X Dn Y ⟨α,Z,S,?_⟩
 .refine xe hA λds i0=>xe i0 λk j0=>bP j0 λn O q x g1 s1 l0 m0 e1 h1=>?_
  refine⟨ms.map λm n0 H' Q'=>∃k,tO i mw n O F m (none::ds.map some) k n0 H' Q',by simp[hl],λp hp=>?_,?_⟩
  .refine bD (lN hp) λm o0 e2=>?_
   rw[e2];exact PE.ex λk=>c0 A' ot s' E F E' h0 _ o0 n O F _ k
  .rw[lM (f:=kr.fld)]
   obtain⟨l1,l2⟩:=zr (g:=Y4::Δ) l0 (by simp[m0])
   refine CQ (Φ:=iT i Q1) (C:=d6) (Q:=λ_ _=>False) (Nm:=F7.map (·.fld)) s1 l1 l2 (λod w fs c u s0 K hn x L=>?_) _ _ [] [] n O k F ?_ ⟨s1,cM.refl s1.has,.nil,by simp,λ_ z=>(nomatch z)⟩ ?_
   .refine⟨(by
     rw[←hn]
     have p0:∀{w:List (Str×Mir.D)}{fs:List (Str×V)},CP c u K w fs->fs.map (·.1)=w.map (·.1):=by
      intro a q0 a0
      induction a0 with
      |nil=>rfl
      |cons r t ih=>rw[ú,ú,ih,r.1]
     exact p0 x.fl),?_,_,c,u,w,x.st,x.fl,λP z=>⟨(x.Uo P z).2.1,(x.Uo P z).2.2.1⟩,L K c u x.gr x.st⟩
    cases od with
    |none=>
     rw[(x.Ya rfl).1]at hn
     simp_all
    |some P=>simp
   .exact abk (by simp[hl])
   .rw[e1]
    exact λK c u g2 s2=>h1 K c u (g1.trans g2) s2
 .unfold fP at N
  cases hq:u0 ρ Ω with
  |bad=>rwa[hq]at N
  |exc x k=>rw[hq]at N;exact λF n O L s=>N F n O (S.gr.trans L) s
  |ok xs k=>
   rw[hq]at N;replace N:ee i _ R Z0 T Dn (if xs.length=Δ.length then (match ke d6 _ [] _ k with|.exc x q=>.exc x q|_=>.bad)else .bad):=N
   intro vs F n O g1 s1 r1;split at N
   rotate_left
   .exact N.elim
   rename_i r0;split at N
   rotate_left
   .exact N.elim
   rename_i x q hu;refine⟨by rwa[r1.length],⟨xs,k,n,O,q,x,S.gr.trans g1,s1,r1,r0,hu,λK c u g2 s2=>N K c u g2 s2⟩,?_⟩
   rintro fs K P ⟨_,w0,c,u,w,s2,fl,hz,C',y0,z,hh⟩ z0;obtain⟨rfl,rfl⟩:=CO z
   simp_all
def Rc(X)(d:Str->b'->Prop)(Φ)(a:L2.St)(e m):=∀b f g h i,PE X e (λc H Q=>c=a/\tO d Φ b f g m h i c H Q)
def Ke(X)(f:Str->b'->Prop)(Φ)(a:L2.St)(b:List K')(c):=∀d g h i j,gS X b (λD e H=>e=a/\Nk f Φ d g h c i j D e H)
def kU(C m:Str)(F:aU)(d:EM)(e:AM):EM:=λc f=>(d c f).bind λx a=>match jU a x with
 |some (_,g,h)=>if g=C/\h.lookup m=none then (e c a).bind λi b=>F (x::i) b else .bad
 |none=>.bad
variable{O:x'}{o0:L2.St}
theorem pX(G:∀a,i d a->a=h)(e:oj c.K h)(J:Meth c.K h U C)(F:bQ c.prog c.w c.K c.mg c.base (jf c.prog c.w) b C ψ g (gx i E))(L:cz b c.A)(M:Binds c.K ψ g [])(N:gF c o0 Q1)(P:bt c i (iT i Q1) O p)(R:s_ c i (iT i Q1) (j::I) u0){pl}(T:F' (j::I) c.env=(false,eval j c.env)::F' I c.env)(q:(Æ l (F' I c.env)).any (·.1)=false)(V:eval (.Call (.Attribute O U H) (j::I) [] l) c.env=(do
   let u ←eval O c.env
   þ H.atName
   let (C,first) ←ÿ [u] (ď u U pl)
   ğ l C first (Æ l (F' (j::I) c.env)) (Ą l (ą [] c.env)))):
  Rc c i (iT i Q1) o0 (.Call (.Attribute O U H) (j::I) [] l) (kU d U E p u0):=by
 intro k y z B X;refine PE.imp (AB (P k y z B X) e J F L M N (PA.ex λm=>R k y z B m) T q V) ?_
 rintro σ r Q ⟨rfl,Y,Z,S,f⟩;refine⟨rfl,Y,Z,S,b_.use f λx m _ v H1 a0 Z1 g1 s D o=>?_⟩
 split at o
 .rename_i n C' fs hk
  split at o
  .rename_i hc
   obtain⟨rfl,hl⟩:=hc;refine bP (gp s D hk) λa b0 dx c0 t d0 _ q1 q2 q3=>?_;subst t;obtain rfl:=G _ q1
   exact⟨a,dx,_,rfl,q2,(gO q3).2 hl,_,_,Z1,S.grow g1 s,oE.use o λxs e0 _ vs H2 g0 Z2 g2 s2 r2 k2=>⟨_,Z2,_,_,s2,.cons (s.cP g2 D) r2,k2⟩⟩
  .exact o.elim
 .exact o.elim
variable{A0:List b'}{B7:Option V}{P1:b'->Prop}{ξ:Hp}
theorem cS.Ot(S:cS i u n e A0 P1 a t o0 ξ):cS i u n e A0 P1 a (t.set b none) (o0.set b B7) ξ:=
 ⟨S.st,S.gr,by rw[abm,abm];exact S.len,λj d h=>by
  by_cases c:b=j
  .rw[abn]at h
   simp_all
  .rw[ķ c]at h ⊢
   exact S.val j d h⟩
def GD(st:K'):Option {r:Str×x'×List x' // ∃p b c,st=.Raise (some (.Call (.Name r.1 p) (r.2.1::r.2.2) [] b)) none c}:=match st with
 |.Raise (some (.Call (.Name x _) (a::d) [] _)) none _=>some ⟨(x,a,d),_,_,_,rfl⟩
 |_=>none
def CS(st):=(GD st).map (·.1)
theorem vD(q:CS Θ=some (d,j,I)):∃p a b,Θ=.Raise (some (.Call (.Name d p) (j::I) [] a)) none b:=by
 obtain⟨⟨_,h⟩,_,e⟩:=å.mp q;cases e;exact h
theorem cK{A B:Type}{x:Option A}{f}{b:B}(h:x.bind f=some b):∃a,x=some a/\f a=some b:=ģ.mp h
def Ie(T b N a n)(ms:List (Str×EM))(st):=
 (CS st).bind λc=>(cF (ck T 60 b N) (c.2.1::c.2.2)).bind λd=>if c.1==a&&sP b a&&!(a==("__debug__"))then some (fP a n ms d)else none
theorem CT{ms}(D:pq G ν C ο x0 D2 ψ Θ U Y4 Δ F7)(w:cz (b+2) (J.deeper (Ñ d ε o.heap.objs.size h M)))(n:ν d6=some (.ref C))(f:GoodO (dn (jf y A) y A G ν B g d ε h M J m5 o e Q1) (cQ ν) θ b ε g)(x:ms.length=F7.length)(i:F7≠[])(j:∀r z s c E F,cz b (r.deeper (Ñ U (ao Θ) s.heap.objs.size x0 (.ref D2)))->∀p∈F7.zip ms,bt ((dn fk y A G ν B (Y4::Δ) U (ao Θ) x0 (.ref D2) r z s E F).k_.mk1 c) (cQ ν) mw p.1.ve p.2)(st t)(a:Ie θ ε g d6 Δ.length ((F7.map (·.fld)).zip ms) st=some t):ju (dn (jf y A) y A G ν B g d ε h M J m5 o e Q1) (cQ ν) (iT (cQ ν) Q1) st t:=by
 obtain⟨⟨l,H,I⟩,v1,a⟩:=cK a;refine bD (cK a) λQ K a=>?_
 split at a
 rotate_left
 .cases a
 rename_i u;cases a;simp only[Ú,ċ,beq_iff_eq]at u;obtain⟨⟨L,N⟩,O⟩:=u;subst L;obtain⟨R,S,T,rfl⟩:=vD v1;obtain⟨P,k⟩:=bO (λc m q=>fU 60 _ _ g c m f q) K
 exact vC D w (f.gl N) n n (P _) x i j (bx (k H (by simp))) (bJ (by simp_all)) O
theorem GF(W:aX y A G ν B θ b)(F:zE G d U Θ h ψ)(p:eU g Δ (ao Θ)=true)(x:∀i e outer s H E,eS (dn fk y A G ν B g U (ao Θ) h i e outer s H E).k_ (cQ ν) θ b (ao Θ) g->lW (dn fk y A G ν B g U (ao Θ) h i e outer s H E).k_ (cQ ν) mw (a_ Θ) ω):
    bQ y A G ν B fk (b+1) h ψ Δ (cZ (cQ ν) (bN g.length Δ.length ω)):=by
  refine F.ok (fJ p) (λz H Q E c=>?_) λi e outer s H z Q E D c=>?_
  · refine bF c λl Z n I S r a=>?_
    rw[r.length];unfold bN at a;split at a
    · omega
    · exact a.elim
  · refine bF c λl Z n I S r a=>?_
    have t:=fJ p
    have k:eS (dn fk y A G ν _ g _ (ao Θ) h _ e outer s H E).k_ _ θ b _ g:=
      { scope:=rfl,names:=rfl,calm:=rfl,room:=D,dg:=W.dg,own:=abI,Np:=λ_ _ _=>.inl rfl,qQ:=t.nd,kind:=t.kind,k_:=λ_ _ _ c=>c,fld:=W.fld,cst:=W.cst
        jm:=λd F c=>⟨W.jm d F c⟩,fn:=λd F c=>⟨W.fn d F c⟩,met:=λm C F c=>⟨W.met m C F c⟩,cls:=λC F c=>bD (W.cls C F c) λj J K=>⟨j,J,⟨K⟩⟩,clo:=W.clo }
    refine⟨_,x _ e _ s H E k l Z H _ n,l,Z,jk S r,?_⟩;unfold bN at a;split at a
    · cases q:ω _ n with
      |rt o f=>rwa[q]at a
      |nx u f=>rw[q]at a;exact λO L M N w=>a _ L _ N w.gr w.st (a4 rfl)
      |bk u f=>rw[q]at a;exact a.elim
      |ct u f=>rw[q]at a;exact a.elim
      |exc d f=>rwa[q]at a
      |bad=>rwa[q]at a
    · exact a.elim
def Ou(e:aU):=∀c k f b n,Rw c k f b->b.length<=1000->∃d a,e [.ref k,.str n] c=.ok d a/\af [] c a/\((d=.non/\∀r∈b,n∉r.tail)\/∃i:Nat,d=.int i/\∃r,b[i]?=some r/\n∈r.tail)
theorem Ov:Ou (bN 4 2 tV):=λ_ _ _ _ _ R a=>Cr R a
def hR:=(m2 aK (m2 aK (aa 0) (aa 5)) (ah (.int 0)))
noncomputable def Zl(x):Option {r:Str×Str×D // x=gZ r.1 [(r.2.1,r.2.2)]}:=match x with
 |.tup [.str c,.tup [.str a,d]]=>some ⟨(c,a,d),rfl⟩
 |_=>none
def Rf(C f x):=(Zl x).bind λr=>if r.1.1=C/\r.1.2.1=f then some r.1.2.2 else none
variable{Y m:D}
theorem GG(h:Rf d U m=some Y):m=gZ d [(U,Y)]:=by
 obtain⟨⟨r,q⟩,_,e⟩:=ģ.mp h;dsimp only at e;split at e
 .rename_i a;cases e;rw[q,a.1,a.2]
 .cases e
theorem CU:Rf d U (gZ d [(U,m)])=some m:=if_pos ⟨rfl,rfl⟩
def n4(g:SM)(h f:Str)(j:D->SM)(i:Nat):SM:=λe k=>match g e k with
 |.exc x a=>(match Rf h f x with
  |some d=>(match j d (e.set i none) a with
   |.nx b c=>.nx (b.set i none) c
   |_=>.bad)
  |none=>.bad)
 |r=>r
theorem kW(F:bQ c.prog c.w c.K c.mg c.base (jf c.prog c.w) b h ψ g (gx i E))(n:cz b c.A)(o:Gl c d)(p:c.mg d=some (.ref h))(q:Ó c.K (.ref h)=true)(r:Binds c.K ψ g [])(s:gF c o0 Q1)(e:(d==("__debug__"))=false)(t:F' (j::I) c.env=(false,eval j c.env)::F' I c.env)(f:(Æ H (F' I c.env)).any (·.1)=false)(u:s_ c i (iT i Q1) (j::I) u0):
  Rc c i (iT i Q1) o0 (.Call (.Name d l) (j::I) [] H) (mN E u0):=by
 intro k x y z B;refine PE.imp (AA F n o p q r s (u k x y z B) e t f) ?_;rintro P m Q ⟨rfl,C,Z,S,a⟩;exact⟨rfl,C,Z,S,oE.use a λD G _ R T J L U M N O=>⟨_,L,_,D,M,N,O⟩⟩
theorem xT(h:Rc c i r o0 j p)(b:ò j none l.line c.env=pure false):Ke c i r o0 [.Expr j l] (cJ p):=by
 intro a e g k m;refine gS.imp (qh (qj (h a e g k m) b)) ?_;rintro E x H ⟨rfl,n,Z,S,f⟩;exact⟨rfl,n,Z,S,ee.use S f λd o v q s t _ y u z w=>w _ q _ t u⟩
variable{M6:Ends}
theorem Kf{m b}(S:cS i u n e A0 P1 a t o0 ξ)(o:∀x a,b≠.exc x a)(f:ee i r u n e M6 b):ee i m A0 P1 ξ M6 b:=by
 cases b with
 |rt d g=>exact λv j c k p q s=>f v j c k (S.gr.trans p) q s
 |bad=>exact f
 |exc x g=>exact absurd rfl (o x g)
 |_=>exact λl j c k h=>f l j c k ⟨h.st,S.gr.trans h.gr,h.len,h.val⟩
variable{N1 o6:List K'}
theorem t7{Q}(R:c.stack=c.env::c.outer)(T:c.env.frame=some c.env.locals)(hg:Gl c d)(X:c.mg d=some (.ref h))(Y:ϑ c.K (.ref C) (.ref h)=some true)(hN:c.N.Nodup)(hi:c.N[b]?=some d6)(hn:c.env.scope.names.lookup d6=some .local)(a0:∀L,i U L->L=C)(Tx:mY c.K C ο x0)(is:Pw c.K C)(hb:∀pl xe F E,gF ((c.mn pl).wish xe) F E->Ke ((c.mn pl).wish xe) i (iT i E) F N1 ω)(b0:∀pl e g G,Jb (((c.mn pl).pk e).yy e G) e C G g ο x0->∀m M O w y dD v,
   gS (((c.mn pl).pk e).yy e G) (Θ::o6) (λD z a=>a g=some (.xd [(Y4,v)])/\z[b]?=some (some (.ref e))/\∃A Z,cS i m M O A Z y w z a/\aw A Z a dD v/\ee i mw m M O D (Q dD w y)))(c0:(d==("__debug__"))=false):
  ju c i r (.Try N1 [.ExceptHandler (some (.Name d H)) (some d6) (Θ::o6) S0] [] [] l) (n4 ω U Y4 Q b):=by
 intro m M O w y pins s z a D I q;refine cW q λA Z S f=>?_
 refine MK (W:=λg fs t=>∃j o k p,ω w y=.exc (gZ U [(Y4,p)]) k/\cM A Z a j o t/\bH i j o k t/\CP j o t [(Y4,p)] fs) I R T hg X Y hN (λ_ e=>by cases e;exact hi) (λ_ e=>by cases e;exact hn) (λxe d0=>?_) (λe g fs G P s4 u hW c1 c2 c3 J=>?_) c0
 .refine hb pins xe z _ d0 A Z a w y [] s z a D (I.mn.wish xe) ⟨rfl,A,Z,⟨S.st,cM.refl S.st.has,S.len,S.val⟩,?_⟩
  unfold n4 at f;cases n:ω w y with
  |exc x k=>
   rw[n]at f;dsimp only at f;cases hx:Rf U Y4 x with
   |none=>rw[hx]at f;exact f.elim
   |some p=>
    obtain rfl:=GG hx;intro P j o g1 s1;refine⟨U,_,rfl,λL dd vs hk u fl n1 n2=>?_⟩
    cases a0 L hk;exact⟨rfl,dd,vs,rfl,u,j,o,k,p,rfl,g1,s1,fl⟩
  |_=>rw[n]at f;exact Kf S (by simp) f
 .refine bF hW λj o k p n g1 e0=>xa e0 λs1 fl=>?_
  obtain⟨v1,rfl,r1⟩:∃v1,fs=[(Y4,v1)]/\aw j o P p v1:=by
   obtain⟨⟨a1,w1⟩,t1,rfl,q1,fl⟩:=aI.cons_inv fl;rw[aI.nil_inv fl]
   simp_all
  unfold n4 at f;rw[n]at f;dsimp only at f;rw[CU]at f;dsimp only at f;refine b0 pins e g G ⟨by simp[Cx.yy],c1,c2,c3,Tx,is⟩ m M O _ k p v1 [] s4 _ _ _ J ⟨u,?_,j,o,((S.grow g1 s1).Ot),r1,?_⟩
  .have j0:b<z.length:=by
    rw[I.len];exact mK hi
   simp_all
  .cases B:Q p _ k with
   |nx l0 g0=>
    rw[B]at f;intro m0 P h0 Z2 S';exact f _ P h0 Z2 S'.Ot
   |rt i0 g0=>rw[B]at f;exact f.elim
   |bk _ _=>rw[B]at f;exact f.elim
   |ct _ _=>rw[B]at f;exact f.elim
   |exc _ _=>rw[B]at f;exact f.elim
   |bad=>rw[B]at f;exact f.elim
def Uq(st:x'):Option {r:Str×x'×List x' // ∃p b,st=.Call (.Name r.1 p) (r.2.1::r.2.2) [] b}:=match st with
 |.Call (.Name x _) (a::c) [] _=>some ⟨(x,a,c),_,_,rfl⟩
 |_=>none
def Ur(st):=(Uq st).map (·.1)
theorem GH(q:Ur j=some (d,O,I)):∃p a,j=.Call (.Name d p) (O::I) [] a:=by
 obtain⟨⟨_,h⟩,_,j⟩:=å.mp q;cases j;exact h
def OB(st:K'):Option {r:Str×x' // ∃p a,st=.Assign [.Name r.1 p] r.2 a}:=match st with
 |.Assign [.Name x _] v _=>some ⟨(x,v),_,_,rfl⟩
 |_=>none
def OC(st):=(OB st).map (·.1)
theorem CV(q:OC Θ=some (d,j)):∃p a,Θ=.Assign [.Name d p] j a:=by
 obtain⟨⟨_,h⟩,_,e⟩:=å.mp q;cases e;exact h
def OD(st:K'):Option {r:x'×Str×T'×x'×List x'×T' // ∃b,st=.Expr (.Call (.Attribute r.1 r.2.1 r.2.2.1) (r.2.2.2.1::r.2.2.2.2.1) [] r.2.2.2.2.2) b}:=match st with
 |.Expr (.Call (.Attribute o m c) (a::d) [] p) _=>some ⟨(o,m,c,a,d,p),_,rfl⟩
 |_=>none
def OE(st):=(OD st).map (·.1)
theorem CW(q:OE Θ=some (j,d,l,O,I,H)):∃a,Θ=.Expr (.Call (.Attribute j d l) (O::I) [] H) a:=by
 obtain⟨⟨_,h⟩,_,e⟩:=å.mp q;cases e;exact h
variable{R:f'->g'->Prop}{z:List (b'×Obj)}
theorem GoodO.chg(G:GoodO c i θ b ε g):GoodO ((c.mn z).wish R) i θ b ε g where
 scope:=G.scope
 names:=G.names
 calm:=G.calm
 room:=G.room
 dg:=G.dg
 jm:=λx F h=>⟨(G.jm x F h).ex⟩
 fn:=λx F h=>⟨(G.fn x F h).ex⟩
 cst:=G.cst
 met:=λm C F h=>⟨(G.met m C F h).ex⟩
 cls:=λC F h=>bD (G.cls C F h) λj a d=>⟨j,a,⟨d.ex⟩⟩
 fld:=G.fld
 clo:=G.clo
theorem bt.of(h:∀a,Rc c i r a j p):bt c i r j p:=λd e f g k pins s b H Q I z=>h b _ e f g k _ s b H Q I ⟨rfl,z⟩
theorem CY(h:Passes (jf c.prog c.w) c Q1):gF c o0 Q1:=λpins H s e b I a=>h _ o0 H s e b I a
def CZ(T a N b)(G:aU)(st):=
 (OC st).bind λq=>(Ur q.2).bind λc=>(cF (ck T 60 a N) (c.2.1::c.2.2)).bind λd=>(iY a N q.1).bind λj=>if c.1==b&&sP a b&&(a.names.lookup q.1==some .local)&&!(b==("__debug__"))then some (aE j (mN G d))else none
theorem zt(G:GoodO c i θ b ε g)(r:c.N.Nodup)(F:bQ c.prog c.w c.K c.mg c.base (jf c.prog c.w) b h ψ Δ (gx i E))(s:c.mg d=some (.ref h))(t:Ó c.K (.ref h)=true)(u:Binds c.K ψ Δ [])(l:Passes (jf c.prog c.w) c Q1)(st f)(a:CZ θ ε g d E st=some f):ju c i (iT i Q1) st f:=by
 obtain⟨⟨x,v⟩,v1,a⟩:=cK a;obtain⟨⟨y,A,B⟩,v2,a⟩:=cK a;refine bD (cK a) λR C a=>?_
 obtain⟨j,D,a⟩:=cK a;split at a
 rotate_left
 .cases a
 rename_i o;cases a;simp only[Ú,ċ,beq_iff_eq]at o;obtain⟨⟨⟨H,I⟩,S⟩,J⟩:=o;subst H;obtain⟨T,L,rfl⟩:=CV v1;obtain⟨U,M,rfl⟩:=GH v2;refine qb (iC D) λV X n=>xa n λY Z=>?_
 obtain⟨O,k⟩:=bO (λe m q=>fU 60 c ε g e m G q) C
 have p:c.env.scope.names.lookup x=some .local:=by rwa[G.scope]
 exact rh r (by rwa[G.names]) (.inl p) (.inr p) (kK rfl) (bt.of λP=>kW F G.room (G.gl I) s t u (CY l) J (bx (k A (by simp))) (bJ λz Q=>k z (by simp[Q])) (O _))
def C9(T a N c b G st):=
 (OE st).bind λq=>(ck T 60 a N q.1).bind λd=>(cF (ck T 60 a N) (q.2.2.2.1::q.2.2.2.2.1)).bind λe=>if q.2.1==b&&ez q.1&&(q.2.2.1.endLine==q.2.2.2.2.2.line)&&decide (q.2.2.2.2.1.length<19)then some (cJ (kU c b G d e))else none
theorem zu(G:GoodO c i θ b ε g)(r:∀a,i d a->a=C)(s:oj c.K C)(M:Meth c.K C U h)(F:bQ c.prog c.w c.K c.mg c.base (jf c.prog c.w) b h ψ Δ (gx i E))(t:Binds c.K ψ Δ [])(l:Passes (jf c.prog c.w) c Q1)(st j)(f:C9 θ ε g d U E st=some j):ju c i (iT i Q1) st j:=by
 obtain⟨⟨o,m1,L,u,x,p⟩,v1,f⟩:=cK f;refine bD (cK f) λN y f=>?_
 refine bD (cK f) λO z f=>?_
 split at f
 rotate_left
 .cases f
 rename_i n;cases f;simp at n;obtain⟨⟨⟨A,B⟩,D⟩,H⟩:=n;subst A;obtain⟨P,rfl⟩:=CW v1;obtain⟨I,k⟩:=bO (λe m q=>fU 60 c ε g e m G q) z
 refine wY (kK rfl) (bt.of λJ=>pX r s M F G.room t (CY l) ((fU 60 c ε g _ _ G y).1 _) (I _) (bx (k u (by simp))) (bJ (by simp_all)) (mD (en B) k (by exact adB H) (by simp[D])))
variable{T z5:aG}
theorem C_{e c}(f:ω t a=.exc (gZ d [(U,m)]) T)(g:e m (t.set b none) T=.nx c z5):n4 ω d U e b t a=.nx (c.set b none) z5:=by
 unfold n4;rw[f];dsimp only;rw[CU]
 simp_all
def Yb:=(bB (m2 aK (aa 1) (aa 0)) true (ah .non) (bg (aa 5)) 0 [3])
def Ut(a):=(mN (aQ a) (ae (m2 (a7 .Add) Yb (mN aV (ae (aa 5) ag))) ag))
def Uu:=(dY (m2 (aF .Is) (aa 6) (ah .non))
 (ak (aE 5 (mN aV ag))
 (ak (aE 6 (mN aV ag))
 aq))
 aq)
def Rm:=(m2 (a7 .Add) (mN aV (ae (m2 aK (aa 0) (aa 4)) ag)) (aa 6))
def Uv(a):=
 (ak (aE 5 (mN (aN .list) (ae (m2 aK (aa 1) (aa 4)) ag)))
 (ak (aE 6 (Ut a))
 (ak Uu
 (ak (ey (aa 2) (m2 aK (aa 0) (aa 4)) (aa 5))
 (ak (ey (aa 3) (m2 aK (aa 0) (aa 4)) Rm)
 aq)))))
def Rn(a):=
 (ak (aE 2 bC)
 (ak (aE 3 bC)
 (ak (dI (cY 4) (di (ae (mN (aN .len) (ae (aa 0) ag)) ag))
 (Uv a))
 (ak (bU (mN kD (ae (aa 2) (ae (aa 3) ag))))
 aq))))
def Tr(_:Nat):=True
variable{ζ:Str->List Str}
theorem Dc(o:B1 t a=.ok (.seq (.ref b)) a)(r:a[b]?=some (.lst (g.map .str)))(s:∀x∈g,∃j,p ([oS x]++ed L t) a=.ok (.ref j) a/\a[j]?=some (.lst ((ζ x).map .str)))(u:g.length<=100):
  ∃c,bB p true (ah .non) B1 0 L t a=.ok (.ref a.length) (a++[.lst (c.map .ref)])/\kM a c (g.map ζ):=by
 obtain⟨A,w,y,c,rfl,l,rfl⟩:=mG (p:=p) (X:=ah .non) (L:=L) (q:=g.map .str) (λi k f=>∃c,k=c.map .ref/\kM f c ((g.take i).map ζ)/\f=a) o ⟨[],rfl,.nil,rfl⟩
  (λi k f h=>by
   obtain⟨_,_,_,rfl⟩:=h;rw[bw,ax,av r])
  (λi d k f m h=>by
   obtain⟨c,rfl,l,rfl⟩:=h;obtain⟨x,n,rfl⟩:=fA m;obtain⟨j,e,z⟩:=s x (Î n);refine⟨_,_,e,c++[j],by simp,?_,rfl⟩
   rw[é,n,ì];exact l.snoc z) (by simp;exact cO u)
 rw[Í,û]at l;exact⟨c,y,l⟩
variable{Z:List (List Str)}{s Ξ:Nat}
theorem zv(h:a[b]?=some (.lst (L.map .ref)))(d:kM a L Z)(i:a[Ξ]?=some (.lst [.ref s]))(j:a[s]?=some (.lst (g.map .str)))(k:Z.length<=100):
  a7 .Add (.ref b) (.ref Ξ) a=.ok (.ref a.length) (a++[.lst ((L++[s]).map .ref)])/\Rw (a++[.lst ((L++[s]).map .ref)]) a.length (L++[s]) (Z++[g]):=by
 have c:=d.len;have f:=eH h i (by simp;exact cO (B' (R' c.symm) k))
 have e:L.map D.ref++[.ref s]=(L++[s]).map .ref:=by simp
 rw[e]at f;exact⟨f,aj,(d.snoc j).keep (fp:=[]) af.app (by simp)⟩
variable{L4 X:EM}
theorem n7(c:L4 t a=.ok (.ref s) T)(e:p t T=.ok (.ref b) T)(f:X t T=.ok (.str d) T)(g:T[b]?=some (.dK P))(h:P.length<=1000):ey p X L4 t a=.nx t (T.set b (.dK (d4 P (.inr d) (.ref s)))):=by
 unfold ey;rw[c,cx,e,cx,f,cx,vy g h]
variable{G6:List (Key×D)}{L5 z8:Nat}{P0 d0:Option D}
theorem Kh(hM:GA E)(hx:a[b]?=some (.lst (Δ.map .str)))(R:Rw a s L Z)(G:lZ w ζ)(hE:nms w=Δ.take z8)(g0:Δ[z8]?=some d)(w0:Δ.Nodup)(x0:Δ.length<=12)(y0:Z[z8]?=some g)(z0:g.Nodup)(H:g.length<=4)(I:∀y∈g,y∈Δ.take z8)(he:a[Ξ]?=some (.dK G6))(m0:aD Tr a G6 w)(hl:a[L5]?=some (.dK P))(J:aD Tr a P (aY (nms w) ζ))(n0:Ξ≠L5):
  ∃B o A0 C0 c0 e0 aA,Uv E [oR b,oR s,oR Ξ,oR L5,oI z8,d0,P0] a=.nx [oR b,oR s,oR Ξ,oR L5,oI z8,A0,C0] aA/\af [Ξ,L5] a aA /\
   aA[Ξ]?=some (.dK c0)/\aD Tr aA c0 (w++[(d,B)])/\aA[L5]?=some (.dK e0)/\aD Tr aA e0 (aY (nms (w++[(d,B)])) (λb=>if b=d then d::o else ζ b))/\lZ (w++[(d,B)]) (λb=>if b=d then d::o else ζ b):=by
 have o0:=(Ç.mp g0).1
 have D0:w.length=z8:=by
  have:(nms w).length=w.length:=by simp[nms]
  rw[hE,ý]at this;omega
 have h0:d∉nms w:=by
  rw[hE];intro hm;obtain⟨j,C,h⟩:=eQ hm;have:=(ņ (ā C o0) w0).mp (h.trans g0.symm);exact Ò _ (Ø (R' this.symm) C)
 rw[←hE]at I;refine bD (R.al.at y0) λj0 G0 p0=>?_
 have I0:aK (.ref s) (.int z8) a=.ok (.ref j0) a:=bY R.ce (L2.cH (b:=z8) (by simp[G0]))
 have r1:(aE 5 (mN (aN .list) (ae (m2 aK (aa 1) (aa 4)) ag))) [oR b,oR s,oR Ξ,oR L5,oI z8,d0,P0] a=.nx [oR b,oR s,oR Ξ,oR L5,oI z8,oR a.length,P0] (a++[.lst (g.map .str)]):=by
  rw[bj]
  have:(mN (aN .list) (ae (m2 aK (aa 1) (aa 4)) ag)) [oR b,oR s,oR Ξ,oR L5,oI z8,d0,P0] a=.ok (.ref a.length) (a++[.lst (g.map .str)]):=by
   show(((aK (.ref s) (.int z8) a).bind _).bind _)=_
   rw[I0];exact cA p0
  rw[this];rfl
 have g1:(a++[Cell.lst (g.map .str)])[a.length]?=some (.lst (g.map .str)):=aj;have K1:af [] a (a++[Cell.lst (g.map .str)]):=af.app;generalize a++[Cell.lst (g.map .str)]=u at *;have J0:=K1.get _ _ hl (by simp)
 have q0:=J.keep K1 (by simp)
 have K0:bg (aa 5) [oR b,oR s,oR Ξ,oR L5,oI z8,oR a.length,P0] u=.ok (.seq (.ref a.length)) u:=by
  rw[cf];exact aM (by rw[ax,av g1])
 refine bD (Dc (ζ:=ζ) (p:=m2 aK (aa 1) (aa 0)) (L:=[3]) K0 g1 (λy hy=>by
  refine br (q0.at (n:=y) (by rw[aR];exact I y hy)) λj hv _ C=>?_
  rw[cD (I y hy)]at C;exact⟨j,et (.inl J0) hv,C⟩) (cO H)) λA e2 h2=>?_
 have g2:(u++[Cell.lst (A.map .ref)])[u.length]?=some (.lst (A.map .ref)):=aj;have K2:af [] u (u++[Cell.lst (A.map .ref)]):=af.app;have e2:Yb [oR b,oR s,oR Ξ,oR L5,oI z8,oR a.length,P0] u=.ok (.ref u.length) (u++[.lst (A.map .ref)]):=e2;generalize u++[Cell.lst (A.map .ref)]=k at *;have g3:(k++[Cell.lst [.ref a.length]])[k.length]?=some (.lst [.ref a.length]):=aj;have K3:af [] k (k++[Cell.lst [.ref a.length]]):=af.app
 have e3:(mN aV (ae (aa 5) ag)) [oR b,oR s,oR Ξ,oR L5,oI z8,oR a.length,P0] k=.ok (.ref k.length) (k++[.lst [.ref a.length]]):=by
  show aV [.ref a.length] k=_
  rw[fO,if_pos (aW (by simp))]
 generalize k++[Cell.lst [.ref a.length]]=V at *;have Y:=K2.trans K3;obtain⟨e4,R4⟩:=zv (K3.get _ _ g2 (by simp)) (h2.keep Y (by simp)) g3 (Y.get _ _ g1 (by simp)) (by simp;exact cO H)
 have K4:af [] V (V++[Cell.lst ((A++[a.length]).map .ref)]):=af.app;generalize V++[Cell.lst ((A++[a.length]).map .ref)]=L0 at *;refine aJ (hM L0 V.length (A++[a.length]) _ R4 (by simp;exact cO H) (by have:=G.CN I (cO H);exact cO this)) λN i e5 K5 hd=>?_
 have r2:aE 6 (Ut E) [oR b,oR s,oR Ξ,oR L5,oI z8,oR a.length,P0] u=.nx [oR b,oR s,oR Ξ,oR L5,oI z8,oR a.length,some N] i:=by
  rw[bj];unfold Ut;rw[dJ,a5,dj,e2,au,e3,au,e4,au,bh,au,au,tS,e5];rfl
 have M0:af [] a i:=((K1.trans Y).trans K4).trans K5;have R0:=((Y.trans K4).trans K5).get _ _ g1 (by simp)
 have hI:∃B o c f l,Uu [oR b,oR s,oR Ξ,oR L5,oI z8,oR a.length,some N] i=.nx [oR b,oR s,oR Ξ,oR L5,oI z8,oR c,oR f] l/\af [] i l/\l[c]?=some (.lst (B.map .str))/\l[f]?=some (.lst (o.map .str))/\B.Nodup/\B.length<=4/\(∀y∈B,y∈nms w)/\Mg (B.map ζ++[B]) o:=by
  rcases hd with rfl|⟨o,q,rfl,hq,M,_⟩
  .refine⟨[],[],i.length,i.length+1,(i++[.lst []])++[.lst []],?_,af.app.trans af.app,cu aj,?_,by simp,by simp,by simp,.done (by simp)⟩
   .have a1:(mN aV ag) [oR b,oR s,oR Ξ,oR L5,oI z8,oR a.length,some .non] i=.ok (.ref i.length) (i++[.lst []]):=by rw[dJ,bh,au,fO,if_pos (aW (by simp))]
    have a2:(mN aV ag) [oR b,oR s,oR Ξ,oR L5,oI z8,oR i.length,some .non] (i++[.lst []])=.ok (.ref (i.length+1)) ((i++[.lst []])++[.lst []]):=by
     rw[dJ,bh,au,fO,if_pos (aW (by simp))]
     simp
    unfold Uu
    simp_all
   .have:=aj (a:=i++[Cell.lst []]) (N4:=.lst []) (T:=[])
    simpa using this
  .exact⟨g,o,a.length,q,i,rfl,af.refl,R0,hq,z0,H,I,M⟩
 obtain⟨B,o,c,f,l,r3,K6,ha,hb,q1,q2,q3,M⟩:=hI;have F:=M0.trans K6;obtain⟨G',S0⟩:=G.snoc h0 (U' (Ø (R' D0) o0) x0) q1 q2 q3 M
 have O:∀(k:aG) (b5 b6:Option D),af [Ξ,L5] a k->(m2 aK (aa 0) (aa 4)) [oR b,oR s,oR Ξ,oR L5,oI z8,b5,b6] k=.ok (.str d) k:=λk b5 b6 K=>by
  have n1:b≠Ξ:=λz=>by
   rw[z,he]at hx;cases hx
  have n2:b≠L5:=λz=>by
   rw[z,hl]at hx;cases hx
  have T0:=K.get _ _ hx (by simp[n1,n2])
  show aK (.ref b) (.int z8) k=_
  exact bY T0 (L2.cH (b:=z8) (by simp[g0]))
 have Q:=F.get _ _ he (by simp)
 have V0:=F.get _ _ hl (by simp)
 have r0:=m0.keep F (by simp)
 have s0:=J.keep F (by simp)
 have W0:G6.length<=1000:=by have:=m0.len;omega
 have X0:P.length<=1000:=by have:=CH J;omega
 have r4:=n7 (t:=[oR b,oR s,oR Ξ,oR L5,oI z8,oR c,oR f]) (p:=aa 2) (X:=m2 aK (aa 0) (aa 4)) (L4:=aa 5) (a:=l) (T:=l) (s:=c) rfl rfl (O l _ _ (F.sub (by simp))) Q W0
 have K7:af [Ξ] l (l.set Ξ (.dK (d4 G6 (.inr d) (.ref c)))):=af.set (by simp)
 have Y0:=aT (e:=.dK (d4 G6 (.inr d) (.ref c))) Q;have t0:=(r0.put h0 (j:=c) (r:=B) trivial ha).cy K7 (λj C ds=>by rw[Ã.mp C,Q];simp)
 have u0:=s0.cy K7 (λj C ds=>by rw[Ã.mp C,Q];simp)
 have b1:=K7.get _ _ V0 (by simpa using Ê n0)
 have c1:=K7.get _ _ hb (by
  simp;exact λz=>by rw[z,Q]at hb;cases hb)
 have i0:af [Ξ,L5] a (l.set Ξ (.dK (d4 G6 (.inr d) (.ref c)))):=(F.sub (by simp)).trans (K7.sub (by simp))
 generalize l.set Ξ (.dK (d4 G6 (.inr d) (.ref c)))=m at *;have g8:(m++[Cell.lst [.str d]])[m.length]?=some (.lst [.str d]):=aj;have K8:af [] m (m++[Cell.lst [.str d]]):=af.app
 have e8:(mN aV (ae (m2 aK (aa 0) (aa 4)) ag)) [oR b,oR s,oR Ξ,oR L5,oI z8,oR c,oR f] m=.ok (.ref m.length) (m++[.lst [.str d]]):=by
  rw[dJ,a5,O m _ _ i0,au,bh,au,au,fO,if_pos (aW (by simp))]
 generalize m++[Cell.lst [.str d]]=x at *
 have f1:o.length<=13:=by
  have:=G'.short (d:=d) (by simp[nms])
  simp at this;exact aa3 this
 have e9:=eH g8 (K8.get _ _ c1 (by simp)) (by simp;omega)
 have ev:Rm [oR b,oR s,oR Ξ,oR L5,oI z8,oR c,oR f] m=.ok (.ref x.length) (x++[.lst ([.str d]++o.map .str)]):=by
  unfold Rm;have:aa 6 [oR b,oR s,oR Ξ,oR L5,oI z8,oR c,oR f] x=.ok (.ref f) x:=rfl;rw[dj,e8,au,this,au,e9]
 have g9:(x++[Cell.lst ([.str d]++o.map .str)])[x.length]?=some (.lst ((d::o).map .str)):=aj;have K9:af [] m (x++[Cell.lst ([.str d]++o.map .str)]):=K8.trans af.app;generalize x++[Cell.lst ([.str d]++o.map .str)]=S at *;have a0:=K9.get _ _ b1 (by simp)
 have r5:=n7 (t:=[oR b,oR s,oR Ξ,oR L5,oI z8,oR c,oR f]) (p:=aa 3) (X:=m2 aK (aa 0) (aa 4)) (L4:=Rm) (a:=m) (T:=S) (s:=x.length) ev rfl (O S _ _ (i0.trans (K9.sub (by simp)))) a0 X0
 have b0:af [L5] S (S.set L5 (.dK (d4 P (.inr d) (.ref x.length)))):=af.set (by simp)
 have l0:nms (w++[(d,B)])=nms w++[d]:=by simp[nms]
 have v0:aY (nms w) ζ++[(d,d::o)]=aY (nms (w++[(d,B)])) (λb=>if b=d then d::o else ζ b):=by
  rw[l0];unfold aY;rw[ì]
  congr 1
  .refine Ĳ λy hy=>?_
   show(y,ζ y)=(y,if y=d then d::o else ζ y)
   rw[S0 y hy]
  .simp
 have U:=((u0.keep K9 (by simp)).put (n:=d) (by rw[aR];exact h0) (j:=x.length) (r:=d::o) trivial g9).cy b0 (λj C ds=>by rw[Ã.mp C,a0];simp)
 rw[v0]at U;have e1:∀j∈[L5],∀ds,S[j]?≠some (.lst ds):=λj C ds=>by rw[Ã.mp C,a0];simp
 refine⟨B,o,oR c,oR f,_,_,_,?_,(i0.trans (K9.sub (by simp))).trans (b0.sub (by simp)),b0.get _ _ (K9.get _ _ Y0 (by simp)) (by simpa using n0),(t0.keep K9 (by simp)).cy b0 e1,aT a0,U,G'⟩
 unfold Uv;rw[ai,r1,aH,ai,r2,aH,ai,r3,aH,ai,r4,aH,ai,r5];rfl
def GI(h:aU):=∀f x k j b g,f[x]?=some (.lst (b.map .str))->Rw f k j g->g.length=b.length->b.Nodup->b.length<=12->(∀i r,g[i]?=some r->r.Nodup/\r.length<=4/\∀y∈r,y∈b.take i) ->
 ∃E L e l c d a,h [.ref x,.ref k] f=.ok (.tup [.ref e,.ref l]) a/\af [] f a/\nms E=b/\lZ E L/\a[e]?=some (.dK c)/\aD Tr a c E/\a[l]?=some (.dK d)/\aD Tr a d (aY b L)/\e≠l
theorem OH(hM:GA E):GI (bN 7 2 (Rn E)):=by
 intro f x k js I rs T R M N q hr;rw[ba (by rfl)]
 have e0:aZ 7 [D.ref x,.ref k]=[oR x,oR k,none,none,none,none,none]:=rfl;rw[e0];have K1:af [] f (f++[Cell.dK []]):=af.app;have g1:(f++[Cell.dK []])[f.length]?=some _:=aj;have w:(f++[Cell.dK []]).length=f.length+1:=by simp
 have r1:aE 2 bC [oR x,oR k,none,none,none,none,none] f=.nx [oR x,oR k,oR _,none,none,none,none] _:=rfl;generalize f++[Cell.dK []]=b at *;have U:af [] b (b++[Cell.dK []]):=af.app;have g2:(b++[Cell.dK []])[b.length]?=some (.dK []):=aj;have r2:aE 3 bC [oR x,oR k,oR _,none,none,none,none] b=.nx [oR x,oR k,oR f.length,oR _,none,none,none] _:=rfl;generalize b++[Cell.dK []]=n at *;have s:=K1.trans U;have y:=s.get _ _ T (by simp)
 have R2:=R.keep s;have V:=bb T;have X:=bb R.ce;have lj:=R.al.lt;have z:f.length≠b.length:=O' (R' w.symm);have A:=eo y;rw[Í]at A
 have O:di (ae (mN (aN .len) (ae (aa 0) ag)) ag) [oR x,oR k,oR f.length,oR b.length,none,none,none] n=.ok (.ints 0 I.length) n:=by
  have:(mN (aN .len) (ae (aa 0) ag)) [oR x,oR k,oR f.length,oR b.length,none,none,none] n=.ok _ n:=A;rw[jY,a5,this,au,bh,au,au,mF,if_pos (eE (ę _) (DL q)),ś]
 unfold Rn;rw[ai,r1,aH,ai,r2,aH,ai,cq,O,cx]
 refine bE (R:=λr=>∃a L e l g h m,fb (sq r _)=.ok (.tup [.ref e,.ref l]) m/\af [] f m/\nms a=I/\lZ a L/\m[e]?=some (.dK g)/\aD Tr m g a/\m[l]?=some (.dK h)/\aD Tr m h (aY I L)/\e≠l)
  (λi P c=>∃a L g h J B C,P=[oR x,oR k,oR _,oR _,J,B,C]/\af [f.length,b.length] n c/\nms a=I.take i/\lZ a L/\c[f.length]?=some (.dK g)/\aD Tr c g a/\c[b.length]?=some (.dK h)/\aD Tr c h (aY (nms a) L)) (λ_ _ _ _=>rfl) ?_ ?_ fuel 0 _ _ (by rw[cR];unfold fuel;exact oi (B' (õ _ _) q)) (Ë _) ⟨[],λ_=>[],[],[],none,none,none,rfl,af.refl,rfl,lZ.nil,(U.get _ _ g1 (by simp)),.nil,g2,.nil⟩
 .rintro i d P c hd ⟨a,L,g,h,J,B,C,rfl,K,u,G,Q,t,S,p⟩
  obtain⟨rfl,Y⟩:=eF hd;have F:=ä Y;have H:rs[i]?=some _:=ä (U' Y (R' M.symm));obtain⟨p1,p2,p3⟩:=hr i _ H;refine⟨[oR x,oR k,oR _,oR _,some _,B,C],rfl,?_⟩;rw[aaw];obtain⟨r',o,b5,b6,Z,a0,b0,e4,K4,q1,q2,q3,q4,G4⟩:=Kh hM (K.get _ _ y (by simp;exact⟨O' V,O' (ā V (R' w.symm))⟩)) (R2.xJ K (by simp;exact⟨O' X,O' (ā X (R' w.symm))⟩) (λj hj=>by have:=lj j hj;simp;exact⟨O' this,O' (ā this (R' w.symm))⟩)) G u F N q H p1 p2 p3 Q t S p z
  rw[e4];refine⟨_,_,_,_,_,_,_,rfl,K.trans K4,?_,G4,q1,q2,q3,q4⟩;rw[é,F,←u];simp[nms]
 .rintro P c ⟨a,L,g,h,J,B,C,rfl,K,u,G,Q,t,S,p⟩
  rw[cR,û]at u;rw[u]at p;refine⟨a,L,_,_,g,h,c,?_,af.new s K (by simp;exact ñ (R' w.symm)),u,G,Q,t,S,p,z⟩
  rw[aH,ai]
  have:(mN kD (ae (aa 2) (ae (aa 3) ag))) [oR x,oR k,oR f.length,oR b.length,J,B,C] c=.ok (.tup [.ref f.length,.ref b.length]) c:=by
   rfl
  rfl
theorem bu.dZ{c e b a d}(h:bu c a d)(he:bu c e b):bu (c.set e (.dF b)) a d:=by
 by_cases z:a=e
 .subst z
  have:d=b:=by
   rcases h with h|h<;>rcases he with he|he<;>rw[h]at he<;>cases he<;>rfl
  subst this;exact .inr (CB he)
 .exact h.imp (λy=>cB y z) λy=>cB y z
theorem bR.dZ{b e h a E P L}(H:bR P b h E L)(c:bu b e a):bR P (b.set e (.dF a)) h E L:=by
 refine bc H λi l k m f n o p q=>?_
 have K:af [e] b (b.set e (.dF a)):=af.set (by simp)
 have g:∀j∈[e],∀d,b[j]?≠some (.lst d):=λj r d=>by rw[Ã.mp r];exact c.nl d
 exact⟨i,l,k,_,cB f (λz=>c.ni _ _ (z▸f)),n.dZ c,o.cy K g,p.dZ c,q.cy K g⟩
theorem bR.hlt(H:bR ς a b w ζ):b<a.length:=by
 refine fQ H λ_ _ _ _ z _=>bb z
theorem bR.nl(H:bR ς a b w ζ):a[b]?≠some (.lst q):=by
 refine fQ H λ_ _ _ _ z _=>?_
 rw[z];simp
def Ro(a:Key×D):D:=.tup [kE a.1,a.2]
theorem GJ(h:a[b]?=some (.dF P)):ek (.items b) a=some (P.map Ro):=by simp only[ek,h];rfl
def Uw(a:aU):=
 (ak (aE 4 (mN (aN .list) (ae (aa 3) ag)))
 (ak (cJ (bA "House" "add" (λb=>a (b++[.non])) (aa 1) (ae (aa 2) (ae (aa 4) ag))))
 (ak (cJ (d_ kF bT (aa 4) (ae (ah (.str "zz")) ag)))
 aq)))
def Rp(a b):=
 (ak (aE 1 (mN (nI "House" a) ag))
 (ak (dI (fy [2,3]) (rf (aa 0))
 (Uw b))
 (ak (bU (aa 1))
 aq)))
theorem Ki(D:Gr E)(H:bR Tr a b (w.take Ξ) ζ)(G:lZ w ζ)(n:w[Ξ]?=some (d,g))(F:Gn d)(I:a[s]?=some (.lst (g.map .str))):
  ∃o aA,Uw E [d0,oR b,oS d,oR s,P0] a=.nx [d0,oR b,oS d,oR s,o] aA/\bR Tr aA b (w.take (Ξ+1)) ζ/\af [b] a aA:=by
 have p:=(Ç.mp n).1;have i:=G.len;have e:w.take (Ξ+1)=w.take Ξ++[(d,g)]:=by rw[é,n];rfl
 have j:=G.take (Ξ+1);refine qb (G.el Ξ _ n) λJ l V=>?_
 have l:g.length<=5:=B' l (by decide)
 have K:(aE 4 (mN (aN .list) (ae (aa 3) ag))) [d0,oR b,oS d,oR s,P0] a=.nx [d0,oR b,oS d,oR s,oR a.length] (a++[.lst (g.map .str)]):=by
  rw[bj];have:(mN (aN .list) (ae (aa 3) ag)) [d0,oR b,oS d,oR s,P0] a=.ok _ _:=cA I;rw[this];rfl
 have y:(a++[Cell.lst (g.map .str)])[a.length]?=some _:=aj;have q:af [] a (a++[Cell.lst (g.map .str)]):=af.app;have L:(a++[Cell.lst (g.map .str)]).length=a.length+1:=by simp
 have A:=(H.lt.imp (P':=λx=>x≠a.length) (by grind)).keep q
 have M:=H.hlt;generalize a++[Cell.lst _]=h at *
 refine br (D h b _ _ ζ ζ _ d g A y F (by
  have:=j.nd;rw[e]at this;simp only[nms,ì,ú,abl]at this;have N:=(Ę.mp this).2.2;exact λz=>N d z d (by simp) rfl) (U' (Ø (List.length_take_le _ _) p) i) J l (by rwa[nX]) (by rw[←e];exact j.gd) (by rw[←e];exact j.Zj) (by
  rw[←e];intro m O;have:=j.short O;exact cO this) (λx P=>Ö (U' (R' L.symm) P))) λf X B r=>?_
 rw[←e]at B
 have Q:(cJ (bA "House" "add" (λR=>E (R++[.non])) (aa 1) (ae (aa 2) (ae (aa 4) ag)))) [d0,oR b,oS d,oR s,oR a.length] h=.nx [d0,oR b,oS d,oR s,oR a.length] f:=by
  rw[bW,dv A rfl (by decide)]
  show cb (pQ (E [.ref b,.str d,.ref _,.non] h)) _=_
  simp_all
 have t:=r.get _ _ y (by simp;exact Ö M)
 have S:=dX (m:=.str "zz") t (by simp;exact cO l)
 have T:(cJ (d_ kF bT (aa 4) (ae (ah (.str "zz")) ag))) [d0,oR b,oS d,oR s,oR a.length] f=.nx [d0,oR b,oS d,oR s,oR a.length] (f.set a.length (.lst (g.map .str++[.str "zz"]))):=by
  rw[bW,eA rfl (dz t)]
  simp_all
 have u:af [a.length] f (f.set a.length (.lst (g.map .str++[.str "zz"]))):=af.set (by simp)
 refine⟨oR a.length,_,?_,(B.CG u t (by simp)).imp λ_ _=>trivial,⟨B' q.len (B' r.len u.len),λk c C U=>u.get k c (r.get k c (q.get k c C (by simp)) U) (by have:=bb C;simp;exact O' this)⟩⟩
 unfold Uw;rw[ai,K,aH,ai,Q,aH,ai,T];rfl
def GK(d:aU):=∀c e b E L,bu c e b->aD Tr c b E->lZ E L->(∀n∈nms E,Gn n) ->
 ∃h a,d [.ref e] c=.ok (.ref h) a/\bR Tr a h E L/\af [e] c a/\a[e]?=some (.dF b)/\c.length<=h
variable{J0:aU}
theorem OI(X:CI E)(Y:Gr J0):GK (bN 5 1 (Rp E J0)):=by
 intro m e o b L P Q G Z;rw[ba (by rfl)]
 have e0:aZ 5 [D.ref e]=[oR e,none,none,none,none]:=rfl;rw[e0];refine br (X m L Tr) λf e1 H1 u=>?_
 have r1:(aE 1 (mN (nI "House" E) ag)) [oR e,none,none,none,none] m=.nx [oR e,oR m.length,none,none,none] f:=by
  simp_all
 have g:=P.keep u (by simp)
 have A:=Q.keep u (by simp)
 have H2:=H1.dZ g;have S:=CB g;have B:af [e] f (f.set e (.dF o)):=af.set (by simp)
 have C:=A.cy B (λj p T=>by rw[Ã.mp p];exact g.nl T)
 have F:rf (aa 0) [oR e,oR m.length,none,none,none] f=.ok _ _:=NT g;have le:=P.lt;generalize f.set e _=H at *;have U:=G.len;have I:=Q.len;unfold Rp;rw[ai,r1,aH,ai,cq,F,cx]
 refine bE (R:=λr=>∃h l,fb (sq r _)=.ok (.ref h) l/\bR Tr l h b L/\af [e] m l/\l[e]?=some _/\m.length<=h) (q:=o.map Ro)
  (λi w a=>∃J M x,w=[oR e,oR _,J,M,x]/\bR Tr a m.length (b.take i) L/\af [m.length] H a) ?_ ?_ ?_ fuel 0 _ _ (by rw[Í];unfold fuel;omega) (Ë _) ⟨none,none,none,rfl,by simp_all,af.refl⟩
 .rintro i w a ⟨_,_,_,_,_,K⟩
  exact GJ (K.get _ _ S (by simp;omega))
 .rintro i d w a s ⟨J,M,x,rfl,y,K⟩
  rw[î]at s;obtain⟨kv,N,rfl⟩:=å.mp s;obtain⟨⟨n,r⟩,V,z,j,p,_,t⟩:=aI.get (C.cy K (λj p T=>by rw[Ã.mp p];exact H2.nl)) N
  have O:Ro kv=.tup [.str n,.ref j]:=by
   unfold Ro;rw[z,p];rfl
  rw[O];refine⟨[oR e,oR _,oS n,oR j,x],rfl,?_⟩;obtain⟨a0,b0,e4,H4,K4⟩:=Ki Y y G V (Z n (Î (iM V))) t;rw[e4];exact⟨_,_,_,rfl,H4,K.trans K4⟩
 .rintro w a ⟨J,M,x,rfl,y,K⟩
  rw[Í,←I,û]at y;refine⟨_,a,rfl,y,⟨B' u.len (B' B.len K.len),λk c z hn=>K.get k c (B.get k c (u.get k c z (by simp)) hn) (by have:=bb z;simp;exact O' this)⟩,K.get _ _ S (by simp;omega),W' _⟩
theorem OJ(h:a[b]?=some (.lst q)):fx .list (.ref b) a=.ok (.bl true) a:=by
 unfold fx;simp only[EV,Fq,h];rfl
def Yc:=(bB (m1 (fx .str) (aa 0)) true (ah .non) (bg (aa 0)) 0 [])
def Rq:=(ak (bU (ij (m1 (fx .list) (aa 0)) (mN (aN .all) (ae Yc ag)))) aq)
def GL(d:aU):=∀c j (a:List Str),c[j]?=some (.lst (a.map .str))->a.length<=1000->∃b,d [.ref j] c=.ok (.bl true) b/\af [] c b
theorem OK:GL (bN 1 1 Rq):=by
 intro c j d h i;rw[ba (by rfl)]
 have e:aZ 1 [D.ref j]=[oR j]:=rfl;rw[e]
 obtain⟨a,b,f⟩:=vv (t:=[oR j]) (p:=m1 (fx .str) (aa 0)) (B1:=bg (aa 0)) (L:=[]) (lL:=λ_=>true) h (by
  rw[cf];exact aM (by rw[ax,av h])) (λx _=>rfl) (by omega)
 have:(d.all λ_=>true)=true:=by simp
 rw[this]at b;refine⟨a,?_,f⟩;unfold Rq;have g:(m1 (fx .list) (aa 0)) [oR j] c=.ok (.bl true) c:=OJ h;have b:(mN (aN .all) (ae Yc ag)) [oR j] c=.ok (.bl true) a:=b;rw[ai,ff,jW,g,au,cX,pR,b];rfl
theorem GN:∃e,fK e (pureOf (bN 8 3 pT)):=by
 have h:∀c t m:Int,∃r,0<=t->t<100000->0<m->0<=r/\r<m/\pureOf _ _=.ok _:=λc t m=>by
  by_cases d:0<=t/\t<100000/\0<m
  .refine br (Ga (Q:=c) d.1 d.2.1 d.2.2) λr f g i=>⟨r,λ_ _ _=>⟨f,g,i⟩⟩
  .exact⟨0,λa b c=>absurd ⟨a,b,c⟩ d⟩
 exact⟨_,λc t m=>(h c t m).choose_spec⟩
def n_:=
 (ak (dY (m2 (aF .Lt) (aa 1) (mN (aN .len) (ae (aa 0) ag)))
 (ak (bU (m2 aK (aa 0) (aa 1)))
 aq)
 aq)
 (ak (bU (ah (.int 0)))
 aq))
theorem OL(a):Nt (SC a)=true:=by
 show(a.map _).all _=true
 rw[ù];intro d b;obtain⟨i,_,rfl⟩:=ë.mp b;rfl
theorem De:h9 (λb k=>b.getD k 0) (pureOf (bN 2 2 n_)):=by
 intro b k;have f:aZ 2 [SC b,D.int k]=[some _,some _]:=rfl
 have c:aN .len [SC b] []=.ok (.int b.length) []:=by
  show ay.ok _ []=_
  simp_all
 refine pS (a:=[]) (by
  simp only[į,OL,List.all_nil];rfl) ?_ rfl
 rw[ba (by rfl),f]
 by_cases h:k<b.length
 .have d:=by omega
  have e:L2.lp (b.map D.int) (k)=some (.int (b.getD k 0)):=L2.cH (by simp[h])
  have g:aK (SC b) (.int k) []=.ok (.int (b.getD k 0)) []:=by
   show jj (ixs [] (some _) (.int k)) _=_
   rw[Cn e];rfl
  simp[n_,c,d,g,-List.getD_eq_getElem?_getD]
 .have d:=by omega
  have e:b.getD k 0=0:=by simp_all
  show _=ay.ok (D.int (b.getD k 0)) []
  simp[n_,c,d]
def zw(i j:Nat):=(m2 (a7 .Add) (cp (aa i) false (aa j) true (ah .non)) (cp (aa i) true (ah .non) false (aa j)))
theorem vE(l:t[b]?=some (oR Ξ))(m:t[s]?=some (oI L5))(h:a[Ξ]?=some (.lst (g.map .str)))(n:g.length<=1000):∃k aA,zw b s t a=.ok (.ref k) aA/\aA[k]?=some (.lst ((g.drop L5++g.take L5).map .str))/\af [] a aA/\a.length<=k:=by
 have o:=vu (s:=L5) h;have i:(a++[Cell.lst ((g.drop L5).map .str)])[a.length]?=some _:=aj;have d:af [] a (a++[Cell.lst ((g.drop L5).map .str)]):=af.app;generalize a++[Cell.lst _]=c at *;have p:=kO (s:=L5) (d.get _ _ h (by simp))
 have j:(c++[Cell.lst ((g.take L5).map .str)])[c.length]?=some _:=aj;have e:af [] _ (c++[Cell.lst ((g.take L5).map .str)]):=af.app;generalize c++[Cell.lst _]=f at *;have q:=eH (e.get _ _ i (by simp)) j (by simp;omega)
 refine⟨_,f++[.lst _],?_,aj,(d.trans e).trans af.app,(d.trans e).len⟩;unfold zw
 simp_all
theorem oa(a:List Str):(a.drop b++a.take b).Perm a:=by
 have:=(abN (l₁:=a.drop b) (l₂:=a.take b))
 simp_all
def vF(S:Str):=S.cps.toList.length=8/\∀x∈S.cps.toList,97<=x/\x<=122
theorem Kj(a b c d e f g h):uP .join (.str "") (.tup [.lst [.str (bS a),.str (bS b),.str (bS c),.str (bS d),.str (bS e),.str (bS f),.str (bS g),.str (bS h)]])=.ok (false,.str ⟨#[a,b,c,d,e,f,g,h]⟩):=rfl
def Yd(F:List D->Out Rs):=(bB (m2 aK (aa 2) (mN (cE F) (ae (aa 1) (ae (aa 0) (ae (ah (.int 26)) ag))))) true (ah .non) (di (ae (ah (.int 8)) ag)) 0 [0,2])
def Rr(F:List D->Out Rs):=(d_ Nj tq (ah (.str "")) (ae (Yd F) ag))
variable{D6 G5 M1 Q3 Y3 Y8 Z8:Option D}{F4:Int->Int->Int->Int}{Q:Int}{W1:List D->Out Rs}
theorem Kk(b:fK F4 W1):∃S aA,Rr W1 [oI Q,d0,oS abc,P0,M1,Q3,Y3,G5,D6,Y8,Z8] a=.ok (.str S) aA/\vF S/\af [] a aA:=by
 have c:oz 8=true:=eE (by decide) (by decide)
 have h:=du (a:=a) (T:=a) (t:=[oI Q,d0,oS abc,P0,M1,Q3,Y3,G5,D6,Y8,Z8]) (p:=m2 aK (aa 2) (mN (cE W1) (ae (aa 1) (ae (aa 0) (ae (ah (.int 26)) ag))))) (v:=true) (X:=ah .non) (B1:=di (ae (ah (.int 8)) ag)) (L:=[0,2]) (N3:=.ints 0 8)
  (Q6:=λd=>match d with|.int j=>.str (bS (97+(F4 Q j 26).toNat))|_=>.non) (by simp[c]) rfl (λd e=>rfl) (λd e _=>by
   obtain⟨i,l⟩:=è.mp e;obtain⟨rfl,m⟩:=eF l;obtain⟨f,g,q⟩:=b Q (0+(i)) 26 (ę _) (by omega) (by decide)
   generalize (0)+(i:Int)=j at *;simp[ed,q,(wK f g)]) (by rw[cR];omega)
 rw[ı.mpr (by simp)]at h
 have n:∀j,0<=j->j<100000->97<=97+(F4 Q j 26).toNat/\97+(F4 Q j 26).toNat<=122:=λj o r=>by
  obtain⟨f,g,_⟩:=b Q j 26 o r (by decide)
  omega
 refine⟨⟨#[97+(F4 Q (0+0) 26).toNat,97+(F4 Q (0+1) 26).toNat,97+(F4 Q (0+2) 26).toNat,97+(F4 Q (0+3) 26).toNat,97+(F4 Q (0+4) 26).toNat,97+(F4 Q (0+5) 26).toNat,97+(F4 Q (0+6) 26).toNat,97+(F4 Q (0+7) 26).toNat]⟩,_,?_,?_,af.app (T:=[.lst ((intsFrom 0 8).map λd=>match d with|.int j=>.str (bS (97+(F4 Q j 26).toNat))|_=>.non)])⟩
 .unfold Rr
  rw[eA rfl rfl]
  have s:gJ (a++[.lst ((intsFrom 0 8).map λd=>match d with|.int j=>.str (bS (97+(F4 Q j 26).toNat))|_=>.non)]) 8 _=some (.lst [.str (bS (97+(F4 Q (0+0) 26).toNat)),.str _,.str (bS (97+(F4 Q (0+2) 26).toNat)),.str (bS (97+(F4 Q (0+3) 26).toNat)),.str (bS (97+(F4 Q (0+4) 26).toNat)),.str (bS (97+(F4 Q (0+5) 26).toNat)),.str (bS (97+(F4 Q (0+6) 26).toNat)),.str (bS (97+(F4 Q (0+7) 26).toNat))]):=
   mE aj rfl
  unfold Yd;rw[a5,h];simp only[au,bh,tq,xC,rz,s,xB,Kj,FV]
 .refine⟨rfl,λx k=>?_⟩
  simp only[Õ,aap,or_false]at k;rcases k with rfl|rfl|rfl|rfl|rfl|rfl|rfl|rfl<;>exact n _ (by decide) (by decide)
noncomputable def kX(S:Str)(i:Nat):Str:=⟨(S.cps.toList.take (i+1)).toArray⟩
theorem OM(h:vF d){i}(a:i<8):Gn (kX d i):=by
 have b:(kX d i).length=i+1:=by
  show(d.cps.toList.take _).toArray.size=_
  have:=h.1
  grind
 refine⟨by omega,B' (R' b) a,λx c=>h.2 x (Ŧ (i:=i+1) ?_)⟩
 have:(kX d i).cps.toList=d.cps.toList.take _:=rfl
 simp_all
theorem Kl(h:vF d)(k:b<=8):((Â b).map (kX d)).Nodup:=by
 refine adI.mpr (adJ (λ{a c} f g e i=>e ?_) (adK))
 have l:=Ō.mp f;have m:=Ō.mp g;have n:=h.1;have j:=congrArg (λz=>z.cps.toList.length) i
 simp only[kX,ý]at j;omega
def Ux:=(bB (cp (aa 1) true (ah .non) false (m2 (a7 .Add) (aa 0) (ah (.int 1)))) true (ah .non) (di (ae (aa 1) ag)) 0 [3])
theorem Km(h:vF d)(l:b<=12):Ux [d0,oI b,P0,oS d,M1,Q3,Y3,G5,D6,Y8,Z8] a=.ok (.ref a.length) (a++[.lst (((Â b).map (kX d)).map .str)]):=by
 have f:oz (b)=true:=eE (ę _) (DL l);have g:d.length=8:=by simpa[aam]using h.1
 have k:small d.length=true:=aW (cO (R' g))
 have m:=du (a:=a) (T:=a) (t:=[d0,oI b,P0,oS d,M1,Q3,Y3,G5,D6,Y8,Z8]) (p:=cp (aa 1) true (ah .non) false (m2 (a7 .Add) (aa 0) (ah (.int 1)))) (v:=true) (X:=ah .non) (B1:=di (ae (aa 1) ag)) (L:=[3]) (N3:=.ints 0 b)
  (Q6:=λc=>match c with|.int j=>.str ⟨(dq d.cps.toList none (some (j+1))).toArray⟩|_=>.non) (by simp[f]) rfl (λc n=>rfl) (λc n _=>by
   obtain⟨i,o⟩:=è.mp n;obtain⟨rfl,q⟩:=eF o;simp[ed,k]) (by rw[cR];exact cO l)
 rw[ı.mpr (by simp),kA,à]at m
 have e:((Â b).map ((λc=>match c with|.int j=>D.str ⟨(dq d.cps.toList none (some (j+1))).toArray⟩|_=>.non) ∘ λ(i:Nat)=>D.int i))=((Â b).map (kX d)).map .str:=by
  rw[à];refine Ĳ λi _=>?_
  show D.str ⟨_⟩=.str _
  rw[show(i)+1=((i+1:Nat):Int)by omega,u_]
  rfl
 rwa[e]at m
def sgn(f st:Int)(i:Nat):=97+((f+st*i)%26).toNat
def Uy:=(bB (m2 aK (aa 2) (m2 (a7 .Mod) (m2 (a7 .Add) (aa 1) (m2 (a7 .Mult) (aa 3) (aa 0))) (ah (.int 26)))) true (ah .non) (di (ae (aa 1) ag)) 0 [8,2,9])
variable{y1:Int}
theorem Kn(k:1<=y1)(q:y1<26)(f:b<=12):Uy [d0,oI b,oS abc,P0,M1,Q3,Y3,G5,oI Q,oI y1,D6] a=.ok (.ref a.length) (a++[.lst (((Â b).map λi=>bS (sgn Q y1 i)).map .str)]):=by
 have c:oz (b)=true:=eE (ę _) (DL f);have l:nk y1=true:=jI (by omega) (by omega)
 have g:=du (a:=a) (T:=a) (t:=[d0,oI b,oS abc,P0,M1,Q3,Y3,G5,oI Q,oI y1,D6]) (p:=m2 aK (aa 2) (m2 (a7 .Mod) (m2 (a7 .Add) (aa 1) (m2 (a7 .Mult) (aa 3) (aa 0))) (ah (.int 26)))) (v:=true) (X:=ah .non) (B1:=di (ae (aa 1) ag)) (L:=[8,2,9]) (N3:=.ints 0 b)
  (Q6:=λd=>match d with|.int j=>.str (bS (97+((Q+y1*j)%26).toNat))|_=>.non) (by simp[c]) rfl (λd h=>rfl) (λd h _=>by
   obtain⟨i,m⟩:=è.mp h;obtain⟨rfl,n⟩:=eF m;generalize r:(0)+(i:Int)=j;have o:nk j=true:=jI (by omega) (by omega)
   simp[ed,l,o,(wK (Q:=(Q+y1*j)%26) (by omega) (by omega))]) (by rw[cR];exact cO f)
 rw[ı.mpr (by simp),kA,à]at g
 have e:((Â b).map ((λd=>match d with|.int j=>D.str (bS (97+((Q+y1*j)%26).toNat))|_=>.non) ∘ λ(i:Nat)=>D.int i))=((Â b).map λi=>bS (sgn Q y1 i)).map .str:=by
  rw[à];exact Ĳ λi _=>rfl
 rwa[e]at g
noncomputable def vG(S:Str)(a pl z):=((⟨(S.cps.toList.take pl).toArray⟩)++z)++(⟨((S.cps.toList.drop (pl+1)).take (a - (pl+1))).toArray⟩:Str)
theorem vH:(vG d b s (bS Ξ)).cps.toList=(d.cps.toList.take s++[Ξ])++(d.cps.toList.drop (s+1)).take (b - (s+1)):=by
 unfold vG;rw[adL,adL];simp[bS]
theorem Uz(h:vF d)(hz:b<=8)(e:s<b)(a:97<=Ξ/\Ξ<=122):Gn (vG d b s (bS Ξ)):=by
 have f:=h.1
 have c:(vG d b s (bS Ξ)).length=b:=by
  have:(vG d b s (bS Ξ)).length=(vG d b s (bS Ξ)).cps.toList.length:=by rfl
  rw[this,vH]
  grind
 refine⟨by omega,B' (R' c) hz,λx hx=>?_⟩
 rw[vH]at hx;simp only[æ,Ã]at hx;rcases hx with (hx|rfl)|hx
 .exact h.2 x (Ŧ hx)
 .exact a
 .exact h.2 x (List.mem_of_mem_drop (Ŧ hx))
theorem ON(h:vF d)(n:b<=12)(g:y1=1\/y1=3\/y1=5\/y1=7):((Â b).map λi=>vG d s Ξ (bS (sgn Q y1 i))).Nodup:=by
 refine adI.mpr (adJ (λ{a c} j k e l=>e ?_) (adK))
 have o:=Ō.mp j;have p:=Ō.mp k;have f:=congrArg (λz=>z.cps.toList) l
 simp only[vH]at f;have m:=by simpa using (List.append_cancel_left (List.append_cancel_right f))
 unfold sgn at m;rcases g with rfl|rfl|rfl|rfl<;>omega
def Ye:=(bB (m2 (a7 .Add) (m2 (a7 .Add) (cp (aa 3) true (ah .non) false (aa 2)) (aa 0)) (cp (aa 3) false (m2 (a7 .Add) (aa 2) (ah (.int 1))) false (aa 1))) true (ah .non) (bg (aa 10)) 0 [6,7,3])
theorem Ko(h:vF d)(hz:b<=8)(u:s<b)(m:a[Ξ]?=some (.lst ((L.map bS).map .str)))(q:L.length<=1000):Ye [d0,P0,M1,oS d,Q3,Y3,oI b,oI s,G5,D6,oR Ξ] a=.ok (.ref a.length) (a++[.lst ((L.map λc=>vG d b s (bS c)).map .str)]):=by
 have g:d.length=8:=by simpa[aam]using h.1
 have i:small d.length=true:=aW (cO (R' g))
 have n:=du (t:=[d0,P0,M1,oS d,Q3,Y3,oI b,oI s,G5,D6,oR Ξ]) (p:=m2 (a7 .Add) (m2 (a7 .Add) (cp (aa 3) true (ah .non) false (aa 2)) (aa 0)) (cp (aa 3) false (m2 (a7 .Add) (aa 2) (ah (.int 1))) false (aa 1))) (v:=true) (X:=ah .non) (B1:=bg (aa 10)) (L:=[6,7,3])
  (Q6:=λf=>match f with|.str z=>.str (vG d b s z)|_=>.non) (by
   exact aM (by rw[ax,av m])) (by rw[bw,ax,av m]) (λf o=>rfl) (λf o _=>by
   obtain⟨z,j,rfl⟩:=ë.mp o;obtain⟨c,_,rfl⟩:=ë.mp j
   have r:dq d.cps.toList (some ((s)+1)) (some (b))=(d.cps.toList.drop (s+1)).take (b - (s+1)):=by
    rw[show(s:Int)+1=((s+1:Nat))by omega,Bn]
   have one:(bS c).length=1:=rfl
   have w:(⟨(d.cps.toList.take s).toArray⟩:Str).length<=8:=by
    show(d.cps.toList.take s).toArray.size<=8
    grind
   have x:(⟨((d.cps.toList.drop (s+1)).take (b - (s+1))).toArray⟩:Str).length<=8:=by
    show((d.cps.toList.drop _).take _).toArray.size<=8
    grind
   have k:small ((⟨(d.cps.toList.take s).toArray⟩:Str).length+(bS c).length)=true:=aW (by omega)
   have l:small (((⟨(d.cps.toList.take s).toArray⟩)++bS c).length+(⟨((d.cps.toList.drop (s+1)).take (b - (s+1))).toArray⟩:Str).length)=true:=aW (by rw[Str.length_append];omega)
   simp[ed,i,(u_ _ _),r,k,l,vG]) (by simp;exact cO q)
 rw[ı.mpr (by simp),à,à]at n
 have e:(L.map (((λf=>match f with|.str z=>D.str (vG d b s z)|_=>.non) ∘ D.str) ∘ bS))=(L.map λc=>vG d b s (bS c)).map .str:=by
  simp
 rwa[e]at n
def LZ(F:List D->Out Rs):=(dY (ij (m2 (aF .LtE) (aa 1) (ah (.int 8))) (m2 (aF .Eq) (mN (cE F) (ae (aa 0) (ae (ah (.int 9)) (ae (ah (.int 4)) ag)))) (ah (.int 1))))
 (ak (aE 5 Ux)
 (ak (bU (zw 5 4))
 aq))
 aq)
def Rt(F:List D->Out Rs):=
 (ak (aE 2 (ah (.str "abcdefghijklmnopqrstuvwxyz")))
 (ak (aE 3 (Rr F))
 (ak (aE 4 (mN (cE F) (ae (aa 0) (ae (ah (.int 8)) (ae (aa 1) ag)))))
 (ak (LZ F)
 (ak (aE 6 (m2 (a7 .Add) (ah (.int 1)) (mN (cE F) (ae (aa 0) (ae (ah (.int 10)) (ae (ah (.int 8)) ag))))))
 (ak (aE 7 (mN (cE F) (ae (aa 0) (ae (ah (.int 11)) (ae (aa 6) ag)))))
 (ak (aE 8 (mN (cE F) (ae (aa 0) (ae (ah (.int 12)) (ae (ah (.int 26)) ag)))))
 (ak (aE 9 (m2 aK (mN aV (ae (ah (.int 1)) (ae (ah (.int 3)) (ae (ah (.int 5)) (ae (ah (.int 7)) ag))))) (mN (cE F) (ae (aa 0) (ae (ah (.int 13)) (ae (ah (.int 4)) ag))))))
 (ak (aE 10 Uy)
 (ak (bU Ye)
 aq))))))))))
def GO(N:aU):=∀d c m,1<=m->m<=12->∃(b:List Str) (q:Nat) (a:aG),b.Nodup/\(∀x∈b,Gn x)/\b.length=m/\N [.int c,.int m] d=.ok (.ref q) a/\a[q]?=some (.lst (b.map .str))/\af [] d a
theorem OO(n:fK F4 W1):GO (bN 11 2 (Rt W1)):=by
 intro I c m a0 E;rw[ba (by rfl)]
 have e0:aZ 11 [D.int c,.int m]=[oI c,oI m,none,none,none,none,none,none,none,none,none]:=rfl;rw[e0];refine qb (n c 8 (m:Int) (by decide) (by decide) (by omega)) λt0 t1 ht=>?_
 obtain⟨w0,w1,K⟩:=n c 9 4 (by decide) (by decide) (by decide)
 obtain⟨z0,z1,hz⟩:=n c 10 8 (by decide) (by decide) (by decide)
 generalize F4 c 8 (m:Int)=t at *;generalize F4 c 9 4=w at *;generalize F4 c 10 8=z at *;refine qb (n c 11 (1+z) (by decide) (by decide) (by omega)) λp0 p1 Y=>?_
 obtain⟨f0,f1,hf⟩:=n c 12 26 (by decide) (by decide) (by decide)
 obtain⟨s0,s1,hs⟩:=n c 13 4 (by decide) (by decide) (by decide)
 generalize F4 c 11 (1+z)=p at *;generalize F4 c 12 26=f at *;generalize F4 c 13 4=s at *;obtain⟨e,rfl⟩:∃e:Nat,(e:Int)=t:=⟨t.toNat,by omega⟩
 obtain⟨o,rfl⟩:∃o:Nat,(o:Int)=p:=⟨p.toNat,by omega⟩
 obtain⟨j,F⟩:∃j:Nat,(j:Int)=1+z:=⟨(1+z).toNat,by omega⟩
 rw[←F]at Y;refine aJ (Kk (a:=I) (Q:=c) n (d0:=oI m) (P0:=none) (M1:=none) (Q3:=none) (Y3:=none) (G5:=none) (D6:=none) (Y8:=none) (Z8:=none)) λS d e1 C Z=>?_
 have r1:(aE 2 (ah (.str "abcdefghijklmnopqrstuvwxyz"))) [oI c,oI m,none,none,none,none,none,none,none,none,none] I=.nx [oI c,oI m,oS abc,none,none,none,none,none,none,none,none] I:=rfl
 have r2:(aE 3 (Rr W1)) [oI c,oI m,oS abc,none,none,none,none,none,none,none,none] I=.nx [oI c,oI m,oS abc,oS S,none,none,none,none,none,none,none] d:=by
  rw[bj,e1];rfl
 have r3:(aE 4 (mN (cE W1) (ae (aa 0) (ae (ah (.int 8)) (ae (aa 1) ag))))) [oI c,oI m,oS abc,oS S,none,none,none,none,none,none,none] d=.nx [oI c,oI m,oS abc,oS S,oI e,none,none,none,none,none,none] d:=by simp[ht]
 unfold Rt;rw[ai,r1,aH,ai,r2,aH,ai,r3,aH,ai]
 by_cases hc:m<=8/\w=1
 .obtain⟨G,rfl⟩:=hc
  have e2:=Km (a:=d) C E (d0:=oI c) (P0:=oS abc) (M1:=oI e) (Q3:=none) (Y3:=none) (G5:=none) (D6:=none) (Y8:=none) (Z8:=none);have L:(d++[Cell.lst (((Â m).map (kX S)).map .str)])[d.length]?=some (.lst (((Â m).map (kX S)).map .str)):=aj;have M:af [] d (d++[Cell.lst (((Â m).map (kX S)).map .str)]):=af.app
  have hv:∀x∈(Â m).map (kX S),Gn x:=λx u=>by
   obtain⟨i,hi,rfl⟩:=ë.mp u;exact OM C (by have:=Ō.mp hi;exact U' this G)
  have hn:=Kl (b:=m) C G;have H:((Â m).map (kX S)).length=m:=by simp
  generalize (Â m).map (kX S)=J at *;generalize d++[Cell.lst (J.map .str)]=g at *;refine a8 (vE (t:=[oI c,oI m,oS abc,oS S,oI e,oR d.length,none,none,none,none,none]) (b:=5) (s:=4) rfl rfl L (cO (B' (R' H) E))) λk r N O P _=>?_
  have R:=oa (b:=e) J;refine⟨J.drop e++J.take e,k,r,R.nodup_iff.mpr hn,λx u=>hv x (R.mem_iff.mp u),by rw[R.length_eq];exact H,?_,O,(Z.trans M).trans P⟩
  have q:((m:Int)<=8):=by omega
  have ra:aE 5 Ux [oI c,oI m,oS abc,oS S,oI e,none,none,none,none,none,none] d=.nx [oI c,oI m,oS abc,oS S,oI e,oR d.length,none,none,none,none,none] g:=by
   rw[bj,e2];rfl
  unfold LZ
  simp_all
 .have r4:LZ W1 [oI c,oI m,oS abc,oS S,oI e,none,none,none,none,none,none] d=.nx [oI c,oI m,oS abc,oS S,oI e,none,none,none,none,none,none] d:=by
   by_cases T:w=1
   .have q:¬ ((m:Int)<=8):=λh=>hc ⟨by omega,T⟩
    simp[LZ,K,q]
   .by_cases q:(m:Int)<=8
    .simp[LZ,K,q,T]
    .simp[LZ,K,q]
  have r5:(aE 6 (m2 (a7 .Add) (ah (.int 1)) (mN (cE W1) (ae (aa 0) (ae (ah (.int 10)) (ae (ah (.int 8)) ag)))))) [oI c,oI m,oS abc,oS S,oI e,none,none,none,none,none,none] d=.nx [oI c,oI m,oS abc,oS S,oI e,none,oI j,none,none,none,none] d:=by
   rw[F];simp[hz]
  have r6:(aE 7 (mN (cE W1) (ae (aa 0) (ae (ah (.int 11)) (ae (aa 6) ag))))) [oI c,oI m,oS abc,oS S,oI e,none,oI j,none,none,none,none] d=.nx [oI c,oI m,oS abc,oS S,oI e,none,oI j,oI o,none,none,none] d:=by simp[Y]
  have r7:(aE 8 (mN (cE W1) (ae (aa 0) (ae (ah (.int 12)) (ae (ah (.int 26)) ag))))) [oI c,oI m,oS abc,oS S,oI e,none,oI j,oI o,none,none,none] d=.nx [oI c,oI m,oS abc,oS S,oI e,none,oI j,oI o,oI f,none,none] d:=by simp[hf]
  have M:af [] d (d++[Cell.lst [.int 1,.int 3,.int 5,.int 7]]):=af.app;have L:(d++[Cell.lst [.int 1,.int 3,.int 5,.int 7]])[d.length]?=some (.lst [.int 1,.int 3,.int 5,.int 7]):=aj
  have A:∃l:Int,(l=1\/l=3\/l=5\/l=7)/\L2.lp [D.int 1,.int 3,.int 5,.int 7] s=oI l:=by
   have:s=0\/s=1\/s=2\/s=3:=by omega
   rcases this with rfl|rfl|rfl|rfl
   .exact⟨1,.inl rfl,rfl⟩
   .exact⟨3,.inr (.inl rfl),rfl⟩
   .exact⟨5,.inr (.inr (.inl rfl)),rfl⟩
   .exact⟨7,.inr (.inr (.inr rfl)),rfl⟩
  refine bD A λl A U=>?_
  have b0:=bY L U
  have r8:(aE 9 (m2 aK (mN aV (ae (ah (.int 1)) (ae (ah (.int 3)) (ae (ah (.int 5)) (ae (ah (.int 7)) ag))))) (mN (cE W1) (ae (aa 0) (ae (ah (.int 13)) (ae (ah (.int 4)) ag)))))) [oI c,oI m,oS abc,oS S,oI e,none,oI j,oI o,oI f,none,none] d=.nx [oI c,oI m,oS abc,oS S,oI e,none,oI j,oI o,oI f,oI l,none] (d++[Cell.lst [.int 1,.int 3,.int 5,.int 7]]):=by
   have T:(mN aV (ae (ah (.int 1)) (ae (ah (.int 3)) (ae (ah (.int 5)) (ae (ah (.int 7)) ag))))) [oI c,oI m,oS abc,oS S,oI e,none,oI j,oI o,oI f,none,none] d=.ok (.ref d.length) (d++[Cell.lst [.int 1,.int 3,.int 5,.int 7]]):=by
    rfl
   simp_all
  generalize d++[Cell.lst [.int 1,.int 3,.int 5,.int 7]]=g at *;have N:=Kn (a:=g) (Q:=f) (y1:=l) (by omega) (by omega) E (d0:=oI c) (P0:=oS S) (M1:=oI e) (Q3:=none) (Y3:=oI j) (G5:=oI o) (D6:=none)
  have em:(Â m).map (λi=>bS (sgn f l i))=((Â m).map (sgn f l)).map bS:=by rw[à];rfl
  rw[em]at N
  have V:∀x∈(Â m).map (sgn f l),97<=x/\x<=122:=λx u=>by
   obtain⟨i,_,rfl⟩:=ë.mp u;unfold sgn;omega
  have X:(((Â m).map (sgn f l)).map λx=>vG S j o (bS x)).Nodup:=by
   rw[à];exact ON C E A
  have H:((Â m).map (sgn f l)).length=m:=by simp
  generalize (Â m).map (sgn f l)=B at *;have O:(g++[Cell.lst ((B.map bS).map .str)])[g.length]?=some (.lst ((B.map bS).map .str)):=aj;have P:af [] g (g++[Cell.lst ((B.map bS).map .str)]):=af.app
  have r9:aE 10 Uy [oI c,oI m,oS abc,oS S,oI e,none,oI j,oI o,oI f,oI l,none] g=.nx [oI c,oI m,oS abc,oS S,oI e,none,oI j,oI o,oI f,oI l,oR g.length] (g++[Cell.lst ((B.map bS).map .str)]):=by
   rw[bj,N];rfl
  generalize g++[Cell.lst ((B.map bS).map .str)]=r at *;have e4:=Ko C (show j<=8 by omega) (show o<j by omega) O (cO (B' (R' H) E)) (d0:=oI c) (P0:=oI m) (M1:=oS abc) (Q3:=oI e) (Y3:=none) (G5:=oI f) (D6:=oI l)
  refine⟨B.map λx=>vG S j o (bS x),r.length,r++[.lst ((B.map λx=>vG S j o (bS x)).map .str)],X,λx u=>?_,by simpa using H,?_,aj,((Z.trans M).trans P).trans af.app⟩
  .obtain⟨y,hy,rfl⟩:=ë.mp u
   exact Uz C (by omega) (by omega) (V y hy)
  .rw[r4,aH,ai,r5,aH,ai,r6,aH,ai,r7,aH,ai,r8,aH,ai,r9,aH,ai,ff,e4]
   rfl
def t_(xs:List Str)(a i)(r:List Str):=r.Nodup/\r.length<=a/\∀y∈r,y∈xs.take i
def UA(F:List D->Out Rs):=(bB (m2 aK (aa 2) (aa 0)) false (m2 (aF .Eq) (mN (cE F) (ae (aa 1) (ae (aa 0) (ae (ah (.int 3)) ag)))) (ah (.int 0))) (di (ae (aa 5) ag)) 0 [6,2])
theorem vI:∀{i},i<=g.length->(Â i).map (λj=>g.getD j "")=g.take i:=by
 intro i a;apply ϙ;intro j;rw[î,List.getElem?_take]
 grind
theorem Kp(h:fK F4 W1)(o:a[b]?=some (.lst (g.map .str)))(f:s<=g.length)(m:g.length<=100):∃r:List Str,r.Sublist (g.take s)/\UA W1 [d0,P0,oR b,M1,Q3,oI s,oI Q,Y3,G5] a=.ok (.ref a.length) (a++[.lst (r.map .str)]):=by
 have i:oz (s)=true:=eE (ę _) (DL (B' f m))
 have n:=du (a:=a) (T:=a) (t:=[d0,P0,oR b,M1,Q3,oI s,oI Q,Y3,G5]) (p:=m2 aK (aa 2) (aa 0)) (v:=false) (B1:=di (ae (aa 5) ag)) (L:=[6,2]) (N3:=.ints 0 s) (G8:=λd=>match d with|.int j=>(F4 Q j 3==0)|_=>false)
  (Q6:=λd=>match d with|.int j=>.str (g.getD j.toNat "")|_=>.non) (by simp[i]) rfl (λd k=>by
   obtain⟨j,l⟩:=è.mp k;obtain⟨rfl,c⟩:=eF l;obtain⟨w,x,q⟩:=h Q (0+(j)) 3 (ę _) (by omega) (by decide)
   generalize (0)+(j:Int)=u at *
   show dk ((m2 (aF .Eq) (mN (cE W1) (ae (aa 1) (ae (aa 0) (ae (ah (.int 3)) ag)))) (ah (.int 0))) [oI u,oI Q,oR b] a)=_
   simp[q]) (λd k _=>by
   obtain⟨j,l⟩:=è.mp k;obtain⟨rfl,c⟩:=eF l;refine bY o (L2.cH ?_);simp[show j<g.length by exact U' c f]) (by rw[cR];exact cO (B' f m))
 have e:(((intsFrom 0 s).filter λd=>match d with|.int j=>(F4 Q j 3==0)|_=>false).map λd=>match d with|.int j=>D.str (g.getD j.toNat "")|_=>.non)=(((Â s).filter λj:Nat=>(F4 Q j 3==0)).map λj=>g.getD j "").map .str:=by
  rw[kA,aau,à,à];rfl
 rw[e]at n;refine⟨_,?_,n⟩;rw[←vI f];exact(adM).map _
def UB(F:List D->Out Rs):=(ij (m2 (aF .NotEq) (aa 7) (mN aV ag)) (m2 (aF .Eq) (mN (cE F) (ae (aa 6) (ae (ah (.int 13)) (ae (ah (.int 3)) ag)))) (ah (.int 1))))
def Ru(F:List D->Out Rs):=(dY (UB F)
 (ak (aE 8 (mN (cE F) (ae (aa 6) (ae (ah (.int 14)) (ae (mN (aN .len) (ae (aa 7) ag)) ag)))))
 (ak (aE 7 (zw 7 8))
 aq))
 aq)
def UC(F C:List D->Out Rs):=
 (ak (aE 6 (mN (cE C) (ae (aa 0) (ae (m2 (a7 .Add) (aa 1) (aa 5)) ag))))
 (ak (aE 7 (UA F))
 (ak (aE 7 (cp (aa 7) true (ah .non) false (aa 3)))
 (ak (cJ (d_ kF eO (aa 7) ag))
 (ak (Ru F)
 (ak (cJ (d_ kF bT (aa 4) (ae (aa 7) ag)))
 aq))))))
def Rv(F C:List D->Out Rs):=
 (ak (aE 4 (mN aV ag))
 (ak (dI (cY 5) (di (ae (mN (aN .len) (ae (aa 2) ag)) ag))
 (UC F C))
 (ak (bU (aa 4))
 aq)))
abbrev RV(a:List Int)(st x b q:Nat)(c d e f:Option D):bo:=[some (SC a),oI st,oR x,oI b,oR q,c,d,e,f]
theorem Kq(e:fK F4 W1)(n:a[b]?=some (.lst (g.map .str)))(u:g.length<=100):∃(o:List Str) (f:Nat) (i:Option D) (aA:aG),o.Perm g/\Ru W1 [d0,P0,M1,Q3,Y3,G5,oI Q,oR b,D6] a=.nx [d0,P0,M1,Q3,Y3,G5,oI Q,oR f,i] aA/\aA[f]?=some (.lst (o.map .str))/\(f=b\/a.length<=f)/\af [] a aA:=by
 refine bD (ne_nil (t:=[d0,P0,M1,Q3,Y3,G5,oI Q,oR b,D6]) (s:=7) rfl n) λc w h=>?_
 refine qb (e Q 13 3 (by decide) (by decide) (by decide)) λH I x=>?_
 have d:=h.get _ _ n (by simp)
 have y:(m2 (aF .Eq) (mN (cE W1) (ae (aa 6) (ae (ah (.int 13)) (ae (ah (.int 3)) ag)))) (ah (.int 1))) [d0,P0,M1,Q3,Y3,G5,oI Q,oR b,D6] c=.ok (.bl (F4 Q 13 3==1)) c:=by simp[x]
 have p:UB W1 [d0,P0,M1,Q3,Y3,G5,oI Q,oR b,D6] a=.ok (.bl (decide (g≠[])&&(F4 Q 13 3==1))) c:=by
  unfold UB;rw[jW,w,au,cX]
  by_cases q:g=[]
  .subst q;rfl
  .rw[decide_eq_true q,pR,y,aax]
 by_cases z:g≠[]/\F4 Q 13 3=1
 .have J:=abM.mpr z.1
  refine qb (e Q 14 (g.length) (by decide) (by decide) (by omega)) λK L r=>?_
  obtain⟨t,A⟩:∃t:Nat,(t)=F4 Q 14 (g.length):=⟨(F4 Q 14 (g.length)).toNat,by omega⟩
  rw[←A]at r;have j:=eo d
  have B:(aE 8 (mN (cE W1) (ae (aa 6) (ae (ah (.int 14)) (ae (mN (aN .len) (ae (aa 7) ag)) ag))))) [d0,P0,M1,Q3,Y3,G5,oI Q,oR b,D6] c=.nx [d0,P0,M1,Q3,Y3,G5,oI Q,oR b,oI t] c:=by
   simp[j,r]
  refine a8 (vE (t:=[d0,P0,M1,Q3,Y3,G5,oI Q,oR b,oI t]) (b:=7) (s:=8) rfl rfl d (cO u)) λk l C E F G=>?_
  refine⟨_,k,oI t,l,oa g,?_,E,.inr (by have:=h.len;exact B' this G),h.trans F⟩
  have m:(decide (g≠[])&&(F4 Q 13 3==1))=true:=by simp_all
  unfold Ru;rw[dW,p,m,eG,cX,fN,cx,ai,B,aH,ai,bj,C];rfl
 .refine⟨g,b,D6,c,by simp,?_,d,.inl rfl,h⟩
  have m:(decide (g≠[])&&(F4 Q 13 3==1))=false:=by
   simp_all
  unfold Ru;rw[dW,p,m];rfl
variable{C5:List Int}{C8:List D->Out Rs}{E6:List Int->Nat->Int}
theorem Kr(o:fK F4 W1)(A:h9 E6 C8)(S:a[b]?=some (.lst (g.map .str)))(B:g.Nodup)(U:s<=g.length)(M:g.length<=100)(R:Rw a z8 L Z)(V:z8∉L)(C:Z.length<=100):
  ∃r j E F e aA,t_ g L5 s r/\UC W1 C8 (RV C5 Ξ b L5 z8 (oI s) d0 P0 M1) a=.nx (RV C5 Ξ b L5 z8 (oI s) E F e) aA/\Rw aA z8 (L++[j]) (Z++[r])/\z8∉L++[j]/\af [z8] a aA:=by
 have G:C8 [SC C5,.int ((Ξ:Int)+(s:Int))]=.ok (false,.int (E6 C5 (Ξ+s))):=by
  exact A C5 (Ξ+s)
 have X:(aE 6 (mN (cE C8) (ae (aa 0) (ae (m2 (a7 .Add) (aa 1) (aa 5)) ag)))) (RV C5 Ξ b L5 z8 (oI s) d0 P0 M1) a=.nx (RV C5 Ξ b L5 z8 (oI s) (some (.int (E6 C5 (Ξ+s)))) P0 M1) a:=by
  simp[RV,G]
 generalize E6 C5 (Ξ+s)=c at *;refine bD (Kp (Q:=c) o (d0:=some (SC C5)) (P0:=oI Ξ) (M1:=oI L5) (Q3:=oR z8) (Y3:=P0) (G5:=M1) S U M) λr k Y=>?_
 have l:r.length<=100:=by have:=k.length_le;rw[ý]at this;exact B' (B' this (ŧ _ _)) M
 have r2:aE 7 (UA W1) (RV C5 Ξ b L5 z8 (oI s) (oI c) P0 M1) a=.nx (RV C5 Ξ b L5 z8 (oI s) (oI c) (oR a.length) M1) (a++[.lst (r.map .str)]):=by
  rw[bj,Y];rfl
 have g2:(a++[Cell.lst (r.map .str)])[a.length]?=some (.lst (r.map .str)):=aj;have N:af [] a (a++[Cell.lst (r.map .str)]):=af.app;generalize a++[Cell.lst (r.map .str)]=d at *;have s3:=kO (s:=L5) g2
 have r3:aE 7 (cp (aa 7) true (ah .non) false (aa 3)) (RV C5 Ξ b L5 z8 (oI s) (oI c) (oR a.length) M1) d=.nx (RV C5 Ξ b L5 z8 (oI s) (oI c) (oR d.length) M1) (d++[.lst ((r.take L5).map .str)]):=by
  simp_all
 have H:(d++[Cell.lst ((r.take L5).map .str)])[d.length]?=some (.lst ((r.take L5).map .str)):=aj;have K3:af [] d (d++[Cell.lst ((r.take L5).map .str)]):=af.app;generalize d++[Cell.lst ((r.take L5).map .str)]=f at *;have I:=lK H
 have r4:(cJ (d_ kF eO (aa 7) ag)) (RV C5 Ξ b L5 z8 (oI s) (oI c) (oR d.length) M1) f=.nx (RV C5 Ξ b L5 z8 (oI s) (oI c) (oR d.length) M1) (f.set d.length (.lst ((r.take L5).map D.str).reverse)):=by
  rw[bW,eA (m:=.ref d.length) (T:=f) rfl (dz H),bh,au,I];rfl
 have g4:(f.set d.length (.lst ((r.take L5).map D.str).reverse))[d.length]?=some (.lst ((r.take L5).reverse.map .str)):=by rw[adN];exact aT H
 have K4:af [] a (f.set d.length (.lst ((r.take L5).map D.str).reverse)):=af.new (N.trans K3) (af.set (fp:=[d.length]) (by simp)) (by simpa using N.len)
 refine bc (Kq (Q:=c) o (d0:=some (SC C5)) (P0:=oI Ξ) (M1:=oR b) (Q3:=oI L5) (Y3:=oR z8) (G5:=oI s) (D6:=M1) g4 (by rw[adO,ý];exact B' (ŧ _ _) l)) λO w e i n r5 g5 hw K5=>?_
 have J:a.length<=w:=by
  grind
 have p:=K4.trans K5;have x:=R.keep p;have hL:=R.len;have a0:=dX (m:=.ref w) x.ce (by simp;exact cO (B' (R' hL.symm) C))
 have r6:(cJ (d_ kF bT (aa 4) (ae (aa 7) ag))) (RV C5 Ξ b L5 z8 (oI s) (oI c) (oR w) e) i=.nx (RV C5 Ξ b L5 z8 (oI s) (oI c) (oR w) e) (i.set z8 (.lst (L.map .ref++[.ref w]))):=by
  rw[bW,eA (m:=.ref z8) (T:=i) rfl (dz x.ce)]
  simp_all
 have lq:=bb R.ce;have P:af [z8] i (i.set z8 (.lst (L.map .ref++[.ref w]))):=af.set (by simp)
 have q:z8∉L++[w]:=λz=>by
  rcases æ.mp z with z|z
  .exact V z
  .have:=Ã.mp z;exact Ò _ (Ø (R' this.symm) (U' lq J))
 have t:t_ g L5 s O:=by
  have u:(r.take L5).Sublist (g.take s):=(Ϫ _ _).trans k;have K:(r.take L5).Nodup:=(B.sublist (Ϫ _ _)).sublist u;refine⟨n.nodup_iff.mpr (List.pairwise_reverse.mpr (afr (λh=>Ê h) K)),?_,λy hy=>?_⟩
  .rw[n.length_eq,adO,ý];exact aav _ _
  .exact u.subset (List.mem_reverse.mp (n.mem_iff.mp hy))
 refine⟨O,w,oI c,oR w,e,_,t,?_,⟨?_,?_⟩,q,(er.up p).trans P⟩
 .unfold UC
  rw[ai,X,aH,ai,r2,aH,ai,r3,aH,ai,r4,aH,ai]
  simp_all
 .rw[aT x.ce];simp
 .exact(x.al.snoc g5).keep P (λj hj z=>q (by rw[←Ã.mp z];exact hj))
def GP(f:aU):=∀c g (h x e:Nat) b,c[x]?=some (.lst (b.map .str))->b.Nodup->b.length<=12 ->
 ∃k j d a,f [SC g,.int h,.ref x,.int e] c=.ok (.ref k) a/\Rw a k j d/\d.length=b.length/\(∀i r,d[i]?=some r->t_ b e i r)/\af [] c a
theorem OP(C:fK F4 W1)(D:h9 E6 C8):GP (bN 9 4 (Rv W1 C8)):=by
 intro a m l x e y M E f;rw[ba (by rfl)]
 have Q:aZ 9 [SC m,.int l,.ref x,.int e]=[some _,oI l,oR x,oI e,none,none,none,none,none]:=rfl;rw[Q];have S:(a++[Cell.lst []])[a.length]?=some _:=aj;have N:af [] a (a++[Cell.lst []]):=af.app;have T:(aE 4 (mN aV ag)) [some (SC m),oI l,oR x,oI e,none,none,none,none,none] a=.nx (RV m l x e a.length none none none none) (a++[Cell.lst []]):=by rfl
 have U:=bb M;generalize a++[Cell.lst []]=q at *;have t:=N.get _ _ M (by simp)
 have u:=eo t;rw[Í]at u
 have F:di (ae (mN (aN .len) (ae (aa 2) ag)) ag) (RV m l x e a.length none none none none) q=.ok (.ints 0 y.length) q:=by
  have:(mN (aN .len) (ae (aa 2) ag)) (RV m l x e a.length none none none none) _=.ok _ _:=u;rw[jY,a5,this,au,bh,au,au,mF,if_pos (eE (ę _) (DL f)),ś]
 unfold Rv;rw[ai,T,aH,ai,cq,F,cx]
 refine bE (R:=λr=>∃k n b o,fb (sq r _)=.ok (.ref k) o/\Rw o k n b/\b.length=y.length/\(∀(i:Nat) (r:List _),b[i]?=some r->t_ y e i r)/\af [] a o)
  (λi G g=>∃n b H z A B,G=RV m l x e _ H z A B/\Rw g _ n b/\b.length=i/\(∀(i:Nat) (r:List _),b[i]?=some r->t_ y e i r)/\a.length∉n/\af [a.length] _ g) (λ_ _ _ _=>rfl) ?_ ?_ _ 0 _ _ (by rw[cR];unfold fuel;exact oi (B' (õ _ _) f)) (Ë _) ⟨[],[],_,_,_,_,rfl,⟨S,.nil⟩,rfl,by simp,by simp,af.refl⟩
 .rintro i d G g V ⟨n,b,H,z,A,B,rfl,R,c,p,O,K⟩
  obtain⟨rfl,P⟩:=eF V;rw[aaw];refine⟨RV m l x e _ (oI i) z A B,rfl,?_⟩;obtain⟨r,j,b6,b7,b8,X,Y,Z,R3,I,K3⟩:=Kr (s:=i) C D (K.get _ _ t (by simp;exact O' U)) E (ñ P) (cO f) R O (Mc (U' (Ø (R' c) P) f))
  rw[Z];refine⟨_,_,_,_,_,_,rfl,R3,by simp[c],λJ r' h=>?_,I,K.trans K3⟩
  by_cases w:J<b.length
  .rw[ã w]at h
   exact p J r' h
  .rw[ē (Ţ w)]at h
   have h0:=by
    have:=(Ç.mp h).1;simp at this;omega
   rw[h0]at h;have L:=by simpa using h
   subst L;obtain rfl:J=i:=by omega
   exact Y
 .rintro G g ⟨n,b,H,z,A,B,rfl,R,c,p,O,K⟩
  rw[cR]at c;exact⟨_,n,b,_,rfl,R,c,p,af.new N K (by simp)⟩
def Rx(C:List D->Out Rs)(a):=(mN (aQ a) (ae (mN (cE C) (ae (aa 0) (ae (ah (.int 1)) ag))) (ae (aa 1) ag)))
structure Hand(Ω:aG)(x e l:Nat)(xs:List Str)(E:dB)(L:Str->List Str):Prop where
 nx:Ω[x]?=some (.lst (xs.map .str))
 pos:1<=xs.length
 vn:∀n∈xs,Gn n
 eq:nms E=xs
 UD:lZ E L
 el:∃Yf,bu Ω e Yf/\aD Tr Ω Yf E
 ln:∃Yg,bu Ω l Yg/\aD Tr Ω Yg (aY xs L)
 ne:e≠l
theorem Hand.keep{d aA xs e l x E L}(h:Hand d x e l xs E L)(K:af [] d aA):Hand aA x e l xs E L:=by
 obtain⟨f,g,i,j,k,⟨a,m,n⟩,⟨b,o,p⟩,c⟩:=h;exact⟨K.get _ _ f (by simp),g,i,j,k,⟨a,m.keep K (by simp),n.keep K (by simp)⟩,⟨b,o.keep K (by simp),p.keep K (by simp)⟩,c⟩
theorem Dg(t:GK E)(H:Hand a Ξ b s g w ζ):∃h aA,E [.ref b] a=.ok (.ref h) aA/\bR Tr aA h w ζ/\Hand aA Ξ b s g w ζ/\a.length<=aA.length:=by
 obtain⟨m,u,n,o,p,⟨c,f,q⟩,⟨i,x,y⟩,d⟩:=H;obtain⟨h,k,A,B,e,C,_⟩:=t a b c w ζ f q p (by rw[o];exact n)
 have r:∀j∈[b],∀l,a[j]?≠some (.lst l):=λj D l=>by rw[Ã.mp D];exact f.nl l
 have F:Ξ≠b:=λz=>f.nl _ (z▸m)
 exact⟨h,k,A,B,⟨e.get _ _ m (by simpa using F),u,n,o,p,⟨c,.inr C,q.cy e r⟩,⟨i,x.keep e (by simpa using Ê d),y.cy e r⟩,d⟩,e.len⟩
structure mf(Ω aA:aG):Prop where
 len:Ω.length<=aA.length
 get:∀(k:Nat) (c:Cell),Ω[k]?=some c->aA[k]?=some c\/∃kvs,c=Cell.dK kvs/\aA[k]?=some (.dF kvs)
theorem af.kpf(K:af [] a T):mf a T:=⟨K.len,λk c h=>.inl (K.get k c h (by simp))⟩
theorem mf.refl:mf a a:=⟨W' _,λ_ _ h=>.inl h⟩
theorem mf.trans(d:mf a z5)(b:mf z5 T):mf a T:=⟨B' d.len b.len,λk c h=>by
 rcases d.get k c h with e|⟨f,rfl,e⟩
 .exact b.get k c e
 .rcases b.get k _ e with g|⟨_,z,_⟩
  .simp_all
  .cases z⟩
theorem mf.lst{a aA}{k:Nat}{b}(K:mf a aA)(h:a[k]?=some (.lst b)):aA[k]?=some (.lst b):=(K.get _ _ h).elim id (by simp)
theorem mf.dct(K:mf a T)(h:bu a b P):bu T b P:=by
 rcases h with h|h
 .rcases K.get _ _ h with c|⟨d,z,c⟩
  .exact .inl c
  .cases z;exact .inr c
 .rcases K.get _ _ h with c|⟨d,z,c⟩
  .exact .inr c
  .cases z
theorem mf.rows(K:mf a T)(h:aD ς a P w):aD ς T P w:=aI.imp (by rintro _ _ ⟨e,j,b,c,d⟩;exact⟨e,j,b,c,K.lst d⟩) h
theorem mf.hs(K:mf a T)(H:bR ς a b w ζ):bR ς T b w ζ:=by
 refine bc H λe l c d f g h i j=>?_
 exact⟨e,l,_,_,(K.get _ _ f).elim id (by simp),K.dct g,K.rows h,K.dct i,K.rows j⟩
theorem mf.rw(K:mf a T)(R:Rw a b L Z):Rw T b L Z:=⟨K.lst R.ce,aI.imp (λ_ _ d=>K.lst d) R.al⟩
theorem mf.hand(K:mf a T)(H:Hand a s b Ξ g w ζ):Hand T s b Ξ g w ζ:=by
 obtain⟨f,h,i,j,k,⟨c,l,m⟩,⟨d,n,o⟩,e⟩:=H;exact⟨K.lst f,h,i,j,k,⟨c,K.dct l,K.rows m⟩,⟨d,K.dct n,K.rows o⟩,e⟩
def Ry(a):=
 (ak (cJ (bA "House" "check_kind" a (aa 0) (ae (aa 1) ag)))
 (ak (bU (mN (aN .list) (ae (m2 aK fe (aa 1)) ag)))
 aq))
def GQ(c:aU):=∀b h E L P n,bR P b h E L->n∈nms E->∃k a,c [.ref h,.str n] b=.ok (.ref k) a/\a[k]?=some (.lst ((aL E n).map .str))/\af [] b a/\b.length<=k
theorem OQ(g:vz E):GQ (bN 2 2 (Ry E)):=by
 intro d h a L P n H f;rw[ba (by rfl)]
 have s:aZ 2 [D.ref h,.str n]=[oR h,oS n]:=rfl;refine bD (g d h a L P n H f) λb t c=>?_
 have u:bA "House" "check_kind" E (aa 0) (ae (aa 1) ag) [oR h,oS n] d=.ok .non b:=by
  rw[dv H rfl (by decide)]
  simp_all
 refine bc (H.keep c) λe l i k m o p w x=>?_
 refine br (p.at f) λj q _ r=>?_
 refine⟨_,b++[.lst _],?_,aj,c.trans af.app,c.len⟩
 have:(mN (aN .list) (ae (m2 aK fe (aa 1)) ag)) [oR h,oS n] b=.ok (.ref b.length) (b++[.lst ((aL a n).map .str)]):=by
  show((((fT _ _ _ _).bind _).bind _).bind _)=_
  rw[nV m]
  show(((aK _ _ _).bind _).bind _)=_
  rw[et o q];exact(cA r)
 unfold Ry
 simp_all
def Rz(F:List D->Out Rs):=
 (ak (aE 2 (mN (cE F) (ae (aa 1) (ae (ah (.int 0)) (ae (m2 (a7 .Add) (mN (aN .len) (ae (aa 0) ag)) (ah (.int 1))) ag)))))
 (ak (aE 3 (zw 0 2))
 (ak (dY (m2 (aF .Eq) (mN (cE F) (ae (aa 1) (ae (ah (.int 1)) (ae (ah (.int 2)) ag)))) (ah (.int 1)))
 (ak (cJ (d_ kF eO (aa 3) ag))
 aq)
 aq)
 (ak (bU (aa 3))
 aq))))
def Ks(f:aU):=∀b x c d,b[x]?=some (.lst (d.map .str))->d.length<=900->∃(e:List Str) (k:Nat) (a:aG),e.Perm d/\f [.ref x,.int c] b=.ok (.ref k) a/\a[k]?=some (.lst (e.map .str))/\af [] b a/\b.length<=k
theorem OR(e:fK F4 W1):Ks (bN 4 2 (Rz W1)):=by
 intro j x c d o E;rw[ba (by rfl)]
 have u:aZ 4 [D.ref x,.int c]=[oR x,oI c,none,none]:=rfl;rw[u];obtain⟨F,G,p⟩:=e c 0 ((d.length:Int)+1) (by omega) (by omega) (by omega)
 obtain⟨H,v1,w⟩:=e c 1 2 (by omega) (by omega) (by omega)
 obtain⟨t,y⟩:∃t:Nat,(t:Int)=F4 c 0 ((d.length:Int)+1):=⟨(F4 c 0 ((d.length:Int)+1)).toNat,by omega⟩
 rw[←y]at p;have f:=eo o;rw[Í]at f;have z:(aE 2 (mN (cE W1) (ae (aa 1) (ae (ah (.int 0)) (ae (m2 (a7 .Add) (mN (aN .len) (ae (aa 0) ag)) (ah (.int 1))) ag))))) [oR x,oI c,none,none] j=.nx [oR x,oI c,oI t,none] j:=by simp[f,p]
 obtain⟨k,a,A,g,q,l⟩:=vE (t:=[oR x,oI c,oI t,none]) (b:=0) (s:=2) rfl rfl o (by omega)
 have B:aE 3 (zw 0 2) [oR x,oI c,oI t,none] j=.nx [oR x,oI c,oI t,oR k] a:=by rw[bj,A];rfl
 have r:=oa (b:=t) d;generalize d.drop t++d.take t=i at *;have C:(m2 (aF .Eq) (mN (cE W1) (ae (aa 1) (ae (ah (.int 1)) (ae (ah (.int 2)) ag)))) (ah (.int 1))) [oR x,oI c,oI t,oR k] a=.ok (.bl (F4 c 1 2==1)) a:=by simp[w]
 unfold Rz;rw[ai,z,aH,ai,B,aH,ai,dW,C]
 by_cases h:F4 c 1 2=1
 .have n:=lK g
  refine⟨i.reverse,k,a.set k (.lst (i.map D.str).reverse),(List.reverse_perm i).trans r,?_,by rw[adN];exact aT g,af.new q (af.set (fp:=[k]) (by simp)) (by simpa using l),l⟩
  have:(F4 c 1 2==1)=true:=by simp[h]
  rw[this,eG,cX,fN,cx,if_pos rfl,ai,bW,eA (m:=.ref k) (T:=a) rfl (dz g),bh,au,n];rfl
 .refine⟨i,k,a,r,?_,g,q,l⟩
  have:(F4 c 1 2==1)=false:=by simp[h]
  rw[this];rfl
theorem ua(e:g.Nodup)(c:g[b]?=some d):d∉g.take b:=λf=>by
 obtain⟨k,h,a⟩:=eQ f;have:=(ņ (ā h ((Ç.mp c).1)) e).mp (a.trans c.symm);omega
noncomputable def Ig(p:Str×Nat):D:=.tup [.str p.1,.ref p.2]
variable{n9:List (Str×Nat)}
theorem Ih(h:(n9.map Ig)[b]?=some m):∃p,n9[b]?=some p/\m=Ig p:=by
 rw[î]at h
 grind
theorem ub(b:(nms w).Nodup):aY (nms w) (aL w)=w:=by
 apply ϙ;intro i;unfold aY;rw[î];cases a:w[i]? with
 |none=>simp[nms,a]
 |some p=>
  rw[iM a,ň,CM b a]
theorem aD.upd{n}(H:aD ς a P (aY Δ ζ))(c:n∈Δ)(j:ς b)(k:a[b]?=some (.lst (g.map .str))):aD ς a (d4 P (.inr n) (.ref b)) (aY Δ λm=>if m=n then g else ζ m):=by
 have d:(P.any λe=>decide (e.1=Ě n))=true:=by
  rw[jZ,H.is,aR,decide_eq_true c]
 unfold d4;rw[if_pos d];clear d c
 induction Δ generalizing P with
 |nil=>cases H;exact .nil
 |cons m Δ h=>
  cases H with
  |@cons e _ f _ l i=>
   refine .cons ?_ (h i)
   by_cases z:m=n
   .simp_all
   simp_all
def UE(a CE st):=
 (ak (cJ (bA "House" "check_kind" a (aa 0) (ae (aa 3) ag)))
 (ak (dY (m2 (aF .In) (aa 3) (aa 2)) (ak st aq) aq)
 (ak (cJ (bA "House" "check_elders" CE (aa 0) (ae (aa 4) ag)))
 (ak (cJ (d_ kF bT (aa 2) (ae (aa 3) ag)))
 aq))))
def RA(a CE st):=
 (ak (aE 2 (mN aV ag))
 (ak (dI (fy [3,4]) (bg (aa 1)) (UE a CE st))
 aq))
structure DH(Ω:aG)(t:Nat)(ts:List (Str×Nat))(E:dB)(R:Str->List Str):Prop where
 ce:Ω[t]?=some (.lst (ts.map Ig))
 nd:(ts.map (·.1)).Nodup
 len:ts.length<=100
 row:∀p∈ts,Ω[p.2]?=some (.lst ((R p.1).map .str))/\p.1∈nms E/\(R p.1).Nodup/\(R p.1).length<=5/\∀x∈R p.1,x∈nms E
theorem DH.keep{aA fp}(T:DH a b n9 w ζ)(K:af fp a aA)(d:∀q∈fp,∀e,a[q]?≠some (.lst e)):DH aA b n9 w ζ:=
 ⟨K.get _ _ T.ce λz=>d _ z _ T.ce,T.nd,T.len,λp c=>⟨K.get _ _ (T.row p c).1 λz=>d _ z _ (T.row p c).1,(T.row p c).2⟩⟩
def zx(c:aU):=∀b h t d E L R P,bR P b h E L->DH b t d E R->∃a,c [.ref h,.ref t] b=.ok .non a/\af [] b a
theorem OS(X:vz E)(Y:Gp J0):zx (bN 5 2 (RA E J0 ω)):=by
 intro c h t A j L R P H T;rw[ba (by rfl)]
 have Z:aZ 5 [D.ref h,.ref t]=[oR h,oR t,none,none,none]:=rfl;rw[Z];have B:af [] c (c++[Cell.lst []]):=af.app;have N:(c++[Cell.lst []])[c.length]?=some _:=aj;have r1:aE 2 (mN aV ag) [oR h,oR t,none,none,none] c=.nx [oR h,oR t,oR c.length,none,none] (c++[Cell.lst []]):=by rfl
 have C:=T.keep B (by simp)
 have H1:=H.lt.keep B;have lt:=bb T.ce;generalize c++[Cell.lst []]=l at *
 have F:bg (aa 1) [oR h,oR t,oR c.length,none,none] l=.ok (.seq (.ref t)) l:=by
  exact aM (by rw[ax,av C.ce])
 unfold RA;rw[ai,r1,aH,ai,cq,F];have k:=T.len;refine bE (R:=λr=>∃o,fb (sq r _)=.ok _ o/\af [] c o) (q:=A.map Ig) (λi x f=>∃G I,x=[oR h,oR t,oR _,G,I]/\af [c.length] _ f/\f[c.length]?=some (.lst (((A.take i).map (·.1)).map .str))) ?_ ?_ ?_ _ 0 _ _ (by unfold fuel;simp;exact oi k) (Ë _) ⟨_,_,rfl,af.refl,N⟩
 .rintro i x f ⟨_,_,_,K,_⟩
  rw[bw,ax,av (K.get _ _ C.ce (by simp;exact O' lt))]
 .rintro i d x f hd ⟨G,I,rfl,K,g⟩
  obtain⟨⟨n,a⟩,s,rfl⟩:=Ih hd;have O:=Î s;refine⟨[oR h,oR t,oR _,oS n,oR a],rfl,?_⟩;refine fV (C.row _ O) λw1 w2 w3 w4 w5=>?_
  have la:=(λp s=>bb (T.row p s).1) _ O
  have J:=H1.CG K N (λz=>Ò _ z.2)
  refine bD (X _ h j L _ n J w2) λu e3 y=>?_
  have m3:bA "House" "check_kind" E (aa 0) (ae (aa 3) ag) [oR h,oR t,oR c.length,oS n,oR a] f=.ok .non u:=by
   rw[dv J rfl (by decide)]
   show pQ _=_
   rw[e3];rfl
  have Q:=y.get _ _ g (by simp)
  have S:=iw (d:=n) Q
  rw[decide_eq_false (by
   have:=ua T.nd (b:=i) (d:=n) (by simp[s])
   rwa[←aar]at this)]at S
  have U:=J.keep y;refine bD (Y _ h a j L _ _ U ((af.trans K (er.up y)).get _ _ w1 (by simp;exact O' la)) w3 w4 w5) λw e4 V=>?_
  have m4:bA "House" "check_elders" J0 (aa 0) (ae (aa 4) ag) [oR h,oR t,oR c.length,oS n,oR a] u=.ok .non w:=by
   rw[dv U rfl (by decide)]
   show pQ _=_
   rw[e4];rfl
  have M:=V.get _ _ Q (by simp)
  have e:UE E J0 ω [oR h,oR t,oR c.length,oS n,oR a] f=.nx [oR h,oR t,oR c.length,oS n,oR a] (w.set c.length (.lst (((A.take i).map (·.1)).map .str++[.str n]))):=by
   unfold UE;rw[ai,bW,m3,cx,aH,ai]
   show sq (cb (dk (aF .In _ _ _)) _) _=_
   rw[S]
   show sq (cJ _ _ _) _=_
   rw[bW,m4,cx,aH,ai,bW,eA rfl (dz M)]
   show sq (cb (bT _ _ _) _) _=_
   rw[(dX (m:=.str n) M (by simp;exact cO (B' (ŧ _ _) k)))]
   rfl
  rw[e];refine⟨_,_,rfl,((K.trans (er.up y)).trans (er.up V)).trans (af.set (by simp)),?_⟩
  rw[aT M,é,s];simp
 .rintro x f ⟨G,I,rfl,K,_⟩
  exact⟨_,rfl,af.new B K (by simp)⟩
def UG:=(ak (ey (aa 2) (aa 3) (mN (aN .list) (ae (aa 4) ag))) aq)
end Mir
namespace Mir
open PySem PySem.Spec PyProof.Rows L2
structure pY(K:M')(C:b')(x qual:Str)(st:K')(f:b')(fd:Å):Prop where
 me:Meth K C x f
 fn:zE K x qual st f fd
variable{C h:b'}{G:M'}{M M2 T5 T6 y6 z6:f'}{Q4 m6:Option b'}{Q5:Array (Option f')}{U d:Str}{Θ:K'}
theorem uc(a:Ù G (.ref C) d=some (some (.ref h)))(l:G.lookup h=some ⟨M,Q4,.func (Ý d U (bI Θ) (a_ Θ) (ao Θ) .none M2 T5 y6 m6 z6 T6),Q5⟩)(c:Ĕ G z6 U=true)(k:Ó G (.ref h)=true)(i:Ϧ G (.ref h)=true):pY G C d U Θ h (Ý d U (bI Θ) (a_ Θ) (ao Θ) .none M2 T5 y6 m6 z6 T6):=⟨⟨a,i,k⟩,qB l c k⟩
variable [h_]
variable{ψ:Å}
theorem kf(F:zE G d U Θ h ψ):zl G d U Θ .none h ψ:=⟨F.ex,F.kp⟩
variable{A:À}{B W3:D'}{L7 g Δ:List Str}{b:Nat}{y:Ä}{θ:aO}{ν:Str->Option f'}{ω:SM}
def aX.UH(W:aX y A G ν B θ b)(X:G.In W3)(c:W3.Ns Ì ν)(a:nU G d Θ h ψ)(j:eU g Δ (ao Θ)=true)(k:tQ θ L7 Θ g=some ω)(l:∀kV e m n f ct i,i.length=Δ.length->ŕ (Ý d d (bI Θ) (a_ Θ) (ao Θ) .none kV e m n f ct) ⟨i,[]⟩=pure (Δ.zip i)):=W.dr (Ô X c a.ns) a.fn.kp (a.fn.binds l) (kb W (kf a.fn) j k)
variable{Y4:Str}
def aX.UI(W:aX y A G ν B θ b)(i:ν Y4=some (.ref h))(j:oj G h)(a:pY G h d U Θ C ψ)(k:eU g Δ (ao Θ)=true)(l:tQ θ L7 Θ g=some ω)(m:∀kV c n o e ct f,f.length=Δ.length->ŕ (Ý d U (bI Θ) (a_ Θ) (ao Θ) .none kV c n o e ct) ⟨f,[]⟩=pure (Δ.zip f)):=W.gv i j a.me (a.fn.binds m) (kb W (kf a.fn) k l)
abbrev ud(K C x qual st):=∃f a,pY K C x qual st f a
abbrev fg(K x st):=∃f a,nU K x st f a
structure UJ(K:M')(C:Str)(a:b'):Prop where
 ns:ß K Ì C=some (some (.ref a))
 pg:aaR K a ab9=true
 hd:ĺ K a=true
 po:aaG K a=true
 sa:Ù K (.ref a) "__setattr__"=some (some (.builtin "object.__setattr__"))
 ma:aaO K a=true
 kc:Ó K (.ref a)=true
theorem UJ.cl(c:UJ G d h):oj G h:=⟨c.pg,c.hd,c.po,c.sa⟩
variable{Y7:f'->f'->f'->Option b'->f'->f'->List f'->Prop}
theorem zy(h:∀a b c d e f x,Y7 a b c d e f [x]):∀a b c d e f g,g.length=1->Y7 a b c d e f g:=λ_ _ _ _ _ _ g i=>match g,i with|[_],_=>h ..
theorem pZ(h:∀a b c d e f x y,Y7 a b c d e f [x,y]):∀a b c d e f g,g.length=2->Y7 a b c d e f g:=λ_ _ _ _ _ _ g i=>match g,i with|[_,_],_=>h ..
theorem UK(h:∀a b c d e f x y z,Y7 a b c d e f [x,y,z]):∀a b c d e f g,g.length=3->Y7 a b c d e f g:=λ_ _ _ _ _ _ g i=>match g,i with|[_,_,_],_=>h ..
theorem Zo(h:∀a b c d e f x y z w,Y7 a b c d e f [x,y,z,w]):∀a b c d e f g,g.length=4->Y7 a b c d e f g:=λ_ _ _ _ _ _ g i=>match g,i with|[_,_,_,_],_=>h ..
structure Df(T:aO)(st:K')(N:List Str)(n:Nat)(c:SM):Prop where
 s:(eU N (N.take n) (ao st)&&(N.take n).length==n)=true
 k:tQ T [] st N=some c
theorem Df.sc(d:Df θ Θ g b ω):eU g (g.take b) (ao Θ)=true:=(adP.mp d.s).1
theorem Df.ln(d:Df θ Θ g b ω):(g.take b).length=b:=eq_of_beq (adP.mp d.s).2
variable{s:Nat}
theorem aX.dF(W:aX y A G ν B θ b)(X:G.In W3)(h:W3.Ns Ì ν)(a:fg G d Θ)(c:Df θ Θ g s ω)(n:∀kV l o p m ct j,j.length=s->ŕ (Ý d d (bI Θ) (a_ Θ) (ao Θ) .none kV l o p m ct) ⟨j,[]⟩=pure ((g.take s).zip j)):
  aX y A G ν B (θ.dr d (bN g.length s ω)) (b+1):=by
 obtain⟨_,_,a⟩:=a;have:=W.UH X h a c.sc c.k λa i ω q e f j W3=>n a i ω q e f j (W3.trans c.ln)
 rwa[c.ln]at this
theorem aX.dM(W:aX y A G ν B θ b)(o:ν Y4=some (.ref h))(p:oj G h)(a:ud G h d U Θ)(c:Df θ Θ g s ω)(q:∀kV m r t n ct l,l.length=s->ŕ (Ý d U (bI Θ) (a_ Θ) (ao Θ) .none kV m r t n ct) ⟨l,[]⟩=pure ((g.take s).zip l)):
  aX y A G ν B (θ.gv Y4 d (bN g.length s ω)) (b+1):=by
 obtain⟨_,_,a⟩:=a;have:=W.UI o p a c.sc c.k λa i ω u e f l j=>q a i ω u e f l (j.trans c.ln)
 rwa[c.ln]at this
theorem Df.ok(a:Df θ Θ g s ω)(W:aX y A G ν B θ b)(F:zl G d U Θ M h ψ):bQ y A G ν B fk (b+1) h ψ (g.take s) (cZ (cQ ν) (bN g.length s ω)):=by
 have:=kb W F a.sc a.k;rwa[a.ln]at this
variable{E:aU}{H l:T'}{I:List x'}{N:List V}{c:Cx}{i:Str->b'->Prop}{j:x'}{q:List D}{r:iP}{u0:AM}{χ:List f'}
theorem zz(F1:bQ c.prog c.w c.K c.mg c.base fk b h ψ g (cZ i E))(p:cz b c.A)(s:Gl c d)(t:c.mg d=some (.ref h))(u:Ó c.K (.ref h)=true)(x:Binds c.K ψ g χ)(y:Vals N χ)(z:∀f Z a,aI (aw f Z a) q N)(k:(d==("__debug__"))=false)(B:F' (j::I) c.env=(false,eval j c.env)::F' I c.env)(m:(Æ H (F' I c.env)).any (·.1)=false)(C:s_ c i r (j::I) u0):
  bt c i r (.Call (.Name d l) (j::I) [] H) (mN (λxs n=>aQ E (xs++q) n) u0):=by
 intro o D F G n;refine PE.imp (qv F1 p s t u x y lu (C o D F G n) k B m) ?_;rintro T a Q ⟨f,Z,S,e⟩;refine⟨f,Z,S,oE.use e λxs J _ U V L M X O P R=>⟨_,M,_,_,O,P.append (z _ _ _),b_.ok0 R⟩⟩
def rowOf(st:K')(i:Nat)(f:Str):kr:=match (a_ st).getD i (.Pass ⟨0,0,0,0⟩)with
 |.Assign [.Attribute (.Name _ a) _ b] v c=>⟨f,v,a,b,c⟩
 |_=>⟨f,.Constant .none 0 ⟨0,0,0,0⟩,⟨0,0,0,0⟩,⟨0,0,0,0⟩,⟨0,0,0,0⟩⟩
structure Yh(K:M')(x qual:Str)(st:K')(C N f c:b')(fd:Å):Prop where
 a:ß K Ì x=some (some (.ref C))
 cl:mY K C N f
 fn:zE K "__init__" qual st f fd
 cv:fd.code=.ref c
 is:Pw K C
variable{B5 G7:List f'}{D7:Option Bool}{J8:ClassData}{d6:Str}{i5 k7 o7 u7 z7:Option f'}{v:Bool}{x0 ο:b'}
theorem Kt(b:ß G Ì d=some (some (.ref C)))(c:G.lookup C=some (ŝ Y4 d6 C h χ B5 true g G7 v D7 Q4 i5 k7 o7 u7 z7 "ValueError.__new__"))(nC:ß G h "__init__"=some (some (.ref ο)))(tC:sH G B5=true)(xa:abi G C=some J8)(e:fR J8.mro=true)(f:J8.hasDict=true)(i:Ù G (.ref C) "__setattr__"=some (some (.builtin "object.__setattr__")))(xe:Ù G (.ref C) "__getattribute__"=some (some (.builtin "BaseException.__getattribute__")))(j:Ù G (.ref C) "__getattr__"=some none)(k:Ă G C (.type "BaseException")=some true)(l:ĺ G C=true)(m:Px G h "__init__"=some (some (.ref ο)))(n:Ó G (.ref C)=true)(o:aaP G (.ref ο)=some (.type "function")){a}(p:G.lookup ο=some ⟨M,m6,.func (Ý "__init__" U (bI Θ) (a_ Θ) (ao Θ) .none M2 T5 y6 a (.ref x0) z6),Q5⟩)(q:Ĕ G (.ref x0) U=true)(r:Ó G (.ref ο)=true)(s:Ù G (.ref C) "__class__"=some (some (.builtin "object.__class__")))(t:ļ G (.builtin "object.__class__") "__get__"=some (some (.builtin "getset_descriptor.__get__")))(u:Ŷ G (.builtin "object.__class__")=some true)(w:Ă G C (.type "object")=some true):Yh G d U Θ C h ο x0 (Ý "__init__" U (bI Θ) (a_ Θ) (ao Θ) .none M2 T5 y6 a (.ref x0) z6):=
 ⟨b,⟨⟨_,_,_,_,_,_,_,_,_,_,_,_,_,_,c,wk tC⟩,⟨_,xa,e,f⟩,i,⟨xe,j,k⟩,l,HJ m,n,o⟩,qB p q r,rfl,⟨s,t,u,w⟩⟩
variable{T a z5:aG}{m:D}{t:bo}
theorem zA{ms}(c:u0 t a=.ok q T)(e:q.length=b)(f:ke d ms [] (none::q.map some) T=.exc m z5):fP d b ms u0 t a=.exc m z5:=by
 unfold fP
 simp_all
def Dh(a b):=
 (ak (cJ (bA "House" "may_turn" a (aa 0) (ae (aa 1) ag)))
 (ak (aE 2 (mN gi (ae fe ag)))
 (ak (dI (fy [3,4]) (bg (aa 1)) UG)
 (ak (cJ (kU "House" "settle" b (aa 0) (ae (aa 2) ag)))
 aq))))
def Ii(E):=∃n∈nms E,∀a,¬ kS E n a
variable{w:dB}{ζ:Str->List Str}{ς:Nat->Prop}
theorem xU(H:bR ς a b w ζ)(h:t[s]?=some (oR b))(i:([("elders",D.ref 0),("lines",D.ref 0)]:List (Str×D)).lookup d=none)(j:u0 t a=.ok q T):kU "House" d E (aa s) u0 t a=E (.ref b::q) T:=by
 refine fQ H λe l c f g _=>?_
 unfold kU;have:jU a (.ref b)=some (b,("House":Str),([("elders",.ref e),("lines",.ref l)]:List (Str×D))):=by simp only[jU,g]
 simp_all
theorem Ku(b:d∈nms w)(c:(ζ d).Nodup)(e:(ζ d).length<=5)(f:∀x∈ζ d,x∈nms w):DH (a++[.lst ((ζ d).map .str)]++[.lst [Ig (d,a.length)]]) (a.length+1) [(d,a.length)] w ζ where
 ce:=by
  simp
 nd:=by simp
 len:=by simp
 row:=λp g=>by
  simp_all
theorem Kv(hR:Q0 (aY Δ ζ))(i:d∈Δ)(j:g.Nodup)(k:g.length<=5)(l:∀x∈g,x∈Δ):Q0 (aY Δ λm=>if m=d then g else ζ m):=by
 have f:∀m∈Δ,aL (aY Δ λm=>if m=d then g else ζ m) m=if m=d then g else ζ m:=λm a=>cD a
 have b:∀m∈Δ,aL _ m=ζ m:=λm a=>cD a
 have h:∀m∈Δ,(if m=d then g else ζ m).Nodup/\(if m=d then g else ζ m).length<=5/\∀x∈(if m=d then g else ζ m),x∈Δ:=λm a=>by
  by_cases e:m=d
  .simp_all
  .rw[if_neg e,←b m a]
   exact⟨hR.JO m (by rwa[aR]),hR.short m (by rwa[aR]),λx c=>by have:=hR.el m (by rwa[aR]) x c;rwa[aR]at this⟩
 exact⟨by rw[aR];have:=hR.nd;rwa[aR]at this,λm a x c=>by rw[aR]at a ⊢;grind,λm a=>by rw[aR]at a;simp_all,λm a=>by rw[aR]at a;simp_all,by have:=hR.few;simpa[aY]using this⟩
def rF:=(ak (bU (ah (.bl false))) aq)
theorem Kw(G:lZ w ζ):Q0 w:=⟨G.nd,λn a=>G.sub a,λn a=>by
  obtain⟨i,b⟩:=G.t6 a;exact(G.el i _ b).1,λn a=>by
  obtain⟨i,b⟩:=G.t6 a;exact B' (G.el i _ b).2.1 (by decide),G.len⟩
theorem OT(G:lZ w ζ)(a:d∈nms w):(aL w d).length<=4:=by
 obtain⟨i,b⟩:=G.t6 a;exact(G.el i _ b).2.1
def RB(C:List D->Out Rs):=(m2 aK (mN aV (ae (ah (.int 4)) (ae (ah (.int 5)) (ae (ah (.int 6)) (ae (ah (.int 7)) (ae (ah (.int 4)) (ae (ah (.int 5)) (ae (ah (.int 6)) (ae (ah (.int 7)) (ae (ah (.int 1)) (ae (ah (.int 2)) (ae (ah (.int 3)) (ae (ah (.int 7)) ag))))))))))))) (m2 (a7 .Mod) (mN (cE C) (ae (aa 0) (ae (ah (.int 0)) ag))) (ah (.int 12))))
variable{C5:List Int}{E6:List Int->Nat->Int}{W1:List D->Out Rs}
theorem Kx(c:h9 E6 W1)(l:t[0]?=some (some (SC C5))):∃(m:Nat) (aA:aG),1<=m/\m<=12/\RB W1 t a=.ok (.int m) aA/\af [] a aA:=by
 have n:W1 [SC C5,.int 0]=.ok _:=c C5 0
 have h:(mN aV (ae (ah (.int 4)) (ae (ah (.int 5)) (ae (ah (.int 6)) (ae (ah (.int 7)) (ae (ah (.int 4)) (ae (ah (.int 5)) (ae (ah (.int 6)) (ae (ah (.int 7)) (ae (ah (.int 1)) (ae (ah (.int 2)) (ae (ah (.int 3)) (ae (ah (.int 7)) ag))))))))))))) t a=.ok (.ref a.length) (a++[.lst ([4,5,6,7,4,5,6,7,1,2,3,7].map .int)]):=by
  rfl
 have i:(a++[Cell.lst ([4,5,6,7,4,5,6,7,1,2,3,7].map .int)])[a.length]?=some _:=aj;have j:af [] a (a++[Cell.lst ([4,5,6,7,4,5,6,7,1,2,3,7].map .int)]):=af.app;generalize a++[Cell.lst _]=b at *;have g:(m2 (a7 .Mod) (mN (cE W1) (ae (aa 0) (ae (ah (.int 0)) ag))) (ah (.int 12))) t b=.ok (.int (E6 C5 0%12)) b:=by simp_all
 obtain⟨s,d⟩:∃s:Nat,E6 C5 0%12=s:=⟨(E6 C5 0%12).toNat,by omega⟩
 rw[d]at g
 have e:∀s<12,∃m:Nat,1<=m/\m<=12/\([4,5,6,7,4,5,6,7,1,2,3,7])[s]?=some (m:Int):=by
  intro s d
  match s,d with
  |0,_=>exact⟨4,by omega,by omega,rfl⟩
  |1,_=>exact⟨5,by omega,by omega,rfl⟩
  |2,_=>exact⟨6,by omega,by omega,rfl⟩
  |3,_=>exact⟨7,by omega,by omega,rfl⟩
  |4,_=>exact⟨4,by omega,by omega,rfl⟩
  |5,_=>exact⟨5,by omega,by omega,rfl⟩
  |6,_=>exact⟨6,by omega,by omega,rfl⟩
  |7,_=>exact⟨7,by omega,by omega,rfl⟩
  |8,_=>exact⟨1,W' _,by decide,rfl⟩
  |9,_=>exact⟨2,by decide,by decide,rfl⟩
  |10,_=>exact⟨3,by decide,by decide,rfl⟩
  |11,_=>exact⟨7,by omega,by omega,rfl⟩
 obtain⟨m,m1,f,k⟩:=e s (by omega)
 refine⟨m,_,m1,f,?_,j⟩;unfold RB;rw[dj,h,au,g];exact bY i (L2.cH (by rw[î,k];rfl))
def UL(a b):=(mN (aQ a) (ae (aa 2) (ae (mN (aQ b) (ae (aa 0) (ae (ah (.int 2)) (ae (aa 2) (ae (ah (.int 4)) ag))))) ag)))
variable{J0 n5:aU}{d0:Option D}
theorem OU(m:h9 E6 W1)(s:GO E)(u:GI J0)(hR:GP n5)(o:1<=b)(g:b<=12):
  ∃x e l xs c L d f,Rx W1 E (some (SC C5)::oI b::d0::t) a=.ok (.ref x) d/\UL J0 n5 (some (SC C5)::oI b::oR x::t) d=.ok (.tup [.ref e,.ref l]) f/\Hand f x e l xs c L/\xs.length=b:=by
 have w:W1 [SC C5,.int 1]=.ok _:=m C5 1;refine fh (s a (E6 C5 1) b o g) λxs x d p y j z n S=>?_
 refine bc (hR _ C5 2 x 4 xs n p (B' (R' j) g)) λk A B f T R C D q=>?_
 obtain⟨c,L,e,l,F,H,I,U,J,K,G,M,N,O,P,Q⟩:=u _ x k A xs B (q.get _ _ n (by simp)) R C p (B' (R' j) g) (λi r h=>by
  refine qb (D i r h) λV X Y=>?_
  simp_all)
 refine⟨x,e,l,xs,c,L,d,_,?_,?_,⟨(q.trans J).get _ _ n (by simp),B' o (R' j.symm),y,K,G,⟨_,.inl M,N⟩,⟨_,.inl O,P⟩,Q⟩,j⟩
 .simp[Rx,w,z]
 .have Z:(mN (aQ n5) (ae (aa 0) (ae (ah (.int 2)) (ae (aa 2) (ae (ah (.int 4)) ag))))) (some (SC C5)::oI b::oR x::t) d=.ok (.ref k) f:=by
   simp_all
  have v2:aa 2 (some (SC C5)::oI b::oR x::t) _=.ok _ d:=rfl;unfold UL
  simp_all
theorem ix(h:t[b]?=some (some m)):aa b t a=.ok m a:=by simp_all
variable{Y:D}
theorem Ij(h:t[b]?=some (some m))(e:E [m] a=.ok Y T):mN (aQ E) (ae (aa b) ag) t a=.ok Y T:=by
 simp_all
variable{S7:D}{p:EM}
theorem call2(h:t[b]?=some (some m))(c:p t a=.ok Y T)(e:E [m,Y] T=.ok S7 z5):mN (aQ E) (ae (aa b) (ae p ag)) t a=.ok S7 z5:=by
 simp_all
theorem Di(h:p t a=.ok m T):aE b p t a=.nx (t.set b (some m)) T:=by simp_all
theorem Ky(h:p t a=.ok (.bl false) T):dY p rF aq t a=.nx t T:=by simp_all
theorem xV(h:p t a=.ok (.bl true) T):eN p t a=.ok (.bl false) T:=by simp_all
variable{X:EM}
theorem Kz(b:p t a=.ok (.bl false) T)(c:X t T=.ok m z5):oG p X t a=.ok m z5:=by
 simp_all
theorem OV(b:p t a=.ok (.bl true) T)(c:X t T=.ok m z5):ij p X t a=.ok m z5:=by
 simp_all
variable{P6:D->D->aG->ay D}
theorem kY(b:p t a=.ok m T)(c:X t T=.ok Y z5):m2 P6 p X t a=P6 m Y z5:=by simp_all
variable{B6:SM}
theorem vJ{JG}(h:ω t a=.nx JG T):ak ω B6 t a=B6 JG T:=by simp_all
noncomputable def nxt(xs:List Str):=xs.drop 1++xs.take 1
def lO(E x y):=decide (x∈nms E)&&decide (y∈aL E x)
def jv(E)(xs:List Str) := !decide (xs=[])&&(decide xs.Nodup&&(Ŋ (lO E) xs (nxt xs)).all id)
theorem iN(xs):(nxt xs).length=xs.length:=by
 unfold nxt;cases xs<;>simp
theorem ue:∀(xs a:List Str),xs.Nodup->(∀x∈xs,x∉a)->(xs.foldl fo a).length=a.length+xs.length
 |[],a,_,_=>by simp
 |x::xs,a,b,c=>by
  have e:fo a x=a++[x]:=if_neg (c x (by simp))
  obtain⟨f,d⟩:=Ł.mp b
  rw[abJ,e,ue xs _ d (λy g=>by
   grind)]
  simp;omega
theorem og:∀xs,hX (xs.map .str)=some xs
 |[]=>rfl
 |x::xs=>by simp[hX,og xs]
theorem xW:∀(xs a:List Str),(xs.foldl fo a).length<=a.length+xs.length
 |[],a=>by simp
 |x::xs,a=>by
  refine B' (xW xs _) ?_;unfold fo;split<;>simp<;>omega
theorem fold_eq:∀(xs a:List Str),(xs.foldl fo a).length=a.length+xs.length->xs.Nodup/\∀x∈xs,x∉a
 |[],a,_=>by simp
 |x::xs,a,h=>by
  rw[abJ]at h
  by_cases b:x∈a
  .have e:fo a x=a:=if_pos b
   rw[e]at h;have:=xW xs a
   grind
  .have e:fo a x=a++[x]:=if_neg b
   obtain⟨c,d⟩:=fold_eq xs (a++[x]) (by grind)
   grind
theorem vK:unlike g=g.length↔g.Nodup:=by
 constructor
 .intro h
  exact(fold_eq g [] (by simpa[unlike]using h)).1
 .intro h
  have:=ue g [] h (by simp)
  simpa[unlike]using this
theorem vL(h:a[b]?=some (.lst (g.map .str)))(c:g.length<=1000):kC fc (.ref b) a=.ok (.int (unlike g)) a:=by
 unfold kC;rw[(dN (b:=7) h)]
 have:fc (L1 g)=.ok (false,.int (unlike g)):=by
  show(match hX _ with|some g=>if g.length<=1000 then Out.ok _ else .bad|none=>.bad)=_
  rw[og]
  simp_all
 simp_all
theorem Dj(i:ρ[s]?=some (oR b))(h:a[b]?=some (.lst (g.map .str)))(d:g.length<=1000):
  m2 (aF .NotEq) (m1 (kC fc) (aa s)) (mN (aN .len) (ae (aa s) ag)) ρ a=.ok (.bl (!decide g.Nodup)) a:=by
 have c:aa s ρ a=.ok (.ref b) a:=by simp_all
 have e:(m1 (kC fc) (aa s)) ρ a=.ok (.int (unlike g)) a:=by
  rw[Nu,c];exact vL h d
 have f:(mN (aN .len) (ae (aa s) ag)) ρ a=.ok (.int (g.length)) a:=by
  rw[dJ,a5,c,au,bh,au,au,eo h];simp
 rw[dj,e,au,f]
 have:(!((unlike g)==(g.length:Int)))=!decide g.Nodup:=by
  rw[Bool.eq_iff_iff];simp;rw[←vK];omega
 simp_all
def heT:=(ij (m2 (aF .In) (aa 1) (aa 0)) (m2 (aF .In) (aa 2) (m2 aK (aa 0) (aa 1))))
def GR:=(ak (bU heT) aq)
def KA(c:aU):=∀b e a E P x y,bu b e a->aD P b a E->c [.ref e,.str x,.str y] b=.ok (.bl (lO E x y)) b
theorem KC:KA (bN 3 3 GR):=by
 intro a e f E P x y c d;rw[ba (by rfl)]
 have l:aZ 3 [D.ref e,.str x,.str y]=[oR e,oS x,oS y]:=rfl
 have g:(m2 (aF .In) (aa 1) (aa 0)) [oR e,oS x,oS y] a=.ok (.bl (decide (x∈nms E))) a:=by
  show aF .In _ _ a=_
  rw[Gi c,d.is]
 have m:heT [oR e,oS x,oS y] a=.ok (.bl (lO E x y)) a:=by
  unfold heT lO;rw[jW,g,au,cX]
  by_cases b:x∈nms E
  .rw[decide_eq_true b,pR]
   refine br (d.at b) λj h _ i=>?_
   have k:(m2 aK (aa 0) (aa 1)) [oR e,oS x,oS y] a=.ok _ a:=et c h;have v2:aa 2 [oR e,oS x,oS y] a=.ok _ a:=rfl;rw[dj,v2,au,k];exact iw i
  .rw[decide_eq_false b,xy,aao]
 unfold GR
 simp_all
variable{N3:Src}
theorem OW{d:List (Str×Str)}{g:Str->Str->D}(j:ek N3 a=some (d.map λb=>.tup [.str b.1,.str b.2]))(k:∀x y,(x,y)∈d->X ([oS x,oS y]++t) a=.ok (g x y) a):
  ∀f i c,d.length - i<f->i<=d.length->c.length+d.length<=100000+i->rg true p X 2 t N3 f i c a=.ok (c++((d.drop i).map λb=>g b.1 b.2)) a:=by
 intro f
 induction f with
 |zero=>simp
 |succ f n=>
  intro i c o q r;simp only[rg,j]
  by_cases e:i<d.length
  .have h:=aat e
   rw[î,ä e,š e];generalize d[i]=b at h ⊢;obtain⟨x,y⟩:=b;have l:lV 2 (D.tup [.str x,.str y])=some [oS x,oS y]:=rfl;simp only[ň,l];rw[if_pos (aW (by omega))]
   show(match X _ a with|.ok y m=>rg _ p X 2 t _ f _ _ _|_=>.bad)=_
   rw[k x y h]
   grind
  simp_all
variable{B1:IM}{L:List Nat}
theorem KG{c:List (Str×Str)}{g:Str->Str->D}(e:B1 t a=.ok N3 T)(f:ek N3 T=some (c.map λb=>.tup [.str b.1,.str b.2]))(h:∀x y,(x,y)∈c->p ([oS x,oS y]++ed L t) T=.ok (g x y) T)(d:c.length<=90000):
  bB p true X B1 2 L t a=.ok (.ref T.length) (T++[.lst (c.map λb=>g b.1 b.2)]):=by
 unfold bB;rw[e];dsimp only;rw[OW f h _ 0 [] (by unfold fuel;exact oi (B' (õ _ _) d)) (Ë _) (by simp;exact cO d)]
 rfl
def KH:=(m2 (a7 .Add) (cp (aa 1) false (ah (.int 1)) true (ah .non)) (cp (aa 1) true (ah .non) false (ah (.int 1))))
def UM:=(oG (eN (aa 1)) (m2 (aF .NotEq) (m1 (kC fc) (aa 1)) (mN (aN .len) (ae (aa 1) ag))))
def UN(a):=(bB (mN (aQ a) (ae (aa 2) (ae (aa 0) (ae (aa 1) ag)))) true (ah .non) (vh (ae (aa 1) (ae KH ag))) 2 [0])
def RC(a):=(ak (dY UM rF aq) (ak (bU (mN (aN .all) (ae (UN a) ag))) aq))
theorem Dk(h:a[b]?=some (.lst (g.map .str)))(m:g.length<=900):∃aA k,(∀c,c[1]?=some (oR b)->KH c a=.ok (.ref k) aA)/\aA[k]?=some (.lst ((nxt g).map .str))/\af [] a aA:=by
 have n:=rH h;have d:(a++[Cell.lst (g.tail.map .str)])[b]?=some _:=cu h;have o:=Cw d;have e:(a++[Cell.lst (g.tail.map .str)]++[Cell.lst ((g.take 1).map .str)])[a.length]?=some _:=cu aj;have f:=eH e aj (by simp;omega)
 refine⟨a++[Cell.lst (g.tail.map .str)]++[Cell.lst ((g.take 1).map .str)]++[Cell.lst _],_,λc i=>?_,(by
  rw[aj,nxt,ì,List.drop_one]),(af.app.trans af.app).trans af.app⟩
 .have p:∀a,aa 1 c a=.ok (.ref b) a:=λa=>by simp_all
  have j:(cp (aa 1) false (ah (.int 1)) true (ah .non)) c a=.ok (.ref a.length) (a++[Cell.lst (g.tail.map .str)]):=by
   simp_all
  have l:(cp (aa 1) true (ah .non) false (ah (.int 1))) c (a++[Cell.lst (g.tail.map .str)])=.ok (.ref (a++[Cell.lst (g.tail.map .str)]).length) (a++[Cell.lst (g.tail.map .str)]++[Cell.lst ((g.take 1).map .str)]):=by
   simp_all
  unfold KH;rw[dj,j,au,l,au,f]
def DI(f:aU):=∀a e q b E P d,bu a e b->aD P a b E->a[q]?=some (.lst (d.map .str))->d.length<=900->∃c,f [.ref e,.ref q] a=.ok (.bl (jv E d)) c/\af [] a c
theorem GS(e:t[s]?=some (oR b))(h:a[b]?=some (.lst (g.map .str))):eN (aa s) t a=.ok (.bl (decide (g=[]))) a:=by
 have d:aa s t a=.ok (.ref b) a:=by simp_all
 rw[FO,d]
 have:dk (ay.ok (D.ref b) a)=.ok (!(g.map D.str).isEmpty) a:=by
  show(match ib a _ with|some c=>ay.ok c a|none=>.bad)=_
  rw[Cu h]
 rw[this];cases g<;>simp
theorem OX(u:KA E):DI (bN 2 2 (RC E)):=by
 intro d e q m a P c w z j n;rw[ba (by rfl)]
 have A:aZ 2 [D.ref e,.ref q]=[oR e,oR q]:=rfl;rw[A]
 have B:UM [oR e,oR q] d=.ok (.bl (decide (c=[])||!decide c.Nodup)) d:=by
  unfold UM;rw[ro,GS rfl j,au,cX]
  by_cases h:c=[]
  .rw[decide_eq_true h,pR];rfl
  .rw[decide_eq_false h,xy,Bool.false_or]
   exact Dj rfl j (cO n)
 unfold RC;rw[ai,dW,B]
 by_cases h:c=[]
 .rw[decide_eq_true h]
  refine⟨d,?_,af.refl⟩;unfold jv;rw[decide_eq_true h];rfl
 by_cases o:c.Nodup
 .rw[decide_eq_false h,decide_eq_true o]
  refine aJ (Dk j n) λb k G C l=>?_
  have r:=l.get _ _ j (by simp)
  have s:=w.keep l (by simp)
  have i:(c.zip (nxt c)).length=c.length:=by rw[List.length_zip,iN];omega
  have f:ek (.zip (.ref q) (.ref k)) b=some ((c.zip (nxt c)).map λp=>.tup [.str p.1,.str p.2]):=by
   show(match dm b (.ref q),dm b (.ref k)with|some c,some F=>oK c F|_,_=>none)=_
   rw[av r,av C]
   show oK _ _=_
   unfold oK;rw[if_pos (by rw[Í,Í,iN])]
   congr 1
   rw[List.zipWith_map,adQ,abO]
  have t:vh (ae (aa 1) (ae KH ag)) [oR e,oR q] d=.ok (.zip (.ref q) (.ref k)) b:=by
   have:(ae (aa 1) (ae KH ag)) [oR e,oR q] d=.ok [.ref q,.ref k] b:=by
    simp_all
   unfold vh;rw[this,au]
   show(match BE b (.ref q) (.ref k)with|some _=>ay.ok (Src.zip (.ref q) (.ref k)) b|none=>.bad)=_
   rw[show BE b (.ref q) (.ref k)=_ from f]
  have H:UN E [oR e,oR q] d=_:=KG (X:=ah .non) (L:=[0]) t f (λx y _=>by
   show pQ _=_
   rw[u b e m a P x y s (z.keep l (by simp))];rfl) (cO (B' (R' i) n))
  have g:(b++[Cell.lst ((c.zip (nxt c)).map λp=>.bl (lO a p.1 p.2))])[b.length]?=some (.lst ((Ŋ (lO a) c (nxt c)).map .bl)):=by
   rw[aj,adQ,abO,abO]
  have I:=mI g
  have J:(mN (aN .all) (ae (UN E) ag)) [oR e,oR q] d=.ok (.bl ((Ŋ (lO a) c (nxt c)).all id)) (b++[Cell.lst ((c.zip (nxt c)).map λp=>.bl (lO a p.1 p.2))]):=by
   simp_all
  refine⟨b++[Cell.lst ((c.zip (nxt c)).map λp=>.bl (lO a p.1 p.2))],?_,l.trans af.app⟩
  unfold jv
  simp_all
 .rw[decide_eq_false h,decide_eq_false o]
  refine⟨d,?_,af.refl⟩;unfold jv;rw[decide_eq_false o,aao,adR];rfl
noncomputable def vM(xs:List Str)(i):=if i=0 then xs[xs.length - 1]? else xs[i - 1]?
theorem KI(a:b<g.length):∃x,vM g b=some x:=by
 unfold vM;split
 .exact⟨_,ä (by omega)⟩
 .exact⟨_,ä (Ø (õ _ _) a)⟩
theorem GU(h:a[b]?=some (.lst (g.map .str)))(i:s<g.length)(c:vM g s=some d):aK (.ref b) (.int (s - 1)) a=.ok (.str d) a:=by
 unfold vM at c;split at c
 .rename_i j
  subst j;have f:g≠[]:=λz=>by simp[z]at i
  have e:g=g.dropLast++[d]:=by
   have k:=(List.dropLast_concat_getLast f).symm
   grind
  have:=bY h (by rw[e,ì];exact L2.Aa _ _)
  simpa using this
 .have e:((s:Int) - 1)=((s - 1:Nat):Int):=by omega
  rw[e];exact nR h c
theorem mJ:(Ŋ (lO w) g (nxt g)).all id=true↔∀i x y,g[i]?=some y->vM g i=some x->lO w x y=true:=by
 have d:∀j,j<g.length->(nxt g)[j]?=if j+1<g.length then g[j+1]? else g[0]?:=by
  intro j k;unfold nxt;split
  .rw[ã (by simp;omega),Š,adS]
  .have l:j=g.length - 1:=by omega
   rw[ē (by simp;omega),ż,l]
   simp
 rw[ù];constructor
 .intro h i x y n e
  have r:=(Ç.mp n).1;unfold vM at e;have o:∀j,g[j]?=some x->(nxt g)[j]?=some y->lO w x y=true:=λj f c=>h _ (Î (i:=j) (a:=lO w x y) (by rw[abD,f,c]))
  split at e
  .rename_i p
   subst p;refine o _ e ?_
   grind
  .refine o (i - 1) e ?_
   rw[d _ (mK e),if_pos (by omega),show i - 1+1=i by omega]
   exact n
 .intro h b q
  obtain⟨j,k⟩:=è.mp q;rw[abD]at k;cases f:g[j]? with
  |none=>simp_all
  |some x=>
   cases c:(nxt g)[j]? with
   |none=>simp_all
   |some y=>
    rw[f,c]at k;cases k;have m:=(Ç.mp f).1;rw[d j m]at c;split at c
    .exact h (j+1) x y c (by unfold vM;simp_all)
    .refine h 0 x y c ?_
     unfold vM;rw[if_pos rfl,←f]
     congr 1
     omega
def L9(E)(xs:List Str):=∀i x y,xs[i]?=some x->xs[i+1]?=some y->lO E x y=true
theorem L9.snoc(h:L9 w (g++[d]))(k:lO w d U=true):L9 w (g++[d]++[U]):=by
 intro i a b j c
 by_cases e:i+1<(g++[d]).length
 .rw[ã (Ø (Ė _ _) e)]at j
  rw[ã e]at c;exact h i a b j c
 .have f:=(Ç.mp c).1
  simp at e f;have:i=g.length:=by omega
  simp_all
theorem GV(c:g.Nodup)(j:d∈g)(h:L9 w (g++[d])):jv w (g.drop (g.idxOf d))=true:=by
 have k:=List.idxOf_lt_length_iff.mpr j;unfold jv
 rw[decide_eq_false (λz=>by
  have:=congrArg ŗ z;simp at this;omega),decide_eq_true (c.sublist (List.drop_sublist _ _)),adT,aax,aax,mJ]
 have e:g[g.idxOf d]?=some d:=by simp_all
 intro i x y b a;rw[Š]at b;have f:=(Ç.mp b).1;unfold vM at a;split at a
 .rename_i l
  subst l;rw[Š,ż]at a;rw[show g.idxOf d+(g.length - g.idxOf d - 1)=g.length - 1 by omega]at a
  rw[Nat.add_zero,e]at b;cases b;refine h (g.length - 1) x d ?_ ?_
  .grind
  .rw[show g.length - 1+1=g.length by omega];simp
 .rw[Š]at a
  refine h (g.idxOf d+(i - 1)) x y ?_ ?_
  .grind
  .rwa[show g.idxOf d+(i - 1)+1=g.idxOf d+i by omega,ã f]
variable{L5 Ξ:Nat}{P:List (Key×D)}
theorem zB(Q:Q0 w)(hz:pU w g=[]):
  ∀m h c n,h[b]?=some (.dF P)->aD ς h P w->h[Ξ]?=some (.lst (((nms w).filter λn=>!decide (n∈g)).map .str))->h[L5]?=some (.lst (c.map .str))->Ξ≠L5->¬ ς L5->c.Nodup->(∀x∈c,x∈nms w)->n∈nms w->n∉g->L9 w (c++[n])->13 - c.length<m ->
   ∃f u aA,gm loT Ra m [oR b,oR s,oS n,oR Ξ,oR L5] h=.nx [oR b,oR s,oS u,oR Ξ,oR L5] aA/\aA[L5]?=some (.lst (f.map .str))/\u∈f/\f.length<=12/\(f.Nodup/\L9 w (f++[u]))/\af [L5] h aA:=by
 intro m
 induction m with
 |zero=>simp
 |succ m ih=>
  intro h c n X hr ha o z Y r k A ho B hm
  have l:c.length<=12:=by
   have:=kQ r k;have Z:(nms w).length=w.length:=by simp[nms]
   have:=Q.few;omega
  have H:loT [oR b,oR s,oS n,oR Ξ,oR L5] h=.ok (.bl (!decide (n∈c))) h:=iK (d:=n) o
  by_cases I:n∈c
  .refine⟨c,n,h,?_,o,I,l,⟨r,B⟩,af.refl⟩
   rw[decide_eq_true I]at H;simp only[gm,H,eG];rfl
  .rw[decide_eq_false I]at H
   have M:=dX (m:=.str n) o (by simp;exact cO l)
   have M:bT (.ref L5) [.str n] h=.ok .non (h.set L5 (.lst ((c++[n]).map .str))):=by rw[M,ì];rfl
   have hL:=dz o;have J:af [L5] h (h.set L5 (.lst ((c++[n]).map .str))):=af.set (by simp)
   have N:=aT (e:=.lst ((c++[n]).map .str)) o;have O:L5≠b:=λs=>by rw[s,X]at o;cases o
   have C:=J.get _ _ X (by simpa using Ê O)
   have D:=J.get _ _ ha (by simpa using z)
   have E:=hr.keep J (λj K=>by rw[Ã.mp K];exact Y)
   generalize h.set L5 (.lst ((c++[n]).map .str))=i at *;refine br (E.at A) λj hv _ K=>?_
   refine aJ (GB Q hz A ho) λx t hf R S=>?_
   have ec:=nY (t:=[oR b,oR s,oS n,oR Ξ,oR L5]) (a:=i) (p:=m2 (aF .In) (aa 0) (aa 1)) (B1:=bg (m2 aK (aa 0) (aa 2))) (L:=[3]) (N3:=.seq (.ref j)) (g:=aL w n) (by
    rw[cf]
    show(aK (.ref b) (.str n) i).bind _=_
    rw[et (.inr C) hv,au];exact aM (by rw[ax,av K])) (by rw[bw,ax,av K]) (λx _=>iw D) (by have:=Q.short n A;exact cO this)
   rw[hf]at ec;have F:af [] i (i++[Cell.lst ((x::t).map .str)]):=af.app
   have U:lO w n x=true:=by
    have:x∈(aL w n).filter (λx=>decide (x∈(nms w).filter λn=>!decide (n∈g))):=by rw[hf];simp
    unfold lO;rw[decide_eq_true A,decide_eq_true (ĵ.mp this).1];rfl
   refine fh (ih (i++[Cell.lst ((x::t).map .str)]) (c++[n]) x (F.get _ _ C (by simp)) (E.keep F (by simp)) (F.get _ _ D (by simp)) (F.get _ _ N (by simp)) z Y (Ę.mpr ⟨r,by simp,λy V y' G b=>I (by simp at G;subst G;exact b▸V)⟩) (λy V=>(æ.mp V).elim (k y) λq=>by simp at q;exact q▸A) R S (B.snoc U) (by simp;omega)) λf u aA e3 Z h4 h5 hR K3=>?_
   refine⟨f,u,aA,?_,Z,h4,h5,hR,(J.trans (F.sub (by simp))).trans K3⟩
   have r1:Ra [oR b,oR s,oS n,oR Ξ,oR L5] h=.nx [oR b,oR s,oS x,oR Ξ,oR L5] (i++[Cell.lst ((x::t).map .str)]):=by
    unfold Ra;rw[ai,bW,eA (m:=.ref L5) (T:=h) (by rfl) hL]
    have:(ae (aa 2) ag:AM) [oR b,oR s,oS n,oR Ξ,oR L5] h=.ok [.str n] h:=rfl;rw[this,au,M,cx,aH]
    have e5:(m2 aK Um (ah (.int 0))) [oR b,oR s,oS n,oR Ξ,oR L5] i=.ok (.str x) (i++[Cell.lst ((x::t).map .str)]):=by
     unfold Um;rw[dj,ec,au];exact bY aj (L2.cH (b:=0) (by simp))
    rw[ai,bj,e5];rfl
   simp only[gm,H,eG,fN]
   simp_all
def GW(h:aU):=∀f e c E P,bu f e c->aD P f c E->Q0 E ->
 ∃d b,h [.ref e] f=.ok d b/\af [e] f b/\b[e]?=some (.dF c)/\(d=.non/\(∀n∈nms E,∃a,kS E n a)\/(∃n∈nms E,∀a,¬ kS E n a)/\∃q g,d=.ref q/\b[q]?=some (.lst (g.map .str))/\g.length<=12/\jv E g=true)
theorem KJ(hE:Oq E):GW (bN 5 1 (QM E Rb)):=by
 intro Y e L f P M N Q;rw[ba (by rfl)]
 have e0:aZ 5 [D.ref e]=[oR e,none,none,none,none]:=rfl;rw[e0];obtain⟨l,z,d,e1,hz,F,p,I,q,lz⟩:=hE Y e L f _ M N.lt Q;have O:=Q.few;have R:=N.lt.cy I (λj hj ds=>by rw[Ã.mp hj];exact M.nl ds)
 have e3:Uc [oR e,oR z,none,none,none] d=.ok (.ref d.length) _:=nY (N3:=.keys e) (by
  rw[cf]
  show srcOf d (.ref e)=_
  rw[xP (.inr q),set_same q]) (by rw[rK q,N.keys]) (λn _=>iK hz) (by simp[nms];exact cO O)
 have B:af [] d (d++[.lst (((nms f).filter λn=>!decide (n∈l)).map .str)]):=af.app
 have A:(d++[Cell.lst (((nms f).filter λn=>!decide (n∈l)).map .str)])[d.length]?=some _:=aj
 have J:=j_ A;have r1:(aE 1 (mN (aQ E) (ae (aa 0) ag))) [oR e,none,none,none,none] Y=.nx [oR e,oR z,none,none,none] d:=by simp[e1]
 have r2:(aE 3 Uc) [oR e,oR z,none,none,none] d=.nx [oR e,oR z,none,oR d.length,none] (d++[.lst (((nms f).filter λn=>!decide (n∈l)).map .str)]):=by rw[bj,e3];rfl
 have r:=B.get _ _ q (by simp)
 have S:=R.keep B (by simp)
 have l2:(d++[Cell.lst (((nms f).filter λn=>!decide (n∈l)).map .str)]).length=d.length+1:=by simp
 generalize Z:d++[Cell.lst _]=g at *;unfold QM;rw[ai,r1,aH,ai,r2,aH,ai]
 by_cases hq:(nms f).filter (λn=>!decide (n∈l))=[]
 .refine⟨.non,g,?_,I.trans (B.sub (by simp)),r,.inl ⟨rfl,λn hn=>(vB F p).mp ?_⟩⟩
  .rw[hq]at J
   simp[J]
  simp_all
 .obtain⟨t,t0,U⟩:∃t t0,(nms f).filter (λn=>!decide (n∈l))=t::t0:=by
   cases h:(nms f).filter _ with
   |nil=>exact absurd h hq
   |cons a b=>exact⟨a,b,rfl⟩
  have C:t∈(nms f).filter (λn=>!decide (n∈l)):=by rw[U];simp
  have G:=(ĵ.mp C).1;have H:t∉l:=by simpa using (ĵ.mp C).2
  have u:af [] g (g++[Cell.lst []]):=af.app;have lk:=I.len;refine fh (zB (s:=z) (Ξ:=d.length) (L5:=g.length) Q p fuel (g++[Cell.lst []]) [] t (u.get _ _ r (by simp)) (S.keep u (by simp)) (u.get _ _ A (by simp)) aj (O' (mK A)) (λh=>Ò _ (ā h.2 (Ø lk (mK A)))) List.nodup_nil (by simp) G H (λi x y hx hy=>by simp_all) (by unfold fuel;simp)) λw K o e4 V h5 h6 hR X=>?_
  refine⟨.ref o.length,o++[Cell.lst _],?_,?_,?_,.inr ⟨⟨t,G,λa h=>H ((vB F p).mpr ⟨a,h⟩)⟩,_,_,rfl,aj,by simp;omega,GV hR.1 h5 hR.2⟩⟩
  .rw[U]at J
   have r3:(dY (eN (aa 3)) (ak (bU (ah .non)) aq) aq) [oR e,oR z,none,oR d.length,none] g=.nx [oR e,oR z,none,oR d.length,none] g:=by simp[J]
   rw[r3,aH];unfold Rb;have r4:(aE 4 (mN aV ag)) [oR e,oR z,none,oR d.length,none] g=.nx [oR e,oR z,none,oR d.length,oR g.length] (g++[Cell.lst []]):=by simp[aW]
   have r5:(aE 2 (m2 aK (aa 3) (ah (.int 0)))) [oR e,oR z,none,oR d.length,oR g.length] (g++[Cell.lst []])=.nx [oR e,oR z,oS t,oR d.length,oR g.length] (g++[Cell.lst []]):=by
    have:aK (.ref d.length) (.int 0) (g++[Cell.lst []])=.ok (.str t) (g++[Cell.lst []]):=bY (u.get _ _ A (by simp)) (L2.cH (b:=0) (by simp[U]))
    simp_all
   rw[ai,r4,aH,ai,r5,aH,ai];unfold lX;rw[e4,aH];have hL:=dz V
   have e6:(cp (aa 4) false (d_ kF ir (aa 4) (ae (aa 2) ag)) true (ah .non)) [oR e,oR z,oS K,oR d.length,oR g.length] o=.ok (.ref o.length) (o++[Cell.lst ((w.drop (w.idxOf K)).map .str)]):=by
    have e7:(d_ kF ir (aa 4) (ae (aa 2) ag)) [oR e,oR z,oS K,oR d.length,oR g.length] o=.ok (.int (w.idxOf K:Nat)) o:=by
     rw[eA (m:=.ref g.length) (T:=o) (by rfl) hL]
     exact zi V h5
    simp[cp,e7,vu V]
   rw[ai,ff,e6];rfl
  .refine⟨by have:=B.len;have:=u.len;have:=X.len;simp;omega,λk c hk hn=>cu (X.get k c (u.get k c (B.get k c (I.get k c hk hn) (by simp)) (by simp)) ?_)⟩
   have:=bb hk;simp;exact O' (ā (U' this lk) (mK A))
  .exact cu (X.get _ _ (u.get _ _ r (by simp)) (by have:=M.lt;simp;exact O' (mK r)))
def rP(E)(l:List Str):=l.filter λn=>!decide ((aL E n).filter (λx=>decide (x∈l))=[])
def vO(E)
 |0=>nms E
 |k+1=>rP E (vO E k)
theorem kg:d∈rP w g↔d∈g/\∃x∈aL w d,x∈g:=by
 unfold rP
 simp_all
theorem GX(h:∀n∈g,n∈nms w/\∃x∈aL w n,x∈g):∀k,∀n∈g,n∈vO w k:=by
 intro k
 induction k with
 |zero=>exact λn a=>(h n a).1
 |succ k c=>
  intro n a;obtain⟨_,x,d,b⟩:=h n a;exact kg.mpr ⟨c n a,x,d,c x b⟩
theorem uf{a}(h:kS w d a):∀l,d∈l->∃m∈l,m∉rP w l:=by
 induction h with
 |@go d L a c e g f=>
  intro l b
  by_cases q:∃x∈aL w d,x∈l
  .grind
  .exact⟨d,b,λz=>q (kg.mp z).2⟩
 |@el d y v c e i j f=>
  intro l b
  by_cases q:∃x∈aL w d,x∈l
  .grind
  .exact⟨d,b,λz=>q (kg.mp z).2⟩
theorem Dl:∀k,∀n∈vO w k,n∈nms w:=by
 intro k
 induction k with
 |zero=>exact λn h=>h
 |succ k a=>exact λn h=>a n (kg.mp h).1
theorem KL(h:∀n∈nms w,∃a,kS w n a):∀k,(vO w k).length<=w.length - k:=by
 intro k
 induction k with
 |zero=>simp[vO,nms]
 |succ k f=>
  show(rP w _).length<=_
  cases g:vO w k with
  |nil=>simp[rP]
  |cons m t=>
   have c:m∈vO w k:=by simp_all
   obtain⟨a,d⟩:=h m (Dl k m c);obtain⟨x,i,b⟩:=uf d _ c
   have j:(rP w (vO w k)).length<(vO w k).length:=by
    refine Nat.lt_of_le_of_ne (ϛ _ _) λe=>b ?_
    have:rP w _=vO w k:=adM.eq_of_length e
    simp_all
   grind
theorem p_(f:∀n∈nms w,∀x∈aL w n,x∈nms w):(vO w w.length≠[])↔∃n∈nms w,∀a,¬ kS w n a:=by
 constructor
 .intro h
  refine aay λq=>h ?_
  have:=KL (λn c=>aay λz=>q ⟨n,c,λa i=>z ⟨a,i⟩⟩) w.length
  simp_all
 .rintro⟨n,c,j⟩ h
  have k:=GX (g:=(nms w).filter λn=>!(@decide (∃a,kS w n a) ((λn=>aaj _) n))) (λm l=>by
   obtain⟨d,e⟩:=ĵ.mp l;have e:¬ ∃a,kS w m a:=by simp_all
   refine⟨d,aay λz=>e (vA d λx o=>aay λb=>z ⟨x,o,ĵ.mpr ⟨?_,by simp_all⟩⟩)⟩
   grind) w.length n (by simp_all)
  simp_all
def UO(a):=(oG (eN (mN (aQ a) (ae (aa 1) ag))) (oG (m2 (aF .Eq) (aa 1) (mN aV ag)) (m2 (aF .NotEq) (m1 (kC fc) (aa 1)) (mN (aN .len) (ae (aa 1) ag)))))
def OY:=(m2 aK (aa 1) (m2 (a7 .Sub) (aa 2) (ah (.int 1))))
def UP:=(oG (m2 (aF .NotIn) OY (aa 0)) (m2 (aF .NotIn) (m2 aK (aa 1) (aa 2)) (m2 aK (aa 0) OY)))
def RD(a):=(ak (dY (UO a) rF aq)
 (ak (dI (cY 2) (di (ae (mN (aN .len) (ae (aa 1) ag)) ag)) (ak (dY UP rF aq) aq))
 (ak (bU (ah (.bl true))) aq)))
theorem KN(c:bu a b P)(e:aD ς a P w)(f:a[s]?=some (.lst (g.map .str)))(t:g.length<=900)(h:g[Ξ]?=some U)(l:vM g Ξ=some d):
  UP [oR b,oR s,some (.int Ξ)] a=.ok (.bl (!lO w d U)) a:=by
 have i:OY [oR b,oR s,some (.int (Ξ))] a=.ok (.str d) a:=by
  have:(m2 (a7 .Sub) (aa 2) (ah (.int 1))) [oR b,oR s,some (.int (Ξ))] a=.ok (.int ((Ξ) - 1)) a:=by
   rfl
  have v1:aa 1 [oR b,oR s,some (.int (Ξ))] a=.ok _ a:=rfl;exact GU f ((Ç.mp h).1) l
 have m:(m2 (aF .NotIn) OY (aa 0)) [oR b,oR s,some (.int (Ξ))] a=.ok (.bl (!decide (d∈nms w))) a:=by
  rw[dj,i]
  show aF .NotIn _ _ a=_
  rw[Ia c,e.is]
 unfold UP lO;rw[ro,m,au,cX]
 by_cases k:d∈nms w
 .rw[decide_eq_true k,Bool.not_true,xy]
  refine br (e.at k) λj n _ o=>?_
  have p:(m2 aK (aa 1) (aa 2)) [oR b,oR s,some _] a=.ok _ a:=nR f h;have q:aa 0 [oR b,oR s,some (.int (Ξ))] a=.ok _ a:=rfl
  have r:(m2 aK (aa 0) OY) [oR b,oR s,some (.int (Ξ))] a=.ok (.ref j) a:=by
   rw[dj,q,au,i];exact et c n
  rw[dj,p,au,r];exact iK o
 simp_all
def hlI:=(bB (aa 0) false (m2 (aF .In) (aa 0) (aa 1)) (bg (m2 aK (aa 1) (aa 0))) 0 [2])
def hlT:=(m2 (aF .NotEq) hlI (mN aV ag))
def Yi:=(bB (aa 0) false hlT (bg (aa 1)) 0 [0,1])
def RE:=(ak (aE 1 (mN (aN .list) (ae (aa 0) ag)))
 (ak (dI (cY 2) (di (ae (mN (aN .len) (ae (aa 0) ag)) ag)) (ak (aE 1 Yi) aq))
 (ak (bU (m2 (aF .NotEq) (aa 1) (mN aV ag))) aq)))
theorem KO(e:bu a b P)(f:aD ς a P w)(h:a[s]?=some (.lst (g.map .str)))(i:d∈nms w)(k:(aL w d).length<=900):
  ∃aA,hlT [oS d,oR b,oR s] a=.ok (.bl (!decide ((aL w d).filter (λx=>decide (x∈g))=[]))) aA/\af [] a aA:=by
 refine br (f.at i) λj l _ c=>?_
 have m:hlI [oS d,oR b,oR s] a=.ok _ _:=nY (by
  show(aK _ _ a).bind _=_
  rw[et e l];exact aM (by rw[ax,av c])) (by rw[bw,ax,av c]) (λx _=>iw h) (cO k)
 have v2:mN aV ag [oS d,oR b,oR s] (a++[Cell.lst (((aL w d).filter λx=>decide (x∈g)).map .str)])=.ok _ _:=rfl
 refine⟨a++[Cell.lst (((aL w d).filter λx=>decide (x∈g)).map .str)]++[Cell.lst []],?_,af.app.trans af.app⟩
 unfold hlT;rw[dj,m,au,v2];exact ka (cu aj) aj
theorem KP(B:bu a b P)(C:aD ς a P w)(l:a[s]?=some (.lst (g.map .str)))(u:∀n∈g,n∈nms w)(o:∀n∈nms w,(aL w n).length<=900)(D:g.length<=900):
  ∃k aA,Yi [oR b,oR s,d0] a=.ok (.ref k) aA/\aA[k]?=some (.lst ((rP w g).map .str))/\af [] a aA:=by
 refine aJ (rM (p:=aa 0) (B1:=bg (aa 1)) (t:=[oR b,oR s,d0])
  (λi f c=>f=((g.take i).filter λn=>!decide ((aL w n).filter (λx=>decide (x∈g))=[])).map .str/\af [] a c)
  (by exact aM (by rw[ax,av l])) ⟨by simp,af.refl⟩ (λi f c ⟨_,K⟩=>by rw[bw,ax,av (K.get _ _ l (by simp))])
  (λi d f c q ⟨E,K⟩=>by
   obtain⟨m,y,rfl⟩:=fA q;have h:=Î y;obtain⟨e,F,z⟩:=KO (B.keep K (by simp)) (C.keep K (by simp)) (K.get _ _ l (by simp)) (u m h) (o m (u m h))
   have j:gY false hlT ([oS m]++ed [0,1] [oR b,oR s,d0]) c=.ok (!decide ((aL w m).filter (λx=>decide (x∈g))=[])) e:=by
    show dk (hlT [oS m,oR b,oR s] c)=_
    rw[F];rfl
   rw[é,y,adG,ì,←E];cases A:(!decide ((aL w m).filter _=[]))with
   |false=>
    rw[A]at j;refine .inl ⟨e,j,?_,K.trans z⟩
    simp_all
   |true=>
    rw[A]at j;refine .inr ⟨e,.str m,e,j,rfl,?_,K.trans z⟩
    simp_all) (by simp;exact cO D)) λJ r G H I=>?_
 refine⟨r.length,_,G,?_,I.trans af.app⟩;rw[aj,H,Í,û];rfl
def Yj:=(bB (aa 0) false (m2 (aF .In) (aa 0) (aa 1)) (bg (m2 aK (aa 0) (aa 3))) 0 [2])
def hiT:=(ij (m2 (aF .NotIn) (aa 3) (aa 2)) (m2 (aF .NotEq) Yj (mN aV ag)))
def RG:=(ak (aE 2 (mN aV (ae (aa 1) ag)))
 (ak (dI (cY 3) (bg (mN (aN .list) (ae (aa 0) ag))) (ak (dY hiT (ak (cJ (d_ kF bT (aa 2) (ae (aa 3) ag))) aq) aq) aq))
 (ak (bU (aa 2)) aq)))
structure KQ(E:dB)(n:Str)(xs:List Str):Prop where
 nd:xs.Nodup
 hd:n∈xs
 el:∀x∈xs,x∈nms E
 up:∀x∈xs,x≠n->∃y∈aL E x,y∈xs
theorem KR(h:bu a b P)(i:aD ς a P w)(c:a[s]?=some (.lst (g.map .str)))(k:U∈nms w)(l:(aL w U).length<=900):
  ∃aA,hiT [oR b,oS d,oR s,oS U] a=.ok (.bl (!decide (U∈g)&&!decide ((aL w U).filter (λx=>decide (x∈g))=[]))) aA/\af [] a aA:=by
 have m:(m2 (aF .NotIn) (aa 3) (aa 2)) [oR b,oS d,oR s,oS U] a=.ok _ a:=iK c;unfold hiT;rw[jW,m,au,cX]
 by_cases e:U∈g
 .rw[decide_eq_true e]
  exact⟨a,rfl,af.refl⟩
 rw[decide_eq_false e,adT,pR];refine br (i.at k) λj n _ f=>?_
 have o:Yj [oR b,oS d,oR s,oS U] a=.ok _ _:=nY (by
  show(aK _ _ a).bind _=_
  rw[et h n];exact aM (by rw[ax,av f])) (by rw[bw,ax,av f]) (λx _=>iw c) (cO l)
 have v2:mN aV ag [oR b,oS d,oR s,oS U] (a++[Cell.lst (((aL w U).filter λx=>decide (x∈g)).map .str)])=.ok _ _:=rfl
 refine⟨a++[Cell.lst (((aL w U).filter λx=>decide (x∈g)).map .str)]++[Cell.lst []],?_,af.app.trans af.app⟩
 rw[dj,o,au,v2];exact ka (cu aj) aj
theorem KQ.snoc(H:KQ w d g)(b:U∈nms w)(c:U∉g)(e:∃y∈aL w U,y∈g):KQ w d (g++[U]):=by
 refine⟨Ę.mpr ⟨H.nd,by simp,by grind⟩,by simp[H.hd],λx h=>?_,λx h a=>?_⟩
 .rcases æ.mp h with h|h
  .exact H.el x h
  simp_all
 .rcases æ.mp h with h|h
  .obtain⟨y,f,i⟩:=H.up x h a
   grind
  grind
def GY(f:aU):=∀b e c E P n,bu b e c->aD P b c E->Q0 E->n∈nms E->∃q d a,f [.ref e,.str n] b=.ok (.ref q) a/\a[q]?=some (.lst (d.map .str))/\KQ E n d/\af [] b a/\b.length<=q
theorem OZ:GY (bN 4 2 RG):=by
 intro b e b0 E P n Z hr Q hn;have t:=Q.few;rw[ba (by rfl)]
 have e0:aZ 4 [D.ref e,.str n]=[oR e,oS n,none,none]:=rfl;rw[e0];have r1:(aE 2 (mN aV (ae (aa 1) ag))) [oR e,oS n,none,none] b=.nx [oR e,oS n,oR b.length,none] (b++[Cell.lst ([n].map .str)]):=rfl;have C:af [] b (b++[Cell.lst ([n].map .str)]):=af.app;have g1:(b++[Cell.lst ([n].map .str)])[b.length]?=some (.lst ([n].map .str)):=aj;have lq:b.length<(b++[Cell.lst ([n].map .str)]).length:=by simp
 generalize a0:b++[Cell.lst ([n].map .str)]=f at *;have u:=Z.keep C (by simp)
 have F:=hr.lt.keep C (by simp)
 have l1:=kP u;rw[hr.keys]at l1;have A:af [] f (f++[Cell.lst ((nms E).map .str)]):=af.app;have g2:(f++[Cell.lst ((nms E).map .str)])[f.length]?=some (.lst ((nms E).map .str)):=aj
 have G:bg (mN (aN .list) (ae (aa 0) ag)) [oR e,oS n,oR b.length,none] f=.ok (.seq (.ref f.length)) (f++[Cell.lst ((nms E).map .str)]):=by
  have I:(mN (aN .list) (ae (aa 0) ag)) [oR e,oS n,oR b.length,none] f=.ok (.ref f.length) _:=l1;rw[cf,I,au];exact aM (by rw[ax,av g2])
 have J:=A.get _ _ g1 (by simp)
 have L:=u.keep A (by simp)
 have M:=F.keep A (by simp)
 generalize f++[Cell.lst ((nms E).map .str)]=N at *;unfold RG;rw[ai,r1,aH,ai,cq,G,cx];have O:e≠b.length:=λz=>by have:=Z.lt;exact Ò _ (U' this (R' z.symm))
 refine bE (R:=λr=>∃q g p,fb (sq r _)=.ok (.ref q) p/\p[q]?=some (.lst (g.map .str))/\KQ E n g/\af [] b p/\b.length<=q) (q:=(nms E).map .str)
  (λi B h=>∃a g,B=[oR e,oS n,oR b.length,a]/\h[b.length]?=some (.lst (g.map .str))/\KQ E n g/\af [b.length] N h) (λi B h  zf =>a8 zf λ_ _ _ _ _ K=>by rw[bw,ax,av (K.get _ _ g2 (by simp;exact Ö lq))]) ?_ ?_ fuel 0 _ _ (by rw[Í];simp only[nms,Í];unfold fuel;exact oi (B' (õ _ _) t)) (Ë _)
  ⟨none,[n],rfl,J,⟨by simp,by simp,by simpa using hn,by simp⟩,af.refl⟩
 .rintro i d B h S ⟨a,g,rfl,w,H,K⟩
  obtain⟨m,hm,rfl⟩:=fA S;have s:=Î hm;refine⟨[oR e,oS n,oR b.length,oS m],rfl,?_⟩;have U:=L.keep K (by simpa using O)
  have V:=M.keep K (λj hj=>by simp_all)
  refine bD (KR (d:=n) U V w s (by have:=Q.short m s;exact cO this)) λl e4 X=>?_
  have o:=X.get _ _ w (by simp)
  rw[ai,dW,e4]
  have Y:g.length<=12:=by
   have:=kQ H.nd H.el;have h3:(nms E).length=E.length:=by simp[nms]
   exact B' (B' this (R' h3)) t
  cases hb:(!decide (m∈g)&&!decide ((aL E m).filter (λx=>decide (x∈g))=[]))with
  |false=>exact⟨_,g,rfl,o,H,K.trans (X.sub (by simp))⟩
  |true=>
   simp only[Ú,ċ,decide_eq_false_iff_not]at hb;have hx:=dX (m:=.str m) o (by simp;exact cO Y)
   have hx:bT (.ref b.length) [.str m] l=.ok .non (l.set b.length (.lst ((g++[m]).map .str))):=by rw[hx,ì];rfl
   have hL:=dz o
   have r5:(ak (cJ (d_ kF bT (aa 2) (ae (aa 3) ag))) aq) [oR e,oS n,oR b.length,oS m] l=.nx [oR e,oS n,oR b.length,oS m] (l.set b.length (.lst ((g++[m]).map .str))):=by
    rw[ai,bW,eA (m:=.ref b.length) (T:=l) (by rfl) hL]
    simp_all
   have hy:∃y∈aL E m,y∈g:=by
    simp_all
   show Co (sq ((ak _ aq) [oR e,oS n,oR b.length,oS m] l) aq) _ _
   rw[r5];exact⟨_,g++[m],rfl,aT o,H.snoc s hb.1 hy,(K.trans (X.sub (by simp))).trans (af.set (by simp))⟩
 .rintro B h ⟨a,g,rfl,w,H,K⟩
  refine⟨b.length,g,h,rfl,w,H,⟨ñ (mK w),λk c hk _=>K.get k c (A.get k c (C.get k c hk (by simp)) (by simp)) (by have:=bb hk;simp;exact O' this)⟩,W' _⟩
theorem KS(h:∀d∈g,∃x∈aL w d,x∈g)(c:d∈g)(a):¬ kS w d a:=λq=>by
 obtain⟨m,b,e⟩:=uf q g c;exact e (kg.mpr ⟨b,h m b⟩)
theorem vP(H:KQ (aY Δ ζ) d g)(j:U∈g)(k:U∈L7):
  ∃m∈nms (aY Δ λm=>if m=d then L7 else ζ m),∀a,¬ kS (aY Δ λm=>if m=d then L7 else ζ m) m a:=by
 have f:∀b,nms (aY Δ b)=Δ:=λb=>aR
 have c:=λy h=>by have:=H.el y h;rwa[f]at this
 refine⟨d,by rw[f];exact c d H.hd,KS (λy h=>?_) H.hd⟩
 rw[cD (c y h)]
 by_cases e:y=d
 .grind
 .obtain⟨z,i,l⟩:=H.up y h e
  rw[cD (c y h)]at i
  grind
def VE(a:List Int)(m x e l h:Nat)(b:bo):bo:=some (SC a)::oI m::oR x::oR e::oR l::oR h::b
variable{F4:Int->Int->Int->Int}{Q y1:Int}
theorem Ik(d:fK F4 W1)(k:t[s]?=some (oR b))(e:a[b]?=some (.lst (g.map .str)))(l:t[Ξ]?=some (some (.int Q)))(m:p t a=.ok (.int g.length) a)(n:0<g.length)(f:0<=y1)(h:y1<100000):
  ∃y∈g,(m2 aK (aa s) (mN (cE W1) (ae (aa Ξ) (ae (ah (.int y1)) (ae p ag))))) t a=.ok (.str y) a:=by
 refine qb (d Q y1 g.length f h (by omega)) λo q r=>?_
 obtain⟨c,u⟩:∃c:Nat,(c)=F4 Q y1 g.length:=⟨(F4 Q y1 g.length).toNat,by omega⟩
 have i:c<g.length:=by omega
 refine⟨_,aat i,?_⟩;have v1:aa s t a=.ok (.ref b) a:=by simp_all
 have j:(mN (cE W1) (ae (aa Ξ) (ae (ah (.int y1)) (ae p ag)))) t a=.ok (.int c) a:=by
  simp_all
 rw[dj,v1,au,j];exact bY e (L2.cH (by simp))
def UQ:=(m2 (a7 .Add) (m2 (a7 .Add) (cp (aa 11) true (ah .non) false (aa 12)) (mN aV (ae (aa 10) ag))) (cp (aa 11) false (aa 12) true (ah .non)))
theorem KU(r:t[11]?=some (oR b))(u:t[12]?=some (oI s))(w:t[10]?=some (oS d))(n:a[b]?=some (.lst (g.map .str)))(x:g.length<=900):
  ∃k aA,UQ t a=.ok (.ref k) aA/\aA[k]?=some (.lst ((g.take s++[d]++g.drop s).map .str))/\af [] a aA/\a.length<=k:=by
 have h:∀a,aa 11 t a=.ok (.ref b) a:=λa=>by simp_all
 have y:∀a,aa 12 t a=.ok (.int s) a:=λa=>by simp_all
 have l:∀a,aa 10 t a=.ok (.str d) a:=λa=>by simp_all
 have o:∀a,eV false (aa 12) t a=.ok (some (s)) a:=λa=>by
  simp_all
 have G:(cp (aa 11) true (ah .non) false (aa 12)) t a=.ok (.ref a.length) (a++[.lst ((g.take s).map .str)]):=by
  rw[nQ,h,au,xI,au,o];exact kO n
 have z:af [] a (a++[Cell.lst ((g.take s).map .str)]):=af.app;have A:(a++[Cell.lst ((g.take s).map .str)])[a.length]?=some _:=aj;generalize a++[Cell.lst _]=c at *
 have H:(mN aV (ae (aa 10) ag)) t c=.ok (.ref c.length) (c++[.lst ([d].map .str)]):=by
  rw[dJ,a5,l,au,bh,au];rfl
 have p:af [] c (c++[Cell.lst ([d].map .str)]):=af.app;have B:(c++[Cell.lst ([d].map .str)])[c.length]?=some _:=aj;generalize c++[Cell.lst _]=f at *;have C:=eH (p.get _ _ A (by simp)) B (by simp;exact cO (B' (ŧ _ _) x))
 rw[←ì]at C;have D:af [] f (f++[Cell.lst ((g.take s++[d]).map .str)]):=af.app;have E:(f++[Cell.lst ((g.take s++[d]).map .str)])[f.length]?=some _:=aj;generalize f++[Cell.lst _]=e at *;have i:=(z.trans p).trans D
 have I:(cp (aa 11) false (aa 12) true (ah .non)) t e=.ok (.ref e.length) (e++[.lst ((g.drop s).map .str)]):=by
  rw[nQ,h,au,o,au,xI];exact vu (i.get _ _ n (by simp))
 have q:af [] e (e++[Cell.lst ((g.drop s).map .str)]):=af.app;have F:(e++[Cell.lst ((g.drop s).map .str)])[e.length]?=some _:=aj;have j:=i.trans q;generalize e++[Cell.lst _]=m at *;have J:=eH (q.get _ _ E (by simp)) F (by simp;omega)
 refine⟨_,m++[.lst _],?_,aj,j.trans af.app,by have:=j.len;omega⟩
 unfold UQ
 simp_all
def UR(C:List D->Out Rs):=(aE 7 (mN (cE C) (ae (aa 0) (ae (m2 (a7 .Add) (ah (.int 20)) (aa 6)) ag))))
def US(F:List D->Out Rs):=(aE 8 (m2 aK (aa 2) (mN (cE F) (ae (aa 7) (ae (ah (.int 0)) (ae (aa 1) ag))))))
def UT(a):=(aE 9 (mN (aQ a) (ae (aa 3) (ae (aa 8) ag))))
def UU(F:List D->Out Rs):=(aE 10 (m2 aK (aa 9) (mN (cE F) (ae (aa 7) (ae (ah (.int 1)) (ae (mN (aN .len) (ae (aa 9) ag)) ag))))))
def UW:=(aE 11 (bB (aa 0) false (m2 (aF .NotEq) (aa 0) (aa 1)) (bg (m2 aK (aa 3) (aa 8))) 0 [10]))
def UX(F:List D->Out Rs):=(aE 12 (mN (cE F) (ae (aa 7) (ae (ah (.int 2)) (ae (m2 (a7 .Add) (mN (aN .len) (ae (aa 11) ag)) (ah (.int 1))) ag)))))
def UY:=(aE 13 (mN gi (ae (aa 3) ag)))
def Yk:=(ey (aa 13) (aa 8) UQ)
def UZ(F C:List D->Out Rs)(a T):=ak (UR C) (ak (US F) (ak (UT a) (ak (UU F) (ak UW (ak (UX F) (ak UY (ak Yk T)))))))
theorem KW{p:Nat}(Q:Q0 (aY g ζ))(e:d∈g)(h:U∈g)(i:(ζ d).length<=4):
  let a:=(ζ d).filter (λz=>!decide (z=U));(a.take p++[U]++a.drop p).Nodup/\(a.take p++[U]++a.drop p).length<=5/\(∀x∈a.take p++[U]++a.drop p,x∈g)/\U∈a.take p++[U]++a.drop p:=by
 intro a
 have b:∀z∈a,z∈ζ d/\z≠U:=λz l=>by
  grind
 have c:d∈nms (aY g ζ):=by rw[aR];exact e
 have j:a.Nodup:=by
  have:=Q.JO d c;rw[cD e]at this;exact this.filter _
 have f:=by
  have k:(a.take p++[U]++a.drop p).Perm _:=abN.append_right _;rwa[List.append_assoc [U],abL]at k
 have m:a.length<=4:=B' (ϛ _ _) i;refine⟨by grind,by rw[f.length_eq];simp;omega,λx hx=>?_,by simp⟩
 rcases Õ.mp (f.mem_iff.mp hx)with rfl|hx
 .exact h
 .have:=Q.el d c x (by rw[cD e];exact(b x hx).1)
  rwa[aR]at this
variable{C8:List D->Out Rs}{D6 G5 M1 P0 Q3 Y3 Y8 Z8:Option D}{z8:Nat}
theorem GZ{k:Nat}(m:fK F4 W1)(H:h9 E6 C8)(hH:GY E)(hx:a[Ξ]?=some (.lst (g.map .str)))(hm:g.length=z8)(m1:1<=z8)(hd:bu a b P)(I:aD Tr a P (aY g ζ))(Q:Q0 (aY g ζ))(J:∀n∈g,(ζ n).length<=4)(T):
  ∃c n r z kv b9 K M N aA,UZ W1 C8 E T (VE C5 z8 Ξ b L5 s [oI k,d0,P0,M1,Q3,Y3,G5,D6,Y8,Z8]) a=T (VE C5 z8 Ξ b L5 s [oI k,some (.int c),oS n,b9,K,M,N,oR z,Y8,Z8]) aA /\
   n∈g/\Ii (aY g λz8=>if z8=n then r else ζ z8)/\Q0 (aY g λz8=>if z8=n then r else ζ z8)/\aA[z]?=some (.dK kv)/\aD Tr aA kv (aY g λz8=>if z8=n then r else ζ z8)/\r.Nodup/\r.length<=5/\(∀Ξ∈r,Ξ∈g)/\af [] a aA/\a.length<=z:=by
 have O:g.length<=12:=by have:=Q.few;simpa[aY]using this
 have r1:UR C8 (VE C5 z8 Ξ b L5 s [oI k,d0,P0,M1,Q3,Y3,G5,D6,Y8,Z8]) a=.nx (VE C5 z8 Ξ b L5 s [oI k,some (.int (E6 C5 (20+k))),P0,M1,Q3,Y3,G5,D6,Y8,Z8]) a:=by
  simp[UR,VE,(by
  have:=H C5 (20+k);rwa[show((20+k:Nat):Int)=20+(k:Int)by omega]at this)]
 generalize E6 C5 (20+k)=c at *;refine bD (Ik (t:=VE C5 z8 Ξ b L5 s [oI k,some (.int c),P0,M1,Q3,Y3,G5,D6,Y8,Z8]) (s:=2) (Ξ:=7) (p:=aa 1) (y1:=0) (Q:=c) (g:=g) m rfl hx rfl (by rw[hm];rfl) (by omega) (by decide) (by decide)) λn i e2=>?_
 have r2:US W1 (VE C5 z8 Ξ b L5 s [oI k,some (.int c),P0,M1,Q3,Y3,G5,D6,Y8,Z8]) a=.nx (VE C5 z8 Ξ b L5 s [oI k,some (.int c),oS n,M1,Q3,Y3,G5,D6,Y8,Z8]) a:=by
  unfold US;rw[bj,e2];rfl
 refine eg (hH a b P (aY g ζ) Tr n hd I Q (by rw[aR];exact i)) λq ys e e3 g3 R S l3=>?_
 have r3:UT E (VE C5 z8 Ξ b L5 s [oI k,some (.int c),oS n,M1,Q3,Y3,G5,D6,Y8,Z8]) a=.nx (VE C5 z8 Ξ b L5 s [oI k,some (.int c),oS n,oR q,Q3,Y3,G5,D6,Y8,Z8]) e:=by
  have:(mN (aQ E) (ae (aa 3) (ae (aa 8) ag))) (VE C5 z8 Ξ b L5 s [oI k,some (.int c),oS n,M1,Q3,Y3,G5,D6,Y8,Z8]) a=.ok (.ref q) e:=by
   show pQ (E [.ref b,.str n] a)=_
   rw[e3];rfl
  unfold UT;rw[bj,this];rfl
 refine bD (Ik (t:=VE C5 z8 Ξ b L5 s [oI k,some (.int c),oS n,oR q,Q3,Y3,G5,D6,Y8,Z8]) (s:=9) (Ξ:=7) (p:=mN (aN .len) (ae (aa 9) ag)) (y1:=1) (Q:=c) (g:=ys) m rfl g3 rfl (by
  have h:=eo g3;rw[Í]at h;exact h) (List.length_pos_of_mem R.hd) (by decide) (by decide)) λy hy e4=>?_
 have r4:UU W1 (VE C5 z8 Ξ b L5 s [oI k,some (.int c),oS n,oR q,Q3,Y3,G5,D6,Y8,Z8]) e=.nx (VE C5 z8 Ξ b L5 s [oI k,some (.int c),oS n,oR q,oS y,Y3,G5,D6,Y8,Z8]) e:=by
  unfold UU;rw[bj,e4];rfl
 have u:=hd.keep S (by simp)
 have x:aD Tr e P (aY g ζ):=I.keep S (by simp)
 refine br (x.at (n:=n) (by rw[aR];exact i)) λj hv _ A=>?_
 rw[cD i]at A
 have e5:=nY (t:=VE C5 z8 Ξ b L5 s [oI k,some (.int c),oS n,oR q,oS y,Y3,G5,D6,Y8,Z8]) (a:=e) (p:=m2 (aF .NotEq) (aa 0) (aa 1)) (B1:=bg (m2 aK (aa 3) (aa 8))) (L:=[10]) (N3:=.seq (.ref j)) (g:=ζ n) (xR:=λz=>!decide (z=y)) (by
  rw[cf]
  show(aK (.ref b) (.str n) e).bind _=_
  rw[et u hv,au]
  exact aM (by rw[ax,av A])) (by rw[bw,ax,av A]) (λz _=>by
   rfl) (by have:=J n i;exact cO this)
 have r5:UW (VE C5 z8 Ξ b L5 s [oI k,some (.int c),oS n,oR q,oS y,Y3,G5,D6,Y8,Z8]) e=.nx (VE C5 z8 Ξ b L5 s [oI k,some (.int c),oS n,oR q,oS y,oR e.length,G5,D6,Y8,Z8]) (e++[.lst (((ζ n).filter λz=>!decide (z=y)).map .str)]):=by
  unfold UW;rw[bj,e5];rfl
 have V:af [] e (e++[Cell.lst (((ζ n).filter λz=>!decide (z=y)).map .str)]):=af.app
 have g5:(e++[Cell.lst (((ζ n).filter λz=>!decide (z=y)).map .str)])[e.length]?=some _:=aj
 generalize hw:e.length=w at *;generalize e++[Cell.lst _]=f at *;have X:((ζ n).filter λz=>!decide (z=y)).length<=4:=B' (ϛ _ _) (J n i)
 have Y:∀p,_:=λp=>KW (p:=p) Q i (U:=y) (by have:=R.el y hy;rwa[aR]at this) (J n i)
 generalize (ζ n).filter (λz=>!decide (z=y))=B at *
 refine qb (m c 2 ((B.length:Int)+1) (by decide) (by decide) (by omega)) λt0 t1 ht=>?_
 obtain⟨p,ep⟩:∃p:Nat,(p:Int)=F4 c 2 ((B.length:Int)+1):=⟨(F4 c 2 ((B.length:Int)+1)).toNat,by omega⟩
 rw[←ep]at ht;have h:=eo g5;rw[Í]at h
 have r6:UX W1 (VE C5 z8 Ξ b L5 s [oI k,some (.int c),oS n,oR q,oS y,oR w,G5,D6,Y8,Z8]) f=.nx (VE C5 z8 Ξ b L5 s [oI k,some (.int c),oS n,oR q,oS y,oR w,oI p,D6,Y8,Z8]) f:=by
  simp[UX,VE,h,ht]
 have Z:=u.keep V (by simp)
 have dc:=rJ Z
 have r7:UY (VE C5 z8 Ξ b L5 s [oI k,some (.int c),oS n,oR q,oS y,oR w,oI p,D6,Y8,Z8]) f=.nx (VE C5 z8 Ξ b L5 s [oI k,some (.int c),oS n,oR q,oS y,oR w,oI p,oR f.length,Y8,Z8]) (f++[.dK P]):=by
  have:(mN gi (ae (aa 3) ag)) (VE C5 z8 Ξ b L5 s [oI k,some (.int c),oS n,oR q,oS y,oR w,oI p,D6,Y8,Z8]) f=.ok (.ref f.length) (f++[.dK P]):=dc;unfold UY;rw[bj,this];rfl
 have F:af [] f (f++[Cell.dK P]):=af.app;have g7:(f++[Cell.dK P])[f.length]?=some (.dK P):=aj;have a0:=(x.keep V (by simp)).keep F (by simp)
 have l:=S.trans V;generalize hz:f.length=z at *;generalize f++[Cell.dK P]=b0 at *;refine a8 (KU (t:=VE C5 z8 Ξ b L5 s [oI k,some (.int c),oS n,oR q,oS y,oR w,oI p,oR z,Y8,Z8]) (b:=w) (s:=p) (d:=y) rfl rfl rfl (F.get _ _ g5 (by simp)) (cO X)) λk8 C e8 g8 G l8=>?_
 have o:=G.get _ _ g7 (by simp)
 have r8:Yk _ b0=.nx _ _:=n7 e8 rfl rfl o (by have:=I.len;simp[aY]at this;exact cO (B' (R' this.symm) O))
 have R8:=(a0.keep G (by simp)).upd i (show Tr k8 from trivial) g8
 have K9:af [z] C (C.set z (.dK (d4 P (.inr n) (.ref k8)))):=af.set (by simp)
 have R9:=R8.cy K9 (λj A ds=>by rw[Ã.mp A,o];simp)
 obtain⟨i1,i2,i3,i4⟩:=Y p;refine⟨c,n,B.take p++[y]++B.drop p,z,_,oR q,oS y,oR w,oI p,_,?_,i,vP R hy i4,Kv Q i i1 i2 i3,aT o,R9,i1,i2,i3,?_,by have:=l.len;exact B' this (R' hz)⟩
 .unfold UZ
  simp_all
 .refine⟨by have:=l.len;have:=F.len;have:=G.len;have:=K9.len;omega,λk c hk _=>K9.get k c (G.get k c (F.get k c (l.get k c hk (by simp)) (by simp)) (by simp)) (by have:=bb hk;have:=l.len;simp;exact O' (U' (U' (mK hk) this) (R' hz)))⟩
def U_(fL:List (Str×EM))(a b c d):=QR (ak (fP "Loop" 1 fL (ae (aa 1) ag)) aq) a b c d
def Yl(fL:List (Str×EM)):=∀b q (c:List Str),b[q]?=some (.lst (c.map .str))->c.length<=12->∃p a,ke "Loop" fL [] [none,oR q] b=.exc (gZ "Loop" [("ring",.ref p)]) a/\a[p]?=some (.lst (c.map .str))/\af [] b a/\b.length<=p
def Va(E)(b:aG)(r:ay D)(aA):=∃p a,r=.exc (gZ "Loop" [("ring",.ref p)]) aA/\aA[p]?=some (.lst (a.map .str))/\a.length<=12/\jv E a=true/\b.length<=p
def RH(d:aU):=∀c e a E P,bu c e a->aD P c a E->Q0 E->Ii E->∃b,Va E c (d [.ref e] c) b/\af [e] c b/\b[e]?=some (.dF a)
def KY(d:aU):=∀a h e b E P,bu a e b->aD P a b E->Q0 E->Ii E->∃c,Va E a (d [.ref h,.ref e] a) c/\af [e] a c
variable{M5:aU}
theorem KZ{fL}(s:Yl fL)(t:GW E):RH (bN 6 1 (U_ fL E J0 n5 M5)):=by
 intro l e w b P x y Q A;rw[ba (by rfl)]
 have B:aZ 6 [D.ref e]=[oR e,none,none,none,none,none]:=rfl;rw[B];refine a8 (t l e _ b P x y Q) λd f C m i c=>?_
 have F:(aE 1 (mN (aQ E) (ae (aa 0) ag))) [oR e,none,none,none,none,none] l=.nx [oR e,some d,none,none,none,none] f:=by simp[C]
 unfold U_ QR;rw[ai,F,aH,ai];rcases c with ⟨rfl,g⟩|⟨_,q,o,rfl,G,h,j⟩
 .refine bD A λn H z=>?_
  obtain⟨a,L⟩:=g n H
  simp_all
 .refine a8 (s _ q o G h) λp k u I r J=>?_
  refine⟨_,⟨p,o,?_,I,h,j,B' m.len J⟩,m.trans (r.sub (by simp)),r.get _ _ i (by simp)⟩
  have M:fP _ 1 fL (ae (aa 1) ag) [oR e,oR q,none,none,none,none] _=.exc _ _:=zA rfl rfl u
  have K:(dY (m2 (aF .IsNot) (aa 1) (ah .non)) (ak (fP "Loop" 1 fL (ae (aa 1) ag)) aq) aq) [oR e,oR q,none,none,none,none] f=.exc (gZ "Loop" [("ring",.ref p)]) k:=by
   simp_all
  rw[K];rfl
theorem K_(f:RH E):KY (bN 3 2 (Oe E)):=by
 intro d h e g b P i j Q k;rw[ba (by rfl)]
 have l:aZ 3 [D.ref h,.ref e]=[oR h,oR e,none]:=rfl;rw[l];obtain⟨c,⟨p,m,r,a⟩,n,o⟩:=f d e _ b P i j Q k;refine⟨_,⟨p,m,?_,a⟩,n⟩;unfold Oe
 have q:(aE 2 (mN E (ae (aa 1) ag))) [oR h,oR e,none] d=.exc (gZ "Loop" [("ring",.ref p)]) c:=by
  simp_all
 rw[ai,q];rfl
variable{n8:Str->List Str}{n9:List (Str×Nat)}
theorem Il(hM:zx E)(H:bR ς a b w ζ)(T:DH a s n9 w n8)(Z:(nms w).Nodup)(hR:∀n∈nms w,n∉n9.map (·.1)->n8 n=aL w n)(a0:w.length<=12)(hP:∀j,a.length<=j->ς j):
  ∃q t h u F e l,bN 5 2 (Dh E J0) [.ref b,.ref s] a=fb (sq (cb (J0 [.ref b,.ref q] h) λ_ o=>.nx [oR b,oR s,oR q,u,F] o) aq)/\af [] a h/\h[q]?=some (.dK t)/\aD ς h t (aY (nms w) n8)/\a.length<=q/\h[b]?=some (.ins "House" [("elders",.ref e),("lines",.ref l)]):=by
 have e0:aZ 5 [D.ref b,.ref s]=[oR b,oR s,none,none,none]:=rfl;refine bD (hM a b s n9 w ζ n8 ς H T) λo e1 G=>?_
 have m1:bA "House" "may_turn" E (aa 0) (ae (aa 1) ag) [oR b,oR s,none,none,none] a=.ok .non o:=by
  rw[dv H rfl (by decide)]
  simp_all
 refine bc (H.keep G) λe l y h0 h1 h2 h3 h4 h5=>?_
 have b0:=rJ h2
 have c0:(mN gi (ae fe ag)) [oR b,oR s,none,none,none] o=.ok (.ref o.length) (o++[.dK y]):=by
  show(((fT ["House"] "elders" (.ref b) o).bind _).bind _)=_
  rw[nV h1,au];exact b0
 have J:af [] o (o++[Cell.dK y]):=af.app;have g2:(o++[Cell.dK y])[o.length]?=some (.dK y):=aj;have T2:=(T.keep G (by simp)).keep J (by simp)
 have L:=J.get _ _ h1 (by simp)
 have l1:=G.len;have lh:=bb h1;have lt:=bb (T.keep G (by simp)).ce
 have l2:(o++[Cell.dK y]).length=o.length+1:=by simp
 generalize hq:o.length=q at *;generalize o++[Cell.dK y]=x at *;have M:=T.len
 have d0:∀{a:aG}{t:List (Key×D)}{f:Str->List Str},aD ς a t (aY (nms w) f)->t.length<=1000:=λ{a t f} H=>by
  have:=H.len;simp[aY,nms]at this;exact cO (B' (R' this.symm) a0)
 have r3:∃B C t h,dI (fy [3,4]) (bg (aa 1)) UG [oR b,oR s,oR q,none,none] x=.nx [oR b,oR s,oR q,B,C] h/\af [q] x h/\h[q]?=some (.dK t)/\aD ς h t (aY (nms w) n8):=by
  have g0:bg (aa 1) [oR b,oR s,oR q,none,none] x=.ok (.seq (.ref s)) x:=by
   rw[cf];exact aM (by rw[ax,av T2.ce])
  rw[cq,g0,cx];refine bE (R:=λr=>∃B C t h,r=.nx [oR b,oR s,oR q,B,C] h/\af [q] x h/\h[q]?=some (.dK t)/\aD ς h t (aY (nms w) n8)) (q:=n9.map Ig) (λi U h=>∃B C t,U=[oR b,oR s,oR q,B,C]/\af [q] x h/\h[q]?=some (.dK t)/\aD ς h t (aY (nms w) λn=>if n∈(n9.take i).map (·.1)then n8 n else aL w n)) ?_ ?_ ?_ fuel 0 _ _ (by unfold fuel;simp;exact oi M) (Ë _) ⟨none,none,y,rfl,af.refl,g2,by simpa using (by rw[ub Z];exact h3.keep J (by simp))⟩
  .rintro i U h ⟨_,_,_,_,K,_⟩
   rw[bw,ax,av (K.get _ _ T2.ce (by simp;exact O' lt))]
  .rintro i d U h hd ⟨B,C,t,rfl,K,g,I⟩
   obtain⟨⟨n,u⟩,V,rfl⟩:=Ih hd;have hm:=Î V;refine⟨[oR b,oR s,oR q,oS n,oR u],rfl,?_⟩;refine qb (T2.row _ hm) λw1 w2 _=>?_
   have la:=(λp V=>bb ((T.keep G (by simp)).row p V).1) _ hm
   have w3:=K.get _ _ w1 (by simp;omega)
   have ev:(mN (aN .list) (ae (aa 4) ag)) [oR b,oR s,oR q,oS n,oR u] h=.ok (.ref h.length) _:=cA w3;have A:af [] h (h++[Cell.lst ((n8 n).map .str)]):=af.app;have Y:(h++[Cell.lst ((n8 n).map .str)])[h.length]?=some (.lst ((n8 n).map .str)):=aj;have kl:=K.len;generalize hz:h.length=z at *;generalize h++[Cell.lst ((n8 n).map .str)]=N at *;have gq:=A.get _ _ g (by simp)
   have r1:=n7 (p:=aa 2) (X:=aa 3) (d:=n) ev rfl rfl gq (d0 I);have R4:=(I.keep A (by simp)).upd (n:=n) w2 (hP z (ñ (U' (Ø l1 (mK g)) (R' hz)))) Y
   have K4:af [q] N (N.set q (.dK (d4 t (.inr n) (.ref z)))):=af.set (by simp)
   have R5:=R4.cy K4 (λj hj ds=>by rw[Ã.mp hj,gq];simp)
   unfold UG;rw[ai,r1];refine⟨_,_,_,rfl,(K.trans (er.up A)).trans K4,aT gq,?_⟩
   have hf:(λm=>if m=n then n8 n else if m∈(n9.take i).map (·.1)then n8 m else aL w m)=λm=>if m∈(n9.take (i+1)).map (·.1)then n8 m else aL w m:=by
    funext m
    rw[é,V]
    by_cases O:m=n
    .subst O;simp
    .simp[O]
   rw[hf]at R5;exact R5
  .rintro U h ⟨B,C,t,rfl,K,g,I⟩
   rw[Í,û]at I
   have hf:aY (nms w) (λn=>if n∈n9.map (·.1)then n8 n else aL w n)=aY (nms w) n8:=by
    unfold aY
    simp_all
   rw[hf]at I;exact⟨B,C,t,h,rfl,K,g,I⟩
 obtain⟨B,C,t,h,r3,A,Y,R3⟩:=r3;have P:=A.get _ _ L (by simp;exact O' lh)
 have l3:=A.len
 have H3:bR ς h b w ζ:=by
  have:=((H.keep G).keep J);refine bc this λe' l' Q S q1 q2 q3 q4 q5=>?_
  rw[L]at q1;obtain⟨rfl,rfl⟩:=q1;have nl:∀j∈[q],∀ds,x[j]?≠some (.lst ds):=λj hj ds=>by rw[Ã.mp hj,g2];simp
  have le:=h2.lt;have ll:=h4.lt;exact⟨e,l,Q,S,P,q2.keep A (by simp;exact O' (U' le (R' hq))),q3.cy A nl,q4.keep A (by simp;exact O' (U' ll (R' hq))),q5.cy A nl⟩
 refine⟨q,t,h,B,C,e,l,?_,⟨ñ (Ø l1 (mK Y)),λk c hk hn=>A.get k c (J.get k c (G.get k c hk (by simp)) (by simp)) (by have:=bb hk;simp;exact O' (U' this l1))⟩,Y,R3,by omega,P⟩
 rw[ba (by rfl),e0]
 unfold Dh;rw[ai,bW,m1,cx,aH,ai,bj,c0,cx,aH]
 show fb (ak _ _ [oR b,oR s,oR q,none,none] x)=_
 rw[ai,r3,aH,ai,bW,xU H3 rfl (by decide) (q:=[.ref q]) (T:=h) rfl]
def Vb(TA:aU):=∀a h t c E L R P,bR P a h E L->DH a t c E R->(nms E).Nodup->(∀n∈nms E,n∉c.map (·.1)->R n=aL E n)->Q0 (aY (nms E) R)->(∀j,a.length<=j->P j)->Ii (aY (nms E) R)->∃b,Va (aY (nms E) R) a (TA [.ref h,.ref t] a) b/\af [] a b
theorem La(j:zx E)(m:KY J0):Vb (bN 5 2 (Dh E J0)):=by
 intro J h t K d L R P H T f hR Q n o;obtain⟨q,r,s,a,b,e,l,u,g,w,x,y,_⟩:=Il j H T f hR (by have:=Q.few;simpa[aY,nms]using this) n
 obtain⟨z,⟨p,A,B,C,D,F,G⟩,I⟩:=m _ h q r _ P (.inl w) x Q o;refine⟨_,⟨p,A,by rw[u,B];rfl,C,D,F,B' g.len G⟩,by grind,λk c i _=>I.get k c (g.get k c i (by simp)) (by have:=bb i;simp;exact O' (U' this y))⟩
def Vc(TA:aU):=∀b h t d E L R c P,bR P b h E L->DH b t d E R->(nms E).Nodup->(∀n∈nms E,n∉d.map (·.1)->R n=aL E n)->Gd (aY (nms E) R)->NW (aY (nms E) R) c->(∀n∈nms E,(c n).length<=900)->(∀j,b.length<=j->P j)->∃a,TA [.ref h,.ref t] b=.ok .non a/\bR P a h (aY (nms E) R) c/\af [h] b a
theorem Lb(u:zx E)(w:xQ J0):Vc (bN 5 2 (Dh E J0)):=by
 intro N h t O d L R x P H T f hR G y g m;obtain⟨q,z,A,a,b,e,l,B,i,o,C,D,F⟩:=Il u H T f hR (by have:=G.few;simpa[aY,nms]using this) m
 refine br (w _ h q e l z _ P x F (.inl o) C G y (λn p=>g n (by rwa[aR]at p)) (λj I=>m j (B' i.len I))) λJ K M r=>?_
 refine⟨_,by rw[B,K];rfl,M,by have:=i.len;have:=r.len;exact ñ (U' (Ø D (mK o)) this),λk c s p=>r.get k c (i.get k c s (by simp)) (by have:=bb s;grind)⟩
variable{o0:L2.St}
theorem xX(h:Ke c i r o0 [Θ] ω):Ke c i r o0 [Θ] (ak ω aq):=λb d g j k=>gS.imp (h _ d g j k) λD n H  l =>xa l λe a=>cW a λm Z S f=>⟨e,m,Z,S,by
 unfold ak aq at f
 grind⟩
theorem vQ(F:bQ y A G ν B (jf y A) b h ψ g (gx i E)):bQ y A G ν B fk b h ψ g (cZ i E):=by
 have o:∀{k:List V}{H:Hp}{Q:VK}{c:XK},cZ i E k H Q c->gx i E k H Q λ_ _ _=>False:=λ{k H Q c}  u =>bF u λw Z p t S r f=>⟨w,Z,p,t,S,r,by
  cases q:E t p with
  |ok d n=>rwa[q]at f
  |exc x n=>rw[q]at f;exact λC D I a l=>(f C _ I a l).elim
  |bad=>rwa[q]at f⟩
 refine⟨λk H Q c j=>F.len k H Q _ (o j),λm outer s H args J k Q c K L M N j=>Ē (F.run m _ s H _ J k Q _ K L M N (o j)) λr O z=>?_⟩
 cases r with
 |error e=>refine bF z λ_ _ _ _ _ _ z=>?_;exact z.elim
 |ok fl=>cases fl<;>exact z
theorem Lc{d:Type}{a b}{c:d}(h:a.or b=some c):a=some c\/b=some c:=by
 cases a with
 |none=>exact .inr h
 |some x=>exact .inl h
def G9(C:Str)(x y:D)(a:aG):ay D:=match jU a x with
 |some (_,b,_)=>(match y with
  |.int _=>if b=C then .ok (.bl false) a else .bad
  |_=>.bad)
 |none=>.bad
def RI(b:D):SM:=λd e=>cb (gh [b] e) λx a=>if kF a b then cb (nF b [] a) λ_ c=>.nx (d.set 2 (some x)) c else .bad
def O_(a TA:aU):=dY (iR (m2 (G9 "House") (aa 0) (ah (.int 0))) (m2 (aF .Eq) (aa 0) (ah (.int 0)))) (ak (cJ (mN a (ae (aa 1) ag))) aq) (ak (cJ (kU "House" "turn_all" TA (aa 0) (ae (aa 1) ag))) aq)
def L_(a TA):=ak (aE 2 (ah .non)) (ak (n4 (O_ a TA) "Loop" "ring" RI 3) (ak (bU (aa 2)) aq))
theorem Ld(e:c.A.units<È)(f:Ù c.K (.ref C) "__eq__"=some (some (.builtin "object.__eq__")))(g:Ă c.K C (.type "object")=some true):
  jt c (Þ .Eq) (λx y H Q=>∃a b d i,x=.ref a/\y=.int i/\H a=some (.ins C b d)/\Q (.bl false) H):=by
 rintro pins s l H x y v u Q I h j ⟨a,b,d,i,rfl,rfl,k,q⟩;cases (h);obtain⟨t,rfl⟩:=(j);obtain⟨m,O,_⟩:=jA I.hok k;exact uN e I.eR O f g ⟨.bl _,H,I,rfl,q⟩
variable{O:x'}
theorem G_(m:c.A.units+64<È)(t:∀j,i d j->j=C)(u:Ù c.K (.ref C) "__eq__"=some (some (.builtin "object.__eq__")))(w:Ă c.K C (.type "object")=some true)(b:ű .Eq O=false)(o:bt c i r j p)(q:bt c i r O X):
  gg c i r (.Compare j [.Eq] [O] l) (iR (m2 (G9 d) p X) (m2 (aF .Eq) p X)):=by
 refine gg.alt (fM (λT tb z B=>fE (Ld (Ø (Ė _ _) m) u w) z B b) o q (λx y D e E h=>?_) λs U x y F Z D H Q S G I g=>?_) (qZ m b o q).2
 .unfold G9 at h
  grind
 .unfold G9 at g
  split at g
  .rename_i n V Y J
   split at g
   .rename_i a
    split at g
    .rename_i L
     subst L;refine bP (gp S G J) λj M s N f k _ P R q3=>?_;subst f;subst k
     obtain rfl:=t _ P;obtain rfl:y=.int a:=by simpa only [aw]using I
     exact⟨j,s,_,a,rfl,rfl,R,g _ H F Z (cM.refl S.has) S (by rfl)⟩
    .exact g.elim
   .exact g.elim
  .exact g.elim
variable{N1 o6:List K'}
theorem Le(o:gg c i r j p)(q:Ke c i r o0 N1 ω)(s:Ke c i r o0 o6 B6):Ke c i r o0 [.If j N1 o6 l] (dY p ω B6):=by
 intro b d e h u;refine gS.imp (qh (vX (o b d e h u) (gS.ex λa=>q b d e h a) (gS.ex λa=>s b d e h a))) ?_
 rintro E y H ⟨rfl,w,Z,S,f⟩;refine⟨w,Z,S,ee.JA S f λt a z x k _ g m n=>?_⟩
 cases t with
 |true=>exact sx ⟨_,rfl,_,k,m,n⟩
 |false=>exact sv ⟨_,rfl,_,k,m,n⟩
variable{e:Hp}{n:b'->Prop}{u:List b'}{y4:List (Str×V)}
theorem xY(S:bH i u n a e)(b:e h=some (.xd y4)):h∉u:=λl=>by
 obtain⟨d,m⟩:=è.mp l;obtain⟨c,_,k⟩:=S.zH.ET m;cases c with
 |lst o=>obtain⟨f,g,_⟩:=k;simp_all
 |dK j=>obtain⟨f,g,_⟩:=k;simp_all
 |dF j=>refine cW k λ_ f g _=>?_;simp_all
 |ins C y4=>refine cg k λ_ _ f _ g _=>?_;simp_all
 |_=>exact k.elim
variable{D2:b'}{E8:List (Str×T')}{F5 S0:T'}{υ:Obj}
theorem Ha{c2 p5 p6 p7 p8 p9 R T X Y a0 b0 c0 d0 e0 g0 h0 i0 j0 l0 m0 n0 o0 O r2}(e:Jb c h ο υ C x0 D2)(na:df c.K ο Y4)(hN:c.N.Nodup)(B:c.N[b]?=some d)(E:rV c.env.scope d)(j:(d==("__debug__"))=false)(k:(d==("__classdict__"))=false)(hj:c.N[2]?=some U)(hl:c.env.scope.names.lookup U=some .local)(p0:b≠2)(hg:Gl c "isinstance")(hm:c.mg "isinstance"=none)(q0:Gl c "list")(r0:c.mg "list"=none)(q:(p7.endLine==p8.line)=true)(nT:Names c E8 χ)(hz:χ.length<=100)(kT:aag c.K (.ref ο) χ=some false)(n1:ko c (d6,O) M)(k1:ö c.K (.ref ο) M=some true)(n2:ko c (c2,r2) M2)(k2:ö c.K (.ref ο) M2=some true)(G Z0 H0 ρ Ω dD v):
  gS c [.Assign [.Name U l] (.Call (.Name "list" H) [.Attribute (.Name d S0) Y4 F5] [] p5) p6,.Expr (.Call (.Attribute (.Attribute (.Name d p9) Y4 R) "clear" p7) [] [] p8) T,.If (.Call (.Name "isinstance" X) [.Name d Y,.Tuple (E8.map λz=>.Name z.1 z.2) s a0] [] b0) N1 [] c0,
    .If (.BoolOp .Or [.UnaryOp .Not (.Call (.Name "isinstance" d0) [.Name d e0,.Name d6 O] [] g0) h0,.UnaryOp .Not (.Call (.Name "isinstance" i0) [.Name d j0,.Name c2 r2] [] l0) m0] n0) o6 [] o0]
   (λD A a=>a C=some (.xd [(Y4,v)])/\A[b]?=some (some (.ref h))/\∃α Z,cS i G Z0 H0 α Z Ω ρ A a/\aw α Z a dD v/\ee i mw G Z0 H0 D (RI dD ρ Ω)):=by
 refine gS.imp (jy (zO hN hj (.inl hl) (o_ jE q0 r0 abC (eD (HG e na B E j k) kj)) rfl (.inr hl))
  (jy (qj (L2.Ad Ť acu PySem.F.type_list_clear Ah (HG e na B E j k) rfl q) rfl)
   (jy (vX (uo (Em e B E hg hm nT hz kT j k) λ_=>rfl) oQ vW)
    (qh (vX (pw_or (zK (uo (Au e B E hg hm n1 k1 j k) λ_=>rfl)) (pw_or1 (zK (uo (Au e B E hg hm n2 k2 j k) λ_=>rfl)))).pt oQ vW))))) ?_
 rintro D A a ⟨r,I,α,Z,S,J,f⟩;refine⟨I,[(Y4,v)],v,r,by simp[Ļ],?_⟩
 have g:=ee.use (Q:=λx H1=>iU 2 x A H1 (DS (Hu (Mw c.K "list" uD (Xu b h C Y4))) (DS (zM (tB (sE b h C false)) mM rY) (zM (Sz (zJ (tB (sE b h C true))) (zJ (tB (sE b h C true)))) mM rY)) D)) S f λx t0 w H1 u0 Z1 _ g1 L O f1=>?_
 .unfold gh at g
  dsimp only at g;split at g
  .rename_i ds hd
   obtain⟨t,ws,rfl,q1,q2⟩:=jR S.st J hd;exact⟨t,ws,rfl,q1,eL S.st q2 g⟩
  .exact g.elim
 .have m:=g1.frm _ _ r (xY S.st r)
  have o:(A.set 2 (some w))[b]?=some (some (.ref h)):=by rw[ķ (Ê p0)];exact I
  have p:=S.st.cP g1 J;split at f1
  .rename_i hL
   refine⟨o,[(Y4,v)],v,m,by simp[Ļ],kG L.st p hL,?_⟩
   have P:=ee.use (Q:=λx H2=>(DS (zM (tB (sE b h C false)) mM rY) (zM (Sz (zJ (tB (sE b h C true))) (zJ (tB (sE b h C true)))) mM rY)) D (A.set 2 (some w)) H2) L f1 λy v0 u H2 s0 Z2 _ P S3 r2 f2=>?_
   .exact BC L.st p .nil P
   .have n:=P.frm _ _ m (xY L.st m)
    refine⟨o,⟨_,n⟩,false,rfl,?_⟩;refine⟨o,⟨_,n⟩,true,rfl,?_⟩;refine⟨o,⟨_,n⟩,true,rfl,?_⟩;exact f2 _ H2 s0 Z2 (S3.set (L.st.cP P O) 2)
  .exact f1.elim
theorem ug{X}:∀{a}{b},(a.map λz=>X.mg z.1)=b.map some->(a.all λz=>X.env.scope.names.lookup z.1==some .globalImplicit&&!(z.1==("__debug__")))=true->Names X a b
 |[],[],_,_=>.nil
 |z::a,c::b,h,q=>by
  simp at h;simp only[į,Ú,ċ,beq_iff_eq]at q;exact .cons (nj q.1.1 h.1 q.1.2) (ug h.2 (by simpa using q.2))
variable{S5 W7:b'}
theorem Hb(W:aX y A G ν B θ b)(F:zE G d U Θ h ψ){k i}(hs:eU [Y4,d6,k,i] [Y4,d6] (ao Θ)=true){fI t u}(w:ν "House"=some (.ref C))(cl:oj G C)(Q:Ù G (.ref C) "__eq__"=some (some (.builtin "object.__eq__")))(R:Ă G C (.type "object")=some true)(M:Meth G C "turn_all" ο)(Ft:bQ y A G ν B (jf y A) b ο t g (gx (cQ ν) E))(S:Binds G t g [])(Fl:bQ y A G ν B (jf y A) b x0 u Δ (gx (cQ ν) J0))(T:ν "lines_of"=some (.ref x0))(V:Ó G (.ref x0)=true)(X:Binds G u Δ [])(x:ν "Loop"=some (.ref D2))(Y:ϑ G (.ref D2) (.ref D2)=some true)(Tx:mY G D2 W7 fI)(is:Pw G D2)(na:df G D2 "ring")(hT:(E8.map λz=>ν z.1)=χ.map some)(sT:(E8.all λz=>(ao Θ).names.lookup z.1==some .globalImplicit&&!(z.1==("__debug__")))=true)(hz:χ.length<=100)(kT:aag G (.ref D2) χ=some false)(Z:ν "LookError"=some (.ref S5))(k1:ö G (.ref D2) (.ref S5)=some true)(a0:ν "ValueError"=none)(k2:ö G (.ref D2) (.type "ValueError")=some true){p5 p6 p7 p8 p9 b0 c0 D d0 I e0 g0 h0 i0 j0 l0 m0 n0 o0 p0 q0 J K r0 s0 t0 u0 v0 w0 y0 z0 A0 C0 D0 G0 I0 K0 L0 M0 P0 R0 T0 V0 r1 r2}(hbd:a_ Θ=[.Assign [.Name k l] (.Constant .none s H) S0,.Try [.If (.Compare (.Name Y4 F5) [.Eq] [.Constant (.int 0) Ξ p5] p6) [.Expr (.Call (.Name "lines_of" p7) [.Name d6 p8] [] p9) b0] [.Expr (.Call (.Attribute (.Name Y4 c0) "turn_all" D) [.Name d6 d0] [] I) e0] g0]
   [.ExceptHandler (some (.Name "Loop" h0)) (some i) [.Assign [.Name k i0] (.Call (.Name "list" j0) [.Attribute (.Name i l0) "ring" m0] [] n0) o0,.Expr (.Call (.Attribute (.Attribute (.Name i p0) "ring" q0) "clear" J) [] [] K) r0,.If (.Call (.Name "isinstance" s0) [.Name i t0,.Tuple (E8.map λz=>.Name z.1 z.2) L5 u0] [] v0) N1 [] w0,
    .If (.BoolOp .Or [.UnaryOp .Not (.Call (.Name "isinstance" y0) [.Name i z0,.Name "LookError" r1] [] A0) C0,.UnaryOp .Not (.Call (.Name "isinstance" D0) [.Name i G0,.Name "ValueError" r2] [] I0) K0] L0) o6 [] M0] P0] [] [] R0,.Return (some (.Name k T0)) V0])(o:(D.endLine==I.line)=true)(n:(J.endLine==K.line)=true)(sl:([Y4,d6,k,i].all λz=>(ao Θ).names.lookup z==some .local)=true)(sg:([("lines_of":Str),"Loop","list","isinstance","LookError","ValueError"].all λz=>(ao Θ).names.lookup z==some .globalImplicit)=true)(W0:([Y4,d6,k,i].all λz=>!(z==("__debug__"))&&!(z==("__classdict__")))=true):
  bQ y A G ν B fk (b+1) h ψ [Y4,d6] (cZ (cQ ν) (bN 4 2 (L_ J0 E))):=by
 have O:∀z∈[Y4,d6,k,i],(z==("__debug__":Str))=false/\(z==("__classdict__":Str))=false:=λz hz=>by
  have:=ù.mp W0 z hz
  simp_all
 have P:=λz hz=>by simpa using ù.mp sl z hz
 have r:=λz hz=>by simpa using ù.mp sg z hz
 refine GF W F hs λj1 X0 outer Y0 b1 c1 f=>?_
 have nd:=f.qQ;have q:=P k (by simp)
 rw[hbd];have vr:∀{X':Cx}{Φ:iP}{j:Nat}{z:Str}{p:T'},X'.N=[Y4,d6,k,i]->X'.env.scope=ao Θ->[Y4,d6,k,i][j]?=some z->z∈[Y4,d6,k,i]->bt X' (cQ ν) Φ (.Name z p) (aa j):=λe1 e2 h1 h2=>wN (by simp_all) (by rw[e2];exact .inl (P _ h2)) (O _ h2).1 (O _ h2).2
 have kq:∀{c:Str}{D2:b'},ν c=some (.ref D2)->∀a,cQ ν c a->a=D2:=λh1 a m=>by have m:ν _=some (.ref a):=m;simp_all
 refine jT (rh (b:=2) nd rfl (.inl q) (.inr q) rfl (gM ID rfl)) (jT ?_ (jT (wX (vr (j:=2) rfl rfl rfl (by simp))) wW))
 refine t7 rfl rfl (r _ (by simp)) x Y nd rfl (P _ (by simp)) (kq x) Tx is (λpl xe n1 E' L=>?_) (λpl e f1 oe g1=>?_) (by decide)
 .refine Le (G_ f.hu (kq w) Q R rfl (vr (j:=0) rfl rfl rfl (by simp)) (gM zI rfl)) (xX (xT (kW Fl f.room (r _ (by simp)) T V X L (by decide) rfl rfl (jN (vr (j:=1) rfl rfl rfl (by simp)) mv rfl)) rfl)) (xX (xT (pX (kq w) cl M Ft f.room S L (vr (j:=0) rfl rfl rfl (by simp)) (jN (vr (j:=1) rfl rfl rfl (by simp)) mv rfl) rfl rfl (mD rfl (by simp;rfl) (by simp) o)) rfl))
 .exact Ha g1 na nd rfl (.inl (P _ (by simp))) (O _ (by simp)).1 (O _ (by simp)).2 rfl q (by decide) (r _ (by simp)) (f.dg _ (by decide)) (r _ (by simp)) (f.dg _ (by decide)) n (ug hT sT) hz kT (nj (r _ (by simp)) Z (by decide)) k1 (uK (r _ (by simp)) a0 (by rfl) (by decide) (by decide)) k2
def Vd(E)(b:aG)(r:ay D)(aA):=∃q a,r=.ok (.ref q) aA/\aA[q]?=some (.lst (a.map .str))/\a.length<=12/\jv E a=true/\b.length<=q
def Pa(d:aU):=∀a h t c E L R P,bR P a h E L->DH a t c E R->(nms E).Nodup->(∀n∈nms E,n∉c.map (·.1)->R n=aL E n)->Q0 (aY (nms E) R)->(∀j,a.length<=j->P j)->Ii (aY (nms E) R)->∃b,Vd (aY (nms E) R) a (d [.ref h,.ref t] a) b/\af [] a b
def RJ(d:aU):=∀c e a E P,bu c e a->aD P c a E->Q0 E->Ii E->∃b,Vd E c (d [.int 0,.ref e] c) b/\af [e] c b/\b[e]?=some (.dF a)
theorem Lf(d:a[b]?=some (.lst (g.map .str))):RI (.ref b) t a=.nx (t.set 2 (oR a.length)) ((a++[Cell.lst (g.map .str)]).set b (.lst [])):=by
 have e:gh [.ref b] a=.ok (.ref a.length) (a++[.lst (g.map .str)]):=by
  unfold gh;simp only[ax,av d];rfl
 have c:(a++[Cell.lst (g.map .str)])[b]?=some _:=cu d;unfold RI;rw[e,cx,if_pos (dz c),zk c,cx]
theorem Dm(c:O_ E J0 [some m,some Y,some .non,none] a=.exc (gZ "Loop" [("ring",.ref b)]) T)(d:T[b]?=some (.lst (g.map .str))):bN 4 2 (L_ E J0) [m,Y] a=.ok (.ref T.length) ((T++[Cell.lst (g.map .str)]).set b (.lst [])):=by
 rw[ba (by rfl)]
 have e:aZ 4 [m,Y]=[some m,some Y,none,none]:=rfl;unfold L_
 show fb (ak _ _ [some m,some Y,some _,none] a)=_
 rw[ai,C_ c (Lf d)];rfl
variable{v4:ay D}
theorem Dp(e:T[b]?=some (.lst (g.map .str)))(f:g.length<=12)(h:jv w g=true)(i:a.length<=b)(K:af L a T)(j:v4=.ok (.ref T.length) ((T++[Cell.lst (g.map .str)]).set b (.lst []))):Vd w a v4 ((T++[Cell.lst (g.map .str)]).set b (.lst []))/\af L a ((T++[Cell.lst (g.map .str)]).set b (.lst [])):=by
 have l:=bb e;exact⟨⟨_,g,j,cB aj (Ö l),f,h,K.len⟩,by grind,λk c d m=>cB (cu (K.get k c d m)) (O' (U' (mK d) i))⟩
theorem Lg(f:Vb J0):Pa (bN 4 2 (L_ E J0)):=by
 intro a h t g b L R P H T c hR Q i j;obtain⟨k,⟨p,y,m,d,n,o,q⟩,r⟩:=f a h t g b L R P H T c hR Q i j;refine⟨_,Dp d n o q r (Dm ?_ d)⟩;refine fQ (id H) λe l s u w _=>?_
 have x:(iR (m2 (G9 "House") (aa 0) (ah (.int 0))) (m2 (aF .Eq) (aa 0) (ah (.int 0)))) [oR h,oR t,some .non,none] a=.ok (.bl false) a:=by
  have:(m2 (G9 "House") (aa 0) (ah (.int 0))) [oR h,oR t,some .non,none] a=.ok (.bl false) a:=by
   show G9 _ _ (.int 0) a=_
   unfold G9;have:jU a (.ref h)=some (h,("House":Str),([("elders",.ref e),("lines",.ref l)]:List (Str×D))):=by simp only[jU,w]
   simp_all
  unfold iR;rw[this];rfl
 unfold O_;rw[dW,x]
 show ak _ _ _ a=_
 rw[ai,bW,xU H rfl (by decide) rfl,m]
 rfl
theorem Lh(h:RH E):RJ (bN 4 2 (L_ E J0)):=by
 intro d e i c P j k Q l;obtain⟨f,⟨p,t,u,g,m,n,o⟩,q,r⟩:=h d e _ c P j k Q l
 have s:O_ E J0 [some (.int 0),oR e,some .non,none] d=.exc (gZ "Loop" [("ring",.ref p)]) f:=by
  have w:(iR (m2 (G9 "House") (aa 0) (ah (.int 0))) (m2 (aF .Eq) (aa 0) (ah (.int 0)))) [some (.int 0),oR e,some .non,none] d=.ok _ d:=rfl;unfold O_
  simp_all
 obtain⟨a,b⟩:=Dp g m n o q (Dm s g);exact⟨_,a,b,cB (cu r) (by grind)⟩
variable{N6:dB}
theorem uh{a}(f:∀d∈nms w,d∈nms N6)(k:∀d∈nms w,aL w d=aL N6 d)(h:kS w d a):kS N6 d a:=by
 induction h with
 |@go d L a b g i c=>exact .go (f d b) (λx e=>c x (by grind)) (by simp_all)
 |@el d y v b g l j c=>exact .el (f d b) (λx e=>c x (by grind)) (by simp_all) j
theorem Dq(a:∀n,n∈nms w↔n∈nms N6)(b:∀n∈nms w,aL w n=aL N6 n)(x y):lO w x y=lO N6 x y:=by
 unfold lO
 grind
theorem Dr(a:∀n,n∈nms w↔n∈nms N6)(b:∀n∈nms w,aL w n=aL N6 n):jv w g=jv N6 g:=by
 have:=funext λx=>funext λy=>Dq a b x y
 unfold jv;rw[this]
def rQ(E:dB):List (Key×D):=E.map λp=>(.inr p.1,L1 p.2)
theorem Hc(xs):aP 8 (L1 xs)=true:=by
 show(xs.map D.str).all (aP 7)=true
 rw[ù];intro d a;obtain⟨x,_,rfl⟩:=ë.mp a;rfl
theorem qa(h:aD ς a P w):qT a P=some (rQ w):=by
 unfold aD at h;unfold qT
 induction h with
 |nil=>rfl
 |@cons k p P w c _ d=>
  obtain⟨e,j,f,_,g⟩:=c;have i:=dN (b:=6) g;rw[rC,d,f,i];simp only[Hc,if_true,e];rfl
theorem ui{n}:∀{E},bX (rQ E) (.inr n)=(E.lookup n).map L1
 |[]=>rfl
 |p::E=>by
  unfold rQ;rw[ú,dA,ϔ]
  by_cases z:n=p.1
  .subst z;simp
  .rw[if_neg (λq=>z (by cases q;rfl)),beq_eq_false_iff_ne.mpr z]
   exact ui (E:=E)
theorem Ds(b:w.length=N6.length)(h:∀p∈w,N6.lookup p.1=some p.2):oF (rQ w) (rQ N6)=true:=by
 unfold oF;have c:((rQ w).length==(rQ N6).length)=true:=by simp[rQ,b]
 rw[c,aax,ù];intro e a;obtain⟨p,d,rfl⟩:=ë.mp a
 show(match bX (rQ N6) (.inr p.1)with|some v=>eJ (L1 p.2) v|none=>false)=true
 rw[ui,h p d]
 show eJ (L1 p.2) (L1 p.2)=true
 rw[HQ];simp
variable{G6:List (Key×D)}{f9:Nat->Prop}
theorem uj(c:bu a b P)(d:aD ς a P w)(e:bu a s G6)(f:aD f9 a G6 N6)(g:w.length=N6.length)(h:∀p∈w,N6.lookup p.1=some p.2):aF .NotEq (.ref b) (.ref s) a=.ok (.bl false) a:=by
 rw[xE,jX,Cz c]
 show jj _ _=_
 unfold ie;simp only[xO c,xO e,qa d,qa f,Ds g h];rfl
theorem rR(c:b<g.length):(nxt g)[b]?=if b+1<g.length then g[b+1]? else g[0]?:=by
 unfold nxt;split
 .rw[ã (by simp;omega),Š,adS]
 .have a:b=g.length - 1:=by omega
  rw[ē (by simp;omega),a]
  simp
theorem Hd(a:b<g.length):vM (nxt g) b=g[b]?:=by
 unfold vM;rw[iN];split
 .rename_i c
  subst c;rw[rR (by omega),if_neg (by omega)]
 .rw[rR (Ø (õ _ _) a),if_pos (by omega),show b - 1+1=b by omega]
theorem Li(h:jv w g=true):jv w (nxt g)=true:=by
 unfold jv at h ⊢;simp only[Ú,ċ,decide_eq_false_iff_not,decide_eq_true_eq]at h ⊢;obtain⟨d,f,b⟩:=h;refine⟨λz=>d (adU.mp (by rw[←iN,z];rfl)),?_,?_⟩
 .have:(nxt g).Perm g:=by
   refine abN.trans ?_;rw[abL]
  grind
 .rw[mJ]at b ⊢
  intro i x y a e
  have c:=by
   have:=(Ç.mp a).1;rwa[iN]at this
  rw[Hd c]at e;rw[rR c]at a;split at a
  .refine b _ x y a ?_
   unfold vM
   simp_all
  .refine b 0 x y a ?_
   unfold vM
   grind
def RK(d:aU):=∀c e a E P,bu c e a->aD P c a E->Q0 E->∃b,d [.ref e] c=.ok (.bl (decide (vO E E.length≠[]))) b/\af [] c b
theorem Pb:RK (bN 3 1 RE):=by
 intro b e H E P G o Q;have f:=Q.few;have u:(nms E).length<=12:=by simp[nms];omega
 rw[ba (by rfl)]
 have I:aZ 3 [D.ref e]=[oR e,none,none]:=rfl;rw[I];have J:=kP G;rw[o.keys]at J;have w:af [] b (b++[Cell.lst ((nms E).map .str)]):=af.app;have L:(b++[Cell.lst ((nms E).map .str)])[b.length]?=some _:=aj
 have M:(aE 1 (mN (aN .list) (ae (aa 0) ag))) [oR e,none,none] b=.nx [oR e,oR b.length,none] (b++[Cell.lst ((nms E).map .str)]):=by
  simp_all
 generalize b.length=q at *;generalize b++[Cell.lst _]=g at *;have h:=G.keep w (by simp)
 have x:=o.keep w (by simp)
 have j:=Ib h;rw[←o.len]at j
 have y:di (ae (mN (aN .len) (ae (aa 0) ag)) ag) [oR e,oR q,none] g=.ok (.ints 0 E.length) g:=by
  have:(mN (aN .len) (ae (aa 0) ag)) [oR e,oR q,none] _=.ok _ _:=j;rw[jY,a5,this,au,bh,au,au,mF,if_pos (eE (ę _) (DL f)),ś]
 unfold RE;rw[ai,M,aH,ai,cq,y,cx]
 have z:∀k,(vO E k).length<=12:=by
  intro k
  induction k with
  |zero=>exact u
  |succ k N=>exact B' (ϛ _ _) N
 refine bE (R:=λr=>∃l,fb (sq r _)=.ok _ l/\af [] b l)
  (λi A c=>∃p a,A=[oR e,oR p,a]/\c[p]?=some (.lst ((vO E i).map _))/\af [] _ c) (λ_ _ _ _=>rfl) ?_ ?_ _ 0 _ _ (by rw[cR];unfold fuel;exact oi (B' (õ _ _) f)) (Ë _) ⟨q,_,rfl,L,af.refl⟩
 .rintro i d A c O ⟨p,a,rfl,m,K⟩
  refine⟨[oR e,oR p,some d],rfl,?_⟩;obtain⟨k,B,C,S,F⟩:=KP (h.keep K (by simp)) (x.keep K (by simp)) m (Dl i) (λn T=>by have:=Q.short n T;exact cO this) (by have:=z i;exact cO this)
  rw[ai,bj,C];exact⟨k,_,rfl,S,K.trans F⟩
 .rintro A c ⟨p,a,rfl,m,K⟩
  rw[cR]at m;obtain⟨B,C,F⟩:=ne_nil (t:=[oR e,oR p,a]) (s:=1) rfl m;refine⟨_,?_,(w.trans K).trans F⟩;rw[aH,ai,ff,C];rfl
def He(f:aU):=∀a e q b E P d,bu a e b->aD P a b E->a[q]?=some (.lst (d.map .str))->d.length<=900->∃c,f [.ref e,.ref q] a=.ok (.bl (jv E d)) c/\af [] a c
theorem Lj(i:GL E)(e:a[s]?=some (.lst (g.map .str)))(l:g.length<=900):
  ∃aA,UO E [oR b,oR s,none] a=.ok (.bl (decide (g=[])||!decide g.Nodup)) aA/\af [] a aA:=by
 obtain⟨c,m,f⟩:=i a s g e (by omega)
 have j:eN (mN (aQ E) (ae (aa 1) ag)) [oR b,oR s,none] a=.ok (.bl false) c:=by
  simp_all
 have d:(c++[Cell.lst []])[s]?=some _:=cu (f.get _ _ e (by simp))
 have k:(m2 (aF .Eq) (aa 1) (mN aV ag)) [oR b,oR s,none] c=.ok (.bl (decide (g=[]))) (c++[Cell.lst []]):=by
  have v1:aa 1 [oR b,oR s,none] _=.ok _ c:=rfl;have v2:mN aV ag [oR b,oR s,none] c=.ok _ _:=rfl;exact mH d aj
 refine⟨c++[Cell.lst []],?_,f.trans af.app⟩;unfold UO;rw[ro,j,au,cX,ro,k,au,cX]
 by_cases h:g=[]
 .rw[decide_eq_true h];rfl
 .rw[decide_eq_false h,xy]
  exact Dj rfl d (by omega)
theorem Pc(L:GL E):He (bN 3 2 (RD E)):=by
 intro M e q N c P g O Q I p;rw[ba (by rfl)]
 have S:aZ 3 [D.ref e,.ref q]=[oR e,oR q,none]:=rfl;rw[S];obtain⟨f,T,l⟩:=Lj (b:=e) L I p;have m:=l.get _ _ I (by simp)
 have w:=O.keep l (by simp)
 unfold RD;rw[ai,dW,T]
 by_cases s:g=[]
 .rw[decide_eq_true s]
  refine⟨f,?_,l⟩;unfold jv;rw[decide_eq_true s];rfl
 by_cases z:g.Nodup
 .rw[decide_eq_false s,decide_eq_true z]
  show ∃k,fb (ak _ _ _ f)=_/\_
  have A:di (ae (mN (aN .len) (ae (aa 1) ag)) ag) [oR e,oR q,none] f=.ok (.ints 0 g.length) f:=by
   have:(mN (aN .len) (ae (aa 1) ag)) [oR e,oR q,none] f=.ok (.int (g.length:Nat)) f:=by
    have v1:aa 1 [oR e,oR q,none] f=.ok (.ref q) f:=rfl;rw[dJ,a5,v1,au,bh,au,au,eo m];simp
   rw[jY,a5,this,au,bh,au,au,mF,if_pos (eE (ę _) (DL p)),ś]
  rw[ai,cq,A,cx]
  have n:jv c g=(Ŋ (lO c) g (nxt g)).all id:=by
   unfold jv
   simp_all
  refine bE (R:=λr=>∃k,fb (sq r _)=.ok _ k/\af [] M k) (λi B h=>h=f/\(∃a,B=[oR e,oR q,a])/\∀j x y,j<i->g[j]?=some y->vM g j=some x->lO c x y=true)
   (λ_ _ _ _=>rfl) ?_ ?_ fuel 0 _ _ (by rw[cR];unfold fuel;exact oi (B' (õ _ _) p)) (Ë _) ⟨rfl,⟨none,rfl⟩,by simp⟩
  .rintro i d B h C ⟨rfl,⟨a,rfl⟩,t⟩
   obtain⟨rfl,J⟩:=eF C;have K:=ä J;obtain⟨x,o⟩:=KI J;refine⟨[oR e,oR q,some _],rfl,?_⟩;rw[aaw];have U:=KN w (Q.keep l (by simp)) m p K o
   rw[ai,dW,U]
   by_cases F:lO c x g[i]=true
   .rw[F]
    refine⟨rfl,⟨_,rfl⟩,λj V X hj u G=>?_⟩
    by_cases Y:j=i
    .simp_all
    .exact t j V X (by omega) u G
   .have H:=by simpa using F
    have Z:jv c g=false:=by
     rw[n];cases hz:(Ŋ (lO c) g (nxt g)).all id with
     |false=>rfl
     |true=>exact absurd (mJ.mp hz i x _ K o) F
    rw[H,Z];exact⟨h,rfl,l⟩
  .rintro B h ⟨rfl,⟨a,rfl⟩,t⟩
   rw[cR]at t
   have:jv c g=true:=by
    rw[n,mJ];exact λi x y u G=>t i x y (Ç.mp u).1 u G
   simp_all
 .rw[decide_eq_false s,decide_eq_false z]
  refine⟨f,?_,l⟩;unfold jv;rw[decide_eq_false z,aao,adR];rfl
theorem Dt(a:g[b]?=some d):aY (g.take b) ζ++[(d,ζ d)]=aY (g.take (b+1)) ζ:=by
 rw[é,a];simp[aY]
def Ve:=(ak (ey (aa 3) (aa 4) (mN (aN .list) (ae (m2 aK (aa 0) (aa 4)) ag))) aq)
theorem Hf(J:bu a b P)(L:aD ς a P w)(m:a[Ξ]?=some (.lst (g.map .str)))(E:a[s]?=some (.dK []))(t:b≠s)(M:∀y∈g,y∈nms w)(N:g.Nodup)(F:g.length<=900):
  ∃e h aA,dI (cY 4) (bg (aa 2)) Ve [oR b,d0,oR Ξ,oR s,P0,M1] a=.nx [oR b,d0,oR Ξ,oR s,e,M1] aA/\aA[s]?=some (.dK h)/\aD (λj=>a.length<=j) aA h (aY g (aL w))/\af [s] a aA:=by
 have u:bg (aa 2) [oR b,d0,oR Ξ,oR s,P0,M1] a=.ok (.seq (.ref Ξ)) a:=by
  rw[cf];exact aM (by rw[ax,av m])
 rw[cq,u,cx]
 refine bE (R:=λr=>∃e h aA,r=.nx [oR b,d0,oR Ξ,oR s,e,M1] aA/\aA[s]?=some (.dK h)/\aD _ aA h _/\af [s] a aA) (q:=g.map .str)
  (λi o c=>∃e h,o=[oR b,d0,oR Ξ,oR s,e,M1]/\c[s]?=some (.dK h)/\aD (λj=>a.length<=j) c h (aY (g.take i) (aL w))/\af [s] a c) ?_ ?_ ?_ fuel 0 _ _ (by unfold fuel;simp;exact oi F) (Ë _) ⟨P0,[],rfl,E,.nil,af.refl⟩
 .rintro i o c ⟨_,_,_,_,_,K⟩
  rw[bw,ax,av (K.get _ _ m (by simpa using (λz=>by rw[z,E]at m;cases m)))]
 .rintro i d o c x ⟨e,h,rfl,f,R,K⟩
  obtain⟨n,A,rfl⟩:=fA x;refine⟨[oR b,d0,oR Ξ,oR s,oS n,M1],rfl,?_⟩;have B:=L.cy K (λj C O=>by simp_all)
  refine br (B.at (M n (Î A))) λj Q _ C=>?_
  have S:=et (J.keep K (by simpa using t)) Q
  have T:=cA C
  have U:(mN (aN .list) (ae (m2 aK (aa 0) (aa 4)) ag)) [oR b,d0,oR Ξ,oR s,oS n,M1] c=.ok (.ref c.length) (c++[.lst ((aL w n).map .str)]):=by
   simp_all
  have V:(c++[Cell.lst ((aL w n).map .str)])[c.length]?=some _:=aj;have D:af [] c (c++[Cell.lst ((aL w n).map .str)]):=af.app;generalize c++[Cell.lst _]=l at *;have G:=D.get _ _ f (by simp)
  have k:=R.len;have Y:=n7 (p:=aa 3) (X:=aa 4) U rfl rfl G (by simp only[aY,Í,ý]at k;exact cO (B' (B' (R' k.symm) (ŧ _ _)) F))
  have Z:=(R.keep D (by simp)).put (by rw[aR];exact ua N A) K.len V
  have H:af [s] l (l.set s (.dK (d4 h (.inr n) (.ref c.length)))):=af.set (by simp)
  have I:=Z.cy H (λj C O=>by simp_all)
  rw[Dt A]at I;unfold Ve;rw[ai,Y];exact⟨_,_,rfl,aT G,I,(K.trans (er.up D)).trans H⟩
 .rintro o c ⟨e,h,rfl,f,R,K⟩
  rw[Í,û]at R;exact⟨e,h,c,rfl,f,R,K⟩
def RL:=(m2 (a7 .Add) (cp (aa 5) false (ah (.int 1)) true (ah .non)) (cp (aa 5) true (ah .non) false (ah (.int 1))))
def RM(b a):=(ak (dY (oG (eN (mN (aQ b) (ae (aa 0) (ae (aa 5) ag)))) (m2 (aF .IsNot) (mN (aQ a) (ae (aa 3) (ae (aa 5) ag))) (ah (.bl true))))
 rF
 aq)
 (ak (dY (m2 (aF .IsNot) (mN (aQ a) (ae (aa 3) (ae RL ag))) (ah (.bl true)))
 rF
 aq)
 aq))
theorem Lk(h:a[b]?=some (.lst (g.map .str)))(d:g.length<=900):∃aA k,(∀c,c[5]?=some (oR b)->RL c a=.ok (.ref k) aA)/\aA[k]?=some (.lst ((nxt g).map .str))/\af [] a aA:=by
 refine aJ (Dk h d) λaA k j e f=>?_
 exact⟨_,k,λc i=>by
  have:RL c a=KH [none,oR b] a:=by
   unfold RL KH
   simp_all
  simp_all,e,f⟩
theorem Ll(hR:He E)(j:DI J0)(n:bu a b P)(o:aD ς a P w)(l:bu a Ξ G6)(m:aD f9 a G6 N6)(f:a[s]?=some (.lst (g.map .str)))(h:g.length<=900)(B:jv w g=true)(p:jv N6 g=true):
  ∃aA,RM E J0 [oR b,d0,P0,oR Ξ,M1,oR s] a=.nx [oR b,d0,P0,oR Ξ,M1,oR s] aA/\af [] a aA:=by
 obtain⟨q,C,e⟩:=hR a b s _ w ς g n o f h;obtain⟨r,D,t⟩:=j _ Ξ s G6 N6 f9 g (l.keep e (by simp)) (m.keep e (by simp)) (e.get _ _ f (by simp)) h
 have d:=e.trans t;refine aJ (Lk (d.get _ _ f (by simp)) h) λu k F i x=>?_
 have c:=d.trans x;obtain⟨y,z,A⟩:=j _ Ξ k G6 N6 f9 _ (l.keep c (by simp)) (m.keep c (by simp)) i (by rwa[iN])
 rw[Li p]at z;refine⟨_,?_,c.trans A⟩;unfold RM
 simp_all
noncomputable def Hg:D->Bool
 |.non=>true
 |_=>false
def Ym(a):=(oG (m2 (aF .NotEq) (aa 3) (aa 0)) (m2 (aF .Eq) (m2 (aF .Is) (aa 5) (ah .non)) (mN (aQ a) (ae (aa 0) ag))))
def RN(a b c d):=
 (ak (aE 3 bC)
 (ak (dI (cY 4) (bg (aa 2)) Ve)
 (ak (aE 5 (mN (aQ a) (ae (aa 3) ag)))
 (ak (dY (Ym b) rF aq)
 (ak (dY (m2 (aF .IsNot) (aa 5) (ah .non)) (RM c d) aq)
 aq)))))
theorem Hh(Q:Q0 w)(p:g.Perm (nms w)):Q0 (aY g (aL w)) where
 nd:=by rw[aR];exact p.nodup_iff.mpr Q.nd
 el:=λn a x b=>by
  rw[aR]at a ⊢;rw[cD a]at b;exact p.mem_iff.mpr (Q.el n (p.mem_iff.mp a) x b)
 JO:=λn a=>by
  rw[aR]at a;rw[cD a];exact Q.JO n (p.mem_iff.mp a)
 short:=λn a=>by
  rw[aR]at a;rw[cD a];exact Q.short n (p.mem_iff.mp a)
 few:=by
  have:=p.length_eq;have:=Q.few;simp[aY,nms]at *;omega
theorem Hi(b:(nms w).Nodup)(h:d∈nms w):w.lookup d=some (aL w d):=by
 unfold aL;cases q:w.lookup d with
 |none=>exact absurd h (λz=>by
   obtain⟨p,c,rfl⟩:=ë.mp z
   grind)
 |some a=>rfl
theorem Lm(hL:GW E)(hH:RK J0)(hR:He n5)(hI:DI M5)(J:bu a b P)(K:aD ς a P w)(Q:Q0 w)(ho:a[s]?=some (.lst (g.map .str)))(p:g.Perm (nms w)):
  ∃L h M aA,RN E J0 n5 M5 [oR b,d0,oR s,P0,M1,Q3] a=.nx [oR b,d0,oR s,L,h,M] aA/\af [] a aA:=by
 have A:g.length<=12:=by
  have:=p.length_eq;have:=Q.few;simp[nms]at *;omega
 have r1:aE 3 bC [oR b,d0,oR s,P0,M1,Q3] a=.nx _ (a++[Cell.dK []]):=rfl;have B:af [] a (a++[Cell.dK []]):=af.app;have g1:(a++[Cell.dK []])[a.length]?=some (.dK []):=aj;have le:=J.lt;refine dO (Hf (d0:=d0) (P0:=M1) (M1:=Q3) (J.keep B (by simp)) (K.keep B (by simp)) (B.get _ _ ho (by simp)) g1 (O' le) (λy N=>p.mem_iff.mp N) (p.nodup_iff.mpr Q.nd) (cO A)) λh kv C e2 g2 R2 K2=>?_
 have D:af [] a C:=⟨B' B.len K2.len,λk c F _=>K2.get k c (B.get k c F (by simp)) (by have:=bb F;simp;omega)⟩
 refine a8 (hL C a.length kv (aY g (aL w)) _ (.inl g2) R2 (Hh Q p)) λd f e3 O g3 R=>?_
 have m:af [] a f:=⟨B' D.len O.len,λk c F _=>O.get k c (D.get k c F (by simp)) (by have:=bb F;simp;omega)⟩
 have o:=J.keep m (by simp)
 have t:aD ς f P w:=K.keep m (by simp)
 have R3:=R2.cy O (λj hj ds=>by simp_all)
 refine bD (hH f b P w ς o t Q) λu e4 z=>?_
 have i:∀n,n∈nms w↔n∈nms (aY g (aL w)):=λn=>by rw[aR];exact p.mem_iff.symm
 have x:∀n∈nms w,aL w n=aL (aY g (aL w)) n:=λn l=>(cD (p.mem_iff.mpr l)).symm
 have G:∀n e,kS w n e↔kS (aY g (aL w)) n e:=λn e=>⟨uh (λn l=>(i n).mp l) x,uh (λn l=>(i n).mpr l) λn l=>(x n ((i n).mpr l)).symm⟩
 have S:=uj (a:=f) (b:=a.length) (s:=b) (.inr g3) R3 o t (by have:=p.length_eq;simp[aY,nms]at *;omega) (λq T=>by
  refine bD (ë.mp T) λy N U=>?_;subst U
  exact Hi Q.nd (p.mem_iff.mp N))
 have V:(decide (vO w w.length≠[]))=!(Hg d):=by
  rcases R with ⟨rfl,H⟩|⟨⟨n,l,X⟩,q,xs,rfl,_⟩
  .show decide _=false
   rw[decide_eq_false_iff_not,p_ Q.el]
   simp_all
  .show decide _=true
   rw[decide_eq_true_eq,p_ Q.el];exact⟨n,(i n).mpr l,λe ha=>X e ((G n e).mp ha)⟩
 have Y:aF .Is d .non f=.ok (.bl (Hg d)) f:=by
  rcases R with ⟨rfl,_⟩|⟨_,q,xs,rfl,_⟩<;>simp[Hg]
 have t4:Ym J0 [oR b,d0,oR s,oR a.length,h,some d] f=.ok (.bl false) u:=by
  rw[V]at e4;refine Kz S ((kY ((kY (ix (by rfl)) (by rfl)).trans Y) (Ij (by rfl) e4)).trans ?_)
  cases Hg d<;>rfl
 have I:=m.trans z
 have b0:∀r,dY (m2 (aF .IsNot) (aa 5) (ah .non)) (RM n5 M5) aq [oR b,d0,oR s,oR a.length,h,some d] u=r->RN E J0 n5 M5 [oR b,d0,oR s,P0,M1,Q3] a=sq r (aq):=λr K=>by
  unfold RN
  simp_all
 rcases R with ⟨rfl,H⟩|⟨_,q,xs,rfl,T,Z,hg⟩
 .refine⟨oR a.length,h,some .non,u,?_,I⟩
  simp_all
 .refine bD (Ll (d0:=d0) (P0:=oR s) (M1:=h) hR hI (o.keep z (by simp)) (t.keep z (by simp)) ((show bu f a.length kv from .inr g3).keep z (by simp)) (R3.keep z (by simp)) (z.get _ _ T (by simp)) (cO Z) (by rw[Dr i x];exact hg) hg) λa0 e5 K5=>?_
  refine⟨oR a.length,h,oR q,a0,?_,I.trans K5⟩
  simp_all
def RO(a):=(mN aV (ae (mN (aN .list) (ae (aa 0) ag)) (ae (mN (aQ a) (ae (mN (aN .list) (ae (aa 0) ag)) (ae (aa 1) ag))) ag)))
def RP(a b c d e):=(ak (dI (cY 2) (bg (RO a)) (RN b c d e)) (ak (bU (ah (.bl true))) aq))
def Hj(f:aU):=∀d e a E P c,bu d e a->aD P d a E->Q0 E->∃b,f [.ref e,.int c] d=.ok (.bl true) b/\af [] d b
variable{o9:aU}
theorem Pd(S:Ks E)(T:GW J0)(U:RK n5)(hR:He M5)(V:DI o9):Hj (bN 6 2 (RP E J0 n5 M5 o9)):=by
 intro j e X a P c y z Q;have Y:=Q.few;have A:(nms a).length<=12:=by simp[nms];omega
 rw[ba (by rfl)]
 have Z:aZ 6 [D.ref e,.int c]=[oR e,some (.int c),none,none,none,none]:=rfl;rw[Z];have L:=kP y;rw[z.keys]at L;have M:af [] j (j++[Cell.lst ((nms a).map .str)]):=af.app;have g1:(j++[Cell.lst ((nms a).map .str)])[j.length]?=some _:=aj;generalize a0:j.length=s at *;generalize j++[Cell.lst _]=f at *;have l2:=kP (y.keep M (by simp))
 rw[z.keys]at l2;have K2:af [] f (f++[Cell.lst ((nms a).map .str)]):=af.app;have g2:(f++[Cell.lst ((nms a).map .str)])[f.length]?=some _:=aj;generalize b0:f.length=q2 at *;generalize f++[Cell.lst _]=B at *;refine eg (S B q2 c (nms a) g2 (cO A)) λys k b p e3 g3 K3 _=>?_
 have N:af [] b (b++[Cell.lst [.ref s,.ref k]]):=af.app;have O:(b++[Cell.lst [.ref s,.ref k]])[b.length]?=some _:=aj
 have hi:RO E [oR e,some (.int c),none,none,none,none] j=.ok (.ref b.length) (b++[Cell.lst [.ref s,.ref k]]):=by
  have t1:(mN (aQ E) (ae (mN (aN .list) (ae (aa 0) ag)) (ae (aa 1) ag))) [oR e,some (.int c),none,none,none,none] f=.ok (.ref k) b:=by
   simp_all
  unfold RO;rw[dJ,a5,show(mN (aN .list) (ae (aa 0) ag)) [oR e,some (.int c),none,none,none,none] j=.ok (.ref s) f from L,au,a5,t1,au,bh,au,au,au]
  rfl
 have n:=(K2.trans K3).trans N;have l:=M.trans n;have C:=y.keep l (by simp)
 have F:=z.keep l (by simp)
 generalize c0:b.length=qo at *;generalize b++[Cell.lst _]=m at *
 have G:bg (RO E) [oR e,some (.int c),none,none,none,none] j=.ok (.seq (.ref qo)) m:=by
  rw[cf,hi,au];exact aM (by rw[ax,av O])
 unfold RP;rw[ai,cq,G,cx]
 refine bE (R:=λr=>∃q,fb (sq r _)=.ok _ q/\af [] j q)
  (λi t g=>∃H u w x,t=[oR e,some (.int c),H,u,w,x]/\af [] m g) (by rintro i t g ⟨_,_,_,_,_,K⟩;rw[bw,ax,av (K.get _ _ O (by simp))]) ?_ ?_ fuel 0 _ _ (by unfold fuel;simp) (Ë _) ⟨none,none,none,none,rfl,af.refl⟩
 .rintro i d t g I ⟨H,u,w,x,rfl,K⟩
  obtain⟨o,J,rfl,hz,pz⟩:∃(o:Nat) (J:List Str),d=.ref o/\m[o]?=some (.lst (J.map .str))/\J.Perm (nms a):=by
   match i,I with
   |0,h=>cases h;exact⟨_,_,rfl,(n.get _ _ g1 (by simp)),.refl _⟩
   |1,h=>cases h;exact⟨_,_,rfl,(N.get _ _ g3 (by simp)),p⟩
  refine⟨[oR e,some (.int c),oR o,u,w,x],rfl,?_⟩;obtain⟨b3,b4,b5,d0,e6,K6⟩:=Lm T U hR V (C.keep K (by simp)) (F.keep K (by simp)) Q (K.get _ _ hz (by simp)) pz
  rw[e6];exact⟨_,_,_,_,rfl,K.trans K6⟩
 .rintro t g ⟨H,u,w,x,rfl,K⟩
  exact⟨g,rfl,l.trans K⟩
def Yn(a):=(aE 6 (mN (aQ a) (ae (aa 0) (ae (mN (aN .list) (ae (aa 5) ag)) ag))))
def spT(a):=(oG (eN (m1 (fx .bool) (aa 6))) (m2 (aF .NotEq) (aa 6) (mN (aQ a) (ae (aa 0) (ae (aa 5) ag)))))
def spS(a b):=(ak (Yn a) (ak (dY (spT b) rF aq) aq))
theorem Ln(l:DI E)(hR:He J0)(i:bu a b P)(j:aD ς a P w)(k:a[s]?=some (.lst (g.map .str)))(d:g.length<=900):
  ∃aA,spS E J0 [oR b,d0,P0,M1,Q3,oR s,Y3] a=.nx [oR b,d0,P0,M1,Q3,oR s,some (.bl (jv w g))] aA/\af [] a aA:=by
 have m:=Cp k (by simp;exact cO d)
 have e:af [] a (a++[Cell.lst (g.map .str)]):=af.app;obtain⟨f,n,o⟩:=l _ b _ _ w ς g (i.keep e (by simp)) (j.keep e (by simp)) aj d
 have r:Yn E [oR b,d0,P0,M1,Q3,oR s,Y3] a=.nx [oR b,d0,P0,M1,Q3,oR s,some _] _:=Di (call2 rfl (m) n);have c:=e.trans o;obtain⟨h,p,q⟩:=hR _ b s _ w ς g (i.keep c (by simp)) (j.keep c (by simp)) (c.get _ _ k (by simp)) d
 have t:spT J0 [oR b,d0,P0,M1,Q3,oR s,some (.bl (jv w g))] f=.ok (.bl false) h:=by
  refine Kz (xV (by rfl)) ((kY (ix (by rfl)) (call2 (by rfl) (ix (by rfl)) p)).trans ?_)
  cases jv w g<;>rfl
 refine⟨_,?_,c.trans q⟩;unfold spS
 simp_all
def IsT(B)(b:aG)(k:Nat):=∃a:List Str,b[k]?=some (.lst (a.map .str))/\a.length<=B
theorem IsT.keep{aA}(h:IsT s a b)(K:af [] a aA):IsT s aA b:=bD (h) λe c d=>⟨e,K.get _ _ c (by simp),d⟩
def vR(b B d)(m:EM):=∀c,af [] b c->∃k a,m d c=.ok (.ref k) a/\IsT B a k/\af [] c a
def Pe(b n e)(f:AM):=∀c,af [] b c->∃(d:List Nat) (a:aG),f e c=.ok (d.map .ref) a/\d.length=n/\(∀k∈d,IsT 100 a k)/\af [] c a
theorem vS(d:t[Ξ]?=some (oR b))(h:IsT s a b):vR a s t (aa Ξ):=λc K=>⟨b,c,by simp_all,h.keep K,af.refl⟩
variable{C2:Bool}{L4:EM}{u8 x8:Option Int}
theorem oh(e:vR a b t p)(f:∀c,eV v X t c=.ok u8 c)(h:∀c,eV C2 L4 t c=.ok x8 c):vR a b t (cp p v X C2 L4):=λc K=>by
 obtain⟨k,d,i,⟨j,g,l⟩,m⟩:=e c K;refine⟨_,d++[.lst _],?_,⟨dq j u8 x8,aj,B' (EI _ _ _) l⟩,m.trans af.app⟩;rw[nQ,i,au,f,au,h,au];unfold lU;simp only[av g];rw[ES];rfl
theorem iy(f:vR a b t p)(g:vR a s t X)(u:b+s<=10000):vR a (b+s) t (m2 (a7 .Add) p X):=λh K=>by
 obtain⟨k,i,l,⟨m,n,w⟩,d⟩:=f h K;obtain⟨j,c,o,⟨q,r,x⟩,e⟩:=g _ (K.trans d);refine⟨_,c++[.lst _],?_,⟨m++q,aj,by grind⟩,(d.trans e).trans af.app⟩
 rw[dj,l,au,o,au,eH (e.get _ _ n (by simp)) r (by simp;omega),ì]
theorem Du(h:vR a b t p):vR a b t (yZ p (m1 qR (ah (.int 1)))):=λd K=>by
 obtain⟨k,c,e,⟨f,g,l⟩,i⟩:=h d K;refine⟨_,c++[.lst _],?_,⟨f.reverse,aj,by simp_all⟩,i.trans af.app⟩
 unfold yZ;have j:m1 qR (ah (.int 1)) t c=.ok _ _:=rfl;rw[e,au,j,au];simp only[av g]
 simp_all
theorem Lo:vR a 0 t (mN aV ag):=λb K=>⟨_,_,rfl,⟨[],aj,by simp⟩,af.app⟩
theorem vT(h:∀b,af [] a b->p t b=.ok (.str d) b):vR a 1 t (mN aV (ae p ag)):=λb K=>by
 refine⟨_,b++[.lst _],?_,⟨[d],aj,by simp⟩,af.app⟩
 rw[dJ,a5,h b K,au,bh,au];rfl
theorem vU:Pe a 0 t ag:=λb K=>⟨[],b,rfl,rfl,by simp,af.refl⟩
theorem dC(g:b<=100)(h:vR a b t p)(i:Pe a s t u0):Pe a (s+1) t (ae p u0):=λj K=>by
 refine aJ (h j K) λk l u m e=>?_
 refine a8 (i _ (K.trans e)) λn o w q y f=>?_
 refine⟨k::n,_,?_,by simp[q],λx hx=>?_,e.trans f⟩
 .simp_all
 .rcases Õ.mp hx with rfl|hx
  .obtain⟨r,c,d⟩:=m.keep f
   exact⟨r,c,B' d g⟩
  simp_all
def IsL(n b)(k:Nat):=∃a:List Nat,b[k]?=some (.lst (a.map .ref))/\a.length=n/\∀k∈a,IsT 100 b k
theorem Dv(g:Pe T b t u0)(K:af [] T a)(m:b<=100):∃k aA,mN aV u0 t a=.ok (.ref k) aA/\IsL b aA k/\af [] a aA:=by
 refine a8 (g a K) λe c h d i j=>?_
 have f:af [] _ (c++[Cell.lst (e.map .ref)]):=af.app;refine⟨_,_,?_,⟨e,aj,d,λk l=>(i k l).keep f⟩,j.trans f⟩
 rw[dJ,h]
 show(if small _ then iQ _ _ else .bad)=_
 rw[if_pos (aW (by grind))]
 rfl
theorem Dw(u:t[L5]?=some (oR b))(h:IsL s a b)(j:Pe a Ξ t u0)(l:s+Ξ<=100):∃k aA,m2 (a7 .Add) (aa L5) (mN aV u0) t a=.ok (.ref k) aA/\IsL (s+Ξ) aA k/\af [] a aA:=by
 refine br h λm g w c=>?_
 obtain⟨x,d,n,⟨e,o,p,q⟩,f⟩:=Dv j af.refl (B' (abK _ _) l);have i:af [] _ (d++[Cell.lst ((m++e).map .ref)]):=af.app;refine⟨_,_,?_,⟨_,aj,by simp_all,λk hk=>?_⟩,f.trans i⟩
 .have r:aa L5 t a=.ok (.ref b) a:=by simp_all
  rw[dj,r,au,n,au,eH (f.get _ _ g (by simp)) o (by simp;omega),ì]
 .rcases æ.mp hk with hk|hk
  .exact(c k hk).keep (f.trans i)
  .exact(q k hk).keep i
def Pf(F:List D->Out Rs)(n:Int):=(m2 aK (aa 3) (mN (cE F) (ae (aa 2) (ae (ah (.int n)) (ae (mN (aN .len) (ae (aa 3) ag)) ag)))))
def RQ:=(mN aV (ae (ah (.str "zz")) ag))
def RR:=(cp (aa 1) true (ah .non) false (ah (.int 1)))
def Vf:=(cp (aa 1) false (ah (.int 1)) true (ah .non))
def Vg:=(ae (mN aV ag) (ae (m2 (a7 .Add) (aa 1) (aa 1)) (ae (m2 (a7 .Add) RR (aa 1)) (ae RQ (ae (m2 (a7 .Add) (aa 1) RQ) (ae (aa 3) (ae (yZ (aa 3) (m1 qR (ah (.int 1)))) ag)))))))
def Vh(F:List D->Out Rs):=(ae (yZ (aa 1) (m1 qR (ah (.int 1)))) (ae Vf (ae (mN aV (ae (Pf F 5) ag)) ag)))
def Vi:=(ae (m2 (a7 .Add) RR (cp (aa 1) false (ah (.int 2)) true (ah .non))) (ae (m2 (a7 .Add) (m2 (a7 .Add) RR (mN aV (ae (aa 5) ag))) Vf) (ae (m2 (a7 .Add) (m2 (a7 .Add) (cp (aa 1) true (ah .non) false (m1 qR (ah (.int 1)))) RQ) (cp (aa 1) false (m1 qR (ah (.int 1))) true (ah .non))) ag)))
def RS(F:List D->Out Rs)(a b):=
 (ak (aE 3 (mN (aN .list) (ae (aa 0) ag)))
 (ak (aE 4 (mN aV Vg))
 (ak (aE 4 (m2 (a7 .Add) (aa 4) (mN aV (Vh F))))
 (ak (aE 5 (Pf F 6))
 (ak (aE 4 (m2 (a7 .Add) (aa 4) (mN aV Vi)))
 (ak (dI (cY 5) (bg (aa 4)) (spS a b))
 (ak (bU (ah (.bl true)))
 aq)))))))
theorem Dx(f:fK F4 W1)(s:t[3]?=some (oR b))(u:t[2]?=some (some (.int Q)))(k:a[b]?=some (.lst (g.map .str)))(l:g≠[])(h:0<=y1)(i:y1<100000):∃z,z∈g/\∀d,af [] a d->Pf W1 y1 t d=.ok (.str z) d:=by
 have w:=abM.mpr l;obtain⟨x,m,n⟩:=f Q y1 g.length h i (by omega)
 obtain⟨c,o⟩:∃c:Nat,(c)=F4 Q y1 g.length:=⟨(F4 Q y1 g.length).toNat,by omega⟩
 rw[←o]at n m;have j:c<g.length:=by omega
 refine⟨_,aat j,λd K=>?_⟩
 have e:=K.get _ _ k (by simp)
 have p:=eo e;have q:aa 3 t d=.ok (.ref b) d:=by simp_all
 have r:(mN (cE W1) (ae (aa 2) (ae (ah (.int y1)) (ae (mN (aN .len) (ae (aa 3) ag)) ag)))) t d=.ok (.int c) d:=by simp_all
 unfold Pf;rw[dj,q,au,r];exact bY e (L2.cH (by simp))
def Hk(SP:aU):=∀a e q b E P c (f:List Str),bu a e b->aD P a b E->E.length<=12->E≠[]->a[q]?=some (.lst (f.map .str))->f.length<=12->∃d,SP [.ref e,.ref q,.int c] a=.ok (.bl true) d/\af [] a d
theorem Lp(M:fK F4 W1)(hI:DI E)(hR:He J0):Hk (bN 7 3 (RS W1 E J0)):=by
 intro j e q Z f P c xs hd hr h0 a0 hq hl;rw[ba (by rfl)]
 have e0:aZ 7 [D.ref e,.ref q,.int c]=[oR e,oR q,some (.int c),none,none,none,none]:=rfl;rw[e0];have B:nms f≠[]:=λz=>a0 (adV.mp z)
 have l1:=kP hd;rw[hr.keys]at l1;have K1:af [] j (j++[Cell.lst ((nms f).map .str)]):=af.app;have g1:(j++[Cell.lst ((nms f).map .str)])[j.length]?=some (.lst ((nms f).map .str)):=aj
 have r1:aE 3 (mN (aN .list) (ae (aa 0) ag)) [oR e,oR q,some (.int c),none,none,none,none] j=.nx [oR e,oR q,some (.int c),oR j.length,none,none,none] (j++[Cell.lst ((nms f).map .str)]):=by
  simp_all
 generalize hz:j.length=z at *;generalize j++[Cell.lst ((nms f).map .str)]=y at *;have l:IsT 12 y q:=⟨xs,K1.get _ _ hq (by simp),hl⟩
 have N:IsT 12 y z:=⟨nms f,g1,(by simp[nms];omega)⟩
 have O:∀{s:bo} (m:EM) (j:aG),eV true m s j=.ok none j:=λ_ _=>rfl
 have p1:∀{s:bo}{n:Int} (j:aG),eV false (ah (.int n)) s j=.ok (some n) j:=λ_=>rfl
 have pn:∀{s:bo} (j:aG),eV false (m1 qR (ah (.int 1))) s j=.ok (some (-1)) j:=λ_=>rfl
 have x:∀{g:aG}{Q A:Option D},IsT 12 g q->vR g 12 [oR e,oR q,some (.int c),oR z,Q,A,none] (aa 1):=λh=>vS rfl h
 have C:∀{g:aG}{Q A:Option D},IsT 12 g q->vR g 12 [oR e,oR q,some (.int c),oR z,Q,A,none] RR:=λh=>oh (x h) (O _) p1
 have S:∀{g:aG}{Q A:Option D},IsT 12 g q->vR g 12 [oR e,oR q,some (.int c),oR z,Q,A,none] Vf:=λh=>oh (x h) p1 (O _)
 have F:∀{g:aG}{s:bo},vR g 1 s RQ:=vT (d:="zz") λ_ _=>rfl
 obtain⟨k2,g,e2,L2,K2⟩:=Dv (T:=y) (u0:=Vg) (b:=7) (dC (Ë _) Lo (dC (by omega) (iy (x l) (x l) (by omega)) (dC (by omega) (iy (C l) (x l) (by omega)) (dC (by omega) F (dC (by decide) (iy (x l) F (by omega)) (dC (by omega) (vS rfl N) (dC (by omega) (Du (vS rfl N)) vU))))))) af.refl (by decide)
 have r2:aE 4 (mN aV Vg) [oR e,oR q,some (.int c),oR z,none,none,none] y=.nx [oR e,oR q,some (.int c),oR z,oR k2,none,none] g:=by rw[bj,e2];rfl
 have G:=l.keep K2;have U:=K2.get _ _ g1 (by simp)
 obtain⟨w5,_,h5⟩:=Dx (a:=g) (t:=[oR e,oR q,some (.int c),oR z,oR k2,none,none]) (y1:=5) M rfl rfl U B (by decide) (by decide)
 refine aJ (Dw (L5:=4) (Ξ:=3) (u0:=Vh W1) rfl L2 (dC (by omega) (Du (x G)) (dC (by omega) (S G) (dC (by omega) (vT h5) vU))) (by decide)) λI o e3 L3 K3=>?_
 have r3:aE 4 (m2 (a7 .Add) (aa 4) (mN aV (Vh W1))) [oR e,oR q,some (.int c),oR z,oR k2,none,none] g=.nx [oR e,oR q,some (.int c),oR z,oR I,none,none] o:=by rw[bj,e3];rfl
 obtain⟨J,_,h6⟩:=Dx (a:=o) (t:=[oR e,oR q,some (.int c),oR z,oR I,none,none]) (y1:=6) M rfl rfl (K3.get _ _ U (by simp)) B (by decide) (by decide)
 have r4:aE 5 (Pf W1 6) [oR e,oR q,some (.int c),oR z,oR I,none,none] o=.nx [oR e,oR q,some (.int c),oR z,oR I,oS J,none] o:=by rw[bj,h6 o af.refl];rfl
 have p:=G.keep K3;obtain⟨L,u,e5,⟨ks,g5,l5,t5⟩,K5⟩:=Dw (L5:=4) (Ξ:=3) (u0:=Vi) (t:=[oR e,oR q,some (.int c),oR z,oR I,oS J,none]) rfl L3 (dC (by omega) (iy (C p) (oh (x p) p1 (O _)) (by omega)) (dC (by omega) (iy (iy (C p) (vT (d:=J) λ_ _=>rfl) (by omega)) (S p) (by omega)) (dC (by omega) (iy (iy (oh (x p) (O _) pn) F (by omega)) (oh (x p) pn (O _)) (by omega)) vU))) (by decide)
 have r5:aE 4 (m2 (a7 .Add) (aa 4) (mN aV Vi)) [oR e,oR q,some (.int c),oR z,oR I,oS J,none] o=.nx [oR e,oR q,some (.int c),oR z,oR L,oS J,none] u:=by rw[bj,e5];rfl
 have H:=((K1.trans K2).trans K3).trans K5
 have b0:bg (aa 4) [oR e,oR q,some (.int c),oR z,oR L,oS J,none] u=.ok (.seq (.ref L)) u:=by
  rw[cf];exact aM (by rw[ax,av g5])
 have c0:=hd.keep H (by simp)
 have g0:aD P u Z f:=hr.keep H (by simp)
 unfold RS;rw[ai,r1,aH,ai,r2,aH,ai,r3,aH,ai,r4,aH,ai,r5,aH,ai,cq,b0,cx]
 refine bE (R:=λr=>∃V,fb (sq r _)=.ok (.bl true) V/\af [] j V) (q:=ks.map .ref)
  (λi s w=>∃A X,s=[oR e,oR q,some (.int c),oR z,oR L,A,X]/\af [] u w) (by rintro i s w ⟨_,_,_,K⟩;rw[bw,ax,av (K.get _ _ g5 (by simp))]) ?_ ?_ fuel 0 _ _ (by rw[Í];unfold fuel;exact oi (B' (õ _ _) (R' l5))) (Ë _) ⟨_,_,rfl,af.refl⟩
 .rintro i d s w Y ⟨A,X,rfl,K⟩
  rw[î]at Y;obtain⟨k,hk,rfl⟩:=å.mp Y;obtain⟨zs,gk,lk⟩:=(t5 k (Î hk)).keep K;refine⟨[oR e,oR q,some (.int c),oR z,oR L,oR k,X],rfl,?_⟩;refine bD (Ln (d0:=oR q) (P0:=some (.int c)) (M1:=oR z) (Q3:=oR L) (Y3:=X) hI hR (c0.keep K (by simp)) (g0.keep K (by simp)) gk (cO lk)) λi0 e7 K7=>?_
  rw[e7];exact⟨_,_,rfl,K.trans K7⟩
 .rintro s w ⟨A,X,rfl,K⟩
  exact⟨w,rfl,H.trans K⟩
theorem Lq(h:bu a b P)(K:af [b] a T)(g:T[b]?=some (.dF P)):mf a T:=⟨K.len,λk c d=>by
 by_cases z:k=b
 .rcases h with h|h
  .simp_all
  simp_all
 .exact .inl (K.get k c d (by simp_all))⟩
def Yo:=(mN aV (ae (mN kD (ae (aa 8) (ae (mN (aN .list) (ae (m2 aK (aa 13) (aa 8)) ag)) ag))) ag))
def Vj(a):=(mN (aQ a) (ae (aa 5) (ae Yo ag)))
structure Pg(Ω:aG)(h z:Nat)(kv:List (Key×D))(xs:List Str)(n:Str)(r:List Str)(f L:Str->List Str):Prop where
 hs:bR Tr Ω h (aY xs f) L
 dc:bu Ω z kv
 rw:aD Tr Ω kv (aY xs λm=>if m=n then r else f m)
theorem Pg.kpf(A:Pg a b s P Δ d g ζ n8)(K:mf a T):Pg T b s P Δ d g ζ n8:=⟨K.hs A.hs,K.dct A.dc,K.rows A.rw⟩
theorem Dy(o:Pa E)(A:Pg a b s P Δ d g ζ n8)(p:t[5]?=some (oR b))(f:t[8]?=some (oS d))(e:t[13]?=some (oR s))(r:d∈Δ)(J:g.Nodup)(K:g.length<=5)(L:∀x∈g,x∈Δ)(Q:Q0 (aY Δ λm=>if m=d then g else ζ m))(M:Ii (aY Δ λm=>if m=d then g else ζ m)):
  ∃q c aA,Vj E t a=.ok (.ref q) aA/\aA[q]?=some (.lst (c.map .str))/\c.length<=12/\jv (aY Δ λm=>if m=d then g else ζ m) c=true/\mf a aA:=by
 refine br (A.rw.at (by rwa[aR])) λj u _ h=>?_
 rw[cD r,if_pos rfl]at h
 have y:(mN (aN .list) (ae (m2 aK (aa 13) (aa 8)) ag)) t a=.ok (.ref a.length) (a++[.lst (g.map .str)]):=by
  rw[dJ,a5,kY (ix e) (ix f),et A.dc u,au,bh,au];exact cA h
 have i:(if d=d then g else ζ d)=g:=if_pos rfl
 have k:af [] a (a++[Cell.lst (g.map .str)]++[Cell.lst [Ig (d,a.length)]]):=af.app.trans af.app;have T:=Ku (a:=a) (w:=aY Δ ζ) (ζ:=λm=>if m=d then g else ζ m) (by rwa[aR]) (by simp_all) (by simp_all) (by rwa[i,aR])
 rw[i]at T
 obtain⟨z,⟨q,c,B,C,F,l,_⟩,G⟩:=o _ b _ _ _ n8 _ Tr (A.hs.keep k) T (by rw[aR];have:=Q.nd;rwa[aR]at this) (λm n H=>by
  rw[aR]at n;rw[cD n]
  simp_all) (by rwa[aR]) (λ_ _=>trivial) (by rwa[aR])
 rw[aR]at l
 exact⟨q,c,_,call2 p (by
  unfold Yo;rw[dJ,a5,dJ,a5,ix f,au,a5,y,au,bh,au,au,au]
  show(((ay.ok (D.tup [.str d,.ref a.length]) (a++[Cell.lst (g.map .str)])).bind λx I=>_).bind _)=_
  rw[au,bh,au,au]
  show aV [Ig (d,a.length)] _=_
  rw[fO,if_pos (aW (by simp))]
  simp) B,C,F,l,(k.trans G).kpf⟩
def Yp(a):=aE 14 (Vj a)
def Yq(a b):=(oG (m2 (aF .Is) (aa 14) (ah .non)) (oG (eN (mN (aQ a) (ae (aa 13) (ae (aa 14) ag)))) (eN (mN (aQ a) (ae (aa 13) (ae (mN (aQ b) (ae (ah (.int 0)) (ae (aa 13) ag))) ag))))))
def Yr(a):=aE 15 (Vj a)
def Ys(a):=(oG (m2 (aF .Is) (aa 15) (ah .non)) (eN (mN (aQ a) (ae (aa 13) (ae (aa 15) ag)))))
def Yt(a SP):=(oG (eN (mN (aQ a) (ae (aa 13) (ae (aa 7) ag)))) (eN (mN (aQ SP) (ae (aa 13) (ae (aa 14) (ae (aa 7) ag))))))
def Vk(a b c SP):=ak (Yp a) (ak (dY (Yq b a) rF aq) (ak (Yr a) (ak (dY (Ys b) rF aq) (ak (dY (Yt c SP) rF aq) aq))))
theorem Lr{V:Option D->Option D->bo}(C:Pa E)(hL:RJ E)(hR:He J0)(hA:Hj n5)(hS:Hk M5)(A:Pg a b s P Δ d g ζ n8)(k:d∈Δ)(F:g.Nodup)(G:g.length<=5)(H:∀x∈g,x∈Δ)(f:Q0 (aY Δ λm=>if m=d then g else ζ m))(n:Ii (aY Δ λm=>if m=d then g else ζ m))(I:∀c e,(V c e)[5]?=some (oR b))(v7:∀c e,(V c e)[7]?=some (some (.int Q)))(J:∀c e,(V c e)[8]?=some (oS d))(i:∀c e,(V c e)[13]?=some (oR s))(a0:∀c e,(V c e)[14]?=some c)(b0:∀c e,(V c e)[15]?=some e)(c0:∀c e h,(V c e).set 14 h=V h e)(e0:∀c e h,(V c e).set 15 h=V c h):
  ∃o p aA,Vk E J0 n5 M5 (V d0 P0) a=.nx (V o p) aA/\mf a aA:=by
 refine eg (Dy (t:=V d0 P0) C A (I ..) (J ..) (i ..) k F G H f n) λq K g0 e1 L M b1 N=>?_
 have r:=A.kpf N;obtain⟨h0,e2,O⟩:=hR _ s q P _ Tr K r.dc r.rw L (cO M);have l:=r.kpf O.kpf;obtain⟨i0,⟨q3,j0,e3,g3,l3,b3,_⟩,K3,u⟩:=hL _ s P _ Tr l.dc l.rw f n;have R:=Lq l.dc K3 u;have y:=l.kpf R;obtain⟨l0,e4,S⟩:=hR _ s q3 P _ Tr _ y.dc y.rw g3 (cO l3);have T:=y.kpf S.kpf;refine eg (Dy (t:=V (oR q) P0) C T (I ..) (J ..) (i ..) k F G H f n) λU m0 n0 e5 g5 l5 b5 X=>?_
 have z:=T.kpf X;obtain⟨o0,e6,Y⟩:=hR _ s U P _ Tr _ z.dc z.rw g5 (cO l5);have B:=z.kpf Y.kpf;obtain⟨p0,e7,Z⟩:=hA _ s P _ Tr Q B.dc B.rw f;have A7:=B.kpf Z.kpf;have j:=((((O.kpf.trans R).trans S.kpf).trans X).trans Y.kpf).trans Z.kpf
 obtain⟨q0,e8,K8⟩:=hS _ s q P _ Tr Q K A7.dc A7.rw f.few (λw=>by
  rw[adV.mp w]at k;cases k) (j.lst L) M
 refine⟨oR q,oR U,_,?_,(N.trans j).trans K8.kpf⟩;unfold Vk Yp Yq Yr Ys Yt
 simp_all
def DY(a b c):=(oG (m2 (aF .NotEq) (bA "House" "kinds" a (aa 0) ag) (mN aV ag)) (oG (m2 (aF .NotEq) (bA "House" "kinds" a (bA "House" "copied" b (aa 0) ag) ag) (mN aV ag)) (m2 (aF .NotEq) (mN (aQ c) (ae bC ag)) bC)))
def Vl(b a):=(ij (m2 (aF .Is) (mN (aQ b) (ae bC ag)) (ah .non)) (ij (m2 (aF .Is) (mN (aQ a) (ae bC (ae (mN aV ag) ag))) (ah (.bl false))) (m2 (aF .Is) (mN (aQ a) (ae bC (ae (mN aV (ae (ah (.str "a")) ag)) ag))) (ah (.bl false)))))
def RT(a b TA c d e f g):=
 (ak (aE 0 (mN (nI "House" a) ag))
 (ak (cJ (bA "House" "may_turn" b (aa 0) (ae (mN aV ag) ag)))
 (ak (cJ (bA "House" "turn_all" TA (aa 0) (ae (mN aV ag) ag)))
 (ak (dY (DY c d e) rF aq)
 (ak (bU (Vl f g))
 aq)))))
theorem Hl(f:p t a=.ok (.ref b) T)(H:bR ς T b w ζ)(j:([("elders",D.ref 0),("lines",D.ref 0)]:List (Str×D)).lookup d=none):bA "House" d E p u0 t a=(u0 t T).bind λxs c=>pQ (E (.ref b::xs) c):=by
 refine bc H λe l g h i k m n o=>?_
 refine xH f i ?_
 simp_all
theorem Dz:Gd []:=⟨⟨by simp[nms],by simp[nms],λ_=>0,by simp[nms]⟩,by simp,by simp[nms],by simp[nms]⟩
theorem Ls:Q0 []:=⟨by simp[nms],by simp[nms],by simp[nms],by simp[nms],by simp⟩
theorem xZ:DH (a++[.lst []]) a.length [] [] ζ:=⟨aj,by simp,by simp,by simp⟩
theorem Yu(f:tY E)(g:p t a=.ok (.ref b) T)(h:af [] a T)(H:bR ς T b [] ζ):∃aA,(m2 (aF .NotEq) (bA "House" "kinds" E p ag) (mN aV ag)) t a=.ok (.bl false) aA/\af [] a aA:=by
 refine a8 (f _ b [] ζ ς H) λk c m i j _=>?_
 have e:af [] _ (c++[Cell.lst []]):=af.app;have l:(c++[Cell.lst []])[c.length]?=some (.lst (([]).map .str)):=aj;refine⟨_,?_,(h.trans j).trans e⟩
 have m1:bA "House" "kinds" E p ag t a=.ok (.ref k) c:=by
  rw[Hl g H (by decide)]
  simp_all
 have d:mN aV ag t c=.ok _ _:=rfl;rw[dj,m1,au,d,au,ka (e.get _ _ i (by simp)) l]
 rfl
theorem Lu(i:tY E)(q:Gs J0)(r:CF n5)(H:bR Tr a b [] ζ):∃aA,DY E J0 n5 [oR b] a=.ok (.bl false) aA/\af [] a aA:=by
 obtain⟨f,I,j⟩:=Yu (t:=[oR b]) (p:=aa 0) i rfl af.refl H;have m:=H.keep j;refine a8 (q f b [] ζ Tr m) λk s J u w _=>?_
 obtain⟨d,K,x⟩:=Yu (t:=[oR b]) (p:=bA "House" "copied" J0 (aa 0) ag) i (by
  rw[dv m rfl (by decide)]
  simp_all) w u
 have y:af [] d (d++[Cell.dK []]):=af.app;obtain⟨l,z,e,A,B,C,D,_,_⟩:=r _ d.length [] [] Tr (λ_=>[]) (.inl aj) .nil Dz (by intro n hn;simp[nms]at hn) (by simp[nms])
 have g:af [] e (e++[Cell.dK []]):=af.app;have h:af [] d e:=⟨by grind,λk c o _=>D.get k c (y.get k c o (by simp)) (by have:=bb o;simp;exact O' this)⟩
 have L:(m2 (aF .NotEq) (mN (aQ n5) (ae bC ag)) bC) [oR b] d=.ok (.bl false) (e++[Cell.dK []]):=by
  have F:(mN (aQ n5) (ae bC ag)) [oR b] d=.ok (.ref l) e:=by
   show pQ _=_
   rw[A];rfl
  have G:bC [oR b] e=.ok _ _:=rfl;rw[dj,F,au,G,au];exact uj (f9:=Tr) (.inl (g.get _ _ B (by simp))) (C.keep g (by simp)) (.inl aj) .nil rfl (by simp[aY,nms])
 refine⟨_,?_,(j.trans x).trans (h.trans g)⟩;unfold DY
 simp_all
theorem Yv(d:DI E)(k:∀a,p t a=.ok (.ref a.length) (a++[.lst (g.map .str)]))(e:g.length<=900)(l:jv [] g=false):∃aA,(m2 (aF .Is) (mN (aQ E) (ae bC (ae p ag))) (ah (.bl false))) t a=.ok (.bl true) aA/\af [] a aA:=by
 have f:af [] a (a++[Cell.dK []]):=af.app;have h:(a++[Cell.dK []])[a.length]?=some _:=aj;have m:bC t a=.ok _ _:=rfl;generalize a++[Cell.dK []]=b at *;have c:af [] _ (b++[Cell.lst (g.map .str)]):=af.app;obtain⟨i,n,j⟩:=d _ _ _ [] [] Tr g (.inl (c.get _ _ h (by simp))) .nil aj e
 refine⟨_,?_,(f.trans c).trans j⟩
 simp_all
theorem Lv(i:GW E)(f:DI J0):∃aA,Vl E J0 t a=.ok (.bl true) aA/\af [] a aA:=by
 have j:af [] a (a++[Cell.dK []]):=af.app;obtain⟨d,b,l,m,_,o⟩:=i _ _ [] [] Tr (.inl aj) .nil Ls;have e:af [] a _:=⟨by grind,λk c h _=>m.get k c (j.get k c h (by simp)) (by have:=bb h;simp;exact O' this)⟩
 rcases o with ⟨rfl,_⟩|⟨⟨n,q,_⟩,_⟩
 .obtain⟨r,x,s⟩:=Yv (t:=t) (p:=mN aV ag) (g:=[]) f (λ_=>rfl) (by simp) rfl
  obtain⟨u,y,w⟩:=Yv (t:=t) (p:=mN aV (ae (ah _) ag)) (g:=["a"]) f (λ_=>rfl) (by simp) (by rfl)
  refine⟨_,?_,(e.trans s).trans w⟩
  have z:(m2 (aF .Is) (mN (aQ E) (ae bC ag)) (ah .non)) t a=.ok (.bl true) b:=by
   have:(mN (aQ E) (ae bC ag)) t a=.ok .non b:=by
    show pQ _=_
    rw[l];rfl
   simp_all
  unfold Vl
  simp_all
 .simp[nms]at q
def Vm(c:aU):=∀b,∃a,c [] b=.ok (.bl true) a/\af [] b a
theorem Ph{i j l}(x:CI E)(y:zx J0)(z:Vc n5)(A:tY M5)(B:Gs o9)(C:CF i)(D:GW j)(F:DI l):Vm (bN 1 0 (RT E J0 n5 M5 o9 i j l)):=by
 intro d;rw[ba (by rfl)]
 have N:aZ 1 ([])=[none]:=rfl;refine br (x d (λ_=>[]) Tr) λa O m o=>?_
 have P:aE 0 (mN (nI "House" E) ag) [none] d=.nx [oR d.length] a:=by
  simp_all
 generalize Q:d.length=h at *;have p:af [] _ (a++[Cell.lst []]):=af.app;have q:=m.keep p;obtain⟨b,R,r⟩:=y _ h _ [] [] _ (λ_=>[]) Tr q xZ
 have S:cJ (bA "House" "may_turn" J0 (aa 0) (ae (mN aV ag) ag)) [oR h] a=.nx [oR h] b:=by
  rw[bW,dv m rfl (by decide)]
  show cb (pQ _) _=_
  simp_all
 have s:=q.keep r;have u:af [] _ (b++[Cell.lst []]):=af.app;refine br (z _ h _ [] [] _ (λ_=>[]) (λ_=>[]) Tr (s.keep u) xZ (by simp[nms]) (by simp[nms]) Dz (by intro n G;simp[aY,nms]at G) (by simp[nms]) (λ_ _=>trivial)) λf T H w=>?_
 have U:cJ (bA "House" "turn_all" n5 (aa 0) (ae (mN aV ag) ag)) [oR h] b=.nx [oR h] f:=by
  rw[bW,dv s rfl (by decide)]
  show cb (pQ _) _=_
  simp_all
 have e:=(p.trans r).trans u;have g:af [] d _:=⟨by have:=o.len;have:=e.len;have:=w.len;omega,λk c I _=>w.get k c (e.get k c (o.get k c I (by simp)) (by simp)) (by grind)⟩
 obtain⟨J,V,K⟩:=Lu A B C H;obtain⟨L,X,M⟩:=Lv (t:=[oR h]) D F;refine⟨_,?_,(g.trans K).trans M⟩;unfold RT
 simp_all
def RW(C:List D->Out Rs):=(mN (cE C) (ae (aa 0) (ae (ah (.int 20)) ag)))
def Yw(C:List D->Out Rs)(a SP):=(oG (eN (mN (aQ a) (ae (aa 3) (ae (RW C) ag)))) (eN (mN (aQ SP) (ae (aa 3) (ae (cp (aa 2) true (ah .non) false (ah (.int 2))) (ae (RW C) ag))))))
def Yx(a b):=(ij (m2 (aF .Eq) (bA "House" "line" a (aa 2) (ae (aa 0) ag)) (m2 aK (aa 3) (aa 0))) (m2 (aF .Eq) (bA "House" "elders_of" b (aa 2) (ae (aa 0) ag)) (m2 aK (aa 1) (aa 0))))
def Vn(a b):=(mN (aN .all) (ae (bB (Yx a b) true (ah .non) (bg (aa 2)) 0 [3,5,4]) ag))
def Vo(a):=(m2 (aF .NotEq) (bA "House" "kinds" a (aa 5) ag) (aa 2))
def Hm(F C:List D->Out Rs)(b c d e f a SP g h i j k l):=
 (ak (aE 1 (RB C))
 (ak (aE 2 (Rx C b))
 (ak (BI [3,4] (UL c d))
 (ak (aE 5 (mN (aQ e) (ae (aa 3) ag)))
 (ak (dY (eN (mN (aQ f) ag)) rF aq)
 (ak (dY (Yw C a SP) rF aq)
 (ak (dI (cY 6) (di (ae (ah (.int 4)) ag)) (UZ F C g (Vk h i a SP)))
 (ak (dY (Vo j) rF aq)
 (ak (bU (Vn k l))
 aq)))))))))
noncomputable def n10:bo:=[none,none,none,none,none,none,none,none,none,none]
theorem Im(c:p t a=.ok (.ref b) T)(d:T[b]?=some (.lst (g.map .str)))(e:X t T=.ok (.ref s) T)(f:T[s]?=some (.lst (g.map .str))):m2 (aF .Eq) p X t a=.ok (.bl true) T:=by
 rw[kY c e,mH d f,decide_eq_true rfl]
theorem Lw(y:Gq E)(z:GQ J0)(H:Hand a Ξ b L5 g w ζ)(T:bR Tr a s w ζ)(A:g.length<=12):
  ∃aA,Vn E J0 (VE C5 z8 Ξ b L5 s t) a=.ok (.bl true) aA/\af [] a aA:=by
 have i:bg (aa 2) (VE C5 z8 Ξ b L5 s t) a=.ok (.seq (.ref Ξ)) a:=by
  exact aM (by rw[ax,av H.nx])
 obtain⟨B,C,F⟩:=H.el;obtain⟨G,I,J⟩:=H.ln
 obtain⟨c,Z,M⟩:=JH (p:=Yx E J0) (X:=ah .non) (L:=[3,5,4]) (Q6:=λ_=>.bl _) (λc=>af [] a c) i af.refl (λc K=>by rw[bw,ax,av (K.get _ _ H.nx (by simp))]) (λd l c K=>by
  obtain⟨n,N,rfl⟩:=ë.mp l;have f:n∈nms w:=by rwa[H.eq]
  have r:=T.keep K;refine a8 (y _ s w ζ Tr n r f) λk m O P Q _=>?_
  have e:=K.trans Q;refine br ((J.keep e (by simp)).at (by rwa[aR])) λj R _ u=>?_
  rw[cD N]at u;have x:=T.keep e;refine a8 (z _ s w ζ Tr n x f) λk3 S U V Y _=>?_
  have h:=e.trans Y;refine br ((F.keep h (by simp)).at f) λj3 o _ q=>?_
  exact⟨_,OV (Im (by
   rw[dv r rfl (by decide)]
   show pQ (E [.ref s,.str n] c)=_
   rw[O];rfl) P (et (d:=n) (I.keep e (by simp)) R) u) (Im (by
   rw[dv x rfl (by decide)]
   show pQ (J0 [.ref s,.str n] m)=_
   rw[U];rfl) V (et (d:=n) (C.keep h (by simp)) o) q),h⟩) (by simp;exact cO A)
 have b:(g.map D.str).map (λ_=>D.bl true)=(g.map λ_=>true).map .bl:=by simp
 have c2:=mI (a:=c++[Cell.lst ((g.map λ_=>true).map _)]) aj
 refine⟨c++[Cell.lst ((g.map λ_=>true).map .bl)],?_,M.trans af.app⟩
 unfold Vn
 simp_all
theorem DA{AS SP HI RF RU KD LN EO}(b0:fK F4 W1)(B:h9 E6 C8)(hN:GO E)(hC:GI J0)(hR:GP n5)(hB:GK M5)(hO:Vm o9)(hA:Hj AS)(hS:Hk SP)(hI:GY HI)(hF:Pa RF)(hL:RJ RF)(hU:He RU)(hK:tY KD)(c0:Gq LN)(hE:GQ EO)(g):
  ∃aA,bN 16 1 (Hm W1 C8 E J0 n5 M5 o9 AS SP HI RF RU KD LN EO) [SC g] []=.ok (.bl true) aA:=by
 rw[ba (by rfl)]
 have e0:aZ 16 [SC g]=some _::none::none::none::none::none::n10:=rfl;rw[e0];obtain⟨m,P,m1,G,em,K0⟩:=Kx (t:=some _::none::none::none::none::none::n10) B rfl;have r1:aE 1 (RB C8) (some (SC g)::none::none::none::none::none::n10) []=.nx (some (SC g)::oI m::none::none::none::none::n10) P:=by rw[bj,em];rfl
 obtain⟨x,e,l,xs,f,L,d0,q0,e1,e2,H2,H⟩:=OU B hN hC hR m1 G;have r2:aE 2 (Rx C8 E) (some (SC g)::oI m::none::none::none::none::n10) P=.nx (some (SC g)::oI m::oR x::none::none::none::n10) d0:=by rw[bj,e1];rfl
 refine a8 (Dg hB H2) λh S e3 T3 D _=>?_
 have g0:aY xs (aL f)=f:=by rw[←D.eq];exact ub D.UD.nd
 have Q:=Kw D.UD;obtain⟨T,e4,K4⟩:=hO S;have H4:=D.keep K4;have T4:=T3.keep K4;obtain⟨U,d1,d2⟩:=H4.el;have h0:C8 [SC g,.int 20]=.ok _:=B g 20;have hc:∀Ω,RW C8 (VE g m x e l h n10) Ω=.ok (.int (E6 g 20)) Ω:=λΩ=>by simp[RW,VE,n10,h0]
 obtain⟨k,e5,K5⟩:=hA T e U f Tr _ d1 d2 Q;have H5:=H4.keep K5;have s6:=kO (s:=2) H5.nx;have K6:af [] k (k++[Cell.lst ((xs.take 2).map .str)]):=af.app;have I:=K5.trans K6
 obtain⟨C,e7,K7⟩:=hS _ e _ U f Tr _ _ (d1.keep I (by simp)) (d2.keep I (by simp)) Q.few (λw=>by
  have:=D.pos;have h2:=D.eq;rw[w]at h2;rw[←h2]at this;simp[nms]at this) aj (by simp;exact B' (B' (ŧ _ _) (R' H)) G)
 have r6:Yw C8 AS SP _ T=.ok _ C:=Kz (xV (call2 rfl (hc _) e5)) (xV (by
  have t2:(cp (aa 2) true (ah .non) false (ah (.int 2))) (VE g m x e l h n10) k=.ok (.ref k.length) (k++[Cell.lst ((xs.take 2).map .str)]):=s6;rw[dJ,a5,ix (by rfl),au,a5,t2,au,a5,hc,au,bh,au,au,au,au,tS,e7]
  rfl))
 have X:=I.trans K7;have H7:=H4.keep X;have T7:=T4.keep X;have i0:di (ae (ah (.int 4)) ag) (VE g m x e l h n10) C=.ok (.ints 0 4) C:=rfl;unfold Hm
 rw[vJ r1,vJ r2,vJ (by
  unfold BI;rw[e2];rfl),vJ (JG:=VE g m x e l h n10) (Di (Ij rfl e3)),vJ (Ky (xV (by
  show pQ (o9 [] S)=_
  rw[e4];rfl))),vJ (Ky r6),ai,cq,i0,cx]
 refine bE (R:=λr=>∃aA,fb (sq r _)=.ok _ aA) (λi ρ j=>(∃a6 Y Z a9 o p q u y A,ρ=VE g m x e l h [a6,Y,Z,a9,o,p,q,u,y,A])/\mf C j) (λ_ _ _ _=>rfl) ?_ ?_ fuel 0 _ _ (by rw[cR];unfold fuel;omega) (Ë _) ⟨⟨_,_,_,_,_,_,_,_,_,_,rfl⟩,mf.refl⟩
 .rintro i d ρ j hd ⟨⟨a6,Y,Z,a9,o,p,q,u,y,A,rfl⟩,K⟩
  obtain⟨rfl,hi⟩:=eF hd;refine⟨VE g m x e l h [some _,Y,Z,a9,o,p,q,u,y,A],rfl,?_⟩;rw[aaw];have M:=K.hand H7;have N:=K.hs T7;refine bD M.el λp0 d8 w8=>?_
  rw[←g0]at w8 N Q;obtain⟨c,n,r,z,kv,b9,j0,l0,m0,a0,e9,hn,n0,Q9,gz,R9,i1,i2,i3,O,_⟩:=GZ b0 B hI M.nx H m1 d8 w8 Q (λn hn=>OT D.UD (by rw[D.eq];exact hn)) _
  obtain⟨r0,s0,F,J,o0⟩:=Lr (V:=λa b=>VE g m x e l h [oI i,some _,oS n,b9,j0,l0,m0,oR z,a,b]) hF hL hU hA hS ⟨N.keep O,.inl gz,R9⟩ hn i1 i2 i3 Q9 n0 (λ_ _=>rfl) (λ_ _=>rfl) (λ_ _=>rfl) (λ_ _=>rfl) (λ_ _=>rfl) (λ_ _=>rfl) (λ_ _ _=>rfl) λ_ _ _=>rfl
  rw[e9,J];exact⟨⟨_,_,_,_,_,_,_,_,_,_,rfl⟩,(K.trans O.kpf).trans o0⟩
 .rintro ρ j ⟨⟨a6,Y,Z,a9,o,p,q,u,y,A,rfl⟩,K⟩
  have M:=K.hand H7;have N:=K.hs T7;refine a8 (hK j h f L Tr N) λk9 a0 e9 g9 O _=>?_
  rw[M.eq]at g9
  have r9:Vo KD (VE g m x e l h [a6,Y,Z,a9,o,p,q,u,y,A]) j=.ok (.bl false) a0:=by
   unfold Vo;rw[kY (by
   rw[dv N rfl (by decide)]
   show pQ (KD [.ref h] j)=_
   rw[e9];rfl) (ix (by rfl)),ka g9 (O.get _ _ M.nx (by simp)),decide_eq_true rfl]
   rfl
  obtain⟨F,J,_⟩:=Lw c0 hE (M.keep O) (N.keep O) (B' (R' H) G);refine⟨F,?_⟩;rw[aH,vJ (Ky r9),ai,ff,J];rfl
theorem x4(A:Acy w):∀n∈nms w,∃a,kS w n a:=by
 obtain⟨d,e⟩:=A.rk
 have c:∀(k:Nat) (n:Str),d n<k->n∈nms w->∃a,kS w n a:=by
  intro k
  induction k with
  |zero=>simp
  |succ k f=>exact λn h b=>vA b λx g=>f x (by grind) (A.el n b x g)
 exact λn b=>c _ n (ţ _) b
theorem Io(G:Gd w):Q0 w:=⟨G.nd,G.el,G.JO,G.short,G.few⟩
theorem Oq.at(h:Oq E):JP E:=λc e d a P f g G=>by
 refine eg (h c e _ a P f g (Io G)) λi z j k l F b K=>?_
 exact⟨_,z,_,k,l,F,λn m=>(vB F b).mpr (x4 G.toAcy n m),K⟩
theorem GW.at(h:GW E):JQ E:=λb e c a P f g G=>by
 obtain⟨d,i,k,l,m,⟨rfl,_⟩|⟨⟨n,j,z⟩,_⟩⟩:=h b e _ a P f g (Io G)
 .simp_all
 .exact absurd (x4 G.toAcy n j).choose_spec (z _)
def Ma(a):=mN (λb c=>aQ a (b++[.int 0]) c) (ae (mN (aN .list) (ae (aa 1) ag)) ag)
def Vp(O):=bB (mN (aQ O) (ae (aa 0) (ae (m2 (a7 .Add) (aa 1) (ah (.int 1))) ag))) true (ah .non) (bg (aa 0)) 0 [1]
def zC(O):=
 (ak (dY (m2 (aF .Eq) (aa 1) (ah (.int 8)))
 (ak (bU (aa 0))
 aq)
 aq)
 (ak (dY (m1 (fx .list) (aa 0))
 (ak (bU (Vp O))
 aq)
 aq)
 (ak (dY (m1 (fx .tuple) (aa 0))
 (ak (bU (mN (aN .tuple) (ae (Vp O) ag)))
 aq)
 aq)
 (ak (dY (m1 (fx .dict) (aa 0))
 (ak cT
 aq)
 aq)
 (ak (bU (aa 0))
 aq)))))
noncomputable def isA:D->Bool
 |.str _=>true
 |.int _=>true
 |_=>false
variable{D3:Ty}
theorem Hn(h:a[b]?=some (.lst q)):fx D3 (.ref b) a=.ok (.bl (D3==.list)) a:=by
 unfold fx;rw[FP];simp only[Fq,h];rfl
theorem Ho(c:(Q==8)=false)(b:isA m=true):bN 2 2 (zC E) [m,.int Q] a=.ok m a:=by
 show fb (zC E [some m,some _] a)=_
 have d:fx .list m a=.ok (.bl false) a:=by cases m<;>first|rfl|cases b
 have e:fx .tuple m a=.ok (.bl false) a:=by cases m<;>first|rfl|cases b
 have f:fx .dict m a=.ok (.bl false) a:=by cases m<;>first|rfl|cases b
 simp[zC,d,e,f,(by simpa using c)]
theorem Hq(c:a[b]?=some (.lst (g.map .str)))(f:g.length<=900):bN 2 2 (zC (bN 2 2 (zC E))) [.ref b,.int 0] a=.ok (.ref a.length) (a++[.lst (g.map .str)]):=by
 show fb (zC _ [some _,some _] a)=_
 have e:=du (t:=[some _,some (.int 0)]) (p:=mN (aQ (bN 2 2 (zC E))) (ae (aa 0) (ae (m2 (a7 .Add) (aa 1) (ah (.int 1))) ag))) (v:=true) (X:=ah .non) (L:=[1]) (Q6:=λd=>d) (B1:=bg (aa 0)) (aM (by rw[ax,av c])) (by rw[bw,ax,av c]) (λd _=>rfl) (λd h _=>by
  obtain⟨x,_,rfl⟩:=ë.mp h;have:=Ho (a:=a) (E:=E) (Q:=1) (m:=.str x) rfl rfl;simp[ed,this]) (by simp;exact cO f)
 have e:Vp _ _ a=.ok _ _:=e;generalize bN 2 2 _=O1 at *;simp[zC,(Hn (D3:=.list) c),e]
theorem Lx:Yl [("ring",Ma (bN 2 2 (zC (bN 2 2 (zC E)))))]:=by
 intro a q b c d;have f:(a++[Cell.lst (b.map .str)])[a.length]?=some _:=aj;have g:=Hq (E:=E) f (cO d);generalize bN 2 2 _=h at *
 have e:Ma h [none,oR q] a=.ok (.ref (a++[Cell.lst (b.map .str)]).length) (a++[Cell.lst (b.map .str)]++[.lst (b.map .str)]):=by
  unfold Ma;simp[(cA c),g]
 exact⟨_,_,by unfold ke;rw[e];rfl,aj,af.app.trans af.app,by simp⟩
def Pj(st:K'):Option {b:List K' // ∃a c p,st=.Try b (a::c) [] [] p}:=match st with
 |.Try b (a::c) [] [] p=>some ⟨b,a,c,p,rfl⟩
 |_=>none
def DB(T:aO)(a N st):=(Pj st).bind λb=>c_ (jq {T with xt:=false} [] 60 a N 30) b.1
variable{ε:V'}
theorem zD{T}(G:GoodO c i T b ε g)(m:∀x,c.fn x=true)(n:g.Nodup)(o:ε.kind=.function)(st d)(h:DB T ε g st=some d):ju c i r st d:=by
 obtain⟨⟨l,L,M,p,rfl⟩,_,t⟩:=ģ.mp h;intro w y A B C pins s E H D I F;have a:GoodO ((c.mn pins).wish λ_ _=>False) i T b ε g:=G.chg
 have K:eS _ i {T with xt:=false} b ε g:=
  {scope:=a.scope,names:=a.names,calm:=a.calm,room:=a.room,dg:=a.dg,jm:=a.jm,fn:=a.fn,cst:=a.cst,met:=a.met,cls:=a.cls,fld:=a.fld,clo:=a.clo,own:=abI,Np:=λx _ _=>.inl (m x),qQ:=n,kind:=o,k_:=λ_ _ _ h=>h}
 refine abq (â (gu (rm K 30 60) t _ y A B C [] s E H D (I.mn.wish _) F) (λf N z=>?_) (by simp))
 cases f with
 |next=>
  obtain⟨e,j,J,q⟩:=z;exact Ĝ ⟨_,j,J.dR.lx,q⟩
 |ret u=>
  obtain⟨v,e,j,J,k,q⟩:=z;exact⟨v,_,j,J.dR.lx,k,q⟩
 |brk=>obtain⟨e,j,J,q⟩:=z;exact⟨_,j,J.dR.lx,q⟩
 |cont=>obtain⟨e,j,J,q⟩:=z;exact⟨_,j,J.dR.lx,q⟩
end Mir
namespace Vq
open PySem PySem.Spec PyProof.Rows L2 Mir
noncomputable def top(i:Nat):=PySem.Challenge.pw_taglook_k25_loops.main.body.getD i (.Pass ⟨0,0,0,0⟩)
instance clos:h_:=⟨λ_=>⟨"","",bI (top 0),[],ao (top 0),[],[]⟩,λ_=>0⟩
noncomputable def td:List Str:=[]
def Vr:=(((((((({}:aO).lY "MOST_ELDERS" (.int 5)).lY "MOST_KINDS" (.int 12)).lY "MOST_LETTERS" (.int 8)).lY "LETTERS" (.str "abcdefghijklmnopqrstuvwxyz")).lY "DEEPEST" (.int 8)).zg "elders" ["House"]).zg "lines" ["House"])
def Zq:=bN 2 2 n_
def F0:=pureOf Zq
def Vs:=Vr.ze "_law_cell" F0
theorem Zr:Df Vr (top 36) ["_law_script","_law_k"] 2 n_:=⟨by decide +kernel,rfl⟩
def Zs:=bN 8 3 pT
def F1:=pureOf Zs
def Yy:=Vs.ze "_law_mix" F1
theorem Zt:Df Vs (top 37) ["_law_cell_here","_law_turn","_law_many","_law_rest","_law_k","_law_turns","_law_one","_law_two"] 3 pT:=⟨by decide +kernel,rfl⟩
def U0:=Yy
noncomputable def Yz:List Str:=["thing","depth"]
noncomputable def Zu:List Str:=["thing","depth"]
def O0:=bN 2 2 (zC (bN 2 2 (zC λ_ _=>.bad)))
def U1:=U0
def fL:List (Str×EM):=[("ring",Ma O0)]
theorem YA:eU Yz Zu (ao (top 9))=true:=by decide +kernel
theorem YB(O):tQ (U0.dr "own_copy" O) td (top 9) Yz=some (zC O):=rfl
def O1:=bN 1 1 QS
def U2:=U1.dr "is_name" O1
theorem Zv:Df U1 (top 22) ["thing"] 1 QS:=⟨by decide +kernel,rfl⟩
def O2:=bN 4 2 tV
def U3:=U2.dr "place_behind" O2
theorem Zw:Df U2 (top 26) ["left","name","place","row"] 2 tV:=⟨by decide +kernel,rfl⟩
def O3:=bN 2 1 (Ct O2)
def U4:=U3.dr "free_name" O3
theorem Zx:Df U3 (top 25) ["left","row"] 1 (Ct O2):=⟨by decide +kernel,rfl⟩
def O4:=bN 4 1 (Gg cT O3)
def U5:=U4.dr "merged" O4
theorem Zy:Df U4 (top 24) ["rows","left","order","name"] 1 (Gg cT O3):=⟨by decide +kernel,rfl⟩
def O5:=bN 2 2 QI
def U6:=U5.dr "ready_kinds" O5
theorem Zz:Df U5 (top 3) ["elders","order"] 2 QI:=⟨by decide +kernel,rfl⟩
def O6:=bN 3 1 (QK O5)
def U7:=U6.dr "elders_first" O6
theorem ZA:Df U6 (top 2) ["elders","order","ready"] 1 (QK O5):=⟨by decide +kernel,rfl⟩
def O7:=bN 5 1 (QM O6 Rb)
def U8:=U7.dr "loop_of" O7
theorem ZC:Df U7 (top 4) ["elders","order","name","left","met"] 1 (QM O6 Rb):=⟨by decide +kernel,rfl⟩
def O8:=bN 3 3 GR
def U9:=U8.dr "has_elder" O8
theorem ZD:Df U8 (top 6) ["elders","name","elder"] 3 GR:=⟨by decide +kernel,rfl⟩
def O9:=bN 2 2 (RC O8)
def Vt:=U9.dr "is_loop" O9
theorem ZE:Df U9 (top 5) ["elders","ring"] 2 (RC O8):=⟨by decide +kernel,rfl⟩
def Vu:=bN 2 2 QN
def Vv:=Vt.dr "rows_by" Vu
theorem Vx:Df Vt (top 30) ["lines","own_elders"] 2 QN:=⟨by decide +kernel,rfl⟩
noncomputable def Hr:List Str:=["elders","ring","lines","tangles","name","refusal"]
noncomputable def Ly:List Str:=["elders"]
def YC:=U_ fL O7 O6 O4 Vu
def Hs:=bN 6 1 YC
def RX:={Vv with xt:=true}
def Vy:=Vv.dr "lines_of" Hs
theorem Lz:eU Hr Ly (ao (top 29))=true:=by decide +kernel
def Vz:=λa=>(Ie RX (ao (top 29)) Hr "Loop" 1 fL a).or (DB RX (ao (top 29)) Hr a)
theorem VA:c_ (l_ Vz RX td 60 (ao (top 29)) Hr 30) (a_ (top 29))=some YC:=rfl
def Ht:=bN 1 1 Oc
def YD:=Vy.gv "House" "__init__" Ht
theorem VB:Df Vy (inClass (top 34) 0) ["self"] 1 Oc:=⟨by decide +kernel,rfl⟩
def VC:=YD.FL "House" Ht
def DJ:=bN 1 1 QU
def VD:=VC.gv "House" "kinds" DJ
theorem VF:Df VC (inClass (top 34) 5) ["self"] 1 QU:=⟨by decide +kernel,rfl⟩
def DK:=bN 2 2 (QV DJ)
def VG:=VD.gv "House" "check_kind" DK
theorem VH:Df VD (inClass (top 34) 11) ["self","name"] 2 (QV DJ):=⟨by decide +kernel,rfl⟩
def Mb:=bN 4 2 (QW DK)
def VI:=VG.gv "House" "check_elders" Mb
theorem VJ:Df VG (inClass (top 34) 12) ["self","elders","place","elder"] 2 (QW DK):=⟨by decide +kernel,rfl⟩
noncomputable def LA:List Str:=["self","elders","lines"]
noncomputable def LB:List Str:=["self","elders"]
def YE:=Oe Hs
def Ip:=bN 3 2 YE
def VL:={VI with xt:=true}
def VM:=VI.gv "House" "settle" Ip
theorem Pk:eU LA LB (ao (inClass (top 34) 13))=true:=by decide +kernel
def VN:=CZ VL (ao (inClass (top 34) 13)) LA "lines_of" Hs
theorem VO:c_ (l_ VN VL td 60 (ao (inClass (top 34) 13)) LA 30) (a_ (inClass (top 34) 13))=some YE:=rfl
def RY:=bN 5 4 (QY O1 Mb DJ Ip)
def VP:=VM.gv "House" "add" (λa=>RY (a++[.non]))
theorem VQ:Df VM (inClass (top 34) 1) ["self","name","elders","at","order"] 4 (QY O1 Mb DJ Ip):=⟨by decide +kernel,rfl⟩
def RZ:=bN 2 2 (Ry DK)
def VR:=VP.gv "House" "elders_of" RZ
theorem VS:Df VP (inClass (top 34) 6) ["self","name"] 2 (Ry DK):=⟨by decide +kernel,rfl⟩
def R_:=bN 2 2 (QX DK)
def VT:=VR.gv "House" "line" R_
theorem VU:Df VR (inClass (top 34) 7) ["self","name"] 2 (QX DK):=⟨by decide +kernel,rfl⟩
def Pl:=bN 5 2 (RA DK Mb cT)
def VV:=VT.gv "House" "may_turn" Pl
theorem VW:Df VT (inClass (top 34) 4) ["self","turns","turned","name","elders"] 2 (RA DK Mb cT):=⟨by decide +kernel,rfl⟩
noncomputable def LC:List Str:=["self","turns","elders","name","others"]
noncomputable def LD:List Str:=["self","turns"]
def YF:=Dh Pl Ip
def LF:=bN 5 2 YF
def VX:={VV with xt:=true}
def VY:=VV.gv "House" "turn_all" LF
theorem VZ:eU LC LD (ao (inClass (top 34) 3))=true:=by decide +kernel
def V9:=C9 VX (ao (inClass (top 34) 3)) LC "House" "settle" Ip
theorem V_:c_ (l_ V9 VX td 60 (ao (inClass (top 34) 3)) LC 30) (a_ (inClass (top 34) 3))=some YF:=rfl
def Sa:=bN 2 1 (QZ Ht)
def Wa:=VY.gv "House" "copied" Sa
theorem Wb:Df VY (inClass (top 34) 10) ["self","twin"] 1 (QZ Ht):=⟨by decide +kernel,rfl⟩
def Sb:=bN 11 2 (Rt F1)
def Wc:=Wa.dr "_law_names" Sb
theorem Wd:Df Wa (top 38) ["_law_cell_here","_law_many","_law_letters","_law_stem","_law_turn","_law_names_here","_law_size","_law_spot","_law_first","_law_step","_law_signs"] 2 (Rt F1):=⟨by decide +kernel,rfl⟩
def Sd:=bN 9 4 (Rv F1 F0)
def We:=Wc.dr "_law_rows" Sd
theorem Wf:Df Wc (top 39) ["_law_script","_law_start","_law_names_here","_law_most","_law_rows_here","_law_k","_law_cell_here","_law_row","_law_spot"] 4 (Rv F1 F0):=⟨by decide +kernel,rfl⟩
def Se:=bN 7 1 Oj
def Wg:=We.dr "_law_merge" Se
theorem Wh:Df We (top 40) ["_law_rows_here","_law_row","_law_left","_law_told","_law_behind","_law_name","_law_free"] 1 Oj:=⟨by decide +kernel,rfl⟩
def Sf:=bN 7 2 (Rn Se)
def Wi:=Wg.dr "_law_clean" Sf
theorem Wj:Df Wg (top 41) ["_law_names_here","_law_rows_here","_law_elders","_law_lines","_law_k","_law_row","_law_behind"] 2 (Rn Se):=⟨by decide +kernel,rfl⟩
def Sg:=bN 5 1 (Rp Ht RY)
def Wk:=Wi.dr "_law_built" Sg
theorem Wl:Df Wi (top 42) ["_law_elders","_law_house","_law_name","_law_row","_law_handed"] 1 (Rp Ht RY):=⟨by decide +kernel,rfl⟩
def Sh:=bN 1 1 Rq
def Wm:=Wk.dr "_law_texts" Sh
theorem Wn:Df Wk (top 43) ["_law_found"] 1 Rq:=⟨by decide +kernel,rfl⟩
def Iq:=bN 3 2 (RD Sh)
def Wo:=Wm.dr "_law_round" Iq
theorem Wq:Df Wm (top 44) ["_law_elders","_law_ring","_law_k"] 2 (RD Sh):=⟨by decide +kernel,rfl⟩
def Si:=bN 3 1 RE
def Wr:=Wo.dr "_law_has_loop" Si
theorem Ws:Df Wo (top 45) ["_law_elders","_law_left","_law_turn"] 1 RE:=⟨by decide +kernel,rfl⟩
def Sj:=bN 4 2 (Rz F1)
def Wt:=Wr.dr "_law_turned" Sj
theorem Wu:Df Wr (top 46) ["_law_rows_here","_law_cell_here","_law_spot","_law_some"] 2 (Rz F1):=⟨by decide +kernel,rfl⟩
def Sl:=bN 6 2 (RP Sj O7 Si Iq O9)
def YG:=Wt.dr "_law_asked" Sl
theorem Wv:Df Wt (top 47) ["_law_elders","_law_cell_here","_law_names_here","_law_handed","_law_name","_law_found"] 2 (RP Sj O7 Si Iq O9):=⟨by decide +kernel,rfl⟩
noncomputable def Ww:List Str:=["_law_way","_law_thing","_law_found","e"]
noncomputable def Pm:List Str:=["_law_way","_law_thing"]
def ZF:=L_ Hs LF
def Pn:=bN 4 2 ZF
def Wx:=YG.dr "_law_refused" Pn
theorem Wy:eU Ww Pm (ao (top 48))=true:=by decide +kernel
def Sm:=bN 7 3 (RS F1 O9 Iq)
def Wz:=Wx.dr "_law_spoilt" Sm
theorem WA:Df Wx (top 49) ["_law_elders","_law_ring","_law_cell_here","_law_names_here","_law_some","_law_other","_law_found"] 3 (RS F1 O9 Iq):=⟨by decide +kernel,rfl⟩
def Sn:=bN 4 2 RG
def WB:=Wz.dr "_law_heirs" Sn
theorem WC:Df Wz (top 50) ["_law_elders","_law_name","_law_heirs_here","_law_one"] 2 RG:=⟨by decide +kernel,rfl⟩
def So:=bN 1 0 (RT Ht Pl LF DJ Sa Hs O7 O9)
def YH:=WB.dr "_law_nothing" So
theorem WD:Df WB (top 51) ["_law_house"] 0 (RT Ht Pl LF DJ Sa Hs O7 O9):=⟨by decide +kernel,rfl⟩
def Sq:=bN 16 1 (Hm F1 F0 Sb Sf Sd Sg So Sl Sm Sn Pn Iq DJ R_ RZ)
theorem WE:Df YH (top 52) ["_law_script","_law_many","_law_names_here","_law_elders","_law_lines","_law_house","_law_k","_law_cell_here","_law_name","_law_heirs_here","_law_heir","_law_row","_law_at","_law_after","_law_ring","_law_again"] 1 (Hm F1 F0 Sb Sf Sd Sg So Sl Sm Sn Pn Iq DJ R_ RZ):=⟨by decide +kernel,rfl⟩
theorem DC(o:List Int)(V:o.length<=63):∃aA,Sq [.lst (o.map .int)] []=.ok (.bl true) aA:=by
 obtain⟨R,a⟩:∃R,fK R F1:=GN;obtain⟨S,i⟩:∃S,h9 S F0:=⟨_,De⟩;have X:Ou O2:=Ov;have T:FnAt O3:=NQ;have U:Gh O4:=NS T;have p:Gj O5:=NV;have j:Oq O6:=Kd p;have q:JP O6:=j.at;have b:GW O7:=KJ j;have r:JQ O7:=b.at;have s:KA O8:=KC;have e:DI O9:=OX s;have t:Gk Vu:=NX;have k:CF Hs:=NY r q U t;have l:RH Hs:=KZ Lx b;have f:CI Ht:=Od;have c:tY DJ:=N9;have d:vz DK:=N_ c;have m:Gp Mb:=Oa d;have n:xQ Ip:=Of k;have u:KY Ip:=K_ l;have w:JT O1:=NZ;have x:Gr RY:=Oh w m c n;have y:GQ RZ:=OQ d;have z:Gq R_:=Ob d;have g:zx Pl:=OS d m;have A:Vc LF:=Lb g n;have B:Vb LF:=La g u;have C:Gs Sa:=Oi f;have D:GO Sb:=OO a;have E:GP Sd:=OP a i;have F:GA Se:=Oo;have G:GI Sf:=OH F;have H:GK Sg:=OI f x;have I:GL Sh:=OK;have h:He Iq:=Pc I;have J:RK Si:=Pb;have K:Ks Sj:=OR a;have L:Hj Sl:=Pd K b J h e;have M:Pa Pn:=Lg B;have N:RJ Pn:=Lh l;have O:Hk Sm:=Lp a e h;have P:GY Sn:=OZ;have Q:Vm So:=Ph f g A c C k b e;exact DA a i D G E H Q L O P M N h c z y o
def stL:=inClass (top 16) 0
def WG:=rowOf stL 0 "ring"
def YI:=[Ma O0]
theorem ZG:eU ["self","ring"] ["self","ring"] (ao stL)=true:=by decide +kernel
variable{A:À}{B:D'}{G:M'}{b:Nat}{g:List Str}{h:b'}{i:Str->b'->Prop}{y:Ä}{ν:Str->Option f'}{ψ:Å}
theorem LG:bQ y A G ν B fk b h ψ g (cZ i (λ_ _=>.bad)):=
 ⟨λ_ _ _ _ ⟨_,_,_,_,_,_,DD⟩=>DD.elim,λ_ _ _ _ _ _ _ _ _ _ _ _ _ ⟨_,_,_,_,_,_,DD⟩=>DD.elim⟩
variable{C ο:b'}{W5:Û}{θ:aO}
theorem ZH(F:bQ y A G ν B fk b h ψ ["thing","depth"] (cZ (cQ ν) O0))(r:Binds G ψ ["thing","depth"] [.int 0 W5])(s:ν "own_copy"=some (.ref h))(t:Ó G (.ref h)=true)(W:aX y A G ν B θ b):
    ∀g k i e l n,cz b (g.deeper (Ñ "Loop.__init__" (ao stL) i.heap.objs.size C (.ref ο)))->∀p∈[WG].zip YI,bt ((dn fk y A G ν B ("self"::["ring"]) "Loop.__init__" (ao stL) C (.ref ο) g k i l n).k_.mk1 e) (cQ ν) mw p.1.ve p.2:=by
  intro g k i e l n o p u;have d:aX y A G ν B ({}:aO) b:=(aX.start W.dg).mono (Ë b)
  have f:GoodO ((dn fk y A G ν B ["self","ring"] "Loop.__init__" (ao stL) C (.ref ο) g k i l n).k_.mk1 e) (cQ ν) {} b (ao stL) ["self","ring"]:=
    { scope:=rfl,names:=rfl,calm:=rfl,room:=o,dg:=d.dg,fld:=d.fld,cst:=d.cst
      jm:=λx F a=>⟨d.jm x F a⟩,fn:=λx F a=>⟨d.fn x F a⟩,met:=λm c F a=>⟨d.met m c F a⟩,cls:=λc F a=>let ⟨j,w,z⟩:=d.cls c F a;⟨j,w,⟨z⟩⟩,clo:=d.clo }
  rw[Ã.mp (show p∈[(WG,Ma O0)]from u)]
  exact zz (q:=[.int 0]) (N:=[.int 0]) F o rfl s t r (.cons ⟨W5,rfl⟩ .nil) (λ_ _ _=>.one (by simp only[aw])) rfl rfl rfl (jN ((fU 60 _ (ao stL) ["self","ring"] _ (mN (aN .list) (ae (aa 1) ag)) f rfl).1 _) mv rfl)
set_option maxHeartbeats 0 in
variable{D2 S5 W7 x0:b'}{E7 υ:Obj}{M M2 T5 T6 y6 z6:f'}{Q4 m6:Option b'}{Q5:Array (Option f')}{s:Nat}
theorem all_mk{h}(X:G.In h)(c:h.Ns Ì ν)(E2:ν "law"=some (.ref C))(nb:wF G=true)(z0:ß G Ì "DEEPEST"=some (some (.int 8 W5))){q1}(z1:ß G Ì "LETTERS"=some (some (.str "abcdefghijklmnopqrstuvwxyz" q1))){q2}(z2:ß G Ì "MOST_LETTERS"=some (some (.int 8 q2))){q3}(z3:ß G Ì "MOST_KINDS"=some (some (.int 12 q3))){q4}(z4:ß G Ì "MOST_ELDERS"=some (some (.int 5 q4)))(a0:nU G "_law_cell" (top 36) ο ψ){F2}(a1:nU G "_law_mix" (top 37) x0 F2)(S:UJ G "House" D2)(G2:Ù G (.ref D2) "elders"=some none)(I2:Ù G (.ref D2) "lines"=some none){J0}(g0:ß G Ì "own_copy"=some (some (.ref W7)))(J2:G.lookup W7=some ⟨M,Q4,.func (Ý "own_copy" "own_copy" (bI (top 9)) (a_ (top 9)) (ao (top 9)) (.ref S5) M2 T5 y6 m6 z6 T6),Q5⟩)(K2:Ĕ G z6 "own_copy"=true)(T:Ó G (.ref W7)=true)(K0:G.lookup S5=some υ)(L0:υ.data=.seq #[.int 0 J0] b)(N2:fg G "is_name" (top 22))(P2:fg G "place_behind" (top 26))(Q2:fg G "free_name" (top 25))(S2:fg G "merged" (top 24))(T2:fg G "ready_kinds" (top 3))(W2:fg G "elders_first" (top 2))(b3:fg G "loop_of" (top 4))(c3:fg G "has_elder" (top 6))(d3:fg G "is_loop" (top 5))(M0:fg G "rows_by" (top 30)){P0 h0}(l:nU G "lines_of" (top 29) P0 h0)(R0:fg G "_law_names" (top 38))(S0:fg G "_law_rows" (top 39))(T0:fg G "_law_merge" (top 40))(W0:fg G "_law_clean" (top 41))(c1:fg G "_law_built" (top 42))(e1:fg G "_law_texts" (top 43))(f1:fg G "_law_round" (top 44))(g1:fg G "_law_has_loop" (top 45))(j1:fg G "_law_turned" (top 46))(n1:fg G "_law_asked" (top 47)){o1 i0}(q:nU G "_law_refused" (top 48) o1 i0)(r1:fg G "_law_spoilt" (top 49))(t1:fg G "_law_heirs" (top 50))(u1:fg G "_law_nothing" (top 51)){w1 j0}(m:pY G D2 "__init__" "House.__init__" (inClass (top 34) 0) w1 j0)(x1:ud G D2 "kinds" "House.kinds" (inClass (top 34) 5))(y1:ud G D2 "check_kind" "House.check_kind" (inClass (top 34) 11))(A1:ud G D2 "check_elders" "House.check_elders" (inClass (top 34) 12)){B1 l0}(t:pY G D2 "settle" "House.settle" (inClass (top 34) 13) B1 l0)(C1:ud G D2 "elders_of" "House.elders_of" (inClass (top 34) 6))(D1:ud G D2 "line" "House.line" (inClass (top 34) 7))(E1:ud G D2 "may_turn" "House.may_turn" (inClass (top 34) 4)){G1 m0}(u:pY G D2 "turn_all" "House.turn_all" (inClass (top 34) 3) G1 m0)(H1:ud G D2 "copied" "House.copied" (inClass (top 34) 10)){U n n0 z o0 p0 B D F o I}(I1:Ù G (.ref D2) "add"=some (some (.ref n)))(J1:G.lookup n=some ⟨p0,n0,.func (Ý "add" "House.add" (bI (inClass (top 34) 1)) (a_ (inClass (top 34) 1)) (ao (inClass (top 34) 1)) (.ref U) B D F z o I),o0⟩)(K1:Ĕ G o "House.add"=true)(V:Ó G (.ref n)=true)(M1:G.lookup U=some E7)(N1:E7.data=.seq #[.none] s)(e3:Ϧ G (.ref n)=true){J q0 K s0 t0 L N O p P}(P1:ß G Ì "law"=some (some (.ref J)))(Q1:G.lookup J=some ⟨t0,q0,.func (Ý "law" "law" (bI (top 52)) (a_ (top 52)) (ao (top 52)) .none L N O K p P),s0⟩)(R1:Ĕ G p "law"=true)(S1:Ó G (.ref J)=true){Y NL fL cL f3}(Z:Yh G "Loop" "Loop.__init__" stL Y NL fL cL f3)(T1:Ù G (.ref Y) "ring"=some none)(g3:ϑ G (.ref Y) (.ref Y)=some true){u0}(h3:ß G Ì "Heired"=some (some (.ref u0))){v0}(i3:ß G Ì "NoKind"=some (some (.ref v0))){w0}(j3:ß G Ì "NoName"=some (some (.ref w0))){y0}(l3:ß G Ì "Ring"=some (some (.ref y0))){A0}(m3:ß G Ì "Tangled"=some (some (.ref A0))){C0}(n3:ß G Ì "TooMany"=some (some (.ref C0))){D0}(o3:ß G Ì "Twice"=some (some (.ref D0)))(kT:aag G (.ref Y) [.ref u0,.ref v0,.ref w0,.ref y0,.ref A0,.ref C0,.ref D0]=some false)(hV:ß G Ì "ValueError"=some none)(kV:ö G (.ref Y) (.type "ValueError")=some true)(p3:Ù G (.ref D2) "__eq__"=some (some (.builtin "object.__eq__")))(r3:Ă G D2 (.type "object")=some true){B0}(aB:ß G Ì "LookError"=some (some (.ref B0)))(gB:ļ G (.ref B0) "__getattribute__"=some (some (.builtin "type.__getattribute__")))(rB:ac2 G B0 (.type "type")=true)(iB:ac3 G (.ref B0) (.type "type") "__init__"=some (.val (.builtin "ValueError.__init__")))(kB:ö G (.ref Y) (.ref B0)=some true): ∃fd,(∀i v,ľ i fd ⟨[v],[]⟩ [("_law_script",v)])/\∀base,G.In base->base.Ns Ì ν->bQ y A G ν base fk 46 C fd ["_law_script"] (cZ (cQ ν) Sq):=by
 have e:=E2.symm.trans (Ô X c P1);cases e;have b0:=a0.fn.binds (g:=["_law_script","_law_k"]) (pZ (by intros;rfl))
 have b1:=a1.fn.binds (g:=["_law_cell_here","_law_turn","_law_many"]) (UK (by intros;rfl))
 have W1:zl G "own_copy" "own_copy" (top 9) (.ref S5) W7 _:=⟨⟨_,_,_,_,_,_,_,_,_,rfl,J2,K2⟩,T⟩;have Z1:Binds G (Ý "own_copy" "own_copy" (bI (top 9)) (a_ (top 9)) (ao (top 9)) (.ref S5) M2 T5 y6 m6 z6 T6) ["thing","depth"] []:=λi us X hl=>match us,hl with|[_,_],_=>abP X rfl K0 L0 rfl rfl
 have s3:Binds G (Ý "own_copy" "own_copy" (bI (top 9)) (a_ (top 9)) (ao (top 9)) (.ref S5) M2 T5 y6 m6 z6 T6) ["thing","depth"] [.int 0 J0]:=λi us X hl=>by
  match us,hl with
  |[],h=>simp at h
  |[_],_=>exact abP X rfl K0 L0 rfl rfl
  |_::_::_,h=>simp at h
 have Q:=l.fn.binds (g:=Ly) (zy (by intros;rfl))
 have c0:=m.fn.binds (g:=["self"]) (zy (by intros;rfl))
 have d0:=t.fn.binds (g:=LB) (pZ (by intros;rfl))
 have e0:=u.fn.binds (g:=LD) (pZ (by intros;rfl))
 have b2:=q.fn.binds (g:=Pm) (pZ (by intros;rfl))
 have c2:zl G "add" "House.add" (inClass (top 34) 1) (.ref U) n _:=⟨⟨_,_,_,_,_,_,_,_,_,rfl,J1,K1⟩,V⟩
 have e2:Binds G (Ý "add" "House.add" (bI (inClass (top 34) 1)) (a_ (inClass (top 34) 1)) (ao (inClass (top 34) 1)) (.ref U) B D F z o I) ["self","name","elders","at"] [.none]:=λi us hi hl=>by
  match us,hl with
  |[],h=>simp at h
  |[_],h=>simp at h
  |[_,_],h=>simp at h
  |[_,_,_],_=>exact abP hi rfl M1 N1 rfl rfl
  |_::_::_::_::_,h=>simp at h
 have f2:=qB (Θ:=(top 52)) Q1 R1 S1;have XB:XBase G ν "LookError" B0:=⟨Ô X c aB,gB,rB,iB⟩;have bL:=Z.fn.binds (g:=["self","ring"]) (pZ (by intros;rfl))
 have XL:pq G ν Y NL fL cL _ stL "Loop.__init__" "self" ["ring"] [WG]:=⟨⟨_,Z.fn⟩,Z.cv,fJ ZG,Z.cl,bL,λr hr=>by rw[Ã.mp hr];exact T1,by decide +kernel,rfl,rfl,rfl,by decide,by decide,"LookError",B0,[("ring",_,_)],_,_,_,_,_,_,XB,rfl,rfl,rfl,rfl,λr hr Y3=>by rw[Ã.mp hr];rfl,λ_=>rfl⟩
 refine⟨Ý "law" "law" (bI (top 52)) (a_ (top 52)) (ao (top 52)) .none L N O K p P,λi v=>.of_eq rfl,λbase _ _=>?_⟩
 have j:=Ô X c S.ns;have k:=S.cl;have V0:aX y A G ν base ({}:aO) 0:=aX.start (Bf X c nb);have V1:=V0.lY (x:="MOST_ELDERS") (d:=.int 5) (v:=.int 5) (Ô X c z4) ⟨_,rfl⟩ rfl;have V2:=V1.lY (x:="MOST_KINDS") (d:=.int 12) (v:=.int 12) (Ô X c z3) ⟨_,rfl⟩ rfl;have V3:=V2.lY (x:="MOST_LETTERS") (d:=.int 8) (v:=.int 8) (Ô X c z2) ⟨_,rfl⟩ rfl;have V4:=V3.lY (x:="LETTERS") (d:=.str "abcdefghijklmnopqrstuvwxyz") (v:=.str "abcdefghijklmnopqrstuvwxyz") (Ô X c z1) ⟨_,rfl⟩ rfl;have V5:=V4.lY (x:="DEEPEST") (d:=.int 8) (v:=.int 8) (Ô X c z0) ⟨_,rfl⟩ rfl;have V6:=V5.zg (f:="elders") (Cs:=["House"]) (plain1 j k G2);have V7:=V6.zg (f:="lines") (Cs:=["House"]) (plain1 j k I2);have Y0:aX y A G ν base Vr 0:=V7;have Y1:aX y A G ν base Vs 1:=(Y0.mono (ø 0)).ze (x:="_law_cell") (Ô X c a0.ns) a0.fn.kp b0 (xr (Zr.ok Y0 (kf a0.fn))) (W' _);have Y2:aX y A G ν base Yy 2:=(Y1.mono (ø 1)).ze (x:="_law_mix") (Ô X c a1.ns) a1.fn.kp b1 (xr (Zt.ok Y1 (kf a1.fn))) (W' _);have X0:aX y A G ν base U0 2:=Y2;have wA:=X0.dr (x:="own_copy") (Ô X c g0) T Z1 LG;have rA:=kb wA W1 YA (YB _);have wB:=(X0.mono (by decide:2<=3)).dr (x:="own_copy") (Ô X c g0) T Z1 rA
 have r0:bQ y A G ν base fk 5 W7 _ ["thing","depth"] (cZ (cQ ν) O0):=kb wB W1 YA (YB _)
 have t3:∀Ca,cQ ν "House" Ca->Ca=D2:=λCa h=>by
  have e:=(show ν "House"=some (.ref Ca)from h).symm.trans j
  cases e;rfl
 have X1:aX y A G ν base U2 3:=X0.dF X c N2 Zv (zy (by intros;rfl))
 have X2:aX y A G ν base U3 4:=X1.dF X c P2 Zw (pZ (by intros;rfl))
 have X3:aX y A G ν base U4 5:=X2.dF X c Q2 Zx (zy (by intros;rfl))
 have X4:aX y A G ν base U5 6:=X3.dF X c S2 Zy (zy (by intros;rfl))
 have X5:aX y A G ν base U6 7:=X4.dF X c T2 Zz (pZ (by intros;rfl))
 have X6:aX y A G ν base U7 8:=X5.dF X c W2 ZA (zy (by intros;rfl))
 have X7:aX y A G ν base U8 9:=X6.dF X c b3 ZC (zy (by intros;rfl))
 have X8:aX y A G ν base U9 10:=X7.dF X c c3 ZD (UK (by intros;rfl))
 have X9:aX y A G ν base Vt 11:=X8.dF X c d3 ZE (pZ (by intros;rfl))
 have G0:aX y A G ν base Vv 12:=X9.dF X c M0 Vx (pZ (by intros;rfl))
 have g2:aX y A G ν base RX 12:=G0.toXt
 have I0:bQ y A G ν base (jf y A) 15 _ _ Ly (gx (cQ ν) Hs):=rO g2 rfl (kf l.fn) Lz VA (λj2 R outer i H E hr G' w c' h=>by
   rcases Lc h with h|h
   .exact CT (ms:=YI) XL hr (Ô X c Z.a) G' rfl (by simp) (ZH (r0.mono (by decide)) s3 (Ô X c g0) T G0) w c' h
   .exact zD G' (λ_=>rfl) (fJ Lz).nd (fJ Lz).kind w c' h)
 have n2:aX y A G ν base Vy 15:=(G0.mono (by decide:12<=14)).dr (Ô X c l.ns) l.fn.kp Q (vQ I0)
 have r2:=VB.ok n2 (kf m.fn);have u3:aX y A G ν base YD 16:=n2.gv j k m.me c0 r2;have v3:aX y A G ν base VC 17:=u3.FL j ⟨S.ma,m.me.at_,m.me.fn,S.kc⟩ c0 r2 (by decide)
 have w3:aX y A G ν base VD 18:=v3.dM j k x1 VF (zy (by intros;rfl))
 have x3:aX y A G ν base VG 19:=w3.dM j k y1 VH (pZ (by intros;rfl))
 have t2:aX y A G ν base VI 20:=x3.dM j k A1 VJ (pZ (by intros;rfl))
 have u2:aX y A G ν base VL 20:=t2.toXt;have w2:bQ y A G ν base (jf y A) 23 _ _ LB (gx (cQ ν) Ip):=rO u2 rfl (kf t.fn) Pk VO (λj2 R outer i H E hr G' w c' h=>zt G' (fJ Pk).nd (I0.mono (by decide)) (Ô X c l.ns) l.fn.kp Q sG w c' h)
 have x2:aX y A G ν base VM 23:=(t2.mono (by decide:20<=22)).gv j k t.me d0 (vQ w2)
 have y3:=VQ.ok x2 c2;have A3:aX y A G ν base VP 24:=x2.Nq (D4:=[.non]) j k ⟨I1,e3,V⟩ e2 (.cons (show RelV .non ĥ from rfl) .nil) (λ_ _ _=>.one (by simp only[aw])) y3
 have B3:aX y A G ν base VR 25:=A3.dM j k C1 VS (pZ (by intros;rfl))
 have C3:aX y A G ν base VT 26:=B3.dM j k D1 VU (pZ (by intros;rfl))
 have y2:aX y A G ν base VV 27:=C3.dM j k E1 VW (pZ (by intros;rfl))
 have A2:aX y A G ν base VX 27:=y2.toXt;have B2:bQ y A G ν base (jf y A) 30 _ _ LD (gx (cQ ν) LF):=rO A2 rfl (kf u.fn) VZ V_ (λj2 R outer i H E hr G' w c' h=>zu G' t3 k t.me (w2.mono (by decide)) d0 sG w c' h)
 have D3:aX y A G ν base VY 30:=(y2.mono (by decide:27<=29)).gv j k u.me e0 (vQ B2)
 have E3:aX y A G ν base Wa 31:=D3.dM j k H1 Wb (zy (by intros;rfl))
 have F3:aX y A G ν base Wc 32:=E3.dF X c R0 Wd (pZ (by intros;rfl))
 have G3:aX y A G ν base We 33:=F3.dF X c S0 Wf (Zo (by intros;rfl))
 have H3:aX y A G ν base Wg 34:=G3.dF X c T0 Wh (zy (by intros;rfl))
 have I3:aX y A G ν base Wi 35:=H3.dF X c W0 Wj (pZ (by intros;rfl))
 have J3:aX y A G ν base Wk 36:=I3.dF X c c1 Wl (zy (by intros;rfl))
 have K3:aX y A G ν base Wm 37:=J3.dF X c e1 Wn (zy (by intros;rfl))
 have L3:aX y A G ν base Wo 38:=K3.dF X c f1 Wq (pZ (by intros;rfl))
 have M3:aX y A G ν base Wr 39:=L3.dF X c g1 Ws (zy (by intros;rfl))
 have N3:aX y A G ν base Wt 40:=M3.dF X c j1 Wu (pZ (by intros;rfl))
 have C2:aX y A G ν base YG 41:=N3.dF X c n1 Wv (pZ (by intros;rfl))
 have Q3:=Hb (E8:=[("Heired",_),("NoKind",_),("NoName",_),("Ring",_),("Tangled",_),("TooMany",_),("Twice",_)]) (χ:=[.ref u0,.ref v0,.ref w0,.ref y0,.ref A0,.ref C0,.ref D0]) C2 q.fn Wy j k p3 r3 u.me (B2.mono (by decide)) e0 (I0.mono (by decide)) (Ô X c l.ns) l.fn.kp Q (Ô X c Z.a) g3 Z.cl Z.is T1 (by show [ν "Heired",ν "NoKind",ν "NoName",ν "Ring",ν "Tangled",ν "TooMany",ν "Twice"]=_;rw[Ô X c h3,Ô X c i3,Ô X c j3,Ô X c l3,Ô X c m3,Ô X c n3,Ô X c o3];rfl) (by rfl) (by simp) kT (Ô X c aB) kB (adq X c hV) kV (hbd:=rfl) rfl rfl rfl rfl (by decide)
 have R3:aX y A G ν base Wx 42:=C2.dr (Ô X c q.ns) q.fn.kp b2 Q3;have S3:aX y A G ν base Wz 43:=R3.dF X c r1 WA (UK (by intros;rfl))
 have T3:aX y A G ν base WB 44:=S3.dF X c t1 WC (pZ (by intros;rfl))
 have W3:aX y A G ν base YH 45:=T3.dF X c u1 WD (λ_ _ _ _ _ _ us hl=>by rw[adU.mp hl];rfl)
 exact WE.ok W3 (kf f2)
variable{B9:(Str->Option f')->D'->Prop}{M8:À->D'->Prop}{u9:DefRec}
theorem walk{l:acx}{K:ϴ->M'}(o:l.most=some 63)(m:u9.params.defaults=[])(p:∀w h,M8 w h->(K w.params).In h)(q:∀r,sU (K r)=true)(F:∀w i j h,(K w.params).In h->h.Ns Ì i->i u9.name=some (.ref j) ->
   ∃k,(∀s u,ľ s k ⟨[u],[]⟩ [("_law_script",u)])/\∀base,(K w.params).In base->base.Ns Ì i->bQ l.prog w (K w.params) i base fk 46 j k ["_law_script"] (cZ (cQ i) Sq)):
  acy y g B9 M8 l.row.toRowW u9 [] (λf n=>aa4 f n):=
 L2.Eg (b:=63) (s:=46) (d:="_law_script") (CX:=λ_=>fk) (sp:=λw=>Nr Sq) o (by decide) m ⟨rfl,by decide,by decide⟩ p (λw i j h a b c=>let ⟨k,t,x⟩:=F w i j h a b c;⟨k,t,λbase u9 e=>(x base u9 e).imp λn H Q E z=>z (cQ i)⟩) (λw H a A B _ C D=>FK (MW (q w.params) C) (DC A B).choose_spec) λ_ _ _ _ _ z=>z
end Vq
def PySem.W.Fast.tw1242519983492036436:=PySem.Challenge.pw_taglook_k25_loops
theorem PySem.W.Fast.te1242519983492036436:PySem.Challenge.pw_taglook_k25_loops=PySem.W.Fast.tw1242519983492036436:=rfl
structure PySem.W.Fast:Prop where(tw13738632989862370318 tw14386174143697094357 tw16104446699369605952 tw17734768880864382211 tw9779098463780488557 tw3209741736657910017 tw12186517139452412322 tw3778417922637999541 tw1747673305519486023 tw4520542927665799605 tw7921652741353317516 tw3110138990194302230 tw2273302600939941338 tw5447005919179215189 tw18304878547342522990 tw1913275431272386345 tw15739024521873638668 tw1478724108689143104 tw4998016597665612471 tw10966946958751153506 tw7048094613040390674 tw486418102652117122 tw3848456706342984179 tw5889369376979299347 tw15806773792895115937 tw3881819227309296355 tw4135825208770381181 tw6603742333445439993 tw13919405032570527586 tw13366600985244040043 tw4943441402584296432 tw5201986273735771546 tw16063459377102490902 tw3715948710284530783 tw6539080628619081410 tw10703868934174927518 tw15652602618937171808 tw14621618889960773832 tw16689838818565149007 tw13291332262655981885 tw1013383284484400511 tw16493256420030069184 tw2401448864980113950 tw6720691245908396244 tw4440357813323845612 tw1396737689199875191 tw10281368431702073722 tw14184373237763716031 tw1345525418435163639 tw7187692642748198620 tw10215219332371053193 tw3718480054418738113 tw17694155467930833107 tw6900242246447132172 tw13522599672817579121 tw11078082111029273458 tw13524208858872649221 tw532716274473110485 tw373708175895076794 tw15613703045249616837 tw7937465780583628174 tw8074507140208919613 tw1612567533233113044 tw6539240025179621417 tw14417915670138973047 tw6715481745206896193 tw9461272189227060485 tw9117034954341803814 tw1568536391897792599 tw18114144559829844694 tw11740488440700616772 tw12996506505575215828 tw14498437326328597394 tw13085598343895454989 tw15279207918028568381 tw6212059146243272283 tw6852787482871607728 tw9433647303960659503 tw6173693928587017181 tw14106313333046321883 tw3662816256545568172 tw18270539530984049609 tw5786925390980414243 tw578264222950896499 tw9643222665439713760 tw6117856711541547474 tw7495862999549796702 tw11747570084815176213 tw1315298973776714328 tw6471684199653529283 tw2550691622839188017 tw4169252919497796608 tw5505138051941384409 tw13397881679274145768 tw6214669743426200910 tw9418592154696187994 tw154849911586944758 tw18402518419708306770 tw122775696546197842 tw17762178594464867799 tw3395478464918224744 tw11050212892989135253 tw18439904146610334709 tw15712737950652924461 tw216307386215309682 tw9617700607206107371 tw2677633310407723775 tw11375038872382514423 tw3057072480849106516 tw10309449107133068314 tw12966001861530362362 tw2254663583549108333 tw5237898615901821733 tw7558269851469531339 tw322860835581451198 tw1347079488122492819 tw14824566820709135340 tw12244818553123164414 tw14327046924820513604 tw206098490876594469 tw71316837324887551 tw10143715089666157232 tw2252234990199395185 tw9011325270985966178 tw3424545078849911263 tw2934562379468493484 tw8356039969823567092 tw7186795778073530343 tw15641821531160412111 tw15547721881611106784 tw6062479255752174326 tw7056371045551642285 tw8828860380053113266 tw9438820190370256443 tw7456262914179734611 tw7896674192042427473 tw1308840496092618475 tw2331769498535870190 tw14123433999321172841 tw10752244000588266777 tw3183702460658147204 tw5290027182417823123 tw14569129219060318327 tw8874264643716405379 tw13951419282267886078 tw5594520408987871945 tw13451293183239938418 tw17206059832877684700 tw6570207033247656544 tw12038962956077451005 tw4908660862160410159 tw9687095076276934672 tw11066022815620983031 tw1837884486745499128 tw14169408033490038533 tw17267998157660579109 tw6284011088890130192 tw9597872465669816096 tw1244005772595359510 tw12201559133282756726 tw16908677691517810797 tw15202522072609798585 tw6074376972496689821 tw10251026357551426656 tw16664296203795361090 tw8557383884372952907 tw12620233149114614836 tw14334306059950866195 tw7522353922287187047 tw3586185572946411447 tw10015625022056325864 tw959092429349662388 tw8727511588745330514 tw3948455669344885420 tw13437796003952786444 tw8506668736903886752 tw8189316413059714459 tw9657831326146839833 tw8818351432688940392 tw14339580779660440612 tw17072679052457189404 tw7176835112646656564 tw12565958766586621449 tw5796243683431297737 tw3811410006026619242 tw7935042565767845177 tw37996514598446032 tw6529955976643537548 tw6901466342147233072 tw4226714992142559789 tw5914682607698603277 tw18137002624593076755 tw10798156223983454213 tw9725664825631565668 tw11114777855690231125 tw6417169652052817486 tw4583666953579709827 tw2574963177490087179 tw3148914407955957313 tw5528421656494048861 tw17568206420165132538 tw4227322737770891168 tw8894368592869101403 tw7580239360864371407 tw427089763164357842 tw16544724444319412469 tw12297425490077210189 tw6181722430895178110 tw1926102391039686807 tw14795106547108637262 tw17640368773961467063 tw14642795286880085984 tw4583355527384878674 tw11252099095628021379 tw2544539183695395197 tw15157806013199079882 tw1890457279669147370 tw15074752497847855182 tw350937700006752629 tw1716194674648867164 tw13236631989433684014 tw4491846689153123243 tw14827866837043155925 tw4660304682130170904 tw569840784093367303 tw3772525807426955124 tw9326078107918059008 tw14061204404350196780 tw15704966523820878618 tw1269819634464607574 tw4643703137663295235 tw10762938564610555357 tw10316067976355856740 tw15778924391414513311 tw13415545698624631732 tw17220664942464923325 tw11121256481546893408 tw2284793667444072132 tw10895553219707256921 tw3848418631825443432 tw5633192342848585704 tw7338162024252286352 tw13735476968514828809 tw4104113554674903576 tw11348295551918847845 tw763890211550229876 tw9157623234585822189 tw15560516189069054562 tw10155083120843929938 tw2843443694831079638 tw6018721348126285925 tw6551129128454994592 tw18116354614973524379 tw2124408939475066207 tw16260052825509264545 tw10409923627165851277 tw10029534359758630659 tw9151049897525247442 tw4952267944313202662 tw5691786384258925765 tw12284700656949438000 tw12581059256184953320 tw2665790084649344739 tw18392481831531564319 tw13005165196943579402 tw3022379983502424317 tw13013362534794026301 tw11283070531151091072 tw16176427409111352966 tw1036282394142574724 tw13348093818480010038 tw7346204091370373363 tw18058703214468634204 tw6458734803518604099 tw1370296624648164584 tw4704639551279544173 tw13832941893883297028 tw8515491190567285302 tw12569545466832518204 tw4240637075480565716 tw9876379931223768427 tw3024309117436924696 tw11280471966780132279 tw1944264860698110727 tw9018208818206492420:True)
open PySem PySem.W PyProof.Rows
set_option maxRecDepth 100000 in
set_option maxHeartbeats 0 in
theorem PySem.Challenge.cw_taglook_k25_loops_holds : PySem.Challenge.rw_taglook_k25_loops.Holds := by
 w_on;o_law;k_head;(case hw=>w_witness2)
 k_fill
 refine Vq.walk (l:=PySem.Challenge.rw_taglook_k25_loops) rfl rfl (λw h Y=>PySem.W.kIn_of Y) ?hK ?F
 case hK=>intro pm;exact(Eq.refl true)
 case F=>
  intro w mg fa h KX G hmg;refine' Vq.all_mk KX G hmg ?nb ?z0 ?z1 ?z2 ?z3 ?z4 ?a0 ?a1 ?ZI ?ZJ ?ZK ?ZL ?ZM ?ZN ?ZO ?ZP ?ZQ ?ZR ?ZS ?ZT ?ZU ?ZV ?ZW ?ZX ?ZY ?ZZ ?WH ?WI ?WJ ?WK ?WL ?WM ?WN ?WO ?WQ ?WR ?WS ?WT ?WU ?WV ?WW ?WX ?WY ?WZ ?W9 ?W_ ?Xa ?Xb ?Xc ?Xd ?Xe ?Xf ?Xg ?Xh ?Xi ?Xj ?Xk ?Xl ?Z9 ?Xm ?Xn ?Xo ?Xp ?QL ?Z_ ?exL ?h0a ?h1a ?h2a ?h3a ?h4a ?h5a ?h6a ?kT ?hV ?kV ?eq1 ?eq2 ?aB ?gB ?rB ?iB ?kB
  (case nb=>exact(Eq.refl true))
  (case ZI=>refine' ⟨?a,?b,?c,?d,?e,?f,?g⟩;(case a=>k_is);(case b=>k_is);(case c=>k_is);(case d=>k_is);(case e=>k_is);(case f=>k_is);(case g=>k_is))
  (case QL=>refine' Mir.Kt ?aC ?lC ?nC ?tC ?xa ?xb ?xc ?xd ?xe ?xf ?xg ?xh ?xi ?xj ?xk ?lI ?yI ?wI ?ja ?jb ?jc ?jd;(case aC=>k_is);(case lC=>k_is);(case nC=>k_is);(case tC=>exact(Eq.refl true));(case xa=>k_is);(case xb=>exact rfl);(case xc=>exact rfl);(case xd=>k_is);(case xe=>k_is);(case xf=>k_is);(case xg=>k_is);(case xh=>k_is);(case xi=>exact rfl);(case xj=>k_is);(case xk=>k_is);(case lI=>k_is);(case yI=>k_is);(case wI=>k_is);(case ja=>k_is);(case jb=>k_is);(case jc=>k_is);(case jd=>k_is))
  (case ZR |ZS |ZT |ZU |ZV |ZW |ZX |ZY |ZZ |WH |WJ |WK |WL |WM |WN |WO |WQ |WR |WS |WT |WV |WW |WX=>refine' ⟨_,_,Mir.tW ?a ?l ?c ?k⟩;(case a=>k_is);(case l=>k_is);(case c=>k_is);(case k=>k_is))
  (case a0 |a1 |WI |WU=>refine' Mir.tW ?a ?l ?c ?k;(case a=>k_is);(case l=>k_is);(case c=>k_is);(case k=>k_is))
  (case WZ |W9 |W_ |Xb |Xc |Xd |Xf=>refine' ⟨_,_,Mir.uc ?a ?l ?c ?k ?i⟩;(case a=>k_is);(case l=>k_is);(case c=>k_is);(case k=>k_is);(case i=>k_is))
  (case WY |Xa |Xe=>refine' Mir.uc ?a ?l ?c ?k ?i;(case a=>k_is);(case l=>k_is);(case c=>k_is);(case k=>k_is);(case i=>k_is))
  (case z0 |z1 |z2 |z3 |z4 |ZJ |ZK |ZL |ZM |ZN |ZO |ZP |Xg |Xh |Xi |Xj |Xk |Z9 |Xm |Xn |Xo |Xp |Z_ |h0a |h1a |h2a |h3a |h4a |h5a |h6a |hV |eq1 |eq2 |aB |gB |rB |iB=>k_is)
  (case ZQ |Xl=>rfl)
  (case exL |kV |kB=>exact(Eq.refl (some true)))
  (case kT=>exact(Eq.refl (some false)))
