import PyProof.Rows.All
import Wide.All
import OpenK.AllK
import Wide.FinOn
import Lean
import PyProof.EqAt
import PyProof.EqKinds
import PyProof.TupleCall
import PyProof.DictIter
import PyProof.DictWalks
import KE.KDictOf
import PyProof.AttrMissSeq
import PyProof.ListRange
import PyProof.DictItems
import PyProof.SeqRoads2
import PyProof.ExcClass3
import PyProof.ExcAttrAll.ValueError
import KE.KIsAll
import PyProof.ExcBaseAll.ValueError
import PyProof.RulesAs
import KE.KTryMore
import PyProof.NsDelKeeps
import PyProof.DictValues
import PyProof.EnumFor
import PyProof.EnumMake
import PyProof.EnumStmt
import PyProof.Rows.EnumRows
import PyProof.RulesTry
import PyProof.Rows.StrWeight2
import PyProof.AutoListH
import PyProof.Draws
import PyProof.Rows.SortStr
import PyProof.Rows.SortShell
import PyProof.Rows.SortWalk
import PyProof.Rows.StrMeet
import PyProof.FitsReplace
import PyProof.ListCopy
import PyProof.Rows.FactsT1
import PyProof.Rows.FactsT2
import PySem.Challenge.RW_taglook_k27_turned_at_once
set_option Elab.async false
set_option bootstrap.genMatcherCode false
set_option compiler.extract_closed false
set_option genSizeOfSpec false
set_option linter.all false
set_option maxRecDepth 100000
set_option maxHeartbeats 4000000
open PySem renaming Addr->b',Value->f',Shared->g',model->j',wpAny_bind->nc,wpAny->p9,Expr->x',Stmt->D',Heap->F',starEach->I',wpAny_pure->T',Pos->V',sizeLine->XX,Scope->XY,World->X_,FuncData->Yb,Program->Yc,backTo->Ye,Env->Yg,Around->Yi,cLine->Yk,mainGlobals->Yt,wpAny_mono->Yx,codeAny->YB,Tok->YD,compareOp->YF,Paired->YO,swapsWith->YR,Sem->YY,attributeBase->Zc,backToKw->Ze,keywordEach->Zf,CmpOp->Zh,standAt->Zi,wpAny_rule->Zj,holding->Zo,execs->Zu,assignEach->Zv,sizeLine_eq->Zx,getMethod->Zy,codeAny_mono->ZA,wpAny_Call_Name_kw->ZC,codeAny_builtin->ZE,wpAny_holding->ZF,plainId_quiet->ZG,sysModules->ZJ,callWith->ZK,Builtin->ZM,relabel->ZP,bootBuiltins->ZR,wpAny_execs_nil->ZS,pyIter->ZT,foldedSetIterable->ZU,wpAny_truthy_bool->ZV,wpAny_call->ZX,rawInt->À,wpAny_field->Á,wpAny_passesOwn->Ä,pyNext->Å,BindsTo->Æ,bindL->Ç,bindC->È,Slot->É,Keyword->Ê,callerA->Ë,wpAny_ite_split->Ì,setFlight->Í,Flow->Ù,Operator->Û,binaryOp->Ü,setAttr->Ý,bindArgs->Þ,typeLookup->à,getItem->á,call_meets->â,valueAt->ä,stored->å,entryFor->æ,table->ç,excClassObj->è,isTrue->ò,PassesOwn->ó,again->õ,Result->ø,NameKind->ü,mem_of_lookup->ÿ,sliceBounds->Ā,wpAny_specialOf->Ă,DictEntry->Ą,wpAny_typeOf->ą,ItemsOf->Ć,OwnTail->ć,noteFrame->ĉ,BoolOp->ď,wpAny_execs_cons->ĕ,assign->Ė,truthy->ė,behindInMarks->Ě,getAttr->Ġ,leaving->Ĥ,IsPart->ħ,PlainAttrs->Ĩ,typeOf->ĩ,evalArgs_none->Ī,Params->Ĭ,wpAny_isInstance->ĭ,wpAny_pyIter_list->Į,wants->į,wpAny_updateSeq->İ,codeAny_call_builtin->Ĵ,wpAny_setField->ĵ,wpAny_standAt->Ķ,handleBy->ĸ,slicePicked->ĺ,Walks->ļ,wpAny_call_entry->Ŀ,Within->ŉ,builtinsNs->Ŋ,GenState->ŋ,wpAny_Name->Ō,letOwnedTupleGo->ō,lastMarks->Ŏ,wpAny_loadPart->œ,wpAny_nsSet1->ŕ,wpAny_lookBehind->ŗ,pastItsLine_dict->Ř,Arguments->ţ,subscripted->ť,operate->Ŧ,typeIs_str->ŧ,wpAny_Call_method0_late->Ũ,DefRec->Ū,call->ū,plainId->ŭ,callType_codes->Ů,wpAny_seqItems->ů,wpAny_letGo->Ű,ExcBaseFacts->Ų,codeAny_of_tree->Ŵ,wpAny_newObj_type->ŵ,wpAny_handleBy_cons->Ż,codeAny_handlers_test->ż,codeAny_handlers_suite->ž,wpAny_Try_except->ſ,cellOf->ϑ,boot_len->Ϛ,lookup_relabel_local->ϛ,interactive->ϭ,wpAny_Expr_any->Ϯ,wpAny_assign_Name->ϯ,wpAny_load->ϰ,wpAny_pyNext_list_item->ϱ,wpAny_pyNext_list_end->ϲ,intBits_le_64->ϴ,wpAny_isTrue_Compare1->Ϸ,wpAny_truthy_list->ϻ,plainObj_wpAny_Assign_Attribute->aag,codeAny_call_function->aak,wpAny_newFunctionEnv_cells->aam,slot_list_getitem->aaq,call_list_seq->aas,wpAny_pyIter_dict->aay,getattributeRaised->aaB,entryFor_of_fast->aaC,wpAny_tryCatch->aaD,code_list_new->aaI,codeAny_extend_loopS->aaM,wpAny_loadPart_at->aaP,wpAny_isSubtype_exc->aaQ,checkBuiltinCall->aaU,wpAny_pyNext_values_end->aa4,call_function_tree->abe,wpAny_pyIter_enum->abh,Comprehension->abl,entryFor_alias->abm,wpAny_pyIter_slot->abn,entryFor_of_tree->abq,wpAny_attempt->abr,wpAny_callSpecial?_slot->abt,methodCallForm->abx
open Nat renaming le_trans->B',le_of_eq->M',ne_of_lt->N',lt_of_lt_of_le->U',le_refl->XZ,zero_le->Yh,ne_of_gt->Ym,lt_irrefl->Yr,lt_of_le_of_lt->Yw,le_of_lt->YN,lt_trans->YV,sub_le->YZ,le_succ->Zg,le_add_right->Zs,lt_succ_self->Ð,le_of_not_lt->ì,lt_succ_of_lt->Ĺ,min_le_left->ņ,min_le_right->Ň,le_succ_of_le->ũ,strongRecOn->ώ,le_total->ϕ,min_eq_left->ϖ,le_add_left->ϡ,succ_le_succ->aby,zero_add->abA,le_of_lt_succ->abB
open PySem.W renaming Frag->K',keepIn->Yp,mg_of->Yq,fnOf->Yy,findIn->YA,exmOne->YK,nsIn->Y_,kia_one->Zd,codeIn->ZD,notCls->ZN,kitOne->ZW,instObj->Õ,callWith_K->ß,hasDictIn->ö,specialIn->ú,mroIn->û,lookIn->ě,looks_clsIn->Ĝ,emptyDict->ĝ,looks_findIn->Ğ,isFn->ğ,methodCall_KW->ģ,Looks->ĳ,InstAt->ŏ,plainOver->Ő,takerIn->ő,set_plain->Œ,makesIn->ř,typeIn->Ś,InitBack->ś,plainGet->Ŝ,plainGet_of->ŝ,takesIn->Ş,kitx_tuple->ş,callWith_K0->Š,cellsFrom_some->š,exm_one->Ž,binds_K->Ϥ,bind_fn->aaa,handedIn->aab,findObj_own->aad,kitx_list->aah,kitx_dict->aai,codeRec_of->aal,OpenLaw->aaw,WalkO->aax,looks_mroIn->aaR,readsIn->aaW,findCls->aaX
open PySem.Heap renaming lt_size->O',get?_push_of_some->X',get?_push_size->Yu,get?_update_other->Zr,get?_update_self->Z9,SameBut->Ã,size_push->aae,get?_update_ne->aaS,get?_push_at->aaT,update_setField_same->aaZ
open List renaming mem_singleton->W',range->Yd,mem_of_getElem?->Yf,length_map->Yj,getElem?_eq_some_iff->Yn,mem_cons->Yo,map_map->Ys,mem_append->Yz,mem_map->YG,getElem?_map->YH,size_toArray->YJ,mem_iff_getElem?->YL,take_succ->YM,all_eq_true->YP,take_length->YQ,append_nil->YS,getElem?_append_left->YU,getElem?_eq_getElem->YW,map_append->YX,length_cons->Y',map_cons->Za,map_congr_left->Zb,filter_eq_self->Zk,mem_filter->Zm,length_take->Zq,nodup_append->Zt,mem_append_right->Zw,nodup_cons->ZL,all_cons->ZO,length->ZY,getElem?_append_right->ZZ,drop_eq_getElem_cons->Î,any_cons->Ï,map_id'->Ò,mem_range->Ö,getElem?_set_ne->Ø,find?_cons->ã,getElem?_inj->ê,filter_append->í,mem_of_mem_take->î,mem_cons_of_mem->ð,getElem?_set_self->ñ,lookup->ù,of_mem_zip->ý,replicate->þ,take_of_length_le->Ċ,length_append->Č,ext_getElem?->č,map_drop->Ď,filter_nil->đ,filterMap_cons->ē,mem_append_left->Ĕ,getElem?_take_of_lt->ĥ,take_sublist->Ħ,reverse_cons->ī,nil_append->ķ,lookup_cons->ľ,sum_cons->ŀ,not_mem_nil->Ń,map_take->ń,filter_map->Ņ,filter_cons_of_neg->ň,getElem?_replicate->Ţ,map_fst_zip->ŷ,map_nil->Ÿ,length_set->Ź,getElem?_set->ź,getElem?_eq_none->ϊ,range_succ_eq_map->ύ,find?_some->ϓ,exists_of_findSome?_eq_some->ϗ,length_reverse->ϙ,map_id->ϟ,map_inj_right->Ϡ,length_filter_le->Ϣ,all_eq_false->ϣ,mem_filterMap->ϳ,length_drop->aao,drop_zero->aaE,mem_map_of_mem->aa0,drop_eq_nil_of_le->aa5,drop_of_length_le->aa9,any_map->abd,findIdx?_eq_some_iff_getElem->abj,getElem_mem->abz,take_append_of_le_length->abD,findSome?_cons->abE,length_pos_iff->abG,nodup_nil->abH,map_reverse->abI,perm_append_comm->abK,pairwise_map->abL,nodup_range->abN
open Ne renaming symm->Ya
open PyProof.Rows renaming envOfC->Yl,AllBare->Zn,IsTup->Ô,callWith_type1->ô,IntsAre->ă,Subscript_->Ť,boot_list->Ϙ,isTrue_and->Ϭ,truthy_none->ϸ,callWith_builtin1->aan,subscriptTail_builtinR->aap,boot_isinstance->abv
open Bool renaming and_eq_true->Yv,not_eq_true'->ZH,false_eq_true->Ĳ,false_ne_true->ϒ,or_eq_true->Ϝ,or_false->aaK,eq_false_iff->abP,and_eq_true_iff->abQ
open Prod renaming mk->YC
open Option renaming map_eq_some_iff->YE,bind_eq_some_iff->é,map_some->ë,isSome_iff_exists->aaj,getD_none->aar
open PySem.Value renaming ref->YI,type->Zl,none->ZI,isInt->ϥ,isStrOf->Ϧ,int->ϧ,str->Ϩ,bool->ϩ,builtin->aaA
open False renaming elim->YT
open Sum renaming inr->Y9,inl->ï
open True renaming intro->Zz
open Int renaming natCast_nonneg->ZQ,ne_of_gt->Ę,toNat_natCast->Ł,emod_nonneg->ϝ,emod_lt_of_pos->Ϟ,le_of_lt->ϵ,zero_add->abJ
open PySem.Obj renaming mapSeq->Z_,data_mapFields->Ĉ,mapFields->Ŷ,isFreed_of_fields->aaY,cls_mapFields->aa1
open PySem.SeqAt renaming EqAt->Â,RcAt->aa7
open PySem.Expr renaming Name->Ñ
open Classical renaming byContradiction->Ó,propDecidable->Ϗ
open Option.some renaming inj->Ú,injEq->adg
open PySem.Calls renaming callWith_builtin->ā,spliced_nil->ġ,spliced_cons->Ģ,Name_function_global->ϫ
open PySem.NameKind renaming free->ċ,cell->abg
open PySem.F renaming plainAttrs_list->Đ,slot_list_reversed->ł,slot_list_getattribute->Ŭ,plainAttrs_dict->ό,slot_dict_items->ϔ,slot_list_append->aat,slot_list_extend->aau,called_list->aaF,typeCall_list_1->aaG,entry_list_init->aaH,args_list_init_2->aaJ,plain_extend_loop->aaL,attr_ValueError->aaV,excBase_ValueError->aa_,slot_dict_values->aa6,entry_all_loop->aa8,plain_all_loop->aa',entry_any_loop->aba,plain_any_loop->abb,slot_list_insert->abi,slot_list_index->abk,slot_dict_itemiterator_iter->abo,type_dict_items->abp,slot_list_reverse->abw
open PySem.Paired renaming length->Ē
open PySem.Builtin.Str renaming occurrences->ę,strSliceIndices->ϐ
open PySem.Builtin.List renaming listSameRef->ı,listExtendWith->ű,listLengthHint->aaz,listTooLong->abX,listItems->ab_
open PySem.Str renaming length->Ļ,empty->aac,cps_append->abO
open ForInStep renaming yield->Ľ
open PySem.W.Looks renaming here->Ŕ
open PySem.Within renaming cons->Ŗ
open PySem.Code renaming quiet_builtin->ų
open PySem.Around renaming under_plainId->ϋ
open Array renaming append_assoc->Ϫ,getElem?_eq_some_iff->aa2
open PySem.P renaming truthy_int->Ϲ,truthy_str->Ϻ
open PySem.Heap.Ns1 renaming of_empty->aaf
open PySem.Heap.DictOf renaming new->aav
open PySem.ItemsOf renaming nil->aaN
open PySem.Moved renaming eq_with->aaO
open PySem.SeqAt.EqAt renaming same->aa3,int_str->abR,str_int->abS,list_none->ab1
open PySem.Walks renaming list->abf
open PySem.Manifest renaming find?->abu
open PySem.PassesOwn renaming never->abC,leaving->adm
open List.Nodup renaming idxOf_getElem->abF
open List.Pairwise renaming imp_of_mem->abM,map->adk,imp->adn
open PySem.Builtin.Range renaming rangeSize->abT
open PySem.DictEntry renaming refKey->abU
open PySem.Heap.IsSliceOf renaming new->abV
open PySem.IsL renaming update->abW
open PySem.Builtin.Dict renaming pairItems->abY,updateFrom->abZ
open PySem.EntryCells renaming newEntry->ab0
open PySem.SeqAt.RcAt renaming none_none->ab2,none_bool->ab3,none_int->ab4,none_str->ab5,none_list->ab6,none_tuple->ab7,bool_none->ab8,bool_bool->ab9,bool_int->ab',bool_str->aca,bool_list->acb,bool_tuple->acd,int_none->ace,int_bool->acf,int_int->acg,int_str->ach,int_list->aci,int_tuple->acj,str_none->ack,str_bool->acm,str_int->acn,str_str->aco,str_list->acp,str_tuple->acq,list_none->acr,list_bool->acs,list_int->acu,list_str->acv,lists->acw,lists_lengths->acx,list_tuple->acy,tuple_none->acz,tuple_bool->acA,tuple_int->acB,tuple_str->acC,tuple_list->acD,tuples->acE
open PySem.SeqAt.RcNeAt renaming none_none->acF,none_bool->acG,none_int->acH,none_str->acI,none_list->acJ,none_tuple->acK,bool_none->acL,bool_bool->acM,bool_int->acN,bool_str->acO,bool_list->acP,bool_tuple->acQ,int_none->acR,int_bool->acS,int_int->acT,int_str->acU,int_list->acV,int_tuple->acW,str_none->acX,str_bool->acY,str_int->acZ,str_str->ac_,str_list->ac0,str_tuple->ac1,list_none->ac2,list_bool->ac3,list_int->ac4,list_str->ac5,lists->ac6,lists_lengths->ac7,list_tuple->ac8,tuple_none->ac9,tuple_bool->ac',tuple_int->ada,tuple_str->adb,tuple_list->ade,tuples->adf
open PySem.AutoListH renaming list_insert_list_int_val_1->adh,list___reversed___list_0->adi
open PySem.ScopeKind renaming function->adj
open List.cons renaming injEq->adl
noncomputable section
namespace L2
theorem rP{b}{l:List b}{i a}(h:l[i]?=some a):i<l.length:=(Yn.mp h).1
def bS{a b c:Nat}(h:a<=b)(d:b<=c:=by decide):=B' h d
def kG{a b c:Nat}(h:a<=b)(d:b<c:=by decide):=Yw h d
def Wr{a b c:Nat}(h:a<b)(d:b<=c:=by decide):=U' h d
theorem KG{a b c}(h:a<b)(d:b<=c+1:=by decide):a<=c:=by omega
theorem FX{a b:Nat}{c:Int}(h:a<=b)(d:b<c:=by decide):a<c:=by omega
theorem Qv{a b:Nat}{c:Int}(h:a<b)(d:b<=c:=by decide):a<c:=by omega
def xa{G:Prop}{p q}(h:p/\q)(k:p->q->G):=k h.1 h.2
def xe{A}{G:Prop}{p:A->Prop}(h:∃a,p a)(k:∀a,p a->G):=h.elim λa h=>k a h
def oC{G:Prop}{p q r}(h:p/\q/\r)(k:p->q->r->G):=k h.1 h.2.1 h.2.2
def bc{A}{G:Prop}{p q:A->Prop}(h:∃a,p a/\q a)(k:∀a,p a->q a->G):=h.elim λa h=>k a h.1 h.2
def bx{A}{G:Prop}{p q r:A->Prop}(h:∃a,p a/\q a/\r a)(k:∀a,p a->q a->r a->G):=h.elim λa h=>k a h.1 h.2.1 h.2.2
def cE{A B}{G:Prop}{p q:A->B->Prop}(h:∃a b,p a b/\q a b)(k:∀a b,p a b->q a b->G):=h.elim λa h=>h.elim λb h=>k a b h.1 h.2
def fX{G:Prop}{p q r s t}(h:p/\q/\r/\s/\t)(k:p->q->r->s->t->G):=k h.1 h.2.1 h.2.2.1 h.2.2.2.1 h.2.2.2.2
theorem eG{A}{G:Prop}{p q}{r s:A->Prop}(h:p/\q/\∃a,r a/\s a)(k:p->q->∀a,r a->s a->G):G:=by obtain⟨l,m,a,n,e⟩:=h;exact k l m a n e
def dQ{A}{G:Prop}{p q r s:A->Prop}(h:∃a,p a/\q a/\r a/\s a)(k:∀a,p a->q a->r a->s a->G):=h.elim λa h=>k a h.1 h.2.1 h.2.2.1 h.2.2.2
def aF{A B}{G:Prop}{p q r:A->B->Prop}(h:∃a b,p a b/\q a b/\r a b)(k:∀a b,p a b->q a b->r a b->G):=h.elim λa h=>h.elim λb h=>k a b h.1 h.2.1 h.2.2
def en{A B C}{G:Prop}{p q:A->B->C->Prop}(h:∃a b c,p a b c/\q a b c)(k:∀a b c,p a b c->q a b c->G):=h.elim λa h=>h.elim λb h=>h.elim λc h=>k a b c h.1 h.2
def dU{G:Prop}{p q r s t u}(h:p/\q/\r/\s/\t/\u)(k:p->q->r->s->t->u->G):=k h.1 h.2.1 h.2.2.1 h.2.2.2.1 h.2.2.2.2.1 h.2.2.2.2.2
def a6{A B}{G:Prop}{p q r s:A->B->Prop}(h:∃a b,p a b/\q a b/\r a b/\s a b)(k:∀a b,p a b->q a b->r a b->s a b->G):=h.elim λa h=>h.elim λb h=>k a b h.1 h.2.1 h.2.2.1 h.2.2.2
def cg{A B C}{G:Prop}{p q r:A->B->C->Prop}(h:∃a b c,p a b c/\q a b c/\r a b c)(k:∀a b c,p a b c->q a b c->r a b c->G):=h.elim λa h=>h.elim λb h=>h.elim λc h=>k a b c h.1 h.2.1 h.2.2
def eX{A B C D}{G:Prop}{p q:A->B->C->D->Prop}(h:∃a b c d,p a b c d/\q a b c d)(k:∀a b c d,p a b c d->q a b c d->G):=h.elim λa h=>h.elim λb h=>h.elim λc h=>h.elim λd h=>k a b c d h.1 h.2
def eK{A B}{G:Prop}{p q r s t:A->B->Prop}(h:∃a b,p a b/\q a b/\r a b/\s a b/\t a b)(k:∀a b,p a b->q a b->r a b->s a b->t a b->G):=h.elim λa h=>h.elim λb h=>k a b h.1 h.2.1 h.2.2.1 h.2.2.2.1 h.2.2.2.2
def dG{A B C}{G:Prop}{p q r s:A->B->C->Prop}(h:∃a b c,p a b c/\q a b c/\r a b c/\s a b c)(k:∀a b c,p a b c->q a b c->r a b c->s a b c->G):=h.elim λa h=>h.elim λb h=>h.elim λc h=>k a b c h.1 h.2.1 h.2.2.1 h.2.2.2
def bj{A B C D}{G:Prop}{p q r:A->B->C->D->Prop}(h:∃a b c d,p a b c d/\q a b c d/\r a b c d)(k:∀a b c d,p a b c d->q a b c d->r a b c d->G):=h.elim λa h=>h.elim λb h=>h.elim λc h=>h.elim λd h=>k a b c d h.1 h.2.1 h.2.2
def dk{A B C}{G:Prop}{p q r s t:A->B->C->Prop}(h:∃a b c,p a b c/\q a b c/\r a b c/\s a b c/\t a b c)(k:∀a b c,p a b c->q a b c->r a b c->s a b c->t a b c->G):=h.elim λa h=>h.elim λb h=>h.elim λc h=>k a b c h.1 h.2.1 h.2.2.1 h.2.2.2.1 h.2.2.2.2
def cS{A B C}{G:Prop}{p q r s t u:A->B->C->Prop}(h:∃a b c,p a b c/\q a b c/\r a b c/\s a b c/\t a b c/\u a b c)(k:∀a b c,p a b c->q a b c->r a b c->s a b c->t a b c->u a b c->G):=h.elim λa h=>h.elim λb h=>h.elim λc h=>k a b c h.1 h.2.1 h.2.2.1 h.2.2.2.1 h.2.2.2.2.1 h.2.2.2.2.2
def aY{A B C D}{G:Prop}{p q r s t:A->B->C->D->Prop}(h:∃a b c d,p a b c d/\q a b c d/\r a b c d/\s a b c d/\t a b c d)(k:∀a b c d,p a b c d->q a b c d->r a b c d->s a b c d->t a b c d->G):=h.elim λa h=>h.elim λb h=>h.elim λc h=>h.elim λd h=>k a b c d h.1 h.2.1 h.2.2.1 h.2.2.2.1 h.2.2.2.2
def a_{A B C D}{G:Prop}{p q r s t u:A->B->C->D->Prop}(h:∃a b c d,p a b c d/\q a b c d/\r a b c d/\s a b c d/\t a b c d/\u a b c d)(k:∀a b c d,p a b c d->q a b c d->r a b c d->s a b c d->t a b c d->u a b c d->G):=h.elim λa h=>h.elim λb h=>h.elim λc h=>h.elim λd h=>k a b c d h.1 h.2.1 h.2.2.1 h.2.2.2.1 h.2.2.2.2.1 h.2.2.2.2.2
open PySem PySem.Spec PyProof.Rows
abbrev Key:=Sum Int Str
noncomputable def oY:Key->f'->Bool
 |.inl k,v=>ϥ k v
 |.inr x,v=>Ϧ x v
noncomputable def Qw(w:X_):Key->Int
 |.inl k=>hashInt k
 |.inr x=>hashStr w x
theorem cw:∀{k}{v},oY k v=true->(∃i t,k=ï i/\v=ϧ i t)\/(∃x t,k=Y9 x/\v=Ϩ x t)
 |.inl i,v,h=>by
  obtain⟨t,e⟩:=Value.isInt_shape h
  simp_all
 |.inr x,v,h=>by
  obtain⟨t,e⟩:=Value.isStrOf_shape h
  simp_all
theorem xY(i t):oY (.inl i) (.int i t)=true:=by simp[oY,ϥ]
theorem xZ(x t):oY (.inr x) (.str x t)=true:=by simp[oY,Ϧ]
theorem GZ(a b):decide ((ï a:Key)=ï b)=(a==b):=by
 grind
theorem G_(a b):decide ((Y9 a:Key)=Y9 b)=decide (a=b):=by
 simp
theorem Ha(a:Int)(b:Str):decide ((ï a)=Y9 b)=false:=rfl
theorem Hb(a:Str)(b:Int):decide ((Y9 a)=ï b)=false:=rfl
def ff(prog w):PySem.KeyKind prog w Key where
 is:=oY
 hash:=Qw w
 inj:=λv a b g f=>by
  rcases cw g with ⟨i,t,rfl,rfl⟩|⟨x,t,rfl,rfl⟩
  .rcases cw f with ⟨j,u,rfl,e⟩|⟨y,u,rfl,e⟩
   .injection e with c _;rw[c]
   .exact nomatch e
  .rcases cw f with ⟨j,u,rfl,e⟩|⟨y,u,rfl,e⟩
   .exact nomatch e
   .injection e with c _;rw[c]
 byValue:=λk v h=>by
  rcases cw h with ⟨i,t,rfl,rfl⟩|⟨x,t,rfl,rfl⟩<;>rfl
 pyHash:=λd h=>by
  rcases cw d with ⟨i,t,rfl,rfl⟩|⟨x,t,rfl,rfl⟩
  .exact wpAny_pyHash_int h
  .exact wpAny_pyHash_str h
 eqBool:=λl d h=>by
  rcases cw l with ⟨i,t,rfl,rfl⟩|⟨x,t,rfl,rfl⟩
  .rcases cw d with ⟨j,u,rfl,rfl⟩|⟨y,u,rfl,rfl⟩
   .rw[GZ]at h;exact wpAny_eqBool_int h
   .rw[Ha]at h;exact abR i t y u _ _ _ _ h
  .rcases cw d with ⟨j,u,rfl,rfl⟩|⟨y,u,rfl,rfl⟩
   .rw[Hb]at h;exact abS x t j u _ _ _ _ h
   .rw[G_]at h;exact wpAny_eqBool_str h
 «strs» := λk x t v h=>by
  rcases cw h with ⟨i,u,rfl,e⟩|⟨y,u,rfl,e⟩
  .exact nomatch e
  .injection e with c _
   subst c;cases v<;>rfl
inductive V where
 |non|bl (b:Bool)|int (i:Int)|str (x:Str)|Ka (b:Array UInt8)|flt (b:UInt64)|ref (a:b')|ty (n:String)
 deriving DecidableEq
def RelV:V->f'->Prop
 |.non,u=>u=ZI
 |.bl b,u=>u=ϩ b
 |.int i,u=>∃t,u=ϧ i t
 |.str x,u=>∃t,u=Ϩ x t
 |.Ka b,u=>∃t,u=Value.bytes b t
 |.flt b,u=>∃t,u=Value.float b t
 |.ref a,u=>u=YI a
 |.ty n,u=>u=Zl n
abbrev Vals:=YO RelV
def Vals.length{xs a}(r:Vals xs a):=Ē r
theorem Vals.get:∀{xs}{a}{i:Nat}{x},Vals xs a->xs[i]?=some x->∃u,a[i]?=some u/\RelV x u
 |_,_,_,_,.nil,e=>by simp at e
 |_,_,0,_,.cons r _,e=>by simp_all
 |_,_,i+1,x,.cons _ t,e=>by
  obtain⟨u,b,c⟩:=Vals.get t (by simpa using e)
  simp_all
theorem Vals.append:∀{xs a}{b c},Vals xs b->Vals a c->Vals (xs++a) (b++c)
 |_,_,_,_,.nil,s=>s
 |_,_,_,_,.cons r t,s=>.cons r (Vals.append t s)
theorem Vals.take:∀{xs}{a} n,Vals xs a->Vals (xs.take n) (a.take n)
 |_,_,0,_=>.nil
 |_,_,_+1,.nil=>.nil
 |_,_,n+1,.cons r t=>.cons r (Vals.take n t)
theorem Vals.drop:∀{xs}{a} n,Vals xs a->Vals (xs.drop n) (a.drop n)
 |_,_,0,r=>r
 |_,_,_+1,.nil=>.nil
 |_,_,n+1,.cons _ t=>Vals.drop n t
def jf:Option V->Option f'->Prop
 |some v,some u=>RelV v u
 |none,none=>True
 |_,_=>False
def KV{a}:=YO λ(p:a×V) (q:a×f')=>p.1=q.1/\RelV p.2 q.2
noncomputable def kV:Key->V
 |.inl i=>.int i
 |.inr x=>.str x
inductive HO where
 |lst (xs:List V)
 |tup (xs:List V)
 |dK (kvs:List (Key×V))|dT (kvs:List (List Key×V))
 |set (S:Int->Bool) (n:Nat)
 |ins (C dx:b') (fs:List (Str×V))
 |own (x:b')
 |xd (fs:List (Str×V))
 |met (f x:b')
 |Qx (lo hi:Int)
 |eo (o:Obj) (u:HO)
 |Hc (ps:Array f')
 |ext (φ:F'->Prop)
abbrev Hp:=b'->Option HO
noncomputable def upd(H:Hp)(a:b')(o:HO):Hp:=λb=>if b=a then some o else H b
variable{e:Hp}{h:b'}{y0:HO}
theorem aS:upd e h y0 h=some y0:=by unfold upd;simp_all
variable{C:b'}
theorem aD(a:C≠h):upd e h y0 C=e C:=by unfold upd;rw[if_neg a]
theorem bb(a:e h=some y0)(b:e C=none):h≠C:=by
 grind
section
variable(P:Yc)(w:X_)
def dW(H:Hp)(h:F')(a:b'):HO->Prop
 |.lst xs=>xs.length<=XX/\∃b n,Vals xs b/\h.get? a=some {cls:=.type "list",data:=.seq b.toArray n}
 |.tup xs=>xs.length<=XX/\∃b,Vals xs b/\Ô h a b.toArray
 |.dK c=>c.length<=XX/\(a==ZJ)=false/\∃j,KV c j/\h.DictOf (ff P w) a j
 |.dT c=>c.length<=XX/\(a==ZJ)=false/\∃xs,
   YO (λp q=>p.1=q.1/\H q.2.1=some (.tup (p.1.map kV))/\RelV p.2 q.2.2) c xs /\
   ∃o k r,h.get? a=some o/\o.ExactDict/\o.data=.dict k r/\k.toList=xs.map (entryOfKey (tupleKind (ff P w)))/\(xs.map (·.1)).Nodup
 |.set S n=>h.SetOf (intKind P w) a S n
 |.ins C g e=>H g=some (.own a)/\e.length<=1000/\g≠a/\h.get? a=some (Õ C g) /\
   ∃d,h.Ns1 g d/\(∀f,jf (e.lookup f) (d f))/\ŉ d (e.map (·.1))
 |.own _=>∃o,h.get? a=some o
 |.xd e=>∃d,h.Ns1 a d/\∀f,jf (e.lookup f) (d f)
 |.Qx s y=>∃t u v,h.get? a=some {cls:=.type "range",data:=.fields #[.int s t,.int y u,.int 1 v]}
 |.eo o u=>h.get? a=some o/\dW H h a u
 |.Hc z=>h.get? a=some {cls:=.none,data:=.fields z}
 |.met f x=>h.get? a=some (PySem.W.methodObj (.ref f) (.ref x))
 |.ext i=>i h/\(∃o,h.get? a=some o)/\∀l m,i l->(∀o,l.get? a=some o->m.get? a=some o)->i m
def jG(H h):=∀a o,H a=some o->dW P w H h a o
end
theorem dW.lt{P w H h a o}(x:dW P w H h a o):a<h.objs.size:=by
 cases o with
 |lst g=>refine xa x λ_ b=>cE b λ_ _ _ e=>O' e
 |tup g=>obtain⟨_,_,_,p⟩:=x;exact p.lt
 |dK c=>refine eG x λ_ _ _ _ b=>en b λo _ _ e _=>O' e
 |dT c=>refine eG x λ_ _ _ _ b=>en b λo _ _ e _=>O' e
 |set S n=>refine eX x λo _ _ _ e _=>O' e
 |ins C j i=>refine fX x λ_ _ _ e _=>O' e
 |own y=>obtain⟨_,e⟩:=x;exact O' e
 |xd i=>obtain⟨_,⟨_,_,_,e,_⟩,_⟩:=x;exact O' e
 |Qx k l=>refine xe x λ_ b=>xe b λ_ d=>xe d λ_ e=>O' e
 |eo m u=>obtain⟨e,_⟩:=x;exact O' e
 |Hc q=>exact O' (x)
 |met f y=>exact O' (x)
 |ext r=>obtain⟨_,⟨_,e⟩,_⟩:=x;exact O' e
theorem Paired.Hd{c d F G}:∀{l₁:List c}{l₂:List d},YO F l₁ l₂->(∀a b,F a b->G a b)->YO G l₁ l₂
 |_,_,.nil,_=>.nil
 |_,_,.cons r t,f=>.cons (f _ _ r) (Paired.Hd t f)
variable{B Y4:F'}{v:Yc}{x:X_}{π:Hp}
theorem dW.stay(g:dW v x e B h y0)(k:∀b u,(b=h\/e b=some (.own h))->B.get? b=some u->Y4.get? b=some u)(F:∀b,e b=some (.own h)->π b=some (.own h))(G:∀b xs,e b=some (.tup xs)->π b=some (.tup xs)):dW v x π Y4 h y0:=by
 induction y0 with
 |lst xs=>obtain⟨z,s,n,r,a⟩:=g;exact⟨z,_,n,r,k _ _ (.inl rfl) a⟩
 |tup xs=>refine xa g λz i=>bc i λs r o=>bc o λj a c=>⟨z,_,r,j,k _ _ (.inl rfl) a,c⟩
 |dK w=>refine eG g λz y H r i=>en i λj l m a c=>⟨z,y,H,r,j,l,m,k _ _ (.inl rfl) a,c⟩
 |dT w=>
  refine eG g λz y xs r i=>en i λj l m a c=>⟨z,y,xs,Paired.Hd r λp q z=>⟨z.1,G _ _ z.2.1,z.2.2⟩,j,l,m,k _ _ (.inl rfl) a,c⟩
 |set S n=>refine eX g λj l m t a c=>⟨j,l,m,t,k _ _ (.inl rfl) a,c⟩
 |ins C M I=>
  obtain⟨d,z,ne,a,A,⟨D,l,m,J,c⟩,r⟩:=g;exact⟨F _ d,z,ne,k _ _ (.inl rfl) a,A,⟨D,l,m,k _ _ (.inr d) J,c⟩,r⟩
 |own y=>obtain⟨j,a⟩:=g;exact⟨j,k _ _ (.inl rfl) a⟩
 |xd I=>obtain⟨A,⟨D,l,m,a,c⟩,r⟩:=g;exact⟨A,⟨D,l,m,k _ _ (.inl rfl) a,c⟩,r⟩
 |Qx N O=>refine xe g λt i=>xe i λu o=>xe o λE a=>⟨t,u,E,k _ _ (.inl rfl) a⟩
 |eo j u K=>obtain⟨a,q⟩:=g;exact⟨k _ _ (.inl rfl) a,K q⟩
 |Hc P=>
  exact k h _ (.inl rfl) g
 |met f y=>
  exact k h _ (.inl rfl) g
 |ext Q=>obtain⟨p,⟨y0,a⟩,L⟩:=g;exact⟨by grind,⟨y0,k _ _ (.inl rfl) a⟩,L⟩
def jG.lt{P w H h a o}(x:jG P w H h)(e:H a=some o):=(x a o e).lt
theorem jG.fresh(a:jG v x e B)(b:B.objs.size<=h):e h=none:=by
 cases q:e h with
 |none=>rfl
 |some u=>exact absurd (U' (a.lt q) b) (by simp)
theorem jG.kept(c:jG v x e B)(k:∀b u,B.get? b=some u->Y4.get? b=some u):jG v x e Y4:=λa o d=>
 (c a o d).stay (λb u _ q=>k b u q) (λ_ q=>q) λ_ _ q=>q
theorem jG.laid{o}(d:jG v x e B)(k:∀b u,B.get? b=some u->Y4.get? b=some u)(j:B.objs.size<=h)(l:dW v x (upd e h o) Y4 h o):jG v x (upd e h o) Y4:=λb u a=>by
 have g:=d.fresh j
 by_cases i:b=h
 .subst i;rw[aS]at a;simp_all
 .rw[aD i]at a
  exact(d b u a).stay (λc f _ q=>k c f q) (λc q=>by rwa[aD (bb q g)]) λc m q=>by rwa[aD (bb q g)]
def Rd(H:Hp)(a u):=H a=some u\/∃o,H a=some (.eo o u)
theorem Rd.ok(r:Rd e h y0)(a:jG v x e B):dW v x e B h y0:=by
 rcases r with r|⟨o,r⟩
 .exact a h y0 r
 .obtain⟨_,q⟩:=a h _ r
  exact q
def NW:Option HO->Prop
 |some (.lst _)=>True
 |some (.dK _)=>True
 |some (.dT _)=>True
 |some (.set _ _)=>True
 |some (.ins _ _ _)=>True
 |some (.ext _)=>True
 |_=>False
theorem jG.write(ok:jG v x e B)(g:NW (e h))(o:C=h\/e C=some (.own h))(k:∀b u,b≠C->B.get? b=some u->Y4.get? b=some u)(f:∃u,Y4.get? C=some u)(m:dW v x (upd e h y0) Y4 h y0):jG v x (upd e h y0) Y4:=λb u q=>by
 have d:∀c y,e c=some (.own y)->c≠h:=λc y r z=>by subst z;rwa[r]at g
 by_cases i:b=h
 .subst i;rw[aS]at q;simp_all
 .rw[aD i]at q
  by_cases n:b=C
  .have j:e b=some (.own h):=by
    simp_all
   rw[q]at j;cases j
   obtain⟨a,p⟩:=f;exact⟨a,by simp_all⟩
  .refine(ok b u q).stay (λc a s r=>k c a ?_ r) (λc r=>by rwa[aD (d c b r)]) λc l r=>by rwa[aD ((λc l r z=>by subst z;rwa[r]at g) c l r)]
   grind
structure Un(fs ex:List b')(H H':Hp)(h h':F'):Prop where
 keep:∀b o,h.get? b=some o->H b=none->b∉fs->b∉ex->h'.get? b=some o
 slot:∀b o,h.get? b=some o->H b=none->b∈fs->b∉ex->∃sl,h'.get? b=some {o with slots:=sl}
 free:∀b o,h.get? b=some o->H b=none->b∉ex->H' b=none
 there:∀b o,h.get? b=some o->b∉ex->∃o',h'.get? b=some o'
 tups:∀b xs,H b=some (.tup xs)->H' b=some (.tup xs)
 gu:∀b o u,H b=some (.eo o u)->H' b=some (.eo o u)
 iN:∀b ps,H b=some (.Hc ps)->∃more,H' b=some (.Hc (ps++more))
variable{r x0:List b'}
theorem Un.any(u:Un r x0 e π B Y4){ob}(q:B.get? h=some ob)(n:e h=none)(a:h∉x0):∃c,Y4.get? h=some {ob with slots:=c}:=by
 by_cases b:h∈r
 .exact u.slot h ob q n b a
 .exact⟨_,u.keep h ob q n b a⟩
variable{W7:Hp}
theorem Un.trans{m}(a:Un r x0 e π B Y4)(b:Un r x0 π W7 Y4 m):Un r x0 e W7 B m where
 keep:=λc d q n h f=>b.keep c d (a.keep c d q n h f) (a.free c d q n f) h f
 slot:=λc d q n h f=>by
  obtain⟨p,g⟩:=a.slot c d q n h f;obtain⟨j,k⟩:=b.slot c _ g (a.free c d q n f) h f;exact⟨j,k⟩
 free:=λc d q n f=>by
  obtain⟨l,g⟩:=a.there c d q f;exact b.free c l g (a.free c d q n f) f
 there:=λc d q f=>by
  obtain⟨l,g⟩:=a.there c d q f;exact b.there c l g f
 tups:=λc i q=>b.tups c i (a.tups c i q)
 gu:=λc d i q=>b.gu c d i (a.gu c d i q)
 iN:=λc o q=>by
  obtain⟨m1,g⟩:=a.iN c o q;obtain⟨m2,k⟩:=b.iN c _ g;exact⟨m1++m2,by rw[k,Ϫ]⟩
theorem Un.kept(k:∀b u,B.get? b=some u->Y4.get? b=some u):Un r x0 e e B Y4:=
 ⟨by simp_all,λb a q _ _ _=>⟨_,k b a q⟩,by simp_all,by simp_all,by simp,by simp,λ_ c q=>⟨#[],by simp_all⟩⟩
theorem Un.laid{o}(k:∀b u,B.get? b=some u->Y4.get? b=some u)(c:B.objs.size<=h)(a:e h=none):Un r x0 e (upd e h o) B Y4 where
 keep:=λb u q _ _ _=>k b u q
 slot:=λb u q _ _ _=>⟨_,k b u q⟩
 free:=λb u q n _=>by rwa[aD (N' (U' (O' q) c))]
 there:=λb u q _=>⟨u,k b u q⟩
 tups:=λb d q=>by rwa[aD (bb q a)]
 gu:=λb u d q=>by rwa[aD (bb q a)]
 iN:=λb f q=>⟨#[],by rw[aD (bb q a),q];simp⟩
variable{A8:List b'}
theorem Un.mono{a}(u:Un r A8 e π B Y4)(f:∀b∈r,b∈x0)(h:∀b∈A8,b∈a):Un x0 a e π B Y4:=
 ⟨λb c q n g d=>u.keep b c q n (λz=>g (f b z)) (by grind),λ_ _ q n _ d=>u.any q n (by grind),λb c q n d=>u.free b c q n (by grind),λb c q d=>u.there b c q (by grind),u.tups,u.gu,u.iN⟩
noncomputable def Ws(h:F')(H:Hp):=(Yd h.objs.size).filter λa=>(H a).isSome
def ue(h H):=PySem.W.hideAll h (Ws h H)
variable{Ξ:Obj}
theorem Dh(a:(ue B e).get? h=some Ξ):B.get? h=some Ξ/\e h=none:=by
 have b:=PySem.W.of_hideAll _ a;refine⟨b,?_⟩;cases q:e h with
 |none=>rfl
 |some x=>
  have z:(ue B e).get? h=none:=PySem.W.hideAll_none _ (Zm.mpr ⟨Ö.mpr (O' b),by simp[q]⟩)
  simp_all
noncomputable def Di(g h:F')(L):=(Yd h.objs.size).filterMap λa=>if a=L\/(g.get? a).isSome=true then none else (h.get? a).map λo=>(a,o)
def rest(g h L d):=(Di g h L).filter λp=>decide (p.1≠d)
structure Mod(K:K')(mg:Str->Option f')(base:F'):Prop where
 Dj:K.In base
 glob:base.Ns Yt mg
 blt:∃mb,base.Ns Ŋ mb/\∀x:Str,x≠"__name__"->mb x=ZR x
 nolimit:base.NoLimit
structure Cx where
 prog:Yc
 w:X_
 K:K'
 mg:Str->Option f'
 base:F'
 A:Yi
 N:List Str
 s₀:g'
 H₀:Hp
 env:Yg
 outer:List Yg
 stack:List Yg
 ex:List b'
 fn:Str->Bool
 calm:Bool
 pn:List (b'×Obj)
 xe:f'->g'->Prop
noncomputable def frs(l:List Yg):=l.filterMap (·.frame)
abbrev Cx.fs(X:Cx):=frs X.outer
def rQ(a:XY)(x):=a.names.lookup x=some .local\/a.names.lookup x=some .cell\/a.names.lookup x=some .free
def Loc(a:XY)(x):=a.names.lookup x=some .local\/a.names.lookup x=some .cell
def Look(env:Yg)(h:F')(m:Str->Option f')(x u):=
 (env.kindOf x=some .local/\m x=some u)\/((env.kindOf x=some .cell\/env.kindOf x=some .free)/\∃c,env.cells.lookup x=some c/\h.IsCell c (some u))
structure Cx.Ok(X:Cx):Prop where
 mod:Mod X.K X.mg X.base
 kind:X.env.scope.kind=.function
 glob:X.env.globals=Yt
 blt:X.env.builtins=Ŋ
 above:X.s₀.heap.objs.size<=X.env.locals
 inj:∀x y c,X.env.cells.lookup x=some c->X.env.cells.lookup y=some c->x=y
 has:∀x,(X.env.kindOf x=some .cell\/X.env.kindOf x=some .free)->∃c,X.env.cells.lookup x=some c
 cab:∀x c,X.fn x=true->X.env.cells.lookup x=some c->X.s₀.heap.objs.size<=c
 hd:X.calm=true->X.A.handled=none
 frames:X.A.frames=some X.stack
 Dc:X.stack=X.outer\/(X.stack=X.env::X.outer/\X.env.frame=some X.env.locals)
 Dk:∀b∈X.ex,b≠X.env.locals/\∀x c,X.env.cells.lookup x=some c->c≠b
 bs:∀b o,X.base.get? b=some o->X.s₀.heap.get? b=some o/\X.H₀ b=none
 uf:X.base.objs.size<=X.s₀.heap.objs.size
 oE:∀b o,X.base.get? b=some o->b∉X.ex
 oF:∀b∈X.ex,b∉X.fs
 gv:X.s₀.heap.FunFrames X.base X.outer
 x_:∀b∈X.fs,X.H₀ b=none
structure Inv(X:Cx)(pins:List (b'×Obj))(σ:List (Option V))(H:Hp)(s:g'):Prop where
 ok:X.Ok
 os:s.os=X.s₀.os
 bare:Zn s.gens
 base:Un X.fs X.ex X.H₀ H X.s₀.heap s.heap
 loc:∃m,s.heap.Ns X.env.locals m/\∀(i:Nat) (x:Str) (v:V),X.N[i]?=some x->σ[i]?=some (some v)->rQ X.env.scope x->∃u,RelV v u/\Look X.env s.heap m x u
 cell:∀x c,X.env.cells.lookup x=some c->∃v,s.heap.IsCell c v
 free:H X.env.locals=none
 dR:∀x c,X.env.cells.lookup x=some c->(H c=none\/∃o u,H c=some (.eo o u))/\(X.fn x=true->H c=none)
 pin:∀p∈X.pn++pins,s.heap.get? p.1=some p.2/\H p.1=none/\p.1≠X.env.locals/\p.1∉X.fs/\∀v,p.2.data≠.cell v
 hok:jG X.prog X.w H s.heap
 len:σ.length=X.N.length
variable{c:Cx}
theorem Cx.Ok.Qy(ok:c.Ok)(e:c.base.get? h=some Ξ):h∉c.fs:=λa=>by
 have:=(ok.gv.mem a).1
 simp_all
theorem Inv.bs{X pins a H s}(I:Inv X pins a H s):∀b o,X.base.get? b=some o->s.heap.get? b=some o/\H b=none:=λb o e=>
 ⟨I.base.keep b o (I.ok.bs b o e).1 (I.ok.bs b o e).2 (I.ok.Qy e) (I.ok.oE b o e),I.base.free b o (I.ok.bs b o e).1 (I.ok.bs b o e).2 (I.ok.oE b o e)⟩
variable{G2:List (Option V)}{m:g'}{z:List (b'×Obj)}
def Inv.bk(I:Inv c z G2 e m):=λb o a=>(I.bs b o a).1
def Inv.mod{X pins a H s}(I:Inv X pins a H s):=I.ok.mod
def Inv.eY(I:Inv c z G2 e m):=I.ok.mod.Dj.keeps I.bk
def Inv.lt{X pins a H s}(I:Inv X pins a H s):=bc (I.loc) λ_ b _=>b.lt
def Inv.sz(I:Inv c z G2 e m):=B' I.ok.above (YN I.lt)
theorem Inv.Qz(I:Inv c z G2 e m)(a:m.heap.objs.size<=h):h∉c.fs:=λb=>by
 obtain⟨_,o,d,_⟩:=I.ok.gv.mem b;exact absurd (U' (O' d) (B' I.sz a)) (by simp)
theorem Inv.KH(I:Inv c z G2 e m):∀x a,c.env.cells.lookup x=some a->a≠c.env.locals:=λx a b d=>by
 obtain⟨v,o,i,j⟩:=I.cell x a b;obtain⟨f,⟨k,l,n,g,h,_⟩,_⟩:=I.loc
 simp_all
theorem Inv.gv{X pins h H s}(I:Inv X pins h H s):s.heap.FunFrames X.base X.outer:=by
 have a:∀(l:List _),(∀b∈frs l,b∈X.fs)->X.s₀.heap.FunFrames X.base l->s.heap.FunFrames X.base l:=by
  intro l
  induction l with
  |nil=>intro _ _;trivial
  |cons i r j=>
   intro f k;obtain⟨m,⟨L,o,g,n,p,q⟩,t⟩:=k;have c:=f L (by unfold frs;simp_all)
   obtain⟨u,e⟩:=I.base.slot L o p (I.ok.x_ L c) c λz=>I.ok.oF L z c
   exact⟨m,⟨L,_,g,n,e,q⟩,j (λb d=>f b (by unfold frs;rw[ē,g];exact ð _ d)) t⟩
 exact a _ (λ_ d=>d) I.ok.gv
theorem Inv.stack{X pins a H s}(I:Inv X pins a H s):s.heap.FunFrames X.base X.stack:=by
 rcases I.ok.Dc with e|⟨e,b⟩
 .rw[e];exact I.gv
 .rw[e]
  refine bc I.loc λm c _=>?_
  refine .cons (by rw[I.ok.kind];decide) b c (Heap.get?_none_of_le (B' I.ok.uf I.ok.above)) I.gv
theorem Inv.qh(I:Inv c z G2 e m):∀b∈frs c.stack,b∈c.env.locals::c.fs:=λb d=>by
 rcases I.ok.Dc with a|⟨a,f⟩
 .simp_all
 .rw[a]at d
  unfold frs at d;rwa[ē,f]at d
theorem Inv.jI(I:Inv c z G2 e m):∀b∈frs c.stack,e b=none:=λb hb=>by
 rcases Yo.mp (I.qh b hb)with a|hb
 .rw[a];exact I.free
 .obtain⟨_,o,f,_⟩:=I.ok.gv.mem hb
  exact I.base.free b o f (I.ok.x_ b hb) λd=>I.ok.oF b d hb
theorem Inv.step{X pins Q H D s y R t' d'}{ch:List b'}(I:Inv X pins Q H s)(h:∀b∈ch,(b∈X.ex\/X.s₀.heap.objs.size<=b)/\b≠X.env.locals/\(∀x c,X.env.cells.lookup x=some c->c≠b)/\∀p∈X.pn++pins,p.1≠b)(keep:∀b o,b≠X.env.locals->b∉X.fs->b∉ch->s.heap.get? b=some o->H b=none->y.get? b=some o)(slot:∀b o,b≠X.env.locals->b∈X.fs->b∉ch->s.heap.get? b=some o->H b=none->∃O,y.get? b=some {o with slots:=O})(free:∀b o,b∉ch->s.heap.get? b=some o->H b=none->D b=none)(there:∀b o,b∉ch->s.heap.get? b=some o->∃G,y.get? b=some G)(tups:∀b xs,H b=some (.tup xs)->D b=some (.tup xs))(gu:∀b o u,H b=some (.eo o u)->D b=some (.eo o u))(iN:∀b ps,H b=some (.Hc ps)->∃more,D b=some (.Hc (ps++more)))(Y:∀m,s.heap.Ns X.env.locals m->y.Ns X.env.locals m)(J:jG X.prog X.w D y)(Z:Zn R):
  Inv X pins Q D {s with heap:=y,gens:=R,drawn:=d',toks:=t' }:=by
 have K:∀b o,X.s₀.heap.get? b=some o->b≠X.env.locals:=λb o e=>N' (U' (O' e) I.ok.above)
 have t:∀b o,X.s₀.heap.get? b=some o->b∉X.ex->b∉ch:=λb o e f B=>by
  rcases(h b B).1 with z|z
  .exact f z
  .exact absurd (U' (O' e) z) (Yr _)
 have j:∀x c,X.env.cells.lookup x=some c->∀v,s.heap.IsCell c v->y.IsCell c v:=λx c e v  zf =>bc zf λo A L=>by
  have a:c∉ch:=λz=>(h c z).2.2.1 x c e rfl
  rcases(I.dR x c e).1 with E|⟨F,M,N⟩
  .by_cases S:c∈X.fs
   .obtain⟨O,q⟩:=slot c o (I.KH x c e) S a A E
    exact⟨_,q,L⟩
   .exact⟨o,keep c o (I.KH x c e) S a A E,L⟩
  .have g:s.heap.get? c=some F:=(I.hok c _ N).1
   have C:y.get? c=some F:=(J c _ (gu c F M N)).1;rw[A]at g;cases g
   exact⟨o,C,L⟩
 refine⟨I.ok,I.os,Z,⟨λb o e n B f=>?_,λb o e n B f=>?_,λb o e n f=>?_,λb o e f=>?_,λb xs e=>tups b xs (I.base.tups b xs e),λb o xs e=>gu b o xs (I.base.gu b o xs e),λb ps e=>?_⟩,?_,λx c e=>?_,?_,λx c e=>?_,λp T=>?_,J,I.len⟩
 .exact keep b o (K b o e) B (t b o e f) (I.base.keep b o e n B f) (I.base.free b o e n f)
 .obtain⟨O,g⟩:=I.base.slot b o e n B f
  obtain⟨P,C⟩:=slot b _ (K b o e) B (t b o e f) g (I.base.free b o e n f);exact⟨P,C⟩
 .obtain⟨G,g⟩:=I.base.there b o e f
  exact free b G (t b o e f) g (I.base.free b o e n f)
 .obtain⟨G,g⟩:=I.base.there b o e f
  exact there b G (t b o e f) g
 .obtain⟨m1,g⟩:=I.base.iN b ps e
  obtain⟨m2,C⟩:=iN b _ g;exact⟨m1++m2,by rw[C,Ϫ]⟩
 .refine bc I.loc λm E hl=>?_
  refine⟨m,Y m E,λi x v g C e3=>?_⟩
  obtain⟨u,r,l⟩:=hl i x v g C e3;refine⟨u,r,?_⟩;rcases l with l|⟨k,c,e,z⟩
  .exact .inl l
  .exact .inr ⟨k,c,e,j x c e _ z⟩
 .obtain⟨v,z⟩:=I.cell x c e
  exact⟨v,j x c e v z⟩
 .obtain⟨m,⟨o,_,_,A,_⟩,_⟩:=I.loc
  exact free _ o (λz=>(h _ z).2.1 rfl) A I.free
 .refine cE (I.cell x c e) λv o A L=>?_
  have a:c∉ch:=λz=>(h c z).2.2.1 x c e rfl
  refine⟨?_,λhf=>free c o a A ((I.dR x c e).2 hf)⟩
  rcases(I.dR x c e).1 with E|⟨F,M,N⟩
  .exact .inl (free c o a A E)
  .exact .inr ⟨F,M,gu c F M N⟩
 .refine fX (I.pin p T) λe n ne U d=>?_
  have a:p.1∉ch:=λz=>(h p.1 z).2.2.2 p T rfl
  exact⟨keep p.1 p.2 ne U a e n,free p.1 p.2 a e n,ne,U,d⟩
variable{b:Nat}
theorem Inv.un{s}(I:Inv c z G2 e s)(u:Un c.fs [] e π s.heap B)(h:jG c.prog c.w π B):Inv c z G2 π {s with heap:=B,toks:=b}:=by
 obtain⟨m,⟨o,x,y,j,r⟩,_⟩:=id I.loc;obtain⟨A,k⟩:=u.any j I.free (by simp)
 exact I.step (ch:=[]) (λ_ f=>nomatch f) (λa o _ i _ d n=>u.keep a o d n i (by simp)) (λa o _ i _ d n=>u.slot a o d n i (by simp)) (λa o _ d n=>u.free a o d n (by simp)) (λa o _ d=>u.there a o d (by simp)) u.tups u.gu u.iN (λC l=>by
  refine en l λD p q g t=>?_
  rw[j]at g;cases g
  exact⟨_,_,_,k,t⟩) h I.bare
variable{A6:Drawn}{C6:Array ŋ}
theorem Inv.call{s}(I:Inv c z G2 e s)(u:Un (frs c.stack) r e π s.heap B)(k:jG c.prog c.w π B)(y:Zn C6)(i:∀a∈r,(a∈c.ex\/c.s₀.heap.objs.size<=a)/\a≠c.env.locals/\(∀x g,c.env.cells.lookup x=some g->g≠a)/\∀p∈c.pn++z,p.1≠a):
  Inv c z G2 π {s with heap:=B,gens:=C6,drawn:=A6,toks:=b}:=by
 obtain⟨m,⟨o,G,H,q,t⟩,_⟩:=id I.loc;obtain⟨J,l⟩:=u.any q I.free λf=>(i _ f).2.1 rfl
 exact I.step i (λa o l A h d n=>u.keep a o d n (λf=>(Yo.mp (I.qh a f)).elim l A) h) (λa o _ _ h d n=>u.any d n h) (λa o h d n=>u.free a o d n h) (λa o h d=>u.there a o d h) u.tups u.gu u.iN (λK C=>by
  refine en C λL D E j F=>?_
  rw[q]at j;cases j
  exact⟨_,_,_,l,F⟩) k y
theorem Inv.turned{s}(I:Inv c z G2 e s)(k:∀a o,a≠h->s.heap.get? a=some o->B.get? a=some o)(G:e h=none)(j:h≠c.env.locals)(l:h∈c.ex\/c.s₀.heap.objs.size<=h)(t:∀x f,c.env.cells.lookup x=some f->f≠h)(w:∀p∈c.pn++z,p.1≠h):Inv c z G2 e {s with heap:=B,toks:=b}:=by
 have y:∀a u,e a=some u->a≠h:=λa u d g=>by simp_all
 refine I.step (ch:=[h]) (λa A=>?_) (λa o _ _ i d _=>k a o (λg=>i (by simp[g])) d) (λa o _ _ i d _=>⟨_,k a o (λg=>i (by simp[g])) d⟩) (λ_ _ _ _ n=>n)
  (λa o i d=>⟨o,by simp_all⟩) (λ_ _ d=>d) (λ_ _ _ d=>d) (λa H d=>⟨#[],by simp_all⟩) (λm C=>?_) (λa u d=>?_) I.bare
 .have d:=by simpa using A
  subst d;exact⟨l,j,t,w⟩
 .refine en C λo D E F r=>⟨o,D,E,k _ o (Ya j) F,r⟩
 .refine(I.hok a u d).stay (λf v i q=>k f v ?_ q) (λ_ q=>q) λ_ _ q=>q
  grind
theorem Inv.tok{s}(I:Inv c z G2 e s)(t):Inv c z G2 e {s with toks:=t}:=I.un (Un.kept λ_ _ q=>q) I.hok
theorem Inv.kept{X pins a H s c t'}(I:Inv X pins a H s)(k:∀b u,s.heap.get? b=some u->c.get? b=some u):Inv X pins a H {s with heap:=c,toks:=t' }:=I.un (Un.kept k) (I.hok.kept k)
theorem Inv.laid{X pins f H s c}{a:b'}{o t'}(I:Inv X pins f H s)(k:∀b u,s.heap.get? b=some u->c.get? b=some u)(d:s.heap.objs.size<=a)(e:dW X.prog X.w (upd H a o) c a o):
  Inv X pins f (upd H a o) {s with heap:=c,toks:=t' }:=I.un (Un.laid k d (I.hok.fresh d)) (I.hok.laid k d e)
theorem Inv.write{X pins g H s a x e o t'}(I:Inv X pins g H s)(h:NW (H x))(j:e=x\/H e=some (.own x))(k:∀b u,b≠e->s.heap.get? b=some u->a.get? b=some u)(c:∃u,a.get? e=some u)(d:dW X.prog X.w (upd H x o) a x o):Inv X pins g (upd H x o) {s with heap:=a,toks:=t' }:=I.un (by
    have l:∀b,H b=none->b≠x:=λb n z=>by subst z;rwa[n]at h
    have i:∀b,H b=none->b≠e:=λb n z=>by
     simp_all
    have f:∀b u,H b=some u->¬ NW (some u)->b≠x:=λb u q p z=>by simp_all
    refine⟨λb u q n _ _=>k b u (i b n) q,λb u q n _ _=>⟨_,k b u (i b n) q⟩,λb u q n _=>by rwa[aD (l b n)],λb u q _=>?_,
     λb m q=>by rwa[aD (f b _ q λz=>z)],λb u m q=>by rwa[aD (f b _ q λz=>z)],λb r q=>⟨#[],by rw[aD (f b _ q λz=>z),q];simp⟩⟩
    grind) (I.hok.write h j k c d)
theorem Inv.weak{a}(I:Inv c z G2 e m)(f:a.length=G2.length)(w:∀(i:Nat) v,a[i]?=some (some v)->G2[i]?=some (some v)):Inv c z a e m:=
 ⟨I.ok,I.os,I.bare,I.base,let ⟨b,g,d⟩:=I.loc;⟨b,g,λi x v h j k=>d i x v h (w i v j) k⟩,I.cell,I.free,I.dR,I.pin,I.hok,f.trans I.len⟩
theorem Inv.vC{a}(I:Inv c z G2 e m)(h:∀p∈a,m.heap.get? p.1=some p.2/\e p.1=none/\p.1≠c.env.locals/\p.1∉c.fs/\∀v,p.2.data≠.cell v):Inv c a G2 e m:=
 ⟨I.ok,I.os,I.bare,I.base,I.loc,I.cell,I.free,I.dR,λp d=>(Yz.mp d).elim (λb=>I.pin p (Ĕ _ b)) (h p),I.hok,I.len⟩
variable{d:Str}{g:List Str}{s:Nat}
theorem rR(e:g.Nodup)(a:g[b]?=some d)(c:g[s]?=some d):b=s:=by
 obtain⟨i,f⟩:=Yn.mp a;obtain⟨j,h⟩:=Yn.mp c;exact(List.getElem_inj e).mp (f.trans h.symm)
variable{F5:Model}{L:Yi}{N:f'}{Q1:Unit->g'->Prop}{S:f'->g'->Prop}{w:V}
theorem oZ{pins s}(I:Inv c pins G2 e s)(hN:c.N.Nodup)(K:c.N[b]?=some d)(x:Loc c.env.scope d)(r:RelV w N)(h:∀Q,Inv c pins (G2.set b (some w)) e Q->(∃a,Ã a s.heap Q.heap/\(a=c.env.locals\/c.env.cells.lookup d=some a))->Q1 () Q)(hf:c.fn d=true\/c.env.scope.names.lookup d=some .local:=by first|exact .inl rfl|exact .inr rfl|assumption):p9 F5 L (storeName c.env d N) Q1 S s:=by
 obtain⟨m,R,hl⟩:=id I.loc;have E:b<G2.length:=by rw[I.len];exact(Yn.mp K).1
 have F:=I.KH
 have t:∀{a:b'}{J:F'},(∃o,s.heap.get? a=some o/\e a=none)->Ã a s.heap J->jG c.prog c.w e J:=λ{a J} ha l g ob f=>by
  obtain⟨_,_,T⟩:=ha;refine(I.hok g ob f).stay (λi U A q=>(l.2 i ?_).trans q) (λ_ q=>q) λ_ _ q=>q
  grind
 rcases x with hk|hk
 .refine wpAny_storeName_local hk R (λJ V l=>?_) (by rw[I.ok.kind];rfl)
  obtain⟨oL,_,_,X,_⟩:=id R;refine h _ ⟨I.ok,I.os,I.bare,⟨λg o f n G x=>?_,λg o f n G x=>?_,I.base.free,λg o f x=>?_,I.base.tups,I.base.gu,I.base.iN⟩,⟨_,V,λj y Y u C Z=>?_⟩,λy i f=>?_,I.free,I.dR,λp hp=>?_,t ⟨oL,X,I.free⟩ l,by simpa using I.len⟩ ⟨_,l,.inl rfl⟩
  .exact(l.2 g (N' (U' (O' f) I.ok.above))).trans (I.base.keep g o f n G x)
  .obtain⟨sl,u⟩:=I.base.slot g o f n G x
   exact⟨sl,(l.2 g (N' (U' (O' f) I.ok.above))).trans u⟩
  .obtain⟨o',u⟩:=I.base.there g o f x
   exact⟨o',(l.2 g (N' (U' (O' f) I.ok.above))).trans u⟩
  .by_cases H:j=b
   .subst H
    rw[K]at u;cases u
    rw[ñ E]at C;cases C;exact⟨N,r,.inl ⟨hk,by simp⟩⟩
   .rw[Ø (Ya H)]at C
    obtain⟨u',r',q⟩:=hl j y Y u C Z;refine⟨u',r',?_⟩;rcases q with ⟨k,f⟩|⟨k,i,f,z⟩
    .refine .inl ⟨k,?_⟩
     have:y≠d:=λf=>H (rR hN u (f▸K))
     simp[this,f]
    .exact .inr ⟨k,i,f,z.sameBut l (F y i f)⟩
  .obtain⟨U,z⟩:=I.cell y i f
   exact⟨U,z.sameBut l (F y i f)⟩
  .refine fX (I.pin p hp) λf n ne nf B=>?_
   exact⟨(l.2 p.1 ne).trans f,n,ne,nf,B⟩
 .have D:c.fn d=true:=by
   rcases hf with z|z
   .exact z
   .rw[z]at hk;cases hk
  obtain⟨i,A⟩:=I.ok.has d (.inl hk);obtain⟨U,z⟩:=I.cell d i A;refine wpAny_storeName_cell I.ok.kind hk A z (λJ M l=>?_)
  refine bc (id z) λoc a0 b0=>?_
  refine h {s with heap:=J} ⟨I.ok,I.os,I.bare,⟨λg o f n G x=>?_,λg o f n G x=>?_,I.base.free,λg o f x=>?_,I.base.tups,I.base.gu,I.base.iN⟩,⟨m,R.sameBut l (Ya (F d i A)),λj y Y u C Z=>?_⟩,λy P f=>?_,I.free,I.dR,λp hp=>?_,t ⟨oc,a0,(I.dR d i A).2 D⟩ l,by simpa using I.len⟩ ⟨i,l,.inr A⟩
  .exact(l.2 g (N' (U' (O' f) (I.ok.cab d i D A)))).trans (I.base.keep g o f n G x)
  .obtain⟨sl,u⟩:=I.base.slot g o f n G x
   exact⟨sl,(l.2 g (N' (U' (O' f) (I.ok.cab d i D A)))).trans u⟩
  .obtain⟨o',u⟩:=I.base.there g o f x
   exact⟨o',(l.2 g (N' (U' (O' f) (I.ok.cab d i D A)))).trans u⟩
  .by_cases H:j=b
   .subst H
    rw[K]at u;cases u
    rw[ñ E]at C;cases C;exact⟨N,r,.inr ⟨.inl hk,i,A,M⟩⟩
   .rw[Ø (Ya H)]at C
    obtain⟨u',r',q⟩:=hl j y Y u C Z;refine⟨u',r',?_⟩;rcases q with q|⟨k,P,f,z'⟩
    .exact .inl q
    .refine .inr ⟨k,P,f,z'.sameBut l ?_⟩
     rintro rfl;exact H (rR hN u (I.ok.inj _ _ _ f A▸K))
  .by_cases O:P=i
   .subst O;exact⟨_,M⟩
   .obtain⟨w2,z2⟩:=I.cell y P f
    exact⟨w2,z2.sameBut l O⟩
  .refine fX (I.pin p hp) λf n ne nf B=>?_
   refine⟨(l.2 p.1 ?_).trans f,n,ne,nf,B⟩
   grind
theorem mR(I:Inv c z G2 e m)(f:c.N.Nodup)(g:c.N[b]?=some d)(i:Loc c.env.scope d)(r:RelV w N)(h:∀a,Inv c z (G2.set b (some w)) e a->Q1 () a)(j:c.fn d=true\/c.env.scope.names.lookup d=some .local:=by first|exact .inl rfl|exact .inr rfl|assumption):p9 F5 L (storeName c.env d N) Q1 S m:=
 oZ I f g i r (λa k _=>h a k) j
variable{M6:g'}
theorem Inv.call'(I:Inv c z G2 e m)(g:M6.os=m.os)(u:Un (frs c.stack) r e π m.heap M6.heap)(d:jG c.prog c.w π M6.heap)(h:Zn M6.gens)(f:∀b∈r,(b∈c.ex\/c.s₀.heap.objs.size<=b)/\b≠c.env.locals/\(∀x a,c.env.cells.lookup x=some a->a≠b)/\∀p∈c.pn++z,p.1≠b):Inv c z G2 π M6:=by
 obtain⟨i,j,k,l,n⟩:=M6;subst g;exact I.call u d h f
abbrev XK:=f'->Option b'->Hp->Prop
abbrev St:=List (Option V)
abbrev VK:=V->Hp->Prop
abbrev TE:=St->Hp->VK->Prop
abbrev TT:=St->Hp->(Bool->Hp->Prop)->Prop
abbrev TA:=St->Hp->(List V->Hp->Prop)->Prop
structure Ends where
 nx:St->Hp->Prop
 rt:VK
 bk:St->Hp->Prop:=λ_ _=>False
 ct:St->Hp->Prop:=λ_ _=>False
abbrev TS:=Ends->St->Hp->Prop
def EP(X)(pins:List (b'×Obj))(b:St)(Q:VK)(u c):=∃v a,Inv X pins b a c/\RelV v u/\Q v a
def TP(X)(pins:List (b'×Obj))(c:St)(Q:Bool->Hp->Prop)(b d):=∃a,Inv X pins c a d/\Q b a
def AP(X)(pins:List (b'×Obj))(c:St)(Q:List V->Hp->Prop)(d:List f')(e):=∃a b,Inv X pins c b e/\Vals a d/\Q a b
def SP(X)(pins:List (b'×Obj))(D:Ends)(f:Ù)(c:g'):=
 match f with
 |.next=>∃a b,Inv X pins a b c/\D.nx a b
 |.brk=>∃a b,Inv X pins a b c/\D.bk a b
 |.cont=>∃a b,Inv X pins a b c/\D.ct a b
 |.ret u=>∃v a b,Inv X pins a b c/\RelV v u/\D.rt v b
def PE(X e)(t:TE):=
 ∀pins s (a:St) H Q,Inv X pins a H s->t a H Q->p9 (j' X.prog X.w) X.A (eval e X.env) (EP X pins a Q) X.xe s
def PT(X e)(t:TT):=
 ∀pins s (a:St) H Q,Inv X pins a H s->t a H Q->p9 (j' X.prog X.w) X.A (ò e X.env (eval e X.env)) (TP X pins a Q) X.xe s
def PW(X e)(t:TT):=
 ∀a pins s (b:St) H Q,Inv X pins b H s->t b H Q->p9 (j' X.prog X.w) X.A (ò e X.env a) (TP X pins b Q) X.xe s
variable{C3:TT}{j:x'}
theorem PW.pt(h:PW c j C3):PT c j C3:=h _
def PA(X)(c:List x')(t:TA):=
 ∀a pins s (b:St) H Q,Inv X pins b H s->t b H Q->p9 (j' X.prog X.w) X.A (spliced (Ye a (I' c X.env))) (AP X pins b Q) X.xe s
def PS(X st)(t:TS):=
 ∀pins s (a:St) H D,Inv X pins a H s->t D a H->p9 (j' X.prog X.w) X.A (exec st X.env) (SP X pins D) X.xe s
def iO(X)(st:List D')(t:TS):=
 ∀pins s (a:St) H D,Inv X pins a H s->t D a H->p9 (j' X.prog X.w) X.A (Zu st X.env) (SP X pins D) X.xe s
theorem cp{b}{t:YY b}{Q c}(h:p9 F5 L t Q S m)(d:∀a m,Q a m->c a m):p9 F5 L t c S m:=Yx h d λ_ _ x=>x
noncomputable def QA(i:Nat):TE:=λa H Q=>∃v,a[i]?=some (some v)/\Q v H
noncomputable def tC(v:V):TE:=λ_ H Q=>Q v H
variable{n:V'}
theorem kH(o:c.N[b]?=some d)(p:rQ c.env.scope d)(g:(d==("__debug__"))=false:=by decide)(i:(d==("__classdict__"))=false:=by decide):PE c (.Name d n) (QA b):=by
 intro pins s q H Q I h;obtain⟨v,e,h⟩:=h;refine bc I.loc λm t w=>?_
 obtain⟨u,r,l⟩:=w b d v o e p;have f:EP c _ q Q u s:=⟨v,H,I,r,h⟩;rcases l with ⟨hk,x⟩|⟨hk,j,k,a⟩
 .exact Ō (wpAny_loadName_local I.ok.kind hk t x f) g
 .rcases hk with hk|hk
  .exact Ō (wpAny_loadName_cell I.ok.kind hk k a f) g
  .exact Ō (wpAny_loadName_free I.ok.kind hk k a f i) g
theorem He{i j pos}:PE c (.Constant (.int i) j pos) (tC (.int i)):=λ_ _ _ H _ I h=>wpAny_Constant_int ⟨.int i,H,I.tok _,⟨_,rfl⟩,h⟩
theorem KI{b j pos}:PE c (.Constant (.bool b) j pos) (tC (.bl b)):=λ_ _ _ H _ I h=>Constant_bool ⟨.bl b,H,I,rfl,h⟩
theorem qj{x j pos}:PE c (.Constant (.str x) j pos) (tC (.str x)):=λ_ _ _ H _ I h=>Calls.Constant_str ⟨.str x,H,I.tok _,⟨_,rfl⟩,h⟩
def Gl(X:Cx)(x):=X.env.kindOf x=some .globalImplicit
variable{N1:f'->g'->Prop}{P:St}
theorem er(I:Inv c z P e m)(a:Gl c d)(b:c.mg d=some N)(h:N1 N m)(f:(d==("__debug__"))=false:=by decide):p9 (j' c.prog c.w) c.A (eval (.Name d n) c.env) N1 S m:=
 ϫ I.ok.kind a (Calls.loadGlobal_global (by rw[I.ok.glob];exact I.mod.glob.keeps I.bk) b h) f
theorem jg(I:Inv c z P e m)(a:Gl c d)(b:c.mg d=none)(f:ZR d=some N)(h:N1 N m)(g:d≠"__name__":=by decide)(i:(d==("__debug__"))=false:=by decide):p9 (j' c.prog c.w) c.A (eval (.Name d n) c.env) N1 S m:=by
 obtain⟨l,j,k⟩:=I.mod.blt;exact ϫ I.ok.kind a (Calls.loadGlobal_builtin (by rw[I.ok.glob];exact I.mod.glob.keeps I.bk) b (by rw[I.ok.blt];exact j.keeps I.bk) ((k d g).trans f) h) i
theorem Dl(a:Gl c d)(b:c.mg d=some N)(r:RelV w N)(e:(d==("__debug__"))=false:=by decide):PE c (.Name d n) (tC w):=
 λ_ _ _ H _ I h=>er I a b ⟨w,H,I,r,h⟩ e
theorem Dm(a:Gl c d)(b:c.mg d=none)(e:ZR d=some N)(r:RelV w N)(f:d≠"__name__":=by decide)(g:(d==("__debug__"))=false:=by decide):PE c (.Name d n) (tC w):=
 λ_ _ _ H _ I h=>jg I a b e ⟨w,H,I,r,h⟩ f g
noncomputable def QB(t u:TT):TT:=λa H Q=>t a H λc b=>if c=true then u a b Q else Q false b
noncomputable def Wt(t u:TT):TT:=λa H Q=>t a H λc b=>if c=true then Q true b else u a b Q
noncomputable def QC(t:TT):TT:=λa H Q=>t a H λc b=>Q (!c) b
variable{O:List x'}{Q:x'}{k7:TT}
theorem pw_and(i:PT c j C3)(k:PW c (.BoolOp .And (Q::O) n) k7):PW c (.BoolOp .And (j::Q::O) n) (QB C3 k7):=by
 intro l pins s d H a I h;refine Ϭ (cp (i _ s d H _ I h) λb m  o =>bc o λe f g=>?_)
 cases b with
 |true=>exact k l _ m d e a f g
 |false=>exact⟨e,f,g⟩
theorem pw_or(i:PT c j C3)(k:PW c (.BoolOp .Or (Q::O) n) k7):PW c (.BoolOp .Or (j::Q::O) n) (Wt C3 k7):=by
 intro l pins s d H a I h;refine isTrue_or (cp (i _ s d H _ I h) λb m  o =>bc o λe f g=>?_)
 cases b with
 |true=>exact⟨e,f,g⟩
 |false=>exact k l _ m d e a f g
theorem Hf(a:PT c j C3):PT c (.UnaryOp .Not j n) (QC C3):=by
 intro pins s b H Q I h;exact isTrue_not (a _ s b H _ I h)
variable{υ:TE}
theorem Hg{op}(h:PE c j υ):PE c (.BoolOp op [j] n) υ:=λpins s a H Q I b=>BoolOp_one (h _ s a H Q I b)
noncomputable def Kb(t:TT)(d tb:TE):TE:=λa H Q=>t a H λc b=>if c=true then d a b Q else tb a b Q
variable{A1:x'}{P2:TE}
theorem zw(k:PT c A1 C3)(l:PE c j υ)(m:PE c Q P2):PE c (.IfExp A1 j Q n) (Kb C3 υ P2):=by
 intro pins s b H a I h;refine wpAny_IfExp (cp (k _ s b H _ I h) λd e o=>?_);obtain⟨f,g,i⟩:=o
 cases d with
 |true=>exact l _ e b f a g i
 |false=>exact m _ e b f a g i
def mn(K:K')(H a)(xs:List V):=
 Rd H a (.lst xs) \/
  ∃o b n,K.lookup a=some o/\o.cls=.type "list"/\o.dict=none/\o.data=.seq b n/\b.size<=XX/\Vals xs b.toList
def ug(K:K')(H a)(xs:List V):=
 Rd H a (.tup xs) \/
  ∃o b n,K.lookup a=some o/\o.cls=.type "tuple"/\o.data=.seq b n/\b.size<=XX/\Vals xs b.toList
noncomputable def QD:f'->Option V
 |.none=>some .non
 |.bool b=>some (.bl b)
 |.int i _=>some (.int i)
 |.str x _=>some (.str x)
 |.bytes b _=>some (.Ka b)
 |.float b _=>some (.flt b)
 |.ref a=>some (.ref a)
 |.type n=>some (.ty n)
 |_=>none
theorem RelV.abs(r:RelV w N):QD N=some w:=by
 cases w with
 |non=>cases r;rfl
 |bl _=>cases r;rfl
 |int _=>obtain⟨t,rfl⟩:=r;rfl
 |str _=>obtain⟨t,rfl⟩:=r;rfl
 |Ka _=>obtain⟨t,rfl⟩:=r;rfl
 |flt _=>obtain⟨t,rfl⟩:=r;rfl
 |ref _=>cases r;rfl
 |ty _=>cases r;rfl
def RelV.inj{x y u}(r:RelV x u)(q:RelV y u):=Ú (r.abs.symm.trans q.abs)
theorem Vals.inj:∀{xs a}{b},Vals xs b->Vals a b->xs=a
 |_,_,_,.nil,.nil=>rfl
 |_,_,_,.cons r t,.cons c d=>by rw[r.inj c,Vals.inj t d]
variable{R:List V}
theorem Inv.list(I:Inv c z P e m)(a:mn c.K e h R):∃b,Vals R b/\PlainL m.heap h b.toArray/\R.length<=XX:=by
 rcases a with a|⟨o,b,n,i,j,k,l,p,r⟩
 .refine xa (a.ok I.hok) λf g=>cE g λb n r d=>⟨_,r,⟨_,n,d,rfl,rfl,rfl⟩,f⟩
 .refine⟨_,r,⟨o,n,I.eY h o i,j,k,by omega⟩,?_⟩
  have d:=r.length
  simp_all
theorem Inv.tuple(I:Inv c z P e m)(a:ug c.K e h R):∃b,Vals R b/\Ô m.heap h b.toArray/\R.length<=XX:=by
 rcases a with a|⟨o,b,n,g,i,j,k,r⟩
 .obtain⟨d,b,r,p⟩:=a.ok I.hok
  exact⟨_,r,p,d⟩
 .refine⟨_,r,⟨o,I.eY h o g,i,n,by omega⟩,?_⟩
  have f:=r.length
  simp_all
variable{z5:List V}
theorem Inv.rS(I:Inv c z P e m)(a:mn c.K e h R)(i:mn c.K e h z5):R=z5:=by
 obtain⟨f,r,⟨o,n,g,_,_,d⟩,_⟩:=I.list a;obtain⟨b,j,⟨k,l,p,_,_,q⟩,_⟩:=I.list i;have:f=b:=by simp_all
 subst this;exact r.inj j
theorem Inv.ya(I:Inv c z P e m)(a:ug c.K e h R)(i:ug c.K e h z5):R=z5:=by
 obtain⟨f,r,⟨o,g,_,n,d⟩,_⟩:=I.tuple a;obtain⟨b,j,⟨k,l,_,p,q⟩,_⟩:=I.tuple i;have:f=b:=by simp_all
 subst this;exact r.inj j
abbrev Cx.wish(X:Cx)(E:f'->g'->Prop):={X with xe:=E}
abbrev Cx.jJ(X:Cx):=X.wish λ_ _=>False
theorem Cx.Ok.wish{X:Cx}(ok:X.Ok)(E):(X.wish E).Ok:=
 ⟨ok.mod,ok.kind,ok.glob,ok.blt,ok.above,ok.inj,ok.has,ok.cab,ok.hd,ok.frames,ok.Dc,ok.Dk,ok.bs,ok.uf,ok.oE,ok.oF,ok.gv,ok.x_⟩
theorem Cx.Ok.eZ(ok:(c.wish S).Ok):c.Ok:=
 ⟨ok.mod,ok.kind,ok.glob,ok.blt,ok.above,ok.inj,ok.has,ok.cab,ok.hd,ok.frames,ok.Dc,ok.Dk,ok.bs,ok.uf,ok.oE,ok.oF,ok.gv,ok.x_⟩
theorem Inv.wish{X pins}{a:St}{H s}(I:Inv X pins a H s)(E):Inv (X.wish E) pins a H s:=⟨I.ok.wish E,I.os,I.bare,I.base,I.loc,I.cell,I.free,I.dR,I.pin,I.hok,I.len⟩
theorem Inv.eZ{X pins}{a:St}{H s E}(I:Inv (X.wish E) pins a H s):Inv X pins a H s:=⟨I.ok.eZ,I.os,I.bare,I.base,I.loc,I.cell,I.free,I.dR,I.pin,I.hok,I.len⟩
theorem SP.eZ{X pins E D f c}(h:SP (X.wish E) pins D f c):SP X pins D f c:=by
 cases f with
 |next=>obtain⟨a,b,I,q⟩:=h;exact⟨_,b,I.eZ,q⟩
 |brk=>obtain⟨a,b,I,q⟩:=h;exact⟨_,b,I.eZ,q⟩
 |cont=>obtain⟨a,b,I,q⟩:=h;exact⟨_,b,I.eZ,q⟩
 |ret u=>refine cg h λv a b I r q=>⟨v,_,b,I.eZ,r,q⟩
theorem iO.jJ{X st t}(h:iO X.jJ st t):iO X st t:=λpins s a H D I b=>
 Yx (h _ s a H D (I.wish _) b) (λ_ _ q=>q.eZ) (by simp)
noncomputable def QE(t u:TS):TS:=λD a H=>t {D with nx:=u D} a H
variable{W1:List D'}{X:D'}{m8 o6:TS}
theorem zx(a:PS c X o6)(b:iO c W1 m8):iO c (X::W1) (QE o6 m8):=by
 intro pins s d H D I h;refine ĕ (cp (a _ s d H _ I h) λf e q=>?_)
 cases f with
 |next=>
  refine cE q λg i j q=>b _ e _ i D j q
 |ret v=>exact q
 |brk=>exact q
 |cont=>exact q
theorem qk(a:PS c X o6):iO c [X] o6:=by
 intro pins s b H D I h;refine ĕ (cp (a _ s b H D I h) λf d q=>?_)
 cases f with
 |next=>exact ZS q
 |ret v=>exact q
 |brk=>exact q
 |cont=>exact q
theorem Inv.quiet(I:Inv c z P e m):ϭ c.env=false:=by simp[ϭ,I.ok.kind]
noncomputable def KJ(b:TE):TS:=λD a H=>b a H λ_ c=>D.nx a c
theorem vD(b:PE c j υ)(d:YR j none n.line c.env=pure false:=by rfl):PS c (.Expr j n) (KJ υ):=by
 intro pins s a H D I h;exact Ϯ (cp (b _ s a H _ I h) λv k  e =>aF e λx f g l i=>⟨a,f,g,i⟩) I.quiet d
noncomputable def QF(c:TT)(t u:TS):TS:=λD a H=>c a H λb d=>if b=true then t D a d else u D a d
variable{w6:List D'}
theorem KL(i:PT c j C3)(k:iO c W1 o6)(l:iO c w6 m8):PS c (.If j W1 w6 n) (QF C3 o6 m8):=by
 intro pins s a H D I h;refine wpAny_If (cp (i _ s a H _ I h) λd b m=>?_);obtain⟨e,f,g⟩:=m
 cases d with
 |true=>exact k _ b a e D f g
 |false=>exact l _ b a e D f g
abbrev TG:=V->St->Hp->(St->Hp->Prop)->Prop
abbrev FY:=List V->St->Hp->(St->Hp->Prop)->Prop
def PG(X a)(t:TG):=
 ∀pins s (c:St) H v u Q,Inv X pins c H s->RelV v u->t v c H Q ->
  p9 (j' X.prog X.w) X.A (Ė a X.env u) (λ_ e=>∃b d,Inv X pins b d e/\Q b d) X.xe s
def KN(X)(f:List x')(t:FY):=
 ∀pins s (b:St) H c d Q,Inv X pins b H s->Vals c d->t c b H Q ->
  p9 (j' X.prog X.w) X.A (assignInOrder ((Zv f X.env).map (·.2)) d) (λ_ g=>∃a e,Inv X pins a e g/\Q a e) X.xe s
noncomputable def jK(i:Nat):TG:=λv a H Q=>Q (a.set i (some v)) H
theorem iq(a:c.N.Nodup)(e:c.N[b]?=some d)(f:Loc c.env.scope d)(g:c.fn d=true\/c.env.scope.names.lookup d=some .local:=by first|exact .inl rfl|exact .inr rfl|assumption):PG c (.Name d n) (jK b):=by
 intro pins s j H v u Q I r h;exact ϯ (mR I a e f r (λk i=>⟨_,H,i,h⟩) g)
noncomputable def KO:FY:=λa b H Q=>a=[]/\Q b H
noncomputable def FZ(t:TG)(u:FY):FY:=λb c H Q=>∃v r,b=v::r/\t v c H λa d=>u r a d Q
theorem vE:KN c [] KO:=by
 intro pins s a H b d Q I r h;obtain⟨e,h⟩:=h;exact assignInOrder_nil ⟨a,H,I,h⟩
variable{D5:TG}
theorem mS{u}(a:PG c j D5)(b:KN c O u)(d:(Zv (j::O) c.env).map (·.2)=Ė j c.env::(Zv O c.env).map (·.2):=by rfl):KN c (j::O) (FZ D5 u):=by
 intro pins s e H o p Q I r h;obtain⟨v,vr,f,h⟩:=h;subst f;cases r with
 |cons r g=>
  rw[d];refine assignInOrder_cons (cp (a _ s e H _ _ _ I r h) λ_ i  k =>cE k λ_ l m n=>b _ i _ l _ _ Q m g n)
noncomputable def uh(K:K')(n:Nat)(t:FY):TG:=λv c H Q=>∃a b,v=.ref a/\ug K H a b/\b.length=n/\t b c H Q
theorem zy{t}(j:c.calm=true)(h:KN c O t)(k:(Zv O c.env).length=s:=by rfl)(f:(Zv O c.env).findIdx? (·.1)=none:=by rfl):PG c (.Tuple O b n) (uh c.K s t):=by
 intro pins i l H v u Q I r g;obtain⟨a,m,p,q,w,g⟩:=g;subst p;cases r;refine bx (I.tuple q) λx y z B=>?_
 refine assign_Tuple_tuple (I.ok.hd j) z (by simp[k,←w,y.length]) f λC A=>?_
 exact h _ _ l H m _ Q (I.kept λd o e=>A d o (N' (O' e)) e) (by omega) g
noncomputable def Hh(b:TE)(g:TG):TS:=λD a H=>b a H λx c=>g x a c D.nx
theorem Hi(b:PE c Q υ)(d:PG c j D5)(e:swapsWithSole [j] Q n.line c.env=pure false:=by rfl)(f:swappedStores [j] Q c.env=pure none:=by rfl)(g:(Zv [j] c.env).map (·.2)=[Ė j c.env]:=by rfl):PS c (.Assign [j] Q n) (Hh υ D5):=by
 intro pins s a H D I h;refine wpAny_Assign_stores (cp (b _ s a H _ I h) λv i k=>?_) e f;refine aF k λx l m o p=>?_
 rw[g];exact cp (d _ i a l x v _ m o p) λ_ r q=>q
variable{J:V'}
theorem Hj(a:c.N.Nodup)(e:c.N[b]?=some d)(f:Loc c.env.scope d)(g:PE c j υ)(i:YR j (some (.Name d J)) n.line c.env=pure false:=by rfl)(k:c.fn d=true\/c.env.scope.names.lookup d=some .local:=by first|exact .inl rfl|exact .inr rfl|assumption):
  PS c (.Assign [.Name d J] j n) (Hh υ (jK b)):=by
 intro pins s l H D I h;refine wpAny_Assign_Name (cp (g _ s l H _ I h) λv u  m =>aF m λy o p q r=>mR p a e f q (λw t=>⟨_,o,t,r⟩) k) i
noncomputable def Hk(c:TT)(tb:TS):TS:=λD a H=>∃W:Nat->St->Hp->Prop,(∃m,W m a H)/\∀m a H,W m a H ->
 c a H λb e=>if b=true then ∃N,(∀d f,N d f->∃g,g<m/\W g d f)/\tb {D with nx:=N,ct:=N,bk:=D.nx} a e else D.nx a e
theorem zA(t:ó (j' c.prog c.w) c.A c.env c.xe)(C:PT c j C3)(E:iO c W1 o6):PS c (.While j W1 [] n) (Hk C3 o6):=by
 intro pins s F H D I h;obtain⟨W,⟨G,J⟩,d⟩:=h;refine wpAny_While (codeAny_whileLoop (λa K=>∃e u,Inv c _ e u K/\W a e u) ?_ G ⟨F,H,I,J⟩)
 rintro a L ⟨M,x,O,P⟩;refine Ä t (cp (C _ L _ x _ O (d a _ x P)) λb Q R=>?_);refine bc R λy z i=>?_
 cases b with
 |true=>
  refine bc i λN B i=>?_
  refine Ä t (cp (E _ Q _ y _ z i) λf S k=>?_)
  cases f with
  |next=>
   obtain⟨l,g,m,o⟩:=k;obtain⟨p,q,r⟩:=B _ g o;exact⟨p,q,_,g,m,r⟩
  |cont=>
   obtain⟨l,g,m,o⟩:=k;obtain⟨p,q,r⟩:=B _ g o;exact⟨p,q,_,g,m,r⟩
  |brk=>exact k
  |ret v=>exact k
 |false=>
  exact ZS ⟨_,y,z,i⟩
structure It where
 go:Nat->Hp->Prop
 NX:Nat->Hp->V->Hp->Prop
 stop:Nat->Hp->Prop
def oG(X:Cx)(pins:List (b'×Obj))(H:Hp)(b):=
 H b=none/\b≠X.env.locals/\b∉X.fs/\(b∈X.ex\/X.s₀.heap.objs.size<=b)/\(∀x c,X.env.cells.lookup x=some c->c≠b)/\∀p∈X.pn++pins,p.1≠b
theorem Inv.yb(I:Inv c z P e m)(f:m.heap.objs.size<=h)(g:π h=none):oG c z π h:=by
 refine⟨g,Ym (U' I.lt f),I.Qz f,.inr (B' I.sz f),λx b d a=>?_,λp i a=>?_⟩
 .obtain⟨v,q⟩:=I.cell x b d
  exact absurd (U' q.lt (by rwa[a])) (Yr _)
 .exact absurd (U' (O' (I.pin p i).1) (by rwa[a])) (Yr _)
structure Turn(P:Yc)(w:X_)(K:K')(tg:x')(J:It)(fp:List b')(it:b')(tn:Nat->F'->Prop):Prop where
 mem:it∈fp
 obj:∀i h,tn i h->∀b∈fp,∃o,h.get? b=some o/\∀v,o.data≠.cell v
 keep:∀i h h',tn i h->(∀b∈fp,∀o,h.get? b=some o->h'.get? b=some o)->tn i h'
 item:∀(X:Cx),X.prog=P->X.w=w->X.K=K->X.calm=true->∀(i:Nat) (pins:List (b'×Obj)) (s:g') (σ:St) (H:Hp) (E:f'->g'->Prop),Inv X pins σ H s->(∀b∈fp,oG X pins H b)->tn i s.heap->J.go i H ->
  p9 (j' P w) X.A (Å (.ref it)) (λr s1=>∃u,r=some u /\
   p9 (j' P w) X.A (ō tg (.ref it) u) (λ_ s2=>∃x H',Inv X pins σ H' s2/\RelV x u/\J.NX i H x H'/\tn (i+1) s2.heap/\∀b∈fp,H' b=none) E s1) E s
 done:∀(X:Cx),X.prog=P->X.w=w->X.K=K->X.calm=true->∀(i:Nat) (pins:List (b'×Obj)) (s:g') (σ:St) (H:Hp) (E:f'->g'->Prop),Inv X pins σ H s->(∀b∈fp,oG X pins H b)->tn i s.heap->J.stop i H ->
  p9 (j' P w) X.A (Å (.ref it)) (λr s1=>r=none/\Inv X pins σ H s1) E s
 self:∀(A:Yi) (i:Nat) (s:g') (Q:f'->g'->Prop) (E:f'->g'->Prop),tn i s.heap->Q (.ref it) s->p9 (j' P w) A (ZT (.ref it)) Q E s
abbrev TI:=St->Hp->(It->Hp->Prop)->Prop
def PIE(X)(pins:List (b'×Obj))(h:St)(i)(R:It->Hp->Prop)(a:f')(d):=
 ∃e f g J c,a=.ref e/\Inv X pins h c d/\Turn X.prog X.w X.K i J f e g/\g 0 d.heap/\(∀b∈f,oG X pins c b)/\R J c
def PI(X b iter)(c:TI):=
 ∀pins s (a:St) H R,Inv X pins a H s->c a H R ->
  p9 (j' X.prog X.w) X.A (eval iter X.env) (λv d=>p9 (j' X.prog X.w) X.A (ZT v) (PIE X pins a b R) X.xe d) X.xe s
variable{A3:String}{B3:Array f'}
theorem rT(b:m.heap.get? h=some Ξ)(c:Ξ.cls=.type A3)(d:Ξ.data=.fields B3)(e:["enumerate","zip","dict_itemiterator","dict_reverseitemiterator","odict_iterator","itertools.zip_longest","itertools.pairwise"].contains A3=false)(a:Q1 () m):p9 F5 L (ō j (.ref h) N) Q1 S m:=by
  cases j<;>first
    |exact T' a
    | (cases N<;>first
        |exact T' a
        | (refine nc (ϰ b ?_)
           rw[c,d]
           show p9 F5 L (if (["enumerate","zip","dict_itemiterator","dict_reverseitemiterator","odict_iterator","itertools.zip_longest","itertools.pairwise"].contains A3&&B3[0]?==some _)=true then _ else _) Q1 S m
           rw[if_neg (by grind)]
           exact T' a))
noncomputable def QG(K:K')(a:b'):It:=
 ⟨λi H=>∃b x,mn K H a b/\b[i]?=some x,λi H x c=>c=H/\∀b,mn K H a b->b[i]?=some x,λi H=>∃b,mn K H a b/\b.length<=i⟩
noncomputable def Vo(K:K')(a:b'):It:=
 ⟨λi H=>∃b x,ug K H a b/\b[i]?=some x,λi H x c=>c=H/\∀b,ug K H a b->b[i]?=some x,λi H=>∃b,ug K H a b/\b.length<=i⟩
noncomputable def NY(a:Int)(n:Nat):It:=⟨λi _=>i<n,λi H x b=>b=H/\x=.int (a+i),λi _=>n<=i⟩
variable{G:K'}
theorem yc(a g):Turn v x G j (QG G a) [g] g (λi h=>h.IsListIter g a i) where
 mem:=by simp
 obj:=λi h f b l=>by
  refine bx f λo e c d=>?_
  simp_all
 keep:=λi h M f k=>f.at λo e=>k g (by simp) o e
 item:=by
  intro X t w y N i pins s O H E I q f z;subst t w y;refine cE z λP m r A=>?_
  refine bx (I.list r) λB C p Q=>?_
  refine bc (C.get A) λu R S=>?_
  refine dU (q g (by simp)) λD F T J K L=>?_
  refine ϱ f p.isList (by simpa using R) λM n U=>?_
  refine bx (id n) λo e c d=>?_
  exact⟨u,rfl,rT e c d (by decide) ⟨m,H,(I.turned (λb o l e=>(U.2 b l).trans e) D F J K L),S,⟨rfl,λys V=>by rwa[I.rS V r]⟩,n,λb l=>(q b l).1⟩⟩
 done:=by
  intro X t w y N i pins s O H E I q f z;subst t w y;refine bc z λP r A=>?_
  refine bx (I.list r) λB C p Q=>?_
  refine dU (q g (by simp)) λD F T J K L=>?_
  have Y:=C.length;exact ϲ (I.ok.hd N) f p.isList (by simp;exact B' (M' Y.symm) A) λM Z=>⟨rfl,I.turned (λb o l e=>Z b o l e) D F J K L⟩
 self:=λ_ _ _ _ _ f h=>wpAny_pyIter_listiter f h
theorem ui(a g):Turn v x G j (Vo G a) [g] g (λi h=>h.IsTupleIter g a i) where
 mem:=by simp
 obj:=λi h f b n=>by
  refine bx f λo e c d=>?_
  simp_all
 keep:=λi h M f k=>f.at (by simp_all)
 item:=by
  intro X r t w N i pins s O H E I y f z;subst r t w;refine cE z λP l q A=>?_
  refine bx (I.tuple q) λB C p Q=>?_
  refine bc (C.get A) λu R S=>?_
  refine dU (y g (by simp)) λD F T J K L=>?_
  refine wpAny_pyNext_tuple_item f (p) (by simpa using R) λM m U=>?_
  refine bx (id m) λo e c d=>?_
  exact⟨u,rfl,rT e c d (by decide) ⟨l,H,(I.turned (b:=s.toks) (λb o n e=>(U.2 b n).trans e) D F J K L),S,⟨rfl,λys V=>by rwa[I.ya V q]⟩,m,by simp_all⟩⟩
 done:=by
  intro X r t w N i pins s O H E I y f z;subst r t w;refine bc z λP q A=>?_
  refine bx (I.tuple q) λB C p Q=>?_
  refine dU (y g (by simp)) λD F T J K L=>?_
  have Y:=C.length;exact wpAny_pyNext_tuple_end (I.ok.hd N) f (p) (by simp;exact B' (M' Y.symm) A) λM Z=>⟨rfl,I.turned (λb o n e=>Z b o n e) D F J K L⟩
 self:=λ_ _ _ _ _ f h=>wpAny_pyIter_tupleiter f h
theorem uj{w}(c f n):Turn v w G j (NY f n) [c] c (λi h=>IsRangeIter h c (f+i*1) (n - i) 1) where
 mem:=by simp
 obj:=λi h a b g=>by
  simp_all
 keep:=λi h z a k=>k c (by simp) _ a
 item:=by
  intro X A B C l i pins s F H E I m a p;subst A B C;refine dU (m c (by simp)) λq r J u x y=>?_
  have W:=Walks.range (prog:=X.prog) (w:=X.w) (I.ok.hd l) c f 1 n;refine W.item i s _ _ p a λD z N K d L=>?_
  obtain⟨t,rfl⟩:=K;refine⟨_,rfl,rT d rfl rfl (by decide) ⟨.int _,H,(I.turned (λb o g e=>L b o (by simp_all) e) q r u x y),⟨t,?_⟩,⟨rfl,rfl⟩,d,by simp_all⟩⟩
  simp
 done:=by
  intro X A B C l i pins s F H E I m a p;refine dU (m c (by simp)) λq r J u x y=>?_
  exact wpAny_pyNext_range_end (I.ok.hd l) a (by have:n<=i:=p;omega) λz M=>⟨rfl,I.turned (λb o g e=>M b o g e) q r u x y⟩
 self:=λ_ _ _ _ _ a h=>wpAny_pyIter_rangeiter a h
variable{G6:YD}{S0 U:Int}{T7:It->Hp->Prop}
theorem zB{s u v}(I:Inv c z P e s)(g : -(2 ^ 62)<=U)(h:U<2 ^ 62)(i : -(2 ^ 62)<=S0)(k:S0<2 ^ 62)(q:T7 (NY U (S0 - U).toNat) e):p9 (j' c.prog c.w) c.A (ZT (.ref s.heap.objs.size)) (PIE c z P j T7) S {s with heap:=s.heap.push {cls:=.type "range",data:=.fields #[.int U G6,.int S0 u,.int 1 v]},toks:=b}:=by
 refine wpAny_pyIter_range (IsRange.new ..) (small_one g h i k) ?_;have f:Inv c _ P e {s with heap:=s.heap.push {cls:=.type "range",data:=.fields #[.int U G6,.int S0 u,.int 1 v]},toks:=b}:=I.kept λd o a=>X' _ a
 refine⟨_,_,_,_,e,rfl,
  f.kept λd o a=>X' _ a,uj _ U _,?_,λd n=>?_,q⟩
 .have l:U+((0:Nat))*1=U:=by simp
  have m:(((S0 - U).toNat)) - ((0:Nat))=abT U S0 1:=by rw[rangeSize_one];grind
  rw[l,m];exact Yu _ rfl
 .have a:d=(s.heap.push {cls:=.type "range",data:=.fields #[.int U G6,.int S0 u,.int 1 v]}).objs.size:=by simp_all
  subst a;exact f.yb (XZ _) (f.hok.fresh (XZ _))
def KP(a:TA):TI:=λb H R=>a b H λc d=>∃j,c=[.int j] /\ -(2 ^ 62)<=j/\j<2 ^ 62/\R (NY 0 j.toNat) d
variable{y3:TA}
theorem yd(d:Gl c "range")(f:c.mg "range"=none)(g:PA c [Q] y3)(i:I' [Q] c.env=[(false,eval Q c.env)]:=by rfl):PI c j (.Call (.Name "range" n) [Q] [] J) (KP y3):=by
 intro pins s k H R I h;refine Call_ (jg I d f boot_range (ô (cp (g _ _ s k H _ I h) λw x l=>?_) i rfl));refine aF l λy z m o a=>?_
 obtain⟨b,e,a,p,q⟩:=a;subst e;cases o with
 |cons r u=>
  cases u;obtain⟨t,rfl⟩:=r;exact call_range_1 (zB m (by decide) (by decide) a p (by simp_all))
noncomputable def QH(f:TI)(g:TG)(tb:TS):TS:=λD a H=>f a H λJ h=>∃W:Nat->Nat->St->Hp->Prop,(∃m,W 0 m a h)/\∀i m a H,W i m a H ->
 (J.stop i H/\D.nx a H)\/(J.go i H/\∃N,(∀b c,N b c->∃e,e<m/\W (i+1) e b c)/\∀x c,J.NX i H x c->g x a c λd j=>tb {D with nx:=N,ct:=N,bk:=D.nx} d j)
noncomputable def ql(fp:List b')(h:F'):=fp.filterMap λb=>(h.get? b).map λo=>(b,o)
theorem gw(a:h∈r)(e:B.get? h=some Ξ):(h,Ξ)∈ql r B:=ϳ.mpr ⟨h,a,by rw[e];rfl⟩
theorem ye{p}(a:p∈ql r B):p.1∈r/\B.get? p.1=some p.2:=by
 obtain⟨b,c,e⟩:=ϳ.mp a;cases q:B.get? b with
 |none=>simp_all
 |some o=>
  grind
theorem Inv.pinned(I:Inv c z P e m)(g:∀b∈r,oG c z e b)(j:∀b∈r,∃o,m.heap.get? b=some o/\∀v,o.data≠.cell v):Inv c (z++ql r m.heap) P e m:=
 I.vC λp h=>(Yz.mp h).elim (λa=>I.pin p (Zw _ a)) λa=>by
  obtain⟨i,f⟩:=ye a;refine oC (g _ i) λk l d=>xa d λn _=>?_
  grind
theorem Inv.jL{pl}(I:Inv c (z++pl) P e m):Inv c z P e m:=I.vC λp a=>I.pin p (by simp_all)
variable{o7:TI}
theorem Hl(E:ó (j' c.prog c.w) c.A c.env c.xe)(Y:c.calm=true)(hi:PI c j Q o7)(hg:PG c j D5)(k:iO c W1 o6)(hs:∀x,ZU Q c.env x=pure x:=by intro _;rfl):PS c (.For j Q W1 [] n) (QH o7 D5 o6):=by
 intro pins s Z H D I h;refine wpAny_For (cp (hi pins s Z H _ I h) λv s1 h1=>cp h1 λa0 s2 h2=>?_) hs
 obtain⟨it,M,tn,J,H2,e,I2,T,P,f2,W,⟨m0,w0⟩,F⟩:=h2;subst e;have l:∀{z:Hp},(∀b∈M,z b=none)->∀b∈M,oG c pins z b:=λhn b k=>⟨hn b k,(f2 b k).2⟩
 refine codeAny_forLoop_any (λg s'=>∃i p z,Inv c pins p z s'/\tn i s'.heap/\(∀b∈M,z b=none)/\W i g p z) ?_ m0 ⟨0,Z,H2,I2,P,λb k=>(f2 b k).1,w0⟩
 intro g s3 zr;refine dG zr λi q O I3 G K w3=>?_;rcases F i g q O w3 with ⟨stop,qn⟩|⟨go,N,hN,step⟩
 .refine Ä E (cp (T.done c rfl rfl rfl Y i pins s3 q O _ I3 (l K) G stop) λr s4  R =>xa R λS I4=>?_)
  subst S;exact ZS ⟨q,O,I4,qn⟩
 .refine Ä E (cp (T.item c rfl rfl rfl Y i _ s3 q O _ I3 (l K) G go) λr s4 U=>?_);refine bc U λu S h4=>?_
  subst S;refine Ä E (cp h4 λ_ s5 U=>?_);refine eK U λx H5 I5 r5 y5 C V=>?_
  refine Ä E (cp (hg _ s5 q H5 x u _ (I5.pinned (l V) (T.obj _ _ C)) r5 (step x H5 y5)) λ_ s6  R =>cE R λX H6 I6 q6=>?_)
  refine Ä E (cp (k _ s6 X H6 _ I6 q6) λf s7 B=>?_)
  have õ:∀{a:St}{t:Hp},Inv c _ a t s7->N a t->∃m,m<g/\∃i p z,Inv c pins p z s7/\tn i _/\(∀b∈M,z b=none)/\W i m p z:=λ{a t} y L=>by
   obtain⟨m',hm,w7⟩:=hN a t L;refine⟨m',hm,_,a,t,y.jL,T.keep _ _ _ C λb k o e=>(y.pin _ (Zw _ (Zw _ (gw k e)))).1,λb k=>?_,w7⟩
   obtain⟨o,e,d⟩:=T.obj _ _ C b k;exact(y.pin _ (Zw _ (Zw _ (gw k e)))).2.1
  cases f with
  |next=>obtain⟨a,t,y,L⟩:=B;exact õ y L
  |cont=>obtain⟨a,t,y,L⟩:=B;exact õ y L
  |brk=>obtain⟨a,t,y,B⟩:=B;exact⟨a,t,y.jL,B⟩
  |ret v=>refine cg B λx7 a t y r7 B=>?_;exact⟨x7,a,t,y.jL,r7,B⟩
abbrev R2:=V->V->Hp->VK->Prop
def kI(X)(f:f'->f'->YY f')(r:R2):=
 ∀pins s (a:St) H x y v u Q,Inv X pins a H s->RelV x v->RelV y u->r x y H Q ->
  p9 (j' X.prog X.w) X.A (f v u) (EP X pins a Q) X.xe s
def fb(X f)(r:List V->Hp->VK->Prop):=
 ∀pins s (a:St) H b c Q,Inv X pins a H s->Vals b c->r b H Q ->
  p9 (j' X.prog X.w) X.A (call f c) (EP X pins a Q) X.xe s
def QI(X)(r:V->Hp->(Bool->Hp->Prop)->Prop):=
 ∀pins s (a:St) H x v Q,Inv X pins a H s->RelV x v->r x H Q ->
  p9 (j' X.prog X.w) X.A (ė v) (TP X pins a Q) X.xe s
noncomputable def Hm(r:R2)(b tb:TE):TE:=λa H Q=>b a H λx c=>tb a c λy d=>r x y d Q
noncomputable def rI(C:Int->Int->Prop)(g:Int->Int->V):R2:=λx y H Q=>∃i j,x=.int i/\y=.int j/\C i j/\Q (g i j) H
noncomputable def NZ(g:Int->Int->V):R2:=λx y H Q=>∃i j,x=.int i/\y=.int j/\Q (g i j) H
variable{i7:f'->f'->YY f'}
theorem Hn(i:PE c j υ)(k:PE c Q P2){R:V->V->Hp->Prop}(I:Inv c z P e m)(h:υ P e λx g=>P2 P g λy a=>R x y a)(l:∀v u f x y a,Inv c z P a f->RelV x v->RelV y u->R x y a->p9 (j' c.prog c.w) c.A (i7 v u) S c.xe f):
  p9 (j' c.prog c.w) c.A (eval j c.env) (λv b=>p9 (j' c.prog c.w) c.A (eval Q c.env) (λu d=>p9 (j' c.prog c.w) c.A (i7 v u) S c.xe d) c.xe b) c.xe m:=by
 refine cp (i _ m P e _ I h) λv n ⟨x,g,I1,r1,q1⟩=>?_
 refine cp (k _ n P g _ I1 q1) λu f ⟨y,a,I2,r2,q2⟩=>l v u f x y a I2 r1 r2 q2
variable{n5:R2}{t9:Û}
theorem zC(b:kI c (Ü t9) n5)(d:PE c j υ)(e:PE c Q P2):PE c (.BinOp j t9 Q n) (Hm n5 υ P2):=by
 intro pins s f H a I h;exact wpAny_BinOp (Hn d e I h λv u g x y i k l m q=>b _ g f i x y v u a k l m q)
theorem N_{C}{g:Int->Int->Int}(rule:∀i j t u s Q E,C i j->Q (.int (g i j) s.toks) {s with toks:=s.toks+1}->p9 (j' c.prog c.w) c.A (i7 (.int i t) (.int j u)) Q E s):
  kI c i7 (rI C λi j=>.int (g i j)):=by
 intro pins s f H x y v u Q I a b h;obtain⟨i,j,rfl,rfl,d,q⟩:=h;obtain⟨t,rfl⟩:=a;obtain⟨e,rfl⟩:=b;exact rule i j t e s _ _ d ⟨.int _,H,I.tok _,⟨_,rfl⟩,q⟩
theorem KQ{g:Int->Int->Int}(rule:∀i j t u s Q E,Q (.int (g i j) s.toks) {s with toks:=s.toks+1}->p9 (j' c.prog c.w) c.A (i7 (.int i t) (.int j u)) Q E s):
  kI c i7 (NZ λi j=>.int (g i j)):=by
 intro pins s e H x y v u Q I a b h;obtain⟨i,j,rfl,rfl,q⟩:=h;obtain⟨t,rfl⟩:=a;obtain⟨d,rfl⟩:=b;exact rule i j t d s _ _ ⟨.int _,H,I.tok _,⟨_,rfl⟩,q⟩
theorem Dp{g:Int->Int->Bool}(rule:∀i j t u s Q E,Q (.bool (g i j)) s->p9 (j' c.prog c.w) c.A (i7 (.int i t) (.int j u)) Q E s):
  kI c i7 (NZ λi j=>.bl (g i j)):=by
 intro pins s e H x y v u Q I a b h;obtain⟨i,j,rfl,rfl,q⟩:=h;obtain⟨t,rfl⟩:=a;obtain⟨d,rfl⟩:=b;exact rule i j t d s _ _ ⟨.bl _,H,I,rfl,q⟩
def KR(i j:Int):=0<j/\j<1073741824
def QJ(i j:Int):=0<=j/\j<=1000000/\i.natAbs<2 ^ 64
def Ho(i j):=(-(2 ^ 64)<i/\i<2 ^ 64)\/(-(2 ^ 64)<j/\j<2 ^ 64)
theorem Ho.ok(h:Ho U S0):IntMulOk U S0:=by
 rcases h with ⟨a,b⟩|⟨a,b⟩
 .exact .of_left (ϴ a b)
 .exact .of_right (ϴ a b)
theorem Hq:kI c (Ü .Add) (NZ λi j=>.int (i+j)):=KQ λ_ _ _ _ _ _ _ q=>add_int q
theorem Dq:kI c (Ü .FloorDiv) (rI KR λi j=>.int (i / j)):=N_ λi j _ _ _ _ _ a q=>by
 have b:=a.1;have d:=a.2;exact floordiv_int (Ę b) (by rwa[Int.fdiv_eq_ediv_of_nonneg i (ϵ b)]) (.inl (PyProof.noPylong_small (by omega)))
theorem Hr:kI c (Ü .Mod) (rI (λ_ j=>0<j) λi j=>.int (i%j)):=N_ λi j _ _ _ _ _ a q=>mod_int' (Ę a) (by rwa[Int.fmod_eq_emod_of_nonneg i (ϵ a)])
variable{A2 E:Bool}{ξ:VK}
theorem qm(I:Inv c z P e m)(q:ξ (.bl E) e)(a:E=A2):EP c z P ξ (.bool A2) m:=by
 subst a;exact⟨.bl E,e,I,rfl,q⟩
theorem yf:kI c (YF .In) (λx y H Q=>∃i j,x=.str i/\y=.str j/\Q (.bl (!(ę j i 0 j.length 1).isEmpty)) H):=by
 intro pins s d H x y v u Q I a b h;obtain⟨i,j,rfl,rfl,q⟩:=h;obtain⟨t,rfl⟩:=a;obtain⟨e,rfl⟩:=b;exact in_str (qm I q rfl)
theorem zD:kI c (YF .Is) (λx y H Q=>y=.non/\Q (.bl (decide (x=.non))) H):=by
 intro pins s d H x y v u Q I a b h;obtain⟨rfl,q⟩:=h;cases b;refine is_none_gen (qm I q ?_)
 cases x<;>first
  | (obtain⟨t,rfl⟩:=a;rfl)
theorem vF:kI c (YF .IsNot) (λx y H Q=>y=.non/\Q (.bl (!decide (x=.non))) H):=by
 intro pins s d H x y v u Q I a b h;obtain⟨rfl,q⟩:=h;cases b;refine isnot_none_gen (qm I q ?_)
 cases x<;>first
  | (obtain⟨t,rfl⟩:=a;rfl)
theorem qo:kI c (YF .NotIn) (λx y H Q=>∃i j,x=.str i/\y=.str j/\Q (.bl (!(!(ę j i 0 j.length 1).isEmpty))) H):=by
 intro pins s d H x y v u Q I a b h;obtain⟨i,j,rfl,rfl,q⟩:=h;obtain⟨t,rfl⟩:=a;obtain⟨e,rfl⟩:=b;exact notIn_str (qm I q rfl)
variable{v8:R2}
theorem kI.or(h:kI c i7 n5)(e:kI c i7 v8):kI c i7 (λx y H Q=>n5 x y H Q\/v8 x y H Q):=by
 intro pins s a H x y v u Q I b d q;rcases q with q|q
 .exact h _ s a H x y v u Q I b d q
 .exact e _ s a H x y v u Q I b d q
variable{Y3:Zh}
theorem jM(b:kI c (YF Y3) n5)(d:PE c j υ)(e:PE c Q P2)(f:Ě Y3 Q=false):PE c (.Compare j [Y3] [Q] n) (Hm n5 υ P2):=by
 intro pins s g H a I h;exact wpAny_Compare1 (Hn d e I h λv u i x y k l m o q=>b _ i g k x y v u a l m o q) f
noncomputable def zE(t:TE):TT:=λa H Q=>t a H λx b=>∃k,x=.bl k/\Q k b
theorem jN(i:kI c (YF Y3) n5)(l:PE c j υ)(m:PE c Q P2)(o:Ě Y3 Q=false):PT c (.Compare j [Y3] [Q] n) (zE (Hm n5 υ P2)):=by
 intro pins s a H f I h
 refine Ϸ (cp (l _ s a H _ I h) λv p  b =>aF b λx q r t w=>cp (m _ p a q _ r w) λu A  b  =>
  aF b λy B C D E=>cp (i _ A a B x y v u _ C t D E) λg M F=>?_) o;refine aF F λz G J K d=>bc d λk e L=>?_
 subst e;cases K;exact ZV ⟨G,J,L⟩
noncomputable def uk(r c:R2)(d tb e:TE):TE:=λa H Q=>d a H λx f=>tb a f λy g=>r x y g λz b=>∃k,z=.bl k /\
 (if k=true then e a b λh i=>c y h i Q else Q (.bl false) b)
variable{J8:Zh}{S8:TE}
theorem zF(q:kI c (YF Y3) n5)(g:kI c (YF J8) v8)(r:PE c j υ)(t:PE c Q P2)(w:PE c A1 S8)(A:Ŏ [Y3,J8] [Q,A1]=false:=by with_unfolding_all rfl):PE c (.Compare j [Y3,J8] [Q,A1] n) (uk n5 v8 υ P2 S8):=by
 intro pins s a H b I h
 refine Compare_chain (cp (r _ s a H _ I h) λv B f=>?_) A;refine aF f λx C D E F=>?_;refine chain_link (cp (t _ B a C _ D F) λu G f=>
  ?_);refine aF f λy J K l L=>?_;refine cp (q _ G a J x y v u _ K E l L) λd M f=>?_;refine aF f λz m o N i=>bc i λk e p=>?_
 subst e;cases N;refine ZV ?_;cases k with
 |false=>exact ite_ff ⟨.bl _,m,o,rfl,p⟩
 |true=>exact ite_tt (chain_last (cp (w _ M a m _ o p) λO P  R =>aF R λS T U V X=>g _ P a T y S u O b U l V X))
theorem zG(q:kI c (YF Y3) n5)(g:kI c (YF J8) v8)(r:PE c j υ)(t:PE c Q P2)(w:PE c A1 S8)(A:Ŏ [Y3,J8] [Q,A1]=false:=by with_unfolding_all rfl):PT c (.Compare j [Y3,J8] [Q,A1] n) (zE (uk n5 v8 υ P2 S8)):=by
 intro pins s f H i I h
 refine isTrue_chain (cp (r _ s f H _ I h) λv B a=>?_) A;refine aF a λx C D E F=>?_;refine test_link (cp (t _ B f C _ D F) λu G a=>
  ?_);refine aF a λy J K l L=>?_;refine cp (q _ G f J x y v u _ K E l L) λd M a=>?_;refine aF a λz m o N b=>bc b λk e p=>?_
 subst e;cases N;refine ZV ?_;cases k with
 |false=>
  refine bc p λk' O P=>?_
  cases O;exact ite_ff ⟨m,o,P⟩
 |true=>
  refine ite_tt (test_last (cp (w _ M f m _ o p) λR S ⟨T,H4,I4,r4,q4⟩=>cp (g _ S f H4 y T u R _ I4 l r4 q4) λd' s5 a=>?_));refine aF a λz2 U V X b=>bc b λk2 Y Z=>?_
  subst Y;cases X;exact ZV ⟨U,V,Z⟩
def rU(K:K')(x:V)(H:Hp)(k:Bool):Prop:=
 match x with
 |.non=>k=false
 |.bl b=>k=b
 |.int i=>k=(i != 0)
 |.str y=>y.length<=XX/\k=((y.length:Int) != 0)
 |.Ka y=>y.size<=XX/\k=((y.size:Int) != 0)
 |.ref p=>(∃a,mn K H p a/\k=!a.isEmpty)\/(∃a,ug K H p a/\k=!a.isEmpty)\/∃c,H p=some (.dK c)/\k=!c.isEmpty
 |_=>False
theorem um{a}{kvs:List (a×V)}{b}(r:KV kvs b):(!b.isEmpty)=!kvs.isEmpty:=by
 cases r<;>rfl
variable{Δ:List f'}
theorem mT(r:Vals R Δ):(!Δ.toArray.isEmpty)=!R.isEmpty:=by
 cases r<;>simp
theorem jh:XX<2 ^ 63:=by decide
theorem qq:QI c (λx H Q=>∃k,rU c.K x H k/\Q k H):=by
 intro pins s C H x v Q I j h;obtain⟨k,e,q⟩:=h;have D:=jh;have E:XX=16777216:=Zx;cases x with
 |non=>
  cases j;have a:k=false:=e;subst a;exact ϸ ⟨H,I,q⟩
 |bl b=>
  cases j;have a:k=b:=e;subst a;exact ZV ⟨H,I,q⟩
 |int i=>
  obtain⟨t,rfl⟩:=j;have a:k=(i != 0):=e;subst a;exact Ϲ ⟨H,I,q⟩
 |str y=>
  obtain⟨t,rfl⟩:=j;obtain⟨A,a⟩:y.length<=XX/\k=((y.length:Int) != 0):=e;subst a;exact Ϻ (by omega) ⟨H,I.tok _,q⟩
 |Ka y=>
  obtain⟨t,rfl⟩:=j;obtain⟨A,a⟩:y.size<=XX/\k=((y.size:Int) != 0):=e;subst a;exact PySem.W.truthy_bytes (bS A) ⟨H,I.tok _,q⟩
 |ref p=>
  cases j;have a:(∃g,mn c.K H p g/\k=!g.isEmpty)\/(∃g,ug c.K H p g/\k=!g.isEmpty)\/∃d,H p=some (.dK d)/\k=!d.isEmpty:=e;rcases a with ⟨g,l,a⟩|⟨g,l,a⟩|⟨d,l,a⟩
  .subst a
   obtain⟨o,r,u,z⟩:=I.list l;have f:=r.length;exact ϻ u.isList (by simp only[YJ];omega) ⟨H,I.tok _,by rw[mT r];exact q⟩
  .subst a
   obtain⟨o,r,u,z⟩:=I.tuple l;have f:=r.length;exact truthy_tuple u (by simp only[YJ];omega) ⟨H,I.tok _,by rw[mT r];exact q⟩
  .subst a
   obtain⟨z,B,n,r,m⟩:d.length<=XX/\(p==ZJ)=false/\∃n,KV d n/\s.heap.DictOf (ff c.prog c.w) p n:=I.hok p _ l;have f:d.length=n.length:=Ē r;exact wpAny_truthy_dict B m (FX (B' (M' f.symm) z)) ⟨H,I.tok _,by rw[um r];exact q⟩
 |_=>exact(show False from e).elim
theorem zH(e:PE c j υ)(f:∀a,ò j c.env a=(do let v ←a;Zi j.pos;Zo [v] (ė v))):
  PT c j (λb H Q=>υ b H λx d=>∃k,rU c.K x d k/\Q k d):=by
 intro pins s b H Q I h;exact isTrue_plain (cp (e _ s b H _ I h) λv g  i =>aF i λx l m n o=>qq _ g b l x v Q m n o) (f _)
theorem uo:kI c (Ü .Add) (λx y H Q=>∃i j,x=.str i/\y=.str j/\i.length+j.length<=XX/\Q (.str (i++j)) H):=by
 intro pins s f H x y v u Q I a b h;obtain⟨i,j,rfl,rfl,d,q⟩:=h;obtain⟨t,rfl⟩:=a;obtain⟨e,rfl⟩:=b;exact add_str (λe g=>⟨.str _,H,I.tok _,⟨_,rfl⟩,q⟩) d
theorem vals1(r:Vals [w] Δ):∃u,Δ=[u]/\RelV w u:=by
 cases r with
 |cons b a=>cases a;simp_all
variable{P1:V}
theorem vals2(r:Vals [w,P1] Δ):∃u a,Δ=[u,a]/\RelV w u/\RelV P1 a:=by
 cases r with
 |cons d b=>
  cases b with
  |cons e c=>cases c;grind
structure zI(h:F')(x dx C:b')(mA:Str->Option f'):Prop where
 obj:h.get? x=some (Õ C dx)
 ns:h.Ns1 dx mA
 ne:dx≠x
variable{θ:Str->Option f'}
theorem ir(n:B.Ns1 h θ):∃d,B.get? h=some d/\∀name,ě name d=some (θ name):=by
 refine dk n λo f l g i j _ k=>?_
 refine⟨o,g,λname=>?_⟩
 have e:=k name;unfold nsFind findBy at e;unfold ě;rw[i];dsimp only;split
 .simp_all
 .have a:f.toList.any (·.refKey)=false:=by
   rw[List.any_eq_false];intro y m;refine xe (j y (by simp_all)) λz c=>xe c λt b=>?_
   simp[abU,b]
  grind
variable{ψ:b'}
theorem zI.look(I:zI B h C ψ θ):∃a,ŏ B h (Õ ψ C) ψ (some a)/\∀name,ě name a=some (θ name):=
 bc (ir I.ns) λa b c=>⟨a,⟨I.obj,rfl,rfl,b⟩,c⟩
theorem Dr{s}(X:G.In s.heap)(I:zI s.heap h C ψ θ)(l:YA G (.ref ψ) "__setattr__"=some (some (.builtin "object.__setattr__")))(m:Ő G ψ=true)(n:ő G ψ d=some none)(o:ö G ψ=true)(p:ŉ θ g)(hsz:g.length<=XX)(a:∀f,zI f h C ψ (λy=>if y=d then some N else θ y)->Ã C s.heap f->Q1 () {s with heap:=f,toks:=s.toks+2}):
  p9 (j' v x) L (Ý (.ref h) d N) Q1 S s:=by
 refine bc I.look λw J z=>?_
 refine Œ X J l (PySem.W.osa_open X J m n λb=>?_)
 refine bc (PySem.W.any_some o) λA q i=>?_
 refine nc (T' (nc (nc (œ I.obj (nc (Ŕ (Ĝ X q) ?_))))));rw[i];refine T' (nc (T' (nc ?_)));refine ŕ I.ns λf c e=>?_
 refine cg (c.count (Ŗ _ N p)) λB r t j k u=>?_
 refine nc (ŗ j (by rw[k];exact Ř (by grind)) ?_)
 exact T' (a _ ⟨(e.2 _ (Ya I.ne)).trans I.obj,c,I.ne⟩ e)
variable{C9:List (Str×f')}{E4:ø->g'->Prop}
theorem zJ{s:g'}(X:G.In s.heap)(b:ř G C=true)(c:YA G (.ref C) "__init__"=some (some (.ref h)))(d:Ś G (.ref h)=some (.type "function"))(a:YB (j' v x) (L.under (.builtin "type.__call__" ⟨.ref C::Δ,C9⟩)) (.call (.ref h) ⟨.ref (s.heap.objs.size+1)::Δ,C9⟩) (ś (s.heap.objs.size+1) E4)
   {s with heap:=(s.heap.push ĝ).push (Õ C s.heap.objs.size)}):
  YB (j' v x) L (.call (.ref C) ⟨Δ,C9⟩) E4 s:=PySem.W.make_core (PySem.W.makes_of X b) (Ğ X c) (λself=>aaa X _ d) (.inl rfl) a
noncomputable def gX(f:Str)(v:V):List (Str×V)->List (Str×V)
 |[]=>[(f,v)]
 | (g,x)::r=>if g=f then (g,v)::r else (g,x)::gX f v r
theorem lB(f g v):∀a,(gX f v a).lookup g=if g=f then some v else a.lookup g
 |[]=>by
  show ù g [(f,v)]=_
  grind
 | (k,x)::r=>by
  have b:=lB f g v r;rw[show gX f v _=(if k=f then (k,v)::r else (k,x)::gX f v r)from rfl]
  grind
theorem kJ(f v):∀a,f∈(gX f v a).map (·.1)/\∀g,g∈a.map (·.1)->g∈(gX f v a).map (·.1)
 |[]=>⟨by simp[gX],by simp⟩
 | (k,x)::r=>by
  obtain⟨b,c⟩:=kJ f v r;rw[show gX f v _=(if k=f then (k,v)::r else (k,x)::gX f v r)from rfl]
  grind
theorem lD(f v):∀a,(gX f v a).length<=a.length+1
 |[]=>by simp[gX]
 | (k,x)::r=>by
  have b:=lD f v r;rw[show gX f v _=(if k=f then (k,v)::r else (k,x)::gX f v r)from rfl]
  grind
variable{u5:Option f'}
theorem jf.some_of(r:jf (some w) u5):∃u,u5=some u/\RelV w u:=by
 cases u5 with
 |none=>exact(r).elim
 |some u=>exact⟨u,rfl,r⟩
theorem jf.none_of(r:jf none u5):u5=none:=by
 cases u5 with
 |none=>rfl
 |some u=>exact(r).elim
theorem o_(r:RelV w N):aab N=true:=by
 cases w with
 |non=>cases (r);rfl
 |bl b=>cases (r);rfl
 |int i=>obtain⟨t,e⟩:=(r);cases e;rfl
 |str x=>obtain⟨t,e⟩:=(r);cases e;rfl
 |Ka b=>obtain⟨t,e⟩:=(r);cases e;rfl
 |flt b=>obtain⟨t,e⟩:=(r);cases e;rfl
 |ref a=>cases (r);rfl
 |ty n=>cases (r);rfl
variable{W4:List (Str×V)}
theorem mq(c:jG v x e B)(a:e h=some (.ins C ψ W4)):∃b,zI B h ψ C b/\(∀f,jf (W4.lookup f) (b f))/\ŉ b (W4.map (·.1))/\W4.length<=1000/\e ψ=some (.own h):=by
 refine fX (c h _ a) λd z ne i g=>bx g λb n r q=>⟨b,⟨i,n,ne⟩,r,q,z,d⟩
structure oD(K:K')(C:b'):Prop where
 pg:Ŝ K C aac=true
 hd:ö K C=true
 po:Ő K C=true
 sa:YA K (.ref C) "__setattr__"=some (some (.builtin "object.__setattr__"))
theorem oD.get(c:oD G C)(f):Ŝ G C f=true:=c.pg
def dm(K C f):=YA K (.ref C) f=some none
theorem dm.taker(n:dm G C d):ő G C d=some none:=by
 unfold ő;rw[n];rfl
structure Meth(K:K')(C:b')(m:Str)(f:b'):Prop where
 at_:YA K (.ref C) m=some (some (.ref f))
 fn:ğ K (.ref f)=true
 kp:Yp K (.ref f)=true
theorem uq(I:Inv c z P e m)(b:e h=some (.ins C ψ W4))(a:oD c.K C)(n:dm c.K C d)(l:W4.lookup d=some w)(f:∀u i,Inv c z P e i->RelV w u->N1 u i):p9 (j' c.prog c.w) L (Ġ (.ref h) d E) N1 S m:=by
 refine dQ (mq I.hok b) λk O r _ g=>xa g λ_ _=>?_
 obtain⟨u,o,j⟩:=jf.some_of (w:=w) (u5:=k d) (by grind)
 obtain⟨q,J,p⟩:=O.look;exact PySem.W.get_value I.eY J (ŝ (a.get d)).1 (aad a.hd n rfl (by rw[p,o])) (o_ j) (f u _ (I.tok _) j)
variable{A0:b'}
theorem ji{pl Q}(I:Inv c z P e m)(b:e h=some (.ins C ψ W4))(a:oD c.K C)(k:Meth c.K C d A0)(l:W4.lookup d=none)(f:Q (.ref A0,[.ref h]) m):p9 (j' c.prog c.w) L (Zy (.ref h) d pl) Q S m:=by
 refine dQ (mq I.hok b) λi O r _ g=>xa g λ_ _=>?_
 have n:i d=none:=jf.none_of (by grind)
 refine bc O.look λj J o=>PySem.W.method_fn I.eY J (ŝ (a.get d)).1 (ŝ (a.get d)).2 k.at_ (beq_iff_eq.mp k.fn) (by show(ě _ j).map _=some _;simp_all) f
theorem ur(I:Inv c z P e m)(a:e h=some (.ins C ψ W4))(f:oD c.K C)(n:dm c.K C d)(p:W4.length<1000)(x:RelV w N)(j:∀s,Inv c z P (upd e h (.ins C ψ (gX d w W4))) s->Q1 () s):p9 (j' c.prog c.w) L (Ý (.ref h) d N) Q1 S m:=by
 refine dQ (mq I.hok a) λH O r t k=>xa k λ_ u=>?_
 have y:(W4.map (·.1)).length<=XX:=by rw[Yj,Zx];exact KG p
 refine Dr I.eY O f.sa f.po n.taker f.hd t y λA l B=>j _ ?_
 have D:∃o,A.get? ψ=some o:=en (l.ns) λo _ _ E _=>⟨o,E⟩
 refine I.write (by rw[a];exact Zz) (.inr u) (λb q F i=>(B.2 b F).trans i) D ?_
 refine⟨by rw[aD O.ne];exact u,?_,O.ne,l.obj,_,l.ns,λg=>?_,λg G=>?_⟩
 .have:=lD d w W4;exact B' this p
 .rw[lB]
  by_cases q:g=d
  .rw[if_pos q,if_pos q];exact x
  simp_all
 .by_cases q:g=d
  .rw[q];exact(kJ d w W4).1
  .refine(kJ d w W4).2 g (t g λi=>G ?_)
   simp_all
theorem Inv.made{s}(I:Inv c z P e s):Inv c z P (upd (upd e s.heap.objs.size (.own (s.heap.objs.size+1))) (s.heap.objs.size+1) (.ins C s.heap.objs.size []))
  {s with heap:=(s.heap.push ĝ).push (Õ C s.heap.objs.size)}:=by
 have d:(s.heap.push _).get? _=some ĝ:=Yu _ rfl;have f:=I.laid (o:=.own (s.heap.objs.size+1)) (t':=s.toks) (λb u q=>X' _ q) (XZ _) ⟨_,d⟩
 refine f.laid (λb u q=>X' _ q) (by simp) ?_
 have ne:s.heap.objs.size≠s.heap.objs.size+1:=N' (by simp)
 refine⟨by rw[aD ne,aS],Yh _,ne,(by
  have:=Yu (s.heap.push ĝ) (o:=Õ C s.heap.objs.size) rfl;rwa[aae]at this),_,(aaf ⟨_,_,_,d,rfl,(λa g=>absurd g (by simp)),λ_=>rfl⟩).at λo q=>X' _ q,λ_=>Zz,λy h=>absurd rfl h⟩
variable{A4:Yg}
theorem qr(b:Zc j d A4 (eval j A4)=eval j A4)(h:p9 (j' v x) L (eval j A4) (λo a=>p9 (j' v x) L (Ġ o d true) N1 S a) S m):p9 (j' v x) L (eval (.Attribute j d n) A4) N1 S m:=
 Attribute_any_ h (by rw[arm_eval_Attribute,b])
noncomputable def QK(K:K')(d:TE)(f:Str):TE:=λe H Q=>d e H λx b=>∃a C g c v,x=.ref a/\b a=some (.ins C g c)/\oD K C/\dm K C f/\c.lookup f=some v/\Q v b
def QM(K:K')(g h:TE)(f:Str):TS:=λD b H=>h b H λy i=>g b i λx d=>∃a C e c,x=.ref a/\d a=some (.ins C e c)/\oD K C/\dm K C f/\c.length<1000 /\
 D.nx b (upd d a (.ins C e (gX f y c)))
theorem Hs(f:PE c j υ)(g:Zc j d c.env (eval j c.env)=eval j c.env):PE c (.Attribute j d n) (QK c.K υ d):=by
 intro pins s i H Q I h;refine qr g (cp (f _ s i H _ I h) λu z k=>?_);obtain⟨x,m,o,p,a,C,A,B,v,r,t,b,e,l,q⟩:=k
 subst r;obtain rfl:u=YI a:=p;exact uq o t b e l λD E w y=>⟨v,m,w,y,q⟩
theorem Ht(i:PE c j υ)(k:PE c Q P2)(m:YR Q (some (.Attribute j d J)) n.line c.env=pure false):PS c (.Assign [.Attribute j d J] Q n) (QM c.K υ P2 d):=by
 intro pins s f H D I h;refine aag (cp (k _ s f H _ I h) λu o g=>?_) m;refine aF g λy p r t q=>?_;refine cp (i _ o f p _ r q) λw L g=>?_;obtain⟨x,M,z,A,a,C,N,O,B,E,b,e,l,F⟩:=g
 subst B;obtain rfl:w=YI a:=A;exact ur z E b e l t λP G=>⟨f,_,G,F⟩
inductive lV (K:K') (H:Hp):V->f'->Prop where
 |non:lV K H .non (.type "NoneType")
 |bl (x:Bool):lV K H (.bl x) (.type "bool")
 |int (i:Int):lV K H (.int i) (.type "int")
 |str (x:Str):lV K H (.str x) (.type "str")
 |flt (x:UInt64):lV K H (.flt x) (.type "float")
 |lst {a:b'}{xs:List V} (e:H a=some (.lst xs)):lV K H (.ref a) (.type "list")
 |eo {a:b'}{o:Obj}{xs:List V} (e:H a=some (.eo o (.lst xs))):lV K H (.ref a) (.type "list")
 |tup {a:b'}{xs:List V} (e:H a=some (.tup xs)):lV K H (.ref a) (.type "tuple")
 |dK {a:b'}{kvs:List (Key×V)} (e:H a=some (.dK kvs)):lV K H (.ref a) (.type "dict")
 |dT {a:b'}{kvs:List (List Key×V)} (e:H a=some (.dT kvs)):lV K H (.ref a) (.type "dict")
 |ins {a C dx:b'}{fs:List (Str×V)} (e:H a=some (.ins C dx fs)) (cl:oD K C) (ha:YA K (.ref C) "__class__"=some (some (.builtin "object.__class__")))
   (hn:ú K (.builtin "object.__class__") "__get__"=some (some (.builtin "getset_descriptor.__get__"))) (htk:Ş K (.builtin "object.__class__")=some true)
   (hm:û K C (.type "object")=some true):lV K H (.ref a) (.ref C)
variable{M2 d6:f'}
theorem df{s}(I:Inv c z P e s)(g:RelV w M2)(x:lV c.K e w d6)(d:ZW c.K d6 N=some E)(h:∀A,N1 (.bool E) {s with toks:=A}):
  p9 (j' c.prog c.w) L (call (.builtin "isinstance") [M2,N]) N1 S s:=by
 cases x with
 |non=>cases (g);exact Zd PySem.W.kitx_none I.eY Zz d (λb=>nomatch b) h
 |bl y=>cases (g);exact Zd PySem.W.kitx_bool I.eY Zz d (λb=>nomatch b) h
 |int i=>obtain⟨d6,q⟩:=(g);cases q;exact Zd PySem.W.kitx_int I.eY Zz d (λb=>nomatch b) h
 |str y=>obtain⟨d6,q⟩:=(g);cases q;exact Zd PySem.W.kitx_str I.eY Zz d (λb=>nomatch b) h
 |flt y=>obtain⟨d6,q⟩:=(g);cases q;exact Zd PySem.W.kitx_float I.eY Zz d (λb=>nomatch b) h
 |@lst a m j=>
  cases (g);refine xa (I.hok a _ j) λ_ f=>cE f λ_ n _ k=>?_
  exact Zd aah I.eY ⟨_,k,rfl⟩ d (λb=>nomatch b) h
 |@eo a M m j=>
  cases (g);refine oC (I.hok a _ j) λ_ _ f=>cE f λ_ n _ k=>?_
  exact Zd aah I.eY ⟨_,k,rfl⟩ d (λb=>nomatch b) h
 |@tup a m j=>
  cases (g);refine xa (I.hok a _ j) λ_ f=>bc f λ_ _ p=>?_
  refine bx p λo k l _=>?_
  exact Zd ş I.eY ⟨o,k,l⟩ d (λb=>nomatch b) h
 |@dK a r j=>
  cases (g);refine eG (I.hok a _ j) λ_ _ Q _ p=>?_
  refine cg p λo B D k l _=>?_
  exact Zd aai I.eY ⟨o,k,l.1⟩ d (λb=>nomatch b) h
 |@dT a r j=>
  cases (g);refine eG (I.hok a _ j) λ_ _ m _ f=>cg f λo B D k l _=>?_
  exact Zd aai I.eY ⟨o,k,l.1⟩ d (λb=>nomatch b) h
 |@ins a C R T j u F G t H=>
  cases (g);refine bc (mq I.hok j) λU O _=>?_
  refine bc O.look λV J _=>?_
  exact Zd (PySem.W.kitx_own (u.get _) u.hd F G t H) I.eY J d (λb=>nomatch b) h
structure cm(k:Nat)(A:Yi):Prop where
 hd:A.handled=none
 dp:A.depth+3*k+5<recursionLimit
 un:A.units+16*k+200<Yk
theorem cm.mono(r:cm s L)(h:b<=s):cm b L:=⟨r.hd,by have:=r.dp;omega,by have:=r.un;omega⟩
theorem cm.deeper{k A}(r:cm (k+1) A)(env):cm k (A.deeper env):=
 ⟨r.hd,by have:=r.dp;show A.depth+1+3*k+5<_;omega,by have:=r.un;show A.units+3+16*k+200<_;omega⟩
theorem uu:(L.under (.builtin "type.__call__" ⟨.ref C::Δ,C9⟩)).depth=L.depth+1:=by
 rfl
theorem uv:(L.under (.builtin "type.__call__" ⟨.ref C::Δ,C9⟩)).units=L.units+1:=by
 rfl
theorem cm.make(r:cm (b+1) L)(C a c):cm b (L.under (.builtin "type.__call__" ⟨.ref C::a,c⟩)):=
 ⟨r.hd,by have:=r.dp;rw[uu];omega,by have:=r.un;rw[uv];omega⟩
theorem cm.depth{k A}(r:cm k A):A.depth<recursionLimit:=by have:=r.dp;omega
theorem cm.units{k A}(r:cm k A):A.units+64<Yk:=by have:=r.un;omega
noncomputable def KS:TA:=λ_ H Q=>Q [] H
noncomputable def KU(b:TE)(c:TA):TA:=λa H Q=>b a H λx d=>c a d λe f=>Q (x::e) f
theorem mU:PA c [] KS:=λ_ _ _ _ H Q I h=>ġ ⟨[],H,I,.nil,h⟩
theorem fg(d:PE c j υ)(e:PA c O y3)(f:I' (j::O) c.env=(false,eval j c.env)::I' O c.env:=by rfl):PA c (j::O) (KU υ y3):=by
 intro g pins s b H Q I h;rw[f];refine Ģ (cp (d _ s b H _ I h) λu i  a =>aF a λx k l m n=>cp (e _ _ i b k _ l n) λt w  a =>aF a λy o p q r=>⟨_,o,p,.cons m q,r⟩)
def QN(t:TA):TE:=λc H Q=>t c H λa b=>a.length<=XX/\∀p,b p=none->Q (.ref p) (upd b p (.tup a))
def QO(t:TA):TE:=λc H Q=>t c H λa b=>a.length<=XX/\∀p,b p=none->Q (.ref p) (upd b p (.lst a))
theorem Hu{x1}(h:PA c O y3):PE c (.Tuple O x1 n) (QN y3):=by
 intro pins s d H Q I f;refine wpAny_Tuple_spliced (cp (h _ _ s d H _ I f) λg j  i =>a6 i λk l a r z q=>⟨by rwa[←r.length],?_⟩)
 refine⟨.ref _,_,a.laid (λb u e=>X' _ e) (XZ _) ?_,rfl,q _ (a.hok.fresh (XZ _))⟩
 exact⟨z,g,r,⟨_,Yu _ rfl,rfl,_,rfl⟩⟩
theorem Hv(h:PA c O y3):PE c (.List O n) (QO y3):=by
 intro pins s d H Q I f;refine wpAny_List_spliced (cp (h _ _ s d H _ I f) λg j  i =>a6 i λk l a r z q=>⟨by rwa[←r.length],?_⟩)
 refine⟨.ref _,_,a.laid (λb u e=>X' _ e) (XZ _) ?_,rfl,q _ (a.hok.fresh (XZ _))⟩
 exact⟨z,g,0,r,Yu _ rfl⟩
abbrev Sp:=List V->Hp->VK->XK->Prop
abbrev De:=List Yg->Hp->g'->XK->f'->g'->Prop
structure rV(P:Yc)(w:X_)(K:K')(mg:Str->Option f')(base:F')(A:Yi)(outer:List Yg)(s:g')(H:Hp):Prop where
 frames:A.frames=some outer
 mod:Mod K mg base
 bs:∀b o,base.get? b=some o->s.heap.get? b=some o/\H b=none
 uf:base.objs.size<=s.heap.objs.size
 gv:s.heap.FunFrames base outer
 x_:∀b∈frs outer,H b=none
 hok:jG P w H s.heap
 bare:Zn s.gens
def CE(outer:List Yg)(P w H)(s:g')(Q:VK)(u)(a:g'):=
 ∃v b,a.os=s.os/\Zn a.gens/\Un (frs outer) [] H b s.heap a.heap/\jG P w b a.heap/\RelV v u/\Q v b
def CR(CX:De)(outer:List Yg)(P w H s Q E)(r:ø)(a:g'):=
 match r with
 |.ok (.ret u)=>CE outer P w H s Q u a
 |.ok _=>False
 |.error e=>CX outer H s E e a
structure bJ(P:Yc)(w:X_)(K:K')(mg:Str->Option f')(base:F')(CX:De)(k:Nat)(f:b')(fd:Yb)(ps:List Str)(sp:Sp):Prop where
 len:∀vs H Q E,sp vs H Q E->vs.length=ps.length
 run:∀(A:Yi) (outer:List Yg) (s:g') (H:Hp) (args:Args) (us:List f') (vs:List V) (Q:VK) (E:XK),cm k A->rV P w K mg base A outer s H->Æ s fd args (ps.zip us)->Vals vs us->sp vs H Q E ->
  YB (j' P w) A (.call (.ref f) args) (CR CX outer P w H s Q E) s
theorem bJ.mono{P w K a base CX j k f b ps sp}(F:bJ P w K a base CX j f b ps sp)(h:j<=k):
  bJ P w K a base CX k f b ps sp:=⟨F.len,λA outer s H args c d Q E e=>F.run A _ s H _ c d Q E (e.mono h)⟩
variable{C5:De}{D4:Sp}{ς:Yb}
theorem bJ.imp{d}(F:bJ v x G θ B C5 b h ς g D4)(a:∀c H Q E,d c H Q E->D4 c H Q E):bJ v x G θ B C5 b h ς g d:=
 ⟨λc H Q E q=>F.len c H Q E (a _ _ _ _ q),λA outer s H args e c Q E f i j k l=>F.run A _ s H _ e c Q E f i j k (a _ _ _ _ l)⟩
variable{A5:List Yg}
theorem rV.make(a:rV v x G θ B L A5 m e)(C b c):
  rV v x G θ B (L.under (.builtin "type.__call__" ⟨.ref C::b,c⟩)) A5 m e:=⟨by first|exact a.frames,a.mod,a.bs,a.uf,a.gv,a.x_,a.hok,a.bare⟩
theorem Inv.env0(I:Inv c z P e m):rV c.prog c.w c.K c.mg c.base c.A c.stack m e:=
 ⟨I.ok.frames,I.ok.mod,I.bs,B' I.ok.uf I.sz,I.stack,I.jI,I.hok,I.bare⟩
theorem Inv.after(I:Inv c z P e m)(h:CE c.stack c.prog c.w e m ξ N M6):EP c z P ξ N M6:=by
 refine eK h λv k l bare n f i=>xa i λr q=>?_
 obtain⟨o,g,d,t,j⟩:=M6;obtain rfl:j=m.os:=l;exact⟨v,k,I.call n f bare (λb a=>absurd a (by simp)),r,q⟩
noncomputable def KW(sp:Sp)(a:List V)(E:XK)(t:TA):TE:=λb H Q=>t b H λc d=>sp (c++a) d Q E
noncomputable def F_(C:b')(m:Str)(sp:Sp)(b:List V)(E:XK)(f:TE)(t:TA):TE:=λc H Q=>f c H λx d=>∃a g e,x=.ref a/\d a=some (.ins C g e)/\e.lookup m=none /\
 t c d λh i=>sp (x::(h++b)) i Q E
def KY(C:b')(sp:Sp)(b:List V)(E:XK)(t:TA):TE:=λd H Q=>t d H λe c=>∀x a,c x=none->c a=none->a≠x ->
 sp (.ref x::(e++b)) (upd (upd c a (.own x)) x (.ins C a [])) (λv f=>v=.non/\Q (.ref x) f) E
def Binds(K:K')(c)(ps:List Str)(b:List f'):=
 ∀s a,K.In s.heap->(a++b).length=ps.length->Æ s c ⟨a,[]⟩ (ps.zip (a++b))
theorem Binds.all(h:∀a,a.length=g.length->Þ ς ⟨a,[]⟩=pure (g.zip a)):Binds G ς g []:=λs a _ b=>by
 rw[YS]at b ⊢;exact .of_eq (h a b)
def Passes(CX:De)(X E):=∀pins (b:St) H s e a,Inv X pins b H s->CX X.stack H s E e a->X.xe e a
variable{E1:XK}{G5:List f'}
theorem qu(F:bJ c.prog c.w c.K c.mg c.base C5 b h ς g D4)(j:cm b c.A)(k:Binds c.K ς g Δ)(l:Vals R Δ)(n:Passes C5 c E1)(I:Inv c z P e m)(r:Vals z5 G5)(a:D4 (z5++R) e ξ E1):p9 (j' c.prog c.w) c.A (call (.ref h) G5) (EP c z P ξ) c.xe m:=by
 have i:=r.append l;refine ZX (ZA (F.run _ _ m e ⟨G5,[]⟩ _ _ ξ E1 j I.env0 (k m G5 I.eY (by rw[←i.length];exact F.len _ _ _ _ a)) i a) λr o f=>?_)
 cases r with
 |error d=>exact n _ P e m d o I f
 |ok fl=>
  cases fl with
  |ret u=>exact I.after f
  |next=>exact YT f
  |brk=>exact YT f
  |cont=>exact YT f
theorem qv(F:bJ c.prog c.w c.K c.mg c.base C5 b h ς g D4)(k:cm b c.A)(l:Gl c d)(m:c.mg d=some (.ref h))(o:Yp c.K (.ref h)=true)(p:Binds c.K ς g Δ)(t:Vals R Δ)(u:Passes C5 c E1)(x:PA c (j::O) y3)(e:(d==("__debug__"))=false:=by decide)(y:I' (j::O) c.env=(false,eval j c.env)::I' O c.env:=by rfl)(f:(Ye J (I' O c.env)).any (·.1)=false:=by rfl):
  PE c (.Call (.Name d n) (j::O) [] J) (KW D4 R E1 y3):=by
 intro pins s z H Q I a;refine ZC (er I l m ?_ e);refine ß I.ok.mod.Dj o (cp (x _ _ s z H _ I a) λC D  B =>aF B λE G i r q=>⟨i.eY,qu F k p t u i r q⟩) y f
theorem Ds{pl}(D:PE c Q υ)(e:oD c.K C)(p:Meth c.K C d h)(F:bJ c.prog c.w c.K c.mg c.base C5 b h ς g D4)(E:cm b c.A)(G:Binds c.K ς g Δ)(L:Vals R Δ)(M:Passes C5 c E1)(N:PA c (j::O) y3)(i:I' (j::O) c.env=(false,eval j c.env)::I' O c.env:=by rfl)(k:(Ye n (I' O c.env)).any (·.1)=false:=by rfl)(P:eval (.Call (.Attribute Q d J) (j::O) [] n) c.env=(do
   let t ←eval Q c.env
   Zi J.atName
   let (h,first) ←Zo [t] (Zy t d pl)
   ZK n h first (Ye n (I' (j::O) c.env)) (Ze n (Zf [] c.env))):=by rfl):
  PE c (.Call (.Attribute Q d J) (j::O) [] n) (F_ C d D4 R E1 υ y3):=by
 intro pins s y H m I f;refine ģ (cp (D _ s y H _ I f) λu S T=>?_) P;refine aF T λx U z V o=>dG o λa dx fs X Y l q=>?_
 subst X;obtain rfl:u=YI a:=V;refine ji z Y e p l ?_;refine ß I.ok.mod.Dj p.kp (cp (N _ _ S y U _ z q) λus s2  Z =>aF Z λvs H2 B r q2=>⟨B.eY,?_⟩) i k
 exact qu (z5:=.ref a::vs) F E G L M B (.cons rfl r) q2
theorem zK{pl}(p:PE c j υ)(e:oD c.K C)(m:Meth c.K C d h)(F:bJ c.prog c.w c.K c.mg c.base C5 b h ς g D4)(r:cm b c.A)(t:Binds c.K ς g Δ)(y:Vals R Δ)(z:Passes C5 c E1)(B:eval (.Call (.Attribute j d J) [] [] n) c.env=(do
   let o ←eval j c.env
   Zi J.atName
   let (h,first) ←Zo [o] (Zy o d pl)
   ZK n h first (Ye n (I' [] c.env)) (Ze n (Zf [] c.env))):=by rfl):
  PE c (.Call (.Attribute j d J) [] [] n) (F_ C d D4 R E1 υ KS):=by
 intro pins s D H Q I f;refine ģ (cp (p _ s D H _ I f) λu N E=>?_) B;refine aF E λx O i G k=>dG k λa P S L M l q=>?_
 subst L;obtain rfl:u=YI a:=G;refine ji i M e m l (Š i.eY m.kp (qu (z5:=[.ref a]) F r t y z i (.cons rfl .nil) q))
structure Mk(K:K')(C f:b'):Prop where
 makes:ř K C=true
 init:YA K (.ref C) "__init__"=some (some (.ref f))
 fn:ğ K (.ref f)=true
 kp:Yp K (.ref C)=true
theorem rW(M:Mk c.K C h)(F:bJ c.prog c.w c.K c.mg c.base C5 b h ς g D4)(n:cm (b+1) c.A)(o:Binds c.K ς g Δ)(p:Vals R Δ)(q:Passes C5 c E1)(I:Inv c z P e m)(r:Vals z5 G5)(f:∀x i,e x=none->e i=none->i≠x->D4 (.ref x::(z5++R)) (upd (upd e i (.own x)) x (.ins C i [])) (λv s=>v=.non/\ξ (.ref x) s) E1):
  p9 (j' c.prog c.w) c.A (call (.ref C) G5) (EP c z P ξ) c.xe m:=by
 have k:=f _ _ (I.hok.fresh (Zg _)) (I.hok.fresh (XZ _)) (by simp)
 have j:=Inv.made (C:=C) I;have l:Vals (V.ref (m.heap.objs.size+1)::(z5++R)) _:=.cons rfl (r.append p)
 refine ZX (zJ I.eY M.makes M.init (beq_iff_eq.mp M.fn) (ZA (F.run _ _ _ _ ⟨_,[]⟩ _ _ _ E1 (n.make C G5 [])
  (j.env0.make C G5 []) (o _ _ j.eY (by
  have a:=l.length;rw[F.len _ _ _ _ k]at a;exact a.symm)) l k) λr t d=>?_))
 cases r with
 |error a=>exact q _ P _ _ a t j d
 |ok fl=>
  cases fl with
  |ret u=>
   refine a6 (j.after d) λv y B D E G=>?_
   subst E;exact⟨D,⟨V.ref _,y,B,rfl,G⟩⟩
  |next=>exact YT d
  |brk=>exact YT d
  |cont=>exact YT d
theorem Dt(M:Mk c.K C h)(F:bJ c.prog c.w c.K c.mg c.base C5 b h ς g D4)(k:cm (b+1) c.A)(l:Gl c d)(m:c.mg d=some (.ref C))(o:Binds c.K ς g Δ)(p:Vals R Δ)(t:Passes C5 c E1)(u:PA c (j::O) y3)(e:(d==("__debug__"))=false:=by decide)(x:I' (j::O) c.env=(false,eval j c.env)::I' O c.env:=by rfl)(f:(Ye J (I' O c.env)).any (·.1)=false:=by rfl):
  PE c (.Call (.Name d n) (j::O) [] J) (KY C D4 R E1 y3):=by
 intro pins s y H Q I a;refine ZC (er I l m ?_ e);refine ß I.ok.mod.Dj M.kp (cp (u _ _ s y H _ I a) λB D z=>?_) x f;refine aF z λE G i r q=>?_;refine⟨i.eY,rW M F k o p t i r q⟩
structure jO(N P:List Str)(sc:XY):Prop where
 kind:sc.kind=.function
 co:sc.isCoroutine=false
 gen:sc.isGenerator=false
 nd:N.Nodup
 pre:N.take P.length=P
 par:∀x∈P,sc.names.lookup x=some .local\/sc.names.lookup x=some .cell
 Hw:∀y∈sc.names,y.2≠.free
theorem pd{kindOf x}:∀{binds}{m},(∀v,(x,v)∉binds)->Ç kindOf binds m x=m x
 |[],_,_=>rfl
 | (n,v)::r,m,h=>by
  unfold Ç;rw[pd (by grind)]
  split
  .grind
  .rfl
theorem pe{kindOf x}:∀{binds}{m},(∀v,(x,v)∉binds)->È kindOf binds m x=m x
 |[],_,_=>rfl
 | (n,v)::r,m,h=>by
  unfold È;rw[pe (by grind)]
  split
  .rfl
  grind
theorem pf{kindOf x v}:∀{P:List Str}{a}{i:Nat}{m},P.Nodup->P[i]?=some x->a[i]?=some v->kindOf x=some .local ->
  Ç kindOf (P.zip a) m x=some v
 |[],_,_,_,_,h,_,_=>by simp at h
 |_::_,[],_,_,_,_,h,_=>by simp at h
 |p::P,w::a,0,m,c,b,d,e=>by
  simp at b d;subst b;subst d
  show Ç _ ((p,w)::P.zip a) m p=_
  unfold Ç;rw[pd λv f=>(ZL.mp c).1 (ý f).1,if_pos e]
  simp
 |p::P,w::a,i+1,m,c,b,d,e=>by
  unfold Ç;exact pf (ZL.mp c).2 (by simpa using b) (by simp_all) e
theorem ph{kindOf x v}:∀{P:List Str}{a}{i:Nat}{m},P.Nodup->P[i]?=some x->a[i]?=some v->kindOf x≠some .local ->
  È kindOf (P.zip a) m x=some v
 |[],_,_,_,_,h,_,_=>by simp at h
 |_::_,[],_,_,_,_,h,_=>by simp at h
 |p::P,w::a,0,m,e,b,c,d=>by
  simp at b c;subst b;subst c
  show È _ ((p,w)::P.zip a) m p=_
  unfold È;rw[pe λv f=>(ZL.mp e).1 (ý f).1,if_neg d]
  simp
 |p::P,w::a,i+1,m,e,b,c,d=>by
  unfold È;exact ph (by simp_all) (by simpa using b) (by simp_all) d
noncomputable def start(N:List Str)(a:List V):St:=a.map some++þ (N.length - a.length) none
noncomputable def cW(CX:De)(P:Yc)(w:X_)(K:K')(mg:Str->Option f')(base:F')(N:List Str)(qual:Str)(scope:XY)(f:b')(b:f')(A:Yi)(outer:List Yg)(s:g')(H:Hp)(E:XK):Cx where
 prog:=P
 w:=w
 K:=K
 mg:=mg
 base:=base
 A:=A.deeper (Yl qual scope s.heap.objs.size f b)
 N:=N
 s₀:=s
 H₀:=H
 env:=Yl qual scope s.heap.objs.size f b
 outer:=outer
 stack:=Yl qual scope s.heap.objs.size f b::outer
 ex:=[]
 calm:=true
 fn:=λ_=>true
 pn:=[]
 xe:=λe c=>p9 (j' P w) (A.deeper (Yl qual scope s.heap.objs.size f b)) (Ĥ (Yl qual scope s.heap.objs.size f b) e) (λ_ a=>CX outer H s E e a) (λd a=>CX outer H s E d a) c
variable{Z:XY}
def rX(h:Z.names.lookup d=some .cell):=aaj.mp (š _ b [] (.inl h))
variable{ο:List Str}
theorem pj(S:jO g ο Z)(H:L.handled=none)(l:rV v x G θ B L A5 m e)(I:R.length=ο.length)(r:Vals R Δ)(a:InCallC m m.heap.objs.size (Ç (Yl d Z m.heap.objs.size h N).kindOf (ο.zip Δ) λ_=>none) (cellsFrom (m.heap.objs.size+1) Z.names []) (È (Yl d Z m.heap.objs.size h N).kindOf (ο.zip Δ) λ_=>none) M6):
  Inv (cW C5 v x G θ B g d Z h N L A5 m e E1) [] (start g R) e M6:=by
 have J:ο.length<=g.length:=by have:=congrArg ZY S.pre;grind
 obtain⟨C,O,rfl,D⟩:=a.done;have n:∀b:b',b∉(cW C5 v x G θ B g d Z h N L A5 m e E1).ex:=λb z=>absurd (show b∈([]:List b')from z) (by simp)
 refine⟨⟨l.mod,S.kind,rfl,rfl,XZ _,λy z c C o=>?_,λy hy=>?_,λy c _ f=>?_,λ_=>H,Around.frames_deeper l.frames,.inr ⟨rfl,rfl⟩,λb z=>absurd z (n b),l.bs,l.uf,λb _ _=>n b,λb z=>absurd z (n b),l.gv,l.x_⟩,
  rfl,l.bare,Un.kept D,⟨_,a.toInCall.ns,λi y s C o P=>?_⟩,λy c f=>⟨_,a.cell y c f⟩,l.hok.fresh (XZ _),λy c f=>?_,λp t=>absurd (show p∈([])from t) (by simp),l.hok.kept D,?_⟩
 .exact name_of_addr a.apart (ÿ C) (ÿ o)
 .rcases hy with hy|hy
  .exact rX hy
  .exact absurd rfl (S.Hw _ (ÿ hy))
 .exact YN (a.above y c (ÿ f))
 .have w:i<R.length:=by
   unfold start at o
   by_cases w:i<R.length
   .exact w
   .rw[ZZ (by simpa using w)]at o
    rw[Ţ]at o
    simp_all
  have K:R[i]?=some s:=by
   unfold start at o;rw[YU (by simpa using w)]at o
   simp_all
  obtain⟨u,E,M⟩:=r.get K
  have t:ο[i]?=some y:=by
   rw[←S.pre,ĥ (U' w (M' I))];exact C
  have A:ο.Nodup:=by rw[←S.pre];exact S.nd.sublist (Ħ _ _)
  refine⟨u,M,?_⟩;rcases S.par y (Yf t)with k|k
  .exact .inl ⟨k,pf A t E k⟩
  .obtain⟨c,j⟩:=rX k
   refine .inr ⟨.inl k,c,j,?_⟩;have q:=a.cell y c j;rwa[ph A t E (by show Z.names.lookup y≠_;rw[k];decide)]at q
 .have F:=l.hok.fresh (YN (a.above y c (ÿ f)))
  exact⟨.inl F,λ_=>F⟩
 .unfold start
  show _=g.length
  simp_all
variable{D6 E6 j7:f'}{T:Str}{Y5:Array (Option f')}{o5 u6:Option b'}
theorem zL{P params oc}(L:G.lookup h=some ⟨oc,u6,.func (Yy d T params W1 Z N M2 d6 D6 o5 E6 j7),Y5⟩)(z:ZD G E6 T=true)(S:jO g ο Z)(m:∀j H Q E,D4 j H Q E->j.length=ο.length)(k:∀A outer s H j Q E,cm b (A.deeper (Yl T Z s.heap.objs.size h E6))->D4 j H Q E ->
   ∃t,iO (cW C5 P x G θ B g T Z h E6 A outer s H E) W1 t/\t {nx:=λ_ i=>Q .non i,rt:=Q} (start g j) H):
  bJ P x G θ B C5 (b+1) h (Yy d T params W1 Z N M2 d6 D6 o5 E6 j7) ο D4:=by
 refine⟨m,λA outer s H args us j Q E C p M r w=>?_⟩
 have K:=p.mod.Dj.keeps λa o e=>(p.bs a o e).1
 have D:=p.mod.nolimit.keeps λa o e=>(p.bs a o e).1
 refine aak C.depth (K _ _ L) rfl S.co S.gen rfl (aal K z) (M _ _ _ _ ?_)
 refine aam S.kind (λ⟨n,v⟩ O=>by
  rcases S.par n (ý O).1 with q|q
  .exact .inl q
  .exact .inr ⟨q,š _ _ _ (.inl q)⟩) λR U X c=>?_
 subst U;refine⟨D.keeps c.toInCall.keep,codeAny_func ?_⟩;obtain⟨t,Y,hq⟩:=k A _ s H j Q E (C.deeper _) w;refine Yx (Y [] X _ H _ (pj S C.hd p (m _ _ _ _ w) r c) hq) (λfl F l=>?_) λe F l=>l
 have y:∀{f:St}{i:Hp}{v:V}{u:f'},Inv (cW C5 P x G θ B g T Z h E6 A _ s H E) [] f i F->RelV v u->Q v i->CE outer P x H s Q u F:=
  λ{f i v u} J I q=>⟨v,i,J.os,J.bare,J.base,J.hok,I,q⟩
 cases fl with
 |ret u=>
  refine cg l λv f i J I q=>y J I q
 |next=>
  obtain⟨f,i,J,q⟩:=l;exact y (v:=V.non) J rfl q
 |brk=>
  obtain⟨_,_,_,q⟩:=l
  simp_all
 |cont=>
  obtain⟨_,_,_,q⟩:=l
  simp_all
noncomputable def Vp(r:List V->Hp->VK->Prop)(t:TA):TE:=λa H Q=>t a H λb c=>r b c Q
variable{x8:List V->Hp->VK->Prop}
theorem mV(f:fb c (.builtin A3) x8)(g:Gl c d)(i:c.mg d=none)(k:ZR d=some (.builtin A3))(l:PA c (j::O) y3)(m:d≠"__name__":=by decide)(a:(d==("__debug__"))=false:=by decide)(o:I' (j::O) c.env=(false,eval j c.env)::I' O c.env:=by rfl)(b:(Ye J (I' O c.env)).any (·.1)=false:=by rfl):PE c (.Call (.Name d n) (j::O) [] J) (Vp x8 y3):=by
 intro pins s e H Q I h;refine ZC (jg I g i k (aan (cp (l _ _ s e H _ I h) λp q  r =>aF r λt u w x y=>f _ q e u t p Q w x y) o b) m a)
theorem yg(f:fb c (.type A3) x8)(g:Gl c d)(i:c.mg d=none)(k:ZR d=some (.type A3))(l:PA c (j::O) y3)(m:d≠"__name__":=by decide)(a:(d==("__debug__"))=false:=by decide)(o:I' (j::O) c.env=(false,eval j c.env)::I' O c.env:=by rfl)(b:(Ye J (I' O c.env)).any (·.1)=false:=by rfl):PE c (.Call (.Name d n) (j::O) [] J) (Vp x8 y3):=by
 intro pins s e H Q I h;refine ZC (jg I g i k (ô (cp (l _ _ s e H _ I h) λp q ⟨r,H1,I1,r1,q1⟩=>f _ q e H1 r p Q I1 r1 q1) o b) m a)
end L2
namespace HT
open PySem PyProof.Rows
noncomputable def jP(n d:Nat):Option Int->Nat
 |none=>d
 |some v=>if v<0 then (v+n).toNat else min v.toNat n
theorem rY(n d):jP n d none=d:=rfl
theorem mr(n d k:Nat):jP n d (some k)=min k n:=by
 rfl
theorem zM(n d)(a:d<=n)(o):jP n d o<=n:=by
 cases o with
 |none=>exact a
 |some v=>
  show(if v<0 then (v+(n)).toNat else min _ n)<=n
  grind
end HT
namespace L2
open PySem PySem.Spec PyProof.Rows
abbrev TO:=St->Hp->(Option Int->Hp->Prop)->Prop
def PO(X)(e:Option x')(t:TO):=
 ∀pins s (a:St) H Q,Inv X pins a H s->t a H Q ->
  p9 (j' X.prog X.w) X.A (evalPart e X.env) (λu c=>∃o b,Inv X pins a b c/\ħ u o/\Q o b) X.xe s
noncomputable def KZ(t:TE):TO:=λa H Q=>t a H λx b=>∃i,x=.int i/\Q (some i) b
variable{c:Cx}{j:x'}{υ:TE}
theorem Du(h:PE c j υ):PO c (some j) (KZ υ):=by
 intro pins s a H Q I b;refine cp (h _ s a H _ I b) λu l d=>?_;refine aF d λx e f g k=>?_
 obtain⟨i,rfl,q⟩:=k;obtain⟨t,rfl⟩:=g;exact⟨_,e,f,.int i t,q⟩
def Hx(X)(r:V->Option Int->Option Int->Hp->VK->Prop):=
 ∀pins s (a:St) H x v b c d e f Q,Inv X pins a H s->RelV x v->s.heap.IsSliceOf f b c .none->ħ b d->ħ c e->r x d e H Q ->
  ∃T id,à (.type T) "__getitem__"=pure (some (.builtin id))/\s.TypeIs v T/\p9 (j' X.prog X.w) X.A (á v (.ref f)) (EP X pins a Q) X.xe s
theorem Hx.or{r d}(h:Hx c r)(n:Hx c d):Hx c (λx a b H Q=>r x a b H Q\/d x a b H Q):=by
 intro pins s e H x v f g a b i Q I j k l m q;rcases q with q|q
 .exact h _ s e H x v f g a b i Q I j k l m q
 .exact n _ s e H x v f g a b i Q I j k l m q
noncomputable def Wu(r:V->Option Int->Option Int->Hp->VK->Prop)(b:TE)(tl c:TO):TE:=λa H Q=>b a H λx d=>tl a d λl e=>c a e λu f=>r x l u f Q
variable{G7:Option x'}{J n:V'}
theorem gY{e tl f r}(g:Hx c r)(i:PE c j υ)(k:PO c G7 tl)(m:PO c e f):PE c (.Subscript j (.Slice G7 e none J) n) (Wu r υ tl f):=by
 intro pins s a H Q I h;refine Ť (cp (i _ s a H _ I h) λv o d=>?_);refine aF d λx p t w y=>?_
 refine wpAny_Slice (cp (k _ o a p _ t y) λz A  B =>aF B λl C D E F=>cp (m _ A a C _ D F) λG S d=>?_);refine aF d λu K L M N=>?_
 refine T' ?_;obtain⟨T,id,O,P,R⟩:=g _ _ a K x v z G l u _ Q (L.kept λb U q=>X' _ q) w (abV ..) E M N
 exact tail_any P O R (by rfl)
def Dv(xs:List V)(a b:Option Int):=(xs.drop (HT.jP xs.length 0 a)).take (HT.jP xs.length xs.length b - HT.jP xs.length 0 a)
theorem rZ(xs a b):(Dv xs a b).length<=xs.length:=by
 unfold Dv;rw[Zq,aao];omega
noncomputable def Ga(n:Nat)(i:Int):=if 0<=i then (if i<n then some i.toNat else none)else if -n<=i then some (i+n).toNat else none
def mu{a:Type}(xs:List a)(i):=(Ga xs.length i).bind λj=>xs[j]?
variable{U:Int}{b s:Nat}
theorem Dw(h:Ga b U=some s):seqIndex? U b=some s/\s<b /\ -b<=U/\U<b:=by
 unfold Ga at h
 by_cases c:0<=U
 .rw[if_pos c]at h
  by_cases a:U<b
  .rw[if_pos a]at h
   have e:=Ú h;exact⟨by rw[seqIndex_of c a,e],by omega,by omega,a⟩
  simp_all
 .rw[if_neg c]at h
  by_cases a : -(b)<=U
  .rw[if_pos a]at h
   have e:=Ú h;exact⟨by rw[seqIndex_neg (by omega) a,e],by omega,a,by omega⟩
  simp_all
theorem qw{b xs}{v:b}(h:mu xs U=some v):∃j,seqIndex? U xs.length=some j/\xs[j]?=some v/\j<xs.length /\ -xs.length<=U/\U<xs.length:=by
 unfold mu at h;cases e:Ga xs.length U with
 |none=>simp_all
 |some j=>
  refine oC (Dw e) λc d a=>xa a λf g=>?_
  simp_all
theorem cq{a xs}{v:a}(h:xs[b]?=some v):mu xs b=some v:=by
 have c:=(Yn.mp h).1
 have e:Ga xs.length (b)=some b:=by
  unfold Ga
  simp_all
 unfold mu;rwa[e]
def vG(b):=∀o i,ť b false o i=Ŧ [o,i] (á o i)
def Gb(X)(r:R2):=
 ∀b a pins s (c:St) H x y v u Q,Inv X pins c H s->RelV x v->RelV y u->r x y H Q ->
  ť a false v u=Ŧ [v,u] (á v u)->p9 (j' X.prog X.w) X.A (subscriptTail b a v u) (EP X pins c Q) X.xe s
def K_(X)(id:String)(r:V->List V->Hp->VK->Prop):=
 ∀pins s (a:St) H x b v c Q,Inv X pins a H s->RelV x v->Vals b c->r x b H Q ->
  p9 (j' X.prog X.w) X.A (call (.builtin id) (v::c)) (EP X pins a Q) X.xe s
variable{n5 v8:R2}
theorem Gb.or(h:Gb c n5)(i:Gb c v8):Gb c (λx y H Q=>n5 x y H Q\/v8 x y H Q):=by
 intro a b pins s d H x y v u Q I e f q g;rcases q with q|q
 .exact h _ _ _ s d H x y v u Q I e f q g
 .exact i _ _ _ s d H x y v u Q I e f q g
variable{P2:TE}{Q:x'}
theorem Ge(b:Gb c n5)(d:PE c j υ)(e:PE c Q P2)(f:vG Q):PE c (.Subscript j Q n) (Hm n5 υ P2):=by
 intro pins s g H a I h;exact Ť (Hn d e I h λv u i x y k l m o q=>b j Q _ i g k x y v u a l m o q (f _ _))
def La(K:K'):R2:=λx y H Q=>∃p a i v,x=.ref p/\y=.int i/\mn K H p a/\mu a i=some v/\Q v H
def Lb(K:K'):R2:=λx y H Q=>∃p a i v,x=.ref p/\y=.int i/\ug K H p a/\mu a i=some v/\Q v H
def QP:R2:=λx y H Q=>∃z i c,x=.str z/\y=.int i/\z.length<=XX/\mu z.cps.toList i=some c/\Q (.str ⟨#[c]⟩) H
theorem Dx:Gb c (La c.K):=by
 intro b d pins s o H x y v u Q I A B h l;obtain⟨p,L,i,z,rfl,rfl,C,D,q⟩:=h;cases A;obtain⟨t,rfl⟩:=B;refine bx (I.list C) λe r f M=>?_
 refine dQ (qw D) λj m E N g=>xa g λF G=>?_
 obtain⟨w,O,k⟩:=r.get E;have P:=r.length;have R:=jh;have a:EP c _ o Q w s:=⟨z,H,I,k,q⟩
 by_cases n:0<=i
 .have J:i.toNat=j:=by
   rw[seqIndex_of n G]at m
   simp_all
  exact item_listR f.isList n (by omega) (by simp_all) a l
 .have J:(i+(e.toArray.size)).toNat=j:=by
   rw[seqIndex_neg (by omega) F]at m
   simp_all
  exact aap f.isList.typeIs aaq.lookup
   (wpAny_getItem_list_neg f.isList (by omega) (by simp_all) (by omega) (by simp_all) ⟨rfl,a⟩) l
theorem Hy:Gb c (Lb c.K):=by
 intro a b pins s B H x y v u Q I g k h l;obtain⟨p,C,i,z,rfl,rfl,m,n,q⟩:=h;cases g;obtain⟨t,rfl⟩:=k;refine bx (I.tuple m) λo r f D=>?_
 refine dQ (qw n) λj E A F d=>xa d λG J=>?_
 obtain⟨w,L,e⟩:=r.get A;have M:=r.length;have N:=jh
 exact aap f.typeIs slot_tuple_getitem.lookup
  (getItem_tuple (j:=j) f (by omega) (by omega) (by simp_all) (by simp_all) ⟨rfl,⟨z,H,I,e,q⟩⟩) l
def Vq(K:K'):R2:=λx y H Q=>La K x y H Q\/Lb K x y H Q\/QP x y H Q
theorem zN:Gb c (Vq c.K):=Dx.or (Hy.or (by
  intro a b pins s r H x y v u Q I f g h k;obtain⟨z,i,d,rfl,rfl,w,l,q⟩:=h;obtain⟨t,rfl⟩:=f;obtain⟨A,rfl⟩:=g;refine dQ (qw l) λj m B C e=>xa e λn o=>?_
  have p:z.cps.toList.length=z.length:=by rfl
  rw[p]at m n o;have D:=jh
  exact tail_any (ŧ s z t) slot_str_getitem.lookup (getItem_str (by
   grind) (by simp_all) ⟨.str ⟨_⟩,H,I.tok _,⟨_,rfl⟩,q⟩) k))
theorem Inv.lst{X pins}{b:St}{H s p xs}(I:Inv X pins b H s)(h:H p=some (.lst xs)):
  ∃a n,Vals xs a/\s.heap.get? p=some {cls:=.type "list",data:=.seq a.toArray n}/\xs.length<=XX:=by
 obtain⟨z,a,n,r,e⟩:=I.hok p _ h;exact⟨_,n,r,e,z⟩
theorem qx(a b n):(Ā a b none n).1=((HT.jP n 0 a))/\(Ā a b none n).2.1=((HT.jP n n b))/\(Ā a b none n).2.2=1:=by
 refine⟨?_,?_,rfl⟩
 .cases a with
  |none=>rfl
  |some i=>
   simp only[Ā,HT.jP,aar,show(1)>0 by decide,if_true]
   grind
 .cases b with
  |none=>rfl
  |some i=>
   simp only[Ā,HT.jP,aar,show(1)>0 by decide,if_true]
   grind
theorem oH(a:List f')(b c):slicePick a.toArray b c none=((a.drop (HT.jP a.length 0 b)).take (HT.jP a.length a.length c - HT.jP a.length 0 b)).toArray:=by
 obtain⟨d,e,f⟩:=qx b c _;unfold slicePick;rw[d,e,f];simp only[sliceRange_one,pick_run,YJ]
def Lc(K:K'):V->Option Int->Option Int->Hp->VK->Prop:=λx c d H Q=>∃a b,x=.ref a/\mn K H a b/\∀p,H p=none->Q (.ref p) (upd H p (.lst (Dv b c d)))
theorem jQ:Hx c (Lc c.K):=by
 intro pins s t H x v u w f g y Q I i j k l h;obtain⟨a,m,rfl,n,q⟩:=h;cases i;obtain⟨o,r,e,p⟩:=I.list n;have d:=r.length;refine⟨_,_,aaq.lookup,e.isList.typeIs,?_⟩;refine wpAny_getItem_list_slice e.isList j k l .none (by simp) ?_ (by simp_all)
 rw[oH,←d];refine⟨.ref _,_,I.laid (λb z q=>X' _ q) (XZ _) ?_,rfl,q _ (I.hok.fresh (XZ _))⟩
 exact⟨B' (rZ m f g) p,_,0,(r.drop _).take _,Yu _ rfl⟩
theorem qy:fb c (.builtin "len") (λxs H Q=>∃p b,xs=[.ref p]/\(mn c.K H p b\/ug c.K H p b)/\Q (.int b.length) H):=by
 intro pins s j H xs k Q I r h;obtain⟨p,b,rfl,hq,q⟩:=h;obtain⟨u,rfl,g⟩:=vals1 r;cases g;have l:=jh;rcases hq with hq|hq
 .obtain⟨d,e,f,i⟩:=I.list hq
  have a:=e.length;exact Calls.call_len_list f.isList (by grind) ⟨.int _,H,I.tok _,⟨s.toks+1,by grind⟩,q⟩
 .obtain⟨d,e,f,i⟩:=I.tuple hq
  have a:=e.length;exact len_tuple f (by grind) ⟨.int _,H,I.tok _,⟨s.toks+1,by grind⟩,q⟩
theorem qz:fb c (.builtin "len") (λxs H Q=>∃z,xs=[.str z]/\z.length<=XX/\Q (.int z.length) H):=by
 intro pins s a H xs b Q I r h;obtain⟨z,rfl,d,q⟩:=h;obtain⟨u,rfl,t,rfl⟩:=vals1 r;have e:=jh;exact len_str (by omega) ⟨.int _,H,I.tok _,⟨_,rfl⟩,q⟩
theorem qA:fb c (.type "list") (λxs H Q=>∃p f,xs=[.ref p]/\(mn c.K H p f\/ug c.K H p f)/\∀l,H l=none->Q (.ref l) (upd H l (.lst f))):=by
 intro pins s B H xs D Q I r h;obtain⟨p,f,rfl,hq,q⟩:=h;obtain⟨u,rfl,C⟩:=vals1 r;cases C
 have j:∀(a:List _),Vals f _->f.length<=XX->∀(d:F') (i:Nat),(∀b A,s.heap.get? b=some A->d.get? b=some A) ->
   d.get? _=some _->EP c _ B Q _ _:=λa g k d i m e=>
  ⟨.ref _,_,I.laid (t':=s.toks) m (XZ _) (show dW _ _ _ d _ (.lst f)from⟨k,a,i,g,e⟩),rfl,q _ (I.hok.fresh (XZ _))⟩
 rcases hq with hq|hq
 .obtain⟨a,g,w,k⟩:=I.list hq
  have t:=g.length;obtain⟨o,x,y,n,z⟩:=w.isList;exact aas p (.inl rfl) x y z (λd i m e=>j _ g k d i m e) (by grind)
 .obtain⟨a,g,w,k⟩:=I.tuple hq
  have t:=g.length;obtain⟨o,x,y,n,z⟩:=w;exact aas p (.inr rfl) x y z (λd i m e=>j _ g k d i m e) (by grind)
theorem oJ:fb c (.type "tuple") (λxs H Q=>∃p a,xs=[.ref p]/\((mn c.K H p a/\∀l,H l=none->Q (.ref l) (upd H l (.tup a)))\/(ug c.K H p a/\Q (.ref p) H))):=by
 intro pins s w H xs x Q I r h;obtain⟨p,a,rfl,h⟩:=h;obtain⟨u,rfl,n⟩:=vals1 r;cases n;rcases h with ⟨d,q⟩|⟨d,q⟩
 .obtain⟨f,g,i,j⟩:=I.list d
  have k:=g.length;refine call_tuple_list i.isList (λy t=>?_) (by grind)
  have m:=I.kept (t':=s.toks) t;exact⟨.ref _,_,(m.laid (λb o e=>X' _ e) (XZ _) (show dW _ _ _ _ _ (.tup a)from⟨j,_,g,IsTup.new _ _⟩)),rfl,q _ (m.hok.fresh (XZ _))⟩
 .obtain⟨f,g,i,j⟩:=I.tuple d
  exact call_tuple_same i ⟨.ref p,H,I,rfl,q⟩
def Kc(K:K')(T:String)(x:V)(H:Hp):Prop:=match x with
 |.str _=>T="str"
 |.int _=>T="int"
 |.ref p=>(T="list"/\∃b,mn K H p b)\/(T="tuple"/\∃o,K.lookup p=some o/\o.cls=.type "tuple"/\o.dict=none) \/
   (T="dict"/\((∃a,H p=some (.dK a))\/∃a,H p=some (.dT a)))\/(T="set"/\∃S n,H p=some (.set S n))
 |_=>False
variable{A3:String}{N:f'}{P:St}{e:Hp}{m:g'}{w:V}{z:List (b'×Obj)}
theorem zO(I:Inv c z P e m)(r:RelV w N)(j:Kc c.K A3 w e):
  m.TypeIs N A3/\∀a,N=.ref a->∃s,m.heap.get? a=some s/\s.dict=none:=by
 cases w with
 |str d=>
  obtain⟨t,rfl⟩:=r;cases (j);exact⟨ŧ m d t,by simp⟩
 |int i=>
  obtain⟨t,rfl⟩:=r;cases (j);exact⟨typeIs_int m i t,by simp⟩
 |ref p=>
  cases r;rcases j with ⟨rfl,C,y⟩|⟨rfl,o,f,A,u⟩|⟨rfl,f⟩|⟨rfl,S,n,f⟩
  .refine bx (I.list y) λB _ x _=>?_
   refine⟨x.isList.typeIs,λa b=>?_⟩
   refine a6 x λo n b k u _=>?_
   simp_all
  .refine⟨⟨o,I.eY p o f,A⟩,λa b=>?_⟩
   cases b;exact⟨o,I.eY _ o f,u⟩
  .have d:∃o,m.heap.get? p=some o/\o.ExactDict:=by
    rcases f with ⟨l,f⟩|⟨l,f⟩
    .refine eG (I.hok p _ f) λ_ _ _ _ g=>cg g λo _ _ b h _=>?_
     grind
    .refine eG (I.hok p _ f) λ_ _ _ _ g=>cg g λo _ _ b h _=>?_
     grind
   refine bc d λo b h=>?_
   refine⟨⟨o,b,h.1⟩,λa q=>?_⟩
   cases q;exact⟨o,b,h.2.1⟩
  .refine bj (I.hok p _ f) λo _ _ _ b h _=>?_
   refine⟨⟨o,b,h.1⟩,λa q=>?_⟩
   cases q;exact⟨o,b,h.2.1⟩
 |_=>exact YT j
noncomputable def QQ(K:K')(T:String)(r:V->List V->Hp->VK->Prop)(b:TE):TE:=λc H Q=>b c H λx a=>Kc K T x a/\r x [] a Q
noncomputable def Ww(K:K')(T:String)(r:V->List V->Hp->VK->Prop)(c:TE)(t:TA):TE:=λa H Q=>c a H λx b=>Kc K T x b/\t a b λd e=>r x d e Q
variable{P5:String}{d:Str}{i8:V->List V->Hp->VK->Prop}
theorem Hz(k:Ĩ A3)(slot:É A3 d P5)(e:ĩ (.builtin P5)=pure (.type "method_descriptor"))(l:K_ c P5 i8)(m:PE c j υ)(a:Zc j d c.env (eval j c.env)=eval j c.env:=by rfl)(b:(n.endLine==J.line)=true:=by rfl):PE c (.Call (.Attribute j d n) [] [] J) (QQ c.K A3 i8 υ):=by
 intro pins s f H Q I h;refine Ũ a b (cp (m _ s f H _ I h) λv o p=>?_);refine a6 p λx q g i r t=>?_
 obtain⟨u,w⟩:=zO g i r;exact⟨A3,P5,k,slot,e,u,w,ā rfl (Ī (l _ o f q x [] v [] Q g i .nil t))⟩
variable{O:List x'}{y3:TA}
theorem Ld(p:Ĩ A3)(slot:É A3 d P5)(i:ĩ (.builtin P5)=pure (.type "method_descriptor"))(q:K_ c P5 i8)(r:PE c j υ)(t:PA c (Q::O) y3)(a:Zc j d c.env (eval j c.env)=eval j c.env:=by rfl)(f:((Ye J (I' (Q::O) c.env)).all (λx=>!x.1)&&(Ze J (Zf [] c.env)).all (λx=>x.1.isSome)
   && decide ((Q::O).length+([]:List Ê).length+(if ([]:List Ê).isEmpty then 0 else 1)<30))=true:=by rfl)(b:(n.endLine==J.line)=true:=by rfl)(u:I' (Q::O) c.env=(false,eval Q c.env)::I' O c.env:=by rfl)(g:(Ye J (I' O c.env)).any (·.1)=false:=by rfl):
  PE c (.Call (.Attribute j d n) (Q::O) [] J) (Ww c.K A3 i8 υ y3):=by
 intro pins s k H e I h;refine wpAny_Call_method_late a f b rfl (cp (r _ s k H _ I h) λv w y=>?_);refine a6 y λx z l m A B=>?_
 obtain⟨C,D⟩:=zO l m A;refine⟨A3,P5,p,slot,i,C,D,?_⟩;have o:=t J _ w k z _ l B;rw[u]at o ⊢;refine ā (by simp_all) (Calls.evalArgs_plain (cp o λE F  G =>aF G λL M N P R=>q _ F k M x L v E e N m P R))
def QS(X)(id:String)(r:V->List V->Hp->VK->Prop):=
 ∀pins s (a:St) H x b v c Q,Inv X pins a H s->RelV x v->Vals b c->r x b H Q ->
  p9 (j' X.prog X.w) X.A (call (.builtin id) (v::c)) (EP X pins a Q) X.xe s
variable{Δ:List f'}
def Vals.one(h:Vals [w] Δ):=vals1 h
variable{P1:V}
def Vals.two(h:Vals [w,P1] Δ):=vals2 h
theorem Vals.zero:∀{a},Vals [] a->a=[]
 |_,.nil=>rfl
theorem Vals.reverse{xs a}(h:Vals xs a):Vals xs.reverse a.reverse:=by
 induction h with
 |nil=>exact .nil
 |cons r t b=>rw[ī,ī];exact Vals.append b (.cons r .nil)
variable{G5:List f'}{R z5:List V}{h:b'}{Θ:Nat}
theorem Inv.Dy{s f}(I:Inv c z P e s)(d:e h=some (.lst R))(a:s.heap.get? h=some {cls:=.type "list",data:=.seq Δ.toArray b})(g:f Δ.toArray=G5.toArray)(i:Vals z5 G5)(hz:z5.length<=XX):
  Inv c z P (upd e h (.lst z5)) {s with heap:=s.heap.update h (Z_ f),toks:=Θ}:=by
 have q:=abW a f;rw[g]at q;refine I.write (by rw[d];exact trivial) (.inl rfl) (λl u j k=>(Zr _ _ (Ya j)).trans k) ⟨_,q⟩ ⟨hz,_,_,i,q⟩
theorem Inv.QU{s}(I:Inv c z P e s)(a:Vals R Δ)(hz:R.length<=XX):
  Inv c z P (upd e s.heap.objs.size (.lst R)) {s with heap:=s.heap.push {cls:=.type "list",data:=.seq Δ.toArray},toks:=b}:=
 I.laid (λ_ _ q=>X' _ q) (XZ _) ⟨hz,_,0,a,Yu _ rfl⟩
def Inv.fresh{X pins}{a:St}{H s}(I:Inv X pins a H s):=I.hok.fresh (XZ _)
theorem Inv.zP(I:Inv c z P e m)(g:e h=some (.lst R)):R.length<=XX/\∃a n,Vals R a/\R.length=a.length/\m.heap.get? h=some {cls:=.type "list",data:=.seq a.toArray n}:=by
 refine xa (I.hok h _ g) λb f=>cE f λa n r d=>⟨b,_,n,r,r.length,d⟩
theorem zQ(h:b<=XX):abX b=false:=decide_eq_false (Nat.not_lt_of_le h)
def vH:V->List V->Hp->VK->Prop:=λx b H Q=>∃l a y,x=.ref l/\b=[y]/\H l=some (.lst a)/\a.length<XX/\Q .non (upd H l (.lst (a++[y])))
theorem pk:QS c "list.append" vH:=by
 intro pins s j H x k v m Q I d f h;obtain⟨l,o,y,rfl,rfl,b,p,q⟩:=h;cases d;obtain⟨u,rfl,g⟩:=f.one;refine xa (I.zP b) λz a=>aF a λi n r t e=>?_
 refine â aat ⟨_,e,rfl⟩ F.entry_list_append (F.args_list_append_2 _ _) (PySem.list_append l _ n u (by simp_all)) ⟨e,?_⟩
 refine⟨.non,_,I.Dy b e (by simp) (r.append (.cons g .nil)) ?_,rfl,q⟩
 grind
def vI:V->List V->Hp->VK->Prop:=λx d H Q=>∃l b a c,x=.ref l/\d=[.ref b]/\H l=some (.lst a)/\H b=some (.lst c)/\a.length+c.length<=XX/\Q .non (upd H l (.lst (a++c)))
theorem yh:QS c "list.extend" vI:=by
 intro pins s C H x D v E Q I m o h;refine a_ h λl b G J g i k p K q=>?_;subst g;subst i
 cases m;obtain⟨u,rfl,t⟩:=o.one;cases t;refine xa (I.zP k) λz a=>aF a λj n r L e=>?_
 refine xa (I.zP p) λM a=>aF a λf w y A B=>?_
 have d:j.toArray.size+f.toArray.size<=XX:=by simp_all
 refine â aau ⟨_,e,rfl⟩ F.entry_list_extend (F.args_list_extend_2 _ _)
  (AutoSeq1.list_extend_list_list_0 l _ n b _ w (by
  rw[zQ d];simp) (B' (Zs _ _) d) (ũ d)) ⟨e,B,?_⟩
 refine⟨.non,_,I.Dy k e (by simp) (r.append y) ?_,rfl,q⟩
 simp_all
def zR:V->List V->Hp->VK->Prop:=λx b H Q=>∃l a,x=.ref l/\b=[]/\H l=some (.lst a)/\Q .non (upd H l (.lst a.reverse))
variable{F7:Option V}{u5:Option f'}
section
variable{κ:Type}[DecidableEq κ]
noncomputable def oK(kvs:List (κ×V))(k):=(kvs.find? λa=>decide (a.1=k)).map (·.2)
noncomputable def putK(kvs)(k:κ)(v:V):=
 if (kvs.any λa=>decide (a.1=k))=true then kvs.map (λa=>if a.1=k then (a.1,v)else a)else kvs++[(k,v)]
theorem r_{p r}{k:κ}(e:p.1=k):oK (p::r) k=some p.2:=by simp[oK,ã,e]
theorem sd{p r}{k:κ}(e:¬ p.1=k):oK (p::r) k=oK r k:=by simp[oK,ã,e]
theorem lE(kvs)(k:κ)(v):(putK kvs k v).length<=kvs.length+1:=by
 unfold putK
 grind
theorem jf.pq(r:jf F7 u5):F7.isSome=u5.isSome:=by
 cases F7 with
 |none=>cases u5 with
  |none=>rfl
  |some _=>exact(r).elim
 |some _=>cases u5 with
  |none=>exact(r).elim
  |some _=>rfl
theorem KV.val{kvs c}(r:KV kvs c)(k:κ):jf (oK kvs k) (ä c k):=by
 induction r with
 |nil=>exact Zz
 |@cons p q g a h t i=>
  obtain⟨d,j⟩:=h
  by_cases e:p.1=k
  .have b:ä (q::a) k=some q.2:=by simp[ä,ã,(d.symm.trans e)]
   rwa[r_ e,b]
  .have f:¬ q.1=k:=λz=>e (d.trans z)
   have b:ä (q::a) k=ä a k:=by simp[ä,ã,f]
   rwa[sd e,b]
theorem KV.any{kvs b}(r:KV kvs b)(k:κ):(kvs.any λa=>decide (a.1=k))=b.any λa=>decide (a.1=k):=by
 induction r with
 |nil=>rfl
 |cons h t c=>simp_all
theorem KV.repl{kvs b}(r:KV kvs b)(k:κ)(d:RelV w N):
  KV (kvs.map λa=>if a.1=k then (a.1,w)else a) (b.map λa=>if a.1=k then (a.1,N)else a):=by
 induction r with
 |nil=>exact .nil
 |@cons p q e f h t c=>
  refine .cons ?_ c
  grind
theorem KV.put{kvs a}(r:KV kvs a)(k:κ)(b:RelV w N):KV (putK kvs k w) (å a k N):=by
 unfold putK å;rw[r.any k]
 by_cases e:(a.any λc=>decide (c.1=k))=true
 .rw[if_pos e,if_pos e];exact r.repl k b
 .rw[if_neg e,if_neg e];exact Paired.snoc r ⟨rfl,b⟩
theorem KV.length{kvs:List (κ×V)}{a}(r:KV kvs a):kvs.length=a.length:=Ē r
end
variable{S7:Key}{v:Yc}{x:X_}
theorem sg(r:RelV (kV S7) N):(ff v x).is S7 N=true:=by
 cases S7 with
 |inl i=>obtain⟨t,e⟩:=(r);subst e;exact xY i t
 |inr a=>obtain⟨t,e⟩:=(r);subst e;exact xZ a t
abbrev KT(H:Hp):List (List Key×V)->List (List Key×b'×f')->Prop:=YO λp q=>p.1=q.1/\H q.2.1=some (.tup (p.1.map kV))/\RelV p.2 q.2.2
variable{B:F'}{y0:HO}
def Gf(ok:jG v x e B)(a:Rd e h y0):=a.ok ok
variable{B5:List (Key×V)}
theorem iU(ok:jG v x e B)(a:Rd e h (.dK B5)):B5.length<=XX/\(h==ZJ)=false/\∃b,KV B5 b/\B.DictOf (ff v x) h b:=
 Gf ok a
def qB(H a y)(r:Option V):=
 (∃b k,Rd H a (.dK b)/\y=kV k/\r=oK b k)\/False
def yi(H a y v c):=
 (∃b k,H a=some (.dK b)/\y=kV k/\b.length<XX/\c=upd H a (.dK (putK b k v)))\/False
theorem qB.k{H a kvs k}(e:H a=some (.dK kvs)):qB H a (kV k) (oK kvs k):=.inl ⟨_,k,.inl e,rfl,rfl⟩
theorem yi.k{H a kvs k v}(e:H a=some (.dK kvs))(b:kvs.length<XX):yi H a (kV k) v (upd H a (.dK (putK kvs k v))):=.inl ⟨_,k,e,rfl,b,rfl⟩
theorem Inv.big(I:Inv c z P e m):ZJ<m.heap.objs.size:=YV (by decide) ((I.mod.glob.keeps I.bk).lt)
variable{L:Yi}{N1 S:f'->g'->Prop}
theorem yj(t:L.units+1<Yk)(I:Inv c z P e m)(g:qB e h w (some P1))(o:RelV w N)(a:∀d n,Inv c z P e n->RelV P1 d->N1 d n):
  p9 (j' c.prog c.w) L (á (.ref h) N) N1 S m:=by
 rcases g with ⟨p,k,b,q,l⟩|bad
 .subst q
  refine eG (iU I.hok b) λf u x i r=>?_
  obtain⟨d,s,j⟩:=jf.some_of (by rw[l];exact i.val k)
  exact wpAny_getItem_of (sg o) r.mapOf s (a d _ (I.tok _) j)
 simp_all
theorem QV(r:L.units+1<Yk)(I:Inv c z P e m)(g:qB e h w F7)(j:RelV w N)(a:∀i,Inv c z P e i->N1 (.bool F7.isSome) i):
  p9 (j' c.prog c.w) L (YF .In N (.ref h)) N1 S m:=by
 rcases g with ⟨n,k,b,o,l⟩|bad
 .subst o
  refine eG (iU I.hok b) λd p s f q=>?_
  refine wpAny_in_of (sg j) p q.mapOf ?_;rw[←(f.val k).pq,←l];exact a _ (I.tok _)
 simp_all
theorem Dz(r:L.units+1<Yk)(I:Inv c z P e m)(g:qB e h w F7)(j:RelV w N)(a:∀i,Inv c z P e i->N1 (.bool (!F7.isSome)) i):
  p9 (j' c.prog c.w) L (YF .NotIn N (.ref h)) N1 S m:=by
 rcases g with ⟨n,k,b,o,l⟩|bad
 .subst o
  refine eG (iU I.hok b) λd p s f q=>?_
  refine wpAny_notIn_of (sg j) p q.mapOf ?_;rw[←(f.val k).pq,←l];exact a _ (I.tok _)
 simp_all
theorem vJ{s}(I:Inv c z P e s)(g:NW (e h))(i:Ã h s.heap B)(j:∃q,B.get? h=some q)(f:dW c.prog c.w (upd e h y0) B h y0):
  Inv c z P (upd e h y0) {s with heap:=B,toks:=b}:=
 I.write g (.inl rfl) (λa q k d=>(i.2 a k).trans d) j f
theorem uw{a}(z:B5.length<=XX)(c:(h==ZJ)=false)(b:KV B5 a)(d:B.DictOf (ff v x) h a):
  dW v x e B h (.dK B5):=⟨z,c,a,b,d⟩
variable{M2:f'}{Q1:Unit->g'->Prop}{π:Hp}
theorem yk(A:L.units+1<Yk)(I:Inv c z P e m)(g:yi e h w P1 π)(o:RelV w N)(p:RelV P1 M2)(b:∀n,Inv c z P π n->Q1 () n):
  p9 (j' c.prog c.w) L (setItem (.ref h) N M2) Q1 S m:=by
 rcases g with ⟨j,k,a,r,l,s⟩|bad
 .subst r s
  refine eG (iU I.hok (.inl a)) λd t B f u=>?_
  refine wpAny_setItem_pairs (hsz:=(by rw[←f.length];exact d)) (sg o) u λC i x=>b _ ?_
  exact vJ I (by rw[a];exact Zz) x (en (i) λq _ _ y _=>⟨q,y⟩) (uw (by have:=lE j k P1;exact B' this l) t (f.put k p) i)
 simp_all
theorem Le(I:Inv c z P e m)(b:Rd e h (.dK B5))(d:∀t g,Inv c z P e g->N1 (.int B5.length t) g):p9 (j' c.prog c.w) L (call (.builtin "len") [.ref h]) N1 S m:=by
 refine eG (iU I.hok b) λa i k f j=>?_
 refine call_len_dict i j (by rw[←f.length];rw[Zx]at a;exact FX a) ?_
 rw[←f.length];exact d _ _ (I.tok _)
def Lf(i):=∀a b,ť i false a b=Ŧ [a,b] (á a b)
variable{A4:Yg}
theorem DA(k:à (.type A3) "__getitem__"=pure (some (.builtin P5)))(l:Lf Q)(h:p9 (j' v x) L (eval j A4) (λo d=>p9 (j' v x) L (eval Q A4) (λi b=>b.TypeIs o A3/\p9 (j' v x) L (á o i) N1 S b) S d) S m):
  p9 (j' v x) L (eval (.Subscript j Q n) A4) N1 S m:=by
 refine Ť (Yx h (λo d e=>Yx e (λi b c=>?_) λ_ _ a=>a) λ_ _ a=>a)
 obtain⟨p,c⟩:=c;refine nc ?_;refine nc (Ă p k ?_)
 first
  |exact T' (nc (by
  rw[l o i];exact wpAny_operating (Yx c (λr g f=>nc (wpAny_letTemporaryGo (T' f))) λ_ _ a=>a)))
noncomputable def Lg(td d:TE):TE:=λb H Q=>td b H λx e=>d b e λy c=>∃a v,x=.ref a/\qB c a y (some v)/\Q v c
noncomputable def Lh(td d e:TE):TS:=λD b H=>e b H λv f=>td b f λx g=>d b g λy h=>∃a c,x=.ref a/\yi h a y v c/\D.nx b c
theorem DB(m:c.A.units+1<Yk)(o:PE c j υ)(p:PE c Q P2)(q:Lf Q):PE c (.Subscript j Q n) (Lg υ P2):=by
 intro pins s i H b I h;refine DA PySem.F.slot_dict_getitem.lookup q (cp (o _ s i H _ I h) λu r  t =>aF t λx w z B C=>cp (p _ r i w _ z C) λO P D=>?_);refine aF D λy E l G d=>aF d λa v J g K=>?_
 subst J;obtain rfl:u=YI a:=B
 exact⟨by
   rcases g with ⟨L,k,e,_,_⟩|bad
   .refine eG (iU l.hok e) λ_ _ R _ M=>?_
    exact M.typeIs
   simp_all,yj m l g G λS T N f=>⟨v,E,N,f,K⟩⟩
variable{A1:x'}{S8:TE}
theorem qC(f:c.A.units+1<Yk)(i:PE c j υ)(k:PE c Q P2)(l:PE c A1 S8)(m:YR A1 (some (.Subscript j Q J)) n.line c.env=pure false):
  PS c (.Assign [.Subscript j Q J] A1 n) (Lh υ P2 S8):=by
 intro pins s d H D I h;refine wpAny_Assign_Subscript (cp (l _ s d H _ I h) λr o b=>?_) m;refine aF b λv p q t w=>?_;refine cp (i _ o d p _ q w) λu z b=>?_;refine aF b λx B C E F=>?_;refine cp (k _ z d B _ C F) λP R b=>?_;refine aF b λy S G K e=>aF e λa L M g N=>?_
 subst M;obtain rfl:u=YI a:=E;exact yk f G g K t λT O=>⟨d,L,O,N⟩
def HD:TE:=λ_ H Q=>∀p,H p=none->Q (.ref p) (upd H p (.dK []))
theorem zS:PE c (.Dict [] [] n) HD:=λpins s a H Q I h=>
 wpAny_Dict_empty ⟨.ref _,_,I.laid (λ_ _ q=>X' _ q) (XZ _) (by
   exact⟨Yh _,beq_eq_false_iff_ne.mpr (Ya (N' I.big)),[],.nil,aav _⟩),rfl,h _ (I.hok.fresh (XZ _))⟩
structure M1(X:Cx)(o:x')(m:Str)(apos:V')(e:x')(cpos:V'):Prop where
 base:Zc o m X.env (eval o X.env)=eval o X.env
 few:((Ye cpos (I' [e] X.env)).all (λx=>!x.1)&&(Ze cpos (Zf [] X.env)).all (λx=>x.1.isSome)
  && decide (([e]:List x').length+([]:List Ê).length+(if ([]:List Ê).isEmpty then 0 else 1)<30))=true
 line:(apos.endLine==cpos.line)=true
 trees:Ye cpos (I' [e] X.env)=[(false,eval e X.env)]
def Wx(H a):=(∃b,Rd H a (.dK b))\/False
theorem ux(I:Inv c z P e m)(d:Wx e h):
  m.TypeIs (.ref h) "dict"/\(∀b,YI h=.ref b->∃f,m.heap.get? b=some f/\f.dict=none)/\(h==ZJ)=false:=by
 rcases d with ⟨i,a⟩|bad
 .refine eG (iU I.hok a) λ_ j n _ g=>?_
  refine⟨g.typeIs,λb q=>?_,j⟩
  cases q;refine cg g λf _ _ k l _=>⟨f,k,l.2.1⟩
 simp_all
end L2
namespace Vr
open PySem PySem.W PySem.Calls PyProof.Rows
variable{B:F'}
theorem lW{P}:∀c d,WellAll P B d (c.map WData.int)->ă d c:=by
 intro c
 induction c with
 |nil=>
  intro d w;cases w;exact .nil
 |cons n c e=>
  intro d w;cases w with
  |cons a b=>
   cases a;exact .cons _ _ (e _ b)
variable{b:Nat}{Δ:List f'}
theorem ym{l:OpenLaw}(j:l.most=some b){P args}(c:l.row.toRowW.claim.pre args=true)(g:WellAll P B Δ args):
  ∃a i e,Δ=[YI a]/\args=[WData.list (e.map WData.int)]/\B.get? a=some {cls:=.type "list",data:=.seq i.toArray}/\ă i e/\e.length<=b:=by
 obtain⟨d,r,rfl,k,m⟩:=hasAllW_cons ((pre_splitW c).1);obtain rfl:=hasAllW_nil m;obtain⟨s,rfl,n⟩:=hasW_list k;obtain⟨e,rfl⟩:=items_int n;cases g with
 |cons o p=>
  cases p;cases o with
  |list q f=>exact⟨_,_,e,rfl,rfl,q,lW e _ f,(by
  have h:=by
   have h:=(holds_andW ((pre_splitW c).2)).1;rwa[j]at h
  have t:=condW_of h (w_not (w_lt w_lit (w_len_list (w_arg rfl))))
  simp_all)⟩
variable{G9:Ū}{P8:X_->F'->Prop}{Q9:(Str->Option f')->F'->Prop}{g:List Str}{v:Yc}
theorem sj{l:OpenLaw}(F:l.most=some b)(u:G9.params.defaults=[])(call:∀w d c p x i o y q j a h s,
   Ground v g [] Q9 w d p x c.heap->P8 w c.heap ->
   c.heap.get? i=some o->o.data=.func (docDef G9.name G9.params G9.body G9.scope y q j)->c.heap.CodeRec q G9.name->p G9.name=some (.ref i) ->
   c.heap.get? a=some {cls:=.type "list",data:=.seq h.toArray}->ă h s->s.length<=b->c.gens = #[] ->
   YB (j' l.prog w) Ë (.call (.ref i) ⟨[.ref a],[]⟩) (λr t=>r=.ok (.ret (.bool true))/\OldK c.heap t.heap/\t.os=c.os/\Zn t.gens) c):
  WalkO v g Q9 P8 l.row.toRowW G9 [] (λf h=>ū f h):=by
 intro w d c p x G Y i o y q j H kV I J z C A K args D R k E L B M;obtain rfl:H=.none:=Dflts.none C u;obtain rfl:kV=.none:=Dflts.noKw C;obtain⟨a,h,s,rfl,rfl,m,e,n⟩:=ym F k B;refine enter_call (ZA (call w _ _ p x i o y q _ a h s G Y I (fd_plain J) z A m e n K) λr t N=>?_)
 obtain⟨rfl,O,P,Q⟩:=N
 exact⟨.inl ⟨_,_,[],rfl,λ_=>rfl,.bool _,postW_of
    (by rfl)
    (w_eq_bool (w_res rfl) w_lit) rfl,by simp⟩,O,P,Q⟩
end Vr
namespace L2
open PySem PySem.Spec PyProof.Rows
theorem pv:∀{a}{b},ă a b->Vals (b.map V.int) a
 |_,_,.nil=>.nil
 |_,_,.cons n t h=>.cons ⟨t,rfl⟩ (pv h)
def Only(H:Hp):=∀b,H b=none\/∃o a,H b=some (.eo o (.lst a))
variable{C h:b'}{C5:De}{D4:Sp}{G:K'}{L5:List Int}{b:Nat}{d:Str}{m:g'}{v:Yc}{x:X_}{Δ:List f'}{θ:Str->Option f'}{ς:Yb}
theorem zT{N}(X:G.In m.heap)(y:m.heap.Ns Yt θ)(k:m.heap.Ns Ŋ N)(O:∀d:Str,d≠"__name__"->N d=ZR d)(A:m.heap.NoLimit)(hg:m.gens = #[])(M:m.heap.get? C=some {cls:=.type "list",data:=.seq Δ.toArray})(Y:ă Δ L5)(Z:L5.length<=XX)(hr:cm b Ë)(F:∀base,G.In base->base.Ns Yt θ->bJ v x G θ base C5 b h ς [d] D4)(w:∀s u,Æ s ς ⟨[u],[]⟩ [(d,u)])(P:∀H,Only H->mn G H C (L5.map V.int)->D4 [.ref C] H (λi _=>i=.bl true) λ_ _ _=>False)(Q:∀H e l,C5 [] H m (λ_ _ _=>False) e l->False):
  YB (j' v x) Ë (.call (.ref h) ⟨[.ref C],[]⟩) (λr l=>r=.ok (.ret (.bool true))/\OldK m.heap l.heap/\l.os=m.os/\Zn l.gens) m:=by
 have rv:=pv Y;have B:=Y.length
 have t:∀H:Hp,Only H->mn G H C (L5.map V.int)->jG v x H m.heap->(∀a,H a≠none->a=C)->(H C≠none->G.lookup C=none) ->
   YB (j' v x) Ë (.call (.ref h) ⟨[.ref C],[]⟩) (λr l=>r=.ok (.ret (.bool true))/\OldK m.heap l.heap/\l.os=m.os/\Zn l.gens) m:=by
  intro H hO hS D hA hK
  have g:∀{a:b'}{o:Obj},m.heap.get? a=some o->H a=none->(ue m.heap H).get? a=some o:=λe n=>PySem.W.hideAll_get _ e λhm=>by
     have q:=(Zm.mp hm).2
     simp_all
  have R:∀{a:b'}{o:Obj}{E:Array Ą}{I:Nat},m.heap.get? a=some o->o.data=.dict E I->H a=none:=λ{a o E I} e f=>by
   cases q:H a with
   |none=>rfl
   |some u=>
    have S:a=C:=hA a (by rw[q];simp)
    subst S;rw[M]at e;cases e
    have d':Data.seq Δ.toArray _=Data.dict E I:=f;cases d'
  have p:∀{a:b'}{j:Str->Option f'},m.heap.Ns a j->(ue m.heap H).Ns a j:=λ{a j}  zf =>cg zf λo E I e f r=>⟨o,E,I,g e (R e f),f,r⟩
  have J:G.In (ue m.heap H):=λa o e=>g (X a o e) (by
   cases q:H a with
   |none=>rfl
   |some u=>
    have S:a=C:=hA a (by rw[q];simp)
    subst S;rw[hK (by rw[q];simp)]at e;cases e)
  have hM:Mod G θ (ue m.heap H):=⟨J,p y,⟨N,p k,O⟩,bc (A) λmc h1 h2=>⟨mc,p h1,h2⟩⟩
  have e0:rV v x G θ (ue m.heap H) Ë [] m H:=⟨rfl,hM,λa o e=>Dh e,M' (PySem.W.hideAll_size _ _),trivial,λa k=>absurd (show a∈([]:List b')from k) (by simp),D,.of_eq hg⟩
  refine ZA ((F _ J (p y)).run Ë [] m H ⟨[.ref C],[]⟩ [.ref C] [.ref C] _ _ hr e0 (w m (.ref C)) (.cons rfl .nil) (P H hO hS)) λr l c=>?_
  cases r with
  |error e=>exact(Q H e l c).elim
  |ok fl=>
   cases fl with
   |next=>exact YT c
   |brk=>exact YT c
   |cont=>exact YT c
   |ret u=>
    refine eK c λi H' os bare un K T=>xa T λr' q=>?_
    have q':i=.bl true:=q;subst q';obtain rfl:u=ϩ true:=r';refine⟨rfl,OldK.of_keep λa o e=>?_,os,bare⟩
    cases q:H a with
    |none=>exact un.keep a o e q (by intro z;exact absurd (show a∈([]:List b')from z) (by simp)) (by simp)
    |some u=>
     rcases hO a with z|⟨ob,xs,z⟩
     .rw[q]at z;cases z
     .have z2:=un.gu a ob _ z
      obtain⟨e1,_⟩:=D a _ z;obtain⟨e2,_⟩:=K a _ z2;rw[e]at e1;cases e1
      exact e2
 cases U:G.lookup C with
 |some o=>
  have e:=X C o U;rw[M]at e;cases e;refine t (λ_=>none) (λ_=>.inl rfl) (.inr ⟨_,Δ.toArray,_,U,rfl,rfl,rfl,by rw[YJ,B];exact Z,by simpa using rv⟩) (λa u z=>by have L:(none:Option HO)=some u:=z;cases L) (λa z=>absurd rfl z) λz=>absurd rfl z
 |none=>
  refine t (λa=>if a=C then some (.eo {cls:=.type "list",data:=.seq Δ.toArray} (.lst (L5.map V.int)))else none) (λa=>?_) (.inl (.inr ⟨{cls:=.type "list",data:=.seq Δ.toArray},if_pos rfl⟩)) (λa u z=>?_) (λa z=>?_) λ_=>U
  .by_cases k:a=C
   .exact .inr ⟨_,_,if_pos k⟩
   .exact .inl (if_neg k)
  .by_cases k:a=C
   .have L:=(if_pos k).symm.trans z
    cases L;subst k;exact⟨M,by rw[Yj];exact Z,Δ,_,rv,M⟩
   .have L:=(if_neg k).symm.trans z
    cases L
  .by_cases k:a=C
   .exact k
   .exact absurd (if_neg k) z
variable{G9:Ū}{P8:X_->F'->Prop}{Q9:(Str->Option f')->F'->Prop}{g:List Str}{s:Nat}
theorem DC{l:aaw}{K:Ĭ->K'}{CX:X_->De}{sp:X_->Sp}(E:l.most=some b)(r:b<=XX)(t:G9.params.defaults=[])(I:cm s Ë)(J:∀w h,P8 w h->(K w.params).In h)(F:∀w m p h,(K w.params).In h->h.Ns Yt m->m G9.name=some (.ref p) ->
   ∃x,(∀c u,Æ c x ⟨[u],[]⟩ [(d,u)]) /\
    ∀base,(K w.params).In base->base.Ns Yt m->bJ l.prog w (K w.params) m base (CX w) s p x [d] (sp w))(y:∀w H a (q:List Int),q.length<=b->Only H->mn (K w.params) H a (q.map V.int)->sp w [.ref a] H (λj _=>j=.bl true) λ_ _ _=>False)(L:∀w H c e M,CX w [] H c (λ_ _ _=>False) e M->False):
  aax v g Q9 P8 l.row.toRowW G9 [] (λf A=>ū f A):=by
 refine Vr.sj E t λw B C m X p o Z cd N a A q G Y ho hd O z n k i P=>?_
 have D:=J w _ Y;obtain⟨x,Q,R⟩:=F w m p _ D G.T.g z;exact zT D G.T.g G.T.b G.T.builtins G.T.nolimit P n k (B' i r) I R Q (λH S U=>y w H a q i S U) (by simp_all)
noncomputable def inClass(s:D')(j:Nat):=match s with
 |.ClassDef _ _ _ body _ _ _ _ _ _ _=>body.getD j (.Pass ⟨0,0,0,0⟩)
 |_=>.Pass ⟨0,0,0,0⟩
noncomputable def bD(s:D'):=match s with
 |.FunctionDef _ a _ _ _ _ _ _ _ _=>a
 |_=>{posonlyargs:=[],args:=[],vararg:=none,kwonlyargs:=[],kw_defaults:=[],kwarg:=none,defaults:=[]}
noncomputable def aT(s:D'):=match s with
 |.FunctionDef _ _ b _ _ _ _ _ _ _=>b
 |_=>[]
noncomputable def ai(s:D'):=match s with
 |.FunctionDef _ _ _ _ _ _ a _ _ _=>a
 |_=>{kind:=.function,names:=[],isGenerator:=false,isCoroutine:=false}
abbrev eL:De:=λ_ _ _ _ _ _=>False
abbrev E0:XK:=λ_ _ _=>False
variable{c:Cx}
theorem lF:Passes eL c E0:=λ_ _ _ _ _ _ _ h=>h.elim
structure yn(K:K')(x qual:Str)(st:D')(f:b')(fd:Yb):Prop where
 ex:∃(oc:f') (od:Option b') (kV doc pm:f') (an:Option b') (cdv ct:f') (osl:Array (Option f')),
  fd=Yy x qual (bD st) (aT st) (ai st) .none kV doc pm an cdv ct/\K.lookup f=some ⟨oc,od,.func fd,osl⟩/\ZD K cdv qual=true
 kp:Yp K (.ref f)=true
variable{B:F'}{T:Str}{X:D'}{ο:List Str}
theorem yn.ok(F:yn G d T X h ς)(S:jO g ο (ai X))(i:∀a H Q E,D4 a H Q E->a.length=ο.length)(c:∀e A outer s H a Q E,cm b (A.deeper (Yl T (ai X) s.heap.objs.size h e))->D4 a H Q E ->
   ∃t,iO (cW eL v x G θ B g T (ai X) h e A outer s H E).jJ (aT X) t/\t {nx:=λ_ u=>Q .non u,rt:=Q} (start g a) H):bJ v x G θ B eL (b+1) h ς ο D4:=by
 refine xe F.ex λoc j=>xe j λD k=>xe k λkV l=>xe l λw m=>xe m λI n=>bj n λJ e ct y o z p=>?_;subst o
 refine zL z p S i λA outer s H a Q E C r=>?_
 obtain⟨t,f,q⟩:=c _ A _ s H a Q E C r;exact⟨t,f.jJ,q⟩
theorem yn.binds(F:yn G d T X h ς)(a:∀kV b e f c ct i,i.length=g.length->Þ (Yy d T (bD X) (aT X) (ai X) .none kV b e f c ct) ⟨i,[]⟩=pure (g.zip i)):Binds G ς g []:=by
 refine xe F.ex λoc j=>xe j λr k=>xe k λkV l=>xe l λb m=>xe m λe n=>bj n λf c ct p o s q=>?_;subst o
 exact .all (a kV _ e f _ ct)
variable{D6 E6 M2 N d6 j7:f'}{Y5:Array (Option f')}{o5 u6:Option b'}
theorem qD(l:G.lookup h=some ⟨N,o5,.func (Yy d T (bD X) (aT X) (ai X) .none M2 d6 D6 u6 E6 j7),Y5⟩)(c:ZD G E6 T=true)(k:Yp G (.ref h)=true):yn G d T X h (Yy d T (bD X) (aT X) (ai X) .none M2 d6 D6 u6 E6 j7):=⟨⟨N,o5,M2,_,D6,u6,_,j7,_,rfl,l,c⟩,k⟩
theorem yo:fb c (.builtin "len") (λxs H Q=>∃a kvs,xs=[V.ref a]/\Rd H a (.dK kvs)/\Q (.int kvs.length) H):=by
 intro pins s f H xs g Q I r h;obtain⟨a,kvs,rfl,b,q⟩:=h;obtain⟨u,rfl,d⟩:=vals1 r;cases d;exact Le I b λt i e=>⟨.int _,H,e,⟨t,rfl⟩,q⟩
variable{Y8:Prop}
theorem uy{B}(h:B):if false=true then Y8 else B:=by
 simp_all
theorem uz{B}(h:Y8):if true=true then Y8 else B:=h
def mW(H a:Hp):=∀b o,H b=some o->a b=some o
variable{W7 e π:Hp}
theorem mW.trans(a:mW e π)(b:mW π W7):mW e W7:=λc o h=>b c o (a c o h)
open PySem.W
def Li(X f)(c:List V)(a:St)(H Q):=∀pins s b,Inv X pins a H s->Vals c b->p9 (j' X.prog X.w) X.A (call (.ref f) b) (EP X pins a Q) X.xe s
noncomputable def Cx.fz(X:Cx)(xs:List Str):={X with fn:=λy=>X.fn y&&!(xs.contains y)}
theorem KT.length{H l m}(q:KT H l m):m.length=l.length:=by
 induction q with
 |nil=>rfl
 |cons _ _ a=>simp_all
end L2
namespace HT
open PySem PyProof.Rows
end HT
namespace L2
open PySem PySem.Spec PyProof.Rows
open PySem.W
def Lj(a:b')(o:Obj):It:=
 ⟨λi H=>∃b,H a=some (.eo o (.dK b))/\i<b.length,λi H x d=>d=H/\∀b,H a=some (.eo o (.dK b))->∃c,b[i]?=some c/\x=kV c.1,λi H=>∃b,H a=some (.eo o (.dK b))/\b.length<=i⟩
theorem gx{a b F}:∀{xs}{c:List b}{i:Nat}{x:a},YO F xs c->xs[i]?=some x->∃u,c[i]?=some u/\F x u
 |_,_,_,_,.nil,e=>by simp at e
 |_,_,0,_,.cons r _,e=>by simp_all
 |_,_,i+1,x,.cons _ t,e=>by
  refine bc (gx t (by simpa using e)) λu d f=>?_
  simp_all
variable{N:f'}{S7:Key}{v:Yc}{x:X_}
theorem qE(h:(ff v x).is S7 N=true):RelV (kV S7) N:=by
 rcases cw (h)with ⟨i,t,rfl,rfl⟩|⟨a,t,rfl,rfl⟩
 .exact⟨t,rfl⟩
 .exact⟨t,rfl⟩
variable{B:F'}{B5:List (Key×V)}{N9:Array Ą}{b:Nat}{e:Hp}{h:b'}{Ξ:Obj}
theorem kK(ok:jG v x e B)(a:e h=some (.eo Ξ (.dK B5)))(f:Ξ.data=.dict N9 b):
  ∃c,KV B5 c/\B.DictAt (ff v x) h c b/\N9.size=c.length/\(h==ZJ)=false:=by
 obtain⟨g,_,k,c,r,q,l,m,d,n,i,o,j,p⟩:=ok h _ a;rw[g]at d;cases d
 rw[f]at i;cases i
 refine⟨c,r,⟨Ξ,N9,g,n,f,o,j,p⟩,?_,k⟩;rw[←j.length];simp
variable{G:K'}{j:x'}
theorem yp(a l)(L:Ξ.data=.dict N9 b):Turn v x G j (Lj a Ξ) [l] l (λi h=>h.IsKeyIter l a i N9.size b) where
 mem:=by simp
 obj:=λi h g f m=>by
  refine bx g λΞ e c d=>?_
  simp_all
 keep:=λi h M g k=>by
  refine bx g λΞ e c d=>?_
  exact⟨Ξ,k l (by simp) Ξ e,c,d⟩
 item:=by
  intro X p t u N i pins s Q H E I n g w;subst p t u;refine bc w λy z O=>?_
  refine dQ (kK I.hok z L) λR r A o _=>?_
  refine bc (gx r (YW O)) λq S rq=>?_
  refine dU (n l (by simp)) λB C T D F J=>?_
  rw[o]at g;refine wpAny_pyNext_dict_item g A S λU M V K Y=>?_
  refine bx (id K) λo1 Z c1 d1=>?_
  refine⟨_,rfl,rT Z c1 d1 (by decide) ⟨_,H,(I.turned (λf Ξ m e=>(Y.2 f m).trans e) B C D F J),qE V,⟨rfl,λP a0=>?_⟩,by rwa[o],λf m=>(n f m).1⟩⟩
  simp_all
 done:=by
  intro X p t u N i pins s Q H E I n g w;subst p t u;refine bc w λy z O=>?_
  refine dQ (kK I.hok z L) λR r A o _=>?_
  refine dU (n l (by simp)) λB C T D F J=>?_
  have hl:=r.length;rw[o]at g;exact wpAny_pyNext_dict_end (I.ok.hd N) g A (by simp_all) λM eb=>⟨rfl,I.turned (λf Ξ m e=>eb f Ξ m e) B C D F J⟩
 self:=λ_ _ _ _ _ g h=>wpAny_pyIter_keyiter g h
variable{P:St}{c:Cx}{m:g'}{z:List (b'×Obj)}
theorem Inv.vK(I:Inv c z P e m)(a:e h=some (.dK B5)):∃o f g,m.heap.get? h=some o/\o.data=.dict f g/\Inv c z P (upd e h (.eo o (.dK B5))) m:=by
 obtain⟨d,k,l,r,o,f,g,i,n,j,p,q,s⟩:=I.hok h _ a;refine⟨o,f,g,i,j,?_⟩;have:=vJ (b:=m.toks) (y0:=.eo o (.dK _)) I (by rw[a];exact Zz) ⟨rfl,by simp⟩ ⟨o,i⟩ ⟨i,d,k,l,r,o,f,g,i,n,j,p,q,s⟩
 exact this
def Lk(R:It->Hp->Prop)(x:V)(c):=∃a b,x=.ref a/\((c a=some (.dK b)/\∀o,R (Lj a o) (upd c a (.eo o (.dK b))))\/∃o,c a=some (.eo o (.dK b))/\R (Lj a o) c)
variable{T7:It->Hp->Prop}{w:V}
theorem DD(s:Inv c z P e m)(u:RelV w N)(q:Lk T7 w e):p9 (j' c.prog c.w) c.A (ZT N) (PIE c z P j T7) c.xe m:=by
 obtain⟨a,n,rfl,q⟩:=q;cases (u)
 have g:∀(o:Obj) (h:Array _) (i:Nat) (k:Hp),Inv c z P k m->k a=some (.eo o (.dK n))->o.data=.dict h i->T7 (Lj a o) k->p9 (j' c.prog c.w) c.A (ZT (.ref a)) (PIE c z P j T7) c.xe m:=by
  intro o h i k f x l hR;refine dQ (kK f.hok x l) λy r B C t=>?_
  refine aay t B ?_;refine⟨_,_,_,_,k,rfl,(f.kept λb o q=>X' _ q),yp a _ l,?_,λb D=>?_,hR⟩
  .rw[C]
   exact⟨_,Yu _ rfl,rfl,rfl⟩
  .have d:=by simpa using D
   rw[d];have:=f.yb (XZ _) (f.hok.fresh (XZ _));exact this
 rcases q with ⟨p,hR⟩|⟨o,p,hR⟩
 .refine cg (s.vK p) λo h i E l f=>g o h i _ f aS l (hR o)
 .obtain⟨E,_,t,y,r,G,h,i,F,H,I,J⟩:=s.hok a _ p
  grind
variable{B3:Array f'}{C ψ:b'}{E4:ø->g'->Prop}{M8:Bool->g'->Prop}{S:f'->g'->Prop}{i9:Option f'->g'->Prop}{Δ:List f'}
section
variable{prog:Yc}{w:X_}{A:Yi}{E:f'->g'->Prop}{s:g'}
theorem yq(b:s.TypeIs (.ref h) "dict")(a:M8 false s):p9 (j' prog w) A (aaz (.ref h)) M8 E s:=by
 refine nc (Ă b F.slot_dict_len.lookup ?_);generalize c:("dict.__len__")=d;subst c;refine nc (ĭ b isSubtype_dict_dict ?_);refine nc (ą b (T' a))
theorem qF(o:s.heap.get? h=some Ξ)(p:Ξ.cls=.type "list")(f:Ξ.data=.seq B3 b)(q:Ξ.dict=none)(u:A.handled=none)(i:∀m r,(∀a Ξ,s.heap.get? a=some Ξ->m.get? a=some Ξ)->i9 none {s with heap:=m,toks:=r}):p9 (j' prog w) A (getAttr? (.ref h) "keys") i9 E s:=by
 obtain⟨c,x,y,z⟩:=Ξ;simp only at p f q;subst p f q;obtain⟨B,g,d,r,C⟩:=s;have t:∀k,(⟨B,g,d,k,C⟩:g').TypeIs (.ref h) "list":=λ_=>⟨_,o,rfl⟩
 have D:=sub_AttributeError;have G:=Ŭ.lookup;have H:=Ŭ.bind (.ref h);have I:=am_list_getattr_none;have j:à (.type "list") "keys"=pure none:=am_miss_of_fast (by kernel_rfl)
 unfold getAttr? getAttrBy? getAttrBy
 repeat (any_goals (first|assumption|exact t _ | ((with_reducible show p9 _ _ (call (aaA "list.__getattribute__") _ _) _ _ _);refine â Ŭ (t _) am_entry_list_getattribute (F.args_list_getattribute_2 _ _) (meets_getattribute_miss_list h B3 b z "keys" _ j (by decide) (by decide)) ⟨o,u,λm k e l=>?_⟩)|wp_step))
 refine xe l.there λJ n=>xe n λK L=>?_
 show p9 _ _ (aaB _ _ _ _ _ _ _) _ _ _
 unfold aaB
 repeat (any_goals (first|assumption|wp_step))
 exact i _ _ λa Ξ e=>l.keeps a Ξ e
theorem fM:ŭ "dict.update.loop"=true:=by decide +kernel
theorem fN:æ ç "dict.update.loop"=some ZM.«dict.update.loop» := aaC (by kernel_rfl)
variable{K:Type}[DecidableEq K]{knd:KeyKind prog w K}
theorem uA{c d F G}(h:∀a b,F a b->G a b){xs:List c}{e:List d}(r:YO F xs e):YO G xs e:=Paired.Hd r h
def mX(knd:KeyKind prog w K)(h:F')(p:K×f')(u:f'):=∃b o a n,u=.ref b/\h.get? b=some o/\o.cls=.type "tuple"/\o.data=.seq #[a,p.2] n/\knd.is p.1 a=true
theorem sk(hh:A.handled=none)(g:ψ≠C)(E:h≠ψ)(F:h≠C)(hl:B.IsList h Δ.toArray)(G)(S:∀o,B.get? ψ=some o->o.cls≠.type "tuple")(U:∀o,B.get? C=some o->o.cls≠.type "tuple"):
  ∀ps i t s c,YO (mX knd B) ps (Δ.drop i)->c.length+ps.length<=XX->(∀b o,b≠ψ->b≠C->B.get? b=some o->s.heap.get? b=some o)->s.heap.IsListIter C h i->s.heap.DictOf knd ψ c ->
  (∀j V,(∀b o,b≠ψ->b≠C->s.heap.get? b=some o->j.get? b=some o)->j.DictOf knd ψ (ps.foldl (λa p=>å a p.1 p.2) c)->E4 (.ok (.ret G)) {s with heap:=j,toks:=V}) ->
  YB (j' prog w) A (.builtin "dict.update.loop" ⟨[.ref ψ,.ref C,.int i t,G],[]⟩) E4 s:=by
 intro ps
 induction ps with
 |nil=>
  intro i t s c H Q I k X hR;refine ZE fN ?_;have D:Δ.drop i=[]:=by generalize Δ.drop i=q at H;cases H;rfl
  refine nc (ϲ hh k (let ⟨o,l,r⟩:=hl;⟨o,I h o E F l,r⟩) (by simpa using List.drop_eq_nil_iff.mp D) λj eb=>?_)
  exact nc (T' (T' (hR j s.toks (λb o _ R e=>eb b o R e) (X.extBut eb g))))
 |cons p ps ih=>
  intro i t s c H Q I k X hR
  have D:∃u r,Δ.drop i=u::r/\mX knd B p u/\YO (mX knd B) ps r:=by
   generalize Δ.drop i=q at H;cases H with|cons a b=>exact⟨_,_,rfl,a,b⟩
  obtain⟨u,r,D,⟨b,o,f0,n,rfl,l,Y,J,L⟩,Z⟩:=D;have hr:Δ.drop (i+1)=r:=by rw[←List.drop_drop,D];rfl
  have a0:b≠ψ:=λe=>S o (e▸l) Y
  have M:b≠C:=λe=>U o (e▸l) Y
  refine ZE fN ?_
  refine nc (ϱ k (let ⟨o,l,r⟩:=hl;⟨o,I h o E F l,r⟩) (x:=.ref b) (by simpa using (by
   have:=congrArg (·[0]?) D;simpa using this)) λh1 N m=>?_)
  have O:h1.get? b=some o:=(m.2 b M).trans (I b o a0 M l);have b0:h1.DictOf knd ψ c:=X.extBut m.extBut g;refine nc (ZF (nc (aaD ?_)));unfold abY;refine nc (ą (T:="tuple") ⟨o,O,Y⟩ ?_);rw[if_pos (by decide)]
  unfold seqItems?;refine nc (nc (ϰ O ?_));rw[J];refine T' (T' ?_);refine ZF (wpAny_dictSet_pairs L b0 (λR c0 P=>?_) (by simp at Q;exact B' (Zs _ _) Q))
  refine T' ⟨ZG fM _,?_⟩;have keep:∀d f,d≠ψ->d≠C->s.heap.get? d=some f->R.get? d=some f:=λd f y z e=>(P.2 d y).trans ((m.2 d z).trans e)
  have:=ih (i+1) 0 {s with heap:=R,toks:=s.toks+1} (å c p.1 p.2) (by rw[hr];exact Z) (by have:=stored_length_le c p.1 p.2;simp at Q;omega) (λd f y z e=>keep d f y z (I d f y z e)) (N.at λo e=>(P.2 C (Ya g)).trans e) c0 (λj V d0 e0=>hR j V (λd f y z e=>d0 d f y z (keep d f y z e)) e0)
  exact this
theorem mY{ps}(X:A.handled=none)(Y:s.heap.get? h=some Ξ)(M:Ξ.cls=.type "list")(f:Ξ.data=.seq Δ.toArray b)(hd:Ξ.dict=none)(hp:YO (mX knd s.heap) ps Δ)(hsz:ps.length<=XX)(i:∀n N,(∀c Ξ,s.heap.get? c=some Ξ->n.get? c=some Ξ)->n.DictOf knd s.heap.objs.size (ps.foldl (λa p=>å a p.1 p.2) [])->S (.ref s.heap.objs.size) {s with heap:=n,toks:=N}):
  p9 (j' prog w) A (call (.type "dict") [.ref h]) S E s:=by
 refine Ů (Q₁:=λo g=>o=.ref s.heap.objs.size/\g={s with heap:=s.heap.push _}) F.kt_called_dict (F.kt_typeCall_dict_1 _) F.entry_dict_init (kt_code_dict_new _ ⟨rfl,rfl⟩) ?_
 rintro o g ⟨rfl,rfl⟩;have d:(s.heap.push _).DictOf knd s.heap.objs.size []:=aav s.heap;have j:=X' {cls:=.type "dict",data:=.dict #[]} Y;refine⟨d.typeIs,F.args_dict_init_2 _ _,?_⟩;refine nc ?_;refine nc (wpAny_notOrdered_dict d.typeIs ?_);refine T' ?_
 show p9 _ _ (abZ "dict.__init__" s.heap.objs.size (.ref h) [] .none) _ _ _
 refine nc (ą (T:="list") ⟨Ξ,j,M⟩ ?_);rw[if_pos (by decide)]
 refine nc (qF (A:=A.in1.in1) j M f hd X λm N O=>?_)
 rw[if_pos (by decide)]
 refine nc (Zj ?_);have q:m.IsList h Δ.toArray:=⟨Ξ,O h Ξ j,M,b,f⟩;refine nc (Į q ?_);refine T' ⟨ZG fM _,?_⟩;have Z:=λc Ξ e=>O c Ξ (X' _ e)
 have t:m.DictOf knd s.heap.objs.size []:=en (d) λΞ I J e r=>⟨Ξ,I,J,O _ Ξ e,r⟩
 have k:=en (t) λΞ _ _ e _=>O' e
 have x:h<s.heap.objs.size:=O' Y;generalize hq:m.push _=y;have L:∀c Ξ,m.get? c=some Ξ->y.get? c=some Ξ:=λc Ξ e=>by rw[←hq];exact X' _ e
 have z:y.IsListIter m.objs.size h 0:=by rw[←hq];exact⟨_,Yu _ rfl,rfl,rfl⟩
 have D:y.DictOf knd s.heap.objs.size []:=en (t) λΞ I J e r=>⟨Ξ,I,J,L _ Ξ e,r⟩
 have l:=sk (A:=A.in1) (E4:=į (λr G=>r=ZI/\S (YI s.heap.objs.size) G) E) (knd:=knd) (B:=y) (h:=h) (C:=m.objs.size) (ψ:=s.heap.objs.size) (Δ:=Δ) X (N' k) (N' x) (N' (YV x k))
  (let ⟨Ξ,e,r⟩:=q;⟨Ξ,L _ Ξ e,r⟩) .none (λΞ e=>by
   refine cg D λo' I J P H _=>?_
   rw[e]at P;cases P
   rw[H.1];decide) (λΞ e=>by
   refine bx z λo' P H _=>?_
   simp_all) ps 0 0 {s with heap:=y,toks:=N} [] (by
   rw[aaE]
   exact uA (λp u Q=>by
    refine bj Q λc Ξ l b e1 e2 r=>?_
    exact⟨c,Ξ,l,b,e1,L _ _ (Z _ _ e2),r⟩) hp) (by simpa using hsz) (λc Ξ _ _ e=>e) z D (λn R U V=>?_)
 .exact l
 .refine⟨rfl,i n R (λc Ξ e=>U c Ξ ?_ ?_ (L _ _ (Z _ _ e))) V⟩
  .exact N' (O' e)
  .exact N' (YV (O' e) k)
theorem mZ{kvs}(hh:A.handled=none)(lo:(h==ZJ)=false)(da:s.heap.DictAt knd h kvs b)(hn:kvs.length<=XX)(hQ:∀O tk g P,(∀a o,s.heap.get? a=some o->O.get? a=some o)->O.get? s.heap.objs.size=some {cls:=.type "list",dict:=none,data:=.seq g P,slots := #[]}->Ć (λi v=>∃k x,kvs[i]?=some (k,x)/\knd.is k v=true) g kvs.length->S (.ref s.heap.objs.size) {s with heap:=O,toks:=tk}):
  p9 (j' prog w) A (call (.type "list") [.ref h]) S E s:=by
 refine Ů (Q₁:=λB p=>B=.ref s.heap.objs.size/\p={s with heap:=s.heap.push {cls:=.type "list",data:=.seq #[]} }) aaF (aaG _) aaH
  (aaI _ ⟨rfl,rfl⟩) λB p C=>?_
 obtain⟨rfl,rfl⟩:=C;generalize f:s.heap.objs.size=c;have L:(s.heap.push {cls:=.type "list",data:=.seq #[]}).get? c=some {cls:=.type "list",data:=.seq #[]}:=by rw[←f];exact Yu _ rfl
 refine⟨⟨_,L,rfl⟩,aaJ _ _,?_⟩;refine nc ?_;unfold ab_;refine nc (ů L rfl (T' ?_));refine nc (İ L rfl ?_);have d:=Z9 (Z_ (λ_=>(#[]:Array f'))) L rfl
 have q:c≠h:=λe=>by
  refine cE da λo es r _=>?_
  exact Yr _ ((e▸f)▸O' r)
 refine nc (Ű ?_);generalize Q:(s.heap.push {cls:=.type "list",data:=.seq #[]}).update c (Z_ (λ_=>(#[]:Array f')))=j at d
 have k1:∀a o,s.heap.get? a=some o->j.get? a=some o:=λa o e=>by
  rw[←Q];exact(Zr _ _ (λz=>Yr _ ((z▸f)▸O' e))).trans (X' _ e)
 have n:j.DictAt knd h kvs b:=da.at' λo e=>k1 h o e
 have R:({s with heap:=j}:g').TypeIs (.ref h) "dict":=let ⟨o,_,r,T,_⟩:=n;⟨o,r,T.1⟩
 show p9 _ _ (ű (.ref c) (.ref h) .none) _ _ {s with heap:=j}
 unfold ű;refine nc (ą R ?_);have U:ı (.ref c) (.ref h)=false:=by simp[ı,q]
 have V:(Zl "dict"==Zl "list")=false:=by decide
 have X:(Zl "dict"==Zl "tuple")=false:=by decide
 simp only[U,V,X,aaK,Ĳ,if_false];refine nc (aay lo n ?_);generalize D:j.push {cls:=.type "dict_keyiterator",data:=.fields #[.ref h,.int 0 0,.int kvs.length 0,.int b 0]}=t;have M:∀a o,j.get? a=some o->t.get? a=some o:=λa o e=>by rw[←D];exact X' _ e
 have Y:t.IsKeyIter j.objs.size h 0 kvs.length b:=by rw[←D];exact⟨_,Yu _ rfl,rfl,rfl⟩
 have G:t.DictAt knd h kvs b:=n.at' λo e=>M h o e
 have Z:({s with heap:=t}:g').TypeIs (.ref h) "dict":=let ⟨o,_,r,T,_⟩:=G;⟨o,r,T.1⟩
 refine nc (ZF (yq (s:={s with heap:=t}) Z ?_));refine Ì (λ_=>?_) (λa0=>absurd (by decide) a0)
 refine nc (Zj ?_);refine nc ?_
 show p9 _ _ (updateSeq c (·.push .none) >>= λ_=>updateSeq c (·.pop)) _ _ _
 refine nc (İ (M _ _ d) rfl ?_);have l:=Z9 (Z_ (·.push ZI)) (M _ _ d) rfl;refine İ (hz:=by decide) l rfl ?_
 have m:=Z9 (Z_ (·.pop)) l rfl;refine T' ⟨ZG aaL _,?_⟩;generalize b0:(t.update c (Z_ (·.push ZI))).update c (Z_ (·.pop))=h3 at m
 have k3:∀a o,a≠c->t.get? a=some o->h3.get? a=some o:=λa o u e=>by
  rw[←b0];exact(Zr _ _ (Ya u)).trans ((Zr _ _ (Ya u)).trans e)
 have c0:h<j.objs.size:=cE (n) λo _ r _=>O' r
 have y:c<j.objs.size:=O' d;have W:=(Walks.dictKeys (prog:=prog) (w:=w) (A:=A.in1.in1) (knd:=knd) hh j.objs.size h (N' c0) kvs b).toS;refine aaM W hn c (λN=>?_) .none kvs.length 0 _ #[] _ rfl (Yh _) ⟨Y.at λo e=>k3 _ o (Ya (N' y)) e,G.at' λo e=>k3 _ o (Ya q) e⟩ m (aaN _) λs' g P N H I=>?_
 .rcases Yo.mp N with e|e
  .exact N' y e
  .exact q (by simpa using e)
 .rw[aaO N]at H ⊢
  refine⟨rfl,?_⟩;have:=hQ s'.heap s'.toks g P (λa o e=>N.heap a o (λJ=>?_) (k3 _ _ (λz=>Yr _ ((z▸f)▸O' e)) (M _ _ (k1 _ _ e)))) (by rw[f];exact H) I
  .rw[f]at this;exact this
  .have u:=O' e
   rcases Yo.mp J with e' |e'
   .rw[e',←f]at u;exact Yr _ u
   .have e':a=j.objs.size:=by simpa using e'
    rw[e',f]at u;exact Yr _ (YV u y)
end
variable{R:List V}{v9:Nat->f'->Prop}
theorem DE(h:Ć v9 B3 R.length)(f:∀i u v,v9 i u->R[i]?=some v->RelV v u):Vals R B3.toList:=by
 have c:∀(l:List _) (R:List V),l.length=R.length->(∀(i:Nat) (u:f') (v:V),l[i]?=some u->R[i]?=some v->RelV v u)->Vals R l:=by
  intro l
  induction l with
  |nil=>intro R h _;cases R with|nil=>exact .nil|cons a b=>simp at h
  |cons u l g=>
   intro R h d;cases R with
   |nil=>simp at h
   |cons v R=>exact .cons (d 0 u v rfl rfl) (g R (by simp_all) λi j k m e=>d (i+1) j k (by simp_all) (by simp_all))
 exact c _ _ (by rw[Array.length_toList,h.1]) λi u v m e=>f i u v (h.2 i u (by simp_all)) e
theorem uB(m:c.calm=true):fb c (.type "list") (λxs H Q=>∃a kvs,xs=[V.ref a]/\Rd H a (.dK kvs)/\∀l,H l=none->Q (.ref l) (upd H l (.lst (kvs.map λb=>kV b.1)))):=by
 intro pins s P H xs R Q I r h;obtain⟨a,kvs,rfl,n,q⟩:=h;obtain⟨u,rfl,p⟩:=vals1 r;cases p;refine eG (iU I.hok n) λz t S d w=>?_
 refine dG w λo y T A B C d4=>?_
 have f:=d.length;refine mZ (I.ok.hd m) t ⟨o,y,A,B,C,d4⟩ (B' (M' f.symm) z) λD U g E F e G=>?_
 exact⟨.ref _,_,I.laid F (XZ _) (show dW _ _ _ D _ (.lst _)from⟨by simp_all,_,E,(DE (by rw[Yj,←f]at *;exact G) λi u v J X=>by
  refine cE J λk x K L=>?_
  have M:∃b,kvs[i]?=some b/\v=kV b.1:=by
   grind
  obtain⟨b,N,rfl⟩:=M;obtain⟨Y,j,O⟩:=gx d N;rw[K]at j;cases j
  rw[O.1];exact qE L),by omega⟩),rfl,q _ (I.hok.fresh (XZ _))⟩
theorem uC:fb c (.type "dict") (λxs H Q=>∃a kvs,xs=[V.ref a]/\Rd H a (.dK kvs)/\∀l,H l=none->Q (.ref l) (upd H l (.dK kvs))):=by
 intro pins s p H xs t Q I r h;obtain⟨a,kvs,rfl,g,q⟩:=h;obtain⟨u,rfl,i⟩:=vals1 r;cases i;refine eG (iU I.hok g) λz j w d k=>?_
 have m:=d.length;refine kt_call_dict j k (B' (M' m.symm) z) λx f n=>?_
 exact⟨.ref _,_,I.laid (λb o e=>(n.2 b (N' (O' e))).trans (X' _ e)) (XZ _) (uw z (beq_eq_false_iff_ne.mpr (Ya (N' I.big))) d f),rfl,q _ (I.hok.fresh (XZ _))⟩
theorem uD(S:c.calm=true):fb c (.type "dict") (λxs H Q=>∃a i ps,xs=[V.ref a]/\Rd H a (.lst i)/\YO (λ(p:Key×V) y=>∃b,y=.ref b/\Rd H b (.tup [kV p.1,p.2])) ps i/\∀l,H l=none->Q (.ref l) (upd H l (.dK (ps.foldl (λa p=>putK a p.1 p.2) [])))):=by
 intro pins s σ H xs T Q I r h;refine dG h λa i ps C U t q=>?_;subst C
 obtain⟨u,rfl,D⟩:=vals1 r;cases D;obtain⟨f,j,⟨o,n,X,E,F,k⟩,Y⟩:=I.list (.inl U)
 have G:∀{ps:List (Key×V)}{i:List V}{f:List f'},YO (λ(p) (y:V)=>∃b,y=.ref b/\Rd H b (.tup [kV p.1,p.2])) ps i->Vals i f->∃g,KV ps g/\YO (mX (ff c.prog c.w) s.heap) g f:=by
  intro ps i f t j
  induction t generalizing f with
  |nil=>cases j;exact⟨[],.nil,.nil⟩
  |@cons p y ps i x _ z=>
   cases j with
   |@cons _ u _ T D j=>
    obtain⟨g,A,B⟩:=z j;obtain⟨b,rfl,Z⟩:=x;cases (D);refine xa (Gf I.hok Z) λ_ J=>bc J λO m K=>bx K λo' e1 e2 L=>xe L λn' e3=>?_
    cases m with
    |@cons _ k' _ r1 rk m=>
     cases m with
     |@cons _ v' _ r2 M m=>
      cases m with
      |nil=>exact⟨(p.1,v')::g,.cons ⟨rfl,M⟩ A,.cons ⟨b,o',k',n',rfl,e1,e2,e3,sg rk⟩ B⟩
 obtain⟨g,A,B⟩:=G t j;have hl:=A.length;have N:=Ē t;refine mY (I.ok.hd S) X E k F B (B' (B' (M' hl.symm) (M' N)) Y) λh' tk kp dd=>?_
 have hf:∀{ps:List (Key×V)}{g:List _} (d:List (Key×V)) (e:List _),KV d e->KV ps g->KV (ps.foldl (λa p=>putK a p.1 p.2) d) (g.foldl (λa p=>å a p.1 p.2) e):=by
  intro ps g d e P r
  induction r generalizing d e with
  |nil=>exact P
  |@cons p q ps g x _ z=>
   simp;refine z _ _ ?_;rw[←x.1];exact P.put p.1 x.2
 have R:∀(ps:List (Key×V)) (d:List (Key×V)),(ps.foldl (λa p=>putK a p.1 p.2) d).length<=d.length+ps.length:=by
  intro ps
  induction ps with
  |nil=>simp
  |cons p ps z=>
   intro d;have B:=lE d p.1 p.2
   grind
 exact⟨.ref _,_,I.laid kp (XZ _) (uw (by
  grind) (beq_eq_false_iff_ne.mpr (Ya (N' I.big))) (hf _ _ .nil A) dd),rfl,q _ (I.hok.fresh (XZ _))⟩
abbrev iu(h:F')(C)(rest:List f'):=(h.push {cls:=.type "tuple",data:=.seq rest.toArray}).push {cls:=.ref C,data:=.fields #[.ref h.objs.size,.none,.none,.none,.bool false,.none]}
variable{A2 E:Bool}{A3 P5 T8:String}{A6:Drawn}{B7 C7 D7 E7 u5:Option f'}{C6:Array ŋ}{G5 N7 y9 z9:List f'}{J7:Option Bool}{L:Yi}{N6:OsState}{T d:Str}{g:List Str}{o5:Option b'}{θ:Str->Option f'}
theorem oM(F:Ų A3 P5 T8 N7)(a:ć B N7 G5)(m:B.get? C=some (è d T C h Δ G5 E g y9 A2 J7 o5 u5 B7 C7 D7 E7 P5))(t:B.Ns h θ)(p:θ "__init__"=some (.ref ψ))(u:∀self,ĳ (j' v x) B (bindSpecial (.ref ψ) self) (.ref ψ,[self]))(j:z9.length<=XX){Q}(w:YB (j' v x) L (.call (.ref ψ) ⟨.ref (B.objs.size+1)::z9,[]⟩) (λr q=>match r with|.ok (.ret f)=>f=.none/\Q (.done (.ret (.ref (B.objs.size+1)))) q|.ok _=>False|.error e=>S e q) ⟨iu B C z9,C6,A6,b,N6⟩):
  p9 (j' v x) L (ZM.«type.__call__» ⟨.ref C::z9,[]⟩) Q S ⟨B,C6,A6,b,N6⟩:=by
 repeat (first|with_reducible refine aaP m ?_|with_reducible refine wpAny_madeBy_exc m ?_|wp_step)
 refine codeAny_call_builtin_code (ų _ F.quiet) (wpAny_check_new_subT F a m ?_);refine codeAny_exc_new_subT F a m ?_ j
 show p9 _ _ _ _ _ _
 have k:∀c o,B.get? c=some o->(iu B C z9).get? c=some o:=λc o e=>X' _ (X' _ e)
 have i:=k _ _ m;have l:(iu B C z9).Ns h θ:=en (t) λo y A e r=>⟨o,y,A,k _ _ e,r⟩
 have s:(YI C::G5).contains (.ref C)=true:=by simp
 have n:=a.keeps k;have D:=(u (.ref (B.objs.size+1))).keeps k;unfold isInstance
 repeat (first|with_reducible refine aaP hget ?_ | (with_reducible refine aaQ i ?_;rw[s])|wp_step)
 show p9 _ _ (à (.ref C) _) _ _ _
 refine wpAny_typeLookup_tail i l n F.mroIs F.init.lookup ?_;rw[p];refine ZF (nc (D.at ?_));refine nc (ZX (ZA w λr q z=>?_))
 rcases r with e | (f|_|_|_)<;>first|exact z|exact z.elim|skip
 obtain⟨rfl,z⟩:=z;exact T' (T' z)
theorem zU(F:Ų A3 P5 T8 N7)(a:ć B N7 G5)(f:B.get? C=some (è d T C h Δ G5 E g y9 A2 J7 o5 u5 B7 C7 D7 E7 P5))(i:B.Ns h θ)(e:θ "__init__"=some (.ref ψ))(j:∀self,ĳ (j' v x) B (bindSpecial (.ref ψ) self) (.ref ψ,[self]))(c:z9.length<=XX)(k:YB (j' v x) (L.under (.builtin "type.__call__" ⟨.ref C::z9,[]⟩)) (.call (.ref ψ) ⟨.ref (B.objs.size+1)::z9,[]⟩) (ś (B.objs.size+1) E4) ⟨iu B C z9,C6,A6,b,N6⟩):
  YB (j' v x) L (.call (.ref C) ⟨z9,[]⟩) E4 ⟨B,C6,A6,b,N6⟩:=by
 have l:=tc_lookup;have m:=tc_bind (.ref C);refine Ŵ ?_
 repeat (any_goals (first|assumption|rfl|wp_step))
 refine⟨rfl,?_⟩;refine codeAny_call_builtin_at (ų _ (by decide +kernel)) entry_typeCall (wpAny_check_type_call_sub f (oM F a f i e j c ?_))
 exact k
open PySem.W (clsIn findIn takerIn InstAt)
open PySem.Builtin PySem.Builtin.ObjectAttr PySem.Builtin.Getset_descriptor
abbrev qG:List f':=[.type "ValueError",.type "Exception",.type "BaseException",.type "object"]
noncomputable def fU:List f'->Bool
 |.ref _::r=>fU r
 |l=>l==qG
theorem pw(self):∀{l},fU l=true->refuseLoop self "__setattr__" l=pure ()
 |[],e=>by rfl
 |a::r,e=>by
  cases a with
  |ref c=>rw[refuseLoop_ref];exact pw _ e
  |_=>rw[eq_of_beq (e)];exact PySem.F.store_ValueError.passes _
theorem zV:∀{l},fU l=true->l.contains (.type "object")=true
 |[],e=>by simp[fU]at e
 |a::r,e=>by
  cases a with
  |ref c=>rw[List.contains_cons,zV (l:=r) e,Bool.or_true]
  |_=>rw[eq_of_beq (e)];decide
variable{G6:YD}{L8:ClassData}{w8:Option Obj}
theorem vL(X:G.In m.heap)(I:InstAt m.heap h Ξ C w8)(n:clsIn G C=some L8)(j:fU L8.mro=true)(p:takerIn G C d=some none)(g:∀b,p9 (j' v x) L.in1 (storeInOwnDict (.ref h) (.ref C) (.str d G6) d N b) (λl k=>match l with|.done f=>E4 (.ok f) k|.again o=>o.quiet=true/\YB (j' v x) L o E4 k) (λe k=>E4 (.error e) k) m):
  YB (j' v x) L (.call (.builtin "object.__setattr__") ⟨[.ref h,.str d G6,N],[]⟩) E4 m:=by
 have i:=PySem.F.store_object
 have ne:L8.mro.isEmpty=false:=by cases q:L8.mro with
  |nil=>rw[q]at j;simp[fU]at j
  |cons _ _=>rfl
 refine Ĵ i.slot.plain i.entry (@PySem.W.check_slot _ _ _ m _ _ _ _ _ [] _ i.kind i.split (I.type.andThen (aaR X (by unfold û;rw[n,Option.bind_some,if_neg (by simp_all),zV j]))) (i.args _ _ _) ?_)
 refine bc (é.mp p) λc r s=>?_
 have t:ĳ (j' v x) _ (mroOf (.ref C)) _:=(Ĝ X n).andThen .now
 have u:ĳ (j' v x) m.heap (storeTaker? c) none:=by
  cases c with
  |none=>exact .now
  |some a=>
   obtain⟨b,w,e⟩:=YE.mp s;refine(PySem.W.looks_takesIn X w).andThen ?_;cases b with
   |true=>cases e
   |false=>exact .now
 rw[PySem.W.osa_eq,refuse_eq];refine nc (nc (I.type.here (nc (t.here ?_))));rw[pw _ j];refine T' (nc (I.type.here (nc ((Ğ X r).here (nc (u.here (g _)))))))
variable{Q1:Unit->g'->Prop}{Y5:Array (Option f')}
theorem DF{s}(X:G.In s.heap)(k:s.heap.get? h=some ⟨.ref C,none,.fields B3,Y5⟩)(p:clsIn G C=some L8)(q:fU L8.mro=true)(r:L8.hasDict=true)(t:findIn G (.ref C) "__setattr__"=some (some (.builtin "object.__setattr__")))(u:takerIn G C d=some none)(c:∀f t',f.get? h=some ⟨.ref C,some s.heap.objs.size,.fields B3,Y5⟩->f.Ns1 s.heap.objs.size (λy=>if y=d then some N else none)->(∀b o,b≠h->s.heap.get? b=some o->f.get? b=some o)->Q1 () {s with heap:=f,toks:=t' }):
  p9 (j' v x) L (Ý (.ref h) d N) Q1 S s:=by
 have I:InstAt _ h ⟨_,_,_,Y5⟩ C none:=⟨k,rfl,rfl,trivial⟩;refine Œ X I t (vL X I p q u λb=>?_)
 have a:(s.heap.push {cls:=.type "dict",data:=.dict #[]}).get? h=some ⟨_,_,_,Y5⟩:=X' _ k;have g:=N' (O' k);refine nc (T' (nc (nc (œ k (nc (Ŕ (Ĝ X p) ?_))))));rw[r];refine nc (wpAny_alloc' (nc (wpAny_update' a (T' ?_))));refine nc (T' (nc (ŕ (aaf ⟨_,_,_,((aaS _ _ _ _ g.symm).trans (aaT rfl rfl)),rfl,λe w=>absurd w (by simp),λ_=>rfl⟩) λf i j=>?_)))
 refine cg (i.count (Ŗ _ N Within.nil)) λD z A l m B=>?_
 refine nc (ŗ l (by rw[m];exact Ř (by grind)) ?_)
 refine T' (c f _ ((j.2 h g).trans (Z9 _ a rfl)) i λb o n e=>(j.2 b (N' (O' e))).trans ((λb o n e=>
  (aaS _ _ _ _ n).trans (X' _ e)) b o n e))
variable{A0 B4:b'}{u6:Option b'}
theorem oN{h}(F:Ų A3 P5 T8 N7)(c:ć h N7 G5)(k:h.get? C=some (è d T C ψ Δ G5 E g y9 A2 J7 o5 u5 B7 C7 D7 E7 P5))(f:h.get? A0=some ⟨.ref C,u6,.fields #[.ref B4,.none,.none,.none,.bool false,.none],Y5⟩)(i:z9.length<=XX)(l:∀e,e.get? A0=some ⟨.ref C,u6,.fields #[.ref h.objs.size,.none,.none,.none,.bool false,.none],Y5⟩->e.get? h.objs.size=some {cls:=.type "tuple",data:=.seq z9.toArray}->(∀a o,a≠A0->h.get? a=some o->e.get? a=some o)->E4 (.ok (.ret .none)) ⟨e,C6,A6,b,N6⟩):
  YB (j' v x) L (.call (.builtin T8) ⟨.ref A0::z9,[]⟩) E4 ⟨h,C6,A6,b,N6⟩:=by
 refine Ĵ F.init.plain F.initEntry (wpAny_check_init_subT F c k f rfl ?_);have j:=X' (h:=h) {cls:=.type "tuple",data:=.seq z9.toArray} f
 wp_walk
 refine l _ ?_ ?_ λa o m n=>?_
 .exact Z9 _ j rfl
 .rw[Zr _ _ (Ya (Ym (O' f)))]
  exact aaT rfl rfl
 .rw[Zr _ _ (Ya m)]
  exact X' _ n
open PySem.W (clsIn findIn takerIn InstAt Looks mroIn)
structure DG(K:K')(C:b'):Prop where
 ga:findIn K (.ref C) "__getattribute__"=some (some (.builtin "BaseException.__getattribute__"))
 gn:findIn K (.ref C) "__getattr__"=some none
 be:mroIn K C (.type "BaseException")=some true
theorem zW(X:G.In B)(I:InstAt B h Ξ C w8)(a:DG G C)(d:Q1 () ⟨B,C6,A6,b,N6⟩):p9 (j' v x) L (aaU "BaseException.__getattribute__" ⟨[.ref h,N],[]⟩) Q1 S ⟨B,C6,A6,b,N6⟩:=by
 have c:Looks (j' v x) B (isInstance _ _) _:=(I.type).andThen (aaR X a.be);refine nc (c.at ?_)
 repeat (any_goals (first|assumption|wp_step))
variable{M2:f'}{N1:f'->g'->Prop}{s:Nat}
theorem Ll(X:G.In B)(I:InstAt B h Ξ C w8)(a:DG G C)(c:∀L N1 S,N1 (.done (.ret M2)) ⟨B,C6,A6,s,N6⟩->p9 (j' v x) L (ZM.«object.__getattribute__» ⟨[.ref h,N],[]⟩) N1 S ⟨B,C6,A6,b,N6⟩)(d:handedOut M2=pure M2)(e:N1 M2 ⟨B,C6,A6,s,N6⟩):p9 (j' v x) L (getAttrBy (.ref h) N E A2) N1 S ⟨B,C6,A6,b,N6⟩:=by
 have f:=I.type (M:=j' v x);have L1:=Ğ (M:=j' v x) X a.ga;have L2:=Ğ (M:=j' v x) X a.gn;have i:=aaV.ga.bind (.ref h);have g:(A2&&onTheHeap (aaA "BaseException.__getattribute__"))=false:=by cases A2<;>rfl
 refine ZF (nc (f.at (nc (L1.at ?_))));refine nc (L2.at ?_)
 repeat (any_goals (first|wp_step))
 refine(Ĵ aaV.ga.plain F.entry_bexc_ga (zW X I a ((c _) _ _ ?_)))
 show p9 _ _ (handedOut M2) _ _ _
 rw[d];exact T' e
theorem DH(X:G.In B)(I:InstAt B h Ξ C w8)(a:DG G C)(c:PySem.W.findObj G C w8 d=some (.value N))(e:aab N=true)(f:N1 N ⟨B,C6,A6,b+1,N6⟩):
  p9 (j' v x) L (Ġ (.ref h) d E) N1 S ⟨B,C6,A6,b,N6⟩:=by
 refine nc (wpAny_mkText (Ll X I a (λi j k q=>?_) (PySem.W.handedOut_of e) f))
 have g:=I.type (M:=j' v x);have L1:=PySem.W.looks_find (M:=j' v x) X I c;refine nc (T' (nc (T' (nc (g.at (nc (L1.at (T' q))))))))
structure m_(K:K')(C N fI:b'):Prop where
 ex:∃(nm q:Str) (bs bm:List f') (sn:List Str) (sub:List f') (ab:Bool) (col:Option Bool) (dd:Option b') (k0 k1 k2 k3 k5:Option f'),
  K.lookup C=some (è nm q C N bs bm true sn sub ab col dd k0 k1 k2 k3 k5 "ValueError.__new__")/\(∀h:F',K.In h->ć h qG bm)
 cd:∃cd,clsIn K C=some cd/\fU cd.mro=true/\cd.hasDict=true
 sa:findIn K (.ref C) "__setattr__"=some (some (.builtin "object.__setattr__"))
 xg:DG K C
 hd:ö K C=true
 ns:∀h:F',K.In h->∃mN,h.Ns N mN/\mN "__init__"=some (.ref fI)
 kp:Yp K (.ref C)=true
 fn:Ś K (.ref fI)=some (.type "function")
noncomputable def cj(C:b')(a:Option b')(t:b'):Obj:=⟨.ref C,a,.fields #[.ref t,.none,.none,.none,.bool false,.none],#[]⟩
theorem Inv.DI(I:Inv c [] P e m)(a:m.heap.get? h=some Ξ)(d:e h=none)(f:h≠c.env.locals)(g:h∉c.fs)(i:∀v,Ξ.data≠.cell v):Inv c [(h,Ξ)] P e m:=
 ⟨I.ok,I.os,I.bare,I.base,I.loc,I.cell,I.free,I.dR,λp b=>by
  rcases Yz.mp b with q|q
  .exact I.pin p (by simp[q])
  simp_all,I.hok,I.len⟩
theorem Inv.vM(I:Inv c z P e m):Inv c [] P e m:=
 ⟨I.ok,I.os,I.bare,I.base,I.loc,I.cell,I.free,I.dR,λp a=>I.pin p (by simp_all),I.hok,I.len⟩
variable{W4:List (Str×V)}
theorem vO{s}(I:Inv c z P e s)(T:m_ c.K C ψ A0)(i:dm c.K C d)(j:s.heap.get? h=some Ξ)(k:Ξ.cls=.ref C)(m:Ξ.dict=some B4)(b:ZN Ξ=true)(o:e B4=some (.xd W4))(x:W4.lookup d=some w)(a:∀u,RelV w u->Inv c z P e {s with toks:=s.toks+1}->S u {s with toks:=s.toks+1}):p9 (j' c.prog c.w) L (Ġ (.ref h) d E) S N1 s:=by
 obtain⟨p,n,r⟩:=I.hok B4 _ o;obtain⟨u,q,f⟩:=jf.some_of (w:=w) (u5:=p d) (by grind)
 obtain⟨t,g,l⟩:=ir n;have J:InstAt _ h Ξ C (some t):=⟨j,k,b,by simp_all⟩
 exact DH I.eY J T.xg (aad T.hd i (by rfl) (by rw[l,q])) (o_ f) (a u f (I.tok _))
structure zX(X:Cx)(e:b'):Prop where
 new:e∈X.ex\/X.s₀.heap.objs.size<=e
 cell:∀x c,X.env.cells.lookup x=some c->c≠e
 pn:∀p∈X.pn,p.1≠e
variable{u9:Obj}
theorem Inv.Wy{s}(I:Inv c [(h,Ξ)] P e s)(F:zX c h)(n:B.get? h=some u9)(o:∀d j,d≠h->s.heap.get? d=some j->B.get? d=some j)(r:∀v,u9.data≠.cell v):Inv c [(h,u9)] P e {s with heap:=B,toks:=b}:=by
 refine fX (I.pin (h,Ξ) (by simp)) λD t k w E=>?_
 have x:=I.vM;have keep:∀d Ξ,d∉[h]->s.heap.get? d=some Ξ->B.get? d=some Ξ:=λd Ξ f q=>o d Ξ (by simp_all) q
 have J:Inv c [] P e {s with heap:=B,toks:=b}:=by
  refine x.step (λd f=>?_) (λd Ξ _ _ f q _=>keep d Ξ f q) (λd Ξ _ _ f q _=>⟨_,keep d Ξ f q⟩) (λd Ξ f q g=>g) (λd Ξ f q=>⟨Ξ,keep d Ξ f q⟩) (λd G q=>q) (λd Ξ l q=>q) (λd H q=>⟨#[],by simp_all⟩) (λm g=>?_) ?_ I.bare
  .rw[W'.mp f]
   exact⟨F.new,k,F.cell,λp K=>F.pn p (by simp_all)⟩
  .refine en g λΞ y A L C=>?_
   exact⟨Ξ,y,A,by grind,C⟩
  .intro a u q
   refine(I.hok a u q).stay (λd l f i=>keep d l (λz=>?_) i) (λd i=>i) (by simp)
   simp_all
 exact J.DI n t k w r
structure XBase(K:K')(mg:Str->Option f')(bn:Str)(B0:b'):Prop where
 mg:mg bn=some (.ref B0)
 ga:ú K (.ref B0) "__getattribute__"=some (some (.builtin "type.__getattribute__"))
 rd:aaW K B0 (.type "type")=true
 ini:aaX K (.ref B0) (.type "type") "__init__"=some (.val (.builtin "ValueError.__init__"))
noncomputable def Cx.mk1(X:Cx)(e):={X with ex:=[e]}
theorem Inv.mk1{X pins}{d:St}{H s e}(I:Inv X pins d H s)(j:X.ex=[])(f:e≠X.env.locals)(g:∀x c,X.env.cells.lookup x=some c->c≠e)(i:∀o,X.base.get? e≠some o)(k:e∉X.fs):Inv (X.mk1 e) pins d H s:=
 ⟨⟨I.ok.mod,I.ok.kind,I.ok.glob,I.ok.blt,I.ok.above,I.ok.inj,I.ok.has,I.ok.cab,I.ok.hd,I.ok.frames,I.ok.Dc,λb a=>by rw[W'.mp a];exact⟨f,g⟩,I.ok.bs,I.ok.uf,λb o q a=>by rw[W'.mp a]at q;exact i o q,λb a=>by rwa[W'.mp a],I.ok.gv,I.ok.x_⟩,
  I.os,I.bare,I.base.mono (λ_ h=>h) (by simp_all),I.loc,I.cell,I.free,I.dR,I.pin,I.hok,I.len⟩
structure vP(l:List Yg)(e:b')(oe:Obj)(T:b')(h h':F'):Prop where
 keep:∀b o,b≠e->b∉frs l->h.get? b=some o->h'.get? b=some o
 slot:∀b o,b≠e->h.get? b=some o->∃sl,h'.get? b=some {o with slots:=sl}
 at_:h'.get? e=some (oe.mapFields (·.setIfInBounds 1 (.ref T)))
 tb:∃oT ts,h'.get? T=some oT/\oT.data=.fields ts/\ts[3]?=some .none
 new:h.objs.size<=T
def qH(h:F')(c:Array f'):=c[1]?=some .none\/∃d a b,c[1]?=some (.ref d)/\h.get? d=some a/\a.data=.fields b/\b[3]?=some .none
variable{A4:Yg}{A5:List Yg}{F5:Model}
theorem vQ{s head e}(w:L.frames=some (A4::A5))(D:s.heap.FunFrames B (A4::A5))(G:A4.frame=some h)(H:s.heap.get? C=some Ξ)(E:Ξ.data=.fields B3)(hsz:1<B3.size)(m:∀F T,vP (A4::A5) C Ξ T s.heap F->Q1 () {s with heap:=F}):
  p9 F5 L (do let a ←frameOf A4;let u ←entryPlaceOf h e;let b ←ab0 head a .none (À h) .none u;setField (.ref C) 1 b) (λ_ I=>p9 F5 L (Í (.ref C) none) Q1 S I) S s:=by
 refine nc (wpAny_frameOf_fun w D G λc d=>?_)
 refine nc (wpAny_entryPlaceOf λu y=>?_)
 refine nc (ŵ ?_ (y.sizeOk5 _ _ _ _ _))
 have g:=(d.2.1 C (λJ=>by
  obtain⟨_,o,N,K⟩:=D.mem J
  simp_all)).trans H
 generalize z:({cls:=.type _,dict:=none,data:=.fields _}:Obj)=p at *;have i:p.data=.fields ([head,.ref h,.none,À h,.none]++(if u.isEmpty then þ 6 ZI else u)).toArray:=by grind
 have j:=X' p g;have r:=Ym (O' g);refine ĵ j E hsz ?_;have k:=Ĉ E (·.setIfInBounds 1 (YI c.objs.size));have n:=Z9 _ j (aaY k);have l:((c.push p).update C (Ŷ (·.setIfInBounds 1 (YI c.objs.size)))).get? _=some p:=(Zr _ _ (Ya r)).trans (Yu _ (by rw[←z];rfl))
 refine nc (Á n k (x:=.ref c.objs.size) (by simp[hsz]) ?_)
 refine ĵ l i (by simp) (m _ c.objs.size ?_)
 have keep:∀b o,b≠C->c.get? b=some o->(((c.push p).update C (Ŷ (·.setIfInBounds 1 (YI c.objs.size)))).update _ (Ŷ (·.setIfInBounds 3 ((none).elim ZI λf=>À f)))).get? b=some o:=λb o A t=>by
  rw[Zr _ _ (Ym (O' t)),Zr _ _ (Ya A)];exact X' _ t
 refine⟨λb o t M q=>keep b o t ((d.2.1 b M).trans q),λb o t q=>?_,?_,?_,by rw[d.1];exact XZ _⟩
 .obtain⟨O,P⟩:=d.2.2 b o q
  simp_all
 .rwa[Zr _ _ r]
 .exact⟨_,_,Z9 _ l (aaY (Ĉ i _)),Ĉ i _,by simp⟩
theorem zY{s}(b:L.frames=some (A4::A5))(j:s.heap.FunFrames B (A4::A5))(f:A4.frame=some h)(d:s.heap.get? C=some Ξ)(e:Ξ.data=.fields B3)(c:qH s.heap B3)(a:∀k T,vP (A4::A5) C Ξ T s.heap k->Q1 () {s with heap:=k}):
  p9 F5 L (ĉ (.ref C) A4) (λ_ m=>p9 F5 L (Í (.ref C) none) Q1 S m) S s:=by
 unfold ĉ;simp only[f];rcases c with c|⟨n,o,p,c,g,i,l⟩
 .refine nc (Á d e c (vQ b j f d e (by grind) a))
 .refine nc (Á d e c ?_)
  refine nc (Á g i l ?_);refine nc (ĵ g i (by grind) ?_)
  rw[aaZ _ n _ _ 3 _ g i l];exact vQ b j f d e (by grind) a
theorem pA{s}(b:L.frames=some (A4::A5))(d:s.heap.FunFrames B (A4::A5))(e:A4.frame=some h)(f:s.heap.get? C=some Ξ)(g:Ξ.data=.fields B3)(i:qH s.heap B3)(a:∀c T,vP (A4::A5) C Ξ T s.heap c->Q1 () {s with heap:=c}):p9 F5 L (Ĥ A4 (.ref C)) Q1 S s:=nc (zY b d e f g i a)
variable{B8:Ù->g'->Prop}{n:V'}
theorem yr(f:G5.contains (.type "BaseException")=true)(r:L.handled=none)(c:p9 F5 L (eval j A4) (λv a=>∃e i t,v=.ref e/\a.heap.get? C=some (è d T C h Δ G5 E g N7 A2 J7 o5 u5 B7 C7 D7 E7 A3)/\a.heap.get? e=some (cj C i t)/\S (.ref e) a) S m):
  p9 F5 L (exec (.Raise (some j) none n) A4) B8 S m:=by
 first
  |exact nc (Ķ (by
    have k:(YI C::G5).contains (.type "BaseException")=true:=by simp_all
    unfold raiseStmt;refine nc (Yx (nc (Yx c (λv a b=>nc (Ķ (T' b))) λ_ _ j=>j)) (λv a b=>?_) λ_ _ j=>j)
    refine dG b λe i t l s q u=>?_;subst l
    obtain⟨w,o,p,x,y⟩:=a;have q:w.get? e=some ⟨.ref C,i,_,#[]⟩:=q
    repeat (first | (with_reducible refine aaQ s ?_;rw[k])|wp_step)
    exact wpAny_raiseNew_none r u))
structure kL(P:Yc)(w:X_)(outer:List Yg)(H:Hp)(s:g')(e C d:b')(H':Hp)(s':g'):Prop where
 os:s'.os=s.os
 bare:Zn s'.gens
 un:Un (frs outer) [] H H' s.heap s'.heap
 hok:jG P w H' s'.heap
 new:s.heap.objs.size<=e
 free:H' e=none
 obj:∃oe vs,s'.heap.get? e=some oe/\oe.cls=.ref C/\oe.dict=some d/\oe.data=.fields vs/\qH s'.heap vs
noncomputable def jj(P:Yc)(w:X_):De:=λouter H s E x b=>∃e C d a,x=.ref e/\kL P w outer H s e C d a b/\E (.ref C) (some d) a
theorem zZ{pins}(I:Inv c pins P e m)(t:c.ex=[])(i:c.stack=c.env::c.outer)(j:c.env.frame=some c.env.locals)(E:m.heap.get? h=some (cj C (some ψ) A0))(x:c.s₀.heap.objs.size<=h)(G:e h=none)(d:∀y,kL c.prog c.w c.outer c.H₀ c.s₀ h C ψ e y->Q1 () y):p9 (j' c.prog c.w) c.A (Ĥ c.env (.ref h)) Q1 S m:=by
 have k:=I.ok.frames;rw[i]at k;have B:=I.stack;rw[i]at B;refine pA k B j E rfl (.inl rfl) λO T F=>d _ ?_
 have p:∀b u,e b=some u->b∉frs _:=λb u q z=>by
  have:=I.jI b (by omega)
  simp_all
 have f:∀b o,c.s₀.heap.get? b=some o->b≠h/\b≠c.env.locals:=λb o q=>⟨λz=>by rw[z]at q;exact absurd (U' (O' q) x) (by simp),λz=>by rw[z]at q;exact absurd (U' (O' q) I.ok.above) (by simp)⟩
 refine⟨I.os,I.bare,⟨λb o q n g _=>?_,λb o q n g _=>?_,λb o q n _=>I.base.free b o q n (by simp_all),λb o q _=>?_,I.base.tups,I.base.gu,I.base.iN⟩,λa u q=>?_,x,G,?_⟩
 .exact F.keep b o (f b o q).1 ((λb o q g z=>by
  unfold frs at z;rw[ē,j]at z;rcases Yo.mp z with z|z
  .grind
  .exact g z) b o q g) (I.base.keep b o q n g (by rw[t];simp))
 .obtain⟨Q,r⟩:=I.base.slot b o q n g (by rw[t];simp)
  obtain⟨s,D⟩:=F.slot b _ (f b o q).1 r
  simp_all
 .obtain⟨R,r⟩:=I.base.there b o q (by simp_all)
  obtain⟨s,D⟩:=F.slot b _ (f b o q).1 r;exact⟨_,D⟩
 .refine(I.hok a u q).stay (λb H g l=>F.keep b H (λz=>?_) ?_ l) (λb l=>l) λb U l=>l
  .simp_all
  grind
 .refine aF F.tb λJ K L M N=>?_
  exact⟨_,_,F.at_,rfl,rfl,rfl,.inr ⟨T,J,K,by simp,L,M,N⟩⟩
noncomputable def Cx.kM(X:Cx)(e):={X with A:=X.A.mark (some (.ref e)),calm:=false,xe:=λ_ _=>False}
theorem Inv.kM{X pins}{a:St}{H s e}(I:Inv X pins a H s):Inv (X.kM e) pins a H s:=
 ⟨⟨I.ok.mod,I.ok.kind,I.ok.glob,I.ok.blt,I.ok.above,I.ok.inj,I.ok.has,I.ok.cab,(λz=>nomatch (z)),I.ok.frames,I.ok.Dc,I.ok.Dk,I.ok.bs,I.ok.uf,I.ok.oE,I.ok.oF,I.ok.gv,I.ok.x_⟩,
  I.os,I.bare,I.base,I.loc,I.cell,I.free,I.dR,I.pin,I.hok,I.len⟩
theorem Inv.z_(ok:c.Ok)(I:Inv (c.kM h) z P e m):Inv c [] P e m:=
 ⟨ok,I.os,I.bare,I.base,I.loc,I.cell,I.free,I.dR,λp a=>I.pin p (by rw[YS]at a;simp[show p∈(c.kM h).pn from a]),I.hok,I.len⟩
theorem Inv.flown{s}(I:Inv c [] P e s)(F:vP c.stack h Ξ C s.heap B)(f:zX c h)(i:h≠c.env.locals)(G:e h=none):Inv c [] P e {s with heap:=B}:=by
 refine I.step (ch:=[h]) (λb d=>?_) (λb o l d j q n=>F.keep b o (by grind) (λz=>((λb z=>Yo.mp (I.qh b z)) b z).elim l d) q) (λb o _ _ j q _=>F.slot b o (by grind) q) (λ_ _ _ _ n=>n) (λb o j q=>?_) (λ_ _ q=>q) (λ_ _ _ q=>q) (λb H q=>⟨#[],by simp_all⟩) (λm r=>?_) (λa u q=>?_) I.bare
 .rw[W'.mp d]
  exact⟨f.new,i,f.cell,λp J=>f.pn p (by simp_all)⟩
 .obtain⟨t,k⟩:=F.slot b o (by grind) q
  simp_all
 .refine cg r λo w x y A D=>?_
  obtain⟨t,k⟩:=F.slot _ o (Ya i) y;exact⟨_,w,x,k,A,D⟩
 .refine(I.hok a u q).stay (λb E d g=>F.keep b E (λz=>?_) (λz=>?_) g) (λ_ g=>g) (by simp)
  .simp_all
  .have K:=I.jI b z
   simp_all
theorem ng{b}(e:m.heap.get? h=some Ξ)(f:Ξ.data=.fields B3)(g:B3[1]?=some (.ref C))(d:m.heap.get? C=some u9)(a:u9.data=.fields b)(i:b[3]?=some .none)(c:Q1 () m):
  p9 F5 L (Í (.ref h) none) Q1 S m:=by
 refine nc (Á e f g ?_);refine ĵ d a (by grind) ?_
 have:=aaZ _ C u9 b 3 _ d a i
 simp_all
noncomputable def Cx.rM(X:Cx)(e)(a:Obj):={X with pn:=X.pn++[(e,a)]}
theorem Inv.rM{X}{a:St}{H s e b}(I:Inv X [(e,b)] a H s):Inv (X.rM e b) [] a H s:=
 ⟨⟨I.ok.mod,I.ok.kind,I.ok.glob,I.ok.blt,I.ok.above,I.ok.inj,I.ok.has,I.ok.cab,I.ok.hd,I.ok.frames,I.ok.Dc,I.ok.Dk,I.ok.bs,I.ok.uf,I.ok.oE,I.ok.oF,I.ok.gv,I.ok.x_⟩,
  I.os,I.bare,I.base,I.loc,I.cell,I.free,I.dR,λp c=>I.pin p (by simpa[Cx.rM]using c),I.hok,I.len⟩
theorem Inv.Gg(I:Inv (c.rM h Ξ) [] P e m):Inv c [(h,Ξ)] P e m:=
 ⟨⟨I.ok.mod,I.ok.kind,I.ok.glob,I.ok.blt,I.ok.above,I.ok.inj,I.ok.has,I.ok.cab,I.ok.hd,I.ok.frames,I.ok.Dc,I.ok.Dk,I.ok.bs,I.ok.uf,I.ok.oE,I.ok.oF,I.ok.gv,I.ok.x_⟩,
  I.os,I.bare,I.base,I.loc,I.cell,I.free,I.dR,λp a=>I.pin p (by simpa[Cx.rM]using a),I.hok,I.len⟩
structure Oa(K:K')(C:b'):Prop where
 ha:YA K (.ref C) "__class__"=some (some (.builtin "object.__class__"))
 hn:ú K (.builtin "object.__class__") "__get__"=some (some (.builtin "getset_descriptor.__get__"))
 ht:Ş K (.builtin "object.__class__")=some true
 hm:û K C (.type "object")=some true
structure QW(X:Cx)(e C:b')(oe:Obj)(d:b')(N fI:b'):Prop where
 pn:(e,oe)∈X.pn
 cls:oe.cls=.ref C
 dict:oe.dict=some d
 no:ZN oe=true
 txt:m_ X.K C N fI
 is:Oa X.K C
noncomputable def Wz(i:Nat)(e d:b')(a:Str):TE:=λc H Q=>c[i]?=some (some (.ref e))/\∃b v,H d=some (.xd b)/\b.lookup a=some v/\Q v H
variable{J:V'}
theorem Lm(a:QW c h C Ξ B4 ψ A0)(j:dm c.K C T)(k:c.N[b]?=some d)(l:rQ c.env.scope d)(f:(d==("__debug__"))=false:=by decide)(g:(d==("__classdict__"))=false:=by decide):
  PE c (.Attribute (.Name d n) T J) (Wz b h B4 T):=by
 intro pins s m H Q I e;refine xa e λo i=>aF i λA v p q r=>?_
 refine qr rfl (cp (kH k l f g _ s m H (λw t=>w=.ref h/\t=H) I ⟨_,o,rfl,rfl⟩) λu B ⟨w,H1,J1,x,hw,hH⟩=>?_)
 subst hw hH;cases (x);exact vO J1 a.txt j (J1.pin (h,Ξ) (by simp[a.pn])).1 a.cls a.dict a.no p q λD y z=>⟨v,H1,z,y,r⟩
theorem Aa{s}(X:G.In s.heap)(p:s.heap.get? h=some Ξ)(a:Ξ.cls=.ref C)(e:Ξ.dict=some ψ)(f:ZN Ξ=true)(q:clsIn G C=some L8)(t:fU L8.mro=true)(u:L8.hasDict=true)(w:findIn G (.ref C) "__setattr__"=some (some (.builtin "object.__setattr__")))(z:takerIn G C d=some none)(r:s.heap.Ns1 ψ θ)(A:Within θ g)(B:g.length<1000)(i:∀c t',c.Ns1 ψ (λy=>if y=d then some N else θ y)->Ã ψ s.heap c->Q1 () {s with heap:=c,toks:=t' }):
  p9 (j' v x) L (Ý (.ref h) d N) Q1 S s:=by
 refine bc (ir r) λD j l=>?_
 have I:InstAt _ h Ξ C (some D):=⟨p,a,f,by simp_all⟩
 refine Œ X I w (vL X I q t z λb=>?_)
 obtain⟨oc,E,F,H⟩:=Ξ;subst a e;refine nc (T' (nc (nc (œ p (nc (Ŕ (Ĝ X q) ?_))))));rw[u];refine T' ?_;refine nc (T' (nc (ŕ r λc k J=>?_)))
 refine cg (k.count (Ŗ _ N A)) λO K M m n o=>?_
 refine nc (ŗ m (by rw[n];exact Ř (B' o (by rw[Y',Zx];exact bS B))) (T' (by simp_all)))
variable{y0:HO}
theorem Inv.Ln(I:Inv c z P e m)(i:e h=some y0)(j:∀a u,y0≠.eo a u):h≠c.env.locals/\(∀x b,c.env.cells.lookup x=some b->b≠h)/\∀p∈c.pn++z,p.1≠h:=by
 refine⟨λd=>?_,λx b f d=>?_,λp g d=>?_⟩
 .have:=I.free;simp_all
 .rcases(I.dR x b f).1 with q|⟨k,u,q⟩
  .simp_all
  simp_all
 .obtain⟨_,q,_⟩:=I.pin p g
  simp_all
theorem yt(a:∀f,jf (W4.lookup f) (θ f)):Within θ (W4.map (·.1)):=λy c=>by
 have:=a y;cases q:W4.lookup y with
 |none=>
  rw[q]at this;cases b:θ y with
  |none=>simp_all
  |some _=>rw[b]at this;exact this.elim
 |some v=>
  grind
theorem Ab{s}(I:Inv c [(h,cj C none B4)] P e s)(T:m_ c.K C ψ A0)(O:dm c.K C d)(Q:h∈c.ex\/c.s₀.heap.objs.size<=h)(t:∀x g,c.env.cells.lookup x=some g->g≠h)(u:∀p∈c.pn,p.1≠h)(r:RelV w N)(j:∀k E,e k=none->k≠h->s.heap.objs.size<=k->Inv c [(h,cj C (some k) B4)] P (upd e k (.xd [(d,w)])) E->Q1 () E):p9 (j' c.prog c.w) L (Ý (.ref h) d N) Q1 S s:=by
 refine bx T.cd λcd R U V=>?_
 refine fX (I.pin (h,cj C none B4) (by simp)) λF X y Y p5=>?_
 have A:=I.hok.fresh (XZ _);have l:=Ym (O' F);refine DF I.eY F R U V T.sa O.taker λG Z g1 g2 g3=>j _ _ A l (XZ _) ?_
 have I0:=I.vM;have keep:∀b o,b∉[h]->s.heap.get? b=some o->G.get? b=some o:=λb o i q=>g3 b o (by simpa using i) q
 have J:Inv c [] P (upd e s.heap.objs.size (.xd [(d,w)])) {s with heap:=G,toks:=Z}:=by
  refine I0.step (ch:=[h]) (λb i=>?_) (λb o _ _ i q _=>keep b o i q) (λb o _ _ i q _=>⟨o.slots,keep b o i q⟩) (λb o i q B=>?_) (λb o i q=>⟨o,keep b o i q⟩) (λb xs q=>?_) (λb o H q=>?_) (λb ps q=>?_) (λm B=>?_) ?_ I.bare
  .rw[W'.mp i]
   exact⟨Q,y,t,λp hp=>u p (by simpa using hp)⟩
  .rw[aD (N' (O' q))];exact B
  .rw[aD (λz=>by grind)];exact q
  .rw[aD (λz=>by simp_all)];exact q
  .exact⟨#[],by rw[aD (λz=>by simp_all),q];simp⟩
  .refine en B λo es ep e1 e2=>?_
   exact⟨o,es,ep,keep _ o (by simp[Ya y]) e1,e2⟩
  .intro a o q
   by_cases M:a=s.heap.objs.size
   .subst M
    rw[aS]at q;cases q;refine⟨_,g2,λf=>?_⟩
    by_cases D:f=d
    .rw[D];simp[ù];exact r
    .rw[if_neg D]
     have:(f==d)=false:=by simpa using D
     simp[ù,this];exact trivial
   .rw[aD M]at q
    refine(I.hok a o q).stay (λb H i n=>keep b H (λz=>?_) n) (λb n=>?_) λb xs n=>?_
    .simp_all
    .rw[aD (λz=>by simp_all)];exact n
    .rw[aD (λz=>by grind)];exact n
 exact J.DI g1 (by rw[aD (Ya l)];exact X) y Y (λw=>by simp[cj])
variable{N8:b'}
theorem Ac(I:Inv c [(h,cj C (some N8) B4)] P e m)(T:m_ c.K C ψ A0)(B:dm c.K C d)(u:e N8=some (.xd W4))(j:c.s₀.heap.objs.size<=N8)(l:W4.length<900)(p:W4.lookup d=none)(r:RelV w N)(i:∀x,Inv c [(h,cj C (some N8) B4)] P (upd e N8 (.xd (W4++[(d,w)]))) x->Q1 () x):p9 (j' c.prog c.w) L (Ý (.ref h) d N) Q1 S m:=by
 refine bx T.cd λcd D E F=>?_
 refine fX (I.pin (h,cj C (some N8) B4) (by simp)) λG p2 p3 p4 p5=>?_
 obtain⟨H,J,M⟩:=I.Ln u (λ_ _ z=>nomatch z)
 obtain⟨mA,n,O⟩:=I.hok N8 _ u;refine Aa I.eY G rfl rfl rfl D E F T.sa B.taker n (yt O) (by simp;exact Wr l) λQ t' R U=>i _ ?_
 have keep:∀b o,b≠N8->m.heap.get? b=some o->Q.get? b=some o:=λb o g q=>(U.2 b g).trans q
 have ne:∀{b:b'}{o:HO},e b=some o->(∀f,o≠.xd f)->b≠N8:=λ{b o} q hx z=>by grind
 refine I.step (ch:=[N8]) (λb g=>?_) (λb o _ _ g q _=>keep b o (by simpa using g) q) (λb o _ _ g q _=>⟨o.slots,keep b o (by simpa using g) q⟩) (λb o g q s=>?_) (λb o g q=>⟨o,keep b o (by simpa using g) q⟩) (λb V q=>?_) (λb o y q=>?_) (λb ps q=>?_) (λt s=>?_) ?_ I.bare
 .rw[W'.mp g]
  exact⟨.inr j,H,J,M⟩
 .rw[aD (by simpa using g)];exact s
 .rw[aD (ne q λ_ z=>nomatch z)];exact q
 .rw[aD (ne q λ_ z=>nomatch z)];exact q
 .exact⟨#[],by rw[aD (ne q λ_ z=>nomatch z),q];simp⟩
 .refine en s λo X Y e1 Z=>?_
  exact⟨o,X,Y,by grind,Z⟩
 .intro a o q
  by_cases A:a=N8
  .subst A
   rw[aS]at q;cases q
   exact⟨_,R,by
     intro f;rw[List.lookup_append]
     by_cases hf:f=d
     .subst hf
      rw[p];simp[ù];exact r
     grind⟩
  .rw[aD A]at q
   refine(I.hok a o q).stay (λb y g k=>keep b y (λz=>?_) k) (λb k=>?_) λb V k=>?_
   .simp_all
   .rw[aD (by simp_all)];exact k
   .rw[aD (by simp_all)];exact k
structure iP where
 fld:Str
 ve:x'
 a1:V'
 a2:V'
 a3:V'
noncomputable def iP.st(a:Str)(r:iP):D':=.Assign [.Attribute (.Name a r.a1) r.fld r.a2] r.ve r.a3
def nj(e g:b'):List (Str×TE)->Option b'->List (Str×V)->St->Hp->(Option b'->List (Str×V)->Hp->Prop)->Prop
 |[],i,b,_,H,Q=>Q i b H
 | (f,h)::r,none,_,c,H,Q=>h c H λv d=>∀a,d a=none->a≠e->g<=a->nj e g r (some a) [(f,v)] c (upd d a (.xd [(f,v)])) Q
 | (f,h)::r,some a,b,c,H,Q=>h c H λv d=>d a=some (.xd b)/\nj e g r (some a) (b++[(f,v)]) c (upd d a (.xd (b++[(f,v)]))) Q
def Kd(X:Cx)(H:Hp):Option b'->List (Str×V)->Prop
 |none,a=>a=[]
 |some b,a=>H b=some (.xd a)/\X.s₀.heap.objs.size<=b
theorem qI{X}{j:St}{e C N fI t k}{i:Nat}(T:m_ X.K C N fI)(F:zX X e)(u:X.N[i]?=some k)(x:rQ X.env.scope k)(c:j[i]?=some (some (.ref e)))(d:(k==("__debug__"))=false)(f:(k==("__classdict__"))=false){Q R rest}(K:∀b a g Z,Inv X [(e,cj C b t)] j g Z->Kd X g b a->Q b a g->p9 (j' X.prog X.w) X.A (Zu rest X.env) R X.xe Z):
  ∀(rs:List (iP×TE)) b a H s,(∀r∈rs,PE X r.1.ve r.2/\dm X.K C r.1.fld/\∀env,YR r.1.ve (some (.Attribute (.Name k r.1.a1) r.1.fld r.1.a2)) r.1.a3.line env=pure false) ->
   ((a.map (·.1))++rs.map (·.1.fld)).Nodup->a.length+rs.length<900->Inv X [(e,cj C b t)] j H s->Kd X H b a->nj e X.s₀.heap.objs.size (rs.map λr=>(r.1.fld,r.2)) b a j H Q ->
   p9 (j' X.prog X.w) X.A (Zu (rs.map (λr=>r.1.st k)++rest) X.env) R X.xe s
 |[],b,a,H,s,_,_,_,I,l,q=>K b a H s I l q
 | (r,te)::rs,b,a,H,s,hr,nd,y,I,l,q=>by
  refine oC (hr (r,te) (by simp)) λh1 na D=>?_
  have m:=λr' (hm:r'∈rs)=>hr r' (ð _ hm)
  have o:((a.map (·.1)++[r.fld])++rs.map (·.1.fld)).Nodup:=by simpa using nd
  refine ĕ (aag (?_) (D _));cases b with
  |none=>
   cases (show a=[]from l)
   refine cp (h1 _ s j H _ I q) λu1 s2 h=>?_;refine aF h λv p E G q2=>?_
   refine cp (kH (n:=r.a1) u x d f _ _ _ p (λz g=>z=.ref e/\g=p) E ⟨.ref e,c,rfl,rfl⟩) λu2 s3 h=>?_;refine a6 h λz H3 B J L M=>?_
   subst L M;cases (J);have O:=B.sz;refine Ab B T na F.new F.cell F.pn G λP S a0 b0 U Y=>?_
   exact qI T F u x c d f K rs (some P) [(r.fld,v)] _ S m (by simpa using o) (by simp at y ⊢;omega) Y ⟨aS,B' O U⟩ (by grind)
  |some P=>
   refine cp (h1 _ s j H _ I q) λu1 s2 h=>?_;refine a6 h λv p E G q1 q2=>?_
   refine cp (kH (n:=r.a1) u x d f _ _ _ p (λz g=>z=.ref e/\g=p) E ⟨.ref e,c,rfl,rfl⟩) λu2 s3 h=>?_;refine a6 h λz H3 B J L M=>?_
   subst L M;cases (J);refine Ac B T na q1 l.2 (by simp at y;exact Yw (Zs _ _) y) (by
   grind) G λS Y=>?_
   exact qI T F u x c d f K rs (some P) _ _ S m (by simpa using o) (by simp at y ⊢;omega) Y ⟨aS,l.2⟩ q2
noncomputable def sm(a:Str)(q:Str×V'×V'):x':=.Attribute (.Name a q.2.1) q.1 q.2.2
theorem Ad{X}{f:St}{H e C N y t a}{i:Nat}{l}(T:m_ X.K C N y)(m:X.N[i]?=some a)(n:rQ X.env.scope a)(b:f[i]?=some (some (.ref e)))(c:(a==("__debug__"))=false)(d:(a==("__classdict__"))=false){pos g}(o:H g=some (.xd l)):
  ∀(L:List (Str×V'×V')) s {Q},(∀q∈L,dm X.K C q.1/\∃v,l.lookup q.1=some v)->Inv X [(e,cj C (some g) t)] f H s->(∀p r,p.length=L.length->Inv X [(e,cj C (some g) t)] f H r->Q p r) ->
   p9 (j' X.prog X.w) X.A (spliced (Ye pos (I' (L.map (sm a)) X.env))) Q X.xe s
 |[],s,Q,_,I,h=>ġ (h [] s rfl I)
 |q::L,s,Q,x,I,h=>by
  refine xa (x q (by simp)) λz j=>xe j λv B=>?_
  refine Ģ (qr rfl (cp (kH m n c d _ _ f H (λw D=>w=.ref e/\D=H) I ⟨_,b,rfl,rfl⟩) λu P E=>?_));refine a6 E λw R k F G J=>?_
  subst G;rw[J]at k;cases (F);refine fX (k.pin (e,cj C (some g) t) (by simp)) λM _ _ _ _=>?_
  refine vO k T z M rfl rfl rfl o B λu S O=>Ad T m n b c d o L _ (λq' U=>x q' (by simp_all)) O (by simp_all)
variable{M0 S5:V'}
theorem DJ{pl}{L:List (Str×V'×V')}(I:Inv c [(h,cj C o5 B4)] P e m)(F:zX c h)(a:m_ c.K C ψ A0)(B:XBase c.K c.mg T N8)(st:Kd c e o5 W4)(z:∀q∈L,dm c.K C q.1/\∃v,W4.lookup q.1=some v)(j:L.length<=900)(D:c.N[b]?=some d)(E:rQ c.env.scope d)(k:P[b]?=some (some (.ref h)))(M:Gl c T)(G:eval (.Call (.Attribute (.Name T n) "__init__" M0) (.Name d J::L.map (sm d)) [] S5) c.env=(do
   let H ←eval (.Name T n) c.env
   Zi M0.atName
   let (f,first) ←Zo [H] (Zy H "__init__" pl)
   ZK S5 f first (Ye S5 (I' (.Name d J::L.map (sm d)) c.env)) (Ze S5 (Zf [] c.env))))(g:∀t' i,Inv c [(h,cj C o5 t')] P e i->S .none i)(s:(T==("__debug__"))=false)(l:(d==("__debug__"))=false)(o:(d==("__classdict__"))=false):
  p9 (j' c.prog c.w) c.A (eval (.Call (.Attribute (.Name T n) "__init__" M0) (.Name d J::L.map (sm d)) [] S5) c.env) S c.xe m:=by
 refine ģ (er I M B.mg ?_ s) G;refine PySem.W.method_cls I.eY B.ga (PySem.W.cls_value I.eY B.rd B.ini (by rfl) ?_)
 have p:I' (.Name d J::L.map (sm d)) _=(false,eval _ c.env)::I' _ _:=rfl;refine aan ?_ p ?_
 .refine Ģ (cp (kH D E l o _ _ P e (λw O=>w=.ref h/\O=e) (I.tok (m.toks+1)) ⟨_,k,rfl,rfl⟩) λu s1 Q=>?_);refine a6 Q λw R U V X Y=>?_
  subst X Y;cases (V)
  have t:∀x i,x.length=L.length->Inv c [(h,cj C o5 B4)] P R i->p9 (j' c.prog c.w) c.A (call _ (.ref h::x)) S c.xe i:=λx i y r=>by
   obtain⟨nm,q,bs,bm,sn,sub,ab,Z,a0,k0,k1,k2,k3,k5,hC,ot⟩:=a.ex;refine fX (r.pin (h,cj C o5 B4) (by simp)) λz1 _ _ _ _=>?_
   refine ZX (oN aa_ (ot _ r.eY) (r.eY _ _ hC) z1 (by rw[Zx];exact bS (B' (M' y) j)) λh' g1 g2 g3=>g _ _ (r.Wy F g1 g3 (λv=>by simp[cj])))
  cases o5 with
  |none=>
   cases (st);cases L with
   |nil=>exact ġ (by simp_all)
   |cons q L=>grind
  |some dd=>exact Ad a D E k l o st.1 L _ z U t
 .clear p G z j
  induction L with
  |nil=>rfl
  |cons q L ih=>exact ih
structure lG(K:K')(mg:Str->Option f')(C N0 f c:b')(fd:Yb)(st:D')(qual sf:Str)(ps:List Str)(rs:List iP):Prop where
 fn:∃x,yn K x qual st f fd
 cv:fd.code=.ref c
 sc:jO (sf::ps) (sf::ps) (ai st)
 cls:m_ K C N0 f
 bs:Binds K fd (sf::ps) []
 na:∀r∈rs,dm K C r.fld
 nd:(rs.map (·.fld)).Nodup
 sl:(ai st).names.lookup sf=some .local
 d1:(sf==("__debug__":Str))=false
 d2:(sf==("__classdict__":Str))=false
 ln:rs.length<900
 pl:ps.length<900
 body:∃(bn:Str) (B0:b') (L:List (Str×V'×V')) (p1 p2 p5 apos pos:V') (pl:Yg->YY Bool),XBase K mg bn B0/\(bn==("__debug__":Str))=false/\(ai st).names.lookup bn=some .globalImplicit /\
  aT st=rs.map (iP.st sf)++[.Expr (.Call (.Attribute (.Name bn p1) "__init__" apos) (.Name sf p2::L.map (sm sf)) [] pos) p5]/\L.map (·.1)=rs.map (·.fld) /\
  (∀r∈rs,∀env,YR r.ve (some (.Attribute (.Name sf r.a1) r.fld r.a2)) r.a3.line env=pure false) /\
  (∀env:Yg,eval (.Call (.Attribute (.Name bn p1) "__init__" apos) (.Name sf p2::L.map (sm sf)) [] pos) env=(do
   let ov ←eval (.Name bn p1) env
   Zi apos.atName
   let (f,first) ←Zo [ov] (Zy ov "__init__" (pl env))
   ZK pos f first (Ye pos (I' (.Name sf p2::L.map (sm sf)) env)) (Ze pos (Zf [] env))))
variable{M7:List iP}{X:D'}{ς:Yb}
theorem HE{gP:Option b'->List (Str×V)->Hp->Prop}(D:lG G θ ψ A0 h C ς X d T g M7)(j0:∀E,∃u,u.length=M7.length/\(∀p∈M7.zip u,PE ((cW eL v x G θ B (T::g) d (ai X) h (.ref C) L A5 m e E).jJ.mk1 B4) p.1.ve p.2) /\
   nj B4 m.heap.objs.size ((M7.zip u).map λr=>(r.1.fld,r.2)) none [] (start (T::g) (.ref B4::R)) e λc f H'=>f.map (·.1)=M7.map (·.fld)/\gP c f H')(H:cm (b+1) L)(e0:rV v x G θ B L A5 m e)(hb:Æ m ς ⟨.ref B4::Δ,[]⟩ ((T::g).zip (.ref B4::Δ)))(c0:R.length=g.length)(rv:Vals R Δ)(he:m.heap.get? B4=some (cj ψ none N8))(l0:B.objs.size<=B4)(m0:e B4=none)(d0:B4∉frs A5)(U:∀c f j t' t,gP c f j->(c=none/\f=[]\/∃dd,c=some dd/\j dd=some (.xd f)/\m.heap.objs.size<=dd)->t.os=m.os->Zn t.gens->Un (frs A5) [B4] e j m.heap t.heap->jG v x j t.heap ->
   t.heap.get? B4=some (cj ψ c t')->j B4=none->E4 (.ok (.ret (.ref B4))) t):
  YB (j' v x) L (.call (.ref h) ⟨.ref B4::Δ,[]⟩) (ś B4 E4) m:=by
 obtain⟨i,F⟩:=D.fn;have n0:=D.cv;have S:=D.sc;have k:=D.cls;obtain⟨bn,B0,o0,p1,p2,p5,apos,S0,pl,l,p0,hg,q0,f0,r0,ht⟩:=D.body;refine xe F.ex λoc Y=>xe Y λc s0=>xe s0 λkV t0=>xe t0 λT0 u0=>xe u0 λpm v0=>bj v0 λan w0 ct V0 x0 lk y0=>?_;subst x0
 obtain rfl:w0=.ref C:=n0;have KX:G.In m.heap:=e0.mod.Dj.keeps λs o B4=>(e0.bs s o B4).1
 have z0:m.heap.NoLimit:=e0.mod.nolimit.keeps λs o B4=>(e0.bs s o B4).1
 refine aak H.depth (KX _ _ lk) rfl S.co S.gen rfl (aal KX y0) (hb _ _ _ _ ?_)
 refine aam S.kind (λ⟨n,Z⟩ hy=>by
  rcases S.par n (ý hy).1 with q|q
  .exact .inl q
  .exact .inr ⟨q,š _ _ _ (.inl q)⟩) λW0 C0 s1 i=>?_
 subst C0;refine⟨z0.keeps i.toInCall.keep,codeAny_func ?_⟩;have E:XK:=λ_ _ _=>False
 have I:Inv (cW eL v x G θ B (T::g) d (ai X) h (.ref C) L A5 m e E) [] (start (T::g) (.ref B4::R)) e s1:=pj (Δ:=.ref B4::Δ) S H.hd e0 (by simp[c0]) (.cons rfl rv) i
 have g0:=O' he;have O:B4≠m.heap.objs.size:=N' g0
 have h0:∀(y:Str) (cc:b'),(Yl d (ai X) m.heap.objs.size h (.ref C)).cells.lookup y=some cc->cc≠B4:=λy cc hy z=>by
  have:=I.ok.cab y cc rfl hy;rw[z]at this;exact absurd (U' g0 this) (Yr _)
 have I1:=(I.wish (λ_ _=>False)).mk1 (e:=B4) rfl O h0 (λo q=>absurd (U' (O' q) l0) (Yr _)) d0
 have I2:=I1.DI (i.toInCall.keep _ _ he) m0 O d0 (λZ=>by simp[cj])
 refine bx (j0 E) λu D0 G0 I0=>?_
 have J0:p9 (j' v x) (L.deeper (Yl d (ai X) m.heap.objs.size h (.ref C))) (Zu (aT X) (Yl d (ai X) m.heap.objs.size h (.ref C)))
   (λfl t=>fl=.next/\∃c f j t',gP c f j/\Kd (cW eL v x G θ B (T::g) d (ai X) h (.ref C) L A5 m e E) j c f/\Inv ((cW eL v x G θ B (T::g) d (ai X) h (.ref C) L A5 m e E).jJ.mk1 B4) [(B4,cj ψ c t')] (start (T::g) (.ref B4::R)) j t) (λ_ _=>False) s1:=by
  have K0:((cW eL v x G θ B (T::g) d (ai X) h (.ref C) L A5 m e E).jJ.mk1 B4).s₀=m:=rfl
  have L0:∀j c f,Kd ((cW eL v x G θ B (T::g) d (ai X) h (.ref C) L A5 m e E).jJ.mk1 B4) j c f->Kd (cW eL v x G θ B (T::g) d (ai X) h (.ref C) L A5 m e E) j c f:=λj c f q=>by
   cases c with
   |none=>exact q
   |some dd=>exact q
  generalize M:(cW eL v x G θ B (T::g) d (ai X) h (.ref C) L A5 m e E).jJ.mk1 B4=a at *;have xe:a.env=Yl d (ai X) m.heap.objs.size h (.ref C):=by rw[←M];rfl
  have xN:a.N=T::g:=by rw[←M];rfl
  have xA:a.A=L.deeper (Yl d (ai X) m.heap.objs.size h (.ref C)):=by rw[←M];rfl
  have xK:a.K=G:=by rw[←M];rfl
  have xm:a.mg=θ:=by rw[←M];rfl
  have xp:a.prog=v:=by rw[←M];rfl
  have xw:a.w=x:=by rw[←M];rfl
  have xx:a.xe=λ_ _=>False:=by rw[←M];rfl
  have fr:zX a B4:=⟨.inl (by rw[←M];simp[Cx.mk1]),by rw[xe];exact h0,by rw[←M];intro p hp;cases hp⟩
  rw[←xA,←xe,←xp,←xw,←xx,q0];have na:=D.na;rw[←xK]at k l na;rw[←xm]at l;have hN:a.N[0]?=some T:=by rw[xN];rfl
  have hv:rQ a.env.scope T:=.inl (by rw[xe];exact D.sl)
  have M0:Gl a bn:=by show a.env.scope.names.lookup bn=_;rw[xe];exact hg
  have i0:M7.map (iP.st T)=(M7.zip u).map λr=>r.1.st T:=by
   have e1:=ŷ (l₁:=M7) (l₂:=u) (by omega)
   conv=>lhs;rw[←e1]
   rw[Ys];rfl
  rw[i0];have P:∀r∈M7.zip u,r.1∈M7:=λr H=>(ý H).1
  refine qI (Q:=λc f H'=>f.map (·.1)=M7.map (·.fld)/\gP c f H') k fr hN hv rfl D.d1 D.d2 (λc f H' t J a0 q=>?_) (M7.zip u) none [] e s1 (λr H=>⟨G0 r H,na _ (P r H),r0 _ (P r H)⟩) ?_ ?_ I2 rfl (by rw[K0];exact I0)
  .obtain⟨q1,q2⟩:=q
   refine ĕ (Ϯ (DJ J fr k l a0 (λq' P0=>?_) ?_ hN hv rfl M0 (ht a.env) (λt' s5 J5=>?_) p0 D.d1 D.d2) J.quiet (by rfl))
   .have h1:q'.1∈M7.map (·.fld):=by rw[←f0];exact aa0 P0
    refine bc (YG.mp h1) λr H e1=>?_
    refine⟨by rw[←e1];exact na r H,?_⟩
    rw[←q1]at h1;clear J a0 q1 q2
    induction f with
    |nil=>cases h1
    |cons p r ih=>
     rw[ù];split
     .exact⟨_,rfl⟩
     .rename_i hb
      refine ih ?_
      simp_all
   .have:=congrArg ZY f0
    simp at this;have:=D.ln;omega
   .exact ZS ⟨rfl,c,f,H',t',q2,L0 _ _ _ a0,J5⟩
  .have e2:(M7.zip u).map (·.1.fld)=M7.map (·.fld):=by
    have e1:=ŷ (l₁:=M7) (l₂:=u) (by omega)
    conv=>rhs;rw[←e1]
    rw[Ys];rfl
   simp only[Ÿ,ķ];rw[e2];exact D.nd
  .have:=D.ln
   simp[D0];omega
 refine Yx J0 (λfl t hs=>?_) λ_ _ z=>z.elim
 refine xa hs λR0 Y=>bj Y λc f j t' q2 b0 J=>?_;subst R0
 refine fX (J.pin (B4,cj ψ c t') (by simp)) λg1 g2 _ _ _=>?_
 refine⟨rfl,U c f j t' t q2 ?_ J.os J.bare J.base J.hok g1 g2⟩;cases c with
 |none=>exact .inl ⟨rfl,b0⟩
 |some dd=>exact .inr ⟨dd,rfl,b0.1,b0.2⟩
variable{Θ:Nat}
theorem Inv.gone{s}(ok:c.Ok)(I:Inv (c.kM h) z P e s)(F:c.N.Nodup)(G:c.N[Θ]?=some d)(H:∀(j:Nat) x v,c.N[j]?=some x->P[j]?=some (some v)->rQ c.env.scope x->∃u,RelV v u/\Look c.env s.heap θ x u)(J:B.Ns c.env.locals (λx=>if x=d then u5 else θ x))(K:Ã c.env.locals s.heap B):Inv c [] (P.set Θ none) e {s with heap:=B,toks:=b}:=by
 have k:∀f o,f≠c.env.locals->s.heap.get? f=some o->B.get? f=some o:=λf o l q=>(K.2 f l).trans q
 have t:∀f o,c.s₀.heap.get? f=some o->f≠c.env.locals:=λf o q=>N' (U' (O' q) I.ok.above)
 refine⟨ok,I.os,I.bare,⟨λf o q d l m=>k f o (t f o q) (I.base.keep f o q d l m),λf o q d l m=>?_,I.base.free,λf o q m=>?_,I.base.tups,I.base.gu,I.base.iN⟩,⟨_,J,λj x v w i L=>?_⟩,λx g q=>?_,I.free,I.dR,λp D=>?_,λa u q=>?_,by rw[Ź];exact I.len⟩
 .obtain⟨sl,y⟩:=I.base.slot f o q d l m
  simp_all
 .obtain⟨o',y⟩:=I.base.there f o q m
  simp_all
 .by_cases n:j=Θ
  .rw[ź]at i
   simp_all
  .rw[Ø (Ya n)]at i
   obtain⟨u,M,O⟩:=H j x v w i L;refine⟨u,M,?_⟩;rcases O with ⟨A,C⟩|⟨A,g,C,o,Q,R⟩
   .exact .inl ⟨A,by dsimp only;rwa[if_neg (λS=>by
    subst S;exact n ((ê (Yn.mp w).1 F).mp (w.trans G.symm)))]⟩
   .exact .inr ⟨A,g,C,o,k g o (I.KH x g C) Q,R⟩
 .obtain⟨v,o,y,T⟩:=I.cell x g q
  exact⟨v,o,k g o (I.KH x g q) y,T⟩
 .rw[YS]at D
  refine fX (I.pin p (by simp[show p∈(c.kM h).pn from D])) λU X E Y Z=>?_
  exact⟨k _ _ E U,X,E,Y,Z⟩
 .refine(I.hok a u q).stay (λf u' l r=>k f u' (λi=>?_) r) (λ_ r=>r) λ_ _ r=>r
  have hf:e c.env.locals=none:=I.free
  simp_all
noncomputable def Lo(b:Option Str)(i:Nat)(a:St):St:=if b.isSome then a.set i none else a
variable{π:Hp}
theorem vR{s' Y}(I:Inv c [] P e m)(d:kL c.prog c.w c.stack e m h C ψ π s')(j:c.stack=c.env::c.outer)(G:c.env.frame=some c.env.locals)(H:π ψ=some (.xd W4))(K:∀g f E,Inv c [] P π {s' with heap:=g}->ŏ g h f C E->(∀{M A S B8},B8 () {s' with heap:=g}->p9 M A (Í (.ref h) none) B8 S {s' with heap:=g}) ->
   f.cls=.ref C->f.dict=some ψ->ZN f=true->Inv (c.kM h) [(h,f)] P π {s' with heap:=g}->p9 (j' c.prog c.w) c.A (ĸ (.ref h) c.env Y) B8 S {s' with heap:=g}):
  p9 (j' c.prog c.w) c.A (ĉ (.ref h) c.env) (λ_ t=>p9 (j' c.prog c.w) c.A (Í (.ref h) none) (λ_ u=>p9 (j' c.prog c.w) c.A (ĸ (.ref h) c.env Y) B8 S u) S t) S s':=by
 have L:=I.call' (r:=[]) d.os d.un d.hok d.bare (by simp)
 refine eK d.obj λf vs g1 g2 g3 Z g5=>?_
 have y:=L.ok.frames;rw[j]at y;have hl:=L.stack;rw[j]at hl;have k:∀b o,m.heap.get? b=some o->b≠h:=λb o q z=>by rw[z]at q;exact absurd (U' (O' q) d.new) (Yr _)
 have i:h≠c.env.locals:=λz=>by
  obtain⟨N,⟨o,_,_,O,_⟩,_⟩:=I.loc;exact k _ _ O z.symm
 have Q:h∉c.fs:=λz=>by
  obtain⟨_,o,O,_⟩:=I.ok.gv.mem z;exact absurd (U' (O' O) (B' I.sz d.new)) (Yr _)
 refine zY y hl G g1 Z g5 λg T F=>?_
 have J:=L.flown (by rw[j];exact F) (⟨.inr (B' I.sz d.new),λx l q=>by
  obtain⟨v,o,R,_⟩:=I.cell x l q;exact k _ _ R,λp hp=>by
  obtain⟨R,_⟩:=I.pin p (by simp[hp])
  exact k _ _ R⟩) i d.free
 have n:=F.at_;refine aF F.tb λoT ts t1 t2 t3=>?_
 have B:(f.mapFields (·.setIfInBounds 1 (.ref T))).cls=.ref C:=by rw[aa1];exact g2
 have a:=Ĉ Z (·.setIfInBounds 1 (YI T))
 have U:(f.mapFields (·.setIfInBounds 1 (.ref T))).dict=some ψ:=by
  obtain⟨oc,E,dt,sl⟩:=f;cases dt<;>exact g3
 have V:1<vs.size:=by
  rcases g5 with z|⟨_,_,_,z,_⟩<;>exact(aa2.mp z).1
 generalize (f.mapFields _)=s at *;have D:ZN s=true:=by unfold ZN;rw[a]
 obtain⟨mA,nA,_⟩:=J.hok ψ _ H;obtain⟨E,gd,_⟩:=ir nA;have X:ŏ g h s C (some E):=⟨n,B,D,by simp_all⟩
 exact K g s _ J X (λz=>ng n a (by simp[V]) t1 t2 t3 z) B U D (J.kM.DI n d.free i Q (λv=>by rw[a];simp))
variable{M6:g'}{W1:List D'}{j9:Option Str}
theorem Ae(I:Inv c [] P e m)(Th:kL c.prog c.w c.stack e m h C ψ π M6)(E:c.stack=c.env::c.outer)(G:c.env.frame=some c.env.locals)(H:π ψ=some (.xd W4))(hg:Gl c d)(hm:c.mg d=some (.ref A0))(L:YK c.K (.ref C) (.ref A0)=some true)(Z:c.N.Nodup)(x:∀a,j9=some a->c.N[b]?=some a)(k:∀a,j9=some a->c.env.scope.names.lookup a=some .local)(g:∀l y,l.cls=.ref C->l.dict=some ψ->ZN l=true->Inv (c.kM h) [(h,l)] (if j9.isSome then P.set b (some (.ref h))else P) π y ->
   p9 (j' c.prog c.w) (c.A.mark (some (.ref h))) (Zu (X::W1) c.env) (λf M=>∃j B,Inv (c.kM h) [(h,l)] j B M/\∀s6,Inv c [] (Lo j9 b j) B s6->B8 f s6) (λ_ _=>False) y)(O:(d==("__debug__"))=false:=by decide):
  p9 (j' c.prog c.w) c.A (ĉ (.ref h) c.env) (λ_ o=>p9 (j' c.prog c.w) c.A (Í (.ref h) none) (λ_ p=>p9 (j' c.prog c.w) c.A (ĸ (.ref h) c.env [.ExceptHandler (some (.Name d n)) j9 (X::W1) J]) B8 S p) S o) S M6:=by
 refine vR I Th E G H λh' r od i Q F s t u J'=>?_
 refine Ż (ż ?_) (by intro q;cases q)
 refine er i.kM hg hm ?_ O;refine(Ž (K:=c.K) i.eY Q.type L).here ?_;cases j9 with
 |none=>
  refine ž (F ?_);exact Yx (g r _ s t u J') (by rintro f M ⟨j,B,D,R⟩;exact R _ (D.z_ I.ok)) (λ_ _ z=>z.elim)
 |some a=>
 have x:=x a rfl;have k:=k a rfl;refine codeAny_handlers_suite_as (F ?_);refine mR (c:=c.kM h) J' Z x (.inl k) (w:=.ref h) rfl (λy J4=>?_) (.inr k)
 refine Yx (g r y s t u J4) (λf M zq=>?_) (λ_ _ z=>z.elim);refine cE zq λj B D R=>?_
 obtain⟨T,U,V⟩:=D.loc;exact wpAny_nameGoes_keeps k U (by rw[I.ok.kind];rfl) λh6 v6 n6 Y=>R _ (D.gone I.ok Z x V n6 Y)
noncomputable def Lp(C:b')(W:b'->List (Str×V)->Hp->Prop):XK:=λa e b=>a=.ref C/\∃d c,e=some d/\b d=some (.xd c)/\W d c b
noncomputable def Cx.iV(X:Cx)(ps:List (b'×Obj)):={X with pn:=X.pn++ps}
theorem Inv.iV{X pins}{a:St}{H s}(I:Inv X pins a H s):Inv (X.iV pins) [] a H s:=
 ⟨⟨I.ok.mod,I.ok.kind,I.ok.glob,I.ok.blt,I.ok.above,I.ok.inj,I.ok.has,I.ok.cab,I.ok.hd,I.ok.frames,I.ok.Dc,I.ok.Dk,I.ok.bs,I.ok.uf,I.ok.oE,I.ok.oF,I.ok.gv,I.ok.x_⟩,
  I.os,I.bare,I.base,I.loc,I.cell,I.free,I.dR,λp b=>I.pin p (by simpa[Cx.iV]using b),I.hok,I.len⟩
theorem Inv.vS(I:Inv (c.iV z) [] P e m):Inv c z P e m:=
 ⟨⟨I.ok.mod,I.ok.kind,I.ok.glob,I.ok.blt,I.ok.above,I.ok.inj,I.ok.has,I.ok.cab,I.ok.hd,I.ok.frames,I.ok.Dc,I.ok.Dk,I.ok.bs,I.ok.uf,I.ok.oE,I.ok.oF,I.ok.gv,I.ok.x_⟩,
  I.os,I.bare,I.base,I.loc,I.cell,I.free,I.dR,λp a=>I.pin p (by simpa[Cx.iV]using a),I.hok,I.len⟩
def fh(X)(b:St)(E):=∀pins H s e a,Inv X pins b H s->jj X.prog X.w X.stack H s E e a->X.xe e a
variable{z6:Ends}
theorem vT{g:St->St}{f}(a:SP (((c.iV z).kM h).rM h Ξ) [] {nx:=λi n=>z6.nx (g i) n,rt:=z6.rt} f m):∃b d,Inv ((c.iV z).kM h) [(h,Ξ)] b d m/\∀e,Inv (c.iV z) [] (g b) d e->SP c z z6 f e:=by
 cases f with
 |next=>
  refine cE a λb d j k=>?_
  exact⟨_,d,j.Gg,λe l=>⟨_,_,l.vS,k⟩⟩
 |ret u=>
  refine cg a λv b d j o k=>?_
  exact⟨_,d,j.Gg,λe l=>⟨v,_,_,l.vS,o,k⟩⟩
 |brk=>refine cE a λ_ _ _ a=>?_;exact a.elim
 |cont=>refine cE a λ_ _ _ a=>?_;exact a.elim
theorem vU{f}(a:SP ((c.iV z).wish S) [] z6 f m):SP c z z6 f m:=by
 cases f with
 |ret u=>
  refine cg a λv b d J r q=>?_
  exact⟨v,_,d,J.eZ.vS,r,q⟩
 |_=>refine cE a λb d J q=>?_;exact⟨_,d,J.eZ.vS,q⟩
variable{w6:List D'}
theorem Lq{W}(I:Inv c z P e m)(u:c.stack=c.env::c.outer)(y:c.env.frame=some c.env.locals)(O:Gl c d)(B:c.mg d=some (.ref h))(D:YK c.K (.ref C) (.ref h)=some true)(Q:c.N.Nodup)(R:∀i,j9=some i->c.N[b]?=some i)(S:∀i,j9=some i->c.env.scope.names.lookup i=some .local)(l:∀xe,fh ((c.iV z).wish xe) P (Lp C W)->p9 (j' c.prog c.w) c.A (Zu W1 c.env) (SP ((c.iV z).wish xe) [] z6) xe m)(k:∀a j s o q t,q j=some (.xd s)->W j s q->o.cls=.ref C->o.dict=some j->ZN o=true->Inv (((c.iV z).kM a).rM a o) [] (if j9.isSome then P.set b (some (.ref a))else P) q t ->
   p9 (j' c.prog c.w) (c.A.mark (some (.ref a))) (Zu (X::w6) c.env) (SP (((c.iV z).kM a).rM a o) [] {nx:=λE q=>z6.nx (Lo j9 b E) q,rt:=z6.rt}) (λ_ _=>False) t)(F:(d==("__debug__"))=false):
  p9 (j' c.prog c.w) c.A (exec (.Try W1 [.ExceptHandler (some (.Name d n)) j9 (X::w6) J] [] [] M0) c.env) (SP c z z6) c.xe m:=by
 refine ſ (Yx (l _ ?_) (λf M g=>?_) (λa M g=>g))
 .intro G H1 M x s2 p T
  refine bj T λa C' j U H Y Z=>?_;subst H
  refine xa Z λe1 L=>aF L λd' s e2 r hW=>?_
  cases e1;cases e2;refine Ae (c:=c.iV _) p.eZ.vM Y u y r O B D Q R S (λo t c1 c2 c3 J4=>?_) F
  refine Yx (k a j s o U t r hW c1 c2 c3 J4.rM) (λf s5 g=>?_) (λ_ _ g=>g.elim)
  exact vT g
 .cases f<;>first|exact ZS (vU g)|exact vU g
variable{D4:Sp}{E1:XK}{O:List x'}{y3:TA}
theorem Af(F:bJ c.prog c.w c.K c.mg c.base (jj c.prog c.w) b h ς g D4)(y:cm b c.A)(z:Gl c d)(B:c.mg d=some (.ref h))(C:Yp c.K (.ref h)=true)(D:Binds c.K ς g [])(E:fh c P E1)(G:PA c (j::O) y3)(m:(d==("__debug__"))=false)(L:I' (j::O) c.env=(false,eval j c.env)::I' O c.env)(o:(Ye J (I' O c.env)).any (·.1)=false):
  PE c (.Call (.Name d n) (j::O) [] J) (λk H Q=>k=P/\y3 k H λp l=>D4 p l Q E1):=by
 intro pins s k H Q I a;obtain⟨rfl,a⟩:=a;refine ZC (er I z B ?_ m);refine ß I.ok.mod.Dj C (cp (G _ _ s k H _ I a) λt x  M =>aF M λp l e r q=>⟨e.eY,?_⟩) L o
 have f:=D x t e.eY (by rw[YS];exact(by rw[←r.length];exact F.len _ _ _ _ q))
 rw[YS]at f;refine ZX (ZA (F.run _ _ x l ⟨t,[]⟩ t p Q E1 y e.env0 f r q) λr N i=>?_)
 cases r with
 |error j=>exact E _ l x j N e i
 |ok fl=>
  cases fl with
  |ret u=>exact e.after i
  |next=>exact YT i
  |brk=>exact YT i
  |cont=>exact YT i
theorem DK{gP:Option b'->List (Str×V)->Hp->Prop}(D:lG c.K c.mg C h ψ A0 ς X d T g M7)(I:Inv c z P e m)(hr:cm (b+2) c.A)(rv:Vals R Δ)(l:R.length=g.length)(b0:∀j L,¬ gP none j L)(M:∀A k a E,cm b (A.deeper (Yl d (ai X) k.heap.objs.size ψ (.ref A0)))->e a=none->∃N,N.length=M7.length/\(∀p∈M7.zip N,PE ((cW eL c.prog c.w c.K c.mg c.base (T::g) d (ai X) ψ (.ref A0) A c.stack k e E).jJ.mk1 a) p.1.ve p.2) /\
   nj a k.heap.objs.size ((M7.zip N).map λr=>(r.1.fld,r.2)) none [] (start (T::g) (.ref a::R)) e λod j L=>j.map (·.1)=M7.map (·.fld)/\gP od j L)(s:∀a B j t y k,gP (some B) j y->Inv c z P y k->k.heap.get? a=some (cj C (some B) t)->m.heap.objs.size<=a->y a=none->y B=some (.xd j)->S (.ref a) k):
  p9 (j' c.prog c.w) c.A (call (.ref C) Δ) S c.xe m:=by
 obtain⟨nm,q,bs,bm,sn,sub,ab,c0,d0,k0,k1,k2,k3,k5,hC,ot⟩:=D.cls.ex;obtain⟨mN,hn,O⟩:=D.cls.ns _ I.eY;have G:∀f o,m.heap.get? f=some o->(iu _ C Δ).get? f=some o:=λf o a=>X' _ (X' _ a)
 have I2:=I.kept (t':=m.toks) G;have H:=I.hok.fresh (Zg _);have i:∀f o,m.heap.get? f=some o->f≠m.heap.objs.size+1:=λf o q=>N' (Ĺ (O' q))
 have J:=rv.length.symm.trans l;refine ZX ?_;refine zU aa_ (ot _ I.eY) (I.eY _ _ hC) hn O (λself=>aaa I.eY _ D.cls.fn) (by have:=D.pl;rw[Zx];exact KG (Yw (M' J) this)) ?_
 refine HE D (λE=>M _ _ _ E ((hr.make C Δ []).deeper _) H) (hr.make C Δ []) (I2.env0.make C Δ []) (by have:=D.bs _ (.ref (m.heap.objs.size+1)::Δ) I2.eY (by simp[J]);simp_all) l rv (by
  show(iu _ C Δ).get? _=some ({cls:=.ref C,data:=.fields _})
  heap_get) ?_ H (λu=>by
  obtain⟨_,o,Q,_⟩:=I.stack.mem u;exact i _ _ Q rfl) (λod j y t' k q2 U Q Y x Z g1 g2=>?_)
 .exact B' (B' I.ok.uf I.sz) (Zg _)
 .rcases U with ⟨rfl,rfl⟩|⟨B,rfl,a0,e0⟩
  .simp_all
  .exact s _ B j t' y k q2 (I.call' (r:=[]) Q ⟨λf o a n hb _=>x.keep f o (G f o a) n hb (by simpa using i f o a),λf o a n hb _=>x.slot f o (G f o a) n hb (by simpa using i f o a),λf o a n _=>x.free f o (G f o a) n (by simpa using i f o a),λf o a _=>x.there f o (G f o a) (by simpa using i f o a),x.tups,x.gu,x.iN⟩ Z Y (by simp)) g1 (Zg _) g2 a0
noncomputable def DL(f:TA)(Arg:List V->Hp->Prop)(gP:List V->Hp->Option b'->List (Str×V)->Hp->Prop)(n:Nat)(C:b')(E:XK):TS:=λ_ g H=>f g H λa d=>a.length=n/\Arg a d/\∀e b c,gP a d (some c) e b->b c=some (.xd e)->E (.ref C) (some c) b
variable{C4 Q5:Str}{Z:XY}{y8:List V->Hp->Prop}{ο:List Str}
theorem yu{gP}(D:lG G θ C ψ A0 B4 ς X T C4 ο M7)(hr:cm (b+2) (L.deeper (Yl d Z m.heap.objs.size h N)))(hg:Gl (cW (jj v x) v x G θ B g d Z h N L A5 m e E1) Q5)(hm:θ Q5=some (.ref C))(u:PA (cW (jj v x) v x G θ B g d Z h N L A5 m e E1) (j::O) y3)(z:∀i f w A,¬ gP i f none w A)(F:∀i f,y8 i f->∀y K o a M,cm b (y.deeper (Yl T (ai X) o.heap.objs.size A0 (.ref B4)))->f a=none->∃P,P.length=M7.length/\(∀p∈M7.zip P,PE ((cW eL v x G θ B (C4::ο) T (ai X) A0 (.ref B4) y K o f M).jJ.mk1 a) p.1.ve p.2) /\
   nj a o.heap.objs.size ((M7.zip P).map λr=>(r.1.fld,r.2)) none [] (start (C4::ο) (.ref a::i)) f λod w A=>w.map (·.1)=M7.map (·.fld)/\gP i f od w A)(Q:I' (j::O) (Yl d Z m.heap.objs.size h N)=(false,eval j (Yl d Z m.heap.objs.size h N))::I' O (Yl d Z m.heap.objs.size h N))(R:(Ye J (I' O (Yl d Z m.heap.objs.size h N))).any (·.1)=false)(S:(Q5==("__debug__"))=false):
  PS (cW (jj v x) v x G θ B g d Z h N L A5 m e E1) (.Raise (some (.Call (.Name Q5 n) (j::O) [] J)) none M0) (DL y3 y8 gP ο.length C E1):=by
 intro pins s σ H Dn I k;obtain⟨nm,q,bs,bm,sn,sub,ab,U,Y,k0,k1,k2,k3,k5,hC,K⟩:=D.cls.ex;refine yr (C:=C) (d:=nm) (T:=q) (h:=ψ) (Δ:=bs) (E:=true) (g:=sn) (N7:=sub) (A2:=ab) (J7:=U) (o5:=Y) (u5:=k0) (B7:=k1) (C7:=k2) (D7:=k3) (E7:=k5) (A3:="ValueError.__new__") ((K _ I.eY).hasType (by rfl)) (I.ok.hd rfl) ?_
 refine ZC (er I hg hm ?_ S);refine ß I.ok.mod.Dj D.cls.kp (cp (u _ _ s σ H _ I k) λus s1 zq=>?_) Q R;refine eK zq λi f I1 r1 hl ha hq=>?_;refine⟨I1.eY,?_⟩
 refine DK D I1 hr r1 hl (z i f) (λy o a M a0 he=>F i f ha y _ o a M a0 he) λa dd w t H2 o q2 c g1 g2 g3 g4=>⟨a,_,t,rfl,c.eY _ _ hC,g1,zZ c rfl rfl rfl g1 (B' I1.sz g2) g3 λb0 l=>⟨a,C,dd,_,rfl,l,by grind⟩⟩
variable{Q:x'}{υ:TE}
theorem Ag{pl}(X:PE c j υ)(i:oD c.K C)(M:Meth c.K C d h)(F:bJ c.prog c.w c.K c.mg c.base (jj c.prog c.w) b h ς g D4)(Y:cm b c.A)(Z:Binds c.K ς g [])(hx:fh c P E1)(ha:PA c (Q::O) y3)(z:I' (Q::O) c.env=(false,eval Q c.env)::I' O c.env)(B:(Ye J (I' O c.env)).any (·.1)=false)(ht:eval (.Call (.Attribute j d n) (Q::O) [] J) c.env=(do
   let N ←eval j c.env
   Zi n.atName
   let (h,first) ←Zo [N] (Zy N d pl)
   ZK J h first (Ye J (I' (Q::O) c.env)) (Ze J (Zf [] c.env)))):
  PE c (.Call (.Attribute j d n) (Q::O) [] J) (λk H e=>k=P/\υ k H λx t=>∃a R D,x=.ref a/\t a=some (.ins C R D)/\D.lookup d=none/\y3 k t λE y=>D4 (x::E) y e E1):=by
 intro pins s k H e I f;obtain⟨rfl,f⟩:=f;refine ģ (cp (X _ s k H _ I f) λu s1 zq=>?_) ht;refine aF zq λx t S rx G=>dG G λa R D ex ea l q=>?_
 subst ex;obtain rfl:u=YI a:=rx;refine ji S ea i M l ?_;refine ß I.ok.mod.Dj M.kp (cp (ha _ _ s1 k t _ S q) λus L  zf =>aF zf λE y m r T=>⟨m.eY,?_⟩) z B
 have U:Vals (V.ref a::E) _:=.cons rfl r;have o:=Z L _ m.eY (by rw[YS];exact(by rw[←U.length];exact F.len _ _ _ _ T))
 rw[YS]at o;refine ZX (ZA (F.run _ _ L y ⟨_,[]⟩ _ _ e E1 Y m.env0 o U T) λr s' p=>?_)
 cases r with
 |error Q=>exact hx _ y L Q s' m p
 |ok fl=>
  cases fl with
  |ret u=>exact m.after p
  |next=>exact YT p
  |brk=>exact YT p
  |cont=>exact YT p
theorem Ah{pins}(I:Inv c pins P e m)(D:c.ex=[])(i:c.stack=c.env::c.outer)(j:c.env.frame=some c.env.locals)(K:m.heap.get? h=some Ξ)(Y:Ξ.cls=.ref C)(s:Ξ.dict=some ψ)(k:Ξ.data=.fields B3)(l:qH m.heap B3)(E:c.s₀.heap.objs.size<=h)(L:e h=none)(d:∀G,kL c.prog c.w c.outer c.H₀ c.s₀ h C ψ e G->Q1 () G):p9 (j' c.prog c.w) c.A (Ĥ c.env (.ref h)) Q1 S m:=by
 have p:=I.ok.frames;rw[i]at p;have H:=I.stack;rw[i]at H;refine pA p H j K k l λZ T F=>d _ ?_
 have t:∀b u,e b=some u->b∉frs _:=λb u q z=>by
  have:=I.jI b (by omega)
  grind
 have f:∀b o,c.s₀.heap.get? b=some o->b≠h/\b≠c.env.locals:=λb o q=>⟨λz=>by rw[z]at q;exact absurd (U' (O' q) E) (by simp),λz=>by rw[z]at q;exact absurd (U' (O' q) I.ok.above) (by simp)⟩
 refine⟨I.os,I.bare,⟨λb o q n g _=>?_,λb o q n g _=>?_,λb o q n _=>I.base.free b o q n (by simp_all),λb o q _=>?_,I.base.tups,I.base.gu,I.base.iN⟩,λa u q=>?_,E,L,?_⟩
 .exact F.keep b o (f b o q).1 ((λb o q g z=>by
  unfold frs at z;rw[ē,j]at z;rcases Yo.mp z with z|z
  .grind
  .exact g z) b o q g) (I.base.keep b o q n g (by rw[D];simp))
 .obtain⟨M,x⟩:=I.base.slot b o q n g (by rw[D];simp)
  obtain⟨y,J⟩:=F.slot b _ (f b o q).1 x
  simp_all
 .obtain⟨o',x⟩:=I.base.there b o q (by simp_all)
  obtain⟨y,J⟩:=F.slot b _ (f b o q).1 x;exact⟨_,J⟩
 .refine(I.hok a u q).stay (λb N g r=>F.keep b N (λz=>?_) ?_ r) (λb r=>r) λb xs r=>r
  .simp_all
  grind
 .refine aF F.tb λO Q R U V=>?_
  have B:1<B3.size:=by
   rcases l with z|⟨_,_,_,z,_⟩<;>exact(aa2.mp z).1
  refine⟨_,_,F.at_,by rwa[aa1],?_,Ĉ k _,.inr ⟨T,O,Q,by simp[B],R,U,V⟩⟩
  obtain⟨oc,od,X,M⟩:=Ξ;cases X<;>exact s
theorem sr:
  Passes (jj v x) (cW (jj v x) v x G θ B g d Z h N L A5 m e E1) E1:=by
 rintro pins q H s a r I ⟨a,C,b,f,rfl,c,i⟩;refine eK c.obj λt u j k l n o=>?_
 exact Ah (I.call' c.os c.un c.hok c.bare (by simp)) rfl rfl rfl j k l n o (B' I.sz c.new) c.free λp T=>⟨a,C,b,f,rfl,T,i⟩
variable{o8:D'}
theorem Ai(I:Inv c [] P e m)(Y:kL c.prog c.w c.stack e m h C ψ π M6)(x:c.stack=c.env::c.outer)(y:c.env.frame=some c.env.locals)(B:π ψ=some (.xd W4))(D:Gl c d)(G:c.mg d=some (.ref A0))(H:Gl c T)(L:c.mg T=some (.ref B4))(M:YK c.K (.ref C) (.ref A0)=some E)(i:E=false->YK c.K (.ref C) (.ref B4)=some true)(b:∀j R,j.cls=.ref C->j.dict=some ψ->ZN j=true->Inv (c.kM h) [(h,j)] P π R ->
   p9 (j' c.prog c.w) (c.A.mark (some (.ref h))) (Zu (if E then X::W1 else o8::w6) c.env) (λf N=>∃g u,Inv (c.kM h) [(h,j)] g u N/\∀U,Inv c [] g u U->B8 f U) (λ_ _=>False) R)(O:(d==("__debug__"))=false)(Q:(T==("__debug__"))=false):
  p9 (j' c.prog c.w) c.A (ĉ (.ref h) c.env) (λ_ k=>p9 (j' c.prog c.w) c.A (Í (.ref h) none) (λ_ l=>p9 (j' c.prog c.w) c.A (ĸ (.ref h) c.env [.ExceptHandler (some (.Name d n)) none (X::W1) M0,.ExceptHandler (some (.Name T J)) none (o8::w6) S5]) B8 S l) S k) S M6:=by
 refine vR I Y x y B λZ o od a p F r s t V=>?_
 refine Ż (ż ?_) (by intro q;cases q)
 refine er a.kM D G ?_ O;refine(Ž a.eY p.type M).here ?_;cases E with
 |true=>
  refine ž (F (Yx (b o _ r s t V) (λf N ⟨g,u,J5,q5⟩=>q5 _ (J5.z_ I.ok)) (λ_ _ z=>z.elim)))
 |false=>
  refine Ż (ż ?_) (by intro q;cases q)
  refine er a.kM H L ?_ Q;refine(Ž a.eY p.type (i rfl)).here ?_;refine ž (F (Yx (b o _ r s t V) (λf N ⟨g,u,J5,q5⟩=>q5 _ (J5.z_ I.ok)) (λ_ _ z=>z.elim)))
noncomputable def Lr(c e:b')(W:Bool->Hp->Prop):XK:=λa f b=>∃t:Bool,a=.ref (if t then c else e)/\∃d g,f=some d/\b d=some (.xd g)/\W t b
variable{A7:V'}{d8:Bool->Hp->Prop}
theorem Ls{O}(I:Inv c z P e m)(q:c.stack=c.env::c.outer)(r:c.env.frame=some c.env.locals)(s:Gl c d)(u:c.mg d=some (.ref h))(y:Gl c T)(B:c.mg T=some (.ref C))(U:YK c.K (.ref h) (.ref h)=some true)(Q:YK c.K (.ref C) (.ref h)=some false)(l:YK c.K (.ref C) (.ref C)=some true)(j:∀xe,fh ((c.iV z).wish xe) P (Lr h C d8)->p9 (j' c.prog c.w) c.A (Zu W1 c.env) (SP ((c.iV z).wish xe) [] z6) xe m)(i:∀t a o R p,d8 t R->Inv (((c.iV z).kM a).rM a o) [] P R p ->
   p9 (j' c.prog c.w) (c.A.mark (some (.ref a))) (Zu (if t then X::w6 else o8::O) c.env) (SP (((c.iV z).kM a).rM a o) [] {nx:=z6.nx,rt:=z6.rt}) (λ_ _=>False) p)(D:(d==("__debug__"))=false)(F:(T==("__debug__"))=false):
  p9 (j' c.prog c.w) c.A (exec (.Try W1 [.ExceptHandler (some (.Name d n)) none (X::w6) M0,.ExceptHandler (some (.Name T J)) none (o8::O) S5] [] [] A7) c.env) (SP c z z6) c.xe m:=by
 refine ſ (Yx (j _ ?_) (λf S b=>?_) (λa S b=>b))
 .intro G H1 S x s2 k V
  refine bj V λa C' H Y L Z hE=>?_;subst L
  refine bc hE λt e1 M=>aF M λd' fs e2 N hW=>?_
  cases e1;cases e2;refine Ai (c:=c.iV _) (E:=t) k.eZ.vM Z q r N s u y B (by cases t<;>assumption) (λht=>by subst ht;exact l) (λo p c1 c2 c3 J4=>?_) D F
  refine Yx (i t a o Y p hW J4.rM) (λf s5 b=>?_) (λ_ _ b=>b.elim)
  exact vT (g:=λP=>P) b
 .cases f<;>first|exact ZS (vU b)|exact vU b
end L2
namespace Mir
open PySem PySem.Spec PyProof.Rows L2
theorem vV:à (.type "dict_values") "__contains__"=pure none:=by rfl
theorem vW:æ ç "proto.contains_iter"=some ZM.«proto.contains_iter» := aaC (by kernel_rfl)
theorem kN:ŭ "proto.contains_iter"=true:=by decide +kernel
def Ke(h:F')(v:f'):=v=.none\/∃l items,v=.ref l/\h.IsList l items
variable{B:F'}{C h:b'}{E4:ø->g'->Prop}{M8:Bool->g'->Prop}{N:f'}{b:Nat}{m:g'}
section
variable{prog:Yc}{w:X_}{K:Type}[DecidableEq K]{knd:KeyKind prog w K}{A:Yi}{E:f'->g'->Prop}
theorem HF(h:Ke m.heap N)(a:A.units<Yk):Â A m N .none (N==.none):=by
 rcases h with rfl|⟨l,items,rfl,b⟩
 .exact aa3 _
 .exact ab1 b a
theorem yv{kvs}(I:A.handled=none)(M:A.in1.units<Yk)(p:C≠h)(J:B.DictAt knd C kvs b)(N:∀t∈kvs,Ke B t.2)(D:∀l items,B.IsList l items->l≠h):
  ∀m i s,kvs.length - i<=m->(∀a o,a≠h->B.get? a=some o->s.heap.get? a=some o)->s.heap.IsValIter h C i kvs.length b ->
   (∀g,(∀a o,a≠h->s.heap.get? a=some o->g.get? a=some o)->E4 (.ok (.ret (.bool ((kvs.drop i).any λt=>t.2==.none)))) {s with heap:=g}) ->
   YB (j' prog w) A (.builtin "proto.contains_iter" ⟨[.ref h,.none],[]⟩) E4 s:=by
 intro m
 induction m with
 |zero=>
  intro i s O y d hR;have j:kvs[i]?=none:=ϊ (by omega)
  have f:s.heap.DictAt knd C kvs b:=J.at' λo e=>y C o p e
  refine ZE vW ?_;rw[ϋ kN _]
  show p9 _ A.in1 (Å (.ref h) >>= _) _ _ s
  refine nc (aa4 I d f j λg E=>?_)
  refine nc (Zj (T' ?_));have:=hR g λa o c e=>E a o c e
  rw[aa5 (by omega)]at this
  exact this
 |succ m P=>
  intro i s O y d hR;have f:s.heap.DictAt knd C kvs b:=J.at' λo e=>y C o p e
  refine ZE vW ?_;rw[ϋ kN _]
  show p9 _ A.in1 (Å (.ref h) >>= _) _ _ s
  cases j:kvs[i]? with
  |none=>
   refine nc (aa4 I d f j λg E=>?_)
   refine nc (Zj (T' ?_));have:=hR g λa o c e=>E a o c e
   rw[aa5 (by simpa using j)]at this
   exact this
  |some t=>
   obtain⟨k,v⟩:=t;have F:=(Yn.mp j).1
   have G:kvs.drop i=(k,v)::kvs.drop (i+1):=by
    rw[Î F]
    simp_all
   refine nc (wpAny_pyNext_values_item d f j λz u n=>?_)
   have x:=λa o c e=>(n.2 a c).trans (y a o c e)
   have Q:Ke z v:=by
    rcases N _ (Yf j)with q|⟨l,items,q,L⟩
    .exact .inl q
    .refine .inr ⟨l,items,q,?_⟩
     obtain⟨o,R,r⟩:=id L;exact⟨o,x l o (D l items L) R,r⟩
   refine nc (HF (m:={s with heap:=z}) Q M _ _ _ _ ?_);rw[G]at hR;cases c:(v==ZI)with
   |true=>
    show p9 _ _ (rule _ >>= _) _ _ _
    refine nc (Zj (T' ?_));have:=hR z λa o c e=>(n.2 a c).trans e
    simp_all
   |false=>
    refine T' ⟨ZG kN _,?_⟩;refine P (i+1) {s with heap:=z} (by omega) x u λg H=>?_
    have:=hR g λa o c e=>H a o c ((n.2 a c).trans e)
    simp only[Ï,c,Bool.false_or]at this;exact this
theorem oO{s kvs}(k:A.handled=none)(m:A.in1.units<Yk)(f:s.heap.IsValuesView h C)(g:s.heap.DictAt knd C kvs b)(n:∀i∈kvs,Ke s.heap i.2)(p:∀d,(∀a o,s.heap.get? a=some o->d.get? a=some o)->M8 (kvs.any λi=>i.2==.none) {s with heap:=d}):p9 (j' prog w) A (contains (.ref h) .none) M8 E s:=by
 unfold contains
 try with_reducible refine ZF ?_
 refine nc (Ă f.typeIs vV ?_);refine nc (wpAny_callSpecialUnlessNone?_none f.typeIs vV ?_);refine nc (Zj ?_);refine nc (aaD (wpAny_pyIter_values f g ?_));have c:∀a o,s.heap.get? a=some o->a≠s.heap.objs.size:=λa o e=>N' (O' e)
 refine nc (wpAny_runValue (yv k m ?_ g n ?_ _ 0 _ (YZ _ _) (λa o _ e=>X' _ e) ⟨_,Yu _ rfl,rfl,rfl⟩ λd q=>?_))
 .refine cE (id g) λo t j _=>c C o j
 .intro l items r
  obtain⟨o,j,_⟩:=r
  simp_all
 .exact T' (p d λa o e=>q a o (c a o e) (X' _ e))
end
noncomputable def Aj:V->Bool
 |.non=>true
 |_=>false
def WA:R2:=λx y H Q=>x=.non/\∃a c,y=.ref a/\Rd H a (.dK c)/\(∀d∈c,d.2=.non\/∃b e,d.2=.ref b/\Rd H b (.lst e))/\Q (.bl (c.any λd=>Aj d.2)) H
variable{B5:List (Key×V)}{e:Hp}{v:Yc}{x:X_}
theorem HG(ok:jG v x e B){f}(r:KV B5 f)(j:∀c∈B5,c.2=.non\/∃b xs,c.2=.ref b/\Rd e b (.lst xs)):
  (f.any λc=>c.2==.none)=(B5.any λc=>Aj c.2)/\∀c∈f,Ke B c.2:=by
 induction r with
 |nil=>simp
 |@cons p q B5 f k _ l=>
  obtain⟨s,t⟩:=l λc d=>j c (by simp[d])
  have one:(q.2==ZI)=Aj p.2/\Ke B q.2:=by
   have h:=k.2;rcases(j p (by simp))with a|⟨b,xs,a,m⟩
   .rw[a]at h ⊢
    rw[h];exact⟨rfl,.inl rfl⟩
   .rw[a]at h ⊢
    rw[h];refine⟨rfl,.inr ?_⟩;refine xa (m.ok ok) λ_ i=>cE i λo n _ g=>⟨b,_,rfl,⟨_,g,rfl,n,rfl⟩⟩
  refine⟨by simp_all,λc d=>?_⟩
  grind
variable{J n:V'}{c:Cx}{j:x'}{u0:L2.St}{w:V}{z:List (b'×Obj)}{ξ:VK}{υ:TE}
theorem DM(D:c.calm=true)(E:c.A.units+1<Yk)(f:Zc j "values" c.env (eval j c.env)=eval j c.env)(g:(n.endLine==J.line)=true)(s:PE c j υ)(I:Inv c z u0 e m)(G:RelV w N)(h:υ u0 e λy t=>WA w y t ξ):
  p9 (j' c.prog c.w) c.A (eval (.Call (.Attribute j "values" n) [] [] J) c.env) (λu p=>p9 (j' c.prog c.w) c.A (YF .In N u) (EP c z u0 ξ) c.xe p) c.xe m:=by
 refine Ũ f g (cp (s _ m u0 e _ I h) λu p H=>?_);refine aF H λy t k K L=>?_
 obtain⟨rfl,a,M,rfl,d,O,q⟩:=L;cases (G);cases (K);obtain⟨P,Q,t3⟩:=ux k (.inl ⟨_,d⟩);refine⟨_,_,ό,aa6,F.type_dict_values,P,Q,ā rfl (Ī ?_)⟩;refine eG (iU k.hok d) λ_ R S i x=>?_
 obtain⟨T,U⟩:=HG k.hok i O;refine call_meetsIn aa6 x.typeIs F.entry_dict_values (F.args_dict_values_1 _) (meets_dict_values _ a R) ⟨⟨S,x⟩,?_⟩;generalize o:p.heap.push _=V;have B:∀b j,p.heap.get? b=some j->V.get? b=some j:=λb j d=>by rw[←o];exact X' _ d
 refine en x λC X ep Y Z=>?_
 refine nc (oO (k.ok.hd D) E (by rw[←o];exact⟨_,Yu _ rfl,rfl,rfl⟩) ⟨C,X,B a C Y,Z⟩ (λkv i=>(U kv i).imp id λ⟨l,items,q1,j,s,r⟩=>⟨l,items,q1,j,B l j s,r⟩) λh' hk=>T' ?_)
 refine⟨_,t,k.kept (by simp_all),?_,q⟩
 rw[T];rfl
end Mir
namespace L2
open PySem PySem.Spec PyProof.Rows
noncomputable def Ak(e:Ą):=match e.key with
 |.str _ _=>true
 |_=>false
def Ob(K:K')(N:b')(b:Str):Option (Option f'):=match K.lookup N with
 |some ⟨_,_,.dict a _,_⟩=>if a.toList.all Ak=true then some (nsFind a b)else none
 |_=>none
variable{G:K'}{d:Str}{h:b'}{u5:Option f'}
theorem Gh(a:Ob G h d=some u5)(f)(X:G.In f):∃mN,f.Ns h mN/\mN d=u5:=by
 unfold Ob at a;split at a
 .rename_i c b g n k i
  split at a
  .rename_i j
   cases a;refine⟨_,⟨_,g,n,X _ _ i,rfl,λe l=>?_,λ_=>rfl⟩,rfl⟩
   have:=YP.mp j e (by simp_all)
   unfold Ak at this
   grind
  .cases a
 .cases a
def su(K:K'):List f'->Bool
 |.ref A::tl=>(match K.lookup A with
  |some ⟨_,_,.cls a,_⟩=>Ob K a.ns "__init__"==some none
  |_=>false)&&su K tl
 |l=>l==qG
theorem vX{K}:∀{l},su K l=true->∀h,K.In h->ć h qG l
 |[],e,h,X=>by simp[su]at e
 |a::r,e,h,X=>by
  cases a with
  |ref A=>
   simp only[su,Yv]at e;obtain⟨b,f⟩:=e;split at b
   .rename_i c d k m g
    obtain⟨mN,i,j⟩:=Gh (eq_of_beq b) h X;exact .own (X _ _ g) i j (vX f h X)
   .cases b
  |_=>rw[eq_of_beq (e)];exact .base
end L2
namespace Mir
open PySem
inductive D where
 |non|bl (b:Bool)|int (i:Int)|str (x:Str)
 |lst (xs:List D)|tup (xs:List D)|dct (ks:List L2.Key) (vs:List D)|ref (n:Nat)
 deriving Inhabited
inductive Out (α:Type) where
 |ok (a:α)|exc (c:Str) (fs:List (Str×D))|bad
noncomputable def Out.bind{b d}:Out b->(b->Out d)->Out d
 |.ok a,f=>f a
 |.exc c e,_=>.exc c e
 |.bad,_=>.bad
instance:Monad Out where
 pure:=.ok
 bind:=Out.bind
variable{R8 y4:Type}
@[simp] theorem Oc(a)(f:y4->Out R8):(Out.ok a >>= f)=f a:=rfl
@[simp] theorem Lu(f:y4->Out R8):(Out.bad >>= f)=.bad:=rfl
@[simp] theorem Lv(c fs)(f:y4->Out R8):((Out.exc c fs) >>= f)=.exc c fs:=rfl
@[simp] theorem Od(a):(pure a:Out y4)=.ok a:=rfl
mutual
noncomputable def fj:D->D->Bool
 |.non,.non=>true
 |.bl a,.bl b=>a==b
 |.bl a,.int j=>(if a then 1 else 0)==j
 |.int i,.bl b=>i==(if b then 1 else 0)
 |.int i,.int j=>i==j
 |.str x,.str y=>x==y
 |.lst c,.lst d=>fJ c d
 |.tup c,.tup d=>fJ c d
 |_,_=>false
noncomputable def fJ:List D->List D->Bool
 |[],[]=>true
 |x::a,y::b=>fj x y&&fJ a b
 |_,_=>false
end
noncomputable def aR:Nat->D->Bool
 |_,.non|_,.bl _|_,.int _|_,.str _=>true
 |n+1,.lst a|n+1,.tup a=>a.all (aR n)
 |_,_=>false
noncomputable def small(n):=decide (n<=XX)
def lX:D->Option Bool
 |.non=>some false
 |.bl b=>some b
 |.int i=>some (i != 0)
 |.str x=>if small x.length then some (x.length != 0)else none
 |.lst a=>some (!a.isEmpty)
 |.tup a=>some (!a.isEmpty)
 |_=>none
abbrev Rs:=Bool×D
noncomputable def nk(i:Int):=decide (i.natAbs<18446744073709551616)
variable{U:Int}
theorem sv(h:nk U=true): -(2 ^ 64)<U/\U<2 ^ 64:=by
 have:=of_decide_eq_true h;omega
def gQ(a:Û)(x y:D):Out Rs:=
 match a,x,y with
 |.Add,.int i,.int j=>.ok (false,.int (i+j))
 |.Sub,.int i,.int j=>.ok (false,.int (i - j))
 |.Mult,.int i,.int j=>if nk i||nk j then .ok (false,.int (i*j))else .bad
 |.FloorDiv,.int i,.int j=>if decide (0<j)&&decide (j<1073741824)then .ok (false,.int (i / j))else .bad
 |.Mod,.int i,.int j=>if decide (0<j)then .ok (false,.int (i%j))else .bad
 |.Pow,.int i,.int j=>if decide (0<=j)&&decide (j<=1000)&&decide (i.natAbs<2 ^ 64)then .ok (false,.int (i ^ j.toNat))else .bad
 |.Add,.str i,.str j=>if small (i.length+j.length)then .ok (false,.str (i++j))else .bad
 |.Add,.lst i,.lst j=>if small (i.length+j.length)then .ok (true,.lst (i++j))else .bad
 |_,_,_=>.bad
noncomputable def vY(x y) := !(ę y x 0 y.length 1).isEmpty
def inD(x y:D):Out Bool:=
 match x,y with
 |x,.lst a=>if aR 8 x&&a.all (aR 8)then .ok (a.any λy=>fj y x)else .bad
 |x,.tup a=>if aR 8 x&&a.all (aR 8)then .ok (a.any λy=>fj y x)else .bad
 |.str x,.str y=>.ok (vY x y)
 |_,_=>.bad
noncomputable def isD(x y:D):Out Bool:=
 match x,y with
 |.non,.non=>.ok true
 |_,.non=>.ok false
 |.bl a,.bl b=>.ok (a==b)
 |.non,.bl _=>.ok false
 |.int _,.bl _=>.ok false
 |.str _,.bl _=>.ok false
 |.lst _,.bl _=>.ok false
 |.tup _,.bl _=>.ok false
 |_,_=>.bad
def eP(a:Zh)(x y:D):Out Bool:=
 match a,x,y with
 |.Eq,x,y=>if aR 8 x&&aR 8 y then .ok (fj x y)else .bad
 |.NotEq,x,y=>if aR 8 x&&aR 8 y then .ok (!fj x y)else .bad
 |.Lt,.int i,.int j=>.ok (decide (i<j))
 |.LtE,.int i,.int j=>.ok (decide (i<=j))
 |.Gt,.int i,.int j=>.ok (decide (j<i))
 |.GtE,.int i,.int j=>.ok (decide (j<=i))
 |.In,x,y=>inD x y
 |.NotIn,x,y=>do let b ←inD x y;.ok (!b)
 |.Is,x,y=>isD x y
 |.IsNot,x,y=>do let b ←isD x y;.ok (!b)
 |_,_,_=>.bad
noncomputable def bW(c:Nat):Str:=⟨#[c]⟩
def uE(x y:D):Out Rs:=
 match x,y with
 |.lst a,.int i=>match L2.mu a i with|some d=>.ok (false,d)|none=>.bad
 |.tup a,.int i=>match L2.mu a i with|some d=>.ok (false,d)|none=>.bad
 |.str z,.int i=>if small z.length then (match L2.mu z.cps.toList i with|some c=>.ok (false,.str (bW c))|none=>.bad)else .bad
 |_,_=>.bad
def et{a:Type}(xs:List a)(b c:Option Int):=(xs.drop (HT.jP xs.length 0 b)).take (HT.jP xs.length xs.length c - HT.jP xs.length 0 b)
def Al(x:D)(a b:Option Int):Out Rs:=
 match x with
 |.lst c=>.ok (true,.lst (et c a b))
 |.str z=>if small z.length then .ok (false,.str ⟨(et z.cps.toList a b).toArray⟩)else .bad
 |_=>.bad
noncomputable def intsFrom(a:Int):Nat->List D
 |0=>[]
 |n+1=>.int a::intsFrom (a+1) n
noncomputable def oP(i:Int):=decide (i.natAbs<4611686018427387904)
theorem sx(h:oP U=true): -(2 ^ 62)<=U/\U<2 ^ 62:=by
 have:=of_decide_eq_true h;omega
noncomputable def fk(i:Nat):List D->List D
 |[]=>[]
 |d::a=>.tup [.int i,d]::fk (i+1) a
inductive mw where
 |len|all|any|sorted|list|tuple|int|min|max|bool
 deriving DecidableEq
def fY:List D->Option (List Bool)
 |[]=>some []
 |d::r=>match lX d,fY r with|some b,some bs=>some (b::bs)|_,_=>none
noncomputable def Gi:List D->Option (List Int)
 |[]=>some []
 |.int i::r=>(Gi r).map (i :: ·)
 |_=>none
noncomputable def lH:List D->Option (List Str)
 |[]=>some []
 |.str i::r=>(lH r).map (i :: ·)
 |_=>none
noncomputable def Lw(a b:Str) := !decide (b.cps.toList<a.cps.toList)
def DN(c:List D):Out (List D):=
 if 64<=c.length then .bad else
 match Gi c with
 |some d=>.ok ((d.mergeSort λa b=>decide (a<=b)).map .int)
 |none=>match lH c with
  |some e=>.ok ((e.mergeSort Lw).map .str)
  |none=>.bad
def jk(f:mw)(a:D):Out Rs:=
 match f,a with
 |.len,.tup [.lst b]=>.ok (false,.int b.length)
 |.len,.tup [.tup b]=>.ok (false,.int b.length)
 |.len,.tup [.str z]=>if small z.length then .ok (false,.int z.length)else .bad
 |.all,.tup [.lst b]=>match fY b with|some bs=>.ok (false,.bl (bs.all id))|none=>.bad
 |.any,.tup [.lst b]=>match fY b with|some bs=>.ok (false,.bl (bs.any id))|none=>.bad
 |.sorted,.tup [.lst b]=>do let c ←DN b;.ok (true,.lst c)
 |.list,.tup [.lst b]=>.ok (true,.lst b)
 |.list,.tup [.tup b]=>.ok (true,.lst b)
 |.tuple,.tup [.lst b]=>.ok (false,.tup b)
 |.tuple,.tup [.tup b]=>.ok (false,.tup b)
 |.int,.tup [.int i]=>.ok (false,.int i)
 |.int,.tup [.bl k]=>.ok (false,.int (if k then 1 else 0))
 |.min,.tup [.int i,.int j]=>.ok (false,.int (if j<i then j else i))
 |.max,.tup [.int i,.int j]=>.ok (false,.int (if j>i then j else i))
 |_,_=>.bad
inductive WB where
 |index|join
 deriving DecidableEq
def uF(m:WB)(x:D)(a:D):Out Rs:=
 match m,x,a with
 |.index,.lst b,.tup [d]=>if aR 8 d&&b.all (aR 8)then (match b.findIdx? λy=>fj y d with|some j=>.ok (false,.int j)|none=>.bad)else .bad
 |.index,.str z,.tup [.str y]=>match ę z y 0 z.length 1 with|i::_=>.ok (false,.int i)|[]=>.bad
 |.join,.str z,.tup [.lst c]=>match lH c with|some b=>if decide (z.length<=16)&&decide ((b.map (·.length)).sum+b.length<=1048576)then .ok (false,.str (Txt.join z b))else .bad|none=>.bad
 |_,_,_=>.bad
inductive Ty where
 |int|str|bool|list|tuple|dict
 deriving DecidableEq
noncomputable def Am:D->Ty->Option Bool
 |.non,_=>some false
 |.bl _,t=>some (t==.bool||t==.int)
 |.int _,t=>some (t==.int)
 |.str _,t=>some (t==.str)
 |.lst _,t=>some (t==.list)
 |.tup _,t=>some (t==.tuple)
 |.dct _ _,t=>some (t==.dict)
 |.ref _,_=>none
noncomputable def gK:D->Bool
 |.non|.bl _|.int _|.str _=>true
 |_=>false
noncomputable def fuel:=100000
def qJ{a:Type}(xs:List a)(i x):=let k:=HT.jP xs.length 0 (some i);xs.take k++x::xs.drop k
open PySem.Spec PyProof.Rows L2
mutual
noncomputable def Rep(Z:b'->Prop)(H:Hp):D->V->Prop
 |.non,v=>v=.non
 |.bl b,v=>v=.bl b
 |.int i,v=>v=.int i
 |.str x,v=>v=.str x
 |.lst d,v=>∃a c,v=.ref a/\Z a/\Rd H a (.lst c)/\bp Z H d c
 |.tup d,v=>∃a c,v=.ref a/\Z a/\Rd H a (.tup c)/\bp Z H d c
 |.dct e d,v=>∃a c,v=.ref a/\Z a/\H a=some (.dK (e.zip c))/\bp Z H d c
 |.ref _,_=>False
noncomputable def bp(Z:b'->Prop)(H:Hp):List D->List V->Prop
 |[],a=>a=[]
 |d::b,a=>∃v r,a=v::r/\Rep Z H d v/\bp Z H b r
end
variable{e π:Hp}{h:b'}{y0:HO}
theorem qK(k:∀o,e h=some o->π h=some o)(a:Rd e h y0):Rd π h y0:=by
 rcases a with a|⟨o,a⟩
 .exact .inl (k _ a)
 .exact .inr ⟨o,k _ a⟩
mutual
theorem Rep.mono{Z i:b'->Prop}{H j:Hp}(k:∀a o,Z a->H a=some o->j a=some o)(z:∀a,Z a->i a):∀{d:D}{v:V},Rep Z H d v->Rep i j d v
 |.non,_,h=>by simpa only [Rep]using h
 |.bl _,_,h=>by simpa only [Rep]using h
 |.int _,_,h=>by simpa only [Rep]using h
 |.str _,_,h=>by simpa only [Rep]using h
 |.lst l,v,h=>by
  simp only[Rep]at h ⊢;refine a6 h λa c e b f g=>?_;exact⟨a,c,e,z a b,qK (λo=>k a o b) f,bp.mono k z g⟩
 |.tup l,v,h=>by
  simp only[Rep]at h ⊢;refine a6 h λa c e b f g=>?_;exact⟨a,c,e,z a b,qK (λo=>k a o b) f,bp.mono k z g⟩
 |.dct m l,v,h=>by
  simp only[Rep]at h ⊢;refine a6 h λa c e b f g=>?_;exact⟨a,c,e,z a b,k a _ b f,bp.mono k z g⟩
 |.ref _,_,h=>by simp only[Rep]at h
theorem bp.mono{Z f:b'->Prop}{H g:Hp}(k:∀a o,Z a->H a=some o->g a=some o)(z:∀a,Z a->f a):∀{b:List D}{c:List V},bp Z H b c->bp f g b c
 |[],_,h=>by simpa only [bp]using h
 |d::b,c,h=>by
  simp only[bp]at h ⊢;refine aF h λv r e i j=>?_;exact⟨v,r,e,Rep.mono k z i,bp.mono k z j⟩
end
theorem bp.length{Z H}:∀{a}{b},bp Z H a b->b.length=a.length
 |[],_,h=>by rw[h];rfl
 |d::a,_,h=>by
  refine aF h λv r e _ c=>?_
  rw[e,Y',Y',bp.length c]
theorem bp.get{Z H}:∀{a}{b}{i:Nat}{d},bp Z H a b->a[i]?=some d->∃v,b[i]?=some v/\Rep Z H d v
 |[],_,_,_,_,e=>by simp at e
 |d::a,_,0,_,h,e=>by
  obtain⟨v,r,rfl,f,_⟩:=h
  simp_all
 |d::a,_,i+1,g,h,e=>by
  obtain⟨v,r,rfl,_,c⟩:=h;obtain⟨u,j,k⟩:=bp.get c (by simpa using e)
  simp_all
theorem bp.append{Z H}:∀{a b}{c e},bp Z H a c->bp Z H b e->bp Z H (a++b) (c++e)
 |[],_,_,_,h,f=>by rwa[h]
 |d::a,_,_,_,h,f=>by
  obtain⟨v,r,rfl,g,i⟩:=h;exact⟨v,_,rfl,g,bp.append i f⟩
variable{o:b'->Prop}
theorem bp.nil:bp o e [] []:=by rfl
theorem bp.cons{Z H d b v a}(h:Rep Z H d v)(c:bp Z H b a):bp Z H (d::b) (v::a):=⟨v,a,rfl,h,c⟩
variable{R:List V}
theorem bp.nil_inv(h:bp o e [] R):R=[]:=by simpa only [bp]using h
variable{l:D}{p:List D}
theorem bp.cons_inv(h:bp o e (l::p) R):∃v r,R=v::r/\Rep o e l v/\bp o e p r:=by simpa only [bp]using h
def Now(Z:b'->Prop)(H:Hp)(d:D)(v:V):Prop:=
 match d with
 |.lst c=>∃a b,v=.ref a/\Rd H a (.lst b)/\bp Z H c b
 |d=>Rep Z H d v
variable{w:V}
theorem Rep.now(h:Rep o e l w):Now o e l w:=by
 cases l with
 |lst d=>
  refine aF h λa c b _ h=>⟨a,c,b,h⟩
 |_=>exact h
structure fK(Z:b'->Prop)(H:Hp)(Z':b'->Prop)(H':Hp):Prop where
 same:mW H H'
 sub:∀a,Z a->Z' a
 new:∀a,Z' a->Z a\/H a=none
 dom:∀a,Z' a->H' a≠none
theorem fK.refl(d:∀a,o a->e a≠none):fK o e o e:=⟨λ_ _ h=>h,λ_ h=>h,by simp_all,d⟩
theorem mW.laid{o}(a:e h=none):mW e (upd e h o):=λb u c=>by rwa[aD (bb c a)]
theorem fK.laid{Z H p o}(d:∀a,Z a->H a≠none)(h:H p=none):fK Z H Z (upd H p o):=
 ⟨mW.laid h,λ_ h=>h,by simp_all,λa b=>by
  rw[aD (λe=>d a b (by rwa[e]))]
  exact d a b⟩
def Zp(Z:b'->Prop)(p):=λa=>Z a\/a=p
def fo(f b)(Z:b'->Prop)(g H:Hp)(d v):=
 if b=true then ∃a c e,d=.lst e/\v=.ref a/\g a=none/\¬ Z a/\H a=some (.lst c)/\bp Z H e c
 else if f=true then Now Z H d v else Rep Z H d v
variable{E:Bool}
theorem fo.own(a:e h=none)(b:¬ o h)(c:π h=some (.lst R))(d:bp o π p R):fo E true o e π (.lst p) (.ref h):=⟨h,R,p,rfl,rfl,a,b,c,d⟩
theorem fo.rep(h:Rep o π l w):fo E false o e π l w:=by
 unfold fo;rw[if_neg (by simp)]
 split
 .exact h.now
 .exact h
theorem fo.now(h:fo true E o e π l w):Now o π l w:=by
 unfold fo at h;split at h
 .obtain⟨a,b,f,rfl,rfl,_,_,c,d⟩:=h
  exact⟨a,b,rfl,.inl c,d⟩
 simp_all
variable{P2 υ:TE}{c:Cx}{j:x'}
theorem PE.imp(h:PE c j υ)(i:∀a H Q,P2 a H Q->υ a H Q):PE c j P2:=λpins s a H Q I q=>h _ s a H Q I (i a H Q q)
theorem nq{d e}{x:Out d}{f}{b:e}(h:(x >>= f)=.ok b):∃a,x=.ok a/\f a=.ok b:=by
 cases x with
 |ok a=>simp_all
 |exc c g=>cases h
 |bad=>cases h
variable{b:Nat}
def bI(h:small b=true):=of_decide_eq_true h
noncomputable def iW:D->Option V
 |.non=>some .non
 |.bl b=>some (.bl b)
 |.int i=>some (.int i)
 |.str x=>some (.str x)
 |_=>none
theorem gZ(h:iW l=some w):Rep o e l w:=by
 cases l<;>first|cases h;simp only[Rep]|cases h
theorem gy(h:Now o e .non w):w=.non:=by simpa only [Now,Rep]using h
theorem bE(h:Now o e (.int U) w):w=.int U:=by simpa only [Now,Rep]using h
theorem jm(h:Now o e (.bl E) w):w=.bl E:=by simpa only [Now,Rep]using h
variable{d:Str}
theorem dH(h:Now o e (.str d) w):w=.str d:=by simpa only [Now,Rep]using h
theorem dI(h:Now o e (.lst p) w):∃a b,w=.ref a/\Rd e a (.lst b)/\bp o e p b:=h
theorem gz(h:Now o e (.tup p) w):∃a b,w=.ref a/\o a/\Rd e a (.tup b)/\bp o e p b:=by simpa only [Now,Rep]using h
variable{G:K'}
theorem nr(a:Rd e h (.lst R)):mn G e h R:=.inl a
theorem vZ(a:Rd e h (.tup R)):ug G e h R:=.inl a
variable{ξ:VK}
def DO(d:∀a,o a->e a≠none)(i:bp o e p R)(k:∀v g h,fK o e h g->fo E true h e g (.lst p) v->ξ v g):=λb f=>
 k _ _ o (fK.laid d f) (.own f (λz=>d b z f) aS (i.mono (λa c _=>mW.laid f a c) λ_ z=>z))
def Lx:R2:=λx y H Q=>∃l b a c,x=.ref l/\y=.ref b/\Rd H l (.lst a)/\Rd H b (.lst c)/\a.length+c.length<=XX/\∀p,H p=none->Q (.ref p) (upd H p (.lst (a++c)))
def Ly(a:Û):R2:=λx y H Q=>match a with
 |.Add=>(∃i j,x=.int i/\y=.int j/\Q (.int (i+j)) H)\/(∃i j,x=.str i/\y=.str j/\i.length+j.length<=XX/\Q (.str (i++j)) H)\/Lx x y H Q
 |.Sub=>∃i j,x=.int i/\y=.int j/\Q (.int (i - j)) H
 |.Mult=>∃i j,x=.int i/\y=.int j/\Ho i j/\Q (.int (i*j)) H
 |.FloorDiv=>∃i j,x=.int i/\y=.int j/\KR i j/\Q (.int (i / j)) H
 |.Mod=>∃i j,x=.int i/\y=.int j/\0<j/\Q (.int (i%j)) H
 |.Pow=>∃i j,x=.int i/\y=.int j/\QJ i j/\Q (.int (i ^ j.toNat)) H
 |_=>False
theorem uG(g):kI c (Ü g) (Ly g):=by
 cases g with
 |Add=>exact Hq.or (uo.or (by
   intro pins s E H x y v u Q I p t h;refine a_ h λl b k m i j w A F q=>?_;subst i;subst j
   cases p;cases t;obtain⟨z,a,n,r,e⟩:k.length<=XX/\∃(a:List _) (n:Nat),Vals k _/\s.heap.get? l=some _:=Rd.ok w I.hok;obtain⟨G,d,J,o,B⟩:m.length<=XX/\∃(a:List _) (n:Nat),Vals m _/\s.heap.get? b=some _:=Rd.ok A I.hok;have K:=r.length;have C:=o.length;refine PySem.P.add_list e B ?_ (by simp_all)
   have D:a.toArray++d.toArray=(a++d).toArray:=by simp
   rw[D];exact⟨.ref _,_,I.QU (r.append o) (by grind),rfl,q _ I.fresh⟩))
 |Sub=>exact KQ λ_ _ _ _ _ _ _ q=>sub_int q
 |Mult=>exact N_ λ_ _ _ _ _ _ _ f q=>mul_int q f.ok
 |FloorDiv=>exact Dq
 |Mod=>exact Hr
 |Pow=>exact N_ λ_ _ _ _ _ _ _ f q=>pow_int_small f.1 f.2.1 f.2.2 q
 |_=>exact λ_ _ _ _ _ _ _ _ _ _ _ _ h=>h.elim
variable{A2:Bool}{E8 Y:D}{P1:V}{t9:Û}
theorem HH(f:Now o e l w)(g:Now o e Y P1)(i:∀a,o a->e a≠none)(b:gQ t9 l Y=.ok (A2,E8))(k:∀v j n,fK o e n j->fo E A2 n e j E8 v->ξ v j):Ly t9 w P1 e ξ:=by
 have c:∀{p:D}{v:V},iW p=some v->Out.ok (false,p)=Out.ok (A2,E8)->ξ v e:=λt q=>by
  cases q;exact k _ e o (fK.refl i) (.rep (gZ t))
 unfold gQ at b;split at b
 .cases bE f;cases bE g
  exact .inl ⟨_,_,rfl,rfl,c rfl b⟩
 .cases bE f;cases bE g
  exact⟨_,_,rfl,rfl,c rfl b⟩
 .cases bE f;cases bE g
  split at b
  .rename_i d
   refine⟨_,_,rfl,rfl,?_,c rfl b⟩;simp at d;exact(d.imp sv sv)
  .cases b
 .cases bE f;cases bE g
  split at b
  .rename_i d
   refine⟨_,_,rfl,rfl,?_,c rfl b⟩;simp at d;exact d
  .cases b
 .cases bE f;cases bE g
  split at b
  .exact⟨_,_,rfl,rfl,by simp_all,c rfl b⟩
  .cases b
 .cases bE f;cases bE g
  split at b
  .rename_i d
   refine⟨_,_,rfl,rfl,?_,c rfl b⟩;simp at d;exact⟨d.1.1,by omega,d.2⟩
  .cases b
 .cases dH f;cases dH g
  split at b
  .rename_i d
   exact .inr (.inl ⟨_,_,rfl,rfl,bI d,c rfl b⟩)
  .cases b
 .obtain⟨h,u,rfl,x,r⟩:=dI f
  obtain⟨m,y,rfl,z,s⟩:=dI g;split at b
  .rename_i d
   cases b;exact .inr (.inr ⟨h,m,u,y,rfl,rfl,x,z,by rw[r.length,s.length];exact(bI d),DO i (r.append s) k⟩)
  .cases b
 .cases b
theorem qL{c}(f:∀o w,y0≠.eo o w)(d:∀o w,c≠.eo o w)(a:Rd e h y0)(b:Rd e h c):y0=c:=by
 rcases a with a|⟨o,a⟩<;>rcases b with b|⟨g,b⟩<;>rw[a]at b<;>injection b with Vs
 .grind
 .grind
 simp_all
variable{z5:List V}
theorem uH(a:Rd e h (.lst R))(b:Rd e h (.lst z5)):R=z5:=by
 injection (qL (λ_ _ z=>by cases z) (λ_ _ z=>by cases z) a b)
theorem uI(a:Rd e h (.tup R))(b:Rd e h (.tup z5)):R=z5:=by
 injection (qL (λ_ _ z=>by cases z) (λ_ _ z=>by cases z) a b)
theorem pB(a:Rd e h (.lst R))(b:Rd e h (.tup z5)):False:=by
 cases (qL (λ_ _ z=>by cases z) (λ_ _ z=>by cases z) a b)
mutual
theorem Rep.uniq{Z:b'->Prop}{H:Hp}:∀(n:Nat) (d d':D) (v:V),aR n d=true->aR n d'=true->Rep Z H d v->Rep Z H d' v->d=d'
 |n,.lst k,d',v,o,f,h,c=>by
  simp only[Rep]at h;obtain⟨a,l,rfl,_,i,m⟩:=h;cases d'<;>simp only[Rep]at c
  case lst ys=>
   obtain⟨b,p,e,_,g,j⟩:=c;cases e;cases uH i g;cases n with
   |zero=>simp[aR]at o
   |succ n=>rw[bp.uniq n k ys l (by simpa[aR]using o) (by simpa[aR]using f) m j]
  case tup ys=>
   obtain⟨b,p,e,_,g,j⟩:=c;cases e;exact(pB i g).elim
  case dct ks ys=>cases n<;>simp[aR]at f
  all_goals cases c
 |n,.tup k,d',v,o,f,h,c=>by
  simp only[Rep]at h;obtain⟨a,l,rfl,_,i,m⟩:=h;cases d'<;>simp only[Rep]at c
  case tup ys=>
   obtain⟨b,p,e,_,g,j⟩:=c;cases e;cases uI i g;cases n with
   |zero=>simp[aR]at o
   |succ n=>rw[bp.uniq n k ys l (by simpa[aR]using o) (by simpa[aR]using f) m j]
  case lst ys=>
   obtain⟨b,p,e,_,g,j⟩:=c;cases e;exact(pB g i).elim
  case dct ks ys=>cases n<;>simp[aR]at f
  all_goals cases c
 |n,.dct ks k,_,_,o,_,_,_=>by cases n<;>simp[aR]at o
 |n,.ref _,_,_,_,_,h,_=>by simp only[Rep]at h
 |n,.non,d',v,_,f,h,c=>by
  simp only[Rep]at h;subst h
  cases d'<;>simp only[Rep]at c<;>first|rfl | (obtain⟨_,_,e,_⟩:=c;cases e;done) | (cases c;done)
 |n,.bl b,d',v,_,f,h,c=>by
  simp only[Rep]at h;subst h
  cases d'<;>simp only[Rep]at c<;>first | (obtain⟨_,_,e,_⟩:=c;cases e;done) | (cases c;rfl) | (cases c;done)
 |n,.int b,d',v,_,f,h,c=>by
  simp only[Rep]at h;subst h
  cases d'<;>simp only[Rep]at c<;>first | (obtain⟨_,_,e,_⟩:=c;cases e;done) | (cases c;rfl) | (cases c;done)
 |n,.str b,d',v,_,f,h,c=>by
  simp only[Rep]at h;subst h
  cases d'<;>simp only[Rep]at c<;>first | (obtain⟨_,_,e,_⟩:=c;cases e;done) | (cases c;rfl) | (cases c;done)
theorem bp.uniq{Z:b'->Prop}{H:Hp}:∀(n:Nat) (xs a:List D) (c:List V),(∀x∈xs,aR n x=true)->(∀x∈a,aR n x=true)->bp Z H xs c->bp Z H a c->xs=a
 |n,[],a,c,_,_,h,b=>by
  rw[h.nil_inv]at b;cases a with
  |nil=>rfl
  |cons y a=>refine cE b.cons_inv λ_ _ e _=>?_;cases e
 |n,x::xs,a,c,o,f,h,b=>by
  obtain⟨v,r,rfl,g,i⟩:=h.cons_inv;cases a with
  |nil=>exact absurd b.nil_inv (by simp)
  |cons y a=>
   refine aF b.cons_inv λw l e j k=>?_;cases e;rw[Rep.uniq n x y v (o x (by simp)) (f y (by simp)) g j,bp.uniq n xs a r (λz d=>o z (by simp[d])) (λz d=>f z (by simp[d])) i k]
end
mutual
theorem sy:∀(n:Nat) (d:D),aR n d=true->fj d d=true
 |n,.lst a,o=>by
  cases n with
  |zero=>simp[aR]at o
  |succ n=>exact fZ n a (by simpa[aR]using o)
 |n,.tup a,o=>by
  cases n with
  |zero=>simp[aR]at o
  |succ n=>exact fZ n a (by simpa[aR]using o)
 |n,.dct _ _,o=>by cases n<;>simp[aR]at o
 |n,.ref _,o=>by cases n<;>simp[aR]at o
 |n,.non,_=>by simp[fj]
 |n,.bl _,_=>by simp[fj]
 |n,.int _,_=>by simp[fj]
 |n,.str _,_=>by simp[fj]
theorem fZ:∀(n:Nat) (xs:List D),(∀x∈xs,aR n x=true)->fJ xs xs=true
 |n,[],_=>by simp[fJ]
 |n,x::xs,o=>by
  simp only[fJ,sy n x (o x (by simp)),fZ n xs λz hz=>o z (by simp[hz]),Bool.and_self]
end
theorem fw:∀xs a,((Yd (min xs.length a.length)).all (λj=>fj (xs.getD j .non) (a.getD j .non))&&(xs.length==a.length))=fJ xs a
 |[],[]=>by simp[fJ]
 |[],_::_=>by simp[fJ]
 |_::_,[]=>by simp[fJ]
 |x::xs,y::a=>by
  have b:min (x::xs).length (y::a).length=min xs.length a.length+1:=by simp
  rw[b,ύ,fJ,←(fw xs a)];simp[Function.comp_def,Bool.and_assoc]
variable{T4:List D}
theorem sD(h:p.length=T4.length):(Yd p.length).all (λj=>fj (p.getD j .non) (T4.getD j .non))=fJ p T4:=by
 have e:=fw p T4
 simp_all
theorem v7(h:p.length≠T4.length):fJ p T4=false:=by
 rw[←fw p T4];simp[h]
inductive Vw (s:g') (Z:b'->Prop) (H:Hp):D->f'->Prop where
 |non:Vw s Z H .non .none
 |bl (b:Bool):Vw s Z H (.bl b) (.bool b)
 |int (i:Int) (t:YD):Vw s Z H (.int i) (.int i t)
 |str (x:Str) (t:YD):Vw s Z H (.str x) (.str x t)
 |lst {l:b'}{its:List f'}{vs:List V}{ds:List D}:s.heap.IsList l its.toArray->Vals vs its->Rd H l (.lst vs)/\bp Z H ds vs->Vw s Z H (.lst ds) (.ref l)
 |tup {l:b'}{its:List f'}{vs:List V}{ds:List D}:s.heap.IsTuple l its.toArray->Vals vs its->Rd H l (.tup vs)/\bp Z H ds vs->Vw s Z H (.tup ds) (.ref l)
variable{N:f'}{m:g'}{u0:L2.St}{z:List (b'×Obj)}
theorem gM(I:Inv c z u0 e m)(g:Now o e l w)(r:RelV w N)(f:aR b l=true):Vw m o e l N:=by
 cases l with
 |non=>cases gy g;cases r;exact .non
 |bl d=>cases jm g;cases r;exact .bl d
 |int d=>cases bE g;obtain⟨t,rfl⟩:=r;exact .int d t
 |str d=>cases dH g;obtain⟨t,rfl⟩:=r;exact .str d t
 |lst q=>
  obtain⟨a,s,rfl,h,i⟩:=dI g;cases r;obtain⟨j,n,p,u⟩:=I.list (nr h);exact .lst p.isList n ⟨h,i⟩
 |tup q=>
  obtain⟨a,s,rfl,_,h,i⟩:=gz g;cases r;obtain⟨j,n,p,u⟩:=I.tuple (vZ h);exact .tup p n ⟨h,i⟩
 |dct x q=>cases b<;>simp[aR]at f
 |ref k=>cases b<;>simp[aR]at f
variable{Δ:List f'}
theorem qM(r:Vals R Δ)(c):∃v,R[b]?=some v/\RelV v Δ[b]:=by
 have d:=r.length;have a:R[b]?=some R[b]:=by simp
 obtain⟨u,e,f⟩:=r.get a
 simp_all
variable{G5:List f'}{L:Yi}
theorem jR(I:Inv c z u0 e m)(y:∀L f g u w,L.units+b<Yk->aR b f=true->aR b g=true->Vw m o e f u->Vw m o e g w->Â L m u w (fj f g))(A:∀x∈p,aR b x=true)(B:∀x∈T4,aR b x=true)(J:L.units+(b+1)<Yk)(i:Vals R Δ)(k:Vals z5 G5)(pl:bp o e p R)(l:bp o e T4 z5):
  ∀j n (q:j<G5.toArray.size),Â L.in1 m Δ.toArray[j] G5.toArray[j] (fj (p.getD j .non) (T4.getD j .non)):=by
 intro j n q;have K:=i.length;have M:=k.length;have N:=pl.length;have O:=l.length;obtain⟨v,C,E⟩:=qM i n;obtain⟨w,F,h⟩:=qM k q;have r:p[j]?=some (p.getD j .non):=by grind
 have s:T4[j]?=some (T4.getD j .non):=by grind
 obtain⟨P,a,G⟩:=pl.get r;obtain⟨Q,d,H⟩:=l.get s;rw[C]at a;cases a
 rw[F]at d;cases d
 have t:=A _ (Yf r);have o2:=B _ (Yf s);exact y _ _ _ _ _ (by grind) t o2 (gM I G.now E t) (gM I H.now h o2)
variable{M2:f'}
theorem An(f:Vw m o e l N)(i:Vw m o e Y M2)(c:aR b l=true)(g:aR b Y=true)(h:aa7 L m N M2 (fj l Y)):Â L m N M2 (fj l Y):=by
 by_cases a:N=M2
 .subst a
  have:fj l Y=true:=by
   cases f<;>cases i
   case lst.lst pl _ _ _ _ _ pm=>
    cases b with
    |zero=>simp[aR]at c
    |succ b=>
     cases uH pl.1 pm.1;cases bp.uniq b _ _ _ (by simpa[aR]using c) (by simpa[aR]using g) pl.2 pm.2
     exact fZ b _ (by simpa[aR]using c)
   case tup.tup pl _ _ _ _ _ pm=>
    cases b with
    |zero=>simp[aR]at c
    |succ b=>
     cases uI pl.1 pm.1;cases bp.uniq b _ _ _ (by simpa[aR]using c) (by simpa[aR]using g) pl.2 pm.2
     exact fZ b _ (by simpa[aR]using c)
   case lst.tup pl _ _ _ _ _ pm=>exact(pB pl.1 pm.1).elim
   case tup.lst pl _ _ _ _ _ pm=>exact(pB pm.1 pl.1).elim
   all_goals simp[fj]
  rw[this];exact aa3 _
 .intro prog j E Q k
  unfold eqBool;refine ZF (Ì (λd=>absurd (eq_of_beq d) a) λ_=>?_)
  cases f<;>exact nc (h prog j E _ (ZV k))
theorem sE(I:Inv c z u0 e m):∀n A g i u w,A.units+n<Yk->aR n g=true->aR n i=true->Vw m o e g u->Vw m o e i w->aa7 A m u w (fj g i):=by
 intro n
 induction n using ώ with
 |_ n L=>
 intro A g i u w J H M N x;have b:A.units<Yk:=Yw (Zs _ _) J;cases N with
 |non=>
  cases x with
  |non=>exact ab2
  |bl=>exact ab3 _
  |int=>exact ab4 _ _
  |str=>exact ab5 _ _
  |lst a=>exact ab6 a b
  |tup a=>exact ab7 a b
 |bl=>
  cases x with
  |non=>exact ab8 _
  |bl=>exact ab9 _ _
  |int=>exact ab' _ _ _
  |str=>exact aca _ _ _
  |lst a=>exact acb _ a b
  |tup a=>exact acd _ a b
 |int=>
  cases x with
  |non=>exact ace _ _
  |bl=>exact acf _ _ _
  |int=>exact acg _ _ _ _
  |str=>exact ach _ _ _ _
  |lst a=>exact aci _ _ a b
  |tup a=>exact acj _ _ a b
 |str=>
  cases x with
  |non=>exact ack _ _
  |bl=>exact acm _ _ _
  |int=>exact acn _ _ _ _
  |str=>exact aco _ _ _ _
  |lst a=>exact acp _ _ a b
  |tup a=>exact acq _ _ a b
 |@lst l k O y d B C=>
  cases x with
  |non=>exact acr d b
  |bl=>exact acs _ d b
  |int=>exact acu _ _ d b
  |str=>exact acv _ _ d b
  |@lst s j K f a E F=>
   cases n with
   |zero=>simp[aR]at H
   |succ n=>
    have P:=B.length;have Q:=E.length;have R:=C.2.length;have S:=F.2.length;simp only[fj]
    by_cases G:y.length=f.length
    .rw[←sD G]
     have:=acw d a (by simp only[YJ];omega) b (jR I (λA g i u w h p q r t=>An r t p q (L n n.lt_succ_self A g i u w h p q r t)) (by simpa[aR]using H) (by simpa[aR]using M) J B E C.2 F.2)
     rw[show k.toArray.size=y.length by simp only[YJ];omega]at this
     exact this
    .rw[v7 G]
     exact acx d a (by simp only[YJ,bne_iff_ne];omega) b
  |tup a=>exact acy d a b
 |@tup l k O y d B C=>
  cases x with
  |non=>exact acz d b
  |bl=>exact acA _ d b
  |int=>exact acB _ _ d b
  |str=>exact acC _ _ d b
  |lst a=>exact acD d a b
  |@tup s j K f a E F=>
   cases n with
   |zero=>simp[aR]at H
   |succ n=>
    have P:=B.length;have Q:=E.length;have R:=C.2.length;have S:=F.2.length;simp only[fj];rw[←fw y f];have:=acE d a b (jR I (λA g i u w h p q r t=>An r t p q (L n n.lt_succ_self A g i u w h p q r t)) (by simpa[aR]using H) (by simpa[aR]using M) J B E C.2 F.2)
    rw[show k.toArray.size=y.length by simp only[YJ];omega,show j.toArray.size=f.length by simp only[YJ];omega]at this
    exact this
theorem jS(I:Inv c z u0 e m)(n A a b u w)(i:A.units+n<Yk)(d:aR n a=true)(f:aR n b=true)(g:Vw m o e a u)(h:Vw m o e b w):Â A m u w (fj a b):=An g h d f (sE I n A a b u w i d f g h)
theorem uJ(I:Inv c z u0 e m)(w:L.units+(b+1)<Yk)(y:aR (b+1) l=true)(A:aR (b+1) Y=true)(B:Vw m o e l N)(n:Vw m o e Y M2):SeqAt.RcNeAt L m N M2 (!fj l Y):=by
 have d:L.units<Yk:=Yw (Zs _ _) w;cases B with
 |non=>
  cases n with
  |non=>exact acF
  |bl=>exact acG _
  |int=>exact acH _ _
  |str=>exact acI _ _
  |lst a=>exact acJ a d
  |tup a=>exact acK a d
 |bl=>
  cases n with
  |non=>exact acL _
  |bl=>exact acM _ _
  |int=>exact acN _ _ _
  |str=>exact acO _ _ _
  |lst a=>exact acP _ a d
  |tup a=>exact acQ _ a d
 |int=>
  cases n with
  |non=>exact acR _ _
  |bl=>exact acS _ _ _
  |int=>exact acT _ _ _ _
  |str=>exact acU _ _ _ _
  |lst a=>exact acV _ _ a d
  |tup a=>exact acW _ _ a d
 |str=>
  cases n with
  |non=>exact acX _ _
  |bl=>exact acY _ _ _
  |int=>exact acZ _ _ _ _
  |str=>exact ac_ _ _ _ _
  |lst a=>exact ac0 _ _ a d
  |tup a=>exact ac1 _ _ a d
 |@lst i j C p f q r=>
  cases n with
  |non=>exact ac2 f d
  |bl=>exact ac3 _ f d
  |int=>exact ac4 _ _ f d
  |str=>exact ac5 _ _ f d
  |@lst k h x g a s t=>
   have D:=q.length;have E:=s.length;have F:=r.2.length;have G:=t.2.length;simp only[fj]
   by_cases u:p.length=g.length
   .rw[←sD u]
    have:=ac6 f a (by simp only[YJ];omega) d (jR I (jS I b) (by simpa[aR]using y) (by simpa[aR]using A) w q s r.2 t.2)
    rw[show j.toArray.size=p.length by simp only[YJ];omega]at this
    exact this
   .rw[v7 u]
    exact ac7 f a (by simp only[YJ,bne_iff_ne];omega) d
  |tup a=>exact ac8 f a d
 |@tup i j C p f q r=>
  cases n with
  |non=>exact ac9 f d
  |bl=>exact ac' _ f d
  |int=>exact ada _ _ f d
  |str=>exact adb _ _ f d
  |lst a=>exact ade f a d
  |@tup k h x g a s t=>
   have D:=q.length;have E:=s.length;have F:=r.2.length;have G:=t.2.length;simp only[fj];rw[←fw p g];have:=adf f a d (jR I (jS I b) (by simpa[aR]using y) (by simpa[aR]using A) w q s r.2 t.2)
   rw[show j.toArray.size=p.length by simp only[YJ];omega,show h.toArray.size=g.length by simp only[YJ];omega]at this
   exact this
theorem Vw.uniq{s Z H n d d' u}(h:Vw s Z H d u)(j:Vw s Z H d' u)(o:aR n d=true)(w:aR n d'=true):d=d':=by
 cases h with
 |non=>cases j;rfl
 |bl b=>cases j;rfl
 |int i t=>cases j;rfl
 |str x t=>cases j;rfl
 |@lst l k m p y z e=>
  cases j with
  |@lst _ a f g q r c=>
   cases uH e.1 c.1;cases n with
   |zero=>simp[aR]at o
   |succ n=>rw[bp.uniq n p _ m (by simpa[aR]using o) (by simpa[aR]using w) e.2 c.2]
  |@tup _ a f g q r c=>exact(pB e.1 c.1).elim
 |@tup l k m p y z e=>
  cases j with
  |@tup _ a f g q r c=>
   cases uI e.1 c.1;cases n with
   |zero=>simp[aR]at o
   |succ n=>rw[bp.uniq n p _ m (by simpa[aR]using o) (by simpa[aR]using w) e.2 c.2]
  |@lst _ a f g q r c=>exact(pB c.1 e.1).elim
def Ao(s)(Z:b'->Prop)(H a u):=@decide (∃d,aR 8 d=true/\Vw s Z H d u/\fj d a=true) (Ϗ _)
theorem v_(a:aR 8 Y=true)(h:Vw m o e Y N):Ao m o e l N=fj Y l:=by
 cases b:fj Y l with
 |true=>exact @decide_eq_true _ (Ϗ _) ⟨Y,a,h,b⟩
 |false=>
  refine @decide_eq_false _ (Ϗ _) ?_;rintro⟨g,d,f,c⟩;rw[Vw.uniq f h d a,b]at c;cases c
theorem nu{X pins}{f:L2.St}{Z H s}(I:Inv X pins f H s){c}:∀{b}{e}{a},bp Z H b e->Vals e a->(∀d∈b,aR 8 d=true)->a.any (Ao s Z H c)=b.any λd=>fj d c
 |[],_,_,h,r,_=>by rw[h.nil_inv]at r;cases r;rfl
 |d::b,_,_,h,r,o=>by
  obtain⟨v,vr,rfl,g,i⟩:=h.cons_inv;cases r with
  |cons j k=>
   rw[Ï,Ï,nu I i k (by simp_all),v_ (o d (by simp)) (gM I g.now j (o d (by simp)))]
theorem nv{X pins}{l:L2.St}{Z H s}(I:Inv X pins l H s){A b w}(f:A.units+8<Yk)(g:aR 8 b=true)(i:Vw s Z H b w):
  ∀{c}{j}{a},bp Z H c j->Vals j a->(∀d∈c,aR 8 d=true)->∀u∈a,Â A s u w (Ao s Z H b u)
 |[],_,_,h,r,_,u,hm=>by rw[h.nil_inv]at r;cases r;simp at hm
 |d::c,_,_,h,r,o,u,hm=>by
  obtain⟨v,vr,rfl,m,n⟩:=h.cons_inv;cases r with
  |cons p q=>
   rcases Yo.mp hm with e|hm
   .subst e
    have k:=gM I m.now p (o d (by simp))
    rw[v_ (o d (by simp)) k]
    exact jS I 8 A d b _ w f (o d (by simp)) g k i
   .exact nv I f g i n q (λz t=>o z (by simp[t])) u hm
def Ap(c:Zh):R2:=λx y H Q=>∃Z a b k,Now Z H a x/\Now Z H b y/\eP c a b=.ok k/\Q (.bl k) H
theorem sF{c}(h:Now o e (.dct c p) w):∃a,w=.ref a:=by
 refine cE h λa _ b _=>?_
 simp_all
theorem Gj(d:Now o e l w)(k:Now o e Y P1)(f:RelV w N)(m:RelV P1 M2)(h:isD l Y=.ok E):plainIs N M2=true/\(N==M2)=E:=by
 have DP:∀{g:List D}{w:V}{N:f'},Now o e (.lst g) w->RelV w N->∃a,N=.ref a:=λn r=>by
  obtain⟨a,_,rfl,_⟩:=dI n;exact⟨a,r⟩
 have j:∀{g:List D}{w:V}{N:f'},Now o e (.tup g) w->RelV w N->∃a,N=.ref a:=λn r=>by
  obtain⟨a,_,rfl,_⟩:=gz n;exact⟨a,r⟩
 cases Y with
 |non=>
  cases gy k;cases m;cases l with
  |non=>cases gy d;cases f;cases h;exact⟨rfl,rfl⟩
  |bl b=>cases jm d;cases f;cases h;exact⟨rfl,rfl⟩
  |int i=>cases bE d;obtain⟨t,rfl⟩:=f;cases h;exact⟨rfl,rfl⟩
  |str i=>cases dH d;obtain⟨t,rfl⟩:=f;cases h;exact⟨rfl,rfl⟩
  |lst g=>obtain⟨a,rfl⟩:=DP d f;cases h;exact⟨rfl,rfl⟩
  |tup g=>obtain⟨a,rfl⟩:=j d f;cases h;exact⟨rfl,rfl⟩
  |dct p g=>obtain⟨a,rfl⟩:=sF d;cases f;cases h;exact⟨rfl,rfl⟩
  |ref n=>exact(show False by simpa only [Now,Rep]using d).elim
 |bl c=>
  cases jm k;cases m;cases l with
  |non=>cases gy d;cases f;cases h;exact⟨rfl,rfl⟩
  |bl b=>cases jm d;cases f;cases h;exact⟨rfl,by grind⟩
  |int i=>cases bE d;obtain⟨t,rfl⟩:=f;cases h;exact⟨rfl,rfl⟩
  |str i=>cases dH d;obtain⟨t,rfl⟩:=f;cases h;exact⟨rfl,rfl⟩
  |lst g=>obtain⟨a,rfl⟩:=DP d f;cases h;exact⟨rfl,rfl⟩
  |tup g=>obtain⟨a,rfl⟩:=j d f;cases h;exact⟨rfl,rfl⟩
  |dct p g=>cases h
  |ref n=>cases h
 |int _=>cases l<;>cases h
 |str _=>cases l<;>cases h
 |lst _=>cases l<;>cases h
 |tup _=>cases l<;>cases h
 |dct _ _=>cases l<;>cases h
 |ref _=>cases l<;>cases h
theorem Gk(G:c.A.units+64<Yk)(I:Inv c z u0 e m)(r:RelV w N)(s:RelV P1 M2)(t:Now o e l w)(u:Now o e Y P1)(a:inD l Y=.ok E):
  (ξ (.bl E) e->p9 (j' c.prog c.w) c.A (YF .In N M2) (EP c z u0 ξ) c.xe m)/\(ξ (.bl !E) e->p9 (j' c.prog c.w) c.A (YF .NotIn N M2) (EP c z u0 ξ) c.xe m):=by
 unfold inD at a;split at a
 .rename_i x
  split at a
  .rename_i h
   cases a;simp only[Yv]at h;obtain⟨i,f⟩:=h;have f:=YP.mp f;obtain⟨g,B,rfl,y,j⟩:=dI u;cases s;obtain⟨d,k,p,C⟩:=I.list (nr y);have n:∀b,b∈d.toArray->Â c.A.in1 m b N _:=λb D=>nv I (by grind) i (gM I t r i) j k f b (by grind)
   have F:d.toArray.any (Ao m o e l)=x.any λP1=>fj P1 l:=by
    rw[←nu I j k f];simp
   exact⟨λq=>SeqAt.in_listAt _ p.isList n ⟨.bl _,e,I,rfl,by grind⟩,λq=>SeqAt.notIn_listAt _ p.isList n ⟨.bl _,e,I,rfl,by grind⟩⟩
  .cases a
 .rename_i x
  split at a
  .rename_i h
   cases a;simp only[Yv]at h;obtain⟨i,f⟩:=h;have f:=YP.mp f;obtain⟨g,B,rfl,_,y,j⟩:=gz u;cases s;refine bx (I.tuple (vZ y)) λd k p C=>?_
   have n:∀b,b∈d.toArray->Â c.A.in1 m b N _:=λb D=>nv I (by grind) i (gM I t r i) j k f b (by grind)
   have F:d.toArray.any (Ao m o e l)=x.any λP1=>fj P1 l:=by
    rw[←nu I j k f];simp
   exact⟨λq=>SeqAt.in_tupleAt _ p n ⟨.bl _,e,I,rfl,by grind⟩,λq=>SeqAt.notIn_tupleAt _ p n ⟨.bl _,e,I,rfl,by grind⟩⟩
  .cases a
 .cases a
  cases dH t;cases dH u;exact⟨λq=>yf _ m u0 e _ _ N M2 ξ I r s ⟨_,_,rfl,rfl,q⟩,λq=>qo _ m u0 e _ _ N M2 ξ I r s ⟨_,_,rfl,rfl,q⟩⟩
 .cases a
variable{Y3:Zh}
theorem mx(h:eP Y3 l Y=.ok E)(a:Y3=.Lt\/Y3=.LtE\/Y3=.Gt\/Y3=.GtE):∃i j,l=.int i/\Y=.int j:=by
 rcases a with rfl|rfl|rfl|rfl<;>cases l<;>first | (cases h) | (cases Y<;>first|grind|cases h)
theorem kO(J:c.A.units+64<Yk)(D):kI c (YF D) (Ap D):=by
 intro pins s E H x y u v Q I l m h;refine bj h λZ r t k n p F=>xa F λe q=>?_
 have f:EP c pins E Q (.bool k) s:=⟨.bl k,H,I,rfl,q⟩
 have a:∀{i j:Int}{o:Zh}{g:Int->Int->Bool},kI c (YF o) (NZ λi j=>.bl (g i j))->r=.int i->t=.int j->k=g i j->p9 (j' c.prog c.w) c.A (YF o u v) (EP c pins E Q) c.xe s:=by
  intro i j o g z B C K;subst B C K;cases bE n;cases bE p;exact z pins s E H _ _ u v Q I l m ⟨_,_,rfl,rfl,q⟩
 cases D with
 |Eq=>
  unfold eP at e;dsimp only at e;split at e
  .rename_i d
   cases e;simp only[Yv]at d;exact sE I 8 _ _ _ _ _ (by omega) d.1 d.2 (gM I n l d.1) (gM I p m d.2) c.prog c.w c.xe _ f
  .cases e
 |NotEq=>
  unfold eP at e;dsimp only at e;split at e
  .rename_i d
   cases e;simp only[Yv]at d;exact uJ I (b:=7) (by omega) d.1 d.2 (gM I n l d.1) (gM I p m d.2) c.prog c.w c.xe _ f
  .cases e
 |Lt=>obtain⟨i,j,rfl,rfl⟩:=mx e (by simp);cases e;exact a (Dp λ_ _ _ _ _ _ _ q=>lt_int q) rfl rfl rfl
 |LtE=>obtain⟨i,j,rfl,rfl⟩:=mx e (by simp);cases e;exact a (Dp λ_ _ _ _ _ _ _ q=>le_int q) rfl rfl rfl
 |Gt=>obtain⟨i,j,rfl,rfl⟩:=mx e (by simp);cases e;exact a (Dp λ_ _ _ _ _ _ _ q=>gt_int q) rfl rfl rfl
 |GtE=>obtain⟨i,j,rfl,rfl⟩:=mx e (by simp);cases e;exact a (Dp λ_ _ _ _ _ _ _ q=>ge_int q) rfl rfl rfl
 |In=>
  have e:inD r t=.ok k:=e;exact(Gk J I l m n p e).1 q
 |NotIn=>
  have e:(do let b ←inD r t;Out.ok (!b))=.ok k:=e
  obtain⟨b,B,C⟩:=nq e;cases C;exact(Gk J I l m n p B).2 q
 |Is=>
  have e:isD r t=.ok k:=e;obtain⟨z,G⟩:=Gj n p l m e;exact wpAny_is_plain z (by rw[G];exact f)
 |IsNot=>
  have e:(do let b ←isD r t;Out.ok (!b))=.ok k:=e
  obtain⟨b,B,C⟩:=nq e;cases C;obtain⟨z,G⟩:=Gj n p l m B;exact wpAny_isNot_plain z (by rw[G];exact f)
theorem HI(f:Now o e l w)(g:Now o e Y P1)(b:∀a,o a->e a≠none)(h:(do let r ←eP Y3 l Y;Out.ok (false,D.bl r))=.ok (A2,E8))(k:∀v c d,fK o e d c->fo E A2 d e c E8 v->ξ v c):Ap Y3 w P1 e ξ:=by
 obtain⟨r,i,j⟩:=nq h;cases j;exact⟨o,l,Y,r,f,g,i,k _ e o (fK.refl b) (.rep (gZ rfl))⟩
variable{C3 k7:TT}
theorem PT.imp(h:PT c j C3)(i:∀a H Q,k7 a H Q->C3 a H Q):PT c j k7:=λpins s a H Q I q=>h _ s a H Q I (i a H Q q)
theorem PW.imp(h:PW c j C3)(i:∀a H Q,k7 a H Q->C3 a H Q):PW c j k7:=λb pins s a H Q I q=>h b _ s a H Q I (i a H Q q)
theorem HJ(n:Now o e l w)(h:lX l=some E):rU G w e E:=by
 cases l with
 |non=>cases gy n;cases h;rfl
 |bl b=>cases jm n;cases h;rfl
 |int b=>cases bE n;cases h;rfl
 |str b=>
  cases dH n;simp only[lX]at h;split at h
  .rename_i i
   cases h;refine⟨bI i,?_⟩
   grind
  .cases h
 |lst g=>
  obtain⟨a,c,rfl,d,f⟩:=dI n;cases h;refine .inl ⟨c,nr d,?_⟩;have:=f.length
  grind
 |tup g=>
  obtain⟨a,c,rfl,_,d,f⟩:=gz n;cases h;refine .inr (.inl ⟨c,vZ d,?_⟩);have:=f.length
  grind
 |dct j g=>cases h
 |ref k=>cases h
def Aq(Z:b'->Prop)(H:Hp):List D->List V->Prop
 |[],a=>a=[]
 |d::b,a=>∃v r,a=v::r/\Now Z H d v/\Aq Z H b r
theorem Aq.one(h:Aq o e [l] R):∃x,R=[x]/\Now o e l x:=by
 refine aF h λv r a b c=>⟨v,by rw[a,c],b⟩
def Args(c)(Z:b'->Prop)(H)(a:List D)(b:List V):=if c=true then Aq Z H a b else bp Z H a b
variable{O:List x'}{y3:TA}
theorem PA.imp{t'}(h:PA c O y3)(i:∀a H Q,t' a H Q->y3 a H Q):PA c O t':=λb pins s a H Q I q=>h _ _ s a H Q I (i a H Q q)
theorem Ar(h:bp o e p R)(a:mu p U=some l):∃v,mu R U=some v/\Rep o e l v:=by
 unfold mu at a ⊢;rw[h.length];cases q:Ga _ U with
 |none=>simp_all
 |some j=>
  rw[q]at a;exact h.get a
theorem HK(g:Now o e l w)(h:Now o e Y P1)(d:∀a,o a->e a≠none)(c:uE l Y=.ok (A2,E8))(k:∀v i r,fK o e r i->fo E A2 r e i E8 v->ξ v i):Vq G w P1 e ξ:=by
 unfold uE at c;split at c
 .obtain⟨b,j,rfl,m,n⟩:=dI g
  cases bE h;split at c
  .rename_i s f
   cases c;obtain⟨v,p,q⟩:=Ar n f;exact .inl ⟨b,j,_,v,rfl,rfl,nr m,p,k v e o (fK.refl d) (.rep q)⟩
  .cases c
 .obtain⟨b,j,rfl,_,m,n⟩:=gz g
  cases bE h;split at c
  .rename_i s f
   cases c;obtain⟨v,p,q⟩:=Ar n f;exact .inr (.inl ⟨b,j,_,v,rfl,rfl,vZ m,p,k v e o (fK.refl d) (.rep q)⟩)
  .cases c
 .cases dH g
  cases bE h;split at c
  .rename_i t
   split at c
   .rename_i u f
    cases c;exact .inr (.inr ⟨_,_,u,rfl,rfl,bI t,f,k _ e o (fK.refl d) (.rep (gZ rfl))⟩)
   .cases c
  .cases c
 .cases c
theorem As(xs:List y4)(a b):(et xs a b).length<=xs.length:=by
 unfold et;rw[Zq,aao];omega
theorem wa(n d:Nat)(v):max 0 (min (if v<0 then v+(n:Int)else v) n)=((HT.jP n d (some v))):=by
 show max 0 _=(((if v<0 then (v+(n)).toNat else min _ n):Nat):Int)
 grind
variable{S0:Int}{s:Nat}
theorem Au(a:U=b)(c:S0=s):sliceRange U S0 1=(Yd (s - b)).map λk=>b+k:=by
 subst a c;unfold sliceRange
 grind
theorem ny(a b n):ϐ a b 1 n=(Yd (HT.jP n n b - HT.jP n 0 a)).map λk=>HT.jP n 0 a+k:=by
 refine Au ?_ ?_
 .cases a with
  |none=>rfl
  |some v=>exact wa n 0 v
 .cases b with
  |none=>rfl
  |some v=>exact wa n n v
theorem yw:∀n a (l:List Nat),a+n<=l.length->((Yd n).map λk=>a+k).filterMap (λi=>l[i]?)=(l.drop a).take n:=by
 intro n
 induction n with
 |zero=>intro a l _;simp
 |succ n c=>
  intro a l h;have b:a+n<l.length:=by omega
  rw[List.range_succ,YX,List.filterMap_append,c a l (YN b),List.take_add_one,List.getElem?_drop];simp[YW b]
theorem Av(x:Str)(b a):(ϐ b a 1 x.length).filterMap (x.cps[·]?)=et x.cps.toList b a:=by
 have c:x.cps.toList.length=x.length:=by rfl
 have e:=HT.zM x.length _ (XZ _) a;rw[ny];unfold et;rw[c];generalize HT.jP _ 0 b=p at *;generalize HT.jP _ _ a=q at *
 by_cases d:p<=q
 .have:=yw (q - p) p _ (by rw[c];omega)
  simp_all
 grind
def Lz:V->Option Int->Option Int->Hp->VK->Prop:=λx a b H Q=>∃z,x=.str z/\z.length<=XX/\Q (.str ⟨(et z.cps.toList a b).toArray⟩) H
theorem nB:Hx c Lz:=by
 intro pins s L H x v M N a b O Q I k m n r h;obtain⟨z,rfl,y,q⟩:=h;obtain⟨t,rfl⟩:=k;refine⟨"str",_,F.slot_str_getitem.lookup,ŧ _ _ _,?_⟩
 have part:∀{w:f'}{o:Option Int},ħ w o->∃p:Option (Int×YD),w=partValue p/\p.map (·.1)=o:=λh=>by
  cases h with
  |none=>exact⟨none,rfl,rfl⟩
  |int i t=>exact⟨some (i,t),rfl,rfl⟩
 obtain⟨e,A,m1⟩:=part n;obtain⟨f,B,m2⟩:=part r;subst A B;refine wpAny_getItem_str_slice (l:=e) (u:=f) (st:=none) m rfl ?_
 have C:(ĺ z e f none).filterMap (z.cps[·]?)=et z.cps.toList a b:=by
  unfold ĺ;rw[m1,m2];exact Av z a b
 have D:(et z.cps.toList a b).length<=z.length:=by
  have:=As z.cps.toList a b;simpa[Ļ]using this
 unfold sliceMade;split
 .rename_i j
  have d:(ĺ z e f none).length=z.length:=by
   simp only[Yv,beq_iff_eq]at j;exact j.2
  have E:(⟨(et z.cps.toList a b).toArray⟩:Str)=z:=by
   unfold ĺ at d;rw[m1,m2]at d;have d:(ϐ a b 1 z.length).length=z.length:=d;rw[ny,Yj,List.length_range]at d;have P:=HT.zM z.length z.length (XZ _) b;have g:z.cps.toList.length=z.length:=by simp[Ļ]
   have G:et z.cps.toList a b=z.cps.toList:=by
    unfold et;rw[g]
    by_cases J:z.length=0
    .have:z.cps.toList=[]:=List.eq_nil_of_length_eq_zero (by rw[g];exact J)
     rw[this];simp
    .have K:HT.jP z.length 0 a=0:=by omega
     rw[K,aaE,Ċ (by rw[g];omega)]
   rw[G]
  refine⟨.str z,H,I,⟨t,rfl⟩,?_⟩;rw[E]at q;exact q
 .rw[C]
  refine⟨?_,.str _,H,I.tok _,⟨_,rfl⟩,q⟩
  show(et z.cps.toList a b).toArray.size<=XX
  rw[YJ];exact B' D y
def LA(K):=λx a b H Q=>Lc K x a b H Q\/Lz x a b H Q
noncomputable def qN(F:List D->Out Rs):Sp:=λg H Q _=>
 ∃Z e b d,(∀a,Z a->H a≠none)/\bp Z H e g/\F e=.ok (b,d)/\∀v c f,fK Z H f c->fo false b f H c d v->Q v c
theorem fo.weak(h:fo false A2 o e π l w):fo E A2 o e π l w:=by
 unfold fo at h ⊢;split
 .simp_all
 .rename_i a;rw[if_neg a]at h
  split
  .exact h.now
  .exact h
structure LB(X:Cx)(k:Nat)(x:Str)(F:List D->Out Rs):Prop where
 ex:∃(f:b') (fd:Yb) (ps:List Str),X.mg x=some (.ref f)/\Yp X.K (.ref f)=true/\Binds X.K fd ps []/\bJ X.prog X.w X.K X.mg X.base eL k f fd ps (qN F)
inductive fx (h:F'):f'->Bool->Prop where
 |non:fx h .none false
 |bl (b:Bool):fx h (.bool b) b
 |int (i:Int) (t:YD):fx h (.int i t) (i != 0)
 |str (x:Str) (t:YD):x.length<=XX->fx h (.str x t) ((x.length:Int) != 0)
 |lst {l:b'}{its:Array f'}:h.IsList l its->its.size<=XX->fx h (.ref l) (!its.isEmpty)
 |tup {l:b'}{its:Array f'}:Ô h l its->its.size<=XX->fx h (.ref l) (!its.isEmpty)
variable{B Y4:F'}
theorem fx.keep(k:∀b o,(N=.ref b)->B.get? b=some o->Y4.get? b=some o)(x:fx B N E):fx Y4 N E:=by
 cases x with
 |non=>exact .non
 |bl=>exact .bl _
 |int i E=>exact .int i E
 |str x E z=>exact .str x E z
 |lst q z=>obtain⟨o,a,c⟩:=q;exact .lst ⟨o,k _ o rfl a,c⟩ z
 |tup q z=>obtain⟨o,a,c⟩:=q;exact .tup ⟨o,k _ o rfl a,c⟩ z
variable{M8:Bool->g'->Prop}{S:f'->g'->Prop}{v:Yc}{x:X_}
theorem fx.run{s}(a:fx s.heap N E)(q:∀b,M8 E {s with toks:=b}):p9 (j' v x) L (ė N) M8 S s:=by
 have c:=jh;cases a with
 |non=>exact ϸ (q _)
 |bl=>exact ZV (q _)
 |int i E=>exact Ϲ (q _)
 |str a E z=>exact Ϻ (by omega) (q _)
 |lst h z=>exact ϻ h (by omega) (q _)
 |tup h z=>exact truthy_tuple h (by omega) (q _)
theorem Aw(I:Inv c z u0 e m)(n:Now o e l w)(r:RelV w N)(h:lX l=some E):fx m.heap N E:=by
 cases l with
 |non=>cases gy n;cases r;cases h;exact .non
 |bl b=>cases jm n;cases r;cases h;exact .bl _
 |int b=>cases bE n;obtain⟨k,rfl⟩:=r;cases h;exact .int _ _
 |str b=>
  cases dH n;obtain⟨k,rfl⟩:=r;simp only[lX]at h;split at h
  .rename_i s
   cases h
   have d:((b.length:Int) != 0)=(b.length != 0):=by
    grind
   rw[←d];exact .str b k (bI s)
  .cases h
 |lst i=>
  obtain⟨a,t,rfl,j,q⟩:=dI n;cases r;cases h;obtain⟨f,g,p,u⟩:=I.list (nr j)
  have d:(!i.isEmpty)=!f.toArray.isEmpty:=by
   have x:=q.length;have y:=g.length
   grind
  rw[d];exact .lst p.isList (by rwa[YJ,←g.length])
 |tup i=>
  obtain⟨a,t,rfl,_,j,q⟩:=gz n;cases r;cases h;obtain⟨f,g,p,u⟩:=I.tuple (vZ j)
  have d:(!i.isEmpty)=!f.toArray.isEmpty:=by
   have x:=q.length;have y:=g.length
   grind
  rw[d];exact .tup p (by rwa[YJ,←g.length])
 |dct A i=>cases h
 |ref k=>cases h
variable{E4:ø->g'->Prop}{r x0:List b'}{v9:Nat->f'->Prop}
theorem Ax{T}(W:ļ v x L.in1 h r x0 b v9 T)(n)(G:F'->Prop)(C:∀c f,G c->(∀a o,a∉x0->c.get? a=some o->f.get? a=some o)->G f)(D:∀i d c,v9 i d->G c->fx c d (n i)):∀m i s,b - i=m->i<=b->T i s.heap->G s.heap ->
  (∀f k,(∀a o,a∉x0->s.heap.get? a=some o->f.get? a=some o)->E4 (.ok (.ret (.bool (((Yd b).drop i).all n)))) {s with heap:=f,toks:=k}) ->
  YB (j' v x) L (.builtin "all.loop" ⟨[.ref h],[]⟩) E4 s:=by
 intro m
 induction m with
 |zero=>
  intro i s E H p g j;obtain rfl:i=b:=by omega
  refine ZE aa8 ?_;refine nc (W.done s _ _ p λf k l=>nc (Zj (T' ?_)))
  have q:=j f k l;rw[aa9 (by simp)]at q
  exact q
 |succ m I=>
  intro i s E H p g j;have t:i<b:=by omega
  have N:(Yd b).drop i=i::(Yd b).drop (i+1):=by
   rw[Î (by simpa using t)];simp
  refine ZE aa8 ?_;refine nc (W.item i s _ _ t p λd f k J u l=>?_)
  have A:G f:=C _ _ g l;refine nc (ZF ((D i d f J A).run λK=>?_))
  refine nc (Ű ?_);cases e:n i with
  |true=>
   refine T' ⟨ZG aa' _,I (i+1) _ (by omega) t u A λM w y=>?_⟩
   have q:=j M w λa o B z=>y a o B (l a o B z)
   simp_all
  |false=>
   refine nc (Zj (T' ?_))
   simp_all
theorem Ay{T}(W:ļ v x L.in1 h r x0 b v9 T)(n)(G:F'->Prop)(C:∀c f,G c->(∀a o,a∉x0->c.get? a=some o->f.get? a=some o)->G f)(D:∀i d c,v9 i d->G c->fx c d (n i)):∀m i s,b - i=m->i<=b->T i s.heap->G s.heap ->
  (∀f k,(∀a o,a∉x0->s.heap.get? a=some o->f.get? a=some o)->E4 (.ok (.ret (.bool (((Yd b).drop i).any n)))) {s with heap:=f,toks:=k}) ->
  YB (j' v x) L (.builtin "any.loop" ⟨[.ref h],[]⟩) E4 s:=by
 intro m
 induction m with
 |zero=>
  intro i s E H p g j;obtain rfl:i=b:=by omega
  refine ZE aba ?_;refine nc (W.done s _ _ p λf k l=>nc (Zj (T' ?_)))
  have q:=j f k l;rw[aa9 (by simp)]at q
  exact q
 |succ m I=>
  intro i s E H p g j;have t:i<b:=by omega
  have N:(Yd b).drop i=i::(Yd b).drop (i+1):=by
   rw[Î (by simpa using t)];simp
  refine ZE aba ?_;refine nc (W.item i s _ _ t p λd f k J u l=>?_)
  have A:G f:=C _ _ g l;refine nc (ZF ((D i d f J A).run λK=>?_))
  refine nc (Ű ?_);cases e:n i with
  |false=>
   refine T' ⟨ZG abb _,I (i+1) _ (by omega) t u A λM w y=>?_⟩
   have q:=j M w λa o B z=>y a o B (l a o B z)
   simp_all
  |true=>
   refine nc (Zj (T' ?_))
   simp_all
theorem qO:∀{a}{bs},fY a=some bs->bs.length=a.length
 |[],_,h=>by cases h;rfl
 |d::a,bs,h=>by
  simp only[fY]at h;split at h
  .rename_i b c f e
   cases h;rw[Y',Y',qO e]
  .cases h
theorem wb:∀{a}{bs}{i:Nat}{d},fY a=some bs->a[i]?=some d->∃b,bs[i]?=some b/\lX d=some b
 |[],_,_,_,_,h=>by simp at h
 |d::a,bs,i,j,h,e=>by
  simp only[fY]at h;split at h
  .rename_i b f k g
   cases h;cases i with
   |zero=>simp_all
   |succ i=>
    obtain⟨c,l,m⟩:=wb g (by simpa using e)
    simp_all
  .cases h
theorem all_range:∀(bs:List Bool),((Yd bs.length).all λi=>(bs[i]?).getD true)=bs.all id
 |[]=>rfl
 |b::bs=>by
  rw[Y',ύ,ZO,List.all_map,ZO,←all_range bs];rfl
theorem any_range:∀(bs:List Bool),((Yd bs.length).any λi=>(bs[i]?).getD false)=bs.any id
 |[]=>rfl
 |b::bs=>by
  rw[Y',ύ,Ï,abd,Ï,←any_range bs];rfl
def QX(K:K'):List V->Hp->VK->Prop:=λb H Q=>∃Z a bs x,b=[x]/\Now Z H (.lst a) x/\fY a=some bs/\Q (.bl (bs.all id)) H
def QY(K:K'):List V->Hp->VK->Prop:=λb H Q=>∃Z a bs x,b=[x]/\Now Z H (.lst a) x/\fY a=some bs/\Q (.bl (bs.any id)) H
variable{B9:List Bool}
theorem Az(I:Inv c z u0 e m)(a:bp o e p R)(d:Vals R Δ)(j:fY p=some B9)(dflt):
  ∀(i:Nat) v,Δ.toArray[i]?=some v->fx m.heap v ((B9[i]?).getD dflt):=by
 intro i v k;obtain⟨l,n⟩:=Yn.mp (by simpa using k)
 obtain⟨x,q,f⟩:=qM d l;have u:=a.length;have w:=d.length;have g:p[i]?=some p[i]:=by simp
 obtain⟨y,h,r⟩:=a.get g;rw[q]at h;cases h
 obtain⟨b,s,t⟩:=wb j g;rw[s];rw[n]at f;exact Aw I r.now f t
theorem AA(w:c.calm=true):fb c (.builtin "all") (QX c.K):=by
 intro pins s G H J L Q I r h;refine bj h λZ M bs x a y d=>xa d λk q=>?_;subst a
 obtain⟨u,rfl,B⟩:=vals1 r;obtain⟨l,N,rfl,C,m⟩:=dI y;cases B;refine bx (I.list (nr C)) λf n p O=>?_
 refine abe PySem.F.kind_all PySem.F.plain_all PySem.F.entry_all (PySem.F.args_all1 _) ?_;refine nc (T' (nc (Į p.isList ?_)))
 refine T' ⟨ZG aa' _,Ax (abf (A:=c.A.in1) (I.ok.hd w) _ l (N' (by obtain⟨_,e,_⟩:=p.isList;exact O' e)) _) _
  (λh=>∀b o,b≠s.heap.objs.size->s.heap.get? b=some o->h.get? b=some o) (λh D g j b o t e=>j b o (by simp_all) (g b o t e))
  (λi v h E g=>((Az I m n k true) i v E).keep λb o e z=>g b o (N' (O' z)) z) _ 0 _ rfl (Yh _) ⟨⟨_,Yu _ rfl,rfl,rfl⟩,p.isList.push _⟩ (λb o t e=>X' _ e) λD P j=>?_⟩
 have e:((Yd f.toArray.size).drop 0).all (λi=>(bs[i]?).getD true)=bs.all id:=by
  rw[YJ,←n.length,m.length,←qO k];exact all_range bs
 rw[e]
 exact⟨.bl _,H,I.kept λb o z=>j b o (by
  have:=N' (O' z)
  simp_all) (X' _ z),rfl,q⟩
theorem AB(w:c.calm=true):fb c (.builtin "any") (QY c.K):=by
 intro pins s G H J L Q I r h;refine bj h λZ M bs x a y d=>xa d λk q=>?_;subst a
 obtain⟨u,rfl,B⟩:=vals1 r;obtain⟨l,N,rfl,C,m⟩:=dI y;cases B;refine bx (I.list (nr C)) λf n p O=>?_
 refine abe PySem.F.kind_any PySem.F.plain_any PySem.F.entry_any (PySem.F.args_any1 _) ?_;refine nc (T' (nc (Į p.isList ?_)))
 refine T' ⟨ZG abb _,Ay (abf (A:=c.A.in1) (I.ok.hd w) _ l (N' (by obtain⟨_,e,_⟩:=p.isList;exact O' e)) _) _
  (λh=>∀b o,b≠s.heap.objs.size->s.heap.get? b=some o->h.get? b=some o) (λh D g j b o t e=>j b o (by simp_all) (g b o t e))
  (λi v h E g=>((Az I m n k false) i v E).keep λb o e z=>g b o (N' (O' z)) z) _ 0 _ rfl (Yh _) ⟨⟨_,Yu _ rfl,rfl,rfl⟩,p.isList.push _⟩ (λb o t e=>X' _ e) λD P j=>?_⟩
 have e:((Yd f.toArray.size).drop 0).any (λi=>(bs[i]?).getD false)=bs.any id:=by
  rw[YJ,←n.length,m.length,←qO k];exact any_range bs
 rw[e]
 exact⟨.bl _,H,I.kept λb o z=>j b o (by
  have:=N' (O' z)
  simp_all) (X' _ z),rfl,q⟩
noncomputable def mw.nm:mw->Str
 |.len=>"len" |.all=>"all" |.any=>"any" |.sorted=>"sorted" |.list=>"list" |.tuple=>"tuple" |.int=>"int" |.min=>"min" |.max=>"max" |.bool=>"bool"
def kP(b:∀a,o a->e a≠none)(k:∀w c d,fK o e d c->fo E false d e c l w->ξ w c)(h:iW l=some w):=
 k _ e o (fK.refl b) (.rep (gZ h))
noncomputable def Ty.nm:Ty->Str
 |.int=>"int" |.str=>"str" |.bool=>"bool" |.list=>"list" |.tuple=>"tuple" |.dict=>"dict"
noncomputable def Ty.id:Ty->String
 |.int=>"int" |.str=>"str" |.bool=>"bool" |.list=>"list" |.tuple=>"tuple" |.dict=>"dict"
theorem wc(K)(t:Ty):ZW K (.type "NoneType") (.type t.id)=some false/\ZW K (.type "bool") (.type t.id)=some (t==.bool||t==.int)/\ZW K (.type "int") (.type t.id)=some (t==.int) /\
  ZW K (.type "str") (.type t.id)=some (t==.str)/\ZW K (.type "list") (.type t.id)=some (t==.list)/\ZW K (.type "tuple") (.type t.id)=some (t==.tuple)/\ZW K (.type "dict") (.type t.id)=some (t==.dict):=by
 cases t<;>refine⟨?_,?_,?_,?_,?_,?_,?_⟩<;>with_unfolding_all rfl
def LC(K:K'):List V->Hp->VK->Prop:=λa H Q=>∃Z d x t b,a=[x,.ty (Ty.id t)]/\Now Z H d x/\Am d t=some b/\Q (.bl b) H
theorem lJ{K:K'}(I:Inv c z u0 e m)(a:Rd e h (.tup R)):∃o,m.heap.get? h=some o/\o.cls=.type "tuple":=by
 obtain⟨_,b,_,o,d,f,_⟩:R.length<=XX/\∃b:List _,Vals R _/\Ô _ h _:=Rd.ok a I.hok
 simp_all
theorem AD:fb c (.builtin "isinstance") (LC c.K):=by
 intro pins s B H M N Q I r h;obtain⟨Z,d,x,t,b,rfl,l,i,q⟩:=h;obtain⟨u,O,rfl,j,C⟩:=vals2 r;cases (C);refine dU (wc c.K t) λD E F G n m=>xa m λJ L=>?_
 have f:∀p,EP c _ B Q _ _:=λp=>⟨.bl b,H,I.tok p,rfl,q⟩
 cases d with
 |non=>cases gy l;cases i;exact df I j .non D f
 |bl e=>cases jm l;cases i;exact df I j (.bl e) E f
 |int e=>cases bE l;cases i;exact df I j (.int e) F f
 |str e=>cases dH l;cases i;exact df I j (.str e) G f
 |lst w=>
  obtain⟨a,y,rfl,g,A⟩:=dI l;cases i;rcases g with g|⟨o,g⟩
  .exact df I j (.lst g) n f
  .exact df I j (.eo g) n f
 |tup w=>
  obtain⟨a,y,rfl,_,g,A⟩:=gz l;cases i;cases j;exact Zd ş I.eY (lJ (K:=c.K) I g) J (λz=>nomatch z) f
 |dct P w=>
  obtain⟨a,y,rfl,_,g,A⟩:=l;cases i;exact df I j (.dK g) L f
 |ref k=>cases i
abbrev wd(a:List x')(env):=forIn a true λc r=>if r=true then do let ok ←ò c env (eval c env);pure (Ľ ok)else pure (Ľ r)
variable{A1 Q:x'}{A4:Yg}{Z:XY}{n:V'}
theorem yx(J:Nat->g'->Prop)(e:∀a m,J a m->p9 (j' v x) L (Å N) (λr f=>match r with
   |none=>E4 (.ok .next) f
   |some c=>p9 (j' v x) L (ō Q N c) (λ_ i=>p9 (j' v x) L (Ė Q A4 c) (λ_ k=>p9 (j' v x) L (wd O A4) (λok g=>
      if ok=true then p9 (j' v x) L (eval j A4) (λd l=>p9 (j' v x) L (call (.builtin "list.append") [M2,d]) (λ_ o=>∃b,b<a/\J b o) (λ_ _=>False) l) (λ_ _=>False) g
      else ∃b,b<a/\J b g) (λ_ _=>False) k) (λ_ _=>False) i) (λ_ _=>False) f) (λ_ _=>False) m)(a)(h:J a m):YB (j' v x) L (.compLoop (.ListComp j [⟨Q,A1,O,0⟩] Z n) 0 N M2 A4) E4 m:=by
 refine codeAny_loop rfl J (λa m q=>?_) a h
 refine wpAny_noted ?_;rw[compTurn_list];refine nc (Ķ (nc (Yx (e a m q) (λr f p=>?_) (by grind))))
 cases r with
 |none=>exact T' p
 |some c=>
  refine nc (Yx p (λ_ i s=>nc (Yx s (λ_ k t=>nc (Yx t (λok g u=>?_) (by grind))) (by grind))) (by grind))
  cases ok with
  |false=>exact T' ⟨rfl,by simp_all⟩
  |true=>
   refine nc (nc (Yx u (λd l w=>nc (Yx w (λ_ o y=>T' (T' ⟨rfl,y⟩)) (by grind))) (by grind)))
theorem uK(h:∀y∈Z.names,y.2=.free->∃c,A4.cells.lookup y.1=some c):
  ∃d,closureFor Z A4=pure d/\(∀n c,(n,c)∈d->A4.cells.lookup n=some c)/\∀y∈Z.names,y.2=.free->∃c,(y.1,c)∈d:=by
 have g:∀(l:List _) (b:List _),(∀y∈l,y.2=.free->∃c,A4.cells.lookup y.1=some c)->(∀n c,(n,c)∈b->A4.cells.lookup n=some c) ->
   ∃d,(forIn l b λx r=>match x with | (name,kind)=>if (kind==ċ)=true then do let a ←ϑ A4 name;pure (Ľ ((name,a)::r))else pure (Ľ r))=pure d /\
    (∀n c,(n,c)∈d->A4.cells.lookup n=some c)/\(∀p∈b,p∈d)/\∀y∈l,y.2=.free->∃c,(y.1,c)∈d:=by
  intro l
  induction l with
  |nil=>intro b _ i;exact⟨_,rfl,i,by simp,by simp⟩
  |cons y l o=>
   intro b j i;obtain⟨n,k⟩:=y;cases w:(k==ċ)with
   |false=>
    refine dQ (o _ (λz f=>j z (by simp[f])) i) λd e m s q=>?_
    grind
   |true=>
    obtain⟨c,t⟩:=j (n,k) (by simp) (by simp_all)
    refine dQ (o ((n,c)::b) (λz f=>j z (by simp[f])) (λA B C=>by
     grind)) λd e m s q=>?_
    refine⟨d,?_,m,by simp_all,λz f u=>?_⟩
    .have:ϑ A4 n=pure c:=by
      unfold ϑ;rw[t]
     simp_all
    grind
 refine dQ (g _ [] h (λ_ _ z=>absurd z (by simp))) λd e m _ q=>?_
 unfold closureFor
 grind
noncomputable def blk(X:Cx)(scope)(a:List (Str×b'))(C)(N:List Str)(s₀ H₀)(fp:List b'):=
 {X with N:=N,s₀:=s₀,H₀:=H₀,env:=compEnvC scope a C X.env,outer:=X.stack,stack:=X.stack,ex:=fp,fn:=λ_=>false,pn:=[],xe:=λ_ _=>False}
theorem lookup_mem{a b:Type}[BEq a][LawfulBEq a]:∀{l:List (a×b)}{x}{v},l.lookup x=some v->(x,v)∈l
 |[],_,_,h=>by simp at h
 | (n,k)::r,x,v,h=>by
  rw[ľ]at h;cases e:x==n with
  |true=>simp_all
  |false=>rw[e]at h;exact ð _ (lookup_mem h)
theorem mem_lookup{a b:Type}[BEq a][LawfulBEq a]:∀{l:List (a×b)}{x}{v},(x,v)∈l->∃u,l.lookup x=some u
 |[],_,_,h=>by simp at h
 | (n,k)::r,x,v,h=>by
  rw[ľ];cases e:x==n with
  |true=>simp
  |false=>
   rcases Yo.mp h with q|q
   .simp_all
   .exact mem_lookup q
theorem fy{env:Yg}:∀(names:List (Str×ü)) x,(names.map λ(n,k)=>if (k==ċ&&env.scope.kind==.function&&env.kindOf n==some .cell)then (n,abg)else (n,k)).lookup x =
  (names.lookup x).map λk=>if (k==ċ&&env.scope.kind==.function&&env.kindOf x==some .cell)then abg else k
 |[],_=>rfl
 | (n,k)::r,x=>by
  have a:=fy (env:=env) r x
  grind
structure lK(X:Cx)(scope:XY)(tn cn:List Str)(cap:List Nat):Prop where
 kind:scope.kind=.function
 cell:∀y∈scope.names,y.2≠.cell
 names:∀y∈scope.names,y.2=.local->scope.names.lookup y.1=some .local
 free:∀y∈scope.names,y.2=.free->X.env.kindOf y.1=some .cell\/X.env.kindOf y.1=some .free
 len:cn.length=cap.length
 at':∀(j i:Nat) (x:Str),cn[j]?=some x->cap[j]?=some i->X.N[i]?=some x/\scope.names.lookup x=some .free
noncomputable def sG(a:List Nat)(b:L2.St):L2.St:=a.map λi=>(b[i]?).join
def gN(b:Nat)(a:List Nat)(c:L2.St):L2.St:=þ b none++sG a c
variable{I:List Nat}{g ο:List Str}{θ:Str->Option f'}
theorem yy{pins s J}(j:lK c Z g ο I)(h:Inv c pins u0 e s)(N:∀d∈r,oG c pins e d)(Q:∀d∈r,∃o,s.heap.get? d=some o)(F:∀n a,(n,a)∈J->c.env.cells.lookup n=some a)(c2:∀y∈Z.names,y.2=.free->∃a,(y.1,a)∈J)(O:∀d o,s.heap.get? d=some o->B.get? d=some o)(C:∃n,B.get? s.heap.objs.size=some {cls:=.type "list",data:=.seq ([]).toArray n})(ns:B.Ns (s.heap.objs.size+1) θ):
  Inv (blk c Z J (s.heap.objs.size+1) (g++ο) s e r) [] (gN g.length I u0) (upd e s.heap.objs.size (.lst [])) {s with heap:=B,toks:=b}:=by
 have R:∀d o,s.heap.get? d=some o->d≠s.heap.objs.size:=λd o f=>N' (O' f)
 have cell:∀x a,J.lookup x=some a->∃v,s.heap.IsCell a v:=λx a f=>h.cell x a (F x a (lookup_mem f))
 have S:∀x a,J.lookup x=some a->a≠s.heap.objs.size+1/\a≠s.heap.objs.size:=λx a f=>by
  obtain⟨v,o,G,_⟩:=cell x a f;exact⟨(λd o f=>N' (Ĺ (O' f))) a o G,R a o G⟩
 have T:∀d∈r,d<s.heap.objs.size:=λd w=>xe (Q d w) λo f=>O' f
 have fr:=h.hok.fresh (XZ s.heap.objs.size);obtain⟨nd,C⟩:=C
 refine⟨⟨h.ok.mod,j.kind,h.ok.glob,h.ok.blt,Zg _,λx y a H m=>?_,λx t=>?_,λx a f _=>absurd (show false=true from f) ϒ,h.ok.hd,h.ok.frames,.inl rfl,λd w=>⟨?_,λx a f z=>?_⟩,λd o f=>h.bs d o f,B' h.ok.uf h.sz,λd o f w=>?_,λd w U=>?_,h.stack,h.jI⟩,
  rfl,h.bare,?_,⟨θ,ns,λi x v H m e3=>?_⟩,λx a f=>?_,?_,λx a f=>?_,λp hp=>absurd (show p∈([]:List (b'×Obj))from hp) (by simp),?_,?_⟩
 .exact h.ok.inj x y a (F x a (lookup_mem H)) (F y a (lookup_mem m))
 .have t:(ZP Z c.env).names.lookup x=some .cell\/(ZP Z c.env).names.lookup x=some .free:=t
  unfold ZP at t;simp only[fy]at t;cases q:Z.names.lookup x with
  |none=>rw[q]at t;simp at t
  |some k=>
   rw[q]at t;have hm:=lookup_mem q
   have D:k=.free:=by
    by_cases D:k=.free
    .exact D
    .have V:(k==ċ)=false:=by simpa using D
     rw[ë]at t;simp only[V,Bool.false_and,Ĳ,if_false,adg]at t;rcases t with z|z
     .exact absurd z (j.cell _ hm)
     .exact z
   obtain⟨a,X⟩:=c2 _ hm D;exact mem_lookup X
 .exact N' (Ĺ (T d w))
 .exact(N d w).2.2.2.2.1 x a (F x a (lookup_mem f)) z
 .rcases(N d w).2.2.2.1 with z|z
  .exact h.ok.oE d o f z
  .exact absurd (U' (O' (h.ok.bs d o f).1) z) (Yr _)
 .rcases Yo.mp (h.qh d U)with z|z
  .exact(N d w).2.1 z
  .exact(N d w).2.2.1 z
 .exact Un.laid O (XZ _) fr
 .have K:i<g.length->False:=λL=>by
   have:(gN g.length I u0)[i]?=some none:=by
    unfold gN;rw[YU (by simpa using L),Ţ,if_pos L]
   rw[this]at m;cases m
  have L:g.length<=i:=ì K;have H:(g++ο)[i]?=some x:=H;rw[ZZ L]at H
  have l:(sG I u0)[i - g.length]?=some (some v):=by
   unfold gN at m;rw[ZZ (by simpa using L)]at m
   simpa using m
  unfold sG at l;rw[YH]at l;cases q:I[i - g.length]? with
  |none=>rw[q]at l;cases l
  |some P=>
   rw[q]at l;have m:(u0[P]?).join=some v:=by simpa using l
   have e4:u0[P]?=some (some v):=by
    cases q2:u0[P]? with
    |none=>rw[q2]at m;cases m
    |some z=>simp_all
   obtain⟨hN,E⟩:=j.at' _ _ _ H q;have D:=j.free _ (lookup_mem E) rfl
   have M:rQ c.env.scope x:=by
    rcases D with z|z
    .exact .inr (.inl z)
    .exact .inr (.inr z)
   refine bc h.loc λm0 c0 Y=>?_
   obtain⟨u,ru,lk⟩:=Y P x v hN e4 M;refine⟨u,ru,.inr ⟨?_,?_⟩⟩
   .show(ZP Z c.env).names.lookup x=some .cell\/(ZP Z c.env).names.lookup x=some .free
    unfold ZP;simp only[fy,E,ë];split
    .exact .inl rfl
    .exact .inr rfl
   .have lk:∃a,c.env.cells.lookup x=some a/\s.heap.IsCell a (some u):=by
     rcases lk with ⟨z,_⟩|⟨_,z⟩
     .rcases D with y|y<;>rw[y]at z<;>cases z
     .exact z
    refine bc lk λa X a0=>?_
    obtain⟨c',b0⟩:=c2 _ (lookup_mem E) rfl;obtain⟨d0,A⟩:=mem_lookup b0;have:=F _ _ (lookup_mem A);rw[X]at this;cases this
    obtain⟨o,G,C⟩:=a0;exact⟨a,A,o,O _ _ G,C⟩
 .obtain⟨v,o,G,C⟩:=cell x a f
  exact⟨v,o,O _ _ G,C⟩
 .show upd e s.heap.objs.size (.lst []) (s.heap.objs.size+1)=none
  rw[aD (Nat.succ_ne_self _)];exact h.hok.fresh (Zg _)
 .refine⟨?_,λhz=>absurd (show false=true from hz) ϒ⟩
  rw[aD (S x a f).2];exact(h.dR x a (F x a (lookup_mem f))).1
 .refine h.hok.laid O (XZ _) ⟨Yh _,[],nd,.nil,C⟩
 .show(gN g.length I u0).length=(g++ο).length
  unfold gN sG;rw[Č,Č,List.length_replicate,Yj,j.len]
def DQ(X)(a:List x')(t:TT):=∀pins s (b:L2.St) H Q,Inv X pins b H s->t b H Q->p9 (j' X.prog X.w) X.A (wd a X.env) (TP X pins b Q) X.xe s
theorem DR:DQ c [] (λ_ H Q=>Q true H):=λpins s a H Q I h=>T' ⟨H,I,h⟩
theorem DS(h:PT c j C3):DQ c [j] C3:=λpins s a H Q I q=>wpAny_tests_one (h _ s a H Q I q)
def nE(o:TI)(p:Nat)(f:List Nat)(g:TG)(q:TT)(r:TE):TE:=λh H Q=>o h H λJ j=>∀D,j D=none->∃W:Nat->Nat->List V->Hp->Prop,(∃m,W 0 m [] (upd j D (.lst []))) /\
 ∀i m a c,W i m a c->c D=some (.lst a)/\((J.stop i c/\Q (.ref D) c)\/(J.go i c/\a.length<XX/\∀x k,J.NX i c x k->g x (gN p f h) k λd s=>q d s λb l=>
  if b=true then r d l λy n=>n D=some (.lst a)/\∃e,e<m/\W (i+1) e (a++[y]) (upd n D (.lst (a++[y])))else ∃e,e<m/\W (i+1) e a l))
variable{D5:TG}{J:V'}{o7:TI}
theorem pC{use}(hc:c.calm=true)(B:lK c Z g ο I)(hi:PI c j Q o7)(hs:∀x,ZU Q c.env x=pure x)(l0:∀v u0 e ξ,D5 v u0 e ξ->D5 v u0 e λR t=>ξ R t/\R.length=u0.length/\∀d,g.length<=d->R[d]?=u0[d]?)(l:∀E C F G fp,PG (blk c Z E C (g++ο) F G fp) j D5/\DQ (blk c Z E C (g++ο) F G fp) O C3/\PE (blk c Z E C (g++ο) F G fp) A1 υ)(n0:∀s' t C D U,Inv c z u0 t s'->s'.heap.Ns C U->t C=none->C≠c.env.locals->c.s₀.heap.objs.size<=C->(∀x f,c.env.cells.lookup x=some f->f≠C)->(∀p∈c.pn++z,p.1≠C)->ξ (.ref D) t ->
   compPost (j' c.prog c.w) c.A c.xe use S (.ref D) C (.ok .next) s')(H:Inv c z u0 e m)(h:nE o7 g.length I D5 C3 υ u0 e ξ):
  p9 (j' c.prog c.w) c.A (comprehension (.ListComp A1 [⟨j,Q,O,0⟩] Z n) Z c.env J (newList []) false (eval Q c.env) use) S c.xe m:=by
 have o0:∀y∈Z.names,y.2=.free->∃f,c.env.cells.lookup y.1=some f:=λy hy hk=>H.ok.has y.1 (B.free y hy hk)
 refine bx (uK o0) λE p0 c1 c2=>?_
 refine wpAny_comprehension_free (use:=use) rfl hs p0 B.kind B.names ?_;refine cp (hi z m u0 e _ H h) λv s1 V=>cp V λA0 s2 h2=>?_
 refine xe h2 λit X=>a_ X λfp Y q0 K a I2 T b0 f2 h=>?_
 subst a;have fr:=I2.hok.fresh (XZ s2.heap.objs.size);refine bc (h s2.heap.objs.size fr) λW r0 c0=>?_;obtain⟨m0,w0⟩:=r0
 refine ŵ (wpAny_newFunctionEnv B.cell (λy hy=>absurd hy (by simp)) (λV ns sb=>?_) B.kind)
 dsimp only at ns sb ⊢;rw[(aae _ _)]at ns sb ⊢;have kp:∀b o,s2.heap.get? b=some o->V.get? b=some o:=λb o a=>sb.extBut b o (N' (Ĺ (O' a))) (X' _ (X' _ a))
 have hD:∃k,V.get? s2.heap.objs.size=some {cls:=.type "list",data:=.seq ([]:List f').toArray k}:=⟨0,sb.extBut _ _ (N' (Ð _)) (X' _ (Yu _ rfl))⟩;have d0:∀b∈fp,∃o,s2.heap.get? b=some o:=λb l=>bc (T.obj 0 _ b0 b l) λo a _=>⟨o,a⟩
 have I4:Inv (blk c Z E (s2.heap.objs.size+1) (g++ο) s2 K fp) [] (gN g.length I u0) (upd K s2.heap.objs.size (.lst [])) {s2 with heap:=V,toks:=s2.toks+([]:List (Str×f')).length}:=
  yy B I2 f2 d0 c1 c2 kp hD ns
 refine oC (l E (s2.heap.objs.size+1) s2 K fp) λhg ht he=>?_
 have e0:Y 0 V:=T.keep 0 _ _ b0 λb l o a=>kp b o a
 have s0:∀b∈fp,upd K s2.heap.objs.size (.lst []) b=none:=λb l=>by
  obtain⟨o,a⟩:=d0 b l;rw[aD (N' (O' a))];exact(f2 b l).1
 have L:∀{t:Hp}{pl:List (b'×Obj)},(∀b∈fp,t b=none)->∀b∈fp,oG (blk c Z E (s2.heap.objs.size+1) (g++ο) s2 K fp) [] t b:=λhn b l=>
  ⟨hn b l,(I4.ok.Dk b l).1,I4.ok.oF b l,.inl l,(I4.ok.Dk b l).2,λp hp=>absurd (show p∈([]:List (b'×Obj))from hp) (by simp)⟩
 have P:YB (j' c.prog c.w) c.A (.compLoop (.ListComp A1 [⟨j,Q,O,0⟩] Z n) 0 (.ref it) (.ref s2.heap.objs.size) (compEnvC Z E (s2.heap.objs.size+1) c.env))
   (compPost (j' c.prog c.w) c.A c.xe use S (.ref s2.heap.objs.size) (s2.heap.objs.size+1)) {s2 with heap:=V,toks:=s2.toks+([]:List (Str×f')).length}:=by
  refine yx (λk s'=>∃i ys t,Inv (blk c Z E (s2.heap.objs.size+1) (g++ο) s2 K fp) [] (gN g.length I u0) t s'/\Y i s'.heap/\(∀b∈fp,t b=none)/\W i k ys t) ?_ m0 ⟨0,[],_,I4,e0,s0,w0⟩
  intro k s5 zr;refine dG zr λi ys H5 I5 g0 h0 w5=>?_;obtain⟨C0,t0⟩:=c0 i k ys H5 w5;rcases t0 with ⟨stop,qn⟩|⟨go,i0,step⟩
  .refine cp (T.done (blk c Z E (s2.heap.objs.size+1) (g++ο) s2 K fp) rfl rfl rfl hc i [] s5 _ H5 _ I5 (L (pl:=[]) h0) g0 stop) λr s6 M=>?_;obtain⟨hr,I6⟩:=M
   subst hr;refine bc I6.loc λmC nC _=>?_
   have I7:Inv c z u0 H5 s6:=by
    refine I2.call' I6.os I6.base I6.hok I6.bare λb l=>?_
    refine dU (f2 b l) λf0 f1 f3 f4 f5 f6=>?_
    exact⟨f4,f1,f5,f6⟩
   have hC:s2.heap.objs.size<=s2.heap.objs.size+1:=Zg _;refine n0 s6 H5 (s2.heap.objs.size+1) s2.heap.objs.size mC I7 nC I6.free (Ym (U' I2.lt hC)) (B' I2.sz hC) (λx f a s=>?_) (λp hp s=>?_) qn
   .obtain⟨v,q⟩:=I2.cell x f a
    exact absurd (U' q.lt (by rw[s];exact hC)) (Yr _)
   .exact absurd (U' (O' (I2.pin p hp).1) (by rw[s];exact hC)) (Yr _)
  .refine cp (T.item (blk c Z E (s2.heap.objs.size+1) (g++ο) s2 K fp) rfl rfl rfl hc i [] s5 _ H5 _ I5 (L (pl:=[]) h0) g0 go) λr s6 M=>?_;refine bc M λu hr h6=>?_
   subst hr;refine cp h6 λ_ s7  zf =>eK zf λx H7 I7 r7 y7 a0 v0=>?_
   have x0:=I7.pinned (L (pl:=[]) v0) (T.obj _ _ a0);refine cp (hg _ s7 _ H7 x u _ x0 r7 (l0 _ _ _ _ (step x H7 y7))) λ_ s8 M=>?_;refine a6 M λN H8 I8 q8 l8 k8=>?_
   refine cp (ht _ s8 N H8 _ I8 q8) λok s9 M=>?_;refine bc M λH9 I9 q9=>?_
   have õ:∀{sA:g'}{HA:Hp},Inv (blk c Z E (s2.heap.objs.size+1) (g++ο) s2 K fp) ([]++ql fp s7.heap) N HA sA->Inv (blk c Z E (s2.heap.objs.size+1) (g++ο) s2 K fp) [] (gN g.length I u0) HA sA/\Y (i+1) sA.heap/\∀b∈fp,HA b=none:=λ{sA HA} IA=>by
    refine⟨(IA.jL (z:=[])).weak l8.symm λd v hj=>?_,T.keep _ _ _ a0 λb l o a=>(IA.pin (b,o) (Zw _ (Zw _ (gw l a)))).1,λb l=>?_⟩
    .have y0:g.length<=d:=by
      refine ì λj0=>?_
      have:(gN g.length I u0)[d]?=some none:=by
       unfold gN;rw[YU (by simpa using j0),Ţ,if_pos j0]
      rw[this]at hj;cases hj
     rw[k8 d y0];exact hj
    .refine bc (T.obj _ _ a0 b l) λo a _=>?_
     exact(IA.pin (b,o) (Zw _ (Zw _ (gw l a)))).2.1
   cases ok with
   |false=>
    grind
   |true=>
    rw[if_pos rfl]at q9 ⊢;refine cp (he _ s9 N H9 _ I9 q9) λy sB M=>?_;refine a6 M λv HB IB rB z0 X=>bc X λm' hm w'=>?_
    have hx:=pk (c:=blk c Z E (s2.heap.objs.size+1) (g++ο) s2 K fp) _ sB N HB (.ref s2.heap.objs.size) [v] (.ref s2.heap.objs.size) [y] (λ_ t=>t=upd HB s2.heap.objs.size (.lst (ys++[v]))) IB rfl (.cons rB .nil)
     ⟨s2.heap.objs.size,ys,v,rfl,rfl,z0,i0,rfl⟩
    refine cp hx λ_ sC M=>?_;refine aF M λ_ HC IC _ eC=>?_
    subst eC;refine oC (õ IC) λa1 a2 a3=>?_
    exact⟨m',hm,i+1,ys++[v],_,a1,a2,a3,w'⟩
 exact codeAny_compStart_list P (T.self c.A 0 _ _ _ e0 P)
theorem we(w:c.calm=true)(B:lK c Z g ο I)(y:PI c j Q o7)(z:∀x,ZU Q c.env x=pure x)(r:∀v p H a,D5 v p H a->D5 v p H λk t=>a k t/\k.length=p.length/\∀d,g.length<=d->k[d]?=p[d]?)(A:∀u C f i fp,PG (blk c Z u C (g++ο) f i fp) j D5/\DQ (blk c Z u C (g++ο) f i fp) O C3/\PE (blk c Z u C (g++ο) f i fp) A1 υ):
  PE c (.ListComp A1 [⟨j,Q,O,0⟩] Z n) (nE o7 g.length I D5 C3 υ):=by
 intro pins s p H a l h;refine pC w B y z r A (λR t C D m E F G J K L M q=>⟨m,F,λS N=>⟨.ref D,t,E.turned (λb o P e=>N.extBut b o P e) G J (.inr K) L M,rfl,q⟩⟩) l h
variable{M0:V'}
theorem uL(K:c.N.Nodup)(x:c.N[b]?=some d)(G:c.env.scope.names.lookup d=some .local)(y:YR (.ListComp A1 [⟨j,Q,O,0⟩] Z n) (some (.Name d J)) M0.line c.env=pure true)(L:c.calm=true)(B:lK c Z g ο I)(M:PI c j Q o7)(P:∀d,ZU Q c.env d=pure d)(z:∀v u H i,D5 v u H i->D5 v u H λp A=>i p A/\p.length=u.length/\∀f,g.length<=f->p[f]?=u[f]?)(R:∀E C k l fp,PG (blk c Z E C (g++ο) k l fp) j D5/\DQ (blk c Z E C (g++ο) k l fp) O C3/\PE (blk c Z E C (g++ο) k l fp) A1 υ):
  PS c (.Assign [.Name d J] (.ListComp A1 [⟨j,Q,O,0⟩] Z n) M0) (Hh (nE o7 g.length I D5 C3 υ) (jK b)):=by
 intro pins s u H D r h;rw[exec_Assign_Name_used _ _ _ _ y];refine nc (Ķ (nc ?_));refine nc ?_;refine pC L B M P z R (λs' A C S m T U V X Y h4 h5 q=>?_) r h
 refine ϯ (oZ T K x (.inl G) (w:=.ref S) rfl (λs2 I2 ch=>?_) (.inr G))
 obtain⟨a,sb,ha⟩:=ch
 refine⟨m,U.sameBut sb (by
  grind),λh' F=>T' (T' ⟨_,A,I2.turned (λt o nb e=>F.extBut t o nb e) V X (.inr Y) h4 h5,q⟩)⟩
theorem PI.imp{t'}(h:PI c j Q o7)(i:∀a H R,t' a H R->o7 a H R):PI c j Q t':=λpins s a H R I q=>h _ s a H R I (i a H R q)
theorem jT:∀n a,(intsFrom a n).length=n
 |0,_=>rfl
 |n+1,a=>by rw[intsFrom,Y',jT n]
theorem ints_get:∀n a (i:Nat) d,(intsFrom a n)[i]?=some d->d=.int (a+i)
 |0,_,_,_,h=>by simp[intsFrom]at h
 |n+1,a,0,d,h=>by simp[intsFrom]at h;subst h;simp
 |n+1,a,i+1,d,h=>by
  rw[ints_get n _ i d h]
  grind
noncomputable def Vt(x:Str):It:=⟨λi _=>i<x.cps.size,λi H v a=>a=H/\∃c,x.cps[i]?=some c/\v=.str ⟨#[c]⟩,λi _=>x.cps.size<=i⟩
theorem AE(f a t y)(l:y="str_ascii_iterator"\/y="str_iterator"):Turn v x G j (Vt a) [f] f (λi h=>h.IsStrIter f y a t i) where
 mem:=by simp
 obj:=λi h g b m=>by
  refine bx g λo e c d=>?_
  simp_all
 keep:=λi h K g k=>bc (g) λo e r=>⟨o,k f (by simp) o e,r⟩
 item:=by
  intro X P R S n i pins s U H E I z g L;subst P R S;refine dU (z f (by simp)) λB C V D F J=>?_
  have W:ļ X.prog X.w X.A f [f] [f] a.cps.size (SignAt a) (λi h=>h.IsStrIter f y a t i):=by
   rcases l with rfl|rfl
   .exact Walks.strAscii (I.ok.hd n) f a t
   .exact Walks.strWide (I.ok.hd n) f a t
  refine W.item i s _ _ L g λM K tk Y p Z=>?_
  refine cE Y λc u hx N=>?_;subst N
  refine bx (id p) λo e q d=>?_
  refine⟨_,rfl,rT e q d (by rcases l with rfl|rfl<;>decide) ⟨.str ⟨_⟩,H,(I.turned (λb o m e=>Z b o (by simp_all) e) B C D F J),⟨u,rfl⟩,⟨rfl,c,hx,rfl⟩,p,λb m=>(z b m).1⟩⟩
 done:=by
  intro X P R S n i pins s U H E I z g L;refine dU (z f (by simp)) λB C V D F J=>?_
  have T:a.cps.size<=i:=L;rcases l with rfl|rfl
  .exact wpAny_pyNext_ascii_end (I.ok.hd n) g (by simp[T]) λK O=>⟨rfl,I.turned (λb o m e=>O b o m e) B C D F J⟩
  .exact wpAny_pyNext_wide_end (I.ok.hd n) g (by simp[T]) λK O=>⟨rfl,I.turned (λb o m e=>O b o m e) B C D F J⟩
 self:=λA i s Q E g h=>by
  rcases l with rfl|rfl
  .exact wpAny_pyIter_striter_ascii g h
  .exact wpAny_pyIter_striter_wide g h
theorem lL(n)(d:0<n):∀v b H Q,jK 0 v b H Q->jK 0 v b H λa c=>Q a c/\a.length=b.length/\∀j,n<=j->a[j]?=b[j]?:=λv b H Q h=>⟨h,by simp,by grind⟩
variable{X:D'}{m8 o6:TS}
theorem PS.imp(h:PS c X o6)(i:∀D a H,m8 D a H->o6 D a H):PS c X m8:=λpins s a H D I q=>h _ s a H D I (i D a H q)
variable{W1:List D'}
theorem iO.imp(h:iO c W1 o6)(i:∀D a H,m8 D a H->o6 D a H):iO c W1 m8:=λpins s a H D I q=>h _ s a H D I (i D a H q)
def gA:List Nat->FY
 |[]=>KO
 |i::a=>FZ (jK i) (gA a)
theorem pD{X}{nms:List (Str×V')}(b:X.N.Nodup):∀a (nms:List (Str×V')),a.length=nms.length->(∀(j i:Nat) x,a[j]?=some i->nms[j]?=some x->X.N[i]?=some x.1/\Loc X.env.scope x.1/\(X.fn x.1=true\/X.env.scope.names.lookup x.1=some .local)) ->
  KN X (nms.map λx=>Ñ x.1 x.2) (gA a)
 |[],[],_,_=>vE
 |[],_::_,h,_=>by cases h
 |_::_,[],h,_=>by cases h
 |i::a,(x,f)::nms,g,h=>by
  refine oC (h 0 i _ rfl rfl) λc d e=>mS (iq b c d e) (pD (nms:=nms) b a _ (by simp_all) λj i x k l=>h (j+1) i x (by simp_all) (by simp_all))
def wg:V->List V->Hp->VK->Prop:=λx b H Q=>∃l a k y,x=.ref l/\b=[.int k,y]/\H l=some (.lst a) /\ -(2 ^ 63)<=k/\k<2 ^ 63/\a.length<XX/\Q .non (upd H l (.lst (qJ a k y)))
theorem g_{s}(I:Inv c z u0 e s)(o:∀a∈r,oG c z e a)(k:∀a y0,a∉r->s.heap.get? a=some y0->B.get? a=some y0)(t:s.heap.objs.size<=h)(x:dW c.prog c.w (upd e h y0) B h y0):Inv c z u0 (upd e h y0) {s with heap:=B,toks:=b}:=by
 have y:∀a u,e a=some u->a∉r:=λa u d f=>by rw[(o a f).1]at d;cases d
 have p:∀a u,e a=some u->upd e h y0 a=some u:=λa u d=>by rwa[aD (bb d (I.hok.fresh t))]
 refine I.step (λa l=>?_) (λa y0 _ _ j d _=>k a y0 j d) (λa y0 _ _ j d _=>⟨_,k a y0 j d⟩) (λa u _ d n=>?_)
  (λa y0 j d=>⟨y0,k a y0 j d⟩) (λa K d=>p a _ d) (λa u v d=>p a _ d) (λa L d=>⟨#[],by simp_all⟩) (λm A=>?_) (λa u d=>?_) I.bare
 .refine dU (o a l) λM C N D E F=>⟨D,C,E,F⟩
 .have:a≠h:=λf=>absurd (O' d) (by simp_all)
  rwa[aD this]
 .refine en A λy0 G H J i=>⟨y0,G,H,k _ y0 (λf=>(o _ f).2.1 rfl) J,i⟩
 .by_cases l:a=h
  .subst l
   rw[aS]at d;simp_all
  .rw[aD l]at d
   refine(I.hok a u d).stay (λg v j q=>k g v ?_ q) (λg q=>p g _ q) (by simp_all)
   grind
def Vu(K:K')(a:b'):It:=
 ⟨λi H=>∃b x,mn K H a b/\b[i]?=some x,λi H x c=>∃p,x=.ref p/\H p=none/\∀b,mn K H a b->∃v,b[i]?=some v/\c=upd H p (.tup [.int i,v]),λi H=>∃b,mn K H a b/\b.length<=i⟩
theorem yz(a e t)(A:e≠t):
  Turn v x G (.Tuple O b n) (Vu G a) [e,t] e (λi h=>(∃j,IsEnum h e t i j)/\h.IsListIter t a i) where
 mem:=by simp
 obj:=λi h r f y=>by
  obtain⟨⟨j,g⟩,o,e2,c,d⟩:=r
  grind
 keep:=λi h T r k=>by
  obtain⟨⟨j,g⟩,m⟩:=r;exact⟨⟨j,k e (by simp) _ g⟩,m.at λo q=>k t (by simp) o q⟩
 item:=by
  intro X F J K U i pins s Z H E I C r L;subst F J K;refine cE L λxs l D M=>?_
  obtain⟨⟨j,g⟩,m⟩:=r;refine bx (I.list D) λN P p hz=>?_
  refine bc (P.get M) λu hu ru=>?_
  refine wpAny_pyNext_enum_item g m p.isList (by simpa using hu) A λT so si tu sz kp=>?_
  refine⟨_,rfl,wpAny_letOwnedTupleGo_enum so λV se Q=>?_⟩
  have B:=O' g;refine⟨.ref _,_,?_,rfl,⟨_,rfl,I.hok.fresh (XZ _),λys hy=>⟨l,by rwa[I.rS hy D],rfl⟩⟩,⟨⟨u,by grind⟩,?_⟩,λf y=>?_⟩
  .have R:Ô V _ _:=⟨_,(Q.extBut _ _ (Ym B) tu),rfl,_,rfl⟩
   have S:dW X.prog X.w (upd H s.heap.objs.size (.tup [.int i,l])) V _ (.tup [.int i,l]):=⟨by rw[Zx];simp,_,.cons ⟨_,rfl⟩ (.cons ru .nil),R⟩
   have:=g_ (b:=s.toks+1) I C (λf o y q=>by
   have Y:f≠e:=λz=>y (by simp[z])
   have h3:f≠t:=λz=>y (by simp[z])
   exact Q.extBut f o Y (kp f o Y h3 q)) (XZ _) S
   exact this
  .exact si.extBut Q.extBut (Ya A)
  .rw[aD (N' (by
    rcases Yo.mp y with z|z
    .subst z;exact B
    .have z:f=t:=by simpa using z
     subst z;obtain⟨o,q,_⟩:=m;exact O' q))]
   exact(C f y).1
 done:=by
  intro X F J K U i pins s Z H E I C r L;subst F J K;obtain⟨xs,D,M⟩:=L;obtain⟨⟨j,g⟩,m⟩:=r;refine bx (I.list D) λN P p hz=>?_
  refine dU (C t (by simp)) λf0 f1 f2 f3 f4 f5=>?_
  have hl:=P.length;exact wpAny_pyNext_enum_end (I.ok.hd U) g m p.isList (by simp;exact B' (M' hl.symm) M) λT eb=>⟨rfl,I.turned (λf o y e=>eb f o y e) f0 f1 f3 f4 f5⟩
 self:=λ_ _ _ _ _ r h=>by
  obtain⟨⟨j,g⟩,_⟩:=r;exact abh g h
def QZ(K:K')(c:TA):TI:=λd H R=>c d H λe b=>∃a,e=[.ref a]/\(∃f,mn K b a f)/\R (Vu K a) b
theorem DT(g:Gl c "enumerate")(i:c.mg "enumerate"=none)(k:PA c [j] y3)(m:I' [j] c.env=[(false,eval j c.env)]):
  PI c (.Tuple O b n) (.Call (.Name "enumerate" J) [j] [] M0) (QZ c.K y3):=by
 intro pins s o H R I h;refine Call_ (jg I g i boot_enumerate (ô (cp (k _ _ s o H _ I h) λE p t=>?_) m rfl));refine aF t λF u e w x=>?_
 obtain⟨l,rfl,⟨G,y⟩,q⟩:=x;cases w with
 |cons r z=>
  cases z;cases r;refine bx (e.list y) λA L B M=>?_
  refine call_enumerate_list B.isList λN f C P D=>abh f ?_
  refine⟨_,_,_,_,u,rfl,(e.kept D),yz l _ _ (by simp),⟨⟨_,f⟩,C⟩,λa Q=>?_,q⟩
  have d:p.heap.objs.size<=a:=by
   grind
  exact e.yb d (e.hok.fresh d)
theorem jU:∀a k,(fk k a).length=a.length
 |[],_=>rfl
 |d::a,k=>by rw[fk,Y',Y',jU a]
theorem my:∀a k i (d:D),(fk k a)[i]?=some d->∃x,a[i]?=some x/\d=.tup [.int (k+i:Nat),x]
 |[],_,_,_,h=>by simp[fk]at h
 |d::a,k,0,b,h=>by simp[fk]at h;simp_all
 |d::a,k,i+1,b,h=>by
  obtain⟨x,c,e⟩:=my a _ i b h;exact⟨x,by simp_all,by grind⟩
theorem wh:∀{c}{xs}{Z}{H}{a}{b},lH c=some xs->bp Z H c a->Vals a b->StrsAre b xs
 |[],xs,Z,H,a,b,h,r,q=>by
  cases h;rw[r.nil_inv]at q;cases q;exact .nil
 |d::c,xs,Z,H,a,b,h,r,q=>by
  obtain⟨v,k,rfl,e,f⟩:=r.cons_inv;cases d with
  |str x=>
   obtain⟨l,g,rfl⟩:=YE.mp h;subst e;cases q with
   |cons i j=>
    obtain⟨t,rfl⟩:=i;exact .cons x t (wh g f j)
  |_=>cases h
def rJoin:V->List V->Hp->VK->Prop:=λx c H Q=>∃z Z b a y,x=.str z/\c=[y]/\Now Z H (.lst b) y/\lH b=some a/\z.length<=16/\(a.map (·.length)).sum+a.length<=1048576/\Q (.str (Txt.join z a)) H
theorem yA:QS c "list.insert" wg:=by
 intro pins s E H x G v J Q I m o h;refine a_ h λl p k y d f i w A b=>xa b λK q=>?_;subst d;subst f
 cases m;obtain⟨u,j,rfl,B,g⟩:=o.two;obtain⟨t,rfl⟩:=B;refine xa (I.zP i) λz b=>aF b λa n r C e=>?_
 refine â abi ⟨_,e,rfl⟩ F.entry_list_insert (F.args_list_insert_3 _ _ _) (adh l _ n k t j (by rw[fitsIndex_both w A];simp) (by simp_all)) ⟨e,?_⟩
 refine⟨.non,_,I.Dy (G5:=qJ a k j) i e ?_ ?_ ?_,rfl,q⟩
 .have L:(if k<0 then (k+(a.toArray.size)).toNat else min k.toNat a.toArray.size)=HT.jP a.length 0 (some k):=by rfl
  unfold qJ
  grind
 .have D:HT.jP p.length 0 (some k)=HT.jP a.length 0 (some k):=by rw[C]
  unfold qJ;rw[D];exact(r.take _).append (.cons g (r.drop _))
 .unfold qJ
  grind
def DU(h:L2.RelV w N)(a:L2.RelV P1 N):=h.inj a
def AF:V->List V->Hp->VK->Prop:=λx b H Q=>∃Z a d y j,b=[y]/\Now Z H (.lst a) x/\Now Z H d y/\aR 8 d=true/\a.all (aR 8)=true/\a.findIdx? (λe=>fj e d)=some j/\Q (.int j) H
theorem kQ(r:bp o e p R)(q:Vals R Δ)(c f):∃v,Rep o e p[b] v/\L2.RelV v Δ[b]:=by
 obtain⟨v,g,h⟩:=r.get (i:=b) (d:=p[b]) (by simp[f])
 obtain⟨u,a,j⟩:=q.get g;rw[YW c]at a;cases a;exact⟨v,h,j⟩
theorem AG(hu:c.A.units+64<Yk):K_ c "list.index" AF:=by
 intro pins s σ H x vs v us Q I R S h;refine xe h λZ B=>a_ B λk d y j C T U M o2 D=>xa D λV q=>?_;subst C
 obtain⟨l,ws,rfl,X,z⟩:=dI T;cases R;obtain⟨u,rfl,Y⟩:=S.one;refine bx (I.list (nr X)) λa f pl N=>?_
 obtain⟨E,he,a0⟩:=abj.mp V;have G:=f.length;have r:=z.length;refine a6 pl λo n ho hc p b0=>?_
 have g:∀m (b:m<k.length),aR 8 k[m]=true:=λm b=>YP.mp o2 _ (by simp)
 have J:j<a.length:=U' (U' E (M' r.symm)) (M' G)
 classical
 let e:=λw=>decide (∃m,∃(b:m<a.length) (p:m<k.length),a[m]=w/\fj k[m] d=true)
 have t:∀m (b:m<a.length) (p:m<k.length),e _=fj _ d:=λm b p=>by
  cases O:fj _ d with
  |true=>exact decide_eq_true ⟨m,b,p,rfl,O⟩
  |false=>
   refine decide_eq_false ?_;rintro⟨m',c0,i,e1,e2⟩;obtain⟨v1,K,L⟩:=kQ z f b p;obtain⟨v2,r2,P⟩:=kQ z f _ i;rw[e1]at P;have:=DU L P;subst this;rw[Rep.uniq _ _ _ _ (g m p) (g m' _) K r2]at O
   simp_all
 refine â abk ⟨_,ho,hc⟩ F.entry_list_index (F.args_list_index_2 _ _)
  (SeqAt.list_indexAt l _ n none o.slots u e j (by omega) (by rw[Zx]at N;exact Qv (U' (U' J (M' G.symm)) N)) ?_ ?_) ⟨?_,λw hw=>?_,?_⟩
 .show e a[j]=true
  rwa[t j _ _]
 .simp_all
 .obtain⟨c',d',dt,sl⟩:=o
  simp_all
 .obtain⟨m,b,rfl⟩:=List.mem_iff_getElem.mp (by simpa using hw)
  have i:m<k.length:=U' (U' b (M' G.symm)) (M' r);rw[t m b i];obtain⟨v1,K,L⟩:=kQ z f b _;exact jS I 8 _ _ _ _ _ (by grind) (g m _) M (gM I K.now L (g m _)) (gM I U Y M)
 .exact⟨.int j,H,I.tok _,⟨_,rfl⟩,q⟩
theorem DV(p:PE c j υ)(q:PE c (.BoolOp .And (Q::O) n) P2):PE c (.BoolOp .And (j::Q::O) n) (λe H b=>υ e H λx f=>∃a,rU c.K x f a/\if a=true then P2 e f b else b x f):=by
 intro pins s e H b I h;refine BoolOp_and (cp (p _ s e H _ I h) λv r i=>?_);refine aF i λx f t l k=>bc k λa u m=>?_
 refine cp (qq _ r e f x v (λd g=>d=a/\g=f) t l ⟨a,u,rfl,rfl⟩) λd w i=>?_;refine bx i λg o y z=>?_
 subst y z;cases d with
 |true=>exact q _ w e g b o m
 |false=>exact⟨x,g,o,l,m⟩
theorem HL(p:PE c j υ)(q:PE c (.BoolOp .Or (Q::O) n) P2):PE c (.BoolOp .Or (j::Q::O) n) (λe H b=>υ e H λx f=>∃a,rU c.K x f a/\if a=true then b x f else P2 e f b):=by
 intro pins s e H b I h;refine BoolOp_or (cp (p _ s e H _ I h) λv r i=>?_);refine aF i λx f t l k=>bc k λa u m=>?_
 refine cp (qq _ r e f x v (λd g=>d=a/\g=f) t l ⟨a,u,rfl,rfl⟩) λd w i=>?_;refine bx i λg o y z=>?_
 subst y z;cases d with
 |false=>exact q _ w e g b o m
 |true=>exact⟨x,g,o,l,m⟩
theorem DW(i:PE c j υ):PE c (.UnaryOp .Not j n) (λe H Q=>υ e H λx b=>∃a,rU c.K x b a/\Q (.bl (!a)) b):=by
 intro pins s e H Q I h;refine UnaryOp_ (cp (i _ s e H _ I h) λv k l=>?_);refine aF l λx b m o f=>bc f λa p q=>?_
 refine not_of (cp (qq _ k e b x v (λd g=>d=a/\g=b) m o ⟨a,p,rfl,rfl⟩) λd y  r =>bx r λg t u w=>?_)
 subst u w;exact⟨.bl _,g,t,rfl,q⟩
theorem fo.nw(h:fo E A2 o e π l w):Now o π l w:=by
 cases E with
 |true=>exact h.now
 |false=>exact(h.weak).now
noncomputable def LF(a:XY)(x:Str):Bool:=match a.names.lookup x with
 |some .local|some .cell|some .free=>true
 |_=>false
noncomputable def AH(a:XY)(x:Str):Bool:=match a.names.lookup x with
 |some .local|some .cell=>true
 |_=>false
noncomputable def wj(a:XY)(x):=a.names.lookup x==some .globalImplicit
noncomputable def okN(x) := !(x==("__debug__":Str))&&!(x==("__classdict__"))&&!(x==("__name__"))
noncomputable def HM(N:List Str)(x):=N.findIdx? (· == x)
def hG(a N x):=if LF a x&&okN x then HM N x else none
def Gm(x):=[Ty.int,.str,.bool,.list,.tuple,.dict].find? (λt=>t.nm==x)
noncomputable def isStar:x'->Bool
 |.Starred _ _=>true
 |_=>false
noncomputable def isSlice:x'->Bool
 |.Slice _ _ _ _=>true
 |_=>false
noncomputable def isSet:x'->Bool
 |.Set _ _ _=>true
 |_=>false
noncomputable def DX(scope a:XY):XY:={scope with names:=scope.names.map λ(n,k)=>if (k==.free&&a.kind==.function&&a.names.lookup n==some .cell)then (n,.cell)else (n,k)}
noncomputable def fc(scope:XY):=(scope.names.filter λy=>y.2==.free).map (·.1)
def uM(a:XY)(N:List Str):List Str->Option (List Nat)
 |[]=>some []
 |x::b=>do let i ←hG a N x;let c ←uM a N b;some (i::c)
def yB(scope)(sc:XY)(x):=
 scope.kind==.function&&scope.names.all (λy=>!(y.2==.cell))&&scope.names.all (λy=>!(y.2==.local)||scope.names.lookup y.1==some .local) &&
 scope.names.all (λy=>!(y.2==.free)||(sc.names.lookup y.1==some .cell||sc.names.lookup y.1==some .free)&&scope.names.lookup y.1==some .free) &&
 scope.names.lookup x==some .local&&decide ((x::fc scope).Nodup)
noncomputable def pE:List abl->Option (Str×V'×x'×List x')
 |[⟨.Name x p,iter,a,0⟩]=>some (x,p,iter,a)
 |_=>none
variable{A9:List abl}
theorem pF(h:pE A9=some (d,n,j,O)):A9=[⟨.Name d n,j,O,0⟩]:=by
 rcases A9 with _|⟨⟨t,b,c,a⟩,r⟩<;>try cases h
 cases t<;>try cases h
 rcases a with (_|_)|_<;>try cases h
 cases r<;>cases h
 rfl
theorem AI(h:HM g d=some b):g[b]?=some d:=by
 obtain⟨a,c,_⟩:=abj.mp h
 simp_all
theorem gC(h:hG Z g d=some b):g[b]?=some d/\rQ Z d/\(d==("__debug__"))=false/\(d==("__classdict__"))=false:=by
 unfold hG at h;split at h
 .rename_i a
  simp only[Yv,okN,ZH]at a;refine⟨AI h,?_,a.2.1.1,a.2.1.2⟩;have c:=a.1;unfold LF at c;unfold rQ
  grind
 .cases h
theorem wm(h:okN d=true):(d==("__debug__"))=false/\(d==("__classdict__"))=false/\d≠"__name__":=by
 simp only[okN,Yv,ZH]at h
 simp_all
noncomputable def eQ:List Str:=["len","all","any","list","tuple","int","min","max","bool","isinstance","str","dict","range","sorted","enumerate","reversed","set"]
theorem bF(h:isStar j=false):I' (j::O) A4=(false,eval j A4)::I' O A4:=by
 cases j<;>first|rfl | (cases h)
theorem bG{env pos}:∀{a},(∀e∈a,isStar e=false)->(Ye pos (I' a env)).any (·.1)=false
 |[],_=>rfl
 |e::a,h=>by
  rw[bF (h e (by simp))]
  show(false||(Ye _ _).any _)=false
  rw[bG (by simp_all)]
  rfl
variable{N2:Ty}
theorem LG(h:Gm d=some N2):d=N2.nm/\N2.nm∈eQ:=by
 have a:=ϓ h;exact⟨(eq_of_beq a).symm,by cases N2<;>decide⟩
theorem AJ{d N}:∀{xs}{a},uM d N xs=some a->xs.length=a.length/\∀(j i:Nat) x,xs[j]?=some x->a[j]?=some i->N[i]?=some x
 |[],a,h=>by cases h;simp_all
 |x::xs,a,h=>by
  refine bc (é.mp h) λi e h=>?_
  refine bc (é.mp h) λf g h=>?_
  cases h;obtain⟨k,l⟩:=AJ g;refine⟨by simp_all,λj m y b c=>?_⟩
  cases j with
  |zero=>simp at b c;subst b c;exact(gC e).1
  |succ j=>grind
theorem fA(h:isSet j=false):∀x,ZU j A4 x=pure x:=by
 intro x;cases j<;>first|rfl | (simp[isSet]at h)
theorem sH(h:isSet j=false):Ě Y3 j=false:=by
 cases j<;>first|rfl | (simp[isSet]at h)
def sI(a N x):=if AH a x&&okN x then HM N x else none
noncomputable def jn:x'->Bool
 |.ListComp .. |.SetComp .. |.DictComp ..=>true
 |_=>false
noncomputable def nF(a:XY)(x:Str)(b:V')(e:x'):Bool:=match e with
 |.ListComp _ _ s _=>a.names.lookup x==some .local&&b.line==e.pos.line&&!(s.names.any λ(n,k)=>n==x&&(k==.local||k==.cell))
 |_=>false
noncomputable def eu:List x'->Option (List (Str×V'))
 |[]=>some []
 |.Name x p::r=>(eu r).map ((x,p):: ·)
 |_=>none
def qP(a:XY)(N:List Str):List (Str×V')->Option (List Nat)
 |[]=>some []
 |x::b=>do let i ←sI a N x.1;let c ←qP a N b;some (i::c)
noncomputable def HN:x'->Bool
 |.Call .. |.Name .. |.Subscript ..=>true
 |_=>false
theorem lM:∀{a}{nms},eu a=some nms->a=nms.map λx=>Ñ x.1 x.2
 |[],_,h=>by cases h;rfl
 |e::a,nms,h=>by
  unfold eu at h;split at h
  .simp_all
  .rename_i x p r q
   cases q;obtain⟨c,b,h⟩:=YE.mp h;subst h;rw[lM b];rfl
  .cases h
theorem pG(env):∀(nms:List (Str×V')),(Zv (nms.map λx=>Ñ x.1 x.2) env).length=nms.length/\(Zv (nms.map λx=>Ñ x.1 x.2) env).findIdx? (·.1)=none
 |[]=>⟨rfl,rfl⟩
 |x::r=>by
  obtain⟨a,b⟩:=pG _ r;refine⟨?_,?_⟩
  .show(Zv _ _).length+1=_
   rw[a];rfl
  .show List.findIdx? _ ((false,_)::Zv _ _)=none
   simp_all
def dn(N ps:List Str)(a):=
 a.kind==.function&&!a.isCoroutine&&!a.isGenerator&&decide N.Nodup&&decide (N.take ps.length=ps)&&ps.all (AH a)&&a.names.all λy=>!(y.2==.free)
theorem fq(h:dn g ο Z=true):jO g ο Z:=by
 simp only[dn,Yv,ZH,decide_eq_true_eq,YP,beq_iff_eq]at h;obtain⟨⟨⟨⟨⟨⟨a,b⟩,c⟩,d⟩,f⟩,i⟩,l⟩:=h;refine⟨a,b,c,d,f,λx j=>?_,λy m e=>?_⟩
 .have k:=i x j
  unfold AH at k
  grind
 grind
noncomputable def DY:f'->Bool
 |.type x=>x=="list"
 |_=>false
def sJ(K:K'):=K.all λp=>!DY p.2.cls
theorem sL:∀{K:K'}{a}{o},K.lookup a=some o->(a,o)∈K
 |[],_,_,h=>by cases h
 | (b,p)::K,a,o,h=>by
  rw[ľ]at h;split at h
  .simp_all
  .exact ð _ (sL h)
theorem LH(b:sJ G=true)(a:mn G e h R):Rd e h (.lst R):=by
 rcases a with a|⟨o,c,n,d,f,_⟩
 .exact a
 .have:=YP.mp b _ (sL d)
  rw[f]at this;exact absurd this (by decide)
noncomputable def AK(K:K')(x:Str):Bool:=match Y_ K Yt x with
 |some none=>true
 |_=>false
def wo(K):=eQ.all (AK K)
def AL(X:G.In B)(a:B.Ns Yt θ)(b:wo G=true):=λx c=>by
 have:=YP.mp b x c;unfold AK at this;split at this
 .rename_i q;exact PySem.W.mg_none_of X a q
 .cases this
def LI(K:K')(tl:TE):TI:=λd H R=>tl d H λx b=>(∃a c,x=.ref a/\Rd b a (.lst c)/\R (QG K a) b)\/(∃a c,x=.ref a/\Rd b a (.tup c)/\R (Vo K a) b)\/(∃y,x=.str y/\R (Vt y) b)\/Lk R x b
theorem DZ(n:PE c Q υ):PI c j Q (LI c.K υ):=by
 intro pins s p H R I h;refine cp (n pins s p H _ I h) λv m r=>?_;refine aF r λx e d f u=>?_
 have g:∀b∈[m.heap.objs.size],oG c pins e b:=λb w=>by
  obtain rfl:b=m.heap.objs.size:=by simpa using w
  exact d.yb (XZ _) (d.hok.fresh (XZ _))
 rcases u with ⟨a,z,rfl,i,q⟩|⟨a,z,rfl,i,q⟩|⟨y,rfl,q⟩|q
 .cases f
  obtain⟨k,A,l,B⟩:=d.list (nr i);refine Į l.isList ?_;exact⟨_,_,_,_,e,rfl,d.kept λb o Q=>X' _ Q,yc a _,⟨_,Yu _ rfl,rfl,rfl⟩,g,q⟩
 .cases f
  obtain⟨k,A,l,B⟩:=d.tuple (vZ i);refine wpAny_pyIter_tuple (l) ?_;exact⟨_,_,_,_,e,rfl,d.kept λb o Q=>X' _ Q,ui a _,⟨_,Yu _ rfl,rfl,rfl⟩,g,q⟩
 .obtain⟨t,rfl⟩:=f
  refine wpAny_pyIter_strU ?_;exact⟨_,_,_,_,e,rfl,d.kept λb o Q=>X' _ Q,AE _ y t _ (by unfold strIterType;split<;>simp),⟨_,Yu _ rfl,rfl,rfl⟩,g,q⟩
 .exact DD d f q
def LJ(a:b')(o:Obj):It:=
 ⟨λi H=>∃b,H a=some (.eo o (.dK b))/\i<b.length,λi H x d=>∃p,x=.ref p/\H p=none/\∀b,H a=some (.eo o (.dK b))->∃c,b[i]?=some c/\d=upd H p (.tup [kV c.1,c.2]),λi H=>∃b,H a=some (.eo o (.dK b))/\b.length<=i⟩
theorem yC:æ ç "dict_itemiterator.__iter__"=some ZM.«dict_keyiterator.__iter__» :=
 abm (id':="dict_keyiterator.__iter__") (by kernel_rfl) (by rfl) (by decide +kernel) (by kernel_rfl)
variable{C:b'}{N1:f'->g'->Prop}{Θ:Nat}
theorem uN(c:IsItemIter m.heap h C b s Θ N M2)(a:N1 (.ref h) m):p9 (j' v x) L (ZT (.ref h)) N1 S m:=by
 have d:m.TypeIs (.ref h) _:=⟨_,c,rfl⟩;refine abn d abo (Ŀ abo d yC (T' ⟨_,rfl,_,_,d,F.slot_dict_itemiterator_next.lookup,a⟩) (F.args_dict_itemiterator_iter_1 _))
variable{N9:Array Ą}{Ξ:Obj}
theorem uO{P}(a m)(S:Ξ.data=.dict N9 s):
  Turn P x G (.Tuple O b n) (LJ a Ξ) [m] m (λi h=>∃ok t,IsItemIter h m a i N9.size s ok t) where
 mem:=by simp
 obj:=λi h f c l=>by
  grind
 keep:=λi h T f k=>by
  grind
 item:=by
  intro X A C D U i pins d σ H E I u f F;subst A C D;refine bc F λg J V=>?_
  refine xe f λok j=>xe j λt f=>?_
  refine dQ (kK I.hok J S) λvs r K y _=>?_
  have L:=YW V;refine bc (gx r L) λq hv Y=>?_
  have o:=O' f;rw[y]at f;refine wpAny_pyNext_items_item f K (k:=q.1) (v:=q.2) hv λp T hk so tu sz kp=>?_
  refine⟨_,rfl,wpAny_letOwnedTupleGo_items so λM se Z=>?_⟩
  have N:=Z.extBut _ _ (Ym o) tu;refine⟨.ref d.heap.objs.size,upd H d.heap.objs.size (.tup [kV g[i].1,g[i].2]),?_,rfl,⟨_,rfl,I.hok.fresh (XZ _),λa0 b0=>?_⟩,⟨_,_,by rw[y];exact se⟩,λc l=>?_⟩
  .have Q:Ô M d.heap.objs.size [p,q.2].toArray:=⟨_,N,rfl,_,rfl⟩
   have R:dW X.prog X.w (upd H d.heap.objs.size (.tup [kV g[i].1,g[i].2])) M d.heap.objs.size (.tup [kV g[i].1,g[i].2]):=⟨by rw[Zx];simp,[p,q.2],.cons (by rw[Y.1];exact qE hk) (.cons Y.2 .nil),Q⟩
   have:=g_ (s:=d) (B:=M) (b:=d.toks) I u (λc Ξ l q=>by
   have h1:c≠m:=λz=>l (by simp[z])
   exact Z.extBut c Ξ h1 (kp c Ξ h1 q)) (XZ _) R
   exact this
  .simp_all
  .have e:c=m:=by simpa using l
   subst e;rw[aD (N' o)];exact(u c l).1
 done:=by
  intro X A C D U i pins d σ H E I u f F;subst A C D;refine bc F λg J V=>?_
  refine xe f λok j=>xe j λt f=>?_
  refine dQ (kK I.hok J S) λvs r K y _=>?_
  refine dU (u m (by simp)) λf0 f1 f2 f3 f4 f5=>?_
  have hl:=r.length;rw[y]at f;exact wpAny_pyNext_items_end (I.ok.hd U) f K (by simp_all) λT eb=>⟨rfl,I.turned (b:=d.toks) (λc Ξ l e=>eb c Ξ l e) f0 f1 f3 f4 f5⟩
 self:=λ_ _ _ _ _ f h=>by
  refine xe f λok j=>xe j λt f=>?_
  exact uN f h
def Q_(R:It->Hp->Prop)(x:V)(c):=∃a b,x=.ref a/\((c a=some (.dK b)/\∀o,R (LJ a o) (upd c a (.eo o (.dK b))))\/∃o,c a=some (.eo o (.dK b))/\R (LJ a o) c)
theorem AN(g:Zc j "items" c.env (eval j c.env)=eval j c.env)(i:(J.endLine==M0.line)=true)(o:PE c j υ):
  PI c (.Tuple O b n) (.Call (.Attribute j "items" J) [] [] M0) (λp H R=>υ p H (Q_ R)):=by
 intro pins s p H R I h;refine Ũ g i (cp (o pins s p H _ I h) λv s1 X=>?_);refine aF X λx H1 C Y Z=>?_
 obtain⟨a,k,rfl,q⟩:=Z;cases (Y)
 have u:∀(f:Obj) (l:Array Ą) (m:Nat) (t:Hp),Inv c pins p t s1->t a=some (.eo f (.dK k))->f.data=.dict l m->R (LJ a f) t->p9 (j' c.prog c.w) c.A (call (.builtin "dict.items") [.ref a]) (λv s2=>p9 (j' c.prog c.w) c.A (ZT v) (PIE c pins p (.Tuple O b n) R) c.xe s2) c.xe s1:=by
  intro f l m t D e2 E hR;refine dQ (kK D.hok e2 E) λG r S hz T=>?_
  have U:s1.heap.DictOf _ a G:=cE (S) λj l o r=>⟨j,l,m,o,r⟩
  refine call_meetsIn ϔ U.typeIs F.entry_dict_items (F.args_dict_items_1 _) (meets_dict_items _ a T) ⟨⟨G,U⟩,?_⟩;generalize y:s1.heap.push _=K;have V:∀d j,s1.heap.get? d=some j->K.get? d=some j:=λd j e=>by rw[←y];exact X' _ e
  have hv:K.IsItemsView s1.heap.objs.size a:=by rw[←y];exact⟨_,Yu _ rfl,rfl,rfl⟩
  have L:=S.at' λj e=>V a j e
  have M:=D.kept (t':=s1.toks) V;refine wpAny_pyIter_items hv L ?_;have I4:Inv c pins p t {s1 with heap:=K.push {cls:=.type "dict_itemiterator",data:=.fields #[.none,.bool false,.ref a,.int 0 0,.int G.length 0,.int m 0,.none,.none]} }:=M.kept λd j q=>X' _ q
  refine⟨_,_,_,_,t,rfl,I4,uO a _ E,?_,λd hb=>?_,hR⟩
  .rw[hz]
   exact⟨_,_,Yu _ rfl⟩
  .have z:=by simpa using hb
   rw[z];exact M.yb (XZ _) (M.hok.fresh (XZ _))
 rcases q with ⟨B,hR⟩|⟨f,B,hR⟩
 .obtain⟨N,P,t3⟩:=ux C (.inl ⟨k,.inl B⟩)
  refine cg (C.vK B) λf l m o E D=>?_
  exact⟨"dict",_,ό,ϔ,abp,N,P,ā rfl (Ī (u f l m _ D aS E (hR f)))⟩
 .obtain⟨N,P,t3⟩:=ux C (.inl ⟨k,.inr ⟨f,B⟩⟩)
  obtain⟨o,_,T,G,r,o',l,m,Q,b,x2,x3⟩:=C.hok a _ B;rw[o]at Q;exact⟨"dict",_,ό,ϔ,abp,N,P,ā rfl (Ī (by grind))⟩
@[simp] theorem LK:lX .non=some false:=rfl
@[simp] theorem Oe:lX (.bl E)=some E:=rfl
@[simp] theorem LM:lX (.int U)=some (U != 0):=rfl
@[simp] theorem LN:lX (.lst p)=some (!p.isEmpty):=rfl
@[simp] theorem LO:lX (.tup p)=some (!p.isEmpty):=rfl
def DP(o:Bool)(f:List D->D):D->Out Rs
 |.tup a=>if small a.length=true then .ok (o,f a)else .bad
 |_=>.bad
@[simp] theorem LP{f}:DP E f (.tup p)=if small p.length=true then .ok (E,f p)else .bad:=rfl
@[simp] theorem Of:gQ .Add (.int U) (.int S0)=.ok (false,.int (U+S0)):=rfl
@[simp] theorem Og:gQ .Sub (.int U) (.int S0)=.ok (false,.int (U - S0)):=rfl
@[simp] theorem Oh:gQ .Mult (.int U) (.int S0)=if (nk U||nk S0)=true then .ok (false,.int (U*S0))else .bad:=rfl
@[simp] theorem Oi:gQ .FloorDiv (.int U) (.int S0)=if (decide (0<S0)&&decide (S0<1073741824))=true then .ok (false,.int (U / S0))else .bad:=rfl
@[simp] theorem Oj:gQ .Mod (.int U) (.int S0)=if decide (0<S0)=true then .ok (false,.int (U%S0))else .bad:=rfl
@[simp] theorem Ol:gQ .Pow (.int U) (.int S0)=if (decide (0<=S0)&&decide (S0<=1000)&&decide (U.natAbs<2 ^ 64))=true then .ok (false,.int (U ^ S0.toNat))else .bad:=rfl
variable{T:Str}
@[simp] theorem LQ:gQ .Add (.str d) (.str T)=if small (d.length+T.length)=true then .ok (false,.str (d++T))else .bad:=rfl
@[simp] theorem LR:gQ .Add (.lst p) (.lst T4)=if small (p.length+T4.length)=true then .ok (true,.lst (p++T4))else .bad:=rfl
@[simp] theorem Ra:eP .Eq l Y=if (aR 8 l&&aR 8 Y)=true then .ok (fj l Y)else .bad:=rfl
@[simp] theorem HP:eP .NotEq l Y=if (aR 8 l&&aR 8 Y)=true then .ok (!fj l Y)else .bad:=rfl
@[simp] theorem Rb:eP .Lt (.int U) (.int S0)=.ok (decide (U<S0)):=rfl
@[simp] theorem Rc:eP .LtE (.int U) (.int S0)=.ok (decide (U<=S0)):=rfl
@[simp] theorem cmp_gt:eP .Gt (.int U) (.int S0)=.ok (decide (S0<U)):=rfl
@[simp] theorem Rf:eP .GtE (.int U) (.int S0)=.ok (decide (S0<=U)):=rfl
@[simp] theorem Rg:eP .In l Y=inD l Y:=rfl
@[simp] theorem Om:eP .NotIn l Y=inD l Y >>= λb=>.ok (!b):=rfl
@[simp] theorem Rh:eP .Is l Y=isD l Y:=rfl
@[simp] theorem Oo:eP .IsNot l Y=isD l Y >>= λb=>.ok (!b):=rfl
@[simp] theorem Ri:aR b .non=true:=by cases b<;>rfl
@[simp] theorem Vv:aR b (.bl E)=true:=by cases b<;>rfl
@[simp] theorem Rj:aR b (.int U)=true:=by cases b<;>rfl
@[simp] theorem Rk:aR b (.str d)=true:=by cases b<;>rfl
@[simp] theorem Rl:aR (b+1) (.lst p)=p.all (aR b):=rfl
@[simp] theorem Rm:aR (b+1) (.tup p)=p.all (aR b):=rfl
@[simp] theorem eq_int:fj (.int U) (.int S0)=(U==S0):=rfl
@[simp] theorem Vx:fj (.bl E) (.bl A2)=(E==A2):=rfl
@[simp] theorem eq_str:fj (.str d) (.str T)=(d==T):=rfl
@[simp] theorem Rn:fj (.lst p) (.lst T4)=fJ p T4:=rfl
@[simp] theorem Ro:fj (.tup p) (.tup T4)=fJ p T4:=rfl
@[simp] theorem Oq:fJ [] []=true:=rfl
@[simp] theorem LS:fJ (l::p) (Y::T4)=(fj l Y&&fJ p T4):=rfl
@[simp] theorem Rp:fJ [] (l::p)=false:=rfl
@[simp] theorem Rq:fJ (l::p) []=false:=rfl
theorem D_(h:small d.length=true)(e:L2.mu d.cps.toList U=some b):uE (.str d) (.int U)=.ok (false,.str (bW b)):=by
 simp only[uE,h,if_pos,e]
variable{k9 m9:Option Int}
@[simp] theorem Ot:Al (.lst p) k9 m9=.ok (true,.lst (et p k9 m9)):=rfl
@[simp] theorem Ou:Al (.str d) k9 m9=if small d.length=true then .ok (false,.str ⟨(et d.cps.toList k9 m9).toArray⟩)else .bad:=rfl
@[simp] theorem Ov:jk .len (.tup [.lst p])=.ok (false,.int p.length):=rfl
@[simp] theorem Ow:jk .len (.tup [.tup p])=.ok (false,.int p.length):=rfl
@[simp] theorem len_str:jk .len (.tup [.str d])=if small d.length=true then .ok (false,.int d.length)else .bad:=rfl
noncomputable def AO(f:List Bool->Bool):Option (List Bool)->Out Rs
 |some bs=>.ok (false,.bl (f bs))
 |none=>.bad
@[simp] theorem Kf{f}:AO f (some B9)=.ok (false,.bl (f B9)):=rfl
@[simp] theorem Ox:jk .all (.tup [.lst p])=AO (λbs=>bs.all id) (fY p):=rfl
@[simp] theorem Oy:jk .any (.tup [.lst p])=AO (λbs=>bs.any id) (fY p):=rfl
@[simp] theorem LU:jk .list (.tup [.lst p])=.ok (true,.lst p):=rfl
@[simp] theorem LV:jk .list (.tup [.tup p])=.ok (true,.lst p):=rfl
@[simp] theorem Kg:jk .tuple (.tup [.lst p])=.ok (false,.tup p):=rfl
@[simp] theorem Kh:jk .tuple (.tup [.tup p])=.ok (false,.tup p):=rfl
@[simp] theorem int_int:jk .int (.tup [.int U])=.ok (false,.int U):=rfl
@[simp] theorem Rr:jk .int (.tup [.bl E])=.ok (false,.int (if E then 1 else 0)):=rfl
@[simp] theorem Oz:jk .min (.tup [.int U,.int S0])=.ok (false,.int (if S0<U then S0 else U)):=rfl
@[simp] theorem OA:jk .max (.tup [.int U,.int S0])=.ok (false,.int (if S0>U then S0 else U)):=rfl
@[simp] theorem Rt:Am .non N2=some false:=rfl
@[simp] theorem Vy{t}:Am (.bl E) t=some (t==.bool||t==.int):=rfl
@[simp] theorem ty_int:Am (.int U) N2=some (N2==.int):=rfl
@[simp] theorem ty_str:Am (.str d) N2=some (N2==.str):=rfl
@[simp] theorem Ru:Am (.lst p) N2=some (N2==.list):=rfl
@[simp] theorem Rv:Am (.tup p) N2=some (N2==.tuple):=rfl
@[simp] theorem Rx{a}:Am (.dct a p) N2=some (N2==.dict):=rfl
theorem aP(h:b<=100000):small b=true:=by
 unfold small;rw[decide_eq_true_eq,Zx];exact bS h
theorem jV(a : -(2 ^ 64)<U)(b:U<2 ^ 64):nk U=true:=decide_eq_true (by omega)
theorem ft(a : -(2 ^ 62)<U)(b:U<2 ^ 62):oP U=true:=decide_eq_true (by omega)
theorem HQ{a}{xs:List a}(c:0<=U)(d:U<xs.length):∃x,x∈xs/\L2.mu xs U=some x:=by
 have b:U.toNat<xs.length:=by omega
 have h:=L2.cq (YW b)
 grind
@[simp] theorem in_str:inD (.str d) (.str T)=.ok (vY d T):=rfl
def dJ(n a):=jT n a
theorem fO:∀{a}{i:Nat}{d},(intsFrom a b)[i]?=some d->d=.int (a+i)/\i<b:=by
 induction b with
 |zero=>intro a i d h;simp[intsFrom]at h
 |succ b c=>
  intro a i d h;cases i with
  |zero=>simp[intsFrom]at h;simp_all
  |succ i=>
   simp[intsFrom]at h
   grind
noncomputable def L1(xs:List Str):D:=.lst (xs.map .str)
def LL(rs:List (List Str)):D:=.lst (rs.map L1)
theorem qQ(xs:List y4)(k:Nat):et xs (some k) none=xs.drop k:=by
 unfold et;rw[HT.rY,HT.mr];rcases ϕ k _ with h|h
 .rw[ϖ h]
  exact Ċ (by simp)
 simp_all
theorem uP(xs:List y4)(k:Nat):et xs none (some k)=xs.take k:=by
 unfold et;rw[HT.rY,HT.mr];simp
theorem AQ(xs:List y4)(k m:Nat):et xs (some k) (some m)=(xs.drop k).take (m - k):=by
 unfold et;rw[HT.mr,HT.mr];rcases ϕ k _ with h|h
 .rw[ϖ h]
  rcases ϕ m xs.length with h' |h'
  .simp_all
  .rw[Nat.min_eq_right h',Ċ (by simp),Ċ (by simp;omega)]
 simp_all
@[simp] theorem Vz(xs:List y4):et xs (some 1) none=xs.tail:=by rw[show(1)=((1:Nat):Int)from rfl,qQ];simp
theorem Ea(n)(xs:List Str):(xs.map D.str).all (aR n)=true:=by
 simp
theorem Eb(xs:List Str)(n):((xs.map D.str).any λy=>fj y (.str n))=decide (n∈xs):=by
 induction xs with
 |nil=>rfl
 |cons x xs a=>
  simp only[Za,Ï,a,eq_str,Yo]
  grind
theorem Ec(xs:List Str)(n):inD (.str n) (.lst (xs.map .str))=.ok (decide (n∈xs)):=by
 have:inD _ (.lst _)=if aR 8 (.str n)&&(xs.map D.str).all _ then .ok _ else .bad:=rfl
 rw[this,Eb];simp
theorem Ed(xs a:List Str):fJ (xs.map .str) (a.map .str)=decide (xs=a):=by
 induction xs generalizing a with
 |nil=>cases a<;>simp
 |cons x xs b=>
  cases a with
  |nil=>simp
  |cons y a=>
   simp
   grind
theorem LW(xs a):fj (L1 xs) (L1 a)=decide (xs=a):=Ed xs a
theorem LX(n xs):aR (n+1) (L1 xs)=true:=Ea n xs
noncomputable def freeOf(rs:List (List Str)):List Str->Option Str
 |[]=>none
 |n::_=>if ∃t∈rs,n∈t.tail then none else some n
variable{M:List (List Str)}
theorem ec(h:∃t∈M,d∈t.tail):freeOf M (d::g)=none:=if_pos h
theorem dq(h:¬ ∃t∈M,d∈t.tail):freeOf M (d::g)=some d:=if_neg h
def free(rs:List (List Str)):=rs.findSome? (freeOf rs)
noncomputable def Ee:Option Str->D
 |none=>.non
 |some n=>.str n
@[simp] theorem Ry:isD (.str d) .non=.ok false:=rfl
@[simp] theorem OC:isD .non .non=.ok true:=rfl
@[simp] theorem Rz:isD (.int U) .non=.ok false:=rfl
@[simp] theorem RA:isD (.lst p) .non=.ok false:=rfl
noncomputable def cB(n)(r:List Str):=if r.take 1=[n]then r.tail else r
inductive Mg:List (List Str)->List Str->Prop
 |done {rs}:(∀r∈rs,r=[])->Mg rs []
 |step {rs n o}:(∃r∈rs,r≠[])->free rs=some n->Mg (rs.map (cB n)) o->Mg rs (n::o)
theorem any_rows(rs:List (List Str)):fY (rs.map L1)=some (rs.map λr=>!r.isEmpty):=by
 induction rs with
 |nil=>rfl
 |cons r rs a=>
  simp only[Za,fY,a];simp[L1]
theorem any_true(h:∃r∈M,r≠[]):(M.map λr=>!r.isEmpty).any id=true:=by
 simp_all
theorem any_false(h:∀r∈M,r=[]):(M.map λr=>!r.isEmpty).any id=false:=by
 grind
abbrev Fn:=List D->Out Rs
def jW(a:Int->Int->Int->Int)(F:Fn):=∀c t m,0<=t->t<100000->0<m->0<=a c t m/\a c t m<m/\F [.int c,.int t,.int m]=.ok (false,.int (a c t m))
noncomputable def SC(a:List Int):D:=.lst (a.map .int)
def jo(b:List Int->Nat->Int)(F:Fn):=∀a (k:Nat),F [SC a,.int k]=.ok (false,.int (b a k))
theorem ints_map(a n):intsFrom a n=(Yd n).map λ(i:Nat)=>D.int (a+i):=by
 apply č;intro i
 by_cases h:i<n
 .have b:i<(intsFrom a n).length:=by rwa[dJ]
  have e:=(fO (YW b)).1
  simp_all
 .rw[ϊ (by rw[dJ];omega),ϊ (by simp;omega)]
theorem kR(n):intsFrom 0 n=(Yd n).map λ(i:Nat)=>D.int i:=by
 rw[ints_map];simp
noncomputable def abc:Str:="abcdefghijklmnopqrstuvwxyz"
theorem HR:∀q,q<26->abc.cps.toList[q]?=some (97+q):=by decide
theorem wq(a:0<=U)(b:U<26):uE (.str abc) (.int U)=.ok (false,.str (bW (97+U.toNat))):=by
 refine D_ (aP (by decide)) ?_
 have:=L2.cq (HR U.toNat (by omega))
 grind
noncomputable def bs(a:Int->Int->Int->Int)(c:Int):List D:=(Yd 8).map λ(i:Nat)=>.int (a c i 26)
def Nm(b:Int->Int->Int->Int)(c)(m a k:Nat)(z:Str):=
 z.length<=8/\if b c 10 4=1/\m<9 then z.length=k+1 else z.cps.toList[a]?=some (97+((b c a 26+k)%26).toNat)
theorem Eg(a:g∈M)(h:freeOf M g=some d):∃k,free M=some k:=by
 unfold free;cases q:M.findSome? _ with
 |some k=>simp
 |none=>
  simp_all
theorem mz(h:free M=some d):(∃r∈M,∃t,r=d::t)/\∀t∈M,d∉t.tail:=by
 obtain⟨r,b,e⟩:=ϗ h;cases r with
 |nil=>cases e
 |cons x t=>
  by_cases a:∃t∈M,x∈t.tail
  .rw[ec a]at e;cases e
  .rw[dq a]at e
   grind
theorem Eh(b:free M=some d):∀r∈M.map (cB d),d∉r:=by
 intro r c a;obtain⟨t,e,rfl⟩:=YG.mp c;have f:=(mz b).2 t e;unfold cB at a;split at a
 .simp_all
 .cases t with
  |nil=>simp at a
  |cons x t=>
   simp_all
theorem uQ(a:Mg M g):∀x∈g,∃r∈M,x∈r:=by
 induction a with
 |done h=>simp
 |@step M n g d f _ i=>
  intro x b;rcases Yo.mp b with e|e
  .obtain⟨⟨r,c,t,rfl⟩,_⟩:=mz f
   grind
  .obtain⟨r,c,b⟩:=i x e
   obtain⟨t,j,rfl⟩:=YG.mp c
   exact⟨t,j,by
     unfold cB at b;split at b
     .exact List.mem_of_mem_tail b
     .exact b⟩
theorem sM(a:Mg M g):g.Nodup:=by
 induction a with
 |done h=>simp
 |@step M n g b c d e=>
  refine ZL.mpr ⟨λh=>?_,e⟩
  obtain⟨r,f,i⟩:=uQ d n h;exact Eh c r f i
noncomputable def behind(rs:List (List Str)):=rs.flatMap List.tail
@[simp] theorem OD:jk .list (.tup [L1 g])=.ok (true,L1 g):=rfl
@[simp] theorem OE:jk .list (.tup [LL M])=.ok (true,LL M):=rfl
@[simp] theorem VA:inD (.str d) (L1 g)=.ok (decide (d∈g)):=Ec g d
@[simp] theorem VB:Am (L1 g) N2=some (N2==.list):=rfl
@[simp] theorem WC:aR (b+1) (L1 g)=true:=LX b g
@[simp] theorem WD:aR (b+2) (LL M)=true:=by
  show(M.map L1).all _=true
  simp_all
@[simp] theorem WE:fj (L1 g) (L1 ο)=decide (g=ο):=LW g ο
@[simp] theorem WG{a}:fj (LL M) (LL a)=decide (M=a):=by
  show fJ _ _=_
  induction M generalizing a with
  |nil=>cases a<;>simp
  |cons x M b=>
   cases a with
   |nil=>simp
   |cons y a=>
    simp_all
@[simp] theorem VC:isD (.bl E) (.bl A2)=.ok (E==A2):=rfl
inductive Sk:List (List Str)->Prop
 |stuck {rs}:(∃r∈rs,r≠[])->free rs=none->Sk rs
 |step {rs n}:(∃r∈rs,r≠[])->free rs=some n->Sk (rs.map (cB n))->Sk rs
noncomputable def tot(rs:List (List Str)):=(rs.map ZY).sum
theorem pH(n r):(cB n r).length<=r.length:=by
 unfold cB
 grind
theorem AR(n):∀rs,tot (rs.map (cB n))<=tot rs
 |[]=>XZ _
 |r::rs=>by
  have a:=pH n r;have b:=AR n rs;simp only[tot,Za,ŀ]at *;omega
theorem uR{n}:∀{rs},(∃r∈rs,∃t,r=n::t)->tot (rs.map (cB n))<tot rs
 |[],⟨r,h,_⟩=>by simp at h
 |r0::rs,⟨r,h,t,e⟩=>by
  have b:=pH n r0;have c:=AR n rs;rcases Yo.mp h with rfl|h
  .subst e
   have a:(cB n (n::t)).length=t.length:=by unfold cB;simp_all
   simp only[tot,Za,ŀ,Y']at *;omega
  .have a:=uR ⟨r,h,t,e⟩
   simp only[tot,Za,ŀ]at *;omega
theorem sN:∀m rs,tot rs<m->(∃o,Mg rs o/\o.length<=tot rs)\/Sk rs:=by
 intro m
 induction m with
 |zero=>simp
 |succ m c=>
  intro rs h
  by_cases b:∃r∈rs,r≠[]
  .cases a:free rs with
   |none=>exact .inr (.stuck b a)
   |some n=>
    have d:=uR (mz a).1;rcases c (rs.map (cB n)) (by omega)with ⟨o,M,e⟩|S
    .exact .inl ⟨_,.step b a M,by exact Yw e d⟩
    .exact .inr (.step b a S)
  .refine .inl ⟨[],.done λr f=>?_,by simp⟩
   grind
theorem sO:∀(xs a:List Str),xs.Nodup->(∀x∈xs,x∈a)->xs.length<=a.length
 |[],_,_,_=>Yh _
 |x::xs,a,b,c=>by
  have:=sO xs (a.erase x) (by simp_all) (by grind)
  grind
abbrev qR:=Str×Str×Nat
structure zu(left:List (List Str))(met:List Str)(steps:List qR)(name:Str):Prop where
 sec:steps.map (·.2.1)=met
 fst:steps.map (·.1)=(met++[name]).tail
 OF:∀s∈steps,∃t,left[s.2.2]?=some (s.1::t)/\s.2.1∈t
 nd:met.Nodup
 hds:∀m∈met++[name],∃r∈left,∃t,r=m::t
theorem zu.step{left a steps name h t p}(c:zu left a steps name)(d:name∉a)(b:left[p]?=some (h::t))(e:name∈t):zu left (a++[name]) (steps++[(h,name,p)]) h where
 sec:=by rw[YX,c.sec];rfl
 fst:=by
  rw[YX,c.fst];cases a<;>simp
 OF:=λs hs=>by
  rcases Yz.mp hs with hs|hs
  .exact c.OF s hs
  simp_all
 nd:=Zt.mpr ⟨c.nd,by simp,by grind⟩
 hds:=λm hm=>by
  rcases Yz.mp hm with hm|hm
  .exact c.hds m hm
  .rw[W'.mp hm];exact⟨_,Yf b,t,rfl⟩
variable{P7:List qR}
theorem zu.le(c:zu M g P7 d):g.length<=M.length:=by
 simpa using (sO _ (M.map λr=>r.headD "") c.nd λm a=>by
  obtain⟨r,b,t,rfl⟩:=c.hds m (by simp[a])
  grind)
theorem zu.len(c:zu M g P7 d):P7.length=g.length:=by rw[←c.sec,Yj]
structure Gn(left:List (List Str))(ss:List qR):Prop where
 ex:∃n R,ss.map (·.1)=n::R/\ss.map (·.2.1)=R++[n]/\(n::R).Nodup
 OF:∀s∈ss,∃t,left[s.2.2]?=some (s.1::t)/\s.2.1∈t
theorem zu.ring(c:zu M g P7 d)(e:d∈g):Gn M (P7.drop (g.idxOf d)).reverse:=by
 have a:=List.idxOf_lt_length_of_mem e;have b:g.drop (g.idxOf d)=d::g.drop (g.idxOf d+1):=by rw[Î a,(List.getElem_idxOf a)]
 generalize g.idxOf _=j at *;have f:(d::g.drop (j+1)).Nodup:=by rw[←b];exact c.nd.sublist (List.drop_sublist _ _)
 have h:(P7.drop j).map (·.1)=g.drop (j+1)++[d]:=by
  rw[Ď,c.fst,List.drop_tail,List.drop_append_of_le_length a]
 have i:(P7.drop j).map (·.2.1)=d::g.drop (j+1):=by rw[Ď,c.sec,b]
 refine⟨⟨d,(g.drop (j+1)).reverse,?_,?_,?_⟩,λs k=>c.OF s (by grind)⟩
 .simp_all
 .simp_all
 grind
theorem dX:É "list_reverseiterator" "__next__" "list_reverseiterator.__next__":=
 .of (owner:="list_reverseiterator") (n:="__next__") (by rfl) (by rfl) (by rfl) (by rfl)
  (by first|exact .inl (by rfl)) (by rfl)
theorem iX:É "list_reverseiterator" "__iter__" "list_reverseiterator.__iter__":=
 .of (owner:="list_reverseiterator") (n:="__iter__") (by rfl) (by rfl) (by rfl) (by rfl)
  (by first|exact .inl (by rfl)) (by rfl)
theorem hJ:æ ç "list_reverseiterator.__next__"=some ZM.«list_reverseiterator.__next__» := abq (by kernel_rfl)
theorem iY(a):argsOk "list_reverseiterator.__next__" ⟨[a],[]⟩:=by rfl
theorem nG:æ ç "list_reverseiterator.__iter__"=some ZM.«dict_keyiterator.__iter__» :=
 abm (id':="dict_keyiterator.__iter__") (by kernel_rfl) rfl (by decide +kernel) (by kernel_rfl)
theorem oQ:É "list_reverseiterator" "__length_hint__" "list_reverseiterator.__length_hint__":=
 .of (owner:="list_reverseiterator") (n:="__length_hint__") (by rfl) (by rfl) (by rfl) (by rfl)
  (by first|exact .inr (by rfl)) (by rfl)
abbrev jX(h:F')(a l i):=h.get? a=some {cls:=.type "list_reverseiterator",data:=.fields #[.ref l,À i]}
theorem nH(b:jX m.heap h C U)(a:N1 (.ref h) m):p9 (j' v x) L (ZT (.ref h)) N1 S m:=by
 have c:m.TypeIs (.ref h) _:=⟨_,b,rfl⟩;refine abn c iX (Ŀ iX c nG (T' ⟨_,rfl,_,_,c,dX.lookup,a⟩) (by rfl))
variable{B3:Array f'}{i9:Option f'->g'->Prop}
theorem lY{s}(a:jX s.heap h C b)(i:s.heap.IsList C B3)(j:B3[b]?=some N)(k:∀c,jX c h C (b - 1)->Ã h s.heap c->i9 (some N) {s with heap:=c}):p9 (j' v x) L (Å (.ref h)) i9 S s:=by
 have g:s.TypeIs (.ref h) _:=⟨_,a,rfl⟩;refine bx i λn d _ e=>xe e λo f=>?_
 refine nc (abr (abt g dX (Ŀ dX g hJ ?_ (iY _))))
 show p9 _ _ (field _ 1 >>= _) _ _ s
 refine nc (Á a rfl rfl ?_);refine nc (Á a rfl rfl ?_);refine nc (ů d f ?_);simp only[Ł,j];refine nc (wpAny_setField_rec a (by simp) λc l m=>T' ⟨N,rfl,T' (k c l m)⟩)
theorem nI{s}(f:L.handled=none)(a:jX s.heap h C (-1))(g:∀c,(∀b o,s.heap.get? b=some o->c.get? b=some o)->i9 none {s with heap:=c}):p9 (j' v x) L (Å (.ref h)) i9 S s:=by
 have d:s.TypeIs (.ref h) _:=⟨_,a,rfl⟩;refine nc (abr (abt d dX (Ŀ dX d hJ ?_ (iY _))))
 show p9 _ _ (field _ 1 >>= _) _ _ s
 refine nc (Á a rfl rfl ?_);refine nc (Zj ?_);refine nc ?_;refine nc ?_;refine nc (m:=firstArgMember _ _) (wpAny_of_eq (by rfl) ?_)
 refine ŵ ?_ (by size_fits)
 refine nc (wpAny_handled ?_);rw[f];refine nc (T' (wpAny_throw ?_));refine nc (ĭ ⟨_,Yu _ rfl,rfl⟩ isSubtype_stop (T' (g _ λb o e=>X' _ (X' _ e))))
theorem yD(w:L.handled=none)(g l)(n:g≠l)(items):ļ v x L g [g,l] [g] items.size (λi c=>items[items.size - 1 - i]?=some c) (λi h=>jX h g l (items.size - 1 - i)/\h.IsList l items) where
 sub:=λb q=>by simp_all
 frame:=λi h k a m=>⟨m g (by simp) _ a.1,bc (a.2) λo p r=>⟨o,m l (by simp) o p,r⟩⟩
 item:=λi s Q E y a j=>by
  obtain⟨d,f⟩:=a;have t:items[items.size - 1 - i]?=some items[items.size - 1 - i]:=by simp
  refine lY (by grind) f t λk A u=>j _ k _ t ⟨?_,?_⟩ λb o q e=>u.extBut b o (λz=>q (by simp[z])) e
  .rwa[show(items.size) - 1 - ((i+1:Nat))=((items.size - 1 - i:Nat):Int) - 1 by omega]
  .obtain⟨o,p,r⟩:=f
   exact⟨o,u.extBut l o (Ya n) p,r⟩
 done:=λs Q E a j=>by
  obtain⟨d,f⟩:=a;rw[show(items.size) - 1 - ((items.size):Int) = -1 by omega]at d
  exact nI w d λk m=>j k _ λb o _ e=>m b o e
 self:=λi s Q E a j=>nH a.1 j
theorem AS(c:jX m.heap h C U)(b:M8 false m):p9 (j' v x) L (aaz (.ref h)) M8 S m:=by
 have d:m.TypeIs (.ref h) _:=⟨_,c,rfl⟩;refine nc (Ă d (by rfl) ?_)
 refine nc (Ă d oQ.lookup ?_);generalize e:("list_reverseiterator.__length_hint__")=f;subst e;refine nc (ĭ d (by rfl) ?_)
 refine Ì (λa=>absurd a (by decide)) (λ_=>?_)
 refine Ì (λ_=>?_) (λa=>absurd (by rfl) a)
 refine Ì (λa=>absurd a (by decide)) (λ_=>T' b)
theorem uS{s}(z:L.handled=none)(n:h≠C)(c:jX s.heap h C (B3.size - 1))(A:s.heap.IsList C B3)(B:B3.size<=XX)(S j k)(D:s.heap.get? S=some {cls:=.type "list",data:=.seq #[] k})(E:S≠C)(hR:∀p G a g,(∀b o,b≠S->b≠h->s.heap.get? b=some o->p.get? b=some o)->p.get? S=some {cls:=.type "list",dict:=none,data:=.seq a g,slots := #[]}->Ć (λi d=>B3[B3.size - 1 - i]?=some d) a B3.size->E4 (.ok (.ret j)) {s with heap:=p,toks:=G}):
  p9 (j' v x) L.in1 (ű (.ref S) (.ref h) j)
   (λq l=>match q with|.done f=>E4 (.ok f) l|.again g=>g.quiet=true/\YB (j' v x) L g E4 l) (λe l=>E4 (.error e) l) s:=by
 have r:S≠h:=λe=>by
  simp_all
 refine nc (ą ⟨_,c,rfl⟩ ?_);have H:ı (.ref S) (.ref h)=false:=by simp[ı,r]
 have I:(Zl "list_reverseiterator"==Zl "list")=false:=by decide
 have J:(Zl "list_reverseiterator"==Zl "tuple")=false:=by decide
 simp only[H,I,J,aaK,Ĳ,if_false];refine nc (nH c ?_);refine nc (ZF (AS c ?_));refine Ì (λt=>absurd t (by decide)) (λ_=>T' ⟨ZG aaL _,?_⟩)
 refine aaM ((yD (L:=L.in1) z h C n _).toS) B S (λu=>by
  simp_all) _ _ 0 _ _ _ rfl (Yh _) ⟨by grind,A⟩ D (aaN _) λl a g u w m=>?_
 rw[aaO u];refine hR _ _ _ g (λb o M K e=>u.heap b o (λy=>?_) e) w m
 simp_all
theorem AU{s}(y:L.handled=none)(m:h≠C)(n:jX s.heap h C (B3.size - 1))(z:s.heap.IsList C B3)(A:B3.size<=XX)(S)(p:s.heap.get? S=some {cls:=.type "list",data:=.seq #[]})(d:S≠C)(q:S≠h)(hR:∀k u a g,(∀b o,b≠S->b≠h->s.heap.get? b=some o->k.get? b=some o)->k.get? S=some {cls:=.type "list",dict:=none,data:=.seq a g,slots := #[]}->Ć (λi c=>B3[B3.size - 1 - i]?=some c) a B3.size->E4 (.ok (.ret .none)) {s with heap:=k,toks:=u}):
  p9 (j' v x) L.in1 (ZM.«list.__init__» ⟨[.ref S,.ref h],[]⟩)
   (λt l=>match t with|.done f=>E4 (.ok f) l|.again g=>g.quiet=true/\YB (j' v x) L g E4 l) (λe l=>E4 (.error e) l) s:=by
 refine nc ?_;refine nc (ů p rfl (T' ?_));refine nc (İ p rfl ?_)
 have j:∀b o,b≠S->s.heap.get? b=some o->(s.heap.update S (Z_ (λ_=>(#[])))).get? b=some o:=
  λb o B e=>(Zr _ _ (Ya B)).trans e
 refine uS y m (j h _ (Ya q) n) (by
  refine bc z λo D r=>?_
  exact⟨o,j C o (Ya d) D,r⟩) A S _ _ (Z9 _ p rfl) d λk u a g F E w=>?_
 grind
theorem oU{s}(u:L.handled=none)(m:h≠C)(f:jX s.heap h C (B3.size - 1))(r:s.heap.IsList C B3)(w:B3.size<=XX)(y:∀g n a p,(∀b o,b≠h->s.heap.get? b=some o->g.get? b=some o)->g.get? s.heap.objs.size=some {cls:=.type "list",dict:=none,data:=.seq a p,slots := #[]}->Ć (λi d=>B3[B3.size - 1 - i]?=some d) a B3.size->N1 (.ref s.heap.objs.size) {s with heap:=g,toks:=n}):
  p9 (j' v x) L (call (.type "list") [.ref h]) N1 S s:=by
 refine Ů (Q₁:=λj c=>j=.ref _/\c={s with heap:=s.heap.push _}) aaF (aaG _) aaH
  (aaI _ ⟨rfl,rfl⟩) λj c k=>?_
 obtain⟨rfl,rfl⟩:=k;have t:(s.heap.push _).get? _=some {cls:=.type "list",data:=.seq #[]}:=Yu _ rfl;refine⟨⟨_,t,rfl⟩,aaJ _ _,AU (L:=L.in1) (s:={s with heap:=s.heap.push _}) (u) m (X' _ f) (r.push _) w _ t (λe=>by obtain⟨o,A,_⟩:=r;exact Yr _ (e▸O' A)) (λe=>Yr _ (e▸O' f)) λg n a p B q l=>⟨rfl,y g n _ p (λb o D e=>B b o (λz=>absurd (O' e) (by simp_all)) D (X' _ e)) q l⟩⟩
open AutoSeq1 (wpAny_loadPart')
theorem qS:isSubtype (.type "reversed") (.type "reversed")=pure true:=by rfl
theorem mro_reversed:mroOf (.type "reversed")=pure [.type "reversed",.type "object"]:=by rfl
theorem lookup_reversed_new:à (.type "reversed") "__new__"=pure (some (.builtin "reversed.__new__")):=by rfl
theorem jY(a):checkTypeCall "reversed" ⟨[a],[]⟩=pure ():=by kernel_rfl
theorem kS(a):aaU "reversed.__new__" ⟨[.type "reversed",a],[]⟩=pure ():=by kernel_rfl
theorem entry_reversed_new:æ ç "reversed.__new__"=some ZM.«reversed.__new__» := abq (by kernel_rfl)
theorem plain_reversed_new:ŭ "reversed.__new__"=true:=by decide +kernel
theorem code_reversed_new{s}(j:s.heap.get? h=some {cls:=.type "list",dict:=none,data:=.seq B3 b,slots := #[]})(c:N1 (.ref s.heap.objs.size) {s with heap:=s.heap.push {cls:=.type "list_reverseiterator",data:=.fields #[.ref h,À (B3.size - 1)]} }):
  YB (j' v x) L (.call (.builtin "reversed.__new__") ⟨[.type "reversed",.ref h],[]⟩) (į N1 S) s:=by
 refine Ŵ ?_;refine nc (wpAny_of_eq (kS _) (T' ⟨ZG plain_reversed_new _,ZE entry_reversed_new ?_⟩));rw[ϋ plain_reversed_new _];have k:=qS;have l:s.TypeIs (.ref h) "list":=⟨_,j,rfl⟩;have m:=ł.lookup;have n:=ł.bind (.ref h);obtain⟨o,g,d,p,q⟩:=s
 wp_walk
 refine ZA (Ĵ (R:=į (λa f=>N1 a f) S) ł.plain PySem.F.entry_list_reversed (ł.check _ _ _ _ _ _ _ _ l (PySem.F.args_list_reversed_1 _) (adi h B3 b v x _ (į (λa f=>N1 a f) S) _ ⟨j,c⟩))) λr f i=>?_
 cases r with
 |error e=>exact i
 |ok fl=>
  cases fl with
  |ret a=>exact T' i
  |_=>exact i.elim
theorem oV{s}(k:s.heap.get? h=some {cls:=.type "list",dict:=none,data:=.seq B3 Θ,slots := #[]})(c:N1 (.ref s.heap.objs.size) {s with heap:=s.heap.push {cls:=.type "list_reverseiterator",data:=.fields #[.ref h,À (B3.size - 1)]} }):
  p9 (j' v x) L (call (.type "reversed") [.ref h]) N1 S s:=by
 have i:=mro_reversed;have d:=(madeBy_type mro_reversed lookup_reversed_new (by decide +kernel))
 have l:=jY (.ref h);refine ZX (Ŵ ?_)
 show p9 _ _ (callAny (.type "reversed") _) _ _ _
 refine T' ⟨ų _ (by decide +kernel),ZE F.entry_type_call ?_⟩
 rw[Around.under_plain (weight_type_call_type "reversed" [.ref h] []) rfl];have m:(Zl "reversed"==Zl "type")=false:=by decide +kernel
 have n:((abu "reversed").bind (·.mro.findSome? λt=>(abu t).bind λb=>if b.noNew then some true else if b.attrs.any (·.1=="__new__")then some false else none)).getD false=false:=by decide +kernel
 repeat (any_goals (first|assumption|wp_step))
 refine ZA (code_reversed_new (S:=S) (N1:=λa j=>a=.ref s.heap.objs.size/\j={s with heap:=s.heap.push {cls:=.type "list_reverseiterator",data:=.fields #[.ref h,À ((B3.size:Int) - 1)]} }) k ⟨rfl,rfl⟩) λr j f=>?_
 cases r with
 |error e=>exact f
 |ok fl=>
  cases fl with
  |ret a=>
   obtain⟨rfl,rfl⟩:=f;refine nc (ĭ (T:="list_reverseiterator") (b:=false) ⟨_,Yu _ rfl,rfl⟩ (by rfl) ?_)
   refine Ì (λ_=>nc (Zj (T' c))) (λg=>absurd rfl g)
  |_=>exact f.elim
def WH(c:TE)(K:K'):TE:=λd H Q=>c d H λx a=>∃l b,x=.ref l/\Rd a l (.lst b)/\∀p,a p=none->Q (.ref p) (upd a p (.lst b.reverse))
variable{S5:V'}
theorem uT(L:c.calm=true)(M:Gl c "list")(N:c.mg "list"=none)(m:Gl c "reversed")(p:c.mg "reversed"=none)(D:I' [j] c.env=[(false,eval j c.env)])(O:PE c j υ):
  PE c (.Call (.Name "list" n) [.Call (.Name "reversed" J) [j] [] S5] [] M0) (WH υ c.K):=by
 intro pins s E H Q I h;refine ZC (jg I M N Ϙ ?_ (by decide) (by decide))
 refine ô ?_ rfl rfl;refine Ģ ?_;refine ZC (jg I m p boot_reversed ?_ (by decide) (by decide))
 refine ô (cp (fg O mU D _ _ s E H (λt e=>match t with|[x]=>(∃l f,x=V.ref l/\Rd e l (.lst f)/\∀n,e n=none->Q (.ref n) (upd e n (.lst f.reverse)))|_=>False) I h) λZ s1 P=>?_) D rfl;refine aF P λt e g w y=>?_
 match t,y,w with
 |[x],y,w=>
  obtain⟨l,f,rfl,hR,q⟩:=y;obtain⟨u,rfl,R⟩:=w.one;cases R;obtain⟨z,a,d,F,A⟩:f.length<=XX/\∃(S:List _) (d:Nat),Vals f _/\s1.heap.get? l=some _:=Rd.ok hR g.hok;have T:=F.length;refine oV A ?_;refine ġ ?_;refine oU (g.ok.hd L) (Ym (O' A)) (Yu _ rfl) ⟨_,(X' _ A),rfl,d,rfl⟩ (by simp_all) λh' tk i U X B Y=>?_
  obtain⟨i1,i2⟩:=Y
  have k:i=a.reverse.toArray:=by
   apply Array.ext';apply č
   grind
  have G:L2.Inv c _ E e {s1 with heap:=s1.heap.push {cls:=.type "list_reverseiterator",data:=.fields #[.ref l,À ((a.toArray.size) - 1)]} }:=g.kept λb o j=>X' _ j
  subst k;refine⟨.ref _,_,?_,rfl,q _ (G.hok.fresh (XZ _))⟩
  exact g_ (r:=[s1.heap.objs.size]) G (λb C=>by
   have j:=by simpa using C
   subst j;exact g.yb (XZ _) (g.hok.fresh (XZ _))) (λb o C j=>X b o (λz=>C (by simp[z])) j) (XZ _) ⟨by rw[ϙ];exact z,a.reverse,U,F.reverse,B⟩
structure RB where
 name:Str
 qual:Str
 params:ţ
 body:List D'
 scope:XY
 ps:List Str
 cn:List Str
class hU where
 tab:Nat->RB
 ta:Nat->b'
inductive Cell where
 |lst (ds:List D)
 |dK (kvs:List (Key×D))
 |dT (kvs:List (List Key×D))
 |dF (kvs:List (Key×D))
 |ins (C:Str) (fs:List (Str×D))
 |fn (j:Nat) (sP:List D)
 |tb (j:Nat) (p:V') (b:Bool)
abbrev aG:=List Cell
inductive aE (α:Type) where
 |ok (a:α) (Ω:aG)
 |exc (x:D) (Ω:aG)
 |bad
noncomputable def aE.bind{c d}:aE c->(c->aG->aE d)->aE d
 |.ok a b,f=>f a b
 |.exc x b,_=>.exc x b
 |.bad,_=>.bad
abbrev bH:=List (Option D)
inductive aJ {α β:Type} (R:α->β->Prop):List α->List β->Prop where
 |nil:aJ R [] []
 |cons {a b as bs}:R a b->aJ R as bs->aJ R (a::as) (b::bs)
namespace aJ
section
variable{α β:Type}{R S:α->β->Prop}
theorem length:∀{a}{bs},aJ R a bs->bs.length=a.length
 |_,_,.nil=>rfl
 |_,_,.cons _ t=>by rw[Y',Y',length t]
theorem imp(h:∀a b,R a b->S a b):∀{c}{bs},aJ R c bs->aJ S c bs
 |_,_,.nil=>.nil
 |_,_,.cons r t=>.cons (h _ _ r) (imp h t)
theorem get:∀{c}{bs}{i:Nat}{a},aJ R c bs->c[i]?=some a->∃b,bs[i]?=some b/\R a b
 |_,_,_,_,.nil,e=>by simp at e
 |_,_,0,_,.cons r _,e=>by simp_all
 |_,_,i+1,a,.cons _ t,e=>by
  refine bc (get t (by simpa using e)) λu d f=>?_
  simp_all
theorem HS:∀{c}{bs}{i:Nat}{b},aJ R c bs->bs[i]?=some b->∃a,c[i]?=some a/\R a b
 |_,_,_,_,.nil,e=>by simp at e
 |_,_,0,_,.cons r _,e=>by simp_all
 |_,_,i+1,a,.cons _ t,e=>by
  refine bc (HS t (by simpa using e)) λu d f=>?_
  simp_all
theorem append:∀{a b}{bs c},aJ R a bs->aJ R b c->aJ R (a++b) (bs++c)
 |_,_,_,_,.nil,h=>h
 |_,_,_,_,.cons r t,h=>.cons r (append t h)
theorem one{a b}(h:R a b):aJ R [a] [b]:=.cons h .nil
theorem take:∀{a}{bs} n,aJ R a bs->aJ R (a.take n) (bs.take n)
 |_,_,0,_=>.nil
 |_,_,n+1,.nil=>.nil
 |_,_,n+1,.cons r t=>.cons r (take n t)
theorem drop:∀{a}{bs} n,aJ R a bs->aJ R (a.drop n) (bs.drop n)
 |_,_,0,h=>h
 |_,_,n+1,.nil=>.nil
 |_,_,n+1,.cons r t=>drop n t
theorem reverse:∀{a}{bs},aJ R a bs->aJ R a.reverse bs.reverse
 |_,_,.nil=>.nil
 |_,_,.cons r t=>by rw[ī,ī];exact(reverse t).append (one r)
theorem nil_inv{bs}(h:aJ R [] bs):bs=[]:=by cases h;rfl
theorem cons_inv{a c bs}(h:aJ R (a::c) bs):∃b r,bs=b::r/\R a b/\aJ R c r:=by
 cases h with
 |cons r t=>grind
end
end aJ
mutual
noncomputable def ax(d:List b')(Z:b'->Prop)(H:Hp):D->V->Prop
 |.non,v=>v=.non
 |.bl b,v=>v=.bl b
 |.int i,v=>v=.int i
 |.str x,v=>v=.str x
 |.lst e,v=>∃a c,v=.ref a/\Z a/\Rd H a (.lst c)/\f_ d Z H e c
 |.tup e,v=>∃a c,v=.ref a/\Z a/\H a=some (.tup c)/\f_ d Z H e c
 |.dct _ _,_=>False
 |.ref n,v=>∃a,d[n]?=some a/\v=.ref a
noncomputable def f_(b:List b')(Z:b'->Prop)(H:Hp):List D->List V->Prop
 |[],a=>a=[]
 |d::c,a=>∃v r,a=v::r/\ax b Z H d v/\f_ b Z H c r
end
theorem cU{f Z H}:∀{b}{a},f_ f Z H b a↔aJ (ax f Z H) b a
 |[],a=>⟨λh=>by subst h;exact .nil,λh=>h.nil_inv⟩
 |d::b,a=>by
  constructor
  .rintro⟨v,r,rfl,c,e⟩
   exact .cons c (cU.mp e)
  .intro h
   obtain⟨v,r,rfl,c,e⟩:=h.cons_inv;exact⟨v,r,rfl,c,cU.mpr e⟩
mutual
theorem ax.mono{i b:List b'}{Z j:b'->Prop}{H l:Hp}(p:∀(n:Nat) (a:b'),i[n]?=some a->b[n]?=some a)(k:∀a o,Z a->H a=some o->l a=some o)(z:∀a,Z a->j a):∀{d:D}{v:V},ax i Z H d v->ax b j l d v
 |.non,_,h=>by simpa only [ax]using h
 |.bl _,_,h=>by simpa only [ax]using h
 |.int _,_,h=>by simpa only [ax]using h
 |.str _,_,h=>by simpa only [ax]using h
 |.lst m,v,h=>by
  refine a6 h λa c e hz f g=>⟨a,c,e,z a hz,qK (λo=>k a o hz) f,f_.mono p k z g⟩
 |.tup m,v,h=>by
  refine a6 h λa c e hz f g=>⟨a,c,e,z a hz,k a _ hz f,f_.mono p k z g⟩
 |.dct q m,v,h=>by simp only[ax]at h
 |.ref n,v,h=>by
  simp only[ax]at h ⊢
  grind
theorem f_.mono{g b:List b'}{Z i:b'->Prop}{H j:Hp}(p:∀(n:Nat) (a:b'),g[n]?=some a->b[n]?=some a)(k:∀a o,Z a->H a=some o->j a=some o)(z:∀a,Z a->i a):∀{c:List D}{f:List V},f_ g Z H c f->f_ b i j c f
 |[],_,h=>by simpa only [f_]using h
 |d::c,f,h=>by
  simp only[f_]at h ⊢;refine aF h λv r e l m=>?_
  exact⟨v,r,e,ax.mono p k z l,f_.mono p k z m⟩
end
def kE{K}(R:D->V->Prop)(kvs:List (K×D))(a:List (K×V)):=aJ (λp q=>p.1=q.1/\R p.2 q.2) kvs a
variable [hU]
def gR(g:Str->b'->Prop)(R:D->V->Prop)(H:Hp)(a:b'):Cell->Prop
 |.lst h=>∃e,H a=some (.lst e)/\aJ R h e
 |.dK c=>∃b,H a=some (.dK b)/\kE R c b
 |.dT c=>False
 |.dF c=>∃o b,H a=some (.eo o (.dK b))/\kE R c b
 |.ins C i=>∃f j d,g C f/\H a=some (.ins f j d)/\kE R i d
 |_=>False
theorem kE.imp{K R S}(h:∀d v,R d v->S d v){kvs}{c:List (K×V)}(k:kE R kvs c):kE S kvs c:=aJ.imp (λa b q=>⟨q.1,h _ _ q.2⟩) k
theorem gR.imp{n R S H m a c}(h:∀d v,R d v->S d v)(e:∀o,H a=some o->m a=some o)(z:∀b o u,H b=some (.eo o u)->m b=some (.eo o u))(k:gR n R H a c):gR n S m a c:=by
 cases c with
 |lst t=>obtain⟨f,g,i⟩:=k;exact⟨f,e _ g,i.imp h⟩
 |dK l=>obtain⟨f,g,i⟩:=k;exact⟨f,e _ g,i.imp h⟩
 |dT l=>exact k.elim
 |dF l=>refine cE k λo f g i=>⟨o,f,e _ g,i.imp h⟩
 |ins C w=>refine cg k λq r f s g i=>⟨q,r,f,s,e _ g,i.imp h⟩
 |fn j sP=>exact k.elim
 |tb j p b=>exact k.elim
variable{B6:D->V->Prop}{i:Str->b'->Prop}{j5:Cell}
theorem gR.some(k:gR i B6 e h j5):e h≠none:=by
 cases j5 with
 |lst g=>obtain⟨d,a,f⟩:=k;rw[a];simp
 |dK c=>obtain⟨d,a,f⟩:=k;rw[a];simp
 |dT c=>exact k.elim
 |dF c=>obtain⟨o,d,a,f⟩:=k;rw[a];simp
 |ins C l=>refine cg k λm n d q a f=>?_;rw[a];simp
 |fn j sP=>exact k.elim
 |tb j p b=>exact k.elim
structure bO(κ:Str->b'->Prop)(α:List b')(Z:b'->Prop)(Ω:aG)(H:Hp):Prop where
 qT:α.Nodup
 AV:aJ (λc a=>gR κ (ax α Z H) H a c) Ω α
 sep:∀a∈α,¬ Z a
 dom:∀a,Z a->H a≠none
structure cM(α:List b')(Z:b'->Prop)(H:Hp)(α':List b')(Z':b'->Prop)(H':Hp):Prop where
 pre:∀(n:Nat) (a:b'),α[n]?=some a->α'[n]?=some a
 sub:∀a,Z a->Z' a
 new:∀a,Z' a->Z a\/H a=none
 Ei:∀a∈α',a∈α\/H a=none
 frm:∀a o,H a=some o->a∉α->H' a=some o
 has:∀a∈α,H' a≠none
 eo:∀a o u,H a=some (.eo o u)->H' a=some (.eo o u)
theorem cM.refl(h:∀a∈r,e a≠none):cM r o e r o e:=⟨by simp,λ_ h=>h,by simp_all,λ_ h=>.inl h,by simp_all,h,by simp⟩
variable{a:aG}
theorem bO.has(S:bO i r o a e):∀b∈r,e b≠none:=λb d=>by
 obtain⟨n,f⟩:=YL.mp d;obtain⟨c,_,h⟩:=S.AV.HS f;exact h.some
theorem cM.none{c b Z f H d}(g:cM c Z H b f d){a}(h:d a=none):H a=none:=by
 cases q:H a with
 |none=>rfl
 |some o=>
  by_cases e:a∈c
  .exact absurd h (g.has a e)
  .rw[g.frm a o q e]at h;cases h
variable{A8:List b'}{D1 P9:b'->Prop}{W7:Hp}
theorem cM.trans(g:cM r o e x0 D1 π)(d:cM x0 D1 π A8 P9 W7):cM r o e A8 P9 W7 where
 pre:=λn a b=>d.pre n a (g.pre n a b)
 sub:=λa h=>d.sub a (g.sub a h)
 new:=λa h=>by
  rcases d.new a h with h|h
  .exact g.new a h
  .exact .inr (g.none h)
 Ei:=λa h=>by
  rcases d.Ei a h with h|h
  .exact g.Ei a h
  .exact .inr (g.none h)
 frm:=λa c b f=>d.frm a c (g.frm a c b f) λh=>by
  rcases g.Ei a h with h|h
  .exact f h
  grind
 has:=λa f=>by
  obtain⟨n,i⟩:=YL.mp f;exact d.has a (Yf (g.pre n a i))
 eo:=λa c u b=>d.eo a c u (g.eo a c u b)
theorem bO.cO(S:bO i r o a e)(g:cM r o e x0 D1 π)(h:ax r o e l w):ax x0 D1 π l w:=
 h.mono g.pre (λb c z d=>g.frm b c d λf=>S.sep b f z) g.sub
theorem bO.lN(S:bO i r o a e)(g:cM r o e x0 D1 π)(h:aJ (ax r o e) p R):aJ (ax x0 D1 π) p R:=h.imp λ_ _ q=>S.cO g q
theorem bO.cell(S:bO i r o a e)(d:a[b]?=some j5):∃c,r[b]?=some c/\gR i (ax r o e) e c j5:=S.AV.get d
theorem bO.len(S:bO i r o a e):r.length=a.length:=S.AV.length
theorem bO.sQ(S:bO i r o a e)(k:e h=none)(z)[Decidable z]:bO i r (if z then Zp o h else o) a (upd e h y0)/\cM r o e r (if z then Zp o h else o) (upd e h y0):=by
 have q:∀f∈r,f≠h:=λf l j=>S.has f l (j▸k)
 have p:∀f,o f->f≠h:=λf m j=>S.dom f m (j▸k)
 have g:cM r o e r (if z then Zp o h else o) (upd e h y0):=⟨λ_ _ j=>j,(λf l=>by
  split
  .exact .inl l
  .exact l),λf l=>by
   split at l
   .rcases l with l|rfl
    .exact .inl l
    simp_all
   simp_all,λ_ l=>.inl l,λf u j _=>by rwa[aD (bb j k)],λf l=>by rw[aD (q f l)];exact S.has f l,λf s u j=>by rwa[aD (bb j k)]⟩
 refine⟨⟨S.qT,?_,λf l m=>?_,λf l=>?_⟩,g⟩
 .refine S.AV.imp λc f t=>?_
  refine t.imp (λd v n=>S.cO g n) (λu j=>?_) λb s w j=>?_
  .rwa[aD (bb j k)]
  .rwa[aD (bb j k)]
 .split at m
  .rcases m with m|rfl
   .exact S.sep f l m
   grind
  .exact S.sep f l m
 .split at l
  .rcases l with l|rfl
   .rw[aD (p f l)];exact S.dom f l
   .rw[aS];simp
  .rw[aD (p f l)];exact S.dom f l
theorem bO.laid(S:bO i r o a e){l c}(k:e h=none)(p:∀R,(∀d v,ax r o e d v->R d v)->gR i R (upd e h l) h c):bO i (r++[h]) o (a++[c]) (upd e h l)/\cM r o e (r++[h]) o (upd e h l):=by
 have q:∀f∈r,f≠h:=λf ha j=>S.has f ha (j▸k)
 have s:∀f,o f->f≠h:=λf t j=>S.dom f t (j▸k)
 have g:cM r o e (r++[h]) o (upd e h l):=⟨λn f j=>by rwa[YU (Yn.mp j).1],λ_ k=>k,λ_ k=>.inl k,by grind,λf u j _=>by rwa[aD (bb j k)],λf ha=>by rw[aD (q f ha)];exact S.has f ha,λf w u j=>by rwa[aD (bb j k)]⟩
 refine⟨⟨?_,?_,λf ha t=>?_,λf ha=>by rw[aD (s f ha)];exact S.dom f ha⟩,g⟩
 .refine Zt.mpr ⟨S.qT,by simp,λf ha b x=>?_⟩
  simp_all
 .refine aJ.append (S.AV.imp λc f p=>?_) (.one (p _ λd v m=>S.cO g m))
  refine p.imp (λd v m=>S.cO g m) (λu j=>?_) λb w y j=>?_
  .rwa[aD (bb j k)]
  .rwa[aD (bb j k)]
 .rcases Yz.mp ha with ha|ha
  .exact S.sep f ha t
  simp_all
theorem bO.put(S:bO i r o a e){n c}(H:r[n]?=some h)(z:∀y0 u,e h≠some (.eo y0 u))(K:∀R,(∀d v,ax r o e d v->R d v)->gR i R (upd e h y0) h c):bO i r o (a.set n c) (upd e h y0)/\cM r o e r o (upd e h y0):=by
 have g:cM r o e r o (upd e h y0):=⟨λn f j=>j,λ_ l=>l,λ_ l=>.inl l,λf w=>.inl w,λf u j w=>by rw[aD (λ(q:f=h)=>w (by rw[q];exact(Yf H)))];exact j,λf w=>by
   by_cases q:f=h
   .subst q;rw[aS];simp
   .rw[aD q];exact S.has f w,λf x u j=>by rw[aD (λq=>z x u (by rw[←q];exact j))];exact j⟩
 refine⟨⟨S.qT,?_,S.sep,λf w=>?_⟩,g⟩
 .have A:∀{s:List Cell}{m:List b'}{n:Nat},m.Nodup->aJ (λc f=>gR i (ax r o e) e f c) s m->m[n]?=some h->aJ (λc f=>gR i (ax r o (upd e h y0)) (upd e h y0) f c) (s.set n c) m:=by
   intro s m n B C
   induction C generalizing n with
   |nil=>intro j;simp at j
   |@cons M E s m k t F=>
    intro j;have p:=ZL.mp B;cases n with
    |zero=>
     simp at j;subst j;refine .cons (K _ λd v k=>S.cO g k) (aJ.imp (λ_ _ q=>q) ?_)
     have:∀{s:List Cell}{m:List b'},E∉m->aJ (λc f=>gR i (ax r o e) e f c) s m->aJ (λc f=>gR i (ax r o (upd e E y0)) (upd e E y0) f c) s m:=by
      intro s m y C
      induction C with
      |nil=>exact .nil
      |@cons N O s m k t F=>
       refine .cons (k.imp (λd v q=>S.cO g q) (λu j=>?_) λb x G j=>?_) (F λq=>y (ð _ q))
       .rw[aD (λq=>y (by rw[q];simp))];exact j
       .rw[aD (λq=>z x G (by rw[←q];exact j))];exact j
     exact this p.1 t
    |succ n=>
     have I:=by simpa using j
     refine .cons (k.imp (λd v q=>S.cO g q) (λu L=>?_) λb x G J=>?_) (F p.2 I)
     .rw[aD (λq=>p.1 (by rw[q];exact Yf I))];exact L
     .rw[aD (λq=>z x G (by rw[←q];exact J))];exact J
  exact A S.qT S.AV H
 .by_cases q:f=h
  .subst q;rw[aS];simp
  .rw[aD q];exact S.dom f w
abbrev iQ:=D->aG->List b'->(b'->Prop)->Hp->Prop
def ck(f:Str->b'->Prop)(Φ:iQ)(g:List b')(Z:b'->Prop)(H)(r:aE D)(Q:VK):=match r with
 |.ok d b=>∀v c a e,cM g Z H a e c->bO f a e b c->ax a e c d v->Q v c
 |.exc x b=>∀c a e,cM g Z H a e c->bO f a e b c->Φ x b a e c
 |.bad=>False
structure cV(κ:Str->b'->Prop)(WI:List b')(Z0:b'->Prop)(H0:Hp)(α:List b')(Z:b'->Prop)(Ω:aG)(ρ:bH)(σ:L2.St)(H:Hp):Prop where
 st:bO κ α Z Ω H
 gr:cM WI Z0 H0 α Z H
 len:σ.length=ρ.length
 val:∀(i:Nat) (d:D),ρ[i]?=some (some d)->∃v,σ[i]?=some (some v)/\ax α Z H d v
abbrev EM:=bH->aG->aE D
noncomputable def tO(b:Str->b'->Prop)(Φ:iQ)(a:List b')(f:b'->Prop)(g:Hp)(m:EM)(c:bH)(d:aG):TE:=λh H Q=>
 ∃e Z,cV b a f g e Z d c h H/\ck b Φ e Z H (m c d) Q
def b_(X)(b:Str->b'->Prop)(Φ e m):=∀a c d f g,PE X e (tO b Φ a c d m f g)
variable{P4:aE D}{q:iQ}
theorem ck.from(g:cM r o e x0 D1 π)(h:ck i q r o e P4 ξ):ck i q x0 D1 π P4 ξ:=by
 cases P4 with
 |ok d a=>exact λv b c f j=>h v b _ f (g.trans j)
 |exc x a=>exact λb c f j=>h b _ f (g.trans j)
 |bad=>exact h
variable{Z7:D->aG->aE D}
theorem ck.use{l}(h:ck i q r o e (P4.bind Z7) ξ)(k:∀d a,P4=.ok d a->∀v c b j,cM r o e b j c->bO i b j a c->ax b j c d v->ck i q b j c (Z7 d a) ξ->l v c):ck i q r o e P4 l:=by
 cases P4 with
 |ok d a=>exact λv c b j g s f=>k d _ rfl v c _ j g s f (ck.from g h)
 |exc x a=>exact h
 |bad=>exact h
def ck.ret(S:bO i r o a e)(b:ax r o e l w)(h:ck i q r o e (.ok l a) ξ):=h w e r o (cM.refl S.has) S b
variable{y:bH}{η:aG}
theorem cV.grow(S:cV i A8 P9 W7 r o a y u0 e)(g:cM r o e x0 D1 π)(s:bO i x0 D1 η π):cV i A8 P9 W7 x0 D1 η y u0 π:=
 ⟨s,S.gr.trans g,S.len,λb d c=>bc (S.val b d c) λv f h=>⟨v,f,S.st.cO g h⟩⟩
theorem a7(h:iW l=some w):ax r o e l w:=by
 cases l<;>first|cases h;simp only[ax]|cases h
theorem wt(h:gK l=true):∃v,iW l=some v:=by
 cases l<;>first|exact⟨_,rfl⟩|cases h
theorem ew(h:iW l=some P1)(r:Rep o e l w):w=P1:=by
 cases l<;>first | (cases h;simpa only [Rep]using r)|cases h
noncomputable def cu{a b:Type}(f:a->Option b):List a->Option (List b)
 |[]=>some []
 |x::c=>match f x,cu f c with
  |some y,some d=>some (y::d)
  |_,_=>none
def gc(c:aG):Nat->D->Option D
 |_,.non=>some .non
 |_,.bl b=>some (.bl b)
 |_,.int i=>some (.int i)
 |_,.str x=>some (.str x)
 |0,_=>none
 |n+1,.lst a=>(cu (gc c n) a).map .lst
 |n+1,.tup a=>(cu (gc c n) a).map .tup
 |n+1,.ref k=>match c[k]? with
  |some (.lst a)=>(cu (gc c n) a).map .lst
  |_=>none
 |_+1,.dct _ _=>none
def Ej(b:List b')(Z:b'->Prop):=λa=>Z a\/a∈b
theorem fB{f R S}(e:∀d d' v,f d=some d'->R d v->S d' v):∀{c a:List D}{b:List V},cu f c=some a->aJ R c b->aJ S a b
 |[],a,b,h,r=>by cases h;rw[r.nil_inv];exact .nil
 |d::c,a,b,h,r=>by
  simp only[cu]at h;split at h
  .rename_i y k l g
   cases h;obtain⟨v,i,rfl,m,j⟩:=r.cons_inv;exact .cons (by grind) (fB e g j)
  .cases h
theorem hY{Z H}:∀{a}{b},aJ (Rep Z H) a b->bp Z H a b
 |_,_,.nil=>.nil
 |_,_,.cons r t=>.cons r (hY t)
theorem mB(S:bO i r o a e):∀n {d d'}{v},gc a n d=some d'->ax r o e d v->Rep (Ej r o) e d' v:=by
 intro n
 induction n with
 |zero=>
  intro d d' v h b;cases d<;>first | (cases h;simpa only [Rep,ax]using b)|cases h
 |succ n m=>
  intro d d' v h b;cases d with
  |lst u=>
   obtain⟨w,f,rfl⟩:=YE.mp h;obtain⟨c,g,rfl,p,s,j⟩:=b;exact⟨c,g,rfl,.inl p,s,hY (fB (S:=Rep _ e) (λd d' v q b=>m q b) f (cU.mp j))⟩
  |tup u=>
   obtain⟨w,f,rfl⟩:=YE.mp h;obtain⟨c,g,rfl,p,s,j⟩:=b;exact⟨c,g,rfl,.inl p,.inl s,hY (fB (S:=Rep _ e) (λd d' v q b=>m q b) f (cU.mp j))⟩
  |ref k=>
   simp only[gc]at h;split at h
   .rename_i u x
    obtain⟨w,f,rfl⟩:=YE.mp h;refine bc (S.cell x) λc y t=>bc t λg z j=>?_
    obtain⟨A,l,rfl⟩:=b;rw[y]at l;cases l;exact⟨c,g,rfl,.inr (by grind),.inl z,hY (fB (S:=Rep _ e) (λd d' v q b=>m q b) f j)⟩
   .cases h
  |dct _ _=>cases h
  |_=>cases h;simpa only [Rep,ax]using b
theorem eM(S:bO i r o a e):∀b,Ej r o b->e b≠none:=λb h=>h.elim (S.dom b) (S.has b)
theorem bO.same(S:bO i r o a e)(h:mW e π):bO i r o a π/\cM r o e r o π:=by
 have g:cM r o e r o π:=⟨by simp,λ_ z=>z,by simp_all,λ_ z=>.inl z,λf j k _=>h f j k,λf m=>by
  cases q:e f with
  |none=>exact absurd q (S.has f m)
  |some j=>rw[h f j q];simp,λf j u k=>h f _ k⟩
 refine⟨⟨S.qT,S.AV.imp λc f n=>n.imp (λd v l=>S.cO g l) (λj k=>h f j k) λb j u k=>h b _ k,S.sep,λf z=>?_⟩,g⟩
 cases q:e f with
 |none=>exact absurd q (S.dom f z)
 |some j=>rw[h f j q];simp
theorem bO.adopt(S:bO i r o a e)(g:mW e π)(q:e h=none)(l:∀R,(∀d v,ax r o π d v->R d v)->gR i R π h j5):bO i (r++[h]) o (a++[j5]) π/\cM r o e (r++[h]) o π:=by
 obtain⟨s,m⟩:=S.same g;have t:∀c∈r,c≠h:=λc ha f=>S.has c ha (f▸q)
 have u:∀c,o c->c≠h:=λc p f=>S.dom c p (f▸q)
 have k:∀(n:Nat) (c:b'),r[n]?=some c->(r++[h])[n]?=some c:=λn c f=>by rwa[YU (by grind)]
 have mono:∀d v,ax r o π d v->ax _ o π d v:=λd v j=>j.mono k (λ_ _ _ f=>f) λ_ z=>z
 refine⟨⟨?_,?_,λc ha p=>?_,s.dom⟩,⟨k,λ_ z=>z,by grind,λc ha=>?_,m.frm,m.has,m.eo⟩⟩
 .refine Zt.mpr ⟨S.qT,by simp,λc ha b w=>?_⟩
  simp_all
 .exact aJ.append (s.AV.imp λj5 c l=>l.imp mono (λ_ f=>f) (by simp)) (.one (l _ mono))
 .rcases Yz.mp ha with ha|ha
  .exact S.sep c ha p
  simp_all
 grind
noncomputable def jZ(a:aG)(c:Cell):aE D:=.ok (.ref a.length) (a++[c])
def gS(b:aG):Out Rs->aE D
 |.ok (a,d)=>if gK d then .ok d b else match a,d with
  |true,.lst c=>if c.all gK then jZ b (.lst c)else .bad
  |_,_=>.bad
 |_=>.bad
theorem gf(S:bO i r o a e)(p):ax (r++[p]) o π (.ref a.length) (.ref p):=⟨p,by rw[←S.len];simp,rfl⟩
theorem pI{e Z f H g}:∀{a}{b},a.all gK=true->bp f g a b->aJ (ax e Z H) a b
 |[],b,_,r=>by rw[r.nil_inv];exact .nil
 |d::a,b,h,r=>by
  obtain⟨v,i,rfl,j,k⟩:=r.cons_inv;simp only[ZO,Yv]at h;obtain⟨w,c⟩:=wt h.1;obtain rfl:=ew c j;exact .cons (a7 c) (pI h.2 k)
theorem j_{f}(S:bO i r o a e)(h:ck i q r o e (gS a f) ξ):∃k d,f=.ok (k,d)/\∀v j y l,fK y e l j->fo E k l e j d v->ξ v j:=by
 cases f with
 |ok b=>
  obtain⟨k,d⟩:=b;refine⟨_,d,rfl,λv j y l g b=>?_⟩
  simp only[gS]at h;split at h
  .rename_i z
   obtain⟨w,p⟩:=wt z
   have A:=by
    have n:=b.nw;cases d with
    |non=>exact ew (o:=l) (e:=j) p n
    |bl _=>exact ew (o:=l) (e:=j) p n
    |int _=>exact ew (o:=l) (e:=j) p n
    |str _=>exact ew (o:=l) (e:=j) p n
    |_=>cases z
   subst A;obtain⟨s,t⟩:=S.same g.same;exact h v j r o t s (a7 p)
  .split at h
   .rename_i B C
    split at h
    .rename_i u
     refine cS b λm D F G x H K I J=>?_;subst x
     cases G;obtain⟨s,t⟩:=S.adopt (j5:=.lst B) g.same H (λR hR=>⟨D,I,(pI u J).imp hR⟩)
     exact h _ j _ o t s (gf S m)
    .exact h.elim
   .exact h.elim
 |exc c L=>exact h.elim
 |bad=>exact h.elim
def m1(f:D->aG->aE D)(a:EM):EM:=λb c=>(a b c).bind f
def m2(f:D->D->aG->aE D)(d e:EM):EM:=λc g=>(d c g).bind λx a=>(e c a).bind λy b=>f x y b
noncomputable def kT(a b:aE D):=match a with
 |.bad=>b
 |r=>r
def HU(f g:D->aG->aE D):=λx a=>kT (f x a) (g x a)
def gT(f g:D->D->aG->aE D):=λx y a=>kT (f x y a) (g x y a)
def nJ(f g:EM):EM:=λa b=>kT (f a b) (g a b)
def Ek(f:D->Out Rs):D->aG->aE D:=λx a=>match gc a 8 x with
 |some b=>gS a (f b)
 |none=>.bad
def iR(f:D->D->Out Rs):D->D->aG->aE D:=λx y a=>match gc a 8 x,gc a 8 y with
 |some b,some c=>gS a (f b c)
 |_,_=>.bad
def iS(b:aG):D->Option Bool
 |.ref k=>match b[k]? with
  |some (.lst c)=>some (!c.isEmpty)
  |some (.dK a)=>some (!a.isEmpty)
  |_=>none
 |d=>lX d
def dr:aE D->aE Bool
 |.ok d a=>match iS a d with
  |some b=>.ok b a
  |none=>.bad
 |.exc x a=>.exc x a
 |.bad=>.bad
def rN(f:Str->b'->Prop)(Φ:iQ)(g:List b')(Z:b'->Prop)(H)(r:aE Bool)(Q:Bool->Hp->Prop):=match r with
 |.ok b c=>∀d a e,cM g Z H a e d->bO f a e c d->Q b d
 |.exc x c=>∀d a e,cM g Z H a e d->bO f a e c d->Φ x c a e d
 |.bad=>False
def RC(b:Str->b'->Prop)(Φ:iQ)(a:List b')(f:b'->Prop)(g:Hp)(m:EM)(c:bH)(d:aG):TT:=λh H Q=>∃e Z,cV b a f g e Z d c h H/\rN b Φ e Z H (dr (m c d)) Q
def kU(X)(b:Str->b'->Prop)(Φ e m):=∀a c d f g,PT X e (RC b Φ a c d m f g)
abbrev AM:=bH->aG->aE (List D)
def pJ(e:Str->b'->Prop)(Φ:iQ)(f:List b')(Z:b'->Prop)(H)(r:aE (List D))(Q:List V->Hp->Prop):=match r with
 |.ok h b=>∀g c a d,cM f Z H a d c->bO e a d b c->aJ (ax a d c) h g->Q g c
 |.exc x b=>∀c a d,cM f Z H a d c->bO e a d b c->Φ x b a d c
 |.bad=>False
noncomputable def WJ(b:Str->b'->Prop)(Φ:iQ)(a:List b')(f:b'->Prop)(g:Hp)(m:AM)(c:bH)(d:aG):TA:=λh H Q=>∃e Z,cV b a f g e Z d c h H/\pJ b Φ e Z H (m c d) Q
def wu(X)(b:Str->b'->Prop)(Φ)(c:List x')(m):=∀a d e f g,PA X c (WJ b Φ a d e m f g)
noncomputable def ah:AM:=λ_ a=>.ok [] a
def ae(a:EM)(e:AM):AM:=λd f=>(a d f).bind λx b=>(e d b).bind λg c=>.ok (x::g) c
def mN(f:List D->aG->aE D)(a:AM):EM:=λb c=>(a b c).bind f
variable{f9:aE (List D)}{y8:List V->Hp->Prop}
theorem pJ.from(g:cM r o e x0 D1 π)(h:pJ i q r o e f9 y8):pJ i q x0 D1 π f9 y8:=by
 cases f9 with
 |ok d a=>exact λv b c f j=>h v b _ f (g.trans j)
 |exc x a=>exact λb c f j=>h b _ f (g.trans j)
 |bad=>exact h
variable{d8:Bool->Hp->Prop}{d9:aE Bool}
theorem rN.from(g:cM r o e x0 D1 π)(h:rN i q r o e d9 d8):rN i q x0 D1 π d9 d8:=by
 cases d9 with
 |ok d a=>exact λb c f j=>h b _ f (g.trans j)
 |exc x a=>exact λb c f j=>h b _ f (g.trans j)
 |bad=>exact h
variable{S6:List D->aG->aE D}
theorem pJ.use(h:ck i q r o e (f9.bind S6) ξ)(k:∀l a,f9=.ok l a->∀m c b j,cM r o e b j c->bO i b j a c->aJ (ax b j c) l m->ck i q b j c (S6 l a) ξ->y8 m c):pJ i q r o e f9 y8:=by
 cases f9 with
 |ok d a=>exact λv c b j g s f=>k d _ rfl v c _ j g s f (ck.from g h)
 |exc x a=>exact h
 |bad=>exact h
theorem PE.or(h:PE c j υ)(b:PE c j P2):PE c j (λa H Q=>υ a H Q\/P2 a H Q):=λpins s a H Q I q=>q.elim (h _ s a H Q I) (b _ s a H Q I)
theorem PT.or(h:PT c j C3)(b:PT c j k7):PT c j (λa H Q=>C3 a H Q\/k7 a H Q):=λpins s a H Q I q=>q.elim (h _ s a H Q I) (b _ s a H Q I)
variable{b9:aE D}
theorem pK:kT P4 b9=P4\/(P4=.bad/\kT P4 b9=b9):=by cases P4<;>simp[kT]
variable{t ν:EM}
theorem b_.alt(h:b_ c i q j t)(m:b_ c i q j ν):b_ c i q j (nJ t ν):=by
 intro b f k d e;refine PE.imp (PE.or (h b f k d e) (m b f k d e)) ?_;rintro n H Q ⟨l,Z,S,g⟩;rcases pK (P4:=t d e)with a|⟨_,a⟩
 .exact .inl ⟨l,Z,S,by rwa[←a]⟩
 .exact .inr ⟨l,Z,S,by rwa[←a]⟩
theorem kU.alt(h:kU c i q j t)(m:kU c i q j ν):kU c i q j (nJ t ν):=by
 intro b f k d e;refine PT.imp (PT.or (h b f k d e) (m b f k d e)) ?_;rintro n H Q ⟨l,Z,S,g⟩;rcases pK (P4:=t d e)with a|⟨_,a⟩
 .exact .inl ⟨l,Z,S,by rwa[←a]⟩
 .exact .inr ⟨l,Z,S,by rwa[←a]⟩
variable{d7:D->D->aG->aE D}
theorem jq{g}:m2 (gT d7 g) t ν=nJ (m2 d7 t ν) (m2 g t ν):=by
 funext b a
 simp only[m2,nJ];cases t b a with
 |ok x c=>
  simp only[aE.bind];cases ν b _ with
  |ok y d=>rfl
  |exc x a=>rfl
  |bad=>rfl
 |exc x a=>rfl
 |bad=>rfl
theorem HV{g}:m1 (HU Z7 g) t=nJ (m1 Z7 t) (m1 g t):=by
 funext b a
 simp only[m1,nJ];cases t b a with
 |ok x c=>rfl
 |exc x a=>rfl
 |bad=>rfl
theorem mD{r:V->Hp->VK->Prop}(h:∀f,PE c j f->PE c Q λk H a=>f k H λx m=>r x m a)(n:b_ c i q j t)(u:∀l x b Z d H a,bO i b Z d H->ax b Z H l x->ck i q b Z H (Z7 l d) a->r x H a):b_ c i q Q (m1 Z7 t):=by
 intro e o p s d;refine PE.imp (h _ (n e o p s d)) ?_;rintro k H a ⟨b,Z,S,g⟩;refine⟨b,Z,S,g.use (by grind)⟩
variable{n5:R2}
theorem eN(h:∀s tb,PE c j s->PE c Q tb->PE c A1 (Hm n5 s tb))(p:b_ c i q j t)(r:b_ c i q Q ν)(E:∀u z x y f Z k H a,bO i f Z k H->ax f Z H u x->ax f Z H z y->ck i q f Z H (d7 u z k) a->n5 x y H a):b_ c i q A1 (m2 d7 t ν):=by
 intro e m n l k;rcases b:t l k with ⟨d,o⟩|⟨x,o⟩|_
 .refine PE.imp (h _ _ (p e m n l k) (r e m n l o)) ?_
  rintro A H a ⟨f,Z,S,g⟩;refine⟨f,Z,S,ck.use g λX B C v Y F G I D J K=>?_⟩
  rw[b]at C;cases C;refine⟨_,G,S.grow I D,K.use λL M _ w N O P R T U V=>E d L v w _ P _ N a T (D.cO R J) U V⟩
 .refine PE.imp (h _ _ (p e m n l k) (r e m n l k)) ?_
  rintro A H a ⟨f,Z,S,g⟩;refine⟨f,Z,S,?_⟩;simp only[m2,b,aE.bind]at g ⊢;exact g
 .refine PE.imp (h _ _ (p e m n l k) (r e m n l k)) ?_
  rintro A H a ⟨f,Z,S,g⟩;simp only[m2,b,aE.bind]at g;exact g.elim
variable{J9:D->Out Rs}
theorem AW(S:bO i r o a e)(j:ax r o e l w)(h:ck i q r o e (Ek J9 l a) ξ):
  ∃d b d',Now (Ej r o) e d w/\J9 d=.ok (b,d')/\∀v f g,fK (Ej r o) e g f->fo E b g e f d' v->ξ v f:=by
 unfold Ek at h;split at h
 .rename_i d m
  refine cE (j_ (E:=E) S h) λb d' c k=>⟨d,_,d',(mB S 8 m j).now,c,by grind⟩
 .exact h.elim
variable{M9:D->D->Out Rs}
theorem hZ(S:bO i r o a e)(j:ax r o e l w)(m:ax r o e Y P1)(h:ck i q r o e (iR M9 l Y a) ξ):
  ∃d b c d',Now (Ej r o) e d w/\Now (Ej r o) e b P1/\M9 d b=.ok (c,d')/\∀v f g,fK (Ej r o) e g f->fo E c g e f d' v->ξ v f:=by
 unfold iR at h;split at h
 .rename_i d b n p
  refine cE (j_ (E:=E) S h) λc d' s k=>⟨d,b,_,d',(mB S 8 n j).now,(mB S 8 p m).now,s,by grind⟩
 .exact h.elim
theorem mE(k:c.N[b]?=some d)(l:rQ c.env.scope d)(e:(d==("__debug__"))=false)(f:(d==("__classdict__"))=false):b_ c i q (.Name d n) (λh j=>match h[b]? with|some (some a)=>.ok a j|_=>.bad):=by
 intro m r s h j;refine PE.imp (kH k l e f) ?_;rintro t H Q ⟨u,Z,S,g⟩;dsimp only at g;split at g
 .rename_i a e
  obtain⟨v,o,p⟩:=S.val b a e;exact⟨v,o,ck.ret S.st p g⟩
 .exact g.elim
theorem fP(h:PE c j (tC w))(b:iW l=some w):b_ c i q j (λ_ a=>.ok l a):=by
 intro d e f k a;refine PE.imp h ?_;rintro m H Q ⟨n,Z,S,g⟩;exact ck.ret S.st (a7 b) g
noncomputable def dY(b:aG):D->Option (List D)
 |.ref k=>match b[k]? with
  |some (.lst a)=>some a
  |_=>none
 |.lst a=>some a
 |_=>none
theorem bA(S:bO i r o a e)(c:ax r o e l w)(h:dY a l=some p):∃b d,w=.ref b/\Rd e b (.lst d)/\aJ (ax r o e) p d:=by
 cases l with
 |ref k=>
  simp only[dY]at h;split at h
  .rename_i n q
   cases h;obtain⟨b,s,rfl⟩:=c;refine bc (S.cell q) λt f g=>bc g λd j m=>?_
   rw[s]at f;cases f;exact⟨b,d,rfl,.inl j,m⟩
  .cases h
 |lst u=>
  cases h;obtain⟨b,d,rfl,_,j,m⟩:=c;exact⟨b,d,rfl,j,cU.mp m⟩
 |_=>cases h
theorem fu(b:ax r o e (.tup p) w):∃a d,w=.ref a/\o a/\e a=some (.tup d)/\aJ (ax r o e) p d:=by
 refine a6 b λa d c f g h=>⟨a,d,c,f,g,cU.mp h⟩
def fC(S:bO i r o a e)(d:aJ (ax r o e) p R)(k:ck i q r o e (jZ a (.lst p)) ξ):=λb g=>by
 obtain⟨h,j⟩:=S.laid (c:=.lst p) g λf hR=>⟨R,aS,d.imp hR⟩
 exact k _ _ _ o j h (gf S b)
def sR(S:bO i r o a e)(c:aJ (ax r o e) p R)(k:ck i q r o e (.ok (.tup p) a) ξ):=λb f=>by
 obtain⟨g,d⟩:=S.sQ f True;refine k _ _ _ _ d g ⟨b,R,rfl,.inr rfl,aS,cU.mpr (S.lN d c)⟩
theorem iv:wu c i q [] ah:=by
 intro a d e f h;refine PA.imp mU ?_;rintro j H Q ⟨b,Z,S,g⟩;exact g [] H b Z (cM.refl S.st.has) S.st .nil
variable{J0:AM}
theorem gg(n:b_ c i q j t)(o:wu c i q O J0)(p:I' (j::O) c.env=(false,eval j c.env)::I' O c.env):wu c i q (j::O) (ae t J0):=by
 intro b f h e k;rcases a:t e k with ⟨d,l⟩|⟨x,l⟩|_
 .refine PA.imp (fg (n b f h e k) (o b f h e l) p) ?_
  rintro u H Q ⟨m,Z,S,g⟩;refine⟨m,Z,S,?_⟩;simp only[ae,a,aE.bind]at g ⊢;intro v G A B w y C;refine⟨_,B,S.grow w y,?_⟩;have g:=pJ.from w g
  rcases r:J0 e _ with ⟨I,s⟩|⟨x,s⟩|_
  .rw[r]at g
   intro J K D L z E F;exact g _ _ _ _ z E (.cons (y.cO z C) F)
  .rwa[r]at g
  .rwa[r]at g
 .refine PA.imp (fg (n b f h e k) (o b f h e k) p) ?_
  rintro u H Q ⟨m,Z,S,g⟩;refine⟨m,Z,S,?_⟩;simp only[ae,a,aE.bind]at g ⊢;exact g
 .refine PA.imp (fg (n b f h e k) (o b f h e k) p) ?_
  rintro u H Q ⟨m,Z,S,g⟩;simp only[ae,a,aE.bind]at g;exact g.elim
def bt(a:List D)(b):=if small a.length then jZ b (.lst a)else .bad
def gU(a:List D)(b:aG):aE D:=if small a.length then .ok (.tup a) b else .bad
def qU(x y:D)(a:aG):aE D:=match dY a x,dY a y with
 |some b,some c=>if small (b.length+c.length)then jZ a (.lst (b++c))else .bad
 |_,_=>.bad
def bu(op:Û):=match op with
 |.Add=>gT qU (iR (gQ .Add))
 |op=>iR (gQ op)
theorem El(p:b_ c i q j t)(r:b_ c i q Q ν):b_ c i q (.BinOp j t9 Q n) (m2 (bu t9) t ν):=by
 have E:b_ c i q (.BinOp j t9 Q n) _:=eN (λw tb f h=>zC (uG t9) f h) p r λz A x y B Z D H a S m o g=>by
  obtain⟨d,e,F,T,G,I,J,k⟩:=hZ S m o g;exact HH (E:=false) G I (eM S) J k
 have C:t9=.Add->b_ c i q (.BinOp j t9 Q n) (m2 qU t ν):=λe=>by
  subst e;refine eN (λw tb f h=>zC (uG _) f h) p r λz A x y B Z D H a S m o g=>?_
  unfold qU at g;split at g
  .rename_i U V K L
   obtain⟨l,M,rfl,N,s⟩:=bA S m K;obtain⟨b,O,rfl,P,u⟩:=bA S o L;split at g
   .rename_i R
    exact .inr (.inr ⟨l,b,M,O,rfl,rfl,N,P,by rw[s.length,u.length];exact bI R,fC S (s.append u) g⟩)
   .exact g.elim
  .exact g.elim
 cases t9 with
 |Add=>show b_ c i q _ (m2 (gT _ _) t ν);rw[jq];exact(C rfl).alt E
 |_=>exact E
noncomputable def bz{a b:Type}[DecidableEq a](kvs:List (a×b))(k):=(kvs.find? λc=>decide (c.1=k)).map (·.2)
noncomputable def cX{b c:Type}[DecidableEq b](kvs:List (b×c))(k v):=
 if (kvs.any λa=>decide (a.1=k))=true then kvs.map (λa=>if a.1=k then (a.1,v)else a)else kvs++[(k,v)]
section
variable{κ:Type}[DecidableEq κ]{R:D->V->Prop}
theorem kE.val{kvs a}(h:kE R kvs a)(k:κ):(∀d,bz kvs k=some d->∃v,oK a k=some v/\R d v)/\(bz kvs k=none->oK a k=none):=by
 induction h with
 |nil=>exact⟨λd e=>(by cases e),λ_=>rfl⟩
 |@cons p q b g r t i=>
  obtain⟨c,j⟩:=r
  by_cases e:p.1=k
  .have f:bz (p::b) k=some p.2:=by simp[bz,ã,e]
   rw[r_ (c▸e)]
   simp_all
  .have f:bz (p::b) k=bz b k:=by simp[bz,ã,e]
   rwa[f,sd (λz=>e (c.trans z))]
theorem kE.any{kvs a}(h:kE R kvs a)(k:κ):(a.any λb=>decide (b.1=k))=kvs.any λb=>decide (b.1=k):=by
 induction h with
 |nil=>rfl
 |@cons p q c d r t e=>simp_all
theorem kE.put{kvs a}(h:kE R kvs a)(k:κ)(r:R l w):kE R (cX kvs k l) (putK a k w):=by
 unfold cX putK;rw[h.any];split
 .rename_i b
  clear b
  induction h with
  |nil=>exact .nil
  |@cons p q d f g t c=>
   refine .cons ?_ c
   by_cases e:p.1=k
   .simp_all
   simp_all
 .exact aJ.append h (.one ⟨rfl,r⟩)
theorem kE.length{kvs:List (κ×D)}{a}(h:kE R kvs a):a.length=kvs.length:=aJ.length h
end
noncomputable def uU:D->Option Key
 |.int i=>some (.inl i)
 |.str x=>some (.inr x)
 |_=>none
variable{S7:Key}
theorem ka(h:uU l=some S7)(a:ax r o e l w):w=kV S7:=by
 cases l with
 |int i=>cases h;exact a
 |str i=>cases h;exact a
 |_=>cases h
def yE(b:aG)(x y:D):=match x with
 |.ref k=>match b[k]? with
  |some (.dK a)=>(uU y).map (bz a)
  |some (.dF a)=>(uU y).map (bz a)
  |_=>none
 |_=>none
variable{χ:Option D}
theorem sS(S:bO i r o a e)(A:ax r o e l w)(y:ax r o e Y P1)(h:yE a l Y=some χ):∃b j,w=.ref b/\qB e b P1 j/\(∀d,χ=some d->∃u,j=some u/\ax r o e d u)/\(χ=none->j=none):=by
 cases l with
 |ref k=>
  simp only[yE]at h;obtain⟨b,z,rfl⟩:=A;split at h
  .rename_i m n
   obtain⟨g,p,rfl⟩:=YE.mp h;obtain⟨B,c,f,q,s⟩:=S.cell n;rw[z]at c;cases c
   obtain rfl:=ka p y;obtain⟨t,x⟩:=s.val g;exact⟨b,_,rfl,qB.k q,t,x⟩
  .rename_i m n
   obtain⟨g,p,rfl⟩:=YE.mp h;obtain⟨B,c,C,f,q,s⟩:=S.cell n;rw[z]at c;cases c
   obtain rfl:=ka p y;obtain⟨t,x⟩:=s.val g;exact⟨b,_,rfl,.inl ⟨_,g,.inr ⟨C,q⟩,rfl,rfl⟩,t,x⟩
  .cases h
 |_=>cases h
def fv(a):=iR λx y=>do let r ←eP a x y;Out.ok (false,D.bl r)
def oW(a:Bool)(y x:D)(b:aG):aE D:=match yE b x y with
 |some o=>.ok (.bl (if a then !o.isSome else o.isSome)) b
 |none=>.bad
noncomputable def kW(a:Bool)(x y:D)(b:aG):aE D:=match x,y with
 |.ref _,.non=>.ok (.bl a) b
 |_,_=>.bad
def aI(op:Zh):=match op with
 |.In=>gT (fv .In) (oW false)
 |.NotIn=>gT (fv .NotIn) (oW true)
 |.Is=>gT (kW false) (fv .Is)
 |.IsNot=>gT (kW true) (fv .IsNot)
 |op=>fv op
variable{F7:Option V}
theorem uV(a:∀d,χ=some d->∃u,F7=some u/\B6 d u)(b:χ=none->F7=none):F7.isSome=χ.isSome:=by
 cases χ with
 |none=>simp_all
 |some d=>grind
theorem iw(h:∀E tb,PE c j E->PE c Q tb->PT c A1 (zE (Hm n5 E tb)))(s:b_ c i q j t)(z:b_ c i q Q ν)(A:∀x y k d aw,d7 x y k=.ok d aw->∃b,d=.bl b)(N:∀F G x y l Z k H a,bO i l Z k H->ax l Z H F x->ax l Z H G y->ck i q l Z H (d7 F G k) a->n5 x y H a):kU c i q A1 (m2 d7 t ν):=by
 intro f n o m k;rcases e:t m k with ⟨d,p⟩|⟨x,p⟩|_
 .refine PT.imp (h _ _ (s f n o m k) (z f n o m p)) ?_
  rintro I H a ⟨l,Z,S,g⟩;refine⟨l,Z,S,?_⟩;simp only[m2,e,aE.bind]at g ⊢;intro v H1 O P J K R;refine⟨_,P,S.grow J K,?_⟩;have g:=rN.from J g
  rcases B:ν m _ with ⟨L,C⟩|⟨x,C⟩|_
  .rw[B]at g
   intro w T U V M X Y;refine N d L v w _ V _ T _ X (K.cO M R) Y ?_;have g:=rN.from M g
   dsimp only[aE.bind]at g;rcases r:d7 d L _ with ⟨d3,D⟩|⟨x,D⟩|_
   .rw[r]at g
    obtain⟨b,rfl⟩:=A _ _ _ _ _ r;intro u H3 a0 Z3 g3 s3 r3;exact⟨b,r3,g H3 _ Z3 g3 s3⟩
   .rwa[r]at g
   .rwa[r]at g
  .rwa[B]at g
  .rwa[B]at g
 .refine PT.imp (h _ _ (s f n o m k) (z f n o m k)) ?_
  rintro I H a ⟨l,Z,S,g⟩;refine⟨l,Z,S,?_⟩;simp only[m2,e,aE.bind,dr]at g ⊢;exact g
 .refine PT.imp (h _ _ (s f n o m k) (z f n o m k)) ?_
  rintro I H a ⟨l,Z,S,g⟩;simp only[m2,e,aE.bind,dr]at g;exact g.elim
noncomputable def HW(b:Bool):R2:=λy x H Q=>∃a o,x=.ref a/\qB H a y o/\Q (.bl (if b then !o.isSome else o.isSome)) H
theorem AX(b:c.A.units+1<Yk):kI c (YF .In) (HW false):=by
 intro pins s i H x y u v Q I d e h;obtain⟨a,o,rfl,g,q⟩:=h;obtain rfl:v=YI a:=e;exact QV b I g d λj f=>⟨.bl _,H,f,rfl,q⟩
theorem pL(b:c.A.units+1<Yk):kI c (YF .NotIn) (HW true):=by
 intro pins s i H x y u v Q I d e h;obtain⟨a,o,rfl,g,q⟩:=h;obtain rfl:v=YI a:=e;exact Dz b I g d λj f=>⟨.bl _,H,f,rfl,q⟩
theorem qV(S:bO i r o a e)(c:ax r o e l w)(f:ax r o e Y P1)(g:ck i q r o e (fv Y3 l Y a) ξ):Ap Y3 w P1 e ξ:=by
 obtain⟨d,b,h,p,j,m,n,k⟩:=hZ S c f g;exact HI (E:=false) j m (eM S) n k
theorem qW(S:bO i r o a e)(d:ax r o e l w)(f:ax r o e Y P1)(g:ck i q r o e (oW E l Y a) ξ):HW E w P1 e ξ:=by
 unfold oW at g;split at g
 .rename_i c h
  obtain⟨b,j,rfl,k,m,n⟩:=sS S f d h;refine⟨b,j,rfl,k,?_⟩;rw[uV m n];exact ck.ret S (a7 rfl) g
 .exact g.elim
theorem qX(b:Y3=if E then .IsNot else .Is)(S:bO i r o a e)(c:ax r o e l w)(d:ax r o e Y P1)(g:ck i q r o e (kW E l Y a) ξ):
  (if E then (P1=.non/\ξ (.bl (!decide (w=.non))) e)else (P1=.non/\ξ (.bl (decide (w=.non))) e)):=by
 unfold kW at g;split at g
 .simp only[ax]at c d
  have:=ck.ret S (a7 rfl) g
  grind
 .exact g.elim
theorem qY:∀x y f d aw,fv Y3 x y f=.ok d aw->∃t,d=.bl t:=λx y f d aw h=>by
 unfold fv iR at h;split at h
 .rename_i a b _ _
  dsimp only at h;cases q:eP Y3 a b with
  |ok t=>
   have e:(do let r ←eP Y3 a b;Out.ok (false,D.bl r))=Out.ok (false,D.bl t):=by rw[q];rfl
   rw[e]at h;cases h;simp
  |exc c g=>
   have e:(do let r ←eP Y3 a b;Out.ok (false,D.bl r))=Out.exc c g:=by rw[q];rfl
   rw[e]at h;cases h
  |bad=>
   have e:(do let r ←eP Y3 a b;Out.ok (false,D.bl r))=Out.bad:=by rw[q];rfl
   rw[e]at h;cases h
 .cases h
theorem wx:∀x y a d aw,oW E x y a=.ok d aw->∃t,d=.bl t:=λx y a d aw h=>by
 unfold oW at h
 grind
theorem wy:∀x y a d aw,kW E x y a=.ok d aw->∃t,d=.bl t:=λx y a d aw h=>by
 unfold kW at h
 grind
theorem wz(B:c.A.units+64<Yk)(h:Ě Y3 Q=false)(k:b_ c i q j t)(l:b_ c i q Q ν):b_ c i q (.Compare j [Y3] [Q] n) (m2 (aI Y3) t ν)/\kU c i q (.Compare j [Y3] [Q] n) (m2 (aI Y3) t ν):=by
 have E:b_ c i q (.Compare j _ _ n) _:=eN (λm tb b d=>jM (kO B Y3) b d h) k l λo p x y r Z s H a S e f g=>qV S e f g
 have T:kU c i q (.Compare j _ _ n) _:=iw (λm tb b d=>jN (kO B Y3) b d h) k l qY λo p x y r Z s H a S e f g=>qV S e f g
 have u:c.A.units+1<Yk:=by omega
 cases Y3 with
 |In=>
  show b_ c i q _ (m2 (gT _ _) t ν)/\kU c i q _ (m2 (gT _ _) t ν)
  rw[jq];exact⟨E.alt (eN (λm tb b d=>jM (AX u) b d h) k l λo p x y r Z s H a S e f g=>qW S e f g),T.alt (iw (λm tb b d=>jN (AX u) b d h) k l wx λo p x y r Z s H a S e f g=>qW S e f g)⟩
 |NotIn=>
  show b_ c i q _ (m2 (gT _ _) t ν)/\kU c i q _ (m2 (gT _ _) t ν)
  rw[jq];exact⟨E.alt (eN (λm tb b d=>jM (pL u) b d h) k l λo p x y r Z s H a S e f g=>qW S e f g),T.alt (iw (λm tb b d=>jN (pL u) b d h) k l wx λo p x y r Z s H a S e f g=>qW S e f g)⟩
 |Is=>
  have w:b_ c i q (.Compare j _ _ n) _:=eN (λm tb b d=>jM zD b d h) k l λo p x y r Z s H a S e f g=>qX (E:=false) rfl S e f g
  have z:kU c i q (.Compare j _ _ n) _:=iw (λm tb b d=>jN zD b d h) k l wy λo p x y r Z s H a S e f g=>qX (E:=false) rfl S e f g
  show b_ c i q _ (m2 (gT _ _) t ν)/\kU c i q _ (m2 (gT _ _) t ν)
  rw[jq];exact⟨w.alt E,z.alt T⟩
 |IsNot=>
  have w:b_ c i q (.Compare j _ _ n) _:=eN (λm tb b d=>jM vF b d h) k l λo p x y r Z s H a S e f g=>qX (E:=true) rfl S e f g
  have z:kU c i q (.Compare j _ _ n) _:=iw (λm tb b d=>jN vF b d h) k l wy λo p x y r Z s H a S e f g=>qX (E:=true) rfl S e f g
  show b_ c i q _ (m2 (gT _ _) t ν)/\kU c i q _ (m2 (gT _ _) t ν)
  rw[jq];exact⟨w.alt E,z.alt T⟩
 |Eq=>exact⟨E,T⟩
 |NotEq=>exact⟨E,T⟩
 |Lt=>exact⟨E,T⟩
 |LtE=>exact⟨E,T⟩
 |Gt=>exact⟨E,T⟩
 |GtE=>exact⟨E,T⟩
def h9(a)(x:D):=match x with
 |.tup b=>some b
 |x=>dY a x
def HX(x y:D)(a:aG):aE D:=match h9 a x,y with
 |some b,.int i=>match L2.mu b i with
  |some d=>.ok d a
  |none=>.bad
 |_,_=>.bad
def HY(x y:D)(a:aG):aE D:=match yE a x y with
 |some (some d)=>.ok d a
 |_=>.bad
def aL:=gT HX (gT HY (iR uE))
theorem nK(S:bO i r o a e)(c:ax r o e l w)(h:h9 a l=some p):∃b d,w=.ref b/\(mn G e b d\/ug G e b d)/\aJ (ax r o e) p d:=by
 unfold h9 at h;split at h
 .cases h
  obtain⟨b,d,rfl,_,f,g⟩:=fu c;exact⟨b,d,rfl,.inr (vZ (.inl f)),g⟩
 .obtain⟨b,d,rfl,f,g⟩:=bA S c h
  exact⟨b,d,rfl,.inl (nr f),g⟩
theorem Em(r:aJ B6 p R)(h:L2.mu p U=some l):∃v,L2.mu R U=some v/\B6 l v:=by
 unfold L2.mu at h ⊢;rw[r.length];cases q:L2.Ga _ U with
 |none=>simp_all
 |some n=>rw[q]at h;exact r.get h
theorem En(M:c.A.units+1<Yk)(o:vG Q)(r:b_ c i q j t)(s:b_ c i q Q ν):b_ c i q (.Subscript j Q n) (m2 aL t ν):=by
 unfold aL;rw[jq,jq];refine b_.alt ?_ (b_.alt ?_ ?_)
 .refine eN (λC tb f h=>Ge zN f h o) r s λD F x y G Z I H a S l m g=>?_
  unfold HX at g;split at g
  .rename_i T b w
   obtain⟨p,J,rfl,h2,z⟩:=nK S l w;subst m;split at g
   .rename_i d B
    obtain⟨v,K,L⟩:=Em z B;rcases h2 with h2|h2
    .exact .inl ⟨p,J,b,v,rfl,rfl,h2,K,ck.ret S L g⟩
    .exact .inr (.inl ⟨p,J,b,v,rfl,rfl,h2,K,ck.ret S L g⟩)
   .exact g.elim
  .exact g.elim
 .refine eN (λC tb f h=>DB M f h o) r s λD F x y G Z I H a S l m g=>?_
  unfold HY at g;split at g
  .rename_i d B
   obtain⟨j,U,rfl,w,h2,_⟩:=sS S l m B;obtain⟨u,rfl,z⟩:=h2 d rfl;exact⟨j,u,rfl,w,ck.ret S z g⟩
  .exact g.elim
 .refine eN (λC tb f h=>Ge zN f h o) r s λD F x y G Z I H a S l m g=>?_
  obtain⟨d,e,N,V,O,P,R,k⟩:=hZ S l m g;exact HK (E:=false) O P (eM S) R k
def iZ(n)(m:EM):=λc b=>if n=true then .ok none b else (m c b).bind λd a=>match d with
 |.int i=>.ok (some i) a
 |_=>.bad
def h_(x:D)(b c:Option Int)(a:aG):aE D:=match x,dY a x with
 |_,some d=>jZ a (.lst (et d b c))
 |.str z,none=>gS a (Al (.str z) b c)
 |_,_=>.bad
def du(e:EM)(f:Bool)(g:EM)(i:Bool)(j:EM):EM:=λa k=>(e a k).bind λx b=>(iZ f g a b).bind λl c=>(iZ i j a c).bind λh d=>h_ x l h d
def OG(X)(a:Str->b'->Prop)(Φ)(o:Option x')(n m):=(o=none/\n=true)\/∃e,o=some e/\n=false/\b_ X a Φ e m
variable{G7:Option x'}
theorem eR(h:OG c i q G7 E t)(w y z r u):∃g,PO c G7 g/\∀p H j Z Q,cV i w y z j Z u r p H ->
  (match iZ E t r u with
   |.ok l b=>∀m f o,cM j Z H f o m->bO i f o b m->Q l m
   |.exc x b=>∀m f o,cM j Z H f o m->bO i f o b m->q x b f o m
   |.bad=>False)->g p H Q:=by
 rcases h with ⟨rfl,rfl⟩|⟨e,rfl,rfl,A⟩
 .refine⟨_,by
   intro pins s p H Q I h;exact T' ⟨_,H,I,.none,h⟩,λp H j Z Q S k=>k H j Z (cM.refl S.st.has) S.st⟩
 .refine⟨_,Du (A _ y z r u),λp H j Z Q S k=>⟨j,Z,S,?_⟩⟩
  simp only[iZ,Ĳ,if_false]at k;rcases a:t r u with ⟨d,b⟩|⟨x,b⟩|_
  .rw[a]at k
   intro v B C D F G J;cases d with
   |int n=>exact⟨n,J,k B _ D F G⟩
   |_=>exact k.elim
  .rwa[a]at k
  .rwa[a]at k
variable{N5:EM}
theorem Eo{hi}(D:b_ c i q j t)(V:OG c i q G7 E ν)(F:OG c i q hi A2 N5):b_ c i q (.Subscript j (.Slice G7 hi none J) n) (du t E ν A2 N5):=by
 intro a f m e s;rcases b:t e s with ⟨d,o⟩|⟨x,o⟩|_
 .refine bc (eR V a f m e o) λtl w N=>?_
  rcases G:iZ E ν e o with ⟨l,y⟩|⟨x,y⟩|_
  .obtain⟨O,u,I⟩:=eR F a f m e y
   refine PE.imp (gY (r:=LA c.K) (jQ.or nB) (D a f m e s) w u) ?_;rintro z H Q ⟨A,Z,S,g⟩;refine⟨A,Z,S,?_⟩;simp only[du,b,G,aE.bind]at g ⊢;intro v X B Y L P r1;have g:=ck.from L g
   have S1:=S.grow L P;refine N z X B Y _ S1 ?_;rw[G];intro H2 C Z2 M R;have g:=ck.from M g
   refine I z H2 C Z2 _ (S1.grow M R) ?_;rcases q3:iZ A2 N5 e y with ⟨h,a0⟩|⟨x,a0⟩|_
   .rw[q3]at g
    intro H3 b0 Z3 g3 T;have g:=ck.from g3 g
    have r3:=R.cO g3 (P.cO M r1);dsimp only[aE.bind]at g;unfold h_ at g;split at g
    .rename_i ds hd
     obtain⟨p,vs,rfl,h1,h2⟩:=bA T r3 hd
     exact .inl ⟨p,vs,rfl,nr h1,fC T (by
       unfold et Dv;rw[h2.length];exact(h2.drop _).take _) g⟩
    ·
     subst r3;refine cE (j_ (E:=false) T g) λc0 d U k=>?_
     simp only[Al]at U;split at U
     .rename_i hs
      cases U;exact .inr ⟨_,rfl,bI hs,k _ H3 _ _ (fK.refl T.dom) (.rep (gZ rfl))⟩
     .cases U
    .exact g.elim
   .rw[q3]at g;exact g
   .rw[q3]at g;exact g
  .obtain⟨O,u,I⟩:=eR F a f m e o
   refine PE.imp (gY (r:=LA c.K) (jQ.or nB) (D a f m e s) w u) ?_;rintro z H Q ⟨A,Z,S,g⟩;refine⟨A,Z,S,?_⟩;simp only[du,b,G,aE.bind]at g ⊢;intro v X B Y L P r1;refine N z X B Y _ (S.grow L P) ?_;rw[G];intro H2 C Z2 M R;exact g H2 C Z2 (L.trans M) R
  .obtain⟨O,u,I⟩:=eR F a f m e o
   refine PE.imp (gY (r:=LA c.K) (jQ.or nB) (D a f m e s) w u) ?_;rintro z H Q ⟨A,Z,S,g⟩;simp only[du,b,G,aE.bind]at g;exact g.elim
 .obtain⟨tl,w,N⟩:=eR V a f m e s
  obtain⟨O,u,I⟩:=eR F a f m e s;refine PE.imp (gY (r:=LA c.K) (jQ.or nB) (D a f m e s) w u) ?_;rintro z H Q ⟨A,Z,S,g⟩;refine⟨A,Z,S,?_⟩;simp only[du,b,aE.bind]at g ⊢;exact g
 .obtain⟨tl,w,N⟩:=eR V a f m e s
  obtain⟨O,u,I⟩:=eR F a f m e s;refine PE.imp (gY (r:=LA c.K) (jQ.or nB) (D a f m e s) w u) ?_;rintro z H Q ⟨A,Z,S,g⟩;simp only[du,b,aE.bind]at g;exact g.elim
theorem PE.ex{b:Type}{t:b->TE}(h:∀i,PE c j (t i)):PE c j (λa H Q=>∃i,t i a H Q):=λpins s a H Q I  d =>xe d λi q=>h i _ s a H Q I q
theorem PT.ex{b:Type}{t:b->TT}(h:∀i,PT c j (t i)):PT c j (λa H Q=>∃i,t i a H Q):=λpins s a H Q I  d =>xe d λi q=>h i _ s a H Q I q
theorem PW.ex{b:Type}{t:b->TT}(h:∀i,PW c j (t i)):PW c j (λa H Q=>∃i,t i a H Q):=λd pins s a H Q I ⟨i,q⟩=>h i d _ s a H Q I q
theorem PA.ex{b:Type}{t:b->TA}(h:∀i,PA c O (t i)):PA c O (λa H Q=>∃i,t i a H Q):=λd pins s a H Q I  e =>xe e λi q=>h i _ _ s a H Q I q
def nL(c d:EM):EM:=λb e=>(c b e).bind λx a=>match iS a x with
 |some true=>d b a
 |some false=>.ok x a
 |none=>.bad
def AY(c d:EM):EM:=λb e=>(c b e).bind λx a=>match iS a x with
 |some false=>d b a
 |some true=>.ok x a
 |none=>.bad
def kb(b:EM):EM:=λc d=>(dr (b c d)).bind λt a=>.ok (.bl (!t)) a
def HZ(c d e:EM):EM:=λb f=>(dr (c b f)).bind λt a=>if t=true then d b a else e b a
theorem ia(S:bO i r o a e)(c:ax r o e l w)(h:iS a l=some E):rU G w e E:=by
 cases l with
 |non=>subst c;cases h;rfl
 |bl b=>subst c;cases h;rfl
 |int b=>subst c;cases h;rfl
 |str b=>
  subst c;have n:Now o e (.str b) (.str b):=by rfl
  exact HJ n h
 |lst q=>
  cases h;obtain⟨d,j,rfl,f,g⟩:=bA S c rfl;refine .inl ⟨j,nr f,?_⟩;have:=g.length
  grind
 |tup q=>
  cases h;obtain⟨d,j,rfl,_,f,g⟩:=fu c;refine .inr (.inl ⟨j,vZ (.inl f),?_⟩);have:=g.length
  grind
 |dct _ _=>cases h
 |ref k=>
  simp only[iS]at h;split at h
  .rename_i q s
   cases h;obtain⟨d,j,rfl,f,g⟩:=bA (p:=q) S c (by simp only[dY,s])
   refine .inl ⟨j,nr f,?_⟩;have:=g.length
   grind
  .rename_i x s
   cases h;obtain⟨d,y,rfl⟩:=c;refine bc (S.cell s) λz m t=>bc t λu f g=>?_
   rw[y]at m;cases m
   refine .inr (.inr ⟨_,f,?_⟩);have:=g.length
   grind
  .cases h
theorem rN.use{f}(h:ck i q r o e (d9.bind f) ξ)(k:∀t a,d9=.ok t a->∀c b j,cM r o e b j c->bO i b j a c->ck i q b j c (f t a) ξ->d8 t c):rN i q r o e d9 d8:=by
 cases d9 with
 |ok d a=>exact λc b j g s=>k d _ rfl c _ j g s (ck.from g h)
 |exc x a=>exact h
 |bad=>exact h
theorem rN.VD(h:rN i q r o e (dr P4) d8):ck i q r o e P4 (λv b=>∃t,rU G v b t/\d8 t b):=by
 cases P4 with
 |ok d c=>
  intro v b f j g s a;simp only[dr]at h;split at h
  .rename_i t k
   exact⟨t,ia s a k,h b _ j g s⟩
  .exact h.elim
 |exc x c=>exact h
 |bad=>exact h.elim
def Gp(X)(b:Str->b'->Prop)(Φ e m):=∀a c d f g,PW X e (RC b Φ a c d m f g)
theorem Gp.pt{X a Φ e m}(h:Gp X a Φ e m):kU X a Φ e m:=λb c d f g=>(h _ c d f g).pt
theorem Ep{d}(f:kU c i q j t):Gp c i q (.BoolOp d [j] n) t:=λo g k l m=>by
 cases d with
 |And=>
   intro p pins s b H Q I h;refine Ϭ (cp ((f _ g k l m) _ s b H Q I h) λa r e=>?_)
   cases a with
   |true=>exact isTrue_and_nil e
   |false=>exact e
 |Or=>
   intro p pins s b H Q I h;refine isTrue_or (cp ((f _ g k l m) _ s b H Q I h) λa r e=>?_)
   cases a with
   |false=>exact isTrue_or_nil e
   |true=>exact e
theorem Er(w:kU c i q j t)(y:Gp c i q (.BoolOp .And (Q::O) n) ν):Gp c i q (.BoolOp .And (j::Q::O) n) (nL t ν):=by
 intro d p r h s;refine PW.imp (pw_and (w d p r h s) (PW.ex λb=>y d p r h b)) ?_
 rintro A H k ⟨z,Z,S,g⟩;refine⟨z,Z,S,?_⟩;simp only[nL]at g;cases a:t h s with
 |ok x b=>
  rw[a]at g;dsimp only[aE.bind]at g;simp only[dr];split at g
  .rename_i e
   rw[e];exact λu l m f o=>uz ⟨_,_,m,S.grow f o,rN.from f g⟩
  .rename_i e
   rw[e];simp only[dr,e]at g;exact λu l m f o=>uy (g u _ m f o)
  .exact g.elim
 |exc x b=>rwa[a]at g
 |bad=>rwa[a]at g
theorem H_(w:kU c i q j t)(y:Gp c i q (.BoolOp .Or (Q::O) n) ν):Gp c i q (.BoolOp .Or (j::Q::O) n) (AY t ν):=by
 intro d p r h s;refine PW.imp (pw_or (w d p r h s) (PW.ex λb=>y d p r h b)) ?_
 rintro A H k ⟨z,Z,S,g⟩;refine⟨z,Z,S,?_⟩;simp only[AY]at g;cases a:t h s with
 |ok x b=>
  rw[a]at g;dsimp only[aE.bind]at g;simp only[dr];split at g
  .rename_i e
   rw[e];exact λu l m f o=>uy ⟨_,_,m,S.grow f o,rN.from f g⟩
  .rename_i e
   rw[e];simp only[dr,e]at g;exact λu l m f o=>uz (g u _ m f o)
  .exact g.elim
 |exc x b=>rwa[a]at g
 |bad=>rwa[a]at g
theorem Es(E:kU c i q A1 N5)(F:kU c i q j t)(G:kU c i q Q ν):kU c i q (.IfExp A1 j Q n) (HZ N5 t ν):=by
 intro m o p f z pins s r H a I;rintro⟨J,Z,S,g⟩;simp only[HZ]at g
 have w:RC i q m o p N5 f z r H (λd l=>∃e h k,cV i m o p h k e f r l/\rN i q h k l (dr (if d=true then t f e else ν f e)) a):=by
  refine⟨J,Z,S,?_⟩;cases b:dr _ with
  |ok d e=>
   rw[b]at g;exact λl h k A u=>⟨_,_,k,S.grow A u,rN.from A g⟩
  |exc x e=>rwa[b]at g
  |bad=>rwa[b]at g
 refine isTrue_IfExp (cp (E _ o p f z _ s r H _ I w) λv u K=>?_);refine bc K λl B y=>en y λ_ _ k C D=>?_
 cases v with
 |true=>exact F _ o p f _ _ u r l a B ⟨_,k,C,D⟩
 |false=>exact G _ o p f _ _ u r l a B ⟨_,k,C,D⟩
def qZ(g b:Zh)(h i j:EM):EM:=λc k=>(h c k).bind λx d=>(i c d).bind λy e=>(dr (fv g x y e)).bind λt a=>if t=true then (j c a).bind λz f=>fv b y z f else .ok (.bl false) a
variable{J8:Zh}
theorem AZ(S:cV i x0 D1 π r o a y u0 e)(g:ck i q r o e (qZ Y3 J8 t ν N5 y a) ξ):
  uk (Ap Y3) (Ap J8) (tO i q x0 D1 π t y a) (λu0 e ξ=>∃f,tO i q x0 D1 π ν y f u0 e ξ) (λu0 e ξ=>∃f,tO i q x0 D1 π N5 y f u0 e ξ) u0 e ξ:=by
 refine⟨r,o,S,ck.use g λx f _ v U D E A l F G=>?_⟩
 refine⟨_,_,E,S.grow A l,ck.use G λh H _ w V I X B m C j=>?_⟩
 have J:=(S.grow A l).grow B m;refine qV (q:=q) m (l.cO B F) C ?_;cases b:fv Y3 x h _ with
 |ok d n=>
  obtain⟨c,rfl⟩:=qY _ _ _ _ _ b;intro u Y K L p s M;refine⟨c,M,?_⟩;rw[b]at j;have k:=j;have k:=ck.from p k
  cases c with
  |true=>
   refine⟨_,_,L,J.grow p s,ck.use k λz N _ Z H4 O Z4 P Q R T=>qV Q (s.cO P (m.cO p C)) R T⟩
  |false=>
   exact ck.ret s (a7 rfl) k
 |exc x n=>rwa[b]at j
 |bad=>rwa[b]at j
theorem Ia(h:qZ Y3 J8 t ν N5 y a=.ok l η):∃b,l=.bl b:=by
 simp only[qZ]at h;cases c:t y a with
 |ok x e=>
  rw[c]at h;dsimp only[aE.bind]at h
  cases f:ν y _ with
  |ok d g=>
   rw[f]at h;dsimp only[aE.bind]at h
   cases i:dr _ with
   |ok b j=>
    rw[i]at h;dsimp only[aE.bind]at h
    split at h
    .cases k:N5 y _ with
     |ok z m=>rw[k]at h;exact qY _ _ _ _ _ h
     |exc _ _=>simp_all
     |bad=>simp_all
    simp_all
   |exc _ _=>simp_all
   |bad=>simp_all
  |exc _ _=>simp_all
  |bad=>simp_all
 |exc _ _=>rw[c]at h;cases h
 |bad=>rw[c]at h;cases h
def dj(f:List D->Out Rs):List D->aG->aE D:=λb a=>match cu (gc a 8) b with
 |some c=>gS a (f c)
 |none=>.bad
variable{T3:List D->Out Rs}
theorem kd(S:bO i r o a e)(n:aJ (ax r o e) p R)(h:ck i q r o e (dj T3 p a) ξ):
  ∃j b d',bp (Ej r o) e j R/\T3 j=.ok (b,d')/\∀v l m,fK (Ej r o) e m l->fo E b m e l d' v->ξ v l:=by
 unfold dj at h;split at h
 .rename_i j s
  refine cE (j_ (E:=E) S h) λb d' c k=>⟨j,_,d',hY (fB (S:=Rep _ e) (λd d' v f g=>mB S 8 f g) s n),c,by grind⟩
 .exact h.elim
theorem yF(F0:LB c b d T3)(l:cm b c.A)(m:Gl c d)(a:(d==("__debug__"))=false)(o:I' (j::O) c.env=(false,eval j c.env)::I' O c.env)(e:(Ye n (I' O c.env)).any (·.1)=false)(p:wu c i q (j::O) J0):
  b_ c i q (.Call (.Name d J) (j::O) [] n) (mN (dj T3) J0):=by
 refine dG F0.ex λf N P r s t F1=>?_
 intro h u w x y;refine PE.imp (qv F1 l m r s t .nil lF (p h u w x y) a o e) ?_;rintro R H Q ⟨z,Z,S,g⟩;refine⟨z,Z,S,pJ.use g λT B _ U V C X Y k D E=>?_⟩
 rw[YS];obtain⟨F,G,I,K,L,M⟩:=kd k D E;exact⟨_,F,_,I,eM k,K,L,M⟩
def oX(f g:List D->aG->aE D):=λa b=>kT (f a b) (g a b)
def yG(xs:List D)(a:aG):aE D:=match xs with
 |[x]=>match h9 a x with
  |some b=>.ok (.int b.length) a
  |none=>.bad
 |_=>.bad
noncomputable def A_(xs:List D)(b:aG):aE D:=match xs with
 |[.ref k]=>match b[k]? with
  |some (.dK a)=>.ok (.int a.length) b
  |some (.dF a)=>.ok (.int a.length) b
  |_=>.bad
 |_=>.bad
def nM(xs:List D)(a:aG):=match xs with
 |[x]=>match h9 a x with
  |some b=>jZ a (.lst b)
  |none=>.bad
 |_=>.bad
noncomputable def ke:Key->D
 |.inl i=>.int i
 |.inr x=>.str x
noncomputable def uW(b:aG)(x:D):=match x with
 |.ref k=>(match b[k]? with
  |some (.dK a)=>some a
  |some (.dF a)=>some a
  |_=>none)
 |_=>none
def sT(xs:List D)(b:aG):aE D:=match xs with
 |[x]=>match uW b x with
  |some a=>jZ b (.lst (a.map λc=>ke c.1))
  |none=>.bad
 |_=>.bad
def sU(xs:List D)(b:aG):=match xs with
 |[x]=>match uW b x with
  |some a=>jZ b (.dK a)
  |none=>.bad
 |_=>.bad
def sV:D->Option (Key×D)
 |.tup [k,v]=>(uU k).map λk=>(k,v)
 |_=>none
def lO(xs:List D)(b:aG):aE D:=match xs with
 |[x]=>match dY b x with
  |some c=>match cu sV c with
   |some d=>jZ b (.dK (d.foldl (λa p=>cX a p.1 p.2) []))
   |none=>.bad
  |none=>.bad
 |_=>.bad
def eS:=oX lO sU
def nN(xs:List D)(a:aG):aE D:=match xs with
 |[.tup b]=>.ok (.tup b) a
 |[x]=>match dY a x with
  |some b=>.ok (.tup b) a
  |none=>.bad
 |_=>.bad
def Ib:List D->Out Rs
 |[.str z]=>if small z.length then .ok (false,.int z.length)else .bad
 |_=>.bad
def Ic:List D->Out Rs
 |[.lst a]=>match fY a with|some bs=>.ok (false,.bl (bs.all id))|none=>.bad
 |_=>.bad
def Ie:List D->Out Rs
 |[.lst a]=>match fY a with|some bs=>.ok (false,.bl (bs.any id))|none=>.bad
 |_=>.bad
def Ba:mw->List D->Out Rs
 |.len=>Ib
 |.all=>Ic
 |.any=>Ie
 |_=>λ_=>.bad
def q_(f):=dj (Ba f)
def aX(f:mw):=match f with
 |.len=>oX yG (oX A_ (q_ .len))
 |.list=>oX nM sT
 |.tuple=>nN
 |f=>q_ f
theorem rb{g}:mN (oX S6 g) J0=nJ (mN S6 J0) (mN g J0):=by
 funext b a
 simp only[mN,nJ];cases J0 b a with
 |ok x c=>rfl
 |exc x a=>rfl
 |bad=>rfl
variable{A3:String}{x8:List V->Hp->VK->Prop}
theorem ib(l:fb c (.builtin A3) x8)(m:Gl c d)(o:c.mg d=none)(p:ZR d=some (.builtin A3))(r:d≠"__name__")(e:(d==("__debug__"))=false)(s:I' (j::O) c.env=(false,eval j c.env)::I' O c.env)(f:(Ye n (I' O c.env)).any (·.1)=false)(t:wu c i q (j::O) J0)(y:∀xs k a Z b H Q,bO i a Z b H->aJ (ax a Z H) xs k->ck i q a Z H (S6 xs b) Q->x8 k H Q):b_ c i q (.Call (.Name d J) (j::O) [] n) (mN S6 J0):=by
 intro h u w x b;refine PE.imp (mV l m o p (t h u w x b) r e s f) ?_;rintro z H Q ⟨a,Z,S,g⟩;exact⟨a,Z,S,pJ.use g (by grind)⟩
theorem ic(l:fb c (.type A3) x8)(m:Gl c d)(o:c.mg d=none)(p:ZR d=some (.type A3))(r:d≠"__name__")(e:(d==("__debug__"))=false)(s:I' (j::O) c.env=(false,eval j c.env)::I' O c.env)(f:(Ye n (I' O c.env)).any (·.1)=false)(t:wu c i q (j::O) J0)(y:∀xs k a Z b H Q,bO i a Z b H->aJ (ax a Z H) xs k->ck i q a Z H (S6 xs b) Q->x8 k H Q):b_ c i q (.Call (.Name d J) (j::O) [] n) (mN S6 J0):=by
 intro h u w x b;refine PE.imp (yg l m o p (t h u w x b) r e s f) ?_;rintro z H Q ⟨a,Z,S,g⟩;exact⟨a,Z,S,pJ.use g (by grind)⟩
theorem ix{Z H}:∀{b}{a},bp Z H b a->Aq Z H b a
 |[],a,h=>h.nil_inv
 |d::b,a,h=>by
  obtain⟨v,r,rfl,c,e⟩:=h.cons_inv;exact⟨v,r,rfl,c.now,ix e⟩
variable{A:List (Key×D)}
theorem nO(S:bO i r o a e)(f:ax r o e l w)(h:uW a l=some A):∃b c,w=.ref b/\Rd e b (.dK c)/\kE (ax r o e) A c:=by
 unfold uW at h;split at h
 .obtain⟨b,n,rfl⟩:=f
  split at h
  .rename_i g j
   cases h;obtain⟨p,d,c,k,m⟩:=S.cell j;rw[n]at d;cases d
   exact⟨b,_,rfl,.inl k,m⟩
  .rename_i g j
   cases h;obtain⟨p,d,q,c,k,m⟩:=S.cell j;rw[n]at d;cases d
   exact⟨b,_,rfl,.inr ⟨q,k⟩,m⟩
  .cases h
 .cases h
variable{B5:List (Key×V)}
def Bb(S:bO i r o a e)(b:kE (ax r o e) A B5)(k:ck i q r o e (jZ a (.dK A)) ξ):=λp d=>by
 obtain⟨f,g⟩:=S.laid (c:=.dK _) d λR hR=>⟨_,aS,b.imp hR⟩
 exact k _ _ _ _ g f (gf S p)
theorem Et(S:bO i r o a e)(f:aJ (ax r o e) p R)(g:ck i q r o e (sU p a) ξ):∃b kvs,R=[V.ref b]/\Rd e b (.dK kvs)/\∀l,e l=none->ξ (.ref l) (upd e l (.dK kvs)):=by
 unfold sU at g;split at g
 .split at g
  .rename_i kvs h
   obtain⟨v,c,rfl,j,k⟩:=f.cons_inv;rw[k.nil_inv];obtain⟨b,d,rfl,m,n⟩:=nO S j h;exact⟨b,_,rfl,m,Bb S n g⟩
  .exact g.elim
 .exact g.elim
theorem pM{k Z H}:∀{j}{g}{ps},aJ (ax k Z H) j g->cu sV j=some ps->∃c,kE (ax k Z H) ps c/\YO (λp y=>∃b,y=.ref b/\Rd H b (.tup [kV p.1,p.2])) c g
 |[],g,ps,r,h=>by cases h;rw[r.nil_inv];exact⟨[],.nil,.nil⟩
 |d::j,g,ps,r,h=>by
  simp only[cu]at h;split at h
  .rename_i y B i l
   cases h;refine aF r.cons_inv λv m e n o=>?_;subst e
   obtain⟨c,q,s⟩:=pM o l;unfold sV at i;split at i
   .obtain⟨t,u,rfl⟩:=YE.mp i
    refine a6 (fu n) λa C e _ w f=>?_;subst e
    obtain⟨E,F,rfl,x,f⟩:=f.cons_inv;obtain⟨z,G,rfl,A,f⟩:=f.cons_inv;obtain rfl:=f.nil_inv;obtain rfl:=ka u x;exact⟨(t,z)::c,.cons ⟨rfl,A⟩ q,.cons ⟨a,rfl,.inl w⟩ s⟩
   .cases i
  .cases h
theorem Eu(S:bO i r o a e)(u:aJ (ax r o e) p R)(g:ck i q r o e (lO p a) ξ):∃d m ps,R=[V.ref d]/\Rd e d (.lst m)/\YO (λ(c:Key×V) y=>∃b,y=.ref b/\Rd e b (.tup [kV c.1,c.2])) ps m/\∀l,e l=none->ξ (.ref l) (upd e l (.dK (ps.foldl (λd c=>putK d c.1 c.2) []))):=by
 unfold lO at g;split at g
 .split at g
  .rename_i G w
   split at g
   .rename_i ps x
    obtain⟨v,n,rfl,z,A⟩:=u.cons_inv;rw[A.nil_inv];obtain⟨d,m,rfl,B,C⟩:=bA S z w;obtain⟨j,D,E⟩:=pM C x;refine⟨d,m,_,rfl,B,E,Bb S ?_ g⟩
    have:∀{ps:List _}{j:List _}{k:List _}{f:List (Key×V)},kE _ k f->kE (ax r o e) ps j->kE (ax r o e) (ps.foldl (λd c=>cX d c.1 c.2) k) (j.foldl (λd c=>putK d c.1 c.2) f):=λ{ps j k f} s h=>by
     induction h generalizing k f with
     |nil=>exact s
     |@cons c h _ _ t _ F=>
      simp;refine F ?_;rw[t.1];exact s.put _ t.2
    exact this .nil D
   .exact g.elim
  .exact g.elim
 .exact g.elim
theorem Ew{f}(s:c.calm=true)(U:f∈[mw.len,mw.all,mw.any,mw.list,mw.tuple])(F:Gl c f.nm)(I:c.mg f.nm=none)(L:I' (j::O) c.env=(false,eval j c.env)::I' O c.env)(m:(Ye n (I' O c.env)).any (·.1)=false)(y:wu c i q (j::O) J0):
  b_ c i q (.Call (.Name f.nm J) (j::O) [] n) (mN (aX f) J0):=by
 cases f with
 |len=>
  show b_ c i q _ (mN (oX yG (oX A_ (q_ .len))) J0)
  rw[rb,rb];refine b_.alt ?_ (b_.alt ?_ ?_)
  .refine ib qy F I Ϛ (by decide) (by decide) L m y ?_
   intro R vs z Z D H Q S o g;unfold yG at g;split at g
   .split at g
    .rename_i M V
     obtain⟨v,r,rfl,p,u⟩:=o.cons_inv;rw[u.nil_inv];obtain⟨l,N,rfl,P,T⟩:=nK (G:=c.K) S p V;exact⟨l,N,rfl,P,by rw[T.length];exact ck.ret S (a7 rfl) g⟩
    .exact g.elim
   .exact g.elim
  .refine ib yo F I Ϛ (by decide) (by decide) L m y ?_
   intro R vs z Z D H Q S o g;unfold A_ at g;split at g
   .split at g
    .rename_i w X
     obtain⟨v,r,rfl,p,u⟩:=o.cons_inv;rw[u.nil_inv];simp only[ax]at p;obtain⟨a,y,rfl⟩:=p;obtain⟨a',A,b,Y,h2⟩:=S.cell X;rw[y]at A;cases A
     exact⟨a,b,rfl,.inl Y,by rw[h2.length];exact ck.ret S (a7 rfl) g⟩
    .rename_i w X
     obtain⟨v,r,rfl,p,u⟩:=o.cons_inv;rw[u.nil_inv];simp only[ax]at p;obtain⟨a,y,rfl⟩:=p;obtain⟨a',A,of,b,Y,h2⟩:=S.cell X;rw[y]at A;cases A
     exact⟨a,b,rfl,.inr ⟨of,Y⟩,by rw[h2.length];exact ck.ret S (a7 rfl) g⟩
    .exact g.elim
   .exact g.elim
  .refine ib qz F I Ϛ (by decide) (by decide) L m y ?_
   intro a0 b0 z Z D H Q S o g;obtain⟨M,c0,d,B,e,k⟩:=kd (E:=false) S o g;have B:=ix B;have C:=eM S;replace e:Ib M=_:=e;unfold Ib at e;split at e
   .obtain⟨x,rfl,h⟩:=B.one
    cases dH h;split at e
    .rename_i hs
     cases e;exact⟨_,rfl,bI hs,kP C k rfl⟩
    .cases e
   .cases e
 |all=>
  refine ib (AA s) F I boot_all (by decide) (by decide) L m y ?_
  intro a0 b0 z Z D H Q S o g;obtain⟨M,c0,d,B,e,k⟩:=kd (E:=false) S o g;have B:=ix B;have C:=eM S;replace e:Ic M=_:=e;unfold Ic at e;split at e
  .obtain⟨x,rfl,h⟩:=B.one
   split at e
   .rename_i bs hb
    cases e;exact⟨_,_,bs,x,rfl,h,hb,kP C k rfl⟩
   .cases e
  .cases e
 |any=>
  refine ib (AB s) F I boot_any (by decide) (by decide) L m y ?_
  intro a0 b0 z Z D H Q S o g;obtain⟨M,c0,d,B,e,k⟩:=kd (E:=false) S o g;have B:=ix B;have C:=eM S;replace e:Ie M=_:=e;unfold Ie at e;split at e
  .obtain⟨x,rfl,h⟩:=B.one
   split at e
   .rename_i bs hb
    cases e;exact⟨_,_,bs,x,rfl,h,hb,kP C k rfl⟩
   .cases e
  .cases e
 |int=>simp at U
 |min=>simp at U
 |max=>simp at U
 |list=>
  show b_ c i q _ (mN (oX nM sT) J0)
  rw[rb]
  refine b_.alt ?_ (ic (uB s) F I Ϙ (by decide) (by decide) L m y λR vs z Z D H Q S o g=>by
    unfold sT at g;split at g
    .split at g
     .rename_i w X
      obtain⟨v,r,rfl,p,u⟩:=o.cons_inv;rw[u.nil_inv];obtain⟨a,b,rfl,Y,h2⟩:=nO S p X;refine⟨a,_,rfl,Y,fC S ?_ g⟩
      have:∀{w:List _}{b:List _},kE (ax z Z H) w b->aJ (ax z Z H) (w.map λkv=>ke kv.1) (b.map λkv=>kV kv.1):=λ{w b} t=>by
       induction t with
       |nil=>exact .nil
       |@cons J t _ _ hq _ ih=>
        refine .cons ?_ ih
        show ax z Z H (ke _) (kV _)
        rw[hq.1];cases t.1<;>simp only[ke,kV,ax]
      exact this h2
     .exact g.elim
    .exact g.elim)
  refine ic qA F I Ϙ (by decide) (by decide) L m y ?_
  intro R vs z Z D H Q S o g;have g:ck i q z Z H (nM R D) Q:=g;unfold nM at g;split at g
  .split at g
   .rename_i M V
    obtain⟨v,r,rfl,p,u⟩:=o.cons_inv;rw[u.nil_inv];obtain⟨l,N,rfl,P,T⟩:=nK (G:=c.K) S p V;exact⟨l,N,rfl,P,fC S T g⟩
   .exact g.elim
  .exact g.elim
 |tuple=>
  refine ic oJ F I boot_tuple (by decide) (by decide) L m y ?_
  intro R vs z Z D H Q S o g;have g:ck i q z Z H (nN R D) Q:=g;unfold nN at g;split at g
  .obtain⟨v,r,rfl,p,u⟩:=o.cons_inv
   rw[u.nil_inv];have d0:=p;obtain⟨l,N,rfl,_,P,T⟩:=fu p;exact⟨l,N,rfl,.inr ⟨vZ (.inl P),ck.ret S d0 g⟩⟩
  .split at g
   .rename_i M V
    obtain⟨v,r,rfl,p,u⟩:=o.cons_inv;rw[u.nil_inv];obtain⟨l,N,rfl,P,T⟩:=bA S p V;exact⟨l,N,rfl,.inl ⟨nr P,sR S T g⟩⟩
   .exact g.elim
  .exact g.elim
 |sorted=>simp at U
 |bool=>simp at U
def RD(t):=Ek λd=>match Am d t with|some b=>.ok (false,.bl b)|none=>.bad
noncomputable def Ig(t:Ty)(x:D)(a:aG):aE D:=match x with
 |.ref k=>match a[k]? with
  |some (.lst _)=>.ok (.bl (t==.list)) a
  |some (.dK _)=>.ok (.bl (t==.dict)) a
  |_=>.bad
 |.lst _=>.ok (.bl (t==.list)) a
 |.tup _=>.ok (.bl (t==.tuple)) a
 |_=>.bad
def gV(t):=HU (Ig t) (RD t)
def Gq(K:K'):List V->Hp->VK->Prop:=λd H Q=>∃a c t,d=[.ref a,.ty (Ty.id t)]/\((Rd H a (.lst c)/\Q (.bl (t==.list)) H)\/(Rd H a (.tup c)/\Q (.bl (t==.tuple)) H)\/(∃b,H a=some (.dK b)/\Q (.bl (t==.dict)) H))
theorem yH:fb c (.builtin "isinstance") (Gq c.K):=by
 intro pins s j H p w Q I r h;obtain⟨a,x,t,rfl,h⟩:=h;obtain⟨u,y,rfl,f,k⟩:=vals2 r;cases (k);refine dU (wc c.K t) λA B C D i g=>xa g λl m=>?_
 rcases h with ⟨b,q⟩|⟨b,q⟩|⟨n,b,q⟩
 .have e:∀d,EP c _ j Q _ _:=λd=>⟨.bl _,H,I.tok d,rfl,q⟩
  rcases b with b|⟨o,b⟩
  .exact df I f (.lst b) i e
  .exact df I f (.eo b) i e
 .cases f
  exact Zd ş I.eY (lJ (K:=c.K) I b) l (λz=>nomatch z) (λd=>⟨.bl _,H,I.tok d,rfl,q⟩)
 .exact df I f (.dK b) m (λd=>⟨.bl _,H,I.tok d,rfl,q⟩)
theorem Ex(F:Gl c "isinstance")(G:c.mg "isinstance"=none)(y:Gl c N2.nm)(z:c.mg N2.nm=none)(u:I' [j,Ñ N2.nm M0] c.env=(false,eval j c.env)::I' [Ñ N2.nm M0] c.env)(h:(Ye n (I' [Ñ N2.nm M0] c.env)).any (·.1)=false)(w:b_ c i q j t):
  b_ c i q (.Call (.Name "isinstance" J) [j,.Name N2.nm M0] [] n) (m1 (gV N2) t):=by
 have l:PE c (.Name N2.nm M0) (tC (.ty N2.id)):=Dm y z (by cases N2<;>decide +kernel) rfl (by cases N2<;>decide) (by cases N2<;>decide)
 unfold gV;rw[HV];refine b_.alt ?_ ?_
 .refine mD (r:=λx H Q=>Gq c.K [x,.ty N2.id] H Q) (λM A=>mV yH F G abv (fg A (fg l mU rfl) u) (by decide) (by decide) u h) w ?_
  intro N x O Z P H Q S f g;unfold Ig at g;split at g
  .split at g
   .rename_i k B C
    obtain⟨j,m,rfl,e,I⟩:=bA (p:=B) S f (by simp only[dY,C])
    exact⟨j,m,N2,rfl,.inl ⟨e,ck.ret S (a7 rfl) g⟩⟩
   .rename_i k R C
    obtain⟨j,w,rfl⟩:=f;refine bc (S.cell C) λV o D=>bc D λs e _=>?_
    rw[w]at o;cases o
    exact⟨j,[],N2,rfl,.inr (.inr ⟨s,e,ck.ret S (a7 rfl) g⟩)⟩
   .exact g.elim
  .rename_i B
   obtain⟨j,m,rfl,e,I⟩:=bA (p:=B) S f rfl;exact⟨j,m,N2,rfl,.inl ⟨e,ck.ret S (a7 rfl) g⟩⟩
  .obtain⟨j,m,rfl,_,e,I⟩:=fu f
   exact⟨j,m,N2,rfl,.inr (.inl ⟨.inl e,ck.ret S (a7 rfl) g⟩)⟩
  .exact g.elim
 .refine mD (r:=λx H Q=>LC c.K [x,.ty N2.id] H Q) (λM A=>mV AD F G abv (fg A (fg l mU rfl) u) (by decide) (by decide) u h) w ?_
  intro N x O Z P H Q S f g;refine cg (AW (E:=false) S f g) λd T X U L k=>?_
  cases a:Am d N2 with
  |none=>simp_all
  |some b=>
   rw[a]at L;cases L;exact⟨_,d,x,N2,b,rfl,U,a,kP (eM S) k rfl⟩
def dv(b:aG->D->Bool)(f:D->List D->aG->aE D)(e:EM)(g:AM):EM:=λd h=>(e d h).bind λx a=>if b a x=true then (g d a).bind λi c=>f x i c else .bad
def jr(a x):=(dY a x).isSome
noncomputable def LY(_:aG)(x:D):=match x with
 |.str _=>true
 |_=>false
theorem nP(S:bO i r o a e)(b:ax r o e l w)(h:jr a l=true):Kc G "list" w e:=by
 unfold jr at h;cases q:dY a l with
 |none=>simp_all
 |some g=>
  obtain⟨c,d,rfl,f,j⟩:=bA S b q;exact .inl ⟨rfl,d,nr f⟩
variable{L9:D->List D->aG->aE D}{P5:String}{V8:aG->D->Bool}{i8:V->List V->Hp->VK->Prop}
theorem Ey(u:Ĩ A3)(slot:É A3 d P5)(h:ĩ (.builtin P5)=pure (.type "method_descriptor"))(w:K_ c P5 i8)(y:∀x v a Z b H,bO i a Z b H->ax a Z H x v->V8 b x=true->Kc c.K A3 v H)(z:∀x v xs m a Z b H Q,bO i a Z b H->ax a Z H x v->aJ (ax a Z H) xs m->ck i q a Z H (L9 x xs b) Q->i8 v m H Q)(e:Zc j d c.env (eval j c.env)=eval j c.env)(f:(n.endLine==J.line)=true)(A:b_ c i q j t):b_ c i q (.Call (.Attribute j d n) [] [] J) (dv V8 L9 t ah):=by
 intro k B C D b;refine PE.imp (L2.Hz u slot h w (A k B C D b) e f) ?_;rintro I H Q ⟨a,Z,S,g⟩;refine⟨a,Z,S,ck.use g λx E _ v o F p L r s l=>?_⟩
 split at l
 .rename_i G
  exact⟨y x v _ p _ o r s G,z x v [] [] _ p _ o Q r s .nil l⟩
 .exact l.elim
theorem uX{cpos env}:∀{a},(∀e∈a,isStar e=false)->((Ye cpos (I' a env)).all (λx=>!x.1))=true
 |[],_=>rfl
 |e::a,h=>by
  rw[bF (h e (by simp))]
  show(!false&&(Ye _ _).all _)=true
  rw[uX (by grind)];rfl
theorem nQ(B:Ĩ A3)(slot:É A3 d P5)(o:ĩ (.builtin P5)=pure (.type "method_descriptor"))(C:K_ c P5 i8)(hT:∀x v b Z e H,bO i b Z e H->ax b Z H x v->V8 e x=true->Kc c.K A3 v H)(D:∀x v xs m b Z e H a,bO i b Z e H->ax b Z H x v->aJ (ax b Z H) xs m->ck i q b Z H (L9 x xs e) a->i8 v m H a)(f:Zc Q d c.env (eval Q c.env)=eval Q c.env)(h:(n.endLine==J.line)=true)(E:b_ c i q Q t)(F:wu c i q (j::O) J0)(p:∀z∈j::O,isStar z=false)(s:(j::O).length<20):b_ c i q (.Call (.Attribute Q d n) (j::O) [] J) (dv V8 L9 t J0):=by
 intro k u w y e
 refine PE.imp (L2.Ld B slot o C (E k u w y e) (PA.ex λl=>F k u w y l) f (by
  rw[uX p,decide_eq_true (by grind)];rfl) h (bF (by simp_all)) (bG (by grind))) ?_
 rintro σ H a ⟨b,Z,S,g⟩;refine⟨b,Z,S,ck.use g λx l _ v H1 G I L A M r=>?_⟩
 split at r
 .exact⟨by grind,_,_,I,S.grow L A,pJ.use r λxs N _ m P R T U V X Y=>D x v xs m _ T _ P a V (A.cO U M) X Y⟩
 .exact r.elim
noncomputable def rf(a:aG):D->Option (Nat×List D)
 |.ref k=>match a[k]? with
  |some (.lst b)=>some (k,b)
  |_=>none
 |_=>none
theorem ie(S:bO i r o a e)(d:ax r o e l w)(h:rf a l=some (b,p)):∃c f,w=.ref c/\r[b]?=some c/\e c=some (.lst f)/\aJ (ax r o e) p f:=by
 cases l with
 |ref n=>
  simp only[rf]at h;split at h
  .rename_i j k
   simp only[ax]at d;refine bc (S.cell k) λq m g=>bc g λf s t=>?_
   simp_all
  .cases h
 |_=>cases h
theorem kf(S:bO i r o a e)(m:r[b]?=some h)(t:e h=some (.lst z5))(d:aJ (ax r o e) p R)(n:ax r o e l w)(g:ck i q r o e (.ok l (a.set b (.lst p))) ξ):ξ w (upd e h (.lst R)):=by
 obtain⟨s,k⟩:=S.put (c:=.lst p) m (λf w z=>by simp_all) λj hR=>⟨R,aS,d.imp hR⟩
 exact g _ _ _ _ k s (S.cO k n)
def bX(x:D)(xs:List D)(a:aG):aE D:=match rf a x,xs with
 |some (k,b),[y]=>if small (b.length+1)then .ok .non (a.set k (.lst (b++[y])))else .bad
 |_,_=>.bad
def eT(x:D)(xs:List D)(a:aG):aE D:=match rf a x,xs with
 |some (k,b),[]=>.ok .non (a.set k (.lst b.reverse))
 |_,_=>.bad
def iy(x:D)(xs:List D)(a:aG):aE D:=match rf a x,xs with
 |some (k,b),[.int i,y]=>if small (b.length+1)&&oP i then .ok .non (a.set k (.lst (qJ b i y)))else .bad
 |_,_=>.bad
def iz(x:D)(xs:List D)(a:aG):aE D:=match rf a x,xs with
 |some (k,b),[y]=>match rf a y with
  |some (_,c)=>if small (b.length+c.length)then .ok .non (a.set k (.lst (b++c)))else .bad
  |none=>.bad
 |_,_=>.bad
def e_(x)(xs:List D)(c:aG):=match xs with
 |[y]=>iR (λa b=>match a with|.lst d=>uF .index (.lst d) (.tup [b])|_=>.bad) x y c
 |_=>.bad
def sW(x)(xs:List D)(c:aG):=match xs with
 |[y]=>iR (λa b=>uF .join a (.tup [b])) x y c
 |_=>.bad
theorem iA(h:aJ B6 [l] R):∃v,R=[v]/\B6 l v:=by
 obtain⟨v,r,rfl,b,a⟩:=h.cons_inv;rw[a.nil_inv];simp_all
theorem wD(h:aJ B6 [l,Y] R):∃v w,R=[v,w]/\B6 l v/\B6 Y w:=by
 obtain⟨v,r,rfl,b,a⟩:=h.cons_inv;obtain⟨w,rfl,c⟩:=iA a
 grind
theorem yJ(S:bO i r o a e)(b:ax r o e l w)(rs:aJ (ax r o e) p R)(g:ck i q r o e (bX l p a) ξ):vH w R e ξ:=by
 unfold bX at g;split at g
 .rename_i k t y h
  obtain⟨c,j,rfl,m,d,f⟩:=ie S b h;obtain⟨u,rfl,n⟩:=iA rs;split at g
  .rename_i s
   have:=bI s;exact⟨c,j,u,rfl,rfl,d,by rwa[f.length],kf S m d (f.append (.one n)) (a7 rfl) g⟩
  .exact g.elim
 .exact g.elim
theorem uY(S:bO i r o a e)(b:ax r o e l w)(rs:aJ (ax r o e) p R)(g:ck i q r o e (eT l p a) ξ):zR w R e ξ:=by
 unfold eT at g;split at g
 .rename_i k n f
  obtain⟨c,h,rfl,j,d,m⟩:=ie S b f;rw[rs.nil_inv];exact⟨c,h,rfl,rfl,d,kf S j d m.reverse (a7 rfl) g⟩
 .exact g.elim
theorem yK(S:bO i r o a e)(b:ax r o e l w)(rs:aJ (ax r o e) p R)(g:ck i q r o e (iy l p a) ξ):wg w R e ξ:=by
 unfold iy at g;split at g
 .rename_i k A c y n
  obtain⟨d,s,rfl,t,m,h⟩:=ie S b n;obtain⟨u,f,rfl,x,z⟩:=wD rs;subst x;split at g
  .rename_i j
   simp at j;have:=bI j.1;have B:=sx j.2;refine⟨d,s,c,f,rfl,rfl,m,by omega,by omega,by rwa[h.length],kf S t m ?_ (a7 rfl) g⟩
   unfold qJ;rw[h.length];exact(h.take _).append (.cons z (h.drop _))
  .exact g.elim
 .exact g.elim
theorem yL(S:bO i r o a e)(c:ax r o e l w)(rs:aJ (ax r o e) p R)(g:ck i q r o e (iz l p a) ξ):vI w R e ξ:=by
 unfold iz at g;split at g
 .rename_i k D y m
  obtain⟨d,s,rfl,t,f,h⟩:=ie S c m;obtain⟨u,rfl,x⟩:=iA rs;split at g
  .rename_i n E z
   obtain⟨b,A,rfl,F,B,j⟩:=ie S x z;split at g
   .rename_i C
    exact⟨d,b,s,A,rfl,rfl,f,B,by rw[h.length,j.length];exact bI C,kf S t f (h.append j) (a7 rfl) g⟩
   .exact g.elim
  .exact g.elim
 .exact g.elim
theorem Bc(S:bO i r o a e)(c:ax r o e l w)(rs:aJ (ax r o e) p R)(g:ck i q r o e (e_ l p a) ξ):AF w R e ξ:=by
 unfold e_ at g;split at g
 .obtain⟨u,rfl,n⟩:=iA rs
  refine bj (hZ (E:=false) S c n g) λd f s A t x h=>xa h λb k=>?_
  cases d with
  |lst y=>
   (unfold uF at b;dsimp only at b)
   split at b
   .rename_i m
    simp only[Yv]at m;split at b
    .rename_i j z
     cases b;exact⟨_,y,f,u,j,rfl,t,x,m.1,m.2,z,kP (eM S) k rfl⟩
    .cases b
   .cases b
  |_=>cases b
 .exact g.elim
theorem Ez(S:bO i r o a e)(f:ax r o e l w)(rs:aJ (ax r o e) p R)(g:ck i q r o e (sW l p a) ξ):rJoin w R e ξ:=by
 unfold sW at g;split at g
 .obtain⟨u,rfl,m⟩:=iA rs
  refine bj (hZ (E:=false) S f m g) λd b n B s t h=>xa h λc k=>?_
  cases d with
  |str z=>
   cases dH s;cases b with
   |lst x=>
    (unfold uF at c;dsimp only at c)
    split at c
    .rename_i y A
     split at c
     .rename_i j
      cases c;simp at j;exact⟨z,_,x,y,u,rfl,rfl,t,A,j.1,j.2,kP (eM S) k rfl⟩
     .cases c
    .cases c
   |_=>cases c
  |_=>cases b<;>cases c
 .exact g.elim
inductive Src where
 |seq (x:D)|ints (lo:Int) (n:Nat)|chars (z:Str)|OH (x:D)|keys (k:Nat)|items (k:Nat)
def eI:Src->aG->Option (List D)
 |.seq x,a=>h9 a x
 |.ints e n,_=>some (intsFrom e n)
 |.chars z,_=>some (z.cps.toList.map λc=>.str (bW c))
 |.OH x,a=>(dY a x).map (fk 0)
 |.keys k,a=>match a[k]? with
  |some (.dF b)=>some (b.map λd=>ke d.1)
  |_=>none
 |.items k,a=>match a[k]? with
  |some (.dF b)=>some (b.map λd=>.tup [ke d.1,d.2])
  |_=>none
abbrev IM:=bH->aG->aE Src
def Bd(j:Str->b'->Prop)(s)(J:It)(k:List b')(Z:b'->Prop)(H):=∀a f b c g,cM k Z H a f c->bO j a f b c->eI s b=some g ->
 (∀i d,g[i]?=some d->J.go i c/\∀x e,J.NX i c x e->∃h,cM a f c a h e/\bO j a h b e/\ax a h e d x)/\∀i,g.length<=i->J.stop i c
def ud(e:Str->b'->Prop)(Φ:iQ)(f:List b')(Z:b'->Prop)(H)(r:aE Src)(R:It->Hp->Prop):=match r with
 |.ok s b=>∀J c a d,cM f Z H a d c->bO e a d b c->Bd e s J a d c->R J c
 |.exc x b=>∀c a d,cM f Z H a d c->bO e a d b c->Φ x b a d c
 |.bad=>False
noncomputable def WK(b:Str->b'->Prop)(Φ:iQ)(a:List b')(f:b'->Prop)(g:Hp)(m:IM)(c:bH)(d:aG):TI:=λh H R=>∃e Z,cV b a f g e Z d c h H/\ud b Φ e Z H (m c d) R
def Be(X)(b:Str->b'->Prop)(Φ c e m):=∀a d f g h,PI X c e (WK b Φ a d f m g h)
def srcOf(a:aG)(x:D):aE Src:=match h9 a x,x with
 |some _,x=>.ok (.seq x) a
 |none,.str z=>.ok (.chars z) a
 |none,.ref k=>(match a[k]? with
  |some (.dK b)=>.ok (.keys k) (a.set k (.dF b))
  |some (.dF _)=>.ok (.keys k) a
  |_=>.bad)
 |none,_=>.bad
def ba(m:EM):IM:=λb c=>(m b c).bind λx a=>srcOf a x
noncomputable def wF(a:aG)(x:D):aE Src:=match x with
 |.ref k=>(match a[k]? with
  |some (.dK b)=>.ok (.items k) (a.set k (.dF b))
  |some (.dF _)=>.ok (.items k) a
  |_=>.bad)
 |_=>.bad
def jt(m:EM):IM:=λb c=>(m b c).bind λx a=>wF a x
def sX(m:EM):IM:=λb c=>(m b c).bind λx a=>match dY a x with
 |some _=>.ok (.OH x) a
 |none=>.bad
def wG(xs:List D)(a:aG):aE Src:=match xs with
 |[.int j]=>if oP j then .ok (.ints 0 j.toNat) a else .bad
 |_=>.bad
def eh(a:AM):IM:=λb c=>(a b c).bind wG
variable{T7:It->Hp->Prop}
theorem ud.from{a}(g:cM r o e x0 D1 π)(h:ud i q r o e a T7):ud i q x0 D1 π a T7:=by
 cases a with
 |ok d b=>exact λv c f j k=>h v c _ j (g.trans k)
 |exc x b=>exact λc f j k=>h c _ j (g.trans k)
 |bad=>exact h
theorem ud.use{f}(h:ud i q r o e (P4.bind f) T7)(k:∀d a,P4=.ok d a->∀v c b l,cM r o e b l c->bO i b l a c->ax b l c d v->ud i q b l c (f d a) T7->ξ v c):ck i q r o e P4 ξ:=by
 cases P4 with
 |ok d a=>exact λv c b l g s j=>k d _ rfl v c _ l g s j (ud.from g h)
 |exc x a=>exact h
 |bad=>exact h
theorem sY(q:ax r o e l (.ref h))(S:bO i r o a e)(t:(dY a l).isSome=true):Bd i (.seq l) (QG G h) r o e:=by
 intro u w x D E g s z;have A:∀f,l≠.tup f:=λf b=>by subst b;cases t
 have B:dY x l=some E:=by
  cases l with
  |tup f=>simp_all
  |_=>exact z
 refine aF (bA s (S.cO g q) B) λF j b k n=>?_
 cases b;refine⟨λc d B=>?_,λc H=>⟨j,nr k,by rwa[n.length]⟩⟩
 refine bc (n.get B) λv p C=>?_
 refine⟨⟨j,v,nr k,p⟩,λy I m=>?_⟩
 obtain⟨rfl,m⟩:=m;have:=m j (nr k);rw[p]at this;cases this;exact⟨w,cM.refl s.has,s,C⟩
theorem sZ(A:r[b]?=some h)(B:e h=some (.eo Ξ (.dK B5))):Bd i (.keys b) (Lj h Ξ) r o e:=by
 intro C D E I J g s k;have a:=g.eo h _ _ B;simp only[eI]at k;split at k
 .rename_i n F
  cases k;refine bc (s.cell F) λK f l=>cE l λL t u w=>?_
  rw[(g.pre b h A)]at f;cases f
  rw[a]at u;cases u
  have M:=w.length;refine⟨λc d y=>?_,λc N=>⟨_,a,by simp_all⟩⟩
  rw[YH]at y;obtain⟨p,G,rfl⟩:=YE.mp y;obtain⟨q,z,H,_⟩:=aJ.get w G;refine⟨⟨_,a,rP z⟩,λx O m=>?_⟩
  obtain⟨rfl,m⟩:=m;obtain⟨P,j,rfl⟩:=m _ a;rw[z]at j;cases j
  refine⟨D,cM.refl s.has,s,?_⟩;rw[H];cases q.1<;>simp only[ke,kV,ax]
 .cases k
theorem pN(B:r[b]?=some h)(C:e h=some (.eo Ξ (.dK B5))):Bd i (.items b) (LJ h Ξ) r o e:=by
 intro D M E N O g s k;have a:=g.eo h _ _ C;simp only[eI]at k;split at k
 .rename_i t F
  cases k;refine bc (s.cell F) λP f l=>cE l λQ u w y=>?_
  rw[(g.pre b h B)]at f;cases f
  rw[a]at w;cases w
  have R:=y.length;refine⟨λc d z=>?_,λc S=>⟨_,a,by simp_all⟩⟩
  rw[YH]at z;obtain⟨p,G,rfl⟩:=YE.mp z;obtain⟨q,H,I,J⟩:=aJ.get y G;refine⟨⟨_,a,rP H⟩,λx T m=>?_⟩
  obtain⟨K,rfl,n,m⟩:=m;obtain⟨U,j,rfl⟩:=m _ a;rw[H]at j;cases j
  obtain⟨L,A⟩:=s.sQ n True;refine⟨_,A,L,?_⟩;refine⟨K,_,rfl,.inr rfl,aS,cU.mpr (.cons ?_ (.one (s.cO A J)))⟩;rw[I];cases q.1<;>simp only[ke,kV,ax]
 .cases k
theorem EA(h:b_ c i q j t):Be c i q Q j (ba t):=by
 intro M Z0 H0 ρ Ω;refine PI.imp (DZ (h M Z0 H0 ρ Ω)) ?_;rintro σ H R ⟨α,Z,S,g⟩;refine⟨α,Z,S,ud.use g λx F _ v E f w g1 e A k=>?_⟩
 cases x with
 |tup es=>
  obtain⟨a,r,rfl,_,l,B⟩:=fu A
  exact .inr (.inl ⟨a,r,rfl,.inl l,k _ E f w (cM.refl e.has) e (by
    intro f w F E V g s N;cases N;refine a6 (fu (e.cO g A)) λX r j _ l B=>?_
    cases j;refine⟨λb d G=>?_,λb O=>⟨r,vZ (.inl l),by rwa[B.length]⟩⟩
    refine bc (B.get G) λv Y rv=>?_
    refine⟨⟨r,v,vZ (.inl l),Y⟩,λy H2 I=>?_⟩
    obtain⟨rfl,I⟩:=I;have:=I r (vZ (.inl l));rw[Y]at this;cases this;exact⟨w,cM.refl s.has,s,rv⟩)⟩)
 |lst es=>
  obtain⟨a,r,rfl,l,B⟩:=bA e A rfl;exact .inl ⟨a,r,rfl,l,k _ E f w (cM.refl e.has) e (sY A e rfl)⟩
 |ref n=>
  cases C:dY F (.ref n)with
  |none=>
   simp only[srcOf,h9,C]at k;obtain⟨a,J,rfl⟩:=A;split at k
   .rename_i K P
    obtain⟨X,p,m,l,B⟩:=e.cell P;rw[J]at p;cases p
    refine .inr (.inr (.inr ⟨a,m,rfl,.inl ⟨l,λo=>?_⟩⟩))
    obtain⟨L,g2⟩:=e.put (c:=.dF K) J (λo u z=>by simp_all) λR hR=>⟨o,m,aS,B.imp hR⟩
    exact k _ _ f w g2 L (sZ J aS)
   .rename_i K P
    refine bc (e.cell P) λX p T=>cE T λo m l B=>?_
    rw[J]at p;cases p
    exact .inr (.inr (.inr ⟨a,m,rfl,.inr ⟨o,l,k _ E f w (cM.refl e.has) e (sZ J l)⟩⟩))
   .exact k.elim
  |some V=>
   simp only[srcOf,h9,C]at k;obtain⟨a,r,rfl,l,B⟩:=bA e A C;exact .inl ⟨a,r,rfl,l,k _ E f w (cM.refl e.has) e (sY A e (by simp_all))⟩
 |str z=>
  subst A;refine .inr (.inr (.inl ⟨z,rfl,k _ E f w (cM.refl e.has) e ?_⟩));intro a0 Z2 b0 H2 V g2 L N;cases N;refine⟨λb d G=>?_,λb O=>by show z.cps.size<=b;simp_all⟩
  have O:b<z.cps.size:=by
   grind
  refine⟨O,λy H3 I=>?_⟩
  obtain⟨rfl,D,hc,rfl⟩:=I;rw[YH]at G;have U:z.cps.toList[b]?=some D:=by simp_all
  rw[U]at G;cases G;exact⟨Z2,cM.refl L.has,L,a7 rfl⟩
 |non=>exact k.elim
 |bl _=>exact k.elim
 |int _=>exact k.elim
 |dct _ _=>exact k.elim
theorem Bf:Bd i (.ints U b) (NY U b) r o e:=by
 intro h j k n p g s l;cases l;refine⟨λa d f=>?_,λa c=>by rwa[jT]at c⟩
 have c:=(Yn.mp f).1;rw[jT]at c;refine⟨c,λy q m=>?_⟩
 obtain⟨rfl,rfl⟩:=m;rw[ints_get _ _ _ _ f];exact⟨j,cM.refl s.has,s,a7 rfl⟩
theorem ud.RE{f}(h:ud i q r o e (f9.bind f) T7)(k:∀m a,f9=.ok m a->∀n c b l,cM r o e b l c->bO i b l a c->aJ (ax b l c) m n->ud i q b l c (f m a) T7->y8 n c):pJ i q r o e f9 y8:=by
 cases f9 with
 |ok d a=>exact λv c b l g s j=>k d _ rfl v c _ l g s j (ud.from g h)
 |exc x a=>exact h
 |bad=>exact h
noncomputable def nR(n:Nat)(d:D):Option bH:=match n,d with
 |0,d=>some [some d]
 |n,.tup a=>if a.length=n then some (a.map some)else none
 |_,_=>none
noncomputable def dw(a:List Nat)(b:bH):bH:=a.map λi=>(b[i]?).join
def gh(b)(c:EM)(d a):=if b=true then .ok true a else dr (c d a)
def pO(g:Bool)(h j:EM)(n:Nat)(e:bH)(b:Src):Nat->Nat->List D->aG->aE (List D)
 |0,_,_,_=>.bad
 |f+1,i,a,k=>match eI b k with
  |none=>.bad
  |some o=>match o[i]? with
   |none=>.ok a k
   |some d=>match nR n d with
    |none=>.bad
    |some m=>if small (a.length+1)then match gh g h (m++e) k with
     |.ok true c=>match j (m++e) c with
      |.ok y l=>pO g h j n e b f (i+1) (a++[y]) l
      |_=>.bad
     |.ok false c=>pO g h j n e b f (i+1) a c
     |_=>.bad else .bad
def bK(e:EM)(f:Bool)(g:EM)(h:IM)(n:Nat)(b:List Nat):EM:=λd i=>match h d i with
 |.ok s a=>match pO f g e n (dw b d) s fuel 0 [] a with
  |.ok j c=>jZ c (.lst j)
  |_=>.bad
 |.exc x a=>.exc x a
 |.bad=>.bad
noncomputable def kF:iQ:=λ_ _ _ _ _=>False
theorem s_(S:cV i x0 D1 π r o a y u0 e)(g:cM r o e A8 P9 W7)(s:bO i A8 P9 η W7)(c:aJ (ax A8 P9 W7) p R):
  cV i A8 P9 W7 A8 P9 η (p.map some++dw I y) (R.map some++sG I u0) W7:=by
 have l:=c.length;refine⟨s,cM.refl s.has,?_,λb d h=>?_⟩
 .unfold sG dw
  simp_all
 .by_cases m:b<p.length
  .rw[YU (by simp_all),YH]at h
   rw[YU (by simp_all)]
   cases q:p[b]? with
   |none=>simp_all
   |some n=>
    rw[q]at h;obtain⟨v,k,f⟩:=c.get q
    simp_all
  .rw[ZZ (by simp_all)]at h
   rw[ZZ (by simp_all)]
   unfold dw at h;unfold sG;rw[Yj,YH]at h;cases q:I[b - p.length]? with
   |none=>simp_all
   |some j=>
    obtain⟨v,k,f⟩:=S.val j d (by
     grind)
    refine⟨v,?_,S.st.cO g f⟩
    simp_all
theorem cM.Gr(g:cM r o e x0 D1 π)(b:h∉r)(a:e h=some y0):h∉x0:=λq=>by
 rcases g.Ei h q with q|q
 .exact b q
 grind
theorem cM.Ih(g:cM r o e x0 D1 π)(b:¬ o h)(a:e h=some y0):¬ D1 h:=λq=>by
 rcases g.new h q with q|q
 .exact b q
 grind
theorem cM.side(g:cM r o e x0 D1 π)(f:h∉r)(c:e h=Option.none):cM r o e x0 D1 (upd π h y0):=
 ⟨g.pre,g.sub,g.new,g.Ei,λb u a d=>by rw[aD (bb a c)];exact g.frm b u a d,λb d=>by rw[aD (λ(q)=>f (by simp_all))];exact g.has b d,λb i u a=>by rw[aD (bb a c)];exact g.eo b i u a⟩
theorem EB(h:nR b l=some y):∃a:List D,y=a.map some:=by
 unfold nR at h;split at h
 .cases h;exact⟨[l],rfl⟩
 .grind
 .cases h
theorem bO.part(S:bO i r o a e)(l:e h=some (.lst R))(q:h∉r)(hz:¬ o h)(j:aJ (ax r o e) p R):bO i (r++[h]) o (a++[.lst p]) e:=by
 have mono:∀d v,ax r o e d v->ax (r++[h]) o e d v:=λd v j=>j.mono (λn g f=>by rwa[YU (rP f)]) (λ_ _ _ f=>f) λ_ z=>z
 refine⟨?_,?_,λg ha k=>?_,S.dom⟩
 .refine Zt.mpr ⟨S.qT,by simp,λg ha b s f=>?_⟩
  simp_all
 .exact aJ.append (S.AV.imp λc g m=>m.imp mono (λ_ f=>f) λ_ _ _ f=>f) (.one ⟨R,l,j.imp mono⟩)
 .rcases Yz.mp ha with ha|ha
  .exact S.sep g ha k
  simp_all
theorem bO.side(S:bO i r o a e)(s:h∉r)(hz:¬ o h)(w:∀y0 u,e h≠some (.eo y0 u)):bO i r o a (upd e h y0)/\∀d v,ax r o e d v->ax r o (upd e h y0) d v:=by
 have mono:∀d v,ax r o e d v->ax r o (upd e h y0) d v:=λd v j=>j.mono (λ_ _ g=>g) (λf u z g=>by rwa[aD (λ(q)=>hz (by simp_all))]) λ_ z=>z
 have n:∀{m:List _}{l:List _},(∀f∈l,f∈r)->aJ (λc f=>gR i (ax r o e) e f c) m l->aJ (λc f=>gR i (ax r o (upd e h y0)) (upd e h y0) f c) m l:=by
  intro m l x y
  induction y with
  |nil=>exact .nil
  |@cons c f m l j t C=>
   have p:f≠h:=λq=>s (by simp_all)
   exact .cons (j.imp mono (λu g=>by rwa[aD p]) λb A B g=>by rwa[aD (λq=>w A B (by simp_all))]) (by simp_all)
 exact⟨⟨S.qT,n (λf k=>k) S.AV,S.sep,λf z=>by rw[aD (λ(q)=>hz (by simp_all))];exact S.dom f z⟩,mono⟩
variable{y1:IM}
theorem pP(t0:Be c i q j Q y1)(u0:∀d (ds:List D) x B h G H r k,nR b d=some (ds.map some)->bO i B h G H->ax B h H d x->(∀vs,aJ (ax B h H) ds vs->k (vs.map some++r) H)->D5 x (þ g.length none++r) H k)(hb:∀V C n p fp,PG (blk c Z V C (g++ο) n p fp) j D5/\((O=[]/\E=true)\/∃N,O=[N]/\E=false/\kU (blk c Z V C (g++ο) n p fp) i kF N ν)/\b_ (blk c Z V C (g++ο) n p fp) i kF A1 t):
  ∀d0 Z0 H0 ρ G,∃wi tc te,PI c j Q wi/\(∀V C n p fp,PG (blk c Z V C (g++ο) n p fp) j D5/\DQ (blk c Z V C (g++ο) n p fp) O tc/\PE (blk c Z V C (g++ο) n p fp) A1 te) /\
   ∀σ H l,tO i q d0 Z0 H0 (bK t E ν y1 b I) ρ G σ H l->nE wi g.length I D5 tc te σ H l:=by
 intro d0 Z0 H0 ρ G
 let tc:TT:=λr H l=>∃B h G F,cV i B h H B h G F r H/\rN i kF B h H (gh E ν F G) l
 let te:TE:=λr H l=>∃B h G F,cV i B h H B h G F r H/\ck i kF B h H (t F G) l
 refine⟨_,tc,te,t0 d0 Z0 H0 ρ G,(by
  intro V C n p fp;refine oC (hb V C n p fp) λh1 h2 h3=>?_
  refine⟨h1,?_,?_⟩
  .rcases h2 with ⟨e,hn⟩|⟨N,e,hn,h2⟩
   .subst e
    intro pins s r H l w m;refine eX m λB h G F S k=>?_
    rw[gh,if_pos hn]at k;exact DR pins s r H l w (k H B h (cM.refl S.st.has) S.st)
   .subst e
    intro pins s r H l w m;refine eX m λB h G F S k=>?_
    rw[gh,if_neg (by rw[hn];exact ϒ)]at k
    exact DS (h2 B h H F G) pins s r H l w ⟨B,h,S,k⟩
  .intro pins s r H l w m
   refine eX m λB h G F S k=>?_
   exact h3 B h H F G pins s r H l w ⟨B,h,S,k⟩),?_⟩
 rintro σ H l ⟨B,h,S,k⟩;refine⟨B,h,S,?_⟩;simp only[bK]at k;cases qi:y1 ρ G with
 |exc x e0=>rw[qi]at k;exact k
 |bad=>rw[qi]at k;exact k.elim
 |ok f0 e0=>
  rw[qi]at k;dsimp only at k;intro J H1 g0 Z1 g1 s1 w1 T hD;cases qg:pO E ν t b (dw I ρ) f0 fuel 0 [] e0 with
  |exc x l0=>rw[qg]at k;exact k.elim
  |bad=>rw[qg]at k;exact k.elim
  |ok ys l0=>
   rw[qg]at k;have c0:¬ Z1 T:=λz=>s1.dom T z hD
   have P:T∉g0:=λz=>s1.has T z hD
   refine⟨λA f vs H2=>∃K Z2 L R,cM g0 Z1 H1 K Z2 H2/\bO i K Z2 L H2/\T∉K/\¬ Z2 T/\H2 T=some (.lst vs)/\aJ (ax K Z2 H2) R vs/\pO E ν t b (dw I ρ) f0 f A R L=.ok ys l0,
    ⟨fuel,g0,Z1,e0,[],?_,?_,P,c0,aS,.nil,qg⟩,?_⟩
   .exact⟨λ_ _ e=>e,λ_ z=>z,λ_ z=>.inl z,λ_ z=>.inl z,λa o e _=>by rw[aD (bb e hD)];exact e,λa ha=>by rw[aD (λ(m:a=T)=>P (by rw[←m];exact ha))];exact s1.has a ha,λa o u e=>by rw[aD (bb e hD)];exact e⟩
   .exact(s1.side P c0 (by simp_all)).1
   rintro A f vs H2 ⟨K,Z2,L,R,U,s2,nD,nZ,X,r2,M⟩;refine⟨X,?_⟩;cases f with
   |zero=>cases M
   |succ f=>
    simp only[pO]at M;cases qs:eI f0 L with
    |none=>simp_all
    |some ds=>
     rw[qs]at M;dsimp only at M;obtain⟨v0,w0⟩:=w1 K Z2 L H2 ds U s2 qs;cases qd:ds[A]? with
     |none=>
      rw[qd]at M;cases M;refine .inl ⟨w0 A (List.getElem?_eq_none_iff.mp qd),?_⟩
      exact k _ H2 _ Z2 (g1.trans ⟨λb a e=>by rw[YU (Yn.mp (U.pre b a e)).1];exact U.pre b a e,U.sub,U.new,λa ha=>by
       rcases Yz.mp ha with ha|ha
       .exact U.Ei a ha
       .rw[W'.mp ha];exact .inr hD,U.frm,U.has,U.eo⟩) (s2.part X nD nZ r2) (gf s2 T)
     |some d=>
      rw[qd]at M;dsimp only at M;obtain⟨x0,y0⟩:=v0 A d qd;cases qt:nR b d with
      |none=>simp_all
      |some ts=>
       rw[qt]at M;dsimp only at M;obtain⟨es,rfl⟩:=EB qt
       by_cases Y:small (R.length+1)=true
       .rw[if_pos Y]at M
        have Y:=bI Y;refine .inr ⟨x0,by rw[r2.length];exact Y,λx H3 yl=>?_⟩
        refine bx (y0 x H3 yl) λZ3 g3 s3 rx=>?_
        have h0:=g3.frm T _ X nD;refine u0 d es x K Z3 L H3 (sG I σ) _ qt s3 rx λws m0=>?_
        have gB:=g1.trans (U.trans g3);refine⟨K,Z3,L,_,(s_ (I:=I) S gB s3 m0),?_⟩;cases qc:gh E ν _ L with
        |exc x a0=>simp_all
        |bad=>simp_all
        |ok i0 a0=>
         rw[qc]at M;intro H5 n0 Z5 g5 s5;have j0:=g5.Gr nD h0;have o0:=g5.Ih (g3.Ih nZ X) h0;have b0:=g5.frm T _ h0 nD;cases i0 with
         |false=>
          exact⟨f,Ð _,n0,Z5,a0,R,U.trans (g3.trans g5),s5,j0,o0,b0,s3.lN g5 (s2.lN g3 r2),M⟩
         |true=>
          dsimp only at M;refine⟨n0,Z5,a0,_,(s_ (I:=I) S (gB.trans g5) s5 (s3.lN g5 m0)),?_⟩;cases qe:t _ a0 with
          |exc x p0=>simp_all
          |bad=>simp_all
          |ok y p0=>
           rw[qe]at M;intro v H6 z0 Z6 g6 s6 rv;have q0:=g6.Gr j0 b0;have r0:=g6.Ih o0 b0;have s0:=g6.frm T _ b0 j0;obtain⟨s7,m7⟩:=s6.side q0 r0 (λo u z=>by rw[s0]at z;cases z)
           refine⟨s0,f,Ð _,z0,Z6,p0,R++[y],((U.trans (g3.trans g5)).trans g6).side P hD,s7,q0,r0,aS,((s5.lN g6 (s3.lN g5 (s2.lN g3 r2))).append (.one rv)).imp m7,M⟩
       simp_all
theorem nS(p:Be c i q (.Name d n) j y1)(K:Z.names.lookup d=some .local)(s:([d]++g).Nodup)(L:∀m C b f fp,((O=[]/\E=true)\/∃h,O=[h]/\E=false/\kU (blk c Z m C ([d]++g) b f fp) i kF h ν)/\b_ (blk c Z m C ([d]++g) b f fp) i kF Q t):
  ∀u M N P z,∃A B D,PI c (.Name d n) j A/\(∀m C b f fp,PG (blk c Z m C ([d]++g) b f fp) (.Name d n) (jK 0)/\DQ (blk c Z m C ([d]++g) b f fp) O B/\PE (blk c Z m C ([d]++g) b f fp) Q D) /\
   ∀F H l,tO i q u M N (bK t E ν y1 0 I) P z F H l->nE A [d].length I (jK 0) B D F H l:=by
 have G:(ZP _ c.env).names.lookup d=some _:=ϛ K;refine pP p (λo J y Y w z H R k x S T U=>?_) λm C b f fp=>?_
 .have e:J=[o]:=by
   injection x with x;cases J with
   |nil=>cases x
   |cons a r=>
    simp_all
  subst e;exact U _ (.one T)
 .obtain⟨V,X⟩:=L m C _ _ fp
  exact⟨iq s rfl (.inl G) (.inr G),V,X⟩
inductive gi where
 |nx (ρ:bH) (Ω:aG)|bk (ρ:bH) (Ω:aG)|ct (ρ:bH) (Ω:aG)|rt (d:D) (Ω:aG)|exc (x:D) (Ω:aG)|bad
abbrev SM:=bH->aG->gi
def dZ(f:Str->b'->Prop)(Φ:iQ)(b:List b')(g:b'->Prop)(h:Hp)(E:Ends):gi->Prop
 |.nx i c=>∀e H a Z,cV f b g h a Z c i e H->E.nx e H
 |.bk i c=>∀e H a Z,cV f b g h a Z c i e H->E.bk e H
 |.ct i c=>∀e H a Z,cV f b g h a Z c i e H->E.ct e H
 |.rt d c=>∀v H a Z,cM b g h a Z H->bO f a Z c H->ax a Z H d v->E.rt v H
 |.exc x c=>∀H a Z,cM b g h a Z H->bO f a Z c H->Φ x c a Z H
 |.bad=>False
noncomputable def LZ(b:Str->b'->Prop)(Φ:iQ)(a:List b')(d:b'->Prop)(e:Hp)(c:SM)(f:bH)(g:aG):TS:=λE h H=>∃i Z,cV b a d e i Z g f h H/\dZ b Φ a d e E (c f g)
def ju(X)(b:Str->b'->Prop)(Φ st c):=∀a d e f g,PS X st (LZ b Φ a d e c f g)
def kX(X)(d:Str->b'->Prop)(Φ)(a:List D')(c):=∀b e f g h,iO X a (LZ d Φ b e f c g h)
noncomputable def cx{c}(r:aE c)(k:c->aG->gi):=match r with
 |.ok a b=>k a b
 |.exc x b=>.exc x b
 |.bad=>.bad
noncomputable def ak:SM:=λa b=>.nx a b
noncomputable def ao(a b:SM):SM:=λe f=>match a e f with
 |.nx c d=>b c d
 |r=>r
def aA(i:Nat)(m:EM):SM:=λb c=>cx (m b c) λd a=>.nx (b.set i (some d)) a
def cG(m:EM):SM:=λb c=>cx (m b c) λ_ a=>.nx b a
def bY(m:EM):SM:=λb c=>cx (m b c) λd a=>.rt d a
def ei(m:EM)(a b:SM):SM:=λd e=>cx (dr (m d e)) λt c=>if t=true then a d c else b d c
noncomputable def dz:SM:=λ_ _=>.bad
def dA(m:EM)(b:SM):Nat->SM
 |0,_,_=>.bad
 |f+1,e,g=>cx (dr (m e g)) λt d=>if t=true then (match b e d with
  |.nx a c=>dA m b f a c
  |.ct a c=>dA m b f a c
  |.bk a c=>.nx a c
  |r=>r)else .nx e d
def ig(m b):=dA m b fuel
noncomputable def gD:List Nat->List D->bH->bH
 |i::b,d::c,a=>gD b c (a.set i (some d))
 |_,_,a=>a
noncomputable def dS(i:Nat)(d:D)(a:bH):Option bH:=some (a.set i (some d))
def eH(a:List Nat)(d:D)(c:bH):=match d with
 |.tup b=>if b.length=a.length then some (gD a b c)else none
 |_=>none
def gO(e:D->bH->Option bH)(g:Src)(b:SM):Nat->Nat->SM
 |0,_,_,_=>.bad
 |f+1,i,k,h=>match eI g h with
  |none=>.bad
  |some l=>match l[i]? with
   |none=>.nx k h
   |some d=>match e d k with
    |none=>.bad
    |some j=>match b j h with
     |.nx a c=>gO e g b f (i+1) a c
     |.ct a c=>gO e g b f (i+1) a c
     |.bk a c=>.nx a c
     |r=>r
def ed(a:D->bH->Option bH)(e:IM)(b:SM):SM:=λd f=>cx (e d f) λs c=>gO a s b fuel 0 d c
def EC(e:List Nat)(m:EM):SM:=λc f=>cx (m c f) λd a=>match eH e d c with
 |some b=>.nx b a
 |none=>.bad
theorem cV.set{e c a Z f g H k l m}(S:cV e a f k c Z g l m H){d v}(r:ax c Z H d v)(i):cV e a f k c Z g (l.set i (some d)) (m.set i (some v)) H:=by
 refine⟨S.st,S.gr,by simp[S.len],λj n h=>?_⟩
 by_cases b:i=j
 .subst b
  have o:=by
   have:=(Yn.mp h).1;simpa using this
  rw[ñ o]at h;cases h;exact⟨v,by rw[ñ (by rwa[S.len])],r⟩
 .rw[Ø b]at h ⊢
  exact S.val j n h
variable{z6:Ends}
theorem dZ.use{k}(S:cV i x0 D1 π r o a y u0 e)(f:dZ i q x0 D1 π z6 (cx P4 k))(h:∀d b v j c l,P4=.ok d b->cM r o e c l j->cV i x0 D1 π c l b y u0 j->ax c l j d v->dZ i q x0 D1 π z6 (k d b)->ξ v j):ck i q r o e P4 ξ:=by
 cases P4 with
 |ok d b=>exact λv j c l g s m=>h d _ v j _ l rfl g (S.grow g s) m f
 |exc x b=>exact λj c l g s=>f j _ l (S.gr.trans g) s
 |bad=>exact f
theorem dZ.L3{k}(S:cV i x0 D1 π r o a y u0 e)(f:dZ i q x0 D1 π z6 (cx d9 k))(h:∀t b j c l,d9=.ok t b->cM r o e c l j->cV i x0 D1 π c l b y u0 j->dZ i q x0 D1 π z6 (k t b)->d8 t j):rN i q r o e d9 d8:=by
 cases d9 with
 |ok d b=>exact λj c l g s=>h d _ j _ l rfl g (S.grow g s) f
 |exc x b=>exact λj c l g s=>f j _ l (S.gr.trans g) s
 |bad=>exact f
theorem iO.ex{b:Type}{t:b->TS}(h:∀i,iO c W1 (t i)):iO c W1 (λD a H=>∃i,t i D a H):=λpins s a H D I  d =>xe d λi q=>h i _ s a H D I q
theorem iC:kX c i q [] ak:=by
 intro b e g j k;refine iO.imp (λ_ _ a H _ I h=>ZS ⟨a,H,I,h⟩) ?_
 rintro E a H ⟨d,Z,S,f⟩;exact f a H d Z S
variable{u7 ω:SM}
theorem fD(m:ju c i q X ω)(n:kX c i q W1 u7):kX c i q (X::W1) (ao ω u7):=by
 intro g h j k l;refine iO.imp (zx (m g h j k l) (iO.ex λp:bH×aG=>n g h j p.1 p.2)) ?_
 rintro E w H ⟨o,Z,S,f⟩;refine⟨o,Z,S,?_⟩;simp only[ao]at f;cases a:ω k l with
 |nx e b=>rw[a]at f;exact λr y s t u=>⟨(e,b),_,t,u,f⟩
 |bk e b=>rwa[a]at f
 |ct e b=>rwa[a]at f
 |rt d b=>rwa[a]at f
 |exc x b=>rwa[a]at f
 |bad=>rwa[a]at f
theorem mF(h:b_ c i q j t):ju c i q (.Return (some j) n) (bY t):=by
 intro a l m o p
 refine PS.imp (by
   have u:=(h a l m o p);intro pins s b H D I h;exact wpAny_Return_some (cp (u _ s b H _ I h) λv K  w =>aF w λx e y z A=>⟨x,b,e,y,z,A⟩)) ?_
 rintro E b H ⟨B,Z,S,f⟩;exact⟨B,Z,S,dZ.use S f λd C v e F G _ g k r J=>J v e _ G k.gr k.st r⟩
theorem iD(k:c.N.Nodup)(l:c.N[b]?=some d)(m:Loc c.env.scope d)(o:c.fn d=true\/c.env.scope.names.lookup d=some .local)(p:YR j (some (.Name d J)) n.line c.env=pure false)(h:b_ c i q j t):
  ju c i q (.Assign [.Name d J] j n) (aA b t):=by
 intro a s u w x;refine PS.imp (Hj k l m (h a s u w x) p o) ?_;rintro E G H ⟨y,Z,S,f⟩;exact⟨y,Z,S,dZ.use S f λe z v A B C _ g D r F=>F _ A _ C (D.set r b)⟩
theorem tf(L:c.N.Nodup)(M:c.N[b]?=some d)(P:c.env.scope.names.lookup d=some .local)(R:YR (.ListComp j [⟨A1,Q,O,0⟩] Z n) (some (.Name d J)) J.line c.env=pure true)(T:c.calm=true)(B:lK c Z g ο I)(U:∀d,ZU Q c.env d=pure d)(u:∀v m H a,D5 v m H a->D5 v m H λo V=>a o V/\o.length=m.length/\∀e,g.length<=e->o[e]?=m[e]?)(h:∀s w x y z,∃A D F,PI c A1 Q A/\(∀G C k l fp,PG (blk c Z G C (g++ο) k l fp) A1 D5/\DQ (blk c Z G C (g++ο) k l fp) O D/\PE (blk c Z G C (g++ο) k l fp) j F) /\
   ∀m H a,tO i q s w x t y z m H a->nE A g.length I D5 D F m H a)(X:M0.line=J.line):
  ju c i q (.Assign [.Name d J] (.ListComp j [⟨A1,Q,O,0⟩] Z n) M0) (aA b t):=by
 intro s w x y z;obtain⟨A,D,F,Y,h2,h3⟩:=h _ w x y z;refine PS.imp (uL L M P (by rwa[X]) T B Y U u h2) ?_
 rintro E m H ⟨α,p,S,f⟩;exact h3 m H _ ⟨α,p,S,dZ.use S f λK a0 v H1 b0 Z1 _ D5 S1 r f1=>f1 _ H1 _ Z1 (S1.set r b)⟩
theorem wH(b:YR j none n.line c.env=pure false)(h:b_ c i q j t):ju c i q (.Expr j n) (cG t):=by
 intro a e k l m;refine PS.imp (vD (h a e k l m) b) ?_;rintro E z H ⟨o,Z,S,f⟩;exact⟨o,Z,S,dZ.use S f λd p v s u w _ g x r y=>y _ s _ w x⟩
variable{w6:List D'}
theorem uZ(p:kU c i q j t)(r:kX c i q W1 ω)(s:kX c i q w6 u7):ju c i q (.If j W1 w6 n) (ei t ω u7):=by
 intro b e h k u;refine PS.imp (KL (p b e h k u) (iO.ex λa=>r b e h k a) (iO.ex λa=>s b e h k a)) ?_
 rintro E y H ⟨w,Z,S,f⟩;refine⟨w,Z,S,dZ.L3 S f λd a z x l _ g m o=>?_⟩
 cases d with
 |true=>exact uz ⟨_,_,l,m,o⟩
 |false=>exact uy ⟨_,_,l,m,o⟩
theorem pQ:ju c i q X dz:=by rintro a b d e g pins s h H E I ⟨j,Z,S,f⟩;exact f.elim
theorem pR(N:ó (j' c.prog c.w) c.A c.env c.xe)(O:kU c i q j t)(P:kX c i q W1 ω):ju c i q (.While j W1 [] n) (ig t ω):=by
 intro k r s u y;refine PS.imp (zA N (PT.ex λp:bH×aG=>O k r s p.1 p.2) (iO.ex λp:bH×aG=>P k r s p.1 p.2)) ?_
 rintro E I H ⟨z,Z,S,f⟩;refine⟨λf I H=>∃z Z u y,cV i _ r s z Z y u I H/\dZ i q _ r s E (dA t ω f u y),⟨_,z,Z,u,y,S,f⟩,?_⟩
 intro f Q X zr;refine eX zr λR T l B J K=>?_;cases f with
 |zero=>exact K.elim
 |succ f=>
  refine⟨(l,B),_,T,J,dZ.L3 J K λh C Y U V _ g L b=>?_⟩
  cases h with
  |false=>
   exact uy (b _ _ _ _ L)
  |true=>
   refine uz ⟨_,λm M a=>⟨f,by simp,a⟩,(l,C),_,V,L,?_⟩
   cases a:ω _ _ with
   |nx o e=>rw[a]at b;exact λm M D F G=>⟨_,F,_,_,G,b⟩
   |ct o e=>rw[a]at b;exact λm M D F G=>⟨_,F,_,_,G,b⟩
   |bk o e=>rwa[a]at b
   |rt d e=>rwa[a]at b
   |exc x e=>rwa[a]at b
   |bad=>rwa[a]at b
def Bg(h:Str->b'->Prop)(e:D->bH->Option bH)(g:TG):=
 ∀d x a i j f Z l m b n H k,cV h a i j f Z l m n H->ax f Z H d x->e d m=some b->(∀c,cV h a i j f Z l b c H->k c H)->g x n H k
variable{C8:D->bH->Option bH}
theorem mG(hp:ó (j' c.prog c.w) c.A c.env c.xe)(hc:c.calm=true)(hi:Be c i q Q j y1)(hg:PG c Q D5)(N:Bg i C8 D5)(hb:kX c i q W1 ω)(hs:∀x,ZU j c.env x=pure x):ju c i q (.For Q j W1 [] n) (ed C8 y1 ω):=by
 intro O G K C L;have P:iO c W1 (λD F H=>∃p o t g h,LZ i q _ o t ω _ _ D F H):=λpins s F H D I  zf =>xe zf λp R=>xe R λo T=>xe T λt U=>xe U λg V=>xe V λh a=>hb p o t g h _ s F H D I a
 refine PS.imp (Hl hp hc (hi O G K C L) hg P hs) ?_;rintro E F H ⟨α,Z,S,f⟩;refine⟨α,Z,S,?_⟩;simp only[ed]at f;cases X:y1 C L with
 |exc x Y=>rw[X]at f;exact λt p o D5 s=>f t _ o (S.gr.trans D5) s
 |bad=>rwa[X]at f
 |ok f0 Y=>
  rw[X]at f;intro J t p o g1 s1 w1;have S1:=S.grow g1 s1;refine⟨λe f F H=>∃z M C L,cV i _ G K z M L C F H/\cM _ o t z M H/\dZ i q _ G K E (gO _ _ ω f e C L),⟨_,_,o,C,_,S1,cM.refl s1.has,f⟩,?_⟩
  intro e f g0 H2 zr;refine bj zr λz M h0 i0 S2 g2 b=>?_;cases f with
  |zero=>exact b.elim
  |succ f=>
   simp only[gO]at b;cases qs:eI _ _ with
   |none=>rw[qs]at b;exact b.elim
   |some ds=>
    rw[qs]at b;dsimp only at b;obtain⟨a0,j0⟩:=w1 _ M _ H2 ds g2 S2.st qs;cases qd:ds[e]? with
    |none=>
     rw[qd]at b;exact .inl ⟨by simp_all,b _ H2 _ M S2⟩
    |some d=>
     rw[qd]at b;dsimp only at b;obtain⟨b0,c0⟩:=a0 e d qd;cases qp:C8 d _ with
     |none=>rw[qp]at b;exact b.elim
     |some l0=>
      rw[qp]at b;dsimp only at b;refine .inr ⟨b0,_,λl m a=>⟨f,by simp,a⟩,λx H3 yl=>?_⟩
      refine bx (c0 x H3 yl) λZ3 g3 s3 rx=>?_
      refine N d x _ G K _ Z3 _ _ _ _ H3 _ (S2.grow g3 s3) rx qp λm0 S4=>?_
      have base:=S1.gr;have gL:=g2.trans g3;have B:∀{d0 Z4 e0 g l m},cV i _ o t _ Z4 _ _ _ m->cV i _ G K d0 Z4 e0 g l m:=λk=>⟨k.st,base.trans k.gr,k.len,k.val⟩
      refine⟨_,o,t,_,_,_,Z3,⟨S4.st,gL,S4.len,S4.val⟩,?_⟩;cases a:ω _ _ with
      |nx g h=>rw[a]at b;exact λl m u y k=>⟨_,y,_,_,B k,k.gr,b⟩
      |ct g h=>rw[a]at b;exact λl m u y k=>⟨_,y,_,_,B k,k.gr,b⟩
      |bk g h=>rw[a]at b;exact λl m u y k=>b _ m _ y (B k)
      |rt d h=>rw[a]at b;exact λv m u y D5 s r=>b v m _ y (base.trans D5) s r
      |exc x h=>rw[a]at b;exact λm u y D5 s=>b m _ y (base.trans D5) s
      |bad=>rwa[a]at b
theorem Bh(a):Bg i (dS a) (jK a):=λd x b f g j Z l m c n H k S r e h=>by
 cases e;exact h _ (S.set r a)
theorem nT{n m a Z o p H q}:∀b c g {j}{e},aJ (ax m Z H) c g->c.length=b.length->cV n a o q m Z p j e H->∀k,(∀f,cV n a o q m Z p (gD b c j) f H->k f H)->gA b g e H k
 |[],[],g,j,e,r,_,S,k,h=>by rw[r.nil_inv];exact⟨rfl,h e S⟩
 |i::b,d::c,g,j,e,r,l,S,k,h=>by
  obtain⟨v,s,rfl,t,u⟩:=r.cons_inv;exact⟨v,s,rfl,nT b c s u (by simp_all) (S.set t i) k h⟩
 |[],_::_,_,_,_,_,l,_,_,_=>by simp at l
 |_::_,[],_,_,_,_,l,_,_,_=>by simp at l
theorem u_(b):Bg i (eH b) (uh G b.length (gA b)):=λd x g o p q Z s t j u H k S r e h=>by
 cases d with
 |tup l=>
  simp only[eH]at e;split at e
  .rename_i m
   cases e;obtain⟨a,c,rfl,_,n,f⟩:=fu r;exact⟨a,c,rfl,vZ (.inl n),by rwa[f.length],nT b l c f m S k h⟩
  .cases e
 |_=>cases e
abbrev a5:=List D->aG->aE D
def cN(b:Str->b'->Prop)(F:a5):Sp:=λe H Q _=>∃a Z c d,bO b a Z c H/\aJ (ax a Z H) d e/\ck b kF a Z H (F d c) Q
noncomputable def th{a}(r:aE a):aE a:=match r with
 |.ok d b=>.ok d b
 |_=>.bad
def aQ(F:a5):a5:=λa b=>th (F a b)
structure Gs(X:Cx)(κ:Str->b'->Prop)(k:Nat)(x:Str)(F:a5):Prop where
 ex:∃(f:b') (fd:Yb) (ps:List Str),X.mg x=some (.ref f)/\Yp X.K (.ref f)=true/\Binds X.K fd ps []/\bJ X.prog X.w X.K X.mg X.base eL k f fd ps (cN κ F)
noncomputable def nU(a:aG):D->Option (Nat×Str×List (Str×D))
 |.ref k=>match a[k]? with
  |some (.ins C b)=>some (k,C,b)
  |_=>none
 |_=>none
def fV(Cs:List Str)(f:Str)(x:D)(a:aG):aE D:=match nU a x with
 |some (_,C,b)=>if Cs.contains C then (match b.lookup f with
  |some d=>.ok d a
  |none=>.bad)else .bad
 |none=>.bad
noncomputable def ti(f:Str)(v:D):List (Str×D)->List (Str×D)
 |[]=>[(f,v)]
 | (g,x)::r=>if g=f then (g,v)::r else (g,x)::ti f v r
def bq(C m:Str)(F:a5)(d:EM)(e:AM):EM:=λc f=>(d c f).bind λx a=>match nU a x with
 |some (_,g,h)=>if g=C/\h.lookup m=none then (e c a).bind λi b=>aQ F (x::i) b else .bad
 |none=>.bad
noncomputable def rg(C:Str)(F:a5)(xs:List D)(a:aG):aE D:=match F (.ref a.length::xs) (a++[.ins C []])with
 |.ok .non b=>.ok (.ref a.length) b
 |_=>.bad
def eU(Cs:List Str)(f:Str)(e g:EM):SM:=λb h=>cx (g b h) λy c=>cx (e b c) λx a=>match nU a x with
 |some (k,C,d)=>if Cs.contains C&&decide (d.length<1000)then .nx b (a.set k (.ins C (ti f y d)))else .bad
 |none=>.bad
def lP(x y v:D)(b:aG):Option aG:=match x with
 |.ref k=>match b[k]? with
  |some (.dK a)=>match uU y with
   |some c=>if small (a.length+1)then some (b.set k (.dK (cX a c v)))else none
   |none=>none
  |_=>none
 |_=>none
def dh(f g h:EM):SM:=λa i=>cx (h a i) λv b=>cx (f a b) λx c=>cx (g a c) λy d=>match lP x y v d with
 |some e=>.nx a e
 |none=>.bad
theorem ck.ok0(h:ck i q r o e (th P4) ξ):ck i kF r o e P4 ξ:=by
 cases P4 with
 |ok d a=>exact h
 |exc x a=>exact h.elim
 |bad=>exact h
variable{H:a5}
theorem yM(F0:Gs c i b d H)(j:cm b c.A)(k:Gl c d)(e:(d==("__debug__"))=false):b_ c i q (.Call (.Name d J) [] [] n) (mN (aQ H) ah):=by
 refine dG F0.ex λf w x l m o F1=>?_
 intro p y z B r
 refine PE.imp (by
   intro pins s t a Q I h;refine ZC (er I k l (Š I.eY m (qu F1 j o .nil lF I .nil h)) e)) ?_
 rintro t a Q ⟨u,Z,S,g⟩;exact⟨u,Z,r,[],S.st,.nil,ck.ok0 g⟩
theorem gE:∀{c}{b},kE B6 c b->(∀a,c.lookup d=some a->∃v,b.lookup d=some v/\B6 a v)/\(c.lookup d=none->b.lookup d=none):=by
 intro c b h
 induction h with
 |nil=>simp
 |@cons p q e f r t g=>
  grind
variable{M5:List (Str×D)}{W4:List (Str×V)}
theorem Bi(r:B6 l w)(h:kE B6 M5 W4):kE B6 (ti d l M5) (gX d w W4):=by
 induction h with
 |nil=>exact .cons ⟨rfl,r⟩ .nil
 |@cons p q f g a t b=>
  obtain⟨a,c⟩:=a;obtain⟨k,l⟩:=p;obtain⟨i,j⟩:=q;cases a;simp only[ti,gX]
  by_cases e:k=d
  .rw[if_pos e,if_pos e];exact .cons ⟨rfl,r⟩ t
  .rw[if_neg e,if_neg e];exact .cons ⟨rfl,c⟩ b
theorem ij(S:bO i r o a e)(g:ax r o e l w)(h:nU a l=some (b,d,M5)):∃c j m f,w=.ref c/\l=.ref b/\r[b]?=some c/\i d j/\e c=some (.ins j m f)/\kE (ax r o e) M5 f:=by
 cases l with
 |ref n=>
  simp only[nU]at h;split at h
  .rename_i s f p
   simp only[ax]at g;refine bc (S.cell p) λt q k=>cg k λj m f u x y=>?_
   grind
  .cases h
 |_=>cases h
def kY(K)(b:Str->b'->Prop)(Cs:List Str)(f):=∀C a,Cs.contains C=true->b C a->oD K a/\dm K a f
theorem ED(m:kY c.K i g d)(o:Zc j d c.env (eval j c.env)=eval j c.env)(p:b_ c i q j t):b_ c i q (.Attribute j d n) (m1 (fV g d) t):=
 mD (λJ r=>Hs r o) p λh x L Z M H Q S s b=>by
  unfold fV at b;split at b
  .rename_i k C N u
   refine a_ (ij S s u) λa l h w f _ _ y z A=>?_;subst f
   split at b
   .rename_i B
    obtain⟨D,E⟩:=m C l B y;split at b
    .rename_i e F
     refine bc ((gE A).1 e F) λv G I=>⟨a,l,h,_,v,rfl,z,D,E,G,ck.ret S I b⟩
    .exact b.elim
   .exact b.elim
  .exact b.elim
def Gu(P w K)(i:Str->Option f')(base)(d:Str->b'->Prop)(k C m)(F:a5)(c f e)(ps:List Str):=
 (∀a,d C a->a=c)/\oD K c/\Meth K c m f/\∃g b h F1,Binds K e ps g/\Vals b g/\(∀j Z H,aJ (ax j Z H) h b)/\bJ P w K i base eL k f e ps (cN d F1)/\F=λl=>F1 (l++h)
structure wJ(X:Cx)(κ:Str->b'->Prop)(k:Nat)(C m:Str)(F:a5):Prop where
 ex:∃(Ca f:b') (fd:Yb) (ps:List Str),Gu X.prog X.w X.K X.mg X.base κ k C m F Ca f fd ps
theorem Bj(M:wJ c i b d T H)(G:cm b c.A)(I:b_ c i q Q t)(K:wu c i q (j::O) J0){pl}(l:I' (j::O) c.env=(false,eval j c.env)::I' O c.env)(m:(Ye n (I' O c.env)).any (·.1)=false)(L:eval (.Call (.Attribute Q T J) (j::O) [] n) c.env=(do
   let B ←eval Q c.env
   Zi J.atName
   let (f,first) ←Zo [B] (Zy B T pl)
   ZK n f first (Ye n (I' (j::O) c.env)) (Ze n (Zf [] c.env)))):
  b_ c i q (.Call (.Attribute Q T J) (j::O) [] n) (bq d T H t J0):=by
 obtain⟨Ca,f,fd,ps,N,o,P,R,U,Dd,F0,V,p,X,F1,rfl⟩:=M.ex;intro e C D E Y;refine PE.imp (Ds (I e C D E Y) o P F1 G V p lF (PA.ex λh=>K e C D E h) l m L) ?_
 rintro σ r s ⟨α,Z,S,g⟩;refine⟨α,Z,S,ck.use g λx h _ v H1 a0 Z1 g1 u F k=>?_⟩
 split at k
 .rename_i w C' fs hk
  split at k
  .rename_i hc
   obtain⟨rfl,hl⟩:=hc;refine a_ (ij u F hk) λa b0 dx c0 y z _ q1 q2 q3=>?_;subst y;subst z
   obtain rfl:=N _ q1;refine⟨a,dx,_,rfl,q2,(gE q3).2 hl,_,_,Z1,S.grow g1 u,pJ.use k λxs d0 _ vs H2 e0 Z2 g2 s2 r2 k2=>⟨_,Z2,_,_,s2,.cons (u.cO g2 F) (r2.append (X _ _ _)),ck.ok0 k2⟩⟩
  .exact k.elim
 .exact k.elim
theorem yN(M:wJ c i b d T H)(w:cm b c.A)(y:b_ c i q j t){pl}(z:eval (.Call (.Attribute j T J) [] [] n) c.env=(do
   let r ←eval j c.env
   Zi J.atName
   let (f,first) ←Zo [r] (Zy r T pl)
   ZK n f first (Ye n (I' [] c.env)) (Ze n (Zf [] c.env)))):
  b_ c i q (.Call (.Attribute j T J) [] [] n) (bq d T H t ah):=by
 obtain⟨Ca,f,fd,ps,B,h,C,D,E,Dd,F0,F,k,G,F1,rfl⟩:=M.ex;intro l I K L N;refine PE.imp (zK (y l I K L N) h C F1 w F k lF z) ?_;rintro σ m Q ⟨O,Z,S,g⟩;refine⟨O,Z,S,ck.use g λx P _ v H1 R U g1 s u e=>?_⟩
 split at e
 .rename_i o C' fs V
  split at e
  .rename_i X
   obtain⟨rfl,Y⟩:=X;refine a_ (ij s u V) λa a0 dx b0 p c0 _ q1 q2 q3=>?_;subst p;obtain rfl:=B _ q1
   exact⟨a,dx,_,rfl,q2,(gE q3).2 Y,_,U,_,_,s,.cons u (G _ _ _),ck.ok0 e⟩
  .exact e.elim
 .exact e.elim
structure Gv(X:Cx)(κ:Str->b'->Prop)(k:Nat)(C:Str)(F:a5):Prop where
 ex:∃(Ca f:b') (fd:Yb) (ps:List Str),κ C Ca/\Mk X.K Ca f/\X.mg C=some (.ref Ca)/\Binds X.K fd ps []/\bJ X.prog X.w X.K X.mg X.base eL k f fd ps (cN κ F)
variable{ψ:b'}
theorem tj(S:bO i r o a e)(f:aJ (ax r o e) p R)(k:i d h)(g:ck i q r o e (rg d H p a) ξ)(K:e C=none)(l:e ψ=none)(m:ψ≠C):
  cN i H (.ref C::(R++[])) (upd (upd e ψ (.own C)) C (.ins h ψ [])) (λv A=>v=.non/\ξ (.ref C) A) E0:=by
 rw[YS];obtain⟨u,B⟩:=S.sQ l False;have n:upd e ψ (.own C) C=none:=by rwa[aD (Ya m)]
 obtain⟨w,D⟩:=u.laid (c:=.ins d []) n λs hR=>⟨h,ψ,[],k,aS,.nil⟩
 have x:=B.trans D;have y:ax _ o (upd (upd e ψ (.own C)) C (.ins h ψ [])) _ _:=gf u C;refine⟨_,o,_,_,w,.cons y (S.lN x f),?_⟩;unfold rg at g;cases b:H _ _ with
 |ok j t=>
  rw[b]at g;cases j with
  |non=>
   intro v E F G z I J;exact⟨J,g _ E _ G (x.trans z) I (w.cO z y)⟩
  |_=>exact g.elim
 |exc C t=>rw[b]at g;exact g.elim
 |bad=>rwa[b]at g
theorem Bk(M:Gv c i b d H)(o:cm (b+1) c.A)(p:Gl c d)(e:(d==("__debug__"))=false):b_ c i q (.Call (.Name d J) [] [] n) (mN (rg d H) ah):=by
 refine aY M.ex λz f B C j m r t F1=>?_
 intro u D E F G
 refine PE.imp (by
   intro pins s w a Q I h;refine ZC (er I p r (Š I.eY m.kp (rW m F1 o t .nil lF I .nil h)) e)) ?_
 rintro w a Q ⟨K,Z,S,g⟩;exact λx L y k l=>tj S.st .nil j g y k l
theorem EE(G:kY c.K i g d)(I:YR j (some (.Attribute Q d J)) n.line c.env=pure false)(L:b_ c i q Q t)(M:b_ c i q j ν):ju c i q (.Assign [.Attribute Q d J] j n) (eU g d t ν):=by
 intro b r s A N;refine PS.imp (Ht (PE.ex λe=>L b r s A e) (M b r s A N) I) ?_
 rintro E O H ⟨P,Z,S,d⟩;refine⟨P,Z,S,dZ.use S d λy e v H1 T U _ g1 h V X=>⟨_,_,U,h,dZ.use h X λx Y w H2 a0 Z2 _ g2 l r2 f=>?_⟩⟩
 split at f
 .rename_i k C fs hk
  refine a_ (ij l.st r2 hk) λa m B b0 o c0 h0 D h2 F=>?_;subst o;split at f
  .rename_i p
   simp only[Yv,decide_eq_true_eq]at p;obtain⟨c1,c2⟩:=G C m p.1 D;obtain⟨s3,g3⟩:=l.st.put (c:=.ins C _) h0 (λQ u z=>by simp_all) λR hR=>⟨m,B,_,D,aS,(Bi (h.st.cO g2 V) F).imp hR⟩
   exact⟨a,m,B,_,rfl,h2,c1,c2,by rw[kE.length F];exact p.2,f O _ _ Z2 (l.grow g3 s3)⟩
  .exact f.elim
 .exact f.elim
theorem nV{u}(S:bO i r o a e)(s:ax r o e l w)(t:ax r o e Y P1)(x:ax r o e E8 u)(h:lP l Y E8 a=some η):∃b f,w=.ref b/\yi e b P1 u f/\bO i r o η f/\cM r o e r o f:=by
 cases l with
 |ref k=>
  simp only[lP]at h;obtain⟨b,n,rfl⟩:=s;split at h
  .rename_i y A
   refine bc (S.cell A) λG d g=>bc g λp B q=>?_
   rw[n]at d;cases d
   split at h
   .rename_i C j
    obtain rfl:=ka j t;split at h
    .rename_i D
     cases h;have:=bI D;obtain⟨E,F⟩:=S.put (c:=.dK _) n (λm u z=>by simp_all) λR hR=>⟨_,aS,(q.put C x).imp hR⟩
     exact⟨b,_,rfl,yi.k B (by rwa[q.length]),E,F⟩
    .cases h
   .cases h
  .cases h
 |_=>cases h
noncomputable def a9(n:Nat)(a:List D):bH:=a.map some++þ (n - a.length) none
noncomputable def fE:gi->aE D
 |.rt d a=>.ok d a
 |.nx _ a=>.ok .non a
 |.exc x a=>.exc x a
 |_=>.bad
def bw(n k:Nat)(c:SM):a5:=λa b=>if a.length=k then fE (c (a9 n a) b)else .bad
theorem jv(S:bO i r o a e)(b:aJ (ax r o e) p R):cV i r o e r o a (a9 g.length p) (L2.start g R) e where
 st:=S
 gr:=cM.refl S.has
 len:=by simp[a9,L2.start,b.length]
 val:=λc d f=>by
  unfold a9 at f
  by_cases h:c<p.length
  .rw[YU (by simp_all),YH]at f
   obtain⟨k,j,l⟩:=YE.mp f;obtain⟨v,m,n⟩:=b.get j;unfold L2.start
   grind
  grind
structure tm(P:Yc)(w:X_)(K:K')(mg:Str->Option f')(base:F')(κ:Str->b'->Prop)(k:Nat)(j:Nat)(F:List D->a5):Prop where
 run:∀(X:Cx) (f:b') (vs:List V) (σ:L2.St) (H:Hp) (Q:VK) (α:List b') (Z:b'->Prop) (Ω:aG) (sP ds:List D) (n:Nat),X.prog=P->X.w=w->X.K=K->X.mg=mg->X.base=base->cm k X.A ->
  bO κ α Z Ω H->α[n]?=some f->Ω[n]?=some (.fn j sP)->aJ (ax α Z H) ds vs->ck κ kF α Z H (F sP ds Ω) Q->Li X f vs σ H Q
theorem tm.mono{P w K a base b k c j F}(h:tm P w K a base b k j F)(d:k<=c):tm P w K a base b c j F:=
 ⟨λX f e g H Q i Z l sP m n o p q r s t=>h.run X f e g H Q i Z l _ m n o p q r s (t.mono d)⟩
def WL(M:List (List D->a5))(n:Nat)(xs:List D)(a:aG):aE D:=match a[n]? with
 |some (.fn j sP)=>match M[j]? with
  |some F=>aQ (F sP) xs a
  |none=>.bad
 |_=>.bad
noncomputable def isFn(a:aG)(n:Nat):Bool:=match a[n]? with
 |some (.fn _ _)=>true
 |_=>false
def Ii(M:List (List D->a5))(i:Nat)(d:AM):EM:=λb c=>match b[i]? with
 |some (some (.ref n))=>if isFn c n=true then (d b c).bind λe a=>WL M n e a else .bad
 |_=>.bad
abbrev XU:=List ((Str×Str)×Str×a5)
noncomputable def aa(i:Nat):EM:=λa b=>match a[i]? with|some (some d)=>.ok d b|_=>.bad
noncomputable def aj(d:D):EM:=λ_ a=>.ok d a
def dg:EM:=λ_ a=>jZ a (.dK [])
noncomputable def o2{c d e:Type}(x:Option c)(y:Option d)(k:c->d->e):=match x,y with
 |some a,some b=>some (k a b)
 |_,_=>none
theorem bo{c d e x y}{k:c->d->e}{z}(h:o2 x y k=some z):∃a b,x=some a/\y=some b/\z=k a b:=by
 unfold o2 at h
 grind
theorem cY{b c:Type}{x}{k:b->c}{z}(h:x.map k=some z):∃a,x=some a/\z=k a:=by
 cases x with
 |none=>cases h
 |some a=>simp_all
structure aO where
 iT:List (Str×(List D->Out Rs)):=[]
 fn:List (Str×a5):=[]
 cst:List (Str×D):=[]
 met:List (Str×Str×a5):=[]
 cls:List (Str×a5):=[]
 fld:List (Str×List Str):=[]
 clo:List (List D->a5):=[]
 fz:List Str:=[]
 xt:Bool:=false
def rh(T:aO)(a:XY)(N:List Str)(x:Str):Option EM:=
 match hG a N x with
 |some i=>some (aa i)
 |none=>if wj a x&&okN x then (T.cst.lookup x).map aj else none
def tp:Const->Option EM
 |.none=>some (aj .non)
 |.bool b=>some (aj (.bl b))
 |.int i=>some (aj (.int i))
 |.str x=>some (aj (.str x))
 |_=>none
def cZ(f:x'->Option EM):List x'->Option AM
 |[]=>some ah
 |e::a=>o2 (f e) (cZ f a) ae
def WM(c:ď)(a b:EM):=match c with
 |.And=>nL a b
 |.Or=>AY a b
def mH(f:x'->Option EM)(c:ď):List x'->Option EM
 |[]=>none
 |[a]=>f a
 |a::b::r=>o2 (f a) (mH f c (b::r)) (WM c)
def va(f:x'->Option EM):Option x'->Option (Bool×EM)
 |none=>some (true,aj .non)
 |some e=>(f e).map λm=>(false,m)
inductive BM where
 |append|reverse|insert|extend|index|join
noncomputable def BM.nm:BM->Str
 |.append=>"append" |.reverse=>"reverse" |.insert=>"insert" |.extend=>"extend" |.index=>"index" |.join=>"join"
noncomputable def BM.ar:BM->Nat
 |.append=>1|.reverse=>0|.insert=>2|.extend=>1|.index=>1|.join=>1
def BM.ty:BM->aG->D->Bool
 |.join=>LY
 |_=>jr
def BM.f:BM->D->List D->aG->aE D
 |.append=>bX|.reverse=>eT|.insert=>iy|.extend=>iz|.index=>e_|.join=>sW
def Ij(m n):=[BM.append,.reverse,.insert,.extend,.index,.join].find? λb=>b.nm==m&&b.ar==n
def iE(a:EM)(b:AM)(m:Str):List (Str×Str×a5)->Option EM
 |[]=>none
 | (c,C,F)::r=>if c==m then (match iE a b m r with
  |some x=>some (nJ (bq C m F a b) x)
  |none=>some (bq C m F a b))else iE a b m r
def mI(T:aO)(m:Str)(n:Nat)(a:EM)(c:AM):Option EM:=match Ij m n,iE a c m T.met with
 |some b,some x=>some (nJ (dv b.ty b.f a c) x)
 |some b,none=>some (dv b.ty b.f a c)
 |none,x=>x
noncomputable def ey:x'->Bool
 |.Name .. |.Attribute .. |.Constant (.str _) .. |.Subscript ..=>true
 |_=>false
def Bl(x):=[mw.len,mw.all,mw.any,mw.list,mw.tuple].find? (λb=>b.nm==x)
theorem EF{b}(h:Bl d=some b):d=b.nm/\b∈[mw.len,mw.all,mw.any,mw.list,mw.tuple]/\b.nm∈eQ:=by
 have a:=ϓ h;have c:=List.mem_of_find?_eq_some h;refine⟨(eq_of_beq a).symm,c,?_⟩;cases b<;>first|decide
def ri(T:aO)(a:XY)(f:x'->Option EM)(x:Str)(args:List x'):Option EM:=
 if wj a x&&okN x then
  match T.fn.lookup x,T.iT.lookup x,T.cls.lookup x,Bl x with
  |some F,_,_,_=>(cZ f args).map (mN (aQ F))
  |none,some F,_,_=>if args.isEmpty then none else (cZ f args).map (mN (dj F))
  |none,none,some F,_=>(cZ f args).map (mN (rg x F))
  |none,none,none,some b=>if args.isEmpty then none else (cZ f args).map (mN (aX b))
  |none,none,none,none=>if x==("dict")then (if args.isEmpty then none else (cZ f args).map (mN eS))else none
 else none
def rj(T:aO)(a:XY)(N:List Str)(f:x'->Option EM)(x:Str)(args:List x'):Option EM:=match hG a N x with
 |some _=>none
 |none=>ri T a f x args
def Bm(b:XY):List x'->Option (x'×Ty×V')
 |[a,.Name t p]=>match Gm t with
  |some c=>if wj b t then some (a,c,p)else none
  |none=>none
 |_=>none
theorem yO(h:Bm Z O=some (j,N2,n)):O=[j,.Name N2.nm n]/\wj Z N2.nm=true/\N2.nm∈eQ:=by
 unfold Bm at h;split at h
 .split at h
  .rename_i b a
   split at h
   .obtain⟨rfl,m⟩:=LG a
    simp_all
   .cases h
  .cases h
 .cases h
def tq(b:XY)(f:x'->Option EM)(x:Str)(args:List x'):Option EM:=if x==("isinstance")&&wj b x then match Bm b args with
 |some (a,c,_)=>(f a).map (m1 (gV c))
 |none=>none else none
def gj(f:x'->Option EM)(b)(iter:x'):=match iter with
 |.Call (.Name g _) args [] _=>if g==("range")then (if wj b g then (match args with
   |[a]=>(cZ f [a]).map eh
   |_=>none)else none)else (f iter).map ba
 |_=>(f iter).map ba
def Bn(f:x'->Option EM):List x'->Option (Bool×EM)
 |[]=>some (true,aj .non)
 |[c]=>(f c).map λm=>(false,m)
 |_=>none
noncomputable def emptyDict:List (Option x')->List x'->Bool
 |[],[]=>true
 |_,_=>false
def cC(T:aO):Nat->XY->List Str->x'->Option EM
 |0,_,_,_=>none
 |n+1,d,N,e=>match e with
  |.Name x _=>rh T d N x
  |.Constant c _ _=>tp c
  |.BinOp a g b _=>o2 (cC T n d N a) (cC T n d N b) (m2 (bu g))
  |.UnaryOp .Not a _=>(cC T n d N a).map kb
  |.BoolOp g (a::b::r) _=>mH (cC T n d N) g (a::b::r)
  |.Compare a [g] [b] _=>if isSet b then none else o2 (cC T n d N a) (cC T n d N b) (m2 (aI g))
  |.Compare a [g,h] [b,c] _=>if isSet c then none else o2 (cC T n d N a) (o2 (cC T n d N b) (cC T n d N c) YC) λx y=>qZ g h x y.1 y.2
  |.IfExp t a b _=>o2 (cC T n d N t) (o2 (cC T n d N a) (cC T n d N b) YC) λx y=>HZ x y.1 y.2
  |.Subscript a (.Slice p q none _) _=>o2 (cC T n d N a) (o2 (va (cC T n d N) p) (va (cC T n d N) q) YC) λx y=>du x y.1.1 y.1.2 y.2.1 y.2.2
  |.Subscript a b _=>if isSlice b then none else o2 (cC T n d N a) (cC T n d N b) (m2 aL)
  |.List i _=>(cZ (cC T n d N) i).map (mN bt)
  |.Tuple i _ _=>(cZ (cC T n d N) i).map (mN gU)
  |.Attribute o f _=>if ey o then o2 (T.fld.lookup f) (cC T n d N o) λCs m=>m1 (fV Cs f) m else none
  |.Call (.Name x _) args [] _=>match tq d (cC T n d N) x args with
   |some m=>some m
   |none=>rj T d N (cC T n d N) x args
  |.Call (.Attribute o m s) args [] u=>if s.endLine==u.line&&ey o&&decide (args.length<20)then (match cC T n d N o,cZ (cC T n d N) args with
   |some w,some z=>mI T m args.length w z
   |_,_=>none)else none
  |.ListComp j gens scope _=>match pE gens with
   |some (x,_,iter,k)=>if yB scope d x&&!isSet iter then (match uM d N (fc scope),gj (cC T n d N) d iter,cC T n (DX scope d) (x::fc scope) j,Bn (cC T n (DX scope d) (x::fc scope)) k with
    |some l,some A,some B,some (C,D)=>some (bK B C D A 0 l)
    |_,_,_,_=>none)else none
   |none=>none
  |.Dict E F _=>if emptyDict E F then some dg else none
  |_=>none
structure GoodO(X:Cx)(κ:Str->b'->Prop)(T:aO)(k:Nat)(sc:XY)(N:List Str):Prop where
 scope:X.env.scope=sc
 names:X.N=N
 calm:X.calm=true
 room:cm k X.A
 de:∀x∈eQ,X.mg x=none
 iT:∀x F,T.iT.lookup x=some F->LB X k x F
 fn:∀x F,T.fn.lookup x=some F->Gs X κ k x F
 cst:∀x d,T.cst.lookup x=some d->∃v u,X.mg x=some u/\RelV v u/\iW d=some v
 met:∀m C F,(m,C,F)∈T.met->wJ X κ k C m F
 cls:∀C F,T.cls.lookup C=some F->∃j,j+1<=k/\Gv X κ j C F
 fld:∀f Cs,T.fld.lookup f=some Cs->kY X.K κ Cs f
 clo:(∀j F,T.clo[j]?=some F->tm X.prog X.w X.K X.mg X.base κ k j F)
variable{ζ:aO}
theorem GoodO.gl(G:GoodO c i ζ b Z g)(h:wj Z d=true):Gl c d:=by
 show c.env.scope.names.lookup d=some _
 rw[G.scope];exact(eq_of_beq h)
theorem GoodO.hu(G:GoodO c i ζ b Z g):c.A.units+64<Yk:=G.room.units
theorem GoodO.blk{X c T k d N}(G:GoodO X c T k d N)(scope f C e a b fp):GoodO (blk X scope f C e a b fp) c T k (DX scope d) e where
 scope:=by rw[←G.scope];rfl
 names:=rfl
 calm:=G.calm
 room:=G.room
 de:=G.de
 iT:=λx F h=>⟨(G.iT x F h).ex⟩
 fn:=λx F h=>⟨(G.fn x F h).ex⟩
 cst:=G.cst
 met:=λm C F h=>⟨(G.met m C F h).ex⟩
 cls:=λC F h=>bc (G.cls C F h) λj g i=>⟨j,g,⟨i.ex⟩⟩
 fld:=G.fld
 clo:=G.clo
def pS(X)(b:Str->b'->Prop)(e m):=(∀a,b_ X b a e m)/\(∀a,kU X b a e m)/\isStar e=false
theorem cH(h:∀Φ,b_ c i Φ j t)(d:isStar j=false)(e:∀a,ò j c.env a=(do let v ←a;Zi j.pos;Zo [v] (ė v))):pS c i j t:=⟨h,λΦ=>by
  intro b f k l m;refine PT.imp (zH ((h Φ) b f k l m) e) ?_;rintro o H Q ⟨n,Z,S,g⟩;exact⟨n,Z,S,g.VD⟩,d⟩
theorem bU{X c f}(d:∀e m,f e=some m->pS X c e m):∀{a}{b},cZ f a=some b->(∀Φ,wu X c Φ a b)/\(∀e∈a,isStar e=false)
 |[],b,h=>by cases h;exact⟨λΦ=>iv,by simp⟩
 |e::a,b,h=>by
  obtain⟨m,g,i,j,rfl⟩:=bo h;obtain⟨k,_,l⟩:=d e m i;obtain⟨n,o⟩:=bU d j;refine⟨λΦ=>gg (k Φ) (n Φ) (bF l),λz p=>?_⟩
  grind
theorem Bo(G:GoodO c i ζ b Z g)(h:rh ζ Z g d=some t):pS c i (.Name d n) t:=by
 unfold rh at h;split at h
 .rename_i e q
  cases h;obtain⟨s,w,f,k⟩:=gC q;exact cH (λl=>mE (by rwa[G.names]) (by rwa[G.scope]) f k) rfl (λ_=>rfl)
 .split at h
  .rename_i j
   simp at j;obtain⟨a,f,rfl⟩:=cY h;refine aF (G.cst d a f) λv u m o p=>?_
   obtain⟨r,x,y⟩:=wm j.2;exact cH (λl=>fP (Dl (G.gl j.1) m o r) p) rfl (λ_=>rfl)
  .cases h
theorem yP{q}(h:tp q=some t):pS c i (.Constant q b n) t:=by
 cases q<;>cases h
 .exact cH (λa=>fP (λ_ _ _ H _ I h=>Constant_none ⟨.non,H,I,rfl,h⟩) rfl) rfl (λ_=>rfl)
 .exact cH (λa=>fP KI rfl) rfl (λ_=>rfl)
 .exact cH (λa=>fP He rfl) rfl (λ_=>rfl)
 .exact cH (λa=>fP qj rfl) rfl (λ_=>rfl)
theorem tv{X w f s pos}(y:∀e m,f e=some m->pS X w e m):∀{z}{m},mH f s z=some m->(∀Φ,b_ X w Φ (.BoolOp s z pos) m)/\(∀Φ,Gp X w Φ (.BoolOp s z pos) m)
 |[],m,h=>by cases h
 |[a],m,h=>by
  obtain⟨t,u,G⟩:=y a m h;exact⟨λΦ=>λc k l n q=>Hg ((t Φ) _ k l n q),λΦ=>Ep (u Φ)⟩
 |a::b::r,m,h=>by
  obtain⟨I,N,J,K,rfl⟩:=bo h;obtain⟨t,u,G⟩:=y a I J;obtain⟨E,F⟩:=tv y K;cases s with
  |And=>exact⟨λΦ=>by
    intro c k l n q;refine PE.imp (DV ((t Φ) c k l n q) (PE.ex λd=>(E Φ) c k l n d)) ?_
    rintro L H Q ⟨A,Z,S,g⟩;refine⟨A,Z,S,ck.use g λx d _ v M B C D i o j=>?_⟩
    split at j
    .rename_i p
     exact⟨_,ia i o p,uz ⟨_,_,C,S.grow D i,j⟩⟩
    .rename_i p
     exact⟨_,ia i o p,uy (ck.ret i o j)⟩
    .exact j.elim,λΦ=>Er (u Φ) (F Φ)⟩
  |Or=>exact⟨λΦ=>by
    intro c k l n q;refine PE.imp (HL ((t Φ) c k l n q) (PE.ex λd=>(E Φ) c k l n d)) ?_
    rintro L H Q ⟨A,Z,S,g⟩;refine⟨A,Z,S,ck.use g λx d _ v M B C D i o j=>?_⟩
    split at j
    .rename_i p
     exact⟨_,ia i o p,uy ⟨_,_,C,S.grow D i,j⟩⟩
    .rename_i p
     exact⟨_,ia i o p,uz (ck.ret i o j)⟩
    .exact j.elim,λΦ=>H_ (u Φ) (F Φ)⟩
variable{Y6:x'->Option EM}
theorem tw(b:∀e t,Y6 e=some t->pS c i e t)(h:va Y6 G7=some (E,t)):OG c i q G7 E t:=by
 cases G7 with
 |none=>cases h;exact .inl ⟨rfl,rfl⟩
 |some e=>
  obtain⟨a,d,f⟩:=cY h;cases f;exact .inr ⟨e,rfl,rfl,(b e t d).1 q⟩
theorem EG{m n b}(h:Ij m n=some b):m=b.nm/\n=b.ar:=by
 have:=ϓ h
 simp_all
theorem d_(h:ey j=true):Zc j d A4 (eval j A4)=eval j A4:=by
 cases j<;>first|rfl | (cases h)
theorem L_(hu:c.A.units+64<Yk)(b:BM)(K:ey j=true)(B:(n.endLine==J.line)=true)(L:O.length=b.ar)(M:b_ c i q j t)(ha:cZ Y6 O=some J0)(hf:∀e m,Y6 e=some m->pS c i e m):
  b_ c i q (.Call (.Attribute j b.nm n) O [] J) (dv b.ty b.f t J0):=by
 obtain⟨C,N⟩:=bU hf ha;have C:=C q;cases b with
 |append=>
  match O,L with
  |[e],_=>exact nQ Đ aat PySem.F.type_list_append pk (λx v o Z p H S r h=>nP S r h) (λx v D E o Z p H Q S r w g=>yJ S r w g) (d_ K) B M C N (by simp)
 |reverse=>
  match O,L with
  |[],_=>cases ha;exact Ey Đ abw PySem.F.type_list_reverse (by
    intro pins s σ H x E v us Q I P R h;obtain⟨l,D,rfl,rfl,hH,a⟩:=h;cases P;have T:=R.zero;subst T;refine xa (I.zP hH) λz G=>aF G λU d r B e=>?_
    refine â abw ⟨_,e,rfl⟩ F.entry_list_reverse (F.args_list_reverse_1 _) (AutoSeq1.list_reverse_list_0 l _ d (by simp_all)) ⟨e,?_⟩
    refine⟨.non,_,I.Dy hH e (by simp) r.reverse ?_,rfl,a⟩
    simp_all) (λx v o Z p H S r h=>nP S r h) (λx v D E o Z p H Q S r w g=>uY S r w g) (d_ K) B M
 |insert=>
  match O,L with
  |[e,e2],_=>exact nQ Đ abi PySem.F.type_list_insert yA (λx v o Z p H S r h=>nP S r h) (λx v D E o Z p H Q S r w g=>yK S r w g) (d_ K) B M C N (by simp)
 |extend=>
  match O,L with
  |[e],_=>exact nQ Đ aau PySem.F.type_list_extend yh (λx v o Z p H S r h=>nP S r h) (λx v D E o Z p H Q S r w g=>yL S r w g) (d_ K) B M C N (by simp)
 |index=>
  match O,L with
  |[e],_=>exact nQ Đ abk PySem.F.type_list_index (AG hu) (λx v o Z p H S r h=>nP S r h) (λx v D E o Z p H Q S r w g=>Bc S r w g) (d_ K) B M C N (by simp)
 |join=>
  match O,L with
  |[e],_=>exact nQ PySem.F.plainAttrs_str PySem.F.slot_str_join PySem.F.type_str_join (by
    intro pins s σ H x E v us Q I P R h;refine xe h λz G=>a_ G λZ ds D y V X d hs h1 Y=>xa Y λh2 a=>?_;subst V;subst X
    obtain⟨a0,rfl⟩:=P;obtain⟨l,ws,rfl,q1,q2⟩:=dI d;obtain⟨u,rfl,ru⟩:=R.one;cases ru;refine bx (I.list (nr q1)) λU b0 pl hz=>?_
    exact join_listW pl.isList (by simpa using wh hs q2 b0) h1 h2 λt' k=>⟨.str _,H,I.tok _,⟨t',rfl⟩,a⟩) (λx v o Z p H S r h=>by
      cases x with
      |str z=>subst r;rfl
      |_=>cases h) (λx v D E o Z p H Q S r w g=>Ez S r w g) (d_ K) B M C N (by simp)
theorem mJ(h:Zc j d A4 (eval j A4)=eval j A4)(c:∀e∈O,isStar e=false)(b:O.length<20)(i:(n.endLine==J.line)=true):
  eval (.Call (.Attribute j d n) O [] J) A4=(do
   let a ←eval j A4
   Zi n.atName
   let (f,first) ←Zo [a] (Zy a d (do let l ←importBound j A4;pure (l.getD true)))
   ZK J f first (Ye J (I' O A4)) (Ze J (Zf [] A4))):=by
 have k:abx (O.length+([]:List Ê).length) (Ye J (I' O A4)) (Ze J (Zf [] A4))=true:=by
  unfold abx;rw[uX c,decide_eq_true (by grind)];rfl
 have g:eval (.Call (.Attribute j d n) O [] J) A4=(do
   let a ←Zc j d A4 (eval j A4)
   Zi n.atName
   methodCall j d n J A4 a (O.length+([]:List Ê).length) (Ye J (I' O A4)) (Ze J (Zf [] A4))):=by rfl
 rw[g];unfold methodCall calleeOf methodCallPos
 simp_all
theorem jw{X c k f}(d:cm k X.A){o m b n p r s Φ}(g:ey o=true)(i:(r.endLine==s.line)=true)(a:b.length<20)(j:b_ X c Φ o n)(l:cZ f b=some p)(t:∀e m,f e=some m->pS X c e m):∀{ms}{x},(∀m C F,(m,C,F)∈ms->wJ X c k C m F)->iE n p m ms=some x->b_ X c Φ (.Call (.Attribute o m r) b [] s) x
 |[],x,_,h=>by cases h
 | (u,C,F)::ms,x,w,h=>by
  obtain⟨B,z⟩:=bU t l;simp only[iE]at h;split at h
  .rename_i D
   obtain rfl:=eq_of_beq D
   have one:b_ X c Φ (.Call (.Attribute o u r) b [] s) (bq C u F n p):=by
    cases b with
    |nil=>cases l;exact yN (by grind) d j (mJ (d_ g) z a i)
    |cons e b=>exact Bj (by grind) d j (B Φ) (bF (by simp_all)) (bG (by simp_all)) (mJ (d_ g) z a i)
   split at h
   .rename_i y E
    cases h;exact one.alt (jw d g i a j l t (λm C F q=>w m C F (by simp[q])) E)
   simp_all
  .exact jw d g i a j l t (λm C F q=>w m C F (by simp[q])) h
theorem Bp{X a T k w N f}(G:GoodO X a T k w N){o m c g i j l Φ x}(q:ey o=true)(r:(j.endLine==l.line)=true)(d:c.length<20)(s:b_ X a Φ o g)(t:cZ f c=some i)(u:∀e m,f e=some m->pS X a e m)(h:mI T m c.length g i=some x):b_ X a Φ (.Call (.Attribute o m j) c [] l) x:=by
 have one:∀b,Ij m _=some b->b_ X a Φ (.Call (.Attribute o m j) c [] l) (dv b.ty b.f g i):=λb n=>by
  obtain⟨rfl,z⟩:=EG n;exact L_ G.hu b q r z s t u
 have p:∀y,iE g i m _=some y->b_ X a Φ _ y:=λy A=>jw G.room q r d s t u G.met A
 unfold mI at h;split at h
 .rename_i b y B C
  cases h;exact(one b B).alt (p y C)
 .simp_all
 simp_all
theorem Bq(G:GoodO c i ζ b Z g)(w:∀e t,Y6 e=some t->pS c i e t)(h:ri ζ Z Y6 d O=some t):pS c i (.Call (.Name d n) O [] J) t:=by
 refine cH (λr=>?_) rfl (λ_=>rfl)
 unfold ri at h;split at h
 .rename_i D
  simp at D;obtain⟨x,n2,n3⟩:=wm D.2;have q:=G.gl D.1;split at h
  .rename_i F u
   obtain⟨y,m,rfl⟩:=cY h;obtain⟨o,p⟩:=bU w m;cases O with
   |nil=>cases m;exact yM (G.fn d F u) G.room q x
   |cons a O=>
     refine dG ((G.fn d F u).ex) λY6 fd ps E hk z F1=>?_
     intro s I K L A;refine PE.imp (qv F1 G.room q E hk z .nil lF ((o r) s I K L A) x (bF (p a (by simp))) (bG (by grind))) ?_
     rintro σ H Q ⟨B,k,S,f⟩;refine⟨B,k,S,pJ.use f λC N _ P H1 R Z1 g1 T U V=>?_⟩
     rw[YS];exact⟨_,Z1,_,C,T,U,ck.ok0 V⟩
  .rename_i F _ u
   split at h
   .cases h
   .rename_i l
    obtain⟨y,m,rfl⟩:=cY h;obtain⟨o,p⟩:=bU w m;cases O with
    |nil=>exact absurd rfl l
    |cons a O=>exact yF (G.iT d F u) G.room q x (bF (p a (by simp))) (bG (by simp_all)) (o r)
  .rename_i F _ _ u
   obtain⟨y,m,rfl⟩:=cY h;obtain⟨o,p⟩:=bU w m;obtain⟨j,hj,M⟩:=G.cls d F u;cases O with
   |nil=>cases m;exact Bk M (G.room.mono hj) q x
   |cons a O=>
     refine aY M.ex λCa Y6 fd ps X hM E z F1=>?_
     intro s I K L A;refine PE.imp (Dt hM F1 (G.room.mono hj) q E z .nil lF ((o r) s I K L A) x (bF (p a (by simp))) (bG (by simp_all))) ?_
     rintro σ H Q ⟨B,k,S,f⟩;exact⟨B,k,S,pJ.use f λC N _ P H1 R Z1 g1 T U V d dx Y a0 l=>tj T U X V Y a0 l⟩
  .rename_i b0 _ _ _ z
   split at h
   .cases h
   .rename_i l
    obtain⟨y,m,rfl⟩:=cY h;obtain⟨o,p⟩:=bU w m;obtain⟨rfl,b1,b2⟩:=EF z;cases O with
    |nil=>exact absurd rfl l
    |cons a O=>exact Ew G.calm b1 q (G.de _ b2) (bF (p a (by simp))) (bG (by grind)) (o r)
  .split at h
   .rename_i Y
    obtain rfl:=eq_of_beq Y;split at h
    .cases h
    .rename_i l
     obtain⟨y,m,rfl⟩:=cY h;obtain⟨o,p⟩:=bU w m;cases O with
     |nil=>exact absurd rfl l
     |cons a O=>
       show b_ c i r _ (mN (oX _ _) y)
       rw[rb];exact b_.alt (ic (uD G.calm) q (G.de _ (by decide)) boot_dict (by decide) (by decide) (bF (p a (by simp))) (bG (by grind)) (o r) λC P B k A H Q S rx f=>Eu S rx f) (ic uC q (G.de _ (by decide)) boot_dict (by decide) (by decide) (bF (p a (by simp))) (bG (by grind)) (o r) λC P B k A H Q S rx f=>Et S rx f)
   .cases h
 .cases h
theorem EH(G:GoodO c i ζ b Z g)(k:∀e t,Y6 e=some t->pS c i e t)(h:tq Z Y6 d O=some t):pS c i (.Call (.Name d n) O [] J) t:=by
 unfold tq at h;split at h
 .rename_i f
  simp at f;obtain⟨rfl,l⟩:=f;split at h
  .rename_i a x y m
   obtain⟨rfl,o,p⟩:=yO m;obtain⟨q,r,rfl⟩:=cY h;obtain⟨s,_,u⟩:=k a q r;exact cH (λw=>Ex (G.gl l) (G.de _ (by decide)) (G.gl o) (G.de _ p) (bF u) (bG λz j=>by simp at j;subst j;rfl) (s w)) rfl (λ_=>rfl)
  .cases h
 .cases h
theorem jx(G:GoodO c i ζ b Z g)(p:∀e m,Y6 e=some m->pS c i e m)(h:gj Y6 Z j=some y1):∀Φ l,Be c i Φ l j y1:=by
 intro Φ l
 have dflt:∀{y1},(Y6 j).map ba=some y1->Be c i Φ l _ y1:=λ{y1} h=>by
  obtain⟨m,n,rfl⟩:=cY h;exact EA ((p _ m n).1 Φ)
 unfold gj at h;split at h
 .split at h
  .rename_i r
   obtain rfl:=eq_of_beq r;split at h
   .rename_i s
    split at h
    .obtain⟨I,n,rfl⟩:=cY h
     obtain⟨t,J⟩:=bU p n;intro o u w x y;refine PI.imp (yd (G.gl s) (G.de _ (by decide)) ((t Φ) o u w x y) (by rw[bF (by simp_all)];rfl)) ?_
     rintro K H R ⟨z,a,S,d⟩;refine⟨z,a,S,ud.RE d λL A _ M B C D N q E f=>?_⟩
     unfold wG at f;split at f
     .obtain⟨v,rfl,F⟩:=iA E
      subst F;split at f
      .rename_i k
       have k:=sx k;exact⟨_,rfl,k.1,k.2,f _ B _ D (cM.refl q.has) q Bf⟩
      .exact f.elim
     .exact f.elim
    .cases h
   .cases h
  simp_all
 simp_all
variable{u8:XY}
theorem wK(G:GoodO c i ζ b Z g)(h:yB u8 Z d=true)(k:uM Z g (fc u8)=some I):
  lK c u8 [d] (fc u8) I/\u8.names.lookup d=some .local/\([d]++fc u8).Nodup:=by
 simp only[yB,Yv,decide_eq_true_eq,YP,ZH,beq_iff_eq,Ϝ]at h;obtain⟨⟨⟨⟨⟨l,s⟩,t⟩,u⟩,m⟩,n⟩:=h;obtain⟨o,w⟩:=AJ k
 have p:∀y∈u8.names,y.2=.free->(Z.names.lookup y.1=some .cell\/Z.names.lookup y.1=some .free)/\u8.names.lookup y.1=some .free:=λy a e=>by
  grind
 refine⟨⟨l,λy a e=>?_,λy a e=>?_,λy a e=>?_,o,λj f z q x=>?_⟩,m,n⟩
 .grind
 .grind
 .have:=(p y a e).1
  show c.env.scope.names.lookup _=_\/c.env.scope.names.lookup _=_
  rwa[G.scope]
 .refine⟨by rw[G.names];grind,?_⟩
  have r:=Yf q;unfold fc at r
  grind
variable{Y8:Prop}
theorem nW(c:pE A9=none)(h:cC ζ (b+1) Z g (.ListComp j A9 u8 n)=some t):Y8:=by
 replace h:(match pE _ with
   |some (x,_,iter,a)=>if (yB _ Z x&&!isSet _)=true then (match uM Z g _,gj _ Z _,cC ζ b _ _ _,Bn _ _ with
    |some _,some d,some e,some (f,i)=>some _
    |_,_,_,_=>none)else none
   |none=>none)=some t:=h
 simp_all
theorem lQ(y:∀c Z g e t,GoodO c i ζ b Z g->cC ζ s Z g e=some t->pS c i e t)(G:GoodO c i ζ b Z g)(h:cC ζ (s+1) Z g (.ListComp Q [⟨.Name d n,j,O,0⟩] u8 J)=some t):∃o p q r m,t=bK o p q r 0 m/\lK c u8 [d] (fc u8) m/\u8.names.lookup d=some .local/\([d]++fc u8).Nodup /\
   (∀z,ZU j c.env z=pure z)/\(∀Φ,Be c i Φ (.Name d n) j r) /\
   ∀w C f k fp,((O=[]/\p=true)\/∃l,O=[l]/\p=false/\kU (blk c u8 w C ([d]++fc u8) f k fp) i kF l q)/\b_ (blk c u8 w C ([d]++fc u8) f k fp) i kF Q o:=by
 replace h:(if (yB _ Z d&&!isSet _)=true then (match uM Z g _,gj _ Z _,cC ζ s _ _ _,Bn _ _ with
    |some _,some r,some o,some (p,q)=>some _
    |_,_,_,_=>none)else none)=some t:=h
 split at h
 .rename_i x
  simp at x;split at h
  .rename_i m r o p q D E F u
   cases h;obtain⟨H,I,K⟩:=wK G x.1 D;refine⟨o,p,q,r,_,rfl,H,I,K,fA x.2,λΦ=>jx G (by grind) E Φ _,λw C f k fp=>?_⟩
   have A:=G.blk u8 w C ([d]++fc u8) f k fp;refine⟨?_,(y _ _ _ _ o A F).1 _⟩
   match O,u with
   |[],u=>cases u;simp
   |[B],u=>
    obtain⟨a,L,M⟩:=cY u;cases M;exact .inr ⟨B,rfl,rfl,(y _ _ _ B q A L).2.1 _⟩
  .cases h
 .cases h
theorem dB:∀n X B N e m,GoodO X i ζ b B N->cC ζ n B N e=some m->pS X i e m:=by
 intro n
 induction n with
 |zero=>intro X B N e m G h;cases h
 |succ n ih=>
  intro X B N e m G h;have z:∀e m,cC ζ n B N e=some m->pS X i e m:=λe m q=>ih X B N e m G q
  cases e with
  |Name x pos=>exact Bo G h
  |Constant c j pos=>exact yP h
  |BinOp a K k pos=>
   obtain⟨L,mb,A,F,rfl⟩:=bo h;exact cH (λl=>El ((z a L A).1 l) ((z k mb F).1 l)) rfl (λ_=>rfl)
  |UnaryOp K a pos=>
   cases K with
   |Not=>
    obtain⟨L,A,rfl⟩:=cY h
    exact⟨λl=>by
      intro u D E C I;refine PE.imp (DW (((z a L A).1 l) u D E C I)) ?_;rintro σ H Q ⟨M,Z,S,g⟩;refine⟨M,Z,S,?_⟩;have:=rN.use g λt w _ H1 T Z1 U P J=>ck.ret P (a7 rfl) J
      exact this.VD,λl=>by
      intro u D E C I;refine PT.imp (Hf (((z a L A).2.1 l) u D E C I)) ?_;rintro σ H Q ⟨M,Z,S,g⟩;refine⟨M,Z,S,?_⟩;simp only[kb]at g;cases q:dr _ with
      |ok t w=>rwa[q]at g
      |exc x w=>rwa[q]at g
      |bad=>rwa[q]at g,rfl⟩
   |_=>cases h
  |BoolOp K vs pos=>
   match vs,h with
   |a::k::r,h=>
    obtain⟨q1,q2⟩:=tv (pos:=pos) z (show mH (cC ζ n B N) K (a::k::r)=some m from h)
    exact⟨q1,λl=>(q2 l).pt,rfl⟩
   |[_],h=>cases h
   |[],h=>cases h
  |Compare a d0 cs pos=>
   match d0,cs,h with
   |[K],[k],h=>
    replace h:(if isSet k=true then none else o2 (cC ζ n B N a) (cC ζ n B N k) (m2 (aI K)))=some m:=h
    split at h
    .cases h
    .rename_i V
     obtain⟨L,mb,A,F,rfl⟩:=bo h;have hm:=sH (Y3:=K) (j:=k) (by simpa using V)
     exact⟨λl=>(wz G.hu hm ((z a L A).1 l) ((z k mb F).1 l)).1,λl=>(wz G.hu hm ((z a L A).1 l) ((z k mb F).1 l)).2,rfl⟩
   |[K,a0],[k,c'],h=>
    replace h:(if isSet c'=true then none else o2 (cC ζ n B N a) (o2 (cC ζ n B N k) (cC ζ n B N c') YC) λx y=>qZ K a0 x y.1 y.2)=some m:=h
    split at h
    .cases h
    .rename_i V
     obtain⟨L,i0,A,O,rfl⟩:=bo h;obtain⟨mb,mc,F,Y,rfl⟩:=bo O;have hm:Ŏ [K,a0] [k,c']=false:=sH (Y3:=a0) (j:=c') (by simpa using V)
     exact⟨λl=>by
       intro u D E C I;refine PE.imp (zF (kO G.hu K) (kO G.hu _) (((z _ _ A).1 l) u D E C I) (PE.ex λw=>((z _ _ F).1 l) u D E C w) (PE.ex λw=>((z _ _ Y).1 l) u D E C w) hm) ?_
       rintro σ H Q ⟨M,Z,S,g⟩
       exact AZ S g,λl=>by
         intro u D E C I;refine PT.imp (zG (kO G.hu K) (kO G.hu _) (((z _ _ A).1 l) u D E C I) (PE.ex λw=>((z _ _ F).1 l) u D E C w) (PE.ex λw=>((z _ _ Y).1 l) u D E C w) hm) ?_
         rintro σ H Q ⟨M,Z,S,g⟩;refine AZ S ?_;cases q:qZ K _ L mb mc C I with
         |ok d w=>
          obtain⟨t,rfl⟩:=Ia q;rw[q]at g;intro v H1 T Z1 U P r1;exact⟨t,r1,g H1 _ Z1 U P⟩
         |exc x w=>rw[q]at g;exact g
         |bad=>rw[q]at g;exact g.elim,rfl⟩
   |[],_,h=>cases h
   |[_],[],h=>cases h
   |[_],_::_::_,h=>cases h
   |[_,_],[],h=>cases h
   |[_,_],[_],h=>cases h
   |[_,_],_::_::_::_,h=>cases h
   |_::_::_::_,[],h=>cases h
   |_::_::_::_,[_],h=>cases h
   |_::_::_::_,_::_::_,h=>cases h
  |IfExp t a k pos=>
   obtain⟨mt,j0,A,O,rfl⟩:=bo h;obtain⟨L,mb,F,Y,rfl⟩:=bo O
   exact⟨λl=>by
     intro u D E C I;refine PE.imp (zw (((z _ _ A).2.1 l) u D E C I) (PE.ex λw=>((z _ _ F).1 l) u D E C w) (PE.ex λw=>((z _ _ Y).1 l) u D E C w)) ?_
     rintro σ H Q ⟨M,Z,S,g⟩;refine⟨M,Z,S,rN.use g λt w _ H1 T Z1 U P J=>?_⟩
     cases t with
     |true=>exact uz ⟨_,_,Z1,S.grow U P,J⟩
     |false=>exact uy ⟨_,_,Z1,S.grow U P,J⟩,λl=>Es ((z _ _ A).2.1 l) ((z _ _ F).2.1 l) ((z _ _ Y).2.1 l),rfl⟩
  |Subscript a s pos=>
   have e0:∀k,isSlice k=false->o2 (cC ζ n B N a) (cC ζ n B N k) (m2 aL)=some m->pS X i (.Subscript a k pos) m:=λk hb h=>by
    obtain⟨L,mb,A,F,rfl⟩:=bo h;refine cH (λl=>En (by have:=G.hu;omega) (λo b0=>?_) ((z _ _ A).1 l) ((z _ _ F).1 l)) rfl (λ_=>rfl)
    cases k<;>first|rfl | (cases hb)
   cases s with
   |Slice lo hi st p2=>
    cases st with
    |none=>
     obtain⟨L,l0,A,O,rfl⟩:=bo h;obtain⟨⟨nl,ml⟩,⟨nh,mh⟩,F,Y,rfl⟩:=bo O;exact cH (λl=>Eo ((z _ _ A).1 l) (tw z F) (tw z Y)) rfl (λ_=>rfl)
    |some e=>
     cases lo with
     |none=>
      cases hi with
      |none=>
       exact nomatch (show(none:Option EM)=some m from h)
      |some _=>exact nomatch (show(none:Option EM)=some m from h)
     |some _=>exact nomatch (show(none:Option EM)=some m from h)
   |_=>exact e0 _ rfl h
  |List es pos=>
   obtain⟨as,A,rfl⟩:=cY h
   exact cH (λl=>by
     intro u D E C I;refine PE.imp (Hv (((bU z A).1 l) u D E C I)) ?_;rintro σ H Q ⟨M,Z,S,g⟩;refine⟨M,Z,S,pJ.use g λds w _ vs H1 T Z1 U P r1 J=>?_⟩
     unfold bt at J;split at J
     .rename_i V
      exact⟨by rw[r1.length];exact bI V,fC P r1 J⟩
     .exact J.elim) rfl (λ_=>rfl)
  |Tuple es j pos=>
   obtain⟨as,A,rfl⟩:=cY h
   exact cH (λl=>by
     intro u D E C I;refine PE.imp (Hu (((bU z A).1 l) u D E C I)) ?_;rintro σ H Q ⟨M,Z,S,g⟩;refine⟨M,Z,S,pJ.use g λds w _ vs H1 T Z1 U P r1 J=>?_⟩
     unfold gU at J;split at J
     .rename_i V
      exact⟨by rw[r1.length];exact bI V,sR P r1 J⟩
     .exact J.elim) rfl (λ_=>rfl)
  |Attribute o f pos=>
   replace h:(if ey o=true then o2 (ζ.fld.lookup f) (cC ζ n B N o) λCs m=>m1 (fV Cs f) m else none)=some m:=h
   split at h
   .rename_i hb
    obtain⟨Cs,mo,A,F,rfl⟩:=bo h;exact cH (λl=>ED (G.fld f Cs A) (d_ hb) ((z o mo F).1 l)) rfl (λ_=>rfl)
   .cases h
  |Call f args c0 pos=>
   cases f with
   |Name x p=>
    cases c0 with
    |nil=>
     replace h:(match tq B (cC ζ n B N) x args with|some m=>some m|none=>rj ζ B N (cC ζ n B N) x args)=some m:=h
     cases hi:tq B (cC ζ n B N) x args with
     |some m'=>
      rw[hi]at h;cases h;exact EH G z hi
     |none=>
      rw[hi]at h;unfold rj at h;cases V:hG B N x with
      |none=>rw[V]at h;exact Bq G z h
      |some b0=>
       simp_all
    |cons _ _=>cases h
   |Attribute o mm p1=>
    cases c0 with
    |nil=>
     replace h:(if (p1.endLine==pos.line&&ey o&&decide (args.length<20))=true then (match cC ζ n B N o,cZ (cC ζ n B N) args with
   |some mo,some as=>mI ζ mm args.length mo as
   |_,_=>none)else none)=some m:=h
     split at h
     .rename_i hc
      simp only[Yv,decide_eq_true_eq]at hc;split at h
      .rename_i mo as A F
       exact cH (λl=>Bp G hc.1.2 hc.1.1 hc.2 ((z o mo A).1 l) F z h) rfl (λ_=>rfl)
      .cases h
     .cases h
    |cons _ _=>cases h
   |_=>cases h
  |ListComp m0 gens scope pos=>
   cases hg:pE gens with
   |none=>exact nW hg h
   |some q=>
    obtain⟨x,px,iter,n0⟩:=q;obtain rfl:=pF hg;refine xe (lQ (λX B N e m G q=>ih X B N e m G q) G h) λme f0=>a_ f0 λnc mc mi o0 g0 b1 b2 b3 b4 h0=>xa h0 λb5 b6=>?_;subst g0
    exact cH (λl=>by
      intro u D E C I;obtain⟨wi,tc,te,A,F,Y⟩:=nS (b5 l) b2 b3 b6 _ D E C I;exact PE.imp (we G.calm b1 A b4 (lL 1 (by decide)) F) Y) rfl (λ_=>rfl)
  |Dict ks vs pos=>
   replace h:(if emptyDict ks vs=true then some dg else none)=some m:=h
   split at h
   .rename_i hd
    cases h
    match ks,vs,hd with
    |[],[],_=>exact cH (λl=>by
      intro u D E C I;refine PE.imp zS ?_;rintro σ H Q ⟨M,Z,S,g⟩ p hp;obtain⟨S1,U⟩:=S.st.laid (c:=.dK []) hp λR hR=>⟨[],aS,.nil⟩
      exact g _ _ _ Z U S1 (gf S.st p)) rfl (λ_=>rfl)
   .cases h
  |_=>cases h
structure eJ(X:Cx)(κ:Str->b'->Prop)(T:aO)(k:Nat)(sc:XY)(N:List Str):Prop extends GoodO X κ T k sc N where
 own:ó (j' X.prog X.w) X.A X.env X.xe
 OI:∀x,AH sc x=true->T.fz.contains x=false->(X.fn x=true\/X.env.scope.names.lookup x=some .local)
 qT:N.Nodup
 kind:sc.kind=.function
 jJ:T.xt=false->∀e s,¬ X.xe e s
def cI(f:D'->Option SM):List D'->Option SM
 |[]=>some ak
 |s::r=>o2 (f s) (cI f r) ao
def kZ(f:x'->Option EM)(b)(iter:x'):=match iter with
 |.Call (.Name g _) [a] [] _=>if g==("enumerate")then (if wj b g then (f a).map sX else none)else gj f b iter
 |.Call (.Attribute o c d) [] [] e=>if c==("items")&&d.endLine==e.line&&ey o then (f o).map jt else gj f b iter
 |_=>gj f b iter
def kg(T:aO)(a N x):=if T.fz.contains x then none else sI a N x
def jy(T:aO)(a N)(nms:List (Str×V')):=if nms.any (λy=>T.fz.contains y.1)then none else qP a N nms
def vb(T:aO)(td:List Str)(k:Nat)(a:XY)(N:List Str)(x:Str)(b:V')(e:x')(pos:V'):Option SM:=match kg T a N x with
   |some i=>(match cC T k a N e with
    |some m=>if nF a x b e then (if pos.line==b.line then some (aA i m)else none)else some (aA i m)
    |none=>none)
   |none=>none
def vc(T:aO)(k:Nat)(a:XY)(N:List Str)(b:List x')(e:x'):Option SM:=match eu b with
   |some nms=>match jy T a N nms,cC T k a N e with
    |some c,some m=>if HN e then some (EC c m)else none
    |_,_=>none
   |none=>none
noncomputable def EI:x'->Bool
 |.Call (.Attribute (.Attribute ..) m _) [] [] _=>m==("items")
 |_=>false
def tA(b:Bool)(a:D->bH->Option bH)(d c):=ed a d c
theorem tB(h:ju c i q X (ed C8 y1 ω)):ju c i q X (tA E C8 y1 ω):=h
def kh(T:aO)(td:List Str)(k:Nat)(d:XY)(N:List Str):Nat->D'->Option SM
 |0,_=>none
 |n+1,l=>match l with
  |.Return (some e) _=>some (match cC T k d N e with
   |some m=>bY m
   |none=>dz)
  |.Assign [.Name x p] e h=>vb T td k d N x p e h
  |.Assign [.Tuple j _ _] e _=>vc T k d N j e
  |.Assign [.Attribute o f _] e _=>if ey o&&!jn e then o2 (T.fld.lookup f) (o2 (cC T k d N o) (cC T k d N e) YC) λCs y=>eU Cs f y.1 y.2 else none
  |.Assign [.Subscript o i _] e _=>if isSlice i||jn e then none else o2 (cC T k d N o) (o2 (cC T k d N i) (cC T k d N e) YC) λx y=>dh x y.1 y.2
  |.Expr e _=>if jn e then none else (cC T k d N e).map cG
  |.If c a b _=>o2 (cC T k d N c) (o2 (cI (kh T td k d N n) a) (cI (kh T td k d N n) b) YC) λx y=>ei x y.1 y.2
  |.While c b [] _=>o2 (cC T k d N c) (cI (kh T td k d N n) b) ig
  |.For (.Name x _) g b [] _=>if isSet g then none else o2 (kg T d N x) (o2 (gj (cC T k d N) d g) (cI (kh T td k d N n) b) YC) λi y=>ed (dS i) y.1 y.2
  |.For (.Tuple j _ _) g b [] _=>if isSet g then none else match eu j with
   |some nms=>o2 (jy T d N nms) (o2 (kZ (cC T k d N) d g) (cI (kh T td k d N n) b) YC) λq y=>tA (EI g) (eH q) y.1 y.2
   |none=>none
  |.Raise _ _ _=>some dz
  |.Try b (_::_) [] [] _=>if T.xt then none else cI (kh T td k d N n) b
  |_=>none
theorem EJ(Q:Gl c "enumerate")(T:c.mg "enumerate"=none)(I:I' [j] c.env=[(false,eval j c.env)])(U:b_ c i q j t):
  Be c i q (.Tuple O b n) (.Call (.Name "enumerate" J) [j] [] M0) (sX t):=by
 intro s X Y ρ Ω;refine PI.imp (DT Q T (fg (U s X Y ρ Ω) mU I) I) ?_;rintro σ H R ⟨α,Z,S,g⟩;refine⟨α,Z,S,ud.use g λx u _ v H1 a0 Z1 g1 m K o=>?_⟩
 have b0:∀{f:List _}{l:b'->Prop}{h:aG}{k:Hp}{a:Nat}{v:V}{p:D},bO i _ l _ k->ax f l k p v->∀J,k J=none->∃z,cM _ l k _ z _/\bO i _ z h _/\ax _ z _ (.tup [.int (0+a),p]) _:=λ{f l h k a v p} r L J M=>by
  obtain⟨s3,N⟩:=r.sQ (y0:=.tup [.int a,v]) M True;refine⟨_,N,s3,?_⟩;refine⟨J,_,rfl,.inr rfl,aS,cU.mpr (.cons ?_ (.one (r.cO N L)))⟩;simp only[ax];simp
 cases A:dY u x with
 |none=>simp only[A]at o;exact o.elim
 |some c0=>
  simp only[A]at o;obtain⟨j,d0,rfl,q1,q2⟩:=bA m K A;refine⟨j,rfl,⟨_,nr q1⟩,o _ H1 _ Z1 (cM.refl m.has) m ?_⟩;intro f l h k ds g2 r B;obtain⟨e0,h2,rfl⟩:=cY B;refine aF (bA r (m.cO g2 K) h2) λa' C e E P=>?_
  cases e;refine⟨λa d hd=>?_,λa hi=>by rw[jU]at hi;exact⟨C,nr E,by rwa[P.length]⟩⟩
  obtain⟨p,F,rfl⟩:=my _ 0 a d hd;obtain⟨v,hv,L⟩:=P.get F;refine⟨⟨C,v,nr E,hv⟩,λy H3 G=>?_⟩
  obtain⟨J,rfl,M,G⟩:=G;obtain⟨w,hw,rfl⟩:=G C (nr E)
  simp_all
theorem yQ(w:ey j=true)(y:(J.endLine==M0.line)=true)(d:b_ c i q j t):
  Be c i q (.Tuple O b n) (.Call (.Attribute j "items" J) [] [] M0) (jt t):=by
 intro l z A B C;refine PI.imp (AN (d_ w) y (d l z A B C)) ?_;rintro N H R ⟨D,Z,S,g⟩;refine⟨D,Z,S,ud.use g λx E _ v P F Q T f G e=>?_⟩
 unfold wF at e;split at e
 .obtain⟨j,d,rfl⟩:=G
  split at e
  .rename_i m p
   obtain⟨I,a,h,k,s⟩:=f.cell p;rw[d]at a;cases a
   refine⟨j,_,rfl,.inl ⟨k,λo=>?_⟩⟩
   obtain⟨K,L⟩:=f.put (c:=.dF _) d (λo u r=>by simp_all) λR hR=>⟨o,_,aS,s.imp hR⟩
   exact e _ _ _ _ L K (pN d aS)
  .rename_i m p
   obtain⟨I,a,M,h,k,s⟩:=f.cell p;rw[d]at a;cases a
   exact⟨j,_,rfl,.inr ⟨M,k,e _ _ _ _ (cM.refl f.has) f (pN d k)⟩⟩
  .exact e.elim
 .exact e.elim
theorem wL(G:GoodO c i ζ b Z g)(d:∀e m,Y6 e=some m->pS c i e m)(h:kZ Y6 Z j=some y1):∀Φ,Be c i Φ (.Tuple O s n) j y1:=by
 intro Φ;unfold kZ at h;split at h
 .rename_i k p a r
  split at h
  .rename_i t
   obtain rfl:=eq_of_beq t;split at h
   .rename_i f
    obtain⟨l,e,rfl⟩:=cY h;obtain⟨q,_,u⟩:=d a l e;exact EJ (G.gl f) (G.de _ (by decide)) (by rw[bF u];rfl) (q Φ)
   .cases h
  .exact jx G d h Φ _
 .rename_i o x q y
  split at h
  .rename_i f
   simp at f;obtain⟨⟨rfl,z⟩,w⟩:=f;obtain⟨l,e,rfl⟩:=cY h;exact yQ w (by simp_all) ((d o l e).1 Φ)
  .exact jx G d h Φ _
 .exact jx G d h Φ _
theorem yR(G:eJ c i ζ b Z g)(h:sI Z g d=some s):c.N[s]?=some d/\Loc c.env.scope d:=by
 unfold sI at h;split at h
 .rename_i a
  simp at a;refine⟨by rw[G.names];exact AI h,?_⟩
  rw[G.scope];have e:=a.1;unfold AH at e;unfold L2.Loc
  grind
 .cases h
theorem gk{X e Φ f}(g:∀s c,f s=some c->ju X e Φ s c):∀{d}{c},cI f d=some c->kX X e Φ d c
 |[],c,h=>by cases h;exact iC
 |s::d,c,h=>by
  obtain⟨a,b,i,j,rfl⟩:=bo h;exact fD (g s a i) (gk g j)
theorem iF(G:eJ c i ζ b Z g)(h:kg ζ Z g d=some s):c.N[s]?=some d/\Loc c.env.scope d/\(c.fn d=true\/c.env.scope.names.lookup d=some .local):=by
 unfold kg at h;split at h
 .cases h
 .obtain⟨a,e⟩:=yR G h
  refine⟨a,e,G.OI d ?_ (by simp_all)⟩
  unfold sI at h
  simp_all
theorem nX{X c T k b N}(G:eJ X c T k b N):∀{nms}{a},(∀y∈nms,T.fz.contains y.1=false)->qP b N nms=some a->a.length=nms.length/\∀(j i:Nat) x,a[j]?=some i->nms[j]?=some x->X.N[i]?=some x.1/\Loc X.env.scope x.1/\(X.fn x.1=true\/X.env.scope.names.lookup x.1=some .local)
 |[],a,_,h=>by cases h;simp_all
 |x::n,a,d,h=>by
  refine bc (é.mp h) λi o h=>?_
  refine bc (é.mp h) λe f h=>?_
  cases h;obtain⟨p,g⟩:=nX G (λy l=>d y (by simp[l])) f
  refine⟨by simp_all,λj m y q r=>?_⟩
  cases j with
  |zero=>
   exact iF G (by unfold kg;simp_all)
  |succ j=>exact g j m y (by simp_all) (by simp_all)
theorem nY(G:eJ c i ζ b Z g){nms}(e:eu O=some nms)(f:jy ζ Z g nms=some I):PG c (.Tuple O s n) (uh c.K I.length (gA I)):=by
 obtain rfl:=lM e
 have a:(∀y∈nms,ζ.fz.contains y.1=false)/\qP Z g nms=some I:=by
  unfold jy at f
  grind
 obtain⟨d,h⟩:=nX G a.1 a.2;obtain⟨j,k⟩:=pG _ _;exact zy G.calm (pD (nms:=nms) (by rw[G.names];exact G.qT) I _ d h) (by rw[j,d]) k
theorem ki(G:eJ c i ζ b Z g):
  YR (.ListComp j A9 u8 n) (some (.Name d J)) s c.env=pure (nF Z d J (.ListComp j A9 u8 n)):=by
 have a:c.env.blockKind=.function:=by
  show(if c.env.scope.kind.isAnnotationScope=true then adj else c.env.scope.kind)=_
  rw[G.scope,G.kind];rfl
 show pure _=_
 rw[a]
 show pure (true&&c.env.scope.names.lookup d==some _&&J.line==n.line&&!(u8.names.any _))=_
 rw[G.scope];rfl
theorem wM(G:eJ c i ζ b Z g)(u:kg ζ Z g d=some Θ)(h:cC ζ s Z g j=some t)(w:nF Z d n j=true->J.line=n.line):ju c i q (.Assign [.Name d n] j J) (aA Θ t):=by
 refine oC (iF G u) λm x y=>?_
 have o:c.N.Nodup:=by rw[G.names];exact G.qT
 have plain:YR j (some (.Name d n)) J.line _=pure _->ju c i q _ _:=λa=>iD o m x y a ((dB s c Z g j t G.toGoodO h).1 q)
 cases j with
 |ListComp z gens scope p=>
  cases e:nF Z d n _ with
  |false=>exact plain (by rw[ki G,e])
  |true=>
   cases s with
   |zero=>cases h
   |succ s=>
   cases r:pE _ with
   |none=>exact nW r h
   |some a=>
    obtain rfl:=pF r;refine xe (lQ (λc Z g j t G a=>dB s c Z g j t G a) G.toGoodO h) λI f=>a_ f λK L M A k B C D E l=>xa l λF H=>?_;subst k
    exact tf o m (by
     rw[G.scope];unfold nF at e;simp only[Yv,beq_iff_eq]at e;exact e.1.1) (by rw[ki G,e]) G.calm B E (lL 1 (by decide)) (nS (F q) C D H) (w e)
 |SetComp=>cases s<;>cases h
 |DictComp=>cases s<;>cases h
 |_=>exact plain rfl
theorem k_(h:jn j=false):YR j G7 b A4=pure false:=by
 cases j<;>first|rfl | (cases h)
theorem wN(G:eJ c i ζ b Z ο):∀n C st k,kh ζ g C Z ο n st=some k->ju c i q st k:=by
 intro n C;have E:∀e m,cC ζ C Z ο e=some m->pS c i e m:=λe m z=>dB C c Z ο e m G.toGoodO z
 induction n with
 |zero=>intro st k h;cases h
 |succ n ih=>
  intro st k h;have B:∀ss k,cI (kh ζ g C Z ο n) ss=some k->kX c i q ss k:=λss k z=>gk ih z
  have hN:c.N.Nodup:=by rw[G.names];exact G.qT
  cases st with
  |Return v J=>
   cases v with
   |none=>cases h
   |some e=>
    replace h:some (match cC ζ C Z ο e with
   |some m=>bY m
   |none=>dz)=some k:=h
    cases h;split
    .rename_i m F
     exact mF ((E e m F).1 q)
    .exact pQ
  |Assign ts e J=>
   cases ts with
   |nil=>cases h
   |cons t r=>
   cases r with
   |cons t2 r=>cases t<;>cases h
   |nil=>
   cases t with
   |Name x px=>
    replace h:vb ζ g C Z ο x px e J=some k:=h;unfold vb at h;split at h
    .rename_i A hi
     .split at h
      .rename_i m hm
       split at h
       .split at h
        .rename_i P hl
         cases h;exact wM G hi hm λ_=>eq_of_beq hl
        .cases h
       .rename_i P
        cases h;exact wM G hi hm λz=>absurd z P
      .cases h
    .cases h
   |Tuple es j p=>
    replace h:vc ζ C Z ο es e=some k:=h;unfold vc at h;split at h
    .rename_i nms hn
     split at h
     .rename_i is m F L
      split at h
      .rename_i hp
       cases h;intro M T U V Ω;refine PS.imp (Hi (((E e m L).1 q) M T U V Ω) (nY G hn F) (by cases e<;>first|rfl) (by cases e<;>first|rfl | (cases hp))) ?_
       rintro E σ H ⟨α,K,S,f⟩;refine⟨α,K,S,dZ.use S f λd O v H1 a0 Z1 _ b0 S1 r f1=>?_⟩
       split at f1
       .rename_i d0 hq
        exact u_ is d v _ T U _ Z1 _ V _ σ H1 _ S1 r hq λe0 S'=>f1 _ H1 _ Z1 S'
       .exact f1.elim
      .cases h
     .cases h
    .cases h
   |Attribute o f p=>
    replace h:(if (ey o&&!jn e)=true then o2 (ζ.fld.lookup f) (o2 (cC ζ C Z ο o) (cC ζ C Z ο e) YC) λCs y=>eU Cs f y.1 y.2 else none)=some k:=h
    split at h
    .rename_i X
     simp only[Yv,ZH]at X;obtain⟨Cs,y,F,L,rfl⟩:=bo h;obtain⟨mo,mv,Q,R,rfl⟩:=bo L;exact EE (G.fld f Cs F) (k_ X.2) ((E o mo Q).1 q) ((E e mv R).1 q)
    .cases h
   |Subscript o A p=>
    replace h:(if (isSlice A||jn e)=true then none else o2 (cC ζ C Z ο o) (o2 (cC ζ C Z ο A) (cC ζ C Z ο e) YC) λx y=>dh x y.1 y.2)=some k:=h
    split at h
    .cases h
    .rename_i X
     simp only[Ϝ,not_or,Bool.not_eq_true]at X;obtain⟨md,y,F,L,rfl⟩:=bo h;obtain⟨mk,mv,Q,R,rfl⟩:=bo L;intro M T U V Ω;refine PS.imp (qC (by have:=G.hu;omega) (PE.ex λO=>((E o md F).1 q) M T U V O) (PE.ex λO=>((E A mk Q).1 q) M T U V O) (((E e mv R).1 q) M T U V Ω) (k_ X.2)) ?_
     rintro E σ H ⟨α,K,S,f⟩;refine⟨α,K,S,dZ.use S f λd O v H1 a0 Z1 _ g1 S1 r1 f1=>⟨_,_,Z1,S1,dZ.use S1 f1 λx f0 w H2 g0 Z2 _ g2 S2 r2 f2=>⟨_,_,Z2,S2,dZ.use S2 f2 λy i0 u H3 j0 Z3 _ g3 S3 r3 f3=>?_⟩⟩⟩
     split at f3
     .rename_i l0 hq
      obtain⟨a,H4,rfl,F,s4,g4⟩:=nV S3.st (S2.st.cO g3 r2) r3 (S2.st.cO g3 (S1.st.cO g2 r1)) hq;exact⟨a,H4,rfl,F,f3 σ H4 _ Z3 (S3.grow g4 s4)⟩
     .exact f3.elim
   |_=>cases h
  |Expr e J=>
   replace h:(if jn e=true then none else (cC ζ C Z ο e).map cG)=some k:=h
   split at h
   .cases h
   .rename_i X
    obtain⟨m,F,rfl⟩:=cY h;exact wH (k_ (by simpa using X)) ((E e m F).1 q)
  |If c0 a l J=>
   obtain⟨m,y,F,L,rfl⟩:=bo h;obtain⟨ca,Y,Q,R,rfl⟩:=bo L;exact uZ ((E c0 m F).2.1 q) (B a ca Q) (B l Y R)
  |While c0 l e J=>
   cases e with
   |nil=>
    obtain⟨m,Y,F,L,rfl⟩:=bo h;exact pR G.own ((E c0 m F).2.1 q) (B l Y L)
   |cons _ _=>cases h
  |For tg it l e J=>
   cases e with
   |nil=>
    cases tg with
    |Name x px=>
     replace h:(if isSet it=true then none else o2 (kg ζ Z ο x) (o2 (gj (cC ζ C Z ο) Z it) (cI (kh ζ g C Z ο n) l) YC) λA y=>ed (dS A) y.1 y.2)=some k:=h
     split at h
     .cases h
     .rename_i P
      obtain⟨A,y,F,L,rfl⟩:=bo h;obtain⟨mi,Y,Q,R,rfl⟩:=bo L;obtain⟨s1,s2,s3⟩:=iF G F;exact mG G.own G.calm (jx G.toGoodO E Q q _) (iq hN s1 s2 s3) (Bh A) (B l Y R) (fA (by simpa using P))
    |Tuple es j p=>
     replace h:(if isSet it=true then none else match eu es with
   |some nms=>o2 (jy ζ Z ο nms) (o2 (kZ (cC ζ C Z ο) Z it) (cI (kh ζ g C Z ο n) l) YC) λis y=>tA (EI it) (eH is) y.1 y.2
   |none=>none)=some k:=h
     split at h
     .cases h
     .rename_i P
      split at h
      .rename_i nms hn
       obtain⟨is,y,F,L,rfl⟩:=bo h;obtain⟨mi,Y,Q,R,rfl⟩:=bo L;exact tB (mG G.own G.calm (wL G.toGoodO E Q q) (nY G hn F) (u_ is) (B l Y R) (fA (by simpa using P)))
      .cases h
    |_=>cases h
   |cons _ _=>cases tg<;>cases h
  |Raise _ _ _=>cases h;exact pQ
  |Try l P oe fi J=>
   match P,oe,fi,h with
   |h0::P,[],[],h=>
    replace h:(if ζ.xt then none else cI (kh ζ g C Z ο n) l)=some k:=h
    split at h
    .cases h
    .rename_i hx
     have hx:=(G.jJ (by simpa using hx))
     have hb:=(B l k h);intro M T U V Ω pins s σ H D I h;refine ſ (Yx (hb _ T U V Ω _ s σ H D I h) (λf s1 z=>?_) λe s1 z=>absurd z (hx e s1))
     cases f with
     |next=>exact ZS z
     |_=>exact z
   |[],_,_,h=>cases h
   |_::_,_::_,_,h=>cases h
   |_::_,[],_::_,h=>cases h
  |_=>cases h
def cb(b:Str->Option f'):=λC a=>b C=some (.ref a)
structure aV(P:Yc)(w:X_)(K:K')(mg:Str->Option f')(base:F')(T:aO)(k:Nat):Prop where
 de:∀x∈eQ,mg x=none
 iT:∀x F,T.iT.lookup x=some F->∃(f:b') (fd:Yb) (ps:List Str),mg x=some (.ref f)/\Yp K (.ref f)=true/\Binds K fd ps []/\bJ P w K mg base eL k f fd ps (qN F)
 fn:∀x F,T.fn.lookup x=some F->∃(f:b') (fd:Yb) (ps:List Str),mg x=some (.ref f)/\Yp K (.ref f)=true/\Binds K fd ps []/\bJ P w K mg base eL k f fd ps (cN (cb mg) F)
 cst:∀x d,T.cst.lookup x=some d->∃v u,mg x=some u/\RelV v u/\iW d=some v
 met:∀m C F,(m,C,F)∈T.met->∃(Ca f:b') (fd:Yb) (ps:List Str),Gu P w K mg base (cb mg) k C m F Ca f fd ps
 cls:∀C F,T.cls.lookup C=some F->∃j,j+1<=k/\∃(Ca f:b') (fd:Yb) (ps:List Str),cb mg C Ca/\Mk K Ca f/\mg C=some (.ref Ca)/\Binds K fd ps []/\bJ P w K mg base eL j f fd ps (cN (cb mg) F)
 fld:∀f Cs,T.fld.lookup f=some Cs->kY K (cb mg) Cs f
 clo:(∀j F,T.clo[j]?=some F->tm P w K mg base (cb mg) k j F)
def tD(T td st N):=cI (kh T td 60 (ai st) N 30) (aT st)
variable{L5:List Int}
theorem EK(hR:Rd e h (.lst (L5.map V.int)))(d:H [.lst (L5.map D.int)] []=.ok (.bl true) a):cN i H [.ref h] e (λv _=>v=.bl true) E0:=by
 refine⟨[],λb=>b=h,[],[.lst (L5.map D.int)],⟨by simp,.nil,by simp,λb c=>?_⟩,.one ?_,?_⟩
 .subst c
  rcases hR with c|⟨o,c⟩<;>rw[c]<;>simp
 .refine⟨h,_,rfl,rfl,hR,?_⟩
  clear d hR
  induction L5 with
  |nil=>rfl
  |cons n L5 f=>exact cU.mpr (.cons (by rfl) (cU.mp f))
 .rw[d]
  intro v k j l g s r;simpa only [ax]using r
theorem aV.mono{P w K n base T k}(W:aV P w K n base T k){j}(h:k<=j):aV P w K n base T j:=
 ⟨W.de,λx F q=>dG (W.iT x F q) λf i l a b c d=>⟨f,i,l,a,b,c,d.mono h⟩,λx F q=>dG (W.fn x F q) λf i l a b c d=>⟨f,i,l,a,b,c,d.mono h⟩,W.cst,
  λm C F q=>let ⟨o,f,i,l,a,b,c,p,_,r,F1,d,s,t,e,g⟩:=W.met m C F q;⟨o,f,i,l,a,b,c,p,_,r,F1,d,s,t,e.mono h,g⟩,λC F q=>let ⟨u,y,z⟩:=W.cls C F q;⟨u,B' y h,z⟩,W.fld,λj F q=>(W.clo j F q).mono h⟩
noncomputable def aO.yS(T:aO)(x:Str)(F:List D->Out Rs):={T with iT:=(x,F)::T.iT}
noncomputable def aO.ee(T:aO)(x:Str)(F):={T with fn:=(x,F)::T.fn}
noncomputable def aO.gW(T:aO)(C m:Str)(F):={T with met:=(m,C,F)::T.met}
noncomputable def aO.EL(T:aO)(C:Str)(F):={T with cls:=(C,F)::T.cls}
def aO.yT(T:aO)(f:Str)(Cs:List Str):={T with fld:=(f,Cs)::T.fld}
noncomputable def aO.lZ(T:aO)(x:Str)(d):={T with cst:=(x,d)::T.cst}
theorem gm{a:Type}{F G:a}{l}(h:((d,F)::l).lookup T=some G):(T=d/\G=F)\/l.lookup T=some G:=by
 grind
theorem aV.start(b:∀a∈eQ,θ a=none):aV v x G θ B {} 0:=
 ⟨b,by simp,by simp,by simp,by simp,by simp,by simp,by simp⟩
theorem aV.yS{P w K a base T k}(W:aV P w K a base T k){x F f b ps j}(c:a x=some (.ref f))(d:Yp K (.ref f)=true)(e:Binds K b ps [])(h:bJ P w K a base eL j f b ps (qN F))(g:j<=k):
  aV P w K a base (T.yS x F) k:=
 ⟨W.de,λy G q=>by
  rcases gm q with ⟨rfl,rfl⟩|q
  .exact⟨f,b,ps,c,d,e,h.mono g⟩
  .exact W.iT y G q,W.fn,W.cst,W.met,W.cls,W.fld,W.clo⟩
theorem aV.ee{P w K b base T k}(W:aV P w K b base T k){x F f c ps}(d:b x=some (.ref f))(e:Yp K (.ref f)=true)(g:Binds K c ps [])(h:bJ P w K b base eL (k+1) f c ps (cN (cb b) F)):
  aV P w K b base (T.ee x F) (k+1):=by
 have a:=W.mono (Zg k)
 exact⟨a.de,a.iT,λy G q=>by
  rcases gm q with ⟨rfl,rfl⟩|q
  .exact⟨f,c,ps,d,e,g,h⟩
  .exact a.fn y G q,a.cst,a.met,a.cls,a.fld,a.clo⟩
theorem aV.gW{P w K c base T k}(W:aV P w K c base T k){C m F d f e ps}(o:c C=some (.ref d))(i:oD K d)(M:Meth K d m f)(j:Binds K e ps [])(h:bJ P w K c base eL (k+1) f e ps (cN (cb c) F)):
  aV P w K c base (T.gW C m F) (k+1):=by
 have b:=W.mono (Zg k)
 exact⟨b.de,b.iT,b.fn,b.cst,λl n G q=>by
  rcases Yo.mp q with q|q
  .cases q
   refine⟨d,f,e,ps,λa g=>?_,i,M,[],[],[],F,j,.nil,λ_ _ _=>.nil,h,by simp⟩
   have g:c C=some _:=g
   simp_all
  .exact b.met l n G q,b.cls,b.fld,b.clo⟩
variable{ς:Yb}
theorem aV.Ma(W:aV v x G θ B ζ b)(t:θ d=some (.ref h))(k:oD G h)(M:Meth G h T C)(l:Binds G ς g Δ)(m:Vals R Δ)(n:∀o Z e,aJ (ax o Z e) p R)(f:bJ v x G θ B eL (b+1) C ς g (cN (cb θ) H)):
  aV v x G θ B (ζ.gW d T λxs=>H (xs++p)) (b+1):=by
 have c:=W.mono (Zg b)
 exact⟨c.de,c.iT,c.fn,c.cst,λr s i q=>by
  rcases Yo.mp q with q|q
  .cases q
   refine⟨h,C,ς,g,λa j=>?_,k,M,Δ,_,p,H,l,m,n,f,rfl⟩
   have j:θ d=some _:=j
   simp_all
  .exact c.met r s i q,c.cls,c.fld,c.clo⟩
theorem aV.EL{P w K b base T k}(W:aV P w K b base T k){C F c f d ps j}(e:b C=some (.ref c))(M:Mk K c f)(g:Binds K d ps [])(h:bJ P w K b base eL j f d ps (cN (cb b) F))(i:j<=k):
  aV P w K b base (T.EL C F) (k+1):=by
 have a:=W.mono (Zg k)
 exact⟨a.de,a.iT,a.fn,a.cst,a.met,λy G q=>by
  rcases gm q with ⟨rfl,rfl⟩|q
  .exact⟨j,aby i,c,f,d,ps,e,M,e,g,h⟩
  .exact a.cls y G q,a.fld,a.clo⟩
theorem aV.yT{P w K a base T k}(W:aV P w K a base T k){f Cs}(h:kY K (cb a) Cs f):aV P w K a base (T.yT f Cs) k:=
 ⟨W.de,W.iT,W.fn,W.cst,W.met,W.cls,λy G q=>by
  rcases gm q with ⟨rfl,rfl⟩|q
  .exact h
  .exact W.fld y G q,W.clo⟩
theorem aV.lZ{P w K a base T k}(W:aV P w K a base T k){x d v u}(b:a x=some u)(c:RelV v u)(e:iW d=some v):aV P w K a base (T.lZ x d) k:=
 ⟨W.de,W.iT,W.fn,λy G q=>by
  rcases gm q with ⟨rfl,rfl⟩|q
  .simp_all
  .exact W.cst y G q,W.met,W.cls,W.fld,W.clo⟩
theorem plain1(e:θ d=some (.ref h))(f:oD G h)(n:YA G (.ref h) T=some none):kY G (cb θ) [d] T:=λg a c b=>by
 have c:=by simpa using c
 subst c;have b:θ g=some _:=b;rw[e]at b;cases b;exact⟨f,n⟩
def Mb(F:a5):Sp:=λa H Q E=>∀b,cN b F a H Q E
end Mir
namespace Mir
open PySem PySem.Spec PyProof.Rows L2
def Mc:D->Bool
 |.lst a=>a.all gK
 |d=>gK d
variable{D1 o:b'->Prop}{e π:Hp}{l:D}{r:List b'}{w:V}
theorem wO(b:gK l=true)(a:Rep o e l w):ax r D1 π l w:=by
 cases l with
 |lst _=>cases b
 |tup _=>cases b
 |ref _=>cases b
 |dct _ _=>cases b
 |_=>exact a
theorem yU(b:gK l=true)(a:ax r D1 π l w):Rep o e l w:=by
 cases l with
 |lst _=>cases b
 |tup _=>cases b
 |ref _=>cases b
 |dct _ _=>cases b
 |_=>exact a
theorem tE{c Z f H g}:∀{a}{b},a.all gK=true->bp Z H a b->f_ c f g a b
 |[],b,_,r=>r
 |d::a,b,h,r=>by
  simp only[ZO,Yv]at h;refine aF r λv i e j k=>⟨v,i,e,wO h.1 j,tE h.2 k⟩
theorem Br{g Z H}:∀{c}{b},c.all Mc=true->bp Z H c b->aJ (ax g Z H) c b
 |[],b,_,r=>by subst r;exact .nil
 |d::c,b,h,r=>by
  simp only[ZO,Yv]at h;obtain⟨v,l,rfl,f,i⟩:=r
  exact .cons (by
    cases d with
    |lst c=>
     refine a6 f λa b e z j k=>⟨a,b,e,z,j,tE h.1 k⟩
    |tup _=>cases h.1
    |ref _=>cases h.1
    |dct _ _=>cases h.1
    |_=>exact wO rfl f) (Br h.2 i)
variable [hU]
def pureOf(O:a5):List D->Out Rs:=λa=>if a.all Mc=true then (match O a []with
  |.ok d _=>if gK d=true then .ok (false,d)else .bad
  |_=>.bad)else .bad
variable{B:F'}{G:K'}{H:a5}{b:Nat}{g:List Str}{h:b'}{v:Yc}{x:X_}{θ:Str->Option f'}{ς:Yb}
theorem wQ(c:bJ v x G θ B eL b h ς g (cN (cb θ) H)):bJ v x G θ B eL b h ς g (qN (pureOf H)):=c.imp λK f Q E q=>by
 refine bj q λZ l w d m r n=>xa n λe i=>?_
 unfold pureOf at e
 by_cases s:l.all Mc=true
 .rw[if_pos s]at e
  refine⟨[],Z,[],l,⟨by simp,.nil,by simp,m⟩,Br s r,?_⟩
  cases y:H l []with
  |exc p z=>simp_all
  |bad=>simp_all
  |ok A z=>
   rw[y]at e;dsimp only at e
   by_cases t:gK A=true
   .rw[if_pos t]at e
    cases e;intro j C D L u M F;refine i j C Z ⟨λk o I=>u.frm k o I (by simp),λ_ c=>c,by grind,λa N=>?_⟩ (.rep (yU t F))
    cases J:f a with
    |none=>simp_all
    |some o=>rw[u.frm a o J (by simp)];simp
   simp_all
 simp_all
end Mir
namespace Mir
open PySem L2
variable{a:aG}
@[simp] theorem au{c d b}{f:c->aG->aE d}:(aE.ok b a).bind f=f b a:=rfl
variable{l:D}{y4:Type}
@[simp] theorem RF{b}{f:y4->aG->aE b}:(aE.exc l a).bind f=.exc l a:=rfl
@[simp] theorem RG{a}{f:y4->aG->aE a}:aE.bad.bind f=.bad:=rfl
@[simp] theorem cy{c}{b:c}{k}:cx (.ok b a) k=k b a:=rfl
@[simp] theorem RH{k}:cx (.exc l a:aE y4) k=.exc l a:=rfl
@[simp] theorem RI{k}:cx (.bad:aE y4) k=.bad:=rfl
variable{P4:aE D}
@[simp] theorem VE:kT (.ok l a) P4=.ok l a:=rfl
@[simp] theorem RJ:kT (.exc l a) P4=.exc l a:=rfl
@[simp] theorem RK:kT .bad P4=P4:=rfl
variable{Z7:D->aG->aE D}{t:EM}{y:bH}
@[simp] theorem Md:m1 Z7 t y a=(t y a).bind Z7:=rfl
variable{d7:D->D->aG->aE D}{ν:EM}
@[simp] theorem ez:m2 d7 t ν y a=(t y a).bind λx c=>(ν y c).bind λb d=>d7 x b d:=rfl
variable{J0:AM}{S6:List D->aG->aE D}
@[simp] theorem eV:mN S6 J0 y a=(J0 y a).bind S6:=rfl
@[simp] theorem br:ah y a=.ok [] a:=rfl
@[simp] theorem a8:ae t J0 y a=(t y a).bind λx b=>(J0 y b).bind λxs c=>.ok (x::xs) c:=rfl
noncomputable def vr:Option (Option D)->aG->aE D
 |some (some d),a=>.ok d a
 |_,_=>.bad
@[simp] theorem EN:vr (some (some l)) a=.ok l a:=rfl
variable{b:Nat}
@[simp] theorem wR:aa b y a=vr y[b]? a:=by
 unfold aa;cases y[b]? with
 |none=>rfl
 |some o=>cases o<;>rfl
@[simp] theorem gF:aj l y a=.ok l a:=rfl
variable{j5:Cell}
@[simp] theorem gG:jZ a j5=.ok (.ref a.length) (a++[j5]):=rfl
noncomputable def tb(a:aG):Option Bool->aE Bool
 |some b=>.ok b a
 |none=>.bad
variable{E:Bool}
@[simp] theorem eA:tb a (some E)=.ok E a:=rfl
@[simp] theorem dN:dr (.ok l a)=tb a (iS a l):=by rfl
@[simp] theorem cQ:iS a (.bl E)=some E:=rfl
@[simp] theorem Me:iS a .non=some false:=rfl
variable{U:Int}
@[simp] theorem Mf:iS a (.int U)=some (U != 0):=rfl
noncomputable def Kb(t:Option Bool)(a b:aE D):=match t with
 |some true=>a
 |some false=>b
 |none=>.bad
variable{b9:aE D}
@[simp] theorem Gw:Mir.Kb (some true) P4 b9=P4:=rfl
@[simp] theorem tF:Mir.Kb (some false) P4 b9=b9:=rfl
@[simp] theorem rl:nL t ν y a=(t y a).bind λx b=>Mir.Kb (iS b x) (ν y b) (.ok x b):=by
 rfl
@[simp] theorem n4:AY t ν y a=(t y a).bind λx b=>Mir.Kb (iS b x) (.ok x b) (ν y b):=by
 unfold AY;cases t y a with
 |ok x b=>
  simp;cases iS _ x with
  |none=>rfl
  |some c=>cases c<;>rfl
 |exc x b=>rfl
 |bad=>rfl
@[simp] theorem rm:kb t y a=(dr (t y a)).bind λb c=>.ok (.bl (!b)) c:=rfl
variable{N5:EM}
@[simp] theorem vd:HZ N5 t ν y a=(dr (N5 y a)).bind λb c=>if b=true then t y c else ν y c:=rfl
@[simp] theorem EO{g}:HU Z7 g l a=kT (Z7 l a) (g l a):=rfl
variable{Y:D}
@[simp] theorem rn{g}:gT d7 g l Y a=kT (d7 l Y a) (g l Y a):=rfl
variable{p:List D}
@[simp] theorem OJ{g}:oX S6 g p a=kT (S6 p a) (g p a):=rfl
@[simp] theorem OK:nJ t ν y a=kT (t y a) (ν y a):=rfl
@[simp] theorem OL:gc a b .non=some .non:=by cases b<;>rfl
@[simp] theorem Ik:gc a b (.bl E)=some (.bl E):=by cases b<;>rfl
@[simp] theorem ER:gc a b (.int U)=some (.int U):=by cases b<;>rfl
variable{d:Str}
@[simp] theorem ro:gc a b (.str d)=some (.str d):=by cases b<;>rfl
@[simp] theorem RL{a b}{f:a->Option b}:cu f []=some []:=rfl
noncomputable def oc{a:Type}:Option a->Option (List a)->Option (List a)
 |some y,some b=>some (y::b)
 |_,_=>none
@[simp] theorem OM{a}{y:a}{b}:oc (some y) (some b)=some (y::b):=rfl
@[simp] theorem wU{a b}{f:a->Option b}{x xs}:cu f (x::xs)=oc (f x) (cu f xs):=by
 rfl
theorem lb{a b:Type}{c f}{g:a->b}{h:a->c}(e:∀x,f (g x)=some (h x)):∀xs:List a,cu f (xs.map g)=some (xs.map h)
 |[]=>rfl
 |x::xs=>by rw[Za,wU,e,lb e xs];rfl
variable{g:List Str}
@[simp] theorem ES:cu (gc a b) (g.map .str)=some (g.map .str):=lb (λ_=>ro) g
variable{L5:List Int}
@[simp] theorem ET:cu (gc a b) (L5.map .int)=some (L5.map .int):=lb (λ_=>ER) L5
variable{T4:List D}
theorem EU(h:cu (gc a b) p=some T4):gc a (b+1) (.lst p)=some (.lst T4):=by simp only[gc,h,ë]
variable{s:Nat}
theorem kj(c:a[s]?=some (.lst p))(h:cu (gc a b) p=some T4):gc a (b+1) (.ref s)=some (.lst T4):=by simp only[gc,c,h,ë]
theorem eB(c:a[s]?=some (.lst (g.map .str))):gc a (b+1) (.ref s)=some (L1 g):=kj c ES
@[simp] theorem RM:gc a (b+1) (SC L5)=some (SC L5):=EU ET
@[simp] theorem ON:gS a (.ok (E,.int U))=.ok (.int U) a:=rfl
variable{A2:Bool}
@[simp] theorem RN:gS a (.ok (E,.bl A2))=.ok (.bl A2) a:=rfl
@[simp] theorem EV:gS a (.ok (E,.str d))=.ok (.str d) a:=rfl
@[simp] theorem OO:gS a (.ok (E,.non))=.ok .non a:=rfl
@[simp] theorem OP:gS a .bad=.bad:=rfl
def vN(a:aG)(f:List D->Out Rs):Option (List D)->aE D
 |some b=>gS a (f b)
 |none=>.bad
variable{T3:List D->Out Rs}
@[simp] theorem EW:vN a T3 (some p)=gS a (T3 p):=rfl
@[simp] theorem EX:dj T3 p a=vN a T3 (cu (gc a 8) p):=by rfl
def v1(a:aG)(f:D->Out Rs):Option D->aE D
 |some d=>gS a (f d)
 |none=>.bad
variable{J9:D->Out Rs}
@[simp] theorem OQ:v1 a J9 (some l)=gS a (J9 l):=rfl
@[simp] theorem OR:Ek J9 l a=v1 a J9 (gc a 8 l):=by rfl
def v2(a:aG)(f:D->D->Out Rs):Option D->Option D->aE D
 |some d,some e=>gS a (f d e)
 |_,_=>.bad
variable{M9:D->D->Out Rs}
@[simp] theorem rr:v2 a M9 (some l) (some Y)=gS a (M9 l Y):=rfl
@[simp] theorem wV:iR M9 l Y a=v2 a M9 (gc a 8 l) (gc a 8 Y):=by rfl
@[simp] theorem Mh:Ba .len [.str d]=if small d.length=true then .ok (false,.int d.length)else .bad:=rfl
@[simp] theorem Bs:Ba .all [.lst p]=AO (λbs=>bs.all id) (fY p):=rfl
@[simp] theorem Mi:Ba .any [.lst p]=AO (λbs=>bs.any id) (fY p):=rfl
variable{H:a5}
@[simp] theorem km:aQ H p a=th (H p a):=rfl
@[simp] theorem Il:th (.ok l a)=.ok l a:=rfl
variable{Y3:Zh}
@[simp] theorem kr:fv Y3 l Y a=v2 a (λl Y=>do let r ←eP Y3 l Y;Out.ok (false,D.bl r)) (gc a 8 l) (gc a 8 Y):=by rfl
@[simp] theorem wW:aI .Eq l Y a=fv .Eq l Y a:=rfl
@[simp] theorem wX:aI .NotEq l Y a=fv .NotEq l Y a:=rfl
@[simp] theorem OS:aI .Lt l Y a=fv .Lt l Y a:=rfl
@[simp] theorem OT:aI .LtE l Y a=fv .LtE l Y a:=rfl
@[simp] theorem OU:aI .Gt l Y a=fv .Gt l Y a:=rfl
@[simp] theorem OV:aI .GtE l Y a=fv .GtE l Y a:=rfl
@[simp] theorem rz:aI .In l Y a=kT (fv .In l Y a) (oW false l Y a):=rfl
@[simp] theorem jz:aI .NotIn l Y a=kT (fv .NotIn l Y a) (oW true l Y a):=rfl
@[simp] theorem OW:aI .Is l Y a=kT (kW false l Y a) (fv .Is l Y a):=rfl
@[simp] theorem Im:aI .IsNot l Y a=kT (kW true l Y a) (fv .IsNot l Y a):=rfl
@[simp] theorem Mj:kW E (.ref b) .non a=.ok (.bl E) a:=rfl
@[simp] theorem Ki:kW E (.int U) l a=.bad:=rfl
@[simp] theorem Kj:kW E .non l a=.bad:=rfl
@[simp] theorem Ml:kW E (.bl A2) l a=.bad:=rfl
@[simp] theorem Kk:kW E (.str d) l a=.bad:=rfl
@[simp] theorem tG:bu .Add l Y a=kT (qU l Y a) (iR (gQ .Add) l Y a):=rfl
@[simp] theorem Mm:bu .Sub l Y a=iR (gQ .Sub) l Y a:=rfl
@[simp] theorem Kl:bu .Mult l Y a=iR (gQ .Mult) l Y a:=rfl
@[simp] theorem Mn:bu .Mod l Y a=iR (gQ .Mod) l Y a:=rfl
@[simp] theorem OX:bu .FloorDiv l Y a=iR (gQ .FloorDiv) l Y a:=rfl
@[simp] theorem OY:dY a (.int U)=none:=rfl
@[simp] theorem OZ:dY a (.str d)=none:=rfl
@[simp] theorem O_:dY a (.tup p)=none:=rfl
@[simp] theorem Pa:dY a (.lst p)=some p:=rfl
theorem av(h:a[b]?=some (.lst p)):dY a (.ref b)=some p:=by simp only[dY,h]
theorem ku(h:a[b]?=some (.lst p)):rf a (.ref b)=some (b,p):=by simp only[rf,h]
variable{M5:List (Str×D)}
theorem rC(h:a[b]?=some (.ins d M5)):nU a (.ref b)=some (b,d,M5):=by simp only[nU,h]
def ct(a:aG):Option (List D)->Option (List D)->aE D
 |some b,some c=>if small (b.length+c.length)then .ok (.ref a.length) (a++[.lst (b++c)])else .bad
 |_,_=>.bad
@[simp] theorem wY:ct a (some p) (some T4)=if small (p.length+T4.length)then .ok (.ref a.length) (a++[.lst (p++T4)])else .bad:=rfl
@[simp] theorem VF{o}:ct a none o=.bad:=rfl
@[simp] theorem wZ:qU l Y a=ct a (dY a l) (dY a Y):=by rfl
@[simp] theorem Pb:h9 a (.tup p)=some p:=rfl
@[simp] theorem az:h9 a (.ref b)=dY a (.ref b):=rfl
@[simp] theorem Pc:h9 a (.lst p)=some p:=rfl
def ixs(a:aG):Option (List D)->D->aE D
 |some b,.int i=>match L2.mu b i with
  |some d=>.ok d a
  |none=>.bad
 |_,_=>.bad
theorem w_:HX l Y a=ixs a (h9 a l) Y:=by rfl
theorem Bt(h:L2.mu p U=some l):ixs a (some p) (.int U)=.ok l a:=by simp only[ixs,h]
theorem bP(h:a[b]?=some (.lst p))(c:L2.mu p U=some l):aL (.ref b) (.int U) a=.ok l a:=by
 unfold aL;rw[rn,w_,az,av h,Bt c];rfl
@[simp] theorem gH:bt p a=if small p.length then .ok (.ref a.length) (a++[.lst p])else .bad:=rfl
@[simp] theorem kx:gU p a=if small p.length then .ok (.tup p) a else .bad:=rfl
def fl(a:aG)(Cs:List Str)(f:Str):Option (Nat×Str×List (Str×D))->aE D
 |some (_,C,b)=>if Cs.contains C then (match b.lookup f with
  |some d=>.ok d a
  |none=>.bad)else .bad
 |none=>.bad
variable{T:Str}
theorem xl(h:a[b]?=some (.ins T M5))(c:g.contains T=true)(e:M5.lookup d=some l):fV g d (.ref b) a=.ok l a:=by
 unfold fV;rw[rC h];simp_all
noncomputable def sq(r:gi)(b:SM):=match r with
 |.nx a c=>b a c
 |r=>r
variable{ω:SM}
@[simp] theorem ay:sq (.nx y a) ω=ω y a:=rfl
@[simp] theorem VG:sq (.rt l a) ω=.rt l a:=rfl
@[simp] theorem VH:sq (.bk y a) ω=.bk y a:=rfl
@[simp] theorem VI:sq (.ct y a) ω=.ct y a:=rfl
@[simp] theorem RO:sq (.exc l a) ω=.exc l a:=rfl
@[simp] theorem RP:sq .bad ω=.bad:=rfl
variable{u7:SM}
@[simp] theorem ag:ao ω u7 y a=sq (ω y a) u7:=by rfl
@[simp] theorem Mo:ak y a=.nx y a:=rfl
@[simp] theorem bg:aA b t y a=cx (t y a) λd c=>.nx (y.set b (some d)) c:=rfl
@[simp] theorem cf:cG t y a=cx (t y a) λ_ b=>.nx y b:=rfl
@[simp] theorem fQ:bY t y a=cx (t y a) λd b=>.rt d b:=rfl
@[simp] theorem cF:ei t ω u7 y a=cx (dr (t y a)) λb c=>if b=true then ω y c else u7 y c:=rfl
variable{I:List Nat}
@[simp] theorem EY:EC I t y a=cx (t y a) λd b=>match eH I d y with|some c=>.nx c b|none=>.bad:=rfl
@[simp] theorem Km:eH I (.tup p) y=if p.length=I.length then some (gD I p y)else none:=rfl
@[simp] theorem EZ:gD (b::I) (l::p) y=gD I p (y.set b (some l)):=rfl
@[simp] theorem Gx:gD [] p y=y:=by cases p<;>rfl
@[simp] theorem Pd:fE (.rt l a)=.ok l a:=rfl
@[simp] theorem Pe:fE (.nx y a)=.ok .non a:=rfl
theorem bh(h:p.length=s):bw b s ω p a=fE (ω (a9 b p) a):=by unfold bw;rw[if_pos h]
@[simp] theorem cA:ba t y a=(t y a).bind λx b=>srcOf b x:=rfl
theorem aM(h:h9 a l=some p):srcOf a l=.ok (.seq l) a:=by unfold srcOf;rw[h]
@[simp] theorem n7:eh J0 y a=(J0 y a).bind wG:=rfl
@[simp] theorem rD:wG [.int U] a=if oP U then .ok (.ints 0 U.toNat) a else .bad:=rfl
@[simp] theorem bC:eI (.seq l) a=h9 a l:=rfl
@[simp] theorem Mp:eI (.ints U b) a=some (intsFrom U b):=rfl
variable{C8:D->bH->Option bH}{y1:IM}
@[simp] theorem cJ:ed C8 y1 ω y a=cx (y1 y a) λs b=>gO C8 s ω fuel 0 y b:=rfl
def Gy(r:gi)(I:bH->aG->Prop)(R:gi->Prop):=match r with
 |.nx a b=>I a b
 |.ct a b=>I a b
 |.bk a b=>R (.nx a b)
 |r=>R r
variable{D3:Src}
theorem bQ(I:Nat->bH->aG->Prop){R}(k:∀i b a,I i b a->eI D3 a=some p)(h:∀i d b a,p[i]?=some d->I i b a->∃g,C8 d b=some g/\Gy (ω g a) (I (i+1)) R)(hR:∀b a,I p.length b a->R (.nx b a)):
  ∀f i b a,p.length - i<f->i<=p.length->I i b a->R (gO C8 D3 ω f i b a):=by
 intro f
 induction f with
 |zero=>simp
 |succ f m=>
  intro i b a s t n;simp only[gO,k i b a n]
  by_cases j:i<p.length
  .have o:=YW j
   rw[o];dsimp only;obtain⟨g,r,e⟩:=h i _ b a o n;rw[r];dsimp only;cases q:ω _ a with
   |nx l c=>rw[q]at e;exact m _ _ _ (by omega) j e
   |ct l c=>rw[q]at e;exact m _ _ _ (by omega) j e
   |bk l c=>rwa[q]at e
   |rt d c=>rwa[q]at e
   |exc x c=>rwa[q]at e
   |bad=>rwa[q]at e
  grind
variable{D8:D->Bool}{f7:D->D}
theorem E_(e:eI D3 a=some p)(h:∀d∈p,gh E t ([some d]++y) a=.ok (D8 d) a)(j:∀d∈p,D8 d=true->ν ([some d]++y) a=.ok (f7 d) a):
  ∀f i b,p.length - i<f->i<=p.length->b.length+p.length<=100000+i->pO E t ν 0 y D3 f i b a=.ok (b++((p.drop i).filter D8).map f7) a:=by
 intro f
 induction f with
 |zero=>omega
 |succ f k=>
  intro i b l m n;simp only[pO,e]
  by_cases c:i<p.length
  .rw[(YW c)]
   have g:nR 0 p[i]=some _:=rfl;simp only[g];rw[if_pos (aP (by omega)),Î c]
   grind
  grind
variable{η:aG}
theorem cz(c:y1 y a=.ok D3 η)(e:eI D3 η=some p)(f:∀d∈p,gh E ν ([some d]++dw I y) η=.ok (D8 d) η)(g:∀d∈p,D8 d=true->t ([some d]++dw I y) η=.ok (f7 d) η)(b:p.length<=90000):
  bK t E ν y1 0 I y a=.ok (.ref η.length) (η++[.lst ((p.filter D8).map f7)]):=by
 unfold bK;rw[c];dsimp only;rw[E_ e f g _ 0 [] (by unfold fuel;exact kG (B' (YZ _ _) b)) (Yh _) (by simp;exact bS b)]
 rfl
theorem eD(h:a[b]?=some j5):(a++η)[b]?=some j5:=by rwa[YU (Yn.mp h).1]
theorem aq:(a++j5::η)[a.length]?=some j5:=by simp
theorem cK{e}(h:a[s]?=some j5)(c:s≠b):(a.set b e)[s]?=some j5:=by rwa[Ø (Ya c)]
theorem aK{e}(h:a[b]?=some j5):(a.set b e)[b]?=some e:=ñ (Yn.mp h).1
def bf(h:a[b]?=some j5):=rP h
structure af(fp:List Nat)(Ω aw:aG):Prop where
 len:Ω.length<=aw.length
 get:∀k c,Ω[k]?=some c->k∉fp->aw[k]?=some c
theorem af.refl:af I a a:=⟨XZ _,by simp_all⟩
variable{L6:aG}
theorem af.trans(h:af I a η)(b:af I η L6):af I a L6:=⟨B' h.len b.len,λk c q n=>b.get k c (h.get k c q n) n⟩
theorem af.app:af I a (a++η):=⟨by simp,λk c h _=>eD h⟩
theorem af.set{a fp j c}(h:j∈fp):af fp a (a.set j c):=⟨by simp,λk e q n=>cK q (by grind)⟩
variable{z8:List Nat}
theorem af.sub(h:af I a η)(b:∀k∈I,k∈z8):af z8 a η:=⟨h.len,λk c q n=>h.get k c q (by grind)⟩
theorem iG(h:a[b]?=some (.lst p)):aX .len [.ref b] a=.ok (.int p.length) a:=by
 show kT _ _=_
 simp only[yG,az,av h];rfl
theorem dC(h:a[b]?=some (.lst p))(c:p.length<=1000):bX (.ref b) [l] a=.ok .non (a.set b (.lst (p++[l]))):=by
 simp only[bX,ku h];rw[if_pos (aP (by omega))]
theorem di(h:a[b]?=some (.lst p)):jr a (.ref b)=true:=by simp only[jr,av h];rfl
theorem n_(h:a[b]?=some (.lst (g.map .str))):aI .In (.str d) (.ref b) a=.ok (.bl (decide (d∈g))) a:=by
 simp[eB h]
theorem ky(h:a[b]?=some (.lst (g.map .str))):aI .NotIn (.str d) (.ref b) a=.ok (.bl (!decide (d∈g))) a:=by
 simp[eB h]
theorem Mq{c d:Type}[BEq c][LawfulBEq c]{f:c->d}{p a}(g:∀b,p (f b)=(b==a)):∀(xs:List c),a∈xs->(xs.map f).findIdx? p=some (xs.idxOf a)
 |[],h=>by simp at h
 |b::xs,h=>by
  rw[Za,List.findIdx?_cons,g,List.idxOf_cons];cases e:b==a with
  |true=>rfl
  |false=>
   simp[Mq g xs (by
    grind)]
theorem vf(h:d∈g):uF .index (.lst (g.map .str)) (.tup [.str d])=.ok (false,.int (g.idxOf d)):=by
 have e:(g.map D.str).findIdx? (λy=>fj y (.str d))=some _:=Mq (λb=>rfl) g h
 unfold uF
 simp_all
theorem pT(h:a[b]?=some (.lst (g.map .str)))(c:d∈g):e_ (.ref b) [.str d] a=.ok (.int (g.idxOf d)) a:=by
 have:=vf c;simp only[e_,wV,eB h,ro,rr,L1,this];rfl
variable{M:List (List Str)}
theorem oa(d:a[b]?=some (.lst (I.map .ref)))(h:aJ (λj c=>a[j]?=some (.lst (c.map .str))) I M):gc a (s+2) (.ref b)=some (LL M):=by
 refine kj d ?_;clear d
 induction h with
 |nil=>rfl
 |cons e g f=>rw[Za,wU,eB e,f];rfl
theorem Mr(I:aG->Prop)(g:∀a,I a->eI D3 a=some p)(h:∀d∈p,∀a,I a->∃aw,ν ([some d]++y) a=.ok (f7 d) aw/\I aw):
  ∀f i b a,I a->p.length - i<f->i<=p.length->b.length+p.length<=100000+i->∃aw,pO true t ν 0 y D3 f i b a=.ok (b++(p.drop i).map f7) aw/\I aw:=by
 intro f
 induction f with
 |zero=>simp
 |succ f j=>
  intro i b a e o q r;simp only[pO,g a e]
  by_cases c:i<p.length
  .rw[(YW c)]
   have k:nR 0 p[i]=some _:=rfl;refine bc (h _ (abz c) a e) λl s m=>?_
   have u:gh true t ([some p[i]]++y) a=.ok _ a:=rfl;simp only[k];rw[if_pos (aP (by omega)),Î c]
   refine bc (j _ (b++[f7 p[i]]) _ m (by omega) c (by grind)) λn w x=>?_
   grind
  simp_all
theorem Io(b:aG->Prop)(j:y1 y a=.ok D3 η)(f:b η)(g:∀a,b a->eI D3 a=some p)(h:∀d∈p,∀a,b a->∃η,t ([some d]++dw I y) a=.ok (f7 d) η/\b η)(e:p.length<=90000):
  ∃c,bK t true ν y1 0 I y a=.ok (.ref c.length) (c++[.lst (p.map f7)])/\b c:=by
 obtain⟨c,k,i⟩:=Mr (t:=ν) b g h fuel 0 [] _ f (by unfold fuel;exact kG (B' (YZ _ _) e)) (Yh _) (by simp;exact bS e)
 refine⟨_,?_,i⟩;unfold bK
 simp_all
theorem Fb(e:t y a=.ok (.ref b) η)(f:η[b]?=some (.ins d M5))(g:M5.lookup T=none):bq d T H t J0 y a=(J0 y η).bind λxs c=>th (H (.ref b::xs) c):=by
 unfold bq;rw[e]
 show(match nU _ _ with|some (_,h,M5)=>_|none=>_)=_
 rw[rC f];simp only[g,and_self,if_true];rfl
variable{L9:D->List D->aG->aE D}{V8:aG->D->Bool}
theorem eg(c:t y a=.ok l η)(h:V8 η l=true):dv V8 L9 t J0 y a=(J0 y η).bind λxs b=>L9 l xs b:=by
 unfold dv
 simp_all
variable [hU]
theorem af.new{fp}(h:af [] a η)(b:af fp η L6)(d:∀j∈fp,a.length<=j):af [] a L6:=⟨B' h.len b.len,λk c e _=>b.get k c (h.get k c e (by simp)) (by grind)⟩
theorem cD.up(h:af [] a η):af I a η:=h.sub (by simp)
@[simp] theorem Ms:aL (.str d) l a=v2 a uE (some (.str d)) (gc a 8 l):=by
 rfl
variable{k9 m9:Option Int}
@[simp] theorem Mt:h_ (.str d) k9 m9 a=gS a (Al (.str d) k9 m9):=rfl
@[simp] theorem Mu:du t E ν A2 N5 y a=(t y a).bind λx b=>(iZ E ν y b).bind λl c=>(iZ A2 N5 y c).bind λh d=>h_ x l h d:=rfl
@[simp] theorem Pf:iZ true t y a=.ok none a:=rfl
noncomputable def VJ(a:aG):D->aE (Option Int)
 |.int i=>.ok (some i) a
 |_=>.bad
@[simp] theorem Pg:iZ false t y a=(t y a).bind λd b=>VJ b d:=by
 rfl
@[simp] theorem Ph:VJ a (.int U)=.ok (some U) a:=rfl
theorem lR(h:a[b]?=some (.lst p)):eT (.ref b) [] a=.ok .non (a.set b (.lst p.reverse)):=by
 simp only[eT,ku h]
def nC:=bK (m2 aL (aa 2) (m2 (bu .Mod) (m2 (bu .Add) (aa 1) (m2 (bu .Mult) (aa 0) (aa 3))) (aj (.int 26)))) true (aj .non) (eh (ae (aj (.int 8)) ah)) 0 [4,3,5]
def nD:=bK (du (aa 1) true (aj .non) false (m2 (bu .Add) (aa 0) (aj (.int 1)))) true (aj .non) (eh (ae (aa 2) ah)) 0 [6]
def VL(x:Str):=x.length<=17/\∃c∈x.cps.toList,97<=c
theorem VL.ne(h:VL d):d≠"-":=λe=>by
 obtain⟨_,c,a,b⟩:=h;subst e;have:c∈[45]:=a;simp at this;omega
section
variable{κ β:Type}[DecidableEq κ]
theorem dO{p:κ×β}{kvs k}:bz (p::kvs) k=if p.1=k then some p.2 else bz kvs k:=by
 unfold bz
 grind
theorem tH{k a:κ}{v:β}:∀{kvs},bz (kvs.map λb=>if b.1=k then (b.1,v)else b) a=if a=k then (bz kvs k).map λ_=>v else bz kvs a
 |[]=>by simp[bz]
 |p::kvs=>by
  rw[Za,dO,dO,dO,tH]
  grind
theorem tI{k a:κ}{v:β}:∀{kvs},bz (kvs++[(k,v)]) a=match bz kvs a with|some d=>some d|none=>if a=k then some v else none
 |[]=>by
  rw[ķ,dO]
  by_cases h:k=a
  .subst h;simp[bz]
  grind
 |p::kvs=>by
  rw[List.cons_append,dO,dO,tI]
  grind
theorem kz{k}:∀{kvs:List (κ×β)},(kvs.any λa=>decide (a.1=k))=(bz kvs k).isSome
 |[]=>rfl
 |p::kvs=>by
  rw[Ï,dO,kz]
  by_cases h:p.1=k<;>simp[h]
theorem pU{kvs}{k a:κ}{v:β}:bz (cX kvs k v) a=if a=k then some v else bz kvs a:=by
 unfold cX;rw[kz];cases h:bz _ k with
 |none=>
  rw[if_neg (by simp),tI]
  grind
 |some d=>
  rw[Option.isSome_some,if_pos rfl,tH]
  simp_all
theorem Bu{kvs}{k:κ}{v:β}:(cX kvs k v).length<=kvs.length+1:=by
 unfold cX;split<;>simp
end
theorem fW(h:(g.map D.str)[b]?=some l):∃x,g[b]?=some x/\l=.str x:=by
 rw[YH]at h
 grind
theorem pV(b:p.all Mc=true)(h:H p []=.ok l a)(c:gK l=true):pureOf H p=.ok (false,l):=by
 unfold pureOf
 simp_all
def Mv:=(ao (aA 3 (m2 (bu .FloorDiv) (aa 3) (aj (.int 840)))) ak)
def Mw:=(ei (nL (m2 (aI .Eq) (m2 (bu .Mod) (aa 0) (aj (.int 2))) (aj (.int 1))) (m2 (aI .Gt) (aa 0) (m2 (bu .Pow) (aj (.int 10)) (aj (.int 18)))))
 (ao (ed (dS 4) (eh (ae (aa 1) ah)) Mv)
 (ao (bY (m2 (bu .Mod) (m2 (bu .Mod) (aa 3) (aj (.int 840))) (aa 2)))
 ak))
 ak)
def VM:=(ao (aA 5 (mN bt (ae (aj (.int 48271)) (ae (aj (.int 69621)) (ae (aj (.int 40692)) (ae (aj (.int 39373)) (ae (aj (.int 16807)) (ae (aj (.int 30323)) (ae (aj (.int 21403)) (ae (aj (.int 62089)) (ae (aj (.int 45742)) (ae (aj (.int 37907)) (ae (aj (.int 53611)) (ae (aj (.int 28411)) (ae (aj (.int 59393)) (ae (aj (.int 33391)) ah))))))))))))))))
 (ao (aA 6 (m2 (bu .Mod) (m2 (bu .Mult) (m2 (bu .Add) (m2 (bu .Mod) (aa 0) (aj (.int 1000000007))) (aj (.int 11))) (m2 aL (aa 5) (m2 (bu .Mod) (aa 1) (aj (.int 14))))) (aj (.int 2147483629))))
 (ao (aA 7 (m2 (bu .Mod) (m2 (bu .Mult) (aa 6) (m2 (bu .Add) (aa 6) (aa 1))) (aj (.int 1999999973))))
 (ao (bY (m2 (bu .Mod) (m2 (bu .FloorDiv) (m2 (bu .Mod) (m2 (bu .Mult) (aa 7) (aj (.int 16807))) (aj (.int 998244353))) (aj (.int 1000))) (aa 2)))
 ak))))
def pW:=
 (ao (aA 3 (m2 (bu .FloorDiv) (aa 0) (aj (.int 2))))
 (ao Mw VM))
@[simp] theorem Mx:bu .Pow l Y a=iR (gQ .Pow) l Y a:=rfl
variable{S0:Int}
theorem Fc{m}(C:0<=S0)(s:S0<100000)(b:0<m):∃r,0<=r/\r<m/\pureOf (bw 8 3 pW) [.int U,.int S0,.int m]=.ok (false,.int r):=by
 have g:∃r c,0<=r/\r<m/\bw 8 3 pW [.int U,.int S0,.int m] []=.ok (.int r) c:=by
  rw[bh (by rfl)]
  have t:a9 8 [D.int U,.int S0,.int m]=[some (.int U),some (.int S0),some (.int m),none,none,none,none,none]:=rfl;rw[t];unfold pW;have u:(aA 3 (m2 (bu .FloorDiv) (aa 0) (aj (.int 2)))) [some (.int U),some (.int S0),some (.int m),none,none,none,none,none] []=.nx [some (.int U),some (.int S0),some (.int m),some (.int (U / 2)),none,none,none,none] []:=by simp
  rw[ag,u,ay,ag]
  by_cases j:U%2=1/\1000000000000000000<U
  .have k:oP S0=true:=ft (by omega) (by omega)
   have l:∃x a,gO (dS 4) (.ints 0 S0.toNat) Mv fuel 0 [some (.int U),some (.int S0),some (.int m),some (.int (U / 2)),none,none,none,none] []=.nx [some (.int U),some (.int S0),some (.int m),some (.int x),a,none,none,none] []:=by
    refine bQ (R:=λr=>∃x a,r=.nx [some (.int U),some (.int S0),some (.int m),some (.int x),a,none,none,none] []) (p:=intsFrom 0 S0.toNat) (λ_ n o=>∃x a,n=[some (.int U),some (.int S0),some (.int m),some (.int x),a,none,none,none]/\o=[]) (λ_ _ _ _=>rfl) ?_ ?_ fuel 0 _ _ (by rw[dJ];unfold fuel;omega) (Yh _) ⟨_,_,rfl,rfl⟩
    .rintro i d n o q ⟨x,a,rfl,rfl⟩
     refine⟨_,rfl,?_⟩;have e:Mv [some (.int U),some (.int S0),some (.int m),some (.int x),some d,none,none,none] []=.nx [some (.int U),some (.int S0),some (.int m),some (.int (x / 840)),some d,none,none,none] []:=by simp[Mv]
     show Gy (Mv [some (.int U),some (.int S0),some (.int m),some (.int x),some d,none,none,none] []) _ _
     rw[e];exact⟨_,_,rfl,rfl⟩
    .rintro n o ⟨x,a,rfl,rfl⟩
     exact⟨x,a,rfl⟩
   obtain⟨x,a,l⟩:=l;refine⟨x%840%m,[],ϝ _ (Ę b),Ϟ _ b,?_⟩;simp[Mw,j.1,j.2,k,l,b]
  .obtain⟨d,q,e⟩:=HQ (xs:=[D.int 48271,.int 69621,.int 40692,.int 39373,.int 16807,.int 30323,.int 21403,.int 62089,.int 45742,.int 37907,.int 53611,.int 28411,.int 59393,.int 33391]) (U:=S0%14) (ϝ _ (by decide)) (Ϟ _ (by decide))
   obtain⟨v,rfl⟩:∃v,d=.int v:=by
    simp only[Yo,Ń,or_false]at q;rcases q with h|h|h|h|h|h|h|h|h|h|h|h|h|h<;>exact⟨_,h⟩
   have w:([]++[Cell.lst [D.int 48271,.int 69621,.int 40692,.int 39373,.int 16807,.int 30323,.int 21403,.int 62089,.int 45742,.int 37907,.int 53611,.int 28411,.int 59393,.int 33391]]:aG)[0]?=some _:=rfl;have E:=bP w e;have F:nk (U%1000000007+11)=true:=jV (by omega) (by omega)
   have G:nk ((U%1000000007+11)*v%2147483629)=true:=jV (by omega) (by omega)
   have H:nk ((U%1000000007+11)*v%2147483629*((U%1000000007+11)*v%2147483629+S0)%1999999973)=true:=jV (by omega) (by omega)
   have rI:Mw [some (.int U),some (.int S0),some (.int m),some (.int (U / 2)),none,none,none,none] []=.nx [some (.int U),some (.int S0),some (.int m),some (.int (U / 2)),none,none,none,none] []:=by
    by_cases f:U%2=1
    .have y:¬ 1000000000000000000<U:=λz=>j ⟨f,z⟩
     simp[Mw,f,y]
    .have A:(U%2==1)=false:=by simpa using f
     simp[Mw,A]
   refine⟨(U%1000000007+11)*v%2147483629*((U%1000000007+11)*v%2147483629+S0)%1999999973*16807%998244353 / 1000%m,([]++[Cell.lst [D.int 48271,.int 69621,.int 40692,.int 39373,.int 16807,.int 30323,.int 21403,.int 62089,.int 45742,.int 37907,.int 53611,.int 28411,.int 59393,.int 33391]]:aG),ϝ _ (Ę b),Ϟ _ b,?_⟩;rw[rI,ay];have I:(aA 5 (mN bt (ae (aj (.int 48271)) (ae (aj (.int 69621)) (ae (aj (.int 40692)) (ae (aj (.int 39373)) (ae (aj (.int 16807)) (ae (aj (.int 30323)) (ae (aj (.int 21403)) (ae (aj (.int 62089)) (ae (aj (.int 45742)) (ae (aj (.int 37907)) (ae (aj (.int 53611)) (ae (aj (.int 28411)) (ae (aj (.int 59393)) (ae (aj (.int 33391)) ah)))))))))))))))) [some (.int U),some (.int S0),some (.int m),some (.int (U / 2)),none,none,none,none] []=.nx [some (.int U),some (.int S0),some (.int m),some (.int (U / 2)),none,some (.ref 0),none,none] _:=rfl;unfold VM
   simp_all
 refine aF g λr c B f e=>?_
 exact⟨r,B,f,pV rfl e rfl⟩
theorem Ip(I:Nat->List D->aG->Prop)(h:∀i a b,I i a b->eI D3 b=some p)(l:∀i d a b,p[i]?=some d->I i a b->∃c aw,ν ([some d]++y) b=.ok c aw/\I (i+1) (a++[c]) aw):
  ∀f i a b,I i a b->p.length - i<f->i<=p.length->a.length+p.length<=100000+i->∃g aw,pO true t ν 0 y D3 f i a b=.ok g aw/\I p.length g aw:=by
 intro f
 induction f with
 |zero=>simp
 |succ f m=>
  intro i a b j n o q;simp only[pO,h i _ b j]
  by_cases e:i<p.length
  .rw[(YW e)]
   have k:nR 0 p[i]=some _:=rfl;have r:gh true t ([some p[i]]++y) b=.ok _ b:=rfl;simp only[k];rw[if_pos (aP (by omega))]
   grind
  grind
theorem mK(b:Nat->List D->aG->Prop)(n:y1 y a=.ok D3 η)(j:b 0 [] η)(k:∀i e a,b i e a->eI D3 a=some p)(l:∀i d e a,p[i]?=some d->b i e a->∃c η,t ([some d]++dw I y) a=.ok c η/\b (i+1) (e++[c]) η)(h:p.length<=90000):
  ∃g f,bK t true ν y1 0 I y a=.ok (.ref f.length) (f++[.lst g])/\b p.length g f:=by
 refine cE (Ip (t:=ν) b k l fuel 0 [] _ j (by unfold fuel;exact kG (B' (YZ _ _) h)) (Yh _) (by simp;exact bS h)) λg f o m=>?_
 refine⟨g,_,?_,m⟩;unfold bK
 simp_all
def VN(b:aG)(j:Nat)(a:List Str):=b[j]?=some (.lst (a.map .str))
def kA(a)(b:List Nat)(rs:List (List Str)):=aJ (VN a) b rs
structure Rw(Ω:aG)(k:Nat)(js:List Nat)(rs:List (List Str)):Prop where
 ce:Ω[k]?=some (.lst (js.map .ref))
 al:kA Ω js rs
theorem kA.keep{b aw}:∀{a}{rs},kA b a rs->∀{fp},af fp b aw->(∀j∈a,j∉fp)->kA aw a rs
 |_,_,.nil,_,_,_=>.nil
 |_,_,.cons r t,fp,K,h=>.cons (K.get _ _ r (h _ (by simp))) (kA.keep t K (by simp_all))
theorem Rw.keep{a aw k b rs}(R:Rw a k b rs)(K:af [] a aw):Rw aw k b rs:=⟨K.get _ _ R.ce (by simp),R.al.keep K (by simp)⟩
theorem Rw.pX(R:Rw a b I M)(K:af z8 a η)(c:b∉z8)(d:∀j∈I,j∉z8):Rw η b I M:=⟨K.get _ _ R.ce c,R.al.keep K d⟩
theorem kA.len(h:kA a I M):M.length=I.length:=aJ.length h
def Rw.len{b k a rs}(R:Rw b k a rs):=R.al.len
theorem kA.at(h:kA a I M)(c:M[b]?=some g):∃j,I[b]?=some j/\a[j]?=some (.lst (g.map .str)):=aJ.HS (R:=VN a) h c
theorem kA.at'(h:kA a I M)(d:I[b]?=some s):∃c,M[b]?=some c/\a[s]?=some (.lst (c.map .str)):=aJ.get h d
theorem kA.lt(h:kA a I M):∀j∈I,j<a.length:=λj b=>by
 obtain⟨i,c⟩:=YL.mp b;obtain⟨d,_,e⟩:=h.at' c;exact bf e
theorem lg(h:(I.map D.ref)[b]?=some l):∃j,I[b]?=some j/\l=.ref j:=by
 rw[YH]at h
 grind
def Pj:=(ao (ei (m2 (aI .In) (aa 1) (du (aa 3) false (aj (.int 1)) true (aj .non))) (ao (bY (aa 2)) ak) ak) ak)
def tJ:=(ao (ed (eH [2,3]) (sX (aa 0)) Pj) (ao (bY (aj .non)) ak))
theorem vg(h:a[b]?=some (.lst (g.map .str))):h_ (.ref b) (some 1) none a=.ok (.ref a.length) (a++[.lst (g.tail.map .str)]):=by
 have e:et (g.map D.str) (some 1) none=g.tail.map .str:=by
  simp
 simp only[h_,av h,gG,e]
variable{Θ:Nat}
theorem Iq(h:a[s]?=some (.lst (g.map .str))):∃aw,af [] a aw/\Pj [some (.ref b),some (.str d),some (.int Θ),some (.ref s)] a=if d∈g.tail then .rt (.int Θ) aw else .nx [some (.ref b),some (.str d),some (.int Θ),some (.ref s)] aw:=by
 have e:=vg h;have i:(a++[Cell.lst (g.tail.map .str)])[a.length]?=some _:=aq;have j:af [] a (a++[Cell.lst (g.tail.map .str)]):=af.app;generalize a++[Cell.lst _]=k at *;have f:=n_ (d:=d) i;refine⟨_,j,?_⟩
 by_cases c:d∈g.tail
 .rw[if_pos c,decide_eq_true c]at *
  simp[Pj,e,f,-rz]
 .rw[if_neg c,decide_eq_false c]at *
  simp[Pj,e,f,-rz]
theorem Bv(R:Rw a b I M)(y:M.length<=1000):∃c aw,bw 4 2 tJ [.ref b,.str d] a=.ok c aw/\af [] a aw/\((c=.non/\∀r∈M,d∉r.tail)\/∃i:Nat,c=.int i/\∃r,M[i]?=some r/\d∈r.tail):=by
 rw[bh (by rfl)]
 have z:a9 4 [D.ref b,.str d]=[some _,some _,none,none]:=rfl;rw[z];have t:=R.len
 have k:sX (aa 0) [some (.ref b),some (.str d),none,none] a=.ok (.OH (.ref b)) a:=by
  unfold sX;simp[av R.ce]
 unfold tJ;rw[ag,cJ,k,cy]
 refine bQ (R:=λr=>∃c aw,fE (sq r _)=.ok c aw/\af [] a aw/\((c=.non/\∀r∈M,d∉r.tail)\/∃i:Nat,c=.int i/\∃r,M[i]?=some r/\d∈r.tail)) (p:=fk 0 (I.map .ref))
  (λi h f=>∃l m,h=[some (.ref b),some _,l,m]/\(∀r∈M.take i,d∉r.tail)/\af [] a f) ?_ ?_ ?_ fuel 0 _ _ (by rw[jU];unfold fuel;simp;exact kG (B' (M' t.symm) y)) (Yh _) ⟨none,none,rfl,by simp,af.refl⟩
 .rintro i h f ⟨_,_,_,_,K⟩
  show(h9 f (.ref b)).map _=_
  rw[az,av (R.keep K).ce];rfl
 .rintro i c h f A ⟨l,m,rfl,u,K⟩
  obtain⟨E,n,rfl⟩:=my _ 0 i c A;obtain⟨j,B,rfl⟩:=lg n;obtain⟨o,C,g⟩:=(R.keep K).al.at' B;rw[abA];refine⟨[some (.ref b),some (.str d),some _,some _],rfl,?_⟩;obtain⟨q,w,e⟩:=Iq g;rw[e]
  by_cases x:d∈o.tail
  .rw[if_pos x]
   exact⟨.int i,q,rfl,K.trans w,by grind⟩
  .rw[if_neg x]
   refine⟨_,_,rfl,λr s=>?_,K.trans w⟩
   rw[YM,C]at s
   grind
 .rintro h f ⟨l,m,rfl,u,K⟩
  rw[jU,Yj,←t,YQ]at u;exact⟨.non,f,rfl,K,by simp_all⟩
def My(a):=(ao (ei (nL (aa 1) (m2 (aI .Is) (mN (aQ a) (ae (aa 0) (ae (m2 aL (aa 1) (aj (.int 0))) ah))) (aj .non))) (ao (bY (m2 aL (aa 1) (aj (.int 0)))) ak) ak) ak)
def Bw(a):=(ao (ed (dS 1) (ba (aa 0)) (My a)) (ao (bY (aj .non)) ak))
theorem fF(h:a[b]?=some (.lst p)):iS a (.ref b)=some (!p.isEmpty):=by simp only[iS,h]
theorem Ir(R:Rw a b I M)(n:M.length<=1000)(h:a[s]?=some (.lst (g.map .str))):∃aw,af [] a aw/\My (bw 4 2 tJ) [some (.ref b),some (.ref s)] a=match freeOf M g with|some m=>.rt (.str m) aw|none=>.nx [some (.ref b),some (.ref s)] aw:=by
 cases g with
 |nil=>
  refine⟨a,af.refl,?_⟩;simp[My,freeOf,(fF h)]
 |cons m t=>
  have f:=fF h;have c:aL _ (.int 0) a=.ok _ a:=bP h (L2.cq rfl);refine aF (Bv (d:=m) R n) λd o j k p=>?_
  have e:aL _ (.int 0) _=.ok _ _:=bP (k.get _ _ h (by simp)) (L2.cq rfl)
  refine⟨_,k,?_⟩;rcases p with ⟨rfl,l⟩|⟨i,rfl,r,q,l⟩
  .rw[dq (by simp_all)]
   simp[My,f,c,j,e]
  .rw[ec ⟨r,by grind,l⟩]
   simp[My,f,c,j]
theorem Iu(R:Rw a b I M)(u:M.length<=1000):∃aw,bw 2 1 (Bw (bw 4 2 tJ)) [.ref b] a=.ok (Ee (free M)) aw/\af [] a aw:=by
 rw[bh (by rfl)]
 have w:a9 2 [D.ref b]=[some _,none]:=rfl;rw[w];have x:=R.len;have l:ba (aa 0) [some (.ref b),none] a=.ok (.seq (.ref b)) a:=by simp[aM (by rw[az,av R.ce])]
 unfold Bw;rw[ag,cJ,l,cy]
 refine bQ (R:=λr=>∃aw,fE (sq r _)=.ok _ aw/\af [] a aw) (p:=I.map .ref)
  (λi h c=>∃n,h=[some _,n]/\(M.take i).findSome? (freeOf M)=none/\af [] a c) ?_ ?_ ?_ _ 0 _ _ (by unfold fuel;simp;exact kG (B' (M' x.symm) u)) (Yh _) ⟨_,rfl,rfl,af.refl⟩
 .rintro i h c ⟨_,_,_,K⟩
  rw[bC,az,av (R.keep K).ce]
 .rintro i d h c s ⟨n,rfl,o,K⟩
  obtain⟨j,y,rfl⟩:=lg s;have R2:=R.keep K;refine bc (R2.al.at' y) λf k g=>?_
  refine⟨[some _,some _],rfl,?_⟩;refine bc (Ir R2 u g) λz t e=>?_
  rw[e];have A:M.take (i+1)=M.take i++[f]:=by rw[YM,k];rfl
  cases B:freeOf M _ with
  |some m=>
   refine⟨_,?_,K.trans t⟩
   have:free M=some m:=by
    unfold free
    have s:M=M.take i++(f::M.drop (i+1)):=by
     have q:=(Yn.mp k).1;rw[YW q]at k;cases k
     simp_all
    grind
   rw[this];rfl
  |none=>
   refine⟨_,rfl,?_,K.trans t⟩
   simp_all
 .rintro h c ⟨n,rfl,o,K⟩
  rw[Yj,←x,YQ]at o;refine⟨_,?_,K⟩;unfold free;rw[o];rfl
open PySem.Spec PyProof.Rows
theorem xn:et p none (some b)=p.take b:=uP p b
theorem rE(h:a[b]?=some (.lst (g.map .str))):h_ (.ref b) none (some s) a=.ok (.ref a.length) (a++[.lst ((g.take s).map .str)]):=by
 simp only[h_,av h,gG,xn,ń]
variable{N2:Ty}
@[simp] theorem Pk:gV N2 (.tup p) a=.ok (.bl (N2==.tuple)) a:=rfl
@[simp] theorem Pl:gV N2 (.str d) a=.ok (.bl (N2==.str)) a:=rfl
@[simp] theorem Pm:gV N2 .non a=.ok (.bl false) a:=rfl
@[simp] theorem Mz:aX .len [.tup p] a=.ok (.int p.length) a:=rfl
theorem Iv(I:Nat->aG->Prop)(l:∀i b,I i b->eI D3 b=some p)(m:∀i d b,p[i]?=some d->I i b->∃aw,gh E t ([some d]++y) b=.ok (D8 d) aw/\I (i+1) aw/\(D8 d=true->ν ([some d]++y) aw=.ok (f7 d) aw)):
  ∀f i a b,p.length - i<f->i<=p.length->a.length+p.length<=100000+i->I i b->∃aw,pO E t ν 0 y D3 f i a b=.ok (a++((p.drop i).filter D8).map f7) aw/\I p.length aw:=by
 intro f
 induction f with
 |zero=>simp
 |succ f g=>
  intro i a b w x n h;simp only[pO,l i b h]
  by_cases c:i<p.length
  .have j:=YW c
   rw[j];have o:nR 0 p[i]=some _:=rfl;simp only[o];refine bx (m i _ b j h) λq r k z=>?_
   rw[if_pos (aP (by omega)),r,Î c]
   cases A:D8 _ with
   |true=>
    obtain⟨e,s,u⟩:=g _ (a++[f7 p[i]]) _ (by omega) c (by grind) k
    grind
   |false=>
    obtain⟨e,s,u⟩:=g _ a _ (by omega) c (ũ n) k
    grind
  grind
theorem Fd(b:Nat->aG->Prop)(g:y1 y a=.ok D3 η)(j:∀i a,b i a->eI D3 a=some p)(k:∀i d a,p[i]?=some d->b i a->∃η,gh E ν ([some d]++dw I y) a=.ok (D8 d) η/\b (i+1) η/\(D8 d=true->t ([some d]++dw I y) η=.ok (f7 d) η))(f:p.length<=90000)(l:b 0 η):
  ∃c,bK t E ν y1 0 I y a=.ok (.ref c.length) (c++[.lst ((p.filter D8).map f7)])/\b p.length c:=by
 unfold bK;rw[g];dsimp only;obtain⟨c,e,h⟩:=Iv b j k fuel 0 [] _ (by unfold fuel;exact kG (B' (YZ _ _) f)) (Yh _) (by simp;exact bS f) l
 refine⟨_,?_,h⟩;rw[e];rfl
variable{ο:List Str}
theorem xo(h:a[b]?=some (.lst (g.map .str)))(c:a[s]?=some (.lst (ο.map .str))):aI .Eq (.ref b) (.ref s) a=.ok (.bl (decide (g=ο))) a:=by
 rw[wW,kr,eB h,eB c]
 simp_all
theorem mL(h:a[b]?=some (.lst (g.map .str)))(c:a[s]?=some (.lst (ο.map .str))):aI .NotEq (.ref b) (.ref s) a=.ok (.bl (!decide (g=ο))) a:=by
 rw[wX,kr,eB h,eB c]
 simp_all
def wB(M:List (List D->a5)):=(ao (ei (AY (m2 (aI .NotEq) (du (aa 0) false (aa 5) false (m2 (bu .Add) (aa 5) (aj (.int 1)))) (mN bt (ae (aa 6) ah))) (m2 (aI .NotEq) (Ii M 2 (ae (aa 6) (ae (aa 1) ah))) (aj (.int 0))))
 (ao (bY (aa 5))
 ak)
 ak)
 ak)
theorem Bx(h:a[b]?=some (.lst (g.map .str))):h_ (.ref b) (some s) none a=.ok (.ref a.length) (a++[.lst ((g.drop s).map .str)]):=by
 simp only[h_,av h,gG,qQ,Ď]
theorem kA.snoc(h:kA a I M)(c:a[b]?=some (.lst (g.map .str))):kA a (I++[b]) (M++[g]):=aJ.append h (.cons c .nil)
theorem bB(h:a[b]?=some (.lst p)):aX .list [.ref b] a=.ok (.ref a.length) (a++[.lst p]):=by
 show kT _ _=_
 simp only[nM,az,av h];rfl
theorem og{f}{P:Nat->Prop}(z:y1 y a=.ok (.seq (.ref b)) a)(R:Rw a b I M)(A:M.length<=1000)(B:∀j l k,af [] a k->j∈I->l∈M->k[j]?=some (.lst (l.map .str))->∃n c,t ([some (.ref j)]++dw z8 y) k=.ok (.ref n) c/\af [] k c/\c[n]?=some (.lst ((f l).map .str))/\P n):
  ∃g c,bK t true ν y1 0 z8 y a=.ok (.ref c.length) (c++[.lst (g.map .ref)])/\af [] a c/\kA c g (M.map f)/\∀j∈g,P j:=by
 have q:=R.len
 obtain⟨G,c,e,g,rfl,p,C,r⟩:=mK (λi m c=>∃g,m=g.map .ref/\kA c g ((M.take i).map f)/\af [] a c/\∀j∈g,P j) z ⟨[],rfl,.nil,af.refl,by simp⟩
  (λi m c h=>by
   refine dQ h λ_ _ _ K _=>?_
   rw[bC,az,av (R.keep K).ce])
  (λi d m k D h=>by
   obtain⟨g,rfl,p,K,r⟩:=h;obtain⟨j,s,rfl⟩:=lg D;obtain⟨l,u,o⟩:=(R.keep K).al.at' s;refine a6 (B j l k K (Yf s) (Yf u) o) λn c e w E H=>?_
   refine⟨_,c,e,g++[n],by simp,?_,K.trans w,?_⟩
   .rw[YM,u,YX]
    exact(p.keep w (by simp)).snoc E
   .intro x F
    rcases Yz.mp F with h|h
    .simp_all
    simp_all) (by simp;exact bS (B' (M' q.symm) A))
 refine⟨g,c,e,C,?_,r⟩;rwa[Yj,←q,YQ]at p
def xq(i:Nat):=bK (mN (aX .list) (ae (aa 0) ah)) true (aj .non) (ba (aa i)) 0 []
theorem xr(l:y[s]?=some (some (.ref b)))(R:Rw a b I M)(m:M.length<=1000):∃c d aw,xq s y a=.ok (.ref d) aw/\af [] a aw/\Rw aw d c M/\(∀j∈c,a.length<=j)/\a.length<=d/\d∉c:=by
 have f:ba (aa s) y a=.ok (.seq (.ref b)) a:=by
  rw[cA,wR,l];exact aM (by rw[az,av R.ce])
 obtain⟨c,n,e,K,g,o⟩:=og (t:=mN (aX .list) (ae (aa 0) ah)) f R m (λj i k K _ _ h=>by
  refine⟨_,k++[.lst (i.map _)],?_,af.app,aq,K.len⟩;have:=bB h
  simp_all)
 rw[Ò]at g;refine⟨_,_,_,e,K.trans af.app,⟨aq,g.keep (fp:=[]) af.app (by simp)⟩,o,K.len,λh=>?_⟩
 have:=g.lt _ h
 simp_all
def stC:=(HZ (m2 (aI .Eq) (du (aa 0) true (aj .non) false (aj (.int 1))) (mN bt (ae (aa 1) ah))) (du (aa 0) false (aj (.int 1)) true (aj .non)) (aa 0))
theorem Iw(h:a[b]?=some (.lst (g.map .str))):h_ (.ref b) none (some 1) a=.ok (.ref a.length) (a++[.lst ((g.take 1).map .str)]):=rE h
theorem Iy(h:a[b]?=some (.lst (g.map .str))):∃e aw,stC [some (.ref b),some (.str d)] a=.ok (.ref e) aw/\af [] a aw/\aw[e]?=some (.lst ((cB d g).map .str))/\(e=b\/a.length<=e):=by
 have l:=Iw h;have m:(a++[Cell.lst ((g.take 1).map .str)])[a.length]?=some _:=aq;have k:af [] a (a++[Cell.lst ((g.take 1).map .str)]):=af.app;generalize a++[Cell.lst _]=c at *;have n:(c++[Cell.lst [.str d]])[c.length]?=some (.lst ([d].map _)):=aq;have f:af [] _ (c++[Cell.lst [.str d]]):=af.app;have o:=f.get _ _ (k.get _ _ h (by simp)) (by simp)
 have i:=xo (f.get _ _ m (by simp)) n
 have p:(m2 (aI .Eq) (du (aa 0) true (aj .non) false (aj (.int 1))) (mN bt (ae (aa 1) ah))) [some (.ref b),some (.str d)] a=.ok (.bl (decide (g.take 1=[d]))) (c++[Cell.lst [.str d]]):=by
  simp[l,aP,i,-wW]
 generalize c++[Cell.lst _]=j at *;have K:=k.trans f;unfold stC;rw[vd,p,dN,cQ,eA,au]
 by_cases i:g.take 1=[d]
 .rw[if_pos (by simp_all)]
  refine⟨_,j++[.lst (g.tail.map .str)],?_,K.trans af.app,?_,.inr K.len⟩
  .simp[(vg o)]
  .unfold cB;rw[if_pos i];exact aq
 .rw[if_neg (by simp_all)]
  refine⟨b,_,by simp,K,?_,.inl rfl⟩
  unfold cB;simp_all
def FnAt(d:a5):=∀b k e c,Rw b k e c->c.length<=1000->∃a,d [.ref k] b=.ok (Ee (free c)) a/\af [] b a
theorem MA:FnAt (bw 2 1 (Bw (bw 4 2 tJ))):=λ_ _ _ _ R a=>Iu R a
def tM:=(mN (aX .any) (ae (aa 1) ah))
def stM:=(bK stC true (aj .non) (ba (aa 1)) 0 [3])
def bM(st a):=(ao (aA 3 (mN (aQ a) (ae (aa 1) ah)))
 (ao (ei (m2 (aI .Is) (aa 3) (aj .non))
 (ao st
 ak)
 ak)
 (ao (cG (dv jr bX (aa 2) (ae (aa 3) ah)))
 (ao (aA 1 stM)
 ak))))
def By(st a):=
 (ao (aA 1 (xq 0))
 (ao (aA 2 (mN bt ah))
 (ao (ig tM (bM st a))
 (ao (bY (aa 2))
 ak))))
theorem mM(R:Rw a b I M):aX .any [.ref b] a=.ok (.bl ((M.map λr=>!r.isEmpty).any id)) a:=by
 show q_ _ _ a=_
 unfold q_;have:cu (gc a 8) [.ref b]=some [LL M]:=by simp[(oa R.ce R.al)]
 have:Ba .any [LL M]=.ok (false,.bl ((M.map λr=>!r.isEmpty).any id)):=by simp[LL,any_rows,-abd]
 simp_all
variable{χ:Option D}
theorem Gz(N:FnAt H)(R:Rw a b I M)(E:M.length<=1000)(O:free M=some d)(Q:a[s]?=some (.lst (g.map .str)))(o:s≠b)(n:s∉I)(S:g.length<=900):
  ∃p i aw,bM ω H [some l,some (.ref b),some (.ref s),χ] a=.nx [some l,some (.ref p),some (.ref s),some (.str d)] aw/\Rw aw p i (M.map (cB d))/\aw[s]?=some (.lst ((g++[d]).map .str))/\s≠p/\s∉i/\af [s] a aw:=by
 refine bc (N a b I M R E) λc F q=>?_
 rw[O]at F;have r:=q.get _ _ Q (by simp)
 have T:=R.keep q;have u:=dC (l:=.str d) r (by simp;exact bS S)
 have U:=di r;have G:af [s] c (c.set s (.lst (g.map .str++[.str d]))):=af.set (by simp)
 have J:(c.set s (.lst (g.map .str++[.str d])))[s]?=some (.lst ((g++[d]).map .str)):=by rw[aK r];simp
 generalize c.set s (.lst (g.map .str++[.str d]))=k at *;have R2:Rw k b I M:=T.pX G (by simpa using Ya o) (λj w h=>n (by rw[←W'.mp h];exact w))
 have x:ba (aa 1) [some l,some (.ref b),some (.ref s),some (.str d)] k=.ok (.seq (.ref b)) k:=by
  rw[cA];exact aM (by rw[az,av R2.ce])
 have L:=bf J
 refine a6 (og (t:=stC) (ν:=aj .non) (z8:=[3]) (f:=cB d) (P:=λj=>j≠s) x R2 E (λj V m K w _ h=>by
  refine a6 (Iy (d:=d) h) λX y e Y A h5=>?_;refine⟨X,y,e,Y,A,?_⟩;rcases h5 with rfl|h5
  .exact λz=>n (z▸w)
  .have:=K.len
   exact Ym (U' (U' L this) h5))) λi m Z B h3 A=>?_
 have C:=B.len;refine⟨m.length,i,m++[.lst (i.map .ref)],?_,⟨aq,h3.keep (fp:=[]) af.app (by simp)⟩,eD (B.get _ _ J (by simp)),N' (U' L C),λh=>A s h rfl,?_⟩
 .have D:stM _ k=.ok (.ref m.length) (m++[.lst (i.map .ref)]):=Z
  have r1:(aA 3 (mN (aQ H) (ae (aa 1) ah))) [some l,some (.ref b),some (.ref s),χ] a=.nx [some l,some (.ref b),some (.ref s),some (.str d)] c:=by simp[F,Ee]
  have r2:(ei (m2 (aI .Is) (aa 3) (aj .non)) (ao ω ak) ak) [some l,some (.ref b),some (.ref s),some (.str d)] c=.nx [some l,some (.ref b),some (.ref s),some (.str d)] c:=by simp
  have r3:(cG (dv jr bX (aa 2) (ae (aa 3) ah))) [some l,some (.ref b),some (.ref s),some (.str d)] c=.nx [some l,some (.ref b),some (.ref s),some (.str d)] k:=by
   rw[cf,eg (l:=.ref s) (η:=c) (by simp) U]
   simp[u]
  unfold bM;rw[ag,r1,ay,ag,r2,ay,ag,r3,ay,ag,bg,D];rfl
 .exact((cD.up q).trans G).trans (cD.up (B.trans af.app))
theorem Bz(w:FnAt H)(c:Mg M g):
  ∀a b q k i d m,Rw a k i M->a[q]?=some (.lst (b.map .str))->q≠k->q∉i->M.length<=1000->b.length+g.length<=900->g.length<m ->
   ∃j f aw,dA tM (bM ω H) m [some l,some (.ref k),some (.ref q),d] a=.nx [some l,j,some (.ref q),f] aw/\aw[q]?=some (.lst ((b++g).map .str))/\af [q] a aw:=by
 induction c with
 |@done M h=>
  intro a b q k i d m R t _ _ _ _ o;obtain⟨m,rfl⟩:∃k,m=k+1:=⟨m - 1,by grind⟩
  refine⟨some (.ref k),d,a,?_,by simp_all,af.refl⟩
  have e:=mM R;rw[any_false h]at e;have p:tM [some l,some (.ref k),some (.ref q),d] a=.ok (.bl false) a:=by simp[tM,e]
  simp only[dA,p];rfl
 |@step M n g h x _ y=>
  intro a b q k i d m R t r s z u o;obtain⟨m,rfl⟩:∃k,m=k+1:=⟨m - 1,by omega⟩
  rw[Y']at u o;refine cS (Gz (ω:=ω) w (l:=l) (χ:=d) R z x t r s (B' (Zs _ _) u)) λA B C N E F G I J=>?_
  refine cg (y _ _ q A _ (some (.str n)) m E F G I (by simp_all) (by simp;omega) (abB o)) λj f K O P L=>?_
  refine⟨j,f,_,?_,by simp_all,J.trans L⟩
  have e:=mM R;rw[any_true h]at e;have p:tM [some l,some (.ref k),some (.ref q),d] a=.ok (.bl true) a:=by simp[tM,e]
  simp only[dA,p]
  simp_all
def BA(d:a5):=∀b k e c o,Rw b k e c->Mg c o->c.length<=1000->o.length<=900->∃q a,d [.ref k] b=.ok (.ref q) a/\a[q]?=some (.lst (o.map .str))/\b.length<=q/\af [] b a
theorem MB(g:FnAt H):BA (bw 4 1 (By ω H)):=by
 intro i k w x o R M e j;rw[bh (by rfl)]
 have l:a9 4 [D.ref k]=[some _,none,none,none]:=rfl;rw[l];refine cS (xr (y:=[some _,none,none,none]) (s:=0) rfl R e) λm b a z c d A B C=>?_
 have n:(aA 1 (xq 0)) [some (.ref k),none,none,none] i=.nx [some (.ref k),some (.ref b),none,none] a:=by simp_all
 have f:af [] _ (a++[Cell.lst []]):=af.app;have p:(aA 2 (mN bt ah)) [some (.ref k),some (.ref b),none,none] a=.nx [some (.ref k),some (.ref b),some (.ref a.length),none] (a++[Cell.lst []]):=by rfl
 have E:=d.al.lt;obtain⟨F,G,q,r,t,u⟩:=Bz g M _ [] _ b _ _ fuel (d.keep f) aq (Ym (bf d.ce)) (λh=>by grind) e (by simp_all) (by unfold fuel;exact kG j)
 refine⟨_,_,?_,t,c.len,af.new (c.trans f) u (by simpa using c.len)⟩
 unfold By;rw[ag,n,ay,ag,p,ay,ag];unfold ig;rw[r];rfl
end Mir
namespace Mir
open PySem
open PySem.Spec PyProof.Rows L2
structure i_(K:K')(x:Str)(st:D')(f:b')(fd:Yb):Prop where
 ns:Y_ K Yt x=some (some (.ref f))
 fn:yn K x x st f fd
variable{D6 E6 M2 N d6 j7:f'}{G:K'}{X:D'}{Y5:Array (Option f')}{d:Str}{h:b'}{o5 u6:Option b'}
theorem tK(a:Y_ G Yt d=some (some (.ref h)))(l:G.lookup h=some ⟨N,o5,.func (Yy d d (bD X) (aT X) (ai X) .none M2 d6 D6 u6 E6 j7),Y5⟩)(c:ZD G E6 d=true)(k:Yp G (.ref h)=true):i_ G d X h (Yy d d (bD X) (aT X) (ai X) .none M2 d6 D6 u6 E6 j7):=⟨a,qD l c k⟩
variable [hU]
structure yV(K:K')(x qual:Str)(st:D')(dV:f')(f:b')(fd:Yb):Prop where
 ex:∃(oc:f') (od:Option b') (kV doc pm:f') (an:Option b') (cdv ct:f') (osl:Array (Option f')),
  fd=Yy x qual (bD st) (aT st) (ai st) dV kV doc pm an cdv ct/\K.lookup f=some ⟨oc,od,.func fd,osl⟩/\ZD K cdv qual=true
 kp:Yp K (.ref f)=true
variable{B:F'}{Q6 g ο:List Str}{T:Str}{b:Nat}{v:Yc}{x:X_}{ζ:aO}{θ:Str->Option f'}{ς:Yb}{ω:SM}
theorem iH(W:aV v x G θ B ζ b)(F:yV G d T X N h ς)(J:dn g ο (ai X)=true)(K:tD ζ Q6 X g=some ω):
    bJ v x G θ B eL (b+1) h ς ο (cN (cb θ) (bw g.length ο.length ω)):=by
  refine xe F.ex λoc l=>xe l λod n=>xe n λkV o=>xe o λL p=>xe p λpm t=>bj t λan M ct O u P w=>?_;subst u
  have y:=fq J;refine zL P w y (λR H Q E c=>?_) λA outer s H R Q E U c=>?_
  · refine bj c λi Z k V S r a=>?_
    rw[r.length];unfold bw at a;split at a
    · omega
    · exact a.elim
  · refine bj c λi Z k V S r a=>?_
    have f:eJ (cW eL v x G θ _ g _ _ h _ A outer s H E).jJ _ ζ b _ g:=
      { scope:=rfl,names:=rfl,calm:=rfl,room:=U,de:=W.de,own:=abC,OI:=λ_ _ _=>.inl rfl,qT:=y.nd,kind:=y.kind,jJ:=λ_ _ _ c=>c,fld:=W.fld,cst:=W.cst
        iT:=λd F c=>⟨W.iT d F c⟩,fn:=λd F c=>⟨W.fn d F c⟩,met:=λm C F c=>⟨W.met m C F c⟩,cls:=λC F c=>bc (W.cls C F c) λj Y h2=>⟨j,Y,⟨h2⟩⟩,clo:=W.clo }
    refine⟨LZ _ kF i Z H ω _ k,(gk (wN f 30 60) K i Z H _ k).jJ,i,Z,jv S r,?_⟩;unfold bw at a;split at a
    · cases q:ω _ k with
      |rt z e=>rwa[q]at a
      |nx D e=>rw[q]at a;exact λσ H' a0 Z' I=>a _ H' _ Z' I.gr I.st (a7 rfl)
      |bk D e=>rw[q]at a;exact a.elim
      |ct D e=>rw[q]at a;exact a.elim
      |exc d e=>rwa[q]at a
      |bad=>rwa[q]at a
    · exact a.elim
abbrev oR(k:Nat):Option D:=some (.ref k)
abbrev oI(i:Int):Option D:=some (.int i)
abbrev oS(x:Str):Option D:=some (.str x)
def bZ(a:aG)(e:Nat)(kvs:List (Key×D)):=a[e]?=some (.dK kvs)\/a[e]?=some (.dF kvs)
abbrev eE:=List (Str×List Str)
noncomputable def nms(E:eE):=E.map (·.1)
noncomputable def aN(E:eE)(n):=(E.lookup n).getD []
def aH(P:Nat->Prop)(b:aG)(kvs:List (Key×D))(E:eE):=aJ (λa p=>a.1=.inr p.1/\∃j,a.2=.ref j/\P j/\b[j]?=some (.lst (p.2.map .str))) kvs E
variable{A:List (Key×D)}{a:aG}
theorem bZ.keep{aw fp}(h:bZ a b A)(K:af fp a aw)(c:b∉fp):bZ aw b A:=h.imp (λz=>K.get _ _ z c) λz=>K.get _ _ z c
theorem bZ.lt(h:bZ a b A):b<a.length:=h.elim bf bf
theorem bZ.nl(h:bZ a b A):∀c,a[b]?≠some (.lst c):=λc z=>by rcases h with h|h<;>rw[h]at z<;>cases z
theorem bZ.ni(h:bZ a b A):∀C c,a[b]?≠some (.ins C c):=λC c z=>by rcases h with h|h<;>rw[h]at z<;>cases z
variable{s:Nat}
theorem GA(h:bZ a b A):gc a (s+1) (.ref b)=none:=by rcases h with h|h<;>simp only[gc,h]
theorem tL(h:bZ a b A):dY a (.ref b)=none:=by rcases h with h|h<;>simp only[dY,h]
theorem BB(h:bZ a b A):yE a (.ref b) (.str d)=some (bz A (.inr d)):=by rcases h with h|h<;>simp only[yE,h,uU,ë]
theorem vh(h:bZ a b A):aI .In (.str d) (.ref b) a=.ok (.bl (bz A (.inr d)).isSome) a:=by
 rw[rz,kr,GA h];simp only[oW,BB h];rfl
theorem BC(h:bZ a b A):aI .NotIn (.str d) (.ref b) a=.ok (.bl (!(bz A (.inr d)).isSome)) a:=by
 rw[jz,kr,GA h];simp only[oW,BB h];rfl
variable{l:D}
theorem ej(h:bZ a b A)(c:bz A (.inr d)=some l):aL (.ref b) (.str d) a=.ok l a:=by
 unfold aL;rw[rn,w_,az,tL h];rw[rn];simp only[HY,BB h,c];rfl
theorem xu(h:bZ a b A):aX .len [.ref b] a=.ok (.int A.length) a:=by
 show kT _ _=_
 have c:yG [.ref b] a=.bad:=by simp only[yG,az,tL h]
 have d:A_ [.ref b] a=.ok (.int A.length) a:=by rcases h with h|h<;>simp only[A_,h]
 simp_all
theorem BD(h:bZ a b A):uW a (.ref b)=some A:=by rcases h with h|h<;>simp only[uW,h]
theorem BE(h:bZ a b A):aX .list [.ref b] a=.ok (.ref a.length) (a++[.lst (A.map λc=>ke c.1)]):=by
 show kT _ _=_
 have d:nM [.ref b] a=.bad:=by simp only[nM,az,tL h]
 have e:sT [.ref b] a=.ok (.ref a.length) (a++[.lst (A.map λc=>ke c.1)]):=by simp only[sT,BD h];rfl
 simp_all
theorem oh(h:bZ a b A):eS [.ref b] a=.ok (.ref a.length) (a++[.dK A]):=by
 show kT _ _=_
 have c:lO [.ref b] a=.bad:=by simp only[lO,tL h]
 have d:sU [.ref b] a=.ok (.ref a.length) (a++[.dK A]):=by simp only[sU,BD h];rfl
 simp_all
variable{j5:Cell}
theorem set_same(h:a[b]?=some j5):a.set b j5=a:=by
 apply č;intro i;rw[ź];split
 .rename_i z;subst z;rw[if_pos (bf h),h]
 .rfl
theorem xv(h:bZ a b A):srcOf a (.ref b)=.ok (.keys b) (a.set b (.dF A)):=by
 unfold srcOf;rw[az,tL h];rcases h with h|h
 .simp_all
 .simp only[h,set_same h]
theorem GB(h:bZ a b A):wF a (.ref b)=.ok (.items b) (a.set b (.dF A)):=by
 unfold wF;rcases h with h|h
 .simp_all
 .simp only[h,set_same h]
theorem tN(h:bZ a b A):(a.set b (.dF A))[b]?=some (.dF A):=by rcases h with h|h<;>exact aK h
theorem oi(h:a[b]?=some (.dF A)):eI (.keys b) a=some (A.map λc=>ke c.1):=by simp only[eI,h]
theorem aH.imp{a kvs E P P'}(h:aH P a kvs E)(b:∀j,P j->P' j):aH P' a kvs E:=aJ.imp (by simp_all) h
variable{d0:Nat->Prop}{u:eE}
theorem aH.keep{aw fp}(h:aH d0 a A u)(K:af fp a aw)(f:∀j∈fp,¬ d0 j):aH d0 aw A u:=aJ.imp (by rintro _ _ ⟨e,j,b,c,d⟩;exact⟨e,j,b,c,K.get _ _ d λz=>f j z c⟩) h
variable{I:List Nat}{η:aG}
theorem aH.bV(h:aH d0 a A u)(K:af I a η)(f:∀j∈I,∀g,a[j]?≠some (.lst g)):aH d0 η A u:=aJ.imp (by rintro _ _ ⟨e,j,b,c,d⟩;exact⟨e,j,b,c,K.get _ _ d λz=>f j z _ d⟩) h
theorem aH.lt(h:aH d0 a A u):aH (λj=>d0 j/\j<a.length) a A u:=aJ.imp (λ_ _  g =>xa g λe f=>bx f λj b c d=>⟨e,j,b,⟨c,bf d⟩,d⟩) h
theorem aH.len(h:aH d0 a A u):u.length=A.length:=aJ.length h
theorem aH.keys(h:aH d0 a A u):(A.map λc=>ke c.1)=(nms u).map .str:=by
 induction h with
 |nil=>rfl
 |cons r _ b=>
  simp at b ⊢;rw[b,r.1];rfl
theorem aH.look(h:aH d0 a A u)(n):(∀r,u.lookup n=some r->∃j,bz A (.inr n)=oR j/\d0 j/\a[j]?=some (.lst (r.map .str)))/\(u.lookup n=none->bz A (.inr n)=none):=by
 induction h with
 |nil=>exact⟨by simp,λ_=>rfl⟩
 |@cons b p A u c _ d=>
  rw[dO]
  grind
theorem rG(h:u.lookup d=some g):(d,g)∈u:=by
 induction u with
 |nil=>simp at h
 |cons p u a=>
  grind
theorem lookup_some(h:d∈nms u):∃r,u.lookup d=some r:=by
 unfold nms at h
 induction u with
 |nil=>simp at h
 |cons p u a=>
  rw[ľ];split
  .simp
  grind
theorem jA(h:d∈nms u):u.lookup d=some (aN u d):=by
 obtain⟨r,a⟩:=lookup_some h;unfold aN;rw[a];rfl
theorem lookup_none(h:d∉nms u):u.lookup d=none:=by
 cases q:u.lookup d with
 |none=>rfl
 |some r=>exact absurd (aa0 (rG q)) h
def aH.at{n}(h:aH d0 a A u)(b:n∈nms u):=(h.look n).1 _ (jA b)
theorem aH.is(h:aH d0 a A u):(bz A (.inr d)).isSome=decide (d∈nms u):=by
 by_cases q:d∈nms u
 .obtain⟨j,b,_⟩:=h.at q
  simp_all
 .rw[(h.look d).2 (lookup_none q),decide_eq_false q];rfl
variable{S7:Key}
theorem BF(h:bz A S7=none):(A.any λa=>decide (a.1=S7))=false:=by rw[kz,h];rfl
theorem aH.put{j n r}(h:aH d0 a A u)(b:n∉nms u)(c:d0 j)(d:a[j]?=some (.lst (r.map .str))):aH d0 a (cX A (.inr n) (.ref j)) (u++[(n,r)]):=by
 have:=BF ((h.look n).2 (lookup_none b));unfold cX;rw[if_neg (by grind)]
 exact aJ.append h (.cons ⟨rfl,j,rfl,c,d⟩ .nil)
def pY(E)(a:List Str):=(nms E).filter λn=>!decide (n∈a)&&(aN E n).all λx=>decide (x∈a)
def VO:=(bK (m2 (aI .In) (aa 0) (aa 1)) true (aj .non) (ba (m2 aL (aa 1) (aa 0))) 0 [2])
def MC:=(nL (m2 (aI .NotIn) (aa 0) (aa 2)) (mN (aX .all) (ae VO ah)))
def Pn:=(ao (bY (bK (aa 0) false MC (ba (aa 0)) 0 [0,1])) ak)
variable{B9:List Bool}
theorem xy(h:a[b]?=some (.lst (B9.map .bl))):aX .all [.ref b] a=.ok (.bl (B9.all id)) a:=by
 show q_ _ _ a=_
 unfold q_;rw[EX];have d:cu (gc a 7) _=some (B9.map .bl):=lb (λ_=>Ik) B9
 have:cu (gc a 8) [.ref b]=some [.lst (B9.map .bl)]:=by simp[kj h d]
 rw[this,EW,Bs]
 have e:fY (B9.map D.bl)=some B9:=by
  clear h d this
  induction B9 with
  |nil=>rfl
  |cons c B9 f=>simp[fY,f]
 rw[e];rfl
variable{t:EM}{y:bH}{y1:IM}
theorem jB(c:a[b]?=some (.lst (g.map .str)))(f:y1 y a=.ok (.seq (.ref b)) a){p}(i:∀x∈g,t ([oS x]++dw I y) a=.ok (.bl (p x)) a)(j:g.length<=90000):
  ∃aw,mN (aX .all) (ae (bK t true (aj .non) y1 0 I) ah) y a=.ok (.bl (g.all p)) aw/\af [] a aw:=by
 have e:=cz (t:=t) (ν:=aj .non) (E:=true) (I:=I) (f7:=λd=>match d with|.str x=>.bl (p x)|d=>d) f (by rw[bC,az,av c]) (λd _=>rfl) (λd k _=>by
  grind) (by simp_all)
 have h:((g.map D.str).filter λ_=>true).map (λd=>match d with|.str x=>D.bl (p x)|d=>d)=(g.map p).map .bl:=by
  rw[Zk.mpr (λ_ _=>rfl),Ys,Ys]
  rfl
 rw[h]at e;refine⟨a++[.lst ((g.map p).map .bl)],?_,af.app⟩;rw[eV,a8,e,au,br,au,au,xy aq]
 simp_all
def Fe(f:a5):=∀c e q b E d P,bZ c e b->aH P c b E->c[q]?=some (.lst (d.map .str))->(∀n∈nms E,(aN E n).length<=1000)->E.length<=1000 ->
 ∃z a,f [.ref e,.ref q] c=.ok (.ref z) a/\a[z]?=some (.lst ((pY E d).map .str))/\af [e] c a/\a[e]?=some (.dF b)/\c.length<=z
theorem MD:Fe (bw 2 2 Pn):=by
 intro f e q c E a P k F G L M;rw[bh (by rfl)]
 have N:a9 2 [D.ref e,.ref q]=[oR e,oR q]:=rfl;rw[N];have m:af [e] f (f.set e (.dF c)):=af.set (by simp)
 have o:=tN k;have p:=F.bV m (λj l=>by rw[W'.mp l];exact k.nl)
 have r:=m.get _ _ G (by simpa using (λz=>k.nl _ (z▸G)))
 have O:(f.set e (.dF c)).length=f.length:=by simp
 have s:ba (aa 0) [oR e,oR q] f=.ok (.keys e) (f.set e (.dF c)):=by
  exact xv k
 generalize f.set e (.dF c)=u at *
 refine bc (Fd (t:=aa 0) (ν:=MC) (E:=false) (I:=[0,1]) (D8:=λd=>match d with|.str n=>!decide (n∈a)&&(aN E n).all _|_=>false) (f7:=λd=>d) (λ_ b=>af [] u b) s
  (λi b K=>by rw[oi (K.get _ _ o (by simp)),F.keys])
  (λi d b w K=>by
   obtain⟨n,Q,rfl⟩:=fW w;have R:n∈nms E:=Yf Q;have H:=K.get _ _ r (by simp)
   have S:=K.get _ _ o (by simp)
   have T:=p.keep K (by simp)
   refine bx (T.at R) λj U _ l=>?_;have g:=ky (d:=n) H
   show ∃A,dr (MC [oS n,oR e,oR q] b)=.ok (!decide (n∈a)&&(aN E n).all λx=>decide (x∈a)) A/\_
   by_cases V:n∈a
   .refine⟨b,?_,K,λ_=>rfl⟩
    rw[decide_eq_true V]at g ⊢;simp[MC,g,-jz]
   .refine bc (jB (y:=[oS n,oR e,oR q]) (t:=m2 (aI .In) (aa 0) (aa 1)) (y1:=ba (m2 aL (aa 1) (aa 0))) (I:=[2]) l (by
     show(aL (.ref e) (.str n) b).bind _=_
     rw[(ej (d:=n) (.inr S) U),au];exact aM (by rw[az,av l])) (λx _=>n_ H) (by grind)) λB J X=>?_
    refine⟨B,?_,K.trans X,λ_=>rfl⟩
    have J:mN (aX .all) (ae VO ah) _ b=_:=J;unfold MC
    simp_all) (by simp[nms];exact bS M) af.refl) λh Y C=>?_
 refine⟨h.length,h++[.lst _],?_,aq,?_,eD (C.get _ _ o (by simp)),by have:=C.len;exact B' (M' O.symm) this⟩
 .unfold Pn
  rw[ag,fQ,Y]
  have Z:(((nms E).map D.str).filter (λd=>match d with|.str n=>!decide (n∈a)&&(aN E n).all λx=>decide (x∈a)|_=>false)).map (λd=>d)=(pY E a).map .str:=by
   rw[Ò,Ņ];rfl
  rw[Z];rfl
 .exact(m.trans (cD.up C)).trans af.app
theorem fG{xs:List Str}:∀{o:List Str},o.Nodup->(∀x∈o,x∈xs)->o.length<=xs.length:=by
 intro o b d
 induction o generalizing xs with
 |nil=>simp
 |cons a o c=>
  have:=c (xs:=xs.erase a) (ZL.mp b).2 (λx e=>by
   grind)
  grind
structure Ef(E:eE)(ord:List Str):Prop where
 nd:ord.Nodup
 sub:∀n∈ord,n∈nms E
 pre:∀(i:Nat) (n:Str),ord[i]?=some n->∀x∈aN E n,x∈ord.take i
structure Acy(E:eE):Prop where
 nd:(nms E).Nodup
 el:∀n∈nms E,∀x∈aN E n,x∈nms E
 rk:∃rk:Str->Nat,∀n∈nms E,∀x∈aN E n,rk x<rk n
theorem kB:d∈pY u g↔d∈nms u/\d∉g/\∀x∈aN u d,x∈g:=by
 unfold pY
 simp_all
theorem Ef.step{E c}(h:Ef E c)(g:(nms E).Nodup):Ef E (c++pY E c) where
 nd:=Zt.mpr ⟨h.nd,g.filter _,λa j b k z=>(kB.mp k).2.1 (z▸j)⟩
 sub:=λn l=>(Yz.mp l).elim (h.sub n) λz=>(kB.mp z).1
 pre:=λi n d x f=>by
  by_cases e:i<c.length
  .rw[YU e]at d
   rw[abD (YN e)];exact h.pre i n d x f
  .rw[ZZ (ì e)]at d
   have:=(kB.mp (Yf d)).2.2 x f;rw[List.take_append,Ċ (ì e)]
   simp_all
theorem vi(h:a[b]?=some (.lst (g.map .str)))(c:a[s]?=some (.lst (ο.map .str)))(d:g.length+ο.length<=10000):iz (.ref b) [.ref s] a=.ok .non (a.set b (.lst ((g++ο).map .str))):=by
 simp only[iz,ku h,ku c];rw[if_pos (aP (by simp;exact bS d)),YX]
def Po(a):=(ao (cG (dv jr iz (aa 1) (ae (aa 2) ah)))
 (ao (aA 2 (mN (aQ a) (ae (aa 0) (ae (aa 1) ah))))
 ak))
def Pp(a):=
 (ao (aA 1 (mN bt ah))
 (ao (aA 2 (mN (aQ a) (ae (aa 0) (ae (aa 1) ah))))
 (ao (ig (aa 2)
 (Po a))
 (ao (bY (aa 1))
 ak))))
structure Gd(E:eE):Prop extends Acy E where
 few:E.length<=12
 short:∀n∈nms E,(aN E n).length<=5
 Kn:∀n∈nms E,(aN E n).Nodup
def RQ:=(bK (aa 0) false (m2 (aI .NotIn) (aa 0) (aa 1)) (ba (aa 0)) 0 [1])
def Pq(a rest):=
 (ao (aA 1 (mN (aQ a) (ae (aa 0) ah)))
 (ao (aA 3 RQ)
 (ao (ei (kb (aa 3))
 (ao (bY (aj .non))
 ak)
 ak)
 rest)))
noncomputable def aW(a:List Str)(L:Str->List Str):eE:=a.map λn=>(n,L n)
def ME(E)(L:Str->List Str):=∀n∈nms E,∃o,Mg ((aN E n).map L++[aN E n]) o/\L n=n::o
variable{ε:Str->List Str}
theorem aU:nms (aW g ε)=g:=by
 unfold nms aW;rw[Ys];exact(Zb λx _=>rfl).trans (ϟ _)
theorem eO(h:d∈g):aN (aW g ε) d=ε d:=by
 unfold aN aW
 induction g with
 |nil=>simp at h
 |cons a g b=>
  grind
variable{T4 p:List D}
theorem gI(h:a[b]?=some (.lst p))(c:a[s]?=some (.lst T4))(d:p.length+T4.length<=10000):bu .Add (.ref b) (.ref s) a=.ok (.ref a.length) (a++[.lst (p++T4)]):=by
 rw[tG,wZ,av h,av c,wY,if_pos (aP (bS d))];rfl
def VP:=(bK (mN (aX .list) (ae (m2 aL (aa 1) (aa 0)) ah)) true (aj .non) (ba (aa 1)) 0 [0])
def RR:=(mN bt (ae (mN (aX .list) (ae (aa 1) ah)) ah))
def Pr:=(ao (bY (m2 (bu .Add) VP RR)) ak)
def yW(h:a5):=∀c l a e f P b,bZ c l e->aH P c e f->c[a]?=some (.lst (b.map .str))->(∀x∈b,x∈nms f)->b.length<=100 ->
 ∃g k d,h [.ref l,.ref a] c=.ok (.ref k) d/\Rw d k g (b.map (aN f)++[b])/\af [] c d/\c.length<=k/\(∀j∈g,c.length<=j)/\k∉g
theorem MF:yW (bw 2 2 Pr):=by
 intro m l a U q P c V X r Y M;rw[bh (by rfl)]
 have Z:a9 2 [D.ref l,.ref a]=[oR l,oR a]:=rfl;rw[Z]
 have s:ba (aa 1) [oR l,oR a] m=.ok (.seq (.ref a)) m:=by
  rw[cA];exact aM (by rw[az,av r])
 refine cE (mK (y:=[oR l,oR a]) (t:=mN (aX .list) (ae (m2 aL (aa 1) (aa 0)) ah)) (ν:=aj .non) (I:=[0]) (p:=c.map .str) (λi g b=>∃f,g=f.map .ref/\kA b f ((c.take i).map (aN q))/\af [] m b/\∀j∈f,m.length<=j) s ⟨[],rfl,.nil,af.refl,by simp⟩
  (λi g b h=>by
   refine dQ h λ_ _ _ K _=>?_;rw[bC,az,av (K.get _ _ r (by simp))])
  (λi d g b u h=>by
   obtain⟨f,rfl,n,K,w⟩:=h;obtain⟨x,N,rfl⟩:=fW u;have z:=V.keep K (by simp)
   refine bx ((X.keep K (by simp)).at (Y x (Yf N))) λj hv _ hj=>?_
   have A:=ej (d:=x) z hv;have k:=bB hj;refine⟨.ref b.length,b++[.lst ((aN q x).map .str)],?_,f++[b.length],by simp,?_,K.trans af.app,?_⟩
   .show((aL (.ref l) (.str x) b).bind _).bind _=_
    rw[A,au]
    show aX .list [.ref j] b=_
    exact k
   .rw[YM,N,YX]
    exact(n.keep (fp:=[]) af.app (by simp)).snoc aq
   .intro y B
    rcases Yz.mp B with h|h
    .exact w y h
    .rw[W'.mp h];exact K.len) (by simp;exact bS M)) λys e e1 C=>dQ C λf E n O w=>?_;subst E
 rw[Yj,YQ]at n;have F:VP [oR l,oR a] m=.ok (.ref e.length) (e++[.lst (f.map .ref)]):=e1;have g2:(e++[Cell.lst (f.map .ref)])[e.length]?=some (.lst (f.map .ref)):=aq;have Q:af [] m (e++[Cell.lst (f.map .ref)]):=O.trans af.app;have G:kA (e++[Cell.lst (f.map .ref)]) f (c.map (aN q)):=n.keep (fp:=[]) af.app (by simp)
 have l2:(e++[Cell.lst (f.map .ref)]).length=e.length+1:=by simp
 have jl:=n.lt;have R:=O.len;have S:=n.len;generalize e++[Cell.lst (f.map .ref)]=b at *;have k:=bB (Q.get _ _ r (by simp))
 have e3:RR [oR l,oR a] b=.ok (.ref (b.length+1)) ((b++[.lst (c.map .str)])++[.lst [.ref b.length]]):=by
  unfold RR
  have:(mN (aX .list) (ae (aa 1) ah)) [oR l,oR a] b=.ok (.ref b.length) (b++[.lst (c.map .str)]):=by
   show aX .list [.ref a] b=_
   exact k
  rw[eV,a8,this,au,br,au,au,gH,if_pos (aP (by simp))]
  simp
 have H:af [] b ((b++[Cell.lst (c.map .str)])++[Cell.lst [.ref b.length]]):=af.app.trans af.app
 have gb:((b++[Cell.lst (c.map .str)])++[Cell.lst [.ref b.length]])[b.length+1]?=some (.lst [.ref b.length]):=by
  simp
 have T:((b++[Cell.lst (c.map .str)])++[Cell.lst [.ref b.length]])[b.length]?=some (.lst (c.map .str)):=eD aq;have l3:((b++[Cell.lst (c.map .str)])++[Cell.lst [.ref b.length]]).length=b.length+2:=by simp
 generalize (b++[Cell.lst (c.map .str)])++[Cell.lst [.ref b.length]]=o at *;have J:=H.get _ _ g2 (by simp)
 have L:=G.keep H (by simp)
 have hc:=gI J gb (by simp at S ⊢;exact bS (B' (M' S.symm) M))
 refine⟨f++[b.length],o.length,o++[.lst (f.map .ref++[.ref b.length])],?_,⟨?_,?_⟩,(Q.trans H).trans af.app,YN (Yw R (rP J)),?_,?_⟩
 .unfold Pr
  rw[ag,fQ,ez,F,au,e3,au,hc];rfl
 .simp
 .exact(L.snoc T).keep (fp:=[]) af.app (by simp)
 .intro y B
  rcases Yz.mp B with h|h
  .exact w y h
  .rw[W'.mp h];exact YN (Yw R (M' l2.symm))
 .intro h
  rcases Yz.mp h with h|h
  .have:=jl _ h;exact Yr _ (YV this (rP J))
  .have:=W'.mp h;exact Yr _ (Yw (M' this) (rP T))
theorem mO(h:S7∉A.map (·.1)):cX A S7 l=A++[(S7,l)]:=by
 unfold cX
 simp_all
theorem lr:∀(ps b:List (Key×D)),((b++ps).map (·.1)).Nodup->ps.foldl (λa p=>cX a p.1 p.2) b=b++ps
 |[],b,_=>by simp
 |p::ps,b,h=>by
  rw[List.foldl_cons,mO (by
   grind),lr ps _ (by simp_all)]
  simp
theorem BG{f:Str->D}(h:∀n∈g,∃j,f n=.ref j/\d0 j/\a[j]?=some (.lst ((ε n).map .str))):aH d0 a (g.map λn=>(.inr n,f n)) (aW g ε):=by
 induction g with
 |nil=>exact .nil
 |cons b g c=>exact .cons ⟨rfl,h b (by simp)⟩ (c λn d=>h n (by simp[d]))
variable{D3:Src}
theorem vl{f:Str->D}(h:y1 y a=.ok D3 a)(i:eI D3 a=some (g.map .str))(m:∀n∈g,t ([oS n]++dw I y) a=.ok (.tup [.str n,f n]) a)(j:g.length<=1000)(o:g.Nodup):
  ∃q aw,mN eS (ae (bK t true (aj .non) y1 0 I) ah) y a=.ok (.ref q) aw/\aw[q]?=some (.dK (g.map λn=>(.inr n,f n)))/\af [] a aw/\a.length<=q:=by
 have e:=cz (t:=t) (ν:=aj .non) (E:=true) (I:=I) (f7:=λd=>match d with|.str n=>.tup [.str n,f n]|d=>d) h i (λd _=>rfl) (λd p _=>by
  grind) (by simp;exact bS j)
 have k:((g.map D.str).filter λ_=>true).map (λd=>match d with|.str n=>D.tup [.str n,f n]|d=>d)=g.map λn=>.tup [.str n,f n]:=by
  rw[Zk.mpr (λ_ _=>rfl),Ys]
  rfl
 rw[k]at e;have l:(a++[Cell.lst (g.map λn=>.tup [.str n,f n])])[a.length]?=some _:=aq
 have c:af [] a (a++[Cell.lst (g.map λn=>.tup [.str n,f n])]):=af.app
 generalize a++[Cell.lst _]=b at *;refine⟨_,b++[.dK _],?_,aq,c.trans af.app,c.len⟩;rw[eV,a8,e,au,br,au]
 show kT _ _=_
 simp only[lO,av l,(lb (f:=sV) (g:=λn=>D.tup [.str n,f n]) (λn=>rfl) g),(lr (g.map λn=>((.inr n:Key),f n)) [] (by
  grind))]
 rfl
def Pt:=(mN (aX .all) (ae (bK (m2 (aI .In) (aa 0) (aa 1)) true (aj .non) (ba (m2 aL (aa 0) (aa 4))) 0 [2]) ah))
def VQ:=(mN eS (ae (bK (mN gU (ae (aa 0) (ae (m2 aL (aa 1) (aa 0)) ah))) true (aj .non) (ba (aa 0)) 0 [2]) ah))
theorem oj(h:a[b]?=some (.dK A))(c:A.length<=1000):lP (.ref b) (.str d) l a=some (a.set b (.dK (cX A (.inr d) l))):=by
 simp only[lP,h,uU];rw[if_pos (aP (by omega))]
def GC(x:Str):=1<=x.length/\x.length<=8/\∀c∈x.cps.toList,97<=c/\c<=122
theorem Iz:∀c,97<=c->c<=122->vY (bW c) "abcdefghijklmnopqrstuvwxyz"=true:=by
 have:∀i,i<26->vY (bW (97+i)) "abcdefghijklmnopqrstuvwxyz"=true:=by decide +kernel
 intro c a b;have:=this (c - 97) (by omega)
 simp_all
def inC:=(bK (m2 (aI .In) (aa 0) (aj (.str "abcdefghijklmnopqrstuvwxyz"))) true (aj .non) (ba (aa 0)) 0 [])
def Pu:=
 (ao (ei (kb (m1 (gV .str) (aa 0)))
 (ao (bY (aj (.bl false)))
 ak)
 ak)
 (ao (bY (nL (qZ .LtE .LtE (aj (.int 1)) (mN (aX .len) (ae (aa 0) ah)) (aj (.int 8))) (mN (aX .all) (ae inC ah))))
 ak))
def ID(c:a5):=∀b x,GC x->∃a,c [.str x] b=.ok (.bl true) a/\af [] b a
theorem MG:ID (bw 1 1 Pu):=by
 intro e x i;obtain⟨p,j,f⟩:=i;rw[bh (by rfl)]
 have k:a9 1 [D.str x]=[oS x]:=rfl;rw[k]
 have g:=cz (y:=[oS x]) (t:=m2 (aI .In) (aa 0) (aj (.str "abcdefghijklmnopqrstuvwxyz"))) (ν:=aj .non) (E:=true) (y1:=ba (aa 0)) (I:=[]) (f7:=λd=>.bl true) rfl rfl (λd _=>rfl) (λd l _=>by
  obtain⟨c,h,rfl⟩:=YG.mp l;have:=Iz c (f c h).1 (f c h).2
  show aI .In (.str (bW c)) (.str _) e=_
  simp[eP,inD,this]) (by
  have:x.cps.toList.length=x.length:=by rfl
  grind)
 have q:((x.cps.toList.map λc=>D.str (bW c)).filter λ_=>true).map (λ_=>D.bl true)=(x.cps.toList.map λ_=>true).map .bl:=by
  rw[Zk.mpr (λ_ _=>rfl),Ys,Ys]
  rfl
 have g:inC [oS x] e=.ok _ _:=g;have r:=xy (a:=e++[.lst ((x.cps.toList.map λ_=>true).map .bl)]) aq
 refine⟨e++[.lst ((x.cps.toList.map λ_=>true).map .bl)],?_,af.app⟩
 have m:(mN (aX .all) (ae inC ah)) [oS x] e=.ok (.bl true) (e++[.lst ((x.cps.toList.map λ_=>true).map .bl)]):=by
  simp_all
 have n:(qZ .LtE .LtE (aj (.int 1)) (mN (aX .len) (ae (aa 0) ah)) (aj (.int 8))) [oS x] e=.ok (.bl true) e:=by
  have s:aX .len [.str x] e=.ok (.int x.length) e:=by
   show q_ .len [.str x] e=_
   unfold q_;simp[aP (b:=x.length) (bS j)]
  have u:fv .LtE (.int 1) (.int x.length) e=.ok (.bl true) e:=by
   have:decide ((1:Int)<=x.length)=true:=by simp;omega
   simp_all
  have w:fv .LtE (.int x.length) (.int 8) e=.ok (.bl true) e:=by
   have:decide ((x.length:Int)<=8)=true:=by simp;omega
   simp_all
  unfold qZ
  simp_all
 have o:(ei (kb (m1 (gV .str) (aa 0))) (ao (bY (aj (.bl false))) ak) ak) [oS x] e=.nx [oS x] e:=by rfl
 unfold Pu;rw[ag,o,ay,ag,fQ,rl,n,au,cQ,Gw,m];rfl
def bN(P:Nat->Prop)(a)(h:Nat)(E)(L:Str->List Str):=
 ∃e l b c,a[h]?=some (.ins "House" [("elders",.ref e),("lines",.ref l)])/\bZ a e b/\aH P a b E/\bZ a l c/\aH P a c (aW (nms E) L)
theorem bN.keep{c aw h E P L}(H:bN P c h E L)(K:af [] c aw):bN P aw h E L:=by
 refine aY H λe l a b d f g i j=>⟨e,l,a,b,K.get _ _ d (by simp),f.keep K (by simp),g.keep K (by simp),i.keep K (by simp),j.keep K (by simp)⟩
theorem bN.imp{a h E P P' L}(H:bN P a h E L)(b:∀j,P j->P' j):bN P' a h E L:=by
 refine aY H λe l c d f g i k m=>⟨e,l,_,_,f,g,i.imp b,k,m.imp b⟩
theorem bN.lt{a h E P L}(H:bN P a h E L):bN (λj=>P j/\j<a.length) a h E L:=by
 refine aY H λe l b c d f g i k=>⟨e,l,_,_,d,f,g.lt,i,k.lt⟩
theorem bN.BH(H:bN d0 a s u ε)(K:af [b] a η)(c:a[b]?=some (.lst p))(o:¬ d0 b):bN d0 η s u ε:=by
 refine aY H λe l i k d f m g n=>?_
 have h:∀j∈[b],¬ d0 j:=λj q=>by simp_all
 exact⟨e,l,_,_,K.get _ _ d (by simpa using (λz=>by rw[z,c]at d;cases d)),f.keep K (by simpa using (λz=>f.nl _ (z▸c))),m.keep K h,g.keep K (by simpa using (λz=>g.nl _ (z▸c))),n.keep K h⟩
theorem BI(H:aH d0 a A (aW (nms u) ε)):A.length=u.length:=by
 have:=H.len;simp[aW,nms]at this
 simp_all
def fe:=(m1 (fV ["House"] "elders") (aa 0))
def Pw:=(m1 (fV ["House"] "lines") (aa 0))
variable{Θ:Nat}
theorem om(c:a[s]?=some (.ins "House" [("elders",.ref b),("lines",.ref Θ)])):fV ["House"] "elders" (.ref s) a=.ok (.ref b) a:=xl c rfl rfl
theorem GD(c:a[s]?=some (.ins "House" [("elders",.ref b),("lines",.ref Θ)])):fV ["House"] "lines" (.ref s) a=.ok (.ref Θ) a:=xl c rfl rfl
def Px:=(ao (bY (mN (aX .list) (ae fe ah))) ak)
def BJ(c:a5):=∀b h E L P,bN P b h E L->∃k a,c [.ref h] b=.ok (.ref k) a/\a[k]?=some (.lst ((nms E).map .str))/\af [] b a/\b.length<=k
theorem MH:BJ (bw 1 1 Px):=by
 intro a h E L P H;refine aY H λe l c d f g i j k=>?_
 rw[bh (by rfl)]
 have m:a9 1 [D.ref h]=[oR h]:=rfl;have b:=BE g;rw[i.keys]at b;refine⟨_,a++[.lst _],?_,aq,af.app,XZ _⟩
 have:(mN (aX .list) (ae fe ah)) [oR h] a=.ok (.ref a.length) (a++[.lst ((nms E).map .str)]):=by
  show(((fV _ _ _ a).bind _).bind _)=_
  rwa[om f]
 unfold Px
 simp_all
variable{H:a5}{J0:AM}
theorem dE(c:bN d0 a b u ε)(j:y[s]?=some (oR b))(k:([("elders",D.ref 0),("lines",D.ref 0)]:List (Str×D)).lookup d=none):bq "House" d H (aa s) J0 y a=(J0 y a).bind λxs f=>th (H (.ref b::xs) f):=by
 refine aY c λe l g h i m n o p=>?_
 refine Fb (by simp_all) i ?_
 simp_all
def Py(a):=
 (ao (ei (m2 (aI .NotIn) (aa 1) (bq "House" "kinds" a (aa 0) ah))
 (ao dz
 ak)
 ak)
 ak)
def vm(c:a5):=∀b h E L P n,bN P b h E L->n∈nms E->∃a,c [.ref h,.str n] b=.ok .non a/\af [] b a
theorem MI(e:BJ H):vm (bw 2 2 (Py H)):=by
 intro c h E L P n a j;rw[bh (by rfl)]
 have l:a9 2 [D.ref h,.str n]=[oR h,oS n]:=rfl;refine a6 (e c h E L P a) λk b f g m _=>?_
 have o:bq "House" "kinds" H (aa 0) ah [oR h,oS n] c=.ok (.ref k) b:=by
  rw[dE a rfl (by decide),br,au,f,Il]
 have i:=ky (d:=n) g;unfold Py
 simp_all
def RS(a):=(ao (cG (bq "House" "check_kind" a (aa 0) (ae (aa 3) ah)))
 (ao (ei (m2 (aI .In) (aa 3) (du (aa 1) true (aj .non) false (aa 2)))
 (ao dz
 ak)
 ak)
 ak))
def Pz(a):=
 (ao (ei (m2 (aI .Gt) (mN (aX .len) (ae (aa 1) ah)) (aj (.int 5)))
 (ao dz
 ak)
 ak)
 (ao (ed (eH [2,3]) (sX (aa 1))
 (RS a))
 ak))
def Ff(CE:a5):=∀c h a E L P (r:List Str),bN P c h E L->c[a]?=some (.lst (r.map .str))->r.Nodup->r.length<=5->(∀x∈r,x∈nms E)->∃b,CE [.ref h,.ref a] c=.ok .non b/\af [] c b
theorem IE(j:vm H)(c:bN d0 a b u ε)(k:a[s]?=some (.lst (g.map .str)))(l:g[Θ]?=some d)(m:g.Nodup)(n:d∈nms u):
  ∃aw,RS H [oR b,oR s,oI Θ,oS d] a=.nx [oR b,oR s,oI Θ,oS d] aw/\af [] a aw:=by
 obtain⟨e,w,i⟩:=j a b u ε d0 d c n
 have x:bq "House" "check_kind" H (aa 0) (ae (aa 3) ah) [oR b,oR s,oI Θ,oS d] a=.ok .non e:=by
  rw[dE c rfl (by decide)]
  simp_all
 have o:=rE (s:=Θ) (i.get _ _ k (by simp))
 have p:(e++[Cell.lst ((g.take Θ).map .str)])[e.length]?=some _:=aq;have y:af [] a (e++[Cell.lst ((g.take Θ).map .str)]):=i.trans af.app;have q:=n_ (d:=d) p
 have r:d∉g.take Θ:=by
  intro t;obtain⟨z,f⟩:=YL.mp t;have h:=(Yn.mp f).1;rw[Zq]at h;rw[ĥ (U' h (ņ _ _))]at f;have:=(ê (rP f) m).mp (f.trans l.symm);exact Yr _ (Yw (M' this.symm) (U' h (ņ _ _)))
 unfold RS
 simp_all
theorem MJ(s:vm H):Ff (bw 4 2 (Pz H)):=by
 intro b h a E L P r c j t u w;rw[bh (by rfl)]
 have y:a9 4 [D.ref h,.ref a]=[oR h,oR a,none,none]:=rfl;rw[y]
 have z:(ei (m2 (aI .Gt) (mN (aX .len) (ae (aa 1) ah)) (aj (.int 5))) (ao dz ak) ak) [oR h,oR a,none,none] b=.nx [oR h,oR a,none,none] b:=by
  have f:=iG j;rw[Yj]at f;rw[cF,ez];have:(mN (aX .len) (ae (aa 1) ah)) [oR h,oR a,none,none] b=.ok _ b:=f;rw[this,au,gF,au]
  have:aI .Gt (.int r.length) (.int 5) b=.ok (.bl false) b:=by
   simp[eP];omega
  rw[this];rfl
 have k:sX (aa 1) [oR h,oR a,none,none] b=.ok (.OH (.ref a)) b:=by
  unfold sX;simp[av j]
 unfold Pz;rw[ag,z,ay,ag,cJ,k]
 refine bQ (R:=λr=>∃g,fE (sq r _)=.ok _ g/\af [] b g) (p:=fk 0 (r.map .str))
  (λi l e=>∃n o,l=[oR h,oR a,n,o]/\af [] b e) ?_ ?_ ?_ _ 0 _ _ (by rw[jU];unfold fuel;simp;exact kG u) (Yh _) ⟨_,_,rfl,af.refl⟩
 .rintro i l e ⟨_,_,_,K⟩
  show(h9 _ (.ref a)).map _=_
  rw[az,av (K.get _ _ j (by simp))];rfl
 .rintro i d l e A ⟨n,o,rfl,K⟩
  obtain⟨G,m,rfl⟩:=my _ 0 i d A;obtain⟨x,q,rfl⟩:=fW m;rw[abA];refine⟨[oR h,oR a,oI i,oS x],rfl,?_⟩;obtain⟨B,C,F⟩:=IE s (c.keep K) (K.get _ _ j (by simp)) q t (w x (Yf q))
  rw[C];exact⟨_,_,rfl,K.trans F⟩
 .simp
def PB(a):=
 (ao (cG (bq "House" "check_kind" a (aa 0) (ae (aa 1) ah)))
 (ao (bY (mN (aX .list) (ae (m2 aL Pw (aa 1)) ah)))
 ak))
def IF(c:a5):=∀b h E L P n,bN P b h E L->n∈nms E->∃k a,c [.ref h,.str n] b=.ok (.ref k) a/\a[k]?=some (.lst ((L n).map .str))/\af [] b a/\b.length<=k
theorem MK(k:vm H):IF (bw 2 2 (PB H)):=by
 intro g h E L P n b c;rw[bh (by rfl)]
 have m:a9 2 [D.ref h,.str n]=[oR h,oS n]:=rfl;rw[m];refine bc (k g h E L P n b c) λa u d=>?_
 have w:bq "House" "check_kind" H (aa 0) (ae (aa 1) ah) [oR h,oS n] g=.ok .non a:=by
  rw[dE b rfl (by decide)]
  simp_all
 refine aY (b.keep d) λe l o p q x y r s=>?_
 refine bx (s.at (n:=n) (by rw[aU];exact c)) λj t _ i=>?_
 rw[eO c]at i;have f:=bB i;refine⟨a.length,a++[.lst _],?_,aq,d.trans af.app,d.len⟩
 have:(mN (aX .list) (ae (m2 aL Pw (aa 1)) ah)) [oR h,oS n] a=.ok (.ref a.length) (a++[.lst ((L n).map .str)]):=by
  show((((fV ["House"] "lines" (.ref h) a).bind _).bind _).bind _)=_
  rw[GD q,au]
  show(((aL (.ref l) (.str n) a).bind _).bind _)=_
  rw[ej r t];exact f
 unfold PB
 simp_all
variable{M5:List (Str×D)}{ν:EM}
theorem iI(c:ν y a=.ok l η)(e:t y η=.ok (.ref b) η)(f:η[b]?=some (.ins "House" M5))(g:M5.length<1000):eU ["House"] d t ν y a=.nx y (η.set b (.ins "House" (ti d l M5))):=by
 unfold eU;rw[c,cy,e,cy,rC f]
 simp_all
def ML:=
 (ao (eU ["House"] "elders" (aa 0) dg)
 (ao (eU ["House"] "lines" (aa 0) dg)
 ak))
def Fg(c):=∀b L P,∃a,rg "House" c [] b=.ok (.ref b.length) a/\bN P a b.length [] L/\af [] b a
theorem MM:Fg (bw 1 1 ML):=by
 intro c L P;have j:(c++[Cell.ins "House" []])[c.length]?=some _:=aq;have k:af [] c (c++[Cell.ins "House" []]):=af.app;have l:(c++[Cell.ins "House" []]).length=c.length+1:=by simp
 unfold rg;generalize c++[Cell.ins _ []]=a at *;rw[bh (by rfl)]
 have m:a9 1 [D.ref _]=[oR c.length]:=rfl;rw[m];have f:(a++[Cell.dK []])[c.length]?=some _:=eD j;have r:eU _ _ (aa 0) dg _ _=.nx [oR _] ((a++[Cell.dK []]).set _ (.ins _ [("elders",.ref _)])):=iI rfl rfl f (by simp)
 have g:=aK (e:=.ins "House" [("elders",.ref a.length)]) f;have n:af [c.length] _ ((a++[Cell.dK []]).set c.length (.ins "House" [("elders",.ref a.length)])):=af.app.trans (af.set (by simp))
 have o:((a++[Cell.dK []]).set c.length (.ins "House" [("elders",.ref a.length)]))[a.length]?=some _:=cK aq (Ym (M' l.symm));have s:((a++[Cell.dK []]).set c.length (.ins "House" [("elders",.ref a.length)])).length=a.length+1:=by simp
 generalize (a++[Cell.dK []]).set _ _=b at *;have h:(b++[Cell.dK []])[c.length]?=some _:=eD g;have t:eU _ "lines" (aa 0) dg _ _=.nx [oR _] ((b++[Cell.dK []]).set _ (.ins _ [("elders",.ref _),("lines",.ref _)])):=iI rfl rfl h (by simp)
 have p:=aK (e:=.ins "House" [("elders",.ref a.length),("lines",.ref b.length)]) h;have i:af [c.length] _ ((b++[Cell.dK []]).set c.length (.ins "House" [("elders",.ref a.length),("lines",.ref b.length)])):=af.app.trans (af.set (by simp))
 have q:((b++[Cell.dK []]).set c.length (.ins "House" [("elders",.ref a.length),("lines",.ref b.length)]))[b.length]?=some _:=cK aq (Ym (rP g));generalize (b++[Cell.dK []]).set _ _=d at *;refine⟨_,?_,⟨_,_,[],[],p,.inl (i.get _ _ o (by simp_all)),.nil,.inl q,.nil⟩,af.new k (n.trans i) (by simp)⟩
 have:fE (ML [oR c.length] a)=.ok .non d:=by
  unfold ML
  simp_all
 rw[this]
def GF(d:a5):=∀b h e f g c E P L,b[h]?=some (.ins "House" [("elders",.ref f),("lines",.ref g)])->bZ b e c->aH P b c E->Gd E->ME E L->(∀n∈nms E,(L n).length<=900)->(∀j,b.length<=j->P j) ->
 ∃a,d [.ref h,.ref e] b=.ok .non a/\bN P a h E L/\af [h,e] b a
def MN:=(mN gU (ae (aa 0) (ae (HZ (m2 (aI .Eq) (aa 0) (aa 2)) (mN (aX .list) (ae (aa 1) ah)) (m2 aL (m1 (fV ["House"] "elders") (aa 3)) (aa 0))) ah)))
def RT:=(mN eS (ae (bK MN true (aj .non) (ba (aa 4)) 0 [2,1,0]) ah))
def RU:=(dv jr iy (aa 4) (ae (HZ (m2 (aI .Is) (aa 3) (aj .non)) (mN (aX .len) (ae (aa 4) ah)) (aa 3)) (ae (aa 1) ah)))
def PC(a CE b c):=
 (ao (ei (kb (mN (aQ a) (ae (aa 1) ah)))
 (ao dz
 ak)
 ak)
 (ao (ei (m2 (aI .In) (aa 1) fe)
 (ao dz
 ak)
 ak)
 (ao (ei (m2 (aI .GtE) (mN (aX .len) (ae fe ah)) (aj (.int 12)))
 (ao dz
 ak)
 ak)
 (ao (cG (bq "House" "check_elders" CE (aa 0) (ae (aa 2) ah)))
 (ao (aA 4 (bq "House" "kinds" b (aa 0) ah))
 (ao (cG RU)
 (ao (cG (bq "House" "settle" c (aa 0) (ae RT ah)))
 ak)))))))
theorem BK{a xs}{x:a}:qJ xs xs.length x=xs++[x]:=by
 have:HT.jP xs.length 0 (some (xs.length))=xs.length:=by
  unfold HT.jP;simp
  grind
 unfold qJ
 simp_all
variable{χ:Option D}
theorem IG(H:bN d0 a b u ε)(X:a[s]?=some (.lst (g.map .str)))(hk:a[Θ]?=some (.lst ((nms u++[d]).map .str)))(hn:d∉nms u)(M:(nms u).Nodup)(hl:u.length<=100)(hP:∀j,a.length<=j->d0 j):
  ∃q A aw,RT [oR b,oS d,oR s,χ,oR Θ] a=.ok (.ref q) aw/\aw[q]?=some (.dK A)/\aH d0 aw A (u++[(d,g)])/\af [] a aw/\a.length<=q:=by
 have Y:ba (aa 4) [oR b,oS d,oR s,χ,oR Θ] a=.ok (.seq (.ref Θ)) a:=by
  rw[cA];exact aM (by rw[az,av hk])
 have Z:nms (u++[(d,g)])=nms u++[d]:=by simp[nms]
 refine cE (mK (y:=[oR b,oS d,oR s,χ,oR Θ]) (t:=MN) (ν:=aj .non) (I:=[2,1,0]) (p:=(nms u++[d]).map .str) (λi B c=>∃k:List (Str×D),B=k.map (λp=>.tup [.str p.1,p.2])/\aH d0 c (k.map λp=>(.inr p.1,p.2)) ((u++[(d,g)]).take i)/\af [] a c) Y ⟨[],rfl,.nil,af.refl⟩
  (λi B c b=>by
   obtain⟨_,_,_,K⟩:=b;rw[bC,az,av (K.get _ _ hk (by simp))])
  (λi a0 B c b0 hI=>by
   obtain⟨k,rfl,N,K⟩:=hI;obtain⟨x,O,rfl⟩:=fW b0;refine aY (H.keep K) λe l A n0 q1 q2 q3 q4 q5=>?_;have c0:=K.get _ _ X (by simp)
   show ∃y aw,MN [oS x,oR s,oS d,oR b] c=.ok y aw/\_
   have P:∀(p:Str×List Str) (j:Nat) (o:aG),(u++[(d,g)])[i]?=some p->p.1=x->d0 j->o[j]?=some (.lst (p.2.map .str))->af [] c o->∃m:List (Str×D),(k.map (λp=>D.tup [.str p.1,p.2])++[.tup [.str x,.ref j]])=m.map (λp=>.tup [.str p.1,p.2])/\aH d0 o (m.map λp=>(.inr p.1,p.2)) ((u++[(d,g)]).take (i+1))/\af [] a o:=by
    intro p j o hp C E T K3;refine⟨k++[(x,.ref j)],by simp,?_,K.trans K3⟩
    rw[YM,hp,YX];exact aJ.append (N.keep K3 (by simp)) (.cons ⟨by rw[C],j,rfl,E,T⟩ .nil)
   have U:(m2 (aI .Eq) (aa 0) (aa 2)) [oS x,oR s,oS d,oR b] c=.ok (.bl (decide (x=d))) c:=by
    rfl
   have hi:=(Yn.mp O).1;rw[Č]at hi;simp only[nms,Yj,List.length_singleton]at hi
   by_cases F:i<u.length
   .have w:(nms u)[i]?=some x:=by rw[YU (by simp[nms];exact F)]at O;exact O
    have G:x∈nms u:=Yf w;have J:x≠d:=λz=>hn (z▸G)
    rw[decide_eq_false J]at U;have hp:(u++[(d,g)])[i]?=some u[i]:=by rw[YU F];simp
    have C:u[i].1=x:=by
     simp[nms,F]at w;exact w
    have Q:aN u x=u[i].2:=by
     have hm:(x,aN u x)∈u:=rG (jA G);obtain⟨i',R⟩:=YL.mp hm;have e1:(nms u)[i']?=some x:=by simp[nms,R]
     have e0:=(Yn.mp R).1;have:=(ê (by simp[nms];exact e0) M).mp (e1.trans w.symm)
     simp_all
    refine bx (q3.at G) λj hv E T=>?_;rw[Q]at T;refine bx (P u[i] j c hp C E T af.refl) λm z1 z2 z3=>?_;refine⟨.tup [.str x,.ref j],c,?_,m,z1,z2,z3⟩
    have L:(m2 aL (m1 (fV ["House"] "elders") (aa 3)) (aa 0)) [oS x,oR s,oS d,oR b] c=.ok (.ref j) c:=by
     show((fV ["House"] "elders" (.ref b) c).bind _)=_
     rw[om q1,au];exact ej q2 hv
    unfold MN;rw[eV,a8];have:aa 0 [oS x,oR s,oS d,oR b] c=.ok (.str x) c:=rfl;rw[this,au,a8,vd,U,dN,cQ,eA,au,if_neg (by simp),L,au,br,au,au,au,kx,if_pos (aP (by simp))]
   .have f0:i=u.length:=by omega
    subst f0
    have J:x=d:=by
     simp[nms]at O;exact O.symm
    subst J;rw[decide_eq_true rfl]at U;have g0:=bB c0;refine bx (P (x,g) c.length (c++[.lst (g.map .str)]) (by simp) rfl (hP _ K.len) aq af.app) λm z1 z2 z3=>?_
    refine⟨.tup [.str x,.ref c.length],c++[.lst (g.map .str)],?_,m,z1,z2,z3⟩;have L:(mN (aX .list) (ae (aa 1) ah)) [oS x,oR s,oS x,oR b] c=.ok (.ref c.length) (c++[.lst (g.map .str)]):=g0;unfold MN;rw[eV,a8];have:aa 0 [oS x,oR s,oS x,oR b] c=.ok (.str x) c:=rfl;rw[this,au,a8,vd,U,dN,cQ,eA,au,if_pos rfl,L,au,br,au,au,au,kx,if_pos (aP (by simp))]) (by simp[nms];exact bS hl)) λys n e1 h0=>bx h0 λk i0 N K1=>?_;subst i0
 have S:((nms u++[d]).map D.str).length=(u++[(d,g)]).length:=by simp[nms]
 rw[S,YQ]at N
 have j0:k.map (·.1)=nms u++[d]:=by
  have:=N.keys;rw[Z,Ys]at this
  have V:(k.map (D.str ∘ (·.1)))=(nms u++[d]).map D.str:=by
   rw[←this];rfl
  rw[←Ys]at V;exact(Ϡ (λs r z=>by cases z;rfl)).mp V
 have g2:(n++[Cell.lst (k.map λp=>.tup [.str p.1,p.2])])[n.length]?=some (.lst (k.map λp=>.tup [.str p.1,p.2])):=aq
 have K2:af [] a (n++[Cell.lst (k.map λp=>.tup [.str p.1,p.2])]):=K1.trans af.app
 have V:aH d0 (n++[Cell.lst (k.map λp=>.tup [.str p.1,p.2])]) (k.map λp=>(.inr p.1,p.2)) (u++[(d,g)]):=N.keep (fp:=[]) af.app (by simp)
 generalize n++[Cell.lst (k.map λp=>.tup [.str p.1,p.2])]=c at *
 have hf:=lr (k.map λp=>((.inr p.1:Key),p.2)) [] (by
  rw[ķ,Ys];have:(k.map ((λp:Key×D=>p.1) ∘ λp=>((.inr p.1:Key),p.2)))=(k.map (·.1)).map Y9:=by rw[Ys];rfl
  rw[this,j0];have l0:(nms u++[d]).Nodup:=Zt.mpr ⟨M,by simp,λs X r hb z=>hn (by rw[←W'.mp hb,←z];exact X)⟩
  exact adk _ (λs r m0 z=>m0 (by cases z;rfl)) l0)
 rw[ķ]at hf;refine⟨c.length,_,c++[.dK (k.map λp=>(.inr p.1,p.2))],?_,aq,V.keep (fp:=[]) af.app (by simp),K2.trans af.app,K2.len⟩
 unfold RT;rw[eV,a8,e1,au,br,au,au]
 show kT (lO [.ref n.length] c) _=_
 simp only[lO,av g2,(lb (f:=sV) (g:=λp:Str×D=>D.tup [.str p.1,p.2]) (h:=λp=>(.inr p.1,p.2)) (λd=>rfl) k),hf]
 rfl
def Fh(e:a5):=∀c h a E L d P n r,bN P c h E L->c[a]?=some (.lst (r.map .str))->GC n->n∉nms E->E.length<12->r.Nodup->r.length<=5->(∀x∈r,x∈nms E) ->
 Gd (E++[(n,r)])->ME (E++[(n,r)]) d->(∀m∈nms (E++[(n,r)]),(d m).length<=900)->(∀j,c.length<=j->P j)->∃b,e [.ref h,.str n,.ref a,.non] c=.ok .non b/\bN P b h (E++[(n,r)]) d/\af [h] c b
variable{X5 Y7 y2:a5}
theorem MO(hI:ID H)(hC:Ff y2)(hK:BJ X5)(hS:GF Y7):Fh (bw 5 4 (PC H y2 X5 Y7)):=by
 intro B h a E L L' P n r m K hv hn C M N O G Q R hP;rw[bh (by rfl)]
 have e0:a9 5 [D.ref h,.str n,.ref a,.non]=[oR h,oS n,oR a,some .non,none]:=rfl;rw[e0];have S:nms (E++[(n,r)])=nms E++[n]:=by simp[nms]
 refine bc (hI B n hv) λb e1 u=>?_
 have r1:(ei (kb (mN (aQ H) (ae (aa 1) ah))) (ao dz ak) ak) [oR h,oS n,oR a,some .non,none] B=.nx [oR h,oS n,oR a,some .non,none] b:=by simp[e1]
 have w:=m.keep u
 have r2:(ei (m2 (aI .In) (aa 1) fe) (ao dz ak) ak) [oR h,oS n,oR a,some .non,none] b=.nx [oR h,oS n,oR a,some .non,none] b:=by
  refine aY w λe l g T x F I q4 q5=>?_
  have y:=vh (d:=n) F;rw[I.is,decide_eq_false hn]at y;rw[cF,ez]
  show cx (dr ((fV ["House"] "elders" (.ref h) b).bind _)) _=_
  rw[om x,au,y];rfl
 have r3:(ei (m2 (aI .GtE) (mN (aX .len) (ae fe ah)) (aj (.int 12))) (ao dz ak) ak) [oR h,oS n,oR a,some .non,none] b=.nx [oR h,oS n,oR a,some .non,none] b:=by
  refine aY w λe l g T x F I q4 q5=>?_
  have z:=xu F;have U:=I.len
  have V:(mN (aX .len) (ae fe ah)) [oR h,oS n,oR a,some .non,none] b=.ok (.int g.length) b:=by
   show(((fV ["House"] "elders" (.ref h) b).bind _).bind _)=_
   rw[om x,au];exact z
  have hc:aI .GtE (.int g.length) (.int 12) b=.ok (.bl false) b:=by
   simp[eP];exact Qv (Yw (M' U.symm) C)
  rw[cF,ez,V,au,gF,au,hc];rfl
 refine bc (hC b h a E L P r w (u.get _ _ K (by simp)) M N O) λo e2 J=>?_
 have r4:(cG (bq "House" "check_elders" y2 (aa 0) (ae (aa 2) ah))) [oR h,oS n,oR a,some .non,none] b=.nx [oR h,oS n,oR a,some .non,none] o:=by
  rw[cf,dE w rfl (by decide)]
  simp_all
 have X:=w.keep J;refine a6 (hK o h E L P X) λk f e3 t K3 Y=>?_
 have r5:(aA 4 (bq "House" "kinds" X5 (aa 0) ah)) [oR h,oS n,oR a,some .non,none] o=.nx [oR h,oS n,oR a,some .non,oR k] f:=by
  rw[bg,dE X rfl (by decide),br,au,e3]
  rfl
 have H3:bN (λj=>P j/\j≠k) f h E L:=(X.lt.keep K3).imp λj i=>⟨i.1,N' (U' i.2 Y)⟩
 have A:=(u.trans J).trans K3;have Z:=A.get _ _ K (by simp)
 have a0:a≠k:=by have:=bf (J.get _ _ (u.get _ _ K (by simp)) (by simp));exact N' (U' this Y)
 have r6:(cG RU) [oR h,oS n,oR a,some .non,oR k] f=.nx [oR h,oS n,oR a,some .non,oR k] (f.set k (.lst ((nms E++[n]).map .str))):=by
  have Q:=di t;have z:=iG t
  have j0:iy (.ref k) [.int ((nms E).map D.str).length,.str n] f=.ok .non (f.set k (.lst ((nms E++[n]).map .str))):=by
   simp only[iy,ku t];rw[if_pos,BK]
   .simp
   .rw[aP (by simp[nms];exact KG C),ft (ZQ _) (by simp[nms];exact Qv C)];rfl
  unfold RU;rw[cf,eg (l:=.ref k) (η:=f) rfl Q]
  simp_all
 have K4:af [k] f (f.set k (.lst ((nms E++[n]).map .str))):=af.set (by simp)
 have g4:=aK (e:=.lst ((nms E++[n]).map .str)) t;have H4:=(H3.BH K4 t (by simp)).imp λj i=>i.1
 have b0:=K4.get _ _ Z (by simpa using a0)
 have lk:=bf t;generalize f.set k _=c0 at *
 have p:af [] B c0:=af.new A K4 (λj i=>by
  rw[W'.mp i];have:=(u.trans J).len;exact B' this Y)
 refine dk (IG (χ:=some .non) H4 b0 g4 hn (by
  have:=G.nd;rw[S]at this;exact(Zt.mp this).1) (KG C) (λj i=>hP j (B' p.len i))) λq g d0 e5 g5 h5 K5 l5=>?_
 refine aY (H4.keep K5) λe l h0 i0 x F I q4 q5=>?_
 have s:=p.trans K5;refine bx (hS d0 h q e l g (E++[(n,r)]) P L' x (.inl g5) h5 G Q R (λj i=>hP j (B' s.len i))) λf0 e6 H6 K6=>?_
 have lq:B.length<=q:=B' p.len l5;refine⟨f0,?_,H6,⟨B' s.len K6.len,λk' c g0 l0=>K6.get k' c (s.get k' c g0 (by simp)) ?_⟩⟩
 .unfold PC
  rw[ag,r1,ay,ag,r2,ay,ag,r3,ay,ag,r4,ay,ag,r5,ay,ag,r6,ay,ag,cf,dE H4 rfl (by decide),a8,e5,au,br,au,au,e6]
  rfl
 grind
def PD(a):=
 (ao (aA 1 (mN (rg "House" a) ah))
 (ao (eU ["House"] "elders" (aa 1) (mN eS (ae fe ah)))
 (ao (eU ["House"] "lines" (aa 1) (mN eS (ae Pw ah)))
 (ao (bY (aa 1))
 ak))))
def IH(c:a5):=∀b h E L P,bN P b h E L->∃k a,c [.ref h] b=.ok (.ref k) a/\bN P a k E L/\af [] b a/\b.length<=k
theorem MP(F:Fg H):IH (bw 2 1 (PD H)):=by
 intro c h E L P g;rw[bh (by rfl)]
 have T:a9 2 [D.ref h]=[oR h,none]:=rfl;refine bx (F c L P) λa U G y=>?_
 refine aY (g.keep y) λe l d f A I J B K=>?_
 refine aY G λV i _ _ p _ _ _ _=>?_
 have M:h<c.length:=by
  refine eX g λ_ _ _ _ z _=>?_
  exact bf z
 have r:af [] a (a++[Cell.dK d]):=af.app
 have X:eU ["House"] "elders" (aa 1) (mN eS (ae fe ah)) [oR h,oR c.length] a=.nx [oR h,oR c.length] ((a++[Cell.dK d]).set c.length (.ins "House" [("elders",.ref a.length),("lines",.ref i)])):=by
  refine iI ?_ rfl (r.get _ _ p (by simp)) (by simp)
  show(((fV ["House"] "elders" (.ref h) a).bind _).bind _)=_
  rw[om A,au];exact(oh I)
 have k:af [c.length] a ((a++[Cell.dK d]).set c.length (.ins "House" [("elders",.ref a.length),("lines",.ref i)])):=(cD.up r).trans (af.set (by simp))
 have C:=aK (e:=.ins "House" [("elders",.ref a.length),("lines",.ref i)]) (r.get _ _ p (by simp))
 have GG:=bf p;have N:((a++[Cell.dK d]).set c.length (.ins "House" [("elders",.ref a.length),("lines",.ref i)]))[a.length]?=some (.dK d):=cK aq (Ym GG);have O:((a++[Cell.dK d]).set c.length (.ins "House" [("elders",.ref a.length),("lines",.ref i)])).length=a.length+1:=by simp
 generalize (a++[Cell.dK d]).set c.length _=b at *;have m:∀j∈[c.length],∀n,a[j]?≠some (.lst n):=λj Q n=>by simp_all
 have s:=B.keep k (by simpa using (λz=>B.ni _ _ (z▸p)))
 have t:=J.bV k m;have u:=K.bV k m;have w:af [] b (b++[Cell.dK f]):=af.app
 have Y:eU ["House"] "lines" (aa 1) (mN eS (ae Pw ah)) [oR h,oR c.length] b=.nx [oR h,oR c.length] ((b++[Cell.dK f]).set c.length (.ins "House" [("elders",.ref a.length),("lines",.ref b.length)])):=by
  refine iI ?_ rfl (w.get _ _ C (by simp)) (by simp)
  show(((fV ["House"] "lines" (.ref h) b).bind _).bind _)=_
  rw[GD (k.get _ _ A (by simp;exact N' M)),au]
  exact(oh s)
 have q:af [c.length] b ((b++[Cell.dK f]).set c.length (.ins "House" [("elders",.ref a.length),("lines",.ref b.length)])):=(cD.up w).trans (af.set (by simp))
 have R:=aK (e:=.ins "House" [("elders",.ref a.length),("lines",.ref b.length)]) (w.get _ _ C (by simp))
 have S:((b++[Cell.dK f]).set c.length (.ins "House" [("elders",.ref a.length),("lines",.ref b.length)]))[b.length]?=some (.dK f):=cK aq (Ym (YV GG (M' O.symm)));generalize (b++[Cell.dK f]).set c.length _=x at *;have o:∀j∈[c.length],∀n,b[j]?≠some (.lst n):=λj Q n=>by simp_all
 refine⟨c.length,x,?_,⟨a.length,b.length,d,f,R,.inl (q.get _ _ N (by simp;exact Ym GG)),t.bV q o,.inl S,u.bV q o⟩,af.new y (k.trans q) (by simp),XZ _⟩
 unfold PD
 simp_all
noncomputable def ne(rs:List (List Str)):=rs.filter λr=>decide (r≠[])
variable{M:List (List Str)}
theorem jC:g∈ne M↔g∈M/\g≠[]:=by unfold ne;simp
theorem yX:freeOf (ne M) g=freeOf M g:=by
 cases g with
 |nil=>rfl
 |cons m t=>
  by_cases h:∃r∈M,m∈r.tail
  .obtain⟨r,a,b⟩:=h
   rw[ec ⟨r,a,b⟩,ec ⟨r,jC.mpr ⟨a,by grind⟩,b⟩]
  .rw[dq h,dq]
   rintro⟨r,a,b⟩;exact h ⟨r,(jC.mp a).1,b⟩
theorem Fi:free (ne M)=free M:=by
 have:∀b,(ne b).findSome? (freeOf (ne M))=b.findSome? (freeOf M):=by
  intro b
  induction b with
  |nil=>rfl
  |cons a b c=>
   by_cases d:a=[]
   .subst d
    have:ne ([]::b)=ne b:=by simp[ne]
    rw[this,c];rfl
   .have:ne (a::b)=a::ne b:=by simp[ne,d]
    rw[this,abE,abE,c,yX]
 exact this M
theorem tP(h:d∉g.tail):g.filter (λx=>decide (x≠d))=cB d g:=by
 unfold cB;cases g with
 |nil=>simp
 |cons a t=>
  have b:t.filter (λx=>decide (x≠d))=t:=Zk.mpr (by grind)
  grind
theorem Fj:ne ((ne M).map (cB d))=ne (M.map (cB d)):=by
 unfold ne
 induction M with
 |nil=>rfl
 |cons a M b=>
  by_cases c:a=[]
  .subst c
   exact b
  grind
theorem yY(h:free M=some d):∀r∈M,d∉r.tail:=by
 obtain⟨b,e,a⟩:=ϗ h;cases b with
 |nil=>cases a
 |cons m t=>
  by_cases c:∃r∈M,m∈r.tail
  .rw[ec c]at a;cases a
  .rw[dq c]at a
   simp_all
theorem iJ(h:free M=some d):∃t,(d::t)∈M:=by
 obtain⟨b,e,a⟩:=ϗ h;cases b with
 |nil=>cases a
 |cons m t=>
  by_cases c:∃r∈M,m∈r.tail
  .rw[ec c]at a;cases a
  .rw[dq c]at a
   grind
noncomputable def tl(rs:List (List Str)):=(rs.map ZY).sum
theorem xB(h:∃t,(d::t)∈M):tl (M.map (cB d))<tl M:=by
 obtain⟨t,e⟩:=h
 have g:∀r,(cB d r).length<=r.length:=λr=>by
  unfold cB;split
  .simp
  .simp
 have f:∀b,tl (b.map (cB d))<=tl b:=by
  intro b
  induction b with
  |nil=>simp
  |cons a b c=>
   unfold tl at c ⊢
   grind
 induction M with
 |nil=>simp at e
 |cons a M c=>
  unfold tl at f c ⊢;simp only[Za,ŀ];rcases Yo.mp e with z|z
  .subst z
   have i:=f M;have:(cB d (d::t)).length<(d::t).length:=by unfold cB;simp
   omega
  grind
variable{E:Bool}
theorem II(I:Nat->List D->aG->Prop)(j:∀i a b,I i a b->eI D3 b=some p)(m:∀i d a b,p[i]?=some d->I i a b->(∃aw,gh E t ([some d]++y) b=.ok false aw/\I (i+1) a aw)\/∃e c aw,gh E t ([some d]++y) b=.ok true e/\ν ([some d]++y) e=.ok c aw/\I (i+1) (a++[c]) aw):
  ∀f i a b,I i a b->p.length - i<f->i<=p.length->a.length+p.length<=100000+i->∃h aw,pO E t ν 0 y D3 f i a b=.ok h aw/\I p.length h aw:=by
 intro f
 induction f with
 |zero=>simp
 |succ f n=>
  intro i a b k o q r;simp only[pO,j i _ b k]
  by_cases g:i<p.length
  .rw[(YW g)]
   have l:nR 0 p[i]=some _:=rfl;simp only[l];rw[if_pos (aP (by omega))]
   grind
  grind
theorem xC(b:Nat->List D->aG->Prop)(o:y1 y a=.ok D3 η)(k:b 0 [] η)(l:∀i c a,b i c a->eI D3 a=some p)(m:∀i d c a,p[i]?=some d->b i c a->(∃η,gh E ν ([some d]++dw I y) a=.ok false η/\b (i+1) c η)\/∃g e η,gh E ν ([some d]++dw I y) a=.ok true g/\t ([some d]++dw I y) g=.ok e η/\b (i+1) (c++[e]) η)(j:p.length<=90000):
  ∃h f,bK t E ν y1 0 I y a=.ok (.ref f.length) (f++[.lst h])/\b p.length h f:=by
 refine cE (II b l m fuel 0 [] _ k (by unfold fuel;exact kG (B' (YZ _ _) j)) (Yh _) (by simp;exact bS j)) λh f q n=>?_
 refine⟨h,_,?_,n⟩;unfold bK
 simp_all
variable{z8:List Nat}
theorem lu{f p}{P:Nat->Prop}(F:y1 y a=.ok (.seq (.ref b)) a)(R:Rw a b I M)(G:M.length<=1000)(H:∀j g k,af [] a k->j∈I->g∈M->k[j]?=some (.lst (g.map .str))->∃c,gh E ν ([oR j]++dw z8 y) k=.ok (p g) c/\af [] k c)(J:∀j g k,af [] a k->j∈I->g∈M->k[j]?=some (.lst (g.map .str))->∃q c,t ([oR j]++dw z8 y) k=.ok (.ref q) c/\af [] k c/\c[q]?=some (.lst ((f g).map .str))/\P q):
  ∃l c,bK t E ν y1 0 z8 y a=.ok (.ref c.length) (c++[.lst (l.map .ref)])/\af [] a c/\kA c l ((M.filter p).map f)/\∀j∈l,P j:=by
 have L:=R.len
 refine cE (xC (λi n c=>∃l,n=l.map .ref/\kA c l (((M.take i).filter p).map f)/\af [] a c/\∀j∈l,P j) F ⟨[],rfl,.nil,af.refl,by simp⟩
  (λi n c h=>by
   refine dQ h λ_ _ _ K _=>?_;rw[bC,az,av (R.keep K).ce])
  (λi d n k N h=>by
   obtain⟨l,rfl,u,K,B⟩:=h;obtain⟨j,w,rfl⟩:=lg N;obtain⟨g,r,m⟩:=(R.keep K).al.at' w;obtain⟨c,C,o⟩:=H j g k K (Yf w) (Yf r) m;cases s:p g with
   |false=>
    refine .inl ⟨c,by rw[C,s],l,rfl,?_,K.trans o,B⟩
    rw[YM,r];simp[s];exact u.keep o (by simp)
   |true=>
    refine a6 (J j g c (K.trans o) (Yf w) (Yf r) (o.get _ _ m (by simp))) λq z e D O T=>?_
    refine .inr ⟨c,_,z,by rw[C,s],e,l++[q],by simp,?_,(K.trans o).trans D,?_⟩
    .rw[YM,r,í,YX]
     simp only[Option.toList_some,List.filter_cons,s,đ,if_true,Za,Ÿ];exact((u.keep o (by simp)).keep D (by simp)).snoc O
    .intro x Q
     rcases Yz.mp Q with h|h
     .simp_all
     simp_all) (by simp;exact bS (B' (M' L.symm) G))) λU c e A=>dQ A λl S u V B=>?_;grind
theorem ne_nil(d:y[s]?=some (oR b))(h:a[b]?=some (.lst (g.map .str))):∃aw,m2 (aI .NotEq) (aa s) (mN bt ah) y a=.ok (.bl (decide (g≠[]))) aw/\af [] a aw:=by
 refine⟨a++[.lst []],?_,af.app⟩;have e:(mN bt ah) y a=.ok (.ref a.length) (a++[.lst []]):=by rfl
 have c:(a++[Cell.lst []])[a.length]?=some (.lst (([]).map .str)):=aq;rw[ez,wR,d,EN,au,e,au,mL (eD h) c];simp
theorem xD(d:y[s]?=some (oR b))(R:Rw a b I M):∃aw,m2 (aI .NotEq) (aa s) (mN bt ah) y a=.ok (.bl (decide (M≠[]))) aw/\af [] a aw:=by
 refine⟨a++[.lst []],?_,af.app⟩;have e:(mN bt ah) y a=.ok (.ref a.length) (a++[.lst []]):=by rfl
 have g:(a++[Cell.lst []])[a.length]?=some _:=aq;have c:=R.keep (aw:=a++[Cell.lst []]) af.app;have f:=oa (s:=6) c.ce c.al;have h:=oa (s:=6) g .nil
 simp_all
def PF:=(ao (ed (dS 5) (ba (du (aa 1) false (aj (.int 1)) true (aj .non)))
 (ao (dh (aa 4) (aa 5) (aj (.bl true)))
 ak))
 ak)
def RW:=(bK (m2 aL (aa 0) (aj (.int 0))) false (m2 (aI .NotIn) (m2 aL (aa 0) (aj (.int 0))) (aa 1)) (ba (aa 2)) 0 [4])
def RX:=(bK (bK (aa 0) false (m2 (aI .NotEq) (aa 0) (m2 aL (aa 1) (aj (.int 0)))) (ba (aa 0)) 0 [1]) true (aj .non) (ba (aa 2)) 0 [6])
def VR:=(bK (aa 0) false (m2 (aI .NotEq) (aa 0) (mN bt ah)) (ba (aa 2)) 0 [])
def yZ:=(m2 (aI .NotEq) (aa 2) (mN bt ah))
def tQ:=
 (ao (aA 4 dg)
 (ao (ed (dS 1) (ba (aa 2))
 PF)
 (ao (aA 6 RW)
 (ao (ei (m2 (aI .Eq) (aa 6) (mN bt ah))
 (ao (bY (aj .non))
 ak)
 ak)
 (ao (cG (dv jr bX (aa 3) (ae (m2 aL (aa 6) (aj (.int 0))) ah)))
 (ao (aA 2 RX)
 (ao (aA 2 VR)
 ak)))))))
def GH:=
 (ao (aA 2 (bK (mN (aX .list) (ae (aa 0) ah)) false (m2 (aI .NotEq) (aa 0) (mN bt ah)) (ba (aa 0)) 0 []))
 (ao (aA 3 (mN bt ah))
 (ao (ig yZ
 tQ)
 (ao (bY (aa 3))
 ak))))
def rO(b:aG)(d m:Nat)(S:Str->Prop):=∃a,b[d]?=some (.dK a)/\a.length<=m/\∀n,(bz a (.inr n)).isSome=true↔S n
variable{n8:Str->Prop}
theorem rO.keep{aw fp}(h:rO a b s n8)(K:af fp a aw)(c:b∉fp):rO aw b s n8:=bx (h) λ_ d e f=>⟨_,K.get _ _ d c,e,f⟩
theorem rO.imp{c}(h:rO a b s n8)(d:∀n,n8 n↔c n):rO a b s c:=let ⟨_,e,f,g⟩:=h;⟨_,e,f,λn=>(g n).trans (d n)⟩
theorem rO.put{n}(h:rO a b s n8)(d:s<=1000):∃aw,lP (.ref b) (.str n) (.bl true) a=some aw/\rO aw b (s+1) (λx=>n8 x\/x=n)/\af [b] a aw:=by
 refine bx h λkvs c e f=>?_
 refine⟨_,oj c (B' e d),⟨_,aK c,by have:=Bu (kvs:=kvs) (k:=.inr n) (v:=D.bl true);omega,λx=>?_⟩,af.set (by simp)⟩
 rw[pU]
 by_cases z:x=n
 .simp_all
 simp_all
theorem Fl(h:a[b]?=some (.lst (g.map .str)))(c:y[s]?=some (oR b)):du (aa s) false (aj (.int 1)) true (aj .non) y a=.ok (.ref a.length) (a++[.lst (g.tail.map .str)]):=by
 have:=vg h
 simp_all
variable{D2 E3 P0 o0:Option D}
theorem IJ(h:a[Θ]?=some (.lst (g.map .str)))(t:rO a b s n8)(A:s+g.length<=900):
  ∃c aw,PF [χ,oR Θ,o0,P0,oR b,D2,E3] a=.nx [χ,oR Θ,o0,P0,oR b,c,E3] aw/\rO aw b (s+g.length) (λx=>n8 x\/x∈g.tail)/\af [b] a aw:=by
 have B:=Fl (y:=[χ,oR Θ,o0,P0,oR b,D2,E3]) h (s:=1) rfl;have u:(a++[Cell.lst (g.tail.map .str)])[a.length]?=some _:=aq;have C:af [b] a (a++[Cell.lst (g.tail.map .str)]):=af.app;have k:rO (a++[Cell.lst (g.tail.map .str)]) b s n8:=t.keep (fp:=[]) af.app (by simp)
 have D:=bc (t) λ_ z _=>bf z
 generalize a++[Cell.lst _]=l at *
 have m:ba (du (aa 1) false (aj (.int 1)) true (aj .non)) [χ,oR Θ,o0,P0,oR b,D2,E3] a=.ok (.seq (.ref a.length)) l:=by
  rw[cA,B];exact aM (by rw[az,av u])
 unfold PF;rw[ag,cJ,m,cy];have E:g.tail.length<=g.length:=by simp
 refine bQ (R:=λr=>∃c aw,sq r _=.nx [χ,oR Θ,o0,P0,oR b,c,E3] aw/\rO aw b _ _/\af _ a aw) (p:=g.tail.map .str)
  (λi j d=>∃c,j=[χ,oR Θ,o0,P0,oR b,c,E3]/\rO d b (s+i) (λx=>n8 x\/x∈g.tail.take i)/\af [b] _ d) ?_ ?_ ?_ _ 0 _ _ (by unfold fuel;simp;exact kG (B' (B' (YZ _ _) (ϡ _ _)) A)) (Yh _) ⟨D2,rfl,k.imp (by simp),af.refl⟩
 .rintro i j d ⟨_,_,_,K⟩
  rw[bC,az,av (K.get _ _ u (by simp;exact Ym D))]
 .rintro i e j d F ⟨c,rfl,f,K⟩
  obtain⟨x,w,rfl⟩:=fW F;have L:=(Yn.mp w).1;refine⟨[χ,oR Θ,o0,P0,oR b,oS x,E3],rfl,?_⟩;refine bx (f.put (n:=x) (by omega)) λo M q G=>?_
  have:(ao (dh (aa 4) (aa 5) (aj (.bl true))) ak) [χ,oR Θ,o0,P0,oR b,oS x,E3] d=.nx [χ,oR Θ,o0,P0,oR b,oS x,E3] o:=by
   show sq (match lP _ _ _ _ with|some _=>gi.nx _ _|none=>.bad) _=_
   simp_all
  rw[this];refine⟨_,rfl,q.imp λy=>?_,K.trans G⟩
  rw[YM,w];simp[or_assoc]
 .rintro j d ⟨c,rfl,f,K⟩
  rw[Yj,YQ]at f;refine bx f λH I N J=>?_
  exact⟨_,_,rfl,⟨_,I,by omega,J⟩,C.trans K⟩
theorem Fm(a:M[b]?=some g):tl (M.take b)+g.length=tl (M.take (b+1)):=by
 unfold tl;rw[YM,a];simp
theorem IK(R:Rw a b I M)(u:a[s]?=some (.dK []))(B:M.length<=1000)(C:tl M<=800):
  ∃f c aw,ed (dS 1) (ba (aa 2)) PF [χ,o0,oR b,P0,oR s,D2,E3] a=.nx [χ,f,oR b,P0,oR s,c,E3] aw/\rO aw s 900 (λx=>∃r∈M,x∈r.tail)/\af [s] a aw:=by
 have w:=R.len
 have m:∀j∈I,j∉[s]:=λj o z=>by
  obtain⟨i,D⟩:=YL.mp o;obtain⟨q,_,E⟩:=R.al.at' D
  simp_all
 have y:∀d,af _ a d->Rw _ b I M:=λd K=>R.pX K (by simpa using (λz=>by have:=R.ce;rw[z,u]at this;cases this)) m
 have t:ba (aa 2) [χ,o0,oR b,P0,oR s,D2,E3] a=.ok (.seq (.ref b)) a:=by
  exact aM (by rw[az,av R.ce])
 rw[cJ,t,cy]
 refine bQ (R:=λr=>∃f c aw,r=.nx [χ,f,oR b,P0,oR s,c,E3] aw/\rO aw s _ _/\af _ a aw) (p:=I.map .ref)
  (λi l d=>∃f c,l=[χ,f,oR b,P0,oR s,c,E3]/\rO d s (tl (M.take i)) (λx=>∃r∈M.take i,x∈r.tail)/\af [s] a d) ?_ ?_ ?_ _ 0 _ _ (by unfold fuel;simp;exact kG (B' (M' w.symm) B)) (Yh _) ⟨o0,D2,rfl,⟨[],u,by simp[tl],λn=>by simp[bz]⟩,af.refl⟩
 .rintro i l d ⟨_,_,_,_,K⟩
  rw[bC,az,av (y _ K).ce]
 .rintro i e l d F ⟨f,c,rfl,g,K⟩
  obtain⟨j,o,rfl⟩:=lg F;obtain⟨q,G,h⟩:=(y _ K).al.at' o;refine⟨[χ,oR j,oR b,P0,oR s,c,E3],rfl,?_⟩;have H:=Fm G
  have E:=by
    have:tl M=tl (M.take (i+1))+tl (M.drop (i+1)):=by
     unfold tl;rw[←List.sum_append,←YX,List.take_append_drop]
    omega
  obtain⟨A,J,L,k,N⟩:=IJ h g (by omega)
  rw[L];refine⟨_,_,rfl,?_,K.trans N⟩;rw[H]at k;refine k.imp λx=>?_
  rw[YM]
  simp_all
 .rintro l d ⟨f,c,rfl,g,K⟩
  rw[Yj,←w,YQ]at g;refine bx g λO P Q S=>?_
  exact⟨_,_,_,rfl,⟨_,P,bS (B' Q C),S⟩,K⟩
theorem IL(R:Rw a b I M)(C:rO a s 900 (λx=>∃r∈M,x∈r.tail))(o:∀r∈M,r≠[])(D:M.length<=1000):
  RW [χ,o0,oR b,P0,oR s,D2,E3] a=.ok (.ref a.length) (a++[.lst ((M.filterMap (freeOf M)).map .str)]):=by
 have A:=R.len;refine bx C λf F J B=>?_
 have u:ba (aa 2) [χ,o0,oR b,P0,oR s,D2,E3] a=.ok (.seq (.ref b)) a:=by
  exact aM (by rw[az,av R.ce])
 obtain⟨K,g,e,rfl,rfl⟩:=xC (E:=false) (t:=m2 aL (aa 0) (aj (.int 0))) (ν:=m2 (aI .NotIn) (m2 aL (aa 0) (aj (.int 0))) (aa 1)) (I:=[4]) (p:=I.map .ref) (λi k g=>k=((M.take i).filterMap (freeOf M)).map .str/\g=a) u ⟨rfl,rfl⟩
  (λi k g h=>by
   obtain⟨_,rfl⟩:=h;rw[bC,az,av R.ce])
  (λi e k c G h=>by
   obtain⟨rfl,rfl⟩:=h;obtain⟨j,H,rfl⟩:=lg G;obtain⟨w,y,l⟩:=R.al.at' H;cases w with
   |nil=>exact absurd rfl (o [] (Yf y))
   |cons x t=>
    have z:aL (.ref j) (.int 0) c=.ok _ c:=bP l (L2.cq rfl)
    have m:gh false (m2 (aI .NotIn) (m2 aL (aa 0) (aj (.int 0))) (aa 1)) ([oR j]++dw [4] [χ,o0,oR b,P0,oR s,D2,E3]) c=.ok (!(bz f (.inr x)).isSome) c:=by
     show dr ((aL _ (.int 0) c).bind _)=_
     rw[z,au]
     show dr (aI .NotIn (.str x) (.ref s) c)=_
     rw[(BC (d:=x) (.inl F))];rfl
    by_cases n:∃r∈M,x∈r.tail
    .rw[(B x).mpr n]at m
     refine .inl ⟨c,m,?_,rfl⟩;rw[YM,y];simp[ec n]
    .have:(bz f (.inr x)).isSome=false:=by
      cases q:(bz f (.inr x)).isSome with
      |true=>exact absurd ((B x).mp q) n
      |false=>rfl
     rw[this]at m;refine .inr ⟨c,.str x,c,m,?_,?_,rfl⟩
     .simp_all
     .rw[YM,y]
      simp[dq n]) (by simp;exact bS (B' (M' A.symm) D))
 rwa[Yj,←A,YQ]at e
theorem IP(R:Rw a b I M)(n:a[s]?=some (.lst ((d::g).map .str)))(o:M.length<=1000)(p:∀r∈M,r.length<=1000):
  ∃i f,RX [χ,o0,oR b,P0,E3,D2,oR s] a=.ok (.ref f.length) (f++[.lst (i.map .ref)])/\af [] a f/\kA f i (M.map λr=>r.filter λx=>decide (x≠d))/\∀j∈i,a.length<=j:=by
 refine og (by
  rw[cA];exact aM (by rw[az,av R.ce])) R o (λj k q K A l h=>?_)
 have m:aL _ (.int 0) _=.ok _ _:=bP (K.get _ _ n (by simp)) (L2.cq rfl)
 have e:=cz (y:=[oR j,oR s]) (t:=aa 0) (ν:=m2 (aI .NotEq) (aa 0) (m2 aL (aa 1) (aj _))) (E:=false) (y1:=ba (aa 0)) (I:=[1]) (D8:=λc=>match c with|.str x=>decide (x≠d)|_=>false) (by
   exact aM (by rw[az,av h])) (by rw[bC,az,av h]) (λc u=>by
   obtain⟨x,B,rfl⟩:=YG.mp u
   show dr ((aL _ _ _).bind _)=_
   rw[m,au]
   by_cases z:x=d<;>simp[z]) (λc _ _=>rfl) (by have:=p _ l;simp;exact bS this)
 have w:((k.map D.str).filter (λc=>match c with|.str x=>decide (x≠d)|_=>false)).map (λc=>c)=(k.filter λx=>decide (x≠d)).map .str:=by
  rw[Ò,Ņ];rfl
 rw[w]at e;exact⟨_,_,e,af.app,aq,K.len⟩
variable{W5:Option D}
theorem IQ(R:Rw a b I M)(n:M.length<=1000):
  ∃f c,VR [χ,o0,oR b,P0,D2,E3,W5] a=.ok (.ref c.length) (c++[.lst (f.map .ref)])/\af [] a c/\kA c f (ne M)/\∀j∈f,j∈I:=by
 have g:ba (aa 2) [χ,o0,oR b,P0,D2,E3,W5] a=.ok (.seq _) a:=aM (by rw[az,av R.ce])
 refine a6 (lu (E:=false) (t:=aa 0) (z8:=[]) g R n (λj h i K l k d=>by
  obtain⟨c,e,o⟩:=ne_nil (y:=[oR j]) (s:=0) rfl d;refine⟨_,?_,o⟩
  show dr (m2 (aI .NotEq) (aa 0) (mN bt ah) [oR j] _)=_
  rw[e];rfl) (λj h i K l k d=>⟨j,_,rfl,af.refl,d,l⟩)) λf c e K m p=>?_
 rw[Ò]at m;exact⟨_,_,e,K,m,p⟩
theorem MQ:(ne M).length<=M.length:=Ϣ _ _
theorem MR:tl (ne M)=tl M:=by
 unfold tl ne
 induction M with
 |nil=>rfl
 |cons a M b=>
  grind
theorem IS(h:g∈M):g.length<=tl M:=by
 unfold tl
 induction M with
 |nil=>simp at h
 |cons a M b=>
  grind
theorem BL(R:Rw a b I (ne M))(J:a[s]?=some (.lst (g.map .str)))(K:s≠b)(L:s∉I)(Y:M.length<=900)(Z:tl M<=800)(hp:g.length<=900):
  (free M=none/\∃aw,tQ [χ,o0,oR b,oR s,P0,D2,E3] a=.rt .non aw/\af [] a aw) \/
  ∃n d N f O P x aw,free M=some n/\tQ [χ,o0,oR b,oR s,P0,D2,E3] a=.nx [χ,d,oR P,oR s,N,f,O] aw/\Rw aw P x (ne (M.map (cB n)))/\aw[s]?=some (.lst ((g++[n]).map .str))/\s≠P/\s∉x/\af [s] a aw:=by
 have y:=MQ (M:=M);have A:=MR (M:=M);have lq:=bf J;have lk:=bf R.ce;have lj:=R.al.lt;have g1:(a++[Cell.dK []])[a.length]?=some (.dK []):=aq;have K1:af [] a (a++[Cell.dK []]):=af.app;have r1:aA 4 dg [χ,o0,oR b,oR s,P0,D2,E3] a=.nx [χ,o0,oR b,oR s,oR a.length,D2,E3] (a++[Cell.dK []]):=rfl;have l1:(a++[Cell.dK []]).length=a.length+1:=by simp
 generalize a++[Cell.dK []]=a0 at *;refine cg (IK (χ:=χ) (o0:=o0) (P0:=oR s) (D2:=D2) (E3:=E3) (R.keep K1) g1 (by omega) (B' (M' A) Z)) λd f c r2 Q K2=>?_
 have q:af [] a c:=af.new K1 K2 (by simp)
 have R2:=R.keep q;have b0:=q.get _ _ J (by simp)
 have H:=IL (χ:=χ) (o0:=d) (P0:=oR s) (D2:=f) (E3:=E3) R2 Q (λr B=>(jC.mp B).2) (by omega)
 have g3:(c++[Cell.lst (((ne M).filterMap (freeOf (ne M))).map .str)])[c.length]?=some (.lst (((ne M).filterMap (freeOf (ne M))).map .str)):=aq;have K3:af [] c (c++[Cell.lst (((ne M).filterMap (freeOf (ne M))).map .str)]):=af.app
 have hh:((ne M).filterMap (freeOf (ne M))).head?=free M:=by
  rw[List.head?_filterMap,←Fi];rfl
 generalize (ne M).filterMap (freeOf (ne M))=fl at *
 have H:aA 6 RW [χ,d,oR b,oR s,oR a.length,f,E3] c=.nx [χ,d,oR b,oR s,oR a.length,f,oR c.length] (c++[Cell.lst (fl.map .str)]):=by
  rw[bg,H];rfl
 generalize c++[Cell.lst (fl.map .str)]=i at *;have S:=q.trans K3;have g4:(i++[Cell.lst []])[i.length]?=some (.lst (([]:List Str).map .str)):=aq;have T:af [] i (i++[Cell.lst []]):=af.app
 have e4:(m2 (aI .Eq) (aa 6) (mN bt ah)) [χ,d,oR b,oR s,oR a.length,f,oR c.length] i=.ok (.bl (decide (fl=[]))) (i++[Cell.lst []]):=by
  have e:(mN bt ah) [χ,d,oR b,oR s,oR a.length,f,oR c.length] i=.ok (.ref i.length) (i++[.lst []]):=by rw[eV,br,au,gH,if_pos (aP (by simp))]
  have:aa 6 [χ,d,oR b,oR s,oR a.length,f,oR c.length] i=.ok (.ref c.length) i:=rfl;rw[ez,this,au,e,au,xo (T.get _ _ g3 (by simp)) g4]
 have l4:(i++[Cell.lst []]).length=i.length+1:=by simp
 generalize i++[Cell.lst []]=k at *;have p:=S.trans T;cases fl with
 |nil=>
  refine .inl ⟨by rw[←hh];rfl,k,?_,p⟩
  unfold tQ;rw[ag,r1,ay,ag,r2,ay,ag,H,ay,ag,cF,e4];rfl
 |cons n t=>
  have C:free M=some n:=by rw[←hh];rfl
  refine .inr ⟨n,?_⟩;have R4:=R.keep p;have u:=p.get _ _ J (by simp)
  have D:=T.get _ _ g3 (by simp)
  have r4:(ei (m2 (aI .Eq) (aa 6) (mN bt ah)) (ao (bY (aj .non)) ak) ak) [χ,d,oR b,oR s,oR a.length,f,oR c.length] i=.nx [χ,d,oR b,oR s,oR a.length,f,oR c.length] k:=by
   rw[cF,e4];rfl
  have c0:aL (.ref c.length) (.int 0) k=.ok (.str n) k:=bP D (L2.cq (b:=0) rfl);have d0:=dC (l:=.str n) u (by simp;exact bS hp)
  have r5:(cG (dv jr bX (aa 3) (ae (m2 aL (aa 6) (aj (.int 0))) ah))) [χ,d,oR b,oR s,oR a.length,f,oR c.length] k=.nx [χ,d,oR b,oR s,oR a.length,f,oR c.length] (k.set s (.lst (g.map .str++[.str n]))):=by
   rw[cf,eg (l:=.ref s) (η:=k) rfl (di u)]
   simp_all
  have U:af [s] k (k.set s (.lst (g.map .str++[.str n]))):=af.set (by simp)
  have E:(k.set s (.lst (g.map .str++[.str n])))[s]?=some (.lst ((g++[n]).map .str)):=by rw[aK u];simp
  have l5:(k.set s (.lst (g.map .str++[.str n]))).length=k.length:=by simp
  generalize k.set s (.lst (g.map .str++[.str n]))=w at *;have R5:Rw w b I (ne M):=R4.pX U (by simpa using Ya K) (λj hj h=>L (by rw[←W'.mp h];exact hj))
  have V:=U.get _ _ D (by have:=q.len;simp;exact Ym (U' lq this))
  refine a6 (IP (χ:=χ) (o0:=d) (P0:=oR s) (E3:=oR a.length) (D2:=f) R5 V (bS (B' y Y)) (λr B=>by have:=IS B;exact bS (B' (B' this (M' A)) Z))) λo m e6 K6 h6 j6=>?_
  rw[(Zb λr B=>tP (yY C r (jC.mp B).1))]at h6
  have R7:Rw (m++[.lst (o.map .ref)]) m.length o ((ne M).map (cB n)):=⟨aq,h6.keep (fp:=[]) af.app (by simp)⟩
  have K7:af [] w (m++[Cell.lst (o.map .ref)]):=K6.trans af.app
  have r6:aA 2 RX [χ,d,oR b,oR s,oR a.length,f,oR c.length] w=.nx [χ,d,oR m.length,oR s,oR a.length,f,oR c.length] (m++[.lst (o.map .ref)]):=by
   rw[bg,e6];rfl
  have l6:=K6.len;have l7:(m++[Cell.lst (o.map .ref)]).length=m.length+1:=by simp
  generalize m++[Cell.lst (o.map .ref)]=e0 at *;refine a6 (IQ (χ:=χ) (o0:=d) (P0:=oR s) (D2:=oR a.length) (E3:=f) (W5:=oR c.length) R7 (by simp;exact bS (B' y Y))) λF G e8 X h8 j8=>?_
  rw[Fj]at h8;have f0:=p.len;have l8:=X.len;refine⟨d,oR a.length,f,oR c.length,G.length,F,G++[.lst (F.map .ref)],C,?_,⟨aq,h8.keep (fp:=[]) af.app (by simp)⟩,eD (X.get _ _ (K7.get _ _ E (by simp)) (by simp)),by omega,λz=>?_,((cD.up p).trans U).trans (cD.up ((K7.trans X).trans af.app))⟩
  .unfold tQ
   rw[ag,r1,ay,ag,r2,ay,ag,H,ay,ag,r4,ay,ag,r5,ay,ag,r6,ay,ag,bg,e8];rfl
  .have:=j6 s (j8 s z)
   exact Yr _ (Yw this (rP E))
theorem BN(h:ne M=[]):Mg M []:=.done λr a=>by
 by_cases z:r=[]
 .exact z
 .have:=jC.mpr ⟨a,z⟩
  simp_all
theorem BO:∀m c rs a q k B g d e f,tl rs<m->Rw c k B (ne rs)->c[q]?=some (.lst (a.map .str))->q≠k->q∉B->rs.length<=900->a.length+tl rs<=800 ->
  (∃aw,dA yZ tQ m [χ,g,oR k,oR q,d,e,f] c=.rt .non aw/\af [q] c aw) \/
  ∃o h C i j l aw,dA yZ tQ m [χ,g,oR k,oR q,d,e,f] c=.nx [χ,h,C,oR q,i,j,l] aw/\Mg rs o/\aw[q]?=some (.lst ((a++o).map .str))/\af [q] c aw:=by
 intro m
 induction m with
 |zero=>omega
 |succ m N=>
  intro c rs a q k B g d e f T R K E F L z;refine bc (xD (y:=[χ,g,oR k,oR q,d,e,f]) (s:=2) rfl R) λp x u=>?_
  have x:yZ _ c=.ok _ p:=x
  by_cases G:ne rs=[]
  .rw[decide_eq_false (by simpa using G)]at x
   refine .inr ⟨[],g,oR k,d,e,f,p,?_,BN G,by rw[YS];exact u.get _ _ K (by simp),cD.up u⟩
   simp only[dA,x];rfl
  .rw[decide_eq_true (by simpa using G)]at x
   have step:dA yZ tQ (m+1) [χ,g,oR k,oR q,d,e,f] c=(match tQ [χ,g,oR k,oR q,d,e,f] p with|.nx b aw=>dA yZ tQ m b aw|.ct b aw=>dA yZ tQ m b aw|.bk b aw=>.nx b aw|r=>r):=by
    simp only[dA,x];rfl
   rcases BL (P0:=d) (D2:=e) (E3:=f) (R.keep u) (u.get _ _ K (by simp)) E F L (B' (ϡ _ _) z) (bS (B' (Zs _ _) z))with ⟨_,w,M,A⟩|⟨n,h,i,j,l,O,H,w,I,M,R2,J,P,Q,A⟩
   .refine .inl ⟨w,?_,cD.up (u.trans A)⟩
    rw[step,M]
   .have S:=xB (iJ I)
    rcases N w _ _ q O H h i j l (by omega) R2 J P Q (by simpa using L) (by simp;omega)with ⟨RY,e3,K3⟩|⟨o,b1,b2,b4,b5,b6,RY,e3,M3,WN,K3⟩
    .refine .inl ⟨RY,?_,((cD.up u).trans A).trans K3⟩
     simp_all
    .refine .inr ⟨n::o,b1,b2,b4,b5,b6,RY,?_,.step (by
     obtain⟨t,z⟩:=iJ I;exact⟨_,z,by simp⟩) I M3,by rw[WN];simp,((cD.up u).trans A).trans K3⟩
     simp_all
def Fo(e:a5):=∀b k f c,Rw b k f c->c.length<=900->tl c<=800->∃d a,e [.ref k] b=.ok d a/\af [] b a/\(d=.non\/∃o q,d=.ref q/\a[q]?=some (.lst (o.map .str))/\Mg c o/\b.length<=q)
theorem MS:Fo (bw 7 1 GH):=by
 intro h k G q R r u;rw[bh (by rfl)]
 have A:a9 7 [D.ref k]=[oR k,none,none,none,none,none,none]:=rfl;rw[A]
 have i:ba (aa 0) [oR k,none,none,none,none,none,none] h=.ok (.seq (.ref k)) h:=by
  exact aM (by rw[az,av R.ce])
 refine a6 (lu (E:=false) (t:=mN (aX .list) (ae (aa 0) ah)) (z8:=[]) i R (bS r) (λj l a K B m c=>by
  obtain⟨b,e,g⟩:=ne_nil (y:=[oR j]) (s:=0) rfl c;refine⟨b,?_,g⟩
  show dr (m2 (aI .NotEq) (aa 0) (mN bt ah) [oR j] a)=_
  rw[e];rfl) (λj l a K B m c=>by
  refine⟨_,a++[.lst _],?_,af.app,aq,K.len⟩;exact bB c)) λd a H C n I=>?_
 rw[Ò]at n;have R2:Rw (a++[.lst _]) _ d (ne q):=⟨aq,n.keep (fp:=[]) af.app (by simp)⟩
 have g:af [] h (a++[Cell.lst (d.map .ref)]):=C.trans af.app;have F:(a++[Cell.lst (d.map .ref)]).length=a.length+1:=by simp
 have J:=n.lt
 have w:aA 2 (bK (mN (aX .list) (ae (aa 0) ah)) false (m2 (aI .NotEq) (aa 0) (mN bt ah)) (ba (aa 0)) 0 []) [oR k,none,none,none,none,none,none] h=.nx [oR k,none,oR a.length,none,none,none,none] (a++[Cell.lst (d.map .ref)]):=by
  simp_all
 generalize a++[Cell.lst _]=b at *;have p:af [] b (b++[Cell.lst []]):=af.app;have x:(aA 3 (mN bt ah)) [oR k,none,oR a.length,none,none,none,none] b=.nx [oR k,none,oR a.length,oR b.length,none,none,none] (b++[Cell.lst []]):=by rfl
 have f:=g.len;rcases BO fuel _ q [] _ _ d none none none none (by unfold fuel;exact kG u) (R2.keep p) aq (Ym (M' F.symm)) (λz=>by grind) r (by simpa using u)with ⟨IT,e4,K4⟩|⟨o,b1,b2,b4,b5,b6,IT,e4,M4,RZ,K4⟩
 .refine⟨.non,IT,?_,af.new (g.trans p) K4 (by simpa using f),.inl rfl⟩
  unfold GH;rw[ag,w,ay,ag,x,ay,ag];unfold ig;rw[e4];rfl
 .refine⟨_,IT,?_,af.new (g.trans p) K4 (by simpa using f),.inr ⟨o,_,rfl,by simpa using RZ,M4,f⟩⟩
  unfold GH;rw[ag,w,ay,ag,x,ay,ag];unfold ig;rw[e4];rfl
structure l_(E:eE)(L:Str->List Str):Prop where
 nd:(nms E).Nodup
 el:∀(i:Nat) (p:Str×List Str),E[i]?=some p->p.2.Nodup/\p.2.length<=5/\∀x∈p.2,x∈(nms E).take i
 ln:∀(i:Nat) (p:Str×List Str),E[i]?=some p->∃o,Mg (p.2.map L++[p.2]) o/\L p.1=p.1::o
 len:E.length<=12
theorem oo:nms (u.take b)=(nms u).take b:=by simp[nms,ń]
theorem gJ{p}(h:u[b]?=some p):(nms u)[b]?=some p.1:=by simp[nms,h]
theorem rH(h:(nms u)[b]?=some d):∃r,u[b]?=some (d,r):=by
 simp only[nms,YH,YE]at h
 simp_all
theorem vn{p}(e:(nms u).Nodup)(h:u[b]?=some p):aN u p.1=p.2:=by
 have c:=gJ h;obtain⟨f,a⟩:=YL.mp (rG (jA (Yf c)));have d:=gJ a;have:=(ê ((Yn.mp d).1) e).mp (d.trans c.symm)
 grind
theorem ek(h:d∈g.take b):∃j,j<b/\g[j]?=some d:=by
 obtain⟨j,a⟩:=YL.mp h;have c:=(Yn.mp a).1
 grind
namespace l_
variable{ε:Str->List Str}
theorem nil:l_ [] ε:=⟨by simp[nms],by simp,by simp,by simp⟩
variable{d:Str}{u:eE}
theorem vo(G:l_ u ε)(b:d∈nms u):∃i:Nat,u[i]?=some (d,aN u d):=by
 obtain⟨i,c⟩:=YL.mp b;obtain⟨r,a⟩:=rH c;exact⟨i,by rw[a,vn G.nd a]⟩
theorem sub(G:l_ u ε)(a:d∈nms u):∀x∈aN u d,x∈nms u:=λx b=>by
 obtain⟨i,c⟩:=G.vo a;exact î ((G.el i _ c).2.2 x b)
theorem gd(G:l_ u ε):Gd u where
 nd:=G.nd
 el:=λn c=>G.sub c
 rk:=⟨λx=>(nms u).idxOf x,λn c x f=>by
  obtain⟨i,d⟩:=G.vo c;obtain⟨j,g,e⟩:=ek ((G.el i _ d).2.2 x f)
  have h:(nms u).idxOf x=j:=by
   have:=(Yn.mp e);obtain⟨a,b⟩:=this;rw[←b];exact abF G.nd j a
  have k:(nms u).idxOf n=i:=by
   obtain⟨a,b⟩:=(Yn.mp (gJ d));have b:(nms u)[i]=n:=b;rw[←b];exact abF G.nd i a
  simp_all⟩
 few:=G.len
 short:=λn c=>by
  obtain⟨i,d⟩:=G.vo c;exact(G.el i _ d).2.1
 Kn:=λn c=>by
  obtain⟨i,d⟩:=G.vo c;exact(G.el i _ d).1
theorem VS(G:l_ u ε):ME u ε:=λn a=>by
 obtain⟨i,b⟩:=G.vo a;exact G.ln i _ b
theorem take{E L}(G:l_ E L)(k):l_ (E.take k) L where
 nd:=by rw[oo];exact G.nd.sublist (Ħ _ _)
 el:=λi p h=>by
  have a:=(Yn.mp h).1;rw[Zq]at a;rw[ĥ (by omega)]at h
  obtain⟨b,c,d⟩:=G.el i p h;refine⟨b,c,λx e=>?_⟩
  rw[oo,List.take_take,ϖ (YN (U' a (ņ _ _)))];exact d x e
 ln:=λi p h=>by
  have a:=(Yn.mp h).1;rw[Zq]at a;rw[ĥ (by omega)]at h
  exact G.ln i p h
 len:=by have:=G.len;exact B' (List.length_take_le' _ _) this
theorem mem(G:l_ u ε):∀(k i:Nat) n,i<k->(nms u)[i]?=some n->∀x∈ε n,x∈nms u:=by
 intro k
 induction k with
 |zero=>simp
 |succ k q=>
  intro i n s b x c;obtain⟨r,d⟩:=rH b;obtain⟨o,M,f⟩:=G.ln i _ d;rw[f]at c;rcases Yo.mp c with z|z
  .rw[z];exact Yf b
  .obtain⟨g,l,e⟩:=uQ M x z
   have a:=(G.el i _ d).2.2;rcases Yz.mp l with h|h
   .obtain⟨y,m,rfl⟩:=YG.mp h
    obtain⟨j,t,p⟩:=ek (a y m)
    grind
   .rw[W'.mp h]at e
    exact î (a x e)
theorem short(G:l_ u ε)(b:d∈nms u):(ε d).length<=13:=by
 obtain⟨i,a⟩:=YL.mp b;obtain⟨r,c⟩:=rH a;obtain⟨o,M,e⟩:=G.ln i _ c;have f:=fG (sM M) (λx g=>(G.mem _ i d (Ð _) a) x (by simp_all))
 have h:(nms u).length=u.length:=by simp[nms]
 have:=G.len;rw[e];simp
 exact B' (B' f (M' h)) this
variable{g:List Str}
theorem BP(G:l_ u ε)(b:∀x∈g,x∈nms u)(d:g.length<=5):tl (g.map ε++[g])<=70:=by
 unfold tl
 have c:∀g:List _,(∀x∈g,x∈nms u)->((g.map ε).map ZY).sum<=13*g.length:=by
  intro g b
  induction g with
  |nil=>simp
  |cons a g e=>
   have f:=G.short (b a (by simp))
   grind
 grind
variable{ο:List Str}
theorem snoc{n}(G:l_ u ε)(j:n∉nms u)(k:u.length<12)(l:g.Nodup)(m:g.length<=5)(o:∀x∈g,x∈nms u)(M:Mg (g.map ε++[g]) ο):l_ (u++[(n,g)]) (λx=>if x=n then n::ο else ε x)/\∀x∈nms u,(if x=n then n::ο else ε x)=ε x:=by
 have b:∀x∈nms u,(if x=n then n::ο else ε x)=ε x:=λx c=>if_neg λ(z:x=n)=>j (z▸c)
 have d:nms (u++[(n,g)])=nms u++[n]:=by simp[nms]
 have e:(nms u).length=u.length:=by simp[nms]
 have a:∀(i:Nat) (p:Str×List Str),(u++[(n,g)])[i]?=some p->(i<u.length/\u[i]?=some p)\/(i=u.length/\p=(n,g)):=by
  intro i p h
  by_cases q:i<u.length
  .rw[YU q]at h
   exact .inl ⟨q,h⟩
  .rw[ZZ (ì q)]at h
   have A:=(Yn.mp h).1
   grind
 refine⟨⟨?_,?_,?_,by simp;exact abB k⟩,b⟩
 .rw[d]
  exact Zt.mpr ⟨G.nd,by simp,by grind⟩
 .intro i p h
  rcases a i p h with ⟨q,h⟩|⟨rfl,rfl⟩
  .obtain⟨r,s,f⟩:=G.el i p h
   refine⟨r,s,λx c=>?_⟩
   rw[d,abD (YN (U' q (M' e.symm)))];exact f x c
  simp_all
 .intro i p h
  rcases a i p h with ⟨q,h⟩|⟨rfl,rfl⟩
  .obtain⟨t,w,y⟩:=G.ln i p h
   have f:=(G.el i p h).2.2;refine⟨t,?_,?_⟩
   .have:=Zb λx c=>b x (î (f x c))
    rw[this];exact w
   .rw[b p.1 (Yf (gJ h))]
    exact y
  .refine⟨ο,?_,by simp⟩
   have:=Zb λx c=>b x (o x c)
   grind
end l_
end Mir
namespace Mir
open PySem L2
structure Q0(E:eE):Prop where
 nd:(nms E).Nodup
 el:∀n∈nms E,∀x∈aN E n,x∈nms E
 Kn:∀n∈nms E,(aN E n).Nodup
 short:∀n∈nms E,(aN E n).length<=5
 few:E.length<=12
def R9(rs:List (List Str)):Option (List Str)->Prop
 |some o=>Mg rs o
 |none=>Sk rs
variable{L7:Option (List Str)}{M:List (List Str)}
theorem BQ{b}(h:R9 M L7)(g:R9 M b):L7=b:=by
 have c:∀{M:List _}{o:List _},Mg M o->(∀d,Mg M d->d=o)/\¬ Sk M:=by
  intro M o a
  induction a with
  |done h=>
   refine⟨λd i=>?_,λS=>?_⟩
   .cases i with
    |done=>rfl
    |step e=>grind
   .cases S with
    |stuck e=>grind
    |step e=>grind
  |step h j a k=>
   refine⟨λd i=>?_,λS=>?_⟩
   .cases i with
    |done e=>grind
    |step e f M1=>
     simp_all
   .cases S with
    |stuck e f=>simp_all
    |step e f l=>
     simp_all
 cases L7 with
 |some o=>cases b with
  |some d=>rw[(c h).1 _ g]
  |none=>exact absurd g (c h).2
 |none=>cases b with
  |some d=>exact absurd h (c g).2
  |none=>rfl
inductive eF (E:eE):Str->Option (List Str)->Prop
 |go {n:Str}{L:Str->List Str}{a:Option (List Str)}:n∈nms E->(∀x∈aN E n,eF E x (some (L x)))->R9 ((aN E n).map L++[aN E n]) a->eF E n (a.map (n :: ·))
 |el {n y:Str}{v:Str->Option (List Str)}:n∈nms E->(∀x∈aN E n,eF E x (v x))->y∈aN E n->v y=none->eF E n none
variable [hU]
variable{d:Str}{u:eE}
theorem eF.mem(h:eF u d L7):d∈nms u:=by cases h<;>assumption
theorem eF.uniq(h:eF u d L7):∀{b},eF u d b->b=L7:=by
 induction h with
 |@go d L L7 i j k f=>
  intro b g;cases g with
  |@go _ n o _ a c=>
   have:=Zb λx e=>Ú (f x e (a x e))
   rw[this]at c;rw[BQ c k]
  |el _ a l m=>
   grind
 |el i j l m f=>
  intro b g;cases g with
  |go _ a c=>
   grind
  |el=>rfl
theorem BR(b:d∈nms u)(h:∀x∈aN u d,∃a,eF u x a):∃a,eF u d a:=by
 classical
 obtain⟨v,c⟩:∃v:Str->Option _,∀x∈aN u d,eF u x (v x):=⟨λx=>if q:∃a,eF u x a then q.choose else none,by grind⟩
 by_cases q:∃y∈aN u d,v y=none
 .obtain⟨y,g,e⟩:=q
  exact⟨_,.el b c g e⟩
 .have f:∀x∈aN u d,eF u x (some ((v x).getD [])):=λx i=>by
   have j:=c x i;cases e:v x with
   |none=>simp_all
   |some l=>simp_all
  rcases sN _ _ (Ð _)with ⟨o,M,_⟩|S
  .exact⟨_,.go b f (a:=some o) M⟩
  .exact⟨_,.go b f (a:=none) S⟩
variable{g:List Str}
theorem vp(F:Ef u g)(hz:pY u g=[]):d∈g↔∃a,eF u d a:=by
 constructor
 .have c:∀(i:Nat) (d:Str),g[i]?=some d->∃a,eF u d a:=by
   intro i
   induction i using ώ with
   |ind i f=>
    intro d b;refine BR (F.sub d (Yf b)) λx k=>?_
    obtain⟨j,n,e⟩:=ek (F.pre i d b x k);exact f j n x e
  intro l;obtain⟨i,o⟩:=YL.mp l;exact c i d o
 .rintro⟨a,h⟩
  have p:=λm l k=>by
   by_cases q:m∈g
   .exact q
   .have:m∈pY u _:=kB.mpr ⟨l,q,k⟩
    simp_all
  induction h with
  |go b _ _ f=>simp_all
  |el b _ _ _ f=>simp_all
theorem eF.sub(Q:Q0 u)(h:eF u d L7):∀l,L7=some l->(∀x∈l,x∈nms u)/\l.length<=13:=by
 induction h with
 |@go d L L7 c k f m=>
  intro l e;cases L7 with
  |none=>cases e
  |some o=>
   have M:=f
   have g:∀x∈o,x∈nms u:=λx a=>by
    obtain⟨i,j,b⟩:=uQ M x a;rcases Yz.mp j with h|h
    .grind
    .rw[W'.mp h]at b
     exact Q.el d c x b
   have b:=fG (sM M) g;have n:(nms u).length=u.length:=by simp[nms]
   have:=Q.few
   grind
 |el=>simp
variable{A:List (Key×D)}{H:a5}{b:Nat}{d0:Nat->Prop}
theorem y_(hR:Fe H)(G:Q0 u):
  ∀m d a q z,d[b]?=some (.dF A)->aH d0 d A u->Ef u a->d[q]?=some (.lst (a.map .str))->d[z]?=some (.lst ((pY u a).map .str))->q≠z->¬ d0 q->u.length - a.length<m ->
   ∃f B aw,dA (aa 2) (Po H) m [oR b,oR q,oR z] d=.nx [oR b,oR q,B] aw/\aw[q]?=some (.lst (f.map .str))/\Ef u f/\pY u f=[]/\af [q] d aw:=by
 intro m
 induction m with
 |zero=>intro d a q z _ _ _ _ _ _ _ h;omega
 |succ m X=>
  intro d a q z R Y F p S Z T hm;have C:=fF S
  have a0:a.length<=u.length:=by
   have:=fG F.nd F.sub;simpa[nms]using this
  by_cases D:pY u a=[]
  .refine⟨a,oR z,d,?_,p,F,D,af.refl⟩
   have E:aa 2 [oR b,oR q,oR z] d=.ok (.ref z) d:=rfl;rw[D]at C;simp only[dA,E,dN,C];rfl
  .have E:aa 2 [oR b,oR q,oR z] d=.ok (.ref z) d:=rfl
   have I:=F.step G.nd
   have g:(a++pY u a).length<=u.length:=by
    have:=fG I.nd I.sub;simpa[nms]using this
   have r:=G.few;have hx:=vi p S (by rw[Č]at g;exact bS (B' g r))
   have hL:=di p;have J:af [q] d (d.set q (.lst ((a++pY u a).map .str))):=af.set (by simp)
   have i:=aK (e:=.lst ((a++pY u a).map .str)) p;have s:q≠b:=λz=>by rw[z,R]at p;cases p
   have t:=J.get _ _ R (by simpa using Ya s)
   have w:=Y.keep J (λj K=>by rw[W'.mp K];exact T)
   generalize d.set q (.lst ((a++pY u a).map .str))=x at *;refine eK (hR x b q A u (a++pY u a) d0 (.inr t) w i (λn U=>by have:=G.short n U;exact bS this) (bS r)) λV o e2 L y M lz=>?_
   have N:af [q] x o:=⟨y.len,λk c hk U=>by
    by_cases h:k=b
    .simp_all
    .exact y.get k c hk (by simpa using h)⟩
   have O:=w.bV y (λj K ds=>by rw[W'.mp K,t];simp)
   have P:=y.get _ _ i (by simpa using s)
   have lq:=bf i
   refine dk (X o (a++pY u a) q V M O I P L (N' (U' lq lz)) T (by
    have:0<(pY u a).length:=abG.mpr D;rw[Č]at g ⊢;omega)) λf B Q e3 h3 F3 h4 K3=>?_
   refine⟨f,B,Q,?_,h3,F3,h4,(J.trans N).trans K3⟩
   have r1:Po H [oR b,oR q,oR z] d=.nx [oR b,oR q,oR V] o:=by
    unfold Po;rw[ag,cf,eg (l:=.ref q) (η:=d) (by rfl) hL]
    simp_all
   simp only[dA,E,dN,C,eA]
   simp_all
def PH(f:a5):=∀d e b E P,bZ d e b->aH P d b E->Q0 E ->
 ∃c z a,f [.ref e] d=.ok (.ref z) a/\a[z]?=some (.lst (c.map .str))/\Ef E c/\pY E c=[]/\af [e] d a/\a[e]?=some (.dF b)/\d.length<=z
theorem IU(hR:Fe H):PH (bw 3 1 (Pp H)):=by
 intro a e A E P t B G;rw[bh (by rfl)]
 have C:a9 3 [D.ref e]=[oR e,none,none]:=rfl;rw[C];have l:(a++[Cell.lst []])[a.length]?=some _:=aq;have m:af [] a (a++[Cell.lst []]):=af.app;have I:(aA 1 (mN bt ah)) [oR e,none,none] a=.nx [oR e,oR a.length,none] (a++[Cell.lst []]):=by rfl
 have b:=t.keep m (by simp)
 have d:=(B.lt.keep m (by simp))
 have u:=t.lt;have T:(a++[Cell.lst []]).length=a.length+1:=by simp
 generalize a++[Cell.lst []]=o at *;have f:=G.few;refine eK (hR _ e _ _ E [] _ b d l (λn p=>by have:=G.short n p;exact bS this) (bS f)) λz q J r s g K=>?_
 refine dk (y_ hR G fuel _ [] _ z g (d.bV s (λj L M=>by rw[W'.mp L];exact b.nl M)) ⟨by simp,by simp,λi n h=>by simp at h⟩ (s.get _ _ l (by simp;exact Ym u)) r (N' (U' (rP l) K)) (λh=>Yr _ h.2) (by unfold fuel;exact kG (B' (YZ _ _) f))) λN U O Q w F R x=>?_
 refine⟨_,_,_,?_,w,F,R,?_,x.get _ _ g (by simp;exact N' u),XZ _⟩
 .unfold Pp
  rw[ag,I,ay,ag];have S:(aA 2 (mN (aQ H) (ae (aa 0) (ae (aa 1) ah)))) [oR e,oR a.length,none] o=.nx [oR e,oR a.length,oR z] q:=by simp[J]
  rw[S,ay,ag];unfold ig;rw[Q];rfl
 .refine⟨YN (rP w),λk c y p=>x.get k c (s.get k c (m.get k c y (by simp)) p) ?_⟩
  have:=bf y;simp;exact N' this
def R_:=(bK (aa 0) false (m2 (aI .In) (aa 0) (aa 1)) (ba (m2 aL (aa 0) (aa 2))) 0 [3])
def PJ:=(ao (cG (dv jr bX (aa 4) (ae (aa 2) ah)))
 (ao (aA 2 (m2 aL R_ (aj (.int 0))))
 ak))
def loT:=(m2 (aI .NotIn) (aa 2) (aa 4))
def PK:=(ao (aA 4 (mN bt ah))
 (ao (aA 2 (m2 aL (aa 3) (aj (.int 0))))
 (ao (ig loT PJ)
 (ao (bY (du (aa 4) false (dv jr e_ (aa 4) (ae (aa 2) ah)) true (aj .non)))
 ak))))
variable{D3:Src}{I:List Nat}{a:aG}{t:EM}{y:bH}{y1:IM}
theorem BS{p}(b:y1 y a=.ok D3 a)(c:eI D3 a=some (g.map .str))(e:∀x∈g,t ([oS x]++dw I y) a=.ok (.bl (p x)) a)(f:g.length<=1000):
  bK (aa 0) false t y1 0 I y a=.ok (.ref a.length) (a++[.lst ((g.filter p).map .str)]):=by
 rw[(cz (t:=aa 0) (ν:=t) (E:=false) (D8:=λd=>match d with|.str x=>p x|_=>false) b c (λd h=>by
  obtain⟨x,i,rfl⟩:=YG.mp h
  show dr _=_
  rw[e x i];rfl) (λd _ _=>rfl) (by simp;exact bS f)),Ò,Ņ]
 rfl
theorem Fp(Q:Q0 u)(hz:pY u g=[])(b:d∈nms u)(f:d∉g):∃x t,(aN u d).filter (λx=>decide (x∈(nms u).filter λd=>!decide (d∈g)))=x::t/\x∈nms u/\x∉g:=by
 obtain⟨y,c,a⟩:∃y∈aN u d,y∉g:=by
  by_cases q:∀x∈aN u d,x∈g
  .have:=kB.mpr ⟨b,f,q⟩
   simp_all
  simp_all
 cases e:(aN u d).filter _ with
 |nil=>
  have:=List.filter_eq_nil_iff.mp e y c;simp[Q.el d b y c,a]at this
 |cons x t=>
  have:x∈(aN u d).filter (λx=>decide (x∈(nms u).filter λd=>!decide (d∈g))):=by rw[e];simp
  grind
variable{E5 s Θ:Nat}
theorem BU(Q:Q0 u)(hz:pY u g=[]):
  ∀m f (c:List Str) n,f[b]?=some (.dF A)->aH d0 f A u->f[Θ]?=some (.lst (((nms u).filter λn=>!decide (n∈g)).map .str))->f[E5]?=some (.lst (c.map .str))->Θ≠E5->¬ d0 E5->c.Nodup->(∀x∈c,x∈nms u)->n∈nms u->n∉g->13 - c.length<m ->
   ∃(h:List Str) (F:Str) (aw:aG),dA loT PJ m [oR b,oR s,oS n,oR Θ,oR E5] f=.nx [oR b,oR s,oS F,oR Θ,oR E5] aw/\aw[E5]?=some (.lst (h.map .str))/\F∈h/\h.length<=12/\af [E5] f aw:=by
 intro m
 induction m with
 |zero=>omega
 |succ m Y=>
  intro f c n T Z ha p r U w k G ho hm
  have o:c.length<=12:=by
   have:=fG w k;have V:(nms u).length=u.length:=by simp[nms]
   have:=Q.few;omega
  have K:loT [oR b,oR s,oS n,oR Θ,oR E5] f=.ok (.bl (!decide (n∈c))) f:=ky (d:=n) p
  by_cases L:n∈c
  .refine⟨c,n,f,?_,p,L,o,af.refl⟩
   rw[decide_eq_true L]at K;simp only[dA,K,dN];rfl
  .have M:=dC (l:=.str n) p (by simp;exact bS o)
   have M:bX (.ref E5) [.str n] f=.ok .non (f.set E5 (.lst ((c++[n]).map .str))):=by rw[M,YX];rfl
   have hL:=di p;have H:af [E5] f (f.set E5 (.lst ((c++[n]).map .str))):=af.set (by simp)
   have N:=aK (e:=.lst ((c++[n]).map .str)) p;have O:E5≠b:=λs=>by rw[s,T]at p;cases p
   have z:=H.get _ _ T (by simpa using Ya O)
   have B:=H.get _ _ ha (by simpa using r)
   have C:=Z.keep H (λj J=>by rw[W'.mp J];exact U)
   generalize f.set E5 (.lst ((c++[n]).map .str))=i at *;refine bx (C.at G) λj hv _ J=>?_
   refine aF (Fp Q hz G ho) λx t hf P R=>?_
   have X:=BS (y:=[oR b,oR s,oS n,oR Θ,oR E5]) (a:=i) (t:=m2 (aI .In) (aa 0) (aa 1)) (y1:=ba (m2 aL (aa 0) (aa 2))) (I:=[3]) (D3:=.seq (.ref j)) (g:=aN u n) (by
    rw[cA]
    show(aL (.ref b) (.str n) i).bind _=_
    rw[ej (.inr z) hv,au];exact aM (by rw[az,av J])) (by rw[bC,az,av J]) (λx _=>n_ B) (by have:=Q.short n G;exact bS this)
   rw[hf]at X;have D:af [] i (i++[Cell.lst ((x::t).map .str)]):=af.app;refine dk (Y _ (c++[n]) x (D.get _ _ z (by simp)) (C.keep D (by simp)) (D.get _ _ B (by simp)) (D.get _ _ N (by simp)) r U (Zt.mpr ⟨w,by simp,λy S y' E b=>L (by simp at E;subst E;exact b▸S)⟩) (λy S=>(Yz.mp S).elim (k y) λq=>by simp at q;exact q▸G) P R (by simp;omega)) λh F aw e3 V h4 h5 K3=>?_
   refine⟨h,F,aw,?_,V,h4,h5,(H.trans (D.sub (by simp))).trans K3⟩
   have r1:PJ [oR b,oR s,oS n,oR Θ,oR E5] f=.nx [oR b,oR s,oS x,oR Θ,oR E5] (i++[Cell.lst ((x::t).map .str)]):=by
    unfold PJ;rw[ag,cf,eg (l:=.ref E5) (η:=f) (by rfl) hL]
    have:(ae (aa 2) ah:AM) [oR b,oR s,oS n,oR Θ,oR E5] f=.ok [.str n] f:=rfl;rw[this,au,M,cy,ay]
    have e5:(m2 aL R_ (aj (.int 0))) [oR b,oR s,oS n,oR Θ,oR E5] i=.ok (.str x) (i++[Cell.lst ((x::t).map .str)]):=by
     unfold R_;rw[ez,X,au];exact bP aq (L2.cq (b:=0) (by simp))
    rw[ag,bg,e5];rfl
   simp only[dA,K,dN,eA]
   simp_all
def Sa(h:a5):=∀f e c E P,bZ f e c->aH P f c E->Q0 E ->
 ∃d b,h [.ref e] f=.ok d b/\af [e] f b/\b[e]?=some (.dF c)/\(d=.non/\(∀n∈nms E,∃a,eF E n a)\/(∃n∈nms E,∀a,¬ eF E n a)/\∃(q:Nat) (g:List Str),d=.ref q/\b[q]?=some (.lst (g.map .str))/\g.length<=12)
theorem IV(hE:PH H):Sa (bw 5 1 (Pq H PK)):=by
 intro X e I E P J K Q;rw[bh (by rfl)]
 have e0:a9 5 [D.ref e]=[oR e,none,none,none,none]:=rfl;rw[e0];refine cS (hE X e I E _ J K.lt Q) λg z d e1 hz F m B L=>xa L λp lz=>?_
 have M:=Q.few;have N:=K.lt.bV B (λj hj ds=>by rw[W'.mp hj];exact J.nl ds)
 have e3:RQ [oR e,oR z,none,none,none] d=.ok (.ref d.length) _:=BS (D3:=.keys e) (by
  rw[cA]
  show srcOf d (.ref e)=_
  rw[xv (.inr p),set_same p]) (by rw[oi p,K.keys]) (λn _=>ky hz) (by simp[nms];exact bS M)
 have u:af [] d (d++[.lst (((nms E).filter λn=>!decide (n∈g)).map .str)]):=af.app
 have O:(d++[Cell.lst (((nms E).filter λn=>!decide (n∈g)).map .str)])[d.length]?=some _:=aq
 have C:=fF O;have r1:(aA 1 (mN (aQ H) (ae (aa 0) ah))) [oR e,none,none,none,none] X=.nx [oR e,oR z,none,none,none] d:=by simp[e1]
 have r2:(aA 3 RQ) [oR e,oR z,none,none,none] d=.nx [oR e,oR z,none,oR d.length,none] (d++[.lst (((nms E).filter λn=>!decide (n∈g)).map .str)]):=by rw[bg,e3];rfl
 have r:=u.get _ _ p (by simp)
 have R:=N.keep u (by simp)
 have G:(d++[Cell.lst (((nms E).filter λn=>!decide (n∈g)).map .str)]).length=d.length+1:=by simp
 generalize Y:d++[Cell.lst _]=f at *;unfold Pq;rw[ag,r1,ay,ag,r2,ay,ag]
 by_cases Z:(nms E).filter (λn=>!decide (n∈g))=[]
 .refine⟨.non,f,?_,B.trans (u.sub (by simp)),r,.inl ⟨rfl,λn hn=>(vp F m).mp ?_⟩⟩
  .rw[Z]at C
   simp[C]
  simp_all
 .obtain⟨q,t0,S⟩:∃q t0,(nms E).filter (λn=>!decide (n∈g))=q::t0:=by
   cases h:(nms E).filter _ with
   |nil=>exact absurd h Z
   |cons a b=>exact⟨a,b,rfl⟩
  have w:q∈(nms E).filter (λn=>!decide (n∈g)):=by rw[S];simp
  have x:=(Zm.mp w).1;have y:q∉g:=by simpa using (Zm.mp w).2
  have t:af [] f (f++[Cell.lst []]):=af.app;have T:=B.len;refine dk (BU (s:=z) (Θ:=d.length) (E5:=f.length) Q m fuel (f++[Cell.lst []]) [] q (t.get _ _ r (by simp)) (R.keep t (by simp)) (t.get _ _ O (by simp)) aq (N' (M' G.symm)) (λh=>Yr _ (YV h.2 (Yw T (M' G.symm)))) abH (by simp) x y (by unfold fuel;simp)) λo A i e4 U h5 h6 V=>?_
  refine⟨.ref i.length,i++[Cell.lst ((o.drop (o.idxOf A)).map .str)],?_,?_,?_,.inr ⟨⟨q,x,λa h=>y ((vp F m).mpr ⟨a,h⟩)⟩,_,_,rfl,aq,by simp;omega⟩⟩
  .rw[S]at C
   have r3:(ei (kb (aa 3)) (ao (bY (aj .non)) ak) ak) [oR e,oR z,none,oR d.length,none] f=.nx [oR e,oR z,none,oR d.length,none] f:=by simp[C]
   rw[r3,ay];unfold PK;have r4:(aA 4 (mN bt ah)) [oR e,oR z,none,oR d.length,none] f=.nx [oR e,oR z,none,oR d.length,oR f.length] (f++[Cell.lst []]):=by simp[aP]
   have r5:(aA 2 (m2 aL (aa 3) (aj (.int 0)))) [oR e,oR z,none,oR d.length,oR f.length] (f++[Cell.lst []])=.nx [oR e,oR z,oS q,oR d.length,oR f.length] (f++[Cell.lst []]):=by
    have:aL (.ref d.length) (.int 0) (f++[Cell.lst []])=.ok (.str q) (f++[Cell.lst []]):=bP (t.get _ _ O (by simp)) (L2.cq (b:=0) (by simp[S]))
    simp_all
   rw[ag,r4,ay,ag,r5,ay,ag];unfold ig;rw[e4,ay];have hL:=di U
   have e6:(du (aa 4) false (dv jr e_ (aa 4) (ae (aa 2) ah)) true (aj .non)) [oR e,oR z,oS A,oR d.length,oR f.length] i=.ok (.ref i.length) (i++[Cell.lst ((o.drop (o.idxOf A)).map .str)]):=by
    have e7:(dv jr e_ (aa 4) (ae (aa 2) ah)) [oR e,oR z,oS A,oR d.length,oR f.length] i=.ok (.int (o.idxOf A:Nat)) i:=by
     rw[eg (l:=.ref f.length) (η:=i) (by rfl) hL]
     exact pT U h5
    simp[du,e7,Bx U]
   rw[ag,fQ,e6];rfl
  .refine⟨by have:=u.len;have:=t.len;have:=V.len;simp;omega,λk c hk hn=>eD (V.get k c (t.get k c (u.get k c (B.get k c hk hn) (by simp)) (by simp)) ?_)⟩
   have:=bf hk;simp;exact N' (YV (U' this T) (M' G.symm))
  .exact eD (V.get _ _ (t.get _ _ r (by simp)) (by have:=J.lt;simp;exact N' (YV (U' this T) (M' G.symm))))
open PySem.Spec PyProof.Rows
noncomputable def c_(C:Str)(a:List (Str×D)):D:=.tup (.str C::a.map λp=>.tup [.str p.1,p.2])
variable{M5:List (Str×D)}{T:Str}
theorem BV{a}(h:c_ d M5=c_ T a):d=T/\M5=a:=by
 simp only[c_,Mir.D.tup.injEq,adl,Mir.D.str.injEq]at h;refine⟨h.1,(Ϡ λx y e=>?_).mp h.2⟩
 grind
def BW(a:List b')(Z:b'->Prop)(H)(b:List (Str×D))(c:List (Str×V)):=aJ (λp q=>p.1=q.1/\ax a Z H p.2 q.2) b c
def ik(f:Str->b'->Prop)(E:XK):iQ:=λx _ b Z H=>∃C c,x=c_ C c/\∀d a e,f C d->H a=some (.xd e)->BW b Z H c e->a∉b->¬ Z a->E (.ref d) (some a) H
def gp(a:Str->b'->Prop)(F:a5):Sp:=λe H Q E=>∃b Z c d,bO a b Z c H/\aJ (ax b Z H) d e/\ck a (ik a E) b Z H (F d c) Q
def xE(R:List D'->Option SM)(T td k d N)(st:D'):=match st with
 |.If c a b _=>o2 (cC T k d N c) (o2 (R a) (R b) YC) λx y=>ei x y.1 y.2
 |.While c b [] _=>o2 (cC T k d N c) (R b) ig
 |.For (.Name x _) e b [] _=>if isSet e then none else o2 (kg T d N x) (o2 (gj (cC T k d N) d e) (R b) YC) λi y=>ed (dS i) y.1 y.2
 |.For (.Tuple f _ _) e b [] _=>if isSet e then none else match eu f with
   |some nms=>o2 (jy T d N nms) (o2 (kZ (cC T k d N) d e) (R b) YC) λg y=>tA (EI e) (eH g) y.1 y.2
   |none=>none
 |_=>kh T td k d N 1 st
def il(a:D'->Option SM)(T:aO)(td:List Str)(k:Nat)(b:XY)(N:List Str):Nat->D'->Option SM
 |0,_=>none
 |n+1,d=>match a d with
  |some c=>some c
  |none=>xE (cI (il a T td k b N n)) T td k b N d
variable{W8:D'->Option SM}{Z:XY}{c:Cx}{i:Str->b'->Prop}{q:iQ}{ζ:aO}{ο:List Str}
theorem xF(G:eJ c i ζ b Z g)(L:∀st d,W8 st=some d->ju c i q st d):∀n l st d,il W8 ζ ο l Z g n st=some d->ju c i q st d:=by
 intro n l;have E:=λe m k=>dB l c Z g e m G.toGoodO k
 induction n with
 |zero=>intro st d h;cases h
 |succ n M=>
  intro st d h;have B:∀C d,cI (il W8 ζ ο l Z g n) C=some d->kX c i q C d:=λC d k=>gk M k
  have O:c.N.Nodup:=by rw[G.names];exact G.qT
  cases F:W8 st with
  |some X=>
   replace h:(match W8 st with|some d=>some d|none=>xE (cI (il W8 ζ ο l Z g n)) ζ ο l Z g st)=some d:=h
   rw[F]at h;cases h;exact L _ _ F
  |none=>
   have D:kh ζ ο l Z g 1 st=some d->ju c i q st d:=λk=>wN G 1 l st d k
   replace h:(match W8 st with|some d=>some d|none=>xE (cI (il W8 ζ ο l Z g n)) ζ ο l Z g st)=some d:=h
   rw[F]at h;replace h:xE (cI (il W8 ζ ο l Z g n)) ζ ο l Z g st=some d:=h;cases st with
   |If H a f u=>
    obtain⟨m,y,r,s,rfl⟩:=bo h;obtain⟨P,t,w,z,rfl⟩:=bo s;exact uZ ((E H m r).2.1 q) (B a P w) (B f t z)
   |While H f e u=>
    cases e with
    |nil=>
     obtain⟨m,t,r,s,rfl⟩:=bo h;exact pR G.own ((E H m r).2.1 q) (B f t s)
    |cons _ _=>exact D h
   |For K A f e u=>
    cases e with
    |nil=>
     cases K with
     |Name x Y=>
      replace h:(if isSet A=true then none else o2 (kg ζ Z g x) (o2 (gj (cC ζ l Z g) Z A) (cI (il W8 ζ ο l Z g n) f) YC) λo y=>ed (dS o) y.1 y.2)=some d:=h
      split at h
      .cases h
      .rename_i I
       obtain⟨o,y,r,s,rfl⟩:=bo h;obtain⟨Q,t,w,z,rfl⟩:=bo s;obtain⟨R,S,T⟩:=iF G r;exact mG G.own G.calm (jx G.toGoodO E w q _) (iq O R S T) (Bh o) (B f t z) (fA (by simpa using I))
     |Tuple U j p=>
      replace h:(if isSet A=true then none else match eu U with
   |some nms=>o2 (jy ζ Z g nms) (o2 (kZ (cC ζ l Z g) Z A) (cI (il W8 ζ ο l Z g n) f) YC) λJ y=>tA (EI A) (eH J) y.1 y.2
   |none=>none)=some d:=h
      split at h
      .cases h
      .rename_i I
       split at h
       .rename_i nms V
        obtain⟨J,y,r,s,rfl⟩:=bo h;obtain⟨Q,t,w,z,rfl⟩:=bo s;exact tB (mG G.own G.calm (wL G.toGoodO E w q) (nY G V r) (u_ J) (B f t z) (fA (by simpa using I)))
       .cases h
     |_=>exact D h
    |cons _ _=>cases K<;>exact D h
   |_=>exact D h
variable{B:F'}{G:K'}{v:Yc}{x:X_}{θ:Str->Option f'}
theorem aV.toXt{T}(W:aV v x G θ B T b):aV v x G θ B {T with xt:=true} b:=⟨W.de,W.iT,W.fn,W.cst,W.met,W.cls,W.fld,W.clo⟩
variable{N:f'}{Q6:List Str}{X:D'}{h:b'}{ς:Yb}{ω:SM}
theorem mP(W:aV v x G θ B ζ b)(O:ζ.xt=true)(F:yV G d T X N h ς)(P:dn g ο (ai X)=true)(R:cI (il W8 ζ Q6 60 (ai X) g 30) (aT X)=some ω)(U:∀e A outer s H E,cm (b+2) (A.deeper (Yl T (ai X) s.heap.objs.size h e))->GoodO (cW (jj v x) v x G θ B g T (ai X) h e A outer s H E) (cb θ) ζ b (ai X) g ->
      ∀i I,W8 i=some I->ju (cW (jj v x) v x G θ B g T (ai X) h e A outer s H E) (cb θ) (ik (cb θ) E) i I):
    bJ v x G θ B (jj v x) (b+3) h ς ο (gp (cb θ) (bw g.length ο.length ω)):=by
  refine xe F.ex λoc k=>xe k λod l=>xe l λkV n=>xe n λV o=>xe o λpm p=>bj p λan e ct Y t lk u=>?_;subst t
  have w:=fq P;refine zL lk u w (λvs H Q E c=>?_) λA outer s H vs Q E J c=>?_
  · refine bj c λy Z z ds S r a=>?_
    rw[r.length];unfold bw at a;split at a
    · omega
    · exact a.elim
  · refine bj c λy Z z ds S r a=>?_
    have K:GoodO (cW (jj v x) v x G θ _ g _ _ h _ A outer s H E) _ ζ b _ g:=
      { scope:=rfl,names:=rfl,calm:=rfl,room:=J.mono (Zs _ _),de:=W.de,fld:=W.fld,cst:=W.cst
        iT:=λd F c=>⟨W.iT d F c⟩,fn:=λd F c=>⟨W.fn d F c⟩,met:=λm C F c=>⟨W.met m C F c⟩,cls:=λC F c=>bc (W.cls C F c) λj h1 h2=>⟨j,h1,⟨h2⟩⟩,clo:=W.clo }
    refine⟨_,gk (xF ({toGoodO:=K,own:=adm,OI:=λ_ _ _=>.inl rfl,qT:=w.nd,kind:=w.kind,jJ:=λq=>by simp_all}) (U _ A _ s H E J K) 30 60) R y Z H _ z,y,Z,jv S r,?_⟩
    unfold bw at a;split at a
    · cases q:ω _ z with
      |rt D f=>rwa[q]at a
      |nx L f=>rw[q]at a;exact λσ H' a0 Z' M=>a _ H' _ Z' M.gr M.st (a7 rfl)
      |bk L f=>rw[q]at a;exact a.elim
      |ct L f=>rw[q]at a;exact a.elim
      |exc d f=>rwa[q]at a
      |bad=>rwa[q]at a
    · exact a.elim
def fS(C:Str):List (Str×EM)->List (Str×D)->bH->aG->aE D
 |[],a,_,b=>.exc (c_ C a) b
 | (f,m)::r,a,e,b=>match m e b with
  |.ok d c=>fS C r (a++[(f,d)]) e c
  |_=>.bad
def dP(C:Str)(n:Nat)(ms:List (Str×EM))(d:AM):SM:=λe f=>cx (d e f) λc a=>if c.length=n then (match fS C ms [] (none::c.map some) a with
 |.exc x b=>.exc x b
 |_=>.bad)else .bad
variable{e:Hp}{o:b'->Prop}{r:List b'}{y0:HO}
theorem chX(S:bO i r o a e)(p:h∉r)(s:¬ o h)(x:∀y0 u,e h≠some (.eo y0 u))(E:e h≠none):bO i r o a (upd e h y0)/\∀d v,ax r o e d v->ax r o (upd e h y0) d v:=by
 have m:∀d v,ax r o e d v->ax r o (upd e h y0) d v:=λd v g=>g.mono (λ_ _ q=>q) (λf F z q=>by rwa[aD (λw=>s (by simp_all))]) λ_ z=>z
 refine⟨⟨S.qT,?_,S.sep,λf n=>?_⟩,m⟩
 .have l:∀{k:List _}{j:List _},(∀f∈j,f≠h)->aJ (λc f=>gR i (ax r o e) e f c) k j->aJ (λc f=>gR i (ax r o (upd e h y0)) (upd e h y0) f c) k j:=by
   intro k j y A
   induction A with
   |nil=>exact .nil
   |@cons G B k j g t H=>
    refine .cons (g.imp m (λu q=>?_) λb C D q=>?_) (by simp_all)
    .rwa[aD (y B (by simp))]
    .rwa[aD (λw=>x C D (by simp_all))]
  exact l (λf n w=>p (by simp_all)) S.AV
 .by_cases q:f=h
  .simp_all
  .rw[aD q];exact S.dom f n
theorem BW.imp{c Z H b e f}(h:∀d v,ax c Z H d v->ax b e f d v):∀{g}{i},BW c Z H g i->BW b e f g i
 |_,_,.nil=>.nil
 |_,_,.cons a t=>.cons ⟨a.1,h _ _ a.2⟩ (BW.imp h t)
structure VT(κ:Str->b'->Prop)(α:List b')(Z:b'->Prop)(H:Hp)(od:Option b')(as:List (Str×D))(fs:List (Str×V))(α2:List b')(Z2:b'->Prop)(Ω:aG)(H2:Hp):Prop where
 st:bO κ α2 Z2 Ω H2
 gr:cM α Z H α2 Z2 H2
 fl:BW α2 Z2 H2 as fs
 VU:od=none->as=[]/\fs=[]
 Sb:∀dd,od=some dd->H2 dd=some (.xd fs)/\dd∉α2/\¬ Z2 dd/\H dd=none
theorem BX{B Φ l Z aw H e C lo E L Q}(P:bO B l Z aw H)(I:L.length=E.length)(R:∀(i:Nat) d,E[i]?=some (some d)->∃v,L[i]?=some (some v)/\ax l Z H d v){gP Nm}(S:∀p k F c s b t,k.map (·.1)=Nm->VT B l Z H p k F c s b t->ck B Φ l Z H (.exc (c_ C k) b) Q->gP p F t):
  ∀rs p k F c s b t,k.map (·.1)++rs.map (·.1)=Nm->VT B l Z H p k F c s b t->ck B Φ l Z H (fS C rs k E b) Q ->
   nj e lo (rs.map λr=>(r.1,λL H' Q'=>∃J,tO B kF l Z H r.2 E J L H' Q')) p F L t gP
 |[],p,k,F,c,s,b,t,T,x,g=>S p k F c s b t (by simp_all) x g
 | (f,m)::rs,p,k,F,c,s,b,t,T,x,g=>by
  have N:cV B l Z H c s _ E L t:=⟨x.st,x.gr,I,λi d hi=>bc (R i d hi) λv h1 h2=>⟨v,h1,P.cO x.gr h2⟩⟩
  replace g:ck B Φ l Z H (match m E b with|.ok d J=>fS C rs _ E J|_=>.bad) Q:=g
  cases q:m E b with
  |bad=>rw[q]at g;exact g.elim
  |exc z K=>rw[q]at g;exact g.elim
  |ok d K=>
   rw[q]at g;cases p with
   |none=>
    obtain⟨ea,ef⟩:=x.VU rfl;subst ea ef;refine⟨b,c,s,N,?_⟩;dsimp only;rw[q];intro v H3 y O h M U G A a0 b0;obtain⟨X,g4⟩:=M.sQ A False
    exact BX P I R S rs _ _ _ y O K _ (by simp_all) ⟨X,(x.gr.trans h).trans g4,.cons ⟨rfl,M.cO g4 U⟩ .nil,by simp,λd' z=>by
     cases z;exact⟨aS,λj=>M.has _ j A,λj=>M.dom _ j A,(x.gr.trans h).none A⟩⟩ g
   |some G=>
    obtain⟨o1,o2,o3,o4⟩:=x.Sb G rfl;refine⟨b,c,s,N,?_⟩;dsimp only;rw[q];intro v H3 y O h M U;have h3:=h.frm G _ o1 o2
    have Y:G∉y:=λj=>by
     rcases h.Ei G j with z|z
     .exact o2 z
     grind
    have n2:¬ O G:=λj=>by
     rcases h.new G j with z|z
     .exact o3 z
     grind
    obtain⟨X,rp⟩:=chX M Y n2 (λo u z=>by simp_all) (by simp_all)
    refine⟨h3,BX P I R S rs _ _ _ y O K _ (by simp_all) ⟨X,⟨(x.gr.trans h).pre,(x.gr.trans h).sub,(x.gr.trans h).new,(x.gr.trans h).Ei,λa u q j=>by rw[aD (λw=>by simp_all)];exact(x.gr.trans h).frm a u q j,λa j=>by
       have:a≠G:=λw=>by
        obtain⟨n,T⟩:=YL.mp j;exact Y (by rw[←w];exact Yf ((x.gr.trans h).pre n a T))
       rw[aD this];exact(x.gr.trans h).has a j,λa o u q=>by rw[aD (λw=>by simp_all)];exact(x.gr.trans h).eo a o u q⟩,aJ.append (BW.imp rp (BW.imp (λd v r=>x.st.cO h r) x.fl)) (.cons ⟨rfl,rp _ _ U⟩ .nil),by simp,λd' z=>?_⟩ g⟩
    cases z;exact⟨aS,Y,n2,o4⟩
theorem lS{A B:Type}{f:iP->A}{g:B->TE}:∀{rs:List iP}{ms},((rs.zip (ms.map g)).map λr=>(r.1.fld,r.2))=((rs.map (·.fld)).zip ms).map λr=>(r.1,g r.2)
 |[],_=>rfl
 |_::_,[]=>rfl
 |r::rs,m::ms=>by
  have:=lS (f:=f) (g:=g) (rs:=rs) (ms:=ms)
  simp_all
theorem lT{A B T:Type}{g:B->T}{p}:∀{rs:List A}{ms},p∈rs.zip (ms.map g)->∃m,(p.1,m)∈rs.zip ms/\p.2=g m
 |[],_,h=>by cases h
 |_::_,[],h=>by cases h
 |r::rs,m::ms,h=>by
  simp at h ⊢;rcases h with h|h
  .simp_all
  .refine bc (lT h) λa b c=>⟨a,.inr b,c⟩
variable{R:List V}{p:List D}
theorem za(a:aJ (ax r o e) p R)(f:g.length=p.length+1):(start g (.ref h::R)).length=(none::p.map some).length/\∀(i:Nat) d,(none::p.map some)[i]?=some (some d)->∃v,(start g (.ref h::R))[i]?=some (some v)/\ax r o e d v:=by
 have j:=a.length;refine⟨by simp[L2.start];omega,λi d b=>?_⟩
 cases i with
 |zero=>cases b
 |succ i=>
  rw[List.getElem?_cons_succ,YH]at b;obtain⟨k,c,l⟩:=YE.mp b;obtain⟨v,m,n⟩:=a.get c;unfold L2.start
  simp_all
variable{A0 B4 C ψ:b'}{A5:List Yg}{C4 Q5:Str}{E1:XK}{J M0 n:V'}{J0:AM}{L:Yi}{M7:List iP}{O:List x'}{j:x'}{m:g'}
theorem vq{ms}(D:lG G θ C ψ A0 B4 ς X T C4 ο M7)(hr:cm (b+2) (L.deeper (Yl d Z m.heap.objs.size h N)))(hg:Gl (cW (jj v x) v x G θ B g d Z h N L A5 m e E1) Q5)(hm:θ Q5=some (.ref C))(t0:i Q5 C)(c0:wu (cW (jj v x) v x G θ B g d Z h N L A5 m e E1) i (ik i E1) (j::O) J0)(hl:ms.length=M7.length)(u0:M7≠[])(d0:∀A' ot s' y A E',cm b (A'.deeper (Yl T (ai X) s'.heap.objs.size A0 (.ref B4)))->∀p∈M7.zip ms,b_ ((cW eL v x G θ B (C4::ο) T (ai X) A0 (.ref B4) A' ot s' A E').jJ.mk1 y) i kF p.1.ve p.2)(e0:I' (j::O) (Yl d Z m.heap.objs.size h N)=(false,eval j (Yl d Z m.heap.objs.size h N))::I' O (Yl d Z m.heap.objs.size h N))(f0:(Ye J (I' O (Yl d Z m.heap.objs.size h N))).any (·.1)=false)(g0:(Q5==("__debug__"))=false):
  ju (cW (jj v x) v x G θ B g d Z h N L A5 m e E1) i (ik i E1) (.Raise (some (.Call (.Name Q5 n) (j::O) [] J)) none M0) (dP Q5 ο.length ((M7.map (·.fld)).zip ms) J0):=by
 intro U Z0 Y ρ Ω pins s σ H Dn I K;refine cE K λα a0 S K=>?_
 refine yu
  (y8:=λvs A=>∃ds l o M q c,cM U Z0 Y o M A/\bO i o M l A/\aJ (ax o M A) ds vs/\ds.length=ο.length/\fS Q5 ((M7.map (·.fld)).zip ms) [] (none::ds.map some) l=.exc c q/\∀E k u,cM U Z0 Y k u E->bO i k u q E->ik i E1 c q k u E)
  (gP:=λvs A od fs E=>(∃P,od=some P)/\∃q k u w,bO i k u q E/\BW k u E w fs/\(∀P,od=some P->P∉k/\¬ u P)/\ik i E1 (c_ Q5 w) q k u E) D hr hg hm (c0 U Z0 Y ρ Ω) (λvs A fs H' hz=>by obtain⟨⟨P,z⟩,_⟩:=hz;cases z) (λvs A hA A' ot s' y E' h0 he=>?_) e0 f0 g0 _ s σ H Dn I ⟨α,a0,S,?_⟩
 .refine xe hA λds i0=>xe i0 λl j0=>a_ j0 λo M q c g1 s1 l0 m0 e1 h1=>?_
  refine⟨ms.map λR n0 H' Q'=>∃l,tO i kF o M A R (none::ds.map some) l n0 H' Q',by simp[hl],λp hp=>?_,?_⟩
  .refine bc (lT hp) λR o0 e2=>?_
   rw[e2];exact PE.ex λl=>d0 A' ot s' y A E' h0 _ o0 o M A _ l
  .rw[lS (f:=iP.fld)]
   obtain⟨l1,l2⟩:=za (g:=C4::ο) l0 (by simp[m0])
   refine BX (Φ:=ik i E1) (C:=Q5) (Q:=λ_ _=>False) (Nm:=M7.map (·.fld)) s1 l1 l2 (λod w fs k u s0 E hn c F=>?_) _ _ [] [] o M l A ?_ ⟨s1,cM.refl s1.has,.nil,by simp,λ_ z=>(nomatch z)⟩ ?_
   .refine⟨(by
     rw[←hn]
     have p0:∀{w:List (Str×Mir.D)}{fs:List (Str×V)},BW k u E w fs->fs.map (·.1)=w.map (·.1):=by
      intro a q0 b0
      induction b0 with
      |nil=>rfl
      |cons r t ih=>rw[Za,Za,ih,r.1]
     exact p0 c.fl),?_,_,k,u,w,c.st,c.fl,λP z=>⟨(c.Sb P z).2.1,(c.Sb P z).2.2.1⟩,F E k u c.gr c.st⟩
    cases od with
    |none=>
     rw[(c.VU rfl).1]at hn
     simp_all
    |some P=>simp
   .exact ŷ (by simp[hl])
   .rw[e1]
    exact λE k u g2 s2=>h1 E k u (g1.trans g2) s2
 .unfold dP at K
  cases hq:J0 ρ Ω with
  |bad=>rwa[hq]at K
  |exc c l=>rw[hq]at K;exact λA o M F s=>K A o M (S.gr.trans F) s
  |ok xs l=>
   rw[hq]at K;replace K:dZ i _ U Z0 Y Dn (if xs.length=ο.length then (match fS Q5 _ [] _ l with|.exc c q=>.exc c q|_=>.bad)else .bad):=K
   intro vs A o M g1 s1 r1;split at K
   rotate_left
   .exact K.elim
   rename_i r0;split at K
   rotate_left
   .exact K.elim
   rename_i c q hu;refine⟨by rwa[r1.length],⟨xs,l,o,M,q,c,S.gr.trans g1,s1,r1,r0,hu,λE k u g2 s2=>K E k u g2 s2⟩,?_⟩
   rintro fs E P ⟨_,v0,k,u,w,s2,fl,hz,C',w0,z,hh⟩ x0;obtain⟨rfl,rfl⟩:=BV z
   simp_all
def IW(X)(d:Str->b'->Prop)(Φ)(a:L2.St)(e m):=∀b f g h i,PE X e (λc H Q=>c=a/\tO d Φ b f g m h i c H Q)
def Ko(X)(f:Str->b'->Prop)(Φ)(a:L2.St)(b:List D')(c):=∀d g h i j,iO X b (λD e H=>e=a/\LZ f Φ d g h c i j D e H)
def fH(C m:Str)(F:a5)(d:EM)(e:AM):EM:=λc f=>(d c f).bind λx a=>match nU a x with
 |some (_,g,h)=>if g=C/\h.lookup m=none then (e c a).bind λi b=>F (x::i) b else .bad
 |none=>.bad
variable{Q:x'}{u0:L2.St}
theorem pZ(G:∀a,i d a->a=h)(e:oD c.K h)(I:Meth c.K h T C)(F:bJ c.prog c.w c.K c.mg c.base (jj c.prog c.w) b C ς g (gp i H))(L:cm b c.A)(M:Binds c.K ς g [])(N:fh c u0 E1)(P:b_ c i (ik i E1) Q t)(R:wu c i (ik i E1) (j::O) J0){pl}(U:I' (j::O) c.env=(false,eval j c.env)::I' O c.env)(o:(Ye n (I' O c.env)).any (·.1)=false)(V:eval (.Call (.Attribute Q T J) (j::O) [] n) c.env=(do
   let y ←eval Q c.env
   Zi J.atName
   let (C,first) ←Zo [y] (Zy y T pl)
   ZK n C first (Ye n (I' (j::O) c.env)) (Ze n (Zf [] c.env)))):
  IW c i (ik i E1) u0 (.Call (.Attribute Q T J) (j::O) [] n) (fH d T H t J0):=by
 intro k z B D X;refine PE.imp (Ag (P k z B D X) e I F L M N (PA.ex λl=>R k z B D l) U o V) ?_
 rintro σ p q ⟨rfl,Y,Z,S,f⟩;refine⟨rfl,Y,Z,S,ck.use f λx l _ v H1 a0 Z1 g1 r E m=>?_⟩
 split at m
 .rename_i s C' fs hk
  split at m
  .rename_i hc
   obtain⟨rfl,hl⟩:=hc;refine a_ (ij r E hk) λa b0 dx c0 u d0 _ q1 q2 q3=>?_;subst u;obtain rfl:=G _ q1
   exact⟨a,dx,_,rfl,q2,(gE q3).2 hl,_,_,Z1,S.grow g1 r,pJ.use m λxs e0 _ vs H2 f0 Z2 g2 s2 r2 k2=>⟨_,Z2,_,_,s2,.cons (r.cO g2 E) r2,k2⟩⟩
  .exact m.elim
 .exact m.elim
variable{D1:b'->Prop}{F7:Option V}{x0:List b'}{π:Hp}
theorem cV.MU(S:cV i r o e x0 D1 a y u0 π):cV i r o e x0 D1 a (y.set b none) (u0.set b F7) π:=
 ⟨S.st,S.gr,by rw[Ź,Ź];exact S.len,λj d h=>by
  by_cases c:b=j
  .rw[ź]at h
   simp_all
  .rw[Ø c]at h ⊢
   exact S.val j d h⟩
noncomputable def wBYx(st:D'):Option {r:Str×x'×List x'//∃p q s,st=.Raise (some (.Call (.Name r.1 p) (r.2.1::r.2.2) [] q)) none s}:=match st with
 |.Raise (some (.Call (.Name x _) (a::b) [] _)) none _=>some ⟨(x,a,b),_,_,_,rfl⟩
 |_=>none
noncomputable def BY(st:D'):=(wBYx st).map (·.1)
theorem vt(q:BY X=some (d,j,O)):∃p a b,X=.Raise (some (.Call (.Name d p) (j::O) [] a)) none b:=by
 obtain⟨⟨_,k⟩,_,l⟩:=YE.mp q;cases l;exact k
theorem aZ{A B:Type}{x:Option A}{f}{b:B}(h:x.bind f=some b):∃a,x=some a/\f a=some b:=é.mp h
def xG(T b N a n)(ms:List (Str×EM))(st):=
 (BY st).bind λc=>(cZ (cC T 60 b N) (c.2.1::c.2.2)).bind λd=>if c.1==a&&wj b a&&!(a==("__debug__"))then some (dP a n ms d)else none
theorem oq{ms}(D:lG G θ C ψ A0 B4 ς X T C4 ο M7)(w:cm (b+2) (L.deeper (Yl d Z m.heap.objs.size h N)))(o:θ Q5=some (.ref C))(f:GoodO (cW (jj v x) v x G θ B g d Z h N L A5 m e E1) (cb θ) ζ b Z g)(y:ms.length=M7.length)(j:M7≠[])(k:∀r z s c A E,cm b (r.deeper (Yl T (ai X) s.heap.objs.size A0 (.ref B4)))->∀p∈M7.zip ms,b_ ((cW eL v x G θ B (C4::ο) T (ai X) A0 (.ref B4) r z s A E).jJ.mk1 c) (cb θ) kF p.1.ve p.2)(st t)(a:xG ζ Z g Q5 ο.length ((M7.map (·.fld)).zip ms) st=some t):ju (cW (jj v x) v x G θ B g d Z h N L A5 m e E1) (cb θ) (ik (cb θ) E1) st t:=by
 obtain⟨⟨l,F,H⟩,v1,a⟩:=aZ a;refine bc (aZ a) λP I a=>?_
 split at a
 rotate_left
 .cases a
 rename_i u;cases a;simp only[Yv,ZH,beq_iff_eq]at u;obtain⟨⟨J,K⟩,M⟩:=u;subst J;obtain⟨Q,R,S,rfl⟩:=vt v1;obtain⟨O,n⟩:=bU (λc i q=>dB 60 _ _ g c i f q) I
 exact vq D w (f.gl K) o o (O _) y j k (bF (n F (by simp))) (bG (by simp_all)) M
theorem xH(W:aV v x G θ B ζ b)(F:yn G d T X h ς)(o:dn g ο (ai X)=true)(w:∀f A outer s H E,eJ (cW eL v x G θ B g T (ai X) h f A outer s H E).jJ (cb θ) ζ b (ai X) g->kX (cW eL v x G θ B g T (ai X) h f A outer s H E).jJ (cb θ) kF (aT X) ω):
    bJ v x G θ B eL (b+1) h ς ο (cN (cb θ) (bw g.length ο.length ω)):=by
  refine F.ok (fq o) (λy H Q E c=>?_) λf A outer s H y Q E z c=>?_
  · refine bj c λk Z l D S r a=>?_
    rw[r.length];unfold bw at a;split at a
    · omega
    · exact a.elim
  · refine bj c λk Z l D S r a=>?_
    have p:=fq o
    have i:eJ (cW eL v x G θ _ g _ (ai X) h _ A outer s H E).jJ _ ζ b _ g:=
      { scope:=rfl,names:=rfl,calm:=rfl,room:=z,de:=W.de,own:=abC,OI:=λ_ _ _=>.inl rfl,qT:=p.nd,kind:=p.kind,jJ:=λ_ _ _ c=>c,fld:=W.fld,cst:=W.cst
        iT:=λd F c=>⟨W.iT d F c⟩,fn:=λd F c=>⟨W.fn d F c⟩,met:=λm C F c=>⟨W.met m C F c⟩,cls:=λC F c=>bc (W.cls C F c) λj I J=>⟨j,I,⟨J⟩⟩,clo:=W.clo }
    refine⟨_,w _ A _ s H E i k Z H _ l,k,Z,jv S r,?_⟩;unfold bw at a;split at a
    · cases q:ω _ l with
      |rt n e=>rwa[q]at a
      |nx t e=>rw[q]at a;exact λN K L M u=>a _ K _ M u.gr u.st (a7 rfl)
      |bk t e=>rw[q]at a;exact a.elim
      |ct t e=>rw[q]at a;exact a.elim
      |exc d e=>rwa[q]at a
      |bad=>rwa[q]at a
    · exact a.elim
def BZ(x:D)(a:aG):aE D:=match dY a x with
 |some b=>jZ a (.lst b.reverse)
 |none=>.bad
noncomputable def MV:D'->Option x'
 |.Return (some e) _=>some e
 |_=>none
theorem B_(h:MV X=some j):∃p,X=.Return (some j) p:=by
 cases X<;>try cases h
 rename_i v p;cases v<;>cases h
 simp
def Sd(f:x')(p:V')(a:List x')(b:List Ê):=match f,a,b with
 |.Name l _,[e],[]=>some (l,e)
 |_,_,_=>none
def Se:x'->Option (Str×x')
 |.Call f a b p=>Sd f p a b
 |_=>none
theorem xI(h:Se j=some (d,Q)):∃q p,j=.Call (.Name d q) [Q] [] p:=by
 cases j<;>try cases h
 rename_i f r b p;cases f<;>try cases h
 rcases r with _|⟨a,_|_⟩<;>try cases h
 cases b<;>cases h
 grind
def GI(T a N st):=(MV st).bind λx=>(Se x).bind λu=>(Se u.2).bind λv=>
 if u.1==("list")&&v.1==("reversed")&&wj a u.1&&wj a v.1 then (cC T 60 a N v.2).map (λm=>bY (m1 BZ m))else none
theorem Cb(G:GoodO c i ζ b Z g)(st f)(h:GI ζ Z g st=some f):ju c i q st f:=by
 obtain⟨x,v1,n⟩:=aZ h;obtain⟨⟨l,y⟩,v2,o⟩:=aZ n;obtain⟨⟨r,e⟩,p,d⟩:=aZ o;obtain⟨J,rfl⟩:=B_ v1;obtain⟨K,L,rfl⟩:=xI v2;obtain⟨M,N,rfl⟩:=xI p;split at d
 .rename_i k
  simp only[Yv]at k;obtain⟨⟨⟨s,t⟩,u⟩,w⟩:=k;obtain rfl:=eq_of_beq s;obtain rfl:=eq_of_beq t;obtain⟨m,z,rfl⟩:=cY d;have E:=dB 60 c Z g _ m G z
  exact mF (mD (λO A=>uT G.calm (G.gl u) (G.de _ (by decide)) (G.gl w) (G.de _ (by decide)) (by rw[bF E.2.2];rfl) A) (E.1 q) λP x R j T H Q S B d=>by
     unfold BZ at d;split at d
     .rename_i U C
      obtain⟨a,D,rfl,F,I⟩:=bA S B C;exact⟨a,D,rfl,F,fC S I.reverse d⟩
     .exact d.elim)
 .cases d
noncomputable def cP(s:qR):D:=.tup [.str s.1,.str s.2.1,.int s.2.2]
def Cd(e:a5):=∀c k f b n,Rw c k f b->b.length<=1000->∃d a,e [.ref k,.str n] c=.ok d a/\af [] c a/\((d=.non/\∀r∈b,n∉r.tail)\/∃i:Nat,d=.int i/\∃r,b[i]?=some r/\n∈r.tail)
theorem MW:Cd (bw 4 2 tJ):=λ_ _ _ _ _ R a=>Bv R a
def Sf:=(bK (m2 aL (aa 0) (aj (.int 0))) false (aa 0) (ba (aa 0)) 0 [])
def tR:=(m2 (aI .NotIn) (aa 2) (aa 3))
def hR:=(m2 aL (m2 aL (aa 0) (aa 5)) (aj (.int 0)))
def bR(a):=
 (ao (cG (dv jr bX (aa 3) (ae (aa 2) ah)))
 (ao (aA 5 (mN (aQ a) (ae (aa 0) (ae (aa 2) ah))))
 (ao (cG (dv jr bX (aa 4) (ae (mN gU (ae hR (ae (aa 2) (ae (aa 5) ah)))) ah)))
 (ao (aA 2 hR)
 ak))))
def IX(a):=
 (ao (aA 1 Sf)
 (ao (aA 2 (m2 aL (aa 1) (aj (.int 0))))
 (ao (aA 3 (mN bt ah))
 (ao (aA 4 (mN bt ah))
 (ao (ig tR (bR a))
 (ao (bY (m1 BZ (du (aa 4) false (dv jr e_ (aa 3) (ae (aa 2) ah)) true (aj .non))))
 ak))))))
variable{D2 P0 o0 χ:Option D}
theorem tS(R:Rw a b I M)(e:M[s]?=some (d::g)):hR [some (.ref b),χ,o0,P0,D2,some (.int s)] a=.ok (.str d) a:=by
 obtain⟨j,f,c⟩:=R.al.at e;have h:aL _ (.int 0) a=.ok _ a:=bP c (L2.cq rfl);simp[hR,(bP R.ce (L2.cq (by rw[YH,f];rfl))),h]
variable{P7:List qR}
theorem MX(C:Cd H)(R:Rw a b I M)(D:M.length<=1000)(n:a[s]?=some (.lst (g.map .str)))(E:a[Θ]?=some (.lst (P7.map cP)))(z:s≠Θ)(F:s≠b)(G:Θ≠b)(d4:s∉I)(d5:Θ∉I)(J:∃r∈M,d∈r.tail)(l1:g.length<=1000)(l2:P7.length<=1000):
  ∃(p:Nat) (h:Str) (t:List Str) (aw:aG),M[p]?=some (h::t)/\d∈t/\bR H [some (.ref b),χ,some (.str d),some (.ref s),some (.ref Θ),o0] a=.nx [some (.ref b),χ,some (.str h),some (.ref s),some (.ref Θ),some (.int p)] aw /\
   Rw aw b I M/\aw[s]?=some (.lst ((g++[d]).map .str))/\aw[Θ]?=some (.lst ((P7++[(h,d,p)]).map cP))/\af [s,Θ] a aw:=by
 have K:=dC (l:=.str d) n (by simp;omega)
 have L:=di n;have o:af [s] a (a.set s (.lst (g.map .str++[.str d]))):=af.set (by simp)
 have m1:(a.set s (.lst (g.map .str++[.str d])))[s]?=some (.lst ((g++[d]).map .str)):=by rw[aK n];simp
 have N:(cG (dv jr bX (aa 3) (ae (aa 2) ah))) [some (.ref b),χ,some (.str d),some (.ref s),some (.ref Θ),o0] a=.nx [some (.ref b),χ,some (.str d),some (.ref s),some (.ref Θ),o0] (a.set s (.lst (g.map .str++[.str d]))):=by
  rw[cf,eg (l:=.ref s) (η:=a) (by simp) L]
  simp[K]
 generalize a.set s (.lst (g.map .str++[.str d]))=f at *;have i:Rw f b I M:=R.pX o (by simpa using Ya F) (λj q h=>d4 (by rw[←W'.mp h];exact q))
 refine aF (C f b I M d i D) λu c O m P=>?_
 rcases P with ⟨_,Q⟩|⟨p,rfl,r,w,A⟩
 .refine bc J λr S T=>?_
  exact absurd T (Q r S)
 cases r with
 |nil=>simp at A
 |cons h t=>
 have U:(aA 5 (mN (aQ H) (ae (aa 0) (ae (aa 2) ah)))) [some (.ref b),χ,some (.str d),some (.ref s),some (.ref Θ),o0] f=.nx [some (.ref b),χ,some (.str d),some (.ref s),some (.ref Θ),some (.int p)] c:=by simp[O]
 have R2:=i.keep m;have m2:=m.get _ _ m1 (by simp)
 have x:=m.get _ _ (o.get _ _ E (by simpa using Ya z)) (by simp)
 have V:=dC (l:=cP (h,d,p)) x (by simp;omega)
 have X:=di x;have y:af [Θ] c (c.set Θ (.lst (P7.map cP++[cP (h,d,p)]))):=af.set (by simp)
 have Y:(c.set Θ (.lst (P7.map cP++[cP (h,d,p)])))[Θ]?=some (.lst ((P7++[(h,d,p)]).map cP)):=by rw[aK x];simp
 have Z:=y.get _ _ m2 (by simpa using z)
 have r3:(cG (dv jr bX (aa 4) (ae (mN gU (ae hR (ae (aa 2) (ae (aa 5) ah)))) ah))) [some (.ref b),χ,some (.str d),some (.ref s),some (.ref Θ),some (.int p)] c=.nx [some (.ref b),χ,some (.str d),some (.ref s),some (.ref Θ),some (.int p)] (c.set Θ (.lst (P7.map cP++[cP (h,d,p)]))):=by
  rw[cf,eg (l:=.ref Θ) (η:=c) (by simp) X]
  have e:(ae (mN gU (ae hR (ae (aa 2) (ae (aa 5) ah)))) ah) [some (.ref b),χ,some (.str d),some (.ref s),some (.ref Θ),some (.int p)] c=.ok [cP (h,d,p)] c:=by
   simp[(tS R2 w),aP,cP]
  rw[e];simp[V]
 generalize c.set Θ (.lst (P7.map cP++[cP (h,d,p)]))=k at *;have B:Rw k b I M:=R2.pX y (by simpa using Ya G) (λj q h=>d5 (by rw[←W'.mp h];exact q))
 refine⟨p,h,t,k,w,A,?_,B,Z,Y,?_⟩
 .unfold bR
  rw[ag,N,ay,ag,U,ay,ag,r3,ay,ag,bg,(tS B w)];rfl
 .exact((o.sub (by simp)).trans (cD.up m)).trans (y.sub (by simp))
theorem IY(C:Cd H)(o:M.length<=900)(q:∀h,(∃r∈M,∃t,r=h::t)->∃r∈M,h∈r.tail)(E:s≠Θ)(F:s≠b)(G:Θ≠b)(d4:s∉I)(d5:Θ∉I):
  ∀m i f steps name l,Rw i b I M->i[s]?=some (.lst (f.map .str))->i[Θ]?=some (.lst (steps.map cP))->zu M f steps name->M.length - f.length<m ->
   ∃e a d j aw,dA tR (bR H) m [some (.ref b),χ,some (.str name),some (.ref s),some (.ref Θ),l] i=.nx [some (.ref b),χ,some (.str d),some (.ref s),some (.ref Θ),j] aw /\
    zu M e a d/\d∈e/\aw[s]?=some (.lst (e.map .str))/\aw[Θ]?=some (.lst (a.map cP))/\af [s,Θ] i aw:=by
 intro m
 induction m with
 |zero=>simp
 |succ m J=>
  intro i f steps name l R u z c K
  have w:tR [some (.ref b),χ,some (.str name),some (.ref s),some (.ref Θ),l] i=.ok (.bl (!decide (name∈f))) i:=by
   simp[tR,(ky u),-jz]
  by_cases g:name∈f
  .rw[decide_eq_true g]at w
   refine⟨_,_,_,l,i,?_,c,g,u,z,af.refl⟩;simp only[dA,w];rfl
  .have A:=c.le
   have n:=c.len;refine a_ (MX C (χ:=χ) (o0:=l) R (bS o) u z E F G d4 d5 (q _ (c.hds name (by simp))) (bS (B' A o)) (bS (B' (B' (M' n) A) o))) λp h t L N x Y y m1 k=>xa k λO P=>?_
   have B:=c.step g N x;have Q:=B.le;refine xe (J _ _ _ h (some (.int p)) y m1 O B (by grind)) λe k=>a_ k λa d j S Z T U m2 V X=>?_
   refine⟨_,_,_,j,_,?_,T,U,m2,V,P.trans X⟩;simp only[dA,w]
   simp_all
variable{E3:Option D}
theorem IZ(R:Rw a b I M)(l:M.length<=1000):Sf [some (.ref b),χ,o0,P0,D2,E3] a=.ok (.ref a.length) (a++[.lst (((M.filter λr=>!r.isEmpty).map λr=>r.headD "").map .str)]):=by
 have g:ba (aa 0) [some (.ref b),χ,o0,P0,D2,E3] a=.ok (.seq _) a:=aM (by rw[az,av R.ce])
 have m:=R.len
 have e:∀d∈I.map D.ref,∃(j:Nat) (c:List Str),d=.ref j/\a[j]?=some (.lst (c.map .str)):=λd f=>by
  obtain⟨j,n,rfl⟩:=YG.mp f;obtain⟨i,o⟩:=YL.mp n;obtain⟨c,_,p⟩:=R.al.at' o;exact⟨j,c,rfl,p⟩
 have q:=cz (t:=m2 aL (aa 0) (aj (.int 0))) (E:=false) (ν:=aa 0) (I:=[]) (D8:=λd=>(iS a d).getD false) (f7:=λd=>match aL d (.int 0) a with|.ok x _=>x|_=>.non) g (by rw[bC,az,av R.ce]) (λd f=>by
  obtain⟨j,c,rfl,h⟩:=e d f;have:=fF h;simp[gh,dw,this]) (λd f s=>by
  obtain⟨j,c,rfl,h⟩:=e d f;cases c with
  |nil=>simp[(fF h)]at s
  |cons x t=>
   have k:aL _ (.int 0) a=.ok _ a:=bP h (L2.cq rfl)
   simp_all) (by simp;exact bS (B' (M' m.symm) l))
 refine q.trans ?_
 congr 4
 have:∀{I:List Nat}{M:List _},kA a I M->((I.map D.ref).filter λd=>(iS a d).getD false).map (λd=>match aL d (.int 0) a with|.ok x _=>x|_=>.non)=((M.filter λr=>!r.isEmpty).map λr=>r.headD "").map .str:=by
  intro I M h
  induction h with
  |nil=>rfl
  |@cons j c I M r t w=>
   have y:=fF r;cases c with
   |nil=>
    simp_all
   |cons x u=>
    have k:=bP r (L2.cq (b:=0) rfl)
    simp_all
 exact this R.al
def Ce(e:a5):=∀c k f b,Rw c k f b->b.length<=900->(∃r∈b,r≠[])->free b=none->∃d q a,e [.ref k] c=.ok (.ref q) a/\a[q]?=some (.lst (d.map cP))/\Gn b d/\d.length<=b.length/\af [] c a
theorem MY(X:Cd H):Ce (bw 6 1 (IX H)):=by
 intro f k js i R z A Y;rw[bh (by rfl)]
 have Z:a9 6 [D.ref k]=[some (.ref k),none,none,none,none,none]:=rfl;rw[Z]
 have B:∀h,(∃r∈i,∃t,r=h::t)->∃r∈i,h∈r.tail:=by
  rintro h ⟨r,C,t,rfl⟩
  by_cases q:∃t∈i,h∈t.tail
  .exact q
  .obtain⟨n,e⟩:=Eg C (dq q)
   rw[Y]at e;cases e
 have P:=IZ (χ:=none) (o0:=none) (P0:=none) (D2:=none) (E3:=none) R (bS z)
 obtain⟨g,o,E,r0,F,t0,G⟩:∃g o,((i.filter λr=>!r.isEmpty).map λr=>r.headD "")=g::o/\∃r∈i,∃t,r=g::t:=by
  refine bc A λr C hn=>?_
  have p:r∈i.filter λr=>!r.isEmpty:=Zm.mpr ⟨C,by cases r<;>simp at hn ⊢⟩
  cases q:i.filter λr=>!r.isEmpty with
  |nil=>rw[q]at p;simp at p
  |cons w l=>
   have h1:w∈i.filter λr=>!r.isEmpty:=by rw[q];simp
   obtain⟨h2,y⟩:=Zm.mp h1;cases w with
   |nil=>simp at y
   |cons x t=>exact⟨x,_,rfl,_,h2,t,rfl⟩
 rw[E]at P;have u:af [] f (f++[Cell.lst ((g::o).map D.str)]):=af.app;have g1:(f++[Cell.lst ((g::o).map D.str)])[f.length]?=some (.lst ((g::o).map .str)):=aq;have w:(aA 1 Sf) [some (.ref k),none,none,none,none,none] f=.nx [some (.ref k),some (.ref f.length),none,none,none,none] (f++[Cell.lst ((g::o).map D.str)]):=by rw[bg,P];rfl
 have l1:f.length<(f++[Cell.lst ((g::o).map D.str)]).length:=by simp
 generalize Q:f++[Cell.lst ((g::o).map D.str)]=a at *;have I:aL (.ref f.length) (.int 0) a=.ok (.str g) a:=bP g1 (L2.cq (b:=0) rfl);have r2:(aA 2 (m2 aL (aa 1) (aj (.int 0)))) [some (.ref k),some (.ref f.length),none,none,none,none] a=.nx [some (.ref k),some (.ref f.length),some (.str g),none,none,none] a:=by simp[I]
 have r3:(aA 3 (mN bt ah)) [some (.ref k),some (.ref f.length),some (.str g),none,none,none] a=.nx [some (.ref k),some (.ref f.length),some (.str g),some (.ref a.length),none,none] (a++[Cell.lst []]):=by simp[aP]
 have r4:(aA 4 (mN bt ah)) [some (.ref k),some (.ref f.length),some (.str g),some (.ref a.length),none,none] (a++[Cell.lst []])=.nx [some (.ref k),some (.ref f.length),some (.str g),some (.ref a.length),some (.ref (a.length+1)),none] (a++[Cell.lst []]++[Cell.lst []]):=by simp[aP]
 have S:af [] a (a++[Cell.lst []]++[Cell.lst []]):=af.app.trans af.app;have g3:(a++[Cell.lst []]++[Cell.lst []])[a.length]?=some (.lst (([]:List Str).map .str)):=by simp
 have g4:(a++[Cell.lst []]++[Cell.lst []])[a.length+1]?=some (.lst (([]:List qR).map cP)):=by simp
 generalize a++[Cell.lst []]++[Cell.lst []]=J at *;have R2:=(R.keep u).keep S;have T:=bf (R.keep u).ce;have U:=(R.keep u).al.lt;have c0:zu i [] [] g:=⟨rfl,rfl,by simp,by simp,λm p=>by simp at p;subst p;exact⟨r0,F,t0,G⟩⟩
 refine xe (IY X (χ:=some (.ref f.length)) (s:=a.length) (Θ:=a.length+1) z B (by omega) (Ym T) (Ym (U' T (Zs _ _))) (λh=>by have:=U _ h;exact Yr _ this) (λh=>by have:=U _ h;exact Yr _ (U' this (Zs _ _))) fuel J [] [] g none R2 g3 g4 c0 (by unfold fuel;simp;exact kG z)) λd K=>a_ K λsteps name L c e3 M y V q3 K3=>?_
 have hi:=pT V y;have iL:=di V
 have N:h_ (.ref (a.length+1)) (some ((d.idxOf name:Nat):Int)) none c=.ok (.ref c.length) (c++[.lst ((steps.drop (d.idxOf name)).map cP)]):=by
  simp only[h_,av q3,gG,qQ,Ď]
 have K4:af [] c (c++[Cell.lst ((steps.drop (d.idxOf name)).map cP)]):=af.app
 have O:(dv jr e_ (aa 3) (ae (aa 2) ah)) [some (.ref k),some (.ref f.length),some (.str name),some (.ref a.length),some (.ref (a.length+1)),L] c=.ok (.int (d.idxOf name:Nat)) c:=by
  rw[eg (l:=.ref a.length) (η:=c) (by simp) iL]
  simp[hi]
 have r5:(m1 BZ (du (aa 4) false (dv jr e_ (aa 3) (ae (aa 2) ah)) true (aj .non))) [some (.ref k),some (.ref f.length),some (.str name),some (.ref a.length),some (.ref (a.length+1)),L] c=.ok (.ref (c.length+1)) (c++[Cell.lst ((steps.drop (d.idxOf name)).map cP)]++[.lst ((steps.drop (d.idxOf name)).reverse.map cP)]):=by
  have:(du (aa 4) false (dv jr e_ (aa 3) (ae (aa 2) ah)) true (aj .non)) [some (.ref k),some (.ref f.length),some (.str name),some (.ref a.length),some (.ref (a.length+1)),L] c=.ok (.ref c.length) (c++[Cell.lst ((steps.drop (d.idxOf name)).map cP)]):=by
   simp[O,N]
  rw[Md,this,au];simp only[BZ,av aq,gG,abI];simp
 refine⟨(steps.drop (d.idxOf name)).reverse,c.length+1,c++[Cell.lst ((steps.drop (d.idxOf name)).map cP)]++[.lst ((steps.drop (d.idxOf name)).reverse.map cP)],?_,?_,M.ring y,?_,?_⟩
 rotate_left
 .rw[show c.length+1=(c++[Cell.lst ((steps.drop (d.idxOf name)).map cP)]).length by simp]
  exact aq
 .have:=M.le
  have:=M.len;simp;omega
 .refine af.new (fp:=[a.length,a.length+1]) (u.trans S) (K3.trans (cD.up (K4.trans af.app))) (λj hj=>?_)
  simp at hj;have:=u.len;omega
 .unfold IX
  rw[ag,w,ay,ag,r2,ay,ag,r3,ay,ag,r4,ay,ag];unfold ig;rw[e3,ay,ag,fQ,r5];rfl
def Kp(C f)(x:D):=match x with
 |.tup [.str c,.tup [.str a,d]]=>if c=C/\a=f then some d else none
 |_=>none
variable{Y l:D}
theorem Fq(h:Kp d T l=some Y):l=c_ d [(T,Y)]:=by
 unfold Kp at h;split at h
 .split at h
  .rename_i a;cases h;rw[a.1,a.2];rfl
  .cases h
 .cases h
theorem Cf:Kp d T (c_ d [(T,l)])=some l:=by simp[Kp,c_]
def kC(g:SM)(h f:Str)(j:D->SM)(i:Nat):SM:=λe k=>match g e k with
 |.exc x a=>(match Kp h f x with
  |some d=>(match j d (e.set i none) a with
   |.nx b c=>.nx (b.set i none) c
   |_=>.bad)
  |none=>.bad)
 |r=>r
noncomputable def Kr:List D->Option (List (Str×D))
 |[]=>some []
 |.tup [.str a,d]::t=>(Kr t).map ((a,d):: ·)
 |_=>none
theorem xJ:∀{l}{b},Kr l=some b->l=b.map λp=>.tup [.str p.1,p.2]
 |[],_,h=>by cases h;rfl
 |x::t,b,h=>by
  unfold Kr at h;split at h
  .simp_all
  .rename_i a d f e
   cases e;obtain⟨g,c,rfl⟩:=YE.mp h;rw[xJ c];rfl
  .cases h
theorem Cg:∀{a},Kr (a.map λp=>.tup [.str p.1,p.2])=some a
 |[]=>rfl
 |p::t=>by simp[Kr,Cg]
def jD(x:D):=match x with
 |.tup (.str c::a)=>(Kr a).map λ_=>c
 |_=>none
theorem tT(h:jD l=some d):∃a,l=c_ d a:=by
 unfold jD at h;split at h
 .obtain⟨g,b,rfl⟩:=YE.mp h
  exact⟨g,by rw[xJ b];rfl⟩
 .cases h
theorem iK:jD (c_ d M5)=some d:=by simp[jD,c_,Cg]
def je(e:SM)(f g:Str)(h i:SM):SM:=λd j=>match e d j with
 |.exc x c=>if jD x=some f then (match h d c with
   |.nx a b=>.nx a b
   |_=>.bad)else if jD x=some g then (match i d c with
   |.nx a b=>.nx a b
   |_=>.bad)else .bad
 |r=>r
variable{A1:x'}{d7:D->D->aG->aE D}{n5:R2}{ν:EM}
theorem Fs(h:∀s tb,PE c j s->PE c Q tb->PE c A1 (Hm n5 s tb))(p:b_ c i q j t)(r:IW c i q u0 Q ν)(E:∀u z x y f Z k H a,bO i f Z k H->ax f Z H u x->ax f Z H z y->ck i q f Z H (d7 u z k) a->n5 x y H a):IW c i q u0 A1 (m2 d7 t ν):=by
 intro e m n l k;rcases b:t l k with ⟨d,o⟩|⟨x,o⟩|_
 .refine PE.imp (h _ _ (p e m n l k) (r e m n l o)) ?_
  rintro A H a ⟨rfl,f,Z,S,g⟩;refine⟨f,Z,S,ck.use g λX B C v Y F G I D J K=>?_⟩
  rw[b]at C;cases C;refine⟨rfl,_,G,S.grow I D,K.use λL M _ w N O P R T U V=>E d L v w _ P _ N a T (D.cO R J) U V⟩
 .refine PE.imp (h _ _ (p e m n l k) (r e m n l k)) ?_
  rintro A H a ⟨rfl,f,Z,S,g⟩;refine⟨f,Z,S,?_⟩;simp only[m2,b,aE.bind]at g ⊢;exact g
 .refine PE.imp (h _ _ (p e m n l k) (r e m n l k)) ?_
  rintro A H a ⟨rfl,f,Z,S,g⟩;simp only[m2,b,aE.bind]at g;exact g.elim
theorem p_(F:bJ c.prog c.w c.K c.mg c.base (jj c.prog c.w) b h ς g (gp i H))(m:cm b c.A)(o:Gl c d)(p:c.mg d=some (.ref h))(q:Yp c.K (.ref h)=true)(r:Binds c.K ς g [])(s:fh c u0 E1)(e:(d==("__debug__"))=false)(t:I' (j::O) c.env=(false,eval j c.env)::I' O c.env)(f:(Ye J (I' O c.env)).any (·.1)=false)(u:wu c i (ik i E1) (j::O) J0):
  IW c i (ik i E1) u0 (.Call (.Name d n) (j::O) [] J) (mN H J0):=by
 intro k x y z B;refine PE.imp (Af F m o p q r s (u k x y z B) e t f) ?_;rintro P l Q ⟨rfl,C,Z,S,a⟩;exact⟨rfl,C,Z,S,pJ.use a λD E _ R T G I U L M N=>⟨_,I,_,D,L,M,N⟩⟩
variable{N5:EM}
theorem Ci(z:c.A.units+1<Yk)(B:b_ c i q Q t)(C:b_ c i q A1 ν)(D:IW c i q u0 j N5)(F:YR j (some (.Subscript Q A1 J)) n.line c.env=pure false):Ko c i q u0 [.Assign [.Subscript Q A1 J] j n] (dh t ν N5):=by
 intro e h k l G;refine iO.imp (qk (qC z (PE.ex λb=>B e h k l b) (PE.ex λb=>C e h k l b) (D e h k l G) F)) ?_
 rintro E I H ⟨rfl,K,Z,S,f⟩;refine⟨rfl,K,Z,S,dZ.use S f λd b v H1 L M _ g1 m N O=>⟨_,_,M,m,dZ.use m O λx P w H2 R T _ U g V X=>⟨_,_,T,g,dZ.use g X λy Y u H3 a0 Z3 _ p r r3 o=>?_⟩⟩⟩
 split at o
 .rename_i b0 hq
  obtain⟨a,s,rfl,h1,s4,g4⟩:=nV r.st (g.st.cO p V) r3 (g.st.cO p (m.st.cO U N)) hq;exact⟨a,s,rfl,h1,o I s _ Z3 (r.grow g4 s4)⟩
 .exact o.elim
theorem Fu(h:IW c i q u0 j t)(b:YR j none n.line c.env=pure false):Ko c i q u0 [.Expr j n] (cG t):=by
 intro a e g k l;refine iO.imp (qk (vD (h a e g k l) b)) ?_;rintro E x H ⟨rfl,m,Z,S,f⟩;exact⟨rfl,m,Z,S,dZ.use S f λd o v p r s _ y u z w=>w _ p _ s u⟩
def putD(j k:Nat)(d):=dh (aa j) (aa k) λ_ a=>.ok d a
variable{A7 S5 Z8:V'}{Ξ:Obj}
theorem Fv(hu:c.A.units+1<Yk)(q:QW c h ψ Ξ C A0 B4)(na:dm c.K ψ Q5)(hi:c.N[b]?=some d)(hv:rQ c.env.scope d)(r:(d==("__debug__"))=false)(t:(d==("__classdict__"))=false)(hj:c.N[s]?=some T)(z:rQ c.env.scope T)(B:(T==("__debug__"))=false)(F:(T==("__classdict__"))=false)(hk:c.N[Θ]?=some C4)(G:rQ c.env.scope C4)(I:(C4==("__debug__"))=false)(L:(C4==("__classdict__"))=false)(e j k l M U v):
  iO c [.Assign [.Subscript (.Name T n) (.Name C4 J) M0] (.Attribute (.Name d S5) Q5 A7) Z8] (λD m H=>H C=some (.xd [(Q5,v)])/\m[b]?=some (some (.ref h))/\∃o Z,cV i e j k o Z M l m H/\ax o Z H U v/\dZ i kF e j k D (putD s Θ U l M)):=by
 have vj:b_ c i kF (.Name T n) (aa s):=mE hj z B F;have vk:b_ c i kF (.Name C4 J) (aa Θ):=mE hk G I L;refine iO.imp (qk (qC hu (PE.ex λg=>vj e j k l g) (PE.ex λg=>vk e j k l g) (Lm q na hi hv r t) rfl)) ?_
 rintro E m H ⟨O,P,o,Z,S,Q,f⟩;refine⟨P,_,v,O,by simp,?_⟩
 refine⟨M,o,Z,S,dZ.use S (f) λx a0 w H2 b0 Z2 _ g2 p r2 f2=>⟨_,_,Z2,p,dZ.use p f2 λy c0 u H3 d0 Z3 _ X Y r3 R=>?_⟩⟩
 split at R
 .rename_i e0 hq
  obtain⟨a,H4,rfl,h1,s4,g4⟩:=nV Y.st (p.st.cO X r2) r3 (p.st.cO X (S.st.cO g2 Q)) hq;exact⟨a,H4,rfl,h1,R m H4 _ Z3 (Y.grow g4 s4)⟩
 .exact R.elim
variable{z6:Ends}
theorem Cj{m b}(S:cV i r o e x0 D1 a y u0 π)(n:∀x a,b≠.exc x a)(f:dZ i q r o e z6 b):dZ i m x0 D1 π z6 b:=by
 cases b with
 |rt d g=>exact λv j c k p s t=>f v j c k (S.gr.trans p) s t
 |bad=>exact f
 |exc x g=>exact absurd rfl (n x g)
 |_=>exact λl j c k h=>f l j c k ⟨h.st,S.gr.trans h.gr,h.len,h.val⟩
variable{W1 w6:List D'}
theorem Ck{R}(U:c.stack=c.env::c.outer)(Y:c.env.frame=some c.env.locals)(hg:Gl c d)(a0:c.mg d=some (.ref h))(b0:YK c.K (.ref C) (.ref h)=some true)(hN:c.N.Nodup)(hi:c.N[b]?=some Q5)(hn:c.env.scope.names.lookup Q5=some .local)(c0:∀M,i T M->M=C)(Tx:m_ c.K C ψ A0)(is:Oa c.K C)(hb:∀pl xe G E,fh ((c.iV pl).wish xe) G E->Ko ((c.iV pl).wish xe) i (ik i E) G W1 ω)(d0:∀pl e a L,QW (((c.iV pl).kM e).rM e L) e C L a ψ A0->∀k O P y z dD v,
   iO (((c.iV pl).kM e).rM e L) (X::w6) (λD A H=>H a=some (.xd [(C4,v)])/\A[b]?=some (some (.ref e))/\∃B Z,cV i k O P B Z z y A H/\ax B Z H dD v/\dZ i kF k O P D (R dD y z)))(e0:(d==("__debug__"))=false):
  ju c i q (.Try W1 [.ExceptHandler (some (.Name d J)) (some Q5) (X::w6) M0] [] [] n) (kC ω T C4 R b):=by
 intro k O P y z pins s A H D I p;refine cE p λB Z S f=>?_
 refine Lq (W:=λa fs t=>∃g m j o,ω y z=.exc (c_ T [(C4,o)]) j/\cM B Z H g m t/\bO i g m j t/\BW g m t [(C4,o)] fs) I U Y hg a0 b0 hN (λ_ e=>by cases e;exact hi) (λ_ e=>by cases e;exact hn) (λxe f0=>?_) (λe a fs L Q s4 u hW c1 c2 c3 w=>?_) e0
 .refine hb pins xe A _ f0 B Z H y z [] s A H D (I.iV.wish xe) ⟨rfl,B,Z,⟨S.st,cM.refl S.st.has,S.len,S.val⟩,?_⟩
  unfold kC at f;cases l:ω y z with
  |exc x j=>
   rw[l]at f;dsimp only at f;cases hx:Kp T C4 x with
   |none=>rw[hx]at f;exact f.elim
   |some o=>
    obtain rfl:=Fq hx;intro Q g m g1 s1;refine⟨T,_,rfl,λM dd vs hk u fl n1 n2=>?_⟩
    cases c0 M hk;exact⟨rfl,dd,vs,rfl,u,g,m,j,o,rfl,g1,s1,fl⟩
  |_=>rw[l]at f;exact Cj S (by simp) f
 .refine bj hW λg m j o l g1 g0=>xa g0 λs1 fl=>?_
  obtain⟨v1,rfl,r1⟩:∃v1,fs=[(C4,v1)]/\ax g m Q o v1:=by
   obtain⟨⟨a1,w1⟩,t1,rfl,q1,fl⟩:=aJ.cons_inv fl;rw[aJ.nil_inv fl]
   simp_all
  unfold kC at f;rw[l]at f;dsimp only at f;rw[Cf]at f;dsimp only at f;refine d0 pins e a L ⟨by simp[Cx.rM],c1,c2,c3,Tx,is⟩ k O P _ j o v1 [] s4 _ _ _ w ⟨u,?_,g,m,((S.grow g1 s1).MU),r1,?_⟩
  .have j0:b<A.length:=by
    rw[I.len];exact rP hi
   simp_all
  .cases F:R o _ j with
   |nx l0 h0=>
    rw[F]at f;intro m0 Q i0 Z2 S';exact f _ Q i0 Z2 S'.MU
   |rt r h0=>rw[F]at f;exact f.elim
   |bk _ _=>rw[F]at f;exact f.elim
   |ct _ _=>rw[F]at f;exact f.elim
   |exc _ _=>rw[F]at f;exact f.elim
   |bad=>rw[F]at f;exact f.elim
variable{o8:D'}{u7:SM}
theorem Cm{Q sb}(R:c.stack=c.env::c.outer)(U:c.env.frame=some c.env.locals)(V:Gl c d)(Y:c.mg d=some (.ref h))(a0:Gl c T)(b0:c.mg T=some (.ref C))(c0:YK c.K (.ref h) (.ref h)=some true)(w:YK c.K (.ref C) (.ref h)=some false)(y:YK c.K (.ref C) (.ref C)=some true)(z:∀m,i d m->m=h)(A:∀m,i T m->m=C)(hb:∀pl xe B E,fh ((c.iV pl).wish xe) B E->Ko ((c.iV pl).wish xe) i (ik i E) B W1 ω)(ha:∀pl e r,kX (((c.iV pl).kM e).rM e r) i kF (X::w6) u7)(hc:∀pl e r,kX (((c.iV pl).kM e).rM e r) i kF (o8::sb) Q)(d0:(d==("__debug__"))=false)(e0:(T==("__debug__"))=false):
  ju c i q (.Try W1 [.ExceptHandler (some (.Name d J)) none (X::w6) S5,.ExceptHandler (some (.Name T M0)) none (o8::sb) A7] [] [] n) (je ω d T u7 Q):=by
 intro F Z0 H0 p Ω pins s N H D I j;refine cE j λα Z S f=>?_
 refine Ls (d8:=λt G=>∃g o b x,ω p Ω=.exc x b/\jD x=some (if t then d else T)/\(t=false->jD x≠some d)/\cM α Z H g o G/\bO i g o b G) I R U V Y a0 b0 c0 w y (λxe f0=>?_) (λt e r H' s4 hW k=>?_) d0 e0
 .refine hb pins xe N _ f0 α Z H p Ω [] s N H D (I.iV.wish xe) ⟨rfl,α,Z,⟨S.st,cM.refl S.st.has,S.len,S.val⟩,?_⟩
  unfold je at f;cases l:ω p Ω with
  |exc x b=>
   rw[l]at f;dsimp only at f;intro H' g o O P
   obtain⟨a,L,rfl,g0⟩:∃a L,x=c_ a L/\(a=d\/a≠d/\a=T):=by
    by_cases h1:jD x=some d
    .obtain⟨L,rfl⟩:=tT h1
     grind
    .rw[if_neg h1]at f
     by_cases h2:jD x=some T
     .obtain⟨L,rfl⟩:=tT h2
      grind
     .rw[if_neg h2]at f
      exact f.elim
   refine⟨a,L,rfl,λm dd vs hk M fl n1 n2=>?_⟩
   rcases g0 with rfl|⟨h0,rfl⟩
   .cases z m hk
    exact⟨true,rfl,dd,vs,rfl,M,g,o,b,_,rfl,iK,by simp,O,P⟩
   .cases A m hk
    exact⟨false,rfl,dd,vs,rfl,M,g,o,b,_,rfl,iK,λ_ j=>h0 (Ú (iK.symm.trans j)),O,P⟩
  |_=>rw[l]at f;exact Cj S (by simp) f
 .refine aY hW λg o b x l u hn O P=>?_
  unfold je at f;rw[l]at f;dsimp only at f;have S3:=S.grow O P;cases t with
  |true=>
   have u:jD x=some d:=u;rw[if_pos u]at f;refine ha pins e r F Z0 H0 p b [] s4 N H' _ k ⟨g,o,S3,?_⟩;cases M0:u7 p b with
   |nx i0 j0=>rw[M0]at f;exact f
   |_=>rw[M0]at f;exact f.elim
  |false=>
   have u:jD x=some T:=u;rw[if_neg (hn rfl),if_pos u]at f;refine hc pins e r F Z0 H0 p b [] s4 N H' _ k ⟨g,o,S3,?_⟩;cases M0:Q p b with
   |nx i0 j0=>rw[M0]at f;exact f
   |_=>rw[M0]at f;exact f.elim
noncomputable def wMZx(st:D'):Option {r:D'×x'×Option Str×D'//∃p q,st=.Try [r.1] [.ExceptHandler (some r.2.1) r.2.2.1 [r.2.2.2] p] [] [] q}:=match st with
 |.Try [b] [.ExceptHandler (some t) n [h] _] [] [] _=>some ⟨(b,t,n,h),_,_,rfl⟩
 |_=>none
noncomputable def MZ(st:D'):=(wMZx st).map (·.1)
variable{j9:Option Str}
theorem Cn{h}(q:MZ X=some (o8,j,j9,h)):∃p a,X=.Try [o8] [.ExceptHandler (some j) j9 [h] p] [] [] a:=by
 obtain⟨⟨_,k⟩,_,l⟩:=YE.mp q;cases l;exact k
noncomputable def wI_x(st:D'):Option {r:x'×x'×x'//∃p q,st=.Assign [.Subscript r.1 r.2.1 p] r.2.2 q}:=match st with
 |.Assign [.Subscript o i _] v _=>some ⟨(o,i,v),_,_,rfl⟩
 |_=>none
noncomputable def I_(st:D'):=(wI_x st).map (·.1)
theorem tU(q:I_ X=some (j,Q,A1)):∃p a,X=.Assign [.Subscript j Q p] A1 a:=by
 obtain⟨⟨_,k⟩,_,l⟩:=YE.mp q;cases l;exact k
noncomputable def M_:x'->Option Str
 |.Name x _=>some x
 |_=>none
theorem mQ(q:M_ j=some d):∃p,j=.Name d p:=by
 cases j<;>cases q
 simp
noncomputable def GJ:x'->Option (x'×x')
 |.BinOp a .Add b _=>some (a,b)
 |_=>none
theorem zb(q:GJ j=some (Q,A1)):∃p,j=.BinOp Q .Add A1 p:=by
 cases j<;>try cases q
 rename_i Q o A1 p;cases o<;>cases q
 grind
def GK:x'->Option (x'×Str)
 |.Attribute o f _=>some (o,f)
 |_=>none
theorem zc(q:GK j=some (Q,d)):∃p,j=.Attribute Q d p:=by
 cases j<;>cases q
 grind
noncomputable def wSgx(st:x'):Option {r:Str×x'×List x'//∃p q,st=.Call (.Name r.1 p) (r.2.1::r.2.2) [] q}:=match st with
 |.Call (.Name x _) (a::b) [] _=>some ⟨(x,a,b),_,_,rfl⟩
 |_=>none
noncomputable def Sg(st:x'):=(wSgx st).map (·.1)
theorem xM(q:Sg j=some (d,Q,O)):∃p a,j=.Call (.Name d p) (Q::O) [] a:=by
 obtain⟨⟨_,k⟩,_,l⟩:=YE.mp q;cases l;exact k
noncomputable def wNax(st:D'):Option {r:Str×x'//∃p q,st=.Assign [.Name r.1 p] r.2 q}:=match st with
 |.Assign [.Name x _] v _=>some ⟨(x,v),_,_,rfl⟩
 |_=>none
noncomputable def Na(st:D'):=(wNax st).map (·.1)
theorem Co(q:Na X=some (d,j)):∃p a,X=.Assign [.Name d p] j a:=by
 obtain⟨⟨_,k⟩,_,l⟩:=YE.mp q;cases l;exact k
noncomputable def wNbx(st:D'):Option {r:x'×Str×V'×x'×List x'×V'//∃q,st=.Expr (.Call (.Attribute r.1 r.2.1 r.2.2.1) (r.2.2.2.1::r.2.2.2.2.1) [] r.2.2.2.2.2) q}:=match st with
 |.Expr (.Call (.Attribute o m a) (b::c) [] p) _=>some ⟨(o,m,a,b,c,p),_,rfl⟩
 |_=>none
noncomputable def Nb(st:D'):=(wNbx st).map (·.1)
theorem Cp(q:Nb X=some (j,d,n,Q,O,J)):∃a,X=.Expr (.Call (.Attribute j d n) (Q::O) [] J) a:=by
 obtain⟨⟨_,k⟩,_,l⟩:=YE.mp q;cases l;exact k
def VV(s):=(I_ s).bind λb=>(GJ b.2.2).bind λv=>(Sg v.2).map λc=>(b.1,b.2.1,v.1,c)
theorem Fw{a}(h:VV X=some (j,Q,A1,d,a,O)):∃p b e f g,X=.Assign [.Subscript j Q p] (.BinOp A1 .Add (.Call (.Name d e) (a::O) [] f) g) b:=by
 obtain⟨⟨k,l,v⟩,v1,h⟩:=aZ h;obtain⟨⟨m,w⟩,v2,h⟩:=aZ h;obtain⟨c,i,h⟩:=YE.mp h;obtain⟨_,_,rfl⟩:=tU v1;obtain⟨_,rfl⟩:=zb v2;obtain⟨_,_,rfl⟩:=xM i
 simp_all
def VW(s):=(I_ s).bind λz=>(M_ z.1).bind λa=>(M_ z.2.1).bind λb=>(GK z.2.2).bind λw=>(M_ w.1).map λn=>(a,b,n,w.2)
theorem Fx(h:VW X=some (d,T,C4,Q5)):∃a b c e f g,X=.Assign [.Subscript (.Name d a) (.Name T b) c] (.Attribute (.Name C4 e) Q5 f) g:=by
 obtain⟨⟨l,m,v⟩,v1,h⟩:=aZ h;obtain⟨_,v2,h⟩:=aZ h;obtain⟨_,i,h⟩:=aZ h;obtain⟨⟨w,n⟩,j,h⟩:=aZ h;obtain⟨_,k,h⟩:=YE.mp h;obtain⟨_,_,rfl⟩:=tU v1;obtain⟨_,rfl⟩:=mQ v2;obtain⟨_,rfl⟩:=mQ i;obtain⟨_,rfl⟩:=zc j;obtain⟨_,rfl⟩:=mQ k
 grind
def Sh(T b N e d c)(G:a5)(o i a x g h j n k l p f):=
 (o2 (cC T 60 b N o) (cC T 60 b N i) YC).bind λm=>(o2 (cC T 60 b N a) (cZ (cC T 60 b N) (g::h)) YC).bind λr=>(o2 (hG b N k) (o2 (hG b N l) (hG b N n) YC) YC).bind λs=>
 if x==e&&wj b e&&j==d&&wj b d&&p==n&&f==c&&(b.names.lookup n==some .local)&&!(e==("__debug__"))&&!(d==("__debug__"))then some (kC (dh m.1 m.2 (m2 qU r.1 (mN G r.2))) d c (putD s.1 s.2.1) s.2.2)else none
def Cq(T c N d e a G st):=
 (MZ st).bind λq=>(VV q.1).bind λb=>(M_ q.2.1).bind λf=>q.2.2.1.bind λn=>(VW q.2.2.2).bind λh=>Sh T c N d e a G b.1 b.2.1 b.2.2.1 b.2.2.2.1 b.2.2.2.2.1 b.2.2.2.2.2 f n h.1 h.2.1 h.2.2.1 h.2.2.2
structure WO(X:Cx)(κ:Str->b'->Prop)(cn:Str)(C N0 fI:b'):Prop where
 st:X.stack=X.env::X.outer
 fm:X.env.frame=some X.env.locals
 nd:X.N.Nodup
 mg:X.mg cn=some (.ref C)
 ex:YK X.K (.ref C) (.ref C)=some true
 kp:∀Ca,κ cn Ca->Ca=C
 tx:m_ X.K C N0 fI
 xs:Oa X.K C
variable{S:f'->g'->Prop}{z:List (b'×Obj)}
theorem GoodO.chg(G:GoodO c i ζ b Z g):GoodO ((c.iV z).wish S) i ζ b Z g where
 scope:=G.scope
 names:=G.names
 calm:=G.calm
 room:=G.room
 de:=G.de
 iT:=λx F h=>⟨(G.iT x F h).ex⟩
 fn:=λx F h=>⟨(G.fn x F h).ex⟩
 cst:=G.cst
 met:=λm C F h=>⟨(G.met m C F h).ex⟩
 cls:=λC F h=>bc (G.cls C F h) λj a d=>⟨j,a,⟨d.ex⟩⟩
 fld:=G.fld
 clo:=G.clo
theorem zd(G:GoodO c i ζ b Z g)(Y:WO c i T C h ψ)(na:dm c.K C C4)(F:bJ c.prog c.w c.K c.mg c.base (jj c.prog c.w) b A0 ς ο (gp i H))(hm:c.mg d=some (.ref A0))(hk:Yp c.K (.ref A0)=true)(hb:Binds c.K ς ο [])(st r)(f:Cq ζ Z g d T C4 H st=some r):ju c i q st r:=by
 obtain⟨⟨b0,t,nm,h0⟩,v1,f⟩:=aZ f;obtain⟨⟨o,i0,a,x,a1,j0⟩,v2,f⟩:=aZ f;refine bc (aZ f) λbn I f=>?_
 obtain⟨n,v6,f⟩:=aZ f;obtain⟨⟨tn,kn,n2,f2⟩,J,p⟩:=aZ f;dsimp only at v2 I v6 J p;subst v6;obtain⟨p1,l0,rfl⟩:=Cn v1;obtain⟨L,m0,M,n0,p3,rfl⟩:=Fw v2;obtain⟨p5,rfl⟩:=mQ I;refine xe (Fx J) λp8 s=>xe s λp9 O=>xe O λp7 P=>xe P λo0 R=>xe R λp0 U=>xe U λq0 V=>?_;subst V
 clear v1 v2 I J;obtain⟨⟨mo,mi⟩,u1,p⟩:=aZ p;obtain⟨⟨ma,as⟩,u2,p⟩:=aZ p;obtain⟨⟨j,kk,X⟩,u3,p⟩:=aZ p;refine aF (bo u1) λ_ _ t1 t2 e1=>?_
 refine aF (bo u2) λ_ _ t3 t4 e2=>?_
 refine aF (bo u3) λ_ _ s1 u4 e3=>?_
 refine aF (bo u4) λ_ _ s2 s3 e4=>?_
 cases e1;cases e2;cases e3;cases e4
 dsimp only at p;split at p
 rotate_left
 .cases p
 rename_i hc;cases p;simp only[Yv,ZH,beq_iff_eq]at hc;obtain⟨⟨⟨⟨⟨⟨⟨⟨c1,c2⟩,c3⟩,c4⟩,c5⟩,c6⟩,c7⟩,c8⟩,c9⟩:=hc;subst c1 c3 c5 c6;refine oC (gC s1) λj1 j2 s=>xa s λj3 j4=>?_
 obtain⟨k1,k2,k3,k4⟩:=gC s2;obtain⟨i1,a0,i3,i4⟩:=gC s3;have D:∀{y:Nat}{z:Str},g[y]?=some z->c.N[y]?=some z:=λf=>by rwa[G.names]
 have hV:∀{z:Str},rQ Z z->rQ c.env.scope z:=λf=>by rwa[G.scope]
 have hu:c.A.units+1<Yk:=by have:=G.hu;omega
 refine Ck Y.st Y.fm (G.gl c4) Y.mg Y.ex Y.nd (D i1) (by rwa[G.scope]) Y.kp Y.tx Y.xs (λpl xe r0 E c0=>?_) (λpl e d0 oe e0 s0 Z0 H0 ρ Ω dD v=>?_) c9
 .have G':GoodO ((c.iV pl).wish xe) i ζ b Z g:=G.chg
  have ok:=λe m u=>dB 60 _ Z g e m G' u
  obtain⟨pa,B⟩:=bU ok t4
  refine Ci hu ((ok _ _ t1).1 _) ((ok _ _ t2).1 _) (by
    refine Fs (λta tb pa pb=>zC (uG _) pa pb) ((ok _ _ t3).1 _) (p_ F G.room (G'.gl c2) hm hk hb c0 c8 (bF (B a1 (by simp))) (bG λz p=>B z (by simp[p])) (pa _)) λdx dy x y α f0 Ω g0 Q S rx ry k=>?_
    unfold qU at k;split at k
    .rename_i xs ys h1 h2
     obtain⟨l,vs,rfl,p1,L⟩:=bA S rx h1;obtain⟨n,ws,rfl,p3,M⟩:=bA S ry h2;split at k
     .rename_i hs
      exact .inr (.inr ⟨l,n,vs,ws,rfl,rfl,p1,p3,by rw[L.length,M.length];exact bI hs,fC S (L.append M) k⟩)
     .exact k.elim
    .exact k.elim) (k_ rfl)
 .exact Fv (c:=((c.iV pl).kM e).rM e oe) hu e0 na (D i1) (hV a0) i3 i4 (D j1) (hV j2) j3 j4 (D k1) (hV k2) k3 k4 _ Z0 H0 ρ Ω dD v
theorem b_.of(h:∀a,IW c i q a j t):b_ c i q j t:=λd e f g k pins s b H Q I z=>h b _ e f g k _ s b H Q I ⟨rfl,z⟩
theorem Cr(h:Passes (jj c.prog c.w) c E1):fh c u0 E1:=λpins H s e b I a=>h _ u0 H s e b I a
def Ct(T a N b)(G:a5)(st):=
 (Na st).bind λq=>(Sg q.2).bind λc=>(cZ (cC T 60 a N) (c.2.1::c.2.2)).bind λd=>(hG a N q.1).bind λj=>if c.1==b&&wj a b&&(a.names.lookup q.1==some .local)&&!(b==("__debug__"))then some (aA j (mN G d))else none
theorem ze(G:GoodO c i ζ b Z g)(r:c.N.Nodup)(F:bJ c.prog c.w c.K c.mg c.base (jj c.prog c.w) b h ς ο (gp i H))(s:c.mg d=some (.ref h))(t:Yp c.K (.ref h)=true)(u:Binds c.K ς ο [])(l:Passes (jj c.prog c.w) c E1)(st f)(a:Ct ζ Z g d H st=some f):ju c i (ik i E1) st f:=by
 obtain⟨⟨x,v⟩,v1,a⟩:=aZ a;obtain⟨⟨y,A,B⟩,v2,a⟩:=aZ a;refine bc (aZ a) λR C a=>?_
 obtain⟨j,D,a⟩:=aZ a;split at a
 rotate_left
 .cases a
 rename_i o;cases a;simp only[Yv,ZH,beq_iff_eq]at o;obtain⟨⟨⟨E,I⟩,S⟩,J⟩:=o;subst E;obtain⟨T,L,rfl⟩:=Co v1;obtain⟨U,M,rfl⟩:=xM v2;refine oC (gC D) λV X n=>xa n λY j4=>?_
 obtain⟨O,k⟩:=bU (λe m q=>dB 60 c Z g e m G q) C
 have p:c.env.scope.names.lookup x=some .local:=by rwa[G.scope]
 exact iD r (by rwa[G.names]) (.inl p) (.inr p) (k_ rfl) (b_.of λP=>p_ F G.room (G.gl I) s t u (Cr l) J (bF (k A (by simp))) (bG λz Q=>k z (by simp[Q])) (O _))
def Cu(T a N c b G st):=
 (Nb st).bind λq=>(cC T 60 a N q.1).bind λd=>(cZ (cC T 60 a N) (q.2.2.2.1::q.2.2.2.2.1)).bind λe=>if q.2.1==b&&ey q.1&&(q.2.2.1.endLine==q.2.2.2.2.2.line)&&decide (q.2.2.2.2.1.length<19)then some (cG (fH c b G d e))else none
theorem zg(G:GoodO c i ζ b Z g)(r:∀a,i d a->a=C)(s:oD c.K C)(M:Meth c.K C T h)(F:bJ c.prog c.w c.K c.mg c.base (jj c.prog c.w) b h ς ο (gp i H))(t:Binds c.K ς ο [])(l:Passes (jj c.prog c.w) c E1)(st j)(f:Cu ζ Z g d T H st=some j):ju c i (ik i E1) st j:=by
 obtain⟨⟨o,m1,L,u,x,p⟩,v1,f⟩:=aZ f;refine bc (aZ f) λN y f=>?_
 refine bc (aZ f) λO z f=>?_
 split at f
 rotate_left
 .cases f
 rename_i n;cases f;simp at n;obtain⟨⟨⟨A,B⟩,D⟩,E⟩:=n;subst A;obtain⟨P,rfl⟩:=Cp v1;obtain⟨I,k⟩:=bU (λe m q=>dB 60 c Z g e m G q) z
 refine wH (k_ rfl) (b_.of λJ=>pZ r s M F G.room t (Cr l) ((dB 60 c Z g _ _ G y).1 _) (I _) (bF (k u (by simp))) (bG (by simp_all)) (mJ (d_ B) k (by exact aby E) (by simp[D])))
def Nc(e:a5):=∀b k f c,Rw b k f c->Sk c->c.length<=900->tot c<=900->∃(d:List qR) (p:Nat) (a:aG),e [.ref k] b=.exc (c_ "Ring" [("steps",.ref p)]) a/\a[p]?=some (.lst (d.map cP))/\d.length<=900/\b.length<=p/\af [] b a
variable{L6 η:aG}
theorem Cv{e c}(f:ω y a=.exc (c_ d [(T,l)]) η)(g:e l (y.set b none) η=.nx c L6):kC ω d T e b y a=.nx (c.set b none) L6:=by
 unfold kC;rw[f];dsimp only;rw[Cf]
 simp_all
def GL(a b:a5):=(m2 qU (mN bt (ae (aa 4) ah)) (mN a (ae (mN (aQ b) (ae (aa 2) (ae (m2 aL (aa 0) (aa 4)) ah))) ah)))
def GN(a b):=(ao (ei Pt
 (ao (kC (dh (aa 2) (aa 4) (GL a b)) "Ring" "steps" (putD 3 4) 5)
 ak)
 ak)
 ak)
variable{T4:List D}
theorem Nd(h:a[b]?=some (.lst p))(c:a[s]?=some (.lst T4))(d:p.length+T4.length<=10000):qU (.ref b) (.ref s) a=.ok (.ref a.length) (a++[.lst (p++T4)]):=by
 rw[wZ,av h,av c,wY,if_pos (aP (bS d))]
variable{w9:Nat->Prop}{x6:List (Key×D)}{y2:a5}{ε:Str->List Str}
theorem Ja(hM:BA H)(hB:yW y2)(Y:a[b]?=some (.dF A))(hr:aH d0 a A u)(J:a[s]?=some (.dK x6))(i:aH w9 a x6 (aW g ε))(hn:d∈nms u)(K:d∉g)(f:∀x∈aN u d,x∈g)(L:Mg ((aN u d).map ε++[aN u d]) ο)(hL:ε d=d::ο)(h:(aN u d).length<=100)(B:g.length<=100)(ho:ο.length<=900)(M:∀j,a.length<=j->w9 j):
  ∃o aw,GN H y2 [oR b,χ,oR s,o0,oS d,P0] a=.nx [oR b,χ,oR s,o0,oS d,P0] aw/\aw[s]?=some (.dK o)/\aH w9 aw o (aW (g++[d]) ε)/\af [s] a aw:=by
 refine bx (hr.at hn) λp Z _ w=>?_
 have N:=ej (d:=d) (.inr Y) Z
 refine bc (jB (y:=[oR b,χ,oR s,o0,oS d,P0]) (t:=m2 (aI .In) (aa 0) (aa 1)) (y1:=ba (m2 aL (aa 0) (aa 4))) (I:=[2]) w (by
  rw[cA]
  show(aL (.ref b) (.str d) a).bind _=_
  rw[N,au];exact aM (by rw[az,av w])) (λx O=>by
  show aI .In (.str x) (.ref s) a=_
  rw[vh (.inl J),i.is,aU,decide_eq_true (f x O)]) (bS h)) λc G K1=>?_
 have G:Pt [oR b,χ,oR s,o0,oS d,P0] a=.ok (.bl true) c:=by
  have:((aN u d).all λ_=>true)=true:=by simp
  rw[this]at G;exact G
 have g2:(c++[Cell.lst [.str d]])[c.length]?=some (.lst [.str d]):=aq;have z:af [] a (c++[Cell.lst [.str d]]):=K1.trans af.app
 have c0:(mN bt (ae (aa 4) ah)) [oR b,χ,oR s,o0,oS d,P0] c=.ok (.ref c.length) (c++[Cell.lst [.str d]]):=by
  rfl
 generalize c++[Cell.lst [.str d]]=P at *;have Q:=z.get _ _ J (by simp)
 have C:=i.keep z (by simp)
 have R:=z.get _ _ w (by simp)
 have a0:=ej (d:=d) (.inr (z.get _ _ Y (by simp))) Z
 refine cS (hB P s p x6 _ _ _ (.inl Q) C R (by rw[aU];exact f) h) λjs k S e3 R3 T h3 _ _=>?_
 rw[(Zb λx O=>eO (f x O))]at R3
 refine a6 (hM S k js _ ο R3 L (by simp;exact bS h) ho) λq e e4 U lq V=>?_
 have b0:=Nd (V.get _ _ (T.get _ _ g2 (by simp)) (by simp)) U (by simp;omega)
 have X:af [] a (e++[Cell.lst ([.str d]++ο.map .str)]):=((z.trans T).trans V).trans af.app;have g5:(e++[Cell.lst ([.str d]++ο.map .str)])[e.length]?=some (.lst ((ε d).map .str)):=by rw[hL];exact aq
 have e5:GL H y2 [oR b,χ,oR s,o0,oS d,P0] c=.ok (.ref e.length) (e++[Cell.lst ([.str d]++ο.map .str)]):=by
  unfold GL
  simp_all
 generalize e++[Cell.lst _]=m at *;have D:=X.get _ _ J (by simp)
 have E:=i.keep X (by simp)
 have F:=i.len;have e0:=oj (d:=d) (l:=.ref e.length) D (by rw[←F];simp[aW];exact bS B)
 have K6:af [s] m (m.set s (.dK (cX x6 (.inr d) (.ref e.length)))):=af.set (by simp)
 refine⟨_,_,?_,aK D,?_,(cD.up X).trans K6⟩
 .unfold GN
  rw[ag,cF,G,dN,cQ,eA,cy,if_pos rfl,ag]
  have:dh (aa 2) (aa 4) (GL H y2) [oR b,χ,oR s,o0,oS d,P0] c=.nx [oR b,χ,oR s,o0,oS d,P0] (m.set s (.dK (cX x6 (.inr d) (.ref e.length)))):=by
   unfold dh
   simp_all
  have t2:kC (dh (aa 2) (aa 4) (GL H y2)) "Ring" "steps" (putD 3 4) 5 [oR b,χ,oR s,o0,oS d,P0] c=.nx [oR b,χ,oR s,o0,oS d,P0] (m.set s (.dK (cX x6 (.inr d) (.ref e.length)))):=by
   unfold kC;rw[this]
  rw[t2];rfl
 .have:=E.put (n:=d) (r:=ε d) (by rw[aU];exact K) (M _ (((z.trans T).trans V).len)) g5
  have h6:=this.bV K6 (λj hj ds=>by simp_all)
  have:aW g ε++[(d,ε d)]=aW (g++[d]) ε:=by simp[aW]
  rw[this]at h6;exact h6
theorem Jb(Y:Nc H)(Z:yW y2){i}(Q:a[b]?=some (.dF A))(hr:aH d0 a A u)(R:a[s]?=some (.dK x6))(B:a[Θ]?=some (.dK i))(C:i.length<=100)(o:aH w9 a x6 (aW g ε))(hn:d∈nms u)(f:∀x∈aN u d,x∈g)(hS:Sk ((aN u d).map ε++[aN u d]))(q:tot ((aN u d).map ε++[aN u d])<=900)(h:(aN u d).length<=100)(S:g.length<=100):
  ∃(p:Nat) (w:List qR) (aw:aG),GN H y2 [oR b,χ,oR s,oR Θ,oS d,o0] a=.nx [oR b,χ,oR s,oR Θ,oS d,none] aw/\aw[Θ]?=some (.dK (cX i (.inr d) (.ref p)))/\aw[p]?=some (.lst (w.map cP))/\a.length<=p/\w.length<=900/\af [Θ] a aw:=by
 refine bx (hr.at hn) λj T _ m=>?_
 have E:=ej (d:=d) (.inr Q) T
 refine bc (jB (y:=[oR b,χ,oR s,oR Θ,oS d,o0]) (t:=m2 (aI .In) (aa 0) (aa 1)) (y1:=ba (m2 aL (aa 0) (aa 4))) (I:=[2]) m (by
  show(aL (.ref b) (.str d) a).bind _=_
  rw[E,au];exact aM (by rw[az,av m])) (λx F=>by
  show aI .In (.str x) (.ref s) a=_
  rw[vh (.inl R),o.is,aU,decide_eq_true (f x F)]) (bS h)) λc z K1=>?_
 have z:Pt [oR b,χ,oR s,oR Θ,oS d,o0] a=.ok (.bl true) c:=by
  have:((aN u d).all λ_=>true)=true:=by simp
  rw[this]at z;exact z
 have n:af [] a (c++[Cell.lst [.str d]]):=K1.trans af.app
 have a0:(mN bt (ae (aa 4) ah)) [oR b,χ,oR s,oR Θ,oS d,o0] c=.ok (.ref c.length) (c++[Cell.lst [.str d]]):=by
  rfl
 generalize c++[Cell.lst [.str d]]=G at *;have J:=n.get _ _ R (by simp)
 have K:=n.get _ _ m (by simp)
 have U:=ej (d:=d) (.inr (n.get _ _ Q (by simp))) T
 refine cS (Z G s j x6 _ _ _ (.inl J) (o.keep n (by simp)) K (by rw[aU];exact f) h) λjs k L e3 V X h3 _ _=>?_
 rw[(Zb λx F=>eO (f x F))]at V
 refine dk (Y L k js _ V hS (by simp;exact bS h) q) λw p e e4 M N lp K4=>?_
 have O:af [] a e:=(n.trans X).trans K4
 have e5:GL H y2 [oR b,χ,oR s,oR Θ,oS d,o0] c=.exc (c_ "Ring" [("steps",.ref p)]) e:=by
  unfold GL
  simp_all
 have P:=oj (d:=d) (l:=.ref p) (O.get _ _ B (by simp)) (bS C)
 have t1:dh (aa 2) (aa 4) (GL H y2) [oR b,χ,oR s,oR Θ,oS d,o0] c=.exc (c_ "Ring" [("steps",.ref p)]) e:=by
  unfold dh;rw[e5];rfl
 have t2:putD 3 4 (.ref p) [oR b,χ,oR s,oR Θ,oS d,none] e=.nx [oR b,χ,oR s,oR Θ,oS d,none] (e.set Θ (.dK (cX i (.inr d) (.ref p)))):=by
  show(match lP (.ref Θ) (.str d) (.ref p) e with|some aw=>gi.nx _ aw|none=>.bad)=_
  rw[P]
 have r:=B' (n.trans X).len lp;have lt:=bf B;refine⟨p,w,_,?_,aK (O.get _ _ B (by simp)),cK M (Ym (U' lt r)),r,N,(cD.up O).trans (af.set (by simp))⟩
 unfold GN;rw[ag,cF,z,dN,cQ,eA,cy,if_pos rfl,ag]
 have t3:=by
  exact Cv (b:=5) t1 t2
 rw[t3];rfl
theorem Jc(l:a[b]?=some (.dF A))(m:aH d0 a A u)(n:a[s]?=some (.dK x6))(f:aH w9 a x6 (aW g ε))(o:d∈nms u)(p:T∈aN u d)(h:T∉g)(c:(aN u d).length<=100):
  ∃aw,GN H y2 [oR b,χ,oR s,o0,oS d,P0] a=.nx [oR b,χ,oR s,o0,oS d,P0] aw/\af [] a aw:=by
 refine bx (m.at o) λi q _ e=>?_
 obtain⟨j,k,r⟩:=jB (y:=[oR b,χ,oR s,o0,oS d,P0]) (t:=m2 (aI .In) (aa 0) (aa 1)) (y1:=ba (m2 aL (aa 0) (aa 4))) (I:=[2]) e (by
  show(aL _ _ a).bind _=_
  rw[(ej (.inr l) q)];exact aM (by rw[az,av e])) (λx w=>by
  show aI .In _ _ a=_
  rw[vh (.inl n),f.is,aU]) (bS c)
 have k:Pt [oR b,χ,oR s,o0,oS d,P0] a=.ok (.bl false) j:=by
  have:((aN u d).all λx=>decide (x∈g))=false:=by
   rw[ϣ];exact⟨T,p,by simp[h]⟩
  rwa[this]at k
 unfold GN
 simp_all
def vu(d:a5):=∀b k (c:List qR),b[k]?=some (.lst (c.map cP))->c.length<=900->∃q a,d [.ref k,.int 0] b=.ok (.ref q) a/\a[q]?=some (.lst (c.map cP))/\b.length<=q/\af [] b a
def zh(a):=mN (λb c=>aQ a (b++[.int 0]) c) (ae (mN (aX .list) (ae (aa 1) ah)) ah)
def GO(a b):=dP "Ring" 1 [("steps",zh a)] (ae (mN (aQ b) (ae (aa 1) ah)) ah)
theorem Jd(d:vu H)(h:a[b]?=some (.lst (P7.map cP)))(f:P7.length<=900):∃q aw,zh H [none,some (.ref b)] a=.ok (.ref q) aw/\aw[q]?=some (.lst (P7.map cP))/\a.length<=q/\af [] a aw:=by
 have i:(a++[Cell.lst (P7.map cP)])[a.length]?=some _:=aq;have c:af [] a (a++[Cell.lst (P7.map cP)]):=af.app;refine a6 (d _ _ P7 i f) λq j e g l k=>?_
 refine⟨q,_,?_,g,B' c.len l,c.trans k⟩;simp[zh,(bB h),e]
theorem Je(k:vu H)(m:Ce y2)(R:Rw a b I M)(f:M.length<=900)(g:∃r∈M,r≠[])(n:free M=none):
  ∃(d:List qR) (p:Nat) (aw:aG),GO H y2 [some l,some (.ref b),some (.ref s),χ] a=.exc (c_ "Ring" [("steps",.ref p)]) aw/\aw[p]?=some (.lst (d.map cP))/\d.length<=900/\a.length<=p/\af [] a aw:=by
 refine dk (m a b I M R f g n) λd e c o q B i j=>?_
 refine a6 (Jd k q (B' i f)) λp h t u w y=>?_
 refine⟨d,p,_,?_,u,B' i f,by have:=j.len;exact B' this w,j.trans y⟩
 have:(mN (aQ y2) (ae (aa 1) ah)) [some l,some (.ref b),some (.ref s),χ] a=.ok (.ref e) c:=by simp[o]
 have z:(ae (mN (aQ y2) (ae (aa 1) ah)) ah) [some l,some (.ref b),some (.ref s),χ] a=.ok [.ref e] c:=by simp_all
 unfold GO dP;rw[z]
 show(if ([D.ref e]).length=1 then (match fS _ _ [] [none,some _] _ with|.exc x _=>gi.exc x _|_=>.bad)else .bad)=_
 have A:fS "Ring" [("steps",zh H)] [] [none,some (.ref e)] c=.exc (c_ "Ring" [("steps",.ref p)]) h:=by
  unfold fS;rw[t];rfl
 rw[A];rfl
variable{X5:a5}
theorem zi(J:vu H)(K:Ce y2)(G:FnAt X5)(S:Sk M):
  ∀a (b:List Str) q k o g m,Rw a k o M->a[q]?=some (.lst (b.map .str))->q≠k->q∉o->M.length<=900->b.length+tot M<=900->tot M<m ->
   ∃(i:List qR) (p:Nat) (aw:aG),dA tM (bM (GO H y2) X5) m [some l,some (.ref k),some (.ref q),g] a=.exc (c_ "Ring" [("steps",.ref p)]) aw/\aw[p]?=some (.lst (i.map cP))/\i.length<=900/\a.length<=p/\af [q] a aw:=by
 induction S with
 |@stuck M h t=>
  intro a b q k o g m R I _ _ u _ L;obtain⟨m,rfl⟩:∃k,m=k+1:=⟨m - 1,by omega⟩
  refine bc (G a k o M R (bS u)) λd w j=>?_
  rw[t]at w;refine dk (Je J K (l:=l) (s:=q) (χ:=some .non) (R.keep j) u h t) λi p f N x y z A=>?_
  refine⟨i,p,f,?_,x,y,by have:=j.len;exact B' this z,cD.up (j.trans A)⟩
  have e:=mM R;rw[any_true h]at e;have B:tM [some l,some (.ref k),some (.ref q),g] a=.ok (.bl true) a:=by simp[tM,e]
  simp only[dA,B]
  show(match bM (GO H y2) X5 _ a with|.nx c aw=>dA tM _ m c aw|.ct c aw=>dA tM _ m c aw|.bk c aw=>.nx c aw|r=>r)=_
  have O:(aA 3 (mN (aQ X5) (ae (aa 1) ah))) [some l,some (.ref k),some (.ref q),g] a=.nx [some l,some (.ref k),some (.ref q),some .non] d:=by simp[w,Ee]
  have P:(ei (m2 (aI .Is) (aa 3) (aj .non)) (ao (GO H y2) ak) ak) [some l,some (.ref k),some (.ref q),some .non] d=.exc (c_ "Ring" [("steps",.ref p)]) f:=by
   simp_all
  unfold bM;rw[ag,O,ay,ag,P];rfl
 |@step M n h t _ Q=>
  intro a b q k o g m R I C E u T L;obtain⟨m,rfl⟩:∃k,m=k+1:=⟨m - 1,by omega⟩
  have ht:=uR (mz t).1;refine cS (Gz (ω:=GO H y2) G (l:=l) (χ:=g) R (bS u) t I C E (B' (Zs _ _) T)) λU F d w V X Y Z j=>?_
  refine dk (Q d (b++[n]) q U F (some (.str n)) m V X Y Z (by simpa using u) (by simp;omega) (by omega)) λi p f N x y z A=>?_
  refine⟨i,p,f,?_,x,y,by have:=j.len;exact B' this z,j.trans A⟩
  have e:=mM R;rw[any_true h]at e;have B:tM [some l,some (.ref k),some (.ref q),g] a=.ok (.bl true) a:=by simp[tM,e]
  simp only[dA,B]
  simp_all
theorem Nf(g:vu H)(i:Ce y2)(j:FnAt X5):Nc (bw 4 1 (By (GO H y2) X5)):=by
 intro l k B C R S d m;rw[bh (by rfl)]
 have n:a9 4 [D.ref k]=[some _,none,none,none]:=rfl;rw[n];refine cS (xr (y:=[some _,none,none,none]) (s:=0) rfl R (bS d)) λo b a E e c F G I=>?_
 have q:(aA 1 (xq 0)) [some (.ref k),none,none,none] l=.nx [some (.ref k),some (.ref b),none,none] a:=by simp_all
 have f:af [] _ (a++[Cell.lst []]):=af.app;have r:(aA 2 (mN bt ah)) [some (.ref k),some (.ref b),none,none] a=.nx [some (.ref k),some (.ref b),some (.ref a.length),none] (a++[Cell.lst []]):=by rfl
 have t:=bf c.ce;have J:=c.al.lt;obtain⟨u,p,w,x,z,hR,K,A⟩:=zi g i j S _ [] _ b _ _ fuel (c.keep f) aq (Ym t) (λh=>by grind) d (by simp_all) (by unfold fuel;exact kG m)
 refine⟨u,p,_,?_,z,hR,?_,af.new (e.trans f) A (by simpa using e.len)⟩
 .unfold By
  rw[ag,q,ay,ag,r,ay,ag];unfold ig;rw[x];rfl
 grind
def VX:=(bK (m2 aL (aa 1) (aa 0)) true (aj .non) (ba (aa 5)) 0 [3])
def Si(a):=(mN (aQ a) (ae (m2 (bu .Add) VX (mN bt (ae (aa 5) ah))) ah))
def Sj:=(ei (m2 (aI .Is) (aa 6) (aj .non))
 (ao (aA 5 (mN bt ah))
 (ao (aA 6 (mN bt ah))
 ak))
 ak)
def PL:=(m2 (bu .Add) (mN bt (ae (m2 aL (aa 0) (aa 4)) ah)) (aa 6))
def Sl(a):=
 (ao (aA 5 (mN (aX .list) (ae (m2 aL (aa 1) (aa 4)) ah)))
 (ao (aA 6 (Si a))
 (ao Sj
 (ao (dh (aa 2) (m2 aL (aa 0) (aa 4)) (aa 5))
 (ao (dh (aa 3) (m2 aL (aa 0) (aa 4)) PL)
 ak)))))
def PM(a):=
 (ao (aA 2 dg)
 (ao (aA 3 dg)
 (ao (ed (dS 4) (eh (ae (mN (aX .len) (ae (aa 0) ah)) ah))
 (Sl a))
 (ao (bY (mN gU (ae (aa 2) (ae (aa 3) ah))))
 ak))))
def Tr(_:Nat):=True
theorem Cw(o:y1 y a=.ok (.seq (.ref b)) a)(q:a[b]?=some (.lst (g.map .str)))(r:∀x∈g,∃j,t ([oS x]++dw I y) a=.ok (.ref j) a/\a[j]?=some (.lst ((ε x).map .str)))(s:g.length<=100):
  ∃c,bK t true (aj .non) y1 0 I y a=.ok (.ref a.length) (a++[.lst (c.map .ref)])/\kA a c (g.map ε):=by
 obtain⟨A,u,w,c,rfl,l,rfl⟩:=mK (t:=t) (ν:=aj .non) (I:=I) (p:=g.map .str) (λi k f=>∃c,k=c.map .ref/\kA f c ((g.take i).map ε)/\f=a) o ⟨[],rfl,.nil,rfl⟩
  (λi k f h=>by
   obtain⟨_,_,_,rfl⟩:=h;rw[bC,az,av q])
  (λi d k f m h=>by
   obtain⟨c,rfl,l,rfl⟩:=h;obtain⟨x,n,rfl⟩:=fW m;obtain⟨j,e,z⟩:=r x (Yf n);refine⟨_,_,e,c++[j],by simp,?_,rfl⟩
   rw[YM,n,YX];exact l.snoc z) (by simp;exact bS s)
 rw[Yj,YQ]at l;exact⟨c,w,l⟩
theorem zj(h:a[b]?=some (.lst (I.map .ref)))(d:kA a I M)(i:a[Θ]?=some (.lst [.ref s]))(j:a[s]?=some (.lst (g.map .str)))(k:M.length<=100):
  bu .Add (.ref b) (.ref Θ) a=.ok (.ref a.length) (a++[.lst ((I++[s]).map .ref)])/\Rw (a++[.lst ((I++[s]).map .ref)]) a.length (I++[s]) (M++[g]):=by
 have c:=d.len;have f:=gI h i (by simp;exact bS (B' (M' c.symm) k))
 have e:I.map D.ref++[.ref s]=(I++[s]).map .ref:=by simp
 rw[e]at f;exact⟨f,aq,(d.snoc j).keep (fp:=[]) af.app (by simp)⟩
theorem ou(c:N5 y a=.ok (.ref s) η)(e:t y η=.ok (.ref b) η)(f:ν y η=.ok (.str d) η)(g:η[b]?=some (.dK A))(h:A.length<=1000):dh t ν N5 y a=.nx y (η.set b (.dK (cX A (.inr d) (.ref s)))):=by
 unfold dh;rw[c,cy,e,cy,f,cy,oj g h]
variable{x9:Nat}
theorem Jf(hM:Fo H)(hx:a[b]?=some (.lst (ο.map .str)))(R:Rw a s I M)(G:l_ u ε)(hE:nms u=ο.take x9)(a0:ο[x9]?=some d)(r0:ο.Nodup)(s0:ο.length<=12)(t0:M[x9]?=some g)(u0:g.Nodup)(J:g.length<=5)(L:∀y∈g,y∈ο.take x9)(he:a[Θ]?=some (.dK x6))(e0:aH Tr a x6 u)(hl:a[E5]?=some (.dK A))(N:aH Tr a A (aW (nms u) ε))(f0:Θ≠E5):
  ∃B o v0 w0 mf Z aw,Sl H [oR b,oR s,oR Θ,oR E5,oI x9,χ,o0] a=.nx [oR b,oR s,oR Θ,oR E5,oI x9,v0,w0] aw/\af [Θ,E5] a aw /\
   aw[Θ]?=some (.dK mf)/\aH Tr aw mf (u++[(d,B)])/\aw[E5]?=some (.dK Z)/\aH Tr aw Z (aW (nms (u++[(d,B)])) (λb=>if b=d then d::o else ε b))/\l_ (u++[(d,B)]) (λb=>if b=d then d::o else ε b):=by
 have g0:=(Yn.mp a0).1
 have x0:u.length=x9:=by
  have:(nms u).length=u.length:=by simp[nms]
  rw[hE,Zq]at this;omega
 have b0:d∉nms u:=by
  rw[hE];intro hm;obtain⟨j,E,h⟩:=ek hm;have:=(ê (YV E g0) r0).mp (h.trans a0.symm);exact Yr _ (Yw (M' this.symm) E)
 rw[←hE]at L;refine bc (R.al.at t0) λj0 y0 h0=>?_
 have z0:aL (.ref s) (.int x9) a=.ok (.ref j0) a:=bP R.ce (L2.cq (b:=x9) (by simp[y0]))
 have r1:(aA 5 (mN (aX .list) (ae (m2 aL (aa 1) (aa 4)) ah))) [oR b,oR s,oR Θ,oR E5,oI x9,χ,o0] a=.nx [oR b,oR s,oR Θ,oR E5,oI x9,oR a.length,o0] (a++[.lst (g.map .str)]):=by
  rw[bg]
  have:(mN (aX .list) (ae (m2 aL (aa 1) (aa 4)) ah)) [oR b,oR s,oR Θ,oR E5,oI x9,χ,o0] a=.ok (.ref a.length) (a++[.lst (g.map .str)]):=by
   show(((aL (.ref s) (.int x9) a).bind _).bind _)=_
   rw[z0];exact bB h0
  rw[this];rfl
 have g1:(a++[Cell.lst (g.map .str)])[a.length]?=some (.lst (g.map .str)):=aq;have K1:af [] a (a++[Cell.lst (g.map .str)]):=af.app;generalize a++[Cell.lst (g.map .str)]=p at *;have A0:=K1.get _ _ hl (by simp)
 have i0:=N.keep K1 (by simp)
 have C0:ba (aa 5) [oR b,oR s,oR Θ,oR E5,oI x9,oR a.length,o0] p=.ok (.seq (.ref a.length)) p:=by
  rw[cA];exact aM (by rw[az,av g1])
 refine bc (Cw (ε:=ε) (t:=m2 aL (aa 1) (aa 0)) (I:=[3]) C0 g1 (λy hy=>by
  obtain⟨j,hv,_,E⟩:=i0.at (n:=y) (by rw[aU];exact L y hy)
  rw[eO (L y hy)]at E;exact⟨j,ej (.inl A0) hv,E⟩) (bS J)) λx e2 h2=>?_
 have g2:(p++[Cell.lst (x.map .ref)])[p.length]?=some (.lst (x.map .ref)):=aq;have K2:af [] p (p++[Cell.lst (x.map .ref)]):=af.app;have e2:VX [oR b,oR s,oR Θ,oR E5,oI x9,oR a.length,o0] p=.ok (.ref p.length) (p++[.lst (x.map .ref)]):=e2;generalize p++[Cell.lst (x.map .ref)]=k at *;have g3:(k++[Cell.lst [.ref a.length]])[k.length]?=some (.lst [.ref a.length]):=aq;have K3:af [] k (k++[Cell.lst [.ref a.length]]):=af.app
 have e3:(mN bt (ae (aa 5) ah)) [oR b,oR s,oR Θ,oR E5,oI x9,oR a.length,o0] k=.ok (.ref k.length) (k++[.lst [.ref a.length]]):=by
  show bt [.ref a.length] k=_
  rw[gH,if_pos (aP (by simp))]
 generalize k++[Cell.lst [.ref a.length]]=U at *;have V:=K2.trans K3;obtain⟨e4,R4⟩:=zj (K3.get _ _ g2 (by simp)) (h2.keep V (by simp)) g3 (V.get _ _ g1 (by simp)) (by simp;exact bS J)
 have K4:af [] U (U++[Cell.lst ((x++[a.length]).map .ref)]):=af.app;generalize U++[Cell.lst ((x++[a.length]).map .ref)]=D0 at *;refine aF (hM D0 U.length (x++[a.length]) _ R4 (by simp;exact bS J) (by have:=G.BP L J;exact bS this)) λO i e5 K5 hd=>?_
 have r2:aA 6 (Si H) [oR b,oR s,oR Θ,oR E5,oI x9,oR a.length,o0] p=.nx [oR b,oR s,oR Θ,oR E5,oI x9,oR a.length,some O] i:=by
  rw[bg];unfold Si;rw[eV,a8,ez,e2,au,e3,au,e4,au,br,au,au,km,e5];rfl
 have G0:af [] a i:=((K1.trans V).trans K4).trans K5;have I0:=((V.trans K4).trans K5).get _ _ g1 (by simp)
 have hI:∃B o c f l,Sj [oR b,oR s,oR Θ,oR E5,oI x9,oR a.length,some O] i=.nx [oR b,oR s,oR Θ,oR E5,oI x9,oR c,oR f] l/\af [] i l/\l[c]?=some (.lst (B.map .str))/\l[f]?=some (.lst (o.map .str))/\B.Nodup/\B.length<=5/\(∀y∈B,y∈nms u)/\Mg (B.map ε++[B]) o:=by
  rcases hd with rfl|⟨o,q,rfl,hq,C,_⟩
  .refine⟨[],[],i.length,i.length+1,(i++[.lst []])++[.lst []],?_,af.app.trans af.app,eD aq,?_,by simp,by simp,by simp,.done (by simp)⟩
   .have a1:(mN bt ah) [oR b,oR s,oR Θ,oR E5,oI x9,oR a.length,some .non] i=.ok (.ref i.length) (i++[.lst []]):=by rw[eV,br,au,gH,if_pos (aP (by simp))]
    have a2:(mN bt ah) [oR b,oR s,oR Θ,oR E5,oI x9,oR i.length,some .non] (i++[.lst []])=.ok (.ref (i.length+1)) ((i++[.lst []])++[.lst []]):=by
     rw[eV,br,au,gH,if_pos (aP (by simp))]
     simp
    unfold Sj
    simp_all
   .have:=aq (a:=i++[Cell.lst []]) (j5:=.lst []) (η:=[])
    simpa using this
  .exact⟨g,o,a.length,q,i,rfl,af.refl,I0,hq,u0,J,L,C⟩
 obtain⟨B,o,c,f,l,r3,K6,ha,hb,q1,q2,q3,C⟩:=hI;have F:=G0.trans K6;obtain⟨G',J0⟩:=G.snoc b0 (U' (Yw (M' x0) g0) s0) q1 q2 q3 C
 have P:∀(k:aG) (b5 b6:Option D),af [Θ,E5] a k->(m2 aL (aa 0) (aa 4)) [oR b,oR s,oR Θ,oR E5,oI x9,b5,b6] k=.ok (.str d) k:=λk b5 b6 K=>by
  have n1:b≠Θ:=λz=>by
   rw[z,he]at hx;cases hx
  have n2:b≠E5:=λz=>by
   rw[z,hl]at hx;cases hx
  have K0:=K.get _ _ hx (by simp[n1,n2])
  show aL (.ref b) (.int x9) k=_
  exact bP K0 (L2.cq (b:=x9) (by simp[a0]))
 have Q:=F.get _ _ he (by simp)
 have L0:=F.get _ _ hl (by simp)
 have l0:=e0.keep F (by simp)
 have m0:=N.keep F (by simp)
 have M0:x6.length<=1000:=by have:=e0.len;omega
 have P0:A.length<=1000:=by have:=BI N;omega
 have r4:=ou (y:=[oR b,oR s,oR Θ,oR E5,oI x9,oR c,oR f]) (t:=aa 2) (ν:=m2 aL (aa 0) (aa 4)) (N5:=aa 5) (a:=l) (η:=l) (s:=c) rfl rfl (P l _ _ (F.sub (by simp))) Q M0
 have K7:af [Θ] l (l.set Θ (.dK (cX x6 (.inr d) (.ref c)))):=af.set (by simp)
 have R0:=aK (e:=.dK (cX x6 (.inr d) (.ref c))) Q;have n0:=(l0.put b0 (j:=c) (r:=B) trivial ha).bV K7 (λj E ds=>by rw[W'.mp E,Q];simp)
 have p0:=m0.bV K7 (λj E ds=>by rw[W'.mp E,Q];simp)
 have S0:=K7.get _ _ L0 (by simpa using Ya f0)
 have T0:=K7.get _ _ hb (by
  simp;exact λz=>by rw[z,Q]at hb;cases hb)
 have c0:af [Θ,E5] a (l.set Θ (.dK (cX x6 (.inr d) (.ref c)))):=(F.sub (by simp)).trans (K7.sub (by simp))
 generalize l.set Θ (.dK (cX x6 (.inr d) (.ref c)))=m at *;have g8:(m++[Cell.lst [.str d]])[m.length]?=some (.lst [.str d]):=aq;have K8:af [] m (m++[Cell.lst [.str d]]):=af.app
 have e8:(mN bt (ae (m2 aL (aa 0) (aa 4)) ah)) [oR b,oR s,oR Θ,oR E5,oI x9,oR c,oR f] m=.ok (.ref m.length) (m++[.lst [.str d]]):=by
  rw[eV,a8,P m _ _ c0,au,br,au,au,gH,if_pos (aP (by simp))]
 generalize m++[Cell.lst [.str d]]=w at *
 have W0:o.length<=13:=by
  have:=G'.short (d:=d) (by simp[nms])
  simp at this;exact ũ this
 have e9:=gI g8 (K8.get _ _ T0 (by simp)) (by simp;omega)
 have ev:PL [oR b,oR s,oR Θ,oR E5,oI x9,oR c,oR f] m=.ok (.ref w.length) (w++[.lst ([.str d]++o.map .str)]):=by
  unfold PL;have:aa 6 [oR b,oR s,oR Θ,oR E5,oI x9,oR c,oR f] w=.ok (.ref f) w:=rfl;rw[ez,e8,au,this,au,e9]
 have g9:(w++[Cell.lst ([.str d]++o.map .str)])[w.length]?=some (.lst ((d::o).map .str)):=aq;have K9:af [] m (w++[Cell.lst ([.str d]++o.map .str)]):=K8.trans af.app;generalize w++[Cell.lst ([.str d]++o.map .str)]=S at *;have X:=K9.get _ _ S0 (by simp)
 have r5:=ou (y:=[oR b,oR s,oR Θ,oR E5,oI x9,oR c,oR f]) (t:=aa 3) (ν:=m2 aL (aa 0) (aa 4)) (N5:=PL) (a:=m) (η:=S) (s:=w.length) ev rfl (P S _ _ (c0.trans (K9.sub (by simp)))) X P0
 have Y:af [E5] S (S.set E5 (.dK (cX A (.inr d) (.ref w.length)))):=af.set (by simp)
 have d0:nms (u++[(d,B)])=nms u++[d]:=by simp[nms]
 have q0:aW (nms u) ε++[(d,d::o)]=aW (nms (u++[(d,B)])) (λb=>if b=d then d::o else ε b):=by
  rw[d0];unfold aW;rw[YX]
  congr 1
  .refine Zb λy hy=>?_
   show(y,ε y)=(y,if y=d then d::o else ε y)
   rw[J0 y hy]
  .simp
 have T:=((p0.keep K9 (by simp)).put (n:=d) (by rw[aU];exact b0) (j:=w.length) (r:=d::o) trivial g9).bV Y (λj E ds=>by rw[W'.mp E,X];simp)
 rw[q0]at T;have V0:∀j∈[E5],∀ds,S[j]?≠some (.lst ds):=λj E ds=>by rw[W'.mp E,X];simp
 refine⟨B,o,oR c,oR f,_,_,_,?_,(c0.trans (K9.sub (by simp))).trans (Y.sub (by simp)),Y.get _ _ (K9.get _ _ R0 (by simp)) (by simpa using f0),(n0.keep K9 (by simp)).bV Y V0,aK X,T,G'⟩
 unfold Sl;rw[ag,r1,ay,ag,r2,ay,ag,r3,ay,ag,r4,ay,ag,r5];rfl
def Fy(h:a5):=∀f x k j b g,f[x]?=some (.lst (b.map .str))->Rw f k j g->g.length=b.length->b.Nodup->b.length<=12->(∀i r,g[i]?=some r->r.Nodup/\r.length<=5/\∀y∈r,y∈b.take i) ->
 ∃E L e l c d a,h [.ref x,.ref k] f=.ok (.tup [.ref e,.ref l]) a/\af [] f a/\nms E=b/\l_ E L/\a[e]?=some (.dK c)/\aH Tr a c E/\a[l]?=some (.dK d)/\aH Tr a d (aW b L)/\e≠l
theorem Ng(hM:Fo H):Fy (bw 7 2 (PM H)):=by
 intro c x k js I rs T R M N p hr;rw[bh (by rfl)]
 have e0:a9 7 [D.ref x,.ref k]=[oR x,oR k,none,none,none,none,none]:=rfl;rw[e0];have K1:af [] c (c++[Cell.dK []]):=af.app;have g1:(c++[Cell.dK []])[c.length]?=some _:=aq;have u:(c++[Cell.dK []]).length=c.length+1:=by simp
 have r1:aA 2 dg [oR x,oR k,none,none,none,none,none] c=.nx [oR x,oR k,oR _,none,none,none,none] _:=rfl;generalize c++[Cell.dK []]=a at *;have U:af [] a (a++[Cell.dK []]):=af.app;have g2:(a++[Cell.dK []])[a.length]?=some (.dK []):=aq;have r2:aA 3 dg [oR x,oR k,oR _,none,none,none,none] a=.nx [oR x,oR k,oR c.length,oR _,none,none,none] _:=rfl;generalize a++[Cell.dK []]=m at *;have q:=K1.trans U;have w:=q.get _ _ T (by simp)
 have R2:=R.keep q;have V:=bf T;have X:=bf R.ce;have lj:=R.al.lt;have y:c.length≠a.length:=N' (M' u.symm);have z:=iG w;rw[Yj]at z
 have O:eh (ae (mN (aX .len) (ae (aa 0) ah)) ah) [oR x,oR k,oR c.length,oR a.length,none,none,none] m=.ok (.ints 0 I.length) m:=by
  have:(mN (aX .len) (ae (aa 0) ah)) [oR x,oR k,oR c.length,oR a.length,none,none,none] m=.ok _ m:=z;rw[n7,a8,this,au,br,au,au,rD,if_pos (ft (ZQ _) (FX p)),Ł]
 unfold PM;rw[ag,r1,ay,ag,r2,ay,ag,cJ,O,cy]
 refine bQ (R:=λr=>∃E L e l f g h,fE (sq r _)=.ok (.tup [.ref e,.ref l]) h/\af [] c h/\nms E=I/\l_ E L/\h[e]?=some (.dK f)/\aH Tr h f E/\h[l]?=some (.dK g)/\aH Tr h g (aW I L)/\e≠l)
  (λi P b=>∃E L f g J A B,P=[oR x,oR k,oR _,oR _,J,A,B]/\af [c.length,a.length] m b/\nms E=I.take i/\l_ E L/\b[c.length]?=some (.dK f)/\aH Tr b f E/\b[a.length]?=some (.dK g)/\aH Tr b g (aW (nms E) L)) (λ_ _ _ _=>rfl) ?_ ?_ fuel 0 _ _ (by rw[dJ];unfold fuel;exact kG (B' (YZ _ _) p)) (Yh _) ⟨[],λ_=>[],[],[],none,none,none,rfl,af.refl,rfl,l_.nil,(U.get _ _ g1 (by simp)),.nil,g2,.nil⟩
 .rintro i d P b hd ⟨E,L,f,g,J,A,B,rfl,K,t,G,Q,s,S,n⟩
  obtain⟨rfl,Y⟩:=fO hd;have C:=YW Y;have F:rs[i]?=some _:=YW (U' Y (M' M.symm));obtain⟨p1,p2,p3⟩:=hr i _ F;refine⟨[oR x,oR k,oR _,oR _,some _,A,B],rfl,?_⟩;rw[abJ];obtain⟨r',o,b5,b6,Z,a0,b0,e4,K4,q1,q2,q3,q4,G4⟩:=Jf hM (K.get _ _ w (by simp;exact⟨N' V,N' (YV V (M' u.symm))⟩)) (R2.pX K (by simp;exact⟨N' X,N' (YV X (M' u.symm))⟩) (λj hj=>by have:=lj j hj;simp;exact⟨N' this,N' (YV this (M' u.symm))⟩)) G t C N p F p1 p2 p3 Q s S n y
  rw[e4];refine⟨_,_,_,_,_,_,_,rfl,K.trans K4,?_,G4,q1,q2,q3,q4⟩;rw[YM,C,←t];simp[nms]
 .rintro P b ⟨E,L,f,g,J,A,B,rfl,K,t,G,Q,s,S,n⟩
  rw[dJ,YQ]at t;rw[t]at n;refine⟨E,L,_,_,f,g,b,?_,af.new q K (by simp;exact YN (M' u.symm)),t,G,Q,s,S,n,y⟩
  rw[ay,ag]
  have:(mN gU (ae (aa 2) (ae (aa 3) ah))) [oR x,oR k,oR c.length,oR a.length,J,A,B] b=.ok (.tup [.ref c.length,.ref a.length]) b:=by
   rfl
  rfl
theorem bZ.eo{c e b a d}(h:bZ c a d)(he:bZ c e b):bZ (c.set e (.dF b)) a d:=by
 by_cases z:a=e
 .subst z
  have:d=b:=by
   rcases h with h|h<;>rcases he with he|he<;>rw[h]at he<;>cases he<;>rfl
  subst this;exact .inr (tN he)
 .exact h.imp (λy=>cK y z) λy=>cK y z
theorem bN.eo{b e h a E P L}(H:bN P b h E L)(c:bZ b e a):bN P (b.set e (.dF a)) h E L:=by
 refine aY H λi l k m f n o p q=>?_
 have K:af [e] b (b.set e (.dF a)):=af.set (by simp)
 have g:∀j∈[e],∀d,b[j]?≠some (.lst d):=λj r d=>by rw[W'.mp r];exact c.nl d
 exact⟨i,l,k,_,cK f (λz=>c.ni _ _ (z▸f)),n.eo c,o.bV K g,p.eo c,q.bV K g⟩
theorem bN.hlt(H:bN d0 a b u ε):b<a.length:=by
 refine eX H λ_ _ _ _ z _=>bf z
theorem bN.nl(H:bN d0 a b u ε):a[b]?≠some (.lst p):=by
 refine eX H λ_ _ _ _ z _=>?_
 rw[z];simp
def Jg(a:Key×D):D:=.tup [ke a.1,a.2]
theorem xO(h:a[b]?=some (.dF A)):eI (.items b) a=some (A.map Jg):=by simp only[eI,h];rfl
def Sm(a:a5):=
 (ao (aA 4 (mN (aX .list) (ae (aa 3) ah)))
 (ao (cG (bq "House" "add" (λb=>a (b++[.non])) (aa 1) (ae (aa 2) (ae (aa 4) ah))))
 (ao (cG (dv jr bX (aa 4) (ae (aj (.str "zz")) ah)))
 ak)))
def PN(a b):=
 (ao (aA 1 (mN (rg "House" a) ah))
 (ao (ed (eH [2,3]) (jt (aa 0))
 (Sm b))
 (ao (bY (aa 1))
 ak)))
theorem Jh(F:Fh H)(e:bN Tr a b (u.take Θ) ε)(G:l_ u ε)(p:u[Θ]?=some (d,g))(I:GC d)(J:a[s]?=some (.lst (g.map .str))):
  ∃q aw,Sm H [χ,oR b,oS d,oR s,o0] a=.nx [χ,oR b,oS d,oR s,q] aw/\bN Tr aw b (u.take (Θ+1)) ε/\af [b] a aw:=by
 have r:=(Yn.mp p).1;have j:=G.len;have f:u.take (Θ+1)=u.take Θ++[(d,g)]:=by rw[YM,p];rfl
 have n:=G.take (Θ+1);refine oC (G.el Θ _ p) λK o X=>?_
 have o:g.length<=5:=o
 have L:(aA 4 (mN (aX .list) (ae (aa 3) ah))) [χ,oR b,oS d,oR s,o0] a=.nx [χ,oR b,oS d,oR s,oR a.length] (a++[.lst (g.map .str)]):=by
  rw[bg];have:(mN (aX .list) (ae (aa 3) ah)) [χ,oR b,oS d,oR s,o0] a=.ok _ _:=bB J;rw[this];rfl
 have B:(a++[Cell.lst (g.map .str)])[a.length]?=some _:=aq;have t:af [] a (a++[Cell.lst (g.map .str)]):=af.app;have M:(a++[Cell.lst (g.map .str)]).length=a.length+1:=by simp
 have C:=(e.lt.imp (P':=λx=>x≠a.length) (by grind)).keep t
 have N:=e.hlt;generalize a++[Cell.lst _]=i at *
 refine bx (F i b _ _ ε ε _ d g C B I (by
  have:=n.nd;rw[f]at this;simp only[nms,YX,Za,Ÿ]at this;have O:=(Zt.mp this).2.2;exact λz=>O d z d (by simp) rfl) (U' (Yw (List.length_take_le _ _) r) j) K o (by rwa[oo]) (by rw[←f];exact n.gd) (by rw[←f];exact n.VS) (by
  rw[←f];intro m P;have:=n.short P;exact bS this) (λx Q=>Ym (U' (M' M.symm) Q))) λh Y D w=>?_
 rw[←f]at D
 have R:(cG (bq "House" "add" (λS=>H (S++[.non])) (aa 1) (ae (aa 2) (ae (aa 4) ah)))) [χ,oR b,oS d,oR s,oR a.length] i=.nx [χ,oR b,oS d,oR s,oR a.length] h:=by
  rw[cf,dE C rfl (by decide)]
  show cx (th (H [.ref b,.str d,.ref _,.non] i)) _=_
  simp_all
 have y:=w.get _ _ B (by simp;exact Ym N)
 have T:=dC (l:=.str "zz") y (by simp;exact bS o)
 have U:(cG (dv jr bX (aa 4) (ae (aj (.str "zz")) ah))) [χ,oR b,oS d,oR s,oR a.length] h=.nx [χ,oR b,oS d,oR s,oR a.length] (h.set a.length (.lst (g.map .str++[.str "zz"]))):=by
  rw[cf,eg rfl (di y)]
  simp_all
 have A:af [a.length] h (h.set a.length (.lst (g.map .str++[.str "zz"]))):=af.set (by simp)
 refine⟨oR a.length,_,?_,(D.BH A y (by simp)).imp λ_ _=>trivial,⟨B' t.len (B' w.len A.len),λk c E V=>A.get k c (w.get k c (t.get k c E (by simp)) V) (by have:=bf E;simp;exact N' this)⟩⟩
 unfold Sm;rw[ag,L,ay,ag,R,ay,ag,U];rfl
def Ji(d:a5):=∀c e b E L,bZ c e b->aH Tr c b E->l_ E L->(∀n∈nms E,GC n) ->
 ∃h a,d [.ref e] c=.ok (.ref h) a/\bN Tr a h E L/\af [e] c a/\a[e]?=some (.dF b)/\c.length<=h
theorem Nh(X:Fg H)(Y:Fh y2):Ji (bw 5 1 (PN H y2)):=by
 intro l e m E L P Q G Z;rw[bh (by rfl)]
 have e0:a9 5 [D.ref e]=[oR e,none,none,none,none]:=rfl;rw[e0];refine bx (X l L Tr) λb e1 H1 t=>?_
 have r1:(aA 1 (mN (rg "House" H) ah)) [oR e,none,none,none,none] l=.nx [oR e,oR l.length,none,none,none] b:=by
  simp_all
 have f:=P.keep t (by simp)
 have z:=Q.keep t (by simp)
 have H2:=H1.eo f;have S:=tN f;have A:af [e] b (b.set e (.dF m)):=af.set (by simp)
 have B:=z.bV A (λj o T=>by rw[W'.mp o];exact f.nl T)
 have C:jt (aa 0) [oR e,oR l.length,none,none,none] b=.ok _ _:=GB f;have le:=P.lt;generalize b.set e _=F at *;have U:=G.len;have I:=Q.len;unfold PN;rw[ag,r1,ay,ag,cJ,C,cy]
 refine bQ (R:=λr=>∃h g,fE (sq r _)=.ok (.ref h) g/\bN Tr g h E L/\af [e] l g/\g[e]?=some _/\l.length<=h) (p:=m.map Jg)
  (λi u a=>∃J M w,u=[oR e,oR _,J,M,w]/\bN Tr a l.length (E.take i) L/\af [l.length] F a) ?_ ?_ ?_ fuel 0 _ _ (by rw[Yj];unfold fuel;exact kG (B' (B' (YZ _ _) (M' I.symm)) U)) (Yh _) ⟨none,none,none,rfl,by simp_all,af.refl⟩
 .rintro i u a ⟨_,_,_,_,_,K⟩
  exact xO (K.get _ _ S (by simp;omega))
 .rintro i d u a q ⟨J,M,w,rfl,x,K⟩
  rw[YH]at q;obtain⟨kv,N,rfl⟩:=YE.mp q;obtain⟨⟨n,r⟩,V,y,j,o,_,s⟩:=aJ.get (B.bV K (λj o T=>by rw[W'.mp o];exact H2.nl)) N
  have O:Jg kv=.tup [.str n,.ref j]:=by
   unfold Jg;rw[y,o];rfl
  rw[O];refine⟨[oR e,oR _,oS n,oR j,w],rfl,?_⟩;obtain⟨a0,b0,e4,H4,K4⟩:=Jh Y x G V (Z n (Yf (gJ V))) s;rw[e4];exact⟨_,_,_,rfl,H4,K.trans K4⟩
 .rintro u a ⟨J,M,w,rfl,x,K⟩
  rw[Yj,←I,YQ]at x;refine⟨_,a,rfl,x,⟨B' t.len (B' A.len K.len),λk c y hn=>K.get k c (A.get k c (t.get k c y (by simp)) hn) (by have:=bf y;simp;exact N' this)⟩,K.get _ _ S (by simp;omega),XZ _⟩
theorem Fz:∃e,jW e (pureOf (bw 8 3 pW)):=by
 have h:∀c t m:Int,∃r,0<=t->t<100000->0<m->0<=r/\r<m/\pureOf _ _=.ok _:=λc t m=>by
  by_cases d:0<=t/\t<100000/\0<m
  .refine bx (Fc (U:=c) d.1 d.2.1 d.2.2) λr f g i=>⟨r,λ_ _ _=>⟨f,g,i⟩⟩
  .exact⟨0,λa b c=>absurd ⟨a,b,c⟩ d⟩
 exact⟨_,λc t m=>(h c t m).choose_spec⟩
def ow:=
 (ao (ei (m2 (aI .Lt) (aa 1) (mN (aX .len) (ae (aa 0) ah)))
 (ao (bY (m2 aL (aa 0) (aa 1)))
 ak)
 ak)
 (ao (bY (aj (.int 0)))
 ak))
theorem Ni(a):Mc (SC a)=true:=by
 show(a.map _).all _=true
 rw[YP];intro d b;obtain⟨i,_,rfl⟩:=YG.mp b;rfl
theorem Cy:jo (λb k=>b.getD k 0) (pureOf (bw 2 2 ow)):=by
 intro b k;have f:a9 2 [SC b,D.int k]=[some _,some _]:=rfl
 have c:aX .len [SC b] []=.ok (.int b.length) []:=by
  show aE.ok _ []=_
  simp_all
 refine pV (a:=[]) (by
  simp only[ZO,Ni,List.all_nil];rfl) ?_ rfl
 rw[bh (by rfl),f]
 by_cases h:k<b.length
 .have d:=by omega
  have e:L2.mu (b.map D.int) (k)=some (.int (b.getD k 0)):=L2.cq (by simp[h])
  have g:aL (SC b) (.int k) []=.ok (.int (b.getD k 0)) []:=by
   show kT (ixs [] (some _) (.int k)) _=_
   rw[Bt e];rfl
  simp[ow,c,d,g,-List.getD_eq_getElem?_getD]
 .have d:=by omega
  have e:b.getD k 0=0:=by simp_all
  show _=aE.ok (D.int (b.getD k 0)) []
  simp[ow,c,d]
def XW(F:List D->Out Rs):=(bK (mN (dj F) (ae (aa 1) (ae (aa 0) (ae (aj (.int 26)) ah)))) true (aj .non) (eh (ae (aj (.int 8)) ah)) 0 [0])
def tV(i j:Nat):=(m2 (bu .Add) (du (aa i) false (aa j) true (aj .non)) (du (aa i) true (aj .non) false (aa j)))
theorem Cz(l:y[b]?=some (oR Θ))(m:y[s]?=some (oI E5))(h:a[Θ]?=some (.lst (g.map .str)))(n:g.length<=1000):∃k aw,tV b s y a=.ok (.ref k) aw/\aw[k]?=some (.lst ((g.drop E5++g.take E5).map .str))/\af [] a aw/\a.length<=k:=by
 have o:=Bx (s:=E5) h;have i:(a++[Cell.lst ((g.drop E5).map .str)])[a.length]?=some _:=aq;have d:af [] a (a++[Cell.lst ((g.drop E5).map .str)]):=af.app;generalize a++[Cell.lst _]=c at *;have p:=rE (s:=E5) (d.get _ _ h (by simp))
 have j:(c++[Cell.lst ((g.take E5).map .str)])[c.length]?=some _:=aq;have e:af [] _ (c++[Cell.lst ((g.take E5).map .str)]):=af.app;generalize c++[Cell.lst _]=f at *;have q:=gI (e.get _ _ i (by simp)) j (by simp;omega)
 refine⟨_,f++[.lst _],?_,aq,(d.trans e).trans af.app,(d.trans e).len⟩;unfold tV
 simp_all
theorem tW(a:List Str):(a.drop b++a.take b).Perm a:=by
 have:=(abK (l₁:=a.drop b) (l₂:=a.take b))
 simp_all
def vv(S:Str):=S.cps.toList.length=8/\∀x∈S.cps.toList,97<=x/\x<=122
theorem Jj(a b c d e f g h):uF .join (.str "") (.tup [.lst [.str (bW a),.str (bW b),.str (bW c),.str (bW d),.str (bW e),.str (bW f),.str (bW g),.str (bW h)]])=.ok (false,.str ⟨#[a,b,c,d,e,f,g,h]⟩):=rfl
def VY(F:List D->Out Rs):=(bK (m2 aL (aa 2) (mN (dj F) (ae (aa 1) (ae (aa 0) (ae (aj (.int 26)) ah))))) true (aj .non) (eh (ae (aj (.int 8)) ah)) 0 [0,2])
def PQ(F:List D->Out Rs):=(dv LY sW (aj (.str "")) (ae (VY F) ah))
variable{P6 W5 n9 o9:Option D}{T3:List D->Out Rs}{U:Int}{y6:Int->Int->Int->Int}
theorem Jk(b:jW y6 T3):∃S aw,PQ T3 [oI U,χ,oS abc,o0,P0,D2,E3,W5,P6,n9,o9] a=.ok (.str S) aw/\vv S/\af [] a aw:=by
 have c:oP 8=true:=ft (by decide) (by decide)
 have h:=cz (a:=a) (η:=a) (y:=[oI U,χ,oS abc,o0,P0,D2,E3,W5,P6,n9,o9]) (t:=m2 aL (aa 2) (mN (dj T3) (ae (aa 1) (ae (aa 0) (ae (aj (.int 26)) ah))))) (E:=true) (ν:=aj .non) (y1:=eh (ae (aj (.int 8)) ah)) (I:=[0,2]) (D3:=.ints 0 8)
  (f7:=λd=>match d with|.int j=>.str (bW (97+(y6 U j 26).toNat))|_=>.non) (by simp[c]) rfl (λd e=>rfl) (λd e _=>by
   obtain⟨i,l⟩:=YL.mp e;obtain⟨rfl,m⟩:=fO l;obtain⟨f,g,q⟩:=b U (0+(i)) 26 (ZQ _) (by omega) (by decide)
   generalize (0)+(i:Int)=j at *;simp[dw,q,(wq f g)]) (by rw[dJ];omega)
 rw[Zk.mpr (by simp)]at h
 have n:∀j,0<=j->j<100000->97<=97+(y6 U j 26).toNat/\97+(y6 U j 26).toNat<=122:=λj o p=>by
  obtain⟨f,g,_⟩:=b U j 26 o p (by decide)
  omega
 refine⟨⟨#[97+(y6 U (0+0) 26).toNat,97+(y6 U (0+1) 26).toNat,97+(y6 U (0+2) 26).toNat,97+(y6 U (0+3) 26).toNat,97+(y6 U (0+4) 26).toNat,97+(y6 U (0+5) 26).toNat,97+(y6 U (0+6) 26).toNat,97+(y6 U (0+7) 26).toNat]⟩,_,?_,?_,af.app (η:=[.lst ((intsFrom 0 8).map λd=>match d with|.int j=>.str (bW (97+(y6 U j 26).toNat))|_=>.non)])⟩
 .unfold PQ
  rw[eg rfl rfl]
  have r:gc (a++[.lst ((intsFrom 0 8).map λd=>match d with|.int j=>.str (bW (97+(y6 U j 26).toNat))|_=>.non)]) 8 _=some (.lst [.str (bW (97+(y6 U (0+0) 26).toNat)),.str _,.str (bW (97+(y6 U (0+2) 26).toNat)),.str (bW (97+(y6 U (0+3) 26).toNat)),.str (bW (97+(y6 U (0+4) 26).toNat)),.str (bW (97+(y6 U (0+5) 26).toNat)),.str (bW (97+(y6 U (0+6) 26).toNat)),.str (bW (97+(y6 U (0+7) 26).toNat))]):=
   kj aq rfl
  unfold VY;rw[a8,h];simp only[au,br,sW,wV,ro,r,rr,Jj,EV]
 .refine⟨rfl,λx k=>?_⟩
  simp only[Yo,Ń,or_false]at k;rcases k with rfl|rfl|rfl|rfl|rfl|rfl|rfl|rfl<;>exact n _ (by decide) (by decide)
noncomputable def lx(S:Str)(i:Nat):Str:=⟨(S.cps.toList.take (i+1)).toArray⟩
theorem Nj(h:vv d){i}(a:i<8):GC (lx d i):=by
 have b:(lx d i).length=i+1:=by
  show(d.cps.toList.take _).toArray.size=_
  have:=h.1
  grind
 refine⟨by omega,B' (M' b) a,λx c=>h.2 x (î (i:=i+1) ?_)⟩
 have:(lx d i).cps.toList=d.cps.toList.take _:=rfl
 simp_all
theorem Jl(h:vv d)(k:b<=8):((Yd b).map (lx d)).Nodup:=by
 refine abL.mpr (abM (λ{a c} f g e i=>e ?_) (abN))
 have l:=Ö.mp f;have m:=Ö.mp g;have n:=h.1;have j:=congrArg (λz=>z.cps.toList.length) i
 simp only[lx,Zq]at j;omega
def Sn:=(bK (du (aa 1) true (aj .non) false (m2 (bu .Add) (aa 0) (aj (.int 1)))) true (aj .non) (eh (ae (aa 1) ah)) 0 [3])
theorem Jm(h:vv d)(l:b<=12):Sn [χ,oI b,o0,oS d,P0,D2,E3,W5,P6,n9,o9] a=.ok (.ref a.length) (a++[.lst (((Yd b).map (lx d)).map .str)]):=by
 have f:oP (b)=true:=ft (ZQ _) (FX l);have g:d.length=8:=by simpa[Ļ]using h.1
 have k:small d.length=true:=aP (bS (M' g))
 have m:=cz (a:=a) (η:=a) (y:=[χ,oI b,o0,oS d,P0,D2,E3,W5,P6,n9,o9]) (t:=du (aa 1) true (aj .non) false (m2 (bu .Add) (aa 0) (aj (.int 1)))) (E:=true) (ν:=aj .non) (y1:=eh (ae (aa 1) ah)) (I:=[3]) (D3:=.ints 0 b)
  (f7:=λc=>match c with|.int j=>.str ⟨(et d.cps.toList none (some (j+1))).toArray⟩|_=>.non) (by simp[f]) rfl (λc n=>rfl) (λc n _=>by
   obtain⟨i,o⟩:=YL.mp n;obtain⟨rfl,p⟩:=fO o;simp[dw,k]) (by rw[dJ];exact bS l)
 rw[Zk.mpr (by simp),kR,Ys]at m
 have e:((Yd b).map ((λc=>match c with|.int j=>D.str ⟨(et d.cps.toList none (some (j+1))).toArray⟩|_=>.non) ∘ λ(i:Nat)=>D.int i))=((Yd b).map (lx d)).map .str:=by
  rw[Ys];refine Zb λi _=>?_
  show D.str ⟨_⟩=.str _
  rw[show(i)+1=((i+1:Nat):Int)by omega,uP]
  rfl
 rwa[e]at m
def sgn(f st:Int)(i:Nat):=97+((f+st*i)%26).toNat
def So:=(bK (m2 aL (aa 2) (m2 (bu .Mod) (m2 (bu .Add) (aa 1) (m2 (bu .Mult) (aa 3) (aa 0))) (aj (.int 26)))) true (aj .non) (eh (ae (aa 1) ah)) 0 [8,2,9])
variable{S0:Int}
theorem Jn(k:1<=S0)(p:S0<26)(f:b<=12):So [χ,oI b,oS abc,o0,P0,D2,E3,W5,oI U,oI S0,P6] a=.ok (.ref a.length) (a++[.lst (((Yd b).map λi=>bW (sgn U S0 i)).map .str)]):=by
 have c:oP (b)=true:=ft (ZQ _) (FX f);have l:nk S0=true:=jV (by omega) (by omega)
 have g:=cz (a:=a) (η:=a) (y:=[χ,oI b,oS abc,o0,P0,D2,E3,W5,oI U,oI S0,P6]) (t:=m2 aL (aa 2) (m2 (bu .Mod) (m2 (bu .Add) (aa 1) (m2 (bu .Mult) (aa 3) (aa 0))) (aj (.int 26)))) (E:=true) (ν:=aj .non) (y1:=eh (ae (aa 1) ah)) (I:=[8,2,9]) (D3:=.ints 0 b)
  (f7:=λd=>match d with|.int j=>.str (bW (97+((U+S0*j)%26).toNat))|_=>.non) (by simp[c]) rfl (λd h=>rfl) (λd h _=>by
   obtain⟨i,m⟩:=YL.mp h;obtain⟨rfl,n⟩:=fO m;generalize q:(0)+(i:Int)=j;have o:nk j=true:=jV (by omega) (by omega)
   simp[dw,l,o,(wq (U:=(U+S0*j)%26) (by omega) (by omega))]) (by rw[dJ];exact bS f)
 rw[Zk.mpr (by simp),kR,Ys]at g
 have e:((Yd b).map ((λd=>match d with|.int j=>D.str (bW (97+((U+S0*j)%26).toNat))|_=>.non) ∘ λ(i:Nat)=>D.int i))=((Yd b).map λi=>bW (sgn U S0 i)).map .str:=by
  rw[Ys];exact Zb λi _=>rfl
 rwa[e]at g
noncomputable def vw(S:Str)(a pl z):=((⟨(S.cps.toList.take pl).toArray⟩)++z)++(⟨((S.cps.toList.drop (pl+1)).take (a - (pl+1))).toArray⟩:Str)
theorem vx:(vw d b s (bW Θ)).cps.toList=(d.cps.toList.take s++[Θ])++(d.cps.toList.drop (s+1)).take (b - (s+1)):=by
 unfold vw;rw[abO,abO];simp[bW]
theorem Sq(h:vv d)(hz:b<=8)(e:s<b)(a:97<=Θ/\Θ<=122):GC (vw d b s (bW Θ)):=by
 have f:=h.1
 have c:(vw d b s (bW Θ)).length=b:=by
  have:(vw d b s (bW Θ)).length=(vw d b s (bW Θ)).cps.toList.length:=by rfl
  rw[this,vx]
  grind
 refine⟨by omega,B' (M' c) hz,λx hx=>?_⟩
 rw[vx]at hx;simp only[Yz,W']at hx;rcases hx with (hx|rfl)|hx
 .exact h.2 x (î hx)
 .exact a
 .exact h.2 x (List.mem_of_mem_drop (î hx))
theorem Nk(h:vv d)(n:b<=12)(g:S0=1\/S0=3\/S0=5\/S0=7):((Yd b).map λi=>vw d s Θ (bW (sgn U S0 i))).Nodup:=by
 refine abL.mpr (abM (λ{a c} j k e l=>e ?_) (abN))
 have o:=Ö.mp j;have p:=Ö.mp k;have f:=congrArg (λz=>z.cps.toList) l
 simp only[vx]at f;have m:=by simpa using (List.append_cancel_left (List.append_cancel_right f))
 unfold sgn at m;rcases g with rfl|rfl|rfl|rfl<;>omega
def VZ:=(bK (m2 (bu .Add) (m2 (bu .Add) (du (aa 3) true (aj .non) false (aa 2)) (aa 0)) (du (aa 3) false (m2 (bu .Add) (aa 2) (aj (.int 1))) false (aa 1))) true (aj .non) (ba (aa 10)) 0 [6,7,3])
theorem Jo(h:vv d)(hz:b<=8)(r:s<b)(m:a[Θ]?=some (.lst ((I.map bW).map .str)))(p:I.length<=1000):VZ [χ,o0,P0,oS d,D2,E3,oI b,oI s,W5,P6,oR Θ] a=.ok (.ref a.length) (a++[.lst ((I.map λc=>vw d b s (bW c)).map .str)]):=by
 have g:d.length=8:=by simpa[Ļ]using h.1
 have i:small d.length=true:=aP (bS (M' g))
 have n:=cz (y:=[χ,o0,P0,oS d,D2,E3,oI b,oI s,W5,P6,oR Θ]) (t:=m2 (bu .Add) (m2 (bu .Add) (du (aa 3) true (aj .non) false (aa 2)) (aa 0)) (du (aa 3) false (m2 (bu .Add) (aa 2) (aj (.int 1))) false (aa 1))) (E:=true) (ν:=aj .non) (y1:=ba (aa 10)) (I:=[6,7,3])
  (f7:=λf=>match f with|.str z=>.str (vw d b s z)|_=>.non) (by
   exact aM (by rw[az,av m])) (by rw[bC,az,av m]) (λf o=>rfl) (λf o _=>by
   obtain⟨z,j,rfl⟩:=YG.mp o;obtain⟨c,_,rfl⟩:=YG.mp j
   have q:et d.cps.toList (some ((s)+1)) (some (b))=(d.cps.toList.drop (s+1)).take (b - (s+1)):=by
    rw[show(s:Int)+1=((s+1:Nat))by omega,AQ]
   have one:(bW c).length=1:=rfl
   have u:(⟨(d.cps.toList.take s).toArray⟩:Str).length<=8:=by
    show(d.cps.toList.take s).toArray.size<=8
    grind
   have w:(⟨((d.cps.toList.drop (s+1)).take (b - (s+1))).toArray⟩:Str).length<=8:=by
    show((d.cps.toList.drop _).take _).toArray.size<=8
    grind
   have k:small ((⟨(d.cps.toList.take s).toArray⟩:Str).length+(bW c).length)=true:=aP (by omega)
   have l:small (((⟨(d.cps.toList.take s).toArray⟩)++bW c).length+(⟨((d.cps.toList.drop (s+1)).take (b - (s+1))).toArray⟩:Str).length)=true:=aP (by rw[Str.length_append];omega)
   simp[dw,i,(uP _ _),q,k,l,vw]) (by simp;exact bS p)
 rw[Zk.mpr (by simp),Ys,Ys]at n
 have e:(I.map (((λf=>match f with|.str z=>D.str (vw d b s z)|_=>.non) ∘ D.str) ∘ bW))=(I.map λc=>vw d b s (bW c)).map .str:=by
  simp
 rwa[e]at n
def Ks(F:List D->Out Rs):=(ei (nL (m2 (aI .LtE) (aa 1) (aj (.int 8))) (m2 (aI .Eq) (mN (dj F) (ae (aa 0) (ae (aj (.int 9)) (ae (aj (.int 4)) ah)))) (aj (.int 1))))
 (ao (aA 5 Sn)
 (ao (bY (tV 5 4))
 ak))
 ak)
def PR(F:List D->Out Rs):=
 (ao (aA 2 (aj (.str "abcdefghijklmnopqrstuvwxyz")))
 (ao (aA 3 (PQ F))
 (ao (aA 4 (mN (dj F) (ae (aa 0) (ae (aj (.int 8)) (ae (aa 1) ah)))))
 (ao (Ks F)
 (ao (aA 6 (m2 (bu .Add) (aj (.int 1)) (mN (dj F) (ae (aa 0) (ae (aj (.int 10)) (ae (aj (.int 8)) ah))))))
 (ao (aA 7 (mN (dj F) (ae (aa 0) (ae (aj (.int 11)) (ae (aa 6) ah)))))
 (ao (aA 8 (mN (dj F) (ae (aa 0) (ae (aj (.int 12)) (ae (aj (.int 26)) ah)))))
 (ao (aA 9 (m2 aL (mN bt (ae (aj (.int 1)) (ae (aj (.int 3)) (ae (aj (.int 5)) (ae (aj (.int 7)) ah))))) (mN (dj F) (ae (aa 0) (ae (aj (.int 13)) (ae (aj (.int 4)) ah))))))
 (ao (aA 10 So)
 (ao (bY VZ)
 ak))))))))))
def Jp(N:a5):=∀d c m,1<=m->m<=12->∃(b:List Str) (q:Nat) (a:aG),b.Nodup/\(∀x∈b,GC x)/\b.length=m/\N [.int c,.int m] d=.ok (.ref q) a/\a[q]?=some (.lst (b.map .str))/\af [] d a
theorem Nl(n:jW y6 T3):Jp (bw 11 2 (PR T3)):=by
 intro I c m a0 E;rw[bh (by rfl)]
 have e0:a9 11 [D.int c,.int m]=[oI c,oI m,none,none,none,none,none,none,none,none,none]:=rfl;rw[e0];refine oC (n c 8 (m:Int) (by decide) (by decide) (by omega)) λt0 t1 ht=>?_
 obtain⟨w0,w1,K⟩:=n c 9 4 (by decide) (by decide) (by decide)
 obtain⟨z0,z1,hz⟩:=n c 10 8 (by decide) (by decide) (by decide)
 generalize y6 c 8 (m:Int)=t at *;generalize y6 c 9 4=w at *;generalize y6 c 10 8=z at *;refine oC (n c 11 (1+z) (by decide) (by decide) (by omega)) λp0 p1 Y=>?_
 obtain⟨f0,f1,hf⟩:=n c 12 26 (by decide) (by decide) (by decide)
 obtain⟨s0,s1,hs⟩:=n c 13 4 (by decide) (by decide) (by decide)
 generalize y6 c 11 (1+z)=p at *;generalize y6 c 12 26=f at *;generalize y6 c 13 4=s at *;obtain⟨e,rfl⟩:∃e:Nat,(e:Int)=t:=⟨t.toNat,by omega⟩
 obtain⟨o,rfl⟩:∃o:Nat,(o:Int)=p:=⟨p.toNat,by omega⟩
 obtain⟨j,F⟩:∃j:Nat,(j:Int)=1+z:=⟨(1+z).toNat,by omega⟩
 rw[←F]at Y;refine aF (Jk (a:=I) (U:=c) n (χ:=oI m) (o0:=none) (P0:=none) (D2:=none) (E3:=none) (W5:=none) (P6:=none) (n9:=none) (o9:=none)) λS d e1 C Z=>?_
 have r1:(aA 2 (aj (.str "abcdefghijklmnopqrstuvwxyz"))) [oI c,oI m,none,none,none,none,none,none,none,none,none] I=.nx [oI c,oI m,oS abc,none,none,none,none,none,none,none,none] I:=rfl
 have r2:(aA 3 (PQ T3)) [oI c,oI m,oS abc,none,none,none,none,none,none,none,none] I=.nx [oI c,oI m,oS abc,oS S,none,none,none,none,none,none,none] d:=by
  rw[bg,e1];rfl
 have r3:(aA 4 (mN (dj T3) (ae (aa 0) (ae (aj (.int 8)) (ae (aa 1) ah))))) [oI c,oI m,oS abc,oS S,none,none,none,none,none,none,none] d=.nx [oI c,oI m,oS abc,oS S,oI e,none,none,none,none,none,none] d:=by simp[ht]
 unfold PR;rw[ag,r1,ay,ag,r2,ay,ag,r3,ay,ag]
 by_cases hc:m<=8/\w=1
 .obtain⟨G,rfl⟩:=hc
  have e2:=Jm (a:=d) C E (χ:=oI c) (o0:=oS abc) (P0:=oI e) (D2:=none) (E3:=none) (W5:=none) (P6:=none) (n9:=none) (o9:=none);have L:(d++[Cell.lst (((Yd m).map (lx S)).map .str)])[d.length]?=some (.lst (((Yd m).map (lx S)).map .str)):=aq;have M:af [] d (d++[Cell.lst (((Yd m).map (lx S)).map .str)]):=af.app
  have hv:∀x∈(Yd m).map (lx S),GC x:=λx u=>by
   obtain⟨i,hi,rfl⟩:=YG.mp u;exact Nj C (by have:=Ö.mp hi;exact U' this G)
  have hn:=Jl (b:=m) C G;have H:((Yd m).map (lx S)).length=m:=by simp
  generalize (Yd m).map (lx S)=J at *;generalize d++[Cell.lst (J.map .str)]=g at *;refine a6 (Cz (y:=[oI c,oI m,oS abc,oS S,oI e,oR d.length,none,none,none,none,none]) (b:=5) (s:=4) rfl rfl L (bS (B' (M' H) E))) λk r N O P _=>?_
  have Q:=tW (b:=e) J;refine⟨J.drop e++J.take e,k,r,Q.nodup_iff.mpr hn,λx u=>hv x (Q.mem_iff.mp u),by rw[Q.length_eq];exact H,?_,O,(Z.trans M).trans P⟩
  have q:((m:Int)<=8):=by omega
  have ra:aA 5 Sn [oI c,oI m,oS abc,oS S,oI e,none,none,none,none,none,none] d=.nx [oI c,oI m,oS abc,oS S,oI e,oR d.length,none,none,none,none,none] g:=by
   rw[bg,e2];rfl
  unfold Ks
  simp_all
 .have r4:Ks T3 [oI c,oI m,oS abc,oS S,oI e,none,none,none,none,none,none] d=.nx [oI c,oI m,oS abc,oS S,oI e,none,none,none,none,none,none] d:=by
   by_cases R:w=1
   .have q:¬ ((m:Int)<=8):=λh=>hc ⟨by omega,R⟩
    simp[Ks,K,q]
   .by_cases q:(m:Int)<=8
    .simp[Ks,K,q,R]
    .simp[Ks,K,q]
  have r5:(aA 6 (m2 (bu .Add) (aj (.int 1)) (mN (dj T3) (ae (aa 0) (ae (aj (.int 10)) (ae (aj (.int 8)) ah)))))) [oI c,oI m,oS abc,oS S,oI e,none,none,none,none,none,none] d=.nx [oI c,oI m,oS abc,oS S,oI e,none,oI j,none,none,none,none] d:=by
   rw[F];simp[hz]
  have r6:(aA 7 (mN (dj T3) (ae (aa 0) (ae (aj (.int 11)) (ae (aa 6) ah))))) [oI c,oI m,oS abc,oS S,oI e,none,oI j,none,none,none,none] d=.nx [oI c,oI m,oS abc,oS S,oI e,none,oI j,oI o,none,none,none] d:=by simp[Y]
  have r7:(aA 8 (mN (dj T3) (ae (aa 0) (ae (aj (.int 12)) (ae (aj (.int 26)) ah))))) [oI c,oI m,oS abc,oS S,oI e,none,oI j,oI o,none,none,none] d=.nx [oI c,oI m,oS abc,oS S,oI e,none,oI j,oI o,oI f,none,none] d:=by simp[hf]
  have M:af [] d (d++[Cell.lst [.int 1,.int 3,.int 5,.int 7]]):=af.app;have L:(d++[Cell.lst [.int 1,.int 3,.int 5,.int 7]])[d.length]?=some (.lst [.int 1,.int 3,.int 5,.int 7]):=aq
  have A:∃l:Int,(l=1\/l=3\/l=5\/l=7)/\L2.mu [D.int 1,.int 3,.int 5,.int 7] s=oI l:=by
   have:s=0\/s=1\/s=2\/s=3:=by omega
   rcases this with rfl|rfl|rfl|rfl
   .exact⟨1,.inl rfl,rfl⟩
   .exact⟨3,.inr (.inl rfl),rfl⟩
   .exact⟨5,.inr (.inr (.inl rfl)),rfl⟩
   .exact⟨7,.inr (.inr (.inr rfl)),rfl⟩
  refine bc A λl A T=>?_
  have b0:=bP L T
  have r8:(aA 9 (m2 aL (mN bt (ae (aj (.int 1)) (ae (aj (.int 3)) (ae (aj (.int 5)) (ae (aj (.int 7)) ah))))) (mN (dj T3) (ae (aa 0) (ae (aj (.int 13)) (ae (aj (.int 4)) ah)))))) [oI c,oI m,oS abc,oS S,oI e,none,oI j,oI o,oI f,none,none] d=.nx [oI c,oI m,oS abc,oS S,oI e,none,oI j,oI o,oI f,oI l,none] (d++[Cell.lst [.int 1,.int 3,.int 5,.int 7]]):=by
   have R:(mN bt (ae (aj (.int 1)) (ae (aj (.int 3)) (ae (aj (.int 5)) (ae (aj (.int 7)) ah))))) [oI c,oI m,oS abc,oS S,oI e,none,oI j,oI o,oI f,none,none] d=.ok (.ref d.length) (d++[Cell.lst [.int 1,.int 3,.int 5,.int 7]]):=by
    rfl
   simp_all
  generalize d++[Cell.lst [.int 1,.int 3,.int 5,.int 7]]=g at *;have N:=Jn (a:=g) (U:=f) (S0:=l) (by omega) (by omega) E (χ:=oI c) (o0:=oS S) (P0:=oI e) (D2:=none) (E3:=oI j) (W5:=oI o) (P6:=none)
  have em:(Yd m).map (λi=>bW (sgn f l i))=((Yd m).map (sgn f l)).map bW:=by rw[Ys];rfl
  rw[em]at N
  have V:∀x∈(Yd m).map (sgn f l),97<=x/\x<=122:=λx u=>by
   obtain⟨i,_,rfl⟩:=YG.mp u;unfold sgn;omega
  have X:(((Yd m).map (sgn f l)).map λx=>vw S j o (bW x)).Nodup:=by
   rw[Ys];exact Nk C E A
  have H:((Yd m).map (sgn f l)).length=m:=by simp
  generalize (Yd m).map (sgn f l)=B at *;have O:(g++[Cell.lst ((B.map bW).map .str)])[g.length]?=some (.lst ((B.map bW).map .str)):=aq;have P:af [] g (g++[Cell.lst ((B.map bW).map .str)]):=af.app
  have r9:aA 10 So [oI c,oI m,oS abc,oS S,oI e,none,oI j,oI o,oI f,oI l,none] g=.nx [oI c,oI m,oS abc,oS S,oI e,none,oI j,oI o,oI f,oI l,oR g.length] (g++[Cell.lst ((B.map bW).map .str)]):=by
   rw[bg,N];rfl
  generalize g++[Cell.lst ((B.map bW).map .str)]=r at *;have e4:=Jo C (show j<=8 by omega) (show o<j by omega) O (bS (B' (M' H) E)) (χ:=oI c) (o0:=oI m) (P0:=oS abc) (D2:=oI e) (E3:=none) (W5:=oI f) (P6:=oI l)
  refine⟨B.map λx=>vw S j o (bW x),r.length,r++[.lst ((B.map λx=>vw S j o (bW x)).map .str)],X,λx u=>?_,by simpa using H,?_,aq,((Z.trans M).trans P).trans af.app⟩
  .obtain⟨y,hy,rfl⟩:=YG.mp u
   exact Sq C (by omega) (by omega) (V y hy)
  .rw[r4,ay,ag,r5,ay,ag,r6,ay,ag,r7,ay,ag,r8,ay,ag,r9,ay,ag,fQ,e4]
   rfl
def tX(xs:List Str)(a i)(r:List Str):=r.Nodup/\r.length<=a/\∀y∈r,y∈xs.take i
def Sr(F:List D->Out Rs):=(bK (m2 aL (aa 2) (aa 0)) false (m2 (aI .Eq) (mN (dj F) (ae (aa 1) (ae (aa 0) (ae (aj (.int 3)) ah)))) (aj (.int 0))) (eh (ae (aa 5) ah)) 0 [6,2])
theorem vy:∀{i},i<=g.length->(Yd i).map (λj=>g.getD j "")=g.take i:=by
 intro i a;apply č;intro j;rw[YH,List.getElem?_take]
 grind
theorem Jq(h:jW y6 T3)(o:a[b]?=some (.lst (g.map .str)))(f:s<=g.length)(m:g.length<=100):∃r:List Str,r.Sublist (g.take s)/\Sr T3 [χ,o0,oR b,P0,D2,oI s,oI U,E3,W5] a=.ok (.ref a.length) (a++[.lst (r.map .str)]):=by
 have i:oP (s)=true:=ft (ZQ _) (FX (B' f m))
 have n:=cz (a:=a) (η:=a) (y:=[χ,o0,oR b,P0,D2,oI s,oI U,E3,W5]) (t:=m2 aL (aa 2) (aa 0)) (E:=false) (y1:=eh (ae (aa 5) ah)) (I:=[6,2]) (D3:=.ints 0 s) (D8:=λd=>match d with|.int j=>(y6 U j 3==0)|_=>false)
  (f7:=λd=>match d with|.int j=>.str (g.getD j.toNat "")|_=>.non) (by simp[i]) rfl (λd k=>by
   obtain⟨j,l⟩:=YL.mp k;obtain⟨rfl,c⟩:=fO l;obtain⟨u,w,q⟩:=h U (0+(j)) 3 (ZQ _) (by omega) (by decide)
   generalize (0)+(j:Int)=p at *
   show dr ((m2 (aI .Eq) (mN (dj T3) (ae (aa 1) (ae (aa 0) (ae (aj (.int 3)) ah)))) (aj (.int 0))) [oI p,oI U,oR b] a)=_
   simp[q]) (λd k _=>by
   obtain⟨j,l⟩:=YL.mp k;obtain⟨rfl,c⟩:=fO l;refine bP o (L2.cq ?_);simp[show j<g.length by exact U' c f]) (by rw[dJ];exact bS (B' f m))
 have e:(((intsFrom 0 s).filter λd=>match d with|.int j=>(y6 U j 3==0)|_=>false).map λd=>match d with|.int j=>D.str (g.getD j.toNat "")|_=>.non)=(((Yd s).filter λj:Nat=>(y6 U j 3==0)).map λj=>g.getD j "").map .str:=by
  rw[kR,Ņ,Ys,Ys];rfl
 rw[e]at n;refine⟨_,?_,n⟩;rw[←vy f];exact(List.filter_sublist).map _
def Ss(F:List D->Out Rs):=(nL (m2 (aI .NotEq) (aa 7) (mN bt ah)) (m2 (aI .Eq) (mN (dj F) (ae (aa 6) (ae (aj (.int 13)) (ae (aj (.int 3)) ah)))) (aj (.int 1))))
def PU(F:List D->Out Rs):=(ei (Ss F)
 (ao (aA 8 (mN (dj F) (ae (aa 6) (ae (aj (.int 14)) (ae (mN (aX .len) (ae (aa 7) ah)) ah)))))
 (ao (aA 7 (tV 7 8))
 ak))
 ak)
def Su(F C:List D->Out Rs):=
 (ao (aA 6 (mN (dj C) (ae (aa 0) (ae (m2 (bu .Add) (aa 1) (aa 5)) ah))))
 (ao (aA 7 (Sr F))
 (ao (aA 7 (du (aa 7) true (aj .non) false (aa 3)))
 (ao (cG (dv jr eT (aa 7) ah))
 (ao (PU F)
 (ao (cG (dv jr bX (aa 4) (ae (aa 7) ah)))
 ak))))))
def PV(F C:List D->Out Rs):=
 (ao (aA 4 (mN bt ah))
 (ao (ed (dS 5) (eh (ae (mN (aX .len) (ae (aa 2) ah)) ah))
 (Su F C))
 (ao (bY (aa 4))
 ak)))
abbrev RV(a:List Int)(st x b q:Nat)(c d e f:Option D):bH:=[some (SC a),oI st,oR x,oI b,oR q,c,d,e,f]
theorem Jr(e:jW y6 T3)(n:a[b]?=some (.lst (g.map .str)))(u:g.length<=100):∃(o:List Str) (f:Nat) (i:Option D) (aw:aG),o.Perm g/\PU T3 [χ,o0,P0,D2,E3,W5,oI U,oR b,P6] a=.nx [χ,o0,P0,D2,E3,W5,oI U,oR f,i] aw/\aw[f]?=some (.lst (o.map .str))/\(f=b\/a.length<=f)/\af [] a aw:=by
 refine bc (ne_nil (y:=[χ,o0,P0,D2,E3,W5,oI U,oR b,P6]) (s:=7) rfl n) λc w h=>?_
 refine oC (e U 13 3 (by decide) (by decide) (by decide)) λI J x=>?_
 have d:=h.get _ _ n (by simp)
 have z:(m2 (aI .Eq) (mN (dj T3) (ae (aa 6) (ae (aj (.int 13)) (ae (aj (.int 3)) ah)))) (aj (.int 1))) [χ,o0,P0,D2,E3,W5,oI U,oR b,P6] c=.ok (.bl (y6 U 13 3==1)) c:=by simp[x]
 have p:Ss T3 [χ,o0,P0,D2,E3,W5,oI U,oR b,P6] a=.ok (.bl (decide (g≠[])&&(y6 U 13 3==1))) c:=by
  unfold Ss;rw[rl,w,au,cQ]
  by_cases q:g=[]
  .subst q;rfl
  .rw[decide_eq_true q,Gw,z,Bool.true_and]
 by_cases A:g≠[]/\y6 U 13 3=1
 .have K:=abG.mpr A.1
  refine oC (e U 14 (g.length) (by decide) (by decide) (by omega)) λL M r=>?_
  obtain⟨t,B⟩:∃t:Nat,(t)=y6 U 14 (g.length):=⟨(y6 U 14 (g.length)).toNat,by omega⟩
  rw[←B]at r;have j:=iG d
  have C:(aA 8 (mN (dj T3) (ae (aa 6) (ae (aj (.int 14)) (ae (mN (aX .len) (ae (aa 7) ah)) ah))))) [χ,o0,P0,D2,E3,W5,oI U,oR b,P6] c=.nx [χ,o0,P0,D2,E3,W5,oI U,oR b,oI t] c:=by
   simp[j,r]
  refine a6 (Cz (y:=[χ,o0,P0,D2,E3,W5,oI U,oR b,oI t]) (b:=7) (s:=8) rfl rfl d (bS u)) λk l E F G H=>?_
  refine⟨_,k,oI t,l,tW g,?_,F,.inr (by have:=h.len;exact B' this H),h.trans G⟩
  have m:(decide (g≠[])&&(y6 U 13 3==1))=true:=by simp_all
  unfold PU;rw[cF,p,m,dN,cQ,eA,cy,ag,C,ay,ag,bg,E];rfl
 .refine⟨g,b,P6,c,by simp,?_,d,.inl rfl,h⟩
  have m:(decide (g≠[])&&(y6 U 13 3==1))=false:=by
   simp_all
  unfold PU;rw[cF,p,m];rfl
variable{L5:List Int}{Q7:List Int->Nat->Int}
theorem Js{C:List D->Out Rs}(o:jW y6 T3)(A:jo Q7 C)(T:a[b]?=some (.lst (g.map .str)))(B:g.Nodup)(V:s<=g.length)(O:g.length<=100)(R:Rw a x9 I M)(X:x9∉I)(E:M.length<=100):
  ∃r j F G e aw,tX g E5 s r/\Su T3 C (RV L5 Θ b E5 x9 (oI s) χ o0 P0) a=.nx (RV L5 Θ b E5 x9 (oI s) F G e) aw/\Rw aw x9 (I++[j]) (M++[r])/\x9∉I++[j]/\af [x9] a aw:=by
 have H:C [SC L5,.int ((Θ:Int)+(s:Int))]=.ok (false,.int (Q7 L5 (Θ+s))):=by
  exact A L5 (Θ+s)
 have Y:(aA 6 (mN (dj C) (ae (aa 0) (ae (m2 (bu .Add) (aa 1) (aa 5)) ah)))) (RV L5 Θ b E5 x9 (oI s) χ o0 P0) a=.nx (RV L5 Θ b E5 x9 (oI s) (some (.int (Q7 L5 (Θ+s)))) o0 P0) a:=by
  simp[RV,H]
 generalize Q7 L5 (Θ+s)=c at *;refine bc (Jq (U:=c) o (χ:=some (SC L5)) (o0:=oI Θ) (P0:=oI E5) (D2:=oR x9) (E3:=o0) (W5:=P0) T V O) λr k Z=>?_
 have m:r.length<=100:=by have:=k.length_le;rw[Zq]at this;exact B' (B' this (Ň _ _)) O
 have r2:aA 7 (Sr T3) (RV L5 Θ b E5 x9 (oI s) (oI c) o0 P0) a=.nx (RV L5 Θ b E5 x9 (oI s) (oI c) (oR a.length) P0) (a++[.lst (r.map .str)]):=by
  rw[bg,Z];rfl
 have g2:(a++[Cell.lst (r.map .str)])[a.length]?=some (.lst (r.map .str)):=aq;have P:af [] a (a++[Cell.lst (r.map .str)]):=af.app;generalize a++[Cell.lst (r.map .str)]=d at *;have s3:=rE (s:=E5) g2
 have r3:aA 7 (du (aa 7) true (aj .non) false (aa 3)) (RV L5 Θ b E5 x9 (oI s) (oI c) (oR a.length) P0) d=.nx (RV L5 Θ b E5 x9 (oI s) (oI c) (oR d.length) P0) (d++[.lst ((r.take E5).map .str)]):=by
  simp_all
 have J:(d++[Cell.lst ((r.take E5).map .str)])[d.length]?=some (.lst ((r.take E5).map .str)):=aq;have K3:af [] d (d++[Cell.lst ((r.take E5).map .str)]):=af.app;generalize d++[Cell.lst ((r.take E5).map .str)]=f at *;have K:=lR J
 have r4:(cG (dv jr eT (aa 7) ah)) (RV L5 Θ b E5 x9 (oI s) (oI c) (oR d.length) P0) f=.nx (RV L5 Θ b E5 x9 (oI s) (oI c) (oR d.length) P0) (f.set d.length (.lst ((r.take E5).map D.str).reverse)):=by
  rw[cf,eg (l:=.ref d.length) (η:=f) rfl (di J),br,au,K];rfl
 have g4:(f.set d.length (.lst ((r.take E5).map D.str).reverse))[d.length]?=some (.lst ((r.take E5).reverse.map .str)):=by rw[abI];exact aK J
 have K4:af [] a (f.set d.length (.lst ((r.take E5).map D.str).reverse)):=af.new (P.trans K3) (af.set (fp:=[d.length]) (by simp)) (by simpa using P.len)
 refine aY (Jr (U:=c) o (χ:=some (SC L5)) (o0:=oI Θ) (P0:=oR b) (D2:=oI E5) (E3:=oR x9) (W5:=oI s) (P6:=P0) g4 (by rw[ϙ,Zq];exact B' (Ň _ _) m)) λQ w e i n r5 g5 hw K5=>?_
 have L:a.length<=w:=by
  grind
 have p:=K4.trans K5;have x:=R.keep p;have hL:=R.len;have a0:=dC (l:=.ref w) x.ce (by simp;exact bS (B' (M' hL.symm) E))
 have r6:(cG (dv jr bX (aa 4) (ae (aa 7) ah))) (RV L5 Θ b E5 x9 (oI s) (oI c) (oR w) e) i=.nx (RV L5 Θ b E5 x9 (oI s) (oI c) (oR w) e) (i.set x9 (.lst (I.map .ref++[.ref w]))):=by
  rw[cf,eg (l:=.ref x9) (η:=i) rfl (di x.ce)]
  simp_all
 have lq:=bf R.ce;have S:af [x9] i (i.set x9 (.lst (I.map .ref++[.ref w]))):=af.set (by simp)
 have q:x9∉I++[w]:=λz=>by
  rcases Yz.mp z with z|z
  .exact X z
  .have:=W'.mp z;exact Yr _ (Yw (M' this.symm) (U' lq L))
 have t:tX g E5 s Q:=by
  have u:(r.take E5).Sublist (g.take s):=(Ħ _ _).trans k;have N:(r.take E5).Nodup:=(B.sublist (Ħ _ _)).sublist u;refine⟨n.nodup_iff.mpr (List.pairwise_reverse.mpr (adn (λh=>Ya h) N)),?_,λy hy=>?_⟩
  .rw[n.length_eq,ϙ,Zq];exact ņ _ _
  .exact u.subset (List.mem_reverse.mp (n.mem_iff.mp hy))
 refine⟨Q,w,oI c,oR w,e,_,t,?_,⟨?_,?_⟩,q,(cD.up p).trans S⟩
 .unfold Su
  rw[ag,Y,ay,ag,r2,ay,ag,r3,ay,ag,r4,ay,ag]
  simp_all
 .rw[aK x.ce];simp
 .exact(x.al.snoc g5).keep S (λj hj z=>q (by rw[←W'.mp z];exact hj))
def FA(f:a5):=∀c g (h x e:Nat) b,c[x]?=some (.lst (b.map .str))->b.Nodup->b.length<=12 ->
 ∃k j d a,f [SC g,.int h,.ref x,.int e] c=.ok (.ref k) a/\Rw a k j d/\d.length=b.length/\(∀i r,d[i]?=some r->tX b e i r)/\af [] c a
theorem Nn{C:List D->Out Rs}(E:jW y6 T3)(F:jo Q7 C):FA (bw 9 4 (PV T3 C)):=by
 intro a m l x e y O G f;rw[bh (by rfl)]
 have T:a9 9 [SC m,.int l,.ref x,.int e]=[some _,oI l,oR x,oI e,none,none,none,none,none]:=rfl;rw[T];have U:(a++[Cell.lst []])[a.length]?=some _:=aq;have P:af [] a (a++[Cell.lst []]):=af.app;have V:(aA 4 (mN bt ah)) [some (SC m),oI l,oR x,oI e,none,none,none,none,none] a=.nx (RV m l x e a.length none none none none) (a++[Cell.lst []]):=by rfl
 have X:=bf O;generalize a++[Cell.lst []]=q at *;have t:=P.get _ _ O (by simp)
 have u:=iG t;rw[Yj]at u
 have H:eh (ae (mN (aX .len) (ae (aa 2) ah)) ah) (RV m l x e a.length none none none none) q=.ok (.ints 0 y.length) q:=by
  have:(mN (aX .len) (ae (aa 2) ah)) (RV m l x e a.length none none none none) _=.ok _ _:=u;rw[n7,a8,this,au,br,au,au,rD,if_pos (ft (ZQ _) (FX f)),Ł]
 unfold PV;rw[ag,V,ay,ag,cJ,H,cy]
 refine bQ (R:=λr=>∃k n b o,fE (sq r _)=.ok (.ref k) o/\Rw o k n b/\b.length=y.length/\(∀(i:Nat) (r:List _),b[i]?=some r->tX y e i r)/\af [] a o)
  (λi I g=>∃n b J z A B,I=RV m l x e _ J z A B/\Rw g _ n b/\b.length=i/\(∀(i:Nat) (r:List _),b[i]?=some r->tX y e i r)/\a.length∉n/\af [a.length] _ g) (λ_ _ _ _=>rfl) ?_ ?_ _ 0 _ _ (by rw[dJ];unfold fuel;exact kG (B' (YZ _ _) f)) (Yh _) ⟨[],[],_,_,_,_,rfl,⟨U,.nil⟩,rfl,by simp,by simp,af.refl⟩
 .rintro i d I g Y ⟨n,b,J,z,A,B,rfl,R,c,p,Q,K⟩
  obtain⟨rfl,S⟩:=fO Y;rw[abJ];refine⟨RV m l x e _ (oI i) z A B,rfl,?_⟩;obtain⟨r,j,b6,b7,b8,Z,h1,e3,R3,L,K3⟩:=Js (s:=i) E F (K.get _ _ t (by simp;exact N' X)) G (YN S) (bS f) R Q (KG (U' (Yw (M' c) S) f))
  rw[e3];refine⟨_,_,_,_,_,_,rfl,R3,by simp[c],λM r' h=>?_,L,K.trans K3⟩
  by_cases w:M<b.length
  .rw[YU w]at h
   exact p M r' h
  .rw[ZZ (ì w)]at h
   have h0:=by
    have:=(Yn.mp h).1;simp at this;omega
   rw[h0]at h;have N:=by simpa using h
   subst N;obtain rfl:M=i:=by omega
   exact h1
 .rintro I g ⟨n,b,J,z,A,B,rfl,R,c,p,Q,K⟩
  rw[dJ]at c;exact⟨_,n,b,_,rfl,R,c,p,af.new P K (by simp)⟩
def PX(C:List D->Out Rs)(a):=(mN (aQ a) (ae (mN (dj C) (ae (aa 0) (ae (aj (.int 1)) ah))) (ae (aa 1) ah)))
structure eW(Ω aw:aG):Prop where
 len:Ω.length<=aw.length
 get:∀(k:Nat) (c:Cell),Ω[k]?=some c->aw[k]?=some c\/∃kvs,c=Cell.dK kvs/\aw[k]?=some (.dF kvs)
theorem af.kpf(K:af [] a η):eW a η:=⟨K.len,λk c h=>.inl (K.get k c h (by simp))⟩
theorem eW.refl:eW a a:=⟨XZ _,λ_ _ h=>.inl h⟩
theorem eW.trans(d:eW a L6)(b:eW L6 η):eW a η:=⟨B' d.len b.len,λk c h=>by
 rcases d.get k c h with e|⟨f,rfl,e⟩
 .exact b.get k c e
 .rcases b.get k _ e with g|⟨_,z,_⟩
  .simp_all
  .cases z⟩
theorem FC(h:bZ a b A):eW a (a.set b (.dF A)):=⟨by simp,λk c d=>by
 by_cases z:k=b
 .subst z
  rcases h with h|h
  .rw[h]at d;cases d;exact .inr ⟨_,rfl,aK h⟩
  .rw[h]at d;cases d;exact .inl (aK h)
 .exact .inl (cK d z)⟩
theorem eW.lst{a aw}{k:Nat}{b}(K:eW a aw)(h:a[k]?=some (.lst b)):aw[k]?=some (.lst b):=(K.get _ _ h).elim id (by simp)
theorem eW.dct(K:eW a η)(h:bZ a b A):bZ η b A:=by
 rcases h with h|h
 .rcases K.get _ _ h with c|⟨d,z,c⟩
  .exact .inl c
  .cases z;exact .inr c
 .rcases K.get _ _ h with c|⟨d,z,c⟩
  .exact .inr c
  .cases z
theorem eW.rows(K:eW a η)(h:aH d0 a A u):aH d0 η A u:=aJ.imp (by rintro _ _ ⟨e,j,b,c,d⟩;exact⟨e,j,b,c,K.lst d⟩) h
theorem eW.hs(K:eW a η)(H:bN d0 a b u ε):bN d0 η b u ε:=by
 refine aY H λe l c d f g h i j=>?_
 exact⟨e,l,_,_,(K.get _ _ f).elim id (by simp),K.dct g,K.rows h,K.dct i,K.rows j⟩
theorem eW.rw(K:eW a η)(R:Rw a b I M):Rw η b I M:=⟨K.lst R.ce,aJ.imp (λ_ _ d=>K.lst d) R.al⟩
def PY(a):=
 (ao (cG (bq "House" "check_kind" a (aa 0) (ae (aa 1) ah)))
 (ao (bY (mN (aX .list) (ae (m2 aL fe (aa 1)) ah)))
 ak))
def Jt(c:a5):=∀b h E L P n,bN P b h E L->n∈nms E->∃k a,c [.ref h,.str n] b=.ok (.ref k) a/\a[k]?=some (.lst ((aN E n).map .str))/\af [] b a/\b.length<=k
theorem Np(g:vm H):Jt (bw 2 2 (PY H)):=by
 intro d h E L P n a f;rw[bh (by rfl)]
 have s:a9 2 [D.ref h,.str n]=[oR h,oS n]:=rfl;refine bc (g d h E L P n a f) λb t c=>?_
 have u:bq "House" "check_kind" H (aa 0) (ae (aa 1) ah) [oR h,oS n] d=.ok .non b:=by
  rw[dE a rfl (by decide)]
  simp_all
 refine aY (a.keep c) λe l i k m o p w x=>?_
 refine bx (p.at f) λj q _ r=>?_
 refine⟨_,b++[.lst _],?_,aq,c.trans af.app,c.len⟩
 have:(mN (aX .list) (ae (m2 aL fe (aa 1)) ah)) [oR h,oS n] b=.ok (.ref b.length) (b++[.lst ((aN E n).map .str)]):=by
  show((((fV _ _ _ _).bind _).bind _).bind _)=_
  rw[om m]
  show(((aL _ _ _).bind _).bind _)=_
  rw[ej o q];exact(bB r)
 unfold PY
 simp_all
theorem tY(e:g.Nodup)(c:g[b]?=some d):d∉g.take b:=λf=>by
 obtain⟨k,h,a⟩:=ek f;have:=(ê (YV h ((Yn.mp c).1)) e).mp (a.trans c.symm);omega
noncomputable def jH(p:Str×Nat):D:=.tup [.str p.1,.ref p.2]
variable{W6:List (Str×Nat)}
theorem CA(h:(W6.map jH)[b]?=some l):∃p,W6[b]?=some p/\l=jH p:=by
 rw[YH]at h
 grind
theorem tZ(b:(nms u).Nodup):aW (nms u) (aN u)=u:=by
 apply č;intro i;unfold aW;rw[YH];cases a:u[i]? with
 |none=>simp[nms,a]
 |some p=>
  rw[gJ a,ë,vn b a]
theorem aH.upd{j n r}(H:aH d0 a A (aW g ε))(b:n∈g)(i:d0 j)(k:a[j]?=some (.lst (r.map .str))):aH d0 a (cX A (.inr n) (.ref j)) (aW g λm=>if m=n then r else ε m):=by
 have c:(A.any λd=>decide (d.1=Y9 n))=true:=by
  rw[kz,H.is,aU,decide_eq_true b]
 unfold cX;rw[if_pos c];clear c b
 induction g generalizing A with
 |nil=>cases H;exact .nil
 |cons m g f=>
  cases H with
  |@cons d _ e _ l h=>
   refine .cons ?_ (f h)
   by_cases z:m=n
   .simp_all
   simp_all
def Sv(a CE st):=
 (ao (cG (bq "House" "check_kind" a (aa 0) (ae (aa 3) ah)))
 (ao (ei (m2 (aI .In) (aa 3) (aa 2)) (ao st ak) ak)
 (ao (cG (bq "House" "check_elders" CE (aa 0) (ae (aa 4) ah)))
 (ao (cG (dv jr bX (aa 2) (ae (aa 3) ah)))
 ak))))
def PZ(a CE st):=
 (ao (aA 2 (mN bt ah))
 (ao (ed (eH [3,4]) (ba (aa 1)) (Sv a CE st))
 ak))
structure FD(Ω:aG)(t:Nat)(ts:List (Str×Nat))(E:eE)(R:Str->List Str):Prop where
 ce:Ω[t]?=some (.lst (ts.map jH))
 nd:(ts.map (·.1)).Nodup
 len:ts.length<=100
 row:∀p∈ts,Ω[p.2]?=some (.lst ((R p.1).map .str))/\p.1∈nms E/\(R p.1).Nodup/\(R p.1).length<=5/\∀x∈R p.1,x∈nms E
theorem FD.keep{aw fp}(T:FD a b W6 u ε)(K:af fp a aw)(d:∀q∈fp,∀e,a[q]?≠some (.lst e)):FD aw b W6 u ε:=
 ⟨K.get _ _ T.ce λz=>d _ z _ T.ce,T.nd,T.len,λp c=>⟨K.get _ _ (T.row p c).1 λz=>d _ z _ (T.row p c).1,(T.row p c).2⟩⟩
def zk(c:a5):=∀b h t d E L R P,bN P b h E L->FD b t d E R->∃a,c [.ref h,.ref t] b=.ok .non a/\af [] b a
theorem Nq(V:vm H)(X:Ff y2):zk (bw 5 2 (PZ H y2 ω)):=by
 intro c h t y E L R P k T;rw[bh (by rfl)]
 have Y:a9 5 [D.ref h,.ref t]=[oR h,oR t,none,none,none]:=rfl;rw[Y];have A:af [] c (c++[Cell.lst []]):=af.app;have M:(c++[Cell.lst []])[c.length]?=some _:=aq;have Z:aA 2 (mN bt ah) [oR h,oR t,none,none,none] c=.nx [oR h,oR t,oR c.length,none,none] (c++[Cell.lst []]):=by rfl
 have B:=T.keep A (by simp)
 have H1:=k.lt.keep A;have lt:=bf T.ce;generalize c++[Cell.lst []]=m at *
 have C:ba (aa 1) [oR h,oR t,oR c.length,none,none] m=.ok (.seq (.ref t)) m:=by
  exact aM (by rw[az,av B.ce])
 unfold PZ;rw[ag,Z,ay,ag,cJ,C];have j:=T.len;refine bQ (R:=λr=>∃o,fE (sq r _)=.ok _ o/\af [] c o) (p:=y.map jH) (λi w f=>∃F G,w=[oR h,oR t,oR _,F,G]/\af [c.length] _ f/\f[c.length]?=some (.lst (((y.take i).map (·.1)).map .str))) ?_ ?_ ?_ _ 0 _ _ (by unfold fuel;simp;exact kG j) (Yh _) ⟨_,_,rfl,af.refl,M⟩
 .rintro i w f ⟨_,_,_,K,_⟩
  rw[bC,az,av (K.get _ _ B.ce (by simp;exact N' lt))]
 .rintro i d w f hd ⟨F,G,rfl,K,g⟩
  obtain⟨⟨n,a⟩,q,rfl⟩:=CA hd;have N:=Yf q;refine⟨[oR h,oR t,oR _,oS n,oR a],rfl,?_⟩;refine fX (B.row _ N) λw1 w2 w3 w4 w5=>?_
  have la:=(λp q=>bf (T.row p q).1) _ N
  have I:=H1.BH K M (λz=>Yr _ z.2)
  refine bc (V _ h E L _ n I w2) λs e3 x=>?_
  have m3:bq "House" "check_kind" H (aa 0) (ae (aa 3) ah) [oR h,oR t,oR c.length,oS n,oR a] f=.ok .non s:=by
   rw[dE I rfl (by decide)]
   show th _=_
   rw[e3];rfl
  have O:=x.get _ _ g (by simp)
  have Q:=n_ (d:=n) O
  rw[decide_eq_false (by
   have:=tY T.nd (b:=i) (d:=n) (by simp[q])
   rwa[←ń]at this)]at Q
  have S:=I.keep x;refine bc (X _ h a E L _ _ S ((af.trans K (cD.up x)).get _ _ w1 (by simp;exact N' la)) w3 w4 w5) λu e4 U=>?_
  have m4:bq "House" "check_elders" y2 (aa 0) (ae (aa 4) ah) [oR h,oR t,oR c.length,oS n,oR a] s=.ok .non u:=by
   rw[dE S rfl (by decide)]
   show th _=_
   rw[e4];rfl
  have J:=U.get _ _ O (by simp)
  have e:Sv H y2 ω [oR h,oR t,oR c.length,oS n,oR a] f=.nx [oR h,oR t,oR c.length,oS n,oR a] (u.set c.length (.lst (((y.take i).map (·.1)).map .str++[.str n]))):=by
   unfold Sv;rw[ag,cf,m3,cy,ay,ag]
   show sq (cx (dr (aI .In _ _ _)) _) _=_
   rw[Q]
   show sq (cG _ _ _) _=_
   rw[cf,m4,cy,ay,ag,cf,eg rfl (di J)]
   show sq (cx (bX _ _ _) _) _=_
   rw[(dC (l:=.str n) J (by simp;exact bS (B' (Ň _ _) j)))]
   rfl
  rw[e];refine⟨_,_,rfl,((K.trans (cD.up x)).trans (cD.up U)).trans (af.set (by simp)),?_⟩
  rw[aK J,YM,q];simp
 .rintro w f ⟨F,G,rfl,K,_⟩
  exact⟨_,rfl,af.new A K (by simp)⟩
def Sw:=(ao (dh (aa 2) (aa 3) (mN (aX .list) (ae (aa 4) ah))) ak)
def Wv(b:List Str)(c:aG)(d:D):=d=.non\/∃j a,d=.ref j/\c[j]?=some (.lst (List.map D.str a))/\a.length<=13/\∀x∈a,x∈b
def vz(a:List Str)(b)(c:List (Key×D))(d:List Str):=aJ (λp n=>p.1=.inr n/\Wv a b p.2) c d
theorem Wv.keep{aw fp}(h:Wv g a l)(K:af fp a aw)(e:∀q∈fp,∀f,a[q]?≠some (.lst f)):Wv g aw l:=h.imp id fun  i =>aF i λj _ d b c=>⟨j,_,d,K.get _ _ b λz=>e _ z _ b,c⟩
theorem vz.keep{a aw b c d fp}(h:vz d a b c)(K:af fp a aw)(e:∀q∈fp,∀f,a[q]?≠some (.lst f)):vz d aw b c:=aJ.imp (λ_ _ q=>⟨q.1,q.2.keep K e⟩) h
theorem vz.look(h:vz ο a A g):(d∈g->∃b,bz A (.inr d)=some b/\Wv ο a b)/\(d∉g->bz A (.inr d)=none):=by
 induction h with
 |nil=>exact⟨by simp,λ_=>rfl⟩
 |@cons p m A g c _ e=>
  rw[dO]
  grind
theorem vz.len(h:vz ο a A g):A.length=g.length:=(aJ.length h).symm
theorem vz.WQ(h:vz ο a A g):A.map (·.1)=g.map Y9:=by
 induction h with
 |nil=>rfl
 |cons b _ c=>simp_all
theorem CB(c:N5 y a=.ok l η)(e:t y η=.ok (.ref b) η)(f:ν y η=.ok (.str d) η)(g:η[b]?=some (.dK A))(h:A.length<=1000):dh t ν N5 y a=.nx y (η.set b (.dK (cX A (.inr d) l))):=by
 unfold dh;rw[c,cy,e,cy,f,cy,oj g h]
theorem CC(h:Y9 d∉A.map (·.1)):cX (A++[((.inr d:Key),l)]) (.inr d) Y=A++[(.inr d,Y)]:=by
 unfold cX;rw[if_pos (by simp),YX]
 congr 1
 .refine(Zb λp a=>?_).trans (ϟ _)
  grind
 .simp
def ly(a:List (Key×D))(x:Str):Nat:=match bz a (.inr x)with
 |some (.ref j)=>j
 |_=>0
def xP(a:List (Key×D))(x:Str):Bool:=match bz a (.inr x)with
 |some (.ref _)=>true
 |_=>false
def GP(a:aG)(b:List (Key×D))(x:Str):List Str:=match a[ly b x]? with
 |some (.lst c)=>(lH c).getD []
 |_=>[]
theorem strs_map:∀xs,lH (xs.map .str)=some xs
 |[]=>rfl
 |x::xs=>by simp[lH,strs_map xs]
theorem vA(h:bz A (.inr d)=oR b):ly A d=b:=by unfold ly;rw[h]
theorem CD(h:bz A (.inr d)=oR b)(c:a[b]?=some (.lst (g.map .str))):GP a A d=g:=by
 unfold GP;rw[vA h,c];simp[strs_map]
theorem rJ(h:vz ο a A g)(e:d∈g)(f:xP A d=true):bz A (.inr d)=oR (ly A d)/\a[ly A d]?=some (.lst ((GP a A d).map .str))/\(GP a A d).length<=13/\∀y∈GP a A d,y∈ο:=by
 obtain⟨b,c,i⟩:=h.look.1 e;rcases i with rfl|⟨j,k,rfl,l,m,n⟩
 .unfold xP at f
  simp_all
 .rw[vA c,CD c l]
  simp_all
def ldC:=(nL (m2 (aI .NotIn) (aa 3) (aa 1)) (mN (aX .all) (ae (bK (m2 (aI .In) (aa 0) (aa 1)) true (aj .non) (ba (aa 4)) 0 [1]) ah)))
def Sx:=(mN (aX .all) (ae (bK (m2 (aI .IsNot) (m2 aL (aa 1) (aa 0)) (aj .non)) true (aj .non) (ba (aa 4)) 0 [1]) ah))
def Sy:=(bK (m2 aL (aa 1) (aa 0)) true (aj .non) (ba (aa 4)) 0 [1])
def P_(a):=(mN (aQ a) (ae (m2 (bu .Add) Sy (mN bt (ae (aa 4) ah))) ah))
def Sz:=(m2 (bu .Add) (mN bt (ae (aa 3) ah)) (aa 5))
def ldI(a):=(ao (aA 5 (P_ a)) (ao (ei (m2 (aI .IsNot) (aa 5) (aj .non)) (ao (dh (aa 1) (aa 3) Sz) ak) ak) ak))
def GQ(a):=(ao (ei ldC (ao (dh (aa 1) (aa 3) (aj .non)) (ao (ei Sx (ldI a) ak) ak)) ak) ak)
theorem Ju(w:a[s]?=some (.dK A))(l:a[Θ]?=some (.lst (g.map .str)))(W:vz Q6 a A ο)(p:∀x∈g,x∈ο)(z:g.all (xP A)=true)(q:g.length<=5):
  ∃k aw,(m2 (bu .Add) Sy (mN bt (ae (aa 4) ah))) [oR b,oR s,χ,oS T,oR Θ,o0] a=.ok (.ref k) aw/\af [] a aw/\Rw aw k (g.map (ly A)++[Θ]) (g.map (GP a A)++[g]):=by
 have i:=YP.mp z
 have j:=cz (y:=[oR b,oR s,χ,oS T,oR Θ,o0]) (t:=m2 aL (aa 1) (aa 0)) (ν:=aj .non) (E:=true) (y1:=ba (aa 4)) (I:=[1]) (f7:=λd=>match d with|.str x=>.ref (ly A x)|d=>d) (by
  rw[cA];exact aM (by rw[az,av l])) (by rw[bC,az,av l]) (λd _=>rfl) (λd B _=>by
  obtain⟨x,r,rfl⟩:=YG.mp B;exact ej (.inl w) (rJ W (p x r) (i x r)).1) (by simp;exact bS q)
 have C:((g.map D.str).filter λ_=>true).map (λd=>match d with|.str x=>D.ref (ly A x)|d=>d)=(g.map (ly A)).map .ref:=by
  rw[Zk.mpr (λ_ _=>rfl),Ys,Ys]
  rfl
 rw[C]at j;have j:Sy _ a=.ok _ _:=j;have F:af [] a (a++[Cell.lst ((g.map (ly A)).map .ref)]):=af.app;have G:(a++[Cell.lst ((g.map (ly A)).map .ref)])[a.length]?=some _:=aq;generalize a++[Cell.lst _]=c at *
 have H:(mN bt (ae (aa 4) ah)) [oR b,oR s,χ,oS T,oR Θ,o0] c=.ok (.ref c.length) (c++[.lst [.ref Θ]]):=by
  rfl
 have u:af [] _ (c++[Cell.lst [.ref Θ]]):=af.app;have J:(c++[Cell.lst [.ref Θ]])[c.length]?=some _:=aq;generalize c++[Cell.lst _]=e at *;have K:af [] _ (e++[Cell.lst ((g.map (ly A)).map .ref++[.ref Θ])]):=af.app;have m:=(F.trans u).trans K;refine⟨e.length,_,?_,m,⟨?_,?_⟩⟩
 .rw[ez,j,au,H,au,(gI (u.get _ _ G (by simp)) J (by simp;exact bS q))]
 .simp
 .generalize e++[Cell.lst _]=n at *
  have o:∀f:List _,(∀x∈f,x∈g)->kA n (f.map (ly A)) (f.map (GP a A)):=by
   intro f
   induction f with
   |nil=>intro _;exact .nil
   |cons x f L=>intro h;exact .cons (m.get _ _ (rJ W (p x (h x (by simp))) (i x (h x (by simp)))).2.1 (by simp)) (L λy M=>h y (by simp[M]))
  exact(o g λ_ h=>h).snoc (m.get _ _ l (by simp))
theorem CF(c:∀x∈g,(ε x).length<=13)(d:g.length<=5):tl (g.map ε++[g])<=70:=by
 have b:∀a:List _,(∀x∈a,(ε x).length<=13)->((a.map ε).map ZY).sum<=13*a.length:=by
  intro a
  induction a with
  |nil=>simp
  |cons x a e=>
   grind
 unfold tl
 grind
theorem vz.snoc{n d}(h:vz ο a A g)(b:Wv ο a d):vz ο a (A++[(.inr n,d)]) (g++[n]):=aJ.append h (.cons ⟨rfl,b⟩ .nil)
theorem take_snoc(h:g[b]?=some d):g.take (b+1)=g.take b++[d]:=by rw[YM,h];rfl
end Mir
namespace Mir
open PySem PySem.Spec PyProof.Rows L2
open Classical in
noncomputable def ox(E n):=decide (∃l,eF E n (some l))
open Classical in
noncomputable def mj(E n):=if h:∃l,eF E n (some l)then h.choose else []
def FE(E n) := !ox E n&&(aN E n).all (ox E)
variable [hU]
variable{d:Str}{u:eE}
theorem lA:ox u d=true↔∃l,eF u d (some l):=by unfold ox;simp
theorem oy(h:ox u d=true):eF u d (some (mj u d)):=by
 unfold mj;rw[dif_pos _];exact(lA.mp h).choose_spec
variable{g:List Str}
theorem jE(h:eF u d (some g)):ox u d=true/\mj u d=g:=⟨lA.mpr ⟨g,h⟩,Ú (h.uniq (oy (lA.mpr ⟨g,h⟩)))⟩
variable{L7:Option (List Str)}
theorem eF.xQ(h:eF u d L7):∀l,L7=some l->∀x∈aN u d,ox u x=true:=by
 cases h with
 |go c b e=>exact λ_ _ x a=>lA.mpr ⟨_,b x a⟩
 |el=>simp
theorem xR(b:d∈nms u)(e:∀x∈aN u d,ox u x=true):(ox u d=true/\∃o,Mg ((aN u d).map (mj u)++[aN u d]) o/\mj u d=d::o)\/(ox u d=false/\eF u d none/\Sk ((aN u d).map (mj u)++[aN u d])):=by
 have c:=λx h=>oy (e x h)
 rcases sN _ _ (Ð _)with ⟨o,M,_⟩|S
 .have h:eF u d _:=.go b c (a:=some o) M
  exact .inl ⟨(jE h).1,o,M,(jE h).2⟩
 .have h:eF u d _:=.go b c (a:=none) S
  refine .inr ⟨?_,h,S⟩;rw[abP];intro f;obtain⟨l,g⟩:=lA.mp f;cases g.uniq h
theorem CG(Q:Q0 u):(mj u d).length<=13:=by
 unfold mj;split
 .rename_i h;exact(h.choose_spec.sub Q _ rfl).2
 .simp
def CH(B)(d:aG)(a:List (Key×D))(e:List Str):=aJ (λb n=>b.1=.inr n/\∃(p:Nat) (c:List qR),b.2=.ref p/\B<=p/\d[p]?=some (.lst (c.map cP))/\c.length<=900) a e
variable{A:List (Key×D)}{a:aG}{b:Nat}
theorem CH.keep{aw fp}(h:CH b a A g)(K:af fp a aw)(j:∀q∈fp,q<b):CH b aw A g:=aJ.imp (by rintro _ _ ⟨e,p,i,f,c,d,l⟩;exact⟨e,p,i,f,c,K.get _ _ d (by grind),l⟩) h
theorem CH.look(h:CH b a A g):(d∈g->∃(p:Nat) (c:List qR),bz A (.inr d)=oR p/\a[p]?=some (.lst (c.map cP))/\c.length<=900)/\(d∉g->bz A (.inr d)=none):=by
 induction h with
 |nil=>exact⟨by simp,λ_=>rfl⟩
 |@cons i m A g r t n=>
  obtain⟨k,e⟩:=i;obtain⟨rfl,p,c,rfl,o,j,l⟩:=r
  by_cases f:d=m
  .subst f
   exact⟨λ_=>⟨p,c,by simp[bz],j,l⟩,by simp⟩
  .have:bz ((Y9 m,D.ref p)::A) (.inr d)=bz A (.inr d):=by simp[bz,Ya f]
   simp_all
theorem CH.keys(h:CH b a A g):A.map (·.1)=g.map Y9:=by
 induction h with
 |nil=>rfl
 |cons r t c=>simp_all
def FF(a:g.Nodup)(c:g[b]?=some d):=tY a c
variable{E5 s Θ:Nat}{H y2:a5}{d0:Nat->Prop}
theorem FG(hM:BA H)(hX:Nc H)(hB:yW y2)(Q:Q0 u)(F:Ef u g)(he:a[b]?=some (.dF A))(hr:aH d0 a A u)(Y:a[s]?=some (.dK []))(Z:a[Θ]?=some (.dK []))(hz:a[E5]?=some (.lst (g.map .str)))(M:s≠Θ)(a0:b≠s)(b0:b≠Θ):
  ∃f e t c,gO (dS 4) (.seq (.ref E5)) (GN H y2) fuel 0 [oR b,some .non,oR s,oR Θ,none,none] a=.nx [oR b,some .non,oR s,oR Θ,t,none] c/\c[s]?=some (.dK f)/\aH (λj=>a.length<=j) c f (aW (g.filter (ox u)) (mj u))/\c[Θ]?=some (.dK e)/\CH a.length c e (g.filter (FE u))/\af [s,Θ] a c:=by
 have N:g.length<=12:=by
  have:=fG F.nd F.sub;have D:(nms u).length=u.length:=by simp[nms]
  have:=Q.few;omega
 have zl:E5≠s:=λh=>by rw[h,Y]at hz;cases hz
 have zt:E5≠Θ:=λh=>by rw[h,Z]at hz;cases hz
 have ll:=bf Y;have c0:=bf Z
 refine bQ (R:=λr=>∃f e t c,r=.nx [oR b,some .non,oR s,oR Θ,t,none] c/\c[s]?=some (.dK f)/\aH (λj=>a.length<=j) c f (aW (g.filter (ox u)) (mj u))/\c[Θ]?=some (.dK e)/\CH a.length c e (g.filter (FE u))/\af [s,Θ] a c) (p:=g.map .str)
  (λi ρ c=>∃f e t,ρ=[oR b,some .non,oR s,oR Θ,t,none]/\c[s]?=some (.dK f)/\aH (λj=>a.length<=j) c f (aW ((g.take i).filter (ox u)) (mj u))/\c[Θ]?=some (.dK e)/\CH a.length c e ((g.take i).filter (FE u))/\af [s,Θ] a c) ?_ ?_ ?_ fuel 0 _ _ (by unfold fuel;simp;exact kG N) (Yh _) ⟨[],[],none,rfl,Y,.nil,Z,.nil,af.refl⟩
 .rintro i ρ c ⟨_,_,_,_,_,_,_,_,K⟩
  rw[bC,az,av (K.get _ _ hz (by simp[zl,zt]))]
 .rintro i d ρ c e0 ⟨f,e,t,rfl,E,w,D,z,K⟩
  refine bc (fW e0) λn hn f0=>?_;subst f0
  refine⟨[oR b,some .non,oR s,oR Θ,oS n,none],rfl,?_⟩;have m:=F.sub n (Yf hn);have G:=K.get _ _ he (by simp[a0,b0])
  have I:=hr.bV K (λj L ds=>by
   simp only[Yo,Ń,or_false]at L;rcases L with rfl|rfl
   .rw[Y];simp
   .rw[Z];simp)
  have g0:=FF F.nd hn;have O:g.take (i+1)=g.take i++[n]:=take_snoc hn
  have P:((g.take i).filter (ox u)).length<=100:=by
   have:=Ϣ (ox u) (g.take i);rw[Zq]at this;exact bS (B' (B' this (Ň _ _)) N)
  have h0:e.length<=100:=by
   have:=congrArg ZY z.keys;have h5:=Ϣ (FE u) (g.take i);simp at this h5;omega
  have J:=Q.short n m
  by_cases k:∀x∈aN u n,ox u x=true
  .have B:=λx hx=>Zm.mpr ⟨F.pre i n hn x hx,k x hx⟩
   rcases xR m k with ⟨C,o,i0,S⟩|⟨C,hN,hS⟩
   .have ho:o.length<=900:=by have:=CG (d:=n) Q;rw[S]at this;simp at this;exact bS this
    refine a6 (Ja (w9:=λj=>a.length<=j) hM hB (d:=n) (χ:=some .non) (o0:=oR Θ) (P0:=none) G I E w m (λE5=>g0 (Zm.mp E5).1) B i0 S (bS J) P ho (λj L=>B' K.len L)) λT U V h6 h7 l=>?_
    rw[V];refine⟨T,e,oS n,rfl,h6,?_,l.get _ _ D (by simpa using Ya M),?_,K.trans (l.sub (by simp))⟩
    .simp_all
    .rw[O,í,ň (by simp[FE,C]),đ,YS]
     exact z.keep l (λq hq=>by rw[W'.mp hq];exact ll)
   .refine cS (Jb (w9:=λj=>a.length<=j) hX hB (d:=n) (χ:=some .non) (o0:=none) G I E D h0 w m B hS (by
     have:tl ((aN u n).map (mj u)++[aN u n])<=70:=CF (λx _=>CG Q) (Q.short n m)
     exact B' this (by decide)) (bS J) P) λp ss U V h6 h7 lp l9 l=>?_
    rw[V]
    have hk:Y9 n∉e.map (·.1):=by
     rw[z.keys]
     simp_all
    rw[mO hk]at h6;refine⟨f,_,oS n,rfl,l.get _ _ E (by simpa using M),?_,h6,?_,K.trans (l.sub (by simp))⟩
    .rw[O,í,ň (by simp[C]),đ,YS]
     exact w.bV l (λj L ds=>by rw[W'.mp L,D];simp)
    .rw[O,í,List.filter_cons_of_pos (by
      unfold FE;rw[C,YP.mpr k];rfl)]
     exact aJ.append (z.keep l (λq hq=>by rw[W'.mp hq];exact c0)) (.cons ⟨rfl,p,ss,rfl,B' K.len lp,h7,l9⟩ .nil)
  .obtain⟨y,hy,X⟩:∃y∈aN u n,ox u y=false:=by simpa using k
   refine bc (Jc (H:=H) (y2:=y2) (w9:=λj=>a.length<=j) (d:=n) (χ:=some .non) (o0:=oR Θ) (P0:=none) G I E w m hy (λE5=>by have:=(Zm.mp E5).2;rw[X]at this;cases this) (bS J)) λU V l=>?_
   rw[V]
   have C:ox u n=false:=by
    rw[abP];intro C;have:=(oy C).xQ _ rfl y hy;rw[X]at this;cases this
   refine⟨f,e,oS n,rfl,l.get _ _ E (by simp),?_,l.get _ _ D (by simp),?_,K.trans (l.sub (by simp))⟩
   .rw[O,í,ň (by simp[C]),đ,YS]
    exact w.keep l (by simp)
   .rw[O,í,ň (by
     unfold FE
     simp_all),đ,YS]
    exact z.keep l (by simp)
 .rintro ρ c ⟨f,e,t,rfl,E,w,D,z,K⟩
  rw[Yj,YQ]at w z;exact⟨f,e,t,c,rfl,E,w,D,z,K⟩
def Jv(fT:List (Str×EM)):=(ao (ei (m2 (aI .In) (aa 4) (aa 3))
 (ao (dP "Tangled" 2 fT (ae (aa 4) (ae (m2 aL (aa 3) (aa 4)) ah)))
 ak)
 ak)
 ak)
def SA(fL fT:List (Str×EM))(a b c d):=
 (ao (aA 1 (mN (aQ a) (ae (aa 0) ah)))
 (ao (ei (m2 (aI .IsNot) (aa 1) (aj .non))
 (ao (dP "Loop" 1 fL (ae (aa 1) ah))
 ak)
 ak)
 (ao (aA 2 dg)
 (ao (aA 3 dg)
 (ao (ed (dS 4) (ba (mN (aQ b) (ae (aa 0) ah)))
 (GN c d))
 (ao (ed (dS 4) (ba (aa 0))
 (Jv fT))
 (ao (bY VQ)
 ak)))))))
def V9(fL:List (Str×EM)):=∀b q (c:List Str),b[q]?=some (.lst (c.map .str))->c.length<=12->∃d a,fS "Loop" fL [] [none,oR q] b=.exc (c_ "Loop" d) a/\af [] b a
def SD(fT:List (Str×EM)):=∀b n p (c:List qR),b[p]?=some (.lst (c.map cP))->c.length<=900->∃d a,fS "Tangled" fT [] [none,oS n,oR p] b=.exc (c_ "Tangled" d) a/\af [] b a
def SE(g:a5):=∀c e d E P,bZ c e d->aH P c d E->Q0 E ->
  ∃b,af [e] c b/\b[e]?=some (.dF d) /\
    ((∃n∈nms E,∀a,¬ eF E n a)/\(∃h,g [.ref e] c=.exc (c_ "Loop" h) b) \/
     (∀n∈nms E,∃a,eF E n a)/\(∃n∈nms E,eF E n none)/\(∃h,g [.ref e] c=.exc (c_ "Tangled" h) b) \/
     (∀n∈nms E,eF E n (some (mj E n)))/\∃l f,g [.ref e] c=.ok (.ref l) b/\b[l]?=some (.dK f)/\aH (λj=>c.length<=j) b f (aW (nms E) (mj E))/\c.length<=l)
variable{D9:List (Str×EM)}{J0:AM}{L6 η:aG}{l:D}{p:List D}{y:bH}
theorem qa(c:J0 y a=.ok p η)(e:p.length=b)(f:fS d D9 [] (none::p.map some) η=.exc l L6):dP d b D9 J0 y a=.exc l L6:=by
 unfold dP
 simp_all
variable{x6:List (Key×D)}{χ:Option D}
theorem CI(B:SD D9)(C:a[b]?=some (.dF A))(D:(A.map λE=>ke E.1)=(nms u).map .str)(F:u.length<=12)(y:a[E5]?=some (.dK x6))(T:CH s a x6 g):
  ((∀n∈nms u,n∉g)/\∃e,gO (dS 4) (.keys b) (Jv D9) fuel 0 [oR b,some .non,oR Θ,oR E5,χ,none] a=.nx [oR b,some .non,oR Θ,oR E5,e,none] a)\/(∃n∈nms u,n∈g)/\∃f aw,gO (dS 4) (.keys b) (Jv D9) fuel 0 [oR b,some .non,oR Θ,oR E5,χ,none] a=.exc (c_ "Tangled" f) aw/\af [] a aw:=by
 have G:(nms u).length=u.length:=by simp[nms]
 refine bQ (R:=λr=>((∀n∈nms u,n∉g)/\∃e,r=.nx [oR b,some .non,oR Θ,oR E5,e,none] a)\/(∃n∈nms u,n∈g)/\∃f aw,r=.exc (c_ "Tangled" f) aw/\af [] a aw) (p:=(nms u).map .str)
  (λi o c=>c=a/\(∀n∈(nms u).take i,n∉g)/\∃e,o=[oR b,some .non,oR Θ,oR E5,e,none]) ?_ ?_ ?_ fuel 0 _ _ (by unfold fuel;simp;exact kG (B' (M' G) F)) (Yh _) ⟨rfl,by simp,χ,rfl⟩
 .rintro i o c ⟨rfl,_⟩
  rw[oi C,D]
 .rintro i d o c q ⟨rfl,t,e,rfl⟩
  obtain⟨n,z,rfl⟩:=fW q;refine⟨[oR b,some .non,oR Θ,oR E5,oS n,none],rfl,?_⟩;have w:=vh (d:=n) (.inl y)
  by_cases x:n∈g
  .refine aF (T.look.1 x) λp H I J L=>?_
   refine cE (B c n p H J L) λf j k K=>?_
   have:Jv D9 [oR b,some .non,oR Θ,oR E5,oS n,none] c=.exc (c_ "Tangled" f) j:=by
    unfold Jv
    have M:dP "Tangled" 2 D9 (ae (aa 4) (ae (m2 aL (aa 3) (aa 4)) ah)) [oR b,some .non,oR Θ,oR E5,oS n,none] c=.exc (c_ "Tangled" f) j:=by
     refine qa (p:=[.str n,.ref p]) ?_ rfl k
     show((((aL (.ref E5) (.str n) c).bind _).bind _))=_
     rw[ej (.inl y) I];rfl
    simp_all
   rw[this];exact .inr ⟨⟨n,Yf z,x⟩,f,j,rfl,K⟩
  .rw[T.look.2 x]at w
   have:Jv D9 [oR b,some .non,oR Θ,oR E5,oS n,none] c=.nx [oR b,some .non,oR Θ,oR E5,oS n,none] c:=by
    unfold Jv
    simp_all
   rw[this];refine⟨rfl,λm l=>?_,_,rfl⟩
   rw[take_snoc z]at l;rcases Yz.mp l with h|h
   .exact t m h
   simp_all
 .rintro o c ⟨rfl,h,e,rfl⟩
  rw[Yj,YQ]at h;exact .inl ⟨h,e,rfl⟩
variable{X5 Y7:a5}
theorem Jw{fT}(hL:V9 D9)(hT:SD fT)(hO:Sa H)(hE:PH y2)(hM:BA X5)(hX:Nc X5)(hB:yW Y7):SE (bw 6 1 (SA D9 fT H y2 X5 Y7)):=by
 intro Ω e Z E P hd hr Q;rw[bh (by rfl)]
 have e0:a9 6 [D.ref e]=[oR e,none,none,none,none,none]:=rfl;rw[e0];have a0:=Q.few;have K:(nms E).length=E.length:=by simp[nms]
 have le:=hd.lt;refine a6 (hO Ω e Z E P hd hr Q) λd b e1 K1 b0 L=>?_
 have q0:=hr.bV K1 (λj hj ds=>by rw[W'.mp hj];exact hd.nl ds)
 have r1:(aA 1 (mN (aQ H) (ae (aa 0) ah))) [oR e,none,none,none,none,none] Ω=.nx [oR e,some d,none,none,none,none] b:=by simp[e1]
 unfold SA;rw[ag,r1,ay,ag];rcases L with ⟨rfl,G⟩|⟨M,q,xs,rfl,hq,r0⟩
 rotate_left
 .refine cE (hL b q xs hq r0) λfs l u K2=>?_
  refine⟨l,K1.trans (K2.sub (by simp)),K2.get _ _ b0 (by simp),.inl ⟨M,fs,?_⟩⟩
  have r2:dP "Loop" 1 D9 (ae (aa 1) ah) [oR e,oR q,none,none,none,none] b=.exc (c_ "Loop" fs) l:=qa (p:=[.ref q]) (η:=b) rfl rfl u
  have r3:(ei (m2 (aI .IsNot) (aa 1) (aj .non)) (ao (dP "Loop" 1 D9 (ae (aa 1) ah)) ak) ak) [oR e,oR q,none,none,none,none] b=.exc (c_ "Loop" fs) l:=by
   simp_all
  rw[r3];rfl
 have s0:(ei (m2 (aI .IsNot) (aa 1) (aj .non)) (ao (dP "Loop" 1 D9 (ae (aa 1) ah)) ak) ak) [oR e,some .non,none,none,none,none] b=.nx [oR e,some .non,none,none,none,none] b:=by simp
 rw[s0,ay];have K2:af [] b (b++[Cell.dK []]):=af.app;have g2:(b++[Cell.dK []])[b.length]?=some (.dK []):=aq;have l2:(b++[Cell.dK []]).length=b.length+1:=by simp
 have r2:aA 2 dg [oR e,some .non,none,none,none,none] b=.nx [oR e,some .non,oR b.length,none,none,none] (b++[Cell.dK []]):=rfl;generalize b++[Cell.dK []]=l at *;have K3:af [] l (l++[Cell.dK []]):=af.app;have g3:(l++[Cell.dK []])[l.length]?=some (.dK []):=aq;have r3:aA 3 dg [oR e,some .non,oR b.length,none,none,none] l=.nx [oR e,some .non,oR b.length,oR l.length,none,none] (l++[Cell.dK []]):=rfl;generalize l++[Cell.dK []]=y at *;have A:=K2.trans K3;have N:=A.get _ _ b0 (by simp)
 have c0:=q0.keep A (by simp)
 refine cS (hE y e Z E P (.inr N) c0 Q) λB z C e4 d0 F t0 V u0=>xa u0 λO lz=>?_
 have r:=K1.len;have K0:=V.len;have L0:=K3.len;have R:b.length≠e:=Ym (U' le r);have w:l.length≠e:=Ym (YV (U' le r) (M' l2.symm));have f0:=V.get _ _ (K3.get _ _ g2 (by simp)) (by simpa using R)
 have v0:=V.get _ _ g3 (by simpa using w)
 have w0:=c0.bV V (λj hj ds=>by rw[W'.mp hj,N];simp)
 have x0:af [] y C:=⟨V.len,λk c X _=>by
  by_cases h:k=e
  .subst h;rw[N]at X;cases X;exact O
  .exact V.get k c X (by simpa using h)⟩
 have g0:ba (mN (aQ y2) (ae (aa 0) ah)) [oR e,some .non,oR b.length,oR l.length,none,none] y=.ok (.seq (.ref z)) C:=by
  rw[cA];have:(mN (aQ y2) (ae (aa 0) ah)) [oR e,some .non,oR b.length,oR l.length,none,none] y=.ok (.ref z) C:=by simp[e4]
  rw[this,au];exact aM (by rw[az,av d0])
 refine a_ (FG hM hX hB Q F O w0 f0 v0 d0 (N' (M' l2.symm)) (Ya R) (Ya w)) λS M0 a4 o e5 h5 h0 y0 T5 K5=>?_
 have s:=K5.get _ _ O (by simp;exact⟨R.symm,w.symm⟩)
 have J:∀a,ba (aa 0) [oR e,some .non,oR b.length,oR l.length,a,none] o=.ok (.keys e) o:=λa=>by
  rw[cA]
  show srcOf o (.ref e)=_
  rw[xv (.inr s),set_same s]
 have T:af [] b o:=⟨by have:=A.len;have:=K5.len;exact YN (rP h5),λk c X _=>K5.get k c (x0.get k c (A.get k c X (by simp)) (by simp)) (by have:=bf X;simp;exact⟨N' this,N' (YV this (M' l2.symm))⟩)⟩
 have U:∀n∈nms E,n∈B:=λn m=>(vp F t0).mpr (G n m)
 rw[ag,r2,ay,ag,r3,ay,ag,cJ,g0,cy,e5,ay,ag,cJ,J,cy];rcases CI hT (Θ:=b.length) (χ:=a4) s hr.keys a0 y0 T5 with ⟨z0,i0,e6⟩|⟨⟨n0,j0,A0⟩,fs,C0,e6,K6⟩
 rotate_left
 .refine⟨C0,K1.trans ((T.trans K6).sub (by simp)),K6.get _ _ s (by simp),.inr (.inl ⟨G,⟨n0,j0,?_⟩,fs,?_⟩)⟩
  .have:=(Zm.mp A0).2
   unfold FE at this;simp only[Yv,ZH,YP]at this;rcases xR j0 this.2 with ⟨h,_⟩|⟨_,h,_⟩
   .rw[this.1]at h;cases h
   .exact h
  .rw[e6]
   rfl
 have l0:∀n∈nms E,ox E n=true:=by
  have D0:∀(i:Nat) (n:Str),B[i]?=some n->ox E n=true:=by
   intro i
   induction i using ώ with
   |ind i ih=>
    intro n m;have m0:=F.sub n (Yf m)
    have hx:∀x∈aN E n,ox E x=true:=λx hx=>by
     refine bc (ek (F.pre i n m x hx)) λj hj e=>?_
     exact ih j hj x e
    rcases xR m0 hx with ⟨h,_⟩|⟨h,_⟩
    .exact h
    .exact absurd (Zm.mpr ⟨Yf m,by unfold FE;rw[h,YP.mpr hx];rfl⟩) (z0 n m0)
  intro n m;obtain⟨i,hi⟩:=YL.mp (U n m);exact D0 i n hi
 have G0:B.filter (ox E)=B:=Zk.mpr λn m=>l0 n (F.sub n m)
 rw[G0]at h0
 have o0:∀n∈nms E,∃j,(bz S (.inr n)).getD .non=.ref j/\C.length<=j/\o[j]?=some (.lst ((mj E n).map .str))/\bz S (.inr n)=oR j:=λn m=>by
  refine bx (h0.at (n:=n) (by rw[aU];exact U n m)) λj Y h2 h3=>?_
  rw[eO (U n m)]at h3;exact⟨j,by rw[Y];rfl,h2,h3,Y⟩
 refine a6 (vl (t:=mN gU (ae (aa 0) (ae (m2 aL (aa 1) (aa 0)) ah))) (I:=[2]) (g:=nms E) (f:=λn=>(bz S (.inr n)).getD .non) (J i0) (by rw[oi s,hr.keys]) (λn m=>by
  refine dQ (o0 n m) λj Y _ _ h4=>?_;have I0:=ej (d:=n) (.inl h5) h4
  show(((aL (.ref b.length) (.str n) o).bind _).bind _).bind _=_
  rw[I0]
  show gU [.str n,.ref j] o=_
  rw[kx,if_pos (aP (by simp)),Y]) (bS (B' (M' K) a0)) Q.nd) λq p0 e7 g7 K7 lq=>?_
 refine⟨p0,K1.trans (cD.up (T.trans K7)),K7.get _ _ s (by simp),.inr (.inr ⟨λn m=>oy (l0 n m),q,_,?_,g7,?_,by have:=T.len;exact B' (B' r this) lq⟩)⟩
 .have J0:VQ [oR e,some .non,oR b.length,oR l.length,i0,none] o=.ok (.ref q) p0:=e7
  rw[e6,ay,ag,fQ,J0];rfl
 .refine BG λn m=>?_
  refine dQ (o0 n m) λj Y h2 h3 _=>?_
  exact⟨j,Y,YN (U' (Yw r (rP f0)) h2),K7.get _ _ h3 (by simp)⟩
def CJ(a:a5):=
 (ao (aA 2 (mN a (ae (aa 1) ah)))
 (ao (eU ["House"] "elders" (aa 0) (aa 1))
 (ao (eU ["House"] "lines" (aa 0) (aa 2))
 ak)))
def Nr(E):=∃n∈nms E,∀a,¬ eF E n a
def Kt(E):=(∀n∈nms E,∃a,eF E n a)/\∃n∈nms E,eF E n none
def oz(E):=∀n∈nms E,eF E n (some (mj E n))
def CK(d:a5):=∀b h e g i c E P,b[h]?=some (.ins "House" [("elders",.ref g),("lines",.ref i)])->bZ b e c->aH P b c E->Q0 E->(∀j,b.length<=j->P j) ->
 ∃a,(Nr E/\(∃f,d [.ref h,.ref e] b=.exc (c_ "Loop" f) a)/\af [e] b a)\/(Kt E/\(∃f,d [.ref h,.ref e] b=.exc (c_ "Tangled" f) a)/\af [e] b a)\/(oz E/\d [.ref h,.ref e] b=.ok .non a/\bN P a h E (mj E)/\af [h,e] b a)
variable{ε:Str->List Str}
theorem FH(A:Acy u)(d:ME u ε):∀n∈nms u,eF u n (some (ε n)):=by
 obtain⟨f,g⟩:=A.rk
 have c:∀(k:Nat) (n:Str),f n<k->n∈nms u->eF u n (some (ε n)):=by
  intro k
  induction k with
  |zero=>simp
  |succ k h=>
   intro n j b;obtain⟨o,M,e⟩:=d n b;rw[e];exact .go b (λx i=>h x (by grind) (A.el n b x i)) (a:=some o) M
 exact λn b=>c _ n (Ð _) b
theorem CM(A:Acy u)(b:ME u ε):oz u/\aW (nms u) (mj u)=aW (nms u) ε:=by
 have h:=FH A b;have e:=λn a=>(jE (h n a)).2
 exact⟨λn a=>by simp_all,Zb (by simp_all)⟩
theorem oz.nl(h:oz u):¬ Nr u:=fun  a =>bc a λn b q=>q _ (h n b)
theorem oz.nt(h:oz u):¬ Kt u:=by rintro⟨_,n,a,q⟩;cases (h n a).uniq q
theorem Kt.nl(h:Kt u):¬ Nr u:=λ⟨n,hn,q⟩=>xe (h.1 n hn) λa g=>q a g
theorem Jx(J:SE H):CK (bw 3 2 (CJ H)):=by
 intro n h e K o f E P A p B Q L;rw[bh (by rfl)]
 have M:a9 3 [D.ref h,.ref e]=[oR h,oR e,none]:=rfl;rw[M];refine bx (J n e f E P p B Q) λa g q N=>?_
 rcases N with ⟨c,i,C⟩|⟨O,R,i,C⟩|⟨c,l,r,C,s,t,V⟩
 .exact⟨a,.inl ⟨c,⟨i,by
   unfold CJ
   have u:(aA 2 (mN H (ae (aa 1) ah))) [oR h,oR e,none] n=.exc (c_ "Loop" i) a:=by
    simp_all
   rw[ag,u];rfl⟩,g⟩⟩
 .exact⟨a,.inr (.inl ⟨⟨O,R⟩,⟨i,by
   unfold CJ
   have u:(aA 2 (mN H (ae (aa 1) ah))) [oR h,oR e,none] n=.exc (c_ "Tangled" i) a:=by
    simp_all
   rw[ag,u];rfl⟩,g⟩)⟩
 have k:h≠e:=λz=>p.ni _ _ (z▸A)
 have w:=g.get _ _ A (by simpa using k)
 have x:=B.bV g (λj F m=>by rw[W'.mp F];exact p.nl m)
 have X:eU ["House"] "elders" (aa 0) (aa 1) [oR h,oR e,oR l] a=.nx _ (a.set h (.ins "House" [("elders",.ref e),("lines",.ref o)])):=iI rfl rfl w (by simp)
 have G:=aK (e:=.ins "House" [("elders",.ref e),("lines",.ref o)]) w;have S:af [h] a (a.set h (.ins "House" [("elders",.ref e),("lines",.ref o)])):=af.set (by simp)
 generalize a.set h _=b at *;have Y:eU ["House"] "lines" (aa 0) (aa 2) _ b=.nx [oR h,oR e,oR l] (b.set h (.ins "House" [("elders",.ref e),("lines",.ref l)])):=iI rfl rfl G (by simp)
 have T:=aK (e:=.ins "House" [("elders",.ref e),("lines",.ref l)]) G;have U:af [h] b (b.set h (.ins "House" [("elders",.ref e),("lines",.ref l)])):=af.set (by simp)
 generalize b.set h _=y at *;have d:=S.trans U;have I:∀j∈[h],∀m,a[j]?≠some (.lst m):=λj F m=>by simp_all
 refine⟨y,.inr (.inr ⟨c,?_,⟨e,l,f,r,T,.inr (d.get _ _ q (by simpa using Ya k)),x.bV d I,.inl (d.get _ _ s (by simpa using (λz=>by rw[z,w]at s;cases s))),(t.imp L).bV d I⟩,(g.sub (by simp)).trans (d.sub (by simp))⟩)⟩
 unfold CJ
 simp_all
theorem CK.at(h:CK H):GF H:=λb d e f g i E P L j k l G m _ n=>by
 obtain⟨a,A⟩:=CM G.toAcy m;obtain⟨o,p⟩:=h b d e f g _ E P j k l ⟨G.nd,G.el,G.Kn,G.short,G.few⟩ n;rcases p with ⟨c,_⟩|⟨c,_⟩|⟨_,q,⟨r,s,t,u,w,x,y,z,B⟩,K⟩
 .exact absurd c a.nl
 .exact absurd c a.nt
 .exact⟨_,q,⟨r,s,_,_,w,x,y,z,by simp_all⟩,K⟩
def FI(a b):=
 (ao (cG (bq "House" "may_turn" a (aa 0) (ae (aa 1) ah)))
 (ao (aA 2 (mN eS (ae fe ah)))
 (ao (ed (eH [3,4]) (ba (aa 1)) Sw)
 (ao (cG (fH "House" "settle" b (aa 0) (ae (aa 2) ah)))
 ak))))
def SF(TA:a5):=∀b h t d E L R P,bN P b h E L->FD b t d E R->(nms E).Nodup->(∀n∈nms E,n∉d.map (·.1)->R n=aN E n)->Q0 (aW (nms E) R)->(∀j,b.length<=j->P j) ->
 ∃a,(Nr (aW (nms E) R)/\(∃c,TA [.ref h,.ref t] b=.exc (c_ "Loop" c) a)/\af [] b a)\/(Kt (aW (nms E) R)/\(∃c,TA [.ref h,.ref t] b=.exc (c_ "Tangled" c) a)/\af [] b a)\/(oz (aW (nms E) R)/\TA [.ref h,.ref t] b=.ok .non a/\bN P a h (aW (nms E) R) (mj (aW (nms E) R))/\af [h] b a)
theorem xS(c:bN d0 a b u ε)(i:y[s]?=some (oR b))(j:([("elders",D.ref 0),("lines",D.ref 0)]:List (Str×D)).lookup d=none)(k:J0 y a=.ok p η):fH "House" d H (aa s) J0 y a=H (.ref b::p) η:=by
 refine eX c λe l f g h _=>?_
 unfold fH;have:nU a (.ref b)=some (b,("House":Str),([("elders",.ref e),("lines",.ref l)]:List (Str×D))):=by simp only[nU,h]
 simp_all
theorem Jy(hM:zk H)(hS:CK y2):SF (bw 5 2 (FI H y2)):=by
 intro M h t N E L R P s T g0 hR G hP;have h0:E.length<=100:=by have:=G.few;simp[aW,nms]at this;exact bS this
 have e0:a9 5 [D.ref h,.ref t]=[oR h,oR t,none,none,none]:=rfl;refine bc (hM M h t N E L R P s T) λo e1 O=>?_
 have m1:bq "House" "may_turn" H (aa 0) (ae (aa 1) ah) [oR h,oR t,none,none,none] M=.ok .non o:=by
  rw[dE s rfl (by decide)]
  show th (H [.ref h,.ref t] M)=_
  rw[e1];rfl
 refine aY (s.keep O) λe l A q0 h1 h2 h3 h4 h5=>?_
 have i0:=oh h2
 have j0:(mN eS (ae fe ah)) [oR h,oR t,none,none,none] o=.ok (.ref o.length) (o++[.dK A]):=by
  show(((fV ["House"] "elders" (.ref h) o).bind _).bind _)=_
  rw[om h1,au];exact i0
 have V:af [] o (o++[Cell.dK A]):=af.app;have g2:(o++[Cell.dK A])[o.length]?=some (.dK A):=aq;have T2:=(T.keep O (by simp)).keep V (by simp)
 have X:=V.get _ _ h1 (by simp)
 have Y:=O.len;have lh:=bf h1;have lt:=bf (T.keep O (by simp)).ce
 have lp:∀p∈N,p.2<o.length:=λp hp=>bf ((T.keep O (by simp)).row p hp).1
 have l2:(o++[Cell.dK A]).length=o.length+1:=by simp
 generalize hq:o.length=q at *;generalize o++[Cell.dK A]=w at *;have Z:=T.len
 have l0:∀{M:aG}{u:List (Key×D)}{f:Str->List Str},aH P M u (aW (nms E) f)->u.length<=1000:=λ{M u f} s=>by
  have:=s.len;simp[aW,nms]at this;exact bS (B' (M' this.symm) h0)
 have r3:∃I J u b,ed (eH [3,4]) (ba (aa 1)) Sw [oR h,oR t,oR q,none,none] w=.nx [oR h,oR t,oR q,I,J] b/\af [q] w b/\b[q]?=some (.dK u)/\aH P b u (aW (nms E) R):=by
  have m0:ba (aa 1) [oR h,oR t,oR q,none,none] w=.ok (.seq (.ref t)) w:=by
   rw[cA];exact aM (by rw[az,av T2.ce])
  rw[cJ,m0,cy];refine bQ (R:=λr=>∃I J u b,r=.nx [oR h,oR t,oR q,I,J] b/\af [q] w b/\b[q]?=some (.dK u)/\aH P b u (aW (nms E) R)) (p:=N.map jH) (λi ρ b=>∃I J u,ρ=[oR h,oR t,oR q,I,J]/\af [q] w b/\b[q]?=some (.dK u)/\aH P b u (aW (nms E) λn=>if n∈(N.take i).map (·.1)then R n else aN E n)) ?_ ?_ ?_ fuel 0 _ _ (by unfold fuel;simp;exact kG Z) (Yh _) ⟨none,none,A,rfl,af.refl,g2,by simpa using (by rw[tZ g0];exact h3.keep V (by simp))⟩
  .rintro i ρ b ⟨_,_,_,_,K,_⟩
   rw[bC,az,av (K.get _ _ T2.ce (by simp;exact N' lt))]
  .rintro i d ρ b hd ⟨I,J,u,rfl,K,g,U⟩
   refine bc (CA hd) λn0 hp o0=>?_;obtain⟨n,a⟩:=n0;subst o0
   have hm:=Yf hp;refine⟨[oR h,oR t,oR q,oS n,oR a],rfl,?_⟩;refine oC (T2.row _ hm) λw1 w2 _=>?_
   have la:=lp _ hm;have w3:=K.get _ _ w1 (by simp;exact N' la)
   have ev:(mN (aX .list) (ae (aa 4) ah)) [oR h,oR t,oR q,oS n,oR a] b=.ok (.ref b.length) (b++[.lst ((R n).map .str)]):=bB w3;have C:af [] b (b++[Cell.lst ((R n).map .str)]):=af.app;have g3:(b++[Cell.lst ((R n).map .str)])[b.length]?=some (.lst ((R n).map .str)):=aq;have kl:=K.len;generalize hz:b.length=z at *;generalize b++[Cell.lst ((R n).map .str)]=B at *;have gq:=C.get _ _ g (by simp)
   have r1:=ou (y:=[oR h,oR t,oR q,oS n,oR a]) (t:=aa 2) (ν:=aa 3) (d:=n) ev rfl rfl gq (l0 U);have R4:=(U.keep C (by simp)).upd (n:=n) w2 (hP z (YN (U' (Yw Y (M' l2.symm)) kl))) g3
   have F:af [q] B (B.set q (.dK (cX u (.inr n) (.ref z)))):=af.set (by simp)
   have R5:=R4.bV F (λj hj ds=>by rw[W'.mp hj,gq];simp)
   unfold Sw;rw[ag,r1];refine⟨_,_,_,rfl,(K.trans (cD.up C)).trans F,aK gq,?_⟩
   have hf:(λm=>if m=n then R n else if m∈(N.take i).map (·.1)then R m else aN E m)=λm=>if m∈(N.take (i+1)).map (·.1)then R m else aN E m:=by
    funext m
    rw[YM,hp]
    by_cases a0:m=n
    .subst a0;simp
    .simp[a0]
   rw[hf]at R5;exact R5
  .rintro ρ b ⟨I,J,u,rfl,K,g,U⟩
   rw[Yj,YQ]at U
   have hf:aW (nms E) (λn=>if n∈N.map (·.1)then R n else aN E n)=aW (nms E) R:=by
    unfold aW
    simp_all
   rw[hf]at U;exact⟨I,J,u,b,rfl,K,g,U⟩
 refine bj r3 λI J u b r3 C p0=>xa p0 λg3 R3=>?_
 have b0:=C.get _ _ X (by simp;exact N' lh)
 have l3:=C.len
 have H3:bN P b h E L:=by
  have:=((s.keep O).keep V);refine aY this λe' l' c0 d0 q1 q2 q3 q4 q5=>?_
  rw[X]at q1;simp at q1;obtain⟨rfl,rfl⟩:=q1;have nl:∀j∈[q],∀ds,w[j]?≠some (.lst ds):=λj hj ds=>by rw[W'.mp hj,g2];simp
  have le:=h2.lt;have ll:=h4.lt;exact⟨e,l,c0,d0,b0,q2.keep C (by simp;exact N' (U' le (M' hq))),q3.bV C nl,q4.keep C (by simp;exact N' (U' ll (M' hq))),q5.bV C nl⟩
 have Q:∀r,y2 [.ref h,.ref q] b=r->bw 5 2 (FI H y2) [.ref h,.ref t] M=fE (sq _ ak):=λr hr=>by
  rw[bh (by rfl),e0]
  unfold FI;rw[ag,cf,m1,cy,ay,ag,bg,j0,cy,ay]
  show fE (ao _ _ [oR h,oR t,oR q,none,none] w)=_
  rw[ag,r3,ay,ag,cf,xS H3 rfl (by decide) (p:=[.ref q]) (η:=b) rfl,hr]
 have kk:∀{B:aG}{fp:List Nat},af fp b B->(∀x∈fp,x=h\/x=q)->∀S,(h∈fp->h∈S)->af S M B:=λF hf S hh=>⟨by have:=F.len;exact YN (U' (Yw Y (rP g3)) this),λk c hk hn=>F.get k c (C.get k c (V.get k c (O.get k c hk (by simp)) (by simp)) (by have:=bf hk;simp;exact N' (U' this Y))) (λz=>by
  rcases hf k z with rfl|rfl
  .exact hn (hh z)
  .have:=bf hk;exact Yr _ (U' this Y))⟩
 obtain⟨B,hc⟩:=hS b h q e l u (aW (nms E) R) P b0 (.inl g3) R3 G (λj hj=>hP j (YN (U' (Yw Y (rP g3)) hj)))
 have f0:q≠h:=Ym lh;refine⟨B,?_⟩;rcases hc with ⟨c,⟨fs,e4⟩,F⟩|⟨c,⟨fs,e4⟩,F⟩|⟨c,e4,H4,F⟩
 .exact .inl ⟨c,⟨fs,by rw[Q _ e4];rfl⟩,kk F (by simp) [] (by simp[Ya f0])⟩
 .exact .inr (.inl ⟨c,⟨fs,by rw[Q _ e4];rfl⟩,kk F (by simp) [] (by simp[Ya f0])⟩)
 .exact .inr (.inr ⟨c,by rw[Q _ e4];rfl,H4,kk F (by simp) [h] (by simp)⟩)
theorem Jz(f:aH Tr a A u)(c:(A.map Jg)[b]?=some l):∃n r j,u[b]?=some (n,r)/\l=.tup [.str n,.ref j]/\a[j]?=some (.lst (r.map .str)):=by
 rw[YH]at c;obtain⟨k,e,rfl⟩:=YE.mp c;obtain⟨⟨n,r⟩,g,h,j,i,_,d⟩:=aJ.get f e;refine⟨n,r,j,g,?_,d⟩;unfold Jg;rw[h,i];rfl
def Qa(a):=
 (ao (aA 1 dg)
 (ao (ed (dS 2) (eh (ae (mN (aX .len) (ae (aa 0) ah)) ah)) (ao (ed (eH [3,4]) (jt (aa 0)) (GQ a)) ak))
 (ao (bY (aa 1))
 ak)))
variable{M:List (List Str)}
def CN(h:∀r∈M,r=[]):=List.eq_nil_iff_forall_not_mem.mpr λr a=>(jC.mp a).2 (h r (jC.mp a).1)
theorem zm:∀m c rs a q k H d e g i,tl rs<m->Rw c k H (ne rs)->c[q]?=some (.lst (a.map .str))->q≠k->q∉H->rs.length<=900->a.length+tl rs<=800 ->
  (∃aw,dA yZ tQ m [χ,d,oR k,oR q,e,g,i] c=.rt .non aw/\af [q] c aw/\∀o,¬ Mg rs o) \/
  ∃o j I l p u aw,dA yZ tQ m [χ,d,oR k,oR q,e,g,i] c=.nx [χ,j,I,oR q,l,p,u] aw/\Mg rs o/\aw[q]?=some (.lst ((a++o).map .str))/\af [q] c aw:=by
 intro m
 induction m with
 |zero=>omega
 |succ m U=>
  intro c rs a q k H d e g i hm R Q J K S F;refine bc (xD (y:=[χ,d,oR k,oR q,e,g,i]) (s:=2) rfl R) λw B x=>?_
  have B:yZ _ c=.ok _ w:=B
  by_cases C:ne rs=[]
  .rw[decide_eq_false (by simpa using C)]at B
   refine .inr ⟨[],d,oR k,e,g,i,w,?_,BN C,by rw[YS];exact x.get _ _ Q (by simp),cD.up x⟩
   simp only[dA,B];rfl
  .rw[decide_eq_true (by simpa using C)]at B
   have step:dA yZ tQ (m+1) [χ,d,oR k,oR q,e,g,i] c=(match tQ [χ,d,oR k,oR q,e,g,i] w with|.nx b aw=>dA yZ tQ m b aw|.ct b aw=>dA yZ tQ m b aw|.bk b aw=>.nx b aw|r=>r):=by
    simp only[dA,B];rfl
   rcases BL (χ:=χ) (o0:=d) (P0:=e) (D2:=g) (E3:=i) (R.keep x) (x.get _ _ Q (by simp)) J K S (B' (ϡ _ _) F) (bS (B' (Zs _ _) F))with ⟨E,z,T,G⟩|⟨n,j,l,p,u,V,L,z,E,T,R2,N,X,Y,G⟩
   .refine .inl ⟨z,?_,cD.up (x.trans G),λo M=>?_⟩
    .rw[step,T]
    .cases M with
     |done h=>exact C (CN h)
     |step _ f _=>rw[E]at f;cases f
   .have Z:=xB (iJ E)
    rcases U z (rs.map (cB n)) (a++[n]) q V L j l p u (by omega) R2 N X Y (by simpa using S) (by simp;omega)with ⟨A,e3,O,N3⟩|⟨o,b1,b2,b4,b5,b6,A,e3,M3,P,O⟩
    .refine .inl ⟨A,?_,((cD.up x).trans G).trans O,λo M=>?_⟩
     .simp_all
     .cases M with
      |done h=>exact C (CN h)
      |step _ f M=>simp_all
    .refine .inr ⟨n::o,b1,b2,b4,b5,b6,A,?_,.step (by
     obtain⟨t,F⟩:=iJ E;exact⟨_,F,by simp⟩) E M3,by rw[P];simp,((cD.up x).trans G).trans O⟩
     simp_all
def Nt(e:a5):=∀c k f b,Rw c k f b->b.length<=900->tl b<=800->∃d a,e [.ref k] c=.ok d a/\af [] c a/\(d=.non/\(∀o,¬ Mg b o)\/∃o q,d=.ref q/\a[q]?=some (.lst (o.map .str))/\Mg b o/\c.length<=q)
theorem JA:Nt (bw 7 1 GH):=by
 intro h k G w R q x;rw[bh (by rfl)]
 have A:a9 7 [D.ref k]=[oR k,none,none,none,none,none,none]:=rfl;rw[A]
 have i:ba (aa 0) [oR k,none,none,none,none,none,none] h=.ok (.seq (.ref k)) h:=by
  exact aM (by rw[az,av R.ce])
 refine a6 (lu (E:=false) (t:=mN (aX .list) (ae (aa 0) ah)) (z8:=[]) i R (bS q) (λj l a K B m c=>by
  obtain⟨b,e,g⟩:=ne_nil (y:=[oR j]) (s:=0) rfl c;refine⟨b,?_,g⟩
  show dr (m2 (aI .NotEq) (aa 0) (mN bt ah) [oR j] a)=_
  rw[e];rfl) (λj l a K B m c=>by
  refine⟨_,a++[.lst _],?_,af.app,aq,K.len⟩;exact bB c)) λd a H C n I=>?_
 rw[Ò]at n;have R2:Rw (a++[.lst _]) _ d _:=⟨aq,n.keep (fp:=[]) af.app (by simp)⟩
 have g:af [] h (a++[Cell.lst (d.map .ref)]):=C.trans af.app;have F:(a++[Cell.lst (d.map .ref)]).length=a.length+1:=by simp
 have J:=n.lt
 have r:aA 2 (bK (mN (aX .list) (ae (aa 0) ah)) false (m2 (aI .NotEq) (aa 0) (mN bt ah)) (ba (aa 0)) 0 []) [oR k,none,none,none,none,none,none] h=.nx [oR k,none,oR a.length,none,none,none,none] (a++[Cell.lst (d.map .ref)]):=by
  simp_all
 generalize a++[Cell.lst _]=b at *;have p:af [] b (b++[Cell.lst []]):=af.app;have u:(aA 3 (mN bt ah)) [oR k,none,oR a.length,none,none,none,none] b=.nx [oR k,none,oR a.length,oR b.length,none,none,none] (b++[Cell.lst []]):=by rfl
 have f:=g.len;rcases zm fuel _ w [] _ _ d none _ none none (by unfold fuel;exact kG x) (R2.keep p) aq (Ym (M' F.symm)) (λz=>by grind) q (by simp_all)with ⟨IT,e4,K4,N4⟩|⟨o,b1,b2,b4,b5,b6,IT,e4,M4,RZ,K4⟩
 .refine⟨.non,IT,?_,af.new (g.trans p) K4 (by simpa using f),.inl ⟨rfl,N4⟩⟩
  unfold GH;rw[ag,r,ay,ag,u,ay,ag];unfold ig;rw[e4];rfl
 .refine⟨_,IT,?_,af.new (g.trans p) K4 (by simpa using f),.inr ⟨o,_,rfl,by simpa using RZ,M4,f⟩⟩
  unfold GH;rw[ag,r,ay,ag,u,ay,ag];unfold ig;rw[e4];rfl
def Ku(E)(a:aG)(n)(d:D):=(eF E n none/\d=.non)\/∃j l,eF E n (some l)/\d=.ref j/\a[j]?=some (.lst (l.map .str))
def t6(E a)(b:List (Key×D))(c:List Str):=aJ (λp n=>p.1=.inr n/\Ku E a n p.2) b c
theorem Ku.keep{aw fp}(h:Ku u a d l)(K:af fp a aw)(g:∀q∈fp,∀i,a[q]?≠some (.lst i)):Ku u aw d l:=h.imp id fun  k =>aF k λj e f b c=>⟨j,e,f,b,K.get _ _ c λz=>g _ z _ c⟩
theorem t6.keep{a aw b E c fp}(h:t6 E a b c)(K:af fp a aw)(d:∀q∈fp,∀e,a[q]?≠some (.lst e)):t6 E aw b c:=aJ.imp (λ_ _ q=>⟨q.1,q.2.keep K d⟩) h
theorem t6.snoc{n d}(h:t6 u a A g)(b:Ku u a n d):t6 u a (A++[(.inr n,d)]) (g++[n]):=aJ.append h (.cons ⟨rfl,b⟩ .nil)
theorem t6.look(h:t6 u a A g):(d∈g->∃b,bz A (.inr d)=some b/\Ku u a d b)/\(d∉g->bz A (.inr d)=none):=by
 induction h with
 |nil=>exact⟨by simp,λ_=>rfl⟩
 |@cons A m c g r t i=>
  obtain⟨k,b⟩:=A;obtain⟨rfl,f⟩:=r
  by_cases e:d=m
  .subst e
   exact⟨λ_=>⟨b,by simp[bz],f⟩,by simp⟩
  .have:bz ((Y9 m,b)::c) (.inr d)=bz c (.inr d):=by simp[bz,Ya e]
   simp_all
theorem t6.has(h:t6 u a A g)(e:d∈g):∃b,eF u d b:=by
 obtain⟨c,_,f⟩:=h.look.1 e;rcases f with ⟨h,_⟩|⟨_,l,h,_⟩<;>exact⟨_,h⟩
theorem t6.wk(Q:Q0 u)(h:t6 u a A g):vz (nms u) a A g:=aJ.imp (λp n  f =>xa f λc b=>⟨c,b.imp (λh=>h.2) fun  f =>aF f λj l h e d=>⟨j,l,e,d,(h.sub Q _ rfl).2,(h.sub Q _ rfl).1⟩⟩) h
variable{T:Str}
theorem Nu(c:d∈nms u)(h:∀x∈aN u d,∃a,eF u x a)(e:T∈aN u d)(f:eF u T none):eF u d none:=by
 obtain⟨a,b⟩:=BR c h;cases a with
 |none=>exact b
 |some l=>
  obtain⟨i,g⟩:=lA.mp (b.xQ _ rfl T e);cases g.uniq f
variable{o0:Option D}{ο:List Str}
theorem Nv(hM:Nt H)(hq:η[s]?=some (.dK A))(hr:η[Θ]?=some (.lst (g.map .str)))(Q:Q0 u)(G:d∈nms u)(w:aN u d=g)(V:t6 u η A ο)(h0:ο.length<=12)(b0:d∉ο)(P:∀x∈g,x∈ο):
  ∃i0 m aw,GQ H [oR b,oR s,χ,oS d,oR Θ,o0] η=.nx [oR b,oR s,χ,oS d,oR Θ,i0] aw/\aw[s]?=some (.dK m)/\t6 u aw m (ο++[d])/\af [s] η aw:=by
 have W:=V.wk Q;have f2:g.length<=5:=w▸Q.short d G;have kl:A.length<=12:=by have:=W.len;exact B' (M' this) h0
 have C:Y9 d∉A.map (·.1):=by
  rw[W.WQ]
  simp_all
 have J:=BC (d:=d) (.inl hq);rw[W.look.2 b0]at J
 have c0:∀(k:aG),k[Θ]?=some (.lst (g.map .str))->ba (aa 4) [oR b,oR s,χ,oS d,oR Θ,o0] k=.ok (.seq (.ref Θ)) k:=λk h=>by
  rw[cA];exact aM (by rw[az,av h])
 refine bc (jB (y:=[oR b,oR s,χ,oS d,oR Θ,o0]) (t:=m2 (aI .In) (aa 0) (aa 1)) (I:=[1]) (p:=λx=>true) hr (c0 η hr) (λx c=>by
  show aI .In (.str x) (.ref s) η=_
  obtain⟨B,F,_⟩:=W.look.1 (P x c);rw[vh (.inl hq),F];rfl) (bS f2)) λq e1 K1=>?_
 have e1:ldC [oR b,oR s,χ,oS d,oR Θ,o0] η=.ok (.bl true) q:=by
  have z:(g.all λ_=>true)=true:=by simp
  rw[z]at e1;unfold ldC;rw[rl]
  show(aI .NotIn (.str d) (.ref s) η).bind _=_
  rw[J,au];exact e1
 have q1:=K1.get _ _ hq (by simp)
 have r1:=K1.get _ _ hr (by simp)
 have p1:=CB (y:=[oR b,oR s,χ,oS d,oR Θ,o0]) (t:=aa 1) (ν:=aa 3) (N5:=aj .non) (d:=d) (a:=q) (η:=q) rfl rfl rfl q1 (bS kl);rw[mO C]at p1;have K2:af [s] q (q.set s (.dK (A++[(.inr d,.non)]))):=af.set (by simp)
 have q2:=aK (e:=.dK (A++[((.inr d:Key),D.non)])) q1;have R:∀j∈[s],∀ds,q[j]?≠some (.lst ds):=λj S ds=>by rw[W'.mp S,q1];simp
 have W2:=(W.keep K1 (by simp)).keep K2 R
 have r2:=K2.get _ _ r1 (λz=>R _ z _ r1)
 have Kq:af [s] η (q.set s (.dK (A++[(.inr d,.non)]))):=(cD.up K1).trans K2;have V2:=(V.keep K1 (by simp)).keep K2 R
 generalize q.set s (.dK (A++[(.inr d,.non)]))=k at *;have j0:=W2.snoc (n:=d) (d:=.non) (.inl rfl)
 have E:∀x∈g,bz (A++[((.inr d:Key),D.non)]) (.inr x)=bz A (.inr x):=λx c=>by
  have l0:x≠d:=λz=>b0 (z▸P x c)
  rw[←mO C,pU,if_neg (λz=>l0 (by cases z;rfl))]
 have rest:∀{f:aG},eF u d none->af [] k f->∃m,f[s]?=some (.dK m)/\t6 u f m (ο++[d])/\af [s] η f:=λ{f} h K=>⟨_,K.get _ _ q2 (by simp),(V2.keep K (by simp)).snoc (.inl ⟨h,rfl⟩),Kq.trans (cD.up K)⟩
 refine bc (jB (y:=[oR b,oR s,χ,oS d,oR Θ,o0]) (t:=m2 (aI .IsNot) (m2 aL (aa 1) (aa 0)) (aj .non)) (I:=[1]) (p:=xP A) r2 (c0 k r2) (λx c=>by
  obtain⟨B,F,hw⟩:=W2.look.1 (P x c);have m0:=ej (d:=x) (.inl q2) ((E x c).trans F)
  show((aL (.ref s) (.str x) k).bind _)=_
  rw[m0,au,gF,au];rcases hw with rfl|⟨j,s0,rfl,_⟩
  .have:xP A x=false:=by unfold xP;rw[F]
   rw[this];simp[eP]
  .have:xP A x=true:=by unfold xP;rw[F]
   rw[this];rfl) (bS f2)) λf e3 N=>?_
 have e3:Sx [oR b,oR s,χ,oS d,oR Θ,o0] k=.ok (.bl (g.all (xP A))) f:=e3
 have start:∀{X:gi},sq (cx (dr (Sx [oR b,oR s,χ,oS d,oR Θ,o0] k)) _) ak=X->GQ H [oR b,oR s,χ,oS d,oR Θ,o0] η=sq X ak:=λ{X} h=>by
  unfold GQ;rw[ag,cF,e1,dN,cQ,eA,cy,if_pos rfl,ag,p1,ay,ag,cF,h]
 cases U:g.all (xP A)with
 |false=>
  refine bc (ϣ.mp U) λy hy n0=>?_
  have hN:eF u d none:=by
   refine Nu G (λx c=>V.has (P x (w▸c))) (w▸hy) ?_
   refine bc (V.look.1 (P y hy)) λB F hv=>?_
   rcases hv with ⟨h,_⟩|⟨j,l,_,rfl,_⟩
   .exact h
   .exact absurd (by unfold xP;rw[F]) n0
  obtain⟨m,z⟩:=rest hN N;refine⟨o0,m,f,?_,z⟩;rw[start rfl,e3,U];rfl
 |true=>
  have O:g.all (xP (A++[((.inr d:Key),D.non)]))=true:=by
   rw[YP]at U ⊢;intro x c;have:=U x c;unfold xP at this ⊢;rw[E x c];exact this
  have q3:=N.get _ _ q2 (by simp)
  have r3:=N.get _ _ r2 (by simp)
  have W3:=j0.keep N (by simp)
  have d0:∀x∈g,x∈ο++[d]:=λx c=>Ĕ _ (P x c)
  refine aF (Ju (b:=b) (T:=d) (χ:=χ) (o0:=o0) q3 r3 W3 d0 O f2) λk4 p0 e4 K4 R4=>?_
  have e0:=CF (λx c=>(rJ W3 (d0 x c) (YP.mp O x c)).2.2.1) f2
  have Y:∀x∈g,ox u x=true/\GP f (A++[((.inr d:Key),D.non)]) x=mj u x:=λx c=>by
   refine bc (V.look.1 (P x c)) λB F hv=>?_
   rcases hv with ⟨h,rfl⟩|⟨j,l,h,rfl,S⟩
   .have:=YP.mp U x c
    unfold xP at this;rw[F]at this;cases this
   .refine⟨(jE h).1,?_⟩
    rw[(jE h).2];exact CD ((E x c).trans F) (N.get _ _ (Kq.get _ _ S (λz=>by rw[W'.mp z,hq]at S;cases S)) (by simp))
  rw[Zb λx c=>(Y x c).2]at R4 e0
  have q0:=xR G (λx c=>(Y x (w▸c)).1)
  rw[w]at q0;refine aF (hM p0 k4 _ _ R4 (by simp;exact bS f2) (bS e0)) λd5 i e5 K5 r0=>?_
  have m5:P_ H [oR b,oR s,χ,oS d,oR Θ,o0] f=.ok d5 i:=by
   unfold P_
   simp_all
  have f0:=K4.trans K5;have s5:aA 5 (P_ H) [oR b,oR s,χ,oS d,oR Θ,o0] f=.nx [oR b,oR s,χ,oS d,oR Θ,some d5] i:=by rw[bg,m5];rfl
  rcases r0 with ⟨rfl,t0⟩|⟨o,p,rfl,hp,M,_⟩
  .have hN:eF u d none:=by
    simp_all
   obtain⟨m,z⟩:=rest hN (N.trans f0);refine⟨some .non,m,i,?_,z⟩;rw[start rfl,e3,U]
   show sq (sq (ldI H [oR b,oR s,χ,oS d,oR Θ,o0] f) ak) ak=_
   unfold ldI;rw[ag,s5];rfl
  ·
   have hH:eF u d (some (d::o)):=.go G (L:=mj u) (λx c=>oy (Y x (w▸c)).1) (a:=some o) (by rw[w];exact M)
   have u0:o.length<=12:=by have:=(hH.sub Q _ rfl).2;simp at this;omega
   have e6:(mN bt (ae (aa 3) ah)) [oR b,oR s,χ,oS d,oR Θ,oR p] i=.ok (.ref i.length) (i++[.lst [.str d]]):=by
    rfl
   have K6:af [] i (i++[Cell.lst [.str d]]):=af.app;have g6:(i++[Cell.lst [.str d]])[i.length]?=some (.lst [.str d]):=aq;generalize i++[Cell.lst [.str d]]=r at *;have e7:=gI g6 (K6.get _ _ hp (by simp)) (by simp;omega)
   have K7:af [] r (r++[Cell.lst ([.str d]++o.map .str)]):=af.app;have g7:(r++[Cell.lst ([.str d]++o.map .str)])[r.length]?=some (.lst ((d::o).map .str)):=aq;generalize hz:r.length=z7 at *;generalize r++[Cell.lst ([.str d]++o.map .str)]=Z at *;have a0:=(f0.trans K6).trans K7;have q7:=a0.get _ _ q3 (by simp)
   have p8:=CB (y:=[oR b,oR s,χ,oS d,oR Θ,oR p]) (t:=aa 1) (ν:=aa 3) (N5:=Sz) (d:=d) (by
    have:aa 5 [oR b,oR s,χ,oS d,oR Θ,oR p] r=.ok (.ref p) r:=rfl;unfold Sz;rw[ez,e6,au,this,au,e7]) rfl rfl q7 (by simp;exact bS kl)
   rw[CC C]at p8;have K8:af [s] Z (Z.set s (.dK (A++[(.inr d,.ref z7)]))):=af.set (by simp)
   have g0:∀j∈[s],∀ds,Z[j]?≠some (.lst ds):=λj S ds=>by rw[W'.mp S,q7];simp
   have g8:=K8.get _ _ g7 (λz=>g0 _ z _ g7)
   refine⟨oR p,_,_,?_,aK q7,?_,((Kq.trans (cD.up N)).trans (cD.up a0)).trans K8⟩
   .rw[start rfl,e3,U]
    unfold ldI
    simp_all
   .exact(((V2.keep N (by simp)).keep a0 (by simp)).keep K8 g0).snoc (.inr ⟨z7,d::o,hH,rfl,g8⟩)
structure zo(E:eE)(Ω:aG)(q:Nat)(kv:List (Key×D))(ns:List Str):Prop where
 ce:Ω[q]?=some (.dK kv)
 lv:t6 E Ω kv ns
 nd:ns.Nodup
theorem zo.sub(h:zo u a b A g):∀x∈g,x∈nms u:=λx d=>xe (h.lv.has d) λ_ c=>c.mem
theorem zo.len(h:zo u a b A g)(Q:Q0 u):g.length<=12:=by
 have:=fG h.nd h.sub;have c:(nms u).length=u.length:=by simp[nms]
 have:=Q.few;omega
theorem Nw(G:zo u a s A ο)(k:a[Θ]?=some (.lst (g.map .str)))(n:g.length<=5)(o:d∈ο\/∃x∈g,x∉ο):
  ∃aw,GQ H [oR b,oR s,χ,oS d,oR Θ,o0] a=.nx [oR b,oR s,χ,oS d,oR Θ,o0] aw/\af [] a aw:=by
 have c:=BC (d:=d) (.inl G.ce)
 have l:∀{f:aG},ldC _ a=.ok (.bl false) f->GQ H [oR b,oR s,χ,oS d,oR Θ,o0] a=.nx _ _:=λq=>by
  unfold GQ;rw[ag,cF,q];rfl
 by_cases i:d∈ο
 .obtain⟨e,r,_⟩:=G.lv.look.1 i
  refine⟨a,l ?_,af.refl⟩
  show(aI .NotIn _ _ a).bind _=_
  simp_all
 .rw[G.lv.look.2 i]at c
  obtain⟨x,m,j⟩:=o.resolve_left i
  obtain⟨f,w,z⟩:=jB (y:=[oR b,oR s,χ,oS d,oR Θ,o0]) (t:=m2 (aI .In) (aa 0) (aa 1)) (y1:=ba (aa 4)) (I:=[1]) (p:=λx=>decide (x∈ο)) k (aM (by rw[az,av k])) (λx m=>by
   show aI .In _ _ a=_
   rw[vh (.inl G.ce)]
   by_cases h:x∈ο
   .obtain⟨e,r,_⟩:=G.lv.look.1 h
    simp_all
   .rw[G.lv.look.2 h,decide_eq_false h];rfl) (bS n)
  rw[(ϣ.mpr ⟨x,m,by simp[j]⟩)]at w
  refine⟨_,l ?_,z⟩
  show(aI .NotIn _ _ a).bind _=_
  rwa[c]
variable{D2 P0:Option D}
theorem FJ(hM:Nt H)(Q:Q0 u)(U:bZ a b x6)(hr:aH Tr a x6 u)(G:zo u a s A g)(q:s≠b):
  ∃t w l e c aw,ed (eH [3,4]) (jt (aa 0)) (GQ H) [oR b,oR s,χ,o0,P0,D2] a=.nx [oR b,oR s,χ,t,w,l] aw/\zo u aw s e c/\(∀x∈g,x∈c)/\(∀n∈nms u,(∀x∈aN u n,x∈g)->n∈c)/\aw[b]?=some (.dF x6)/\af [b,s] a aw:=by
 have V:jt (aa 0) [oR b,oR s,χ,o0,P0,D2] a=.ok (.items b) (a.set b (.dF x6)):=GB U;have f1:=tN U;have N:af [b] a (a.set b (.dF x6)):=af.set (by simp)
 have z:∀j∈[b],∀O,a[j]?≠some (.lst O):=λj y O=>by rw[W'.mp y];exact U.nl O
 have r1:=hr.bV N z;have q1:=N.get _ _ G.ce (by simpa using q)
 generalize a.set b (.dF x6)=X at *;have B:=Q.few;have C:=hr.len;rw[cJ,V,cy]
 refine bQ (R:=λr=>∃t w l e c aw,r=.nx [oR b,oR s,χ,t,w,l] aw/\zo u aw s e c/\(∀x∈g,x∈c)/\(∀n∈nms u,(∀x∈aN u n,x∈g)->n∈c)/\aw[b]?=some (.dF x6)/\af [b,s] a aw) (p:=x6.map Jg)
  (λi P f=>∃o0 P0 D2 e c,P=[oR b,oR s,χ,o0,P0,D2]/\zo u f s e c/\(∀x∈g,x∈c)/\(∀n∈(nms u).take i,(∀x∈aN u n,x∈g)->n∈c)/\af [s] X f) ?_ ?_ ?_ fuel 0 _ _ (by rw[Yj];unfold fuel;exact kG (B' (B' (YZ _ _) (M' C.symm)) B)) (Yh _) ⟨o0,P0,D2,A,g,rfl,⟨q1,G.lv.keep N z,G.nd⟩,λ_ h=>h,by simp,af.refl⟩
 .rintro i P f ⟨_,_,_,_,_,_,_,_,_,K⟩
  exact xO (K.get _ _ f1 (by simpa using Ya q))
 .rintro i d P f Y ⟨o0,P0,D2,e,c,rfl,k,S,D,K⟩
  refine cg (Jz (r1.bV K (λj y O=>by rw[W'.mp y,q1];simp)) Y) λn r j hi Z y=>?_;subst Z
  refine⟨[oR b,oR s,χ,oS n,oR j,D2],rfl,?_⟩;have E:=gJ hi;have F:=Yf E;have I:aN u n=r:=vn Q.nd hi;have tk:=take_snoc E
  by_cases T:n∈c\/∃x∈r,x∉c
  .refine bc (Nw (H:=H) (b:=b) (χ:=χ) (o0:=D2) k y (I▸Q.short n F) T) λa0 e4 J=>?_
   rw[e4];refine⟨_,_,_,e,c,rfl,⟨J.get _ _ k.ce (by simp),k.lv.keep J (by simp),k.nd⟩,S,λm L o=>?_,K.trans (J.sub (by simp))⟩
   rw[tk]at L;rcases Yz.mp L with h|h
   .exact D m h o
   .rw[W'.mp h]at o ⊢
    rcases T with h|⟨x,e0,f0⟩
    .exact h
    simp_all
  .have M:n∉c:=λh=>T (.inl h)
   refine dG (Nv hM (b:=b) (χ:=χ) (o0:=D2) k.ce y Q F I k.lv (k.len Q) M (λx o=>Ó λh=>T (.inr ⟨x,o,h⟩))) λl b0 a0 e4 g4 V4 J=>?_
   rw[e4];refine⟨_,_,_,b0,c++[n],rfl,⟨g4,V4,Zt.mpr ⟨k.nd,by simp,λc0 ha d0 hb b=>M (by simp_all)⟩⟩,λx o=>Ĕ _ (S x o),λm L o=>?_,K.trans J⟩
   rw[tk]at L;rcases Yz.mp L with h|h
   .exact Ĕ _ (D m h o)
   .exact Zw _ h
 .rintro P f ⟨o0,P0,D2,e,c,rfl,k,S,D,K⟩
  have hn:(nms u).length=u.length:=by simp[nms]
  rw[Yj,←C,←hn,YQ]at D;exact⟨o0,P0,D2,e,c,f,rfl,k,S,D,K.get _ _ f1 (by simpa using Ya q),(N.sub (by simp)).trans (K.sub (by simp))⟩
def Kv(g:a5):=∀c e d E,bZ c e d->aH Tr c d E->Q0 E ->
 ∃q h f b,g [.ref e] c=.ok (.ref q) b/\zo E b q h f/\(∀n,n∈f↔∃a,eF E n a)/\eW c b/\c.length<=q
theorem JB(hM:Nt H):Kv (bw 6 1 (Qa H)):=by
 intro s e A E he hr Q;rw[bh (by rfl)]
 have e0:a9 6 [D.ref e]=[oR e,none,none,none,none,none]:=rfl;rw[e0];have r1:aA 1 dg [oR e,none,none,none,none,none] s=.nx [oR e,oR s.length,none,none,none,none] _:=rfl;have F:af [] s (s++[Cell.dK []]):=af.app;have T:(s++[Cell.dK []])[s.length]?=some (.dK []):=aq;have le:=he.lt;have t:=he.keep F (by simp)
 have U:=hr.keep F (by simp)
 generalize I:s.length=q at *;generalize s++[Cell.dK []]=l at *;have J:=xu t;rw[←hr.len]at J;have y:=Q.few;have i0:(nms E).length=E.length:=by simp[nms]
 have V:eh (ae (mN (aX .len) (ae (aa 0) ah)) ah) [oR e,oR q,none,none,none,none] l=.ok (.ints 0 E.length) l:=by
  have:(mN (aX .len) (ae (aa 0) ah)) [oR e,oR q,none,none,none,none] l=.ok (.int E.length) l:=J;rw[n7,a8,this,au,br,au,au,rD,if_pos (ft (ZQ _) (FX y)),Ł]
 unfold Qa;rw[ag,r1,ay,ag,cJ,V,cy]
 refine bQ (R:=λr=>∃X C f B,fE (sq r _)=.ok (.ref X) B/\zo E B X C f/\(∀n,n∈f↔∃a,eF E n a)/\eW s B/\q<=X)
  (λi Y b=>∃Z L M N C f,Y=[oR e,oR q,Z,L,M,N]/\af [e,q] l b/\(bZ b e A/\(l[e]?=some (.dF A)->b[e]?=some (.dF A)))/\zo E b q C f/\(i<=f.length\/∀n a,eF E n a->n∈f)) (λ_ _ _ _=>rfl) ?_ ?_ fuel 0 _ _ (by rw[dJ];unfold fuel;exact kG (B' (YZ _ _) y)) (Yh _) ⟨none,none,none,none,[],[],rfl,af.refl,⟨t,id⟩,⟨T,.nil,abH⟩,.inl (Yh _)⟩
 .rintro i d Y b hd ⟨Z,L,M,N,C,f,rfl,K,u,G,hi⟩
  refine⟨[oR e,oR q,some d,L,M,N],rfl,?_⟩;refine xe (FJ hM (χ:=some d) (o0:=L) (P0:=M) (D2:=N) Q u.1 (U.bV K (λj hj ds=>by
  simp only[Yo,Ń,or_false]at hj;rcases hj with rfl|rfl
  .exact t.nl ds
  .rw[T];simp)) G (Ym le)) λj0 a0=>xe a0 λl0 b0=>a_ b0 λm0 n0 c0 p0 e4 G4 hs d0 f4 K4=>?_
  rw[ag,e4];refine⟨_,_,_,_,_,_,rfl,K.trans K4,⟨.inr f4,λ_=>f4⟩,G4,?_⟩
  by_cases p:∀n a,eF E n a->n∈f
  .exact .inr λn a h=>hs n (p n a h)
  .refine .inl ?_
   obtain⟨n,O,f0,g0⟩:∃n∈nms E,n∉f/\∀x∈aN E n,x∈f:=Ó λh0=>p λn a h=>by
    have q0:=λm hm P=>Ó λq=>h0 ⟨m,hm,q,P⟩
    induction h with
    |go O _ _ ih=>simp_all
    |el O _ _ _ ih=>simp_all
   have h1:=hi.resolve_right p;have h2:=fG (xs:=c0) (o:=n::f) (ZL.mpr ⟨f0,G.nd⟩) (λx P=>(Yo.mp P).elim (λz=>z▸d0 n O g0) (hs x))
   simp at h2;exact Yw h1 h2
 .rintro Y b ⟨Z,L,M,N,C,f,rfl,K,u,G,hi⟩
  rw[dJ]at hi;refine⟨q,C,f,b,rfl,G,λn=>⟨λh=>G.lv.has h,λ⟨a,h⟩=>?_⟩,⟨by have:=F.len;have:=K.len;exact YN (U' (Yw (M' I) (rP T)) this),λk c hk=>?_⟩,XZ _⟩
  rotate_left
  .by_cases S:k=e
   .subst S
    have w:=F.get _ _ hk (by simp)
    rcases t with h|h
    .rw[h]at w;cases w
     rcases u.1 with g|g
     .exact .inl g
     .exact .inr ⟨_,rfl,g⟩
    .rw[h]at w;cases w
     exact .inl (u.2 h)
   .exact .inl (K.get k c (F.get k c hk (by simp)) (by have:=bf hk;simp;exact⟨S,N' (U' this (M' I))⟩))
  rcases hi with hi|hi
  .refine Ó λO=>?_
   have:=fG (xs:=nms E) (o:=n::f) (ZL.mpr ⟨O,G.nd⟩) (λx P=>(Yo.mp P).elim (λz=>z▸h.mem) (G.sub x))
   grind
  .exact hi n a h
def FK(a m:Str)(G)(b c d e f:Str):=ao (aA 2 (aj (.str d))) (ao (je (ao (cG (fH a m G (aa 0) (ae (aa 1) ah))) ak) b c (ao (aA 2 (aj (.str e))) ak) (ao (aA 2 (aj (.str f))) ak)) (ao (bY (aa 2)) ak))
variable{X:D'}{c:Cx}{i:Str->b'->Prop}{q:iQ}{u0:L2.St}{ω:SM}
theorem FL(h:Ko c i q u0 [X] ω):Ko c i q u0 [X] (ao ω ak):=λb d g j k=>iO.imp (h _ d g j k) λD n H  l =>xa l λe a=>cE a λm Z S f=>⟨e,m,Z,S,by
 unfold ao ak at f
 grind⟩
variable{A0 B4 C h ψ:b'}{A7 J M0 S5 Z8 n:V'}{B:F'}{C4 Q5:Str}{G:K'}{v:Yc}{x:X_}{ζ:aO}{θ:Str->Option f'}{ς:Yb}
theorem CO(W:aV v x G θ B ζ b)(F:yn G d T X h ς){k Cc m q r w0 w1 w2}(hs:dn [C4,Q5,k] [C4,Q5] (ai X)=true){u}(P:θ Cc=some (.ref C))(cl:oD G C)(M:Meth G C m ψ)(Ft:bJ v x G θ B (jj v x) b ψ u g (gp (cb θ) H))(Q:Binds G u g []){b5 b6 hp hq w y pos p1 p2 p3 p4 p5 p6 q1 q2}(hbd:aT X=[.Assign [.Name k n] (.Constant (.str w0) s J) M0,.Try [.Expr (.Call (.Attribute (.Name C4 S5) m A7) [.Name Q5 Z8] [] b5) b6] [.ExceptHandler (some (.Name q hp)) none [.Assign [.Name k p1] (.Constant (.str w1) Θ p2) p3] w,.ExceptHandler (some (.Name r hq)) none [.Assign [.Name k p4] (.Constant (.str w2) E5 p5) p6] y] [] [] pos,.Return (some (.Name k q1)) q2])(t:(A7.endLine==b5.line)=true)(D:θ q=some (.ref A0))(I:θ r=some (.ref B4))(R:YK G (.ref A0) (.ref A0)=some true)(K:YK G (.ref B4) (.ref A0)=some false)(L:YK G (.ref B4) (.ref B4)=some true)(sh:(ai X).names.lookup C4=some .local)(sn:(ai X).names.lookup Q5=some .local)(i:(ai X).names.lookup k=some .local)(s1:(ai X).names.lookup q=some .globalImplicit)(s2:(ai X).names.lookup r=some .globalImplicit)(S:([C4,Q5,k,q,r].all λz=>!(z==("__debug__"))&&!(z==("__classdict__")))=true):
  bJ v x G θ B eL (b+1) h ς [C4,Q5] (cN (cb θ) (bw 3 2 (FK Cc m H q r w0 w1 w2))):=by
 have O:∀z∈[C4,Q5,k,q,r],(z==("__debug__":Str))=false/\(z==("__classdict__":Str))=false:=λz hz=>by
  have:=YP.mp S z hz;simpa using this
 refine xH (g:=[C4,Q5,k]) (ο:=[C4,Q5]) W F hs λb0 A outer U V E l=>?_
 have Y:[C4,Q5,k].Nodup:=l.qT;rw[hbd];have vr:∀{Z:Cx}{Φ:iQ}{j:Nat}{z:Str}{p:V'},Z.N=[C4,Q5,k]->Z.env.scope=ai X->[C4,Q5,k][j]?=some z->(ai X).names.lookup z=some .local->(z==("__debug__":Str))=false/\(z==("__classdict__":Str))=false->b_ Z (cb θ) Φ (.Name z p) (aa j):=λe1 e2 h1 h2 h3=>mE (by rw[e1];exact h1) (by rw[e2];exact .inl h2) h3.1 h3.2
 have kq:∀{c:Str}{o:b'},θ c=some (.ref o)->∀a,cb θ c a->a=o:=λh1 a f=>by have f:θ _=some (.ref a):=f;rw[h1]at f;cases f;rfl
 refine fD (iD (b:=2) Y rfl (.inl i) (.inr i) rfl (fP qj rfl)) (fD ?_ (fD (mF (vr (j:=2) rfl rfl rfl i (O _ (by simp)))) iC))
 refine Cm rfl rfl s1 D s2 I R K L (kq D) (kq I) (λpl xe c0 E' a0=>?_) (λpl e oe=>?_) (λpl e oe=>?_) (O q (by simp)).1 (O r (by simp)).1
 .exact FL (Fu (pZ (kq P) cl M Ft l.room Q a0 (vr (j:=0) rfl rfl rfl sh (O _ (by simp))) (gg (vr (j:=1) rfl rfl rfl sn (O _ (by simp))) iv rfl) rfl rfl (mJ rfl (by simp;rfl) (by simp) t)) rfl)
 .exact fD (iD (b:=2) Y rfl (.inl i) (.inr i) rfl (fP qj rfl)) iC
 .exact fD (iD (b:=2) Y rfl (.inl i) (.inr i) rfl (fP qj rfl)) iC
noncomputable def jF:D->Bool
 |.non=>true
 |_=>false
def GR(x y:D)(c:aG):aE D:=if jF x then (match uW c y with
 |some a=>if a.all (λb=>jF b.2||(dY c b.2).isSome)then .ok (.bl (a.any λb=>jF b.2)) c else .bad
 |none=>.bad)else .bad
theorem xT(h:jF l=true):l=.non:=by cases l<;>first|rfl | (cases h)
variable{B5:List (Key×V)}{e:Hp}{o:b'->Prop}{r:List b'}
theorem JC(S:bO i r o a e)(d:kE (ax r o e) A B5)(h:A.all (λc=>jF c.2||(dY a c.2).isSome)=true):
  (B5.any λc=>Aj c.2)=(A.any λc=>jF c.2)/\∀c∈B5,c.2=.non\/∃b xs,c.2=.ref b/\Rd e b (.lst xs):=by
 induction d with
 |nil=>simp
 |@cons p q A B5 m _ n=>
  rw[ZO,Yv]at h;obtain⟨w,s⟩:=n h.2
  have one:Aj q.2=jF p.2/\(q.2=.non\/∃b xs,q.2=.ref b/\Rd e b (.lst xs)):=by
   have g:=m.2;cases l:jF _ with
   |true=>
    rw[xT l]at g;have z:=by simpa only [ax]using g
    rw[z];exact⟨rfl,.inl rfl⟩
   |false=>
    rw[l]at h;obtain⟨x,j⟩:=aaj.mp h.1;refine aF (bA S g j) λf t z u _=>?_
    rw[z];exact⟨rfl,.inr ⟨f,t,rfl,u⟩⟩
  refine⟨by simp_all,λc k=>?_⟩
  rcases Yo.mp k with rfl|z
  .exact one.2
  .exact s c z
theorem JD:∀x y a d aw,GR x y a=.ok d aw->∃t,d=.bl t:=λx y a d aw h=>by
 unfold GR at h
 grind
noncomputable def wV_x(st:D'):Option {r:x'×x'×V'×V'×x'//∃p q s,st=.If (.Compare r.1 [.In] [.Call (.Attribute r.2.1 "values" r.2.2.1) [] [] r.2.2.2.1] p) [.Return (some r.2.2.2.2) q] [] s}:=match st with
 |.If (.Compare a [.In] [.Call (.Attribute o m b) [] [] c] p) [.Return (some e) q] [] s=>if h:(m==("values":Str))=true then some ⟨(a,o,b,c,e),p,q,s,by rw[eq_of_beq h]⟩else none
 |_=>none
noncomputable def V_(st:D'):=(wV_x st).map (·.1)
variable{A1 Q j:x'}
theorem FN(q:V_ X=some (j,Q,n,J,A1)):∃p d e,X=.If (.Compare j [.In] [.Call (.Attribute Q "values" n) [] [] J] p) [.Return (some A1) d] [] e:=by
 obtain⟨⟨_,k⟩,_,l⟩:=YE.mp q;cases l;exact k
def Nx(T a N st):=
 (V_ st).bind λq=>(cC T 60 a N q.1).bind λb=>(cC T 60 a N q.2.1).bind λc=>(cC T 60 a N q.2.2.2.2).bind λd=>if (q.2.2.1.endLine==q.2.2.2.1.line)&&ey q.2.1 then some (ei (m2 GR b c) (ao (bY d) ak) ak)else none
variable{Z:XY}
theorem FO(G:GoodO c i ζ b Z g)(st f)(h:Nx ζ Z g st=some f):ju c i q st f:=by
 obtain⟨⟨a,o,p1,p2,e⟩,v1,h⟩:=aZ h;obtain⟨ma,B,h⟩:=aZ h;obtain⟨mo,C,h⟩:=aZ h;obtain⟨me,D,h⟩:=aZ h;split at h
 rotate_left
 .cases h
 rename_i k;cases h;simp only[Yv]at k;obtain⟨p,p',p3,rfl⟩:=FN v1;have ok:=λe m j=>dB 60 c Z g e m G j
 exact uZ (iw (λta tb E F=>by
   intro pins s J H Q I h;refine Ϸ (cp (E _ s J H _ I h) λv s1  K =>aF K λx H1 L M l=>cp (DM G.calm (by have:=G.hu;omega) (d_ k.2) k.1 F L M l) λu s2 N=>cp N λf s3 O=>?_) rfl;refine aF O λz P R T n=>bc n λb e U=>?_
   subst e;cases T
   exact ZV ⟨P,R,U⟩) ((ok _ _ B).1 q) ((ok _ _ C).1 q) JD λdx dy x y α t Ω H Q S w V d=>by
     unfold GR at d;split at d
     .rename_i X
      split at d
      .rename_i Y hk
       split at d
       .rename_i hl
        rw[xT X]at w;obtain⟨a,A,rfl,e,r⟩:=nO S V hk;obtain⟨l,q2⟩:=JC S r hl;refine⟨by simpa only [ax]using w,a,_,rfl,e,q2,?_⟩
        rw[l];exact ck.ret S (a7 rfl) d
       .exact d.elim
      .exact d.elim
     .exact d.elim) (fD (mF ((ok _ _ D).1 q)) iC) iC
def SG(a):=
 (ao (aA 1 (mN (aQ a) (ae (aa 0) ah)))
 (ao (ei (m2 (aI .Lt) (mN (aX .len) (ae (aa 1) ah)) (mN (aX .len) (ae (aa 0) ah)))
 (ao (bY (aj (.str "loop"))) ak)
 ak)
 (ao (ei (m2 GR (aj .non) (aa 1))
 (ao (bY (aj (.str "tangled"))) ak)
 ak)
 (ao (bY (aj (.str "none")))
 ak))))
def CP(E)(w:Str):=(Nr E/\w="loop")\/(Kt E/\w="tangled")\/(oz E/\w="none")
def Ny(d:a5):=∀b h t c E L R P,bN P b h E L->FD b t c E R->(nms E).Nodup->(∀n∈nms E,n∉c.map (·.1)->R n=aN E n)->Q0 (aW (nms E) R)->(∀j,b.length<=j->P j) ->
 ∃a w,d [.ref h,.ref t] b=.ok (.str w) a/\CP (aW (nms E) R) w/\((w≠"none"/\af [] b a)\/(w="none"/\bN P a h (aW (nms E) R) (mj (aW (nms E) R))/\af [h] b a))
theorem Nz(j:SF H):Ny (bw 3 2 (FK "House" "turn_all" H "Loop" "Tangled" "none" "loop" "tangled")):=by
 intro b h t k E L R P d T f hR Q l;obtain⟨a,m⟩:=j b h t k E L R P d T f hR Q l;rw[bh (by rfl)]
 have n:a9 3 [D.ref h,.ref t]=[oR h,oR t,none]:=rfl;rw[n];have o:aA 2 (aj (.str "none")) [oR h,oR t,none] b=.nx [oR h,oR t,oS "none"] b:=rfl
 have m1:∀r,H _ b=r->fH "House" "turn_all" H (aa 0) (ae (aa 1) ah) [oR h,oR t,oS "none"] b=r:=λr g=>by
  rw[xS d rfl (by decide) (η:=b) rfl,g]
 have i:∀r,H _ b=r->ao (cG (fH "House" "turn_all" H (aa 0) _)) ak _ b=sq _ ak:=λr g=>by rw[ag,cf,m1 r g]
 unfold FK;rw[ag,o,ay,ag];rcases m with ⟨c,⟨p,e⟩,K⟩|⟨c,⟨p,e⟩,K⟩|⟨c,e,q,K⟩
 .refine⟨a,"loop",?_,.inl ⟨c,rfl⟩,.inl ⟨by decide,K⟩⟩
  have:je (ao (cG (fH "House" "turn_all" H (aa 0) (ae (aa 1) ah))) ak) "Loop" "Tangled" (ao (aA 2 (aj (.str "loop"))) ak) (ao (aA 2 (aj (.str "tangled"))) ak) [oR h,oR t,oS "none"] b=.nx [oR h,oR t,oS "loop"] a:=by
   unfold je;rw[i _ e]
   show(if jD _=some ("Loop":Str)then _ else _)=_
   rw[if_pos iK];rfl
  rw[this,ay];rfl
 .refine⟨a,"tangled",?_,.inr (.inl ⟨c,rfl⟩),.inl ⟨by decide,K⟩⟩
  have:je (ao (cG (fH "House" "turn_all" H (aa 0) (ae (aa 1) ah))) ak) "Loop" "Tangled" (ao (aA 2 (aj (.str "loop"))) ak) (ao (aA 2 (aj (.str "tangled"))) ak) [oR h,oR t,oS "none"] b=.nx [oR h,oR t,oS "tangled"] a:=by
   unfold je;rw[i _ e]
   show(if jD _=some ("Loop":Str)then _ else if jD _=some _ then _ else _)=_
   rw[if_neg (by rw[iK];decide),if_pos iK]
   rfl
  rw[this,ay];rfl
 .refine⟨a,"none",?_,.inr (.inr ⟨c,rfl⟩),.inr ⟨rfl,q,K⟩⟩
  have:je (ao (cG (fH "House" "turn_all" H (aa 0) (ae (aa 1) ah))) ak) "Loop" "Tangled" (ao (aA 2 (aj (.str "loop"))) ak) (ao (aA 2 (aj (.str "tangled"))) ak) [oR h,oR t,oS "none"] b=.nx [oR h,oR t,oS "none"] a:=by
   unfold je;rw[i _ e];rfl
  rw[this,ay];rfl
def Qb(d:a5):=∀c e a E,bZ c e a->aH Tr c a E->Q0 E->∃w b,d [.ref e] c=.ok (.str w) b/\CP E w/\eW c b
theorem NA(c:a[b]?=some (.dK A))(V:t6 u a A g):GR .non (.ref b) a=.ok (.bl (A.any λp=>jF p.2)) a/\((A.any λp=>jF p.2)=true↔∃n∈g,eF u n none):=by
 have f:(A.all λp=>jF p.2||(dY a p.2).isSome)=true/\((A.any λp=>jF p.2)=true↔∃n∈g,eF u n none):=by
  clear c
  induction V with
  |nil=>simp
  |@cons p m A g r t e=>
   obtain⟨k,d⟩:=p;obtain⟨_,i⟩:=r;rcases i with ⟨s,rfl⟩|⟨j,l,o,rfl,q⟩
   .refine⟨by rw[ZO,e.1];rfl,⟨by simp_all,λ_=>rfl⟩⟩
   .refine⟨by rw[ZO,e.1];simp[(av q),jF],?_⟩
    have:(((k,D.ref j)::A).any λp=>jF p.2)=A.any _:=rfl
    rw[this];constructor
    .simp_all
    .rintro⟨n,hn,h⟩
     rcases Yo.mp hn with rfl|hn
     .cases o.uniq h
     grind
 refine⟨?_,f.2⟩;unfold GR;rw[BD (.inl c),if_pos (show jF _=true from rfl)]
 grind
theorem NB(t:Kv H):Qb (bw 2 1 (SG H)):=by
 intro k e u E m o Q;refine aY (t k e _ E m o Q) λq y p c A G f K S=>?_
 rw[bh (by rfl)]
 have B:a9 2 [D.ref e]=[oR e,none]:=rfl;rw[B];have C:aA 1 (mN (aQ H) (ae (aa 0) ah)) [oR e,none] k=.nx [oR e,oR q] c:=by simp[A]
 have r:=xu (K.dct m);rw[←o.len]at r;have F:(nms E).length=E.length:=by simp[nms]
 have I:(m2 (aI .Lt) (mN (aX .len) (ae (aa 1) ah)) (mN (aX .len) (ae (aa 0) ah))) [oR e,oR q] c=.ok (.bl (decide (p.length<E.length))) c:=by
  have J:(mN (aX .len) (ae (aa 1) ah)) [oR e,oR q] _=.ok _ _:=(xu (.inl G.ce));have L:(mN (aX .len) (ae (aa 0) ah)) [oR e,oR q] _=.ok _ _:=r;rw[ez,J,au,L,au,((G.lv.wk Q).len)];simp[eP]
 obtain⟨M,g⟩:=NA G.ce G.lv;unfold SG;rw[ag,C,ay,ag,cF,I]
 by_cases h:p.length<E.length
 .refine⟨_,_,by rw[decide_eq_true h];rfl,.inl ⟨Ó λj=>?_,rfl⟩,K⟩
  have:=λn d=>(f n).mpr (Ó λi=>j ⟨n,d,by simp_all⟩)
  have:=fG Q.nd this
  grind
 .rw[decide_eq_false h]
  have b:=λn d=>(f n).mp (Ó λi=>by
   have:=fG (ZL.mpr ⟨i,G.nd⟩) (λx i=>(Yo.mp i).elim (λz=>z▸d) (G.sub x))
   grind)
  show ∃w N,fE (ao _ _ _ _)=_/\_
  have O:(m2 GR (aj .non) (aa 1)) [oR e,oR q] _=.ok _ _:=M;rw[ag,cF,O];cases P:y.any _ with
  |true=>
   refine bc (g.mp P) λn d s=>?_
   exact⟨_,_,rfl,.inr (.inl ⟨⟨b,n,s.mem,s⟩,rfl⟩),K⟩
  |false=>
   refine⟨_,_,rfl,.inr (.inr ⟨λn d=>?_,rfl⟩),K⟩
   obtain⟨a,R⟩:=b n d;cases a with
   |none=>grind
   |some l=>rwa[(jE R).2]
def Qc(F:List D->Out Rs):=
 (ao (aA 2 (mN (dj F) (ae (aa 1) (ae (aj (.int 0)) (ae (m2 (bu .Add) (mN (aX .len) (ae (aa 0) ah)) (aj (.int 1))) ah)))))
 (ao (aA 3 (tV 0 2))
 (ao (ei (m2 (aI .Eq) (mN (dj F) (ae (aa 1) (ae (aj (.int 1)) (ae (aj (.int 2)) ah)))) (aj (.int 1)))
 (ao (cG (dv jr eT (aa 3) ah))
 ak)
 ak)
 (ao (bY (aa 3))
 ak))))
abbrev rF:=(ao (bY (aj (.bl false))) ak)
def haL(a b):=(AY (m2 (aI .NotEq) (bq "House" "line" a (aa 0) (ae (aa 3) ah)) (m2 aL (aa 2) (aa 3))) (m2 (aI .NotEq) (bq "House" "elders_of" b (aa 0) (ae (aa 3) ah)) (m2 aL (aa 1) (aa 3))))
def Qd(a b c):=
 (ao (ei (m2 (aI .NotEq) (bq "House" "kinds" a (aa 0) ah) (mN (aX .list) (ae (aa 1) ah))) rF ak)
 (ao (ed (dS 3) (ba (aa 1)) (ao (ei (haL b c) rF ak) ak))
 (ao (bY (aj (.bl true)))
 ak)))
def oA(a q)(xs:List Str)(L:Str->List Str):=∃b,bZ a q b/\∀n∈xs,∃j,bz b (.inr n)=oR j/\a[j]?=some (.lst ((L n).map .str))
theorem oA.kpf(h:oA a b g ε)(K:eW a η):oA η b g ε:=bc (h) λi d e=>⟨i,K.dct d,λn k=>bc (e n k) λj c f=>⟨j,c,K.lst f⟩⟩
theorem CQ(c:bZ a b A)(d:aH d0 a A (aW g ε)):oA a b g ε:=⟨_,c,λn e=>by
 refine bx (d.at (by rwa[aU])) λj h _ f=>?_
 rw[eO e]at f
 simp_all⟩
theorem xU(G:zo u a b A g)(e:∀n,n∈g↔∃c,eF u n c)(f:oz u):oA a b (nms u) (mj u):=⟨A,.inl G.ce,λn h=>by
 obtain⟨d,o,i⟩:=G.lv.look.1 ((e n).mpr ⟨_,f n h⟩);rcases i with ⟨k,_⟩|⟨j,l,m,rfl,p⟩
 .cases (f n h).uniq k
 .rw[(jE m).2];simp_all⟩
def NC(e:a5):=∀a h d q b E L P,bN P a h E L->bZ a d b->aH Tr a b E->oA a q (nms E) L->E.length<=1000->∃c,e [.ref h,.ref d,.ref q] a=.ok (.bl true) c/\eW a c
theorem ND(hK:BJ H)(hN:IF y2)(hO:Jt X5):NC (bw 4 3 (Qd H y2 X5)):=by
 intro B h d q t E L P a F G hq hl;rw[bh (by rfl)]
 have e0:a9 4 [D.ref h,.ref d,.ref q]=[oR h,oR d,oR q,none]:=rfl;rw[e0];refine a6 (hK B h _ L P a) λk e e1 g1 U _=>?_
 have m1:bq "House" "kinds" H (aa 0) ah [oR h,oR d,oR q,none] B=.ok (.ref k) e:=by
  rw[dE a rfl (by decide)]
  simp_all
 have l1:=BE (F.keep U (by simp))
 rw[G.keys]at l1;have V:af [] e (e++[Cell.lst ((nms E).map .str)]):=af.app;have c1:=mL (V.get _ _ g1 (by simp)) aq
 have t1:(m2 (aI .NotEq) (bq "House" "kinds" H (aa 0) ah) (mN (aX .list) (ae (aa 1) ah))) [oR h,oR d,oR q,none] B=.ok (.bl false) (e++[Cell.lst ((nms E).map .str)]):=by
  simp_all
 have u:=(U.trans V).kpf;generalize e++[Cell.lst ((nms E).map .str)]=g at *;have o:=u.dct F;have I:ba (aa 1) [oR h,oR d,oR q,none] g=.ok (.keys d) (g.set d (.dF t)):=by rw[cA];exact xv o
 have K3:=FC o;have f3:=tN o;generalize g.set d (.dF t)=J at *;have w:=u.trans K3;unfold Qd;rw[ag,cF,t1]
 show ∃s,fE (ao _ _ [oR h,oR d,oR q,none] g)=_/\_
 rw[ag,cJ,I,cy];refine bQ (R:=λr=>∃s,fE (sq r _)=.ok (.bl true) s/\eW B s) (p:=(nms E).map .str) (λi C b=>∃M,C=[oR h,oR d,oR q,M]/\af [] J b) (by rintro i C b ⟨_,_,K⟩;rw[oi (K.get _ _ f3 (by simp)),G.keys]) ?_ (by rintro C b ⟨a',z,K⟩;rw[z];exact⟨b,rfl,w.trans K.kpf⟩) fuel 0 _ _ (by rw[Yj];simp only[nms,Yj];unfold fuel;exact kG (B' (YZ _ _) hl)) (Yh _) ⟨none,rfl,af.refl⟩
 rintro i x C b hx ⟨a',rfl,K⟩;refine bc (fW hx) λn hn N=>?_;subst N
 have l:=Yf hn;refine⟨[oR h,oR d,oR q,oS n],rfl,?_⟩;have y:=w.trans K.kpf;have X:=y.hs a;refine a6 (hN b h _ L P n X l) λk5 c e5 g5 Y _=>?_
 have m:=y.trans Y.kpf;refine bc (hq.kpf m) λa0 O Q=>?_
 refine bc (Q n l) λj hv hj=>?_
 have m5:bq "House" "line" y2 (aa 0) (ae (aa 3) ah) [oR h,oR d,oR q,oS n] b=.ok (.ref k5) c:=by
  rw[dE X rfl (by decide)]
  simp_all
 have i5:(m2 aL (aa 2) (aa 3)) [oR h,oR d,oR q,oS n] c=.ok (.ref j) c:=ej O hv;have Z:=mL g5 hj;rw[decide_eq_true rfl]at Z;refine a6 (hO c h _ L P n (m.hs a) l) λk6 f e6 g6 K6 _=>?_
 have A:=m.trans K6.kpf
 have m6:bq "House" "elders_of" X5 (aa 0) (ae (aa 3) ah) [oR h,oR d,oR q,oS n] c=.ok (.ref k6) f:=by
  rw[dE (m.hs a) rfl (by decide)]
  simp_all
 refine bx ((A.rows G).at (n:=n) l) λj6 S _ T=>?_
 have i6:(m2 aL (aa 1) (aa 3)) [oR h,oR d,oR q,oS n] f=.ok (.ref j6) f:=ej (A.dct F) S;have c6:=mL g6 T;rw[decide_eq_true rfl]at c6
 have a1:(m2 (aI .NotEq) (bq "House" "line" y2 (aa 0) (ae (aa 3) ah)) (m2 aL (aa 2) (aa 3))) [oR h,oR d,oR q,oS n] b=.ok (.bl false) c:=by
  rw[ez,m5,au,i5,au,Z];rfl
 have a2:(m2 (aI .NotEq) (bq "House" "elders_of" X5 (aa 0) (ae (aa 3) ah)) (m2 aL (aa 1) (aa 3))) [oR h,oR d,oR q,oS n] c=.ok (.bl false) f:=by
  rw[ez,m6,au,i6,au,c6];rfl
 have M:haL y2 X5 [oR h,oR d,oR q,oS n] b=.ok (.bl false) f:=by
  unfold haL;rw[n4,a1,au,cQ,tF,a2]
 rw[ag,cF,M];exact⟨_,rfl,K.trans (Y.trans K6)⟩
def JE:=(mN bt (ae (mN gU (ae (aa 5) (ae (mN (aX .list) (ae (aa 6) ah)) ah))) ah))
def Qe(a b):=(AY (m2 (aI .IsNot) (bq "House" "may_turn" a (aa 4) (ae JE ah)) (aj .non)) (m2 (aI .NotEq) (mN (aQ b) (ae (aa 4) (ae JE ah))) (aa 8)))
def Qf(a b c d e):=
 (ao (aA 7 (mN eS (ae (aa 1) ah)))
 (ao (dh (aa 7) (aa 5) (aa 6))
 (ao (aA 8 (mN (aQ a) (ae (aa 7) ah)))
 (ao (ei (Qe b c) rF ak)
 (ao (ei (m2 (aI .Eq) (aa 8) (aj (.str "none")))
 (ao (aA 1 (aa 7))
 (ao (aA 2 (mN (aQ d) (ae (aa 7) ah)))
 ak))
 ak)
 (ao (ei (kb (mN (aQ e) (ae (aa 4) (ae (aa 1) (ae (aa 2) ah))))) rF ak)
 ak))))))
def Qg(a b c d e f):=
 (ao (aA 4 (bq "House" "copied" a (aa 0) ah))
 (ao (ed (eH [5,6]) (ba (aa 3)) (Qf b c d e f))
 (ao (bY (aj (.bl true)))
 ak)))
structure zv(xs:List Str)(R':Str->List Str)(ts:List (Str×Nat))(t:Nat)(Ω:aG)(d q:Nat)(Wa:List (Key×D))(R L:Str->List Str):Prop where
 dc:bZ Ω d Wa
 rw:aH Tr Ω Wa (aW xs R)
 ln:oA Ω q xs L
 tc:Ω[t]?=some (.lst (ts.map jH))
 tr:∀p∈ts,Ω[p.2]?=some (.lst ((R' p.1).map .str))
theorem eW.new{fp}(d:eW a L6)(b:af fp L6 η)(i:∀q∈fp,a.length<=q):eW a η:=⟨B' d.len b.len,λk c h=>by
 have f:k∉fp:=λz=>by simp_all
 rcases d.get k c h with e|⟨g,rfl,e⟩
 .exact .inl (b.get k c e f)
 .exact .inr ⟨_,rfl,b.get k _ e f⟩⟩
theorem zv.kpf{b aw q d t a xs L R c e}(O:zv xs c e t b d q a R L)(K:eW b aw):zv xs c e t aw d q a R L:=⟨K.dct O.dc,K.rows O.rw,O.ln.kpf K,K.lst O.tc,λp f=>K.lst (O.tr p f)⟩
variable{M5:List (Str×D)}
theorem oA.ko(h:oA a b g ε)(K:af [s] a η)(k:a[s]?=some (.ins d M5)):oA η b g ε:=bc (h) λl e f=>⟨l,e.keep K (by simp;rintro rfl;exact e.ni _ _ k),λn m=>bc (f n m) λj c i=>⟨j,c,K.get _ _ i (by grind)⟩⟩
theorem zv.ko{b aw q d o t a xs L R e f C i}(O:zv xs e f t b d q a R L)(K:af [o] b aw)(g:b[o]?=some (.ins C i)):zv xs e f t aw d q a R L:=
 have c:=λj k l=>by simp_all
 ⟨O.dc.keep K (by simp;rintro rfl;exact O.dc.ni _ _ g),O.rw.bV K c,O.ln.ko K g,K.get _ _ O.tc λz=>c _ z _ O.tc,λp h=>K.get _ _ (O.tr p h) λz=>c _ z _ (O.tr p h)⟩
theorem t7(h:CP u d)(c:CP u T):d=T:=by
 rcases h with ⟨a,rfl⟩|⟨a,rfl⟩|⟨a,rfl⟩<;>rcases c with ⟨b,rfl⟩|⟨b,rfl⟩|⟨b,rfl⟩<;>first|rfl|exact absurd a b.nl|exact absurd b a.nl|exact absurd a b.nt|exact absurd b a.nt
theorem CS(h:CP u "none"):oz u:=by
 rcases h with ⟨_,z⟩|⟨_,z⟩|⟨h,_⟩
 .exact absurd z (by decide)
 .exact absurd z (by decide)
 .exact h
theorem GU(i:y[5]?=some (oS d))(j:y[6]?=some (oR b))(c:a[b]?=some (.lst (g.map .str))):JE y a=.ok (.ref (a.length+1)) (a++[.lst (g.map .str)]++[.lst [jH (d,a.length)]]):=by
 have k:=bB c;have e:∀a,aa 5 y a=.ok (.str d) a:=λa=>by simp_all
 have l:∀a,aa 6 y a=.ok (.ref b) a:=λa=>by simp_all
 have f:(mN (aX .list) (ae (aa 6) ah)) y a=.ok (.ref a.length) (a++[.lst (g.map .str)]):=by
  simp_all
 have h:(mN gU (ae (aa 5) (ae (mN (aX .list) (ae (aa 6) ah)) ah))) y a=.ok (.tup [.str d,.ref a.length]) (a++[.lst (g.map .str)]):=by
  rw[eV,a8,e,au,a8,f,au,br,au,au,au,kx,if_pos (aP (by simp))]
 unfold JE;rw[eV,a8,h,au,br,au,au,gH,if_pos (aP (by simp))]
 simp[jH]
theorem JF(b:d∈nms u)(c:(ε d).Nodup)(e:(ε d).length<=5)(f:∀x∈ε d,x∈nms u):FD (a++[.lst ((ε d).map .str)]++[.lst [jH (d,a.length)]]) (a.length+1) [(d,a.length)] u ε where
 ce:=by
  simp
 nd:=by simp
 len:=by simp
 row:=λp g=>by
  simp_all
theorem JG(hR:Q0 (aW ο ε))(i:d∈ο)(j:g.Nodup)(k:g.length<=5)(l:∀x∈g,x∈ο):Q0 (aW ο λm=>if m=d then g else ε m):=by
 have f:∀m∈ο,aN (aW ο λm=>if m=d then g else ε m) m=if m=d then g else ε m:=λm a=>eO a
 have b:∀m∈ο,aN _ m=ε m:=λm a=>eO a
 have h:∀m∈ο,(if m=d then g else ε m).Nodup/\(if m=d then g else ε m).length<=5/\∀x∈(if m=d then g else ε m),x∈ο:=λm a=>by
  by_cases e:m=d
  .simp_all
  .rw[if_neg e,←b m a]
   exact⟨hR.Kn m (by rwa[aU]),hR.short m (by rwa[aU]),λx c=>by have:=hR.el m (by rwa[aU]) x c;rwa[aU]at this⟩
 exact⟨by rw[aU];have:=hR.nd;rwa[aU]at this,λm a x c=>by rw[aU]at a ⊢;grind,λm a=>by rw[aU]at a;simp_all,λm a=>by rw[aU]at a;simp_all,by have:=hR.few;simpa[aW]using this⟩
variable{E9:a5}{W6:List (Str×Nat)}{x9:Nat}
theorem JH{f R o}(h0:Qb H)(i0:zk y2)(j0:Ny X5)(l0:Kv Y7)(m0:NC E9)(G:bN Tr a E5 (aW g R) ε)(O:zv g o W6 x9 a Θ b A R ε)(Q:Q0 (aW g R))(S:(d,f)∈W6)(hn:d∈g)(h1:(o d).Nodup)(h2:(o d).length<=5)(h3:∀x∈o d,x∈g):
  ∃d' q' mf R1 L1 N P aw,Qf H y2 X5 Y7 E9 [oR s,oR Θ,oR b,oR x9,oR E5,oS d,oR f,χ,o0] a=.nx [oR s,oR d',oR q',oR x9,oR E5,oS d,oR f,N,P] aw/\bN Tr aw E5 (aW g R1) L1/\zv g o W6 x9 aw d' q' mf R1 L1/\Q0 (aW g R1)/\∀h,eW h a->h.length<=E5->eW h aw:=by
 have n0:g.Nodup:=by have:=Q.nd;rwa[aU]at this
 have U:g.length<=12:=by have:=Q.few;simpa[aW]using this
 have Q2:=JG Q hn h1 h2 h3;have ha:=O.tr _ S
 have r1:aA 7 (mN eS (ae (aa 1) ah)) [oR s,oR Θ,oR b,oR x9,oR E5,oS d,oR f,χ,o0] a=.nx [oR s,oR Θ,oR b,oR x9,oR E5,oS d,oR f,oR a.length,o0] (a++[.dK A]):=by
  rw[bg]
  show cx (eS [.ref Θ] a) _=_
  rw[oh O.dc];rfl
 have K1:af [] a (a++[Cell.dK A]):=af.app;have g1:(a++[Cell.dK A])[a.length]?=some (.dK A):=aq;have p0:A.length<=1000:=by have:=O.rw.len;simp[aW]at this;exact bS (B' (M' this.symm) U)
 have O1:=O.kpf K1.kpf;have H1:=G.keep K1;generalize hz:a.length=z at *;generalize a++[Cell.dK A]=B at *;have r2:=ou (y:=[oR s,oR Θ,oR b,oR x9,oR E5,oS d,oR f,oR z,o0]) (t:=aa 7) (ν:=aa 5) (N5:=aa 6) (s:=f) (d:=d) (a:=B) (η:=B) rfl rfl rfl g1 p0;have R2:=O1.rw.upd (n:=d) (j:=f) (r:=o d) hn trivial (O1.tr _ S);have K2:af [z] B (B.set z (.dK (cX A (.inr d) (.ref f)))):=af.set (by simp)
 have g2:=aK (e:=.dK (cX A (.inr d) (.ref f))) g1;have q0:∀j∈[z],∀V,B[j]?≠some (.lst V):=λj hj V=>by rw[W'.mp hj,g1];simp
 have X:=R2.bV K2 q0;generalize C:(aW g λm=>if m=d then o d else R m)=Y at *
 have Z:nms Y=g:=by rw[←C,aU]
 have F2:∀h,eW h a->eW h (B.set z (.dK (cX A (.inr d) (.ref f)))):=λh J=>(J.trans K1.kpf).new K2 (λb hq=>by rw[W'.mp hq,←hz];exact J.len)
 have a0:=F2 a eW.refl;generalize B.set z (.dK (cX A (.inr d) (.ref f)))=b0 at *;have O2:=O.kpf a0;have H2:=a0.hs G;refine aF (h0 b0 z _ Y (.inl g2) X Q2) λw k e3 hw K3=>?_
 have r3:aA 8 (mN (aQ H) (ae (aa 7) ah)) [oR s,oR Θ,oR b,oR x9,oR E5,oS d,oR f,oR z,o0] b0=.nx [oR s,oR Θ,oR b,oR x9,oR E5,oS d,oR f,oR z,oS w] k:=by
  simp_all
 have O3:=O2.kpf K3;have H3:=K3.hs H2;have t3:=GU (y:=[oR s,oR Θ,oR b,oR x9,oR E5,oS d,oR f,oR z,oS w]) (d:=d) (b:=f) rfl rfl (O3.tr _ S);have E:nms (aW g R)=g:=aU
 have mk:∀a:aG,FD (a++[.lst ((o d).map .str)]++[.lst [jH (d,a.length)]]) (a.length+1) [(d,a.length)] (aW g R) (λm=>if m=d then o d else R m):=λa=>by
  have:=JF (a:=a) (d:=d) (ε:=λm=>if m=d then o d else R m) (u:=aW g R) (by rw[E];exact hn) (by simpa using h1) (by simpa using h2) (by rw[E];simpa using h3)
  simpa using this
 have K4:af [] k (k++[.lst ((o d).map .str)]++[.lst [jH (d,k.length)]]):=af.app.trans af.app;refine bc (i0 _ E5 _ _ _ ε _ Tr (H3.keep K4) (mk k)) λl e5 K5=>?_
 have m5:bq "House" "may_turn" y2 (aa 4) (ae JE ah) [oR s,oR Θ,oR b,oR x9,oR E5,oS d,oR f,oR z,oS w] k=.ok .non l:=by
  rw[dE H3 rfl (by decide),a8,t3,au,br,au,au]
  simp_all
 have I:=K4.trans K5;have O5:=O3.kpf I.kpf;have H5:=H3.keep I;have t5:=GU (y:=[oR s,oR Θ,oR b,oR x9,oR E5,oS d,oR f,oR z,oS w]) (d:=d) (b:=f) rfl rfl (O5.tr _ S);have K6:af [] l (l++[.lst ((o d).map .str)]++[.lst [jH (d,l.length)]]):=af.app.trans af.app;have T6:=mk l;have O6:=O5.kpf K6.kpf;have H6:=H5.keep K6;generalize u0:l++[.lst ((o d).map .str)]++[.lst [jH (d,l.length)]]=K at *
 refine aF (j0 K E5 _ _ _ ε _ Tr H6 T6 (by rw[E];exact n0) (λm hm L=>by
  rw[E]at hm;simp at L
  show(if m=d then o d else R m)=_
  rw[if_neg L,eO hm]) (by rw[E,C];exact Q2) (λ_ _=>trivial)) λi F e7 c0 d0=>?_
 rw[E,C]at c0 d0;obtain rfl:=t7 c0 hw
 have a1:(m2 (aI .IsNot) (bq "House" "may_turn" y2 (aa 4) (ae JE ah)) (aj .non)) [oR s,oR Θ,oR b,oR x9,oR E5,oS d,oR f,oR z,oS F] k=.ok (.bl false) l:=by
  rw[ez,m5,au,gF,au];rfl
 have a2:(m2 (aI .NotEq) (mN (aQ X5) (ae (aa 4) (ae JE ah))) (aa 8)) [oR s,oR Θ,oR b,oR x9,oR E5,oS d,oR f,oR z,oS F] l=.ok (.bl false) i:=by
  simp_all
 have r4:ei (Qe y2 X5) rF ak [oR s,oR Θ,oR b,oR x9,oR E5,oS d,oR f,oR z,oS F] k=.nx [oR s,oR Θ,oR b,oR x9,oR E5,oS d,oR f,oR z,oS F] i:=by
  have:Qe y2 X5 [oR s,oR Θ,oR b,oR x9,oR E5,oS d,oR f,oR z,oS F] k=.ok (.bl false) i:=by
   unfold Qe;rw[n4,a1,au,cQ,tF,a2]
  rw[cF,this];rfl
 have F6:∀h,eW h a->eW h K:=λh J=>((F2 h J).trans K3).trans (I.trans K6).kpf
 have e0:∀{d' q':Nat}{mf:List (Key×D)}{R1 L1:Str->List Str}{q:aG},bN Tr q E5 (aW g R1) L1->zv g o W6 x9 q d' q' mf R1 L1->Q0 (aW g R1)->(∀h,eW h a->h.length<=E5->eW h q) ->
   ei (m2 (aI .Eq) (aa 8) (aj (.str "none"))) (ao (aA 1 (aa 7)) (ao (aA 2 (mN (aQ Y7) (ae (aa 7) ah))) ak)) ak [oR s,oR Θ,oR b,oR x9,oR E5,oS d,oR f,oR z,oS F] i=.nx [oR s,oR d',oR q',oR x9,oR E5,oS d,oR f,oR z,oS F] q ->
   ∃d' q' mf R1 L1 N P aw,Qf H y2 X5 Y7 E9 [oR s,oR Θ,oR b,oR x9,oR E5,oS d,oR f,χ,o0] a=.nx [oR s,oR d',oR q',oR x9,oR E5,oS d,oR f,N,P] aw/\bN Tr aw E5 (aW g R1) L1/\zv g o W6 x9 aw d' q' mf R1 L1/\Q0 (aW g R1)/\∀h,eW h a->h.length<=E5->eW h aw:=by
  intro d' q' mf R1 L1 q H8 O8 Q8 F8 r5;refine bc (m0 q E5 d' q' mf _ L1 Tr H8 O8.dc O8.rw (by rw[aU];exact O8.ln) (by have:=Q8.few;exact bS this)) λf0 e9 K9=>?_
  refine⟨d',q',mf,R1,L1,oR z,oS F,f0,?_,K9.hs H8,O8.kpf K9,Q8,λh J ho=>(F8 h J ho).trans K9⟩
  have r6:ei (kb (mN (aQ E9) (ae (aa 4) (ae (aa 1) (ae (aa 2) ah))))) rF ak [oR s,oR d',oR q',oR x9,oR E5,oS d,oR f,oR z,oS F] q=.nx [oR s,oR d',oR q',oR x9,oR E5,oS d,oR f,oR z,oS F] f0:=by
   simp_all
  unfold Qf;rw[ag,r1,ay,ag,r2,ay,ag,r3,ay,ag,r4,ay,ag,r5,ay,ag,r6];rfl
 rcases d0 with ⟨L,M⟩|⟨rfl,H7,M⟩
 .refine e0 (M.kpf.hs H6) (O6.kpf M.kpf) Q (λh J _=>(F6 h J).trans M.kpf) ?_
  have:(m2 (aI .Eq) (aa 8) (aj (.str "none"))) [oR s,oR Θ,oR b,oR x9,oR E5,oS d,oR f,oR z,oS F] i=.ok (.bl false) i:=by
   show aI .Eq (.str F) (.str "none") i=_
   simp[L]
  rw[cF,this];rfl
 .have hF:=CS hw
  refine eX H6 λe' l' _ _ g0 _=>?_
  have nz:z≠E5:=λz'=>by
   refine eX H1 λ_ _ _ _ s _=>?_
   rw[←z',g1]at s;cases s
  have g6:bZ K z (cX A (.inr d) (.ref f)):=(K3.trans (I.trans K6).kpf).dct (.inl g2);have R6:=(K3.trans (I.trans K6).kpf).rows X;have r0:∀j∈[E5],∀V,K[j]?≠some (.lst V):=λj hj V=>by rw[W'.mp hj,g0];simp
  have g7:=g6.keep M (by simpa using nz)
  have R7:=R6.bV M r0;refine aY (l0 i z _ Y g7 R7 Q2) λq' v0 w0 q e8 G8 s0 T _=>?_
  have O7:=O6.ko M g0;have H7:bN Tr i E5 (aW g λm=>if m=d then o d else R m) (mj Y):=by rw[C];exact H7
  refine e0 (d':=z) (q':=q') (mf:=cX A (.inr d) (.ref f)) (R1:=λm=>if m=d then o d else R m) (L1:=mj Y) (T.hs H7) ⟨T.dct g7,by rw[C];exact T.rows R7,by rw[←Z];exact xU G8 s0 hF,T.lst O7.tc,λp S=>T.lst (O7.tr p S)⟩ (by rw[C];exact Q2) (λh J t0=>((F6 h J).new M (λb hq=>by rw[W'.mp hq];exact t0)).trans T) ?_
  have c:(m2 (aI .Eq) (aa 8) (aj (.str "none"))) [oR s,oR Θ,oR b,oR x9,oR E5,oS d,oR f,oR z,oS "none"] i=.ok (.bl true) i:=by
   rfl
  simp_all
def SH(i:a5):=∀c h d q t f a R e L g,bN Tr c h (aW a R) L->zv a e g t c d q f R L->Q0 (aW a R)->g.length<=100->(∀p∈g,p.1∈a/\(e p.1).Nodup/\(e p.1).length<=5/\∀x∈e p.1,x∈a) ->
 ∃b,i [.ref h,.ref d,.ref q,.ref t] c=.ok (.bl true) b/\eW c b
theorem NF{M}(s:IH H)(u:Qb y2)(w:zk X5)(y:Ny Y7)(z:Kv E9)(A:NC M):SH (bw 9 4 (Qg H y2 X5 Y7 E9 M)):=by
 intro g h d q t X B R Y L N b O Q C E;rw[bh (by rfl)]
 have Z:a9 9 [D.ref h,.ref d,.ref q,.ref t]=[oR h,oR d,oR q,oR t,none,none,none,none,none]:=rfl;rw[Z];refine a6 (s g h _ L Tr b) λo f e1 H1 P lo=>?_
 have r1:aA 4 (bq "House" "copied" H (aa 0) ah) [oR h,oR d,oR q,oR t,none,none,none,none,none] g=.nx [oR h,oR d,oR q,oR t,oR o,none,none,none,none] f:=by
  rw[bg,dE b rfl (by decide)]
  simp_all
 have O1:=O.kpf P.kpf
 have F:ba (aa 3) [oR h,oR d,oR q,oR t,oR o,none,none,none,none] f=.ok (.seq (.ref t)) f:=by
  exact aM (by rw[az,av O1.tc])
 unfold Qg;rw[ag,r1,ay,ag,cJ,F];refine bQ (R:=λr=>∃j,fE (sq r _)=.ok _ j/\eW g j) (p:=N.map jH) (λi G c=>∃k l e m L1 S T I J,G=[oR h,oR k,oR l,oR t,oR o,S,T,I,J]/\bN Tr c o (aW B m) L1/\zv B Y N t c k l e m L1/\Q0 (aW B m)/\eW g c) ?_ ?_ ?_ _ 0 _ _ (by rw[Yj];unfold fuel;exact kG (B' (YZ _ _) C)) (Yh _) ⟨d,q,_,R,L,_,_,_,_,rfl,H1,O1,Q,P.kpf⟩
 .rintro i G c ⟨_,_,_,_,_,_,_,_,_,_,_,O3,_⟩
  rw[bC,az,av O3.tc]
 .rintro i x G c hx ⟨k,l,e,m,L1,S,T,I,J,rfl,H3,O3,Q3,K3⟩
  obtain⟨⟨n,a⟩,hp,rfl⟩:=CA hx;have U:=Yf hp;refine oC (E _ U) λc1 c2 K=>xa K λc3 c4=>?_
  refine⟨[oR h,oR k,oR l,oR t,oR o,oS n,oR a,I,J],rfl,?_⟩;obtain⟨d4,q4,V,R4,L4,b7,b8,a0,e4,H4,O4,Q4,F4⟩:=JH u w y z A H3 O3 Q3 U c1 c2 c3 c4;rw[e4];exact⟨d4,q4,_,R4,L4,_,_,_,_,rfl,H4,O4,Q4,F4 g K3 lo⟩
 .simp
noncomputable def lU{a:Type}(t b)(l:List a):=if b=true then (l.drop t++l.take t).reverse else l.drop t++l.take t
variable{E:Bool}
theorem qb{a}{l:List a}:(lU b E l).Perm l:=by
 have h:(l.drop b++l.take b).Perm l:=abK.trans (by simp)
 unfold lU;split
 .exact(List.reverse_perm _).trans h
 .exact h
theorem t_{a c l}{f:a->c}:lU b E (l.map f)=(lU b E l).map f:=by
 unfold lU;split<;>simp[Ď,ń]
theorem FP(h:y[b]?=some (oR Θ))(i:y[s]?=some (oI E5))(g:a[Θ]?=some (.lst p))(q:p.length<=1000):∃k aw,tV b s y a=.ok (.ref k) aw/\aw[k]?=some (.lst (p.drop E5++p.take E5))/\af [] a aw/\a.length<=k:=by
 have j:h_ (.ref Θ) (some (E5)) none a=.ok (.ref a.length) (a++[.lst (p.drop E5)]):=by simp only[h_,av g,gG,qQ]
 have l:(a++[Cell.lst (p.drop E5)])[a.length]?=some _:=aq;have d:af [] a (a++[Cell.lst (p.drop E5)]):=af.app;generalize a++[Cell.lst _]=c at *;have m:h_ (.ref Θ) none (some (E5)) c=.ok (.ref c.length) (c++[.lst (p.take E5)]):=by simp only[h_,av (d.get _ _ g (by simp)),gG,xn]
 have n:(c++[Cell.lst (p.take E5)])[c.length]?=some _:=aq;have e:af [] _ (c++[Cell.lst (p.take E5)]):=af.app;generalize c++[Cell.lst _]=f at *;have o:=gI (e.get _ _ l (by simp)) n (by simp;omega)
 refine⟨_,f++[.lst _],?_,aq,(d.trans e).trans af.app,(d.trans e).len⟩;simp[tV,du,h,i,j,m,-tG,o]
def SI(f:a5):=∀d x c e,d[x]?=some (.lst e)->e.length<=900->∃t b k a,f [.ref x,.int c] d=.ok (.ref k) a/\a[k]?=some (.lst (lU t b e))/\af [] d a
variable{T3:List D->Out Rs}{y6:Int->Int->Int->Int}
theorem JI(d:jW y6 T3):SI (bw 4 2 (Qc T3)):=by
 intro f x c g i m;rw[bh (by rfl)]
 have n:a9 4 [D.ref x,.int c]=[oR x,oI c,none,none]:=rfl;rw[n];refine oC (d c 0 ((g.length)+1) (by decide) (by decide) (by omega)) λz A j=>?_
 refine oC (d c 1 2 (by decide) (by decide) (by decide)) λB v1 o=>?_
 obtain⟨t,p⟩:∃t:Nat,(t)=y6 c 0 ((g.length)+1):=⟨(y6 c 0 ((g.length)+1)).toNat,by omega⟩
 rw[←p]at j;have q:(aA 2 (mN (dj T3) (ae (aa 1) (ae (aj (.int 0)) (ae (m2 (bu .Add) (mN (aX .len) (ae (aa 0) ah)) (aj (.int 1))) ah))))) [oR x,oI c,none,none] f=.nx [oR x,oI c,oI t,none] f:=by simp[(iG i),j]
 refine a6 (FP (y:=[oR x,oI c,oI t,none]) (b:=0) (s:=2) rfl rfl i (bS m)) λk a r e l C=>?_
 have u:aA 3 (tV 0 2) [oR x,oI c,oI t,none] f=.nx [oR x,oI c,oI t,oR k] a:=by rw[bg,r];rfl
 have w:(m2 (aI .Eq) (mN (dj T3) (ae (aa 1) (ae (aj (.int 1)) (ae (aj (.int 2)) ah)))) (aj (.int 1))) [oR x,oI c,oI t,oR k] a=.ok (.bl (y6 c 1 2==1)) a:=by simp[o]
 unfold Qc;rw[ag,q,ay,ag,u,ay,ag,cF,w]
 by_cases h:y6 c 1 2=1
 .refine⟨t,true,k,_,?_,aK e,af.new l (af.set (fp:=[k]) (by simp)) (by simp_all)⟩
  have:(y6 c 1 2==1)=true:=by simp[h]
  rw[this,dN,cQ,eA,cy,ag,cf,eg rfl (di e),br,au,(lR e)];rfl
 .refine⟨t,false,k,_,?_,e,l⟩
  simp_all
variable{D3:Src}{t ν:EM}
theorem FQ{ps:List (D×D)}(I:Nat->List D->aG->Prop)(j:∀i a c,I i a c->eI D3 c=some (ps.map λp=>.tup [p.1,p.2]))(m:∀i p a c,ps[i]?=some p->I i a c->∃b aw,ν ([some p.1,some p.2]++y) c=.ok b aw/\I (i+1) (a++[b]) aw):
  ∀f i a c,I i a c->ps.length - i<f->i<=ps.length->a.length+ps.length<=100000+i->∃e aw,pO true t ν 2 y D3 f i a c=.ok e aw/\I ps.length e aw:=by
 intro f
 induction f with
 |zero=>simp
 |succ f n=>
  intro i a c k o q r;simp only[pO,j i _ c k,YH]
  by_cases g:i<ps.length
  .have l:=YW g
   rw[l]
   show ∃e aw,(if small _=true then (match gh true t ([some ps[i].1,some ps[i].2]++y) c with|.ok true d=>(match ν ([some ps[i].1,some ps[i].2]++y) d with|.ok b h=>pO true t ν 2 y D3 f (i+1) (a++[b]) h|_=>.bad)|.ok _ d=>pO true t ν 2 y D3 f (i+1) a d|_=>.bad)else .bad)=.ok e aw/\_
   have s:gh true t ([some ps[i].1,some ps[i].2]++y) c=.ok _ c:=rfl;rw[if_pos (aP (by omega))]
   grind
  grind
def Qh:=(bK (mN gU (ae (aa 0) (ae (mN (aX .list) (ae (aa 1) ah)) ah))) true (aj .non) (ba (aa 9)) 2 [])
theorem NG(F:y[9]?=some (oR b))(r:a[b]?=some (.lst (W6.map jH)))(u:∀p∈W6,a[p.2]?=some (.lst ((ε p.1).map .str)))(s:W6.length<=100):
  ∃(k:Nat) (c:List (Str×Nat)) (aw:aG),Qh y a=.ok (.ref k) aw/\aw[k]?=some (.lst (c.map jH))/\c.map (·.1)=W6.map (·.1)/\(∀p∈c,aw[p.2]?=some (.lst ((ε p.1).map .str)))/\af [] a aw:=by
 have w:ba (aa 9) y a=.ok (.seq (.ref b)) a:=by
  have v:aa 9 y a=.ok (.ref b) a:=by simp_all
  rw[cA,v];exact aM (by rw[az,av r])
 refine cE (FQ (t:=aj .non) (ν:=mN gU (ae (aa 0) (ae (mN _ _) ah))) (ps:=W6.map λp=>(D.str p.1,D.ref p.2))
  (λi f d=>∃c:List _,f=c.map jH/\c.map (·.1)=(W6.take i).map (·.1)/\(∀p∈c,d[p.2]?=some (.lst ((ε p.1).map .str)))/\af [] a d)
  (λi f d  l =>dQ l λ_ _ _ _ K=>by
   rw[bC,az,av (K.get _ _ r (by simp)),Ys]
   rfl)
  (λi p f d m  l =>dQ l λc z j x K=>by
   subst z;rw[YH]at m;obtain⟨⟨n,e⟩,g,rfl⟩:=YE.mp m;have A:af [] d (d++[Cell.lst ((ε n).map .str)]):=af.app;refine⟨jH (n,d.length),_,?_,c++[(n,d.length)],by simp,?_,λp m=>?_,K.trans A⟩
   .have B:(mN (aX .list) (ae (aa 1) ah)) ([some (D.str n),some (.ref e)]++dw [] y) d=.ok _ _:=bB (K.get _ _ (u _ (Yf g)) (by simp))
    have C:aa 0 ([some _,some (.ref e)]++dw [] y) d=.ok (.str n) d:=rfl;rw[eV,a8,C,au,a8,B,au,br,au,au,au,kx];rfl
   .rw[YM,g,YX,YX,j]
    rfl
   grind) fuel 0 [] a ⟨[],rfl,rfl,by simp,af.refl⟩ (by unfold fuel;simp;exact kG s) (Yh _) (by simp;exact bS s)) λG h H o=>dQ o λc q j x K=>?_;subst q
 rw[Yj,YQ]at j;have E:af [] h (h++[Cell.lst (c.map jH)]):=af.app;refine⟨_,c,_,?_,aq,j,by grind,K.trans E⟩
 unfold Qh bK
 simp_all
def Qi(C:List D->Out Rs):=(m2 aL (mN bt (ae (aj (.int 4)) (ae (aj (.int 5)) (ae (aj (.int 6)) (ae (aj (.int 7)) (ae (aj (.int 4)) (ae (aj (.int 5)) (ae (aj (.int 6)) (ae (aj (.int 7)) (ae (aj (.int 1)) (ae (aj (.int 2)) (ae (aj (.int 3)) (ae (aj (.int 7)) ah))))))))))))) (m2 (bu .Mod) (mN (dj C) (ae (aa 0) (ae (aj (.int 0)) ah))) (aj (.int 12))))
variable{L5:List Int}{Q7:List Int->Nat->Int}
theorem JJ(c:jo Q7 T3)(l:y[0]?=some (some (SC L5))):∃(m:Nat) (aw:aG),1<=m/\m<=7/\Qi T3 y a=.ok (.int m) aw:=by
 have o:T3 [SC L5,.int 0]=.ok _:=c L5 0;have g:∀b,(m2 (bu .Mod) (mN (dj T3) (ae (aa 0) (ae (aj (.int 0)) ah))) (aj (.int 12))) y b=.ok (.int (Q7 L5 0%12)) b:=λb=>by simp_all
 obtain⟨s,h⟩:∃s:Nat,Q7 L5 0%12=s:=⟨(Q7 L5 0%12).toNat,by omega⟩
 obtain⟨m,d,e,i⟩:∃m:Nat,1<=m/\m<=7/\([4,5,6,7,4,5,6,7,1,2,3,7])[s]?=some m:=by
  have j:s<([4,5,6,7,4,5,6,7,1,2,3,7]).length:=by simp;omega
  have f:∀m∈([4,5,6,7,4,5,6,7,1,2,3,7]),1<=m/\m<=7:=by decide
  have:=f _ (abz j);exact⟨_,this.1,this.2,by simp⟩
 refine⟨m,a++[.lst (([4,5,6,7,4,5,6,7,1,2,3,7]).map λn:Nat=>.int n)],d,e,?_⟩
 unfold Qi;have k:(mN bt (ae (aj (.int 4)) (ae (aj (.int 5)) (ae (aj (.int 6)) (ae (aj (.int 7)) (ae (aj (.int 4)) (ae (aj (.int 5)) (ae (aj (.int 6)) (ae (aj (.int 7)) (ae (aj (.int 1)) (ae (aj (.int 2)) (ae (aj (.int 3)) (ae (aj (.int 7)) ah))))))))))))) y a=.ok _ (a++[.lst (([4,5,6,7,4,5,6,7,1,2,3,7]).map λn:Nat=>.int n)]):=rfl
 rw[ez,k,au,g,h];exact bP aq (L2.cq (by rw[YH,i];rfl))
theorem aH.SJ(b:aH d0 a A u)(c:d∈nms u):bz A (.inr d)=oR (ly A d)/\a[ly A d]?=some (.lst ((aN u d).map .str)):=by
 refine bx (b.at c) λj e _ f=>?_
 rw[vA e]
 simp_all
def SK:=(bK (mN gU (ae (aa 0) (ae (m2 aL (aa 1) (aa 0)) ah))) true (aj .non) (ba (aa 2)) 0 [7])
theorem NH(q:y[2]?=some (oR s))(e:y[7]?=some (oR b))(c:a[s]?=some (.lst (g.map .str)))(f:bZ a b A)(h:aH Tr a A u)(i:∀n∈g,n∈nms u)(j:g.length<=100):
  SK y a=.ok (.ref a.length) (a++[.lst ((g.map λn=>(n,ly A n)).map jH)]):=by
 have v2:aa 2 y a=.ok (.ref s) a:=by simp_all
 have k:=cz (t:=mN gU (ae (aa 0) (ae (m2 aL (aa 1) (aa 0)) ah))) (ν:=aj .non) (E:=true) (y1:=ba (aa 2)) (f7:=λd=>match d with|.str x=>jH (x,ly _ x)|d=>d) (by
  rw[cA,v2];exact aM (by rw[az,av c])) (by rw[bC,az,av c]) (λd _=>rfl) (λd l _=>by
  obtain⟨x,m,rfl⟩:=YG.mp l;have o:dw [7] y=[oR b]:=by simp[dw,e]
  rw[o]
  show(((aL _ _ a).bind _).bind _).bind _=_
  rw[(ej f (h.SJ (i x m)).1)];rfl) (by simp;exact bS j)
 have p:((g.map D.str).filter λ_=>true).map (λd=>match d with|.str x=>jH (x,ly A x)|d=>d)=(g.map λn=>(n,ly A n)).map jH:=by
  rw[Zk.mpr (λ_ _=>rfl),Ys,Ys]
  rfl
 rwa[p]at k
def SN:=(ao (dh (aa 10) (aa 8) (m2 aL (aa 7) (aa 8))) ak)
variable{E3 P6 W5 n9 o9:Option D}
theorem NI(x:a[s]?=some (.lst (g.map .str)))(I:bZ a b x6)(J:aH Tr a x6 u)(L:∀n∈g,n∈nms u)(hz:a[Θ]?=some (.dK A))(hR:aH Tr a A (aW g ε))(E:g.length<=100)(z:b≠Θ):
  ∃h c aw,ed (dS 8) (ba (aa 2)) SN [χ,o0,oR s,P0,D2,E3,W5,oR b,P6,n9,oR Θ,o9] a=.nx [χ,o0,oR s,P0,D2,E3,W5,oR b,h,n9,oR Θ,o9] aw/\aw[Θ]?=some (.dK c)/\aH Tr aw c (aW g (aN u))/\af [Θ] a aw:=by
 have B:ba (aa 2) [χ,o0,oR s,P0,D2,E3,W5,oR b,P6,n9,oR Θ,o9] a=.ok (.seq (.ref s)) a:=by
  exact aM (by rw[az,av x])
 have l:∀j∈[Θ],∀C,a[j]?≠some (.lst C):=λj D C=>by simp_all
 rw[cJ,B,cy];refine bQ (R:=λr=>∃h c aw,r=.nx [χ,o0,oR s,P0,D2,E3,W5,oR b,h,n9,oR Θ,o9] aw/\aw[Θ]?=some (.dK c)/\aH Tr aw c _/\af [Θ] a aw) (p:=g.map .str) (λi w e=>∃h c,w=[χ,o0,oR s,P0,D2,E3,W5,oR b,h,n9,oR Θ,o9]/\e[Θ]?=some (.dK c)/\aH Tr e c (aW g λn=>if n∈g.take i then aN u n else ε n)/\af [Θ] a e) ?_ ?_ ?_ fuel 0 _ _ (by rw[Yj];unfold fuel;exact kG (B' (YZ _ _) E)) (Yh _) ⟨P6,A,rfl,hz,by simpa using hR,af.refl⟩
 .rintro i w e ⟨_,_,_,_,_,K⟩
  rw[bC,az,av (K.get _ _ x λΘ=>l _ Θ _ x)]
 .rintro i d w e M ⟨h,c,rfl,f,k,K⟩
  obtain⟨n,F,rfl⟩:=fW M;have o:=Yf F;refine⟨[χ,o0,oR s,P0,D2,E3,W5,oR b,oS n,n9,oR Θ,o9],rfl,?_⟩;obtain⟨N,D⟩:=(J.bV K l).SJ (L n o);have O:=ou (y:=[χ,o0,oR s,P0,D2,E3,W5,oR b,oS n,n9,oR Θ,o9]) (t:=aa 10) (ν:=aa 8) (N5:=m2 aL (aa 7) (aa 8)) (d:=n) (ej (I.keep K (by simpa using z)) N) rfl rfl f (by have:=k.len;simp[aW]at this;exact bS (B' (M' this.symm) E))
  have P:=k.upd (n:=n) o trivial D;have G:af [Θ] e (e.set Θ (.dK (cX c (.inr n) (.ref (ly x6 n))))):=af.set (by simp)
  have Q:=P.bV G (λj D C=>by simp_all)
  unfold SN;rw[ag,O];refine⟨_,_,rfl,aK f,?_,K.trans G⟩
  have H:(λm=>if m=n then aN u n else if m∈g.take i then aN u m else ε m)=λm=>if m∈g.take (i+1)then aN u m else ε m:=by
   funext m
   rw[take_snoc F]
   by_cases q:m=n
   .subst q;simp
   .simp[q]
  simp_all
 .rintro w e ⟨h,c,rfl,f,k,K⟩
  rw[Yj,YQ]at k;have H:aW g (λn=>if n∈g then aN u n else ε n)=aW g (aN u):=Zb (by simp_all)
  rw[H]at k;exact⟨h,c,e,rfl,f,k,K⟩
theorem xV(d:a[b]?=some (.lst (W6.map jH)))(e:∀p∈W6,a[p.2]?=some (.lst ((ε p.1).map .str))):gc a 8 (.ref b)=some (.lst ((W6.map (·.1)).map λn=>.tup [.str n,L1 (ε n)])):=by
 have c:∀W6:List _,(∀p∈W6,a[p.2]?=some (.lst ((ε p.1).map .str)))->cu (gc a 7) (W6.map jH)=some ((W6.map (·.1)).map λn=>.tup [.str n,L1 (ε n)]):=by
  intro W6
  induction W6 with
  |nil=>simp
  |cons p W6 f=>
   intro h
   have g:gc a 7 (jH p)=some (.tup [.str p.1,L1 (ε p.1)]):=by
    have:gc a 6 _=some _:=eB (h p (by simp))
    show(cu _ _).map _=_
    simp_all
   simp_all
 exact kj d (c W6 e)
theorem JK{c:List (Str×Nat)}(f:a[b]?=some (.lst (W6.map jH)))(g:∀p∈W6,a[p.2]?=some (.lst ((ε p.1).map .str)))(d:a[s]?=some (.lst (c.map jH)))(e:∀p∈c,a[p.2]?=some (.lst ((ε p.1).map .str)))(h:c.map (·.1)=W6.map (·.1)):aI .NotEq (.ref s) (.ref b) a=.ok (.bl false) a:=by
 rw[wX,kr,xV d e,xV f g,rr,h]
 have ok:aR 8 (.lst ((W6.map (·.1)).map λn=>.tup [.str n,L1 (ε n)]))=true:=by
  simp
 rw[HP,ok,sy 8 _ ok];rfl
theorem vB(G:l_ u ε):Q0 u:=⟨G.nd,λn a=>G.sub a,λn a=>by
  obtain⟨i,b⟩:=G.vo a;exact(G.el i _ b).1,λn a=>by
  obtain⟨i,b⟩:=G.vo a;exact(G.el i _ b).2.1,G.len⟩
theorem FR(G:l_ u ε)(b:∀n,n∈g↔n∈nms u)(i:g.Nodup)(d:g.length<=12):Q0 (aW g (aN u))/\oz (aW g (aN u)):=by
 have Q:=vB G;have a:∀n∈g,aN _ n=aN u n:=λn h=>eO h
 have A:Acy (aW g (aN u)):=by
  have A:=G.gd.toAcy;obtain⟨e,f⟩:=A.rk;refine⟨by rwa[aU],λn h x c=>?_,e,λn h x c=>?_⟩
  .rw[aU]at h ⊢
   rw[a n h]at c;exact(b x).mpr (A.el n ((b n).mp h) x c)
  .rw[aU]at h
   simp_all
 refine⟨⟨A.nd,A.el,λn h=>?_,λn h=>?_,by simpa[aW]using d⟩,(CM A (λn h=>by
  rw[aU]at h;rw[a n h];exact G.VS n ((b n).mp h))).1⟩
 .rw[aU]at h;rw[a n h];exact Q.Kn n ((b n).mp h)
 .rw[aU]at h;rw[a n h];exact Q.short n ((b n).mp h)
def Kw(a b)(st:Nat)(i:Nat):=(mN (aQ a) (ae (aa i) (ae (mN (aQ b) (ae (aa 0) (ae (aj (.int st)) (ae (aa i) (ae (aj (.int 3)) ah))))) ah)))
def Kx(C:List D->Out Rs)(i:Nat):=(mN (dj C) (ae (aa 0) (ae (aj (.int i)) ah)))
def Qj(a):=(mN (aQ a) (ae (aa 5) (ae (aa 3) (ae (aa 4) ah))))
def GG(a b):=(AY (kb (mN (aQ a) (ae (aa 5) (ae (aa 3) (ae (aa 4) (ae (aa 9) ah)))))) (kb (Qj b)))
def Qk(a b):=(AY (m2 (aI .IsNot) (bq "House" "may_turn" a (aa 5) (ae (aa 11) ah)) (aj .non)) (kb (Qj b)))
def Ql(a):=(AY (m2 (aI .NotEq) (mN (aQ a) (ae (aa 5) (ae (aa 11) ah))) (aj (.str "none"))) (m2 (aI .NotEq) (aa 11) (aa 9)))
def JL(C:List D->Out Rs)(e b c f d g a h i j):=
 (ao (aA 1 (Qi C))
 (ao (aA 2 (PX C e))
 (ao (EC [3,4] (Kw c b 2 2))
 (ao (aA 5 (mN (aQ f) (ae (aa 3) ah)))
 (ao (aA 6 (mN (aQ d) (ae (mN (aX .list) (ae (aa 2) ah)) (ae (Kx C 20) ah))))
 (ao (aA 7 (m2 aL (Kw c b 22 6) (aj (.int 0))))
 (ao (aA 9 (mN (aQ d) (ae SK (ae (Kx C 21) ah))))
 (ao (ei (GG g a) rF ak)
 (ao (aA 10 (mN eS (ae (aa 3) ah)))
 (ao (ed (dS 8) (ba (aa 2)) SN)
 (ao (aA 11 Qh)
 (ao (ei (Qk h a) rF ak)
 (ao (ei (Ql i) rF ak)
 (ao (bY (mN (aQ a) (ae (aa 5) (ae (aa 10) (ae (mN (aQ j) (ae (aa 10) ah)) ah)))))
 ak))))))))))))))
theorem GV(u:Fy H)(hR:FA y2)(D:y[0]?=some (some (SC L5)))(F:y[s]?=some (oR Θ))(o:a[Θ]?=some (.lst (g.map .str)))(p:g.Nodup)(q:g.length<=12):
  ∃E L e l d f aw,Kw H y2 b s y a=.ok (.tup [.ref e,.ref l]) aw/\af [] a aw/\nms E=g/\l_ E L/\aw[e]?=some (.dK d)/\aH Tr aw d E/\aw[l]?=some (.dK f)/\aH Tr aw f (aW g L)/\e≠l:=by
 refine aY (hR a L5 b Θ 3 g o p q) λk w x z G R A i t=>?_
 refine xe (u _ Θ k w g x (t.get _ _ o (by simp)) R A p q (λs r h=>⟨(i s r h).1,by have:=(i s r h).2.1;exact bS this,(i s r h).2.2⟩)) λE j=>xe j λL m=>xe m λe n=>bj n λl d f B I C c=>?_
 refine⟨E,L,e,l,_,_,_,?_,t.trans C,c⟩;unfold Kw
 simp_all
theorem GW(c:jo Q7 T3)(d:y[0]?=some (some (SC L5))):Kx T3 b y a=.ok (.int (Q7 L5 b)) a:=by
 simp[Kx,d,(c L5 b)]
theorem CU{OB HA MT TD LD}(l0:jo Q7 T3)(hN:Jp H)(hR:FA y2)(hC:Fy X5)(hB:Ji Y7)(hT:SI E9)(hO:SH OB)(hH:NC HA)(hM:zk MT)(hD:Ny TD)(hL:Kv LD):
  ∃aw,bw 12 1 (JL T3 H y2 X5 Y7 E9 OB HA MT TD LD) [SC L5] []=.ok (.bl true) aw:=by
 rw[bh (by rfl)]
 have e0:a9 12 [SC L5]=[some (SC L5),none,none,none,none,none,none,none,none,none,none,none]:=rfl;rw[e0];refine aF (JJ (a:=[]) (y:=[some (SC L5),none,none,none,none,none,none,none,none,none,none,none]) l0 rfl) λm m0 m1 m7 em=>?_
 have k1:T3 [SC L5,.int 1]=.ok (false,.int (Q7 L5 1)):=l0 L5 1;refine cS (hN m0 (Q7 L5 1) m m1 (bS m7)) λC x w0 x1 x2 x3 x4 x5 K1=>?_
 have s2:PX T3 H [some (SC L5),oI m,none,none,none,none,none,none,none,none,none,none] m0=.ok (.ref x) w0:=by simp[PX,k1,x4]
 obtain⟨E,L,e,l,O,A2,d0,e2,K2,n2,G,c3,c4,c5,c6,B2⟩:=GV (y:=[some (SC L5),oI m,oR x,none,none,none,none,none,none,none,none,none]) (b:=2) (s:=2) hC hR rfl rfl x5 x1 (bS (B' (M' x3) m7));have s3:EC [3,4] (Kw X5 y2 2 2) [some (SC L5),oI m,oR x,none,none,none,none,none,none,none,none,none] w0=.nx [some (SC L5),oI m,oR x,oR e,oR l,none,none,none,none,none,none,none] d0:=by rw[EY,e2];rfl
 refine eK (hB d0 e O E L (.inl c3) c4 G (by rw[n2];exact x2)) λh A e3 H3 K3 f3 lh=>?_
 have F3:eW d0 A:=⟨K3.len,λk c hk=>by
  by_cases L0:k=e
  .subst L0;rw[c3]at hk;cases hk;exact .inr ⟨_,rfl,f3⟩
  .exact .inl (K3.get _ _ hk (by simpa using L0))⟩
 have s4:aA 5 (mN (aQ Y7) (ae (aa 3) ah)) [some (SC L5),oI m,oR x,oR e,oR l,none,none,none,none,none,none,none] d0=.nx [some (SC L5),oI m,oR x,oR e,oR l,oR h,none,none,none,none,none,none] A:=by
  rw[bg]
  show cx (th (Y7 [.ref e] d0)) _=_
  rw[e3];rfl
 have M0:=F3.lst (K2.get _ _ x5 (by simp))
 have l4:=bB M0;have g4:(A++[Cell.lst (C.map .str)])[A.length]?=some (.lst (C.map .str)):=aq;have K4:af [] A (A++[Cell.lst (C.map .str)]):=af.app;refine bj (hT (A++[Cell.lst (C.map .str)]) A.length (Q7 L5 20) _ g4 (by simp;omega)) λt5 b5 o R0 e5 g5 K5=>?_
 rw[t_]at g5;have pm:=qb (b:=t5) (E:=b5) (l:=C);generalize lU t5 b5 C=ys at *
 have s5:aA 6 (mN (aQ E9) (ae (mN (aX .list) (ae (aa 2) ah)) (ae (Kx T3 20) ah))) [some (SC L5),oI m,oR x,oR e,oR l,oR h,none,none,none,none,none,none] A=.nx [some (SC L5),oI m,oR x,oR e,oR l,oR h,oR o,none,none,none,none,none] R0:=by
  have a1:(mN (aX .list) (ae (aa 2) ah)) [some (SC L5),oI m,oR x,oR e,oR l,oR h,none,none,none,none,none,none] A=.ok (.ref A.length) (A++[.lst (C.map .str)]):=l4;rw[bg,eV,a8,a1,au,a8,GW l0 rfl,au,br,au,au,au,km,e5];rfl
 have u1:=K4.trans K5;refine xe (GV (y:=[some (SC L5),oI m,oR x,oR e,oR l,oR h,oR o,none,none,none,none,none]) (b:=22) (s:=6) hC hR rfl rfl g5 (pm.nodup_iff.mpr x1) (by rw[pm.length_eq];exact bS (B' (M' x3) m7))) λE' w1=>xe w1 λL' y1=>xe y1 λr z1=>a_ z1 λl' I t2 P e6 K6 n6 G' S0 A1=>xa A1 λT0 _=>?_
 have s6:aA 7 (m2 aL (Kw X5 y2 22 6) (aj (.int 0))) [some (SC L5),oI m,oR x,oR e,oR l,oR h,oR o,none,none,none,none,none] R0=.nx [some (SC L5),oI m,oR x,oR e,oR l,oR h,oR o,oR r,none,none,none,none] P:=by
  rw[bg,ez,e6,au,gF,au];have:aL (.tup [.ref r,.ref l']) (.int 0) P=.ok (.ref r) P:=by rfl
  rw[this];rfl
 have J:∀n,n∈C↔n∈nms E':=λn=>by rw[n6];exact pm.mem_iff.symm
 have V0:eW A P:=(u1.trans K6).kpf;have W0:=V0.lst M0;have p7:=NH (y:=[some (SC L5),oI m,oR x,oR e,oR l,oR h,oR o,oR r,none,none,none,none]) (s:=x) (b:=r) rfl rfl W0 (.inl S0) T0 (λn hn=>(J n).mp hn) (bS (B' (M' x3) m7))
 have K7:af [] P (P++[Cell.lst ((C.map λn=>(n,ly I n)).map jH)]):=af.app
 refine bj (hT (P++[Cell.lst ((C.map λn=>(n,ly I n)).map jH)]) P.length (Q7 L5 21) _ aq (by simp;omega)) λt8 b8 t u e8 g8 K8=>?_
 rw[t_]at g8;have pt:=qb (b:=t8) (E:=b8) (l:=C.map λn=>(n,ly I n))
 generalize lU t8 b8 (C.map λn=>(n,ly I n))=ts at *
 have s7:aA 9 (mN (aQ E9) (ae SK (ae (Kx T3 21) ah))) [some (SC L5),oI m,oR x,oR e,oR l,oR h,oR o,oR r,none,none,none,none] P=.nx [some (SC L5),oI m,oR x,oR e,oR l,oR h,oR o,oR r,none,oR t,none,none] u:=by
  rw[bg,eV,a8,p7,au,a8,GW l0 rfl,au,br,au,au,au,km,e8];rfl
 have n0:=K7.trans K8;have X0:eW A u:=V0.trans n0.kpf;have p0:=F3.trans X0
 have x0:∀p∈ts,p.1∈C/\p.2=ly I p.1:=λp N=>by
  refine bc (YG.mp (pt.mem_iff.mp N)) λn hn B1=>?_;subst B1
  exact⟨hn,rfl⟩
 have y0:ts.length=C.length:=by rw[pt.length_eq,Yj]
 have z0:(ts.map (·.1)).Perm C:=by
  have:=pt.map (·.1);rw[Ys]at this
  have h2:(C.map ((·.1) ∘ λn=>(n,ly I n)))=C:=by
   have:((·.1) ∘ λn=>(n,ly I n):Str->Str)=id:=rfl
   rw[this,ϟ]
  rwa[h2]at this
 have r8:=T0.keep n0 (by simp)
 have q0:∀p∈ts,u[p.2]?=some (.lst ((aN E' p.1).map .str)):=λp N=>by
  obtain⟨h1,h2⟩:=x0 p N;rw[h2];exact(r8.SJ ((J p.1).mp h1)).2
 have hE:aW C (aN E)=E:=by rw[←n2];exact tZ (by rw[n2];exact x1)
 have Q:=vB G;have Q':=vB G';have M:C.length<=12:=bS (B' (M' x3) m7);have A0:=p0.dct (.inl c3);have C0:aH Tr u O (aW C (aN E)):=by rw[hE];exact p0.rows c4
 have Y0:oA u l C L:=CQ (p0.dct (.inl c5)) (p0.rows c6);have H8:bN Tr u h (aW C (aN E)) L:=by rw[hE];exact X0.hs H3
 have R:∀n∈C,(aN E' n).Nodup/\(aN E' n).length<=5/\∀y∈aN E' n,y∈C:=λn hn=>⟨Q'.Kn n ((J n).mp hn),Q'.short n ((J n).mp hn),λy hy=>(J y).mpr (Q'.el n ((J n).mp hn) y hy)⟩
 refine bc (hO u h e l t O C (aN E) (aN E') L ts H8 ⟨A0,C0,Y0,g8,q0⟩ (by rw[hE];exact Q) (bS (B' (M' y0) M)) (λp N=>⟨(x0 p N).1,R p.1 (x0 p N).1⟩)) λD0 e9 F9=>?_
 have b1:∀{Ω:aG},eW u Ω->∃aw,HA [.ref h,.ref e,.ref l] Ω=.ok (.bl true) aw/\eW Ω aw:=λ{Ω} K=>hH Ω h e l O _ L Tr (K.hs H8) (K.dct A0) (K.rows C0) (by rw[aU];exact Y0.kpf K) (by simp[aW];exact bS M)
 refine bc (b1 F9) λd C1 D1=>?_
 have s8:ei (GG OB HA) rF ak [some (SC L5),oI m,oR x,oR e,oR l,oR h,oR o,oR r,none,oR t,none,none] u=.nx [some (SC L5),oI m,oR x,oR e,oR l,oR h,oR o,oR r,none,oR t,none,none] d:=by
  have a1:(mN (aQ OB) (ae (aa 5) (ae (aa 3) (ae (aa 4) (ae (aa 9) ah))))) [some (SC L5),oI m,oR x,oR e,oR l,oR h,oR o,oR r,none,oR t,none,none] u=.ok (.bl true) D0:=by
   show th (OB [.ref h,.ref e,.ref l,.ref t] u)=_
   rw[e9];rfl
  have a2:Qj HA [some (SC L5),oI m,oR x,oR e,oR l,oR h,oR o,oR r,none,oR t,none,none] D0=.ok (.bl true) d:=by
   show th (HA [.ref h,.ref e,.ref l] D0)=_
   rw[C1];rfl
  have a3:GG OB HA [some (SC L5),oI m,oR x,oR e,oR l,oR h,oR o,oR r,none,oR t,none,none] u=.ok (.bl false) d:=by
   unfold GG;rw[n4,rm,a1,dN,cQ,eA,au,au,cQ,Bool.not_true,tF,rm,a2];rfl
  rw[cF,a3];rfl
 have Z:=F9.trans D1;have c1:=Z.dct A0;have E1:(d++[Cell.dK O])[d.length]?=some (.dK O):=aq;have G1:af [] d (d++[Cell.dK O]):=af.app
 have s9:aA 10 (mN eS (ae (aa 3) ah)) [some (SC L5),oI m,oR x,oR e,oR l,oR h,oR o,oR r,none,oR t,none,none] d=.nx [some (SC L5),oI m,oR x,oR e,oR l,oR h,oR o,oR r,none,oR t,oR d.length,none] (d++[.dK O]):=by
  rw[bg]
  show cx (eS [.ref e] d) _=_
  rw[oh c1];rfl
 have T:=Z.trans G1.kpf;have H1:∀{k:Nat}{kv:List (Key×D)},bZ u k kv->k<d.length:=λh=>(Z.dct h).lt
 have r0:bZ u r I:=.inl (n0.get _ _ S0 (by simp))
 have I1:=H1 r0;have J1:u.length<=d.length:=Z.len;generalize hz:d.length=z at *;generalize d++[Cell.dK O]=u2 at *;refine dG (NI (χ:=some (SC L5)) (o0:=oI m) (P0:=oR e) (D2:=oR l) (E3:=oR h) (W5:=oR o) (P6:=none) (n9:=oR t) (o9:=none) (s:=x) (b:=r) (Θ:=z) (T.lst (n0.get _ _ W0 (by simp))) (T.dct r0) (T.rows r8) (λn hn=>(J n).mp hn) E1 (T.rows C0) (bS M) (N' I1)) λi s0 f0 N1 e1 P1 Q1=>?_
 have g0:eW u f0:=T.new Q1 (λq hq=>by rw[W'.mp hq];exact J1)
 refine dk (NG (y:=[some (SC L5),oI m,oR x,oR e,oR l,oR h,oR o,oR r,i,oR t,oR z,none]) (b:=t) (ε:=aN E') rfl (g0.lst g8) (λp N=>g0.lst (q0 p N)) (bS (B' (M' y0) M))) λk h0 B R1 G0 U i0 f1=>?_
 have j0:=g0.trans f1.kpf;have S:∀p∈h0,p.1∈C:=λp N=>z0.mem_iff.mp (by rw[←U];exact YG.mpr ⟨p,N,rfl⟩)
 have I0:h0.length<=100:=by have:=congrArg ZY U;simp at this;exact bS (B' (B' (M' this) (M' y0)) M)
 have g1:∀{Ω:aG},eW B Ω->FD Ω k h0 (aW C (aN E)) (aN E'):=λ{Ω} K=>⟨K.lst G0,by rw[U];exact z0.nodup_iff.mpr x1,I0,λp N=>⟨K.lst (i0 p N),by rw[aU];exact S p N,(R p.1 (S p N)).1,(R p.1 (S p N)).2.1,by rw[aU];exact(R p.1 (S p N)).2.2⟩⟩
 refine bc (hM B h k h0 _ L _ Tr (j0.hs H8) (g1 eW.refl)) λa0 S1 i1=>?_
 have t0:=j0.trans i1.kpf;refine bc (b1 t0) λf T1 j1=>?_
 have V:=t0.trans j1
 have V1:ei (Qk MT HA) rF ak [some (SC L5),oI m,oR x,oR e,oR l,oR h,oR o,oR r,i,oR t,oR z,oR k] B=.nx [some (SC L5),oI m,oR x,oR e,oR l,oR h,oR o,oR r,i,oR t,oR z,oR k] f:=by
  have a1:bq "House" "may_turn" MT (aa 5) (ae (aa 11) ah) [some (SC L5),oI m,oR x,oR e,oR l,oR h,oR o,oR r,i,oR t,oR z,oR k] B=.ok .non a0:=by
   rw[dE (j0.hs H8) rfl (by decide)]
   show th (MT [.ref h,.ref k] B)=_
   rw[S1];rfl
  have a2:Qj HA [some (SC L5),oI m,oR x,oR e,oR l,oR h,oR o,oR r,i,oR t,oR z,oR k] a0=.ok (.bl true) f:=by
   show th (HA [.ref h,.ref e,.ref l] a0)=_
   rw[T1];rfl
  have a4:(m2 (aI .IsNot) (bq "House" "may_turn" MT (aa 5) (ae (aa 11) ah)) (aj .non)) [some (SC L5),oI m,oR x,oR e,oR l,oR h,oR o,oR r,i,oR t,oR z,oR k] B=.ok (.bl false) a0:=by
   rw[ez,a1,au,gF,au];rfl
  have a3:Qk MT HA [some (SC L5),oI m,oR x,oR e,oR l,oR h,oR o,oR r,i,oR t,oR z,oR k] B=.ok (.bl false) f:=by
   unfold Qk;rw[n4,a4,au,cQ,tF,rm,a2];rfl
  rw[cF,a3];rfl
 obtain⟨Q3,l1⟩:=FR G' J x1 M;have F:eW B f:=i1.kpf.trans j1;have n1:=V.hs H8;refine aF (hD f h k h0 _ L (aN E') Tr n1 (g1 F) (by rw[aU];exact x1) (λn hn W1=>absurd (by rw[U];rw[aU]at hn;exact z0.mem_iff.mpr hn) W1) (by rw[aU];exact Q3) (λ_ _=>trivial)) λg w X1 hw o1=>?_
 rw[aU]at hw o1;obtain rfl:=t7 hw (.inr (.inr ⟨l1,rfl⟩));refine oC (o1.resolve_left λh=>h.1 rfl) λ_ Y1 c0=>?_
 refine eX n1 λ_ _ _ _ b0 _=>?_
 have X:∀j∈[h],∀ds,f[j]?≠some (.lst ds):=λj hj ds=>by rw[W'.mp hj,b0];simp
 have Z1:=JK (ε:=aN E') (c0.get _ _ (V.lst g8) λz=>X _ z _ (V.lst g8)) (λp N=>c0.get _ _ (V.lst (q0 p N)) λz=>X _ z _ (V.lst (q0 p N))) (c0.get _ _ (F.lst G0) λz=>X _ z _ (F.lst G0)) (λp N=>c0.get _ _ (F.lst (i0 p N)) λz=>X _ z _ (F.lst (i0 p N))) U
 have b2:ei (Ql TD) rF ak [some (SC L5),oI m,oR x,oR e,oR l,oR h,oR o,oR r,i,oR t,oR z,oR k] f=.nx [some (SC L5),oI m,oR x,oR e,oR l,oR h,oR o,oR r,i,oR t,oR z,oR k] g:=by
  have a1:(mN (aQ TD) (ae (aa 5) (ae (aa 11) ah))) [some (SC L5),oI m,oR x,oR e,oR l,oR h,oR o,oR r,i,oR t,oR z,oR k] f=.ok (.str "none") g:=by
   show th (TD [.ref h,.ref k] f)=_
   rw[X1];rfl
  have a2:(m2 (aI .NotEq) (mN (aQ TD) (ae (aa 5) (ae (aa 11) ah))) (aj (.str "none"))) [some (SC L5),oI m,oR x,oR e,oR l,oR h,oR o,oR r,i,oR t,oR z,oR k] f=.ok (.bl false) g:=by
   rw[ez,a1,au,gF,au];simp
  have a3:Ql TD [some (SC L5),oI m,oR x,oR e,oR l,oR h,oR o,oR r,i,oR t,oR z,oR k] f=.ok (.bl false) g:=by
   unfold Ql;rw[n4,a2,au,cQ,tF];exact Z1
  rw[cF,a3];rfl
 have Y:eW f0 f:=f1.kpf.trans F;have c2:z≠h:=λzz=>by rw[←zz]at b0;rcases Y.dct (.inl e1)with q|q<;>rw[q]at b0<;>cases b0
 have NJ:=(Y.dct (.inl e1)).keep c0 (by simpa using c2)
 have q1:=(Y.rows P1).bV c0 X;refine aY (hL g z s0 _ NJ q1 Q3) λr1 w2 z2 u0 f2 g2 J0 K0 _=>?_
 have t1:=xU g2 J0 l1;refine bc (hH u0 h z r1 s0 _ _ Tr (K0.hs Y1) (K0.dct NJ) (K0.rows q1) t1 (by simp[aW];exact bS M)) λv0 i2 _=>?_
 refine⟨v0,?_⟩
 have j2:(mN (aQ HA) (ae (aa 5) (ae (aa 10) (ae (mN (aQ LD) (ae (aa 10) ah)) ah)))) [some (SC L5),oI m,oR x,oR e,oR l,oR h,oR o,oR r,i,oR t,oR z,oR k] g=.ok (.bl true) v0:=by
  have a1:(mN (aQ LD) (ae (aa 10) ah)) [some (SC L5),oI m,oR x,oR e,oR l,oR h,oR o,oR r,i,oR t,oR z,oR k] g=.ok (.ref r1) u0:=by
   show th (LD [.ref z] g)=_
   rw[f2];rfl
  have v5:aa 5 [some (SC L5),oI m,oR x,oR e,oR l,oR h,oR o,oR r,i,oR t,oR z,oR k] g=.ok (.ref h) g:=rfl;have l2:aa 10 [some (SC L5),oI m,oR x,oR e,oR l,oR h,oR o,oR r,i,oR t,oR z,oR k] g=.ok (.ref z) g:=rfl;rw[eV,a8,v5,au,a8,l2,au,a8,a1,au,br,au,au,au,au,km,i2];rfl
 have s1:aA 1 (Qi T3) [some (SC L5),none,none,none,none,none,none,none,none,none,none,none] []=.nx [some (SC L5),oI m,none,none,none,none,none,none,none,none,none,none] m0:=by rw[bg,em];rfl
 have q2:aA 2 (PX T3 H) [some (SC L5),oI m,none,none,none,none,none,none,none,none,none,none] m0=.nx [some (SC L5),oI m,oR x,none,none,none,none,none,none,none,none,none] w0:=by rw[bg,s2];rfl
 have r2:aA 11 Qh [some (SC L5),oI m,oR x,oR e,oR l,oR h,oR o,oR r,i,oR t,oR z,none] f0=.nx [some (SC L5),oI m,oR x,oR e,oR l,oR h,oR o,oR r,i,oR t,oR z,oR k] B:=by rw[bg,R1];rfl
 unfold JL;rw[ag,s1,ay,ag,q2,ay,ag,s3,ay,ag,s4,ay,ag,s5,ay,ag,s6,ay,ag,s7,ay,ag,s8,ay,ag,s9,ay,ag,N1,ay,ag,r2,ay,ag,V1,ay,ag,b2,ay,ag,fQ,j2];rfl
def NK(O):=bK (mN (aQ O) (ae (aa 0) (ae (m2 (bu .Add) (aa 1) (aj (.int 1))) ah))) true (aj .non) (ba (aa 0)) 0 [1]
def gs(O):=
 (ao (ei (m2 (aI .Eq) (aa 1) (aj (.int 8)))
 (ao (bY (aa 0))
 ak)
 ak)
 (ao (ei (m1 (gV .list) (aa 0))
 (ao (bY (NK O))
 ak)
 ak)
 (ao (ei (m1 (gV .tuple) (aa 0))
 (ao (bY (mN (aX .tuple) (ae (NK O) ah)))
 ak)
 ak)
 (ao (ei (m1 (gV .dict) (aa 0))
 (ao dz
 ak)
 ak)
 (ao (bY (aa 0))
 ak)))))
noncomputable def isA:D->Bool
 |.str _=>true
 |.int _=>true
 |_=>false
variable{N2:Ty}
theorem xW(h:a[b]?=some (.lst p)):gV N2 (.ref b) a=.ok (.bl (N2==.list)) a:=by
 unfold gV;rw[EO];simp only[Ig,h];rfl
variable{U:Int}
theorem rK(c:(U==8)=false)(b:isA l=true):bw 2 2 (gs H) [l,.int U] a=.ok l a:=by
 show fE (gs H [some l,some _] a)=_
 have d:gV .list l a=.ok (.bl false) a:=by cases l<;>first|rfl|cases b
 have e:gV .tuple l a=.ok (.bl false) a:=by cases l<;>first|rfl|cases b
 have f:gV .dict l a=.ok (.bl false) a:=by cases l<;>first|rfl|cases b
 simp[gs,d,e,f,(by simpa using c)]
theorem JM(h:∀d∈p,isA d=true)(e:p.length<=900):bw 2 2 (gs (bw 2 2 (gs H))) [.tup p,.int 1] a=.ok (.tup p) (a++[.lst p]):=by
 show fE (gs _ [some _,some _] a)=_
 have f:gV .list (.tup p) a=.ok _ a:=rfl;have g:gV .tuple (.tup p) a=.ok _ a:=rfl
 have b:=cz (y:=[some (.tup p),some (.int 1)]) (a:=a) (t:=mN (aQ (bw 2 2 (gs H))) (ae (aa 0) (ae (m2 (bu .Add) (aa 1) (aj (.int 1))) ah))) (E:=true) (ν:=aj .non) (I:=[1]) (f7:=λd=>d) (y1:=ba (aa 0)) rfl rfl (λd c=>rfl) (λd c _=>by
  have:=rK (a:=a) (H:=H) (U:=2) rfl (h d c);simp[dw,this]) (bS e)
 rw[Zk.mpr (by simp)]at b
 have b:NK _ _ a=.ok _ _:=b
 have i:aX .tuple [.ref a.length] (a++[Cell.lst p])=.ok (.tup p) (a++[Cell.lst p]):=by
  show nN [.ref _] _=_
  simp only[nN,az,av aq]
 generalize bw 2 2 _=O1 at *;simp[gs,f,g,b,i]
theorem zp(s:qR):∀d∈[D.str s.1,.str s.2.1,.int s.2.2],isA d=true:=by simp[isA]
theorem GX:vu (bw 2 2 (gs (bw 2 2 (gs (bw 2 2 (gs H)))))):=by
 intro c k j f g
 show ∃q h,fE (gs _ [some _,some _] c)=_/\_
 obtain⟨b,e,K⟩:=Io (y:=[some _,some (.int 0)]) (t:=mN (aQ (bw 2 2 (gs (bw 2 2 (gs H))))) (ae (aa 0) (ae (m2 (bu .Add) (aa 1) (aj (.int 1))) ah))) (I:=[1]) (f7:=λd=>d) (y1:=ba (aa 0)) (λb=>af [] c b) (aM (by rw[az,av f])) af.refl (λb K=>by rw[bC,az,av (K.get _ _ f (by simp))]) (λd i b K=>by
  obtain⟨s,_,rfl⟩:=YG.mp i;have:=JM (a:=b) (H:=H) (zp s) (by simp)
  refine⟨b++[Cell.lst [D.str s.1,.str s.2.1,.int s.2.2]],?_,K.trans af.app⟩;have this:bw 2 2 _ [cP s,.int 1] _=.ok (cP s) _:=this;simp[dw,this]) (by simp;exact bS g)
 have e:NK _ _ c=.ok _ _:=e;refine⟨_,b++[.lst _],?_,aq,K.len,K.trans af.app⟩;generalize bw 2 2 _=O2 at *;simp[gs,(xW f),e]
theorem FT(c:a[b]?=some (.lst (g.map .str)))(f:g.length<=900):bw 2 2 (gs (bw 2 2 (gs H))) [.ref b,.int 0] a=.ok (.ref a.length) (a++[.lst (g.map .str)]):=by
 show fE (gs _ [some _,some _] a)=_
 have e:=cz (y:=[some _,some (.int 0)]) (t:=mN (aQ (bw 2 2 (gs H))) (ae (aa 0) (ae (m2 (bu .Add) (aa 1) (aj (.int 1))) ah))) (E:=true) (ν:=aj .non) (I:=[1]) (f7:=λd=>d) (y1:=ba (aa 0)) (aM (by rw[az,av c])) (by rw[bC,az,av c]) (λd _=>rfl) (λd h _=>by
  obtain⟨x,_,rfl⟩:=YG.mp h;have:=rK (a:=a) (H:=H) (U:=1) (l:=.str x) rfl rfl;simp[dw,this]) (by simp;exact bS f)
 have e:NK _ _ a=.ok _ _:=e;generalize bw 2 2 _=O1 at *;simp[gs,(xW (N2:=.list) c),e]
def Ky(a):=mN (λb c=>aQ a (b++[.int 0]) c) (ae (aa 1) ah)
def Kz(a):=mN (λb c=>aQ a (b++[.int 0]) c) (ae (mN (aX .list) (ae (aa 2) ah)) ah)
theorem JN:V9 [("ring",zh (bw 2 2 (gs (bw 2 2 (gs (bw 2 2 (gs H)))))))]:=by
 intro a q b c d;have f:(a++[Cell.lst (b.map .str)])[a.length]?=some _:=aq;have g:=FT (H:=bw 2 2 (gs H)) f (bS d);generalize bw 2 2 _=h at *
 have e:zh h [none,oR q] a=.ok (.ref (a++[Cell.lst (b.map .str)]).length) (a++[Cell.lst (b.map .str)]++[.lst (b.map .str)]):=by
  unfold zh;simp[(bB c),g]
 exact⟨_,_,by unfold fS;rw[e];rfl,af.app.trans af.app⟩
theorem JO:SD [("name",Ky (bw 2 2 (gs (bw 2 2 (gs (bw 2 2 (gs H))))))),("steps",Kz (bw 2 2 (gs (bw 2 2 (gs (bw 2 2 (gs H)))))))]:=by
 intro a n p c e f;have g:bw 2 2 (gs (bw 2 2 (gs (bw 2 2 (gs H))))) [.str n,.int 0] a=.ok _ a:=rK rfl rfl;have h:vu (bw 2 2 (gs (bw 2 2 (gs (bw 2 2 (gs H)))))):=GX;generalize bw 2 2 _=d at *
 have i:Ky d [none,oS n,oR p] a=.ok (.str n) a:=by
  unfold Ky;simp[g]
 have j:(a++[Cell.lst (c.map cP)])[a.length]?=some _:=aq;refine a6 (h _ _ c j f) λq b k _ _ l=>?_
 have m:Kz d [none,oS n,oR p] a=.ok (.ref q) b:=by
  unfold Kz;simp[(bB e),k]
 exact⟨_,_,by simp only[fS,i,m];rfl,af.app.trans l⟩
theorem oB:∀v c H Q,uh G 2 (gA [0,1]) v c H Q->uh G 2 (gA [0,1]) v c H λb d=>Q b d/\b.length=c.length/\∀j,2<=j->b[j]?=c[j]?:=λv c H Q h=>by
 obtain⟨a,g,rfl,e,f,v1,i,rfl,v2,k,rfl,rfl,q⟩:=h;refine⟨a,_,rfl,e,f,v1,_,rfl,v2,_,rfl,rfl,q,by simp,λj l=>?_⟩
 grind
variable{I:List Nat}{y1:IM}
theorem zr(O:c.calm=true)(y:Be c i q (.Tuple [.Name d n,.Name T J] b M0) j y1)(P:Z.names.lookup d=some .local)(R:Z.names.lookup T=some .local)(s:([d,T]++g).Nodup)(hb:∀r C f l fp,b_ (blk c Z r C ([d,T]++g) f l fp) i kF Q t):
  ∀A U V X E,∃F G L,PI c (.Tuple [.Name d n,.Name T J] b M0) j F/\(∀r C f l fp,PG (blk c Z r C ([d,T]++g) f l fp) (.Tuple [.Name d n,.Name T J] b M0) (uh c.K 2 (gA [0,1]))/\DQ (blk c Z r C ([d,T]++g) f l fp) [] G/\PE (blk c Z r C ([d,T]++g) f l fp) Q L) /\
   ∀M H m,tO i q A U V (bK t true ν y1 2 I) X E M H m->nE F [d,T].length I (uh c.K 2 (gA [0,1])) G L M H m:=by
 have N:(ZP _ c.env).names.lookup d=some _:=ϛ P;have u:(ZP _ c.env).names.lookup T=some _:=ϛ R
 exact pP y (λo Y z α B E H a0 k p S rx hk=>by
   cases o with
   |tup es=>
    simp only[nR]at p;split at p
    .rename_i x
     injection p with p;have e:=(Ϡ (λ_ _ h=>by injection h)).mp p.symm
     subst e;obtain⟨a,vs,rfl,_,h1,D⟩:=fu rx
     match Y,x,D with
     |[d1,d2],_,D=>
      obtain⟨v,w,rfl,q1,q2⟩:=wD D;exact⟨a,_,rfl,vZ (.inl h1),rfl,v,_,rfl,w,_,rfl,rfl,hk [v,w] (by omega)⟩
    .cases p
   |_=>cases p) (λr C f l fp=>⟨zy O (mS (iq s rfl (.inl N) (.inr N)) (mS (iq s rfl (.inl u) (.inr u)) vE)),by simp,by simp_all⟩)
noncomputable def wWbx(st:D'):Option {r:Str×V'×x'×Str×V'×Str×V'×Nat×V'×x'×XY×V'×V'//st=.Assign [.Name r.1 r.2.1] (.ListComp r.2.2.1 [⟨.Tuple [.Name r.2.2.2.1 r.2.2.2.2.1,.Name r.2.2.2.2.2.1 r.2.2.2.2.2.2.1] r.2.2.2.2.2.2.2.1 r.2.2.2.2.2.2.2.2.1,r.2.2.2.2.2.2.2.2.2.1,[],0⟩] r.2.2.2.2.2.2.2.2.2.2.1 r.2.2.2.2.2.2.2.2.2.2.2.1) r.2.2.2.2.2.2.2.2.2.2.2.2}:=match st with
 |.Assign [.Name z a] (.ListComp b [⟨.Tuple [.Name x c,.Name y d] j e,f,[],0⟩] g p) q=>some ⟨(z,a,b,x,c,y,d,j,e,f,g,p,q),rfl⟩
 |_=>none
noncomputable def Wb(st:D'):=(wWbx st).map (·.1)
theorem FU(q:Wb X=some (d,n,j,T,J,C4,M0,b,S5,Q,Z,A7,Z8)):X=.Assign [.Name d n] (.ListComp j [⟨.Tuple [.Name T J,.Name C4 M0] b S5,Q,[],0⟩] Z A7) Z8:=by
 obtain⟨⟨_,k⟩,_,l⟩:=YE.mp q;cases l;exact k
def NM(T a N st):=
 (Wb st).bind λ⟨z,pz,elt,x,px,y,py,j,pt,iter,scope,p,sp⟩=>(uM a N (fc scope)).bind λb=>(gj (cC T 60 a N) a iter).bind λc=>(cC T 60 (DX scope a) (x::y::fc scope) elt).bind λd=>(hG a N z).bind λi=>
  if yB scope a x&&(scope.names.lookup y==some .local)&&decide ((x::y::fc scope).Nodup)&&!isSet iter&&(a.names.lookup z==some .local)&&(!(nF a z pz (.ListComp elt [⟨.Tuple [.Name x px,.Name y py] j pt,iter,[],0⟩] scope p))||sp.line==pz.line)then some (aA i (bK d true (aj .non) c 2 b))else none
theorem FV(G:eJ c i ζ b Z g)(st a)(L:NM ζ Z g st=some a):ju c i q st a:=by
 obtain⟨⟨z,M,O,x,P,y,Q,j,R,iter,scope,p,sp⟩,v1,h⟩:=aZ L;refine bc (aZ h) λs S h=>?_
 refine bc (aZ h) λmi T h=>?_
 refine bc (aZ h) λU V h=>?_
 refine bc (aZ h) λf X h=>?_
 obtain rfl:=FU v1;split at h
 rotate_left
 .cases h
 rename_i D;cases h;simp only[Yv,decide_eq_true_eq,beq_iff_eq,ZH,Ϝ]at D;obtain⟨⟨⟨⟨⟨Y,hy⟩,t⟩,o⟩,hz⟩,u⟩:=D;obtain⟨l,b2,b3⟩:=wK G.toGoodO Y S;have E:lK c _ [x,y] _ _:=⟨l.kind,l.cell,l.names,l.free,l.len,l.at'⟩;have d:=zr (ν:=aj .non) (I:=s) (n:=P) (J:=Q) (M0:=R) (b:=j) G.calm (jx G.toGoodO (λe m k=>dB 60 c Z g e m G.toGoodO k) T q _) b2 hy t λcl C F H fp=>(dB 60 _ _ _ _ U (G.toGoodO.blk _ cl C _ _ _ fp) V).1 _
 have K:c.N.Nodup:=by rw[G.names];exact G.qT
 refine oC (gC X) λs1 s2 w=>xa w λs3 s4=>?_
 have A:c.env.scope.names.lookup z=some .local:=by rwa[G.scope]
 have r:c.N[f]?=some z:=by rwa[G.names]
 cases B:nF Z z M _ with
 |false=>
  refine iD K r (.inl A) (.inr A) (by rw[ki G,B]) λa0 Z0 H0 ρ Ω=>?_
  obtain⟨wi,tc,te,h1,h2,h3⟩:=d _ Z0 H0 ρ Ω;exact PE.imp (we G.calm E h1 (fA o) oB h2) h3
 |true=>
  rw[B]at u;exact tf K r A (by rw[ki G,B]) G.calm E (fA o) oB d (by grind)
theorem JP(F:bJ v x G θ B (jj v x) b h ς g (gp i H)):bJ v x G θ B eL b h ς g (cN i H):=by
 have o:∀{k:List V}{c:Hp}{Q:VK}{E:XK},cN i H k c Q E->gp i H k c Q λ_ _ _=>False:=λ{k c Q E}  u =>bj u λw Z p t S r f=>⟨w,Z,p,t,S,r,by
  cases q:H t p with
  |ok d m=>rwa[q]at f
  |exc n m=>rw[q]at f;exact λy C D a l=>(f y _ D a l).elim
  |bad=>rwa[q]at f⟩
 refine⟨λk c Q E j=>F.len k c Q _ (o j),λA outer s c args I k Q E J K L M j=>ZA (F.run A _ s c _ I k Q _ J K L M (o j)) λr N z=>?_⟩
 cases r with
 |error e=>refine bj z λ_ _ _ _ _ _ z=>?_;exact z.elim
 |ok fl=>cases fl<;>exact z
variable{Q6:List Str}{W8:D'->Option SM}
def rL(W:aV v x G θ B ζ b)(F:yn G d T X h ς)(i:dn g ο (ai X)=true)(j:cI (il W8 ζ Q6 60 (ai X) g 30) (aT X)=some ω)(k:∀a,eJ a (cb θ) ζ b (ai X) g->∀e f,W8 e=some f->ju a (cb θ) kF e f):=
 xH W F i λl A outer s H E c=>gk (xF c (k _ c) 30 60) j
theorem CV{d:Type}{a b}{c:d}(h:a.or b=some c):a=some c\/b=some c:=by
 cases a with
 |none=>exact .inr h
 |some x=>exact .inl h
end Mir
namespace Mir
open PySem PySem.Spec PyProof.Rows L2
structure qf(K:K')(C:b')(x qual:Str)(st:D')(f:b')(fd:Yb):Prop where
 me:Meth K C x f
 fn:yn K x qual st f fd
variable{C h:b'}{D6 E6 M2 N d6 j7:f'}{G:K'}{T d:Str}{X:D'}{Y5:Array (Option f')}{o5 u6:Option b'}
theorem ua(a:YA G (.ref C) d=some (some (.ref h)))(l:G.lookup h=some ⟨N,o5,.func (Yy d T (bD X) (aT X) (ai X) .none M2 d6 D6 u6 E6 j7),Y5⟩)(c:ZD G E6 T=true)(k:Yp G (.ref h)=true)(i:ğ G (.ref h)=true):qf G C d T X h (Yy d T (bD X) (aT X) (ai X) .none M2 d6 D6 u6 E6 j7):=⟨⟨a,i,k⟩,qD l c k⟩
variable [hU]
variable{ς:Yb}
theorem kD(F:yn G d T X h ς):yV G d T X .none h ς:=⟨F.ex,F.kp⟩
variable{B Y4:F'}{Q6 g ο:List Str}{b:Nat}{v:Yc}{x:X_}{ζ:aO}{θ:Str->Option f'}{ω:SM}
def aV.SO(W:aV v x G θ B ζ b)(c:G.In Y4)(e:Y4.Ns Yt θ)(a:i_ G d X h ς)(k:dn g ο (ai X)=true)(l:tD ζ Q6 X g=some ω)(m:∀kV f n o i ct j,j.length=ο.length->Þ (Yy d d (bD X) (aT X) (ai X) .none kV f n o i ct) ⟨j,[]⟩=pure (ο.zip j)):=W.ee (Yq c e a.ns) a.fn.kp (a.fn.binds m) (iH W (kD a.fn) k l)
variable{C4:Str}
def aV.SQ(W:aV v x G θ B ζ b)(i:θ C4=some (.ref h))(j:oD G h)(a:qf G h d T X C ς)(k:dn g ο (ai X)=true)(l:tD ζ Q6 X g=some ω)(m:∀kV c n o e ct f,f.length=ο.length->Þ (Yy d T (bD X) (aT X) (ai X) .none kV c n o e ct) ⟨f,[]⟩=pure (ο.zip f)):=W.gW i j a.me (a.fn.binds m) (iH W (kD a.fn) k l)
abbrev ub(K C x qual st):=∃f a,qf K C x qual st f a
abbrev ip(K x st):=∃f a,i_ K x st f a
structure SR(K:K')(C:Str)(a:b'):Prop where
 ns:Y_ K Yt C=some (some (.ref a))
 pg:Ŝ K a aac=true
 hd:ö K a=true
 po:Ő K a=true
 sa:YA K (.ref a) "__setattr__"=some (some (.builtin "object.__setattr__"))
 ma:ř K a=true
 kc:Yp K (.ref a)=true
theorem SR.cl(c:SR G d h):oD G h:=⟨c.pg,c.hd,c.po,c.sa⟩
variable{f8:f'->f'->f'->Option b'->f'->f'->List f'->Prop}
theorem xX(h:∀a b c d e f x,f8 a b c d e f [x]):∀a b c d e f g,g.length=1->f8 a b c d e f g:=λ_ _ _ _ _ _ g i=>match g,i with|[_],_=>h ..
theorem uc(h:∀a b c d e f x y,f8 a b c d e f [x,y]):∀a b c d e f g,g.length=2->f8 a b c d e f g:=λ_ _ _ _ _ _ g i=>match g,i with|[_,_],_=>h ..
theorem SS(h:∀a b c d e f x y z,f8 a b c d e f [x,y,z]):∀a b c d e f g,g.length=3->f8 a b c d e f g:=λ_ _ _ _ _ _ g i=>match g,i with|[_,_,_],_=>h ..
theorem Wc(h:∀a b c d e f x y z w,f8 a b c d e f [x,y,z,w]):∀a b c d e f g,g.length=4->f8 a b c d e f g:=λ_ _ _ _ _ _ g i=>match g,i with|[_,_,_,_],_=>h ..
structure Df(T:aO)(st:D')(N:List Str)(n:Nat)(c:SM):Prop where
 s:(dn N (N.take n) (ai st)&&(N.take n).length==n)=true
 k:tD T [] st N=some c
theorem Df.sc(d:Df ζ X g b ω):dn g (g.take b) (ai X)=true:=(abQ.mp d.s).1
theorem Df.ln(d:Df ζ X g b ω):(g.take b).length=b:=eq_of_beq (abQ.mp d.s).2
variable{s:Nat}
theorem aV.dF(W:aV v x G θ B ζ b)(h:G.In Y4)(i:Y4.Ns Yt θ)(a:ip G d X)(c:Df ζ X g s ω)(o:∀kV m p q n ct l,l.length=s->Þ (Yy d d (bD X) (aT X) (ai X) .none kV m p q n ct) ⟨l,[]⟩=pure ((g.take s).zip l)):
  aV v x G θ B (ζ.ee d (bw g.length s ω)) (b+1):=by
 obtain⟨_,_,a⟩:=a;have:=W.SO h i a c.sc c.k λa j ω r e f l Y4=>o a j ω r e f l (Y4.trans c.ln)
 rwa[c.ln]at this
theorem aV.dM(W:aV v x G θ B ζ b)(o:θ C4=some (.ref h))(p:oD G h)(a:ub G h d T X)(c:Df ζ X g s ω)(q:∀kV m r t n ct l,l.length=s->Þ (Yy d T (bD X) (aT X) (ai X) .none kV m r t n ct) ⟨l,[]⟩=pure ((g.take s).zip l)):
  aV v x G θ B (ζ.gW C4 d (bw g.length s ω)) (b+1):=by
 obtain⟨_,_,a⟩:=a;have:=W.SQ o p a c.sc c.k λa i ω u e f l j=>q a i ω u e f l (j.trans c.ln)
 rwa[c.ln]at this
theorem Df.ok(a:Df ζ X g s ω)(W:aV v x G θ B ζ b)(F:yV G d T X N h ς):bJ v x G θ B eL (b+1) h ς (g.take s) (cN (cb θ) (bw g.length s ω)):=by
 have:=iH W F a.sc a.k;rwa[a.ln]at this
variable{H:a5}{J n:V'}{J0:AM}{O:List x'}{R:List V}{c:Cx}{i:Str->b'->Prop}{j:x'}{p:List D}{q:iQ}{Δ:List f'}
theorem iM(F1:bJ c.prog c.w c.K c.mg c.base eL b h ς g (cN i H))(r:cm b c.A)(s:Gl c d)(t:c.mg d=some (.ref h))(u:Yp c.K (.ref h)=true)(x:Binds c.K ς g Δ)(y:Vals R Δ)(z:∀f Z a,aJ (ax f Z a) p R)(k:(d==("__debug__"))=false)(B:I' (j::O) c.env=(false,eval j c.env)::I' O c.env)(l:(Ye J (I' O c.env)).any (·.1)=false)(C:wu c i q (j::O) J0):
  b_ c i q (.Call (.Name d n) (j::O) [] J) (mN (λxs m=>aQ H (xs++p) m) J0):=by
 intro o D E F m;refine PE.imp (qv F1 r s t u x y lF (C o D E F m) k B l) ?_;rintro T a Q ⟨f,Z,S,e⟩;refine⟨f,Z,S,pJ.use e λxs G _ U V I L X M N P=>⟨_,L,_,_,M,N.append (z _ _ _),ck.ok0 P⟩⟩
def rowOf(st:D')(i:Nat)(f:Str):iP:=match (aT st).getD i (.Pass ⟨0,0,0,0⟩)with
 |.Assign [.Attribute (.Name _ a) _ b] v c=>⟨f,v,a,b,c⟩
 |_=>⟨f,.Constant .none 0 ⟨0,0,0,0⟩,⟨0,0,0,0⟩,⟨0,0,0,0⟩,⟨0,0,0,0⟩⟩
structure Qm(K:K')(x qual:Str)(st:D')(C N f c:b')(fd:Yb):Prop where
 a:Y_ K Yt x=some (some (.ref C))
 cl:m_ K C N f
 fn:yn K "__init__" qual st f fd
 cv:fd.code=.ref c
 is:Oa K C
variable{A0 ψ:b'}{B7 C7 D7 E7 u5:Option f'}{E:Bool}{G5 N7:List f'}{J7:Option Bool}{L8:ClassData}{Q5:Str}
theorem JQ(b:Y_ G Yt d=some (some (.ref C)))(c:G.lookup C=some (è C4 Q5 C h Δ G5 true g N7 E J7 o5 u5 B7 C7 D7 E7 "ValueError.__new__"))(nC:Y_ G h "__init__"=some (some (.ref ψ)))(tC:su G G5=true)(xa:PySem.W.clsIn G C=some L8)(e:fU L8.mro=true)(f:L8.hasDict=true)(i:YA G (.ref C) "__setattr__"=some (some (.builtin "object.__setattr__")))(xe:YA G (.ref C) "__getattribute__"=some (some (.builtin "BaseException.__getattribute__")))(j:YA G (.ref C) "__getattr__"=some none)(k:û G C (.type "BaseException")=some true)(l:ö G C=true)(m:Ob G h "__init__"=some (some (.ref ψ)))(n:Yp G (.ref C)=true)(o:Ś G (.ref ψ)=some (.type "function")){a}(p:G.lookup ψ=some ⟨N,u6,.func (Yy "__init__" T (bD X) (aT X) (ai X) .none M2 d6 D6 a (.ref A0) E6),Y5⟩)(q:ZD G (.ref A0) T=true)(r:Yp G (.ref ψ)=true)(s:YA G (.ref C) "__class__"=some (some (.builtin "object.__class__")))(t:ú G (.builtin "object.__class__") "__get__"=some (some (.builtin "getset_descriptor.__get__")))(u:Ş G (.builtin "object.__class__")=some true)(w:û G C (.type "object")=some true):Qm G d T X C h ψ A0 (Yy "__init__" T (bD X) (aT X) (ai X) .none M2 d6 D6 a (.ref A0) E6):=
 ⟨b,⟨⟨_,_,_,_,_,_,_,_,_,_,_,_,_,_,c,vX tC⟩,⟨_,xa,e,f⟩,i,⟨xe,j,k⟩,l,Gh m,n,o⟩,qD p q r,rfl,⟨s,t,u,w⟩⟩
end Mir
namespace SU
open PySem PySem.Spec PyProof.Rows L2 Mir
noncomputable def top(i:Nat):=PySem.Challenge.pw_taglook_k27_turned_at_once.main.body.getD i (.Pass ⟨0,0,0,0⟩)
instance clos:hU:=⟨λ_=>⟨"","",bD (top 0),[],ai (top 0),[],[]⟩,λ_=>0⟩
noncomputable def td:List Str:=[]
def SV:=(((((((({}:aO).lZ "MOST_ELDERS" (.int 5)).lZ "MOST_KINDS" (.int 12)).lZ "MOST_LETTERS" (.int 8)).lZ "LETTERS" (.str "abcdefghijklmnopqrstuvwxyz")).lZ "DEEPEST" (.int 8)).yT "elders" ["House"]).yT "lines" ["House"])
def WR:=bw 2 2 ow
def F0:=pureOf WR
def SW:=SV.yS "_law_cell" F0
theorem WS:Df SV (top 33) ["_law_script","_law_k"] 2 ow:=⟨by decide +kernel,rfl⟩
def WT:=bw 8 3 pW
def F1:=pureOf WT
def Wd:=SW.yS "_law_mix" F1
theorem WU:Df SW (top 34) ["_law_cell_here","_law_turn","_law_many","_law_rest","_law_k","_law_turns","_law_one","_law_two"] 3 pW:=⟨by decide +kernel,rfl⟩
def U0:=Wd
noncomputable def We:List Str:=["thing","depth"]
noncomputable def WV:List Str:=["thing","depth"]
def O0:=bw 2 2 (gs (bw 2 2 (gs (bw 2 2 (gs λ_ _=>.bad)))))
def U1:=U0
def fL:List (Str×EM):=[("ring",zh O0)]
def fT:List (Str×EM):=[("name",Ky O0),("steps",Kz O0)]
theorem SX:dn We WV (ai (top 3))=true:=by decide +kernel
theorem SY(O):tD (U0.ee "own_copy" O) td (top 3) We=some (gs O):=rfl
def O1:=bw 1 1 Pu
def U2:=U1.ee "is_name" O1
theorem WW:Df U1 (top 19) ["thing"] 1 Pu:=⟨by decide +kernel,rfl⟩
def O2:=bw 4 2 tJ
def U3:=U2.ee "place_behind" O2
theorem WX:Df U2 (top 23) ["left","name","place","row"] 2 tJ:=⟨by decide +kernel,rfl⟩
def O3:=bw 2 1 (Bw O2)
def U4:=U3.ee "free_name" O3
theorem WY:Df U3 (top 22) ["left","row"] 1 (Bw O2):=⟨by decide +kernel,rfl⟩
noncomputable def S9:List Str:=["left","heads","name","met","steps","place"]
noncomputable def S_:List Str:=["left"]
def d4:=IX O2
def O4:=bw 6 1 d4
def U5:=U4.ee "ring_among" O4
theorem WZ:dn S9 S_ (ai (top 24))=true:=by decide +kernel
def W9:=GI U4 (ai (top 24)) S9
theorem W_:cI (il W9 U4 td 60 (ai (top 24)) S9 30) (aT (top 24))=some d4:=rfl
noncomputable def Ta:List Str:=["rows","left","order","name"]
noncomputable def Tb:List Str:=["rows"]
def d5:=By (GO O0 O4) O3
def O5:=bw 4 1 d5
def T5:={U5 with xt:=true}
def U6:=U5
theorem Xa:dn Ta Tb (ai (top 21))=true:=by decide +kernel
def Xb:=xG T5 (ai (top 21)) Ta "Ring" 1 [("steps",zh O0)]
theorem Xc:cI (il Xb T5 td 60 (ai (top 21)) Ta 30) (aT (top 21))=some d5:=rfl
def O6:=bw 2 2 Pn
def U7:=U6.ee "ready_kinds" O6
theorem Xd:Df U6 (top 14) ["elders","order"] 2 Pn:=⟨by decide +kernel,rfl⟩
def O7:=bw 3 1 (Pp O6)
def U8:=U7.ee "elders_first" O7
theorem Xe:Df U7 (top 13) ["elders","order","ready"] 1 (Pp O6):=⟨by decide +kernel,rfl⟩
def O8:=bw 5 1 (Pq O7 PK)
def U9:=U8.ee "loop_of" O8
theorem Xf:Df U8 (top 15) ["elders","order","name","left","met"] 1 (Pq O7 PK):=⟨by decide +kernel,rfl⟩
def O9:=bw 2 2 Pr
def Tc:=U9.ee "rows_by" O9
theorem Xg:Df U9 (top 27) ["lines","own_elders"] 2 Pr:=⟨by decide +kernel,rfl⟩
noncomputable def CW:List Str:=["elders","ring","lines","tangles","name","refusal"]
noncomputable def JR:List Str:=["elders"]
def Wf:=SA fL fT O8 O7 O5 O9
def Qn:=bw 6 1 Wf
def NN:={Tc with xt:=true}
def Wg:=Tc
theorem NO:dn CW JR (ai (top 26))=true:=by decide +kernel
def Td:=λa=>((xG NN (ai (top 26)) CW "Loop" 1 fL a).or (xG NN (ai (top 26)) CW "Tangled" 2 fT a)).or (Cq NN (ai (top 26)) CW "merged" "Ring" "steps" O5 a)
theorem Te:cI (il Td NN td 60 (ai (top 26)) CW 30) (aT (top 26))=some Wf:=rfl
def JS:=bw 1 1 ML
def Wh:=Wg.gW "House" "__init__" JS
theorem Tf:Df Wg (inClass (top 31) 0) ["self"] 1 ML:=⟨by decide +kernel,rfl⟩
def Tg:=Wh.EL "House" JS
def GY:=bw 1 1 Px
def Ti:=Tg.gW "House" "kinds" GY
theorem Tj:Df Tg (inClass (top 31) 5) ["self"] 1 Px:=⟨by decide +kernel,rfl⟩
def Dg:=bw 2 2 (Py GY)
def Tn:=Ti.gW "House" "check_kind" Dg
theorem To:Df Ti (inClass (top 31) 11) ["self","name"] 2 (Py GY):=⟨by decide +kernel,rfl⟩
def KA:=bw 4 2 (Pz Dg)
def Tp:=Tn.gW "House" "check_elders" KA
theorem Tq:Df Tn (inClass (top 31) 12) ["self","elders","place","elder"] 2 (Pz Dg):=⟨by decide +kernel,rfl⟩
noncomputable def JT:List Str:=["self","elders","lines"]
noncomputable def JU:List Str:=["self","elders"]
def NJ:=CJ Qn
def JV:=bw 3 2 NJ
def Ts:={Tp with xt:=true}
def Tt:=Tp.gW "House" "settle" JV
theorem NP:dn JT JU (ai (inClass (top 31) 13))=true:=by decide +kernel
def Tu:=Ct Ts (ai (inClass (top 31) 13)) JT "lines_of" Qn
theorem Tv:cI (il Tu Ts td 60 (ai (inClass (top 31) 13)) JT 30) (aT (inClass (top 31) 13))=some NJ:=rfl
def Qo:=bw 5 4 (PC O1 KA GY JV)
def Tw:=Tt.gW "House" "add" (λa=>Qo (a++[.non]))
theorem Tz:Df Tt (inClass (top 31) 1) ["self","name","elders","at","order"] 4 (PC O1 KA GY JV):=⟨by decide +kernel,rfl⟩
def Qp:=bw 2 2 (PY Dg)
def TB:=Tw.gW "House" "elders_of" Qp
theorem TC:Df Tw (inClass (top 31) 6) ["self","name"] 2 (PY Dg):=⟨by decide +kernel,rfl⟩
def Qq:=bw 2 2 (PB Dg)
def TF:=TB.gW "House" "line" Qq
theorem TH:Df TB (inClass (top 31) 7) ["self","name"] 2 (PB Dg):=⟨by decide +kernel,rfl⟩
def KC:=bw 5 2 (PZ Dg KA dz)
def TJ:=TF.gW "House" "may_turn" KC
theorem TK:Df TF (inClass (top 31) 4) ["self","turns","turned","name","elders"] 2 (PZ Dg KA dz):=⟨by decide +kernel,rfl⟩
noncomputable def JW:List Str:=["self","turns","elders","name","others"]
noncomputable def JX:List Str:=["self","turns"]
def Wi:=FI KC JV
def TL:=bw 5 2 Wi
def TM:={TJ with xt:=true}
def Wj:=TJ
theorem TN:dn JW JX (ai (inClass (top 31) 3))=true:=by decide +kernel
def TQ:=Cu TM (ai (inClass (top 31) 3)) JW "House" "settle" JV
theorem TR:cI (il TQ TM td 60 (ai (inClass (top 31) 3)) JW 30) (aT (inClass (top 31) 3))=some Wi:=rfl
def Qr:=bw 2 1 (PD JS)
def TU:=Wj.gW "House" "copied" Qr
theorem TV:Df Wj (inClass (top 31) 10) ["self","twin"] 1 (PD JS):=⟨by decide +kernel,rfl⟩
def TX:=bw 11 2 (PR F1)
def TY:=TU.ee "_law_names" TX
theorem TZ:Df TU (top 35) ["_law_cell_here","_law_many","_law_letters","_law_stem","_law_turn","_law_names_here","_law_size","_law_spot","_law_first","_law_step","_law_signs"] 2 (PR F1):=⟨by decide +kernel,rfl⟩
def T9:=bw 9 4 (PV F1 F0)
def T_:=TY.ee "_law_rows" T9
theorem Ua:Df TY (top 36) ["_law_script","_law_start","_law_names_here","_law_most","_law_rows_here","_law_k","_law_cell_here","_law_row","_law_spot"] 4 (PV F1 F0):=⟨by decide +kernel,rfl⟩
def JY:=bw 7 1 GH
def Ub:=T_.ee "_law_merge" JY
theorem Uc:Df T_ (top 37) ["_law_rows_here","_law_row","_law_left","_law_told_here","_law_behind","_law_name","_law_free"] 1 GH:=⟨by decide +kernel,rfl⟩
def Ud:=bw 7 2 (PM JY)
def Ue:=Ub.ee "_law_clean" Ud
theorem Ug:Df Ub (top 38) ["_law_names_here","_law_rows_here","_law_elders","_law_lines","_law_k","_law_row","_law_behind"] 2 (PM JY):=⟨by decide +kernel,rfl⟩
def Uh:=bw 5 1 (PN JS Qo)
def Ui:=Ue.ee "_law_built" Uh
theorem Uj:Df Ue (top 39) ["_law_elders","_law_house","_law_name","_law_row","_law_handed"] 1 (PN JS Qo):=⟨by decide +kernel,rfl⟩
def KD:=bw 6 1 (Qa JY)
def Uk:=Ui.ee "_law_lined" KD
theorem Ul:Df Ui (top 40) ["_law_elders","_law_lines","_law_turn","_law_name","_law_row","_law_behind"] 1 (Qa JY):=⟨by decide +kernel,rfl⟩
def Um:=bw 4 2 (Qc F1)
def Wk:=Uk.ee "_law_turned" Um
theorem Uo:Df Uk (top 41) ["_law_rows_here","_law_cell_here","_law_at","_law_some"] 2 (Qc F1):=⟨by decide +kernel,rfl⟩
noncomputable def Up:List Str:=["_law_house","_law_turns","_law_told_here"]
noncomputable def NQ:List Str:=["_law_house","_law_turns"]
def Xh:=FK "House" "turn_all" TL "Loop" "Tangled" "none" "loop" "tangled"
def NS:=bw 3 2 Xh
def Qs:=Wk.ee "_law_told" NS
theorem Uq:dn Up NQ (ai (top 42))=true:=by decide +kernel
noncomputable def JZ:List Str:=["_law_elders","_law_lines"]
noncomputable def J3:List Str:=["_law_elders"]
def Wl:=SG KD
def Qt:=bw 2 1 Wl
def Ur:=Qs.ee "_law_due" Qt
theorem Us:dn JZ J3 (ai (top 43))=true:=by decide +kernel
def Ut:=Nx Qs (ai (top 43)) JZ
theorem Uu:cI (il Ut Qs td 60 (ai (top 43)) JZ 30) (aT (top 43))=some Wl:=rfl
def NU:=bw 4 3 (Qd GY Qq Qp)
def Uv:=Ur.ee "_law_has" NU
theorem Uw:Df Ur (top 44) ["_law_house","_law_elders","_law_lines","_law_name"] 3 (Qd GY Qq Qp):=⟨by decide +kernel,rfl⟩
def Ux:=bw 9 4 (Qg Qr Qt KC NS KD NU)
def Uy:=Uv.ee "_law_one_by_one" Ux
theorem Uz:Df Uv (top 45) ["_law_house","_law_elders","_law_lines","_law_turns","_law_other","_law_name","_law_row","_law_after","_law_due_here"] 4 (Qg Qr Qt KC NS KD NU):=⟨by decide +kernel,rfl⟩
noncomputable def J6:List Str:=["_law_script","_law_many","_law_names_here","_law_elders","_law_lines","_law_house","_law_order","_law_other","_law_name","_law_turns","_law_after","_law_handed"]
noncomputable def NV:List Str:=["_law_script"]
def Wm:=JL F0 TX T9 Ud Uh Um Ux NU KC NS KD
def Qu:=bw 12 1 Wm
theorem UA:dn J6 NV (ai (top 46))=true:=by decide +kernel
def UB:=NM Uy (ai (top 46)) J6
theorem UC:cI (il UB Uy td 60 (ai (top 46)) J6 30) (aT (top 46))=some Wm:=rfl
theorem CY(I:List Int)(P:I.length<=63):∃aw,Qu [.lst (I.map .int)] []=.ok (.bl true) aw:=by
 obtain⟨J,b⟩:∃J,jW J F1:=Fz;obtain⟨K,f⟩:∃K,jo K F0:=⟨_,Cy⟩;have M:Cd O2:=MW;have L:FnAt O3:=MA;have m:Ce O4:=MY M;have n:vu O0:=GX;have N:BA O5:=MB L;have O:Nc O5:=Nf n m L;have o:Fe O6:=MD;have g:PH O7:=IU o;have p:Sa O8:=IV g;have q:yW O9:=MF;have r:SE Qn:=Jw JN JO p g N O q;have h:Fg JS:=MM;have c:BJ GY:=MH;have a:vm Dg:=MI c;have i:Ff KA:=MJ a;have j:CK JV:=Jx r;have s:ID O1:=MG;have t:Fh Qo:=MO s i c j.at;have u:Jt Qp:=Np a;have w:IF Qq:=MK a;have d:zk KC:=Nq a i;have x:SF TL:=Jy d j;have y:IH Qr:=MP h;have z:Jp TX:=Nl b;have A:FA T9:=Nn b f;have B:Fo JY:=MS;have C:Nt JY:=JA;have D:Fy Ud:=Ng B;have E:Ji Uh:=Nh h t;have e:Kv KD:=JB C;have F:SI Um:=JI b;have k:Ny NS:=Nz x;have G:Qb Qt:=NB e;have l:NC NU:=ND c w u;have H:SH Ux:=NF y G d k e l;exact CU f z A D E F H l d k e
def FW:=inClass (top 10) 0
def UD:=rowOf FW 0 "steps"
def Wn:=[zh O0]
theorem Xi:dn ["self","steps"] ["self","steps"] (ai FW)=true:=by decide +kernel
def stL:=inClass (top 9) 0
def UE:=rowOf stL 0 "ring"
def Wo:=[zh O0]
theorem Xj:dn ["self","ring"] ["self","ring"] (ai stL)=true:=by decide +kernel
def CZ:=inClass (top 11) 0
def UG:=rowOf CZ 0 "name"
def UH:=rowOf CZ 1 "steps"
def Wq:=[Ky O0,Kz O0]
theorem Xk:dn ["self","name","steps"] ["self","name","steps"] (ai CZ)=true:=by decide +kernel
variable{B:F'}{G:K'}{b:Nat}{g:List Str}{h:b'}{i:Str->b'->Prop}{v:Yc}{x:X_}{θ:Str->Option f'}{ς:Yb}
theorem J_:bJ v x G θ B eL b h ς g (cN i (λ_ _=>.bad)):=
 ⟨λ_ _ _ _ ⟨_,_,_,_,_,_,C_⟩=>C_.elim,λ_ _ _ _ _ _ _ _ _ _ _ _ _ ⟨_,_,_,_,_,_,C_⟩=>C_.elim⟩
variable{C ψ:b'}{G6:YD}{ζ:aO}
theorem Xl(F:bJ v x G θ B eL b h ς ["thing","depth"] (cN (cb θ) O0))(r:Binds G ς ["thing","depth"] [.int 0 G6])(s:θ "own_copy"=some (.ref h))(t:Yp G (.ref h)=true)(W:aV v x G θ B ζ b):
    ∀i l k e n o,cm b (i.deeper (Yl "Ring.__init__" (ai FW) k.heap.objs.size C (.ref ψ)))->∀p∈[UD].zip Wn,b_ ((cW eL v x G θ B ("self"::["steps"]) "Ring.__init__" (ai FW) C (.ref ψ) i l k n o).jJ.mk1 e) (cb θ) kF p.1.ve p.2:=by
  intro i l k e n o q p u;have f:aV v x G θ B ({}:aO) b:=(aV.start W.de).mono (Yh b)
  have g:GoodO ((cW eL v x G θ B ["self","steps"] "Ring.__init__" (ai FW) C (.ref ψ) i l k n o).jJ.mk1 e) (cb θ) {} b (ai FW) ["self","steps"]:=
    { scope:=rfl,names:=rfl,calm:=rfl,room:=q,de:=f.de,fld:=f.fld,cst:=f.cst
      iT:=λc F a=>⟨f.iT c F a⟩,fn:=λc F a=>⟨f.fn c F a⟩,met:=λm d F a=>⟨f.met m d F a⟩,cls:=λd F a=>let ⟨j,w,y⟩:=f.cls d F a;⟨j,w,⟨y⟩⟩,clo:=f.clo }
  rw[W'.mp (show p∈[(UD,zh O0)]from u)]
  exact iM (p:=[.int 0]) (R:=[.int 0]) F q rfl s t r (.cons ⟨G6,rfl⟩ .nil) (λ_ _ _=>.one (by simp only[ax])) rfl rfl rfl (gg ((dB 60 _ (ai FW) ["self","steps"] _ (mN (aX .list) (ae (aa 1) ah)) g rfl).1 _) iv rfl)
theorem Xm(F:bJ v x G θ B eL b h ς ["thing","depth"] (cN (cb θ) O0))(r:Binds G ς ["thing","depth"] [.int 0 G6])(s:θ "own_copy"=some (.ref h))(t:Yp G (.ref h)=true)(W:aV v x G θ B ζ b):
    ∀i l k e n o,cm b (i.deeper (Yl "Loop.__init__" (ai stL) k.heap.objs.size C (.ref ψ)))->∀p∈[UE].zip Wo,b_ ((cW eL v x G θ B ("self"::["ring"]) "Loop.__init__" (ai stL) C (.ref ψ) i l k n o).jJ.mk1 e) (cb θ) kF p.1.ve p.2:=by
  intro i l k e n o q p u;have f:aV v x G θ B ({}:aO) b:=(aV.start W.de).mono (Yh b)
  have g:GoodO ((cW eL v x G θ B ["self","ring"] "Loop.__init__" (ai stL) C (.ref ψ) i l k n o).jJ.mk1 e) (cb θ) {} b (ai stL) ["self","ring"]:=
    { scope:=rfl,names:=rfl,calm:=rfl,room:=q,de:=f.de,fld:=f.fld,cst:=f.cst
      iT:=λc F a=>⟨f.iT c F a⟩,fn:=λc F a=>⟨f.fn c F a⟩,met:=λm d F a=>⟨f.met m d F a⟩,cls:=λd F a=>let ⟨j,w,y⟩:=f.cls d F a;⟨j,w,⟨y⟩⟩,clo:=f.clo }
  rw[W'.mp (show p∈[(UE,zh O0)]from u)]
  exact iM (p:=[.int 0]) (R:=[.int 0]) F q rfl s t r (.cons ⟨G6,rfl⟩ .nil) (λ_ _ _=>.one (by simp only[ax])) rfl rfl rfl (gg ((dB 60 _ (ai stL) ["self","ring"] _ (mN (aX .list) (ae (aa 1) ah)) g rfl).1 _) iv rfl)
theorem Xn(F:bJ v x G θ B eL b h ς ["thing","depth"] (cN (cb θ) O0))(r:Binds G ς ["thing","depth"] [.int 0 G6])(s:θ "own_copy"=some (.ref h))(t:Yp G (.ref h)=true)(W:aV v x G θ B ζ b):
    ∀i l k e n o,cm b (i.deeper (Yl "Tangled.__init__" (ai CZ) k.heap.objs.size C (.ref ψ)))->∀p∈[UG,UH].zip Wq,b_ ((cW eL v x G θ B ("self"::["name","steps"]) "Tangled.__init__" (ai CZ) C (.ref ψ) i l k n o).jJ.mk1 e) (cb θ) kF p.1.ve p.2:=by
  intro i l k e n o q p hp;have g:aV v x G θ B ({}:aO) b:=(aV.start W.de).mono (Yh b)
  have f:GoodO ((cW eL v x G θ B ["self","name","steps"] "Tangled.__init__" (ai CZ) C (.ref ψ) i l k n o).jJ.mk1 e) (cb θ) {} b (ai CZ) ["self","name","steps"]:=
    { scope:=rfl,names:=rfl,calm:=rfl,room:=q,de:=g.de,fld:=g.fld,cst:=g.cst
      iT:=λc F a=>⟨g.iT c F a⟩,fn:=λc F a=>⟨g.fn c F a⟩,met:=λm d F a=>⟨g.met m d F a⟩,cls:=λd F a=>let ⟨j,u,w⟩:=g.cls d F a;⟨j,u,⟨w⟩⟩,clo:=g.clo }
  rcases Yo.mp (show p∈[(UG,Ky O0),(UH,Kz O0)]from hp)with rfl|hp
  · exact iM (p:=[.int 0]) (R:=[.int 0]) F q rfl s t r (.cons ⟨G6,rfl⟩ .nil) (λ_ _ _=>.one (by simp only[ax])) rfl rfl rfl (gg ((dB 60 _ (ai CZ) ["self","name","steps"] _ (aa 1) f rfl).1 _) iv rfl)
  · rw[W'.mp hp]
    exact iM (p:=[.int 0]) (R:=[.int 0]) F q rfl s t r (.cons ⟨G6,rfl⟩ .nil) (λ_ _ _=>.one (by simp only[ax])) rfl rfl rfl (gg ((dB 60 _ (ai CZ) ["self","name","steps"] _ (mN (aX .list) (ae (aa 2) ah)) f rfl).1 _) iv rfl)
set_option maxHeartbeats 0 in
variable{A0 B4 N8:b'}{D6 E6 M2 N d6 j7:f'}{Y5:Array (Option f')}{o5 u6:Option b'}{s:Nat}{u9 Ξ:Obj}
theorem all_mk{h}(X:G.In h)(c:h.Ns Yt θ)(l2:θ "law"=some (.ref C))(nb:wo G=true)(z0:Y_ G Yt "DEEPEST"=some (some (.int 8 G6))){q1}(z1:Y_ G Yt "LETTERS"=some (some (.str "abcdefghijklmnopqrstuvwxyz" q1))){q2}(z2:Y_ G Yt "MOST_LETTERS"=some (some (.int 8 q2))){q3}(z3:Y_ G Yt "MOST_KINDS"=some (some (.int 12 q3))){q4}(z4:Y_ G Yt "MOST_ELDERS"=some (some (.int 5 q4)))(a0:i_ G "_law_cell" (top 33) ψ ς){n2}(a1:i_ G "_law_mix" (top 34) A0 n2)(Y:SR G "House" B4)(r2:YA G (.ref B4) "elders"=some none)(t2:YA G (.ref B4) "lines"=some none){C0 I}(F:Y_ G Yt "own_copy"=some (some (.ref I)))(u2:G.lookup I=some ⟨N,o5,.func (Yy "own_copy" "own_copy" (bD (top 3)) (aT (top 3)) (ai (top 3)) (.ref N8) M2 d6 D6 u6 E6 j7),Y5⟩)(w2:ZD G E6 "own_copy"=true)(o:Yp G (.ref I)=true)(D0:G.lookup N8=some Ξ)(G0:Ξ.data=.seq #[.int 0 C0] b)(x2:ip G "is_name" (top 19))(y2:ip G "place_behind" (top 23))(A2:ip G "free_name" (top 22)){B2 I0}(Z:i_ G "ring_among" (top 24) B2 I0){C2 J0}(c0:i_ G "merged" (top 21) C2 J0)(D2:ip G "ready_kinds" (top 14))(E2:ip G "elders_first" (top 13))(F2:ip G "loop_of" (top 15))(G2:ip G "rows_by" (top 27)){K0 h0}(y:i_ G "lines_of" (top 26) K0 h0)(L0:ip G "_law_names" (top 35))(M0:ip G "_law_rows" (top 36))(P0:ip G "_law_merge" (top 37))(R0:ip G "_law_clean" (top 38))(S0:ip G "_law_built" (top 39))(T0:ip G "_law_lined" (top 40))(W0:ip G "_law_turned" (top 41)){c1 i0}(z:i_ G "_law_told" (top 42) c1 i0){e1 j0}(B:i_ G "_law_due" (top 43) e1 j0)(f1:ip G "_law_has" (top 44))(g1:ip G "_law_one_by_one" (top 45)){h1 l0}(m:qf G B4 "__init__" "House.__init__" (inClass (top 31) 0) h1 l0)(i1:ub G B4 "kinds" "House.kinds" (inClass (top 31) 5))(j1:ub G B4 "check_kind" "House.check_kind" (inClass (top 31) 11))(l1:ub G B4 "check_elders" "House.check_elders" (inClass (top 31) 12)){n1 m0}(D:qf G B4 "settle" "House.settle" (inClass (top 31) 13) n1 m0)(o1:ub G B4 "elders_of" "House.elders_of" (inClass (top 31) 6))(r1:ub G B4 "line" "House.line" (inClass (top 31) 7))(t1:ub G B4 "may_turn" "House.may_turn" (inClass (top 31) 4)){u1 n0}(J:qf G B4 "turn_all" "House.turn_all" (inClass (top 31) 3) u1 n0)(w1:ub G B4 "copied" "House.copied" (inClass (top 31) 10)){d0 n o0 K p0 q0 L M O q P}(x1:YA G (.ref B4) "add"=some (some (.ref n)))(y1:G.lookup n=some ⟨q0,o0,.func (Yy "add" "House.add" (bD (inClass (top 31) 1)) (aT (inClass (top 31) 1)) (ai (inClass (top 31) 1)) (.ref d0) L M O K q P),p0⟩)(A1:ZD G q "House.add"=true)(e0:Yp G (.ref n)=true)(B1:G.lookup d0=some u9)(C1:u9.data=.seq #[.none] s)(I2:ğ G (.ref n)=true){Q s0 R t0 u0 S T U t V}(D1:Y_ G Yt "law"=some (some (.ref Q)))(E1:G.lookup Q=some ⟨u0,s0,.func (Yy "law" "law" (bD (top 46)) (aT (top 46)) (ai (top 46)) .none S T U R t V),t0⟩)(G1:ZD G t "law"=true)(H1:Yp G (.ref Q)=true){CR NR fR cR J2}(QR:Qm G "Ring" "Ring.__init__" FW CR NR fR cR J2)(I1:YA G (.ref CR) "steps"=some none)(K2:YK G (.ref CR) (.ref CR)=some true){CL NL fL cL N2}(QL:Qm G "Loop" "Loop.__init__" stL CL NL fL cL N2)(P2:YA G (.ref CL) "ring"=some none)(Q2:YK G (.ref CL) (.ref CL)=some true){CT NT fT cT S2}(QT:Qm G "Tangled" "Tangled.__init__" CZ CT NT fT cT S2)(T2:YA G (.ref CT) "name"=some none)(W2:YA G (.ref CT) "steps"=some none)(b3:YK G (.ref CT) (.ref CT)=some true)(c3:YK G (.ref CT) (.ref CL)=some false){B0}(aB:Y_ G Yt "LookError"=some (some (.ref B0)))(gB:ú G (.ref B0) "__getattribute__"=some (some (.builtin "type.__getattribute__")))(rB:aaW G B0 (.type "type")=true)(iB:aaX G (.ref B0) (.type "type") "__init__"=some (.val (.builtin "ValueError.__init__"))): ∃fd,(∀i u,Æ i fd ⟨[u],[]⟩ [("_law_script",u)])/\∀base,G.In base->base.Ns Yt θ->bJ v x G θ base eL 35 C fd ["_law_script"] (cN (cb θ) Qu):=by
 have e:=l2.symm.trans (Yq X c D1);cases e;have b0:=a0.fn.binds (g:=["_law_script","_law_k"]) (uc (by intros;rfl))
 have b1:=a1.fn.binds (g:=["_law_cell_here","_law_turn","_law_many"]) (SS (by intros;rfl))
 have v0:yV G "own_copy" "own_copy" (top 3) (.ref N8) I _:=⟨⟨_,_,_,_,_,_,_,_,_,rfl,u2,w2⟩,o⟩;have w0:Binds G (Yy "own_copy" "own_copy" (bD (top 3)) (aT (top 3)) (ai (top 3)) (.ref N8) M2 d6 D6 u6 E6 j7) ["thing","depth"] []:=λi us X hl=>match us,hl with|[_,_],_=>Ϥ X rfl D0 G0 rfl rfl
 have x0:Binds G (Yy "own_copy" "own_copy" (bD (top 3)) (aT (top 3)) (ai (top 3)) (.ref N8) M2 d6 D6 u6 E6 j7) ["thing","depth"] [.int 0 C0]:=λi us X hl=>by
  match us,hl with
  |[],h=>simp at h
  |[_],_=>exact Ϥ X rfl D0 G0 rfl rfl
  |_::_::_,h=>simp at h
 have d3:=Z.fn.binds (g:=S_) (xX (by intros;rfl))
 have e3:=c0.fn.binds (g:=Tb) (xX (by intros;rfl))
 have J1:=y.fn.binds (g:=JR) (xX (by intros;rfl))
 have f0:=m.fn.binds (g:=["self"]) (xX (by intros;rfl))
 have g0:=D.fn.binds (g:=JU) (uc (by intros;rfl))
 have K1:=J.fn.binds (g:=JX) (uc (by intros;rfl))
 have N1:=z.fn.binds (g:=NQ) (uc (by intros;rfl))
 have P1:=B.fn.binds (g:=J3) (xX (by intros;rfl))
 have Q1:yV G "add" "House.add" (inClass (top 31) 1) (.ref d0) n _:=⟨⟨_,_,_,_,_,_,_,_,_,rfl,y1,A1⟩,e0⟩
 have R1:Binds G (Yy "add" "House.add" (bD (inClass (top 31) 1)) (aT (inClass (top 31) 1)) (ai (inClass (top 31) 1)) (.ref d0) L M O K q P) ["self","name","elders","at"] [.none]:=λi us hi hl=>by
  match us,hl with
  |[],h=>simp at h
  |[_],h=>simp at h
  |[_,_],h=>simp at h
  |[_,_,_],_=>exact Ϥ hi rfl B1 C1 rfl rfl
  |_::_::_::_::_,h=>simp at h
 have S1:=qD (X:=(top 46)) E1 G1 H1;have XB:XBase G θ "LookError" B0:=⟨Yq X c aB,gB,rB,iB⟩;have bR:=QR.fn.binds (g:=["self","steps"]) (uc (by intros;rfl))
 have XR:lG G θ CR NR fR cR _ FW "Ring.__init__" "self" ["steps"] [UD]:=⟨⟨_,QR.fn⟩,QR.cv,fq Xi,QR.cl,bR,λr hr=>by rw[W'.mp hr];exact I1,by decide +kernel,rfl,rfl,rfl,by decide,by decide,"LookError",B0,[("steps",_,_)],_,_,_,_,_,_,XB,rfl,rfl,rfl,rfl,λr hr T1=>by rw[W'.mp hr];rfl,λ_=>rfl⟩
 have bL:=QL.fn.binds (g:=["self","ring"]) (uc (by intros;rfl))
 have XL:lG G θ CL NL fL cL _ stL "Loop.__init__" "self" ["ring"] [UE]:=⟨⟨_,QL.fn⟩,QL.cv,fq Xj,QL.cl,bL,λr hr=>by rw[W'.mp hr];exact P2,by decide +kernel,rfl,rfl,rfl,by decide,by decide,"LookError",B0,[("ring",_,_)],_,_,_,_,_,_,XB,rfl,rfl,rfl,rfl,λr hr T1=>by rw[W'.mp hr];rfl,λ_=>rfl⟩
 have bT:=QT.fn.binds (g:=["self","name","steps"]) (SS (by intros;rfl))
 have XT:lG G θ CT NT fT cT _ CZ "Tangled.__init__" "self" ["name","steps"] [UG,UH]:=⟨⟨_,QT.fn⟩,QT.cv,fq Xk,QT.cl,bT,λr hr=>by
   rcases Yo.mp hr with rfl|hr
   .exact T2
   .rw[W'.mp hr];exact W2,by decide +kernel,rfl,rfl,rfl,by decide,by decide,"LookError",B0,[("name",_,_),("steps",_,_)],_,_,_,_,_,_,XB,rfl,rfl,rfl,rfl,λr hr T1=>by
   rcases Yo.mp hr with rfl|hr
   .rfl
   .rw[W'.mp hr];rfl,λ_=>rfl⟩
 refine⟨Yy "law" "law" (bD (top 46)) (aT (top 46)) (ai (top 46)) .none S T U R t V,λi u=>.of_eq rfl,λbase _ _=>?_⟩
 have j:=Yq X c Y.ns;have l:=Y.cl;have V0:aV v x G θ base ({}:aO) 0:=aV.start (AL X c nb);have V1:=V0.lZ (x:="MOST_ELDERS") (d:=.int 5) (v:=.int 5) (Yq X c z4) ⟨_,rfl⟩ rfl;have V2:=V1.lZ (x:="MOST_KINDS") (d:=.int 12) (v:=.int 12) (Yq X c z3) ⟨_,rfl⟩ rfl;have V3:=V2.lZ (x:="MOST_LETTERS") (d:=.int 8) (v:=.int 8) (Yq X c z2) ⟨_,rfl⟩ rfl;have V4:=V3.lZ (x:="LETTERS") (d:=.str "abcdefghijklmnopqrstuvwxyz") (v:=.str "abcdefghijklmnopqrstuvwxyz") (Yq X c z1) ⟨_,rfl⟩ rfl;have V5:=V4.lZ (x:="DEEPEST") (d:=.int 8) (v:=.int 8) (Yq X c z0) ⟨_,rfl⟩ rfl;have V6:=V5.yT (f:="elders") (Cs:=["House"]) (plain1 j l r2);have V7:=V6.yT (f:="lines") (Cs:=["House"]) (plain1 j l t2);have Y0:aV v x G θ base SV 0:=V7;have Y1:aV v x G θ base SW 1:=(Y0.mono (Zg 0)).yS (x:="_law_cell") (Yq X c a0.ns) a0.fn.kp b0 (wQ (WS.ok Y0 (kD a0.fn))) (XZ _);have Y2:aV v x G θ base Wd 2:=(Y1.mono (Zg 1)).yS (x:="_law_mix") (Yq X c a1.ns) a1.fn.kp b1 (wQ (WU.ok Y1 (kD a1.fn))) (XZ _);have X0:aV v x G θ base U0 2:=Y2;have wA:=X0.ee (x:="own_copy") (Yq X c F) o w0 J_;have rA:=iH wA v0 SX (SY _);have wB:=(X0.mono (by decide:2<=3)).ee (x:="own_copy") (Yq X c F) o w0 rA
 have f3:=iH wB v0 SX (SY _);have wC:=(X0.mono (by decide:2<=4)).ee (x:="own_copy") (Yq X c F) o w0 f3
 have r0:bJ v x G θ base eL 6 I _ ["thing","depth"] (cN (cb θ) O0):=iH wC v0 SX (SY _)
 have g3:∀Ca,cb θ "Ring" Ca->Ca=CR:=λCa h=>by
  have e:=(show θ "Ring"=some (.ref Ca)from h).symm.trans (Yq X c QR.a)
  cases e;rfl
 have h3:∀Ca,cb θ "House" Ca->Ca=B4:=λCa h=>by
  have e:=(show θ "House"=some (.ref Ca)from h).symm.trans j
  cases e;rfl
 have X1:aV v x G θ base U2 3:=X0.dF X c x2 WW (xX (by intros;rfl))
 have X2:aV v x G θ base U3 4:=X1.dF X c y2 WX (uc (by intros;rfl))
 have X3:aV v x G θ base U4 5:=X2.dF X c A2 WY (xX (by intros;rfl))
 have r4:=rL X3 Z.fn (ο:=S_) WZ W_ (λX' GS k w h=>Cb GS.toGoodO k w h)
 have X4:aV v x G θ base U5 6:=X3.ee (Yq X c Z.ns) Z.fn.kp d3 r4;have i3:aV v x G θ base T5 6:=X4.toXt;have r5:bJ v x G θ base (jj v x) 9 _ _ Tb (gp (cb θ) O5):=mP i3 rfl (kD c0.fn) Xa Xc (λy0 A outer i H E hr G' k w h=>oq (ms:=Wn) XR hr (Yq X c QR.a) G' rfl (by simp) (Xl (r0.mono (by decide)) x0 (Yq X c F) o X4) k w h)
 have X6:aV v x G θ base U7 7:=X4.dF X c D2 Xd (uc (by intros;rfl))
 have X7:aV v x G θ base U8 8:=X6.dF X c E2 Xe (xX (by intros;rfl))
 have X8:aV v x G θ base U9 9:=X7.dF X c F2 Xf (xX (by intros;rfl))
 have X9:aV v x G θ base Tc 10:=X8.dF X c G2 Xg (uc (by intros;rfl))
 have W1:aV v x G θ base NN 10:=X9.toXt
 have j3:bJ v x G θ base (jj v x) 13 _ _ JR (gp (cb θ) Qn):=mP W1 rfl (kD y.fn) NO Te (λy0 A outer i H E hr G' k w h=>by
   rcases CV h with h|h
   .rcases CV h with h|h
    .exact oq (ms:=Wo) XL hr (Yq X c QL.a) G' rfl (by simp) (Xm (r0.mono (by decide)) x0 (Yq X c F) o X9) k w h
    .exact oq (ms:=Wq) XT hr (Yq X c QT.a) G' rfl (by simp) (Xn (r0.mono (by decide)) x0 (Yq X c F) o X9) k w h
   .exact zd (C:=CR) (h:=NR) (ψ:=fR) G' ⟨rfl,rfl,(fq NO).nd,Yq X c QR.a,K2,g3,QR.cl,QR.is⟩ I1 (r5.mono (by decide)) (Yq X c c0.ns) c0.fn.kp e3 k w h)
 have Z1:=Tf.ok X9 (kD m.fn);have l3:aV v x G θ base Wh 11:=X9.gW j l m.me f0 Z1;have m3:aV v x G θ base Tg 12:=l3.EL j ⟨Y.ma,m.me.at_,m.me.fn,Y.kc⟩ f0 Z1 (by decide)
 have n3:aV v x G θ base Ti 13:=m3.dM j l i1 Tj (xX (by intros;rfl))
 have o3:aV v x G θ base Tn 14:=n3.dM j l j1 To (uc (by intros;rfl))
 have b2:aV v x G θ base Tp 15:=o3.dM j l l1 Tq (uc (by intros;rfl))
 have c2:aV v x G θ base Ts 15:=b2.toXt;have e2:bJ v x G θ base (jj v x) 18 _ _ JU (gp (cb θ) JV):=mP c2 rfl (kD D.fn) NP Tv (λy0 A outer i H E hr G' k w h=>ze G' (fq NP).nd (j3.mono (by decide)) (Yq X c y.ns) y.fn.kp J1 sr k w h)
 have f2:aV v x G θ base Tt 18:=(b2.mono (by decide:15<=17)).gW j l D.me g0 (JP e2)
 have p3:=Tz.ok f2 Q1;have r3:aV v x G θ base Tw 19:=f2.Ma (p:=[.non]) j l ⟨x1,I2,e0⟩ R1 (.cons (show RelV .non ZI from rfl) .nil) (λ_ _ _=>.one (by simp only[ax])) p3
 have s3:aV v x G θ base TB 20:=r3.dM j l o1 TC (uc (by intros;rfl))
 have t3:aV v x G θ base TF 21:=s3.dM j l r1 TH (uc (by intros;rfl))
 have g2:aV v x G θ base TJ 22:=t3.dM j l t1 TK (uc (by intros;rfl))
 have h2:aV v x G θ base TM 22:=g2.toXt;have u3:bJ v x G θ base (jj v x) 25 _ _ JX (gp (cb θ) TL):=mP h2 rfl (kD J.fn) TN TR (λy0 A outer i H E hr G' k w h=>zg G' h3 l D.me (e2.mono (by decide)) g0 sr k w h)
 have v3:aV v x G θ base TU 23:=g2.dM j l w1 TV (xX (by intros;rfl))
 have w3:aV v x G θ base TY 24:=v3.dF X c L0 TZ (uc (by intros;rfl))
 have x3:aV v x G θ base T_ 25:=w3.dF X c M0 Ua (Wc (by intros;rfl))
 have y3:aV v x G θ base Ub 26:=x3.dF X c P0 Uc (xX (by intros;rfl))
 have A3:aV v x G θ base Ue 27:=y3.dF X c R0 Ug (uc (by intros;rfl))
 have B3:aV v x G θ base Ui 28:=A3.dF X c S0 Uj (xX (by intros;rfl))
 have C3:aV v x G θ base Uk 29:=B3.dF X c T0 Ul (xX (by intros;rfl))
 have i2:aV v x G θ base Wk 30:=C3.dF X c W0 Uo (uc (by intros;rfl))
 have D3:=CO i2 z.fn Uq j l J.me (u3.mono (by decide)) K1 (hbd:=rfl) rfl (Yq X c QL.a) (Yq X c QT.a) Q2 c3 b3 rfl rfl rfl rfl rfl (by decide)
 have j2:aV v x G θ base Qs 31:=i2.ee (Yq X c z.ns) z.fn.kp N1 D3;have E3:=rL j2 B.fn (ο:=J3) Us Uu (λX' GS k w h=>FO GS.toGoodO k w h)
 have F3:aV v x G θ base Ur 32:=j2.ee (Yq X c B.ns) B.fn.kp P1 E3;have G3:aV v x G θ base Uv 33:=F3.dF X c f1 Uw (SS (by intros;rfl))
 have H3:aV v x G θ base Uy 34:=G3.dF X c g1 Uz (Wc (by intros;rfl))
 exact rL H3 S1 (ο:=NV) UA UC (λX' GS k w h=>FV GS k w h)
variable{G9:Ū}{P8:X_->F'->Prop}{Q9:(Str->Option f')->F'->Prop}
theorem walk{l:aaw}{K:Ĭ->K'}(o:l.most=some 63)(m:G9.params.defaults=[])(p:∀w h,P8 w h->(K w.params).In h)(q:∀r,sJ (K r)=true)(F:∀w i j h,(K w.params).In h->h.Ns Yt i->i G9.name=some (.ref j) ->
   ∃k,(∀s u,Æ s k ⟨[u],[]⟩ [("_law_script",u)])/\∀base,(K w.params).In base->base.Ns Yt i->bJ l.prog w (K w.params) i base eL 35 j k ["_law_script"] (cN (cb i) Qu)):
  aax v g Q9 P8 l.row.toRowW G9 [] (λf n=>ū f n):=
 L2.DC (b:=63) (s:=35) (d:="_law_script") (CX:=λ_=>eL) (sp:=λw=>Mb Qu) o (by decide) m ⟨rfl,by decide,by decide⟩ p (λw i j h a b c=>let ⟨k,t,x⟩:=F w i j h a b c;⟨k,t,λbase G9 e=>(x base G9 e).imp λn H Q E z=>z (cb i)⟩) (λw H a y A _ B C=>EK (LH (q w.params) B) (CY y A).choose_spec) λ_ _ _ _ _ z=>z
end SU
def PySem.W.Fast.tw3501376859795011427:=PySem.Challenge.pw_taglook_k27_turned_at_once
theorem PySem.W.Fast.te3501376859795011427:PySem.Challenge.pw_taglook_k27_turned_at_once=PySem.W.Fast.tw3501376859795011427:=rfl
structure PySem.W.Fast:Prop where(tw15202557497899742741 tw16255565686729969530 tw11091943575838810234 tw10940737221375682905 tw17973132371044842691 tw2499250981859562713 tw3376204725438759235 tw18221285043188226594 tw4104964556713279531 tw6040182830454326576 tw8067387398506789000 tw3251556160654926323 tw13589494373626521182 tw7955906867872689738 tw12016954317256643369 tw4485508643595833318 tw11160740483388651969 tw121583207500735090 tw1628179092666041987 tw9377257133677703006 tw14298580487008881667 tw1739777680736344746 tw12681565475743515262 tw948449181068825693 tw9149941308088816943 tw14713823585484582719 tw2271554553461310770 tw7666726741041470319 tw14873875605026171436 tw17013293406397121154 tw6769467265100621485 tw7343678642602235982 tw13519351066335791169 tw743342214309488380 tw3946662995071074348 tw15772185624276967087 tw2605979259200356805 tw17249483258050355341 tw18016008694777627922 tw2016626772068651160 tw14822786965076634398 tw3401993797743837330 tw1800735366517411132 tw15633873871053097852 tw12457785915218583803 tw14376836696129937578 tw4337278957950122946 tw12204430265981912187 tw11427873853384695894 tw9249019601130546712 tw4495583300822693169 tw11404663785412402630 tw3627626076957351723 tw16461465835944212156 tw13439496675112753057 tw14912714719753534661 tw14387194015844274005 tw9125742150212964260 tw14143225123760248858 tw6630353724585131415 tw6878583309975259502 tw16017113763734868025 tw3776180410395148287 tw17700429973277680427 tw10400778140293786574 tw7771223538174574564 tw15525796238592157192 tw478650206838193229 tw11985111411552754764 tw17669629041104453671 tw5183663432272821047 tw4472683728590717217 tw7698189013147960090 tw10450880397145295111 tw4132748962120149508 tw6442951531398813343 tw17630032367842366048 tw1223647462532489062 tw11896532941747085146 tw15384079480744466518 tw16212920197250168221 tw6882712220459389424 tw12334695497010075287 tw16620989305542895738 tw10182047974649894687 tw8047605747520086737 tw2666890980228786693 tw15423883100685303442 tw11605458458081678373 tw5195426341218826134 tw14739615685902063385 tw5166860760117294742 tw14159831448497166806 tw8614716043842315911 tw1796724664765426737 tw720827512965479439 tw10095760811192337077 tw14818394505478757568 tw13436998260474013864 tw535191905564327559 tw3772629900479662170 tw3133263013693740993 tw5558451382715194520 tw16104977232009191940 tw6539929541658484850 tw10332383582621571395 tw10071521541736620838 tw10123678771877671775 tw4093375439165517877 tw10169699041210641025 tw6380614845995795889 tw2062934703105031894 tw14617014122770446428 tw3437147171606453817 tw5069173059476314725 tw15258596650026749473 tw13214546880596299209 tw2091632949330441382 tw2590424707481871858 tw9642801935761369129 tw8270926914416224674 tw17853354096190920503 tw5916649364174315702 tw270274946719284756 tw14508751462515951903 tw359504560308867698 tw15364547110503971706 tw1849243519190339464 tw10341251531430660773 tw3110524555203776089 tw596698446086649847 tw13244727500611967097 tw9281931921055020708 tw16597356906715731392 tw6118638908213203039 tw10827836376352254306 tw13838801172124653127 tw945051808905950852 tw11741052981065547073 tw12719340222843982950 tw12627594327493958338 tw1033255983268987311 tw7468078467208426002 tw6680542359336081884 tw8192846665420210433 tw12375356978373717383 tw12079595374727679535 tw18211423420274187878 tw5135874496985792706 tw8884723269706373930 tw1660419657060728330 tw5520896714619835679 tw4999279423663336451 tw5944552513568871875 tw13545988799566121807 tw7819762171936486619 tw17194707334292641046 tw11778781916158616234 tw3488306667952303866 tw8340492979161109881 tw6880911857317342424 tw8211028664078450208 tw9078742003272261243 tw1234778529199767464 tw16722467558560053757 tw8859761076837803954 tw4686477155276781909 tw4676148546655106368 tw4267116480018095692 tw9343217974966026128 tw1621023637177190459 tw251827990917630766 tw15171094192982868286 tw18022670027526510619 tw3962348851670375913 tw666826116865378168 tw1858789253528603235 tw1167418341321727390 tw15099705634877457869 tw11382084302556932915 tw10676100010741212215 tw8701231430446717420 tw11682364282623040964 tw17098795635481167591 tw11472793575198421284 tw8069685859959057435 tw6016999546476919681 tw14498607717458224519 tw14309363990630573282 tw13936657024910801872 tw13790689295381268004 tw6283050765438047195 tw957915866185742181 tw14663403590906670660 tw4375800693971239205 tw13590869378198577093 tw1298908367265673612 tw11860907598026011788 tw4522429197240497504 tw14708996760002880321 tw6213059902816450036 tw16039324057112265238 tw12077363910212450033 tw17822010745490645967 tw8725201042256440369 tw9056486834965762000 tw4188727023430314408 tw11356468344776914559 tw649372835645436440 tw15047562398471994436 tw14824767796243793990 tw3821846511561561387 tw5596008416735573119 tw9463686575907660263 tw14323436638620433917 tw348687829563733172 tw9158943096175888318 tw16501738894890655413 tw11123249735305072909 tw6618278294693426334 tw8680128004275624768 tw10526385574425490125 tw13129047200757165730 tw1510462806542450516 tw16408005312060364092 tw17441843643193339406 tw11080977248802994025 tw12694354171080155740 tw5473408709432570703 tw8509593137048228070 tw9048660460641029666 tw11167520602239434799 tw11310608097235006566 tw1958787020079510075 tw14198688459587498083 tw17469084676165248180 tw6781562391886311634 tw11448971883750180219 tw17681986329782730554 tw7769213558437078958 tw135890056583891443 tw13907263682659923116 tw3695189339179357723 tw13725504374218891542 tw11856293738449841690 tw186542190035336414 tw9086881499951507362 tw858103012360096819 tw3773199352856210526 tw1044930587462093382 tw9785061918182656531 tw12226167926038503416 tw6387851511258613592 tw9591505613216998727 tw170985342699545428 tw577024043437655797 tw14257709608956674226 tw9529471251730441919 tw8936654934658910258 tw14065160781349379761 tw8440703485392205975 tw1681544928002499261 tw3951227093817315332 tw7062122086094550306 tw14140764639956869712 tw15990976856368964334 tw8015903106473084225 tw13992409319258058192 tw15789176898480814929 tw14125664236045126352 tw15233289714891316497 tw545699435088912860 tw18318101544813262591 tw2473740865043717589 tw5133272587423174242 tw13188588274324589871 tw16587803008603158743 tw17927209817548929216 tw6701361628883806100 tw7678606963011435147 tw8120842994170305724 tw1255077420014116205 tw15143576159259397121 tw8921596877618280798 tw2424481308361954240 tw9599845902152849877 tw17434610825246767965 tw16771915778372736106 tw7684379727351477891 tw4723950852060071239 tw4074630921827701726 tw12551052762698854338 tw9251472711088353106 tw7229080252052908433 tw5104337173457555529 tw8615677028766440994 tw315451323741916753 tw13967479523912430917 tw11253232227788671924 tw16719920125599291665 tw363501247618612479 tw15625578740097512257 tw12440120855961047731 tw17338787017208202122 tw3537774005552815712 tw17321833503964522548 tw12274894601106279771 tw2198347355000161571 tw3986179306529599215 tw6065120195493393227 tw7485852887212385390 tw14039815569973781842 tw7990590157070028545 tw4925144537019965543 tw14380990222703369538 tw1208440257882445942 tw16964842638018785154 tw5434972992834465554 tw11494388848006531073 tw5611372299007282983 tw2897867621422299931 tw985863614808043513 tw3992427635240102769 tw17945872193599346236 tw13025212225115065059 tw18120393077546458348 tw8613235977559447142 tw2201937659431239926 tw7030956281112258880 tw11868736736258551846 tw5414914112554233572 tw10481726623087780359 tw6045809002715101648 tw7318074785484856583 tw6853849059445713848 tw16447102878039599017 tw10355175334385476906 tw3848218660099527886 tw13653093337040266235 tw6712423472675886480 tw2201711142242257976 tw17625314047662755009 tw3593624407057575831 tw14117438450295596807 tw2861245322736963719 tw17126688664850882454 tw12677510121065919697 tw17855367725150658144 tw18336204586337102620 tw9926050741691775752 tw264508168192334141 tw15722232631426211079 tw17720952102030910414 tw109829390973809855 tw2684524341891888552 tw15501426244609697585 tw14554438214808927524 tw12305981655757738843 tw12662793583865897071 tw14382561698307371062 tw12394157892721441179 tw16456948907107850727 tw8580201364102370162 tw1429149893917029897 tw15783867034975169755 tw7138057649589660304 tw7266016903599185661 tw6472805242385285070 tw10205523452259180935 tw5339907319163713728 tw14388999045407733438 tw10825694758985255909 tw4718446864933691054 tw64526180022954762 tw12812550166348591620 tw10255703966781120485 tw14187650456525838345 tw16974421356528192476 tw16911403450442170013 tw7745087335734262583 tw6561213301076852025 tw3382211219837813615 tw16717208911049051435 tw8237693450989688270 tw16261514575049216229 tw17665084133098169229 tw12855168481486865241 tw8018172814920719105 tw15791860577289089418 tw13920916901554110317 tw7764228166591852536 tw243957709431104193 tw5754923605673327566 tw18087410090956133850 tw13709211496488235460 tw18152732293660290706 tw1423160820277499443 tw9090729541814169927 tw15723359632465754512 tw6877780030519598183 tw11987502778640521582 tw2770216649432445929 tw3121662821954481063 tw14096281818076937551 tw1893417903310143479 tw2250088005128925037 tw13309278390204765218 tw12640557899840691729 tw530150688965141915 tw1114539559985188442 tw11197405708178138374 tw17632424450775213083 tw9499178731146911670 tw5725109930841113039 tw7742031913333257695 tw1431392687067341136 tw10168727360479591932 tw14701538339179933057 tw5367028873454009403 tw13228632746521415928 tw4501081735170184921 tw11554410514906739100 tw12602132135629372435 tw12042242481794721140 tw11073510544284814057 tw18366248658049785925 tw1570000860380671129 tw13498473865119560759 tw2147060275550578510 tw6040762743849489642 tw2145391014642577764 tw14054205032739865586 tw8567719793667757800 tw8081374295654369205 tw14061504254648526093 tw14147974790348060511 tw8452749075564651804 tw16581935404238029354 tw14014324221634591269 tw9976885065108581176 tw2988563671517747126 tw10091572136423329616 tw973793455723813552 tw11367356196220394182 tw675672723095400148 tw7328495599802823813 tw4383741405532406191 tw3743874513145924956:True)
open PySem PySem.W PyProof.Rows
set_option maxRecDepth 100000 in
set_option maxHeartbeats 0 in
theorem PySem.Challenge.cw_taglook_k27_turned_at_once_holds : PySem.Challenge.rw_taglook_k27_turned_at_once.Holds := by
 w_on;o_law;k_head;(case hw=>w_witness2)
 k_fill
 refine SU.walk (l:=PySem.Challenge.rw_taglook_k27_turned_at_once) rfl rfl (λw h Y=>PySem.W.kIn_of Y) ?hK ?F
 case hK=>intro pm;exact(Eq.refl true)
 case F=>
  intro w mg fa h KX G hmg;refine' SU.all_mk KX G hmg ?nb ?z0 ?z1 ?z2 ?z3 ?z4 ?a0 ?a1 ?Xo ?Xp ?Xq ?Xr ?Xs ?Xzt ?Xu ?Xv ?Xw ?Xx ?Xy ?Xz ?XA ?XC ?XD ?XE ?XF ?XG ?UI ?UJ ?UK ?UL ?UM ?UN ?UO ?UP ?UQ ?UR ?US ?UT ?UU ?UW ?UX ?UY ?UZ ?U_ ?Va ?Vb ?Vc ?Vd ?Ve ?Vf ?Vg ?Vh ?Vi ?Vj ?XH ?Vk ?Vl ?Vm ?Vn ?QR ?XI ?XJ ?QL ?XM ?XN ?QT ?XO ?XP ?XQ ?XS ?aB ?gB ?rB ?iB
  (case nb=>exact(Eq.refl true))
  (case Xo=>refine' ⟨?a,?b,?c,?d,?e,?f,?g⟩;(case a=>k_is);(case b=>k_is);(case c=>k_is);(case d=>k_is);(case e=>k_is);(case f=>k_is);(case g=>k_is))
  (case QR |QL |QT=>refine' Mir.JQ ?aC ?lC ?nC ?tC ?xa ?xb ?xc ?xd ?xe ?xf ?xg ?xh ?xi ?xj ?xk ?lI ?yI ?wI ?ja ?jb ?jc ?jd;(case aC=>k_is);(case lC=>k_is);(case nC=>k_is);(case tC=>exact(Eq.refl true));(case xa=>k_is);(case xb=>exact rfl);(case xc=>exact rfl);(case xd=>k_is);(case xe=>k_is);(case xf=>k_is);(case xg=>k_is);(case xh=>k_is);(case xi=>exact rfl);(case xj=>k_is);(case xk=>k_is);(case lI=>k_is);(case yI=>k_is);(case wI=>k_is);(case ja=>k_is);(case jb=>k_is);(case jc=>k_is);(case jd=>k_is))
  (case Xx |Xy |Xz |XD |XE |XF |XG |UJ |UK |UL |UM |UN |UO |UP |US |UT=>refine' ⟨_,_,Mir.tK ?a ?l ?c ?k⟩;(case a=>k_is);(case l=>k_is);(case c=>k_is);(case k=>k_is))
  (case a0 |a1 |XA |XC |UI |UQ |UR=>refine' Mir.tK ?a ?l ?c ?k;(case a=>k_is);(case l=>k_is);(case c=>k_is);(case k=>k_is))
  (case UW |UX |UY |U_ |Va |Vb |Vd=>refine' ⟨_,_,Mir.ua ?a ?l ?c ?k ?i⟩;(case a=>k_is);(case l=>k_is);(case c=>k_is);(case k=>k_is);(case i=>k_is))
  (case UU |UZ |Vc=>refine' Mir.ua ?a ?l ?c ?k ?i;(case a=>k_is);(case l=>k_is);(case c=>k_is);(case k=>k_is);(case i=>k_is))
  (case z0 |z1 |z2 |z3 |z4 |Xp |Xq |Xr |Xs |Xzt |Xu |Xv |Ve |Vf |Vg |Vh |Vi |XH |Vk |Vl |Vm |Vn |XI |XM |XO |XP |aB |gB |rB |iB=>k_is)
  (case Xw |Vj=>rfl)
  (case XJ |XN |XQ=>exact(Eq.refl (some true)))
  (case XS=>exact(Eq.refl (some false)))
