import PyProof.Rows.All
import Wide.All
import OpenK.AllK
import Wide.FinOn
import Lean
import PyProof.EqAt
import PyProof.EqKinds
import PyProof.TupleCall
import PySem.Challenge.RW_sheetlay_k88_whole_sides_cut_exactly
set_option Elab.async false
set_option linter.all false
set_option maxRecDepth 100000
set_option compiler.extract_closed false
open Option renaming some->ae,none->af
open PySem renaming wpAny_bind->Zu,wpAny_pure->aad,Shared->aah,Value->aai,wpAny->aat,starEach->aau,FuncData->aaC,Program->aaD,wpAny_newObj_type->aaH,model->aaL,wpAny_call_entry->aaO,wpAny_holding->aaP,wpAny_callSpecial?_slot->aaQ,Around->aa4,bootBuiltins->aa6,World->aa9,wpAny_seqItems->aba,DictEntry->abd,wpAny_truthy_bool->abf,Expr->abl,compareOp->abq,wpAny_mono->abu,wpAny_Call_Name_kw->abx,sysModules->abz,wpAny_field->abF,wpAny_loadPart'->ab0,wpAny_setField_rec->ab1,assignEach->ab5,plainId_quiet->ab8,codeAny_builtin->ach,wpAny_tupleItemsOf->acj,wpAny_isInstance->aco,wpAny_typeNameOfWhole_keyiter->acp,wpAny_typeNameOfWhole_valiter->acr,mainGlobals->acs,Paired->acw,backTo->acy,wpAny_tryCatch->acB,wpAny_rule->acD,wpAny_dictEntries->acE,wpAny_richCompare_same_room->acH,IsPair->acP,isSubtype_tuple_tuple->acW,behindInMarks->acY,wpAny_letGo->ac5,wpAny_typeNameOf_keyiter->ade,wpAny_typeNameOf_valiter->adf,wpAny_passesOwn->adh,letOwnedTupleGo->adi,wpAny_pyIter_list->adj,foldedSetIterable->adk,wpAny_updateSeq->adn,mem_of_lookup->adu,richCompare->adw,wpAny_forIn_list->adz,Builtin->adF,wpAny_nextOf_list_item->adH,wpAny_pyIter_tuple->adJ,eval->adL,tupleKeyHash->adM,wpAny_specialOf->adN,wpAny_notOrdered_dict->adP,wpAny_dictEpoch->adR,pyNext->adS,wpAny_setField->ad2,firstArgMember->ad3,NameKind->ad7,wpAny_attempt->aef,wpAny_standAt->aeh,swapsWithSole->aei,swappedStores->aej,binaryOp->aek,attributeBase->aen,rawInt->aev,codeAny->aeC,sliceBounds->aeE,wpAny_bindName->aeJ,wpAny_isOneOf_valiter->aeN,swapsWith->aeP,wpAny_nextOf_list_end->aeT,wpAny_eqBool_int->aeY,Keyword->aeZ,wpAny_updateSeq_pair->ae5,assignInOrder->ae8,bindName->ae9,entryOfKey->afd,holding->afi,wpAny_execs_nil->afj,keywordEach->afk,seqItems?->afp,wpAny_pyIter_revIter->afw,wpAny_typeOf->afx,wpAny_fieldsOf->afA,wpAny_pyIter_slot->afH,wpAny_comprehension_free->afP,wpAny_of_eq->afX,GenState->af0,wpAny_onRaise->af7,wpAny_pyIter_zip->agg,wpAny_pyNext_list_item->agl,wpAny_pyNext_range_end->agm,wpAny_pyIter_rangeiter->agn,wpAny_isOneOf_keyiter->agv,wpAny_isTrue_Compare1->agz,assign->agA,wpAny_pyNext_list_end->agB,getItem->agD,isInstance->agP,typeIs_int->agR,atKey->agU,isSubtype_stop->agY,Result->ag1,IntMulOk->ag2,dictSetDefault->ag3,unpackItems->ag7,IsRangeIter->ag8,sizeLine_eq->ag9,BindsTo->aha,subscripted->ahc,intBits_le_64->ahe,newTuple->ahm,wpAny_handled->ahn,tupleKind->ahp,wpAny_pyIter_range->ahq,IsPart->ahs,backToKw->ahv,call_function_tree->ahy,getattributeRaised->ahA,call_meets->ahH,callerA->ahI,codeAny_mono->ahQ,seqIndex_neg->ahR,call_meetsIn->ahU,HeapKind->ah8,setField->ah9,ZipApart->aib,eqIsQuiet->aic,wpAny_throw->aid,PassesOwn->aii,seqIndex_of->aij,updateSeq->aio,CmpOp->air,call->aix,storedH->aiC,pyIter->aiJ,newExc->aiK,Within->aiL,isTrue->aiM,field->aiO
open PySem.W renaming Frag->aaa,mg_none_of->aaY,kia_one->abD,fnOf->abH,keepIn->abX,kitOne->acA,codeIn->adD,methodObj->afJ,kdl_call->agf,cellsFrom_some->ago,instObj->agw,lookIn->ag0,callWith_K->ahr,kitx_list->ahF,kitx_dict->ahG,plainGet->ahX,OpenLaw->aik,KdlSrc->aiq,findIn->ais,WalkO->aiB,mg_of->aiG,nsIn->aiR
open PySem.Heap renaming get?_push_of_some->aab,get?_push_size->aal,lt_size->aan,get?_update_other->aaW,get?_update_self->abi,size_push->abn,SameBut->abo,ExtBut->aez
open List renaming getElem?_eq_getElem->aac,getElem?_eq_some_iff->aae,mem_of_getElem?->aaf,mem_cons->aaj,mem_singleton->aak,mem_cons_self->aao,mem_cons_of_mem->aap,getElem?_map->aaq,size_toArray->aar,length_map->aas,mem_map->aaE,pairwise_cons->aaG,mem_append->aaJ,getElem?_append_left->aaM,mem_map_of_mem->aaN,length_append->aaR,getElem?_of_mem->aaS,mem_append_right->aaT,length_cons->aaU,map_cons->aaV,map_map->aa2,find?_cons->aa3,append_nil->aa5,drop_eq_getElem_cons->abm,mem_range->abC,nodup_cons->abZ,getElem?_concat_length->ab2,replicate->ab7,mem_filter->ace,length_set->acf,length_nil->acg,nodup_append->acG,takeWhile_cons->acL,map_congr_left->acM,getElem?_set_self->acN,getElem?_append_right->acQ,lookup_cons->acT,any_cons->ac1,pairwise_iff_getElem->ac9,getElem?_set_ne->ada,range->adg,getElem?_set->adm,map_append->ado,getElem?_cons_zero->adv,mem_singleton_self->adx,not_mem_nil->adB,Nodup->adE,drop_eq_nil_of_le->adG,set_cons_zero->adK,getElem?_eq_none->adU,getElem?_inj->adY,mem_append_left->ad1,getElem?_eq_none_iff->ad5,zip_cons_cons->aee,mem_filterMap->aeg,of_mem_zip->aem,forIn_cons->aeo,getElem?_cons_succ->aeq,append_assoc->aeG,takeWhile_append_dropWhile->aeH,length_filter_le->aeW,eq_replicate_iff->aeX,length_drop->ae0,mem_reverse->ae4,dropLast_concat_getLast->afc,filterMap_cons->afh,getElem?_range->afn,length_reverse->afq,exists_cons_of_ne_nil->afu,map_nil->afy,getElem?_zip_eq_some->afE,forIn_nil->afF,take_add_one->afS,length_erase_of_mem->afV,set_comm->af1,length_eq_zero_iff->af4,pairwise_mergeSort->af8,filter_cons_of_pos->af9,filter_cons_of_neg->aga,length_take->agb,any_eq_true->agc,take_length->agi,take_of_length_le->ags,getD->agF,nil_append->agK,foldl_cons->agL,mergeSort_perm->ahh,dropWhile_cons->ahi,length_pos_iff->ahk,map_inj_right->ahz,set_cons_succ->ahC,any_eq_false->ahE,ext_getElem?->ahM,flatten_cons->ahO,length_range->ahP,cons_append->ahV,drop_length->ah1,getElem_mem->ah3,zipIdx_cons->ah4,zipIdx_nil->aip,nodup_nil->aiu,nil_perm->aiE,zip->aiW,map->aiY
open Option renaming bind_some->aag,map_eq_some_iff->aax,join_some->agk,map_some->agx,isSome_map->ahJ,getD_none->ahZ,getD_some->ah2
open Nat renaming le_refl->aam,lt_of_lt_of_le->aaB,ne_of_lt->aaF,lt_irrefl->aaZ,le_trans->aa7,lt_of_succ_lt->abh,zero_le->abk,lt_succ_self->acv,zero_add->acC,ne_of_gt->ac0,lt_or_eq_of_le->ac2,le_of_lt_succ->adp,le_of_lt->adt,lt_or_ge->aeb,le_of_ble_eq_true->aeS,le_of_not_lt->ae1,lt_succ_of_lt->afQ,le_add_right->agh,strongRecOn->agM,not_lt_zero->agO,mul_le_mul_right->agX,mul_le_mul->ag5,add_mul->ahj,add_assoc->ahl,min_le_right->ahY,lt_of_not_le->ah7
open Bool renaming false_eq_true->aav,false_ne_true->aaz,eq_iff_iff->aa1,and_eq_true->abe,not_true->abY,not_false->aeI,not_eq_true->agj,false_and->agZ,or_eq_true->ain,and_false->ait
open PySem.Value renaming ref->aaw,none->aby,int->aeO,bool->agQ,str->aho,builtin->aiz,isStrOf->aiA
open PySem.Builtin.SmallTypes renaming nextOf->aay,ownedTupleIsFree->abG,ownedTupleHandOut->ad6
open Int renaming gcd->aaA,le_of_lt->aa8,mul_pos->abc,le_of_eq->abj,zero_add->ab3,eq_of_mul_eq_mul_right->ab4,mul_eq_zero->aci,toNat_natCast->acF,mul_lt_mul_of_pos_right->acJ,ediv_eq_of_eq_mul_right->acK,mul_nonneg_of_nonpos_of_nonpos->acO,fdiv_eq_ediv_of_nonneg->acR,mul_pos_of_neg_of_neg->ac6,mul_neg_of_pos_of_neg->ac7,mul_fdiv_cancel'->adb,gcd_dvd_right->adW,lt_of_mul_lt_mul_right->ad0,gcd_dvd_left->ad8,ne_of_gt->aea,mul_nonpos_of_nonneg_of_nonpos->aec,mul_nonpos_of_nonpos_of_nonneg->aed,emod_nonneg->aes,emod_lt_of_pos->aet,not_lt->aeF,natAbs_dvd->aeK,natAbs_dvd_natAbs->aeQ,ne_of_lt->aeU,dvd_mul_left->ae2,gcd_sub_mul_right_right->afl,mul_ne_zero->afm,eq_of_mul_eq_mul_left->afC,mul_neg_of_neg_of_pos->afG,not_le->afO,fmod_nonneg_of_pos->agr,mul_zero->agJ,ediv_nonneg->agN,mul_nonneg->ag4,fmod_lt_of_pos->ahx,gcd_mul_right->ahK,dvd_mul_right->ahL,fmod_def->ahS,gcd_comm->ahT,gcd_mul_left->ah0,neg_dvd->ail,natCast_mul->aim,natAbs_mul->aiv
open Option.some renaming inj->aaI,injEq->aeB
open PySem.PassesOwn renaming never->aaK
open PySem.F renaming slot_dict_keyiterator_next->aaX,slot_dict_valueiterator_next->abw,args_dict_keyiterator_next_1->acd,slot_list_append->acm,type_list_append->acn,entry_dict_keyiterator_next->acq,slot_tuple_iterator_next->acS,plain_max_loop->acU,plain_min_loop->acV,slot_list_extend->adq,type_list_extend->ads,slot_list_getattribute->ad9,slot_zip_next->aep,args_dict_valueiterator_next_1->aeu,slot_tuple_hash->aey,entry_dict_valueiterator_next->aeA,args_tuple_iterator_next_1->afa,slot_tuple_eq->afe,entry_tuple_iterator_next->afo,args_tuple_add_2->afN,slot_dict_values->afR,slot_dict_values_iter->afY,entry_tuple_add->af2,plainAttrs_dict->af5,entry_max_loop->agd,entry_min_loop->age,slot_tuple_add->agp,slot_tuple_gt->agG,slot_tuple_lt->agH,args_list_extend_2->agT,args_object_init_3->agW,entry_list_extend->ahd,slot_list_extend->ahw,args_zip_next_1->ahN,slot_dict_iter->ahW,entry_zip_next->ah5,typeCall_zip_2->ah6
open PyProof.Rows renaming callWith_type1->aa0,slot_tuple_getitem->abg,assignInOrder_cons->acZ,IntsAre->ac4,assignInOrder_nil->afK,kindOf->afM,subscriptTail_builtinR->agq,AllBare->agy,envOfC->agC,entry_tuple_getitem->ahb,args_tuple_getitem->aht,subscriptTail->ahu,IsTup->aie
open Array renaming length_toList->abb,getElem?_eq_none->abA,getElem?_eq_getElem->ab6,forIn_toList->adI,getElem?_toList->agI,toList->aiN
open PySem.Around renaming under_plainId->abp
open PySem.PyData renaming eqv->abr,canLay0->abE,canLayAll0->adX,eqvAll->afb,depthAll->agE,depth->aiP,tuple->aiQ,list->aiV
open PySem.Heap.SameBut renaming update->abt
open PySem.NameKind renaming free->abv,cell->af3
open PySem.Builtin.Tuple renaming tupleHashOf->abB,tupleExact->adl,tupleItemsOf->adZ
open PySem.SeqAt renaming shaped->abI
open PySem.Builtin.Dict_items renaming ownsTuple->abW,newIterator->aeM,dictOf->afB
open PySem.Str renaming ofString->ab9
open PySem.Builtin.List renaming listTooLong->ack
open Ne renaming symm->acu
open PySem.Builtin.Range renaming rangeSize->acz,small->ahf
open PySem.Builtin.Builtins renaming bindParams->acI
open PySem.Obj renaming data_mapFields->acX,mapSeq->aeD,isFreed_of_fields->aeL,mapFields->ae7,cls_mapFields->afI,data_mapDictKeys->agV
open PySem.Builtin.Slice renaming slicePlaces->ac3,sliceAdjust->ad4,sliceApplied->aft
open Classical renaming byContradiction->ac8,propDecidable->ady,choose_spec->aeR,choose->ae3
open Or renaming inl->adA,inr->aex
open True renaming intro->adC
open List.cons renaming injEq->adO
open PySem.Builtin.Dict renaming showsAll->adQ,keyAndDefault->afv,dictSlotNone->afz,updateFrom->af6,pairItems->agu,noArgs->ag6
open ForInStep renaming yield->adT
open False renaming elim->adV
open PySem.Calls renaming spliced_cons->ael,callWith_builtin->aew,Name_function_global->afs,spliced_nil->afL,evalArgs_plain->agS
open Function renaming comp->aer
open Decidable renaming em->aeV
open List.Pairwise renaming filter->ae6,map->afT
open Sum renaming inl->afg,inr->ahD
open List.IsPrefix renaming trans->afr
open PySem.Builtin.Int renaming intBits->afD
open List.Nodup renaming mem_erase_iff->afU
open Prod.mk renaming injEq->afW
open PySem.Paired renaming length->afZ,snoc->aiU
open PySem.AutoSeq1 renaming sub_list_list->agt
open PySem.Shared renaming heap->ahg
open List.Perm renaming cons_inv->ahB,cons->aiw
open Prod renaming ext->aia,fst->aiZ
open PySem.Flow renaming next->aif
open PyProof.Rows.IsTup renaming new->aih
open PySem.Walks renaming list->aiy,listRev->aiF
open PySem.IntMulOk renaming of_right->aiD,of_bits->aiH,of_left->aiI
open Sum.inl renaming inj->aiS
open PySem.IsRange renaming new->aiT
open PySem.Heap.IsSliceOf renaming new->aiX
namespace PySem
open Sem (wp)
section
variable{prog:aaD}{w:aa9}{K:Type}[DecidableEq K](knd:KeyKind prog w K)
inductive jS(h:Heap):List (List K)->List aai->Prop
 |nil:jS h [] []
 |cons {ks:List K}{a:Addr}{bO:List (List K)}{vs:List aai}:IsTupleKey knd h ks a->jS h bO vs->jS h (ks::bO) (.ref a::vs)
def fG(h:Heap)(bO:List (List K))(a:Addr):Prop:=∃ob its m,h.get? a=ae ob/\ob.cls= .type "tuple"/\ob.data= .seq its m/\jS knd h bO its.toList
variable{knd}
variable{h:Heap}{x y:List (List K)}
theorem jS.inj{vs:List aai}(p:jS knd h x vs):jS knd h y vs->x=y:=by
 induction p generalizing y with
 |nil=>intro q;cases q;rfl
 |cons h1 _ ih=>
  intro q;cases q with
  |cons h2 t2=>rw[h1.inj h2,ih t2]
variable{bO:List (List K)}{a:Addr}
theorem fG.typeIs{s:aah}(x:fG knd s.heap bO a):s.TypeIs (.ref a) "tuple":=by
 obtain⟨ob,_,_,ho,hc,_⟩:=x;exact⟨ob,ho,hc⟩
theorem fG.inj(p:fG knd h x a)(q:fG knd h y a):x=y:=by
 obtain⟨o1,i1,n1,a1,_,b1,c1⟩:=p;obtain⟨o2,i2,n2,a2,_,b2,c2⟩:=q;rw[a1]at a2;cases a2;rw[b1]at b2;injection b2 with b2 _
 subst b2;exact c1.inj c2
theorem jS.keeps{h':Heap}{vs:List aai}{d:Addr}{ob:Obj}{es ep}(x:jS knd h bO vs)(ho:h.get? d=ae ob)(hd:ob.data= .dict es ep)(hs:abo d h h'):jS knd h' bO vs:=by
 induction x with
 |nil=>exact .nil
 |cons h1 _ ih=>exact .cons (h1.keeps ho hd hs) ih
theorem fG.keeps{h':Heap}{d:Addr}{ob:Obj}{es ep}(x:fG knd h bO a)(ho:h.get? d=ae ob)(hd:ob.data= .dict es ep)(hs:abo d h h'):fG knd h' bO a:=by
 obtain⟨o1,i1,n1,a1,c1,b1,r1⟩:=x;have ne:a≠d:=by
  intro e;rw[e,ho]at a1;cases a1;rw[hd]at b1;cases b1
 exact⟨o1,i1,n1,(hs.2 a ne).trans a1,c1,b1,r1.keeps ho hd hs⟩
def ES(knd:KeyKind prog w K)(bO:List (List K)):Int:=reduceHash (abB (bO.map (adM knd)))
def mq:List (List K)->Nat
 |[]=>0
 |ks::r=>(ks.length+1)+mq r
theorem zR:∀(x y:List (List K)),mq (x++y)=mq x+mq y
 |[],y=>by simp[mq]
 |a::x,y=>by simp only[ahV,mq,zR x y];omega
variable{A:aa4}{E:aai->aah->Prop}{s:aah}
theorem Jt{Q:Int->aah->Prop}(hu:A.units+4<cLine)(hk:fG knd s.heap bO a)(q:Q (ES knd bO) { s with toks:=s.toks+(mq bO+1) }):
  aat (aaL prog w) A (pyHash (.ref a)) Q E s:=by
 have ty:=hk.typeIs;obtain⟨ob,its,m,ho,_,hd,hi⟩:=hk;unfold pyHash
 first|unfold pyHashByItsType|skip
 first|refine Zu (wpAny_cRoomFor_or (.inr (by omega)) ?_)|skip
 refine Zu (adN ty aey.lookup ?_);show aat _ _ (if (ae (aiz "tuple.__hash__")==ae aby)=true then _ else _) Q E s;rw[if_neg (by rw[beq_builtin_none];exact aaz)];refine Zu (adN ty aey.lookup ?_);show aat _ _ (callSpecialIfBoundUnlessNone? (.ref a) "__hash__" _ >>= _) Q E s;refine Zu (wpAny_callSpecialIfBoundUnlessNone?_slot ty aey (aaO aey ty F.entry_tuple_hash ?_ (F.args_tuple_hash_1 _)));show aat _ _ (adZ (.ref a) >>= _) _ _ s;refine Zu (acj ho hd (Zu ?_));rw[<-adI];refine adz _ (λrest (b:Array Int) s'=>∃done left,bO=done++left/\jS knd s.heap left rest/\b.toList=done.map (adM knd)/\s'= { s with toks:=s.toks+mq done }) _ ?_ ?_ _ _ ⟨[],bO,rfl,hi,rfl,rfl⟩
 .rintro x rest b s' ⟨done,left,rfl,hl,hb,rfl⟩
  cases hl with
  |@cons ks c CJ _ h1 xF=>
   refine Zu (wpAny_pyHash_tuple (s:={ s with toks:=s.toks+mq done }) (by show A.units+1<cLine;omega) h1 ?_);have fin:∃dn lf,done++ks::CJ=dn++lf/\jS knd s.heap lf rest/\(b.push (adM knd ks)).toList=dn.map (adM knd)/\({ s with toks:=s.toks+mq done+(ks.length+1) }:aah)= { s with toks:=s.toks+mq dn }:=
    ⟨done++[ks],CJ,by simp,xF,by simp[hb],by rw[zR];simp[mq,ahl]⟩
   first
    |exact aad fin
    |exact Zu (aad (aad fin))
 .rintro b s' ⟨done,left,rfl,hl,hb,rfl⟩
  cases hl;rw[aa5]at q;show aat _ _ (retInt (abB b.toList)) _ _ _;rw[hb];refine wpAny_ret_mkInt ?_;show aat _ _ (if (decide (-(2:Int) ^ 63<=abB (done.map (adM knd)))&&decide (abB (done.map (adM knd))<2 ^ 63))=true then _ else _) Q E _;unfold ES reduceHash at q
  by_cases hr:(decide (-(2:Int) ^ 63<=abB (done.map (adM knd)))&&decide (abB (done.map (adM knd))<2 ^ 63))=true
  .rw[if_pos hr]at q |-
   exact aad (by simpa[ahl]using q)
  .rw[if_neg hr]at q |-
   exact Zu (acD (aad (by simpa[ahl]using q)))
theorem Ju{b:Addr}{P:Fin->aah->Prop}(hu:A.units+2<cLine)(hx:fG knd s.heap x a)(hy:fG knd s.heap y b)(q:P (.done (.ret (.bool (decide (x=y))))) s):
  aat (aaL prog w) A (adF.«tuple.__eq__» ⟨[.ref a,.ref b],[]⟩) P E s:=by
 have ty:=hy.typeIs;obtain⟨o1,xs,n1,Yg,_,Yh,Rq⟩:=hx;obtain⟨o2,ys,n2,HA,_,hd2,Ve⟩:=hy;show aat _ _ (agP (.ref b) (.type "tuple") >>= _) _ _ s;refine Zu (aco ty acW ?_);simp only[abY,aav,if_false];refine Zu (acj Yg Yh (Zu (acj HA hd2 (Zu ?_))));refine adz _ (λrest r s'=>r.1=af/\s'=s/\∃x' y' mr mw,rest=aiW mr mw/\jS knd s.heap x' mr/\jS knd s.heap y' mw/\decide (x'=y')=decide (x=y)/\(mr.length==mw.length)=(xs.size==ys.size)) _ ?_ ?_ _ _ ⟨rfl,rfl,x,y,xs.toList,ys.toList,rfl,Rq,Ve,rfl,by simp⟩
 .rintro⟨u,v⟩ rest r s' ⟨hr,rfl,x',y',mr,mw,hz,gq,jz,lC,hlen⟩
  cases gq with
  |nil=>simp at hz
  |@cons k1 c1 x2 Yi h1 Yj=>
   cases jz with
   |nil=>simp at hz
   |@cons k2 c2 y2 Yk h2 Yl=>
    simp only[aee,adO,afW]at hz;obtain⟨⟨rfl,rfl⟩,rfl⟩:=hz;refine Zu (wpAny_eqBool_tuple (x:=k1) (y:=k2) (by omega) h1 h2 ?_)
    by_cases hk:k1=k2
    .subst hk
     rw[decide_eq_true rfl];simp only[abY,aav,if_false];refine aad ⟨rfl,rfl,x2,y2,Yi,Yk,rfl,Yj,Yl,?_,by simpa using hlen⟩;rw[<-lC]
     by_cases ET:x2=y2
     .simp[ET]
     .simp[ET]
    .rw[decide_eq_false hk]
     simp only[aeI,if_true];have hf:decide (x=y)=false:=by rw[<-lC];simp[hk]
     rw[hf]at q;exact Zu (aad (aad (aad q)))
 .rintro⟨r1,r2⟩ s' ⟨hr,rfl,x',y',mr,mw,hz,gq,jz,lC,hlen⟩
  simp only at hr;subst hr;refine aad ?_;have fin:(xs.size==ys.size)=decide (x=y):=by
   rw[<-lC,<-hlen];cases gq with
   |nil=>
    cases jz with
    |nil=>simp
    |cons _ _=>simp
   |cons _ _=>
    cases jz with
    |nil=>simp
    |cons _ _=>simp at hz
  show P (.done (.ret (.bool (xs.size==ys.size)))) s';rw[fin];exact q
variable{Q:Bool->aah->Prop}
theorem Jv{b:Addr}(hu:A.units+4<cLine)(hx:fG knd s.heap x a)(hy:fG knd s.heap y b)(q:Q (decide (x=y)) s):
  aat (aaL prog w) A (eqBool (.ref a) (.ref b)) Q E s:=by
 unfold eqBool
 try with_reducible refine aaP ?_
 show aat _ _ (if (aaw a==aaw b)=true then _ else _) Q E s
 by_cases EU:(aaw a==aaw b)=true
 .rw[if_pos EU]
  have e:a=b:=by have:=eq_of_beq EU;injection this
  subst e;obtain rfl:=hx.inj hy;exact Zu (acD (aad (by simpa using q)))
 .rw[if_neg EU]
  exact Zu (acH (op:=.Eq) hx.typeIs hy.typeIs afe
   (aaO afe hx.typeIs F.entry_tuple_eq (Ju (by show A.units+1+2<cLine;omega) hx hy ⟨_,rfl,(λe=>nomatch e),abf q⟩) (F.args_tuple_eq_2 _ _)) (by omega))
theorem Nu{ks:List K}{n:Nat}(hk:IsTupleKey knd s.heap ks a)(q:Q true s):aat (aaL prog w) A (aic (n+1) (.ref a)) Q E s:=by
 have ty:=hk.typeIs;obtain⟨ob,its,m,ho,_,hd,hi⟩:=hk;unfold aic;refine Zu (adN ty afe.lookup ?_);show aat _ _ (agP (.ref a) (.type "tuple") >>= _) _ _ s;refine Zu (aco ty acW ?_);simp only[abY,aav,if_false];refine Zu (aba ho hd (Zu ?_));show aat _ _ (forIn its _ _) _ _ s;rw[<-adI];refine adz _ (λrest r s'=>r.1=af/\s'=s/\∀v∈rest,carriedByValue v=true) _ ?_ ?_ _ _ ⟨rfl,rfl,hi.byValue⟩
 .rintro v rest r s' ⟨hr,rfl,zS⟩
  rw[eqIsQuiet_byValue _ (zS v aao)];refine Zu (aad ?_);simp only[abY,aav,if_false];exact aad ⟨rfl,rfl,λu Ym=>zS u (aap _ Ym)⟩
 .rintro⟨r1,r2⟩ s' ⟨hr,rfl,_⟩
  simp only at hr;subst hr;exact aad q
theorem Nv(hk:fG knd s.heap bO a)(q:Q true s):aat (aaL prog w) A (aic 8 (.ref a)) Q E s:=by
 have ty:=hk.typeIs;obtain⟨ob,its,m,ho,_,hd,hi⟩:=hk;unfold aic;refine Zu (adN ty afe.lookup ?_);show aat _ _ (agP (.ref a) (.type "tuple") >>= _) _ _ s;refine Zu (aco ty acW ?_);simp only[abY,aav,if_false];refine Zu (aba ho hd (Zu ?_));show aat _ _ (forIn its _ _) _ _ s;rw[<-adI];refine adz _ (λrest r s'=>r.1=af/\s'=s/\∃CJ,jS knd s.heap CJ rest) _ ?_ ?_ _ _ ⟨rfl,rfl,bO,hi⟩
 .rintro v rest r s' ⟨hr,rfl,CJ,hl⟩
  cases hl with
  |@cons ks c Vf _ h1 xF=>
   refine Zu (Nu (n:=6) h1 ?_);simp only[abY,aav,if_false];exact aad ⟨rfl,rfl,Vf,xF⟩
 .rintro⟨r1,r2⟩ s' ⟨hr,rfl,_⟩
  simp only at hr;subst hr;exact aad q
end
def nG{prog:aaD}{w:aa9}{K:Type}[DecidableEq K](knd:KeyKind prog w K):ah8 prog w (List (List K)) where
 is:=fG knd
 hash:=ES knd
 draws:=λbO=>mq bO+1
 room:=λA=>A.units+4<cLine
 inj:=λhx hy=>hx.inj hy
 keeps:=λx ho hd hs=>x.keeps ho hd hs
 pyHash:=λhu hk h=>Jt hu hk h
 eqBool:=λhu hx hy h=>Jv hu hx hy h
 quiet:=λhk h=>Nv hk h
end PySem
namespace PySem
open Sem (wp)
def dg(h:Heap)(d:Addr)(es:Array abd)(ep:Nat):Prop:=∃ob,h.get? d=ae ob/\ob.ExactDict/\ob.data= .dict es ep
section
variable{prog:aaD}{w:aa9}{A:aa4}{E:aai->aah->Prop}{s:aah}
variable{d:Addr}{es:Array abd}{ep:Nat}
theorem dg.at{h h':Heap}(x:dg h d es ep)(k:∀o,h.get? d=ae o->h'.get? d=ae o):dg h' d es ep:=by
 obtain⟨ob,h1,h2⟩:=x;exact⟨ob,k _ h1,h2⟩
theorem dg.lt{h:Heap}(x:dg h d es ep):d<h.objs.size:=by
 obtain⟨ob,h1,_⟩:=x;exact aan h1
theorem dg.typeIs(x:dg s.heap d es ep):s.TypeIs (.ref d) "dict":=by
 obtain⟨ob,h1,h2,_⟩:=x;exact⟨ob,h1,h2.1⟩
theorem Jw{Q:aai->aah->Prop}(nd:(d==abz)=false)(m:dg s.heap d es ep)
  (q:Q (.ref s.heap.objs.size) { s with heap:=s.heap.push { cls:=.type "dict_keyiterator",data:=.fields #[.ref d,.int 0 0,.int es.size 0,.int ep 0] } }):
  aat (aaL prog w) A (aiJ (.ref d)) Q E s:=by
 have ty:=m.typeIs;obtain⟨ob,g1,g2,g3⟩:=m;refine afH ty ahW (aaO ahW ty F.entry_dict_iter ?_ (F.args_dict_iter_1 _));unfold adF.«dict.__iter__»;refine Zu (m:=afz _ _) ?_;unfold afz;refine Zu (adP ty ?_);show aat _ _ (pure (aaw d)) _ _ s;refine aad ?_;show aat _ _ (adQ d >>= _) _ _ s;unfold adQ;rw[if_neg (by rw[nd];exact aaz)];refine Zu (aad (Zu (acE g1 g3 (Zu (adR g1 g3 ?_)))));refine Zu (aaH (aad ⟨_,rfl,"dict_keyiterator",_,⟨_,aal _ rfl,rfl⟩,aaX.lookup,?_⟩));simpa[aev]using q
variable{it:Addr}{i:Nat}{e:abd}
theorem Vg{Q:aai->aah->Prop}(I:s.heap.IsKeyIter it d i es.size ep)(m:dg s.heap d es ep)(x:es[i]? =ae e)
  (q:∀h',h'.IsKeyIter it d (i+1) es.size ep->abo it s.heap h'->Q e.key { s with heap:=h' }):aat (aaL prog w) A (adF.«dict_keyiterator.__next__» ⟨[.ref it],[]⟩) (λfin s'=>∃v,fin= .done (.ret v)/\Q v s') E s:=by
 have ty:=I.typeIs;obtain⟨o1,a1,a2,a3⟩:=id I;obtain⟨o2,b1,b2,b3⟩:=m;refine Zu (aad (Zu (Zu ?_)))
 first|refine Zu (acp ty (aad ?_))|refine Zu (ade ty (aad ?_))
 refine Zu (afA a1 a3 ?_);have own:abW "dict_keyiterator" =false:=by decide
 simp only[own,aav,if_false];show aat _ _ (if (aaw d==aby)=true then _ else _) _ _ s;rw[if_neg (show ¬((aaw d==aby)=true)from aaz)];refine Zu (aad (Zu (acE b1 b3 ?_)));rw[if_neg (by simp)];refine Zu (aad (Zu (adR b1 b3 ?_)));rw[if_neg (by simp)];refine aad ?_;simp only[show ¬((i:Int)<0)from by omega,if_false,acF,x];refine Zu ?_
 first|refine Zu (acp ty (aad ?_))|refine Zu (ade ty (aad ?_))
 refine Zu (agv ty ?_);show aat _ _ (ah9 (.ref it) 1 (aev ((i:Int)+1)) >>= _) _ _ s;refine Zu (ad2 a1 a3 (by simp) ?_);have I':(s.heap.update it (ae7 (·.setIfInBounds 1 (aev ((i:Int)+1))))).IsKeyIter it d (i+1) es.size ep:=
  ⟨_,abi _ a1 (aeL (acX a3 _)),(afI ..).trans a2,by rw[acX a3];simp[aev]⟩
 refine Zu (aaP (Zu (agv (s:={ s with heap:=s.heap.update it (ae7 (·.setIfInBounds 1 (aev ((i:Int)+1)))) }) I'.typeIs ?_)));show aat _ _ (pure e.key) _ _ _;exact aad (aad ⟨_,rfl,q _ I' (abt ..)⟩)
theorem Vh{Q:Fin->aah->Prop}(hh:A.handled=af)(I:s.heap.IsKeyIter it d i es.size ep)(m:dg s.heap d es ep)(x:es.size<=i)
  (q:∀h' e,aez it s.heap h'->(∃o,h'.get? e=ae o/\o.cls= .type "StopIteration")->E (.ref e) { s with heap:=h' }):aat (aaL prog w) A (adF.«dict_keyiterator.__next__» ⟨[.ref it],[]⟩) Q E s:=by
 have ty:=I.typeIs;obtain⟨o1,a1,a2,a3⟩:=id I;obtain⟨o2,b1,b2,b3⟩:=m;refine Zu (aad (Zu (Zu ?_)))
 first|refine Zu (acp ty (aad ?_))|refine Zu (ade ty (aad ?_))
 refine Zu (afA a1 a3 ?_);have own:abW "dict_keyiterator" =false:=by decide
 simp only[own,aav,if_false];show aat _ _ (if (aaw d==aby)=true then _ else _) _ _ s;rw[if_neg (show ¬((aaw d==aby)=true)from aaz)];refine Zu (aad (Zu (acE b1 b3 ?_)));rw[if_neg (by simp)];refine Zu (aad (Zu (adR b1 b3 ?_)));rw[if_neg (by simp)];refine aad ?_;simp only[show ¬((i:Int)<0)from by omega,if_false,acF,abA x];refine Zu ?_
 first|refine Zu (acp ty (aad ?_))|refine Zu (ade ty (aad ?_))
 show aat _ _ (ah9 (.ref it) 0 .none >>= _) _ _ s;refine Zu (ad2 a1 a3 (by simp) ?_);show aat _ _ (aiK (.type "StopIteration") [] >>= _) _ _ _;refine Zu ?_;simp only[aiK,ahm];refine Zu (aaH (Zu (m:=ad3 _ _) (afX (a:=aby) (by first|rfl|(simp only[ad3];rfl)) (aaH ?_ (by size_fits)))) (by size_fits));simp only[raiseNew];refine Zu (ahn ?_);rw[hh];exact(Zu (aad (aid (q _ _ (((abt ..).extBut.push _).push _) ⟨_,aal _ rfl,rfl⟩))))
variable{Q:Option aai->aah->Prop}
theorem Rr(I:s.heap.IsKeyIter it d i es.size ep)(m:dg s.heap d es ep)(x:es[i]? =ae e)
  (q:∀h',h'.IsKeyIter it d (i+1) es.size ep->abo it s.heap h'->Q (ae e.key) { s with heap:=h' }):aat (aaL prog w) A (adS (.ref it)) Q E s:=by
 have ty:=I.typeIs;unfold adS;exact Zu (aef (aaQ (name:=ab9 "__next__") ty aaX (aaO aaX ty acq (Vg I m x λh' I' sb=>aad (q h' I' sb)) (acd _))))
theorem Rt(hh:A.handled=af)(I:s.heap.IsKeyIter it d i es.size ep)(m:dg s.heap d es ep)(x:es.size<=i)
  (q:∀h',aez it s.heap h'->Q af { s with heap:=h' }):aat (aaL prog w) A (adS (.ref it)) Q E s:=by
 have ty:=I.typeIs;unfold adS;refine Zu (aef (aaQ (name:=ab9 "__next__") ty aaX (aaO aaX ty acq (Vh (show A.in1.handled=af from hh) I m x λh' e eb he=>?_) (acd _))));obtain⟨o,ho,hc⟩:=he;exact Zu (aco (T:="StopIteration") (b:=true) ⟨o,ho,hc⟩ agY (aad (q _ eb)))
theorem Vi{Q:aai->aah->Prop}(I:s.heap.IsKeyIter it d i es.size ep)(m:dg s.heap d es ep)(x:es[i]? =ae e)
  (q:∀h',h'.IsKeyIter it d (i+1) es.size ep->abo it s.heap h'->Q e.key { s with heap:=h' }):aat (aaL prog w) A (aay (.ref it)) Q E s:=by
 have ty:=I.typeIs;unfold aay;exact Zu (aaQ (name:=ab9 "__next__") ty aaX (aaO aaX ty acq (Vg I m x λh' I' sb=>aad (q h' I' sb)) (acd _)))
theorem Yn{Q:aai->aah->Prop}(hh:A.handled=af)(I:s.heap.IsKeyIter it d i es.size ep)(m:dg s.heap d es ep)(x:es.size<=i)
  (q:∀h' e,aez it s.heap h'->(∃o,h'.get? e=ae o/\o.cls= .type "StopIteration")->E (.ref e) { s with heap:=h' }):aat (aaL prog w) A (aay (.ref it)) Q E s:=by
 have ty:=I.typeIs;unfold aay;exact Zu (aaQ (name:=ab9 "__next__") ty aaX (aaO aaX ty acq (Vh (show A.in1.handled=af from hh) I m x q) (acd _)))
theorem Nw(hh:A.handled=af)(I d:Addr)(fm:d≠I)(es:Array abd)(ep:Nat):
  Walks prog w A I [I,d] [I] es.size (λi v=>∃e,es[i]? =ae e/\v=e.key) (λi h=>h.IsKeyIter I d i es.size ep/\dg h d es ep) where
 sub:=λb hb=>by simp at hb;simp[hb]
 frame:=λ_ _ _ st hk=>⟨st.1.at λo e=>hk I (by simp) o e,st.2.at λo e=>hk d (by simp) o e⟩
 item:=λi s Q E hi st hQ=>by
  have x:es[i]? =ae es[i]:=ab6 hi;refine Rr st.1 st.2 x λh' I' sb=>?_
  exact hQ _ h' s.toks ⟨_,x,rfl⟩ ⟨I',st.2.at λo e=>(sb.2 d fm).trans e⟩ λb o hb e=>sb.extBut b o (λh=>hb (by simp[h])) e
 done:=λs Q E st hQ=>Rt hh st.1 st.2 (aam _) λh' Ru=>hQ h' s.toks λb o hb e=>Ru b o (λh=>hb (by simp[h])) e
 self:=λ_ _ _ _ st hQ=>wpAny_pyIter_keyiter st.1 hQ
theorem QD(nd:(d==abz)=false):aiq prog w "dict" d d es.size (λi v=>∃e,es[i]? =ae e/\v=e.key) (λh=>dg h d es ep) where
 type:=λ_ m=>m.typeIs
 there:=λ_ m=>⟨m.lt,m.lt⟩
 keep:=λ_ _ m hk=>m.at λo e=>hk d (.inl rfl) o e
 notList:=by decide
 notTuple:=by decide
 hint:=λ_ _ _ _ m hq=>PySem.W.kdl_hint_dict m.typeIs hq
 iter:=λ_ _ hh m=>⟨_,_,(λ_ _ hq=>Jw nd m hq),Nw hh _ d (aaF m.lt) es ep,⟨⟨_,aal _ rfl,rfl,rfl⟩,m.at λo e=>aab _ e⟩⟩
theorem Jx(d:Addr)(nd:(d==abz)=false):MeetsIn prog w (adF.«dict.values» ⟨[.ref d],[]⟩) (λ_ R s=>(∃es ep,dg s.heap d es ep)/\R (.ok (.ret (.ref s.heap.objs.size))) { s with heap:=s.heap.push { cls:=.type "dict_values",data:=.fields #[.ref d] } }):=
 .of_wp <| by
  rintro A R s ⟨⟨es,ep,m⟩,h⟩;refine Zu (m:=ag6 _ _) ?_;unfold ag6;refine Zu (adP m.typeIs ?_);show aat _ _ (pure d) _ _ s;refine aad ?_;show aat _ _ (adQ d >>= _) _ _ s;unfold adQ;rw[if_neg (by rw[nd];exact aaz)];exact Zu (aad (Zu (aaH (aad ⟨_,rfl,h⟩))))
theorem Rv{v:Addr}{Q:aai->aah->Prop}(V:s.heap.IsValuesView v d)(m:dg s.heap d es ep)
  (q:Q (.ref s.heap.objs.size) { s with heap:=s.heap.push { cls:=.type "dict_valueiterator",data:=.fields #[.ref d,.int 0 0,.int es.size 0,.int ep 0] } }):aat (aaL prog w) A (aiJ (.ref v)) Q E s:=by
 have ty:=V.typeIs;obtain⟨o1,a1,a2,a3⟩:=V;obtain⟨o2,b1,b2,b3⟩:=m;refine afH ty afY (aaO afY ty F.entry_dict_values_iter ?_ (F.args_dict_values_iter_1 _));unfold adF.«dict_values.__iter__»;refine Zu (aad (Zu (m:=afB _) ?_));unfold afB;refine Zu (abF a1 a3 (x:=.ref d) rfl (aad (Zu (m:=aeM _ _) ?_)));unfold aeM;refine Zu (acE b1 b3 (Zu (adR b1 b3 ?_)));have own:abW "dict_valueiterator" =false:=by decide
 simp only[own,aav,if_false];refine aaH (aad ⟨_,rfl,"dict_valueiterator",_,⟨_,aal _ rfl,rfl⟩,abw.lookup,?_⟩);simpa[aev]using q
theorem Rw(I:s.heap.IsValIter it d i es.size ep)(m:dg s.heap d es ep)(x:es[i]? =ae e)
  (q:∀h',h'.IsValIter it d (i+1) es.size ep->abo it s.heap h'->Q (ae e.val) { s with heap:=h' }):aat (aaL prog w) A (adS (.ref it)) Q E s:=by
 have ty:=I.typeIs;obtain⟨o1,a1,a2,a3⟩:=id I;obtain⟨o2,b1,b2,b3⟩:=m;unfold adS;refine Zu (aef (aaQ (name:=ab9 "__next__") ty abw (aaO abw ty aeA ?_ (aeu _))));refine Zu (aad (Zu (Zu ?_)))
 first|refine Zu (acr ty (aad ?_))|refine Zu (adf ty (aad ?_))
 refine Zu (afA a1 a3 ?_);have own:abW "dict_valueiterator" =false:=by decide
 simp only[own,aav,if_false];show aat _ _ (if (aaw d==aby)=true then _ else _) _ _ s;rw[if_neg (show ¬((aaw d==aby)=true)from aaz)];refine Zu (aad (Zu (acE b1 b3 ?_)));rw[if_neg (by simp)];refine Zu (aad (Zu (adR b1 b3 ?_)));rw[if_neg (by simp)];refine aad ?_;simp only[show ¬((i:Int)<0)from by omega,if_false,acF,x];refine Zu ?_
 first|refine Zu (acr ty (aad ?_))|refine Zu (adf ty (aad ?_))
 refine Zu (aeN ty ?_);show aat _ _ (ah9 (.ref it) 1 (aev ((i:Int)+1)) >>= _) _ _ s;refine Zu (ad2 a1 a3 (by simp) ?_);have I':(s.heap.update it (ae7 (·.setIfInBounds 1 (aev ((i:Int)+1))))).IsValIter it d (i+1) es.size ep:=
  ⟨_,abi _ a1 (aeL (acX a3 _)),(afI ..).trans a2,by rw[acX a3];simp[aev]⟩
 refine Zu (aaP (Zu (aeN (s:={ s with heap:=s.heap.update it (ae7 (·.setIfInBounds 1 (aev ((i:Int)+1)))) }) I'.typeIs ?_)));refine Zu (aeN (s:={ s with heap:=s.heap.update it (ae7 (·.setIfInBounds 1 (aev ((i:Int)+1)))) }) I'.typeIs ?_);show aat _ _ (pure e.val) _ _ _;exact aad (aad ⟨_,rfl,aad (q _ I' (abt ..))⟩)
theorem Rx(hh:A.handled=af)(I:s.heap.IsValIter it d i es.size ep)(m:dg s.heap d es ep)(x:es.size<=i)
  (q:∀h',aez it s.heap h'->Q af { s with heap:=h' }):aat (aaL prog w) A (adS (.ref it)) Q E s:=by
 have ty:=I.typeIs;obtain⟨o1,a1,a2,a3⟩:=id I;obtain⟨o2,b1,b2,b3⟩:=m;unfold adS;refine Zu (aef (aaQ (name:=ab9 "__next__") ty abw (aaO abw ty aeA ?_ (aeu _))));refine Zu (aad (Zu (Zu ?_)))
 first|refine Zu (acr ty (aad ?_))|refine Zu (adf ty (aad ?_))
 refine Zu (afA a1 a3 ?_);have own:abW "dict_valueiterator" =false:=by decide
 simp only[own,aav,if_false];show aat _ _ (if (aaw d==aby)=true then _ else _) _ _ s;rw[if_neg (show ¬((aaw d==aby)=true)from aaz)];refine Zu (aad (Zu (acE b1 b3 ?_)));rw[if_neg (by simp)];refine Zu (aad (Zu (adR b1 b3 ?_)));rw[if_neg (by simp)];refine aad ?_;simp only[show ¬((i:Int)<0)from by omega,if_false,acF,abA x];refine Zu ?_
 first|refine Zu (acr ty (aad ?_))|refine Zu (adf ty (aad ?_))
 show aat _ _ (ah9 (.ref it) 0 .none >>= _) _ _ s;refine Zu (ad2 a1 a3 (by simp) ?_);show aat _ _ (aiK (.type "StopIteration") [] >>= _) _ _ _;refine Zu ?_;simp only[aiK,ahm];refine Zu (aaH (Zu (m:=ad3 _ _) (afX (a:=aby) (by first|rfl|(simp only[ad3];rfl)) (aaH ?_ (by size_fits)))) (by size_fits));simp only[raiseNew];refine Zu (ahn ?_);rw[show A.in1.handled=af from hh];refine(Zu (aad (aid ?_)));refine(Zu (aco (T:="StopIteration") (b:=true) ⟨_,aal _ rfl,rfl⟩ agY ?_));exact aad (q _ (((abt ..).extBut.push _).push _))
theorem Ny(hh:A.handled=af)(I d:Addr)(fm:d≠I)(es:Array abd)(ep:Nat):
  Walks prog w A I [I,d] [I] es.size (λi v=>∃e,es[i]? =ae e/\v=e.val) (λi h=>h.IsValIter I d i es.size ep/\dg h d es ep) where
 sub:=λb hb=>by simp at hb;simp[hb]
 frame:=λ_ _ _ st hk=>⟨st.1.at λo e=>hk I (by simp) o e,st.2.at λo e=>hk d (by simp) o e⟩
 item:=λi s Q E hi st hQ=>by
  have x:es[i]? =ae es[i]:=ab6 hi;refine Rw st.1 st.2 x λh' I' sb=>?_
  exact hQ _ h' s.toks ⟨_,x,rfl⟩ ⟨I',st.2.at λo e=>(sb.2 d fm).trans e⟩ λb o hb e=>sb.extBut b o (λh=>hb (by simp[h])) e
 done:=λs Q E st hQ=>Rx hh st.1 st.2 (aam _) λh' Ru=>hQ h' s.toks λb o hb e=>Ru b o (λh=>hb (by simp[h])) e
 self:=λ_ _ _ _ st hQ=>wpAny_pyIter_valiter st.1 hQ
theorem Vj{v:Addr}:aiq prog w "dict_values" v d es.size (λi v=>∃e,es[i]? =ae e/\v=e.val) (λh=>h.IsValuesView v d/\dg h d es ep) where
 type:=λ_ m=>m.1.typeIs
 there:=λ_ m=>⟨by obtain⟨o,ho,_⟩:=m.1;exact aan ho,m.2.lt⟩
 keep:=λ_ _ m hk=>⟨by obtain⟨o,ho,x⟩:=m.1;exact⟨o,hk v (.inl rfl) o ho,x⟩,m.2.at λo e=>hk d (.inr rfl) o e⟩
 notList:=by decide
 notTuple:=by decide
 hint:=λ_ _ _ _ m hq=>PySem.W.kdl_hint_values m.1.typeIs hq
 iter:=λ_ _ hh m=>⟨_,_,(λ_ _ hq=>Rv m.1 m.2 hq),Ny hh _ d (aaF m.2.lt) es ep,⟨⟨_,aal _ rfl,rfl,rfl⟩,m.2.at λo e=>aab _ e⟩⟩
end
end PySem
namespace L2
open PySem PySem.Spec PyProof.Rows
abbrev Key:=Sum Int Str
def uR:Key->aai->Bool
 |.inl k,v=>Value.isInt k v
 |.inr x,v=>aiA x v
def Vk(w:aa9):Key->Int
 |.inl k=>hashInt k
 |.inr x=>hashStr w x
theorem dY:∀{k:Key}{v:aai},uR k v=true->(∃i t,k=afg i/\v=aeO i t)\/(∃x t,k=ahD x/\v=aho x t)
 |.inl i,v,h=>by
  obtain⟨t,e⟩:=Value.isInt_shape (k:=i) (v:=v) h;exact .inl ⟨i,t,rfl,e⟩
 |.inr x,v,h=>by
  obtain⟨t,e⟩:=Value.isStrOf_shape (x:=x) (v:=v) h;exact .inr ⟨x,t,rfl,e⟩
theorem EV(i:Int)(t:Tok):uR (.inl i) (.int i t)=true:=by simp[uR,Value.isInt]
theorem EW(x:Str)(t:Tok):uR (.inr x) (.str x t)=true:=by simp[uR,aiA]
theorem Nz(a b:Int):decide ((afg a:Key)=afg b)=(a==b):=by
 by_cases e:a=b
 .subst e;simp
 .have h:¬(afg a:Key)=afg b:=λq=>e (aiS q)
  rw[decide_eq_false h];exact(beq_eq_false_iff_ne.mpr e).symm
theorem NA(a b:Str):decide ((ahD a:Key)=ahD b)=decide (a=b):=by
 by_cases e:a=b
 .subst e;simp
 .have h:¬(ahD a:Key)=ahD b:=λq=>e (Sum.inr.inj q)
  rw[decide_eq_false h,decide_eq_false e]
theorem NB(a:Int)(b:Str):decide ((afg a:Key)=ahD b)=false:=decide_eq_false (λq=>nomatch q)
theorem NC(a:Str)(b:Int):decide ((ahD a:Key)=afg b)=false:=decide_eq_false (λq=>nomatch q)
def cy(prog:aaD)(w:aa9):PySem.KeyKind prog w Key where
 is:=uR
 hash:=Vk w
 inj:=λv a b ha hb=>by
  rcases dY ha with⟨i,t,rfl,rfl⟩|⟨x,t,rfl,rfl⟩
  .rcases dY hb with⟨j,u,rfl,e⟩|⟨y,u,rfl,e⟩
   .injection e with e1 _;rw[e1]
   .exact nomatch e
  .rcases dY hb with⟨j,u,rfl,e⟩|⟨y,u,rfl,e⟩
   .exact nomatch e
   .injection e with e1 _;rw[e1]
 byValue:=λk v h=>by
  rcases dY h with⟨i,t,rfl,rfl⟩|⟨x,t,rfl,rfl⟩<;>rfl
 pyHash:=λhv h=>by
  rcases dY hv with⟨i,t,rfl,rfl⟩|⟨x,t,rfl,rfl⟩
  .exact wpAny_pyHash_int h
  .exact wpAny_pyHash_str h
 eqBool:=λhu hv h=>by
  rcases dY hu with⟨i,t,rfl,rfl⟩|⟨x,t,rfl,rfl⟩
  .rcases dY hv with⟨j,u,rfl,rfl⟩|⟨y,u,rfl,rfl⟩
   .rw[Nz]at h;exact aeY h
   .rw[NB]at h;exact SeqAt.EqAt.int_str i t y u _ _ _ _ h
  .rcases dY hv with⟨j,u,rfl,rfl⟩|⟨y,u,rfl,rfl⟩
   .rw[NC]at h;exact SeqAt.EqAt.str_int x t j u _ _ _ _ h
   .rw[NA]at h;exact wpAny_eqBool_str h
 «strs»:=λk x t v h=>by
  rcases dY h with⟨i,u,rfl,e⟩|⟨y,u,rfl,e⟩
  .exact nomatch e
  .injection e with e1 _
   subst e1;cases v<;>rfl
theorem Bg(prog:aaD)(w:aa9)(i:Int)(t:Tok):(cy prog w).is (.inl i) (.int i t)=true:=EV i t
theorem Bh(prog:aaD)(w:aa9)(x:Str)(t:Tok):(cy prog w).is (.inr x) (.str x t)=true:=EW x t
end L2
namespace L2
open PySem PySem.Spec PyProof.Rows
inductive V where
 |aX|bl(b:Bool)|int(i:Int)|str(x:Str)|xG(b:Array UInt8)|HB(b:UInt64)|ref(a:Addr)|ty(n:String)
 deriving DecidableEq
def RelV:V->aai->Prop
 |.aX,u=>u=aby
 |.bl b,u=>u=agQ b
 |.int i,u=>∃t,u=aeO i t
 |.str x,u=>∃t,u=aho x t
 |.xG b,u=>∃t,u=Value.bytes b t
 |.HB b,u=>∃t,u=Value.float b t
 |.ref a,u=>u=aaw a
 |.ty n,u=>u=Value.type n
abbrev Vals:List V->List aai->Prop:=acw RelV
theorem Vals.length{xs:List V}{us:List aai}(r:Vals xs us):xs.length=us.length:=afZ r
theorem Vals.get:∀{xs:List V}{us:List aai}{i:Nat}{x:V},Vals xs us->xs[i]? =ae x->∃u,us[i]? =ae u/\RelV x u
 |_,_,_,_,.nil,e=>by simp at e
 |_,_,0,_,.cons r _,e=>by simp at e;subst e;exact⟨_,rfl,r⟩
 |_,_,i+1,x,.cons _ t,e=>by
  obtain⟨u,h1,h2⟩:=Vals.get (i:=i) (x:=x) t (by simpa using e);exact⟨u,by simpa using h1,h2⟩
theorem Vals.set{x:V}{u:aai}(r:RelV x u):∀{xs:List V}{us:List aai} (i:Nat),Vals xs us->Vals (xs.set i x) (us.set i u)
 |_,_,_,.nil=>.nil
 |_,_,0,.cons _ t=>.cons r t
 |_,_,i+1,.cons q t=>.cons q (Vals.set r i t)
theorem Vals.append:∀{xs ys:List V}{us ws:List aai},Vals xs us->Vals ys ws->Vals (xs++ys) (us++ws)
 |_,_,_,_,.nil,s=>s
 |_,_,_,_,.cons r t,s=>.cons r (Vals.append t s)
theorem Vals.take:∀{xs:List V}{us:List aai} (n:Nat),Vals xs us->Vals (xs.take n) (us.take n)
 |_,_,0,_=>.nil
 |_,_,_+1,.nil=>.nil
 |_,_,n+1,.cons r t=>.cons r (Vals.take n t)
theorem Vals.drop:∀{xs:List V}{us:List aai} (n:Nat),Vals xs us->Vals (xs.drop n) (us.drop n)
 |_,_,0,r=>r
 |_,_,_+1,.nil=>.nil
 |_,_,n+1,.cons _ t=>Vals.drop n t
def qP:Option V->Option aai->Prop
 |some v,ae u=>RelV v u
 |none,af=>True
 |_,_=>False
def KV{κ:Type}:List (κ×V)->List (κ×aai)->Prop:=acw λ(p:κ×V) (q:κ×aai)=>p.1=q.1/\RelV p.2 q.2
def kV:Key->V
 |.inl i=>.int i
 |.inr x=>.str x
inductive HO where
 |lst(xs:List V)
 |tup(xs:List V)
 |dK(aN:List (Key×V))|dT(aN:List (List Key×V))|dU(aN:List (List (List Key)×V))
 |set(S:Int->Bool)(n:Nat)
 |ins(C dx:Addr)(fs:List (Str×V))
 |own(x:Addr)
 |xd(fs:List (Str×V))
 |met(f x:Addr)
 |cN(lo hi:Int)
 |gr(o:Obj)(u:HO)
 |CK(ps:Array aai)
 |ext(φ:Heap->Prop)
abbrev Hp:=Addr->Option HO
def upd(H:Hp)(a:Addr)(o:HO):Hp:=λb=>if b=a then ae o else H b
variable{H:Hp}{a:Addr}{o:HO}
theorem dI:upd H a o a=ae o:=by unfold upd;rw[if_pos rfl]
variable{b:Addr}
theorem aV(h:b≠a):upd H a o b=H b:=by unfold upd;rw[if_neg h]
theorem Jy{u:HO}:upd (upd H a o) a u=upd H a u:=by
 funext b;unfold upd;split<;>rfl
theorem xH{u:HO}(h:H a=ae o)(h':H b=ae u)(d:o≠u):a≠b:=by
 intro e;subst e;rw[h]at h';exact d (aaI h')
theorem cO(h:H a=ae o)(h':H b=af):a≠b:=by
 intro e;subst e;rw[h]at h';cases h'
def jb(H:Hp)(bO:List (List Key))(b:Addr):Prop:=∃as:List Addr,H b=ae (.tup (as.map V.ref))/\acw (λ(ks:List Key) (a:Addr)=>H a=ae (.tup (ks.map kV))) bO as
section
variable(P:aaD)(w:aa9)
def b7(H:Hp)(h:Heap)(a:Addr):HO->Prop
 |.lst xs=>xs.length<=sizeLine/\∃(its:List aai) (n:Nat),Vals xs its/\h.get? a=ae { cls:=.type "list",data:=.seq its.toArray n }
 |.tup xs=>xs.length<=sizeLine/\∃its:List aai,Vals xs its/\aie h a its.toArray
 |.dK aN=>aN.length<=sizeLine/\(a==abz)=false/\∃vs,KV aN vs/\h.DictOf (cy P w) a vs
 |.dT aN=>aN.length<=sizeLine/\(a==abz)=false/\∃xs:List (List Key×Addr×aai),
   acw (λ(p:List Key×V) (q:List Key×Addr×aai)=>p.1=q.1/\H q.2.1=ae (.tup (p.1.map kV))/\RelV p.2 q.2.2) aN xs/\
   ∃o es ep,h.get? a=ae o/\o.ExactDict/\o.data= .dict es ep/\es.toList=xs.map (afd (ahp (cy P w)))/\(xs.map (·.1)).Nodup
 |.dU aN=>aN.length<=sizeLine/\(a==abz)=false/\∃xs:List (List (List Key)×Addr×aai),
   acw (λ(p:List (List Key)×V) (q:List (List Key)×Addr×aai)=>p.1=q.1/\jb H p.1 q.2.1/\RelV p.2 q.2.2) aN xs/\
   ∃o es ep,h.get? a=ae o/\o.ExactDict/\o.data= .dict es ep/\es.toList=xs.map (afd (nG (cy P w)))/\(xs.map (·.1)).Nodup
 |.set S n=>h.SetOf (intKind P w) a S n
 |.ins C dx fs=>H dx=ae (.own a)/\fs.length<=1000/\dx≠a/\h.get? a=ae (agw C dx)/\
   ∃mA,h.Ns1 dx mA/\(∀f,qP (fs.lookup f) (mA f))/\aiL mA (fs.map (·.1))
 |.own _=>∃o,h.get? a=ae o
 |.xd fs=>∃mA,h.Ns1 a mA/\∀f,qP (fs.lookup f) (mA f)
 |.cN lo hi=>∃t u v,h.get? a=ae { cls:=.type "range",data:=.fields #[.int lo t,.int hi u,.int 1 v] }
 |.gr o u=>h.get? a=ae o/\b7 H h a u
 |.CK ps=>h.get? a=ae { cls:=.none,data:=.fields ps }
 |.met f x=>h.get? a=ae (afJ (.ref f) (.ref x))
 |.ext φ=>φ h/\(∃o,h.get? a=ae o)/\∀h1 h2:Heap,φ h1->(∀o,h1.get? a=ae o->h2.get? a=ae o)->φ h2
def hG(H:Hp)(h:Heap):Prop:=∀a o,H a=ae o->b7 P w H h a o
end
section
variable{P:aaD}{w:aa9}{H H':Hp}{h h':Heap}{a:Addr}{o:HO}
theorem b7.lt(x:b7 P w H h a o):a<h.objs.size:=by
 cases o with
 |lst xs=>obtain⟨_,_,_,_,e⟩:=x;exact aan e
 |tup xs=>obtain⟨_,_,_,p⟩:=x;exact p.lt
 |dK aN=>obtain⟨_,_,_,_,o,_,_,e,_⟩:=x;exact aan e
 |dT aN=>obtain⟨_,_,_,_,o,_,_,e,_⟩:=x;exact aan e
 |dU aN=>obtain⟨_,_,_,_,o,_,_,e,_⟩:=x;exact aan e
 |set S n=>obtain⟨o,_,_,_,e,_⟩:=x;exact aan e
 |ins C dx fs=>obtain⟨_,_,_,e,_⟩:=x;exact aan e
 |own y=>obtain⟨_,e⟩:=x;exact aan e
 |xd fs=>obtain⟨_,⟨_,_,_,e,_⟩,_⟩:=x;exact aan e
 |cN lo hi=>obtain⟨_,_,_,e⟩:=x;exact aan e
 |gr ob u=>obtain⟨e,_⟩:=x;exact aan e
 |CK ps=>exact aan (show h.get? a=ae _ from x)
 |met f y=>exact aan (show h.get? a=ae _ from x)
 |ext φ=>obtain⟨_,⟨_,e⟩,_⟩:=x;exact aan e
theorem acw.vJ{α β:Type}{F G:α->β->Prop}:∀{vK:List α}{vL:List β},acw F vK vL->(∀a b,F a b->G a b)->acw G vK vL
 |_,_,.nil,_=>.nil
 |_,_,.cons r t,f=>.cons (f _ _ r) (acw.vJ t f)
theorem jb.more{H H':Hp}{bO:List (List Key)}{b:Addr}(x:jb H bO b)(ht:∀b xs,H b=ae (.tup xs)->H' b=ae (.tup xs)):jb H' bO b:=by
 obtain⟨as,h1,h2⟩:=x;exact⟨as,ht _ _ h1,acw.vJ h2 λ_ _ z=>ht _ _ z⟩
theorem b7.vM(x:b7 P w H h a o)(k:∀b u,(b=a\/H b=ae (.own a))->h.get? b=ae u->h'.get? b=ae u)
  (ho:∀b,H b=ae (.own a)->H' b=ae (.own a))(ht:∀b xs,H b=ae (.tup xs)->H' b=ae (.tup xs)):b7 P w H' h' a o:=by
 induction o with
 |lst xs=>obtain⟨z,its,n,r,e⟩:=x;exact⟨z,its,n,r,k _ _ (.inl rfl) e⟩
 |tup xs=>obtain⟨z,its,r,ob,e,c⟩:=x;exact⟨z,its,r,ob,k _ _ (.inl rfl) e,c⟩
 |dK aN=>obtain⟨z,y,vs,r,ob,es,ep,e,c⟩:=x;exact⟨z,y,vs,r,ob,es,ep,k _ _ (.inl rfl) e,c⟩
 |dT aN=>
  obtain⟨z,y,xs,r,ob,es,ep,e,c⟩:=x;exact⟨z,y,xs,acw.vJ r λp q z=>⟨z.1,ht _ _ z.2.1,z.2.2⟩,ob,es,ep,k _ _ (.inl rfl) e,c⟩
 |dU aN=>
  obtain⟨z,y,xs,r,ob,es,ep,e,c⟩:=x;exact⟨z,y,xs,acw.vJ r λp q z=>⟨z.1,z.2.1.more ht,z.2.2⟩,ob,es,ep,k _ _ (.inl rfl) e,c⟩
 |set S n=>obtain⟨ob,es,ep,t,e,c⟩:=x;exact⟨ob,es,ep,t,k _ _ (.inl rfl) e,c⟩
 |ins C dx fs=>
  obtain⟨d,z,ne,e,mA,⟨od,es,ep,e2,c⟩,r⟩:=x;exact⟨ho _ d,z,ne,k _ _ (.inl rfl) e,mA,⟨od,es,ep,k _ _ (.inr d) e2,c⟩,r⟩
 |own y=>obtain⟨ob,e⟩:=x;exact⟨ob,k _ _ (.inl rfl) e⟩
 |xd fs=>obtain⟨mA,⟨od,es,ep,e,c⟩,r⟩:=x;exact⟨mA,⟨od,es,ep,k _ _ (.inl rfl) e,c⟩,r⟩
 |cN lo hi=>obtain⟨t,u,v,e⟩:=x;exact⟨t,u,v,k _ _ (.inl rfl) e⟩
 |gr ob u ih=>obtain⟨e,q⟩:=x;exact⟨k _ _ (.inl rfl) e,ih q⟩
 |CK ps=>
  have e:h.get? a=ae { cls:=.none,data:=.fields ps }:=x;show h'.get? a=ae { cls:=.none,data:=.fields ps };exact k a _ (.inl rfl) e
 |met f y=>
  have e:h.get? a=ae (afJ (.ref f) (.ref y)):=x;show h'.get? a=ae (afJ (.ref f) (.ref y));exact k a _ (.inl rfl) e
 |ext φ=>obtain⟨p,⟨o,e⟩,st⟩:=x;exact⟨st _ _ p λo q=>k _ _ (.inl rfl) q,⟨o,k _ _ (.inl rfl) e⟩,st⟩
theorem hG.lt(x:hG P w H h)(e:H a=ae o):a<h.objs.size:=(x a o e).lt
theorem hG.fresh(x:hG P w H h)(e:h.objs.size<=a):H a=af:=by
 cases q:H a with
 |none=>rfl
 |some u=>exact absurd (aaB (x.lt q) e) (aaZ _)
theorem hG.kept(x:hG P w H h)(k:∀b u,h.get? b=ae u->h'.get? b=ae u):hG P w H h':=λa o e=>
 (x a o e).vM (λb u _ q=>k b u q) (λ_ q=>q) λ_ _ q=>q
theorem hG.laid(x:hG P w H h)(k:∀b u,h.get? b=ae u->h'.get? b=ae u)(hp:h.objs.size<=a)(new:b7 P w (upd H a o) h' a o):hG P w (upd H a o) h':=λb u e=>by
 have hn:=x.fresh hp
 by_cases hb:b=a
 .subst hb;rw[dI]at e;cases e;exact new
 .rw[aV hb]at e
  exact(x b u e).vM (λc v _ q=>k c v q) (λc q=>by rw[aV (cO q hn)];exact q) λc xs q=>by rw[aV (cO q hn)];exact q
end
def Rd(H:Hp)(a:Addr)(u:HO):Prop:=H a=ae u\/∃o,H a=ae (.gr o u)
variable{h:Heap}
theorem Rd.ok{P:aaD}{w:aa9}{u:HO}(r:Rd H a u)(x:hG P w H h):b7 P w H h a u:=by
 rcases r with r|⟨o,r⟩
 .exact x a u r
 .obtain⟨_,q⟩:=x a _ r
  exact q
def Jz:Option HO->Prop
 |some (.lst _)=>True
 |some (.dK _)=>True
 |some (.dT _)=>True
 |some (.dU _)=>True
 |some (.set _ _)=>True
 |some (.ins _ _ _)=>True
 |some (.ext _)=>True
 |_=>False
section
variable{P:aaD}{w:aa9}{H:Hp}{h h':Heap}{x e:Addr}{o':HO}
theorem hG.write(ok:hG P w H h)(mu:Jz (H x))(he:e=x\/H e=ae (.own x))(k:∀b u,b≠e->h.get? b=ae u->h'.get? b=ae u)(HC:∃u,h'.get? e=ae u)
  (new:b7 P w (upd H x o') h' x o'):hG P w (upd H x o') h':=λb u q=>by
 have QF:∀c y,H c=ae (.own y)->c≠x:=λc y r z=>by subst z;rw[r]at mu;exact mu
 have Vl:∀c xs,H c=ae (.tup xs)->c≠x:=λc xs r z=>by subst z;rw[r]at mu;exact mu
 by_cases hb:b=x
 .subst hb;rw[dI]at q;cases q;exact new
 .rw[aV hb]at q
  by_cases EX:b=e
  .have q':H b=ae (.own x):=by
    rcases he with z|z
    .exact absurd (EX.trans z) hb
    .rw[EX];exact z
   rw[q]at q';cases q';obtain⟨v,hv⟩:=HC;exact⟨v,by rw[EX];exact hv⟩
  .refine(ok b u q).vM (λc v hc r=>k c v ?_ r) (λc r=>by rw[aV (QF c b r)];exact r) λc xs r=>by rw[aV (Vl c xs r)];exact r
   rcases hc with rfl|hc
   .exact EX
   .rintro rfl
    rcases he with z|z
    .exact QF c b hc z
    .rw[hc]at z;cases z;exact hb rfl
end
structure Un(fs ex:List Addr)(H H':Hp)(h h':Heap):Prop where
 keep:∀b o,h.get? b=ae o->H b=af->b∉fs->b∉ex->h'.get? b=ae o
 slot:∀b o,h.get? b=ae o->H b=af->b∈fs->b∉ex->∃sl,h'.get? b=ae { o with slots:=sl }
 free:∀b o,h.get? b=ae o->H b=af->b∉ex->H' b=af
 there:∀b o,h.get? b=ae o->b∉ex->∃o',h'.get? b=ae o'
 vN:∀b xs,H b=ae (.tup xs)->H' b=ae (.tup xs)
 sW:∀b o u,H b=ae (.gr o u)->H' b=ae (.gr o u)
 vO:∀b ps,H b=ae (.CK ps)->∃more,H' b=ae (.CK (ps++more))
section
variable{fs Yo ex ex':List Addr}{H H1 H2:Hp}{h h1 h2 h':Heap}{a x e:Addr}{o:HO}
theorem Un.any(u:Un fs ex H H1 h h1){b:Addr}{ob:Obj}(q:h.get? b=ae ob)(n:H b=af)(hx:b∉ex):∃sl,h1.get? b=ae { ob with slots:=sl }:=by
 by_cases hb:b∈fs
 .exact u.slot b ob q n hb hx
 .exact⟨ob.slots,u.keep b ob q n hb hx⟩
theorem Un.kept(k:∀b u,h.get? b=ae u->h'.get? b=ae u):Un fs ex H H h h':=
 ⟨λb ob q _ _ _=>k b ob q,λb ob q _ _ _=>⟨ob.slots,k b ob q⟩,λ_ _ _ n _=>n,λb ob q _=>⟨ob,k b ob q⟩,λ_ _ q=>q,λ_ _ _ q=>q,λ_ ps q=>⟨#[],by rw[q];simp⟩⟩
theorem Un.refl:Un fs ex H H h h:=Un.kept λ_ _ q=>q
theorem Un.laid(k:∀b u,h.get? b=ae u->h'.get? b=ae u)(hp:h.objs.size<=a)(hn:H a=af):Un fs ex H (upd H a o) h h' where
 keep:=λb u q _ _ _=>k b u q
 slot:=λb u q _ _ _=>⟨u.slots,k b u q⟩
 free:=λb u q n _=>by rw[aV (aaF (aaB (aan q) hp))];exact n
 there:=λb u q _=>⟨u,k b u q⟩
 vN:=λb xs q=>by rw[aV (cO q hn)];exact q
 sW:=λb u xs q=>by rw[aV (cO q hn)];exact q
 vO:=λb ps q=>⟨#[],by rw[aV (cO q hn),q];simp⟩
theorem Un.write(mu:Jz (H x))(he:e=x\/H e=ae (.own x))(k:∀b u,b≠e->h.get? b=ae u->h'.get? b=ae u)(HC:∃u,h'.get? e=ae u):Un fs ex H (upd H x o) h h':=by
 have hx:∀b,H b=af->b≠x:=λb n z=>by subst z;rw[n]at mu;exact mu
 have hb:∀b,H b=af->b≠e:=λb n z=>by
  subst z;rcases he with r|r
  .exact hx b n r
  .rw[n]at r;cases r
 have hm:∀b u,H b=ae u->¬Jz (ae u)->b≠x:=λb u q nm z=>by subst z;rw[q]at mu;exact nm mu
 refine⟨λb u q n _ _=>k b u (hb b n) q,λb u q n _ _=>⟨u.slots,k b u (hb b n) q⟩,λb u q n _=>by rw[aV (hx b n)];exact n,λb u q _=>?_,
  λb xs q=>by rw[aV (hm b _ q λz=>z)];exact q,λb u xs q=>by rw[aV (hm b _ q λz=>z)];exact q,λb ps q=>⟨#[],by rw[aV (hm b _ q λz=>z),q];simp⟩⟩
 by_cases EX:b=e
 .subst EX;exact HC
 .exact⟨u,k b u EX q⟩
end
def ND(h:Heap)(H:Hp):List Addr:=(adg h.objs.size).filter λa=>(H a).isSome
def sX(h:Heap)(H:Hp):Heap:=PySem.W.hideAll h (ND h H)
theorem EY(h:Heap)(H:Hp):(sX h H).objs.size=h.objs.size:=PySem.W.hideAll_size _ _
theorem HD{o:Obj}(e:h.get? b=ae o)(n:H b=af):(sX h H).get? b=ae o:=
 PySem.W.hideAll_get _ e λhm=>by
  have q:(H b).isSome=true:=(ace.mp hm).2;rw[n]at q;simp at q
theorem JA{o:Obj}(e:(sX h H).get? b=ae o):h.get? b=ae o/\H b=af:=by
 have e':h.get? b=ae o:=PySem.W.of_hideAll (ND h H) e;refine⟨e',?_⟩;cases q:H b with
 |none=>rfl
 |some x=>
  have hm:b∈ND h H:=ace.mpr ⟨abC.mpr (aan e'),by simp[q]⟩;have z:(sX h H).get? b=af:=PySem.W.hideAll_none (ND h H) hm;rw[z]at e;cases e
def oM(g h:Heap)(L:Addr):List (Addr×Obj):=(adg h.objs.size).filterMap λa=>if a=L\/(g.get? a).isSome=true then af else(h.get? a).map λo=>(a,o)
theorem sY{g:Heap}{L:Addr}{o:Obj}(h1:a≠L)(h2:g.get? a=af)(h3:h.get? a=ae o):(a,o)∈oM g h L:=
 aeg.mpr ⟨a,abC.mpr (aan h3),by simp[h1,h2,h3]⟩
theorem wL{g:Heap}{L:Addr}{p:Addr×Obj}(hp:p∈oM g h L):p.1≠L/\g.get? p.1=af/\h.get? p.1=ae p.2:=by
 obtain⟨b,_,e⟩:=aeg.mp hp;split at e
 .cases e
 .rename_i hn
  cases q:h.get? b with
  |none=>rw[q]at e;simp at e
  |some u=>
   rw[q]at e;simp only[agx,aeB]at e;subst e;refine⟨λz=>hn (.inl z),?_,q⟩;show g.get? b=af;cases r:g.get? b with
   |none=>rfl
   |some v=>exact(hn (.inr (by simp[r]))).elim
theorem HE{g:Heap}{L:Addr}:News g L h (oM g h L):=λp hp=>let ⟨a,b,c⟩:=wL hp;⟨c,a,b⟩
end L2
namespace L2
open PySem PySem.Spec PyProof.Rows
structure Mod(K:aaa)(mg:Str->Option aai)(base:Heap):Prop where
 HF:K.In base
 glob:base.Ns acs mg
 blt:∃mb,base.Ns builtinsNs mb/\∀x:Str,x≠"__name__"->mb x=aa6 x
 nolimit:base.NoLimit
structure Cx where
 prog:aaD
 w:aa9
 K:aaa
 mg:Str->Option aai
 base:Heap
 A:aa4
 N:List Str
 bJ:aah
 dk:Hp
 env:Env
 outer:List Env
 stack:List Env
 ex:List Addr
 fn:Str->Bool
 calm:Bool
 pn:List (Addr×Obj)
 xe:aai->aah->Prop
def xI(l:List Env):List Addr:=l.filterMap (·.frame)
abbrev Cx.fs(X:Cx):List Addr:=xI X.outer
def EZ(sc:Scope)(x:Str):Prop:=sc.names.lookup x=ae .local\/sc.names.lookup x=ae .cell\/sc.names.lookup x=ae .free
def Loc(sc:Scope)(x:Str):Prop:=sc.names.lookup x=ae .local\/sc.names.lookup x=ae .cell
def Look(env:Env)(h:Heap)(m:Str->Option aai)(x:Str)(u:aai):Prop:=
 (env.kindOf x=ae .local/\m x=ae u)\/((env.kindOf x=ae .cell\/env.kindOf x=ae .free)/\∃c,env.cells.lookup x=ae c/\h.IsCell c (ae u))
structure Cx.Ok(X:Cx):Prop where
 mod:Mod X.K X.mg X.base
 kind:X.env.scope.kind= .function
 glob:X.env.globals=acs
 blt:X.env.builtins=builtinsNs
 above:X.bJ.heap.objs.size<=X.env.locals
 inj:∀x y c,X.env.cells.lookup x=ae c->X.env.cells.lookup y=ae c->x=y
 has:∀x,(X.env.kindOf x=ae .cell\/X.env.kindOf x=ae .free)->∃c,X.env.cells.lookup x=ae c
 JB:∀x c,X.fn x=true->X.env.cells.lookup x=ae c->X.bJ.heap.objs.size<=c
 hd:X.calm=true->X.A.handled=af
 frames:X.A.frames=ae X.stack
 NF:X.stack=X.outer\/(X.stack=X.env::X.outer/\X.env.frame=ae X.env.locals)
 NG:∀b∈X.ex,b≠X.env.locals/\∀x c,X.env.cells.lookup x=ae c->c≠b
 bs:∀b o,X.base.get? b=ae o->X.bJ.heap.get? b=ae o/\X.dk b=af
 Bi:X.base.objs.size<=X.bJ.heap.objs.size
 CL:∀b o,X.base.get? b=ae o->b∉X.ex
 CM:∀b∈X.ex,b∉X.fs
 oN:X.bJ.heap.FunFrames X.base X.outer
 HG:∀b∈X.fs,X.dk b=af
structure Inv(X:Cx)(pins:List (Addr×Obj))(σ:List (Option V))(H:Hp)(s:aah):Prop where
 ok:X.Ok
 os:s.os=X.bJ.os
 bare:agy s.gens
 base:Un X.fs X.ex X.dk H X.bJ.heap s.heap
 loc:∃m,s.heap.Ns X.env.locals m/\∀(i:Nat) (x:Str) (v:V),X.N[i]? =ae x->σ[i]? =ae (ae v)->EZ X.env.scope x->∃u,RelV v u/\Look X.env s.heap m x u
 cell:∀x c,X.env.cells.lookup x=ae c->∃v,s.heap.IsCell c v
 free:H X.env.locals=af
 lY:∀x c,X.env.cells.lookup x=ae c->H c=af
 pin:∀p∈X.pn++pins,s.heap.get? p.1=ae p.2/\H p.1=af/\p.1≠X.env.locals/\p.1∉X.fs/\∀v,p.2.data≠.cell v
 bc:hG X.prog X.w H s.heap
 len:σ.length=X.N.length
section
variable{X:Cx}{pins:List (Addr×Obj)}{σ:List (Option V)}{H H':Hp}{s:aah}{h':Heap}
theorem Cx.Ok.Vm(ok:X.Ok){b:Addr}{o:Obj}(e:X.base.get? b=ae o):b∉X.fs:=λhb=>by
 have:=(ok.oN.mem hb).1;rw[e]at this;cases this
theorem Inv.bs(I:Inv X pins σ H s):∀b o,X.base.get? b=ae o->s.heap.get? b=ae o/\H b=af:=λb o e=>
 ⟨I.base.keep b o (I.ok.bs b o e).1 (I.ok.bs b o e).2 (I.ok.Vm e) (I.ok.CL b o e),I.base.free b o (I.ok.bs b o e).1 (I.ok.bs b o e).2 (I.ok.CL b o e)⟩
theorem Inv.bk(I:Inv X pins σ H s):∀b o,X.base.get? b=ae o->s.heap.get? b=ae o:=λb o e=>(I.bs b o e).1
theorem Inv.mod(I:Inv X pins σ H s):Mod X.K X.mg X.base:=I.ok.mod
theorem Inv.oG(I:Inv X pins σ H s):X.K.In s.heap:=I.ok.mod.HF.keeps I.bk
theorem Inv.fr(I:Inv X pins σ H s):∃m,Fr X.base X.env.locals s.heap m:=
 let ⟨m,hn,_⟩:=I.loc
 ⟨m,hn,I.bk,aa7 I.ok.Bi I.ok.above⟩
theorem Inv.lt(I:Inv X pins σ H s):X.env.locals<s.heap.objs.size:=let ⟨_,hn,_⟩:=I.loc;hn.lt
theorem Inv.sz(I:Inv X pins σ H s):X.bJ.heap.objs.size<=s.heap.objs.size:=aa7 I.ok.above (adt I.lt)
theorem Inv.QH(I:Inv X pins σ H s){a:Addr}(h:s.heap.objs.size<=a):a∉X.fs:=λhb=>by
 obtain⟨_,o,ho,_⟩:=I.ok.oN.mem hb;exact absurd (aaB (aan ho) (aa7 I.sz h)) (aaZ _)
theorem Inv.E3(I:Inv X pins σ H s):∀x c,X.env.cells.lookup x=ae c->c≠X.env.locals:=λx c e z=>by
 obtain⟨v,o,ho,hd⟩:=I.cell x c e;obtain⟨m,⟨o',es,ep,oO,NH,_⟩,_⟩:=I.loc;rw[z,oO]at ho;cases ho;rw[NH]at hd;cases hd
theorem Inv.oN(I:Inv X pins σ H s):s.heap.FunFrames X.base X.outer:=by
 have all:∀(l:List Env),(∀b∈xI l,b∈X.fs)->X.bJ.heap.FunFrames X.base l->s.heap.FunFrames X.base l:=by
  intro l
  induction l with
  |nil=>intro _ _;trivial
  |cons env r ih=>
   intro hs hl;obtain⟨hk,⟨L,o,hf,hn,ho,hd⟩,hr⟩:=hl;have hL:L∈X.fs:=hs L (by unfold xI;rw[afh,hf];exact aao);obtain⟨sl,e⟩:=I.base.slot L o ho (I.ok.HG L hL) hL λz=>I.ok.CM L z hL
   exact⟨hk,⟨L,_,hf,hn,e,hd⟩,ih (λb hb=>hs b (by unfold xI;rw[afh,hf];exact aap _ hb)) hr⟩
 exact all X.outer (λ_ hb=>hb) I.ok.oN
theorem Inv.stack(I:Inv X pins σ H s):s.heap.FunFrames X.base X.stack:=by
 rcases I.ok.NF with e|⟨e,hf⟩
 .rw[e];exact I.oN
 .rw[e]
  obtain⟨m,hn,_⟩:=I.loc;refine .cons (by rw[I.ok.kind];decide) hf hn ?_ I.oN;exact Heap.get?_none_of_le (aa7 I.ok.Bi I.ok.above)
theorem Inv.Bj(I:Inv X pins σ H s):∀b∈xI X.stack,b∈X.env.locals::X.fs:=λb hb=>by
 rcases I.ok.NF with e|⟨e,hf⟩
 .rw[e]at hb;exact aap _ hb
 .rw[e]at hb
  unfold xI at hb;rw[afh,hf]at hb;exact hb
theorem Inv.CN(I:Inv X pins σ H s):∀b∈xI X.stack,H b=af:=λb hb=>by
 rcases aaj.mp (I.Bj b hb)with e|hb
 .rw[e];exact I.free
 .obtain⟨_,o,ho,_⟩:=I.ok.oN.mem hb
  exact I.base.free b o ho (I.ok.HG b hb) λz=>I.ok.CM b z hb
variable{t':Nat}
theorem Inv.step{g':Array af0}{d':Drawn}{ch:List Addr}(I:Inv X pins σ H s)
  (iE:∀b∈ch,(b∈X.ex\/X.bJ.heap.objs.size<=b)/\b≠X.env.locals/\(∀x c,X.env.cells.lookup x=ae c->c≠b)/\∀p∈X.pn++pins,p.1≠b)
  (keep:∀b o,b≠X.env.locals->b∉X.fs->b∉ch->s.heap.get? b=ae o->H b=af->h'.get? b=ae o)
  (slot:∀b o,b≠X.env.locals->b∈X.fs->b∉ch->s.heap.get? b=ae o->H b=af->∃sl,h'.get? b=ae { o with slots:=sl })(free:∀b o,b∉ch->s.heap.get? b=ae o->H b=af->H' b=af)
  (there:∀b o,b∉ch->s.heap.get? b=ae o->∃o',h'.get? b=ae o')
  (vN:∀b xs,H b=ae (.tup xs)->H' b=ae (.tup xs))(sW:∀b o u,H b=ae (.gr o u)->H' b=ae (.gr o u))(vO:∀b ps,H b=ae (.CK ps)->∃more,H' b=ae (.CK (ps++more)))
  (ns:∀m,s.heap.Ns X.env.locals m->h'.Ns X.env.locals m)(bc:hG X.prog X.w H' h')(hg:agy g'):
  Inv X pins σ H' { s with heap:=h',gens:=g',drawn:=d',toks:=t' }:=by
 have Vn:∀b o,X.bJ.heap.get? b=ae o->b≠X.env.locals:=λb o e=>aaF (aaB (aan e) I.ok.above)
 have NI:∀b o,X.bJ.heap.get? b=ae o->b∉X.ex->b∉ch:=λb o e hx hb=>by
  rcases(iE b hb).1 with z|z
  .exact hx z
  .exact absurd (aaB (aan e) z) (aaZ _)
 have cellK:∀x c,X.env.cells.lookup x=ae c->∀v,s.heap.IsCell c v->h'.IsCell c v:=by
  rintro x c e v ⟨o,ho,hd⟩;have JC:c∉ch:=λz=>(iE c z).2.2.1 x c e rfl
  by_cases hc:c∈X.fs
  .obtain⟨sl,q⟩:=slot c o (I.E3 x c e) hc JC ho (I.lY x c e)
   exact⟨_,q,hd⟩
  .exact⟨o,keep c o (I.E3 x c e) hc JC ho (I.lY x c e),hd⟩
 refine⟨I.ok,I.os,hg,⟨λb o e n hb hx=>?_,λb o e n hb hx=>?_,λb o e n hx=>?_,λb o e hx=>?_,λb xs e=>vN b xs (I.base.vN b xs e),λb o xs e=>sW b o xs (I.base.sW b o xs e),λb ps e=>?_⟩,?_,λx c e=>?_,?_,λx c e=>?_,λp hp=>?_,bc,I.len⟩
 .exact keep b o (Vn b o e) hb (NI b o e hx) (I.base.keep b o e n hb hx) (I.base.free b o e n hx)
 .obtain⟨sl,e1⟩:=I.base.slot b o e n hb hx
  obtain⟨Yp,e2⟩:=slot b _ (Vn b o e) hb (NI b o e hx) e1 (I.base.free b o e n hx);exact⟨Yp,e2⟩
 .obtain⟨o',e1⟩:=I.base.there b o e hx
  exact free b o' (NI b o e hx) e1 (I.base.free b o e n hx)
 .obtain⟨o',e1⟩:=I.base.there b o e hx
  exact there b o' (NI b o e hx) e1
 .obtain⟨m1,e1⟩:=I.base.vO b ps e
  obtain⟨m2,e2⟩:=vO b _ e1;exact⟨m1++m2,by rw[e2,Array.append_assoc]⟩
 .obtain⟨m,hn,hl⟩:=I.loc
  refine⟨m,ns m hn,λi x v e1 e2 e3=>?_⟩;obtain⟨u,r,l⟩:=hl i x v e1 e2 e3;refine⟨u,r,?_⟩;rcases l with l|⟨k,c,e,z⟩
  .exact .inl l
  .exact .inr ⟨k,c,e,cellK x c e _ z⟩
 .obtain⟨v,z⟩:=I.cell x c e
  exact⟨v,cellK x c e v z⟩
 .obtain⟨m,⟨o,_,_,ho,_⟩,_⟩:=I.loc
  exact free _ o (λz=>(iE _ z).2.1 rfl) ho I.free
 .obtain⟨v,o,ho,hd⟩:=I.cell x c e
  exact free c o (λz=>(iE c z).2.2.1 x c e rfl) ho (I.lY x c e)
 .obtain⟨e,n,ne,nf,d⟩:=I.pin p hp
  have JC:p.1∉ch:=λz=>(iE p.1 z).2.2.2 p hp rfl
  exact⟨keep p.1 p.2 ne nf JC e n,free p.1 p.2 JC e n,ne,nf,d⟩
theorem Inv.un(I:Inv X pins σ H s)(u:Un X.fs [] H H' s.heap h')(bc:hG X.prog X.w H' h'):Inv X pins σ H' { s with heap:=h',toks:=t' }:=by
 obtain⟨m,⟨o,es,ep,ho,r⟩,_⟩:=id I.loc;obtain⟨sl,hL⟩:=u.any ho I.free (by simp);exact I.step (g':=s.gens) (d':=s.drawn) (ch:=[]) (λ_ z=>nomatch z) (λb o _ hb _ e n=>u.keep b o e n hb (by simp)) (λb o _ hb _ e n=>u.slot b o e n hb (by simp)) (λb o _ e n=>u.free b o e n (by simp)) (λb o _ e=>u.there b o e (by simp)) u.vN u.sW u.vO (λm' hm=>by
  obtain⟨o',NJ,NK,oO,r'⟩:=hm;rw[ho]at oO;cases oO;exact⟨_,NJ,NK,hL,r'⟩) bc I.bare
theorem Inv.call{g':Array af0}{d':Drawn}{ch:List Addr}(I:Inv X pins σ H s)(u:Un (xI X.stack) ch H H' s.heap h')(bc:hG X.prog X.w H' h')(hg:agy g')
  (iE:∀b∈ch,(b∈X.ex\/X.bJ.heap.objs.size<=b)/\b≠X.env.locals/\(∀x c,X.env.cells.lookup x=ae c->c≠b)/\∀p∈X.pn++pins,p.1≠b):
  Inv X pins σ H' { s with heap:=h',gens:=g',drawn:=d',toks:=t' }:=by
 obtain⟨m,⟨o,es,ep,ho,r⟩,_⟩:=id I.loc;obtain⟨sl,hL⟩:=u.any ho I.free λz=>(iE _ z).2.1 rfl
 exact I.step (ch:=ch) iE (λb o hL hb hc e n=>u.keep b o e n (λz=>(aaj.mp (I.Bj b z)).elim hL hb) hc) (λb o _ _ hc e n=>u.any e n hc) (λb o hc e n=>u.free b o e n hc) (λb o hc e=>u.there b o e hc) u.vN u.sW u.vO (λm' hm=>by
  obtain⟨o',NJ,NK,oO,r'⟩:=hm;rw[ho]at oO;cases oO;exact⟨_,NJ,NK,hL,r'⟩) bc hg
theorem Inv.turned{it:Addr}(I:Inv X pins σ H s)(k:∀b o,b≠it->s.heap.get? b=ae o->h'.get? b=ae o)(hn:H it=af)(hL:it≠X.env.locals)
  (h1:it∈X.ex\/X.bJ.heap.objs.size<=it)(h2:∀x c,X.env.cells.lookup x=ae c->c≠it)(h3:∀p∈X.pn++pins,p.1≠it):Inv X pins σ H { s with heap:=h',toks:=t' }:=by
 have Vo:∀b u,H b=ae u->b≠it:=λb u e z=>by rw[z,hn]at e;cases e
 refine I.step (g':=s.gens) (d':=s.drawn) (ch:=[it]) (λb hb=>?_) (λb o _ _ hc e _=>k b o (λz=>hc (by simp[z])) e) (λb o _ _ hc e _=>⟨o.slots,k b o (λz=>hc (by simp[z])) e⟩) (λ_ _ _ _ n=>n)
  (λb o hc e=>⟨o,k b o (λz=>hc (by simp[z])) e⟩) (λ_ _ e=>e) (λ_ _ _ e=>e) (λb ps e=>⟨#[],by rw[e];simp⟩) (λm hm=>?_) (λb u e=>?_) I.bare
 .have e:b=it:=by simpa using hb
  subst e;exact⟨h1,hL,h2,h3⟩
 .obtain⟨o,es,ep,ho,r⟩:=hm
  exact⟨o,es,ep,k _ o (acu hL) ho,r⟩
 .refine(I.bc b u e).vM (λc v hc q=>k c v ?_ q) (λ_ q=>q) λ_ _ q=>q
  rcases hc with z|z
  .rw[z];exact Vo b u e
  .exact Vo c _ z
theorem Inv.tok(I:Inv X pins σ H s)(t:Nat):Inv X pins σ H { s with toks:=t }:=I.un (h':=s.heap) (t':=t) Un.refl I.bc
theorem Inv.kept(I:Inv X pins σ H s)(k:∀b u,s.heap.get? b=ae u->h'.get? b=ae u):Inv X pins σ H { s with heap:=h',toks:=t' }:=I.un (Un.kept k) (I.bc.kept k)
theorem Inv.laid{a:Addr}{o:HO}(I:Inv X pins σ H s)(k:∀b u,s.heap.get? b=ae u->h'.get? b=ae u)(hp:s.heap.objs.size<=a)(new:b7 X.prog X.w (upd H a o) h' a o):
  Inv X pins σ (upd H a o) { s with heap:=h',toks:=t' }:=I.un (Un.laid k hp (I.bc.fresh hp)) (I.bc.laid k hp new)
theorem Inv.write{x e:Addr}{o:HO}(I:Inv X pins σ H s)(mu:Jz (H x))(he:e=x\/H e=ae (.own x))(k:∀b u,b≠e->s.heap.get? b=ae u->h'.get? b=ae u)(HC:∃u,h'.get? e=ae u)
  (new:b7 X.prog X.w (upd H x o) h' x o):Inv X pins σ (upd H x o) { s with heap:=h',toks:=t' }:=I.un (Un.write mu he k HC) (I.bc.write mu he k HC new)
theorem Inv.xJ{JD:List (Addr×Obj)}(I:Inv X pins σ H s)(h:∀p∈JD,s.heap.get? p.1=ae p.2/\H p.1=af/\p.1≠X.env.locals/\p.1∉X.fs/\∀v,p.2.data≠.cell v):Inv X JD σ H s:=
 ⟨I.ok,I.os,I.bare,I.base,I.loc,I.cell,I.free,I.lY,λp hp=>(aaJ.mp hp).elim (λz=>I.pin p (ad1 _ z)) (h p),I.bc,I.len⟩
theorem zT{N:List Str}(hN:N.Nodup){i j:Nat}{x:Str}(a:N[i]? =ae x)(b:N[j]? =ae x):i=j:=by
 obtain⟨h1,e1⟩:=aae.mp a;obtain⟨h2,e2⟩:=aae.mp b;exact(List.getElem_inj hN).mp (e1.trans e2.symm)
variable{E:aai->aah->Prop}{Q:Unit->aah->Prop}
theorem E4{M:Model}{A:aa4}{i:Nat}{x:Str}{v:V}{u:aai}(I:Inv X pins σ H s)(hN:X.N.Nodup)(hi:X.N[i]? =ae x)(hx:Loc X.env.scope x)(r:RelV v u)
  (h:∀s',Inv X pins (σ.set i (ae v)) H s'->(∃a,abo a s.heap s'.heap/\(a=X.env.locals\/X.env.cells.lookup x=ae a))->Q () s')(hf:X.fn x=true\/X.env.scope.names.lookup x=ae .local:=by first|exact .inl rfl|exact .inr rfl|assumption):aat M A (storeName X.env x u) Q E s:=by
 obtain⟨m,hn,hl⟩:=id I.loc;have Vp:(X.env.scope.kind==.class||(X.env.scope.kind==.module&&X.env.locals != X.env.globals))=false:=by rw[I.ok.kind];rfl
 have QJ:i<σ.length:=by rw[I.len];exact(aae.mp hi).1
 have E3:=I.E3;have tracked:∀{a:Addr}{h':Heap},(∃o,s.heap.get? a=ae o/\H a=af)->abo a s.heap h'->hG X.prog X.w H h':=λ{a h'} ha hs b ob e=>by
  obtain⟨_,_,uS⟩:=ha;refine(I.bc b ob e).vM (λc w' hc q=>(hs.2 c ?_).trans q) (λ_ q=>q) λ_ _ q=>q
  rintro rfl;rcases hc with rfl|hc
  .rw[uS]at e;cases e
  .rw[uS]at hc;cases hc
 rcases hx with hk|hk
 .refine wpAny_storeName_local hk hn (λh' Yq hs=>?_) Vp
  obtain⟨oL,_,_,Yr,_⟩:=id hn;refine h _ ⟨I.ok,I.os,I.bare,⟨λb o e n hb hx=>?_,λb o e n hb hx=>?_,I.base.free,λb o e hx=>?_,I.base.vN,I.base.sW,I.base.vO⟩,⟨_,Yq,λj y v' e1 e2 e3=>?_⟩,λy c e=>?_,I.free,I.lY,λp hp=>?_,tracked ⟨oL,Yr,I.free⟩ hs,by simpa using I.len⟩ ⟨_,hs,.inl rfl⟩
  .exact(hs.2 b (aaF (aaB (aan e) I.ok.above))).trans (I.base.keep b o e n hb hx)
  .obtain⟨sl,e1⟩:=I.base.slot b o e n hb hx
   exact⟨sl,(hs.2 b (aaF (aaB (aan e) I.ok.above))).trans e1⟩
  .obtain⟨o',e1⟩:=I.base.there b o e hx
   exact⟨o',(hs.2 b (aaF (aaB (aan e) I.ok.above))).trans e1⟩
  .by_cases hj:j=i
   .subst hj
    rw[hi]at e1;cases e1;rw[acN QJ]at e2;cases e2;exact⟨u,r,.inl ⟨hk,by simp⟩⟩
   .rw[ada (acu hj)]at e2
    obtain⟨u',r',q⟩:=hl j y v' e1 e2 e3;refine⟨u',r',?_⟩;rcases q with⟨k,e⟩|⟨k,c,e,z⟩
    .refine .inl ⟨k,?_⟩
     have:y≠x:=λe=>hj (zT hN e1 (e ▸ hi))
     simp[this,e]
    .exact .inr ⟨k,c,e,z.sameBut hs (E3 y c e)⟩
  .obtain⟨w',z⟩:=I.cell y c e
   exact⟨w',z.sameBut hs (E3 y c e)⟩
  .obtain⟨e,n,ne,nf,d⟩:=I.pin p hp
   exact⟨(hs.2 p.1 ne).trans e,n,ne,nf,d⟩
 .have Ry:X.fn x=true:=by
   rcases hf with z|z
   .exact z
   .rw[z]at hk;cases hk
  obtain⟨c,hc⟩:=I.ok.has x (.inl hk);obtain⟨w',z⟩:=I.cell x c hc;refine wpAny_storeName_cell I.ok.kind hk hc z (λh' cP hs=>?_);obtain⟨oc,NL,Vq⟩:=id z;refine h { s with heap:=h' } ⟨I.ok,I.os,I.bare,⟨λb o e n hb hx=>?_,λb o e n hb hx=>?_,I.base.free,λb o e hx=>?_,I.base.vN,I.base.sW,I.base.vO⟩,⟨m,hn.sameBut hs (acu (E3 x c hc)),λj y v' e1 e2 e3=>?_⟩,λy c' e=>?_,I.free,I.lY,λp hp=>?_,tracked ⟨oc,NL,I.lY x c hc⟩ hs,by simpa using I.len⟩ ⟨c,hs,.inr hc⟩
  .exact(hs.2 b (aaF (aaB (aan e) (I.ok.JB x c Ry hc)))).trans (I.base.keep b o e n hb hx)
  .obtain⟨sl,e1⟩:=I.base.slot b o e n hb hx
   exact⟨sl,(hs.2 b (aaF (aaB (aan e) (I.ok.JB x c Ry hc)))).trans e1⟩
  .obtain⟨o',e1⟩:=I.base.there b o e hx
   exact⟨o',(hs.2 b (aaF (aaB (aan e) (I.ok.JB x c Ry hc)))).trans e1⟩
  .by_cases hj:j=i
   .subst hj
    rw[hi]at e1;cases e1;rw[acN QJ]at e2;cases e2;exact⟨u,r,.inr ⟨.inl hk,c,hc,cP⟩⟩
   .rw[ada (acu hj)]at e2
    obtain⟨u',r',q⟩:=hl j y v' e1 e2 e3;refine⟨u',r',?_⟩;rcases q with q|⟨k,c',e,z'⟩
    .exact .inl q
    .refine .inr ⟨k,c',e,z'.sameBut hs ?_⟩
     rintro rfl;exact hj (zT hN e1 (I.ok.inj _ _ _ e hc ▸ hi))
  .by_cases Vr:c'=c
   .subst Vr;exact⟨_,cP⟩
   .obtain⟨w2,z2⟩:=I.cell y c' e
    exact⟨w2,z2.sameBut hs Vr⟩
  .obtain⟨e,n,ne,nf,d⟩:=I.pin p hp
   refine⟨(hs.2 p.1 ?_).trans e,n,ne,nf,d⟩;intro q;rw[q,NL]at e;have q':oc=p.2:=aaI e;exact d w' (by rw[<-q'];exact Vq)
theorem je{M:Model}{A:aa4}{i:Nat}{x:Str}{v:V}{u:aai}(I:Inv X pins σ H s)(hN:X.N.Nodup)(hi:X.N[i]? =ae x)(hx:Loc X.env.scope x)(r:RelV v u)
  (h:∀s',Inv X pins (σ.set i (ae v)) H s'->Q () s')(hf:X.fn x=true\/X.env.scope.names.lookup x=ae .local:=by first|exact .inl rfl|exact .inr rfl|assumption):aat M A (storeName X.env x u) Q E s:=
 E4 I hN hi hx r (λs' I' _=>h s' I') hf
theorem Inv.Rz{s':aah}{ch:List Addr}(I:Inv X pins σ H s)(ho:s'.os=s.os)(u:Un (xI X.stack) ch H H' s.heap s'.heap)(bc:hG X.prog X.w H' s'.heap)(hg:agy s'.gens)
  (iE:∀b∈ch,(b∈X.ex\/X.bJ.heap.objs.size<=b)/\b≠X.env.locals/\(∀x c,X.env.cells.lookup x=ae c->c≠b)/\∀p∈X.pn++pins,p.1≠b):Inv X pins σ H' s':=by
 obtain⟨h',g',d',t',o'⟩:=s';have e:o'=s.os:=ho;subst e;exact I.call (g':=g') (t':=t') (d':=d') u bc hg iE
end
abbrev XK:=aai->Option Addr->Hp->Prop
abbrev St:=List (Option V)
abbrev VK:=V->Hp->Prop
abbrev TE:=St->Hp->VK->Prop
abbrev TT:=St->Hp->(Bool->Hp->Prop)->Prop
abbrev TA:=St->Hp->(List V->Hp->Prop)->Prop
structure Ends where
 nx:St->Hp->Prop
 rt:VK
 bk:St->Hp->Prop:=λ_ _=>False
 ct:St->Hp->Prop:=λ_ _=>False
abbrev TS:=Ends->St->Hp->Prop
def EP(X:Cx)(pins:List (Addr×Obj))(σ:St)(Q:VK)(u:aai)(s':aah):Prop:=∃v H',Inv X pins σ H' s'/\RelV v u/\Q v H'
def TP(X:Cx)(pins:List (Addr×Obj))(σ:St)(Q:Bool->Hp->Prop)(b:Bool)(s':aah):Prop:=∃H',Inv X pins σ H' s'/\Q b H'
def AP(X:Cx)(pins:List (Addr×Obj))(σ:St)(Q:List V->Hp->Prop)(us:List aai)(s':aah):Prop:=∃vs H',Inv X pins σ H' s'/\Vals vs us/\Q vs H'
def SP(X:Cx)(pins:List (Addr×Obj))(D:Ends)(f:Flow)(s':aah):Prop:=
 match f with
 |.next=>∃σ' H',Inv X pins σ' H' s'/\D.nx σ' H'
 |.brk=>∃σ' H',Inv X pins σ' H' s'/\D.bk σ' H'
 |.cont=>∃σ' H',Inv X pins σ' H' s'/\D.ct σ' H'
 |.ret u=>∃v σ' H',Inv X pins σ' H' s'/\RelV v u/\D.rt v H'
namespace Zu
set_option allowUnsafeReducibility true in
@[scoped irreducible] def _root_.L2.PE(X:Cx)(e:abl)(t:TE):Prop:=
 ∀(pins:List (Addr×Obj)) (s:aah) (σ:St) (H:Hp) (Q:VK),Inv X pins σ H s->t σ H Q->aat (aaL X.prog X.w) X.A (adL e X.env) (EP X pins σ Q) X.xe s
end Zu
namespace Zu
set_option allowUnsafeReducibility true in
@[scoped irreducible] def _root_.L2.PT(X:Cx)(e:abl)(t:TT):Prop:=
 ∀(pins:List (Addr×Obj)) (s:aah) (σ:St) (H:Hp) (Q:Bool->Hp->Prop),Inv X pins σ H s->t σ H Q->aat (aaL X.prog X.w) X.A (aiM e X.env (adL e X.env)) (TP X pins σ Q) X.xe s
end Zu
namespace Zu
set_option allowUnsafeReducibility true in
@[scoped irreducible] def _root_.L2.PW(X:Cx)(e:abl)(t:TT):Prop:=
 ∀(whole:Sem aai) (pins:List (Addr×Obj)) (s:aah) (σ:St) (H:Hp) (Q:Bool->Hp->Prop),Inv X pins σ H s->t σ H Q->aat (aaL X.prog X.w) X.A (aiM e X.env whole) (TP X pins σ Q) X.xe s
end Zu
theorem PW.pt{X:Cx}{e:abl}{t:TT}(h:PW X e t):PT X e t:=h _
namespace Zu
set_option allowUnsafeReducibility true in
@[scoped irreducible] def _root_.L2.PA(X:Cx)(es:List abl)(t:TA):Prop:=
 ∀(pos:Pos) (pins:List (Addr×Obj)) (s:aah) (σ:St) (H:Hp) (Q:List V->Hp->Prop),Inv X pins σ H s->t σ H Q->aat (aaL X.prog X.w) X.A (spliced (acy pos (aau es X.env))) (AP X pins σ Q) X.xe s
end Zu
namespace Zu
set_option allowUnsafeReducibility true in
@[scoped irreducible] def _root_.L2.PS(X:Cx)(st:Stmt)(t:TS):Prop:=
 ∀(pins:List (Addr×Obj)) (s:aah) (σ:St) (H:Hp) (D:Ends),Inv X pins σ H s->t D σ H->aat (aaL X.prog X.w) X.A (exec st X.env) (SP X pins D) X.xe s
end Zu
namespace Zu
set_option allowUnsafeReducibility true in
@[scoped irreducible] def _root_.L2.oH(X:Cx)(st:List Stmt)(t:TS):Prop:=
 ∀(pins:List (Addr×Obj)) (s:aah) (σ:St) (H:Hp) (D:Ends),Inv X pins σ H s->t D σ H->aat (aaL X.prog X.w) X.A (execs st X.env) (SP X pins D) X.xe s
end Zu
theorem bN{α:Type}{t:Sem α}{Q Q':α->aah->Prop}{M:Model}{A:aa4}{E:aai->aah->Prop}{s:aah}(h:aat M A t Q E s)(hQ:∀a s,Q a s->Q' a s):aat M A t Q' E s:=abu h hQ λ_ _ x=>x
end L2
namespace L2
open PySem PySem.Spec PyProof.Rows
section
variable{X:Cx}
variable{pins:List (Addr×Obj)}
theorem bin{a b:abl}{ta tb:TE}(ha:PE X a ta)(hb:PE X b tb){s:aah}{σ:St}{H:Hp}{R:V->V->Hp->Prop}(I:Inv X pins σ H s)(h:ta σ H λx H1=>tb σ H1 λy H2=>R x y H2)
  {α:Type}{Q:α->aah->Prop}{f:aai->aai->Sem α}
  (hf:∀v u s2 x y H2,Inv X pins σ H2 s2->RelV x v->RelV y u->R x y H2->aat (aaL X.prog X.w) X.A (f v u) Q X.xe s2):
  aat (aaL X.prog X.w) X.A (adL a X.env) (λv bS=>aat (aaL X.prog X.w) X.A (adL b X.env) (λu mB=>aat (aaL X.prog X.w) X.A (f v u) Q X.xe mB) X.xe bS) X.xe s:=by
 refine bN (ha pins s σ H _ I h) λv s1 bg=>?_
 obtain⟨x,H1,I1,r1,q1⟩:=bg;refine bN (hb pins s1 σ H1 _ I1 q1) λu s2 bg=>?_
 obtain⟨y,H2,I2,r2,q2⟩:=bg;exact hf v u s2 x y H2 I2 r1 r2 q2
def JE(i:Nat):TE:=λσ H Q=>∃v,σ[i]? =ae (ae v)/\Q v H
def tC(v:V):TE:=λ_ H Q=>Q v H
variable{x:Str}
theorem NM{i:Nat}{pos:Pos}(hN:X.N[i]? =ae x)(hv:EZ X.env.scope x)(hd:(x==("__debug__":Str))=false:=by decide)(uT:(x==("__classdict__":Str))=false:=by decide):PE X (.Name x pos) (JE i):=by
 intro pins s σ H Q I h;obtain⟨v,e,h⟩:=h;obtain⟨m,hn,hl⟩:=I.loc;obtain⟨u,r,l⟩:=hl i x v hN e hv;have fin:EP X pins σ Q u s:=⟨v,H,I,r,h⟩;rcases l with⟨hk,hm⟩|⟨hk,c,hc,Bk⟩
 .exact wpAny_Name (wpAny_loadName_local I.ok.kind hk hn hm fin) hd
 .rcases hk with hk|hk
  .exact wpAny_Name (wpAny_loadName_cell I.ok.kind hk hc Bk fin) hd
  .exact wpAny_Name (wpAny_loadName_free I.ok.kind hk hc Bk fin uT) hd
theorem NO{i j pos}:PE X (.Constant (.int i) j pos) (tC (.int i)):=λ_ _ _ H _ I h=>wpAny_Constant_int ⟨.int i,H,I.tok _,⟨_,rfl⟩,h⟩
theorem RB{b j pos}:PE X (.Constant (.bool b) j pos) (tC (.bl b)):=λ_ _ _ H _ I h=>Constant_bool ⟨.bl b,H,I,rfl,h⟩
theorem NP{j pos}:PE X (.Constant .none j pos) (tC .aX):=λ_ _ _ H _ I h=>Constant_none ⟨.aX,H,I,rfl,h⟩
theorem NQ{x j pos}:PE X (.Constant (.str x) j pos) (tC (.str x)):=λ_ _ _ H _ I h=>Calls.Constant_str ⟨.str x,H,I.tok _,⟨_,rfl⟩,h⟩
def Gl(X:Cx)(x:Str):Prop:=X.env.kindOf x=ae .globalImplicit
variable{E Q:aai->aah->Prop}{u:aai}
theorem CP{s:aah}{σ:St}{H:Hp}{pos:Pos}(I:Inv X pins σ H s)(hg:Gl X x)(hm:X.mg x=ae u)(h:Q u s)
  (hd:(x==("__debug__":Str))=false:=by decide):aat (aaL X.prog X.w) X.A (adL (.Name x pos) X.env) Q E s:=
 afs I.ok.kind hg (Calls.loadGlobal_global (by rw[I.ok.glob];exact I.mod.glob.keeps I.bk) hm h) hd
theorem iM{s:aah}{σ:St}{H:Hp}{pos:Pos}(I:Inv X pins σ H s)(hg:Gl X x)(hm:X.mg x=af)(hv:aa6 x=ae u)(h:Q u s)
  (hn:x≠"__name__":=by decide)(hd:(x==("__debug__":Str))=false:=by decide):aat (aaL X.prog X.w) X.A (adL (.Name x pos) X.env) Q E s:=by
 obtain⟨mb,h1,h2⟩:=I.mod.blt;exact afs I.ok.kind hg (Calls.loadGlobal_builtin (by rw[I.ok.glob];exact I.mod.glob.keeps I.bk) hm (by rw[I.ok.blt];exact h1.keeps I.bk) ((h2 x hn).trans hv) h) hd
theorem JF{v:V}{pos:Pos}(hg:Gl X x)(hm:X.mg x=ae u)(r:RelV v u)(hd:(x==("__debug__":Str))=false:=by decide):PE X (.Name x pos) (tC v):=
 λ_ _ _ H _ I h=>CP I hg hm ⟨v,H,I,r,h⟩ hd
theorem sZ{v:V}{pos:Pos}(hg:Gl X x)(hm:X.mg x=af)(hv:aa6 x=ae u)(r:RelV v u)(hn:x≠"__name__":=by decide)(hd:(x==("__debug__":Str))=false:=by decide):PE X (.Name x pos) (tC v):=
 λ_ _ _ H _ I h=>iM I hg hm hv ⟨v,H,I,r,h⟩ hn hd
variable{a b:abl}{ta tb:TE}{pos:Pos}
def PC(X:Cx)(op:air)(a b:abl)(t:TE):Prop:=
 ∀(pins:List (Addr×Obj)) (s:aah) (σ:St) (H:Hp) (Q:VK),Inv X pins σ H s->t σ H Q->
  aat (aaL X.prog X.w) X.A (adL a X.env) (λv bS=>aat (aaL X.prog X.w) X.A (adL b X.env) (λu mB=>aat (aaL X.prog X.w) X.A (abq op v u) (EP X pins σ Q) X.xe mB) X.xe bS) X.xe s
theorem HH(b:abl){op:air}(h:op≠.In)(h2:op≠.NotIn):acY op b=false:=by
 have e1:(op==CmpOp.In)=false:=by cases op<;>first|rfl|exact absurd rfl h
 have e2:(op==CmpOp.NotIn)=false:=by cases op<;>first|rfl|exact absurd rfl h2
 cases b<;>simp[acY,e1,e2]
def tB(t:TE):TT:=λσ H Q=>t σ H λx H1=>∃c,x= .bl c/\Q c H1
theorem Ye{op:air}{t:TE}(h:PC X op a b t)(h1:acY op b=false:=by first|exact HH _ (by decide) (by decide)|rfl):PT X (.Compare a [op] [b] pos) (tB t):=by
 intro pins s σ H Q I hw;refine agz (bN (h pins s σ H _ I hw) λv s1 h1=>bN h1 λu s2 h2=>bN h2 λc s3 bg=>?_) h1;obtain⟨x,H1,I1,r1,q1⟩:=bg;obtain⟨d,rfl,q⟩:=q1;cases r1;exact abf ⟨H1,I1,q⟩
theorem NR{e:abl}{t:TE}(h:PE X e t)(he:∀whole,aiM e X.env whole=(do let v <-whole;standAt e.pos;afi [v] (truthy v)):=by intro _;rfl):PT X e (tB t):=by
 intro pins s σ H Q I hw;refine isTrue_plain (bN (h pins s σ H _ I hw) λv s1 bg=>?_) (he _);obtain⟨x,H1,I1,r1,q1⟩:=bg;obtain⟨d,rfl,q⟩:=q1;cases r1;exact abf ⟨H1,I1,q⟩
variable{tA NS:TT}{rest:List abl}
def jT(t u:TT):TT:=λσ H Q=>t σ H λc H1=>if c=true then u σ H1 Q else Q false H1
def gc(t u:TT):TT:=λσ H Q=>t σ H λc H1=>if c=true then Q true H1 else u σ H1 Q
def eG(t:TT):TT:=λσ H Q=>t σ H λc H1=>Q (!c) H1
theorem JG(ha:PT X a tA):PW X (.BoolOp .And [a] pos) tA:=by
 intro wh pins s σ H Q I h;refine isTrue_and (bN (ha pins s σ H Q I h) λc s1 e=>?_);cases c with
 |true=>exact isTrue_and_nil e
 |false=>exact e
theorem NT(ha:PT X a tA):PW X (.BoolOp .Or [a] pos) tA:=by
 intro wh pins s σ H Q I h;refine isTrue_or (bN (ha pins s σ H Q I h) λc s1 e=>?_);cases c with
 |false=>exact isTrue_or_nil e
 |true=>exact e
theorem NU(ha:PT X a tA)(hb:PW X (.BoolOp .And (b::rest) pos) NS):PW X (.BoolOp .And (a::b::rest) pos) (jT tA NS):=by
 intro wh pins s σ H Q I h;refine isTrue_and (bN (ha pins s σ H _ I h) λc s1 bg=>?_);obtain⟨H1,I1,q1⟩:=bg;cases c with
 |true=>exact hb wh pins s1 σ H1 Q I1 q1
 |false=>exact⟨H1,I1,q1⟩
theorem RC(ha:PT X a tA)(hb:PW X (.BoolOp .Or (b::rest) pos) NS):PW X (.BoolOp .Or (a::b::rest) pos) (gc tA NS):=by
 intro wh pins s σ H Q I h;refine isTrue_or (bN (ha pins s σ H _ I h) λc s1 bg=>?_);obtain⟨H1,I1,q1⟩:=bg;cases c with
 |true=>exact⟨H1,I1,q1⟩
 |false=>exact hb wh pins s1 σ H1 Q I1 q1
theorem NV(ha:PT X a tA):PT X (.UnaryOp .Not a pos) (eG tA):=by
 intro pins s σ H Q I h;exact isTrue_not (ha pins s σ H (λc H1=>Q (!c) H1) I h)
def RF(ta tb:TE):TE:=λσ H Q=>ta σ H λx H1=>∃c,x= .bl c/\if c=true then tb σ H1 Q else Q (.bl false) H1
def Vs(ta tb:TE):TE:=λσ H Q=>ta σ H λx H1=>∃c,x= .bl c/\if c=true then Q (.bl true) H1 else tb σ H1 Q
def RG(ta:TE):TE:=λσ H Q=>ta σ H λx H1=>∃c,x= .bl c/\Q (.bl (!c)) H1
theorem NW{op}{t:TE}(h:PE X a t):PE X (.BoolOp op [a] pos) t:=λpins s σ H Q I hw=>BoolOp_one (h pins s σ H Q I hw)
theorem NX(ha:PE X a ta)(hb:PE X (.BoolOp .And (b::rest) pos) tb):PE X (.BoolOp .And (a::b::rest) pos) (RF ta tb):=by
 intro pins s σ H Q I h;refine BoolOp_and (bN (ha pins s σ H _ I h) λv s1 bg=>?_);obtain⟨x,H1,I1,r1,q1⟩:=bg;obtain⟨c,rfl,q1⟩:=q1;cases r1;refine abf ?_;cases c with
 |true=>exact hb pins s1 σ H1 Q I1 q1
 |false=>exact⟨.bl false,H1,I1,rfl,q1⟩
theorem RH(ha:PE X a ta)(hb:PE X (.BoolOp .Or (b::rest) pos) tb):PE X (.BoolOp .Or (a::b::rest) pos) (Vs ta tb):=by
 intro pins s σ H Q I h;refine BoolOp_or (bN (ha pins s σ H _ I h) λv s1 bg=>?_);obtain⟨x,H1,I1,r1,q1⟩:=bg;obtain⟨c,rfl,q1⟩:=q1;cases r1;refine abf ?_;cases c with
 |false=>exact hb pins s1 σ H1 Q I1 q1
 |true=>exact⟨.bl true,H1,I1,rfl,q1⟩
theorem NY(ha:PE X a ta):PE X (.UnaryOp .Not a pos) (RG ta):=by
 intro pins s σ H Q I h;refine UnaryOp_ (bN (ha pins s σ H _ I h) λv s1 bg=>?_);obtain⟨x,H1,I1,r1,q1⟩:=bg;obtain⟨c,rfl,q1⟩:=q1;cases r1;exact not_of (abf ⟨.bl (!c),H1,I1,rfl,q1⟩)
def Ys(t:TT)(ta tb:TE):TE:=λσ H Q=>t σ H λc H1=>if c=true then ta σ H1 Q else tb σ H1 Q
theorem HI{c:abl}(hc:PT X c tA)(ha:PE X a ta)(hb:PE X b tb):PE X (.IfExp c a b pos) (Ys tA ta tb):=by
 intro pins s σ H Q I h;refine wpAny_IfExp (bN (hc pins s σ H _ I h) λd s1 bg=>?_);obtain⟨H1,I1,q1⟩:=bg;cases d with
 |true=>exact ha pins s1 σ H1 Q I1 q1
 |false=>exact hb pins s1 σ H1 Q I1 q1
end
end L2
namespace L2
open PySem PySem.Spec PyProof.Rows
def b8(K:aaa)(H:Hp)(a:Addr)(xs:List V):Prop:=
 Rd H a (.lst xs)\/
  ∃(o:Obj) (its:Array aai) (n:Nat),K.lookup a=ae o/\o.cls= .type "list"/\o.dict=af/\o.data= .seq its n/\its.size<=sizeLine/\Vals xs its.toList
def b_(K:aaa)(H:Hp)(a:Addr)(xs:List V):Prop:=
 Rd H a (.tup xs)\/
  ∃(o:Obj) (its:Array aai) (n:Nat),K.lookup a=ae o/\o.cls= .type "tuple"/\o.data= .seq its n/\its.size<=sizeLine/\Vals xs its.toList
def Vt:aai->Option V
 |.none=>ae .aX
 |.bool b=>ae (.bl b)
 |.int i _=>ae (.int i)
 |.str x _=>ae (.str x)
 |.bytes b _=>ae (.xG b)
 |.float b _=>ae (.HB b)
 |.ref a=>ae (.ref a)
 |.type n=>ae (.ty n)
 |_=>af
theorem RelV.abs{x:V}{u:aai}(r:RelV x u):Vt u=ae x:=by
 cases x with
 |aX=>cases r;rfl
 |bl _=>cases r;rfl
 |int _=>obtain⟨t,rfl⟩:=r;rfl
 |str _=>obtain⟨t,rfl⟩:=r;rfl
 |xG _=>obtain⟨t,rfl⟩:=r;rfl
 |HB _=>obtain⟨t,rfl⟩:=r;rfl
 |ref _=>cases r;rfl
 |ty _=>cases r;rfl
theorem RelV.inj{x y:V}{u:aai}(r:RelV x u)(q:RelV y u):x=y:=aaI (r.abs.symm.trans q.abs)
theorem Vals.inj:∀{xs ys:List V}{us:List aai},Vals xs us->Vals ys us->xs=ys
 |_,_,_,.nil,.nil=>rfl
 |_,_,_,.cons r t,.cons r' t'=>by rw[r.inj r',Vals.inj t t']
section
variable{X:Cx}{pins:List (Addr×Obj)}{σ:St}{H:Hp}{s:aah}{a:Addr}{xs ys:List V}
theorem b8.of{K:aaa}(h:H a=ae (.lst xs)):b8 K H a xs:=.inl (.inl h)
theorem b_.of{K:aaa}(h:H a=ae (.tup xs)):b_ K H a xs:=.inl (.inl h)
theorem Inv.list(I:Inv X pins σ H s)(h:b8 X.K H a xs):∃its:List aai,Vals xs its/\PlainL s.heap a its.toArray/\xs.length<=sizeLine:=by
 rcases h with h|⟨o,its,n,hk,hc,hd,hs,hz,r⟩
 .obtain⟨z,its,n,r,e⟩:=h.ok I.bc
  exact⟨its,r,⟨_,n,e,rfl,rfl,rfl⟩,z⟩
 .refine⟨its.toList,r,⟨o,n,I.oG a o hk,hc,hd,by simpa using hs⟩,?_⟩
  have e:=r.length;simp only[abb]at e;omega
theorem Inv.tuple(I:Inv X pins σ H s)(h:b_ X.K H a xs):∃its:List aai,Vals xs its/\aie s.heap a its.toArray/\xs.length<=sizeLine:=by
 rcases h with h|⟨o,its,n,hk,hc,hs,hz,r⟩
 .obtain⟨z,its,r,p⟩:=h.ok I.bc
  exact⟨its,r,p,z⟩
 .refine⟨its.toList,r,⟨o,I.oG a o hk,hc,n,by simpa using hs⟩,?_⟩
  have e:=r.length;simp only[abb]at e;omega
theorem Inv.mC(I:Inv X pins σ H s)(h:b8 X.K H a xs)(h':b8 X.K H a ys):xs=ys:=by
 obtain⟨its,r,⟨o,n,e,_,_,d⟩,_⟩:=I.list h;obtain⟨its',r',⟨o',n',e',_,_,d'⟩,_⟩:=I.list h';rw[e]at e';cases e';rw[d]at d';injection d' with d1 _
 have:its=its':=by simpa using congrArg aiN d1
 subst this;exact r.inj r'
theorem Inv.rS(I:Inv X pins σ H s)(h:b_ X.K H a xs)(h':b_ X.K H a ys):xs=ys:=by
 obtain⟨its,r,⟨o,e,_,n,d⟩,_⟩:=I.tuple h;obtain⟨its',r',⟨o',e',_,n',d'⟩,_⟩:=I.tuple h';rw[e]at e';cases e';rw[d]at d';injection d' with d1 _
 have:its=its':=by simpa using congrArg aiN d1
 subst this;exact r.inj r'
end
abbrev Cx.qQ(X:Cx)(E:aai->aah->Prop):Cx:={ X with xe:=E }
abbrev Cx.CQ(X:Cx):Cx:=X.qQ λ_ _=>False
theorem Cx.Ok.qQ{X:Cx}(ok:X.Ok)(E:aai->aah->Prop):(X.qQ E).Ok:=
 ⟨ok.mod,ok.kind,ok.glob,ok.blt,ok.above,ok.inj,ok.has,ok.JB,ok.hd,ok.frames,ok.NF,ok.NG,ok.bs,ok.Bi,ok.CL,ok.CM,ok.oN,ok.HG⟩
variable{E:aai->aah->Prop}
theorem Cx.Ok.lD{X:Cx}(ok:(X.qQ E).Ok):X.Ok:=
 ⟨ok.mod,ok.kind,ok.glob,ok.blt,ok.above,ok.inj,ok.has,ok.JB,ok.hd,ok.frames,ok.NF,ok.NG,ok.bs,ok.Bi,ok.CL,ok.CM,ok.oN,ok.HG⟩
section
variable{X:Cx}{pins:List (Addr×Obj)}{σ:St}{H:Hp}{s:aah}{E:aai->aah->Prop}
theorem Inv.qQ(I:Inv X pins σ H s)(E:aai->aah->Prop):Inv (X.qQ E) pins σ H s:=⟨I.ok.qQ E,I.os,I.bare,I.base,I.loc,I.cell,I.free,I.lY,I.pin,I.bc,I.len⟩
theorem Inv.lD(I:Inv (X.qQ E) pins σ H s):Inv X pins σ H s:=⟨I.ok.lD,I.os,I.bare,I.base,I.loc,I.cell,I.free,I.lY,I.pin,I.bc,I.len⟩
theorem SP.lD{D:Ends}{f:Flow}{s':aah}(h:SP (X.qQ E) pins D f s'):SP X pins D f s':=by
 cases f with
 |next=>obtain⟨σ',H',I,q⟩:=h;exact⟨σ',H',I.lD,q⟩
 |brk=>obtain⟨σ',H',I,q⟩:=h;exact⟨σ',H',I.lD,q⟩
 |cont=>obtain⟨σ',H',I,q⟩:=h;exact⟨σ',H',I.lD,q⟩
 |ret u=>obtain⟨v,σ',H',I,r,q⟩:=h;exact⟨v,σ',H',I.lD,r,q⟩
theorem oH.CQ{st:List Stmt}{t:TS}(h:oH X.CQ st t):oH X st t:=λpins s σ H D I hw=>
 abu (h pins s σ H D (I.qQ _) hw) (λ_ _ q=>q.lD) λ_ _ z=>adV z
end
section
variable{X:Cx}{st:Stmt}{rest:List Stmt}{t u:TS}{e:abl}{te:TE}{pos:Pos}
def RI:TS:=λD σ H=>D.nx σ H
def Vu(t u:TS):TS:=λD σ H=>t { D with nx:=u D } σ H
theorem JH:oH X [] RI:=λ_ _ σ H _ I h=>afj ⟨σ,H,I,h⟩
theorem HJ(h1:PS X st t)(h2:oH X rest u):oH X (st::rest) (Vu t u):=by
 intro pins s σ H D I h;refine wpAny_execs_cons (bN (h1 pins s σ H { D with nx:=u D } I h) λf s1 q=>?_);cases f with
 |next=>
  obtain⟨σ',H',I',q⟩:=q;exact h2 pins s1 σ' H' D I' q
 |ret v=>exact q
 |brk=>exact q
 |cont=>exact q
theorem JI(h1:PS X st t):oH X [st] t:=by
 intro pins s σ H D I h;refine wpAny_execs_cons (bN (h1 pins s σ H D I h) λf s1 q=>?_);cases f with
 |next=>exact afj q
 |ret v=>exact q
 |brk=>exact q
 |cont=>exact q
theorem Inv.quiet{pins:List (Addr×Obj)}{σ:St}{H:Hp}{s:aah}(I:Inv X pins σ H s):interactive X.env=false:=by simp[interactive,I.ok.kind]
def RJ(te:TE):TS:=λD σ H=>te σ H λ_ H1=>D.nx σ H1
theorem JJ(he:PE X e te)(hs:aeP e af pos.line X.env=pure false:=by rfl):PS X (.Expr e pos) (RJ te):=by
 intro pins s σ H D I h;exact wpAny_Expr_any (bN (he pins s σ H _ I h) λv s1 ⟨x,H1,I1,r1,q1⟩=>⟨σ,H1,I1,q1⟩) I.quiet hs
def Vv(te:TE):TS:=λD σ H=>te σ H D.rt
theorem NZ(he:PE X e te):PS X (.Return (ae e) pos) (Vv te):=by
 intro pins s σ H D I h;exact wpAny_Return_some (bN (he pins s σ H _ I h) λv s1 ⟨x,H1,I1,r1,q1⟩=>⟨x,σ,H1,I1,r1,q1⟩)
def Vw(c:TT)(t u:TS):TS:=λD σ H=>c σ H λb H1=>if b=true then t D σ H1 else u D σ H1
theorem RL{c:abl}{a b:List Stmt}{tc:TT}(hc:PT X c tc)(ha:oH X a t)(hb:oH X b u):PS X (.If c a b pos) (Vw tc t u):=by
 intro pins s σ H D I h;refine wpAny_If (bN (hc pins s σ H _ I h) λd s1 bg=>?_);obtain⟨H1,I1,q1⟩:=bg;cases d with
 |true=>exact ha pins s1 σ H1 D I1 q1
 |false=>exact hb pins s1 σ H1 D I1 q1
end
abbrev TG:=V->St->Hp->(St->Hp->Prop)->Prop
abbrev xK:=List V->St->Hp->(St->Hp->Prop)->Prop
namespace Zu
set_option allowUnsafeReducibility true in
@[scoped irreducible] def _root_.L2.PG(X:Cx)(target:abl)(t:TG):Prop:=
 ∀(pins:List (Addr×Obj)) (s:aah) (σ:St) (H:Hp) (v:V) (u:aai) (Q:St->Hp->Prop),Inv X pins σ H s->RelV v u->t v σ H Q->
  aat (aaL X.prog X.w) X.A (agA target X.env u) (λ_ s'=>∃σ' H',Inv X pins σ' H' s'/\Q σ' H') X.xe s
end Zu
namespace Zu
set_option allowUnsafeReducibility true in
@[scoped irreducible] def _root_.L2.Bl(X:Cx)(ts:List abl)(t:xK):Prop:=
 ∀(pins:List (Addr×Obj)) (s:aah) (σ:St) (H:Hp) (vs:List V) (us:List aai) (Q:St->Hp->Prop),Inv X pins σ H s->Vals vs us->t vs σ H Q->
  aat (aaL X.prog X.w) X.A (ae8 ((ab5 ts X.env).map (·.2)) us) (λ_ s'=>∃σ' H',Inv X pins σ' H' s'/\Q σ' H') X.xe s
end Zu
abbrev JK:=V->V->V->Hp->(Hp->Prop)->Prop
def QK(X:Cx)(t:JK):Prop:=
 ∀(pins:List (Addr×Obj)) (s:aah) (σ:St) (H:Hp) (o i v:V) (ov iv u:aai) (Q:Hp->Prop),Inv X pins σ H s->RelV o ov->RelV i iv->RelV v u->t o i v H Q->
  aat (aaL X.prog X.w) X.A (setItem ov iv u) (λ_ s'=>∃H',Inv X pins σ H' s'/\Q H') X.xe s
section
variable{X:Cx}{pos:Pos}
def ay(i:Nat):TG:=λv σ H Q=>Q (σ.set i (ae v)) H
theorem CS{i:Nat}{x:Str}(hN:X.N.Nodup)(hi:X.N[i]? =ae x)(hx:Loc X.env.scope x)(hf:X.fn x=true\/X.env.scope.names.lookup x=ae .local:=by first|exact .inl rfl|exact .inr rfl|assumption):PG X (.Name x pos) (ay i):=by
 intro pins s σ H v u Q I r h;exact wpAny_assign_Name (je I hN hi hx r (λs' I'=>⟨_,H,I',h⟩) hf)
def fP:xK:=λvs σ H Q=>vs=[]/\Q σ H
def bA(t:TG)(u:xK):xK:=λvs σ H Q=>∃v r,vs=v::r/\t v σ H λσ' H'=>u r σ' H' Q
theorem JL:Bl X [] fP:=by
 intro pins s σ H vs us Q I r h;obtain⟨e,h⟩:=h;subst e;cases r;exact afK ⟨σ,H,I,h⟩
theorem HK{e:abl}{es:List abl}{t:TG}{u:xK}(h1:PG X e t)(h2:Bl X es u)
  (hs:(ab5 (e::es) X.env).map (·.2)=agA e X.env::(ab5 es X.env).map (·.2):=by rfl):Bl X (e::es) (bA t u):=by
 intro pins s σ H vs us Q I r h;obtain⟨v,vr,e1,h⟩:=h;subst e1;cases r with
 |cons r rr=>
  rw[hs];refine acZ (bN (h1 pins s σ H _ _ _ I r h) λ_ s1 bg=>?_);obtain⟨σ1,H1,I1,q1⟩:=bg;exact h2 pins s1 σ1 H1 _ _ Q I1 rr q1
def gy(K:aaa)(n:Nat)(t:xK):TG:=λv σ H Q=>∃a xs,v= .ref a/\b_ K H a xs/\xs.length=n/\t xs σ H Q
theorem N3{es:List abl}{k:Nat}{t:xK}{n:Nat}(hc:X.calm=true)(h:Bl X es t)
  (hn:(ab5 es X.env).length=n:=by rfl)(rT:(ab5 es X.env).findIdx? (·.1)=af:=by rfl):PG X (.Tuple es k pos) (gy X.K n t):=by
 intro pins s σ H v u Q I r hw;obtain⟨a,xs,e1,hq,hl,hw⟩:=hw;subst e1;cases r;obtain⟨its,rv,ht,hz⟩:=I.tuple hq;refine assign_Tuple_tuple (I.ok.hd hc) ht (by simp[hn,<-hl,rv.length]) rT λh' hx=>?_
 have I1:Inv X pins σ H { s with heap:=h' }:=I.kept (t':=s.toks) λb o e=>hx b o (aaF (aan e)) e
 exact h pins _ σ H xs _ Q I1 (by simpa using rv) hw
def bG(to ti:TE)(t:JK):TG:=λv σ H Q=>to σ H λo H1=>ti σ H1 λi H2=>t o i v H2 λH3=>Q σ H3
theorem N4{o i:abl}{to ti:TE}{t:JK}(ho:PE X o to)(hi:PE X i ti)(hs:QK X t)
  (ha:∀v,agA (.Subscript o i pos) X.env v=(do
   let ov <-afi [v] (adL o X.env)
   let iv <-afi [v,ov] (adL i X.env)
   standAt pos
   afi [v,ov,iv] (setItem ov iv v)
   release [v,ov,iv] []):=by intro _;rfl):PG X (.Subscript o i pos) (bG to ti t):=by
 intro pins s σ H v u Q I r h;rw[ha];refine Zu (aaP (bN (ho pins s σ H _ I h) λov s1 bg=>?_));obtain⟨x,H1,I1,r1,q1⟩:=bg;refine Zu (aaP (bN (hi pins s1 σ H1 _ I1 q1) λiv s2 bg=>?_));obtain⟨y,H2,I2,r2,q2⟩:=bg;refine Zu (aeh (Zu (aaP (bN (hs pins s2 σ H2 x y v ov iv u _ I2 r1 r2 r q2) λ_ s3 bg=>?_))));obtain⟨H3,I3,q3⟩:=bg;exact wpAny_release ⟨σ,H3,I3,q3⟩
def JM(te:TE)(g:TG):TS:=λD σ H=>te σ H λx H1=>g x σ H1 D.nx
theorem N5{tg e:abl}{te:TE}{g:TG}(he:PE X e te)(hg:PG X tg g)(hs:aei [tg] e pos.line X.env=pure false:=by rfl)(hw:aej [tg] e X.env=pure af:=by rfl)
  (h1:(ab5 [tg] X.env).map (·.2)=[agA tg X.env]:=by rfl):PS X (.Assign [tg] e pos) (JM te g):=by
 intro pins s σ H D I h;refine wpAny_Assign_stores (bN (he pins s σ H _ I h) λv s1 bg=>?_) hs hw;obtain⟨x,H1,I1,r1,q1⟩:=bg;rw[h1];exact bN (hg pins s1 σ H1 x v _ I1 r1 q1) λ_ s2 q=>q
theorem N7{i:Nat}{x:Str}{e:abl}{te:TE}{pos':Pos}(hN:X.N.Nodup)(hi:X.N[i]? =ae x)(hx:Loc X.env.scope x)(he:PE X e te)(hs:aeP e (ae (.Name x pos')) pos.line X.env=pure false:=by rfl)(hf:X.fn x=true\/X.env.scope.names.lookup x=ae .local:=by first|exact .inl rfl|exact .inr rfl|assumption):
  PS X (.Assign [.Name x pos'] e pos) (JM te (ay i)):=by
 intro pins s σ H D I h;refine wpAny_Assign_Name (bN (he pins s σ H _ I h) λv s1 bg=>?_) hs;obtain⟨y,H1,I1,r1,q1⟩:=bg;exact je I1 hN hi hx r1 (λs2 I2=>⟨_,H1,I2,q1⟩) hf
def Vx(i j:Nat)(ta:TA):TS:=λD σ H=>ta σ H λvs H1=>∃v w,vs=[v,w]/\D.nx ((σ.set i (ae v)).set j (ae w)) H1
theorem N8{i j:Nat}{x y:Str}{a b:abl}{ta:TA}{px py pt:Pos}{kt k2 rV}(hc:X.calm=true)(hN:X.N.Nodup)(hi:X.N[i]? =ae x)(hj:X.N[j]? =ae y)(rW:i≠j)
  (hx:X.env.scope.names.lookup x=ae .local)(hy:X.env.scope.names.lookup y=ae .local)(ha:PA X [a,b] ta)
  (hw:aej [.Tuple [.Name x px,.Name y py] kt pt] (.Tuple [a,b] k2 rV) X.env=pure (ae [x,y]))
  (hs:aei [.Tuple [.Name x px,.Name y py] kt pt] (.Tuple [a,b] k2 rV) pos.line X.env=pure false:=by rfl):
  PS X (.Assign [.Tuple [.Name x px,.Name y py] kt pt] (.Tuple [a,b] k2 rV) pos) (Vx i j ta):=by
 intro pins s σ H D I h;rw[exec_Assign_arm];refine Zu (aeh ?_);rw[hs];refine Zu (aad ?_);rw[if_neg (by decide)];refine Zu (Tuple_ (bN (ha _ pins s σ H _ I h) λus s1 bg=>?_));obtain⟨vs,H1,I1,r1,q1⟩:=bg;obtain⟨v,w,e1,q1⟩:=q1;subst e1;obtain⟨u1,u2,rfl,rv,wM⟩:∃u1 u2,us=[u1,u2]/\RelV v u1/\RelV w u2:=by
  cases r1 with
  |cons p q=>
   cases q with
   |cons p' q'=>
    cases q';exact⟨_,_,rfl,p,p'⟩
 refine aaH ?_ (by show 2<=sizeLine;decide);have I2:Inv X pins σ H1 { s1 with heap:=s1.heap.push { cls:=.type "tuple",data:=.seq [u1,u2].toArray } }:=I1.kept (t':=s1.toks) λb o e=>aab _ e
 rw[hw];refine Zu (aad ?_);show aat (aaL X.prog X.w) X.A (do rule "assign.swapped-stores";let items <-ag7 (.ref s1.heap.objs.size) 2 af;ae8 [λv=>ae9 X.env y v,λv=>ae9 X.env x v] items.reverse;pure aif) _ _ _;refine Zu (acD (Zu (unpackItems_tuple (items:=#[u1,u2]) (I.ok.hd hc) (aih s1.heap _) λh' gq=>?_)));have I3:=I2.kept (h':=h') (t':=s1.toks) λb o e=>gq b o (aaF (aan e)) e
 show aat _ _ (ae8 [λv=>ae9 X.env y v,λv=>ae9 X.env x v] [u2,u1] >>= λ_=>pure aif) _ _ _;refine Zu (acZ (aeJ (je I3 hN hj (.inl hy) wM (λs2 I4=>?_) (.inr hy))));refine acZ (aeJ (je I4 hN hi (.inl hx) rv (λs3 I5=>afK (aad ?_)) (.inr hx)));rw[af1 _ _ (acu rW)]at I5;exact⟨_,H1,I5,q1⟩
end
section
variable{X:Cx}{pos:Pos}
def N9(c:TT)(tb:TS):TS:=λD σ H=>∃W:Nat->St->Hp->Prop,(∃m,W m σ H)/\∀m σ H,W m σ H->
 c σ H λb H1=>if b=true then ∃N:St->Hp->Prop,(∀σ' H',N σ' H'->∃m',m'<m/\W m' σ' H')/\tb { D with nx:=N,ct:=N,bk:=D.nx } σ H1 else D.nx σ H1
theorem HL{c:abl}{body:List Stmt}{tc:TT}{tb:TS}(hp:aii (aaL X.prog X.w) X.A X.env X.xe)(hc:PT X c tc)(hb:oH X body tb):PS X (.While c body [] pos) (N9 tc tb):=by
 intro pins s σ H D I h;obtain⟨W,⟨m0,w0⟩,turn⟩:=h;refine wpAny_While (codeAny_whileLoop (λn s'=>∃σ' H',Inv X pins σ' H' s'/\W n σ' H') ?_ m0 ⟨σ,H,I,w0⟩);rintro n s1 ⟨σ1,H1,I1,w1⟩;refine adh hp (bN (hc pins s1 σ1 H1 _ I1 (turn n σ1 H1 w1)) λb s2 bg=>?_);obtain⟨H2,I2,q2⟩:=bg;cases b with
 |true=>
  obtain⟨N,hN,q2⟩:=q2;rw[if_pos rfl];refine adh hp (bN (hb pins s2 σ1 H2 _ I2 q2) λf s3 q3=>?_);cases f with
  |next=>
   obtain⟨qH,H3,I3,n3⟩:=q3;obtain⟨m',hm,w3⟩:=hN qH H3 n3;exact⟨m',hm,qH,H3,I3,w3⟩
  |cont=>
   obtain⟨qH,H3,I3,n3⟩:=q3;obtain⟨m',hm,w3⟩:=hN qH H3 n3;exact⟨m',hm,qH,H3,I3,w3⟩
  |brk=>exact q3
  |ret v=>exact q3
 |false=>
  rw[if_neg aaz];exact afj ⟨σ1,H2,I2,q2⟩
end
structure It where
 go:Nat->Hp->Prop
 HM:Nat->Hp->V->Hp->Prop
 stop:Nat->Hp->Prop
def jc(X:Cx)(pins:List (Addr×Obj))(H:Hp)(b:Addr):Prop:=
 H b=af/\b≠X.env.locals/\b∉X.fs/\(b∈X.ex\/X.bJ.heap.objs.size<=b)/\(∀x c,X.env.cells.lookup x=ae c->c≠b)/\∀p∈X.pn++pins,p.1≠b
theorem Inv.s_{X:Cx}{pins:List (Addr×Obj)}{σ:St}{H H':Hp}{s:aah}{b:Addr}(I:Inv X pins σ H s)(hb:s.heap.objs.size<=b)(hn:H' b=af):jc X pins H' b:=by
 refine⟨hn,ac0 (aaB I.lt hb),I.QH hb,.inr (aa7 I.sz hb),λx c e z=>?_,λp hp z=>?_⟩
 .obtain⟨v,q⟩:=I.cell x c e
  exact absurd (aaB q.lt (by rw[z];exact hb)) (aaZ _)
 .exact absurd (aaB (aan (I.pin p hp).1) (by rw[z];exact hb)) (aaZ _)
structure Turn(P:aaD)(w:aa9)(K:aaa)(tg:abl)(J:It)(fp:List Addr)(it:Addr)(tn:Nat->Heap->Prop):Prop where
 mem:it∈fp
 obj:∀i h,tn i h->∀b∈fp,∃o,h.get? b=ae o/\∀v,o.data≠.cell v
 keep:∀i h h',tn i h->(∀b∈fp,∀o,h.get? b=ae o->h'.get? b=ae o)->tn i h'
 item:∀(X:Cx),X.prog=P->X.w=w->X.K=K->X.calm=true->∀(i:Nat) (pins:List (Addr×Obj)) (s:aah) (σ:St) (H:Hp) (E:aai->aah->Prop),Inv X pins σ H s->(∀b∈fp,jc X pins H b)->tn i s.heap->J.go i H->
  aat (aaL P w) X.A (adS (.ref it)) (λr s1=>∃u,r=ae u/\
   aat (aaL P w) X.A (adi tg (.ref it) u) (λ_ s2=>∃x H',Inv X pins σ H' s2/\RelV x u/\J.HM i H x H'/\tn (i+1) s2.heap/\∀b∈fp,H' b=af) E s1) E s
 done:∀(X:Cx),X.prog=P->X.w=w->X.K=K->X.calm=true->∀(i:Nat) (pins:List (Addr×Obj)) (s:aah) (σ:St) (H:Hp) (E:aai->aah->Prop),Inv X pins σ H s->(∀b∈fp,jc X pins H b)->tn i s.heap->J.stop i H->
  aat (aaL P w) X.A (adS (.ref it)) (λr s1=>r=af/\Inv X pins σ H s1) E s
 self:∀(A:aa4) (i:Nat) (s:aah) (Q:aai->aah->Prop) (E:aai->aah->Prop),tn i s.heap->Q (.ref it) s->aat (aaL P w) A (aiJ (.ref it)) Q E s
abbrev TI:=St->Hp->(It->Hp->Prop)->Prop
def RM(X:Cx)(pins:List (Addr×Obj))(σ:St)(tg:abl)(R:It->Hp->Prop)(N_:aai)(s2:aah):Prop:=
 ∃(it:Addr) (fp:List Addr) (tn:Nat->Heap->Prop) (J:It) (H':Hp),N_= .ref it/\Inv X pins σ H' s2/\Turn X.prog X.w X.K tg J fp it tn/\tn 0 s2.heap/\(∀b∈fp,jc X pins H' b)/\R J H'
namespace Zu
set_option allowUnsafeReducibility true in
@[scoped irreducible] def _root_.L2.PI(X:Cx)(tg iter:abl)(wi:TI):Prop:=
 ∀(pins:List (Addr×Obj)) (s:aah) (σ:St) (H:Hp) (R:It->Hp->Prop),Inv X pins σ H s->wi σ H R->
  aat (aaL X.prog X.w) X.A (adL iter X.env) (λv s1=>aat (aaL X.prog X.w) X.A (aiJ v) (RM X pins σ tg R) X.xe s1) X.xe s
end Zu
variable{tg:abl}
theorem xM{M:Model}{A:aa4}{s:aah}{it:Addr}{u:aai}{o:Obj}{n:String}{vs:Array aai}{Q:Unit->aah->Prop}(ho:s.heap.get? it=ae o)(hc:o.cls= .type n)(hd:o.data= .fields vs)
  (hn: ["enumerate","zip","dict_itemiterator","dict_reverseitemiterator","odict_iterator","itertools.zip_longest","itertools.pairwise"].contains n=false)(hQ:Q () s):aat M A (adi tg (.ref it) u) Q E s:=by
 unfold adi;cases tg<;>first
  |exact aad hQ
  |(cases u<;>first
    |exact aad hQ
    |(refine Zu (wpAny_load ho ?_)
      rw[hc,hd];show aat M A (if (["enumerate","zip","dict_itemiterator","dict_reverseitemiterator","odict_iterator","itertools.zip_longest","itertools.pairwise"].contains n&&vs[0]?==ae (aev _))=true then _ else _) Q E s;rw[if_neg (by intro h;rw[hn,agZ]at h;cases h)];exact aad hQ))
def Vy(K:aaa)(a:Addr):It:=
 ⟨λi H=>∃xs x,b8 K H a xs/\xs[i]? =ae x,λi H x H'=>H'=H/\∀xs,b8 K H a xs->xs[i]? =ae x,λi H=>∃xs,b8 K H a xs/\xs.length<=i⟩
def Vz(K:aaa)(a:Addr):It:=
 ⟨λi H=>∃xs x,b_ K H a xs/\xs[i]? =ae x,λi H x H'=>H'=H/\∀xs,b_ K H a xs->xs[i]? =ae x,λi H=>∃xs,b_ K H a xs/\xs.length<=i⟩
def JO(lo:Int)(n:Nat):It:=⟨λi _=>i<n,λi H x H'=>H'=H/\x= .int (lo+i),λi _=>n<=i⟩
theorem E5{P:aaD}{w:aa9}{K:aaa}(a it:Addr):Turn P w K tg (Vy K a) [it] it (λi h=>h.IsListIter it a i) where
 mem:=by simp
 obj:=λi h st b hb=>by
  have e:b=it:=by simpa using hb
  subst e;obtain⟨o,e,c,d⟩:=st;exact⟨o,e,λv z=>by rw[d]at z;cases z⟩
 keep:=λi h h' st k=>st.at λo e=>k it (by simp) o e
 item:=by
  intro X hP hw hK hc i pins s σ H E I hf st hg;subst hP hw hK;obtain⟨xs,x,hq,hx⟩:=hg;obtain⟨its,rv,p,hz⟩:=I.list hq;obtain⟨u,hu,ru⟩:=rv.get hx;obtain⟨f0,f1,f2,f3,f4,f5⟩:=hf it (by simp);refine agl st p.isList (x:=u) (by simpa using hu) λh' qI sb=>?_
  have I1:Inv X pins σ H { s with heap:=h' }:=I.turned (t':=s.toks) (λb o hb e=>(sb.2 b hb).trans e) f0 f1 f3 f4 f5;obtain⟨o,e,c,d⟩:=id qI;exact⟨u,rfl,xM (s:={ s with heap:=h' }) e c d (by decide) ⟨x,H,I1,ru,⟨rfl,λys hy=>by rw[I.mC hy hq];exact hx⟩,qI,λb hb=>(hf b hb).1⟩⟩
 done:=by
  intro X hP hw hK hc i pins s σ H E I hf st hg;subst hP hw hK;obtain⟨xs,hq,hx⟩:=hg;obtain⟨its,rv,p,hz⟩:=I.list hq;obtain⟨f0,f1,f2,f3,f4,f5⟩:=hf it (by simp);have hl:=rv.length;exact agB (I.ok.hd hc) st p.isList (by simp;omega) λh' eb=>⟨rfl,I.turned (t':=s.toks) (λb o hb e=>eb b o hb e) f0 f1 f3 f4 f5⟩
 self:=λ_ _ _ _ _ st h=>wpAny_pyIter_listiter st h
theorem CT{P:aaD}{w:aa9}{K:aaa}(a it:Addr):Turn P w K tg (Vz K a) [it] it (λi h=>h.IsTupleIter it a i) where
 mem:=by simp
 obj:=λi h st b hb=>by
  have e:b=it:=by simpa using hb
  subst e;obtain⟨o,e,c,d⟩:=st;exact⟨o,e,λv z=>by rw[d]at z;cases z⟩
 keep:=λi h h' st k=>st.at λo e=>k it (by simp) o e
 item:=by
  intro X hP hw hK hc i pins s σ H E I hf st hg;subst hP hw hK;obtain⟨xs,x,hq,hx⟩:=hg;obtain⟨its,rv,p,hz⟩:=I.tuple hq;obtain⟨u,hu,ru⟩:=rv.get hx;obtain⟨f0,f1,f2,f3,f4,f5⟩:=hf it (by simp);refine wpAny_pyNext_tuple_item st (show s.heap.IsTuple a its.toArray from p) (x:=u) (by simpa using hu) λh' qI sb=>?_
  have I1:Inv X pins σ H { s with heap:=h' }:=I.turned (t':=s.toks) (λb o hb e=>(sb.2 b hb).trans e) f0 f1 f3 f4 f5;obtain⟨o,e,c,d⟩:=id qI;exact⟨u,rfl,xM (s:={ s with heap:=h' }) e c d (by decide) ⟨x,H,I1,ru,⟨rfl,λys hy=>by rw[I.rS hy hq];exact hx⟩,qI,λb hb=>(hf b hb).1⟩⟩
 done:=by
  intro X hP hw hK hc i pins s σ H E I hf st hg;subst hP hw hK;obtain⟨xs,hq,hx⟩:=hg;obtain⟨its,rv,p,hz⟩:=I.tuple hq;obtain⟨f0,f1,f2,f3,f4,f5⟩:=hf it (by simp);have hl:=rv.length;exact wpAny_pyNext_tuple_end (I.ok.hd hc) st (show s.heap.IsTuple a its.toArray from p) (by simp;omega) λh' eb=>⟨rfl,I.turned (t':=s.toks) (λb o hb e=>eb b o hb e) f0 f1 f3 f4 f5⟩
 self:=λ_ _ _ _ _ st h=>wpAny_pyIter_tupleiter st h
theorem CU{P:aaD}{w:aa9}{K:aaa}(it:Addr)(lo:Int)(n:Nat):Turn P w K tg (JO lo n) [it] it (λi h=>ag8 h it (lo+(i:Nat)*1) ((n:Int) - (i:Nat)) 1) where
 mem:=by simp
 obj:=λi h st b hb=>by
  have e:b=it:=by simpa using hb
  subst e;exact⟨_,st,λv z=>by
   have z':Data.fields _=Data.cell v:=z;cases z'⟩
 keep:=λi h h' st k=>k it (by simp) _ st
 item:=by
  intro X hP hw hK hc i pins s σ H E I hf st hg;subst hP hw hK;obtain⟨f0,f1,f2,f3,f4,f5⟩:=hf it (by simp);have W:=Walks.range (prog:=X.prog) (w:=X.w) (I.ok.hd hc) it lo 1 n;refine W.item i s _ _ hg st λv h' tk hv qI kk=>?_
  obtain⟨t,rfl⟩:=hv;have I1:Inv X pins σ H { s with heap:=h',toks:=tk }:=I.turned (λb o hb e=>kk b o (by simpa using hb) e) f0 f1 f3 f4 f5;refine⟨_,rfl,xM (s:={ s with heap:=h',toks:=tk }) (n:="range_iterator") qI rfl rfl (by decide) ⟨.int (lo+i),H,I1,⟨t,?_⟩,⟨rfl,rfl⟩,qI,λb hb=>(hf b hb).1⟩⟩;rw[Int.mul_one]
 done:=by
  intro X hP hw hK hc i pins s σ H E I hf st hg;subst hP hw hK;obtain⟨f0,f1,f2,f3,f4,f5⟩:=hf it (by simp);exact agm (I.ok.hd hc) st (by have:n<=i:=hg;omega) λh' eb=>⟨rfl,I.turned (t':=s.toks) (λb o hb e=>eb b o hb e) f0 f1 f3 f4 f5⟩
 self:=λ_ _ _ _ _ st h=>agn st h
end L2
namespace L2
open PySem PySem.Spec PyProof.Rows
section
variable{X:Cx}{tg:abl}
def RN(K:aaa)(tl:TE):TI:=λσ H R=>tl σ H λx H1=>∃a,x= .ref a/\(∃xs,b8 K H1 a xs)/\R (Vy K a) H1
def kh(K:aaa)(tl:TE):TI:=λσ H R=>tl σ H λx H1=>∃a,x= .ref a/\(∃xs,b_ K H1 a xs)/\R (Vz K a) H1
theorem JP{l:abl}{tl:TE}(hl:PE X l tl):PI X tg l (RN X.K tl):=by
 intro pins s σ H R I h;refine bN (hl pins s σ H _ I h) λv s1 bg=>?_
 obtain⟨x,H1,I1,r1,q1⟩:=bg;obtain⟨a,e,⟨xs,hq⟩,q⟩:=q1;subst e;cases r1;obtain⟨its,rv,p,hz⟩:=I1.list hq;refine adj p.isList ?_;refine⟨s1.heap.objs.size,[s1.heap.objs.size],_,_,H1,rfl,I1.kept (t':=s1.toks) λb o e=>aab _ e,E5 a _,⟨_,aal _ rfl,rfl,rfl⟩,λb hb=>?_,q⟩;have e:b=s1.heap.objs.size:=by simpa using hb
 subst e;exact I1.s_ (aam _) (I1.bc.fresh (aam _))
theorem Oa{l:abl}{tl:TE}(hl:PE X l tl):PI X tg l (kh X.K tl):=by
 intro pins s σ H R I h;refine bN (hl pins s σ H _ I h) λv s1 bg=>?_
 obtain⟨x,H1,I1,r1,q1⟩:=bg;obtain⟨a,e,⟨xs,hq⟩,q⟩:=q1;subst e;cases r1;obtain⟨its,rv,p,hz⟩:=I1.tuple hq;refine adJ (show s1.heap.IsTuple a its.toArray from p) ?_;refine⟨s1.heap.objs.size,[s1.heap.objs.size],_,_,H1,rfl,I1.kept (t':=s1.toks) λb o e=>aab _ e,CT a _,⟨_,aal _ rfl,rfl,rfl⟩,λb hb=>?_,q⟩;have e:b=s1.heap.objs.size:=by simpa using hb
 subst e;exact I1.s_ (aam _) (I1.bc.fresh (aam _))
variable{pins:List (Addr×Obj)}
theorem zU{σ:St}{H:Hp}{s:aah}{R:It->Hp->Prop}{E:aai->aah->Prop}{lo hi:Int}{t u v:Tok}{tk:Nat}(I:Inv X pins σ H s)(h1: -(2 ^ 62)<=lo)(h2:lo<2 ^ 62)(h3: -(2 ^ 62)<=hi)(h4:hi<2 ^ 62)
  (q:R (JO lo (hi - lo).toNat) H):aat (aaL X.prog X.w) X.A (aiJ (.ref s.heap.objs.size)) (RM X pins σ tg R) E { s with heap:=s.heap.push { cls:=.type "range",data:=.fields #[.int lo t,.int hi u,.int 1 v] },toks:=tk }:=by
 refine ahq (aiT ..) (small_one h1 h2 h3 h4) ?_;have I1:Inv X pins σ H { s with heap:=s.heap.push { cls:=.type "range",data:=.fields #[.int lo t,.int hi u,.int 1 v] },toks:=tk }:=I.kept λb o e=>aab _ e
 refine⟨(s.heap.push { cls:=.type "range",data:=.fields #[.int lo t,.int hi u,.int 1 v] }).objs.size,[(s.heap.push { cls:=.type "range",data:=.fields #[.int lo t,.int hi u,.int 1 v] }).objs.size],_,_,H,rfl,
  I1.kept (t':=tk) λb o e=>aab _ e,CU _ lo (hi - lo).toNat,?_,λb hb=>?_,q⟩
 .have e1:lo+((0:Nat):Int)*1=lo:=by simp
  have e2:(((hi - lo).toNat:Nat):Int) - ((0:Nat):Int)=acz lo hi 1:=by rw[rangeSize_one];split<;>omega
  show ag8 _ _ (lo+((0:Nat):Int)*1) ((((hi - lo).toNat:Nat):Int) - ((0:Nat):Int)) 1;rw[e1,e2];exact aal _ rfl
 .have e:b=(s.heap.push { cls:=.type "range",data:=.fields #[.int lo t,.int hi u,.int 1 v] }).objs.size:=by simpa using hb
  subst e;exact I1.s_ (aam _) (I1.bc.fresh (aam _))
def bF(ta:TA):TI:=λσ H R=>ta σ H λvs H1=>∃j:Int,vs=[.int j]/\-(2 ^ 62)<=j/\j<2 ^ 62/\R (JO 0 j.toNat) H1
def ki(ta:TA):TI:=λσ H R=>ta σ H λvs H1=>∃i j:Int,vs=[.int i,.int j]/\(-(2 ^ 62)<=i/\i<2 ^ 62/\-(2 ^ 62)<=j/\j<2 ^ 62)/\R (JO i (j - i).toNat) H1
theorem E6{a:abl}{ta:TA}{p pos:Pos}(hg:Gl X "range")(hm:X.mg "range" =af)(ha:PA X [a] ta)(hs:aau [a] X.env=[(false,adL a X.env)]:=by rfl):PI X tg (.Call (.Name "range" p) [a] [] pos) (bF ta):=by
 intro pins s σ H R I h;refine Call_ (iM I hg hm boot_range (aa0 (bN (ha pos pins s σ H _ I h) λus s1 bg=>?_) hs rfl));obtain⟨vs,H1,I1,r1,q1⟩:=bg;obtain⟨j,e,q1,q2,q⟩:=q1;subst e;cases r1 with
 |cons r rr=>
  cases rr;obtain⟨t,rfl⟩:=r;exact call_range_1 (zU I1 (by omega) (by omega) q1 q2 (by simpa using q))
theorem E7{a b:abl}{ta:TA}{p pos:Pos}(hg:Gl X "range")(hm:X.mg "range" =af)(ha:PA X [a,b] ta)(hs:aau [a,b] X.env=[(false,adL a X.env),(false,adL b X.env)]:=by rfl)(mD:aau [b] X.env=[(false,adL b X.env)]:=by rfl):
  PI X tg (.Call (.Name "range" p) [a,b] [] pos) (ki ta):=by
 intro pins s σ H R I h;refine Call_ (iM I hg hm boot_range (aa0 (bN (ha pos pins s σ H _ I h) λus s1 bg=>?_) (by rw[hs,mD]) (by rw[mD];rfl)));obtain⟨vs,H1,I1,r1,q1⟩:=bg;obtain⟨i,j,e,⟨q1,q2,q3,q4⟩,q⟩:=q1;subst e;cases r1 with
 |cons r rr=>
  cases rr with
  |cons r' rr=>
   cases rr;obtain⟨t,rfl⟩:=r;obtain⟨t',rfl⟩:=r';exact call_range_2 (zU I1 q1 q2 q3 q4 q)
def VA(wi:TI)(g:TG)(tb:TS):TS:=λD σ H=>wi σ H λJ H1=>∃W:Nat->Nat->St->Hp->Prop,(∃m,W 0 m σ H1)/\∀i m σ H,W i m σ H->
 (J.stop i H/\D.nx σ H)\/(J.go i H/\∃N:St->Hp->Prop,(∀σ' H',N σ' H'->∃m',m'<m/\W (i+1) m' σ' H')/\∀x H',J.HM i H x H'->g x σ H' λzC H2=>tb { D with nx:=N,ct:=N,bk:=D.nx } zC H2)
def tf(fp:List Addr)(h:Heap):List (Addr×Obj):=fp.filterMap λb=>(h.get? b).map λo=>(b,o)
variable{fp:List Addr}
theorem lE{h:Heap}{b:Addr}{o:Obj}(hb:b∈fp)(e:h.get? b=ae o):(b,o)∈tf fp h:=aeg.mpr ⟨b,hb,by rw[e];rfl⟩
theorem E8{h:Heap}{p:Addr×Obj}(hp:p∈tf fp h):p.1∈fp/\h.get? p.1=ae p.2:=by
 obtain⟨b,hb,e⟩:=aeg.mp hp;cases q:h.get? b with
 |none=>rw[q]at e;cases e
 |some o=>
  rw[q]at e;have e':(b,o)=p:=aaI e;subst e';exact⟨hb,q⟩
theorem Inv.pinned{σ:St}{H:Hp}{s:aah}(I:Inv X pins σ H s)(hf:∀b∈fp,jc X pins H b)(ho:∀b∈fp,∃o,s.heap.get? b=ae o/\∀v,o.data≠.cell v):Inv X (pins++tf fp s.heap) σ H s:=
 I.xJ λp hp=>(aaJ.mp hp).elim (λz=>I.pin p (aaT _ z)) λz=>by
  obtain⟨hb,e⟩:=E8 z;obtain⟨f0,f1,f2,_⟩:=hf p.1 hb;obtain⟨o,e',d⟩:=ho p.1 hb;rw[e]at e';cases e';exact⟨e,f0,f1,f2,d⟩
theorem Inv.mE{pl:List (Addr×Obj)}{σ:St}{H:Hp}{s:aah}(I:Inv X (pins++pl) σ H s):Inv X pins σ H s:=I.xJ λp hp=>I.pin p (aaT _ (ad1 _ hp))
theorem Ob{iter:abl}{body:List Stmt}{wi:TI}{g:TG}{tb:TS}{pos:Pos}(hp:aii (aaL X.prog X.w) X.A X.env X.xe)(hc:X.calm=true)(hi:PI X tg iter wi)(hg:PG X tg g)(hb:oH X body tb)
  (hs:∀x,adk iter X.env x=pure x:=by intro _;rfl):PS X (.For tg iter body [] pos) (VA wi g tb):=by
 intro pins s σ H D I h;refine wpAny_For (bN (hi pins s σ H _ I h) λv s1 h1=>bN h1 λN_ s2 h2=>?_) hs;obtain⟨it,fp,tn,J,H2,e,I2,T,oI,f2,W,⟨m0,w0⟩,turn⟩:=h2;subst e
 -- abJ stays true of xN QL objects through xN loop
 have JQ:∀{H':Hp},(∀b∈fp,H' b=af)->∀b∈fp,jc X pins H' b:=λhn b hb=>⟨hn b hb,(f2 b hb).2⟩
 refine codeAny_forLoop_any (λn s'=>∃i σ' H',Inv X pins σ' H' s'/\tn i s'.heap/\(∀b∈fp,H' b=af)/\W i n σ' H') ?_ m0 ⟨0,σ,H2,I2,oI,λb hb=>(f2 b hb).1,w0⟩;rintro n s3 ⟨i,qH,H3,I3,VB,VC,w3⟩;rcases turn i n qH H3 w3 with⟨stop,qn⟩|⟨go,N,hN,step⟩
 .refine adh hp (bN (T.done X rfl rfl rfl hc i pins s3 qH H3 X.xe I3 (JQ VC) VB stop) λr s4 bg=>?_)
  obtain⟨hr,I4⟩:=bg;subst hr;exact afj ⟨qH,H3,I4,qn⟩
 .refine adh hp (bN (T.item X rfl rfl rfl hc i pins s3 qH H3 X.xe I3 (JQ VC) VB go) λr s4 bg=>?_)
  obtain⟨u,hr,h4⟩:=bg;subst hr;refine adh hp (bN h4 λ_ s5 bg=>?_);obtain⟨x,H5,I5,r5,y5,RO,Yt⟩:=bg;have RP:=I5.pinned (JQ Yt) (T.obj _ _ RO);refine adh hp (bN (hg _ s5 qH H5 x u _ RP r5 (step x H5 y5)) λ_ s6 bg=>?_);obtain⟨RQ,H6,I6,q6⟩:=bg;refine adh hp (bN (hb _ s6 RQ H6 _ I6 q6) λf s7 q7=>?_);have again:∀{xO:St}{H7:Hp},Inv X (pins++tf fp s5.heap) xO H7 s7->N xO H7->∃m,m<n/\∃i σ' H',Inv X pins σ' H' s7/\tn i s7.heap/\(∀b∈fp,H' b=af)/\W i m σ' H':=λ{xO H7} I7 n7=>by
   obtain⟨m',hm,w7⟩:=hN xO H7 n7;refine⟨m',hm,i+1,xO,H7,I7.mE,T.keep _ _ _ RO λb hb o e=>(I7.pin (b,o) (aaT _ (aaT _ (lE hb e)))).1,λb hb=>?_,w7⟩;obtain⟨o,e,d⟩:=T.obj _ _ RO b hb;exact(I7.pin (b,o) (aaT _ (aaT _ (lE hb e)))).2.1
  cases f with
  |next=>obtain⟨xO,H7,I7,n7⟩:=q7;exact again I7 n7
  |cont=>obtain⟨xO,H7,I7,n7⟩:=q7;exact again I7 n7
  |brk=>obtain⟨xO,H7,I7,q7⟩:=q7;exact⟨xO,H7,I7.mE,q7⟩
  |ret v=>obtain⟨x7,xO,H7,I7,r7,q7⟩:=q7;exact⟨x7,xO,H7,I7.mE,r7,q7⟩
end
end L2
namespace L2
open PySem PySem.Spec PyProof.Rows
abbrev R2:=V->V->Hp->VK->Prop
def eZ(X:Cx)(f:aai->aai->Sem aai)(r:R2):Prop:=
 ∀(pins:List (Addr×Obj)) (s:aah) (σ:St) (H:Hp) (x y:V) (v u:aai) (Q:VK),Inv X pins σ H s->RelV x v->RelV y u->r x y H Q->
  aat (aaL X.prog X.w) X.A (f v u) (EP X pins σ Q) X.xe s
def RT(X:Cx)(f:aai->Sem aai)(r:V->Hp->VK->Prop):Prop:=
 ∀(pins:List (Addr×Obj)) (s:aah) (σ:St) (H:Hp) (x:V) (v:aai) (Q:VK),Inv X pins σ H s->RelV x v->r x H Q->
  aat (aaL X.prog X.w) X.A (f v) (EP X pins σ Q) X.xe s
def eR(X:Cx)(f:aai)(r:List V->Hp->VK->Prop):Prop:=
 ∀(pins:List (Addr×Obj)) (s:aah) (σ:St) (H:Hp) (xs:List V) (us:List aai) (Q:VK),Inv X pins σ H s->Vals xs us->r xs H Q->
  aat (aaL X.prog X.w) X.A (call f us) (EP X pins σ Q) X.xe s
def JR(r:R2)(ta tb:TE):TE:=λσ H Q=>ta σ H λx H1=>tb σ H1 λy H2=>r x y H2 Q
def Yu(r:V->Hp->VK->Prop)(ta:TE):TE:=λσ H Q=>ta σ H λx H1=>r x H1 Q
def rI(C:Int->Int->Prop)(g:Int->Int->V):R2:=λx y H Q=>∃i j,x= .int i/\y= .int j/\C i j/\Q (g i j) H
def qJ(g:Int->Int->V):R2:=λx y H Q=>∃i j,x= .int i/\y= .int j/\Q (g i j) H
def rU(g:Int->V):V->Hp->VK->Prop:=λx H Q=>∃i,x= .int i/\Q (g i) H
section
variable{X:Cx}{a b c:abl}{ta tb tc:TE}{pos:Pos}
variable{f:aai->aai->Sem aai}
theorem JS(ha:PE X a ta)(hb:PE X b tb){pins:List (Addr×Obj)}{s:aah}{σ:St}{H:Hp}{R:V->V->Hp->Prop}(I:Inv X pins σ H s)
  (h:ta σ H λx H1=>tb σ H1 λy H2=>R x y H2){Q:aai->aah->Prop}
  (hf:∀v u s2 x y H2,Inv X pins σ H2 s2->RelV x v->RelV y u->R x y H2->aat (aaL X.prog X.w) X.A (f v u) Q X.xe s2):
  aat (aaL X.prog X.w) X.A (adL a X.env) (λv bS=>aat (aaL X.prog X.w) X.A (adL b X.env) (λu mB=>aat (aaL X.prog X.w) X.A (f v u) Q X.xe mB) X.xe bS) X.xe s:=by
 refine bN (ha pins s σ H _ I h) λv s1 bg=>?_
 obtain⟨x,H1,I1,r1,q1⟩:=bg;refine bN (hb pins s1 σ H1 _ I1 q1) λu s2 bg=>?_
 obtain⟨y,H2,I2,r2,q2⟩:=bg;exact hf v u s2 x y H2 I2 r1 r2 q2
theorem RU{op:Operator}{r:R2}(ho:eZ X (aek op) r)(ha:PE X a ta)(hb:PE X b tb):PE X (.BinOp a op b pos) (JR r ta tb):=by
 intro pins s σ H Q I h;exact wpAny_BinOp (JS ha hb I h λv u s2 x y H2 I2 rx ry q=>ho pins s2 σ H2 x y v u Q I2 rx ry q)
theorem RV{op:UnaryOp}{r:V->Hp->VK->Prop}(ho:RT X (unaryOp op) r)(ha:PE X a ta):PE X (.UnaryOp op a pos) (Yu r ta):=by
 intro pins s σ H Q I h;exact UnaryOp_ (bN (ha pins s σ H _ I h) λv s1 ⟨x,H1,I1,r1,q1⟩=>ho pins s1 σ H1 x v Q I1 r1 q1)
variable{g:Int->Int->Int}
theorem Oc{C:Int->Int->Prop}
  (rule:∀(i j:Int) (t u:Tok) (s:aah) (Q:aai->aah->Prop) (E:aai->aah->Prop),C i j->Q (.int (g i j) s.toks) { s with toks:=s.toks+1 }->aat (aaL X.prog X.w) X.A (f (.int i t) (.int j u)) Q E s):
  eZ X f (rI C λi j=>.int (g i j)):=by
 intro pins s σ H x y v u Q I rx ry h;obtain⟨i,j,rfl,rfl,hc,q⟩:=h;obtain⟨t,rfl⟩:=rx;obtain⟨t',rfl⟩:=ry;exact rule i j t t' s _ _ hc ⟨.int (g i j),H,I.tok _,⟨_,rfl⟩,q⟩
theorem QM
  (rule:∀(i j:Int) (t u:Tok) (s:aah) (Q:aai->aah->Prop) (E:aai->aah->Prop),Q (.int (g i j) s.toks) { s with toks:=s.toks+1 }->aat (aaL X.prog X.w) X.A (f (.int i t) (.int j u)) Q E s):
  eZ X f (qJ λi j=>.int (g i j)):=by
 intro pins s σ H x y v u Q I rx ry h;obtain⟨i,j,rfl,rfl,q⟩:=h;obtain⟨t,rfl⟩:=rx;obtain⟨t',rfl⟩:=ry;exact rule i j t t' s _ _ ⟨.int (g i j),H,I.tok _,⟨_,rfl⟩,q⟩
theorem Gq{g:Int->Int->Bool}
  (rule:∀(i j:Int) (t u:Tok) (s:aah) (Q:aai->aah->Prop) (E:aai->aah->Prop),Q (.bool (g i j)) s->aat (aaL X.prog X.w) X.A (f (.int i t) (.int j u)) Q E s):
  eZ X f (qJ λi j=>.bl (g i j)):=by
 intro pins s σ H x y v u Q I rx ry h;obtain⟨i,j,rfl,rfl,q⟩:=h;obtain⟨t,rfl⟩:=rx;obtain⟨t',rfl⟩:=ry;exact rule i j t t' s _ _ ⟨.bl (g i j),H,I,rfl,q⟩
def QN(i j:Int):Prop:=0<=j/\j<=1000000/\i.natAbs<2 ^ 64
theorem Od:eZ X (aek .Add) (qJ λi j=>.int (i+j)):=QM λ_ _ _ _ _ _ _ q=>add_int q
theorem bP:eZ X (aek .Sub) (qJ λi j=>.int (i - j)):=QM λ_ _ _ _ _ _ _ q=>sub_int q
theorem iN:eZ X (aek .Mod) (rI (λ_ j=>j≠0) λi j=>.int (i.fmod j)):=Oc λ_ _ _ _ _ _ _ hc q=>mod_int' hc q
theorem xb:eZ X (aek .Pow) (rI QN λi j=>.int (i ^ j.toNat)):=Oc λ_ _ _ _ _ _ _ hc q=>pow_int_small hc.1 hc.2.1 hc.2.2 q
theorem Yv{f:aai->Sem aai}{g:Int->Int}
  (rule:∀(i:Int) (t:Tok) (s:aah) (Q:aai->aah->Prop) (E:aai->aah->Prop),Q (.int (g i) s.toks) { s with toks:=s.toks+1 }->aat (aaL X.prog X.w) X.A (f (.int i t)) Q E s):
  RT X f (rU λi=>.int (g i)):=by
 intro pins s σ H x v Q I rx h;obtain⟨i,rfl,q⟩:=h;obtain⟨t,rfl⟩:=rx;exact rule i t s _ _ ⟨.int (g i),H,I.tok _,⟨_,rfl⟩,q⟩
theorem Oe:RT X (unaryOp .USub) (rU λi=>.int (-i)):=Yv λ_ _ _ _ _ q=>neg_int q
end
def QP:V->V->Bool
 |.aX,.aX=>true|.aX,.int _=>true|.int _,.aX=>true|.aX,.bl _=>true|.bl _,.aX=>true|.aX,.str _=>true|.str _,.aX=>true
 |.int _,.int _=>true|.bl _,.bl _=>true|.str _,.str _=>true|.xG _,.xG _=>true
 |.int _,.str _=>true|.str _,.int _=>true|.bl _,.str _=>true|.str _,.bl _=>true
 |_,_=>false
def Of:R2:=λx y H Q=>QP x y=true/\Q (.bl (decide (x=y))) H
def Og:R2:=λx y H Q=>QP x y=true/\Q (.bl (!decide (x=y))) H
theorem CV{i j:Int}:decide (V.int i=V.int j)=(i==j):=by
 rw[aa1];simp
theorem xc{i j:Bool}:decide (V.bl i=V.bl j)=(i==j):=by
 rw[aa1];simp
theorem CW{i j:Str}:decide (V.str i=V.str j)=(i==j):=by
 rw[aa1];simp
theorem CY{i j:Array UInt8}:decide (V.xG i=V.xG j)=(i.toList==j.toList):=by
 rw[aa1];cases i;cases j;simp
section
variable{X:Cx}{a b c:abl}{ta tb tc:TE}{pos:Pos}
theorem b9{pins:List (Addr×Obj)}{σ:St}{H:Hp}{s:aah}{Q:VK}{k k':Bool}(I:Inv X pins σ H s)(q:Q (.bl k) H)(e:k=k'):EP X pins σ Q (.bool k') s:=by
 subst e;exact⟨.bl k,H,I,rfl,q⟩
theorem RW:eZ X (abq .Eq) Of:=by
 intro pins s σ H x y v u Q I rx ry h;obtain⟨hs,q⟩:=h;cases x with
 |aX=>
  cases rx;cases y with
  |aX=>cases ry;exact PySem.EqNone.eq_none_none (b9 I q (by simp))
  |bl j=>cases ry;exact PySem.EqNone.eq_none_bool (b9 I q (by simp))
  |int j=>obtain⟨t',rfl⟩:=ry;exact PySem.EqNone.eq_none_int (b9 I q (by simp))
  |str j=>obtain⟨t',rfl⟩:=ry;exact PySem.EqNone.eq_none_str (b9 I q (by simp))
  |_=>exact absurd (show false=true from hs) aaz
 |bl i=>
  cases rx;cases y with
  |aX=>cases ry;exact PySem.EqNone.eq_bool_none (b9 I q (by simp))
  |bl j=>cases ry;exact eq_bool (b9 I q xc)
  |str j=>obtain⟨t',rfl⟩:=ry;exact PySem.EqMixed.eq_bool_str (b9 I q (by simp))
  |_=>exact absurd (show false=true from hs) aaz
 |int i=>
  obtain⟨t,rfl⟩:=rx;cases y with
  |aX=>cases ry;exact PySem.EqNone.eq_int_none (b9 I q (by simp))
  |int j=>obtain⟨t',rfl⟩:=ry;exact eq_int (b9 I q CV)
  |str j=>obtain⟨t',rfl⟩:=ry;exact PySem.EqMixed.eq_int_str (b9 I q (by simp))
  |_=>exact absurd (show false=true from hs) aaz
 |str i=>
  obtain⟨t,rfl⟩:=rx;cases y with
  |aX=>cases ry;exact PySem.EqNone.eq_str_none (b9 I q (by simp))
  |bl j=>cases ry;exact PySem.EqMixed.eq_str_bool (b9 I q (by simp))
  |int j=>obtain⟨t',rfl⟩:=ry;exact PySem.EqMixed.eq_str_int (b9 I q (by simp))
  |str j=>obtain⟨t',rfl⟩:=ry;exact eq_str (b9 I q CW)
  |_=>exact absurd (show false=true from hs) aaz
 |xG i=>
  obtain⟨t,rfl⟩:=rx;cases y with
  |xG j=>obtain⟨t',rfl⟩:=ry;exact PySem.W.eq_bytes (b9 I q CY)
  |_=>exact absurd (show false=true from hs) aaz
 |_=>cases y<;>exact absurd (show false=true from hs) aaz
theorem RX:eZ X (abq .NotEq) Og:=by
 intro pins s σ H x y v u Q I rx ry h;obtain⟨hs,q⟩:=h;cases x with
 |aX=>
  cases rx;cases y with
  |aX=>cases ry;exact PySem.EqNone.ne_none_none (b9 I q (by simp))
  |bl j=>cases ry;exact PySem.EqNone.ne_none_bool (b9 I q (by simp))
  |int j=>obtain⟨t',rfl⟩:=ry;exact PySem.EqNone.ne_none_int (b9 I q (by simp))
  |str j=>obtain⟨t',rfl⟩:=ry;exact PySem.EqNone.ne_none_str (b9 I q (by simp))
  |_=>exact absurd (show false=true from hs) aaz
 |bl i=>
  cases rx;cases y with
  |aX=>cases ry;exact PySem.EqNone.ne_bool_none (b9 I q (by simp))
  |bl j=>cases ry;exact ne_bool (b9 I q (congrArg not xc))
  |str j=>obtain⟨t',rfl⟩:=ry;exact PySem.EqMixed.ne_bool_str (b9 I q (by simp))
  |_=>exact absurd (show false=true from hs) aaz
 |int i=>
  obtain⟨t,rfl⟩:=rx;cases y with
  |aX=>cases ry;exact PySem.EqNone.ne_int_none (b9 I q (by simp))
  |int j=>obtain⟨t',rfl⟩:=ry;exact ne_int (b9 I q (congrArg not CV))
  |str j=>obtain⟨t',rfl⟩:=ry;exact PySem.EqMixed.ne_int_str (b9 I q (by simp))
  |_=>exact absurd (show false=true from hs) aaz
 |str i=>
  obtain⟨t,rfl⟩:=rx;cases y with
  |aX=>cases ry;exact PySem.EqNone.ne_str_none (b9 I q (by simp))
  |bl j=>cases ry;exact PySem.EqMixed.ne_str_bool (b9 I q (by simp))
  |int j=>obtain⟨t',rfl⟩:=ry;exact PySem.EqMixed.ne_str_int (b9 I q (by simp))
  |str j=>obtain⟨t',rfl⟩:=ry;exact ne_str (b9 I q (congrArg not CW))
  |_=>exact absurd (show false=true from hs) aaz
 |xG i=>
  obtain⟨t,rfl⟩:=rx;cases y with
  |xG j=>obtain⟨t',rfl⟩:=ry;exact PySem.W.ne_bytes (b9 I q (congrArg not CY))
  |_=>exact absurd (show false=true from hs) aaz
 |_=>cases y<;>exact absurd (show false=true from hs) aaz
theorem kj:eZ X (abq .Lt) (qJ λi j=>.bl (decide (i<j))):=Gq λ_ _ _ _ _ _ _ q=>lt_int q
theorem Bm:eZ X (abq .LtE) (qJ λi j=>.bl (decide (i<=j))):=Gq λ_ _ _ _ _ _ _ q=>le_int q
theorem lZ:eZ X (abq .Gt) (qJ λi j=>.bl (decide (j<i))):=Gq λ_ _ _ _ _ _ _ q=>gt_int q
theorem RY:eZ X (abq .GtE) (qJ λi j=>.bl (decide (j<=i))):=Gq λ_ _ _ _ _ _ _ q=>ge_int q
theorem oR:eZ X (abq .IsNot) (λx y H Q=>y= .aX/\Q (.bl (!decide (x= .aX))) H):=by
 intro pins s σ H x y v u Q I rx ry h;obtain⟨rfl,q⟩:=h;cases ry;refine isnot_none_gen (b9 I q ?_);cases x<;>first
  |(cases rx;rfl)
  |(obtain⟨t,rfl⟩:=rx;rfl)
variable{r:R2}
theorem eZ.or{f:aai->aai->Sem aai}{r':R2}(h:eZ X f r)(h':eZ X f r'):eZ X f (λx y H Q=>r x y H Q\/r' x y H Q):=by
 intro pins s σ H x y v u Q I rx ry q;rcases q with q|q
 .exact h pins s σ H x y v u Q I rx ry q
 .exact h' pins s σ H x y v u Q I rx ry q
variable{op:air}
theorem gi(b:abl)(h:op≠.In:=by decide)(h2:op≠.NotIn:=by decide):acY op b=false:=by
 have e1:(op==CmpOp.In)=false:=by cases op<;>first|rfl|exact absurd rfl h
 have e2:(op==CmpOp.NotIn)=false:=by cases op<;>first|rfl|exact absurd rfl h2
 cases b<;>simp[acY,e1,e2]
theorem JT(ho:eZ X (abq op) r)(ha:PE X a ta)(hb:PE X b tb)(hm:acY op b=false):PE X (.Compare a [op] [b] pos) (JR r ta tb):=by
 intro pins s σ H Q I h;exact wpAny_Compare1 (JS ha hb I h λv u s2 x y H2 I2 rx ry q=>ho pins s2 σ H2 x y v u Q I2 rx ry q) hm
def JU(t:TE):TT:=λσ H Q=>t σ H λx H'=>∃k,x= .bl k/\Q k H'
theorem JV(ho:eZ X (abq op) r)(ha:PE X a ta)(hb:PE X b tb)(hm:acY op b=false):PT X (.Compare a [op] [b] pos) (JU (JR r ta tb)):=by
 intro pins s σ H Q I h;refine agz (bN (ha pins s σ H _ I h) λv s1 ⟨x,H1,I1,r1,q1⟩=>bN (hb pins s1 σ H1 _ I1 q1) λu s2 ⟨y,H2,I2,r2,q2⟩=>
  bN (ho pins s2 σ H2 x y v u _ I2 r1 r2 q2) λc s3 ⟨z,H3,I3,r3,k,e,q3⟩=>?_) hm
 subst e;cases r3;exact abf ⟨H3,I3,q3⟩
def Gr(r r':R2)(ta tb tc:TE):TE:=λσ H Q=>ta σ H λx H1=>tb σ H1 λy H2=>r x y H2 λz H3=>∃k,z= .bl k/\
 (if k=true then tc σ H3 λw' H4=>r' y w' H4 Q else Q (.bl false) H3)
theorem HN{E9:air}{r':R2}(ho:eZ X (abq op) r)(oO:eZ X (abq E9) r')(ha:PE X a ta)(hb:PE X b tb)(hc:PE X c tc)
  (hm:lastMarks [op,E9] [b,c]=false:=by with_unfolding_all rfl):PT X (.Compare a [op,E9] [b,c] pos) (JU (Gr r r' ta tb tc)):=by
 intro pins s σ H Q I h;refine isTrue_chain (bN (ha pins s σ H _ I h) λv s1 ⟨x,H1,I1,r1,q1⟩=>test_link (bN (hb pins s1 σ H1 _ I1 q1) λu s2 ⟨y,H2,I2,r2,q2⟩=>
  bN (ho pins s2 σ H2 x y v u _ I2 r1 r2 q2) λd s3 ⟨z,H3,I3,r3,k,e,q3⟩=>?_)) hm
 subst e;cases r3;refine abf ?_;cases k with
 |false=>
  obtain⟨k',e',q'⟩:=q3;cases e';exact ite_ff ⟨H3,I3,q'⟩
 |true=>
  refine ite_tt (test_last (bN (hc pins s3 σ H3 _ I3 q3) λw' s4 ⟨z',H4,I4,r4,q4⟩=>bN (oO pins s4 σ H4 y z' u w' _ I4 r2 r4 q4) λd' s5 bg=>?_));obtain⟨z2,H5,I5,r5,k2,e2,q5⟩:=bg;subst e2;cases r5;exact abf ⟨H5,I5,q5⟩
theorem tj:(sizeLine:Nat)<2 ^ 63:=by rw[ag9];decide
theorem vals1{x:V}{us:List aai}(r:Vals [x] us):∃u,us=[u]/\RelV x u:=by
 cases r with
 |cons r1 r2=>cases r2;exact⟨_,rfl,r1⟩
theorem vals2{x y:V}{us:List aai}(r:Vals [x,y] us):∃u w',us=[u,w']/\RelV x u/\RelV y w':=by
 cases r with
 |cons r1 r2=>
  cases r2 with
  |cons r3 r4=>cases r4;exact⟨_,_,rfl,r1,r3⟩
theorem jf:eR X (.builtin "abs") (λxs H Q=>∃i,xs=[.int i]/\Q (.int (if i<0 then -i else i)) H):=by
 intro pins s σ H xs us Q I r h;obtain⟨i,rfl,q⟩:=h;obtain⟨u,rfl,t,rfl⟩:=vals1 r;exact call_abs_int λu tk=>⟨.int (if i<0 then -i else i),H,I.tok _,⟨_,rfl⟩,q⟩
theorem E_(hc:X.calm=true):eR X (.builtin "max") (λxs H Q=>∃i j,xs=[.int i,.int j]/\Q (.int (if j > i then j else i)) H):=by
 intro pins s σ H xs us Q I r h;obtain⟨i,j,rfl,q⟩:=h;obtain⟨u,w',rfl,⟨t,rfl⟩,⟨t',rfl⟩⟩:=vals2 r;refine max_two_ints (I.ok.hd hc) λh' tk k=>⟨_,H,I.kept k,?_,q⟩
 by_cases hj:j > i
 .rw[if_pos hj,if_pos hj];exact⟨_,rfl⟩
 .rw[if_neg hj,if_neg hj];exact⟨_,rfl⟩
theorem Fb(hc:X.calm=true):eR X (.builtin "min") (λxs H Q=>∃i j,xs=[.int i,.int j]/\Q (.int (if j<i then j else i)) H):=by
 intro pins s σ H xs us Q I r h;obtain⟨i,j,rfl,q⟩:=h;obtain⟨u,w',rfl,⟨t,rfl⟩,⟨t',rfl⟩⟩:=vals2 r;refine min_two_ints (I.ok.hd hc) λh' tk k=>⟨_,H,I.kept k,?_,q⟩
 by_cases hj:j<i
 .rw[if_pos hj,if_pos hj];exact⟨_,rfl⟩
 .rw[if_neg hj,if_neg hj];exact⟨_,rfl⟩
theorem rX:eR X (.type "int") (λxs H Q=>(∃i,xs=[.int i]/\Q (.int i) H)\/∃k,xs=[.bl k]/\Q (.int (if k then 1 else 0)) H):=by
 intro pins s σ H xs us Q I r h;rcases h with⟨i,rfl,q⟩|⟨k,rfl,q⟩
 .obtain⟨u,rfl,t,rfl⟩:=vals1 r
  exact call_int_int ⟨.int i,H,I,⟨_,rfl⟩,q⟩
 .obtain⟨u,rfl,r1⟩:=vals1 r
  cases r1;exact call_int_bool ⟨.int (if k then 1 else 0),H,I.tok _,⟨_,rfl⟩,q⟩
end
end L2
namespace L2
open PySem PySem.Spec PyProof.Rows
structure JW(h:Heap)(x dx C:Addr)(mA:Str->Option aai):Prop where
 obj:h.get? x=ae (agw C dx)
 ns:h.Ns1 dx mA
 ne:dx≠x
variable{mA:Str->Option aai}
theorem Fc{h:Heap}{dx:Addr}(n:h.Ns1 dx mA):∃od,h.get? dx=ae od/\∀name,ag0 name od=ae (mA name):=by
 obtain⟨o,es,ep,ho,hd,hk,_,hm⟩:=n;refine⟨o,ho,λname=>?_⟩;have e:=hm name;unfold nsFind findBy at e;rw[<-Array.find?_toList]at e;unfold ag0;rw[hd];dsimp only
 split
 .rename_i y q
  rw[q]at e;exact congrArg ae e
 .rename_i q
  rw[q]at e;have a:es.toList.any (·.refKey)=false:=by
   rw[ahE];intro y hy;obtain⟨z,t,VD⟩:=hk y (Array.mem_toList_iff.mp hy);simp[DictEntry.refKey,VD]
  have a':¬es.toList.any (·.refKey)=true:=by rw[a];exact aaz
  rw[if_neg a'];exact congrArg ae e
theorem JW.look{h:Heap}{x dx C:Addr}(I:JW h x dx C mA):∃od,PySem.W.InstAt h x (agw C dx) C (ae od)/\∀name,ag0 name od=ae (mA name):=
 let ⟨od,ho,hl⟩:=Fc I.ns
 ⟨od,⟨I.obj,rfl,rfl,ho⟩,hl⟩
section
variable{prog:aaD}{w:aa9}{A:aa4}{E:aai->aah->Prop}{s:aah}{K:aaa}{x dx C f:Addr}{mA:Str->Option aai}{name:Str}{v:aai}
end
theorem qP.some_of{v:V}{o:Option aai}(r:qP (ae v) o):∃u,o=ae u/\RelV v u:=by
 cases o with
 |none=>exact(show False from r).elim
 |some u=>exact⟨u,rfl,r⟩
section
variable{P:aaD}{w:aa9}{H H':Hp}{h h':Heap}{a C dx:Addr}{fs Yo:List (Str×V)}
theorem JX(bc:hG P w H h)(e:H a=ae (.ins C dx fs)):∃mA,JW h a dx C mA/\(∀f,qP (fs.lookup f) (mA f))/\aiL mA (fs.map (·.1))/\fs.length<=1000/\H dx=ae (.own a):=by
 obtain⟨d,z,ne,ob,mA,n,r,q⟩:=(show b7 P w H h a (.ins C dx fs)from bc a _ e);exact⟨mA,⟨ob,n,ne⟩,r,q,z,d⟩
end
structure RZ(K:aaa)(C:Addr):Prop where
 pg:ahX K C Str.empty=true
 hd:PySem.W.hasDictIn K C=true
 po:PySem.W.plainOver K C=true
 sa:ais K (.ref C) "__setattr__" =ae (ae (.builtin "object.__setattr__"))
theorem RZ.get{K:aaa}{C:Addr}(c:RZ K C)(f:Str):ahX K C f=true:=c.pg
section
variable{X:Cx}{pins:List (Addr×Obj)}{σ:St}{H:Hp}{s:aah}{a C dx:Addr}{fs:List (Str×V)}{f:Str}{v:V}{A:aa4}{E:aai->aah->Prop}
end
section
variable{X:Cx}{o e value:abl}{f:Str}{pos pos' VE:Pos}{ta tv:TE}
end
section
variable{X:Cx}{pins:List (Addr×Obj)}{σ:St}{H:Hp}{s:aah}{A:aa4}{E:aai->aah->Prop}{Q:aai->aah->Prop}{c:aai}{b:Bool}
inductive lF(K:aaa)(H:Hp):V->aai->Prop where
 |aX:lF K H .aX (.type "NoneType")
 |bl (x:Bool):lF K H (.bl x) (.type "bool")
 |int (i:Int):lF K H (.int i) (.type "int")
 |str (x:Str):lF K H (.str x) (.type "str")
 |HB (x:UInt64):lF K H (.HB x) (.type "float")
 |lst {a:Addr}{xs:List V} (e:H a=ae (.lst xs)):lF K H (.ref a) (.type "list")
 |gr {a:Addr}{o:Obj}{xs:List V} (e:H a=ae (.gr o (.lst xs))):lF K H (.ref a) (.type "list")
 |tup {a:Addr}{xs:List V} (e:H a=ae (.tup xs)):lF K H (.ref a) (.type "tuple")
 |dK {a:Addr}{aN:List (Key×V)} (e:H a=ae (.dK aN)):lF K H (.ref a) (.type "dict")
 |dT {a:Addr}{aN:List (List Key×V)} (e:H a=ae (.dT aN)):lF K H (.ref a) (.type "dict")
 |ins {a C dx:Addr}{fs:List (Str×V)} (e:H a=ae (.ins C dx fs)) (cl:RZ K C) (ha:ais K (.ref C) "__class__" =ae (ae (.builtin "object.__class__")))
   (hn:PySem.W.specialIn K (.builtin "object.__class__") "__get__" =ae (ae (.builtin "getset_descriptor.__get__"))) (HP:PySem.W.takesIn K (.builtin "object.__class__")=ae true)
   (hm:PySem.W.mroIn K C (.type "object")=ae true):lF K H (.ref a) (.ref C)
theorem Fd{x:V}{u t:aai}(I:Inv X pins σ H s)(rx:RelV x u)(ty:lF X.K H x t)(e:acA X.K t c=ae b)(h:∀tk,Q (.bool b) { s with toks:=tk }):
  aat (aaL X.prog X.w) A (call (.builtin "isinstance") [u,c]) Q E s:=by
 cases ty with
 |aX=>cases (show u=aby from rx);exact abD PySem.W.kitx_none I.oG adC e (λz=>nomatch z) h
 |bl y=>cases (show u=agQ y from rx);exact abD PySem.W.kitx_bool I.oG adC e (λz=>nomatch z) h
 |int i=>obtain⟨t,q⟩:=(show ∃t,u=aeO i t from rx);cases q;exact abD PySem.W.kitx_int I.oG adC e (λz=>nomatch z) h
 |str y=>obtain⟨t,q⟩:=(show ∃t,u=aho y t from rx);cases q;exact abD PySem.W.kitx_str I.oG adC e (λz=>nomatch z) h
 |HB y=>obtain⟨t,q⟩:=(show ∃t,u=Value.float y t from rx);cases q;exact abD PySem.W.kitx_float I.oG adC e (λz=>nomatch z) h
 |@lst a xs ea=>
  cases (show u=aaw a from rx);obtain⟨_,_,n,_,h1⟩:=(show b7 X.prog X.w H s.heap a (.lst xs)from I.bc a _ ea);exact abD ahF I.oG ⟨_,h1,rfl⟩ e (λz=>nomatch z) h
 |@gr a ob xs ea=>
  cases (show u=aaw a from rx);obtain⟨_,_,_,n,_,h1⟩:=(show b7 X.prog X.w H s.heap a (.gr ob (.lst xs))from I.bc a _ ea);exact abD ahF I.oG ⟨_,h1,rfl⟩ e (λz=>nomatch z) h
 |@tup a xs ea=>
  cases (show u=aaw a from rx);obtain⟨_,_,_,p⟩:=(show b7 X.prog X.w H s.heap a (.tup xs)from I.bc a _ ea);obtain⟨o,h1,h2,_⟩:=p;exact abD PySem.W.kitx_tuple I.oG ⟨o,h1,h2⟩ e (λz=>nomatch z) h
 |@dK a aN ea=>
  cases (show u=aaw a from rx);obtain⟨_,_,vs,_,p⟩:=(show b7 X.prog X.w H s.heap a (.dK aN)from I.bc a _ ea);obtain⟨o,es,ep,h1,h2,_⟩:=p;exact abD ahG I.oG ⟨o,h1,h2.1⟩ e (λz=>nomatch z) h
 |@dT a aN ea=>
  cases (show u=aaw a from rx);obtain⟨_,_,xs,_,o,es,ep,h1,h2,_⟩:=(show b7 X.prog X.w H s.heap a (.dT aN)from I.bc a _ ea);exact abD ahG I.oG ⟨o,h1,h2.1⟩ e (λz=>nomatch z) h
 |@ins a C dx fs ea cl ha hn HP hm=>
  cases (show u=aaw a from rx);obtain⟨mA,O,_⟩:=JX I.bc ea;obtain⟨od,J,_⟩:=O.look;exact abD (PySem.W.kitx_own (cl.get _) cl.hd ha hn HP hm) I.oG J e (λz=>nomatch z) h
end
end L2
namespace L2
open PySem PySem.Spec PyProof.Rows
structure fq(k:Nat)(A:aa4):Prop where
 hd:A.handled=af
 dp:A.depth+3*k+5<recursionLimit
 un:A.units+16*k+200<cLine
variable{k:Nat}{A:aa4}
theorem fq.mono{j:Nat}(r:fq k A)(h:j<=k):fq j A:=⟨r.hd,by have:=r.dp;omega,by have:=r.un;omega⟩
theorem fq.deeper(r:fq (k+1) A)(env:Env):fq k (A.deeper env):=
 ⟨r.hd,by have:=r.dp;show A.depth+1+3*k+5<_;omega,by have:=r.un;show A.units+3+16*k+200<_;omega⟩
theorem fq.depth(r:fq k A):A.depth<recursionLimit:=by have:=r.dp;omega
theorem fq.units(r:fq k A):A.units+64<cLine:=by have:=r.un;omega
def VF:TA:=λ_ H Q=>Q [] H
def R1(ta:TE)(tr:TA):TA:=λσ H Q=>ta σ H λx H1=>tr σ H1 λxs H2=>Q (x::xs) H2
section
variable{X:Cx}{e:abl}{es:List abl}{te:TE}{t:TA}{pos:Pos}
theorem Oh:PA X [] VF:=λ_ _ _ _ H Q I h=>afL ⟨[],H,I,.nil,h⟩
theorem JY(ha:PE X e te)(hr:PA X es t)(hs:aau (e::es) X.env=(false,adL e X.env)::aau es X.env:=by rfl):PA X (e::es) (R1 te t):=by
 intro pos pins s σ H Q I h;rw[hs];show aat _ _ (spliced ((false,adL e X.env)::acy pos (aau es X.env))) _ _ s;refine ael (bN (ha pins s σ H _ I h) λu s1 bg=>?_);obtain⟨x,H1,I1,r1,q1⟩:=bg;exact bN (hr pos pins s1 σ H1 _ I1 q1) λus s2 ⟨xs,H2,I2,r2,q2⟩=>⟨x::xs,H2,I2,.cons r1 r2,q2⟩
def VG(t:TA):TE:=λσ H Q=>t σ H λxs H1=>xs.length<=sizeLine/\∀p,H1 p=af->Q (.ref p) (upd H1 p (.tup xs))
def VH(t:TA):TE:=λσ H Q=>t σ H λxs H1=>xs.length<=sizeLine/\∀p,H1 p=af->Q (.ref p) (upd H1 p (.lst xs))
theorem Oi{x1}(h:PA X es t):PE X (.Tuple es x1 pos) (VG t):=by
 intro pins s σ H Q I hq;refine wpAny_Tuple_spliced (bN (h pos pins s σ H _ I hq) λus s1 ⟨xs,H1,I1,r,z,q⟩=>⟨by rw[<-r.length];exact z,?_⟩);have hf:H1 s1.heap.objs.size=af:=I1.bc.fresh (aam _);refine⟨.ref s1.heap.objs.size,upd H1 s1.heap.objs.size (.tup xs),I1.laid (t':=s1.toks) (λb u e=>aab _ e) (aam _) ?_,rfl,q _ hf⟩;exact⟨z,us,r,⟨_,aal _ rfl,rfl,_,rfl⟩⟩
theorem Oj(h:PA X es t):PE X (.List es pos) (VH t):=by
 intro pins s σ H Q I hq;refine wpAny_List_spliced (bN (h pos pins s σ H _ I hq) λus s1 ⟨xs,H1,I1,r,z,q⟩=>⟨by rw[<-r.length];exact z,?_⟩);have hf:H1 s1.heap.objs.size=af:=I1.bc.fresh (aam _);refine⟨.ref s1.heap.objs.size,upd H1 s1.heap.objs.size (.lst xs),I1.laid (t':=s1.toks) (λb u e=>aab _ e) (aam _) ?_,rfl,q _ hf⟩;exact⟨z,us,0,r,aal _ rfl⟩
end
abbrev Sp:=List V->Hp->VK->XK->Prop
abbrev wO:=List Env->Hp->aah->XK->aai->aah->Prop
structure Gs(P:aaD)(w:aa9)(K:aaa)(mg:Str->Option aai)(base:Heap)(A:aa4)(outer:List Env)(s:aah)(H:Hp):Prop where
 frames:A.frames=ae outer
 mod:Mod K mg base
 bs:∀b o,base.get? b=ae o->s.heap.get? b=ae o/\H b=af
 Bi:base.objs.size<=s.heap.objs.size
 oN:s.heap.FunFrames base outer
 HG:∀b∈xI outer,H b=af
 bc:hG P w H s.heap
 bare:agy s.gens
def CE(outer:List Env)(P:aaD)(w:aa9)(H:Hp)(s:aah)(Q:VK)(u:aai)(s':aah):Prop:=
 ∃v H',s'.os=s.os/\agy s'.gens/\Un (xI outer) [] H H' s.heap s'.heap/\hG P w H' s'.heap/\RelV v u/\Q v H'
def CR(CX:wO)(outer:List Env)(P:aaD)(w:aa9)(H:Hp)(s:aah)(Q:VK)(E:XK)(r:ag1)(s':aah):Prop:=
 match r with
 |.ok (.ret u)=>CE outer P w H s Q u s'
 |.ok _=>False
 |.error e=>CX outer H s E e s'
structure bE(P:aaD)(w:aa9)(K:aaa)(mg:Str->Option aai)(base:Heap)(CX:wO)(k:Nat)(f:Addr)(fd:aaC)(ps:List Str)(sp:Sp):Prop where
 len:∀vs H Q E,sp vs H Q E->vs.length=ps.length
 run:∀(A:aa4) (outer:List Env) (s:aah) (H:Hp) (args:Args) (us:List aai) (vs:List V) (Q:VK) (E:XK),fq k A->Gs P w K mg base A outer s H->aha s fd args (ps.zip us)->Vals vs us->sp vs H Q E->
  aeC (aaL P w) A (.call (.ref f) args) (CR CX outer P w H s Q E) s
variable{K:aaa}{mg:Str->Option aai}{base:Heap}{ps:List Str}
theorem bE.imp{P:aaD}{w:aa9}{CX:wO}{f:Addr}{fd:aaC}{sp VI:Sp}(F:bE P w K mg base CX k f fd ps sp)
  (h:∀vs H Q E,VI vs H Q E->sp vs H Q E):bE P w K mg base CX k f fd ps VI:=
 ⟨λvs H Q E q=>F.len vs H Q E (h _ _ _ _ q),λA outer s H args us vs Q E hr he hb hv hs=>F.run A outer s H args us vs Q E hr he hb hv (h _ _ _ _ hs)⟩
section
variable{X:Cx}{pins:List (Addr×Obj)}{σ:St}{H:Hp}{s s':aah}
theorem Inv.VJ(I:Inv X pins σ H s):Gs X.prog X.w X.K X.mg X.base X.A X.stack s H:=
 ⟨I.ok.frames,I.ok.mod,I.bs,aa7 I.ok.Bi I.sz,I.stack,I.CN,I.bc,I.bare⟩
theorem Inv.after{Q:VK}{u:aai}(I:Inv X pins σ H s)(h:CE X.stack X.prog X.w H s Q u s'):EP X pins σ Q u s':=by
 obtain⟨v,H',os,bare,un,bc,r,q⟩:=h;obtain⟨hh,g,d,t,Yw⟩:=s';obtain rfl:Yw=s.os:=os;exact⟨v,H',I.call (h':=hh) (g':=g) (d':=d) (t':=t) (ch:=[]) un bc bare (λb z=>absurd z (by simp)),r,q⟩
end
def Fe(sp:Sp)(tm:List V)(E:XK)(t:TA):TE:=λσ H Q=>t σ H λvs H1=>sp (vs++tm) H1 Q E
def Binds(K:aaa)(fd:aaC)(ps:List Str)(ds:List aai):Prop:=
 ∀(s:aah) (us:List aai),K.In s.heap->(us++ds).length=ps.length->aha s fd ⟨us,[]⟩ (ps.zip (us++ds))
theorem Binds.all{fd:aaC}(h:∀us:List aai,us.length=ps.length->bindArgs fd ⟨us,[]⟩=pure (ps.zip us)):Binds K fd ps []:=λs us _ hl=>by
 rw[aa5]at hl |-
 exact .of_eq (h us hl)
def Passes(CX:wO)(X:Cx)(E:XK):Prop:=∀(pins:List (Addr×Obj)) (σ:St) (H:Hp) (s:aah) (e:aai) (s':aah),Inv X pins σ H s->CX X.stack H s E e s'->X.xe e s'
section
variable{X:Cx}{CX:wO}{k:Nat}{f C:Addr}{fd:aaC}{ps:List Str}{sp:Sp}{tm:List V}{ds:List aai}{E:XK}{x m:Str}{p pos apos:Pos}{e o:abl}{es:List abl}{ta:TE}{t:TA}
theorem Gu{pins:List (Addr×Obj)}{σ:St}{H:Hp}{s:aah}{Q:VK}{us:List aai}{vs:List V}(F:bE X.prog X.w X.K X.mg X.base CX k f fd ps sp)(hr:fq k X.A)(hb:Binds X.K fd ps ds)(hd:Vals tm ds)(hx:Passes CX X E)
  (I:Inv X pins σ H s)(r:Vals vs us)(h:sp (vs++tm) H Q E):aat (aaL X.prog X.w) X.A (call (.ref f) us) (EP X pins σ Q) X.xe s:=by
 have r2:Vals (vs++tm) (us++ds):=r.append hd;have hl:(us++ds).length=ps.length:=by rw[<-r2.length];exact F.len _ _ _ _ h
 refine wpAny_call (ahQ (F.run X.A X.stack s H ⟨us,[]⟩ (us++ds) (vs++tm) Q E hr I.VJ (hb s us I.oG hl) r2 h) λr s' hq=>?_);cases r with
 |error e=>exact hx pins σ H s e s' I hq
 |ok fl=>
  cases fl with
  |ret u=>exact I.after hq
  |next=>exact adV hq
  |brk=>exact adV hq
  |cont=>exact adV hq
theorem JZ(F:bE X.prog X.w X.K X.mg X.base CX k f fd ps sp)(hr:fq k X.A)(hg:Gl X x)(hm:X.mg x=ae (.ref f))(hk:abX X.K (.ref f)=true)(hb:Binds X.K fd ps ds)(hd:Vals tm ds)(hx:Passes CX X E)
  (ha:PA X (e::es) t)(rY:(x==("__debug__":Str))=false:=by decide)(he:aau (e::es) X.env=(false,adL e X.env)::aau es X.env:=by rfl)(fQ:(acy pos (aau es X.env)).any (·.1)=false:=by rfl):
  PE X (.Call (.Name x p) (e::es) [] pos) (Fe sp tm E t):=by
 intro pins s σ H Q I h;refine abx (CP I hg hm ?_ rY);refine ahr (h₀:=X.base) I.ok.mod.HF hk (bN (ha pos pins s σ H _ I h) λus s1 ⟨vs,H1,I1,r,q⟩=>⟨I1.oG,?_⟩) he fQ;exact Gu F hr hb hd hx I1 r q
end
section
variable{X:Cx}{CX:wO}{k:Nat}{f C:Addr}{fd:aaC}{ps ks:List Str}{sp:Sp}{E:XK}{x m:Str}{p pos apos abK:Pos}{e o:abl}{es:List abl}{kws:List aeZ}{te ta:TE}{t tk:TA}{nm:Option Str}
variable{g:List aai->List aai->List aai}{gV:List V->List V->List V}
end
structure aL(N P:List Str)(sc:Scope):Prop where
 kind:sc.kind= .function
 co:sc.isCoroutine=false
 gen:sc.isGenerator=false
 nd:N.Nodup
 pre:N.take P.length=P
 par:∀x∈P,sc.names.lookup x=ae .local\/sc.names.lookup x=ae .cell
 Ol:∀y∈sc.names,y.2≠.free
variable{afM:Str->Option ad7}{x:Str}
theorem xP:∀{binds:List (Str×aai)}{m:Str->Option aai},(∀v,(x,v)∉binds)->bindL afM binds m x=m x
 |[],_,_=>rfl
 |(n,v)::r,m,h=>by
  unfold bindL;rw[xP λw hw=>h w (aap _ hw)];split
  .have:x≠n:=by rintro rfl;exact h v aao
   simp[this]
  .rfl
theorem xQ:∀{binds:List (Str×aai)}{m:Str->Option aai},(∀v,(x,v)∉binds)->bindC afM binds m x=m x
 |[],_,_=>rfl
 |(n,v)::r,m,h=>by
  unfold bindC;rw[xQ λw hw=>h w (aap _ hw)];split
  .rfl
  .have:x≠n:=by rintro rfl;exact h v aao
   simp[this]
theorem xR{v:aai}:∀{P:List Str}{vs:List aai}{i:Nat}{m:Str->Option aai},P.Nodup->P[i]? =ae x->vs[i]? =ae v->afM x=ae .local->
  bindL afM (P.zip vs) m x=ae v
 |[],_,_,_,_,h,_,_=>by simp at h
 |_::_,[],_,_,_,_,h,_=>by simp at h
 |p::P,w::vs,0,m,nd,h1,h2,hk=>by
  simp at h1 h2;subst h1;subst h2;show bindL afM ((p,w)::P.zip vs) m p=_;unfold bindL;rw[xP λv hv=>(abZ.mp nd).1 (aem hv).1,if_pos hk];simp
 |p::P,w::vs,i+1,m,nd,h1,h2,hk=>by
  show bindL afM ((p,w)::P.zip vs) m x=_;unfold bindL;exact xR (i:=i) (abZ.mp nd).2 (by simpa using h1) (by simpa using h2) hk
theorem xS{v:aai}:∀{P:List Str}{vs:List aai}{i:Nat}{m:Str->Option aai},P.Nodup->P[i]? =ae x->vs[i]? =ae v->afM x≠ae .local->
  bindC afM (P.zip vs) m x=ae v
 |[],_,_,_,_,h,_,_=>by simp at h
 |_::_,[],_,_,_,_,h,_=>by simp at h
 |p::P,w::vs,0,m,nd,h1,h2,hk=>by
  simp at h1 h2;subst h1;subst h2;show bindC afM ((p,w)::P.zip vs) m p=_;unfold bindC;rw[xQ λv hv=>(abZ.mp nd).1 (aem hv).1,if_neg hk];simp
 |p::P,w::vs,i+1,m,nd,h1,h2,hk=>by
  show bindC afM ((p,w)::P.zip vs) m x=_;unfold bindC;exact xS (i:=i) (abZ.mp nd).2 (by simpa using h1) (by simpa using h2) hk
def start(N:List Str)(vs:List V):St:=vs.map ae++ab7 (N.length - vs.length) af
def tp(CX:wO)(P:aaD)(w:aa9)(K:aaa)(mg:Str->Option aai)(base:Heap)(N:List Str)(qual:Str)(scope:Scope)(f:Addr)(cd:aai)(A:aa4)(outer:List Env)(s:aah)(H:Hp)(E:XK):Cx where
 prog:=P
 w:=w
 K:=K
 mg:=mg
 base:=base
 A:=A.deeper (agC qual scope s.heap.objs.size f cd)
 N:=N
 bJ:=s
 dk:=H
 env:=agC qual scope s.heap.objs.size f cd
 outer:=outer
 stack:=agC qual scope s.heap.objs.size f cd::outer
 ex:=[]
 calm:=true
 fn:=λ_=>true
 pn:=[]
 xe:=λe s'=>aat (aaL P w) (A.deeper (agC qual scope s.heap.objs.size f cd)) (leaving (agC qual scope s.heap.objs.size f cd) e) (λ_ R4=>CX outer H s E e R4) (λe' R4=>CX outer H s E e' R4) s'
theorem zV{sc:Scope}{n:Nat}(h:sc.names.lookup x=ae .cell):∃c,(cellsFrom n sc.names []).lookup x=ae c:=by
 have q:=ago sc.names n [] (.inl h);exact Option.isSome_iff_exists.mp q
variable{scope:Scope}
theorem Ff{CX:wO}{P:aaD}{w:aa9}{N:List Str}{qual:Str}{f:Addr}{cd:aai}{outer:List Env}{s s1:aah}{H:Hp}{E:XK}{us:List aai}{vs:List V}
  (S:aL N ps scope)(hd:A.handled=af)(e0:Gs P w K mg base A outer s H)(hl:vs.length=ps.length)(r:Vals vs us)
  (x:InCallC s s.heap.objs.size (bindL (agC qual scope s.heap.objs.size f cd).kindOf (ps.zip us) λ_=>af) (cellsFrom (s.heap.objs.size+1) scope.names []) (bindC (agC qual scope s.heap.objs.size f cd).kindOf (ps.zip us) λ_=>af) s1):
  Inv (tp CX P w K mg base N qual scope f cd A outer s H E) [] (start N vs) H s1:=by
 have fQ:ps.length<=N.length:=by have:=congrArg List.length S.pre;rw[agb]at this;omega
 obtain⟨h1,tk,rfl,hk⟩:=x.done;have J1:∀b:Addr,b∉(tp CX P w K mg base N qual scope f cd A outer s H E).ex:=λb z=>absurd (show b∈([]:List Addr)from z) (by simp)
 refine⟨⟨e0.mod,S.kind,rfl,rfl,aam _,λy z c h1 h2=>?_,λy hy=>?_,λy c _ h=>?_,λ_=>hd,Around.frames_deeper e0.frames,.inr ⟨rfl,rfl⟩,λb z=>absurd z (J1 b),e0.bs,e0.Bi,λb _ _=>J1 b,λb z=>absurd z (J1 b),e0.oN,e0.HG⟩,
  rfl,e0.bare,Un.kept hk,⟨_,x.toInCall.ns,λi y v h1 h2 h3=>?_⟩,λy c h=>⟨_,x.cell y c h⟩,e0.bc.fresh (aam _),λy c h=>?_,λp hp=>absurd (show p∈([]:List (Addr×Obj))from hp) (by simp),e0.bc.kept hk,?_⟩
 .exact name_of_addr x.apart (adu h1) (adu h2)
 .have hy:scope.names.lookup y=ae .cell\/scope.names.lookup y=ae .free:=hy
  rcases hy with hy|hy
  .exact zV hy
  .exact absurd rfl (S.Ol _ (adu hy))
 .exact adt (x.above y c (adu h))
 .have hi:i<vs.length:=by
   unfold start at h2
   by_cases hi:i<vs.length
   .exact hi
   .rw[acQ (by simpa using hi)]at h2
    rw[List.getElem?_replicate]at h2;split at h2<;>cases h2
  have ha:vs[i]? =ae v:=by
   unfold start at h2;rw[aaM (by simpa using hi),aaq]at h2;cases e:vs[i]? with
   |none=>rw[e]at h2;cases h2
   |some a=>rw[e]at h2;cases h2;rfl
  obtain⟨u,hu,rv⟩:=r.get ha;have hp:ps[i]? =ae y:=by
   rw[<-S.pre,List.getElem?_take_of_lt (by omega)];exact h1
  have VL:ps.Nodup:=by rw[<-S.pre];exact S.nd.sublist (List.take_sublist _ _)
  refine⟨u,rv,?_⟩;rcases S.par y (aaf hp)with k|k
  .exact .inl ⟨k,xR VL hp hu k⟩
  .obtain⟨c,e⟩:=zV (n:=s.heap.objs.size+1) k
   refine .inr ⟨.inl k,c,e,?_⟩;have q:=x.cell y c e;rw[xS VL hp hu (by show scope.names.lookup y≠_;rw[k];decide)]at q;exact q
 .exact e0.bc.fresh (adt (x.above y c (adu h)))
 .unfold start
  show _=N.length;rw[aaR,aas,List.length_replicate];omega
theorem J2{CX:wO}{P:aaD}{w:aa9}{f:Addr}{name qual:Str}{params:Arguments}{body:List Stmt}{dV kV doc pm br ct oc:aai}{an od:Option Addr}
  {lh:Array (Option aai)}{N:List Str}{sp:Sp}(lk:K.lookup f=ae ⟨oc,od,.func (abH name qual params body scope dV kV doc pm an br ct),lh⟩)(uT:adD K br qual=true)(S:aL N ps scope)
  (len:∀vs H Q E,sp vs H Q E->vs.length=ps.length)
  (nH:∀(A:aa4) (outer:List Env) (s:aah) (H:Hp) (vs:List V) (Q:VK) (E:XK),fq k (A.deeper (agC qual scope s.heap.objs.size f br))->sp vs H Q E->
   ∃t,oH (tp CX P w K mg base N qual scope f br A outer s H E) body t/\t { nx:=λ_ H'=>Q .aX H',rt:=Q } (start N vs) H):
  bE P w K mg base CX (k+1) f (abH name qual params body scope dV kV doc pm an br ct) ps sp:=by
 refine⟨len,λA outer s H args us vs Q E hr e0 hb r zD=>?_⟩;have hl:=len _ _ _ _ zD;have KX:K.In s.heap:=e0.mod.HF.keeps λb o e=>(e0.bs b o e).1
 have lim:s.heap.NoLimit:=e0.mod.nolimit.keeps λb o e=>(e0.bs b o e).1
 have R5:∀y∈ps.zip us,scope.names.lookup y.1=ae .local\/(scope.names.lookup y.1=ae .cell/\((cellsFrom (s.heap.objs.size+1) scope.names []).lookup y.1).isSome=true):=by
  rintro⟨n,v⟩ hy;rcases S.par n (aem hy).1 with q|q
  .exact .inl q
  .exact .inr ⟨q,ago _ _ _ (.inl q)⟩
 refine codeAny_call_function hr.depth (KX _ _ lk) rfl S.co S.gen rfl (PySem.W.codeRec_of KX uT) (hb _ _ _ _ ?_);refine wpAny_newFunctionEnv_cells S.kind R5 λenv he s1 x=>?_
 subst he;refine⟨lim.keeps x.toInCall.keep,codeAny_func ?_⟩;obtain⟨t,ht,hq⟩:=nH A outer s H vs Q E (hr.deeper _) zD;have I:Inv (tp CX P w K mg base N qual scope f br A outer s H E) [] (start N vs) H s1:=Ff S hr.hd e0 hl r x;refine abu (ht [] s1 (start N vs) H _ I hq) (λfl s' hs=>?_) λe s' hs=>hs
 have fin:∀{σ':St}{H':Hp}{v:V}{u:aai},Inv (tp CX P w K mg base N qual scope f br A outer s H E) [] σ' H' s'->RelV v u->Q v H'->CE outer P w H s Q u s':=
  λ{σ' H' v u} J rv q=>⟨v,H',J.os,J.bare,J.base,J.bc,rv,q⟩
 cases fl with
 |ret u=>
  obtain⟨v,σ',H',J,rv,q⟩:=hs;exact fin J rv q
 |next=>
  obtain⟨σ',H',J,q⟩:=hs;exact fin (v:=V.aX) (u:=aby) J rfl q
 |brk=>
  obtain⟨_,_,_,q⟩:=hs;exact adV q
 |cont=>
  obtain⟨_,_,_,q⟩:=hs;exact adV q
end L2
namespace L2
open PySem PySem.Spec PyProof.Rows
section
variable{X:Cx}{x:Str}{p pos:Pos}{e:abl}{es:List abl}{t:TA}{id T:String}{r:List V->Hp->VK->Prop}
def R6(r:List V->Hp->VK->Prop)(t:TA):TE:=λσ H Q=>t σ H λvs H1=>r vs H1 Q
theorem HQ(hc:eR X (.builtin id) r)(hg:Gl X x)(hm:X.mg x=af)(hv:aa6 x=ae (.builtin id))(ha:PA X (e::es) t)(hn:x≠"__name__":=by decide)(rY:(x==("__debug__":Str))=false:=by decide)
  (he:aau (e::es) X.env=(false,adL e X.env)::aau es X.env:=by rfl)(fQ:(acy pos (aau es X.env)).any (·.1)=false:=by rfl):PE X (.Call (.Name x p) (e::es) [] pos) (R6 r t):=by
 intro pins s σ H Q I h;refine abx (iM I hg hm hv ?_ hn rY);exact PyProof.Rows.callWith_builtin1 (bN (ha pos pins s σ H _ I h) λus s1 ⟨vs,H1,I1,r1,q1⟩=>hc pins s1 σ H1 vs us Q I1 r1 q1) he fQ
theorem Fg(hc:eR X (.type T) r)(hg:Gl X x)(hm:X.mg x=af)(hv:aa6 x=ae (.type T))(ha:PA X (e::es) t)(hn:x≠"__name__":=by decide)(rY:(x==("__debug__":Str))=false:=by decide)
  (he:aau (e::es) X.env=(false,adL e X.env)::aau es X.env:=by rfl)(fQ:(acy pos (aau es X.env)).any (·.1)=false:=by rfl):PE X (.Call (.Name x p) (e::es) [] pos) (R6 r t):=by
 intro pins s σ H Q I h;refine abx (iM I hg hm hv ?_ hn rY);exact aa0 (bN (ha pos pins s σ H _ I h) λus s1 ⟨vs,H1,I1,r1,q1⟩=>hc pins s1 σ H1 vs us Q I1 r1 q1) he fQ
end
end L2
namespace HT
open PySem PyProof.Rows
section
open PySem.SeqAt
open PySem.AutoSeq1 (wpAny_loadPart')
open PySem.MeetsSeq PySem.MeetsSeq2 PySem.MeetsSeq3
end
section
variable{prog:aaD}{w:aa9}{A:aa4}{E:aai->aah->Prop}{s:aah}
variable{Q:aai->aah->Prop}
theorem J3{t b:Addr}{vs ws:List aai}(ht:aie s.heap t vs.toArray)(hb:aie s.heap b ws.toArray)(hv:vs≠[])
  (h1:ws=[]->Q (.ref t) s)(h2:ws≠[]->Q (.ref s.heap.objs.size) { s with heap:=s.heap.push { cls:=.type "tuple",data:=.seq (vs++ws).toArray } })
  (hsz:vs.length+ws.length<=sizeLine):aat (aaL prog w) A (aek .Add (.ref t) (.ref b)) Q E s:=by
 obtain⟨⟨cls,dd,data,sl⟩,ho,hc,n,hd⟩:=id ht;obtain⟨⟨abL,VM,data2,VN⟩,HA,J_,n2,hd2⟩:=id hb;simp only at hc hd J_ hd2;subst hc hd J_ hd2;have e:vs.toArray++ws.toArray=(vs++ws).toArray:=by simp
 by_cases hw:ws=[]
 .exact concat_meets ⟨_,ho,rfl⟩ ⟨_,HA,rfl⟩ noFill_tuple_add seq_tuple_add agp af2 (afN _ _)
   (tuple_addW1 t b vs.toArray ws.toArray n n2 dd VM sl VN (by simpa using hv) (by simp[hw])) ⟨ho,HA,h1 hw⟩
 .refine concat_meets ⟨_,ho,rfl⟩ ⟨_,HA,rfl⟩ noFill_tuple_add seq_tuple_add agp af2 (afN _ _)
   (tuple_addW2 t b vs.toArray ws.toArray n n2 dd VM sl VN (by simpa using hv) (by simpa using hw) (by rw[aar,aar];exact hsz)) ⟨ho,HA,?_⟩
  rw[e];exact h2 hw
def cL(n d:Nat):Option Int->Nat
 |none=>d
 |some v=>if v<0 then(v+(n:Int)).toNat else min v.toNat n
theorem Om(n d:Nat)(hd:d<=n)(o:Option Int):cL n d o<=n:=by
 cases o with
 |none=>exact hd
 |some v=>
  show(if v<0 then(v+(n:Int)).toNat else min v.toNat n)<=n
  by_cases hv:v<0
  .rw[if_pos hv];omega
  .rw[if_neg hv];exact ahY _ _
theorem CZ(v:Int)(n d:Nat):(if v<0 then max (v+(n:Int)) 0 else min v (n:Int))=((cL n d (ae v):Nat):Int):=by
 show(if v<0 then max (v+(n:Int)) 0 else min v (n:Int))=(((if v<0 then(v+(n:Int)).toNat else min v.toNat n):Nat):Int)
 by_cases hv:v<0
 .simp only[if_pos hv];omega
 .simp only[if_neg hv];omega
theorem C0(lo hi:Option Int)(n:Nat):ad4 lo hi 1 (n:Int)=(((cL n 0 lo:Nat):Int),((cL n n hi:Nat):Int)):=by
 have h1:¬((1:Int)<0):=by omega
 unfold ad4;simp only[h1,if_false];refine aia ?_ ?_
 .cases lo with
  |none=>rfl
  |some v=>exact CZ v n 0
 .cases hi with
  |none=>rfl
  |some v=>exact CZ v n n
theorem C3(i j:Nat):ac3 (i:Int) (j:Int) 1=j - i:=by
 unfold ac3;have h1:(1:Int) > 0:=by omega
 simp only[h1,if_true,Int.ediv_one];split<;>omega
theorem vP{v:aai}{o:Option Int}{Q:Option Int->aah->Prop}(p:ahs v o)(h:Q o s):aat (aaL prog w) A (Builtin.Slice.slicePartIndex v) Q E s:=by
 cases p with
 |none=>exact slicePart_none h
 |int i t=>exact slicePart_int h
theorem lG{sl:Addr}{vl vu:aai}{lo hi:Option Int}{n:Nat}{Q:Int×Int×Nat->aah->Prop}(hs:s.heap.IsSliceOf sl vl vu .none)(pl:ahs vl lo)(pu:ahs vu hi)
  (h:Q (((cL n 0 lo:Nat):Int),1,cL n n hi - cL n 0 lo) s):aat (aaL prog w) A (aft (.ref sl) (pure (n:Int))) Q E s:=by
 obtain⟨os,Fh,Oo,Ka⟩:=id hs;unfold aft Builtin.Slice.sliceFields;refine Zu (Zu (abF Fh Ka (x:=vl) rfl (Zu (abF Fh Ka (x:=vu) rfl (Zu (abF Fh Ka (x:=.none) rfl (aad ?_)))))));refine Zu (slicePart_none ?_);show aat _ _ (if ((1:Int)==0)=true then _ else _) _ _ s;rw[if_neg (by decide)];refine Zu (vP pl (Zu (vP pu (Zu (aad ?_)))));show aat _ _ (match ad4 lo hi 1 (n:Int)with|(lo,hi)=>pure (lo,(1:Int),ac3 lo hi 1)) _ _ s;rw[C0 lo hi n];show aat _ _ (pure (((cL n 0 lo:Nat):Int),(1:Int),ac3 ((cL n 0 lo:Nat):Int) ((cL n n hi:Nat):Int) 1)) _ _ s;rw[C3];exact aad h
theorem HR(xs:Array aai)(i k:Nat):((adg k).filterMap λ(m:Nat)=>xs[((i:Int)+(m:Int)*1).toNat]?).toArray=((xs.toList.drop i).take k).toArray:=by
 have e:(λ(m:Nat)=>xs[((i:Int)+(m:Int)*1).toNat]?)=λm=>xs[i+m]? :=by
  funext m
  have:((i:Int)+(m:Int)*1).toNat=i+m:=by omega
  rw[this]
 rw[e];have:=pick_run xs i k;rw[List.filterMap_map]at this;have e2:((λx=>xs[x]?) ∘ λx=>i+x)=λm=>xs[i+m]? :=rfl
 rw[e2]at this;rw[this]
theorem rZ{t sl:Addr}{items:Array aai}{vl vu:aai}{lo hi:Option Int}(ht:aie s.heap t items)(hs:s.heap.IsSliceOf sl vl vu .none)(pl:ahs vl lo)(pu:ahs vu hi)
  (hw:¬(cL items.size 0 lo=0/\cL items.size items.size hi=items.size))
  (h:Q (.ref s.heap.objs.size) { s with heap:=s.heap.push { cls:=.type "tuple",data:=.seq ((items.toList.drop (cL items.size 0 lo)).take (cL items.size items.size hi - cL items.size 0 lo)).toArray } })
  (hsz:items.size<=sizeLine):aat (aaL prog w) A (agD (.ref t) (.ref sl)) Q E s:=by
 have Bn:sizeOk (.seq ((items.toList.drop (cL items.size 0 lo)).take (cL items.size items.size hi - cL items.size 0 lo)).toArray):=by
  show((items.toList.drop (cL items.size 0 lo)).take (cL items.size items.size hi - cL items.size 0 lo)).toArray.size<=sizeLine;rw[aar,agb,ae0,abb];omega
 have hj:cL items.size items.size hi<=items.size:=Om _ _ (aam _) hi;obtain⟨os,Fh,Oo,Ka⟩:=id hs;have R7:s.TypeIs (.ref sl) "slice":=⟨os,Fh,Oo⟩;unfold agD
 try with_reducible refine aaP ?_
 first|refine Zu (aad ?_)|skip
 refine Zu (wpAny_sequenceKey ht.typeIs (by decide) ?_);refine Zu (aaQ (name:=ab9 "__getitem__") ht.typeIs abg
  (aaO abg ht.typeIs ahb ?_ (aht _ _)))
 show aat _ _ (adZ (.ref t) >>= _) _ _ s;refine Zu (tupleItemsOf_ ht ?_);refine Zu (afx R7 ?_);rw[if_pos (by decide)];refine Zu (lG hs pl pu ?_);have HS:¬((((cL items.size 0 lo:Nat):Int)==0&&(1:Int)==1&&(cL items.size items.size hi - cL items.size 0 lo)==items.size)=true):=by
  intro q;rw[abe,abe]at q;have q1:((cL items.size 0 lo:Nat):Int)=0:=eq_of_beq q.1.1;have q2:cL items.size items.size hi - cL items.size 0 lo=items.size:=eq_of_beq q.2;exact hw ⟨by omega,by omega⟩
 show aat _ _ (if (((cL items.size 0 lo:Nat):Int)==0&&(1:Int)==1&&(cL items.size items.size hi - cL items.size 0 lo)==items.size)=true then _ else _) _ _ s;rw[if_neg HS,HR]
 first
  |exact Zu (m:=adl _) (aaH (aad ⟨_,rfl,aad h⟩) Bn)
  |exact Zu (m:=adl _) (aaH (Zu (aad (aad ⟨_,rfl,aad h⟩))) Bn)
  |exact Zu (Zu (m:=adl _) (aaH (aad (aad ⟨_,rfl,aad h⟩)) Bn))
  |exact Zu (Zu (m:=adl _) (aaH (aad ⟨_,rfl,aad h⟩) Bn))
end
end HT
namespace L2
open PySem PySem.Spec PyProof.Rows
abbrev TO:=St->Hp->(Option Int->Hp->Prop)->Prop
namespace Zu
set_option allowUnsafeReducibility true in
@[scoped irreducible] def _root_.L2.PO(X:Cx)(e:Option abl)(t:TO):Prop:=
 ∀(pins:List (Addr×Obj)) (s:aah) (σ:St) (H:Hp) (Q:Option Int->Hp->Prop),Inv X pins σ H s->t σ H Q->
  aat (aaL X.prog X.w) X.A (evalPart e X.env) (λu s'=>∃o H',Inv X pins σ H' s'/\ahs u o/\Q o H') X.xe s
end Zu
def Kb:TO:=λ_ H Q=>Q af H
def R8(t:TE):TO:=λσ H Q=>t σ H λx H1=>∃i,x= .int i/\Q (ae i) H1
section
variable{X:Cx}{e:abl}{te:TE}{lo hi:Option abl}{tl th:TO}{pos p2:Pos}
theorem Kc:PO X af Kb:=by
 intro pins s σ H Q I h;rw[evalPart_none];exact aad ⟨af,H,I,.none,h⟩
theorem Kd(h:PE X e te):PO X (ae e) (R8 te):=by
 intro pins s σ H Q I hw;rw[evalPart_some];refine bN (h pins s σ H _ I hw) λu s1 bg=>?_
 obtain⟨x,H1,I1,r1,q1⟩:=bg;obtain⟨i,rfl,q⟩:=q1;obtain⟨t,rfl⟩:=r1;exact⟨ae i,H1,I1,.int i t,q⟩
def Bo(X:Cx)(r:V->Option Int->Option Int->Hp->VK->Prop):Prop:=
 ∀(pins:List (Addr×Obj)) (s:aah) (σ:St) (H:Hp) (x:V) (v vl vu:aai) (lo hi:Option Int) (sl:Addr) (Q:VK),Inv X pins σ H s->RelV x v->s.heap.IsSliceOf sl vl vu .none->ahs vl lo->ahs vu hi->r x lo hi H Q->
  ∃T id,typeLookup (.type T) "__getitem__" =pure (ae (.builtin id))/\s.TypeIs v T/\aat (aaL X.prog X.w) X.A (agD v (.ref sl)) (EP X pins σ Q) X.xe s
variable{r:V->Option Int->Option Int->Hp->VK->Prop}
theorem Bo.or{r':V->Option Int->Option Int->Hp->VK->Prop}(h:Bo X r)(h':Bo X r'):Bo X (λx lo hi H Q=>r x lo hi H Q\/r' x lo hi H Q):=by
 intro pins s σ H x v vl vu lo hi sl Q I rx hs pl pu q;rcases q with q|q
 .exact h pins s σ H x v vl vu lo hi sl Q I rx hs pl pu q
 .exact h' pins s σ H x v vl vu lo hi sl Q I rx hs pl pu q
def Yx(r:V->Option Int->Option Int->Hp->VK->Prop)(te:TE)(tl th:TO):TE:=λσ H Q=>te σ H λx H1=>tl σ H1 λl H2=>th σ H2 λu H3=>r x l u H3 Q
theorem HU(hr:Bo X r)(he:PE X e te)(hl:PO X lo tl)(hu:PO X hi th):PE X (.Subscript e (.Slice lo hi af p2) pos) (Yx r te tl th):=by
 intro pins s σ H Q I h;refine Subscript_ (bN (he pins s σ H _ I h) λv s1 bg=>?_);obtain⟨x,H1,I1,r1,q1⟩:=bg;refine wpAny_Slice (bN (hl pins s1 σ H1 _ I1 q1) λvl s2 ⟨l,H2,I2,pl,q2⟩=>bN (hu pins s2 σ H2 _ I2 q2) λvu s3 bg=>?_);obtain⟨u,H3,I3,pu,q3⟩:=bg;rw[evalPart_none];refine aad ?_;have I4:Inv X pins σ H3 { s3 with heap:=s3.heap.push { cls:=.type "slice",data:=.fields #[vl,vu,.none] } }:=I3.kept (t':=s3.toks) λb ob q=>aab _ q
 obtain⟨T,id,hT,ht,hg⟩:=hr pins { s3 with heap:=s3.heap.push { cls:=.type "slice",data:=.fields #[vl,vu,.none] } } σ H3 x v vl vu l u s3.heap.objs.size Q I4 r1 (aiX ..) pl pu q3;show aat (aaL X.prog X.w) X.A (ahu e (.Slice lo hi af p2) v (.ref s3.heap.objs.size)) (EP X pins σ Q) X.xe { s3 with heap:=s3.heap.push { cls:=.type "slice",data:=.fields #[vl,vu,.none] } };exact tail_any (ops:=[.ref s3.heap.objs.size,v]) ht hT hg (by with_unfolding_all rfl)
def oS(xs:List V)(lo hi:Option Int):List V:=(xs.drop (HT.cL xs.length 0 lo)).take (HT.cL xs.length xs.length hi - HT.cL xs.length 0 lo)
theorem tq(xs:List V)(lo hi:Option Int):(oS xs lo hi).length<=xs.length:=by
 unfold oS;rw[agb,ae0];omega
def QQ(K:aaa):V->Option Int->Option Int->Hp->VK->Prop:=λx lo hi H Q=>∃a xs,x= .ref a/\b_ K H a xs/\
 ¬(HT.cL xs.length 0 lo=0/\HT.cL xs.length xs.length hi=xs.length)/\∀p,H p=af->Q (.ref p) (upd H p (.tup (oS xs lo hi)))
theorem Oq:Bo X (QQ X.K):=by
 intro pins s σ H x v vl vu lo hi sl Q I rx hs pl pu h;obtain⟨a,xs,rfl,hx,hw,q⟩:=h;cases rx;obtain⟨its,r,ht,hz⟩:=I.tuple hx;have hlen:its.toArray.size=xs.length:=by rw[aar];exact r.length.symm
 refine⟨"tuple",_,abg.lookup,ht.typeIs,?_⟩;refine HT.rZ ht hs pl pu (by rw[hlen];exact hw) ?_ (by rw[hlen];exact hz);rw[hlen];refine⟨.ref s.heap.objs.size,_,I.laid (t':=s.toks) (o:=.tup (oS xs lo hi)) (λb ob q=>aab _ q) (aam _) ?_,rfl,q _ (I.bc.fresh (aam _))⟩;exact⟨aa7 (tq xs lo hi) hz,_,(r.drop (HT.cL xs.length 0 lo)).take (HT.cL xs.length xs.length hi - HT.cL xs.length 0 lo),aih _ _⟩
def Fi(K:aaa):R2:=λx y H Q=>∃a b xs ys,x= .ref a/\y= .ref b/\b_ K H a xs/\b_ K H b ys/\xs≠[]/\xs.length+ys.length<=sizeLine/\
 (ys=[]->Q (.ref a) H)/\(ys≠[]->∀p,H p=af->Q (.ref p) (upd H p (.tup (xs++ys))))
theorem Vals.xT{xs:List V}{us:List aai}(r:Vals xs us):us=[]↔xs=[]:=by
 cases r with
 |nil=>simp
 |cons _ _=>simp
theorem Ke:eZ X (aek .Add) (Fi X.K):=by
 intro pins s σ H x y v u Q I rx ry h;obtain⟨a,b,xs,ys,rfl,rfl,ha,hb,hx,hz,q1,q2⟩:=h;cases rx;cases ry;obtain⟨its,r1,p1,_⟩:=I.tuple ha;obtain⟨jU,r2,p2,_⟩:=I.tuple hb;refine HT.J3 p1 p2 (λz=>hx (r1.xT.mp z)) (λz=>⟨.ref a,H,I,rfl,q1 (r2.xT.mp z)⟩) (λz=>?_) (by rw[<-r1.length,<-r2.length];exact hz);refine⟨.ref s.heap.objs.size,_,I.laid (t':=s.toks) (o:=.tup (xs++ys)) (λb ob q=>aab _ q) (aam _) ?_,rfl,q2 (λw=>z (r2.xT.mpr w)) _ (I.bc.fresh (aam _))⟩;exact⟨by rw[aaR];exact hz,_,r1.append r2,aih _ _⟩
end
end L2
namespace L2
open PySem PySem.Spec PyProof.Rows
def oT(n:Nat)(i:Int):Option Nat:=if 0<=i then(if i<n then ae i.toNat else af)else if -(n:Int)<=i then ae (i+n).toNat else af
def HV{α:Type}(xs:List α)(i:Int):Option α:=(oT xs.length i).bind λj=>xs[j]?
theorem C4{n:Nat}{i:Int}{j:Nat}(h:oT n i=ae j):seqIndex? i n=ae j/\j<n/\-(n:Int)<=i/\i<n:=by
 unfold oT at h
 by_cases h0: 0<=i
 .rw[if_pos h0]at h
  by_cases h1:i<n
  .rw[if_pos h1]at h
   have e:i.toNat=j:=aaI h;exact⟨by rw[aij h0 h1,e],by omega,by omega,h1⟩
  .rw[if_neg h1]at h;cases h
 .rw[if_neg h0]at h
  by_cases h1: -(n:Int)<=i
  .rw[if_pos h1]at h
   have e:(i+n).toNat=j:=aaI h;exact⟨by rw[ahR (by omega) h1,e],by omega,h1,by omega⟩
  .rw[if_neg h1]at h;cases h
theorem xU{α:Type}{xs:List α}{i:Int}{v:α}(h:HV xs i=ae v):∃j,seqIndex? i xs.length=ae j/\xs[j]? =ae v/\j<xs.length/\-(xs.length:Int)<=i/\i<xs.length:=by
 unfold HV at h;cases e:oT xs.length i with
 |none=>rw[e]at h;cases h
 |some j=>
  rw[e]at h;obtain⟨h1,h2,h3,h4⟩:=C4 e;exact⟨j,h1,h,h2,h3,h4⟩
def tu(b:abl):Prop:=∀o i,ahc b false o i=operate [o,i] (agD o i)
def zE(X:Cx)(r:R2):Prop:=
 ∀(value slice:abl) (pins:List (Addr×Obj)) (s:aah) (σ:St) (H:Hp) (x y:V) (v u:aai) (Q:VK),Inv X pins σ H s->RelV x v->RelV y u->r x y H Q->
  ahc slice false v u=operate [v,u] (agD v u)->aat (aaL X.prog X.w) X.A (ahu value slice v u) (EP X pins σ Q) X.xe s
def Yy(X:Cx)(id:String)(r:V->List V->Hp->VK->Prop):Prop:=
 ∀(pins:List (Addr×Obj)) (s:aah) (σ:St) (H:Hp) (x:V) (xs:List V) (v:aai) (us:List aai) (Q:VK),Inv X pins σ H s->RelV x v->Vals xs us->r x xs H Q->
  aat (aaL X.prog X.w) X.A (call (.builtin id) (v::us)) (EP X pins σ Q) X.xe s
section
variable{X:Cx}{a b:abl}{ta tb:TE}{pos:Pos}
theorem zE.or{r r':R2}(h:zE X r)(h':zE X r'):zE X (λx y H Q=>r x y H Q\/r' x y H Q):=by
 intro value slice pins s σ H x y v u Q I rx ry q hs;rcases q with q|q
 .exact h value slice pins s σ H x y v u Q I rx ry q hs
 .exact h' value slice pins s σ H x y v u Q I rx ry q hs
theorem R9{r:R2}(hr:zE X r)(ha:PE X a ta)(hb:PE X b tb)(hs:tu b):PE X (.Subscript a b pos) (JR r ta tb):=by
 intro pins s σ H Q I h;exact Subscript_ (JS ha hb I h λv u s2 x y H2 I2 rx ry q=>hr a b pins s2 σ H2 x y v u Q I2 rx ry q (hs _ _))
def QR(K:aaa):R2:=λx y H Q=>∃p xs i v,x= .ref p/\y= .int i/\b8 K H p xs/\HV xs i=ae v/\Q v H
def QU(K:aaa):R2:=λx y H Q=>∃p xs i v,x= .ref p/\y= .int i/\b_ K H p xs/\HV xs i=ae v/\Q v H
def QV:R2:=λx y H Q=>∃z i c,x= .str z/\y= .int i/\z.length<=sizeLine/\HV z.cps.toList i=ae c/\Q (.str ⟨#[c]⟩) H
theorem Kf:zE X (QR X.K):=by
 intro value slice pins s σ H x y v u Q I rx ry h hs;obtain⟨p,xs,i,z,rfl,rfl,hq,he,q⟩:=h;cases rx;obtain⟨t,rfl⟩:=ry;obtain⟨its,r,pl,hz⟩:=I.list hq;obtain⟨j,h1,h2,h3,h4,h5⟩:=xU he;obtain⟨w,ew,wM⟩:=r.get h2;have hl:=r.length;have hn:=tj;have fin:EP X pins σ Q w s:=⟨z,H,I,wM,q⟩
 by_cases h0: 0<=i
 .have hj:i.toNat=j:=by
   rw[aij h0 h5]at h1;exact aaI h1
  exact item_listR pl.isList h0 (by omega) (by rw[hj];simpa using ew) fin hs
 .have hj:(i+(its.toArray.size:Int)).toNat=j:=by
   rw[ahR (by omega) h4]at h1;rw[aar,<-hl];exact aaI h1
  exact agq (x:=w) pl.isList.typeIs slot_list_getitem.lookup
   (wpAny_getItem_list_neg (Q:=λr s'=>r=w/\EP X pins σ Q r s') pl.isList (by omega) (by rw[aar]<;>omega) (by omega) (by rw[hj];simpa using ew) ⟨rfl,fin⟩) hs
theorem Ot:zE X (QU X.K):=by
 intro value slice pins s σ H x y v u Q I rx ry h hs;obtain⟨p,xs,i,z,rfl,rfl,hq,he,q⟩:=h;cases rx;obtain⟨t,rfl⟩:=ry;obtain⟨its,r,pl,hz⟩:=I.tuple hq;obtain⟨j,h1,h2,h3,h4,h5⟩:=xU he;obtain⟨w,ew,wM⟩:=r.get h2;have hl:=r.length;have hn:=tj;have fin:EP X pins σ Q w s:=⟨z,H,I,wM,q⟩;exact agq (x:=w) pl.typeIs slot_tuple_getitem.lookup
  (getItem_tuple (j:=j) (Q:=λr s'=>r=w/\EP X pins σ Q r s') pl (by omega) (by omega) (by rw[aar,<-hl];exact h1) (by simpa using ew) ⟨rfl,fin⟩) hs
theorem Ou:zE X QV:=by
 intro value slice pins s σ H x y v u Q I rx ry h hs;obtain⟨z,i,c,rfl,rfl,hz,he,q⟩:=h;obtain⟨t,rfl⟩:=rx;obtain⟨t',rfl⟩:=ry;obtain⟨j,h1,h2,h3,h4,h5⟩:=xU he;have hl:z.cps.toList.length=z.length:=by simp[Str.length]
 rw[hl]at h1 h4 h5;have hn:=tj;exact tail_any (typeIs_str s z t) slot_str_getitem.lookup (getItem_str (c:=c) (by
  have e1:decide (i< -(2 ^ 63:Int))=false:=decide_eq_false (by omega);have e2:decide (i≥2 ^ 63)=false:=decide_eq_false (by omega);rw[e1,e2,Bool.or_false]) (by rw[h1];simpa using h2) ⟨.str ⟨#[c]⟩,H,I.tok _,⟨_,rfl⟩,q⟩) hs
def VO(K:aaa):R2:=λx y H Q=>QR K x y H Q\/QU K x y H Q\/QV x y H Q
theorem Ov:zE X (VO X.K):=Kf.or (Ot.or Ou)
theorem C6(its:List aai)(n j:Nat)(u:aai):aeD (·.setIfInBounds j u) { cls:=.type "list",data:=.seq its.toArray n } = { cls:=.type "list",data:=.seq (its.set j u).toArray n }:=by
 simp[aeD]
variable{pins:List (Addr×Obj)}
theorem Inv.lst{σ:St}{H:Hp}{s:aah}{p:Addr}{xs:List V}(I:Inv X pins σ H s)(h:H p=ae (.lst xs)):
  ∃(its:List aai) (n:Nat),Vals xs its/\s.heap.get? p=ae { cls:=.type "list",data:=.seq its.toArray n }/\xs.length<=sizeLine:=by
 obtain⟨z,its,n,r,e⟩:=I.bc p _ h;exact⟨its,n,r,e,z⟩
theorem Inv.Ow{σ:St}{H:Hp}{s:aah}{p:Addr}{xs ys:List V}{its its':List aai}{n n':Nat}{f:Obj->Obj}(I:Inv X pins σ H s)(h:H p=ae (.lst xs))
  (ho:s.heap.get? p=ae { cls:=.type "list",data:=.seq its.toArray n })(hf:f { cls:=.type "list",data:=.seq its.toArray n } = { cls:=.type "list",data:=.seq its'.toArray n' })(r:Vals ys its')(hz:ys.length<=sizeLine)(t:Nat):
  Inv X pins σ (upd H p (.lst ys)) { s with heap:=s.heap.update p f,toks:=t }:=by
 have e:(s.heap.update p f).get? p=ae { cls:=.type "list",data:=.seq its'.toArray n' }:=by
  rw[abi f ho (by rw[hf]<;>rfl),hf]
 refine I.write (x:=p) (e:=p) (by rw[h];trivial) (.inl rfl) (λb u hb q=>(aaW _ _ (acu hb)).trans q) ⟨_,e⟩ ?_;exact⟨hz,its',n',r,e⟩
def R_:V->V->V->Hp->(Hp->Prop)->Prop:=λo i v H Q=>∃p xs k j,o= .ref p/\i= .int k/\H p=ae (.lst xs)/\oT xs.length k=ae j/\Q (upd H p (.lst (xs.set j v)))
theorem set_list:QK X R_:=by
 intro pins s σ H o i v ov iv u Q I ro ri rv h;obtain⟨p,xs,k,j,rfl,rfl,hp,hj,q⟩:=h;cases ro;obtain⟨t,rfl⟩:=ri;obtain⟨its,n,r,ho,hz⟩:=I.lst hp;obtain⟨h1,h2,h3,h4⟩:=C4 hj;have hl:=r.length;have hn:=tj;have I':Inv X pins σ (upd H p (.lst (xs.set j v))) { s with heap:=s.heap.update p (aeD (·.setIfInBounds j u)) }:=
  I.Ow hp ho (C6 its n j u) (r.set rv j) (by rw[acf];exact hz) s.toks
 by_cases h0: 0<=k
 .have hk:k.toNat=j:=by
   rw[aij h0 h4]at h1;exact aaI h1
  exact PySem.W.ki_setAt ho h0 (by omega) (by rw[aar,<-hl];exact h4) (by rw[hk];exact⟨_,I',q⟩)
 .have hk:(k+(its.toArray.size:Int)).toNat=j:=by
   rw[ahR (by omega) h3]at h1;rw[aar,<-hl];exact aaI h1
  exact PySem.W.ki_setBack ho (by omega) (by rw[aar,<-hl];exact h3) (by omega) (by rw[hk];exact⟨_,I',q⟩)
theorem zF(lo hi:Option Int)(n:Nat):(aeE lo hi af n).1=((HT.cL n 0 lo:Nat):Int)/\(aeE lo hi af n).2.1=((HT.cL n n hi:Nat):Int)/\(aeE lo hi af n).2.2=1:=by
 refine⟨?_,?_,rfl⟩
 .cases lo with
  |none=>simp[aeE,HT.cL]
  |some i=>
   simp only[aeE,HT.cL,ahZ,show(1:Int) > 0 by decide,if_true]
   by_cases h:i<0
   .simp only[h,if_true]<;>omega
   .simp only[h,if_false]<;>omega
 .cases hi with
  |none=>simp[aeE,HT.cL]
  |some i=>
   simp only[aeE,HT.cL,ahZ,show(1:Int) > 0 by decide,if_true]
   by_cases h:i<0
   .simp only[h,if_true]<;>omega
   .simp only[h,if_false]<;>omega
theorem xV(its:List aai)(lo hi:Option Int):slicePick its.toArray lo hi af=((its.drop (HT.cL its.length 0 lo)).take (HT.cL its.length its.length hi - HT.cL its.length 0 lo)).toArray:=by
 obtain⟨h1,h2,h3⟩:=zF lo hi its.toArray.size;unfold slicePick;rw[h1,h2,h3];simp only[sliceRange_one,pick_run,aar]<;>rfl
def QX(K:aaa):V->Option Int->Option Int->Hp->VK->Prop:=λx lo hi H Q=>∃a xs,x= .ref a/\b8 K H a xs/\∀p,H p=af->Q (.ref p) (upd H p (.lst (oS xs lo hi)))
theorem Kg:Bo X (QX X.K):=by
 intro pins s σ H x v vl vu lo hi sl Q I rx hs pl pu h;obtain⟨a,xs,rfl,hx,q⟩:=h;cases rx;obtain⟨its,r,ht,hz⟩:=I.list hx;have hlen:=r.length;refine⟨"list",_,slot_list_getitem.lookup,ht.isList.typeIs,?_⟩;refine wpAny_getItem_list_slice ht.isList hs pl pu .none (by simp) ?_ (by rw[aar]<;>omega);rw[xV,<-hlen];refine⟨.ref s.heap.objs.size,_,I.laid (t':=s.toks) (o:=.lst (oS xs lo hi)) (λb ob q=>aab _ q) (aam _) ?_,rfl,q _ (I.bc.fresh (aam _))⟩;exact⟨aa7 (tq xs lo hi) hz,_,0,(r.drop (HT.cL xs.length 0 lo)).take (HT.cL xs.length xs.length hi - HT.cL xs.length 0 lo),aal _ rfl⟩
theorem zG:eR X (.builtin "len") (λxs H Q=>∃p ys,xs=[.ref p]/\(b8 X.K H p ys\/b_ X.K H p ys)/\Q (.int ys.length) H):=by
 intro pins s σ H xs us Q I r h;obtain⟨p,ys,rfl,hq,q⟩:=h;obtain⟨u,rfl,rx⟩:=vals1 r;cases rx;have hn:=tj;rcases hq with hq|hq
 .obtain⟨its,r',pl,hz⟩:=I.list hq
  have hlen:=r'.length;exact Calls.call_len_list pl.isList (by simp only[aar]<;>omega) ⟨.int ys.length,H,I.tok _,⟨s.toks+1,by rw[aar,hlen]⟩,q⟩
 .obtain⟨its,r',pl,hz⟩:=I.tuple hq
  have hlen:=r'.length;exact len_tuple pl (by simp only[aar]<;>omega) ⟨.int ys.length,H,I.tok _,⟨s.toks+1,by rw[aar,hlen]⟩,q⟩
theorem qR:eR X (.type "list") (λxs H Q=>∃p ys,xs=[.ref p]/\(b8 X.K H p ys\/b_ X.K H p ys)/\∀l,H l=af->Q (.ref l) (upd H l (.lst ys))):=by
 intro pins s σ H xs us Q I r h;obtain⟨p,ys,rfl,hq,q⟩:=h;obtain⟨u,rfl,rx⟩:=vals1 r;cases rx;have fin:∀(its:List aai),Vals ys its->ys.length<=sizeLine->∀(h':Heap) (c':Nat),(∀b o',s.heap.get? b=ae o'->h'.get? b=ae o')->
   h'.get? s.heap.objs.size=ae { cls:=.type "list",dict:=af,data:=.seq its.toArray c',slots:=#[] }->EP X pins σ Q (.ref s.heap.objs.size) { s with heap:=h' }:=λits r' hz h' c' kp e=>
  ⟨.ref s.heap.objs.size,_,I.laid (t':=s.toks) kp (aam _) (show b7 X.prog X.w _ h' _ (.lst ys)from⟨hz,its,c',r',e⟩),rfl,q _ (I.bc.fresh (aam _))⟩
 rcases hq with hq|hq
 .obtain⟨its,r',pl,hz⟩:=I.list hq
  have hlen:=r'.length;obtain⟨o,ho,hc,n,hd⟩:=pl.isList;exact call_list_seq p (.inl rfl) ho hc hd (λh' c' kp e=>fin its r' hz h' c' kp e) (by simp only[aar]<;>omega)
 .obtain⟨its,r',pl,hz⟩:=I.tuple hq
  have hlen:=r'.length;obtain⟨o,ho,hc,n,hd⟩:=pl;exact call_list_seq p (.inr rfl) ho hc hd (λh' c' kp e=>fin its r' hz h' c' kp e) (by simp only[aar]<;>omega)
def Sa(K:aaa)(T:String)(x:V)(H:Hp):Prop:=match x with
 |.str _=>T= "str"
 |.int _=>T= "int"
 |.ref p=>(T= "list"/\∃xs,b8 K H p xs)\/(T= "tuple"/\∃o,K.lookup p=ae o/\o.cls= .type "tuple"/\o.dict=af)\/
   (T= "dict"/\((∃aN,H p=ae (.dK aN))\/∃aN,H p=ae (.dT aN)))\/(T= "set"/\∃S n,H p=ae (.set S n))
 |_=>False
theorem Ox{σ:St}{H:Hp}{s:aah}{T:String}{x:V}{v:aai}(I:Inv X pins σ H s)(r:RelV x v)(ty:Sa X.K T x H):
  s.TypeIs v T/\∀a,v= .ref a->∃ob,s.heap.get? a=ae ob/\ob.dict=af:=by
 cases x with
 |str z=>
  obtain⟨t,rfl⟩:=r;cases (show T= "str" from ty);exact⟨typeIs_str s z t,λ_ e=>nomatch e⟩
 |int i=>
  obtain⟨t,rfl⟩:=r;cases (show T= "int" from ty);exact⟨agR s i t,λ_ e=>nomatch e⟩
 |ref p=>
  cases r;rcases ty with⟨rfl,xs,hq⟩|⟨rfl,o,hk,hc,hd⟩|⟨rfl,hk⟩|⟨rfl,S,n,hk⟩
  .obtain⟨its,_,pl,_⟩:=I.list hq
   refine⟨pl.isList.typeIs,λa e=>?_⟩;cases e;obtain⟨o,n,e,c,hd,_⟩:=pl;exact⟨o,e,hd⟩
  .refine⟨⟨o,I.oG p o hk,hc⟩,λa e=>?_⟩
   cases e;exact⟨o,I.oG _ o hk,hd⟩
  .have z:∃o,s.heap.get? p=ae o/\o.ExactDict:=by
    rcases hk with⟨aN,hk⟩|⟨aN,hk⟩
    .obtain⟨_,_,_,_,o,_,_,e,ex,_⟩:=I.bc p _ hk
     exact⟨o,e,ex⟩
    .obtain⟨_,_,_,_,o,_,_,e,ex,_⟩:=I.bc p _ hk
     exact⟨o,e,ex⟩
   obtain⟨o,e,ex⟩:=z;refine⟨⟨o,e,ex.1⟩,λa e2=>?_⟩;cases e2;exact⟨o,e,ex.2.1⟩
  .obtain⟨o,_,_,_,e,ex,_⟩:=I.bc p _ hk
   refine⟨⟨o,e,ex.1⟩,λa e2=>?_⟩;cases e2;exact⟨o,e,ex.2.1⟩
 |_=>exact adV ty
def Yz(K:aaa)(T:String)(r:V->List V->Hp->VK->Prop)(to:TE)(t:TA):TE:=λσ H Q=>to σ H λx H1=>Sa K T x H1/\t σ H1 λxs H2=>r x xs H2 Q
variable{o e:abl}{es:List abl}{to:TE}{t:TA}{name:Str}{apos cG:Pos}{T id:String}{r:V->List V->Hp->VK->Prop}
theorem Sb(pa:PlainAttrs T)(slot:Slot T name id)(Se:typeOf (.builtin id)=pure (.type "method_descriptor"))(hm:Yy X id r)(ho:PE X o to)(ha:PA X (e::es) t)
  (nI:aen o name X.env (adL o X.env)=adL o X.env:=by rfl)
  (tw:((acy cG (aau (e::es) X.env)).all (λx=>!x.1)&&(ahv cG (afk [] X.env)).all (λx=>x.1.isSome)
   &&decide ((e::es).length+([]:List aeZ).length+(if ([]:List aeZ).isEmpty then 0 else 1)<30))=true:=by rfl)
  (nJ:(apos.endLine==cG.line)=true:=by rfl)(hs:aau (e::es) X.env=(false,adL e X.env)::aau es X.env:=by rfl)(Bp:(acy cG (aau es X.env)).any (·.1)=false:=by rfl):
  PE X (.Call (.Attribute o name apos) (e::es) [] cG) (Yz X.K T r to t):=by
 intro pins s σ H Q I h;refine wpAny_Call_method_late nI tw nJ rfl (bN (ho pins s σ H _ I h) λv s1 bg=>?_);obtain⟨x,H1,I1,r1,ty,q1⟩:=bg;obtain⟨h1,h2⟩:=Ox I1 r1 ty;refine⟨T,id,pa,slot,Se,h1,h2,?_⟩;have hA:=ha cG pins s1 σ H1 _ I1 q1;rw[hs]at hA |-
 refine aew (by show(false||(acy cG (aau es X.env)).any (·.1))=false;rw[Bp]<;>rfl) (agS ?_);exact bN hA λus s2 ⟨vs,H2,I2,r2,q2⟩=>hm pins s2 σ H2 x vs v us Q I2 r1 r2 q2
end
end L2
namespace L2
open PySem PySem.Spec PyProof.Rows
def Oy(X:Cx)(id:String)(r:V->List V->Hp->VK->Prop):Prop:=
 ∀(pins:List (Addr×Obj)) (s:aah) (σ:St) (H:Hp) (x:V) (xs:List V) (v:aai) (us:List aai) (Q:VK),Inv X pins σ H s->RelV x v->Vals xs us->r x xs H Q->
  aat (aaL X.prog X.w) X.A (call (.builtin id) (v::us)) (EP X pins σ Q) X.xe s
theorem Vals.one:∀{x:V}{us:List aai},Vals [x] us->∃u,us=[u]/\RelV x u
 |_,_,.cons r .nil=>⟨_,rfl,r⟩
section
variable{X:Cx}{pins:List (Addr×Obj)}{σ:St}{H:Hp}{s:aah}{l b:Addr}{xs ys zs:List V}
theorem Inv.Kh{its its':List aai}{n:Nat}{f:Array aai->Array aai}{t':Nat}(I:Inv X pins σ H s)(hH:H l=ae (.lst xs))
  (e:s.heap.get? l=ae { cls:=.type "list",data:=.seq its.toArray n })(hf:f its.toArray=its'.toArray)(hv:Vals ys its')(hz:ys.length<=sizeLine):
  Inv X pins σ (upd H l (.lst ys)) { s with heap:=s.heap.update l (aeD f),toks:=t' }:=by
 have q:=PySem.IsL.update e f;rw[hf]at q;refine I.write (x:=l) (e:=l) (by rw[hH];exact trivial) (.inl rfl) (λb' u hb hu=>(aaW s.heap (aeD f) (acu hb)).trans hu) ⟨_,q⟩ ?_;exact⟨hz,its',_,hv,q⟩
theorem Inv.QY{its:List aai}{t':Nat}(I:Inv X pins σ H s)(hv:Vals ys its)(hz:ys.length<=sizeLine):
  Inv X pins σ (upd H s.heap.objs.size (.lst ys)) { s with heap:=s.heap.push { cls:=.type "list",data:=.seq its.toArray },toks:=t' }:=
 I.laid (λ_ _ q=>aab _ q) (aam _) ⟨hz,its,0,hv,aal _ rfl⟩
theorem Inv.fresh(I:Inv X pins σ H s):H s.heap.objs.size=af:=I.bc.fresh (aam _)
theorem Inv.zW(I:Inv X pins σ H s)(hH:H l=ae (.lst xs)):xs.length<=sizeLine/\∃(its:List aai) (n:Nat),Vals xs its/\xs.length=its.length/\s.heap.get? l=ae { cls:=.type "list",data:=.seq its.toArray n }:=by
 obtain⟨z,its,n,r,e⟩:=I.bc l _ hH;exact⟨z,its,n,r,r.length,e⟩
theorem zX{n:Nat}(h:n<=sizeLine):ack n=false:=by
 unfold ack;exact decide_eq_false (by omega)
end
section
variable{X:Cx}
def C7:V->List V->Hp->VK->Prop:=λx vs H Q=>∃l xs y,x= .ref l/\vs=[y]/\H l=ae (.lst xs)/\xs.length<sizeLine/\Q .aX (upd H l (.lst (xs++[y])))
theorem jg:Oy X "list.append" C7:=by
 intro pins s σ H x vs v us Q I rx rv h;obtain⟨l,xs,y,rfl,rfl,hH,hz,q⟩:=h;cases rx;obtain⟨u,rfl,ru⟩:=rv.one;obtain⟨z,its,n,r,hl,e⟩:=I.zW hH;refine ahH F.slot_list_append ⟨_,e,rfl⟩ F.entry_list_append (F.args_list_append_2 _ _) (PySem.list_append l its.toArray n u (by rw[aar];omega)) ⟨e,?_⟩;refine⟨.aX,_,I.Kh (its':=its++[u]) hH e (by simp) (r.append (.cons ru .nil)) ?_,rfl,q⟩;rw[aaR,List.length_singleton];omega
def C8:V->List V->Hp->VK->Prop:=λx vs H Q=>∃l b xs zs,x= .ref l/\vs=[.ref b]/\H l=ae (.lst xs)/\H b=ae (.lst zs)/\xs.length+zs.length<=sizeLine/\Q .aX (upd H l (.lst (xs++zs)))
theorem xW:Oy X "list.extend" C8:=by
 intro pins s σ H x vs v us Q I rx rv h;obtain⟨l,b,xs,zs,rfl,rfl,hH,hB,hz,q⟩:=h;cases rx;obtain⟨u,rfl,ru⟩:=rv.one;cases ru;obtain⟨z,its,n,r,hl,e⟩:=I.zW hH;obtain⟨z2,jU,n2,r2,Bq,e2⟩:=I.zW hB;have hsz:its.toArray.size+jU.toArray.size<=sizeLine:=by rw[aar,aar];omega
 have Fj:¬(!its.toArray.isEmpty&&ack (its.toArray.size+jU.toArray.size))=true:=by
  rw[zX hsz,ait];exact aaz
 refine ahH ahw ⟨_,e,rfl⟩ ahd (agT _ _)
  (AutoSeq1.list_extend_list_list_0 l its.toArray n b jU.toArray n2 Fj (by rw[aar];omega) (by omega)) ⟨e,e2,?_⟩
 refine⟨.aX,_,I.Kh (its':=its++jU) hH e (by simp) (r.append r2) ?_,rfl,q⟩;rw[aaR];omega
def Ki:R2:=λx y H Q=>∃l b xs zs,x= .ref l/\y= .ref b/\H l=ae (.lst xs)/\H b=ae (.lst zs)/\xs.length+zs.length<=sizeLine/\∀p,H p=af->Q (.ref p) (upd H p (.lst (xs++zs)))
theorem Oz:eZ X (aek .Add) Ki:=by
 intro pins s σ H x y v u Q I rx ry h;obtain⟨l,b,xs,zs,rfl,rfl,hH,hB,hz,q⟩:=h;cases rx;cases ry;obtain⟨z,its,n,r,hl,e⟩:=I.zW hH;obtain⟨z2,jU,n2,r2,Bq,e2⟩:=I.zW hB;refine PySem.P.add_list e e2 ?_ (by rw[aar,aar];omega);have ea:its.toArray++jU.toArray=(its++jU).toArray:=by simp
 rw[ea];exact⟨.ref _,_,I.QY (t':=s.toks) (r.append r2) (by rw[aaR];omega),rfl,q _ I.fresh⟩
end
section
variable{prog:aaD}{w:aa9}{A:aa4}{E:aai->aah->Prop}{s:aah}
end
section
variable{X:Cx}
end
end L2
namespace VP
open PySem PySem.W PySem.Calls PyProof.Rows
theorem uU{P:Params}{h:Heap}:∀(ns:List Int) (vs:List aai),WellAll P h vs (ns.map WData.int)->ac4 vs ns:=by
 intro ns
 induction ns with
 |nil=>
  intro vs w;rw[afy]at w;cases w;exact .nil
 |cons n ns ih=>
  intro vs w;rw[aaV]at w;cases w with
  |cons a b=>
   cases a;exact .cons _ _ (ih _ b)
theorem Fm{l:OpenLaw}{n:Nat}(hn:l.most=ae n){P:Params}{h:Heap}{args:List WData}{vals:List aai}
  (Gv:l.row.toRowW.claim.pre args=true)(Sf:WellAll P h vals args):
  ∃a vs ns,vals=[aaw a]/\args=[WData.list (ns.map WData.int)]/\h.get? a=ae { cls:=.type "list",data:=.seq vs.toArray }/\ac4 vs ns/\ns.length<=n:=by
 have YA:WShape.hasAll [] args [.list .int]=true:=(pre_splitW Gv).1;have hc:l.pre.holds [] { args:=args } =true:=(pre_splitW Gv).2;obtain⟨d,r,rfl,h1,h2⟩:=hasAllW_cons YA;obtain rfl:=hasAllW_nil h2;obtain⟨xs,rfl,h3⟩:=hasW_list h1;obtain⟨ns,rfl⟩:=items_int h3;have hlen:ns.length<=n:=by
  unfold OpenLaw.pre at hc;have h4:(WTm.not (.lt (.lit (.int (n:Int))) (.len (.arg 0)))).holds [] { args:=[.list (ns.map .int)] } =true:=by
   have h4:=(holds_andW hc).1;rw[hn]at h4;exact h4
  have h5:=condW_of h4 (w_not (w_lt w_lit (w_len_list (w_arg rfl))));rw[aas]at h5;refine ae1 λq=>?_
  have q':(n:Int)<((ns.length:Nat):Int):=by omega
  first
   |(rw[decide_eq_true q']at h5;exact absurd h5 (by decide))
   |(simp at h5;omega)
 cases Sf with
 |cons w1 w2=>
  cases w2;cases w1 with
  |list ho zS=>exact⟨_,_,ns,rfl,rfl,ho,uU ns _ zS,hlen⟩
theorem Fn(l:OpenLaw)(args:List WData):l.row.toRowW.claim.post args (.bool true) args=true:=
 postW_of (r:=l.row.toRowW) (X:=(true==true))
  (show WShape.has [] (.bool true) .bool=true by first|rfl|decide|simp[WShape.has,WShape.arms,WShape.armsAll])
  (show(WTm.eq .res (.lit (.bool true))).value [] { args:=args,res:=ae (.bool true),after:=args } =ae (.bool (true==true))from w_eq_bool (w_res rfl) w_lit) rfl
theorem Br{l:OpenLaw}{n:Nat}{q:aaD}{loose:List Str}{XP:(Str->Option aai)->Heap->Prop}{YP:aa9->Heap->Prop}{d:DefRec}
  (hn:l.most=ae n)(Kj:d.params.defaults=[])
  (call:∀(w:aa9) (bJ bS:aah) (mg mb:Str->Option aai) (fa:Addr) (o:Obj) (pm cd doc:aai) (a:Addr) (vs:List aai) (ns:List Int),
   Ground q loose [] XP w bJ mg mb bS.heap->YP w bS.heap->
   bS.heap.get? fa=ae o->o.data= .func (docDef d.name d.params d.body d.scope pm cd doc)->bS.heap.CodeRec cd d.name->mg d.name=ae (.ref fa)->
   bS.heap.get? a=ae { cls:=.type "list",data:=.seq vs.toArray }->ac4 vs ns->ns.length<=n->bS.gens= #[]->
   aeC (aaL l.prog w) ahI (.call (.ref fa) ⟨[.ref a],[]⟩) (λr s'=>r= .ok (.ret (.bool true))/\OldK bS.heap s'.heap/\s'.os=bS.os/\agy s'.gens) bS):
  WalkO q loose XP YP l.row.toRowW d [] (λf vs=>aix f vs):=by
 intro w bJ bS mg mb G Y fa o pm cd doc dV kV ho hd uT hD Kk hg args vals as Gv abM hrd Sf hlo;obtain rfl:dV= .none:=Dflts.none hD Kj;obtain rfl:kV= .none:=Dflts.noKw hD;obtain⟨a,vs,ns,rfl,rfl,Kl,hints,hlen⟩:=Fm hn Gv Sf;refine enter_call (ahQ (call w bJ bS mg mb fa o pm cd doc a vs ns G Y ho (fd_plain hd) uT Kk Kl hints hlen hg) λr s' hq=>?_);obtain⟨rfl,h2,h3,h4⟩:=hq;exact⟨.inl ⟨.bool true,.bool true,[],rfl,λ_=>rfl,.bool true,Fn l _,λ_=>⟨List.Pairwise.nil,λ_ hm=>(nomatch hm)⟩⟩,h2,h3,h4⟩
section
variable{prog:aaD}{w:aa9}{A:aa4}{E:aai->aah->Prop}{s:aah}{K:Frag}
end
end VP
namespace L2
open PySem PySem.Spec PyProof.Rows
theorem xX:∀{vs:List aai}{ns:List Int},ac4 vs ns->Vals (ns.map V.int) vs
 |_,_,.nil=>.nil
 |_,_,.cons n t h=>.cons ⟨t,rfl⟩ (xX h)
def C9(H:Hp):Prop:=∀b,H b=af\/∃o xs,H b=ae (.gr o (.lst xs))
theorem HW{P:aaD}{w:aa9}{K:aaa}{mg mb:Str->Option aai}{CX:wO}{k:Nat}{fa a:Addr}{fd:aaC}{x:Str}{sp:Sp}{bS:aah}{vs:List aai}{ns:List Int}
  (KX:K.In bS.heap)(Bs:bS.heap.Ns acs mg)(hb:bS.heap.Ns builtinsNs mb)(YB:∀x:Str,x≠"__name__"->mb x=aa6 x)(VQ:bS.heap.NoLimit)(hg:bS.gens= #[])
  (ha:bS.heap.get? a=ae { cls:=.type "list",data:=.seq vs.toArray })(hi:ac4 vs ns)(hl:ns.length<=sizeLine)(hr:fq k ahI)
  (F:∀base:Heap,K.In base->base.Ns acs mg->bE P w K mg base CX k fa fd [x] sp)(Sh:∀(s:aah) (u:aai),aha s fd ⟨[u],[]⟩ [(x,u)])
  (zD:∀H:Hp,C9 H->b8 K H a (ns.map V.int)->sp [.ref a] H (λv _=>v= .bl true) λ_ _ _=>False)
  (Si:∀H e s',CX [] H bS (λ_ _ _=>False) e s'->False):
  aeC (aaL P w) ahI (.call (.ref fa) ⟨[.ref a],[]⟩) (λr s'=>r= .ok (.ret (.bool true))/\OldK bS.heap s'.heap/\s'.os=bS.os/\agy s'.gens) bS:=by
 have rv:=xX hi;have VR:=hi.length
 -- from an abstract heap in YC nothing but xN OA may be tracked
 have core:∀H:Hp,C9 H->b8 K H a (ns.map V.int)->hG P w H bS.heap->(∀b,H b≠af->b=a)->(H a≠af->K.lookup a=af)->
   aeC (aaL P w) ahI (.call (.ref fa) ⟨[.ref a],[]⟩) (λr s'=>r= .ok (.ret (.bool true))/\OldK bS.heap s'.heap/\s'.os=bS.os/\agy s'.gens) bS:=by
  intro H hO hS bc hA hK;have C_:∀{b:Addr}{o:Obj},bS.heap.get? b=ae o->H b=af->(sX bS.heap H).get? b=ae o:=λe n=>HD e n
  have J1:∀{b:Addr}{o:Obj}{es:Array abd}{ep:Nat},bS.heap.get? b=ae o->o.data= .dict es ep->H b=af:=λ{b o es ep} e d=>by
   cases q:H b with
   |none=>rfl
   |some u=>
    have e':b=a:=hA b (by rw[q];simp);subst e';rw[ha]at e;cases e;have d':Data.seq vs.toArray _=Data.dict es ep:=d;cases d'
  have OB:∀{b:Addr}{m:Str->Option aai},bS.heap.Ns b m->(sX bS.heap H).Ns b m:=λ{b m} ⟨o,es,ep,e,d,r⟩=>⟨o,es,ep,C_ e (J1 e d),d,r⟩
  have VT:K.In (sX bS.heap H):=λb o e=>C_ (KX b o e) (by
   cases q:H b with
   |none=>rfl
   |some u=>
    have e':b=a:=hA b (by rw[q];simp);subst e';rw[hK (by rw[q];simp)]at e;cases e)
  have hM:Mod K mg (sX bS.heap H):=⟨VT,OB Bs,⟨mb,OB hb,YB⟩,let ⟨mc,h1,h2⟩:=VQ;⟨mc,OB h1,h2⟩⟩;have e0:Gs P w K mg (sX bS.heap H) ahI [] bS H:=⟨rfl,hM,λb o e=>JA e,Nat.le_of_eq (EY _ _),trivial,λb hb=>absurd (show b∈([]:List Addr)from hb) (by simp),bc,.of_eq hg⟩;refine ahQ ((F _ VT (OB Bs)).run ahI [] bS H ⟨[.ref a],[]⟩ [.ref a] [.ref a] _ _ hr e0 (Sh bS (.ref a)) (.cons rfl .nil) (zD H hO hS)) λr s' h=>?_
  cases r with
  |error e=>exact(Si H e s' h).elim
  |ok fl=>
   cases fl with
   |next=>exact adV h
   |brk=>exact adV h
   |cont=>exact adV h
   |ret u=>
    obtain⟨v,H',os,bare,un,VU,r',q⟩:=h;have q':v= .bl true:=q;subst q';obtain rfl:u=agQ true:=r';refine⟨rfl,OldK.of_keep λb o e=>?_,os,bare⟩;cases q:H b with
    |none=>exact un.keep b o e q (by intro z;exact absurd (show b∈([]:List Addr)from z) (by simp)) (by simp)
    |some u=>
     rcases hO b with z|⟨ob,xs,z⟩
     .rw[q]at z;cases z
     .have z2:=un.sW b ob _ z
      obtain⟨e1,_⟩:=bc b _ z;obtain⟨e2,_⟩:=VU b _ z2;rw[e]at e1;cases e1;exact e2
 cases hk:K.lookup a with
 |some o=>
  -- xN OA is one of xN Vb own objects
  have e:=KX a o hk;rw[ha]at e;cases e;refine core (λ_=>af) (λ_=>.inl rfl) (.inr ⟨_,vs.toArray,_,hk,rfl,rfl,rfl,by rw[aar,VR];exact hl,by simpa using rv⟩) (λb u z=>by have z':(af:Option HO)=ae u:=z;cases z') (λb z=>absurd rfl z) λz=>absurd rfl z
 |none=>
  refine core (λb=>if b=a then ae (.gr { cls:=.type "list",data:=.seq vs.toArray } (.lst (ns.map V.int)))else af) (λb=>?_) (.inl (.inr ⟨{ cls:=.type "list",data:=.seq vs.toArray },if_pos rfl⟩)) (λb u z=>?_) (λb z=>?_) λ_=>hk
  .by_cases hb:b=a
   .exact .inr ⟨_,_,if_pos hb⟩
   .exact .inl (if_neg hb)
  .by_cases hb:b=a
   .have z':=(if_pos hb).symm.trans z
    cases z';subst hb;exact⟨ha,by rw[aas];exact hl,vs,_,rv,ha⟩
   .have z':=(if_neg hb).symm.trans z
    cases z'
  .by_cases hb:b=a
   .exact hb
   .exact absurd (if_neg hb) z
end L2
namespace L2
open PySem PySem.Spec PyProof.Rows
abbrev VV{K:aaa}{h:Heap}(_:K.In h):aaa:=K
theorem Km{l:aik}{n k:Nat}{q:aaD}{loose:List Str}{XP:(Str->Option aai)->Heap->Prop}{YP:aa9->Heap->Prop}{d:DefRec}{K:Params->aaa}{CX:aa9->wO}{sp:aa9->Sp}{x:Str}
  (hn:l.most=ae n)(VW:n<=sizeLine)(Kj:d.params.defaults=[])(hr:fq k ahI)
  (hY:∀(w:aa9) (h:Heap),YP w h->(K w.params).In h)
  (F:∀(w:aa9) (mg:Str->Option aai) (fa:Addr) (h:Heap),(K w.params).In h->h.Ns acs mg->mg d.name=ae (.ref fa)->
   ∃fd:aaC,(∀(s:aah) (u:aai),aha s fd ⟨[u],[]⟩ [(x,u)])/\
    ∀base:Heap,(K w.params).In base->base.Ns acs mg->bE l.prog w (K w.params) mg base (CX w) k fa fd [x] (sp w))
  (zD:∀(w:aa9) (H:Hp) (a:Addr) (ns:List Int),ns.length<=n->C9 H->b8 (K w.params) H a (ns.map V.int)->sp w [.ref a] H (λv _=>v= .bl true) λ_ _ _=>False)
  (Si:∀(w:aa9) (H:Hp) (s:aah) (e:aai) (s':aah),CX w [] H s (λ_ _ _=>False) e s'->False):
  aiB q loose XP YP l.row.toRowW d [] (λf vs=>aix f vs):=by
 refine VP.Br hn Kj λw bJ bS mg mb fa o pm cd doc a vs ns G Y ho hd uT Kk Kl hints hlen hg=>?_
 have KX:=hY w _ Y;obtain⟨fd,hb,hF⟩:=F w mg fa _ KX G.T.g Kk;exact HW KX G.T.g G.T.b G.T.builtins G.T.nolimit hg Kl hints (aa7 hlen VW) hr hF hb (λH hO hS=>zD w H a ns hlen hO hS) λH e s'=>Si w H bS e s'
end L2
namespace L2
open PySem PySem.Spec PyProof.Rows
def fR(s:Stmt):Arguments:=match s with
 |.FunctionDef _ a _ _ _ _ _ _ _ _=>a
 |_=>{ posonlyargs:=[],args:=[],vararg:=af,kwonlyargs:=[],kw_defaults:=[],kwarg:=af,defaults:=[] }
def dP(s:Stmt):List Stmt:=match s with
 |.FunctionDef _ _ b _ _ _ _ _ _ _=>b
 |_=>[]
def az(s:Stmt):Scope:=match s with
 |.FunctionDef _ _ _ _ _ _ sc _ _ _=>sc
 |_=>{ kind:=.function,names:=[],isGenerator:=false,isCoroutine:=false }
abbrev cU:wO:=λ_ _ _ _ _ _=>False
abbrev E0:XK:=λ_ _ _=>False
theorem Kn{X:Cx}:Passes cU X E0:=λ_ _ _ _ _ _ _ h=>h.elim
structure Dc(K:aaa)(x qual:Str)(st:Stmt)(f:Addr)(fd:aaC):Prop where
 ex:∃(oc:aai) (od:Option Addr) (kV doc pm:aai) (an:Option Addr) (br ct:aai) (lh:Array (Option aai)),
  fd=abH x qual (fR st) (dP st) (az st) .none kV doc pm an br ct/\K.lookup f=ae ⟨oc,od,.func fd,lh⟩/\adD K br qual=true
 kp:abX K (.ref f)=true
section
variable{P:aaD}{w:aa9}{K:aaa}{mg:Str->Option aai}{base:Heap}
variable{qual:Str}{st:Stmt}
theorem Dc.ok{x:Str}{f:Addr}{fd:aaC}{N ps:List Str}{k:Nat}{sp:Sp}(F:Dc K x qual st f fd)(S:aL N ps (az st))(len:∀vs H Q E,sp vs H Q E->vs.length=ps.length)
  (nH:∀(br:aai) (A:aa4) (outer:List Env) (s:aah) (H:Hp) (vs:List V) (Q:VK) (E:XK),fq k (A.deeper (agC qual (az st) s.heap.objs.size f br))->sp vs H Q E->
   ∃t,oH (tp cU P w K mg base N qual (az st) f br A outer s H E).CQ (dP st) t/\t { nx:=λ_ H'=>Q .aX H',rt:=Q } (start N vs) H):bE P w K mg base cU (k+1) f fd ps sp:=by
 obtain⟨oc,od,kV,doc,pm,an,br,ct,lh,rfl,lk,uT⟩:=F.ex;refine J2 lk uT S len λA outer s H vs Q E hr zD=>?_
 obtain⟨t,h,q⟩:=nH br A outer s H vs Q E hr zD;exact⟨t,h.CQ,q⟩
theorem Dc.binds{x:Str}{f:Addr}{fd:aaC}{ps:List Str}(F:Dc K x qual st f fd)
  (h:∀(kV doc pm:aai) (an:Option Addr) (br ct:aai) (us:List aai),us.length=ps.length->bindArgs (abH x qual (fR st) (dP st) (az st) .none kV doc pm an br ct) ⟨us,[]⟩=pure (ps.zip us)):Binds K fd ps []:=by
 obtain⟨oc,od,kV,doc,pm,an,br,ct,lh,rfl,lk,uT⟩:=F.ex;exact .all (h kV doc pm an br ct)
theorem Gw{x:Str}{f:Addr}{oc:aai}{od an:Option Addr}{lh:Array (Option aai)}{kV doc pm br ct:aai}(l:K.lookup f=ae ⟨oc,od,.func (abH x qual (fR st) (dP st) (az st) .none kV doc pm an br ct),lh⟩)
  (c:adD K br qual=true)(k:abX K (.ref f)=true):Dc K x qual st f (abH x qual (fR st) (dP st) (az st) .none kV doc pm an br ct):=⟨⟨oc,od,kV,doc,pm,an,br,ct,lh,rfl,l,c⟩,k⟩
end
section
variable{X:Cx}
theorem pv(i:Nat){x:Str}{pos:Pos}(hN:X.N[i]? =ae x:=by rfl)(hv:EZ X.env.scope x:=by first|exact adA rfl|exact aex (adA rfl)|exact aex (aex rfl))(hd:(x==("__debug__":Str))=false:=by decide)
  (uT:(x==("__classdict__":Str))=false:=by decide):PE X (.Name x pos) (JE i):=NM hN hv hd uT
end
def Gx(H H':Hp):Prop:=∀b o,H b=ae o->H' b=ae o
end L2
namespace L2
open PySem PySem.Spec PyProof.Rows
section
variable{κ:Type}[DecidableEq κ]
def fS(aN:List (κ×V))(k:κ):Option V:=(aN.find? λkv=>decide (kv.1=k)).map (·.2)
def putK(aN:List (κ×V))(k:κ)(v:V):List (κ×V):=
 if (aN.any λkv=>decide (kv.1=k))=true then aN.map (λkv=>if kv.1=k then(kv.1,v)else kv)else aN++[(k,v)]
theorem zY{p:κ×V}{r:List (κ×V)}{k:κ}(e:p.1=k):fS (p::r) k=ae p.2:=by simp[fS,aa3,e]
theorem zZ{p:κ×V}{r:List (κ×V)}{k:κ}(e:¬p.1=k):fS (p::r) k=fS r k:=by simp[fS,aa3,e]
theorem uV(k:κ):∀aN:List (κ×V),(aN.any λkv=>decide (kv.1=k))=(fS aN k).isSome
 |[]=>rfl
 |p::r=>by
  rw[ac1]
  by_cases e:p.1=k
  .simp only[zY e,decide_eq_true e,Bool.true_or,Option.isSome_some]
  .rw[zZ e,decide_eq_false e,Bool.false_or];exact uV k r
theorem jV(aN:List (κ×V))(k:κ)(v:V):(putK aN k v).length<=aN.length+1:=by
 unfold putK;split
 .rw[aas];omega
 .rw[aaR,aaU,acg];omega
theorem qP.xY{o:Option V}{u:Option aai}(r:qP o u):o.isSome=u.isSome:=by
 cases o with
 |none=>cases u with
  |none=>rfl
  |some _=>exact(show False from r).elim
 |some _=>cases u with
  |none=>exact(show False from r).elim
  |some _=>rfl
variable{vs:List (κ×aai)}
theorem KV.any{aN:List (κ×V)}(r:KV aN vs)(k:κ):(aN.any λkv=>decide (kv.1=k))=vs.any λkv=>decide (kv.1=k):=by
 unfold KV at r
 induction r with
 |nil=>rfl
 |cons h t ih=>rw[ac1,ac1,ih,h.1]
theorem KV.mF{aN:List (κ×V)}(r:KV aN vs)(k:κ){y:V}{u:aai}(ry:RelV y u):
  KV (aN.map λkv=>if kv.1=k then(kv.1,y)else kv) (vs.map λkv=>if kv.1=k then(kv.1,u)else kv):=by
 unfold KV at r |-
 induction r with
 |nil=>exact .nil
 |@cons p q ps qs h t ih=>
  rw[aaV,aaV];refine .cons ?_ ih;obtain⟨h1,h2⟩:=h
  by_cases e:p.1=k
  .rw[if_pos e,if_pos (h1.symm.trans e)];exact⟨h1,ry⟩
  .rw[if_neg e,if_neg (λz=>e (h1.trans z))];exact⟨h1,h2⟩
theorem KV.put{aN:List (κ×V)}(r:KV aN vs)(k:κ){y:V}{u:aai}(ry:RelV y u):KV (putK aN k y) (stored vs k u):=by
 unfold putK stored;rw[r.any k]
 by_cases e:(vs.any λkv=>decide (kv.1=k))=true
 .rw[if_pos e,if_pos e];exact r.mF k ry
 .rw[if_neg e,if_neg e];exact aiU r ⟨rfl,ry⟩
theorem KV.length{aN:List (κ×V)}(r:KV aN vs):aN.length=vs.length:=afZ r
end
variable{w:aa9}
theorem Ko{P:aaD}{k:Key}{u:aai}(r:RelV (kV k) u):(cy P w).is k u=true:=by
 cases k with
 |inl i=>obtain⟨t,e⟩:=(show ∃t,u=aeO i t from r);subst e;exact Bg P w i t
 |inr x=>obtain⟨t,e⟩:=(show ∃t,u=aho x t from r);subst e;exact Bh P w x t
theorem xZ{P:aaD}:∀{ks:List Key}{us:List aai},Vals (ks.map kV) us->ItemsAre (cy P w) ks us
 |[],_,r=>by rw[afy]at r;cases r;exact .nil
 |k::ks,_,r=>by
  rw[aaV]at r;cases r with
  |cons h t=>exact .cons (Ko h) (xZ t)
abbrev KT(H:Hp):List (List Key×V)->List (List Key×Addr×aai)->Prop:=acw λp q=>p.1=q.1/\H q.2.1=ae (.tup (p.1.map kV))/\RelV p.2 q.2.2
variable{H:Hp}{aN:List (List Key×V)}{xs:List (List Key×Addr×aai)}
theorem KT.val(r:KT H aN xs)(k:List Key):qP (fS aN k) ((agU xs k).map (·.2)):=by
 induction r with
 |nil=>exact adC
 |@cons p q ps qs h t ih=>
  obtain⟨h1,_,h2⟩:=h
  by_cases e:p.1=k
  .have e':q.1=k:=h1.symm.trans e
   have b:agU (q::qs) k=ae q.2:=by simp[agU,aa3,e']
   rw[zY e,b];exact h2
  .have e':¬q.1=k:=λz=>e (h1.trans z)
   have b:agU (q::qs) k=agU qs k:=by simp[agU,aa3,e']
   rw[zZ e,b];exact ih
theorem KT.mF(r:KT H aN xs)(k:List Key){y:V}{u:aai}(ry:RelV y u):
  KT H (aN.map λkv=>if kv.1=k then(kv.1,y)else kv) (xs.map (putAt k u)):=by
 induction r with
 |nil=>exact .nil
 |@cons p q ps qs h t ih=>
  rw[aaV,aaV];refine .cons ?_ ih;obtain⟨h1,h2,h3⟩:=h;unfold putAt
  by_cases e:p.1=k
  .rw[if_pos e,if_pos (h1.symm.trans e)];exact⟨h1,h2,ry⟩
  .rw[if_neg e,if_neg (λz=>e (h1.trans z))];exact⟨h1,h2,h3⟩
theorem KT.put(r:KT H aN xs)(k:List Key){b:Addr}{y:V}{u:aai}(hb:H b=ae (.tup (k.map kV)))(ry:RelV y u):
  KT H (putK aN k y) (aiC xs k b u):=by
 have e:(aN.any λkv=>decide (kv.1=k))=(agU xs k).isSome:=by
  rw[uV,(r.val k).xY,ahJ]
 unfold putK aiC;rw[e]
 by_cases q:(agU xs k).isSome=true
 .rw[if_pos q,if_pos q];exact r.mF k ry
 .rw[if_neg q,if_neg q];exact aiU r ⟨rfl,hb,ry⟩
theorem KT.keeps{H':Hp}(r:KT H aN xs)(ht:∀b ys,H b=ae (.tup ys)->H' b=ae (.tup ys)):KT H' aN xs:=
 acw.vJ r λ_ _ z=>⟨z.1,ht _ _ z.2.1,z.2.2⟩
section
variable{P:aaD}{w:aa9}{H:Hp}{h:Heap}{a:Addr}
theorem Fo{u:HO}(ok:hG P w H h)(e:Rd H a u):b7 P w H h a u:=e.ok ok
theorem Sj{aN:List (Key×V)}(ok:hG P w H h)(e:Rd H a (.dK aN)):aN.length<=sizeLine/\(a==abz)=false/\∃vs,KV aN vs/\h.DictOf (cy P w) a vs:=
 show b7 P w H h a (.dK aN)from Fo ok e
theorem Sk{aN:List (Key×V)}(ok:hG P w H h)(e:H a=ae (.dK aN)):aN.length<=sizeLine/\(a==abz)=false/\∃vs,KV aN vs/\h.DictOf (cy P w) a vs:=Sj ok (.inl e)
theorem Bt{ks:List Key}(ok:hG P w H h)(e:H a=ae (.tup (ks.map kV))):(ahp (cy P w)).is h ks a:=by
 obtain⟨_,its,r,o,h1,h2,n,h3⟩:=(show b7 P w H h a (.tup (ks.map kV))from ok a _ e);exact⟨o,its.toArray,n,h1,h2,h3,by simpa using xZ r⟩
theorem Kr{aN:List (List Key×V)}(ok:hG P w H h)(e:Rd H a (.dT aN)):aN.length<=sizeLine/\(a==abz)=false/\
  ∃xs,KT H aN xs/\h.DictOfH (ahp (cy P w)) a xs:=by
 obtain⟨z,y,xs,r,o,es,ep,h1,h2,h3,h4,h5⟩:=(show b7 P w H h a (.dT aN)from Fo ok e);refine⟨z,y,xs,r,o,es,ep,h1,h2,h3,h4,λx hx=>?_,h5⟩;have all:∀{l:List (List Key×V)}{m:List (List Key×Addr×aai)},KT H l m->∀x∈m,(ahp (cy P w)).is h x.1 x.2.1:=by
  intro l m q
  induction q with
  |nil=>intro x hx;exact nomatch hx
  |@cons p q ps qs hq t ih=>
   intro x hx;rcases aaj.mp hx with e|hx
   .subst e
    exact Bt ok (by rw[<-hq.1];exact hq.2.1)
   .exact ih x hx
 exact all r x hx
theorem Sl{aN:List (List Key×V)}(ok:hG P w H h)(e:H a=ae (.dT aN)):aN.length<=sizeLine/\(a==abz)=false/\
  ∃xs,KT H aN xs/\h.DictOfH (ahp (cy P w)) a xs:=Kr ok (.inl e)
end
def Dd(H:Hp)(a:Addr)(y v:V)(H':Hp):Prop:=
 (∃aN k,H a=ae (.dK aN)/\y=kV k/\aN.length<sizeLine/\H'=upd H a (.dK (putK aN k v)))\/
 ∃aN k b,H a=ae (.dT aN)/\y= .ref b/\H b=ae (.tup (k.map kV))/\aN.length<sizeLine/\H'=upd H a (.dT (putK aN k v))
theorem Dd.t{a b:Addr}{k:List Key}{v:V}(e:H a=ae (.dT aN))(eb:H b=ae (.tup (k.map kV)))(hl:aN.length<sizeLine):
  Dd H a (.ref b) v (upd H a (.dT (putK aN k v))):=.inr ⟨aN,k,b,e,rfl,eb,hl,rfl⟩
section
variable{X:Cx}{pins:List (Addr×Obj)}{σ:St}{H:Hp}{s:aah}{a:Addr}{y v:V}{u r:aai}{o:Option V}{A:aa4}{E:aai->aah->Prop}
theorem Inv.big(I:Inv X pins σ H s):abz<s.heap.objs.size:=by
 have h:acs<s.heap.objs.size:=(I.mod.glob.keeps I.bk).lt;exact Nat.lt_trans (by decide) h
theorem oU{h':Heap}{t':Nat}{ob:HO}(I:Inv X pins σ H s)(mu:Jz (H a))(hs:abo a s.heap h')(he:∃q,h'.get? a=ae q)(new:b7 X.prog X.w (upd H a ob) h' a ob):
  Inv X pins σ (upd H a ob) { s with heap:=h',toks:=t' }:=
 I.write (x:=a) (e:=a) mu (.inl rfl) (λb q hb z=>(hs.2 b hb).trans z) he new
theorem OC{P:aaD}{w:aa9}{H':Hp}{h':Heap}{aN:List (Key×V)}{vs:List (Key×aai)}(z:aN.length<=sizeLine)(hd:(a==abz)=false)(rel:KV aN vs)(dd:h'.DictOf (cy P w) a vs):
  b7 P w H' h' a (.dK aN):=⟨z,hd,vs,rel,dd⟩
theorem Fp{H':Hp}{Q:Unit->aah->Prop}(hu:A.units+1<cLine)(I:Inv X pins σ H s)(g:Dd H a y v H')(ry:RelV y u)(rv:RelV v r)(h:∀s',Inv X pins σ H' s'->Q () s'):
  aat (aaL X.prog X.w) A (setItem (.ref a) u r) Q E s:=by
 rcases g with⟨aN,k,e,ey,l,eH⟩|⟨aN,k,b,e,ey,eb,l,eH⟩
 .subst ey eH
  obtain⟨z,hd,vs,rel,dd⟩:=Sk I.bc e;have hz:vs.length<=sizeLine:=by rw[<-rel.length];exact z
  have hl:(putK aN k v).length<=sizeLine:=by have:=jV aN k v;omega
  refine wpAny_setItem_pairs (hsz:=hz) (Ko ry) dd λh' Df hs=>h _ ?_
  have he:∃q,h'.get? a=ae q:=let ⟨q,_,_,hq,_⟩:=Df;⟨q,hq⟩;exact oU I (by rw[e];exact adC) hs he (OC hl hd (rel.put k rv) Df)
 .subst ey eH
  cases (show u=aaw b from ry);obtain⟨z,hd,xs,rel,dd⟩:=Sl I.bc e;have hz:xs.length<=sizeLine:=by rw[<-afZ rel];exact z
  have hl:(putK aN k v).length<=sizeLine:=by have:=jV aN k v;omega
  refine wpAny_setItem_heap (hsz:=hz) (tupleKind_room_in1 hu) (Bt I.bc eb) dd λh' Df hs=>h _ ?_
  obtain⟨q,es,ep,hq,h2,h3,h4,_,h5⟩:=Df;refine oU I (by rw[e];exact adC) hs ⟨q,hq⟩ ⟨hl,hd,_,(rel.put k eb rv).keeps λc ys ec=>?_,q,es,ep,hq,h2,h3,h4,h5⟩;rw[aV (xH ec e (λz=>nomatch z))];exact ec
end
section
variable{X:Cx}{pins:List (Addr×Obj)}{σ:St}{H:Hp}{s:aah}{a:Addr}{aN:List (Key×V)}{k:Key}{u:aai}{A:aa4}{E:aai->aah->Prop}
end
def Ks(i:abl):Prop:=∀ov iv,ahc i false ov iv=operate [ov,iv] (agD ov iv)
theorem Kt{prog:aaD}{A:aa4}{E:aai->aah->Prop}{s:aah}{env:Env}{value slice:abl}{pos:Pos}{T id:String}{Q:aai->aah->Prop}
  (hl:typeLookup (.type T) "__getitem__" =pure (ae (.builtin id)))(hs:Ks slice)
  (h:aat (aaL prog w) A (adL value env) (λo bS=>aat (aaL prog w) A (adL slice env) (λi mB=>mB.TypeIs o T/\aat (aaL prog w) A (agD o i) Q E mB) E bS) E s):
  aat (aaL prog w) A (adL (.Subscript value slice pos) env) Q E s:=by
 refine Subscript_ (abu h (λo bS ow=>abu ow (λi mB Dg=>?_) λ_ _ x=>x) λ_ _ x=>x);obtain⟨hT,Dg⟩:=Dg;unfold ahu;refine Zu ?_;rw[getitemInPython_of_ne hT.not_modules];refine Zu (adN hT hl ?_);have fin:aat (aaL prog w) A (ahc slice false o i) (λr vQ=>aat (aaL prog w) A (letTemporaryGo value o r >>= λ_=>pure r) Q E vQ) E mB:=by
  rw[hs o i];exact wpAny_operating (abu Dg (λr vQ Gy=>Zu (wpAny_letTemporaryGo (aad Gy))) λ_ _ x=>x)
 first
  |exact aad (Zu fin)
  |exact Zu (aad (Zu fin))
  |exact Zu fin
def Sm(td ty tv:TE):TS:=λD σ H=>tv σ H λv H1=>td σ H1 λx H2=>ty σ H2 λy H3=>∃a H4,x= .ref a/\Dd H3 a y v H4/\D.nx σ H4
section
variable{X:Cx}{o i e value:abl}{pos pos' VE:Pos}{td ty tv:TE}
theorem Ku(hu:X.A.units+1<cLine)(ho:PE X o td)(hi:PE X i ty)(hv:PE X value tv)(hs:aeP value (ae (.Subscript o i pos')) pos.line X.env=pure false):
  PS X (.Assign [.Subscript o i pos'] value pos) (Sm td ty tv):=by
 intro pins s σ H D I h;refine wpAny_Assign_Subscript (bN (hv pins s σ H _ I h) λr s1 ⟨v,H1,I1,rv,q1⟩=>bN (ho pins s1 σ H1 _ I1 q1) λu s2 ⟨x,H2,I2,rx,q2⟩=>bN (hi pins s2 σ H2 _ I2 q2) λiv s3 bg=>?_) hs;obtain⟨y,H3,I3,ry,a,H4,ex,g,q3⟩:=bg;subst ex;obtain rfl:u=aaw a:=rx;exact Fp hu I3 g ry rv λs4 I4=>⟨σ,H4,I4,q3⟩
end
theorem HX{P:aaD}(h:Heap)(hb:abz<h.objs.size):b7 P w H (h.push { cls:=.type "dict",data:=.dict #[] }) h.objs.size (.dT []):=
 ⟨abk _,beq_eq_false_iff_ne.mpr (acu (aaF hb)),[],.nil,_,#[],0,aal _ rfl,⟨rfl,rfl,rfl⟩,rfl,rfl,aiu⟩
def OD:TE:=λ_ H Q=>∀p,H p=af->Q (.ref p) (upd H p (.dT []))
section
variable{X:Cx}{pos:Pos}
theorem HY:PE X (.Dict [] [] pos) OD:=λpins s σ H Q I h=>
 wpAny_Dict_empty ⟨.ref s.heap.objs.size,_,I.laid (a:=s.heap.objs.size) (o:=.dT []) (t':=s.toks) (λ_ _ q=>aab _ q) (aam _) (HX s.heap I.big),rfl,h _ (I.bc.fresh (aam _))⟩
end
structure M2(X:Cx)(o:abl)(m:Str)(apos:Pos)(e f:abl)(cG:Pos):Prop where
 base:aen o m X.env (adL o X.env)=adL o X.env
 YD:((acy cG (aau [e,f] X.env)).all (λx=>!x.1)&&(ahv cG (afk [] X.env)).all (λx=>x.1.isSome)
  &&decide (([e,f]:List abl).length+([]:List aeZ).length+(if ([]:List aeZ).isEmpty then 0 else 1)<30))=true
 line:(apos.endLine==cG.line)=true
 trees:acy cG (aau [e,f] X.env)=[(false,adL e X.env),(false,adL f X.env)]
section
variable{X:Cx}{pins:List (Addr×Obj)}{σ:St}{H:Hp}{s:aah}{a:Addr}{y d:V}{u r:aai}{o:Option V}{A:aa4}{E:aai->aah->Prop}
end
section
variable{X:Cx}{o e f:abl}{apos cG:Pos}{td ty tx:TE}
end
section
variable{X:Cx}{pins:List (Addr×Obj)}{σ:St}{H:Hp}{s:aah}{a:Addr}{aN:List (Key×V)}{A:aa4}{E:aai->aah->Prop}
end
section
variable{X:Cx}{pins:List (Addr×Obj)}{σ:St}{H:Hp}{s:aah}{a:Addr}{y:V}{u:aai}{A:aa4}{E:aai->aah->Prop}
end
end L2
namespace My
structure Bd(k:Nat)(x:Int):Prop where
 lt:x.natAbs<2 ^ k
variable{j k:Nat}{x:Int}
theorem Bd.mono(h:Bd j x)(e:j<=k):Bd k x:=⟨aaB h.lt (Nat.pow_le_pow_right (by decide) e)⟩
variable{y:Int}
theorem Bd.mul(h:Bd j x)(g:Bd k y):Bd (j+k) (x*y):=by
 refine⟨?_⟩;rw[aiv,Nat.pow_add];exact Nat.mul_lt_mul_of_lt_of_lt h.lt g.lt
theorem Bd.add(h:Bd j x)(g:Bd k y):Bd (max j k+1) (x+y):=by
 have h':=(h.mono (Nat.le_max_left j k)).lt;have g':=(g.mono (Nat.le_max_right j k)).lt;refine⟨?_⟩;rw[Nat.pow_succ];omega
theorem Bd.neg(h:Bd k x):Bd k (-x):=⟨by have:=h.lt;omega⟩
theorem Bd.sub(h:Bd j x)(g:Bd k y):Bd (max j k+1) (x - y):=by
 rw[Int.sub_eq_add_neg];exact h.add g.neg
theorem Bd.of_le(h:Bd k y)(e:x.natAbs<=y.natAbs):Bd k x:=⟨Nat.lt_of_le_of_lt e h.lt⟩
theorem Bd.log2(h:Bd k x)(hk: 0<k):x.natAbs.log2<k:=by
 have h:=h.lt
 by_cases z:x.natAbs=0
 .rw[z];simpa using hk
 .exact(Nat.log2_lt z).mpr h
theorem wQ(n:Int){m:Int}(h:m≠0):(n.fmod m).natAbs<m.natAbs:=by
 rcases Int.lt_or_gt_of_ne h with hm|hm
 .have e:n.fmod m= -((-n).fmod (-m)):=by
   rw[ahS,ahS,Int.neg_fdiv_neg]
   grind
  have h1: 0<=(-n).fmod (-m):=agr _ (by omega);have h2:(-n).fmod (-m)< -m:=ahx _ (by omega);rw[e];omega
 .have h1: 0<=n.fmod m:=agr _ hm
  have h2:n.fmod m<m:=ahx _ hm;omega
theorem HZ(n m:Int):aaA m (n.fmod m)=aaA n m:=by
 rw[ahS,Int.mul_comm,afl,ahT]
theorem H_(n m:Int):aaA m (n % m)=aaA n m:=by
 rw[Int.emod_def,Int.mul_comm,afl,ahT]
theorem gcd_zero(n:Int):((aaA n 0:Nat):Int)=if n<0 then -n else n:=by
 rw[Int.gcd_zero_right];split<;>omega
theorem Kv(n m:Int):aaA (if n<0 then -n else n) (if m<0 then -m else m)=aaA n m:=by
 split<;>split<;>simp[Int.gcd_neg,Int.neg_gcd]
def sg(n d:Int):Int:=if d<0 then -(aaA n d:Int)else(aaA n d:Int)
def nm(n d:Int):Int:=n.fdiv (sg n d)
def dn(n d:Int):Int:=d.fdiv (sg n d)
variable{n d:Int}
theorem x5(h:d≠0):(0:Int)<(aaA n d:Int):=by
 have:=Int.gcd_pos_of_ne_zero_right n h;omega
theorem YE(h:d≠0):sg n d≠0:=by
 have:=x5 (n:=n) h;unfold sg;split<;>omega
theorem Ia(n d:Int):sg n d ∣ n:=by
 unfold sg;split
 .exact ail.mpr (ad8 n d)
 .exact ad8 n d
theorem Ib(n d:Int):sg n d ∣ d:=by
 unfold sg;split
 .exact ail.mpr (adW n d)
 .exact adW n d
theorem OE(n d:Int):sg n d*nm n d=n:=adb (Ia n d)
theorem OF(n d:Int):sg n d*dn n d=d:=adb (Ib n d)
theorem YF:nm n d*d=n*dn n d:=by
 have e1:=OE n d;have e2:=OF n d;generalize sg n d=s at*;generalize nm n d=a at*;generalize dn n d=b at*;subst e1 e2
 grind
theorem x6(n d:Int):(sg n d).natAbs=aaA n d:=by
 unfold sg;split<;>omega
theorem Sn(h:d≠0):(sg n d).natAbs<=d.natAbs:=by
 rw[x6];exact Nat.le_of_dvd (by omega) (aeQ.mpr (adW n d) |> λz=>by simpa using z)
theorem Gz{a b:Int}(ha:a≠0)(hb:b≠0):a*b≠0:=afm ha hb
end My
namespace My
def det(a0 a1 a2 b0 b1 b2 c0 c1 c2:Int):Int:=(a1*b2 - a2*b1)*c0+(a2*b0 - a0*b2)*c1+(a0*b1 - a1*b0)*c2
def sgn(n:Int):Int:=if 0<n then 1 else if n<0 then -1 else 0
theorem Ic(a0 a1 a2 b0 b1 b2 c0 c1 c2:Int):det b0 b1 b2 a0 a1 a2 c0 c1 c2= -det a0 a1 a2 b0 b1 b2 c0 c1 c2:=by unfold det;grind
structure Alike(x y w x' y' w':Int):Prop where
 pos: 0<w
 pos': 0<w'
 ex:x'*w=x*w'
 ey:y'*w=y*w'
def jN(x y w:Int):Int:=if w<0 then -(aaA (aaA x w:Int) y:Int)else(aaA (aaA x w:Int) y:Int)
def sx(x y w:Int):Int:=x.fdiv (jN x y w)
def sy(x y w:Int):Int:=y.fdiv (jN x y w)
def sw(x y w:Int):Int:=w.fdiv (jN x y w)
variable{x y w:Int}
theorem xf(h:w≠0):(0:Int)<(aaA (aaA x w:Int) y:Int):=by
 have h1:=x5 (n:=x) h;have h2: 0<aaA (aaA x w:Int) y:=Int.gcd_pos_of_ne_zero_left _ (by omega);omega
theorem VX(x y w:Int):(aaA (aaA x w:Int) y:Int) ∣ x:=Int.dvd_trans (ad8 _ _) (ad8 _ _)
theorem QZ(x y w:Int):(aaA (aaA x w:Int) y:Int) ∣ w:=Int.dvd_trans (ad8 _ _) (adW _ _)
theorem VY(x y w:Int):(aaA (aaA x w:Int) y:Int) ∣ y:=adW _ _
theorem Dh(x y w:Int):(jN x y w).natAbs=aaA (aaA x w:Int) y:=by unfold jN;split<;>omega
theorem tD(h:w≠0):jN x y w≠0:=by
 have:=xf (x:=x) (y:=y) h;unfold jN;split<;>omega
theorem x8{z:Int}(h:(aaA (aaA x w:Int) y:Int) ∣ z):jN x y w ∣ z:=by
 unfold jN;split
 .exact ail.mpr h
 .exact h
theorem xg(x y w:Int):jN x y w*sx x y w=x:=adb (x8 (VX x y w))
theorem xh(x y w:Int):jN x y w*sy x y w=y:=adb (x8 (VY x y w))
theorem qj(x y w:Int):jN x y w*sw x y w=w:=adb (x8 (QZ x y w))
theorem sw_pos(h:w≠0): 0<sw x y w:=by
 have e:=qj x y w;have g:=xf (x:=x) (y:=y) h;unfold jN at e;split at e
 .refine afO.mp λhle=>?_
  have: 0<=-(aaA (aaA x w:Int) y:Int)*sw x y w:=acO (by omega) hle;omega
 .refine afO.mp λhle=>?_
  have:(aaA (aaA x w:Int) y:Int)*sw x y w<=0:=aec (by omega) hle;omega
theorem r_{s a b:Int}(h:s≠0)(e:s*a=b):a.natAbs<=b.natAbs:=by
 have e:=congrArg Int.natAbs e;rw[aiv]at e;rw[<-e];exact Nat.le_mul_of_pos_left _ (by omega)
theorem So(h:w≠0):(sx x y w).natAbs<=x.natAbs:=r_ (tD h) (xg x y w)
theorem Sq(h:w≠0):(sy x y w).natAbs<=y.natAbs:=r_ (tD h) (xh x y w)
theorem Sr(h:w≠0):(sw x y w).natAbs<=w.natAbs:=r_ (tD h) (qj x y w)
theorem OG(h:w≠0):(jN x y w).natAbs<=w.natAbs:=by
 rw[Dh];exact Nat.le_of_dvd (by omega) (aeQ.mpr (QZ x y w) |> λz=>by simpa using z)
theorem tE(h:w≠0):sx x y w*w=x*sw x y w:=by
 have e1:=xg x y w;have e2:=qj x y w;generalize jN x y w=s at *;generalize sx x y w=a at *;generalize sw x y w=b at*;subst e1 e2;grind
theorem tF(h:w≠0):sy x y w*w=y*sw x y w:=by
 have e1:=xh x y w;have e2:=qj x y w;generalize jN x y w=s at *;generalize sy x y w=a at *;generalize sw x y w=b at*;subst e1 e2;grind
theorem Ss(h: 0<w):Alike x y w (sx x y w) (sy x y w) (sw x y w):=⟨h,sw_pos (by omega),tE (by omega),tF (by omega)⟩
end My
namespace My
structure Di(x y w:Int):Prop where
 pos: 0<w
 low:aaA (aaA x w:Int) y=1
variable{x y w:Int}
theorem Dj{z:Int}(h:aaA (aaA x w:Int) y=1){k:Int}(h1:k ∣ x*z)(h2:k ∣ w*z)(h3:k ∣ y*z):k ∣ z:=by
 have e1:k.natAbs ∣ aaA (x*z) (w*z):=Int.dvd_gcd (aeK.mpr h1) (aeK.mpr h2);rw[ahK]at e1;have e2:k ∣ (aaA x w:Int)*z:=by
  have:(k.natAbs:Int) ∣ ((aaA x w*z.natAbs:Nat):Int):=Int.natCast_dvd_natCast.mpr e1;have h4:k ∣ ((aaA x w*z.natAbs:Nat):Int):=aeK.mp this;rw[aim]at h4;rcases Int.natAbs_eq z with hz|hz
  .rw[hz];exact h4
  .rw[hz,Int.mul_neg];exact Int.dvd_neg.mpr h4
 have e3:k.natAbs ∣ aaA ((aaA x w:Int)*z) (y*z):=Int.dvd_gcd (aeK.mpr e2) (aeK.mpr h3);rw[ahK,h,Nat.one_mul]at e3;exact aeQ.mp e3
theorem lH{x' y' w':Int}(h:Di x y w)(h':Di x' y' w')(ex:x*w'=x'*w)(ey:y*w'=y'*w):x=x'/\y=y'/\w=w':=by
 have d1:w ∣ w':=Dj h.low (k:=w) (z:=w') (by rw[ex];exact ae2 _ _) (ahL _ _) (by rw[ey];exact ae2 _ _);have d2:w' ∣ w:=Dj h'.low (k:=w') (z:=w) (by rw[<-ex];exact ae2 _ _) (ahL _ _) (by rw[<-ey];exact ae2 _ _);have p:=h.pos;have p':=h'.pos;have e:w=w':=Int.dvd_antisymm (by omega) (by omega) d1 d2;subst e;exact⟨ab4 (by omega) ex,ab4 (by omega) ey,rfl⟩
theorem mG(h:w≠0):Di (sx x y w) (sy x y w) (sw x y w):=by
 refine⟨sw_pos h,?_⟩;have e1:=xg x y w;have e2:=xh x y w;have e3:=qj x y w;have g:=xf (x:=x) (y:=y) h;have ga:=Dh x y w;generalize jN x y w=s at*;generalize sx x y w=a at*;generalize sy x y w=b at*;generalize sw x y w=c at*;have q:aaA (aaA x w:Int) y=s.natAbs*aaA (aaA a c:Int) b:=by
  rw[<-e1,<-e2,<-e3,ah0];have:((s.natAbs*aaA a c:Nat):Int)=(s.natAbs:Int)*(aaA a c:Int):=aim _ _;rw[this];have e4:aaA ((s.natAbs:Int)*(aaA a c:Int)) (s*b)=aaA ((s.natAbs:Int)*(aaA a c:Int)) ((s.natAbs:Int)*b):=by
   rcases Int.natAbs_eq s with hs|hs
   .rw[<-hs]
   .have:s*b= -((s.natAbs:Int)*b):=by rw[<-Int.neg_mul,<-hs]
    rw[this,Int.gcd_neg]
  rw[e4,ah0];simp
 rw[<-ga]at q;have:s.natAbs*1=s.natAbs*aaA (aaA a c:Int) b:=by rw[Nat.mul_one];exact q
 exact(Nat.eq_of_mul_eq_mul_left (by omega) this).symm
theorem oV{x' y' w':Int}(h:w≠0)(h':w'≠0)(ex:x*w'=x'*w)(ey:y*w'=y'*w):sx x y w=sx x' y' w'/\sy x y w=sy x' y' w'/\sw x y w=sw x' y' w':=by
 refine lH (mG h) (mG h') ?_ ?_
 .have a:=tE (x:=x) (y:=y) h;have b:=tE (x:=x') (y:=y') h'
  refine afC (Gz h h') ?_;generalize sx x y w=p at *;generalize sw x y w=q at *;generalize sx x' y' w'=p' at *;generalize sw x' y' w'=q' at*
  grind
 .have a:=tF (x:=x) (y:=y) h;have b:=tF (x:=x') (y:=y') h'
  refine afC (Gz h h') ?_;generalize sy x y w=p at *;generalize sw x y w=q at *;generalize sy x' y' w'=p' at *;generalize sw x' y' w'=q' at*
  grind
theorem x9(h:Di x y w):sx x y w=x/\sy x y w=y/\sw x y w=w:=by
 have hp:=h.pos;exact lH (mG (by omega)) h (tE (by omega)) (tF (by omega))
theorem x_(x y w:Int):aaA (aaA x y:Int) w=aaA (aaA x w:Int) y:=by
 have a:∀p q r:Int,aaA (aaA p q:Int) r=aaA p (aaA q r:Int):=λp q r=>Int.gcd_assoc p q r
 rw[a,a,ahT y w]
theorem vR(h: 0<w):x / (aaA (aaA x y:Int) w:Int)=sx x y w/\y / (aaA (aaA x y:Int) w:Int)=sy x y w/\w / (aaA (aaA x y:Int) w:Int)=sw x y w:=by
 have g:=xf (x:=x) (y:=y) (w:=w) (by omega);have e:jN x y w=(aaA (aaA x y:Int) w:Int):=by unfold jN;rw[if_neg (by omega),x_]
 have g':(0:Int)<=(aaA (aaA x y:Int) w:Int):=by rw[x_];omega
 unfold sx sy sw;rw[e];exact⟨(acR _ g').symm,(acR _ g').symm,(acR _ g').symm⟩
theorem Dk(h:w<0):(0 - x) / (aaA (aaA (0 - x) (0 - y):Int) (0 - w):Int)=sx x y w/\(0 - y) / (aaA (aaA (0 - x) (0 - y):Int) (0 - w):Int)=sy x y w/\(0 - w) / (aaA (aaA (0 - x) (0 - y):Int) (0 - w):Int)=sw x y w:=by
 obtain⟨a,b,c⟩:=vR (x:=0 - x) (y:=0 - y) (w:=0 - w) (by omega);rw[a,b,c];exact oV (by omega) (by omega) (by grind) (by grind)
end My
namespace My
def lj(p0 p1 p2 q0 q1 q2:Int):Bool:=if p0*q2=q0*p2 then decide (p1*q2<q1*p2)else decide (p0*q2<q0*p2)
def zH(c0 c1 c2 a0 a1 a2 b0 b1 b2:Int):Bool:=if det a0 a1 a2 b0 b1 b2 c0 c1 c2=0 then(if lj a0 a1 a2 b0 b1 b2=true then !lj c0 c1 c2 a0 a1 a2&&!lj b0 b1 b2 c0 c1 c2 else !lj c0 c1 c2 b0 b1 b2&&!lj a0 a1 a2 c0 c1 c2)else false
theorem j7{n:Int}(h:sgn n=0):n=0:=by
 unfold sgn at h;split at h
 .cases h
 .split at h
  .cases h
  .omega
def m0(a0 a1 a2 b0 b1 b2 c0 c1 c2 d0 d1 d2:Int):Int:=(a2*b0 - a0*b2)*(c0*d1 - c1*d0) - (a0*b1 - a1*b0)*(c2*d0 - c0*d2)
def m1(a0 a1 a2 b0 b1 b2 c0 c1 c2 d0 d1 d2:Int):Int:=(a0*b1 - a1*b0)*(c1*d2 - c2*d1) - (a1*b2 - a2*b1)*(c0*d1 - c1*d0)
def m2(a0 a1 a2 b0 b1 b2 c0 c1 c2 d0 d1 d2:Int):Int:=(a1*b2 - a2*b1)*(c2*d0 - c0*d2) - (a2*b0 - a0*b2)*(c1*d2 - c2*d1)
section
variable(a0 a1 a2 b0 b1 b2 c0 c1 c2 d0 d1 d2:Int)
end
section
variable{a0 a1 a2 b0 b1 b2 c0 c1 c2 d0 d1 d2:Int}
theorem Ie:(b0*(a2*c2*d2) - a0*(b2*c2*d2))*(d1*(a2*b2*c2) - c1*(a2*b2*d2)) - (b1*(a2*c2*d2) - a1*(b2*c2*d2))*(d0*(a2*b2*c2) - c0*(a2*b2*d2))=(a2*b2*c2*d2)*m2 a0 a1 a2 b0 b1 b2 c0 c1 c2 d0 d1 d2:=by
 unfold m2;grind
theorem Su: -((c0*(a2*b2*d2) - a0*(b2*c2*d2))*(b1*(a2*c2*d2) - a1*(b2*c2*d2)) - (c1*(a2*b2*d2) - a1*(b2*c2*d2))*(b0*(a2*c2*d2) - a0*(b2*c2*d2)))=(a2*b2*c2*d2*d2)*det a0 a1 a2 b0 b1 b2 c0 c1 c2:=by
 unfold det;grind
theorem Sv:(c0*(a2*b2*d2) - a0*(b2*c2*d2))*(d1*(a2*b2*c2) - c1*(a2*b2*d2)) - (c1*(a2*b2*d2) - a1*(b2*c2*d2))*(d0*(a2*b2*c2) - c0*(a2*b2*d2))=(a2*b2*c2*d2*b2)*det c0 c1 c2 d0 d1 d2 a0 a1 a2:=by
 unfold det;grind
theorem Sw:c2*det a0 a1 a2 b0 b1 b2 d0 d1 d2 - d2*det a0 a1 a2 b0 b1 b2 c0 c1 c2=m2 a0 a1 a2 b0 b1 b2 c0 c1 c2 d0 d1 d2:=by
 unfold det m2;grind
theorem Sx:b2*det c0 c1 c2 d0 d1 d2 a0 a1 a2 - a2*det c0 c1 c2 d0 d1 d2 b0 b1 b2=m2 a0 a1 a2 b0 b1 b2 c0 c1 c2 d0 d1 d2:=by
 unfold det m2;grind
theorem Kw:det c0 c1 c2 d0 d1 d2 a0 a1 a2*b0 - det c0 c1 c2 d0 d1 d2 b0 b1 b2*a0=m0 a0 a1 a2 b0 b1 b2 c0 c1 c2 d0 d1 d2:=by
 unfold det m0;grind
theorem Kx:det c0 c1 c2 d0 d1 d2 a0 a1 a2*b1 - det c0 c1 c2 d0 d1 d2 b0 b1 b2*a1=m1 a0 a1 a2 b0 b1 b2 c0 c1 c2 d0 d1 d2:=by
 unfold det m1;grind
theorem Ky:det c0 c1 c2 d0 d1 d2 a0 a1 a2*b2 - det c0 c1 c2 d0 d1 d2 b0 b1 b2*a2=m2 a0 a1 a2 b0 b1 b2 c0 c1 c2 d0 d1 d2:=by
 unfold det m2;grind
theorem OH:m0 c0 c1 c2 d0 d1 d2 a0 a1 a2 b0 b1 b2= -m0 a0 a1 a2 b0 b1 b2 c0 c1 c2 d0 d1 d2/\m1 c0 c1 c2 d0 d1 d2 a0 a1 a2 b0 b1 b2= -m1 a0 a1 a2 b0 b1 b2 c0 c1 c2 d0 d1 d2/\m2 c0 c1 c2 d0 d1 d2 a0 a1 a2 b0 b1 b2= -m2 a0 a1 a2 b0 b1 b2 c0 c1 c2 d0 d1 d2:=by
 unfold m0 m1 m2;grind
theorem Ig{x y w:Int}(h:w≠0):sx (-x) (-y) (-w)=sx x y w/\sy (-x) (-y) (-w)=sy x y w/\sw (-x) (-y) (-w)=sw x y w:=
 oV (by omega) h (by grind) (by grind)
theorem Bu:(a0*(b2*c2*d2))*((a2*b2*c2*d2)*m2 a0 a1 a2 b0 b1 b2 c0 c1 c2 d0 d1 d2)+(b0*(a2*c2*d2) - a0*(b2*c2*d2))*((a2*b2*c2*d2*b2)*det c0 c1 c2 d0 d1 d2 a0 a1 a2)=(a2*b2*c2*d2)*(a2*b2*c2*d2)*m0 a0 a1 a2 b0 b1 b2 c0 c1 c2 d0 d1 d2:=by
 unfold det m0 m2;grind
theorem Bv:(a1*(b2*c2*d2))*((a2*b2*c2*d2)*m2 a0 a1 a2 b0 b1 b2 c0 c1 c2 d0 d1 d2)+(b1*(a2*c2*d2) - a1*(b2*c2*d2))*((a2*b2*c2*d2*b2)*det c0 c1 c2 d0 d1 d2 a0 a1 a2)=(a2*b2*c2*d2)*(a2*b2*c2*d2)*m1 a0 a1 a2 b0 b1 b2 c0 c1 c2 d0 d1 d2:=by
 unfold det m1 m2;grind
end
end My
namespace L2
open PySem PySem.Spec PyProof.Rows
section
variable{X:Cx}{a b:abl}{ta tb:TE}{pos:Pos}
theorem aC:eZ X (aek .Mult) (rI IntMulOk λi j=>.int (i*j)):=Oc λ_ _ _ _ _ _ _ hc q=>mul_int q hc
def Fq(_i j:Int):Prop:=j≠0/\j.natAbs.log2<9000
theorem fY:eZ X (aek .FloorDiv) (rI Fq λi j=>.int (i.fdiv j)):=Oc λ_ _ _ _ _ _ _ hc q=>floordiv_int hc.1 q (.inl (PyProof.noPylong_of_log2 hc.2))
theorem jW:eR X (.builtin "isinstance") (λxs H Q=>∃x n t k,xs=[x,.ty n]/\lF X.K H x t/\acA X.K t (.type n)=ae k/\Q (.bl k) H):=by
 intro pins s σ H xs us Q I r h;obtain⟨x,n,t,k,rfl,ty,e,q⟩:=h;obtain⟨u,w',rfl,rx,rc⟩:=vals2 r;cases (show w'=Value.type n from rc);exact Fd I rx ty e λtk=>⟨.bl k,H,I.tok tk,rfl,q⟩
end
section
variable{X:Cx}{K:aaa}
end
theorem tG{H:Hp}{p q:Addr}{x z:HO}(h:H p=ae x)(hq:H q=af):upd H q z p=ae x:=by
 rw[aV (cO h hq)];exact h
theorem iG{H:Hp}{q:Addr}{z:HO}(hq:H q=af):Gx H (upd H q z):=λ_ _ h=>tG h hq
theorem Gx.Q0{K:aaa}{H H':Hp}{a:Addr}{xs:List V}(e:Gx H H')(h:b_ K H a xs):b_ K H' a xs:=by
 rcases h with(h|⟨o,h⟩)|h
 .exact .inl (.inl (e _ _ h))
 .exact .inl (.inr ⟨o,e _ _ h⟩)
 .exact .inr h
theorem Sy{us:List aai}(h:(us++[]).length=3):∃a b c,us=[a,b,c]:=by
 match us,h with
 |[a,b,c],_=>exact⟨a,b,c,rfl⟩
 |[],h=>simp at h
 |[_],h=>simp at h
 |[_,_],h=>simp at h
 |_::_::_::_::_,h=>simp at h
structure z9(K:aaa)(x qual:Str)(st:Stmt)(f:Addr)(fd:aaC):Prop where
 ex:∃(oc:aai) (od:Option Addr) (dV kV doc pm:aai) (an:Option Addr) (br ct:aai) (lh:Array (Option aai)),
  fd=abH x qual (fR st) (dP st) (az st) dV kV doc pm an br ct/\K.lookup f=ae ⟨oc,od,.func fd,lh⟩/\adD K br qual=true
 kp:abX K (.ref f)=true
section
variable{P:aaD}{w:aa9}{K:aaa}{mg:Str->Option aai}{base:Heap}
theorem z9.ok{x qual:Str}{st:Stmt}{f:Addr}{fd:aaC}{N ps:List Str}{k:Nat}{sp:Sp}(F:z9 K x qual st f fd)(S:aL N ps (az st))(len:∀vs H Q E,sp vs H Q E->vs.length=ps.length)
  (nH:∀(br:aai) (A:aa4) (outer:List Env) (s:aah) (H:Hp) (vs:List V) (Q:VK) (E:XK),fq k (A.deeper (agC qual (az st) s.heap.objs.size f br))->sp vs H Q E->
   ∃t,oH (tp cU P w K mg base N qual (az st) f br A outer s H E).CQ (dP st) t/\t { nx:=λ_ H'=>Q .aX H',rt:=Q } (start N vs) H):bE P w K mg base cU (k+1) f fd ps sp:=by
 obtain⟨oc,od,dV,kV,doc,pm,an,br,ct,lh,rfl,lk,uT⟩:=F.ex;refine J2 lk uT S len λA outer s H vs Q E hr zD=>?_
 obtain⟨t,h,q⟩:=nH br A outer s H vs Q E hr zD;exact⟨t,h.CQ,q⟩
theorem Kz{x qual:Str}{st:Stmt}{f:Addr}{oc:aai}{od an:Option Addr}{lh:Array (Option aai)}{dV kV doc pm br ct:aai}(l:K.lookup f=ae ⟨oc,od,.func (abH x qual (fR st) (dP st) (az st) dV kV doc pm an br ct),lh⟩)
  (c:adD K br qual=true)(k:abX K (.ref f)=true):z9 K x qual st f (abH x qual (fR st) (dP st) (az st) dV kV doc pm an br ct):=⟨⟨oc,od,dV,kV,doc,pm,an,br,ct,lh,rfl,l,c⟩,k⟩
end
end L2
namespace My
open PySem PyProof.Rows
variable{x:Int}
theorem bits_le{k:Nat}(h:Bd k x):afD x<=k:=by
 unfold afD;split
 .exact abk _
 .rename_i z
  have z':x.natAbs≠0:=by
   intro e;apply z;have:x=0:=by omega
   rw[this];rfl
  have:=(Nat.log2_lt z').mpr h.lt;omega
theorem Sz{y:Int}{j k:Nat}(hx:Bd j x)(hy:Bd k y)(h:(decide (j<=100000)&&decide (k<=100000))=true):ag2 x y:=by
 rw[abe,decide_eq_true_eq,decide_eq_true_eq]at h;have e:(2:Nat) ^ 20=1048576:=by decide
 exact aiH (by have:=bits_le hx;omega) (by have:=bits_le hy;omega)
theorem OI{y:Int}(h1: -(2 ^ 64)<x)(h2:x<2 ^ 64):ag2 x y:=aiI (ahe h1 h2)
theorem OJ{y:Int}(h1: -(2 ^ 64)<y)(h2:y<2 ^ 64):ag2 x y:=aiD (ahe h1 h2)
end My
namespace L2
open PySem PySem.Spec PyProof.Rows
theorem nK:aa6 "abs" =ae (.builtin "abs"):=by decide +kernel
theorem OK:aa6 "len" =ae (.builtin "len"):=by decide +kernel
theorem Bw:aa6 "max" =ae (.builtin "max"):=by decide +kernel
theorem GA:aa6 "min" =ae (.builtin "min"):=by decide +kernel
theorem iO:aa6 "isinstance" =ae (.builtin "isinstance"):=by decide +kernel
theorem Bx:aa6 "int" =ae (.type "int"):=by decide +kernel
theorem Ih:aa6 "tuple" =ae (.type "tuple"):=by decide +kernel
theorem gz:aa6 "list" =ae (.type "list"):=by decide +kernel
theorem VZ{i j:Int}{k:Nat}(h0:j≠0)(h:My.Bd k j)(hk:(decide (0<k)&&decide (k<=9000))=true):Fq i j:=by
 rw[abe,decide_eq_true_eq,decide_eq_true_eq]at hk;exact⟨h0,aaB (My.Bd.log2 h hk.1) hk.2⟩
end L2
namespace L2
open PySem PySem.Spec PyProof.Rows
def iA(cells:List (Str×Addr)):List (Str×ad7)->List (Str×Addr)->List (Str×Addr)
 |[],cs=>cs
 |(n,k)::r,cs=>iA cells r (if k==.free then(match cells.lookup n with|some a=>(n,a)::cs|none=>cs)else cs)
variable{env:Env}
theorem oW:∀(names:List (Str×ad7)) (cs:List (Str×Addr)),(∀y∈names,y.2= .free->∃c,env.cells.lookup y.1=ae c)->
  (forIn names cs (λ(x:Str×ad7) (r:List (Str×Addr))=>(do
   if x.2==.free then
    let a <-cellOf env x.1
    pure (adT ((x.1,a)::r))
   else pure (adT r):Sem (ForInStep (List (Str×Addr))))))=(pure (iA env.cells names cs):Sem _)
 |[],cs,_=>rfl
 |(n,k)::r,cs,h=>by
  rw[aeo];have hr:∀y∈r,y.2= .free->∃c,env.cells.lookup y.1=ae c:=λy hy=>h y (aap _ hy)
  by_cases hk:k= .free
  .subst hk
   obtain⟨c,hc⟩:=h (n,.free) aao rfl;have cP:env.cells.lookup n=ae c:=hc;simp only[beq_self_eq_true,if_true,cellOf,cP,pure_bind,iA];exact oW r _ hr
  .have hb:(k==abv)=false:=by simpa using hk
   simp only[hb,aav,if_false,pure_bind,iA];exact oW r _ hr
variable{scope:Scope}
theorem oX(h:∀y∈scope.names,y.2= .free->∃c,env.cells.lookup y.1=ae c):closureFor scope env=pure (iA env.cells scope.names []):=by
 have e:=oW (env:=env) scope.names [] h;unfold closureFor;simp only[bind_pure_comp]at e |-
 first
  |(simpa using e)
  |(rw[<-e];rfl)
variable{cells:List (Str×Addr)}
theorem vS{x:Str}{c:Addr}:∀{names:List (Str×ad7)}{cs:List (Str×Addr)},(iA cells names cs).lookup x=ae c->(∀c',cs.lookup x=ae c'->cells.lookup x=ae c')->cells.lookup x=ae c
 |[],cs,h,hc=>hc c h
 |(n,k)::r,cs,h,hc=>by
  refine vS (names:=r) h λc' cP=>?_
  by_cases hk:(k==abv)=true
  .rw[if_pos hk]at cP
   cases e:cells.lookup n with
   |none=>rw[e]at cP;exact hc c' cP
   |some a=>
    rw[e]at cP
    by_cases hx:x=n
    .subst hx
     simp only[acT,beq_self_eq_true]at cP;rw[e];exact cP
    .have hb:(x==n)=false:=beq_eq_false_iff_ne.mpr hx
     simp only[acT,hb]at cP;exact hc c' cP
  .rw[if_neg hk]at cP
   exact hc c' cP
theorem tH{x:Str}:∀{names:List (Str×ad7)}{cs:List (Str×Addr)},(∃c,cs.lookup x=ae c)->∃c,(iA cells names cs).lookup x=ae c
 |[],_,h=>h
 |(n,k)::r,cs,h=>by
  refine tH (names:=r) ?_;split
  .split
   .rename_i a _
    by_cases hx:x=n
    .subst hx;exact⟨a,by simp⟩
    .have hb:(x==n)=false:=beq_eq_false_iff_ne.mpr hx
     simpa[acT,hb]using h
   .exact h
  .exact h
theorem oY{x:Str}:∀{names:List (Str×ad7)}{cs:List (Str×Addr)},(x,abv)∈names->(∃c,cells.lookup x=ae c)->∃c,(iA cells names cs).lookup x=ae c
 |[],_,h,_=>nomatch h
 |(n,k)::r,cs,h,hc=>by
  rcases aaj.mp h with e|h
  .cases e
   refine tH (names:=r) ?_;obtain⟨c,hc⟩:=hc;rw[if_pos (by rfl),hc];exact⟨c,by simp⟩
  .exact oY (names:=r) h hc
theorem zI{prog:aaD}{w:aa9}{A:aa4}{R:ag1->aah->Prop}{s:aah}{elt target iter:abl}{ifs:List abl}{pos:Pos}{it acc:aai}(I:Nat->aah->Prop)
  (turn:∀n s,I n s->aat (aaL prog w) A (adS it) (λr bS=>match r with
   |none=>R (.ok .next) bS
   |some v=>aat (aaL prog w) A (adi target it v) (λ_ bJ=>aat (aaL prog w) A (agA target env v) (λ_ mB=>
     aat (aaL prog w) A (forIn ifs true λc r=>if r=true then do let ok <-aiM c env (adL c env);pure (adT ok)else pure (adT r)) (λok vQ=>
      if ok=true then aat (aaL prog w) A (adL elt env) (λx GB=>
       aat (aaL prog w) A (call (.builtin "list.append") [acc,x]) (λ_ Q1=>∃m,m<n/\I m Q1) (λ_ _=>False) GB) (λ_ _=>False) vQ
      else ∃m,m<n/\I m vQ) (λ_ _=>False) mB) (λ_ _=>False) bJ) (λ_ _=>False) bS) (λ_ _=>False) s)
  (n:Nat)(h:I n s):
  aeC (aaL prog w) A (.compLoop (.ListComp elt [⟨target,iter,ifs,0⟩] scope pos) 0 it acc env) R s:=by
 refine codeAny_loop rfl I (λn s hI=>?_) n h;show aat _ A ((compTurn (.ListComp elt [⟨target,iter,ifs,0⟩] scope pos) 0 it acc env).onRaise (λx=>do noteFrame x env;theTreesLotGoes x)) _ _ s;refine wpAny_noted ?_;rw[compTurn_list];refine Zu (aeh (Zu (abu (turn n s hI) (λr bS ow=>?_) λ_ _ h'=>h'.elim)));cases r with
 |none=>exact aad ow
 |some v=>
  refine Zu (abu ow (λ_ bJ h₀=>?_) λ_ _ h'=>h'.elim);refine Zu (abu h₀ (λ_ mB Dg=>Zu (abu Dg (λok vQ Gy=>?_) λ_ _ h'=>h'.elim)) λ_ _ h'=>h'.elim);cases ok with
  |false=>exact aad ⟨rfl,Gy⟩
  |true=>
   exact Zu (Zu (abu Gy (λx GB V0=>Zu (abu V0 (λ_ Q1 V2=>aad (aad ⟨rfl,V2⟩)) λ_ _ h'=>h'.elim)) λ_ _ h'=>h'.elim))
abbrev Cx.jO(X:Cx)(scope:Scope)(C:Addr)(N':List Str)(bJ:aah)(dk:Hp)(fp:List Addr):Cx:=
 { X with N:=N',bJ:=bJ,dk:=dk,env:=compEnvC scope (iA X.env.cells scope.names []) C X.env,outer:=X.stack,ex:=fp,fn:=λ_=>false,pn:=[],xe:=λ_ _=>False }
def wR(σ:St)(cap:List (Option Nat)):St:=cap.map λo=>match o with
 |some i=>(match σ[i]? with|some v=>v|none=>af)
 |none=>af
structure se(X:Cx)(scope:Scope)(N':List Str)(cap:List (Option Nat)):Prop where
 kind:scope.kind= .function
 Fs:∀y∈scope.names,y.2≠.cell
 names:∀y∈scope.names,y.2= .local->scope.names.lookup y.1=ae .local
 frees:∀y∈scope.names,y.2= .free->X.env.kindOf y.1=ae .cell\/X.env.kindOf y.1=ae .free
 len:cap.length=N'.length
 V3:∀(j i:Nat) (x:Str),cap[j]? =ae (ae i)->N'[j]? =ae x->X.N[i]? =ae x/\(x,abv)∈scope.names
 YG:∀(j i:Nat) (x:Str),cap[j]? =ae (ae i)->N'[j]? =ae x->EZ X.env.scope x
 un:∀(j i:Nat) (x:Str),cap[j]? =ae (ae i)->N'[j]? =ae x->∀z∈scope.names,z.1=x->z.2= .free
def iP(sc scope:Scope)(NN:List Str):List Str->List (Option Nat)->Bool
 |[],[]=>true
 |_::N,af::c=>iP sc scope NN N c
 |x::N,ae i::c=>decide (NN[i]? =ae x)&&decide ((x,abv)∈scope.names)&&(decide (sc.names.lookup x=ae .local)||decide (sc.names.lookup x=ae .cell)||decide (sc.names.lookup x=ae .free))&&decide (∀z∈scope.names,z.1=x->z.2= .free)&&iP sc scope NN N c
 |_,_=>false
variable{NN:List Str}
theorem sf{sc:Scope}:∀{N':List Str}{cap:List (Option Nat)},iP sc scope NN N' cap=true->cap.length=N'.length
 |[],[],_=>rfl
 |_::_,af::_,h=>congrArg (·+1) (sf (by simpa only[iP]using h))
 |_::_,ae _::_,h=>congrArg (·+1) (sf (by simp only[iP,abe]at h;exact h.2))
 |[],_::_,h=>by simp[iP]at h
 |_::_,[],h=>by simp[iP]at h
theorem j8{sc:Scope}:∀{N':List Str}{cap:List (Option Nat)},iP sc scope NN N' cap=true->∀(j i:Nat) (x:Str),cap[j]? =ae (ae i)->N'[j]? =ae x->
  NN[i]? =ae x/\(x,abv)∈scope.names/\EZ sc x/\∀z∈scope.names,z.1=x->z.2= .free
 |[],[],_,j,i,x,e,_=>by simp at e
 |_::_,af::_,h,0,i,x,e,_=>by simp at e
 |_::_,af::_,h,j+1,i,x,e,e'=>j8 (by simpa only[iP]using h) j i x (by simpa using e) (by simpa using e')
 |y::_,ae k::_,h,0,i,x,e,e'=>by
  simp only[adv,aeB]at e e';subst e e';simp only[iP,abe,ain,decide_eq_true_eq]at h;obtain⟨⟨⟨⟨h1,h2⟩,h3⟩,h4⟩,_⟩:=h;refine⟨h1,h2,?_,h4⟩;rcases h3 with(h3|h3)|h3
  .exact .inl h3
  .exact .inr (.inl h3)
  .exact .inr (.inr h3)
 |_::_,ae _::_,h,j+1,i,x,e,e'=>j8 (by simp only[iP,abe]at h;exact h.2) j i x (by simpa using e) (by simpa using e')
 |[],_::_,h,_,_,_,_,_=>by simp[iP]at h
 |_::_,[],h,_,_,_,_,_=>by simp[iP]at h
theorem iQ{X:Cx}{sc:Scope}{N':List Str}{cap:List (Option Nat)}(e:X.env.scope=sc)(eN:X.N=NN)(h1:scope.kind= .function)(h2:∀y∈scope.names,y.2≠.cell)(h3:∀y∈scope.names,y.2= .local->scope.names.lookup y.1=ae .local)
  (h4:∀y∈scope.names,y.2= .free->sc.names.lookup y.1=ae .cell\/sc.names.lookup y.1=ae .free)(h5:iP sc scope NN N' cap=true):se X scope N' cap:=by
 subst e eN;exact⟨h1,h2,h3,h4,sf h5,λj i x a b=>⟨(j8 h5 j i x a b).1,(j8 h5 j i x a b).2.1⟩,λj i x a b=>(j8 h5 j i x a b).2.2.1,λj i x a b=>(j8 h5 j i x a b).2.2.2⟩
def Ft(wi:TI)(cap:List (Option Nat))(g:TG)(tt:TT)(te:TE):TE:=λσ H Q=>wi σ H λJ H1=>∀l,H1 l=af->
 ∃W:Nat->Nat->St->Hp->Prop,(∃m,W 0 m (wR σ cap) (upd H1 l (.lst [])))/\∀i m τ H2,W i m τ H2->
  (J.stop i H2/\Q (.ref l) H2)\/(J.go i H2/\∃N:St->Hp->Prop,(∀mH H',N mH H'->∃m',m'<m/\W (i+1) m' mH H')/\
   ∀x H',J.HM i H2 x H'->g x τ H' λBy H3=>tt By H3 λb H4=>if b=true then te By H4 λy H5=>∃ys,H5 l=ae (.lst ys)/\ys.length<sizeLine/\N By (upd H5 l (.lst (ys++[y])))else N By H4)
def eX:TT:=λ_ H Q=>Q true H
namespace Zu
set_option allowUnsafeReducibility true in
@[scoped irreducible] def _root_.L2.tJ(X:Cx)(ifs:List abl)(t:TT):Prop:=
 ∀(pins:List (Addr×Obj)) (s:aah) (σ:St) (H:Hp) (Q:Bool->Hp->Prop),Inv X pins σ H s->t σ H Q->
  aat (aaL X.prog X.w) X.A (forIn ifs true λc r=>if r=true then do let ok <-aiM c X.env (adL c X.env);pure (adT ok)else pure (adT r)) (TP X pins σ Q) X.xe s
end Zu
theorem Ii{X:Cx}:tJ X [] eX:=λ_ _ _ H _ I h=>wpAny_tests_nil ⟨H,I,h⟩
theorem KA{X:Cx}{c:abl}{t:TT}(h:PT X c t):tJ X [c] t:=λpins s σ H Q I q=>wpAny_tests_one (h pins s σ H Q I q)
section
variable{X:Cx}{pos:Pos}{elt iter tg:abl}{ifs:List abl}{scope:Scope}{N':List Str}{cap:List (Option Nat)}{wi:TI}{g:TG}{tt:TT}{te:TE}
theorem l7{X:Cx}:∀{names:List (Str×ad7)}{y:Str}{k:ad7},(names.map λ(n,k)=>if (k==abv&&X.env.scope.kind==.function&&X.env.kindOf n==ae .cell)then(n,af3)else(n,k)).lookup y=ae k->
  (k= .cell\/k= .free)->(∀z∈names,z.2≠.cell)->(y,abv)∈names
 |[],_,_,h,_,_=>by simp at h
 |(n,k0)::r,y,k,h,hk,hc=>by
  have YH:∀z∈r,z.2≠.cell:=λz hz=>hc z (aap _ hz)
  have h0:k0≠.cell:=hc (n,k0) aao;rw[aaV]at h;dsimp only at h
  by_cases hy:y=n
  .subst hy
   have:k0= .free:=by
    by_cases hf:k0= .free
    .exact hf
    .exfalso
     have hb:(k0==abv)=false:=by simpa using hf
     simp only[hb,agZ,aav,if_false,acT,beq_self_eq_true]at h;cases h;rcases hk with e|e
     .exact h0 e
     .exact hf e
   subst this;exact aao
  .have hb:(y==n)=false:=beq_eq_false_iff_ne.mpr hy
   have h':(r.map λ(n,k)=>if (k==abv&&X.env.scope.kind==.function&&X.env.kindOf n==ae .cell)then(n,af3)else(n,k)).lookup y=ae k:=by
    split at h<;>simpa only[acT,hb]using h
   exact aap _ (l7 (X:=X) h' hk YH)
theorem qS{X:Cx}:∀{names:List (Str×ad7)}{y:Str},(y,abv)∈names->(∀z∈names,z.1=y->z.2= .free)->∃k,(k=af3\/k= .free)/\
  (names.map λ(n,k)=>if (k==abv&&X.env.scope.kind==.function&&X.env.kindOf n==ae .cell)then(n,af3)else(n,k)).lookup y=ae k
 |[],_,h,_=>nomatch h
 |(n,k0)::r,y,h,hu=>by
  rw[aaV];dsimp only
  by_cases hy:y=n
  .subst hy
   have:k0= .free:=hu (y,k0) aao rfl;subst this;split
   .exact⟨.cell,.inl rfl,by simp⟩
   .exact⟨.free,.inr rfl,by simp⟩
  .have hb:(y==n)=false:=beq_eq_false_iff_ne.mpr hy
   have hm:(y,abv)∈r:=by
    rcases aaj.mp h with e|h
    .cases e;exact absurd rfl hy
    .exact h
   obtain⟨k,hk,e⟩:=qS (X:=X) hm λz hz=>hu z (aap _ hz)
   refine⟨k,hk,?_⟩;split<;>simpa only[acT,hb]using e
variable{pins:List (Addr×Obj)}
theorem KC{σ:St}{H:Hp}{s:aah}{fp:List Addr}{h1:Heap}{m:Str->Option aai}{t':Nat}(B:se X scope N' cap)
  (I:Inv X pins σ H s)(hf:∀b∈fp,jc X pins H b)(ho:∀b∈fp,∃o,s.heap.get? b=ae o)(keep:∀b o,s.heap.get? b=ae o->h1.get? b=ae o)(Bs:h1.Ns s.heap.objs.size m):
  Inv (X.jO scope s.heap.objs.size N' s H fp) [] (wR σ cap) H { s with heap:=h1,toks:=t' }:=by
 have I1:Inv X pins σ H { s with heap:=h1,toks:=t' }:=I.kept keep;have z_:∀y c,(iA X.env.cells scope.names []).lookup y=ae c->X.env.cells.lookup y=ae c:=λy c h=>vS h λc' cP=>by simp at cP
 refine⟨⟨I.ok.mod,B.kind,I.ok.glob,I.ok.blt,aam _,λy z c e1 e2=>I.ok.inj y z c (z_ y c e1) (z_ z c e2),λy hy=>?_,λy c e _=>absurd e (by simp),I.ok.hd,I.ok.frames,.inl rfl,λb hb=>⟨?_,λy c e=>(hf b hb).2.2.2.2.1 y c (z_ y c e)⟩,λb o e=>I.bs b o e,aa7 I.ok.Bi I.sz,λb o e hb=>?_,λb hb hs=>?_,I.stack,I.CN⟩,
  rfl,I.bare,Un.kept keep,⟨m,Bs,λj y v e1 e2 e3=>?_⟩,λy c e=>I1.cell y c (z_ y c e),I.bc.fresh (aam _),λy c e=>I.lY y c (z_ y c e),λp hp=>absurd hp (by simp),I1.bc,?_⟩
 .-- has
  have jz:(y,abv)∈scope.names:=by
   rcases hy with hy|hy
   .exact l7 (X:=X) (k:=.cell) hy (.inl rfl) B.Fs
   .exact l7 (X:=X) (k:=.free) hy (.inr rfl) B.Fs
  exact oY jz (I.ok.has y (B.frees (y,.free) jz rfl))
 .-- fp below xN V4 frame
  obtain⟨o,e⟩:=ho b hb;exact aaF (aan e)
 .-- base
  rcases(hf b hb).2.2.2.1 with z|z
  .exact I.ok.CL b o e z
  .exact absurd (aaB (aan e) (aa7 I.ok.Bi z)) (aaZ _)
 .-- frames
  rcases aaj.mp (I.Bj b hs)with z|z
  .exact(hf b hb).2.1 z
  .exact(hf b hb).2.2.1 z
 .-- Vc values
  have hc:∃i,cap[j]? =ae (ae i)/\σ[i]? =ae (ae v):=by
   unfold wR at e2;rw[aaq]at e2;cases e:cap[j]? with
   |none=>rw[e]at e2;cases e2
   |some o=>
    rw[e]at e2;cases o with
    |none=>simp at e2
    |some i=>
     refine⟨i,rfl,?_⟩;simp only[agx,aeB]at e2;cases q:σ[i]? with
     |none=>rw[q]at e2;cases e2
     |some w=>
      rw[q]at e2;have Dl:w=ae v:=e2;rw[Dl]
  obtain⟨i,hi,hv⟩:=hc;obtain⟨hN,uS⟩:=B.V3 j i y hi e1;obtain⟨m1,_,hl⟩:=I1.loc;obtain⟨u,r,l⟩:=hl i y v hN hv (B.YG j i y hi e1);refine⟨u,r,.inr ?_⟩;obtain⟨k,hk,ek⟩:=qS (X:=X) uS (B.un j i y hi e1);have Bk:∃c,X.env.cells.lookup y=ae c/\h1.IsCell c (ae u):=by
   rcases l with⟨k1,_⟩|⟨_,c,e,z⟩
   .rcases B.frees (y,.free) uS rfl with q|q
    .rw[show X.env.kindOf y=ae NameKind.local from k1]at q;cases q
    .rw[show X.env.kindOf y=ae NameKind.local from k1]at q;cases q
   .exact⟨c,e,z⟩
  obtain⟨c,ec,zc⟩:=Bk;obtain⟨c',V5⟩:=oY (cs:=[]) uS ⟨c,ec⟩;have:c'=c:=by have:=z_ y c' V5;rw[ec]at this;cases this;rfl
  subst this;refine⟨?_,c',V5,zc⟩;rcases hk with rfl|rfl
  .exact .inl ek
  .exact .inr ek
 .show(wR σ cap).length=N'.length
  unfold wR;rw[aas];exact B.len
theorem ya{RR:aai->Addr->ag1->aah->Prop}{σ:St}{H2:Hp}{s2:aah}{it:Addr}{fp:List Addr}{tn:Nat->Heap->Prop}{J:It}{Q:VK}(B:se X scope N' cap)(hc:X.calm=true)
  (hg:∀C bJ dk fp,PG (X.jO scope C N' bJ dk fp) tg g)(ht:∀C bJ dk fp,tJ (X.jO scope C N' bJ dk fp) ifs tt)(he:∀C bJ dk fp,PE (X.jO scope C N' bJ dk fp) elt te)
  (I2:Inv X pins σ H2 s2)(T:Turn X.prog X.w X.K tg J fp it tn)(oI:tn 0 s2.heap)(f2:∀b∈fp,jc X pins H2 b)
  (yb:∀l,H2 l=af->∃W:Nat->Nat->St->Hp->Prop,(∃m,W 0 m (wR σ cap) (upd H2 l (.lst [])))/\∀i m τ H2,W i m τ H2->
   (J.stop i H2/\Q (.ref l) H2)\/(J.go i H2/\∃N:St->Hp->Prop,(∀mH H',N mH H'->∃m',m'<m/\W (i+1) m' mH H')/\
    ∀x H',J.HM i H2 x H'->g x τ H' λBy H3=>tt By H3 λb H4=>if b=true then te By H4 λy H5=>∃ys,H5 l=ae (.lst ys)/\ys.length<sizeLine/\N By (upd H5 l (.lst (ys++[y])))else N By H4))
  (fin:∀(D C:Addr) (o:Obj) (m:Str->Option aai) (H5:Hp) (s5:aah),Inv X pins σ H5 s5->jc X pins H5 C->s5.heap.get? C=ae o->(∀v,o.data≠.cell v)->s5.heap.Ns C m->Q (.ref D) H5->RR (.ref D) C (.ok .next) s5):
  aat (aaL X.prog X.w) X.A (newList []) (λacc vQ=>aat (aaL X.prog X.w) X.A (newFunctionEnv scope X.env.globals (iA X.env.cells scope.names []) [] X.env.qual af .none (ae X.env)) (λQ2 GB=>
   aeC (aaL X.prog X.w) X.A (.compStart (.ListComp elt [⟨tg,iter,ifs,0⟩] scope pos) 0 (.ref it) acc { Q2 with scope:=relabel scope X.env }) (RR acc Q2.locals) GB) X.xe vQ) X.xe s2:=by
 refine aaH (wpAny_newFunctionEnv B.Fs (by intro y hy;simp at hy) (λow Bz GC=>?_) B.kind);dsimp only at Bz GC |-
 have I3:Inv X pins σ (upd H2 s2.heap.objs.size (.lst [])) { s2 with heap:=s2.heap.push { cls:=.type "list",dict:=af,data:=.seq ([]:List aai).toArray } }:=I2.QY (t':=s2.toks) (its:=[]) (ys:=[]) .nil (abk _);have hD:H2 s2.heap.objs.size=af:=I2.fresh;have V6:∀b∈fp,b≠s2.heap.objs.size:=λb hb=>by
  obtain⟨o,e,_⟩:=T.obj 0 _ oI b hb;exact aaF (aan e)
 have f3:∀b∈fp,jc X pins (upd H2 s2.heap.objs.size (.lst [])) b:=λb hb=>⟨by rw[aV (V6 b hb)];exact(f2 b hb).1,(f2 b hb).2⟩
 obtain⟨W,⟨m0,w0⟩,turn⟩:=yb s2.heap.objs.size hD;generalize V7:({ s2 with heap:=s2.heap.push { cls:=.type "list",dict:=af,data:=.seq ([]:List aai).toArray } }:aah)=s3 at I3;have OL:s3.heap=s2.heap.push { cls:=.type "list",dict:=af,data:=.seq ([]:List aai).toArray }:=by rw[<-V7]
 have keep:∀b o,s3.heap.get? b=ae o->ow.get? b=ae o:=λb o e=>by
  have gd:=aan e;rw[OL]at e gd;exact GC.extBut b o (aaF gd) (aab _ e)
 have YI:∀b∈fp,∃o,s3.heap.get? b=ae o:=λb hb=>by
  obtain⟨o,e,_⟩:=T.obj 0 _ oI b hb;exact⟨o,by rw[OL];exact aab _ e⟩
 have V8:s3.heap.objs.size=(s2.heap.push { cls:=.type "list",dict:=af,data:=.seq ([]:List aai).toArray }).objs.size:=by rw[OL]
 rw[<-V8]at Bz |-
 have J0:Inv (X.jO scope s3.heap.objs.size N' s3 (upd H2 s2.heap.objs.size (.lst [])) fp) [] (wR σ cap) (upd H2 s2.heap.objs.size (.lst [])) { s3 with heap:=ow,toks:=s3.toks }:=KC (t':=s3.toks) B I3 f3 YI keep Bz;have V9:tn 0 ow:=T.keep 0 s2.heap ow oI λb hb o e=>keep b o (by rw[OL];exact aab _ e)
 have es:({ s2 with heap:=ow,toks:=s2.toks+([]:List (Str×aai)).length }:aah)= { s3 with heap:=ow,toks:=s3.toks }:=by
  rw[<-V7];rfl
 have SA:∀{s5:aah}{H5:Hp}{V_:St},Inv (X.jO scope s3.heap.objs.size N' s3 (upd H2 s2.heap.objs.size (.lst [])) fp) [] V_ H5 s5->Inv X pins σ H5 s5:=λ{s5 H5 V_} J5=>
  I3.Rz (ch:=fp) J5.os J5.base J5.bc J5.bare λb hb=>⟨(f3 b hb).2.2.2.1,(f3 b hb).2.1,(f3 b hb).2.2.2.2.1,(f3 b hb).2.2.2.2.2⟩
 have SD:∀{H':Hp},(∀b∈fp,H' b=af)->∀b∈fp,jc (X.jO scope s3.heap.objs.size N' s3 (upd H2 s2.heap.objs.size (.lst [])) fp) [] H' b:=λ{H'} hn b hb=>
  ⟨hn b hb,(J0.ok.NG b hb).1,J0.ok.CM b hb,.inl hb,(J0.ok.NG b hb).2,λp hp=>absurd hp (by simp)⟩
 have loop:aeC (aaL X.prog X.w) X.A (.compLoop (.ListComp elt [⟨tg,iter,ifs,0⟩] scope pos) 0 (.ref it) (.ref s2.heap.objs.size) (compEnvC scope (iA X.env.cells scope.names []) s3.heap.objs.size X.env))
   (RR (.ref s2.heap.objs.size) s3.heap.objs.size) { s3 with heap:=ow,toks:=s3.toks }:=by
  refine zI (λn s'=>∃i τ H',Inv (X.jO scope s3.heap.objs.size N' s3 (upd H2 s2.heap.objs.size (.lst [])) fp) [] τ H' s'/\tn i s'.heap/\(∀b∈fp,H' b=af)/\W i n τ H') ?_ m0 ⟨0,_,_,J0,V9,λb hb=>(f3 b hb).1,w0⟩;rintro n s4 ⟨i,τ,H4,J4,Wa,Wb,w4⟩;rcases turn i n τ H4 w4 with⟨stop,q⟩|⟨go,N,hN,step⟩
  .refine abu (T.done (X.jO scope s3.heap.objs.size N' s3 (upd H2 s2.heap.objs.size (.lst [])) fp) rfl rfl rfl hc i [] s4 τ H4 (λ_ _=>False) J4 (SD Wb) Wa stop) (λr s5 bg=>?_) (λ_ _ f=>f)
   obtain⟨hr,J5⟩:=bg;subst hr;obtain⟨m5,Wc,_⟩:=J5.loc;have I5:Inv X pins σ H4 s5:=SA J5;obtain⟨o5,es5,ep5,YJ,YK,_⟩:=id Wc;refine fin _ _ o5 m5 H4 s5 I5 ⟨J5.free,λe=>?_,I3.QH (aam _),.inr I3.sz,λy c e z=>?_,λp hp z=>?_⟩ YJ (λv e=>?_) Wc q
   .have:=I3.lt
    rw[<-e]at this;exact aaZ _ this
   .obtain⟨v,o,NL,_⟩:=I3.cell y c e
    have:=aan NL;rw[z]at this;exact aaZ _ this
   .have:=aan (I3.pin p hp).1
    rw[z]at this;exact aaZ _ this
   .rw[YK]at e;cases e
  .refine abu (T.item (X.jO scope s3.heap.objs.size N' s3 (upd H2 s2.heap.objs.size (.lst [])) fp) rfl rfl rfl hc i [] s4 τ H4 (λ_ _=>False) J4 (SD Wb) Wa go) (λr s5 bg=>?_) (λ_ _ f=>f)
   obtain⟨u,hr,h5⟩:=bg;subst hr;refine abu h5 (λ_ s6 bg=>?_) (λ_ _ f=>f);obtain⟨xv,H6,J6,r6,y6,SE,YL⟩:=bg;have YM:=J6.pinned (SD YL) (T.obj _ _ SE);have again:∀{s7:aah}{zJ:St}{H7:Hp},Inv (X.jO scope s3.heap.objs.size N' s3 (upd H2 s2.heap.objs.size (.lst [])) fp) ([]++tf fp s6.heap) zJ H7 s7->N zJ H7->∃m,m<n/\∃i τ H',Inv (X.jO scope s3.heap.objs.size N' s3 (upd H2 s2.heap.objs.size (.lst [])) fp) [] τ H' s7/\tn i s7.heap/\(∀b∈fp,H' b=af)/\W i m τ H':=λ{s7 zJ H7} J7 n7=>by
    obtain⟨m',hm,w7⟩:=hN zJ H7 n7;refine⟨m',hm,i+1,zJ,H7,J7.mE,T.keep _ _ _ SE λb hb o e=>(J7.pin (b,o) (aaT _ (aaT _ (lE hb e)))).1,λb hb=>?_,w7⟩;obtain⟨o,e,d⟩:=T.obj _ _ SE b hb;exact(J7.pin (b,o) (aaT _ (aaT _ (lE hb e)))).2.1
   refine abu (hg s3.heap.objs.size s3 (upd H2 s2.heap.objs.size (.lst [])) fp _ s6 τ H6 xv u _ YM r6 (step xv H6 y6)) (λ_ s7 bg=>?_) (λ_ _ f=>f);obtain⟨zJ,H7,J7,q7⟩:=bg;refine abu (ht s3.heap.objs.size s3 (upd H2 s2.heap.objs.size (.lst [])) fp _ s7 zJ H7 _ J7 q7) (λok s8 bg=>?_) (λ_ _ f=>f);obtain⟨H8,J8,q8⟩:=bg;cases ok with
   |false=>
    rw[if_neg (by decide)]at q8 |-
    exact again J8 q8
   |true=>
    rw[if_pos rfl]at q8 |-
    refine abu (he s3.heap.objs.size s3 (upd H2 s2.heap.objs.size (.lst [])) fp _ s8 zJ H8 _ J8 q8) (λyv s9 bg=>?_) (λ_ _ f=>f);obtain⟨y,H9,J9,r9,q9⟩:=bg;obtain⟨ys,hl,hz,n9⟩:=q9;exact abu (jg (X:=X.jO scope s3.heap.objs.size N' s3 (upd H2 s2.heap.objs.size (.lst [])) fp) _ s9 zJ H9 (.ref s2.heap.objs.size) [y] (.ref s2.heap.objs.size) [yv] (λ_ H'=>N zJ H') J9 rfl (.cons r9 .nil) ⟨_,ys,y,rfl,rfl,hl,hz,n9⟩) (λ_ Wd ⟨_,H10,YN,_,YO⟩=>again YN YO) (λ_ _ f=>f)
 rw[es];exact codeAny_compStart_list loop (T.self _ 0 _ _ _ V9 loop)
theorem KD(B:se X scope N' cap)(hc:X.calm=true)
  (hi:PI X tg iter wi)(hg:∀C bJ dk fp,PG (X.jO scope C N' bJ dk fp) tg g)(ht:∀C bJ dk fp,tJ (X.jO scope C N' bJ dk fp) ifs tt)(he:∀C bJ dk fp,PE (X.jO scope C N' bJ dk fp) elt te)
  (hs:∀x,adk iter X.env x=pure x:=by intro _;rfl):
  PE X (.ListComp elt [⟨tg,iter,ifs,0⟩] scope pos) (Ft wi cap g tt te):=by
 intro pins s σ H Q I h;rw[eval_ListComp];refine afP (use:=af) rfl hs (oX λy hy hf=>I.ok.has y.1 (B.frees y hy hf)) B.kind B.names ?_;refine bN (hi pins s σ H _ I h) λv s1 h1=>bN h1 λN_ s2 h2=>?_
 obtain⟨it,fp,tn,J,H2,e,I2,T,oI,f2,yb⟩:=h2;subst e;refine ya (RR:=λacc C=>compPost (aaL X.prog X.w) X.A X.xe af (EP X pins σ Q) acc C) B hc hg ht he I2 T oI f2 yb λD C o m H5 s5 I5 f5 ho hd hn q=>?_
 refine⟨m,hn,λh' KG=>?_⟩;exact⟨.ref D,H5,I5.turned (t':=s5.toks) (it:=C) (λb o hb e=>KG.extBut b o hb e) f5.1 (λe=>f5.2.1 e) f5.2.2.2.1 f5.2.2.2.2.1 f5.2.2.2.2.2,rfl,q⟩
theorem KH{i:Nat}{y:Str}{py Dm:Pos}(B:se X scope N' cap)(hc:X.calm=true)
  (hi:PI X tg iter wi)(hg:∀C bJ dk fp,PG (X.jO scope C N' bJ dk fp) tg g)(ht:∀C bJ dk fp,tJ (X.jO scope C N' bJ dk fp) ifs tt)(he:∀C bJ dk fp,PE (X.jO scope C N' bJ dk fp) elt te)
  (hN:X.N.Nodup)(SF:X.N[i]? =ae y)(hy:Loc X.env.scope y)(SG:aeP (.ListComp elt [⟨tg,iter,ifs,0⟩] scope pos) (ae (.Name y py)) Dm.line X.env=pure true)
  (hf:X.fn y=true\/X.env.scope.names.lookup y=ae .local:=by first|exact .inl rfl|exact .inr rfl|assumption)
  (hs:∀x,adk iter X.env x=pure x:=by intro _;rfl):
  PS X (.Assign [.Name y py] (.ListComp elt [⟨tg,iter,ifs,0⟩] scope pos) Dm) (JM (Ft wi cap g tt te) (ay i)):=by
 intro pins s σ H D I h;rw[exec_Assign_Name_used _ _ _ _ SG];refine Zu (aeh (Zu ?_));show aat _ X.A (do let _ <-comprehension (.ListComp elt [⟨tg,iter,ifs,0⟩] scope pos) scope X.env _ (newList []) false (adL iter X.env) (ae (agA (.Name y py) X.env))) _ _ s;refine Zu (abu (afP (use:=ae (agA (.Name y py) X.env)) (Q:=λ_ s'=>SP X pins D .next s') rfl hs (oX λy hy hf=>I.ok.has y.1 (B.frees y hy hf)) B.kind B.names
  (bN (hi pins s σ H _ I h) λv s1 h1=>bN h1 λN_ s2 h2=>?_)) (λ_ s' hq=>aad (aad hq)) λ_ _ e=>e)
 obtain⟨it,fp,tn,J,H2,e,I2,T,oI,f2,yb⟩:=h2;subst e;refine ya (Q:=λv H'=>ay i v σ H' D.nx) (RR:=λacc C=>compPost (aaL X.prog X.w) X.A X.xe (ae (agA (.Name y py) X.env)) (λ_ s'=>SP X pins D .next s') acc C) B hc hg ht he I2 T oI f2 yb λD' C o m H5 s5 I5 f5 ho hd hn q=>?_
 show aat _ X.A (agA (.Name y py) X.env (.ref D')) _ _ _;have RP:Inv X (pins++[(C,o)]) σ H5 s5:=I5.xJ λp hp=>by
  rcases aaJ.mp hp with z|z
  .exact I5.pin p (aaT _ z)
  .have:p=(C,o):=by simpa using z
   subst this;exact⟨ho,f5.1,f5.2.1,f5.2.2.1,hd⟩
 refine bN (CS (pos:=py) hN SF hy hf (pins++[(C,o)]) s5 σ H5 (.ref D') (.ref D') _ RP rfl q) λ_ s6 bg=>?_
 obtain⟨RQ,H6,I6,q6⟩:=bg;obtain⟨e6,n6,_⟩:=I6.pin (C,o) (aaT _ (aaT _ aao));have YQ:s6.heap.Ns C m:=by
  obtain⟨o',es,ep,q1,r⟩:=hn;rw[ho]at q1;cases q1;exact⟨o,es,ep,e6,r⟩
 refine⟨m,YQ,λh' KG=>⟨RQ,H6,I6.mE.turned (t':=s6.toks) (it:=C) (λb o hb e=>KG.extBut b o hb e) n6 f5.2.1 f5.2.2.2.1 f5.2.2.2.2.1 f5.2.2.2.2.2,q6⟩⟩
end
end L2
namespace L2
open PySem PySem.Spec PyProof.Rows
end L2
namespace L2
open PySem PySem.Spec PyProof.Rows
end L2
namespace L2
open PySem PySem.Spec PyProof.Rows
mutual
inductive lr(K:aaa)(H:Hp):V->PyData->Prop
 |aX:lr K H .aX .none
 |bl (b:Bool):lr K H (.bl b) (.bool b)
 |int (i:Int):lr K H (.int i) (.int i)
 |str (x:Str):lr K H (.str x) (.str x)
 |tup {p:Addr}{xs:List V}{ds:List PyData}:b_ K H p xs->sh K H xs ds->lr K H (.ref p) (.tuple ds)
 |lst {p:Addr}{xs:List V}{ds:List PyData}:b8 K H p xs->sh K H xs ds->lr K H (.ref p) (.list ds)
inductive sh(K:aaa)(H:Hp):List V->List PyData->Prop
 |nil:sh K H [] []
 |cons {x:V}{xs:List V}{d:PyData}{ds:List PyData}:lr K H x d->sh K H xs ds->sh K H (x::xs) (d::ds)
end
section
variable{X:Cx}{pins:List (Addr×Obj)}{σ:St}{H:Hp}{s:aah}
mutual
theorem lr.reads(I:Inv X pins σ H s):∀{x:V}{d:PyData},lr X.K H x d->∀{v:aai},RelV x v->∃as,Reads s.heap v d as
 |_,_,.aX,v,r=>by cases (show v=aby from r);exact⟨_,.none⟩
 |_,_,.bl b,v,r=>by cases (show v=agQ b from r);exact⟨_,.bool b⟩
 |_,_,.int i,v,r=>by
  obtain⟨t,e⟩:=(show ∃t,v=aeO i t from r);cases e;exact⟨_,.int i t⟩
 |_,_,.str x,v,r=>by
  obtain⟨t,e⟩:=(show ∃t,v=aho x t from r);cases e;exact⟨_,.str x t⟩
 |_,_,.tup (p:=p) h a,v,r=>by
  cases (show v=aaw p from r);obtain⟨its,hv,⟨o,ho,hc,n,hd⟩,_⟩:=I.tuple h;obtain⟨as,ra⟩:=sh.reads I a hv;exact⟨as,.tuple ho hc hd (by simpa using ra)⟩
 |_,_,.lst (p:=p) h a,v,r=>by
  cases (show v=aaw p from r);obtain⟨its,hv,pl,_⟩:=I.list h;obtain⟨o,ho,hc,n,hd⟩:=pl.isList;obtain⟨as,ra⟩:=sh.reads I a hv;exact⟨_,.list ho hc hd (by simpa using ra)⟩
theorem sh.reads(I:Inv X pins σ H s):∀{xs:List V}{ds:List PyData},sh X.K H xs ds->∀{us:List aai},Vals xs us->∃as,ReadsAll s.heap us ds as
 |_,_,.nil,_,.nil=>⟨_,.nil⟩
 |_,_,.cons h a,_,.cons r t=>by
  obtain⟨as,ra⟩:=lr.reads I h r;obtain⟨bs,rb⟩:=sh.reads I a t;exact⟨_,.cons ra rb⟩
end
end
def vT(K:aaa)(neg:Bool):R2:=λx y H Q=>∃d e,lr K H x d/\lr K H y e/\abI d=true/\abI e=true/\Q (.bl (if neg then !PyData.eqv d e else abr d e)) H
section
variable{X:Cx}
theorem OM(hu:X.A.units+64<cLine):eZ X (abq .Eq) (vT X.K false):=by
 intro pins s σ H x y v u Q I rx ry h;obtain⟨d,e,h1,h2,s1,s2,q⟩:=h;obtain⟨as,ra⟩:=h1.reads I rx;obtain⟨bs,rb⟩:=h2.reads I ry;exact eq_dataH ra rb s1 s2 hu ⟨.bl (abr d e),H,I,rfl,q⟩
theorem ON(hu:X.A.units+64<cLine):eZ X (abq .NotEq) (vT X.K true):=by
 intro pins s σ H x y v u Q I rx ry h;obtain⟨d,e,h1,h2,s1,s2,q⟩:=h;obtain⟨as,ra⟩:=h1.reads I rx;obtain⟨bs,rb⟩:=h2.reads I ry;exact ne_dataH ra rb s1 s2 hu ⟨.bl (!PyData.eqv d e),H,I,rfl,q⟩
theorem Fu(hc:X.calm=true):eR X (.builtin "max") (λxs H Q=>∃i j k,xs=[.int i,.int j,.int k]/\Q (.int (if j > i then(if k > j then k else j)else(if k > i then k else i))) H):=by
 intro pins s σ H xs us Q I r h;obtain⟨i,j,k,rfl,q⟩:=h;cases r with
 |cons r1 r=>
  cases r with
  |cons r2 r=>
   cases r with
   |cons r3 r=>
    cases r;obtain⟨t1,e1⟩:=(show ∃t,_=aeO i t from r1);obtain⟨t2,e2⟩:=(show ∃t,_=aeO j t from r2);obtain⟨t3,e3⟩:=(show ∃t,_=aeO k t from r3);cases e1;cases e2;cases e3;refine max_three_ints (I.ok.hd hc) λh' tk hk=>?_
    by_cases h1:j > i<;>by_cases h2:k > j<;>by_cases h3:k > i<;>simp only[h1,h2,h3,if_true,if_false]at q |-<;>exact⟨.int _,H,I.kept hk,⟨_,rfl⟩,q⟩
def SH(i j k:Nat)(ta:TA):TS:=λD σ H=>ta σ H λvs H1=>∃u v w,vs=[u,v,w]/\D.nx (((σ.set i (ae u)).set j (ae v)).set k (ae w)) H1
theorem KI{i j k:Nat}{x y z:Str}{a b c:abl}{ta:TA}{px py pz pt pos:Pos}{kt k2 rV}(hc:X.calm=true)(hN:X.N.Nodup)(hi:X.N[i]? =ae x)(hj:X.N[j]? =ae y)(hk:X.N[k]? =ae z)(rW:i≠j)(si:i≠k)(BA:j≠k)
  (hx:X.env.scope.names.lookup x=ae .local)(hy:X.env.scope.names.lookup y=ae .local)(hz:X.env.scope.names.lookup z=ae .local)(ha:PA X [a,b,c] ta)
  (hw:aej [.Tuple [.Name x px,.Name y py,.Name z pz] kt pt] (.Tuple [a,b,c] k2 rV) X.env=pure (ae [x,y,z]))
  (hs:aei [.Tuple [.Name x px,.Name y py,.Name z pz] kt pt] (.Tuple [a,b,c] k2 rV) pos.line X.env=pure false:=by rfl):
  PS X (.Assign [.Tuple [.Name x px,.Name y py,.Name z pz] kt pt] (.Tuple [a,b,c] k2 rV) pos) (SH i j k ta):=by
 intro pins s σ H D I h;rw[exec_Assign_arm];refine Zu (aeh ?_);rw[hs];refine Zu (aad ?_);rw[if_neg (by decide)];refine Zu (Tuple_ (bN (ha _ pins s σ H _ I h) λus s1 bg=>?_));obtain⟨vs,H1,I1,r1,q1⟩:=bg;obtain⟨v1,v2,v3,e1,q1⟩:=q1;subst e1;obtain⟨u1,u2,u3,rfl,ra,rb,rc⟩:∃u1 u2 u3,us=[u1,u2,u3]/\RelV v1 u1/\RelV v2 u2/\RelV v3 u3:=by
  cases r1 with
  |cons p q=>
   cases q with
   |cons p' q'=>
    cases q' with
    |cons YR YS=>
     cases YS;exact⟨_,_,_,rfl,p,p',YR⟩
 refine aaH ?_ (by show 3<=sizeLine;decide);have I2:Inv X pins σ H1 { s1 with heap:=s1.heap.push { cls:=.type "tuple",data:=.seq [u1,u2,u3].toArray } }:=I1.kept (t':=s1.toks) λb o e=>aab _ e
 rw[hw];refine Zu (aad ?_);show aat (aaL X.prog X.w) X.A (do rule "assign.swapped-stores";let items <-ag7 (.ref s1.heap.objs.size) 3 af;ae8 [λv=>ae9 X.env z v,λv=>ae9 X.env y v,λv=>ae9 X.env x v] items.reverse;pure aif) _ _ _;refine Zu (acD (Zu (unpackItems_tuple (items:=#[u1,u2,u3]) (I.ok.hd hc) (aih s1.heap _) λh' gq=>?_)));have I3:=I2.kept (h':=h') (t':=s1.toks) λb o e=>gq b o (aaF (aan e)) e
 show aat _ _ (ae8 [λv=>ae9 X.env z v,λv=>ae9 X.env y v,λv=>ae9 X.env x v] [u3,u2,u1] >>= λ_=>pure aif) _ _ _;refine Zu (acZ (aeJ (je I3 hN hk (.inl hz) rc (λs2 I4=>?_) (.inr hz))));refine acZ (aeJ (je I4 hN hj (.inl hy) rb (λs3 I5=>?_) (.inr hy)));refine acZ (aeJ (je I5 hN hi (.inl hx) ra (λs4 I6=>afK (aad ?_)) (.inr hx)));have es:((σ.set k (ae v3)).set j (ae v2)).set i (ae v1)=((σ.set i (ae v1)).set j (ae v2)).set k (ae v3):=by
  rw[af1 (ae v2) (ae v1) (acu rW),af1 (ae v3) (ae v1) (acu si),af1 (ae v3) (ae v2) (acu BA)]
 rw[es]at I6;exact⟨_,H1,I6,q1⟩
end
section
variable{X:Cx}
theorem qT{h:Heap}{d:PyData}{e:aai->Bool}:∀{us:List aai}{ds:List PyData}{as:List Addr},ReadsAll h us ds as->(∀u d' BB,u∈us->d'∈ds->Reads h u d' BB->e u=abr d' d)->us.any e=ds.any λd'=>abr d' d
 |_,_,_,.nil,_=>rfl
 |_,_,_,.cons r t,h=>by
  rw[ac1,ac1,h _ _ _ aao aao r,qT t λu d' BB hu hd r'=>h u d' BB (aap _ hu) (aap _ hd) r']
theorem readsAll_mem{h:Heap}:∀{us:List aai}{ds:List PyData}{as:List Addr},ReadsAll h us ds as->∀u∈us,∃d'∈ds,∃BB,Reads h u d' BB
 |_,_,_,.nil,_,hu=>nomatch hu
 |_,_,_,.cons r t,u,hu=>by
  rcases aaj.mp hu with rfl|hu
  .exact⟨_,aao,_,r⟩
  .obtain⟨d',hd,BB,r'⟩:=readsAll_mem t u hu
   exact⟨d',aap _ hd,BB,r'⟩
open Classical in
noncomputable def tK(h:Heap)(d:PyData)(u:aai):Bool:=if e:∃d',abE d'=true/\∃as,Reads h u d' as then abr (ae3 e) d else false
theorem Dn{h:Heap}{d d':PyData}{u:aai}{as:List Addr}(c:abE d'=true)(r:Reads h u d' as):tK h d u=abr d' d:=by
 have e:∃d',abE d'=true/\∃as,Reads h u d' as:=⟨d',c,as,r⟩;unfold tK;rw[dif_pos e];obtain⟨c1,as1,r1⟩:=aeR e;rw[SeqAt.Reads.unique _ _ _ _ _ c1 r1 r]
end
end L2
namespace Qm
open PySem
noncomputable section
inductive D where
 |aX|bl(b:Bool)|int(i:Int)|str(x:Str)|tup(xs:List D)|ref(n:Nat)|ty(n:String)|adr(a:Nat)
inductive Cell where
 |lst(xs:List D)
 |ro(xs:List D)
 |Ij(ps:List (Str×D))
 |Ik(ps:List (Str×D))
 |uW(ps:List (List Int×D))
 |h_(ps:List (List (List Int)×D))
 |km(ps:List (List (List Int)×D))
def Cell.mt:Cell->Bool
 |.ro _=>false
 |.Ik _=>false
 |.km _=>false
 |_=>true
abbrev Cells:=List Cell
abbrev Env:=List (Option D)
abbrev XE:=Env->Cells->Option (D×Cells)
abbrev XA:=Env->Cells->Option (List D×Cells)
abbrev XT:=Env->Cells->Option (Bool×Cells)
abbrev XO:=Env->Cells->Option (Option Int×Cells)
inductive Fl where
 |nx|rt(d:D)|bk|ct
abbrev XS:=Env->Cells->Option (Fl×Env×Cells)
abbrev XG:=D->Env->Cells->Option (Env×Cells)
abbrev wU:=List D->Env->Cells->Option (Env×Cells)
abbrev FN:=List D->Cells->Option (D×Cells)
structure Itm where
 ds:List D
 ks:List (Nat×Cell)
abbrev XI:=Env->Cells->Option (Itm×Cells)
abbrev G1:=D->Cells->Option (D×Cells)
abbrev G2:=D->D->Cells->Option (D×Cells)
def cC:Nat:=ae3 (⟨10000000,rfl⟩:∃n:Nat,n=10000000)
theorem dF:cC=10000000:=aeR (⟨10000000,rfl⟩:∃n:Nat,n=10000000)
def eC(d:D):XE:=λ_ c=>ae (d,c)
def eV(i:Nat):XE:=λσ c=>(σ[i]?.join).bind λd=>ae (d,c)
def e1(g:G1)(a:XE):XE:=λσ c=>(a σ c).bind λp=>g p.1 p.2
def e2(g:G2)(a b:XE):XE:=λσ c=>(a σ c).bind λp=>(b σ p.2).bind λq=>g p.1 q.1 q.2
def oJ(d:D):Option Bool:=match d with
 |.bl b=>ae b
 |_=>af
def oZ(a b:XE):XE:=λσ c=>(a σ c).bind λp=>(oJ p.1).bind λk=>if k=true then b σ p.2 else ae (.bl false,p.2)
def SI(a b:XE):XE:=λσ c=>(a σ c).bind λp=>(oJ p.1).bind λk=>if k=true then ae (.bl true,p.2)else b σ p.2
def GD(a:XE):XE:=λσ c=>(a σ c).bind λp=>(oJ p.1).bind λk=>ae (.bl (!k),p.2)
def zK(t:XT)(a b:XE):XE:=λσ c=>(t σ c).bind λp=>if p.1=true then a σ p.2 else b σ p.2
def ak:XA:=λ_ c=>ae ([],c)
def ag(a:XE)(r:XA):XA:=λσ c=>(a σ c).bind λp=>(r σ p.2).bind λq=>ae (p.1::q.1,q.2)
def cH(a:XA):XE:=λσ c=>(a σ c).bind λp=>if p.1.length<=cC then ae (.tup p.1,p.2)else af
def eI(a:XA):XE:=λσ c=>(a σ c).bind λp=>if p.1.length<=cC then ae (.ref p.2.length,p.2++[.lst p.1])else af
def au(F:FN)(ds:List D)(a:XA):XE:=λσ c=>(a σ c).bind λp=>F (p.1++ds) p.2
def eB(F:FN)(a:XA):XE:=λσ c=>(a σ c).bind λp=>F p.1 p.2
def jh:XO:=λ_ c=>ae (af,c)
def iR(a:XE):XO:=λσ c=>(a σ c).bind λp=>match p.1 with
 |.int i=>ae (ae i,p.2)
 |_=>af
def uX(g:D->Option Int->Option Int->Cells->Option (D×Cells))(a:XE)(lo hi:XO):XE:=λσ c=>(a σ c).bind λp=>(lo σ p.2).bind λl=>(hi σ l.2).bind λh=>g p.1 l.1 h.1 h.2
def nM(g h:G2)(a b d:XE):XE:=λσ c=>(a σ c).bind λp=>(b σ p.2).bind λq=>(g p.1 q.1 q.2).bind λz=>(oJ z.1).bind λk=>
 if k=true then(d σ z.2).bind λu=>h q.1 u.1 u.2 else ae (.bl false,z.2)
def tV(a:XE):XT:=λσ c=>(a σ c).bind λp=>(oJ p.1).bind λk=>ae (k,p.2)
def jT(a b:XT):XT:=λσ c=>(a σ c).bind λp=>if p.1=true then b σ p.2 else ae (false,p.2)
def gc(a b:XT):XT:=λσ c=>(a σ c).bind λp=>if p.1=true then ae (true,p.2)else b σ p.2
def eG(a:XT):XT:=λσ c=>(a σ c).bind λp=>ae (!p.1,p.2)
def aT:XS:=λσ c=>ae (.nx,σ,c)
def aw(a b:XS):XS:=λσ c=>(a σ c).bind λp=>match p.1 with
 |.nx=>b p.2.1 p.2.2
 |_=>ae p
def aB(i:Nat)(e:XE):XS:=λσ c=>(e σ c).bind λp=>ae (.nx,σ.set i (ae p.1),p.2)
def mI(e:XE)(g:XG):XS:=λσ c=>(e σ c).bind λp=>(g p.1 σ p.2).bind λq=>ae (.nx,q.1,q.2)
def oA(is:List Nat)(a:XA):XS:=λσ c=>(a σ c).bind λp=>if p.1.length=is.length then ae (.nx,(is.zip p.1).foldl (λσ q=>σ.set q.1 (ae q.2)) σ,p.2)else af
def bZ(t:XT)(a b:XS):XS:=λσ c=>(t σ c).bind λp=>if p.1=true then a σ p.2 else b σ p.2
def aK(e:XE):XS:=λσ c=>(e σ c).bind λp=>ae (.rt p.1,σ,p.2)
def d_(e:XE):XS:=λσ c=>(e σ c).bind λp=>ae (.nx,σ,p.2)
def ay(i:Nat):XG:=λd σ c=>ae (σ.set i (ae d),c)
def fP:wU:=λds σ c=>match ds with
 |[]=>ae (σ,c)
 |_=>af
def bA(g:XG)(r:wU):wU:=λds σ c=>match ds with
 |d::t=>(g d σ c).bind λp=>r t p.1 p.2
 |[]=>af
def gy(n:Nat)(g:wU):XG:=λd σ c=>match d with
 |.tup xs=>if xs.length=n then g xs σ c else af
 |_=>af
def stays(ks:List (Nat×Cell))(c:Cells):Prop:=∀p∈ks,c[p.1]? =ae p.2
open Classical in
def gf(ks:List (Nat×Cell))(g:XG)(body:XS):List D->XS
 |[],σ,c=>if stays ks c then ae (.nx,σ,c)else af
 |d::r,σ,c=>if stays ks c then(g d σ c).bind λp=>(body p.1 p.2).bind λq=>(match q.1 with
   |.nx=>gf ks g body r q.2.1 q.2.2
   |.ct=>gf ks g body r q.2.1 q.2.2
   |.bk=>ae (.nx,q.2.1,q.2.2)
   |.rt d=>ae (.rt d,q.2.1,q.2.2))else af
def cA(it:XI)(g:XG)(body:XS):XS:=λσ c=>(it σ c).bind λp=>gf p.1.ks g body p.1.ds σ p.2
def jA(t:XT)(b:XS):Nat->XS
 |0,_,_=>af
 |n+1,σ,c=>(t σ c).bind λp=>if p.1=true then(b σ p.2).bind λq=>(match q.1 with
   |.nx=>jA t b n q.2.1 q.2.2
   |.ct=>jA t b n q.2.1 q.2.2
   |.bk=>ae (.nx,q.2.1,q.2.2)
   |.rt d=>ae (.rt d,q.2.1,q.2.2))else ae (.nx,σ,p.2)
open Classical in
def eo(t:XT)(b:XS):XS:=λσ c=>if h:∃n r,jA t b n σ c=ae r then jA t b (ae3 h) σ c else af
def o6(σ:Env)(cap:List (Option Nat)):Env:=cap.map λo=>match o with
 |some i=>(match σ[i]? with|some v=>v|none=>af)
 |none=>af
open Classical in
def e7(L:Nat)(ks:List (Nat×Cell))(g:XG)(tt:XT)(te:XE):List D->Env->Cells->Option Cells
 |[],_,c=>if stays ks c then ae c else af
 |d::r,τ,c=>if stays ks c then(g d τ c).bind λp=>(tt p.1 p.2).bind λb=>if b.1=true then(te p.1 b.2).bind λy=>
   (match y.2[L]? with
    |some (.lst ys)=>if ys.length<cC then e7 L ks g tt te r p.1 (y.2.set L (.lst (ys++[y.1])))else af
    |_=>af)else e7 L ks g tt te r p.1 b.2 else af
def dh(it:XI)(cap:List (Option Nat))(g:XG)(tt:XT)(te:XE):XE:=λσ c=>(it σ c).bind λp=>
 (e7 p.2.length p.1.ks g tt te p.1.ds (o6 σ cap) (p.2++[.lst []])).bind λc'=>ae (.ref p.2.length,c')
def eX:XT:=λ_ c=>ae (true,c)
def dQ(n N:Nat)(b:XS):FN:=λds c=>if ds.length=n then(b (ds.map ae++ab7 (N - n) af) c).bind λp=>(match p.1 with
 |.rt d=>ae (d,p.2.2)
 |.nx=>ae (.aX,p.2.2)
 |_=>af)else af
def cq(d:D)(c:Cells):Option (List D):=match d with
 |.tup xs=>ae xs
 |.ref n=>(match c[n]? with
  |some (.lst xs)=>ae xs
  |some (.ro xs)=>ae xs
  |_=>af)
 |_=>af
def bp(d:D)(c:Cells):Option (Nat×List D):=match d with
 |.ref n=>(match c[n]? with
  |some (.lst xs)=>ae (n,xs)
  |_=>af)
 |_=>af
def tL(d:D):Option Int:=match d with
 |.int i=>ae i
 |_=>af
def ii(f:Int->Int->Option D):G2:=λx y c=>(tL x).bind λi=>(tL y).bind λj=>(f i j).bind λd=>ae (d,c)
def MulOk(i j:Int):Prop:=(My.Bd 90000 i/\My.Bd 90000 j)\/(My.Bd 64 i\/My.Bd 64 j)
open Classical in
def aH:G2:=ii λi j=>if MulOk i j then ae (.int (i*j))else af
def bG:G2:=ii λi j=>ae (.int (i - j))
open Classical in
def ed:G2:=ii λi j=>if j≠0/\My.Bd 8900 j then ae (.int (i.fdiv j))else af
def gY:G2:=ii λi j=>if j≠0 then ae (.int (i.fmod j))else af
def vU:G2:=ii λi j=>if 0<=j/\j<=100/\i.natAbs<1000 then ae (.int (i ^ j.toNat))else af
def sj:G2:=ii λi j=>ae (.bl (decide (i<j)))
def zL:G2:=ii λi j=>ae (.bl (decide (i<=j)))
def oK:G2:=ii λi j=>ae (.bl (decide (j<i)))
def Il:G2:=ii λi j=>ae (.bl (decide (j<=i)))
def bK:G2:=λx y c=>match x,y with
 |.int i,.int j=>ae (.int (i+j),c)
 |.tup xs,.tup ys=>if xs≠[]/\xs.length+ys.length<=cC then ae (.tup (xs++ys),c)else af
 |x,y=>(bp x c).bind λp=>(bp y c).bind λq=>if p.2.length+q.2.length<=cC then ae (.ref c.length,c++[.lst (p.2++q.2)])else af
def yc:G1:=λx c=>(tL x).bind λi=>ae (.int (-i),c)
def omap{α β:Type}(f:α->Option β):List α->Option (List β)
 |[]=>ae []
 |x::xs=>(f x).bind λd=>(omap f xs).bind λds=>ae (d::ds)
def data(c:Cells):Nat->D->Option PyData
 |0,_=>af
 |k+1,d=>match d with
  |.aX=>ae .none
  |.int i=>ae (.int i)
  |.str x=>if x.cps.all (·<1114112)=true then ae (.str x)else af
  |.tup xs=>(omap (data c k) xs).bind λds=>ae (.tuple ds)
  |.ref n=>(match c[n]? with
   |some (.lst xs)=>(omap (data c k) xs).bind λds=>ae (.list ds)
   |some (.ro xs)=>(omap (data c k) xs).bind λds=>ae (.list ds)
   |_=>af)
  |_=>af
open Classical in
def nN(x y:D)(c:Cells):Option Bool:=match x,y with
 |.bl a,.bl b=>ae (a==b)
 |x,y=>(data c 6 x).bind λd=>(data c 6 y).bind λe=>ae (decide (d=e))
def eJ:G2:=λx y c=>(nN x y c).bind λb=>ae (.bl b,c)
def iS:G2:=λx y c=>(nN x y c).bind λb=>ae (.bl (!b),c)
def abN:G2:=λx y c=>match y with
 |.aX=>ae (.bl (match x with|.aX=>true|_=>false),c)
 |_=>af
def fy:G2:=λx y c=>match y with
 |.aX=>ae (.bl (match x with|.aX=>false|_=>true),c)
 |_=>af
open Classical in
def Dp(x y:D)(c:Cells):Option Bool:=(cq y c).bind λxs=>(data c 5 x).bind λd=>(omap (data c 5) xs).bind λds=>ae (decide (d∈ds))
def o7:G2:=λx y c=>(Dp x y c).bind λb=>ae (.bl b,c)
def eK:G2:=λx y c=>(Dp x y c).bind λb=>ae (.bl (!b),c)
def tM(n:Nat)(i:Int):Option Nat:=if 0<=i then(if i<n then ae i.toNat else af)else if -(n:Int)<=i then ae (i+n).toNat else af
def gu{α:Type}(xs:List α)(i:Int):Option α:=(tM xs.length i).bind λj=>xs[j]?
def ar:G2:=λx y c=>(cq x c).bind λxs=>(tL y).bind λi=>(gu xs i).bind λd=>ae (d,c)
def Dq(n d:Nat):Option Int->Nat
 |none=>d
 |some v=>if v<0 then(v+n).toNat else min v.toNat n
def cutD{α:Type}(xs:List α)(lo hi:Option Int):List α:=(xs.drop (Dq xs.length 0 lo)).take (Dq xs.length xs.length hi - Dq xs.length 0 lo)
def ic(x:D)(lo hi:Option Int)(c:Cells):Option (D×Cells):=match x with
 |.tup xs=>ae (.tup (cutD xs lo hi),c)
 |x=>(cq x c).bind λxs=>ae (.ref c.length,c++[.lst (cutD xs lo hi)])
def GF(o i:XE):XG:=λd σ c=>(o σ c).bind λp=>(i σ p.2).bind λq=>(bp p.1 q.2).bind λl=>(tL q.1).bind λk=>(tM l.2.length k).bind λj=>ae (σ,q.2.set l.1 (.lst (l.2.set j d)))
def one(g:G1):FN:=λds c=>match ds with
 |[x]=>g x c
 |_=>af
def two(g:G2):FN:=λds c=>match ds with
 |[x,y]=>g x y c
 |_=>af
def tN:FN:=one λx c=>(tL x).bind λi=>ae (.int (if i<0 then -i else i),c)
def bu:FN:=one λx c=>(cq x c).bind λxs=>ae (.int xs.length,c)
def yd:FN:=one λx c=>match x with
 |.int i=>ae (.int i,c)
 |.bl k=>ae (.int (if k then 1 else 0),c)
 |_=>af
def ye:FN:=two (ii λi j=>ae (.int (if j > i then j else i)))
def yf:FN:=two (ii λi j=>ae (.int (if j<i then j else i)))
def yg:FN:=λds c=>match ds with
 |[.int i,.int j,.int k]=>ae (.int (if j > i then(if k > j then k else j)else(if k > i then k else i)),c)
 |_=>af
def nO:FN:=one λx c=>(cq x c).bind λxs=>ae (.ref c.length,c++[.lst xs])
def tO(n:String)(d:D)(c:Cells):Option Bool:=match d with
 |.int _=>if n= "int" then ae true else if n= "bool" then ae false else af
 |.bl _=>if n= "bool" then ae true else af
 |.tup _=>if n= "tuple" then ae true else af
 |.ref m=>(match c[m]? with
  |some (.lst _)=>if n= "list" then ae true else af
  |_=>af)
 |_=>af
def fT:FN:=two λx y c=>match y with
 |.ty n=>(tO n x c).bind λk=>ae (.bl k,c)
 |_=>af
def ko:FN:=one λx c=>(bp x c).bind λl=>(omap oJ l.2).bind λbs=>ae (.bl (bs.any id),c)
def gZ(xs ys:List D):List D:=(xs.zip ys).map λp=>.tup [p.1,p.2]
def Vd:FN:=λds c=>match ds with
 |[.tup xs,.tup ys]=>ae (.ref c.length,c++[.lst (gZ xs ys)])
 |_=>af
def eM(g:D->FN)(o:XE)(a:XA):XE:=λσ c=>(o σ c).bind λp=>(bp p.1 p.2).bind λ_=>(a σ p.2).bind λq=>g p.1 q.1 q.2
def dm(o:D):FN:=one λy c=>(bp o c).bind λl=>if l.2.length<cC then ae (.aX,c.set l.1 (.lst (l.2++[y])))else af
def fU(o:D):FN:=one λy c=>(bp o c).bind λl=>(bp y c).bind λz=>if l.2.length+z.2.length<=cC then ae (.aX,c.set l.1 (.lst (l.2++z.2)))else af
def kh(a:XE):XI:=λσ c=>(a σ c).bind λp=>match p.1 with
 |.tup xs=>ae (⟨xs,[]⟩,p.2)
 |_=>af
def iT(a:XE):XI:=λσ c=>(a σ c).bind λp=>match p.1 with
 |.ref n=>(p.2[n]?).bind λz=>(cq (.ref n) p.2).bind λxs=>ae (⟨xs,[(n,z)]⟩,p.2)
 |_=>af
def Ds(a:XA):XI:=λσ c=>(a σ c).bind λp=>match p.1 with
 |[.tup xs,.tup ys]=>ae (⟨gZ xs ys,[]⟩,p.2)
 |_=>af
def cN(lo:Int)(n:Nat):List D:=(adg n).map λ(i:Nat)=>.int (lo+i)
structure KJ(j:Int):Prop where
 lo: -(2 ^ 62)<=j
 hi:j<2 ^ 62
open Classical in
def bF(a:XA):XI:=λσ c=>(a σ c).bind λp=>match p.1 with
 |[.int j]=>if KJ j then ae (⟨cN 0 j.toNat,[]⟩,p.2)else af
 |_=>af
open Classical in
def ki(a:XA):XI:=λσ c=>(a σ c).bind λp=>match p.1 with
 |[.int i,.int j]=>if KJ i/\KJ j then ae (⟨cN i (j - i).toNat,[]⟩,p.2)else af
 |_=>af
variable{b:XS}
theorem nP{t:XT}:∀{n k:Nat}{σ:Env}{c:Cells}{r},jA t b n σ c=ae r->jA t b (n+k) σ c=ae r
 |0,_,_,_,_,h=>by simp[jA]at h
 |n+1,k,σ,c,r,h=>by
  rw[show n+1+k=(n+k)+1 by omega];simp only[jA]at h |-
  cases ht:t σ c with
  |none=>rw[ht]at h;simp at h
  |some p=>
   rw[ht]at h;simp only[aag]at h |-
   split
   .rename_i hp
    rw[if_pos hp]at h;cases hb:b σ p.2 with
    |none=>rw[hb]at h;simp at h
    |some q=>
     rw[hb]at h;simp only[aag]at h |-
     obtain⟨f,σ',c'⟩:=q;cases f with
     |nx=>exact nP h
     |ct=>exact nP h
     |bk=>exact h
     |rt d=>exact h
   .rename_i hp
    rw[if_neg hp]at h;exact h
variable{σ:Env}{c:Cells}
theorem yh{t:XT}{n:Nat}{r}(h:jA t b n σ c=ae r):eo t b σ c=ae r:=by
 have hx:∃n r,jA t b n σ c=ae r:=⟨n,r,h⟩;unfold eo;rw[dif_pos hx];obtain⟨r',h'⟩:=aeR hx;have h1:=nP (k:=n) h';have h2:=nP (k:=ae3 hx) h;rw[Nat.add_comm]at h2;rw[h'];exact h1.symm.trans h2
theorem yi{t:XT}{r}(h:eo t b σ c=ae r):∃n,jA t b n σ c=ae r:=by
 unfold eo at h;split at h
 .exact⟨_,h⟩
 .cases h
theorem iU{t:XT}{c':Cells}(h:t σ c=ae (false,c')):eo t b σ c=ae (.nx,σ,c'):=
 yh (n:=1) (by simp[jA,h])
theorem nQ{t:XT}{σ':Env}{c' c2:Cells}{r}(h:t σ c=ae (true,c'))(hb:b σ c'=ae (.nx,σ',c2))(hr:eo t b σ' c2=ae r):eo t b σ c=ae r:=by
 obtain⟨n,hn⟩:=yi hr;exact yh (n:=n+1) (by simp[jA,h,hb,hn])
end
end Qm
namespace L2
open PySem PySem.Spec PyProof.Rows
theorem aF{α β:Type}{x:Option α}{f:α->Option β}{z:β}(h:x.bind f=ae z):∃a,x=ae a/\f a=ae z:=by
 cases x with
 |none=>cases h
 |some a=>exact⟨a,rfl,h⟩
theorem mJ{n:Nat}(h:n<=Qm.cC):n<=sizeLine:=aa7 h (by rw[Qm.dF,ag9];decide)
theorem tP{n:Nat}(h:n<Qm.cC):n<sizeLine:=aaB h (by rw[Qm.dF,ag9];decide)
mutual
inductive RD(K:aaa)(ρ:Nat->Addr)(N:Nat)(H:Hp):Qm.D->V->Prop
 |aX:RD K ρ N H .aX .aX
 |bl (b:Bool):RD K ρ N H (.bl b) (.bl b)
 |int (i:Int):RD K ρ N H (.int i) (.int i)
 |str (x:Str):RD K ρ N H (.str x) (.str x)
 |ty (n:String):RD K ρ N H (.ty n) (.ty n)
 |tup {p:Addr}{xs:List V}{ds:List Qm.D}:H p=ae (.tup xs)->RA K ρ N H ds xs->RD K ρ N H (.tup ds) (.ref p)
 |ref {n:Nat}:n<N->RD K ρ N H (.ref n) (.ref (ρ n))
 |adr (a:Nat):RD K ρ N H (.adr a) (.ref a)
inductive RA(K:aaa)(ρ:Nat->Addr)(N:Nat)(H:Hp):List Qm.D->List V->Prop
 |nil:RA K ρ N H [] []
 |cons {d:Qm.D}{ds:List Qm.D}{x:V}{xs:List V}:RD K ρ N H d x->RA K ρ N H ds xs->RA K ρ N H (d::ds) (x::xs)
end
structure Up(K:aaa)(ρ:Nat->Addr)(N:Nat)(H:Hp)(a_:Nat->Addr)(N':Nat)(H':Hp):Prop where
 agree:∀n,n<N->a_ n=ρ n
 len:N<=N'
 ts:∀p xs,H p=ae (.tup xs)->H' p=ae (.tup xs)
 fz:∀p o x,H p=ae (.gr o x)->H' p=ae (.gr o x)
section
variable{K:aaa}{ρ a_ Dt:Nat->Addr}{N N' We:Nat}{H H' KL:Hp}
theorem Up.refl:Up K ρ N H ρ N H:=⟨λ_ _=>rfl,aam _,λ_ _ h=>h,λ_ _ _ h=>h⟩
theorem Up.trans(a:Up K ρ N H a_ N' H')(b:Up K a_ N' H' Dt We KL):Up K ρ N H Dt We KL:=
 ⟨λn h=>(b.agree n (aaB h a.len)).trans (a.agree n h),aa7 a.len b.len,λp xs h=>b.ts p xs (a.ts p xs h),λp o x h=>b.fz p o x (a.fz p o x h)⟩
mutual
theorem RD.up(u:Up K ρ N H a_ N' H'):∀{d:Qm.D}{v:V},RD K ρ N H d v->RD K a_ N' H' d v
 |_,_,.aX=>.aX
 |_,_,.bl b=>.bl b
 |_,_,.int i=>.int i
 |_,_,.str x=>.str x
 |_,_,.ty n=>.ty n
 |_,_,.adr a=>.adr a
 |_,_,.tup h a=>.tup (u.ts _ _ h) (RA.up u a)
 |_,_,.ref (n:=n) h=>by rw[<-u.agree n h];exact .ref (aaB h u.len)
theorem RA.up(u:Up K ρ N H a_ N' H'):∀{ds:List Qm.D}{vs:List V},RA K ρ N H ds vs->RA K a_ N' H' ds vs
 |_,_,.nil=>.nil
 |_,_,.cons h a=>.cons (RD.up u h) (RA.up u a)
end
theorem RA.length:∀{ds:List Qm.D}{vs:List V},RA K ρ N H ds vs->ds.length=vs.length
 |_,_,.nil=>rfl
 |_,_,.cons _ a=>congrArg (·+1) (RA.length a)
theorem RA.append:∀{ds es:List Qm.D}{vs us:List V},RA K ρ N H ds vs->RA K ρ N H es us->RA K ρ N H (ds++es) (vs++us)
 |_,_,_,_,.nil,b=>b
 |_,_,_,_,.cons h a,b=>.cons h (RA.append a b)
theorem RA.get:∀{ds:List Qm.D}{vs:List V}{i:Nat}{d:Qm.D},RA K ρ N H ds vs->ds[i]? =ae d->∃v,vs[i]? =ae v/\RD K ρ N H d v
 |_,_,_,_,.nil,e=>by simp at e
 |_,_,0,_,.cons h _,e=>by simp at e;subst e;exact⟨_,rfl,h⟩
 |_,_,i+1,d,.cons _ a,e=>by
  obtain⟨v,h1,h2⟩:=RA.get (i:=i) (d:=d) a (by simpa using e);exact⟨v,by simpa using h1,h2⟩
theorem RA.take:∀{ds:List Qm.D}{vs:List V} (n:Nat),RA K ρ N H ds vs->RA K ρ N H (ds.take n) (vs.take n)
 |_,_,0,_=>.nil
 |_,_,_+1,.nil=>.nil
 |_,_,n+1,.cons h a=>.cons h (RA.take n a)
theorem RA.drop:∀{ds:List Qm.D}{vs:List V} (n:Nat),RA K ρ N H ds vs->RA K ρ N H (ds.drop n) (vs.drop n)
 |_,_,0,a=>a
 |_,_,_+1,.nil=>.nil
 |_,_,n+1,.cons _ a=>RA.drop n a
variable{d:Qm.D}{v:V}
theorem RA.set(r:RD K ρ N H d v):∀{ds:List Qm.D}{vs:List V} (n:Nat),RA K ρ N H ds vs->RA K ρ N H (ds.set n d) (vs.set n v)
 |_,_,_,.nil=>.nil
 |_,_,0,.cons _ a=>.cons r a
 |_,_,n+1,.cons h a=>.cons h (RA.set r n a)
theorem RA.one(h:RD K ρ N H d v):RA K ρ N H [d] [v]:=.cons h .nil
variable{vs:List V}
theorem RA.jB(h:RA K ρ N H [d] vs):∃v,vs=[v]/\RD K ρ N H d v:=by
 cases h with
 |cons r t=>cases t;exact⟨_,rfl,r⟩
theorem RA.kr{e:Qm.D}(h:RA K ρ N H [d,e] vs):∃v u,vs=[v,u]/\RD K ρ N H d v/\RD K ρ N H e u:=by
 cases h with
 |cons r t=>obtain⟨u,rfl,q⟩:=RA.jB t;exact⟨_,_,rfl,r,q⟩
theorem RA.Wf(h:RA K ρ N H [] vs):vs=[]:=by cases h;rfl
theorem RD.eL{i:Int}(h:RD K ρ N H (.int i) v):v= .int i:=by cases h;rfl
theorem RD.uY{b:Bool}(h:RD K ρ N H (.bl b) v):v= .bl b:=by cases h;rfl
theorem RD.Q3(h:RD K ρ N H .aX v):v= .aX:=by cases h;rfl
theorem RD.g9{ds:List Qm.D}(h:RD K ρ N H (.tup ds) v):∃p xs,v= .ref p/\H p=ae (.tup xs)/\RA K ρ N H ds xs:=by cases h with|tup a b=>exact⟨_,_,rfl,a,b⟩
theorem RD.mK{n:Nat}(h:RD K ρ N H (.ref n) v):v= .ref (ρ n)/\n<N:=by cases h with|ref h=>exact⟨rfl,h⟩
end
def Aa(K:aaa)(H:Hp)(a:Addr)(xs:List V):Prop:=(∃o,H a=ae (.gr o (.lst xs)))\/b8 K (λ_=>af) a xs
variable{K:aaa}{H:Hp}
theorem Aa.seq{a:Addr}{xs:List V}(h:Aa K H a xs):b8 K H a xs:=by
 rcases h with⟨o,h⟩|h
 .exact .inl (.inr ⟨o,h⟩)
 .rcases h with(h|⟨o,h⟩)|h
  .cases h
  .cases h
  .exact .inr h
theorem Aa.of{a:Addr}{xs:List V}(hO:C9 H)(h:b8 K H a xs):Aa K H a xs:=by
 rcases h with(h|⟨o,h⟩)|h
 .rcases hO a with z|⟨o,ys,z⟩
  .rw[z]at h;cases h
  .rw[z]at h;cases h
 .exact .inl ⟨o,h⟩
 .exact .inr (.inr h)
inductive RK(K:aaa)(ρ:Nat->Addr)(N:Nat)(H:Hp):List (Str×Qm.D)->List (Key×V)->Prop
 |nil:RK K ρ N H [] []
 |cons {k:Str}{d:Qm.D}{ds:List (Str×Qm.D)}{x:V}{xs:List (Key×V)}:RD K ρ N H d x->RK K ρ N H ds xs->RK K ρ N H ((k,d)::ds) ((.inr k,x)::xs)
variable{ρ a_:Nat->Addr}{N':Nat}
theorem RK.up{N:Nat}{H':Hp}(u:Up K ρ N H a_ N' H'):∀{ds:List (Str×Qm.D)}{vs:List (Key×V)},RK K ρ N H ds vs->RK K a_ N' H' ds vs
 |_,_,.nil=>.nil
 |_,_,.cons h a=>.cons (h.up u) (RK.up u a)
inductive gK(K:aaa)(ρ:Nat->Addr)(N:Nat)(H:Hp):List (List Int×Qm.D)->List (List Key×V)->Prop
 |nil:gK K ρ N H [] []
 |cons {k:List Int}{d:Qm.D}{ds:List (List Int×Qm.D)}{x:V}{xs:List (List Key×V)}:RD K ρ N H d x->gK K ρ N H ds xs->gK K ρ N H ((k,d)::ds) ((k.map afg,x)::xs)
inductive eu(K:aaa)(ρ:Nat->Addr)(N:Nat)(H:Hp):List (List (List Int)×Qm.D)->List (List (List Key)×V)->Prop
 |nil:eu K ρ N H [] []
 |cons {k:List (List Int)}{d:Qm.D}{ds:List (List (List Int)×Qm.D)}{x:V}{xs:List (List (List Key)×V)}:RD K ρ N H d x->eu K ρ N H ds xs->eu K ρ N H ((k,d)::ds) ((k.map (aiY afg),x)::xs)
theorem gK.up{N:Nat}{H':Hp}(u:Up K ρ N H a_ N' H'):∀{ds:List (List Int×Qm.D)}{vs:List (List Key×V)},gK K ρ N H ds vs->gK K a_ N' H' ds vs
 |_,_,.nil=>.nil
 |_,_,.cons h a=>.cons (h.up u) (gK.up u a)
theorem eu.up{N:Nat}{H':Hp}(u:Up K ρ N H a_ N' H'):∀{ds:List (List (List Int)×Qm.D)}{vs:List (List (List Key)×V)},eu K ρ N H ds vs->eu K a_ N' H' ds vs
 |_,_,.nil=>.nil
 |_,_,.cons h a=>.cons (h.up u) (eu.up u a)
def CO(K:aaa)(ρ:Nat->Addr)(N:Nat)(H:Hp)(a:Addr):Qm.Cell->Prop
 |.lst ds=>∃vs,H a=ae (.lst vs)/\RA K ρ N H ds vs
 |.ro ds=>∃vs,Aa K H a vs/\RA K ρ N H ds vs
 |.Ij ds=>∃vs,H a=ae (.dK vs)/\RK K ρ N H ds vs
 |.Ik ds=>∃o vs,H a=ae (.gr o (.dK vs))/\RK K ρ N H ds vs
 |.uW ds=>∃vs,H a=ae (.dT vs)/\gK K ρ N H ds vs
 |.h_ ds=>∃vs,H a=ae (.dU vs)/\eu K ρ N H ds vs
 |.km ds=>∃o vs,H a=ae (.gr o (.dU vs))/\eu K ρ N H ds vs
structure RS(K:aaa)(ρ:Nat->Addr)(c:Qm.Cells)(H:Hp):Prop where
 inj:∀(i j:Nat) (z y:Qm.Cell),c[i]? =ae z->c[j]? =ae y->z.mt=true->y.mt=true->ρ i=ρ j->i=j
 ok:∀(n:Nat) (z:Qm.Cell),c[n]? =ae z->CO K ρ c.length H (ρ n) z
structure RE(K:aaa)(ρ:Nat->Addr)(N:Nat)(H:Hp)(env:Qm.Env)(σ:St):Prop where
 len:env.length=σ.length
 at_:∀(i:Nat) (d:Qm.D),env[i]? =ae (ae d)->∃v:V,σ[i]? =ae (ae v)/\RD K ρ N H d v
structure Nx(K:aaa)(ρ:Nat->Addr)(c:Qm.Cells)(H:Hp)(a_:Nat->Addr)(c':Qm.Cells)(H':Hp):Prop where
 up:Up K ρ c.length H a_ c'.length H'
 rs:RS K a_ c' H'
section
variable{K:aaa}{ρ a_ Dt:Nat->Addr}{N N':Nat}{c c' KN:Qm.Cells}{H H' KL:Hp}{env:Qm.Env}{σ:St}
theorem RE.up(h:RE K ρ N H env σ)(u:Up K ρ N H a_ N' H'):RE K a_ N' H' env σ:=⟨h.len,λi d e=>let ⟨v,h1,h2⟩:=h.at_ i d e;⟨v,h1,h2.up u⟩⟩
theorem Nx.refl(r:RS K ρ c H):Nx K ρ c H ρ c H:=⟨Up.refl,r⟩
theorem Nx.trans(a:Nx K ρ c H a_ c' H')(b:Nx K a_ c' H' Dt KN KL):Nx K ρ c H Dt KN KL:=⟨a.up.trans b.up,b.rs⟩
variable{z:Qm.Cell}
theorem CO.up{a:Addr}(h:CO K ρ N H a z)(u:Up K ρ N H a_ N' H')(hs:∀o,H a=ae o->H' a=ae o):CO K a_ N' H' a z:=by
 cases z with
 |lst ds=>obtain⟨vs,h1,h2⟩:=h;exact⟨vs,hs _ h1,h2.up u⟩
 |ro ds=>
  obtain⟨vs,h1,h2⟩:=h;refine⟨vs,?_,h2.up u⟩;rcases h1 with⟨o,h1⟩|h1
  .exact .inl ⟨o,hs _ h1⟩
  .exact .inr h1
 |Ij ds=>obtain⟨vs,h1,h2⟩:=h;exact⟨vs,hs _ h1,h2.up u⟩
 |Ik ds=>obtain⟨o,vs,h1,h2⟩:=h;exact⟨o,vs,hs _ h1,h2.up u⟩
 |uW ds=>obtain⟨vs,h1,h2⟩:=h;exact⟨vs,hs _ h1,h2.up u⟩
 |h_ ds=>obtain⟨vs,h1,h2⟩:=h;exact⟨vs,hs _ h1,h2.up u⟩
 |km ds=>obtain⟨o,vs,h1,h2⟩:=h;exact⟨o,vs,hs _ h1,h2.up u⟩
theorem CO.obj{a:Addr}(h:CO K ρ N H a z)(m:z.mt=true):∃o,H a=ae o/\(∀xs,o≠.tup xs)/\∀q x,o≠.gr q x:=by
 cases z with
 |lst ds=>obtain⟨vs,h1,_⟩:=h;exact⟨_,h1,(λ_ z=>by cases z),(λ_ _ z=>by cases z)⟩
 |ro ds=>cases m
 |Ik ds=>cases m
 |Ij ds=>obtain⟨vs,h1,_⟩:=h;exact⟨_,h1,(λ_ z=>by cases z),(λ_ _ z=>by cases z)⟩
 |uW ds=>obtain⟨vs,h1,_⟩:=h;exact⟨_,h1,(λ_ z=>by cases z),(λ_ _ z=>by cases z)⟩
 |h_ ds=>obtain⟨vs,h1,_⟩:=h;exact⟨_,h1,(λ_ z=>by cases z),(λ_ _ z=>by cases z)⟩
 |km ds=>cases m
variable{d:Qm.D}
theorem RE.set{v:V}{i:Nat}(h:RE K ρ N H env σ)(r:RD K ρ N H d v):RE K ρ N H (env.set i (ae d)) (σ.set i (ae v)):=by
 refine⟨by rw[acf,acf];exact h.len,λj e he=>?_⟩;rw[adm]at he |-
 have hl:=h.len
 by_cases rW:i=j
 .rw[if_pos rW]at he |-
  subst rW;split at he
  .rename_i gd
   rw[if_pos (by omega)];cases he;exact⟨v,rfl,r⟩
  .cases he
 .rw[if_neg rW]at he |-
  exact h.at_ j e he
theorem Nx.same(r:RS K ρ c H)(e:Gx H H'):Nx K ρ c H ρ c H':=by
 have u:Up K ρ c.length H ρ c.length H':=⟨λ_ _=>rfl,aam _,λp xs h=>e _ _ h,λp o x h=>e _ _ h⟩;exact⟨u,r.inj,λn z hz=>(r.ok n z hz).up u (λo h=>e _ _ h)⟩
theorem Nx.xi(r:RS K ρ c H){l:Addr}(hl:H l=af){o:HO}(hz:∀a_ N' H',Up K ρ c.length H a_ N' H'->H' l=ae o->CO K a_ N' H' l z):Nx K ρ c H (λn=>if n=c.length then l else ρ n) (c++[z]) (upd H l o)/\RD K (λn=>if n=c.length then l else ρ n) (c++[z]).length (upd H l o) (.ref c.length) (.ref l):=by
 have hlen:(c++[z]).length=c.length+1:=by simp
 have u:Up K ρ c.length H (λn=>if n=c.length then l else ρ n) (c++[z]).length (upd H l o):=by
  refine⟨λn h=>if_neg (by omega),by omega,λp xs h=>tG h hl,λp o x h=>tG h hl⟩
 refine⟨⟨u,λi j x y h1 h2 m1 m2 e=>?_,λn z' wV=>?_⟩,?_⟩
 .have lt1:i<c.length+1:=by rw[<-hlen];exact(aae.mp h1).1
  have lt2:j<c.length+1:=by rw[<-hlen];exact(aae.mp h2).1
  have fresh:∀k y,k<c.length->(c++[z])[k]? =ae y->y.mt=true->ρ k≠l:=λk y hk hz m e'=>by
   rw[aaM hk]at hz;obtain⟨o',h',_⟩:=(r.ok k _ hz).obj m;rw[e',hl]at h';cases h'
  by_cases hi:i=c.length<;>by_cases hj:j=c.length
  .omega
  .exfalso
   simp only[hi,if_true,if_neg hj]at e;exact fresh j y (by omega) h2 m2 e.symm
  .exfalso
   simp only[hj,if_true,if_neg hi]at e;exact fresh i x (by omega) h1 m1 e
  .simp only[if_neg hi,if_neg hj]at e
   rw[aaM (by omega)]at h1 h2;exact r.inj i j x y h1 h2 m1 m2 e
 .have lt:n<c.length+1:=by rw[<-hlen];exact(aae.mp wV).1
  by_cases hn:n=c.length
  .subst hn
   have:z'=z:=by simpa using wV.symm
   subst this;simp only[if_true];exact hz _ _ _ u dI
  .simp only[if_neg hn]
   rw[aaM (by omega)]at wV;exact(r.ok n z' wV).up u (λo h=>tG h hl)
 .have:=RD.ref (K:=K) (ρ:=λn=>if n=c.length then l else ρ n) (N:=(c++[z]).length) (H:=upd H l o) (n:=c.length) (by omega)
  simpa using this
variable{ds:List Qm.D}
theorem Nx.alloc(r:RS K ρ c H){l:Addr}(hl:H l=af){vs:List V}(a:RA K ρ c.length H ds vs):Nx K ρ c H (λn=>if n=c.length then l else ρ n) (c++[.lst ds]) (upd H l (.lst vs))/\RD K (λn=>if n=c.length then l else ρ n) (c++[Qm.Cell.lst ds]).length (upd H l (.lst vs)) (.ref c.length) (.ref l):=
 Nx.xi r hl λ_ _ _ u h=>⟨vs,h,a.up u⟩
variable{n:Nat}
theorem Nx.GG(r:RS K ρ c H){y:Qm.Cell}(hn:c[n]? =ae y)(my:y.mt=true){o:HO}(hz:∀N' H',Up K ρ c.length H ρ N' H'->H' (ρ n)=ae o->CO K ρ N' H' (ρ n) z):Nx K ρ c H ρ (c.set n z) (upd H (ρ n) o):=by
 obtain⟨w,hw,hk⟩:=(r.ok n _ hn).obj my;have gd:n<c.length:=(aae.mp hn).1;have KO:∀{p:Addr}{q:HO},H p=ae q->((∃ys,q= .tup ys)\/∃o x,q= .gr o x)->p≠ρ n:=λ{p q} h h1 e=>by
  rw[e,hw]at h;cases h;rcases h1 with⟨_,rfl⟩|⟨_,_,rfl⟩
  .exact hk.1 _ rfl
  .exact hk.2 _ _ rfl
 have u:Up K ρ c.length H ρ (c.set n z).length (upd H (ρ n) o):=by
  refine⟨λ_ _=>rfl,by rw[acf];exact aam _,λp ys h=>?_,λp q x h=>?_⟩
  .rw[aV (KO h (.inl ⟨_,rfl⟩))];exact h
  .rw[aV (KO h (.inr ⟨_,_,rfl⟩))];exact h
 have look:∀{j:Nat}{x:Qm.Cell},j≠n->(c.set n z)[j]? =ae x->c[j]? =ae x:=λ{j x} hj hx=>by
  rw[adm,if_neg (λe=>hj e.symm)]at hx;exact hx
 have back:∀{j:Nat}{x:Qm.Cell},(c.set n z)[j]? =ae x->x.mt=true->∃x',c[j]? =ae x'/\x'.mt=true:=λ{j x} hx m=>by
  by_cases hj:j=n
  .subst hj;exact⟨y,hn,my⟩
  .exact⟨x,look hj hx,m⟩
 refine⟨u,λi j p q h1 h2 m1 m2 e=>?_,λj x hx=>?_⟩
 .obtain⟨_,g1,w1⟩:=back h1 m1
  obtain⟨_,g2,w2⟩:=back h2 m2;exact r.inj i j _ _ g1 g2 w1 w2 e
 .by_cases hj:j=n
  .subst hj
   have:x=z:=by
    rw[adm,if_pos rfl,if_pos gd]at hx;cases hx;rfl
   subst this;exact hz _ _ u dI
  .have gq:=look hj hx
   by_cases hm:x.mt=true
   .have hp:ρ j≠ρ n:=λe=>hj (r.inj j n _ _ gq hn hm my e)
    exact(r.ok j _ gq).up u (λys h=>by rw[aV hp];exact h)
   .cases x with
    |lst zs=>exact absurd rfl hm
    |Ij zs=>exact absurd rfl hm
    |uW zs=>exact absurd rfl hm
    |h_ zs=>exact absurd rfl hm
    |Ik zs=>
     obtain⟨o',BC,h1,h2⟩:=r.ok j _ gq;exact⟨o',BC,by rw[aV (KO h1 (.inr ⟨_,_,rfl⟩))];exact h1,h2.up u⟩
    |km zs=>
     obtain⟨o',BC,h1,h2⟩:=r.ok j _ gq;exact⟨o',BC,by rw[aV (KO h1 (.inr ⟨_,_,rfl⟩))];exact h1,h2.up u⟩
    |ro zs=>
     obtain⟨BC,h1,h2⟩:=r.ok j _ gq;refine⟨BC,?_,h2.up u⟩;rcases h1 with⟨o,h1⟩|h1
     .exact .inl ⟨o,by rw[aV (KO h1 (.inr ⟨_,_,rfl⟩))];exact h1⟩
     .exact .inr h1
theorem Nx.put(r:RS K ρ c H){xs:List Qm.D}(hn:c[n]? =ae (.lst xs)){vs:List V}(a:RA K ρ c.length H ds vs):Nx K ρ c H ρ (c.set n (.lst ds)) (upd H (ρ n) (.lst vs)):=
 Nx.GG r hn rfl λ_ _ u h=>⟨vs,h,a.up u⟩
theorem RS.lst(r:RS K ρ c H)(h:c[n]? =ae (.lst ds)):∃vs,H (ρ n)=ae (.lst vs)/\RA K ρ c.length H ds vs:=r.ok n _ h
theorem RS.seq(r:RS K ρ c H){v:V}(h:RD K ρ c.length H d v)(e:Qm.cq d c=ae ds):∃p vs,v= .ref p/\(b8 K H p vs\/H p=ae (.tup vs))/\RA K ρ c.length H ds vs:=by
 unfold Qm.cq at e;split at e
 .cases e
  obtain⟨p,xs,rfl,h1,h2⟩:=h.g9;exact⟨p,xs,rfl,.inr h1,h2⟩
 .rename_i n
  obtain⟨rfl,hn⟩:=h.mK;split at e
  .rename_i xs hx
   cases e;obtain⟨vs,h1,h2⟩:=r.lst hx;exact⟨_,vs,rfl,.inl (b8.of h1),h2⟩
  .rename_i xs hx
   cases e;obtain⟨vs,h1,h2⟩:=r.ok n _ hx;exact⟨_,vs,rfl,.inl h1.seq,h2⟩
  .cases e
 .cases e
theorem BD{c:Qm.Cells}(e:Qm.cq d c=ae ds):d= .tup ds\/∃n,d= .ref n:=by
 unfold Qm.cq at e;split at e
 .cases e;exact .inl rfl
 .exact .inr ⟨_,rfl⟩
 .cases e
theorem RS.Du(r:RS K ρ c H){v:V}(h:RD K ρ c.length H (.ref n) v)(e:Qm.cq (.ref n) c=ae ds):∃vs,v= .ref (ρ n)/\b8 K H (ρ n) vs/\RA K ρ c.length H ds vs:=by
 obtain⟨rfl,hn⟩:=h.mK;unfold Qm.cq at e;dsimp only at e;split at e
 .rename_i xs hx
  cases e;obtain⟨vs,h1,h2⟩:=r.lst hx;exact⟨vs,rfl,b8.of h1,h2⟩
 .rename_i xs hx
  cases e;obtain⟨vs,h1,h2⟩:=r.ok n _ hx;exact⟨vs,rfl,h1.seq,h2⟩
 .cases e
theorem RS.bp(r:RS K ρ c H){v:V}(h:RD K ρ c.length H d v)(e:Qm.bp d c=ae (n,ds)):d= .ref n/\c[n]? =ae (.lst ds)/\∃vs,v= .ref (ρ n)/\H (ρ n)=ae (.lst vs)/\RA K ρ c.length H ds vs:=by
 unfold Qm.bp at e;split at e
 .obtain⟨rfl,hn⟩:=h.mK
  split at e
  .rename_i xs hx
   cases e;obtain⟨vs,h1,h2⟩:=r.lst hx;exact⟨rfl,hx,vs,rfl,h1,h2⟩
  .cases e
 .cases e
end
def TQ(K:aaa)(f:Qm.XE):TE:=λσ H Q=>∃ρ env c d c',RS K ρ c H/\RE K ρ c.length H env σ/\f env c=ae (d,c')/\∀a_ v H',Nx K ρ c H a_ c' H'->RD K a_ c'.length H' d v->Q v H'
def AQ(K:aaa)(f:Qm.XA):TA:=λσ H Q=>∃ρ env c ds c',RS K ρ c H/\RE K ρ c.length H env σ/\f env c=ae (ds,c')/\∀a_ vs H',Nx K ρ c H a_ c' H'->RA K a_ c'.length H' ds vs->Q vs H'
def BQ(K:aaa)(f:Qm.XT):TT:=λσ H Q=>∃ρ env c b c',RS K ρ c H/\RE K ρ c.length H env σ/\f env c=ae (b,c')/\∀a_ H',Nx K ρ c H a_ c' H'->Q b H'
def OQ(K:aaa)(f:Qm.XO):TO:=λσ H Q=>∃ρ env c o c',RS K ρ c H/\RE K ρ c.length H env σ/\f env c=ae (o,c')/\∀a_ H',Nx K ρ c H a_ c' H'->Q o H'
def Wg(K:aaa)(ρ:Nat->Addr)(c:Qm.Cells)(H:Hp)(env:Qm.Env)(D:Ends):Qm.Fl->Prop
 |.nx=>∀σ,RE K ρ c.length H env σ->D.nx σ H
 |.bk=>∀σ,RE K ρ c.length H env σ->D.bk σ H
 |.ct=>∀σ,RE K ρ c.length H env σ->D.ct σ H
 |.rt d=>∀v,RD K ρ c.length H d v->D.rt v H
def SQ(K:aaa)(f:Qm.XS):TS:=λD σ H=>∃ρ env c fl cM c',RS K ρ c H/\RE K ρ c.length H env σ/\f env c=ae (fl,cM,c')/\∀a_ H',Nx K ρ c H a_ c' H'->Wg K a_ c' H' cM D fl
def GQ(K:aaa)(g:Qm.XG):TG:=λv σ H Q=>∃ρ env c d cM c',RS K ρ c H/\RE K ρ c.length H env σ/\RD K ρ c.length H d v/\g d env c=ae (cM,c')/\∀a_ H' σ',Nx K ρ c H a_ c' H'->RE K a_ c'.length H' cM σ'->Q σ' H'
def YT(K:aaa)(g:Qm.wU):xK:=λvs σ H Q=>∃ρ env c ds cM c',RS K ρ c H/\RE K ρ c.length H env σ/\RA K ρ c.length H ds vs/\g ds env c=ae (cM,c')/\∀a_ H' σ',Nx K ρ c H a_ c' H'->RE K a_ c'.length H' cM σ'->Q σ' H'
def KP(K:aaa)(Fv:Nat->Addr)(N0:Nat)(H0:Hp)(m:Qm.Itm)(J:It):Prop:=∀ρ c H,Up K Fv N0 H0 ρ c.length H->RS K ρ c H->Qm.stays m.ks c->
 (∀i,i<m.ds.length->J.go i H)/\J.stop m.ds.length H/\∀i d x H',m.ds[i]? =ae d->J.HM i H x H'->Nx K ρ c H ρ c H'/\RD K ρ c.length H' d x
def IQ(K:aaa)(f:Qm.XI):TI:=λσ H R=>∃ρ env c m c',RS K ρ c H/\RE K ρ c.length H env σ/\f env c=ae (m,c')/\∀a_ J H',Nx K ρ c H a_ c' H'->KP K a_ c'.length H' m J->R J H'
abbrev QE(X:Cx)(e:abl)(f:Qm.XE):Prop:=PE X e (TQ X.K f)
abbrev QA(X:Cx)(es:List abl)(f:Qm.XA):Prop:=PA X es (AQ X.K f)
abbrev QT(X:Cx)(e:abl)(f:Qm.XT):Prop:=PT X e (BQ X.K f)
abbrev QW(X:Cx)(e:abl)(f:Qm.XT):Prop:=PW X e (BQ X.K f)
abbrev QO(X:Cx)(e:Option abl)(f:Qm.XO):Prop:=PO X e (OQ X.K f)
abbrev QS(X:Cx)(e:Stmt)(f:Qm.XS):Prop:=PS X e (SQ X.K f)
abbrev zM(X:Cx)(e:List Stmt)(f:Qm.XS):Prop:=oH X e (SQ X.K f)
abbrev QG(X:Cx)(e:abl)(f:Qm.XG):Prop:=PG X e (GQ X.K f)
abbrev KQ(X:Cx)(e:List abl)(f:Qm.wU):Prop:=Bl X e (YT X.K f)
abbrev QI(X:Cx)(tg e:abl)(f:Qm.XI):Prop:=PI X tg e (IQ X.K f)
abbrev GH(X:Cx)(e:List abl)(f:Qm.XT):Prop:=tJ X e (BQ X.K f)
section
variable{X:Cx}
variable{e:abl}
theorem PE.imp{t t':TE}(h:PE X e t)(k:∀σ H Q,t' σ H Q->t σ H Q):PE X e t':=λpins s σ H Q I q=>h pins s σ H Q I (k σ H Q q)
theorem PT.imp{t t':TT}(h:PT X e t)(k:∀σ H Q,t' σ H Q->t σ H Q):PT X e t':=λpins s σ H Q I q=>h pins s σ H Q I (k σ H Q q)
theorem PW.imp{t t':TT}(h:PW X e t)(k:∀σ H Q,t' σ H Q->t σ H Q):PW X e t':=λwh pins s σ H Q I q=>h wh pins s σ H Q I (k σ H Q q)
theorem PA.imp{e:List abl}{t t':TA}(h:PA X e t)(k:∀σ H Q,t' σ H Q->t σ H Q):PA X e t':=λpos pins s σ H Q I q=>h pos pins s σ H Q I (k σ H Q q)
theorem PS.imp{e:Stmt}{t t':TS}(h:PS X e t)(k:∀D σ H,t' D σ H->t D σ H):PS X e t':=λpins s σ H D I q=>h pins s σ H D I (k D σ H q)
theorem oH.imp{e:List Stmt}{t t':TS}(h:oH X e t)(k:∀D σ H,t' D σ H->t D σ H):oH X e t':=λpins s σ H D I q=>h pins s σ H D I (k D σ H q)
theorem PO.imp{e:Option abl}{t t':TO}(h:PO X e t)(k:∀σ H Q,t' σ H Q->t σ H Q):PO X e t':=λpins s σ H Q I q=>h pins s σ H Q I (k σ H Q q)
theorem PG.imp{t t':TG}(h:PG X e t)(k:∀v σ H Q,t' v σ H Q->t v σ H Q):PG X e t':=λpins s σ H x v Q I r q=>h pins s σ H x v Q I r (k x σ H Q q)
theorem Bl.imp{e:List abl}{t t':xK}(h:Bl X e t)(k:∀v σ H Q,t' v σ H Q->t v σ H Q):Bl X e t':=λpins s σ H x v Q I r q=>h pins s σ H x v Q I r (k x σ H Q q)
theorem PI.imp{tg:abl}{t t':TI}(h:PI X tg e t)(k:∀σ H Q,t' σ H Q->t σ H Q):PI X tg e t':=λpins s σ H R I q=>h pins s σ H R I (k σ H R q)
theorem tJ.imp{e:List abl}{t t':TT}(h:tJ X e t)(k:∀σ H Q,t' σ H Q->t σ H Q):tJ X e t':=λpins s σ H Q I q=>h pins s σ H Q I (k σ H Q q)
end
end L2
namespace L2
open PySem PySem.Spec PyProof.Rows
section
variable{X:Cx}{a b e:abl}{es:List abl}{fa fb fc fe:Qm.XE}{ft fu:Qm.XT}{pos:Pos}
theorem OO(i:Nat)(h:PE X e (JE i)):QE X e (Qm.eV i):=h.imp <| by
 rintro σ H Q ⟨ρ,env,c,d,c',rs,re,e,k⟩;unfold Qm.eV at e;obtain⟨d',e1,e2⟩:=aF e;cases e2;have e3:env[i]? =ae (ae d):=by
  cases h:env[i]? with
  |none=>rw[h]at e1;cases e1
  |some o=>rw[h]at e1;rw[show o=ae d from e1]
 obtain⟨v,h1,h2⟩:=re.at_ i d e3;exact⟨v,h1,k ρ v H (Nx.refl rs) h2⟩
theorem tR{v:V}(d:Qm.D)(h:PE X e (tC v))(r:∀ρ N H,RD X.K ρ N H d v):QE X e (Qm.eC d):=h.imp <| by
 rintro σ H Q ⟨ρ,env,c,d',c',rs,re,e,k⟩;unfold Qm.eC at e;cases e;exact k ρ v H (Nx.refl rs) (r _ _ _)
theorem aj{i:Int}{j pos}:QE X (.Constant (.int i) j pos) (Qm.eC (.int i)):=tR _ NO λ_ _ _=>.int i
theorem gh{i:Bool}{j pos}:QE X (.Constant (.bool i) j pos) (Qm.eC (.bl i)):=tR _ RB λ_ _ _=>.bl i
theorem jX{j pos}:QE X (.Constant .none j pos) (Qm.eC .aX):=tR _ NP λ_ _ _=>.aX
variable{x:Str}
theorem nR{j pos}:QE X (.Constant (.str x) j pos) (Qm.eC (.str x)):=tR _ NQ λ_ _ _=>.str x
def ie(K:aaa)(r:R2)(g:Qm.G2):Prop:=∀ρ c H x y d c' v u Q,RS K ρ c H->RD K ρ c.length H x v->RD K ρ c.length H y u->g x y c=ae (d,c')->(∀a_ w H',Nx K ρ c H a_ c' H'->RD K a_ c'.length H' d w->Q w H')->r v u H Q
variable{K:aaa}{g:Qm.G2}{σ:St}{H:Hp}{Q:VK}
theorem BE{r:R2}(hl:ie K r g)(h:TQ K (Qm.e2 g fa fb) σ H Q):JR r (TQ K fa) (TQ K fb) σ H Q:=by
 obtain⟨ρ,env,c,d,c',rs,re,e,k⟩:=h;obtain⟨p,e1,e⟩:=aF e;obtain⟨q,e2,e3⟩:=aF e;exact⟨ρ,env,c,p.1,p.2,rs,re,e1,λaR v H1 n1 r1=>⟨aR,env,p.2,q.1,q.2,n1.rs,re.up n1.up,e2,λja u H2 n2 r2=>
  hl ja q.2 H2 p.1 q.1 d c' v u Q n2.rs (r1.up n2.up) r2 e3 λa_ w H' n3 r3=>k a_ w H' (n1.trans (n2.trans n3)) r3⟩⟩
theorem ax{op:Operator}{r:R2}(ho:eZ X (aek op) r)(hl:ie X.K r g)(ha:QE X a fa)(hb:QE X b fb):QE X (.BinOp a op b pos) (Qm.e2 g fa fb):=(RU ho ha hb).imp λ_ _ _ h=>BE hl h
theorem e_{op:air}{r:R2}(ho:eZ X (abq op) r)(hl:ie X.K r g)(ha:QE X a fa)(hb:QE X b fb)(hm:acY op b=false):QE X (.Compare a [op] [b] pos) (Qm.e2 g fa fb):=(JT ho ha hb hm).imp λ_ _ _ h=>BE hl h
theorem SJ{r:R2}(hr:zE X r)(hl:ie X.K r g)(ha:QE X a fa)(hb:QE X b fb)(hs:tu b):QE X (.Subscript a b pos) (Qm.e2 g fa fb):=(R9 hr ha hb hs).imp λ_ _ _ h=>BE hl h
theorem iV{d:Qm.D}{i:Int}(h:Qm.tL d=ae i):d= .int i:=by
 unfold Qm.tL at h;split at h
 .cases h;rfl
 .cases h
theorem qk{d:Qm.D}{i:Bool}(h:Qm.oJ d=ae i):d= .bl i:=by
 unfold Qm.oJ at h;split at h
 .cases h;rfl
 .cases h
theorem xj{C:Int->Int->Prop}{g:Int->Int->V}{f:Int->Int->Option Qm.D}(h:∀i j d,f i j=ae d->C i j/\∀ρ N H,RD K ρ N H d (g i j)):ie K (rI C g) (Qm.ii f):=by
 intro ρ c H x y d c' v u Q rs rx ry e k;obtain⟨i,e1,e⟩:=aF e;obtain⟨j,e2,e⟩:=aF e;obtain⟨d',e3,e⟩:=aF e;cases e;cases iV e1;cases iV e2;cases rx.eL;cases ry.eL;obtain⟨hc,hr⟩:=h i j d e3;exact⟨i,j,rfl,rfl,hc,k ρ _ H (Nx.refl rs) (hr _ _ _)⟩
theorem o8{g:Int->Int->V}{f:Int->Int->Option Qm.D}(h:∀i j d,f i j=ae d->∀ρ N H,RD K ρ N H d (g i j)):ie K (qJ g) (Qm.ii f):=by
 intro ρ c H x y d c' v u Q rs rx ry e k;obtain⟨i,e1,e⟩:=aF e;obtain⟨j,e2,e⟩:=aF e;obtain⟨d',e3,e⟩:=aF e;cases e;cases iV e1;cases iV e2;cases rx.eL;cases ry.eL;exact⟨i,j,rfl,rfl,k ρ _ H (Nx.refl rs) (h i j d e3 _ _ _)⟩
theorem bR:ie K (qJ λi j=>.int (i - j)) Qm.bG:=o8 λi j d e ρ N H=>by cases e;exact .int _
theorem aJ:ie K (rI IntMulOk λi j=>.int (i*j)) Qm.aH:=xj λi j d e=>by
 split at e
 .rename_i h
  cases e;refine⟨?_,λ_ _ _=>.int _⟩;have e64:(2:Nat) ^ 64=18446744073709551616:=by decide
  rcases h with h|h|h
  .exact My.Sz h.1 h.2 rfl
  .have:=h.lt
   exact My.OI (by omega) (by omega)
  .have:=h.lt
   exact My.OJ (by omega) (by omega)
 .cases e
theorem ig:ie K (rI Fq λi j=>.int (i.fdiv j)) Qm.ed:=xj λi j d e=>by
 split at e
 .rename_i h
  cases e;exact⟨VZ h.1 h.2 rfl,λ_ _ _=>.int _⟩
 .cases e
theorem jY:ie K (rI (λ_ j=>j≠0) λi j=>.int (i.fmod j)) Qm.gY:=xj λi j d e=>by
 split at e
 .rename_i h
  cases e;exact⟨h,λ_ _ _=>.int _⟩
 .cases e
theorem xk:ie K (rI QN λi j=>.int (i ^ j.toNat)) Qm.vU:=xj λi j d e=>by
 split at e
 .rename_i h
  cases e;exact⟨⟨h.1,by omega,by(have:=h.2.2;have:(2:Nat) ^ 64=18446744073709551616:=(by decide);omega)⟩,λ_ _ _=>.int _⟩
 .cases e
theorem ku:ie K (qJ λi j=>.bl (decide (i<j))) Qm.sj:=o8 λi j d e ρ N H=>by cases e;exact .bl _
theorem BF:ie K (qJ λi j=>.bl (decide (i<=j))) Qm.zL:=o8 λi j d e ρ N H=>by cases e;exact .bl _
theorem l9:ie K (qJ λi j=>.bl (decide (j<i))) Qm.oK:=o8 λi j d e ρ N H=>by cases e;exact .bl _
theorem SK:ie K (qJ λi j=>.bl (decide (j<=i))) Qm.Il:=o8 λi j d e ρ N H=>by cases e;exact .bl _
theorem cE:ie K (λx y H Q=>(qJ λi j=>.int (i+j)) x y H Q\/(Fi K x y H Q\/Ki x y H Q)) Qm.bK:=by
 intro ρ c H x y d c' v u Q rs rx ry e k;unfold Qm.bK at e;split at e
 .cases e
  cases rx.eL;cases ry.eL;exact .inl ⟨_,_,rfl,rfl,k ρ _ H (Nx.refl rs) (.int _)⟩
 .rename_i xs ys
  split at e
  .rename_i h
   cases e;obtain⟨p,vs,rfl,h1,a1⟩:=rx.g9;obtain⟨q,us,rfl,h2,a2⟩:=ry.g9;have l1:=a1.length;have l2:=a2.length;refine .inr (.inl ⟨p,q,vs,us,rfl,rfl,b_.of h1,b_.of h2,?_,mJ (by omega),λz=>?_,λ_ l hl=>?_⟩)
   .intro z;subst z
    have:xs=[]:=af4.mp (by simpa using l1);exact h.1 this
   .subst z
    have:ys=[]:=af4.mp (by simpa using l2);subst this;rw[aa5]at k;exact k ρ _ H (Nx.refl rs) (.tup h1 a1)
   .have n:=Nx.same rs (iG (z:=.tup (vs++us)) hl)
    exact k ρ _ _ n (.tup dI ((a1.append a2).up n.up))
  .cases e
 .obtain⟨p,e1,e⟩:=aF e
  obtain⟨q,e2,e⟩:=aF e;split at e
  .rename_i h
   cases e;obtain⟨_,hp,vs,rfl,h1,a1⟩:=rs.bp rx e1;obtain⟨_,hq,us,rfl,h2,a2⟩:=rs.bp ry e2;have l1:=a1.length;have l2:=a2.length;refine .inr (.inr ⟨_,_,vs,us,rfl,rfl,h1,h2,mJ (by omega),λl hl=>?_⟩);obtain⟨n,r⟩:=Nx.alloc rs hl (a1.append a2);exact k _ _ _ n r
  .cases e
theorem bT:eZ X (aek .Add) (λx y H Q=>(qJ λi j=>.int (i+j)) x y H Q\/(Fi X.K x y H Q\/Ki x y H Q)):=Od.or (Ke.or Oz)
theorem SM:ie K (VO K) Qm.ar:=by
 intro ρ c H x y d c' v u Q rs rx ry e k;obtain⟨xs,e1,e⟩:=aF e;obtain⟨i,e2,e⟩:=aF e;obtain⟨d',e3,e⟩:=aF e;cases e;cases iV e2;cases ry.eL;obtain⟨p,vs,rfl,h,a⟩:=rs.seq rx e1;obtain⟨j,hj,hx⟩:=aF (show(Qm.tM xs.length i).bind (λj=>xs[j]?)=ae d from e3);obtain⟨w,hw,wM⟩:=a.get hx;have Wi:HV vs i=ae w:=by
  show(oT vs.length i).bind (λj=>vs[j]?)=ae w;rw[<-a.length,show oT xs.length i=ae j from hj];exact hw
 rcases h with h|h
 .exact .inl ⟨p,vs,i,w,rfl,rfl,h,Wi,k ρ _ H (Nx.refl rs) wM⟩
 .exact .inr (.inl ⟨p,vs,i,w,rfl,rfl,b_.of h,Wi,k ρ _ H (Nx.refl rs) wM⟩)
theorem aI(ha:QE X a fa)(hb:QE X b fb)(hs:tu b):QE X (.Subscript a b pos) (Qm.e2 Qm.ar fa fb):=SJ Ov SM ha hb hs
theorem xl(ha:QE X a fa):QE X (.UnaryOp .USub a pos) (Qm.e1 Qm.yc fa):=(RV Oe ha).imp <| by
 rintro σ H Q ⟨ρ,env,c,d,c',rs,re,e,k⟩;obtain⟨p,e1,e⟩:=aF e;obtain⟨i,e2,e⟩:=aF e;cases e;refine⟨ρ,env,c,p.1,p.2,rs,re,e1,λaR v H1 n1 r1=>?_⟩;rw[iV e2]at r1;cases r1.eL;exact⟨i,rfl,k aR _ H1 n1 (.int _)⟩
theorem nS{op}(h:QE X a fa):QE X (.BoolOp op [a] pos) fa:=NW h
variable{rest:List abl}
theorem ql(ha:QE X a fa)(hb:QE X (.BoolOp .And (b::rest) pos) fb):QE X (.BoolOp .And (a::b::rest) pos) (Qm.oZ fa fb):=(NX ha hb).imp <| by
 rintro σ H Q ⟨ρ,env,c,d,c',rs,re,e,k⟩;obtain⟨p,e1,e⟩:=aF e;obtain⟨i,e2,e⟩:=aF e;refine⟨ρ,env,c,p.1,p.2,rs,re,e1,λaR v H1 n1 r1=>?_⟩;rw[qk e2]at r1;cases r1.uY;refine⟨i,rfl,?_⟩;split at e
 .rename_i hi
  rw[if_pos hi];exact⟨aR,env,p.2,d,c',n1.rs,re.up n1.up,e,λa_ w H' n r=>k a_ w H' (n1.trans n) r⟩
 .rename_i hi
  rw[if_neg hi];cases e;exact k aR _ H1 n1 (.bl _)
theorem SN(ha:QE X a fa)(hb:QE X (.BoolOp .Or (b::rest) pos) fb):QE X (.BoolOp .Or (a::b::rest) pos) (Qm.SI fa fb):=(RH ha hb).imp <| by
 rintro σ H Q ⟨ρ,env,c,d,c',rs,re,e,k⟩;obtain⟨p,e1,e⟩:=aF e;obtain⟨i,e2,e⟩:=aF e;refine⟨ρ,env,c,p.1,p.2,rs,re,e1,λaR v H1 n1 r1=>?_⟩;rw[qk e2]at r1;cases r1.uY;refine⟨i,rfl,?_⟩;split at e
 .rename_i hi
  rw[if_pos hi];cases e;exact k aR _ H1 n1 (.bl _)
 .rename_i hi
  rw[if_neg hi];exact⟨aR,env,p.2,d,c',n1.rs,re.up n1.up,e,λa_ w H' n r=>k a_ w H' (n1.trans n) r⟩
theorem GI(ha:QE X a fa):QE X (.UnaryOp .Not a pos) (Qm.GD fa):=(NY ha).imp <| by
 rintro σ H Q ⟨ρ,env,c,d,c',rs,re,e,k⟩;obtain⟨p,e1,e⟩:=aF e;obtain⟨i,e2,e⟩:=aF e;cases e;refine⟨ρ,env,c,p.1,p.2,rs,re,e1,λaR v H1 n1 r1=>?_⟩;rw[qk e2]at r1;cases r1.uY;exact⟨i,rfl,k aR _ H1 n1 (.bl _)⟩
theorem qm{c0:abl}(hc:QT X c0 ft)(ha:QE X a fa)(hb:QE X b fb):QE X (.IfExp c0 a b pos) (Qm.zK ft fa fb):=(HI hc ha hb).imp <| by
 rintro σ H Q ⟨ρ,env,c,d,c',rs,re,e,k⟩;obtain⟨p,e1,e⟩:=aF e;refine⟨ρ,env,c,p.1,p.2,rs,re,e1,λaR H1 n1=>?_⟩;split at e
 .rename_i hi
  rw[if_pos hi];exact⟨aR,env,p.2,d,c',n1.rs,re.up n1.up,e,λa_ w H' n r=>k a_ w H' (n1.trans n) r⟩
 .rename_i hi
  rw[if_neg hi];exact⟨aR,env,p.2,d,c',n1.rs,re.up n1.up,e,λa_ w H' n r=>k a_ w H' (n1.trans n) r⟩
theorem Im{r r':R2}{g':Qm.G2}(hl:ie K r g)(xF:ie K r' g')(h:TQ K (Qm.nM g g' fa fb fc) σ H Q):Gr r r' (TQ K fa) (TQ K fb) (TQ K fc) σ H Q:=by
 obtain⟨ρ,env,c,d,c',rs,re,e,k⟩:=h;obtain⟨p,e1,e⟩:=aF e;obtain⟨q,e2,e⟩:=aF e;obtain⟨z,e3,e⟩:=aF e;obtain⟨i,e4,e⟩:=aF e;refine⟨ρ,env,c,p.1,p.2,rs,re,e1,λaR v H1 n1 r1=>⟨aR,env,p.2,q.1,q.2,n1.rs,re.up n1.up,e2,λja u H2 n2 r2=>?_⟩⟩;refine hl ja q.2 H2 p.1 q.1 z.1 z.2 v u _ n2.rs (r1.up n2.up) r2 e3 λwW w H3 n3 r3=>?_
 rw[qk e4]at r3;cases r3.uY;refine⟨i,rfl,?_⟩;split at e
 .rename_i hi
  rw[if_pos hi];obtain⟨s,e5,e⟩:=aF e;refine⟨wW,env,z.2,s.1,s.2,n3.rs,re.up (n1.trans (n2.trans n3)).up,e5,λtS w4 H4 n4 r4=>?_⟩;exact xF tS s.2 H4 q.1 s.1 d c' u w4 Q n4.rs ((r2.up n3.up).up n4.up) r4 e λSO w5 H5 n5 r5=>k SO w5 H5 (n1.trans (n2.trans (n3.trans (n4.trans n5)))) r5
 .rename_i hi
  rw[if_neg hi];cases e;exact k wW _ H3 (n1.trans (n2.trans n3)) (.bl _)
theorem ao:QA X [] Qm.ak:=Oh.imp <| by
 rintro σ H Q ⟨ρ,env,c,ds,c',rs,re,e,k⟩;cases e;exact k ρ [] H (Nx.refl rs) .nil
theorem ai{fr:Qm.XA}(ha:QE X e fa)(hr:QA X es fr)(hs:aau (e::es) X.env=(false,adL e X.env)::aau es X.env:=by rfl):QA X (e::es) (Qm.ag fa fr):=(JY ha hr hs).imp <| by
 rintro σ H Q ⟨ρ,env,c,ds,c',rs,re,e,k⟩;obtain⟨p,e1,e⟩:=aF e;obtain⟨q,e2,e⟩:=aF e;cases e;exact⟨ρ,env,c,p.1,p.2,rs,re,e1,λaR v H1 n1 r1=>⟨aR,env,p.2,q.1,q.2,n1.rs,re.up n1.up,e2,λja vs H2 n2 r2=>k ja (v::vs) H2 (n1.trans n2) (.cons (r1.up n2.up) r2)⟩⟩
variable{f:Qm.XA}
theorem cR{x1}(h:QA X es f):QE X (.Tuple es x1 pos) (Qm.cH f):=(Oi h).imp <| by
 rintro σ H Q ⟨ρ,env,c,d,c',rs,re,e,k⟩;obtain⟨p,e1,e⟩:=aF e;split at e
 .rename_i hz
  cases e;refine⟨ρ,env,c,p.1,p.2,rs,re,e1,λaR vs H1 n1 r1=>⟨mJ (by rw[<-r1.length];exact hz),λl hl=>?_⟩⟩;have n:=Nx.same n1.rs (iG (z:=.tup vs) hl);exact k aR _ _ (n1.trans n) (.tup dI (r1.up n.up))
 .cases e
theorem ff(h:QA X es f):QE X (.List es pos) (Qm.eI f):=(Oj h).imp <| by
 rintro σ H Q ⟨ρ,env,c,d,c',rs,re,e,k⟩;obtain⟨p,e1,e⟩:=aF e;split at e
 .rename_i hz
  cases e;refine⟨ρ,env,c,p.1,p.2,rs,re,e1,λaR vs H1 n1 r1=>⟨mJ (by rw[<-r1.length];exact hz),λl hl=>?_⟩⟩;obtain⟨n,r⟩:=Nx.alloc n1.rs hl r1;exact k _ _ _ (n1.trans n) r
 .cases e
def dq(K:aaa)(F:Qm.FN):Sp:=λvs H Q _=>∃ρ c ds d c',RS K ρ c H/\RA K ρ c.length H ds vs/\F ds c=ae (d,c')/\∀a_ v H',Nx K ρ c H a_ c' H'->RD K a_ c'.length H' d v->Q v H'
variable{F:Qm.FN}
theorem KR{ds:List Qm.D}{tm:List V}{E:XK}(hd:∀ρ N H,RA K ρ N H ds tm)(h:TQ K (Qm.au F ds f) σ H Q):Fe (dq K F) tm E (AQ K f) σ H Q:=by
 obtain⟨ρ,env,c,d,c',rs,re,e,k⟩:=h;obtain⟨p,e1,e⟩:=aF e;exact⟨ρ,env,c,p.1,p.2,rs,re,e1,λaR vs H1 n1 r1=>⟨aR,p.2,p.1++ds,d,c',n1.rs,r1.append (hd _ _ _),e,λa_ v H' n r=>k a_ v H' (n1.trans n) r⟩⟩
theorem KS{k:Nat}{f:Addr}{fd:aaC}{ps:List Str}{tm:List V}{ds:List aai}{p:Pos}{fx:Qm.XA}(qs:List Qm.D)(G:bE X.prog X.w X.K X.mg X.base cU k f fd ps (dq X.K F))(hr:fq k X.A)(hg:Gl X x)(hm:X.mg x=ae (.ref f))(hk:abX X.K (.ref f)=true)(hb:Binds X.K fd ps ds)(hd:Vals tm ds)(hq:∀ρ N H,RA X.K ρ N H qs tm)
  (ha:QA X (e::es) fx)(rY:(x==("__debug__":Str))=false:=by decide)(he:aau (e::es) X.env=(false,adL e X.env)::aau es X.env:=by rfl)(fQ:(acy pos (aau es X.env)).any (·.1)=false:=by rfl):
  QE X (.Call (.Name x p) (e::es) [] pos) (Qm.au F qs fx):=(JZ (E:=E0) G hr hg hm hk hb hd Kn ha rY he fQ).imp λ_ _ _ h=>KR hq h
def mL(K:aaa)(r:List V->Hp->VK->Prop)(F:Qm.FN):Prop:=∀ρ c H ds d c' vs Q,RS K ρ c H->RA K ρ c.length H ds vs->F ds c=ae (d,c')->(∀a_ w H',Nx K ρ c H a_ c' H'->RD K a_ c'.length H' d w->Q w H')->r vs H Q
variable{r:List V->Hp->VK->Prop}
theorem KW(hl:mL K r F)(h:TQ K (Qm.eB F f) σ H Q):R6 r (AQ K f) σ H Q:=by
 obtain⟨ρ,env,c,d,c',rs,re,e,k⟩:=h;obtain⟨p,e1,e⟩:=aF e;exact⟨ρ,env,c,p.1,p.2,rs,re,e1,λaR vs H1 n1 r1=>hl aR p.2 H1 p.1 d c' vs Q n1.rs r1 e λa_ v H' n r=>k a_ v H' (n1.trans n) r⟩
theorem bL{id:String}{p:Pos}(hc:eR X (.builtin id) r)(hl:mL X.K r F)(hg:Gl X x)(hm:X.mg x=af)(hv:aa6 x=ae (.builtin id))(ha:QA X (e::es) f)(hn:x≠"__name__":=by decide)(rY:(x==("__debug__":Str))=false:=by decide)
  (he:aau (e::es) X.env=(false,adL e X.env)::aau es X.env:=by rfl)(fQ:(acy pos (aau es X.env)).any (·.1)=false:=by rfl):QE X (.Call (.Name x p) (e::es) [] pos) (Qm.eB F f):=(HQ hc hg hm hv ha hn rY he fQ).imp λ_ _ _ h=>KW hl h
theorem dN{id:String}{p:Pos}(hc:eR X (.type id) r)(hl:mL X.K r F)(hg:Gl X x)(hm:X.mg x=af)(hv:aa6 x=ae (.type id))(ha:QA X (e::es) f)(hn:x≠"__name__":=by decide)(rY:(x==("__debug__":Str))=false:=by decide)
  (he:aau (e::es) X.env=(false,adL e X.env)::aau es X.env:=by rfl)(fQ:(acy pos (aau es X.env)).any (·.1)=false:=by rfl):QE X (.Call (.Name x p) (e::es) [] pos) (Qm.eB F f):=(Fg hc hg hm hv ha hn rY he fQ).imp λ_ _ _ h=>KW hl h
end
end L2
namespace L2
open PySem PySem.Spec PyProof.Rows
section
variable{X:Cx}{a b e:abl}{es:List abl}{fa fb fc fe:Qm.XE}{ft fu:Qm.XT}{pos:Pos}
theorem KY{K:aaa}{t:TE}{f:Qm.XE}(ht:∀σ H Q,TQ K f σ H Q->t σ H Q){σ:St}{H:Hp}{Q:Bool->Hp->Prop}(h:BQ K (Qm.tV f) σ H Q):t σ H λx H1=>∃k,x= .bl k/\Q k H1:=by
 obtain⟨ρ,env,c,d,c',rs,re,e,k⟩:=h;obtain⟨p,e1,e⟩:=aF e;obtain⟨i,e2,e⟩:=aF e;cases e;refine ht σ H _ ⟨ρ,env,c,p.1,p.2,rs,re,e1,λaR v H1 n1 r1=>?_⟩;rw[qk e2]at r1;cases r1.uY;exact⟨_,rfl,k aR H1 n1⟩
theorem dJ(h:QE X e fe)(he:∀whole,aiM e X.env whole=(do let v <-whole;standAt e.pos;afi [v] (truthy v)):=by intro _;rfl):QT X e (Qm.tV fe):=(NR h he).imp λ_ _ _ q=>KY (λ_ _ _ z=>z) q
theorem nT{op:air}{r:R2}{g:Qm.G2}(ho:eZ X (abq op) r)(hl:ie X.K r g)(ha:QE X a fa)(hb:QE X b fb)(hm:acY op b=false):QT X (.Compare a [op] [b] pos) (Qm.tV (Qm.e2 g fa fb)):=(JV ho ha hb hm).imp λ_ _ _ q=>KY (λ_ _ _ z=>BE hl z) q
theorem Ab{op E9:air}{r r':R2}{g g':Qm.G2}{c0:abl}(ho:eZ X (abq op) r)(hl:ie X.K r g)(oO:eZ X (abq E9) r')(xF:ie X.K r' g')(ha:QE X a fa)(hb:QE X b fb)(hc:QE X c0 fc)
  (hm:lastMarks [op,E9] [b,c0]=false:=by with_unfolding_all rfl):QT X (.Compare a [op,E9] [b,c0] pos) (Qm.tV (Qm.nM g g' fa fb fc)):=(HN ho oO ha hb hc hm).imp λ_ _ _ q=>KY (λ_ _ _ z=>Im hl xF z) q
theorem mM(ha:QT X a ft):QW X (.BoolOp .And [a] pos) ft:=JG ha
theorem jZ(ha:QT X a ft):QW X (.BoolOp .Or [a] pos) ft:=NT ha
variable{rest:List abl}
theorem qo(ha:QT X a ft)(hb:QW X (.BoolOp .And (b::rest) pos) fu):QW X (.BoolOp .And (a::b::rest) pos) (Qm.jT ft fu):=(NU ha hb).imp <| by
 rintro σ H Q ⟨ρ,env,c,d,c',rs,re,e,k⟩;obtain⟨p,e1,e⟩:=aF e;refine⟨ρ,env,c,p.1,p.2,rs,re,e1,λaR H1 n1=>?_⟩;split at e
 .rename_i hi
  rw[if_pos hi];exact⟨aR,env,p.2,d,c',n1.rs,re.up n1.up,e,λa_ H' n=>k a_ H' (n1.trans n)⟩
 .rename_i hi
  rw[if_neg hi];cases e;exact k aR H1 n1
theorem hU(ha:QT X a ft)(hb:QW X (.BoolOp .Or (b::rest) pos) fu):QW X (.BoolOp .Or (a::b::rest) pos) (Qm.gc ft fu):=(RC ha hb).imp <| by
 rintro σ H Q ⟨ρ,env,c,d,c',rs,re,e,k⟩;obtain⟨p,e1,e⟩:=aF e;refine⟨ρ,env,c,p.1,p.2,rs,re,e1,λaR H1 n1=>?_⟩;split at e
 .rename_i hi
  rw[if_pos hi];cases e;exact k aR H1 n1
 .rename_i hi
  rw[if_neg hi];exact⟨aR,env,p.2,d,c',n1.rs,re.up n1.up,e,λa_ H' n=>k a_ H' (n1.trans n)⟩
theorem iB(ha:QT X a ft):QT X (.UnaryOp .Not a pos) (Qm.eG ft):=(NV ha).imp <| by
 rintro σ H Q ⟨ρ,env,c,d,c',rs,re,e,k⟩;obtain⟨p,e1,e⟩:=aF e;cases e;exact⟨ρ,env,c,p.1,p.2,rs,re,e1,λaR H1 n1=>k aR H1 n1⟩
theorem o9:QO X af Qm.jh:=Kc.imp <| by
 rintro σ H Q ⟨ρ,env,c,d,c',rs,re,e,k⟩;cases e;exact k ρ H (Nx.refl rs)
theorem o_(h:QE X e fe):QO X (ae e) (Qm.iR fe):=(Kd h).imp <| by
 rintro σ H Q ⟨ρ,env,c,d,c',rs,re,e,k⟩;obtain⟨p,e1,e⟩:=aF e;refine⟨ρ,env,c,p.1,p.2,rs,re,e1,λaR v H1 n1 r1=>?_⟩;split at e
 .rename_i i hi
  cases e;rw[hi]at r1;cases r1.eL;exact⟨_,rfl,k aR H1 n1⟩
 .cases e
theorem uZ{K:aaa}{ρ:Nat->Addr}{N:Nat}{H:Hp}{ds:List Qm.D}{vs:List V}(a:RA K ρ N H ds vs)(lo hi:Option Int):RA K ρ N H (Qm.cutD ds lo hi) (oS vs lo hi):=by
 have e:∀n d o,Qm.Dq n d o=HT.cL n d o:=λn d o=>by cases o<;>rfl
 unfold Qm.cutD oS;rw[e,e,a.length];exact(a.drop _).take _
end
section
variable{prog:aaD}{w:aa9}{A:aa4}{E:aai->aah->Prop}{s:aah}
theorem pf{t sl:Addr}{items:Array aai}{vl vu:aai}{lo hi:Option Int}{Q:aai->aah->Prop}(ht:aie s.heap t items)(hs:s.heap.IsSliceOf sl vl vu .none)(pl:ahs vl lo)(pu:ahs vu hi)
  (hw:HT.cL items.size 0 lo=0/\HT.cL items.size items.size hi=items.size)(h:Q (.ref t) s):aat (aaL prog w) A (agD (.ref t) (.ref sl)) Q E s:=by
 obtain⟨os,Fh,Oo,Ka⟩:=id hs;have R7:s.TypeIs (.ref sl) "slice":=⟨os,Fh,Oo⟩;unfold agD
 try with_reducible refine aaP ?_
 first|refine Zu (aad ?_)|skip
 refine Zu (wpAny_sequenceKey ht.typeIs (by decide) ?_);refine Zu (aaQ (name:=ab9 "__getitem__") ht.typeIs abg
  (aaO abg ht.typeIs ahb ?_ (aht _ _)))
 show aat _ _ (adZ (.ref t) >>= _) _ _ s;refine Zu (tupleItemsOf_ ht ?_);refine Zu (afx R7 ?_);rw[if_pos (by decide)];refine Zu (HT.lG hs pl pu ?_);have Wj:(((HT.cL items.size 0 lo:Nat):Int)==0&&(1:Int)==1&&(HT.cL items.size items.size hi - HT.cL items.size 0 lo)==items.size)=true:=by
  rw[hw.1,hw.2];simp
 show aat _ _ (if (((HT.cL items.size 0 lo:Nat):Int)==0&&(1:Int)==1&&(HT.cL items.size items.size hi - HT.cL items.size 0 lo)==items.size)=true then _ else _) _ _ s;rw[if_pos Wj];unfold Builtin.Tuple.tupleIsExact;refine Zu (Zu (afx ht.typeIs (aad ?_)));rw[if_pos (by decide)];refine Zu (acD ?_);exact aad ⟨_,rfl,aad h⟩
end
section
variable{X:Cx}{a b e:abl}{es:List abl}{fa fb fc fe:Qm.XE}{ft fu:Qm.XT}{pos p2:Pos}{lo hi:Option abl}{fl fh:Qm.XO}
def KZ(K:aaa):V->Option Int->Option Int->Hp->VK->Prop:=λx lo hi H Q=>∃a xs,x= .ref a/\b_ K H a xs/\(HT.cL xs.length 0 lo=0/\HT.cL xs.length xs.length hi=xs.length)/\Q (.ref a) H
theorem K0:Bo X (KZ X.K):=by
 intro pins s σ H x v vl vu lo hi sl Q I rx hs pl pu h;obtain⟨a,xs,rfl,hx,hw,q⟩:=h;cases rx;obtain⟨its,r,ht,hz⟩:=I.tuple hx;have hlen:its.toArray.size=xs.length:=by rw[aar];exact r.length.symm
 refine⟨"tuple",_,abg.lookup,ht.typeIs,?_⟩;exact pf ht hs pl pu (by rw[hlen];exact hw) ⟨.ref a,H,I,rfl,q⟩
def Q4(K:aaa):V->Option Int->Option Int->Hp->VK->Prop:=λx lo hi H Q=>QQ K x lo hi H Q\/(KZ K x lo hi H Q\/QX K x lo hi H Q)
theorem OP:Bo X (Q4 X.K):=Oq.or (K0.or Kg)
variable{K:aaa}{c:Qm.Cells}
theorem OR{ρ:Nat->Addr}{c':Qm.Cells}{H:Hp}{x d:Qm.D}{v:V}{lo hi:Option Int}{Q:VK}(rs:RS K ρ c H)(rx:RD K ρ c.length H x v)(e:Qm.ic x lo hi c=ae (d,c'))(k:∀a_ w H',Nx K ρ c H a_ c' H'->RD K a_ c'.length H' d w->Q w H'):Q4 K v lo hi H Q:=by
 unfold Qm.ic at e;split at e
 .rename_i xs
  cases e;obtain⟨p,vs,rfl,h1,a1⟩:=rx.g9
  by_cases hw:HT.cL vs.length 0 lo=0/\HT.cL vs.length vs.length hi=vs.length
  .refine .inr (.inl ⟨p,vs,rfl,b_.of h1,hw,?_⟩)
   have:oS vs lo hi=vs:=by
    unfold oS;rw[hw.1,hw.2];simp
   have a2:=uZ a1 lo hi;rw[this]at a2;exact k ρ _ H (Nx.refl rs) (.tup h1 a2)
  .refine .inl ⟨p,vs,rfl,b_.of h1,hw,λl hl=>?_⟩
   have n:=Nx.same rs (iG (z:=.tup (oS vs lo hi)) hl);exact k ρ _ _ n (.tup dI ((uZ a1 lo hi).up n.up))
 .rename_i x' fm
  obtain⟨xs,e1,e⟩:=aF e;cases e;rcases BD e1 with z|⟨n,z⟩
  .exact absurd z (fm xs)
  .subst z
   obtain⟨vs,rfl,h,a⟩:=rs.Du rx e1;refine .inr (.inr ⟨_,vs,rfl,h,λl hl=>?_⟩);obtain⟨n,r⟩:=Nx.alloc rs hl (uZ a lo hi);exact k _ _ _ n r
theorem mN(he:QE X e fe)(hl:QO X lo fl)(hu:QO X hi fh):QE X (.Subscript e (.Slice lo hi af p2) pos) (Qm.uX Qm.ic fe fl fh):=(HU OP he hl hu).imp <| by
 rintro σ H Q ⟨ρ,env,c,d,c',rs,re,e,k⟩;obtain⟨p,e1,e⟩:=aF e;obtain⟨l,e2,e⟩:=aF e;obtain⟨h,e3,e⟩:=aF e;exact⟨ρ,env,c,p.1,p.2,rs,re,e1,λaR v H1 n1 r1=>⟨aR,env,p.2,l.1,l.2,n1.rs,re.up n1.up,e2,λja H2 n2=>⟨ja,env,l.2,h.1,h.2,n2.rs,re.up (n1.trans n2).up,e3,λwW H3 n3=>
  OR n3.rs ((r1.up n2.up).up n3.up) e λa_ w H' n r=>k a_ w H' (n1.trans (n2.trans (n3.trans n))) r⟩⟩⟩
def OS(K:aaa)(r:V->List V->Hp->VK->Prop)(g:Qm.D->Qm.FN):Prop:=∀ρ c H x ds d c' v vs Q,RS K ρ c H->RD K ρ c.length H x v->RA K ρ c.length H ds vs->g x ds c=ae (d,c')->(∀a_ w H',Nx K ρ c H a_ c' H'->RD K a_ c'.length H' d w->Q w H')->r v vs H Q
theorem YU{ρ:Nat->Addr}{H:Hp}{x:Qm.D}{v:V}{z:Nat×List Qm.D}(rs:RS K ρ c H)(rx:RD K ρ c.length H x v)(e:Qm.bp x c=ae z):Sa K "list" v H:=by
 obtain⟨_,_,vs,rfl,h,_⟩:=rs.bp rx e;exact .inl ⟨rfl,_,b8.of h⟩
theorem tT{name:Str}{id:String}{r:V->List V->Hp->VK->Prop}{g:Qm.D->Qm.FN}{o:abl}{fo:Qm.XE}{f:Qm.XA}{apos cG:Pos}(slot:Slot "list" name id)(Se:typeOf (.builtin id)=pure (.type "method_descriptor"))(hm:Oy X id r)(hl:OS X.K r g)(ho:QE X o fo)(ha:QA X (e::es) f)
  (nI:aen o name X.env (adL o X.env)=adL o X.env:=by rfl)
  (tw:((acy cG (aau (e::es) X.env)).all (λx=>!x.1)&&(ahv cG (afk [] X.env)).all (λx=>x.1.isSome)
   &&decide ((e::es).length+([]:List aeZ).length+(if ([]:List aeZ).isEmpty then 0 else 1)<30))=true:=by rfl)
  (nJ:(apos.endLine==cG.line)=true:=by rfl)(hs:aau (e::es) X.env=(false,adL e X.env)::aau es X.env:=by rfl)(Bp:(acy cG (aau es X.env)).any (·.1)=false:=by rfl):
  QE X (.Call (.Attribute o name apos) (e::es) [] cG) (Qm.eM g fo f):=(Sb PySem.F.plainAttrs_list slot Se hm ho ha nI tw nJ hs Bp).imp <| by
 rintro σ H Q ⟨ρ,env,c,d,c',rs,re,e,k⟩;obtain⟨p,e1,e⟩:=aF e;obtain⟨z,e2,e⟩:=aF e;obtain⟨q,e3,e⟩:=aF e;exact⟨ρ,env,c,p.1,p.2,rs,re,e1,λaR v H1 n1 r1=>⟨YU n1.rs r1 e2,aR,env,p.2,q.1,q.2,n1.rs,re.up n1.up,e3,λja vs H2 n2 r2=>
  hl ja q.2 H2 p.1 q.1 d c' v vs Q n2.rs (r1.up n2.up) r2 e λa_ w H' n r=>k a_ w H' (n1.trans (n2.trans n)) r⟩⟩
theorem kx:OS K C7 Qm.dm:=by
 intro ρ c H x ds d c' v vs Q rs rx ra e k;unfold Qm.dm Qm.one at e;split at e
 .rename_i y
  obtain⟨l,e1,e⟩:=aF e;obtain⟨u,rfl,ry⟩:=ra.jB;split at e
  .rename_i hz
   cases e;obtain⟨_,hn,ws,rfl,h,a⟩:=rs.bp rx e1;have n:=Nx.put rs hn (a.append (RA.one ry));exact⟨_,ws,u,rfl,rfl,h,tP (by rw[<-a.length];exact hz),k ρ _ _ n .aX⟩
  .cases e
 .cases e
theorem yj:OS K C8 Qm.fU:=by
 intro ρ c H x ds d c' v vs Q rs rx ra e k;unfold Qm.fU Qm.one at e;split at e
 .rename_i y
  obtain⟨l,e1,e⟩:=aF e;obtain⟨z,e2,e⟩:=aF e;obtain⟨u,rfl,ry⟩:=ra.jB;split at e
  .rename_i hz
   cases e;obtain⟨_,hn,ws,rfl,h,a⟩:=rs.bp rx e1;obtain⟨_,VW,us,rfl,h2,a2⟩:=rs.bp ry e2;have n:=Nx.put rs hn (a.append a2);exact⟨_,_,ws,us,rfl,rfl,h,h2,mJ (by rw[<-a.length,<-a2.length];exact hz),k ρ _ _ n .aX⟩
  .cases e
 .cases e
theorem jk{g:Qm.G1}{ds:List Qm.D}{z}(h:Qm.one g ds c=ae z):∃x,ds=[x]/\g x c=ae z:=by
 unfold Qm.one at h;split at h
 .exact⟨_,rfl,h⟩
 .cases h
theorem BG{g:Qm.G2}{ds:List Qm.D}{z}(h:Qm.two g ds c=ae z):∃x y,ds=[x,y]/\g x y c=ae z:=by
 unfold Qm.two at h;split at h
 .exact⟨_,_,rfl,h⟩
 .cases h
theorem nU:mL K (λxs H Q=>∃i,xs=[.int i]/\Q (.int (if i<0 then -i else i)) H) Qm.tN:=by
 intro ρ c H ds d c' vs Q rs ra e k;obtain⟨x,rfl,e⟩:=jk e;obtain⟨v,rfl,rx⟩:=ra.jB;obtain⟨i,e1,e⟩:=aF e;cases e;cases iV e1;cases rx.eL;exact⟨i,rfl,k ρ _ H (Nx.refl rs) (.int _)⟩
theorem OT:mL K (λxs H Q=>∃p ys,xs=[.ref p]/\(b8 K H p ys\/b_ K H p ys)/\Q (.int ys.length) H) Qm.bu:=by
 intro ρ c H ds d c' vs Q rs ra e k;obtain⟨x,rfl,e⟩:=jk e;obtain⟨v,rfl,rx⟩:=ra.jB;obtain⟨xs,e1,e⟩:=aF e;cases e;obtain⟨p,ws,rfl,h,a⟩:=rs.seq rx e1;exact⟨p,ws,rfl,h.imp id b_.of,k ρ _ H (Nx.refl rs) (by rw[a.length];exact .int _)⟩
theorem yk:mL K (λxs H Q=>(∃i,xs=[.int i]/\Q (.int i) H)\/∃k,xs=[.bl k]/\Q (.int (if k then 1 else 0)) H) Qm.yd:=by
 intro ρ c H ds d c' vs Q rs ra e k;obtain⟨x,rfl,e'⟩:=jk e;obtain⟨v,rfl,rx⟩:=ra.jB;split at e'
 .cases e'
  cases rx.eL;exact .inl ⟨_,rfl,k ρ _ H (Nx.refl rs) (.int _)⟩
 .cases e'
  cases rx.uY;exact .inr ⟨_,rfl,k ρ _ H (Nx.refl rs) (.int _)⟩
 .cases e'
theorem K4{f:Int->Int->Option Qm.D}{x y d:Qm.D}{c':Qm.Cells}(h:Qm.ii f x y c=ae (d,c')):∃i j,x= .int i/\y= .int j/\f i j=ae d/\c'=c:=by
 obtain⟨i,e1,e⟩:=aF h;obtain⟨j,e2,e⟩:=aF e;obtain⟨z,e3,e⟩:=aF e;cases e;exact⟨i,j,iV e1,iV e2,e3,rfl⟩
theorem K5:mL K (λxs H Q=>∃i j,xs=[.int i,.int j]/\Q (.int (if j > i then j else i)) H) Qm.ye:=by
 intro ρ c H ds d c' vs Q rs ra e k;obtain⟨x,y,rfl,e⟩:=BG e;obtain⟨v,u,rfl,rx,ry⟩:=ra.kr;obtain⟨i,j,rfl,rfl,e,rfl⟩:=K4 e;cases e;cases rx.eL;cases ry.eL;exact⟨i,j,rfl,k ρ _ H (Nx.refl rs) (.int _)⟩
theorem K6:mL K (λxs H Q=>∃i j,xs=[.int i,.int j]/\Q (.int (if j<i then j else i)) H) Qm.yf:=by
 intro ρ c H ds d c' vs Q rs ra e k;obtain⟨x,y,rfl,e⟩:=BG e;obtain⟨v,u,rfl,rx,ry⟩:=ra.kr;obtain⟨i,j,rfl,rfl,e,rfl⟩:=K4 e;cases e;cases rx.eL;cases ry.eL;exact⟨i,j,rfl,k ρ _ H (Nx.refl rs) (.int _)⟩
theorem Dv:mL K (λxs H Q=>∃p ys,xs=[.ref p]/\(b8 K H p ys\/b_ K H p ys)/\∀l,H l=af->Q (.ref l) (upd H l (.lst ys))) Qm.nO:=by
 intro ρ c H ds d c' vs Q rs ra e k;obtain⟨x,rfl,e⟩:=jk e;obtain⟨v,rfl,rx⟩:=ra.jB;obtain⟨xs,e1,e⟩:=aF e;cases e;obtain⟨p,ws,rfl,h,a⟩:=rs.seq rx e1;refine⟨p,ws,rfl,h.imp id b_.of,λl hl=>?_⟩;obtain⟨n,r⟩:=Nx.alloc rs hl a;exact k _ _ _ n r
end
end L2
namespace L2
open PySem PySem.Spec PyProof.Rows
section
variable{X:Cx}{a b e tg:abl}{es:List abl}{fa fb fc fe:Qm.XE}{ft fu:Qm.XT}{pos:Pos}{st:Stmt}{rest:List Stmt}{fs fr:Qm.XS}{fg:Qm.XG}
theorem aO:zM X [] Qm.aT:=JH.imp <| by
 rintro D σ H ⟨ρ,env,c,fl,cM,c',rs,re,e,k⟩;cases e;exact k ρ H (Nx.refl rs) σ re
theorem aq(h1:QS X st fs)(h2:zM X rest fr):zM X (st::rest) (Qm.aw fs fr):=(HJ h1 h2).imp <| by
 rintro D σ H ⟨ρ,env,c,fl,cM,c',rs,re,e,k⟩;obtain⟨p,e1,e⟩:=aF e;obtain⟨f,e2,c2⟩:=p;cases f with
 |nx=>exact⟨ρ,env,c,.nx,e2,c2,rs,re,e1,λaR H1 n1 σ1 wX=>⟨aR,e2,c2,fl,cM,c',n1.rs,wX,e,λa_ H' n=>k a_ H' (n1.trans n)⟩⟩
 |rt d=>cases e;exact⟨ρ,env,c,.rt d,cM,c',rs,re,e1,λaR H1 n1=>k aR H1 n1⟩
 |bk=>cases e;exact⟨ρ,env,c,.bk,cM,c',rs,re,e1,λaR H1 n1=>k aR H1 n1⟩
 |ct=>cases e;exact⟨ρ,env,c,.ct,cM,c',rs,re,e1,λaR H1 n1=>k aR H1 n1⟩
theorem av(h1:QS X st fs):zM X [st] fs:=JI h1
theorem iW(he:QE X e fe)(hs:aeP e af pos.line X.env=pure false:=by rfl):QS X (.Expr e pos) (Qm.d_ fe):=(JJ he hs).imp <| by
 rintro D σ H ⟨ρ,env,c,fl,cM,c',rs,re,e,k⟩;obtain⟨p,e1,e⟩:=aF e;cases e;exact⟨ρ,env,c,p.1,p.2,rs,re,e1,λaR v H1 n1 _=>k aR H1 n1 σ (re.up n1.up)⟩
theorem aD(he:QE X e fe):QS X (.Return (ae e) pos) (Qm.aK fe):=(NZ he).imp <| by
 rintro D σ H ⟨ρ,env,c,fl,cM,c',rs,re,e,k⟩;obtain⟨p,e1,e⟩:=aF e;cases e;exact⟨ρ,env,c,p.1,p.2,rs,re,e1,λaR v H1 n1 r1=>k aR H1 n1 v r1⟩
variable{c0:abl}
theorem bD{x y:List Stmt}(hc:QT X c0 ft)(ha:zM X x fs)(hb:zM X y fr):QS X (.If c0 x y pos) (Qm.bZ ft fs fr):=(RL hc ha hb).imp <| by
 rintro D σ H ⟨ρ,env,c,fl,cM,c',rs,re,e,k⟩;obtain⟨p,e1,e⟩:=aF e;refine⟨ρ,env,c,p.1,p.2,rs,re,e1,λaR H1 n1=>?_⟩;split at e
 .rename_i hi
  rw[if_pos hi];exact⟨aR,env,p.2,fl,cM,c',n1.rs,re.up n1.up,e,λa_ H' n=>k a_ H' (n1.trans n)⟩
 .rename_i hi
  rw[if_neg hi];exact⟨aR,env,p.2,fl,cM,c',n1.rs,re.up n1.up,e,λa_ H' n=>k a_ H' (n1.trans n)⟩
variable{i:Nat}{x:Str}
theorem xm{pos':Pos}(hN:X.N.Nodup)(hi:X.N[i]? =ae x)(hx:Loc X.env.scope x)(he:QE X e fe)(hs:aeP e (ae (.Name x pos')) pos.line X.env=pure false:=by rfl)(hf:X.fn x=true\/X.env.scope.names.lookup x=ae .local:=by first|exact .inl rfl|exact .inr rfl|assumption):
  QS X (.Assign [.Name x pos'] e pos) (Qm.aB i fe):=(N7 hN hi hx he hs hf).imp <| by
 rintro D σ H ⟨ρ,env,c,fl,cM,c',rs,re,e,k⟩;obtain⟨p,e1,e⟩:=aF e;cases e;exact⟨ρ,env,c,p.1,p.2,rs,re,e1,λaR v H1 n1 r1=>k aR H1 n1 _ ((re.up n1.up).set r1)⟩
theorem qp(he:QE X e fe)(hg:QG X tg fg)(hs:aei [tg] e pos.line X.env=pure false:=by rfl)(hw:aej [tg] e X.env=pure af:=by rfl)
  (h1:(ab5 [tg] X.env).map (·.2)=[agA tg X.env]:=by rfl):QS X (.Assign [tg] e pos) (Qm.mI fe fg):=(N5 he hg hs hw h1).imp <| by
 rintro D σ H ⟨ρ,env,c,fl,cM,c',rs,re,e,k⟩;obtain⟨p,e1,e⟩:=aF e;obtain⟨q,e2,e⟩:=aF e;cases e;exact⟨ρ,env,c,p.1,p.2,rs,re,e1,λaR v H1 n1 r1=>⟨aR,env,p.2,p.1,q.1,q.2,n1.rs,re.up n1.up,r1,e2,λa_ H' σ' n SR=>k a_ H' (n1.trans n) σ' SR⟩⟩
variable{f:Qm.XA}{py:Pos}
theorem ym{j:Nat}{y:Str}{px pt:Pos}{kt k2 rV}(hc:X.calm=true)(hN:X.N.Nodup)(hi:X.N[i]? =ae x)(hj:X.N[j]? =ae y)(rW:i≠j)
  (hx:X.env.scope.names.lookup x=ae .local)(hy:X.env.scope.names.lookup y=ae .local)(ha:QA X [a,b] f)
  (hw:aej [.Tuple [.Name x px,.Name y py] kt pt] (.Tuple [a,b] k2 rV) X.env=pure (ae [x,y]))
  (hs:aei [.Tuple [.Name x px,.Name y py] kt pt] (.Tuple [a,b] k2 rV) pos.line X.env=pure false:=by rfl):
  QS X (.Assign [.Tuple [.Name x px,.Name y py] kt pt] (.Tuple [a,b] k2 rV) pos) (Qm.oA [i,j] f):=(N8 hc hN hi hj rW hx hy ha hw hs).imp <| by
 rintro D σ H ⟨ρ,env,c,fl,cM,c',rs,re,e,k⟩;obtain⟨p,e1,e⟩:=aF e;split at e
 .rename_i hl
  cases e;refine⟨ρ,env,c,p.1,p.2,rs,re,e1,λaR vs H1 n1 r1=>?_⟩;obtain⟨ds,c2⟩:=p
  match ds,hl,r1 with
  |[d1,d2],_,r1=>
   obtain⟨v,u,rfl,ra,rb⟩:=r1.kr;exact⟨v,u,rfl,k aR H1 n1 _ (((re.up n1.up).set ra).set rb)⟩
 .cases e
theorem Dw{j l:Nat}{y z:Str}{d0:abl}{px pz pt:Pos}{kt k2 rV}(hc:X.calm=true)(hN:X.N.Nodup)(hi:X.N[i]? =ae x)(hj:X.N[j]? =ae y)(hk:X.N[l]? =ae z)(rW:i≠j)(si:i≠l)(BA:j≠l)
  (hx:X.env.scope.names.lookup x=ae .local)(hy:X.env.scope.names.lookup y=ae .local)(hz:X.env.scope.names.lookup z=ae .local)(ha:QA X [a,b,d0] f)
  (hw:aej [.Tuple [.Name x px,.Name y py,.Name z pz] kt pt] (.Tuple [a,b,d0] k2 rV) X.env=pure (ae [x,y,z]))
  (hs:aei [.Tuple [.Name x px,.Name y py,.Name z pz] kt pt] (.Tuple [a,b,d0] k2 rV) pos.line X.env=pure false:=by rfl):
  QS X (.Assign [.Tuple [.Name x px,.Name y py,.Name z pz] kt pt] (.Tuple [a,b,d0] k2 rV) pos) (Qm.oA [i,j,l] f):=(KI hc hN hi hj hk rW si BA hx hy hz ha hw hs).imp <| by
 rintro D σ H ⟨ρ,env,c,fl,cM,c',rs,re,e,k⟩;obtain⟨p,e1,e⟩:=aF e;split at e
 .rename_i hl
  cases e;refine⟨ρ,env,c,p.1,p.2,rs,re,e1,λaR vs H1 n1 r1=>?_⟩;obtain⟨ds,c2⟩:=p
  match ds,hl,r1 with
  |[d1,d2,d3],_,.cons ra r2=>
   obtain⟨v,u,rfl,rb,rc⟩:=r2.kr;exact⟨_,v,u,rfl,k aR H1 n1 _ ((((re.up n1.up).set ra).set rb).set rc)⟩
 .cases e
theorem dR(hN:X.N.Nodup)(hi:X.N[i]? =ae x)(hx:Loc X.env.scope x)(hf:X.fn x=true\/X.env.scope.names.lookup x=ae .local:=by first|exact .inl rfl|exact .inr rfl|assumption):QG X (.Name x pos) (Qm.ay i):=(CS hN hi hx hf).imp <| by
 rintro v σ H Q ⟨ρ,env,c,d,cM,c',rs,re,rd,e,k⟩;cases e;exact k ρ H _ (Nx.refl rs) (re.set rd)
theorem ky:KQ X [] Qm.fP:=JL.imp <| by
 rintro vs σ H Q ⟨ρ,env,c,ds,cM,c',rs,re,ra,e,k⟩;unfold Qm.fP at e;split at e
 .cases e
  exact⟨ra.Wf,k ρ H σ (Nx.refl rs) re⟩
 .cases e
theorem cZ{Dx:Qm.wU}(h1:QG X e fg)(h2:KQ X es Dx)(hs:(ab5 (e::es) X.env).map (·.2)=agA e X.env::(ab5 es X.env).map (·.2):=by rfl):KQ X (e::es) (Qm.bA fg Dx):=(HK h1 h2 hs).imp <| by
 rintro vs σ H Q ⟨ρ,env,c,ds,cM,c',rs,re,ra,e,k⟩;unfold Qm.bA at e;split at e
 .rename_i d t
  obtain⟨p,e1,e⟩:=aF e;cases ra with
  |cons r1 r2=>
   exact⟨_,_,rfl,ρ,env,c,d,p.1,p.2,rs,re,r1,e1,λaR H1 σ1 n1 wX=>⟨aR,p.1,p.2,t,cM,c',n1.rs,wX,r2.up n1.up,e,λa_ H' σ' n SR=>k a_ H' σ' (n1.trans n) SR⟩⟩
 .cases e
variable{n:Nat}
theorem qr{k0:Nat}{Dx:Qm.wU}(hc:X.calm=true)(h:KQ X es Dx)(hn:(ab5 es X.env).length=n:=by rfl)(rT:(ab5 es X.env).findIdx? (·.1)=af:=by rfl):QG X (.Tuple es k0 pos) (Qm.gy n Dx):=(N3 hc h hn rT).imp <| by
 rintro v σ H Q ⟨ρ,env,c,d,cM,c',rs,re,rd,e,k⟩;unfold Qm.gy at e;split at e
 .rename_i xs
  split at e
  .rename_i hl
   obtain⟨p,vs,rfl,h1,a1⟩:=rd.g9;exact⟨p,vs,rfl,b_.of h1,by rw[<-a1.length];exact hl,ρ,env,c,xs,cM,c',rs,re,a1,e,k⟩
  .cases e
 .cases e
theorem OU{o i:abl}{fo fi:Qm.XE}(ho:QE X o fo)(hi:QE X i fi)
  (ha:∀v,agA (.Subscript o i pos) X.env v=(do
   let ov <-afi [v] (adL o X.env)
   let iv <-afi [v,ov] (adL i X.env)
   standAt pos
   afi [v,ov,iv] (setItem ov iv v)
   release [v,ov,iv] []):=by intro _;rfl):QG X (.Subscript o i pos) (Qm.GF fo fi):=(N4 ho hi set_list ha).imp <| by
 rintro v σ H Q ⟨ρ,env,c,d,cM,c',rs,re,rd,e,k⟩;obtain⟨p,e1,e⟩:=aF e;obtain⟨q,e2,e⟩:=aF e;obtain⟨l,e3,e⟩:=aF e;obtain⟨m,e4,e⟩:=aF e;obtain⟨j,e5,e⟩:=aF e;cases e;refine⟨ρ,env,c,p.1,p.2,rs,re,e1,λaR v1 H1 n1 r1=>⟨aR,env,p.2,q.1,q.2,n1.rs,re.up n1.up,e2,λja v2 H2 n2 r2=>?_⟩⟩;rw[iV e4]at r2;cases r2.eL;obtain⟨_,hn,ws,rfl,h,a⟩:=n2.rs.bp (r1.up n2.up) e3;have n:=Nx.put n2.rs hn (RA.set (rd.up (n1.trans n2).up) j a);refine⟨_,ws,m,j,rfl,rfl,h,by rw[<-a.length];exact e5,?_⟩;exact k ja _ σ (n1.trans (n2.trans n)) (re.up (n1.trans (n2.trans n)).up)
theorem BH(h:QE X e fe):QI X tg e (Qm.kh fe):=(Oa h).imp <| by
 rintro σ H R ⟨ρ,env,c,m,c',rs,re,e,k⟩;obtain⟨p,e1,e⟩:=aF e;refine⟨ρ,env,c,p.1,p.2,rs,re,e1,λaR v H1 n1 r1=>?_⟩;split at e
 .rename_i xs hx
  cases e;rw[hx]at r1;obtain⟨q,vs,rfl,h1,a1⟩:=r1.g9;refine⟨q,rfl,⟨vs,b_.of h1⟩,k aR _ H1 n1 λja c2 H2 u2 qK _=>?_⟩;have h2:=u2.ts _ _ h1;have a2:=a1.up u2;refine⟨λi hi=>⟨vs,vs[i]'(by rw[<-a1.length];exact hi),b_.of h2,aac _⟩,⟨vs,b_.of h2,by rw[a1.length];exact aam _⟩,λi d x H' hd hy=>?_⟩;obtain⟨rfl,hy⟩:=hy;obtain⟨v,hv,rv⟩:=a2.get hd;have:=hy vs (b_.of h2);rw[hv]at this;cases this;exact⟨Nx.refl qK,rv⟩
 .cases e
variable{K:aaa}{ρ:Nat->Addr}{H:Hp}
theorem qU{c:Qm.Cells}(rs:RS K ρ c H){z:Qm.Cell}{c0:Qm.Cells}{xs:List Qm.D}(h0:c0[n]? =ae z)(h1:Qm.cq (.ref n) c0=ae xs)(h:c[n]? =ae z):∃vs,b8 K H (ρ n) vs/\RA K ρ c.length H xs vs:=by
 have hn:n<c.length:=(aae.mp h).1;have e:Qm.cq (.ref n) c=ae xs:=by
  unfold Qm.cq at h1 |-
  dsimp only at h1 |-
  rw[h0]at h1;rw[h];exact h1
 obtain⟨vs,_,h2,h3⟩:=rs.Du (.ref hn) e;exact⟨vs,h2,h3⟩
theorem kA(h:QE X e fe):QI X tg e (Qm.iT fe):=(JP h).imp <| by
 rintro σ H R ⟨ρ,env,c,m,c',rs,re,e,k⟩;obtain⟨p,e1,e⟩:=aF e;refine⟨ρ,env,c,p.1,p.2,rs,re,e1,λaR v H1 n1 r1=>?_⟩;split at e
 .rename_i n hx
  obtain⟨z,e2,e⟩:=aF e;obtain⟨xs,e3,e⟩:=aF e;cases e;rw[hx]at r1;obtain⟨hv,hn⟩:=r1.mK;subst hv;obtain⟨vs,h1,a1⟩:=qU n1.rs e2 e3 e2;refine⟨_,rfl,⟨vs,h1⟩,k aR _ H1 n1 λja c2 H2 u2 qK oI=>?_⟩;obtain⟨ws,h2,a2⟩:=qU qK e2 e3 (oI (n,z) (by simp));rw[u2.agree n hn]at h2;refine⟨λi hi=>⟨ws,ws[i]'(by rw[<-a2.length];exact hi),h2,aac _⟩,⟨ws,h2,by rw[a2.length];exact aam _⟩,λi d x H' hd hy=>?_⟩;obtain⟨rfl,hy⟩:=hy;obtain⟨v,hv,rv⟩:=a2.get hd;have:=hy ws h2;rw[hv]at this;cases this;exact⟨Nx.refl qK,rv⟩
 .cases e
theorem K7{lo:Int}{d:Qm.D}(h:(Qm.cN lo n)[i]? =ae d):i<n/\d= .int (lo+i):=by
 unfold Qm.cN at h;rw[aaq]at h
 by_cases hi:i<n
 .rw[afn hi]at h
  cases h;exact⟨hi,rfl⟩
 .rw[ad5.mpr (by simpa using ae1 hi)]at h
  cases h
theorem GJ{N:Nat}{lo:Int}:KP K ρ N H ⟨Qm.cN lo n,[]⟩ (JO lo n):=λρ c H u rs _=>by
 have hl:(Qm.cN lo n).length=n:=by simp[Qm.cN]
 refine⟨λi hi=>by show i<n;rw[<-hl];exact hi,by show n<=(Qm.cN lo n).length;omega,λi d x H' hd hy=>?_⟩;obtain⟨rfl,rfl⟩:=hy;obtain⟨_,rfl⟩:=K7 hd;exact⟨Nx.refl rs,.int _⟩
theorem dC{p:Pos}(hg:Gl X "range")(hm:X.mg "range" =af)(ha:QA X [a] f)(hs:aau [a] X.env=[(false,adL a X.env)]:=by rfl):QI X tg (.Call (.Name "range" p) [a] [] pos) (Qm.bF f):=(E6 hg hm ha hs).imp <| by
 rintro σ H R ⟨ρ,env,c,m,c',rs,re,e,k⟩;obtain⟨p,e1,e⟩:=aF e;refine⟨ρ,env,c,p.1,p.2,rs,re,e1,λaR vs H1 n1 r1=>?_⟩;split at e
 .rename_i j hj
  split at e
  .rename_i hb
   cases e;rw[hj]at r1;obtain⟨v,rfl,rv⟩:=r1.jB;cases rv.eL;exact⟨j,rfl,hb.1,hb.2,k aR _ H1 n1 GJ⟩
  .cases e
 .cases e
theorem yn{p:Pos}(hg:Gl X "range")(hm:X.mg "range" =af)(ha:QA X [a,b] f)(hs:aau [a,b] X.env=[(false,adL a X.env),(false,adL b X.env)]:=by rfl)(mD:aau [b] X.env=[(false,adL b X.env)]:=by rfl):QI X tg (.Call (.Name "range" p) [a,b] [] pos) (Qm.ki f):=(E7 hg hm ha hs mD).imp <| by
 rintro σ H R ⟨ρ,env,c,m,c',rs,re,e,k⟩;obtain⟨p,e1,e⟩:=aF e;refine⟨ρ,env,c,p.1,p.2,rs,re,e1,λaR vs H1 n1 r1=>?_⟩;split at e
 .rename_i i j hj
  split at e
  .rename_i hb
   cases e;rw[hj]at r1;obtain⟨v,u,rfl,rv,ru⟩:=r1.kr;cases rv.eL;cases ru.eL;exact⟨i,j,rfl,⟨hb.1.1,hb.1.2,hb.2.1,hb.2.2⟩,k aR _ H1 n1 GJ⟩
  .cases e
 .cases e
variable{body:List Stmt}{fi:Qm.XI}
theorem dZ(hp:aii (aaL X.prog X.w) X.A X.env X.xe)(hc:X.calm=true)(hi:QI X tg e fi)(hg:QG X tg fg)(hb:zM X body fs)
  (hs:∀x,adk e X.env x=pure x:=by intro _;rfl):QS X (.For tg e body [] pos) (Qm.cA fi fg fs):=(Ob hp hc hi hg hb hs).imp <| by
 rintro D σ H ⟨ρ,env,c,fl,cM,c',rs,re,e,k⟩;obtain⟨m,e1,e⟩:=aF e;refine⟨ρ,env,c,m.1,m.2,rs,re,e1,λFv J H0 n0 it=>?_⟩;refine⟨λi q σ' H'=>q=m.1.ds.length - i/\i<=m.1.ds.length/\∃aR gj c1,Nx X.K Fv m.2 H0 aR c1 H'/\RE X.K aR c1.length H' gj σ'/\Qm.gf m.1.ks fg fs (m.1.ds.drop i) gj c1=ae (fl,cM,c'),⟨_,rfl,abk _,Fv,env,m.2,Nx.refl n0.rs,re.up n0.up,e⟩,?_⟩;rintro i q σ1 H1 ⟨rfl,hi,aR,gj,c1,n1,wX,e1⟩
 by_cases gd:i<m.1.ds.length
 .rw[abm gd]at e1
  unfold Qm.gf at e1;split at e1
  .rename_i rT
   obtain⟨go,_,yl⟩:=it aR c1 H1 n1.up n1.rs rT;obtain⟨p,e2,e1⟩:=aF e1;obtain⟨q,e3,e1⟩:=aF e1;refine .inr ⟨go i gd,λσ' H'=>i+1<=m.1.ds.length/\∃aR gj c1,Nx X.K Fv m.2 H0 aR c1 H'/\RE X.K aR c1.length H' gj σ'/\Qm.gf m.1.ks fg fs (m.1.ds.drop (i+1)) gj c1=ae (fl,cM,c'),λσ' H' h=>⟨m.1.ds.length - (i+1),by omega,rfl,h⟩,λx H2 hy=>?_⟩;obtain⟨n2,r2⟩:=yl i _ x H2 (aac gd) hy;refine⟨aR,gj,c1,_,p.1,p.2,n2.rs,wX.up n2.up,r2,e2,λwW H3 qH n3 Io=>?_⟩;obtain⟨f,yo,c4⟩:=q;refine⟨wW,p.1,p.2,f,yo,c4,n3.rs,Io,e3,λtS H4 n4=>?_⟩;have nn:=n1.trans (n2.trans (n3.trans n4));cases f with
   |nx=>exact λzN yp=>⟨gd,tS,yo,c4,nn,yp,e1⟩
   |ct=>exact λzN yp=>⟨gd,tS,yo,c4,nn,yp,e1⟩
   |bk=>cases e1;exact λzN yp=>k tS H4 (n0.trans nn) zN yp
   |rt d=>cases e1;exact λv rv=>k tS H4 (n0.trans nn) v rv
  .cases e1
 .have Ip:i=m.1.ds.length:=by omega
  subst Ip;rw[ah1]at e1;unfold Qm.gf at e1;split at e1
  .rename_i rT
   obtain⟨_,stop,_⟩:=it aR c1 H1 n1.up n1.rs rT;cases e1;exact .inl ⟨stop,k aR H1 (n0.trans n1) σ1 wX⟩
  .cases e1
theorem qt(hp:aii (aaL X.prog X.w) X.A X.env X.xe)(hc:QT X c0 ft)(hb:zM X body fs):QS X (.While c0 body [] pos) (Qm.eo ft fs):=(HL hp hc hb).imp <| by
 rintro D σ H ⟨ρ,env,c,fl,cM,c',rs,re,e,k⟩;obtain⟨n,e⟩:=Qm.yi e;refine⟨λq σ' H'=>∃aR gj c1,Nx X.K ρ c H aR c1 H'/\RE X.K aR c1.length H' gj σ'/\Qm.jA ft fs q gj c1=ae (fl,cM,c'),⟨n,ρ,env,c,Nx.refl rs,re,e⟩,?_⟩;rintro q σ1 H1 ⟨aR,gj,c1,n1,wX,e1⟩;cases q with
 |zero=>simp[Qm.jA]at e1
 |succ q=>
  simp only[Qm.jA]at e1;obtain⟨p,e2,e1⟩:=aF e1;refine⟨aR,gj,c1,p.1,p.2,n1.rs,wX,e2,λja H2 n2=>?_⟩;split at e1
  .rename_i hi
   rw[if_pos hi];obtain⟨r,e3,e1⟩:=aF e1;refine⟨λσ' H'=>∃aR gj c1,Nx X.K ρ c H aR c1 H'/\RE X.K aR c1.length H' gj σ'/\Qm.jA ft fs q gj c1=ae (fl,cM,c'),λσ' H' h=>⟨q,acv _,h⟩,?_⟩;obtain⟨f,yo,c4⟩:=r;refine⟨ja,gj,p.2,f,yo,c4,n2.rs,wX.up n2.up,e3,λtS H4 n4=>?_⟩;have nn:=n1.trans (n2.trans n4);cases f with
   |nx=>exact λzN yp=>⟨tS,yo,c4,nn,yp,e1⟩
   |ct=>exact λzN yp=>⟨tS,yo,c4,nn,yp,e1⟩
   |bk=>cases e1;exact λzN yp=>k tS H4 nn zN yp
   |rt d=>cases e1;exact λv rv=>k tS H4 nn v rv
  .rename_i hi
   rw[if_neg hi];cases e1;exact k ja H2 (n1.trans n2) σ1 (wX.up n2.up)
theorem eS:GH X [] Qm.eX:=Ii.imp <| by
 rintro σ H Q ⟨ρ,env,c,b,c',rs,re,e,k⟩;cases e;exact k ρ H (Nx.refl rs)
theorem Iq(h:QT X c0 ft):GH X [c0] ft:=KA h
theorem RE.wR{N:Nat}{env:Qm.Env}{σ:St}(re:RE K ρ N H env σ)(cap:List (Option Nat)):RE K ρ N H (Qm.o6 env cap) (wR σ cap):=by
 refine⟨by simp[Qm.o6,L2.wR],λj d h=>?_⟩;unfold Qm.o6 at h;unfold L2.wR;rw[aaq]at h |-
 cases e:cap[j]? with
 |none=>rw[e]at h;cases h
 |some o=>
  rw[e]at h;cases o with
  |none=>simp at h
  |some i=>
   simp only[agx,aeB]at h;cases e2:env[i]? with
   |none=>rw[e2]at h;cases h
   |some w=>
    rw[e2]at h;have h':w=ae d:=h;subst h';obtain⟨v,h1,h2⟩:=re.at_ i d e2;refine⟨v,?_,h2⟩;simp[h1]
variable{cap:List (Option Nat)}
theorem Dy{σ:St}{Q:VK}(h:TQ K (Qm.dh fi cap fg ft fe) σ H Q):Ft (IQ K fi) cap (GQ K fg) (BQ K ft) (TQ K fe) σ H Q:=by
 obtain⟨ρ,env,c,d,c',rs,re,e,k⟩:=h;obtain⟨m,e1,e⟩:=aF e;obtain⟨cz,e2,e⟩:=aF e;cases e;refine⟨ρ,env,c,m.1,m.2,rs,re,e1,λFv J H0 n0 it l hl=>?_⟩;obtain⟨na,ra⟩:=Nx.alloc n0.rs hl (ds:=[]) (vs:=[]) .nil;generalize YV:(λn=>if n=m.2.length then l else Fv n)=K8 at na ra;have hL:K8 m.2.length=l:=by rw[<-YV];simp
 have hlen:(m.2++[Qm.Cell.lst []]).length=m.2.length+1:=by simp
 have fin:∀{aR:Nat->Addr}{c1:Qm.Cells}{H1:Hp},Nx K K8 (m.2++[.lst []]) (upd H0 l (.lst [])) aR c1 H1->aR m.2.length=l:=λn=>by rw[n.up.agree _ (by rw[hlen];omega),hL]
 refine⟨λi q τ H'=>q=m.1.ds.length - i/\i<=m.1.ds.length/\∃aR gj c1,Nx K K8 (m.2++[.lst []]) (upd H0 l (.lst [])) aR c1 H'/\RE K aR c1.length H' gj τ/\Qm.e7 m.2.length m.1.ks fg ft fe (m.1.ds.drop i) gj c1=ae c',
  ⟨_,rfl,abk _,K8,_,_,Nx.refl na.rs,((re.up n0.up).up na.up).wR cap,e2⟩,?_⟩
 rintro i q τ H1 ⟨rfl,hi,aR,gj,c1,n1,wX,e1⟩;have Wk:=it aR c1 H1 (na.up.trans n1.up) n1.rs
 by_cases gd:i<m.1.ds.length
 .rw[abm gd]at e1
  unfold Qm.e7 at e1;split at e1
  .rename_i rT
   obtain⟨go,_,yl⟩:=Wk rT;obtain⟨p,e2,e1⟩:=aF e1;obtain⟨b,e3,e1⟩:=aF e1;refine .inr ⟨go i gd,λτ H'=>i+1<=m.1.ds.length/\∃aR gj c1,Nx K K8 (m.2++[.lst []]) (upd H0 l (.lst [])) aR c1 H'/\RE K aR c1.length H' gj τ/\Qm.e7 m.2.length m.1.ks fg ft fe (m.1.ds.drop (i+1)) gj c1=ae c',λσ' H' h=>⟨m.1.ds.length - (i+1),by omega,rfl,h⟩,λx H2 hy=>?_⟩;obtain⟨n2,r2⟩:=yl i _ x H2 (aac gd) hy;refine⟨aR,gj,c1,_,p.1,p.2,n2.rs,wX.up n2.up,r2,e2,λwW H3 qH n3 Io=>?_⟩;refine⟨wW,p.1,p.2,b.1,b.2,n3.rs,Io,e3,λtS H4 n4=>?_⟩;have nn:=n1.trans (n2.trans (n3.trans n4));split at e1
   .rename_i hb
    dsimp only
    rw[if_pos hb];obtain⟨y,e4,e1⟩:=aF e1;refine⟨tS,p.1,b.2,y.1,y.2,n4.rs,Io.up n4.up,e4,λSO yv H5 n5 r5=>?_⟩;have K9:=nn.trans n5;split at e1
    .rename_i ys ph
     split at e1
     .rename_i hz
      obtain⟨vs,h5,a5⟩:=K9.rs.lst ph;rw[fin K9]at h5;have n6:=Nx.put K9.rs ph (a5.append (RA.one r5));rw[fin K9]at n6;refine⟨vs,h5,tP (by rw[<-a5.length];exact hz),gd,SO,p.1,_,K9.trans n6,(Io.up (n4.trans (n5.trans n6)).up),e1⟩
     .cases e1
    .cases e1
   .rename_i hb
    dsimp only
    rw[if_neg hb];exact⟨gd,tS,p.1,b.2,nn,Io.up n4.up,e1⟩
  .cases e1
 .have Ip:i=m.1.ds.length:=by omega
  subst Ip;rw[ah1]at e1;unfold Qm.e7 at e1;split at e1
  .rename_i rT
   obtain⟨_,stop,_⟩:=Wk rT;cases e1;refine .inl ⟨stop,k aR _ H1 (n0.trans (na.trans n1)) ?_⟩;rw[<-fin n1];exact .ref (aaB (by rw[hlen];omega) n1.up.len)
  .cases e1
variable{scope:Scope}
theorem kB{tg:abl}{N':List Str}{ifs:List abl}(B:se X scope N' cap)(hc:X.calm=true)
  (hi:QI X tg b fi)(hg:∀C bJ dk fp,QG (X.jO scope C N' bJ dk fp) tg fg)(ht:∀C bJ dk fp,GH (X.jO scope C N' bJ dk fp) ifs ft)(he:∀C bJ dk fp,QE (X.jO scope C N' bJ dk fp) e fe)
  (hs:∀x,adk b X.env x=pure x:=by intro _;rfl):
  QE X (.ListComp e [⟨tg,b,ifs,0⟩] scope pos) (Qm.dh fi cap fg ft fe):=(KD B hc hi hg ht he hs).imp λ_ _ _ h=>Dy h
theorem tU{tg:abl}{y:Str}{Dm:Pos}{N':List Str}{ifs:List abl}(B:se X scope N' cap)(hc:X.calm=true)
  (hi:QI X tg b fi)(hg:∀C bJ dk fp,QG (X.jO scope C N' bJ dk fp) tg fg)(ht:∀C bJ dk fp,GH (X.jO scope C N' bJ dk fp) ifs ft)(he:∀C bJ dk fp,QE (X.jO scope C N' bJ dk fp) e fe)
  (hN:X.N.Nodup)(SF:X.N[i]? =ae y)(hy:Loc X.env.scope y)(SG:aeP (.ListComp e [⟨tg,b,ifs,0⟩] scope pos) (ae (.Name y py)) Dm.line X.env=pure true)
  (hf:X.fn y=true\/X.env.scope.names.lookup y=ae .local:=by first|exact .inl rfl|exact .inr rfl|assumption)
  (hs:∀x,adk b X.env x=pure x:=by intro _;rfl):
  QS X (.Assign [.Name y py] (.ListComp e [⟨tg,b,ifs,0⟩] scope pos) Dm) (Qm.aB i (Qm.dh fi cap fg ft fe)):=(KH B hc hi hg ht he hN SF hy SG hf hs).imp <| by
 rintro D σ H ⟨ρ,env,c,fl,cM,c',rs,re,e,k⟩;obtain⟨p,e1,e⟩:=aF e;cases e;exact Dy ⟨ρ,env,c,p.1,p.2,rs,re,e1,λaR v H1 n1 r1=>k aR H1 n1 _ ((re.up n1.up).set r1)⟩
theorem qu{N:List Str}{B:Qm.XS}{vs:List V}{Q:VK}{E:XK}(hn:n<=N.length)(h:dq K (Qm.dQ n N.length B) vs H Q E):vs.length=n/\SQ K B { nx:=λ_ H'=>Q .aX H',rt:=Q } (start N vs) H:=by
 obtain⟨ρ,c,ds,d,c',rs,ra,e,k⟩:=h;unfold Qm.dQ at e;split at e
 .rename_i hl
  obtain⟨p,e1,e⟩:=aF e;obtain⟨f,cM,c2⟩:=p;have hv:vs.length=n:=by rw[<-ra.length];exact hl
  refine⟨hv,ρ,_,c,f,cM,c2,rs,⟨?_,λi d hd=>?_⟩,e1,λa_ H' nx=>?_⟩
  .simp[start,hl,hv]
  .have hi:i<ds.length:=by
    by_cases hi:i<ds.length
    .exact hi
    .exfalso
     rw[acQ (by simp;omega)]at hd;have:=aaf hd;have:=List.eq_of_mem_replicate this;cases this
   rw[aaM (by simpa using hi),aaq]at hd;cases e:ds[i]? with
   |none=>rw[e]at hd;cases hd
   |some d'=>
    rw[e]at hd;cases hd;obtain⟨v,h1,h2⟩:=ra.get e;refine⟨v,?_,h2⟩;unfold start;rw[aaM (by have:=ra.length;simp;omega),aaq,h1];rfl
  .cases f with
   |nx=>cases e;exact λσ' _=>k a_ .aX H' nx .aX
   |rt d=>cases e;exact λv rv=>k a_ v H' nx rv
   |bk=>cases e
   |ct=>cases e
 .cases e
end
section
variable{P:aaD}{w:aa9}{K:aaa}{mg:Str->Option aai}{base:Heap}
theorem Dc.eA{x qual:Str}{st:Stmt}{f:Addr}{fd:aaC}{N ps:List Str}{k n m:Nat}{B:Qm.XS}{FF:Qm.FN}(F:Dc K x qual st f fd)(S:aL N ps (az st))(hn:ps.length=n)(hm:N.length=m)(hN:n<=m)(hF:FF=Qm.dQ n m B)
  (nH:∀(br:aai) (A:aa4) (outer:List Env) (s:aah) (H:Hp) (E:XK),fq k (A.deeper (agC qual (az st) s.heap.objs.size f br))->
   zM (tp cU P w K mg base N qual (az st) f br A outer s H E).CQ (dP st) B):bE P w K mg base cU (k+1) f fd ps (dq K FF):=by
 subst hm hF;exact F.ok S (λvs H Q E h=>by rw[(qu hN h).1,hn]) λbr A outer s H vs Q E hr h=>⟨_,nH br A outer s H E hr,(qu hN h).2⟩
theorem z9.eA{x qual:Str}{st:Stmt}{f:Addr}{fd:aaC}{N ps:List Str}{k n m:Nat}{B:Qm.XS}{FF:Qm.FN}(F:z9 K x qual st f fd)(S:aL N ps (az st))(hn:ps.length=n)(hm:N.length=m)(hN:n<=m)(hF:FF=Qm.dQ n m B)
  (nH:∀(br:aai) (A:aa4) (outer:List Env) (s:aah) (H:Hp) (E:XK),fq k (A.deeper (agC qual (az st) s.heap.objs.size f br))->
   zM (tp cU P w K mg base N qual (az st) f br A outer s H E).CQ (dP st) B):bE P w K mg base cU (k+1) f fd ps (dq K FF):=by
 subst hm hF;exact F.ok S (λvs H Q E h=>by rw[(qu hN h).1,hn]) λbr A outer s H vs Q E hr h=>⟨_,nH br A outer s H E hr,(qu hN h).2⟩
theorem OV{F:Qm.FN}{H:Hp}{a:Addr}{ns:List Int}(hO:C9 H)(hS:b8 K H a (ns.map V.int)){c':Qm.Cells}(h:F [.ref 0] [.ro (ns.map Qm.D.int)]=ae (.bl true,c')):dq K F [.ref a] H (λv _=>v= .bl true) λ_ _ _=>False:=by
 have zs:∀ms:List Int,RA K (λ_=>a) 1 H (ms.map Qm.D.int) (ms.map V.int):=λms=>by
  induction ms with
  |nil=>exact .nil
  |cons m ms ih=>exact .cons (.int m) ih
 refine⟨λ_=>a,[.ro (ns.map Qm.D.int)],[.ref 0],.bl true,c',⟨λi j z y h1 h2 m1 m2 _=>?_,λn z hz=>?_⟩,.cons (.ref (by simp)) .nil,h,λa_ v H' n r=>r.uY⟩
 .match i,h1 with
  |0,h1=>
   have:z= .ro (ns.map Qm.D.int):=by simpa using h1.symm
   subst this;cases m1
  |i+1,h1=>simp at h1
 .match n,hz with
  |0,hz=>
   have:z= .ro (ns.map Qm.D.int):=by simpa using hz.symm
   subst this;exact⟨ns.map V.int,Aa.of hO hS,zs ns⟩
  |n+1,hz=>simp at hz
end
end L2
namespace L2
open PySem PySem.Spec PyProof.Rows
section
variable{prog:aaD}{w:aa9}{A:aa4}{E:aai->aah->Prop}{s:aah}
variable{Q:aai->aah->Prop}
theorem pj{it t:Addr}{i:Nat}{vs:Array aai}{x:aai}(a:s.heap.IsTupleIter it t i)(b:s.heap.IsTuple t vs)(g:vs[i]? =ae x)
  (k:∀h',h'.IsTupleIter it t (i+1)->abo it s.heap h'->Q x { s with heap:=h' }):aat (aaL prog w) A (aay (.ref it)) Q E s:=by
 obtain⟨o1,q1,q2,q3⟩:=id a;obtain⟨o2,p1,_,m,p3⟩:=b;unfold aay;refine Zu (aaQ (name:=ab9 "__next__") a.typeIs acS
  (aaO acS a.typeIs afo ?_ (afa _)))
 show aat _ _ (aiO (aaw it) 0 >>= _) _ _ _;refine Zu (abF q1 q3 (x:=.ref t) rfl ?_);show aat _ _ (ite ((aaw t==aby)=true) _ _) _ _ _;rw[if_neg (by exact aaz)];show aat _ _ (aiO (aaw it) 1 >>= _) _ _ _;refine Zu (abF q1 q3 (x:=.int i 0) rfl ?_);show aat _ _ (afp (aaw t) >>= _) _ _ _;refine Zu (aba p1 p3 ?_);simp only[acF,g];refine Zu (ad2 q1 q3 (by simp) (aad ⟨x,rfl,aad (k _ ⟨_,abi _ q1 (aeL (acX q3 _)),(afI ..).trans q2,?_⟩ (abt ..))⟩));rw[acX q3];simp[aev]
theorem yq{it t:Addr}{i:Nat}{vs:Array aai}(hh:A.handled=af)(a:s.heap.IsTupleIter it t i)(b:s.heap.IsTuple t vs)(g:vs[i]? =af)
  (k:∀h' e,aez it s.heap h'->(∃o,h'.get? e=ae o/\o.cls= .type "StopIteration")->E (.ref e) { s with heap:=h' }):aat (aaL prog w) A (aay (.ref it)) Q E s:=by
 obtain⟨o1,q1,q2,q3⟩:=id a;obtain⟨o2,p1,_,m,p3⟩:=b;unfold aay;refine Zu (aaQ (name:=ab9 "__next__") a.typeIs acS
  (aaO acS a.typeIs afo ?_ (afa _)))
 show aat _ _ (aiO (aaw it) 0 >>= _) _ _ _;refine Zu (abF q1 q3 (x:=.ref t) rfl ?_);show aat _ _ (ite ((aaw t==aby)=true) _ _) _ _ _;rw[if_neg (by exact aaz)];show aat _ _ (aiO (aaw it) 1 >>= _) _ _ _;refine Zu (abF q1 q3 (x:=.int i 0) rfl ?_);show aat _ _ (afp (aaw t) >>= _) _ _ _;refine Zu (aba p1 p3 ?_);simp only[acF,g];refine Zu (acD (Zu (ad2 q1 q3 (by simp) (Zu (m:=aiK (.type "StopIteration") []) ?_))));simp only[aiK,ahm];refine Zu (aaH ?_ (by size_fits));refine Zu (m:=ad3 _ _) (afX (a:=.none) (by first|rfl|(simp only[ad3];rfl)) (aaH ?_ (by size_fits)));simp only[raiseNew];refine Zu (ahn ?_)
 first|rw[show A.in1.handled=af from hh]|rw[hh]
 exact Zu (aad (aid (k _ _ (((abt ..).extBut.push _).push _) ⟨_,aal _ rfl,rfl⟩)))
end
end L2
namespace L2
open PySem PySem.Spec PyProof.Rows
section
variable{prog:aaD}{w:aa9}{A:aa4}{E:aai->aah->Prop}{s:aah}
end
end L2
namespace L2
open PySem PySem.Spec PyProof.Rows
section
variable{prog:aaD}{w:aa9}{A:aa4}{s:aah}{R:ag1->aah->Prop}
end
section
variable{prog:aaD}{w:aa9}{A:aa4}{E:aai->aah->Prop}{s:aah}
end
end L2
namespace L2
open PySem PySem.Spec PyProof.Rows
section
variable{X:Cx}{pins:List (Addr×Obj)}{σ:St}{H H':Hp}{s:aah}{h':Heap}
end
section
variable{X:Cx}
end
end L2
namespace L2
open PySem PySem.Spec PyProof.Rows
section
variable{X:Cx}{e1 e2:abl}{p0 p1 p2 pos:Pos}{f:Qm.XA}
end
end L2
namespace L2
open PySem PySem.Spec PyProof.Rows
end L2
namespace L2
open PySem PySem.Spec PyProof.Rows
section
variable{prog:aaD}{w:aa9}{A:aa4}{E:aai->aah->Prop}{s:aah}
end
end L2
namespace L2
open PySem PySem.Spec PyProof.Rows
section
variable{prog:aaD}{w:aa9}{A:aa4}{E:aai->aah->Prop}{s:aah}{I:Addr}{fp wr:List Addr}{G:Array af0->Array af0->Prop}{n:Nat}{P:Nat->aai->Prop}{St:Nat->aah->Prop}
end
end L2
namespace L2
open PySem PySem.Spec PyProof.Rows
section
variable{prog:aaD}{w:aa9}{A:aa4}{E:aai->aah->Prop}{s:aah}{I:Addr}{fp wr:List Addr}{G:Array af0->Array af0->Prop}{P:Nat->aai->Prop}{St:Nat->aah->Prop}
end
section
variable{X:Cx}
end
end L2
namespace Qm
open PySem
end Qm
namespace L2
open PySem PySem.Spec PyProof.Rows
section
variable{X:Cx}{e1:abl}{p0 p1 p2 pos:Pos}{f:Qm.XA}
end
end L2
namespace L2
open PySem PySem.Spec PyProof.Rows
mutual
def nb:PyData->Bool
 |.none=>true
 |.int _=>true
 |.str _=>true
 |.tuple ds=>yr ds
 |.list ds=>yr ds
 |_=>false
def yr:List PyData->Bool
 |[]=>true
 |d::ds=>nb d&&yr ds
end
section
variable{K:aaa}{ρ:Nat->Addr}{c:Qm.Cells}{H:Hp}
theorem BI{k:Nat}(rs:RS K ρ c H)(ih:∀{x:Qm.D}{v:V}{d:PyData},RD K ρ c.length H x v->Qm.data c k x=ae d->lr K H v d/\abE d=true/\d.depth<=k/\nb d=true):
  ∀{xs:List Qm.D}{vs:List V}{ds:List PyData},RA K ρ c.length H xs vs->Qm.omap (Qm.data c k) xs=ae ds->sh K H vs ds/\adX ds=true/\agE ds<=k/\yr ds=true
 |[],_,ds,a,h=>by
  cases a;cases h;exact⟨.nil,rfl,abk _,rfl⟩
 |x::xs,_,ds,a,h=>by
  cases a with
  |cons r a=>
   obtain⟨d,h1,h⟩:=aF h;obtain⟨es,h2,h⟩:=aF h;cases h;obtain⟨a1,a2,a3,a4⟩:=ih r h1;obtain⟨b1,b2,b3,b4⟩:=BI rs ih a h2;exact⟨.cons a1 b1,by simp[adX,a2,b2],by simp only[agE];omega,by simp[yr,a4,b4]⟩
theorem nV(rs:RS K ρ c H):∀(k:Nat) {x:Qm.D}{v:V}{d:PyData},RD K ρ c.length H x v->Qm.data c k x=ae d->lr K H v d/\abE d=true/\d.depth<=k/\nb d=true
 |0,_,_,_,_,h=>by simp[Qm.data]at h
 |k+1,x,v,d,r,h=>by
  have A:∀{xs:List Qm.D}{vs:List V}{ds:List PyData},RA K ρ c.length H xs vs->Qm.omap (Qm.data c k) xs=ae ds->sh K H vs ds/\adX ds=true/\agE ds<=k/\yr ds=true:=λ{xs vs ds}=>BI (k:=k) rs (λr h=>nV rs k r h)
  cases x with
  |aX=>simp[Qm.data]at h;subst h;cases r.Q3;exact⟨.aX,rfl,abk _,rfl⟩
  |int i=>simp[Qm.data]at h;subst h;cases r.eL;exact⟨.int i,rfl,abk _,rfl⟩
  |bl b=>simp[Qm.data]at h
  |str b=>
   simp only[Qm.data]at h;split at h
   .rename_i hb
    cases h;cases r;exact⟨.str b,hb,abk _,rfl⟩
   .cases h
  |ty b=>simp[Qm.data]at h
  |adr b=>simp[Qm.data]at h
  |tup xs=>
   simp only[Qm.data]at h;obtain⟨ds,h1,h⟩:=aF h;cases h;obtain⟨p,vs,rfl,g,a⟩:=r.g9;obtain⟨a1,a2,a3,a4⟩:=A a h1;exact⟨.tup (b_.of g) a1,by simpa[abE]using a2,by simp only[aiP];omega,by simpa[nb]using a4⟩
  |ref n=>
   simp only[Qm.data]at h;have hs:∀{xs:List Qm.D},Qm.cq (.ref n) c=ae xs->(Qm.omap (Qm.data c k) xs).bind (λds=>ae (aiV ds))=ae d->lr K H v d/\abE d=true/\d.depth<=k+1/\nb d=true:=λ{xs} e h=>by
    obtain⟨ds,h1,h⟩:=aF h;cases h;obtain⟨vs,rfl,g,a⟩:=rs.Du r e;obtain⟨a1,a2,a3,a4⟩:=A a h1;exact⟨.lst g a1,by simpa[abE]using a2,by simp only[aiP];omega,by simpa[nb]using a4⟩
   cases e:c[n]? with
   |none=>rw[e]at h;cases h
   |some z=>
    rw[e]at h;cases z with
    |lst xs=>exact hs (by simp[Qm.cq,e]) h
    |ro xs=>exact hs (by simp[Qm.cq,e]) h
    |Ij xs=>cases h
    |Ik xs=>cases h
    |uW xs=>cases h
    |h_ xs=>cases h
    |km xs=>cases h
end
mutual
theorem pA:∀(d e:PyData),nb d=true->nb e=true->(abr d e=true↔d=e)
 |.none,e,_,he=>by cases e<;>simp_all [abr,nb]
 |.int i,e,_,he=>by cases e<;>simp_all [abr,nb]
 |.tuple ds,e,hd,he=>by
  cases e<;>simp_all [abr,nb];exact u5 _ _ hd he
 |.list ds,e,hd,he=>by
  cases e<;>simp_all [abr,nb];exact u5 _ _ hd he
 |.bool _,_,h,_=>by simp[nb]at h
 |.str a,e,_,he=>by cases e<;>simp_all [abr,nb]
 |.dict _,_,h,_=>by simp[nb]at h
theorem u5:∀(ds es:List PyData),yr ds=true->yr es=true->(afb ds es=true↔ds=es)
 |[],[],_,_=>by simp[afb]
 |[],_::_,_,_=>by simp[afb]
 |_::_,[],_,_=>by simp[afb]
 |d::ds,e::es,hd,he=>by
  simp only[yr,abe]at hd he;simp only[afb,abe,adO];rw[pA d e hd.1 he.1,u5 ds es hd.2 he.2]
end
section
variable{X:Cx}
theorem GK{x y:Qm.D}{c:Qm.Cells}{b:Bool}(h:Qm.nN x y c=ae b):(∃p q,x= .bl p/\y= .bl q/\b=(p==q))\/∃d e,Qm.data c 6 x=ae d/\Qm.data c 6 y=ae e/\(b=true↔d=e):=by
 unfold Qm.nN at h;split at h
 .cases h;exact .inl ⟨_,_,rfl,rfl,rfl⟩
 .obtain⟨d,h1,h⟩:=aF h
  obtain⟨e,h2,h⟩:=aF h;cases h;exact .inr ⟨d,e,h1,h2,by simp⟩
variable{K:aaa}
theorem Dz{ρ:Nat->Addr}{c:Qm.Cells}{H:Hp}{x y:Qm.D}{v u:V}{d e:PyData}{b:Bool}(rs:RS K ρ c H)(rx:RD K ρ c.length H x v)(ry:RD K ρ c.length H y u)(h1:Qm.data c 6 x=ae d)(h2:Qm.data c 6 y=ae e)(hb:b=true↔d=e):
  lr K H v d/\lr K H u e/\abI d=true/\abI e=true/\abr d e=b:=by
 obtain⟨a1,a2,a3,a4⟩:=nV rs 6 rx h1;obtain⟨b1,b2,b3,b4⟩:=nV rs 6 ry h2;refine⟨a1,b1,by simp[abI,a2];omega,by simp[abI,b2];omega,?_⟩;have:=pA d e a4 b4;cases b with
 |true=>exact this.mpr (hb.mp rfl)
 |false=>
  cases q:abr d e with
  |false=>rfl
  |true=>exact absurd (hb.mpr (this.mp q)) (by decide)
theorem dj(hu:X.A.units+64<cLine):eZ X (abq .Eq) (λx y H Q=>Of x y H Q\/vT X.K false x y H Q):=RW.or (OM hu)
theorem iX(hu:X.A.units+64<cLine):eZ X (abq .NotEq) (λx y H Q=>Og x y H Q\/vT X.K true x y H Q):=RX.or (ON hu)
theorem eT:ie K (λx y H Q=>Of x y H Q\/vT K false x y H Q) Qm.eJ:=by
 intro ρ c H x y d c' v u Q rs rx ry e k;obtain⟨b,e1,e⟩:=aF e;cases e;rcases GK e1 with⟨p,q,rfl,rfl,rfl⟩|⟨dd,ee,h1,h2,hb⟩
 .cases rx.uY;cases ry.uY
  exact .inl ⟨rfl,by rw[xc];exact k ρ _ H (Nx.refl rs) (.bl _)⟩
 .obtain⟨a1,a2,a3,a4,a5⟩:=Dz rs rx ry h1 h2 hb
  refine .inr ⟨dd,ee,a1,a2,a3,a4,?_⟩;rw[if_neg (by decide),a5];exact k ρ _ H (Nx.refl rs) (.bl _)
theorem l_:ie K (λx y H Q=>Og x y H Q\/vT K true x y H Q) Qm.iS:=by
 intro ρ c H x y d c' v u Q rs rx ry e k;obtain⟨b,e1,e⟩:=aF e;cases e;rcases GK e1 with⟨p,q,rfl,rfl,rfl⟩|⟨dd,ee,h1,h2,hb⟩
 .cases rx.uY;cases ry.uY
  exact .inl ⟨rfl,by rw[xc];exact k ρ _ H (Nx.refl rs) (.bl _)⟩
 .obtain⟨a1,a2,a3,a4,a5⟩:=Dz rs rx ry h1 h2 hb
  refine .inr ⟨dd,ee,a1,a2,a3,a4,?_⟩;rw[if_pos rfl,a5];exact k ρ _ H (Nx.refl rs) (.bl _)
def K_(x:Qm.D):Bool:=match x with|.aX=>true|_=>false
theorem RD.La{ρ:Nat->Addr}{N:Nat}{H:Hp}{x:Qm.D}{v:V}(r:RD K ρ N H x v):decide (v= .aX)=K_ x:=by
 cases r<;>simp[K_]
theorem pB:ie K (λx y H Q=>y= .aX/\Q (.bl (!decide (x= .aX))) H) Qm.fy:=by
 intro ρ c H x y d c' v u Q rs rx ry e k;unfold Qm.fy at e;split at e
 .cases e
  cases ry.Q3;refine⟨rfl,?_⟩;rw[rx.La];refine k ρ _ H (Nx.refl rs) ?_;cases x<;>exact .bl _
 .cases e
theorem kit_is(K:aaa):acA K (.type "int") (.type "int")=ae true/\acA K (.type "int") (.type "bool")=ae false/\acA K (.type "bool") (.type "bool")=ae true/\acA K (.type "bool") (.type "int")=ae true/\acA K (.type "tuple") (.type "tuple")=ae true/\acA K (.type "list") (.type "list")=ae true:=
 ⟨by with_unfolding_all rfl,by with_unfolding_all rfl,by with_unfolding_all rfl,by with_unfolding_all rfl,by with_unfolding_all rfl,by with_unfolding_all rfl⟩
theorem nW:mL K (λxs H Q=>∃x n t k,xs=[x,.ty n]/\lF K H x t/\acA K t (.type n)=ae k/\Q (.bl k) H) Qm.fT:=by
 intro ρ c H ds d c' vs Q rs ra e k;obtain⟨x,y,rfl,e'⟩:=BG e;obtain⟨v,u,rfl,rx,ry⟩:=ra.kr;obtain⟨k1,k2,k3,k4,k5,k6⟩:=kit_is K;split at e'
 .rename_i n
  obtain⟨b,e1,e2⟩:=aF e';cases e2;have hu:u= .ty n:=by cases ry;rfl
  subst hu;unfold Qm.tO at e1;split at e1
  .cases rx.eL
   split at e1
   .rename_i hn;cases e1;subst hn;exact⟨_,_,_,_,rfl,.int _,k1,k ρ _ H (Nx.refl rs) (.bl _)⟩
   .split at e1
    .rename_i hn;cases e1;subst hn;exact⟨_,_,_,_,rfl,.int _,k2,k ρ _ H (Nx.refl rs) (.bl _)⟩
    .cases e1
  .cases rx.uY
   split at e1
   .rename_i hn;cases e1;subst hn;exact⟨_,_,_,_,rfl,.bl _,k3,k ρ _ H (Nx.refl rs) (.bl _)⟩
   .cases e1
  .obtain⟨p,ws,rfl,g,_⟩:=rx.g9
   split at e1
   .rename_i hn;cases e1;subst hn;exact⟨_,_,_,_,rfl,.tup g,k5,k ρ _ H (Nx.refl rs) (.bl _)⟩
   .cases e1
  .rename_i m
   obtain⟨rfl,_⟩:=rx.mK;split at e1
   .rename_i ws hw
    obtain⟨us,g,_⟩:=rs.lst hw;split at e1
    .rename_i hn;cases e1;subst hn;exact⟨_,_,_,_,rfl,.lst g,k6,k ρ _ H (Nx.refl rs) (.bl _)⟩
    .cases e1
   .cases e1
  .cases e1
 .cases e'
end
end L2
namespace L2
open PySem PySem.Spec PyProof.Rows
section
variable{X:Cx}
def GL(K:aaa)(neg:Bool):R2:=λx y H Q=>∃(p:Addr) (xs:List V) (d:PyData) (ds:List PyData),y= .ref p/\(b8 K H p xs\/b_ K H p xs)/\lr K H x d/\sh K H xs ds/\abI d=true/\d.depth<=8/\(∀e∈ds,abE e=true)/\Q (.bl (if neg then !(ds.any λe=>abr e d)else ds.any λe=>abr e d)) H
theorem xn{pins:List (Addr×Obj)}{σ:St}{H:Hp}{s:aah}{x:V}{xs:List V}{v:aai}{its:List aai}{d:PyData}{ds:List PyData}(hu:X.A.units+64<cLine)(I:Inv X pins σ H s)(rx:RelV x v)(hv:Vals xs its)(hx:lr X.K H x d)(ly:sh X.K H xs ds)(sd:abI d=true)(dd:d.depth<=8)(BJ:∀e∈ds,abE e=true):
  (∀y∈its.toArray,SeqAt.EqAt X.A.in1 s y v (tK s.heap d y))/\its.toArray.any (tK s.heap d)=ds.any λe=>abr e d:=by
 obtain⟨as,ra⟩:=hx.reads I rx;obtain⟨bs,rb⟩:=ly.reads I hv;have ea:its.any (tK s.heap d)=ds.any λe=>abr e d:=qT rb λu' d' BB _ hd r'=>Dn (BJ d' hd) r'
 refine⟨λy' jz=>?_,by simpa using ea⟩;have hm:y'∈its:=by simpa using jz
 obtain⟨d',hd,BB,r'⟩:=readsAll_mem rb y' hm;rw[Dn (BJ d' hd) r'];refine SeqAt.eqAt_reads d' d _ _ _ _ _ _ r' ra (BJ d' hd) (SeqAt.canLay_of_shaped sd) ?_;have h1:min d'.depth d.depth<=d.depth:=ahY _ _;have h2:X.A.in1.units<=X.A.units+1:=by simp[Around.in1,Around.units]
 show X.A.in1.units+_<cLine;omega
theorem xo(hu:X.A.units+64<cLine):eZ X (abq .In) (GL X.K false):=by
 intro pins s σ H x y v u Q I rx ry h;obtain⟨p,xs,d,ds,rfl,hp,hx,ly,sd,dd,BJ,q⟩:=h;cases (show u=aaw p from ry);rcases hp with hp|hp
 .obtain⟨its,hv,pl,_⟩:=I.list hp
  obtain⟨h1,h2⟩:=xn hu I rx hv hx ly sd dd BJ;refine SeqAt.in_listAt (tK s.heap d) pl.isList h1 ⟨.bl _,H,I,rfl,?_⟩;rw[h2];exact q
 .obtain⟨its,hv,pl,_⟩:=I.tuple hp
  obtain⟨h1,h2⟩:=xn hu I rx hv hx ly sd dd BJ;refine SeqAt.in_tupleAt (tK s.heap d) pl h1 ⟨.bl _,H,I,rfl,?_⟩;rw[h2];exact q
theorem kC(hu:X.A.units+64<cLine):eZ X (abq .NotIn) (GL X.K true):=by
 intro pins s σ H x y v u Q I rx ry h;obtain⟨p,xs,d,ds,rfl,hp,hx,ly,sd,dd,BJ,q⟩:=h;cases (show u=aaw p from ry);rcases hp with hp|hp
 .obtain⟨its,hv,pl,_⟩:=I.list hp
  obtain⟨h1,h2⟩:=xn hu I rx hv hx ly sd dd BJ;refine SeqAt.notIn_listAt (tK s.heap d) pl.isList h1 ⟨.bl _,H,I,rfl,?_⟩;rw[h2];exact q
 .obtain⟨its,hv,pl,_⟩:=I.tuple hp
  obtain⟨h1,h2⟩:=xn hu I rx hv hx ly sd dd BJ;refine SeqAt.notIn_tupleAt (tK s.heap d) pl h1 ⟨.bl _,H,I,rfl,?_⟩;rw[h2];exact q
theorem vV:∀{ds:List PyData},adX ds=true->∀e∈ds,abE e=true
 |[],_,e,he=>nomatch he
 |d::ds,h,e,he=>by
  simp only[adX,abe]at h;rcases aaj.mp he with rfl|he
  .exact h.1
  .exact vV h.2 e he
theorem DA:∀{ds:List PyData},yr ds=true->∀e∈ds,nb e=true
 |[],_,e,he=>nomatch he
 |d::ds,h,e,he=>by
  simp only[yr,abe]at h;rcases aaj.mp he with rfl|he
  .exact h.1
  .exact DA h.2 e he
variable{K:aaa}
theorem GN{ρ:Nat->Addr}{c:Qm.Cells}{H:Hp}{x y:Qm.D}{v u:V}{b:Bool}(rs:RS K ρ c H)(rx:RD K ρ c.length H x v)(ry:RD K ρ c.length H y u)(h:Qm.Dp x y c=ae b):
  ∃(p:Addr) (xs:List V) (d:PyData) (ds:List PyData),u= .ref p/\(b8 K H p xs\/b_ K H p xs)/\lr K H v d/\sh K H xs ds/\abI d=true/\d.depth<=8/\(∀e∈ds,abE e=true)/\(ds.any λe=>abr e d)=b:=by
 obtain⟨xs,h1,h⟩:=aF h;obtain⟨d,h2,h⟩:=aF h;obtain⟨ds,h3,h⟩:=aF h;cases h;obtain⟨p,vs,rfl,hp,a⟩:=rs.seq ry h1;obtain⟨a1,a2,a3,a4⟩:=nV rs 5 rx h2;obtain⟨b1,b2,b3,b4⟩:=BI (k:=5) rs (λr h=>nV rs 5 r h) a h3;refine⟨p,vs,d,ds,rfl,hp.imp id b_.of,a1,b1,by simp[abI,a2];omega,by omega,vV b2,?_⟩;rw[aa1];simp only[agc,decide_eq_true_eq];constructor
 .rintro⟨e,he,q⟩
  rw[pA e d (DA b4 e he) a4]at q;exact q ▸ he
 .intro hd
  exact⟨d,hd,(pA d d a4 a4).mpr rfl⟩
theorem BK:ie K (GL K false) Qm.o7:=by
 intro ρ c H x y d c' v u Q rs rx ry e k;obtain⟨b,e1,e⟩:=aF e;cases e;obtain⟨p,xs,dd,ds,rfl,a1,a2,a3,a4,a5,a6,a7⟩:=GN rs rx ry e1;refine⟨p,xs,dd,ds,rfl,a1,a2,a3,a4,a5,a6,?_⟩;rw[if_neg (by decide),a7];exact k ρ _ H (Nx.refl rs) (.bl _)
theorem mO:ie K (GL K true) Qm.eK:=by
 intro ρ c H x y d c' v u Q rs rx ry e k;obtain⟨b,e1,e⟩:=aF e;cases e;obtain⟨p,xs,dd,ds,rfl,a1,a2,a3,a4,a5,a6,a7⟩:=GN rs rx ry e1;refine⟨p,xs,dd,ds,rfl,a1,a2,a3,a4,a5,a6,?_⟩;rw[if_pos rfl,a7];exact k ρ _ H (Nx.refl rs) (.bl _)
theorem DB:∀{bs:List Bool}{us:List aai},Vals (bs.map V.bl) us->∀(i:Nat) (v:aai),us[i]? =ae v->v= .bool (bs.getD i false)
 |[],_,.nil,i,v,h=>by simp at h
 |b::bs,_,.cons r t,0,v,h=>by
  simp at h;subst h;simpa using(show _=agQ b from r)
 |b::bs,_,.cons r t,i+1,v,h=>by
  have:=DB t i v (by simpa using h);simpa using this
theorem Fw{prog:aaD}{w:aa9}{A:aa4}{bs:List Bool}{us:List aai}(hv:Vals (bs.map V.bl) us):TruthOf prog w A (λi v=>us.toArray[i]? =ae v) λi=>bs.getD i false:=λi v s Q E h q=>by
 rw[DB hv i v (by simpa using h)];exact abf q
theorem range_all(bs:List Bool):(adg bs.length).all (λi=>bs.getD i false)=bs.all id:=by
 rw[aa1];simp only[List.all_eq_true,abC];constructor
 .intro h b hb
  obtain⟨i,hi⟩:=aaS hb;have hl:=(aae.mp hi).1;have:=h i hl;simpa[agF,hi]using this
 .intro h i hi
  have:bs[i]? =ae bs[i]:=aac hi;simp only[agF,this,ah2];exact h _ (ah3 hi)
theorem range_any(bs:List Bool):(adg bs.length).any (λi=>bs.getD i false)=bs.any id:=by
 rw[aa1];simp only[agc,abC];constructor
 .rintro⟨i,hi,h⟩
  have:bs[i]? =ae bs[i]:=aac hi;simp only[agF,this,ah2]at h;exact⟨_,ah3 hi,h⟩
 .rintro⟨b,hb,h⟩
  obtain⟨i,hi⟩:=aaS hb;exact⟨i,(aae.mp hi).1,by simpa[agF,hi]using h⟩
theorem sm(hc:X.calm=true):eR X (.builtin "any") (λxs H Q=>∃(p:Addr) (bs:List Bool),xs=[.ref p]/\b8 X.K H p (bs.map V.bl)/\Q (.bl (bs.any id)) H):=by
 intro pins s σ H xs us Q I r h;obtain⟨p,bs,rfl,hp,q⟩:=h;obtain⟨u,rfl,ru⟩:=vals1 r;cases (show u=aaw p from ru);obtain⟨its,hv,pl,_⟩:=I.list hp;have hl:=pl.isList;have gd:p<s.heap.objs.size:=by obtain⟨o,e,_⟩:=hl;exact aan e
 refine call_any_walk (adj hl ?_);refine⟨s.heap.objs.size,_,_,_,_,_,_,rfl,aiy (A:=X.A.in1) (I.ok.hd hc) s.heap.objs.size p (aaF gd) its.toArray,⟨⟨_,aal _ rfl,rfl,rfl⟩,hl.at λo e=>aab _ e⟩,Fw hv,λh' tk kk=>?_⟩;have e:its.toArray.size=bs.length:=by rw[aar,<-hv.length,aas]
 rw[e,range_any];exact⟨.bl _,H,I.kept (t':=tk) λb o g=>kk b o (by simpa using aaF (aan g)) (aab _ g),rfl,q⟩
theorem Ac{ρ:Nat->Addr}{N:Nat}{H:Hp}:∀{ds:List Qm.D}{vs:List V}{bs:List Bool},RA K ρ N H ds vs->Qm.omap Qm.oJ ds=ae bs->vs=bs.map V.bl
 |[],_,bs,a,h=>by cases a;cases h;rfl
 |d::ds,_,bs,a,h=>by
  cases a with
  |cons r a=>
   obtain⟨b,h1,h⟩:=aF h;obtain⟨cs,h2,h⟩:=aF h;cases h;rw[qk h1]at r;cases r.uY;rw[Ac a h2];rfl
theorem BL:mL K (λxs H Q=>∃(p:Addr) (bs:List Bool),xs=[.ref p]/\b8 K H p (bs.map V.bl)/\Q (.bl (bs.any id)) H) Qm.ko:=by
 intro ρ c H ds d c' vs Q rs ra e k;obtain⟨x,rfl,e'⟩:=jk e;obtain⟨v,rfl,rx⟩:=ra.jB;obtain⟨n,e0,e'⟩:=aF e';obtain⟨bs,e2,e'⟩:=aF e';cases e';obtain⟨rfl,hn,ws,rfl,g,a⟩:=rs.bp rx e0;exact⟨_,bs,rfl,Ac a e2 ▸ b8.of g,k ρ _ H (Nx.refl rs) (.bl _)⟩
theorem BM:aa6 "any" =ae (.builtin "any"):=by decide +kernel
end
end L2
namespace Qm
open PySem
noncomputable section
def YW:G2:=λx y c=>match x with
 |.ref n=>(match c[n]? with
  |some (.ro xs)=>(bp y c).bind λq=>if xs.length+q.2.length<=cC then ae (.ref c.length,c++[.lst (xs++q.2)])else af
  |_=>af)
 |_=>af
end
end Qm
namespace L2
open PySem PySem.Spec PyProof.Rows
section
variable{X:Cx}
end
end L2
namespace L2
open PySem PySem.Spec PyProof.Rows
def c_:List Int->List Int->Bool
 |[],_=>false
 |_::_,[]=>true
 |a::r,b::t=>if a=b then c_ r t else decide (a > b)
theorem DC{y:List Int}:c_ [] y=false:=by cases y<;>rfl
section
variable{prog:aaD}{w:aa9}{A:aa4}{E:aai->aah->Prop}{s:aah}
variable{xs ys:Array aai}{x y:List Int}{P:PySem.Fin->aah->Prop}
theorem yt{a b:Addr}{oa ob:Obj}{na nb:Nat}(SS:s.heap.get? a=ae oa)(SU:oa.data= .seq xs na)(Lb:s.heap.get? b=ae ob)(SV:ob.cls= .type "tuple")(rY:ob.data= .seq ys nb)
  (hx:ac4 xs.toList x)(hy:ac4 ys.toList y)(h:P (.done (.ret (.bool (c_ x y)))) s):
  aat (aaL prog w) A (adF.«tuple.__gt__» ⟨[.ref a,.ref b],[]⟩) P E s:=by
 have SW:s.TypeIs (.ref b) "tuple":=⟨_,Lb,SV⟩;show aat _ _ (agP (.ref b) (.type "tuple") >>= _) _ _ s;refine Zu (aco SW acW ?_);simp only[abY,aav,if_false];refine Zu (acj SS SU ?_);refine Zu (acj Lb rY ?_);refine Zu ?_;refine adz _
  (λrest r s'=>r.1=af/\s'=s/\∃x' y' mr mw,rest=aiW mr mw/\ac4 mr x'/\ac4 mw y'/\c_ x' y'=c_ x y/\(decide (mr.length > mw.length))=(decide (xs.size > ys.size)))
  _ ?_ ?_ _ _ ⟨rfl,rfl,x,y,xs.toList,ys.toList,rfl,hx,hy,rfl,by simp⟩
 .rintro⟨u,v⟩ rest r s' ⟨hr,rfl,x',y',mr,mw,hz,gq,jz,lC,hlen⟩
  cases gq with
  |nil=>simp at hz
  |@cons i t Lc SX Ld=>
   cases jz with
   |nil=>simp at hz
   |@cons j t' Le SY Lf=>
    simp only[aee,adO,afW]at hz;obtain⟨⟨rfl,rfl⟩,rfl⟩:=hz;refine Zu (aeY ?_)
    by_cases hk:i=j
    .subst hk
     rw[beq_self_eq_true];simp only[abY,aav,if_false];refine aad ⟨rfl,rfl,SX,SY,Lc,Le,rfl,Ld,Lf,?_,by simpa using hlen⟩;rw[<-lC];simp[c_]
    .rw[beq_eq_false_iff_ne.mpr hk]
     simp only[aeI,if_true];have hf:c_ x y=decide (i > j):=by rw[<-lC];simp[c_,hk]
     rw[hf]at h;refine Zu (acD (Zu ?_));refine richCompare_gives (op:=.Gt) (agR _ _ t) (agR _ _ t') PySem.F.slot_int_gt PySem.F.entry_int_gt (PySem.F.args_int_gt_2 _ _) (gives_int_gt _ _ t t') (λx=>nomatch x) ?_;exact Zu (aad (aad (aad h)))
 .rintro⟨r1,r2⟩ s' ⟨hr,rfl,x',y',mr,mw,hz,gq,jz,lC,hlen⟩
  simp only at hr;subst hr;refine aad ?_;have Lg:(decide (xs.size > ys.size))=c_ x y:=by
   rw[<-lC,<-hlen];cases gq with
   |nil=>simp[DC]
   |cons _ _ _=>
    cases jz with
    |nil=>simp[c_]
    |cons _ _ _=>simp at hz
  show P (.done (.ret (.bool (decide (xs.size > ys.size))))) s';rw[Lg];exact h
theorem yu{a b:Addr}{oa ob:Obj}{na nb:Nat}(SS:s.heap.get? a=ae oa)(SU:oa.data= .seq xs na)(Lb:s.heap.get? b=ae ob)(SV:ob.cls= .type "tuple")(rY:ob.data= .seq ys nb)
  (hx:ac4 xs.toList x)(hy:ac4 ys.toList y)(h:P (.done (.ret (.bool (c_ y x)))) s):
  aat (aaL prog w) A (adF.«tuple.__lt__» ⟨[.ref a,.ref b],[]⟩) P E s:=by
 have SW:s.TypeIs (.ref b) "tuple":=⟨_,Lb,SV⟩;show aat _ _ (agP (.ref b) (.type "tuple") >>= _) _ _ s;refine Zu (aco SW acW ?_);simp only[abY,aav,if_false];refine Zu (acj SS SU ?_);refine Zu (acj Lb rY ?_);refine Zu ?_;refine adz _
  (λrest r s'=>r.1=af/\s'=s/\∃x' y' mr mw,rest=aiW mr mw/\ac4 mr x'/\ac4 mw y'/\c_ y' x'=c_ y x/\(decide (mr.length<mw.length))=(decide (xs.size<ys.size)))
  _ ?_ ?_ _ _ ⟨rfl,rfl,x,y,xs.toList,ys.toList,rfl,hx,hy,rfl,by simp⟩
 .rintro⟨u,v⟩ rest r s' ⟨hr,rfl,x',y',mr,mw,hz,gq,jz,lC,hlen⟩
  cases gq with
  |nil=>simp at hz
  |@cons i t Lc SX Ld=>
   cases jz with
   |nil=>simp at hz
   |@cons j t' Le SY Lf=>
    simp only[aee,adO,afW]at hz;obtain⟨⟨rfl,rfl⟩,rfl⟩:=hz;refine Zu (aeY ?_)
    by_cases hk:i=j
    .subst hk
     rw[beq_self_eq_true];simp only[abY,aav,if_false];refine aad ⟨rfl,rfl,SX,SY,Lc,Le,rfl,Ld,Lf,?_,by simpa using hlen⟩;rw[<-lC];simp[c_]
    .rw[beq_eq_false_iff_ne.mpr hk]
     simp only[aeI,if_true];have hf:c_ y x=decide (i<j):=by rw[<-lC];simp[c_,acu hk]
     rw[hf]at h;refine Zu (acD (Zu ?_));refine richCompare_gives (op:=.Lt) (agR _ _ t) (agR _ _ t') PySem.F.slot_int_lt PySem.F.entry_int_lt (PySem.F.args_int_lt_2 _ _) (gives_int_lt _ _ t t') (λx=>nomatch x) ?_;exact Zu (aad (aad (aad h)))
 .rintro⟨r1,r2⟩ s' ⟨hr,rfl,x',y',mr,mw,hz,gq,jz,lC,hlen⟩
  simp only at hr;subst hr;refine aad ?_;have Lg:(decide (xs.size<ys.size))=c_ y x:=by
   rw[<-lC,<-hlen];cases jz with
   |nil=>simp[DC]
   |cons _ _ _=>
    cases gq with
    |nil=>simp[c_]
    |cons _ _ _=>simp at hz
  show P (.done (.ret (.bool (decide (xs.size<ys.size))))) s';rw[Lg];exact h
theorem lI{p:Addr}{its:Array aai}(h:aie s.heap p its):s.TypeIs (.ref p) "tuple":=by
 obtain⟨o,ho,hc,_⟩:=h;exact⟨_,ho,hc⟩
variable{Q:aai->aah->Prop}
theorem Ad{p q:Addr}(hp:aie s.heap p xs)(hq:aie s.heap q ys)(hx:ac4 xs.toList x)(hy:ac4 ys.toList y)(hu:A.units<cLine)(h:Q (.bool (c_ x y)) s):aat (aaL prog w) A (adw .Gt (.ref p) (.ref q)) Q E s:=by
 have t1:=lI hp;have t2:=lI hq;obtain⟨oa,ha,ca,na,da⟩:=hp;obtain⟨ob,hb,cb,nb,db⟩:=hq;refine acH (op:=.Gt) t1 t2 agG (aaO agG t1 PySem.F.entry_tuple_gt ?_ (PySem.F.args_tuple_gt_2 _ _)) hu;exact yt ha da hb cb db hx hy ⟨_,rfl,nofun,h⟩
theorem Ir{p q:Addr}(hp:aie s.heap p xs)(hq:aie s.heap q ys)(hx:ac4 xs.toList x)(hy:ac4 ys.toList y)(hu:A.units<cLine)(h:Q (.bool (c_ y x)) s):aat (aaL prog w) A (adw .Lt (.ref p) (.ref q)) Q E s:=by
 have t1:=lI hp;have t2:=lI hq;obtain⟨oa,ha,ca,na,da⟩:=hp;obtain⟨ob,hb,cb,nb,db⟩:=hq;refine acH (op:=.Lt) t1 t2 agH (aaO agH t1 PySem.F.entry_tuple_lt ?_ (PySem.F.args_tuple_lt_2 _ _)) hu;exact yu ha da hb cb db hx hy ⟨_,rfl,nofun,h⟩
end
theorem ints_of:∀{ns:List Int}{us:List aai},Vals (ns.map V.int) us->ac4 us ns
 |[],_,h=>by cases h;exact .nil
 |n::ns,_,h=>by
  cases h with
  |cons r t=>
   obtain⟨k,rfl⟩:=r;exact .cons n k (ints_of t)
section
variable{X:Cx}
def Q5(K:aaa):R2:=λx y H Q=>∃p q ns ms,x= .ref p/\y= .ref q/\b_ K H p (ns.map V.int)/\b_ K H q (ms.map V.int)/\Q (.bl (c_ ns ms)) H
theorem OW(hu:X.A.units+64<cLine):eZ X (abq .Gt) (Q5 X.K):=by
 intro pins s σ H x y v u Q I rx ry h;obtain⟨p,q,ns,ms,rfl,rfl,h1,h2,k⟩:=h;cases rx;cases ry;obtain⟨xs,r1,t1,_⟩:=I.tuple h1;obtain⟨ys,r2,t2,_⟩:=I.tuple h2;exact Ad t1 t2 (by simpa using ints_of r1) (by simpa using ints_of r2) (by omega) ⟨.bl _,H,I,rfl,k⟩
end
end L2
namespace L2
open PySem PySem.Spec PyProof.Rows
section
variable{prog:aaD}{w:aa9}{A:aa4}
variable{I S:Addr}{vb:aai}{c:Nat}{fp wr:List Addr}{P:Nat->aai->Prop}{R:ag1->aah->Prop}{s:aah}
theorem Ae{St:Nat->Heap->Prop}(W:Walks prog w A.in1 I fp wr 2 P St)(sr:S∉wr)(st:St 2 s.heap)
  (hS:s.heap.get? S=ae { cls:=.type "list",dict:=af,data:=.seq #[vb,vb] c,slots:=#[] })
  (k:∀h' tk,(∀b o,b∉wr->b≠S->s.heap.get? b=ae o->h'.get? b=ae o)->R (.ok (.ret vb)) { s with heap:=h',toks:=tk }):
  aeC (aaL prog w) A (.builtin "max.loop" ⟨[.ref I,.none,.ref S],[]⟩) R s:=by
 refine ach agd ?_;rw[abp acU _];refine(show aat _ A.in1 (afp (.ref S) >>= _) _ _ s from ?_);refine Zu (aba hS rfl ?_);refine(show aat _ A.in1 (tryCatch (adS (.ref I)) _ >>= _) _ _ s from ?_);refine Zu (acB (W.done s _ _ st λh1 tk hk=>?_));have pC:=hk S _ sr hS;refine(show aat _ A.in1 (aio S (λ_=>#[]) >>= _) _ _ _ from Zu ?_);refine adn pC rfl (Zu (ac5 (aad (k _ tk ?_))));exact λb o n1 n2 e=>(aaW _ _ (acu n2)).trans (hk b o n1 e)
variable{va:aai}
theorem Fx{t:Bool}{St:Nat->Heap->Prop}(W:Walks prog w A.in1 I fp wr 2 P St)(u6:S∉fp)(st:St 1 s.heap)(hP:∀v,P 1 v->v=vb)
  (hS:s.heap.get? S=ae { cls:=.type "list",dict:=af,data:=.seq #[va,va] c,slots:=#[] })
  (hc:∀h' tk (Q:aai->aah->Prop) (E:aai->aah->Prop),(∀b o,b∉wr->s.heap.get? b=ae o->h'.get? b=ae o)->Q (.bool t) { s with heap:=h',toks:=tk }->aat (aaL prog w) A.in1 (adw .Gt vb va) Q E { s with heap:=h',toks:=tk })
  (k:∀h' tk,(∀b o,b∉wr->b≠S->s.heap.get? b=ae o->h'.get? b=ae o)->R (.ok (.ret (if t then vb else va))) { s with heap:=h',toks:=tk }):
  aeC (aaL prog w) A (.builtin "max.loop" ⟨[.ref I,.none,.ref S],[]⟩) R s:=by
 have sr:S∉wr:=λh=>u6 (W.sub _ h)
 have nm:(toString "max"++toString ".loop":String)= "max.loop":=by decide
 refine ach agd ?_;rw[abp acU _];refine(show aat _ A.in1 (afp (.ref S) >>= _) _ _ s from ?_);refine Zu (aba hS rfl ?_);refine(show aat _ A.in1 (tryCatch (adS (.ref I)) _ >>= _) _ _ s from ?_);refine Zu (acB (W.item 1 s _ _ (by decide) st λv h1 tk pv BN hk=>?_));have pC:=hk S _ sr hS;obtain rfl:=hP v pv;refine(show aat _ A.in1 (tryCatch (afi [v,v] (adw .Gt v va >>= _)) _ >>= _) _ _ _ from ?_);refine Zu (acB (aaP (Zu (hc h1 tk _ _ hk ?_))));refine Zu (aaP (abf (Zu (ac5 (aad ?_)))));cases t with
 |true=>
  simp only[if_true]at k |-
  refine Zu (adn pC rfl (Zu (ac5 ?_)));rw[nm];refine aad ⟨ab8 acU _,Ae W sr (W.frame _ _ _ BN λb bf o e=>?_) (abi _ pC rfl) λh2 sv k2=>k h2 sv λb o n1 n2 e=>k2 b o n1 n2 ((aaW _ _ (acu n2)).trans (hk b o n1 e))⟩;exact(aaW _ _ (λz:S=b=>u6 (by rw[z];exact bf))).trans e
 |false=>
  simp only[aav,if_false]at k |-
  refine Zu (ac5 ?_);rw[nm];exact aad ⟨ab8 acU _,Ae W sr BN pC λh2 sv k2=>k h2 sv λb o n1 n2 e=>k2 b o n1 n2 (hk b o n1 e)⟩
theorem DE{t:Bool}{St:Nat->Heap->Prop}(W:Walks prog w A.in1 I fp wr 2 P St)(u6:S∉fp)(st:St 0 s.heap)(S0:∀v,P 0 v->v=va)(hP:∀v,P 1 v->v=vb)
  (hS:s.heap.get? S=ae { cls:=.type "list",dict:=af,data:=.seq #[] c,slots:=#[] })
  (hc:∀h' tk (Q:aai->aah->Prop) (E:aai->aah->Prop),(∀b o,b∉wr->b≠S->s.heap.get? b=ae o->h'.get? b=ae o)->Q (.bool t) { s with heap:=h',toks:=tk }->aat (aaL prog w) A.in1 (adw .Gt vb va) Q E { s with heap:=h',toks:=tk })
  (k:∀h' tk,(∀b o,b∉wr->b≠S->s.heap.get? b=ae o->h'.get? b=ae o)->R (.ok (.ret (if t then vb else va))) { s with heap:=h',toks:=tk }):
  aeC (aaL prog w) A (.builtin "max.loop" ⟨[.ref I,.none,.ref S],[]⟩) R s:=by
 have sr:S∉wr:=λh=>u6 (W.sub _ h)
 have nm:(toString "max"++toString ".loop":String)= "max.loop":=by decide
 refine ach agd ?_;rw[abp acU _];refine(show aat _ A.in1 (afp (.ref S) >>= _) _ _ s from ?_);refine Zu (aba hS rfl ?_);refine(show aat _ A.in1 (tryCatch (adS (.ref I)) _ >>= _) _ _ s from ?_);refine Zu (acB (W.item 0 s _ _ (by decide) st λv h1 tk pv BN hk=>?_));have pC:=hk S _ sr hS;obtain rfl:=S0 v pv;refine(show aat _ A.in1 (aio S (λ_=>#[v,v]) >>= _) _ _ _ from Zu ?_);refine adn pC rfl ?_;rw[nm];have kk:∀b o,b∉wr->b≠S->s.heap.get? b=ae o->(h1.update S (aeD λ_=>#[v,v])).get? b=ae o:=λb o n1 n2 e=>(aaW _ _ (acu n2)).trans (hk b o n1 e)
 refine aad ⟨ab8 acU _,Fx (t:=t) W u6 (W.frame _ _ _ BN λb bf o e=>?_) hP (abi _ pC rfl) (λh2 sv Q E k2 q=>hc h2 sv Q E (λb o n1 n2 e=>k2 b o n1 (kk b o n1 n2 e)) q) λh2 sv k2=>k h2 sv λb o n1 n2 e=>k2 b o n1 n2 (kk b o n1 n2 e)⟩;exact(aaW _ _ (λz:S=b=>u6 (by rw[z];exact bf))).trans e
variable{E Q:aai->aah->Prop}
theorem Iu{a b:aai}{t:Bool}(hh:A.handled=af)
  (hc:∀h' tk (Q:aai->aah->Prop) (E:aai->aah->Prop),(∀c o,s.heap.get? c=ae o->h'.get? c=ae o)->Q (.bool t) { s with heap:=h',toks:=tk }->aat (aaL prog w) A.in1 (adw .Gt b a) Q E { s with heap:=h',toks:=tk })
  (k:∀h' tk,(∀c o,s.heap.get? c=ae o->h'.get? c=ae o)->Q (if t then b else a) { s with heap:=h',toks:=tk }):
  aat (aaL prog w) A (call (.builtin "max") [a,b]) Q E s:=by
 have nm:(toString "max"++toString ".loop":String)= "max.loop":=by decide
 have hT:(s.heap.push { cls:=.type "tuple",data:=.seq #[a,b] }).IsTuple s.heap.objs.size #[a,b]:=⟨_,aal _ rfl,rfl,0,rfl⟩;have sz:(s.heap.push { cls:=.type "tuple",data:=.seq #[a,b] }).objs.size=s.heap.objs.size+1:=abn ..;refine ahy F.kind_max F.plain_max F.entry_max (F.args_max2 _ _) ?_;refine(show aat _ A.in1 (acI "max" ["key","default"] 0 ⟨[],[]⟩ >>= _) _ _ s from ?_);refine Zu (afX (show acI "max" ["key","default"] 0 ⟨[],[]⟩=pure [af,af] from rfl) ?_);refine(show aat _ A.in1 (ahm [a,b] >>= _) _ _ s from Zu (aaH ?_));refine Zu (adJ hT ?_);refine Zu (aaH ?_);rw[nm];have W:=Walks.tuple (prog:=prog) (w:=w) (A:=A.in1) hh (s.heap.push { cls:=.type "tuple",data:=.seq #[a,b] }).objs.size s.heap.objs.size (by rw[sz];exact aaF (acv _)) #[a,b];have BO:((s.heap.push { cls:=.type "tuple",data:=.seq #[a,b] }).push { cls:=.type "tuple_iterator",data:=.fields #[.ref s.heap.objs.size,.int 0 0] }).objs.size=s.heap.objs.size+1+1:=by rw[abn,sz]
 refine aad ⟨ab8 acU _,DE (va:=a) (vb:=b) (t:=t) W ?_ ⟨⟨_,aab _ (aal _ rfl),rfl,rfl⟩,(hT.push _).push _⟩ (λv h=>by simpa using h.symm) (λv h=>by simpa using h.symm) (aal _ rfl) ?_ ?_⟩
 .intro hm
  rcases aaj.mp hm with e|hm
  .rw[sz,BO]at e;exact absurd e (ac0 (acv _))
  .rcases aaj.mp hm with e|hm
   .rw[BO]at e;exact absurd e (ac0 (afQ (acv _)))
   .cases hm
 .intro h' tk Q' E' hk q
  refine hc h' tk Q' E' (λc o e=>hk c o ?_ ?_ (aab _ (aab _ (aab _ e)))) q
  .have:=aan e
   intro hm;rw[aak.mp hm,sz]at this;exact aaZ _ (abh this)
  .have:=aan e
   intro z;rw[z,BO]at this;exact aaZ _ (abh (abh this))
 .intro h' tk hk
  refine k h' tk (λc o e=>hk c o ?_ ?_ (aab _ (aab _ (aab _ e))))
  .have:=aan e
   intro hm;rw[aak.mp hm,sz]at this;exact aaZ _ (abh this)
  .have:=aan e
   intro z;rw[z,BO]at this;exact aaZ _ (abh (abh this))
theorem Af{St:Nat->Heap->Prop}(W:Walks prog w A.in1 I fp wr 2 P St)(sr:S∉wr)(st:St 2 s.heap)
  (hS:s.heap.get? S=ae { cls:=.type "list",dict:=af,data:=.seq #[vb,vb] c,slots:=#[] })
  (k:∀h' tk,(∀b o,b∉wr->b≠S->s.heap.get? b=ae o->h'.get? b=ae o)->R (.ok (.ret vb)) { s with heap:=h',toks:=tk }):
  aeC (aaL prog w) A (.builtin "min.loop" ⟨[.ref I,.none,.ref S],[]⟩) R s:=by
 refine ach age ?_;rw[abp acV _];refine(show aat _ A.in1 (afp (.ref S) >>= _) _ _ s from ?_);refine Zu (aba hS rfl ?_);refine(show aat _ A.in1 (tryCatch (adS (.ref I)) _ >>= _) _ _ s from ?_);refine Zu (acB (W.done s _ _ st λh1 tk hk=>?_));have pC:=hk S _ sr hS;refine(show aat _ A.in1 (aio S (λ_=>#[]) >>= _) _ _ _ from Zu ?_);refine adn pC rfl (Zu (ac5 (aad (k _ tk ?_))));exact λb o n1 n2 e=>(aaW _ _ (acu n2)).trans (hk b o n1 e)
theorem Fy{t:Bool}{St:Nat->Heap->Prop}(W:Walks prog w A.in1 I fp wr 2 P St)(u6:S∉fp)(st:St 1 s.heap)(hP:∀v,P 1 v->v=vb)
  (hS:s.heap.get? S=ae { cls:=.type "list",dict:=af,data:=.seq #[va,va] c,slots:=#[] })
  (hc:∀h' tk (Q:aai->aah->Prop) (E:aai->aah->Prop),(∀b o,b∉wr->s.heap.get? b=ae o->h'.get? b=ae o)->Q (.bool t) { s with heap:=h',toks:=tk }->aat (aaL prog w) A.in1 (adw .Lt vb va) Q E { s with heap:=h',toks:=tk })
  (k:∀h' tk,(∀b o,b∉wr->b≠S->s.heap.get? b=ae o->h'.get? b=ae o)->R (.ok (.ret (if t then vb else va))) { s with heap:=h',toks:=tk }):
  aeC (aaL prog w) A (.builtin "min.loop" ⟨[.ref I,.none,.ref S],[]⟩) R s:=by
 have sr:S∉wr:=λh=>u6 (W.sub _ h)
 have nm:(toString "min"++toString ".loop":String)= "min.loop":=by decide
 refine ach age ?_;rw[abp acV _];refine(show aat _ A.in1 (afp (.ref S) >>= _) _ _ s from ?_);refine Zu (aba hS rfl ?_);refine(show aat _ A.in1 (tryCatch (adS (.ref I)) _ >>= _) _ _ s from ?_);refine Zu (acB (W.item 1 s _ _ (by decide) st λv h1 tk pv BN hk=>?_));have pC:=hk S _ sr hS;obtain rfl:=hP v pv;refine(show aat _ A.in1 (tryCatch (afi [v,v] (adw .Lt v va >>= _)) _ >>= _) _ _ _ from ?_);refine Zu (acB (aaP (Zu (hc h1 tk _ _ hk ?_))));refine Zu (aaP (abf (Zu (ac5 (aad ?_)))));cases t with
 |true=>
  simp only[if_true]at k |-
  refine Zu (adn pC rfl (Zu (ac5 ?_)));rw[nm];refine aad ⟨ab8 acV _,Af W sr (W.frame _ _ _ BN λb bf o e=>?_) (abi _ pC rfl) λh2 sv k2=>k h2 sv λb o n1 n2 e=>k2 b o n1 n2 ((aaW _ _ (acu n2)).trans (hk b o n1 e))⟩;exact(aaW _ _ (λz:S=b=>u6 (by rw[z];exact bf))).trans e
 |false=>
  simp only[aav,if_false]at k |-
  refine Zu (ac5 ?_);rw[nm];exact aad ⟨ab8 acV _,Af W sr BN pC λh2 sv k2=>k h2 sv λb o n1 n2 e=>k2 b o n1 n2 (hk b o n1 e)⟩
theorem DF{t:Bool}{St:Nat->Heap->Prop}(W:Walks prog w A.in1 I fp wr 2 P St)(u6:S∉fp)(st:St 0 s.heap)(S0:∀v,P 0 v->v=va)(hP:∀v,P 1 v->v=vb)
  (hS:s.heap.get? S=ae { cls:=.type "list",dict:=af,data:=.seq #[] c,slots:=#[] })
  (hc:∀h' tk (Q:aai->aah->Prop) (E:aai->aah->Prop),(∀b o,b∉wr->b≠S->s.heap.get? b=ae o->h'.get? b=ae o)->Q (.bool t) { s with heap:=h',toks:=tk }->aat (aaL prog w) A.in1 (adw .Lt vb va) Q E { s with heap:=h',toks:=tk })
  (k:∀h' tk,(∀b o,b∉wr->b≠S->s.heap.get? b=ae o->h'.get? b=ae o)->R (.ok (.ret (if t then vb else va))) { s with heap:=h',toks:=tk }):
  aeC (aaL prog w) A (.builtin "min.loop" ⟨[.ref I,.none,.ref S],[]⟩) R s:=by
 have sr:S∉wr:=λh=>u6 (W.sub _ h)
 have nm:(toString "min"++toString ".loop":String)= "min.loop":=by decide
 refine ach age ?_;rw[abp acV _];refine(show aat _ A.in1 (afp (.ref S) >>= _) _ _ s from ?_);refine Zu (aba hS rfl ?_);refine(show aat _ A.in1 (tryCatch (adS (.ref I)) _ >>= _) _ _ s from ?_);refine Zu (acB (W.item 0 s _ _ (by decide) st λv h1 tk pv BN hk=>?_));have pC:=hk S _ sr hS;obtain rfl:=S0 v pv;refine(show aat _ A.in1 (aio S (λ_=>#[v,v]) >>= _) _ _ _ from Zu ?_);refine adn pC rfl ?_;rw[nm];have kk:∀b o,b∉wr->b≠S->s.heap.get? b=ae o->(h1.update S (aeD λ_=>#[v,v])).get? b=ae o:=λb o n1 n2 e=>(aaW _ _ (acu n2)).trans (hk b o n1 e)
 refine aad ⟨ab8 acV _,Fy (t:=t) W u6 (W.frame _ _ _ BN λb bf o e=>?_) hP (abi _ pC rfl) (λh2 sv Q E k2 q=>hc h2 sv Q E (λb o n1 n2 e=>k2 b o n1 (kk b o n1 n2 e)) q) λh2 sv k2=>k h2 sv λb o n1 n2 e=>k2 b o n1 n2 (kk b o n1 n2 e)⟩;exact(aaW _ _ (λz:S=b=>u6 (by rw[z];exact bf))).trans e
theorem Iv{a b:aai}{t:Bool}(hh:A.handled=af)
  (hc:∀h' tk (Q:aai->aah->Prop) (E:aai->aah->Prop),(∀c o,s.heap.get? c=ae o->h'.get? c=ae o)->Q (.bool t) { s with heap:=h',toks:=tk }->aat (aaL prog w) A.in1 (adw .Lt b a) Q E { s with heap:=h',toks:=tk })
  (k:∀h' tk,(∀c o,s.heap.get? c=ae o->h'.get? c=ae o)->Q (if t then b else a) { s with heap:=h',toks:=tk }):
  aat (aaL prog w) A (call (.builtin "min") [a,b]) Q E s:=by
 have nm:(toString "min"++toString ".loop":String)= "min.loop":=by decide
 have hT:(s.heap.push { cls:=.type "tuple",data:=.seq #[a,b] }).IsTuple s.heap.objs.size #[a,b]:=⟨_,aal _ rfl,rfl,0,rfl⟩;have sz:(s.heap.push { cls:=.type "tuple",data:=.seq #[a,b] }).objs.size=s.heap.objs.size+1:=abn ..;refine ahy F.kind_min F.plain_min F.entry_min (F.args_min2 _ _) ?_;refine(show aat _ A.in1 (acI "min" ["key","default"] 0 ⟨[],[]⟩ >>= _) _ _ s from ?_);refine Zu (afX (show acI "min" ["key","default"] 0 ⟨[],[]⟩=pure [af,af] from rfl) ?_);refine(show aat _ A.in1 (ahm [a,b] >>= _) _ _ s from Zu (aaH ?_));refine Zu (adJ hT ?_);refine Zu (aaH ?_);rw[nm];have W:=Walks.tuple (prog:=prog) (w:=w) (A:=A.in1) hh (s.heap.push { cls:=.type "tuple",data:=.seq #[a,b] }).objs.size s.heap.objs.size (by rw[sz];exact aaF (acv _)) #[a,b];have BO:((s.heap.push { cls:=.type "tuple",data:=.seq #[a,b] }).push { cls:=.type "tuple_iterator",data:=.fields #[.ref s.heap.objs.size,.int 0 0] }).objs.size=s.heap.objs.size+1+1:=by rw[abn,sz]
 refine aad ⟨ab8 acV _,DF (va:=a) (vb:=b) (t:=t) W ?_ ⟨⟨_,aab _ (aal _ rfl),rfl,rfl⟩,(hT.push _).push _⟩ (λv h=>by simpa using h.symm) (λv h=>by simpa using h.symm) (aal _ rfl) ?_ ?_⟩
 .intro hm
  rcases aaj.mp hm with e|hm
  .rw[sz,BO]at e;exact absurd e (ac0 (acv _))
  .rcases aaj.mp hm with e|hm
   .rw[BO]at e;exact absurd e (ac0 (afQ (acv _)))
   .cases hm
 .intro h' tk Q' E' hk q
  refine hc h' tk Q' E' (λc o e=>hk c o ?_ ?_ (aab _ (aab _ (aab _ e)))) q
  .have:=aan e
   intro hm;rw[aak.mp hm,sz]at this;exact aaZ _ (abh this)
  .have:=aan e
   intro z;rw[z,BO]at this;exact aaZ _ (abh (abh this))
 .intro h' tk hk
  refine k h' tk (λc o e=>hk c o ?_ ?_ (aab _ (aab _ (aab _ e))))
  .have:=aan e
   intro hm;rw[aak.mp hm,sz]at this;exact aaZ _ (abh this)
  .have:=aan e
   intro z;rw[z,BO]at this;exact aaZ _ (abh (abh this))
end
section
variable{X:Cx}
theorem DG(hc:X.calm=true)(hu:X.A.units+64<cLine):eR X (.builtin "max") (λxs H Q=>∃p q ns ms,xs=[.ref p,.ref q]/\b_ X.K H p (ns.map V.int)/\b_ X.K H q (ms.map V.int)/\Q (if c_ ms ns then .ref q else .ref p) H):=by
 intro pins s σ H xs us Q I r h;obtain⟨p,q,ns,ms,rfl,h1,h2,k⟩:=h;obtain⟨u,w',rfl,e1,e2⟩:=vals2 r;cases e1;cases e2;refine Iu (t:=c_ ms ns) (I.ok.hd hc) (λh' tk Q' E' kp z=>?_) λh' tk kp=>⟨_,H,I.kept kp,?_,k⟩
 .have I1:=I.kept (t':=tk) kp
  obtain⟨Q6,r1,t1,_⟩:=I1.tuple h1;obtain⟨jU,r2,t2,_⟩:=I1.tuple h2;exact Ad t2 t1 (by simpa using ints_of r2) (by simpa using ints_of r1) (show X.A.units+1<cLine by omega) z
 .split<;>rfl
theorem DH(hc:X.calm=true)(hu:X.A.units+64<cLine):eR X (.builtin "min") (λxs H Q=>∃p q ns ms,xs=[.ref p,.ref q]/\b_ X.K H p (ns.map V.int)/\b_ X.K H q (ms.map V.int)/\Q (if c_ ns ms then .ref q else .ref p) H):=by
 intro pins s σ H xs us Q I r h;obtain⟨p,q,ns,ms,rfl,h1,h2,k⟩:=h;obtain⟨u,w',rfl,e1,e2⟩:=vals2 r;cases e1;cases e2;refine Iv (t:=c_ ns ms) (I.ok.hd hc) (λh' tk Q' E' kp z=>?_) λh' tk kp=>⟨_,H,I.kept kp,?_,k⟩
 .have I1:=I.kept (t':=tk) kp
  obtain⟨Q6,r1,t1,_⟩:=I1.tuple h1;obtain⟨jU,r2,t2,_⟩:=I1.tuple h2;exact Ir t2 t1 (by simpa using ints_of r2) (by simpa using ints_of r1) (show X.A.units+1<cLine by omega) z
 .split<;>rfl
end
end L2
namespace L2
open PySem PySem.Spec PyProof.Rows PySem.W
theorem Iw{P:aaD}{w:aa9}{H:Hp}{h:Heap}{a:Addr}{o:HO}(x:b7 P w H h a o):∃u,h.get? a=ae u:=by
 cases o with
 |lst xs=>obtain⟨_,_,_,_,e⟩:=x;exact⟨_,e⟩
 |tup xs=>obtain⟨_,_,_,ob,e,_⟩:=x;exact⟨_,e⟩
 |dK aN=>obtain⟨_,_,_,_,o,_,_,e,_⟩:=x;exact⟨_,e⟩
 |dT aN=>obtain⟨_,_,_,_,o,_,_,e,_⟩:=x;exact⟨_,e⟩
 |dU aN=>obtain⟨_,_,_,_,o,_,_,e,_⟩:=x;exact⟨_,e⟩
 |set S n=>obtain⟨o,_,_,_,e,_⟩:=x;exact⟨_,e⟩
 |ins C dx fs=>obtain⟨_,_,_,e,_⟩:=x;exact⟨_,e⟩
 |own y=>exact x
 |xd fs=>obtain⟨_,⟨_,_,_,e,_⟩,_⟩:=x;exact⟨_,e⟩
 |cN lo hi=>obtain⟨_,_,_,e⟩:=x;exact⟨_,e⟩
 |gr ob u=>obtain⟨e,_⟩:=x;exact⟨_,e⟩
 |CK ps=>exact⟨_,show h.get? a=ae _ from x⟩
 |met f y=>exact⟨_,show h.get? a=ae _ from x⟩
 |ext φ=>obtain⟨_,e,_⟩:=x;exact e
section
variable{X:Cx}{pins:List (Addr×Obj)}{σ:St}{H:Hp}{s:aah}
theorem Inv.Lh{h':Heap}{m:Str->Option aai}{D:Addr}{out:List aai}{xs:List V}{c:Nat}(I:Inv X pins σ H s)(hm:s.heap.Ns X.env.locals m)(F:Fr X.base X.env.locals h' m)
  (N:News X.base X.env.locals h' ((D,listOf out.toArray c)::oM X.base s.heap X.env.locals))(hD:∀q∈oM X.base s.heap X.env.locals,q.1<D)(r:Vals xs out)(hz:xs.length<=sizeLine):
  Inv X pins σ (upd H D (.lst xs)) { s with heap:=h' }/\H D=af:=by
 have d1:=N _ aao;have kp:∀b o,b≠X.env.locals->s.heap.get? b=ae o->h'.get? b=ae o:=λb o hb e=>by
  cases q:X.base.get? b with
  |some u=>
   have:=I.bk b u q;rw[e]at this;cases this;exact F.keep b _ q
  |none=>exact(N (b,o) (aap _ (sY hb q e))).1
 have sD:s.heap.get? D=af:=by
  cases q:s.heap.get? D with
  |none=>rfl
  |some o=>exact absurd (hD (D,o) (sY d1.2.1 d1.2.2 q)) (aaZ _)
 have Iy:H D=af:=by
  cases q:H D with
  |none=>rfl
  |some u=>
   obtain⟨o,e⟩:=Iw (I.bc D u q);rw[sD]at e;cases e
 refine⟨?_,Iy⟩;have ne:∀{b:Addr}{u:HO},H b=ae u->b≠D:=λq=>cO q Iy
 refine I.step (ch:=[]) (λb hb=>by cases hb) (λb o h1 _ _ e _=>kp b o h1 e) (λb o h1 _ _ e _=>⟨o.slots,kp b o h1 e⟩) (λb o _ e q=>?_) (λb o _ e=>?_) (λb xs q=>by rw[aV (ne q)];exact q) (λb o u q=>by rw[aV (ne q)];exact q) (λb ps q=>⟨#[],by rw[aV (ne q),Array.append_empty];exact q⟩) (λm' hn=>?_) ?_ I.bare
 .rw[aV (λz=>by rw[z,sD]at e;cases e)];exact q
 .by_cases hb:b=X.env.locals
  .obtain⟨o',_,_,ho,_⟩:=F.ns
   exact⟨o',by rw[hb];exact ho⟩
  .exact⟨o,kp b o hb e⟩
 .have:m'=m:=funext λx=>hn.agree hm x
  rw[this];exact F.ns
 .intro b u e
  by_cases hb:b=D
  .subst hb;rw[dI]at e;cases e
   exact⟨hz,out,c,r,d1.1⟩
  .rw[aV hb]at e
   have nL:∀{b:Addr}{u:HO},H b=ae u->b≠X.env.locals:=λq=>cO q I.free
   refine(I.bc b u e).vM (λd v hd q=>kp d v ?_ q) (λd q=>by rw[aV (ne q)];exact q) λd xs q=>by rw[aV (ne q)];exact q
   rcases hd with rfl|hd
   .exact nL e
   .exact nL hd
end
section
variable{prog:aaD}{w:aa9}{A:aa4}{s:aah}{Q:Bool->aah->Prop}
theorem tW{fin:Bool}:∀{xs ys:List aai}{x y:List Int} (i:Nat),ac4 xs x->ac4 ys y->(xs.length≠ys.length\/xs.length=ys.length->fin=decide (xs.length<ys.length))->Q (c_ y x) s->KatLex prog w A true fin Q (xs.zip ys) i s
 |[],ys,_,y,i,.nil,hy,hf,h=>by
  refine(show Q fin s from ?_);rw[hf (by omega)];cases hy with
  |nil=>simpa[c_]using h
  |cons _ _ _=>simpa[c_]using h
 |_,_,_,_,i,.cons n t (vs:=vs) (ns:=ns) hx,.nil,hf,h=>by
  refine(show Q fin s from ?_);rw[hf (by omega)];simpa[c_]using h
 |_,_,_,_,i,.cons n t (vs:=vs) (ns:=ns) hx,.cons k u (vs:=ws) (ns:=ms) hy,hf,h=>by
  refine(show aat (aaL prog w) A (eqBool (.int n t) (.int k u)) _ _ s from aeY ?_)
  by_cases hk:n=k
  .subst hk
   rw[beq_self_eq_true,if_pos rfl];refine tW (i+1) hx hy (λ_=>?_) (by simpa[c_]using h);have:=hf (by omega);simpa using this
  .rw[beq_eq_false_iff_ne.mpr hk,if_neg (by decide)]
   have e:c_ (k::ms) (n::ns)=decide (n<k):=by simp[c_,acu hk]
   rw[e]at h;cases hi:(i==0)with
   |true=>exact oneLt_int h
   |false=>exact kat_one _ _ (lt_int h)
theorem YX{cmp:Nat->Nat->(Bool->aah->Prop)->aah->Prop}{Q:Array Nat->aah->Prop}:(kas_sort 2).kasWp cmp Q s=cmp 1 0 (λb s'=>Q (if b=true then #[1,0] else #[0,1]) s') s:=by
 have e:kas_sort 2=KasT.ask 1 0 λb=>.ret (if b=true then #[1,0] else #[0,1]):=by
  unfold kas_sort kas_count;simp only[kas_asc,KasT.bind];refine congr (congr (congrArg KasT.ask rfl) rfl) (funext λb=>?_);cases b
  .rfl
  .with_unfolding_all rfl
 rw[e];rfl
end
section
variable{X:Cx}
theorem Ag{its:List aai}{n:Int}{ns:List Int}(h:ac4 its (n::ns)):∃t,its.toArray[0]? =ae (.int n t):=by
 cases h with
 |cons n t r=>exact⟨t,by simp⟩
theorem yw{M:Model}{h:Heap}{n:Int}{t:Tok}:Looks M h (typeOf (.int n t)) (.type "int"):=λ_ _ _ s _ q=>aad q
theorem qV(hu:X.A.units+64<cLine):eR X (.builtin "sorted") (λxs H Q=>∃l p q n ns k ms,xs=[.ref l]/\b8 X.K H l [.ref p,.ref q]/\b_ X.K H p ((n::ns).map V.int)/\b_ X.K H q ((k::ms).map V.int)/\∀D,H D=af->Q (.ref D) (upd H D (.lst (if c_ (n::ns) (k::ms)then [.ref q,.ref p] else [.ref p,.ref q])))):=by
 intro pins s σ H xs us Q I r h;obtain⟨l,p,q,n,ns,k,ms,rfl,hl,hp,hq,kk⟩:=h;obtain⟨u,rfl,e1⟩:=vals1 r;cases e1;obtain⟨its,rv,pl,_⟩:=I.list hl;obtain⟨u1,u2,rfl,e1,e2⟩:=vals2 rv;cases e1;cases e2;obtain⟨m,F⟩:=I.fr;refine kat_sorted (vs:=[.ref p,.ref q]) F HE pl.isList (aam 2) (aeS rfl) λD e1 h' F' N' hD=>?_
 obtain⟨I1,Iy⟩:=I.Lh (out:=[]) (c:=e1) F.ns F' N' hD .nil (abk _);obtain⟨Q6,r1,t1,_⟩:=I1.tuple ((iG Iy).Q0 hp);obtain⟨jU,r2,t2,_⟩:=I1.tuple ((iG Iy).Q0 hq);have i1:=ints_of r1;have i2:=ints_of r2;obtain⟨o1,g1,c1,m1,d1⟩:=t1;obtain⟨o2,g2,c2,m2,d2⟩:=t2;obtain⟨a1,z1⟩:=Ag i1;obtain⟨a2,z2⟩:=Ag i2;refine kat_kind (T:=.type "int") (fs:=[.int n a1,.int k a2]) (.cons g1 c1 d1 z1 (.cons g2 c2 d2 z2 .nil)) (aeS rfl) (λv hv=>?_) (by decide) ?_
 .rcases aaj.mp hv with rfl|hv
  .exact yw
  .rw[aak.mp hv];exact yw
 rw[show([aaw p,aaw q]:List aai).length=2 from rfl,YX];unfold kas_ask;refine kat_lt g2 d2 g1 d1 ?_;refine tW 0 (by simpa using i2) (by simpa using i1) (λ_=>by simp) ?_;refine KasFin.intro F' N' (.head λz hz=>aaF (hD z hz)) λh2 c2 F2 N2=>?_
 have YY:Vals (if c_ (n::ns) (k::ms)=true then [V.ref q,V.ref p] else [V.ref p,V.ref q]) (aiY (λi=>[aaw p,aaw q].getD i aby) (if c_ (n::ns) (k::ms)=true then #[1,0] else #[0,1]).toList):=by
  split
  .exact .cons rfl (.cons rfl .nil)
  .exact .cons rfl (.cons rfl .nil)
 obtain⟨I2,_⟩:=I.Lh F.ns F2 N2 hD YY (by rw[ag9];split<;>exact aeS rfl);exact⟨.ref D,_,I2,rfl,kk D Iy⟩
end
end L2
namespace L2
open PySem PySem.Spec PyProof.Rows
section
variable{prog:aaD}{w:aa9}{A:aa4}{E:aai->aah->Prop}
theorem Li{it l:Addr}{xs:Array aai}(ne:l≠it):∀(k i:Nat) (s:aah) (Q:List aai->aah->Prop),s.heap.IsListIter it l i->s.heap.IsList l xs->i+k<=xs.size->
  (∀h1,h1.IsListIter it l (i+k)->abo it s.heap h1->Q ((xs.toList.drop i).take k) { s with heap:=h1 })->aat (aaL prog w) A (draw (.ref it) k) Q E s
 |0,i,s,Q,w1,_,_,q=>aad (by simpa using q s.heap w1 (Heap.SameBut.refl ..))
 |k+1,i,s,Q,w1,w2,le,q=>by
  have lt:i<xs.size:=by omega
  refine(show aat _ _ (adS (.ref it) >>= _) Q E s from Zu ?_);refine agl w1 w2 (x:=xs[i]) (by simp[lt]) λh1 w3 sb=>?_
  refine Zu (aaP (Li ne k (i+1) _ _ w3 (w2.extBut sb.extBut ne) (by omega) λh2 w4 YZ=>aad ?_));have z:=q h2 (by rw[show i+(k+1)=i+1+k by omega];exact w4) (sb.trans YZ);rw[show xs.toList.drop i=xs[i]::xs.toList.drop (i+1)by simp[abm,lt],List.take_succ_cons]at z;exact z
theorem Lj{l:Addr}{xs:Array aai}{s:aah}{Q:List aai->aah->Prop}(hh:A.handled=af)(w2:s.heap.IsList l xs)
  (q:∀h1,aez s.heap.objs.size s.heap h1->Q xs.toList { s with heap:=h1 }):aat (aaL prog w) A (ag7 (.ref l) xs.size af) Q E s:=by
 have ne:l≠s.heap.objs.size:=by obtain⟨o,e,_⟩:=w2;exact aaF (aan e)
 unfold ag7;refine Zu ?_;unfold notIterableAtAll;refine Zu (adN w2.typeIs slot_list_iter.lookup (aad ?_));simp only[aav,if_false];refine Zu (aaP (adj w2 ?_));refine Zu (aaP (Li ne xs.size 0 _ _ ⟨_,aal _ rfl,rfl,rfl⟩ (w2.push _) (by omega) λh1 w3 sb=>?_));rw[show List.take xs.size (List.drop 0 xs.toList)=xs.toList by rw[List.drop_zero];exact ags (by simp),if_neg (by simp)];have w4:h1.IsList l xs:=(w2.push _).extBut sb.extBut ne;refine Zu (aaP (agB hh w3 w4 (by simp) λh2 eb=>?_));simp only[Option.isSome_none,aav,if_false];exact aad (q h2 λb o hb e=>eb b o hb (sb.extBut b o hb (aab _ e)))
end
section
variable{X:Cx}{pos:Pos}
def Wl(K:aaa)(n:Nat)(t:xK):TG:=λv σ H Q=>∃a xs,v= .ref a/\b8 K H a xs/\xs.length=n/\t xs σ H Q
theorem OX{es:List abl}{k:Nat}{t:xK}{n:Nat}(hc:X.calm=true)(h:Bl X es t)
  (hn:(ab5 es X.env).length=n:=by rfl)(rT:(ab5 es X.env).findIdx? (·.1)=af:=by rfl):PG X (.Tuple es k pos) (Wl X.K n t):=by
 intro pins s σ H v u Q I r hw;obtain⟨a,xs,e1,hq,hl,hw⟩:=hw;subst e1;cases r;obtain⟨its,rv,pl,_⟩:=I.list hq;have el:(ab5 es X.env).length=its.toArray.size:=by simp[hn,<-hl,rv.length]
 rw[assign_Tuple];refine Zu (aeh ?_);unfold unpack;rw[el,rT];refine Zu (aaP (Lj (I.ok.hd hc) pl.isList λh1 hx=>?_));have I1:Inv X pins σ H { s with heap:=h1 }:=I.kept (t':=s.toks) λb o e=>hx b o (aaF (aan e)) e
 exact h pins _ σ H xs _ Q I1 (by simpa using rv) hw
end
end L2
namespace Qm
open PySem
noncomputable section
def c_:List Int->List Int->Bool
 |[],_=>false
 |_::_,[]=>true
 |a::r,b::t=>if a=b then c_ r t else decide (a > b)
def nums(xs:List D):Option (List Int):=omap tL xs
def DI:G2:=λx y c=>match x,y with
 |.tup xs,.tup ys=>(nums xs).bind λns=>(nums ys).bind λms=>ae (.bl (c_ ns ms),c)
 |_,_=>af
def tX:FN:=λds c=>match ds with
 |[.tup xs,.tup ys]=>(nums xs).bind λns=>(nums ys).bind λms=>ae (if c_ ms ns=true then .tup ys else .tup xs,c)
 |_=>af
def tY:FN:=λds c=>match ds with
 |[.tup xs,.tup ys]=>(nums xs).bind λns=>(nums ys).bind λms=>ae (if c_ ns ms=true then .tup ys else .tup xs,c)
 |_=>af
def BP(xs:List D):Option (List D×List D×List Int×List Int):=match xs with
 |[.tup xs,.tup ys]=>(nums xs).bind λns=>(nums ys).bind λms=>if ns≠[]/\ms≠[] then ae (xs,ys,ns,ms)else af
 |_=>af
def iH:FN:=λds c=>match ds with
 |[.ref l]=>(cq (.ref l) c).bind λzs=>(BP zs).bind λq=>ae (.ref c.length,c++[.lst (if c_ q.2.2.1 q.2.2.2=true then [.tup q.2.1,.tup q.1] else [.tup q.1,.tup q.2.1])])
 |_=>af
def GO(n:Nat)(gs:wU):XG:=λd σ c=>(bp d c).bind λl=>if l.2.length=n then gs l.2 σ c else af
end
end Qm
namespace L2
open PySem PySem.Spec PyProof.Rows
theorem sA:aa6 "sorted" =ae (.builtin "sorted"):=by decide +kernel
theorem tZ:∀x y:List Int,c_ x y=Qm.c_ x y
 |[],y=>by cases y<;>rfl
 |_::_,[]=>rfl
 |a::r,b::t=>by simp only[c_,Qm.c_];rw[tZ r t]
section
variable{K:aaa}
theorem gA{ρ:Nat->Addr}{N:Nat}{H:Hp}:∀{xs:List Qm.D}{vs:List V}{ns:List Int},RA K ρ N H xs vs->Qm.nums xs=ae ns->vs=ns.map V.int
 |[],_,ns,a,h=>by cases a;cases h;rfl
 |x::xs,_,ns,a,h=>by
  cases a with
  |cons r a=>
   obtain⟨i,h1,h⟩:=aF h;obtain⟨ms,h2,h⟩:=aF h;cases h;rw[iV h1]at r;cases r.eL;rw[gA a h2];rfl
theorem OY:ie K (Q5 K) Qm.DI:=by
 intro ρ c H x y d c' v u Q rs rx ry e k;unfold Qm.DI at e;split at e
 .obtain⟨ns,e1,e⟩:=aF e
  obtain⟨ms,e2,e⟩:=aF e;cases e;obtain⟨p,vs,rfl,h1,a1⟩:=rx.g9;obtain⟨q,us,rfl,h2,a2⟩:=ry.g9;rw[gA a1 e1]at h1;rw[gA a2 e2]at h2;exact⟨p,q,ns,ms,rfl,rfl,b_.of h1,b_.of h2,by rw[tZ];exact k ρ _ H (Nx.refl rs) (.bl _)⟩
 .cases e
theorem Iz:mL K (λxs H Q=>∃p q ns ms,xs=[.ref p,.ref q]/\b_ K H p (ns.map V.int)/\b_ K H q (ms.map V.int)/\Q (if c_ ms ns then .ref q else .ref p) H) Qm.tX:=by
 intro ρ c H ds d c' vs Q rs ra e k;unfold Qm.tX at e;split at e
 .rename_i xs ys
  obtain⟨ns,e1,e⟩:=aF e;obtain⟨ms,e2,e⟩:=aF e;cases e;obtain⟨v,u,rfl,rx,ry⟩:=ra.kr;obtain⟨p,vs,rfl,h1,a1⟩:=rx.g9;obtain⟨q,us,rfl,h2,a2⟩:=ry.g9;have z1:=gA a1 e1;have z2:=gA a2 e2;refine⟨p,q,ns,ms,rfl,b_.of (z1 ▸ h1),b_.of (z2 ▸ h2),?_⟩;rw[tZ]
  by_cases g:Qm.c_ ms ns=true
  .rw[if_pos g]at k |-;exact k ρ _ H (Nx.refl rs) (.tup h2 a2)
  .rw[if_neg g]at k |-;exact k ρ _ H (Nx.refl rs) (.tup h1 a1)
 .cases e
theorem IA:mL K (λxs H Q=>∃p q ns ms,xs=[.ref p,.ref q]/\b_ K H p (ns.map V.int)/\b_ K H q (ms.map V.int)/\Q (if c_ ns ms then .ref q else .ref p) H) Qm.tY:=by
 intro ρ c H ds d c' vs Q rs ra e k;unfold Qm.tY at e;split at e
 .rename_i xs ys
  obtain⟨ns,e1,e⟩:=aF e;obtain⟨ms,e2,e⟩:=aF e;cases e;obtain⟨v,u,rfl,rx,ry⟩:=ra.kr;obtain⟨p,vs,rfl,h1,a1⟩:=rx.g9;obtain⟨q,us,rfl,h2,a2⟩:=ry.g9;have z1:=gA a1 e1;have z2:=gA a2 e2;refine⟨p,q,ns,ms,rfl,b_.of (z1 ▸ h1),b_.of (z2 ▸ h2),?_⟩;rw[tZ]
  by_cases g:Qm.c_ ns ms=true
  .rw[if_pos g]at k |-;exact k ρ _ H (Nx.refl rs) (.tup h2 a2)
  .rw[if_neg g]at k |-;exact k ρ _ H (Nx.refl rs) (.tup h1 a1)
 .cases e
theorem vW:mL K (λxs H Q=>∃l p q n ns k ms,xs=[.ref l]/\b8 K H l [.ref p,.ref q]/\b_ K H p ((n::ns).map V.int)/\b_ K H q ((k::ms).map V.int)/\∀D,H D=af->Q (.ref D) (upd H D (.lst (if c_ (n::ns) (k::ms)then [.ref q,.ref p] else [.ref p,.ref q])))) Qm.iH:=by
 intro ρ c H ds d c' vs Q rs ra e k;unfold Qm.iH at e;split at e
 .rename_i l
  obtain⟨zs,e1,e⟩:=aF e;obtain⟨⟨xs,ys,ns,ms⟩,e2,e⟩:=aF e;cases e;obtain⟨v,rfl,rx⟩:=ra.jB;obtain⟨ws,rfl,hl,a⟩:=rs.Du rx e1;unfold Qm.BP at e2;split at e2
  .obtain⟨Wm,f1,e2⟩:=aF e2
   obtain⟨ms',f2,e2⟩:=aF e2;split at e2
   .rename_i fm
    cases e2;obtain⟨v1,v2,rfl,r1,r2⟩:=a.kr;obtain⟨p,ps,rfl,h1,a1⟩:=r1.g9;obtain⟨q,qs,rfl,h2,a2⟩:=r2.g9;have z1:=gA a1 f1;have z2:=gA a2 f2;obtain⟨n,ns,rfl⟩:=afu fm.1;obtain⟨m,ms,rfl⟩:=afu fm.2;refine⟨_,p,q,n,ns,m,ms,rfl,hl,b_.of (z1 ▸ h1),b_.of (z2 ▸ h2),λD hD=>?_⟩;dsimp only at k |-
    rw[tZ]
    by_cases g:Qm.c_ (n::ns) (m::ms)=true
    .rw[if_pos g]at k |-
     obtain⟨nn,r⟩:=Nx.alloc rs hD (show RA K ρ c.length H [.tup ys,.tup xs] [.ref q,.ref p] from .cons (.tup h2 a2) (.cons (.tup h1 a1) .nil));exact k _ _ _ nn r
    .rw[if_neg g]at k |-
     obtain⟨nn,r⟩:=Nx.alloc rs hD (show RA K ρ c.length H [.tup xs,.tup ys] [.ref p,.ref q] from .cons (.tup h1 a1) (.cons (.tup h2 a2) .nil));exact k _ _ _ nn r
   .cases e2
  .cases e2
 .cases e
end
section
variable{X:Cx}{pos:Pos}{es:List abl}
theorem OZ{k0:Nat}{Dx:Qm.wU}{n:Nat}(hc:X.calm=true)(h:KQ X es Dx)(hn:(ab5 es X.env).length=n:=by rfl)(rT:(ab5 es X.env).findIdx? (·.1)=af:=by rfl):QG X (.Tuple es k0 pos) (Qm.GO n Dx):=(OX hc h hn rT).imp <| by
 rintro v σ H Q ⟨ρ,env,c,d,cM,c',rs,re,rd,e,k⟩;obtain⟨l,e1,e⟩:=aF e;split at e
 .rename_i hl
  obtain⟨_,hp,vs,rfl,h1,a1⟩:=rs.bp rd e1;exact⟨_,vs,rfl,.inl (.inl h1),by rw[<-a1.length];exact hl,ρ,env,c,l.2,cM,c',rs,re,a1,e,k⟩
 .cases e
end
end L2
namespace Qm
open PySem
noncomputable section
end
end Qm
namespace PySem
open Sem (wp)
section
variable{prog:aaD}{w:aa9}{K:Type}[DecidableEq K]{knd:KeyKind prog w K}{A:aa4}{E:aai->aah->Prop}{s:aah}
end
end PySem
namespace L2
open PySem PySem.Spec PyProof.Rows
section
variable{K:aaa}{ρ a_:Nat->Addr}{N:Nat}{c c':Qm.Cells}{H H':Hp}
end
section
variable{X:Cx}{a b e:abl}{es:List abl}{fa fb fc fe:Qm.XE}{pos apos cG:Pos}
theorem Ll:aa6 "dict" =ae (.type "dict"):=by decide +kernel
end
end L2
namespace L2
open PySem PySem.Spec PyProof.Rows
section
variable{X:Cx}
end
theorem fq.GP{k:Nat}{A:aa4}(r:fq k A):A.units+65<cLine:=by have:=r.un;omega
section
variable{K:aaa}{ρ:Nat->Addr}{c:Qm.Cells}{H:Hp}
end
end L2
namespace L2
open PySem PySem.Spec PyProof.Rows
end L2
namespace L2
open PySem PySem.Spec PyProof.Rows
end L2
namespace L2
open PySem PySem.Spec PyProof.Rows
section
variable{X:Cx}{es:List abl}{fr:Qm.XA}{p:Pos}
end
end L2
namespace L2
open PySem PySem.Spec PyProof.Rows
section
variable{X:Cx}{pins:List (Addr×Obj)}{σ:St}{H:Hp}{s:aah}{h':Heap}
theorem Inv.S3{ch:List Addr}{T:Addr}{o:HO}{t':Nat}(I:Inv X pins σ H s)(iE:∀b∈ch,jc X pins H b)(k:∀b u,b∉ch->s.heap.get? b=ae u->h'.get? b=ae u)(hT:s.heap.objs.size<=T)(new:b7 X.prog X.w (upd H T o) h' T o):
  Inv X pins σ (upd H T o) { s with heap:=h',toks:=t' }:=by
 have hn:H T=af:=I.bc.fresh hT;have ne:∀b u,s.heap.get? b=ae u->b≠T:=λb u e=>aaF (aaB (aan e) hT)
 have nc:∀b u,H b=ae u->b∉ch:=λb u e hb=>by rw[(iE b hb).1]at e;cases e
 refine I.step (g':=s.gens) (d':=s.drawn) (ch:=ch) (λb hb=>⟨(iE b hb).2.2.2.1,(iE b hb).2.1,(iE b hb).2.2.2.2.1,(iE b hb).2.2.2.2.2⟩) (λb u _ _ hc e _=>k b u hc e) (λb u _ _ hc e _=>⟨u.slots,k b u hc e⟩) (λb u _ e z=>by rw[aV (ne b u e)];exact z)
  (λb u hc e=>⟨u,k b u hc e⟩) (λb xs e=>by rw[aV (cO e hn)];exact e) (λb u v e=>by rw[aV (cO e hn)];exact e) (λb ps e=>⟨#[],by rw[aV (cO e hn),e];simp⟩) (λm hm=>?_) (λb u e=>?_) I.bare
 .obtain⟨ob,es,ep,ho,r⟩:=hm
  exact⟨ob,es,ep,k _ ob (λz=>(iE _ z).2.1 rfl) ho,r⟩
 .by_cases hb:b=T
  .subst hb
   rw[dI]at e;cases e;exact new
  .rw[aV hb]at e
   refine(I.bc b u e).vM (λc v hc q=>k c v ?_ q) (λc q=>by rw[aV (cO q hn)];exact q) λc xs q=>by rw[aV (cO q hn)];exact q
   rcases hc with z|z
   .rw[z];exact nc b u e
   .exact nc c _ z
theorem Inv.S4{ch:List Addr}{t':Nat}(I:Inv X pins σ H s)(iE:∀b∈ch,jc X pins H b)(k:∀b u,b∉ch->s.heap.get? b=ae u->h'.get? b=ae u):Inv X pins σ H { s with heap:=h',toks:=t' }:=by
 have nc:∀b u,H b=ae u->b∉ch:=λb u e hb=>by rw[(iE b hb).1]at e;cases e
 refine I.step (g':=s.gens) (d':=s.drawn) (ch:=ch) (λb hb=>⟨(iE b hb).2.2.2.1,(iE b hb).2.1,(iE b hb).2.2.2.2.1,(iE b hb).2.2.2.2.2⟩) (λb u _ _ hc e _=>k b u hc e) (λb u _ _ hc e _=>⟨u.slots,k b u hc e⟩) (λb u _ e z=>z)
  (λb u hc e=>⟨u,k b u hc e⟩) (λb xs e=>e) (λb u v e=>e) (λb ps e=>⟨#[],by rw[e];simp⟩) (λm hm=>?_) (λb u e=>?_) I.bare
 .obtain⟨ob,es,ep,ho,r⟩:=hm
  exact⟨ob,es,ep,k _ ob (λz=>(iE _ z).2.1 rfl) ho,r⟩
 .refine(I.bc b u e).vM (λc v hc q=>k c v ?_ q) (λc q=>q) λc xs q=>q
  rcases hc with z|z
  .rw[z];exact nc b u e
  .exact nc c _ z
end
def S5(K:aaa)(a b:Addr):It:=
 ⟨λi H=>∃xs ys x y,b_ K H a xs/\b_ K H b ys/\xs[i]? =ae x/\ys[i]? =ae y,
      λi H v H'=>∃T,v= .ref T/\H T=af/\∀xs ys,b_ K H a xs->b_ K H b ys->∃x y,xs[i]? =ae x/\ys[i]? =ae y/\H'=upd H T (.tup [x,y]),
      λi H=>∃xs ys,b_ K H a xs/\b_ K H b ys/\(xs.length<=i\/ys.length<=i)⟩
def S6(K:aaa)(t:TA):TI:=λσ H R=>t σ H λvs H1=>∃a b xs ys,vs=[.ref a,.ref b]/\b_ K H1 a xs/\b_ K H1 b ys/\R (S5 K a b) H1
section
variable{X:Cx}{e1 e2:abl}{p0 p1 p2 pos:Pos}{f:Qm.XA}{es:List abl}{k0:Nat}
theorem u7{xs ys:List Qm.D}{i:Nat}{d:Qm.D}(h:(Qm.gZ xs ys)[i]? =ae d):∃x y,xs[i]? =ae x/\ys[i]? =ae y/\d= .tup [x,y]:=by
 unfold Qm.gZ at h;rw[aaq]at h;cases e:(xs.zip ys)[i]? with
 |none=>rw[e]at h;cases h
 |some p=>
  rw[e]at h;cases h;obtain⟨h1,h2⟩:=afE.mp e;exact⟨p.1,p.2,h1,h2,rfl⟩
end
end L2
namespace Qm
open PySem
noncomputable section
open Classical in
def DJ(x y:D)(c:Cells):Option Bool:=(data c 60 x).bind λd=>(data c 60 y).bind λe=>ae (decide (d=e))
def Ah:G2:=λx y c=>(DJ x y c).bind λb=>ae (.bl b,c)
def DK:G2:=λx y c=>(DJ x y c).bind λb=>ae (.bl (!b),c)
end
end Qm
namespace L2
open PySem PySem.Spec PyProof.Rows
section
variable{K:aaa}
theorem Ai{ρ:Nat->Addr}{c:Qm.Cells}{H:Hp}{x y:Qm.D}{v u:V}{b:Bool}(rs:RS K ρ c H)(rx:RD K ρ c.length H x v)(ry:RD K ρ c.length H y u)(h:Qm.DJ x y c=ae b):
  ∃d e,lr K H v d/\lr K H u e/\abI d=true/\abI e=true/\abr d e=b:=by
 unfold Qm.DJ at h;obtain⟨d,h1,h⟩:=aF h;obtain⟨e,h2,h⟩:=aF h;cases h;obtain⟨a1,a2,a3,a4⟩:=nV rs 60 rx h1;obtain⟨b1,b2,b3,b4⟩:=nV rs 60 ry h2;refine⟨d,e,a1,b1,by simp[abI,a2];omega,by simp[abI,b2];omega,?_⟩;have:=pA d e a4 b4
 by_cases q:d=e
 .rw[this.mpr q];simp[q]
 .cases z:abr d e with
  |false=>simp[q]
  |true=>exact absurd (this.mp z) q
theorem O0:ie K (λx y H Q=>Of x y H Q\/vT K false x y H Q) Qm.Ah:=by
 intro ρ c H x y d c' v u Q rs rx ry e k;obtain⟨b,e1,e⟩:=aF e;cases e;obtain⟨dd,ee,a1,a2,a3,a4,a5⟩:=Ai rs rx ry e1;refine .inr ⟨dd,ee,a1,a2,a3,a4,?_⟩;rw[if_neg (by decide),a5];exact k ρ _ H (Nx.refl rs) (.bl _)
theorem O1:ie K (λx y H Q=>Og x y H Q\/vT K true x y H Q) Qm.DK:=by
 intro ρ c H x y d c' v u Q rs rx ry e k;obtain⟨b,e1,e⟩:=aF e;cases e;obtain⟨dd,ee,a1,a2,a3,a4,a5⟩:=Ai rs rx ry e1;refine .inr ⟨dd,ee,a1,a2,a3,a4,?_⟩;rw[if_pos rfl,a5];exact k ρ _ H (Nx.refl rs) (.bl _)
end
section
variable{X:Cx}{e1:abl}{p0 p1 p2 pos:Pos}{f:Qm.XA}{es:List abl}{k0:Nat}
end
end L2
namespace L2
open PySem PySem.Spec PyProof.Rows
section
variable{X:Cx}{pins:List (Addr×Obj)}{σ:St}{H:Hp}{s:aah}{h':Heap}
end
section
variable{X:Cx}{tg l:abl}{tl:TE}
end
section
variable{K:aaa}{ρ a_:Nat->Addr}{N:Nat}{c c':Qm.Cells}{H H':Hp}
end
section
variable{X:Cx}{e a b tg:abl}{fe fa fb:Qm.XE}{pos:Pos}
end
end L2
namespace L2
open PySem PySem.Spec PyProof.Rows
section
variable{X:Cx}{pins:List (Addr×Obj)}{σ:St}{H:Hp}{s:aah}
end
end L2
namespace Qm
open PySem
noncomputable section
end
end Qm
namespace Qm
open PySem
noncomputable section
end
end Qm
namespace L2
open PySem PySem.Spec PyProof.Rows
section
variable{X:Cx}
end
section
variable{K:aaa}{ρ:Nat->Addr}{c:Qm.Cells}{H:Hp}
end
end L2
namespace PySem
open Sem (wp)
open AutoSeq1 (wpAny_loadPart')
open MeetsSeq MeetsSeq2 MeetsSeq3 SeqRoads2
section
variable{P:aaD}{W:aa9}
variable{A:aa4}{E:aai->aah->Prop}{s:aah}
end
end PySem
namespace L2
open PySem PySem.Spec PyProof.Rows
section
variable{X:Cx}
end
section
variable{K:aaa}{ρ:Nat->Addr}{c:Qm.Cells}{H:Hp}
end
end L2
namespace Qm
open PySem
noncomputable section
def sC(a:XA):XI:=λσ c=>(a σ c).bind λp=>match p.1 with
 |[.ref n,.ref m]=>(p.2[n]?).bind λz=>(p.2[m]?).bind λy=>(bp (.ref n) p.2).bind λl=>(bp (.ref m) p.2).bind λk=>ae (⟨gZ l.2 k.2,[(n,z),(m,y)]⟩,p.2)
 |_=>af
def jl:G2:=λx y c=>(bp x c).bind λl=>(bp y c).bind λk=>if k.2.isEmpty=true then ae (.bl l.2.isEmpty,c)else af
end
end Qm
namespace PySem
open Sem (wp)
section
variable{prog:aaD}{w:aa9}{A:aa4}{E:aai->aah->Prop}{s:aah}{I:Addr}{fp wr:List Addr}{G:Array af0->Array af0->Prop}{n:Nat}{P:Nat->aai->Prop}{St:Nat->aah->Prop}
end
end PySem
namespace L2
open PySem PySem.Spec PyProof.Rows
section
variable{X:Cx}
end
end L2
namespace L2
open PySem PySem.Spec PyProof.Rows
theorem u9{m a b:Nat}(ha:a<m)(hb:b<m):aib (m+4) (m+2) (m+3) m (m+1) a b:=by
 constructor<;>first|exact aaF (by omega)|exact ac0 (by omega)
def Lm(K:aaa)(a b:Addr):It:=
 ⟨λi H=>∃xs ys x y,b8 K H a xs/\b8 K H b ys/\xs[i]? =ae x/\ys[i]? =ae y,
      λi H v H'=>∃T,v= .ref T/\H T=af/\∀xs ys,b8 K H a xs->b8 K H b ys->∃x y,xs[i]? =ae x/\ys[i]? =ae y/\H'=upd H T (.tup [x,y]),
      λi H=>∃xs ys,b8 K H a xs/\b8 K H b ys/\(xs.length<=i\/ys.length<=i)⟩
def GR(K:aaa)(t:TA):TI:=λσ H R=>t σ H λvs H1=>∃a b xs ys,vs=[.ref a,.ref b]/\b8 K H1 a xs/\b8 K H1 b ys/\R (Lm K a b) H1
section
variable{X:Cx}{e1 e2:abl}{p0 p1 p2 pos:Pos}{f:Qm.XA}{es:List abl}{k0:Nat}
theorem IB{K:aaa}{f:Qm.XA}:∀σ H R,IQ K (Qm.sC f) σ H R->GR K (AQ K f) σ H R:=by
 rintro σ H R ⟨ρ,env,c,m,c',rs,re,e,k⟩;obtain⟨p,ea,e⟩:=aF e;refine⟨ρ,env,c,p.1,p.2,rs,re,ea,λaR vs H1 n1 r1=>?_⟩;split at e
 .rename_i n m' hp
  obtain⟨z,e2,e⟩:=aF e;obtain⟨y,e3,e⟩:=aF e;obtain⟨l,e4,e⟩:=aF e;obtain⟨l2,e5,e⟩:=aF e;cases e;rw[hp]at r1;obtain⟨v,u,rfl,rx,ry⟩:=r1.kr;obtain⟨hv,hn⟩:=rx.mK;obtain⟨hu,BR⟩:=ry.mK;subst hv hu;obtain⟨dn,BS,ws,_,h1,a1⟩:=n1.rs.bp (d:=.ref n) (.ref hn) (show Qm.bp (.ref n) p.2=ae (l.1,l.2)from e4);obtain⟨S7,DL,BC,_,Ln,Y0⟩:=n1.rs.bp (d:=.ref m') (.ref BR) (show Qm.bp (.ref m') p.2=ae (l2.1,l2.2)from e5);have S8:l.1=n:=by cases dn;rfl
  have Lo:l2.1=m':=by cases S7;rfl
  rw[S8]at BS h1;rw[Lo]at DL Ln;refine⟨_,_,ws,BC,rfl,b8.of h1,b8.of Ln,k aR _ H1 n1 λja c2 H2 u2 qK oI=>?_⟩;have hz:z= .lst l.2:=by rw[e2]at BS;exact aaI BS
  have hy:y= .lst l2.2:=by rw[e3]at DL;exact aaI DL
  obtain⟨us,h2,a2⟩:=qK.lst (by rw[<-hz];exact oI (n,z) (by simp));obtain⟨u_,BU,Lp⟩:=qK.lst (by rw[<-hy];exact oI (m',y) (by simp));rw[u2.agree n hn]at h2;rw[u2.agree m' BR]at BU;have l1:=a2.length;have Y1:=Lp.length;have hl:(Qm.gZ l.2 l2.2).length=min l.2.length l2.2.length:=by simp[Qm.gZ]
  refine⟨λi hi=>?_,⟨us,u_,b8.of h2,b8.of BU,?_⟩,λi d x H' hd hy=>?_⟩
  .dsimp only at hi
   have g1:i<us.length:=by omega
   have g2:i<u_.length:=by omega
   exact⟨us,u_,us[i],u_[i],b8.of h2,b8.of BU,aac g1,aac g2⟩
  .show us.length<=(Qm.gZ l.2 l2.2).length\/u_.length<=(Qm.gZ l.2 l2.2).length
   omega
  .obtain⟨T,rfl,hT,hy⟩:=hy
   obtain⟨x',y',g1,g2,rfl⟩:=hy us u_ (b8.of h2) (b8.of BU);obtain⟨dx,dy,f1,f2,rfl⟩:=u7 hd;obtain⟨v1,q1,r1⟩:=a2.get f1;obtain⟨v2,q2,r2⟩:=Lp.get f2;rw[g1]at q1;cases q1;rw[g2]at q2;cases q2;have n:=Nx.same qK (iG (z:=.tup [x',y']) hT);exact⟨n,.tup dI (.cons (r1.up n.up) (.cons (r2.up n.up) .nil))⟩
 .cases e
end
end L2
namespace PySem
open Sem (wp)
open AutoSeq1 (wpAny_loadPart')
open MeetsSeq MeetsSeq2 MeetsSeq3 SeqRoads2
section
variable{P:aaD}{W:aa9}
theorem IC(la lb:Addr)(n1 n2:Nat)(d1 d2:Option Addr)(s1 s2:Array (Option aai)):MeetsIn P W (adF.«list.__eq__.loop» ⟨[.ref la,.ref lb,aev (0:Nat),aev 2],[]⟩)
  (λA R s=>s.heap.get? la=ae { cls:=.type "list",dict:=d1,data:=.seq #[] n1,slots:=s1 }/\s.heap.get? lb=ae { cls:=.type "list",dict:=d2,data:=.seq #[] n2,slots:=s2 }/\R (.ok (.ret (.bool true))) s):=by
 intro A R s hyp;obtain⟨hp,gg,dd,tk,os⟩:=s;obtain⟨hl,hb,hyp⟩:=hyp
 wp_walk using ab0 hl,ab0 hb
 try (have i1:(#[]:Array aai)[((0:Nat):Int).toNat]? =af:=by simp
      rw[i1])
 wp_walk using ab0 hl,ab0 hb
 exact hyp
theorem nil_eq(la lb:Addr)(its:Array aai)(n1 n2:Nat)(d1 d2:Option Addr)(s1 s2:Array (Option aai)):MeetsIn P W (adF.«list.__eq__» ⟨[.ref la,.ref lb],[]⟩)
  (λA R s=>s.heap.get? la=ae { cls:=.type "list",dict:=d1,data:=.seq its n1,slots:=s1 }/\s.heap.get? lb=ae { cls:=.type "list",dict:=d2,data:=.seq #[] n2,slots:=s2 }/\R (.ok (.ret (.bool its.isEmpty))) s):=by
 intro A R s hyp;obtain⟨hp,gg,dd,tk,os⟩:=s;obtain⟨hl,hb,hyp⟩:=hyp;have f3:=agt
 by_cases h0:its= #[]
 .subst h0
  have fm:¬((#[]:Array aai).size != (#[]:Array aai).size)=true:=by simp
  wp_walk using ab0 hl,ab0 hb
  refine⟨ab8 plain_eq_loop _,ach entry_eq_loop ?_⟩;rw[abp plain_eq_loop _];exact IC la lb n1 n2 d1 d2 s1 s2 A R _ ⟨hl,hb,hyp⟩
 .have Wn:(its.size != (#[]:Array aai).size)=true:=by
   have:its.size≠0:=λe=>h0 (Array.eq_empty_of_size_eq_zero e)
   simpa using this
  have he:its.isEmpty=false:=by simpa[Array.isEmpty_iff]using h0
  rw[he]at hyp
  wp_walk using ab0 hl,ab0 hb
  exact hyp
end
end PySem
namespace L2
open PySem PySem.Spec PyProof.Rows
def GS(K:aaa):R2:=λx y H Q=>∃a b xs,x= .ref a/\y= .ref b/\b8 K H a xs/\b8 K H b []/\Q (.bl xs.isEmpty) H
section
variable{X:Cx}
theorem Aj(hu:X.A.units+65<cLine):eZ X (abq .Eq) (GS X.K):=by
 intro pins s σ H x y v u Q I rx ry h;obtain⟨a,b,xs,rfl,rfl,h1,h2,q⟩:=h;cases rx;cases ry;obtain⟨ia,va,ta,_⟩:=I.list h1;obtain⟨ib,vb,tb,_⟩:=I.list h2;have hb:ib=[]:=by cases vb;rfl
 subst hb;obtain⟨⟨cc,da,dt,ss⟩,ho,hc,n1,hd⟩:=ta.isList;obtain⟨⟨cc',Y2,dt',Y3⟩,oO,cP,n2,NH⟩:=tb.isList;simp only at hc hd cP NH;subst hc hd cP NH;have e:ia.toArray.isEmpty=xs.isEmpty:=by
  have la:=va.length;cases ia<;>cases xs<;>simp_all
 refine acH (op:=.Eq) (T:="list") ⟨_,ho,rfl⟩ ⟨_,oO,rfl⟩ F.slot_list_eq (ahU F.slot_list_eq ⟨_,ho,rfl⟩ F.entry_list_eq (F.args_list_eq_2 _ _) (nil_eq a b ia.toArray n1 n2 da Y2 ss Y3) ⟨ho,oO,(λx=>nomatch x),?_⟩) (by omega);rw[e];exact⟨.bl _,H,I,rfl,q⟩
end
theorem Ak{K:aaa}:ie K (GS K) Qm.jl:=by
 intro ρ c H x y d c' v u Q rs rx ry e k;obtain⟨l,f1,e⟩:=aF e;obtain⟨m,f2,e⟩:=aF e;split at e
 .rename_i hm
  cases e;obtain⟨_,_,ws,rfl,h1,a1⟩:=rs.bp rx f1;obtain⟨_,_,vs,rfl,h2,a2⟩:=rs.bp ry f2;have Y4:m.2=[]:=by simpa using hm
  rw[Y4]at a2;have hv:vs=[]:=by cases a2;rfl
  subst hv;have he:ws.isEmpty=l.2.isEmpty:=by
   have la:=a1.length;cases ws<;>cases h:l.2<;>simp_all
  refine⟨_,_,ws,rfl,rfl,b8.of h1,b8.of h2,?_⟩;rw[he];exact k ρ _ H (Nx.refl rs) (.bl _)
 .cases e
end L2
namespace Qm
open PySem
noncomputable section
def t4(tab:List (Nat×FN))(f:XE)(a:XA):XE:=λσ c=>(f σ c).bind λp=>match p.1 with
 |.adr x=>(tab.lookup x).bind λF=>(a σ p.2).bind λq=>F q.1 q.2
 |_=>af
def pD(lo:Int)(n:Nat):List D:=(adg n).map λ(i:Nat)=>.int (lo+i*2)
open Classical in
def BV(a:XA):XI:=λσ c=>(a σ c).bind λp=>match p.1 with
 |[.int i,.int j,.int k]=>if k=2/\KJ i/\KJ j then ae (⟨pD i ((j - i+1) / 2).toNat,[]⟩,p.2)else af
 |_=>af
def Lq:XE:=λ_ _=>af
end
end Qm
namespace L2
open PySem PySem.Spec PyProof.Rows
structure GU(X:Cx)(f:Addr)(F:Qm.FN):Prop where
 ex:∃(k:Nat) (fd:aaC) (ps:List Str),bE X.prog X.w X.K X.mg X.base cU k f fd ps (dq X.K F)/\fq k X.A/\abX X.K (.ref f)=true/\Binds X.K fd ps []
section
variable{X:Cx}{e:abl}{es:List abl}{x:Str}{p pos:Pos}{fx:Qm.XA}{fe:Qm.XE}
theorem lookup_mem{tab:List (Nat×Qm.FN)}{a:Nat}{F:Qm.FN}(h:tab.lookup a=ae F):(a,F)∈tab:=by
 induction tab with
 |nil=>cases h
 |cons q r ih=>
  obtain⟨b,G⟩:=q;rw[acT]at h;cases hb:(a==b)with
  |true=>
   rw[hb]at h;cases h;have:a=b:=by simpa using hb
   subst this;exact aao ..
  |false=>
   rw[hb]at h;exact aap _ (ih h)
theorem ID(tab:List (Nat×Qm.FN))(hT:∀q∈tab,GU X q.1 q.2)(hv:QE X (.Name x p) fe)(ha:QA X (e::es) fx)
  (he:aau (e::es) X.env=(false,adL e X.env)::aau es X.env:=by rfl)(fQ:(acy pos (aau es X.env)).any (·.1)=false:=by rfl):
  QE X (.Call (.Name x p) (e::es) [] pos) (Qm.t4 tab fe fx):=by
 intro pins s σ H Q I ⟨ρ,env,c,d,c',rs,re,h,k⟩;obtain⟨q,e1,h⟩:=aF h;split at h
 .rename_i a hq
  obtain⟨F,e2,h⟩:=aF h;obtain⟨r,e3,h⟩:=aF h;obtain⟨lv,fd,ps,G,hr,hk,hb⟩:=(hT _ (lookup_mem e2)).ex;refine abx (bN (hv pins s σ H (λv H1=>v= .ref a/\∃aR,Nx X.K ρ c H aR q.2 H1) I ⟨ρ,env,c,q.1,q.2,rs,re,e1,λaR v H1 n1 r1=>?_⟩) λu s1 ⟨v,H1,I1,rv,Y5,aR,n1⟩=>?_)
  .rw[hq]at r1
   cases r1;exact⟨rfl,aR,n1⟩
  .subst Y5
   cases (show u=aaw a from rv);have t1:Fe (dq X.K F) [] E0 (AQ X.K fx) σ H1 Q:=⟨aR,env,q.2,r.1,r.2,n1.rs,re.up n1.up,e3,λja vs H2 n2 r2=>⟨ja,r.2,r.1,d,c',n2.rs,by simpa using r2,h,λa_ v H' n r=>k a_ v H' ((n1.trans n2).trans n) r⟩⟩;refine ahr (h₀:=X.base) I.ok.mod.HF hk (bN (ha pos pins s1 σ H1 _ I1 t1) λus s2 ⟨vs,H2,I2,r,q⟩=>⟨I2.oG,?_⟩) he fQ;exact Gu G hr hb .nil Kn I2 r q
 .cases h
theorem Lr{a:Nat}(hg:Gl X x)(hm:X.mg x=ae (.ref a))(hd:(x==("__debug__":Str))=false:=by decide):QE X (.Name x pos) (Qm.eC (.adr a)):=
 tR (.adr a) (JF (v:=.ref a) hg hm rfl hd) λ_ _ _=>.adr a
theorem Ls:QE X e Qm.Lq:=λ_ _ _ _ _ _ ⟨_,_,_,_,_,_,_,h,_⟩=>by cases h
end
def GV(lo:Int)(n:Nat):It:=⟨λi _=>i<n,λi H x H'=>H'=H/\x= .int (lo+i*2),λi _=>n<=i⟩
theorem BW{P:aaD}{w:aa9}{K:aaa}{tg:abl}(it:Addr)(lo:Int)(n:Nat):Turn P w K tg (GV lo n) [it] it (λi h=>ag8 h it (lo+(i:Nat)*2) ((n:Int) - (i:Nat)) 2) where
 mem:=by simp
 obj:=λi h st b hb=>by
  have e:b=it:=by simpa using hb
  subst e;exact⟨_,st,λv z=>by
   have z':Data.fields _=Data.cell v:=z;cases z'⟩
 keep:=λi h h' st k=>k it (by simp) _ st
 item:=by
  intro X hP hw hK hc i pins s σ H E I hf st hg;subst hP hw hK;obtain⟨f0,f1,f2,f3,f4,f5⟩:=hf it (by simp);have W:=Walks.range (prog:=X.prog) (w:=X.w) (I.ok.hd hc) it lo 2 n;refine W.item i s _ _ hg st λv h' tk hv qI kk=>?_
  obtain⟨t,rfl⟩:=hv;have I1:Inv X pins σ H { s with heap:=h',toks:=tk }:=I.turned (λb o hb e=>kk b o (by simpa using hb) e) f0 f1 f3 f4 f5;exact⟨_,rfl,xM (s:={ s with heap:=h',toks:=tk }) (n:="range_iterator") qI rfl rfl (by decide) ⟨.int (lo+i*2),H,I1,⟨t,rfl⟩,⟨rfl,rfl⟩,qI,λb hb=>(hf b hb).1⟩⟩
 done:=by
  intro X hP hw hK hc i pins s σ H E I hf st hg;subst hP hw hK;obtain⟨f0,f1,f2,f3,f4,f5⟩:=hf it (by simp);exact agm (I.ok.hd hc) st (by have:n<=i:=hg;omega) λh' eb=>⟨rfl,I.turned (t':=s.toks) (λb o hb e=>eb b o hb e) f0 f1 f3 f4 f5⟩
 self:=λ_ _ _ _ _ st h=>agn st h
section
variable{X:Cx}{tg:abl}
variable{lo:Int}
theorem O2{hi:Int}(h1: -(2 ^ 62)<=lo)(h2:lo<2 ^ 62)(h3: -(2 ^ 62)<=hi)(h4:hi<2 ^ 62):ahf lo hi 2=true:=by
 have e:acz lo hi 2=if lo<hi then(hi - lo - 1) / 2+1 else 0:=by
  unfold acz;rw[if_pos (by decide)]
 unfold ahf;rw[e];simp only[Builtin.Range.rangeFitsLong,abe,ain,decide_eq_true_eq,beq_iff_eq,show(2:Int) > 0 by decide,if_true];split<;>omega
theorem Fz{pins:List (Addr×Obj)}{σ:St}{H:Hp}{s:aah}{R:It->Hp->Prop}{E:aai->aah->Prop}{hi:Int}{t u v:Tok}{tk:Nat}(I:Inv X pins σ H s)(h1: -(2 ^ 62)<=lo)(h2:lo<2 ^ 62)(h3: -(2 ^ 62)<=hi)(h4:hi<2 ^ 62)
  (q:R (GV lo ((hi - lo+1) / 2).toNat) H):aat (aaL X.prog X.w) X.A (aiJ (.ref s.heap.objs.size)) (RM X pins σ tg R) E { s with heap:=s.heap.push { cls:=.type "range",data:=.fields #[.int lo t,.int hi u,.int 2 v] },toks:=tk }:=by
 refine ahq (aiT ..) (O2 h1 h2 h3 h4) ?_;have I1:Inv X pins σ H { s with heap:=s.heap.push { cls:=.type "range",data:=.fields #[.int lo t,.int hi u,.int 2 v] },toks:=tk }:=I.kept λb o e=>aab _ e
 refine⟨(s.heap.push { cls:=.type "range",data:=.fields #[.int lo t,.int hi u,.int 2 v] }).objs.size,[(s.heap.push { cls:=.type "range",data:=.fields #[.int lo t,.int hi u,.int 2 v] }).objs.size],_,_,H,rfl,
  I1.kept (t':=tk) λb o e=>aab _ e,BW _ lo ((hi - lo+1) / 2).toNat,?_,λb hb=>?_,q⟩
 .have e1:lo+((0:Nat):Int)*2=lo:=by simp
  have e2:((((hi - lo+1) / 2).toNat:Nat):Int) - ((0:Nat):Int)=acz lo hi 2:=by
   unfold acz;rw[if_pos (by decide)];split<;>omega
  show ag8 _ _ (lo+((0:Nat):Int)*2) (((((hi - lo+1) / 2).toNat:Nat):Int) - ((0:Nat):Int)) 2;rw[e1,e2];exact aal _ rfl
 .have e:b=(s.heap.push { cls:=.type "range",data:=.fields #[.int lo t,.int hi u,.int 2 v] }).objs.size:=by simpa using hb
  subst e;exact I1.s_ (aam _) (I1.bc.fresh (aam _))
def O3(ta:TA):TI:=λσ H R=>ta σ H λvs H1=>∃i j:Int,vs=[.int i,.int j,.int 2]/\(-(2 ^ 62)<=i/\i<2 ^ 62/\-(2 ^ 62)<=j/\j<2 ^ 62)/\R (GV i ((j - i+1) / 2).toNat) H1
theorem FA{a b d:abl}{ta:TA}{p pos:Pos}(hg:Gl X "range")(hm:X.mg "range" =af)(ha:PA X [a,b,d] ta)(hs:aau [a,b,d] X.env=(false,adL a X.env)::aau [b,d] X.env:=by rfl)(fQ:(acy pos (aau [b,d] X.env)).any (·.1)=false:=by rfl):
  PI X tg (.Call (.Name "range" p) [a,b,d] [] pos) (O3 ta):=by
 intro pins s σ H R I h;refine Call_ (iM I hg hm boot_range (aa0 (bN (ha pos pins s σ H _ I h) λus s1 bg=>?_) hs fQ));obtain⟨vs,H1,I1,r1,q1⟩:=bg;obtain⟨i,j,e,⟨q1,q2,q3,q4⟩,q⟩:=q1;subst e;cases r1 with
 |cons r rr=>
  cases rr with
  |cons r' rr=>
   cases rr with
   |cons Y6 rr=>
    cases rr;obtain⟨t,rfl⟩:=r;obtain⟨t',rfl⟩:=r';obtain⟨t'',rfl⟩:=Y6;exact call_range_3 (by decide) (Fz I1 q1 q2 q3 q4 q) (adA (PyProof.noPylong_of_log2 (by decide +kernel)))
theorem Lu{K:aaa}{ρ:Nat->Addr}{N:Nat}{H:Hp}{n:Nat}:KP K ρ N H ⟨Qm.pD lo n,[]⟩ (GV lo n):=by
 intro a_ c' H' _ Y7 _;refine⟨λi hi=>by show i<n;simpa[Qm.pD]using hi,by show n<=(Qm.pD lo n).length;simp[Qm.pD],λi d x H2 hd hy=>?_⟩;obtain⟨rfl,rfl⟩:=hy;unfold Qm.pD at hd;rw[aaq]at hd;cases q:(adg n)[i]? with
 |none=>rw[q]at hd;cases hd
 |some j=>
  rw[q]at hd;cases hd;have:j=i:=by
   obtain⟨h1,h2⟩:=aae.mp q;simpa using h2.symm
  subst this;exact⟨Nx.refl Y7,.int _⟩
theorem FC{a b d:abl}{f:Qm.XA}{p pos:Pos}(hg:Gl X "range")(hm:X.mg "range" =af)(ha:QA X [a,b,d] f)(hs:aau [a,b,d] X.env=(false,adL a X.env)::aau [b,d] X.env:=by rfl)(fQ:(acy pos (aau [b,d] X.env)).any (·.1)=false:=by rfl):
  QI X tg (.Call (.Name "range" p) [a,b,d] [] pos) (Qm.BV f):=(FA hg hm ha hs fQ).imp <| by
 rintro σ H R ⟨ρ,env,c,m,c',rs,re,e,k⟩;obtain⟨p,e1,e⟩:=aF e;refine⟨ρ,env,c,p.1,p.2,rs,re,e1,λaR vs H1 n1 r1=>?_⟩;split at e
 .rename_i i j kk hj
  split at e
  .rename_i hb
   cases e;obtain⟨rfl,hi,Wo⟩:=hb;rw[hj]at r1;cases r1 with
   |cons rv rr=>
    obtain⟨v2,v3,rfl,ru,wM⟩:=rr.kr;cases rv.eL;cases ru.eL;cases wM.eL;exact⟨i,j,rfl,⟨hi.1,hi.2,Wo.1,Wo.2⟩,k aR _ H1 n1 Lu⟩
  .cases e
 .cases e
end
end L2
namespace Qm
open PySem
noncomputable section
def k1(d:D):Option (List Int):=match d with
 |.tup xs=>nums xs
 |_=>af
def k2(d:D):Option (List (List Int)):=match d with
 |.tup xs=>omap k1 xs
 |_=>af
def Lv(k:List Int):D:=.tup (k.map .int)
def DM(k:List (List Int)):D:=.tup (k.map Lv)
section
variable{κ α:Type}[DecidableEq κ]
def nX(ps:List (κ×α))(k:κ):Option α:=(ps.find? λp=>decide (p.1=k)).map (·.2)
def mP(ps:List (κ×α))(k:κ)(d:α):List (κ×α):=
 if (ps.any λp=>decide (p.1=k))=true then ps.map (λp=>if p.1=k then(p.1,d)else p)else ps++[(k,d)]
end
def mQ(d:D)(c:Cells):Option (Nat×List (List Int×D)):=match d with
 |.ref n=>(match c[n]? with
  |some (.uW ps)=>ae (n,ps)
  |_=>af)
 |_=>af
def oB(d:D)(c:Cells):Option (Nat×List (List (List Int)×D)):=match d with
 |.ref n=>(match c[n]? with
  |some (.h_ ps)=>ae (n,ps)
  |_=>af)
 |_=>af
def sE(d:D)(c:Cells):Option (List (List (List Int)×D)):=match d with
 |.ref n=>(match c[n]? with
  |some (.h_ ps)=>ae ps
  |some (.km ps)=>ae ps
  |_=>af)
 |_=>af
def qw:XE:=λ_ c=>ae (.ref c.length,c++[.uW []])
def t5:XE:=λ_ c=>ae (.ref c.length,c++[.h_ []])
def gL(o k v:XE):XS:=λσ c=>(v σ c).bind λw=>(o σ w.2).bind λp=>(k σ p.2).bind λq=>(mQ p.1 q.2).bind λl=>(k1 q.1).bind λx=>if l.2.length<cC then ae (.nx,σ,q.2.set l.1 (.uW (mP l.2 x w.1)))else af
def iY:FN:=one λx c=>(mQ x c).bind λl=>if l.2.length<=cC then ae (.ref c.length,c++[.lst (l.2.map λp=>Lv p.1)])else af
def jC:FN:=one λx c=>(sE x c).bind λl=>if l.length<=cC then ae (.ref c.length,c++[.lst (l.map λp=>DM p.1)])else af
def fV(o k:XE):XE:=λσ c=>(o σ c).bind λp=>(oB p.1 p.2).bind λ_=>(k σ p.2).bind λq=>(oB p.1 q.2).bind λl=>(k2 q.1).bind λx=>if l.2.length<cC then(match nX l.2 x with
 |some d=>ae (d,q.2++[Cell.lst []])
 |none=>ae (D.ref q.2.length,(q.2++[Cell.lst []]).set l.1 (Cell.h_ (l.2++[(x,D.ref q.2.length)]))))else af
def jP(o k:XE):XE:=λσ c=>(o σ c).bind λp=>(k σ p.2).bind λq=>(sE p.1 q.2).bind λl=>(k2 q.1).bind λx=>(nX l x).bind λd=>ae (d,q.2)
def vc(d:D):Option (List (List Int)×D):=match d with
 |.tup [k,v]=>(k2 k).bind λx=>ae (x,v)
 |_=>af
def xp:FN:=one λx c=>(bp x c).bind λl=>(omap vc l.2).bind λps=>ae (.ref c.length,c++[.h_ (ps.foldl (λa p=>mP a p.1 p.2) [])])
def BX(o:XE):XE:=λσ c=>(o σ c).bind λp=>(sE p.1 p.2).bind λl=>if l.length<=cC then ae (.ref p.2.length,p.2++[.lst (l.map λq=>q.2)])else af
def t6(a:XA):XI:=λσ c=>(a σ c).bind λp=>match p.1 with
 |[.ref n,.ref m]=>(match p.2[n]? with
  |some (.h_ ps)=>(bp (.ref m) p.2).bind λk=>ae (⟨gZ (ps.map λq=>DM q.1) k.2,[(n,.km ps),(m,.lst k.2)]⟩,p.2.set n (.km ps))
  |_=>af)
 |_=>af
end
end Qm
namespace L2
open PySem PySem.Spec PyProof.Rows
abbrev qL(k:List Int):List Key:=k.map afg
abbrev md(k:List (List Int)):List (List Key):=k.map (aiY afg)
section
variable{K:aaa}{ρ a_:Nat->Addr}{N N':Nat}{H H':Hp}
theorem xq{x y:List Int}(h:qL x=qL y):x=y:=(ahz λ_ _ e=>aiS e).mp h
theorem gK.length:∀{ps:List (List Int×Qm.D)}{us:List (List Key×V)},gK K ρ N H ps us->ps.length=us.length
 |_,_,.nil=>rfl
 |_,_,.cons _ a=>congrArg (·+1) (gK.length a)
theorem gK.val:∀{ps:List (List Int×Qm.D)}{us:List (List Key×V)},gK K ρ N H ps us->∀k,(Qm.nX ps k=af/\fS us (qL k)=af)\/∃d v,Qm.nX ps k=ae d/\fS us (qL k)=ae v/\RD K ρ N H d v
 |_,_,.nil,_=>.inl ⟨rfl,rfl⟩
 |_,_,.cons (k:=k0) (d:=d) (x:=x) r a,k=>by
  by_cases hk:k0=k
  .subst hk
   exact .inr ⟨d,x,by simp[Qm.nX],by simp[fS],r⟩
  .have vd:¬qL k0=qL k:=λe=>hk (xq e)
   rcases gK.val a k with⟨h1,h2⟩|⟨d',v',h1,h2,h3⟩
   .refine .inl ⟨?_,?_⟩
    .unfold Qm.nX at h1 |-
     rw[aa3];simp only[hk,decide_false];exact h1
    .unfold fS at h2 |-
     rw[aa3];simp only[vd,decide_false];exact h2
   .refine .inr ⟨d',v',?_,?_,h3⟩
    .unfold Qm.nX at h1 |-
     rw[aa3];simp only[hk,decide_false];exact h1
    .unfold fS at h2 |-
     rw[aa3];simp only[vd,decide_false];exact h2
theorem gK.any:∀{ps:List (List Int×Qm.D)}{us:List (List Key×V)},gK K ρ N H ps us->∀k,(ps.any λp=>decide (p.1=k))=us.any λkv=>decide (kv.1=qL k)
 |_,_,.nil,_=>rfl
 |_,_,.cons (k:=k0) r a,k=>by
  rw[ac1,ac1,gK.any a k]
  by_cases hk:k0=k
  .subst hk;simp
  .have vd:¬qL k0=qL k:=λe=>hk (xq e)
   simp[hk,vd]
theorem gK.mF{d:Qm.D}{v:V}(r:RD K ρ N H d v):∀{ps:List (List Int×Qm.D)}{us:List (List Key×V)},gK K ρ N H ps us->∀k,gK K ρ N H (ps.map λp=>if p.1=k then(p.1,d)else p) (us.map λkv=>if kv.1=qL k then(kv.1,v)else kv)
 |_,_,.nil,_=>.nil
 |_,_,.cons (k:=k0) r0 a,k=>by
  rw[aaV,aaV]
  by_cases hk:k0=k
  .subst hk
   simp only[if_true];exact .cons r (gK.mF r a k0)
  .have vd:¬qL k0=qL k:=λe=>hk (xq e)
   simp only[if_neg hk,if_neg vd];exact .cons r0 (gK.mF r a k)
theorem gK.append:∀{ps qs:List (List Int×Qm.D)}{us vs:List (List Key×V)},gK K ρ N H ps us->gK K ρ N H qs vs->gK K ρ N H (ps++qs) (us++vs)
 |_,_,_,_,.nil,b=>b
 |_,_,_,_,.cons h a,b=>.cons h (gK.append a b)
theorem gK.put{d:Qm.D}{v:V}(r:RD K ρ N H d v){ps:List (List Int×Qm.D)}{us:List (List Key×V)}(a:gK K ρ N H ps us)(k:List Int):gK K ρ N H (Qm.mP ps k d) (putK us (qL k) v):=by
 unfold Qm.mP putK;rw[a.any k];split
 .exact a.mF r k
 .exact a.append (.cons r .nil)
end
section
variable{K:aaa}{ρ a_:Nat->Addr}{N N':Nat}{H H':Hp}
theorem BY{x y:List (List Int)}(h:md x=md y):x=y:=(ahz λ_ _ e=>xq e).mp h
theorem eu.length:∀{ps:List (List (List Int)×Qm.D)}{us:List (List (List Key)×V)},eu K ρ N H ps us->ps.length=us.length
 |_,_,.nil=>rfl
 |_,_,.cons _ a=>congrArg (·+1) (eu.length a)
theorem eu.val:∀{ps:List (List (List Int)×Qm.D)}{us:List (List (List Key)×V)},eu K ρ N H ps us->∀k,(Qm.nX ps k=af/\fS us (md k)=af)\/∃d v,Qm.nX ps k=ae d/\fS us (md k)=ae v/\RD K ρ N H d v
 |_,_,.nil,_=>.inl ⟨rfl,rfl⟩
 |_,_,.cons (k:=k0) (d:=d) (x:=x) r a,k=>by
  by_cases hk:k0=k
  .subst hk
   exact .inr ⟨d,x,by simp[Qm.nX],by simp[fS],r⟩
  .have vd:¬md k0=md k:=λe=>hk (BY e)
   rcases eu.val a k with⟨h1,h2⟩|⟨d',v',h1,h2,h3⟩
   .refine .inl ⟨?_,?_⟩
    .unfold Qm.nX at h1 |-
     rw[aa3];simp only[hk,decide_false];exact h1
    .unfold fS at h2 |-
     rw[aa3];simp only[vd,decide_false];exact h2
   .refine .inr ⟨d',v',?_,?_,h3⟩
    .unfold Qm.nX at h1 |-
     rw[aa3];simp only[hk,decide_false];exact h1
    .unfold fS at h2 |-
     rw[aa3];simp only[vd,decide_false];exact h2
theorem eu.any:∀{ps:List (List (List Int)×Qm.D)}{us:List (List (List Key)×V)},eu K ρ N H ps us->∀k,(ps.any λp=>decide (p.1=k))=us.any λkv=>decide (kv.1=md k)
 |_,_,.nil,_=>rfl
 |_,_,.cons (k:=k0) r a,k=>by
  rw[ac1,ac1,eu.any a k]
  by_cases hk:k0=k
  .subst hk;simp
  .have vd:¬md k0=md k:=λe=>hk (BY e)
   simp[hk,vd]
theorem eu.mF{d:Qm.D}{v:V}(r:RD K ρ N H d v):∀{ps:List (List (List Int)×Qm.D)}{us:List (List (List Key)×V)},eu K ρ N H ps us->∀k,eu K ρ N H (ps.map λp=>if p.1=k then(p.1,d)else p) (us.map λkv=>if kv.1=md k then(kv.1,v)else kv)
 |_,_,.nil,_=>.nil
 |_,_,.cons (k:=k0) r0 a,k=>by
  rw[aaV,aaV]
  by_cases hk:k0=k
  .subst hk
   simp only[if_true];exact .cons r (eu.mF r a k0)
  .have vd:¬md k0=md k:=λe=>hk (BY e)
   simp only[if_neg hk,if_neg vd];exact .cons r0 (eu.mF r a k)
theorem eu.append:∀{ps qs:List (List (List Int)×Qm.D)}{us vs:List (List (List Key)×V)},eu K ρ N H ps us->eu K ρ N H qs vs->eu K ρ N H (ps++qs) (us++vs)
 |_,_,_,_,.nil,b=>b
 |_,_,_,_,.cons h a,b=>.cons h (eu.append a b)
theorem eu.put{d:Qm.D}{v:V}(r:RD K ρ N H d v){ps:List (List (List Int)×Qm.D)}{us:List (List (List Key)×V)}(a:eu K ρ N H ps us)(k:List (List Int)):eu K ρ N H (Qm.mP ps k d) (putK us (md k) v):=by
 unfold Qm.mP putK;rw[a.any k];split
 .exact a.mF r k
 .exact a.append (.cons r .nil)
theorem eu.at_:∀{ps:List (List (List Int)×Qm.D)}{us:List (List (List Key)×V)}{i:Nat}{p:List (List Int)×Qm.D},eu K ρ N H ps us->ps[i]? =ae p->∃v,us[i]? =ae (md p.1,v)/\RD K ρ N H p.2 v
 |_,_,_,_,.nil,e=>by simp at e
 |_,_,0,_,.cons h _,e=>by simp at e;subst e;exact⟨_,rfl,h⟩
 |_,_,i+1,p,.cons _ a,e=>by
  obtain⟨v,h1,h2⟩:=eu.at_ (i:=i) (p:=p) a (by simpa using e);exact⟨v,by simpa using h1,h2⟩
end
end L2
namespace L2
open PySem PySem.Spec PyProof.Rows
section
variable{K:aaa}{ρ:Nat->Addr}{N:Nat}{H:Hp}
variable{is:List Int}
theorem FG{xs:List Qm.D}(h:Qm.nums xs=ae is):xs=is.map Qm.D.int:=by
 unfold Qm.nums at h
 induction xs generalizing is with
 |nil=>cases h;rfl
 |cons x xs ih=>
  unfold Qm.omap at h;obtain⟨d,h1,h⟩:=aF h;obtain⟨ds,h2,h⟩:=aF h;cases h;rw[ih h2];cases x<;>simp[Qm.tL]at h1;subst h1;rfl
theorem DN:∀{is:List Int}{vs:List V},RA K ρ N H (is.map Qm.D.int) vs->vs=is.map V.int
 |[],_,h=>by cases h;rfl
 |i::is,_,h=>by
  cases h with
  |cons r a=>
   cases r.eL;rw[DN a];rfl
theorem DO(is:List Int):(is.map (afg:Int->Key)).map kV=is.map V.int:=by rw[aa2];rfl
theorem Lw{d:Qm.D}{v:V}(r:RD K ρ N H d v)(h:Qm.k1 d=ae is):∃b,v= .ref b/\H b=ae (.tup ((qL is).map kV)):=by
 unfold Qm.k1 at h;split at h
 .obtain⟨b,vs,rfl,h1,a⟩:=r.g9
  rw[FG h]at a;refine⟨b,rfl,?_⟩;rw[DO,<-DN a];exact h1
 .cases h
theorem Lx:∀{xs:List Qm.D}{vs:List V}{bO:List (List Int)},RA K ρ N H xs vs->Qm.omap Qm.k1 xs=ae bO->∃as:List Addr,vs=as.map V.ref/\acw (λ(ks:List Key) (a:Addr)=>H a=ae (.tup (ks.map kV))) (md bO) as
 |[],_,_,a,h=>by
  cases a;cases h;exact⟨[],rfl,.nil⟩
 |x::xs,_,_,a,h=>by
  cases a with
  |cons r a=>
   unfold Qm.omap at h;obtain⟨k,h1,h⟩:=aF h;obtain⟨ks,h2,h⟩:=aF h;cases h;obtain⟨b,rfl,h3⟩:=Lw r h1;obtain⟨as,rfl,p⟩:=Lx a h2;exact⟨b::as,rfl,.cons h3 p⟩
variable{bO:List (List Int)}
theorem FH{d:Qm.D}{v:V}(r:RD K ρ N H d v)(h:Qm.k2 d=ae bO):∃b,v= .ref b/\jb H (md bO) b:=by
 unfold Qm.k2 at h;split at h
 .obtain⟨b,vs,rfl,h1,a⟩:=r.g9
  obtain⟨as,rfl,p⟩:=Lx a h;exact⟨b,rfl,as,h1,p⟩
 .cases h
theorem pE:∀(is:List Int),RA K ρ N H (is.map Qm.D.int) (is.map V.int)
 |[]=>.nil
 |i::is=>.cons (.int i) (pE is)
theorem GW{a:Addr}(h:H a=ae (.tup ((qL is).map kV))):RD K ρ N H (Qm.Lv is) (.ref a):=by
 rw[DO]at h;exact .tup h (pE is)
theorem GX:∀{bO:List (List Int)}{as:List Addr},acw (λ(ks:List Key) (a:Addr)=>H a=ae (.tup (ks.map kV))) (md bO) as->RA K ρ N H (bO.map Qm.Lv) (as.map V.ref)
 |[],_,h=>by cases h;exact .nil
 |k::bO,_,h=>by
  cases h with
  |cons h1 t=>exact .cons (GW h1) (GX t)
theorem GY{a:Addr}(h:jb H (md bO) a):RD K ρ N H (Qm.DM bO) (.ref a):=by
 obtain⟨as,h1,h2⟩:=h;exact .tup h1 (GX h2)
end
section
variable{K:aaa}{ρ:Nat->Addr}{c:Qm.Cells}{H:Hp}
variable{n:Nat}
theorem RS.mQ(r:RS K ρ c H){d:Qm.D}{ps:List (List Int×Qm.D)}{v:V}(h:RD K ρ c.length H d v)(e:Qm.mQ d c=ae (n,ps)):d= .ref n/\c[n]? =ae (.uW ps)/\∃us,v= .ref (ρ n)/\H (ρ n)=ae (.dT us)/\gK K ρ c.length H ps us:=by
 unfold Qm.mQ at e;split at e
 .obtain⟨rfl,hn⟩:=h.mK
  split at e
  .rename_i xs hx
   cases e;obtain⟨us,h1,h2⟩:=r.ok n _ hx;exact⟨rfl,hx,us,rfl,h1,h2⟩
  .cases e
 .cases e
variable{ps:List (List (List Int)×Qm.D)}
theorem RS.oB(r:RS K ρ c H){d:Qm.D}{v:V}(h:RD K ρ c.length H d v)(e:Qm.oB d c=ae (n,ps)):d= .ref n/\c[n]? =ae (.h_ ps)/\∃us,v= .ref (ρ n)/\H (ρ n)=ae (.dU us)/\eu K ρ c.length H ps us:=by
 unfold Qm.oB at e;split at e
 .obtain⟨rfl,hn⟩:=h.mK
  split at e
  .rename_i xs hx
   cases e;obtain⟨us,h1,h2⟩:=r.ok n _ hx;exact⟨rfl,hx,us,rfl,h1,h2⟩
  .cases e
 .cases e
theorem RS.sE(r:RS K ρ c H){d:Qm.D}{v:V}(h:RD K ρ c.length H d v)(e:Qm.sE d c=ae ps):∃p us,v= .ref p/\Rd H p (.dU us)/\eu K ρ c.length H ps us:=by
 unfold Qm.sE at e;split at e
 .rename_i n
  obtain⟨rfl,hn⟩:=h.mK;split at e
  .rename_i xs hx
   cases e;obtain⟨us,h1,h2⟩:=r.ok n _ hx;exact⟨_,us,rfl,.inl h1,h2⟩
  .rename_i xs hx
   cases e;obtain⟨o,us,h1,h2⟩:=r.ok n _ hx;exact⟨_,us,rfl,.inr ⟨o,h1⟩,h2⟩
  .cases e
 .cases e
theorem Nx.S9(r:RS K ρ c H){xs:List (List Int×Qm.D)}(hn:c[n]? =ae (.uW xs)){ds:List (List Int×Qm.D)}{vs:List (List Key×V)}(a:gK K ρ c.length H ds vs):Nx K ρ c H ρ (c.set n (.uW ds)) (upd H (ρ n) (.dT vs)):=
 Nx.GG r hn rfl λ_ _ u h=>⟨vs,h,a.up u⟩
variable{ds:List (List (List Int)×Qm.D)}{vs:List (List (List Key)×V)}
theorem Nx.S_(r:RS K ρ c H){xs:List (List (List Int)×Qm.D)}(hn:c[n]? =ae (.h_ xs))(a:eu K ρ c.length H ds vs):Nx K ρ c H ρ (c.set n (.h_ ds)) (upd H (ρ n) (.dU vs)):=
 Nx.GG r hn rfl λ_ _ u h=>⟨vs,h,a.up u⟩
theorem Nx.Ta(r:RS K ρ c H){o:Obj}(hn:c[n]? =ae (.h_ ds))(a:eu K ρ c.length H ds vs):Nx K ρ c H ρ (c.set n (.km ds)) (upd H (ρ n) (.gr o (.dU vs))):=
 Nx.GG r hn rfl λ_ _ u h=>⟨o,vs,h,a.up u⟩
end
section
variable{X:Cx}{pos:Pos}
theorem Al{P:aaD}{w:aa9}{H:Hp}(h:Heap)(hb:abz<h.objs.size):b7 P w H (h.push { cls:=.type "dict",data:=.dict #[] }) h.objs.size (.dU []):=
 ⟨abk _,by simpa using ac0 hb,[],.nil,_,#[],0,aal _ rfl,⟨rfl,rfl,rfl⟩,rfl,rfl,aiu⟩
def O4:TE:=λ_ H Q=>∀p,H p=af->Q (.ref p) (upd H p (.dU []))
theorem IE:PE X (.Dict [] [] pos) O4:=λpins s σ H Q I h=>
 wpAny_Dict_empty ⟨.ref s.heap.objs.size,_,I.laid (a:=s.heap.objs.size) (o:=.dU []) (t':=s.toks) (λ_ _ q=>aab _ q) (aam _) (Al s.heap I.big),rfl,h _ (I.bc.fresh (aam _))⟩
theorem Am:QE X (.Dict [] [] pos) Qm.qw:=HY.imp <| by
 rintro σ H Q ⟨ρ,env,c,d,c',rs,re,e,k⟩;cases e;intro p hp;obtain⟨n,r⟩:=Nx.xi (z:=.uW []) (o:=.dT []) rs hp (λ_ _ _ _ h=>⟨[],h,.nil⟩);exact k _ _ _ n r
theorem An:QE X (.Dict [] [] pos) Qm.t5:=IE.imp <| by
 rintro σ H Q ⟨ρ,env,c,d,c',rs,re,e,k⟩;cases e;intro p hp;obtain⟨n,r⟩:=Nx.xi (z:=.h_ []) (o:=.dU []) rs hp (λ_ _ _ _ h=>⟨[],h,.nil⟩);exact k _ _ _ n r
theorem ve{o i value:abl}{fo fi fv:Qm.XE}{pos':Pos}(hu:X.A.units+64<cLine)(ho:QE X o fo)(hi:QE X i fi)(hv:QE X value fv)(hs:aeP value (ae (.Subscript o i pos')) pos.line X.env=pure false:=by rfl):
  QS X (.Assign [.Subscript o i pos'] value pos) (Qm.gL fo fi fv):=(Ku (by omega) ho hi hv hs).imp <| by
 rintro D σ H ⟨ρ,env,c,fl,cM,c',rs,re,e,k⟩;obtain⟨w,e1,e⟩:=aF e;obtain⟨p,e2,e⟩:=aF e;obtain⟨q,e3,e⟩:=aF e;obtain⟨l,e4,e⟩:=aF e;obtain⟨x,e5,e⟩:=aF e;split at e
 .rename_i hz
  cases e;refine⟨ρ,env,c,w.1,w.2,rs,re,e1,λaR v H1 n1 r1=>⟨aR,env,w.2,p.1,p.2,n1.rs,re.up n1.up,e2,λja u H2 n2 r2=>⟨ja,env,p.2,q.1,q.2,n2.rs,re.up (n1.trans n2).up,e3,λwW y H3 n3 r3=>?_⟩⟩⟩;obtain⟨b,rfl,hb⟩:=Lw r3 e5;obtain⟨_,hc,us,hv,h1,a1⟩:=n3.rs.mQ (r2.up n3.up) e4;cases hv;have n4:=Nx.S9 n3.rs hc (gK.put ((r1.up n2.up).up n3.up) a1 x);have nn:=n1.trans (n2.trans (n3.trans n4));exact⟨_,_,rfl,Dd.t (k:=qL x) h1 hb (tP (by rw[<-a1.length];exact hz)),k wW _ nn σ (re.up nn.up)⟩
 .cases e
end
end L2
namespace L2
open PySem PySem.Spec PyProof.Rows
section
variable{P:aaD}{w:aa9}{H:Hp}{h:Heap}{a:Addr}
theorem yx:∀{as:List Addr}{us:List aai},Vals (as.map V.ref) us->us=as.map aaw
 |[],_,x=>by cases x;rfl
 |a::as,_,x=>by
  cases x with
  |cons r t=>
   cases (show _=aaw a from r);rw[yx t];rfl
theorem me:∀(as:List Addr),Vals (as.map V.ref) (as.map aaw)
 |[]=>.nil
 |a::as=>.cons (show aaw a=aaw a from rfl) (me as)
theorem DP(ok:hG P w H h):∀{bO:List (List Key)}{as:List Addr},acw (λ(ks:List Key) (a:Addr)=>H a=ae (.tup (ks.map kV))) bO as->jS (cy P w) h bO (as.map aaw)
 |_,_,.nil=>.nil
 |_,_,.cons r t=>.cons (Bt ok r) (DP ok t)
theorem t7(ok:hG P w H h){bO:List (List Key)}{b:Addr}(k:jb H bO b):(nG (cy P w)).is h bO b:=by
 obtain⟨as,h1,p⟩:=k;obtain⟨_,its,r,o,g1,g2,n,g3⟩:=(show b7 P w H h b (.tup (as.map V.ref))from ok b _ h1);refine⟨o,its.toArray,n,g1,g2,g3,?_⟩;rw[yx r];simpa using DP ok p
abbrev KU(H:Hp)(aN:List (List (List Key)×V))(xs:List (List (List Key)×Addr×aai)):Prop:=acw (λ(p:List (List Key)×V) (q:List (List Key)×Addr×aai)=>p.1=q.1/\jb H p.1 q.2.1/\RelV p.2 q.2.2) aN xs
variable{aN:List (List (List Key)×V)}
theorem vf(ok:hG P w H h)(e:Rd H a (.dU aN)):aN.length<=sizeLine/\(a==abz)=false/\∃xs,KU H aN xs/\h.DictOfH (nG (cy P w)) a xs:=by
 obtain⟨z,y,xs,r,o,es,ep,h1,h2,h3,h4,h5⟩:=(show b7 P w H h a (.dU aN)from Fo ok e);refine⟨z,y,xs,r,o,es,ep,h1,h2,h3,h4,λx hx=>?_,h5⟩;have all:∀{l:List (List (List Key)×V)}{m:List (List (List Key)×Addr×aai)},KU H l m->∀x∈m,(nG (cy P w)).is h x.1 x.2.1:=by
  intro l m q
  induction q with
  |nil=>intro x hx;exact nomatch hx
  |@cons p q ps qs hq t ih=>
   intro x hx;rcases aaj.mp hx with e|hx
   .subst e
    exact t7 ok (by rw[<-hq.1];exact hq.2.1)
   .exact ih x hx
 exact all r x hx
theorem KU.val:∀{aN:List (List (List Key)×V)}{xs:List (List (List Key)×Addr×aai)},KU H aN xs->∀k,qP (fS aN k) ((agU xs k).map (·.2))
 |_,_,.nil,_=>trivial
 |_,_,.cons (a:=p) (b:=q) r t,k=>by
  have ih:=KU.val t k;unfold fS agU at ih |-
  rw[aa3,aa3];rw[r.1]
  by_cases hk:q.1=k
  .simp only[hk,decide_true]
   exact r.2.2
  .simp only[hk,decide_false]
   exact ih
variable{xs:List (List (List Key)×Addr×aai)}
theorem KU.length(r:KU H aN xs):aN.length=xs.length:=by
 induction r with
 |nil=>rfl
 |cons _ _ ih=>simp[ih]
theorem KU.addrs(r:KU H aN xs):acw (λ(kv:List (List Key)×V) (a:Addr)=>jb H kv.1 a) aN (xs.map (·.2.1)):=by
 induction r with
 |nil=>exact .nil
 |cons h _ ih=>exact .cons h.2.1 ih
theorem KU.vals(r:KU H aN xs):Vals (aN.map (·.2)) (xs.map (·.2.2)):=by
 induction r with
 |nil=>exact .nil
 |cons h _ ih=>exact .cons h.2.2 ih
theorem KT.len{aN:List (List Key×V)}{xs:List (List Key×Addr×aai)}(r:KT H aN xs):aN.length=xs.length:=by
 induction r with
 |nil=>rfl
 |cons _ _ ih=>simp[ih]
theorem KT.addrs{aN:List (List Key×V)}{xs:List (List Key×Addr×aai)}(r:KT H aN xs):acw (λ(kv:List Key×V) (a:Addr)=>H a=ae (.tup (kv.1.map kV))) aN (xs.map (·.2.1)):=by
 induction r with
 |nil=>exact .nil
 |cons h _ ih=>exact .cons h.2.1 ih
end
section
variable{X:Cx}
variable{acc:Array aai}
theorem vX{K:Type}[DecidableEq K]{knd:ah8 X.prog X.w K}{es:Array abd}{xs:List (K×Addr×aai)}(he:es.toList=xs.map (afd knd))(h:ItemsOf (λi v=>∃e,es[i]? =ae e/\v=e.key) acc es.size):acc.toList=(xs.map (·.2.1)).map aaw:=by
 obtain⟨h1,h2⟩:=h;apply ahM;intro i;have hl:es.size=xs.length:=by rw[<-abb,he,aas]
 by_cases hi:i<es.size
 .have e1:acc[i]? =ae (acc[i]'(by omega)):=ab6 _
  obtain⟨e,e2,e3⟩:=h2 i _ e1;have e4:es.toList[i]? =ae e:=by simpa using e2
  rw[he,aaq]at e4;rw[show acc.toList[i]? =acc[i]? by simp,e1,e3,aaq,aaq];cases hx:xs[i]? with
  |none=>rw[hx]at e4;cases e4
  |some x=>rw[hx]at e4;cases e4;rfl
 .rw[adU (by simp;omega),adU (by simp;omega)]
theorem DQ{K:Type}[DecidableEq K]{knd:ah8 X.prog X.w K}{es:Array abd}{xs:List (K×Addr×aai)}(he:es.toList=xs.map (afd knd))(h:ItemsOf (λi v=>∃e,es[i]? =ae e/\v=e.val) acc es.size):acc.toList=xs.map (·.2.2):=by
 obtain⟨h1,h2⟩:=h;apply ahM;intro i;have hl:es.size=xs.length:=by rw[<-abb,he,aas]
 by_cases hi:i<es.size
 .have e1:acc[i]? =ae (acc[i]'(by omega)):=ab6 _
  obtain⟨e,e2,e3⟩:=h2 i _ e1;have e4:es.toList[i]? =ae e:=by simpa using e2
  rw[he,aaq]at e4;rw[show acc.toList[i]? =acc[i]? by simp,e1,e3,aaq];cases hx:xs[i]? with
  |none=>rw[hx]at e4;cases e4
  |some x=>rw[hx]at e4;cases e4;rfl
 .rw[adU (by simp;omega),adU (by simp;omega)]
def GZ(H0:Unit):List V->Hp->VK->Prop:=λxs H Q=>∃p us,xs=[.ref p]/\Rd H p (.dT us)/\∀l as,H l=af->acw (λ(kv:List Key×V) (a:Addr)=>H a=ae (.tup (kv.1.map kV))) us as->Q (.ref l) (upd H l (.lst (as.map V.ref)))
def G0(H0:Unit):List V->Hp->VK->Prop:=λxs H Q=>∃p us,xs=[.ref p]/\Rd H p (.dU us)/\∀l as,H l=af->acw (λ(kv:List (List Key)×V) (a:Addr)=>jb H kv.1 a) us as->Q (.ref l) (upd H l (.lst (as.map V.ref)))
theorem pF(hc:X.calm=true):eR X (.type "list") (GZ ()):=by
 intro pins s σ H xs us Q I r h;obtain⟨p,aN,rfl,hp,q⟩:=h;obtain⟨u,rfl,rx⟩:=vals1 r;cases (show u=aaw p from rx);obtain⟨z,nd,ys,rel,ob,es,ep,h1,h2,h3,h4,h5,h6⟩:=Kr I.bc hp;have hl:es.size=ys.length:=by rw[<-abb,h4,aas]
 have Wq:=rel.len;refine agf (QD nd) (I.ok.hd hc) ⟨ob,h1,h2,h3⟩ (by omega) λh' tk acc c' hk hD DR=>?_
 have ea:=vX h4 DR;refine⟨.ref s.heap.objs.size,_,I.laid (t':=tk) hk (aam _) (show b7 X.prog X.w _ h' _ (.lst ((ys.map (·.2.1)).map V.ref))from⟨by simp;omega,acc.toList,c',?_,by simpa using hD⟩),rfl,q _ _ (I.bc.fresh (aam _)) rel.addrs⟩;rw[ea];exact me _
theorem pG(hc:X.calm=true):eR X (.type "list") (G0 ()):=by
 intro pins s σ H xs us Q I r h;obtain⟨p,aN,rfl,hp,q⟩:=h;obtain⟨u,rfl,rx⟩:=vals1 r;cases (show u=aaw p from rx);obtain⟨z,nd,ys,rel,ob,es,ep,h1,h2,h3,h4,h5,h6⟩:=vf I.bc hp;have hl:es.size=ys.length:=by rw[<-abb,h4,aas]
 have Wq:=rel.length;refine agf (QD nd) (I.ok.hd hc) ⟨ob,h1,h2,h3⟩ (by omega) λh' tk acc c' hk hD DR=>?_
 have ea:=vX h4 DR;refine⟨.ref s.heap.objs.size,_,I.laid (t':=tk) hk (aam _) (show b7 X.prog X.w _ h' _ (.lst ((ys.map (·.2.1)).map V.ref))from⟨by simp;omega,acc.toList,c',?_,by simpa using hD⟩),rfl,q _ _ (I.bc.fresh (aam _)) rel.addrs⟩;rw[ea];exact me _
end
end L2
namespace PySem
set_option maxRecDepth 100000 in
theorem Ly:Slot "dict" "setdefault" "dict.setdefault":=
 Slot.of (owner:="dict") (n:="setdefault") ((by rw[typeLookup_type,builtinLookup_eq_fast];kernel_rfl)) ((by decide +kernel)) ((by decide +kernel)) ((by decide +kernel)) ((by first|exact .inl (by decide +kernel)|exact .inr (by decide +kernel))) ((by rw[isSubtype_type];kernel_rfl))
theorem Tb:typeOf (.builtin "dict.setdefault")=pure (.type "method_descriptor"):=by show builtinType _=_;rw[builtinType_eq_fast];kernel_rfl
theorem Tc:entryFor table "dict.setdefault" =ae adF.«dict.setdefault»:=entryFor_of_tree (by kernel_rfl)
theorem Td(x y z:aai):argsOk "dict.setdefault" ⟨[x,y,z],[]⟩:=by
 unfold argsOk;rw[signature?_of (id:="dict.setdefault") (n:="setdefault".toList.reverse) (o:="dict".toList.reverse) (by kernel_rfl) F.owner_dict]
 kernel_rfl
section
variable{prog:aaD}{w:aa9}{K:Type}[DecidableEq K]{knd:ah8 prog w K}{A:aa4}{E:aai->aah->Prop}{s:aah}
theorem BZ{d a:Addr}{ys:List (K×Addr×aai)}{k:K}{v:aai}{Q:aai->aah->Prop}(hu:knd.room A)(hk:knd.is s.heap k a)(hm:s.heap.DictOfH knd d ys)(hz:ys.length<=sizeLine)
  (h1:∀p,agU ys k=ae p->Q p.2 { s with toks:=s.toks+knd.draws k })
  (h2:agU ys k=af->∀h',h'.DictOfH knd d (ys++[(k,a,v)])->abo d s.heap h'->Q v { s with heap:=h',toks:=s.toks+knd.draws k }):
  aat (aaL prog w) A (ag3 d (.ref a) v) Q E s:=by
 obtain⟨ob,es,ep,ho,hc,hd,he,hi,hn⟩:=hm;unfold ag3
 try with_reducible refine aaP ?_
 refine Zu (knd.pyHash hu hk (Zu (wpAny_dictFind_heap (s:={ s with toks:=s.toks+knd.draws k }) hu hk ho hd he hi hn (λno=>?_) (λj p hj=>?_))))
 .have e0:=atKey_none_of_get no
  have nm:k∉ys.map (·.1):=not_mem_keys_of_get no;refine Zu (acD (Zu (wpAny_updateDictKeys (hz:=by have e:=size_of_entries he;omega) (s:={ s with toks:=s.toks+knd.draws k }) ho hd (aad (h2 e0 _ ⟨_,_,ep+1,abi _ ho (Obj.isFreed_of_dict (agV hd _)),hc.mapDictKeys _,agV hd _,?_,?_,?_⟩ (abt ..))))))
  .simp[he,afd]
  .intro x hx
   rcases aaJ.mp hx with hx|hx
   .exact knd.keeps (hi x hx) ho hd (abt ..)
   .cases aak.mp hx
    exact knd.keeps hk ho hd (abt ..)
  .rw[ado,acG]
   refine⟨hn,by simp,λx hx y hy e=>nm ?_⟩;rw[aaV,afy,aak]at hy;exact(e.trans (show y=k from hy)) ▸ hx
 .refine Zu (acE (s:={ s with toks:=s.toks+knd.draws k }) ho hd ?_)
  rw[entry_at he j,hj];exact Zu (acD (aad (h1 p (atKey_of_get hn hj))))
theorem IF(knd:ah8 prog w K)(d a:Addr)(nd:(d==abz)=false)(v:aai):
  MeetsIn prog w (adF.«dict.setdefault» ⟨[.ref d,.ref a,v],[]⟩) (λA R s=>knd.room A.in1/\∃k ys,knd.is s.heap k a/\s.heap.DictOfH knd d ys/\ys.length<=sizeLine/\
   (∀p,agU ys k=ae p->R (.ok (.ret p.2)) { s with toks:=s.toks+knd.draws k })/\
   (agU ys k=af->∀h',h'.DictOfH knd d (ys++[(k,a,v)])->abo d s.heap h'->R (.ok (.ret v)) { s with heap:=h',toks:=s.toks+knd.draws k })):=
 .of_wp <| by
  rintro A R s ⟨hu,k,ys,hk,hm,hz,h1,h2⟩;refine Zu (m:=afv _ _) ?_;unfold afv;refine Zu (adP hm.typeIs ?_);show aat _ _ (pure (d,aaw a,ae v)) _ _ s;refine aad ?_;show aat _ _ (if (d==abz)=true then _ else _) _ _ s;rw[if_neg (by rw[nd];exact aaz)];show aat _ _ (ag3 d (.ref a) v >>= _) _ _ s;exact Zu (BZ hu hk hm hz (λp hp=>aad ⟨_,rfl,h1 p hp⟩) λe h' x y=>aad ⟨_,rfl,h2 e h' x y⟩)
end
end PySem
namespace L2
open PySem PySem.Spec PyProof.Rows
section
variable{K:Type}[DecidableEq K]
theorem G3{α β:Type}{F:α->β->Prop}{vK m₁:List α}{vL m₂:List β}(h:acw F vK vL)(g:acw F m₁ m₂):acw F (vK++m₁) (vL++m₂):=by
 induction h with
 |nil=>exact g
 |cons a _ ih=>exact .cons a ih
end
section
variable{X:Cx}{o i e f:abl}{pos apos cG:Pos}{td ty tx:TE}
theorem sF{pins:List (Addr×Obj)}{σ:St}{H:Hp}{s:aah}{a:Addr}{us:List (List (List Key)×V)}(I:Inv X pins σ H s)(g:Rd H a (.dU us)):s.TypeIs (.ref a) "dict"/\∀b,aaw a= .ref b->∃ob,s.heap.get? b=ae ob/\ob.dict=af:=by
 obtain⟨_,_,xs,_,dd⟩:=vf I.bc g;refine⟨dd.typeIs,λb q=>?_⟩;cases q;obtain⟨ob,_,_,h1,h2,_⟩:=dd;exact⟨ob,h1,h2.2.1⟩
def Wr(td ty tx:TE):TE:=λσ H Q=>td σ H λx H1=>∃a O5,x= .ref a/\Rd H1 a (.dU O5)/\ty σ H1 λy H2=>tx σ H2 λz H3=>∃us b bO,H3 a=ae (.dU us)/\y= .ref b/\jb H3 bO b/\us.length<sizeLine/\
 (∀v,fS us bO=ae v->Q v H3)/\(fS us bO=af->Q z (upd H3 a (.dU (us++[(bO,z)]))))
theorem O6(hu:X.A.units+64<cLine)(ho:PE X o td)(he:PE X e ty)(hf:PE X f tx)(m:M2 X o "setdefault" apos e f cG):PE X (.Call (.Attribute o "setdefault" apos) [e,f] [] cG) (Wr td ty tx):=by
 intro pins s σ H Q I h;refine wpAny_Call_method m.base m.YD m.line af5 PySem.Ly PySem.Tb (bN (ho pins s σ H _ I h) λu s1 bg=>?_);obtain⟨x,H1,I1,rx,a,O5,ex,g0,q1⟩:=bg;subst ex;obtain rfl:u=aaw a:=rx;obtain⟨t1,t2⟩:=sF I1 g0;refine⟨t1,t2,?_⟩;rw[m.trees];refine aew rfl (agS (ael (bN (he pins s1 σ H1 _ I1 q1) λiv s2 ⟨y,H2,I2,ry,q2⟩=>
  ael (bN (hf pins s2 σ H2 _ I2 q2) λfv s3 ⟨z,H3,I3,rz,us,b,bO,e3,ey,kb,hl,c1,c2⟩=>afL ?_))))
 subst ey;cases (show iv=aaw b from ry);obtain⟨zl,nd,xs,rel,dd⟩:=vf I3.bc (.inl e3);have lx:=rel.length;refine ahU PySem.Ly dd.typeIs PySem.Tc (PySem.Td _ _ _) (PySem.IF (nG (cy X.prog X.w)) a b nd fv) ⟨by show X.A.units+1+4<cLine;omega,bO,xs,t7 I3.bc kb,dd,by omega,λp hp=>?_,λhp h' Df hs=>?_⟩
 .have r:=rel.val bO
  rw[hp]at r;cases hv:fS us bO with
  |none=>rw[hv]at r;cases r
  |some v=>
   rw[hv]at r;exact⟨v,H3,I3.tok _,r,c1 v hv⟩
 .have r:=rel.val bO
  rw[hp]at r;have hv:fS us bO=af:=by
   cases hv:fS us bO with
   |none=>rfl
   |some v=>rw[hv]at r;cases r
  obtain⟨q,es,ep,hq,h2,h3,h4,_,h5⟩:=Df;have r2:KU H3 (us++[(bO,z)]) (xs++[(bO,b,fv)]):=G3 rel (.cons ⟨rfl,kb,rz⟩ .nil);have r3:KU (upd H3 a (.dU (us++[(bO,z)]))) (us++[(bO,z)]) (xs++[(bO,b,fv)]):=by
   refine acw.vJ r2 λp q w=>⟨w.1,w.2.1.more λc ys ec=>?_,w.2.2⟩
   rw[aV (xH ec e3 (λz=>nomatch z))];exact ec
  exact⟨z,_,oU (ob:=.dU (us++[(bO,z)])) I3 (by rw[e3];exact adC) hs ⟨q,hq⟩ (show b7 X.prog X.w _ h' a (.dU (us++[(bO,z)]))from⟨by simp;omega,nd,_,r3,q,es,ep,hq,h2,h3,h4,h5⟩),rz,c2 hv⟩
def Ws(td ty:TE):TE:=λσ H Q=>td σ H λx H1=>ty σ H1 λy H2=>∃a us b bO v,x= .ref a/\Rd H2 a (.dU us)/\y= .ref b/\jb H2 bO b/\fS us bO=ae v/\Q v H2
theorem O7(hu:X.A.units+64<cLine)(ho:PE X o td)(hi:PE X i ty)(hs:Ks i):PE X (.Subscript o i pos) (Ws td ty):=by
 intro pins s σ H Q I h;refine Kt PySem.F.slot_dict_getitem.lookup hs (bN (ho pins s σ H _ I h) λu s1 ⟨x,H1,I1,rx,q1⟩=>bN (hi pins s1 σ H1 _ I1 q1) λiv s2 bg=>?_);obtain⟨y,H2,I2,ry,a,us,b,bO,v,ex,g,ey,kb,hv,q2⟩:=bg;subst ex ey;obtain rfl:u=aaw a:=rx;cases (show iv=aaw b from ry);refine⟨(sF I2 g).1,?_⟩;obtain⟨zl,nd,xs,rel,dd⟩:=vf I2.bc g;obtain⟨w',hw,wM⟩:=qP.some_of (v:=v) (o:=(agU xs bO).map (·.2)) (by rw[<-hv];exact rel.val bO);obtain⟨p,hp,Y8⟩:=aax.mp hw;refine wpAny_getItem_heap (knd:=nG (cy X.prog X.w)) (by show X.A.units+1+4<cLine;omega) (t7 I2.bc kb) dd hp ?_;rw[Y8];exact⟨v,H2,I2.tok _,wM,q2⟩
end
theorem IG{d:Qm.D}{c:Qm.Cells}{l:Nat×List (List (List Int)×Qm.D)}(h:Qm.oB d c=ae l)(z:Qm.Cell):Qm.oB d (c++[z])=ae l:=by
 unfold Qm.oB at h |-
 split at h
 .rename_i n
  split at h
  .rename_i ps hp
   have e2:(c++[z])[n]? =ae (Qm.Cell.h_ ps):=by rw[aaM (aae.mp hp).1,hp]
   rw[e2];exact h
  .cases h
 .cases h
section
variable{X:Cx}{o i b:abl}{pos apos cG p0 p1 p2 lp:Pos}{fo fb:Qm.XE}
theorem yy(hu:X.A.units+64<cLine)(ho:QE X o fo)(hb:QE X b fb)(nI:aen o "setdefault" X.env (adL o X.env)=adL o X.env:=by rfl)(tw:((acy cG (aau [b,.List [] lp] X.env)).all (λx=>!x.1)&&(ahv cG (afk [] X.env)).all (λx=>x.1.isSome)
  &&decide (([b,.List [] lp]:List abl).length+([]:List aeZ).length+(if ([]:List aeZ).isEmpty then 0 else 1)<30))=true:=by rfl)(nJ:(apos.endLine==cG.line)=true:=by rfl)(ht:acy cG (aau [b,.List [] lp] X.env)=[(false,adL b X.env),(false,adL (.List [] lp) X.env)]:=by rfl):
  QE X (.Call (.Attribute o "setdefault" apos) [b,.List [] lp] [] cG) (Qm.fV fo fb):=(O6 hu ho hb (ff ao) ⟨nI,tw,nJ,ht⟩).imp <| by
 rintro σ H Q ⟨ρ,env,c,d,c',rs,re,e,k⟩;obtain⟨p,e1,e⟩:=aF e;obtain⟨l0,e0,e⟩:=aF e;obtain⟨q,e2,e⟩:=aF e;obtain⟨l,e3,e⟩:=aF e;obtain⟨x,e4,e⟩:=aF e;split at e
 .rename_i hz
  refine⟨ρ,env,c,p.1,p.2,rs,re,e1,λaR v H1 n1 r1=>?_⟩;obtain⟨_,_,O5,rfl,g1,_⟩:=n1.rs.oB r1 e0;refine⟨_,O5,rfl,.inl g1,aR,env,p.2,q.1,q.2,n1.rs,re.up n1.up,e2,λja u H2 n2 r2=>?_⟩;refine⟨ja,env,q.2,.ref q.2.length,q.2++[.lst []],n2.rs,re.up (n1.trans n2).up,rfl,λwW z H3 n3 r3=>?_⟩;have e5:=IG e3 (.lst []);obtain⟨bb,rfl,kb⟩:=FH (r2.up n3.up) e4;obtain⟨hp1,hc,us,hv,h1,a1⟩:=n3.rs.oB ((r1.up n2.up).up n3.up) e5;rw[<-V.ref.inj hv]at h1;refine⟨us,bb,md x,h1,rfl,kb,tP (by rw[<-a1.length];exact hz),λv FI=>?_,λFI=>?_⟩
  .rcases a1.val x with⟨h2,h3⟩|⟨d',v',h2,h3,h4⟩
   .rw[h3]at FI;cases FI
   .rw[h2]at e
    cases e;rw[h3]at FI;cases FI;exact k wW _ H3 (n1.trans (n2.trans n3)) h4
  .rcases a1.val x with⟨h2,h3⟩|⟨d',v',h2,h3,h4⟩
   .rw[h2]at e
    cases e;have n4:=Nx.S_ n3.rs hc (a1.append (.cons (k:=x) r3 .nil));rw[<-V.ref.inj hv]at n4;exact k wW _ _ (n1.trans (n2.trans (n3.trans n4))) (r3.up n4.up)
   .rw[h3]at FI;cases FI
 .cases e
theorem DT(hu:X.A.units+64<cLine)(ho:QE X o fo)(hb:QE X b fb)(hs:Ks b:=by intro _ _;rfl):QE X (.Subscript o b pos) (Qm.jP fo fb):=(O7 hu ho hb hs).imp <| by
 rintro σ H Q ⟨ρ,env,c,d,c',rs,re,e,k⟩;obtain⟨p,e1,e⟩:=aF e;obtain⟨q,e2,e⟩:=aF e;obtain⟨l,e3,e⟩:=aF e;obtain⟨x,e4,e⟩:=aF e;obtain⟨d',e5,e⟩:=aF e;cases e;refine⟨ρ,env,c,p.1,p.2,rs,re,e1,λaR v H1 n1 r1=>⟨aR,env,p.2,q.1,q.2,n1.rs,re.up n1.up,e2,λja u H2 n2 r2=>?_⟩⟩;obtain⟨bb,rfl,kb⟩:=FH r2 e4;obtain⟨a,us,rfl,g,a1⟩:=n2.rs.sE (r1.up n2.up) e3;rcases a1.val x with⟨h2,h3⟩|⟨d2,v',h2,h3,h4⟩
 .rw[h2]at e5;cases e5
 .rw[h2]at e5
  cases e5;exact⟨a,us,bb,md x,v',rfl,g,rfl,kb,h3,k ja _ H2 (n1.trans n2) h4⟩
end
theorem sG{K:aaa}:mL K (GZ ()) Qm.iY:=by
 intro ρ c H ds d c' vs Q rs ra e k;obtain⟨x,rfl,e⟩:=jk e;obtain⟨v,rfl,rx⟩:=ra.jB;obtain⟨l,e1,e⟩:=aF e;split at e
 .cases e
  obtain⟨_,hc,us,rfl,h1,a1⟩:=rs.mQ rx e1;refine⟨_,us,rfl,.inl h1,λq as hq pa=>?_⟩;have Lz:∀{ps:List (List Int×Qm.D)}{us:List (List Key×V)}{as:List Addr},gK K ρ c.length H ps us->acw (λ(kv:List Key×V) (a:Addr)=>H a=ae (.tup (kv.1.map kV))) us as->RA K ρ c.length H (ps.map λp=>Qm.Lv p.1) (as.map V.ref):=by
   intro ps us as a p
   induction a generalizing as with
   |nil=>cases p;exact .nil
   |cons r a ih=>
    cases p with
    |cons h1 t=>exact .cons (GW h1) (ih t)
  obtain⟨n,r⟩:=Nx.alloc rs hq (Lz a1 pa);exact k _ _ _ n r
 .cases e
theorem sH{K:aaa}:mL K (G0 ()) Qm.jC:=by
 intro ρ c H ds d c' vs Q rs ra e k;obtain⟨x,rfl,e⟩:=jk e;obtain⟨v,rfl,rx⟩:=ra.jB;obtain⟨l,e1,e⟩:=aF e;split at e
 .cases e
  obtain⟨a,us,rfl,g,a1⟩:=rs.sE rx e1;refine⟨_,us,rfl,g,λq as hq pa=>?_⟩;have Lz:∀{ps:List (List (List Int)×Qm.D)}{us:List (List (List Key)×V)}{as:List Addr},eu K ρ c.length H ps us->acw (λ(kv:List (List Key)×V) (a:Addr)=>jb H kv.1 a) us as->RA K ρ c.length H (ps.map λp=>Qm.DM p.1) (as.map V.ref):=by
   intro ps us as a p
   induction a generalizing as with
   |nil=>cases p;exact .nil
   |cons r a ih=>
    cases p with
    |cons h1 t=>exact .cons (GY h1) (ih t)
  obtain⟨n,r⟩:=Nx.alloc rs hq (Lz a1 pa);exact k _ _ _ n r
 .cases e
end L2
namespace L2
open PySem PySem.Spec PyProof.Rows
section
variable{X:Cx}{o:abl}{p0 pos apos cG:Pos}{td:TE}{fo:Qm.XE}
def O8(td:TE):TE:=λσ H Q=>td σ H λx H1=>∃a us,x= .ref a/\Rd H1 a (.dU us)/\∀l,H1 l=af->Q (.ref l) (upd H1 l (.lst (us.map (·.2))))
theorem IH(hc:X.calm=true)(hg:Gl X "list")(hm:X.mg "list" =af)(ho:PE X o td)(nI:aen o "values" X.env (adL o X.env)=adL o X.env)(tw:((acy cG (aau [] X.env)).all (λx=>!x.1)&&(ahv cG (afk [] X.env)).all (λx=>x.1.isSome)
  &&decide (([]:List abl).length+([]:List aeZ).length+(if ([]:List aeZ).isEmpty then 0 else 1)<30))=true)(nJ:(apos.endLine==cG.line)=true)(ht:acy cG (aau [] X.env)=[])
  (hs:aau [.Call (.Attribute o "values" apos) [] [] cG] X.env=[(false,adL (.Call (.Attribute o "values" apos) [] [] cG) X.env)]):
  PE X (.Call (.Name "list" p0) [.Call (.Attribute o "values" apos) [] [] cG] [] pos) (O8 td):=by
 intro pins s σ H Q I h;refine abx (iM I hg hm (u:=.type "list") (by decide +kernel) ?_);refine aa0 ?_ hs rfl;rw[hs];show aat _ _ (spliced [(false,adL (.Call (.Attribute o "values" apos) [] [] cG) X.env)]) _ _ _;refine ael ?_;refine wpAny_Call_method nI tw nJ af5 afR PySem.F.type_dict_values (bN (ho pins s σ H _ I h) λu s1 bg=>?_);obtain⟨x,H1,I1,rx,a,us,ex,g,q1⟩:=bg;subst ex;obtain rfl:u=aaw a:=rx;obtain⟨t1,t2⟩:=sF I1 g;refine⟨t1,t2,?_⟩;rw[ht];obtain⟨zl,nd,ys,rel,ob,es,ep,h1,h2,h3,h4,h5,h6⟩:=vf I1.bc g;have hl:es.size=ys.length:=by rw[<-abb,h4,aas]
 have Wq:=rel.length;have m:dg s1.heap a es ep:=⟨ob,h1,h2,h3⟩;refine aew rfl (PySem.evalArgs_none ?_);refine ahU afR t1 PySem.F.entry_dict_values (PySem.F.args_dict_values_1 _) (Jx a nd) ⟨⟨es,ep,m⟩,afL ?_⟩;have I2:Inv X pins σ H1 { s1 with heap:=s1.heap.push { cls:=.type "dict_values",data:=.fields #[.ref a] } }:=I1.kept (t':=s1.toks) λb o e=>aab _ e
 have m2:dg (s1.heap.push { cls:=.type "dict_values",data:=.fields #[.ref a] }) a es ep:=m.at λo e=>aab _ e
 have v2:(s1.heap.push { cls:=.type "dict_values",data:=.fields #[.ref a] }).IsValuesView s1.heap.objs.size a:=⟨_,aal _ rfl,rfl,rfl⟩;refine agf (s:={ s1 with heap:=s1.heap.push { cls:=.type "dict_values",data:=.fields #[.ref a] } }) Vj (I.ok.hd hc) ⟨v2,m2⟩ (by omega) λh' tk acc c' hk hD DR=>?_
 have ea:=DQ h4 DR;refine⟨.ref _,_,I2.laid (t':=tk) hk (aam _) (show b7 X.prog X.w _ h' _ (.lst (us.map (·.2)))from⟨by simp;omega,acc.toList,c',?_,by simpa using hD⟩),rfl,q1 _ (I2.bc.fresh (aam _))⟩;rw[ea];exact rel.vals
theorem II(hg:Gl X "list")(hm:X.mg "list" =af)(ho:QE X o fo)(hc:X.calm=true:=by rfl)(nI:aen o "values" X.env (adL o X.env)=adL o X.env:=by rfl)(tw:((acy cG (aau [] X.env)).all (λx=>!x.1)&&(ahv cG (afk [] X.env)).all (λx=>x.1.isSome)
  &&decide (([]:List abl).length+([]:List aeZ).length+(if ([]:List aeZ).isEmpty then 0 else 1)<30))=true:=by rfl)(nJ:(apos.endLine==cG.line)=true:=by rfl)(ht:acy cG (aau [] X.env)=[]:=by rfl)
  (hs:aau [.Call (.Attribute o "values" apos) [] [] cG] X.env=[(false,adL (.Call (.Attribute o "values" apos) [] [] cG) X.env)]:=by rfl):
  QE X (.Call (.Name "list" p0) [.Call (.Attribute o "values" apos) [] [] cG] [] pos) (Qm.BX fo):=(IH hc hg hm ho nI tw nJ ht hs).imp <| by
 rintro σ H Q ⟨ρ,env,c,d,c',rs,re,e,k⟩;obtain⟨p,e1,e⟩:=aF e;obtain⟨l,e2,e⟩:=aF e;split at e
 .cases e
  refine⟨ρ,env,c,p.1,p.2,rs,re,e1,λaR v H1 n1 r1=>?_⟩;obtain⟨a,us,rfl,g,a1⟩:=n1.rs.sE r1 e2;refine⟨a,us,rfl,g,λl hl=>?_⟩;have Lz:∀{N:Nat}{ps:List (List (List Int)×Qm.D)}{us:List (List (List Key)×V)},eu X.K aR N H1 ps us->RA X.K aR N H1 (ps.map λq=>q.2) (us.map (·.2)):=by
   intro N ps us a
   induction a with
   |nil=>exact .nil
   |cons r a ih=>exact .cons r ih
  obtain⟨n,r⟩:=Nx.alloc n1.rs hl (Lz a1);exact k _ _ _ (n1.trans n) r
 .cases e
end
end L2
namespace PySem
set_option maxRecDepth 100000
theorem FJ:typeLookup (.type "list") "keys" =pure af:=am_miss_of_fast (by decide +kernel)
theorem G4:entryFor table "dict.update.loop" =ae adF.«dict.update.loop»:=entryFor_of_tree (by kernel_rfl)
theorem xr:plainId "dict.update.loop" =true:=by decide +kernel
theorem O9{prog:aaD}{w:aa9}{A:aa4}{E:aai->aah->Prop}{s:aah}{a:Addr}{o:Obj}{xs:Array aai}{k:Nat}{Q:Option aai->aah->Prop}
  (hx:s.heap.get? a=ae o)(hc:o.cls= .type "list")(Q7:o.data= .seq xs k)(hd:o.dict=af)(hA:A.handled=af)
  (h:∀h' tk e,Heap.NewExcOf s.heap h' e "AttributeError"->Q af { s with heap:=h',toks:=tk }):aat (aaL prog w) A (getAttr? (.ref a) "keys") Q E s:=by
 obtain⟨c,Ij,dat,sl⟩:=o;simp only at hc Q7 hd;subst hc Q7 hd;obtain⟨hp,g,d,tk,os⟩:=s;have hT:∀Wt,(⟨hp,g,d,Wt,os⟩:aah).TypeIs (.ref a) "list":=λ_=>⟨_,hx,rfl⟩
 have f1:=sub_AttributeError;have f3:=ad9.lookup;have f4:=ad9.bind (.ref a);have f5:=am_list_getattr_none;unfold getAttr? getAttrBy? getAttrBy
 repeat (any_goals (first|assumption|exact hT _|((with_reducible show aat _ _ (call (aiz "list.__getattribute__") _ _) _ _ _);refine ahH ad9 (hT _) am_entry_list_getattribute (F.args_list_getattribute_2 _ _) (meets_getattribute_miss_list a xs k sl "keys" _ FJ (by decide) (by decide)) ⟨hx,hA,λh' Wt e gq=>?_⟩)|wp_step))
 obtain⟨t',u',he⟩:=gq.there;show aat _ _ (ahA _ _ _ _ _ _ _) _ _ _;unfold ahA
 repeat (any_goals (first|assumption|wp_step))
 all_goals exact h _ _ _ gq.of
end PySem
namespace L2
open PySem PySem.Spec PyProof.Rows
variable{aN:List (List (List Key)×V)}{xs:List (List (List Key)×Addr×aai)}
theorem KU.mF{H:Hp}(r:KU H aN xs)(k:List (List Key)){y:V}{u:aai}(ry:RelV y u):
  KU H (aN.map λkv=>if kv.1=k then(kv.1,y)else kv) (xs.map (putAt k u)):=by
 induction r with
 |nil=>exact .nil
 |@cons p q ps qs h t ih=>
  rw[aaV,aaV];refine .cons ?_ ih;obtain⟨h1,h2,h3⟩:=h;unfold putAt
  by_cases e:p.1=k
  .rw[if_pos e,if_pos (h1.symm.trans e)];exact⟨h1,h2,ry⟩
  .rw[if_neg e,if_neg (λz=>e (h1.trans z))];exact⟨h1,h2,h3⟩
theorem KU.put{H:Hp}(r:KU H aN xs)(k:List (List Key)){b:Addr}{y:V}{u:aai}(hb:jb H k b)(ry:RelV y u):
  KU H (putK aN k y) (aiC xs k b u):=by
 have e:(aN.any λkv=>decide (kv.1=k))=(agU xs k).isSome:=by
  rw[uV,(KU.val r k).xY,ahJ]
 unfold putK aiC;rw[e]
 by_cases q:(agU xs k).isSome=true
 .rw[if_pos q,if_pos q];exact KU.mF r k ry
 .rw[if_neg q,if_neg q];exact G3 r (.cons ⟨rfl,hb,ry⟩ .nil)
theorem FK{α β:Type}{F:α->β->Prop}:∀{vK:List α}{vL:List β}{i:Nat}{x:α},acw F vK vL->vK[i]? =ae x->∃y,vL[i]? =ae y/\F x y
 |_,_,0,_,.cons h _,e=>by cases e;exact⟨_,rfl,h⟩
 |_,_,i+1,_,.cons _ t,e=>FK (i:=i) t e
section
variable{X:Cx}{pins:List (Addr×Obj)}{σ:St}{H:Hp}{A:aa4}{E:aai->aah->Prop}
theorem O_{s:aah}{a b:Addr}{us:List (List (List Key)×V)}{bO:List (List Key)}{v:V}{r:aai}{Q:Unit->aah->Prop}(hu:A.units+8<cLine)(I:Inv X pins σ H s)(e:H a=ae (.dU us))(kb:jb H bO b)(hl:us.length<sizeLine)(rv:RelV v r)
  (h:∀h' t',abo a s.heap h'->Inv X pins σ (upd H a (.dU (putK us bO v))) { s with heap:=h',toks:=t' }->Q () { s with heap:=h',toks:=t' }):aat (aaL X.prog X.w) A (dictSet a (.ref b) r) Q E s:=by
 obtain⟨z,nd,xs,rel,dd⟩:=vf I.bc (.inl e);have lx:=rel.length;have Bq:(putK us bO v).length<=sizeLine:=by have:=jV us bO v;omega
 refine wpAny_dictSet_heap (knd:=nG (cy X.prog X.w)) (hsz:=by omega) (show A.units+4<cLine by omega) (t7 I.bc kb) dd λh' Df hs=>h _ _ hs ?_
 obtain⟨q,es,ep,hq,h2,h3,h4,_,h5⟩:=Df;have r3:KU (upd H a (.dU (putK us bO v))) (putK us bO v) (aiC xs bO b r):=by
  refine acw.vJ (KU.put rel bO kb rv) λp q w=>⟨w.1,w.2.1.more λc ys ec=>?_,w.2.2⟩
  rw[aV (xH ec e (λz=>nomatch z))];exact ec
 exact oU (ob:=.dU (putK us bO v)) I (by rw[e];exact adC) hs ⟨q,hq⟩ (show b7 X.prog X.w _ h' a (.dU (putK us bO v))from⟨Bq,nd,_,r3,q,es,ep,hq,h2,h3,h4,h5⟩)
def FL(H:Hp)(x:V)(p:List (List Key)×V):Prop:=∃t b,x= .ref t/\H t=ae (.tup [.ref b,p.2])/\jb H p.1 b
theorem zO{s:aah}{t:Addr}{x y:aai}{Q:List aai->aah->Prop}(h:aie s.heap t #[x,y])(q:Q [x,y] s):aat (aaL X.prog X.w) A (agu (.ref t)) Q E s:=by
 obtain⟨o,ho,hc,n,hd⟩:=h;unfold agu;refine Zu (afx (T:="tuple") ⟨o,ho,hc⟩ ?_);rw[if_pos (by decide)];refine Zu ?_;show aat _ _ (load t >>= _) _ _ s;refine Zu (wpAny_load ho ?_);obtain⟨oc,od,Wu,lh⟩:=o;simp only at hd;subst hd;exact aad (aad q)
theorem Te{J l D:Addr}{its:Array aai}{xs:List V}{ps:List (List (List Key)×V)}{R:ag1->aah->Prop}(hh:A.in1.handled=af)(hu:A.units+16<cLine)(Y9:l≠J)(Tf:J≠D)(Y_:l≠D)(hD:H D=af)(rx:Vals xs its.toList)(pp:acw (FL H) xs ps)(hz:its.size<=sizeLine):
  ∀(k i:Nat) (s:aah) (us:List (List (List Key)×V)),its.size - i=k->i<=its.size->s.heap.IsListIter J l i->s.heap.IsList l its->us.length<=i->jc X pins H J->Inv X pins σ (upd H D (.dU us)) s->
   (∀s',Inv X pins σ (upd H D (.dU ((ps.drop i).foldl (λa p=>putK a p.1 p.2) us))) s'->R (.ok (.ret .none)) s')->
   aeC (aaL X.prog X.w) A (.builtin "dict.update.loop" ⟨[.ref D,.ref J,aev i,.none],[]⟩) R s:=by
 have W:=aiy (prog:=X.prog) (w:=X.w) (A:=A.in1) hh J l Y9 its;have lp:xs.length=ps.length:=afZ pp;have lx:=rx.length;have lz:its.toList.length=its.size:=abb;intro k
 induction k with
 |zero=>
  intro i s us hk hi hit hl Za hf I hR;have Tg:i=its.size:=by omega
  subst Tg;refine ach PySem.G4 ?_;rw[abp PySem.xr _];show aat _ A.in1 (adS (.ref J) >>= _) _ _ s;refine Zu (W.done s _ _ ⟨hit,hl⟩ λh' tk kk=>?_);obtain⟨f0,f1,f2,f3,f4,f5⟩:=hf;have I1:Inv X pins σ (upd H D (.dU us)) { s with heap:=h',toks:=tk }:=I.turned (it:=J) (λb o hb e=>kk b o (by simpa using hb) e) (by rw[aV Tf];exact f0) f1 f3 f4 f5;show aat _ A.in1 (Builtin.Dict.addKeywords D [] >>= _) _ _ _;refine Zu (aad (aad ?_));refine hR _ ?_;rw[adG (by omega)];exact I1
 |succ k ih=>
  intro i s us hk hi hit hl Za hf I hR;have gd:i<its.size:=by omega
  refine ach PySem.G4 ?_;rw[abp PySem.xr _];show aat _ A.in1 (adS (.ref J) >>= _) _ _ s;refine Zu (W.item i s _ _ gd ⟨hit,hl⟩ λv h' tk hv qI kk=>?_);obtain⟨f0,f1,f2,f3,f4,f5⟩:=id hf;have I1:Inv X pins σ (upd H D (.dU us)) { s with heap:=h',toks:=tk }:=I.turned (it:=J) (λb o hb e=>kk b o (by simpa using hb) e) (by rw[aV Tf];exact f0) f1 f3 f4 f5;obtain⟨x,hx⟩:∃x,xs[i]? =ae x:=⟨_,aac (by omega)⟩;obtain⟨p,hp,t,b,ex,ht,kb⟩:=FK pp hx;obtain⟨u,Wv,ru⟩:=rx.get hx;subst ex;have Zb:v= .ref t:=by
   rw[agI,hv]at Wv;cases Wv;exact ru
  subst Zb;have Zc:t≠D:=λe=>by rw[e,hD]at ht;cases ht
  have Zd:(upd H D (.dU us)) t=ae (.tup [.ref b,p.2]):=by rw[aV Zc];exact ht
  have kb2:jb (upd H D (.dU us)) p.1 b:=kb.more λc ys ec=>by
   rw[aV (λe=>by rw[e,hD]at ec;cases ec)];exact ec
  obtain⟨its',r2,tt,_⟩:=I1.tuple (b_.of Zd);obtain⟨u1,u2,rfl,Ze,Zf⟩:=vals2 r2;cases (show u1=aaw b from Ze);show aat _ A.in1 (afi [aaw t] _ >>= _) _ _ _;refine Zu (aaP ?_);refine Zu (acB (zO tt ?_));show aat _ A.in1 (afi [aaw b,u2] (dictSet D (.ref b) u2)) _ _ _;refine aaP (O_ (by show A.units+1+8<cLine;omega) I1 (dI) kb2 (by omega) Zf λh2 t2 hs I2=>?_);rw[Jy]at I2;refine aad ⟨ab8 PySem.xr _,?_⟩;have Ww:h2.IsListIter J l (i+1):=qI.1.at λo e=>(hs.2 J Tf).trans e
  have Bq:h2.IsList l its:=qI.2.at λo e=>(hs.2 l Y_).trans e
  refine ih (i+1) _ (putK us p.1 p.2) (by omega) gd Ww Bq (by have:=jV us p.1 p.2;omega) hf I2 λs' I3=>hR s' ?_
  rw[abm (show i<ps.length by omega)];have:ps[i]'(by omega)=p:=by
   rw[aac (by omega)]at hp;exact aaI hp
  rw[this];exact I3
end
end L2
namespace L2
open PySem PySem.Spec PyProof.Rows
def G5(K:aaa):List V->Hp->VK->Prop:=λxs H Q=>∃l ws ps,xs=[.ref l]/\b8 K H l ws/\acw (FL H) ws ps/\∀D,H D=af->Q (.ref D) (upd H D (.dU (ps.foldl (λa p=>putK a p.1 p.2) [])))
section
variable{X:Cx}
theorem DU(hc:X.calm=true)(hu:X.A.units+64<cLine):eR X (.type "dict") (G5 X.K):=by
 intro pins s σ H xs us Q I r h;obtain⟨l,ws,ps,rfl,hl,pp,q⟩:=h;obtain⟨u,rfl,rx⟩:=vals1 r;cases (show u=aaw l from rx);obtain⟨its,rv,tl,zl⟩:=I.list hl;have hA:X.A.handled=af:=I.ok.hd hc;refine callType_codes (Q₁:=λobj bS=>obj= .ref s.heap.objs.size/\bS= { s with heap:=s.heap.push { cls:=.type "dict",data:=.dict #[] } }) F.kt_called_dict (F.kt_typeCall_dict_1 _) F.entry_dict_init (kt_code_dict_new _ ⟨rfl,rfl⟩) ?_;rintro obj bS ⟨rfl,rfl⟩;have hD:H s.heap.objs.size=af:=I.bc.fresh (aam _);have I1:Inv X pins σ (upd H s.heap.objs.size (.dU [])) { s with heap:=s.heap.push { cls:=.type "dict",data:=.dict #[] } }:=I.laid (a:=s.heap.objs.size) (o:=.dU []) (t':=s.toks) (λ_ _ q=>aab _ q) (aam _) (Al s.heap I.big);have Ti:({ s with heap:=s.heap.push { cls:=.type "dict",data:=.dict #[] } }:aah).TypeIs (.ref s.heap.objs.size) "dict":=⟨_,aal _ rfl,rfl⟩;have sz:(s.heap.push { cls:=.type "dict",data:=.dict #[] }).objs.size=s.heap.objs.size+1:=abn ..;have Wx:l<s.heap.objs.size:=by obtain⟨o,n,e,_⟩:=tl;exact aan e
 have Wy:PlainL (s.heap.push { cls:=.type "dict",data:=.dict #[] }) l its.toArray:=by
  obtain⟨o,n,e,x⟩:=tl;exact⟨o,n,aab _ e,x⟩
 refine⟨Ti,F.args_dict_init_2 _ _,?_⟩;generalize hD0:s.heap.objs.size=D at*;generalize Wz:({ s with heap:=s.heap.push { cls:=.type "dict",data:=.dict #[] } }:aah)=s1 at*;have eh:s1.heap=s.heap.push { cls:=.type "dict",data:=.dict #[] }:=by rw[<-Wz]
 rw[<-eh]at sz Wy;clear Wz;unfold adF.«dict.__init__»;refine Zu ?_;unfold Builtin.Dict.selfAndRest;refine Zu (adP Ti ?_);show aat _ _ (pure (D,[aaw l])) _ _ _;refine aad ?_;show aat _ _ (af6 "dict.__init__" D (.ref l) [] .none) _ _ _;unfold af6;obtain⟨o,n,e,cl,nd,dt⟩:=id Wy;refine Zu (afx (T:="list") ⟨o,e,cl⟩ ?_);rw[if_pos (by decide)];refine Zu (PySem.O9 e cl dt nd (by simp[hA]) λh2 tk ex ne=>?_);have I2:Inv X pins σ (upd H D (.dU [])) { s1 with heap:=h2,toks:=tk }:=I1.kept ne.keeps;have WA:h2.IsList l its.toArray:=⟨o,ne.keeps _ _ e,cl,n,dt⟩;have z2:D<h2.objs.size:=by
  obtain⟨o',e',_⟩:=Ti;exact aan (ne.keeps _ _ e')
 have n1:h2.objs.size≠D:=ac0 z2;have n2:l≠h2.objs.size:=aaF (Nat.lt_trans Wx z2);have n3:l≠D:=aaF Wx;show aat _ _ (_ >>= _) _ _ _;refine Zu (acD ?_);refine Zu (adj WA ?_);have I3:Inv X pins σ (upd H D (.dU [])) { s1 with heap:=h2.push { cls:=.type "list_iterator",data:=.fields #[.ref l,.int 0 0] },toks:=tk }:=I2.kept (t':=tk) λb o e=>aab _ e
 have fJ:jc X pins H h2.objs.size:=I2.s_ (aam _) (by have:=I2.bc.fresh (a:=h2.objs.size) (aam _);rw[aV n1]at this;exact this);refine aad ⟨ab8 PySem.xr _,?_⟩;refine Te (H:=H) (J:=h2.objs.size) (l:=l) (D:=D) (its:=its.toArray) (xs:=ws) (ps:=ps) (by simp[hA]) (by show X.A.units+1+16<cLine;omega) n2 n1 n3 hD rv pp (by have:=rv.length;simp;omega) _ 0 _ [] rfl (abk _) ⟨_,aal _ rfl,rfl,rfl⟩ (WA.push _) (aam _) fJ I3 λs' I4=>?_
 exact⟨rfl,.ref D,_,I4,rfl,q D hD⟩
end
theorem DV{K:aaa}{ρ:Nat->Addr}{N:Nat}{H:Hp}:∀{xs:List Qm.D}{vs:List V}{ps:List (List (List Int)×Qm.D)},RA K ρ N H xs vs->Qm.omap Qm.vc xs=ae ps->∃us,acw (FL H) vs us/\eu K ρ N H ps us
 |[],_,_,a,h=>by
  cases a;cases h;exact⟨[],.nil,.nil⟩
 |x::xs,_,_,a,h=>by
  cases a with
  |cons r a=>
   unfold Qm.omap at h;obtain⟨p,h1,h⟩:=aF h;obtain⟨ps,h2,h⟩:=aF h;cases h;obtain⟨us,p1,p2⟩:=DV a h2;unfold Qm.vc at h1;split at h1
   .rename_i kk vv
    obtain⟨y,h3,h1⟩:=aF h1;cases h1;obtain⟨t,ws,rfl,h4,a4⟩:=r.g9;obtain⟨w1,w2,rfl,r1,r2⟩:=a4.kr;obtain⟨b,rfl,kb⟩:=FH r1 h3;exact⟨(md y,w2)::us,.cons ⟨t,b,rfl,h4,kb⟩ p1,.cons r2 p2⟩
   .cases h1
theorem eu.Tj{K:aaa}{ρ:Nat->Addr}{N:Nat}{H:Hp}{ps:List (List (List Int)×Qm.D)}{us:List (List (List Key)×V)}(a:eu K ρ N H ps us):∀{qs:List (List (List Int)×Qm.D)}{vs:List (List (List Key)×V)},eu K ρ N H qs vs->eu K ρ N H (ps.foldl (λa p=>Qm.mP a p.1 p.2) qs) (us.foldl (λa p=>putK a p.1 p.2) vs):=by
 induction a with
 |nil=>exact λb=>b
 |cons r a ih=>exact λb=>ih (eu.put r b _)
theorem IJ{K:aaa}:mL K (G5 K) Qm.xp:=by
 intro ρ c H ds d c' vs Q rs ra e k;obtain⟨x,rfl,e⟩:=jk e;obtain⟨v,rfl,rx⟩:=ra.jB;obtain⟨l,e1,e⟩:=aF e;obtain⟨ps,e2,e⟩:=aF e;cases e;obtain⟨_,hc,ws,rfl,h1,a1⟩:=rs.bp rx e1;obtain⟨us,p1,p2⟩:=DV a1 e2;refine⟨_,ws,us,rfl,b8.of h1,p1,λq hq=>?_⟩;obtain⟨n,r⟩:=Nx.xi (z:=.h_ (ps.foldl (λa p=>Qm.mP a p.1 p.2) [])) (o:=.dU (us.foldl (λa p=>putK a p.1 p.2) [])) rs hq (λ_ _ _ u h=>⟨_,h,(p2.Tj .nil).up u⟩);exact k _ _ _ n r
end L2
namespace PySem
set_option maxRecDepth 100000
abbrev kD(h:Heap)(z TI TO:Addr)(f0 f1:aai):Prop:=
 h.get? z=ae { cls:=.type "zip",dict:=af,data:=.fields #[f0,f1,.bool false,.ref TI,.ref TO],slots:=#[] }
def ZF(f0:aai):Prop:=f0= .none\/∃a t,f0= .int a t
structure IK(z TI TO i1 i2:Addr):Prop where
 a1:TI≠z
 a2:TO≠z
 a3:i1≠z
 a4:i2≠z
 a5:TI≠TO
 a6:TI≠i1
 a7:TI≠i2
 a8:TO≠i1
 a9:TO≠i2
 Zg:i1≠i2
section
variable{prog:aaD}{w:aa9}{A:aa4}{E:aai->aah->Prop}{s:aah}{z TI TO i1 i2:Addr}{f0 f1 x y a b:aai}
theorem B0{n:Addr}{Q:Option Obj->aah->Prop}(h:Q (s.heap.get? n) s):aat (aaL prog w) A (loadIfAlive n) Q E s:=λ_ _ _=>h
theorem LA{Q:Bool->aah->Prop}(hz:kD s.heap z TI TO f0 f1)(hf:ZF f0)(q1:Q true s)(q2:∀h' g1,kD h' z TI TO f0 g1->abo z s.heap h'->Q false { s with heap:=h' }):
  aat (aaL prog w) A (abG (.ref z)) Q E s:=by
 unfold abG;refine Zu (abF hz rfl (x:=f0) rfl ?_);rcases hf with rfl|⟨n,t,rfl⟩
 .exact aad q1
 .refine Zu (B0 ?_)
  cases hg:s.heap.get? n.toNat with
  |none=>exact aad q1
  |some o=>
   show aat _ _ (aiO (.ref z) 1 >>= _) _ _ _;refine Zu (abF hz rfl (x:=f1) rfl ?_);split
   .exact Zu (ab1 hz (by simp) λh' wV hs=>aad (q2 h' _ wV hs))
   .exact aad (q2 s.heap f1 hz ⟨rfl,λ_ _=>rfl⟩)
def Dr(prog:aaD)(w:aa9)(A:aa4)(s:aah)(i:Addr)(h:Heap)(x:aai)(G:Heap->Prop):Prop:=
 ∀(Q:aai->aah->Prop) (E:aai->aah->Prop),(∀h',G h'->abo i h h'->Q x { s with heap:=h' })->aat (aaL prog w) A (aay (.ref i)) Q E { s with heap:=h }
theorem LB{G1 G2:Heap->Prop}{Q:aai->aah->Prop}(D:IK z TI TO i1 i2)(hz:kD s.heap z TI TO f0 f1)(hf:ZF f0)(hI:acP s.heap TI (.ref i1) (.ref i2))(hO:acP s.heap TO a b)
  (d1:∀h',(∀c o,c≠z->s.heap.get? c=ae o->h'.get? c=ae o)->Dr prog w A s i1 h' x G1)(d2:∀h',(∀c o,c≠z->c≠TO->c≠i1->s.heap.get? c=ae o->h'.get? c=ae o)->Dr prog w A s i2 h' y G2)
  (g1:∀h h',G1 h->(∀c o,c≠z->c≠TO->c≠i2->h.get? c=ae o->h'.get? c=ae o)->G1 h')(g2:∀h h',G2 h->(∀c o,c≠z->c≠TO->h.get? c=ae o->h'.get? c=ae o)->G2 h')
  (hQ:∀h' k0 k1 p q,kD h' z TI TO k0 k1->ZF k0->acP h' TO p q->G1 h'->G2 h'->acP h' s.heap.objs.size x y->(∀c o,c≠z->c≠TO->c≠i1->c≠i2->s.heap.get? c=ae o->h'.get? c=ae o)->Q (.ref s.heap.objs.size) { s with heap:=h' }):
  aat (aaL prog w) A (adF.«zip.__next__» ⟨[.ref z],[]⟩) (λfin s'=>∃v,fin= .done (.ret v)/\Q v s') E s:=by
 show aat _ _ (aiO (.ref z) 2 >>= _) _ _ _;refine Zu (abF hz rfl (x:=.bool false) rfl ?_);show aat _ _ (aiO (.ref z) 3 >>= _) _ _ _;refine Zu (abF hz rfl (x:=.ref TI) rfl ?_);refine Zu (aba hI rfl ?_);show aat _ _ (abG (.ref z) >>= _) _ _ _;refine Zu (LA hz hf ?_ (λh0 k1 z0 s0=>?_))
 .simp only[if_true]
  refine Zu (acD ?_);refine Zu (abF hz rfl (x:=.ref TO) rfl ?_);refine Zu (ab1 hz (by simp) λh1 z1 s1=>?_)
  replace z1:kD h1 z TI TO .ellipsis f1:=z1
  refine Zu ?_;simp only[ah4,aip,aeo,afF];refine Zu (Zu (af7 ?_));show aat _ _ (aay (.ref i1) >>= _) _ _ _;refine Zu (d1 h1 (λc o hc e=>s1.extBut _ _ hc e) _ _ λh2 v2 s2=>aad ?_);have o2:acP h2 TO a b:=s2.extBut _ _ D.a8 (s1.extBut _ _ D.a2 hO);refine Zu (aba o2 rfl (Zu (ae5 o2 λh3 o3 s3=>?_)))
  replace o3:acP h3 TO x b:=o3
  refine Zu (ac5 (aad ?_));refine Zu (Zu (af7 ?_));show aat _ _ (aay (.ref i2) >>= _) _ _ _;refine Zu (d2 h3 (λc o c1 c2 c3 e=>s3.extBut _ _ c2 (s2.extBut _ _ c3 (s1.extBut _ _ c1 e))) _ _ λh4 v4 s4=>aad ?_);have o4:acP h4 TO x b:=s4.extBut _ _ D.a9 o3;refine Zu (aba o4 rfl (Zu (ae5 o4 λh5 o5 s5=>?_)))
  replace o5:acP h5 TO x y:=o5
  refine Zu (ac5 (aad (aad ?_)));refine Zu (aba o5 rfl (Zu (wpAny_newTuple ?_)));have sz:h5.objs.size=s.heap.objs.size:=by rw[s5.1,s4.1,s3.1,s2.1,s1.1]
  have z5:kD h5 z TI TO .ellipsis f1:=s5.extBut _ _ D.a2.symm (s4.extBut _ _ D.a4.symm (s3.extBut _ _ D.a2.symm (s2.extBut _ _ D.a3.symm z1)));have k5:∀c o,c≠z->c≠TO->c≠i1->c≠i2->s.heap.get? c=ae o->h5.get? c=ae o:=λc o c1 c2 c3 c4 e=>s5.extBut _ _ c2 (s4.extBut _ _ c4 (s3.extBut _ _ c2 (s2.extBut _ _ c3 (s1.extBut _ _ c1 e))))
  show aat _ _ (ad6 (.ref z) (.ref h5.objs.size) >>= _) _ _ _;refine Zu ?_;unfold ad6;have z6:kD (h5.push { cls:=.type "tuple",data:=.seq #[x,y] }) z TI TO .ellipsis f1:=aab _ z5;refine Zu (ab1 z6 (by simp) λh7 z7 s7=>?_)
  replace z7:kD h7 z TI TO (aev h5.objs.size) f1:=z7
  refine ab1 z7 (by simp) λh8 z8 s8=>?_
  replace z8:kD h8 z TI TO (aev h5.objs.size) (.bool false):=z8
  have nz:h5.objs.size≠z:=ac0 (aan z5);have up:∀c o,c≠z->h5.get? c=ae o->h8.get? c=ae o:=λc o c1 e=>s8.extBut _ _ c1 (s7.extBut _ _ c1 (aab _ e))
  have t8:acP h8 h5.objs.size x y:=s8.extBut _ _ nz (s7.extBut _ _ nz (aal _ rfl));rw[sz]at t8;refine aad ⟨_,rfl,?_⟩;show Q (.ref h5.objs.size) _;rw[sz];refine hQ h8 _ _ _ _ z8 (.inr ⟨_,_,rfl⟩) (up _ _ D.a2 o5) (g1 _ _ v2 λc o c1 c2 c4 e=>up c o c1 (s5.extBut _ _ c2 (s4.extBut _ _ c4 (s3.extBut _ _ c2 e)))) (g2 _ _ v4 λc o c1 c2 e=>up c o c1 (s5.extBut _ _ c2 e)) t8 λc o c1 c2 c3 c4 e=>up c o c1 (k5 c o c1 c2 c3 c4 e)
 .simp only[aav,if_false]
  rw[<-adI];simp only[aeo,afF];refine Zu (Zu (Zu (aaP ?_)));show aat _ _ (aay (.ref i1) >>= _) _ _ _;refine Zu (d1 h0 (λc o hc e=>s0.extBut _ _ hc e) _ _ λh1 v1 s1=>aad (aad ?_));refine Zu (Zu (aaP ?_));show aat _ _ (aay (.ref i2) >>= _) _ _ _;refine Zu (d2 h1 (λc o hc _ h1 e=>s1.extBut _ _ h1 (s0.extBut _ _ hc e)) _ _ λh2 v2 s2=>aad (aad (aad ?_)));show aat _ _ (ahm [x,y] >>= _) _ _ _;have sz:h2.objs.size=s.heap.objs.size:=by rw[s2.1,s1.1,s0.1]
  have z2:kD h2 z TI TO f0 k1:=s2.extBut _ _ D.a4.symm (s1.extBut _ _ D.a3.symm z0);have up:∀c o,h2.get? c=ae o->(h2.push { cls:=.type "tuple",data:=.seq #[x,y] }).get? c=ae o:=λc o e=>aab _ e
  refine Zu (wpAny_newTuple (aad ⟨_,rfl,?_⟩));show Q (.ref h2.objs.size) _;have t8:acP (h2.push { cls:=.type "tuple",data:=.seq #[x,y] }) h2.objs.size x y:=aal _ rfl;rw[sz]at t8 |-
  exact hQ _ _ _ _ _ (up _ _ z2) hf (up _ _ (s2.extBut _ _ D.a9 (s1.extBut _ _ D.a8 (s0.extBut _ _ D.a2 hO)))) (g1 _ _ v1 λc o _ _ c4 e=>up _ _ (s2.extBut _ _ c4 e)) (g2 _ _ v2 λc o _ _ e=>up _ _ e) t8 λc o c1 _ c3 c4 e=>up _ _ (s2.extBut _ _ c4 (s1.extBut _ _ c3 (s0.extBut _ _ c1 e)))
def De(prog:aaD)(w:aa9)(A:aa4)(s:aah)(i:Addr)(h:Heap):Prop:=
 ∀(Q:aai->aah->Prop) (E:aai->aah->Prop),(∀h' e,aez i h h'->(∃o,h'.get? e=ae o/\o.cls= .type "StopIteration")->E (.ref e) { s with heap:=h' })->aat (aaL prog w) A (aay (.ref i)) Q E { s with heap:=h }
theorem Pa{Q:Fin->aah->Prop}(D:IK z TI TO i1 i2)(hz:kD s.heap z TI TO f0 f1)(hf:ZF f0)(hI:acP s.heap TI (.ref i1) (.ref i2))(hO:acP s.heap TO a b)
  (hd:(∀h',(∀c o,c≠z->s.heap.get? c=ae o->h'.get? c=ae o)->De prog w A s i1 h')\/
   ∃x G1,(∀h',(∀c o,c≠z->s.heap.get? c=ae o->h'.get? c=ae o)->Dr prog w A s i1 h' x G1)/\∀h',(∀c o,c≠z->c≠TO->c≠i1->s.heap.get? c=ae o->h'.get? c=ae o)->De prog w A s i2 h')
  (hE:∀h' e,(∀c o,c≠z->c≠TO->c≠i1->c≠i2->s.heap.get? c=ae o->h'.get? c=ae o)->(∃o,h'.get? e=ae o/\o.cls= .type "StopIteration")->E (.ref e) { s with heap:=h' }):
  aat (aaL prog w) A (adF.«zip.__next__» ⟨[.ref z],[]⟩) Q E s:=by
 show aat _ _ (aiO (.ref z) 2 >>= _) _ _ _;refine Zu (abF hz rfl (x:=.bool false) rfl ?_);show aat _ _ (aiO (.ref z) 3 >>= _) _ _ _;refine Zu (abF hz rfl (x:=.ref TI) rfl ?_);refine Zu (aba hI rfl ?_);show aat _ _ (abG (.ref z) >>= _) _ _ _;refine Zu (LA hz hf ?_ (λh0 k1 z0 s0=>?_))
 .simp only[if_true]
  refine Zu (acD ?_);refine Zu (abF hz rfl (x:=.ref TO) rfl ?_);refine Zu (ab1 hz (by simp) λh1 z1 s1=>?_)
  replace z1:kD h1 z TI TO .ellipsis f1:=z1
  refine Zu ?_;simp only[ah4,aip,aeo,afF];refine Zu (Zu (af7 ?_));show aat _ _ (aay (.ref i1) >>= _) _ _ _;rcases hd with e1|⟨x,G1,d1,e2⟩
  .refine Zu (e1 h1 (λc o hc e=>s1.extBut _ _ hc e) _ _ λh2 e s2 he=>?_)
   obtain⟨oe,g,hc⟩:=he;have z2:kD h2 z TI TO .ellipsis f1:=s2 _ _ D.a3.symm z1;have ez:e≠z:=λx=>by subst x;rw[z2]at g;cases g;simp at hc
   exact ab1 z2 (by simp) λh3 _ s3=>hE h3 e (λc o c1 _ c3 _ x=>s3.extBut _ _ c1 (s2 _ _ c3 (s1.extBut _ _ c1 x))) ⟨oe,s3.extBut _ _ ez g,hc⟩
  .refine Zu (d1 h1 (λc o hc e=>s1.extBut _ _ hc e) _ _ λh2 v2 s2=>aad ?_)
   have o2:acP h2 TO a b:=s2.extBut _ _ D.a8 (s1.extBut _ _ D.a2 hO);refine Zu (aba o2 rfl (Zu (ae5 o2 λh3 o3 s3=>?_)));refine Zu (ac5 (aad ?_));refine Zu (Zu (af7 ?_));show aat _ _ (aay (.ref i2) >>= _) _ _ _;refine Zu (e2 h3 (λc o c1 c2 c3 e=>s3.extBut _ _ c2 (s2.extBut _ _ c3 (s1.extBut _ _ c1 e))) _ _ λh4 e s4 he=>?_);obtain⟨oe,g,hc⟩:=he;have z4:kD h4 z TI TO .ellipsis f1:=s4 _ _ D.a4.symm (s3.extBut _ _ D.a2.symm (s2.extBut _ _ D.a3.symm z1));have ez:e≠z:=λx=>by subst x;rw[z4]at g;cases g;simp at hc
   exact ab1 z4 (by simp) λh5 _ s5=>hE h5 e (λc o c1 c2 c3 c4 x=>s5.extBut _ _ c1 (s4 _ _ c4 (s3.extBut _ _ c2 (s2.extBut _ _ c3 (s1.extBut _ _ c1 x))))) ⟨oe,s5.extBut _ _ ez g,hc⟩
 .simp only[aav,if_false]
  rw[<-adI];simp only[aeo,afF];refine Zu (Zu (Zu (aaP ?_)));show aat _ _ (aay (.ref i1) >>= _) _ _ _;rcases hd with e1|⟨x,G1,d1,e2⟩
  .exact Zu (e1 h0 (λc o hc e=>s0.extBut _ _ hc e) _ _ λh2 e s2 he=>hE h2 e (λc o c1 _ c3 _ x=>s2 _ _ c3 (s0.extBut _ _ c1 x)) he)
  .refine Zu (d1 h0 (λc o hc e=>s0.extBut _ _ hc e) _ _ λh1 v1 s1=>aad (aad ?_))
   refine Zu (Zu (aaP ?_));show aat _ _ (aay (.ref i2) >>= _) _ _ _;exact Zu (e2 h1 (λc o hc _ h1 e=>s1.extBut _ _ h1 (s0.extBut _ _ hc e)) _ _ λh2 e s2 he=>hE h2 e (λc o c1 _ c3 c4 x=>s2 _ _ c4 (s1.extBut _ _ c3 (s0.extBut _ _ c1 x))) he)
variable{Q:Option aai->aah->Prop}
theorem LD{G1 G2:Heap->Prop}(D:IK z TI TO i1 i2)(hz:kD s.heap z TI TO f0 f1)(hf:ZF f0)(hI:acP s.heap TI (.ref i1) (.ref i2))(hO:acP s.heap TO a b)
  (d1:∀h',(∀c o,c≠z->s.heap.get? c=ae o->h'.get? c=ae o)->Dr prog w A.in1 s i1 h' x G1)(d2:∀h',(∀c o,c≠z->c≠TO->c≠i1->s.heap.get? c=ae o->h'.get? c=ae o)->Dr prog w A.in1 s i2 h' y G2)
  (g1:∀h h',G1 h->(∀c o,c≠z->c≠TO->c≠i2->h.get? c=ae o->h'.get? c=ae o)->G1 h')(g2:∀h h',G2 h->(∀c o,c≠z->c≠TO->h.get? c=ae o->h'.get? c=ae o)->G2 h')
  (hQ:∀h' k0 k1 p q,kD h' z TI TO k0 k1->ZF k0->acP h' TO p q->G1 h'->G2 h'->acP h' s.heap.objs.size x y->(∀c o,c≠z->c≠TO->c≠i1->c≠i2->s.heap.get? c=ae o->h'.get? c=ae o)->Q (ae (.ref s.heap.objs.size)) { s with heap:=h' }):
  aat (aaL prog w) A (adS (.ref z)) Q E s:=by
 have hT:s.TypeIs (.ref z) "zip":=⟨_,hz,rfl⟩;unfold adS;exact Zu (aef (aaQ (name:=ab9 "__next__") hT aep (aaO aep hT ah5
  (LB D hz hf hI hO d1 d2 g1 g2 λh' k0 k1 p q c1 c2 c3 c4 c5 c6 c7=>aad (hQ h' k0 k1 p q c1 c2 c3 c4 c5 c6 c7)) (ahN _))))
theorem Pb(D:IK z TI TO i1 i2)(hz:kD s.heap z TI TO f0 f1)(hf:ZF f0)(hI:acP s.heap TI (.ref i1) (.ref i2))(hO:acP s.heap TO a b)
  (hd:(∀h',(∀c o,c≠z->s.heap.get? c=ae o->h'.get? c=ae o)->De prog w A.in1 s i1 h')\/
   ∃x G1,(∀h',(∀c o,c≠z->s.heap.get? c=ae o->h'.get? c=ae o)->Dr prog w A.in1 s i1 h' x G1)/\∀h',(∀c o,c≠z->c≠TO->c≠i1->s.heap.get? c=ae o->h'.get? c=ae o)->De prog w A.in1 s i2 h')
  (hQ:∀h',(∀c o,c≠z->c≠TO->c≠i1->c≠i2->s.heap.get? c=ae o->h'.get? c=ae o)->Q af { s with heap:=h' }):aat (aaL prog w) A (adS (.ref z)) Q E s:=by
 have hT:s.TypeIs (.ref z) "zip":=⟨_,hz,rfl⟩;unfold adS;refine Zu (aef (aaQ (name:=ab9 "__next__") hT aep (aaO aep hT ah5 (Pa D hz hf hI hO hd λh' e hk he=>?_) (ahN _))));obtain⟨o,ho,hc⟩:=he;exact Zu (aco (T:="StopIteration") (b:=true) ⟨o,ho,hc⟩ agY (aad (hQ _ hk)))
end
end PySem
namespace PySem
section
variable{prog:aaD}{w:aa9}{A:aa4}{E:aai->aah->Prop}{s:aah}{z TI TO:Addr}{f0 f1:aai}
theorem Pc{tg:abl}{T:Addr}{Q:Unit->aah->Prop}(hz:kD s.heap z TI TO f0 f1)(hf:ZF f0)(q:∀h' k0,kD h' z TI TO k0 f1->ZF k0->abo z s.heap h'->Q () { s with heap:=h' }):
  aat (aaL prog w) A (adi tg (.ref z) (.ref T)) Q E s:=by
 have skip:Q () s:=q s.heap f0 hz hf ⟨rfl,λ_ _=>rfl⟩;have tup:aat (aaL prog w) A (adi (.Tuple [] 0 default) (.ref z) (.ref T)) Q E s:=by
  unfold adi;refine Zu (wpAny_load hz ?_);show aat _ _ (if (["enumerate","zip","dict_itemiterator","dict_reverseitemiterator","odict_iterator","itertools.zip_longest","itertools.pairwise"].contains "zip"&&(#[f0,f1,.bool false,.ref TI,.ref TO]:Array aai)[0]?==ae (aev T))=true then _ else _) Q E s;split
  .refine Zu (acD ?_)
   show aat _ _ (ah9 (.ref z) 0 .none) Q E s;exact ab1 hz (by simp) λh' wV KG=>q h' _ wV (.inl rfl) KG
  .exact aad skip
 cases tg<;>first|exact tup|exact aad skip
end
end PySem
namespace L2
open PySem PySem.Spec PyProof.Rows
theorem sI{P:aaD}{w:aa9}{K:aaa}{tg:abl}{J:It}(z TI TO i1 i2:Addr)(D:IK z TI TO i1 i2)(S1 S2:Nat->Heap->Prop)
  (o1:∀i h,S1 i h->∃o,h.get? i1=ae o/\∀v,o.data≠.cell v)(o2:∀i h,S2 i h->∃o,h.get? i2=ae o/\∀v,o.data≠.cell v)
  (k1:∀i h h',S1 i h->(∀o,h.get? i1=ae o->h'.get? i1=ae o)->S1 i h')(k2:∀i h h',S2 i h->(∀o,h.get? i2=ae o->h'.get? i2=ae o)->S2 i h')
  (go:∀(X:Cx),X.prog=P->X.w=w->X.K=K->X.calm=true->∀(i:Nat) (pins:List (Addr×Obj)) (s:aah) (σ:St) (H:Hp),Inv X pins σ H s->J.go i H->S1 i s.heap->S2 i s.heap->H s.heap.objs.size=af->∃x y ux uy,RelV x ux/\RelV y uy/\
   (∀h',(∀c o,c≠z->s.heap.get? c=ae o->h'.get? c=ae o)->Dr P w X.A.in1 s i1 h' ux (S1 (i+1)))/\(∀h',(∀c o,c≠z->c≠TO->c≠i1->s.heap.get? c=ae o->h'.get? c=ae o)->Dr P w X.A.in1 s i2 h' uy (S2 (i+1)))/\
   J.HM i H (.ref s.heap.objs.size) (upd H s.heap.objs.size (.tup [x,y])))
  (dn:∀(X:Cx),X.prog=P->X.w=w->X.K=K->X.calm=true->∀(i:Nat) (pins:List (Addr×Obj)) (s:aah) (σ:St) (H:Hp),Inv X pins σ H s->J.stop i H->S1 i s.heap->S2 i s.heap->
   (∀h',(∀c o,c≠z->s.heap.get? c=ae o->h'.get? c=ae o)->De P w X.A.in1 s i1 h')\/
   ∃x G1,(∀h',(∀c o,c≠z->s.heap.get? c=ae o->h'.get? c=ae o)->Dr P w X.A.in1 s i1 h' x G1)/\∀h',(∀c o,c≠z->c≠TO->c≠i1->s.heap.get? c=ae o->h'.get? c=ae o)->De P w X.A.in1 s i2 h'):
  Turn P w K tg J [z,TI,TO,i1,i2] z (λi h=>(∃f0 f1,kD h z TI TO f0 f1/\ZF f0)/\acP h TI (.ref i1) (.ref i2)/\(∃x y,acP h TO x y)/\S1 i h/\S2 i h) where
 mem:=by simp
 obj:=λi h Z c hc=>by
  obtain⟨⟨f0,f1,hz,_⟩,gI,⟨x,y,gO⟩,j1,j2⟩:=Z;rcases aaj.mp hc with rfl|hc
  .exact⟨_,hz,by simp⟩
  rcases aaj.mp hc with rfl|hc
  .exact⟨_,gI,by simp⟩
  rcases aaj.mp hc with rfl|hc
  .exact⟨_,gO,by simp⟩
  rcases aaj.mp hc with rfl|hc
  .exact o1 _ _ j1
  .cases aak.mp hc
   exact o2 _ _ j2
 keep:=λi h h' Z kk=>by
  obtain⟨⟨f0,f1,hz,hf⟩,gI,⟨x,y,gO⟩,j1,j2⟩:=Z;exact⟨⟨f0,f1,kk _ (by simp) _ hz,hf⟩,kk _ (by simp) _ gI,⟨x,y,kk _ (by simp) _ gO⟩,k1 _ _ _ j1 λo e=>kk _ (by simp) o e,k2 _ _ _ j2 λo e=>kk _ (by simp) o e⟩
 item:=λX hP hw hK hc i pins s σ H E I hf Z hg=>by
  obtain⟨⟨f0,f1,hz,Tn⟩,gI,⟨x0,y0,gO⟩,j1,j2⟩:=Z;have Zh:H s.heap.objs.size=af:=I.bc.fresh (aam _);obtain⟨x,y,ux,uy,rx,ry,d1,d2,yl⟩:=go X hP hw hK hc i pins s σ H I hg j1 j2 Zh;subst hP hw hK;have gd:∀c∈[z,TI,TO,i1,i2],c<s.heap.objs.size:=λc cP=>by
   rcases aaj.mp cP with rfl|cP
   .exact aan hz
   rcases aaj.mp cP with rfl|cP
   .exact aan gI
   rcases aaj.mp cP with rfl|cP
   .exact aan gO
   rcases aaj.mp cP with rfl|cP
   .obtain⟨o,e,_⟩:=o1 _ _ j1;exact aan e
   .cases aak.mp cP
    obtain⟨o,e,_⟩:=o2 _ _ j2;exact aan e
  refine LD D hz Tn gI gO d1 d2 (λh h' g kk=>k1 _ _ _ g λo e=>kk i1 o D.a3 D.a8.symm D.Zg e) (λh h' g kk=>k2 _ _ _ g λo e=>kk i2 o D.a4 D.a9.symm e) λh' m0 m1 p q zr hm Zi Zj Zk gT keep=>⟨_,rfl,?_⟩
  refine Pc zr hm λh2 n0 z2 hn s2=>?_
  have up:∀c o,c≠z->h'.get? c=ae o->h2.get? c=ae o:=λc o cP e=>s2.extBut _ _ cP e
  have Tz:s.heap.objs.size≠z:=ac0 (gd z (by simp));have Zl:=up _ _ Tz gT;have tI:=keep _ _ D.a1 D.a5 D.a6 D.a7 gI;have zS:∀c u,c∉[z,TI,TO,i1,i2]->s.heap.get? c=ae u->h2.get? c=ae u:=λc u cP e=>by
   simp only[aaj,adB,or_false,not_or]at cP;exact up c u cP.1 (keep c u cP.1 cP.2.2.1 cP.2.2.2.1 cP.2.2.2.2 e)
  refine⟨.ref s.heap.objs.size,upd H s.heap.objs.size (.tup [x,y]),I.S3 (t':=s.toks) hf zS (aam _) ⟨by show 2<=sizeLine;decide,[ux,uy],.cons rx (.cons ry .nil),⟨_,Zl,rfl,_,rfl⟩⟩,rfl,yl,⟨⟨_,_,z2,hn⟩,up _ _ D.a1 tI,⟨_,_,up _ _ D.a2 Zi⟩,k1 _ _ _ Zj λo e=>up _ _ D.a3 e,k2 _ _ _ Zk λo e=>up _ _ D.a4 e⟩,λc cP=>?_⟩;rw[aV (aaF (gd c cP))];exact(hf c cP).1
 done:=λX hP hw hK hc i pins s σ H E I hf Z st=>by
  obtain⟨⟨f0,f1,hz,Tn⟩,gI,⟨x0,y0,gO⟩,j1,j2⟩:=Z;have hd:=dn X hP hw hK hc i pins s σ H I st j1 j2;subst hP hw hK;refine Pb D hz Tn gI gO hd λh' kk=>⟨rfl,I.S4 (t':=s.toks) hf λc u cP e=>?_⟩
  simp only[aaj,adB,or_false,not_or]at cP;exact kk c u cP.1 cP.2.2.1 cP.2.2.2.1 cP.2.2.2.2 e
 self:=λA i s Q E Z q=>by
  obtain⟨⟨f0,f1,hz,_⟩,_⟩:=Z;have hT:s.TypeIs (.ref z) "zip":=⟨_,hz,rfl⟩;refine afH hT F.slot_zip_iter (aaO F.slot_zip_iter hT F.entry_zip_iter ?_ (F.args_zip_iter_1 _));show aat _ _ (ret (.ref z)) _ _ s;exact aad ⟨_,rfl,"zip",_,hT,aep.lookup,q⟩
end L2
namespace PySem
abbrev Pd(h:Heap)(d:Addr)(n ep:Nat):Heap:=h.push { cls:=.type "dict_keyiterator",data:=.fields #[.ref d,.int 0 0,.int n 0,.int ep 0] }
abbrev Pe(h:Heap)(d l:Addr)(n ep:Nat):Heap:=(Pd h d n ep).push { cls:=.type "list_iterator",data:=.fields #[.ref l,.int 0 0] }
abbrev Pf(h:Heap)(d l:Addr)(n ep:Nat):Heap:=(Pe h d l n ep).push { cls:=.type "tuple",data:=.seq #[.ref h.objs.size,.ref (Pd h d n ep).objs.size] }
abbrev Pg(h:Heap)(d l:Addr)(n ep:Nat):Heap:=(Pf h d l n ep).push { cls:=.type "tuple",data:=.seq #[.none,.none] }
abbrev IL(h:Heap)(d l:Addr)(n ep:Nat):Heap:=(Pg h d l n ep).push { cls:=.type "zip",data:=.fields #[.none,.bool false,.bool false,.ref (Pe h d l n ep).objs.size,.ref (Pf h d l n ep).objs.size] }
section
variable{prog:aaD}{w:aa9}{A:aa4}{E:aai->aah->Prop}{s:aah}
theorem B3{z TI TO i1 i2 a b:Addr}(D:aib z TI TO i1 i2 a b):IK z TI TO i1 i2:=⟨D.TIz,D.TOz,D.i1z,D.i2z,D.TITO,D.TIi1,D.TIi2,D.TOi1,D.TOi2,D.i12⟩
theorem LF(d l:Addr)(xs:Array aai)(es:Array abd)(ep:Nat)(nd:(d==abz)=false):Meets (adF.«zip.__new__» ⟨[.type "zip",.ref d,.ref l],[]⟩) (λ_ R s=>dg s.heap d es ep/\s.heap.IsList l xs/\
   R (.ok (.ret (.ref (Pg s.heap d l es.size ep).objs.size))) { s with heap:=IL s.heap d l es.size ep }):=
 .of_wp λprog w A R s h=>by
  obtain⟨hp,g,dd,tk,os⟩:=s;obtain⟨Zm,Bq,h⟩:=h;have LG:=sub_zip;have Ph:dg (ahg ⟨hp,g,dd,tk,os⟩) d es ep:=Zm;have WB:Heap.IsList (ahg ⟨hp.push { cls:=.type "dict_keyiterator",data:=.fields #[.ref d,.int 0 0,.int es.size 0,.int ep 0] },g,dd,tk,os⟩) l xs:=Heap.IsList.push Bq _
  wp_walk using Jw nd Ph,adj WB
  exact⟨_,rfl,h⟩
theorem IM{d l:Addr}{xs:Array aai}{es:Array abd}{ep:Nat}{Q:aai->aah->Prop}(nd:(d==abz)=false)(hd:dg s.heap d es ep)(hl:s.heap.IsList l xs)
  (h:∀h',IsZip h' (s.heap.objs.size+4) (s.heap.objs.size+2) (s.heap.objs.size+3) .none->acP h' (s.heap.objs.size+2) (.ref s.heap.objs.size) (.ref (s.heap.objs.size+1))->
   acP h' (s.heap.objs.size+3) .none .none->h'.IsKeyIter s.heap.objs.size d 0 es.size ep->h'.IsListIter (s.heap.objs.size+1) l 0->(∀c o,s.heap.get? c=ae o->h'.get? c=ae o)->Q (.ref (s.heap.objs.size+4)) { s with heap:=h' }):
  aat (aaL prog w) A (call (.type "zip") [.ref d,.ref l]) Q E s:=by
 refine callType_new F.called_zip (by decide) (ah6 _ _) (F.newCall_zip_2 _ _) (λobj=>agW obj _ _) F.entry_zip_new (LF d l xs es ep nd) ⟨hd,hl,?_⟩;have z1:(Pd s.heap d es.size ep).objs.size=s.heap.objs.size+1:=abn ..;have z2:(Pe s.heap d l es.size ep).objs.size=s.heap.objs.size+2:=by rw[abn,z1]
 have z3:(Pf s.heap d l es.size ep).objs.size=s.heap.objs.size+3:=by rw[abn,z2]
 have z4:(Pg s.heap d l es.size ep).objs.size=s.heap.objs.size+4:=by rw[abn,z3]
 have g5:(IL s.heap d l es.size ep).get? (Pg s.heap d l es.size ep).objs.size=ae _:=aal _ rfl;have g4:(IL s.heap d l es.size ep).get? (Pf s.heap d l es.size ep).objs.size=ae _:=aab _ (aal _ rfl);have g3:(IL s.heap d l es.size ep).get? (Pe s.heap d l es.size ep).objs.size=ae _:=aab _ (aab _ (aal _ rfl));have g2:(IL s.heap d l es.size ep).get? (Pd s.heap d es.size ep).objs.size=ae _:=aab _ (aab _ (aab _ (aal _ rfl)));have g1:(IL s.heap d l es.size ep).get? s.heap.objs.size=ae _:=aab _ (aab _ (aab _ (aab _ (aal _ rfl))));show _/\_;rw[z2,z3,z4]at g5;rw[z1,z2]at g3;rw[z3]at g4;rw[z1]at g2;rw[z4];exact⟨⟨_,g5,rfl⟩,h _ g5 g3 g4 ⟨_,g1,rfl,rfl⟩ ⟨_,g2,rfl,rfl⟩ λc o x=>
  aab _ (aab _ (aab _ (aab _ (aab _ x))))⟩
end
end PySem
namespace L2
open PySem PySem.Spec PyProof.Rows
theorem FO{P:aaD}{w:aa9}{K:aaa}{tg:abl}(z TI TO i1 i2 a b:Addr)(D:aib z TI TO i1 i2 a b):
  Turn P w K tg (Lm K a b) [z,TI,TO,i1,i2] z (λi h=>(∃f0 f1,kD h z TI TO f0 f1/\ZF f0)/\acP h TI (.ref i1) (.ref i2)/\(∃x y,acP h TO x y)/\h.IsListIter i1 a i/\h.IsListIter i2 b i):=by
 have ob:∀{i1 a:Addr}{i:Nat}{h:Heap},h.IsListIter i1 a i->∃o,h.get? i1=ae o/\∀v,o.data≠.cell v:=λ⟨o,e,_,d⟩=>⟨o,e,by rw[d];simp⟩
 refine sI z TI TO i1 i2 (B3 D) (λi h=>h.IsListIter i1 a i) (λi h=>h.IsListIter i2 b i) (λ_ _=>ob) (λ_ _=>ob) (λ_ _ _ j k=>j.at k) (λ_ _ _ j k=>j.at k)
  (λX hP hw hK hc i pins s σ H I hg j1 j2 hn=>?_) (λX hP hw hK hc i pins s σ H I hg j1 j2=>?_)
 .subst hP hw hK
  obtain⟨xs,ys,x,y,ly,ph,hx,hy⟩:=hg;obtain⟨ia,va,ta,_⟩:=I.list ly;obtain⟨ib,vb,tb,_⟩:=I.list ph;obtain⟨ux,B4,rx⟩:=va.get hx;obtain⟨uy,LH,ry⟩:=vb.get hy;refine⟨x,y,ux,uy,rx,ry,λh' kk Q E q=>?_,λh' kk Q E q=>?_,⟨_,rfl,hn,λmr mw h1 h2=>?_⟩⟩
  .exact adH (s:={ s with heap:=h' }) (j1.at λo e=>kk i1 o D.i1z e) (ta.isList.at λo e=>kk a o D.l1z e) (by simpa using B4) q
  .exact adH (s:={ s with heap:=h' }) (j2.at λo e=>kk i2 o D.i2z D.TOi2.symm D.i12.symm e) (tb.isList.at λo e=>kk b o D.l2z D.l2TO D.l2i1 e) (by simpa using LH) q
  .rw[<-I.mC ly h1,<-I.mC ph h2]
   exact⟨x,y,hx,hy,rfl⟩
 .subst hP hw hK
  obtain⟨xs,ys,ly,ph,Q8⟩:=hg;obtain⟨ia,va,ta,_⟩:=I.list ly;obtain⟨ib,vb,tb,_⟩:=I.list ph;have la:=va.length;have lb:=vb.length;have hh:X.A.in1.handled=af:=by simp[I.ok.hd hc]
  by_cases h1:xs.length<=i
  .exact .inl λh' kk Q E q=>aeT (s:={ s with heap:=h' }) hh (j1.at λo e=>kk i1 o D.i1z e) (ta.isList.at λo e=>kk a o D.l1z e) (abA (by simp;omega)) q
  .obtain⟨ux,B4,_⟩:=va.get (aac (ah7 h1))
   refine .inr ⟨ux,λh=>h.IsListIter i1 a (i+1),λh' kk Q E q=>?_,λh' kk Q E q=>?_⟩
   .exact adH (s:={ s with heap:=h' }) (j1.at λo e=>kk i1 o D.i1z e) (ta.isList.at λo e=>kk a o D.l1z e) (by simpa using B4) q
   .exact aeT (s:={ s with heap:=h' }) hh (j2.at λo e=>kk i2 o D.i2z D.TOi2.symm D.i12.symm e) (tb.isList.at λo e=>kk b o D.l2z D.l2TO D.l2i1 e) (abA (by simp;omega)) q
section
variable{X:Cx}{e1 e2 tg:abl}{p1 p2:Pos}{f:Qm.XA}
theorem LI{t:TA}(hg:Gl X "zip")(hm:X.mg "zip" =af)(ha:PA X [e1,e2] t)(mD:aau [e1,e2] X.env=(false,adL e1 X.env)::aau [e2] X.env:=by rfl)(fQ:(acy p2 (aau [e2] X.env)).any (·.1)=false:=by rfl):
  PI X tg (.Call (.Name "zip" p1) [e1,e2] [] p2) (GR X.K t):=by
 intro pins s σ H R I h;refine abx (iM I hg hm (u:=.type "zip") (by decide +kernel) ?_);refine aa0 (bN (ha p2 pins s σ H _ I h) λus s1 bg=>?_) mD fQ;obtain⟨vs,H1,I1,r1,q1⟩:=bg;obtain⟨a,b,xs,ys,rfl,vg,B5,q⟩:=q1;obtain⟨u1,u2,rfl,ra,rb⟩:=vals2 r1;cases (show u1=aaw a from ra);cases (show u2=aaw b from rb);obtain⟨ia,va,ta,za⟩:=I1.list vg;obtain⟨ib,vb,tb,zb⟩:=I1.list B5;have la:a<s1.heap.objs.size:=by obtain⟨o,ho,_⟩:=ta.isList;exact aan ho
 have lb:b<s1.heap.objs.size:=by obtain⟨o,ho,_⟩:=tb.isList;exact aan ho
 refine call_zip_2 ta.isList tb.isList λh2 hz gI gO j1 j2 sz up=>?_
 refine agg hz ?_;have I2:Inv X pins σ H1 { s1 with heap:=h2 }:=I1.kept (t':=s1.toks) up;have fr:∀c,s1.heap.objs.size<=c->jc X pins H1 c:=λc hc=>I1.s_ hc (I1.bc.fresh hc)
 have D:=u9 la lb;refine⟨_,_,_,Lm X.K a b,H1,rfl,I2,FO _ _ _ _ _ a b D,⟨⟨_,_,hz,.inl rfl⟩,gI,⟨_,_,gO⟩,j1,j2⟩,λc hc=>fr c ?_,q⟩;simp only[aaj,adB,or_false]at hc;rcases hc with rfl|rfl|rfl|rfl|rfl<;>first|exact aam _|exact agh _ _
theorem LJ(hg:Gl X "zip")(hm:X.mg "zip" =af)(ha:QA X [e1,e2] f)(mD:aau [e1,e2] X.env=(false,adL e1 X.env)::aau [e2] X.env:=by rfl)(fQ:(acy p2 (aau [e2] X.env)).any (·.1)=false:=by rfl):
  QI X tg (.Call (.Name "zip" p1) [e1,e2] [] p2) (Qm.sC f):=(LI hg hm ha mD fQ).imp IB
end
end L2
namespace L2
open PySem PySem.Spec PyProof.Rows
def LK(K:aaa)(d:Addr)(ob:Obj)(us:List (List (List Key)×V))(b:Addr):It:=
 ⟨λi H=>∃ys y,H d=ae (.gr ob (.dU us))/\b8 K H b ys/\i<us.length/\ys[i]? =ae y,
                           λi H v H'=>∃T,v= .ref T/\H T=af/\∀ys,b8 K H b ys->∃kv y a,us[i]? =ae kv/\ys[i]? =ae y/\jb H kv.1 a/\H'=upd H T (.tup [.ref a,y]),
                           λi H=>∃ys,H d=ae (.gr ob (.dU us))/\b8 K H b ys/\(us.length<=i\/ys.length<=i)⟩
theorem G6{X:Cx}{pins:List (Addr×Obj)}{σ:St}{H:Hp}{s:aah}{d:Addr}{ob:Obj}{us:List (List (List Key)×V)}{es:Array abd}{ep:Nat}(I:Inv X pins σ H s)(e:H d=ae (.gr ob (.dU us)))(LL:ob.data= .dict es ep):
  ∃xs,KU H us xs/\dg s.heap d es ep/\es.toList=xs.map (afd (nG (cy X.prog X.w))):=by
 obtain⟨h1,_,_,xs,r,o,NJ,NK,h2,h3,h4,h5,_⟩:=(show b7 X.prog X.w H s.heap d (.gr ob (.dU us))from I.bc d _ e);rw[h1]at h2;cases h2;rw[LL]at h4;cases h4;exact⟨xs,r,⟨ob,h1,h3,LL⟩,h5⟩
theorem FP{P:aaD}{w:aa9}{K:aaa}{tg:abl}(z TI TO i1 i2 d b:Addr)(D:aib z TI TO i1 i2 d b){ob:Obj}(us:List (List (List Key)×V)){es:Array abd}{ep:Nat}(LL:ob.data= .dict es ep):
  Turn P w K tg (LK K d ob us b) [z,TI,TO,i1,i2] z (λi h=>(∃f0 f1,kD h z TI TO f0 f1/\ZF f0)/\acP h TI (.ref i1) (.ref i2)/\(∃x y,acP h TO x y)/\h.IsKeyIter i1 d i es.size ep/\h.IsListIter i2 b i):=by
 refine sI z TI TO i1 i2 (B3 D) (λi h=>h.IsKeyIter i1 d i es.size ep) (λi h=>h.IsListIter i2 b i) (λ_ _ ⟨o,e,_,d⟩=>⟨o,e,by rw[d];simp⟩) (λ_ _ ⟨o,e,_,d⟩=>⟨o,e,by rw[d];simp⟩) (λ_ _ _ j k=>j.at k) (λ_ _ _ j k=>j.at k)
  (λX hP hw hK hc i pins s σ H I hg j1 j2 hn=>?_) (λX hP hw hK hc i pins s σ H I hg j1 j2=>?_)
 .subst hP hw hK
  obtain⟨ys,y,hd,ph,hx,hy⟩:=hg;obtain⟨xs,rel,de,Pj⟩:=G6 I hd LL;have lx:=rel.length;have le:es.size=xs.length:=by rw[<-abb,Pj,aas]
  obtain⟨ib,vb,tb,_⟩:=I.list ph;obtain⟨uy,LH,ry⟩:=vb.get hy;obtain⟨q,hq,h1,h2,h3⟩:=FK rel (aac hx);have he:es[i]? =ae (afd (nG (cy X.prog X.w)) q):=by
   rw[<-agI,Pj,aaq,hq];rfl
  refine⟨.ref q.2.1,y,.ref q.2.1,uy,rfl,ry,λh' kk Q E qq=>?_,λh' kk Q E qq=>?_,⟨_,rfl,hn,λmw g2=>?_⟩⟩
  .exact Vi (s:={ s with heap:=h' }) (j1.at λo e=>kk i1 o D.i1z e) (de.at λo e=>kk d o D.l1z e) he qq
  .exact adH (s:={ s with heap:=h' }) (j2.at λo e=>kk i2 o D.i2z D.TOi2.symm D.i12.symm e) (tb.isList.at λo e=>kk b o D.l2z D.l2TO D.l2i1 e) (by simpa using LH) qq
  .rw[<-I.mC ph g2]
   exact⟨_,y,q.2.1,aac hx,hy,h2,rfl⟩
 .subst hP hw hK
  obtain⟨ys,hd,ph,Q8⟩:=hg;obtain⟨xs,rel,de,Pj⟩:=G6 I hd LL;have lx:=rel.length;have le:es.size=xs.length:=by rw[<-abb,Pj,aas]
  obtain⟨ib,vb,tb,_⟩:=I.list ph;have lb:=vb.length;have hh:X.A.in1.handled=af:=by simp[I.ok.hd hc]
  by_cases h1:us.length<=i
  .exact .inl λh' kk Q E q=>Yn (s:={ s with heap:=h' }) hh (j1.at λo e=>kk i1 o D.i1z e) (de.at λo e=>kk d o D.l1z e) (by omega) q
  .have he:es[i]? =ae (es[i]'(by omega)):=ab6 _
   refine .inr ⟨(es[i]'(by omega)).key,λh=>h.IsKeyIter i1 d (i+1) es.size ep,λh' kk Q E q=>?_,λh' kk Q E q=>?_⟩
   .exact Vi (s:={ s with heap:=h' }) (j1.at λo e=>kk i1 o D.i1z e) (de.at λo e=>kk d o D.l1z e) he q
   .exact aeT (s:={ s with heap:=h' }) hh (j2.at λo e=>kk i2 o D.i2z D.TOi2.symm D.i12.symm e) (tb.isList.at λo e=>kk b o D.l2z D.l2TO D.l2i1 e) (abA (by simp;omega)) q
def Pk(K:aaa)(t:TA):TI:=λσ H R=>t σ H λvs H1=>∃a b us ys,vs=[.ref a,.ref b]/\H1 a=ae (.dU us)/\H1 b=ae (.lst ys)/\∀ob,R (LK K a ob us b) (upd H1 a (.gr ob (.dU us)))
section
variable{X:Cx}{e1 e2 tg:abl}{p1 p2:Pos}{f:Qm.XA}
theorem LM{t:TA}(hg:Gl X "zip")(hm:X.mg "zip" =af)(ha:PA X [e1,e2] t)(mD:aau [e1,e2] X.env=(false,adL e1 X.env)::aau [e2] X.env:=by rfl)(fQ:(acy p2 (aau [e2] X.env)).any (·.1)=false:=by rfl):
  PI X tg (.Call (.Name "zip" p1) [e1,e2] [] p2) (Pk X.K t):=by
 intro pins s σ H R I h;refine abx (iM I hg hm (u:=.type "zip") (by decide +kernel) ?_);refine aa0 (bN (ha p2 pins s σ H _ I h) λus s1 bg=>?_) mD fQ;obtain⟨vs,H1,I1,r1,q1⟩:=bg;obtain⟨a,b,us,ys,rfl,vg,B5,q⟩:=q1;obtain⟨u1,u2,rfl,ra,rb⟩:=vals2 r1;cases (show u1=aaw a from ra);cases (show u2=aaw b from rb);obtain⟨z,nd,vs,r,o,es,ep,g2,g3,g4,g5⟩:=(show b7 X.prog X.w H1 s1.heap a (.dU us)from I1.bc a _ vg);have EU:b≠a:=xH B5 vg (λz=>nomatch z);have r3:KU (upd H1 a (.gr o (.dU us))) us vs:=by
  refine acw.vJ r λp q w=>⟨w.1,w.2.1.more λc ys ec=>?_,w.2.2⟩
  rw[aV (xH ec vg (λz=>nomatch z))];exact ec
 have I2:Inv X pins σ (upd H1 a (.gr o (.dU us))) s1:=oU (ob:=.gr o (.dU us)) (t':=s1.toks) (h':=s1.heap) I1 (by rw[vg];exact adC) ⟨rfl,λ_ _=>rfl⟩ ⟨o,g2⟩ ⟨g2,z,nd,vs,r3,o,es,ep,g2,g3,g4,g5⟩;have LN:(upd H1 a (.gr o (.dU us))) b=ae (.lst ys):=by rw[aV EU];exact B5
 obtain⟨ib,vb,tb,zb⟩:=I2.list (b8.of LN);have la:a<s1.heap.objs.size:=aan g2;have lb:b<s1.heap.objs.size:=by obtain⟨o,ho,_⟩:=tb.isList;exact aan ho
 refine IM nd ⟨o,g2,g3,g4⟩ tb.isList λh2 hz gI gO j1 j2 up=>?_
 refine agg hz ?_;have I3:Inv X pins σ (upd H1 a (.gr o (.dU us))) { s1 with heap:=h2 }:=I2.kept (t':=s1.toks) up;have fr:∀c,s1.heap.objs.size<=c->jc X pins (upd H1 a (.gr o (.dU us))) c:=λc hc=>I2.s_ hc (I2.bc.fresh hc)
 have D:=u9 la lb;refine⟨_,_,_,LK X.K a o us b,_,rfl,I3,FP _ _ _ _ _ a b D us g4,⟨⟨_,_,hz,.inl rfl⟩,gI,⟨_,_,gO⟩,j1,j2⟩,λc hc=>fr c ?_,q o⟩;simp only[aaj,adB,or_false]at hc;rcases hc with rfl|rfl|rfl|rfl|rfl<;>first|exact aam _|exact agh _ _
theorem LO(hg:Gl X "zip")(hm:X.mg "zip" =af)(ha:QA X [e1,e2] f)(mD:aau [e1,e2] X.env=(false,adL e1 X.env)::aau [e2] X.env:=by rfl)(fQ:(acy p2 (aau [e2] X.env)).any (·.1)=false:=by rfl):
  QI X tg (.Call (.Name "zip" p1) [e1,e2] [] p2) (Qm.t6 f):=(LM hg hm ha mD fQ).imp <| by
 rintro σ H R ⟨ρ,env,c,m,c',rs,re,e,k⟩;obtain⟨p,ea,e⟩:=aF e;refine⟨ρ,env,c,p.1,p.2,rs,re,ea,λaR vs H1 n1 r1=>?_⟩;split at e
 .rename_i n m' hp
  split at e
  .rename_i ps WC
   obtain⟨l,e4,e⟩:=aF e;cases e;rw[hp]at r1;obtain⟨v,u,rfl,rx,ry⟩:=r1.kr;obtain⟨hv,hn⟩:=rx.mK;obtain⟨hu,BR⟩:=ry.mK;subst hv hu;obtain⟨us,h1,a1⟩:=n1.rs.ok n _ WC;obtain⟨S7,DL,BC,_,Ln,Y0⟩:=n1.rs.bp (d:=.ref m') (.ref BR) (show Qm.bp (.ref m') p.2=ae (l.1,l.2)from e4);have Lo:l.1=m':=by cases S7;rfl
   rw[Lo]at DL Ln;refine⟨_,_,us,BC,rfl,h1,Ln,λob=>?_⟩;have n2:=Nx.Ta (o:=ob) n1.rs WC a1;refine k aR _ _ (n1.trans n2) λja c2 H2 u2 qK oI=>?_
   have hN:(p.2.set n (.km ps)).length=p.2.length:=acf ..;have h3:=u2.fz _ _ _ (show upd H1 (aR n) (.gr ob (.dU us)) (aR n)=ae (.gr ob (.dU us))from dI);have a2:=(a1.up n2.up).up u2;obtain⟨u_,BU,Lp⟩:=qK.lst (oI (m',.lst l.2) (by simp));rw[u2.agree m' (by rw[hN];exact BR)]at BU;have l1:=a2.length;have Y1:=Lp.length;have hl:(Qm.gZ (ps.map λq=>Qm.DM q.1) l.2).length=min ps.length l.2.length:=by simp[Qm.gZ]
   refine⟨λi hi=>?_,⟨u_,h3,b8.of BU,?_⟩,λi d x H' hd hy=>?_⟩
   .dsimp only at hi
    have g1:i<us.length:=by omega
    have g2:i<u_.length:=by omega
    exact⟨u_,u_[i],h3,b8.of BU,g1,aac g2⟩
   .show us.length<=(Qm.gZ (ps.map λq=>Qm.DM q.1) l.2).length\/u_.length<=(Qm.gZ (ps.map λq=>Qm.DM q.1) l.2).length
    omega
   .obtain⟨T,rfl,hT,hy⟩:=hy
    obtain⟨kv,y',ka,g1,g2,g3,rfl⟩:=hy u_ (b8.of BU);obtain⟨dx,dy,f1,f2,rfl⟩:=u7 hd;rw[aaq]at f1;cases q:ps[i]? with
    |none=>rw[q]at f1;cases f1
    |some p0=>
     rw[q]at f1;cases f1;obtain⟨v1,q1,r1⟩:=a2.at_ q;rw[g1]at q1;cases q1;obtain⟨v2,q2,r2⟩:=Lp.get f2;rw[g2]at q2;cases q2;have n:=Nx.same qK (iG (z:=.tup [.ref ka,y']) hT);exact⟨n,.tup dI (.cons ((GY g3).up n.up) (.cons (r2.up n.up) .nil))⟩
  .cases e
 .cases e
end
end L2
namespace Qm
open PySem
noncomputable section
def abO:G2:=λx y c=>match x,y with
 |.tup xs,.tup ys=>(nums xs).bind λns=>(nums ys).bind λms=>ae (.bl (c_ ms ns),c)
 |_,_=>af
def t9:FN:=one λx c=>(bp x c).bind λl=>(nums l.2).bind λis=>if is.length<64 then ae (.ref c.length,c++[.lst ((is.mergeSort λa b=>decide (a<=b)).map .int)])else af
end
end Qm
namespace Qm
open PySem
noncomputable section
def pH(o:D):FN:=one λy c=>(bp o c).bind λl=>(match y with
 |.tup ys=>if l.2.length+ys.length<=cC then ae (D.aX,c.set l.1 (.lst (l.2++ys)))else af
 |_=>af)
end
end Qm
namespace PySem
open Sem (wp)
section
variable{prog:aaD}{w:aa9}{A:aa4}{E:aai->aah->Prop}{s:aah}
end
end PySem
namespace L2
open PySem PySem.Spec PyProof.Rows
section
variable{X:Cx}
theorem qW:∀{us:List aai}{ns:List Int},ac4 us ns->Vals (ns.map V.int) us
 |_,_,.nil=>.nil
 |_,_,.cons n t r=>.cons ⟨t,rfl⟩ (qW r)
theorem jD:∀{xs ys:List Int},xs.Perm ys->xs.Pairwise (·<=·)->ys.Pairwise (·<=·)->xs=ys
 |[],_,p,_,_=>(aiE.mp p).symm
 |x::xs,[],p,_,_=>absurd p.length_eq (by simp)
 |x::xs,y::ys,p,h1,h2=>by
  have e:x=y:=by
   have m1:x∈y::ys:=p.subset aao;have m2:y∈x::xs:=p.symm.subset aao;rcases aaj.mp m1 with e|m1
   .exact e
   rcases aaj.mp m2 with e|m2
   .exact e.symm
   have a1:=(aaG.mp h1).1 _ m2;have a2:=(aaG.mp h2).1 _ m1;omega
  subst e;rw[jD (ahB p) (aaG.mp h1).2 (aaG.mp h2).2]
theorem Pl{xs ns:List Int}(p:xs.Perm ns)(h:xs.Pairwise (·<=·)):xs=ns.mergeSort λa b=>decide (a<=b):=by
 refine jD (p.trans (ahh ..).symm) h ?_;have:=af8 (le:=λa b:Int=>decide (a<=b)) (λa b c h1 h2=>by simp at *;omega) (λa b=>by simp;omega) ns;exact this.imp λh=>by simpa using h
theorem DW:eR X (.builtin "sorted") (λxs H Q=>∃l,∃is:List Int,xs=[.ref l]/\b8 X.K H l (is.map V.int)/\is.length<64/\∀D,H D=af->Q (.ref D) (upd H D (.lst ((is.mergeSort λa b=>decide (a<=b)).map V.int)))):=by
 intro pins s σ H xs us Q I r h;obtain⟨l,is,rfl,hl,hz,q⟩:=h;obtain⟨u,rfl,e1⟩:=vals1 r;cases e1;obtain⟨its,rv,pl,zl⟩:=I.list hl;have lv:=rv.length;rw[aas]at lv zl;refine sorted_ints pl.isList (ints_of rv) (by omega) λout Wm a1 a2 a3=>?_
 obtain⟨e,he⟩:=sortedAll_at s.heap its out;have hn:=Pl a2 a3;refine⟨.ref (s.heap.objs.size+1),_,I.laid (a:=s.heap.objs.size+1) (t':=s.toks) (λ_ _=>sortedAll_old) (Nat.le_succ _) (show b7 X.prog X.w _ _ _ (.lst (Wm.map V.int))from⟨by rw[aas,a2.length_eq];exact zl,out.toList,e,qW a1,by simpa using he⟩),rfl,?_⟩;rw[hn];exact q _ (I.bc.fresh (Nat.le_succ _))
theorem IP{K:aaa}:mL K (λxs H Q=>∃l,∃is:List Int,xs=[.ref l]/\b8 K H l (is.map V.int)/\is.length<64/\∀D,H D=af->Q (.ref D) (upd H D (.lst ((is.mergeSort λa b=>decide (a<=b)).map V.int)))) Qm.t9:=by
 intro ρ c H ds d c' vs Q rs ra e k;obtain⟨x,rfl,e⟩:=jk e;obtain⟨v,rfl,rx⟩:=ra.jB;obtain⟨l,e1,e⟩:=aF e;obtain⟨is,e2,e⟩:=aF e;split at e
 .rename_i hz
  cases e;obtain⟨_,hc,ws,rfl,h1,a1⟩:=rs.bp rx e1;rw[gA a1 e2]at h1;refine⟨_,is,rfl,b8.of h1,hz,λq hq=>?_⟩;obtain⟨n,r⟩:=Nx.alloc rs hq (pE (is.mergeSort λa b=>decide (a<=b)));exact k _ _ _ n r
 .cases e
end
end L2
namespace L2
open PySem PySem.Spec PyProof.Rows
theorem LP{X:Cx}:∀q∈([]:List (Nat×Qm.FN)),GU X q.1 q.2:=λq h=>nomatch h
theorem Ao{X:Cx}{a:Nat}{F:Qm.FN}{l:List (Nat×Qm.FN)}{k:Nat}{fd:aaC}{ps:List Str}(h:bE X.prog X.w X.K X.mg X.base cU k a fd ps (dq X.K F))(hr:fq k X.A)(hk:abX X.K (.ref a)=true)(hb:Binds X.K fd ps [])(r:∀q∈l,GU X q.1 q.2):∀q∈(a,F)::l,GU X q.1 q.2:=λq m=>by
 rcases aaj.mp m with rfl|m
 .exact⟨⟨k,fd,ps,h,hr,hk,hb⟩⟩
 .exact r q m
def spT(K:aaa)(F:Nat->Nat->Qm.FN):Sp:=λvs H Q E=>∀x y,x≠y->dq K (F x y) vs H Q E
theorem IS{c1 c2:aai}{d1 d2:Option Addr}{f1 f2:aaC}{s1 s2:Array (Option aai)}(h:f1.name≠f2.name)(e:(ae ⟨c1,d1,.func f1,s1⟩:Option Obj)=ae ⟨c2,d2,.func f2,s2⟩):False:=by
 injection e with e
 injection e with _ _ e _
 injection e with e
 exact h (congrArg FuncData.name e)
end L2
namespace PySem
open Sem (wp)
open AutoSeq1 (wpAny_loadPart')
theorem LQ(l b:Addr)(xs ys:Array aai)(n m:Nat)(d2:Option Addr)(sl:Array (Option aai))(h0:¬(!xs.isEmpty&&ack (xs.size+ys.size))=true)(h1:xs.size<=sizeLine)(h2:xs.size+ys.size<=sizeLine+1):
  Meets (adF.«list.extend» ⟨[.ref l,.ref b],[]⟩) (λ_ R s=>s.heap.get? l=ae { cls:=.type "list",dict:=af,data:=.seq xs n,slots:=#[] }/\s.heap.get? b=ae { cls:=.type "tuple",dict:=d2,data:=.seq ys m,slots:=sl }/\R (.ok (.ret aby)) { s with heap:=s.heap.update l (aeD λx=>x++ys),toks:=s.toks }):=
 .of_wp λprog w A R s h=>by
  obtain⟨hp,g,d,tk,os⟩:=s;obtain⟨hl,hb,h⟩:=h;have f1:=AutoSeq1.idx_int;have f2:=AutoSeq1.sub_tuple_tuple;have f3:=agt;have f4:=AutoSeq1.sub_tuple_list;have f5:=AutoSeq1.sub_list_tuple;have hz:(xs++ys).size<=sizeLine+1:=by rw[Array.size_append];exact h2
  wp_walk using(adn hl rfl (hz:=h1) (_hz':=hz)),ab0 hl,ab0 hb
  exact⟨_,rfl,h⟩
end PySem
namespace L2
open PySem PySem.Spec PyProof.Rows
def LR:V->List V->Hp->VK->Prop:=λx vs H Q=>∃l b xs zs,x= .ref l/\vs=[.ref b]/\H l=ae (.lst xs)/\H b=ae (.tup zs)/\xs.length+zs.length<=sizeLine/\Q .aX (upd H l (.lst (xs++zs)))
section
variable{X:Cx}
theorem DX:Oy X "list.extend" LR:=by
 intro pins s σ H x vs v us Q I rx rv h;obtain⟨l,b,xs,zs,rfl,rfl,hH,hB,hz,q⟩:=h;cases rx;obtain⟨u,rfl,ru⟩:=rv.one;cases ru;obtain⟨z,its,n,r,hl,e⟩:=I.zW hH;obtain⟨z2,jU,r2,o,e2,c2,n2,d2⟩:=(show b7 X.prog X.w H s.heap b (.tup zs)from I.bc b _ hB);have Bq:=r2.length;obtain⟨oc,od,Wu,lh⟩:=o;simp only at c2 d2;subst c2 d2;have hsz:its.toArray.size+jU.toArray.size<=sizeLine:=by rw[aar,aar];omega
 have Fj:¬(!its.toArray.isEmpty&&ack (its.toArray.size+jU.toArray.size))=true:=by
  rw[zX hsz,ait];exact aaz
 refine ahH ahw ⟨_,e,rfl⟩ ahd (agT _ _) (PySem.LQ l b its.toArray jU.toArray n n2 od lh Fj (by rw[aar];omega) (by omega)) ⟨e,e2,?_⟩;refine⟨.aX,_,I.Kh (its':=its++jU) hH e (by simp) (r.append r2) ?_,rfl,q⟩;rw[aaR];omega
theorem DY{K:aaa}:OS K LR Qm.pH:=by
 intro ρ c H x ds d c' v vs Q rs rx ra e k;unfold Qm.pH Qm.one at e;split at e
 .rename_i y
  obtain⟨l,e1,e⟩:=aF e;split at e
  .rename_i ys
   obtain⟨u,rfl,ry⟩:=ra.jB;split at e
   .rename_i hz
    cases e;obtain⟨_,hn,ws,rfl,h,a⟩:=rs.bp rx e1;obtain⟨b,us,rfl,h2,a2⟩:=ry.g9;have n:=Nx.put rs hn (a.append a2);exact⟨_,_,ws,us,rfl,rfl,h,h2,mJ (by rw[<-a.length,<-a2.length];exact hz),k ρ _ _ n .aX⟩
   .cases e
  .cases e
 .cases e
end
end L2
namespace Qm
open PySem
noncomputable section
end
end Qm
namespace L2
open PySem PySem.Spec PyProof.Rows
section
variable{X:Cx}
end
end L2
namespace Qm
open PySem
noncomputable section
def DZ:FN:=one λx c=>match x with
 |.ref n=>(cq (.ref n) c).bind λxs=>(nums xs).bind λis=>if is.length<=1000 then ae (.int (is.foldl (λa b=>a+b) 0),c)else af
 |_=>af
end
end Qm
namespace L2
open PySem PySem.Spec PyProof.Rows
theorem t_(is:List Int):∀n,n<=is.length->preSum (λi=>is.getD i 0) n=(is.take n).foldl (λa b=>a+b) 0
 |0,_=>rfl
 |n+1,h=>by
  show preSum (λi=>is.getD i 0) n+is.getD n 0=_;rw[t_ is n (by omega),afS,List.foldl_append,aac (by omega)];simp[agF,aac (show n<is.length by omega)]
section
variable{X:Cx}
theorem FQ(hc:X.calm=true):eR X (.builtin "sum") (λxs H Q=>∃(p:Addr) (is:List Int),xs=[.ref p]/\b8 X.K H p (is.map V.int)/\Q (.int (is.foldl (λa b=>a+b) 0)) H):=by
 intro pins s σ H xs us Q I r h;obtain⟨p,is,rfl,hp,q⟩:=h;obtain⟨u,rfl,ru⟩:=vals1 r;cases (show u=aaw p from ru);obtain⟨its,hv,pl,_⟩:=I.list hp;have hl:=pl.isList;have gd:p<s.heap.objs.size:=by obtain⟨o,e,_⟩:=hl;exact aan e
 have el:its.toArray.size=is.length:=by rw[aar,<-hv.length,aas]
 refine call_sum_walkAnyS (adj hl ?_);refine⟨s.heap.objs.size,_,_,_,_,_,_,λi=>is.getD i 0,rfl,(aiy (prog:=X.prog) (w:=X.w) (A:=X.A.in1) (I.ok.hd hc) s.heap.objs.size p (aaF gd) its.toArray).toS,⟨⟨_,aal _ rfl,rfl,rfl⟩,hl.at λo e=>aab _ e⟩,λb hb=>?_,λi v hi=>?_,λs' t' hm=>?_⟩
 .have ua:b=s.heap.objs.size\/b=p:=by simpa using hb
  show b<(Heap.push _ _).objs.size;rw[abn];rcases ua with e|e
  .rw[e];exact acv _
  .rw[e];exact afQ gd
 .have Ip:its[i]? =ae v:=by simpa using hi
  have kE:i<is.length:=by rw[<-el];simpa using(aae.mp Ip).1
  obtain⟨u,hu,Zn⟩:=hv.get (i:=i) (x:=V.int is[i]) (by rw[aaq,aac kE];rfl);rw[Ip]at hu;cases hu;obtain⟨t,ht⟩:=Zn;exact⟨t,by rw[ht];simp[agF,aac kE]⟩
 .rw[Moved.eq_with hm,el,t_ is _ (aam _),agi]
  exact⟨.int _,H,I.kept (t':=s'.toks) λb o g=>hm.heap b o (by simpa using aaF (aan g)) (aab _ g),⟨t',rfl⟩,q⟩
theorem Pm{K:aaa}:mL K (λxs H Q=>∃(p:Addr) (is:List Int),xs=[.ref p]/\b8 K H p (is.map V.int)/\Q (.int (is.foldl (λa b=>a+b) 0)) H) Qm.DZ:=by
 intro ρ c H ds d c' vs Q rs ra e k;obtain⟨x,rfl,e'⟩:=jk e;obtain⟨v,rfl,rx⟩:=ra.jB;split at e'
 .rename_i n
  obtain⟨xs,e0,e'⟩:=aF e';obtain⟨is,e2,e'⟩:=aF e';split at e'
  .cases e'
   obtain⟨ws,rfl,g,a⟩:=rs.Du rx e0;exact⟨_,is,rfl,gA a e2 ▸ g,k ρ _ H (Nx.refl rs) (.int _)⟩
  .cases e'
 .cases e'
theorem Pn:aa6 "sum" =ae (.builtin "sum"):=by decide +kernel
end
end L2
namespace Qm
open PySem
noncomputable section
def D0(a:XA):XI:=λσ c=>(a σ c).bind λp=>match p.1 with
 |[.ref n]=>(p.2[n]?).bind λz=>(bp (.ref n) p.2).bind λl=>ae (⟨l.2.reverse,[(n,z)]⟩,p.2)
 |_=>af
end
end Qm
namespace L2
open PySem PySem.Spec PyProof.Rows
def WD(K:aaa)(a:Addr)(n:Nat):It:=
 ⟨λi H=>∃xs x,b8 K H a xs/\xs.length=n/\i<n/\xs[n - 1 - i]? =ae x,
                           λi H v H'=>H'=H/\∀xs,b8 K H a xs->xs.length=n->xs[n - 1 - i]? =ae v,
                           λi H=>∃xs,b8 K H a xs/\xs.length=n/\n<=i⟩
theorem IT{P:aaD}{w:aa9}{K:aaa}{tg:abl}(it a:Addr)(n:Nat)(fm:a≠it):Turn P w K tg (WD K a n) [it] it (λi h=>i<=n/\h.IsRevIter it a ((n:Int) - 1 - i)) where
 mem:=by simp
 obj:=λi h st b hb=>by
  have e:b=it:=by simpa using hb
  subst e;obtain⟨_,o,ho,_,hd⟩:=st;exact⟨o,ho,by rw[hd];simp⟩
 keep:=λi h h' st k=>by
  obtain⟨hi,o,ho,r⟩:=st;exact⟨hi,o,k it (by simp) _ ho,r⟩
 item:=by
  intro X hP hw hK hc i pins s σ H E I hf st hg;subst hP hw hK;obtain⟨f0,f1,f2,f3,f4,f5⟩:=hf it (by simp);obtain⟨xs,x,ly,hl,hi,hx⟩:=hg;obtain⟨ia,va,p,_⟩:=I.list ly;have la:ia.toArray.size=n:=by rw[aar,<-va.length,hl]
  obtain⟨ux,B4,rx⟩:=va.get hx;have W:=aiF (prog:=X.prog) (w:=X.w) (A:=X.A) (I.ok.hd hc) it a fm ia.toArray;refine W.item i s _ _ (by rw[la];exact hi) ⟨by rw[la];exact st.1,by rw[la];exact st.2,p.isList⟩ λv h' tk hv qI kk=>?_
  have ev:v=ux:=by
   rw[la]at hv;have:ia[n - 1 - i]? =ae v:=by simpa using hv
   rw[B4]at this;cases this;rfl
  subst ev;have I1:Inv X pins σ H { s with heap:=h',toks:=tk }:=I.turned (λb o hb e=>kk b o (by simpa using hb) e) f0 f1 f3 f4 f5;obtain⟨k1,k2,k3⟩:=qI;rw[la]at k1 k2;obtain⟨o,ho,D3,hd⟩:=id k2;exact⟨_,rfl,xM (s:={ s with heap:=h',toks:=tk }) (n:="list_reverseiterator") ho D3 hd (by decide) ⟨x,H,I1,rx,⟨rfl,λmr h1 _=>by rw[<-I.mC ly h1];exact hx⟩,⟨k1,by simpa using k2⟩,λb hb=>(hf b hb).1⟩⟩
 done:=by
  intro X hP hw hK hc i pins s σ H E I hf st hg;subst hP hw hK;obtain⟨f0,f1,f2,f3,f4,f5⟩:=hf it (by simp);obtain⟨xs,ly,hl,hi⟩:=hg;obtain⟨ia,va,p,_⟩:=I.list ly;have la:ia.toArray.size=n:=by rw[aar,<-va.length,hl]
  have W:=aiF (prog:=X.prog) (w:=X.w) (A:=X.A) (I.ok.hd hc) it a fm ia.toArray;have Tg:i=n:=Nat.le_antisymm st.1 hi;subst Tg;refine W.done s _ _ ⟨by rw[la];exact aam _,by rw[la];exact st.2,p.isList⟩ λh' tk kk=>⟨rfl,I.turned (λb o hb e=>kk b o (by simpa using hb) e) f0 f1 f3 f4 f5⟩
 self:=λ_ _ _ _ _ st h=>afw st.2 h
def To(K:aaa)(t:TA):TI:=λσ H R=>t σ H λvs H1=>∃a xs,vs=[.ref a]/\b8 K H1 a xs/\R (WD K a xs.length) H1
section
variable{X:Cx}{e1 tg:abl}{p1 p2:Pos}{f:Qm.XA}
theorem Po{t:TA}(hg:Gl X "reversed")(hm:X.mg "reversed" =af)(ha:PA X [e1] t)(mD:aau [e1] X.env=(false,adL e1 X.env)::aau [] X.env:=by rfl)(fQ:(acy p2 (aau [] X.env)).any (·.1)=false:=by rfl):
  PI X tg (.Call (.Name "reversed" p1) [e1] [] p2) (To X.K t):=by
 intro pins s σ H R I h;refine abx (iM I hg hm (u:=.type "reversed") (by decide +kernel) ?_);refine aa0 (bN (ha p2 pins s σ H _ I h) λus s1 bg=>?_) mD fQ;obtain⟨vs,H1,I1,r1,q1⟩:=bg;obtain⟨a,xs,rfl,vg,q⟩:=q1;obtain⟨u1,rfl,ra⟩:=vals1 r1;cases (show u1=aaw a from ra);obtain⟨ia,va,p,za⟩:=I1.list vg;have la:ia.toArray.size=xs.length:=by rw[aar,<-va.length]
 refine call_reversed_list (l:=a) (items:=ia.toArray) p.isList ?_;have hit:(s1.heap.push (revObj a ((ia.toArray.size:Int) - 1))).IsRevIter s1.heap.objs.size a ((ia.toArray.size:Int) - 1):=⟨_,aal _ rfl,rfl,rfl⟩;refine afw hit ?_;have I2:Inv X pins σ H1 { s1 with heap:=s1.heap.push (revObj a ((ia.toArray.size:Int) - 1)) }:=I1.kept (t':=s1.toks) λb o e=>aab _ e
 have gd:a<s1.heap.objs.size:=by obtain⟨o,e,_⟩:=p.isList;exact aan e
 refine⟨s1.heap.objs.size,[s1.heap.objs.size],_,_,H1,rfl,I2,IT _ a xs.length (aaF gd),⟨abk _,by rw[<-la];simpa using hit⟩,λb hb=>?_,q⟩;have e:b=s1.heap.objs.size:=by simpa using hb
 subst e;exact I1.s_ (aam _) (I1.bc.fresh (aam _))
theorem Pp(hg:Gl X "reversed")(hm:X.mg "reversed" =af)(ha:QA X [e1] f)(mD:aau [e1] X.env=(false,adL e1 X.env)::aau [] X.env:=by rfl)(fQ:(acy p2 (aau [] X.env)).any (·.1)=false:=by rfl):
  QI X tg (.Call (.Name "reversed" p1) [e1] [] p2) (Qm.D0 f):=(Po hg hm ha mD fQ).imp <| by
 rintro σ H R ⟨ρ,env,c,m,c',rs,re,e,k⟩;obtain⟨p,ea,e⟩:=aF e;refine⟨ρ,env,c,p.1,p.2,rs,re,ea,λaR vs H1 n1 r1=>?_⟩;split at e
 .rename_i n hp
  obtain⟨z,e2,e⟩:=aF e;obtain⟨l,e3,e⟩:=aF e;cases e;rw[hp]at r1;obtain⟨v,rfl,rx⟩:=r1.jB;obtain⟨hv,hn⟩:=rx.mK;subst hv;obtain⟨dn,BS,ws,_,h1,a1⟩:=n1.rs.bp (d:=.ref n) (.ref hn) (show Qm.bp (.ref n) p.2=ae (l.1,l.2)from e3);have S8:l.1=n:=by cases dn;rfl
  rw[S8]at BS h1;have lw:=a1.length;refine⟨_,ws,rfl,b8.of h1,k aR _ H1 n1 λja c2 H2 u2 qK oI=>?_⟩;have hz:z= .lst l.2:=by rw[e2]at BS;exact aaI BS
  obtain⟨us,h2,a2⟩:=qK.lst (by rw[<-hz];exact oI (n,z) (by simp));rw[u2.agree n hn]at h2;have lu:=a2.length;refine⟨λi hi=>?_,⟨us,b8.of h2,by omega,by show ws.length<=l.2.reverse.length;rw[afq];omega⟩,λi d x H' hd hy=>?_⟩
  .have hi:i<l.2.reverse.length:=hi
   rw[afq]at hi;have h3:ws.length - 1 - i<us.length:=by omega
   exact⟨us,us[ws.length - 1 - i],b8.of h2,by omega,by omega,aac h3⟩
  .obtain⟨rfl,hy⟩:=hy
   have hx:=hy us (b8.of h2) (by omega);have hd:l.2.reverse[i]? =ae d:=hd;have kE:=(aae.mp hd).1;rw[afq]at kE;rw[List.getElem?_reverse kE,show l.2.length - 1 - i=ws.length - 1 - i by omega]at hd;obtain⟨v,hv,rv⟩:=a2.get hd;rw[hx]at hv;cases hv;exact⟨Nx.refl qK,rv⟩
 .cases e
end
end L2
namespace L2
open PySem PySem.Spec PyProof.Rows
theorem LS{K:aaa}:mL K (λxs H Q=>∃i j k,xs=[.int i,.int j,.int k]/\Q (.int (if j > i then(if k > j then k else j)else(if k > i then k else i))) H) Qm.yg:=by
 intro ρ c H ds d c' vs Q rs ra e k;unfold Qm.yg at e;split at e
 .cases e
  cases ra with
  |cons r1 ra=>
   obtain⟨v5,v6,rfl,r5,r6⟩:=ra.kr;cases r1.eL;cases r5.eL;cases r6.eL;exact⟨_,_,_,rfl,k ρ _ H (Nx.refl rs) (.int _)⟩
 .cases e
end L2
namespace PySem
abbrev yz(h:Heap)(t:Addr):Heap:=h.push { cls:=.type "tuple_iterator",data:=.fields #[.ref t,.int 0 0] }
abbrev Pq(h:Heap)(t u:Addr):Heap:=(yz (yz h t) u).push { cls:=.type "tuple",data:=.seq #[.ref h.objs.size,.ref (yz h t).objs.size] }
abbrev Pt(h:Heap)(t u:Addr):Heap:=(Pq h t u).push { cls:=.type "tuple",data:=.seq #[.none,.none] }
abbrev IU(h:Heap)(t u:Addr):Heap:=(Pt h t u).push { cls:=.type "zip",data:=.fields #[.none,.bool false,.bool false,.ref (yz (yz h t) u).objs.size,.ref (Pq h t u).objs.size] }
section
variable{prog:aaD}{w:aa9}{A:aa4}{E:aai->aah->Prop}{s:aah}
theorem LU(t u:Addr)(xs ys:Array aai):Meets (adF.«zip.__new__» ⟨[.type "zip",.ref t,.ref u],[]⟩) (λ_ R s=>s.heap.IsTuple t xs/\s.heap.IsTuple u ys/\R (.ok (.ret (.ref (Pt s.heap t u).objs.size))) { s with heap:=IU s.heap t u }):=
 .of_wp λprog w A R s h=>by
  obtain⟨hp,g,d,tk,os⟩:=s;obtain⟨a1,a2,h⟩:=h;have LG:=sub_zip;have b1:Heap.IsTuple (ahg ⟨hp,g,d,tk,os⟩) t xs:=a1;have b2:Heap.IsTuple (ahg ⟨hp.push { cls:=.type "tuple_iterator",data:=.fields #[.ref t,.int 0 0] },g,d,tk,os⟩) u ys:=Heap.IsTuple.push a2 _
  wp_walk using adJ b1,adJ b2
  exact⟨_,rfl,h⟩
theorem IV{t u:Addr}{xs ys:Array aai}{Q:aai->aah->Prop}(hd:s.heap.IsTuple t xs)(hl:s.heap.IsTuple u ys)
  (h:∀h',IsZip h' (s.heap.objs.size+4) (s.heap.objs.size+2) (s.heap.objs.size+3) .none->acP h' (s.heap.objs.size+2) (.ref s.heap.objs.size) (.ref (s.heap.objs.size+1))->
   acP h' (s.heap.objs.size+3) .none .none->h'.IsTupleIter s.heap.objs.size t 0->h'.IsTupleIter (s.heap.objs.size+1) u 0->(∀c o,s.heap.get? c=ae o->h'.get? c=ae o)->Q (.ref (s.heap.objs.size+4)) { s with heap:=h' }):
  aat (aaL prog w) A (call (.type "zip") [.ref t,.ref u]) Q E s:=by
 refine callType_new F.called_zip (by decide) (ah6 _ _) (F.newCall_zip_2 _ _) (λobj=>agW obj _ _) F.entry_zip_new (LU t u xs ys) ⟨hd,hl,?_⟩;have z1:(yz s.heap t).objs.size=s.heap.objs.size+1:=abn ..;have z2:(yz (yz s.heap t) u).objs.size=s.heap.objs.size+2:=by rw[abn,z1]
 have z3:(Pq s.heap t u).objs.size=s.heap.objs.size+3:=by rw[abn,z2]
 have z4:(Pt s.heap t u).objs.size=s.heap.objs.size+4:=by rw[abn,z3]
 have g5:(IU s.heap t u).get? (Pt s.heap t u).objs.size=ae _:=aal _ rfl;have g4:(IU s.heap t u).get? (Pq s.heap t u).objs.size=ae _:=aab _ (aal _ rfl);have g3:(IU s.heap t u).get? (yz (yz s.heap t) u).objs.size=ae _:=aab _ (aab _ (aal _ rfl));have g2:(IU s.heap t u).get? (yz s.heap t).objs.size=ae _:=aab _ (aab _ (aab _ (aal _ rfl)));have g1:(IU s.heap t u).get? s.heap.objs.size=ae _:=aab _ (aab _ (aab _ (aab _ (aal _ rfl))));show _/\_;rw[z2,z3,z4]at g5;rw[z1,z2]at g3;rw[z3]at g4;rw[z1]at g2;rw[z4];exact⟨⟨_,g5,rfl⟩,h _ g5 g3 g4 ⟨_,g1,rfl,rfl⟩ ⟨_,g2,rfl,rfl⟩ λc o x=>
  aab _ (aab _ (aab _ (aab _ (aab _ x))))⟩
end
end PySem
namespace L2
open PySem PySem.Spec PyProof.Rows
theorem FR{P:aaD}{w:aa9}{K:aaa}{tg:abl}(z TI TO i1 i2 a b:Addr)(D:aib z TI TO i1 i2 a b):
  Turn P w K tg (S5 K a b) [z,TI,TO,i1,i2] z (λi h=>(∃f0 f1,kD h z TI TO f0 f1/\ZF f0)/\acP h TI (.ref i1) (.ref i2)/\(∃x y,acP h TO x y)/\h.IsTupleIter i1 a i/\h.IsTupleIter i2 b i):=by
 have ob:∀{i1 a:Addr}{i:Nat}{h:Heap},h.IsTupleIter i1 a i->∃o,h.get? i1=ae o/\∀v,o.data≠.cell v:=λz=>by
  obtain⟨o,e,_,d⟩:=z;exact⟨o,e,by rw[d];simp⟩
 refine sI z TI TO i1 i2 (B3 D) (λi h=>h.IsTupleIter i1 a i) (λi h=>h.IsTupleIter i2 b i) (λ_ _=>ob) (λ_ _=>ob) (λ_ _ _ j k=>j.at k) (λ_ _ _ j k=>j.at k)
  (λX hP hw hK hc i pins s σ H I hg j1 j2 hn=>?_) (λX hP hw hK hc i pins s σ H I hg j1 j2=>?_)
 .subst hP hw hK
  obtain⟨xs,ys,x,y,ly,ph,hx,hy⟩:=hg;obtain⟨ia,va,ta,_⟩:=I.tuple ly;obtain⟨ib,vb,tb,_⟩:=I.tuple ph;have ta:s.heap.IsTuple a ia.toArray:=ta;have tb:s.heap.IsTuple b ib.toArray:=tb;obtain⟨ux,B4,rx⟩:=va.get hx;obtain⟨uy,LH,ry⟩:=vb.get hy;refine⟨x,y,ux,uy,rx,ry,λh' kk Q E q=>?_,λh' kk Q E q=>?_,⟨_,rfl,hn,λmr mw h1 h2=>?_⟩⟩
  .exact pj (s:={ s with heap:=h' }) (j1.at λo e=>kk i1 o D.i1z e) (ta.at λo e=>kk a o D.l1z e) (by simpa using B4) q
  .exact pj (s:={ s with heap:=h' }) (j2.at λo e=>kk i2 o D.i2z D.TOi2.symm D.i12.symm e) (tb.at λo e=>kk b o D.l2z D.l2TO D.l2i1 e) (by simpa using LH) q
  .rw[<-I.rS ly h1,<-I.rS ph h2]
   exact⟨x,y,hx,hy,rfl⟩
 .subst hP hw hK
  obtain⟨xs,ys,ly,ph,Q8⟩:=hg;obtain⟨ia,va,ta,_⟩:=I.tuple ly;obtain⟨ib,vb,tb,_⟩:=I.tuple ph;have ta:s.heap.IsTuple a ia.toArray:=ta;have tb:s.heap.IsTuple b ib.toArray:=tb;have la:=va.length;have lb:=vb.length;have hh:X.A.in1.handled=af:=by simp[I.ok.hd hc]
  by_cases h1:xs.length<=i
  .exact .inl λh' kk Q E q=>yq (s:={ s with heap:=h' }) hh (j1.at λo e=>kk i1 o D.i1z e) (ta.at λo e=>kk a o D.l1z e) (abA (by simp;omega)) q
  .obtain⟨ux,B4,_⟩:=va.get (aac (ah7 h1))
   refine .inr ⟨ux,λh=>h.IsTupleIter i1 a (i+1),λh' kk Q E q=>?_,λh' kk Q E q=>?_⟩
   .exact pj (s:={ s with heap:=h' }) (j1.at λo e=>kk i1 o D.i1z e) (ta.at λo e=>kk a o D.l1z e) (by simpa using B4) q
   .exact yq (s:={ s with heap:=h' }) hh (j2.at λo e=>kk i2 o D.i2z D.TOi2.symm D.i12.symm e) (tb.at λo e=>kk b o D.l2z D.l2TO D.l2i1 e) (abA (by simp;omega)) q
section
variable{X:Cx}{e1 e2 tg:abl}{p1 p2:Pos}{f:Qm.XA}
theorem LV{t:TA}(hg:Gl X "zip")(hm:X.mg "zip" =af)(ha:PA X [e1,e2] t)(mD:aau [e1,e2] X.env=(false,adL e1 X.env)::aau [e2] X.env:=by rfl)(fQ:(acy p2 (aau [e2] X.env)).any (·.1)=false:=by rfl):
  PI X tg (.Call (.Name "zip" p1) [e1,e2] [] p2) (S6 X.K t):=by
 intro pins s σ H R I h;refine abx (iM I hg hm (u:=.type "zip") (by decide +kernel) ?_);refine aa0 (bN (ha p2 pins s σ H _ I h) λus s1 zz=>?_) mD fQ;obtain⟨vs,H1,I1,r1,q1⟩:=zz;obtain⟨a,b,xs,ys,rfl,vg,B5,q⟩:=q1;obtain⟨u1,u2,rfl,ra,rb⟩:=vals2 r1;cases (show u1=aaw a from ra);cases (show u2=aaw b from rb);obtain⟨ia,va,ta,za⟩:=I1.tuple vg;obtain⟨ib,vb,tb,zb⟩:=I1.tuple B5;have la:a<s1.heap.objs.size:=by obtain⟨o,ho,_⟩:=ta;exact aan ho
 have lb:b<s1.heap.objs.size:=by obtain⟨o,ho,_⟩:=tb;exact aan ho
 refine IV ta tb λh2 hz gI gO j1 j2 up=>?_
 refine agg hz ?_;have I2:Inv X pins σ H1 { s1 with heap:=h2 }:=I1.kept (t':=s1.toks) up;have fr:∀c,s1.heap.objs.size<=c->jc X pins H1 c:=λc hc=>I1.s_ hc (I1.bc.fresh hc)
 refine⟨_,_,_,S5 X.K a b,H1,rfl,I2,FR _ _ _ _ _ a b (u9 la lb),⟨⟨_,_,hz,.inl rfl⟩,gI,⟨_,_,gO⟩,j1,j2⟩,λc hc=>fr c ?_,q⟩;simp only[aaj,adB,or_false]at hc;rcases hc with rfl|rfl|rfl|rfl|rfl<;>first|exact aam _|exact agh _ _
theorem LW(hg:Gl X "zip")(hm:X.mg "zip" =af)(ha:QA X [e1,e2] f)(mD:aau [e1,e2] X.env=(false,adL e1 X.env)::aau [e2] X.env:=by rfl)(fQ:(acy p2 (aau [e2] X.env)).any (·.1)=false:=by rfl):
  QI X tg (.Call (.Name "zip" p1) [e1,e2] [] p2) (Qm.Ds f):=(LV hg hm ha mD fQ).imp λσ H R zz=>by
 obtain⟨ρ,env,c,m,c',rs,re,e,k⟩:=zz;obtain⟨p,ea,e⟩:=aF e;refine⟨ρ,env,c,p.1,p.2,rs,re,ea,λaR vs H1 n1 r1=>?_⟩;split at e
 .rename_i xs ys hp
  cases e;rw[hp]at r1;obtain⟨v,u,rfl,rx,ry⟩:=r1.kr;obtain⟨a,va,rfl,vg,aa⟩:=rx.g9;obtain⟨b,vb,rfl,B5,ab⟩:=ry.g9;refine⟨a,b,va,vb,rfl,b_.of vg,b_.of B5,k aR _ H1 n1 λja c2 H2 u2 qK _=>?_⟩;have yA:=u2.ts _ _ vg;have LN:=u2.ts _ _ B5;have Zo:=aa.up u2;have Zp:=ab.up u2;have l1:=aa.length;have l2:=ab.length;have hl:(Qm.gZ xs ys).length=min xs.length ys.length:=by simp[Qm.gZ]
  refine⟨λi hi=>?_,⟨va,vb,b_.of yA,b_.of LN,?_⟩,λi d x H' hd hy=>?_⟩
  .dsimp only at hi
   have h1:i<va.length:=by omega
   have h2:i<vb.length:=by omega
   exact⟨va,vb,va[i],vb[i],b_.of yA,b_.of LN,aac h1,aac h2⟩
  .show va.length<=(Qm.gZ xs ys).length\/vb.length<=(Qm.gZ xs ys).length
   omega
  .obtain⟨T,rfl,hT,hy⟩:=hy
   obtain⟨x',y',h1,h2,rfl⟩:=hy va vb (b_.of yA) (b_.of LN);obtain⟨dx,dy,g1,g2,rfl⟩:=u7 hd;obtain⟨v1,q1,r1⟩:=Zo.get g1;obtain⟨v2,q2,r2⟩:=Zp.get g2;rw[h1]at q1;cases q1;rw[h2]at q2;cases q2;have n:=Nx.same qK (iG (z:=.tup [x',y']) hT);exact⟨n,.tup dI (.cons (r1.up n.up) (.cons (r2.up n.up) .nil))⟩
 .cases e
end
end L2
namespace L2
open PySem
section
variable{X:Cx}{b e:abl}{es:List abl}{fb:Qm.XE}{pos p:Pos}
variable{x:Str}
theorem qv(i:Nat)(hN:X.N[i]? =ae x:=by rfl)(hv:EZ X.env.scope x:=by first|exact adA rfl|exact aex (adA rfl)|exact aex (aex rfl))(hd:(x=="__debug__")=false:=by decide)(hc:(x=="__classdict__")=false:=by decide):QE X (.Name x pos) (Qm.eV i):=OO i (pv i hN hv hd hc)
theorem aM(i:Nat)(hb:QE X b fb)(hN:X.N[i]? =ae x:=by rfl)(hv:EZ X.env.scope x:=by first|exact adA rfl|exact aex (adA rfl)|exact aex (aex rfl))(hs:tu b:=by exact λ_ _=>rfl)(hd:(x=="__debug__")=false:=by decide)(hc:(x=="__classdict__")=false:=by decide):QE X (.Subscript (.Name x p) b pos) (Qm.e2 Qm.ar (Qm.eV i) fb):=aI (qv i hN hv hd hc) hb hs
theorem WE{k:Nat}{f:Addr}{fd:aaC}{ps:List Str}{F:Qm.FN}{fx:Qm.XA}(G:bE X.prog X.w X.K X.mg X.base cU k f fd ps (dq X.K F))(hm:X.mg x=ae (.ref f))(hk:abX X.K (.ref f)=true)(hb:Binds X.K fd ps [])(hr:fq k X.A)(ha:QA X (e::es) fx)
  (hg:Gl X x:=by rfl)(hd:(x=="__debug__")=false:=by decide)(he:aau (e::es) X.env=(false,adL e X.env)::aau es X.env:=by rfl)(hp:(acy pos (aau es X.env)).any (·.1)=false:=by rfl):QE X (.Call (.Name x p) (e::es) [] pos) (Qm.au F [] fx):=KS [] G hr hg hm hk hb .nil (λ_ _ _=>.nil) ha hd he hp
theorem cu{fe:Qm.XE}(i:Nat){pos':Pos}(hN:X.N.Nodup)(he:QE X e fe)(hi:X.N[i]? =ae x:=by rfl)(hx:Loc X.env.scope x:=by exact adA rfl)(hs:aeP e (ae (.Name x pos')) pos.line X.env=pure false:=by rfl)(hf:X.fn x=true\/X.env.scope.names.lookup x=ae .local:=by first|exact .inl rfl|exact .inr rfl|assumption):
  QS X (.Assign [.Name x pos'] e pos) (Qm.aB i fe):=xm hN hi hx he hs hf
theorem iZ(i:Nat)(hN:X.N.Nodup)(hi:X.N[i]? =ae x:=by rfl)(hx:Loc X.env.scope x:=by exact adA rfl)(hf:X.fn x=true\/X.env.scope.names.lookup x=ae .local:=by first|exact .inl rfl|exact .inr rfl|assumption):QG X (.Name x pos) (Qm.ay i):=dR hN hi hx hf
theorem dS{a:abl}{fa:Qm.XE}{op:air}{r:R2}{g:Qm.G2}(ho:eZ X (abq op) r)(hl:ie X.K r g)(ha:QE X a fa)(hb:QE X b fb)(h1:op≠.In:=by decide)(h2:op≠.NotIn:=by decide):QT X (.Compare a [op] [b] pos) (Qm.tV (Qm.e2 g fa fb)):=nT ho hl ha hb (gi _ h1 h2)
theorem lA{fe:Qm.XE}(hm:X.mg "len" =af)(ha:QE X e fe)(hg:Gl X "len":=by rfl)(he:aau [e] X.env=(false,adL e X.env)::aau [] X.env:=by rfl):QE X (.Call (.Name "len" p) [e] [] pos) (Qm.eB Qm.bu (Qm.ag fe Qm.ak)):=bL zG OT hg hm OK (ai ha ao he) (by decide) (by decide) he rfl
end
end L2
namespace My
abbrev T3:=Int×Int×Int
def aS(p:T3):Prop:=Di p.1 p.2.1 p.2.2
def aP(p q:T3):Bool:=lj p.1 p.2.1 p.2.2 q.1 q.2.1 q.2.2
variable{a b c d e f:Int}
theorem LX(hb: 0<b)(hd: 0<d)(hf: 0<f)(h1:a*d<c*b)(h2:c*f<e*d):a*f<e*b:=by
 have a1:a*d*f<c*b*f:=acJ h1 hf;have a2:c*f*b<e*d*b:=acJ h2 hb;have e1:a*d*f=(a*f)*d:=by grind
 have e2:c*b*f=c*f*b:=by grind
 have e3:e*d*b=(e*b)*d:=by grind
 have:(a*f)*d<(e*b)*d:=by omega
 exact ad0 this (aa8 hd)
theorem Tp(hd: 0<d)(h1:a*d=c*b)(h2:c*f=e*d):a*f=e*b:=by
 have:(a*f)*d=(e*b)*d:=by grind
 exact ab4 (by omega) this
theorem Pu(hb: 0<b)(hd: 0<d)(hf: 0<f)(h1:a*d<c*b)(h2:c*f=e*d):a*f<e*b:=by
 have a1:a*d*f<c*b*f:=acJ h1 hf;have e1:a*d*f=(a*f)*d:=by grind
 have e2:c*b*f=(e*b)*d:=by
  rw[show c*b*f=(c*f)*b by grind,h2];grind
 have:(a*f)*d<(e*b)*d:=by omega
 exact ad0 this (aa8 hd)
theorem Pw(hb: 0<b)(hd: 0<d)(h1:a*d=c*b)(h2:c*f<e*d):a*f<e*b:=by
 have a1:c*f*b<e*d*b:=acJ h2 hb;have e1:c*f*b=(a*f)*d:=by
  rw[show c*f*b=(c*b)*f by grind,<-h1];grind
 have e2:e*d*b=(e*b)*d:=by grind
 have:(a*f)*d<(e*b)*d:=by omega
 exact ad0 this (aa8 hd)
variable{p q:T3}
theorem jE:aP p q=true↔p.1*q.2.2<q.1*p.2.2\/(p.1*q.2.2=q.1*p.2.2/\p.2.1*q.2.2<q.2.1*p.2.2):=by
 unfold aP lj;split
 .rename_i h
  simp only[decide_eq_true_eq];constructor
  .exact λz=>.inr ⟨h,z⟩
  .rintro(z|z)
   .omega
   .exact z.2
 .rename_i h
  simp only[decide_eq_true_eq];constructor
  .exact λz=>.inl z
  .rintro(z|z)
   .exact z
   .exact absurd z.1 h
theorem yB(p:T3):aP p p=false:=by
 cases h:aP p p with
 |false=>rfl
 |true=>
  rcases jE.mp h with z|z
  .omega
  .omega
theorem nY{r:T3}(hp:aS p)(hq:aS q)(hr:aS r)(h1:aP p q=true)(h2:aP q r=true):aP p r=true:=by
 have p0:=hp.pos;have q0:=hq.pos;have r0:=hr.pos;rw[jE]at h1 h2 |-
 rcases h1 with h1|⟨e1,h1⟩<;>rcases h2 with h2|⟨e2,h2⟩
 .exact .inl (LX p0 q0 r0 h1 h2)
 .exact .inl (Pu p0 q0 r0 h1 e2)
 .exact .inl (Pw p0 q0 e1 h2)
 .exact .inr ⟨Tp q0 e1 e2,LX p0 q0 r0 h1 h2⟩
theorem cf(h:aP p q=true):aP q p=false:=by
 cases h2:aP q p with
 |false=>rfl
 |true=>
  rw[jE]at h h2;rcases h with h|h<;>rcases h2 with h2|h2<;>omega
theorem yC(hp:aS p)(hq:aS q)(h1:aP p q=false)(h2:aP q p=false):p=q:=by
 have n1:¬(aP p q=true):=by rw[h1];decide
 have n2:¬(aP q p=true):=by rw[h2];decide
 rw[jE]at n1 n2;have e1:p.1*q.2.2=q.1*p.2.2:=by omega
 have e2:p.2.1*q.2.2=q.2.1*p.2.2:=by omega
 obtain⟨a,b,c⟩:=lH hp hq e1 e2;obtain⟨x,y,w⟩:=p;obtain⟨x',y',w'⟩:=q;dsimp only at a b c;subst a b c;rfl
theorem away{α:Type}[DecidableEq α]:∀(l:List α) (f:Nat->α),(∀i j,f i=f j->i=j)->∃i,i<=l.length/\f i∉l
 |[],f,_=>⟨0,aam _,by simp⟩
 |a::l,f,hf=>by
  by_cases h:∃j,j<=l.length+1/\f j=a
  .obtain⟨j,hj,e⟩:=h
   obtain⟨i,hi,hn⟩:=away l (λi=>if i<j then f i else f (i+1)) (λi k e=>by
    split at e<;>split at e
    .exact hf _ _ e
    .have:=hf _ _ e;omega
    .have:=hf _ _ e;omega
    .have:=hf _ _ e;omega)
   split at hn
   .rename_i rW
    refine⟨i,by simp;omega,λz=>?_⟩;rcases aaj.mp z with z|z
    .have:=hf _ _ (z.trans e.symm);omega
    .exact hn z
   .rename_i rW
    refine⟨i+1,by simp;omega,λz=>?_⟩;rcases aaj.mp z with z|z
    .have:=hf _ _ (z.trans e.symm);omega
    .exact hn z
  .obtain⟨i,hi,hn⟩:=away l f hf
   refine⟨i,by simp;omega,λz=>?_⟩;rcases aaj.mp z with z|z
   .exact h ⟨i,by omega,z⟩
   .exact hn z
end My
namespace My
abbrev P2:=Int×Int
end My
set_option maxHeartbeats 2000000
namespace My
def di(p q:T3):P2:=(q.1*p.2.2 - p.1*q.2.2,q.2.1*p.2.2 - p.2.1*q.2.2)
def mR(a b:P2):Int:=a.1*b.2 - a.2*b.1
def LY(a b:P2):Bool:=decide (mR a b=0)&&(decide (a.1*b.1<=0)&&decide (a.2*b.2<=0))
structure Sg(x y z:Int):Prop where
 pp: 0<x->0<y->0<z
 nn:x<0->y<0->0<z
 pn: 0<x->y<0->z<0
 np:x<0->0<y->z<0
 z1:x=0->z=0
 z2:y=0->z=0
theorem LZ(x y:Int):Sg x y (x*y):=⟨abc,ac6,ac7,afG,λh=>by rw[h,Int.zero_mul],λh=>by rw[h,agJ]⟩
theorem yD{a b:P2}:LY a b=true↔mR a b=0/\a.1*b.1<=0/\a.2*b.2<=0:=by
 unfold LY;simp only[abe,decide_eq_true_eq]
theorem g_(z:Int): 0<z\/z=0\/z<0:=by omega
theorem L0(p a b:T3):mR (di p a) (di p b)=p.2.2*det a.1 a.2.1 a.2.2 b.1 b.2.1 b.2.2 p.1 p.2.1 p.2.2:=by
 obtain⟨p0,p1,p2⟩:=p;obtain⟨a0,a1,a2⟩:=a;obtain⟨b0,b1,b2⟩:=b;simp only[mR,di,det];grind
variable{p0 p1 p2 q0 q1 q2:Int}
theorem D4:lj p0 p1 p2 q0 q1 q2=true↔p0*q2<q0*p2\/(p0*q2=q0*p2/\p1*q2<q1*p2):=jE (p:=(p0,p1,p2)) (q:=(q0,q1,q2))
variable{s:Int}
theorem fH{p e:Int}(hp: 0<p)(h:p*s=e):(0<s->0<e)/\(s=0->e=0)/\(s<0->e<0):=by
 subst h;exact⟨abc hp,λh=>by rw[h,agJ],ac7 hp⟩
variable{y v:Int}
theorem Zq{k n1 n2 t:Int}(s2:Sg y v k)(e3:(0<y->0<n1)/\(y=0->n1=0)/\(y<0->n1<0))(e4:(0<v->0<n2)/\(v=0->n2=0)/\(v<0->n2<0))(f2:(0<t->0<n1 - n2)/\(t=0->n1 - n2=0)/\(t<0->n1 - n2<0)):
  (if t<0 then ¬0<y/\¬v<0 else ¬0<v/\¬y<0)↔k<=0:=by
 obtain⟨p1,p2,p3,p4,p5,p6⟩:=s2;rcases g_ y with hy|hy|hy<;>rcases g_ v with hv|hv|hv
 .have:=p1 hy hv;clear e3 e4 f2;split<;>omega
 .have:=p6 hv;have:=e3.1 hy;have:=e4.2.1 hv;have:=f2.2.2;clear e3 e4 f2;split<;>omega
 .have:=p3 hy hv;have:=e3.1 hy;have:=e4.2.2 hv;have:=f2.2.2;clear e3 e4 f2;split<;>omega
 .have:=p5 hy;have:=e3.2.1 hy;have:=e4.1 hv;have:=f2.1;have:=f2.2.1;clear e3 e4 f2;split<;>omega
 .have:=p5 hy;clear e3 e4 f2;split<;>omega
 .have:=p5 hy;have:=e3.2.1 hy;have:=e4.2.2 hv;have:=f2.2.2;clear e3 e4 f2;split<;>omega
 .have:=p4 hy hv;have:=e3.2.2 hy;have:=e4.1 hv;have:=f2.1;have:=f2.2.1;clear e3 e4 f2;split<;>omega
 .have:=p6 hv;have:=e3.2.2 hy;have:=e4.2.1 hv;have:=f2.1;have:=f2.2.1;clear e3 e4 f2;split<;>omega
 .have:=p2 hy hv;clear e3 e4 f2;split<;>omega
variable{x u:Int}
theorem WG{k2 k3 k4:Int}(s2:Sg y v k2)(s3:Sg x v k3)(s4:Sg y u k4)(c:k3 - k4=0)(h:(0<x/\u<0)\/(x<0/\0<u)):k2<=0:=by
 rcases g_ v with hv|hv|hv
 .rcases g_ y with hy|hy|hy
  .exfalso
   rcases h with h|h
   .have:=s3.pp h.1 hv;have:=s4.pn hy h.2;omega
   .have:=s3.np h.1 hv;have:=s4.pp hy h.2;omega
  .exact abj (s2.z1 hy)
  .exact aa8 (s2.np hy hv)
 .exact abj (s2.z2 hv)
 .rcases g_ y with hy|hy|hy
  .exact aa8 (s2.pn hy hv)
  .exact abj (s2.z1 hy)
  .exfalso
   rcases h with h|h
   .have:=s3.pn h.1 hv;have:=s4.nn hy h.2;omega
   .have:=s3.nn h.1 hv;have:=s4.np hy h.2;omega
theorem Tq{k:Int}(s:Sg x v k)(h:x≠0)(e:k=0):v=0:=by
 rcases g_ v with hv|hv|hv
 .rcases g_ x with hx|hx|hx
  .have:=s.pp hx hv;omega
  .exact absurd hx h
  .have:=s.np hx hv;omega
 .exact hv
 .rcases g_ x with hx|hx|hx
  .have:=s.pn hx hv;omega
  .exact absurd hx h
  .have:=s.nn hx hv;omega
theorem Q9{k:Int}(s:Sg x v k)(h:v≠0)(e:k=0):x=0:=Tq ⟨λa b=>s.pp b a,λa b=>s.nn b a,λa b=>s.np b a,λa b=>s.pn b a,s.z2,s.z1⟩ h e
theorem Tr{t k1 k2:Int}(hs: 0<s)(hu:¬(0<u\/(u=0/\0<v)))(hx:¬(x<0\/(x=0/\y<0)))(h1:k1<=0)(h2:k2<=0):(if s<0\/(s=0/\t<0)then ¬(0<x\/(x=0/\0<y))/\¬(u<0\/(u=0/\v<0))else ¬(0<u\/(u=0/\0<v))/\¬(x<0\/(x=0/\y<0)))↔k1<=0/\k2<=0:=by
 rw[if_neg (by clear hu hx h1 h2;omega)];exact⟨λ_=>⟨h1,h2⟩,λ_=>⟨hu,hx⟩⟩
theorem Ts{t k1 k2:Int}(hs:s<0)(hx:¬(0<x\/(x=0/\0<y)))(hu:¬(u<0\/(u=0/\v<0)))(h1:k1<=0)(h2:k2<=0):(if s<0\/(s=0/\t<0)then ¬(0<x\/(x=0/\0<y))/\¬(u<0\/(u=0/\v<0))else ¬(0<u\/(u=0/\0<v))/\¬(x<0\/(x=0/\y<0)))↔k1<=0/\k2<=0:=by
 rw[if_pos (.inl hs)];exact⟨λ_=>⟨h1,h2⟩,λ_=>⟨hx,hu⟩⟩
theorem Tt{m n:Int}(f:(0<s->0<m - n)/\(s=0->m - n=0)/\(s<0->m - n<0))(h:n<m): 0<s:=by
 rcases g_ s with z|z|z
 .exact z
 .have:=f.2.1 z;clear f;omega
 .have:=f.2.2 z;clear f;omega
theorem Tu{m n:Int}(f:(0<s->0<m - n)/\(s=0->m - n=0)/\(s<0->m - n<0))(h:m<n):s<0:=by
 rcases g_ s with z|z|z
 .have:=f.1 z;clear f;omega
 .have:=f.2.1 z;clear f;omega
 .exact z
theorem nq{p q:Prop}(h:¬p)(g:¬q):¬(p\/q):=λz=>z.elim h g
theorem ltN{a b:Int}(h:a<b):¬b<a:=aeF.mpr (aa8 h)
theorem Px{a:Int}(h:a=0):¬0<a:=by omega
theorem nN{a:Int}(h:a=0):¬a<0:=by omega
theorem Zr{k1 k2 k3 k4 m1 m2 n1 n2 t:Int}(s1:Sg x u k1)(s2:Sg y v k2)(s3:Sg x v k3)(s4:Sg y u k4)(c:k3 - k4=0)(e1:(0<x->0<m1)/\(x=0->m1=0)/\(x<0->m1<0))(e2:(0<u->0<m2)/\(u=0->m2=0)/\(u<0->m2<0))(e3:(0<y->0<n1)/\(y=0->n1=0)/\(y<0->n1<0))(e4:(0<v->0<n2)/\(v=0->n2=0)/\(v<0->n2<0))
  (f1:(0<s->0<m1 - m2)/\(s=0->m1 - m2=0)/\(s<0->m1 - m2<0))(f2:(0<t->0<n1 - n2)/\(t=0->n1 - n2=0)/\(t<0->n1 - n2<0)):
  (if s<0\/(s=0/\t<0)then ¬(0<x\/(x=0/\0<y))/\¬(u<0\/(u=0/\v<0))else ¬(0<u\/(u=0/\0<v))/\¬(x<0\/(x=0/\y<0)))↔k1<=0/\k2<=0:=by
 rcases g_ x with hx|hx|hx<;>rcases g_ u with hu|hu|hu
 .have:=s1.pp hx hu
  split
  .exact⟨λh=>absurd (.inl hx) h.1,λh=>absurd h.1 (afO.mpr this)⟩
  .exact⟨λh=>absurd (.inl hu) h.1,λh=>absurd h.1 (afO.mpr this)⟩
 .have k4:=s4.z2 hu
  have hv:=Tq s3 (aea hx) (by clear s1 s2 s3 s4 e1 e2 e3 e4 f1 f2;omega);have q:=e1.1 hx;exact Tr (Tt f1 (by rw[e2.2.1 hu];exact q)) (nq (Px hu) λz=>Px hv z.2) (nq (ltN hx) λz=>aea hx z.1) (abj (s1.z2 hu)) (abj (s2.z2 hv))
 .exact Tr (Tt f1 (Int.lt_trans (e2.2.2 hu) (e1.1 hx))) (nq (ltN hu) λz=>aeU hu z.1) (nq (ltN hx) λz=>aea hx z.1) (aa8 (s1.pn hx hu)) (WG s2 s3 s4 c (.inl ⟨hx,hu⟩))
 .have Zs:=s3.z1 hx
  have hy:=Q9 s4 (aea hu) (by clear s1 s2 s3 s4 e1 e2 e3 e4 f1 f2;omega);have q:=e2.1 hu;exact Ts (Tu f1 (by rw[e1.2.1 hx];exact q)) (nq (Px hx) λz=>Px hy z.2) (nq (ltN hu) λz=>aea hu z.1) (abj (s1.z1 hx)) (abj (s2.z1 hy))
 .have hs:s=0:=by
   have h1:=e1.2.1 hx;have h2:=e2.2.1 hu;rcases g_ s with z|z|z
   .have:=f1.1 z;clear s1 s2 s3 s4 e1 e2 e3 e4 f1 f2;omega
   .exact z
   .have:=f1.2.2 z;clear s1 s2 s3 s4 e1 e2 e3 e4 f1 f2;omega
  have:=s1.z1 hx;have k:=Zq s2 e3 e4 f2;subst hx hu hs;simp only[Int.lt_irrefl,false_or,true_and];rw[k];exact⟨λz=>⟨abj this,z⟩,λz=>z.2⟩
 .have Zs:=s3.z1 hx
  have hy:=Q9 s4 (aeU hu) (by clear s1 s2 s3 s4 e1 e2 e3 e4 f1 f2;omega);have q:=e2.2.2 hu;exact Tr (Tt f1 (by rw[e1.2.1 hx];exact q)) (nq (ltN hu) λz=>aeU hu z.1) (nq (nN hx) λz=>nN hy z.2) (abj (s1.z1 hx)) (abj (s2.z1 hy))
 .exact Ts (Tu f1 (Int.lt_trans (e1.2.2 hx) (e2.1 hu))) (nq (ltN hx) λz=>aeU hx z.1) (nq (ltN hu) λz=>aea hu z.1) (aa8 (s1.np hx hu)) (WG s2 s3 s4 c (.inr ⟨hx,hu⟩))
 .have k4:=s4.z2 hu
  have hv:=Tq s3 (aeU hx) (by clear s1 s2 s3 s4 e1 e2 e3 e4 f1 f2;omega);have q:=e1.2.2 hx;exact Ts (Tu f1 (by rw[e2.2.1 hu];exact q)) (nq (ltN hx) λz=>aeU hx z.1) (nq (nN hu) λz=>nN hv z.2) (abj (s1.z2 hu)) (abj (s2.z2 hv))
 .have:=s1.nn hx hu
  split
  .exact⟨λh=>absurd (.inl hu) h.2,λh=>absurd h.1 (afO.mpr this)⟩
  .exact⟨λh=>absurd (.inl hx) h.2,λh=>absurd h.1 (afO.mpr this)⟩
theorem FT:lj p0 p1 p2 q0 q1 q2=true↔p0*q2 - q0*p2<0\/(p0*q2 - q0*p2=0/\p1*q2 - q1*p2<0):=by rw[D4];omega
theorem L4:lj p0 p1 p2 q0 q1 q2=true↔0<q0*p2 - p0*q2\/(q0*p2 - p0*q2=0/\0<q1*p2 - p1*q2):=by rw[D4];omega
theorem D5{p a b:T3}(hp: 0<p.2.2)(ha: 0<a.2.2)(hb: 0<b.2.2):zH p.1 p.2.1 p.2.2 a.1 a.2.1 a.2.2 b.1 b.2.1 b.2.2=LY (di p a) (di p b):=by
 have cd:=L0 p a b;obtain⟨p0,p1,p2⟩:=p;obtain⟨a0,a1,a2⟩:=a;obtain⟨b0,b1,b2⟩:=b;dsimp only at*;have hd:det a0 a1 a2 b0 b1 b2 p0 p1 p2=0↔mR (di (p0,p1,p2) (a0,a1,a2)) (di (p0,p1,p2) (b0,b1,b2))=0:=by
  rw[cd];exact⟨λh=>by rw[h,agJ],λh=>(aci.mp h).resolve_left (by omega)⟩
 have key:zH p0 p1 p2 a0 a1 a2 b0 b1 b2=true↔LY (di (p0,p1,p2) (a0,a1,a2)) (di (p0,p1,p2) (b0,b1,b2))=true:=by
  rw[yD];unfold zH
  by_cases h:det a0 a1 a2 b0 b1 b2 p0 p1 p2=0
  .rw[if_pos h,<-hd]
   simp only[h,true_and];have h':=hd.mp h;have e:∀x y:Bool,(!x&&!y)=true↔¬x=true/\¬y=true:=by decide
   have k:=Zr (x:=a0*p2 - p0*a2) (y:=a1*p2 - p1*a2) (u:=b0*p2 - p0*b2) (v:=b1*p2 - p1*b2) (s:=a0*b2 - b0*a2) (t:=a1*b2 - b1*a2) (m1:=b2*(a0*p2 - p0*a2)) (m2:=a2*(b0*p2 - p0*b2)) (n1:=b2*(a1*p2 - p1*a2)) (n2:=a2*(b1*p2 - p1*b2)) (LZ _ _) (LZ _ _) (LZ _ _) (LZ _ _) h' (fH hb rfl) (fH ha rfl) (fH hb rfl) (fH ha rfl) (fH hp (by grind)) (fH hp (by grind));simp only[di];rw[<-k];have w1:lj a0 a1 a2 b0 b1 b2=true↔a0*b2 - b0*a2<0\/(a0*b2 - b0*a2=0/\a1*b2 - b1*a2<0):=FT;have w2:lj p0 p1 p2 a0 a1 a2=true↔0<a0*p2 - p0*a2\/(a0*p2 - p0*a2=0/\0<a1*p2 - p1*a2):=L4;have w3:lj b0 b1 b2 p0 p1 p2=true↔b0*p2 - p0*b2<0\/(b0*p2 - p0*b2=0/\b1*p2 - p1*b2<0):=FT;have w4:lj p0 p1 p2 b0 b1 b2=true↔0<b0*p2 - p0*b2\/(b0*p2 - p0*b2=0/\0<b1*p2 - p1*b2):=L4;have w5:lj a0 a1 a2 p0 p1 p2=true↔a0*p2 - p0*a2<0\/(a0*p2 - p0*a2=0/\a1*p2 - p1*a2<0):=FT
   by_cases hw:lj a0 a1 a2 b0 b1 b2=true
   .rw[if_pos hw,if_pos (w1.mp hw),<-w2,<-w3];exact e _ _
   .rw[if_neg hw,if_neg (λg=>hw (w1.mpr g)),<-w4,<-w5];exact e _ _
  .rw[if_neg h]
   simp only[aav,false_iff,not_and];exact λh2=>absurd (hd.mpr h2) h
 cases h1:zH p0 p1 p2 a0 a1 a2 b0 b1 b2<;>cases h2:LY (di (p0,p1,p2) (a0,a1,a2)) (di (p0,p1,p2) (b0,b1,b2))<;>simp_all
end My
set_option maxHeartbeats 2000000
namespace My
inductive B6 where
 |none|fA(p:T3)|dW(p q:T3)
 deriving DecidableEq
def aG(a b c:T3):Int:=det a.1 a.2.1 a.2.2 b.1 b.2.1 b.2.2 c.1 c.2.1 c.2.2
def cF(p a b:T3):Bool:=zH p.1 p.2.1 p.2.2 a.1 a.2.1 a.2.2 b.1 b.2.1 b.2.2
def fw(a b:T3):T3×T3:=if aP a b=true then(a,b)else(b,a)
def i3(l r:T3×T3):B6:=
 let p:=if aP l.1 r.1=true then r.1 else l.1
 let q:=if aP l.2 r.2=true then l.2 else r.2
 if p=q then .fA p else if aP p q=true then .dW p q else .none
def mX(a b c d:T3):Int:=m0 a.1 a.2.1 a.2.2 b.1 b.2.1 b.2.2 c.1 c.2.1 c.2.2 d.1 d.2.1 d.2.2
def mY(a b c d:T3):Int:=m1 a.1 a.2.1 a.2.2 b.1 b.2.1 b.2.2 c.1 c.2.1 c.2.2 d.1 d.2.1 d.2.2
def mW(a b c d:T3):Int:=m2 a.1 a.2.1 a.2.2 b.1 b.2.1 b.2.2 c.1 c.2.1 c.2.2 d.1 d.2.1 d.2.2
def spT(x y w:Int):T3:=(sx x y w,sy x y w,sw x y w)
def cm(a b c d:T3):B6:=
 if sgn (aG a b c)=0/\sgn (aG a b d)=0 then i3 (fw a b) (fw c d)
 else if 0<sgn (aG a b c)*sgn (aG a b d)\/0<sgn (aG c d a)*sgn (aG c d b)then .none
 else .fA (spT (mX a b c d) (mY a b c d) (mW a b c d))
variable{p q:T3}
theorem iF(hp:aS p)(hq:aS q):aP p q=true\/p=q\/aP q p=true:=by
 cases h1:aP p q
 .cases h2:aP q p
  .exact .inr (.inl (yC hp hq h1 h2))
  .exact .inr (.inr rfl)
 .exact .inl rfl
variable{a b:T3}
theorem D6(ha:aS a)(hb:aS b)(h:a≠b):fw b a=fw a b:=by
 unfold fw;rcases iF ha hb with h1|h1|h1
 .rw[if_pos h1,if_neg (by rw[cf h1];decide)]
 .exact absurd h1 h
 .rw[if_pos h1,if_neg (by rw[cf h1];decide)]
theorem gk(ha:aS a)(hb:aS b):aS (fw a b).1/\aS (fw a b).2:=by
 unfold fw;split
 .exact⟨ha,hb⟩
 .exact⟨hb,ha⟩
theorem FU{l r:T3×T3}(l1:aS l.1)(l2:aS l.2)(r1:aS r.1)(r2:aS r.2):i3 r l=i3 l r:=by
 have e1:(if aP r.1 l.1=true then l.1 else r.1)=(if aP l.1 r.1=true then r.1 else l.1):=by
  rcases iF l1 r1 with h|h|h
  .rw[if_pos h,if_neg (by rw[cf h];decide)]
  .rw[h]
  .rw[if_pos h,if_neg (by rw[cf h];decide)]
 have e2:(if aP r.2 l.2=true then r.2 else l.2)=(if aP l.2 r.2=true then l.2 else r.2):=by
  rcases iF l2 r2 with h|h|h
  .rw[if_pos h,if_neg (by rw[cf h];decide)]
  .rw[h]
  .rw[if_pos h,if_neg (by rw[cf h];decide)]
 unfold i3;dsimp only
 rw[e1,e2]
theorem dG{n:Int}:sgn n=0↔n=0:=⟨j7,λh=>by rw[h];rfl⟩
theorem L5(n:Int):(0<n/\sgn n=1)\/(n=0/\sgn n=0)\/(n<0/\sgn n= -1):=by
 unfold sgn;split
 .omega
 .split<;>omega
theorem fI(x y:Int): 0<sgn x*sgn y↔(0<x/\0<y)\/(x<0/\y<0):=by
 rcases L5 x with⟨h1,e1⟩|⟨h1,e1⟩|⟨h1,e1⟩<;>rcases L5 y with⟨h2,e2⟩|⟨h2,e2⟩|⟨h2,e2⟩<;>rw[e1,e2]<;>omega
theorem tQ(a b c d:T3):c.2.2*aG a b d - d.2.2*aG a b c=mW a b c d:=Sw ..
theorem bQ(a b c d:T3):b.2.2*aG c d a - a.2.2*aG c d b=mW a b c d:=Sx ..
theorem mS(a b c:T3):aG b a c= - aG a b c:=Ic ..
theorem D7(a b c d:T3):mX c d a b= - mX a b c d/\mY c d a b= - mY a b c d/\mW c d a b= - mW a b c d:=OH ..
variable{c d:T3}
theorem qx(ha: 0<a.2.2)(hb: 0<b.2.2)(fm:(di a b).1≠0\/(di a b).2≠0)(h1:aG a b c=0)(h2:aG a b d=0):aG c d a=0/\aG c d b=0:=by
 have e:mW a b c d=0:=by rw[<-tQ,h1,h2];omega
 have k:=bQ a b c d;rw[e]at k
 -- det(c,d,a) times xN way from a to b
 have z1:aG c d a*(di a b).1=0:=by
  have:aG c d a*(di a b).1=aG a b c*(a.1*d.2.2 - d.1*a.2.2)*1+aG a b d*(c.1*a.2.2 - a.1*c.2.2):=by
   unfold aG det di;dsimp only;grind
  rw[this,h1,h2];omega
 have z2:aG c d a*(di a b).2=0:=by
  have:aG c d a*(di a b).2=aG a b c*(a.2.1*d.2.2 - d.2.1*a.2.2)+aG a b d*(c.2.1*a.2.2 - a.2.1*c.2.2):=by
   unfold aG det di;dsimp only;grind
  rw[this,h1,h2];omega
 have r0:aG c d a=0:=by
  rcases fm with g|g
  .exact(aci.mp z1).resolve_right g
  .exact(aci.mp z2).resolve_right g
 refine⟨r0,?_⟩;rw[r0]at k;have:a.2.2*aG c d b=0:=by omega
 exact(aci.mp this).resolve_left (by omega)
theorem xt(ha:aS a)(hb:aS b)(h:a≠b):(di a b).1≠0\/(di a b).2≠0:=by
 by_cases h1:(di a b).1=0
 .by_cases h2:(di a b).2=0
  .exfalso
   refine h (yC ha hb ?_ ?_)
   .rw[<-agj,jE]
    simp only[di]at h1 h2;omega
   .rw[<-agj,jE]
    simp only[di]at h1 h2;omega
  .exact .inr h2
 .exact .inl h1
theorem yE{c d P Q M:Int}(hc: 0<c)(hd: 0<d)(e:c*Q - d*P=M):(M=0->¬((0<P/\0<Q)\/(P<0/\Q<0))->P=0/\Q=0)/\(0<M->¬((0<P/\0<Q)\/(P<0/\Q<0))->P<=0/\0<=Q)/\(M<0->¬((0<P/\0<Q)\/(P<0/\Q<0))->0<=P/\Q<=0):=by
 have s1:=fH (s:=Q) hc rfl;have s2:=fH (s:=P) hd rfl;rw[<-e];generalize c*Q=x at*;generalize d*P=y at*;clear e hc hd;rcases g_ P with h1|h1|h1<;>rcases g_ Q with h2|h2|h2<;>refine⟨λ_ k=>?_,λ_ k=>?_,λ_ k=>?_⟩<;>first|exact(k (.inl ⟨h1,h2⟩)).elim|exact(k (.inr ⟨h1,h2⟩)).elim|exact⟨h1,h2⟩|exact⟨abj h1,abj h2.symm⟩|exact⟨abj h1.symm,abj h2⟩|(clear k;(first|replace s1:=s1.1 h2|replace s1:=s1.2.1 h2|replace s1:=s1.2.2 h2);(first|replace s2:=s2.1 h1|replace s2:=s2.2.1 h1|replace s2:=s2.2.2 h1);omega)
theorem mT(hc: 0<c.2.2)(hd: 0<d.2.2)(h1:¬(sgn (aG a b c)=0/\sgn (aG a b d)=0))(h2:¬0<sgn (aG a b c)*sgn (aG a b d)):mW a b c d≠0:=by
 intro e;rw[fI]at h2;rw[dG,dG]at h1;exact h1 ((yE hc hd (tQ a b c d)).1 e h2)
theorem D8{x y w:Int}(h:w≠0):spT (-x) (-y) (-w)=spT x y w:=by
 obtain⟨e1,e2,e3⟩:=Ig (x:=x) (y:=y) h;unfold spT;rw[e1,e2,e3]
theorem L6(ha:aS a)(hb:aS b)(hc:aS c)(hd:aS d)(h1:a≠b)(h2:c≠d):cm c d a b=cm a b c d:=by
 have WH:(sgn (aG c d a)=0/\sgn (aG c d b)=0)↔(sgn (aG a b c)=0/\sgn (aG a b d)=0):=by
  simp only[dG];exact⟨λh=>qx hc.pos hd.pos (xt hc hd h2) h.1 h.2,λh=>qx ha.pos hb.pos (xt ha hb h1) h.1 h.2⟩
 unfold cm
 by_cases g:sgn (aG a b c)=0/\sgn (aG a b d)=0
 .rw[if_pos g,if_pos (WH.mpr g)]
  exact FU (gk ha hb).1 (gk ha hb).2 (gk hc hd).1 (gk hc hd).2
 .rw[if_neg g,if_neg (λz=>g (WH.mp z))]
  by_cases k: 0<sgn (aG a b c)*sgn (aG a b d)\/0<sgn (aG c d a)*sgn (aG c d b)
  .rw[if_pos k,if_pos (Or.comm.mp k)]
  .rw[if_neg k,if_neg (λz=>k (Or.comm.mp z))]
   obtain⟨e1,e2,e3⟩:=D7 a b c d;rw[e1,e2,e3,D8 (mT hc.pos hd.pos g (λz=>k (.inl z)))]
theorem Ap(ha: 0<a.2.2)(hb: 0<b.2.2)(hm:mW a b c d≠0)(hR:¬((0<aG c d a/\0<aG c d b)\/(aG c d a<0/\aG c d b<0))):cF (spT (mX a b c d) (mY a b c d) (mW a b c d)) a b=true:=by
 have pw:=sw_pos (x:=mX a b c d) (y:=mY a b c d) hm;unfold cF;rw[D5 (p:=spT (mX a b c d) (mY a b c d) (mW a b c d)) pw ha hb]
 -- in Zt of xN turns
 have x1:=xg (mX a b c d) (mY a b c d) (mW a b c d);have x2:=xh (mX a b c d) (mY a b c d) (mW a b c d);have x3:=qj (mX a b c d) (mY a b c d) (mW a b c d);have g0:=tD (x:=mX a b c d) (y:=mY a b c d) hm;have cx:mX a b c d=aG c d a*b.1 - aG c d b*a.1:=(Kw ..).symm;have Zv:mY a b c d=aG c d a*b.2.1 - aG c d b*a.2.1:=(Kx ..).symm;have cw:mW a b c d=aG c d a*b.2.2 - aG c d b*a.2.2:=(Ky ..).symm;unfold spT;generalize sx (mX a b c d) (mY a b c d) (mW a b c d)=X at*;generalize sy (mX a b c d) (mY a b c d) (mW a b c d)=Y at*;generalize sw (mX a b c d) (mY a b c d) (mW a b c d)=W at*;generalize jN (mX a b c d) (mY a b c d) (mW a b c d)=g at*;rw[cx]at x1;rw[Zv]at x2;rw[cw]at x3 hm;generalize aG c d a=R at*;generalize aG c d b=S at*;rw[yD];obtain⟨a0,a1,A⟩:=a;obtain⟨b0,b1,B⟩:=b;dsimp only[di]at*
 -- times g
 have u0:g*(a0*W - X*A)=R*(a0*B - b0*A):=by
  have:g*(a0*W - X*A)=a0*(g*W) - (g*X)*A:=by grind
  rw[this,x1,x3];grind
 have u1:g*(a1*W - Y*A)=R*(a1*B - b1*A):=by
  have:g*(a1*W - Y*A)=a1*(g*W) - (g*Y)*A:=by grind
  rw[this,x2,x3];grind
 have v0:g*(b0*W - X*B)=S*(a0*B - b0*A):=by
  have:g*(b0*W - X*B)=b0*(g*W) - (g*X)*B:=by grind
  rw[this,x1,x3];grind
 have v1:g*(b1*W - Y*B)=S*(a1*B - b1*A):=by
  have:g*(b1*W - Y*B)=b1*(g*W) - (g*Y)*B:=by grind
  rw[this,x2,x3];grind
 have gg: 0<g*g:=by
  rcases g_ g with h|h|h
  .exact abc h h
  .exact absurd h g0
  .exact ac6 h h
 have rs:R*S<=0:=by
  obtain⟨p1,p2,p3,p4,p5,p6⟩:=LZ R S;rcases g_ R with h|h|h<;>rcases g_ S with h'|h'|h'<;>first|exact(hR (.inl ⟨h,h'⟩)).elim|exact(hR (.inr ⟨h,h'⟩)).elim|exact aa8 (p3 h h')|exact aa8 (p4 h h')|exact abj (p5 h)|exact abj (p6 h')
 have WI:∀z:Int,0<=z*z:=λz=>by
  rcases g_ z with h|h|h
  .exact aa8 (abc h h)
  .rw[h];decide
  .exact aa8 (ac6 h h)
 refine⟨?_,?_,?_⟩
 .have e:g*g*mR (a0*W - X*A,a1*W - Y*A) (b0*W - X*B,b1*W - Y*B)=0:=by
   have:g*g*mR (a0*W - X*A,a1*W - Y*A) (b0*W - X*B,b1*W - Y*B)=(g*(a0*W - X*A))*(g*(b1*W - Y*B)) - (g*(a1*W - Y*A))*(g*(b0*W - X*B)):=by unfold mR;grind
   rw[this,u0,u1,v0,v1];grind
  exact(aci.mp e).resolve_left (aea gg)
 .have e:g*g*((a0*W - X*A)*(b0*W - X*B))=R*S*((a0*B - b0*A)*(a0*B - b0*A)):=by
   have:g*g*((a0*W - X*A)*(b0*W - X*B))=(g*(a0*W - X*A))*(g*(b0*W - X*B)):=by grind
   rw[this,u0,v0];grind
  have n:R*S*((a0*B - b0*A)*(a0*B - b0*A))<=0:=aed rs (WI _);exact aeF.mp λh=>absurd ((fH gg e).1 h) (aeF.mpr n)
 .have e:g*g*((a1*W - Y*A)*(b1*W - Y*B))=R*S*((a1*B - b1*A)*(a1*B - b1*A)):=by
   have:g*g*((a1*W - Y*A)*(b1*W - Y*B))=(g*(a1*W - Y*A))*(g*(b1*W - Y*B)):=by grind
   rw[this,u1,v1];grind
  have n:R*S*((a1*B - b1*A)*(a1*B - b1*A))<=0:=aed rs (WI _);exact aeF.mp λh=>absurd ((fH gg e).1 h) (aeF.mpr n)
theorem vh(a b:T3):aG a b a=0:=by unfold aG det;grind
theorem vi(a b:T3):aG a b b=0:=by unfold aG det;grind
def le(p q:T3):Prop:=aP q p=false
theorem le_trans{r:T3}(hp:aS p)(hq:aS q)(hr:aS r)(h1:le p q)(h2:le q r):le p r:=by
 unfold le at*;cases h:aP r p
 .rfl
 .rcases iF hq hr with g|g|g
  .have:=nY hq hr hp g h;rw[h1]at this;cases this
  .rw[g]at h1;rw[h1]at h;cases h
  .rw[h2]at g;cases g
theorem j9(h:aP p q=true):le p q:=cf h
theorem le_refl(p:T3):le p p:=yB p
theorem dw(h:aG a b p=0):cF p a b=true↔le (fw a b).1 p/\le p (fw a b).2:=by
 have h':det a.1 a.2.1 a.2.2 b.1 b.2.1 b.2.2 p.1 p.2.1 p.2.2=0:=h;unfold cF zH;rw[if_pos h'];unfold fw le;have e:∀x y:Bool,(!x&&!y)=true↔x=false/\y=false:=by decide
 by_cases g:aP a b=true
 .rw[if_pos g,if_pos (show lj a.1 a.2.1 a.2.2 b.1 b.2.1 b.2.2=true from g)];exact e _ _
 .rw[if_neg g,if_neg (show ¬lj a.1 a.2.1 a.2.2 b.1 b.2.1 b.2.2=true from g)];exact e _ _
theorem WJ{l r:T3}(hl:aS l)(hr:aS r):le l (if aP l r=true then r else l)/\le r (if aP l r=true then r else l)/\((if aP l r=true then r else l)=l\/(if aP l r=true then r else l)=r):=by
 by_cases h:aP l r=true
 .rw[if_pos h];exact⟨j9 h,le_refl _,.inr rfl⟩
 .rw[if_neg h];exact⟨le_refl _,by unfold le;simpa using h,.inl rfl⟩
theorem WK{l r:T3}(hl:aS l)(hr:aS r):le (if aP l r=true then l else r) l/\le (if aP l r=true then l else r) r/\((if aP l r=true then l else r)=l\/(if aP l r=true then l else r)=r):=by
 by_cases h:aP l r=true
 .rw[if_pos h];exact⟨le_refl _,j9 h,.inl rfl⟩
 .rw[if_neg h];exact⟨by unfold le;simpa using h,le_refl _,.inr rfl⟩
theorem lJ(a b:T3):((fw a b).1=a\/(fw a b).1=b)/\((fw a b).2=a\/(fw a b).2=b):=by
 unfold fw;split
 .exact⟨.inl rfl,.inr rfl⟩
 .exact⟨.inr rfl,.inl rfl⟩
def Told(a b c d p:T3):Prop:=aS p/\cF p a b=true/\cF p c d=true
theorem IW(ha:aS a)(hb:aS b)(hc:aS c)(hd:aS d)(h1:a≠b)(h2:c≠d)(g1:aG a b c=0)(g2:aG a b d=0):
  (∀p,i3 (fw a b) (fw c d)= .fA p->Told a b c d p)/\(∀p q,i3 (fw a b) (fw c d)= .dW p q->Told a b c d p/\Told a b c d q):=by
 obtain⟨g3,g4⟩:=qx ha.pos hb.pos (xt ha hb h1) g1 g2;obtain⟨l1,l2⟩:=gk ha hb;obtain⟨r1,r2⟩:=gk hc hd;obtain⟨m1,m2,m3⟩:=WJ l1 r1;obtain⟨n1,n2,n3⟩:=WK l2 r2;obtain⟨f1,f2⟩:=lJ a b;obtain⟨e1,e2⟩:=lJ c d;have rowOf:∀p,(p=a\/p=b)\/(p=c\/p=d)->aG a b p=0/\aG c d p=0/\aS p:=by
  rintro p ((rfl|rfl)|(rfl|rfl))
  .exact⟨vh _ _,g3,ha⟩
  .exact⟨vi _ _,g4,hb⟩
  .exact⟨g1,vh _ _,hc⟩
  .exact⟨g2,vi _ _,hd⟩
 unfold i3;dsimp only
 generalize (if aP (fw a b).1 (fw c d).1=true then(fw c d).1 else(fw a b).1)=P at*;generalize (if aP (fw a b).2 (fw c d).2=true then(fw a b).2 else(fw c d).2)=Q at*;have rp:=rowOf P (by rcases m3 with z|z<;>rw[z];exact .inl f1;exact .inr e1);have rq:=rowOf Q (by rcases n3 with z|z<;>rw[z];exact .inl f2;exact .inr e2);have key:le P Q->Told a b c d P/\Told a b c d Q:=λh=>by
  refine⟨⟨rp.2.2,(dw rp.1).mpr ⟨m1,le_trans rp.2.2 rq.2.2 l2 h n1⟩,(dw rp.2.1).mpr ⟨m2,le_trans rp.2.2 rq.2.2 r2 h n2⟩⟩,⟨rq.2.2,(dw rq.1).mpr ⟨le_trans l1 rp.2.2 rq.2.2 m1 h,n1⟩,(dw rq.2.1).mpr ⟨le_trans r1 rp.2.2 rq.2.2 m2 h,n2⟩⟩⟩
 refine⟨λp hp=>?_,λp q hp=>?_⟩
 .split at hp
  .rename_i h
   cases hp;exact(key (by rw[h];exact le_refl _)).1
  .split at hp<;>cases hp
 .split at hp
  .cases hp
  .split at hp
   .rename_i h
    cases hp;exact key (j9 h)
   .cases hp
theorem L7(ha:aS a)(hb:aS b)(hc:aS c)(hd:aS d)(h1:a≠b)(h2:c≠d):
  (∀p,cm a b c d= .fA p->Told a b c d p)/\(∀p q,cm a b c d= .dW p q->Told a b c d p/\Told a b c d q):=by
 unfold cm
 by_cases g:sgn (aG a b c)=0/\sgn (aG a b d)=0
 .rw[if_pos g]
  exact IW ha hb hc hd h1 h2 (j7 g.1) (j7 g.2)
 .rw[if_neg g]
  by_cases k: 0<sgn (aG a b c)*sgn (aG a b d)\/0<sgn (aG c d a)*sgn (aG c d b)
  .rw[if_pos k]
   exact⟨λp h=>(by cases h),λp q h=>(by cases h)⟩
  .rw[if_neg k]
   have nz:=mT hc.pos hd.pos g (λz=>k (.inl z));refine⟨λp h=>?_,λp q h=>by cases h⟩;cases h;refine⟨mG nz,Ap ha.pos hb.pos nz (λz=>k (.inr ((fI _ _).mpr z))),?_⟩;obtain⟨e1,e2,e3⟩:=D7 a b c d;have:=Ap (a:=c) (b:=d) (c:=a) (d:=b) hc.pos hd.pos (by rw[e3];omega) (λz=>k (.inl ((fI _ _).mpr z)));rw[e1,e2,e3,D8 nz]at this;exact this
def qM(u v:P2):Bool:=if u.1=v.1 then(if u.2=v.2 then false else decide (u.2 > v.2))else decide (u.1 > v.1)
def gB(u v:P2):P2×P2:=if qM u v=true then(v,u)else(u,v)
def Aq(l r:P2×P2)(W:Int):B6:=
 let lo:=if qM r.1 l.1=true then r.1 else l.1
 let hi:=if qM l.2 r.2=true then r.2 else l.2
 if qM lo hi=true then .none else if lo=hi then .fA (spT lo.1 lo.2 W)else .dW (spT lo.1 lo.2 W) (spT hi.1 hi.2 W)
def sc(k:Int)(p:T3):P2:=(p.1*k,p.2.1*k)
theorem L8{p s e:Int}(hp: 0<p)(h:p*s=e):(e<0↔s<0)/\(e=0↔s=0):=by
 have:=fH hp h;rcases g_ s with x|x|x
 .have:=this.1 x;omega
 .have:=this.2.1 x;omega
 .have:=this.2.2 x;omega
variable{W k:Int}
theorem B7{j x y m n:Int}(hW: 0<W)(hm: 0<m)(hn: 0<n)(e1:k*m=W)(e2:j*n=W):(x*k<y*j↔x*n<y*m)/\(x*k=y*j↔x*n=y*m):=by
 have mn:=abc hm hn;have z1:m*n*(x*k - y*j)=W*(x*n - y*m):=by
  have:m*n*(x*k - y*j)=(k*m)*(x*n) - (j*n)*(y*m):=by grind
  rw[this,e1,e2];grind
 have s1:=L8 (s:=x*k - y*j) mn z1;have s2:=L8 (s:=x*n - y*m) hW rfl;have u1:=s1.1.symm.trans s2.1;have u2:=s1.2.symm.trans s2.2;clear s1 s2 z1 mn e1 e2;omega
theorem xu{j:Int}(hW: 0<W)(hp: 0<p.2.2)(hq: 0<q.2.2)(e1:k*p.2.2=W)(e2:j*q.2.2=W):qM (sc k p) (sc j q)=aP q p:=by
 have a1:=B7 (x:=q.1) (y:=p.1) hW hq hp e2 e1;have a2:=B7 (x:=q.2.1) (y:=p.2.1) hW hq hp e2 e1;have:qM (sc k p) (sc j q)=true↔aP q p=true:=by
  rw[jE,<-a1.1,<-a1.2,<-a2.1];unfold qM sc;dsimp only
  clear a1 a2 e1 e2 hW hp hq;generalize p.1*k=P;generalize q.1*j=Q;generalize p.2.1*k=R;generalize q.2.1*j=S
  by_cases h1:P=Q
  .rw[if_pos h1]
   by_cases h2:R=S
   .rw[if_pos h2]
    simp only[aav,false_iff];omega
   .rw[if_neg h2,decide_eq_true_eq];omega
  .rw[if_neg h1,decide_eq_true_eq];omega
 cases g1:qM (sc k p) (sc j q)<;>cases g2:aP q p<;>simp_all
theorem Tv{j:Int}(hW: 0<W)(hp:aS p)(hq:aS q)(e1:k*p.2.2=W)(e2:j*q.2.2=W):sc k p=sc j q↔p=q:=by
 constructor
 .intro h
  have h1:p.1*k=q.1*j:=congrArg aiZ h;have h2:p.2.1*k=q.2.1*j:=congrArg Prod.snd h;have a1:=(B7 (x:=p.1) (y:=q.1) hW hp.pos hq.pos e1 e2).2.mp h1;have a2:=(B7 (x:=p.2.1) (y:=q.2.1) hW hp.pos hq.pos e1 e2).2.mp h2;obtain⟨z1,z2,z3⟩:=lH hp hq a1 a2;exact aia z1 (aia z2 z3)
 .intro h
  subst h;have:k=j:=ab4 (by have:=hp.pos;omega) (e1.trans e2.symm);rw[this]
theorem mU(hW: 0<W)(hp:aS p)(e1:k*p.2.2=W):spT (sc k p).1 (sc k p).2 W=p:=by
 unfold sc spT;dsimp only
 have pp:=hp.pos;obtain⟨z1,z2,z3⟩:=oV (x:=p.1*k) (y:=p.2.1*k) (w:=W) (x':=p.1) (y':=p.2.1) (w':=p.2.2) (by omega) (by omega) (by rw[<-e1];grind) (by rw[<-e1];grind);obtain⟨y1,y2,y3⟩:=x9 hp;rw[z1,z2,z3,y1,y2,y3]
theorem L9{f:T3->Int}{l r:T3×T3}(hW: 0<W)(l1:aS l.1)(l2:aS l.2)(r1:aS r.1)(r2:aS r.2)(WL:f l.1*l.1.2.2=W)(WM:f l.2*l.2.2.2=W)(WN:f r.1*r.1.2.2=W)(WO:f r.2*r.2.2.2=W):
  Aq (sc (f l.1) l.1,sc (f l.2) l.2) (sc (f r.1) r.1,sc (f r.2) r.2) W=i3 l r:=by
 unfold Aq i3;dsimp only
 rw[xu hW r1.pos l1.pos WN WL,xu hW l2.pos r2.pos WM WO];have e1:(if aP l.1 r.1=true then sc (f r.1) r.1 else sc (f l.1) l.1)=sc (f (if aP l.1 r.1=true then r.1 else l.1)) (if aP l.1 r.1=true then r.1 else l.1):=by split<;>rfl
 have e2:(if aP r.2 l.2=true then sc (f r.2) r.2 else sc (f l.2) l.2)=sc (f (if aP l.2 r.2=true then l.2 else r.2)) (if aP l.2 r.2=true then l.2 else r.2):=by
  rcases iF l2 r2 with h|h|h
  .rw[if_pos h,if_neg (by rw[cf h];decide)]
  .rw[h];split<;>rfl
  .rw[if_pos h,if_neg (by rw[cf h];decide)]
 rw[e1,e2];have q1:aS (if aP l.1 r.1=true then r.1 else l.1)/\f (if aP l.1 r.1=true then r.1 else l.1)*(if aP l.1 r.1=true then r.1 else l.1).2.2=W:=by
  split
  .exact⟨r1,WN⟩
  .exact⟨l1,WL⟩
 have q2:aS (if aP l.2 r.2=true then l.2 else r.2)/\f (if aP l.2 r.2=true then l.2 else r.2)*(if aP l.2 r.2=true then l.2 else r.2).2.2=W:=by
  split
  .exact⟨l2,WM⟩
  .exact⟨r2,WO⟩
 generalize (if aP l.1 r.1=true then r.1 else l.1)=P at*;generalize (if aP l.2 r.2=true then l.2 else r.2)=Q at*;rw[xu hW q1.1.pos q2.1.pos q1.2 q2.2,mU hW q1.1 q1.2,mU hW q2.1 q2.2];have es:=Tv hW q1.1 q2.1 q1.2 q2.2
 by_cases h:P=Q
 .rw[if_pos h,if_pos (es.mpr h),if_neg (by rw[h,yB];decide)]
 .rw[if_neg h,if_neg (λz=>h (es.mp z))]
  rcases iF q1.1 q2.1 with g|g|g
  .rw[if_pos g,if_neg (by rw[cf g];decide)]
  .exact absurd g h
  .rw[if_pos g,if_neg (by rw[cf g];decide)]
def wN(a b c d:T3):Int:=a.2.2*b.2.2*c.2.2*d.2.2
def cI(W:Int)(p:T3):P2:=sc (W / p.2.2) p
def aW(u v:P2):P2:=(u.1 - v.1,u.2 - v.2)
def gv(a b c d:T3):Int:=mR (aW (cI (wN a b c d) b) (cI (wN a b c d) a)) (aW (cI (wN a b c d) d) (cI (wN a b c d) c))
def yF(a b c d:T3):Int:=mR (aW (cI (wN a b c d) c) (cI (wN a b c d) a)) (aW (cI (wN a b c d) d) (cI (wN a b c d) c))
def wY(a b c d:T3):Int:=mR (aW (cI (wN a b c d) c) (cI (wN a b c d) a)) (aW (cI (wN a b c d) b) (cI (wN a b c d) a))
def ij(t x:Int):Int:=if t<0 then 0 - x else x
def share(a b c d:T3):B6:=
 if gv a b c d=0/\wY a b c d=0 then Aq (gB (cI (wN a b c d) a) (cI (wN a b c d) b)) (gB (cI (wN a b c d) c) (cI (wN a b c d) d)) (wN a b c d)
 else if ij (gv a b c d) (gv a b c d)=0\/¬(0<=ij (gv a b c d) (yF a b c d)/\ij (gv a b c d) (yF a b c d)<=ij (gv a b c d) (gv a b c d))\/¬(0<=ij (gv a b c d) (wY a b c d)/\ij (gv a b c d) (wY a b c d)<=ij (gv a b c d) (gv a b c d))then .none
 else .fA (spT ((cI (wN a b c d) a).1*ij (gv a b c d) (gv a b c d)+(aW (cI (wN a b c d) b) (cI (wN a b c d) a)).1*ij (gv a b c d) (yF a b c d)) ((cI (wN a b c d) a).2*ij (gv a b c d) (gv a b c d)+(aW (cI (wN a b c d) b) (cI (wN a b c d) a)).2*ij (gv a b c d) (yF a b c d)) (wN a b c d*ij (gv a b c d) (gv a b c d)))
theorem G7(hW: 0<W)(ha:aS a)(hb:aS b)(h:a≠b)(e1:(W / a.2.2)*a.2.2=W)(e2:(W / b.2.2)*b.2.2=W):gB (cI W a) (cI W b)=(cI W (fw a b).1,cI W (fw a b).2):=by
 unfold gB cI;rw[xu hW ha.pos hb.pos e1 e2];unfold fw;rcases iF ha hb with g|g|g
 .rw[if_pos g,if_neg (by rw[cf g];decide)]
 .exact absurd g h
 .rw[if_pos g,if_neg (by rw[cf g];decide)]
theorem FV{p s e:Int}(hp: 0<p)(h:p*s=e):(0<=e↔0<=s)/\(e<=0↔s<=0):=by
 have:=fH hp h;rcases g_ s with x|x|x
 .have:=this.1 x;omega
 .have:=this.2.1 x;omega
 .have:=this.2.2 x;omega
theorem L_{p s e:Int}(hp: 0<p)(h: -(p*s)=e):(0<=e↔s<=0)/\(e<=0↔0<=s):=by
 have:=FV (s:=s) hp rfl;omega
theorem WQ{a b c d:Prop}(h:(a/\b)\/(c/\d)):(b/\a)\/(d/\c):=h.imp And.symm And.symm
theorem Zw{m t h P Q R S:Int}(z: 0<m)(sP:(0<=t↔P<=0)/\(t<=0↔0<=P))(sQ:(0<=m - t↔0<=Q)/\(m - t<=0↔Q<=0))(sR:(0<=h↔0<=R)/\(h<=0↔R<=0))(sS:(0<=m - h↔S<=0)/\(m - h<=0↔0<=S))(l:¬((0<P/\0<Q)\/(P<0/\Q<0))->P<=0/\0<=Q)(r:¬((0<R/\0<S)\/(R<0/\S<0))->0<=R/\S<=0):(m=0\/¬(0<=h/\h<=m)\/¬(0<=t/\t<=m))↔(((0<P/\0<Q)\/(P<0/\Q<0))\/((0<R/\0<S)\/(R<0/\S<0))):=by
 have e1:(0<=t/\t<=m)↔(P<=0/\0<=Q):=by rw[<-sP.1,<-sQ.1];clear l r sP sQ sR sS;omega
 have e2:(0<=h/\h<=m)↔(0<=R/\S<=0):=by rw[<-sR.1,<-sS.1];clear l r sP sQ sR sS e1;omega
 rw[e1,e2];clear e1 e2 sP sQ sR sS;constructor
 .rintro(x|x|x)
  .omega
  .exact .inr (ac8 λk=>x (r k))
  .exact .inl (ac8 λk=>x (l k))
 .clear l r
  rintro((x|x)|(x|x))<;>omega
theorem WR{m t h P Q R S:Int}(z:m<0)(sP:(0<=t↔P<=0)/\(t<=0↔0<=P))(sQ:(0<=m - t↔0<=Q)/\(m - t<=0↔Q<=0))(sR:(0<=h↔0<=R)/\(h<=0↔R<=0))(sS:(0<=m - h↔S<=0)/\(m - h<=0↔0<=S))(l:¬((0<P/\0<Q)\/(P<0/\Q<0))->0<=P/\Q<=0)(r:¬((0<R/\0<S)\/(R<0/\S<0))->R<=0/\0<=S):(0 - m=0\/¬(0<=0 - h/\0 - h<=0 - m)\/¬(0<=0 - t/\0 - t<=0 - m))↔(((0<P/\0<Q)\/(P<0/\Q<0))\/((0<R/\0<S)\/(R<0/\S<0))):=by
 have e1:(0<=0 - t/\0 - t<=0 - m)↔(0<=P/\Q<=0):=by rw[<-sP.2,<-sQ.2];clear l r sP sQ sR sS;omega
 have e2:(0<=0 - h/\0 - h<=0 - m)↔(R<=0/\0<=S):=by rw[<-sR.2,<-sS.2];clear l r sP sQ sR sS e1;omega
 rw[e1,e2];clear e1 e2 sP sQ sR sS;constructor
 .rintro(x|x|x)
  .omega
  .exact .inr (ac8 λk=>x (r k))
  .exact .inl (ac8 λk=>x (l k))
 .clear l r
  rintro((x|x)|(x|x))<;>omega
theorem vj(ha:aS a)(hb:aS b)(hc:aS c)(hd:aS d)(h1:a≠b)(h2:c≠d):share a b c d=cm a b c d:=by
 have pa:=ha.pos;have pb:=hb.pos;have pc:=hc.pos;have pd:=hd.pos;have hW: 0<wN a b c d:=abc (abc (abc pa pb) pc) pd;have da:wN a b c d / a.2.2=b.2.2*c.2.2*d.2.2:=acK (by omega) (by unfold wN;grind);have db:wN a b c d / b.2.2=a.2.2*c.2.2*d.2.2:=acK (by omega) (by unfold wN;grind);have dc:wN a b c d / c.2.2=a.2.2*b.2.2*d.2.2:=acK (by omega) (by unfold wN;grind);have dd:wN a b c d / d.2.2=a.2.2*b.2.2*c.2.2:=acK (by omega) (by unfold wN;grind);have fa:wN a b c d / a.2.2*a.2.2=wN a b c d:=by rw[da];unfold wN;grind
 have fb:wN a b c d / b.2.2*b.2.2=wN a b c d:=by rw[db];unfold wN;grind
 have fc:wN a b c d / c.2.2*c.2.2=wN a b c d:=by rw[dc];unfold wN;grind
 have fd:wN a b c d / d.2.2*d.2.2=wN a b c d:=by rw[dd];unfold wN;grind
 have ew:gv a b c d=wN a b c d*mW a b c d:=by
  unfold gv aW cI sc;rw[da,db,dc,dd];exact Ie ..
 have et:wY a b c d= - ((wN a b c d*d.2.2)*aG a b c):=by
  have: -(wY a b c d)=(wN a b c d*d.2.2)*aG a b c:=by
   unfold wY aW cI sc;rw[da,db,dc];exact Su ..
  omega
 have em:yF a b c d=(wN a b c d*b.2.2)*aG c d a:=by
  unfold yF aW cI sc;rw[da,dc,dd];exact Sv ..
 have ex:(cI (wN a b c d) a).1*(wN a b c d*mW a b c d)+(aW (cI (wN a b c d) b) (cI (wN a b c d) a)).1*((wN a b c d*b.2.2)*aG c d a)=wN a b c d*wN a b c d*mX a b c d:=by
  unfold aW cI sc;rw[da,db];exact Bu ..
 have ey:(cI (wN a b c d) a).2*(wN a b c d*mW a b c d)+(aW (cI (wN a b c d) b) (cI (wN a b c d) a)).2*((wN a b c d*b.2.2)*aG c d a)=wN a b c d*wN a b c d*mY a b c d:=by
  unfold aW cI sc;rw[da,db];exact Bv ..
 have q1:=tQ a b c d;have q2:=bQ a b c d;have wd:=abc hW pd;have wb:=abc hW pb;have Q_:(gv a b c d=0/\wY a b c d=0)↔(sgn (aG a b c)=0/\sgn (aG a b d)=0):=by
  rw[dG,dG,ew,et];have s1:=fH (s:=mW a b c d) hW rfl;have s2:=fH (s:=aG a b c) wd rfl;constructor
  .intro⟨x1,x2⟩
   have y1:mW a b c d=0:=by omega
   have y2:aG a b c=0:=by omega
   refine⟨y2,?_⟩;rw[y1,y2]at q1;have:c.2.2*aG a b d=0:=by omega
   exact(aci.mp this).resolve_left (by omega)
  .intro⟨x1,x2⟩
   rw[x1,x2]at q1;have y1:mW a b c d=0:=by omega
   exact⟨s1.2.1 y1,by rw[s2.2.1 x1];rfl⟩
 unfold share cm
 by_cases g:sgn (aG a b c)=0/\sgn (aG a b d)=0
 .rw[if_pos g,if_pos (Q_.mpr g),G7 hW ha hb h1 fa fb,G7 hW hc hd h2 fc fd]
  have m1:=gk ha hb;have m2:=gk hc hd;have z:∀p,(p=a\/p=b)\/(p=c\/p=d)->wN a b c d / p.2.2*p.2.2=wN a b c d:=by
   rintro p ((rfl|rfl)|(rfl|rfl))<;>assumption
  exact L9 (f:=λp=>wN a b c d / p.2.2) hW m1.1 m1.2 m2.1 m2.2 (z _ (.inl (lJ a b).1)) (z _ (.inl (lJ a b).2)) (z _ (.inr (lJ c d).1)) (z _ (.inr (lJ c d).2))
 .rw[if_neg g,if_neg (λx=>g (Q_.mp x))]
  rw[dG,dG]at g
  -- xN three,over signs
  have w1:gv a b c d - wY a b c d=(wN a b c d*c.2.2)*aG a b d:=by
   rw[ew,et,<-q1];grind
  have w2:gv a b c d - yF a b c d= - ((wN a b c d*a.2.2)*aG c d b):=by
   rw[ew,em,<-q2];grind
  have sM:=fH (s:=mW a b c d) hW ew.symm;have lp:=yE pc pd q1;have lq:=yE (P:=aG c d b) (Q:=aG c d a) pb pa q2;have cond:(ij (gv a b c d) (gv a b c d)=0\/¬(0<=ij (gv a b c d) (yF a b c d)/\ij (gv a b c d) (yF a b c d)<=ij (gv a b c d) (gv a b c d))\/¬(0<=ij (gv a b c d) (wY a b c d)/\ij (gv a b c d) (wY a b c d)<=ij (gv a b c d) (gv a b c d)))↔(0<sgn (aG a b c)*sgn (aG a b d)\/0<sgn (aG c d a)*sgn (aG c d b)):=by
   rw[fI,fI];have sP:=L_ (s:=aG a b c) wd et.symm;have sQ:=FV (s:=aG a b d) (abc hW pc) w1.symm;have sR:=FV (s:=aG c d a) wb em.symm;have sS:=L_ (s:=aG c d b) (abc hW pa) w2.symm;unfold ij;rcases g_ (mW a b c d)with hM|hM|hM
   .have sJ:=sM.1 hM
    rw[if_neg (aeF.mpr (aa8 sJ)),if_neg (aeF.mpr (aa8 sJ)),if_neg (aeF.mpr (aa8 sJ))];exact Zw sJ sP sQ sR sS (lp.2.1 hM) (λk=>(lq.2.1 hM (λj=>k (WQ j))).symm)
   .have sJ:=sM.2.1 hM
    rw[sJ];refine⟨λ_=>?_,λ_=>.inl rfl⟩;rcases aeV ((0<aG a b c/\0<aG a b d)\/(aG a b c<0/\aG a b d<0))with k|k
    .exact .inl k
    .exact absurd (lp.1 hM k) g
   .have sJ:=sM.2.2 hM
    rw[if_pos sJ,if_pos sJ,if_pos sJ];exact WR sJ sP sQ sR sS (lp.2.2 hM) (λk=>(lq.2.2 hM (λj=>k (WQ j))).symm)
  by_cases k: 0<sgn (aG a b c)*sgn (aG a b d)\/0<sgn (aG c d a)*sgn (aG c d b)
  .rw[if_pos k,if_pos (cond.mpr k)]
  .rw[if_neg k,if_neg (λx=>k (cond.mp x))]
   have nz:=mT pc pd (by rw[dG,dG];exact g) (λz=>k (.inl z))
   congr 1
   have hWW:=abc hW hW;rw[em,ew];unfold ij spT
   by_cases G8:wN a b c d*mW a b c d<0
   .rw[if_pos G8,if_pos G8]
    have t1:(cI (wN a b c d) a).1*(0 - wN a b c d*mW a b c d)+(aW (cI (wN a b c d) b) (cI (wN a b c d) a)).1*(0 - wN a b c d*b.2.2*aG c d a)= - (wN a b c d*wN a b c d*mX a b c d):=by rw[<-ex];grind
    have t2:(cI (wN a b c d) a).2*(0 - wN a b c d*mW a b c d)+(aW (cI (wN a b c d) b) (cI (wN a b c d) a)).2*(0 - wN a b c d*b.2.2*aG c d a)= - (wN a b c d*wN a b c d*mY a b c d):=by rw[<-ey];grind
    have t3:wN a b c d*(0 - wN a b c d*mW a b c d)= - (wN a b c d*wN a b c d*mW a b c d):=by grind
    rw[t1,t2,t3];have Tw: -(wN a b c d*wN a b c d*mW a b c d)≠0:=by
     have:=afm (show wN a b c d*wN a b c d≠0 by omega) nz;omega
    obtain⟨y1,y2,y3⟩:=oV (x:=-(wN a b c d*wN a b c d*mX a b c d)) (y:=-(wN a b c d*wN a b c d*mY a b c d)) (x':=mX a b c d) (y':=mY a b c d) Tw nz (by grind) (by grind);rw[y1,y2,y3]
   .rw[if_neg G8,if_neg G8,ex,ey]
    have t3:wN a b c d*(wN a b c d*mW a b c d)=wN a b c d*wN a b c d*mW a b c d:=by grind
    rw[t3];have Tw:=afm (show wN a b c d*wN a b c d≠0 by omega) nz;obtain⟨y1,y2,y3⟩:=oV (x:=wN a b c d*wN a b c d*mX a b c d) (y:=wN a b c d*wN a b c d*mY a b c d) (x':=mX a b c d) (y':=mY a b c d) Tw nz (by grind) (by grind);rw[y1,y2,y3]
end My
set_option maxHeartbeats 2000000
namespace My
theorem D9{a b c d e:T3}(fm:(di a b).1≠0\/(di a b).2≠0)(h1:aG a b c=0)(h2:aG a b d=0)(h3:aG a b e=0):aG c d e=0:=by
 have z1:aG c d e*(di a b).1=aG a b c*(d.2.2*e.1 - d.1*e.2.2)+aG a b d*(e.2.2*c.1 - e.1*c.2.2)+aG a b e*(c.2.2*d.1 - c.1*d.2.2):=by
  unfold aG det di;dsimp only;grind
 have z2:aG c d e*(di a b).2=aG a b c*(d.2.2*e.2.1 - d.2.1*e.2.2)+aG a b d*(e.2.2*c.2.1 - e.2.1*c.2.2)+aG a b e*(c.2.2*d.2.1 - c.2.1*d.2.2):=by
  unfold aG det di;dsimp only;grind
 rw[h1,h2,h3]at z1 z2;rcases fm with g|g
 .exact(aci.mp (show aG c d e*(di a b).1=0 by omega)).resolve_right g
 .exact(aci.mp (show aG c d e*(di a b).2=0 by omega)).resolve_right g
theorem Py{u1 u2 v1 v2 w1 w2:Int}(h0:v1*w2 - v2*w1=0)(h1:v1*w1<=0)(h2:v2*w2<=0):(u1*v2 - u2*v1)*(u1*w2 - u2*w1)<=0:=by
 have hk:v1*w2=v2*w1:=by omega
 have e:(u1*v2 - u2*v1)*(u1*w2 - u2*w1)=u1*u1*(v2*w2)+u2*u2*(v1*w1) - 2*(u1*u2)*(v1*w2):=by grind
 have ek:(v1*w2)*(v1*w2)=(v1*w1)*(v2*w2):=by
  have:(v1*w2)*(v1*w2)=(v1*w2)*(v2*w1):=by rw[<-hk]
  rw[this];grind
 rw[e];generalize v1*w2=k at*;generalize v1*w1=A at*;generalize v2*w2=B at*;rcases Int.lt_or_eq_of_le h2 with hB|hB
 .have hs:B*(u1*u1*B+u2*u2*A - 2*(u1*u2)*k)=(u1*B - u2*k)*(u1*B - u2*k):=by
   have:(u1*B - u2*k)*(u1*B - u2*k)=u1*u1*B*B - 2*(u1*u2)*k*B+u2*u2*(k*k):=by grind
   rw[this,ek];grind
  have hq: 0<=(u1*B - u2*k)*(u1*B - u2*k):=by
   rcases Int.le_total 0 (u1*B - u2*k)with h|h
   .exact ag4 h h
   .exact acO h h
  rw[<-hs]at hq;rcases Int.lt_or_le 0 (u1*u1*B+u2*u2*A - 2*(u1*u2)*k)with h|h
  .have:=afG hB h
   omega
  .exact h
 .subst hB
  have Zx:k=0:=by
   have:k*k=0:=by rw[ek];omega
   rcases aci.mp this with h|h<;>exact h
  subst Zx;have: 0<=u2*u2:=by
   rcases Int.le_total 0 u2 with h|h
   .exact ag4 h h
   .exact acO h h
  have:=aec this h1;omega
theorem G9(c d r a:T3):r.2.2*aG c d a - a.2.2*aG c d r=mR (di c d) (di r a):=by
 unfold aG det mR di;dsimp only;grind
variable{r:T3}
theorem Ar{a b c d:T3}(ha: 0<a.2.2)(hb: 0<b.2.2)(hr: 0<r.2.2)(h:cF r a b=true)(h0:aG c d r=0):¬((0<aG c d a/\0<aG c d b)\/(aG c d a<0/\aG c d b<0)):=by
 unfold cF at h;rw[D5 hr ha hb,yD]at h;obtain⟨k0,k1,k2⟩:=h;have hle:=Py (u1:=(di c d).1) (u2:=(di c d).2) (show(di r a).1*(di r b).2 - (di r a).2*(di r b).1=0 from k0) k1 k2;have e1:=G9 c d r a;have e2:=G9 c d r b;rw[h0]at e1 e2;have Pz:r.2.2*aG c d a=mR (di c d) (di r a):=by omega
 have Dl:r.2.2*aG c d b=mR (di c d) (di r b):=by omega
 have abP:(r.2.2*aG c d a)*(r.2.2*aG c d b)<=0:=by rw[Pz,Dl];exact hle
 rintro(⟨p,q⟩|⟨p,q⟩)
 .have:=abc (abc hr p) (abc hr q)
  omega
 .have:=ac6 (ac7 hr p) (ac7 hr q)
  omega
def gC(s t:T3×T3):Prop:=aG s.1 s.2 t.1=0/\aG s.1 s.2 t.2=0
structure Sd(s:T3×T3):Prop where
 l1:aS s.1
 l2:aS s.2
 ne:s.1≠s.2
def On(p:T3)(s:T3×T3):Prop:=aS p/\cF p s.1 s.2=true
variable{p:T3}{s:T3×T3}
theorem On.dt(h:On p s):aG s.1 s.2 p=0:=by
 have:=h.2;unfold cF zH at this
 by_cases g:det s.1.1 s.1.2.1 s.1.2.2 s.2.1 s.2.2.1 s.2.2.2 p.1 p.2.1 p.2.2=0
 .exact g
 .rw[if_neg g]at this
  cases this
theorem Sd.di(h:Sd s):(di s.1 s.2).1≠0\/(My.di s.1 s.2).2≠0:=xt h.l1 h.l2 h.ne
theorem gC.symm{t:T3×T3}(hs:Sd s)(h:gC s t):gC t s:=qx hs.l1.pos hs.l2.pos hs.di h.1 h.2
theorem gC.trans{t u:T3×T3}(hs:Sd s)(ht:Sd t)(h:gC s t)(k:gC t u):gC s u:=by
 have h':=h.symm hs;exact⟨D9 ht.di h'.1 h'.2 k.1,D9 ht.di h'.1 h'.2 k.2⟩
def cV(s t:T3×T3):B6:=cm s.1 s.2 t.1 t.2
def cs:B6->List T3
 |.none=>[]
 |.fA p=>[p]
 |.dW p q=>[p,q]
theorem nZ{t:T3×T3}(hs:Sd s)(ht:Sd t)(h:p∈cs (cV s t)):On p s/\On p t:=by
 obtain⟨h1,h2⟩:=L7 hs.l1 hs.l2 ht.l1 ht.l2 hs.ne ht.ne;unfold cV at h;cases e:cm s.1 s.2 t.1 t.2 with
 |none=>rw[e]at h;cases h
 |fA q=>
  rw[e]at h;cases aak.mp h;obtain⟨l,a,b⟩:=h1 p e;exact⟨⟨l,a⟩,⟨l,b⟩⟩
 |dW q r=>
  rw[e]at h;obtain⟨⟨l,a,b⟩,⟨l',a',b'⟩⟩:=h2 q r e;rcases aaj.mp h with rfl|h
  .exact⟨⟨l,a⟩,⟨l,b⟩⟩
  .cases aak.mp h
   exact⟨⟨l',a'⟩,⟨l',b'⟩⟩
theorem xw{t:T3×T3}(hs:Sd s)(ht:Sd t):cV t s=cV s t:=L6 hs.l1 hs.l2 ht.l1 ht.l2 hs.ne ht.ne
theorem j_{t:T3×T3}(hs:Sd s)(ht:Sd t)(hn:¬gC s t)(h1:On r s)(h2:On r t):r∈cs (cV s t):=by
 have g:¬(sgn (aG s.1 s.2 t.1)=0/\sgn (aG s.1 s.2 t.2)=0):=λz=>hn ⟨j7 z.1,j7 z.2⟩
 have k1:=Ar ht.l1.pos ht.l2.pos h1.1.pos h2.2 h1.dt;have k2:=Ar hs.l1.pos hs.l2.pos h1.1.pos h1.2 h2.dt;have k:¬(0<sgn (aG s.1 s.2 t.1)*sgn (aG s.1 s.2 t.2)\/0<sgn (aG t.1 t.2 s.1)*sgn (aG t.1 t.2 s.2)):=by
  rw[fI,fI];rintro(z|z)
  .exact k1 z
  .exact k2 z
 have e:cV s t= .fA (spT (mX s.1 s.2 t.1 t.2) (mY s.1 s.2 t.1 t.2) (mW s.1 s.2 t.1 t.2)):=by
  unfold cV cm;rw[if_neg g,if_neg k]
 have ho:=nZ hs ht (p:=spT (mX s.1 s.2 t.1 t.2) (mY s.1 s.2 t.1 t.2) (mW s.1 s.2 t.1 t.2)) (by rw[e];exact adx _);rw[e];generalize spT (mX s.1 s.2 t.1 t.2) (mY s.1 s.2 t.1 t.2) (mW s.1 s.2 t.1 t.2)=q at*;obtain⟨o1,o2⟩:=ho;rcases aeV (r=q)with h|h
 .rw[h];exact adx _
 .exfalso
  have Zy:Sd (r,q):=⟨h1.1,o1.1,h⟩;have a1:gC s (r,q):=⟨h1.dt,o1.dt⟩;have a2:gC t (r,q):=⟨h2.dt,o2.dt⟩;exact hn (a1.trans hs Zy (a2.symm ht))
theorem mV(a b:T3)(h:r=a\/r=b):r=(fw a b).1\/r=(fw a b).2:=by
 unfold fw;split
 .exact h
 .exact h.symm
theorem ub{q:T3}(hp:aS p)(hq:aS q)(h1:le p q)(h2:le q p):p=q:=yC hp hq h2 h1
theorem Ma{P Q:T3}(hP:aS P)(hQ:aS Q)(h:le P Q):∀r,(r=P\/r=Q)->r∈cs (if P=Q then .fA P else if aP P Q=true then .dW P Q else .none):=by
 intro r hr
 by_cases e:P=Q
 .rw[if_pos e]
  subst e;rcases hr with rfl|rfl<;>exact adx _
 .rw[if_neg e]
  have:aP P Q=true:=by
   rcases iF hP hQ with g|g|g
   .exact g
   .exact absurd g e
   .unfold le at h;rw[h]at g;cases g
  rw[if_pos this];rcases hr with rfl|rfl
  .exact aao
  .exact aap _ (adx _)
theorem B8{t:T3×T3}(hs:Sd s)(ht:Sd t)(hc:gC s t)(h1:On r s)(h2:On r t)(he:r=s.1\/r=s.2\/r=t.1\/r=t.2):r∈cs (cV s t):=by
 have e:cV s t=i3 (fw s.1 s.2) (fw t.1 t.2):=by
  unfold cV cm;rw[if_pos ⟨dG.mpr hc.1,dG.mpr hc.2⟩]
 obtain⟨a1,a2⟩:=(dw h1.dt).mp h1.2;obtain⟨b1,b2⟩:=(dw h2.dt).mp h2.2;obtain⟨l1,l2⟩:=gk hs.l1 hs.l2;obtain⟨r1,r2⟩:=gk ht.l1 ht.l2;obtain⟨m1,m2,m3⟩:=WJ l1 r1;obtain⟨n1,n2,n3⟩:=WK l2 r2;have hr:(r=(fw s.1 s.2).1\/r=(fw s.1 s.2).2)\/(r=(fw t.1 t.2).1\/r=(fw t.1 t.2).2):=by
  rcases he with h|h|h|h
  .exact .inl (mV _ _ (.inl h))
  .exact .inl (mV _ _ (.inr h))
  .exact .inr (mV _ _ (.inl h))
  .exact .inr (mV _ _ (.inr h))
 rw[e];unfold i3;dsimp only
 generalize (if aP (fw s.1 s.2).1 (fw t.1 t.2).1=true then(fw t.1 t.2).1 else(fw s.1 s.2).1)=P at*;generalize (if aP (fw s.1 s.2).2 (fw t.1 t.2).2=true then(fw s.1 s.2).2 else(fw t.1 t.2).2)=Q at*;have hP:aS P:=by rcases m3 with h|h<;>rw[h]<;>assumption
 have hQ:aS Q:=by rcases n3 with h|h<;>rw[h]<;>assumption
 have pr:le P r:=by rcases m3 with h|h<;>rw[h]<;>assumption
 have rq:le r Q:=by rcases n3 with h|h<;>rw[h]<;>assumption
 refine Ma hP hQ (le_trans hP h1.1 hQ pr rq) r ?_;rcases hr with(h|h)|(h|h)
 .exact .inl (ub h1.1 hP (by rw[h];exact m1) pr)
 .exact .inr (ub h1.1 hQ rq (by rw[h];exact n1))
 .exact .inl (ub h1.1 hP (by rw[h];exact m2) pr)
 .exact .inr (ub h1.1 hQ rq (by rw[h];exact n2))
theorem pI{t:T3×T3}(hc:gC s t)(h:r∈cs (cV s t)):r=s.1\/r=s.2\/r=t.1\/r=t.2:=by
 have e:cV s t=i3 (fw s.1 s.2) (fw t.1 t.2):=by
  unfold cV cm;rw[if_pos ⟨dG.mpr hc.1,dG.mpr hc.2⟩]
 rw[e]at h;obtain⟨f1,f2⟩:=lJ s.1 s.2;obtain⟨g1,g2⟩:=lJ t.1 t.2;have hP:(λx=>x=s.1\/x=s.2\/x=t.1\/x=t.2) (if aP (fw s.1 s.2).1 (fw t.1 t.2).1=true then(fw t.1 t.2).1 else(fw s.1 s.2).1):=by
  dsimp only
  split
  .exact .inr (.inr g1)
  .rcases f1 with h|h
   .exact .inl h
   .exact .inr (.inl h)
 have hQ:(λx=>x=s.1\/x=s.2\/x=t.1\/x=t.2) (if aP (fw s.1 s.2).2 (fw t.1 t.2).2=true then(fw s.1 s.2).2 else(fw t.1 t.2).2):=by
  dsimp only
  split
  .rcases f2 with h|h
   .exact .inl h
   .exact .inr (.inl h)
  .exact .inr (.inr g2)
 unfold i3 at h;dsimp only at h;generalize (if aP (fw s.1 s.2).1 (fw t.1 t.2).1=true then(fw t.1 t.2).1 else(fw s.1 s.2).1)=P at*;generalize (if aP (fw s.1 s.2).2 (fw t.1 t.2).2=true then(fw s.1 s.2).2 else(fw t.1 t.2).2)=Q at*;split at h
 .cases aak.mp h
  exact hP
 .split at h
  .rcases aaj.mp h with rfl|h
   .exact hP
   .cases aak.mp h
    exact hQ
  .cases h
def jQ(S:List (T3×T3))(s:T3×T3)(p:T3):Prop:=p=s.1\/p=s.2\/∃t∈S,t≠s/\p∈cs (cV s t)
theorem B9(hs:Sd s)(h:p=s.1\/p=s.2):On p s:=by
 have l1:=(gk hs.l1 hs.l2).1;have l2:=(gk hs.l1 hs.l2).2;have hle:le (fw s.1 s.2).1 (fw s.1 s.2).2:=by
  unfold fw;split
  .rename_i h;exact j9 h
  .rename_i h;unfold le;simpa using h
 rcases h with rfl|rfl
 .refine⟨hs.l1,(dw (vh _ _)).mpr ?_⟩
  rcases mV s.1 s.2 (.inl rfl)with h|h
  .rw[<-h]at hle |-;exact⟨le_refl _,hle⟩
  .rw[<-h]at hle |-;exact⟨hle,le_refl _⟩
 .refine⟨hs.l2,(dw (vi _ _)).mpr ?_⟩
  rcases mV s.1 s.2 (.inr rfl)with h|h
  .rw[<-h]at hle |-;exact⟨le_refl _,hle⟩
  .rw[<-h]at hle |-;exact⟨hle,le_refl _⟩
variable{S:List (T3×T3)}
theorem jQ.on(hS:∀t∈S,Sd t)(hs:Sd s)(h:jQ S s p):On p s:=by
 rcases h with h|h|⟨t,ht,_,h⟩
 .exact B9 hs (.inl h)
 .exact B9 hs (.inr h)
 .exact(nZ hs (hS t ht) h).1
theorem jQ.move{t:T3×T3}(hS:∀t∈S,Sd t)(hs:s∈S)(ht:t∈S)(h:jQ S s p)(ho:On p t):jQ S t p:=by
 have ds:=hS s hs;have dt:=hS t ht;have hp:=h.on hS ds;rcases aeV (s=t)with e|ne
 .rw[<-e];exact h
 by_cases hc:gC s t
 .have cP:=hc.symm ds
  have xx:(p=s.1\/p=s.2)->jQ S t p:=λhe=>.inr (.inr ⟨s,hs,ne,B8 dt ds cP ho hp (by rcases he with h|h;exact .inr (.inr (.inl h));exact .inr (.inr (.inr h)))⟩)
  rcases h with h|h|⟨u,hu,un,h⟩
  .exact xx (.inl h)
  .exact xx (.inr h)
  .have du:=hS u hu
   have WS:=(nZ ds du h).2
   by_cases Tx:gC s u
   .rcases pI Tx h with h|h|h
    .exact xx (.inl h)
    .exact xx (.inr h)
    .rcases aeV (u=t)with e|ut
     .subst e
      rcases h with h|h
      .exact .inl h
      .exact .inr (.inl h)
     .exact .inr (.inr ⟨u,hu,ut,B8 dt du (cP.trans dt ds Tx) ho WS (.inr (.inr h))⟩)
   .have hn:¬gC t u:=λz=>Tx (hc.trans ds dt z)
    rcases aeV (u=t)with e|ut
    .subst e
     exact absurd ⟨vh _ _,vi _ _⟩ hn
    .exact .inr (.inr ⟨u,hu,ut,j_ dt du hn ho WS⟩)
 .exact .inr (.inr ⟨s,hs,ne,j_ dt ds (λz=>hc (z.symm dt)) ho hp⟩)
end My
namespace Qm
open PySem
section
variable{σ:Env}{c c':Cells}{d:D}{i j:Int}{b:Bool}{xs ys:List D}
@[simp] theorem TB:eC d σ c=ae (d,c):=rfl
@[simp] theorem TC{k:Nat}:eV k σ c=(σ[k]?.join).bind λd=>ae (d,c):=rfl
@[simp] theorem Zz{g:G1}{a:XE}:e1 g a σ c=(a σ c).bind λp=>g p.1 p.2:=rfl
@[simp] theorem TF{g:G2}{a b:XE}:e2 g a b σ c=(a σ c).bind λp=>(b σ p.2).bind λq=>g p.1 q.1 q.2:=rfl
@[simp] theorem WT:oJ (.bl b)=ae b:=rfl
@[simp] theorem WU:tL (.int i)=ae i:=rfl
@[simp] theorem TH{a b:XE}:oZ a b σ c=(a σ c).bind λp=>(oJ p.1).bind λk=>if k=true then b σ p.2 else ae (.bl false,p.2):=rfl
@[simp] theorem WV{a b:XE}:SI a b σ c=(a σ c).bind λp=>(oJ p.1).bind λk=>if k=true then ae (.bl true,p.2)else b σ p.2:=rfl
@[simp] theorem TJ{a:XE}:GD a σ c=(a σ c).bind λp=>(oJ p.1).bind λk=>ae (.bl (!k),p.2):=rfl
@[simp] theorem WW{t:XT}{a b:XE}:zK t a b σ c=(t σ c).bind λp=>if p.1=true then a σ p.2 else b σ p.2:=rfl
@[simp] theorem TK:ak σ c=ae ([],c):=rfl
@[simp] theorem PB{a:XE}{r:XA}:ag a r σ c=(a σ c).bind λp=>(r σ p.2).bind λq=>ae (p.1::q.1,q.2):=rfl
@[simp] theorem TL{a:XA}:cH a σ c=(a σ c).bind λp=>if p.1.length<=cC then ae (.tup p.1,p.2)else af:=rfl
@[simp] theorem TM{a:XA}:eI a σ c=(a σ c).bind λp=>if p.1.length<=cC then ae (.ref p.2.length,p.2++[.lst p.1])else af:=rfl
@[simp] theorem PD{F:FN}{ds:List D}{a:XA}:au F ds a σ c=(a σ c).bind λp=>F (p.1++ds) p.2:=rfl
@[simp] theorem ZA{F:FN}{a:XA}:eB F a σ c=(a σ c).bind λp=>F p.1 p.2:=rfl
@[simp] theorem ZC{g:D->FN}{o:XE}{a:XA}:eM g o a σ c=(o σ c).bind λp=>(bp p.1 p.2).bind λ_=>(a σ p.2).bind λq=>g p.1 q.1 q.2:=rfl
@[simp] theorem PF:jh σ c=ae (af,c):=rfl
@[simp] theorem WX{g}{a:XE}{lo hi:XO}:uX g a lo hi σ c=(a σ c).bind λp=>(lo σ p.2).bind λl=>(hi σ l.2).bind λh=>g p.1 l.1 h.1 h.2:=rfl
@[simp] theorem ZD{a:XE}:tV a σ c=(a σ c).bind λp=>(oJ p.1).bind λk=>ae (k,p.2):=rfl
@[simp] theorem TN{a b:XT}:jT a b σ c=(a σ c).bind λp=>if p.1=true then b σ p.2 else ae (false,p.2):=rfl
@[simp] theorem WY{a b:XT}:gc a b σ c=(a σ c).bind λp=>if p.1=true then ae (true,p.2)else b σ p.2:=rfl
@[simp] theorem TR{a:XT}:eG a σ c=(a σ c).bind λp=>ae (!p.1,p.2):=rfl
@[simp] theorem TU:eX σ c=ae (true,c):=rfl
@[simp] theorem Mb{g h:G2}{a b e:XE}:nM g h a b e σ c=(a σ c).bind λp=>(b σ p.2).bind λq=>(g p.1 q.1 q.2).bind λz=>(oJ z.1).bind λk=>if k=true then(e σ z.2).bind λu=>h q.1 u.1 u.2 else ae (.bl false,z.2):=rfl
@[simp] theorem TV:aT σ c=ae (.nx,σ,c):=rfl
@[simp] theorem Mc{k:Nat}{e:XE}:aB k e σ c=(e σ c).bind λp=>ae (.nx,σ.set k (ae p.1),p.2):=rfl
@[simp] theorem TX{e:XE}{g:XG}:mI e g σ c=(e σ c).bind λp=>(g p.1 σ p.2).bind λq=>ae (.nx,q.1,q.2):=rfl
@[simp] theorem TY{is:List Nat}{a:XA}:oA is a σ c=(a σ c).bind λp=>if p.1.length=is.length then ae (.nx,(is.zip p.1).foldl (λσ q=>σ.set q.1 (ae q.2)) σ,p.2)else af:=rfl
@[simp] theorem WZ{t:XT}{a b:XS}:bZ t a b σ c=(t σ c).bind λp=>if p.1=true then a σ p.2 else b σ p.2:=rfl
@[simp] theorem TZ{e:XE}:aK e σ c=(e σ c).bind λp=>ae (.rt p.1,σ,p.2):=rfl
@[simp] theorem PH{e:XE}:d_ e σ c=(e σ c).bind λp=>ae (.nx,σ,p.2):=rfl
@[simp] theorem uc{k:Nat}:ay k d σ c=ae (σ.set k (ae d),c):=rfl
@[simp] theorem T1:fP [] σ c=ae (σ,c):=rfl
@[simp] theorem PJ{g:XG}{r:wU}:bA g r (d::xs) σ c=(g d σ c).bind λp=>r xs p.1 p.2:=rfl
@[simp] theorem T2{n:Nat}{g:wU}:gy n g (.tup xs) σ c=if xs.length=n then g xs σ c else af:=rfl
def sq(b:XS)(p:Fl×Env×Cells):Option (Fl×Env×Cells):=match p.1 with
 |.nx=>b p.2.1 p.2.2
 |_=>ae p
@[simp] theorem B_{a b:XS}:aw a b σ c=(a σ c).bind (sq b):=rfl
@[simp] theorem Md{b:XS}:sq b (.nx,σ,c)=b σ c:=rfl
@[simp] theorem T4{b:XS}:sq b (.rt d,σ,c)=ae (.rt d,σ,c):=rfl
def fin(p:Fl×Env×Cells):Option (D×Cells):=match p.1 with
 |.rt d=>ae (d,p.2.2)
 |.nx=>ae (.aX,p.2.2)
 |_=>af
variable{n:Nat}
theorem gp{N:Nat}{b:XS}{ds:List D}:dQ n N b ds c=if ds.length=n then(b (ds.map ae++ab7 (N - n) af) c).bind fin else af:=rfl
@[simp] theorem PK:fin (.rt d,σ,c)=ae (d,c):=rfl
@[simp] theorem PL:fin (.nx,σ,c)=ae (.aX,c):=rfl
theorem IX{f:Int->Int->Option D}:ii f (.int i) (.int j) c=(f i j).bind λd=>ae (d,c):=rfl
@[simp] theorem Me:bG (.int i) (.int j) c=ae (.int (i - j),c):=rfl
@[simp] theorem Mf:bK (.int i) (.int j) c=ae (.int (i+j),c):=rfl
@[simp] theorem W0:sj (.int i) (.int j) c=ae (.bl (decide (i<j)),c):=rfl
@[simp] theorem W2:zL (.int i) (.int j) c=ae (.bl (decide (i<=j)),c):=rfl
@[simp] theorem W3:oK (.int i) (.int j) c=ae (.bl (decide (j<i)),c):=rfl
@[simp] theorem Ra:Il (.int i) (.int j) c=ae (.bl (decide (j<=i)),c):=rfl
@[simp] theorem T5:yc (.int i) c=ae (.int (-i),c):=rfl
theorem mulL(h:i.natAbs<2 ^ 64):MulOk i j:=aex (adA ⟨h⟩)
theorem mulR(h:j.natAbs<2 ^ 64):MulOk i j:=aex (aex ⟨h⟩)
theorem pJ(h:My.Bd 90000 i)(g:My.Bd 90000 j):MulOk i j:=adA ⟨h,g⟩
theorem D_(h:i.natAbs<2 ^ 64):My.Bd 64 i:=⟨h⟩
theorem bU(h:MulOk i j):aH (.int i) (.int j) c=ae (.int (i*j),c):=by unfold aH;rw[IX,if_pos h];rfl
theorem ud(h: 0<j)(hb:My.Bd 8900 j):ed (.int i) (.int j) c=ae (.int (i / j),c):=by
 unfold ed;rw[IX,if_pos ⟨by omega,hb⟩,acR i (aa8 h)];rfl
theorem Ca(h: 0<j):gY (.int i) (.int j) c=ae (.int (i % j),c):=by
 unfold gY;rw[IX,if_pos (by omega),Int.fmod_eq_emod_of_nonneg i (aa8 h)];rfl
@[simp] theorem As{k:Nat}:data c (k+1) (.int i)=ae (.int i):=by simp[data]
theorem Ea:nN (.int i) (.int j) c=ae (decide (i=j)):=by
 have:nN (.int i) (.int j) c=(data c 6 (.int i)).bind λd=>(data c 6 (.int j)).bind λe=>ae (@decide (d=e) (ady _)):=rfl
 rw[this,As,As];simp
@[simp] theorem Mg:eJ (.int i) (.int j) c=ae (.bl (decide (i=j)),c):=by unfold eJ;rw[Ea];rfl
@[simp] theorem Mh:iS (.int i) (.int j) c=ae (.bl (!decide (i=j)),c):=by unfold iS;rw[Ea];rfl
@[simp] theorem PM{k:Bool}:eJ (.bl b) (.bl k) c=ae (.bl (b==k),c):=rfl
@[simp] theorem PN{k:Bool}:iS (.bl b) (.bl k) c=ae (.bl (!(b==k)),c):=rfl
@[simp] theorem yG:cq (.tup xs) c=ae xs:=rfl
theorem aU(h:c[n]? =ae (.lst xs)):cq (.ref n) c=ae xs:=by simp[cq,h]
theorem vk(h:c[n]? =ae (.ro xs)):cq (.ref n) c=ae xs:=by simp[cq,h]
theorem aY(h:c[n]? =ae (.lst xs)):bp (.ref n) c=ae (n,xs):=by simp[bp,h]
theorem gD{x:D}:ar x (.int i) c=(cq x c).bind λxs=>(gu xs i).bind λd=>ae (d,c):=rfl
@[simp] theorem Mj:ar (.tup xs) (.int i) c=(gu xs i).bind λd=>ae (d,c):=rfl
@[simp] theorem T6{α:Type}{x:α}{xs:List α}:gu (x::xs) 0=ae x:=by simp[gu,tM]
@[simp] theorem T7{α:Type}{x y:α}{xs:List α}:gu (x::y::xs) 1=ae y:=by
 have h:(1:Int)<((x::y::xs).length:Int):=by simp only[aaU];omega
 unfold gu tM;rw[if_pos (by decide),if_pos h];rfl
@[simp] theorem T8{α:Type}{x y z:α}{xs:List α}:gu (x::y::z::xs) 2=ae z:=by
 have h:(2:Int)<((x::y::z::xs).length:Int):=by simp only[aaU];omega
 unfold gu tM;rw[if_pos (by decide),if_pos h];rfl
theorem Eb{α:Type}{xs:List α}{x:α}(h:xs[n]? =ae x):gu xs (n:Int)=ae x:=by
 have hl:n<xs.length:=(aae.mp h).1;unfold gu tM;rw[if_pos (by omega),if_pos (by omega)];simpa using h
theorem IY{α:Type}{xs:List α}{x:α}:gu (xs++[x]) (-1)=ae x:=by
 unfold gu tM;rw[if_neg (by decide),if_pos (by simp only[aaR,aaU,acg];omega)];have:((-1:Int)+((xs++[x]).length:Int)).toNat=xs.length:=by simp only[aaR,aaU,acg];omega
 rw[this];simp
@[simp] theorem T9:tN [.int i] c=ae (.int (if i<0 then -i else i),c):=rfl
@[simp] theorem Mk:yd [.bl b] c=ae (.int (if b then 1 else 0),c):=rfl
theorem vm{x:D}:bu [x] c=(cq x c).bind λxs=>ae (.int xs.length,c):=rfl
@[simp] theorem PQ:ye [.int i,.int j] c=ae (.int (if j > i then j else i),c):=rfl
@[simp] theorem PR:yf [.int i,.int j] c=ae (.int (if j<i then j else i),c):=rfl
theorem ik(h:n<=10000):n<=cC:=aa7 h (by rw[dF];decide)
@[simp] theorem Ml: 1<=cC:=ik (by decide)
@[simp] theorem T_: 2<=cC:=ik (by decide)
@[simp] theorem Ua: 3<=cC:=ik (by decide)
@[simp] theorem Ub: 4<=cC:=ik (by decide)
@[simp] theorem Uc: 5<=cC:=ik (by decide)
@[simp] theorem Ud: 6<=cC:=ik (by decide)
@[simp] theorem Ue: 7<=cC:=ik (by decide)
@[simp] theorem Ug: 8<=cC:=ik (by decide)
theorem G_{a:XA}(h:a σ c=ae ([.int i,.int j],c'))(h1:i.natAbs<2 ^ 61)(h2:j.natAbs<2 ^ 61):ki a σ c=ae (⟨cN i (j - i).toNat,[]⟩,c'):=by
 unfold ki;rw[h,aag];dsimp only
 rw[if_pos ⟨⟨by omega,by omega⟩,by omega,by omega⟩]
theorem gM{a:XA}(h:a σ c=ae ([.int j],c'))(h2:j.natAbs<2 ^ 61):bF a σ c=ae (⟨cN 0 j.toNat,[]⟩,c'):=by
 unfold bF;rw[h,aag];dsimp only
 rw[if_pos ⟨by omega,by omega⟩]
theorem ef:stays [] c:=λ_ h=>nomatch h
end
theorem cg{ks:List (Nat×Cell)}{g:XG}{body:XS}(P:Nat->Env->Cells->Prop):
  ∀(ds:List D) (k:Nat) (σ:Env) (c:Cells),(∀i σ c,P i σ c->stays ks c)->(∀i d σ c,ds[i]? =ae d->P (k+i) σ c->∃σ1 c1 zC c2,g d σ c=ae (σ1,c1)/\body σ1 c1=ae (.nx,zC,c2)/\P (k+i+1) zC c2)->
   P k σ c->∃σ' c',gf ks g body ds σ c=ae (.nx,σ',c')/\P (k+ds.length) σ' c'
 |[],k,σ,c,hs,_,h=>⟨σ,c,by unfold gf;rw[if_pos (hs k σ c h)],h⟩
 |d::ds,k,σ,c,hs,ht,h=>by
  obtain⟨σ1,c1,zC,c2,h1,h2,h3⟩:=ht 0 d σ c rfl h;obtain⟨σ',c',h4,h5⟩:=cg P ds (k+1) zC c2 hs (λi d' σ c hd hp=>by
   have:=ht (i+1) d' σ c (by simpa using hd) (by rw[show k+(i+1)=k+1+i by omega];exact hp);rwa[show k+(i+1)+1=k+1+i+1 by omega]at this) h3
  refine⟨σ',c',?_,by rw[show k+(d::ds).length=k+1+ds.length by simp only[aaU];omega];exact h5⟩;unfold gf;rw[if_pos (hs k σ c h),h1];simp only[aag,h2,h4]
end Qm
namespace dE
open PySem Qm
noncomputable section
def n_:XS:=(aw (eo (tV (e2 iS (eV 1) (eC (.int 0)))) (aw (aB 2 (e2 gY (eV 0) (eV 1)))
   (aw (aB 0 (eV 1))
   (aB 1 (eV 2)))))
   (aK (eB tN (ag (eV 0) ak))))
def kF:FN:=dQ 2 3 n_
def ue:XS:=(aw (aB 3 (au kF [] (ag (au kF [] (ag (eV 0) (ag (eV 2) ak))) (ag (eV 1) ak))))
   (aw (bZ (tV (e2 sj (eV 2) (eC (.int 0))))
   (aB 3 (e1 yc (eV 3)))
   aT)
   (aK (cH (ag (e2 ed (eV 0) (eV 3)) (ag (e2 ed (eV 1) (eV 3)) (ag (e2 ed (eV 2) (eV 3)) ak)))))))
def uf:FN:=dQ 3 4 ue
def lK:XS:=(aK (e2 sj (e2 aH (e2 ar (eV 0) (eC (.int 1))) (e2 ar (eV 1) (eC (.int 2)))) (e2 aH (e2 ar (eV 1) (eC (.int 1))) (e2 ar (eV 0) (eC (.int 2))))))
def lL:FN:=dQ 2 2 lK
def pK:XS:=(aw (aB 2 (e2 aH (e2 ar (eV 0) (eC (.int 0))) (e2 ar (eV 1) (eC (.int 2)))))
   (aw (aB 3 (e2 aH (e2 ar (eV 1) (eC (.int 0))) (e2 ar (eV 0) (eC (.int 2)))))
   (aw (bZ (tV (e2 eJ (eV 2) (eV 3)))
   (aK (au lL [] (ag (eV 0) (ag (eV 1) ak))))
   aT)
   (aK (e2 sj (eV 2) (eV 3))))))
def cK:FN:=dQ 2 4 pK
def kG:XS:=(aK (cH (ag (e2 bG (e2 aH (e2 ar (eV 0) (eC (.int 1))) (e2 ar (eV 1) (eC (.int 2)))) (e2 aH (e2 ar (eV 0) (eC (.int 2))) (e2 ar (eV 1) (eC (.int 1))))) (ag (e2 bG (e2 aH (e2 ar (eV 0) (eC (.int 2))) (e2 ar (eV 1) (eC (.int 0)))) (e2 aH (e2 ar (eV 0) (eC (.int 0))) (e2 ar (eV 1) (eC (.int 2))))) (ag (e2 bG (e2 aH (e2 ar (eV 0) (eC (.int 0))) (e2 ar (eV 1) (eC (.int 1)))) (e2 aH (e2 ar (eV 0) (eC (.int 1))) (e2 ar (eV 1) (eC (.int 0))))) ak)))))
def fK:FN:=dQ 2 2 kG
def qy:XS:=(aw (bZ (tV (e2 oK (eV 0) (eC (.int 0))))
   (aK (eC (.int 1)))
   aT)
   (aw (bZ (tV (e2 sj (eV 0) (eC (.int 0))))
   (aK (e1 yc (eC (.int 1))))
   aT)
   (aK (eC (.int 0)))))
def qz:FN:=dQ 1 1 qy
def xy:XS:=(aw (aB 3 (au fK [] (ag (eV 0) (ag (eV 1) ak))))
   (aK (au qz [] (ag (e2 bK (e2 bK (e2 aH (e2 ar (eV 3) (eC (.int 0))) (e2 ar (eV 2) (eC (.int 0)))) (e2 aH (e2 ar (eV 3) (eC (.int 1))) (e2 ar (eV 2) (eC (.int 1))))) (e2 aH (e2 ar (eV 3) (eC (.int 2))) (e2 ar (eV 2) (eC (.int 2))))) ak))))
def og:FN:=dQ 3 4 xy
def jm:XS:=(aw (cA (Ds (ag (eV 0) (ag (eV 1) ak))) (gy 2 (bA (ay 2) (bA (ay 3) fP)))
   (bZ (tV (e2 iS (eV 2) (eV 3)))
   (aK (au cK [] (ag (eV 2) (ag (eV 3) ak))))
   aT))
   (aK (eC (.bl false))))
def fZ:FN:=dQ 2 4 jm
def qA(gw gx:Nat):XS:=(aw (aB 3 (eI ak))
   (aw (aB 4 (eC (.int 0)))
   (aw (cA (iT (eV 1)) (ay 5)
   (aw (eo (jT (tV (e2 sj (eV 4) (eB bu (ag (eV 0) ak)))) (eG (tV (t4 [(gw,cK),(gx,fZ)] (eV 2) (ag (eV 5) (ag (e2 ar (eV 0) (eV 4)) ak)))))) (aw (d_ (eM dm (eV 3) (ag (e2 ar (eV 0) (eV 4)) ak)))
   (aB 4 (e2 bK (eV 4) (eC (.int 1))))))
   (d_ (eM dm (eV 3) (ag (eV 5) ak)))))
   (aw (d_ (eM fU (eV 3) (ag (uX ic (eV 0) (iR (eV 4)) jh) ak)))
   (aK (eV 3))))))
def mZ(gw gx:Nat):FN:=dQ 3 6 (qA gw gx)
def fW(gw gx:Nat):XS:=(aw (aB 2 (dh (BV (ag (eC (.int 0)) (ag (e2 bG (eB bu (ag (eV 0) ak)) (eC (.int 1))) (ag (eC (.int 2)) ak)))) [af,ae 1,ae 0] (ay 0) eX (au (mZ gw gx) [] (ag (e2 ar (eV 2) (eV 0)) (ag (e2 ar (eV 2) (e2 bK (eV 0) (eC (.int 1)))) (ag (eV 1) ak))))))
   (aw (bZ (tV (e2 eJ (e2 gY (eB bu (ag (eV 0) ak)) (eC (.int 2))) (eC (.int 1))))
   (d_ (eM dm (eV 2) (ag (e2 ar (eV 0) (e1 yc (eC (.int 1)))) ak)))
   aT)
   (aK (eV 2))))
def eE(gw gx:Nat):FN:=dQ 2 3 (fW gw gx)
def jF(gw gx:Nat):XS:=(aw (aB 2 (dh (iT (eV 0)) [af] (ay 0) eX (eI (ag (eV 0) ak))))
   (aw (eo (tV (e2 oK (eB bu (ag (eV 2) ak)) (eC (.int 1)))) (aB 2 (au (eE gw gx) [] (ag (eV 2) (ag (eV 1) ak)))))
   (aK (zK (tV (e2 eJ (eB bu (ag (eV 2) ak)) (eC (.int 1)))) (e2 ar (eV 2) (eC (.int 0))) (eI ak)))))
def eO(gw gx:Nat):FN:=dQ 2 3 (jF gw gx)
def kH:XS:=(aw (bZ (tV (au cK [] (ag (e2 ar (eV 0) (eC (.int 0))) (ag (e2 ar (eV 0) (eC (.int 1))) ak))))
   (aK (eV 0))
   aT)
   (aK (cH (ag (e2 ar (eV 0) (eC (.int 1))) (ag (e2 ar (eV 0) (eC (.int 0))) ak)))))
def dO:FN:=dQ 1 1 kH
def ji:XS:=(aw (bZ (tV (e2 iS (au og [] (ag (e2 ar (eV 1) (eC (.int 0))) (ag (e2 ar (eV 1) (eC (.int 1))) (ag (eV 0) ak)))) (eC (.int 0))))
   (aK (eC (.bl false)))
   aT)
   (aw (aB 2 (au dO [] (ag (eV 1) ak)))
   (aK (oZ (GD (au cK [] (ag (eV 0) (ag (e2 ar (eV 2) (eC (.int 0))) ak)))) (GD (au cK [] (ag (e2 ar (eV 2) (eC (.int 1))) (ag (eV 0) ak))))))))
def gE:FN:=dQ 2 3 ji
def lM:XS:=(aK (dh (kh (eV 1)) [af,ae 0] (ay 0) eX (au og [] (ag (e2 ar (eV 1) (eC (.int 0))) (ag (e2 ar (eV 1) (eC (.int 1))) (ag (eV 0) ak))))))
def jG:FN:=dQ 2 2 lM
def gN:XS:=(aw (aB 2 (au dO [] (ag (eV 0) ak)))
   (aw (aB 3 (au dO [] (ag (eV 1) ak)))
   (aw (aB 4 (zK (tV (au cK [] (ag (e2 ar (eV 2) (eC (.int 0))) (ag (e2 ar (eV 3) (eC (.int 0))) ak)))) (e2 ar (eV 3) (eC (.int 0))) (e2 ar (eV 2) (eC (.int 0)))))
   (aw (aB 5 (zK (tV (au cK [] (ag (e2 ar (eV 2) (eC (.int 1))) (ag (e2 ar (eV 3) (eC (.int 1))) ak)))) (e2 ar (eV 2) (eC (.int 1))) (e2 ar (eV 3) (eC (.int 1)))))
   (aw (bZ (tV (e2 eJ (eV 4) (eV 5)))
   (aK (cH (ag (eC (.str "spot")) (ag (eV 4) ak))))
   aT)
   (aK (zK (tV (au cK [] (ag (eV 4) (ag (eV 5) ak)))) (cH (ag (eC (.str "stretch")) (ag (eV 4) (ag (eV 5) ak)))) (eC .aX))))))))
def gQ:FN:=dQ 2 6 gN
def lN:XS:=(aw (aB 2 (au fK [] (ag (au fK [] (ag (e2 ar (eV 0) (eC (.int 0))) (ag (e2 ar (eV 0) (eC (.int 1))) ak))) (ag (au fK [] (ag (e2 ar (eV 1) (eC (.int 0))) (ag (e2 ar (eV 1) (eC (.int 1))) ak))) ak))))
   (aK (au uf [] (ag (e2 ar (eV 2) (eC (.int 0))) (ag (e2 ar (eV 2) (eC (.int 1))) (ag (e2 ar (eV 2) (eC (.int 2))) ak))))))
def lO:FN:=dQ 2 3 lN
def jj:XS:=(aw (aB 2 (au jG [] (ag (eV 0) (ag (eV 1) ak))))
   (aw (bZ (tV (e2 eJ (eV 2) (eI (ag (eC (.int 0)) (ag (eC (.int 0)) ak)))))
   (aK (au gQ [] (ag (eV 0) (ag (eV 1) ak))))
   aT)
   (aw (aB 3 (au jG [] (ag (eV 1) (ag (eV 0) ak))))
   (aw (bZ (gc (tV (e2 oK (e2 aH (e2 ar (eV 2) (eC (.int 0))) (e2 ar (eV 2) (eC (.int 1)))) (eC (.int 0)))) (tV (e2 oK (e2 aH (e2 ar (eV 3) (eC (.int 0))) (e2 ar (eV 3) (eC (.int 1)))) (eC (.int 0)))))
   (aK (eC .aX))
   aT)
   (aK (cH (ag (eC (.str "spot")) (ag (au lO [] (ag (eV 0) (ag (eV 1) ak))) ak))))))))
def gR:FN:=dQ 2 4 jj
def ug(gw gx:Nat):XS:=(aw (aB 2 qw)
   (aw (cA (iT (eV 1)) (ay 3)
   (bZ (tV (au gE [] (ag (eV 3) (ag (eV 0) ak))))
   (gL (eV 2) (eV 3) (eC (.bl true)))
   aT))
   (aw (bZ (tV (au cK [] (ag (e2 ar (eV 0) (eC (.int 0))) (ag (e2 ar (eV 0) (eC (.int 1))) ak))))
   (aK (au (eO gw gx) [] (ag (eB iY (ag (eV 2) ak)) (ag (eC (.adr gw)) ak))))
   aT)
   (aK (au (eO gw gx) [] (ag (eB iY (ag (eV 2) ak)) (ag Lq ak)))))))
def m8(gw gx:Nat):FN:=dQ 2 4 (ug gw gx)
def jn:XS:=(aw (aB 1 (dh (iT (eV 0)) [af] (ay 0) eX (eB nO (ag (eV 0) ak))))
   (aw (cA (bF (ag (eB bu (ag (eV 0) ak)) ak)) (ay 2)
   (cA (bF (ag (eV 2) ak)) (ay 3)
   (aw (aB 4 (au gR [] (ag (e2 ar (eV 0) (eV 3)) (ag (e2 ar (eV 0) (eV 2)) ak))))
   (bZ (tV (e2 fy (eV 4) (eC .aX)))
   (aw (d_ (eM pH (e2 ar (eV 1) (eV 3)) (ag (uX ic (eV 4) (iR (eC (.int 1))) jh) ak)))
   (d_ (eM pH (e2 ar (eV 1) (eV 2)) (ag (uX ic (eV 4) (iR (eC (.int 1))) jh) ak))))
   aT))))
   (aK (eV 1))))
def jo:FN:=dQ 1 5 jn
def fL:XS:=(aw (aB 1 t5)
   (aw (cA (bF (ag (eB bu (ag (eV 0) ak)) ak)) (ay 2)
   (d_ (eM dm (fV (eV 1) (au dO [] (ag (e2 ar (eV 0) (eV 2)) ak))) (ag (eV 2) ak))))
   (aK (eV 1))))
def fM:FN:=dQ 1 3 fL
def Cb(gw gx:Nat):XS:=(aw (aB 1 t5)
   (aw (aB 2 (au fM [] (ag (eV 0) ak)))
   (aw (aB 3 (au jo [] (ag (eB jC (ag (eV 2) ak)) ak)))
   (aw (cA (t6 (ag (eV 2) (ag (eV 3) ak))) (gy 2 (bA (ay 4) (bA (ay 5) fP)))
   (aw (aB 6 (au (m8 gw gx) [] (ag (eV 4) (ag (eV 5) ak))))
   (cA (sC (ag (eV 6) (ag (uX ic (eV 6) (iR (eC (.int 1))) jh) ak))) (ay 7)
   (d_ (eM fU (fV (eV 1) (eV 7)) (ag (jP (eV 2) (eV 4)) ak))))))
   (aK (eB xp (ag (dh (iT (au (eO gw gx) [] (ag (eB jC (ag (eV 1) ak)) (ag (eC (.adr gx)) ak)))) [af,ae 1] (ay 0) eX (cH (ag (eV 0) (ag (eB t9 (ag (jP (eV 1) (eV 0)) ak)) ak)))) ak)))))))
def vn(gw gx:Nat):FN:=dQ 1 8 (Cb gw gx)
def qB(gw gx:Nat):XS:=(aK (eB jC (ag (au (vn gw gx) [] (ag (eV 0) ak)) ak)))
def gS(gw gx:Nat):FN:=dQ 1 1 (qB gw gx)
def i4(gw gx:Nat):XS:=(aK (BX (au (vn gw gx) [] (ag (eV 0) ak))))
def fB(gw gx:Nat):FN:=dQ 1 1 (i4 gw gx)
def iI:XS:=(aw (aB 2 (eC (.int 0)))
   (aw (bZ (tV (e2 sj (eV 1) (eB bu (ag (eV 0) ak))))
   (aB 2 (e2 ar (eV 0) (eV 1)))
   aT)
   (aw (aB 3 (e2 bK (e2 bK (e2 gY (eB tN (ag (eV 2) ak)) (eC (.int 2305843009213693951))) (e2 aH (eC (.int 7919)) (eV 1))) (eC (.int 5))))
   (aw (aB 4 (eC (.int 0)))
   (aw (cA (bF (ag (eC (.int 12)) ak)) (ay 5)
   (aw (aB 3 (e2 bK (e2 aH (eV 3) (eC (.int 6364136223846793005))) (e2 aH (eC (.int 1442695040888963407)) (e2 bK (e2 bK (eV 1) (eV 5)) (eC (.int 1))))))
   (aw (aB 3 (e2 gY (eV 3) (eC (.int 2305843009213693951))))
   (aw (aB 6 (e2 aH (e2 ed (eV 3) (eC (.int 1024))) (e2 bK (e2 bK (e2 gY (eV 3) (eC (.int 1000003))) (e2 aH (eC (.int 7919)) (eV 5))) (eC (.int 1)))))
   (aB 4 (e2 bK (e2 aH (eV 4) (eC (.int 1099511627776))) (e2 gY (eV 6) (eC (.int 1099511627776)))))))))
   (aw (aB 7 (e2 aH (eB tN (ag (eV 2) ak)) (eB yd (ag (oZ (e2 oK (eB bu (ag (eV 0) ak)) (eC (.int 0))) (e2 eJ (e2 gY (e2 ar (eV 0) (eC (.int 0))) (eC (.int 2))) (eC (.int 1)))) ak))))
   (aK (eI (ag (eV 7) (ag (eV 4) ak))))))))))
def dH:FN:=dQ 2 8 iI
def i5:XS:=(aw (aB 2 (eB yd (ag (e2 eJ (e2 ar (eV 0) (eC (.int 0))) (eC (.int 0))) ak)))
   (aw (aB 3 (e2 gY (e2 ar (eV 0) (eV 2)) (eV 1)))
   (aw (mI (e2 ed (e2 ar (eV 0) (eV 2)) (eV 1)) (GF (eV 0) (eV 2)))
   (aK (eV 3)))))
def aQ:FN:=dQ 2 4 i5
def fN:XS:=(aw (aB 1 (au aQ [] (ag (eV 0) (ag (eC (.int 5)) ak))))
   (aw (bZ (tV (e2 sj (eV 1) (eC (.int 2))))
   (aK (e2 bG (au aQ [] (ag (eV 0) (ag (eC (.int 9)) ak))) (eC (.int 4))))
   aT)
   (aw (bZ (tV (e2 eJ (eV 1) (eC (.int 2))))
   (aK (e2 bG (au aQ [] (ag (eV 0) (ag (eC (.int 1999999)) ak))) (eC (.int 999999))))
   aT)
   (aw (bZ (tV (e2 eJ (eV 1) (eC (.int 3))))
   (aK (e2 aH (e2 bG (eC (.int 999999)) (au aQ [] (ag (eV 0) (ag (eC (.int 3)) ak)))) (e2 bG (eC (.int 1)) (e2 aH (eC (.int 2)) (au aQ [] (ag (eV 0) (ag (eC (.int 2)) ak)))))))
   aT)
   (aK (e2 bG (au aQ [] (ag (eV 0) (ag (e2 bK (e2 aH (eC (.int 2)) (e2 vU (eC (.int 10)) (eC (.int 9)))) (eC (.int 1))) ak))) (e2 vU (eC (.int 10)) (eC (.int 9)))))))))
def eP:FN:=dQ 1 2 fN
def j0:XS:=(aw (aB 1 (au aQ [] (ag (eV 0) (ag (eC (.int 5)) ak))))
   (aK (e2 bK (eC (.int 1)) (au aQ [] (ag (eV 0) (ag (e2 ar (eI (ag (eC (.int 1)) (ag (eC (.int 1)) (ag (eC (.int 9)) (ag (eC (.int 999999)) (ag (e2 vU (eC (.int 10)) (eC (.int 9))) ak)))))) (eV 1)) ak))))))
def i6:FN:=dQ 1 2 j0
def jq:XS:=(aw (aB 0 (eB tN (ag (eV 0) ak)))
   (aw (aB 1 (eB tN (ag (eV 1) ak)))
   (aw (eo (tV (e2 oK (eV 1) (eC (.int 0)))) (oA [0,1] (ag (eV 1) (ag (e2 gY (eV 0) (eV 1)) ak))))
   (aK (eV 0)))))
def ip:FN:=dQ 2 2 jq
def iq:XS:=(aw (bZ (tV (e2 sj (eV 2) (eC (.int 0))))
   (oA [0,1,2] (ag (e2 bG (eC (.int 0)) (eV 0)) (ag (e2 bG (eC (.int 0)) (eV 1)) (ag (e2 bG (eC (.int 0)) (eV 2)) ak))))
   aT)
   (aw (aB 3 (au ip [] (ag (au ip [] (ag (eV 0) (ag (eV 1) ak))) (ag (eV 2) ak))))
   (aK (cH (ag (e2 ed (eV 0) (eV 3)) (ag (e2 ed (eV 1) (eV 3)) (ag (e2 ed (eV 2) (eV 3)) ak)))))))
def bC:FN:=dQ 3 4 iq
def jH:XS:=(aw (aB 1 (au aQ [] (ag (eV 0) (ag (eC (.int 3)) ak))))
   (aw (bZ (tV (e2 eJ (eV 1) (eC (.int 0))))
   (aK (au bC [] (ag (au eP [] (ag (eV 0) ak)) (ag (au eP [] (ag (eV 0) ak)) (ag (au i6 [] (ag (eV 0) ak)) ak)))))
   aT)
   (aK (au bC [] (ag (au aQ [] (ag (eV 0) (ag (e2 bK (eC (.int 5)) (e2 aH (eC (.int 4)) (eV 1))) ak))) (ag (au aQ [] (ag (eV 0) (ag (e2 bK (eC (.int 5)) (e2 aH (eC (.int 4)) (eV 1))) ak))) (ag (e2 ar (eI (ag (eC (.int 1)) (ag (eC (.int 1)) (ag (eC (.int 2)) ak)))) (au aQ [] (ag (eV 0) (ag (eC (.int 3)) ak)))) ak)))))))
def df:FN:=dQ 1 2 jH
def jr:XS:=(aw (cA (bF (ag (e2 bK (eB bu (ag (eV 1) ak)) (eC (.int 1))) ak)) (ay 2)
   (bZ (tV (e2 o7 (eV 0) (eV 1)))
   (aB 0 (au bC [] (ag (e2 bK (e2 ar (eV 0) (eC (.int 0))) (e2 ar (eV 0) (eC (.int 2)))) (ag (e2 ar (eV 0) (eC (.int 1))) (ag (e2 ar (eV 0) (eC (.int 2))) ak)))))
   aT))
   (aK (eV 0)))
def iu:FN:=dQ 2 3 jr
def i7:XS:=(aw (aB 3 (e2 bG (au aQ [] (ag (eV 0) (ag (eC (.int 7)) ak))) (eC (.int 1))))
   (aw (aB 4 (e2 bK (eC (.int 1)) (au aQ [] (ag (eV 0) (ag (eC (.int 5)) ak)))))
   (aw (aB 5 (e2 bK (e2 aH (e2 aH (e2 ar (eV 1) (eC (.int 0))) (e2 ar (eV 2) (eC (.int 2)))) (e2 bG (eV 4) (eV 3))) (e2 aH (e2 aH (e2 ar (eV 2) (eC (.int 0))) (e2 ar (eV 1) (eC (.int 2)))) (eV 3))))
   (aw (aB 6 (e2 bK (e2 aH (e2 aH (e2 ar (eV 1) (eC (.int 1))) (e2 ar (eV 2) (eC (.int 2)))) (e2 bG (eV 4) (eV 3))) (e2 aH (e2 aH (e2 ar (eV 2) (eC (.int 1))) (e2 ar (eV 1) (eC (.int 2)))) (eV 3))))
   (aK (au bC [] (ag (eV 5) (ag (eV 6) (ag (e2 aH (e2 aH (e2 ar (eV 1) (eC (.int 2))) (e2 ar (eV 2) (eC (.int 2)))) (eV 4)) ak)))))))))
def eg:FN:=dQ 3 7 i7
def lP:XS:=(aK (cH (ag (eC (.str "spot")) (ag (au bC [] (ag (eV 0) (ag (eV 1) (ag (eV 2) ak)))) ak))))
def gF:FN:=dQ 3 3 lP
def f_:XS:=(aw (aB 3 (eB tX (ag (e2 ar (eV 0) (eC (.int 0))) (ag (e2 ar (eV 1) (eC (.int 0))) ak))))
   (aw (aB 4 (eB tY (ag (e2 ar (eV 0) (eC (.int 1))) (ag (e2 ar (eV 1) (eC (.int 1))) ak))))
   (aw (bZ (tV (e2 DI (eV 3) (eV 4)))
   (aK (eC .aX))
   aT)
   (aw (bZ (tV (e2 eJ (eV 3) (eV 4)))
   (aK (au gF [] (ag (e2 ar (eV 3) (eC (.int 0))) (ag (e2 ar (eV 3) (eC (.int 1))) (ag (eV 2) ak)))))
   aT)
   (aK (cH (ag (eC (.str "stretch")) (ag (au bC [] (ag (e2 ar (eV 3) (eC (.int 0))) (ag (e2 ar (eV 3) (eC (.int 1))) (ag (eV 2) ak)))) (ag (au bC [] (ag (e2 ar (eV 4) (eC (.int 0))) (ag (e2 ar (eV 4) (eC (.int 1))) (ag (eV 2) ak)))) ak)))))))))
def eU:FN:=dQ 3 5 f_
def js:XS:=(aK (e2 bG (e2 aH (e2 ar (eV 0) (eC (.int 0))) (e2 ar (eV 1) (eC (.int 1)))) (e2 aH (e2 ar (eV 0) (eC (.int 1))) (e2 ar (eV 1) (eC (.int 0))))))
def cB:FN:=dQ 2 2 js
def jt:XS:=(aw (aB 2 (e2 aH (e2 aH (e2 aH (e2 ar (e2 ar (eV 0) (eC (.int 0))) (eC (.int 2))) (e2 ar (e2 ar (eV 0) (eC (.int 1))) (eC (.int 2)))) (e2 ar (e2 ar (eV 1) (eC (.int 0))) (eC (.int 2)))) (e2 ar (e2 ar (eV 1) (eC (.int 1))) (eC (.int 2)))))
   (aw (mI (dh (kh (e2 bK (eV 0) (eV 1))) [af,ae 2] (ay 0) eX (cH (ag (e2 aH (e2 ar (eV 0) (eC (.int 0))) (e2 ed (eV 1) (e2 ar (eV 0) (eC (.int 2))))) (ag (e2 aH (e2 ar (eV 0) (eC (.int 1))) (e2 ed (eV 1) (e2 ar (eV 0) (eC (.int 2))))) ak)))) (GO 4 (bA (ay 3) (bA (ay 4) (bA (ay 5) (bA (ay 6) fP))))))
   (aw (aB 7 (cH (ag (e2 bG (e2 ar (eV 4) (eC (.int 0))) (e2 ar (eV 3) (eC (.int 0)))) (ag (e2 bG (e2 ar (eV 4) (eC (.int 1))) (e2 ar (eV 3) (eC (.int 1)))) ak))))
   (aw (aB 8 (cH (ag (e2 bG (e2 ar (eV 6) (eC (.int 0))) (e2 ar (eV 5) (eC (.int 0)))) (ag (e2 bG (e2 ar (eV 6) (eC (.int 1))) (e2 ar (eV 5) (eC (.int 1)))) ak))))
   (aw (aB 9 (cH (ag (e2 bG (e2 ar (eV 5) (eC (.int 0))) (e2 ar (eV 3) (eC (.int 0)))) (ag (e2 bG (e2 ar (eV 5) (eC (.int 1))) (e2 ar (eV 3) (eC (.int 1)))) ak))))
   (aw (aB 10 (au cB [] (ag (eV 7) (ag (eV 8) ak))))
   (aw (aB 11 (au cB [] (ag (eV 9) (ag (eV 8) ak))))
   (aw (aB 12 (au cB [] (ag (eV 9) (ag (eV 7) ak))))
   (aw (bZ (jT (tV (e2 eJ (eV 10) (eC (.int 0)))) (tV (e2 eJ (eV 12) (eC (.int 0)))))
   (aK (au eU [] (ag (eB iH (ag (eI (ag (eV 3) (ag (eV 4) ak))) ak)) (ag (eB iH (ag (eI (ag (eV 5) (ag (eV 6) ak))) ak)) (ag (eV 2) ak)))))
   aT)
   (aw (bZ (tV (e2 sj (eV 10) (eC (.int 0))))
   (oA [10,11,12] (ag (e2 bG (eC (.int 0)) (eV 10)) (ag (e2 bG (eC (.int 0)) (eV 11)) (ag (e2 bG (eC (.int 0)) (eV 12)) ak))))
   aT)
   (aw (bZ (gc (tV (e2 eJ (eV 10) (eC (.int 0)))) (gc (eG (tV (nM zL zL (eC (.int 0)) (eV 11) (eV 10)))) (eG (tV (nM zL zL (eC (.int 0)) (eV 12) (eV 10))))))
   (aK (eC .aX))
   aT)
   (aK (au gF [] (ag (e2 bK (e2 aH (e2 ar (eV 3) (eC (.int 0))) (eV 10)) (e2 aH (e2 ar (eV 7) (eC (.int 0))) (eV 11))) (ag (e2 bK (e2 aH (e2 ar (eV 3) (eC (.int 1))) (eV 10)) (e2 aH (e2 ar (eV 7) (eC (.int 1))) (eV 11))) (ag (e2 aH (eV 2) (eV 10)) ak))))))))))))))))
def ba:FN:=dQ 2 13 jt
def iJ:XS:=(aK (SI (e2 sj (e2 aH (e2 ar (eV 0) (eC (.int 0))) (e2 ar (eV 1) (eC (.int 2)))) (e2 aH (e2 ar (eV 1) (eC (.int 0))) (e2 ar (eV 0) (eC (.int 2))))) (oZ (e2 eJ (e2 aH (e2 ar (eV 0) (eC (.int 0))) (e2 ar (eV 1) (eC (.int 2)))) (e2 aH (e2 ar (eV 1) (eC (.int 0))) (e2 ar (eV 0) (eC (.int 2))))) (e2 sj (e2 aH (e2 ar (eV 0) (eC (.int 1))) (e2 ar (eV 1) (eC (.int 2)))) (e2 aH (e2 ar (eV 1) (eC (.int 1))) (e2 ar (eV 0) (eC (.int 2))))))))
def cQ:FN:=dQ 2 2 iJ
def jI:XS:=(aw (bZ (tV (e2 oK (eB yg (ag (eB tN (ag (e2 ar (eV 1) (eC (.int 0))) ak)) (ag (eB tN (ag (e2 ar (eV 1) (eC (.int 1))) ak)) (ag (e2 ar (eV 1) (eC (.int 2))) ak)))) (e2 vU (eC (.int 10)) (eC (.int 14)))))
   (aK (au df [] (ag (eV 0) ak)))
   aT)
   (aK (eV 1)))
def fF:FN:=dQ 2 2 jI
def iK:XS:=(aw (aB 2 (au df [] (ag (eV 0) ak)))
   (aw (aB 3 (au df [] (ag (eV 0) ak)))
   (aw (aB 4 (e2 aH (au aQ [] (ag (eV 0) (ag (eC (.int 6)) ak))) (eB yd (ag (e2 oK (eB bu (ag (eV 1) ak)) (eC (.int 0))) ak))))
   (aw (bZ (tV (e2 oK (eV 4) (eC (.int 0))))
   (aw (mI (e2 ar (eV 1) (au aQ [] (ag (eV 0) (ag (eB bu (ag (eV 1) ak)) ak)))) (gy 2 (bA (ay 5) (bA (ay 6) fP))))
   (aw (aB 7 (au eg [] (ag (eV 0) (ag (eV 5) (ag (eV 6) ak)))))
   (aw (bZ (tV (e2 eJ (eV 4) (eC (.int 1))))
   (aB 2 (eV 7))
   aT)
   (aw (bZ (tV (e2 eJ (eV 4) (eC (.int 2))))
   (oA [2,3] (ag (eV 7) (ag (au eg [] (ag (eV 0) (ag (eV 5) (ag (eV 6) ak)))) ak)))
   aT)
   (aw (bZ (tV (e2 eJ (eV 4) (eC (.int 3))))
   (aB 2 (eV 5))
   aT)
   (aw (bZ (tV (e2 eJ (eV 4) (eC (.int 4))))
   (mI (e2 ar (eI (ag (cH (ag (eV 5) (ag (eV 6) ak))) (ag (cH (ag (eV 6) (ag (eV 5) ak))) ak))) (au aQ [] (ag (eV 0) (ag (eC (.int 2)) ak)))) (gy 2 (bA (ay 2) (bA (ay 3) fP))))
   aT)
   (bZ (tV (e2 eJ (eV 4) (eC (.int 5))))
   (aB 3 (au bC [] (ag (e2 bG (e2 aH (e2 aH (eC (.int 2)) (e2 ar (eV 7) (eC (.int 0)))) (e2 ar (eV 2) (eC (.int 2)))) (e2 aH (e2 ar (eV 2) (eC (.int 0))) (e2 ar (eV 7) (eC (.int 2))))) (ag (e2 bG (e2 aH (e2 aH (eC (.int 2)) (e2 ar (eV 7) (eC (.int 1)))) (e2 ar (eV 2) (eC (.int 2)))) (e2 aH (e2 ar (eV 2) (eC (.int 1))) (e2 ar (eV 7) (eC (.int 2))))) (ag (e2 aH (e2 ar (eV 7) (eC (.int 2))) (e2 ar (eV 2) (eC (.int 2)))) ak)))))
   aT)))))))
   aT)
   (aw (aB 2 (au fF [] (ag (eV 0) (ag (eV 2) ak))))
   (aK (cH (ag (eV 2) (ag (au iu [] (ag (au fF [] (ag (eV 0) (ag (eV 3) ak))) (ag (eI (ag (eV 2) ak)) ak))) ak)))))))))
def iL:FN:=dQ 2 8 iK
def i8:XS:=(aw (aB 1 qw)
   (aw (cA (bF (ag (eB bu (ag (eV 0) ak)) ak)) (ay 2)
   (aw (cA (kh (e2 ar (eV 0) (eV 2))) (ay 3)
   (gL (eV 1) (eV 3) (eC (.bl true))))
   (cA (bF (ag (eV 2) ak)) (ay 4)
   (aw (aB 5 (au ba [] (ag (e2 ar (eV 0) (eV 4)) (ag (e2 ar (eV 0) (eV 2)) ak))))
   (bZ (jT (tV (e2 fy (eV 5) (eC .aX))) (tV (e2 eJ (e2 ar (eV 5) (eC (.int 0))) (eC (.str "spot")))))
   (gL (eV 1) (e2 ar (eV 5) (eC (.int 1))) (eC (.bl true)))
   aT)))))
   (aK (eB iY (ag (eV 1) ak)))))
def gG:FN:=dQ 1 6 i8
def ke:XS:=(aw (aB 2 (au ba [] (ag (eV 1) (ag (cH (ag (eV 0) (ag (au bC [] (ag (e2 bK (e2 ar (eV 0) (eC (.int 0))) (e2 ar (eV 0) (eC (.int 2)))) (ag (e2 ar (eV 0) (eC (.int 1))) (ag (e2 ar (eV 0) (eC (.int 2))) ak)))) ak))) ak))))
   (aK (oZ (e2 fy (eV 2) (eC .aX)) (e2 o7 (eV 0) (uX ic (eV 2) (iR (eC (.int 1))) jh)))))
def dD:FN:=dQ 2 3 ke
def gU:XS:=(aw (cA (bF (ag (eB bu (ag (eV 0) ak)) ak)) (ay 2)
   (aw (mI (e2 ar (eV 0) (eV 2)) (gy 2 (bA (ay 3) (bA (ay 4) fP))))
   (aw (bZ (gc (eG (tV (eB fT (ag (e2 ar (eV 0) (eV 2)) (ag (eC (.ty "tuple")) ak))))) (gc (eG (tV (au cQ [] (ag (eV 3) (ag (eV 4) ak))))) (gc (tV (e2 eK (eV 3) (eV 1))) (tV (e2 eK (eV 4) (eV 1))))))
   (aK (eC (.bl false)))
   aT)
   (aw (bZ (jT (tV (e2 oK (eV 2) (eC (.int 0)))) (eG (tV (au cQ [] (ag (e2 ar (e2 ar (eV 0) (e2 bG (eV 2) (eC (.int 1)))) (eC (.int 0))) (ag (eV 3) ak))))))
   (bZ (gc (tV (e2 iS (e2 ar (e2 ar (eV 0) (e2 bG (eV 2) (eC (.int 1)))) (eC (.int 0))) (eV 3))) (eG (tV (au cQ [] (ag (e2 ar (e2 ar (eV 0) (e2 bG (eV 2) (eC (.int 1)))) (eC (.int 1))) (ag (eV 4) ak))))))
   (aK (eC (.bl false)))
   aT)
   aT)
   (aw (cA (bF (ag (eV 2) ak)) (ay 5)
   (aw (aB 6 (au ba [] (ag (e2 ar (eV 0) (eV 5)) (ag (e2 ar (eV 0) (eV 2)) ak))))
   (aw (bZ (jT (tV (e2 fy (eV 6) (eC .aX))) (tV (e2 iS (e2 ar (eV 6) (eC (.int 0))) (eC (.str "spot")))))
   (aK (eC (.bl false)))
   aT)
   (bZ (jT (tV (e2 fy (eV 6) (eC .aX))) (gc (tV (e2 eK (e2 ar (eV 6) (eC (.int 1))) (cH (ag (eV 3) (ag (eV 4) ak))))) (tV (e2 eK (e2 ar (eV 6) (eC (.int 1))) (e2 ar (eV 0) (eV 5))))))
   (aK (eC (.bl false)))
   aT))))
   (bZ (tV (eB ko (ag (dh (iT (eV 1)) [af,ae 3,ae 4] (ay 0) eX (oZ (e2 eK (eV 0) (cH (ag (eV 1) (ag (eV 2) ak)))) (au dD [] (ag (eV 0) (ag (cH (ag (eV 1) (ag (eV 2) ak))) ak))))) ak)))
   (aK (eC (.bl false)))
   aT))))))
   (aK (eC (.bl true))))
def fC:FN:=dQ 2 7 gU
def ju:XS:=(aw (cA (bF (ag (eB bu (ag (eV 0) ak)) ak)) (ay 3)
   (aw (mI (e2 ar (eV 0) (eV 3)) (gy 2 (bA (ay 4) (bA (ay 5) fP))))
   (aw (bZ (tV (au cQ [] (ag (eV 5) (ag (eV 4) ak))))
   (oA [4,5] (ag (eV 5) (ag (eV 4) ak)))
   aT)
   (aw (aB 6 (dh (bF (ag (eB bu (ag (eV 1) ak)) ak)) [af,ae 1,ae 3,ae 2] (ay 0) (tV (e2 o7 (eV 2) (e2 ar (eV 3) (eV 0)))) (e2 ar (eV 1) (eV 0))))
   (aw (cA (bF (ag (eB bu (ag (eV 1) ak)) ak)) (ay 7)
   (bZ (tV (e2 iS (e2 o7 (eV 3) (e2 ar (eV 2) (eV 7))) (oZ (au dD [] (ag (e2 ar (e2 ar (eV 1) (eV 7)) (eC (.int 0))) (ag (cH (ag (eV 4) (ag (eV 5) ak))) ak))) (au dD [] (ag (e2 ar (e2 ar (eV 1) (eV 7)) (eC (.int 1))) (ag (cH (ag (eV 4) (ag (eV 5) ak))) ak))))))
   (aK (eC (.bl false)))
   aT))
   (aw (bZ (gc (tV (e2 jl (eV 6) (eI ak))) (gc (tV (e2 iS (e2 ar (e2 ar (eV 6) (eC (.int 0))) (eC (.int 0))) (eV 4))) (tV (e2 iS (e2 ar (e2 ar (eV 6) (e1 yc (eC (.int 1)))) (eC (.int 1))) (eV 5)))))
   (aK (eC (.bl false)))
   aT)
   (bZ (tV (eB ko (ag (dh (ki (ag (eC (.int 1)) (ag (eB bu (ag (eV 6) ak)) ak))) [af,ae 6] (ay 0) eX (e2 iS (e2 ar (e2 ar (eV 1) (e2 bG (eV 0) (eC (.int 1)))) (eC (.int 1))) (e2 ar (e2 ar (eV 1) (eV 0)) (eC (.int 0))))) ak)))
   (aK (eC (.bl false)))
   aT)))))))
   (aK (eC (.bl true))))
def iw:FN:=dQ 3 8 ju
def Cc(gw gx:Nat):XS:=(aw (aB 1 (eI ak))
   (aw (aB 2 (e2 bK (eC (.int 1)) (au aQ [] (ag (au dH [] (ag (eI (ag (eB DZ (ag (eV 0) ak)) ak)) (ag (eC (.int 0)) ak))) (ag (eC (.int 6)) ak)))))
   (aw (cA (bF (ag (eB yf (ag (eV 2) (ag (eB ye (ag (eC (.int 1)) (ag (e2 bG (eB bu (ag (eV 0) ak)) (eC (.int 1))) ak))) ak))) ak)) (ay 3)
   (d_ (eM dm (eV 1) (ag (au iL [] (ag (au dH [] (ag (eV 0) (ag (e2 bK (eC (.int 1)) (eV 3)) ak))) (ag (eV 1) ak))) ak))))
   (aw (aB 4 (eB nO (ag (eV 1) ak)))
   (aw (aB 5 (au (gS gw gx) [] (ag (eV 1) ak)))
   (aw (aB 6 (au (fB gw gx) [] (ag (eV 1) ak)))
   (aw (bZ (gc (eG (tV (eB fT (ag (eV 5) (ag (eC (.ty "list")) ak))))) (gc (eG (tV (eB fT (ag (eV 6) (ag (eC (.ty "list")) ak))))) (gc (tV (e2 iS (eB bu (ag (eV 6) ak)) (eB bu (ag (eV 5) ak)))) (tV (e2 DK (eV 1) (eV 4))))))
   (aK (eC (.bl false)))
   aT)
   (aw (cA (iT (eV 6)) (ay 7)
   (bZ (gc (eG (tV (eB fT (ag (eV 7) (ag (eC (.ty "list")) ak))))) (gc (tV (e2 jl (eV 7) (eI ak))) (tV (eB ko (ag (dh (ki (ag (eC (.int 1)) (ag (eB bu (ag (eV 7) ak)) ak))) [af,ae 7] (ay 0) eX (e2 Il (e2 ar (eV 1) (e2 bG (eV 0) (eC (.int 1)))) (e2 ar (eV 1) (eV 0)))) ak)))))
   (aK (eC (.bl false)))
   aT))
   (aw (bZ (gc (eG (tV (au fC [] (ag (eV 5) (ag (au gG [] (ag (eV 1) ak)) ak))))) (eG (tV (au iw [] (ag (eV 1) (ag (eV 5) (ag (eV 6) ak)))))))
   (aK (eC (.bl false)))
   aT)
   (aw (aB 8 (dh (D0 (ag (eV 1) ak)) [af] (ay 0) eX (cH (ag (e2 ar (eV 0) (eC (.int 1))) (ag (e2 ar (eV 0) (eC (.int 0))) ak)))))
   (aK (e2 Ah (au (gS gw gx) [] (ag (eV 8) ak)) (eV 5)))))))))))))
def yH(gw gx:Nat):FN:=dQ 1 9 (Cc gw gx)
end
end dE
namespace dE
open PySem Qm PyProof.Rows
local macro_rules|`(tactic|walk_at "bd")=>`(tactic|first|assumption|((with_reducible show My.Bd _ (_*_));refine' My.Bd.mul ?_ ?_<;>walk_at "bd")|((with_reducible show My.Bd _ (_+_));refine' My.Bd.add ?_ ?_<;>walk_at "bd")|((with_reducible show My.Bd _ (_ - _));refine' My.Bd.sub ?_ ?_<;>walk_at "bd")|((with_reducible show My.Bd _ (- _));refine' My.Bd.neg ?_<;>walk_at "bd")|(refine' D_ ?_;omega))
local macro_rules|`(tactic|walk_at "bdm")=>`(tactic|first|assumption|(refine' My.Bd.mono ?b1 ?b2;(case b1=>walk_at "bd");(case b2=>decide)))
local macro_rules|`(tactic|walk_at "mo")=>`(tactic|first|(refine mulL ?_;omega)|(refine mulR ?_;omega)|(refine pJ ?_ ?_<;>walk_at "bdm"))
local macro_rules|`(tactic|walk_at "dis")=>`(tactic|first|assumption|omega|walk_at "mo"|walk_at "bdm")
local macro_rules|`(tactic|erw[$[$t:term],*])=>`(tactic|simp (disch:=walk_at "dis") only[gp,B_,Mc,TX,TY,WZ,TZ,PH,TV,TB,TC,Zz,TF,WT,WU,TH,WV,TJ,WW,TK,PB,TL,TM,PD,ZA,ZC,PF,WX,ZD,TN,WY,TR,TU,Mb,uc,T1,PJ,T2,Md,T4,PK,PL,Me,Mf,W0,W2,W3,Ra,T5,bU,ud,Ca,Mg,Mh,PM,PN,yG,Mj,T6,T7,T8,T9,Mk,PQ,PR,Ml,T_,Ua,Ub,Uc,Ud,Ue,Ug,aeq,adv,agk,Option.join_none,aag,Option.bind_none,ahC,adK,aaV,afy,aaU,acg,aa5,agK,ahV,List.replicate_succ,List.replicate_zero,Nat.reduceAdd,Nat.reduceSub,Nat.reduceEqDiff,if_true,if_false,aav,decide_true,decide_false,abY,aeI,eq_self_iff_true,reduceIte,aee,List.zip_nil_right,List.zip_nil_left,agL,List.foldl_nil,Int.reduceLT,Int.reduceEq,Int.reduceLE,$[$t:term],*])
variable{i:Nat}{c:Cells}{z:Cell}
theorem bM(h:c[i]? =ae z):i<c.length:=(aae.mp h).1
theorem bH{zs:Cells}(h:c[i]? =ae z):(c++zs)[i]? =ae z:=by rw[aaM (bM h)];exact h
variable{c':Cells}
theorem aA(h:c <+:c')(e:c[i]? =ae z):c'[i]? =ae z:=by
 obtain⟨zs,rfl⟩:=h;exact bH e
theorem iy(h:c <+:c'):c.length<=c'.length:=h.length_le
variable{n:Nat}
theorem yI(h:c <+:c')(hn:c.length<=n):c <+:c'.set n z:=by
 obtain⟨zs,rfl⟩:=h;refine⟨zs.set (n - c.length) z,?_⟩;rw[List.set_append_right _ _ hn]
theorem pre_app{zs:Cells}(h:c <+:c'):c <+:c'++zs:=h.trans ⟨zs,rfl⟩
theorem cJ{y:Cell}(h:c[i]? =ae y)(hn:i≠n):(c.set n z)[i]? =ae y:=by rw[adm,if_neg (acu hn)];exact h
theorem jv(h:n<c.length):(c.set n z)[n]? =ae z:=by rw[adm,if_pos rfl,if_pos h]
variable{it:XI}{g:XG}{σ:Qm.Env}{c1:Cells}
theorem gH{b:XS}{I:Itm}(h:it σ c=ae (I,c1)):cA it g b σ c=gf I.ks g b I.ds σ c1:=by
 unfold cA;rw[h];rfl
variable{xs:List D}
theorem vo{a:XE}{m:Nat}(ha:a σ c=ae (.ref m,c))(h:c[m]? =ae (.lst xs)):iT a σ c=ae (⟨xs,[(m,.lst xs)]⟩,c):=by
 unfold iT;rw[ha];simp[h,aU h]
theorem uh{a:XE}:iR a σ c=(a σ c).bind λp=>(tL p.1).bind λi=>ae (ae i,p.2):=by
 unfold iR;cases a σ c with
 |none=>rfl
 |some p=>obtain⟨d,c⟩:=p;cases d<;>rfl
def Fr(L:Nat)(c c':Cells):Prop:=∀j z,j≠L->c[j]? =ae z->c'[j]? =ae z
variable{L:Nat}
theorem Fr.app{zs:Cells}:Fr L c (c++zs):=λ_ _ _ e=>bH e
theorem Fr.set:Fr L c (c.set L z):=λ_ _ h e=>cJ e h
variable{ks:List (Nat×Cell)}{te:XE}
theorem Au{E:Qm.Env->Prop}{Rel:Nat->D->Cells->Prop}{I:Nat->Cells->Prop}(hs:stays ks c)(hI:∀i u z,I i u->I i (u.set c.length z))(hR:∀i v c1 c2,Rel i v c1->Fr c.length c1 c2->Rel i v c2):∀(ds acc:List D) (zs:List Cell) (τ:Qm.Env) (k:Nat),k=acc.length->E τ->I k (c++.lst acc::zs)->
  (∀(i:Nat) d,ds[i]? =ae d->∀τ c',E τ->c <+:c'->c.length<c'.length->I (k+i) c'->∃mH v ws,g d τ c'=ae (mH,c')/\te mH c'=ae (v,c'++ws)/\E mH/\Rel (k+i) v (c'++ws)/\I (k+i+1) (c'++ws))->acc.length+ds.length<=9000000->(∀i v,acc[i]? =ae v->Rel i v (c++.lst acc::zs))->
  ∃vs Ec,e7 c.length ks g eX te ds τ (c++.lst acc::zs)=ae (c++.lst (acc++vs)::Ec)/\vs.length=ds.length/\∀i v,(acc++vs)[i]? =ae v->Rel i v (c++.lst (acc++vs)::Ec)
 |[],acc,zs,τ,k,_,_,_,_,_,ha=>by
  have st:stays ks (c++.lst acc::zs):=λp hp=>aA ⟨_,rfl⟩ (hs p hp)
  refine⟨[],zs,?_,rfl,by simpa using ha⟩;unfold e7;rw[if_pos st];simp
 |d::ds,acc,zs,τ,k,hk,hE,ZE,hv,hn,ha=>by
  have st:stays ks (c++.lst acc::zs):=λp hp=>aA ⟨_,rfl⟩ (hs p hp)
  rw[aaU]at hn;obtain⟨mH,v,ws,f1,f2,Uh,hr,Rq⟩:=hv 0 d rfl τ (c++.lst acc::zs) hE ⟨_,rfl⟩ (by simp) (by simpa using ZE);have f3:(c++.lst acc::zs++ws)[c.length]? =ae (.lst acc):=by simp
  have f4:(c++.lst acc::zs++ws).set c.length (.lst (acc++[v]))=c++.lst (acc++[v])::(zs++ws):=by simp
  have fr:Fr c.length (c++.lst acc::zs++ws) (c++.lst (acc++[v])::(zs++ws)):=by rw[<-f4];exact Fr.set
  obtain⟨vs,Ec,f5,f6,f7⟩:=Au hs hI hR ds (acc++[v]) (zs++ws) mH (k+1) (by simp[hk]) Uh (by rw[<-f4];exact hI _ _ _ (by simpa using Rq)) (λi d' h1=>by
   have:=hv (i+1) d' (by simpa using h1);rwa[show k+(i+1)=k+1+i by omega]at this) (by simp only[aaR,aaU,acg];omega) (λi u hu=>by
   rcases aeb i acc.length with hi|hi
   .rw[aaM hi]at hu
    exact hR _ _ _ _ (hR _ _ _ _ (ha i u hu) Fr.app) fr
   .have:i=acc.length:=by
     have:=(aae.mp hu).1;simp at this;omega
    subst this;rw[acQ (aam _),Nat.sub_self]at hu;cases hu;rw[<-hk];exact hR _ _ _ _ (by simpa using hr) fr)
  refine⟨v::vs,Ec,?_,by simp[f6],by simpa using f7⟩;unfold e7;rw[if_pos st];have f0:eX mH (c++.lst acc::zs)=ae (true,c++.lst acc::zs):=rfl;simp only[f1,aag,f0,if_true,f2,f3,f4];rw[if_pos (show acc.length<cC by rw[dF];omega),f5];simp
variable{cap:List (Option Nat)}{c0:Cells}{ds:List D}
theorem Mm(E:Qm.Env->Prop)(Rel:Nat->D->Cells->Prop)(I:Nat->Cells->Prop)(hI:∀i u z,I i u->I i (u.set c.length z))(ZG:I 0 (c++[.lst []]))(hi:it σ c0=ae (⟨ds,ks⟩,c))(hs:stays ks c)(hE:E (o6 σ cap))(hR:∀i v c1 c2,Rel i v c1->Fr c.length c1 c2->Rel i v c2)
  (hv:∀(i:Nat) d,ds[i]? =ae d->∀τ c',E τ->c <+:c'->c.length<c'.length->I i c'->∃mH v ws,g d τ c'=ae (mH,c')/\te mH c'=ae (v,c'++ws)/\E mH/\Rel i v (c'++ws)/\I (i+1) (c'++ws))(hn:ds.length<=9000000):
  ∃vs c',dh it cap g eX te σ c0=ae (.ref c.length,c')/\c <+:c'/\c'[c.length]? =ae (.lst vs)/\vs.length=ds.length/\∀i v,vs[i]? =ae v->Rel i v c':=by
 obtain⟨vs,zs,e,e2,e3⟩:=Au (te:=te) (g:=g) (E:=E) (Rel:=Rel) (I:=I) (ks:=ks) (c:=c) hs hI hR ds [] [] (o6 σ cap) 0 rfl hE ZG (λi d h=>by rw[acC];exact hv i d h) (by simp;omega) (λi v h=>by cases h);refine⟨vs,c++.lst vs::zs,?_,⟨_,rfl⟩,by simp,e2,by simpa using e3⟩;unfold dh;rw[hi,aag];dsimp only
 rw[show c++[Cell.lst []]=c++.lst []::[] from rfl,e];rfl
theorem vp(E:Qm.Env->Prop)(Rel:Nat->D->Cells->Prop)(hi:it σ c0=ae (⟨ds,ks⟩,c))(hs:stays ks c)(hE:E (o6 σ cap))(hR:∀i v c1 c2,Rel i v c1->Fr c.length c1 c2->Rel i v c2)
  (hv:∀(i:Nat) d,ds[i]? =ae d->∀τ c',E τ->c <+:c'->c.length<c'.length->∃mH v ws,g d τ c'=ae (mH,c')/\te mH c'=ae (v,c'++ws)/\E mH/\Rel i v (c'++ws))(hn:ds.length<=9000000):
  ∃vs c',dh it cap g eX te σ c0=ae (.ref c.length,c')/\c <+:c'/\c'[c.length]? =ae (.lst vs)/\vs.length=ds.length/\∀i v,vs[i]? =ae v->Rel i v c':=
 Mm E Rel (λ_ _=>True) (λ_ _ _ _=>trivial) trivial hi hs hE hR (λi d h τ c' h1 h2 h3 _=>let ⟨a,b,d,e,f,g,h⟩:=hv i d h τ c' h1 h2 h3;⟨a,b,d,e,f,g,h,trivial⟩) hn
section
variable{α:Type}(lt:α->α->Bool)
def kJ:List α->List α->List α
 |l,[]=>l
 |l,y::r=>l.takeWhile (λx=>!lt y x)++y::kJ (l.dropWhile λx=>!lt y x) r
def jR:List α->Prop
 |x::y::l=>lt y x=false/\jR (y::l)
 |_=>True
variable{lt}
theorem qC:∀(r l:List α),(kJ lt l r).Perm (l++r)
 |[],l=>by simp[kJ]
 |y::r,l=>by
  have h:=qC r (l.dropWhile λx=>!lt y x);have e:l++y::r=l.takeWhile (λx=>!lt y x)++(l.dropWhile (λx=>!lt y x)++y::r):=by rw[<-aeG,aeH]
  rw[e];refine List.Perm.append_left _ ?_;exact(aiw y h).trans List.perm_middle.symm
theorem m_{x:α}{l:List α}(h:jR lt (x::l)):jR lt l:=by
 cases l with
 |nil=>trivial
 |cons y l=>exact h.2
theorem vq{x:α}{l:List α}(h:jR lt l)(h2:∀y,l.head?=ae y->lt y x=false):jR lt (x::l):=by
 cases l with
 |nil=>trivial
 |cons y l=>exact⟨h2 y rfl,h⟩
theorem Ed:∀{l m:List α},jR lt l->jR lt m->(∀x y,l.getLast?=ae x->m.head?=ae y->lt y x=false)->jR lt (l++m)
 |[],m,_,h,_=>h
 |[x],m,_,h,h2=>vq h λy hy=>h2 x y rfl hy
 |x::z::l,m,h,hm,h2=>⟨h.1,Ed (l:=z::l) h.2 hm λa b ha hb=>h2 a b (by simpa using ha) hb⟩
theorem Av{p:α->Bool}:∀{l:List α},jR lt l->jR lt (l.takeWhile p)
 |[],_=>trivial
 |x::l,h=>by
  rw[acL];split
  .refine vq (Av (m_ h)) λy hy=>?_
   cases l with
   |nil=>cases hy
   |cons z l=>
    rw[acL]at hy;split at hy
    .cases hy;exact h.1
    .cases hy
  .trivial
theorem Aw{p:α->Bool}:∀{l:List α},jR lt l->jR lt (l.dropWhile p)
 |[],_=>trivial
 |x::l,h=>by
  rw[ahi];split
  .exact Aw (m_ h)
  .exact h
theorem IZ:∀(r l:List α) {y:α},(kJ lt l r).head?=ae y->l.head?=ae y\/r.head?=ae y
 |[],l,y,h=>.inl h
 |z::r,l,y,h=>by
  unfold kJ at h;cases l with
  |nil=>exact .inr h
  |cons x l=>
   rw[acL]at h;split at h
   .exact .inl h
   .exact .inr h
theorem Ax{p:α->Bool}:∀{l:List α}{x:α},x∈l.takeWhile p->p x=true
 |[],x,h=>by cases h
 |z::l,x,h=>by
  rw[acL]at h;split at h
  .rename_i hz
   rcases aaj.mp h with rfl|h
   .exact hz
   .exact Ax h
  .cases h
theorem FW{p:α->Bool}{l:List α}{x:α}(h:(l.takeWhile p).getLast?=ae x):p x=true:=Ax (List.mem_of_getLast? h)
theorem yJ{p:α->Bool}:∀{l:List α}{x:α},(l.dropWhile p).head?=ae x->p x=false
 |[],x,h=>by cases h
 |z::l,x,h=>by
  rw[ahi]at h;split at h
  .exact yJ h
  .rename_i hz
   cases h;simpa using hz
theorem yK(I0:∀x y,lt x y=true->lt y x=false):∀(r l:List α),jR lt l->jR lt r->jR lt (kJ lt l r)
 |[],l,h,_=>h
 |y::r,l,h,hr=>by
  unfold kJ;refine Ed (Av h) (vq (yK I0 r _ (Aw h) (m_ hr)) λz hz=>?_) λa b ha hb=>?_
  .rcases IZ r _ hz with hz|hz
   .have:=yJ hz
    exact I0 y z (by simpa using this)
   .cases r with
    |nil=>cases hz
    |cons z' r=>cases hz;exact hr.1
  .cases hb
   have:=FW ha;simpa using this
end
section
variable{α:Type}{e:α->D}{lt:α->α->Bool}{x0 x1 f:Nat}{F:FN}
noncomputable abbrev Mn(x0 x1:Nat):List (Nat×FN):=[(x0,cK),(x1,fZ)]
structure Look(x0 x1 f:Nat)(e:α->D)(lt:α->α->Bool)(ok:α->Prop):Prop where
 at_:∃F,(Mn x0 x1).lookup f=ae F/\∀x y c,ok x->ok y->F [e x,e y] c=ae (.bl (lt x y),c)
theorem uj{e:α->D}{l:List α}{k:Nat}{x:α}(h:l[k]? =ae x):gu (l.map e) (k:Int)=ae (e x):=Eb (by rw[aaq,h];rfl)
theorem i9{e:α->D}{a:Nat}{l:List α}{c:Cells}(h:c[a]? =ae (.lst (l.map e))):bu [.ref a] c=ae (.int l.length,c):=by
 rw[vm,aU h];simp
theorem Ha{e:α->D}{a:Nat}{l:List α}{x:α}{c:Cells}(h:c[a]? =ae (.lst (l.map e)))(hn:l.length<9000000):dm (.ref a) [e x] c=ae (.aX,c.set a (.lst ((l++[x]).map e))):=by
 unfold dm one;simp only[aY h,aag,aas];rw[if_pos (show l.length<cC by rw[dF];omega)];simp
theorem Ay{c:Cells}{z y:Cell}:(c++[z]).set c.length y=c++[y]:=by simp
theorem bh{c:Cells}{z:Cell}:(c++[z])[c.length]? =ae z:=by simp
noncomputable abbrev wT(x0 x1:Nat):XT:=jT (tV (e2 sj (eV 4) (eB bu (ag (eV 0) ak)))) (eG (tV (t4 (Mn x0 x1) (eV 2) (ag (eV 5) (ag (e2 ar (eV 0) (eV 4)) ak)))))
noncomputable abbrev wB:XS:=aw (d_ (eM dm (eV 3) (ag (e2 ar (eV 0) (eV 4)) ak))) (aB 4 (e2 bK (eV 4) (eC (.int 1))))
theorem PU{ok:α->Prop}(Lk:Look x0 x1 f e lt ok){l:List α}{y:α}{a:Nat}{c:Cells}{w1:Option D}(bc:∀x∈l,ok x)(hy:ok y)(ha:c[a]? =ae (.lst (l.map e)))(hl:l.length<=1000000):∀(n k:Nat) (row:List α),l.length - k=n->k<=l.length->row.length<=2000000+k->
  eo (wT x0 x1) wB [ae (.ref a),w1,ae (.adr f),ae (.ref c.length),ae (.int k),ae (e y)] (c++[.lst (row.map e)])=ae (.nx,[ae (.ref a),w1,ae (.adr f),ae (.ref c.length),ae (.int (k+((l.drop k).takeWhile λx=>!lt y x).length:Nat)),ae (e y)],c++[.lst ((row++(l.drop k).takeWhile λx=>!lt y x).map e)]):=by
 obtain⟨F,hF,hc⟩:=Lk.at_;have yA:∀row:List α,(c++[.lst (row.map e)])[a]? =ae (.lst (l.map e)):=λrow=>bH ha
 intro n
 induction n with
 |zero=>
  intro k row hk hle hr;have I8:k=l.length:=by omega
  have b1:=i9 (yA row);have d0:l.drop k=[]:=adG (by omega);rw[d0];simp only[List.takeWhile_nil,acg,Nat.add_zero,aa5];refine iU ?_;have gd:decide ((k:Int)<(l.length:Int))=false:=decide_eq_false (by omega);erw[b1,gd]
 |succ n ih=>
  intro k row hk hle hr;have I8:k<l.length:=by omega
  have b1:=i9 (yA row);have gd:decide ((k:Int)<(l.length:Int))=true:=decide_eq_true (by omega);obtain⟨x,hx⟩:∃x,l[k]? =ae x:=⟨_,aac I8⟩;have Ui:x∈l:=aaf hx;have d0:l.drop k=x::l.drop (k+1):=by
   rw[abm I8];rw[aac I8]at hx;rw[aaI hx]
  have s1:=aU (yA row);have a1:=uj (e:=e) hx;have c1:=hc y x (c++[.lst (row.map e)]) hy (bc x Ui);have PX:wT x0 x1 [ae (.ref a),w1,ae (.adr f),ae (.ref c.length),ae (.int k),ae (e y)] (c++[.lst (row.map e)])=ae (!lt y x,c++[.lst (row.map e)]):=by
   have cv:t4 (Mn x0 x1) (eV 2) (ag (eV 5) (ag (e2 ar (eV 0) (eV 4)) ak)) [ae (.ref a),w1,ae (.adr f),ae (.ref c.length),ae (.int k),ae (e y)] (c++[.lst (row.map e)])=ae (.bl (lt y x),c++[.lst (row.map e)]):=by
    unfold t4;erw[gD,s1,a1,hF,c1]
   erw[b1,gd,cv]
  cases ET:lt y x with
  |true=>
   rw[ET]at PX;rw[d0,acL];simp only[ET,abY,aav,if_false,acg,Nat.add_zero,aa5];exact iU PX
  |false=>
   rw[ET]at PX;rw[d0,acL];simp only[ET,aeI,if_true,aaU];have ap:=Ha (e:=e) (x:=x) (bh (c:=c) (z:=.lst (row.map e))) (by omega);rw[Ay]at ap;have bd:wB [ae (.ref a),w1,ae (.adr f),ae (.ref c.length),ae (.int k),ae (e y)] (c++[.lst (row.map e)])=ae (.nx,[ae (.ref a),w1,ae (.adr f),ae (.ref c.length),ae (.int ((k+1:Nat):Int)),ae (e y)],c++[.lst ((row++[x]).map e)]):=by
    have s2:=aY (bh (c:=c) (z:=.lst (row.map e)));erw[gD,s1,a1,s2,ap];rfl
   have r:=ih (k+1) (row++[x]) (by omega) (by omega) (by simp;omega);rw[show k+1+((l.drop (k+1)).takeWhile λx=>!lt y x).length=k+(((l.drop (k+1)).takeWhile λx=>!lt y x).length+1)by omega,aeG]at r;exact nQ PX bd r
theorem Hb{e:α->D}{l:List α}{k:Nat}(h:k<=l.length):Qm.cutD (l.map e) (ae (k:Int)) af=(l.drop k).map e:=by
 have h1:Qm.Dq (l.map e).length 0 (ae (k:Int))=k:=by
  show(if (k:Int)<0 then((k:Int)+(l.map e).length).toNat else min (k:Int).toNat (l.map e).length)=k;rw[if_neg (by omega),aas,acF];omega
 have h2:Qm.Dq (l.map e).length (l.map e).length af=l.length:=by simp[Qm.Dq]
 unfold Qm.cutD;rw[h1,h2,ags (by simp)];simp
theorem Mo{ok:α->Prop}(Lk:Look x0 x1 f e lt ok){l r:List α}{a b:Nat}{c:Cells}(hl:∀x∈l,ok x)(hr:∀x∈r,ok x)(ha:c[a]? =ae (.lst (l.map e)))(hb:c[b]? =ae (.lst (r.map e)))(nl:l.length<=1000000)(nr:r.length<=1000000):
  ∃ws,mZ x0 x1 [.ref a,.ref b,.adr f] c=ae (.ref c.length,c++.lst ((kJ lt l r).map e)::ws):=by
 have lk:∀z,(c++[z])[b]? =ae (.lst (r.map e)):=λz=>bH hb
 have it:iT (eV 1) [ae (.ref a),ae (.ref b),ae (.adr f),ae (.ref c.length),ae (.int 0),af] (c++[.lst []])=ae (⟨r.map e,[(b,.lst (r.map e))]⟩,c++[.lst []]):=vo rfl (lk _);obtain⟨σ',c',e1,row,k,z,rfl,rfl,h1,h2,h3⟩:=cg (ks:=[(b,.lst (r.map e))]) (g:=ay 5) (body:=aw (eo (wT x0 x1) wB) (d_ (eM dm (eV 3) (ag (eV 5) ak))))
  (λi σ c'=>∃row k z,σ=[ae (.ref a),ae (.ref b),ae (.adr f),ae (.ref c.length),ae (.int ((k:Nat):Int)),z]/\c'=c++[.lst (row.map e)]/\kJ lt l r=row++kJ lt (l.drop k) (r.drop i)/\k<=l.length/\row.length=k+i)
  (r.map e) 0 [ae (.ref a),ae (.ref b),ae (.adr f),ae (.ref c.length),ae (.int 0),af] (c++[.lst []])
  (by
   rintro i σ c' ⟨row,k,z,pL,cP,_⟩ p hp;subst cP;cases aak.mp hp;exact lk _)
  (by
   rintro i d σ c' hd ⟨row,k,z,pL,cP,h1,h2,h3⟩;subst pL cP;rw[aaq]at hd;obtain⟨y,hy,rfl⟩:=aax.mp hd;have Uj:y∈r:=aaf hy;have kE:i<r.length:=(aae.mp hy).1;have w:=PU Lk (y:=y) (w1:=ae (.ref b)) hl (hr y Uj) ha nl _ k row rfl h2 (by omega);generalize HP:(l.drop k).takeWhile (λx=>!lt y x)=tk at w;have ZH:(l.drop k).dropWhile (λx=>!lt y x)=l.drop (k+tk.length):=by
    have h:=aeH (p:=λx=>!lt y x) (l:=l.drop k);rw[HP]at h;have h4:=congrArg (List.drop tk.length) h;rw[List.drop_left]at h4;rw[<-List.drop_drop];exact h4
   have ZI:k+tk.length<=l.length:=by
    have:tk.length<=(l.drop k).length:=by rw[<-HP];exact(List.takeWhile_sublist _).length_le
    rw[ae0]at this;omega
   have ap:=Ha (e:=e) (x:=y) (bh (c:=c) (z:=.lst ((row++tk).map e))) (by simp;omega);rw[Ay]at ap;have s2:=aY (bh (c:=c) (z:=.lst ((row++tk).map e)));refine⟨_,_,[ae (.ref a),ae (.ref b),ae (.adr f),ae (.ref c.length),ae (.int ((k+tk.length:Nat):Int)),ae (e y)],c++[.lst ((row++tk++[y]).map e)],rfl,?_,row++tk++[y],k+tk.length,ae (e y),rfl,rfl,?_,ZI,by simp;omega⟩
   .erw[w,s2,ap]
   .rw[h1,show 0+i+1=i+1 from by omega,show 0+i=i from by omega]
    rw[abm kE];have:r[i]=y:=by
     rw[aac kE]at hy;exact aaI hy
    rw[this,kJ,HP,ZH];simp)
  ⟨[],0,af,rfl,rfl,rfl,abk _,rfl⟩
 have s0:=aU (bH (zs:=[.lst (row.map e)]) ha);have e2:=gH (g:=ay 5) (b:=aw (eo (wT x0 x1) wB) (d_ (eM dm (eV 3) (ag (eV 5) ak)))) it;rw[e1]at e2;have e3:r.drop (0+(r.map e).length)=[]:=adG (by simp);rw[e3,kJ]at h1;have s2:bp (.ref c.length) (c++[.lst (row.map e)]++[.lst ((l.drop k).map e)])=ae (c.length,row.map e):=aY (bH bh);have PY:bp (.ref c.length) (c++[.lst (row.map e)])=ae (c.length,row.map e):=aY bh;have s3:bp (.ref (c++[Cell.lst (row.map e)]).length) (c++[.lst (row.map e)]++[.lst ((l.drop k).map e)])=ae ((c++[Cell.lst (row.map e)]).length,(l.drop k).map e):=aY bh;have mx:fU (.ref c.length) [.ref (c++[Cell.lst (row.map e)]).length] (c++[.lst (row.map e)]++[.lst ((l.drop k).map e)])=ae (.aX,c++.lst ((kJ lt l r).map e)::[.lst ((l.drop k).map e)]):=by
  unfold fU one;simp only[s2,s3,aag,aas];rw[if_pos (show row.length+(l.drop k).length<=cC by rw[dF,ae0,h3];simp;omega)];rw[h1];simp
 refine⟨[.lst ((l.drop k).map e)],?_⟩;have ct:ic (.ref a) (ae (k:Int)) af (c++[.lst (row.map e)])=ae (.ref (c++[Cell.lst (row.map e)]).length,c++[.lst (row.map e)]++[.lst ((l.drop k).map e)]):=by
  show((cq (.ref a) (c++[.lst (row.map e)])).bind _)=_;rw[s0,aag,Hb h2]
 rw[mZ,gp,qA];erw[e2,PY,uh,ct,mx,abk]
end
section
variable{α:Type}{e:α->D}{lt:α->α->Bool}{x0 x1 f:Nat}
structure Runs(e:α->D)(c:Cells)(ids:List Nat)(rows:List (List α)):Prop where
 len:ids.length=rows.length
 at_:∀(i n:Nat) l,ids[i]? =ae n->rows[i]? =ae l->c[n]? =ae (.lst (l.map e))
theorem Runs.up{c c':Cells}{ids:List Nat}{rows:List (List α)}(h:Runs e c ids rows)(k:c <+:c'):Runs e c' ids rows:=⟨h.len,λi n l h1 h2=>aA k (h.at_ i n l h1 h2)⟩
theorem Runs.get{c:Cells}{ids:List Nat}{rows:List (List α)}(h:Runs e c ids rows){i:Nat}{l:List α}(hl:rows[i]? =ae l):∃n,ids[i]? =ae n/\c[n]? =ae (.lst (l.map e)):=by
 have hi:=(aae.mp hl).1;rw[<-h.len]at hi;exact⟨ids[i],aac hi,h.at_ i _ l (aac hi) hl⟩
def uk(lt:α->α->Bool):List (List α)->List (List α)
 |a::b::r=>kJ lt a b::uk lt r
 |r=>r
theorem yL:∀(rows:List (List α)),(uk lt rows).length=(rows.length+1) / 2
 |[]=>by simp[uk]
 |[_]=>by simp[uk]
 |a::b::r=>by
  have:=yL r;simp only[uk,aaU,this];omega
theorem Cd:∀(rows:List (List α)) (i:Nat) (a b:List α),rows[2*i]? =ae a->rows[2*i+1]? =ae b->(uk lt rows)[i]? =ae (kJ lt a b)
 |[],i,a,b,h,_=>by simp at h
 |[_],i,a,b,h,g=>by simp at g
 |x::y::r,0,a,b,h,g=>by
  simp at h g;subst h g;rfl
 |x::y::r,i+1,a,b,h,g=>by
  rw[show 2*(i+1)=2*i+1+1 by omega]at h;rw[show 2*(i+1)+1=2*i+1+1+1 by omega]at g;exact Cd r i a b (by simpa using h) (by simpa using g)
theorem Ee:∀(rows:List (List α)) (a:List α),rows.length % 2=1->rows[rows.length - 1]? =ae a->(uk lt rows)[rows.length / 2]? =ae a
 |[],a,h,_=>by simp at h
 |[x],a,_,h=>by simpa[uk]using h
 |x::y::r,a,h,g=>by
  have hr:r.length % 2=1:=by simp at h;omega
  have h1:(x::y::r).length - 1=(r.length - 1)+1+1:=by simp;omega
  have h2:(x::y::r).length / 2=r.length / 2+1:=by simp;omega
  rw[h1]at g;rw[h2];exact Ee r a hr (by simpa using g)
theorem Az:∀(rows:List (List α)),(uk lt rows).flatten.Perm rows.flatten
 |[]=>.refl _
 |[_]=>.refl _
 |a::b::r=>by
  simp only[uk,ahO];exact((qC b a).append (Az r)).trans (by rw[aeG])
theorem yM{P:List α->Prop}(hP:∀a b,P a->P b->P (kJ lt a b)):∀(rows:List (List α)),(∀l∈rows,P l)->∀l∈uk lt rows,P l
 |[],h=>h
 |[_],h=>h
 |a::b::r,h=>by
  intro l hl;rcases aaj.mp hl with rfl|hl
  .exact hP _ _ (h a (by simp)) (h b (by simp))
  .exact yM hP r (λl hl=>h l (by simp[hl])) l hl
theorem pM{ids:List Nat}{i n:Nat}(h:ids[i]? =ae n):gu (ids.map D.ref) (i:Int)=ae (.ref n):=uj (e:=D.ref) h
theorem Mp{lo:Int}{n i:Nat}{d:D}(h:(pD lo n)[i]? =ae d):i<n/\d= .int (lo+i*2):=by
 unfold pD at h;rw[aaq]at h;obtain⟨j,hj,rfl⟩:=aax.mp h;obtain⟨h1,h2⟩:=aae.mp hj;simp at h1 h2;subst h2;exact⟨h1,rfl⟩
theorem yN{ok:α->Prop}(Lk:Look x0 x1 f e lt ok){ids:List Nat}{rows:List (List α)}{R:Nat}{c:Cells}(hR:c[R]? =ae (.lst (ids.map D.ref)))(hr:Runs e c ids rows)(bc:∀l∈rows,∀x∈l,ok x)(hn:∀l∈rows,l.length<=1000000)(h2: 2<=rows.length)(h3:rows.length<=1000000):
  ∃um c',eE x0 x1 [.ref R,.adr f] c=ae (.ref c.length,c')/\c <+:c'/\c'[c.length]? =ae (.lst (um.map D.ref))/\Runs e c' um (uk lt rows)/\∀m∈um,m∈ids\/c.length<=m:=by
 have yO:=hr.len;have bl:bu [.ref R] c=ae (.int ids.length,c):=i9 (e:=D.ref) hR;have hi:BV (ag (eC (.int 0)) (ag (e2 bG (eB bu (ag (eV 0) ak)) (eC (.int 1))) (ag (eC (.int 2)) ak))) [ae (.ref R),ae (.adr f),af] c=ae (⟨pD 0 (rows.length / 2),[]⟩,c):=by
  unfold BV;have ha:ag (eC (.int 0)) (ag (e2 bG (eB bu (ag (eV 0) ak)) (eC (.int 1))) (ag (eC (.int 2)) ak)) [ae (.ref R),ae (.adr f),af] c=ae ([.int 0,.int (ids.length - 1),.int 2],c):=by erw[bl]
  rw[ha,aag];dsimp only
  rw[if_pos ⟨rfl,⟨by omega,by omega⟩,⟨by omega,by omega⟩⟩];rw[show((ids.length:Int) - 1 - 0+1) / 2=((rows.length / 2:Nat):Int)by omega];rfl
 obtain⟨vs,c1,e1,p1,g1,l1,r1⟩:=vp (te:=au (mZ x0 x1) [] (ag (e2 ar (eV 2) (eV 0)) (ag (e2 ar (eV 2) (e2 bK (eV 0) (eC (.int 1)))) (ag (eV 1) ak)))) (g:=ay 0) (cap:=[af,ae 1,ae 0])
  (λτ=>∃z,τ=[z,ae (.adr f),ae (.ref R)]) (λi v c'=>∃n a b,v= .ref n/\c.length<n/\rows[2*i]? =ae a/\rows[2*i+1]? =ae b/\c'[n]? =ae (.lst ((kJ lt a b).map e))) hi ef ⟨af,rfl⟩
  (λi v c1 c2 ⟨n,a,b,h1,h2,h3,h4,h5⟩ fr=>⟨n,a,b,h1,h2,h3,h4,fr n _ (by omega) h5⟩)
  (by
   rintro i d hd τ c' ⟨z,vt⟩ pc lc;subst vt;obtain⟨Ve,rfl⟩:=Mp hd;obtain⟨a,ha⟩:∃a,rows[2*i]? =ae a:=⟨_,aac (by omega)⟩;obtain⟨b,hb⟩:∃b,rows[2*i+1]? =ae b:=⟨_,aac (by omega)⟩;obtain⟨na,ga,ca⟩:=hr.get ha;obtain⟨nb,gb,cb⟩:=hr.get hb;have ma:=aaf ha;have mb:=aaf hb;obtain⟨ws,em⟩:=Mo Lk (bc a ma) (bc b mb) (aA pc ca) (aA pc cb) (hn a ma) (hn b mb);have s0:=aU (aA pc hR);have t1:=pM ga;have t2:=pM gb;rw[show(((2*i:Nat)):Int)=0+(i:Int)*2 by omega]at t1;rw[show(((2*i+1:Nat)):Int)=0+(i:Int)*2+1 by omega]at t2;refine⟨[ae (.int (0+i*2)),ae (.adr f),ae (.ref R)],.ref c'.length,.lst ((kJ lt a b).map e)::ws,rfl,?_,⟨_,rfl⟩,c'.length,a,b,rfl,by omega,ha,hb,by simp⟩;erw[gD,s0,t1,t2,em])
  (by simp[pD];omega)
 have Uk:vs.length=rows.length / 2:=by rw[l1];simp[pD]
 have ref:∃ns:List Nat,vs=ns.map D.ref/\ns.length=vs.length/\∀(i n:Nat),ns[i]? =ae n->c.length<n/\∃a b,rows[2*i]? =ae a/\rows[2*i+1]? =ae b/\c1[n]? =ae (.lst ((kJ lt a b).map e)):=by
  clear e1 g1 l1 Uk;have:∀(vs:List D) (k:Nat),(∀i v,vs[i]? =ae v->∃n a b,v=D.ref n/\c.length<n/\rows[2*(k+i)]? =ae a/\rows[2*(k+i)+1]? =ae b/\c1[n]? =ae (.lst ((kJ lt a b).map e)))->∃ns:List Nat,vs=ns.map D.ref/\ns.length=vs.length/\∀(i n:Nat),ns[i]? =ae n->c.length<n/\∃a b,rows[2*(k+i)]? =ae a/\rows[2*(k+i)+1]? =ae b/\c1[n]? =ae (.lst ((kJ lt a b).map e)):=by
   intro vs
   induction vs with
   |nil=>exact λk _=>⟨[],rfl,rfl,λi n h=>by cases h⟩
   |cons v vs ih=>
    intro k h;obtain⟨n,a,b,rfl,h0,h1,h2,h3⟩:=h 0 v rfl;obtain⟨ns,rfl,h4,h5⟩:=ih (k+1) λi v hv=>by
     have:=h (i+1) v (by simpa using hv);rwa[show k+(i+1)=k+1+i by omega]at this
    refine⟨n::ns,rfl,by simp,λi m hm=>?_⟩;cases i with
    |zero=>
     cases hm;exact⟨h0,a,b,h1,h2,h3⟩
    |succ i=>
     have:=h5 i m (by simpa using hm);rwa[show k+1+i=k+(i+1)by omega]at this
  obtain⟨ns,h1,h2,h3⟩:=this vs 0 λi v hv=>by rw[acC];exact r1 i v hv
  exact⟨ns,h1,h2,λi n hn=>by have:=h3 i n hn;rwa[acC]at this⟩
 obtain⟨ns,rfl,ln,Bs⟩:=ref;have W4:bu [.ref R] c1=ae (.int ids.length,c1):=i9 (e:=D.ref) (aA p1 hR);have fQ:=yL (lt:=lt) rows;rw[<-ln]at Uk
 by_cases W5:rows.length % 2=1
 .obtain⟨a,ha⟩:∃a,rows[rows.length - 1]? =ae a:=⟨_,aac (by omega)⟩
  obtain⟨m,gm,cm⟩:=hr.get ha;have hm:decide ((ids.length:Int) % 2=1)=true:=decide_eq_true (by omega);have s0:=aU (aA p1 hR);have t1:gu (ids.map D.ref) (-1)=ae (.ref m):=by
   have fm:ids≠[]:=λh=>by rw[h]at yO;simp at yO;omega
   have:ids=ids.dropLast++[m]:=by
    have h4:=afc fm;rw[List.getLast_eq_getElem]at h4;have h5:ids[ids.length - 1]'(by omega)=m:=by
     rw[<-yO,aac (by omega)]at gm;exact aaI gm
    rw[h5]at h4;exact h4.symm
   rw[this,ado];exact IY
  have ZJ:m≠c.length:=by have:=bM cm;omega
  have s2:=aY g1;have ap:=Ha (e:=D.ref) (x:=m) g1 (by omega);refine⟨ns++[m],c1.set c.length (.lst ((ns++[m]).map D.ref)),?_,yI p1 (aam _),jv (bM g1),⟨by rw[fQ];simp;omega,λi n l h1 h2=>?_⟩,λq hq=>?_⟩
  .rw[eE,gp,fW]
   erw[e1,W4,hm,gD,s0,t1,s2,ap]
  .rcases aeb i ns.length with I9|I9
   .rw[aaM I9]at h1
    obtain⟨q1,a',b',q2,q3,q4⟩:=Bs i n h1;rw[Cd rows i a' b' q2 q3]at h2;cases h2;exact cJ q4 (by omega)
   .have:i=ns.length:=by
     have:=(aae.mp h1).1;simp at this;omega
    subst this;rw[acQ (aam _),Nat.sub_self]at h1;cases h1;rw[Uk,Ee rows a W5 ha]at h2;cases h2;exact cJ (aA p1 cm) ZJ
  .rcases aaJ.mp hq with hq|hq
   .obtain⟨i,I9⟩:=aaS hq
    exact .inr (adt (Bs i q I9).1)
   .cases aak.mp hq
    exact .inl (aaf gm)
 .have hm:decide ((ids.length:Int) % 2=1)=false:=decide_eq_false (by omega)
  refine⟨ns,c1,?_,p1,g1,⟨by rw[fQ];omega,λi n l h1 h2=>?_⟩,λq hq=>?_⟩
  .rw[eE,gp,fW]
   erw[e1,W4,hm]
  .obtain⟨q1,a',b',q2,q3,q4⟩:=Bs i n h1
   rw[Cd rows i a' b' q2 q3]at h2;cases h2;exact q4
  .obtain⟨i,I9⟩:=aaS hq
   exact .inr (adt (Bs i q I9).1)
theorem Mq{a b:List α}{x:α}:x∈kJ lt a b↔x∈a\/x∈b:=by rw[(qC b a).mem_iff,aaJ]
theorem Mr{ok:α->Prop}(Lk:Look x0 x1 f e lt ok)(I0:∀x y,lt x y=true->lt y x=false){A:Option D}{c0:Cells}:∀(n:Nat) (ids:List Nat) (rows:List (List α)) (R:Nat) (c:Cells),rows.length=n->c[R]? =ae (.lst (ids.map D.ref))->Runs e c ids rows->(∀l∈rows,jR lt l)->(∀l∈rows,∀x∈l,ok x)->rows.flatten.length<=1000000->n<=1000000->c0 <+:c->(∀m∈ids,c0.length<=m)->
  ∃um mf R' c',eo (tV (e2 oK (eB bu (ag (eV 2) ak)) (eC (.int 1)))) (aB 2 (au (eE x0 x1) [] (ag (eV 2) (ag (eV 1) ak)))) [A,ae (.adr f),ae (.ref R)] c=ae (.nx,[A,ae (.adr f),ae (.ref R')],c')/\c0 <+:c'/\c'[R']? =ae (.lst (um.map D.ref))/\Runs e c' um mf/\mf.length<=1/\mf.flatten.Perm rows.flatten/\(∀l∈mf,jR lt l)/\(rows.length=0->mf.length=0)/\(∀m∈um,c0.length<=m):=by
 intro n
 induction n using agM with
 |_ n ih=>
  intro ids rows R c hn hR hr iE bc PZ hnn hp Ms;have bl:bu [.ref R] c=ae (.int ids.length,c):=i9 (e:=D.ref) hR;have yO:=hr.len
  by_cases h1:rows.length<=1
  .have hm:decide ((ids.length:Int) > 1)=false:=decide_eq_false (by omega)
   exact⟨ids,rows,R,c,iU (by erw[bl,hm]),hp,hR,hr,h1,.refl _,iE,id,Ms⟩
  .have hm:decide ((ids.length:Int) > 1)=true:=decide_eq_true (by omega)
   have hsz:∀l∈rows,l.length<=1000000:=λl hl=>by
    have:=(List.sublist_flatten_of_mem hl).length_le;omega
   obtain⟨um,c',e1,p1,g1,r1,m1⟩:=yN Lk hR hr bc hsz (by omega) (by omega);have fQ:=yL (lt:=lt) rows;have W6:=Az (lt:=lt) rows;have Wn:=iy hp;obtain⟨W7,FX,R2,c2,f1,f2,f3,f4,f5,f6,f7,f8,f9⟩:=ih (uk lt rows).length (by omega) um (uk lt rows) c.length c' rfl g1 r1 (yM (P:=jR lt) (λa b ha hb=>yK I0 b a ha hb) rows iE) (yM (P:=λl=>∀x∈l,ok x) (λa b ha hb x hx=>(Mq.mp hx).elim (ha x) (hb x)) rows bc) (by rw[W6.length_eq];exact PZ) (by omega) (hp.trans p1) (λm hm=>(m1 m hm).elim (Ms m) λh=>aa7 Wn h);refine⟨W7,FX,R2,c2,nQ (c':=c) (c2:=c') (σ':=[A,ae (.adr f),ae (.ref c.length)]) (by erw[bl,hm]) (by erw[e1]) f1,f2,f3,f4,f5,f6.trans W6,f7,λh=>by omega,f9⟩
theorem single:∀(xs:List α),(xs.map λx=>[x]).flatten=xs
 |[]=>rfl
 |x::xs=>by
  rw[aaV,ahO,single xs];rfl
theorem yP{ok:α->Prop}(Lk:Look x0 x1 f e lt ok)(I0:∀x y,lt x y=true->lt y x=false){xs:List α}{a:Nat}{c:Cells}(ha:c[a]? =ae (.lst (xs.map e)))(bc:∀x∈xs,ok x)(hn:xs.length<=1000000):
  ∃n ys c',eO x0 x1 [.ref a,.adr f] c=ae (.ref n,c')/\c <+:c'/\c.length<=n/\c'[n]? =ae (.lst (ys.map e))/\ys.Perm xs/\jR lt ys:=by
 have hi:iT (eV 0) [ae (.ref a),ae (.adr f),af] c=ae (⟨xs.map e,[(a,.lst (xs.map e))]⟩,c):=vo rfl ha;obtain⟨vs,c1,e1,p1,g1,l1,r1⟩:=vp (te:=eI (ag (eV 0) ak)) (g:=ay 0) (cap:=[af]) (λτ=>∃z,τ=[z]) (λi v c'=>∃n x,v= .ref n/\c.length<n/\xs[i]? =ae x/\c'[n]? =ae (.lst ([x].map e))) hi (λp hp=>by cases aak.mp hp;exact ha) ⟨af,rfl⟩
  (λi v c1 c2 ⟨n,x,h1,h2,h3,h4⟩ fr=>⟨n,x,h1,h2,h3,fr n _ (by omega) h4⟩)
  (by
   rintro i d hd τ c' ⟨z,vt⟩ pc lc;subst vt;rw[aaq]at hd;obtain⟨x,hx,rfl⟩:=aax.mp hd;refine⟨[ae (e x)],.ref c'.length,[.lst [e x]],rfl,?_,⟨_,rfl⟩,c'.length,x,rfl,lc,hx,by simp⟩;erw[])
  (by simp;omega)
 have ref:∃ns:List Nat,vs=ns.map D.ref/\Runs e c1 ns (xs.map λx=>[x])/\∀m∈ns,c.length<=m:=by
  clear e1 g1;rw[aas]at l1;have:∀(vs:List D) (xs:List α),vs.length=xs.length->(∀(i:Nat) v,vs[i]? =ae v->∃n x,v=D.ref n/\c.length<n/\xs[i]? =ae x/\c1[n]? =ae (.lst ([x].map e)))->∃ns:List Nat,vs=ns.map D.ref/\Runs e c1 ns (xs.map λx=>[x])/\∀m∈ns,c.length<=m:=by
   intro vs
   induction vs with
   |nil=>
    intro xs hl _;cases xs with
    |nil=>exact⟨[],rfl,⟨rfl,λi n l h=>by cases h⟩,λm h=>nomatch h⟩
    |cons _ _=>simp at hl
   |cons v vs ih=>
    intro xs hl h;cases xs with
    |nil=>simp at hl
    |cons x xs=>
     obtain⟨n,x',rfl,h0,h1,h2⟩:=h 0 v rfl;cases h1;obtain⟨ns,rfl,h4,h5⟩:=ih xs (by simpa using hl) λi v hv=>by
      have:=h (i+1) v (by simpa using hv);simpa using this
     refine⟨n::ns,rfl,⟨by simpa using h4.len,λi m l h6 h7=>?_⟩,λm hm=>?_⟩
     .cases i with
      |zero=>
       cases h6;cases h7;exact h2
      |succ i=>exact h4.at_ i m l (by simpa using h6) (by simpa using h7)
     .rcases aaj.mp hm with rfl|hm
      .exact adt h0
      .exact h5 m hm
  exact this vs xs l1 r1
 obtain⟨ns,rfl,hr,hm⟩:=ref;have PZ:(xs.map λx=>[x]).flatten=xs:=single xs;obtain⟨ids,rows,R,c2,f1,f2,f3,f4,f5,f6,f7,f8,f9⟩:=Mr Lk I0 (A:=ae (.ref a)) (c0:=c) _ ns (xs.map λx=>[x]) c.length c1 rfl g1 hr (λl hl=>by
  obtain⟨x,_,rfl⟩:=aaE.mp hl
  trivial) (λl hl y hy=>by
  obtain⟨x,hx,rfl⟩:=aaE.mp hl;cases aak.mp hy;exact bc _ hx) (by rw[PZ];exact hn) (by simpa using hn) p1 hm
 rw[PZ]at f6;have yO:=f4.len;have bl:bu [.ref R] c2=ae (.int ids.length,c2):=i9 (e:=D.ref) f3;cases W8:rows with
 |nil=>
  subst W8;have ZK:ids.length=0:=yO;have hm:decide ((ids.length:Int)=1)=false:=decide_eq_false (by omega);refine⟨c2.length,[],c2++[.lst []],?_,pre_app f2,iy f2,by simp,by simpa using f6,trivial⟩;rw[eO,gp,jF];erw[e1,f1,bl,hm,abk]
 |cons l rest=>
  subst W8;have ZL:rest=[]:=by
   cases rest with
   |nil=>rfl
   |cons _ _=>simp at f5
  subst ZL;obtain⟨n,gn,cn⟩:=f4.get (i:=0) (l:=l) rfl;have ZK:ids.length=1:=yO;have hm:decide ((ids.length:Int)=1)=true:=decide_eq_true (by omega);have s0:=aU f3;have t1:gu (ids.map D.ref) 0=ae (.ref n):=pM gn;refine⟨n,l,c2,?_,f2,f9 n (aaf gn),cn,by simpa using f6,f7 l (by simp)⟩;rw[eO,gp,jF];erw[e1,f1,bl,hm,gD,s0,t1]
end
def sp(x y w:Int):D:=.tup [.int x,.int y,.int w]
structure Sp(k:Nat)(x y w:Int):Prop where
 low:My.Di x y w
 bx:My.Bd k x
 hV:My.Bd k y
 bw:My.Bd k w
variable{k:Nat}{x y w:Int}
theorem Sp.pos(h:Sp k x y w): 0<w:=h.low.pos
variable{j:Nat}
theorem Sp.mono(h:Sp j x y w)(e:j<=k):Sp k x y w:=⟨h.low,h.bx.mono e,h.hV.mono e,h.bw.mono e⟩
theorem Sp.mk'(hw:w≠0)(bx:My.Bd k x)(hV:My.Bd k y)(bw:My.Bd k w):Sp k (My.sx x y w) (My.sy x y w) (My.sw x y w):=
 ⟨My.mG hw,My.Bd.of_le bx (My.So hw),My.Bd.of_le hV (My.Sq hw),My.Bd.of_le bw (My.Sr hw)⟩
abbrev T3:=My.T3
def sd(p:T3):D:=sp p.1 p.2.1 p.2.2
abbrev Ok(k:Nat)(p:T3):Prop:=Sp k p.1 p.2.1 p.2.2
variable{p:T3}
theorem Ok.cS(h:Ok k p):My.aS p:=h.low
theorem qD{i:Int}:ar (sp x y w) (.int i) c=(gu [D.int x,.int y,.int w] i).bind λd=>ae (d,c):=rfl
variable{q:T3}
theorem W9(hp:Ok 8000 p)(hq:Ok 8000 q):lL [sd p,sd q] c=ae (.bl (decide (p.2.1*q.2.2<q.2.1*p.2.2)),c):=by
 have a1:=hp.bx;have a2:=hp.hV;have a3:=hp.bw;have b1:=hq.bx;have b2:=hq.hV;have b3:=hq.bw;erw[lL,lK,sd,qD]
theorem iC(hp:Ok 8000 p)(hq:Ok 8000 q):cK [sd p,sd q] c=ae (.bl (My.aP p q),c):=by
 have a1:=hp.bx;have a2:=hp.hV;have a3:=hp.bw;have b1:=hq.bx;have b2:=hq.hV;have b3:=hq.bw;have e:=W9 (c:=c) hp hq;unfold sd at e |-
 unfold My.aP My.lj
 by_cases h:p.1*q.2.2=q.1*p.2.2
 .rw[if_pos h]
  erw[cK,pK,qD,decide_eq_true h,e]
 .rw[if_neg h]
  erw[cK,pK,qD,decide_eq_false h]
def pd(p:T3):PyData:=.tuple [.int p.1,.int p.2.1,.int p.2.2]
theorem xA:pd p=pd q↔p=q:=by
 obtain⟨a,b,c⟩:=p;obtain⟨x,y,z⟩:=q;simp[pd]
theorem jJ:data c (k+2) (sd p)=ae (pd p):=rfl
theorem ng{α β γ:Type}{f:β->Option γ}{g:α->β}{h:α->γ}(e:∀a,f (g a)=ae (h a)):∀l:List α,omap f (l.map g)=ae (l.map h)
 |[]=>rfl
 |a::l=>by simp only[aaV,omap,e,aag,ng e l]
theorem Hc:nN (sd p) (sd q) c=ae (decide (p=q)):=by
 have e:nN (sd p) (sd q) c=(data c 6 (sd p)).bind λd=>(data c 6 (sd q)).bind λe=>ae (@decide (d=e) (ady _)):=rfl
 rw[e,jJ,jJ,aag,aag]
 congr 1
 rw[aa1];simp only[decide_eq_true_eq];exact xA
theorem Ce:eJ (sd p) (sd q) c=ae (.bl (decide (p=q)),c):=by unfold eJ;rw[Hc];rfl
theorem uo:iS (sd p) (sd q) c=ae (.bl (!decide (p=q)),c):=by unfold iS;rw[Hc];rfl
theorem P0:sd p=sd q↔p=q:=by
 obtain⟨a,b,c⟩:=p;obtain⟨x,y,z⟩:=q;simp[sd,sp]
def side(p q:T3):D:=.tup [sd p,sd q]
theorem wZ(r:T3)(c:Cells):ar (sd r) (.int 0) c=ae (.int r.1,c):=rfl
theorem w6(r:T3)(c:Cells):ar (sd r) (.int 1) c=ae (.int r.2.1,c):=rfl
theorem vw(r:T3)(c:Cells):ar (sd r) (.int 2) c=ae (.int r.2.2,c):=rfl
theorem pN(a b:T3)(c:Cells):ar (side a b) (.int 0) c=ae (sd a,c):=rfl
theorem pO(a b:T3)(c:Cells):ar (side a b) (.int 1) c=ae (sd b,c):=rfl
theorem Ul{n:Int}:qz [.int n] c=ae (.int (My.sgn n),c):=by
 unfold My.sgn
 by_cases h: 0<n
 .rw[if_pos h];erw[qz,qy,decide_eq_true h]
 .rw[if_neg h]
  by_cases h2:n<0
  .rw[if_pos h2];erw[qz,qy,decide_eq_false h,decide_eq_true h2]
  .rw[if_neg h2];erw[qz,qy,decide_eq_false h,decide_eq_false h2]
def dt(a b p:T3):Int:=My.det a.1 a.2.1 a.2.2 b.1 b.2.1 b.2.2 p.1 p.2.1 p.2.2
theorem vx(hp:Ok 8000 p)(hq:Ok 8000 q):fK [sd p,sd q] c=ae (sd (p.2.1*q.2.2 - p.2.2*q.2.1,p.2.2*q.1 - p.1*q.2.2,p.1*q.2.1 - p.2.1*q.1),c):=by
 have a1:=hp.bx;have a2:=hp.hV;have a3:=hp.bw;have b1:=hq.bx;have b2:=hq.hV;have b3:=hq.bw;erw[fK,kG,wZ,w6,vw];rfl
variable{b a:T3}
theorem FY(ha:Ok 8000 a)(hb:Ok 8000 b)(hp:Ok 8000 p):og [sd a,sd b,sd p] c=ae (.int (My.sgn (dt a b p)),c):=by
 have a1:=ha.bx;have a2:=ha.hV;have a3:=ha.bw;have b1:=hb.bx;have b2:=hb.hV;have b3:=hb.bw;have p1:=hp.bx;have p2:=hp.hV;have p3:=hp.bw;have e:=vx (c:=c) ha hb;have k0:My.Bd 90000 (a.2.1*b.2.2 - a.2.2*b.2.1):=(My.Bd.sub (a2.mul b3) (a3.mul b2)).mono (by decide);have k1:My.Bd 90000 (a.2.2*b.1 - a.1*b.2.2):=(My.Bd.sub (a3.mul b1) (a1.mul b3)).mono (by decide);have k2:My.Bd 90000 (a.1*b.2.1 - a.2.1*b.1):=(My.Bd.sub (a1.mul b2) (a2.mul b1)).mono (by decide);have q1:=p1.mono (k:=90000) (by decide);have q2:=p2.mono (k:=90000) (by decide);have q3:=p3.mono (k:=90000) (by decide);have s:=Ul (n:=dt a b p) (c:=c);unfold dt My.det at s |-
 erw[og,xy,e,wZ,w6,vw,bU (pJ k0 q1),bU (pJ k1 q2),bU (pJ k2 q3),s]
theorem qE(ha:Ok 8000 a)(hb:Ok 8000 b):dO [side a b] c=ae (if My.aP a b=true then side a b else side b a,c):=by
 have e:=iC (c:=c) ha hb;cases h:My.aP a b
 .rw[h]at e
  erw[dO,kH,pN,pO,e];rfl
 .rw[h]at e
  erw[dO,kH,pN,pO,e]
def Ef(p a b:T3):Bool:=My.zH p.1 p.2.1 p.2.2 a.1 a.2.1 a.2.2 b.1 b.2.1 b.2.2
theorem I_(hp:Ok 8000 p)(ha:Ok 8000 a)(hb:Ok 8000 b):gE [sd p,side a b] c=ae (.bl (Ef p a b),c):=by
 have e:=FY (c:=c) ha hb hp;have f:=qE (c:=c) ha hb;unfold Ef My.zH
 by_cases h:dt a b p=0
 .have hs:My.sgn (dt a b p)=0:=by rw[h];rfl
  unfold dt at h;rw[if_pos h];rw[hs]at e
  by_cases Cf:My.aP a b=true
  .rw[if_pos Cf]at f
   have yA:My.lj a.1 a.2.1 a.2.2 b.1 b.2.1 b.2.2=true:=Cf;rw[if_pos yA];have g1:=iC (c:=c) hp ha;have g2:=iC (c:=c) hb hp;change _=ae (D.bl (!My.aP p a&&!My.aP b p),c);cases h1:My.aP p a<;>cases h2:My.aP b p<;>rw[h1]at g1<;>rw[h2]at g2<;>erw[gE,ji,pN,pO,e,f,g1,g2]<;>rfl
  .rw[if_neg Cf]at f
   have yA:¬My.lj a.1 a.2.1 a.2.2 b.1 b.2.1 b.2.2=true:=Cf;rw[if_neg yA];have g1:=iC (c:=c) hp hb;have g2:=iC (c:=c) ha hp;change _=ae (D.bl (!My.aP p b&&!My.aP a p),c);cases h1:My.aP p b<;>cases h2:My.aP a p<;>rw[h1]at g1<;>rw[h2]at g2<;>erw[gE,ji,pN,pO,e,f,g1,g2]<;>rfl
 .have hs:¬My.sgn (dt a b p)=0:=λg=>h (My.j7 g)
  unfold dt at h;rw[if_neg h];erw[gE,ji,pN,pO,e,decide_eq_false hs]
theorem P1{i j:Int}(h:j≠0):gY (.int i) (.int j) c=ae (.int (i.fmod j),c):=by
 unfold gY;rw[IX,if_pos h];rfl
theorem Eg{i j:Int}(h:j≠0)(hb:My.Bd 8900 j):ed (.int i) (.int j) c=ae (.int (i.fdiv j),c):=by
 unfold ed;rw[IX,if_pos ⟨h,hb⟩];rfl
theorem AA{n m:Int}:kF [.int n,.int m] c=ae (.int (aaA n m),c):=by
 have loop:∀(k:Nat) (x y:Int) (z:Option D),y.natAbs=k->∃g z',eo (tV (e2 iS (eV 1) (eC (.int 0)))) (aw (aB 2 (e2 gY (eV 0) (eV 1))) (aw (aB 0 (eV 1)) (aB 1 (eV 2)))) [ae (.int x),ae (.int y),z] c=ae (.nx,[ae (.int g),ae (.int 0),z'],c)/\(if g<0 then -g else g)=(aaA x y:Int):=by
  intro k
  induction k using agM with
  |_ k ih=>
   intro x y z hk
   by_cases h:y=0
   .subst h
    exact⟨x,z,iU (by erw[]),(My.gcd_zero x).symm⟩
   .have lt:=My.wQ x h
    obtain⟨g,z',e,r⟩:=ih (x.fmod y).natAbs (by omega) y (x.fmod y) (ae (.int (x.fmod y))) rfl;rw[My.HZ]at r;exact⟨g,z',nQ (c':=c) (c2:=c) (by erw[decide_eq_false h]) (by erw[P1 h]) e,r⟩
 obtain⟨g,z',e,r⟩:=loop _ n m af rfl;erw[kF,n_,e,r]
theorem P4(hw:w≠0)(hb:My.Bd 8900 w):uf [.int x,.int y,.int w] c=ae (sd (My.spT x y w),c):=by
 have d1:=AA (n:=x) (m:=w) (c:=c);have d2:=AA (n:=(aaA x w:Int)) (m:=y) (c:=c);have n0:=My.tD (x:=x) (y:=y) hw;have nb:My.Bd 8900 (My.jN x y w):=My.Bd.of_le hb (My.OG hw);unfold My.spT My.sx My.sy My.sw
 by_cases h:w<0
 .have es:My.jN x y w= -(aaA (aaA x w:Int) y:Int):=by unfold My.jN;rw[if_pos h]
  rw[es]at n0 nb |-
  erw[uf,ue,d1,d2,h,Eg n0 nb];rfl
 .have es:My.jN x y w=(aaA (aaA x w:Int) y:Int):=by unfold My.jN;rw[if_neg h]
  rw[es]at n0 nb |-
  erw[uf,ue,d1,d2,h,Eg n0 nb];rfl
theorem Ja(a1:My.Bd 8000 p.1)(a2:My.Bd 8000 p.2.1)(a3:My.Bd 8000 p.2.2)(b1:My.Bd 8000 q.1)(b2:My.Bd 8000 q.2.1)(b3:My.Bd 8000 q.2.2):fK [sd p,sd q] c=ae (sd (p.2.1*q.2.2 - p.2.2*q.2.1,p.2.2*q.1 - p.1*q.2.2,p.1*q.2.1 - p.2.1*q.1),c):=by
 erw[fK,kG,wZ,w6,vw];rfl
theorem FZ(ha:Ok 1000 a)(hb:Ok 1000 b)(hp:Ok 1000 p)(hq:Ok 1000 q)(hm:My.mW a b p q≠0):lO [side a b,side p q] c=ae (sd (My.spT (My.mX a b p q) (My.mY a b p q) (My.mW a b p q)),c)/\Ok 4010 (My.spT (My.mX a b p q) (My.mY a b p q) (My.mW a b p q)):=by
 have e1:=vx (c:=c) (ha.mono (k:=8000) (by decide)) (hb.mono (k:=8000) (by decide));have e2:=vx (c:=c) (hp.mono (k:=8000) (by decide)) (hq.mono (k:=8000) (by decide));have r:∀{u v:T3},Ok 1000 u->Ok 1000 v->My.Bd 2001 (u.2.1*v.2.2 - u.2.2*v.2.1)/\My.Bd 2001 (u.2.2*v.1 - u.1*v.2.2)/\My.Bd 2001 (u.1*v.2.1 - u.2.1*v.1):=λh1 h2=>⟨(My.Bd.sub (h1.hV.mul h2.bw) (h1.bw.mul h2.hV)).mono (by decide),(My.Bd.sub (h1.bw.mul h2.bx) (h1.bx.mul h2.bw)).mono (by decide),(My.Bd.sub (h1.bx.mul h2.hV) (h1.hV.mul h2.bx)).mono (by decide)⟩
 obtain⟨x1,x2,x3⟩:=r ha hb;obtain⟨y1,y2,y3⟩:=r hp hq;have e3:=Ja (c:=c) (p:=(a.2.1*b.2.2 - a.2.2*b.2.1,a.2.2*b.1 - a.1*b.2.2,a.1*b.2.1 - a.2.1*b.1)) (q:=(p.2.1*q.2.2 - p.2.2*q.2.1,p.2.2*q.1 - p.1*q.2.2,p.1*q.2.1 - p.2.1*q.1)) (x1.mono (by decide)) (x2.mono (by decide)) (x3.mono (by decide)) (y1.mono (by decide)) (y2.mono (by decide)) (y3.mono (by decide));have bX:My.Bd 4010 (My.mX a b p q):=by
  unfold My.mX My.m0;exact(My.Bd.sub (x2.mul y3) (x3.mul y2)).mono (by decide)
 have bY:My.Bd 4010 (My.mY a b p q):=by
  unfold My.mY My.m1;exact(My.Bd.sub (x3.mul y1) (x1.mul y3)).mono (by decide)
 have bW:My.Bd 4010 (My.mW a b p q):=by
  unfold My.mW My.m2;exact(My.Bd.sub (x1.mul y2) (x2.mul y1)).mono (by decide)
 have sp:=P4 (x:=My.mX a b p q) (y:=My.mY a b p q) (c:=c) hm (bW.mono (by decide));refine⟨?_,Sp.mk' hm bX bY bW⟩;dsimp only at e3;have ee:sd ((a.2.2*b.1 - a.1*b.2.2)*(p.1*q.2.1 - p.2.1*q.1) - (a.1*b.2.1 - a.2.1*b.1)*(p.2.2*q.1 - p.1*q.2.2),(a.1*b.2.1 - a.2.1*b.1)*(p.2.1*q.2.2 - p.2.2*q.2.1) - (a.2.1*b.2.2 - a.2.2*b.2.1)*(p.1*q.2.1 - p.2.1*q.1),(a.2.1*b.2.2 - a.2.2*b.2.1)*(p.2.2*q.1 - p.1*q.2.2) - (a.2.2*b.1 - a.1*b.2.2)*(p.2.1*q.2.2 - p.2.2*q.2.1))=sd (My.mX a b p q,My.mY a b p q,My.mW a b p q):=rfl;rw[ee]at e3;generalize My.mX a b p q=X at*;generalize My.mY a b p q=Y at*;generalize My.mW a b p q=W at*;erw[lO,lN,pN,pO,e1,e2,e3,wZ,w6,vw,sp]
variable{ρ:Qm.Env}
theorem AB(hs:stays ks c):∀(ds vs acc:List D) (zs:List Cell) (x:Option D),ds.length=vs.length->(∀(i:Nat) d v,ds[i]? =ae d->vs[i]? =ae v->∀c',c <+:c'->∃ws,te (ae d::ρ) c'=ae (v,c'++ws))->acc.length+ds.length<=1000->
  ∃Ec,e7 c.length ks (ay 0) eX te ds (x::ρ) (c++.lst acc::zs)=ae (c++.lst (acc++vs)::Ec)
 |[],vs,acc,zs,x,hl,_,_=>by
  cases vs with
  |nil=>
   have st:stays ks (c++.lst acc::zs):=λp hp=>aA ⟨_,rfl⟩ (hs p hp)
   refine⟨zs,?_⟩;unfold e7;rw[if_pos st];simp
  |cons v vs=>simp at hl
 |d::ds,vs,acc,zs,x,hl,hv,hn=>by
  cases vs with
  |nil=>simp at hl
  |cons v vs=>
   have st:stays ks (c++.lst acc::zs):=λp hp=>aA ⟨_,rfl⟩ (hs p hp)
   rw[aaU]at hn;obtain⟨ws,f2⟩:=hv 0 d v rfl rfl (c++.lst acc::zs) ⟨_,rfl⟩;have f3:(c++.lst acc::zs++ws)[c.length]? =ae (.lst acc):=by simp
   have f4:(c++.lst acc::zs++ws).set c.length (.lst (acc++[v]))=c++.lst (acc++[v])::(zs++ws):=by simp
   obtain⟨Ec,f5⟩:=AB hs ds vs (acc++[v]) (zs++ws) (ae d) (by simpa using hl) (λi d' v' h1 h2=>hv (i+1) d' v' (by simpa using h1) (by simpa using h2)) (by simp only[aaR,aaU,acg];omega);refine⟨Ec,?_⟩;unfold e7;rw[if_pos st];have f1:eX (ae d::ρ) (c++.lst acc::zs)=ae (true,c++.lst acc::zs):=rfl;simp only[uc,adK,aag,f1,if_true,f2,f3,f4];rw[if_pos (aaB (show acc.length<10000 by omega) (ik (aam _))),f5];simp
theorem Mt{x:Option D}(vs:List D)(hi:it σ c=ae (⟨ds,[]⟩,c))(hc:o6 σ cap=x::ρ)(hl:ds.length=vs.length)(hv:∀(i:Nat) d v,ds[i]? =ae d->vs[i]? =ae v->∀c',c <+:c'->∃ws,te (ae d::ρ) c'=ae (v,c'++ws))(hn:ds.length<=1000):
  ∃c',dh it cap (ay 0) eX te σ c=ae (.ref c.length,c')/\c <+:c'/\c'[c.length]? =ae (.lst vs):=by
 obtain⟨zs,e⟩:=AB (te:=te) (ρ:=ρ) (ks:=[]) (c:=c) ef ds vs [] [] x hl hv (by simp;omega);refine⟨c++.lst vs::zs,?_,⟨_,rfl⟩,by simp⟩;unfold dh;rw[hi,aag];dsimp only
 rw[hc,e];rfl
theorem Hd(ha:Ok 8000 a)(hb:Ok 8000 b)(hp:Ok 8000 p)(hq:Ok 8000 q):∃c',jG [side a b,side p q] c=ae (.ref c.length,c')/\c <+:c'/\c'[c.length]? =ae (.lst [.int (My.sgn (My.aG a b p)),.int (My.sgn (My.aG a b q))]):=by
 have hi:kh (eV 1) [ae (side a b),ae (side p q)] c=ae (⟨[sd p,sd q],[]⟩,c):=rfl;obtain⟨c',e,h1,h2⟩:=Mt (te:=(au og [] (ag (e2 ar (eV 1) (eC (.int 0))) (ag (e2 ar (eV 1) (eC (.int 1))) (ag (eV 0) ak))))) (cap:=[af,ae 0]) [.int (My.sgn (My.aG a b p)),.int (My.sgn (My.aG a b q))] hi (show o6 [ae (side a b),ae (side p q)] [af,ae 0]=af::[ae (side a b)] from rfl) rfl (by
  intro i d v g1 g2 c' _
  match i with
  |0=>
   cases g1;cases g2;exact⟨[],by rw[aa5];have:=FY (c:=c') ha hb hp;erw[pN,pO,this];rfl⟩
  |1=>
   cases g1;cases g2;exact⟨[],by rw[aa5];have:=FY (c:=c') ha hb hq;erw[pN,pO,this];rfl⟩
  |n+2=>simp at g1) (by simp)
 refine⟨c',?_,h1,h2⟩;generalize hE:dh (kh (eV 1)) [af,ae 0] (ay 0) eX (au og [] (ag (e2 ar (eV 1) (eC (.int 0))) (ag (e2 ar (eV 1) (eC (.int 1))) (ag (eV 0) ak))))=EE at e;have Uh:=hE;rw[jG,gp,lM,Uh];erw[e]
def cD:My.B6->D
 |.none=>.aX
 |.fA p=>.tup [.str "spot",sd p]
 |.dW p q=>.tup [.str "stretch",sd p,sd q]
theorem AD{m:Nat}(h:c[m]? =ae (.lst xs)):data c (k+1) (.ref m)=(omap (data c k) xs).bind λds=>ae (.list ds):=by
 show(match c[m]? with|some (.lst xs)=>(omap (data c k) xs).bind λds=>ae (aiV ds)|some (.ro xs)=>(omap (data c k) xs).bind λds=>ae (.list ds)|_=>af)=_;rw[h]
theorem P5{m:Nat}{a b:Int}(h1:c[m]? =ae (.lst [.int a,.int b]))(h2:c[n]? =ae (.lst [.int 0,.int 0])):eJ (.ref m) (.ref n) c=ae (.bl (decide (a=0/\b=0)),c):=by
 have d1:∀{m:Nat}{a b:Int},c[m]? =ae (.lst [.int a,.int b])->data c 6 (.ref m)=ae (.list [.int a,.int b]):=λ{m a b} h=>by
  rw[AD h];rfl
 have e:nN (.ref m) (.ref n) c=(data c 6 (.ref m)).bind λd=>(data c 6 (.ref n)).bind λe=>ae (@decide (d=e) (ady _)):=rfl
 unfold eJ;rw[e,d1 h1,d1 h2,aag,aag,aag]
 congr 3
 rw[aa1];simp
theorem Jb(ha:Ok 8000 a)(hb:Ok 8000 b)(hp:Ok 8000 p)(hq:Ok 8000 q):gQ [side a b,side p q] c=ae (cD (My.i3 (My.fw a b) (My.fw p q)),c):=by
 have W_:∀{u v:T3},Ok 8000 u->Ok 8000 v->(if My.aP u v=true then side u v else side v u)=side (My.fw u v).1 (My.fw u v).2/\Ok 8000 (My.fw u v).1/\Ok 8000 (My.fw u v).2:=λ{u v} h1 h2=>by
  unfold My.fw;split
  .exact⟨rfl,h1,h2⟩
  .exact⟨rfl,h2,h1⟩
 have f1:=qE (c:=c) ha hb;have f2:=qE (c:=c) hp hq;obtain⟨g1,l1,l2⟩:=W_ ha hb;obtain⟨g2,r1,r2⟩:=W_ hp hq;rw[g1]at f1;rw[g2]at f2;have h1:=iC (c:=c) l1 r1;have h2:=iC (c:=c) l2 r2;unfold My.i3;dsimp only
 have oP:Ok 8000 (if My.aP (My.fw a b).1 (My.fw p q).1=true then(My.fw p q).1 else(My.fw a b).1):=by split<;>assumption
 have oQ:Ok 8000 (if My.aP (My.fw a b).2 (My.fw p q).2=true then(My.fw a b).2 else(My.fw p q).2):=by split<;>assumption
 have w1:(if My.aP (My.fw a b).1 (My.fw p q).1=true then sd (My.fw p q).1 else sd (My.fw a b).1)=sd (if My.aP (My.fw a b).1 (My.fw p q).1=true then(My.fw p q).1 else(My.fw a b).1):=by split<;>rfl
 have w2:(if My.aP (My.fw a b).2 (My.fw p q).2=true then sd (My.fw a b).2 else sd (My.fw p q).2)=sd (if My.aP (My.fw a b).2 (My.fw p q).2=true then(My.fw a b).2 else(My.fw p q).2):=by split<;>rfl
 have i1:∀σ:Qm.Env,σ[2]? =ae (ae (side (My.fw a b).1 (My.fw a b).2))->σ[3]? =ae (ae (side (My.fw p q).1 (My.fw p q).2))->zK (tV (au cK [] (ag (e2 ar (eV 2) (eC (.int 0))) (ag (e2 ar (eV 3) (eC (.int 0))) ak)))) (e2 ar (eV 3) (eC (.int 0))) (e2 ar (eV 2) (eC (.int 0))) σ c=ae (sd (if My.aP (My.fw a b).1 (My.fw p q).1=true then(My.fw p q).1 else(My.fw a b).1),c):=λσ s2 s3=>by
  rw[<-w1];cases hh:My.aP (My.fw a b).1 (My.fw p q).1<;>rw[hh]at h1<;>erw[s2,s3,pN,h1]
 have i2:∀σ:Qm.Env,σ[2]? =ae (ae (side (My.fw a b).1 (My.fw a b).2))->σ[3]? =ae (ae (side (My.fw p q).1 (My.fw p q).2))->zK (tV (au cK [] (ag (e2 ar (eV 2) (eC (.int 1))) (ag (e2 ar (eV 3) (eC (.int 1))) ak)))) (e2 ar (eV 2) (eC (.int 1))) (e2 ar (eV 3) (eC (.int 1))) σ c=ae (sd (if My.aP (My.fw a b).2 (My.fw p q).2=true then(My.fw a b).2 else(My.fw p q).2),c):=λσ s2 s3=>by
  rw[<-w2];cases hh:My.aP (My.fw a b).2 (My.fw p q).2<;>rw[hh]at h2<;>erw[s2,s3,pO,h2]
 have j1:=i1 [ae (side a b),ae (side p q),ae (side (My.fw a b).1 (My.fw a b).2),ae (side (My.fw p q).1 (My.fw p q).2),af,af] rfl rfl;generalize (if My.aP (My.fw a b).1 (My.fw p q).1=true then(My.fw p q).1 else(My.fw a b).1)=P at*;have j2:=i2 [ae (side a b),ae (side p q),ae (side (My.fw a b).1 (My.fw a b).2),ae (side (My.fw p q).1 (My.fw p q).2),ae (sd P),af] rfl rfl;generalize (if My.aP (My.fw a b).2 (My.fw p q).2=true then(My.fw a b).2 else(My.fw p q).2)=Q at*;have h3:=iC (c:=c) oP oQ;clear i1 i2;unfold gQ gN;generalize hE1:zK (tV (au cK [] (ag (e2 ar (eV 2) (eC (.int 0))) (ag (e2 ar (eV 3) (eC (.int 0))) ak)))) (e2 ar (eV 3) (eC (.int 0))) (e2 ar (eV 2) (eC (.int 0)))=E1 at j1 |-
 generalize hE2:zK (tV (au cK [] (ag (e2 ar (eV 2) (eC (.int 1))) (ag (e2 ar (eV 3) (eC (.int 1))) ak)))) (e2 ar (eV 2) (eC (.int 1))) (e2 ar (eV 3) (eC (.int 1)))=E2 at j2 |-
 by_cases P6:P=Q
 .subst P6
  rw[if_pos rfl];erw[f1,f2,j1,j2,Ce];rfl
 .rw[if_neg P6]
  cases hh:My.aP P Q
  .rw[hh]at h3
   erw[f1,f2,j1,j2,Ce,P6,h3];rfl
  .rw[hh]at h3
   erw[f1,f2,j1,j2,Ce,P6,h3];rfl
theorem He{m:Nat}{x y:D}(h:c[m]? =ae (.lst [x,y])):ar (.ref m) (.int 0) c=ae (x,c):=by
 rw[gD,aU h];rfl
theorem Hf{m:Nat}{x y:D}(h:c[m]? =ae (.lst [x,y])):ar (.ref m) (.int 1) c=ae (y,c):=by
 rw[gD,aU h];rfl
theorem xB(n:Int): -1<=My.sgn n/\My.sgn n<=1:=by
 rcases My.L5 n with⟨_,e⟩|⟨_,e⟩|⟨_,e⟩<;>omega
theorem Mu(ha:Ok 1000 a)(hb:Ok 1000 b)(hp:Ok 1000 p)(hq:Ok 1000 q):∃c',gR [side a b,side p q] c=ae (cD (My.cm a b p q),c')/\c <+:c'/\(∀z,My.cm a b p q= .fA z->Ok 8000 z)/\(∀z w,My.cm a b p q= .dW z w->Ok 8000 z/\Ok 8000 w):=by
 have Cf:=ha.mono (k:=8000) (by decide);have ua:=hb.mono (k:=8000) (by decide);have P7:=hp.mono (k:=8000) (by decide);have Eh:=hq.mono (k:=8000) (by decide);obtain⟨c1,e1,p1,g1⟩:=Hd (c:=c) Cf ua P7 Eh;have n1:(c1++[Cell.lst [.int 0,.int 0]])[c1.length]? =ae (.lst [.int 0,.int 0]):=ab2;have Ei:(c1++[Cell.lst [.int 0,.int 0]])[c.length]? =ae (.lst [.int (My.sgn (My.aG a b p)),.int (My.sgn (My.aG a b q))]):=aA ⟨_,rfl⟩ g1;have q1:=P5 Ei n1;obtain⟨s1,s2⟩:=xB (My.aG a b p);obtain⟨s3,s4⟩:=xB (My.aG a b q);obtain⟨s5,s6⟩:=xB (My.aG p q a);obtain⟨s7,s8⟩:=xB (My.aG p q b);have Xa:∀{u v:T3},Ok 8000 u->Ok 8000 v->Ok 8000 (My.fw u v).1/\Ok 8000 (My.fw u v).2:=λ{u v} h1 h2=>by
  unfold My.fw;split
  .exact⟨h1,h2⟩
  .exact⟨h2,h1⟩
 have Mv:(∀z,My.i3 (My.fw a b) (My.fw p q)= .fA z->Ok 8000 z)/\(∀z w,My.i3 (My.fw a b) (My.fw p q)= .dW z w->Ok 8000 z/\Ok 8000 w):=by
  obtain⟨l1,l2⟩:=Xa Cf ua;obtain⟨r1,r2⟩:=Xa P7 Eh;have oP:Ok 8000 (if My.aP (My.fw a b).1 (My.fw p q).1=true then(My.fw p q).1 else(My.fw a b).1):=by split<;>assumption
  have oQ:Ok 8000 (if My.aP (My.fw a b).2 (My.fw p q).2=true then(My.fw a b).2 else(My.fw p q).2):=by split<;>assumption
  unfold My.i3;dsimp only
  generalize (if My.aP (My.fw a b).1 (My.fw p q).1=true then(My.fw p q).1 else(My.fw a b).1)=P at*;generalize (if My.aP (My.fw a b).2 (My.fw p q).2=true then(My.fw a b).2 else(My.fw p q).2)=Q at*;refine⟨λz hz=>?_,λz w hz=>?_⟩
  .split at hz
   .cases hz;exact oP
   .split at hz<;>cases hz
  .split at hz
   .cases hz
   .split at hz
    .cases hz;exact⟨oP,oQ⟩
    .cases hz
 unfold My.cm
 by_cases g:My.sgn (My.aG a b p)=0/\My.sgn (My.aG a b q)=0
 .rw[if_pos g]
  refine⟨c1++[.lst [.int 0,.int 0]],?_,p1.trans ⟨_,rfl⟩,Mv.1,Mv.2⟩;have f:=Jb (c:=c1++[.lst [.int 0,.int 0]]) Cf ua P7 Eh;rw[decide_eq_true g]at q1;erw[gR,jj,e1,q1,f]
 .rw[if_neg g]
  rw[decide_eq_false g]at q1;obtain⟨c2,e2,p2,g2⟩:=Hd (c:=c1++[.lst [.int 0,.int 0]]) P7 Eh Cf ua;have Rb:=aA p2 Ei;have t0:=He Rb;have t1:=Hf Rb;have b0:=He g2;have b1:=Hf g2;have m1:Qm.MulOk (My.sgn (My.aG a b p)) (My.sgn (My.aG a b q)):=mulL (by omega);have m2:Qm.MulOk (My.sgn (My.aG p q a)) (My.sgn (My.aG p q b)):=mulL (by omega);have pp:c <+:c2:=p1.trans (afr ⟨_,rfl⟩ p2)
  by_cases k1: 0<My.sgn (My.aG a b p)*My.sgn (My.aG a b q)
  .rw[if_pos (.inl k1)]
   refine⟨c2,?_,pp,λz hz=>(by cases hz),λz w hz=>(by cases hz)⟩;erw[gR,jj,e1,q1,e2,t0,t1,bU m1,k1];rfl
  .by_cases k2: 0<My.sgn (My.aG p q a)*My.sgn (My.aG p q b)
   .rw[if_pos (.inr k2)]
    refine⟨c2,?_,pp,λz hz=>(by cases hz),λz w hz=>(by cases hz)⟩;erw[gR,jj,e1,q1,e2,t0,t1,b0,b1,bU m1,bU m2,k1,k2];rfl
   .rw[if_neg (λz=>z.elim k1 k2)]
    obtain⟨f,o⟩:=FZ (c:=c2) ha hb hp hq (My.mT hp.pos hq.pos g k1);refine⟨c2,?_,pp,λz hz=>(by cases hz;exact o.mono (by decide)),λz w hz=>(by cases hz)⟩;erw[gR,jj,e1,q1,e2,t0,t1,b0,b1,bU m1,bU m2,k1,k2,f];rfl
def kP(p:T3):List Int:=[p.1,p.2.1,p.2.2]
theorem Hg:kP p=kP q↔p=q:=by
 obtain⟨a,b,c⟩:=p;obtain⟨x,y,z⟩:=q;simp[kP]
theorem Mw(p:T3):k1 (sd p)=ae (kP p):=rfl
abbrev S2:=T3×T3
def aE(s:S2):D:=side s.1 s.2
def kS(s:S2):List (List Int):=[kP s.1,kP s.2]
variable{s:S2}
theorem Cg{t:S2}:kS s=kS t↔s=t:=by
 obtain⟨a,b⟩:=s;obtain⟨x,y⟩:=t;simp[kS,Hg]
theorem Ci(s:S2):k2 (aE s)=ae (kS s):=rfl
def ins(acc:List T3)(p:T3):List T3:=if p∈acc then acc else acc++[p]
def cT(acc:List T3):Cell:=.uW (acc.map λp=>(kP p,D.bl true))
theorem Ej(acc:List T3)(p:T3):mP (acc.map λp=>(kP p,D.bl true)) (kP p) (.bl true)=(ins acc p).map λp=>(kP p,D.bl true):=by
 have Rc:((acc.map λp=>(kP p,D.bl true)).any λq=>decide (q.1=kP p))=true↔p∈acc:=by
  rw[agc];constructor
  .rintro⟨q,hq,h⟩
   obtain⟨r,hr,rfl⟩:=aaE.mp hq;have:=Hg.mp (of_decide_eq_true h);rw[<-this];exact hr
  .intro h
   exact⟨_,aaN h,decide_eq_true rfl⟩
 unfold mP ins
 by_cases h:p∈acc
 .rw[if_pos (Rc.mpr h),if_pos h,aa2]
  refine acM λq _=>?_
  dsimp only[aer];split<;>rfl
 .rw[if_neg (λz=>h (Rc.mp z)),if_neg h,ado]
  rfl
variable{acc:List T3}
theorem F0(h:acc.Nodup):(ins acc p).Nodup:=by
 unfold ins;split
 .exact h
 .rename_i hp
  rw[acG];exact⟨h,by simp,λx hx y hy e=>hp (by rw[<-aak.mp hy,<-e];exact hx)⟩
theorem uq{x:T3}:x∈ins acc p↔x∈acc\/x=p:=by
 unfold ins;split
 .rename_i h
  constructor
  .exact .inl
  .rintro(h'|rfl)
   .exact h'
   .exact h
 .simp
theorem nh:(ins acc p).length<=acc.length+1:=by
 unfold ins;split
 .omega
 .simp
theorem Ek(x0 x1:Nat):Look x0 x1 x0 sd My.aP (Ok 8000):=⟨⟨cK,by simp[List.lookup],λ_ _ _ hp hq=>iC hp hq⟩⟩
def uniq(P:T3->Bool):List T3->List T3->List T3
 |acc,[]=>acc
 |acc,p::l=>uniq P (if P p=true then ins acc p else acc) l
theorem vy{P:T3->Bool}:∀{l acc:List T3}{x:T3},x∈uniq P acc l↔x∈acc\/(x∈l/\P x=true)
 |[],acc,x=>by simp[uniq]
 |p::l,acc,x=>by
  unfold uniq;rw[vy]
  by_cases hp:P p=true
  .rw[if_pos hp,uq]
   constructor
   .rintro((h|rfl)|⟨h,h2⟩)
    .exact .inl h
    .exact .inr ⟨aao,hp⟩
    .exact .inr ⟨aap _ h,h2⟩
   .rintro(h|⟨h,h2⟩)
    .exact .inl (.inl h)
    .rcases aaj.mp h with rfl|h
     .exact .inl (.inr rfl)
     .exact .inr ⟨h,h2⟩
  .rw[if_neg hp]
   constructor
   .rintro(h|⟨h,h2⟩)
    .exact .inl h
    .exact .inr ⟨aap _ h,h2⟩
   .rintro(h|⟨h,h2⟩)
    .exact .inl h
    .rcases aaj.mp h with rfl|h
     .exact absurd h2 hp
     .exact .inr ⟨h,h2⟩
theorem pP{P:T3->Bool}:∀{l acc:List T3},acc.Nodup->(uniq P acc l).Nodup
 |[],acc,h=>h
 |p::l,acc,h=>by
  unfold uniq;refine pP ?_;split
  .exact F0 h
  .exact h
theorem AE{P:T3->Bool}:∀{l acc:List T3},(uniq P acc l).length<=acc.length+l.length
 |[],acc=>by simp[uniq]
 |p::l,acc=>by
  unfold uniq;have:=AE (P:=P) (l:=l) (acc:=if P p=true then ins acc p else acc);have h2:(if P p=true then ins acc p else acc).length<=acc.length+1:=by
   split
   .exact nh
   .omega
  rw[aaU];omega
variable{x0 x1:Nat}
theorem P8{m:Nat}{ps:List T3}(ha:Ok 8000 a)(hb:Ok 8000 b)(EU:My.aP a b=true)(hm:c[m]? =ae (.lst (ps.map sd)))(hp:∀p∈ps,Ok 8000 p)(hn:ps.length<=100000):
  ∃n ys c',m8 x0 x1 [side a b,.ref m] c=ae (.ref n,c')/\c <+:c'/\c.length<=n/\c'[n]? =ae (.lst (ys.map sd))/\ys.Nodup/\(∀p,p∈ys↔p∈ps/\Ef p a b=true)/\jR My.aP ys:=by
 have it:iT (eV 1) [ae (side a b),ae (.ref m),ae (.ref c.length),af] (c++[cT []])=ae (⟨ps.map sd,[(m,.lst (ps.map sd))]⟩,c++[cT []]):=vo rfl (bH hm);obtain⟨σ',c',e1,acc,z,rfl,rfl,h1⟩:=cg (ks:=[(m,.lst (ps.map sd))]) (g:=ay 3) (body:=bZ (tV (au gE [] (ag (eV 3) (ag (eV 0) ak)))) (gL (eV 2) (eV 3) (eC (.bl true))) aT)
  (λi σ c'=>∃acc z,σ=[ae (side a b),ae (.ref m),ae (.ref c.length),z]/\c'=c++[cT acc]/\uniq (λp=>Ef p a b) [] ps=uniq (λp=>Ef p a b) acc (ps.drop i)/\acc.length<=i)
  (ps.map sd) 0 [ae (side a b),ae (.ref m),ae (.ref c.length),af] (c++[cT []])
  (by
   rintro i σ c' ⟨acc,z,pL,cP,_⟩ p hp;subst cP;cases aak.mp hp;exact bH hm)
  (by
   rintro i d σ c' hd ⟨acc,z,pL,cP,h1,h2⟩;subst pL cP;rw[aaq]at hd;obtain⟨y,hy,rfl⟩:=aax.mp hd;have Uj:y∈ps:=aaf hy;have kE:i<ps.length:=(aae.mp hy).1;have oy:=I_ (c:=c++[cT acc]) (hp y Uj) ha hb;have Xb:ps.drop i=y::ps.drop (i+1):=by
    rw[abm kE];rw[aac kE]at hy;rw[aaI hy]
   rw[show 0+i=i by omega]at h1 h2;cases P9:Ef y a b with
   |true=>
    rw[P9]at oy;have t1:mQ (.ref c.length) (c++[cT acc])=ae (c.length,acc.map λp=>(kP p,D.bl true)):=by
     unfold mQ;simp[cT]
    have pt:gL (eV 2) (eV 3) (eC (.bl true)) [ae (side a b),ae (.ref m),ae (.ref c.length),ae (sd y)] (c++[cT acc])=ae (.nx,[ae (side a b),ae (.ref m),ae (.ref c.length),ae (sd y)],c++[cT (ins acc y)]):=by
     unfold gL;erw[t1,Mw];rw[if_pos (show(acc.map λp=>(kP p,D.bl true)).length<cC by rw[dF,aas];omega),Ej];simp[cT]
    refine⟨_,_,_,_,rfl,(by erw[oy,pt]),ins acc y,ae (sd y),rfl,rfl,?_,?_⟩
    .rw[h1,Xb,uniq,P9,if_pos rfl,show 0+i+1=i+1 by omega]
    .have:=nh (acc:=acc) (p:=y)
     omega
   |false=>
    rw[P9]at oy;refine⟨_,_,_,_,rfl,(by erw[oy]),acc,ae (sd y),rfl,rfl,?_,by omega⟩;rw[h1,Xb,uniq,P9,if_neg (by decide),show 0+i+1=i+1 by omega])
  ⟨[],af,rfl,rfl,rfl,aam _⟩
 obtain⟨h1,h2⟩:=h1;have e2:=gH (g:=ay 3) (b:=bZ (tV (au gE [] (ag (eV 3) (ag (eV 0) ak)))) (gL (eV 2) (eV 3) (eC (.bl true))) aT) it;rw[e1]at e2;have e3:ps.drop (0+(ps.map sd).length)=[]:=adG (by simp);rw[e3,uniq]at h1;have Rf:∀p,p∈acc↔p∈ps/\Ef p a b=true:=λp=>by rw[<-h1,vy];simp
 have Mx:acc.Nodup:=by rw[<-h1];exact pP .nil
 have hlen:acc.length<=ps.length:=by rw[<-h1];have:=AE (P:=λp=>Ef p a b) (l:=ps) (acc:=[]);simpa using this
 have bl:iY [.ref c.length] (c++[cT acc])=ae (.ref (c++[cT acc]).length,c++[cT acc]++[.lst (acc.map sd)]):=by
  unfold iY one mQ;simp only[bh,cT,aag];rw[if_pos (show(acc.map λp=>(kP p,D.bl true)).length<=cC by rw[dF,aas];omega),aa2];rfl
 obtain⟨n,ys,c2,f1,f2,f3,f4,f5,f6⟩:=yP (Ek x0 x1) (λx y=>My.cf) (xs:=acc) (a:=(c++[cT acc]).length) (c:=c++[cT acc]++[.lst (acc.map sd)]) bh (λx hx=>hp x ((Rf x).mp hx).1) (by omega);have ah:=iC (c:=c++[cT acc]) ha hb;rw[EU]at ah;refine⟨n,ys,c2,?_,(show c <+:c++[cT acc]++[.lst (acc.map sd)] from⟨_,(aeG ..).symm⟩).trans f2,?_,f4,f5.nodup_iff.mpr Mx,λp=>by rw[f5.mem_iff,Rf],f6⟩
 .have nw:qw [ae (side a b),ae (.ref m),af,af] c=ae (.ref c.length,c++[cT []]):=rfl
  rw[m8,gp,ug];erw[nw,e2,pN,pO,ah,bl,f1]
 .simp at f3
  omega
def lB(s t:S2):Bool:=if s.1=t.1 then(if s.2=t.2 then false else My.aP s.2 t.2)else My.aP s.1 t.1
theorem Cj{t:S2}(a1:Ok 8000 s.1)(a2:Ok 8000 s.2)(b1:Ok 8000 t.1)(b2:Ok 8000 t.2):fZ [aE s,aE t] c=ae (.bl (lB s t),c):=by
 have it:Ds (ag (eV 0) (ag (eV 1) ak)) [ae (aE s),ae (aE t),af,af] c=ae (⟨[.tup [sd s.1,sd t.1],.tup [sd s.2,sd t.2]],[]⟩,c):=rfl;have n1:=uo (p:=s.1) (q:=t.1) (c:=c);have n2:=uo (p:=s.2) (q:=t.2) (c:=c);have g1:=iC (c:=c) a1 b1;have g2:=iC (c:=c) a2 b2;have st:stays [] c:=ef;rw[fZ,gp,jm];unfold lB;have fo:cA (Ds (ag (eV 0) (ag (eV 1) ak))) (gy 2 (bA (ay 2) (bA (ay 3) fP))) (bZ (tV (e2 iS (eV 2) (eV 3))) (aK (au cK [] (ag (eV 2) (ag (eV 3) ak)))) aT) [ae (aE s),ae (aE t),af,af] c=(if s.1=t.1 then(if s.2=t.2 then ae (.nx,[ae (aE s),ae (aE t),ae (sd s.2),ae (sd t.2)],c)else ae (.rt (.bl (My.aP s.2 t.2)),[ae (aE s),ae (aE t),ae (sd s.2),ae (sd t.2)],c))else ae (.rt (.bl (My.aP s.1 t.1)),[ae (aE s),ae (aE t),ae (sd s.1),ae (sd t.1)],c)):=by
  rw[gH it];dsimp only
  unfold gf;rw[if_pos st]
  by_cases h1:s.1=t.1
  .rw[if_pos h1]
   rw[decide_eq_true h1]at n1;erw[n1];unfold gf;rw[if_pos st]
   by_cases h2:s.2=t.2
   .rw[if_pos h2]
    rw[decide_eq_true h2]at n2;erw[n2];unfold gf;rw[if_pos st]
   .rw[if_neg h2]
    rw[decide_eq_false h2]at n2;erw[n2,g2]
  .rw[if_neg h1]
   rw[decide_eq_false h1]at n1;erw[n1,g1]
 have F1:cA (Ds (ag (eV 0) (ag (eV 1) ak))) (gy 2 (bA (ay 2) (bA (ay 3) fP))) (bZ (tV (e2 iS (eV 2) (eV 3))) (aK (au cK [] (ag (eV 2) (ag (eV 3) ak)))) aT) [ae (aE s),ae (aE t),af,af] c=_:=fo
 by_cases h1:s.1=t.1
 .rw[if_pos h1]at F1 |-
  by_cases h2:s.2=t.2
  .rw[if_pos h2]at F1 |-
   erw[F1]
  .rw[if_neg h2]at F1 |-
   erw[F1]
 .rw[if_neg h1]at F1 |-
  erw[F1]
structure jK(k:Nat)(s:S2):Prop where
 o1:Ok k s.1
 o2:Ok k s.2
theorem F3(h:x0≠x1):Look x0 x1 x1 aE lB (jK 8000):=⟨⟨fZ,by
 simp only[List.lookup];have:(x1==x0)=false:=by simpa using acu h
 rw[this];simp,λ_ _ _ hp hq=>Cj hp.o1 hp.o2 hq.o1 hq.o2⟩⟩
theorem AF(s t:S2)(h:lB s t=true):lB t s=false:=by
 unfold lB at*
 by_cases h1:s.1=t.1
 .rw[if_pos h1]at h
  rw[if_pos h1.symm]
  by_cases h2:s.2=t.2
  .rw[if_pos h2]at h;cases h
  .rw[if_neg h2]at h
   rw[if_neg (acu h2)];exact My.cf h
 .rw[if_neg h1]at h
  rw[if_neg (acu h1)];exact My.cf h
def bI(s:S2):S2:=My.fw s.1 s.2
theorem F4(h:jK 8000 s):dO [aE s] c=ae (aE (bI s),c):=by
 have:=qE (c:=c) h.o1 h.o2;unfold aE bI My.fw;rw[this];split<;>rfl
def Kq(S:List Nat)(c c':Cells):Prop:=∀j z,j∉S->c[j]? =ae z->c'[j]? =ae z
theorem Kq.refl(S:List Nat)(c:Cells):Kq S c c:=λ_ _ _ h=>h
theorem Kq.pre{S:List Nat}(h:c <+:c'):Kq S c c':=λ_ _ _ e=>aA h e
theorem Kq.trans{S T:List Nat}{c2:Cells}(a:Kq S c c1)(b:Kq T c1 c2)(h:∀x∈T,x∈S\/c.length<=x):Kq S c c2:=λj z hj e=>b j z (λhm=>(h j hm).elim hj λhl=>absurd (bM e) (by omega)) (a j z hj e)
abbrev KV:=List (S2×Nat×List Int)
def kc(ks:KV):Cell:=.h_ (ks.map λk=>(kS k.1,D.ref k.2.1))
def ids(ks:KV):List Nat:=ks.map λk=>k.2.1
def keys(ks:KV):List S2:=ks.map λk=>k.1
structure DS(c:Cells)(L:Nat)(ks:KV):Prop where
 at_:c[L]? =ae (kc ks)
 cell:∀k∈ks,c[k.2.1]? =ae (.lst (k.2.2.map D.int))
 nd:(ids ks).Nodup
 kd:(keys ks).Nodup
 ne:L∉ids ks
theorem DS.keep{ks:KV}(h:DS c L ks){S:List Nat}(k:Kq S c c')(hL:L∉S)(hi:∀n∈ids ks,n∉S):DS c' L ks:=⟨k L _ hL h.at_,λx hx=>k _ _ (hi _ (aaN hx)) (h.cell x hx),h.nd,h.kd,h.ne⟩
theorem DS.up{ks:KV}(h:DS c L ks)(k:c <+:c'):DS c' L ks:=h.keep (S:=[]) (Kq.pre k) (by simp) (by simp)
theorem DS.ur{ks:KV}(h:DS c L ks)(hn:n∈ids ks):n<c.length:=by
 obtain⟨k,hk,rfl⟩:=aaE.mp hn;exact bM (h.cell k hk)
theorem xC:∀{ks:KV}{s:S2},(∃k∈ks,k.1=s)->∃k∈ks,k.1=s/\nX (ks.map λk=>(kS k.1,D.ref k.2.1)) (kS s)=ae (D.ref k.2.1)
 |[],s,h=>by obtain⟨_,hk,_⟩:=h;cases hk
 |k::ks,s,h=>by
  by_cases e:k.1=s
  .exact⟨k,aao,e,by simp[nX,e]⟩
  .obtain⟨k',pQ,he⟩:=h
   rcases aaj.mp pQ with rfl|pQ
   .exact absurd he e
   .obtain⟨k2,h2,h3,h4⟩:=xC (ks:=ks) ⟨k',pQ,he⟩
    refine⟨k2,aap _ h2,h3,?_⟩;unfold nX at h4 |-
    rw[aaV,aa3];have:decide (kS k.1=kS s)=false:=decide_eq_false λz=>e (Cg.mp z)
    simp only[this];exact h4
theorem Jc{ks:KV}(h:s∉keys ks):nX (ks.map λk=>(kS k.1,D.ref k.2.1)) (kS s)=af:=by
 unfold nX;rw[Option.map_eq_none_iff,List.find?_eq_none];intro x hx;obtain⟨k,hk,rfl⟩:=aaE.mp hx;simp only[decide_eq_true_eq];exact λz=>h (aaE.mpr ⟨k,hk,Cg.mp z⟩)
theorem Mz{ks:KV}(h:c[L]? =ae (kc ks)):oB (.ref L) c=ae (L,ks.map λk=>(kS k.1,D.ref k.2.1)):=by
 unfold oB;simp[h,kc]
def jd(ks:KV)(n:Nat)(s:S2)(zs:List Int):KV:=if s∈keys ks then ks.map (λk=>if k.1=s then(k.1,k.2.1,k.2.2++zs)else k)else ks++[(s,n,zs)]
variable{zs:List Int}
theorem sL{ks:KV}:keys (jd ks n s zs)=if s∈keys ks then keys ks else keys ks++[s]:=by
 unfold jd;split
 .unfold keys
  rw[aa2];refine acM λk _=>?_
  dsimp only[aer];split<;>rfl
 .simp[keys]
theorem kf{ks:KV}:ids (jd ks n s zs)=if s∈keys ks then ids ks else ids ks++[n]:=by
 unfold jd;split
 .unfold ids
  rw[aa2];refine acM λk _=>?_
  dsimp only[aer];split<;>rfl
 .simp[ids]
variable{o:XE}
theorem MA{k:XE}{ks:KV}(h:DS c L ks)(ho:o σ c=ae (.ref L,c))(hk:k σ c=ae (aE s,c))(hn:ks.length<1000000):
  ∃n c1 row,fV o k σ c=ae (.ref n,c1)/\c1[n]? =ae (.lst (row.map D.int))/\(row=[]\/∃q∈ks,q.2.2=row)/\c1.length=c.length+1/\DS (c1.set n (.lst ((row++zs).map D.int))) L (jd ks c.length s zs)/\Kq (L::ids ks) c (c1.set n (.lst ((row++zs).map D.int)))/\Kq (L::ids ks) c c1/\(n=c.length\/n∈ids ks):=by
 have t1:=Mz h.at_;have hLl:=bM h.at_;have ev:fV o k σ c=(match nX (ks.map λk=>(kS k.1,D.ref k.2.1)) (kS s)with
  |some d=>ae (d,c++[Cell.lst []])
  |none=>ae (D.ref c.length,(c++[Cell.lst []]).set L (Cell.h_ ((ks.map λk=>(kS k.1,D.ref k.2.1))++[(kS s,D.ref c.length)])))):=by
  unfold fV;simp only[ho,hk,t1,aag,Ci];rw[if_pos (show(ks.map λk=>(kS k.1,D.ref k.2.1)).length<cC by rw[dF,aas];omega)]
  all_goals (cases nX (ks.map λk=>(kS k.1,D.ref k.2.1)) (kS s)<;>rfl)
 by_cases hs:s∈keys ks
 .obtain⟨q,hq,P_,ha⟩:=xC (ks:=ks) (s:=s) (by
   obtain⟨q,hq,e⟩:=aaE.mp hs;exact⟨q,hq,e⟩)
  rw[ha]at ev;have ZM:=bH (zs:=[Cell.lst []]) (h.cell q hq);have ZN:=bM (h.cell q hq);have Um:q.2.1∈ids ks:=aaN hq;have ZO:q.2.1≠L:=λe=>h.ne (by rw[<-e];exact Um)
  refine⟨q.2.1,_,q.2.2,ev,ZM,.inr ⟨q,hq,rfl⟩,by simp,⟨?_,?_,?_,?_,?_⟩,?_,Kq.pre ⟨_,rfl⟩,.inr Um⟩
  .rw[cJ (bH h.at_) ZO.symm]
   unfold jd kc;rw[if_pos hs,aa2];refine congrArg ae (congrArg Cell.h_ (acM λk _=>?_));dsimp only[aer];split<;>rfl
  .intro x hx
   unfold jd at hx;rw[if_pos hs]at hx;obtain⟨k,pQ,rfl⟩:=aaE.mp hx
   by_cases e:k.1=s
   .have ZP:k=q:=by
     have inj:∀{l:KV},(keys l).Nodup->∀x∈l,∀y∈l,x.1=y.1->x=y:=by
      intro l
      induction l with
      |nil=>exact λ_ x hx=>nomatch hx
      |cons a l ih=>
       intro nd x hx y hy yQ;have kK:a.1∉keys l/\(keys l).Nodup:=by simpa[keys]using nd
       rcases aaj.mp hx with rfl|gq<;>rcases aaj.mp hy with rfl|jz
       .rfl
       .exact absurd (aaE.mpr ⟨y,jz,yQ.symm⟩) kK.1
       .exact absurd (aaE.mpr ⟨x,gq,yQ⟩) kK.1
       .exact ih kK.2 x gq y jz yQ
     exact inj h.kd k pQ q hq (e.trans P_.symm)
    subst ZP;rw[if_pos e];exact jv (by simp;omega)
   .rw[if_neg e]
    have fm:k.2.1≠q.2.1:=λz=>by
     have inj:∀{l:KV},(ids l).Nodup->∀x∈l,∀y∈l,x.2.1=y.2.1->x=y:=by
      intro l
      induction l with
      |nil=>exact λ_ x hx=>nomatch hx
      |cons a l ih=>
       intro nd x hx y hy yQ;have kK:a.2.1∉ids l/\(ids l).Nodup:=by simpa[ids]using nd
       rcases aaj.mp hx with rfl|gq<;>rcases aaj.mp hy with rfl|jz
       .rfl
       .exact absurd (aaE.mpr ⟨y,jz,yQ.symm⟩) kK.1
       .exact absurd (aaE.mpr ⟨x,gq,yQ⟩) kK.1
       .exact ih kK.2 x gq y jz yQ
     rw[inj h.nd k pQ q hq z]at e;exact e P_
    exact cJ (bH (h.cell k pQ)) fm
  .rw[kf,if_pos hs];exact h.nd
  .rw[sL,if_pos hs];exact h.kd
  .rw[kf,if_pos hs];exact h.ne
  .intro j z hj e
   refine cJ (bH e) λz=>hj ?_
   rw[z];exact aap _ Um
 .rw[Jc hs]at ev
  have Qa:c.length≠L:=by omega
  have BS:((c++[Cell.lst []]).set L (Cell.h_ ((ks.map λk=>(kS k.1,D.ref k.2.1))++[(kS s,D.ref c.length)])))[c.length]? =ae (.lst []):=cJ bh Qa;refine⟨c.length,_,[],ev,BS,.inl rfl,by simp,⟨?_,?_,?_,?_,?_⟩,?_,λj z hj e=>cJ (bH e) (λw=>hj (by rw[w];exact aao)),.inl rfl⟩
  .refine cJ ?_ Qa.symm
   rw[jv (by simp;omega)];unfold jd kc;rw[if_neg hs];simp
  .intro x hx
   unfold jd at hx;rw[if_neg hs]at hx;rcases aaJ.mp hx with hx|hx
   .have Xc:=h.cell x hx
    have ZQ:x.2.1∈ids ks:=aaN hx;have:=bM Xc;exact cJ (cJ (bH Xc) λz=>h.ne (by rw[<-z];exact ZQ)) (by omega)
   .cases aak.mp hx
    exact jv (by simp)
  .rw[kf,if_neg hs,acG]
   refine⟨h.nd,by simp,λx hx y hy e=>?_⟩;have:=h.ur hx;cases aak.mp hy;omega
  .rw[sL,if_neg hs,acG]
   exact⟨h.kd,by simp,λx hx y hy e=>hs (by rw[<-aak.mp hy,<-e];exact hx)⟩
  .rw[kf,if_neg hs]
   intro z;rcases aaJ.mp z with z|z
   .exact h.ne z
   .exact Qa (aak.mp z).symm
  .intro j z hj e
   have:=bM e;exact cJ (cJ (bH e) λz=>hj (by rw[z];exact aao)) (by omega)
theorem pre_of(h:∀(j:Nat) z,c[j]? =ae z->c'[j]? =ae z):c <+:c':=by
 rw[List.prefix_iff_getElem?];intro i hi;exact h i _ (aac hi)
theorem Kq.to{S:List Nat}(k:Kq S c c')(p:c0 <+:c)(h:∀n∈S,c0.length<=n):c0 <+:c':=pre_of λj z e=>k j z (λhj=>by have:=h j hj;have:=bM e;omega) (aA p e)
def num(S:List S2)(s:S2)(i:Nat):List Int:=((adg i).filter λk=>decide ((S[k]?).map bI=ae s)).map λ(k:Nat)=>(k:Int)
theorem Jd(S:List S2)(s:S2)(i:Nat):num S s (i+1)=num S s i++(if (S[i]?).map bI=ae s then [(i:Int)] else []):=by
 unfold num;rw[List.range_succ,List.filter_append,ado]
 congr 1
 by_cases h:(S[i]?).map bI=ae s
 .rw[if_pos h]
  simp[h]
 .rw[if_neg h]
  simp[h]
structure Nums(S:List S2)(i:Nat)(ks:KV):Prop where
 row:∀q∈ks,q.2.2=num S q.1 i
 key:∀s,s∈keys ks↔∃k,k<i/\(S[k]?).map bI=ae s
variable{S:List S2}
theorem MB(h:¬∃k,k<i/\(S[k]?).map bI=ae s):num S s i=[]:=by
 unfold num;rw[List.map_eq_nil_iff,List.filter_eq_nil_iff];intro k hk hd;exact h ⟨k,abC.mp hk,of_decide_eq_true hd⟩
theorem Nums.step{ks:KV}(h:Nums S i ks)(hs:(S[i]?).map bI=ae s):Nums S (i+1) (jd ks n s [(i:Int)]):=by
 constructor
 .intro q hq
  rw[Jd];unfold jd at hq
  by_cases hk:s∈keys ks
  .rw[if_pos hk]at hq
   obtain⟨k,pQ,rfl⟩:=aaE.mp hq
   by_cases e:k.1=s
   .simp only[if_pos e]
    rw[if_pos (by rw[hs,e]),h.row k pQ]
   .simp only[if_neg e]
    rw[if_neg (by rw[hs];exact λz=>e (aaI z).symm),aa5,h.row k pQ]
  .rw[if_neg hk]at hq
   rcases aaJ.mp hq with hq|hq
   .have e:q.1≠s:=λz=>hk (by rw[<-z];exact aaN hq)
    rw[if_neg (by rw[hs];exact λz=>e (aaI z).symm),aa5,h.row q hq]
   .cases aak.mp hq
    rw[if_pos hs,MB (λz=>hk ((h.key s).mpr z))];rfl
 .intro t
  rw[sL];have:(∃k,k<i+1/\(S[k]?).map bI=ae t)↔(∃k,k<i/\(S[k]?).map bI=ae t)\/t=s:=by
   constructor
   .rintro⟨k,hk,e⟩
    rcases aeb k i with h'|h'
    .exact .inl ⟨k,h',e⟩
    .have:k=i:=by omega
     subst this;rw[hs]at e;exact .inr (aaI e).symm
   .rintro(⟨k,hk,e⟩|rfl)
    .exact⟨k,by omega,e⟩
    .exact⟨i,by omega,hs⟩
  rw[this,<-h.key t];split
  .rename_i hk
   constructor
   .exact .inl
   .rintro(z|rfl)
    .exact z
    .exact hk
  .rw[aaJ,aak]
theorem AG{ks:KV}:(jd ks n s zs).length<=ks.length+1:=by
 unfold jd;split<;>simp
theorem Ck{lo:Int}{d:D}(h:(cN lo n)[i]? =ae d):i<n/\d= .int (lo+(i:Int)):=by
 unfold cN at h;rw[aaq]at h;obtain⟨j,hj,rfl⟩:=aax.mp h;obtain⟨h1,h2⟩:=aae.mp hj;simp at h1 h2;subst h2;exact⟨h1,rfl⟩
theorem Je{m:Nat}(hm:c[m]? =ae (.lst (S.map aE)))(hS:∀s∈S,jK 8000 s)(hn:S.length<=10000):
  ∃ks c',fM [.ref m] c=ae (.ref c.length,c')/\c <+:c'/\DS c' c.length ks/\(∀n∈ids ks,c.length<n)/\Nums S S.length ks/\ks.length<=S.length:=by
 have bl:∀zs,bu [.ref m] (c++zs)=ae (.int S.length,c++zs):=λzs=>i9 (bH hm)
 have it:bF (ag (eB bu (ag (eV 0) ak)) ak) [ae (.ref m),ae (.ref c.length),af] (c++[.h_ []])=ae (⟨cN 0 S.length,[]⟩,c++[.h_ []]):=by
  have:=gM (a:=ag (eB bu (ag (eV 0) ak)) ak) (σ:=[ae (.ref m),ae (.ref c.length),af]) (c:=c++[.h_ []]) (c':=c++[.h_ []]) (j:=(S.length:Int)) (by erw[bl]) (by omega);rw[this];simp
 obtain⟨σ',c',e1,ks,z,rfl,p1,d1,i1,n1,l1⟩:=cg (ks:=[]) (g:=ay 2) (body:=d_ (eM dm (fV (eV 1) (au dO [] (ag (e2 ar (eV 0) (eV 2)) ak))) (ag (eV 2) ak)))
  (λi σ c'=>∃ks z,σ=[ae (.ref m),ae (.ref c.length),z]/\c <+:c'/\DS c' c.length ks/\(∀n∈ids ks,c.length<n)/\Nums S i ks/\ks.length<=i)
  (cN 0 S.length) 0 [ae (.ref m),ae (.ref c.length),af] (c++[.h_ []]) (λ_ _ _ _=>ef)
  (by
   rintro i d σ c' hd ⟨ks,z,pL,p1,d1,i1,n1,l1⟩;subst pL;obtain⟨hi,rfl⟩:=Ck hd;rw[show 0+i=i by omega]at n1 l1;obtain⟨s,hs⟩:∃s,S[i]? =ae s:=⟨_,aac hi⟩;have s0:=aU (aA p1 hm);have t1:gu (S.map aE) (0+(i:Int))=ae (aE s):=by rw[ab3];exact uj hs
   have fw:=F4 (c:=c') (hS s (aaf hs));obtain⟨n,c1,row,f1,f2,f3,f4,f5,f6,_,_⟩:=MA (o:=eV 1) (k:=au dO [] (ag (e2 ar (eV 0) (eV 2)) ak)) (σ:=[ae (.ref m),ae (.ref c.length),ae (.int (0+(i:Int)))]) (s:=bI s) (zs:=[(i:Int)]) d1 rfl (by erw[gD,s0,t1,fw]) (by omega);have El:row.length<=1000000:=by
    rcases f3 with rfl|⟨q,hq,rfl⟩
    .simp
    .rw[n1.row q hq]
     unfold num;rw[aas];exact aa7 (aeW _ _) (by rw[ahP];omega)
   have ap:=Ha (e:=D.int) (x:=(i:Int)) f2 (by omega);have s2:=aY f2;refine⟨_,_,[ae (.ref m),ae (.ref c.length),ae (.int (0+(i:Int)))],c1.set n (.lst ((row++[(i:Int)]).map D.int)),rfl,?_,jd ks c'.length (bI s) [(i:Int)],ae (.int (0+(i:Int))),rfl,f6.to p1 (λq hq=>?_),f5,λq hq=>?_,?_,?_⟩
   .have e0:D.int (0+(i:Int))=D.int (i:Int):=by rw[ab3]
    have ZR:dm (.ref n) [.int (0+(i:Int))] c1=ae (.aX,c1.set n (.lst ((row++[(i:Int)]).map D.int))):=by rw[e0];exact ap
    erw[f1,s2,ZR]
   .rcases aaj.mp hq with rfl|hq
    .exact aam _
    .exact adt (i1 q hq)
   .rw[kf]at hq
    split at hq
    .exact i1 q hq
    .rcases aaJ.mp hq with hq|hq
     .exact i1 q hq
     .cases aak.mp hq
      exact bM d1.at_
   .rw[show 0+i+1=i+1 by omega]
    exact n1.step (by rw[hs];rfl)
   .have:=AG (ks:=ks) (n:=c'.length) (s:=bI s) (zs:=[(i:Int)])
    omega)
  ⟨[],af,rfl,⟨_,rfl⟩,⟨bh,λ_ h=>(nomatch h),.nil,.nil,(by simp[ids])⟩,λ_ h=>(by simp[ids]at h),⟨λ_ h=>(nomatch h),λs=>⟨λh=>(by simp[keys]at h),λ⟨k,hk,_⟩=>absurd hk (by omega)⟩⟩,aam _⟩
 have hl: 0+(cN 0 S.length).length=S.length:=by simp[cN]
 rw[hl]at n1 l1;refine⟨ks,c',?_,p1,d1,i1,n1,l1⟩;have e2:=gH (g:=ay 2) (b:=d_ (eM dm (fV (eV 1) (au dO [] (ag (e2 ar (eV 0) (eV 2)) ak))) (ag (eV 2) ak))) it;rw[e1]at e2;have nw:t5 [ae (.ref m),af,af] c=ae (.ref c.length,c++[.h_ []]):=rfl;rw[fM,gp,fL];erw[nw,e2]
variable{rows:List (List T3)}{row:List T3}
theorem Runs.put{e:T3->D}{fs:List Nat}(h:Runs e c fs rows)(nd:fs.Nodup)(hi:fs[i]? =ae n):Runs e (c.set n (.lst (row.map e))) fs (rows.set i row):=by
 refine⟨by rw[acf];exact h.len,λj m l h1 h2=>?_⟩
 by_cases e1:j=i
 .subst e1
  rw[hi]at h1;cases h1;have kE:j<rows.length:=by rw[<-h.len];exact(aae.mp hi).1
  rw[acN kE]at h2;cases h2;obtain⟨r,hr⟩:∃r,rows[j]? =ae r:=⟨_,aac kE⟩;exact jv (bM (h.at_ j n r hi hr))
 .rw[ada (acu e1)]at h2
  refine cJ (h.at_ j m l h1 h2) λz=>e1 ?_
  subst z;exact(adY (aae.mp h1).1 nd).mp (h1.trans hi.symm)
theorem Rg(m:My.B6)(h:m≠.none):fy (cD m) .aX c=ae (.bl true,c)/\ic (cD m) (ae 1) af c=ae (.tup ((My.cs m).map sd),c):=by
 cases m with
 |none=>exact absurd rfl h
 |fA p=>exact⟨rfl,rfl⟩
 |dW p q=>exact⟨rfl,rfl⟩
theorem Rh{ps:List T3}(h:c[n]? =ae (.lst (row.map sd)))(hn:row.length+ps.length<=1000000):pH (.ref n) [.tup (ps.map sd)] c=ae (.aX,c.set n (.lst ((row++ps).map sd))):=by
 unfold pH one;simp only[aY h,aag,aas];rw[if_pos (show row.length+ps.length<=cC by rw[dF];omega),ado]
def met(S:List S2)(a b:Nat):List T3:=match S[a]?,S[b]? with
 |some s,ae t=>My.cs (My.cV s t)
 |_,_=>[]
def Pr(k j a b:Nat):Prop:=a<b/\(b<k\/(b=k/\a<j))
structure lQ(S:List S2)(k j:Nat)(rows:List (List T3)):Prop where
 len:rows.length=S.length
 mem:∀(i:Nat) (s:S2) (row:List T3),S[i]? =ae s->rows[i]? =ae row->∀p,p∈row↔p=s.1\/p=s.2\/∃a b,Pr k j a b/\(i=a\/i=b)/\p∈met S a b
 ok:∀row∈rows,∀p∈row,Ok 8000 p
 sz:∀row∈rows,row.length<=2+2*(k*S.length+j)
theorem Qb(m:My.B6):(My.cs m).length<=2:=by cases m<;>simp[My.cs]
theorem uu{α:Type}{l:List α}{x y:α}(h:y∈l.set i x):y∈l\/y=x:=List.mem_or_eq_of_mem_set h
theorem F5(h:lQ S k j rows)(hm:met S j k=[]):lQ S k (j+1) rows:=by
 refine⟨h.len,λi s row h1 h2 p=>?_,h.ok,λrow hr=>by have:=h.sz row hr;omega⟩;rw[h.mem i s row h1 h2 p];constructor
 .rintro(z|z|⟨a,b,⟨u,v⟩,w,x⟩)
  .exact .inl z
  .exact .inr (.inl z)
  .exact .inr (.inr ⟨a,b,⟨u,by omega⟩,w,x⟩)
 .rintro(z|z|⟨a,b,⟨u,v⟩,w,x⟩)
  .exact .inl z
  .exact .inr (.inl z)
  .rcases v with v|⟨v1,v2⟩
   .exact .inr (.inr ⟨a,b,⟨u,.inl v⟩,w,x⟩)
   .rcases aeb a j with hj|hj
    .exact .inr (.inr ⟨a,b,⟨u,.inr ⟨v1,hj⟩⟩,w,x⟩)
    .have:a=j:=by omega
     subst this;subst v1;rw[hm]at x;cases x
theorem F6{rj rk:List T3}(h:lQ S k j rows)(BA:j<k)(ej:rows[j]? =ae rj)(ek:rows[k]? =ae rk)(bc:∀p∈met S j k,Ok 8000 p)(hl:(met S j k).length<=2):
  lQ S k (j+1) ((rows.set j (rj++met S j k)).set k (rk++met S j k)):=by
 have Uo:j<rows.length:=(aae.mp ej).1;have I8:k<rows.length:=(aae.mp ek).1;have mj:=aaf ej;have mk:=aaf ek;refine⟨by simp[h.len],λi s row h1 h2 p=>?_,λrow hr p hp=>?_,λrow hr=>?_⟩
 .have key:∀(r0:List T3),rows[i]? =ae r0->(row=r0/\i≠j/\i≠k)\/(row=r0++met S j k/\(i=j\/i=k)):=by
   intro r0 Em
   by_cases e1:i=k
   .subst e1
    rw[acN (by simp;exact I8)]at h2;rw[ek]at Em;cases h2;cases Em;exact .inr ⟨rfl,.inr rfl⟩
   .rw[ada (acu e1)]at h2
    by_cases e2:i=j
    .subst e2
     rw[acN Uo]at h2;rw[ej]at Em;cases h2;cases Em;exact .inr ⟨rfl,.inl rfl⟩
    .rw[ada (acu e2),Em]at h2
     cases h2;exact .inl ⟨rfl,e2,e1⟩
  have kE:i<rows.length:=by
   have:=(aae.mp h2).1;simpa using this
  obtain⟨r0,Em⟩:∃r0,rows[i]? =ae r0:=⟨_,aac kE⟩;have hm:=h.mem i s r0 h1 Em p;have ext:(∃a b,Pr k (j+1) a b/\(i=a\/i=b)/\p∈met S a b)↔(∃a b,Pr k j a b/\(i=a\/i=b)/\p∈met S a b)\/((i=j\/i=k)/\p∈met S j k):=by
   constructor
   .rintro⟨a,b,⟨u,v⟩,w,x⟩
    rcases v with v|⟨v1,v2⟩
    .exact .inl ⟨a,b,⟨u,.inl v⟩,w,x⟩
    .rcases aeb a j with hj|hj
     .exact .inl ⟨a,b,⟨u,.inr ⟨v1,hj⟩⟩,w,x⟩
     .have:a=j:=by omega
      subst this;subst v1;exact .inr ⟨w,x⟩
   .rintro(⟨a,b,⟨u,v⟩,w,x⟩|⟨w,x⟩)
    .exact⟨a,b,⟨u,by omega⟩,w,x⟩
    .exact⟨j,k,⟨BA,.inr ⟨rfl,by omega⟩⟩,w,x⟩
  rw[ext];rcases key r0 Em with⟨rfl,n1,n2⟩|⟨rfl,hi⟩
  .rw[hm]
   constructor
   .rintro(z|z|z)
    .exact .inl z
    .exact .inr (.inl z)
    .exact .inr (.inr (.inl z))
   .rintro(z|z|z|⟨z,_⟩)
    .exact .inl z
    .exact .inr (.inl z)
    .exact .inr (.inr z)
    .exact absurd z (by omega)
  .rw[aaJ,hm]
   constructor
   .rintro((z|z|z)|z)
    .exact .inl z
    .exact .inr (.inl z)
    .exact .inr (.inr (.inl z))
    .exact .inr (.inr (.inr ⟨hi,z⟩))
   .rintro(z|z|z|⟨_,z⟩)
    .exact .inl (.inl z)
    .exact .inl (.inr (.inl z))
    .exact .inl (.inr (.inr z))
    .exact .inr z
 .rcases uu hr with hr|rfl
  .rcases uu hr with hr|rfl
   .exact h.ok row hr p hp
   .rcases aaJ.mp hp with hp|hp
    .exact h.ok rj mj p hp
    .exact bc p hp
  .rcases aaJ.mp hp with hp|hp
   .exact h.ok rk mk p hp
   .exact bc p hp
 .rcases uu hr with hr|rfl
  .rcases uu hr with hr|rfl
   .have:=h.sz row hr;omega
   .have:=h.sz rj mj;rw[aaR];omega
  .have:=h.sz rk mk;rw[aaR];omega
theorem F7(h:lQ S k k rows)(hk:k<S.length):lQ S (k+1) 0 rows:=by
 refine⟨h.len,λi s row h1 h2 p=>?_,h.ok,λrow hr=>?_⟩
 .rw[h.mem i s row h1 h2 p]
  have:∀a b,Pr k k a b↔Pr (k+1) 0 a b:=λa b=>by unfold Pr;omega
  simp only[this]
 .have:=h.sz row hr
  rw[ahj];omega
noncomputable abbrev MC:XS:=aw (aB 4 (au gR [] (ag (e2 ar (eV 0) (eV 3)) (ag (e2 ar (eV 0) (eV 2)) ak)))) (bZ (tV (e2 fy (eV 4) (eC .aX))) (aw (d_ (eM pH (e2 ar (eV 1) (eV 3)) (ag (uX ic (eV 4) (iR (eC (.int 1))) jh) ak))) (d_ (eM pH (e2 ar (eV 1) (eV 2)) (ag (uX ic (eV 4) (iR (eC (.int 1))) jh) ak)))) aT)
theorem Uq{t:S2}(hs:jK 1000 s)(ht:jK 1000 t):∃c',gR [aE s,aE t] c=ae (cD (My.cV s t),c')/\c <+:c'/\∀p∈My.cs (My.cV s t),Ok 8000 p:=by
 obtain⟨c',e,p,h1,h2⟩:=Mu (c:=c) hs.o1 hs.o2 ht.o1 ht.o2;refine⟨c',e,p,λq hq=>?_⟩;unfold My.cV at hq;cases hm:My.cm s.1 s.2 t.1 t.2 with
 |none=>rw[hm]at hq;cases hq
 |fA r=>
  rw[hm]at hq;cases aak.mp hq;exact h1 q hm
 |dW r u=>
  rw[hm]at hq;obtain⟨k1,k2⟩:=h2 r u hm;rcases aaj.mp hq with rfl|hq
  .exact k1
  .cases aak.mp hq
   exact k2
theorem Jf{m:Nat}(hm:c[m]? =ae (.lst (S.map aE)))(hS:∀s∈S,jK 1000 s)(Mx:S.Nodup)(hn:S.length<=100):
  ∃fs rows c',jo [.ref m] c=ae (.ref c.length,c')/\c <+:c'/\c'[c.length]? =ae (.lst (fs.map D.ref))/\Runs sd c' fs rows/\(∀n∈fs,c.length<n)/\lQ S S.length 0 rows:=by
 have hi:iT (eV 0) [ae (.ref m),af,af,af,af] c=ae (⟨S.map aE,[(m,.lst (S.map aE))]⟩,c):=vo rfl hm;obtain⟨vs,c1,e1,p1,g1,l1,r1⟩:=vp (te:=eB nO (ag (eV 0) ak)) (g:=ay 0) (cap:=[af]) (λτ=>∃z,τ=[z]) (λi v c'=>∃n s,v= .ref n/\c.length<n/\S[i]? =ae s/\c'[n]? =ae (.lst ([s.1,s.2].map sd))) hi (λp hp=>by cases aak.mp hp;exact hm) ⟨af,rfl⟩
  (λi v c1 c2 ⟨n,x,h1,h2,h3,h4⟩ fr=>⟨n,x,h1,h2,h3,fr n _ (by omega) h4⟩)
  (by
   rintro i d hd τ c' ⟨z,vt⟩ pc lc;subst vt;rw[aaq]at hd;obtain⟨x,hx,rfl⟩:=aax.mp hd;have bt:nO [aE x] c'=ae (.ref c'.length,c'++[.lst [sd x.1,sd x.2]]):=rfl;refine⟨[ae (aE x)],.ref c'.length,[.lst [sd x.1,sd x.2]],rfl,?_,⟨_,rfl⟩,c'.length,x,rfl,lc,hx,by simp⟩;erw[bt])
  (by simp;omega)
 have ref:∃fs:List Nat,vs=fs.map D.ref/\fs.length=S.length/\∀(i n:Nat),fs[i]? =ae n->c.length<n/\∃s,S[i]? =ae s/\c1[n]? =ae (.lst ([s.1,s.2].map sd)):=by
  rw[aas]at l1;rw[<-l1];clear e1 g1 hi l1;have:∀(vs:List D) (k:Nat),(∀(i:Nat) v,vs[i]? =ae v->∃n s,v=D.ref n/\c.length<n/\S[k+i]? =ae s/\c1[n]? =ae (.lst ([s.1,s.2].map sd)))->∃ns:List Nat,vs=ns.map D.ref/\ns.length=vs.length/\∀(i n:Nat),ns[i]? =ae n->c.length<n/\∃s,S[k+i]? =ae s/\c1[n]? =ae (.lst ([s.1,s.2].map sd)):=by
   intro vs
   induction vs with
   |nil=>exact λk _=>⟨[],rfl,rfl,λi n h=>by cases h⟩
   |cons v vs ih=>
    intro k h;obtain⟨n,s,rfl,h0,h1,h2⟩:=h 0 v rfl;obtain⟨ns,rfl,h4,h5⟩:=ih (k+1) λi v hv=>by
     have:=h (i+1) v (by simpa using hv);rwa[show k+(i+1)=k+1+i by omega]at this
    refine⟨n::ns,rfl,by simp,λi q hq=>?_⟩;cases i with
    |zero=>
     cases hq;exact⟨h0,s,h1,h2⟩
    |succ i=>
     have:=h5 i q (by simpa using hq);rwa[show k+1+i=k+(i+1)by omega]at this
  obtain⟨ns,h1,h2,h3⟩:=this vs 0 λi v hv=>by rw[acC];exact r1 i v hv
  exact⟨ns,h1,h2,λi n hn=>by have:=h3 i n hn;rwa[acC]at this⟩
 obtain⟨fs,rfl,lf,Qc⟩:=ref;have oh:fs.Nodup:=by
  refine ac9.mpr λi j kE hj rW heq=>?_
  obtain⟨_,s,h1,h2⟩:=Qc i fs[i] (aac kE);obtain⟨_,t,h3,h4⟩:=Qc j fs[j] (aac hj);rw[heq,h4]at h2;have h5: [sd t.1,sd t.2]=[sd s.1,sd s.2]:=by simpa using h2
  have e5:t=s:=by
   obtain⟨a,b⟩:=t;obtain⟨x,y⟩:=s;simp only[adO,and_true,P0]at h5;rw[h5.1,h5.2]
  subst e5;have:=(adY (aae.mp h1).1 Mx).mp (h1.trans h3.symm);omega
 have r0:Runs sd c1 fs (S.map λs=>[s.1,s.2]):=⟨by rw[lf,aas],λi n l h1 h2=>by
  obtain⟨_,s,h3,h4⟩:=Qc i n h1;rw[aaq,h3]at h2;cases h2;exact h4⟩
 have f0:∀n∈fs,c.length<n:=λn hn=>by
  obtain⟨i,hi⟩:=aaS hn;exact(Qc i n hi).1
 have k0:lQ S 0 0 (S.map λs=>[s.1,s.2]):=by
  refine⟨by simp,λi s row h1 h2 p=>?_,λrow hr p hp=>?_,λrow hr=>?_⟩
  .rw[aaq,h1]at h2
   cases h2;simp[Pr]
  .obtain⟨s,hs,rfl⟩:=aaE.mp hr
   have:=hS s hs;simp at hp;rcases hp with rfl|rfl
   .exact this.o1.mono (by decide)
   .exact this.o2.mono (by decide)
  .obtain⟨s,hs,rfl⟩:=aaE.mp hr
   simp
 have s0:∀{c':Cells},c <+:c'->cq (.ref m) c'=ae (S.map aE):=λp=>aU (aA p hm)
 have step:∀(k j:Nat) (rows:List (List T3)) (c':Cells) (z3 z4:Option D),j<k->k<S.length->c <+:c'->c'[c.length]? =ae (.lst (fs.map D.ref))->Runs sd c' fs rows->lQ S k j rows->
   ∃mf Ur c2,MC [ae (.ref m),ae (.ref c.length),ae (.int (k:Int)),ae (.int (j:Int)),z4] c'=ae (.nx,[ae (.ref m),ae (.ref c.length),ae (.int (k:Int)),ae (.int (j:Int)),Ur],c2)/\c <+:c2/\c2[c.length]? =ae (.lst (fs.map D.ref))/\Runs sd c2 fs mf/\lQ S k (j+1) mf:=by
  intro k j rows c' z3 z4 BA hk p g R K;obtain⟨s,hs⟩:∃s,S[j]? =ae s:=⟨_,aac (by omega)⟩;obtain⟨t,ht⟩:∃t,S[k]? =ae t:=⟨_,aac hk⟩;have Hh:met S j k=My.cs (My.cV s t):=by unfold met;rw[hs,ht]
  obtain⟨c2,f1,f2,f3⟩:=Uq (c:=c') (hS s (aaf hs)) (hS t (aaf ht));have t1:gu (S.map aE) (j:Int)=ae (aE s):=uj hs;have t2:gu (S.map aE) (k:Int)=ae (aE t):=uj ht;have q0:=s0 p
  by_cases HS:My.cV s t= .none
  .rw[HS]at f1
   have n1:fy (cD .none) .aX c2=ae (.bl false,c2):=rfl;refine⟨rows,ae (cD .none),c2,?_,p.trans f2,aA f2 g,R.up f2,F5 K (by rw[Hh,HS];rfl)⟩;erw[gD,q0,t1,t2,f1,n1]
  .have hrl:rows.length=S.length:=K.len
   obtain⟨rj,ej⟩:∃r,rows[j]? =ae r:=⟨_,aac (by omega)⟩;obtain⟨rk,ek⟩:∃r,rows[k]? =ae r:=⟨_,aac (by omega)⟩;obtain⟨nj,fj,cj⟩:=R.get ej;obtain⟨nk,fk,ck⟩:=R.get ek;have hnj:=f0 nj (aaf fj);have hnk:=f0 nk (aaf fk);have fm:nk≠nj:=λz=>by
    have:=(adY (aae.mp fk).1 oh).mp (fk.trans (by rw[z];exact fj.symm));omega
   have D3:=Qb (My.cV s t);have szj:=K.sz rj (aaf ej);have szk:=K.sz rk (aaf ek);have abQ:k*S.length<=10000:=aa7 (ag5 (adt (aaB hk hn)) hn) (by decide);have u1:gu (fs.map D.ref) (j:Int)=ae (.ref nj):=pM fj;have u2:gu (fs.map D.ref) (k:Int)=ae (.ref nk):=pM fk;have v1:=aU (aA f2 g);have Xd:=aA f2 cj;have ZS:=aA f2 ck;have x1:=Rh (ps:=My.cs (My.cV s t)) Xd (by omega);have g3:(c2.set nj (.lst ((rj++My.cs (My.cV s t)).map sd)))[c.length]? =ae (.lst (fs.map D.ref)):=cJ (aA f2 g) (by omega);have v2:=aU g3;have Xe:(c2.set nj (.lst ((rj++My.cs (My.cV s t)).map sd)))[nk]? =ae (.lst (rk.map sd)):=cJ ZS fm;have x2:=Rh (ps:=My.cs (My.cV s t)) Xe (by omega);have w1:=aY Xd;have w2:=aY Xe;obtain⟨n1,n2⟩:=Rg (My.cV s t) (c:=c2) HS;obtain⟨_,n3⟩:=Rg (My.cV s t) (c:=c2.set nj (.lst ((rj++My.cs (My.cV s t)).map sd))) HS;refine⟨(rows.set j (rj++met S j k)).set k (rk++met S j k),ae (cD (My.cV s t)),(c2.set nj (.lst ((rj++My.cs (My.cV s t)).map sd))).set nk (.lst ((rk++My.cs (My.cV s t)).map sd)),?_,yI (yI (p.trans f2) (by omega)) (by omega),cJ g3 (by omega),?_,F6 K BA ej ek (by rw[Hh];exact f3) (by rw[Hh];exact D3)⟩
   .erw[gD,q0,t1,t2,f1,n1,v1,u1,w1,uh,n2,x1,v2,u2,w2,n3,x2]
   .rw[Hh]
    exact(Runs.put ((R.up f2).put oh fj) oh fk)
 have bl:bu [.ref m] c1=ae (.int S.length,c1):=i9 (aA p1 hm);have it:bF (ag (eB bu (ag (eV 0) ak)) ak) [ae (.ref m),ae (.ref c.length),af,af,af] c1=ae (⟨cN 0 S.length,[]⟩,c1):=by
  have:=gM (a:=ag (eB bu (ag (eV 0) ak)) ak) (σ:=[ae (.ref m),ae (.ref c.length),af,af,af]) (c:=c1) (c':=c1) (j:=(S.length:Int)) (by erw[bl]) (by omega);rw[this];simp
 obtain⟨σ',c',e2,rows,z2,z3,z4,rfl,p2,g2,R2,K2⟩:=cg (ks:=[]) (g:=ay 2) (body:=cA (bF (ag (eV 2) ak)) (ay 3) MC)
  (λk σ c'=>∃rows z2 z3 z4,σ=[ae (.ref m),ae (.ref c.length),z2,z3,z4]/\c <+:c'/\c'[c.length]? =ae (.lst (fs.map D.ref))/\Runs sd c' fs rows/\lQ S k 0 rows)
  (cN 0 S.length) 0 [ae (.ref m),ae (.ref c.length),af,af,af] c1 (λ_ _ _ _=>ef)
  (by
   rintro k d σ c' hd ⟨rows,z2,z3,z4,pL,p,g,R,K⟩;subst pL;obtain⟨hk,rfl⟩:=Ck hd;rw[ab3];rw[show 0+k=k by omega]at K;have ZT:bF (ag (eV 2) ak) [ae (.ref m),ae (.ref c.length),ae (.int (k:Int)),z3,z4] c'=ae (⟨cN 0 k,[]⟩,c'):=by
    have:=gM (a:=ag (eV 2) ak) (σ:=[ae (.ref m),ae (.ref c.length),ae (.int (k:Int)),z3,z4]) (c:=c') (c':=c') (j:=(k:Int)) (by erw[]) (by omega);rw[this];simp
   obtain⟨zC,c2,e3,FX,y3,y4,rfl,p3,g3,R3,K3⟩:=cg (ks:=[]) (g:=ay 3) (body:=MC)
    (λj σ c'=>∃rows z3 z4,σ=[ae (.ref m),ae (.ref c.length),ae (.int (k:Int)),z3,z4]/\c <+:c'/\c'[c.length]? =ae (.lst (fs.map D.ref))/\Runs sd c' fs rows/\lQ S k j rows)
    (cN 0 k) 0 [ae (.ref m),ae (.ref c.length),ae (.int (k:Int)),z3,z4] c' (λ_ _ _ _=>ef)
    (by
     rintro j d σ c' hd ⟨rows,z3,z4,pL,p,g,R,K⟩;subst pL;obtain⟨hj,rfl⟩:=Ck hd;rw[ab3];rw[show 0+j=j by omega]at K;obtain⟨mf,Ur,c2,h1,h2,h3,h4,h5⟩:=step k j rows c' z3 z4 hj hk p g R K;exact⟨_,_,_,c2,rfl,h1,mf,ae (.int (j:Int)),Ur,rfl,h2,h3,h4,by rw[show 0+j+1=j+1 by omega];exact h5⟩)
    ⟨rows,z3,z4,rfl,p,g,R,K⟩
   have e4:=gH (g:=ay 3) (b:=MC) ZT;rw[e3]at e4;have hl: 0+(cN 0 k).length=k:=by simp[cN]
   rw[hl]at K3;exact⟨_,_,_,c2,rfl,e4,FX,ae (.int (k:Int)),y3,y4,rfl,p3,g3,R3,by rw[show 0+k+1=k+1 by omega];exact F7 K3 hk⟩)
  ⟨_,af,af,af,rfl,p1,g1,r0,k0⟩
 have e5:=gH (g:=ay 2) (b:=cA (bF (ag (eV 2) ak)) (ay 3) MC) it;rw[e2]at e5;have hl: 0+(cN 0 S.length).length=S.length:=by simp[cN]
 rw[hl]at K2;refine⟨fs,rows,c',?_,p2,g2,R2,f0,K2⟩;rw[jo,gp,jn];erw[e1,e5]
theorem yR(p:T3):My.aP p p=false:=My.yB p
abbrev Jg(ys:List T3):Prop:=ys.Pairwise λx y=>My.aP x y=true
theorem Cm:∀{ys:List T3},jR My.aP ys->ys.Nodup->(∀p∈ys,My.aS p)->Jg ys
 |[],_,_,_=>.nil
 |x::l,h,nd,lo=>by
  have kK:=abZ.mp nd;have ih:=Cm (m_ h) kK.2 λp hp=>lo p (aap _ hp)
  refine aaG.mpr ⟨λy hy=>?_,ih⟩;have strict:∀{p q:T3},p∈x::l->q∈x::l->My.aP q p=false->p≠q->My.aP p q=true:=λ{p q} hp hq h1 h2=>by
   rcases My.iF (lo p hp) (lo q hq)with g|g|g
   .exact g
   .exact absurd g h2
   .rw[h1]at g;cases g
  cases l with
  |nil=>cases hy
  |cons z l=>
   have MD:My.aP x z=true:=strict aao (by simp) h.1 (λe=>kK.1 (by rw[e];simp));rcases aaj.mp hy with rfl|hy
   .exact MD
   .exact My.nY (lo x (by simp)) (lo z (by simp)) (lo y (by simp[hy])) MD ((aaG.mp ih).1 y hy)
def eY(ys:List T3):List S2:=ys.zip ys.tail
theorem En:∀{ys:List T3},Jg ys->∀p q,(p,q)∈eY ys↔p∈ys/\q∈ys/\My.aP p q=true/\∀r∈ys,¬(My.aP p r=true/\My.aP r q=true)
 |[],_,p,q=>by simp[eY]
 |[x],_,p,q=>by
  simp[eY];rintro rfl rfl h;rw[yR]at h;cases h
 |x::y::t,h,p,q=>by
  have h1:=aaG.mp h;have h2:=aaG.mp h1.2;have ih:=En (ys:=y::t) h1.2 p q;have e:eY (x::y::t)=(x,y)::eY (y::t):=rfl;rw[e,aaj];have F8:∀{a b:T3},My.aP a b=true->¬My.aP b a=true:=λh z=>by rw[My.cf h]at z;cases z
  have Jh:∀{a:T3},¬My.aP a a=true:=λz=>by rw[yR]at z;cases z
  constructor
  .rintro(z|z)
   .cases z
    refine⟨by simp,by simp,h1.1 y (by simp),λr hr bg=>?_⟩;obtain⟨k1,k2⟩:=bg;rcases aaj.mp hr with rfl|hr
    .exact Jh k1
    .rcases aaj.mp hr with rfl|hr
     .exact Jh k2
     .exact F8 (h2.1 r hr) k2
   .obtain⟨a1,a2,a3,a4⟩:=ih.mp z
    refine⟨aap _ a1,aap _ a2,a3,λr hr k=>?_⟩;rcases aaj.mp hr with rfl|hr
    .exact F8 (h1.1 p a1) k.1
    .exact a4 r hr k
  .rintro⟨a1,a2,a3,a4⟩
   rcases aaj.mp a1 with rfl|b1
   .rcases aaj.mp a2 with rfl|b2
    .exact absurd a3 Jh
    .rcases aaj.mp b2 with rfl|b3
     .exact .inl rfl
     .exact absurd ⟨h1.1 y (by simp),h2.1 q b3⟩ (a4 y (by simp))
   .rcases aaj.mp a2 with rfl|b2
    .exact absurd a3 (F8 (h1.1 p b1))
    .exact .inr (ih.mpr ⟨b1,b2,a3,λr hr=>a4 r (aap _ hr)⟩)
structure fO(S:List S2)(s:S2)(z:S2):Prop where
 c1:My.jQ S s z.1
 c2:My.jQ S s z.2
 lt:My.aP z.1 z.2=true
 no:∀r,My.jQ S s r->¬(My.aP z.1 r=true/\My.aP r z.2=true)
variable{ys:List T3}
theorem Eo(h:Jg ys)(hm:∀p,p∈ys↔My.jQ S s p)(z:S2):z∈eY ys↔fO S s z:=by
 obtain⟨p,q⟩:=z;rw[En h p q];constructor
 .rintro⟨a1,a2,a3,a4⟩
  exact⟨(hm p).mp a1,(hm q).mp a2,a3,λr hr=>a4 r ((hm r).mpr hr)⟩
 .rintro⟨a1,a2,a3,a4⟩
  exact⟨(hm p).mpr a1,(hm q).mpr a2,a3,λr hr=>a4 r ((hm r).mp hr)⟩
theorem fO.move{t z:S2}(hS:∀t∈S,My.Sd t)(hs:s∈S)(ht:t∈S)(h:fO S s z)(o1:My.On z.1 t)(o2:My.On z.2 t):fO S t z:=by
 have ds:=hS s hs;have dt:=hS t ht;refine⟨h.c1.move hS hs ht o1,h.c2.move hS hs ht o2,h.lt,λr hr bg=>?_⟩;obtain⟨k1,k2⟩:=bg;have q1:=h.c1.on hS ds;have q2:=h.c2.on hS ds;have rt:=hr.on hS dt;have hz:My.Sd z:=⟨q1.1,q2.1,λe=>by have:=h.lt;rw[e,yR]at this;cases this⟩;have e1:=My.gC.symm ds (show My.gC s z from⟨q1.dt,q2.dt⟩);have e2:My.aG z.1 z.2 r=0:=My.D9 dt.di o1.dt o2.dt rt.dt;have e3:My.aG s.1 s.2 r=0:=My.D9 hz.di e1.1 e1.2 e2;obtain⟨l1,l2⟩:=My.gk ds.l1 ds.l2;obtain⟨a1,a2⟩:=(My.dw q1.dt).mp q1.2;obtain⟨b1,b2⟩:=(My.dw q2.dt).mp q2.2;have rs:My.On r s:=⟨rt.1,(My.dw e3).mpr ⟨My.le_trans l1 q1.1 rt.1 a1 (My.j9 k1),My.le_trans rt.1 q2.1 l2 (My.j9 k2) b2⟩⟩;exact h.no r (hr.move hS ht hs rs) ⟨k1,k2⟩
theorem fO.on{z:S2}(hS:∀t∈S,My.Sd t)(hs:s∈S)(h:fO S s z):My.On z.1 s/\My.On z.2 s:=⟨h.c1.on hS (hS s hs),h.c2.on hS (hS s hs)⟩
theorem vz(hS:∀t∈S,My.Sd t)(Mx:S.Nodup)(h:lQ S S.length 0 rows)(h1:S[i]? =ae s)(h2:rows[i]? =ae row)(p:T3):p∈row↔My.jQ S s p:=by
 rw[h.mem i s row h1 h2 p];have hs:=aaf h1;unfold My.jQ;have:(∃a b,Pr S.length 0 a b/\(i=a\/i=b)/\p∈met S a b)↔∃t∈S,t≠s/\p∈My.cs (My.cV s t):=by
  constructor
  .rintro⟨a,b,⟨u,v⟩,w,x⟩
   have hb:b<S.length:=by omega
   obtain⟨sa,ha⟩:∃x,S[a]? =ae x:=⟨_,aac (by omega)⟩;obtain⟨sb,ua⟩:∃x,S[b]? =ae x:=⟨_,aac hb⟩;have ne:sa≠sb:=λz=>by
    have:=(adY (aae.mp ha).1 Mx).mp (ha.trans (by rw[z];exact ua.symm));omega
   unfold met at x;rw[ha,ua]at x;rcases w with rfl|rfl
   .rw[h1]at ha
    cases ha;exact⟨sb,aaf ua,ne.symm,x⟩
   .rw[h1]at ua
    cases ua;refine⟨sa,aaf ha,ne,?_⟩;rw[My.xw (hS _ (aaf ha)) (hS _ hs)];exact x
  .rintro⟨t,ht,ne,x⟩
   obtain⟨j,hj⟩:=aaS ht;have rW:i≠j:=λz=>by
    subst z;rw[h1]at hj;exact ne (aaI hj).symm
   have Uo:=(aae.mp hj).1;have kE:=(aae.mp h1).1;rcases aeb i j with g|g
   .refine⟨i,j,⟨g,.inl Uo⟩,.inl rfl,?_⟩
    unfold met;rw[h1,hj];exact x
   .refine⟨j,i,⟨by omega,.inl kE⟩,.inr rfl,?_⟩
    unfold met;rw[h1,hj];show p∈My.cs (My.cV t s);rw[My.xw (hS _ hs) (hS _ ht)];exact x
 rw[this]
abbrev PV:=List (S2×List Int)
def uv(ks:KV):PV:=ks.map λk=>(k.1,k.2.2)
def kL(v:PV)(s:S2)(zs:List Int):PV:=if s∈v.map (·.1)then v.map (λk=>if k.1=s then(k.1,k.2++zs)else k)else v++[(s,zs)]
theorem vA(ks:KV):(uv ks).map (·.1)=keys ks:=by unfold uv keys;rw[aa2];rfl
theorem ME(ks:KV)(n:Nat)(s:S2)(zs:List Int):uv (jd ks n s zs)=kL (uv ks) s zs:=by
 unfold kL;rw[vA];unfold jd;split
 .unfold uv
  rw[aa2,aa2];refine acM λk _=>?_
  dsimp only[aer];split<;>rfl
 .simp[uv]
theorem MF(ys:List T3):gZ (ys.map sd) (ys.tail.map sd)=(eY ys).map aE:=by
 unfold gZ eY;rw[List.zip_map,aa2];rfl
structure yS(c:Cells)(L:Nat)(ks:KV):Prop where
 at_:c[L]? =ae (.km (ks.map λk=>(kS k.1,D.ref k.2.1)))
 cell:∀k∈ks,c[k.2.1]? =ae (.lst (k.2.2.map D.int))
theorem yS.keep{ks:KV}(h:yS c L ks){S:List Nat}(k:Kq S c c')(hL:L∉S)(hi:∀n∈ids ks,n∉S):yS c' L ks:=⟨k L _ hL h.at_,λx hx=>k _ _ (hi _ (aaN hx)) (h.cell x hx)⟩
theorem yS.ix{k:XE}{ks:KV}(h:yS c L ks){q:S2×Nat×List Int}(hq:q∈ks)(kd:(keys ks).Nodup)(ho:o σ c=ae (.ref L,c))(hk:k σ c=ae (aE q.1,c)):jP o k σ c=ae (.ref q.2.1,c):=by
 obtain⟨q',Eh,e,ha⟩:=xC (ks:=ks) (s:=q.1) ⟨q,hq,rfl⟩;have inj:∀{l:KV},(keys l).Nodup->∀x∈l,∀y∈l,x.1=y.1->x=y:=by
  intro l
  induction l with
  |nil=>exact λ_ x hx=>nomatch hx
  |cons a l ih=>
   intro nd x hx y hy yQ;have kK:a.1∉keys l/\(keys l).Nodup:=by simpa[keys]using nd
   rcases aaj.mp hx with rfl|gq<;>rcases aaj.mp hy with rfl|jz
   .rfl
   .exact absurd (aaE.mpr ⟨y,jz,yQ.symm⟩) kK.1
   .exact absurd (aaE.mpr ⟨x,gq,yQ⟩) kK.1
   .exact ih kK.2 x gq y jz yQ
 cases inj kd q' Eh q hq e;have t1:sE (.ref L) c=ae (ks.map λk=>(kS k.1,D.ref k.2.1)):=by
  unfold sE;simp[h.at_]
 unfold jP;simp only[ho,hk,t1,aag,Ci,ha]
theorem Ji{A B C5:Option D}{L1 L2 n6:Nat}{z7:Option D}{ls ks:KV}{q:S2×Nat×List Int}{M:Nat}(dl:DS c L1 ls)(fz:yS c L2 ks)(kd:(keys ks).Nodup)(hq:q∈ks)(h6:c[n6]? =ae (.lst (ys.map sd)))
  (a1:L2∉L1::ids ls)(a2:∀n∈ids ks,n∉L1::ids ls)(a3:n6∉L1::ids ls)(hM:∀k∈ls,k.2.2.length<=M)(hb:M+(ys.length+1)*(q.2.2.length+1)<=100000)(hl:ls.length+ys.length<100000):
  ∃nu z c',cA (sC (ag (eV 6) (ag (uX ic (eV 6) (iR (eC (.int 1))) jh) ak))) (ay 7) (d_ (eM fU (fV (eV 1) (eV 7)) (ag (jP (eV 2) (eV 4)) ak))) [A,ae (.ref L1),ae (.ref L2),B,ae (aE q.1),C5,ae (.ref n6),z7] c=ae (.nx,[A,ae (.ref L1),ae (.ref L2),B,ae (aE q.1),C5,ae (.ref n6),z],c')/\
   DS c' L1 nu/\Kq (L1::ids ls) c c'/\(∀n∈ids nu,n∈ids ls\/c.length<=n)/\uv nu=(eY ys).foldl (λv z=>kL v z q.2.2) (uv ls)/\nu.length<=ls.length+ys.length/\∀k∈nu,k.2.2.length<=M+ys.length*q.2.2.length:=by
 have ct:ic (.ref n6) (ae 1) af c=ae (.ref c.length,c++[.lst (ys.tail.map sd)]):=by
  show((cq (.ref n6) c).bind _)=_;rw[aU h6,aag];have:Qm.cutD (ys.map sd) (ae 1) af=ys.tail.map sd:=by
   cases ys with
   |nil=>rfl
   |cons y t=>exact Hb (e:=sd) (l:=y::t) (k:=1) (by simp)
  rw[this]
 have l6:=bM h6;have g6:=bH (zs:=[Cell.lst (ys.tail.map sd)]) h6;have it:sC (ag (eV 6) (ag (uX ic (eV 6) (iR (eC (.int 1))) jh) ak)) [A,ae (.ref L1),ae (.ref L2),B,ae (aE q.1),C5,ae (.ref n6),z7] c=ae (⟨(eY ys).map aE,[(n6,.lst (ys.map sd)),(c.length,.lst (ys.tail.map sd))]⟩,c++[.lst (ys.tail.map sd)]):=by
  have ha:ag (eV 6) (ag (uX ic (eV 6) (iR (eC (.int 1))) jh) ak) [A,ae (.ref L1),ae (.ref L2),B,ae (aE q.1),C5,ae (.ref n6),z7] c=ae ([.ref n6,.ref c.length],c++[.lst (ys.tail.map sd)]):=by erw[uh,ct]
  unfold sC;rw[ha,aag];dsimp only
  rw[g6,bh,aY g6,aY bh,<-MF];rfl
 have Xf:(eY ys).length<=ys.length:=by unfold eY;simp
 have Ms:∀n∈ids ls,n<c.length:=λn hn=>dl.ur hn
 have Ph:=bM dl.at_;obtain⟨σ',c',e1,nu,z,rfl,d1,k1,i1,v1,n1,m1⟩:=cg (ks:=[(n6,.lst (ys.map sd)),(c.length,.lst (ys.tail.map sd))]) (g:=ay 7) (body:=d_ (eM fU (fV (eV 1) (eV 7)) (ag (jP (eV 2) (eV 4)) ak)))
  (λi σ c'=>∃nu z,σ=[A,ae (.ref L1),ae (.ref L2),B,ae (aE q.1),C5,ae (.ref n6),z]/\DS c' L1 nu/\Kq (L1::ids ls) (c++[.lst (ys.tail.map sd)]) c'/\(∀n∈ids nu,n∈ids ls\/c.length<n)/\uv nu=((eY ys).take i).foldl (λv z=>kL v z q.2.2) (uv ls)/\nu.length<=ls.length+i/\∀k∈nu,k.2.2.length<=M+i*q.2.2.length)
  ((eY ys).map aE) 0 [A,ae (.ref L1),ae (.ref L2),B,ae (aE q.1),C5,ae (.ref n6),z7] (c++[.lst (ys.tail.map sd)])
  (by
   rintro i σ c' ⟨nu,z,pL,d1,k1,_⟩ p hp;rcases aaj.mp hp with rfl|hp
   .exact k1 _ _ a3 g6
   .cases aak.mp hp
    exact k1 _ _ (λhm=>by
     rcases aaj.mp hm with e|hm
     .exact absurd Ph (by rw[<-e];exact aaZ _)
     .exact absurd (Ms _ hm) (aaZ _)) bh)
  (by
   rintro i d σ c' hd ⟨nu,z,pL,d1,k1,i1,v1,n1,m1⟩;subst pL;rw[aaq]at hd;obtain⟨pq,Xg,rfl⟩:=aax.mp hd;have kE:=(aae.mp Xg).1;rw[show 0+i=i by omega]at v1 n1 m1;obtain⟨n,c1,row,f1,f2,f3,f4,f5,f6,f7,f8⟩:=MA (o:=eV 1) (k:=eV 7) (σ:=[A,ae (.ref L1),ae (.ref L2),B,ae (aE q.1),C5,ae (.ref n6),ae (aE pq)]) (s:=pq) (zs:=q.2.2) d1 rfl rfl (by omega);have MG:∀{x:Nat},x∉L1::ids ls->x<c.length->x∉L1::ids nu:=λ{x} hx hxl hm=>by
    rcases aaj.mp hm with rfl|hm
    .exact hx aao
    .rcases i1 x hm with h|h
     .exact hx (aap _ h)
     .omega
   have ZU:yS c' L2 ks:=(show yS (c++[.lst (ys.tail.map sd)]) L2 ks from⟨bH fz.at_,λx hx=>bH (fz.cell x hx)⟩).keep k1 a1 a2;have Qd:yS c1 L2 ks:=ZU.keep f7 (MG a1 (bM fz.at_)) (λx hx=>MG (a2 x hx) (by
    obtain⟨k,hk,rfl⟩:=aaE.mp hx;exact bM (fz.cell k hk)))
   have ix:=Qd.ix (o:=eV 2) (k:=eV 4) (σ:=[A,ae (.ref L1),ae (.ref L2),B,ae (aE q.1),C5,ae (.ref n6),ae (aE pq)]) hq kd rfl rfl;have w1:=aY f2;have w2:=aY (Qd.cell q hq);have El:row.length<=M+i*q.2.2.length:=by
    rcases f3 with rfl|⟨r,hr,rfl⟩
    .simp
    .exact m1 r hr
   have hmul:i*q.2.2.length<=ys.length*q.2.2.length:=agX _ (by omega);have ZV:(ys.length+1)*(q.2.2.length+1)=ys.length*q.2.2.length+ys.length+q.2.2.length+1:=by rw[ahj,Nat.mul_add];omega
   have mx:fU (.ref n) [.ref q.2.1] c1=ae (.aX,c1.set n (.lst ((row++q.2.2).map D.int))):=by
    unfold fU one;simp only[w1,w2,aag,aas];rw[if_pos (show row.length+q.2.2.length<=cC by rw[dF];omega),ado]
   have D3:c.length<c'.length:=by
    have:=bM (k1 c.length _ (λhm=>by
     rcases aaj.mp hm with e|hm
     .exact absurd Ph (by rw[<-e];exact aaZ _)
     .exact absurd (Ms _ hm) (aaZ _)) bh)
    exact this
   refine⟨_,_,[A,ae (.ref L1),ae (.ref L2),B,ae (aE q.1),C5,ae (.ref n6),ae (aE pq)],c1.set n (.lst ((row++q.2.2).map D.int)),rfl,?_,jd nu c'.length pq q.2.2,ae (aE pq),rfl,f5,?_,?_,?_,?_,?_⟩
   .erw[f1,w1,ix,mx]
   .refine k1.trans f6 λx hx=>?_
    rcases aaj.mp hx with rfl|hx
    .exact .inl aao
    .rcases i1 x hx with h|h
     .exact .inl (aap _ h)
     .exact .inr (by simp;omega)
   .intro x hx
    rw[kf]at hx;split at hx
    .exact i1 x hx
    .rcases aaJ.mp hx with hx|hx
     .exact i1 x hx
     .cases aak.mp hx
      exact .inr D3
   .rw[ME,v1,show 0+i+1=i+1 by omega,afS,Xg]
    simp
   .have:=AG (ks:=nu) (n:=c'.length) (s:=pq) (zs:=q.2.2)
    omega
   .intro k hk
    rw[show 0+i+1=i+1 by omega,ahj,Nat.one_mul];unfold jd at hk;split at hk
    .obtain⟨k',pQ,rfl⟩:=aaE.mp hk
     have:=m1 k' pQ;split
     .rw[aaR];omega
     .omega
    .rcases aaJ.mp hk with hk|hk
     .have:=m1 k hk;omega
     .cases aak.mp hk
      show q.2.2.length<=_;omega)
  ⟨ls,z7,rfl,dl.up ⟨_,rfl⟩,Kq.refl _ _,λn hn=>.inl hn,rfl,aam _,λk hk=>by have:=hM k hk;omega⟩
 have e2:=gH (g:=ay 7) (b:=d_ (eM fU (fV (eV 1) (eV 7)) (ag (jP (eV 2) (eV 4)) ak))) it;rw[e1]at e2;have ZW: 0+((eY ys).map aE).length=(eY ys).length:=by simp
 rw[ZW]at v1 n1 m1;rw[agi]at v1;refine⟨nu,z,c',e2,d1,(Kq.pre (S:=L1::ids ls) (show c <+:c++[.lst (ys.tail.map sd)] from⟨_,rfl⟩)).trans k1 (λx hx=>.inl hx),λn hn=>(i1 n hn).imp id adt,v1,by omega,λk hk=>?_⟩;have:=m1 k hk;have:=agX q.2.2.length Xf;omega
theorem sN(v:PV)(s:S2)(zs:List Int):(kL v s zs).map (·.1)=if s∈v.map (·.1)then v.map (·.1)else v.map (·.1)++[s]:=by
 unfold kL;split
 .rw[aa2]
  refine acM λk _=>?_
  dsimp only[aer];split<;>rfl
 .simp
variable{ns:List Int}
theorem AH{v:PV}{x:S2×List Int}(h:x∈kL v s ns):(x.1=s/\((∃row,(s,row)∈v/\x.2=row++ns)\/(s∉v.map (·.1)/\x.2=ns)))\/(x.1≠s/\x∈v):=by
 unfold kL at h;split at h
 .rename_i hs
  obtain⟨k,hk,rfl⟩:=aaE.mp h
  by_cases e:k.1=s
  .rw[if_pos e]
   exact .inl ⟨e,.inl ⟨k.2,by rw[<-e];exact hk,rfl⟩⟩
  .rw[if_neg e]
   exact .inr ⟨e,hk⟩
 .rename_i hs
  rcases aaJ.mp h with h|h
  .exact .inr ⟨λe=>hs (by rw[<-e];exact aaN h),h⟩
  .cases aak.mp h
   exact .inl ⟨rfl,.inr ⟨hs,rfl⟩⟩
theorem yT(ns:List Int):∀(zs:List S2) (v:PV),(v.map (·.1)).Nodup->((zs.foldl (λv z=>kL v z ns) v).map (·.1)).Nodup/\∀z,z∈(zs.foldl (λv z=>kL v z ns) v).map (·.1)↔z∈v.map (·.1)\/z∈zs
 |[],v,h=>⟨h,λz=>by simp⟩
 |y::zs,v,h=>by
  have h2:((kL v y ns).map (·.1)).Nodup:=by
   rw[sN];split
   .exact h
   .rename_i hy
    rw[acG];exact⟨h,by simp,λa ha b hb e=>hy (by rw[<-aak.mp hb,<-e];exact ha)⟩
  obtain⟨k1,k2⟩:=yT ns zs (kL v y ns) h2;refine⟨k1,λz=>?_⟩;rw[agL,k2 z,sN,aaj];split
  .rename_i hy
   constructor
   .rintro(a|a)
    .exact .inl a
    .exact .inr (.inr a)
   .rintro(a|rfl|a)
    .exact .inl a
    .exact .inl hy
    .exact .inr a
  .rw[aaJ,aak]
   constructor
   .rintro((a|a)|a)
    .exact .inl a
    .exact .inr (.inl a)
    .exact .inr (.inr a)
   .rintro(a|a|a)
    .exact .inl (.inl a)
    .exact .inl (.inr a)
    .exact .inr a
theorem AI(ns:List Int):∀(zs:List S2) (v:PV) (x:S2×List Int),zs.Nodup->x∈zs.foldl (λv z=>kL v z ns) v->
  (x.1∈zs/\((∃row,(x.1,row)∈v/\x.2=row++ns)\/(x.1∉v.map (·.1)/\x.2=ns)))\/(x.1∉zs/\x∈v)
 |[],v,x,_,h=>.inr ⟨by simp,h⟩
 |y::zs,v,x,nd,h=>by
  have kK:=abZ.mp nd;rcases AI ns zs (kL v y ns) x kK.2 h with⟨h1,h2⟩|⟨h1,h2⟩
  .have fm:x.1≠y:=λe=>kK.1 (by rw[<-e];exact h1)
   refine .inl ⟨aap _ h1,?_⟩;rcases h2 with⟨row,hr,e⟩|⟨hk,e⟩
   .rcases AH hr with⟨a,_⟩|⟨_,a⟩
    .exact absurd a fm
    .exact .inl ⟨row,a,e⟩
   .refine .inr ⟨λhm=>hk ?_,e⟩
    rw[sN];split
    .exact hm
    .exact ad1 _ hm
  .rcases AH h2 with⟨a,b⟩|⟨a,b⟩
   .refine .inl ⟨by rw[a];exact aao,?_⟩
    rw[a];exact b
   .refine .inr ⟨λhm=>?_,b⟩
    rcases aaj.mp hm with e|hm
    .exact a e
    .exact h1 hm
structure VS(S:List S2)(nm:S2->List Int)(T:List S2)(v:PV):Prop where
 nd:(v.map (·.1)).Nodup
 key:∀z,z∈v.map (·.1)↔∃s∈T,fO S s z
 row:∀x∈v,x.2.Nodup/\∀k,k∈x.2↔∃s∈T,fO S s x.1/\k∈nm s
variable{T:List S2}
theorem VS.step{nm:S2->List Int}{v:PV}{zs:List S2}(h:VS S nm T v)(hz:∀z,z∈zs↔fO S s z)(nz:zs.Nodup)(hn:(nm s).Nodup)(hd:∀t∈T,∀k∈nm t,k∉nm s):VS S nm (T++[s]) (zs.foldl (λv z=>kL v z (nm s)) v):=by
 obtain⟨k1,k2⟩:=yT (nm s) zs v h.nd;have ex:∀(P:S2->Prop),(∃t∈T++[s],P t)↔(∃t∈T,P t)\/P s:=λP=>by
  constructor
  .rintro⟨t,ht,p⟩
   rcases aaJ.mp ht with ht|ht
   .exact .inl ⟨t,ht,p⟩
   .cases aak.mp ht
    exact .inr p
  .rintro(⟨t,ht,p⟩|p)
   .exact⟨t,ad1 _ ht,p⟩
   .exact⟨s,by simp,p⟩
 refine⟨k1,λz=>?_,λx hx=>?_⟩
 .rw[k2 z,h.key z,hz z,ex]
 .have e2:∀k,(∃t∈T++[s],fO S t x.1/\k∈nm t)↔(∃t∈T,fO S t x.1/\k∈nm t)\/(fO S s x.1/\k∈nm s):=λk=>ex _
  rcases AI (nm s) zs v x nz hx with⟨h1,h2⟩|⟨h1,h2⟩
  .have cs:=(hz x.1).mp h1
   rcases h2 with⟨row,hr,e⟩|⟨hk,e⟩
   .obtain⟨r1,r2⟩:=h.row _ hr
    rw[e];refine⟨acG.mpr ⟨r1,hn,λa ha b hb ZX=>?_⟩,λk=>?_⟩
    .obtain⟨t,ht,_,hk⟩:=(r2 a).mp ha
     exact hd t ht a hk (by rw[ZX];exact hb)
    .rw[aaJ,r2 k,e2]
     constructor
     .rintro(a|a)
      .exact .inl a
      .exact .inr ⟨cs,a⟩
     .rintro(a|⟨_,a⟩)
      .exact .inl a
      .exact .inr a
   .rw[e]
    refine⟨hn,λk=>?_⟩;rw[e2];constructor
    .exact λa=>.inr ⟨cs,a⟩
    .rintro(⟨t,ht,c,_⟩|⟨_,a⟩)
     .exact absurd ((h.key _).mpr ⟨t,ht,c⟩) hk
     .exact a
  .obtain⟨r1,r2⟩:=h.row _ h2
   refine⟨r1,λk=>?_⟩;rw[r2 k,e2];constructor
   .exact .inl
   .rintro(a|⟨c,_⟩)
    .exact a
    .exact absurd ((hz x.1).mpr c) h1
theorem vY:∀{ys:List T3},ys.Nodup->(eY ys).Nodup
 |[],_=>.nil
 |[_],_=>by simp[eY]
 |x::y::t,h=>by
  have e:eY (x::y::t)=(x,y)::eY (y::t):=rfl;rw[e];have h':=abZ.mp h;refine abZ.mpr ⟨λhm=>h'.1 ?_,vY h'.2⟩;exact(aem hm).1
theorem kM{k:Int}:k∈num S s i↔∃j:Nat,j<i/\k=(j:Int)/\(S[j]?).map bI=ae s:=by
 unfold num;rw[aaE];constructor
 .rintro⟨j,hj,rfl⟩
  obtain⟨a,b⟩:=ace.mp hj;exact⟨j,abC.mp a,rfl,of_decide_eq_true b⟩
 .rintro⟨j,a,rfl,b⟩
  exact⟨j,ace.mpr ⟨abC.mpr a,decide_eq_true b⟩,rfl⟩
theorem yU:(num S s i).Nodup:=by
 unfold num;exact afT _ (λa b (h:a≠b) e=>h (by omega)) (ae6 _ List.nodup_range)
theorem F9{t:S2}(h:t≠s){k:Int}(hk:k∈num S t i):k∉num S s i:=by
 intro hm;obtain⟨j,_,rfl,a⟩:=kM.mp hk;obtain⟨j',_,e,b⟩:=kM.mp hm;have:j=j':=by omega
 subst this;rw[a]at b;exact h (aaI b)
theorem uw:∀(n:Nat) (l:List Int),l.Nodup->(∀k∈l,0<=k/\k<n)->l.length<=n
 |0,l,_,h=>by
  cases l with
  |nil=>simp
  |cons x l=>have:=h x aao;omega
 |n+1,l,nd,h=>by
  by_cases hm:(n:Int)∈l
  .have h1:=uw n (l.erase (n:Int)) (nd.erase _) λk hk=>by
    have h2:=(afU nd).mp hk;have:=h k h2.2;have:=h2.1;omega
   have:=afV hm;omega
  .have:=uw n l nd λk hk=>by
    have:=h k hk;have:k≠n:=λe=>hm (by rw[<-e];exact hk)
    omega
   omega
theorem sub_len:∀(l m:List T3),l.Nodup->(∀x∈l,x∈m)->l.length<=m.length
 |l,[],_,h=>by
  cases l with
  |nil=>simp
  |cons x l=>exact absurd (h x aao) (by simp)
 |l,y::m,nd,h=>by
  rw[aaU]
  by_cases hm:y∈l
  .have h1:=sub_len (l.erase y) m (nd.erase _) λx hx=>by
    have h2:=(afU nd).mp hx;exact(aaj.mp (h x h2.2)).resolve_left h2.1
   have:=afV hm;omega
  .have:=sub_len l m nd λx hx=>(aaj.mp (h x hx)).resolve_left λe=>hm (by rw[<-e];exact hx)
   omega
noncomputable abbrev MH(x0 x1:Nat):XS:=aw (aB 6 (au (m8 x0 x1) [] (ag (eV 4) (ag (eV 5) ak)))) (cA (sC (ag (eV 6) (ag (uX ic (eV 6) (iR (eC (.int 1))) jh) ak))) (ay 7) (d_ (eM fU (fV (eV 1) (eV 7)) (ag (jP (eV 2) (eV 4)) ak))))
theorem Us(ks:List S2)(fs:List Nat):gZ (ks.map aE) (fs.map D.ref)=(ks.zip fs).map λx=>D.tup [aE x.1,D.ref x.2]:=by
 unfold gZ;rw[List.zip_map,aa2];rfl
theorem MI(ks:KV):(ks.map λk=>(kS k.1,D.ref k.2.1)).map (λq=>DM q.1)=(keys ks).map aE:=by
 unfold keys;rw[aa2,aa2];rfl
variable{IN:List S2}
theorem Ut{A:Option D}{L1 L2 L3:Nat}{ks:KV}{fs:List Nat}{N:Nat}
  (hN:N<=30)(d1:DS c L1 [])(d2:DS c L2 ks)(h3:c[L3]? =ae (.lst (fs.map D.ref)))(R:Runs sd c fs rows)(K:lQ (keys ks) (keys ks).length 0 rows)(nm:∀q∈ks,q.2.2=num IN q.1 N)(hk:ks.length<=N)
  (hS:∀s∈keys ks,jK 1000 s/\My.Sd s/\My.aP s.1 s.2=true)(n2:L1≠L2)(n3:L1≠L3)(ZY:L2≠L3)(i1:L1∉ids ks)(i2:L1∉fs)(j2:L2∉fs)(j3:∀n∈ids ks,n∉fs):
  ∃ls z4 z5 z6 z7 c',cA (t6 (ag (eV 2) (ag (eV 3) ak))) (gy 2 (bA (ay 4) (bA (ay 5) fP))) (MH x0 x1) [A,ae (.ref L1),ae (.ref L2),ae (.ref L3),af,af,af,af] c=ae (.nx,[A,ae (.ref L1),ae (.ref L2),ae (.ref L3),z4,z5,z6,z7],c')/\
   DS c' L1 ls/\Kq [L1,L2] c c'/\(∀n∈ids ls,c.length<=n)/\VS (keys ks) (λs=>num IN s N) (keys ks) (uv ls)/\ls.length<=100000:=by
 have kd:=d2.kd;have Xh:(keys ks).length=ks.length:=by simp[keys]
 have Uu:∀t∈keys ks,My.Sd t:=λt ht=>(hS t ht).2.1
 have lf:fs.length=(keys ks).length:=by rw[R.len,K.len]
 generalize vZ:c.set L2 (.km (ks.map λk=>(kS k.1,D.ref k.2.1)))=cst;have abR:cst.length=c.length:=by rw[<-vZ];simp
 have ZZ:Kq [L1,L2] c cst:=λj z hj e=>by
  rw[<-vZ];exact cJ e λh=>hj (by rw[h];simp)
 have Uv:yS cst L2 ks:=⟨by rw[<-vZ];exact jv (bM d2.at_),λx hx=>by
  rw[<-vZ];exact cJ (d2.cell x hx) λh=>d2.ne (by rw[<-h];exact aaN hx)⟩
 have g3:cst[L3]? =ae (.lst (fs.map D.ref)):=by rw[<-vZ];exact cJ h3 ZY.symm
 have R0:Runs sd cst fs rows:=⟨R.len,λi n l h1 h2=>by rw[<-vZ];exact cJ (R.at_ i n l h1 h2) λh=>j2 (by rw[<-h];exact aaf h1)⟩;have Z0:DS cst L1 []:=⟨by rw[<-vZ];exact cJ d1.at_ n2,λ_ h=>(nomatch h),.nil,.nil,by simp[ids]⟩;have it:t6 (ag (eV 2) (ag (eV 3) ak)) [A,ae (.ref L1),ae (.ref L2),ae (.ref L3),af,af,af,af] c=ae (⟨((keys ks).zip fs).map λx=>D.tup [aE x.1,D.ref x.2],[(L2,.km (ks.map λk=>(kS k.1,D.ref k.2.1))),(L3,.lst (fs.map D.ref))]⟩,cst):=by
  have ha:ag (eV 2) (ag (eV 3) ak) [A,ae (.ref L1),ae (.ref L2),ae (.ref L3),af,af,af,af] c=ae ([.ref L2,.ref L3],c):=by erw[]
  unfold t6;rw[ha,aag];dsimp only
  have e2:c[L2]? =ae (.h_ (ks.map λk=>(kS k.1,D.ref k.2.1))):=d2.at_;rw[e2];dsimp only
  rw[aY h3,aag];dsimp only
  rw[MI,Us,vZ]
 obtain⟨σ',c',e1,ls,z4,z5,z6,z7,rfl,D1,K1,I1,V1,N1⟩:=cg (ks:=[(L2,.km (ks.map λk=>(kS k.1,D.ref k.2.1))),(L3,.lst (fs.map D.ref))]) (g:=gy 2 (bA (ay 4) (bA (ay 5) fP))) (body:=MH x0 x1)
  (λi σ c'=>∃ls z4 z5 z6 z7,σ=[A,ae (.ref L1),ae (.ref L2),ae (.ref L3),z4,z5,z6,z7]/\DS c' L1 ls/\Kq [L1] cst c'/\(∀n∈ids ls,cst.length<=n)/\VS (keys ks) (λs=>num IN s N) ((keys ks).take i) (uv ls)/\ls.length<=i*2000)
  (((keys ks).zip fs).map λx=>D.tup [aE x.1,D.ref x.2]) 0 [A,ae (.ref L1),ae (.ref L2),ae (.ref L3),af,af,af,af] cst
  (by
   rintro i σ c' ⟨ls,z4,z5,z6,z7,pL,D1,K1,_⟩ p hp;rcases aaj.mp hp with rfl|hp
   .exact K1 _ _ (by simpa using n2.symm) Uv.at_
   .cases aak.mp hp
    exact K1 _ _ (by simpa using n3.symm) g3)
  (by
   rintro i d σ c' hd ⟨ls,z4,z5,z6,z7,pL,D1,K1,I1,V1,N1⟩;subst pL;rw[show 0+i=i by omega]at V1 N1;rw[aaq]at hd;obtain⟨⟨s,f⟩,hx,rfl⟩:=aax.mp hd;obtain⟨hs,hf⟩:=afE.mp hx;have kE:i<(keys ks).length:=(aae.mp hs).1;obtain⟨row,El⟩:∃r,rows[i]? =ae r:=⟨_,aac (by rw[K.len];exact kE)⟩;have Xi:=aaf hs;obtain⟨ok,Xj,fwd⟩:=hS s Xi;obtain⟨q,hq,P_⟩:=aaE.mp Xi;subst P_;have Z1:=aaf hf;have Z2:c'[f]? =ae (.lst (row.map sd)):=K1 _ _ (by simpa using λh=>i2 (by rw[<-h];exact Z1)) (R0.at_ i f row hf El);have rm:=aaf El;have sz:=K.sz row rm;have hkk:(keys ks).length*(keys ks).length<=900:=aa7 (ag5 (show(keys ks).length<=30 by omega) (show(keys ks).length<=30 by omega)) (by decide);obtain⟨n,ys,c1,f1,f2,f3,f4,f5,f6,f7⟩:=P8 (x0:=x0) (x1:=x1) (c:=c') (ok.o1.mono (by decide)) (ok.o2.mono (by decide)) fwd Z2 (K.ok row rm) (by omega);have Ri:∀p,p∈ys↔My.jQ (keys ks) q.1 p:=λp=>by
    rw[f6 p,vz Uu kd K hs El p];constructor
    .exact λh=>h.1
    .exact λh=>⟨h,(h.on Uu Xj).2⟩
   have gB:Jg ys:=Cm f7 f5 λp hp=>(((Ri p).mp hp).on Uu Xj).1
   have abS:ys.length<=1802:=by
    have:ys.length<=row.length:=by
     have LG:∀p∈ys,p∈row:=λp hp=>((f6 p).mp hp).1
     exact sub_len ys row f5 LG
    omega
   have hM:∀k∈ls,k.2.2.length<=30:=λk hk=>by
    obtain⟨r1,r2⟩:=V1.row (k.1,k.2.2) (aaN hk);have:=uw N k.2.2 r1 λx hx=>by
     obtain⟨t,_,_,hx⟩:=(r2 x).mp hx;obtain⟨j,h1,h2,_⟩:=kM.mp hx;omega
    omega
   have ZN:q.2.2.length<=30:=by
    rw[nm q hq];have:=uw N (num IN q.1 N) yU λx hx=>by
     obtain⟨j,h1,h2,_⟩:=kM.mp hx;omega
    omega
   have Qd:yS c1 L2 ks:=(Uv.keep K1 (by simpa using n2.symm) (λx hx=>by simpa using λh=>i1 (by rw[<-h];exact hx))).keep (S:=[]) (Kq.pre f2) (by simp) (by simp);have old:∀{x:Nat},x<c.length->x≠L1->x∉L1::ids ls:=λ{x} h1 h2 hm=>by
    rcases aaj.mp hm with e|hm
    .exact h2 e
    .have:=I1 x hm;omega
   have D3:cst.length<=c'.length:=by
    have h1:=K1 L2 _ (by simpa using n2.symm) Uv.at_;rcases aeb c'.length cst.length with h|h
    .exfalso
     by_cases e:c'.length=L1
     .have:=bM D1.at_;omega
     .obtain⟨zz,hz⟩:∃zz,cst[c'.length]? =ae zz:=⟨_,aac h⟩
      have:=bM (K1 _ _ (by simpa using e) hz);omega
    .exact h
   have hmul:(ys.length+1)*(q.2.2.length+1)<=1803*31:=ag5 (by omega) (by omega);have a3:n∉L1::ids ls:=λhm=>by
    rcases aaj.mp hm with e|hm
    .have:=bM D1.at_;omega
    .have:=D1.ur hm;omega
   obtain⟨nu,z,c2,g1,g2,Z3,g4,g5,g6,g7⟩:=Ji (A:=A) (B:=ae (.ref L3)) (C5:=ae (.ref f)) (z7:=z7) (M:=30) (q:=q) (D1.up f2) Qd kd hq f4 (old (by have:=bM d2.at_;omega) n2.symm) (λx hx=>old (by
    have:=d2.ur hx;omega) (λh=>i1 (by rw[<-h];exact hx))) a3 hM (by omega) (by omega)
   refine⟨_,_,[A,ae (.ref L1),ae (.ref L2),ae (.ref L3),ae (aE q.1),ae (.ref f),ae (.ref n),z],c2,rfl,?_,nu,ae (aE q.1),ae (.ref f),ae (.ref n),z,rfl,g2,?_,?_,?_,?_⟩
   .have Uw:m8 x0 x1 [aE q.1,.ref f] c'=ae (.ref n,c1):=f1
    erw[Uw,g1]
   .refine(K1.trans (Kq.pre (S:=[]) f2) (by simp)).trans Z3 λx hx=>?_
    rcases aaj.mp hx with rfl|hx
    .exact .inl (by simp)
    .exact .inr (I1 x hx)
   .intro x hx
    rcases g4 x hx with h|h
    .exact I1 x h
    .have:=iy f2;omega
   .rw[show 0+i+1=i+1 by omega,afS,hs,g5,nm q hq]
    exact V1.step (λz=>Eo gB Ri z) (vY f5) yU λt ht k hk=>F9 (λe=>by
     rw[e]at ht;obtain⟨j,hj⟩:=aaS ht;rw[List.getElem?_take]at hj;split at hj
     .have:=(adY (aae.mp hj).1 kd).mp (hj.trans hs.symm)
      omega
     .cases hj) hk
   .rw[show 0+i+1=i+1 by omega,ahj]
    omega)
  ⟨[],af,af,af,af,rfl,Z0,Kq.refl _ _,λ_ h=>(by simp[ids]at h),⟨.nil,λz=>⟨λh=>(by simp[uv]at h),λ⟨s,hs,_⟩=>(by simp at hs)⟩,λ_ h=>(by simp[uv]at h)⟩,aam _⟩
 have e2:=gH (g:=gy 2 (bA (ay 4) (bA (ay 5) fP))) (b:=MH x0 x1) it;rw[e1]at e2;have hl: 0+(((keys ks).zip fs).map λx=>D.tup [aE x.1,D.ref x.2]).length=(keys ks).length:=by simp;omega
 rw[hl]at V1 N1;rw[agi]at V1;refine⟨ls,z4,z5,z6,z7,c',e2,D1,ZZ.trans K1 (λx hx=>.inl (by simp at hx;simp[hx])),λn hn=>by have:=I1 n hn;omega,V1,?_⟩;have:(keys ks).length<=30:=by omega
 omega
theorem Ep{κ α:Type}[DecidableEq κ]:∀(ps acc:List (κ×α)),((acc++ps).map (·.1)).Nodup->ps.foldl (λa p=>mP a p.1 p.2) acc=acc++ps
 |[],acc,_=>by simp
 |p::ps,acc,h=>by
  have hn:p.1∉acc.map (·.1):=λhm=>by
   rw[ado,aaV,acG]at h;exact h.2.2 p.1 hm p.1 aao rfl
  have e:mP acc p.1 p.2=acc++[p]:=by
   unfold mP;rw[if_neg];rw[agj,ahE];intro x hx hd;exact hn (by rw[<-of_decide_eq_true hd];exact aaN hx)
  rw[agL,e,Ep ps (acc++[p]) (by simpa using h)];simp
theorem DS.ix{k:XE}{ks:KV}(h:DS c L ks)(hs:s∈keys ks)(ho:o σ c=ae (.ref L,c))(hk:k σ c=ae (aE s,c)):∃q∈ks,q.1=s/\jP o k σ c=ae (.ref q.2.1,c):=by
 obtain⟨q,hq,e⟩:=aaE.mp hs;obtain⟨q',Eh,e',ha⟩:=xC (ks:=ks) (s:=s) ⟨q,hq,e⟩;have t1:sE (.ref L) c=ae (ks.map λk=>(kS k.1,D.ref k.2.1)):=by
  unfold sE;simp[h.at_,kc]
 refine⟨q',Eh,e',?_⟩;unfold jP;simp only[ho,hk,t1,aag,Ci,ha]
theorem yV{ks:KV}(h:c[L]? =ae (kc ks))(hn:ks.length<=1000000):jC [.ref L] c=ae (.ref c.length,c++[.lst ((keys ks).map aE)]):=by
 unfold jC one sE;simp only[h,kc,aag];rw[if_pos (show(ks.map λk=>(kS k.1,D.ref k.2.1)).length<=cC by rw[dF,aas];omega),MI]
def qX(l:List Int):List Int:=l.mergeSort λa b=>decide (a<=b)
theorem AJ(l:List Int):nums (l.map D.int)=ae l:=by
 unfold nums
 induction l with
 |nil=>rfl
 |cons x l ih=>
  show((tL (D.int x)).bind λd=>(omap tL (l.map D.int)).bind λds=>ae (d::ds))=_;rw[ih];rfl
theorem Ux{row:List Int}(h:c[n]? =ae (.lst (row.map D.int)))(hn:row.length<64):t9 [.ref n] c=ae (.ref c.length,c++[.lst ((qX row).map D.int)]):=by
 unfold t9 one;simp only[aY h,aag,AJ];rw[if_pos hn];rfl
structure Out(S IN:List S2)(w:KV):Prop where
 AK:jR lB (keys w)
 nd:(keys w).Nodup
 key:∀z,z∈keys w↔∃s∈S,fO S s z
 row:∀x∈w,∃r:List Int,r.Nodup/\(∀k,k∈r↔∃s∈S,fO S s x.1/\k∈num IN s IN.length)/\x.2.2=qX r
 ok:∀z∈keys w,jK 8000 z
structure zP(IN S:List S2):Prop where
 nd:S.Nodup
 mem:∀s,s∈S↔∃k,k<IN.length/\(IN[k]?).map bI=ae s
structure v7(s:S2):Prop where
 ok:jK 1000 s
 ne:s.1≠s.2
theorem vB(h:v7 s):jK 1000 (bI s)/\My.Sd (bI s)/\My.aP (bI s).1 (bI s).2=true:=by
 have l1:=h.ok.o1.cS;have l2:=h.ok.o2.cS;unfold bI My.fw;split
 .rename_i hh
  exact⟨⟨h.ok.o1,h.ok.o2⟩,⟨l1,l2,h.ne⟩,hh⟩
 .rename_i hh
  refine⟨⟨h.ok.o2,h.ok.o1⟩,⟨l2,l1,h.ne.symm⟩,?_⟩;rcases My.iF l1 l2 with g|g|g
  .exact absurd g hh
  .exact absurd g h.ne
  .exact g
theorem Hi:∀(w:KV),omap vc (w.map λx=>D.tup [aE x.1,D.ref x.2.1])=ae (w.map λx=>(kS x.1,D.ref x.2.1))
 |[]=>rfl
 |x::w=>by
  show((vc (D.tup [aE x.1,D.ref x.2.1])).bind λd=>(omap vc (w.map λx=>D.tup [aE x.1,D.ref x.2.1])).bind λds=>ae (d::ds))=_;rw[Hi w];rfl
theorem Rj{m:Nat}(hx:x0≠x1)(hm:c[m]? =ae (.lst (IN.map aE)))(qN:∀s∈IN,v7 s)(hn:IN.length<=30):
  ∃S w R c',vn x0 x1 [.ref m] c=ae (.ref R,c')/\c <+:c'/\c.length<=R/\c'[R]? =ae (kc w)/\(∀x∈w,c.length<=x.2.1/\c'[x.2.1]? =ae (.lst (x.2.2.map D.int)))/\(ids w).Nodup/\R∉ids w/\w.length<=1000000/\zP IN S/\Out S IN w:=by
 obtain⟨ks,c2,a1,a2,a3,a4,a5,a6⟩:=Je (c:=c++[.h_ []]) (bH hm) (λs hs=>⟨(qN s hs).ok.o1.mono (by decide),(qN s hs).ok.o2.mono (by decide)⟩) (by omega);have hS:∀s∈keys ks,jK 1000 s/\My.Sd s/\My.aP s.1 s.2=true:=λs hs=>by
  obtain⟨k,hk,e⟩:=(a5.key s).mp hs;obtain⟨t,ht,e2⟩:=aax.mp e;rw[<-e2];exact vB (qN t (aaf ht))
 have l2:=yV a3.at_ (by omega);have Xh:(keys ks).length=ks.length:=by simp[keys]
 obtain⟨fs,rows,c4,b1,b2,b3,b4,b5,b6⟩:=Jf (m:=c2.length) (c:=c2++[.lst ((keys ks).map aE)]) bh (λs hs=>(hS s hs).1) a3.kd (by omega);have Z4:(c++[Cell.h_ []]).length=c.length+1:=by simp
 have Z5:(c2++[Cell.lst ((keys ks).map aE)]).length=c2.length+1:=by simp
 rw[Z4]at a1 a3 a4 l2;rw[Z5]at b1 b3 b5;have p2:c2 <+:c4:=(show c2 <+:c2++[.lst ((keys ks).map aE)] from⟨_,rfl⟩).trans b2;have Bq:=iy a2;have dA:DS c4 c.length []:=⟨aA p2 (aA a2 bh),λ_ h=>(nomatch h),.nil,.nil,by simp[ids]⟩;have Z6:∀n∈ids ks,n<c2.length:=λn hn=>a3.ur hn
 have WB:=bM a3.at_;obtain⟨ls,z4,z5,z6,z7,c5,d1,d2,d3,d4,d5,d6⟩:=Ut (x0:=x0) (x1:=x1) (A:=ae (.ref m)) (N:=IN.length) hn dA (a3.up p2) b3 b4 b6 a5.row a6 hS (by omega) (by omega) (by omega) (λh=>by have:=a4 _ h;omega) (λh=>by have:=b5 _ h;omega) (λh=>by have:=b5 _ h;omega) (λn hn h=>by have:=b5 _ h;have:=Z6 n hn;omega);have Qe:=iy p2;have pc:c <+:c5:=pre_of λj z e=>d3 j z (λhj=>by
  have:=bM e;simp at hj;omega) (aA p2 (aA a2 (bH e)))
 have Xk:∀z∈keys ls,jK 8000 z:=λz hz=>by
  obtain⟨s,hs,hc⟩:=(d5.key z).mp (by rw[vA];exact hz);obtain⟨i,hi⟩:=aaS hs;obtain⟨row,hr⟩:∃r,rows[i]? =ae r:=⟨_,aac (by rw[b6.len];exact(aae.mp hi).1)⟩;have rm:=aaf hr;exact⟨b6.ok row rm _ ((vz (λt ht=>(hS t ht).2.1) a3.kd b6 hi hr _).mpr hc.c1),b6.ok row rm _ ((vz (λt ht=>(hS t ht).2.1) a3.kd b6 hi hr _).mpr hc.c2)⟩
 have l5:=yV d2.at_ (by omega);obtain⟨n,oh,c7,f1,f2,f3,f4,f5,f6⟩:=yP (F3 hx) AF (xs:=keys ls) (a:=c5.length) (c:=c5++[.lst ((keys ls).map aE)]) bh Xk (by simp[keys];omega);have p7:c5 <+:c7:=(show c5 <+:c5++[.lst ((keys ls).map aE)] from⟨_,rfl⟩).trans f2;have d7:=d2.up p7;have Qa:c.length<c7.length:=bM d7.at_;have Qf:∀k∈ls,k.2.2.length<64:=λk hk=>by
  obtain⟨r1,r2⟩:=d5.row (k.1,k.2.2) (aaN hk);have:=uw IN.length k.2.2 r1 λx hx=>by
   obtain⟨t,_,_,hx⟩:=(r2 x).mp hx;obtain⟨j,h1,h2,_⟩:=kM.mp hx;omega
  omega
 have hi:iT (au (eO x0 x1) [] (ag (eB jC (ag (eV 1) ak)) (ag (eC (.adr x1)) ak))) [ae (.ref m),ae (.ref c.length),ae (.ref (c.length+1)),ae (.ref (c2.length+1)),z4,z5,z6,z7] c5=ae (⟨oh.map aE,[(n,.lst (oh.map aE))]⟩,c7):=by
  have Z7:au (eO x0 x1) [] (ag (eB jC (ag (eV 1) ak)) (ag (eC (.adr x1)) ak)) [ae (.ref m),ae (.ref c.length),ae (.ref (c.length+1)),ae (.ref (c2.length+1)),z4,z5,z6,z7] c5=ae (.ref n,c7):=by erw[l5,f1]
  unfold iT;rw[Z7];simp[f4,aU f4]
 obtain⟨vs,c8,e1,p8,g8,l8,r8⟩:=Mm (te:=cH (ag (eV 0) (ag (eB t9 (ag (jP (eV 1) (eV 0)) ak)) ak))) (g:=ay 0) (cap:=[af,ae 1]) (λτ=>∃z,τ=[z,ae (.ref c.length)])
  (λi v c'=>∃k z q,v= .tup [aE z,.ref k]/\k=c7.length+1+i/\oh[i]? =ae z/\q∈ls/\q.1=z/\c'[k]? =ae (.lst ((qX q.2.2).map D.int))) (λi u=>u.length=c7.length+1+i) (λi u z h=>by rw[acf];exact h) (by simp) hi (λp hp=>by cases aak.mp hp;exact f4) ⟨af,rfl⟩
  (λi v u1 u2 ⟨k,z,q,h1,h2,h3,h4,h5,h6⟩ fr=>⟨k,z,q,h1,h2,h3,h4,h5,fr k _ (by omega) h6⟩)
  (by
   rintro i d hd τ c' ⟨z,vt⟩ pc lc D3;subst vt;rw[aaq]at hd;obtain⟨x,hx,rfl⟩:=aax.mp hd;have Ui:x∈keys ls:=f5.mem_iff.mp (aaf hx);have dd:=d7.up pc;obtain⟨q,hq,e,ix⟩:=dd.ix (o:=eV 1) (k:=eV 0) (σ:=[ae (aE x),ae (.ref c.length)]) Ui rfl rfl;have so:=Ux (dd.cell q hq) (Qf q hq);refine⟨[ae (aE x),ae (.ref c.length)],.tup [aE x,.ref c'.length],[.lst ((qX q.2.2).map D.int)],rfl,?_,⟨_,rfl⟩,⟨c'.length,x,q,rfl,D3,hx,hq,e,by simp⟩,by simp;omega⟩;erw[ix,so])
  (by rw[aas,f5.length_eq];simp[keys];omega)
 rw[aas]at l8;have ref:∃w:KV,vs=w.map (λx=>D.tup [aE x.1,D.ref x.2.1])/\keys w=oh/\(ids w).Nodup/\∀x∈w,c7.length<x.2.1/\c8[x.2.1]? =ae (.lst (x.2.2.map D.int))/\∃q∈ls,q.1=x.1/\x.2.2=qX q.2.2:=by
  clear e1 g8 hi f1 f4 f5 f6;have:∀(vs:List D) (oh:List S2) (b:Nat),c7.length<b->vs.length=oh.length->(∀(i:Nat) v,vs[i]? =ae v->∃k z q,v=D.tup [aE z,.ref k]/\k=b+i/\oh[i]? =ae z/\q∈ls/\q.1=z/\c8[k]? =ae (.lst ((qX q.2.2).map D.int)))->
    ∃w:KV,vs=w.map (λx=>D.tup [aE x.1,D.ref x.2.1])/\keys w=oh/\(∀x∈w,b<=x.2.1)/\(ids w).Nodup/\∀x∈w,c7.length<x.2.1/\c8[x.2.1]? =ae (.lst (x.2.2.map D.int))/\∃q∈ls,q.1=x.1/\x.2.2=qX q.2.2:=by
   intro vs
   induction vs with
   |nil=>
    intro oh b _ hl _;cases oh with
    |nil=>exact⟨[],rfl,rfl,λx h=>(nomatch h),.nil,λx h=>nomatch h⟩
    |cons _ _=>simp at hl
   |cons v vs ih=>
    intro oh b hb hl h;cases oh with
    |nil=>simp at hl
    |cons y oh=>
     obtain⟨k,z,q,rfl,h1,h2,h3,h4,h5⟩:=h 0 v rfl;cases h2;obtain⟨w,rfl,h6,h8,h9,h7⟩:=ih oh (b+1) (by omega) (by simpa using hl) λi v hv=>by
      have:=h (i+1) v (by simpa using hv);rw[show b+(i+1)=b+1+i by omega]at this;simpa using this
     refine⟨(y,k,qX q.2.2)::w,rfl,by simp[keys]at h6 |-;exact h6,λx hx=>?_,?_,λx hx=>?_⟩
     .rcases aaj.mp hx with rfl|hx
      .show b<=k;omega
      .have:=h8 x hx;omega
     .refine abZ.mpr ⟨λhm=>?_,h9⟩
      obtain⟨x,hx,e⟩:=aaE.mp hm;have h10:=h8 x hx;have e':x.2.1=k:=e;omega
     .rcases aaj.mp hx with rfl|hx
      .exact⟨by show c7.length<k;omega,h5,q,h3,h4,rfl⟩
      .exact h7 x hx
  obtain⟨w,q1,q2,_,q4,q5⟩:=this vs oh (c7.length+1) (by omega) l8 r8;exact⟨w,q1,q2,q4,q5⟩
 obtain⟨w,rfl,kw,ind,hw⟩:=ref;have knd:(keys w).Nodup:=by rw[kw,f5.nodup_iff];exact d2.kd
 have lw:w.length=ls.length:=by
  have h1:(keys w).length=w.length:=by simp[keys]
  have h2:(keys ls).length=ls.length:=by simp[keys]
  rw[<-h1,kw,f5.length_eq,h2]
 have pk:=Hi w;have pn:=Ep (w.map λx=>(kS x.1,D.ref x.2.1)) [] (by
  rw[agK,aa2];have:(w.map ((λx=>x.1) ∘ λx:S2×Nat×List Int=>(kS x.1,D.ref x.2.1)))=(keys w).map kS:=by unfold keys;rw[aa2];rfl
  rw[this];exact afT _ (λa b (h:a≠b) e=>h (Cg.mp e)) knd)
 rw[agK]at pn;have dp:xp [.ref c7.length] c8=ae (.ref c8.length,c8++[kc w]):=by
  unfold xp one;simp only[aY g8,aag,pk,pn];rfl
 have h78:=iy p8;have h57:=iy p7;have hc5:=iy pc;refine⟨keys ks,w,c8.length,c8++[kc w],?_,pre_app ((pc.trans p7).trans p8),by omega,bh,λx hx=>⟨by have:=(hw x hx).1;omega,bH (hw x hx).2.1⟩,ind,λhm=>?_,by omega,⟨a3.kd,a5.key⟩,⟨?_,knd,?_,?_,?_⟩⟩
 .have nw:t5 [ae (.ref m),af,af,af,af,af,af,af] c=ae (.ref c.length,c++[.h_ []]):=rfl
  rw[vn,gp,Cb];erw[nw,a1,l2,b1,d1,e1,dp]
 .obtain⟨x,hx,e⟩:=aaE.mp hm
  have:=bM (hw x hx).2.1;omega
 .rw[kw];exact f6
 .intro z
  rw[kw,f5.mem_iff,<-vA];exact d5.key z
 .intro x hx
  obtain⟨_,_,q,hq,e,e2⟩:=hw x hx;obtain⟨r1,r2⟩:=d5.row (q.1,q.2.2) (aaN hq);exact⟨q.2.2,r1,λk=>by rw[<-e];exact r2 k,e2⟩
 .intro z hz
  exact Xk z (f5.mem_iff.mp (by rw[<-kw];exact hz))
theorem j4(h1:My.aS s.1)(h2:My.aS s.2)(fm:s.1≠s.2):My.cF p (bI s).1 (bI s).2=My.cF p s.1 s.2:=by
 have key:My.cF p s.2 s.1=My.cF p s.1 s.2:=by
  by_cases h:My.aG s.1 s.2 p=0
  .have h':My.aG s.2 s.1 p=0:=by rw[My.mS,h];rfl
   rw[aa1,My.dw h,My.dw h',My.D6 h1 h2 fm]
  .have h':¬My.aG s.2 s.1 p=0:=by rw[My.mS];omega
   have e:∀{a b:T3},¬My.aG a b p=0->My.cF p a b=false:=λ{a b} hh=>by
    unfold My.cF My.zH;rw[if_neg (show ¬My.det a.1 a.2.1 a.2.2 b.1 b.2.1 b.2.2 p.1 p.2.1 p.2.2=0 from hh)]
   rw[e h,e h']
 unfold bI My.fw;split
 .rfl
 .exact key
def MJ(IN:List S2)(z:S2)(k:Nat):Bool:=match IN[k]? with
 |some s=>My.cF z.1 s.1 s.2&&My.cF z.2 s.1 s.2
 |none=>false
def pR(IN:List S2)(z:S2):List Int:=((adg IN.length).filter (MJ IN z)).map λ(k:Nat)=>(k:Int)
theorem jD:∀{xs ys:List Int},xs.Perm ys->xs.Pairwise (·<=·)->ys.Pairwise (·<=·)->xs=ys
 |[],_,p,_,_=>(aiE.mp p).symm
 |x::xs,[],p,_,_=>absurd p.length_eq (by simp)
 |x::xs,y::ys,p,h1,h2=>by
  have e:x=y:=by
   have m1:x∈y::ys:=p.subset aao;have m2:y∈x::xs:=p.symm.subset aao;rcases aaj.mp m1 with e|m1
   .exact e
   rcases aaj.mp m2 with e|m2
   .exact e.symm
   have a1:=(aaG.mp h1).1 _ m2;have a2:=(aaG.mp h2).1 _ m1;omega
  subst e;rw[jD (ahB p) (aaG.mp h1).2 (aaG.mp h2).2]
theorem MK{r d:List Int}(hr:r.Nodup)(hd:d.Pairwise (·< ·))(h:∀k,k∈r↔k∈d):qX r=d:=by
 have nd:d.Nodup:=hd.imp λh=>by omega
 have pe:r.Perm d:=(List.perm_ext_iff_of_nodup hr nd).mpr h;unfold qX;refine jD ((ahh ..).trans pe) ?_ (hd.imp λh=>by omega);have:=af8 (le:=λa b:Int=>decide (a<=b)) (λa b c h1 h2=>by simp at *;omega) (λa b=>by simp;omega) r;exact this.imp λh=>by simpa using h
theorem AL(IN:List S2)(z:S2):(pR IN z).Pairwise (·< ·):=by
 unfold pR;refine afT _ (λa b (h:a<b)=>by omega) (ae6 _ ?_);exact List.pairwise_lt_range
theorem Out.Z8{w:KV}(qN:∀s∈IN,v7 s)(f:zP IN S)(h:Out S IN w){x:S2×Nat×List Int}(hx:x∈w):x.2.2=pR IN x.1:=by
 obtain⟨r,r1,r2,r3⟩:=h.row x hx;rw[r3];have hS:∀t∈S,My.Sd t:=λt ht=>by
  obtain⟨k,_,e⟩:=(f.mem t).mp ht;obtain⟨u,hu,e2⟩:=aax.mp e;rw[<-e2];exact(vB (qN u (aaf hu))).2.1
 obtain⟨s0,Xl,c0⟩:=(h.key x.1).mp (aaN hx);have o0:=c0.on hS Xl;refine MK r1 (AL IN x.1) λk=>?_
 rw[r2 k];unfold pR;rw[aaE];constructor
 .rintro⟨s,hs,hc,hk⟩
  obtain⟨j,hj,rfl,e⟩:=kM.mp hk;refine⟨j,ace.mpr ⟨abC.mpr hj,?_⟩,rfl⟩;obtain⟨u,hu,e2⟩:=aax.mp e;have ui:=qN u (aaf hu);obtain⟨q1,q2⟩:=hc.on hS hs;unfold MJ;rw[hu];have g1:=j4 (p:=x.1.1) ui.ok.o1.cS ui.ok.o2.cS ui.ne;have g2:=j4 (p:=x.1.2) ui.ok.o1.cS ui.ok.o2.cS ui.ne;rw[e2,q1.2]at g1;rw[e2,q2.2]at g2;show(My.cF x.1.1 u.1 u.2&&My.cF x.1.2 u.1 u.2)=true;rw[<-g1,<-g2];rfl
 .rintro⟨j,hj,rfl⟩
  obtain⟨a,b⟩:=ace.mp hj;have Uy:=abC.mp a;obtain⟨u,hu⟩:∃u,IN[j]? =ae u:=⟨_,aac Uy⟩;unfold MJ at b;rw[hu]at b;have b':My.cF x.1.1 u.1 u.2=true/\My.cF x.1.2 u.1 u.2=true:=by simpa using b
  have ui:=qN u (aaf hu);have g1:=j4 (p:=x.1.1) ui.ok.o1.cS ui.ok.o2.cS ui.ne;have g2:=j4 (p:=x.1.2) ui.ok.o1.cS ui.ok.o2.cS ui.ne;have Xm:bI u∈S:=(f.mem _).mpr ⟨j,Uy,by rw[hu];rfl⟩;refine⟨bI u,Xm,c0.move hS Xl Xm ⟨o0.1.1,g1.trans b'.1⟩ ⟨o0.2.1,g2.trans b'.2⟩,kM.mpr ⟨j,Uy,rfl,by rw[hu];rfl⟩⟩
theorem Er{m:Nat}(hx:x0≠x1)(hm:c[m]? =ae (.lst (IN.map aE)))(qN:∀s∈IN,v7 s)(hn:IN.length<=30):
  ∃S w n c',gS x0 x1 [.ref m] c=ae (.ref n,c')/\c <+:c'/\c.length<=n/\c'[n]? =ae (.lst ((keys w).map aE))/\zP IN S/\Out S IN w/\w.length<=1000000:=by
 obtain⟨S,w,R,c1,e1,p1,l1,g1,r1,_,_,lw,f,o⟩:=Rj hx hm qN hn;have l2:=yV g1 (by omega);refine⟨S,w,c1.length,c1++[.lst ((keys w).map aE)],?_,pre_app p1,iy p1,bh,f,o,lw⟩;rw[gS,gp,qB];erw[e1,l2]
theorem Qg{m:Nat}(hx:x0≠x1)(hm:c[m]? =ae (.lst (IN.map aE)))(qN:∀s∈IN,v7 s)(hn:IN.length<=30):
  ∃S w n c',fB x0 x1 [.ref m] c=ae (.ref n,c')/\c <+:c'/\c.length<=n/\c'[n]? =ae (.lst ((ids w).map D.ref))/\(∀x∈w,c.length<=x.2.1/\x.2.1≠n/\c'[x.2.1]? =ae (.lst ((pR IN x.1).map D.int)))/\(ids w).Nodup/\zP IN S/\Out S IN w/\w.length<=1000000:=by
 obtain⟨S,w,R,c1,e1,p1,l1,g1,r1,i1,i2,lw,f,o⟩:=Rj hx hm qN hn;have ev:∀{e:XE}{σ:Qm.Env},e σ c=ae (.ref R,c1)->BX e σ c=ae (.ref c1.length,c1++[.lst ((ids w).map D.ref)]):=λ{e σ} he=>by
  unfold BX sE;simp only[he,aag,g1,kc];rw[if_pos (show(w.map λk=>(kS k.1,D.ref k.2.1)).length<=cC by rw[dF,aas];omega)];unfold ids;rw[aa2,aa2];rfl
 refine⟨S,w,c1.length,c1++[.lst ((ids w).map D.ref)],?_,pre_app p1,iy p1,bh,λx hx=>⟨(r1 x hx).1,λe=>?_,?_⟩,i1,f,o,lw⟩
 .have he:au (vn x0 x1) [] (ag (eV 0) ak) [ae (.ref m)] c=ae (.ref R,c1):=by erw[e1]
  have:=ev he;rw[fB,gp,i4];erw[this]
 .have:=bM (r1 x hx).2
  omega
 .rw[<-o.Z8 qN f hx]
  exact bH (r1 x hx).2
structure Xn(zs:List S2):Prop where
 ok:∀z∈zs,jK 8000 z
 fwd:∀z∈zs,My.aP z.1 z.2=true
 AK:jR lB zs
 nd:zs.Nodup
theorem pT{α:Type}{R:α->α->Prop}(F8:∀x y,R x y->¬R y x):∀(l m:List α),l.Pairwise R->m.Pairwise R->(∀x,x∈l↔x∈m)->l=m
 |[],m,_,_,h=>by
  cases m with
  |nil=>rfl
  |cons y m=>exact absurd ((h y).mpr aao) (by simp)
 |x::l,[],_,_,h=>absurd ((h x).mp aao) (by simp)
 |x::l,y::m,hl,hm,h=>by
  have xF:=aaG.mp hl;have BR:=aaG.mp hm;have e:x=y:=by
   rcases aaj.mp ((h x).mp aao)with e|m1
   .exact e
   rcases aaj.mp ((h y).mpr aao)with e|m2
   .exact e.symm
   exact absurd (BR.1 x m1) (F8 _ _ (xF.1 y m2))
  subst e;rw[pT F8 l m xF.2 BR.2 λz=>?_];have Jh:¬R x x:=λhh=>F8 x x hh hh
  constructor
  .intro hz
   rcases aaj.mp ((h z).mp (aap _ hz))with e|wV
   .exact absurd (xF.1 z hz) (by rw[e];exact Jh)
   .exact wV
  .intro hz
   rcases aaj.mp ((h z).mpr (aap _ hz))with e|wV
   .exact absurd (BR.1 z hz) (by rw[e];exact Jh)
   .exact wV
theorem F_{a b d:S2}(a1:My.aS a.1)(a2:My.aS a.2)(b1:My.aS b.1)(b2:My.aS b.2)(d1:My.aS d.1)(d2:My.aS d.2)(h:lB a b=true)(k:lB b d=true):lB a d=true:=by
 unfold lB at*
 by_cases e1:a.1=b.1
 .rw[if_pos e1]at h
  by_cases e2:a.2=b.2
  .rw[if_pos e2]at h;cases h
  .rw[if_neg e2]at h
   by_cases f1:b.1=d.1
   .rw[if_pos f1]at k
    by_cases f2:b.2=d.2
    .rw[if_pos f2]at k;cases k
    .rw[if_neg f2]at k
     have t:=My.nY a2 b2 d2 h k;rw[if_pos (e1.trans f1),if_neg (λz=>by rw[z,yR]at t;cases t)];exact t
   .rw[if_neg f1]at k
    rw[if_neg (λz=>f1 (e1.symm.trans z)),e1];exact k
 .rw[if_neg e1]at h
  by_cases f1:b.1=d.1
  .rw[if_neg (λz=>e1 (z.trans f1.symm)),<-f1]
   exact h
  .rw[if_neg f1]at k
   have t:=My.nY a1 b1 d1 h k;rw[if_neg (λz=>by rw[z,yR]at t;cases t)];exact t
theorem ML{a b:S2}(a1:My.aS a.1)(a2:My.aS a.2)(b1:My.aS b.1)(b2:My.aS b.2)(h:lB b a=false)(ne:a≠b):lB a b=true:=by
 unfold lB at*
 by_cases e:b.1=a.1
 .rw[if_pos e]at h
  rw[if_pos e.symm];have n2:¬b.2=a.2:=λz=>ne (aia e z).symm
  rw[if_neg n2]at h;rw[if_neg (λz=>n2 z.symm)];rcases My.iF a2 b2 with g|g|g
  .exact g
  .exact absurd g.symm n2
  .rw[h]at g;cases g
 .rw[if_neg e]at h
  rw[if_neg (λz=>e z.symm)];rcases My.iF a1 b1 with g|g|g
  .exact g
  .exact absurd g.symm e
  .rw[h]at g;cases g
abbrev Rk(zs:List S2):Prop:=zs.Pairwise λx y=>lB x y=true
theorem pU:∀{zs:List S2},jR lB zs->zs.Nodup->(∀z∈zs,jK 8000 z)->Rk zs
 |[],_,_,_=>.nil
 |x::l,h,nd,lo=>by
  have kK:=abZ.mp nd;have ih:=pU (m_ h) kK.2 λp hp=>lo p (aap _ hp)
  refine aaG.mpr ⟨λy hy=>?_,ih⟩;cases l with
  |nil=>cases hy
  |cons z l=>
   have ox:=lo x (by simp);have oz:=lo z (by simp);have MD:lB x z=true:=ML ox.o1.cS ox.o2.cS oz.o1.cS oz.o2.cS h.1 (λe=>kK.1 (by rw[e];simp));rcases aaj.mp hy with rfl|hy
   .exact MD
   .have oy:=lo y (by simp[hy])
    exact F_ ox.o1.cS ox.o2.cS oz.o1.cS oz.o2.cS oy.o1.cS oy.o2.cS MD ((aaG.mp ih).1 y hy)
theorem Es(x y:S2)(h:lB x y=true):¬lB y x=true:=by rw[AF x y h];decide
theorem Jj{z:S2}(h:z∈eY ys):z.1∈ys:=(aem h).1
theorem AM:∀{ys:List T3},Jg ys->Rk (eY ys)
 |[],_=>.nil
 |[_],_=>by simp[eY]
 |x::y::t,h=>by
  have h':=aaG.mp h;have e:eY (x::y::t)=(x,y)::eY (y::t):=rfl;rw[e];refine aaG.mpr ⟨λz hz=>?_,AM h'.2⟩;have hx:=h'.1 z.1 (Jj hz);unfold lB;rw[if_neg (λw=>by
   have w':x=z.1:=w;rw[<-w',yR]at hx;cases hx)]
  exact hx
def AN:List T3->List T3
 |[]=>[]
 |x::l=>kJ My.aP [x] (AN l)
theorem MM:∀(l:List T3),(AN l).Perm l/\jR My.aP (AN l)
 |[]=>⟨.refl _,trivial⟩
 |x::l=>by
  obtain⟨p,h⟩:=MM l;refine⟨(qC (AN l) [x]).trans (aiw x p),yK (λa b=>My.cf) (AN l) [x] trivial h⟩
theorem Cn(hS:∀t∈S,My.Sd t)(hs:My.Sd s):∃ys,Jg ys/\∀p,p∈ys↔My.jQ S s p:=by
 let L:=[s.1,s.2]++S.flatMap λt=>if t=s then [] else My.cs (My.cV s t)
 have hL:∀p,p∈L↔My.jQ S s p:=λp=>by
  simp only[L,aaJ,aaj,adB,or_false,List.mem_flatMap];unfold My.jQ;constructor
  .rintro((h|h)|⟨t,ht,h⟩)
   .exact .inl h
   .exact .inr (.inl h)
   .split at h
    .cases h
    .rename_i ne
     exact .inr (.inr ⟨t,ht,ne,h⟩)
  .rintro(h|h|⟨t,ht,ne,h⟩)
   .exact .inl (.inl h)
   .exact .inl (.inr h)
   .exact .inr ⟨t,ht,by rw[if_neg ne];exact h⟩
 obtain⟨p,h⟩:=MM (uniq (λ_=>true) [] L);have hm:∀q,q∈AN (uniq (λ_=>true) [] L)↔My.jQ S s q:=λq=>by
  rw[p.mem_iff,vy,<-hL];simp
 exact⟨_,Cm h (p.nodup_iff.mpr (pP .nil)) λq hq=>(((hm q).mp hq).on hS hs).1,hm⟩
def ch:T3->List S2->T3->Prop
 |a,[],h=>a=h
 |a,z::l,h=>z.1=a/\ch z.2 l h
theorem Hj:∀(x:T3) (t:List T3) (h:T3),(x::t).getLast?=ae h->ch x (eY (x::t)) h
 |x,[],h,e=>by simpa[eY,ch]using e
 |x,y::t,h,e=>⟨rfl,Hj y t h (by simpa using e)⟩
theorem MN{zs:List S2}(hS:∀t∈S,My.Sd t)(hs:s∈S)(fwd:My.aP s.1 s.2=true)(hz:Xn zs)(hk:∀z,z∈zs↔∃s∈S,fO S s z):ch s.1 (zs.filter λz=>My.cF z.1 s.1 s.2&&My.cF z.2 s.1 s.2) s.2:=by
 have ds:=hS s hs;obtain⟨ys,gB,hm⟩:=Cn (S:=S) hS ds;have e:zs.filter (λz=>My.cF z.1 s.1 s.2&&My.cF z.2 s.1 s.2)=eY ys:=by
  refine pT Es _ _ (ae6 _ (pU hz.AK hz.nd hz.ok)) (AM gB) λz=>?_
  rw[ace,hk z,Eo gB hm z];constructor
  .rintro⟨⟨t,ht,hc⟩,ho⟩
   have oO:My.cF z.1 s.1 s.2=true/\My.cF z.2 s.1 s.2=true:=by simpa using ho
   obtain⟨o1,o2⟩:=hc.on hS ht;exact hc.move hS ht hs ⟨o1.1,oO.1⟩ ⟨o2.1,oO.2⟩
  .intro hc
   obtain⟨o1,o2⟩:=hc.on hS hs;exact⟨⟨s,hs,hc⟩,by rw[o1.2,o2.2];rfl⟩
 rw[e];have Z9:My.fw s.1 s.2=(s.1,s.2):=by unfold My.fw;rw[if_pos fwd]
 have aF:∀p∈ys,My.aP p s.1=false/\My.aP s.2 p=false:=λp hp=>by
  have o:=((hm p).mp hp).on hS ds;have:=(My.dw o.dt).mp o.2;rw[Z9]at this;exact this
 have m1:s.1∈ys:=(hm _).mpr (.inl rfl);have m2:s.2∈ys:=(hm _).mpr (.inr (.inl rfl));cases ys with
 |nil=>cases m1
 |cons x t=>
  have hx:x=s.1:=by
   rcases aaj.mp m1 with h|h
   .exact h.symm
   .have:=(aaG.mp gB).1 _ h
    rw[(aF x aao).1]at this;cases this
  subst hx;refine Hj _ _ _ ?_;have ne:s.1::t≠[]:=by simp
  rw[List.getLast?_eq_some_getLast ne];refine congrArg ae ?_;have hl:=List.getLast_mem ne;have Qh:=afc ne;generalize hg:(s.1::t).getLast ne=w at*;rcases aeV (w=s.2)with h|h
  .exact h
  .exfalso
   rw[<-Qh]at m2 gB;rcases aaJ.mp m2 with h'|h'
   .have:=(List.pairwise_append.mp gB).2.2 _ h' w (by simp)
    rw[(aF w hl).2]at this;cases this
   .exact h (aak.mp h').symm
theorem kg(h:∀t,t∈S↔t∈T)(s:S2)(p:T3):My.jQ S s p↔My.jQ T s p:=by
 unfold My.jQ;constructor
 .rintro(a|a|⟨t,ht,r⟩)
  .exact .inl a
  .exact .inr (.inl a)
  .exact .inr (.inr ⟨t,(h t).mp ht,r⟩)
 .rintro(a|a|⟨t,ht,r⟩)
  .exact .inl a
  .exact .inr (.inl a)
  .exact .inr (.inr ⟨t,(h t).mpr ht,r⟩)
theorem AO(h:∀t,t∈S↔t∈T)(s z:S2):fO S s z↔fO T s z:=
 ⟨λk=>⟨(kg h s _).mp k.c1,(kg h s _).mp k.c2,k.lt,λr hr=>k.no r ((kg h s r).mpr hr)⟩,λk=>⟨(kg h s _).mpr k.c1,(kg h s _).mpr k.c2,k.lt,λr hr=>k.no r ((kg h s r).mp hr)⟩⟩
theorem AR{JN:List S2}{v w:KV}(h:∀t,t∈S↔t∈T)(a:Out S IN v)(b:Out T JN w):keys v=keys w:=by
 refine pT Es _ _ (pU a.AK a.nd a.ok) (pU b.AK b.nd b.ok) λz=>?_
 rw[a.key,b.key];constructor
 .rintro⟨s,hs,k⟩
  exact⟨s,(h s).mp hs,(AO h s z).mp k⟩
 .rintro⟨s,hs,k⟩
  exact⟨s,(h s).mpr hs,(AO h s z).mpr k⟩
theorem Out.Z_{w:KV}(a:Out S IN w):Xn (keys w):=⟨a.ok,λz hz=>by
 obtain⟨s,_,k⟩:=(a.key z).mp hz;exact k.lt,a.AK,a.nd⟩
theorem AS{α:Type}{f:D->Option PyData}{e:α->D}{g:α->PyData}:∀(l:List α),(∀a∈l,f (e a)=ae (g a))->omap f (l.map e)=ae (l.map g)
 |[],_=>rfl
 |a::l,h=>by
  show((f (e a)).bind λd=>(omap f (l.map e)).bind λds=>ae (d::ds))=_;rw[h a aao,AS l λb hb=>h b (aap _ hb)];rfl
def pS(s:S2):PyData:=.tuple [pd s.1,pd s.2]
theorem Jk:data c (k+3) (aE s)=ae (pS s):=rfl
theorem lR{l:List S2}(h:c[n]? =ae (.lst (l.map aE))):data c (k+4) (.ref n)=ae (.list (l.map pS)):=by
 rw[AD h,AS (g:=pS) l λa _=>Jk];rfl
theorem Uz(h:c[n]? =ae (.lst xs)):fT [.ref n,.ty "list"] c=ae (.bl true,c):=by
 have hk:tO "list" (.ref n) c=ae true:=by
  unfold tO;simp[h]
 show((tO "list" (.ref n) c).bind λk=>ae (D.bl k,c))=_;rw[hk];rfl
theorem Hk:∀(n:Nat),omap oJ (ab7 n (D.bl false))=ae (ab7 n false)
 |0=>rfl
 |n+1=>by
  show((oJ (D.bl false)).bind λd=>(omap oJ (ab7 n (D.bl false))).bind λds=>ae (d::ds))=_;rw[Hk n];rfl
def rowOf(IN:List S2)(w:KV)(m:Nat):List Int:=match w.find? λx=>decide (x.2.1=m)with
 |some x=>pR IN x.1
 |none=>[]
theorem Hl:∀{w:KV},(ids w).Nodup->∀x∈w,rowOf IN w x.2.1=pR IN x.1
 |[],_,x,hx=>nomatch hx
 |y::w,nd,x,hx=>by
  have kK:y.2.1∉ids w/\(ids w).Nodup:=by simpa[ids]using nd
  unfold rowOf;rw[aa3];rcases aaj.mp hx with rfl|gq
  .simp
  .have ne:y.2.1≠x.2.1:=λe=>kK.1 (by rw[e];exact aaN gq)
   simp only[ne,decide_false];exact Hl (w:=w) kK.2 x gq
section
variable{S:List S2}
theorem fO.sd{s z:S2}(hS:∀t∈S,My.Sd t)(hs:s∈S)(h:fO S s z):My.Sd z:=⟨(h.on hS hs).1.1,(h.on hS hs).2.1,λe=>by have:=h.lt;rw[e,yR]at this;cases this⟩
theorem UA{z:S2}(h:My.aP z.1 z.2=true):My.fw z.1 z.2=z:=by unfold My.fw;rw[if_pos h]
theorem MO{z:S2}{p:T3}(h:My.aP z.1 z.2=true)(o:My.On p z):My.le z.1 p/\My.le p z.2:=by
 have:=(My.dw o.dt).mp o.2;rw[UA h]at this;exact this
theorem fO.sub{s z:S2}{p:T3}(hS:∀t∈S,My.Sd t)(hs:s∈S)(h:fO S s z)(o:My.On p z):My.On p s:=by
 have ds:=hS s hs;obtain⟨q1,q2⟩:=h.on hS hs;have e1:=My.gC.symm ds (show My.gC s z from⟨q1.dt,q2.dt⟩);have e3:My.aG s.1 s.2 p=0:=My.D9 (h.sd hS hs).di e1.1 e1.2 o.dt;obtain⟨l1,l2⟩:=My.gk ds.l1 ds.l2;obtain⟨a1,a2⟩:=(My.dw q1.dt).mp q1.2;obtain⟨b1,b2⟩:=(My.dw q2.dt).mp q2.2;obtain⟨k1,k2⟩:=MO h.lt o;exact⟨o.1,(My.dw e3).mpr ⟨My.le_trans l1 q1.1 o.1 a1 k1,My.le_trans o.1 q2.1 l2 k2 b2⟩⟩
theorem fO.end_{s z:S2}{p:T3}(hS:∀t∈S,My.Sd t)(hs:s∈S)(h:fO S s z)(hc:My.jQ S s p)(o:My.On p z):p=z.1\/p=z.2:=by
 obtain⟨k1,k2⟩:=MO h.lt o;have dz:=h.sd hS hs;rcases My.iF dz.l1 o.1 with g1|g1|g1
 .rcases My.iF o.1 dz.l2 with g2|g2|g2
  .exact absurd ⟨g1,g2⟩ (h.no p hc)
  .exact .inr g2
  .unfold My.le at k2;rw[g2]at k2;cases k2
 .exact .inl g1.symm
 .unfold My.le at k1;rw[g1]at k1;cases k1
variable{r:S2}
theorem fO.ends{s z t:S2}{p:T3}(hS:∀t∈S,My.Sd t)(hs:s∈S)(hr:r∈S)(h:fO S s z)(k:fO S r t)(e:p=z.1\/p=z.2)(o:My.On p t):p=t.1\/p=t.2:=by
 have c:My.jQ S s p:=by rcases e with rfl|rfl;exact h.c1;exact h.c2
 exact k.end_ hS hr (c.move hS hs hr (k.sub hS hr o)) o
theorem fO.UB{s z t:S2}{p:T3}(hS:∀t∈S,My.Sd t)(hs:s∈S)(hr:r∈S)(h:fO S s z)(k:fO S r t)(hn:¬My.gC z t)(o1:My.On p z)(o2:My.On p t):p=z.1\/p=z.2:=by
 have ds:=hS s hs;have dr:=hS r hr;have dz:=h.sd hS hs;obtain⟨q1,q2⟩:=h.on hS hs;obtain⟨u1,u2⟩:=k.on hS hr;have csz:My.gC s z:=⟨q1.dt,q2.dt⟩;have crt:My.gC r t:=⟨u1.dt,u2.dt⟩;have ns:¬My.gC s r:=λc=>hn (My.gC.trans dz ds (csz.symm ds) (My.gC.trans ds dr c crt))
 have ne:r≠s:=λe=>ns (by subst e;exact⟨My.vh _ _,My.vi _ _⟩)
 exact h.end_ hS hs (.inr (.inr ⟨r,hr,ne,My.j_ ds dr ns (h.sub hS hs o1) (k.sub hS hr o2)⟩)) o1
theorem fO.Hm{s z t:S2}{p:T3}(hS:∀t∈S,My.Sd t)(hs:s∈S)(hr:r∈S)(h:fO S s z)(k:fO S r t)(hp:p∈My.cs (My.cV z t)):p=z.1\/p=z.2:=by
 obtain⟨o1,o2⟩:=My.nZ (h.sd hS hs) (k.sd hS hr) hp
 by_cases c:My.gC z t
 .rcases My.pI c hp with e|e|e|e
  .exact .inl e
  .exact .inr e
  .exact k.ends hS hr hs h (.inl e) o1
  .exact k.ends hS hr hs h (.inr e) o1
 .exact h.UB hS hs hr k c o1 o2
theorem fO.same{s z t:S2}(hS:∀t∈S,My.Sd t)(hs:s∈S)(hr:r∈S)(h:fO S s z)(k:fO S r t)(o1:My.On z.1 t)(o2:My.On z.2 t):z=t:=by
 have e1:=h.ends hS hs hr k (.inl rfl) o1;have e2:=h.ends hS hs hr k (.inr rfl) o2;have l1:=h.lt;have l2:=k.lt;obtain⟨z1,z2⟩:=z;obtain⟨t1,t2⟩:=t;simp only at e1 e2 l1 l2;rcases e1 with rfl|rfl<;>rcases e2 with rfl|rfl
 .rw[yR]at l1;cases l1
 .rfl
 .rw[My.cf l2]at l1;cases l1
 .rw[yR]at l1;cases l1
end
def fD(n:Nat)(c:Cells):Prop:=∃a b:Int,c[n]? =ae (.lst [.int a,.int b])/\0<=a/\0<=b
structure Kp(n:Nat)(c c':Cells):Prop where
 len:c.length<=c'.length
 at_:∀i,i<c.length->i≠n->c'[i]? =c[i]?
theorem Kp.refl(n:Nat)(c:Cells):Kp n c c:=⟨aam _,λ_ _ _=>rfl⟩
theorem Kp.trans{KN:Cells}(a:Kp n c c')(b:Kp n c' KN):Kp n c KN:=⟨aa7 a.len b.len,λi h h'=>(b.at_ i (aaB h a.len) h').trans (a.at_ i h h')⟩
theorem Kp.set:Kp n c (c.set n z):=⟨by rw[acf];exact aam _,λi _ h=>by rw[adm,if_neg (λe=>h e.symm)]⟩
theorem Kp.more{zs:List Cell}:Kp n c (c++zs):=⟨by rw[aaR];omega,λi h _=>aaM h⟩
theorem Kp.get(k:Kp n c c')(h:c[i]? =ae z)(hi:i≠n):c'[i]? =ae z:=by
 rw[k.at_ i (aae.mp h).1 hi];exact h
theorem fD.lt(h:fD n c):n<c.length:=by
 obtain⟨a,b,h,_⟩:=h;exact(aae.mp h).1
theorem fD.more{zs:List Cell}(h:fD n c):fD n (c++zs):=by
 have hl:=h.lt;obtain⟨a,b,h,r⟩:=h;exact⟨a,b,by rw[aaM hl];exact h,r⟩
theorem fD.ne(h:fD n c)(hi:c.length<=i):i≠n:=by have:=h.lt;omega
theorem er{m:Int}(h:fD n c)(h0: 0<m)(hm:My.Bd 8900 m):∃d c',aQ [.ref n,.int m] c=ae (.int d,c')/\0<=d/\d<m/\fD n c'/\Kp n c c':=by
 have gd:=h.lt;obtain⟨a,b,hc,a0,b0⟩:=h;have s1:=aU hc;have l1:=aY hc
 by_cases ha:a=0
 .refine⟨b % m,c.set n (.lst [.int a,.int (b / m)]),?_,aes _ (by omega),aet _ h0,⟨a,b / m,?_,a0,agN b0 (by omega)⟩,Kp.set⟩
  .subst ha
   simp[aQ,gp,i5,gD,s1,Ca h0,ud h0 hm,GF,l1,tM]
  .simp[gd]
 .refine⟨a % m,c.set n (.lst [.int (a / m),.int b]),?_,aes _ (by omega),aet _ h0,⟨a / m,b,?_,agN a0 (by omega),b0⟩,Kp.set⟩
  .simp[aQ,gp,i5,gD,s1,Ca h0,ud h0 hm,GF,l1,tM,ha]
  .simp[gd]
theorem Hn{s:Nat}{k:Int}(s1:cq (.ref s) c=ae (ns.map D.int))(k0: 0<=k)(k1:k<1000):∃a b,dH [.ref s,.int k] c=ae (.ref c.length,c++[.lst [.int a,.int b]])/\0<=a/\0<=b:=by
 -- xN loop
 have loop:∀(z mx:Int),∃pV uz j' Et,0<=uz/\cA (bF (ag (eC (.int 12)) ak)) (ay 5)
   (aw (aB 3 (e2 bK (e2 aH (eV 3) (eC (.int 6364136223846793005))) (e2 aH (eC (.int 1442695040888963407)) (e2 bK (e2 bK (eV 1) (eV 5)) (eC (.int 1))))))
   (aw (aB 3 (e2 gY (eV 3) (eC (.int 2305843009213693951))))
   (aw (aB 6 (e2 aH (e2 ed (eV 3) (eC (.int 1024))) (e2 bK (e2 bK (e2 gY (eV 3) (eC (.int 1000003))) (e2 aH (eC (.int 7919)) (eV 5))) (eC (.int 1)))))
   (aB 4 (e2 bK (e2 aH (eV 4) (eC (.int 1099511627776))) (e2 gY (eV 6) (eC (.int 1099511627776))))))))
   [ae (.ref s),ae (.int k),ae (.int z),ae (.int mx),ae (.int 0),af,af,af] c=ae (.nx,[ae (.ref s),ae (.int k),ae (.int z),ae (.int pV),ae (.int uz),j',Et,af],c):=by
  intro z mx;have hr:bF (ag (eC (.int 12)) ak) [ae (.ref s),ae (.int k),ae (.int z),ae (.int mx),ae (.int 0),af,af,af] c=ae (⟨cN 0 12,[]⟩,c):=gM (j:=12) rfl (by decide);have key:=cg (ks:=[]) (g:=ay 5) (body:=(aw (aB 3 (e2 bK (e2 aH (eV 3) (eC (.int 6364136223846793005))) (e2 aH (eC (.int 1442695040888963407)) (e2 bK (e2 bK (eV 1) (eV 5)) (eC (.int 1))))))
   (aw (aB 3 (e2 gY (eV 3) (eC (.int 2305843009213693951))))
   (aw (aB 6 (e2 aH (e2 ed (eV 3) (eC (.int 1024))) (e2 bK (e2 bK (e2 gY (eV 3) (eC (.int 1000003))) (e2 aH (eC (.int 7919)) (eV 5))) (eC (.int 1)))))
   (aB 4 (e2 bK (e2 aH (eV 4) (eC (.int 1099511627776))) (e2 gY (eV 6) (eC (.int 1099511627776)))))))))
   (λ_ σ c'=>∃pV uz j' Et,0<=uz/\σ=[ae (.ref s),ae (.int k),ae (.int z),ae (.int pV),ae (.int uz),j',Et,af]/\c'=c) (cN 0 12) 0 [ae (.ref s),ae (.int k),ae (.int z),ae (.int mx),ae (.int 0),af,af,af] c (λ_ _ _ _=>ef)
  have MP:=key (by
    rintro i d σ c' hd ⟨pV,uz,j',Et,h1,rfl,rfl⟩;obtain⟨hi,rfl⟩:i<12/\d= .int (0+(i:Int)):=by
     unfold cN at hd;rw[aaq]at hd
     by_cases hi:i<12
     .rw[afn hi]at hd;cases hd;exact⟨hi,rfl⟩
     .rw[ad5.mpr (by simpa using ae1 hi)]at hd;cases hd
    have hM0:=aes (pV*6364136223846793005+1442695040888963407*(k+(0+(i:Int))+1)) (show(2305843009213693951:Int)≠0 by decide);have hM1:=aet (pV*6364136223846793005+1442695040888963407*(k+(0+(i:Int))+1)) (show(0:Int)<2305843009213693951 by decide);refine⟨_,c',[ae (.ref s),ae (.int k),ae (.int z),ae (.int ((pV*6364136223846793005+1442695040888963407*(k+(0+(i:Int))+1)) % 2305843009213693951)),ae (.int (uz*1099511627776+((pV*6364136223846793005+1442695040888963407*(k+(0+(i:Int))+1)) % 2305843009213693951) / 1024*(((pV*6364136223846793005+1442695040888963407*(k+(0+(i:Int))+1)) % 2305843009213693951) % 1000003+7919*(0+(i:Int))+1) % 1099511627776)),ae (.int (0+(i:Int))),ae (.int (((pV*6364136223846793005+1442695040888963407*(k+(0+(i:Int))+1)) % 2305843009213693951) / 1024*(((pV*6364136223846793005+1442695040888963407*(k+(0+(i:Int))+1)) % 2305843009213693951) % 1000003+7919*(0+(i:Int))+1))),af],c',rfl,?_,⟨_,_,_,_,?_,rfl,rfl⟩⟩
    .simp (disch:=walk_at "dis") only[B_,Mc,TF,TC,TB,Mf,bU,Ca,ud,uc,aeq,adv,agk,aag,ahC,adK,Md]
    .have:=aes (((pV*6364136223846793005+1442695040888963407*(k+(0+(i:Int))+1)) % 2305843009213693951) / 1024*(((pV*6364136223846793005+1442695040888963407*(k+(0+(i:Int))+1)) % 2305843009213693951) % 1000003+7919*(0+(i:Int))+1)) (show(1099511627776:Int)≠0 by decide)
     omega) ⟨mx,0,af,af,Int.le_refl _,rfl,rfl⟩
  obtain⟨σ',c',e,pV,uz,j',Et,h1,h2,h3⟩:=MP;subst h2 h3;refine⟨pV,uz,j',Et,h1,?_⟩;unfold cA;rw[hr];exact e
 have hl:((ns.map D.int).length:Int)=ns.length:=by simp
 -- xN own cell
 by_cases hk:k<ns.length
 .obtain⟨z,hz⟩:∃z,gu (ns.map D.int) k=ae (.int z):=by
   have hkn:k.toNat<ns.length:=by omega
   refine⟨ns[k.toNat],?_⟩;have:=Eb (xs:=ns.map D.int) (n:=k.toNat) (x:=.int ns[k.toNat]) (by simp[hkn]);rwa[show((k.toNat:Nat):Int)=k by omega]at this
  obtain⟨w0,hw⟩:∃w0,gu (ns.map D.int) 0=ae (.int w0):=by
   cases ns with
   |nil=>simp at hk;omega
   |cons n ns=>exact⟨n,by simp⟩
  obtain⟨pV,uz,j',Et,ht,el⟩:=loop z ((if z<0 then -z else z) % 2305843009213693951+7919*k+5);refine⟨(if z<0 then -z else z)*(if decide (w0 % 2=1)=true then 1 else 0),uz,?_,ag4 (by split<;>omega) (by split<;>omega),ht⟩;rw[dH,gp,iI];have pQ:decide (k<((ns.map D.int).length:Int))=true:=by rw[hl];exact decide_eq_true hk
  have h0:decide ((0:Int)<((ns.map D.int).length:Int))=true:=by rw[hl];exact decide_eq_true (by omega)
  erw[vm,s1,gD,pQ,hz,hw,el,h0]
 .have pQ:decide (k<((ns.map D.int).length:Int))=false:=by rw[hl];exact decide_eq_false (by omega)
  obtain⟨pV,uz,j',Et,ht,el⟩:=loop 0 (0 % 2305843009213693951+7919*k+5)
  by_cases hn: 0<ns.length
  .obtain⟨w0,hw⟩:∃w0,gu (ns.map D.int) 0=ae (.int w0):=by
    cases ns with
    |nil=>simp at hn
    |cons n ns=>exact⟨n,by simp⟩
   have h0:decide ((0:Int)<((ns.map D.int).length:Int))=true:=by rw[hl];exact decide_eq_true (by omega)
   refine⟨0*(if decide (w0 % 2=1)=true then 1 else 0),uz,?_,by simp,ht⟩;rw[dH,gp,iI];erw[vm,s1,gD,pQ,hw,el,h0]
  .have h0:decide ((0:Int)<((ns.map D.int).length:Int))=false:=by rw[hl];exact decide_eq_false (by omega)
   refine⟨0*(if false=true then 1 else 0),uz,?_,by simp,ht⟩;rw[dH,gp,iI];erw[vm,s1,gD,pQ,el,h0]
theorem UC{s:Nat}{k:Int}(hs:c[s]? =ae (.ro (ns.map D.int)))(k0: 0<=k)(k1:k<1000):∃a b,dH [.ref s,.int k] c=ae (.ref c.length,c++[.lst [.int a,.int b]])/\0<=a/\0<=b:=Hn (vk hs) k0 k1
theorem Rl:vU (.int 10) (.int 9) c=ae (.int 1000000000,c):=by
 unfold vU;rw[IX,if_pos (by decide)];rfl
theorem Ho(h:fD n c):∃x c',eP [.ref n] c=ae (.int x,c')/\-1000000000<=x/\x<=1000000000/\fD n c'/\Kp n c c':=by
 obtain⟨d1,c1,e1,l1,u1,p1,k1⟩:=er h (m:=5) (by decide) (by walk_at "bdm")
 by_cases h1:d1<2
 .obtain⟨d2,c2,e2,l2,u2,p2,k2⟩:=er p1 (m:=9) (by decide) (by walk_at "bdm")
  refine⟨d2 - 4,c2,?_,by omega,by omega,p2,k1.trans k2⟩;erw[eP,fN,e1,h1,e2]
 by_cases h2:d1=2
 .obtain⟨d2,c2,e2,l2,u2,p2,k2⟩:=er p1 (m:=1999999) (by decide) (by walk_at "bdm")
  refine⟨d2 - 999999,c2,?_,by omega,by omega,p2,k1.trans k2⟩;erw[eP,fN,e1,h1,h2,e2]
 by_cases h3:d1=3
 .obtain⟨d2,c2,e2,l2,u2,p2,k2⟩:=er p1 (m:=3) (by decide) (by walk_at "bdm")
  obtain⟨d3,c3,e3,l3,u3,p3,k3⟩:=er p2 (m:=2) (by decide) (by walk_at "bdm");refine⟨(999999 - d2)*(1 - 2*d3),c3,?_,?_,?_,p3,k1.trans (k2.trans k3)⟩
  .erw[eP,fN,e1,h1,h2,h3,e2,e3]
  .have:d3=0\/d3=1:=by omega
   rcases this with rfl|rfl<;>omega
  .have:d3=0\/d3=1:=by omega
   rcases this with rfl|rfl<;>omega
 .obtain⟨d2,c2,e2,l2,u2,p2,k2⟩:=er p1 (m:=2*1000000000+1) (by decide) (by walk_at "bdm")
  refine⟨d2 - 1000000000,c2,?_,by omega,by omega,p2,k1.trans k2⟩;erw[eP,fN,e1,h1,h2,h3,Rl,e2]
theorem Qi(h:fD n c):∃x c',i6 [.ref n] c=ae (.int x,c')/\1<=x/\x<=1000000000/\fD n c'/\Kp n c c':=by
 obtain⟨d1,c1,e1,l1,u1,p1,k1⟩:=er h (m:=5) (by decide) (by walk_at "bdm");have key:∀m:Int,0<m->m<=1000000000->gu [D.int 1,.int 1,.int 9,.int 999999,.int 1000000000] d1=ae (.int m)->∃x c',i6 [.ref n] c=ae (.int x,c')/\1<=x/\x<=1000000000/\fD n c'/\Kp n c c':=by
  intro m m0 m1 ha;obtain⟨d2,c2,e2,l2,u2,p2,k2⟩:=er (p1.more (zs:=[.lst [.int 1,.int 1,.int 9,.int 999999,.int 1000000000]])) (m:=m) m0 (by walk_at "bdm");refine⟨1+d2,c2,?_,by omega,by omega,p2,k1.trans (Kp.more.trans k2)⟩;have s2:cq (.ref c1.length) (c1++[.lst [.int 1,.int 1,.int 9,.int 999999,.int 1000000000]])=ae [.int 1,.int 1,.int 9,.int 999999,.int 1000000000]:=aU (by simp);erw[i6,j0,e1,Rl,gD,s2,ha,e2]
 have:d1=0\/d1=1\/d1=2\/d1=3\/d1=4:=by omega
 rcases this with rfl|rfl|rfl|rfl|rfl
 .exact key 1 (by decide) (by decide) rfl
 .exact key 1 (by decide) (by decide) rfl
 .exact key 9 (by decide) (by decide) rfl
 .exact key 999999 (by decide) (by decide) rfl
 .exact key 1000000000 (by decide) (by decide) rfl
theorem Eu{a b:Int}:ip [.int a,.int b] c=ae (.int (aaA a b),c):=by
 have loop:∀(n:Nat) (x y:Int),0<=x->0<=y->y.natAbs=n->eo (tV (e2 oK (eV 1) (eC (.int 0)))) (oA [0,1] (ag (eV 1) (ag (e2 gY (eV 0) (eV 1)) ak))) [ae (.int x),ae (.int y)] c=ae (.nx,[ae (.int (aaA x y)),ae (.int 0)],c):=by
  intro n
  induction n using agM with
  |_ n ih=>
   intro x y hx hy hn
   by_cases h: 0<y
   .have h1:=aet x h
    have h2:=aes x (show y≠0 by omega);have:=ih (x % y).natAbs (by omega) y (x % y) hy h2 rfl;rw[My.H_]at this;refine nQ (c':=c) (σ':=[ae (.int y),ae (.int (x % y))]) (c2:=c) ?_ ?_ this
    .erw[h]
    .erw[h]
   .have:y=0:=by omega
    subst this;have e:=My.gcd_zero x;rw[if_neg (by omega)]at e;rw[e];refine iU ?_;erw[h]
 have:=loop _ (if a<0 then -a else a) (if b<0 then -b else b) (by split<;>omega) (by split<;>omega) rfl;rw[My.Kv]at this;erw[ip,jq,this]
theorem pW(hw:w≠0)(hb:My.Bd 8900 w):bC [.int x,.int y,.int w] c=ae (sp (My.sx x y w) (My.sy x y w) (My.sw x y w),c):=by
 have gP:∀(z:Int),z≠0->My.Bd 8900 z->∀(n m:Int),0<(aaA (aaA n m:Int) z:Int)/\My.Bd 8900 (aaA (aaA n m:Int) z:Int):=λz hz hb n m=>by
  have g0:=My.x5 (n:=(aaA n m:Int)) hz;refine⟨g0,My.Bd.of_le hb ?_⟩;have:=My.Sn (n:=(aaA n m:Int)) hz;rw[My.x6]at this;omega
 by_cases h:w<0
 .obtain⟨e1,e2,e3⟩:=My.Dk (x:=x) (y:=y) h
  obtain⟨g0,g1⟩:=gP (0 - w) (by omega) ⟨by have:=hb.lt;omega⟩ (0 - x) (0 - y);erw[bC,iq,h,Eu,e1,e2,e3];rfl
 .obtain⟨e1,e2,e3⟩:=My.vR (x:=x) (y:=y) (w:=w) (by omega)
  obtain⟨g0,g1⟩:=gP w hw hb x y;erw[bC,iq,h,Eu,e1,e2,e3];rfl
theorem yW(h1: -1000000000<=x)(h2:x<=1000000000):My.Bd 31 x:=⟨by
 have:(2:Nat) ^ 31=2147483648:=by decide
 omega⟩
theorem Ga(h:fD n c):∃x y w c',df [.ref n] c=ae (sp x y w,c')/\Sp 31 x y w/\fD n c'/\Kp n c c':=by
 obtain⟨d1,c1,e1,l1,u1,p1,k1⟩:=er h (m:=3) (by decide) (by walk_at "bdm")
 by_cases h1:d1=0
 .obtain⟨x,c2,e2,l2,u2,p2,k2⟩:=Ho p1
  obtain⟨y,c3,e3,l3,u3,p3,k3⟩:=Ho p2;obtain⟨w,c4,e4,l4,u4,p4,k4⟩:=Qi p3;have hw:w≠0:=by omega
  refine⟨_,_,_,c4,?_,Sp.mk' hw (yW l2 u2) (yW l3 u3) (yW (by omega) u4),p4,k1.trans (k2.trans (k3.trans k4))⟩;have e5:=pW (x:=x) (y:=y) (c:=c4) hw ((yW (by omega) u4).mono (by decide));erw[df,jH,e1,h1,e2,e3,e4,e5]
 .obtain⟨x,c2,e2,l2,u2,p2,k2⟩:=er p1 (m:=5+4*d1) (by omega) (by walk_at "bdm")
  obtain⟨y,c3,e3,l3,u3,p3,k3⟩:=er p2 (m:=5+4*d1) (by omega) (by walk_at "bdm");obtain⟨z,c4,e4,l4,u4,p4,k4⟩:=er (p3.more (zs:=[.lst [.int 1,.int 1,.int 2]])) (m:=3) (by omega) (by walk_at "bdm");have hs:cq (.ref c3.length) c4=ae [.int 1,.int 1,.int 2]:=aU (k4.get (by simp) (p3.ne (aam _)));have key:∀w:Int,w≠0->w<=2->0<=w->gu [D.int 1,.int 1,.int 2] z=ae (.int w)->∃x y w c',df [.ref n] c=ae (sp x y w,c')/\Sp 31 x y w/\fD n c'/\Kp n c c':=by
   intro w hw w2 w0 ha;refine⟨_,_,_,c4,?_,Sp.mk' hw (yW (x:=x) (by omega) (by omega)) (yW (x:=y) (by omega) (by omega)) (yW (by omega) (by omega)),p4,k1.trans (k2.trans (k3.trans (Kp.more.trans k4)))⟩;have e5:=pW (x:=x) (y:=y) (c:=c4) hw (by walk_at "bdm");erw[df,jH,e1,h1,e2,e3,e4,gD,hs,ha,e5]
  have:z=0\/z=1\/z=2:=by omega
  rcases this with rfl|rfl|rfl
  .exact key 1 (by decide) (by decide) (by decide) rfl
  .exact key 1 (by decide) (by decide) (by decide) rfl
  .exact key 2 (by decide) (by decide) (by decide) rfl
theorem yX(h:My.Di x y w):My.Di (x+w) y w:=by
 exact⟨h.pos,by rw[show aaA (x+w) w=aaA x w by simp];exact h.low⟩
def mv(p:T3)(i:Nat):T3:=(p.1+(i:Int)*p.2.2,p.2.1,p.2.2)
theorem Ew:mv p 0=p:=by simp[mv]
theorem Ex:mv p (i+1)=((mv p i).1+(mv p i).2.2,(mv p i).2.1,(mv p i).2.2):=by
 simp only[mv,afW,and_self,and_true];rw[Int.natCast_add,Int.add_mul];omega
theorem Co(h:My.aS p):∀i,My.aS (mv p i)
 |0=>by rw[Ew];exact h
 |i+1=>by rw[Ex];exact yX (Co h i)
theorem Qj(h:My.aS p)(e:mv p i=mv p j):i=j:=by
 have e1:p.1+(i:Int)*p.2.2=p.1+(j:Int)*p.2.2:=congrArg aiZ e;have e2:(i:Int)*p.2.2=(j:Int)*p.2.2:=by omega
 have h0:p.2.2≠0:=by have:=h.pos;omega
 have:=ab4 h0 e2;omega
theorem UD{K:Nat}(h:Ok K p)(hi:i<=1000):Ok (K+11) (mv p i):=by
 have a1:=h.bx;have a2:=h.hV;have a3:=h.bw;refine⟨Co h.low i,?_,h.hV.mono (by omega),h.bw.mono (by omega)⟩;exact(My.Bd.add h.bx (My.Bd.mul (show My.Bd 10 (i:Int)from⟨by omega⟩) h.bw)).mono (by omega)
variable{l:List T3}
theorem Rm{m:Nat}(h:c[m]? =ae (.lst (l.map sd))):o7 (sd p) (.ref m) c=ae (.bl (decide (p∈l)),c):=by
 have o:omap (data c 5) (l.map sd)=ae (l.map pd):=ng (λa=>jJ) l;unfold o7 Dp;rw[aU h,aag,jJ,aag,o,aag,aag]
 congr 3
 rw[aa1];simp only[decide_eq_true_eq];rw[aaE];constructor
 .rintro⟨q,h1,h2⟩
  rw[<-xA.mp h2];exact h1
 .exact λh=>⟨p,h,rfl⟩
theorem MQ{K:Nat}{m:Nat}(hK:K<=2000)(hp:Ok K p)(h:c[m]? =ae (.lst (l.map sd)))(hn:l.length<=100):∃q,iu [sd p,.ref m] c=ae (sd q,c)/\Ok (K+11) q/\q∉l:=by
 have hr:bF (ag (e2 bK (eB bu (ag (eV 1) ak)) (eC (.int 1))) ak) [ae (sd p),ae (.ref m),af] c=ae (⟨cN 0 (l.length+1),[]⟩,c):=by
  refine(gM (j:=(l.length:Int)+1) (c':=c) ?_ (by omega)).trans ?_
  .erw[vm,aU h,aas]
  .rw[show((l.length:Int)+1).toNat=l.length+1 by omega]
 have key:=cg (ks:=[]) (g:=ay 2) (body:=(bZ (tV (e2 o7 (eV 0) (eV 1)))
   (aB 0 (au bC [] (ag (e2 bK (e2 ar (eV 0) (eC (.int 0))) (e2 ar (eV 0) (eC (.int 2)))) (ag (e2 ar (eV 0) (eC (.int 1))) (ag (e2 ar (eV 0) (eC (.int 2))) ak)))))
   aT)) (λi σ c'=>∃j x,j<=i/\(∀k<j,mv p k∈l)/\(mv p j∈l->j=i)/\σ=[ae (sd (mv p j)),ae (.ref m),x]/\c'=c) (cN 0 (l.length+1)) 0 [ae (sd p),ae (.ref m),af] c (λ_ _ _ _=>ef)
 have MP:=key (by
  rintro i d σ c' hd ⟨j,x,h1,h2,h3,rfl,rfl⟩;have hi:i<l.length+1:=by
   have:=(aae.mp hd).1;simpa[cN]using this
  rw[acC]at h1 h3 |-
  by_cases hj:mv p j∈l
  .have:=h3 hj
   subst this;have low:=Co hp.low j;have hw:=low.pos;have e1:=pW (x:=(mv p j).1+(mv p j).2.2) (y:=(mv p j).2.1) (w:=(mv p j).2.2) (c:=c') (by omega) (hp.bw.mono (by omega));obtain⟨a1,a2,a3⟩:=My.x9 (yX low);rw[a1,a2,a3]at e1;have e2:sp ((mv p j).1+(mv p j).2.2) (mv p j).2.1 (mv p j).2.2=sd (mv p (j+1)):=by rw[Ex];rfl
   rw[e2]at e1;refine⟨_,c',[ae (sd (mv p (j+1))),ae (.ref m),ae d],c',rfl,?_,j+1,ae d,aam _,λk hk=>?_,λ_=>rfl,rfl,rfl⟩
   .have i0:ar (sd (mv p j)) (.int 0) c'=ae (.int (mv p j).1,c'):=rfl
    have i1:ar (sd (mv p j)) (.int 1) c'=ae (.int (mv p j).2.1,c'):=rfl;have i2:ar (sd (mv p j)) (.int 2) c'=ae (.int (mv p j).2.2,c'):=rfl;erw[Rm h,decide_eq_true hj,i0,i1,i2,e1]
   .rcases ac2 (adp hk)with hk|rfl
    .exact h2 k hk
    .exact hj
  .refine⟨_,c',[ae (sd (mv p j)),ae (.ref m),ae d],c',rfl,?_,j,ae d,by omega,h2,λz=>absurd z hj,rfl,rfl⟩
   erw[Rm h,decide_eq_false hj]) ⟨0,af,aam _,λ_ hk=>by omega,λ_=>rfl,by rw[Ew],rfl⟩
 obtain⟨σ',c',e,j,x,h1,h2,h3,rfl,rfl⟩:=MP;rw[show(cN 0 (l.length+1)).length=l.length+1 by simp[cN],acC]at h1 h3;refine⟨mv p j,?_,UD hp (by omega),λhj=>?_⟩
 .have e0:cA (bF (ag (e2 bK (eB bu (ag (eV 1) ak)) (eC (.int 1))) ak)) (ay 2) (bZ (tV (e2 o7 (eV 0) (eV 1)))
   (aB 0 (au bC [] (ag (e2 bK (e2 ar (eV 0) (eC (.int 0))) (e2 ar (eV 0) (eC (.int 2)))) (ag (e2 ar (eV 0) (eC (.int 1))) (ag (e2 ar (eV 0) (eC (.int 2))) ak)))))
   aT) [ae (sd p),ae (.ref m),af] c'=ae (.nx,[ae (sd (mv p j)),ae (.ref m),x],c'):=by
   unfold cA;rw[hr,aag];exact e
  erw[iu,jr,e0]
 .have:=h3 hj
  obtain⟨i,hi,hn⟩:=My.away l (mv p) (λi k=>Qj hp.low);exact hn (h2 i (by omega))
theorem UE(x y w:Int):sp x y w=sd (x,y,w):=rfl
theorem UG(h1: -7<=x)(h2:x<=7):My.Bd 3 x:=⟨by
 have:x.natAbs<8:=by omega
 exact this⟩
theorem AU{ka kb:Nat}(ha:Ok ka a)(hb:Ok kb b)(h1:ka<=200)(h2:kb<=200)(h:fD n c):∃q c',eg [.ref n,sd a,sd b] c=ae (sd q,c')/\Ok (ka+kb+4) q/\fD n c'/\Kp n c c':=by
 obtain⟨n',c1,f1,l1,u1,p1,k1⟩:=er h (m:=7) (by decide) (by walk_at "bdm");obtain⟨d',c2,f2,l2,u2,p2,k2⟩:=er p1 (m:=5) (by decide) (by walk_at "bdm");have w0: 0<a.2.2*b.2.2*(1+d'):=abc (abc ha.pos hb.pos) (by omega);have t1:My.Bd 3 (n' - 1):=UG (by omega) (by omega);have t2:My.Bd 3 (1+d'):=UG (by omega) (by omega);have t3:My.Bd 3 (1+d' - (n' - 1)):=UG (by omega) (by omega);have m1:=ha.bx.mul hb.bw;have m2:=hb.bx.mul ha.bw;have m3:=ha.hV.mul hb.bw;have m4:=hb.hV.mul ha.bw;have m5:=ha.bw.mul hb.bw;have bx:My.Bd (ka+kb+4) (a.1*b.2.2*(1+d' - (n' - 1))+b.1*a.2.2*(n' - 1)):=(My.Bd.add (m1.mul t3) (m2.mul t1)).mono (by omega);have by':My.Bd (ka+kb+4) (a.2.1*b.2.2*(1+d' - (n' - 1))+b.2.1*a.2.2*(n' - 1)):=(My.Bd.add (m3.mul t3) (m4.mul t1)).mono (by omega);have bw:My.Bd (ka+kb+4) (a.2.2*b.2.2*(1+d')):=(m5.mul t2).mono (by omega);have lo:=pW (x:=a.1*b.2.2*(1+d' - (n' - 1))+b.1*a.2.2*(n' - 1)) (y:=a.2.1*b.2.2*(1+d' - (n' - 1))+b.2.1*a.2.2*(n' - 1)) (c:=c2) (show a.2.2*b.2.2*(1+d')≠0 by omega) (bw.mono (by omega));have hs:=Sp.mk' (show a.2.2*b.2.2*(1+d')≠0 by omega) bx by' bw;refine⟨(_,_,_),c2,?_,hs,p2,k1.trans k2⟩;rw[UE]at lo;have ml:∀{y z:Int}{i j:Nat},My.Bd i y->My.Bd j z->i<=500->j<=500->Qm.MulOk y z:=λh1 h2 h3 h4=>pJ (h1.mono (by omega)) (h2.mono (by omega))
 erw[eg,i7,f1,f2,wZ,w6,vw,bU (ml ha.bx hb.bw (by omega) (by omega)),bU (ml hb.bx ha.bw (by omega) (by omega)),bU (ml ha.hV hb.bw (by omega) (by omega)),bU (ml hb.hV ha.bw (by omega) (by omega)),bU (ml ha.bw hb.bw (by omega) (by omega)),bU (ml m1 t3 (by omega) (by omega)),bU (ml m2 t1 (by omega) (by omega)),bU (ml m3 t3 (by omega) (by omega)),bU (ml m4 t1 (by omega) (by omega)),bU (ml m5 t2 (by omega) (by omega)),lo];rfl
def pr(u:My.P2):D:=.tup [.int u.1,.int u.2]
theorem yY(p:My.P2)(c:Cells):ar (pr p) (.int 0) c=ae (.int p.1,c):=rfl
theorem yZ(p:My.P2)(c:Cells):ar (pr p) (.int 1) c=ae (.int p.2,c):=rfl
theorem w8{z:Int}(h1:My.Bd 9000 y)(h2:My.Bd 9000 z):Qm.MulOk y z:=pJ (h1.mono (by decide)) (h2.mono (by decide))
theorem Cp(u v:My.P2):Qm.c_ [u.1,u.2] [v.1,v.2]=My.qM u v:=by
 unfold My.qM;simp only[Qm.c_]
variable{u v:My.P2}
theorem Qk:tX [pr u,pr v] c=ae (pr (if My.qM v u=true then v else u),c):=by
 have e:tX [pr u,pr v] c=ae (if Qm.c_ [v.1,v.2] [u.1,u.2]=true then pr v else pr u,c):=rfl;rw[e,Cp];split<;>rfl
theorem Ql:tY [pr u,pr v] c=ae (pr (if My.qM u v=true then v else u),c):=by
 have e:tY [pr u,pr v] c=ae (if Qm.c_ [u.1,u.2] [v.1,v.2]=true then pr v else pr u,c):=rfl;rw[e,Cp];split<;>rfl
theorem Qn:DI (pr u) (pr v) c=ae (.bl (My.qM u v),c):=by
 have e:DI (pr u) (pr v) c=ae (.bl (Qm.c_ [u.1,u.2] [v.1,v.2]),c):=rfl;rw[e,Cp]
theorem y8{m:Nat}(h:c[m]? =ae (.lst [pr u,pr v])):iH [.ref m] c=ae (.ref c.length,c++[.lst [pr (My.gB u v).1,pr (My.gB u v).2]]):=by
 have s:=aU h;have e:iH [.ref m] c=(cq (.ref m) c).bind λzs=>(BP zs).bind λq=>ae (.ref c.length,c++[.lst (if Qm.c_ q.2.2.1 q.2.2.2=true then [.tup q.2.1,.tup q.1] else [.tup q.1,.tup q.2.1])]):=rfl
 have e2:BP [pr u,pr v]=ae ([.int u.1,.int u.2],[.int v.1,.int v.2],[u.1,u.2],[v.1,v.2]):=by
  show(if [u.1,u.2]≠[]/\[v.1,v.2]≠[] then ae _ else af)=_;rw[if_pos ⟨nofun,nofun⟩]
 rw[e,s,aag,e2,aag];dsimp only
 rw[Cp];unfold My.gB;split<;>rfl
theorem UH:eJ (pr u) (pr v) c=ae (.bl (decide (u=v)),c):=by
 have e:nN (pr u) (pr v) c=ae (@decide (aiQ [.int u.1,.int u.2]=aiQ [.int v.1,.int v.2]) (ady _)):=rfl;unfold eJ;rw[e,aag]
 congr 3
 rw[aa1];simp only[decide_eq_true_eq,PyData.tuple.injEq,adO,PyData.int.injEq,and_true];exact⟨λz=>aia z.1 z.2,λz=>by rw[z];exact⟨rfl,rfl⟩⟩
theorem y9(h1:My.Bd 9000 u.1)(h2:My.Bd 9000 u.2)(h3:My.Bd 9000 v.1)(h4:My.Bd 9000 v.2):cB [pr u,pr v] c=ae (.int (My.mR u v),c):=by
 unfold My.mR;erw[cB,js,yY,yZ,bU (w8 h1 h4),bU (w8 h2 h3)]
theorem nv(hw:w≠0)(hb:My.Bd 8900 w):bC [.int x,.int y,.int w] c=ae (sd (My.spT x y w),c):=pW hw hb
theorem MR(hw:w≠0)(hb:My.Bd 8900 w):gF [.int x,.int y,.int w] c=ae (cD (.fA (My.spT x y w)),c):=by
 have l:=nv (x:=x) (y:=y) (c:=c) hw hb;erw[gF,lP,l];rfl
theorem Jl{m:Nat}{l r:My.P2×My.P2}{W:Int}(hm:c[m]? =ae (.lst [pr l.1,pr l.2]))(hn:c[n]? =ae (.lst [pr r.1,pr r.2]))(hw:W≠0)(hb:My.Bd 8900 W):eU [.ref m,.ref n,.int W] c=ae (cD (My.Aq l r W),c):=by
 have a0:=He hm;have a1:=Hf hm;have b0:=He hn;have b1:=Hf hn;unfold My.Aq;dsimp only
 have x1:=Qk (u:=l.1) (v:=r.1) (c:=c);have x2:=Ql (u:=l.2) (v:=r.2) (c:=c);generalize (if My.qM r.1 l.1=true then r.1 else l.1)=lo at*;generalize (if My.qM l.2 r.2=true then r.2 else l.2)=hi at*;have x3:=Qn (u:=lo) (v:=hi) (c:=c);have x4:=UH (u:=lo) (v:=hi) (c:=c);have y1:=nv (x:=lo.1) (y:=lo.2) (c:=c) hw hb;have y2:=nv (x:=hi.1) (y:=hi.2) (c:=c) hw hb;have y3:=MR (x:=lo.1) (y:=lo.2) (c:=c) hw hb;cases g:My.qM lo hi
 .rw[g]at x3
  by_cases k:lo=hi
  .rw[decide_eq_true k]at x4
   rw[if_pos k];erw[eU,f_,a0,a1,b0,b1,x1,x2,x3,x4,yY,yZ,y3]
  .rw[decide_eq_false k]at x4
   rw[if_neg k];erw[eU,f_,a0,a1,b0,b1,x1,x2,x3,x4,yY,yZ,y1,y2];rfl
 .rw[g]at x3
  erw[eU,f_,a0,a1,b0,b1,x1,x2,x3];rfl
theorem Hq{W:Int}(hW: 0<W)(hw: 0<w)(hb:My.Bd k W):My.Bd k (W / w):=by
 refine My.Bd.of_le hb ?_;have h1:=agN (aa8 hW) (aa8 hw);have h2:=Int.ediv_le_self w (aa8 hW);omega
noncomputable abbrev hR:XS:=(bZ (jT (tV (e2 eJ (eV 10) (eC (.int 0)))) (tV (e2 eJ (eV 12) (eC (.int 0))))) (aK (au eU [] (ag (eB iH (ag (eI (ag (eV 3) (ag (eV 4) ak))) ak)) (ag (eB iH (ag (eI (ag (eV 5) (ag (eV 6) ak))) ak)) (ag (eV 2) ak))))) aT)
noncomputable abbrev hN:XS:=(bZ (tV (e2 sj (eV 10) (eC (.int 0)))) (oA [10,11,12] (ag (e2 bG (eC (.int 0)) (eV 10)) (ag (e2 bG (eC (.int 0)) (eV 11)) (ag (e2 bG (eC (.int 0)) (eV 12)) ak)))) aT)
noncomputable abbrev hC:XS:=(bZ (gc (tV (e2 eJ (eV 10) (eC (.int 0)))) (gc (eG (tV (nM zL zL (eC (.int 0)) (eV 11) (eV 10)))) (eG (tV (nM zL zL (eC (.int 0)) (eV 12) (eV 10)))))) (aK (eC .aX)) aT)
noncomputable abbrev Xo:XE:=(dh (kh (e2 bK (eV 0) (eV 1))) [af,ae 2] (ay 0) eX (cH (ag (e2 aH (e2 ar (eV 0) (eC (.int 0))) (e2 ed (eV 1) (e2 ar (eV 0) (eC (.int 2))))) (ag (e2 aH (e2 ar (eV 0) (eC (.int 1))) (e2 ed (eV 1) (e2 ar (eV 0) (eC (.int 2))))) ak))))
noncomputable abbrev UI:XS:=(aw (aB 2 (e2 aH (e2 aH (e2 aH (e2 ar (e2 ar (eV 0) (eC (.int 0))) (eC (.int 2))) (e2 ar (e2 ar (eV 0) (eC (.int 1))) (eC (.int 2)))) (e2 ar (e2 ar (eV 1) (eC (.int 0))) (eC (.int 2)))) (e2 ar (e2 ar (eV 1) (eC (.int 1))) (eC (.int 2)))))
 (aw (mI Xo (GO 4 (bA (ay 3) (bA (ay 4) (bA (ay 5) (bA (ay 6) fP))))))
 (aw (aB 7 (cH (ag (e2 bG (e2 ar (eV 4) (eC (.int 0))) (e2 ar (eV 3) (eC (.int 0)))) (ag (e2 bG (e2 ar (eV 4) (eC (.int 1))) (e2 ar (eV 3) (eC (.int 1)))) ak))))
 (aw (aB 8 (cH (ag (e2 bG (e2 ar (eV 6) (eC (.int 0))) (e2 ar (eV 5) (eC (.int 0)))) (ag (e2 bG (e2 ar (eV 6) (eC (.int 1))) (e2 ar (eV 5) (eC (.int 1)))) ak))))
 (aw (aB 9 (cH (ag (e2 bG (e2 ar (eV 5) (eC (.int 0))) (e2 ar (eV 3) (eC (.int 0)))) (ag (e2 bG (e2 ar (eV 5) (eC (.int 1))) (e2 ar (eV 3) (eC (.int 1)))) ak))))
 (aw (aB 10 (au cB [] (ag (eV 7) (ag (eV 8) ak))))
 (aw (aB 11 (au cB [] (ag (eV 9) (ag (eV 8) ak))))
 (aw (aB 12 (au cB [] (ag (eV 9) (ag (eV 7) ak))))
 (aw hR
 (aw hN
 (aw hC
 (aK (au gF [] (ag (e2 bK (e2 aH (e2 ar (eV 3) (eC (.int 0))) (eV 10)) (e2 aH (e2 ar (eV 7) (eC (.int 0))) (eV 11))) (ag (e2 bK (e2 aH (e2 ar (eV 3) (eC (.int 1))) (eV 10)) (e2 aH (e2 ar (eV 7) (eC (.int 1))) (eV 11))) (ag (e2 aH (eV 2) (eV 10)) ak))))))))))))))))
theorem MS:jt=UI:=rfl
variable{σ1:Qm.Env}
theorem aZ{a b:XS}{r:Option (Fl×Qm.Env×Cells)}(h1:a σ c=ae (.nx,σ1,c1))(h2:b σ1 c1=r):aw a b σ c=r:=by
 rw[B_,h1,aag];exact h2
theorem Ey{a b:XS}{d:D}(h1:a σ c=ae (.rt d,σ1,c1)):aw a b σ c=ae (.rt d,σ1,c1):=by
 rw[B_,h1];rfl
theorem MT{x:D}:ic (.tup (x::xs)) (ae 1) af c=ae (.tup xs,c):=by
 have e:ic (.tup (x::xs)) (ae 1) af c=ae (.tup (Qm.cutD (x::xs) (ae 1) af),c):=rfl;rw[e]
 congr 3
 unfold Qm.cutD Qm.Dq;simp
theorem gW{lo:Int}{d:D}(h:(cN lo n)[i]? =ae d):i<n/\d= .int (lo+i):=by
 unfold cN at h;rw[aaq]at h
 by_cases hi:i<n
 .rw[afn hi]at h;cases h;exact⟨hi,rfl⟩
 .rw[ad5.mpr (by simpa using ae1 hi)]at h;cases h
theorem y_(ha:Ok 260 a)(hb:Ok 260 b)(hp:Ok 260 p)(hq:Ok 260 q):∃c',ba [side a b,side p q] c=ae (cD (My.share a b p q),c')/\c <+:c':=by
 have pa:=ha.pos;have pb:=hb.pos;have pp:=hp.pos;have pq:=hq.pos;have w1:=ha.bw.mul hb.bw;have w2:=w1.mul hp.bw;have w3:=w2.mul hq.bw;have hW: 0<My.wN a b p q:=abc (abc (abc pa pb) pp) pq;have bW:My.Bd 1040 (My.wN a b p q):=w3.mono (by decide);have MU:∀{x:T3},Ok 260 x->My.Bd 1300 (My.cI (My.wN a b p q) x).1/\My.Bd 1300 (My.cI (My.wN a b p q) x).2:=λ{x} h=>by
  have d:=Hq hW h.pos bW;unfold My.cI My.sc;exact⟨(h.bx.mul d).mono (by decide),(h.hV.mul d).mono (by decide)⟩
 obtain⟨A1,A2⟩:=MU ha;obtain⟨B1,B2⟩:=MU hb;obtain⟨C1,C2⟩:=MU hp;obtain⟨D1,D2⟩:=MU hq;have Xp:bK (side a b) (side p q) c=ae (.tup [sd a,sd b,sd p,sd q],c):=by
  have:bK (side a b) (side p q) c=(if [sd a,sd b]≠[]/\[sd a,sd b].length+ [sd p,sd q].length<=cC then ae (.tup ([sd a,sd b]++[sd p,sd q]),c)else af):=rfl;rw[this,if_pos ⟨nofun,ik (by simp)⟩];rfl
 have hi:kh (e2 bK (eV 0) (eV 1)) [ae (side a b),ae (side p q),ae (.int (My.wN a b p q)),af,af,af,af,af,af,af,af,af,af] c=ae (⟨[sd a,sd b,sd p,sd q],[]⟩,c):=by
  unfold kh;erw[Xp]
 have item:∀{x:T3},Ok 260 x->∀c',cH (ag (e2 aH (e2 ar (eV 0) (eC (.int 0))) (e2 ed (eV 1) (e2 ar (eV 0) (eC (.int 2))))) (ag (e2 aH (e2 ar (eV 0) (eC (.int 1))) (e2 ed (eV 1) (e2 ar (eV 0) (eC (.int 2))))) ak)) [ae (sd x),ae (.int (My.wN a b p q))] c'=ae (pr (My.cI (My.wN a b p q) x),c'):=λ{x} h c'=>by
  have d:=Hq hW h.pos bW;erw[wZ,w6,vw,ud h.pos (h.bw.mono (k:=8900) (by decide)),bU (w8 (h.bx.mono (by decide)) (d.mono (by decide))),bU (w8 (h.hV.mono (by decide)) (d.mono (by decide)))];rfl
 obtain⟨c1,f1,q1,g1⟩:=Mt (te:=cH (ag (e2 aH (e2 ar (eV 0) (eC (.int 0))) (e2 ed (eV 1) (e2 ar (eV 0) (eC (.int 2))))) (ag (e2 aH (e2 ar (eV 0) (eC (.int 1))) (e2 ed (eV 1) (e2 ar (eV 0) (eC (.int 2))))) ak))) (cap:=[af,ae 2]) [pr (My.cI (My.wN a b p q) a),pr (My.cI (My.wN a b p q) b),pr (My.cI (My.wN a b p q) p),pr (My.cI (My.wN a b p q) q)] hi (show o6 [ae (side a b),ae (side p q),ae (.int (My.wN a b p q)),af,af,af,af,af,af,af,af,af,af] [af,ae 2]=af::[ae (.int (My.wN a b p q))] from rfl) rfl (by
  intro i d v g1 g2 c' _
  match i with
  |0=>cases g1;cases g2;exact⟨[],by rw[aa5];exact item ha c'⟩
  |1=>cases g1;cases g2;exact⟨[],by rw[aa5];exact item hb c'⟩
  |2=>cases g1;cases g2;exact⟨[],by rw[aa5];exact item hp c'⟩
  |3=>cases g1;cases g2;exact⟨[],by rw[aa5];exact item hq c'⟩
  |n+4=>simp at g1) (by simp)
 clear item hi Xp MU;unfold My.share;have UJ:My.gv a b p q=My.mR (My.aW (My.cI (My.wN a b p q) b) (My.cI (My.wN a b p q) a)) (My.aW (My.cI (My.wN a b p q) q) (My.cI (My.wN a b p q) p)):=rfl;have UK:My.yF a b p q=My.mR (My.aW (My.cI (My.wN a b p q) p) (My.cI (My.wN a b p q) a)) (My.aW (My.cI (My.wN a b p q) q) (My.cI (My.wN a b p q) p)):=rfl;have UL:My.wY a b p q=My.mR (My.aW (My.cI (My.wN a b p q) p) (My.cI (My.wN a b p q) a)) (My.aW (My.cI (My.wN a b p q) b) (My.cI (My.wN a b p q) a)):=rfl;have f0:(aB 2 (e2 aH (e2 aH (e2 aH (e2 ar (e2 ar (eV 0) (eC (.int 0))) (eC (.int 2))) (e2 ar (e2 ar (eV 0) (eC (.int 1))) (eC (.int 2)))) (e2 ar (e2 ar (eV 1) (eC (.int 0))) (eC (.int 2)))) (e2 ar (e2 ar (eV 1) (eC (.int 1))) (eC (.int 2))))) [ae (side a b),ae (side p q),af,af,af,af,af,af,af,af,af,af,af] c=ae (.nx,[ae (side a b),ae (side p q),ae (.int (My.wN a b p q)),af,af,af,af,af,af,af,af,af,af],c):=by
  unfold My.wN;erw[pN,pO,vw,bU (w8 (ha.bw.mono (by decide)) (hb.bw.mono (by decide))),bU (w8 (w1.mono (by decide)) (hp.bw.mono (by decide))),bU (w8 (w2.mono (by decide)) (hq.bw.mono (by decide)))]
 generalize My.gv a b p q=wh at*;generalize My.yF a b p q=mi at*;generalize My.wY a b p q=th at*;generalize My.cI (My.wN a b p q) a=A at*;generalize My.cI (My.wN a b p q) b=B at*;generalize My.cI (My.wN a b p q) p=C at*;generalize My.cI (My.wN a b p q) q=DD at*;generalize My.wN a b p q=W at*;have sb:∀{x y:Int},My.Bd 1300 x->My.Bd 1300 y->My.Bd 1301 (x - y):=λh1 h2=>(My.Bd.sub h1 h2).mono (by decide)
 have u1:=sb B1 A1;have u2:=sb B2 A2;have v1:=sb D1 C1;have v2:=sb D2 C2;have z1:=sb C1 A1;have z2:=sb C2 A2;have cb:∀{x y z w:Int},My.Bd 1301 x->My.Bd 1301 y->My.Bd 1301 z->My.Bd 1301 w->My.Bd 2604 (x*y - z*w):=λh1 h2 h3 h4=>(My.Bd.sub (h1.mul h2) (h3.mul h4)).mono (by decide)
 have bwh:My.Bd 2604 wh:=by rw[UJ];exact cb u1 v2 u2 v1
 have bmi:My.Bd 2604 mi:=by rw[UK];exact cb z1 v2 z2 v1
 have bth:My.Bd 2604 th:=by rw[UL];exact cb z1 u2 z2 u1
 have m9:∀{x:Int},My.Bd 1301 x->My.Bd 9000 x:=λh=>h.mono (by decide)
 have k5:∀c',cB [pr (My.aW B A),pr (My.aW DD C)] c'=ae (.int wh,c'):=λc'=>by rw[UJ];exact y9 (m9 u1) (m9 u2) (m9 v1) (m9 v2)
 have k6:∀c',cB [pr (My.aW C A),pr (My.aW DD C)] c'=ae (.int mi,c'):=λc'=>by rw[UK];exact y9 (m9 z1) (m9 z2) (m9 v1) (m9 v2)
 have k7:∀c',cB [pr (My.aW C A),pr (My.aW B A)] c'=ae (.int th,c'):=λc'=>by rw[UL];exact y9 (m9 z1) (m9 z2) (m9 u1) (m9 u2)
 have su:∀(x y:My.P2),(D.tup [.int (x.1 - y.1),.int (x.2 - y.2)])=pr (My.aW x y):=λ_ _=>rfl
 have bu1:My.Bd 1301 (My.aW B A).1:=u1;have bu2:My.Bd 1301 (My.aW B A).2:=u2;clear UJ UK UL
 -- xN last
 have key:∀(R:Option (Fl×Qm.Env×Cells)),(aw hR (aw hN (aw hC (aK (au gF [] (ag (e2 bK (e2 aH (e2 ar (eV 3) (eC (.int 0))) (eV 10)) (e2 aH (e2 ar (eV 7) (eC (.int 0))) (eV 11))) (ag (e2 bK (e2 aH (e2 ar (eV 3) (eC (.int 1))) (eV 10)) (e2 aH (e2 ar (eV 7) (eC (.int 1))) (eV 11))) (ag (e2 aH (eV 2) (eV 10)) ak)))))))) [ae (side a b),ae (side p q),ae (.int W),ae (pr A),ae (pr B),ae (pr C),ae (pr DD),ae (pr (My.aW B A)),ae (pr (My.aW DD C)),ae (pr (My.aW C A)),ae (.int wh),ae (.int mi),ae (.int th)] c1=R->ba [side a b,side p q] c=R.bind fin:=by
  intro R hRR;rw[ba,gp,MS];have run:UI [ae (side a b),ae (side p q),af,af,af,af,af,af,af,af,af,af,af] c=R:=by
   refine aZ f0 ?_;refine aZ (σ1:=[ae (side a b),ae (side p q),ae (.int W),ae (pr A),ae (pr B),ae (pr C),ae (pr DD),af,af,af,af,af,af]) (c1:=c1) ?_ ?_
   .have cell:=aY g1
    generalize hK:Xo=KK at*;have Uw:KK [ae (side a b),ae (side p q),ae (.int W),af,af,af,af,af,af,af,af,af,af] c=ae (.ref c.length,c1):=by rw[<-hK];exact f1
    unfold GO;erw[Uw,cell]
   refine aZ (σ1:=[ae (side a b),ae (side p q),ae (.int W),ae (pr A),ae (pr B),ae (pr C),ae (pr DD),ae (pr (My.aW B A)),af,af,af,af,af]) (c1:=c1) (by erw[yY,yZ,su]) ?_;refine aZ (σ1:=[ae (side a b),ae (side p q),ae (.int W),ae (pr A),ae (pr B),ae (pr C),ae (pr DD),ae (pr (My.aW B A)),ae (pr (My.aW DD C)),af,af,af,af]) (c1:=c1) (by erw[yY,yZ,su]) ?_;refine aZ (σ1:=[ae (side a b),ae (side p q),ae (.int W),ae (pr A),ae (pr B),ae (pr C),ae (pr DD),ae (pr (My.aW B A)),ae (pr (My.aW DD C)),ae (pr (My.aW C A)),af,af,af]) (c1:=c1) (by erw[yY,yZ,su]) ?_;refine aZ (σ1:=[ae (side a b),ae (side p q),ae (.int W),ae (pr A),ae (pr B),ae (pr C),ae (pr DD),ae (pr (My.aW B A)),ae (pr (My.aW DD C)),ae (pr (My.aW C A)),ae (.int wh),af,af]) (c1:=c1) (by erw[k5]) ?_;refine aZ (σ1:=[ae (side a b),ae (side p q),ae (.int W),ae (pr A),ae (pr B),ae (pr C),ae (pr DD),ae (pr (My.aW B A)),ae (pr (My.aW DD C)),ae (pr (My.aW C A)),ae (.int wh),ae (.int mi),af]) (c1:=c1) (by erw[k6]) ?_;refine aZ (σ1:=[ae (side a b),ae (side p q),ae (.int W),ae (pr A),ae (pr B),ae (pr C),ae (pr DD),ae (pr (My.aW B A)),ae (pr (My.aW DD C)),ae (pr (My.aW C A)),ae (.int wh),ae (.int mi),ae (.int th)]) (c1:=c1) (by erw[k7]) ?_;exact hRR
  generalize hT:UI=TT at run;erw[run]
 by_cases g:wh=0/\th=0
 .rw[if_pos g]
  have n1:(c1++[Cell.lst [pr A,pr B]])[c1.length]? =ae (.lst [pr A,pr B]):=ab2;have s1:=y8 n1;generalize J_:c1++[Cell.lst [pr A,pr B]]++[Cell.lst [pr (My.gB A B).1,pr (My.gB A B).2]]=c2 at s1;have n2:(c2++[Cell.lst [pr C,pr DD]])[c2.length]? =ae (.lst [pr C,pr DD]):=ab2;have s2:=y8 n2;have m1:c2[(c1++[Cell.lst [pr A,pr B]]).length]? =ae (.lst [pr (My.gB A B).1,pr (My.gB A B).2]):=by rw[<-J_];exact ab2
  generalize Qe:c2++[Cell.lst [pr C,pr DD]]++[Cell.lst [pr (My.gB C DD).1,pr (My.gB C DD).2]]=c4 at s2;have m2:c4[(c2++[Cell.lst [pr C,pr DD]]).length]? =ae (.lst [pr (My.gB C DD).1,pr (My.gB C DD).2]):=by rw[<-Qe];exact ab2
  have m1':c4[(c1++[Cell.lst [pr A,pr B]]).length]? =ae (.lst [pr (My.gB A B).1,pr (My.gB A B).2]):=aA ⟨[Cell.lst [pr C,pr DD],Cell.lst [pr (My.gB C DD).1,pr (My.gB C DD).2]],by rw[<-Qe];simp⟩ m1;have ir:=Jl m1' m2 (show W≠0 by omega) (bW.mono (by decide));refine⟨c4,?_,q1.trans ⟨[Cell.lst [pr A,pr B],Cell.lst [pr (My.gB A B).1,pr (My.gB A B).2],Cell.lst [pr C,pr DD],Cell.lst [pr (My.gB C DD).1,pr (My.gB C DD).2]],by rw[<-Qe,<-J_];simp⟩⟩;refine(key _ (Ey (d:=cD (My.Aq (My.gB A B) (My.gB C DD) W)) (σ1:=[ae (side a b),ae (side p q),ae (.int W),ae (pr A),ae (pr B),ae (pr C),ae (pr DD),ae (pr (My.aW B A)),ae (pr (My.aW DD C)),ae (pr (My.aW C A)),ae (.int wh),ae (.int mi),ae (.int th)]) (c1:=c4) ?_)).trans rfl;obtain⟨Ei,UM⟩:=g;erw[hR,Ei,UM,s1,s2,ir]
 .rw[if_neg g]
  have t1:hR [ae (side a b),ae (side p q),ae (.int W),ae (pr A),ae (pr B),ae (pr C),ae (pr DD),ae (pr (My.aW B A)),ae (pr (My.aW DD C)),ae (pr (My.aW C A)),ae (.int wh),ae (.int mi),ae (.int th)] c1=ae (.nx,[ae (side a b),ae (side p q),ae (.int W),ae (pr A),ae (pr B),ae (pr C),ae (pr DD),ae (pr (My.aW B A)),ae (pr (My.aW DD C)),ae (pr (My.aW C A)),ae (.int wh),ae (.int mi),ae (.int th)],c1):=by
   by_cases Ei:wh=0
   .have UM:¬th=0:=λz=>g ⟨Ei,z⟩
    erw[hR,Ei,UM]
   .erw[hR,Ei]
  have t2:hN [ae (side a b),ae (side p q),ae (.int W),ae (pr A),ae (pr B),ae (pr C),ae (pr DD),ae (pr (My.aW B A)),ae (pr (My.aW DD C)),ae (pr (My.aW C A)),ae (.int wh),ae (.int mi),ae (.int th)] c1=ae (.nx,[ae (side a b),ae (side p q),ae (.int W),ae (pr A),ae (pr B),ae (pr C),ae (pr DD),ae (pr (My.aW B A)),ae (pr (My.aW DD C)),ae (pr (My.aW C A)),ae (.int (My.ij wh wh)),ae (.int (My.ij wh mi)),ae (.int (My.ij wh th))],c1):=by
   unfold My.ij
   by_cases k:wh<0
   .rw[if_pos k,if_pos k,if_pos k];erw[hN,k]
   .rw[if_neg k,if_neg k,if_neg k];erw[hN,k]
  have Xq:∀{x:Int},My.Bd 2604 x->My.Bd 2605 (My.ij wh x):=λ{x} h=>by
   unfold My.ij;split
   .exact(My.Bd.sub (D_ (i:=0) (by decide)) h).mono (by decide)
   .exact h.mono (by decide)
  have e1:=Xq bwh;have Dl:=Xq bmi;have nz:My.ij wh wh=0↔wh=0:=by unfold My.ij;split<;>omega
  generalize My.ij wh wh=Wh at*;generalize My.ij wh mi=Mi at*;generalize My.ij wh th=Th at*
  by_cases k:Wh=0\/¬(0<=Mi/\Mi<=Wh)\/¬(0<=Th/\Th<=Wh)
  .rw[if_pos k]
   refine⟨c1,(key _ (aZ t1 (aZ t2 (Ey (d:=.aX) (σ1:=[ae (side a b),ae (side p q),ae (.int W),ae (pr A),ae (pr B),ae (pr C),ae (pr DD),ae (pr (My.aW B A)),ae (pr (My.aW DD C)),ae (pr (My.aW C A)),ae (.int Wh),ae (.int Mi),ae (.int Th)]) (c1:=c1) ?_)))).trans rfl,q1⟩
   by_cases k1:Wh=0
   .erw[hC,k1]
   .by_cases k2: 0<=Mi
    .by_cases k3:Mi<=Wh
     .by_cases k4: 0<=Th
      .by_cases MV:Th<=Wh
       .exact absurd k (by omega)
       .erw[hC,k1,k2,k3,k4,MV]
      .erw[hC,k1,k2,k3,k4]
     .erw[hC,k1,k2,k3]
    .erw[hC,k1,k2]
  .rw[if_neg k]
   have k1:¬Wh=0:=λz=>k (.inl z)
   have k2: 0<=Mi:=by omega
   have k3:Mi<=Wh:=by omega
   have k4: 0<=Th:=by omega
   have MV:Th<=Wh:=by omega
   have wz:W*Wh≠0:=afm (by omega) k1;have bz:My.Bd 8900 (W*Wh):=(bW.mul e1).mono (by decide);have lo:=MR (x:=A.1*Wh+(My.aW B A).1*Mi) (y:=A.2*Wh+(My.aW B A).2*Mi) (c:=c1) wz bz;refine⟨c1,(key _ (aZ t1 (aZ t2 (aZ (σ1:=[ae (side a b),ae (side p q),ae (.int W),ae (pr A),ae (pr B),ae (pr C),ae (pr DD),ae (pr (My.aW B A)),ae (pr (My.aW DD C)),ae (pr (My.aW C A)),ae (.int Wh),ae (.int Mi),ae (.int Th)]) (c1:=c1) ?_ ?_)))).trans (b:=(ae (Fl.rt (cD (.fA (My.spT (A.1*Wh+(My.aW B A).1*Mi) (A.2*Wh+(My.aW B A).2*Mi) (W*Wh)))),[ae (side a b),ae (side p q),ae (.int W),ae (pr A),ae (pr B),ae (pr C),ae (pr DD),ae (pr (My.aW B A)),ae (pr (My.aW DD C)),ae (pr (My.aW C A)),ae (.int Wh),ae (.int Mi),ae (.int Th)],c1)).bind fin) rfl,q1⟩
   .erw[hC,k1,k2,k3,k4,MV]
   .erw[yY,yZ,bU (w8 (A1.mono (by decide)) (e1.mono (by decide))),bU (w8 (A2.mono (by decide)) (e1.mono (by decide))),bU (w8 (bu1.mono (by decide)) (Dl.mono (by decide))),bU (w8 (bu2.mono (by decide)) (Dl.mono (by decide))),bU (w8 (bW.mono (by decide)) (e1.mono (by decide))),lo]
theorem Cq(hp:Ok 8000 p)(hq:Ok 8000 q):cQ [sd p,sd q] c=ae (.bl (My.aP p q),c):=by
 have a1:=hp.bx;have a2:=hp.hV;have a3:=hp.bw;have b1:=hq.bx;have b2:=hq.hV;have b3:=hq.bw;unfold My.aP My.lj
 by_cases h1:p.1*q.2.2<q.1*p.2.2
 .have e:¬p.1*q.2.2=q.1*p.2.2:=by omega
  rw[if_neg e];erw[cQ,iJ,sd,qD,decide_eq_true h1]
 .by_cases e:p.1*q.2.2=q.1*p.2.2
  .rw[if_pos e]
   erw[cQ,iJ,sd,qD,decide_eq_false h1,decide_eq_true e]
  .rw[if_neg e]
   erw[cQ,iJ,sd,qD,decide_eq_false h1,decide_eq_false e]
def nx(p:T3):T3:=(p.1+p.2.2,p.2.1,p.2.2)
theorem xD(h:My.aS p):My.aS (nx p):=yX h
theorem MW(h:My.aS p):p≠nx p:=λe=>by
 have h0:=h.pos;have:=congrArg aiZ e;simp only[nx]at this;omega
theorem UN(h:My.aS p):My.spT (p.1+p.2.2) p.2.1 p.2.2=nx p:=by
 obtain⟨e1,e2,e3⟩:=My.x9 (xD h);unfold My.spT;rw[show(nx p).1=p.1+p.2.2 from rfl,show(nx p).2.1=p.2.1 from rfl,show(nx p).2.2=p.2.2 from rfl]at e1 e2 e3;rw[e1,e2,e3];rfl
theorem Rn:o7 (sd p) (.tup (l.map sd)) c=ae (.bl (decide (p∈l)),c):=by
 have o:omap (data c 5) (l.map sd)=ae (l.map pd):=ng (λa=>jJ) l;unfold o7 Dp;rw[yG,aag,jJ,aag,o,aag,aag]
 congr 3
 rw[aa1];simp only[decide_eq_true_eq];rw[aaE];constructor
 .rintro⟨q,h1,h2⟩
  rw[<-xA.mp h2];exact h1
 .intro h
  exact⟨p,h,rfl⟩
theorem UO(hs:My.Sd s)(hp:My.aS p):p∈My.cs (My.cV s (p,nx p))↔My.cF p s.1 s.2=true:=by
 have dt:My.Sd (p,nx p):=⟨hp,xD hp,MW hp⟩;constructor
 .intro h
  exact(My.nZ hs dt h).1.2
 .intro h
  have o1:My.On p s:=⟨hp,h⟩;have o2:My.On p (p,nx p):=My.B9 dt (.inl rfl)
  by_cases hc:My.gC s (p,nx p)
  .exact My.B8 hs dt hc o1 o2 (.inr (.inr (.inl rfl)))
  .exact My.j_ hs dt hc o1 o2
theorem UP(hp:Ok 250 p)(hs:jK 260 s)(ne:s.1≠s.2):∃c',dD [sd p,aE s] c=ae (.bl (My.cF p s.1 s.2),c')/\c <+:c':=by
 have l1:=hs.o1.cS;have l2:=hs.o2.cS;have lp:=hp.cS;have onx:Ok 260 (nx p):=⟨xD lp,(My.Bd.add hp.bx hp.bw).mono (by decide),hp.hV.mono (by decide),hp.bw.mono (by decide)⟩;have lo:=nv (x:=p.1+p.2.2) (y:=p.2.1) (w:=p.2.2) (c:=c) (by have:=lp.pos;omega) (hp.bw.mono (by decide));rw[UN lp]at lo;obtain⟨c',e,p1⟩:=y_ (c:=c) hs.o1 hs.o2 (hp.mono (k:=260) (by decide)) onx;rw[My.vj l1 l2 lp (xD lp) ne (MW lp)]at e;have iff:=UO (p:=p) (s:=s) ⟨l1,l2,ne⟩ lp;refine⟨c',?_,p1⟩;unfold My.cV at iff;dsimp only at iff;cases hX:My.cm s.1 s.2 p (nx p)with
 |none=>
  have f:My.cF p s.1 s.2=false:=by
   cases g:My.cF p s.1 s.2 with
   |false=>rfl
   |true=>have:=iff.mpr g;rw[hX]at this;cases this
  rw[hX]at e;have e':ba [aE s,D.tup [sd p,sd (nx p)]] c=ae (.aX,c'):=e;rw[f];erw[dD,ke,wZ,w6,vw,lo,e'];rfl
 |fA z=>
  rw[hX]at e iff;have e':ba [aE s,D.tup [sd p,sd (nx p)]] c=ae (.tup [.str "spot",sd z],c'):=e;have f:decide (p∈[z])=My.cF p s.1 s.2:=by rw[aa1,decide_eq_true_eq];exact iff
  have g:o7 (sd p) (.tup [sd z]) c'=ae (.bl (My.cF p s.1 s.2),c'):=by rw[<-f];exact Rn (l:=[z])
  have ct:ic (.tup [.str "spot",sd z]) (ae 1) af c'=ae (.tup ([z].map sd),c'):=MT;have nn:fy (.tup [.str "spot",sd z]) .aX c'=ae (.bl true,c'):=rfl;erw[dD,ke,wZ,w6,vw,lo,e',nn,uh,ct,g]
 |dW z w=>
  rw[hX]at e iff;have e':ba [aE s,D.tup [sd p,sd (nx p)]] c=ae (.tup [.str "stretch",sd z,sd w],c'):=e;have f:decide (p∈[z,w])=My.cF p s.1 s.2:=by rw[aa1,decide_eq_true_eq];exact iff
  have g:o7 (sd p) (.tup [sd z,sd w]) c'=ae (.bl (My.cF p s.1 s.2),c'):=by rw[<-f];exact Rn (l:=[z,w])
  have ct:ic (.tup [.str "stretch",sd z,sd w]) (ae 1) af c'=ae (.tup ([z,w].map sd),c'):=MT;have nn:fy (.tup [.str "stretch",sd z,sd w]) .aX c'=ae (.bl true,c'):=rfl;erw[dD,ke,wZ,w6,vw,lo,e',nn,uh,ct,g]
structure InK(s:S2):Prop where
 ok:jK 58 s
 ne:s.1≠s.2
theorem MX:vU (.int 10) (.int 14) c=ae (.int 100000000000000,c):=rfl
theorem MY(h:x.natAbs<=100000000000000):My.Bd 47 x:=⟨by
 have:(2:Nat) ^ 47=140737488355328:=by decide
 omega⟩
theorem UQ{i j k:Int}:yg [.int i,.int j,.int k] c=ae (.int (if j > i then(if k > j then k else j)else(if k > i then k else i)),c):=rfl
theorem MZ(h:fD n c)(hp:Ok k p):∃q c',fF [.ref n,sd p] c=ae (sd q,c')/\Ok 47 q/\fD n c'/\Kp n c c':=by
 have hb:yg [.int (if p.1<0 then -p.1 else p.1),.int (if p.2.1<0 then -p.2.1 else p.2.1),.int p.2.2] c=_:=UQ;generalize hM:(if p.2.2 > (if p.2.1<0 then -p.2.1 else p.2.1)then p.2.2 else(if p.2.1<0 then -p.2.1 else p.2.1))=M1 at hb;generalize hN:(if (if p.2.1<0 then -p.2.1 else p.2.1) > (if p.1<0 then -p.1 else p.1)then M1 else(if p.2.2 > (if p.1<0 then -p.1 else p.1)then p.2.2 else(if p.1<0 then -p.1 else p.1)))=M at hb
 by_cases g:(100000000000000:Int)<M
 .obtain⟨x,y,w,c',e,o,p1,k1⟩:=Ga h
  refine⟨(x,y,w),c',?_,(show Ok 31 (x,y,w)from o).mono (by decide),p1,k1⟩;erw[fF,jI,wZ,w6,vw,hb,MX,decide_eq_true g,e];rfl
 .refine⟨p,c,?_,?_,h,Kp.refl n c⟩
  .erw[fF,jI,wZ,w6,vw,hb,MX,decide_eq_false g]
  .have l:=hp.cS
   have w0:=l.pos;refine⟨hp.low,MY ?_,MY ?_,MY ?_⟩<;>omega
noncomputable def uA:XS:=(bZ (tV (e2 oK (eV 4) (eC (.int 0))))
   (aw (mI (e2 ar (eV 1) (au aQ [] (ag (eV 0) (ag (eB bu (ag (eV 1) ak)) ak)))) (gy 2 (bA (ay 5) (bA (ay 6) fP))))
   (aw (aB 7 (au eg [] (ag (eV 0) (ag (eV 5) (ag (eV 6) ak)))))
   (aw (bZ (tV (e2 eJ (eV 4) (eC (.int 1))))
   (aB 2 (eV 7))
   aT)
   (aw (bZ (tV (e2 eJ (eV 4) (eC (.int 2))))
   (oA [2,3] (ag (eV 7) (ag (au eg [] (ag (eV 0) (ag (eV 5) (ag (eV 6) ak)))) ak)))
   aT)
   (aw (bZ (tV (e2 eJ (eV 4) (eC (.int 3))))
   (aB 2 (eV 5))
   aT)
   (aw (bZ (tV (e2 eJ (eV 4) (eC (.int 4))))
   (mI (e2 ar (eI (ag (cH (ag (eV 5) (ag (eV 6) ak))) (ag (cH (ag (eV 6) (ag (eV 5) ak))) ak))) (au aQ [] (ag (eV 0) (ag (eC (.int 2)) ak)))) (gy 2 (bA (ay 2) (bA (ay 3) fP))))
   aT)
   (bZ (tV (e2 eJ (eV 4) (eC (.int 5))))
   (aB 3 (au bC [] (ag (e2 bG (e2 aH (e2 aH (eC (.int 2)) (e2 ar (eV 7) (eC (.int 0)))) (e2 ar (eV 2) (eC (.int 2)))) (e2 aH (e2 ar (eV 2) (eC (.int 0))) (e2 ar (eV 7) (eC (.int 2))))) (ag (e2 bG (e2 aH (e2 aH (eC (.int 2)) (e2 ar (eV 7) (eC (.int 1)))) (e2 ar (eV 2) (eC (.int 2)))) (e2 aH (e2 ar (eV 2) (eC (.int 1))) (e2 ar (eV 7) (eC (.int 2))))) (ag (e2 aH (e2 ar (eV 7) (eC (.int 2))) (e2 ar (eV 2) (eC (.int 2)))) ak)))))
   aT)))))))
   aT)
theorem M0:iK=aw (aB 2 (au df [] (ag (eV 0) ak)))
   (aw (aB 3 (au df [] (ag (eV 0) ak)))
   (aw (aB 4 (e2 aH (au aQ [] (ag (eV 0) (ag (eC (.int 6)) ak))) (eB yd (ag (e2 oK (eB bu (ag (eV 1) ak)) (eC (.int 0))) ak))))
   (aw uA
   (aw (aB 2 (au fF [] (ag (eV 0) (ag (eV 2) ak))))
   (aK (cH (ag (eV 2) (ag (au iu [] (ag (au fF [] (ag (eV 0) (ag (eV 3) ak))) (ag (eI (ag (eV 2) ak)) ak))) ak)))))))):=rfl
variable{kn:Nat}
theorem ixK{d:Int}(h:c[kn]? =ae (.lst (IN.map aE)))(h0: 0<=d)(h1:d<IN.length):∃s∈IN,ar (.ref kn) (.int d) c=ae (aE s,c):=by
 obtain⟨s,hs⟩:∃s,IN[d.toNat]? =ae s:=⟨_,aac (by omega)⟩;refine⟨s,aaf hs,?_⟩;rw[gD,aU h,aag];have:gu (IN.map aE) d=ae (aE s):=by
  unfold gu tM;rw[if_pos h0,if_pos (by simpa using h1)];simp[hs]
 simp[this]
theorem Xr{x y:T3}{k:Int}(h:fD n c)(hk:c[kn]? =ae (.lst (IN.map aE)))(fm:kn≠n)(hI:∀s∈IN,InK s)(hl:IN.length<=1000)(k0: 0<=k)(k5:k<=5)(kI:IN=[]->k=0)(ox:Ok 31 x)(oy:Ok 31 y):
  ∃x' y' z5 z6 z7 c',uA [ae (.ref n),ae (.ref kn),ae (sd x),ae (sd y),ae (.int k),af,af,af] c=ae (.nx,[ae (.ref n),ae (.ref kn),ae (sd x'),ae (sd y'),ae (.int k),z5,z6,z7],c')/\Ok 200 x'/\Ok 200 y'/\fD n c'/\Kp n c c':=by
 by_cases kz:k=0
 .subst kz
  refine⟨x,y,af,af,af,c,?_,ox.mono (by decide),oy.mono (by decide),h,Kp.refl n c⟩;rw[uA];erw[]
 have hlen: 0<IN.length:=by
  cases IN with
  |nil=>exact absurd (kI rfl) kz
  |cons a b=>simp
 have le:=i9 hk;obtain⟨d,c1,f1,d0,d1,p1,k1⟩:=er h (m:=(IN.length:Int)) (by omega) (My.Bd.mono (D_ (by omega)) (by decide));obtain⟨s,hs,ix⟩:=ixK (k1.get hk fm) d0 d1;obtain⟨q,c2,f2,oq,p2,k2⟩:=AU (hI s hs).ok.o1 (hI s hs).ok.o2 (by decide) (by decide) p1;have oq:Ok 120 q:=oq;have oa:=(hI s hs).ok.o1;have ob:=(hI s hs).ok.o2;have un:gy 2 (bA (ay 5) (bA (ay 6) fP)) (aE s) [ae (.ref n),ae (.ref kn),ae (sd x),ae (sd y),ae (.int k),af,af,af] c1=ae ([ae (.ref n),ae (.ref kn),ae (sd x),ae (sd y),ae (.int k),ae (sd s.1),ae (sd s.2),af],c1):=rfl;have kp:decide ((0:Int)<k)=true:=decide_eq_true (by omega);have M3:=k1.trans k2;have UR:k=1\/k=2\/k=3\/k=4\/k=5:=by omega
 rcases UR with rfl|rfl|rfl|rfl|rfl
 .refine⟨q,y,ae (sd s.1),ae (sd s.2),ae (sd q),c2,?_,oq.mono (by decide),oy.mono (by decide),p2,M3⟩
  rw[uA];erw[le,f1,ix,un,f2]
 .obtain⟨q',c3,f3,oq',p3,k3⟩:=AU oa ob (by decide) (by decide) p2
  refine⟨q,q',ae (sd s.1),ae (sd s.2),ae (sd q),c3,?_,oq.mono (by decide),oq'.mono (by decide),p3,M3.trans k3⟩;rw[uA];erw[le,f1,ix,un,f2,f3]
 .refine⟨s.1,y,ae (sd s.1),ae (sd s.2),ae (sd q),c2,?_,oa.mono (by decide),oy.mono (by decide),p2,M3⟩
  rw[uA];erw[le,f1,ix,un,f2]
 .have p2':fD n (c2++[Cell.lst [.tup [sd s.1,sd s.2],.tup [sd s.2,sd s.1]]]):=p2.more
  obtain⟨b,c3,f3,b0,b1,p3,k3⟩:=er p2' (m:=2) (by decide) (My.Bd.mono (D_ (by decide)) (by decide));have g3:c3[c2.length]? =ae (Cell.lst [.tup [sd s.1,sd s.2],.tup [sd s.2,sd s.1]]):=k3.get bh (by have:=p2.lt;omega);have kk:Kp n c c3:=M3.trans (Kp.more.trans k3);rcases(show b=0\/b=1 by omega)with rfl|rfl
  .have US:ar (.ref c2.length) (.int 0) c3=ae (.tup [sd s.1,sd s.2],c3):=by rw[gD,aU g3];rfl
   have UT:gy 2 (bA (ay 2) (bA (ay 3) fP)) (.tup [sd s.1,sd s.2]) [ae (.ref n),ae (.ref kn),ae (sd x),ae (sd y),ae (.int 4),ae (sd s.1),ae (sd s.2),ae (sd q)] c3=ae ([ae (.ref n),ae (.ref kn),ae (sd s.1),ae (sd s.2),ae (.int 4),ae (sd s.1),ae (sd s.2),ae (sd q)],c3):=rfl;refine⟨s.1,s.2,ae (sd s.1),ae (sd s.2),ae (sd q),c3,?_,oa.mono (by decide),ob.mono (by decide),p3,kk⟩;rw[uA];erw[le,f1,ix,un,f2,f3,US,UT]
  .have US:ar (.ref c2.length) (.int 1) c3=ae (.tup [sd s.2,sd s.1],c3):=by rw[gD,aU g3];rfl
   have UT:gy 2 (bA (ay 2) (bA (ay 3) fP)) (.tup [sd s.2,sd s.1]) [ae (.ref n),ae (.ref kn),ae (sd x),ae (sd y),ae (.int 4),ae (sd s.1),ae (sd s.2),ae (sd q)] c3=ae ([ae (.ref n),ae (.ref kn),ae (sd s.2),ae (sd s.1),ae (.int 4),ae (sd s.1),ae (sd s.2),ae (sd q)],c3):=rfl;refine⟨s.2,s.1,ae (sd s.1),ae (sd s.2),ae (sd q),c3,?_,ob.mono (by decide),oa.mono (by decide),p3,kk⟩;rw[uA];erw[le,f1,ix,un,f2,f3,US,UT]
 .have a1:=oq.bx;have a2:=oq.hV;have a3:=oq.bw;have b1:=ox.bx;have b2:=ox.hV;have b3:=ox.bw
  have w0: 0<q.2.2*x.2.2:=abc oq.cS.pos ox.cS.pos;have bw:My.Bd 151 (q.2.2*x.2.2):=a3.mul b3;have lo:=nv (x:=2*q.1*x.2.2 - x.1*q.2.2) (y:=2*q.2.1*x.2.2 - x.2.1*q.2.2) (w:=q.2.2*x.2.2) (c:=c2) (by omega) (bw.mono (by decide));have two:My.Bd 2 2:=⟨by decide⟩;have o':Ok 200 (My.spT (2*q.1*x.2.2 - x.1*q.2.2) (2*q.2.1*x.2.2 - x.2.1*q.2.2) (q.2.2*x.2.2)):=Sp.mk' (by omega) ((My.Bd.sub ((two.mul a1).mul b3) (b1.mul a3)).mono (by decide)) ((My.Bd.sub ((two.mul a2).mul b3) (b2.mul a3)).mono (by decide)) (bw.mono (by decide));refine⟨x,_,ae (sd s.1),ae (sd s.2),ae (sd q),c2,?_,ox.mono (by decide),o',p2,M3⟩;have m1:Qm.MulOk 2 q.1:=mulL (by decide);have m2:Qm.MulOk 2 q.2.1:=mulL (by decide);have m3:Qm.MulOk (2*q.1) x.2.2:=pJ ((two.mul a1).mono (by decide)) (b3.mono (by decide));have m4:Qm.MulOk (2*q.2.1) x.2.2:=pJ ((two.mul a2).mono (by decide)) (b3.mono (by decide));have m5:Qm.MulOk x.1 q.2.2:=pJ (b1.mono (by decide)) (a3.mono (by decide));have m6:Qm.MulOk x.2.1 q.2.2:=pJ (b2.mono (by decide)) (a3.mono (by decide));have m7:Qm.MulOk q.2.2 x.2.2:=pJ (a3.mono (by decide)) (b3.mono (by decide));rw[uA];erw[le,f1,ix,un,f2,wZ,w6,vw,bU m1,bU m2,bU m3,bU m4,bU m5,bU m6,bU m7,lo]
theorem UU(h:fD n c)(hk:c[kn]? =ae (.lst (IN.map aE)))(fm:kn≠n)(hI:∀s∈IN,InK s)(hl:IN.length<=1000):∃s c',iL [.ref n,.ref kn] c=ae (aE s,c')/\InK s/\fD n c'/\Kp n c c':=by
 obtain⟨x0,x1,x2,c1,f1,o1,p1,k1⟩:=Ga h;obtain⟨y0,y1,y2,c2,f2,o2,p2,k2⟩:=Ga p1;obtain⟨d,c3,f3,d0,d1,p3,k3⟩:=er p2 (m:=6) (by decide) (by walk_at "bdm");have Xs:=(k1.trans k2).trans k3;have Qo:=Xs.get hk fm;have le:=i9 Qo;have fin:∀(k:Int),0<=k->k<=5->(IN=[]->k=0)->(e2 aH (au aQ [] (ag (eV 0) (ag (eC (.int 6)) ak))) (eB yd (ag (e2 oK (eB bu (ag (eV 1) ak)) (eC (.int 0))) ak))) [ae (.ref n),ae (.ref kn),ae (sd (x0,x1,x2)),ae (sd (y0,y1,y2)),af,af,af,af] c2=ae (.int k,c3)->∃s c',iL [.ref n,.ref kn] c=ae (aE s,c')/\InK s/\fD n c'/\Kp n c c':=λk k0 k5 kI ek=>by
  obtain⟨x',y',z5,z6,z7,c4,f4,o4,o5,p4,k4⟩:=Xr (x:=(x0,x1,x2)) (y:=(y0,y1,y2)) p3 Qo fm hI hl k0 k5 kI o1 o2;obtain⟨u,c5,f5,ou,p5,MV⟩:=MZ p4 o4;obtain⟨v,c6,f6,ov,p6,k6⟩:=MZ p5 o5;have g7:(c6++[Cell.lst [sd u]])[c6.length]? =ae (.lst ([u].map sd)):=bh;obtain⟨r,f7,or,nr⟩:=MQ (c:=c6++[Cell.lst [sd u]]) (m:=c6.length) (by decide) ov g7 (by simp);refine⟨(u,r),c6++[Cell.lst [sd u]],?_,⟨⟨ou.mono (by decide),or.mono (by decide)⟩,λe=>nr (by have e:u=r:=e;rw[<-e];exact aak.mpr rfl)⟩,p6.more,((((Xs.trans k4).trans MV).trans k6).trans Kp.more)⟩;have e1:df [.ref n] c=ae (sd (x0,x1,x2),c1):=f1;have Dl:df [.ref n] c1=ae (sd (y0,y1,y2),c2):=f2;have big:iK [ae (.ref n),ae (.ref kn),af,af,af,af,af,af] c=ae (.rt (aE (u,r)),[ae (.ref n),ae (.ref kn),ae (sd u),ae (sd y'),ae (.int k),z5,z6,z7],c6++[Cell.lst [sd u]]):=by
   rw[M0];refine aZ (σ1:=[ae (.ref n),ae (.ref kn),ae (sd (x0,x1,x2)),af,af,af,af,af]) (c1:=c1) (by erw[e1]) ?_;refine aZ (σ1:=[ae (.ref n),ae (.ref kn),ae (sd (x0,x1,x2)),ae (sd (y0,y1,y2)),af,af,af,af]) (c1:=c2) (by erw[Dl]) ?_;refine aZ (σ1:=[ae (.ref n),ae (.ref kn),ae (sd (x0,x1,x2)),ae (sd (y0,y1,y2)),ae (.int k),af,af,af]) (c1:=c3) (by unfold aB;rw[ek];rfl) ?_;refine aZ f4 ?_;erw[f5,f6,f7,Ml];rfl
  rw[iL];unfold dQ;rw[if_pos (show [D.ref n,D.ref kn].length=2 from rfl)];show(iK [ae (.ref n),ae (.ref kn),af,af,af,af,af,af] c).bind _=_;rw[big];rfl
 by_cases hz:IN=[]
 .refine fin 0 (by decide) (by decide) (λ_=>rfl) ?_
  have l0:IN.length=0:=by rw[hz];rfl
  rw[l0]at le;have m0:Qm.MulOk d 0:=mulR (by decide);erw[f3,le,bU m0,agJ];simp
 .refine fin d d0 (by omega) (λe=>absurd e hz) ?_
  have l1:decide ((0:Int)<(IN.length:Int))=true:=decide_eq_true (by
   cases IN with
   |nil=>exact absurd rfl hz
   |cons a b=>simp)
  have m1:Qm.MulOk d 1:=mulR (by decide);erw[f3,le,l1,bU m1,Int.mul_one]
theorem Gb{k:XE}{y:T3}(h:c[L]? =ae (cT acc))(ho:o σ c=ae (.ref L,c))(hk:k σ c=ae (sd y,c))(hn:acc.length<9000000):gL o k (eC (.bl true)) σ c=ae (.nx,σ,c.set L (cT (ins acc y))):=by
 have t1:mQ (.ref L) c=ae (L,acc.map λp=>(kP p,D.bl true)):=by
  unfold mQ;simp[h,cT]
 unfold gL;erw[ho,hk,t1,Mw];rw[if_pos (show(acc.map λp=>(kP p,D.bl true)).length<cC by rw[dF,aas];omega),Ej];rfl
def LC(IN:List S2)(k:Nat)(p:T3):Prop:=(∃i s,i<k/\IN[i]? =ae s/\(p=s.1\/p=s.2))\/(∃j i s t,j<i/\i<k/\IN[j]? =ae s/\IN[i]? =ae t/\My.cV s t= .fA p)
noncomputable abbrev UW:XS:=aw (aB 5 (au ba [] (ag (e2 ar (eV 0) (eV 4)) (ag (e2 ar (eV 0) (eV 2)) ak)))) (bZ (jT (tV (e2 fy (eV 5) (eC .aX))) (tV (e2 eJ (e2 ar (eV 5) (eC (.int 0))) (eC (.str "spot"))))) (gL (eV 1) (e2 ar (eV 5) (eC (.int 1))) (eC (.bl true))) aT)
noncomputable abbrev UX:XS:=aw (cA (kh (e2 ar (eV 0) (eV 2))) (ay 3) (gL (eV 1) (eV 3) (eC (.bl true)))) (cA (bF (ag (eV 2) ak)) (ay 4) UW)
theorem oT(h:c[kn]? =ae (.lst (IN.map aE)))(hs:IN[i]? =ae s):ar (.ref kn) (.int (i:Int)) c=ae (aE s,c):=by
 have hi:=(aae.mp hs).1;rw[gD,aU h,aag];have:gu (IN.map aE) (i:Int)=ae (aE s):=by
  unfold gu tM;rw[if_pos (by omega),if_pos (by simpa using hi)];simp[hs]
 simp[this]
theorem Cs:eJ (.str "spot") (.str "spot") c=ae (.bl true,c)/\eJ (.str "stretch") (.str "spot") c=ae (.bl false,c)/\iS (.str "spot") (.str "spot") c=ae (.bl false,c):=by
 have d1:data c 6 (.str "spot")=ae (.str "spot"):=by unfold data;exact if_pos (by decide +kernel)
 have d2:data c 6 (.str "stretch")=ae (.str "stretch"):=by unfold data;exact if_pos (by decide +kernel)
 have a:nN (.str "spot") (.str "spot") c=ae true:=by unfold nN;simp only[d1,aag];simp
 have nq:PyData.str "stretch"≠PyData.str "spot":=λh=>absurd (PyData.str.inj h) (by decide +kernel)
 have b:nN (.str "stretch") (.str "spot") c=ae false:=by unfold nN;simp only[d1,d2,aag,nq,decide_false]
 refine⟨?_,?_,?_⟩<;>first|(unfold eJ;rw[a];rfl)|(unfold eJ;rw[b];rfl)|(unfold iS;rw[a];rfl)
variable{y3:Option D}
theorem c2_{g:Nat}{t:S2}{y4 y5:Option D}(hI:∀s∈IN,InK s)(hL:c[L]? =ae (cT acc))(hg:c[g]? =ae (.lst (IN.map aE)))(fm:g≠L)(ht:IN[k]? =ae t)(hn:acc.length+k<=1000000):
  ∃z4 z5 jL c',cA (bF (ag (eV 2) ak)) (ay 4) UW [ae (.ref g),ae (.ref L),ae (.int (k:Int)),y3,y4,y5] c=ae (.nx,[ae (.ref g),ae (.ref L),ae (.int (k:Int)),y3,z4,z5],c')/\c'[L]? =ae (cT jL)/\Kq [L] c c'/\jL.length<=acc.length+k/\∀p,p∈jL↔p∈acc\/∃j s,j<k/\IN[j]? =ae s/\My.cV s t= .fA p:=by
 have kl:=(aae.mp ht).1;have it:bF (ag (eV 2) ak) [ae (.ref g),ae (.ref L),ae (.int (k:Int)),y3,y4,y5] c=ae (⟨Qm.cN 0 k,[]⟩,c):=gM (a:=ag (eV 2) ak) (c':=c) (j:=(k:Int)) (by erw[]) (by omega);obtain⟨σ',c',e1,z4,z5,jL,rfl,h1,h2,h3,h4⟩:=cg (ks:=[]) (g:=ay 4) (body:=UW)
  (λi σ c'=>∃z4 z5 jL,σ=[ae (.ref g),ae (.ref L),ae (.int (k:Int)),y3,z4,z5]/\c'[L]? =ae (cT jL)/\Kq [L] c c'/\jL.length<=acc.length+i/\∀p,p∈jL↔p∈acc\/∃j s,j<i/\IN[j]? =ae s/\My.cV s t= .fA p)
  (Qm.cN 0 k) 0 [ae (.ref g),ae (.ref L),ae (.int (k:Int)),y3,y4,y5] c (λ_ _ _ _ _ h=>(nomatch h))
  (by
   rintro i d σ c' hd ⟨z4,z5,jL,rfl,h1,h2,h3,h4⟩;rw[acC]at h3 h4 |-
   obtain⟨si,rfl⟩:=gW hd;rw[ab3];obtain⟨s,hs⟩:∃s,IN[i]? =ae s:=⟨_,aac (by omega)⟩;have Qp:=h2 _ _ (by simpa using fm) hg;have x1:=oT Qp hs;have x2:=oT Qp ht;have os:=hI s (aaf hs);have ot:=hI t (aaf ht);obtain⟨c2,f1,f2⟩:=y_ (c:=c') (os.ok.o1.mono (k:=260) (by decide)) (os.ok.o2.mono (k:=260) (by decide)) (ot.ok.o1.mono (k:=260) (by decide)) (ot.ok.o2.mono (k:=260) (by decide));rw[My.vj os.ok.o1.cS os.ok.o2.cS ot.ok.o1.cS ot.ok.o2.cS os.ne ot.ne]at f1;have f1:ba [aE s,aE t] c'=ae (cD (My.cV s t),c2):=f1;have g1:=aA f2 h1;cases hX:My.cV s t with
   |none=>
    rw[hX]at f1;have f1:ba [aE s,aE t] c'=ae (.aX,c2):=f1;have nn:fy .aX .aX c2=ae (.bl false,c2):=rfl;refine⟨[ae (.ref g),ae (.ref L),ae (.int (k:Int)),y3,ae (.int (i:Int)),z5],c',[ae (.ref g),ae (.ref L),ae (.int (k:Int)),y3,ae (.int (i:Int)),ae .aX],c2,rfl,?_,ae (.int (i:Int)),ae .aX,jL,rfl,g1,h2.trans (T:=[L]) (Kq.pre f2) (λx hx=>.inl hx),by omega,λp=>?_⟩
    .erw[x1,x2,f1,nn]
    .rw[h4]
     constructor
     .rintro(h|⟨j,s',hj,r⟩)
      .exact .inl h
      .exact .inr ⟨j,s',by omega,r⟩
     .rintro(h|⟨j,s',hj,r1,r2⟩)
      .exact .inl h
      .rcases ac2 (adp hj)with hj|rfl
       .exact .inr ⟨j,s',hj,r1,r2⟩
       .rw[hs]at r1;cases r1;rw[hX]at r2;cases r2
   |fA z=>
    rw[hX]at f1;have f1:ba [aE s,aE t] c'=ae (.tup [.str "spot",sd z],c2):=f1;have nn:fy (.tup [.str "spot",sd z]) .aX c2=ae (.bl true,c2):=rfl;have i0:ar (.tup [.str "spot",sd z]) (.int 0) c2=ae (.str "spot",c2):=rfl;have pt:=Gb (o:=eV 1) (k:=e2 ar (eV 5) (eC (.int 1))) (σ:=[ae (.ref g),ae (.ref L),ae (.int (k:Int)),y3,ae (.int (i:Int)),ae (.tup [.str "spot",sd z])]) (y:=z) g1 rfl rfl (by omega);have il:=nh (acc:=jL) (p:=z);refine⟨[ae (.ref g),ae (.ref L),ae (.int (k:Int)),y3,ae (.int (i:Int)),z5],c',[ae (.ref g),ae (.ref L),ae (.int (k:Int)),y3,ae (.int (i:Int)),ae (.tup [.str "spot",sd z])],c2.set L (cT (ins jL z)),rfl,?_,ae (.int (i:Int)),ae (.tup [.str "spot",sd z]),ins jL z,rfl,jv (bM g1),?_,by omega,λp=>?_⟩
    .erw[x1,x2,f1,nn,i0,Cs.1,pt]
    .refine(h2.trans (T:=[L]) (Kq.pre f2) (λx hx=>.inl hx)).trans (T:=[L]) (λj z hj e=>cJ e (by simpa using hj)) (λx hx=>.inl hx)
    .rw[uq,h4]
     constructor
     .rintro((h|⟨j,s',hj,r⟩)|rfl)
      .exact .inl h
      .exact .inr ⟨j,s',by omega,r⟩
      .exact .inr ⟨i,s,by omega,hs,hX⟩
     .rintro(h|⟨j,s',hj,r1,r2⟩)
      .exact .inl (.inl h)
      .rcases ac2 (adp hj)with hj|rfl
       .exact .inl (.inr ⟨j,s',hj,r1,r2⟩)
       .rw[hs]at r1;cases r1;rw[hX]at r2;cases r2;exact .inr rfl
   |dW z w=>
    rw[hX]at f1;have f1:ba [aE s,aE t] c'=ae (.tup [.str "stretch",sd z,sd w],c2):=f1;have nn:fy (.tup [.str "stretch",sd z,sd w]) .aX c2=ae (.bl true,c2):=rfl;have i0:ar (.tup [.str "stretch",sd z,sd w]) (.int 0) c2=ae (.str "stretch",c2):=rfl;refine⟨[ae (.ref g),ae (.ref L),ae (.int (k:Int)),y3,ae (.int (i:Int)),z5],c',[ae (.ref g),ae (.ref L),ae (.int (k:Int)),y3,ae (.int (i:Int)),ae (.tup [.str "stretch",sd z,sd w])],c2,rfl,?_,ae (.int (i:Int)),ae (.tup [.str "stretch",sd z,sd w]),jL,rfl,g1,h2.trans (T:=[L]) (Kq.pre f2) (λx hx=>.inl hx),by omega,λp=>?_⟩
    .erw[x1,x2,f1,nn,i0,Cs.2.1]
    .rw[h4]
     constructor
     .rintro(h|⟨j,s',hj,r⟩)
      .exact .inl h
      .exact .inr ⟨j,s',by omega,r⟩
     .rintro(h|⟨j,s',hj,r1,r2⟩)
      .exact .inl h
      .rcases ac2 (adp hj)with hj|rfl
       .exact .inr ⟨j,s',hj,r1,r2⟩
       .rw[hs]at r1;cases r1;rw[hX]at r2;cases r2)
  ⟨y4,y5,acc,rfl,hL,Kq.refl _ _,aam _,λp=>⟨.inl,λh=>h.elim id λ⟨j,_,hj,_⟩=>absurd hj (agO _)⟩⟩
 have ll:(Qm.cN 0 k).length=k:=by simp[Qm.cN]
 rw[acC,ll]at h3 h4;exact⟨z4,z5,jL,c',(gH it).trans e1,h1,h2,h3,h4⟩
theorem Xt{b:XS}{d1 d2:D}{zC qH zN:Qm.Env}{c2 c3 c4:Cells}(h1:g d1 σ c=ae (σ1,c1))(h2:b σ1 c1=ae (.nx,zC,c2))(h3:g d2 zC c2=ae (qH,c3))(h4:b qH c3=ae (.nx,zN,c4)):gf [] g b [d1,d2] σ c=ae (.nx,zN,c4):=by
 have s:∀c,stays [] c:=λ_ _ h=>nomatch h
 unfold gf;rw[if_pos (s _),h1];simp only[aag,h2];unfold gf;rw[if_pos (s _),h3];simp only[aag,h4];unfold gf;rw[if_pos (s _)]
theorem M4:i8=aw (aB 1 qw) (aw (cA (bF (ag (eB bu (ag (eV 0) ak)) ak)) (ay 2) UX) (aK (eB iY (ag (eV 1) ak)))):=rfl
theorem UY{g:Nat}{t:S2}{y4 y5:Option D}(hL:c[L]? =ae (cT acc))(hg:c[g]? =ae (.lst (IN.map aE)))(ht:IN[k]? =ae t)(hn:acc.length+2<=1000000):
  cA (kh (e2 ar (eV 0) (eV 2))) (ay 3) (gL (eV 1) (eV 3) (eC (.bl true))) [ae (.ref g),ae (.ref L),ae (.int (k:Int)),y3,y4,y5] c=ae (.nx,[ae (.ref g),ae (.ref L),ae (.int (k:Int)),ae (sd t.2),y4,y5],(c.set L (cT (ins acc t.1))).set L (cT (ins (ins acc t.1) t.2))):=by
 have x2:=oT hg ht;have it:kh (e2 ar (eV 0) (eV 2)) [ae (.ref g),ae (.ref L),ae (.int (k:Int)),y3,y4,y5] c=ae (⟨[sd t.1,sd t.2],[]⟩,c):=by
  unfold kh;erw[x2];rfl
 have il:=nh (acc:=acc) (p:=t.1);have p1:=Gb (o:=eV 1) (k:=eV 3) (σ:=[ae (.ref g),ae (.ref L),ae (.int (k:Int)),ae (sd t.1),y4,y5]) (y:=t.1) hL rfl rfl (by omega);have p2:=Gb (o:=eV 1) (k:=eV 3) (σ:=[ae (.ref g),ae (.ref L),ae (.int (k:Int)),ae (sd t.2),y4,y5]) (y:=t.2) (jv (z:=cT (ins acc t.1)) (bM hL)) rfl rfl (by omega);exact(gH it).trans (Xt rfl p1 rfl p2)
theorem Gd{g:Nat}(hI:∀s∈IN,InK s)(hg:c[g]? =ae (.lst (IN.map aE)))(hl:IN.length<=100):
  ∃(m:Nat) (cs:List T3) (c':Cells),gG [.ref g] c=ae (.ref m,c')/\c'[m]? =ae (.lst (cs.map sd))/\c <+:c'/\c.length<=m/\cs.length<=IN.length*102/\∀p,p∈cs↔LC IN IN.length p:=by
 have hgl:=bM hg;have UZ:(c++[cT []])[g]? =ae (.lst (IN.map aE)):=aA ⟨_,rfl⟩ hg;have bl:=i9 (e:=aE) UZ;have it:bF (ag (eB bu (ag (eV 0) ak)) ak) [ae (.ref g),ae (.ref c.length),af,af,af,af] (c++[cT []])=ae (⟨Qm.cN 0 IN.length,[]⟩,c++[cT []]):=gM (j:=(IN.length:Int)) (by erw[bl]) (by omega);obtain⟨σ',c',e1,y2,y3,y4,y5,acc,rfl,h1,h2,h3,h4⟩:=cg (ks:=[]) (g:=ay 2) (body:=UX)
  (λi σ c'=>∃y2 y3 y4 y5 acc,σ=[ae (.ref g),ae (.ref c.length),y2,y3,y4,y5]/\c'[c.length]? =ae (cT acc)/\Kq [c.length] (c++[cT []]) c'/\acc.length<=i*102/\∀p,p∈acc↔LC IN i p)
  (Qm.cN 0 IN.length) 0 [ae (.ref g),ae (.ref c.length),af,af,af,af] (c++[cT []]) (λ_ _ _ _ _ h=>(nomatch h))
  (by
   rintro i d σ c' hd ⟨y2,y3,y4,y5,acc,rfl,h1,h2,h3,h4⟩;rw[acC]at h3 h4 |-
   obtain⟨si,rfl⟩:=gW hd;rw[ab3];obtain⟨t,ht⟩:∃t,IN[i]? =ae t:=⟨_,aac si⟩;have fm:g≠c.length:=by omega
   have Qp:=h2 _ _ (by simpa using fm) UZ;have b1:=nh (acc:=acc) (p:=t.1);have b2:=nh (acc:=ins acc t.1) (p:=t.2);have f1:=UY (y3:=y3) (y4:=y4) (y5:=y5) h1 Qp ht (by omega);have kq:Kq [c.length] (c++[cT []]) ((c'.set c.length (cT (ins acc t.1))).set c.length (cT (ins (ins acc t.1) t.2))):=λj z hj e=>cJ (cJ (h2 j z hj e) (by simpa using hj)) (by simpa using hj)
   obtain⟨z4,z5,jL,c2,f2,f3,f4,f5,f6⟩:=c2_ (y3:=ae (sd t.2)) (y4:=y4) (y5:=y5) hI (jv (c:=c'.set c.length (cT (ins acc t.1))) (z:=cT (ins (ins acc t.1) t.2)) (by rw[acf];exact bM h1)) (kq _ _ (by simpa using fm) UZ) fm ht (by omega);refine⟨[ae (.ref g),ae (.ref c.length),ae (.int (i:Int)),y3,y4,y5],c',_,c2,rfl,?_,ae (.int (i:Int)),ae (sd t.2),z4,z5,jL,rfl,f3,kq.trans (T:=[c.length]) f4 (λx hx=>.inl hx),by omega,λp=>?_⟩
   .refine aZ f1 ?_
    exact f2
   .rw[f6,uq,uq,h4]
    constructor
    .rintro(((h|rfl)|rfl)|⟨j,s,hj,r1,r2⟩)
     .rcases h with⟨j,s,hj,r⟩|⟨j,k,s,t',a1,a2,r⟩
      .exact .inl ⟨j,s,by omega,r⟩
      .exact .inr ⟨j,k,s,t',a1,by omega,r⟩
     .exact .inl ⟨i,t,by omega,ht,.inl rfl⟩
     .exact .inl ⟨i,t,by omega,ht,.inr rfl⟩
     .exact .inr ⟨j,i,s,t,hj,by omega,r1,ht,r2⟩
    .rintro(⟨j,s,hj,r1,r2⟩|⟨j,k,s,t',a1,a2,r1,r2,r3⟩)
     .rcases ac2 (adp hj)with hj|rfl
      .exact .inl (.inl (.inl (.inl ⟨j,s,hj,r1,r2⟩)))
      .rw[ht]at r1;cases r1
       rcases r2 with rfl|rfl
       .exact .inl (.inl (.inr rfl))
       .exact .inl (.inr rfl)
     .rcases ac2 (adp a2)with a2|rfl
      .exact .inl (.inl (.inl (.inr ⟨j,k,s,t',a1,a2,r1,r2,r3⟩)))
      .rw[ht]at r2;cases r2
       exact .inr ⟨j,s,a1,r1,r3⟩)
  ⟨af,af,af,af,[],rfl,bh,Kq.refl _ _,abk _,λp=>⟨λh=>(nomatch h),λh=>by
   rcases h with⟨j,_,hj,_⟩|⟨j,k,_,_,_,hk,_⟩
   .exact absurd hj (agO _)
   .exact absurd hk (agO _)⟩⟩
 have ll:(Qm.cN 0 IN.length).length=IN.length:=by simp[Qm.cN]
 rw[acC,ll]at h3 h4;have lb:iY [.ref c.length] c'=ae (.ref c'.length,c'++[.lst (acc.map sd)]):=by
  unfold iY one mQ;simp only[h1,cT,aag];rw[if_pos (show(acc.map λp=>(kP p,D.bl true)).length<=cC by rw[dF,aas];omega),aa2];rfl
 have pc:c <+:c':=h2.to (c0:=c) ⟨_,rfl⟩ (λn hn=>by simp at hn;omega);refine⟨c'.length,acc,c'++[.lst (acc.map sd)],?_,bh,pc.trans ⟨_,rfl⟩,pc.length_le,by omega,h4⟩;have nw:qw [ae (.ref g),af,af,af,af,af] c=ae (.ref c.length,c++[cT []]):=rfl;have e2:=(gH (g:=ay 2) (b:=UX) it).trans e1;rw[gG,gp,M4];erw[nw,e2,lb]
theorem InK.in(h:InK s):v7 s:=⟨⟨h.ok.o1.mono (by decide),h.ok.o2.mono (by decide)⟩,h.ne⟩
theorem InK.sd(h:InK s):My.Sd s:=⟨h.ok.o1.cS,h.ok.o2.cS,h.ne⟩
theorem M5{t:S2}(hn:¬My.gC s t)(hp:p∈My.cs (My.cV s t)):My.cV s t= .fA p:=by
 revert hp;unfold My.cV My.cm;rw[if_neg (λz=>hn ⟨My.dG.mp z.1,My.dG.mp z.2⟩)];split
 .intro h;cases h
 .intro h
  cases aak.mp h;rfl
theorem Qq{t:S2}{z w:T3}(h:My.cV s t= .dW z w):z≠w:=by
 unfold My.cV My.cm at h;split at h
 .unfold My.i3 at h
  dsimp only at h;generalize (if My.aP (My.fw s.1 s.2).1 (My.fw t.1 t.2).1=true then(My.fw t.1 t.2).1 else(My.fw s.1 s.2).1)=P at h;generalize (if My.aP (My.fw s.1 s.2).2 (My.fw t.1 t.2).2=true then(My.fw s.1 s.2).2 else(My.fw t.1 t.2).2)=Q at h;split at h
  .cases h
  .rename_i ne
   split at h
   .cases h;exact ne
   .cases h
 .split at h<;>cases h
theorem kN:(p=(bI s).1\/p=(bI s).2)↔(p=s.1\/p=s.2):=by
 unfold bI My.fw;split
 .exact Iff.rfl
 .exact or_comm
theorem Ez{t:S2}:My.gC (bI s) (bI t)↔My.gC s t:=by
 unfold bI My.fw My.gC;split<;>split<;>dsimp only
 .exact Iff.rfl
 .exact and_comm
 .rw[My.mS s.1 s.2 t.1,My.mS s.1 s.2 t.2];omega
 .rw[My.mS s.1 s.2 t.1,My.mS s.1 s.2 t.2];omega
theorem qF(h:My.Sd s):My.On p (bI s)↔My.On p s:=by
 unfold My.On;rw[j4 h.l1 h.l2 h.ne]
theorem zP.sd(hI:∀s∈IN,InK s)(f:zP IN S):∀t∈S,My.Sd t:=λt ht=>by
 obtain⟨k,_,e⟩:=(f.mem t).mp ht;obtain⟨u,hu,e2⟩:=aax.mp e;rw[<-e2];exact(vB (hI u (aaf hu)).in).2.1
theorem Ct(hI:∀s∈IN,InK s)(f:zP IN S)(p:T3):LC IN IN.length p↔∃s∈S,My.jQ S s p:=by
 have hS:=f.sd hI;have up:∀{i:Nat}{s:S2},IN[i]? =ae s->bI s∈S:=λ{i s} h=>(f.mem _).mpr ⟨i,(aae.mp h).1,by rw[h];rfl⟩
 have en:∀{i:Nat}{s:S2},IN[i]? =ae s->(p=s.1\/p=s.2)->∃s∈S,My.jQ S s p:=λ{i s} h e=>by
  rcases kN.mpr e with e|e
  .exact⟨_,up h,.inl e⟩
  .exact⟨_,up h,.inr (.inl e)⟩
 constructor
 .rintro(⟨i,s,hi,hs,e⟩|⟨j,i,s,t,hj,hi,hs,ht,e⟩)
  .exact en hs e
  .have ds:=(hI s (aaf hs)).sd
   have dt:=(hI t (aaf ht)).sd;have hp:p∈My.cs (My.cV s t):=by rw[e];exact aak.mpr rfl
   by_cases c:My.gC s t
   .rcases My.pI c hp with h|h|h|h
    .exact en hs (.inl h)
    .exact en hs (.inr h)
    .exact en ht (.inl h)
    .exact en ht (.inr h)
   .obtain⟨o1,o2⟩:=My.nZ ds dt hp
    have c':¬My.gC (bI s) (bI t):=λz=>c (Ez.mp z)
    exact⟨bI s,up hs,.inr (.inr ⟨bI t,up ht,λz=>c' (by rw[z];exact⟨My.vh _ _,My.vi _ _⟩),My.j_ (hS _ (up hs)) (hS _ (up ht)) c' ((qF ds).mpr o1) ((qF dt).mpr o2)⟩)⟩
 .rintro⟨s,hs,hc⟩
  obtain⟨i,hi,e⟩:=(f.mem s).mp hs;obtain⟨u,hu,rfl⟩:=aax.mp e;have du:=(hI u (aaf hu)).sd;rcases hc with h|h|⟨t,ht,ne,hp⟩
  .exact .inl ⟨i,u,hi,hu,kN.mp (.inl h)⟩
  .exact .inl ⟨i,u,hi,hu,kN.mp (.inr h)⟩
  .obtain⟨j,hj,e'⟩:=(f.mem t).mp ht
   obtain⟨v,hv,rfl⟩:=aax.mp e';have dv:=(hI v (aaf hv)).sd
   by_cases c:My.gC u v
   .rcases My.pI (Ez.mpr c) hp with h|h|h|h
    .exact .inl ⟨i,u,hi,hu,kN.mp (.inl h)⟩
    .exact .inl ⟨i,u,hi,hu,kN.mp (.inr h)⟩
    .exact .inl ⟨j,v,hj,hv,kN.mp (.inl h)⟩
    .exact .inl ⟨j,v,hj,hv,kN.mp (.inr h)⟩
   .obtain⟨o1,o2⟩:=My.nZ (hS _ hs) (hS _ ht) hp
    have hq:=My.j_ du dv c ((qF du).mp o1) ((qF dv).mp o2);have e1:=M5 c hq;rcases Nat.lt_trichotomy i j with g|g|g
    .exact .inr ⟨i,j,u,v,g,hj,hu,hv,e1⟩
    .subst g;rw[hu]at hv;cases hv;exact absurd rfl ne
    .exact .inr ⟨j,i,v,u,g,hi,hv,hu,by rw[My.xw du dv];exact e1⟩
theorem Xu{r u v:S2}(hS:∀t∈S,My.Sd t)(hs:s∈S)(hr:r∈S)(h:fO S s u)(k:fO S r v)(ne:u≠v):My.cV u v= .none\/∃p,My.cV u v= .fA p/\(p=u.1\/p=u.2)/\(p=v.1\/p=v.2):=by
 have du:=h.sd hS hs;have dv:=k.sd hS hr;have both:∀p,p∈My.cs (My.cV u v)->(p=u.1\/p=u.2)/\(p=v.1\/p=v.2):=λp hp=>⟨h.Hm hS hs hr k hp,k.Hm hS hr hs h (by rw[My.xw du dv];exact hp)⟩
 cases hX:My.cV u v with
 |none=>exact .inl rfl
 |fA p=>
  rw[hX]at both;exact .inr ⟨p,rfl,both p (aak.mpr rfl)⟩
 |dW z w=>
  have zw:=Qq hX;have i1:z∈My.cs (My.cV u v):=by rw[hX];exact aao
  have i2:w∈My.cs (My.cV u v):=by rw[hX];exact aap _ (aak.mpr rfl)
  have o1:=(My.nZ du dv i1).2;have o2:=(My.nZ du dv i2).2;refine absurd (h.same hS hs hr k ?_ ?_) ne
  .rcases(both z i1).1 with e|e
   .rw[<-e];exact o1
   .rcases(both w i2).1 with e'|e'
    .rw[<-e'];exact o2
    .exact absurd (e.trans e'.symm) zw
  .rcases(both z i1).1 with e|e
   .rcases(both w i2).1 with e'|e'
    .exact absurd (e.trans e'.symm) zw
    .rw[<-e'];exact o2
   .rw[<-e];exact o1
theorem U0{r z:S2}(hS:∀t∈S,My.Sd t)(hs:s∈S)(hr:r∈S)(h:fO S s z)(hc:My.jQ S r p)(ne:¬(p=z.1\/p=z.2)):My.cF p z.1 z.2=false:=by
 cases e:My.cF p z.1 z.2 with
 |false=>rfl
 |true=>
  have o:My.On p z:=⟨(hc.on hS (hS r hr)).1,e⟩;exact absurd (h.end_ hS hs (hc.move hS hr hs (h.sub hS hs o)) o) ne
theorem M6{t:S2}(os:jK 58 s)(ot:jK 58 t)(h:My.cV s t= .fA p):Ok 250 p:=by
 have hp:p∈My.cs (My.cV s t):=by rw[h];exact aak.mpr rfl
 by_cases c:My.gC s t
 .rcases My.pI c hp with e|e|e|e<;>rw[e]
  .exact os.o1.mono (by decide)
  .exact os.o2.mono (by decide)
  .exact ot.o1.mono (by decide)
  .exact ot.o2.mono (by decide)
 .revert h
  unfold My.cV My.cm;have g:¬(My.sgn (My.aG s.1 s.2 t.1)=0/\My.sgn (My.aG s.1 s.2 t.2)=0):=λz=>c ⟨My.dG.mp z.1,My.dG.mp z.2⟩
  rw[if_neg g];split
  .intro h;cases h
  .rename_i k
   intro h;cases h;have r:∀{u v:T3},Ok 58 u->Ok 58 v->My.Bd 117 (u.2.1*v.2.2 - u.2.2*v.2.1)/\My.Bd 117 (u.2.2*v.1 - u.1*v.2.2)/\My.Bd 117 (u.1*v.2.1 - u.2.1*v.1):=λh1 h2=>⟨(My.Bd.sub (h1.hV.mul h2.bw) (h1.bw.mul h2.hV)).mono (by decide),(My.Bd.sub (h1.bw.mul h2.bx) (h1.bx.mul h2.bw)).mono (by decide),(My.Bd.sub (h1.bx.mul h2.hV) (h1.hV.mul h2.bx)).mono (by decide)⟩
   obtain⟨x1,x2,x3⟩:=r os.o1 os.o2;obtain⟨y1,y2,y3⟩:=r ot.o1 ot.o2;refine Sp.mk' (My.mT ot.o1.pos ot.o2.pos g λz=>k (.inl z)) ?_ ?_ ?_
   .unfold My.mX My.m0;exact(My.Bd.sub (x2.mul y3) (x3.mul y2)).mono (by decide)
   .unfold My.mY My.m1;exact(My.Bd.sub (x3.mul y1) (x1.mul y3)).mono (by decide)
   .unfold My.mW My.m2;exact(My.Bd.sub (x1.mul y2) (x2.mul y1)).mono (by decide)
theorem U1(hI:∀s∈IN,InK s)(h:LC IN n p):Ok 250 p:=by
 rcases h with⟨i,s,_,hs,e⟩|⟨j,i,s,t,_,_,hs,ht,e⟩
 .have o:=(hI s (aaf hs)).ok
  rcases e with rfl|rfl
  .exact o.o1.mono (by decide)
  .exact o.o2.mono (by decide)
 .exact M6 (hI s (aaf hs)).ok (hI t (aaf ht)).ok e
theorem Ro{x:D}(h:cq x c=ae (l.map sd)):Dp (sd p) x c=ae (decide (p∈l)):=by
 have o:omap (data c 5) (l.map sd)=ae (l.map pd):=ng (λa=>jJ) l;unfold Dp;rw[h,aag,jJ,aag,o,aag]
 congr 1
 rw[aa1];simp only[decide_eq_true_eq];rw[aaE];constructor
 .rintro⟨q,h1,h2⟩
  rw[<-xA.mp h2];exact h1
 .intro h
  exact⟨p,h,rfl⟩
theorem Hr(h:c[n]? =ae (.lst (l.map sd))):eK (sd p) (.ref n) c=ae (.bl (!decide (p∈l)),c):=by
 unfold eK;rw[Ro (aU h)];rfl
theorem Cu{z:S2}:eK (sd p) (.tup [sd z.1,sd z.2]) c=ae (.bl (!decide (p=z.1\/p=z.2)),c):=by
 unfold eK;rw[Ro (l:=[z.1,z.2]) rfl];simp
theorem anyF{m:Nat}(h:c[n]? =ae (.lst (ab7 m (D.bl false)))):ko [.ref n] c=ae (.bl false,c):=by
 unfold ko one;simp only[aY h,aag];rw[Hk];simp
noncomputable abbrev Qr:XE:=dh (iT (eV 1)) [af,ae 3,ae 4] (ay 0) eX (oZ (e2 eK (eV 0) (cH (ag (eV 1) (ag (eV 2) ak)))) (au dD [] (ag (eV 0) (ag (cH (ag (eV 1) (ag (eV 2) ak))) ak))))
variable{A0 A2 A5:Option D}
theorem Xv{A6:Option D}{cs:List T3}{z:S2}(hc:c[n]? =ae (.lst (cs.map sd)))(hl:cs.length<=1000)(oc:∀p∈cs,Ok 250 p)(oz:jK 250 z)(nz:z.1≠z.2)(am:∀p∈cs,¬(p=z.1\/p=z.2)->My.cF p z.1 z.2=false):
  ∃c',Qr [A0,ae (.ref n),A2,ae (sd z.1),ae (sd z.2),A5,A6] c=ae (.ref c.length,c')/\c <+:c'/\ko [.ref c.length] c'=ae (.bl false,c'):=by
 obtain⟨vs,c1,e1,p1,g1,l1,r1⟩:=vp (te:=oZ (e2 eK (eV 0) (cH (ag (eV 1) (ag (eV 2) ak)))) (au dD [] (ag (eV 0) (ag (cH (ag (eV 1) (ag (eV 2) ak))) ak)))) (g:=ay 0) (cap:=[af,ae 3,ae 4]) (σ:=[A0,ae (.ref n),A2,ae (sd z.1),ae (sd z.2),A5,A6]) (λτ=>∃y,τ=[y,ae (sd z.1),ae (sd z.2)]) (λi v c'=>v= .bl false) (vo (a:=eV 1) rfl hc) (λp hp=>by cases aak.mp hp;exact hc) ⟨af,rfl⟩ (λ_ _ _ _ h _=>h)
  (by
   rintro i d hd τ c' ⟨y,vt⟩ pc lc;subst vt;rw[aaq]at hd;obtain⟨x,hx,rfl⟩:=aax.mp hd;have mx:=aaf hx;have ni:=Cu (p:=x) (z:=z) (c:=c')
   by_cases e:x=z.1\/x=z.2
   .rw[decide_eq_true e]at ni
    refine⟨[ae (sd x),ae (sd z.1),ae (sd z.2)],.bl false,[],rfl,?_,⟨_,rfl⟩,rfl⟩;erw[ni]
   .rw[decide_eq_false e]at ni
    obtain⟨c2,f1,ws,rfl⟩:=UP (c:=c') (oc x mx) ⟨oz.o1.mono (k:=260) (by decide),oz.o2.mono (k:=260) (by decide)⟩ nz;rw[am x mx e]at f1;have f1:dD [sd x,.tup [sd z.1,sd z.2]] c'=ae (.bl false,c'++ws):=f1;refine⟨[ae (sd x),ae (sd z.1),ae (sd z.2)],.bl false,ws,rfl,?_,⟨_,rfl⟩,rfl⟩;erw[ni,f1])
  (by simp;omega)
 have hv:vs=ab7 vs.length (D.bl false):=aeX.mpr ⟨rfl,λb hb=>by
  obtain⟨i,hi⟩:=aaS hb;exact r1 i b hi⟩
 rw[hv]at g1;exact⟨c1,e1,p1,anyF g1⟩
noncomputable abbrev Xw:XS:=aw (aB 6 (au ba [] (ag (e2 ar (eV 0) (eV 5)) (ag (e2 ar (eV 0) (eV 2)) ak)))) (aw (bZ (jT (tV (e2 fy (eV 6) (eC .aX))) (tV (e2 iS (e2 ar (eV 6) (eC (.int 0))) (eC (.str "spot"))))) (aK (eC (.bl false))) aT) (bZ (jT (tV (e2 fy (eV 6) (eC .aX))) (gc (tV (e2 eK (e2 ar (eV 6) (eC (.int 1))) (cH (ag (eV 3) (ag (eV 4) ak))))) (tV (e2 eK (e2 ar (eV 6) (eC (.int 1))) (e2 ar (eV 0) (eV 5)))))) (aK (eC (.bl false))) aT))
noncomputable abbrev M7:XS:=bZ (gc (eG (tV (eB fT (ag (e2 ar (eV 0) (eV 2)) (ag (eC (.ty "tuple")) ak))))) (gc (eG (tV (au cQ [] (ag (eV 3) (ag (eV 4) ak))))) (gc (tV (e2 eK (eV 3) (eV 1))) (tV (e2 eK (eV 4) (eV 1)))))) (aK (eC (.bl false))) aT
noncomputable abbrev M8:XS:=bZ (jT (tV (e2 oK (eV 2) (eC (.int 0)))) (eG (tV (au cQ [] (ag (e2 ar (e2 ar (eV 0) (e2 bG (eV 2) (eC (.int 1)))) (eC (.int 0))) (ag (eV 3) ak)))))) (bZ (gc (tV (e2 iS (e2 ar (e2 ar (eV 0) (e2 bG (eV 2) (eC (.int 1)))) (eC (.int 0))) (eV 3))) (eG (tV (au cQ [] (ag (e2 ar (e2 ar (eV 0) (e2 bG (eV 2) (eC (.int 1)))) (eC (.int 1))) (ag (eV 4) ak)))))) (aK (eC (.bl false))) aT) aT
noncomputable abbrev M9:XS:=mI (e2 ar (eV 0) (eV 2)) (gy 2 (bA (ay 3) (bA (ay 4) fP)))
noncomputable abbrev Qs:XS:=bZ (tV (eB ko (ag Qr ak))) (aK (eC (.bl false))) aT
noncomputable abbrev M_:XS:=cA (bF (ag (eV 2) ak)) (ay 5) Xw
theorem Na:gU=aw (cA (bF (ag (eB bu (ag (eV 0) ak)) ak)) (ay 2) (aw M9 (aw M7 (aw M8 (aw M_ Qs))))) (aK (eC (.bl true))):=rfl
theorem zd{v:S2}:ar (aE v) (.int 0) c=ae (sd v.1,c):=rfl
theorem AV{v:S2}:ar (aE v) (.int 1) c=ae (sd v.2,c):=rfl
structure Cr(zs:List S2)(cs:List T3):Prop where
 ok:∀z∈zs,jK 250 z
 Nb:∀p∈cs,Ok 250 p
 fwd:∀z∈zs,My.aP z.1 z.2=true
 end_:∀z∈zs,z.1∈cs/\z.2∈cs
 nx:∀(i:Nat) u z,zs[i]? =ae u->zs[i+1]? =ae z->My.aP u.1 z.1=true\/(u.1=z.1/\My.aP u.2 z.2=true)
 two:∀(j k:Nat) u z,j<k->zs[j]? =ae u->zs[k]? =ae z->My.cV u z= .none\/∃p,My.cV u z= .fA p/\(p=u.1\/p=u.2)/\(p=z.1\/p=z.2)
 am:∀z∈zs,∀p∈cs,¬(p=z.1\/p=z.2)->My.cF p z.1 z.2=false
theorem vC{z:S2}(h:My.aP z.1 z.2=true):z.1≠z.2:=λe=>by rw[e,yR]at h;cases h
theorem jK.m{z:S2}{l:Nat}(h:jK k z)(hl:k<=l):jK l z:=⟨h.o1.mono hl,h.o2.mono hl⟩
section
variable{f n:Nat}{zs:List S2}{cs:List T3}
variable{y5 y6:Option D}
theorem Xx{k:Nat}{z:S2}{c:Cells}(H:Cr zs cs)(hf:c[f]? =ae (.lst (zs.map aE)))(hk:zs[k]? =ae z)(hn:zs.length<=1000000):
  ∃z5 z6 c',M_ [ae (.ref f),ae (.ref n),ae (.int (k:Int)),ae (sd z.1),ae (sd z.2),y5,y6] c=ae (.nx,[ae (.ref f),ae (.ref n),ae (.int (k:Int)),ae (sd z.1),ae (sd z.2),z5,z6],c')/\c <+:c':=by
 have kl:=(aae.mp hk).1;have mz:=aaf hk;have it:bF (ag (eV 2) ak) [ae (.ref f),ae (.ref n),ae (.int (k:Int)),ae (sd z.1),ae (sd z.2),y5,y6] c=ae (⟨Qm.cN 0 k,[]⟩,c):=gM (a:=ag (eV 2) ak) (c':=c) (j:=(k:Int)) (by erw[]) (by omega);obtain⟨σ',c',e1,z5,z6,rfl,h1⟩:=cg (ks:=[]) (g:=ay 5) (body:=Xw)
  (λ_ σ c'=>∃z5 z6,σ=[ae (.ref f),ae (.ref n),ae (.int (k:Int)),ae (sd z.1),ae (sd z.2),z5,z6]/\c <+:c')
  (Qm.cN 0 k) 0 [ae (.ref f),ae (.ref n),ae (.int (k:Int)),ae (sd z.1),ae (sd z.2),y5,y6] c (λ_ _ _ _ _ h=>(nomatch h))
  (by
   rintro i d σ c' hd ⟨z5,z6,rfl,h1⟩;obtain⟨si,rfl⟩:=gW hd;rw[ab3];obtain⟨u,hu⟩:∃u,zs[i]? =ae u:=⟨_,aac (by omega)⟩;have mu:=aaf hu;have EA:=aA h1 hf;have x1:=oT EA hu;have x2:=oT EA hk;have ou:=(H.ok u mu).m (l:=260) (by decide);have oz:=(H.ok z mz).m (l:=260) (by decide);obtain⟨c2,f1,f2⟩:=y_ (c:=c') ou.o1 ou.o2 oz.o1 oz.o2;rw[My.vj ou.o1.cS ou.o2.cS oz.o1.cS oz.o2.cS (vC (H.fwd u mu)) (vC (H.fwd z mz))]at f1;have f1:ba [aE u,aE z] c'=ae (cD (My.cV u z),c2):=f1;have x3:=oT (aA f2 EA) hu;rcases H.two i k u z si hu hk with e|⟨p,e,p1,p2⟩
   .rw[e]at f1
    have f1:ba [aE u,aE z] c'=ae (.aX,c2):=f1;have nn:fy .aX .aX c2=ae (.bl false,c2):=rfl;refine⟨[ae (.ref f),ae (.ref n),ae (.int (k:Int)),ae (sd z.1),ae (sd z.2),ae (.int (i:Int)),z6],c',[ae (.ref f),ae (.ref n),ae (.int (k:Int)),ae (sd z.1),ae (sd z.2),ae (.int (i:Int)),ae .aX],c2,rfl,?_,ae (.int (i:Int)),ae .aX,rfl,h1.trans f2⟩;erw[x1,x2,f1,nn]
   .rw[e]at f1
    have f1:ba [aE u,aE z] c'=ae (.tup [.str "spot",sd p],c2):=f1;have nn:fy (.tup [.str "spot",sd p]) .aX c2=ae (.bl true,c2):=rfl;have i0:ar (.tup [.str "spot",sd p]) (.int 0) c2=ae (.str "spot",c2):=rfl;have i1:ar (.tup [.str "spot",sd p]) (.int 1) c2=ae (sd p,c2):=rfl;have n1:=Cu (p:=p) (z:=z) (c:=c2);have n2:eK (sd p) (aE u) c2=_:=Cu (p:=p) (z:=u) (c:=c2);rw[decide_eq_true p2]at n1;rw[decide_eq_true p1]at n2;refine⟨[ae (.ref f),ae (.ref n),ae (.int (k:Int)),ae (sd z.1),ae (sd z.2),ae (.int (i:Int)),z6],c',[ae (.ref f),ae (.ref n),ae (.int (k:Int)),ae (sd z.1),ae (sd z.2),ae (.int (i:Int)),ae (.tup [.str "spot",sd p])],c2,rfl,?_,ae (.int (i:Int)),ae (.tup [.str "spot",sd p]),rfl,h1.trans f2⟩;erw[x1,x2,f1,nn,i0,i1,Cs.2.2,n1,n2,x3])
  ⟨y5,y6,rfl,⟨[],by simp⟩⟩
 exact⟨z5,z6,c',(gH it).trans e1,h1⟩
theorem Xy{k:Nat}{z:S2}{c:Cells}(H:Cr zs cs)(hf:c[f]? =ae (.lst (zs.map aE)))(hk:zs[k]? =ae z):
  M8 [ae (.ref f),ae (.ref n),ae (.int (k:Int)),ae (sd z.1),ae (sd z.2),y5,y6] c=ae (.nx,[ae (.ref f),ae (.ref n),ae (.int (k:Int)),ae (sd z.1),ae (sd z.2),y5,y6],c):=by
 cases k with
 |zero=>
  have g:¬((0:Int)<((0:Nat):Int)):=by omega
  erw[decide_eq_false g]
 |succ k=>
  have kl:=(aae.mp hk).1;obtain⟨u,hu⟩:∃u,zs[k]? =ae u:=⟨_,aac (by omega)⟩;have mu:=aaf hu;have mz:=aaf hk;have ou:=(H.ok u mu).m (l:=8000) (by decide);have oz:=(H.ok z mz).m (l:=8000) (by decide);have x1:=oT hf hu;have g:(0:Int)<((k+1:Nat):Int):=by omega
  have sb:((k+1:Nat):Int) - 1=(k:Int):=by omega
  have l1:=Cq (c:=c) ou.o1 oz.o1;rcases H.nx k u z hu hk with e|⟨e1,e2⟩
  .rw[e]at l1
   erw[decide_eq_true g,sb,x1,zd,AV,l1]
  .have l2:=Cq (c:=c) ou.o2 oz.o2
   rw[e2]at l2;rw[e1,yR]at l1;erw[decide_eq_true g,sb,x1,zd,AV,e1,l1,l2,uo]
theorem Xz{k:Nat}{z:S2}{c:Cells}(H:Cr zs cs)(hf:c[f]? =ae (.lst (zs.map aE)))(hc:c[n]? =ae (.lst (cs.map sd)))(hk:zs[k]? =ae z):
  M7 [ae (.ref f),ae (.ref n),ae (.int (k:Int)),ae (sd z.1),ae (sd z.2),y5,y6] c=ae (.nx,[ae (.ref f),ae (.ref n),ae (.int (k:Int)),ae (sd z.1),ae (sd z.2),y5,y6],c):=by
 have mz:=aaf hk;have x1:=oT hf hk;have oz:=(H.ok z mz).m (l:=8000) (by decide);have l1:=Cq (c:=c) oz.o1 oz.o2;rw[H.fwd z mz]at l1;have ii:fT [aE z,.ty "tuple"] c=ae (.bl true,c):=rfl;have n1:=Hr (p:=z.1) hc;have n2:=Hr (p:=z.2) hc;rw[decide_eq_true (H.end_ z mz).1]at n1;rw[decide_eq_true (H.end_ z mz).2]at n2;erw[x1,ii,l1,n1,n2]
theorem EB{c:Cells}(H:Cr zs cs)(hf:c[f]? =ae (.lst (zs.map aE)))(hc:c[n]? =ae (.lst (cs.map sd)))(hn:zs.length<=1000000)(hl:cs.length<=1000):
  ∃c',fC [.ref f,.ref n] c=ae (.bl true,c')/\c <+:c':=by
 have bl:=i9 (e:=aE) hf;have it:bF (ag (eB bu (ag (eV 0) ak)) ak) [ae (.ref f),ae (.ref n),af,af,af,af,af] c=ae (⟨Qm.cN 0 zs.length,[]⟩,c):=gM (j:=(zs.length:Int)) (by erw[bl]) (by omega);obtain⟨σ',c',e1,y2,y3,y4,y5,y6,rfl,h1⟩:=cg (ks:=[]) (g:=ay 2) (body:=aw M9 (aw M7 (aw M8 (aw M_ Qs))))
  (λ_ σ c'=>∃y2 y3 y4 y5 y6,σ=[ae (.ref f),ae (.ref n),y2,y3,y4,y5,y6]/\c <+:c')
  (Qm.cN 0 zs.length) 0 [ae (.ref f),ae (.ref n),af,af,af,af,af] c (λ_ _ _ _ _ h=>(nomatch h))
  (by
   rintro i d σ c' hd ⟨y2,y3,y4,y5,y6,rfl,h1⟩;obtain⟨si,rfl⟩:=gW hd;rw[ab3];obtain⟨z,hz⟩:∃z,zs[i]? =ae z:=⟨_,aac si⟩;have mz:=aaf hz;have EA:=aA h1 hf;have cP:=aA h1 hc;have x1:=oT EA hz;have s0:M9 [ae (.ref f),ae (.ref n),ae (.int (i:Int)),y3,y4,y5,y6] c'=ae (.nx,[ae (.ref f),ae (.ref n),ae (.int (i:Int)),ae (sd z.1),ae (sd z.2),y5,y6],c'):=by
    erw[x1];rfl
   obtain⟨z5,z6,c2,s3,p3⟩:=Xx (n:=n) (y5:=y5) (y6:=y6) H EA hz hn;obtain⟨c3,s4,p4,a4⟩:=Xv (A0:=ae (.ref f)) (A2:=ae (.int (i:Int))) (A5:=z5) (A6:=z6) (aA p3 cP) hl H.Nb (H.ok z mz) (vC (H.fwd z mz)) (H.am z mz);refine⟨[ae (.ref f),ae (.ref n),ae (.int (i:Int)),y3,y4,y5,y6],c',[ae (.ref f),ae (.ref n),ae (.int (i:Int)),ae (sd z.1),ae (sd z.2),z5,z6],c3,rfl,?_,_,_,_,_,_,rfl,h1.trans (p3.trans p4)⟩;refine aZ s0 (aZ (Xz H EA cP hz) (aZ (Xy H EA hz) (aZ s3 ?_)));show bZ (tV (eB ko (ag Qr ak))) (aK (eC (.bl false))) aT _ _=_;generalize Qr=E at s4 |-
   erw[s4,a4])
  ⟨af,af,af,af,af,rfl,⟨[],by simp⟩⟩
 refine⟨c',?_,h1⟩;have e2:=(gH (g:=ay 2) (b:=aw M9 (aw M7 (aw M8 (aw M_ Qs)))) it).trans e1;rw[fC,gp,Na];generalize cA (bF (ag (eB bu (ag (eV 0) ak)) ak)) (ay 2) (aw M9 (aw M7 (aw M8 (aw M_ Qs))))=E at e2 |-
 erw[e2]
end
theorem U2{w:KV}{cs:List T3}(hI:∀s∈IN,InK s)(f:zP IN S)(o:Out S IN w)(hc:∀p,p∈cs↔LC IN IN.length p):Cr (keys w) cs:=by
 have hS:=f.sd hI;have co:∀{z s},s∈S->fO S s z->z.1∈cs/\z.2∈cs:=λ{z s} hs k=>⟨(hc _).mpr ((Ct hI f _).mpr ⟨s,hs,k.c1⟩),(hc _).mpr ((Ct hI f _).mpr ⟨s,hs,k.c2⟩)⟩
 have Nb:∀p∈cs,Ok 250 p:=λp hp=>U1 hI ((hc p).mp hp)
 have gB:=pU o.AK o.nd o.ok;refine⟨λz hz=>?_,Nb,λz hz=>?_,λz hz=>?_,λi u z hu hz=>?_,λj k u z BA hu hz=>?_,λz hz p hp ne=>?_⟩
 .obtain⟨s,hs,k⟩:=(o.key z).mp hz
  exact⟨Nb _ (co hs k).1,Nb _ (co hs k).2⟩
 .obtain⟨s,hs,k⟩:=(o.key z).mp hz
  exact k.lt
 .obtain⟨s,hs,k⟩:=(o.key z).mp hz
  exact co hs k
 .obtain⟨i1,e1⟩:=aae.mp hu
  obtain⟨i2,e2⟩:=aae.mp hz;have h:=ac9.mp gB i (i+1) i1 i2 (by omega);rw[e1,e2]at h;unfold lB at h;split at h
  .rename_i e
   split at h
   .cases h
   .exact .inr ⟨e,h⟩
  .exact .inl h
 .obtain⟨i1,e1⟩:=aae.mp hu
  obtain⟨i2,e2⟩:=aae.mp hz;have ne:=ac9.mp o.nd j k i1 i2 BA;rw[e1,e2]at ne;obtain⟨s,hs,a⟩:=(o.key u).mp (aaf hu);obtain⟨r,hr,b⟩:=(o.key z).mp (aaf hz);exact Xu hS hs hr a b ne
 .obtain⟨s,hs,k⟩:=(o.key z).mp hz
  obtain⟨r,hr,q⟩:=(Ct hI f p).mp ((hc p).mp hp);exact U0 hS hs hr k q ne
theorem Jm{h:T3}{l:List S2}(ne:a≠h)(k:ch a l h):∃z,l[0]? =ae z/\z.1=a:=by
 cases l with
 |nil=>exact absurd k ne
 |cons z l=>exact⟨z,rfl,k.1⟩
theorem EC:∀{a h:T3}{l:List S2},l≠[]->ch a l h->∃z,l[l.length - 1]? =ae z/\z.2=h
 |_,_,[],ne,_=>absurd rfl ne
 |_,_,[z],_,k=>⟨z,rfl,k.2⟩
 |_,_,z::y::l,_,k=>by
  obtain⟨x,e,r⟩:=EC (l:=y::l) (by simp) k.2;refine⟨x,?_,r⟩;simpa using e
theorem ED:∀{a h:T3}{l:List S2}{i:Nat}{u v:S2},ch a l h->l[i]? =ae u->l[i+1]? =ae v->u.2=v.1
 |_,_,[],_,_,_,_,e,_=>by simp at e
 |_,_,[z],_,_,_,_,_,e=>by simp at e
 |_,_,z::y::l,0,u,v,k,e1,e2=>by
  simp at e1 e2;subst e1 e2;exact k.2.1.symm
 |_,_,z::y::l,i+1,u,v,k,e1,e2=>ED (l:=y::l) (i:=i) k.2 (by simpa using e1) (by simpa using e2)
theorem vD{α:Type}{e:α->D}{tt:XT}(hs:stays ks c)(b:α->Bool)(v:α->D):∀(l:List α),
  (∀a∈l,∀c',c <+:c'->tt (ae (e a)::ρ) c'=ae (b a,c'))->
  (∀a∈l,∀c',c <+:c'->te (ae (e a)::ρ) c'=ae (v a,c'))->
  ∀(acc:List D) (x:Option D),acc.length+l.length<=9000000->e7 c.length ks (ay 0) tt te (l.map e) (x::ρ) (c++[.lst acc])=ae (c++[.lst (acc++(l.filter b).map v)])
 |[],_,_,acc,x,_=>by
  have st:stays ks (c++[.lst acc]):=λp hp=>aA ⟨_,rfl⟩ (hs p hp)
  rw[afy];unfold e7;rw[if_pos st];simp
 |a::l,ht,hv,acc,x,hn=>by
  have st:stays ks (c++[.lst acc]):=λp hp=>aA ⟨_,rfl⟩ (hs p hp)
  have e1:=ht a aao (c++[.lst acc]) ⟨_,rfl⟩;have e2:=hv a aao (c++[.lst acc]) ⟨_,rfl⟩;have XB:=λd' hd=>ht d' (aap a hd)
  have XC:=λd' hd=>hv d' (aap a hd)
  rw[aaU]at hn;rw[aaV];unfold e7;rw[if_pos st]
  by_cases hb:b a=true
  .have e3:(c++[.lst acc])[c.length]? =ae (.lst acc):=by simp
   have e4:(c++[Cell.lst acc]).set c.length (.lst (acc++[v a]))=c++[.lst (acc++[v a])]:=by simp
   have e5:=vD hs b v l XB XC (acc++[v a]) (ae (e a)) (by simp only[aaR,aaU,acg];omega);simp only[uc,adK,aag,e1,hb,if_true,e2,e3,e4];rw[if_pos (show acc.length<cC by rw[dF];omega),e5,af9 hb];simp
  .have e5:=vD hs b v l XB XC acc (ae (e a)) (by omega)
   have ua:b a=false:=by simpa using hb
   simp only[uc,adK,aag,e1,ua,aav,if_false];rw[e5,aga hb]
theorem Nc{α:Type}{e:α->D}{l:List α}{tt:XT}{x:Option D}(b:α->Bool)(v:α->D)(hi:it σ c=ae (⟨l.map e,ks⟩,c))(hc:o6 σ cap=x::ρ)(hs:stays ks c)
  (ht:∀a∈l,∀c',c <+:c'->tt (ae (e a)::ρ) c'=ae (b a,c'))(hv:∀a∈l,∀c',c <+:c'->te (ae (e a)::ρ) c'=ae (v a,c'))(hn:l.length<=9000000):
  dh it cap (ay 0) tt te σ c=ae (.ref c.length,c++[.lst ((l.filter b).map v)]):=by
 have e:=vD hs b v l ht hv [] x (by simp;omega);unfold dh;rw[hi,aag];dsimp only
 rw[hc,e];rfl
def Ge{α:Type}(l:List α)(P:α->Bool)(j:Nat):Bool:=match l[j]? with|some z=>P z|none=>false
def Gf{α:Type}(l:List α)(f:α->D)(j:Nat):D:=match l[j]? with|some z=>f z|none=>.aX
theorem AW{α:Type}(P:α->Bool)(f:α->D):∀(l:List α),((adg l.length).filter (Ge l P)).map (Gf l f)=(l.filter P).map f
 |[]=>rfl
 |z::l=>by
  have ih:=AW P f l;have s1:(Ge (z::l) P) ∘ Nat.succ=Ge l P:=by funext j;simp[Ge]
  have s2:(Gf (z::l) f) ∘ Nat.succ=Gf l f:=by funext j;simp[Gf]
  have h0:Ge (z::l) P 0=P z:=rfl;have v0:Gf (z::l) f 0=f z:=rfl;rw[aaU,List.range_succ_eq_map,List.filter_cons,List.filter_map,s1,h0];cases e:P z with
  |true=>
   rw[if_pos rfl,aaV,aa2,s2,ih,v0,af9 e,aaV]
  |false=>
   rw[if_neg (by decide),aa2,s2,ih,aga (by rw[e];decide)]
theorem XD{m:Nat}{k:Int}{l:List Int}(h:c[m]? =ae (.lst (l.map D.int))):o7 (.int k) (.ref m) c=ae (.bl (decide (k∈l)),c):=by
 have o:omap (data c 5) (l.map D.int)=ae (l.map PyData.int):=ng (f:=data c 5) (g:=D.int) (h:=PyData.int) (λa=>rfl) l;have d:data c 5 (.int k)=ae (.int k):=rfl;unfold o7 Dp;rw[aU h,aag,d,aag,o,aag,aag]
 congr 3
 rw[aa1];simp only[decide_eq_true_eq];rw[aaE];constructor
 .rintro⟨q,h1,h2⟩
  cases h2;exact h1
 .intro h
  exact⟨k,h,rfl⟩
theorem Cv{z:S2}(h:IN[k]? =ae s):decide ((k:Int)∈pR IN z)=(My.cF z.1 s.1 s.2&&My.cF z.2 s.1 s.2):=by
 have kl:=(aae.mp h).1;have e:MJ IN z k=(My.cF z.1 s.1 s.2&&My.cF z.2 s.1 s.2):=by unfold MJ;rw[h]
 rw[aa1,decide_eq_true_eq,<-e];unfold pR;rw[aaE];constructor
 .rintro⟨j,hj,e⟩
  have:j=k:=by omega
  subst this;exact(ace.mp hj).2
 .intro hk
  exact⟨k,ace.mpr ⟨abC.mpr kl,hk⟩,rfl⟩
theorem ze{α:Type}{e:α->D}{l:List α}{a:α}(h:c[n]? =ae (.lst (l.map e)))(hs:l[i]? =ae a):ar (.ref n) (.int (i:Int)) c=ae (e a,c):=by
 have hi:=(aae.mp hs).1;rw[gD,aU h,aag];have:gu (l.map e) (i:Int)=ae (e a):=by
  unfold gu tM;rw[if_pos (by omega),if_pos (by simpa using hi)];simp[hs]
 simp[this]
theorem Qt{α:Type}{e:α->D}{l:List α}{a:α}(h:c[n]? =ae (.lst (l.map e)))(hs:l[l.length - 1]? =ae a):ar (.ref n) (.int (-1)) c=ae (e a,c):=by
 have hi:=(aae.mp hs).1;rw[gD,aU h,aag];have:gu (l.map e) (-1)=ae (e a):=by
  unfold gu tM;rw[if_neg (by omega),if_pos (by rw[aas];omega)];rw[aas,show(-1+(l.length:Int)).toNat=l.length - 1 by omega];simp[hs]
 simp[this]
noncomputable abbrev XF:XS:=mI (e2 ar (eV 0) (eV 3)) (gy 2 (bA (ay 4) (bA (ay 5) fP)))
noncomputable abbrev XH:XS:=bZ (tV (au cQ [] (ag (eV 5) (ag (eV 4) ak)))) (oA [4,5] (ag (eV 5) (ag (eV 4) ak))) aT
noncomputable abbrev Qu:XE:=dh (bF (ag (eB bu (ag (eV 1) ak)) ak)) [af,ae 1,ae 3,ae 2] (ay 0) (tV (e2 o7 (eV 2) (e2 ar (eV 3) (eV 0)))) (e2 ar (eV 1) (eV 0))
noncomputable abbrev XJ:XS:=bZ (tV (e2 iS (e2 o7 (eV 3) (e2 ar (eV 2) (eV 7))) (oZ (au dD [] (ag (e2 ar (e2 ar (eV 1) (eV 7)) (eC (.int 0))) (ag (cH (ag (eV 4) (ag (eV 5) ak))) ak))) (au dD [] (ag (e2 ar (e2 ar (eV 1) (eV 7)) (eC (.int 1))) (ag (cH (ag (eV 4) (ag (eV 5) ak))) ak)))))) (aK (eC (.bl false))) aT
noncomputable abbrev XM:XS:=cA (bF (ag (eB bu (ag (eV 1) ak)) ak)) (ay 7) XJ
noncomputable abbrev XN:XS:=bZ (gc (tV (e2 jl (eV 6) (eI ak))) (gc (tV (e2 iS (e2 ar (e2 ar (eV 6) (eC (.int 0))) (eC (.int 0))) (eV 4))) (tV (e2 iS (e2 ar (e2 ar (eV 6) (e1 yc (eC (.int 1)))) (eC (.int 1))) (eV 5))))) (aK (eC (.bl false))) aT
noncomputable abbrev Qv:XE:=dh (ki (ag (eC (.int 1)) (ag (eB bu (ag (eV 6) ak)) ak))) [af,ae 6] (ay 0) eX (e2 iS (e2 ar (e2 ar (eV 1) (e2 bG (eV 0) (eC (.int 1)))) (eC (.int 1))) (e2 ar (e2 ar (eV 1) (eV 0)) (eC (.int 0))))
noncomputable abbrev u5B:XS:=bZ (tV (eB ko (ag Qv ak))) (aK (eC (.bl false))) aT
noncomputable abbrev uB:XS:=aw XF (aw XH (aw (aB 6 Qu) (aw XM (aw XN u5B))))
theorem Nd:ju=aw (cA (bF (ag (eB bu (ag (eV 0) ak)) ak)) (ay 3) uB) (aK (eC (.bl true))):=rfl
def Rows(IN zs:List S2)(n:Nat)(fs:List Nat)(c:Cells):Prop:=c[n]? =ae (.lst (fs.map D.ref))/\∀(j:Nat) z,zs[j]? =ae z->∃m,fs[j]? =ae m/\c[m]? =ae (.lst ((pR IN z).map D.int))
theorem Rows.up{zs:List S2}{fs:List Nat}(h:Rows IN zs n fs c)(p:c <+:c'):Rows IN zs n fs c':=⟨aA p h.1,λj z hz=>let ⟨m,a,b⟩:=h.2 j z hz;⟨m,a,aA p b⟩⟩
section
variable{g f n:Nat}{IN zs:List S2}{fs:List Nat}
variable{y6 y7:Option D}
theorem XQ{s:S2}{k:Nat}{c:Cells}(hs:InK s):
  XH [ae (.ref g),ae (.ref f),ae (.ref n),ae (.int (k:Int)),ae (sd s.1),ae (sd s.2),y6,y7] c=ae (.nx,[ae (.ref g),ae (.ref f),ae (.ref n),ae (.int (k:Int)),ae (sd (bI s).1),ae (sd (bI s).2),y6,y7],c):=by
 have l:=Cq (c:=c) (hs.ok.o2.mono (k:=8000) (by decide)) (hs.ok.o1.mono (k:=8000) (by decide));unfold bI My.fw;rcases My.iF hs.ok.o1.cS hs.ok.o2.cS with e|e|e
 .rw[My.cf e]at l
  rw[if_pos e];erw[l]
 .exact absurd e hs.ne
 .rw[e]at l
  rw[if_neg (by rw[My.cf e];decide)];erw[l]
theorem XR{s:S2}{k:Nat}{y4 y5:Option D}{c:Cells}(hk:IN[k]? =ae s)(hf:c[f]? =ae (.lst (zs.map aE)))(hr:Rows IN zs n fs c)(hn:zs.length<=1000000):
  Qu [ae (.ref g),ae (.ref f),ae (.ref n),ae (.int (k:Int)),y4,y5,y6,y7] c=ae (.ref c.length,c++[.lst ((zs.filter λz=>My.cF z.1 s.1 s.2&&My.cF z.2 s.1 s.2).map aE)]):=by
 have bl:=i9 (e:=aE) hf;have it:bF (ag (eB bu (ag (eV 1) ak)) ak) [ae (.ref g),ae (.ref f),ae (.ref n),ae (.int (k:Int)),y4,y5,y6,y7] c=ae (⟨(adg zs.length).map λ(i:Nat)=>D.int (0+i),[]⟩,c):=gM (j:=(zs.length:Int)) (by erw[bl]) (by omega);rw[<-AW (λz=>My.cF z.1 s.1 s.2&&My.cF z.2 s.1 s.2) aE zs];refine Nc (ρ:=[ae (.ref f),ae (.int (k:Int)),ae (.ref n)]) (x:=af) _ _ it rfl ef (λj hj c' p=>?_) (λj hj c' p=>?_) (by simp;omega)
 .obtain⟨z,hz⟩:∃z,zs[j]? =ae z:=⟨_,aac (abC.mp hj)⟩
  obtain⟨m,h1,h2⟩:=(hr.up p).2 j z hz;have x1:=ze (e:=D.ref) (hr.up p).1 h1;have x2:=XD (k:=(k:Int)) h2;rw[Cv hk]at x2;have b:Ge zs (λz=>My.cF z.1 s.1 s.2&&My.cF z.2 s.1 s.2) j=(My.cF z.1 s.1 s.2&&My.cF z.2 s.1 s.2):=by unfold Ge;rw[hz]
  rw[b,ab3];erw[x1,x2]
 .obtain⟨z,hz⟩:∃z,zs[j]? =ae z:=⟨_,aac (abC.mp hj)⟩
  have x1:=ze (e:=aE) (aA p hf) hz;have b:Gf zs aE j=aE z:=by unfold Gf;rw[hz]
  rw[b,ab3];erw[x1]
theorem XU{s:S2}{k:Nat}{c:Cells}(hs:InK s)(hk:IN[k]? =ae s)(ok:∀z∈zs,jK 250 z)(hf:c[f]? =ae (.lst (zs.map aE)))(hr:Rows IN zs n fs c)(hn:zs.length<=1000000):
  ∃z7 c',XM [ae (.ref g),ae (.ref f),ae (.ref n),ae (.int (k:Int)),ae (sd (bI s).1),ae (sd (bI s).2),y6,y7] c=ae (.nx,[ae (.ref g),ae (.ref f),ae (.ref n),ae (.int (k:Int)),ae (sd (bI s).1),ae (sd (bI s).2),y6,z7],c')/\c <+:c':=by
 have bl:=i9 (e:=aE) hf;have it:bF (ag (eB bu (ag (eV 1) ak)) ak) [ae (.ref g),ae (.ref f),ae (.ref n),ae (.int (k:Int)),ae (sd (bI s).1),ae (sd (bI s).2),y6,y7] c=ae (⟨Qm.cN 0 zs.length,[]⟩,c):=gM (j:=(zs.length:Int)) (by erw[bl]) (by omega);have os:jK 260 (bI s):=by
  unfold bI My.fw;split
  .exact hs.ok.m (by decide)
  .exact⟨hs.ok.o2.mono (by decide),hs.ok.o1.mono (by decide)⟩
 have sn:=(vB hs.in).2.1.ne;obtain⟨σ',c',e1,z7,rfl,h1⟩:=cg (ks:=[]) (g:=ay 7) (body:=XJ)
  (λ_ σ c'=>∃z7,σ=[ae (.ref g),ae (.ref f),ae (.ref n),ae (.int (k:Int)),ae (sd (bI s).1),ae (sd (bI s).2),y6,z7]/\c <+:c')
  (Qm.cN 0 zs.length) 0 [ae (.ref g),ae (.ref f),ae (.ref n),ae (.int (k:Int)),ae (sd (bI s).1),ae (sd (bI s).2),y6,y7] c (λ_ _ _ _ _ h=>(nomatch h))
  (by
   rintro i d σ c' hd ⟨z7,rfl,h1⟩;obtain⟨si,rfl⟩:=gW hd;rw[ab3];obtain⟨z,hz⟩:∃z,zs[i]? =ae z:=⟨_,aac si⟩;have oz:=ok z (aaf hz);obtain⟨m,r1,r2⟩:=(hr.up h1).2 i z hz;have x1:=ze (e:=D.ref) (hr.up h1).1 r1;have x2:=XD (k:=(k:Int)) r2;rw[Cv hk]at x2;have x3:=ze (e:=aE) (aA h1 hf) hz;obtain⟨c2,o1,p1⟩:=UP (c:=c') oz.o1 os sn;rw[j4 hs.sd.l1 hs.sd.l2 hs.ne]at o1;have o1:dD [sd z.1,.tup [sd (bI s).1,sd (bI s).2]] c'=ae (.bl (My.cF z.1 s.1 s.2),c2):=o1;cases e1:My.cF z.1 s.1 s.2 with
   |false=>
    rw[e1]at o1 x2;rw[agZ]at x2;refine⟨[ae (.ref g),ae (.ref f),ae (.ref n),ae (.int (k:Int)),ae (sd (bI s).1),ae (sd (bI s).2),y6,ae (.int (i:Int))],c',[ae (.ref g),ae (.ref f),ae (.ref n),ae (.int (k:Int)),ae (sd (bI s).1),ae (sd (bI s).2),y6,ae (.int (i:Int))],c2,rfl,?_,ae (.int (i:Int)),rfl,h1.trans p1⟩;erw[x1,x2,x3,zd,o1,beq_self_eq_true]
   |true=>
    have x4:=ze (e:=aE) (aA (h1.trans p1) hf) hz;obtain⟨c3,o2,p2⟩:=UP (c:=c2) oz.o2 os sn;rw[j4 hs.sd.l1 hs.sd.l2 hs.ne]at o2;have o2:dD [sd z.2,.tup [sd (bI s).1,sd (bI s).2]] c2=ae (.bl (My.cF z.2 s.1 s.2),c3):=o2;rw[e1]at o1 x2;rw[Bool.true_and]at x2;refine⟨[ae (.ref g),ae (.ref f),ae (.ref n),ae (.int (k:Int)),ae (sd (bI s).1),ae (sd (bI s).2),y6,ae (.int (i:Int))],c',[ae (.ref g),ae (.ref f),ae (.ref n),ae (.int (k:Int)),ae (sd (bI s).1),ae (sd (bI s).2),y6,ae (.int (i:Int))],c3,rfl,?_,ae (.int (i:Int)),rfl,h1.trans (p1.trans p2)⟩;erw[x1,x2,x3,zd,AV,o1,x4,o2,beq_self_eq_true])
  ⟨y7,rfl,⟨[],by simp⟩⟩
 exact⟨z7,c',(gH it).trans e1,h1⟩
end
section
variable{g f n:Nat}{IN zs:List S2}{fs:List Nat}
theorem XW{A0 A1 A2 A3 A7:Option D}{t:S2}{M:Nat}{l:List S2}{c:Cells}(hM:c[M]? =ae (.lst (l.map aE)))(nt:t.1≠t.2)(hc:ch t.1 l t.2):
  XN [A0,A1,A2,A3,ae (sd t.1),ae (sd t.2),ae (.ref M),A7] c=ae (.nx,[A0,A1,A2,A3,ae (sd t.1),ae (sd t.2),ae (.ref M),A7],c++[.lst []]):=by
 obtain⟨z,h0,e0⟩:=Jm nt hc;have ne:l≠[]:=λe=>by rw[e]at h0;cases h0
 obtain⟨y,h1,e1⟩:=EC ne hc;have sJ:(c++[Cell.lst []])[M]? =ae (.lst (l.map aE)):=aA ⟨_,rfl⟩ hM;have x0:ar (.ref M) (.int 0) (c++[.lst []])=ae (aE z,c++[.lst []]):=ze (e:=aE) (i:=0) sJ h0;have x1:=Qt (e:=aE) sJ h1;have en:jl (.ref M) (.ref c.length) (c++[.lst []])=ae (.bl false,c++[.lst []]):=by
  unfold jl;rw[aY sJ,aY (xs:=[]) (by simp)];cases l with
  |nil=>exact absurd rfl ne
  |cons a l=>rfl
 have ln: 0<=cC:=abk _;erw[ln,en,x0,x1,zd,AV,e0,e1,uo]
theorem XX{A0 A1 A2 A3 A4 A5 A7:Option D}{a h:T3}{M:Nat}{l:List S2}{c:Cells}(hM:c[M]? =ae (.lst (l.map aE)))(hc:ch a l h)(ne:l≠[])(hn:l.length<=1000000):
  ∃c',Qv [A0,A1,A2,A3,A4,A5,ae (.ref M),A7] c=ae (.ref c.length,c')/\c <+:c'/\ko [.ref c.length] c'=ae (.bl false,c'):=by
 have l0: 0<l.length:=ahk.mpr ne;have bl:=i9 (e:=aE) hM;have it:ki (ag (eC (.int 1)) (ag (eB bu (ag (eV 6) ak)) ak)) [A0,A1,A2,A3,A4,A5,ae (.ref M),A7] c=ae (⟨cN 1 ((l.length:Int) - 1).toNat,[]⟩,c):=G_ (by erw[bl]) (by decide) (by omega);obtain⟨vs,c1,e1,p1,g1,l1,r1⟩:=vp (te:=e2 iS (e2 ar (e2 ar (eV 1) (e2 bG (eV 0) (eC (.int 1)))) (eC (.int 1))) (e2 ar (e2 ar (eV 1) (eV 0)) (eC (.int 0)))) (g:=ay 0) (cap:=[af,ae 6]) (σ:=[A0,A1,A2,A3,A4,A5,ae (.ref M),A7]) (λτ=>∃y,τ=[y,ae (.ref M)]) (λi v c'=>v= .bl false) it ef ⟨af,rfl⟩ (λ_ _ _ _ h _=>h)
  (by
   rintro i d hd τ c' ⟨y,vt⟩ pc lc;subst vt;obtain⟨hi,rfl⟩:=gW hd;obtain⟨u,hu⟩:∃u,l[i]? =ae u:=⟨_,aac (by omega)⟩;obtain⟨v,hv⟩:∃v,l[i+1]? =ae v:=⟨_,aac (by omega)⟩;have x1:=ze (e:=aE) (aA pc hM) hu;have x2:=ze (e:=aE) (aA pc hM) hv;have e:=ED hc hu hv;have i1:(1:Int)+(i:Int) - 1=(i:Int):=by omega
   have i2:(1:Int)+(i:Int)=((i+1:Nat):Int):=by omega
   have U3:ar (.ref M) (.int (1+(i:Int))) c'=ae (aE v,c'):=by rw[i2];exact x2
   refine⟨[ae (.int (1+(i:Int))),ae (.ref M)],.bl false,[],rfl,?_,⟨_,rfl⟩,rfl⟩;erw[i1,x1,U3,zd,AV,e,uo])
  (by simp[Qm.cN];omega)
 have hv:vs=ab7 vs.length (D.bl false):=aeX.mpr ⟨rfl,λb hb=>by
  obtain⟨i,hi⟩:=aaS hb;exact r1 i b hi⟩
 rw[hv]at g1;exact⟨c1,e1,p1,anyF g1⟩
theorem Nf{c:Cells}(hI:∀s∈IN,InK s)(ok:∀z∈zs,jK 250 z)(iE:∀s∈IN,ch (bI s).1 (zs.filter λz=>My.cF z.1 s.1 s.2&&My.cF z.2 s.1 s.2) (bI s).2)(hg:c[g]? =ae (.lst (IN.map aE)))(hf:c[f]? =ae (.lst (zs.map aE)))(hr:Rows IN zs n fs c)(hl:IN.length<=1000)(hn:zs.length<=1000000):
  ∃c',iw [.ref g,.ref f,.ref n] c=ae (.bl true,c')/\c <+:c':=by
 have bl:=i9 (e:=aE) hg;have it:bF (ag (eB bu (ag (eV 0) ak)) ak) [ae (.ref g),ae (.ref f),ae (.ref n),af,af,af,af,af] c=ae (⟨Qm.cN 0 IN.length,[]⟩,c):=gM (j:=(IN.length:Int)) (by erw[bl]) (by omega);obtain⟨σ',c',e1,y3,y4,y5,y6,y7,rfl,h1⟩:=cg (ks:=[]) (g:=ay 3) (body:=uB)
  (λ_ σ c'=>∃y3 y4 y5 y6 y7,σ=[ae (.ref g),ae (.ref f),ae (.ref n),y3,y4,y5,y6,y7]/\c <+:c')
  (Qm.cN 0 IN.length) 0 [ae (.ref g),ae (.ref f),ae (.ref n),af,af,af,af,af] c (λ_ _ _ _ _ h=>(nomatch h))
  (by
   rintro i d σ c' hd ⟨y3,y4,y5,y6,y7,rfl,h1⟩;obtain⟨si,rfl⟩:=gW hd;rw[ab3];obtain⟨s,hs⟩:∃s,IN[i]? =ae s:=⟨_,aac si⟩;have ms:=aaf hs;have hk:=hI s ms;have sn:=(vB hk.in).2.1.ne;have hc:=iE s ms;have x1:=ze (e:=aE) (aA h1 hg) hs;have s0:XF [ae (.ref g),ae (.ref f),ae (.ref n),ae (.int (i:Int)),y4,y5,y6,y7] c'=ae (.nx,[ae (.ref g),ae (.ref f),ae (.ref n),ae (.int (i:Int)),ae (sd s.1),ae (sd s.2),y6,y7],c'):=by
    erw[x1];rfl
   have s1:=XQ (g:=g) (f:=f) (n:=n) (k:=i) (y6:=y6) (y7:=y7) (c:=c') hk;have PY:=XR (g:=g) (y4:=ae (sd (bI s).1)) (y5:=ae (sd (bI s).2)) (y6:=y6) (y7:=y7) hs (aA h1 hf) (hr.up h1) hn;have fl:(zs.filter λz=>My.cF z.1 s.1 s.2&&My.cF z.2 s.1 s.2).length<=zs.length:=aeW _ _;have fm:(zs.filter λz=>My.cF z.1 s.1 s.2&&My.cF z.2 s.1 s.2)≠[]:=λe=>by rw[e]at hc;exact sn hc
   generalize (zs.filter λz=>My.cF z.1 s.1 s.2&&My.cF z.2 s.1 s.2)=l at*;have s2:aB 6 Qu [ae (.ref g),ae (.ref f),ae (.ref n),ae (.int (i:Int)),ae (sd (bI s).1),ae (sd (bI s).2),y6,y7] c'=ae (.nx,[ae (.ref g),ae (.ref f),ae (.ref n),ae (.int (i:Int)),ae (sd (bI s).1),ae (sd (bI s).2),ae (.ref c'.length),y7],c'++[.lst (l.map aE)]):=by
    generalize Qu=E at PY |-
    erw[PY]
   have q2:c <+:c'++[.lst (l.map aE)]:=h1.trans ⟨_,rfl⟩;obtain⟨z7,c3,s3,p3⟩:=XU (g:=g) (y6:=ae (.ref c'.length)) (y7:=y7) hk hs ok (aA q2 hf) (hr.up q2) hn;have hM:=aA p3 (bh (c:=c') (z:=.lst (l.map aE)));have s4:=XW (A0:=ae (.ref g)) (A1:=ae (.ref f)) (A2:=ae (.ref n)) (A3:=ae (.int (i:Int))) (A7:=z7) hM sn hc;obtain⟨c5,s5,p5,a5⟩:=XX (A0:=ae (.ref g)) (A1:=ae (.ref f)) (A2:=ae (.ref n)) (A3:=ae (.int (i:Int))) (A4:=ae (sd (bI s).1)) (A5:=ae (sd (bI s).2)) (A7:=z7) (c:=c3++[.lst []]) (aA ⟨_,rfl⟩ hM) hc fm (by omega);refine⟨[ae (.ref g),ae (.ref f),ae (.ref n),ae (.int (i:Int)),y4,y5,y6,y7],c',[ae (.ref g),ae (.ref f),ae (.ref n),ae (.int (i:Int)),ae (sd (bI s).1),ae (sd (bI s).2),ae (.ref c'.length),z7],c5,rfl,?_,_,_,_,_,_,rfl,q2.trans (p3.trans (afr ⟨_,rfl⟩ p5))⟩;refine aZ s0 (aZ s1 (aZ s2 (aZ s3 (aZ s4 ?_))));show bZ (tV (eB ko (ag Qv ak))) (aK (eC (.bl false))) aT _ _=_;generalize Qv=E at s5 |-
   erw[s5,a5])
  ⟨af,af,af,af,af,rfl,⟨[],by simp⟩⟩
 refine⟨c',?_,h1⟩;have e2:=(gH (g:=ay 3) (b:=uB) it).trans e1;rw[iw,gp,Nd];generalize cA (bF (ag (eB bu (ag (eV 0) ak)) ak)) (ay 3) uB=E at e2 |-
 erw[e2]
end
theorem XY{α:Type}{e:α->D}{l:List α}{a:α}(h:c[n]? =ae (.lst (l.map e)))(hn:l.length<=1000):dm (.ref n) [e a] c=ae (.aX,c.set n (.lst ((l++[a]).map e))):=by
 unfold dm one;simp only[aY h,aag];rw[if_pos (show(l.map e).length<cC by rw[dF,aas];omega)];simp
noncomputable abbrev XZ:XS:=d_ (eM dm (eV 1) (ag (au iL [] (ag (au dH [] (ag (eV 0) (ag (e2 bK (eC (.int 1)) (eV 3)) ak))) (ag (eV 1) ak))) ak))
noncomputable abbrev Qw:XE:=e2 bK (eC (.int 1)) (au aQ [] (ag (au dH [] (ag (eI (ag (eB DZ (ag (eV 0) ak)) ak)) (ag (eC (.int 0)) ak))) (ag (eC (.int 6)) ak)))
noncomputable abbrev X0:XS:=cA (bF (ag (eB yf (ag (eV 2) (ag (eB ye (ag (eC (.int 1)) (ag (e2 bG (eB bu (ag (eV 0) ak)) (eC (.int 1))) ak))) ak))) ak)) (ay 3) XZ
theorem d2_(h:ns.length<=63):∃d c',Qw (ae (.ref 0)::ae (.ref 1)::σ) [.ro (ns.map D.int),.lst []]=ae (.int (1+d),c')/\0<=d/\d<6/\c'[0]? =ae (.ro (ns.map D.int))/\c'[1]? =ae (.lst []):=by
 have su:DZ [.ref 0] [.ro (ns.map D.int),.lst []]=ae (.int (ns.foldl (λa b=>a+b) 0),[.ro (ns.map D.int),.lst []]):=by
  unfold DZ one;simp only
  rw[vk (c:=[.ro (ns.map D.int),.lst []]) (n:=0) rfl,aag,AJ,aag,if_pos (by omega)]
 generalize ns.foldl (λa b=>a+b) 0=t at su;obtain⟨a,b,e1,a0,b0⟩:=Hn (s:=2) (c:=[.ro (ns.map D.int),.lst [],.lst [.int t]]) (ns:=[t]) (k:=0) rfl (by decide) (by decide);obtain⟨d,c',e2,d0,d6,_,k1⟩:=er (n:=3) (c:=[.ro (ns.map D.int),.lst [],.lst [.int t]]++[.lst [.int a,.int b]]) (m:=6) ⟨a,b,rfl,a0,b0⟩ (by decide) ((D_ (by omega)).mono (by decide));refine⟨d,c',?_,d0,d6,k1.get (i:=0) rfl (by decide),k1.get (i:=1) rfl (by decide)⟩;have Pz:dH [.ref 2,.int 0] [.ro (ns.map D.int),.lst [],.lst [.int t]]=ae (.ref 3,[.ro (ns.map D.int),.lst [],.lst [.int t]]++[.lst [.int a,.int b]]):=e1;generalize hC: [Cell.ro (ns.map D.int),.lst [],.lst [.int t]]++[.lst [.int a,.int b]]=C at Pz e2;erw[su,Pz,e2]
theorem d3_{m:Int}{R:Qm.Env}(h:ns.length<=63)(m1: 1<=m)(m6:m<=6)(h0:c[0]? =ae (.ro (ns.map D.int)))(h1:c[1]? =ae (.lst [])):
  ∃(IN:List S2) (z3:Option D) (c':Cells),X0 (ae (.ref 0)::ae (.ref 1)::ae (.int m)::y3::R) c=ae (.nx,ae (.ref 0)::ae (.ref 1)::ae (.int m)::z3::R,c')/\c'[1]? =ae (.lst (IN.map aE))/\(∀s∈IN,InK s)/\IN.length<=6:=by
 have bl:bu [.ref 0] c=ae (.int ns.length,c):=by rw[vm,vk h0];simp
 obtain⟨N,hN,N6⟩:∃N:Nat,(if (if (ns.length:Int) - 1 > 1 then(ns.length:Int) - 1 else 1)<m then(if (ns.length:Int) - 1 > 1 then(ns.length:Int) - 1 else 1)else m)=(N:Int)/\N<=6:=by
  refine⟨(if (if (ns.length:Int) - 1 > 1 then(ns.length:Int) - 1 else 1)<m then(if (ns.length:Int) - 1 > 1 then(ns.length:Int) - 1 else 1)else m).toNat,?_,?_⟩<;>split<;>split at*<;>omega
 have it:bF (ag (eB yf (ag (eV 2) (ag (eB ye (ag (eC (.int 1)) (ag (e2 bG (eB bu (ag (eV 0) ak)) (eC (.int 1))) ak))) ak))) ak) (ae (.ref 0)::ae (.ref 1)::ae (.int m)::y3::R) c=ae (⟨Qm.cN 0 N,[]⟩,c):=gM (j:=(N:Int)) (by rw[<-hN];erw[bl]) (by omega);obtain⟨σ',c',e1,z3,IN,rfl,_,g1,o1,l1⟩:=cg (ks:=[]) (g:=ay 3) (body:=XZ)
  (λi σ c'=>∃(z3:Option D) (IN:List S2),σ=(ae (.ref 0)::ae (.ref 1)::ae (.int m)::z3::R)/\c'[0]? =ae (.ro (ns.map D.int))/\c'[1]? =ae (.lst (IN.map aE))/\(∀s∈IN,InK s)/\IN.length=i)
  (Qm.cN 0 N) 0 (ae (.ref 0)::ae (.ref 1)::ae (.int m)::y3::R) c (λ_ _ _ _ _ h=>(nomatch h))
  (by
   rintro i d σ c' hd ⟨z3,IN,rfl,g0,g1,o1,l1⟩;obtain⟨si,rfl⟩:=gW hd;rw[ab3];obtain⟨a,b,f1,a0,b0⟩:=UC (k:=1+(i:Int)) g0 (by omega) (by omega);have n1: 1≠c'.length:=by have:=bM g1;omega
   have n0: 0≠c'.length:=by have:=bM g1;omega
   obtain⟨s,c2,f2,sk,_,k2⟩:=UU (n:=c'.length) (kn:=1) (c:=c'++[.lst [.int a,.int b]]) ⟨a,b,bh,a0,b0⟩ (bH g1) n1 o1 (by omega);have ap:=XY (e:=aE) (a:=s) (k2.get (bH g1) n1) (by omega);refine⟨ae (.ref 0)::ae (.ref 1)::ae (.int m)::ae (.int (i:Int))::R,c',ae (.ref 0)::ae (.ref 1)::ae (.int m)::ae (.int (i:Int))::R,c2.set 1 (.lst ((IN++[s]).map aE)),rfl,?_,ae (.int (i:Int)),IN++[s],rfl,cJ (k2.get (bH g0) n0) (by decide),jv (bM (k2.get (bH g1) n1)),λr hr=>?_,by simp;omega⟩
   .erw[aY g1,f1,f2,ap]
   .rcases aaJ.mp hr with hr|hr
    .exact o1 r hr
    .rw[aak.mp hr];exact sk)
  ⟨y3,[],rfl,h0,h1,λ_ h=>(nomatch h),rfl⟩
 have ll:(Qm.cN 0 N).length=N:=by simp[Qm.cN]
 exact⟨IN,z3,c',(gH it).trans e1,g1,o1,by omega⟩
noncomputable abbrev Qx:XE:=dh (ki (ag (eC (.int 1)) (ag (eB bu (ag (eV 7) ak)) ak))) [af,ae 7] (ay 0) eX (e2 Il (e2 ar (eV 1) (e2 bG (eV 0) (eC (.int 1)))) (e2 ar (eV 1) (eV 0)))
noncomputable abbrev U4:XS:=bZ (gc (eG (tV (eB fT (ag (eV 7) (ag (eC (.ty "list")) ak))))) (gc (tV (e2 jl (eV 7) (eI ak))) (tV (eB ko (ag Qx ak))))) (aK (eC (.bl false))) aT
theorem X1{A1 A3 A4 A6 A8:Option D}{M:Nat}{l:List Int}(hM:c[M]? =ae (.lst (l.map D.int)))(hs:l.Pairwise (·< ·))(ne:l≠[])(hn:l.length<=1000000):
  ∃c',Qx [A0,A1,A2,A3,A4,A5,A6,ae (.ref M),A8] c=ae (.ref c.length,c')/\c <+:c'/\ko [.ref c.length] c'=ae (.bl false,c'):=by
 have l0: 0<l.length:=ahk.mpr ne;have bl:=i9 (e:=D.int) hM;have it:ki (ag (eC (.int 1)) (ag (eB bu (ag (eV 7) ak)) ak)) [A0,A1,A2,A3,A4,A5,A6,ae (.ref M),A8] c=ae (⟨cN 1 ((l.length:Int) - 1).toNat,[]⟩,c):=G_ (by erw[bl]) (by decide) (by omega);obtain⟨vs,c1,e1,p1,g1,l1,r1⟩:=vp (te:=e2 Il (e2 ar (eV 1) (e2 bG (eV 0) (eC (.int 1)))) (e2 ar (eV 1) (eV 0))) (g:=ay 0) (cap:=[af,ae 7]) (σ:=[A0,A1,A2,A3,A4,A5,A6,ae (.ref M),A8]) (λτ=>∃y,τ=[y,ae (.ref M)]) (λi v c'=>v= .bl false) it ef ⟨af,rfl⟩ (λ_ _ _ _ h _=>h)
  (by
   rintro i d hd τ c' ⟨y,vt⟩ pc lc;subst vt;obtain⟨hi,rfl⟩:=gW hd;have h1:i<l.length:=by omega
   have h2:i+1<l.length:=by omega
   have x1:=ze (e:=D.int) (aA pc hM) (aac h1);have x2:=ze (e:=D.int) (aA pc hM) (aac h2);have lt:=ac9.mp hs i (i+1) h1 h2 (by omega);generalize l[i]=u at*;generalize l[i+1]=v at*;have i1:(1:Int)+(i:Int) - 1=(i:Int):=by omega
   have i2:(1:Int)+(i:Int)=((i+1:Nat):Int):=by omega
   have U3:ar (.ref M) (.int (1+(i:Int))) c'=ae (.int v,c'):=by rw[i2];exact x2
   have ge:Il (.int u) (.int v) c'=ae (.bl false,c'):=by rw[Ra];congr 3;exact decide_eq_false (by omega)
   refine⟨[ae (.int (1+(i:Int))),ae (.ref M)],.bl false,[],rfl,?_,⟨_,rfl⟩,rfl⟩;simp (disch:=walk_at "dis") only[TF,TC,TB,Me,i1,x1,U3,ge,aeq,adv,agk,aag,aa5])
  (by simp[Qm.cN];omega)
 have hv:vs=ab7 vs.length (D.bl false):=aeX.mpr ⟨rfl,λb hb=>by
  obtain⟨i,hi⟩:=aaS hb;exact r1 i b hi⟩
 rw[hv]at g1;exact⟨c1,e1,p1,anyF g1⟩
theorem X2{A1 A3 A4 A7 A8:Option D}{fs:List Nat}{Jn:Nat->List Int}(hn:c[n]? =ae (.lst (fs.map D.ref)))(hr:∀m∈fs,c[m]? =ae (.lst ((Jn m).map D.int))/\(Jn m).Pairwise (·< ·)/\Jn m≠[]/\(Jn m).length<=1000000):
  ∃z7 c',cA (iT (eV 6)) (ay 7) U4 [A0,A1,A2,A3,A4,A5,ae (.ref n),A7,A8] c=ae (.nx,[A0,A1,A2,A3,A4,A5,ae (.ref n),z7,A8],c')/\c <+:c':=by
 obtain⟨σ',c',e1,z7,rfl,h1⟩:=cg (ks:=[(n,.lst (fs.map D.ref))]) (g:=ay 7) (body:=U4)
  (λ_ σ c'=>∃z7,σ=[A0,A1,A2,A3,A4,A5,ae (.ref n),z7,A8]/\c <+:c')
  (fs.map D.ref) 0 [A0,A1,A2,A3,A4,A5,ae (.ref n),A7,A8] c (λ_ _ c' ⟨_,_,p⟩ q hq=>by cases aak.mp hq;exact aA p hn)
  (by
   rintro i d σ c' hd ⟨z7,rfl,h1⟩;rw[aaq]at hd;obtain⟨m,hm,rfl⟩:=aax.mp hd;obtain⟨r1,r2,r3,r4⟩:=hr m (aaf hm);have X3:=aA h1 r1;have il:=Uz X3;have r5:(c'++[Cell.lst []])[m]? =ae (.lst ((Jn m).map D.int)):=aA ⟨_,rfl⟩ X3;have en:jl (.ref m) (.ref c'.length) (c'++[.lst []])=ae (.bl false,c'++[.lst []]):=by
    unfold jl;rw[aY r5,aY (xs:=[]) (by simp)];cases e:Jn m with
    |nil=>exact absurd e r3
    |cons a l=>rfl
   have ln: 0<=cC:=abk _;obtain⟨c2,f1,p1,a1⟩:=X1 (A0:=A0) (A1:=A1) (A2:=A2) (A3:=A3) (A4:=A4) (A5:=A5) (A6:=ae (.ref n)) (A8:=A8) r5 r2 r3 r4;refine⟨[A0,A1,A2,A3,A4,A5,ae (.ref n),ae (.ref m),A8],c',[A0,A1,A2,A3,A4,A5,ae (.ref n),ae (.ref m),A8],c2,rfl,?_,ae (.ref m),rfl,h1.trans (afr ⟨_,rfl⟩ p1)⟩;show bZ (gc (eG (tV (eB fT (ag (eV 7) (ag (eC (.ty "list")) ak))))) (gc (tV (e2 jl (eV 7) (eI ak))) (tV (eB ko (ag Qx ak))))) (aK (eC (.bl false))) aT _ _=_;generalize Qx=E at f1 |-
   erw[il,ln,en,f1,a1])
  ⟨A7,rfl,⟨[],by simp⟩⟩
 exact⟨z7,c',(gH (vo (a:=eV 6) rfl hn)).trans e1,h1⟩
def sw(s:S2):S2:=(s.2,s.1)
noncomputable abbrev Qy:XE:=dh (D0 (ag (eV 1) ak)) [af] (ay 0) eX (cH (ag (e2 ar (eV 0) (eC (.int 1))) (ag (e2 ar (eV 0) (eC (.int 0))) ak)))
theorem EF{α:Type}(l:List α):l.filter (λ_=>true)=l:=List.filter_eq_self.mpr λ_ _=>rfl
theorem r8_{R:Qm.Env}{g:Nat}(hg:c[g]? =ae (.lst (IN.map aE)))(hl:IN.length<=1000):
  Qy (A0::ae (.ref g)::R) c=ae (.ref c.length,c++[.lst ((IN.reverse.map sw).map aE)]):=by
 have it:D0 (ag (eV 1) ak) (A0::ae (.ref g)::R) c=ae (⟨IN.reverse.map aE,[(g,.lst (IN.map aE))]⟩,c):=by
  unfold D0;have ha:ag (eV 1) ak (A0::ae (.ref g)::R) c=ae ([.ref g],c):=by erw[]
  rw[ha,aag];simp only[hg,aY hg,aag,List.map_reverse]
 have e:=Nc (e:=aE) (l:=IN.reverse) (ρ:=[]) (x:=af) (tt:=eX) (te:=cH (ag (e2 ar (eV 0) (eC (.int 1))) (ag (e2 ar (eV 0) (eC (.int 0))) ak))) (cap:=[af]) (λ_=>true) (λs=>aE (sw s)) it rfl (λp hp=>by cases aak.mp hp;exact hg) (λa _ c' _=>rfl) (λa _ c' _=>by
  erw[zd,AV];rfl) (by simp;omega)
 rw[EF]at e;rw[aa2];exact e
theorem U5(h:InK s):InK (sw s):=⟨⟨h.ok.o2,h.ok.o1⟩,h.ne.symm⟩
theorem Ng(h:InK s):bI (sw s)=bI s:=by
 unfold bI;exact(My.D6 h.ok.o1.cS h.ok.o2.cS h.ne)
theorem Jo(hI:∀s∈IN,InK s)(a:zP IN S)(b:zP (IN.reverse.map sw) T)(t:S2):t∈S↔t∈T:=by
 have m1:t∈S↔∃s∈IN,bI s=t:=by
  rw[a.mem];constructor
  .rintro⟨k,_,e⟩
   obtain⟨s,hs,e⟩:=aax.mp e;exact⟨s,aaf hs,e⟩
  .rintro⟨s,hs,e⟩
   obtain⟨k,hk⟩:=aaS hs;exact⟨k,(aae.mp hk).1,by rw[hk];exact congrArg ae e⟩
 have m2:t∈T↔∃s∈IN.reverse.map sw,bI s=t:=by
  rw[b.mem];constructor
  .rintro⟨k,_,e⟩
   obtain⟨s,hs,e⟩:=aax.mp e;exact⟨s,aaf hs,e⟩
  .rintro⟨s,hs,e⟩
   obtain⟨k,hk⟩:=aaS hs;exact⟨k,(aae.mp hk).1,by rw[hk];exact congrArg ae e⟩
 rw[m1,m2];constructor
 .rintro⟨s,hs,e⟩
  exact⟨sw s,aaN (ae4.mpr hs),by rw[Ng (hI s hs)];exact e⟩
 .rintro⟨s,hs,e⟩
  obtain⟨r,hr,rfl⟩:=aaE.mp hs;exact⟨r,ae4.mp hr,by rw[<-Ng (hI r (ae4.mp hr))];exact e⟩
open Classical in
theorem X4{x y:D}{p q:PyData}(hx:data c 60 x=ae p)(hy:data c 60 y=ae q)(h:p=q):Ah x y c=ae (.bl true,c)/\DK x y c=ae (.bl false,c):=by
 subst h;unfold Ah DK DJ;rw[hx,hy];simp
noncomputable abbrev X5:XS:=bZ (gc (eG (tV (eB fT (ag (eV 5) (ag (eC (.ty "list")) ak))))) (gc (eG (tV (eB fT (ag (eV 6) (ag (eC (.ty "list")) ak))))) (gc (tV (e2 iS (eB bu (ag (eV 6) ak)) (eB bu (ag (eV 5) ak)))) (tV (e2 DK (eV 1) (eV 4)))))) (aK (eC (.bl false))) aT
noncomputable abbrev X6:XS:=bZ (gc (eG (tV (au fC [] (ag (eV 5) (ag (au gG [] (ag (eV 1) ak)) ak))))) (eG (tV (au iw [] (ag (eV 1) (ag (eV 5) (ag (eV 6) ak))))))) (aK (eC (.bl false))) aT
theorem Jp(x y:Nat):Cc x y=aw (aB 1 (eI ak)) (aw (aB 2 Qw) (aw X0 (aw (aB 4 (eB nO (ag (eV 1) ak))) (aw (aB 5 (au (gS x y) [] (ag (eV 1) ak))) (aw (aB 6 (au (fB x y) [] (ag (eV 1) ak))) (aw X5 (aw (cA (iT (eV 6)) (ay 7) U4) (aw X6 (aw (aB 8 Qy) (aK (e2 Ah (au (gS x y) [] (ag (eV 8) ak)) (eV 5)))))))))))):=rfl
theorem Jq(x y:Nat)(hn:x≠y)(ns:List Int)(h:ns.length<=63):∃c,yH x y [.ref 0] [.ro (ns.map Qm.D.int)]=ae (.bl true,c):=by
 obtain⟨d,c1,a1,d0,d6,g0,g1⟩:=d2_ (σ:=[af,af,af,af,af,af,af]) h;obtain⟨IN,z3,c2,a2,g2,hI,hl⟩:=d3_ (y3:=af) (R:=[af,af,af,af,af]) (m:=1+d) h (by omega) (by omega) g0 g1;have qN:∀s∈IN,v7 s:=λs hs=>(hI s hs).in
 have bl:nO [.ref 1] c2=ae (.ref c2.length,c2++[.lst (IN.map aE)]):=by
  unfold nO one;show(cq (D.ref 1) c2).bind _=_;rw[aU g2];rfl
 have Qo:(c2++[Cell.lst (IN.map aE)])[c2.length]? =ae (.lst (IN.map aE)):=bh;have g3:(c2++[Cell.lst (IN.map aE)])[1]? =ae (.lst (IN.map aE)):=bH g2;obtain⟨S,w,f,c4,e4,p4,l4,f4,Nh,o4,w4⟩:=Er hn g3 qN (by omega);have g4:=aA p4 g3;obtain⟨S',w',n,c5,e5,p5,l5,f5,r5,nd5,U6,o5,w5⟩:=Qg hn g4 qN (by omega);have g5:=aA p5 g4;have Ni:=aA p5 f4;have UR:=aA p5 (aA p4 Qo);have same:∀t,t∈S↔t∈S':=λt=>by rw[Nh.mem,U6.mem]
 have kk:=AR same o4 o5;have wl:w.length=w'.length:=by have:=congrArg List.length kk;simpa[keys]using this
 have zl:(keys w).length<=1000000:=by simp[keys];omega
 -- rows
 have rf:∀m∈ids w',c5[m]? =ae (.lst ((rowOf IN w' m).map D.int))/\(rowOf IN w' m).Pairwise (·< ·)/\rowOf IN w' m≠[]/\(rowOf IN w' m).length<=1000000:=λm hm=>by
  obtain⟨v,hv,rfl⟩:=aaE.mp hm;show c5[v.2.1]? =ae (.lst ((rowOf IN w' v.2.1).map D.int))/\(rowOf IN w' v.2.1).Pairwise (·< ·)/\rowOf IN w' v.2.1≠[]/\(rowOf IN w' v.2.1).length<=1000000;rw[Hl nd5 v hv];refine⟨(r5 v hv).2.2,AL IN v.1,λe=>?_,?_⟩
  .obtain⟨s,hs,k⟩:=(o5.key v.1).mp (aaN hv)
   obtain⟨i,hi,e'⟩:=(U6.mem s).mp hs;obtain⟨u,hu,rfl⟩:=aax.mp e';have du:=(hI u (aaf hu)).sd;obtain⟨o1,o2⟩:=k.on (U6.sd hI) hs;have b:=Cv (z:=v.1) hu;rw[((qF du).mp o1).2,((qF du).mp o2).2,e]at b;simp at b
  .unfold pR
   rw[aas];refine aa7 (aeW _ _) ?_;rw[ahP];omega
 have rows:Rows IN (keys w) n (ids w') c5:=⟨f5,λj z hz=>by
  rw[kk]at hz;unfold keys at hz;rw[aaq]at hz;obtain⟨v,hv,rfl⟩:=aax.mp hz;refine⟨v.2.1,?_,(r5 v (aaf hv)).2.2⟩;unfold ids;rw[aaq,hv];rfl⟩
 obtain⟨z7,c7,a7,p7⟩:=X2 (A0:=ae (.ref 0)) (A1:=ae (.ref 1)) (A2:=ae (.int (1+d))) (A3:=z3) (A4:=ae (.ref c2.length)) (A5:=ae (.ref f)) (A7:=af) (A8:=af) f5 rf
 -- X7,U7,Yf
 obtain⟨m,cs,c8,e8,h8,p8,l8,n8,X8⟩:=Gd hI (aA p7 g5) (by omega);have cr:=U2 hI Nh o4 X8;obtain⟨c9,e9,p9⟩:=EB cr (aA p8 (aA p7 Ni)) h8 zl (by omega);have Qz:=p7.trans (p8.trans p9);have iE:∀s∈IN,ch (bI s).1 ((keys w).filter λz=>My.cF z.1 s.1 s.2&&My.cF z.2 s.1 s.2) (bI s).2:=λs hs=>by
  obtain⟨k,hk⟩:=aaS hs;have ms:bI s∈S:=(Nh.mem _).mpr ⟨k,(aae.mp hk).1,by rw[hk];rfl⟩;have q:=MN (Nh.sd hI) ms (vB (qN s hs)).2.2 o4.Z_ o4.key;have sd:=(hI s hs).sd;have e:(λz:S2=>My.cF z.1 (bI s).1 (bI s).2&&My.cF z.2 (bI s).1 (bI s).2)=λz=>My.cF z.1 s.1 s.2&&My.cF z.2 s.1 s.2:=by
   funext z
   rw[j4 sd.l1 sd.l2 sd.ne,j4 sd.l1 sd.l2 sd.ne]
  rw[e]at q;exact q
 obtain⟨Cw,e10,p10⟩:=Nf hI cr.ok iE (aA Qz g5) (aA Qz Ni) (rows.up Qz) (by omega) zl;have Rp:=Qz.trans p10
 -- told U8
 have X9:=r8_ (A0:=ae (.ref 0)) (R:=[ae (.int (1+d)),z3,ae (.ref c2.length),ae (.ref f),ae (.ref n),z7,af]) (aA Rp g5) (by omega);have hb:(Cw++[Cell.lst ((IN.reverse.map sw).map aE)])[Cw.length]? =ae (.lst ((IN.reverse.map sw).map aE)):=bh;have hJ:∀s∈IN.reverse.map sw,v7 s:=λs hs=>by
  obtain⟨r,hr,rfl⟩:=aaE.mp hs;exact(U5 (hI r (ae4.mp hr))).in
 obtain⟨T,v,q,X_,e12,p12,l12,U9,Ya,o12,w12⟩:=Er hn hb hJ (by simp;omega);have kv:=AR (Jo hI Nh Ya) o4 o12;have Yb:=aA p12 (bH (aA Rp Ni));have ew:=(X4 (lR (k:=56) U9) (lR (k:=56) Yb) (by rw[kv])).1;have nw:=(X4 (c:=c5) (lR (k:=56) g5) (lR (k:=56) UR) rfl).2;have il5:=Uz Ni;have il6:=Uz f5;have b5:=i9 (e:=aE) Ni;have b6:=i9 (e:=D.ref) f5;have ll:((ids w').length:Int)=((keys w).length:Int):=by simp[ids,keys,wl]
 have ln: 0<=cC:=abk _;refine⟨X_,?_⟩;rw[yH,gp,Jp];have s1:aB 1 (eI ak) [ae (.ref 0),af,af,af,af,af,af,af,af] [.ro (ns.map D.int)]=ae (.nx,[ae (.ref 0),ae (.ref 1),af,af,af,af,af,af,af],[.ro (ns.map D.int),.lst []]):=by
  erw[ln]
 have s2:aB 2 Qw [ae (.ref 0),ae (.ref 1),af,af,af,af,af,af,af] [.ro (ns.map D.int),.lst []]=ae (.nx,[ae (.ref 0),ae (.ref 1),ae (.int (1+d)),af,af,af,af,af,af],c1):=by
  generalize Qw=E at a1 |-
  erw[a1]
 have s4:aB 4 (eB nO (ag (eV 1) ak)) [ae (.ref 0),ae (.ref 1),ae (.int (1+d)),z3,af,af,af,af,af] c2=ae (.nx,[ae (.ref 0),ae (.ref 1),ae (.int (1+d)),z3,ae (.ref c2.length),af,af,af,af],c2++[.lst (IN.map aE)]):=by
  erw[bl]
 have s5:aB 5 (au (gS x y) [] (ag (eV 1) ak)) [ae (.ref 0),ae (.ref 1),ae (.int (1+d)),z3,ae (.ref c2.length),af,af,af,af] (c2++[.lst (IN.map aE)])=ae (.nx,[ae (.ref 0),ae (.ref 1),ae (.int (1+d)),z3,ae (.ref c2.length),ae (.ref f),af,af,af],c4):=by
  erw[e4]
 have s6:aB 6 (au (fB x y) [] (ag (eV 1) ak)) [ae (.ref 0),ae (.ref 1),ae (.int (1+d)),z3,ae (.ref c2.length),ae (.ref f),af,af,af] c4=ae (.nx,[ae (.ref 0),ae (.ref 1),ae (.int (1+d)),z3,ae (.ref c2.length),ae (.ref f),ae (.ref n),af,af],c5):=by
  erw[e5]
 have s7:X5 [ae (.ref 0),ae (.ref 1),ae (.int (1+d)),z3,ae (.ref c2.length),ae (.ref f),ae (.ref n),af,af] c5=ae (.nx,[ae (.ref 0),ae (.ref 1),ae (.int (1+d)),z3,ae (.ref c2.length),ae (.ref f),ae (.ref n),af,af],c5):=by
  erw[il5,il6,b5,b6,ll,nw]
 have s8:X6 [ae (.ref 0),ae (.ref 1),ae (.int (1+d)),z3,ae (.ref c2.length),ae (.ref f),ae (.ref n),z7,af] c7=ae (.nx,[ae (.ref 0),ae (.ref 1),ae (.int (1+d)),z3,ae (.ref c2.length),ae (.ref f),ae (.ref n),z7,af],Cw):=by
  erw[e8,e9,e10]
 have s9:aB 8 Qy [ae (.ref 0),ae (.ref 1),ae (.int (1+d)),z3,ae (.ref c2.length),ae (.ref f),ae (.ref n),z7,af] Cw=ae (.nx,[ae (.ref 0),ae (.ref 1),ae (.int (1+d)),z3,ae (.ref c2.length),ae (.ref f),ae (.ref n),z7,ae (.ref Cw.length)],Cw++[.lst ((IN.reverse.map sw).map aE)]):=by
  generalize Qy=E at X9 |-
  erw[X9]
 have Wd:aK (e2 Ah (au (gS x y) [] (ag (eV 8) ak)) (eV 5)) [ae (.ref 0),ae (.ref 1),ae (.int (1+d)),z3,ae (.ref c2.length),ae (.ref f),ae (.ref n),z7,ae (.ref Cw.length)] (Cw++[.lst ((IN.reverse.map sw).map aE)])=ae (.rt (.bl true),[ae (.ref 0),ae (.ref 1),ae (.int (1+d)),z3,ae (.ref c2.length),ae (.ref f),ae (.ref n),z7,ae (.ref Cw.length)],X_):=by
  erw[e12,ew]
 have all:=aZ s1 (aZ s2 (aZ a2 (aZ s4 (aZ s5 (aZ s6 (aZ s7 (aZ a7 (aZ s8 (aZ s9 Wd)))))))));generalize aw (aB 1 (eI ak)) _=E at all |-
 erw[all]
end dE
set_option maxHeartbeats 4000000
namespace dE
open PySem L2
open PyProof.Rows
local macro_rules|`(tactic|walk_at "sc")=>`(tactic|exact⟨rfl,rfl,rfl,by decide +kernel,rfl,by decide +kernel,by decide +kernel⟩)
def top(i:Nat):Stmt:=PySem.Challenge.pw_sheetlay_k88_whole_sides_cut_exactly.main.body.getD i (.Pass ⟨0,0,0,0⟩)
set_option genInjectivity false in
structure Yc where
 zf:Addr
 zg:aaC
 Hs:Addr
 Ht:aaC
 v8:Addr
 v9:aaC
 dB:Addr
 EG:aaC
 zh:Addr
 zi:aaC
 Hu:Addr
 Hv:aaC
 Hw:Addr
 Hx:aaC
 bj:Addr
 qY:aaC
 AX:Addr
 AY:aaC
 oC:Addr
 oD:aaC
 v_:Addr
 wa:aaC
 zj:Addr
 zk:aaC
 zm:Addr
 zo:aaC
 wc:Addr
 we:aaC
 ny:Addr
 nA:aaC
 wg:Addr
 wj:aaC
 AZ:Addr
 A9:aaC
 EH:Addr
 EI:aaC
 qZ:Addr
 q_:aaC
 kO:Addr
 kQ:aaC
 Nj:Addr
 Nk:aaC
 A_:Addr
 Ba:aaC
 pX:Addr
 pY:aaC
 wk:Addr
 wm:aaC
 uC:Addr
 uD:aaC
 uE:Addr
 uF:aaC
 uG:Addr
 uH:aaC
 rg:Addr
 rh:aaC
 rl:Addr
 rn:aaC
 wo:Addr
 wq:aaC
 rA:Addr
 rB:aaC
 pZ:Addr
 p_:aaC
 wt:Addr
 wu:aaC
 rC:Addr
 rD:aaC
 rE:Addr
 rF:aaC
 rG:Addr
 rH:aaC
 wx:Addr
 wy:aaC
 wA:Addr
 wC:aaC
 wD:Addr
 wF:aaC
 qa:Addr
 qb:aaC
 Bb:Addr
 Bc:aaC
 nB:Addr
 nC:aaC
 rJ:Addr
 rK:aaC
 Nl:Addr
 Cy:aaC
structure FD(K:aaa)(mg:Str->Option aai)(x:Str)(i:Nat)(ps:List Str)(f:Addr)(d:aaC):Prop where
 F:Dc K x x (top i) f d
 m:mg x=ae (.ref f)
 b:Binds K d ps []
structure FE(K:aaa)(mg:Str->Option aai)(x:Str)(i:Nat)(ps:List Str)(f:Addr)(d:aaC):Prop where
 F:z9 K x x (top i) f d
 m:mg x=ae (.ref f)
 b:Binds K d ps []
variable{f:Addr}{ps:List Str}
theorem bq{X:Cx}{e:abl}{es:List abl}{pos p:Pos}{k n i:Nat}{fd:aaC}{F:Qm.FN}{x:Str}{fx:Qm.XA}(G:bE X.prog X.w X.K X.mg X.base cU k f fd ps (dq X.K F))(D:FD X.K X.mg x i ps f fd)(hr:fq n X.A)(ha:QA X (e::es) fx)(hl:k<=n:=by decide)
  (hg:Gl X x:=by rfl)(hd:(x=="__debug__")=false:=by decide)(he:aau (e::es) X.env=(false,adL e X.env)::aau es X.env:=by rfl)(hp:(acy pos (aau es X.env)).any (·.1)=false:=by rfl):QE X (.Call (.Name x p) (e::es) [] pos) (Qm.au F [] fx):=WE G D.m D.F.kp D.b (hr.mono hl) ha hg hd he hp
structure Txt(K:aaa)(mg:Str->Option aai)(t:Yc):Prop where
 sO:FD K mg "divisor" 1 ["n","m"] t.zf t.zg
 xE:FE K mg "spot" 3 ["x","y","w"] t.Hs t.Ht
 wG:FD K mg "is_below" 4 ["p","q"] t.v8 t.v9
 fE:FD K mg "ahead" 5 ["p","q"] t.dB t.EG
 kR:FD K mg "crossed" 6 ["p","q"] t.zh t.zi
 Hy:FD K mg "sign" 7 ["n"] t.Hu t.Hv
 Cz:FD K mg "turn" 8 ["a","b","c"] t.Hw t.Hx
 iz:FD K mg "loop_ahead" 21 ["one","other"] t.bj t.qY
 Be:FD K mg "merged" 9 ["left","right","first"] t.AX t.AY
 oE:FD K mg "merged_pairs" 10 ["runs","first"] t.oC t.oD
 lS:FD K mg "in_order" 11 ["some","first"] t.v_ t.wa
 kT:FD K mg "forward" 13 ["side"] t.zj t.zk
 zp:FD K mg "on_side" 14 ["p","side"] t.zm t.zo
 qc:FD K mg "turns_to" 15 ["side","other"] t.wc t.we
 nD:FD K mg "common_in_row" 16 ["one","other"] t.ny t.nA
 wH:FD K mg "crossing" 17 ["one","other"] t.wg t.wj
 Bf:FD K mg "common" 18 ["one","other"] t.AZ t.A9
 EJ:FD K mg "along" 19 ["side","some"] t.EH t.EI
 rL:FD K mg "corners_on" 23 ["sides"] t.qZ t.q_
 kU:FD K mg "numbers_by_side" 24 ["sides"] t.kO t.kQ
 Gg:FD K mg "cut" 25 ["sides"] t.Nj t.Nk
 vE:FD K mg "pieces" 26 ["sides"] t.A_ t.Ba
 qd:FD K mg "piece_paper" 27 ["sides"] t.pX t.pY
 qe:FD K mg "_law_pool" 29 ["_law_script","_law_k"] t.wk t.wm
 bB:FD K mg "_law_digit" 30 ["_law_pool_here","_law_many"] t.uC t.uD
 oi:FD K mg "_law_drawn" 31 ["_law_pool_here"] t.uE t.uF
 uI:FD K mg "_law_below" 32 ["_law_pool_here"] t.uG t.uH
 mh:FD K mg "_law_shared" 33 ["_law_a","_law_b"] t.rg t.rh
 cW:FD K mg "_law_lowest" 34 ["_law_x","_law_y","_law_w"] t.rl t.rn
 lT:FD K mg "_law_spot" 35 ["_law_pool_here"] t.wo t.wq
 rM:FD K mg "_law_unlike" 36 ["_law_p","_law_some"] t.rA t.rB
 kW:FD K mg "_law_between" 37 ["_law_pool_here","_law_a","_law_b"] t.pZ t.p_
 qf:FD K mg "_law_lone" 38 ["_law_x","_law_y","_law_w"] t.wt t.wu
 rN:FD K mg "_law_in_row" 39 ["_law_mine","_law_theirs","_law_w"] t.rC t.rD
 jw:FD K mg "_law_across" 40 ["_law_a","_law_b"] t.rE t.rF
 jx:FD K mg "_law_shares" 41 ["_law_one","_law_other"] t.rG t.rH
 jM:FD K mg "_law_left" 42 ["_law_p","_law_q"] t.wx t.wy
 qg:FD K mg "_law_tame" 43 ["_law_pool_here","_law_p"] t.wA t.wC
 wI:FD K mg "_law_next" 44 ["_law_pool_here","_law_some"] t.wD t.wF
 qh:FD K mg "_law_corners" 45 ["_law_sides"] t.qa t.qb
 qG:FD K mg "_law_on" 46 ["_law_p","_law_side"] t.Bb t.Bc
 nE:FD K mg "_law_cut_right" 47 ["_law_found","_law_corners_here"] t.nB t.nC
 rO:FD K mg "_law_chains" 48 ["_law_sides","_law_found","_law_paper"] t.rJ t.rK
 Nm:FD K mg "law" 49 ["_law_script"] t.Nl t.Cy
 sT:mg "abs" =af
 Gh:mg "any" =af
 QB:mg "dict" =af
 Gi:mg "int" =af
 jy:mg "isinstance" =af
 eD:mg "len" =af
 iD:mg "list" =af
 Gj:mg "max" =af
 Nn:mg "min" =af
 dX:mg "range" =af
 EK:mg "reversed" =af
 vF:mg "sorted" =af
 U_:mg "sum" =af
 Np:mg "tuple" =af
 Gk:mg "zip" =af
section
open L2.Zu
variable{P:aaD}{w:aa9}{K:aaa}{mg:Str->Option aai}{base:Heap}{t:Yc}
theorem lU:aL ["n","m","rest"] ["n","m"] (az (top 1)):=by walk_at "sc"
theorem wJ(T:Txt K mg t):bE P w K mg base cU 1 t.zf t.zg ["n","m"] (dq K kF):=by
 refine T.sO.F.eA (n:=2) (m:=3) (B:=n_) lU rfl rfl (by decide) rfl λbr A outer s H E hr=>?_
 unfold n_;exact(aq (qt aaK (dS (iX hr.units) l_ (qv 1) aj) (aq (cu 2 lU.nd (ax iN jY (qv 0) (qv 1)))
   (aq (cu 0 lU.nd (qv 1))
   (av (cu 1 lU.nd (qv 2))))))
   (av (aD (bL jf nU (by rfl) T.sT nK (ai (qv 0) ao)))))
theorem mU:aL ["x","y","w","shared"] ["x","y","w"] (az (top 3)):=by walk_at "sc"
theorem Nq(T:Txt K mg t):bE P w K mg base cU 2 t.Hs t.Ht ["x","y","w"] (dq K uf):=by
 refine T.xE.F.eA (n:=3) (m:=4) (B:=ue) mU rfl rfl (by decide) rfl λbr A outer s H E hr=>?_
 unfold ue;exact(aq (cu 3 mU.nd (bq (wJ T) T.sO hr (ai (bq (wJ T) T.sO hr (ai (qv 0) (ai (qv 2) ao))) (ai (qv 1) ao))))
   (aq (bD (dS kj ku (qv 2) aj) (av (cu 3 mU.nd (xl (qv 3)))) aO)
   (av (aD (cR (ai (ax fY ig (qv 0) (qv 3)) (ai (ax fY ig (qv 1) (qv 3)) (ai (ax fY ig (qv 2) (qv 3)) ao))))))))
theorem CA:aL ["p","q"] ["p","q"] (az (top 4)):=by walk_at "sc"
theorem CB(T:Txt K mg t):bE P w K mg base cU 1 t.v8 t.v9 ["p","q"] (dq K lL):=by
 refine T.wG.F.eA (n:=2) (m:=2) (B:=lK) CA rfl rfl (by decide) rfl λbr A outer s H E hr=>?_
 unfold lK;exact(av (aD (e_ kj ku (ax aC aJ (aM 0 aj) (aM 1 aj)) (ax aC aJ (aM 1 aj) (aM 0 aj)) (gi _))))
theorem vG:aL ["p","q","one","other"] ["p","q"] (az (top 5)):=by walk_at "sc"
theorem gX(T:Txt K mg t):bE P w K mg base cU 2 t.dB t.EG ["p","q"] (dq K cK):=by
 refine T.fE.F.eA (n:=2) (m:=4) (B:=pK) vG rfl rfl (by decide) rfl λbr A outer s H E hr=>?_
 unfold pK;exact(aq (cu 2 vG.nd (ax aC aJ (aM 0 aj) (aM 1 aj)))
   (aq (cu 3 vG.nd (ax aC aJ (aM 1 aj) (aM 0 aj)))
   (aq (bD (dS (dj hr.units) eT (qv 2) (qv 3)) (av (aD (bq (CB T) T.wG hr (ai (qv 0) (ai (qv 1) ao))))) aO)
   (av (aD (e_ kj ku (qv 2) (qv 3) (gi _)))))))
theorem EL:aL ["p","q"] ["p","q"] (az (top 6)):=by walk_at "sc"
theorem lV(T:Txt K mg t):bE P w K mg base cU 1 t.zh t.zi ["p","q"] (dq K fK):=by
 refine T.kR.F.eA (n:=2) (m:=2) (B:=kG) EL rfl rfl (by decide) rfl λbr A outer s H E hr=>?_
 unfold kG;exact(av (aD (cR (ai (ax bP bR (ax aC aJ (aM 0 aj) (aM 1 aj)) (ax aC aJ (aM 0 aj) (aM 1 aj))) (ai (ax bP bR (ax aC aJ (aM 0 aj) (aM 1 aj)) (ax aC aJ (aM 0 aj) (aM 1 aj))) (ai (ax bP bR (ax aC aJ (aM 0 aj) (aM 1 aj)) (ax aC aJ (aM 0 aj) (aM 1 aj))) ao))))))
theorem Nr:aL ["n"] ["n"] (az (top 7)):=by walk_at "sc"
theorem Nt(T:Txt K mg t):bE P w K mg base cU 1 t.Hu t.Hv ["n"] (dq K qz):=by
 refine T.Hy.F.eA (n:=1) (m:=1) (B:=qy) Nr rfl rfl (by decide) rfl λbr A outer s H E hr=>?_
 unfold qy;exact(aq (bD (dS lZ l9 (qv 0) aj) (av (aD aj)) aO)
   (aq (bD (dS kj ku (qv 0) aj) (av (aD (xl aj))) aO)
   (av (aD aj))))
theorem EM:aL ["a","b","c","row"] ["a","b","c"] (az (top 8)):=by walk_at "sc"
theorem EN(T:Txt K mg t):bE P w K mg base cU 2 t.Hw t.Hx ["a","b","c"] (dq K og):=by
 refine T.Cz.F.eA (n:=3) (m:=4) (B:=xy) EM rfl rfl (by decide) rfl λbr A outer s H E hr=>?_
 unfold xy;exact(aq (cu 3 EM.nd (bq (lV T) T.kR hr (ai (qv 0) (ai (qv 1) ao))))
   (av (aD (bq (Nt T) T.Hy hr (ai (ax bT cE (ax bT cE (ax aC aJ (aM 3 aj) (aM 2 aj)) (ax aC aJ (aM 3 aj) (aM 2 aj))) (ax aC aJ (aM 3 aj) (aM 2 aj))) ao)))))
theorem kX:aL ["one","other","p","q"] ["one","other"] (az (top 21)):=by walk_at "sc"
theorem zq(T:Txt K mg t):bE P w K mg base cU 3 t.bj t.qY ["one","other"] (dq K fZ):=by
 refine T.iz.F.eA (n:=2) (m:=4) (B:=jm) kX rfl rfl (by decide) rfl λbr A outer s H E hr=>?_
 unfold jm;exact(aq (dZ aaK rfl (LW (by rfl) T.Gk (ai (qv 0) (ai (qv 1) ao))) (qr rfl (cZ (iZ 2 kX.nd) (cZ (iZ 3 kX.nd) ky))) (av (bD (dS (iX hr.units) l_ (qv 2) (qv 3)) (av (aD (bq (gX T) T.fE hr (ai (qv 2) (ai (qv 3) ao))))) aO)))
   (av (aD gh)))
theorem kY:aL ["left","right","first","row","k","thing"] ["left","right","first"] (az (top 9)):=by walk_at "sc"
theorem Gm(T:Txt K mg t):bE P w K mg base cU 4 t.AX t.AY ["left","right","first"] (dq K (mZ t.dB t.bj)):=by
 refine T.Be.F.eA (n:=3) (m:=6) (B:=(qA t.dB t.bj)) kY rfl rfl (by decide) rfl λbr A outer s H E hr=>?_
 unfold qA;exact(aq (cu 3 kY.nd (ff ao))
   (aq (cu 4 kY.nd aj)
   (aq (dZ aaK rfl (kA (qv 1)) (iZ 5 kY.nd) (aq (qt aaK (PW.pt (qo (dS kj ku (qv 4) (lA T.eD (qv 0))) (mM (iB (dJ (ID _ (Ao (gX T) (hr.mono (by decide)) T.fE.F.kp T.fE.b (Ao (zq T) (hr.mono (by decide)) T.iz.F.kp T.iz.b LP)) (qv 2) (ai (qv 5) (ai (aI (qv 0) (qv 4) (λ_ _=>rfl)) ao)))))))) (aq (iW (tT acm acn jg kx (qv 3) (ai (aI (qv 0) (qv 4) (λ_ _=>rfl)) ao)))
   (av (cu 4 kY.nd (ax bT cE (qv 4) aj)))))
   (av (iW (tT acm acn jg kx (qv 3) (ai (qv 5) ao))))))
   (aq (iW (tT adq ads xW yj (qv 3) (ai (mN (qv 0) (o_ (qv 4)) o9) ao)))
   (av (aD (qv 3)))))))
theorem nF:aL ["runs","first","pairs"] ["runs","first"] (az (top 10)):=by walk_at "sc"
theorem vH(T:Txt K mg t):bE P w K mg base cU 5 t.oC t.oD ["runs","first"] (dq K (eE t.dB t.bj)):=by
 refine T.oE.F.eA (n:=2) (m:=3) (B:=(fW t.dB t.bj)) nF rfl rfl (by decide) rfl λbr A outer s H E hr=>?_
 unfold fW;exact(aq (tU (i:=2) (N':=["k","first","runs"]) (cap:=[af,ae 1,ae 0]) (iQ (sc:=az (top 10)) (NN:=["runs","first","pairs"]) rfl rfl rfl (by decide +kernel) (by decide +kernel) (by decide +kernel) (by decide +kernel)) rfl (FC (by rfl) T.dX (ai aj (ai (ax bP bR (lA T.eD (qv 0)) aj) (ai aj ao)))) (λ_ _ _ _=>(dR (i:=0) (show adE (["k","first","runs"]:List Str)by decide +kernel) rfl (adA rfl))) (λ_ _ _ _=>eS) (λ_ _ _ _=>(bq (Gm T) T.Be hr (ai (aI (qv 2) (qv 0) (λ_ _=>rfl)) (ai (aI (qv 2) (ax bT cE (qv 0) aj) (λ_ _=>rfl)) (ai (qv 1) ao))))) nF.nd rfl (adA rfl) (by rfl))
   (aq (bD (dS (dj hr.units) eT (ax iN jY (lA T.eD (qv 0)) aj) aj) (av (iW (tT acm acn jg kx (qv 2) (ai (aI (qv 0) (xl aj) (λ_ _=>rfl)) ao)))) aO)
   (av (aD (qv 2)))))
theorem oj:aL ["some","first","runs"] ["some","first"] (az (top 11)):=by walk_at "sc"
theorem om(T:Txt K mg t):bE P w K mg base cU 6 t.v_ t.wa ["some","first"] (dq K (eO t.dB t.bj)):=by
 refine T.lS.F.eA (n:=2) (m:=3) (B:=(jF t.dB t.bj)) oj rfl rfl (by decide) rfl λbr A outer s H E hr=>?_
 unfold jF;exact(aq (tU (i:=2) (N':=["thing"]) (cap:=[af]) (iQ (sc:=az (top 11)) (NN:=["some","first","runs"]) rfl rfl rfl (by decide +kernel) (by decide +kernel) (by decide +kernel) (by decide +kernel)) rfl (kA (qv 0)) (λ_ _ _ _=>(dR (i:=0) (show adE (["thing"]:List Str)by decide +kernel) rfl (adA rfl))) (λ_ _ _ _=>eS) (λ_ _ _ _=>(ff (ai (qv 0) ao))) oj.nd rfl (adA rfl) (by rfl))
   (aq (qt aaK (dS lZ l9 (lA T.eD (qv 2)) aj) (av (cu 2 oj.nd (bq (vH T) T.oE hr (ai (qv 2) (ai (qv 1) ao))))))
   (av (aD (qm (dS (dj hr.units) eT (lA T.eD (qv 2)) aj) (aM 2 aj) (ff ao))))))
theorem EO:aL ["side"] ["side"] (az (top 13)):=by walk_at "sc"
theorem lW(T:Txt K mg t):bE P w K mg base cU 3 t.zj t.zk ["side"] (dq K dO):=by
 refine T.kT.F.eA (n:=1) (m:=1) (B:=kH) EO rfl rfl (by decide) rfl λbr A outer s H E hr=>?_
 unfold kH;exact(aq (bD (dJ (bq (gX T) T.fE hr (ai (aM 0 aj) (ai (aM 0 aj) ao)))) (av (aD (qv 0))) aO)
   (av (aD (cR (ai (aM 0 aj) (ai (aM 0 aj) ao))))))
theorem wK:aL ["p","side","ends"] ["p","side"] (az (top 14)):=by walk_at "sc"
theorem ER(T:Txt K mg t):bE P w K mg base cU 4 t.zm t.zo ["p","side"] (dq K gE):=by
 refine T.zp.F.eA (n:=2) (m:=3) (B:=ji) wK rfl rfl (by decide) rfl λbr A outer s H E hr=>?_
 unfold ji;exact(aq (bD (dS (iX hr.units) l_ (bq (EN T) T.Cz hr (ai (aM 1 aj) (ai (aM 1 aj) (ai (qv 0) ao)))) aj) (av (aD gh)) aO)
   (aq (cu 2 wK.nd (bq (lW T) T.kT hr (ai (qv 1) ao)))
   (av (aD (ql (GI (bq (gX T) T.fE hr (ai (qv 0) (ai (aM 2 aj) ao)))) (nS (GI (bq (gX T) T.fE hr (ai (aM 2 aj) (ai (qv 0) ao))))))))))
theorem CC:aL ["side","other"] ["side","other"] (az (top 15)):=by walk_at "sc"
theorem uJ(T:Txt K mg t):bE P w K mg base cU 3 t.wc t.we ["side","other"] (dq K jG):=by
 refine T.qc.F.eA (n:=2) (m:=2) (B:=lM) CC rfl rfl (by decide) rfl λbr A outer s H E hr=>?_
 unfold lM;exact(av (aD (kB (N':=["p","side"]) (cap:=[af,ae 0]) (iQ (sc:=az (top 15)) (NN:=["side","other"]) rfl rfl rfl (by decide +kernel) (by decide +kernel) (by decide +kernel) (by decide +kernel)) rfl (BH (qv 1)) (λ_ _ _ _=>(dR (i:=0) (show adE (["p","side"]:List Str)by decide +kernel) rfl (adA rfl))) (λ_ _ _ _=>eS) (λ_ _ _ _=>(bq (EN T) T.Cz hr (ai (aM 1 aj) (ai (aM 1 aj) (ai (qv 0) ao))))))))
theorem eQ:aL ["one","other","left","right","p","q"] ["one","other"] (az (top 16)):=by walk_at "sc"
theorem uK(T:Txt K mg t):bE P w K mg base cU 4 t.ny t.nA ["one","other"] (dq K gQ):=by
 refine T.nD.F.eA (n:=2) (m:=6) (B:=gN) eQ rfl rfl (by decide) rfl λbr A outer s H E hr=>?_
 unfold gN;exact(aq (cu 2 eQ.nd (bq (lW T) T.kT hr (ai (qv 0) ao)))
   (aq (cu 3 eQ.nd (bq (lW T) T.kT hr (ai (qv 1) ao)))
   (aq (cu 4 eQ.nd (qm (dJ (bq (gX T) T.fE hr (ai (aM 2 aj) (ai (aM 3 aj) ao)))) (aM 3 aj) (aM 2 aj)))
   (aq (cu 5 eQ.nd (qm (dJ (bq (gX T) T.fE hr (ai (aM 2 aj) (ai (aM 3 aj) ao)))) (aM 2 aj) (aM 3 aj)))
   (aq (bD (dS (dj hr.units) eT (qv 4) (qv 5)) (av (aD (cR (ai nR (ai (qv 4) ao))))) aO)
   (av (aD (qm (dJ (bq (gX T) T.fE hr (ai (qv 4) (ai (qv 5) ao)))) (cR (ai nR (ai (qv 4) (ai (qv 5) ao)))) jX))))))))
theorem uL:aL ["one","other","meet"] ["one","other"] (az (top 17)):=by walk_at "sc"
theorem CD(T:Txt K mg t):bE P w K mg base cU 3 t.wg t.wj ["one","other"] (dq K lO):=by
 refine T.wH.F.eA (n:=2) (m:=3) (B:=lN) uL rfl rfl (by decide) rfl λbr A outer s H E hr=>?_
 unfold lN;exact(aq (cu 2 uL.nd (bq (lV T) T.kR hr (ai (bq (lV T) T.kR hr (ai (aM 0 aj) (ai (aM 0 aj) ao))) (ai (bq (lV T) T.kR hr (ai (aM 1 aj) (ai (aM 1 aj) ao))) ao))))
   (av (aD (WE (Nq T) T.xE.m T.xE.F.kp T.xE.b (hr.mono (by decide)) (ai (aM 2 aj) (ai (aM 2 aj) (ai (aM 2 aj) ao)))))))
theorem sU:aL ["one","other","turns","back"] ["one","other"] (az (top 18)):=by walk_at "sc"
theorem Gn(T:Txt K mg t):bE P w K mg base cU 5 t.AZ t.A9 ["one","other"] (dq K gR):=by
 refine T.Bf.F.eA (n:=2) (m:=4) (B:=jj) sU rfl rfl (by decide) rfl λbr A outer s H E hr=>?_
 unfold jj;exact(aq (cu 2 sU.nd (bq (uJ T) T.qc hr (ai (qv 0) (ai (qv 1) ao))))
   (aq (bD (dS (dj hr.units) eT (qv 2) (ff (ai aj (ai aj ao)))) (av (aD (bq (uK T) T.nD hr (ai (qv 0) (ai (qv 1) ao))))) aO)
   (aq (cu 3 sU.nd (bq (uJ T) T.qc hr (ai (qv 1) (ai (qv 0) ao))))
   (aq (bD (PW.pt (hU (dS lZ l9 (ax aC aJ (aM 2 aj) (aM 2 aj)) aj) (jZ (dS lZ l9 (ax aC aJ (aM 3 aj) (aM 3 aj)) aj)))) (av (aD jX)) aO)
   (av (aD (cR (ai nR (ai (bq (CD T) T.wH hr (ai (qv 0) (ai (qv 1) ao))) ao)))))))))
theorem vI:aL ["side","some","found","p"] ["side","some"] (az (top 19)):=by walk_at "sc"
theorem Jr(T:Txt K mg t):bE P w K mg base cU 7 t.EH t.EI ["side","some"] (dq K (m8 t.dB t.bj)):=by
 refine T.EJ.F.eA (n:=2) (m:=4) (B:=(ug t.dB t.bj)) vI rfl rfl (by decide) rfl λbr A outer s H E hr=>?_
 unfold ug;exact(aq (cu 2 vI.nd Am)
   (aq (dZ aaK rfl (kA (qv 1)) (iZ 3 vI.nd) (av (bD (dJ (bq (ER T) T.zp hr (ai (qv 3) (ai (qv 0) ao)))) (av (ve hr.units (qv 2) (qv 3) gh)) aO)))
   (aq (bD (dJ (bq (gX T) T.fE hr (ai (aM 0 aj) (ai (aM 0 aj) ao)))) (av (aD (bq (om T) T.lS hr (ai (dN (pF rfl) sG (by rfl) T.iD gz (ai (qv 2) ao)) (ai (Lr (by rfl) T.fE.m) ao))))) aO)
   (av (aD (bq (om T) T.lS hr (ai (dN (pF rfl) sG (by rfl) T.iD gz (ai (qv 2) ao)) (ai Ls ao))))))))
theorem gJ:aL ["sides","found","k","j","met"] ["sides"] (az (top 23)):=by walk_at "sc"
theorem zt(T:Txt K mg t):bE P w K mg base cU 6 t.qZ t.q_ ["sides"] (dq K jo):=by
 refine T.rL.F.eA (n:=1) (m:=5) (B:=jn) gJ rfl rfl (by decide) rfl λbr A outer s H E hr=>?_
 unfold jn;exact(aq (tU (i:=1) (N':=["side"]) (cap:=[af]) (iQ (sc:=az (top 23)) (NN:=["sides","found","k","j","met"]) rfl rfl rfl (by decide +kernel) (by decide +kernel) (by decide +kernel) (by decide +kernel)) rfl (kA (qv 0)) (λ_ _ _ _=>(dR (i:=0) (show adE (["side"]:List Str)by decide +kernel) rfl (adA rfl))) (λ_ _ _ _=>eS) (λ_ _ _ _=>(dN qR Dv (by rfl) T.iD gz (ai (qv 0) ao))) gJ.nd rfl (adA rfl) (by rfl))
   (aq (dZ aaK rfl (dC (by rfl) T.dX (ai (lA T.eD (qv 0)) ao)) (iZ 2 gJ.nd) (av (dZ aaK rfl (dC (by rfl) T.dX (ai (qv 2) ao)) (iZ 3 gJ.nd) (aq (cu 4 gJ.nd (bq (Gn T) T.Bf hr (ai (aI (qv 0) (qv 3) (λ_ _=>rfl)) (ai (aI (qv 0) (qv 2) (λ_ _=>rfl)) ao))))
   (av (bD (dS oR pB (qv 4) jX) (aq (iW (tT adq ads DX DY (aI (qv 1) (qv 3) (λ_ _=>rfl)) (ai (mN (qv 4) (o_ aj) o9) ao)))
   (av (iW (tT adq ads DX DY (aI (qv 1) (qv 2) (λ_ _=>rfl)) (ai (mN (qv 4) (o_ aj) o9) ao))))) aO))))))
   (av (aD (qv 1)))))
theorem hZ:aL ["sides","found","k"] ["sides"] (az (top 24)):=by walk_at "sc"
theorem qO(T:Txt K mg t):bE P w K mg base cU 4 t.kO t.kQ ["sides"] (dq K fM):=by
 refine T.kU.F.eA (n:=1) (m:=3) (B:=fL) hZ rfl rfl (by decide) rfl λbr A outer s H E hr=>?_
 unfold fL;exact(aq (cu 1 hZ.nd An)
   (aq (dZ aaK rfl (dC (by rfl) T.dX (ai (lA T.eD (qv 0)) ao)) (iZ 2 hZ.nd) (av (iW (tT acm acn jg kx (yy hr.units (qv 1) (bq (lW T) T.kT hr (ai (aI (qv 0) (qv 2) (λ_ _=>rfl)) ao))) (ai (qv 2) ao)))))
   (av (aD (qv 1)))))
theorem lX:aL ["sides","lying","numbers","found","side","corners","spots","piece"] ["sides"] (az (top 25)):=by walk_at "sc"
theorem Hz(T:Txt K mg t):bE P w K mg base cU 8 t.Nj t.Nk ["sides"] (dq K (vn t.dB t.bj)):=by
 refine T.Gg.F.eA (n:=1) (m:=8) (B:=(Cb t.dB t.bj)) lX rfl rfl (by decide) rfl λbr A outer s H E hr=>?_
 unfold Cb;exact(aq (xm (i:=1) lX.nd rfl (aex rfl) An)
   (aq (cu 2 lX.nd (bq (qO T) T.kU hr (ai (qv 0) ao)))
   (aq (cu 3 lX.nd (bq (zt T) T.rL hr (ai (dN (pG rfl) sH (by rfl) T.iD gz (ai (qv 2) ao)) ao)))
   (aq (dZ aaK rfl (LO (by rfl) T.Gk (ai (qv 2) (ai (qv 3) ao))) (qr rfl (cZ (iZ 4 lX.nd) (cZ (iZ 5 lX.nd) ky))) (aq (cu 6 lX.nd (bq (Jr T) T.EJ hr (ai (qv 4) (ai (qv 5) ao))))
   (av (dZ aaK rfl (LJ (by rfl) T.Gk (ai (qv 6) (ai (mN (qv 6) (o_ aj) o9) ao))) (iZ 7 lX.nd) (av (iW (tT adq ads xW yj (yy hr.units (qv 1) (qv 7)) (ai (DT hr.units (qv 2) (qv 4) (λ_ _=>rfl)) ao))))))))
   (av (aD (dN (DU rfl hr.units) IJ (by rfl) T.QB Ll (ai (kB (N':=["piece","lying"]) (cap:=[af,ae 1]) (iQ (sc:=az (top 25)) (NN:=["sides","lying","numbers","found","side","corners","spots","piece"]) rfl rfl rfl (by decide +kernel) (by decide +kernel) (by decide +kernel) (by decide +kernel)) rfl (kA (bq (om T) T.lS hr (ai (dN (pG rfl) sH (by rfl) T.iD gz (ai (qv 1) ao)) (ai (Lr (by rfl) T.iz.m) ao)))) (λ_ _ _ _=>(dR (i:=0) (show adE (["piece","lying"]:List Str)by decide +kernel) rfl (adA rfl))) (λ_ _ _ _=>eS) (λ_ _ _ _=>(cR (ai (qv 0) (ai (bL DW IP (by rfl) T.vF sA (ai (DT hr.units (qv 1) (qv 0) (λ_ _=>rfl)) ao)) ao))))) ao))))))))
theorem Gp:aL ["sides"] ["sides"] (az (top 26)):=by walk_at "sc"
theorem zu(T:Txt K mg t):bE P w K mg base cU 9 t.A_ t.Ba ["sides"] (dq K (gS t.dB t.bj)):=by
 refine T.vE.F.eA (n:=1) (m:=1) (B:=(qB t.dB t.bj)) Gp rfl rfl (by decide) rfl λbr A outer s H E hr=>?_
 unfold qB;exact(av (aD (dN (pG rfl) sH (by rfl) T.iD gz (ai (bq (Hz T) T.Gg hr (ai (qv 0) ao)) ao))))
theorem w9:aL ["sides"] ["sides"] (az (top 27)):=by walk_at "sc"
theorem w_(T:Txt K mg t):bE P w K mg base cU 9 t.pX t.pY ["sides"] (dq K (fB t.dB t.bj)):=by
 refine T.qd.F.eA (n:=1) (m:=1) (B:=(i4 t.dB t.bj)) w9 rfl rfl (by decide) rfl λbr A outer s H E hr=>?_
 unfold i4;exact(av (aD (II (by rfl) T.iD (bq (Hz T) T.Gg hr (ai (qv 0) ao)))))
theorem cX:aL ["_law_script","_law_k","_law_cell","_law_mixed","_law_total","_law_j","_law_more","_law_own"] ["_law_script","_law_k"] (az (top 29)):=by walk_at "sc"
theorem uM(T:Txt K mg t):bE P w K mg base cU 1 t.wk t.wm ["_law_script","_law_k"] (dq K dH):=by
 refine T.qe.F.eA (n:=2) (m:=8) (B:=iI) cX rfl rfl (by decide) rfl λbr A outer s H E hr=>?_
 unfold iI;exact(aq (cu 2 cX.nd aj)
   (aq (bD (dS kj ku (qv 1) (lA T.eD (qv 0))) (av (cu 2 cX.nd (aI (qv 0) (qv 1) (λ_ _=>rfl)))) aO)
   (aq (cu 3 cX.nd (ax bT cE (ax bT cE (ax iN jY (bL jf nU (by rfl) T.sT nK (ai (qv 2) ao)) aj) (ax aC aJ aj (qv 1))) aj))
   (aq (cu 4 cX.nd aj)
   (aq (dZ aaK rfl (dC (by rfl) T.dX (ai aj ao)) (iZ 5 cX.nd) (aq (cu 3 cX.nd (ax bT cE (ax aC aJ (qv 3) aj) (ax aC aJ aj (ax bT cE (ax bT cE (qv 1) (qv 5)) aj))))
   (aq (cu 3 cX.nd (ax iN jY (qv 3) aj))
   (aq (cu 6 cX.nd (ax aC aJ (ax fY ig (qv 3) aj) (ax bT cE (ax bT cE (ax iN jY (qv 3) aj) (ax aC aJ aj (qv 5))) aj)))
   (av (cu 4 cX.nd (ax bT cE (ax aC aJ (qv 4) aj) (ax iN jY (qv 6) aj))))))))
   (aq (cu 7 cX.nd (ax aC aJ (bL jf nU (by rfl) T.sT nK (ai (qv 2) ao)) (dN rX yk (by rfl) T.Gi Bx (ai (ql (e_ lZ l9 (lA T.eD (qv 0)) aj (gi _)) (nS (e_ (dj hr.units) eT (ax iN jY (aM 0 aj) aj) aj (gi _)))) ao))))
   (av (aD (ff (ai (qv 7) (ai (qv 4) ao)))))))))))
theorem mm:aL ["_law_pool_here","_law_many","_law_at","_law_digit_here"] ["_law_pool_here","_law_many"] (az (top 30)):=by walk_at "sc"
theorem bo(T:Txt K mg t):bE P w K mg base cU 1 t.uC t.uD ["_law_pool_here","_law_many"] (dq K aQ):=by
 refine T.bB.F.eA (n:=2) (m:=4) (B:=i5) mm rfl rfl (by decide) rfl λbr A outer s H E hr=>?_
 unfold i5;exact(aq (cu 2 mm.nd (dN rX yk (by rfl) T.Gi Bx (ai (e_ (dj hr.units) eT (aM 0 aj) aj (gi _)) ao)))
   (aq (cu 3 mm.nd (ax iN jY (aI (qv 0) (qv 2) (λ_ _=>rfl)) (qv 1)))
   (aq (qp (ax fY ig (aI (qv 0) (qv 2) (λ_ _=>rfl)) (qv 1)) (OU (qv 0) (qv 2)))
   (av (aD (qv 3))))))
theorem rP:aL ["_law_pool_here","_law_pick"] ["_law_pool_here"] (az (top 31)):=by walk_at "sc"
theorem rQ(T:Txt K mg t):bE P w K mg base cU 2 t.uE t.uF ["_law_pool_here"] (dq K eP):=by
 refine T.oi.F.eA (n:=1) (m:=2) (B:=fN) rP rfl rfl (by decide) rfl λbr A outer s H E hr=>?_
 unfold fN;exact(aq (cu 1 rP.nd (bq (bo T) T.bB hr (ai (qv 0) (ai aj ao))))
   (aq (bD (dS kj ku (qv 1) aj) (av (aD (ax bP bR (bq (bo T) T.bB hr (ai (qv 0) (ai aj ao))) aj))) aO)
   (aq (bD (dS (dj hr.units) eT (qv 1) aj) (av (aD (ax bP bR (bq (bo T) T.bB hr (ai (qv 0) (ai aj ao))) aj))) aO)
   (aq (bD (dS (dj hr.units) eT (qv 1) aj) (av (aD (ax aC aJ (ax bP bR aj (bq (bo T) T.bB hr (ai (qv 0) (ai aj ao)))) (ax bP bR aj (ax aC aJ aj (bq (bo T) T.bB hr (ai (qv 0) (ai aj ao)))))))) aO)
   (av (aD (ax bP bR (bq (bo T) T.bB hr (ai (qv 0) (ai (ax bT cE (ax aC aJ aj (ax xb xk aj aj)) aj) ao))) (ax xb xk aj aj))))))))
theorem rR:aL ["_law_pool_here","_law_pick"] ["_law_pool_here"] (az (top 32)):=by walk_at "sc"
theorem zQ(T:Txt K mg t):bE P w K mg base cU 2 t.uG t.uH ["_law_pool_here"] (dq K i6):=by
 refine T.uI.F.eA (n:=1) (m:=2) (B:=j0) rR rfl rfl (by decide) rfl λbr A outer s H E hr=>?_
 unfold j0;exact(aq (cu 1 rR.nd (bq (bo T) T.bB hr (ai (qv 0) (ai aj ao))))
   (av (aD (ax bT cE aj (bq (bo T) T.bB hr (ai (qv 0) (ai (aI (ff (ai aj (ai aj (ai aj (ai aj (ai (ax xb xk aj aj) ao)))))) (qv 1) (λ_ _=>rfl)) ao)))))))
theorem i_:aL ["_law_a","_law_b"] ["_law_a","_law_b"] (az (top 33)):=by walk_at "sc"
theorem qi(T:Txt K mg t):bE P w K mg base cU 1 t.rg t.rh ["_law_a","_law_b"] (dq K ip):=by
 refine T.mh.F.eA (n:=2) (m:=2) (B:=jq) i_ rfl rfl (by decide) rfl λbr A outer s H E hr=>?_
 unfold jq;exact(aq (cu 0 i_.nd (bL jf nU (by rfl) T.sT nK (ai (qv 0) ao)))
   (aq (cu 1 i_.nd (bL jf nU (by rfl) T.sT nK (ai (qv 1) ao)))
   (aq (qt aaK (dS lZ l9 (qv 1) aj) (av (ym (i:=0) (j:=1) rfl i_.nd rfl rfl (by decide) rfl rfl (ai (qv 1) (ai (ax iN jY (qv 0) (qv 1)) ao)) (by rfl))))
   (av (aD (qv 0))))))
theorem kZ:aL ["_law_x","_law_y","_law_w","_law_part"] ["_law_x","_law_y","_law_w"] (az (top 34)):=by walk_at "sc"
theorem cY(T:Txt K mg t):bE P w K mg base cU 2 t.rl t.rn ["_law_x","_law_y","_law_w"] (dq K bC):=by
 refine T.cW.F.eA (n:=3) (m:=4) (B:=iq) kZ rfl rfl (by decide) rfl λbr A outer s H E hr=>?_
 unfold iq;exact(aq (bD (dS kj ku (qv 2) aj) (av (Dw (i:=0) (j:=1) (l:=2) rfl kZ.nd rfl rfl rfl (by decide) (by decide) (by decide) rfl rfl rfl (ai (ax bP bR aj (qv 0)) (ai (ax bP bR aj (qv 1)) (ai (ax bP bR aj (qv 2)) ao))) (by rfl))) aO)
   (aq (cu 3 kZ.nd (bq (qi T) T.mh hr (ai (bq (qi T) T.mh hr (ai (qv 0) (ai (qv 1) ao))) (ai (qv 2) ao))))
   (av (aD (cR (ai (ax fY ig (qv 0) (qv 3)) (ai (ax fY ig (qv 1) (qv 3)) (ai (ax fY ig (qv 2) (qv 3)) ao))))))))
theorem uN:aL ["_law_pool_here","_law_pick"] ["_law_pool_here"] (az (top 35)):=by walk_at "sc"
theorem oo(T:Txt K mg t):bE P w K mg base cU 3 t.wo t.wq ["_law_pool_here"] (dq K df):=by
 refine T.lT.F.eA (n:=1) (m:=2) (B:=jH) uN rfl rfl (by decide) rfl λbr A outer s H E hr=>?_
 unfold jH;exact(aq (cu 1 uN.nd (bq (bo T) T.bB hr (ai (qv 0) (ai aj ao))))
   (aq (bD (dS (dj hr.units) eT (qv 1) aj) (av (aD (bq (cY T) T.cW hr (ai (bq (rQ T) T.oi hr (ai (qv 0) ao)) (ai (bq (rQ T) T.oi hr (ai (qv 0) ao)) (ai (bq (zQ T) T.uI hr (ai (qv 0) ao)) ao)))))) aO)
   (av (aD (bq (cY T) T.cW hr (ai (bq (bo T) T.bB hr (ai (qv 0) (ai (ax bT cE aj (ax aC aJ aj (qv 1))) ao))) (ai (bq (bo T) T.bB hr (ai (qv 0) (ai (ax bT cE aj (ax aC aJ aj (qv 1))) ao))) (ai (aI (ff (ai aj (ai aj (ai aj ao)))) (bq (bo T) T.bB hr (ai (qv 0) (ai aj ao))) (λ_ _=>rfl)) ao))))))))
theorem k8:aL ["_law_p","_law_some","_law_k"] ["_law_p","_law_some"] (az (top 36)):=by walk_at "sc"
theorem zv(T:Txt K mg t):bE P w K mg base cU 3 t.rA t.rB ["_law_p","_law_some"] (dq K iu):=by
 refine T.rM.F.eA (n:=2) (m:=3) (B:=jr) k8 rfl rfl (by decide) rfl λbr A outer s H E hr=>?_
 unfold jr;exact(aq (dZ aaK rfl (dC (by rfl) T.dX (ai (ax bT cE (lA T.eD (qv 1)) aj) ao)) (iZ 2 k8.nd) (av (bD (nT (xo hr.units) BK (qv 0) (qv 1) (by with_unfolding_all rfl)) (av (cu 0 k8.nd (bq (cY T) T.cW hr (ai (ax bT cE (aM 0 aj) (aM 0 aj)) (ai (aM 0 aj) (ai (aM 0 aj) ao)))))) aO)))
   (av (aD (qv 0))))
theorem fX:aL ["_law_pool_here","_law_a","_law_b","_law_n","_law_d","_law_x","_law_y"] ["_law_pool_here","_law_a","_law_b"] (az (top 37)):=by walk_at "sc"
theorem oF(T:Txt K mg t):bE P w K mg base cU 3 t.pZ t.p_ ["_law_pool_here","_law_a","_law_b"] (dq K eg):=by
 refine T.kW.F.eA (n:=3) (m:=7) (B:=i7) fX rfl rfl (by decide) rfl λbr A outer s H E hr=>?_
 unfold i7;exact(aq (cu 3 fX.nd (ax bP bR (bq (bo T) T.bB hr (ai (qv 0) (ai aj ao))) aj))
   (aq (cu 4 fX.nd (ax bT cE aj (bq (bo T) T.bB hr (ai (qv 0) (ai aj ao)))))
   (aq (cu 5 fX.nd (ax bT cE (ax aC aJ (ax aC aJ (aM 1 aj) (aM 2 aj)) (ax bP bR (qv 4) (qv 3))) (ax aC aJ (ax aC aJ (aM 2 aj) (aM 1 aj)) (qv 3))))
   (aq (cu 6 fX.nd (ax bT cE (ax aC aJ (ax aC aJ (aM 1 aj) (aM 2 aj)) (ax bP bR (qv 4) (qv 3))) (ax aC aJ (ax aC aJ (aM 2 aj) (aM 1 aj)) (qv 3))))
   (av (aD (bq (cY T) T.cW hr (ai (qv 5) (ai (qv 6) (ai (ax aC aJ (ax aC aJ (aM 1 aj) (aM 2 aj)) (qv 4)) ao))))))))))
theorem CF:aL ["_law_x","_law_y","_law_w"] ["_law_x","_law_y","_law_w"] (az (top 38)):=by walk_at "sc"
theorem uO(T:Txt K mg t):bE P w K mg base cU 3 t.wt t.wu ["_law_x","_law_y","_law_w"] (dq K gF):=by
 refine T.qf.F.eA (n:=3) (m:=3) (B:=lP) CF rfl rfl (by decide) rfl λbr A outer s H E hr=>?_
 unfold lP;exact(av (aD (cR (ai nR (ai (bq (cY T) T.cW hr (ai (qv 0) (ai (qv 1) (ai (qv 2) ao)))) ao)))))
theorem k9:aL ["_law_mine","_law_theirs","_law_w","_law_low","_law_high"] ["_law_mine","_law_theirs","_law_w"] (az (top 39)):=by walk_at "sc"
theorem zx(T:Txt K mg t):bE P w K mg base cU 4 t.rC t.rD ["_law_mine","_law_theirs","_law_w"] (dq K eU):=by
 refine T.rN.F.eA (n:=3) (m:=5) (B:=f_) k9 rfl rfl (by decide) rfl λbr A outer s H E hr=>?_
 unfold f_;exact(aq (cu 3 k9.nd (bL (DG rfl hr.units) Iz (by rfl) T.Gj Bw (ai (aM 0 aj) (ai (aM 1 aj) ao))))
   (aq (cu 4 k9.nd (bL (DH rfl hr.units) IA (by rfl) T.Nn GA (ai (aM 0 aj) (ai (aM 1 aj) ao))))
   (aq (bD (dS (OW hr.units) OY (qv 3) (qv 4)) (av (aD jX)) aO)
   (aq (bD (dS (dj hr.units) eT (qv 3) (qv 4)) (av (aD (bq (uO T) T.qf hr (ai (aM 3 aj) (ai (aM 3 aj) (ai (qv 2) ao)))))) aO)
   (av (aD (cR (ai nR (ai (bq (cY T) T.cW hr (ai (aM 3 aj) (ai (aM 3 aj) (ai (qv 2) ao)))) (ai (bq (cY T) T.cW hr (ai (aM 4 aj) (ai (aM 4 aj) (ai (qv 2) ao)))) ao))))))))))
theorem zy:aL ["_law_a","_law_b"] ["_law_a","_law_b"] (az (top 40)):=by walk_at "sc"
theorem k_(T:Txt K mg t):bE P w K mg base cU 1 t.rE t.rF ["_law_a","_law_b"] (dq K cB):=by
 refine T.jw.F.eA (n:=2) (m:=2) (B:=js) zy rfl rfl (by decide) rfl λbr A outer s H E hr=>?_
 unfold js;exact(av (aD (ax bP bR (ax aC aJ (aM 0 aj) (aM 1 aj)) (ax aC aJ (aM 0 aj) (aM 1 aj)))))
theorem bV:aL ["_law_one","_law_other","_law_w","_law_a","_law_b","_law_c","_law_d","_law_along_one","_law_along_other","_law_way","_law_whole","_law_mine","_law_theirs"] ["_law_one","_law_other"] (az (top 41)):=by walk_at "sc"
theorem lg(T:Txt K mg t):bE P w K mg base cU 5 t.rG t.rH ["_law_one","_law_other"] (dq K ba):=by
 refine T.jx.F.eA (n:=2) (m:=13) (B:=jt) bV rfl rfl (by decide) rfl λbr A outer s H E hr=>?_
 unfold jt;exact(aq (xm (i:=2) bV.nd rfl (aex rfl) (ax aC aJ (ax aC aJ (ax aC aJ (aI (aM 0 aj) aj (λ_ _=>rfl)) (aI (aM 0 aj) aj (λ_ _=>rfl))) (aI (aM 1 aj) aj (λ_ _=>rfl))) (aI (aM 1 aj) aj (λ_ _=>rfl))))
   (aq (qp (kB (N':=["_law_p","_law_w"]) (cap:=[af,ae 2]) (iQ (sc:=az (top 41)) (NN:=["_law_one","_law_other","_law_w","_law_a","_law_b","_law_c","_law_d","_law_along_one","_law_along_other","_law_way","_law_whole","_law_mine","_law_theirs"]) rfl rfl rfl (by decide +kernel) (by decide +kernel) (by decide +kernel) (by decide +kernel)) rfl (BH (ax bT cE (qv 0) (qv 1))) (λ_ _ _ _=>(dR (i:=0) (show adE (["_law_p","_law_w"]:List Str)by decide +kernel) rfl (adA rfl))) (λ_ _ _ _=>eS) (λ_ _ _ _=>(cR (ai (ax aC aJ (aM 0 aj) (ax fY ig (qv 1) (aM 0 aj))) (ai (ax aC aJ (aM 0 aj) (ax fY ig (qv 1) (aM 0 aj))) ao))))) (OZ rfl (cZ (iZ 3 bV.nd) (cZ (iZ 4 bV.nd) (cZ (iZ 5 bV.nd) (cZ (iZ 6 bV.nd) ky))))))
   (aq (cu 7 bV.nd (cR (ai (ax bP bR (aM 4 aj) (aM 3 aj)) (ai (ax bP bR (aM 4 aj) (aM 3 aj)) ao))))
   (aq (cu 8 bV.nd (cR (ai (ax bP bR (aM 6 aj) (aM 5 aj)) (ai (ax bP bR (aM 6 aj) (aM 5 aj)) ao))))
   (aq (cu 9 bV.nd (cR (ai (ax bP bR (aM 5 aj) (aM 3 aj)) (ai (ax bP bR (aM 5 aj) (aM 3 aj)) ao))))
   (aq (cu 10 bV.nd (bq (k_ T) T.jw hr (ai (qv 7) (ai (qv 8) ao))))
   (aq (cu 11 bV.nd (bq (k_ T) T.jw hr (ai (qv 9) (ai (qv 8) ao))))
   (aq (cu 12 bV.nd (bq (k_ T) T.jw hr (ai (qv 9) (ai (qv 7) ao))))
   (aq (bD (PW.pt (qo (dS (dj hr.units) eT (qv 10) aj) (mM (dS (dj hr.units) eT (qv 12) aj)))) (av (aD (bq (zx T) T.rN hr (ai (bL (qV hr.units) vW (by rfl) T.vF sA (ai (ff (ai (qv 3) (ai (qv 4) ao))) ao)) (ai (bL (qV hr.units) vW (by rfl) T.vF sA (ai (ff (ai (qv 5) (ai (qv 6) ao))) ao)) (ai (qv 2) ao)))))) aO)
   (aq (bD (dS kj ku (qv 10) aj) (av (Dw (i:=10) (j:=11) (l:=12) rfl bV.nd rfl rfl rfl (by decide) (by decide) (by decide) rfl rfl rfl (ai (ax bP bR aj (qv 10)) (ai (ax bP bR aj (qv 11)) (ai (ax bP bR aj (qv 12)) ao))) (by rfl))) aO)
   (aq (bD (PW.pt (hU (dS (dj hr.units) eT (qv 10) aj) (hU (iB (Ab Bm BF Bm BF aj (qv 11) (qv 10))) (jZ (iB (Ab Bm BF Bm BF aj (qv 12) (qv 10))))))) (av (aD jX)) aO)
   (av (aD (bq (uO T) T.qf hr (ai (ax bT cE (ax aC aJ (aM 3 aj) (qv 10)) (ax aC aJ (aM 7 aj) (qv 11))) (ai (ax bT cE (ax aC aJ (aM 3 aj) (qv 10)) (ax aC aJ (aM 7 aj) (qv 11))) (ai (ax aC aJ (qv 2) (qv 10)) ao)))))))))))))))))
theorem CG:aL ["_law_p","_law_q"] ["_law_p","_law_q"] (az (top 42)):=by walk_at "sc"
theorem j5(T:Txt K mg t):bE P w K mg base cU 1 t.wx t.wy ["_law_p","_law_q"] (dq K cQ):=by
 refine T.jM.F.eA (n:=2) (m:=2) (B:=iJ) CG rfl rfl (by decide) rfl λbr A outer s H E hr=>?_
 unfold iJ;exact(av (aD (SN (e_ kj ku (ax aC aJ (aM 0 aj) (aM 1 aj)) (ax aC aJ (aM 1 aj) (aM 0 aj)) (gi _)) (nS (ql (e_ (dj hr.units) eT (ax aC aJ (aM 0 aj) (aM 1 aj)) (ax aC aJ (aM 1 aj) (aM 0 aj)) (gi _)) (nS (e_ kj ku (ax aC aJ (aM 0 aj) (aM 1 aj)) (ax aC aJ (aM 1 aj) (aM 0 aj)) (gi _))))))))
theorem CH:aL ["_law_pool_here","_law_p"] ["_law_pool_here","_law_p"] (az (top 43)):=by walk_at "sc"
theorem uP(T:Txt K mg t):bE P w K mg base cU 4 t.wA t.wC ["_law_pool_here","_law_p"] (dq K fF):=by
 refine T.qg.F.eA (n:=2) (m:=2) (B:=jI) CH rfl rfl (by decide) rfl λbr A outer s H E hr=>?_
 unfold jI;exact(aq (bD (dS lZ l9 (bL (Fu rfl) LS (by rfl) T.Gj Bw (ai (bL jf nU (by rfl) T.sT nK (ai (aM 1 aj) ao)) (ai (bL jf nU (by rfl) T.sT nK (ai (aM 1 aj) ao)) (ai (aM 1 aj) ao)))) (ax xb xk aj aj)) (av (aD (bq (oo T) T.lT hr (ai (qv 0) ao)))) aO)
   (av (aD (qv 1))))
theorem cp:aL ["_law_pool_here","_law_some","_law_c","_law_d","_law_pick","_law_a","_law_b","_law_p"] ["_law_pool_here","_law_some"] (az (top 44)):=by walk_at "sc"
theorem CI(T:Txt K mg t):bE P w K mg base cU 5 t.wD t.wF ["_law_pool_here","_law_some"] (dq K iL):=by
 refine T.wI.F.eA (n:=2) (m:=8) (B:=iK) cp rfl rfl (by decide) rfl λbr A outer s H E hr=>?_
 unfold iK;exact(aq (cu 2 cp.nd (bq (oo T) T.lT hr (ai (qv 0) ao)))
   (aq (cu 3 cp.nd (bq (oo T) T.lT hr (ai (qv 0) ao)))
   (aq (cu 4 cp.nd (ax aC aJ (bq (bo T) T.bB hr (ai (qv 0) (ai aj ao))) (dN rX yk (by rfl) T.Gi Bx (ai (e_ lZ l9 (lA T.eD (qv 1)) aj (gi _)) ao))))
   (aq (bD (dS lZ l9 (qv 4) aj) (aq (qp (aI (qv 1) (bq (bo T) T.bB hr (ai (qv 0) (ai (lA T.eD (qv 1)) ao))) (λ_ _=>rfl)) (qr rfl (cZ (iZ 5 cp.nd) (cZ (iZ 6 cp.nd) ky))))
   (aq (cu 7 cp.nd (bq (oF T) T.kW hr (ai (qv 0) (ai (qv 5) (ai (qv 6) ao)))))
   (aq (bD (dS (dj hr.units) eT (qv 4) aj) (av (cu 2 cp.nd (qv 7))) aO)
   (aq (bD (dS (dj hr.units) eT (qv 4) aj) (av (ym (i:=2) (j:=3) rfl cp.nd rfl rfl (by decide) rfl rfl (ai (qv 7) (ai (bq (oF T) T.kW hr (ai (qv 0) (ai (qv 5) (ai (qv 6) ao)))) ao)) (by rfl))) aO)
   (aq (bD (dS (dj hr.units) eT (qv 4) aj) (av (cu 2 cp.nd (qv 5))) aO)
   (aq (bD (dS (dj hr.units) eT (qv 4) aj) (av (qp (aI (ff (ai (cR (ai (qv 5) (ai (qv 6) ao))) (ai (cR (ai (qv 6) (ai (qv 5) ao))) ao))) (bq (bo T) T.bB hr (ai (qv 0) (ai aj ao))) (λ_ _=>rfl)) (qr rfl (cZ (iZ 2 cp.nd) (cZ (iZ 3 cp.nd) ky))))) aO)
   (av (bD (dS (dj hr.units) eT (qv 4) aj) (av (cu 3 cp.nd (bq (cY T) T.cW hr (ai (ax bP bR (ax aC aJ (ax aC aJ aj (aM 7 aj)) (aM 2 aj)) (ax aC aJ (aM 2 aj) (aM 7 aj))) (ai (ax bP bR (ax aC aJ (ax aC aJ aj (aM 7 aj)) (aM 2 aj)) (ax aC aJ (aM 2 aj) (aM 7 aj))) (ai (ax aC aJ (aM 7 aj) (aM 2 aj)) ao)))))) aO)))))))) aO)
   (aq (cu 2 cp.nd (bq (uP T) T.qg hr (ai (qv 0) (ai (qv 2) ao))))
   (av (aD (cR (ai (qv 2) (ai (bq (zv T) T.rM hr (ai (bq (uP T) T.qg hr (ai (qv 0) (ai (qv 3) ao))) (ai (ff (ai (qv 2) ao)) ao))) ao))))))))))
theorem eF:aL ["_law_sides","_law_found","_law_k","_law_p","_law_j","_law_shared_here"] ["_law_sides"] (az (top 45)):=by walk_at "sc"
theorem xa(T:Txt K mg t):bE P w K mg base cU 6 t.qa t.qb ["_law_sides"] (dq K gG):=by
 refine T.qh.F.eA (n:=1) (m:=6) (B:=i8) eF rfl rfl (by decide) rfl λbr A outer s H E hr=>?_
 unfold i8;exact(aq (cu 1 eF.nd Am)
   (aq (dZ aaK rfl (dC (by rfl) T.dX (ai (lA T.eD (qv 0)) ao)) (iZ 2 eF.nd) (aq (dZ aaK rfl (BH (aI (qv 0) (qv 2) (λ_ _=>rfl))) (iZ 3 eF.nd) (av (ve hr.units (qv 1) (qv 3) gh)))
   (av (dZ aaK rfl (dC (by rfl) T.dX (ai (qv 2) ao)) (iZ 4 eF.nd) (aq (cu 5 eF.nd (bq (lg T) T.jx hr (ai (aI (qv 0) (qv 4) (λ_ _=>rfl)) (ai (aI (qv 0) (qv 2) (λ_ _=>rfl)) ao))))
   (av (bD (PW.pt (qo (dS oR pB (qv 5) jX) (mM (dS (dj hr.units) eT (aM 5 aj) nR)))) (av (ve hr.units (qv 1) (aM 5 aj) gh)) aO)))))))
   (av (aD (dN (pF rfl) sG (by rfl) T.iD gz (ai (qv 1) ao))))))
theorem zA:aL ["_law_p","_law_side","_law_shared_here"] ["_law_p","_law_side"] (az (top 46)):=by walk_at "sc"
theorem sV(T:Txt K mg t):bE P w K mg base cU 6 t.Bb t.Bc ["_law_p","_law_side"] (dq K dD):=by
 refine T.qG.F.eA (n:=2) (m:=3) (B:=ke) zA rfl rfl (by decide) rfl λbr A outer s H E hr=>?_
 unfold ke;exact(aq (cu 2 zA.nd (bq (lg T) T.jx hr (ai (qv 1) (ai (cR (ai (qv 0) (ai (bq (cY T) T.cW hr (ai (ax bT cE (aM 0 aj) (aM 0 aj)) (ai (aM 0 aj) (ai (aM 0 aj) ao)))) ao))) ao))))
   (av (aD (ql (e_ oR pB (qv 2) jX (gi _)) (nS (e_ (xo hr.units) BK (qv 0) (mN (qv 2) (o_ aj) o9) (by with_unfolding_all rfl)))))))
theorem dM:aL ["_law_found","_law_corners_here","_law_k","_law_p","_law_q","_law_j","_law_shared_here"] ["_law_found","_law_corners_here"] (az (top 47)):=by walk_at "sc"
theorem uQ(T:Txt K mg t):bE P w K mg base cU 7 t.nB t.nC ["_law_found","_law_corners_here"] (dq K fC):=by
 refine T.nE.F.eA (n:=2) (m:=7) (B:=gU) dM rfl rfl (by decide) rfl λbr A outer s H E hr=>?_
 unfold gU;exact(aq (dZ aaK rfl (dC (by rfl) T.dX (ai (lA T.eD (qv 0)) ao)) (iZ 2 dM.nd) (aq (qp (aI (qv 0) (qv 2) (λ_ _=>rfl)) (qr rfl (cZ (dR (i:=3) dM.nd rfl (aex rfl)) (cZ (dR (i:=4) dM.nd rfl (aex rfl)) ky))))
   (aq (bD (PW.pt (hU (iB (dJ (bL jW nW (by rfl) T.jy iO (ai (aI (qv 0) (qv 2) (λ_ _=>rfl)) (ai (tR (.ty "tuple") (sZ (v:=.ty "tuple") (by rfl) T.Np Ih rfl) λ_ _ _=>.ty "tuple") ao))))) (hU (iB (dJ (bq (j5 T) T.jM hr (ai (qv 3) (ai (qv 4) ao))))) (hU (nT (kC hr.units) mO (qv 3) (qv 1) (by with_unfolding_all rfl)) (jZ (nT (kC hr.units) mO (qv 4) (qv 1) (by with_unfolding_all rfl))))))) (av (aD gh)) aO)
   (aq (bD (PW.pt (qo (dS lZ l9 (qv 2) aj) (mM (iB (dJ (bq (j5 T) T.jM hr (ai (aI (aI (qv 0) (ax bP bR (qv 2) aj) (λ_ _=>rfl)) aj (λ_ _=>rfl)) (ai (qv 3) ao)))))))) (av (bD (PW.pt (hU (dS (iX hr.units) l_ (aI (aI (qv 0) (ax bP bR (qv 2) aj) (λ_ _=>rfl)) aj (λ_ _=>rfl)) (qv 3)) (jZ (iB (dJ (bq (j5 T) T.jM hr (ai (aI (aI (qv 0) (ax bP bR (qv 2) aj) (λ_ _=>rfl)) aj (λ_ _=>rfl)) (ai (qv 4) ao)))))))) (av (aD gh)) aO)) aO)
   (aq (dZ aaK rfl (dC (by rfl) T.dX (ai (qv 2) ao)) (iZ 5 dM.nd) (aq (cu 6 dM.nd (bq (lg T) T.jx hr (ai (aI (qv 0) (qv 5) (λ_ _=>rfl)) (ai (aI (qv 0) (qv 2) (λ_ _=>rfl)) ao))))
   (aq (bD (PW.pt (qo (dS oR pB (qv 6) jX) (mM (dS (iX hr.units) l_ (aM 6 aj) nR)))) (av (aD gh)) aO)
   (av (bD (PW.pt (qo (dS oR pB (qv 6) jX) (mM (PW.pt (hU (nT (kC hr.units) mO (aM 6 aj) (cR (ai (qv 3) (ai (qv 4) ao))) (by with_unfolding_all rfl)) (jZ (nT (kC hr.units) mO (aM 6 aj) (aI (qv 0) (qv 5) (λ_ _=>rfl)) (by with_unfolding_all rfl)))))))) (av (aD gh)) aO)))))
   (av (bD (dJ (bL (sm rfl) BL (by rfl) T.Gh BM (ai (kB (N':=["_law_c","_law_p","_law_q"]) (cap:=[af,ae 3,ae 4]) (iQ (sc:=az (top 47)) (NN:=["_law_found","_law_corners_here","_law_k","_law_p","_law_q","_law_j","_law_shared_here"]) rfl rfl rfl (by decide +kernel) (by decide +kernel) (by decide +kernel) (by decide +kernel)) rfl (kA (qv 1)) (λ_ _ _ _=>(dR (i:=0) (show adE (["_law_c","_law_p","_law_q"]:List Str)by decide +kernel) rfl (adA rfl))) (λ_ _ _ _=>eS) (λ_ _ _ _=>(ql (e_ (kC hr.units) mO (qv 0) (cR (ai (qv 1) (ai (qv 2) ao))) (by with_unfolding_all rfl)) (nS (bq (sV T) T.qG hr (ai (qv 0) (ai (cR (ai (qv 1) (ai (qv 2) ao))) ao))))))) ao))) (av (aD gh)) aO)))))))
   (av (aD gh)))
theorem ei:aL ["_law_sides","_law_found","_law_paper","_law_k","_law_a","_law_b","_law_mine","_law_j"] ["_law_sides","_law_found","_law_paper"] (az (top 48)):=by walk_at "sc"
theorem zB(T:Txt K mg t):bE P w K mg base cU 7 t.rJ t.rK ["_law_sides","_law_found","_law_paper"] (dq K iw):=by
 refine T.rO.F.eA (n:=3) (m:=8) (B:=ju) ei rfl rfl (by decide) rfl λbr A outer s H E hr=>?_
 unfold ju;exact(aq (dZ aaK rfl (dC (by rfl) T.dX (ai (lA T.eD (qv 0)) ao)) (dR (i:=3) ei.nd rfl (aex rfl)) (aq (qp (aI (qv 0) (qv 3) (λ_ _=>rfl)) (qr rfl (cZ (iZ 4 ei.nd) (cZ (iZ 5 ei.nd) ky))))
   (aq (bD (dJ (bq (j5 T) T.jM hr (ai (qv 5) (ai (qv 4) ao)))) (av (ym (i:=4) (j:=5) rfl ei.nd rfl rfl (by decide) rfl rfl (ai (qv 5) (ai (qv 4) ao)) (by rfl))) aO)
   (aq (xm (i:=6) ei.nd rfl (aex rfl) (kB (N':=["_law_j","_law_found","_law_k","_law_paper"]) (cap:=[af,ae 1,ae 3,ae 2]) (iQ (sc:=az (top 48)) (NN:=["_law_sides","_law_found","_law_paper","_law_k","_law_a","_law_b","_law_mine","_law_j"]) rfl rfl rfl (by decide +kernel) (by decide +kernel) (by decide +kernel) (by decide +kernel)) rfl (dC (by rfl) T.dX (ai (lA T.eD (qv 1)) ao)) (λ_ _ _ _=>(dR (i:=0) (show adE (["_law_j","_law_found","_law_k","_law_paper"]:List Str)by decide +kernel) rfl (adA rfl))) (λ_ _ _ _=>(Iq (nT (xo hr.units) BK (qv 2) (aI (qv 3) (qv 0) (λ_ _=>rfl)) (by with_unfolding_all rfl)))) (λ_ _ _ _=>(aI (qv 1) (qv 0) (λ_ _=>rfl)))))
   (aq (dZ aaK rfl (dC (by rfl) T.dX (ai (lA T.eD (qv 1)) ao)) (iZ 7 ei.nd) (av (bD (dS (iX hr.units) l_ (e_ (xo hr.units) BK (qv 3) (aI (qv 2) (qv 7) (λ_ _=>rfl)) (by with_unfolding_all rfl)) (ql (bq (sV T) T.qG hr (ai (aI (aI (qv 1) (qv 7) (λ_ _=>rfl)) aj (λ_ _=>rfl)) (ai (cR (ai (qv 4) (ai (qv 5) ao))) ao))) (nS (bq (sV T) T.qG hr (ai (aI (aI (qv 1) (qv 7) (λ_ _=>rfl)) aj (λ_ _=>rfl)) (ai (cR (ai (qv 4) (ai (qv 5) ao))) ao)))))) (av (aD gh)) aO)))
   (aq (bD (PW.pt (hU (dS (Aj hr.GP) Ak (qv 6) (ff ao)) (hU (dS (iX hr.units) l_ (aI (aM 6 aj) aj (λ_ _=>rfl)) (qv 4)) (jZ (dS (iX hr.units) l_ (aI (aI (qv 6) (xl aj) (λ_ _=>rfl)) aj (λ_ _=>rfl)) (qv 5)))))) (av (aD gh)) aO)
   (av (bD (dJ (bL (sm rfl) BL (by rfl) T.Gh BM (ai (kB (N':=["_law_j","_law_mine"]) (cap:=[af,ae 6]) (iQ (sc:=az (top 48)) (NN:=["_law_sides","_law_found","_law_paper","_law_k","_law_a","_law_b","_law_mine","_law_j"]) rfl rfl rfl (by decide +kernel) (by decide +kernel) (by decide +kernel) (by decide +kernel)) rfl (yn (by rfl) T.dX (ai aj (ai (lA T.eD (qv 6)) ao))) (λ_ _ _ _=>(dR (i:=0) (show adE (["_law_j","_law_mine"]:List Str)by decide +kernel) rfl (adA rfl))) (λ_ _ _ _=>eS) (λ_ _ _ _=>(e_ (iX hr.units) l_ (aI (aI (qv 1) (ax bP bR (qv 0) aj) (λ_ _=>rfl)) aj (λ_ _=>rfl)) (aI (aI (qv 1) (qv 0) (λ_ _=>rfl)) aj (λ_ _=>rfl)) (gi _)))) ao))) (av (aD gh)) aO))))))))
   (av (aD gh)))
theorem j6:aL ["_law_script","_law_sides","_law_many","_law_k","_law_kept","_law_found","_law_paper","_law_row","_law_back"] ["_law_script"] (az (top 49)):=by walk_at "sc"
theorem QC(T:Txt K mg t):bE P w K mg base cU 10 t.Nl t.Cy ["_law_script"] (dq K (yH t.dB t.bj)):=by
 refine T.Nm.F.eA (n:=1) (m:=9) (B:=(Cc t.dB t.bj)) j6 rfl rfl (by decide) rfl λbr A outer s H E hr=>?_
 unfold Cc;exact(aq (cu 1 j6.nd (ff ao))
   (aq (cu 2 j6.nd (ax bT cE aj (bq (bo T) T.bB hr (ai (bq (uM T) T.qe hr (ai (ff (ai (bL (FQ rfl) Pm (by rfl) T.U_ Pn (ai (qv 0) ao)) ao)) (ai aj ao))) (ai aj ao)))))
   (aq (dZ aaK rfl (dC (by rfl) T.dX (ai (bL (Fb rfl) K6 (by rfl) T.Nn GA (ai (qv 2) (ai (bL (E_ rfl) K5 (by rfl) T.Gj Bw (ai aj (ai (ax bP bR (lA T.eD (qv 0)) aj) ao))) ao))) ao)) (iZ 3 j6.nd) (av (iW (tT acm acn jg kx (qv 1) (ai (bq (CI T) T.wI hr (ai (bq (uM T) T.qe hr (ai (qv 0) (ai (ax bT cE aj (qv 3)) ao))) (ai (qv 1) ao))) ao)))))
   (aq (cu 4 j6.nd (dN qR Dv (by rfl) T.iD gz (ai (qv 1) ao)))
   (aq (cu 5 j6.nd (bq (zu T) T.vE hr (ai (qv 1) ao)))
   (aq (cu 6 j6.nd (bq (w_ T) T.qd hr (ai (qv 1) ao)))
   (aq (bD (PW.pt (hU (iB (dJ (bL jW nW (by rfl) T.jy iO (ai (qv 5) (ai (tR (.ty "list") (sZ (v:=.ty "list") (by rfl) T.iD gz rfl) λ_ _ _=>.ty "list") ao))))) (hU (iB (dJ (bL jW nW (by rfl) T.jy iO (ai (qv 6) (ai (tR (.ty "list") (sZ (v:=.ty "list") (by rfl) T.iD gz rfl) λ_ _ _=>.ty "list") ao))))) (hU (dS (iX hr.units) l_ (lA T.eD (qv 6)) (lA T.eD (qv 5))) (jZ (dS (iX hr.units) O1 (qv 1) (qv 4))))))) (av (aD gh)) aO)
   (aq (dZ aaK rfl (kA (qv 6)) (dR (i:=7) j6.nd rfl (aex rfl)) (av (bD (PW.pt (hU (iB (dJ (bL jW nW (by rfl) T.jy iO (ai (qv 7) (ai (tR (.ty "list") (sZ (v:=.ty "list") (by rfl) T.iD gz rfl) λ_ _ _=>.ty "list") ao))))) (hU (dS (Aj hr.GP) Ak (qv 7) (ff ao)) (jZ (dJ (bL (sm rfl) BL (by rfl) T.Gh BM (ai (kB (N':=["_law_j","_law_row"]) (cap:=[af,ae 7]) (iQ (sc:=az (top 49)) (NN:=["_law_script","_law_sides","_law_many","_law_k","_law_kept","_law_found","_law_paper","_law_row","_law_back"]) rfl rfl rfl (by decide +kernel) (by decide +kernel) (by decide +kernel) (by decide +kernel)) rfl (yn (by rfl) T.dX (ai aj (ai (lA T.eD (qv 7)) ao))) (λ_ _ _ _=>(dR (i:=0) (show adE (["_law_j","_law_row"]:List Str)by decide +kernel) rfl (adA rfl))) (λ_ _ _ _=>eS) (λ_ _ _ _=>(e_ RY SK (aI (qv 1) (ax bP bR (qv 0) aj) (λ_ _=>rfl)) (aI (qv 1) (qv 0) (λ_ _=>rfl)) (gi _)))) ao))))))) (av (aD gh)) aO)))
   (aq (bD (PW.pt (hU (iB (dJ (bq (uQ T) T.nE hr (ai (qv 5) (ai (bq (xa T) T.qh hr (ai (qv 1) ao)) ao))))) (jZ (iB (dJ (bq (zB T) T.rO hr (ai (qv 1) (ai (qv 5) (ai (qv 6) ao))))))))) (av (aD gh)) aO)
   (aq (tU (i:=8) (N':=["_law_side"]) (cap:=[af]) (iQ (sc:=az (top 49)) (NN:=["_law_script","_law_sides","_law_many","_law_k","_law_kept","_law_found","_law_paper","_law_row","_law_back"]) rfl rfl rfl (by decide +kernel) (by decide +kernel) (by decide +kernel) (by decide +kernel)) rfl (Pp (by rfl) T.EK (ai (qv 1) ao)) (λ_ _ _ _=>(dR (i:=0) (show adE (["_law_side"]:List Str)by decide +kernel) rfl (adA rfl))) (λ_ _ _ _=>eS) (λ_ _ _ _=>(cR (ai (aM 0 aj) (ai (aM 0 aj) ao)))) j6.nd rfl (adA rfl) (by rfl))
   (av (aD (e_ (dj hr.units) O0 (bq (zu T) T.vE hr (ai (qv 8) ao)) (qv 5) (gi _))))))))))))))
end
variable{K:aaa}{mg:Str->Option aai}{od an:Option Addr}{lh:Array (Option aai)}
theorem eW{h:Heap}{x:Str}{i:Nat}{oc kV doc pm br ct:aai}(X:K.In h)(G:h.Ns acs mg)(a:aiR K acs x=ae (ae (.ref f)))
  (l:K.lookup f=ae ⟨oc,od,.func (abH x x (fR (top i)) (dP (top i)) (az (top i)) .none kV doc pm an br ct),lh⟩)(c:adD K br x=true)(k:abX K (.ref f)=true)
  (hb:∀(kV doc pm:aai) (an:Option Addr) (br ct:aai) (us:List aai),us.length=ps.length->bindArgs (abH x x (fR (top i)) (dP (top i)) (az (top i)) .none kV doc pm an br ct) ⟨us,[]⟩=pure (ps.zip us):=by walk_at "hb"):
  FD K mg x i ps f (abH x x (fR (top i)) (dP (top i)) (az (top i)) .none kV doc pm an br ct):=⟨Gw l c k,aiG X G a,(Gw l c k).binds hb⟩
theorem Va{x y:Str}{i j:Nat}{qs:List Str}{g:Addr}{d e:aaC}(a:FD K mg x i ps f d)(b:FD K mg y j qs g e)(h:y≠x):f≠g:=λz=>by
 obtain⟨oc,od,kV,doc,pm,an,br,ct,lh,rfl,l,c⟩:=a.F.ex;obtain⟨oc2,od2,kV2,abT,pm2,an2,abU,ct2,abV,rfl,l2,c2⟩:=b.F.ex;rw[z,l2]at l;exact IS h l
theorem Js{h:Heap}{td:Addr}{oc kV doc pm br ct tc:aai}{tdd:Option Addr}{tsl:Array (Option aai)}{tn:Nat}{tk:Tok}(X:K.In h)(G:h.Ns acs mg)(a:aiR K acs "spot" =ae (ae (.ref f)))
  (l:K.lookup f=ae ⟨oc,od,.func (abH "spot" "spot" (fR (top 3)) (dP (top 3)) (az (top 3)) (.ref td) kV doc pm an br ct),lh⟩)(c:adD K br "spot" =true)(k:abX K (.ref f)=true)(dl:K.lookup td=ae ⟨tc,tdd,.seq #[aeO 1 tk] tn,tsl⟩):
  FE K mg "spot" 3 ["x","y","w"] f (abH "spot" "spot" (fR (top 3)) (dP (top 3)) (az (top 3)) (.ref td) kV doc pm an br ct):=⟨Kz l c k,aiG X G a,λs us HF hl=>by
 obtain⟨_,_,_,rfl⟩:=Sy hl;exact BindsTo.of_defaults rfl (HF _ _ dl) rfl rfl rfl⟩
theorem tx{f0 f1 f2 f3 f4 f5 f6 f7 f8 f9 f10 f11 U9 f13 f14 f15 f16 f17 f18 f19 f20 f21 f22 f23 f24 f25 f26 f27 f28 f29 f30 f31 f32 f33 f34 f35 f36 f37 f38 f39 f40 f41 f42 f43:Addr}{d0 d1 d2 d3 d4 d5 d6 d7 d8 d9 d10 d11 d12 d13 d14 d15 d16 d17 d18 d19 d20 d21 d22 d23 d24 d25 d26 d27 d28 d29 d30 d31 d32 d33 d34 d35 d36 d37 d38 d39 d40 d41 d42 Yd:aaC}(T:Txt K mg ⟨f0,d0,f1,d1,f2,d2,f3,d3,f4,d4,f5,d5,f6,d6,f7,d7,f8,d8,f9,d9,f10,d10,f11,d11,U9,d12,f13,d13,f14,d14,f15,d15,f16,d16,f17,d17,f18,d18,f19,d19,f20,d20,f21,d21,f22,d22,f23,d23,f24,d24,f25,d25,f26,d26,f27,d27,f28,d28,f29,d29,f30,d30,f31,d31,f32,d32,f33,d33,f34,d34,f35,d35,f36,d36,f37,d37,f38,d38,f39,d39,f40,d40,f41,d41,f42,d42,f43,Yd⟩)(hb:(∀(s:aah) (v:aai),aha s Yd ⟨[v],[]⟩ [("_law_script",v)])):∃t,Txt K mg t/\(∀(s:aah) (v:aai),aha s t.Cy ⟨[v],[]⟩ [("_law_script",v)]):=⟨_,T,hb⟩
theorem walk{l:aik}{q:aaD}{loose:List Str}{XP:(Str->Option aai)->Heap->Prop}{YP:aa9->Heap->Prop}{d:DefRec}{K:Params->aaa}(hn:l.most=ae 63)(Kj:d.params.defaults=[])
  (hY:∀(w:aa9) (h:Heap),YP w h->(K w.params).In h)
  (F:∀(w:aa9) (mg:Str->Option aai) (fa:Addr) (h:Heap),(K w.params).In h->h.Ns acs mg->mg d.name=ae (.ref fa)->
   ∃fd:aaC,(∀(s:aah) (u:aai),aha s fd ⟨[u],[]⟩ [("_law_script",u)])/\∀base:Heap,(K w.params).In base->base.Ns acs mg->bE l.prog w (K w.params) mg base cU 10 fa fd ["_law_script"] (spT (K w.params) yH)):
  aiB q loose XP YP l.row.toRowW d [] (λf vs=>aix f vs):=
 L2.Km (n:=63) (k:=10) (x:="_law_script") (CX:=λ_=>cU) (sp:=λw=>spT (K w.params) yH) hn (by decide) Kj ⟨rfl,by decide,by decide⟩ hY F (λ_ _ a ns hl hO hS x y hn=>let ⟨_,h⟩:=Jq x y hn ns hl;OV hO hS h) λ_ _ _ _ _ z=>z
end dE
open PySem PySem.W PyProof.Rows
local macro_rules|`(tactic|walk_at "hb")=>`(tactic|(rintro _ _ _ _ _ _ (_|⟨_,_|⟨_,_|⟨_,_|⟨_,_⟩⟩⟩⟩) hl<;>first|rfl|(simp at hl)))
local macro_rules (kind:=Lean.Parser.Term.structInst)|stx=>do
 if (stx.find? λx=>x.isIdent&&x.getId.eraseMacroScopes==`globals).isSome then Lean.Macro.throwError "as a whole" else Lean.Macro.throwUnsupported
set_option maxRecDepth 100000 in
set_option maxHeartbeats 0 in
theorem PySem.Challenge.cw_sheetlay_k88_whole_sides_cut_exactly_holds : PySem.Challenge.rw_sheetlay_k88_whole_sides_cut_exactly.Holds := by
 w_on;o_law;k_head;(case hw=>w_witness2)
 k_fill
 refine dE.walk (l:=PySem.Challenge.rw_sheetlay_k88_whole_sides_cut_exactly) rfl rfl (λw h Y=>PySem.W.km_in_of Y) ?F
 case F=>
  intro w mg fa h KX G Kk;have TT:∃t,dE.Txt (L2.VV KX) mg t/\(∀(s:aah) (v:aai),aha s t.Cy ⟨[v],[]⟩ [("_law_script",v)]):=by
   dsimp only[L2.VV]
   refine' dE.tx ⟨dE.eW KX G ?_ ?_ ?_ ?_,dE.Js KX G ?_ ?_ ?_ ?_ ?_,dE.eW KX G ?_ ?_ ?_ ?_,dE.eW KX G ?_ ?_ ?_ ?_,dE.eW KX G ?_ ?_ ?_ ?_,dE.eW KX G ?_ ?_ ?_ ?_,dE.eW KX G ?_ ?_ ?_ ?_,dE.eW KX G ?_ ?_ ?_ ?_,dE.eW KX G ?_ ?_ ?_ ?_,dE.eW KX G ?_ ?_ ?_ ?_,dE.eW KX G ?_ ?_ ?_ ?_,dE.eW KX G ?_ ?_ ?_ ?_,dE.eW KX G ?_ ?_ ?_ ?_,dE.eW KX G ?_ ?_ ?_ ?_,dE.eW KX G ?_ ?_ ?_ ?_,dE.eW KX G ?_ ?_ ?_ ?_,dE.eW KX G ?_ ?_ ?_ ?_,dE.eW KX G ?_ ?_ ?_ ?_,dE.eW KX G ?_ ?_ ?_ ?_,dE.eW KX G ?_ ?_ ?_ ?_,dE.eW KX G ?_ ?_ ?_ ?_,dE.eW KX G ?_ ?_ ?_ ?_,dE.eW KX G ?_ ?_ ?_ ?_,dE.eW KX G ?_ ?_ ?_ ?_,dE.eW KX G ?_ ?_ ?_ ?_,dE.eW KX G ?_ ?_ ?_ ?_,dE.eW KX G ?_ ?_ ?_ ?_,dE.eW KX G ?_ ?_ ?_ ?_,dE.eW KX G ?_ ?_ ?_ ?_,dE.eW KX G ?_ ?_ ?_ ?_,dE.eW KX G ?_ ?_ ?_ ?_,dE.eW KX G ?_ ?_ ?_ ?_,dE.eW KX G ?_ ?_ ?_ ?_,dE.eW KX G ?_ ?_ ?_ ?_,dE.eW KX G ?_ ?_ ?_ ?_,dE.eW KX G ?_ ?_ ?_ ?_,dE.eW KX G ?_ ?_ ?_ ?_,dE.eW KX G ?_ ?_ ?_ ?_,dE.eW KX G ?_ ?_ ?_ ?_,dE.eW KX G ?_ ?_ ?_ ?_,dE.eW KX G ?_ ?_ ?_ ?_,dE.eW KX G ?_ ?_ ?_ ?_,dE.eW KX G ?_ ?_ ?_ ?_,dE.eW KX G ?_ ?_ ?_ ?_,aaY KX G ?_,aaY KX G ?_,aaY KX G ?_,aaY KX G ?_,aaY KX G ?_,aaY KX G ?_,aaY KX G ?_,aaY KX G ?_,aaY KX G ?_,aaY KX G ?_,aaY KX G ?_,aaY KX G ?_,aaY KX G ?_,aaY KX G ?_,aaY KX G ?_⟩ (λs v=>.of_eq rfl)
   all_goals try dsimp only
   any_goals k_is
  obtain⟨t,T,hb⟩:=TT;have fm:=dE.Va T.fE T.iz (by decide);have e0:=Kk.symm.trans T.Nm.m;cases e0;exact⟨_,hb,λbase _ _=>(dE.QC T).imp λ_ _ _ _ q=>q _ _ fm⟩
